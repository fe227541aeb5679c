import PyProof.Rows.All
import Wide.All
import OpenK.AllK
import Wide.FinOn
import PyProof.EqAt
import PyProof.EqKinds
import PyProof.TupleCall
import PyProof.AttrMiss
import PyProof.IsiH_list
import PyProof.Rows.SetFrom
import KE.KDictOf
import KE.KTab
import PyProof.AutoListH
import KE.KSortTup
import KE.KItemsList
import KE.KEqDict
import KE.KIntText
import Lean
import PyProof.RulesRaise
import PyProof.RulesTry
import KE.KTryDeep
import KE.KTryMore
import KE.KTryOn
import KE.TryInHelper
import KE.TryLedger
import PyProof.ExcArgsOwn
import PyProof.ExcAttrAll.ValueError
import KE.KIsAll
import PyProof.ExcBaseAll.ValueError
import PyProof.InstStoreFacts
import PyProof.ExcInit
import PyProof.SeqI3
import PyProof.ConsumeWalk
import PyProof.Draws
import PyProof.EnumMake
import PySem.Challenge.RW_callboard_k62_clashes
set_option genInjectivity false
set_option genSizeOfSpec false
set_option genSizeOf false
set_option Elab.async false
set_option linter.all false
set_option maxRecDepth 100000
set_option maxHeartbeats 4000000
noncomputable section
open LawfulBEq renaming eq_of_beq->dL
open List renaming length_map->cZ,getElem?_eq_some_iff->de,length_append->df,getElem?_eq_getElem->dg,mem_singleton->dv,mem_cons->dw,size_toArray->dD,mem_cons_of_mem->dF,getElem?_map->dG,not_mem_nil->dH,mem_map->dJ,length_singleton->dM,mem_cons_self->dP,map_append->dQ,length_nil->dR,mem_append->dX,nodup_cons->dZ,map_cons->d9,nil_append->eB,length_cons->eC,append_nil->eE,length_range->eF,map_map->eG,mem_append_right->eM,replicate_succ->eN,nodup_nil->eO,length_take->eR,lookup_cons->eS,all_eq_true->eU,append_assoc->eV,take_length->e9,getElem?_append_right->fi,length_modify->fj,getElem?_append_left->fk,all_cons->fC,length_pos_iff->fF,mem_append_left->fK,getElem?_set_ne->fL,getElem?_set_self->fM,length_filter_le->fP,mem_filter->fQ,find?_cons->fR,filter_cons_of_neg->fT,mem_of_getElem?->fU,cons_ne_nil->fW,flatten_cons->fY,foldl_cons->gb,filterMap_cons->gc,filter_sublist->gf,any_cons->gh,exists_cons_of_ne_nil->gi,length_drop->gj,mem_of_find?_eq_some->gm,getLast?_eq_none_iff->gp,filter_nil->gv,nodup_append->gx,take_add_one->gy,length_eq_zero_iff->gA,filter_cons_of_pos->gB,mem_range->gD,any_eq_true->gG,filter_append->gK,getD_eq_getElem?_getD->gM,getLastD_eq_getLast?->gR,filter_cons->gT,getElem_of_mem->gW,map_congr_left->gX,filter_map->hJ,find?_eq_none->hU,findIdx?_map->ia,getElem?_eq_none->ic,getElem_mem->ii,mem_of_mem_take->ik,mem_of_getLast?->il,dropLast_subset->im,length_set->iu,drop_eq_getElem_cons->iw,contains_cons->iE,getElem?_cons_zero->iJ,take_of_length_le->iL,findIdx?_eq_some_iff_getElem->iM,length_replicate->iO,getElem?_toArray->iP,map_nil->iU,mem_of_mem_drop->iY,getElem?_modify->iZ,getElem?_range->jb,filter_eq_self->jd,map_id->jh,getElem_range->jn,pairwise_cons->jo,map_drop->ju,flatMap_cons->jB,sublist_append_right->jE,pairwise_iff_getElem->jF,getLast?_eq_getElem?->jG,findIdx?_eq_none_iff->jI,drop_length->jP,set_set->jR,any_map->jU,eq_of_mem_replicate->jV,getElem?_replicate->jW,of_mem_zip->jY,forIn_cons->jZ,range_succ->j7,forIn_nil->ke,drop_zero->ko,set_append_right->kt,map_take->kF,modify_eq_self->kM,flatMap_append->kN,mem_filterMap->kT,set_cons_succ->lj,any_eq_false->lz,foldl_append->lC,getElem_inj->lM,zipIdx_cons->lX,getElem_map->l8,flatMap_nil->ma,zipIdx_nil->mi,any_append->mj,find?_some->mq,all_map->mB,map_set->mC
open PySem renaming wpAny_bind->c9,wpAny_pure->dC,sizeLine_eq->dS,wpAny_mono->eJ,wpAny_field->eW,wpAny_holding->fu,wpAny_callSpecial?_slot->fz,wpAny_truthy_bool->fA,wpAny_newObj_type->fN,wpAny_call_entry->fV,wpAny_seqItems->fZ,wpAny_Call_Name_kw->gk,codeAny_mono->gq,wpAny_setField->gF,wpAny_setField_rec->gJ,wpAny_passesOwn->gL,mem_of_lookup->gU,wpAny_execs_nil->gZ,codeAny_builtin->g9,wpAny_pyIter_list->hZ,wpAny_loadPart_at->h9,wpAny_standAt->io,wpAny_pyIter_tuple->iC,wpAny_call->iI,wpAny_pyIter_enum->iK,plainObj_wpAny_Assign_Attribute->iQ,call_meets->iT,codeAny_call_builtin->iV,wpAny_updateSeq_pair->iW,isSubtype_type->jf,tupleKind_room_in1->jj,slot_dict_contains->jl,wpAny_letOwnedTupleGo_enum->jr,wpAny_onRaise->jt,wpAny_sequenceKey->jw,wpAny_rule->jC,wpAny_execs_cons->jJ,wpAny_typeOf->jM,wpAny_comprehension_free->jO,codeAny_of_tree->j4,wpAny_specialOf->j5,builtinLookup_eq_fast->kg,weight_type_call_type->kh,getitemInPython_of_ne->kl,wpAny_letTemporaryGo->ky,plainId_quiet->kE,wpAny_isSubtype_exc->kI,concat_meets->kU,seqIndex_neg->kX,wpAny_assign_Name->lu,wpAny_Assign_Name->ly,slot_list_getitem->lB,slot_dict_getitem->lE,seqIndex_of->lJ,wpAny_letGo->lK,wpAny_pyHash_str->lL,wpAny_lookBehind->lN,pastItsLine_dict->lO,noFill_tuple_add->lQ,check_set_init_1->lV,wpAny_pyIter_zip->lZ,wpAny_Name->me,typeIs_int->mf,Addr->Ch,sizeLine->pi,wpAny->Tk,model->Tl,starEach->zn,bootBuiltins->Go,Expr->No,Heap->wp,eval->Op,compareOp->Ps,keywordEach->Rs,FuncData->At,mainGlobals->wv,backTo->Ix,attributeBase->xz,holding->sB,Stmt->ZB,swapsWith->TD,backToKw->wE,rawInt->sK,IsPair->IN,assignEach->wP,binaryOp->wS,NameKind->wT,behindInMarks->AT,foldedSetIterable->XV,sysModules->TW,getMethod->o0,Keyword->W',ExcBaseFacts->X',cLine->Y',scanBound->XXa,excClassObj->XXb,standAt->XXc,Scope->XXd,getItem->XXe,sliceBounds->XXf,callWith->XXg,letOwnedTupleGo->XXh,codeAny->XXi,IsZip->XXj,Operator->XYa
def dh:=@if_neg
def dz:=@if_pos
def d6:=@decide_eq_true
def eL:=@decide_eq_true_eq
def eQ:=@or_false
def eY:=@decide_eq_false
def eZ:=@congrArg
def fv:=@beq_self_eq_true
def fB:=@beq_iff_eq
def fO:=@of_decide_eq_true
def fS:=@not_or
def gC:=@beq_eq_false_iff_ne
def je:=@if_true
open PySem.Heap renaming get?_push_of_some->dq,lt_size->dI,get?_push_size->dN,size_push->ft,get?_update_self->fH,get?_update_other->gg,get?_none_of_le->gQ,get?_update_ne->kH
open Option.some renaming inj->dA,injEq->jy
open Nat renaming le_refl->dB,ne_of_lt->dU,lt_of_lt_of_le->dY,le_trans->eA,zero_le->eD,lt_irrefl->fm,lt_succ_self->fD,lt_succ_of_lt->gw,ne_of_gt->gH,le_succ->gS,sub_self->ie,succ_le_succ->ij,lt_of_le_of_lt->iH,le_add_right->iN,le_succ_of_le->jz,lt_trans->jN,zero_add->jQ,mul_le_mul->km,le_of_lt->kS,succ_mul->kY,sub_zero->k9,succ_ne_self->lW,min_eq_left->mo,le_of_eq->mz,succ_pos->mD
open Bool renaming false_ne_true->dE,eq_false_iff->dO,and_eq_true->eh,true_and->eP,false_and->fh,false_or->fX,eq_iff_iff->gu,not_eq_true'->gP,or_eq_true->hG,true_or->ib,not_eq_false->jA,or_false->kD,or_true->lb,beq_comm->mx,true->pc,false->Uf
open Ne renaming symm->dW
open Int renaming eq_ofNat_of_zero_le->eI,emod_lt_of_pos->eX,emod_nonneg->fg,toNat_natCast->gO,mul_le_mul_of_nonneg_left->i9,emod_add_mul_ediv->kr,zero_add->lq
open PySem.PassesOwn renaming never->eK
open PySem.F renaming called_set->fE,slot_tuple_iterator_next->gN,slot_list_getattribute->iy,slot_zip_next->iX,args_tuple_iterator_next_1->jg,entry_tuple_iterator_next->jm,slot_dict_getitem->jD,args_tuple_add_2->jL,store_ValueError->jT,entry_tuple_add->jX,slot_tuple_add->j9,excBase_ValueError->kz,entry_type_call->lD,args_zip_next_1->lG,typeCall_set_1->lT,entry_set_init->lU,entry_zip_next->lY,slot_int_rmul->mh
open PyProof.Rows renaming callWith_type1->fG,slot_tuple_getitem->fJ,slot_tupleiter_next->ir,SetOf_congr->iA,callWith_builtin1->iS,setObjOf_fresh->jk,subscriptTail_builtinR->kc,entry_tupleiter_next->kA,entry_tuple_getitem->kG,args_tupleiter_next->kK,args_tuple_getitem->kW,envOfC->xL,AllBare->XXk
open PySem.W renaming kia_one->gz,callWith_K->iR,methodCall_KW->j6,plainGet_of->kB,looks_clsIn->kC,kitx_list->lH,cellsFrom_some->lP,looks_findIn->mv
open PyProof.Rows.F renaming plain_set_update_loop->gI,entry_set_update_loop->iz
open List.cons renaming inj->gY
open Option renaming map_eq_some_iff->hW,isSome_map->jx,isSome_iff_exists->jK,map_some->j3,getD_none->lR,bind_some->l0,some->Fa,none->Db
open PySem.Around renaming under_plainId->ig,under_plain->kZ
open Array renaming getElem?_setIfInBounds_self_of_lt->ip,length_toList->ja,toList_append->jc,size_setIfInBounds->jS,mem_toList_iff->ku,append_assoc->kQ
open PySem.Heap.SameBut renaming update->iq
open PySem.Code renaming quiet_builtin->iB
open PySem.Obj renaming data_mapFields->iD,isFreed_of_fields->kq,cls_mapFields->lF
open PySem.AutoSeq1 renaming wpAny_loadPart'->iF
open List.Nodup renaming sublist->iG
open PySem.Calls renaming spliced_cons->ji,Name_function_global->jq,spliced_nil->jv
open PySem.Paired renaming length->jp,snoc->mF
open Sum.inr renaming inj->j8
open PySem.Walks renaming list->kx
open PySem.SeqAt.EqAt renaming int_str->kO,str_int->kP
open PySem.Heap.Ns1 renaming of_empty->lA
open Eq renaming symm->mw
open PySem.W.Looks renaming here->my
open PySem.Heap.FunFrames renaming of_keeps->mE
open PySem.Moved renaming trans->mG
open PySem.Heap.IsSliceOf renaming new->mH
abbrev qo:=PySem.W.Frag
local macro_rules | `(tactic| walk_at "l") => `(tactic| (intro _ _ _ h; repeat (first | (obtain ⟨e, _⟩ := h; subst e; rfl; done) | (cases h; rename_i h))))
local macro_rules | `(tactic| walk_at "m") => `(tactic| (intro _ _ _ _ h; repeat (first | (obtain ⟨e, _⟩ := h; subst e; rfl; done) | (cases h; rename_i h))))
abbrev Vl:=PySem.Value
abbrev Sd:=PySem.Shared
abbrev Pg:=PySem.Program
abbrev Ar:=PySem.Around
theorem Z'{α:Sort _}{a:α}:a=a:=rfl
abbrev Wo:=PySem.World
abbrev T0(α:Type _):=List α
abbrev QQQ:=List PySem.Str
abbrev QQX:=PySem.Value->PySem.Shared->Prop
abbrev QQY:=List (PySem.Addr×PySem.Obj)
abbrev QQZ:=PySem.Str->Option PySem.Value
abbrev QXQ:=List PySem.Addr
section
open PySem PySem.Spec PyProof.Rows
namespace L2
def x5{α:Sort u}{β:Sort v}{p q r:α->β->Prop}{C:Prop}(h:∃a b,p a b/\q a b/\r a b)(f:∀a b,p a b->q a b->r a b->C):C:=by obtain⟨a,b,h1,h2,h3⟩:=h;exact f a b h1 h2 h3
abbrev rq:=Sum Int Str
noncomputable def DZ:rq->Vl->Bool
 | .inl k,v=>Value.isInt k v
 | .inr x,v=>Value.isStrOf x v
noncomputable def VN(w:Wo):rq->Int
 | .inl k=>hashInt k
 | .inr x=>hashStr w x
def su:∀{k:rq} {v:Vl},DZ k v=pc->(∃i t,k=Sum.inl i/\v=Value.int i t)\/(∃x t,k=Sum.inr x/\v=Value.str x t)
 | .inl i,v,h=>by obtain⟨t,e⟩:=Value.isInt_shape (k:=i) (v:=v) h;exact .inl ⟨i,t,Z',e⟩
 | .inr x,v,h=>by obtain⟨t,e⟩:=Value.isStrOf_shape (x:=x) (v:=v) h;exact .inr ⟨x,t,Z',e⟩
def Kw(i:Int)(t:Tok):DZ (.inl i) (.int i t)=pc:=by simp[DZ,Value.isInt]
def Kt(x:Str)(t:Tok):DZ (.inr x) (.str x t)=pc:=by simp[DZ,Value.isStrOf]
def Rr(a b:Int):decide ((Sum.inl a:rq)=Sum.inl b)=(a==b):=by
 by_cases e:a=b
 .subst e;simp
 .have h:¬(Sum.inl a:rq)=Sum.inl b:=λq=>e (Sum.inl.inj q);rw[eY h];exact(gC.mpr e).symm
def Rg(a b:Str):decide ((Sum.inr a:rq)=Sum.inr b)=decide (a=b):=by
 by_cases e:a=b
 .subst e;simp
 .have h:¬(Sum.inr a:rq)=Sum.inr b:=λq=>e (j8 q);rw[eY h,eY e]
def SJ(a:Int)(b:Str):decide ((Sum.inl a:rq)=Sum.inr b)=Uf:=eY (λq=>nomatch q)
def Sn(a:Str)(b:Int):decide ((Sum.inr a:rq)=Sum.inl b)=Uf:=eY (λq=>nomatch q)
noncomputable def rL(prog:Pg)(w:Wo):PySem.KeyKind prog w rq where
 is:=DZ
 hash:=VN w
 inj:=λv a b ha hb=>by
  rcases su ha with⟨i,t,rfl,rfl⟩|⟨x,t,rfl,rfl⟩
  .rcases su hb with⟨j,u,rfl,e⟩|⟨y,u,rfl,e⟩
   .injection e with e1 _;rw[e1]
   .exact nomatch e
  .rcases su hb with⟨j,u,rfl,e⟩|⟨y,u,rfl,e⟩
   .exact nomatch e
   .injection e with e1 _;rw[e1]
 byValue:=λk v h=>by rcases su h with⟨i,t,rfl,rfl⟩|⟨x,t,rfl,rfl⟩<;>rfl
 pyHash:=λhv h=>by
  rcases su hv with⟨i,t,rfl,rfl⟩|⟨x,t,rfl,rfl⟩
  .exact wpAny_pyHash_int h
  .exact lL h
 eqBool:=λhu hv h=>by
  rcases su hu with⟨i,t,rfl,rfl⟩|⟨x,t,rfl,rfl⟩
  .rcases su hv with⟨j,u,rfl,rfl⟩|⟨y,u,rfl,rfl⟩
   .rw[Rr]at h;exact wpAny_eqBool_int h
   .rw[SJ]at h;exact kO i t y u _ _ _ _ h
  .rcases su hv with⟨j,u,rfl,rfl⟩|⟨y,u,rfl,rfl⟩
   .rw[Sn]at h;exact kP x t j u _ _ _ _ h
   .rw[Rg]at h;exact wpAny_eqBool_str h
 «strs»:=λk x t v h=>by
  rcases su h with⟨i,u,rfl,e⟩|⟨y,u,rfl,e⟩
  .exact nomatch e
  .injection e with e1 _
   subst e1;cases v<;>rfl
def G8(prog:Pg)(w:Wo)(i:Int)(t:Tok):(rL prog w).is (.inl i) (.int i t)=pc:=Kw i t
def Aw(prog:Pg)(w:Wo)(x:Str)(t:Tok):(rL prog w).is (.inr x) (.str x t)=pc:=Kt x t
inductive V where
 | mP|bl (b:Bool)|int (i:Int)|str (x:Str)|byt (b:Array UInt8)|flt (b:UInt64)|ref (a:Ch)|ty (n:String)
 deriving DecidableEq
def qN:V->Vl->Prop
 | .mP,u=>u=Value.none
 | .bl b,u=>u=Value.bool b
 | .int i,u=>∃t,u=Value.int i t
 | .str x,u=>∃t,u=Value.str x t
 | .byt b,u=>∃t,u=Value.bytes b t
 | .flt b,u=>∃t,u=Value.float b t
 | .ref a,u=>u=Value.ref a
 | .ty n,u=>u=Value.type n
abbrev qD:T0 V->T0 Vl->Prop:=Paired qN
def qD.length(r:qD xs us):xs.length=us.length:=jp r
theorem qD.get:∀{xs:T0 V} {us:T0 Vl} {i:Nat} {x:V},qD xs us->xs[i]?=Fa x->∃u,us[i]?=Fa u/\qN x u
 | _,_,_,_,.nil,e=>by simp at e
 | _,_,0,_,.cons r _,e=>by simp at e;subst e;exact⟨_,Z',r⟩
 | _,_,i+1,x,.cons _ t,e=>by obtain⟨u,h1,h2⟩:=qD.get (i:=i) (x:=x) t (by simpa using e);exact⟨u,by simpa using h1,h2⟩
theorem qD.set(r:qN x u):∀{xs:T0 V} {us:T0 Vl} (i:Nat),qD xs us->qD (xs.set i x) (us.set i u)
 | _,_,_,.nil=>.nil
 | _,_,0,.cons _ t=>.cons r t
 | _,_,i+1,.cons q t=>.cons q (qD.set r i t)
theorem qD.append:∀{xs ys:T0 V} {us ws:T0 Vl},qD xs us->qD ys ws->qD (xs++ys) (us++ws)
 | _,_,_,_,.nil,s=>s
 | _,_,_,_,.cons r t,s=>.cons r (qD.append t s)
theorem qD.take:∀{xs:T0 V} {us:T0 Vl} (n:Nat),qD xs us->qD (xs.take n) (us.take n)
 | _,_,0,_=>.nil
 | _,_,_+1,.nil=>.nil
 | _,_,n+1,.cons r t=>.cons r (qD.take n t)
theorem qD.drop:∀{xs:T0 V} {us:T0 Vl} (n:Nat),qD xs us->qD (xs.drop n) (us.drop n)
 | _,_,0,r=>r
 | _,_,_+1,.nil=>.nil
 | _,_,n+1,.cons _ t=>qD.drop n t
def yq:Option V->Option Vl->Prop
 | some v,Fa u=>qN v u
 | none,none=>True
 | _,_=>False
def KV{κ:Type}:T0 (κ×V)->T0 (κ×Vl)->Prop:=Paired λ(p:κ×V) (q:κ×Vl)=>p.1=q.1/\qN p.2 q.2
noncomputable def kV:rq->V
 | .inl i=>.int i
 | .inr x=>.str x
inductive HO where
 | lst (xs:List V)
 | tup (xs:List V)
 | dK (kvs:List (rq×V))|dT (kvs:List (List rq×V))
 | set (S:Int->Bool) (n:Nat)
 | ins (C dx:Ch) (fs:List (Str×V))
 | own (x:Ch)
 | xd (fs:List (Str×V))
 | met (f x:Ch)
 | rng (lo hi:Int)
 | frz (o:Obj) (u:HO)
 | tbl (ps:Array Vl)
 | ext (φ:wp->Prop)
abbrev Hp:=Ch->Option HO
noncomputable def upd(H:Hp)(a:Ch)(o:HO):Hp:=λb=>if b=a then Fa o else H b
def qc:upd H a o a=Fa o:=by unfold upd;rw[dz Z']
def pV{a b:Ch}(h:b≠a):upd H a o b=H b:=by unfold upd;rw[dh h]
def Qx:upd (upd H a o) a u=upd H a u:=by funext b;unfold upd;split<;>rfl
def UT{H:Hp}{a b:Ch}{o u:HO}(h:H a=Fa o)(h':H b=Fa u)(d:o≠u):a≠b:=by intro e;subst e;rw[h]at h';exact d (dA h')
def qR{H:Hp}{a b:Ch}{o:HO}(h:H a=Fa o)(h':H b=Db):a≠b:=by intro e;subst e;rw[h]at h';cases h'
section
variable (P:Pg)(w:Wo)
def Ek(h:wp)(a:Ch)(its:Array Vl):Prop:=∃o,h.get? a=Fa o/\o.cls=.type "tuple"/\(∃n,o.data=.seq its n)/\o.dict=Db
def sA(H:Hp)(h:wp)(a:Ch):HO->Prop
 | .lst xs=>xs.length<=pi/\∃(its:T0 Vl) (n:Nat),qD xs its/\h.get? a=Fa {cls:=.type "list",data:=.seq its.toArray n}
 | .tup xs=>xs.length<=pi/\∃its:T0 Vl,qD xs its/\Ek h a its.toArray
 | .dK kvs=>kvs.length<=pi/\(a==TW)=Uf/\∃vs,KV kvs vs/\h.DictOf (rL P w) a vs
 | .dT kvs=>kvs.length<=pi/\(a==TW)=Uf/\∃xs:T0 (List rq×Ch×Vl),Paired (λ(p:List rq×V) (q:List rq×Ch×Vl)=>p.1=q.1/\H q.2.1=Fa (.tup (p.1.map kV))/\qN p.2 q.2.2) kvs xs/\
   ∃o es ep,h.get? a=Fa o/\o.ExactDict/\o.data=.dict es ep/\es.toList=xs.map (entryOfKey (tupleKind (rL P w)))/\(xs.map (·.1)).Nodup
 | .set S n=>h.SetOf (intKind P w) a S n
 | .ins C dx fs=>H dx=Fa (.own a)/\fs.length<=1000/\dx≠a/\h.get? a=Fa (W.instObj C dx)/\
   ∃mA,h.Ns1 dx mA/\(∀f,yq (fs.lookup f) (mA f))/\PySem.Within mA (fs.map (·.1))
 | .own _=>∃o,h.get? a=Fa o
 | .xd fs=>∃mA,h.Ns1 a mA/\∀f,yq (fs.lookup f) (mA f)
 | .rng lo hi=>∃t u v,h.get? a=Fa {cls:=.type "range",data:=.fields #[.int lo t,.int hi u,.int 1 v]}
 | .frz o u=>h.get? a=Fa o/\sA H h a u
 | .tbl ps=>h.get? a=Fa {cls:=.none,data:=.fields ps}
 | .met f x=>h.get? a=Fa (W.methodObj (.ref f) (.ref x))
 | .ext φ=>φ h/\(∃o,h.get? a=Fa o)/\∀h1 h2:wp,φ h1->(∀o,h1.get? a=Fa o->h2.get? a=Fa o)->φ h2
def yr(H:Hp)(h:wp):Prop:=∀a o,H a=Fa o->sA P w H h a o
end
variable {H H':Hp}{h h':wp}
section
variable {P:Pg}{w:Wo}{a:Ch}{o:HO}
def Ek.is(x:Ek h a its):IsTup h a its:=let⟨o,e,c,d,_⟩:=x;⟨o,e,c,d⟩
def Ek.new(h:wp)(Xb:Array Vl):Ek (h.push {cls:=.type "tuple",data:=.seq Xb}) h.objs.size Xb:=⟨_,dN _ Z',Z',⟨_,Z'⟩,Z'⟩
def sA.lt(x:sA P w H h a o):a<h.objs.size:=by
 cases o with
 | lst xs=>obtain⟨_,_,_,_,e⟩:=x;exact dI e
 | tup xs=>obtain⟨_,_,_,_,e,_⟩:=x;exact dI e
 | dK kvs=>obtain⟨_,_,_,_,o,_,_,e,_⟩:=x;exact dI e
 | dT kvs=>obtain⟨_,_,_,_,o,_,_,e,_⟩:=x;exact dI e
 | set S n=>obtain⟨o,_,_,_,e,_⟩:=x;exact dI e
 | ins C dx fs=>obtain⟨_,_,_,e,_⟩:=x;exact dI e
 | own y=>obtain⟨_,e⟩:=x;exact dI e
 | xd fs=>obtain⟨_,⟨_,_,_,e,_⟩,_⟩:=x;exact dI e
 | rng lo hi=>obtain⟨_,_,_,e⟩:=x;exact dI e
 | frz ob u=>obtain⟨e,_⟩:=x;exact dI e
 | tbl ps=>exact dI (show h.get? a=Fa _ from x)
 | met f y=>exact dI (show h.get? a=Fa _ from x)
 | ext φ=>obtain⟨_,⟨_,e⟩,_⟩:=x;exact dI e
theorem Paired.oF{α β:Type}{F G:α->β->Prop}:∀{l₁:List α} {l₂:List β},Paired F l₁ l₂->(∀a b,F a b->G a b)->Paired G l₁ l₂
 | _,_,.nil,_=>.nil
 | _,_,.cons r t,f=>.cons (f _ _ r) (Paired.oF t f)
def sA.nH(x:sA P w H h a o)(k:∀b u,(b=a\/H b=Fa (.own a))->h.get? b=Fa u->h'.get? b=Fa u) (ho:∀b,H b=Fa (.own a)->H' b=Fa (.own a)) (ht:∀b xs,H b=Fa (.tup xs)->H' b=Fa (.tup xs)):sA P w H' h' a o:=by
 induction o with
 | lst xs=>obtain⟨z,its,n,r,e⟩:=x;exact⟨z,its,n,r,k _ _ (.inl Z') e⟩
 | tup xs=>obtain⟨z,its,r,ob,e,c⟩:=x;exact⟨z,its,r,ob,k _ _ (.inl Z') e,c⟩
 | dK kvs=>obtain⟨z,y,vs,r,ob,es,ep,e,c⟩:=x;exact⟨z,y,vs,r,ob,es,ep,k _ _ (.inl Z') e,c⟩
 | dT kvs=>obtain⟨z,y,xs,r,ob,es,ep,e,c⟩:=x;exact⟨z,y,xs,Paired.oF r λp q z=>⟨z.1,ht _ _ z.2.1,z.2.2⟩,ob,es,ep,k _ _ (.inl Z') e,c⟩
 | set S n=>obtain⟨ob,es,ep,t,e,c⟩:=x;exact⟨ob,es,ep,t,k _ _ (.inl Z') e,c⟩
 | ins C dx fs=>obtain⟨d,z,ne,e,mA,⟨od,es,ep,e2,c⟩,r⟩:=x;exact⟨ho _ d,z,ne,k _ _ (.inl Z') e,mA,⟨od,es,ep,k _ _ (.inr d) e2,c⟩,r⟩
 | own y=>obtain⟨ob,e⟩:=x;exact⟨ob,k _ _ (.inl Z') e⟩
 | xd fs=>obtain⟨mA,⟨od,es,ep,e,c⟩,r⟩:=x;exact⟨mA,⟨od,es,ep,k _ _ (.inl Z') e,c⟩,r⟩
 | rng lo hi=>obtain⟨t,u,v,e⟩:=x;exact⟨t,u,v,k _ _ (.inl Z') e⟩
 | frz ob u ih=>obtain⟨e,q⟩:=x;exact⟨k _ _ (.inl Z') e,ih q⟩
 | tbl ps=>have e:h.get? a=Fa {cls:=.none,data:=.fields ps}:=x;show h'.get? a=Fa {cls:=.none,data:=.fields ps};exact k a _ (.inl Z') e
 | met f y=>have e:h.get? a=Fa (W.methodObj (.ref f) (.ref y)):=x;show h'.get? a=Fa (W.methodObj (.ref f) (.ref y));exact k a _ (.inl Z') e
 | ext φ=>obtain⟨p,⟨o,e⟩,st⟩:=x;exact⟨st _ _ p λo q=>k _ _ (.inl Z') q,⟨o,k _ _ (.inl Z') e⟩,st⟩
def yr.lt(x:yr P w H h)(e:H a=Fa o):a<h.objs.size:=(x a o e).lt
def yr.fresh(x:yr P w H h)(e:h.objs.size<=a):H a=Db:=by
 cases q:H a with
 | none=>rfl
 | some u=>exact absurd (dY (x.lt q) e) (fm _)
def yr.kept(x:yr P w H h)(k:∀b u,h.get? b=Fa u->h'.get? b=Fa u):yr P w H h':=λa o e=>(x a o e).nH (λb u _ q=>k b u q) (λ_ q=>q) λ_ _ q=>q
def yr.laid(x:yr P w H h)(k:∀b u,h.get? b=Fa u->h'.get? b=Fa u)(hp:h.objs.size<=a)(new:sA P w (upd H a o) h' a o):yr P w (upd H a o) h':=λb u e=>by
 have hn:=x.fresh hp;by_cases hb:b=a
 .subst hb;rw[qc]at e;cases e;exact new
 .rw[pV hb]at e;exact(x b u e).nH (λc v _ q=>k c v q) (λc q=>by rw[pV (qR q hn)];exact q) λc xs q=>by rw[pV (qR q hn)];exact q
end
def Rd(H:Hp)(a:Ch)(u:HO):Prop:=H a=Fa u\/∃o,H a=Fa (.frz o u)
def Rd.ok(r:Rd H a u)(x:yr P w H h):sA P w H h a u:=by
 rcases r with r|⟨o,r⟩
 .exact x a u r
 .obtain⟨_,q⟩:=x a _ r;exact q
def TR:Option HO->Prop
 | some (.lst _)=>True
 | some (.dK _)=>True
 | some (.dT _)=>True
 | some (.set _ _)=>True
 | some (.ins _ _ _)=>True
 | some (.ext _)=>True
 | _=>False
variable {o':HO}
section
variable {P:Pg}{w:Wo}{x e:Ch}
def yr.write(ok:yr P w H h)(mu:TR (H x))(he:e=x\/H e=Fa (.own x))(k:∀b u,b≠e->h.get? b=Fa u->h'.get? b=Fa u)(heo:∃u,h'.get? e=Fa u) (new:sA P w (upd H x o') h' x o'):yr P w (upd H x o') h':=λb u q=>by
 have nown:∀c y,H c=Fa (.own y)->c≠x:=λc y r z=>by subst z;rw[r]at mu;exact mu
 have ntup:∀c xs,H c=Fa (.tup xs)->c≠x:=λc xs r z=>by subst z;rw[r]at mu;exact mu
 by_cases hb:b=x
 .subst hb;rw[qc]at q;cases q;exact new
 .rw[pV hb]at q;by_cases hbe:b=e
  .have q':H b=Fa (.own x):=by
    rcases he with z|z
    .exact absurd (hbe.trans z) hb
    .rw[hbe];exact z
   rw[q]at q';cases q';obtain⟨v,hv⟩:=heo;exact⟨v,by rw[hbe];exact hv⟩
  .refine(ok b u q).nH (λc v hc r=>k c v ?_ r) (λc r=>by rw[pV (nown c b r)];exact r) λc xs r=>by rw[pV (ntup c xs r)];exact r
   rcases hc with rfl|hc
   .exact hbe
   .rintro rfl
    rcases he with z|z
    .exact nown c b hc z
    .rw[hc]at z;cases z;exact hb Z'
end
structure Un(fs ex:QXQ)(H H':Hp)(h h':wp):Prop where
 keep:∀b o,h.get? b=Fa o->H b=Db->b∉fs->b∉ex->h'.get? b=Fa o
 slot:∀b o,h.get? b=Fa o->H b=Db->b∈fs->b∉ex->∃sl,h'.get? b=Fa {o with slots:=sl}
 free:∀b o,h.get? b=Fa o->H b=Db->b∉ex->H' b=Db
 there:∀b o,h.get? b=Fa o->b∉ex->∃o',h'.get? b=Fa o'
 nG:∀b xs,H b=Fa (.tup xs)->H' b=Fa (.tup xs)
 nA:∀b o u,H b=Fa (.frz o u)->H' b=Fa (.frz o u)
 nK:∀b ps,H b=Fa (.tbl ps)->∃more,H' b=Fa (.tbl (ps++more))
variable {ex ex':QXQ}{H1 H2:Hp}{h1 h2:wp}
section
variable {fs fs':QXQ}{a x e:Ch}{o:HO}
def Un.any(u:Un fs ex H H1 h h1){b:Ch}{ob:Obj}(q:h.get? b=Fa ob)(n:H b=Db)(hx:b∉ex):∃sl,h1.get? b=Fa {ob with slots:=sl}:=by
 by_cases hb:b∈fs
 .exact u.slot b ob q n hb hx
 .exact⟨ob.slots,u.keep b ob q n hb hx⟩
def Un.trans(a:Un fs ex H H1 h h1)(b:Un fs ex H1 H2 h1 h2):Un fs ex H H2 h h2 where
 keep:=λc ob q n hc hx=>b.keep c ob (a.keep c ob q n hc hx) (a.free c ob q n hx) hc hx
 slot:=λc ob q n hc hx=>by obtain⟨sl,e1⟩:=a.slot c ob q n hc hx;obtain⟨YE,e2⟩:=b.slot c _ e1 (a.free c ob q n hx) hc hx;exact⟨YE,e2⟩
 free:=λc ob q n hx=>by obtain⟨o',e1⟩:=a.there c ob q hx;exact b.free c o' e1 (a.free c ob q n hx) hx
 there:=λc ob q hx=>by obtain⟨o',e1⟩:=a.there c ob q hx;exact b.there c o' e1 hx
 nG:=λc xs q=>b.nG c xs (a.nG c xs q)
 nA:=λc ob xs q=>b.nA c ob xs (a.nA c ob xs q)
 nK:=λc ps q=>by obtain⟨m1,e1⟩:=a.nK c ps q;obtain⟨m2,e2⟩:=b.nK c _ e1;exact⟨m1++m2,by rw[e2,kQ]⟩
def Un.kept(k:∀b u,h.get? b=Fa u->h'.get? b=Fa u):Un fs ex H H h h':=
 ⟨λb ob q _ _ _=>k b ob q,λb ob q _ _ _=>⟨ob.slots,k b ob q⟩,λ_ _ _ n _=>n,λb ob q _=>⟨ob,k b ob q⟩,λ_ _ q=>q,λ_ _ _ q=>q,λ_ ps q=>⟨#[],by rw[q];simp⟩⟩
def Un.refl:Un fs ex H H h h:=Un.kept λ_ _ q=>q
def Un.laid(k:∀b u,h.get? b=Fa u->h'.get? b=Fa u)(hp:h.objs.size<=a)(hn:H a=Db):Un fs ex H (upd H a o) h h' where
 keep:=λb u q _ _ _=>k b u q
 slot:=λb u q _ _ _=>⟨u.slots,k b u q⟩
 free:=λb u q n _=>by rw[pV (dU (dY (dI q) hp))];exact n
 there:=λb u q _=>⟨u,k b u q⟩
 nG:=λb xs q=>by rw[pV (qR q hn)];exact q
 nA:=λb u xs q=>by rw[pV (qR q hn)];exact q
 nK:=λb ps q=>⟨#[],by rw[pV (qR q hn),q];simp⟩
def Un.write(mu:TR (H x))(he:e=x\/H e=Fa (.own x))(k:∀b u,b≠e->h.get? b=Fa u->h'.get? b=Fa u)(heo:∃u,h'.get? e=Fa u):Un fs ex H (upd H x o) h h':=by
 have hx:∀b,H b=Db->b≠x:=λb n z=>by subst z;rw[n]at mu;exact mu
 have hb:∀b,H b=Db->b≠e:=λb n z=>by
  subst z;rcases he with r|r
  .exact hx b n r
  .rw[n]at r;cases r
 have hm:∀b u,H b=Fa u->¬TR (Fa u)->b≠x:=λb u q nm z=>by subst z;rw[q]at mu;exact nm mu
 refine⟨λb u q n _ _=>k b u (hb b n) q,λb u q n _ _=>⟨u.slots,k b u (hb b n) q⟩,λb u q n _=>by rw[pV (hx b n)];exact n,λb u q _=>?_,λb xs q=>by rw[pV (hm b _ q λz=>z)];exact q,λb u xs q=>by rw[pV (hm b _ q λz=>z)];exact q,λb ps q=>⟨#[],by rw[pV (hm b _ q λz=>z),q];simp⟩⟩
 by_cases hbe:b=e
 .subst hbe;exact heo
 .exact⟨u,k b u hbe q⟩
end
noncomputable def Vi(h:wp)(H:Hp):QXQ:=(List.range h.objs.size).filter λa=>(H a).isSome
noncomputable def FG(h:wp)(H:Hp):wp:=W.hideAll h (Vi h H)
def Ka(h:wp)(H:Hp):(FG h H).objs.size=h.objs.size:=W.hideAll_size _ _
def LI{h:wp}{H:Hp}{b:Ch}{o:Obj}(e:h.get? b=Fa o)(n:H b=Db):(FG h H).get? b=Fa o:=
 W.hideAll_get _ e λhm=>by have q:(H b).isSome=pc:=(fQ.mp hm).2;rw[n]at q;simp at q
def PR{b:Ch}{o:Obj}(e:(FG h H).get? b=Fa o):h.get? b=Fa o/\H b=Db:=by
 have e':h.get? b=Fa o:=W.of_hideAll (Vi h H) e;refine⟨e',?_⟩;cases q:H b with
 | none=>rfl
 | some x=>have hm:b∈Vi h H:=fQ.mpr ⟨gD.mpr (dI e'),by simp[q]⟩;have z:(FG h H).get? b=Db:=W.hideAll_none (Vi h H) hm;rw[z]at e;cases e
structure Mod(K:qo)(mg:QQZ)(base:wp):Prop where
 oz:K.In base
 glob:base.Ns wv mg
 blt:∃mb,base.Ns builtinsNs mb/\∀x:Str,x≠"__name__"->mb x=Go x
 nolimit:base.NoLimit
structure Cx where
 prog:Pg
 w:Wo
 K:qo
 mg:QQZ
 base:wp
 A:Ar
 N:QQQ
 s₀:Sd
 H₀:Hp
 env:Env
 outer:List Env
 stack:List Env
 ex:QXQ
 fn:Str->Bool
 calm:Bool
 pn:QQY
 xe:QQX
abbrev A6(X:Cx)(e:No)(es:T0 No):Prop:=zn (e::es) X.env=(Uf,Op e X.env)::zn es X.env
abbrev BJ(X:Cx)(p:Pos)(es:T0 No):Prop:=(Ix p (zn es X.env)).any (·.1)=Uf
abbrev zb(x:Str):Prop:=(x==("__debug__":Str))=Uf
abbrev K'(X:Cx)(x:Str):Prop:=X.fn x=pc\/X.env.scope.names.lookup x=Fa .local
noncomputable def wz(l:T0 Env):QXQ:=l.filterMap (·.frame)
abbrev Cx.fs(X:Cx):QXQ:=wz X.outer
def U9(sc:XXd)(x:Str):Prop:=sc.names.lookup x=Fa .local\/sc.names.lookup x=Fa .cell\/sc.names.lookup x=Fa .free
def K9(sc:XXd)(x:Str):Prop:=sc.names.lookup x=Fa .local\/sc.names.lookup x=Fa .cell
def V6(env:Env)(h:wp)(m:QQZ)(x:Str)(u:Vl):Prop:=
 (env.kindOf x=Fa .local/\m x=Fa u)\/((env.kindOf x=Fa .cell\/env.kindOf x=Fa .free)/\∃c,env.cells.lookup x=Fa c/\h.IsCell c (Fa u))
structure Cx.Ok(X:Cx):Prop where
 mod:Mod X.K X.mg X.base
 kind:X.env.scope.kind=.function
 glob:X.env.globals=wv
 blt:X.env.builtins=builtinsNs
 above:X.s₀.heap.objs.size<=X.env.locals
 inj:∀x y c,X.env.cells.lookup x=Fa c->X.env.cells.lookup y=Fa c->x=y
 has:∀x,(X.env.kindOf x=Fa .cell\/X.env.kindOf x=Fa .free)->∃c,X.env.cells.lookup x=Fa c
 oE:∀x c,X.fn x=pc->X.env.cells.lookup x=Fa c->X.s₀.heap.objs.size<=c
 hd:X.calm=pc->X.A.handled=Db
 frames:X.A.frames=Fa X.stack
 oH:X.stack=X.outer\/(X.stack=X.env::X.outer/\X.env.frame=Fa X.env.locals)
 oX:∀b∈X.ex,b≠X.env.locals/\∀x c,X.env.cells.lookup x=Fa c->c≠b
 bs:∀b o,X.base.get? b=Fa o->X.s₀.heap.get? b=Fa o/\X.H₀ b=Db
 oa:X.base.objs.size<=X.s₀.heap.objs.size
 nQ:∀b o,X.base.get? b=Fa o->b∉X.ex
 nX:∀b∈X.ex,b∉X.fs
 nB:X.s₀.heap.FunFrames X.base X.outer
 om:∀b∈X.fs,X.H₀ b=Db
structure Inv(X:Cx)(Xa:QQY)(Y:List (Option V))(H:Hp)(s:Sd):Prop where
 ok:X.Ok
 os:s.os=X.s₀.os
 bare:XXk s.gens
 base:Un X.fs X.ex X.H₀ H X.s₀.heap s.heap
 loc:∃m,s.heap.Ns X.env.locals m/\∀(i:Nat) (x:Str) (v:V),X.N[i]?=Fa x->Y[i]?=Fa (Fa v)->U9 X.env.scope x->∃u,qN v u/\V6 X.env s.heap m x u
 cell:∀x c,X.env.cells.lookup x=Fa c->∃v,s.heap.IsCell c v
 free:H X.env.locals=Db
 mZ:∀x c,X.env.cells.lookup x=Fa c->H c=Db
 pin:∀p∈X.pn++Xa,s.heap.get? p.1=Fa p.2/\H p.1=Db/\p.1≠X.env.locals/\p.1∉X.fs/\∀v,p.2.data≠.cell v
 mT:yr X.prog X.w H s.heap
 len:Y.length=X.N.length
variable {X:Cx}{Xa:T0 (Ch × Obj)}{s:Sd}
section
variable {Y:T0 (Option V)}
def Cx.Ok.nofr(ok:X.Ok){b:Ch}{o:Obj}(e:X.base.get? b=Fa o):b∉X.fs:=λhb=>by have:=(ok.nB.mem hb).1;rw[e]at this;cases this
def Inv.bs(I:Inv X Xa Y H s):∀b o,X.base.get? b=Fa o->s.heap.get? b=Fa o/\H b=Db:=λb o e=>⟨I.base.keep b o (I.ok.bs b o e).1 (I.ok.bs b o e).2 (I.ok.nofr e) (I.ok.nQ b o e),I.base.free b o (I.ok.bs b o e).1 (I.ok.bs b o e).2 (I.ok.nQ b o e)⟩
def Inv.bk(I:Inv X Xa Y H s):∀b o,X.base.get? b=Fa o->s.heap.get? b=Fa o:=λb o e=>(I.bs b o e).1
def Inv.mod(I:Inv X Xa Y H s):Mod X.K X.mg X.base:=I.ok.mod
def Inv.ni(I:Inv X Xa Y H s):X.K.In s.heap:=I.ok.mod.oz.keeps I.bk
def Inv.lt(I:Inv X Xa Y H s):X.env.locals<s.heap.objs.size:=let⟨_,hn,_⟩:=I.loc;hn.lt
def Inv.sz(I:Inv X Xa Y H s):X.s₀.heap.objs.size<=s.heap.objs.size:=eA I.ok.above (kS I.lt)
def Inv.oR(I:Inv X Xa Y H s){a:Ch}(h:s.heap.objs.size<=a):a∉X.fs:=λhb=>by obtain⟨_,o,ho,_⟩:=I.ok.nB.mem hb;exact absurd (dY (dI ho) (eA I.sz h)) (fm _)
def Inv.oY(I:Inv X Xa Y H s):∀x c,X.env.cells.lookup x=Fa c->c≠X.env.locals:=λx c e z=>by obtain⟨v,o,ho,hd⟩:=I.cell x c e;obtain⟨m,⟨o',es,ep,XT,hd',_⟩,_⟩:=I.loc;rw[z,XT]at ho;cases ho;rw[hd']at hd;cases hd
def Inv.nB(I:Inv X Xa Y H s):s.heap.FunFrames X.base X.outer:=by
 have all:∀(l:T0 Env),(∀b∈wz l,b∈X.fs)->X.s₀.heap.FunFrames X.base l->s.heap.FunFrames X.base l:=by
  intro l;induction l with
  | nil=>intro _ _;trivial
  | cons env r ih=>intro hs hl;obtain⟨hk,⟨L,o,hf,hn,ho,hd⟩,hr⟩:=hl;have hL:L∈X.fs:=hs L (by unfold wz;rw[gc,hf];exact dP);obtain⟨sl,e⟩:=I.base.slot L o ho (I.ok.om L hL) hL λz=>I.ok.nX L z hL;exact⟨hk,⟨L,_,hf,hn,e,hd⟩,ih (λb hb=>hs b (by unfold wz;rw[gc,hf];exact dF _ hb)) hr⟩
 exact all X.outer (λ_ hb=>hb) I.ok.nB
def Inv.stack(I:Inv X Xa Y H s):s.heap.FunFrames X.base X.stack:=by
 rcases I.ok.oH with e|⟨e,hf⟩
 .rw[e];exact I.nB
 .rw[e];obtain⟨m,hn,_⟩:=I.loc;refine .cons (by rw[I.ok.kind];decide) hf hn ?_ I.nB;exact gQ (eA I.ok.oa I.ok.above)
def Inv.nz(I:Inv X Xa Y H s):∀b∈wz X.stack,b∈X.env.locals::X.fs:=λb hb=>by
 rcases I.ok.oH with e|⟨e,hf⟩
 .rw[e]at hb;exact dF _ hb
 .rw[e]at hb;unfold wz at hb;rw[gc,hf]at hb;exact hb
def Inv.nI(I:Inv X Xa Y H s):∀b∈wz X.stack,H b=Db:=λb hb=>by
 rcases dw.mp (I.nz b hb)with e|hb
 .rw[e];exact I.free
 .obtain⟨_,o,ho,_⟩:=I.ok.nB.mem hb;exact I.base.free b o ho (I.ok.om b hb) λz=>I.ok.nX b z hb
def Inv.step{g':Array GenState}{t':Nat}{d':Drawn}{ch:QXQ}(I:Inv X Xa Y H s) (Yd:∀b∈ch,(b∈X.ex\/X.s₀.heap.objs.size<=b)/\b≠X.env.locals/\(∀x c,X.env.cells.lookup x=Fa c->c≠b)/\∀p∈X.pn++Xa,p.1≠b) (keep:∀b o,b≠X.env.locals->b∉X.fs->b∉ch->s.heap.get? b=Fa o->H b=Db->h'.get? b=Fa o) (slot:∀b o,b≠X.env.locals->b∈X.fs->b∉ch->s.heap.get? b=Fa o->H b=Db->∃sl,h'.get? b=Fa {o with slots:=sl}) (free:∀b o,b∉ch->s.heap.get? b=Fa o->H b=Db->H' b=Db)
  (there:∀b o,b∉ch->s.heap.get? b=Fa o->∃o',h'.get? b=Fa o')
  (nG:∀b xs,H b=Fa (.tup xs)->H' b=Fa (.tup xs)) (nA:∀b o u,H b=Fa (.frz o u)->H' b=Fa (.frz o u)) (nK:∀b ps,H b=Fa (.tbl ps)->∃more,H' b=Fa (.tbl (ps++more)))
  (ns:∀m,s.heap.Ns X.env.locals m->h'.Ns X.env.locals m) (mT:yr X.prog X.w H' h') (hg:XXk g'):
  Inv X Xa Y H' {s with heap:=h',gens:=g',drawn:=d',toks:=t'}:=by
 have neL:∀b o,X.s₀.heap.get? b=Fa o->b≠X.env.locals:=λb o e=>dU (dY (dI e) I.ok.above);have neC:∀b o,X.s₀.heap.get? b=Fa o->b∉X.ex->b∉ch:=λb o e hx hb=>by
  rcases(Yd b hb).1 with z|z
  .exact hx z
  .exact absurd (dY (dI e) z) (fm _)
 have ZL:∀x c,X.env.cells.lookup x=Fa c->∀v,s.heap.IsCell c v->h'.IsCell c v:=λx c e v ⟨o,ho,hd⟩=>by
  have nch:c∉ch:=λz=>(Yd c z).2.2.1 x c e Z';by_cases hc:c∈X.fs
  .obtain⟨sl,q⟩:=slot c o (I.oY x c e) hc nch ho (I.mZ x c e);exact⟨_,q,hd⟩
  .exact⟨o,keep c o (I.oY x c e) hc nch ho (I.mZ x c e),hd⟩
 refine⟨I.ok,I.os,hg,⟨λb o e n hb hx=>?_,λb o e n hb hx=>?_,λb o e n hx=>?_,λb o e hx=>?_,λb xs e=>nG b xs (I.base.nG b xs e),λb o xs e=>nA b o xs (I.base.nA b o xs e),λb ps e=>?_⟩,?_,λx c e=>?_,?_,λx c e=>?_,λp hp=>?_,mT,I.len⟩
 .exact keep b o (neL b o e) hb (neC b o e hx) (I.base.keep b o e n hb hx) (I.base.free b o e n hx)
 .obtain⟨sl,e1⟩:=I.base.slot b o e n hb hx;obtain⟨YE,e2⟩:=slot b _ (neL b o e) hb (neC b o e hx) e1 (I.base.free b o e n hx);exact⟨YE,e2⟩
 .obtain⟨o',e1⟩:=I.base.there b o e hx;exact free b o' (neC b o e hx) e1 (I.base.free b o e n hx)
 .obtain⟨o',e1⟩:=I.base.there b o e hx;exact there b o' (neC b o e hx) e1
 .obtain⟨m1,e1⟩:=I.base.nK b ps e;obtain⟨m2,e2⟩:=nK b _ e1;exact⟨m1++m2,by rw[e2,kQ]⟩
 .obtain⟨m,hn,hl⟩:=I.loc;refine⟨m,ns m hn,λi x v e1 e2 e3=>?_⟩;obtain⟨u,r,l⟩:=hl i x v e1 e2 e3;refine⟨u,r,?_⟩;rcases l with l|⟨k,c,e,z⟩
  .exact .inl l
  .exact .inr ⟨k,c,e,ZL x c e _ z⟩
 .obtain⟨v,z⟩:=I.cell x c e;exact⟨v,ZL x c e v z⟩
 .obtain⟨m,⟨o,_,_,ho,_⟩,_⟩:=I.loc;exact free _ o (λz=>(Yd _ z).2.1 Z') ho I.free
 .obtain⟨v,o,ho,hd⟩:=I.cell x c e;exact free c o (λz=>(Yd c z).2.2.1 x c e Z') ho (I.mZ x c e)
 .obtain⟨e,n,ne,nf,d⟩:=I.pin p hp;have nch:p.1∉ch:=λz=>(Yd p.1 z).2.2.2 p hp Z';exact⟨keep p.1 p.2 ne nf nch e n,free p.1 p.2 nch e n,ne,nf,d⟩
def Inv.un{t':Nat}(I:Inv X Xa Y H s)(u:Un X.fs [] H H' s.heap h')(mT:yr X.prog X.w H' h'):Inv X Xa Y H' {s with heap:=h',toks:=t'}:=by
 obtain⟨m,⟨o,es,ep,ho,r⟩,_⟩:=id I.loc;obtain⟨sl,hL⟩:=u.any ho I.free (by simp);exact I.step (g':=s.gens) (d':=s.drawn) (ch:=[]) (λ_ z=>nomatch z) (λb o _ hb _ e n=>u.keep b o e n hb (by simp)) (λb o _ hb _ e n=>u.slot b o e n hb (by simp)) (λb o _ e n=>u.free b o e n (by simp)) (λb o _ e=>u.there b o e (by simp)) u.nG u.nA u.nK (λm' hm=>by
  obtain⟨o',es',ep',XT,r'⟩:=hm;rw[ho]at XT;cases XT;exact⟨_,es',ep',hL,r'⟩) mT I.bare
def Inv.call{t':Nat}{d':Drawn}(I:Inv X Xa Y H s)(u:Un (wz X.stack) ch H H' s.heap h')(mT:yr X.prog X.w H' h')(hg:XXk g') (Yd:∀b∈ch,(b∈X.ex\/X.s₀.heap.objs.size<=b)/\b≠X.env.locals/\(∀x c,X.env.cells.lookup x=Fa c->c≠b)/\∀p∈X.pn++Xa,p.1≠b):
  Inv X Xa Y H' {s with heap:=h',gens:=g',drawn:=d',toks:=t'}:=by
 obtain⟨m,⟨o,es,ep,ho,r⟩,_⟩:=id I.loc;obtain⟨sl,hL⟩:=u.any ho I.free λz=>(Yd _ z).2.1 Z';exact I.step (ch:=ch) Yd (λb o hL hb hc e n=>u.keep b o e n (λz=>(dw.mp (I.nz b z)).elim hL hb) hc) (λb o _ _ hc e n=>u.any e n hc) (λb o hc e n=>u.free b o e n hc) (λb o hc e=>u.there b o e hc) u.nG u.nA u.nK (λm' hm=>by
  obtain⟨o',es',ep',XT,r'⟩:=hm;rw[ho]at XT;cases XT;exact⟨_,es',ep',hL,r'⟩) mT hg
def Inv.turned{t':Nat}{it:Ch}(I:Inv X Xa Y H s)(k:∀b o,b≠it->s.heap.get? b=Fa o->h'.get? b=Fa o)(hn:H it=Db)(hL:it≠X.env.locals) (h1:it∈X.ex\/X.s₀.heap.objs.size<=it) (h2:∀x c,X.env.cells.lookup x=Fa c->c≠it) (h3:∀p∈X.pn++Xa,p.1≠it):Inv X Xa Y H {s with heap:=h',toks:=t'}:=by
 have nit:∀b u,H b=Fa u->b≠it:=λb u e z=>by rw[z,hn]at e;cases e
 refine I.step (g':=s.gens) (d':=s.drawn) (ch:=[it]) (λb hb=>?_) (λb o _ _ hc e _=>k b o (λz=>hc (by simp[z])) e) (λb o _ _ hc e _=>⟨o.slots,k b o (λz=>hc (by simp[z])) e⟩) (λ_ _ _ _ n=>n)
  (λb o hc e=>⟨o,k b o (λz=>hc (by simp[z])) e⟩) (λ_ _ e=>e) (λ_ _ _ e=>e) (λb ps e=>⟨#[],by rw[e];simp⟩) (λm hm=>?_) (λb u e=>?_) I.bare
 .have e:b=it:=by simpa using hb
  subst e;exact⟨h1,hL,h2,h3⟩
 .obtain⟨o,es,ep,ho,r⟩:=hm;exact⟨o,es,ep,k _ o (dW hL) ho,r⟩
 .refine(I.mT b u e).nH (λc v hc q=>k c v ?_ q) (λ_ q=>q) λ_ _ q=>q;rcases hc with z|z
  .rw[z];exact nit b u e
  .exact nit c _ z
def Inv.tok(I:Inv X Xa Y H s)(t:Nat):Inv X Xa Y H {s with toks:=t}:=I.un (h':=s.heap) (t':=t) Un.refl I.mT
def Inv.kept{t':Nat}(I:Inv X Xa Y H s)(k:∀b u,s.heap.get? b=Fa u->h'.get? b=Fa u):Inv X Xa Y H {s with heap:=h',toks:=t'}:=I.un (Un.kept k) (I.mT.kept k)
def Inv.laid{a:Ch}{t':Nat}(I:Inv X Xa Y H s)(k:∀b u,s.heap.get? b=Fa u->h'.get? b=Fa u)(hp:s.heap.objs.size<=a)(new:sA X.prog X.w (upd H a o) h' a o):
  Inv X Xa Y (upd H a o) {s with heap:=h',toks:=t'}:=I.un (Un.laid k hp (I.mT.fresh hp)) (I.mT.laid k hp new)
def Inv.write{x e:Ch}{t':Nat}(I:Inv X Xa Y H s)(mu:TR (H x))(he:e=x\/H e=Fa (.own x))(k:∀b u,b≠e->s.heap.get? b=Fa u->h'.get? b=Fa u)(heo:∃u,h'.get? e=Fa u) (new:sA X.prog X.w (upd H x o) h' x o):Inv X Xa Y (upd H x o) {s with heap:=h',toks:=t'}:=I.un (Un.write mu he k heo) (I.mT.write mu he k heo new)
def Inv.nN{Ye:QQY}(I:Inv X Xa Y H s)(h:∀p∈Ye,s.heap.get? p.1=Fa p.2/\H p.1=Db/\p.1≠X.env.locals/\p.1∉X.fs/\∀v,p.2.data≠.cell v):Inv X Ye Y H s:=
 ⟨I.ok,I.os,I.bare,I.base,I.loc,I.cell,I.free,I.mZ,λp hp=>(dX.mp hp).elim (λz=>I.pin p (fK _ z)) (h p),I.mT,I.len⟩
def Hc{N:QQQ}(hN:N.Nodup){i j:Nat}{x:Str}(a:N[i]?=Fa x)(b:N[j]?=Fa x):i=j:=by obtain⟨h1,e1⟩:=de.mp a;obtain⟨h2,e2⟩:=de.mp b;exact(lM hN).mp (e1.trans e2.symm)
def DO{M:Model}{A:Ar}{E:QQX}{i:Nat}{x:Str}{Q:Unit->Sd->Prop}(I:Inv X Xa Y H s)(hN:X.N.Nodup)(hi:X.N[i]?=Fa x)(hx:K9 X.env.scope x)(r:qN v u) (h:∀s',Inv X Xa (Y.set i (Fa v)) H s'->(∃a,Heap.SameBut a s.heap s'.heap/\(a=X.env.locals\/X.env.cells.lookup x=Fa a))->Q () s') (hf:K' X x:=by first|exact .inl Z'|exact .inr Z'|assumption):Tk M A (storeName X.env x u) Q E s:=by
 obtain⟨m,hn,hl⟩:=id I.loc;have hcls:(X.env.scope.kind==.class||(X.env.scope.kind==.module&&X.env.locals != X.env.globals))=Uf:=by rw[I.ok.kind];rfl
 have hiσ:i<Y.length:=by rw[I.len];exact(de.mp hi).1
 have oY:=I.oY;have Xo:∀{a:Ch} {h':wp},(∃o,s.heap.get? a=Fa o/\H a=Db)->Heap.SameBut a s.heap h'->yr X.prog X.w H h':=λ{a h'} ha hs b ob e=>by
  obtain⟨_,_,XZ⟩:=ha;refine(I.mT b ob e).nH (λc w' hc q=>(hs.2 c ?_).trans q) (λ_ q=>q) λ_ _ q=>q
  rintro rfl
  rcases hc with rfl|hc
  .rw[XZ]at e;cases e
  .rw[XZ]at hc;cases hc
 rcases hx with hk|hk
 .refine wpAny_storeName_local hk hn (λh' Zd hs=>?_) hcls;obtain⟨oL,_,_,hoL,_⟩:=id hn;refine h _ ⟨I.ok,I.os,I.bare,⟨λb o e n hb hx=>?_,λb o e n hb hx=>?_,I.base.free,λb o e hx=>?_,I.base.nG,I.base.nA,I.base.nK⟩,⟨_,Zd,λj y v' e1 e2 e3=>?_⟩,λy c e=>?_,I.free,I.mZ,λp hp=>?_,Xo ⟨oL,hoL,I.free⟩ hs,by simpa using I.len⟩ ⟨_,hs,.inl Z'⟩
  .exact(hs.2 b (dU (dY (dI e) I.ok.above))).trans (I.base.keep b o e n hb hx)
  .obtain⟨sl,e1⟩:=I.base.slot b o e n hb hx;exact⟨sl,(hs.2 b (dU (dY (dI e) I.ok.above))).trans e1⟩
  .obtain⟨o',e1⟩:=I.base.there b o e hx;exact⟨o',(hs.2 b (dU (dY (dI e) I.ok.above))).trans e1⟩
  .by_cases hj:j=i
   .subst hj;rw[hi]at e1;cases e1;rw[fM hiσ]at e2;cases e2;exact⟨u,r,.inl ⟨hk,by simp⟩⟩
   .rw[fL (dW hj)]at e2;obtain⟨u',r',q⟩:=hl j y v' e1 e2 e3;refine⟨u',r',?_⟩;rcases q with⟨k,e⟩|⟨k,c,e,z⟩
    .refine .inl ⟨k,?_⟩;have:y≠x:=λe=>hj (Hc hN e1 (e ▸ hi));simp[this,e]
    .exact .inr ⟨k,c,e,z.sameBut hs (oY y c e)⟩
  .obtain⟨w',z⟩:=I.cell y c e;exact⟨w',z.sameBut hs (oY y c e)⟩
  .obtain⟨e,n,ne,nf,d⟩:=I.pin p hp;exact⟨(hs.2 p.1 ne).trans e,n,ne,nf,d⟩
 .have hfn:X.fn x=pc:=by
   rcases hf with z|z
   .exact z
   .rw[z]at hk;cases hk
  obtain⟨c,hc⟩:=I.ok.has x (.inl hk);obtain⟨w',z⟩:=I.cell x c hc;refine wpAny_storeName_cell I.ok.kind hk hc z (λh' hc' hs=>?_);obtain⟨oc,hoc,hocd⟩:=id z;refine h {s with heap:=h'} ⟨I.ok,I.os,I.bare,⟨λb o e n hb hx=>?_,λb o e n hb hx=>?_,I.base.free,λb o e hx=>?_,I.base.nG,I.base.nA,I.base.nK⟩,⟨m,hn.sameBut hs (dW (oY x c hc)),λj y v' e1 e2 e3=>?_⟩,λy c' e=>?_,I.free,I.mZ,λp hp=>?_,Xo ⟨oc,hoc,I.mZ x c hc⟩ hs,by simpa using I.len⟩ ⟨c,hs,.inr hc⟩
  .exact(hs.2 b (dU (dY (dI e) (I.ok.oE x c hfn hc)))).trans (I.base.keep b o e n hb hx)
  .obtain⟨sl,e1⟩:=I.base.slot b o e n hb hx;exact⟨sl,(hs.2 b (dU (dY (dI e) (I.ok.oE x c hfn hc)))).trans e1⟩
  .obtain⟨o',e1⟩:=I.base.there b o e hx;exact⟨o',(hs.2 b (dU (dY (dI e) (I.ok.oE x c hfn hc)))).trans e1⟩
  .by_cases hj:j=i
   .subst hj;rw[hi]at e1;cases e1;rw[fM hiσ]at e2;cases e2;exact⟨u,r,.inr ⟨.inl hk,c,hc,hc'⟩⟩
   .rw[fL (dW hj)]at e2;obtain⟨u',r',q⟩:=hl j y v' e1 e2 e3;refine⟨u',r',?_⟩;rcases q with q|⟨k,c',e,z'⟩
    .exact .inl q
    .refine .inr ⟨k,c',e,z'.sameBut hs ?_⟩
     rintro rfl
     exact hj (Hc hN e1 (I.ok.inj _ _ _ e hc ▸ hi))
  .by_cases ZM:c'=c
   .subst ZM;exact⟨_,hc'⟩
   .obtain⟨w2,z2⟩:=I.cell y c' e;exact⟨w2,z2.sameBut hs ZM⟩
  .obtain⟨e,n,ne,nf,d⟩:=I.pin p hp;refine⟨(hs.2 p.1 ?_).trans e,n,ne,nf,d⟩;intro q;rw[q,hoc]at e;have q':oc=p.2:=dA e;exact d w' (by rw[<-q'];exact hocd)
def Cb{M:Model}{A:Ar}{E:QQX}{i:Nat}{x:Str}{Q:Unit->Sd->Prop}(I:Inv X Xa Y H s)(hN:X.N.Nodup)(hi:X.N[i]?=Fa x)(hx:K9 X.env.scope x)(r:qN v u) (h:∀s',Inv X Xa (Y.set i (Fa v)) H s'->Q () s') (hf:K' X x:=by first|exact .inl Z'|exact .inr Z'|assumption):Tk M A (storeName X.env x u) Q E s:=
 DO I hN hi hx r (λs' I' _=>h s' I') hf
def Inv.oP{s':Sd}(I:Inv X Xa Y H s)(ho:s'.os=s.os)(u:Un (wz X.stack) ch H H' s.heap s'.heap)(mT:yr X.prog X.w H' s'.heap)(hg:XXk s'.gens) (Yd:∀b∈ch,(b∈X.ex\/X.s₀.heap.objs.size<=b)/\b≠X.env.locals/\(∀x c,X.env.cells.lookup x=Fa c->c≠b)/\∀p∈X.pn++Xa,p.1≠b):Inv X Xa Y H' s':=by
 obtain⟨h',g',d',t',o'⟩:=s';have e:o'=s.os:=ho;subst e;exact I.call (g':=g') (t':=t') (d':=d') u mT hg Yd
end
abbrev XK:=Vl->Option Ch->Hp->Prop
abbrev St:=T0 (Option V)
abbrev VK:=V->Hp->Prop
abbrev TE:=St->Hp->VK->Prop
abbrev TT:=St->Hp->(Bool->Hp->Prop)->Prop
abbrev TA:=St->Hp->(T0 V->Hp->Prop)->Prop
structure FC where
 nx:St->Hp->Prop
 rt:VK
 bk:St->Hp->Prop:=λ_ _=>False
 ct:St->Hp->Prop:=λ_ _=>False
abbrev TS:=FC->St->Hp->Prop
def EP(X:Cx)(Xa:QQY)(Y:St)(Q:VK)(u:Vl)(s':Sd):Prop:=∃v H',Inv X Xa Y H' s'/\qN v u/\Q v H'
def TP(X:Cx)(Xa:QQY)(Y:St)(Q:Bool->Hp->Prop)(b:Bool)(s':Sd):Prop:=∃H',Inv X Xa Y H' s'/\Q b H'
def AP(X:Cx)(Xa:QQY)(Y:St)(Q:T0 V->Hp->Prop)(us:T0 Vl)(s':Sd):Prop:=∃vs H',Inv X Xa Y H' s'/\qD vs us/\Q vs H'
def SP(X:Cx)(Xa:QQY)(D:FC)(f:Flow)(s':Sd):Prop:=
 match f with
 | .next=>∃σ' H',Inv X Xa σ' H' s'/\D.nx σ' H'
 | .brk=>∃σ' H',Inv X Xa σ' H' s'/\D.bk σ' H'
 | .cont=>∃σ' H',Inv X Xa σ' H' s'/\D.ct σ' H'
 | .ret u=>∃v σ' H',Inv X Xa σ' H' s'/\qN v u/\D.rt v H'
def PE(X:Cx)(e:No)(t:TE):Prop:=
 ∀(Xa:QQY) (s:Sd) (Y:St) (H:Hp) (Q:VK),Inv X Xa Y H s->t Y H Q->Tk (Tl X.prog X.w) X.A (Op e X.env) (EP X Xa Y Q) X.xe s
def PT(X:Cx)(e:No)(t:TT):Prop:=
 ∀(Xa:QQY) (s:Sd) (Y:St) (H:Hp) (Q:Bool->Hp->Prop),Inv X Xa Y H s->t Y H Q->Tk (Tl X.prog X.w) X.A (isTrue e X.env (Op e X.env)) (TP X Xa Y Q) X.xe s
def PW(X:Cx)(e:No)(t:TT):Prop:=
 ∀(XI:Sem Vl) (Xa:QQY) (s:Sd) (Y:St) (H:Hp) (Q:Bool->Hp->Prop),Inv X Xa Y H s->t Y H Q->Tk (Tl X.prog X.w) X.A (isTrue e X.env XI) (TP X Xa Y Q) X.xe s
def PW.pt(h:PW X e t):PT X e t:=h _
def PA(X:Cx)(es:T0 No)(t:TA):Prop:=
 ∀(pos:Pos) (Xa:QQY) (s:Sd) (Y:St) (H:Hp) (Q:T0 V->Hp->Prop),Inv X Xa Y H s->t Y H Q->Tk (Tl X.prog X.w) X.A (spliced (Ix pos (zn es X.env))) (AP X Xa Y Q) X.xe s
def PS(X:Cx)(st:ZB)(t:TS):Prop:=
 ∀(Xa:QQY) (s:Sd) (Y:St) (H:Hp) (D:FC),Inv X Xa Y H s->t D Y H->Tk (Tl X.prog X.w) X.A (exec st X.env) (SP X Xa D) X.xe s
def B'(X:Cx)(st:T0 ZB)(t:TS):Prop:=
 ∀(Xa:QQY) (s:Sd) (Y:St) (H:Hp) (D:FC),Inv X Xa Y H s->t D Y H->Tk (Tl X.prog X.w) X.A (execs st X.env) (SP X Xa D) X.xe s
def sC{α:Type}{t:Sem α}{Q Q':α->Sd->Prop}{M:Model}{A:Ar}{E:QQX}{s:Sd}(h:Tk M A t Q E s)(hQ:∀a s,Q a s->Q' a s):Tk M A t Q' E s:=eJ h hQ λ_ _ x=>x
variable {tA tB':TT}{ta tb:TE}{pos:Pos}
section
def Hr(i:Nat):TE:=λY H Q=>∃v,Y[i]?=Fa (Fa v)/\Q v H
def tC(v:V):TE:=λ_ H Q=>Q v H
def RT{i:Nat}{x:Str}(hN:X.N[i]?=Fa x)(hv:U9 X.env.scope x)(hd:zb x:=by decide)(Yr:(x==("__classdict__":Str))=Uf:=by decide):PE X (.Name x pos) (Hr i):=by
 intro Xa s Y H Q I h;obtain⟨v,e,h⟩:=h;obtain⟨m,hn,hl⟩:=I.loc;obtain⟨u,r,l⟩:=hl i x v hN e hv;have Xe:EP X Xa Y Q u s:=⟨v,H,I,r,h⟩;rcases l with⟨hk,hm⟩|⟨hk,c,hc,hcell⟩
 .exact me (wpAny_loadName_local I.ok.kind hk hn hm Xe) hd
 .rcases hk with hk|hk
  .exact me (wpAny_loadName_cell I.ok.kind hk hc hcell Xe) hd
  .exact me (wpAny_loadName_free I.ok.kind hk hc hcell Xe Yr) hd
def RA{i j pos}:PE X (.Constant (.int i) j pos) (tC (.int i)):=λ_ _ _ H _ I h=>wpAny_Constant_int ⟨.int i,H,I.tok _,⟨_,Z'⟩,h⟩
def UK{b j pos}:PE X (.Constant (.bool b) j pos) (tC (.bl b)):=λ_ _ _ H _ I h=>Constant_bool ⟨.bl b,H,I,Z',h⟩
def Rm{j pos}:PE X (.Constant .none j pos) (tC .mP):=λ_ _ _ H _ I h=>Constant_none ⟨.mP,H,I,Z',h⟩
def Rp{x j pos}:PE X (.Constant (.str x) j pos) (tC (.str x)):=λ_ _ _ H _ I h=>Calls.Constant_str ⟨.str x,H,I.tok _,⟨_,Z'⟩,h⟩
def Gl(X:Cx)(x:Str):Prop:=X.env.kindOf x=Fa .globalImplicit
def xm{E:QQX}{Xa:QQY}{u:Vl}{Q:QQX}(I:Inv X Xa Y H s)(hg:Gl X x)(hm:X.mg x=Fa u)(h:Q u s) (hd:zb x:=by decide):Tk (Tl X.prog X.w) X.A (Op (.Name x pos) X.env) Q E s:=
 jq I.ok.kind hg (Calls.loadGlobal_global (by rw[I.ok.glob];exact I.mod.glob.keeps I.bk) hm h) hd
def wm{E:QQX}{Xa:QQY}{u:Vl}{Q:QQX}(I:Inv X Xa Y H s)(hg:Gl X x)(hm:X.mg x=Db)(hv:Go x=Fa u)(h:Q u s) (hn:x≠"__name__":=by decide) (hd:zb x:=by decide):Tk (Tl X.prog X.w) X.A (Op (.Name x pos) X.env) Q E s:=by
 obtain⟨mb,h1,h2⟩:=I.mod.blt;exact jq I.ok.kind hg (Calls.loadGlobal_builtin (by rw[I.ok.glob];exact I.mod.glob.keeps I.bk) hm (by rw[I.ok.blt];exact h1.keeps I.bk) ((h2 x hn).trans hv) h) hd
def EV{u:Vl}(hg:Gl X x)(hm:X.mg x=Fa u)(r:qN v u)(hd:zb x:=by decide):PE X (.Name x pos) (tC v):=
 λ_ _ _ H _ I h=>xm I hg hm ⟨v,H,I,r,h⟩ hd
def Pe{u:Vl}(hg:Gl X x)(hm:X.mg x=Db)(hv:Go x=Fa u)(r:qN v u)(hn:x≠"__name__":=by decide)(hd:zb x:=by decide):PE X (.Name x pos) (tC v):=
 λ_ _ _ H _ I h=>wm I hg hm hv ⟨v,H,I,r,h⟩ hn hd
variable {a b:No}
def tB(t:TE):TT:=λY H Q=>t Y H λx H1=>∃c,x=.bl c/\Q c H1
def Tf(h:PE X e t)(he:∀XI,isTrue e X.env XI=(do let v<-XI;XXc e.pos;sB [v] (truthy v)):=by intro _;rfl):PT X e (tB t):=by intro Xa s Y H Q I hw;refine isTrue_plain (sC (h Xa s Y H _ I hw) λv s1 zz=>x5 zz λx H1 I1 r1 q1=>?_) (he _);obtain⟨d,rfl,q⟩:=q1;cases r1;exact fA ⟨H1,I1,q⟩
variable {rest:T0 No}
def VS(t u:TT):TT:=λY H Q=>t Y H λc H1=>if c=pc then u Y H1 Q else Q Uf H1
def W7(t u:TT):TT:=λY H Q=>t Y H λc H1=>if c=pc then Q pc H1 else u Y H1 Q
def VT(t:TT):TT:=λY H Q=>t Y H λc H1=>Q (!c) H1
def Po(ha:PT X a tA):PW X (.BoolOp .And [a] pos) tA:=by
 intro wh Xa s Y H Q I h;refine isTrue_and (sC (ha Xa s Y H Q I h) λc s1 e=>?_);cases c with
 | true=>exact isTrue_and_nil e
 | false=>exact e
def Rk(ha:PT X a tA):PW X (.BoolOp .Or [a] pos) tA:=by
 intro wh Xa s Y H Q I h;refine isTrue_or (sC (ha Xa s Y H Q I h) λc s1 e=>?_);cases c with
 | false=>exact isTrue_or_nil e
 | true=>exact e
def Rz(ha:PT X a tA)(hb:PW X (.BoolOp .And (b::rest) pos) tB'):PW X (.BoolOp .And (a::b::rest) pos) (VS tA tB'):=by
 intro wh Xa s Y H Q I h;refine isTrue_and (sC (ha Xa s Y H _ I h) λc s1 ⟨H1,I1,q1⟩=>?_);cases c with
 | true=>exact hb wh Xa s1 Y H1 Q I1 q1
 | false=>exact⟨H1,I1,q1⟩
def Uu(ha:PT X a tA)(hb:PW X (.BoolOp .Or (b::rest) pos) tB'):PW X (.BoolOp .Or (a::b::rest) pos) (W7 tA tB'):=by
 intro wh Xa s Y H Q I h;refine isTrue_or (sC (ha Xa s Y H _ I h) λc s1 ⟨H1,I1,q1⟩=>?_);cases c with
 | true=>exact⟨H1,I1,q1⟩
 | false=>exact hb wh Xa s1 Y H1 Q I1 q1
def RP(ha:PT X a tA):PT X (.UnaryOp .Not a pos) (VT tA):=by intro Xa s Y H Q I h;exact isTrue_not (ha Xa s Y H (λc H1=>Q (!c) H1) I h)
def U0(ta tb:TE):TE:=λY H Q=>ta Y H λx H1=>∃c,x=.bl c/\if c=pc then tb Y H1 Q else Q (.bl Uf) H1
def WA(ta tb:TE):TE:=λY H Q=>ta Y H λx H1=>∃c,x=.bl c/\if c=pc then Q (.bl pc) H1 else tb Y H1 Q
def T9(ta:TE):TE:=λY H Q=>ta Y H λx H1=>∃c,x=.bl c/\Q (.bl (!c)) H1
def Rt{op}(h:PE X a t):PE X (.BoolOp op [a] pos) t:=λXa s Y H Q I hw=>BoolOp_one (h Xa s Y H Q I hw)
def Sl(ha:PE X a ta)(hb:PE X (.BoolOp .And (b::rest) pos) tb):PE X (.BoolOp .And (a::b::rest) pos) (U0 ta tb):=by
 intro Xa s Y H Q I h;refine BoolOp_and (sC (ha Xa s Y H _ I h) λv s1 zz=>x5 zz λx H1 I1 r1 q1=>?_);obtain⟨c,rfl,q1⟩:=q1;cases r1;refine fA ?_;cases c with
 | true=>exact hb Xa s1 Y H1 Q I1 q1
 | false=>exact⟨.bl Uf,H1,I1,Z',q1⟩
def Ue(ha:PE X a ta)(hb:PE X (.BoolOp .Or (b::rest) pos) tb):PE X (.BoolOp .Or (a::b::rest) pos) (WA ta tb):=by
 intro Xa s Y H Q I h;refine BoolOp_or (sC (ha Xa s Y H _ I h) λv s1 zz=>x5 zz λx H1 I1 r1 q1=>?_);obtain⟨c,rfl,q1⟩:=q1;cases r1;refine fA ?_;cases c with
 | false=>exact hb Xa s1 Y H1 Q I1 q1
 | true=>exact⟨.bl pc,H1,I1,Z',q1⟩
def SR(ha:PE X a ta):PE X (.UnaryOp .Not a pos) (T9 ta):=by intro Xa s Y H Q I h;refine UnaryOp_ (sC (ha Xa s Y H _ I h) λv s1 zz=>x5 zz λx H1 I1 r1 q1=>?_);obtain⟨c,rfl,q1⟩:=q1;cases r1;exact not_of (fA ⟨.bl (!c),H1,I1,Z',q1⟩)
def WU(t:TT)(ta tb:TE):TE:=λY H Q=>t Y H λc H1=>if c=pc then ta Y H1 Q else tb Y H1 Q
def Nb(hc:PT X c tA)(ha:PE X a ta)(hb:PE X b tb):PE X (.IfExp c a b pos) (WU tA ta tb):=by
 intro Xa s Y H Q I h;refine wpAny_IfExp (sC (hc Xa s Y H _ I h) λd s1 ⟨H1,I1,q1⟩=>?_);cases d with
 | true=>exact ha Xa s1 Y H1 Q I1 q1
 | false=>exact hb Xa s1 Y H1 Q I1 q1
end
def za(K:qo)(H:Hp)(a:Ch)(xs:T0 V):Prop:=
 Rd H a (.lst xs)\/
  ∃(o:Obj) (its:Array Vl) (n:Nat),K.lookup a=Fa o/\o.cls=.type "list"/\o.dict=Db/\o.data=.seq its n/\its.size<=pi/\qD xs its.toList
def uS(K:qo)(H:Hp)(a:Ch)(xs:T0 V):Prop:=
 Rd H a (.tup xs)\/
  ∃(o:Obj) (its:Array Vl) (n:Nat),K.lookup a=Fa o/\o.cls=.type "tuple"/\o.dict=Db/\o.data=.seq its n/\its.size<=pi/\qD xs its.toList
noncomputable def VE:Vl->Option V
 | .none=>Fa .mP
 | .bool b=>Fa (.bl b)
 | .int i _=>Fa (.int i)
 | .str x _=>Fa (.str x)
 | .bytes b _=>Fa (.byt b)
 | .float b _=>Fa (.flt b)
 | .ref a=>Fa (.ref a)
 | .type n=>Fa (.ty n)
 | _=>Db
def qN.abs(r:qN x u):VE u=Fa x:=by
 cases x with
 | mP=>cases r;rfl
 | bl _=>cases r;rfl
 | int _=>obtain⟨t,rfl⟩:=r;rfl
 | str _=>obtain⟨t,rfl⟩:=r;rfl
 | byt _=>obtain⟨t,rfl⟩:=r;rfl
 | flt _=>obtain⟨t,rfl⟩:=r;rfl
 | ref _=>cases r;rfl
 | ty _=>cases r;rfl
def qN.inj(r:qN x u)(q:qN y u):x=y:=dA (r.abs.symm.trans q.abs)
theorem qD.inj:∀{xs ys:T0 V} {us:T0 Vl},qD xs us->qD ys us->xs=ys
 | _,_,_,.nil,.nil=>rfl
 | _,_,_,.cons r t,.cons r' t'=>by rw[r.inj r',qD.inj t t']
variable {xs ys:T0 V}
section
variable {Y:St}{a:Ch}
def uS.of{K:qo}(h:H a=Fa (.tup xs)):uS K H a xs:=.inl (.inl h)
def Inv.list(I:Inv X Xa Y H s)(h:za X.K H a xs):∃its:T0 Vl,qD xs its/\PlainL s.heap a its.toArray/\xs.length<=pi:=by
 rcases h with h|⟨o,its,n,hk,hc,hd,hs,hz,r⟩
 .obtain⟨z,its,n,r,e⟩:=h.ok I.mT;exact⟨its,r,⟨_,n,e,Z',Z',Z'⟩,z⟩
 .refine⟨its.toList,r,⟨o,n,I.ni a o hk,hc,hd,by simpa using hs⟩,?_⟩;have e:=r.length;simp only[ja]at e;omega
def Inv.tuple(I:Inv X Xa Y H s)(h:uS X.K H a xs):∃its:T0 Vl,qD xs its/\IsTup s.heap a its.toArray/\xs.length<=pi:=by
 rcases h with h|⟨o,its,n,hk,hc,hd,hs,hz,r⟩
 .obtain⟨z,its,r,p⟩:=h.ok I.mT;exact⟨its,r,p.is,z⟩
 .refine⟨its.toList,r,⟨o,I.ni a o hk,hc,n,by simpa using hs⟩,?_⟩;have e:=r.length;simp only[ja]at e;omega
def Inv.nP(I:Inv X Xa Y H s)(h:za X.K H a xs)(h':za X.K H a ys):xs=ys:=by
 obtain⟨its,r,⟨o,n,e,_,_,d⟩,_⟩:=I.list h;obtain⟨its',r',⟨o',n',e',_,_,d'⟩,_⟩:=I.list h';rw[e]at e';cases e';rw[d]at d';injection d' with d1 _
 have:its=its':=by simpa using eZ Array.toList d1
 subst this;exact r.inj r'
def Inv.m9(I:Inv X Xa Y H s)(h:uS X.K H a xs)(h':uS X.K H a ys):xs=ys:=by
 obtain⟨its,r,⟨o,e,_,n,d⟩,_⟩:=I.tuple h;obtain⟨its',r',⟨o',e',_,n',d'⟩,_⟩:=I.tuple h';rw[e]at e';cases e';rw[d]at d';injection d' with d1 _
 have:its=its':=by simpa using eZ Array.toList d1
 subst this;exact r.inj r'
end
abbrev Cx.nL(X:Cx)(E:QQX):Cx:={X with xe:=E}
abbrev Cx.ow(X:Cx):Cx:=X.nL λ_ _=>False
def Cx.Ok.nL{X:Cx}(ok:X.Ok)(E:QQX):(X.nL E).Ok:=
 ⟨ok.mod,ok.kind,ok.glob,ok.blt,ok.above,ok.inj,ok.has,ok.oE,ok.hd,ok.frames,ok.oH,ok.oX,ok.bs,ok.oa,ok.nQ,ok.nX,ok.nB,ok.om⟩
def Cx.Ok.nk{X:Cx}{E:QQX}(ok:(X.nL E).Ok):X.Ok:=
 ⟨ok.mod,ok.kind,ok.glob,ok.blt,ok.above,ok.inj,ok.has,ok.oE,ok.hd,ok.frames,ok.oH,ok.oX,ok.bs,ok.oa,ok.nQ,ok.nX,ok.nB,ok.om⟩
section
variable {Y:St}{E:QQX}
def Inv.nL(I:Inv X Xa Y H s)(E:QQX):Inv (X.nL E) Xa Y H s:=⟨I.ok.nL E,I.os,I.bare,I.base,I.loc,I.cell,I.free,I.mZ,I.pin,I.mT,I.len⟩
def Inv.nk(I:Inv (X.nL E) Xa Y H s):Inv X Xa Y H s:=⟨I.ok.nk,I.os,I.bare,I.base,I.loc,I.cell,I.free,I.mZ,I.pin,I.mT,I.len⟩
def SP.nk{D:FC}(h:SP (X.nL E) Xa D f s'):SP X Xa D f s':=by
 cases f with
 | next=>obtain⟨σ',H',I,q⟩:=h;exact⟨σ',H',I.nk,q⟩
 | brk=>obtain⟨σ',H',I,q⟩:=h;exact⟨σ',H',I.nk,q⟩
 | cont=>obtain⟨σ',H',I,q⟩:=h;exact⟨σ',H',I.nk,q⟩
 | ret u=>obtain⟨v,σ',H',I,r,q⟩:=h;exact⟨v,σ',H',I.nk,r,q⟩
def B'.ow{st:T0 ZB}(h:B' X.ow st t):B' X st t:=λXa s Y H D I hw=>eJ (h Xa s Y H D (I.nL _) hw) (λ_ _ q=>q.nk) λ_ _ z=>False.elim z
end
variable {st:ZB}{u:TS}{te:TE}
section
variable {rest:T0 ZB}{t:TS}{e:No}
def Um:TS:=λD Y H=>D.nx Y H
def V8(t u:TS):TS:=λD Y H=>t {D with nx:=u D} Y H
def OD:B' X [] Um:=λ_ _ Y H _ I h=>gZ ⟨Y,H,I,h⟩
def Mz(h1:PS X st t)(h2:B' X rest u):B' X (st::rest) (V8 t u):=by
 intro Xa s Y H D I h;refine jJ (sC (h1 Xa s Y H {D with nx:=u D} I h) λf s1 q=>?_);cases f with
 | next=>obtain⟨σ',H',I',q⟩:=q;exact h2 Xa s1 σ' H' D I' q
 | ret v=>exact q
 | brk=>exact q
 | cont=>exact q
def IJ(h1:PS X st t):B' X [st] t:=by
 intro Xa s Y H D I h;refine jJ (sC (h1 Xa s Y H D I h) λf s1 q=>?_);cases f with
 | next=>exact gZ q
 | ret v=>exact q
 | brk=>exact q
 | cont=>exact q
def Inv.quiet{Xa:QQY}(I:Inv X Xa Y H s):interactive X.env=Uf:=by simp[interactive,I.ok.kind]
def UX(te:TE):TS:=λD Y H=>te Y H λ_ H1=>D.nx Y H1
def Qh(he:PE X e te)(hs:TD e Db pos.line X.env=pure Uf:=by rfl):PS X (.Expr e pos) (UX te):=by intro Xa s Y H D I h;exact wpAny_Expr_any (sC (he Xa s Y H _ I h) λv s1 zz=>x5 zz λx H1 I1 r1 q1=>⟨Y,H1,I1,q1⟩) I.quiet hs
def Wn(te:TE):TS:=λD Y H=>te Y H D.rt
def S4(he:PE X e te):PS X (.Return (Fa e) pos) (Wn te):=by intro Xa s Y H D I h;exact wpAny_Return_some (sC (he Xa s Y H _ I h) λv s1 zz=>x5 zz λx H1 I1 r1 q1=>⟨x,Y,H1,I1,r1,q1⟩)
def Vy(c:TT)(t u:TS):TS:=λD Y H=>c Y H λb H1=>if b=pc then t D Y H1 else u D Y H1
def US(hc:PT X c tc)(ha:B' X a t)(hb:B' X b u):PS X (.If c a b pos) (Vy tc t u):=by
 intro Xa s Y H D I h;refine wpAny_If (sC (hc Xa s Y H _ I h) λd s1 ⟨H1,I1,q1⟩=>?_);cases d with
 | true=>exact ha Xa s1 Y H1 D I1 q1
 | false=>exact hb Xa s1 Y H1 D I1 q1
def RQ:TS:=λ_ _ _=>False
def L0:PS X st RQ:=λ_ _ _ _ _ _ h=>h.elim
end
abbrev TG:=V->St->Hp->(St->Hp->Prop)->Prop
abbrev QN:=T0 V->St->Hp->(St->Hp->Prop)->Prop
def PG(X:Cx)(XD:No)(t:TG):Prop:=
 ∀(Xa:QQY) (s:Sd) (Y:St) (H:Hp) (v:V) (u:Vl) (Q:St->Hp->Prop),Inv X Xa Y H s->qN v u->t v Y H Q->
  Tk (Tl X.prog X.w) X.A (assign XD X.env u) (λ_ s'=>∃σ' H',Inv X Xa σ' H' s'/\Q σ' H') X.xe s
def Oh(X:Cx)(ts:T0 No)(t:QN):Prop:=
 ∀(Xa:QQY) (s:Sd) (Y:St) (H:Hp) (vs:T0 V) (us:T0 Vl) (Q:St->Hp->Prop),Inv X Xa Y H s->qD vs us->t vs Y H Q->
  Tk (Tl X.prog X.w) X.A (assignInOrder ((wP ts X.env).map (·.2)) us) (λ_ s'=>∃σ' H',Inv X Xa σ' H' s'/\Q σ' H') X.xe s
abbrev RJ:=V->V->V->Hp->(Hp->Prop)->Prop
def UL(X:Cx)(t:RJ):Prop:=
 ∀(Xa:QQY) (s:Sd) (Y:St) (H:Hp) (o i v:V) (ov iv u:Vl) (Q:Hp->Prop),Inv X Xa Y H s->qN o ov->qN i iv->qN v u->t o i v H Q->
  Tk (Tl X.prog X.w) X.A (setItem ov iv u) (λ_ s'=>∃H',Inv X Xa Y H' s'/\Q H') X.xe s
def LY(i:Nat):TG:=λv Y H Q=>Q (Y.set i (Fa v)) H
def QI{i:Nat}{x:Str}(hN:X.N.Nodup)(hi:X.N[i]?=Fa x)(hx:K9 X.env.scope x)(hf:K' X x:=by first|exact .inl Z'|exact .inr Z'|assumption):PG X (.Name x pos) (LY i):=by intro Xa s Y H v u Q I r h;exact lu (Cb I hN hi hx r (λs' I'=>⟨_,H,I',h⟩) hf)
def Wg:QN:=λvs Y H Q=>vs=[]/\Q Y H
def T8(t:TG)(u:QN):QN:=λvs Y H Q=>∃v r,vs=v::r/\t v Y H λσ' H'=>u r σ' H' Q
def PC:Oh X [] Wg:=by intro Xa s Y H vs us Q I r h;obtain⟨e,h⟩:=h;subst e;cases r;exact assignInOrder_nil ⟨Y,H,I,h⟩
def Nc{u:QN}(h1:PG X e t)(h2:Oh X es u) (hs:(wP (e::es) X.env).map (·.2)=assign e X.env::(wP es X.env).map (·.2):=by rfl):Oh X (e::es) (T8 t u):=by
 intro Xa s Y H vs us Q I r h;obtain⟨v,vr,e1,h⟩:=h;subst e1;cases r with
 | cons r rr=>rw[hs];refine assignInOrder_cons (sC (h1 Xa s Y H _ _ _ I r h) λ_ s1 ⟨σ1,H1,I1,q1⟩=>?_);exact h2 Xa s1 σ1 H1 _ _ Q I1 rr q1
def Vu(K:qo)(n:Nat)(t:QN):TG:=λv Y H Q=>∃a xs,v=.ref a/\uS K H a xs/\xs.length=n/\t xs Y H Q
def Sv{n:Nat}(hc:X.calm=pc)(h:Oh X es t) (hn:(wP es X.env).length=n:=by rfl) (Xw:(wP es X.env).findIdx? (·.1)=Db:=by rfl):PG X (.Tuple es k pos) (Vu X.K n t):=by
 intro Xa s Y H v u Q I r hw;obtain⟨a,xs,e1,hq,hl,hw⟩:=hw;subst e1;cases r;obtain⟨its,rv,ht,hz⟩:=I.tuple hq;refine assign_Tuple_tuple (I.ok.hd hc) ht (by simp[hn,<-hl,rv.length]) Xw λh' hx=>?_;have I1:Inv X Xa Y H {s with heap:=h'}:=I.kept (t':=s.toks) λb o e=>hx b o (dU (dI e)) e;exact h Xa _ Y H xs _ Q I1 (by simpa using rv) hw
def Wk(to ti:TE)(t:RJ):TG:=λv Y H Q=>to Y H λo H1=>ti Y H1 λi H2=>t o i v H2 λH3=>Q Y H3
def RE(ho:PE X o to)(hi:PE X i ti)(hs:UL X t) (ha:∀v,assign (.Subscript o i pos) X.env v=(do
   let ov<-sB [v] (Op o X.env);let iv<-sB [v,ov] (Op i X.env)
   XXc pos
   sB [v,ov,iv] (setItem ov iv v)
   release [v,ov,iv] []):=by intro _;rfl):PG X (.Subscript o i pos) (Wk to ti t):=by
 intro Xa s Y H v u Q I r h;rw[ha];refine c9 (fu (sC (ho Xa s Y H _ I h) λov s1 zz=>x5 zz λx H1 I1 r1 q1=>?_));refine c9 (fu (sC (hi Xa s1 Y H1 _ I1 q1) λiv s2 zz=>x5 zz λy H2 I2 r2 q2=>?_));refine c9 (io (c9 (fu (sC (hs Xa s2 Y H2 x y v ov iv u _ I2 r1 r2 r q2) λ_ s3 ⟨H3,I3,q3⟩=>?_))));exact wpAny_release ⟨Y,H3,I3,q3⟩
def RH(te:TE)(g:TG):TS:=λD Y H=>te Y H λx H1=>g x Y H1 D.nx
def SE(he:PE X e te)(hg:PG X tg g)(hs:swapsWithSole [tg] e pos.line X.env=pure Uf:=by rfl)(hw:swappedStores [tg] e X.env=pure Db:=by rfl)
  (h1:(wP [tg] X.env).map (·.2)=[assign tg X.env]:=by rfl):PS X (.Assign [tg] e pos) (RH te g):=by
 intro Xa s Y H D I h;refine wpAny_Assign_stores (sC (he Xa s Y H _ I h) λv s1 zz=>x5 zz λx H1 I1 r1 q1=>?_) hs hw;rw[h1];exact sC (hg Xa s1 Y H1 x v _ I1 r1 q1) λ_ s2 q=>q
def SO{i:Nat}{x:Str}(hN:X.N.Nodup)(hi:X.N[i]?=Fa x)(hx:K9 X.env.scope x)(he:PE X e te)(hs:TD e (Fa (.Name x Xj)) pos.line X.env=pure Uf:=by rfl)(hf:K' X x:=by first|exact .inl Z'|exact .inr Z'|assumption):
  PS X (.Assign [.Name x Xj] e pos) (RH te (LY i)):=by
 intro Xa s Y H D I h;refine ly (sC (he Xa s Y H _ I h) λv s1 zz=>x5 zz λy H1 I1 r1 q1=>?_) hs;exact Cb I1 hN hi hx r1 (λs2 I2=>⟨_,H1,I2,q1⟩) hf
def SZ(c:TT)(tb:TS):TS:=λD Y H=>∃W:Nat->St->Hp->Prop,(∃m,W m Y H)/\∀m Y H,W m Y H->
 c Y H λb H1=>if b=pc then ∃N:St->Hp->Prop,(∀σ' H',N σ' H'->∃m',m'<m/\W m' σ' H')/\tb {D with nx:=N,ct:=N,bk:=D.nx} Y H1 else D.nx Y H1
def Lj{tb:TS}(hp:PassesOwn (Tl X.prog X.w) X.A X.env X.xe)(hc:PT X c tc)(hb:B' X body tb):PS X (.While c body [] pos) (SZ tc tb):=by
 intro Xa s Y H D I h;obtain⟨W,⟨m0,w0⟩,turn⟩:=h;refine wpAny_While (codeAny_whileLoop (λn s'=>∃σ' H',Inv X Xa σ' H' s'/\W n σ' H') ?_ m0 ⟨Y,H,I,w0⟩)
 rintro n s1 ⟨σ1,H1,I1,w1⟩
 refine gL hp (sC (hc Xa s1 σ1 H1 _ I1 (turn n σ1 H1 w1)) λb s2 ⟨H2,I2,q2⟩=>?_);cases b with
 | true=>
  obtain⟨N,hN,q2⟩:=q2;rw[dz Z'];refine gL hp (sC (hb Xa s2 σ1 H2 _ I2 q2) λf s3 q3=>?_);cases f with
  | next=>obtain⟨σ3,H3,I3,n3⟩:=q3;obtain⟨m',hm,w3⟩:=hN σ3 H3 n3;exact⟨m',hm,σ3,H3,I3,w3⟩
  | cont=>obtain⟨σ3,H3,I3,n3⟩:=q3;obtain⟨m',hm,w3⟩:=hN σ3 H3 n3;exact⟨m',hm,σ3,H3,I3,w3⟩
  | brk=>exact q3
  | ret v=>exact q3
 | false=>rw[dh dE];exact gZ ⟨σ1,H2,I2,q2⟩
structure It where
 go:Nat->Hp->Prop
 oS:Nat->Hp->V->Hp->Prop
 stop:Nat->Hp->Prop
def AN(X:Cx)(Xa:QQY)(H:Hp)(b:Ch):Prop:=
 H b=Db/\b≠X.env.locals/\b∉X.fs/\(b∈X.ex\/X.s₀.heap.objs.size<=b)/\(∀x c,X.env.cells.lookup x=Fa c->c≠b)/\∀p∈X.pn++Xa,p.1≠b
def Inv.nR{Xa:QQY}{H H':Hp}{b:Ch}(I:Inv X Xa Y H s)(hb:s.heap.objs.size<=b)(hn:H' b=Db):AN X Xa H' b:=by
 refine⟨hn,gH (dY I.lt hb),I.oR hb,.inr (eA I.sz hb),λx c e z=>?_,λp hp z=>?_⟩
 .obtain⟨v,q⟩:=I.cell x c e;exact absurd (dY q.lt (by rw[z];exact hb)) (fm _)
 .exact absurd (dY (dI (I.pin p hp).1) (by rw[z];exact hb)) (fm _)
structure Em(P:Pg)(w:Wo)(K:qo)(tg:No)(J:It)(fp:QXQ)(it:Ch)(tn:Nat->wp->Prop):Prop where
 mem:it∈fp
 obj:∀i h,tn i h->∀b∈fp,∃o,h.get? b=Fa o/\∀v,o.data≠.cell v
 keep:∀i h h',tn i h->(∀b∈fp,∀o,h.get? b=Fa o->h'.get? b=Fa o)->tn i h'
 item:∀(X:Cx),X.prog=P->X.w=w->X.K=K->X.calm=pc->∀(i:Nat) (Xa:QQY) (s:Sd) (Y:St) (H:Hp) (E:QQX),Inv X Xa Y H s->(∀b∈fp,AN X Xa H b)->tn i s.heap->J.go i H->
  Tk (Tl P w) X.A (pyNext (.ref it)) (λr s1=>∃u,r=Fa u/\
   Tk (Tl P w) X.A (XXh tg (.ref it) u) (λ_ s2=>∃x H',Inv X Xa Y H' s2/\qN x u/\J.oS i H x H'/\tn (i+1) s2.heap/\∀b∈fp,H' b=Db) E s1) E s
 done:∀(X:Cx),X.prog=P->X.w=w->X.K=K->X.calm=pc->∀(i:Nat) (Xa:QQY) (s:Sd) (Y:St) (H:Hp) (E:QQX),Inv X Xa Y H s->(∀b∈fp,AN X Xa H b)->tn i s.heap->J.stop i H->
  Tk (Tl P w) X.A (pyNext (.ref it)) (λr s1=>r=Db/\Inv X Xa Y H s1) E s
 self:∀(A:Ar) (i:Nat) (s:Sd) (Q:QQX) (E:QQX),tn i s.heap->Q (.ref it) s->Tk (Tl P w) A (pyIter (.ref it)) Q E s
abbrev TI:=St->Hp->(It->Hp->Prop)->Prop
def WT(X:Cx)(Xa:QQY)(Y:St)(tg:No)(R:It->Hp->Prop)(itv:Vl)(s2:Sd):Prop:=
 ∃(it:Ch) (fp:QXQ) (tn:Nat->wp->Prop) (J:It) (H':Hp),itv=.ref it/\Inv X Xa Y H' s2/\Em X.prog X.w X.K tg J fp it tn/\tn 0 s2.heap/\(∀b∈fp,AN X Xa H' b)/\R J H'
def PI(X:Cx)(tg iter:No)(wi:TI):Prop:=
 ∀(Xa:QQY) (s:Sd) (Y:St) (H:Hp) (R:It->Hp->Prop),Inv X Xa Y H s->wi Y H R->
  Tk (Tl X.prog X.w) X.A (Op iter X.env) (λv s1=>Tk (Tl X.prog X.w) X.A (pyIter v) (WT X Xa Y tg R) X.xe s1) X.xe s
def I0{M:Model}{A:Ar}{E:QQX}{s:Sd}{tg:No}{it:Ch}{u:Vl}{o:Obj}{n:String}{vs:Array Vl}{Q:Unit->Sd->Prop}(ho:s.heap.get? it=Fa o)(hc:o.cls=.type n)(hd:o.data=.fields vs) (hn:["enumerate","zip","dict_itemiterator","dict_reverseitemiterator","odict_iterator","itertools.zip_longest","itertools.pairwise"].contains n=Uf) (hQ:Q () s):Tk M A (XXh tg (.ref it) u) Q E s:=by
  unfold XXh;cases tg<;>first
    | exact dC hQ
    | (cases u<;>first
        | exact dC hQ
        | (refine c9 (wpAny_load ho ?_)
           rw[hc,hd];show Tk M A (if (["enumerate","zip","dict_itemiterator","dict_reverseitemiterator","odict_iterator","itertools.zip_longest","itertools.pairwise"].contains n&&vs[0]?==Fa (sK _))=pc then _ else _) Q E s;rw[dh (by intro h;rw[hn,fh]at h;cases h)];exact dC hQ))
noncomputable def Vp(K:qo)(a:Ch):It:=
 ⟨λi H=>∃xs x,za K H a xs/\xs[i]?=Fa x,λi H x H'=>H'=H/\∀xs,za K H a xs->xs[i]?=Fa x,λi H=>∃xs,za K H a xs/\xs.length<=i⟩
noncomputable def Wp(K:qo)(a:Ch):It:=
 ⟨λi H=>∃xs x,uS K H a xs/\xs[i]?=Fa x,λi H x H'=>H'=H/\∀xs,uS K H a xs->xs[i]?=Fa x,λi H=>∃xs,uS K H a xs/\xs.length<=i⟩
noncomputable def UA(lo:Int)(n:Nat):It:=⟨λi _=>i<n,λi H x H'=>H'=H/\x=.int (lo+i),λi _=>n<=i⟩
def Kp{K:qo}(a it:Ch):Em P w K tg (Vp K a) [it] it (λi h=>h.IsListIter it a i) where
 mem:=by simp
 obj:=λi h st b hb=>by
  have e:b=it:=by simpa using hb
  subst e;obtain⟨o,e,c,d⟩:=st;exact⟨o,e,λv z=>by rw[d]at z;cases z⟩
 keep:=λi h h' st k=>st.at λo e=>k it (by simp) o e
 item:=by intro X hP hw hK hc i Xa s Y H E I hf st hg;subst hP hw hK;obtain⟨xs,x,hq,hx⟩:=hg;obtain⟨its,rv,p,hz⟩:=I.list hq;obtain⟨u,hu,ru⟩:=rv.get hx;obtain⟨f0,f1,f2,f3,f4,f5⟩:=hf it (by simp);refine wpAny_pyNext_list_item st p.isList (x:=u) (by simpa using hu) λh' Yz sb=>?_;have I1:Inv X Xa Y H {s with heap:=h'}:=I.turned (t':=s.toks) (λb o hb e=>(sb.2 b hb).trans e) f0 f1 f3 f4 f5;obtain⟨o,e,c,d⟩:=id Yz;exact⟨u,Z',I0 (s:={s with heap:=h'}) e c d (by decide) ⟨x,H,I1,ru,⟨Z',λys hy=>by rw[I.nP hy hq];exact hx⟩,Yz,λb hb=>(hf b hb).1⟩⟩
 done:=by intro X hP hw hK hc i Xa s Y H E I hf st hg;subst hP hw hK;obtain⟨xs,hq,hx⟩:=hg;obtain⟨its,rv,p,hz⟩:=I.list hq;obtain⟨f0,f1,f2,f3,f4,f5⟩:=hf it (by simp);have hl:=rv.length;exact wpAny_pyNext_list_end (I.ok.hd hc) st p.isList (by simp;omega) λh' eb=>⟨Z',I.turned (t':=s.toks) (λb o hb e=>eb b o hb e) f0 f1 f3 f4 f5⟩
 self:=λ_ _ _ _ _ st h=>wpAny_pyIter_listiter st h
def Iv{K:qo}(a it:Ch):Em P w K tg (Wp K a) [it] it (λi h=>h.IsTupleIter it a i) where
 mem:=by simp
 obj:=λi h st b hb=>by
  have e:b=it:=by simpa using hb
  subst e;obtain⟨o,e,c,d⟩:=st;exact⟨o,e,λv z=>by rw[d]at z;cases z⟩
 keep:=λi h h' st k=>st.at λo e=>k it (by simp) o e
 item:=by intro X hP hw hK hc i Xa s Y H E I hf st hg;subst hP hw hK;obtain⟨xs,x,hq,hx⟩:=hg;obtain⟨its,rv,p,hz⟩:=I.tuple hq;obtain⟨u,hu,ru⟩:=rv.get hx;obtain⟨f0,f1,f2,f3,f4,f5⟩:=hf it (by simp);refine wpAny_pyNext_tuple_item st (show s.heap.IsTuple a its.toArray from p) (x:=u) (by simpa using hu) λh' Yz sb=>?_;have I1:Inv X Xa Y H {s with heap:=h'}:=I.turned (t':=s.toks) (λb o hb e=>(sb.2 b hb).trans e) f0 f1 f3 f4 f5;obtain⟨o,e,c,d⟩:=id Yz;exact⟨u,Z',I0 (s:={s with heap:=h'}) e c d (by decide) ⟨x,H,I1,ru,⟨Z',λys hy=>by rw[I.m9 hy hq];exact hx⟩,Yz,λb hb=>(hf b hb).1⟩⟩
 done:=by intro X hP hw hK hc i Xa s Y H E I hf st hg;subst hP hw hK;obtain⟨xs,hq,hx⟩:=hg;obtain⟨its,rv,p,hz⟩:=I.tuple hq;obtain⟨f0,f1,f2,f3,f4,f5⟩:=hf it (by simp);have hl:=rv.length;exact wpAny_pyNext_tuple_end (I.ok.hd hc) st (show s.heap.IsTuple a its.toArray from p) (by simp;omega) λh' eb=>⟨Z',I.turned (t':=s.toks) (λb o hb e=>eb b o hb e) f0 f1 f3 f4 f5⟩
 self:=λ_ _ _ _ _ st h=>wpAny_pyIter_tupleiter st h
def Ie{K:qo}(it:Ch)(lo:Int)(n:Nat):Em P w K tg (UA lo n) [it] it (λi h=>IsRangeIter h it (lo+(i:Nat)*1) ((n:Int) - (i:Nat)) 1) where
 mem:=by simp
 obj:=λi h st b hb=>by
  have e:b=it:=by simpa using hb
  subst e;exact⟨_,st,λv z=>by
   have z':Data.fields _=Data.cell v:=z;cases z'⟩
 keep:=λi h h' st k=>k it (by simp) _ st
 item:=by intro X hP hw hK hc i Xa s Y H E I hf st hg;subst hP hw hK;obtain⟨f0,f1,f2,f3,f4,f5⟩:=hf it (by simp);have W:=Walks.range (prog:=X.prog) (w:=X.w) (I.ok.hd hc) it lo 1 n;refine W.item i s _ _ hg st λv h' tk hv Yz kk=>?_;obtain⟨t,rfl⟩:=hv;have I1:Inv X Xa Y H {s with heap:=h',toks:=tk}:=I.turned (λb o hb e=>kk b o (by simpa using hb) e) f0 f1 f3 f4 f5;refine⟨_,Z',I0 (s:={s with heap:=h',toks:=tk}) (n:="range_iterator") Yz Z' Z' (by decide) ⟨.int (lo+i),H,I1,⟨t,?_⟩,⟨Z',Z'⟩,Yz,λb hb=>(hf b hb).1⟩⟩;rw[Int.mul_one]
 done:=by intro X hP hw hK hc i Xa s Y H E I hf st hg;subst hP hw hK;obtain⟨f0,f1,f2,f3,f4,f5⟩:=hf it (by simp);exact wpAny_pyNext_range_end (I.ok.hd hc) st (by have:n<=i:=hg;omega) λh' eb=>⟨Z',I.turned (t':=s.toks) (λb o hb e=>eb b o hb e) f0 f1 f3 f4 f5⟩
 self:=λ_ _ _ _ _ st h=>wpAny_pyIter_rangeiter st h
variable {tg:No}
def Gn{Xa:QQY}{R:It->Hp->Prop}{E:QQX}{lo hi:Int}{t u v:Tok}{tk:Nat}(I:Inv X Xa Y H s)(h1:-(2 ^ 62)<=lo)(h2:lo<2 ^ 62)(h3:-(2 ^ 62)<=hi)(h4:hi<2 ^ 62) (q:R (UA lo (hi - lo).toNat) H):Tk (Tl X.prog X.w) X.A (pyIter (.ref s.heap.objs.size)) (WT X Xa Y tg R) E {s with heap:=s.heap.push {cls:=.type "range",data:=.fields #[.int lo t,.int hi u,.int 1 v]},toks:=tk}:=by
 refine wpAny_pyIter_range (IsRange.new ..) (small_one h1 h2 h3 h4) ?_;have I1:Inv X Xa Y H {s with heap:=s.heap.push {cls:=.type "range",data:=.fields #[.int lo t,.int hi u,.int 1 v]},toks:=tk}:=I.kept λb o e=>dq _ e;refine⟨(s.heap.push {cls:=.type "range",data:=.fields #[.int lo t,.int hi u,.int 1 v]}).objs.size,[(s.heap.push {cls:=.type "range",data:=.fields #[.int lo t,.int hi u,.int 1 v]}).objs.size],_,_,H,Z',I1.kept (t':=tk) λb o e=>dq _ e,Ie _ lo (hi - lo).toNat,?_,λb hb=>?_,q⟩
 .have e1:lo+((0:Nat):Int)*1=lo:=by simp
  have e2:(((hi - lo).toNat:Nat):Int) - ((0:Nat):Int)=Builtin.Range.rangeSize lo hi 1:=by rw[rangeSize_one];split<;>omega
  show IsRangeIter _ _ (lo+((0:Nat):Int)*1) ((((hi - lo).toNat:Nat):Int) - ((0:Nat):Int)) 1;rw[e1,e2];exact dN _ Z'
 .have e:b=(s.heap.push {cls:=.type "range",data:=.fields #[.int lo t,.int hi u,.int 1 v]}).objs.size:=by simpa using hb
  subst e;exact I1.nR (dB _) (I1.mT.fresh (dB _))
def UC(ta:TA):TI:=λY H R=>ta Y H λvs H1=>∃j:Int,vs=[.int j]/\-(2 ^ 62)<=j/\j<2 ^ 62/\R (UA 0 j.toNat) H1
def UJ(ta:TA):TI:=λY H R=>ta Y H λvs H1=>∃i j:Int,vs=[.int i,.int j]/\(-(2 ^ 62)<=i/\i<2 ^ 62/\-(2 ^ 62)<=j/\j<2 ^ 62)/\R (UA i (j - i).toNat) H1
def Ki{a:No}{ta:TA}(hg:Gl X "range")(hm:X.mg "range"=Db)(ha:PA X [a] ta)(hs:zn [a] X.env=[(Uf,Op a X.env)]:=by rfl):PI X tg (.Call (.Name "range" p) [a] [] pos) (UC ta):=by
 intro Xa s Y H R I h;refine Call_ (wm I hg hm boot_range (fG (sC (ha pos Xa s Y H _ I h) λus s1 zz=>x5 zz λvs H1 I1 r1 q1=>?_) hs Z'));obtain⟨j,e,q1,q2,q⟩:=q1;subst e;cases r1 with
 | cons r rr=>cases rr;obtain⟨t,rfl⟩:=r;exact call_range_1 (Gn I1 (by omega) (by omega) q1 q2 (by simpa using q))
def JX{a b:No}{ta:TA}{p pos:Pos}(hg:Gl X "range")(hm:X.mg "range"=Db)(ha:PA X [a,b] ta)(hs:zn [a,b] X.env=[(Uf,Op a X.env),(Uf,Op b X.env)]:=by rfl)(X0:zn [b] X.env=[(Uf,Op b X.env)]:=by rfl):
  PI X tg (.Call (.Name "range" p) [a,b] [] pos) (UJ ta):=by
 intro Xa s Y H R I h;refine Call_ (wm I hg hm boot_range (fG (sC (ha pos Xa s Y H _ I h) λus s1 zz=>x5 zz λvs H1 I1 r1 q1=>?_) (by rw[hs,X0]) (by rw[X0];rfl)));obtain⟨i,j,e,⟨q1,q2,q3,q4⟩,q⟩:=q1;subst e;cases r1 with
 | cons r rr=>
  cases rr with
  | cons r' rr=>cases rr;obtain⟨t,rfl⟩:=r;obtain⟨t',rfl⟩:=r';exact call_range_2 (Gn I1 q1 q2 q3 q4 q)
def Wt(wi:TI)(g:TG)(tb:TS):TS:=λD Y H=>wi Y H λJ H1=>∃W:Nat->Nat->St->Hp->Prop,(∃m,W 0 m Y H1)/\∀i m Y H,W i m Y H->
 (J.stop i H/\D.nx Y H)\/(J.go i H/\∃N:St->Hp->Prop,(∀σ' H',N σ' H'->∃m',m'<m/\W (i+1) m' σ' H')/\∀x H',J.oS i H x H'->g x Y H' λσ2 H2=>tb {D with nx:=N,ct:=N,bk:=D.nx} σ2 H2)
noncomputable def CK(fp:QXQ)(h:wp):QQY:=fp.filterMap λb=>(h.get? b).map λo=>(b,o)
def vF{fp:QXQ}{h:wp}{b:Ch}{o:Obj}(hb:b∈fp)(e:h.get? b=Fa o):(b,o)∈CK fp h:=kT.mpr ⟨b,hb,by rw[e];rfl⟩
def K5{p:Ch×Obj}(hp:p∈CK fp h):p.1∈fp/\h.get? p.1=Fa p.2:=by
 obtain⟨b,hb,e⟩:=kT.mp hp;cases q:h.get? b with
 | none=>rw[q]at e;cases e
 | some o=>rw[q]at e;have e':(b,o)=p:=dA e;subst e';exact⟨hb,q⟩
def Inv.pinned{Xa:QQY}{fp:QXQ}(I:Inv X Xa Y H s)(hf:∀b∈fp,AN X Xa H b)(ho:∀b∈fp,∃o,s.heap.get? b=Fa o/\∀v,o.data≠.cell v):Inv X (Xa++CK fp s.heap) Y H s:=
 I.nN λp hp=>(dX.mp hp).elim (λz=>I.pin p (eM _ z)) λz=>by obtain⟨hb,e⟩:=K5 z;obtain⟨f0,f1,f2,_⟩:=hf p.1 hb;obtain⟨o,e',d⟩:=ho p.1 hb;rw[e]at e';cases e';exact⟨e,f0,f1,f2,d⟩
def Inv.m7{Xa pl:QQY}(I:Inv X (Xa++pl) Y H s):Inv X Xa Y H s:=I.nN λp hp=>I.pin p (eM _ (fK _ hp))
def RK{tb:TS}(hp:PassesOwn (Tl X.prog X.w) X.A X.env X.xe)(hc:X.calm=pc)(hi:PI X tg iter wi)(hg:PG X tg g)(hb:B' X body tb) (hs:∀x,XV iter X.env x=pure x:=by intro _;rfl):PS X (.For tg iter body [] pos) (Wt wi g tb):=by
 intro Xa s Y H D I h;refine wpAny_For (sC (hi Xa s Y H _ I h) λv s1 h1=>sC h1 λitv s2 h2=>?_) hs;obtain⟨it,fp,tn,J,H2,e,I2,T,Xx,f2,W,⟨m0,w0⟩,turn⟩:=h2;subst e;have Ys:∀{H':Hp},(∀b∈fp,H' b=Db)->∀b∈fp,AN X Xa H' b:=λhn b hb=>⟨hn b hb,(f2 b hb).2⟩;refine codeAny_forLoop_any (λn s'=>∃i σ' H',Inv X Xa σ' H' s'/\tn i s'.heap/\(∀b∈fp,H' b=Db)/\W i n σ' H') ?_ m0 ⟨0,Y,H2,I2,Xx,λb hb=>(f2 b hb).1,w0⟩
 rintro n s3 ⟨i,σ3,H3,I3,X4,fr3,w3⟩
 rcases turn i n σ3 H3 w3 with⟨stop,qn⟩|⟨go,N,hN,step⟩
 .refine gL hp (sC (T.done X Z' Z' Z' hc i Xa s3 σ3 H3 X.xe I3 (Ys fr3) X4 stop) λr s4 ⟨hr,I4⟩=>?_);subst hr;exact gZ ⟨σ3,H3,I4,qn⟩
 .refine gL hp (sC (T.item X Z' Z' Z' hc i Xa s3 σ3 H3 X.xe I3 (Ys fr3) X4 go) λr s4 ⟨u,hr,h4⟩=>?_);subst hr;refine gL hp (sC h4 λ_ s5 zz=>?_);obtain⟨x,H5,I5,r5,y5,ZN,fr5⟩:=zz;have I5':=I5.pinned (Ys fr5) (T.obj _ _ ZN);refine gL hp (sC (hg _ s5 σ3 H5 x u _ I5' r5 (step x H5 y5)) λ_ s6 ⟨σ6,H6,I6,q6⟩=>?_);refine gL hp (sC (hb _ s6 σ6 H6 _ I6 q6) λf s7 q7=>?_);have again:∀{σ7:St} {H7:Hp},Inv X (Xa++CK fp s5.heap) σ7 H7 s7->N σ7 H7->∃m,m<n/\∃i σ' H',Inv X Xa σ' H' s7/\tn i s7.heap/\(∀b∈fp,H' b=Db)/\W i m σ' H':=λ{σ7 H7} I7 n7=>by obtain⟨m',hm,w7⟩:=hN σ7 H7 n7;refine⟨m',hm,i+1,σ7,H7,I7.m7,T.keep _ _ _ ZN λb hb o e=>(I7.pin (b,o) (eM _ (eM _ (vF hb e)))).1,λb hb=>?_,w7⟩;obtain⟨o,e,d⟩:=T.obj _ _ ZN b hb;exact(I7.pin (b,o) (eM _ (eM _ (vF hb e)))).2.1
  cases f with
  | next=>obtain⟨σ7,H7,I7,n7⟩:=q7;exact again I7 n7
  | cont=>obtain⟨σ7,H7,I7,n7⟩:=q7;exact again I7 n7
  | brk=>obtain⟨σ7,H7,I7,q7⟩:=q7;exact⟨σ7,H7,I7.m7,q7⟩
  | ret v=>obtain⟨x7,σ7,H7,I7,r7,q7⟩:=q7;exact⟨x7,σ7,H7,I7.m7,r7,q7⟩
abbrev R2:=V->V->Hp->VK->Prop
def ya(X:Cx)(f:Vl->Vl->Sem Vl)(r:R2):Prop:=
 ∀(Xa:QQY) (s:Sd) (Y:St) (H:Hp) (x y:V) (v u:Vl) (Q:VK),Inv X Xa Y H s->qN x v->qN y u->r x y H Q->
  Tk (Tl X.prog X.w) X.A (f v u) (EP X Xa Y Q) X.xe s
def Vs(X:Cx)(f:Vl->Sem Vl)(r:V->Hp->VK->Prop):Prop:=
 ∀(Xa:QQY) (s:Sd) (Y:St) (H:Hp) (x:V) (v:Vl) (Q:VK),Inv X Xa Y H s->qN x v->r x H Q->
  Tk (Tl X.prog X.w) X.A (f v) (EP X Xa Y Q) X.xe s
def zm(X:Cx)(f:Vl)(r:T0 V->Hp->VK->Prop):Prop:=
 ∀(Xa:QQY) (s:Sd) (Y:St) (H:Hp) (xs:T0 V) (us:T0 Vl) (Q:VK),Inv X Xa Y H s->qD xs us->r xs H Q->
  Tk (Tl X.prog X.w) X.A (call f us) (EP X Xa Y Q) X.xe s
def UR(r:R2)(ta tb:TE):TE:=λY H Q=>ta Y H λx H1=>tb Y H1 λy H2=>r x y H2 Q
def WY(r:V->Hp->VK->Prop)(ta:TE):TE:=λY H Q=>ta Y H λx H1=>r x H1 Q
def rI(C:Int->Int->Prop)(g:Int->Int->V):R2:=λx y H Q=>∃i j,x=.int i/\y=.int j/\C i j/\Q (g i j) H
def Q1(g:Int->Int->V):R2:=λx y H Q=>∃i j,x=.int i/\y=.int j/\Q (g i j) H
def rU(g:Int->V):V->Hp->VK->Prop:=λx H Q=>∃i,x=.int i/\Q (g i) H
variable {tc:TE}
section
variable {a b c:No}
def SN(ha:PE X a ta)(hb:PE X b tb){Xa:QQY}{s:Sd}{Y:St}{H:Hp}{R:V->V->Hp->Prop}(I:Inv X Xa Y H s) (h:ta Y H λx H1=>tb Y H1 λy H2=>R x y H2) {Q:QQX} {f:Vl->Vl->Sem Vl} (hf:∀v u s2 x y H2,Inv X Xa Y H2 s2->qN x v->qN y u->R x y H2->Tk (Tl X.prog X.w) X.A (f v u) Q X.xe s2):
  Tk (Tl X.prog X.w) X.A (Op a X.env) (λv s₁=>Tk (Tl X.prog X.w) X.A (Op b X.env) (λu s₂=>Tk (Tl X.prog X.w) X.A (f v u) Q X.xe s₂) X.xe s₁) X.xe s:=by
 refine sC (ha Xa s Y H _ I h) λv s1 zz=>x5 zz λx H1 I1 r1 q1=>?_;refine sC (hb Xa s1 Y H1 _ I1 q1) λu s2 zz=>x5 zz λy H2 I2 r2 q2=>?_;exact hf v u s2 x y H2 I2 r1 r2 q2
def QZ{op:XYa}(ho:ya X (wS op) r)(ha:PE X a ta)(hb:PE X b tb):PE X (.BinOp a op b pos) (UR r ta tb):=by intro Xa s Y H Q I h;exact wpAny_BinOp (SN ha hb I h λv u s2 x y H2 I2 rx ry q=>ho Xa s2 Y H2 x y v u Q I2 rx ry q)
def U5{op:UnaryOp}(ho:Vs X (unaryOp op) r)(ha:PE X a ta):PE X (.UnaryOp op a pos) (WY r ta):=by intro Xa s Y H Q I h;exact UnaryOp_ (sC (ha Xa s Y H _ I h) λv s1 zz=>x5 zz λx H1 I1 r1 q1=>ho Xa s1 Y H1 x v Q I1 r1 q1)
def VI{f:Vl->Vl->Sem Vl}{C:Int->Int->Prop}{g:Int->Int->Int} (rule:∀(i j:Int) (t u:Tok) (s:Sd) (Q:QQX) (E:QQX),C i j->Q (.int (g i j) s.toks) {s with toks:=s.toks+1}->Tk (Tl X.prog X.w) X.A (f (.int i t) (.int j u)) Q E s):
  ya X f (rI C λi j=>.int (g i j)):=by
 intro Xa s Y H x y v u Q I rx ry h;obtain⟨i,j,rfl,rfl,hc,q⟩:=h;obtain⟨t,rfl⟩:=rx;obtain⟨t',rfl⟩:=ry;exact rule i j t t' s _ _ hc ⟨.int (g i j),H,I.tok _,⟨_,Z'⟩,q⟩
def TX{f:Vl->Vl->Sem Vl}{g:Int->Int->Int} (rule:∀(i j:Int) (t u:Tok) (s:Sd) (Q:QQX) (E:QQX),Q (.int (g i j) s.toks) {s with toks:=s.toks+1}->Tk (Tl X.prog X.w) X.A (f (.int i t) (.int j u)) Q E s):
  ya X f (Q1 λi j=>.int (g i j)):=by
 intro Xa s Y H x y v u Q I rx ry h;obtain⟨i,j,rfl,rfl,q⟩:=h;obtain⟨t,rfl⟩:=rx;obtain⟨t',rfl⟩:=ry;exact rule i j t t' s _ _ ⟨.int (g i j),H,I.tok _,⟨_,Z'⟩,q⟩
def QG{f:Vl->Vl->Sem Vl}{g:Int->Int->Bool} (rule:∀(i j:Int) (t u:Tok) (s:Sd) (Q:QQX) (E:QQX),Q (.bool (g i j)) s->Tk (Tl X.prog X.w) X.A (f (.int i t) (.int j u)) Q E s):
  ya X f (Q1 λi j=>.bl (g i j)):=by
 intro Xa s Y H x y v u Q I rx ry h;obtain⟨i,j,rfl,rfl,q⟩:=h;obtain⟨t,rfl⟩:=rx;obtain⟨t',rfl⟩:=ry;exact rule i j t t' s _ _ ⟨.bl (g i j),H,I,Z',q⟩
def UE(i j:Int):Prop:=0<j/\j<1073741824
def CS(i j:Int):Prop:=(-(2 ^ 64)<i/\i<2 ^ 64)\/(-(2 ^ 64)<j/\j<2 ^ 64)
def CS.ok(h:CS i j):IntMulOk i j:=by
 rcases h with⟨h1,h2⟩|⟨h1,h2⟩
 .exact .of_left (intBits_le_64 h1 h2)
 .exact .of_right (intBits_le_64 h1 h2)
def R1:ya X (wS .Add) (Q1 λi j=>.int (i+j)):=TX λ_ _ _ _ _ _ _ q=>add_int q
def Rv:ya X (wS .Sub) (Q1 λi j=>.int (i - j)):=TX λ_ _ _ _ _ _ _ q=>sub_int q
def R9:ya X (wS .Mult) (rI CS λi j=>.int (i*j)):=VI λ_ _ _ _ _ _ _ hc q=>mul_int q hc.ok
def Qr:ya X (wS .FloorDiv) (rI UE λi j=>.int (i / j)):=VI λi j _ _ _ _ _ hc q=>by have h1:(0:Int)<j:=hc.1;have h2:j<1073741824:=hc.2;exact floordiv_int (by omega) (by rw[Int.fdiv_eq_ediv_of_nonneg i (by omega)];exact q) (.inl (PyProof.noPylong_small (by omega)))
def RD:ya X (wS .Mod) (rI (λ_ j=>0<j) λi j=>.int (i % j)):=VI λi j _ _ _ _ _ hc q=>by have h1:(0:Int)<j:=hc;exact mod_int' (by omega) (by rw[Int.fmod_eq_emod_of_nonneg i (by omega)];exact q)
def W4{f:Vl->Sem Vl}{g:Int->Int} (rule:∀(i:Int) (t:Tok) (s:Sd) (Q:QQX) (E:QQX),Q (.int (g i) s.toks) {s with toks:=s.toks+1}->Tk (Tl X.prog X.w) X.A (f (.int i t)) Q E s):
  Vs X f (rU λi=>.int (g i)):=by
 intro Xa s Y H x v Q I rx h;obtain⟨i,rfl,q⟩:=h;obtain⟨t,rfl⟩:=rx;exact rule i t s _ _ ⟨.int (g i),H,I.tok _,⟨_,Z'⟩,q⟩
def Tg:Vs X (unaryOp .USub) (rU λi=>.int (-i)):=W4 λ_ _ _ _ _ q=>neg_int q
end
section
variable {a b c:No}
def Iq{Xa:QQY}{Q:VK}{k k':Bool}(I:Inv X Xa Y H s)(q:Q (.bl k) H)(e:k=k'):EP X Xa Y Q (.bool k') s:=by subst e;exact⟨.bl k,H,I,Z',q⟩
def Ua:ya X (Ps .Lt) (Q1 λi j=>.bl (decide (i<j))):=QG λ_ _ _ _ _ _ _ q=>lt_int q
def TZ:ya X (Ps .LtE) (Q1 λi j=>.bl (decide (i<=j))):=QG λ_ _ _ _ _ _ _ q=>le_int q
def UB:ya X (Ps .Gt) (Q1 λi j=>.bl (decide (j<i))):=QG λ_ _ _ _ _ _ _ q=>gt_int q
def Uv:ya X (Ps .GtE) (Q1 λi j=>.bl (decide (j<=i))):=QG λ_ _ _ _ _ _ _ q=>ge_int q
def KY:ya X (Ps .In) (λx y H Q=>∃i j,x=.str i/\y=.str j/\Q (.bl (!(Builtin.Str.occurrences j i 0 j.length 1).isEmpty)) H):=by intro Xa s Y H x y v u Q I rx ry h;obtain⟨i,j,rfl,rfl,q⟩:=h;obtain⟨t,rfl⟩:=rx;obtain⟨t',rfl⟩:=ry;exact in_str (Iq I q Z')
def SD:ya X (Ps .Is) (λx y H Q=>y=.mP/\Q (.bl (decide (x=.mP))) H):=by
 intro Xa s Y H x y v u Q I rx ry h;obtain⟨rfl,q⟩:=h;cases ry;refine is_none_gen (Iq I q ?_);cases x<;>first
  | (cases rx;rfl)
  | (obtain⟨t,rfl⟩:=rx;rfl)
def QC:ya X (Ps .IsNot) (λx y H Q=>y=.mP/\Q (.bl (!decide (x=.mP))) H):=by
 intro Xa s Y H x y v u Q I rx ry h;obtain⟨rfl,q⟩:=h;cases ry;refine isnot_none_gen (Iq I q ?_);cases x<;>first
  | (cases rx;rfl)
  | (obtain⟨t,rfl⟩:=rx;rfl)
def Iu(b:No){op:CmpOp}(h:op≠.In:=by decide)(h2:op≠.NotIn:=by decide):AT op b=Uf:=by
 have e1:(op==CmpOp.In)=Uf:=by cases op<;>first|rfl|exact absurd Z' h
 have e2:(op==CmpOp.NotIn)=Uf:=by cases op<;>first|rfl|exact absurd Z' h2
 cases b<;>simp[AT,e1,e2]
def Jt{op:CmpOp}(ho:ya X (Ps op) r)(ha:PE X a ta)(hb:PE X b tb)(hm:AT op b=Uf):PE X (.Compare a [op] [b] pos) (UR r ta tb):=by intro Xa s Y H Q I h;exact wpAny_Compare1 (SN ha hb I h λv u s2 x y H2 I2 rx ry q=>ho Xa s2 Y H2 x y v u Q I2 rx ry q) hm
def Q5(t:TE):TT:=λY H Q=>t Y H λx H'=>∃k,x=.bl k/\Q k H'
def IP{op:CmpOp}(ho:ya X (Ps op) r)(ha:PE X a ta)(hb:PE X b tb)(hm:AT op b=Uf):PT X (.Compare a [op] [b] pos) (Q5 (UR r ta tb)):=by
 intro Xa s Y H Q I h;refine wpAny_isTrue_Compare1 (sC (ha Xa s Y H _ I h) λv s1 zz=>x5 zz λx H1 I1 r1 q1=>sC (hb Xa s1 Y H1 _ I1 q1) λu s2 zz=>x5 zz λy H2 I2 r2 q2=>
  sC (ho Xa s2 Y H2 x y v u _ I2 r1 r2 q2) λc s3 zz=>?_) hm
 obtain⟨z,H3,I3,r3,k,e,q3⟩:=zz;subst e;cases r3;exact fA ⟨H3,I3,q3⟩
def Ny(r r':R2)(ta tb tc:TE):TE:=λY H Q=>ta Y H λx H1=>tb Y H1 λy H2=>r x y H2 λz H3=>∃k,z=.bl k/\
 (if k=pc then tc Y H3 λw' H4=>r' y w' H4 Q else Q (.bl Uf) H3)
def MY{op X5:CmpOp}(ho:ya X (Ps op) r)(XT:ya X (Ps X5) r')(ha:PE X a ta)(hb:PE X b tb)(hc:PE X c tc) (hm:lastMarks [op,X5] [b,c]=Uf:=by with_unfolding_all rfl):PE X (.Compare a [op,X5] [b,c] pos) (Ny r r' ta tb tc):=by
 intro Xa s Y H Q I h;refine Compare_chain (sC (ha Xa s Y H _ I h) λv s1 zz=>x5 zz λx H1 I1 r1 q1=>chain_link (sC (hb Xa s1 Y H1 _ I1 q1) λu s2 zz=>x5 zz λy H2 I2 r2 q2=>
  sC (ho Xa s2 Y H2 x y v u _ I2 r1 r2 q2) λd s3 zz=>?_)) hm
 obtain⟨z,H3,I3,r3,k,e,q3⟩:=zz;subst e;cases r3;refine fA ?_;cases k with
 | false=>exact ite_ff ⟨.bl Uf,H3,I3,Z',q3⟩
 | true=>exact ite_tt (chain_last (sC (hc Xa s3 Y H3 _ I3 q3) λw' s4 zz=>x5 zz λz' H4 I4 r4 q4=>XT Xa s4 Y H4 y z' u w' Q I4 r2 r4 q4))
def NI{op X5:CmpOp}(ho:ya X (Ps op) r)(XT:ya X (Ps X5) r')(ha:PE X a ta)(hb:PE X b tb)(hc:PE X c tc) (hm:lastMarks [op,X5] [b,c]=Uf:=by with_unfolding_all rfl):PT X (.Compare a [op,X5] [b,c] pos) (Q5 (Ny r r' ta tb tc)):=by
 intro Xa s Y H Q I h;refine isTrue_chain (sC (ha Xa s Y H _ I h) λv s1 zz=>x5 zz λx H1 I1 r1 q1=>test_link (sC (hb Xa s1 Y H1 _ I1 q1) λu s2 zz=>x5 zz λy H2 I2 r2 q2=>
  sC (ho Xa s2 Y H2 x y v u _ I2 r1 r2 q2) λd s3 zz=>?_)) hm
 obtain⟨z,H3,I3,r3,k,e,q3⟩:=zz;subst e;cases r3;refine fA ?_;cases k with
 | false=>obtain⟨k',e',q'⟩:=q3;cases e';exact ite_ff ⟨H3,I3,q'⟩
 | true=>refine ite_tt (test_last (sC (hc Xa s3 Y H3 _ I3 q3) λw' s4 zz=>x5 zz λz' H4 I4 r4 q4=>sC (XT Xa s4 Y H4 y z' u w' _ I4 r2 r4 q4) λd' s5 zz=>?_));obtain⟨z2,H5,I5,r5,k2,e2,q5⟩:=zz;subst e2;cases r5;exact fA ⟨H5,I5,q5⟩
def yY:(pi:Nat)<2 ^ 63:=by rw[dS];decide
def HH:ya X (wS .Add) (λx y H Q=>∃i j,x=.str i/\y=.str j/\i.length+j.length<=pi/\Q (.str (i++j)) H):=by intro Xa s Y H x y v u Q I rx ry h;obtain⟨i,j,rfl,rfl,hz,q⟩:=h;obtain⟨t,rfl⟩:=rx;obtain⟨t',rfl⟩:=ry;exact add_str (λt' tk=>⟨.str (i++j),H,I.tok _,⟨_,Z'⟩,q⟩) hz
def xS{x:V}(r:qD [x] us):∃u,us=[u]/\qN x u:=by
 cases r with
 | cons r1 r2=>cases r2;exact⟨_,Z',r1⟩
def Nd{x y:V}(r:qD [x,y] us):∃u w',us=[u,w']/\qN x u/\qN y w':=by
 cases r with
 | cons r1 r2=>
  cases r2 with
  | cons r3 r4=>cases r4;exact⟨_,_,Z',r1,r3⟩
def Kx(hc:X.calm=pc):zm X (.builtin "min") (λxs H Q=>∃i j,xs=[.int i,.int j]/\Q (.int (if j<i then j else i)) H):=by
 intro Xa s Y H xs us Q I r h;obtain⟨i,j,rfl,q⟩:=h;obtain⟨u,w',rfl,⟨t,rfl⟩,⟨t',rfl⟩⟩:=Nd r;refine min_two_ints (I.ok.hd hc) λh' tk k=>⟨_,H,I.kept k,?_,q⟩;by_cases hj:j<i
 .rw[dz hj,dz hj];exact⟨_,Z'⟩
 .rw[dh hj,dh hj];exact⟨_,Z'⟩
end
structure HK(h:wp)(x dx C:Ch)(mA:QQZ):Prop where
 obj:h.get? x=Fa (W.instObj C dx)
 ns:h.Ns1 dx mA
 ne:dx≠x
def Kd{h:wp}{dx:Ch}{mA:QQZ}(n:h.Ns1 dx mA):∃od,h.get? dx=Fa od/\∀name,W.lookIn name od=Fa (mA name):=by
 obtain⟨o,es,ep,ho,hd,hk,_,hm⟩:=n;refine⟨o,ho,λname=>?_⟩;have e:=hm name;unfold nsFind findBy at e;rw[<-Array.find?_toList]at e;unfold W.lookIn;rw[hd];dsimp only;split
 .rename_i y q;rw[q]at e;exact eZ Fa e
 .rename_i q;rw[q]at e;have a:es.toList.any (·.refKey)=Uf:=by rw[lz];intro y hy;obtain⟨z,t,hkey⟩:=hk y (ku.mp hy);simp[DictEntry.refKey,hkey]
  have a':¬es.toList.any (·.refKey)=pc:=by rw[a];exact dE
  rw[dh a'];exact eZ Fa e
def HK.look(I:HK h x dx C mA):∃od,W.InstAt h x (W.instObj C dx) C (Fa od)/\∀name,W.lookIn name od=Fa (mA name):=
 let⟨od,ho,hl⟩:=Kd I.ns
 ⟨od,⟨I.obj,Z',Z',ho⟩,hl⟩
variable {prog:Pg}{A:Ar}{K:qo}{dx C:Ch}{mA:QQZ}{name:Str}
section
variable {w:Wo}{E:QQX}{x f:Ch}{v:Vl}
def PJ{expr:Bool}{Q:QQX}(X:K.In s.heap)(I:HK s.heap x dx C mA)(hg:W.plainGet K C name=pc)(hh:W.hasDictIn K C=pc) (ha:W.findIn K (.ref C) name=Fa Db) (hv:mA name=Fa v) (hv':W.handedIn v=pc) (h:Q v {s with toks:=s.toks+1}):
  Tk (Tl prog w) A (getAttr (.ref x) name expr) Q E s:=by
 obtain⟨od,J,hl⟩:=I.look;exact W.get_value X J (kB hg).1 (W.findObj_own hh ha Z' (by rw[hl,hv])) hv' h
def Nr{pl:Sem Bool}{Q:Vl×T0 Vl->Sd->Prop}(X:K.In s.heap)(I:HK s.heap x dx C mA)(hg:W.plainGet K C name=pc) (hf:W.findIn K (.ref C) name=Fa (Fa (.ref f))) (ht:W.isFn K (.ref f)=pc) (hv:mA name=Db) (h:Q (.ref f,[.ref x]) s):
  Tk (Tl prog w) A (o0 (.ref x) name pl) Q E s:=by
 obtain⟨od,J,hl⟩:=I.look;exact W.method_fn X J (kB hg).1 (kB hg).2 hf (fB.mp ht) (by show(W.lookIn name od).map (·.isSome)=Fa Uf;rw[hl,hv];rfl) h
def Oo{Q:Unit->Sd->Prop}(X:K.In s.heap)(I:HK s.heap x dx C mA) (hs:W.findIn K (.ref C) "__setattr__"=Fa (Fa (.builtin "object.__setattr__"))) (hp:W.plainOver K C=pc) (ht:W.takerIn K C name=Fa Db) (hh:W.hasDictIn K C=pc) (hw:PySem.Within mA ns) (hsz:ns.length<=pi) (h:∀h',HK h' x dx C (λy=>if y=name then Fa v else mA y)->Heap.SameBut dx s.heap h'->Q () {s with heap:=h',toks:=s.toks+2}):
  Tk (Tl prog w) A (setAttr (.ref x) name v) Q E s:=by
 obtain⟨od,J,hl⟩:=I.look;refine W.set_plain X J hs (W.osa_open (s:={s with toks:=s.toks+1}) (r:=none) X J hp ht λb=>?_);obtain⟨cd,hc,hd'⟩:=W.any_some hh;have hx:s.heap.get? x=Fa ⟨.ref C,Fa dx,.plain,#[]⟩:=I.obj;refine c9 (dC (c9 (c9 (wpAny_loadPart hx (c9 (my (s:={s with toks:=s.toks+1}) (kC X hc) ?_))))));rw[hd'];refine dC (a:=some dx) (c9 (dC (c9 ?_)));refine wpAny_nsSet1 (s:={s with toks:=s.toks+1}) I.ns λh' Z1 X0=>?_;obtain⟨oD,esD,epD,hoD,FS,hcD⟩:=Z1.count (PySem.Within.cons name v hw);refine c9 (lN hoD (by rw[FS];exact lO (eA hcD (by rw[eC];omega))) ?_);exact dC (h _ ⟨(X0.2 _ (dW I.ne)).trans I.obj,Z1,I.ne⟩ X0)
def MC{vs:T0 Vl}{kw:T0 (Str×Vl)}(X:K.In s.heap)(hm:W.makesIn K C=pc) (hi:W.findIn K (.ref C) "__init__"=Fa (Fa (.ref f))) (hf:W.typeIn K (.ref f)=Fa (.type "function")) (h:XXi (Tl prog w) (A.under (.builtin "type.__call__" ⟨.ref C::vs,kw⟩)) (.call (.ref f) ⟨.ref (s.heap.objs.size+1)::vs,kw⟩) (W.InitBack (s.heap.objs.size+1) R) {s with heap:=(s.heap.push W.emptyDict).push (W.instObj C s.heap.objs.size)}):
  XXi (Tl prog w) A (.call (.ref C) ⟨vs,kw⟩) R s:=by
 obtain⟨hh,g,d,t,os⟩:=s;exact W.make_core (W.makes_of X hm) (mv X hi) (λself=>W.bind_fn X self hf) (.inl Z') h
end
noncomputable def vJ(f:Str)(v:V):T0 (Str×V)->T0 (Str×V)
 | []=>[(f,v)]
 | (g,x)::r=>if g=f then(g,v)::r else(g,x)::vJ f v r
theorem Ax(f g:Str)(v:V):∀fs:T0 (Str×V),(vJ f v fs).lookup g=if g=f then Fa v else fs.lookup g
 | []=>by
  show List.lookup g [(f,v)]=_;by_cases h:g=f
  .have hb:(g==f)=pc:=fB.mpr h;simp only[List.lookup,hb,dz h]
  .have hb:(g==f)=Uf:=gC.mpr h;simp only[List.lookup,hb,dh h]
 | (k,x)::r=>by
  have ih:=Ax f g v r;rw[show vJ f v ((k,x)::r)=(if k=f then(k,v)::r else(k,x)::vJ f v r)from Z'];by_cases hk:k=f
  .rw[dz hk];by_cases h:g=k
   .have hb:(g==k)=pc:=fB.mpr h;simp only[List.lookup,hb,dz (h.trans hk)]
   .have hb:(g==k)=Uf:=gC.mpr h;simp only[List.lookup,hb,dh (λe:g=f=>h (e.trans hk.symm))]
  .rw[dh hk];by_cases h:g=k
   .have hb:(g==k)=pc:=fB.mpr h;simp only[List.lookup,hb,dh (λe:g=f=>hk (h.symm.trans e))]
   .have hb:(g==k)=Uf:=gC.mpr h;simp only[List.lookup,hb];exact ih
theorem Ac(f:Str)(v:V):∀fs:T0 (Str×V),f∈(vJ f v fs).map (·.1)/\∀g,g∈fs.map (·.1)->g∈(vJ f v fs).map (·.1)
 | []=>⟨by simp[vJ],λg h=>by simp at h⟩
 | (k,x)::r=>by
  obtain⟨i1,i2⟩:=Ac f v r;rw[show vJ f v ((k,x)::r)=(if k=f then(k,v)::r else(k,x)::vJ f v r)from Z'];by_cases hk:k=f
  .rw[dz hk];subst hk;exact⟨by simp,λg h=>by simpa using h⟩
  .rw[dh hk];refine⟨?_,λg h=>?_⟩
   .rw[d9];exact dF _ i1
   .rw[d9]at h ⊢;rcases dw.mp h with e|e
    .exact dw.mpr (.inl e)
    .exact dF _ (i2 g e)
theorem Ay(f:Str)(v:V):∀fs:T0 (Str×V),(vJ f v fs).length<=fs.length+1
 | []=>by simp[vJ]
 | (k,x)::r=>by
  have ih:=Ay f v r;rw[show vJ f v ((k,x)::r)=(if k=f then(k,v)::r else(k,x)::vJ f v r)from Z'];by_cases hk:k=f
  .rw[dz hk,eC,eC];omega
  .rw[dh hk,eC,eC];omega
def yq.some_of{v:V}(r:yq (Fa v) o):∃u,o=Fa u/\qN v u:=by
 cases o with
 | none=>exact(show False from r).elim
 | some u=>exact⟨u,Z',r⟩
def yq.none_of{o:Option Vl}(r:yq Db o):o=Db:=by
 cases o with
 | none=>rfl
 | some u=>exact(show False from r).elim
def Kv{u:Vl}(r:qN v u):W.handedIn u=pc:=by
 cases v with
 | mP=>cases(show u=Value.none from r);rfl
 | bl b=>cases(show u=Value.bool b from r);rfl
 | int i=>obtain⟨t,e⟩:=(show ∃t,u=Value.int i t from r);cases e;rfl
 | str x=>obtain⟨t,e⟩:=(show ∃t,u=Value.str x t from r);cases e;rfl
 | byt b=>obtain⟨t,e⟩:=(show ∃t,u=Value.bytes b t from r);cases e;rfl
 | flt b=>obtain⟨t,e⟩:=(show ∃t,u=Value.float b t from r);cases e;rfl
 | ref a=>cases(show u=Value.ref a from r);rfl
 | ty n=>cases(show u=Value.type n from r);rfl
section
variable {P:Pg}{w:Wo}{a:Ch}{fs fs':T0 (Str × V)}
def Bs(mT:yr P w H h)(e:H a=Fa (.ins C dx fs)):∃mA,HK h a dx C mA/\(∀f,yq (fs.lookup f) (mA f))/\PySem.Within mA (fs.map (·.1))/\fs.length<=1000/\H dx=Fa (.own a):=by obtain⟨d,z,ne,ob,mA,n,r,q⟩:=(show sA P w H h a (.ins C dx fs)from mT a _ e);exact⟨mA,⟨ob,n,ne⟩,r,q,z,d⟩
end
structure Cls(K:qo)(C:Ch):Prop where
 pg:W.plainGet K C Str.empty=pc
 hd:W.hasDictIn K C=pc
 po:W.plainOver K C=pc
 sa:W.findIn K (.ref C) "__setattr__"=Fa (Fa (.builtin "object.__setattr__"))
def Cls.get{K:qo}(c:Cls K C)(f:Str):W.plainGet K C f=pc:=c.pg
def ue(K:qo)(C:Ch)(f:Str):Prop:=W.findIn K (.ref C) f=Fa Db
def ue.oQ{K:qo}(n:ue K C f):W.takerIn K C f=Fa Db:=by unfold W.takerIn;rw[show W.findIn K (.ref C) f=Fa Db from n];rfl
structure W9(K:qo)(C:Ch)(f:Str)(v:V)(u:Vl):Prop where
 at_:W.findIn K (.ref C) f=Fa (Fa u)
 rel:qN v u
 get:W.specialIn K u "__get__"=Fa Db
 cp:W.copiedNames.contains f=Uf
structure vH(K:qo)(C:Ch)(m:Str)(f:Ch):Prop where
 at_:W.findIn K (.ref C) m=Fa (Fa (.ref f))
 fn:W.isFn K (.ref f)=pc
 kp:W.keepIn K (.ref f)=pc
section
variable {Y:St}{a:Ch}{fs:T0 (Str × V)}{f:Str}{v:V}{E:QQX}
def CO{b:Bool}{Q:QQX}(I:Inv X Xa Y H s)(e:H a=Fa (.ins C dx fs))(c:Cls X.K C)(n:ue X.K C f)(l:fs.lookup f=Fa v) (h:∀u s',Inv X Xa Y H s'->qN v u->Q u s'):Tk (Tl X.prog X.w) A (getAttr (.ref a) f b) Q E s:=by
 obtain⟨mA,O,r,_,_,_⟩:=Bs I.mT e;obtain⟨u,hu,ru⟩:=yq.some_of (v:=v) (o:=mA f) (by rw[<-l];exact r f);exact PJ I.ni O (c.get f) c.hd n hu (Kv ru) (h u _ (I.tok _) ru)
def CF{pl:Sem Bool}{Q:Vl×T0 Vl->Sd->Prop}(I:Inv X Xa Y H s)(e:H a=Fa (.ins C dx fs))(c:Cls X.K C)(k:vH X.K C m g)(l:fs.lookup m=Db) (h:Q (.ref g,[.ref a]) s):Tk (Tl X.prog X.w) A (o0 (.ref a) m pl) Q E s:=by
 obtain⟨mA,O,r,_,_,_⟩:=Bs I.mT e;have hn:mA m=Db:=yq.none_of (by rw[<-l];exact r m);exact Nr I.ni O (c.get m) k.at_ k.fn hn h
def Ck{u:Vl}{Q:Unit->Sd->Prop}(I:Inv X Xa Y H s)(e:H a=Fa (.ins C dx fs))(c:Cls X.K C)(n:ue X.K C f)(hl:fs.length<1000)(ry:qN y u) (h:∀s',Inv X Xa Y (upd H a (.ins C dx (vJ f y fs))) s'->Q () s'):Tk (Tl X.prog X.w) A (setAttr (.ref a) f u) Q E s:=by
 obtain⟨mA,O,r,wi,_,ho⟩:=Bs I.mT e;have hz:(fs.map (·.1)).length<=pi:=by rw[cZ,dS];omega
 refine Oo I.ni O c.sa c.po n.oQ c.hd wi hz λh' O' sb=>h _ ?_;have hd:∃o,h'.get? dx=Fa o:=let⟨o,_,_,e',_⟩:=O'.ns;⟨o,e'⟩;refine I.write (x:=a) (e:=dx) (by rw[e];exact True.intro) (.inr ho) (λb q hb z=>(sb.2 b hb).trans z) hd ?_;refine⟨by rw[pV O.ne];exact ho,?_,O.ne,O'.obj,_,O'.ns,λg=>?_,λg hg=>?_⟩
 .have:=Ay f y fs;omega
 .show yq ((vJ f y fs).lookup g) (if g=f then Fa u else mA g);rw[Ax];by_cases q:g=f
  .rw[dz q,dz q];exact ry
  .rw[dh q,dh q];exact r g
 .by_cases q:g=f
  .rw[q];exact(Ac f y fs).1
  .refine(Ac f y fs).2 g (wi g λz=>hg ?_);show(if g=f then Fa u else mA g)=Db;rw[dh q];exact z
def Inv.made(I:Inv X Xa Y H s):Inv X Xa Y (upd (upd H s.heap.objs.size (.own (s.heap.objs.size+1))) (s.heap.objs.size+1) (.ins C s.heap.objs.size [])) {s with heap:=(s.heap.push W.emptyDict).push (W.instObj C s.heap.objs.size)}:=by
 have e1:(s.heap.push W.emptyDict).get? s.heap.objs.size=Fa W.emptyDict:=dN s.heap Z';have e2:((s.heap.push W.emptyDict).push (W.instObj C s.heap.objs.size)).get? (s.heap.objs.size+1)=Fa (W.instObj C s.heap.objs.size):=by
  have:=dN (s.heap.push W.emptyDict) (o:=W.instObj C s.heap.objs.size) Z'
  rwa [ft]at this
 have e3:(s.heap.push W.emptyDict).Ns s.heap.objs.size (λ_=>Db):=⟨W.emptyDict,#[],_,e1,Z',(λe he=>absurd he (by simp)),λ_=>rfl⟩;have I1:=I.laid (a:=s.heap.objs.size) (o:=.own (s.heap.objs.size+1)) (h':=s.heap.push W.emptyDict) (t':=s.toks) (λb u q=>dq _ q) (dB _) ⟨_,e1⟩;refine I1.laid (a:=s.heap.objs.size+1) (o:=.ins C s.heap.objs.size []) (t':=s.toks) (λb u q=>dq _ q) (mz (ft _ _)) ?_;have ne:s.heap.objs.size≠s.heap.objs.size+1:=dU (fD _);refine⟨by rw[pV ne,qc],eD _,ne,e2,λ_=>Db,(lA e3).at λo q=>dq _ q,λ_=>True.intro,λy hy=>absurd Z' hy⟩
def O1{prog:Pg}{w:Wo}{env:Env}{e:No}{f:Str}{s:Sd}{Q:QQX}(hb:xz e f env (Op e env)=Op e env) (h:Tk (Tl prog w) A (Op e env) (λo s₁=>Tk (Tl prog w) A (getAttr o f pc) Q E s₁) E s):Tk (Tl prog w) A (Op (.Attribute e f pos) env) Q E s:=
 Attribute_any_ h (by rw[arm_eval_Attribute,hb])
end
def Vw(K:qo)(ta:TE)(f:Str):TE:=λY H Q=>ta Y H λx H1=>∃a C dx fs v,x=.ref a/\H1 a=Fa (.ins C dx fs)/\Cls K C/\ue K C f/\fs.lookup f=Fa v/\Q v H1
def VX(K:qo)(ta tv:TE)(f:Str):TS:=λD Y H=>tv Y H λy H1=>ta Y H1 λx H2=>∃a C dx fs,x=.ref a/\H2 a=Fa (.ins C dx fs)/\Cls K C/\ue K C f/\fs.length<1000/\
 D.nx Y (upd H2 a (.ins C dx (vJ f y fs)))
def Pc(X:Cx)(op:XYa)(rd:V->V->Hp->VK->Prop):Prop:=
 ∀(Xa:QQY) (s:Sd) (Y:St) (H:Hp) (x y:V) (u v:Vl) (Q:VK),Inv X Xa Y H s->qN x u->qN y v->rd x y H Q->Tk (Tl X.prog X.w) X.A (inplaceOp op u v) (EP X Xa Y Q) X.xe s
def OI(K:qo)(ta tv:TE)(rd:V->V->Hp->VK->Prop)(f:Str):TS:=λD Y H=>ta Y H λx H1=>∃a C dx fs v,x=.ref a/\H1 a=Fa (.ins C dx fs)/\Cls K C/\ue K C f/\fs.lookup f=Fa v/\
 tv Y H1 λy H2=>rd v y H2 λz H3=>∃Z2 fs',H3 a=Fa (.ins C Z2 fs')/\fs'.length<1000/\D.nx Y (upd H3 a (.ins C Z2 (vJ f z fs')))
variable {value:No}{Xj Zq:Pos}{tv:TE}
section
variable {o e:No}{f:Str}
def S7(he:PE X e ta)(hb:xz e f X.env (Op e X.env)=Op e X.env):PE X (.Attribute e f pos) (Vw X.K ta f):=by intro Xa s Y H Q I h;refine O1 hb (sC (he Xa s Y H _ I h) λu s1 zz=>?_);obtain⟨x,H1,I1,rx,a,C,dx,fs,v,ex,ea,c,n,l,q⟩:=zz;subst ex;obtain rfl:u=Value.ref a:=rx;exact CO I1 ea c n l λu' s2 I2 ru=>⟨v,H1,I2,ru,q⟩
def Se(ha:PE X o ta)(hv:PE X value tv)(hs:TD value (Fa (.Attribute o f Xj)) pos.line X.env=pure Uf):PS X (.Assign [.Attribute o f Xj] value pos) (VX X.K ta tv f):=by intro Xa s Y H D I h;refine iQ (sC (hv Xa s Y H _ I h) λu s1 zz=>x5 zz λy H1 I1 ry q=>sC (ha Xa s1 Y H1 _ I1 q) λov s2 zz=>?_) hs;obtain⟨x,H2,I2,rx,a,C,dx,fs,ex,ea,c,n,l,q2⟩:=zz;subst ex;obtain rfl:ov=Value.ref a:=rx;exact Ck I2 ea c n l ry λs3 I3=>⟨Y,_,I3,q2⟩
def Kq(ha:PE X o ta)(hv:PE X value tv)(hop:Pc X op rd):PS X (.AugAssign (.Attribute o f Zq) op value pos) (OI X.K ta tv rd f):=by intro Xa s Y H D I h;refine wpAny_AugAssign_AttributeAny (sC (ha Xa s Y H _ I h) λov s1 zz=>?_);obtain⟨x,H1,I1,rx,a,C,dx,fs,v,ex,ea,c,n,l,q⟩:=zz;subst ex;obtain rfl:ov=Value.ref a:=rx;refine CO I1 ea c n l λu s2 I2 ru=>sC (hv Xa s2 Y H1 _ I2 q) λw3 s3 zz=>x5 zz λy H2 I3 ry q3=>sC (hop Xa s3 Y H2 v y u w3 _ I3 ru ry q3) λw4 s4 zz=>?_;obtain⟨z,H3,I4,rz,Z2,fs',ea',l',q4⟩:=zz;exact Ck I4 ea' c n l' rz λs5 I5=>⟨Y,_,I5,q4⟩
def We:V->V->Hp->VK->Prop:=λx y H Q=>∃i j,x=.int i/\y=.int j/\Q (.int (i+j)) H
def Wb:V->V->Hp->VK->Prop:=λx y H Q=>∃i j,x=.int i/\y=.int j/\Q (.int (i - j)) H
def Sr:Pc X .Add We:=by
 rintro Xa s Y H x y u v Q I rx ry ⟨i,j,rfl,rfl,q⟩
 obtain⟨t,rfl⟩:=(show ∃t,u=Value.int i t from rx);obtain⟨t',rfl⟩:=(show ∃t',v=Value.int j t' from ry);exact PyProof.Rows.iadd_int ⟨.int (i+j),H,I.tok _,⟨_,Z'⟩,q⟩
def RC:Pc X .Sub Wb:=by
 rintro Xa s Y H x y u v Q I rx ry ⟨i,j,rfl,rfl,q⟩
 obtain⟨t,rfl⟩:=(show ∃t,u=Value.int i t from rx);obtain⟨t',rfl⟩:=(show ∃t',v=Value.int j t' from ry);exact PyProof.Rows.isub_int ⟨.int (i - j),H,I.tok _,⟨_,Z'⟩,q⟩
end
variable {Q:QQX}
section
variable {Y:St}{E:QQX}{c:Vl}{b:Bool}
inductive AX(K:qo)(H:Hp):V->Vl->Prop where
 | mP:AX K H .mP (.type "NoneType")
 | bl (x:Bool):AX K H (.bl x) (.type "bool")
 | int (i:Int):AX K H (.int i) (.type "int")
 | str (x:Str):AX K H (.str x) (.type "str")
 | flt (x:UInt64):AX K H (.flt x) (.type "float")
 | lst {a:Ch} {xs:List V} (e:H a=Fa (.lst xs)):AX K H (.ref a) (.type "list")
 | frz {a:Ch} {o:Obj} {xs:List V} (e:H a=Fa (.frz o (.lst xs))):AX K H (.ref a) (.type "list")
 | tup {a:Ch} {xs:List V} (e:H a=Fa (.tup xs)):AX K H (.ref a) (.type "tuple")
 | dK {a:Ch} {kvs:List (rq×V)} (e:H a=Fa (.dK kvs)):AX K H (.ref a) (.type "dict")
 | dT {a:Ch} {kvs:List (List rq×V)} (e:H a=Fa (.dT kvs)):AX K H (.ref a) (.type "dict")
 | ins {a C dx:Ch} {fs:List (Str×V)} (e:H a=Fa (.ins C dx fs)) (cl:Cls K C) (ha:W.findIn K (.ref C) "__class__"=Fa (Fa (.builtin "object.__class__")))
   (hn:W.specialIn K (.builtin "object.__class__") "__get__"=Fa (Fa (.builtin "getset_descriptor.__get__"))) (htk:W.takesIn K (.builtin "object.__class__")=Fa pc)
   (hm:W.mroIn K C (.type "object")=Fa pc):AX K H (.ref a) (.ref C)
def uL{u t:Vl}(I:Inv X Xa Y H s)(rx:qN x u)(ty:AX X.K H x t)(e:W.kitOne X.K t c=Fa b)(h:∀tk,Q (.bool b) {s with toks:=tk}):
  Tk (Tl X.prog X.w) A (call (.builtin "isinstance") [u,c]) Q E s:=by
 cases ty with
 | mP=>cases(show u=Value.none from rx);exact gz W.kitx_none I.ni True.intro e (λz=>nomatch z) h
 | bl y=>cases(show u=Value.bool y from rx);exact gz W.kitx_bool I.ni True.intro e (λz=>nomatch z) h
 | int i=>obtain⟨t,q⟩:=(show ∃t,u=Value.int i t from rx);cases q;exact gz W.kitx_int I.ni True.intro e (λz=>nomatch z) h
 | str y=>obtain⟨t,q⟩:=(show ∃t,u=Value.str y t from rx);cases q;exact gz W.kitx_str I.ni True.intro e (λz=>nomatch z) h
 | flt y=>obtain⟨t,q⟩:=(show ∃t,u=Value.float y t from rx);cases q;exact gz W.kitx_float I.ni True.intro e (λz=>nomatch z) h
 | @lst a xs ea=>cases(show u=Value.ref a from rx);obtain⟨_,_,n,_,h1⟩:=(show sA X.prog X.w H s.heap a (.lst xs)from I.mT a _ ea);exact gz lH I.ni ⟨_,h1,Z'⟩ e (λz=>nomatch z) h
 | @frz a ob xs ea=>cases(show u=Value.ref a from rx);obtain⟨_,_,_,n,_,h1⟩:=(show sA X.prog X.w H s.heap a (.frz ob (.lst xs))from I.mT a _ ea);exact gz lH I.ni ⟨_,h1,Z'⟩ e (λz=>nomatch z) h
 | @tup a xs ea=>cases(show u=Value.ref a from rx);obtain⟨_,_,_,p⟩:=(show sA X.prog X.w H s.heap a (.tup xs)from I.mT a _ ea);obtain⟨o,h1,h2,_⟩:=p;exact gz W.kitx_tuple I.ni ⟨o,h1,h2⟩ e (λz=>nomatch z) h
 | @dK a kvs ea=>cases(show u=Value.ref a from rx);obtain⟨_,_,vs,_,p⟩:=(show sA X.prog X.w H s.heap a (.dK kvs)from I.mT a _ ea);obtain⟨o,es,ep,h1,h2,_⟩:=p;exact gz W.kitx_dict I.ni ⟨o,h1,h2.1⟩ e (λz=>nomatch z) h
 | @dT a kvs ea=>cases(show u=Value.ref a from rx);obtain⟨_,_,xs,_,o,es,ep,h1,h2,_⟩:=(show sA X.prog X.w H s.heap a (.dT kvs)from I.mT a _ ea);exact gz W.kitx_dict I.ni ⟨o,h1,h2.1⟩ e (λz=>nomatch z) h
 | @ins a C dx fs ea cl ha hn htk hm=>cases(show u=Value.ref a from rx);obtain⟨mA,O,_⟩:=Bs I.mT ea;obtain⟨od,J,_⟩:=O.look;exact gz (W.kitx_own (cl.get _) cl.hd ha hn htk hm) I.ni J e (λz=>nomatch z) h
end
structure rY(k:Nat)(A:Ar):Prop where
 hd:A.handled=Db
 dp:A.depth+3*k+5<recursionLimit
 un:A.units+16*k+200<Y'
def rY.mono{j k:Nat}(r:rY k A)(h:j<=k):rY j A:=⟨r.hd,by have:=r.dp;omega,by have:=r.un;omega⟩
def rY.deeper{k:Nat}(r:rY (k+1) A)(env:Env):rY k (A.deeper env):=
 ⟨r.hd,by have:=r.dp;show A.depth+1+3*k+5<_;omega,by have:=r.un;show A.units+3+16*k+200<_;omega⟩
def H9{A:Ar}{C:Ch}{us:T0 Vl}{kw:T0 (Str×Vl)}:(A.under (.builtin "type.__call__" ⟨.ref C::us,kw⟩)).depth=A.depth+1:=by first|rfl|simp[Around.under,Code.weight,Code.isCreation,Code.isGuard,Code.isCaller,Code.frames,Code.isFrame,guardIds]
def Hy{A:Ar}{C:Ch}{us:T0 Vl}{kw:T0 (Str×Vl)}:(A.under (.builtin "type.__call__" ⟨.ref C::us,kw⟩)).units=A.units+1:=by first|rfl|simp[Around.under,Code.cUnits,Code.frames,Code.isFrame]
def rY.make{k:Nat}(r:rY (k+1) A)(C:Ch)(us:T0 Vl)(kw:T0 (Str×Vl)):rY k (A.under (.builtin "type.__call__" ⟨.ref C::us,kw⟩)):=
 ⟨r.hd,by have:=r.dp;rw[H9];omega,by have:=r.un;rw[Hy];omega⟩
def rY.depth(r:rY k A):A.depth<recursionLimit:=by have:=r.dp;omega
def rY.units(r:rY k A):A.units+64<Y':=by have:=r.un;omega
def UM:TA:=λ_ H Q=>Q [] H
def U7(ta:TE)(tr:TA):TA:=λY H Q=>ta Y H λx H1=>tr Y H1 λxs H2=>Q (x::xs) H2
variable {es:T0 No}
section
variable {e:No}{t:TA}
def RM:PA X [] UM:=λ_ _ _ _ H Q I h=>jv ⟨[],H,I,.nil,h⟩
def OX(ha:PE X e te)(hr:PA X es t)(hs:A6 X e es:=by rfl):PA X (e::es) (U7 te t):=by intro pos Xa s Y H Q I h;rw[hs];show Tk _ _ (spliced ((Uf,Op e X.env)::Ix pos (zn es X.env))) _ _ s;refine ji (sC (ha Xa s Y H _ I h) λu s1 zz=>x5 zz λx H1 I1 r1 q1=>?_);exact sC (hr pos Xa s1 Y H1 _ I1 q1) λus s2 zz=>x5 zz λxs H2 I2 r2 q2=>⟨x::xs,H2,I2,.cons r1 r2,q2⟩
def VH(t:TA):TE:=λY H Q=>t Y H λxs H1=>xs.length<=pi/\∀p,H1 p=Db->Q (.ref p) (upd H1 p (.tup xs))
def VJ(t:TA):TE:=λY H Q=>t Y H λxs H1=>xs.length<=pi/\∀p,H1 p=Db->Q (.ref p) (upd H1 p (.lst xs))
def Rl{x1}(h:PA X es t):PE X (.Tuple es x1 pos) (VH t):=by intro Xa s Y H Q I hq;refine wpAny_Tuple_spliced (sC (h pos Xa s Y H _ I hq) λus s1 ⟨xs,H1,I1,r,z,q⟩=>⟨by rw[<-r.length];exact z,?_⟩);have hf:H1 s1.heap.objs.size=Db:=I1.mT.fresh (dB _);refine⟨.ref s1.heap.objs.size,upd H1 s1.heap.objs.size (.tup xs),I1.laid (t':=s1.toks) (λb u e=>dq _ e) (dB _) ?_,Z',q _ hf⟩;exact⟨z,us,r,⟨_,dN _ Z',Z',⟨_,Z'⟩,Z'⟩⟩
def RB(h:PA X es t):PE X (.List es pos) (VJ t):=by intro Xa s Y H Q I hq;refine wpAny_List_spliced (sC (h pos Xa s Y H _ I hq) λus s1 ⟨xs,H1,I1,r,z,q⟩=>⟨by rw[<-r.length];exact z,?_⟩);have hf:H1 s1.heap.objs.size=Db:=I1.mT.fresh (dB _);refine⟨.ref s1.heap.objs.size,upd H1 s1.heap.objs.size (.lst xs),I1.laid (t':=s1.toks) (λb u e=>dq _ e) (dB _) ?_,Z',q _ hf⟩;exact⟨z,us,0,r,dN _ Z'⟩
end
abbrev Sp:=T0 V->Hp->VK->XK->Prop
abbrev K8:=T0 Env->Hp->Sd->XK->Vl->Sd->Prop
structure Iz(P:Pg)(w:Wo)(K:qo)(mg:QQZ)(base:wp)(A:Ar)(outer:List Env)(s:Sd)(H:Hp):Prop where
 frames:A.frames=Fa outer
 mod:Mod K mg base
 bs:∀b o,base.get? b=Fa o->s.heap.get? b=Fa o/\H b=Db
 oa:base.objs.size<=s.heap.objs.size
 nB:s.heap.FunFrames base outer
 om:∀b∈wz outer,H b=Db
 mT:yr P w H s.heap
 bare:XXk s.gens
def CE(outer:T0 Env)(P:Pg)(w:Wo)(H:Hp)(s:Sd)(Q:VK)(u:Vl)(s':Sd):Prop:=
 ∃v H',s'.os=s.os/\XXk s'.gens/\Un (wz outer) [] H H' s.heap s'.heap/\yr P w H' s'.heap/\qN v u/\Q v H'
def CR(CX:K8)(outer:T0 Env)(P:Pg)(w:Wo)(H:Hp)(s:Sd)(Q:VK)(E:XK)(r:Result)(s':Sd):Prop:=
 match r with
 | .ok (.ret u)=>CE outer P w H s Q u s'
 | .ok _=>False
 | .error e=>CX outer H s E e s'
structure xx(P:Pg)(w:Wo)(K:qo)(mg:QQZ)(base:wp)(CX:K8)(k:Nat)(f:Ch)(fd:At)(ps:QQQ)(sp:Sp):Prop where
 len:∀vs H Q E,sp vs H Q E->vs.length=ps.length
 run:∀(A:Ar) (outer:List Env) (s:Sd) (H:Hp) (args:Args) (us:List Vl) (vs:List V) (Q:VK) (E:XK),rY k A->Iz P w K mg base A outer s H->BindsTo s fd args (ps.zip us)->qD vs us->sp vs H Q E->
  XXi (Tl P w) A (.call (.ref f) args) (CR CX outer P w H s Q E) s
def Iz.make{K:qo}(e:Iz P w K mg base A outer s H)(C:Ch)(us:T0 Vl)(kw:T0 (Str×Vl)):
  Iz P w K mg base (A.under (.builtin "type.__call__" ⟨.ref C::us,kw⟩)) outer s H:=⟨by first|exact e.frames|(simpa [Around.under,Code.envs,Code.isFrame,pushEnvs]using e.frames),e.mod,e.bs,e.oa,e.nB,e.om,e.mT,e.bare⟩
variable {s':Sd}
section
variable {Y:St}
def Inv.oh(I:Inv X Xa Y H s):Iz X.prog X.w X.K X.mg X.base X.A X.stack s H:=
 ⟨I.ok.frames,I.ok.mod,I.bs,eA I.ok.oa I.sz,I.stack,I.nI,I.mT,I.bare⟩
def Inv.after{Q:VK}{u:Vl}(I:Inv X Xa Y H s)(h:CE X.stack X.prog X.w H s Q u s'):EP X Xa Y Q u s':=by obtain⟨v,H',os,bare,un,mT,r,q⟩:=h;obtain⟨hh,g,d,t,Z3⟩:=s';obtain rfl:Z3=s.os:=os;exact⟨v,H',I.call (h':=hh) (g':=g) (d':=d) (t':=t) (ch:=[]) un mT bare (λb z=>absurd z (by simp)),r,q⟩
end
def TK(sp:Sp)(X1:T0 V)(E:XK)(t:TA):TE:=λY H Q=>t Y H λvs H1=>sp (vs++X1) H1 Q E
def UF(C:Ch)(sp:Sp)(X1:T0 V)(E:XK)(t:TA):TE:=λY H Q=>t Y H λvs H1=>∀x dx,H1 x=Db->H1 dx=Db->dx≠x->
 sp (.ref x::(vs++X1)) (upd (upd H1 dx (.own x)) x (.ins C dx [])) (λv H2=>v=.mP/\Q (.ref x) H2) E
def uT(K:qo)(fd:At)(ps:QQQ)(ds:T0 Vl):Prop:=
 ∀(s:Sd) (us:T0 Vl),K.In s.heap->(us++ds).length=ps.length->BindsTo s fd ⟨us,[]⟩ (ps.zip (us++ds))
def uT.all{K:qo}{fd:At}{ps:QQQ}(h:∀us:T0 Vl,us.length=ps.length->bindArgs fd ⟨us,[]⟩=pure (ps.zip us)):uT K fd ps []:=λs us _ hl=>by rw[eE]at hl ⊢;exact .of_eq (h us hl)
def BF(CX:K8)(X:Cx)(E:XK):Prop:=∀(Xa:QQY) (Y:St) (H:Hp) (s:Sd) (e:Vl) (s':Sd),Inv X Xa Y H s->CX X.stack H s E e s'->X.xe e s'
variable {CX:K8}{k:Nat}{fd:At}{ps:QQQ}{sp:Sp}{X1:T0 V}{ds:T0 Vl}{m:Str}{p Xd:Pos}
section
variable {f:Ch}{E:XK}{x:Str}{e o:No}{t:TA}
def ED{Xa:QQY}{Q:VK}(F:xx X.prog X.w X.K X.mg X.base CX k f fd ps sp)(hr:rY k X.A)(hb:uT X.K fd ps ds)(hd:qD X1 ds)(hx:BF CX X E) (I:Inv X Xa Y H s) (r:qD vs us) (h:sp (vs++X1) H Q E):Tk (Tl X.prog X.w) X.A (call (.ref f) us) (EP X Xa Y Q) X.xe s:=by
 have r2:qD (vs++X1) (us++ds):=r.append hd;have hl:(us++ds).length=ps.length:=by rw[<-r2.length];exact F.len _ _ _ _ h
 refine iI (gq (F.run X.A X.stack s H ⟨us,[]⟩ (us++ds) (vs++X1) Q E hr I.oh (hb s us I.ni hl) r2 h) λr s' hq=>?_);cases r with
 | error e=>exact hx Xa Y H s e s' I hq
 | ok fl=>
  cases fl with
  | ret u=>exact I.after hq
  | next=>exact False.elim hq
  | brk=>exact False.elim hq
  | cont=>exact False.elim hq
def Qv(F:xx X.prog X.w X.K X.mg X.base CX k f fd ps sp)(hr:rY k X.A)(hg:Gl X x)(hm:X.mg x=Fa (.ref f))(hk:W.keepIn X.K (.ref f)=pc)(hb:uT X.K fd ps ds)(hd:qD X1 ds)(hx:BF CX X E) (ha:PA X (e::es) t) (Xt:zb x:=by decide) (he:A6 X e es:=by rfl) (Xp:BJ X pos es:=by rfl):
  PE X (.Call (.Name x p) (e::es) [] pos) (TK sp X1 E t):=by
 intro Xa s Y H Q I h;refine gk (xm I hg hm ?_ Xt);refine iR (h₀:=X.base) I.ok.mod.oz hk (sC (ha pos Xa s Y H _ I h) λus s1 zz=>x5 zz λvs H1 I1 r q=>⟨I1.ni,?_⟩) he Xp;exact ED F hr hb hd hx I1 r q
structure Mk(K:qo)(C f:Ch):Prop where
 makes:W.makesIn K C=pc
 init:W.findIn K (.ref C) "__init__"=Fa (Fa (.ref f))
 fn:W.isFn K (.ref f)=pc
 kp:W.keepIn K (.ref C)=pc
def NE{Xa:QQY}{Q:VK}(M:Mk X.K C f)(F:xx X.prog X.w X.K X.mg X.base CX k f fd ps sp)(hr:rY (k+1) X.A)(hb:uT X.K fd ps ds)(hd:qD X1 ds) (hx:BF CX X E) (I:Inv X Xa Y H s) (r:qD vs us) (h:∀x dx,H x=Db->H dx=Db->dx≠x->sp (.ref x::(vs++X1)) (upd (upd H dx (.own x)) x (.ins C dx [])) (λv H2=>v=.mP/\Q (.ref x) H2) E):
  Tk (Tl X.prog X.w) X.A (call (.ref C) us) (EP X Xa Y Q) X.xe s:=by
 have hq:=h (s.heap.objs.size+1) s.heap.objs.size (I.mT.fresh (gS _)) (I.mT.fresh (dB _)) (dU (fD _));have I2:=Inv.made (C:=C) I;have r2:qD (V.ref (s.heap.objs.size+1)::(vs++X1)) (Value.ref (s.heap.objs.size+1)::(us++ds)):=.cons Z' (r.append hd);have hl:(Value.ref (s.heap.objs.size+1)::us++ds).length=ps.length:=by have e:=r2.length;rw[F.len _ _ _ _ hq]at e;exact e.symm
 refine iI (MC (f:=f) I.ni M.makes M.init (fB.mp M.fn) (gq (F.run _ X.stack _ _ ⟨Value.ref (s.heap.objs.size+1)::us,[]⟩ (Value.ref (s.heap.objs.size+1)::(us++ds)) _ _ E (hr.make C us [])
  (I2.oh.make C us []) (hb _ (Value.ref (s.heap.objs.size+1)::us) I2.ni hl) r2 hq) λr s' YT=>?_))
 cases r with
 | error e=>exact hx Xa Y _ _ e s' I2 YT
 | ok fl=>
  cases fl with
  | ret u=>obtain⟨v,H',I3,rv,ev,q3⟩:=I2.after YT;subst ev;exact⟨rv,⟨V.ref (s.heap.objs.size+1),H',I3,Z',q3⟩⟩
  | next=>exact False.elim YT
  | brk=>exact False.elim YT
  | cont=>exact False.elim YT
def QM(M:Mk X.K C f)(F:xx X.prog X.w X.K X.mg X.base CX k f fd ps sp)(hr:rY (k+1) X.A)(hg:Gl X x)(hm:X.mg x=Fa (.ref C))(hb:uT X.K fd ps ds)(hd:qD X1 ds)(hx:BF CX X E) (ha:PA X (e::es) t) (Xt:zb x:=by decide) (he:A6 X e es:=by rfl) (Xp:BJ X pos es:=by rfl):
  PE X (.Call (.Name x p) (e::es) [] pos) (UF C sp X1 E t):=by
 intro Xa s Y H Q I h;refine gk (xm I hg hm ?_ Xt);refine iR (h₀:=X.base) I.ok.mod.oz M.kp (sC (ha pos Xa s Y H _ I h) λus s1 zz=>x5 zz λvs H1 I1 r q=>⟨I1.ni,?_⟩) he Xp;exact NE M F hr hb hd hx I1 r q
end
variable {g:T0 Vl→T0 Vl→T0 Vl}{gV:T0 V→T0 V→T0 V}{ks:QQQ}{kpos:Pos}{kws:T0 W'}{tk:TA}{nm:Option Str}
section
variable {f:Ch}{E:XK}{x:Str}{e o:No}{t:TA}
structure Wy(K:qo)(fd:At)(ps ks:QQQ)(g:List Vl->List Vl->List Vl)(gV:List V->List V->List V):Prop where
 to:∀(s:Sd) (us ws:List Vl),K.In s.heap->(g us ws).length=ps.length->BindsTo s fd ⟨us,ks.zip ws⟩ (ps.zip (g us ws))
 rel:∀{vs:List V} {us:List Vl} {zs:List V} {ws:List Vl},qD vs us->qD zs ws->qD (gV vs zs) (g us ws)
end
structure tq(N P:QQQ)(sc:XXd):Prop where
 kind:sc.kind=.function
 co:sc.isCoroutine=Uf
 gen:sc.isGenerator=Uf
 nd:N.Nodup
 pre:N.take P.length=P
 par:∀x∈P,sc.names.lookup x=Fa .local\/sc.names.lookup x=Fa .cell
 oZ:∀y∈sc.names,y.2≠.free
theorem Eb{kindOf:Str->Option wT}{x:Str}:∀{binds:T0 (Str×Vl)} {m:QQZ},(∀v,(x,v)∉binds)->bindL kindOf binds m x=m x
 | [],_,_=>rfl
 | (n,v)::r,m,h=>by
  unfold bindL;rw[Eb λw hw=>h w (dF _ hw)];split
  .have:x≠n:=by rintro rfl;exact h v dP
   simp[this]
  .rfl
theorem DI{kindOf:Str->Option wT}{x:Str}:∀{binds:T0 (Str×Vl)} {m:QQZ},(∀v,(x,v)∉binds)->bindC kindOf binds m x=m x
 | [],_,_=>rfl
 | (n,v)::r,m,h=>by
  unfold bindC;rw[DI λw hw=>h w (dF _ hw)];split
  .rfl
  .have:x≠n:=by rintro rfl;exact h v dP
   simp[this]
theorem Dv{kindOf:Str->Option wT}{x:Str}{v:Vl}:∀{P:QQQ} {vs:T0 Vl} {i:Nat} {m:QQZ},P.Nodup->P[i]?=Fa x->vs[i]?=Fa v->kindOf x=Fa .local->
  bindL kindOf (P.zip vs) m x=Fa v
 | [],_,_,_,_,h,_,_=>by simp at h
 | _::_,[],_,_,_,_,h,_=>by simp at h
 | p::P,w::vs,0,m,nd,h1,h2,hk=>by simp at h1 h2;subst h1;subst h2;show bindL kindOf ((p,w)::P.zip vs) m p=_;unfold bindL;rw[Eb λv hv=>(dZ.mp nd).1 (jY hv).1,dz hk];simp
 | p::P,w::vs,i+1,m,nd,h1,h2,hk=>by show bindL kindOf ((p,w)::P.zip vs) m x=_;unfold bindL;exact Dv (i:=i) (dZ.mp nd).2 (by simpa using h1) (by simpa using h2) hk
theorem DV{kindOf:Str->Option wT}{x:Str}{v:Vl}:∀{P:QQQ} {vs:T0 Vl} {i:Nat} {m:QQZ},P.Nodup->P[i]?=Fa x->vs[i]?=Fa v->kindOf x≠Fa .local->
  bindC kindOf (P.zip vs) m x=Fa v
 | [],_,_,_,_,h,_,_=>by simp at h
 | _::_,[],_,_,_,_,h,_=>by simp at h
 | p::P,w::vs,0,m,nd,h1,h2,hk=>by simp at h1 h2;subst h1;subst h2;show bindC kindOf ((p,w)::P.zip vs) m p=_;unfold bindC;rw[DI λv hv=>(dZ.mp nd).1 (jY hv).1,dh hk];simp
 | p::P,w::vs,i+1,m,nd,h1,h2,hk=>by show bindC kindOf ((p,w)::P.zip vs) m x=_;unfold bindC;exact DV (i:=i) (dZ.mp nd).2 (by simpa using h1) (by simpa using h2) hk
noncomputable def yw(N:QQQ)(vs:T0 V):St:=vs.map Fa++List.replicate (N.length - vs.length) Db
noncomputable def vE(CX:K8)(P:Pg)(w:Wo)(K:qo)(mg:QQZ)(base:wp)(N:QQQ)(qual:Str)(scope:XXd)(f:Ch)(cd:Vl)(A:Ar)(outer:T0 Env)(s:Sd)(H:Hp)(E:XK):Cx where
 prog:=P
 w:=w
 K:=K
 mg:=mg
 base:=base
 A:=A.deeper (xL qual scope s.heap.objs.size f cd)
 N:=N
 s₀:=s
 H₀:=H
 env:=xL qual scope s.heap.objs.size f cd
 outer:=outer
 stack:=xL qual scope s.heap.objs.size f cd::outer
 ex:=[]
 calm:=true
 fn:=λ_=>pc
 pn:=[]
 xe:=λe s'=>Tk (Tl P w) (A.deeper (xL qual scope s.heap.objs.size f cd)) (leaving (xL qual scope s.heap.objs.size f cd) e) (λ_ Z4=>CX outer H s E e Z4) (λe' Z4=>CX outer H s E e' Z4) s'
def GF{sc:XXd}{n:Nat}{x:Str}(h:sc.names.lookup x=Fa .cell):∃c,(cellsFrom n sc.names []).lookup x=Fa c:=by have q:=lP sc.names n [] (.inl h);exact jK.mp q
def KU{CX:K8}{K:qo}{qual:Str}{f:Ch}{cd:Vl}{A:Ar}{E:XK}{vs:T0 V} (S:tq N ps scope) (hd:A.handled=Db) (e0:Iz P w K mg base A outer s H) (hl:vs.length=ps.length) (r:qD vs us) (x:InCallC s s.heap.objs.size (bindL (xL qual scope s.heap.objs.size f cd).kindOf (ps.zip us) λ_=>Db) (cellsFrom (s.heap.objs.size+1) scope.names []) (bindC (xL qual scope s.heap.objs.size f cd).kindOf (ps.zip us) λ_=>Db) s1):
  Inv (vE CX P w K mg base N qual scope f cd A outer s H E) [] (yw N vs) H s1:=by
 have Xp:ps.length<=N.length:=by have:=eZ List.length S.pre;rw[eR]at this;omega
 obtain⟨h1,tk,rfl,hk⟩:=x.done;have noA:∀b:Ch,b∉(vE CX P w K mg base N qual scope f cd A outer s H E).ex:=λb z=>absurd (show b∈([]:QXQ)from z) (by simp);refine⟨⟨e0.mod,S.kind,Z',Z',dB _,λy z c h1 h2=>?_,λy hy=>?_,λy c _ h=>?_,λ_=>hd,Around.frames_deeper e0.frames,.inr ⟨Z',Z'⟩,λb z=>absurd z (noA b),e0.bs,e0.oa,λb _ _=>noA b,λb z=>absurd z (noA b),e0.nB,e0.om⟩,Z',e0.bare,Un.kept hk,⟨_,x.toInCall.ns,λi y v h1 h2 h3=>?_⟩,λy c h=>⟨_,x.cell y c h⟩,e0.mT.fresh (dB _),λy c h=>?_,λp hp=>absurd (show p∈([]:QQY)from hp) (by simp),e0.mT.kept hk,?_⟩
 .exact name_of_addr x.apart (gU h1) (gU h2)
 .have hy:scope.names.lookup y=Fa .cell\/scope.names.lookup y=Fa .free:=hy;rcases hy with hy|hy
  .exact GF hy
  .exact absurd Z' (S.oZ _ (gU hy))
 .exact kS (x.above y c (gU h))
 .have hi:i<vs.length:=by
   unfold yw at h2;by_cases hi:i<vs.length
   .exact hi
   .rw[fi (by simpa using hi)]at h2;rw[jW]at h2;split at h2<;>cases h2
  have ha:vs[i]?=Fa v:=by
   unfold yw at h2;rw[fk (by simpa using hi),dG]at h2;cases e:vs[i]? with
   | none=>rw[e]at h2;cases h2
   | some a=>rw[e]at h2;cases h2;rfl
  obtain⟨u,hu,rv⟩:=r.get ha;have hp:ps[i]?=Fa y:=by rw[<-S.pre,List.getElem?_take_of_lt (by omega)];exact h1
  have ndP:ps.Nodup:=by rw[<-S.pre];exact S.nd.sublist (List.take_sublist _ _)
  refine⟨u,rv,?_⟩;rcases S.par y (fU hp)with k|k
  .exact .inl ⟨k,Dv ndP hp hu k⟩
  .obtain⟨c,e⟩:=GF (n:=s.heap.objs.size+1) k;refine .inr ⟨.inl k,c,e,?_⟩;have q:=x.cell y c e;rw[DV ndP hp hu (by show scope.names.lookup y≠_;rw[k];decide)]at q;exact q
 .exact e0.mT.fresh (kS (x.above y c (gU h)))
 .unfold yw;show _=N.length;rw[df,cZ,iO];omega
def LU{CX:K8}{P:Pg}{w:Wo}{K:qo}{mg:QQZ}{base:wp}{f:Ch}{dV kV XO pm Xk ct oc:Vl}{an od:Option Ch} {Ya:Array (Option Vl)} {N ps:QQQ} {sp:Sp} (lk:K.lookup f=Fa ⟨oc,od,.func (W.fnOf name qual params body scope dV kV XO pm an Xk ct),Ya⟩) (Yr:W.codeIn K Xk qual=pc) (S:tq N ps scope) (len:∀vs H Q E,sp vs H Q E->vs.length=ps.length) (Xv:∀(A:Ar) (outer:T0 Env) (s:Sd) (H:Hp) (vs:T0 V) (Q:VK) (E:XK),rY k (A.deeper (xL qual scope s.heap.objs.size f Xk))->sp vs H Q E->
   ∃t,B' (vE CX P w K mg base N qual scope f Xk A outer s H E) body t/\t {nx:=λ_ H'=>Q .mP H',rt:=Q} (yw N vs) H):
  xx P w K mg base CX (k+1) f (W.fnOf name qual params body scope dV kV XO pm an Xk ct) ps sp:=by
 refine⟨len,λA outer s H args us vs Q E hr e0 hb r YF=>?_⟩;have hl:=len _ _ _ _ YF;have KX:K.In s.heap:=e0.mod.oz.keeps λb o e=>(e0.bs b o e).1;have lim:s.heap.NoLimit:=e0.mod.nolimit.keeps λb o e=>(e0.bs b o e).1;have hkind:∀y∈ps.zip us,scope.names.lookup y.1=Fa .local\/(scope.names.lookup y.1=Fa .cell/\((cellsFrom (s.heap.objs.size+1) scope.names []).lookup y.1).isSome=pc):=λ⟨n,v⟩ hy=>by
  rcases S.par n (jY hy).1 with q|q
  .exact .inl q
  .exact .inr ⟨q,lP _ _ _ (.inl q)⟩
 refine codeAny_call_function hr.depth (KX _ _ lk) Z' S.co S.gen Z' (W.codeRec_of KX Yr) (hb _ _ _ _ ?_);refine wpAny_newFunctionEnv_cells S.kind hkind λenv he s1 x=>?_;subst he;refine⟨lim.keeps x.toInCall.keep,codeAny_func ?_⟩;obtain⟨t,ht,hq⟩:=Xv A outer s H vs Q E (hr.deeper _) YF;have I:Inv (vE CX P w K mg base N qual scope f Xk A outer s H E) [] (yw N vs) H s1:=KU S hr.hd e0 hl r x;refine eJ (ht [] s1 (yw N vs) H _ I hq) (λfl s' hs=>?_) λe s' hs=>hs;have Xe:∀{σ':St} {H':Hp} {v:V} {u:Vl},Inv (vE CX P w K mg base N qual scope f Xk A outer s H E) [] σ' H' s'->qN v u->Q v H'->CE outer P w H s Q u s':=
  λ{σ' H' v u} J rv q=>⟨v,H',J.os,J.bare,J.base,J.mT,rv,q⟩
 cases fl with
 | ret u=>obtain⟨v,σ',H',J,rv,q⟩:=hs;exact Xe J rv q
 | next=>obtain⟨σ',H',J,q⟩:=hs;exact Xe (v:=V.mP) (u:=Value.none) J Z' q
 | brk=>obtain⟨_,_,_,q⟩:=hs;exact False.elim q
 | cont=>obtain⟨_,_,_,q⟩:=hs;exact False.elim q
variable {id T:String}{r:T0 V→Hp→VK→Prop}
section
variable {x:Str}{e:No}{t:TA}
def WP(r:T0 V->Hp->VK->Prop)(t:TA):TE:=λY H Q=>t Y H λvs H1=>r vs H1 Q
def LV(hc:zm X (.builtin id) r)(hg:Gl X x)(hm:X.mg x=Db)(hv:Go x=Fa (.builtin id))(ha:PA X (e::es) t)(hn:x≠"__name__":=by decide)(Xt:zb x:=by decide)
  (he:A6 X e es:=by rfl) (Xp:BJ X pos es:=by rfl):PE X (.Call (.Name x p) (e::es) [] pos) (WP r t):=by
 intro Xa s Y H Q I h;refine gk (wm I hg hm hv ?_ hn Xt);exact iS (sC (ha pos Xa s Y H _ I h) λus s1 zz=>x5 zz λvs H1 I1 r1 q1=>hc Xa s1 Y H1 vs us Q I1 r1 q1) he Xp
def KG(hc:zm X (.type T) r)(hg:Gl X x)(hm:X.mg x=Db)(hv:Go x=Fa (.type T))(ha:PA X (e::es) t)(hn:x≠"__name__":=by decide)(Xt:zb x:=by decide)
  (he:A6 X e es:=by rfl) (Xp:BJ X pos es:=by rfl):PE X (.Call (.Name x p) (e::es) [] pos) (WP r t):=by
 intro Xa s Y H Q I h;refine gk (wm I hg hm hv ?_ hn Xt);exact fG (sC (ha pos Xa s Y H _ I h) λus s1 zz=>x5 zz λvs H1 I1 r1 q1=>hc Xa s1 Y H1 vs us Q I1 r1 q1) he Xp
end
end L2
namespace HT
open PySem PyProof.Rows
section
open PySem.SeqAt
open PySem.AutoSeq1 (wpAny_loadPart')
open PySem.MeetsSeq PySem.MeetsSeq2 PySem.MeetsSeq3
end
variable {prog:Pg}{w:Wo}{A:Ar}{E:QQX}{s:Sd}
def Pz{vs ws:T0 Vl}{Q:QQX}(ht:IsTup s.heap t vs.toArray)(hb:IsTup s.heap b ws.toArray)(hv:vs≠[]) (h1:ws=[]->Q (.ref t) s) (h2:ws≠[]->Q (.ref s.heap.objs.size) {s with heap:=s.heap.push {cls:=.type "tuple",data:=.seq (vs++ws).toArray}})
  (hsz:vs.length+ws.length<=pi):Tk (Tl prog w) A (wS .Add (.ref t) (.ref b)) Q E s:=by
 obtain⟨⟨cls,dd,data,sl⟩,ho,hc,n,hd⟩:=id ht;obtain⟨⟨cls2,dd2,data2,sl2⟩,ho2,hc2,n2,hd2⟩:=id hb;simp only at hc hd hc2 hd2;subst hc hd hc2 hd2;have e:vs.toArray++ws.toArray=(vs++ws).toArray:=by simp
 by_cases hw:ws=[]
 .exact kU ⟨_,ho,Z'⟩ ⟨_,ho2,Z'⟩ lQ seq_tuple_add j9 jX (jL _ _)
   (tuple_addW1 t b vs.toArray ws.toArray n n2 dd dd2 sl sl2 (by simpa using hv) (by simp[hw])) ⟨ho,ho2,h1 hw⟩
 .refine kU ⟨_,ho,Z'⟩ ⟨_,ho2,Z'⟩ lQ seq_tuple_add j9 jX (jL _ _)
   (tuple_addW2 t b vs.toArray ws.toArray n n2 dd dd2 sl sl2 (by simpa using hv) (by simpa using hw) (by rw[dD,dD];exact hsz)) ⟨ho,ho2,?_⟩
  rw[e];exact h2 hw
noncomputable def tz(n d:Nat):Option Int->Nat
 | none=>d
 | some v=>if v<0 then(v+(n:Int)).toNat else min v.toNat n
def BI(n d:Nat):tz n d Db=d:=rfl
def JS(n d k:Nat):tz n d (Fa (k:Int))=min k n:=by show(if (k:Int)<0 then((k:Int)+(n:Int)).toNat else min (k:Int).toNat n)=min k n;rw[dh (by omega),gO]
def Sk(n d:Nat)(hd:d<=n)(o:Option Int):tz n d o<=n:=by
 cases o with
 | none=>exact hd
 | some v=>
  show(if v<0 then(v+(n:Int)).toNat else min v.toNat n)<=n;by_cases hv:v<0
  .rw[dz hv];omega
  .rw[dh hv];exact Nat.min_le_right _ _
def Jm(v:Int)(n d:Nat):(if v<0 then max (v+(n:Int)) 0 else min v (n:Int))=((tz n d (Fa v):Nat):Int):=by
 show(if v<0 then max (v+(n:Int)) 0 else min v (n:Int))=(((if v<0 then(v+(n:Int)).toNat else min v.toNat n):Nat):Int);by_cases hv:v<0
 .simp only[dz hv];omega
 .simp only[dh hv];omega
def Ht(lo hi:Option Int)(n:Nat):Builtin.Slice.sliceAdjust lo hi 1 (n:Int)=(((tz n 0 lo:Nat):Int),((tz n n hi:Nat):Int)):=by
 have h1:¬((1:Int)<0):=by omega
 unfold Builtin.Slice.sliceAdjust;simp only[h1,if_false];refine Prod.ext ?_ ?_
 .cases lo with
  | none=>rfl
  | some v=>exact Jm v n 0
 .cases hi with
  | none=>rfl
  | some v=>exact Jm v n n
def HW(i j:Nat):Builtin.Slice.slicePlaces (i:Int) (j:Int) 1=j - i:=by
 unfold Builtin.Slice.slicePlaces;have h1:(1:Int)>0:=by omega
 simp only[h1,je,Int.ediv_one];split<;>omega
def Cd{Q:Option Int->Sd->Prop}(p:IsPart v o)(h:Q o s):Tk (Tl prog w) A (Builtin.Slice.slicePartIndex v) Q E s:=by
 cases p with
 | none=>exact slicePart_none h
 | int i t=>exact slicePart_int h
def wG{sl:Ch}{vl vu:Vl}{lo hi:Option Int}{Q:Int×Int×Nat->Sd->Prop}(hs:s.heap.IsSliceOf sl vl vu .none)(pl:IsPart vl lo)(pu:IsPart vu hi) (h:Q (((tz n 0 lo:Nat):Int),1,tz n n hi - tz n 0 lo) s):Tk (Tl prog w) A (Builtin.Slice.sliceApplied (.ref sl) (pure (n:Int))) Q E s:=by
 obtain⟨os,Z5,ZO,Yt⟩:=id hs;unfold Builtin.Slice.sliceApplied Builtin.Slice.sliceFields;refine c9 (c9 (eW Z5 Yt (x:=vl) Z' (c9 (eW Z5 Yt (x:=vu) Z' (c9 (eW Z5 Yt (x:=.none) Z' (dC ?_)))))));refine c9 (slicePart_none ?_);show Tk _ _ (if ((1:Int)==0)=pc then _ else _) _ _ s;rw[dh (by decide)];refine c9 (Cd pl (c9 (Cd pu (c9 (dC ?_)))));show Tk _ _ (match Builtin.Slice.sliceAdjust lo hi 1 (n:Int)with|(lo,hi)=>pure (lo,(1:Int),Builtin.Slice.slicePlaces lo hi 1)) _ _ s;rw[Ht lo hi n];show Tk _ _ (pure (((tz n 0 lo:Nat):Int),(1:Int),Builtin.Slice.slicePlaces ((tz n 0 lo:Nat):Int) ((tz n n hi:Nat):Int) 1)) _ _ s;rw[HW];exact dC h
def L'(xs:Array Vl)(i k:Nat):((List.range k).filterMap λ(m:Nat)=>xs[((i:Int)+(m:Int)*1).toNat]?).toArray=((xs.toList.drop i).take k).toArray:=by
 have e:(λ(m:Nat)=>xs[((i:Int)+(m:Int)*1).toNat]?)=λm=>xs[i+m]?:=by
  funext m;have:((i:Int)+(m:Int)*1).toNat=i+m:=by omega
  rw[this]
 rw[e];have:=pick_run xs i k;rw[List.filterMap_map]at this;have e2:((λx=>xs[x]?)∘λx=>i+x)=λm=>xs[i+m]?:=rfl;rw[e2]at this;rw[this]
def zK{t sl:Ch}{vl vu:Vl}{lo hi:Option Int}{Q:QQX}(ht:IsTup s.heap t Xb)(hs:s.heap.IsSliceOf sl vl vu .none)(pl:IsPart vl lo)(pu:IsPart vu hi) (hw:¬(tz Xb.size 0 lo=0/\tz Xb.size Xb.size hi=Xb.size)) (h:Q (.ref s.heap.objs.size) {s with heap:=s.heap.push {cls:=.type "tuple",data:=.seq ((Xb.toList.drop (tz Xb.size 0 lo)).take (tz Xb.size Xb.size hi - tz Xb.size 0 lo)).toArray}})
  (hsz:Xb.size<=pi):Tk (Tl prog w) A (XXe (.ref t) (.ref sl)) Q E s:=by
 have YA:sizeOk (.seq ((Xb.toList.drop (tz Xb.size 0 lo)).take (tz Xb.size Xb.size hi - tz Xb.size 0 lo)).toArray):=by show((Xb.toList.drop (tz Xb.size 0 lo)).take (tz Xb.size Xb.size hi - tz Xb.size 0 lo)).toArray.size<=pi;rw[dD,eR,gj,ja];omega
 have hj:tz Xb.size Xb.size hi<=Xb.size:=Sk _ _ (dB _) hi;obtain⟨os,Z5,ZO,Yt⟩:=id hs;have hTs:s.TypeIs (.ref sl) "slice":=⟨os,Z5,ZO⟩;unfold XXe
 try with_reducible refine fu ?_
 first|refine c9 (dC ?_)|skip
 refine c9 (jw ht.typeIs (by decide) ?_);refine c9 (fz (name:=Str.ofString "__getitem__") ht.typeIs fJ
  (fV fJ ht.typeIs kG ?_ (kW _ _)))
 show Tk _ _ (Builtin.Tuple.tupleItemsOf (.ref t)>>=_) _ _ s;refine c9 (tupleItemsOf_ ht ?_);refine c9 (jM hTs ?_);rw[dz (by decide)];refine c9 (wG hs pl pu ?_);have hno:¬((((tz Xb.size 0 lo:Nat):Int)==0&&(1:Int)==1&&(tz Xb.size Xb.size hi - tz Xb.size 0 lo)==Xb.size)=pc):=by intro q;rw[eh,eh]at q;have q1:((tz Xb.size 0 lo:Nat):Int)=0:=dL q.1.1;have q2:tz Xb.size Xb.size hi - tz Xb.size 0 lo=Xb.size:=dL q.2;exact hw ⟨by omega,by omega⟩
 show Tk _ _ (if (((tz Xb.size 0 lo:Nat):Int)==0&&(1:Int)==1&&(tz Xb.size Xb.size hi - tz Xb.size 0 lo)==Xb.size)=pc then _ else _) _ _ s;rw[dh hno,L']
 first
  | exact c9 (m:=Builtin.Tuple.tupleExact _) (fN (dC ⟨_,rfl,dC h⟩) YA)
  | exact c9 (m:=Builtin.Tuple.tupleExact _) (fN (c9 (dC (dC ⟨_,rfl,dC h⟩))) YA)
  | exact c9 (c9 (m:=Builtin.Tuple.tupleExact _) (fN (dC (dC ⟨_,rfl,dC h⟩)) YA))
  | exact c9 (c9 (m:=Builtin.Tuple.tupleExact _) (fN (dC ⟨_,rfl,dC h⟩) YA))
end HT
namespace L2
abbrev TO:=St->Hp->(Option Int->Hp->Prop)->Prop
def PO(X:Cx)(e:Option No)(t:TO):Prop:=
 ∀(Xa:QQY) (s:Sd) (Y:St) (H:Hp) (Q:Option Int->Hp->Prop),Inv X Xa Y H s->t Y H Q->
  Tk (Tl X.prog X.w) X.A (evalPart e X.env) (λu s'=>∃o H',Inv X Xa Y H' s'/\IsPart u o/\Q o H') X.xe s
def O9:TO:=λ_ H Q=>Q Db H
def UP(t:TE):TO:=λY H Q=>t Y H λx H1=>∃i,x=.int i/\Q (Fa i) H1
variable {X:Cx}{e:No}{te:TE}{lo hi:Option No}{tl th:TO}{pos p2:Pos}
def Px:PO X Db O9:=by intro Xa s Y H Q I h;rw[evalPart_none];exact dC ⟨Db,H,I,.none,h⟩
def PY(h:PE X e te):PO X (Fa e) (UP te):=by intro Xa s Y H Q I hw;rw[evalPart_some];refine sC (h Xa s Y H _ I hw) λu s1 zz=>x5 zz λx H1 I1 r1 q1=>?_;obtain⟨i,rfl,q⟩:=q1;obtain⟨t,rfl⟩:=r1;exact⟨Fa i,H1,I1,.int i t,q⟩
def TQ(X:Cx)(r:V->Option Int->Option Int->Hp->VK->Prop):Prop:=
 ∀(Xa:QQY) (s:Sd) (Y:St) (H:Hp) (x:V) (v vl vu:Vl) (lo hi:Option Int) (sl:Ch) (Q:VK),Inv X Xa Y H s->qN x v->s.heap.IsSliceOf sl vl vu .none->IsPart vl lo->IsPart vu hi->r x lo hi H Q->
  ∃T id,typeLookup (.type T) "__getitem__"=pure (Fa (.builtin id))/\s.TypeIs v T/\Tk (Tl X.prog X.w) X.A (XXe v (.ref sl)) (EP X Xa Y Q) X.xe s
def WV(r:V->Option Int->Option Int->Hp->VK->Prop)(te:TE)(tl th:TO):TE:=λY H Q=>te Y H λx H1=>tl Y H1 λl H2=>th Y H2 λu H3=>r x l u H3 Q
def NY(hr:TQ X r)(he:PE X e te)(hl:PO X lo tl)(hu:PO X hi th):PE X (.Subscript e (.Slice lo hi Db p2) pos) (WV r te tl th):=by intro Xa s Y H Q I h;refine Subscript_ (sC (he Xa s Y H _ I h) λv s1 zz=>x5 zz λx H1 I1 r1 q1=>?_);refine wpAny_Slice (sC (hl Xa s1 Y H1 _ I1 q1) λvl s2 zz=>x5 zz λl H2 I2 pl q2=>sC (hu Xa s2 Y H2 _ I2 q2) λvu s3 zz=>x5 zz λu H3 I3 pu q3=>?_);rw[evalPart_none];refine dC ?_;have I4:Inv X Xa Y H3 {s3 with heap:=s3.heap.push {cls:=.type "slice",data:=.fields #[vl,vu,.none]}}:=I3.kept (t':=s3.toks) λb ob q=>dq _ q;obtain⟨T,id,hT,ht,hg⟩:=hr Xa {s3 with heap:=s3.heap.push {cls:=.type "slice",data:=.fields #[vl,vu,.none]}} Y H3 x v vl vu l u s3.heap.objs.size Q I4 r1 (mH ..) pl pu q3;show Tk (Tl X.prog X.w) X.A (subscriptTail e (.Slice lo hi Db p2) v (.ref s3.heap.objs.size)) (EP X Xa Y Q) X.xe {s3 with heap:=s3.heap.push {cls:=.type "slice",data:=.fields #[vl,vu,.none]}};exact tail_any (ops:=[.ref s3.heap.objs.size,v]) ht hT hg (by with_unfolding_all rfl)
noncomputable def B9(xs:T0 V)(lo hi:Option Int):T0 V:=(xs.drop (HT.tz xs.length 0 lo)).take (HT.tz xs.length xs.length hi - HT.tz xs.length 0 lo)
def AC(xs:T0 V)(lo hi:Option Int):(B9 xs lo hi).length<=xs.length:=by unfold B9;rw[eR,gj];omega
def Wv(K:qo):V->Option Int->Option Int->Hp->VK->Prop:=λx lo hi H Q=>∃a xs,x=.ref a/\uS K H a xs/\
 ¬(HT.tz xs.length 0 lo=0/\HT.tz xs.length xs.length hi=xs.length)/\∀p,H p=Db->Q (.ref p) (upd H p (.tup (B9 xs lo hi)))
def R6:TQ X (Wv X.K):=by
 intro Xa s Y H x v vl vu lo hi sl Q I rx hs pl pu h;obtain⟨a,xs,rfl,hx,hw,q⟩:=h;cases rx;obtain⟨its,r,ht,hz⟩:=I.tuple hx;have Xg:its.toArray.size=xs.length:=by rw[dD];exact r.length.symm
 refine⟨"tuple",_,fJ.lookup,ht.typeIs,?_⟩;refine HT.zK ht hs pl pu (by rw[Xg];exact hw) ?_ (by rw[Xg];exact hz);rw[Xg];refine⟨.ref s.heap.objs.size,_,I.laid (t':=s.toks) (o:=.tup (B9 xs lo hi)) (λb ob q=>dq _ q) (dB _) ?_,Z',q _ (I.mT.fresh (dB _))⟩;exact⟨eA (AC xs lo hi) hz,_,(r.drop (HT.tz xs.length 0 lo)).take (HT.tz xs.length xs.length hi - HT.tz xs.length 0 lo),Ek.new _ _⟩
def UQ(K:qo):R2:=λx y H Q=>∃a b xs ys,x=.ref a/\y=.ref b/\uS K H a xs/\uS K H b ys/\xs≠[]/\xs.length+ys.length<=pi/\
 (ys=[]->Q (.ref a) H)/\(ys≠[]->∀p,H p=Db->Q (.ref p) (upd H p (.tup (xs++ys))))
def qD.nM(r:qD xs us):us=[]↔xs=[]:=by
 cases r with
 | nil=>simp
 | cons _ _=>simp
def Pd:ya X (wS .Add) (UQ X.K):=by intro Xa s Y H x y v u Q I rx ry h;obtain⟨a,b,xs,ys,rfl,rfl,ha,hb,hx,hz,q1,q2⟩:=h;cases rx;cases ry;obtain⟨its,r1,p1,_⟩:=I.tuple ha;obtain⟨YU,r2,p2,_⟩:=I.tuple hb;refine HT.Pz p1 p2 (λz=>hx (r1.nM.mp z)) (λz=>⟨.ref a,H,I,Z',q1 (r2.nM.mp z)⟩) (λz=>?_) (by rw[<-r1.length,<-r2.length];exact hz);refine⟨.ref s.heap.objs.size,_,I.laid (t':=s.toks) (o:=.tup (xs++ys)) (λb ob q=>dq _ q) (dB _) ?_,Z',q2 (λw=>z (r2.nM.mpr w)) _ (I.mT.fresh (dB _))⟩;exact⟨by rw[df];exact hz,_,r1.append r2,Ek.new _ _⟩
noncomputable def G9(n:Nat)(i:Int):Option Nat:=if 0<=i then(if i<n then Fa i.toNat else Db)else if -(n:Int)<=i then Fa (i+n).toNat else Db
noncomputable def vM{α:Type}(xs:List α)(i:Int):Option α:=(G9 xs.length i).bind λj=>xs[j]?
def IZ{j:Nat}(h:G9 n i=Fa j):seqIndex? i n=Fa j/\j<n/\-(n:Int)<=i/\i<n:=by
 unfold G9 at h;by_cases h0:0<=i
 .rw[dz h0]at h;by_cases h1:i<n
  .rw[dz h1]at h;have e:i.toNat=j:=dA h;exact⟨by rw[lJ h0 h1,e],by omega,by omega,h1⟩
  .rw[dh h1]at h;cases h
 .rw[dh h0]at h;by_cases h1:-(n:Int)<=i
  .rw[dz h1]at h;have e:(i+n).toNat=j:=dA h;exact⟨by rw[kX (by omega) h1,e],by omega,h1,by omega⟩
  .rw[dh h1]at h;cases h
def EW{α:Type}{xs:List α}{i:Int}{v:α}(h:vM xs i=Fa v):∃j,seqIndex? i xs.length=Fa j/\xs[j]?=Fa v/\j<xs.length/\-(xs.length:Int)<=i/\i<xs.length:=by
 unfold vM at h;cases e:G9 xs.length i with
 | none=>rw[e]at h;cases h
 | some j=>rw[e]at h;obtain⟨h1,h2,h3,h4⟩:=IZ e;exact⟨j,h1,h,h2,h3,h4⟩
def uB{α:Type}{xs:List α}{j:Nat}{v:α}(h:xs[j]?=Fa v):vM xs (j:Int)=Fa v:=by
 have hj:j<xs.length:=(de.mp h).1;have e:G9 xs.length (j:Int)=Fa j:=by unfold G9;rw[dz (by omega),dz (by omega)];simp
 unfold vM;rw[e];exact h
def Br(b:No):Prop:=∀o i,subscripted b Uf o i=operate [o,i] (XXe o i)
def Ts(X:Cx)(r:R2):Prop:=
 ∀(value Xl:No) (Xa:QQY) (s:Sd) (Y:St) (H:Hp) (x y:V) (v u:Vl) (Q:VK),Inv X Xa Y H s->qN x v->qN y u->r x y H Q->
  subscripted Xl Uf v u=operate [v,u] (XXe v u)->Tk (Tl X.prog X.w) X.A (subscriptTail value Xl v u) (EP X Xa Y Q) X.xe s
def WD(X:Cx)(id:String)(r:V->T0 V->Hp->VK->Prop):Prop:=
 ∀(Xa:QQY) (s:Sd) (Y:St) (H:Hp) (x:V) (xs:T0 V) (v:Vl) (us:T0 Vl) (Q:VK),Inv X Xa Y H s->qN x v->qD xs us->r x xs H Q->
  Tk (Tl X.prog X.w) X.A (call (.builtin id) (v::us)) (EP X Xa Y Q) X.xe s
variable {o:No}{es:T0 No}{to:TE}{t:TA}{name:Str}{Xd Xi:Pos}{T id:String}{r:V→T0 V→Hp→VK→Prop}{a:No}{ta tb:TE}
section
variable {b:No}
def Mw{r:R2}(hr:Ts X r)(ha:PE X a ta)(hb:PE X b tb)(hs:Br b):PE X (.Subscript a b pos) (UR r ta tb):=by intro Xa s Y H Q I h;exact Subscript_ (SN ha hb I h λv u s2 x y H2 I2 rx ry q=>hr a b Xa s2 Y H2 x y v u Q I2 rx ry q (hs _ _))
def VM(K:qo):R2:=λx y H Q=>∃p xs i v,x=.ref p/\y=.int i/\za K H p xs/\vM xs i=Fa v/\Q v H
def Wc(K:qo):R2:=λx y H Q=>∃p xs i v,x=.ref p/\y=.int i/\uS K H p xs/\vM xs i=Fa v/\Q v H
def VQ:R2:=λx y H Q=>∃z i c,x=.str z/\y=.int i/\z.length<=pi/\vM z.cps.toList i=Fa c/\Q (.str ⟨#[c]⟩) H
def Jk:Ts X (VM X.K):=by
 intro value Xl Xa s Y H x y v u Q I rx ry h hs;obtain⟨p,xs,i,z,rfl,rfl,hq,he,q⟩:=h;cases rx;obtain⟨t,rfl⟩:=ry;obtain⟨its,r,pl,hz⟩:=I.list hq;obtain⟨j,h1,h2,h3,h4,h5⟩:=EW he;obtain⟨w,ew,Zr⟩:=r.get h2;have hl:=r.length;have hn:=yY;have Xe:EP X Xa Y Q w s:=⟨z,H,I,Zr,q⟩;by_cases h0:0<=i
 .have hj:i.toNat=j:=by rw[lJ h0 h5]at h1;exact dA h1
  exact item_listR pl.isList h0 (by omega) (by rw[hj];simpa using ew) Xe hs
 .have hj:(i+(its.toArray.size:Int)).toNat=j:=by rw[kX (by omega) h4]at h1;rw[dD,<-hl];exact dA h1
  exact kc (x:=w) pl.isList.typeIs lB.lookup
   (wpAny_getItem_list_neg (Q:=λr s'=>r=w/\EP X Xa Y Q r s') pl.isList (by omega) (by rw[dD]<;>omega) (by omega) (by rw[hj];simpa using ew) ⟨Z',Xe⟩) hs
def SA:Ts X (Wc X.K):=by
 intro value Xl Xa s Y H x y v u Q I rx ry h hs;obtain⟨p,xs,i,z,rfl,rfl,hq,he,q⟩:=h;cases rx;obtain⟨t,rfl⟩:=ry;obtain⟨its,r,pl,hz⟩:=I.tuple hq;obtain⟨j,h1,h2,h3,h4,h5⟩:=EW he;obtain⟨w,ew,Zr⟩:=r.get h2;have hl:=r.length;have hn:=yY;have Xe:EP X Xa Y Q w s:=⟨z,H,I,Zr,q⟩;exact kc (x:=w) pl.typeIs slot_tuple_getitem.lookup
  (getItem_tuple (j:=j) (Q:=λr s'=>r=w/\EP X Xa Y Q r s') pl (by omega) (by omega) (by rw[dD,<-hl];exact h1) (by simpa using ew) ⟨Z',Xe⟩) hs
def SC:Ts X VQ:=by
 intro value Xl Xa s Y H x y v u Q I rx ry h hs;obtain⟨z,i,c,rfl,rfl,hz,he,q⟩:=h;obtain⟨t,rfl⟩:=rx;obtain⟨t',rfl⟩:=ry;obtain⟨j,h1,h2,h3,h4,h5⟩:=EW he;have hl:z.cps.toList.length=z.length:=by simp[Str.length]
 rw[hl]at h1 h4 h5;have hn:=yY;exact tail_any (typeIs_str s z t) slot_str_getitem.lookup (getItem_str (c:=c) (by
  have e1:decide (i< -(2 ^ 63:Int))=Uf:=eY (by omega);have e2:decide (i>=2 ^ 63)=Uf:=eY (by omega);rw[e1,e2,kD]) (by rw[h1];simpa using h2) ⟨.str ⟨#[c]⟩,H,I.tok _,⟨_,Z'⟩,q⟩) hs
def HI(its:T0 Vl)(n j:Nat)(u:Vl):Obj.mapSeq (·.setIfInBounds j u) {cls:=.type "list",data:=.seq its.toArray n}={cls:=.type "list",data:=.seq (its.set j u).toArray n}:=by simp[Obj.mapSeq]
def Inv.lst{p:Ch}{xs:T0 V}(I:Inv X Xa Y H s)(h:H p=Fa (.lst xs)):
  ∃(its:T0 Vl) (n:Nat),qD xs its/\s.heap.get? p=Fa {cls:=.type "list",data:=.seq its.toArray n}/\xs.length<=pi:=by
 obtain⟨z,its,n,r,e⟩:=I.mT p _ h;exact⟨its,n,r,e,z⟩
def Inv.oq{p:Ch}{xs ys:T0 V}{its its':T0 Vl}{n n':Nat}{f:Obj->Obj}(I:Inv X Xa Y H s)(h:H p=Fa (.lst xs)) (ho:s.heap.get? p=Fa {cls:=.type "list",data:=.seq its.toArray n}) (hf:f {cls:=.type "list",data:=.seq its.toArray n}={cls:=.type "list",data:=.seq its'.toArray n'}) (r:qD ys its') (hz:ys.length<=pi) (t:Nat):
  Inv X Xa Y (upd H p (.lst ys)) {s with heap:=s.heap.update p f,toks:=t}:=by
 have e:(s.heap.update p f).get? p=Fa {cls:=.type "list",data:=.seq its'.toArray n'}:=by rw[fH f ho (by rw[hf]<;>rfl),hf]
 refine I.write (x:=p) (e:=p) (by rw[h];trivial) (.inl Z') (λb u hb q=>(gg _ _ (dW hb)).trans q) ⟨_,e⟩ ?_;exact⟨hz,its',n',r,e⟩
def Tx:V->V->V->Hp->(Hp->Prop)->Prop:=λo i v H Q=>∃p xs k j,o=.ref p/\i=.int k/\H p=Fa (.lst xs)/\G9 xs.length k=Fa j/\Q (upd H p (.lst (xs.set j v)))
def LG:UL X Tx:=by
 intro Xa s Y H o i v ov iv u Q I ro ri rv h;obtain⟨p,xs,k,j,rfl,rfl,hp,hj,q⟩:=h;cases ro;obtain⟨t,rfl⟩:=ri;obtain⟨its,n,r,ho,hz⟩:=I.lst hp;obtain⟨h1,h2,h3,h4⟩:=IZ hj;have hl:=r.length;have hn:=yY;have I':Inv X Xa Y (upd H p (.lst (xs.set j v))) {s with heap:=s.heap.update p (Obj.mapSeq (·.setIfInBounds j u))}:=
  I.oq hp ho (HI its n j u) (r.set rv j) (by rw[iu];exact hz) s.toks
 by_cases h0:0<=k
 .have hk:k.toNat=j:=by rw[lJ h0 h4]at h1;exact dA h1
  exact W.ki_setAt ho h0 (by omega) (by rw[dD,<-hl];exact h4) (by rw[hk];exact⟨_,I',q⟩)
 .have hk:(k+(its.toArray.size:Int)).toNat=j:=by rw[kX (by omega) h3]at h1;rw[dD,<-hl];exact dA h1
  exact W.ki_setBack ho (by omega) (by rw[dD,<-hl];exact h3) (by omega) (by rw[hk];exact⟨_,I',q⟩)
def EA(lo hi:Option Int)(n:Nat):(XXf lo hi Db n).1=((HT.tz n 0 lo:Nat):Int)/\(XXf lo hi Db n).2.1=((HT.tz n n hi:Nat):Int)/\(XXf lo hi Db n).2.2=1:=by
 refine⟨?_,?_,Z'⟩
 .cases lo with
  | none=>simp[XXf,HT.tz]
  | some i=>
   simp only[XXf,HT.tz,lR,show(1:Int)>0 by decide,je];by_cases h:i<0
   .simp only[h,je]<;>omega
   .simp only[h,if_false]<;>omega
 .cases hi with
  | none=>simp[XXf,HT.tz]
  | some i=>
   simp only[XXf,HT.tz,lR,show(1:Int)>0 by decide,je];by_cases h:i<0
   .simp only[h,je]<;>omega
   .simp only[h,if_false]<;>omega
def CT(its:T0 Vl)(lo hi:Option Int):slicePick its.toArray lo hi Db=((its.drop (HT.tz its.length 0 lo)).take (HT.tz its.length its.length hi - HT.tz its.length 0 lo)).toArray:=by obtain⟨h1,h2,h3⟩:=EA lo hi its.toArray.size;unfold slicePick;rw[h1,h2,h3];simp only[sliceRange_one,pick_run,dD]<;>rfl
def VG(K:qo):V->Option Int->Option Int->Hp->VK->Prop:=λx lo hi H Q=>∃a xs,x=.ref a/\za K H a xs/\∀p,H p=Db->Q (.ref p) (upd H p (.lst (B9 xs lo hi)))
def IS:TQ X (VG X.K):=by intro Xa s Y H x v vl vu lo hi sl Q I rx hs pl pu h;obtain⟨a,xs,rfl,hx,q⟩:=h;cases rx;obtain⟨its,r,ht,hz⟩:=I.list hx;have Xg:=r.length;refine⟨"list",_,lB.lookup,ht.isList.typeIs,?_⟩;refine wpAny_getItem_list_slice ht.isList hs pl pu .none (by simp) ?_ (by rw[dD]<;>omega);rw[CT,<-Xg];refine⟨.ref s.heap.objs.size,_,I.laid (t':=s.toks) (o:=.lst (B9 xs lo hi)) (λb ob q=>dq _ q) (dB _) ?_,Z',q _ (I.mT.fresh (dB _))⟩;exact⟨eA (AC xs lo hi) hz,_,0,(r.drop (HT.tz xs.length 0 lo)).take (HT.tz xs.length xs.length hi - HT.tz xs.length 0 lo),dN _ Z'⟩
noncomputable def yB:V->Bool
 | .mP=>pc
 | .bl _=>pc
 | .int _=>pc
 | .str _=>pc
 | _=>Uf
noncomputable def Oi:V->V->Bool
 | .mP,.mP=>pc
 | .bl a,.bl b=>a==b
 | .bl a,.int b=>(if a then 1 else 0)==b
 | .int a,.bl b=>a==(if b then 1 else 0)
 | .int a,.int b=>a==b
 | .str a,.str b=>a==b
 | _,_=>Uf
def Sm(ry:qN y u)(rx:qN x v)(fy:yB y=pc)(fx:yB x=pc):SeqAt.EqAt A s u v (Oi y x):=by
 cases y with
 | mP=>
  cases ry;cases x with
  | mP=>cases rx;exact SeqAt.EqAt.same _
  | bl b=>cases rx;exact SeqAt.EqAt.none_bool b
  | int b=>obtain⟨t,rfl⟩:=rx;exact SeqAt.EqAt.none_int b t
  | str b=>obtain⟨t,rfl⟩:=rx;exact SeqAt.EqAt.none_str b t
  | _=>exact absurd (show Uf=pc from fx) dE
 | bl a=>
  cases ry;cases x with
  | mP=>cases rx;exact SeqAt.EqAt.bool_none a
  | bl b=>cases rx;exact SeqAt.EqAt.bool_bool a b
  | int b=>obtain⟨t,rfl⟩:=rx;exact SeqAt.EqAt.bool_int a b t
  | str b=>obtain⟨t,rfl⟩:=rx;exact SeqAt.EqAt.bool_str a b t
  | _=>exact absurd (show Uf=pc from fx) dE
 | int a=>
  obtain⟨t',rfl⟩:=ry;cases x with
  | mP=>cases rx;exact SeqAt.EqAt.int_none a t'
  | bl b=>cases rx;exact SeqAt.EqAt.int_bool a t' b
  | int b=>obtain⟨t,rfl⟩:=rx;exact SeqAt.EqAt.int_int a t' b t
  | str b=>obtain⟨t,rfl⟩:=rx;exact kO a t' b t
  | _=>exact absurd (show Uf=pc from fx) dE
 | str a=>
  obtain⟨t',rfl⟩:=ry;cases x with
  | mP=>cases rx;exact SeqAt.EqAt.str_none a t'
  | bl b=>cases rx;exact SeqAt.EqAt.str_bool a t' b
  | int b=>obtain⟨t,rfl⟩:=rx;exact kP a t' b t
  | str b=>obtain⟨t,rfl⟩:=rx;exact SeqAt.EqAt.str_str a t' b t
  | _=>exact absurd (show Uf=pc from fx) dE
 | _=>exact absurd (show Uf=pc from fy) dE
noncomputable def Fw(x:V)(u:Vl):Bool:=match u with
 | .none=>Oi .mP x
 | .bool b=>Oi (.bl b) x
 | .int i _=>Oi (.int i) x
 | .str z _=>Oi (.str z) x
 | _=>Uf
def Ir(r:qN y u)(f:yB y=pc):Fw x u=Oi y x:=by
 cases y with
 | mP=>cases r;rfl
 | bl b=>cases r;rfl
 | int i=>obtain⟨t,rfl⟩:=r;rfl
 | str z=>obtain⟨t,rfl⟩:=r;rfl
 | _=>exact absurd (show Uf=pc from f) dE
theorem zg:∀{xs:T0 V} {us:T0 Vl},qD xs us->xs.all yB=pc->us.any (Fw x)=xs.any λy=>Oi y x
 | _,_,.nil,_=>rfl
 | y::xs,u::us,.cons r t,f=>by rw[fC,eh]at f;rw[gh,gh,Ir r f.1,zg t f.2]
theorem wK(rx:qN x v)(fx:yB x=pc):∀{xs:T0 V} {us:T0 Vl},qD xs us->xs.all yB=pc->∀u∈us,SeqAt.EqAt A s u v (Fw x u)
 | _,_,.nil,_=>λu hu=>by cases hu
 | y::xs,u::us,.cons r t,f=>λu' hu=>by
  rw[fC,eh]at f;rcases dw.mp hu with rfl|hu
  .rw[Ir r f.1];exact Sm r rx f.1 fx
  .exact wK rx fx t f.2 u' hu
noncomputable def inV(x:V)(xs:T0 V):Bool:=xs.any λy=>Oi y x
def VV(K:qo)(YN:Bool):R2:=λx y H Q=>∃p xs,y=.ref p/\(za K H p xs\/uS K H p xs)/\yB x=pc/\xs.all yB=pc/\Q (.bl (if YN then !inV x xs else inV x xs)) H
def KR:ya X (Ps .In) (VV X.K Uf):=by
 intro Xa s Y H x y v u Q I rx ry h;obtain⟨p,xs,rfl,hq,fx,fs,q⟩:=h;cases ry;rcases hq with hq|hq
 .obtain⟨its,r,pl,hz⟩:=I.list hq;refine SeqAt.in_listAt (Fw x) pl.isList (λw hw=>wK rx fx r fs w (by simpa using hw)) ⟨.bl _,H,I,Z',?_⟩;rw[show its.toArray.any (Fw x)=its.any (Fw x)by simp,zg r fs];exact q
 .obtain⟨its,r,pl,hz⟩:=I.tuple hq;refine SeqAt.in_tupleAt (Fw x) pl (λw hw=>wK rx fx r fs w (by simpa using hw)) ⟨.bl _,H,I,Z',?_⟩;rw[show its.toArray.any (Fw x)=its.any (Fw x)by simp,zg r fs];exact q
def FI:ya X (Ps .NotIn) (VV X.K pc):=by
 intro Xa s Y H x y v u Q I rx ry h;obtain⟨p,xs,rfl,hq,fx,fs,q⟩:=h;cases ry;rcases hq with hq|hq
 .obtain⟨its,r,pl,hz⟩:=I.list hq;refine SeqAt.notIn_listAt (Fw x) pl.isList (λw hw=>wK rx fx r fs w (by simpa using hw)) ⟨.bl _,H,I,Z',?_⟩;rw[show its.toArray.any (Fw x)=its.any (Fw x)by simp,zg r fs];exact q
 .obtain⟨its,r,pl,hz⟩:=I.tuple hq;refine SeqAt.notIn_tupleAt (Fw x) pl (λw hw=>wK rx fx r fs w (by simpa using hw)) ⟨.bl _,H,I,Z',?_⟩;rw[show its.toArray.any (Fw x)=its.any (Fw x)by simp,zg r fs];exact q
def Fx:ya X (Ps .NotIn) (λx y H Q=>∃i j,x=.str i/\y=.str j/\Q (.bl (!(!(Builtin.Str.occurrences j i 0 j.length 1).isEmpty))) H):=by intro Xa s Y H x y v u Q I rx ry h;obtain⟨i,j,rfl,rfl,q⟩:=h;obtain⟨t,rfl⟩:=rx;obtain⟨t',rfl⟩:=ry;exact notIn_str ⟨.bl _,H,I,Z',q⟩
def wX:zm X (.builtin "len") (λxs H Q=>∃p ys,xs=[.ref p]/\(za X.K H p ys\/uS X.K H p ys)/\Q (.int ys.length) H):=by
 intro Xa s Y H xs us Q I r h;obtain⟨p,ys,rfl,hq,q⟩:=h;obtain⟨u,rfl,rx⟩:=xS r;cases rx;have hn:=yY;rcases hq with hq|hq
 .obtain⟨its,r',pl,hz⟩:=I.list hq;have Xg:=r'.length;exact Calls.call_len_list pl.isList (by simp only[dD]<;>omega) ⟨.int ys.length,H,I.tok _,⟨s.toks+1,by rw[dD,Xg]⟩,q⟩
 .obtain⟨its,r',pl,hz⟩:=I.tuple hq;have Xg:=r'.length;exact len_tuple pl (by simp only[dD]<;>omega) ⟨.int ys.length,H,I.tok _,⟨s.toks+1,by rw[dD,Xg]⟩,q⟩
def Fb:zm X (.builtin "len") (λxs H Q=>∃z,xs=[.str z]/\z.length<=pi/\Q (.int z.length) H):=by intro Xa s Y H xs us Q I r h;obtain⟨z,rfl,hz,q⟩:=h;obtain⟨u,rfl,t,rfl⟩:=xS r;have hn:=yY;exact len_str (by omega) ⟨.int z.length,H,I.tok _,⟨_,Z'⟩,q⟩
def Fh:zm X (.type "list") (λxs H Q=>∃p ys,xs=[.ref p]/\(za X.K H p ys\/uS X.K H p ys)/\∀l,H l=Db->Q (.ref l) (upd H l (.lst ys))):=by
 intro Xa s Y H xs us Q I r h;obtain⟨p,ys,rfl,hq,q⟩:=h;obtain⟨u,rfl,rx⟩:=xS r;cases rx;have Xe:∀(its:T0 Vl),qD ys its->ys.length<=pi->∀(h':wp) (c':Nat),(∀b o',s.heap.get? b=Fa o'->h'.get? b=Fa o')->
   h'.get? s.heap.objs.size=Fa {cls:=.type "list",dict:=none,data:=.seq its.toArray c',slots:=#[]}->EP X Xa Y Q (.ref s.heap.objs.size) {s with heap:=h'}:=λits r' hz h' c' kp e=>
  ⟨.ref s.heap.objs.size,_,I.laid (t':=s.toks) kp (dB _) (show sA X.prog X.w _ h' _ (.lst ys)from⟨hz,its,c',r',e⟩),Z',q _ (I.mT.fresh (dB _))⟩
 rcases hq with hq|hq
 .obtain⟨its,r',pl,hz⟩:=I.list hq;have Xg:=r'.length;obtain⟨o,ho,hc,n,hd⟩:=pl.isList;exact call_list_seq p (.inl Z') ho hc hd (λh' c' kp e=>Xe its r' hz h' c' kp e) (by simp only[dD]<;>omega)
 .obtain⟨its,r',pl,hz⟩:=I.tuple hq;have Xg:=r'.length;obtain⟨o,ho,hc,n,hd⟩:=pl;exact call_list_seq p (.inr Z') ho hc hd (λh' c' kp e=>Xe its r' hz h' c' kp e) (by simp only[dD]<;>omega)
def wq:zm X (.type "tuple") (λxs H Q=>∃p ys,xs=[.ref p]/\((za X.K H p ys/\∀l,H l=Db->Q (.ref l) (upd H l (.tup ys)))\/(uS X.K H p ys/\Q (.ref p) H))):=by
 intro Xa s Y H xs us Q I r h;obtain⟨p,ys,rfl,h⟩:=h;obtain⟨u,rfl,rx⟩:=xS r;cases rx;rcases h with⟨hq,q⟩|⟨hq,q⟩
 .obtain⟨its,r',pl,hz⟩:=I.list hq;have Xg:=r'.length;refine call_tuple_list pl.isList (λh' kp=>?_) (by simp only[dD]<;>omega);have I1:Inv X Xa Y H {s with heap:=h'}:=I.kept (t':=s.toks) kp;have I2:Inv X Xa Y (upd H h'.objs.size (.tup ys)) {s with heap:=h'.push {cls:=.type "tuple",data:=.seq its.toArray}}:=
   I1.laid (t':=s.toks) (λb o e=>dq _ e) (dB _) (show sA X.prog X.w _ _ _ (.tup ys)from⟨hz,its,r',Ek.new _ _⟩)
  exact⟨.ref h'.objs.size,_,I2,Z',q _ (I1.mT.fresh (dB _))⟩
 .obtain⟨its,r',pl,hz⟩:=I.tuple hq;exact call_tuple_same pl ⟨.ref p,H,I,Z',q⟩
def VR(K:qo)(T:String)(x:V)(H:Hp):Prop:=match x with
 | .str _=>T="str"
 | .int _=>T="int"
 | .ref p=>(T="list"/\∃xs,za K H p xs)\/(T="tuple"/\∃o,K.lookup p=Fa o/\o.cls=.type "tuple"/\o.dict=Db)\/
   (T="dict"/\((∃kvs,H p=Fa (.dK kvs))\/∃kvs,H p=Fa (.dT kvs)))\/(T="set"/\∃S n,H p=Fa (.set S n))
 | _=>False
def RU(I:Inv X Xa Y H s)(r:qN x v)(ty:VR X.K T x H):
  s.TypeIs v T/\∀a,v=.ref a->∃ob,s.heap.get? a=Fa ob/\ob.dict=Db:=by
 cases x with
 | str z=>obtain⟨t,rfl⟩:=r;cases(show T="str" from ty);exact⟨typeIs_str s z t,λ_ e=>nomatch e⟩
 | int i=>obtain⟨t,rfl⟩:=r;cases(show T="int" from ty);exact⟨mf s i t,λ_ e=>nomatch e⟩
 | ref p=>
  cases r;rcases ty with⟨rfl,xs,hq⟩|⟨rfl,o,hk,hc,hd⟩|⟨rfl,hk⟩|⟨rfl,S,n,hk⟩
  .obtain⟨its,_,pl,_⟩:=I.list hq;refine⟨pl.isList.typeIs,λa e=>?_⟩;cases e;obtain⟨o,n,e,c,hd,_⟩:=pl;exact⟨o,e,hd⟩
  .refine⟨⟨o,I.ni p o hk,hc⟩,λa e=>?_⟩;cases e;exact⟨o,I.ni _ o hk,hd⟩
  .have z:∃o,s.heap.get? p=Fa o/\o.ExactDict:=by
    rcases hk with⟨kvs,hk⟩|⟨kvs,hk⟩
    .obtain⟨_,_,_,_,o,_,_,e,ex,_⟩:=I.mT p _ hk;exact⟨o,e,ex⟩
    .obtain⟨_,_,_,_,o,_,_,e,ex,_⟩:=I.mT p _ hk;exact⟨o,e,ex⟩
   obtain⟨o,e,ex⟩:=z;refine⟨⟨o,e,ex.1⟩,λa e2=>?_⟩;cases e2;exact⟨o,e,ex.2.1⟩
  .obtain⟨o,_,_,_,e,ex,_⟩:=I.mT p _ hk;refine⟨⟨o,e,ex.1⟩,λa e2=>?_⟩;cases e2;exact⟨o,e,ex.2.1⟩
 | _=>exact False.elim ty
def W6(K:qo)(T:String)(r:V->T0 V->Hp->VK->Prop)(to:TE)(t:TA):TE:=λY H Q=>to Y H λx H1=>VR K T x H1/\t Y H1 λxs H2=>r x xs H2 Q
def Ud(pa:PlainAttrs T)(slot:Slot T name id)(hty:typeOf (.builtin id)=pure (.type "method_descriptor"))(hm:WD X id r)(ho:PE X o to)(ha:PA X (e::es) t) (Xr:xz o name X.env (Op o X.env)=Op o X.env:=by rfl)
  (X6:((Ix Xi (zn (e::es) X.env)).all (λx=>!x.1)&&(wE Xi (Rs [] X.env)).all (λx=>x.1.isSome)
   &&decide ((e::es).length+([]:T0 W').length+(if ([]:T0 W').isEmpty then 0 else 1)<30))=pc:=by rfl)
  (XA:(Xd.endLine==Xi.line)=pc:=by rfl) (hs:A6 X e es:=by rfl) (Xn:BJ X Xi es:=by rfl):
  PE X (.Call (.Attribute o name Xd) (e::es) [] Xi) (W6 X.K T r to t):=by
 intro Xa s Y H Q I h;refine wpAny_Call_method_late Xr X6 XA Z' (sC (ho Xa s Y H _ I h) λv s1 zz=>?_);obtain⟨x,H1,I1,r1,ty,q1⟩:=zz;obtain⟨h1,h2⟩:=RU I1 r1 ty;refine⟨T,id,pa,slot,hty,h1,h2,?_⟩;have hA:=ha Xi Xa s1 Y H1 _ I1 q1;rw[hs]at hA ⊢;refine Calls.callWith_builtin (by show(Uf||(Ix Xi (zn es X.env)).any (·.1))=Uf;rw[Xn]<;>rfl) (Calls.evalArgs_plain ?_);exact sC hA λus s2 zz=>x5 zz λvs H2 I2 r2 q2=>hm Xa s2 Y H2 x vs v us Q I2 r1 r2 q2
end
def WM(X:Cx)(id:String)(r:V->T0 V->Hp->VK->Prop):Prop:=
 ∀(Xa:QQY) (s:Sd) (Y:St) (H:Hp) (x:V) (xs:T0 V) (v:Vl) (us:T0 Vl) (Q:VK),Inv X Xa Y H s->qN x v->qD xs us->r x xs H Q->
  Tk (Tl X.prog X.w) X.A (call (.builtin id) (v::us)) (EP X Xa Y Q) X.xe s
def qD.one:∀{x:V} {us:T0 Vl},qD [x] us->∃u,us=[u]/\qN x u
 | _,_,.cons r .nil=>⟨_,Z',r⟩
theorem qD.rep(h:qD xs us):∀k:Nat,qD (List.replicate k xs).flatten (List.replicate k us).flatten
 | 0=>.nil
 | k+1=>by rw[eN,eN,fY,fY];exact qD.append h (qD.rep h k)
theorem Ed(its:T0 Vl):∀(k:Nat) (acc:T0 Vl),List.foldl (λx1 x2=>x1++x2) acc.toArray (List.replicate k its.toArray)=(acc++(List.replicate k its).flatten).toArray
 | 0,acc=>by simp
 | k+1,acc=>by
  have e:acc.toArray++its.toArray=(acc++its).toArray:=by simp
  have e2:(acc++its)++(List.replicate k its).flatten=acc++(List.replicate (k+1) its).flatten:=by rw[eN,fY,eV]
  rw[<-e2,<-Ed its k (acc++its),<-e,eN,gb]
variable {Xa:T0 (Ch × Obj)}{Y:St}{H:Hp}{s:Sd}{l:Ch}{xs ys zs:T0 V}
section
variable {b:Ch}
def Inv.oO{its its':T0 Vl}{n:Nat}{f:Array Vl->Array Vl}{t':Nat}(I:Inv X Xa Y H s)(hH:H l=Fa (.lst xs)) (e:s.heap.get? l=Fa {cls:=.type "list",data:=.seq its.toArray n}) (hf:f its.toArray=its'.toArray) (hv:qD ys its') (hz:ys.length<=pi):
  Inv X Xa Y (upd H l (.lst ys)) {s with heap:=s.heap.update l (Obj.mapSeq f),toks:=t'}:=by
 have q:=PySem.IsL.update e f;rw[hf]at q;refine I.write (x:=l) (e:=l) (by rw[hH];exact trivial) (.inl Z') (λb' u hb hu=>(gg s.heap (Obj.mapSeq f) (dW hb)).trans hu) ⟨_,q⟩ ?_;exact⟨hz,its',_,hv,q⟩
def Inv.oM{t':Nat}(I:Inv X Xa Y H s)(hv:qD ys its)(hz:ys.length<=pi):
  Inv X Xa Y (upd H s.heap.objs.size (.lst ys)) {s with heap:=s.heap.push {cls:=.type "list",data:=.seq its.toArray},toks:=t'}:=
 I.laid (λ_ _ q=>dq _ q) (dB _) ⟨hz,its,0,hv,dN _ Z'⟩
def Inv.fresh(I:Inv X Xa Y H s):H s.heap.objs.size=Db:=I.mT.fresh (dB _)
def Inv.oj(I:Inv X Xa Y H s)(hH:H l=Fa (.lst xs)):xs.length<=pi/\∃(its:T0 Vl) (n:Nat),qD xs its/\xs.length=its.length/\s.heap.get? l=Fa {cls:=.type "list",data:=.seq its.toArray n}:=by obtain⟨z,its,n,r,e⟩:=I.mT l _ hH;exact⟨z,its,n,r,r.length,e⟩
def Gi{n:Nat}(h:n<=pi):Builtin.List.listTooLong n=Uf:=by unfold Builtin.List.listTooLong;exact eY (by omega)
end
def QJ:V->T0 V->Hp->VK->Prop:=λx vs H Q=>∃l xs y,x=.ref l/\vs=[y]/\H l=Fa (.lst xs)/\xs.length<pi/\Q .mP (upd H l (.lst (xs++[y])))
def KH:WM X "list.append" QJ:=by intro Xa s Y H x vs v us Q I rx rv h;obtain⟨l,xs,y,rfl,rfl,hH,hz,q⟩:=h;cases rx;obtain⟨u,rfl,ru⟩:=rv.one;obtain⟨z,its,n,r,hl,e⟩:=I.oj hH;refine iT F.slot_list_append ⟨_,e,Z'⟩ F.entry_list_append (F.args_list_append_2 _ _) (PySem.list_append l its.toArray n u (by rw[dD];omega)) ⟨e,?_⟩;refine⟨.mP,_,I.oO (its':=its++[u]) hH e (by simp) (r.append (.cons ru .nil)) ?_,Z',q⟩;rw[df,dM];omega
def PZ:V->T0 V->Hp->VK->Prop:=λx vs H Q=>∃l b xs zs,x=.ref l/\vs=[.ref b]/\H l=Fa (.lst xs)/\H b=Fa (.lst zs)/\xs.length+zs.length<=pi/\Q .mP (upd H l (.lst (xs++zs)))
def Kz:WM X "list.extend" PZ:=by
 intro Xa s Y H x vs v us Q I rx rv h;obtain⟨l,b,xs,zs,rfl,rfl,hH,hB,hz,q⟩:=h;cases rx;obtain⟨u,rfl,ru⟩:=rv.one;cases ru;obtain⟨z,its,n,r,hl,e⟩:=I.oj hH;obtain⟨z2,YU,n2,r2,hl2,e2⟩:=I.oj hB;have hsz:its.toArray.size+YU.toArray.size<=pi:=by rw[dD,dD];omega
 have YV:¬(!its.toArray.isEmpty&&Builtin.List.listTooLong (its.toArray.size+YU.toArray.size))=pc:=by rw[Gi hsz,Bool.and_false];exact dE
 refine iT F.slot_list_extend ⟨_,e,Z'⟩ F.entry_list_extend (F.args_list_extend_2 _ _)
  (AutoSeq1.list_extend_list_list_0 l its.toArray n b YU.toArray n2 YV (by rw[dD];omega) (by omega)) ⟨e,e2,?_⟩
 refine⟨.mP,_,I.oO (its':=its++YU) hH e (by simp) (r.append r2) ?_,Z',q⟩;rw[df];omega
def Vz:R2:=λx y H Q=>∃l k xs,x=.ref l/\y=.int k/\H l=Fa (.lst xs)/\-(2 ^ 63)<=k/\k<2 ^ 63/\xs.length*k.toNat<=pi/\
 ∀p,H p=Db->Q (.ref p) (upd H p (.lst (List.replicate k.toNat xs).flatten))
def Oy{α:Type}(xs:List α)(k:Nat):(List.replicate k xs).flatten.length=k*xs.length:=by
 induction k with
 | zero=>simp
 | succ k ih=>rw[eN,fY,df,ih,kY,Nat.add_comm]
def S6:ya X (wS .Mult) Vz:=by
 intro Xa s Y H x y v u Q I rx ry h;obtain⟨l,k,xs,rfl,rfl,hH,h1,h2,hz,q⟩:=h;cases rx;obtain⟨t,rfl⟩:=ry;obtain⟨z,its,n,r,hl,e⟩:=I.oj hH;have Xg:its.toArray.size*k.toNat<=pi:=by rw[dD,<-hl];exact hz
 have hcap:¬its.toArray.size*k.toNat>(2 ^ 63 - 1) / 8:=by
  have:(pi:Nat)<=(2 ^ 63 - 1) / 8:=by decide
  omega
 have XJ:¬(!Builtin.List.listFitsIndex k)=pc:=by rw[fitsIndex_both h1 h2];exact dE
 have YV:¬Builtin.List.listTooLong (its.toArray.size*k.toNat)=pc:=by rw[Gi Xg];exact dE
 have YW:List.foldl (λx1 x2=>x1++x2) #[] (List.replicate (if its.toArray.isEmpty=pc then 0 else k.toNat) its.toArray)=(List.replicate k.toNat its).flatten.toArray:=by
  have f0:∀m:Nat,List.foldl (λx1 x2=>x1++x2) #[] (List.replicate m its.toArray)=(List.replicate m its).flatten.toArray:=λm=>by have:=Ed its m [];rw[eB]at this;exact this
  rw[f0];cases its with
  | nil=>simp
  | cons a r'=>rw[dh (by simp)]
 refine wpAny_binaryOp_repeat_ref (T:="list") (U:="int") (by decide) ⟨_,e,Z'⟩ (λs'=>mf s' k t) noFill_list_mul F.fills_int_mul mh repeat_list F.slot_int_index.lookup
  (iT mh (mf s k t) F.entry_int_rmul (F.args_int_rmul_2 _ _) (int___rmul___int_list k t l its.toArray n)
   ⟨e,Z',⟨_,e,Z'⟩,iT F.slot_list_mul ⟨_,e,Z'⟩ F.entry_list_mul (F.args_list_mul_2 _ _) (AutoListH.list___mul___list_int_3 l its.toArray n k t XJ hcap YV) ⟨e,?_⟩⟩)
 rw[YW];exact⟨.ref _,_,I.oM (t':=s.toks) (r.rep k.toNat) (by rw[Oy,Nat.mul_comm];exact hz),Z',q _ I.fresh⟩
variable {prog:Pg}{w:Wo}{A:Ar}{E:QQX}
end L2
namespace Att
open PySem PySem.W PySem.Calls PyProof.Rows
def Bg:∀(ns:T0 Int) (vs:T0 Vl),WellAll P h vs (ns.map WData.int)->IntsAre vs ns:=by
 intro ns;induction ns with
 | nil=>intro vs w;rw[iU]at w;cases w;exact .nil
 | cons n ns ih=>
  intro vs w;rw[d9]at w;cases w with
  | cons a b=>cases a;exact .cons _ _ (ih _ b)
def K0{l:OpenLaw}{n:Nat}(hn:l.most=Fa n){P:Params}{h:wp}{args:T0 WData}{Z6:T0 Vl} (Zs:l.row.toRowW.claim.pre args=pc) (hwl:WellAll P h Z6 args):
  ∃a vs ns,Z6=[Value.ref a]/\args=[WData.list (ns.map WData.int)]/\h.get? a=Fa {cls:=.type "list",data:=.seq vs.toArray}/\IntsAre vs ns/\ns.length<=n:=by
 have hsh:WShape.hasAll [] args [.list .int]=pc:=(pre_splitW Zs).1;have hc:l.pre.holds [] {args:=args}=pc:=(pre_splitW Zs).2;obtain⟨d,r,rfl,h1,h2⟩:=hasAllW_cons hsh;obtain rfl:=hasAllW_nil h2;obtain⟨xs,rfl,h3⟩:=hasW_list h1;obtain⟨ns,rfl⟩:=items_int h3;have Xg:ns.length<=n:=by
  unfold OpenLaw.pre at hc;have h4:(WTm.not (.lt (.lit (.int (n:Int))) (.len (.arg 0)))).holds [] {args:=[.list (ns.map .int)]}=pc:=by have h4:=(holds_andW hc).1;rw[hn]at h4;exact h4
  have h5:=condW_of h4 (w_not (w_lt w_lit (w_len_list (w_arg Z'))));rw[cZ]at h5;refine Nat.le_of_not_lt λq=>?_;have q':(n:Int)<((ns.length:Nat):Int):=by omega
  first
   | (rw[d6 q']at h5;exact absurd h5 (by decide))
   | (simp at h5;omega)
 cases hwl with
 | cons w1 w2=>
  cases w2;cases w1 with
  | list ho Yf=>exact⟨_,_,ns,Z',Z',ho,Bg ns _ Yf,Xg⟩
def KF(l:OpenLaw)(args:T0 WData):l.row.toRowW.claim.post args (.bool pc) args=pc:=
 postW_of (r:=l.row.toRowW) (X:=(pc==pc))
  (show WShape.has [] (.bool pc) .bool=pc by first|rfl|decide|simp[WShape.has,WShape.arms,WShape.armsAll])
  (show(WTm.eq .res (.lit (.bool pc))).value [] {args:=args,res:=some (.bool pc),after:=args}=Fa (.bool (pc==pc))from w_eq_bool (w_res Z') w_lit) Z'
def attach_call{l:OpenLaw}{n:Nat}{YP:Wo->wp->Prop}{d:DefRec} (hn:l.most=Fa n) (ZP:d.params.defaults=[]) (call:∀(w:Wo) (s₀ s₁:Sd) (mg mb:QQZ) (fa:Ch) (o:Obj) (pm cd XO:Vl) (a:Ch) (vs:T0 Vl) (ns:T0 Int),Ground q X2 [] XP w s₀ mg mb s₁.heap->YP w s₁.heap->
   s₁.heap.get? fa=Fa o->o.data=.func (docDef d.name d.params d.body d.scope pm cd XO)->s₁.heap.CodeRec cd d.name->mg d.name=Fa (.ref fa)->
   s₁.heap.get? a=Fa {cls:=.type "list",data:=.seq vs.toArray}->IntsAre vs ns->ns.length<=n->s₁.gens=#[]->
   XXi (Tl l.prog w) callerA (.call (.ref fa) ⟨[.ref a],[]⟩) (λr s'=>r=.ok (.ret (.bool pc))/\OldK s₁.heap s'.heap/\s'.os=s₁.os/\XXk s'.gens) s₁):
  WalkO q X2 XP YP l.row.toRowW d [] (λf vs=>PySem.call f vs):=by
 intro w s₀ s₁ mg mb G Y fa o pm cd XO dV kV ho hd Yr hD hmg hg args Z6 as Zs hlay hrd hwl hlo;obtain rfl:dV=.none:=Dflts.none hD ZP;obtain rfl:kV=.none:=Dflts.noKw hD;obtain⟨a,vs,ns,rfl,rfl,Z7,YX,Xg⟩:=K0 hn Zs hwl;refine enter_call (gq (call w s₀ s₁ mg mb fa o pm cd XO a vs ns G Y ho (fd_plain hd) Yr hmg Z7 YX Xg hg) λr s' hq=>?_);obtain⟨rfl,h2,h3,h4⟩:=hq;exact⟨.inl ⟨.bool pc,.bool pc,[],Z',λ_=>rfl,.bool pc,KF l _,λ_=>⟨List.Pairwise.nil,λ_ hm=>(nomatch hm)⟩⟩,h2,h3,h4⟩
variable {prog:Pg}{w:Wo}{A:Ar}{E:QQX}{s:Sd}{K:Frag}
end Att
namespace L2
theorem Dy:∀{vs:T0 Vl} {ns:T0 Int},IntsAre vs ns->qD (ns.map V.int) vs
 | _,_,.nil=>.nil
 | _,_,.cons n t h=>.cons ⟨t,Z'⟩ (Dy h)
def MD(H:Hp):Prop:=∀b,H b=Db\/∃o xs,H b=Fa (.frz o (.lst xs))
def Nv{P:Pg}{w:Wo}{K:qo}{mg mb:QQZ}{CX:K8}{fa a:Ch}{fd:At}{x:Str}{sp:Sp}{s₁:Sd}{vs:T0 Vl} (KX:K.In s₁.heap) (hns:s₁.heap.Ns wv mg) (hb:s₁.heap.Ns builtinsNs mb) (hbb:∀x:Str,x≠"__name__"->mb x=Go x) (hlim:s₁.heap.NoLimit) (hg:s₁.gens=#[]) (ha:s₁.heap.get? a=Fa {cls:=.type "list",data:=.seq vs.toArray}) (hi:IntsAre vs ns) (hl:ns.length<=pi) (hr:rY k callerA)
  (F:∀base:wp,K.In base->base.Ns wv mg->xx P w K mg base CX k fa fd [x] sp) (hbind:∀(s:Sd) (u:Vl),BindsTo s fd ⟨[u],[]⟩ [(x,u)])
  (YF:∀H:Hp,MD H->za K H a (ns.map V.int)->sp [.ref a] H (λv _=>v=.bl pc) λ_ _ _=>False)
  (hCX:∀H e s',CX [] H s₁ (λ_ _ _=>False) e s'->False):
  XXi (Tl P w) callerA (.call (.ref fa) ⟨[.ref a],[]⟩) (λr s'=>r=.ok (.ret (.bool pc))/\OldK s₁.heap s'.heap/\s'.os=s₁.os/\XXk s'.gens) s₁:=by
 have rv:=Dy hi;have lenV:=hi.length;have core:∀H:Hp,MD H->za K H a (ns.map V.int)->yr P w H s₁.heap->(∀b,H b≠Db->b=a)->(H a≠Db->K.lookup a=Db)->
   XXi (Tl P w) callerA (.call (.ref fa) ⟨[.ref a],[]⟩) (λr s'=>r=.ok (.ret (.bool pc))/\OldK s₁.heap s'.heap/\s'.os=s₁.os/\XXk s'.gens) s₁:=by
  intro H hO hS mT hA hK;have YB:∀{b:Ch} {o:Obj},s₁.heap.get? b=Fa o->H b=Db->(FG s₁.heap H).get? b=Fa o:=λe n=>LI e n;have noA:∀{b:Ch} {o:Obj} {es:Array DictEntry} {ep:Nat},s₁.heap.get? b=Fa o->o.data=.dict es ep->H b=Db:=λ{b o es ep} e d=>by
   cases q:H b with
   | none=>rfl
   | some u=>have e':b=a:=hA b (by rw[q];simp);subst e';rw[ha]at e;cases e;have d':Data.seq vs.toArray _=Data.dict es ep:=d;cases d'
  have nsK:∀{b:Ch} {m:QQZ},s₁.heap.Ns b m->(FG s₁.heap H).Ns b m:=λ{b m} ⟨o,es,ep,e,d,r⟩=>⟨o,es,ep,YB e (noA e d),d,r⟩;have hKb:K.In (FG s₁.heap H):=λb o e=>YB (KX b o e) (by
   cases q:H b with
   | none=>rfl
   | some u=>
    have e':b=a:=hA b (by rw[q];simp);subst e';rw[hK (by rw[q];simp)]at e;cases e)
  have hM:Mod K mg (FG s₁.heap H):=⟨hKb,nsK hns,⟨mb,nsK hb,hbb⟩,let⟨mc,h1,h2⟩:=hlim;⟨mc,nsK h1,h2⟩⟩;have e0:Iz P w K mg (FG s₁.heap H) callerA [] s₁ H:=⟨Z',hM,λb o e=>PR e,mz (Ka _ _),trivial,λb hb=>absurd (show b∈([]:QXQ)from hb) (by simp),mT,.of_eq hg⟩;refine gq ((F _ hKb (nsK hns)).run callerA [] s₁ H ⟨[.ref a],[]⟩ [.ref a] [.ref a] _ _ hr e0 (hbind s₁ (.ref a)) (.cons Z' .nil) (YF H hO hS)) λr s' h=>?_;cases r with
  | error e=>exact(hCX H e s' h).elim
  | ok fl=>
   cases fl with
   | next=>exact False.elim h
   | brk=>exact False.elim h
   | cont=>exact False.elim h
   | ret u=>
    obtain⟨v,H',os,bare,un,Z8,r',q⟩:=h;have q':v=.bl pc:=q;subst q';obtain rfl:u=Value.bool pc:=r';refine⟨Z',OldK.of_keep λb o e=>?_,os,bare⟩;cases q:H b with
    | none=>exact un.keep b o e q (by intro z;exact absurd (show b∈([]:QXQ)from z) (by simp)) (by simp)
    | some u=>
     rcases hO b with z|⟨ob,xs,z⟩
     .rw[q]at z;cases z
     .have z2:=un.nA b ob _ z;obtain⟨e1,_⟩:=mT b _ z;obtain⟨e2,_⟩:=Z8 b _ z2;rw[e]at e1;cases e1;exact e2
 cases hk:K.lookup a with
 | some o=>have e:=KX a o hk;rw[ha]at e;cases e;refine core (λ_=>Db) (λ_=>.inl Z') (.inr ⟨_,vs.toArray,_,hk,Z',Z',Z',by rw[dD,lenV];exact hl,by simpa using rv⟩) (λb u z=>by have z':(Db:Option HO)=Fa u:=z;cases z') (λb z=>absurd Z' z) λz=>absurd Z' z
 | none=>
  refine core (λb=>if b=a then Fa (.frz {cls:=.type "list",data:=.seq vs.toArray} (.lst (ns.map V.int)))else Db) (λb=>?_) (.inl (.inr ⟨{cls:=.type "list",data:=.seq vs.toArray},dz Z'⟩)) (λb u z=>?_) (λb z=>?_) λ_=>hk
  .by_cases hb:b=a
   .exact .inr ⟨_,_,dz hb⟩
   .exact .inl (dh hb)
  .by_cases hb:b=a
   .have z':=(dz hb).symm.trans z;cases z';subst hb;exact⟨ha,by rw[cZ];exact hl,vs,_,rv,ha⟩
   .have z':=(dh hb).symm.trans z;cases z'
  .by_cases hb:b=a
   .exact hb
   .exact absurd (dh hb) z
def OQ{l:W.OpenLaw}{n k:Nat}{q:Pg}{X2:QQQ}{XP:(QQZ)->wp->Prop}{YP:Wo->wp->Prop}{d:DefRec}{K:Params->qo}{CX:Wo->K8}{sp:Wo->Sp}{x:Str} (hn:l.most=Fa n) (Z1:n<=pi) (ZP:d.params.defaults=[]) (hr:rY k callerA) (hY:∀(w:Wo) (h:wp),YP w h->(K w.params).In h) (F:∀(w:Wo) (mg:QQZ) (fa:Ch) (h:wp),(K w.params).In h->h.Ns wv mg->mg d.name=Fa (.ref fa)->
   ∃fd:At,(∀(s:Sd) (u:Vl),BindsTo s fd ⟨[u],[]⟩ [(x,u)])/\
    ∀base:wp,(K w.params).In base->base.Ns wv mg->xx l.prog w (K w.params) mg base (CX w) k fa fd [x] (sp w))
  (YF:∀(w:Wo) (H:Hp) (a:Ch) (ns:T0 Int),ns.length<=n->MD H->za (K w.params) H a (ns.map V.int)->sp w [.ref a] H (λv _=>v=.bl pc) λ_ _ _=>False)
  (hCX:∀(w:Wo) (H:Hp) (s:Sd) (e:Vl) (s':Sd),CX w [] H s (λ_ _ _=>False) e s'->False):
  W.WalkO q X2 XP YP l.row.toRowW d [] (λf vs=>PySem.call f vs):=by
 refine Att.attach_call hn ZP λw s₀ s₁ mg mb fa o pm cd XO a vs ns G Y ho hd Yr hmg Z7 YX Xg hg=>?_;have KX:=hY w _ Y;obtain⟨fd,hb,hF⟩:=F w mg fa _ KX G.T.g hmg;exact Nv KX G.T.g G.T.b G.T.builtins G.T.nolimit hg Z7 YX (eA Xg Z1) hr hF hb (λH hO hS=>YF w H a ns Xg hO hS) λH e s'=>hCX w H s₁ e s'
noncomputable def O2(s:ZB)(j:Nat):ZB:=match s with
 | .ClassDef _ _ _ body _ _ _ _ _ _ _=>body.getD j (.Pass ⟨0,0,0,0⟩)
 | _=>.Pass ⟨0,0,0,0⟩
noncomputable def ut(s:ZB):Arguments:=match s with
 | .FunctionDef _ a _ _ _ _ _ _ _ _=>a
 | _=>{posonlyargs:=[],args:=[],vararg:=none,kwonlyargs:=[],kw_defaults:=[],kwarg:=none,defaults:=[]}
noncomputable def rS(s:ZB):T0 ZB:=match s with
 | .FunctionDef _ _ b _ _ _ _ _ _ _=>b
 | _=>[]
noncomputable def qa(s:ZB):XXd:=match s with
 | .FunctionDef _ _ _ _ _ _ sc _ _ _=>sc
 | _=>{kind:=.function,names:=[],isGenerator:=false,isCoroutine:=false}
abbrev On:K8:=λ_ _ _ _ _ _=>False
abbrev E0:XK:=λ_ _ _=>False
def F0:BF On X E0:=λ_ _ _ _ _ _ _ h=>h.elim
structure P5(K:qo)(x qual:Str)(st:ZB)(f:Ch)(fd:At):Prop where
 ex:∃(oc:Vl) (od:Option Ch) (kV XO pm:Vl) (an:Option Ch) (Xk ct:Vl) (Ya:Array (Option Vl)),
  fd=W.fnOf x qual (ut st) (rS st) (qa st) .none kV XO pm an Xk ct/\K.lookup f=Fa ⟨oc,od,.func fd,Ya⟩/\W.codeIn K Xk qual=pc
 kp:W.keepIn K (.ref f)=pc
variable {P:Pg}{K:qo}{mg:QQZ}{base:wp}
section
variable {w:Wo}
def P5.ok{st:ZB}{sp:Sp}(F:P5 K x qual st f fd)(S:tq N ps (qa st))(len:∀vs H Q E,sp vs H Q E->vs.length=ps.length) (Xv:∀(Xk:Vl) (A:Ar) (outer:T0 Env) (s:Sd) (H:Hp) (vs:T0 V) (Q:VK) (E:XK),rY k (A.deeper (xL qual (qa st) s.heap.objs.size f Xk))->sp vs H Q E->
   ∃t,B' (vE On P w K mg base N qual (qa st) f Xk A outer s H E).ow (rS st) t/\t {nx:=λ_ H'=>Q .mP H',rt:=Q} (yw N vs) H):xx P w K mg base On (k+1) f fd ps sp:=by
 obtain⟨oc,od,kV,XO,pm,an,Xk,ct,Ya,rfl,lk,Yr⟩:=F.ex;refine LU lk Yr S len λA outer s H vs Q E hr YF=>?_;obtain⟨t,h,q⟩:=Xv Xk A outer s H vs Q E hr YF;exact⟨t,h.ow,q⟩
def P5.binds{st:ZB}{ps:QQQ}(F:P5 K x qual st f fd) (h:∀(kV XO pm:Vl) (an:Option Ch) (Xk ct:Vl) (us:T0 Vl),us.length=ps.length->bindArgs (W.fnOf x qual (ut st) (rS st) (qa st) .none kV XO pm an Xk ct) ⟨us,[]⟩=pure (ps.zip us)):uT K fd ps []:=by
 obtain⟨oc,od,kV,XO,pm,an,Xk,ct,Ya,rfl,lk,Yr⟩:=F.ex;exact .all (h kV XO pm an Xk ct)
def Nj{st:ZB}{oc:Vl}{od an:Option Ch}{Ya:Array (Option Vl)}{kV XO pm Xk ct:Vl}(l:K.lookup f=Fa ⟨oc,od,.func (W.fnOf x qual (ut st) (rS st) (qa st) .none kV XO pm an Xk ct),Ya⟩) (c:W.codeIn K Xk qual=pc) (k:W.keepIn K (.ref f)=pc):P5 K x qual st f (W.fnOf x qual (ut st) (rS st) (qa st) .none kV XO pm an Xk ct):=⟨⟨oc,od,kV,XO,pm,an,Xk,ct,Ya,Z',l,c⟩,k⟩
end
variable {X:Cx}
def pv(i:Nat){x:Str}{pos:Pos}(hN:X.N[i]?=Fa x:=by rfl)(hv:U9 X.env.scope x:=by first|exact Or.inl Z'|exact Or.inr (Or.inl Z')|exact Or.inr (Or.inr Z'))(hd:zb x:=by decide)
  (Yr:(x==("__classdict__":Str))=Uf:=by decide):PE X (.Name x pos) (Hr i):=RT hN hv hd Yr
def B6{A B:Prop}(h:B):if Uf=pc then A else B:=by rw[dh dE];exact h
def OS{A B:Prop}(h:A):if pc=pc then A else B:=by rw[dz Z'];exact h
def qC{c A B:Prop}[Decidable c](h1:c->A)(h2:¬c->B):if c then A else B:=by
 by_cases h:c
 .rw[dz h];exact h1 h
 .rw[dh h];exact h2 h
def Qf(H H':Hp):Prop:=∀b o,H b=Fa o->H' b=Fa o
def Qf.trans(a:Qf H H1)(b:Qf H1 H2):Qf H H2:=λc o h=>b c o (a c o h)
section
variable {κ:Type}[DecidableEq κ]
noncomputable def xc(kvs:T0 (κ×V))(k:κ):Option V:=(kvs.find? λkv=>decide (kv.1=k)).map (·.2)
noncomputable def yS(kvs:T0 (κ×V))(k:κ)(v:V):T0 (κ×V):=
 if (kvs.any λkv=>decide (kv.1=k))=pc then kvs.map (λkv=>if kv.1=k then(kv.1,v)else kv)else kvs++[(k,v)]
def BL{p:κ×V}{r:T0 (κ×V)}{k:κ}(e:p.1=k):xc (p::r) k=Fa p.2:=by simp[xc,fR,e]
def Cm{p:κ×V}{r:T0 (κ×V)}{k:κ}(e:¬p.1=k):xc (p::r) k=xc r k:=by simp[xc,fR,e]
theorem G1(k:κ):∀kvs:T0 (κ×V),(kvs.any λkv=>decide (kv.1=k))=(xc kvs k).isSome
 | []=>rfl
 | p::r=>by
  rw[gh];by_cases e:p.1=k
  .simp only[BL e,d6 e,ib,Option.isSome_some]
  .rw[Cm e,eY e,fX];exact G1 k r
def AA(kvs:T0 (κ×V))(k:κ)(v:V):(yS kvs k v).length<=kvs.length+1:=by
 unfold yS;split
 .rw[cZ];omega
 .rw[df,eC,dR];omega
def yq.ny(r:yq o u):o.isSome=u.isSome:=by
 cases o with
 | none=>cases u with
  | none=>rfl
  | some _=>exact(show False from r).elim
 | some _=>cases u with
  | none=>exact(show False from r).elim
  | some _=>rfl
def KV.val(r:KV kvs vs)(k:κ):yq (xc kvs k) (valueAt vs k):=by
 unfold KV at r;induction r with
 | nil=>exact True.intro
 | @cons p q ps qs h t ih=>
  obtain⟨h1,h2⟩:=h;by_cases e:p.1=k
  .have e':q.1=k:=h1.symm.trans e;have b:valueAt (q::qs) k=Fa q.2:=by simp[valueAt,fR,e']
   rw[BL e,b];exact h2
  .have e':¬q.1=k:=λz=>e (h1.trans z);have b:valueAt (q::qs) k=valueAt qs k:=by simp[valueAt,fR,e']
   rw[Cm e,b];exact ih
def KV.any(r:KV kvs vs)(k:κ):(kvs.any λkv=>decide (kv.1=k))=vs.any λkv=>decide (kv.1=k):=by
 unfold KV at r;induction r with
 | nil=>rfl
 | cons h t ih=>rw[gh,gh,ih,h.1]
def KV.oC(r:KV kvs vs)(k:κ){y:V}{u:Vl}(ry:qN y u):
  KV (kvs.map λkv=>if kv.1=k then(kv.1,y)else kv) (vs.map λkv=>if kv.1=k then(kv.1,u)else kv):=by
 unfold KV at r ⊢;induction r with
 | nil=>exact .nil
 | @cons p q ps qs h t ih=>
  rw[d9,d9];refine .cons ?_ ih;obtain⟨h1,h2⟩:=h;by_cases e:p.1=k
  .rw[dz e,dz (h1.symm.trans e)];exact⟨h1,ry⟩
  .rw[dh e,dh (λz=>e (h1.trans z))];exact⟨h1,h2⟩
def KV.put(r:KV kvs vs)(k:κ){y:V}{u:Vl}(ry:qN y u):KV (yS kvs k y) (stored vs k u):=by
 unfold yS stored;rw[r.any k];by_cases e:(vs.any λkv=>decide (kv.1=k))=pc
 .rw[dz e,dz e];exact r.oC k ry
 .rw[dh e,dh e];exact mF r ⟨Z',ry⟩
def KV.length(r:KV kvs vs):kvs.length=vs.length:=jp r
end
def GU(r:qN (kV k) u):(rL P w).is k u=pc:=by
 cases k with
 | inl i=>obtain⟨t,e⟩:=(show ∃t,u=Value.int i t from r);subst e;exact G8 P w i t
 | inr x=>obtain⟨t,e⟩:=(show ∃t,u=Value.str x t from r);subst e;exact Aw P w x t
theorem DC:∀{ks:List rq} {us:T0 Vl},qD (ks.map kV) us->ItemsAre (rL P w) ks us
 | [],_,r=>by rw[iU]at r;cases r;exact .nil
 | k::ks,_,r=>by
  rw[d9]at r;cases r with
  | cons h t=>exact .cons (GU h) (DC t)
abbrev KT(H:Hp):T0 (List rq×V)->T0 (List rq×Ch×Vl)->Prop:=Paired λp q=>p.1=q.1/\H q.2.1=Fa (.tup (p.1.map kV))/\qN p.2 q.2.2
def KT.val(r:KT H kvs xs)(k:List rq):yq (xc kvs k) ((atKey xs k).map (·.2)):=by
 induction r with
 | nil=>exact True.intro
 | @cons p q ps qs h t ih=>
  obtain⟨h1,_,h2⟩:=h;by_cases e:p.1=k
  .have e':q.1=k:=h1.symm.trans e;have b:atKey (q::qs) k=Fa q.2:=by simp[atKey,fR,e']
   rw[BL e,b];exact h2
  .have e':¬q.1=k:=λz=>e (h1.trans z);have b:atKey (q::qs) k=atKey qs k:=by simp[atKey,fR,e']
   rw[Cm e,b];exact ih
def KT.oC(r:KT H kvs xs)(k:List rq){y:V}{u:Vl}(ry:qN y u):
  KT H (kvs.map λkv=>if kv.1=k then(kv.1,y)else kv) (xs.map (putAt k u)):=by
 induction r with
 | nil=>exact .nil
 | @cons p q ps qs h t ih=>
  rw[d9,d9];refine .cons ?_ ih;obtain⟨h1,h2,h3⟩:=h;unfold putAt;by_cases e:p.1=k
  .rw[dz e,dz (h1.symm.trans e)];exact⟨h1,h2,ry⟩
  .rw[dh e,dh (λz=>e (h1.trans z))];exact⟨h1,h2,h3⟩
def KT.put(r:KT H kvs xs)(k:List rq){b:Ch}{y:V}{u:Vl}(hb:H b=Fa (.tup (k.map kV)))(ry:qN y u):
  KT H (yS kvs k y) (storedH xs k b u):=by
 have e:(kvs.any λkv=>decide (kv.1=k))=(atKey xs k).isSome:=by rw[G1,(r.val k).ny,jx]
 unfold yS storedH;rw[e];by_cases q:(atKey xs k).isSome=pc
 .rw[dz q,dz q];exact r.oC k ry
 .rw[dh q,dh q];exact mF r ⟨Z',hb,ry⟩
def KT.keeps{H H':Hp}(r:KT H kvs xs)(ht:∀b ys,H b=Fa (.tup ys)->H' b=Fa (.tup ys)):KT H' kvs xs:=
 Paired.oF r λ_ _ z=>⟨z.1,ht _ _ z.2.1,z.2.2⟩
variable {H:Hp}{h:wp}{a:Ch}
section
variable {w:Wo}
def QX(ok:yr P w H h)(e:Rd H a u):sA P w H h a u:=e.ok ok
def IC{kvs:T0 (rq×V)}(ok:yr P w H h)(e:Rd H a (.dK kvs)):kvs.length<=pi/\(a==TW)=Uf/\∃vs,KV kvs vs/\h.DictOf (rL P w) a vs:=
 show sA P w H h a (.dK kvs)from QX ok e
def TY{kvs:T0 (rq×V)}(ok:yr P w H h)(e:H a=Fa (.dK kvs)):kvs.length<=pi/\(a==TW)=Uf/\∃vs,KV kvs vs/\h.DictOf (rL P w) a vs:=IC ok (.inl e)
def Fd{ks:List rq}(ok:yr P w H h)(e:H a=Fa (.tup (ks.map kV))):(tupleKind (rL P w)).is h ks a:=by obtain⟨_,its,r,o,h1,h2,⟨n,h3⟩,_⟩:=(show sA P w H h a (.tup (ks.map kV))from ok a _ e);exact⟨o,its.toArray,n,h1,h2,h3,by simpa using DC r⟩
def JB{kvs:T0 (List rq×V)}(ok:yr P w H h)(e:Rd H a (.dT kvs)):kvs.length<=pi/\(a==TW)=Uf/\
  ∃xs,KT H kvs xs/\h.DictOfH (tupleKind (rL P w)) a xs:=by
 obtain⟨z,y,xs,r,o,es,ep,h1,h2,h3,h4,h5⟩:=(show sA P w H h a (.dT kvs)from QX ok e);refine⟨z,y,xs,r,o,es,ep,h1,h2,h3,h4,λx hx=>?_,h5⟩;have all:∀{l:T0 (List rq×V)} {m:T0 (List rq×Ch×Vl)},KT H l m->∀x∈m,(tupleKind (rL P w)).is h x.1 x.2.1:=by
  intro l m q;induction q with
  | nil=>intro x hx;exact nomatch hx
  | @cons p q ps qs hq t ih=>
   intro x hx;rcases dw.mp hx with e|hx
   .subst e;exact Fd ok (by rw[<-hq.1];exact hq.2.1)
   .exact ih x hx
 exact all r x hx
def UV{kvs:T0 (List rq×V)}(ok:yr P w H h)(e:H a=Fa (.dT kvs)):kvs.length<=pi/\(a==TW)=Uf/\
  ∃xs,KT H kvs xs/\h.DictOfH (tupleKind (rL P w)) a xs:=JB ok (.inl e)
end
def Ft(H:Hp)(a:Ch)(y:V)(r:Option V):Prop:=
 (∃kvs k,Rd H a (.dK kvs)/\y=kV k/\r=xc kvs k)\/∃kvs k b,Rd H a (.dT kvs)/\y=.ref b/\H b=Fa (.tup (k.map kV))/\r=xc kvs k
def LO(H:Hp)(a:Ch)(y v:V)(H':Hp):Prop:=
 (∃kvs k,H a=Fa (.dK kvs)/\y=kV k/\kvs.length<pi/\H'=upd H a (.dK (yS kvs k v)))\/
 ∃kvs k b,H a=Fa (.dT kvs)/\y=.ref b/\H b=Fa (.tup (k.map kV))/\kvs.length<pi/\H'=upd H a (.dT (yS kvs k v))
def Ft.k{H:Hp}{a:Ch}{kvs:T0 (rq×V)}{k:rq}(e:H a=Fa (.dK kvs)):Ft H a (kV k) (xc kvs k):=.inl ⟨kvs,k,.inl e,Z',Z'⟩
def LO.k{H:Hp}{a:Ch}{kvs:T0 (rq×V)}{k:rq}(e:H a=Fa (.dK kvs))(hl:kvs.length<pi):LO H a (kV k) v (upd H a (.dK (yS kvs k v))):=.inl ⟨kvs,k,e,Z',hl,Z'⟩
variable {Xa:T0 (Ch × Obj)}{Y:St}{y v:V}{u r:Vl}
section
variable {s:Sd}{o:Option V}{A:Ar}{E:QQX}
def Inv.big(I:Inv X Xa Y H s):TW<s.heap.objs.size:=by have h:wv<s.heap.objs.size:=(I.mod.glob.keeps I.bk).lt;exact jN (by decide) h
def KM{Q:QQX}(hu:A.units+1<Y')(I:Inv X Xa Y H s)(g:Ft H a y (Fa v))(ry:qN y u)(h:∀w' s',Inv X Xa Y H s'->qN v w'->Q w' s'):
  Tk (Tl X.prog X.w) A (XXe (.ref a) u) Q E s:=by
 rcases g with⟨kvs,k,e,ey,l⟩|⟨kvs,k,b,e,ey,eb,l⟩
 .subst ey;obtain⟨z,hd,vs,rel,dd⟩:=IC I.mT e;obtain⟨w',hw,Zr⟩:=yq.some_of (v:=v) (o:=valueAt vs k) (by rw[l];exact rel.val k);exact wpAny_getItem_of (GU ry) dd.mapOf hw (h w' _ (I.tok _) Zr)
 .subst ey;cases(show u=Value.ref b from ry);obtain⟨z,hd,xs,rel,dd⟩:=JB I.mT e;obtain⟨w',hw,Zr⟩:=yq.some_of (v:=v) (o:=(atKey xs k).map (·.2)) (by rw[l];exact rel.val k);obtain⟨p,hp,Xm⟩:=hW.mp hw;refine wpAny_getItem_heap (jj hu) (Fd I.mT eb) dd hp ?_;rw[Xm];exact h w' _ (I.tok _) Zr
def VD{Q:QQX}(hu:A.units+1<Y')(I:Inv X Xa Y H s)(g:Ft H a y o)(ry:qN y u)(h:∀s',Inv X Xa Y H s'->Q (.bool o.isSome) s'):
  Tk (Tl X.prog X.w) A (Ps .In u (.ref a)) Q E s:=by
 rcases g with⟨kvs,k,e,ey,l⟩|⟨kvs,k,b,e,ey,eb,l⟩
 .subst ey;obtain⟨z,hd,vs,rel,dd⟩:=IC I.mT e;refine wpAny_in_of (GU ry) hd dd.mapOf ?_;rw[<-(rel.val k).ny,<-l];exact h _ (I.tok _)
 .subst ey;cases(show u=Value.ref b from ry);obtain⟨z,hd,xs,rel,dd⟩:=JB I.mT e;refine wpAny_in_heap (jj hu) (Fd I.mT eb) hd dd ?_;have q:=(rel.val k).ny;rw[jx]at q;rw[<-q,<-l];exact h _ (I.tok _)
def Jf{t':Nat}(I:Inv X Xa Y H s)(mu:TR (H a))(hs:Heap.SameBut a s.heap h')(he:∃q,h'.get? a=Fa q)(new:sA X.prog X.w (upd H a ob) h' a ob):
  Inv X Xa Y (upd H a ob) {s with heap:=h',toks:=t'}:=
 I.write (x:=a) (e:=a) mu (.inl Z') (λb q hb z=>(hs.2 b hb).trans z) he new
def MR{H':Hp}{h':wp}{kvs:T0 (rq×V)}(z:kvs.length<=pi)(hd:(a==TW)=Uf)(rel:KV kvs vs)(dd:h'.DictOf (rL P w) a vs):
  sA P w H' h' a (.dK kvs):=⟨z,hd,vs,rel,dd⟩
def Kn{Q:Unit->Sd->Prop}(hu:A.units+1<Y')(I:Inv X Xa Y H s)(g:LO H a y v H')(ry:qN y u)(rv:qN v r)(h:∀s',Inv X Xa Y H' s'->Q () s'):
  Tk (Tl X.prog X.w) A (setItem (.ref a) u r) Q E s:=by
 rcases g with⟨kvs,k,e,ey,l,eH⟩|⟨kvs,k,b,e,ey,eb,l,eH⟩
 .subst ey eH;obtain⟨z,hd,vs,rel,dd⟩:=TY I.mT e;have hz:vs.length<=pi:=by rw[<-rel.length];exact z
  have hl:(yS kvs k v).length<=pi:=by have:=AA kvs k v;omega
  refine wpAny_setItem_pairs (hsz:=hz) (GU ry) dd λh' dd' hs=>h _ ?_;have he:∃q,h'.get? a=Fa q:=let⟨q,_,_,hq,_⟩:=dd';⟨q,hq⟩;exact Jf I (by rw[e];exact True.intro) hs he (MR hl hd (rel.put k rv) dd')
 .subst ey eH;cases(show u=Value.ref b from ry);obtain⟨z,hd,xs,rel,dd⟩:=UV I.mT e;have hz:xs.length<=pi:=by rw[<-jp rel];exact z
  have hl:(yS kvs k v).length<=pi:=by have:=AA kvs k v;omega
  refine wpAny_setItem_heap (hsz:=hz) (jj hu) (Fd I.mT eb) dd λh' dd' hs=>h _ ?_;obtain⟨q,es,ep,hq,h2,h3,h4,_,h5⟩:=dd';refine Jf I (by rw[e];exact True.intro) hs ⟨q,hq⟩ ⟨hl,hd,_,(rel.put k eb rv).keeps λc ys ec=>?_,q,es,ep,hq,h2,h3,h4,h5⟩;rw[pV (UT ec e (λz=>nomatch z))];exact ec
end
variable {kvs:T0 (rq × V)}{k:rq}
section
variable {s:Sd}{A:Ar}{E:QQX}
end
def F1{Xa:QQY}(I:Inv X Xa Y H s)(g:Ft H a y o):s.TypeIs (.ref a) "dict":=by
 rcases g with⟨kvs,k,e,_,_⟩|⟨kvs,k,b,e,_,_,_⟩
 .obtain⟨_,_,vs,_,dd⟩:=IC I.mT e;exact dd.typeIs
 .obtain⟨_,_,xs,_,dd⟩:=JB I.mT e;exact dd.typeIs
def Tw(td ty tv:TE):TS:=λD Y H=>tv Y H λv H1=>td Y H1 λx H2=>ty Y H2 λy H3=>∃a H4,x=.ref a/\LO H3 a y v H4/\D.nx Y H4
variable {i e value:No}{pos Xj Zq:Pos}{td ty tv:TE}
section
variable {o:No}
def OT(hu:X.A.units+1<Y')(ho:PE X o td)(hi:PE X i ty)(hv:PE X value tv)(hs:TD value (Fa (.Subscript o i Xj)) pos.line X.env=pure Uf):
  PS X (.Assign [.Subscript o i Xj] value pos) (Tw td ty tv):=by
 intro Xa s Y H D I h;refine wpAny_Assign_Subscript (sC (hv Xa s Y H _ I h) λr s1 zz=>x5 zz λv H1 I1 rv q1=>sC (ho Xa s1 Y H1 _ I1 q1) λu s2 zz=>x5 zz λx H2 I2 rx q2=>sC (hi Xa s2 Y H2 _ I2 q2) λiv s3 zz=>?_) hs;obtain⟨y,H3,I3,ry,a,H4,ex,g,q3⟩:=zz;subst ex;obtain rfl:u=Value.ref a:=rx;exact Kn hu I3 g ry rv λs4 I4=>⟨Y,H4,I4,q3⟩
end
structure M1(X:Cx)(o:No)(m:Str)(Xd:Pos)(e:No)(Xi:Pos):Prop where
 base:xz o m X.env (Op o X.env)=Op o X.env
 o9:((Ix Xi (zn [e] X.env)).all (λx=>!x.1)&&(wE Xi (Rs [] X.env)).all (λx=>x.1.isSome)
  &&decide (([e]:List No).length+([]:List W').length+(if ([]:List W').isEmpty then 0 else 1)<30))=pc
 line:(Xd.endLine==Xi.line)=pc
 trees:Ix Xi (zn [e] X.env)=[(Uf,Op e X.env)]
structure M2(X:Cx)(o:No)(m:Str)(Xd:Pos)(e f:No)(Xi:Pos):Prop where
 base:xz o m X.env (Op o X.env)=Op o X.env
 o9:((Ix Xi (zn [e,f] X.env)).all (λx=>!x.1)&&(wE Xi (Rs [] X.env)).all (λx=>x.1.isSome)
  &&decide (([e,f]:List No).length+([]:List W').length+(if ([]:List W').isEmpty then 0 else 1)<30))=pc
 line:(Xd.endLine==Xi.line)=pc
 trees:Ix Xi (zn [e,f] X.env)=[(Uf,Op e X.env),(Uf,Op f X.env)]
variable {d:V}
section
variable {s:Sd}{o:Option V}{A:Ar}{E:QQX}
end
variable {f:No}{Xd Xi:Pos}{tx:TE}
section
variable {o:No}
end
section
variable {s:Sd}{A:Ar}{E:QQX}
end
section
variable {s:Sd}{A:Ar}{E:QQX}
end
section
variable {κ:Type}[DecidableEq κ]
end
noncomputable def A8(env:Env):T0 (Str×wT)->T0 (Str×Ch)->T0 (Str×Ch)
 | [],acc=>acc
 | (n,k)::r,acc=>A8 env r (if k==.free then(n,(env.cells.lookup n).getD 0)::acc else acc)
theorem F7{env:Env}{f:(Str×wT)->T0 (Str×Ch)->Sem (ForInStep (T0 (Str×Ch)))} (hf:∀x cs,(x.2=.free->∃c,env.cells.lookup x.1=Fa c)->f x cs=pure (.yield (if x.2==.free then(x.1,(env.cells.lookup x.1).getD 0)::cs else cs))):
  ∀(l:T0 (Str×wT)) (acc:T0 (Str×Ch)),(∀x∈l,x.2=.free->∃c,env.cells.lookup x.1=Fa c)->forIn l acc f=pure (A8 env l acc)
 | [],acc,_=>by rw[ke];rfl
 | (n,k)::r,acc,h=>by rw[jZ,hf (n,k) acc (h _ dP),pure_bind];exact F7 hf r _ λx hx=>h x (dF _ hx)
def yz{scope:XXd}{env:Env}(h:∀x∈scope.names,x.2=.free->∃c,env.cells.lookup x.1=Fa c):closureFor scope env=pure (A8 env scope.names []):=by
 unfold closureFor;have e:=F7 (env:=env) (f:=λ(x:Str×wT) (cs:T0 (Str×Ch))=>(do
   if x.2==.free then
    let a<-cellOf env x.1
    pure (ForInStep.yield ((x.1,a)::cs))
   else pure (ForInStep.yield cs))) (λx cs hx=>by
  cases hk:x.2==NameKind.free with
  | false=>simp
  | true=>
   obtain⟨c,hc⟩:=hx (by simpa using hk);simp[cellOf,hc]) scope.names [] h
 first
  | exact(eZ (·>>=pure) e).trans (by simp)
  | (simp only[bind_pure];exact e)
  | (rw[<-e];rfl)
theorem L5{env:Env}{x:Str}{c:Ch}:∀{l:T0 (Str×wT)} {acc:T0 (Str×Ch)},(∀x∈l,x.2=.free->∃c,env.cells.lookup x.1=Fa c)->(∀x c,acc.lookup x=Fa c->env.cells.lookup x=Fa c)->(A8 env l acc).lookup x=Fa c->env.cells.lookup x=Fa c
 | [],acc,_,ha,h=>ha x c h
 | (n,k)::r,acc,hl,ha,h=>by
  refine L5 (l:=r) (acc:=if k==.free then(n,(env.cells.lookup n).getD 0)::acc else acc) (λy hy=>hl y (dF _ hy)) (λy d hd=>?_) h;cases hk:k==NameKind.free with
  | false=>rw[hk]at hd;exact ha y d (by simpa using hd)
  | true=>
   rw[hk,dz Z']at hd;obtain⟨e,he⟩:=hl (n,k) dP (by simpa using hk);rw[eS]at hd;cases hy:y==n with
   | true=>
    rw[hy]at hd;have yn:y=n:=by simpa using hy
    subst yn;have he:env.cells.lookup y=Fa e:=he;rw[he]at hd ⊢;exact hd
   | false=>rw[hy]at hd;exact ha y d hd
theorem Ls{x:Str}:∀{l:T0 (Str×wT)} {acc:T0 (Str×Ch)},(∃c,acc.lookup x=Fa c)->∃c,(A8 env l acc).lookup x=Fa c
 | [],_,h=>h
 | (n,k)::r,acc,h=>by
  refine Ls (l:=r) ?_;cases hk:k==NameKind.free with
  | false=>simpa using h
  | true=>
   rw[dz Z',eS];cases hy:x==n with
   | true=>exact⟨_,Z'⟩
   | false=>exact h
theorem HQ{x:Str}:∀{l:T0 (Str×wT)} {acc:T0 (Str×Ch)},l.lookup x=Fa .free->∃c,(A8 env l acc).lookup x=Fa c
 | [],_,h=>by simp at h
 | (n,k)::r,acc,h=>by
  rw[eS]at h;cases hy:x==n with
  | true=>rw[hy]at h;have hk:k=.free:=dA h;subst hk;refine Ls (l:=r) ⟨(env.cells.lookup n).getD 0,?_⟩;show List.lookup x (if NameKind.free==NameKind.free then(n,(env.cells.lookup n).getD 0)::acc else acc)=Fa ((env.cells.lookup n).getD 0);rw[dz (by rfl),eS,hy]
  | false=>rw[hy]at h;exact HQ (l:=r) h
theorem uA{env:Env}{x:Str}:∀{l:T0 (Str×wT)},(l.map λ(n,k)=>if (k==NameKind.free&&env.scope.kind==.function&&env.kindOf n==Fa .cell)then(n,NameKind.cell)else(n,k)).lookup x
   = (l.lookup x).map λk=>if (k==NameKind.free&&env.scope.kind==.function&&env.kindOf x==Fa .cell)then NameKind.cell else k
 | []=>rfl
 | (n,k)::r=>by
  rw[d9];show List.lookup x ((if (k==NameKind.free&&env.scope.kind==.function&&env.kindOf n==Fa .cell)=pc then(n,NameKind.cell)else(n,k))::_)=_;cases hy:x==n with
  | true=>
   have yn:x=n:=by simpa using hy
   subst yn;by_cases hc:(k==NameKind.free&&env.scope.kind==.function&&env.kindOf x==Fa .cell)=pc
   .rw[dz hc,eS,eS,hy];simp only[j3];rw[dz hc]
   .rw[dh hc,eS,eS,hy];simp only[j3];rw[dh hc]
  | false=>
   by_cases hc:(k==NameKind.free&&env.scope.kind==.function&&env.kindOf n==Fa .cell)=pc
   .rw[dz hc,eS,eS,hy];exact uA
   .rw[dh hc,eS,eS,hy];exact uA
noncomputable def Qi(ix:T0 (Option Nat))(Y:St):St:=ix.map λo=>o.bind λi=>(Y[i]?).join
abbrev Cx.comp(X:Cx)(scope:XXd)(N':QQQ)(C:Ch)(s0:Sd)(H0:Hp)(ex:QXQ):Cx:=
 {X with N:=N',s₀:=s0,H₀:=H0,env:=compEnvC scope (A8 X.env scope.names []) C X.env,outer:=X.stack,ex:=ex,fn:=λ_=>Uf,pn:=[],xe:=λ_ _=>False}
structure sj(X:Cx)(scope:XXd)(ix:List (Option Nat))(N':QQQ):Prop where
 kind:scope.kind=.function
 oo:∀y∈scope.names,y.2≠.cell
 nam:∀y∈scope.names,y.2=.local->scope.names.lookup y.1=Fa .local
 fre:∀y∈scope.names,y.2=.free->X.env.scope.names.lookup y.1=Fa .cell\/X.env.scope.names.lookup y.1=Fa .free
 len:ix.length=N'.length
 at_:∀(j i:Nat) (x:Str),ix[j]?=Fa (Fa i)->N'[j]?=Fa x->X.N[i]?=Fa x/\scope.names.lookup x=Fa .free
variable {scope:XXd}{ix:T0 (Option Nat)}{N':QQQ}{fp:QXQ}
section
variable {s:Sd}
def sj.cells(S:sj X scope ix N')(ok:X.Ok):∀x∈scope.names,x.2=.free->∃c,X.env.cells.lookup x.1=Fa c:=λx hx hk=>ok.has x.1 (S.fre x hx hk)
def sj.sub(S:sj X scope ix N')(ok:X.Ok){x:Str}{c:Ch}(h:(A8 X.env scope.names []).lookup x=Fa c):X.env.cells.lookup x=Fa c:=L5 (S.cells ok) (λ_ _ z=>by simp at z) h
theorem vo{x:Str}{k:wT}:∀{l:T0 (Str×wT)},l.lookup x=Fa k->(x,k)∈l
 | [],h=>by simp at h
 | (n,j)::r,h=>by
  rw[eS]at h;cases hy:x==n with
  | true=>
   rw[hy]at h;have yn:x=n:=by simpa using hy
   subst yn;rw[dA h];exact dP
  | false=>rw[hy]at h;exact dF _ (vo h)
def Inv.comp{C:Ch}{h1:wp}{tk:Nat}(I:Inv X Xa Y H s)(S:sj X scope ix N')(hf:∀b∈fp,AN X Xa H b)(Xq:∀b∈fp,b<s.heap.objs.size)(hC:s.heap.objs.size<=C) (k:∀b o,s.heap.get? b=Fa o->h1.get? b=Fa o) (hn:h1.Ns C (λ_=>Db)):Inv (X.comp scope N' C s H fp) (X.pn++Xa) (Qi ix Y) H {s with heap:=h1,toks:=tk}:=by
 have sub:∀{x:Str} {c:Ch},(A8 X.env scope.names []).lookup x=Fa c->X.env.cells.lookup x=Fa c:=λh=>S.sub I.ok h;refine⟨⟨I.ok.mod,S.kind,I.ok.glob,I.ok.blt,hC,λx y c e1 e2=>I.ok.inj x y c (sub e1) (sub e2),λx hx=>?_,λ_ _ z=>(dE z).elim,I.ok.hd,I.ok.frames,.inl Z',λb hb=>⟨dU (dY (Xq b hb) hC),λx c e=>(hf b hb).2.2.2.2.1 x c (sub e)⟩,I.bs,eA I.ok.oa I.sz,λb o e hb=>?_,λb hb hfs=>?_,I.stack,I.nI⟩,Z',I.bare,Un.kept k,⟨_,hn,λi x v e1 e2 e3=>?_⟩,λx c e=>?_,I.mT.fresh hC,λx c e=>I.mZ x c (sub e),λp hp=>?_,I.mT.kept k,?_⟩
 .have hx:(relabel scope X.env).names.lookup x=Fa .cell\/(relabel scope X.env).names.lookup x=Fa .free:=hx;have e:(relabel scope X.env).names.lookup x=(scope.names.lookup x).map λk=>if (k==NameKind.free&&X.env.scope.kind==.function&&X.env.kindOf x==Fa .cell)then NameKind.cell else k:=uA
  rw[e]at hx;cases q:scope.names.lookup x with
  | none=>rw[q]at hx;rcases hx with hx|hx<;>simp at hx
  | some kd=>
   cases kd with
   | free=>exact HQ q
   | cell=>exact absurd Z' (S.oo _ (vo q))
   | _=>rw[q]at hx;rcases hx with hx|hx<;>simp at hx
 .rcases(hf b hb).2.2.2.1 with z|z
  .exact I.ok.nQ b o e z
  .exact absurd (dY (dI e) (eA I.ok.oa z)) (fm _)
 .rcases dw.mp (I.nz b hfs)with z|z
  .exact(hf b hb).2.1 z
  .exact(hf b hb).2.2.1 z
 .have Zt:(ix[i]?).map (λo=>o.bind λi=>(Y[i]?).join)=Fa (Fa v):=by have z:(Qi ix Y)[i]?=Fa (Fa v):=e2;unfold Qi at z;rw[dG]at z;exact z
  cases q:ix[i]? with
  | none=>rw[q]at Zt;cases Zt
  | some o=>
   rw[q]at Zt;cases o with
   | none=>cases Zt
   | some j=>
    have Zu:(Y[j]?).join=Fa v:=dA Zt;have e4:Y[j]?=Fa (Fa v):=by
     cases r:Y[j]? with
     | none=>rw[r]at Zu;cases Zu
     | some w=>rw[r]at Zu;exact eZ Fa Zu
    obtain⟨n1,n2⟩:=S.at_ i j x q e1;obtain⟨m,hm,hl⟩:=I.loc;have hk:=S.fre _ (vo n2) Z';have hv:U9 X.env.scope x:=by
     rcases hk with z|z
     .exact .inr (.inl z)
     .exact .inr (.inr z)
    obtain⟨u,ru,lk⟩:=hl j x v n1 e4 hv;refine⟨u,ru,?_⟩;have hk':X.env.kindOf x=Fa .cell\/X.env.kindOf x=Fa .free:=hk;rcases lk with⟨z,_⟩|⟨_,c,hc,hcell⟩
    .rcases hk' with y|y<;>(rw[y]at z;cases z)
    .obtain⟨c',hc'⟩:=HQ (env:=X.env) (acc:=[]) n2;have:=sub hc';rw[hc]at this;cases this;refine .inr ⟨?_,c,hc',hcell.keeps k⟩;show(relabel scope X.env).names.lookup x=Fa .cell\/(relabel scope X.env).names.lookup x=Fa .free;have e:(relabel scope X.env).names.lookup x=(scope.names.lookup x).map λk=>if (k==NameKind.free&&X.env.scope.kind==.function&&X.env.kindOf x==Fa .cell)then NameKind.cell else k:=uA
     rw[e,n2];simp only[j3];split
     .exact .inl Z'
     .exact .inr Z'
 .obtain⟨v,q⟩:=I.cell x c (sub e);exact⟨v,q.keeps k⟩
 .obtain⟨e,n,ne,nf,d⟩:=I.pin p (by simpa using hp);refine⟨k _ _ e,n,dU (dY (dI e) hC),λz=>?_,d⟩;rcases dw.mp (I.nz p.1 z)with y|y
  .exact ne y
  .exact nf y
 .show(Qi ix Y).length=N'.length;unfold Qi;rw[cZ];exact S.len
end
section
variable {prog:Pg}{w:Wo}{A:Ar}{R:Result→Sd→Prop}{s:Sd}
def xE{X7 XD iter:No}{XM:T0 No}{scope:XXd}{pos:Pos}{it acc:Vl}{env:Env}(I:Nat->Sd->Prop){EX:QQX}(hEX:∀e s',EX e s'->notedBy (Tl prog w) A env (λx s'=>R (.error x) s') e s') (turn:∀n s,I n s->Tk (Tl prog w) A (pyNext it) (λr s₁=>match r with
   | none=>R (.ok .next) s₁
   | some v=>Tk (Tl prog w) A (XXh XD it v) (λ_ s₁=>Tk (Tl prog w) A (assign XD env v) (λ_ s₂=>
     Tk (Tl prog w) A (forIn XM pc λc r=>if r=pc then do let ok<-isTrue c env (Op c env);pure (ForInStep.yield ok)else pure (ForInStep.yield r)) (λok s₃=>
      if ok=pc then Tk (Tl prog w) A (Op X7 env) (λx s₄=>
       Tk (Tl prog w) A (call (.builtin "list.append") [acc,x]) (λ_ s₅=>∃m,m<n/\I m s₅) (λ_ _=>False) s₄) EX s₃
      else ∃m,m<n/\I m s₃) (λ_ _=>False) s₂) (λ_ _=>False) s₁) (λ_ _=>False) s₁) (λ_ _=>False) s)
  (n:Nat) (h:I n s):
  XXi (Tl prog w) A (.compLoop (.ListComp X7 [⟨XD,iter,XM,0⟩] scope pos) 0 it acc env) R s:=by
 refine codeAny_loop Z' I (λn s hI=>?_) n h;show Tk _ A ((compTurn (.ListComp X7 [⟨XD,iter,XM,0⟩] scope pos) 0 it acc env).onRaise (λx=>do noteFrame x env;theTreesLotGoes x)) _ _ s;refine wpAny_noted ?_;rw[compTurn_list];refine c9 (io (c9 (eJ (turn n s hI) (λr s₁ h₁=>?_) λ_ _ h'=>h'.elim)));cases r with
 | none=>exact dC h₁
 | some v=>
  refine c9 (eJ h₁ (λ_ s₁' h₁'=>?_) λ_ _ h'=>h'.elim);refine c9 (eJ h₁' (λ_ s₂ h₂=>c9 (eJ h₂ (λok s₃ h₃=>?_) λ_ _ h'=>h'.elim)) λ_ _ h'=>h'.elim);cases ok with
  | false=>exact dC ⟨Z',h₃⟩
  | true=>exact c9 (c9 (eJ h₃ (λx s₄ h₄=>c9 (eJ h₄ (λ_ s₅ h₅=>dC (dC ⟨Z',h₅⟩)) λ_ _ h'=>h'.elim)) hEX))
end
def PF(X:Cx)(XM:T0 No)(t:TT):Prop:=
 ∀(Xa:QQY) (s:Sd) (Y:St) (H:Hp) (Q:Bool->Hp->Prop),Inv X Xa Y H s->t Y H Q->
  Tk (Tl X.prog X.w) X.A (forIn XM pc λc r=>if r=pc then do let ok<-isTrue c X.env (Op c X.env);pure (ForInStep.yield ok)else pure (ForInStep.yield r)) (TP X Xa Y Q) X.xe s
def U8:TT:=λ_ H Q=>Q pc H
def S0:PF X [] U8:=λ_ _ _ H _ I h=>wpAny_tests_nil ⟨H,I,h⟩
def So(h:PT X c t):PF X [c] t:=λXa s Y H Q I q=>wpAny_tests_one (h Xa s Y H Q I q)
def Q0(ix:T0 (Option Nat))(g:TG)(tt:TT)(te:TE)(Y:St)(J:It)(Q:VK)(H:Hp):Prop:=
 ∃W:Nat->Nat->T0 V->St->Hp->Prop,(∃m,W 0 m [] (Qi ix Y) H)/\∀i m ys σ' H,W i m ys σ' H->
  (J.stop i H/\ys.length<=pi/\∀D,H D=Db->Q (.ref D) (upd H D (.lst ys)))\/
  (J.go i H/\ys.length<pi/\∀x H',J.oS i H x H'->g x σ' H' λσ2 H2=>tt σ2 H2 λb H3=>if b=pc then te σ2 H3 λy H4=>∃m',m'<m/\W (i+1) m' (ys++[y]) σ2 H4 else ∃m',m'<m/\W (i+1) m' ys σ2 H3)
def Mf(ix:T0 (Option Nat))(wi:TI)(g:TG)(tt:TT)(te:TE):TE:=λY H Q=>wi Y H λJ H1=>Q0 ix g tt te Y J Q H1
variable {tg iter X7:No}{XM:T0 No}{g:TG}{tt:TT}{te:TE}{J:It}{it:Ch}{tn:Nat→wp→Prop}{Q:VK}
section
variable {s:Sd}
def Cr{XP:Ch->Sd->Hp->QXQ->QQY->St->Vl->Sd->Prop}{RR:Vl->Ch->Result->Sd->Prop}{E:QQX}(hc:X.calm=pc)(S:sj X scope ix N')(I:Inv X Xa Y H s)(T:Em X.prog X.w X.K tg J fp it tn)(st:tn 0 s.heap)(hf:∀b∈fp,AN X Xa H b) (hg:∀C s0 H0 ex,PG (X.comp scope N' C s0 H0 ex) tg g) (ht:∀C s0 H0 ex,PF (X.comp scope N' C s0 H0 ex) XM tt) (he:∀C s0 H0 ex Xa s Y H Q,Inv (X.comp scope N' C s0 H0 ex) Xa Y H s->te Y H Q->Tk (Tl X.prog X.w) X.A (Op X7 (X.comp scope N' C s0 H0 ex).env) (EP (X.comp scope N' C s0 H0 ex) Xa Y Q) (XP C s0 H0 ex Xa Y) s) (hx:∀C D e s',s.heap.objs.size<=C->(∃Ye σ',(∀b∈fp,∃o,(b,o)∈Ye)/\XP C s H fp Ye σ' e s')->notedBy (Tl X.prog X.w) X.A (compEnvC scope (A8 X.env scope.names []) C X.env) (λx s'=>RR D C (.error x) s') e s') (hw:Q0 ix g tt te Y J Q H) (Xe:∀D C s' H' m,s.heap.objs.size<=C->H' C=Db->s'.heap.Ns C m->Inv X Xa Y H' s'->Q (.ref D) H'->RR (.ref D) C (.ok .next) s'):
  Tk (Tl X.prog X.w) X.A (newList []) (λacc s₃=>Tk (Tl X.prog X.w) X.A (newFunctionEnv scope X.env.globals (A8 X.env scope.names []) [] X.env.qual Db .none (Fa X.env)) (λXU s₄=>
   XXi (Tl X.prog X.w) X.A (.compStart (.ListComp X7 [⟨tg,iter,XM,0⟩] scope pos) 0 (.ref it) acc {XU with scope:=relabel scope X.env}) (RR acc XU.locals) s₄) E s₃) E s:=by
 obtain⟨W,⟨m0,w0⟩,turn⟩:=hw;have Xq:∀b∈fp,b<s.heap.objs.size:=λb hb=>by obtain⟨o,e,_⟩:=T.obj _ _ st b hb;exact dI e
 refine fN (wpAny_newFunctionEnv S.oo (by intro y hy;simp at hy) (λh₁ YY Zv=>?_) S.kind);dsimp only at YY Zv ⊢;generalize hH2:s.heap.push {cls:=.type "list",dict:=none,data:=.seq ([]:T0 Vl).toArray}=H2 at YY Zv ⊢;have hC:H2.objs.size=s.heap.objs.size+1:=by rw[<-hH2,ft]
 have hDC:s.heap.objs.size≠H2.objs.size:=by rw[hC];exact dU (fD _)
 have Zw:s.heap.objs.size<=H2.objs.size:=by rw[hC];exact gS _
 have ZQ:∀b,b<s.heap.objs.size->b≠H2.objs.size/\b≠s.heap.objs.size:=λb hb=>⟨by rw[hC];exact dU (gw hb),dU hb⟩;have old:∀b o,s.heap.get? b=Fa o->h₁.get? b=Fa o:=λb o e=>Zv.extBut b o (ZQ b (dI e)).1 (dq _ (hH2 ▸ dq _ e));have hacc:h₁.get? s.heap.objs.size=Fa {cls:=.type "list",data:=.seq ([]:T0 Vl).toArray 0}:=Zv.extBut _ _ hDC (dq _ (hH2 ▸ dN _ Z'));have YY:h₁.Ns H2.objs.size (λ_=>Db):=YY;have Ys:∀{H':Hp} {pl:QQY},(∀b∈fp,H' b=Db)->(∀p∈pl,p.1∉fp)->∀b∈fp,AN (X.comp scope N' H2.objs.size s H fp) (X.pn++Xa++pl) H' b:=λ{H' pl} hn Xp b hb=>by
  refine⟨hn b hb,dU (dY (Xq b hb) Zw),λz=>?_,.inl hb,λx c e=>(hf b hb).2.2.2.2.1 x c (S.sub I.ok e),λp hp=>?_⟩
  .rcases dw.mp (I.nz b z)with y|y
   .exact(hf b hb).2.1 y
   .exact(hf b hb).2.2.1 y
  .rcases dX.mp (show p∈X.pn++Xa++pl by simpa using hp)with z|z
   .exact(hf b hb).2.2.2.2.2 p z
   .intro q;exact Xp p z (q ▸ hb)
 have loop:∀s₃:Sd,s₃={s with heap:=h₁,toks:=s.toks+([]:T0 (Str×Vl)).length}->
   XXi (Tl X.prog X.w) X.A (.compLoop (.ListComp X7 [⟨tg,iter,XM,0⟩] scope pos) 0 (.ref it) (.ref s.heap.objs.size) (compEnvC scope (A8 X.env scope.names []) H2.objs.size X.env))
    (RR (.ref s.heap.objs.size) H2.objs.size) s₃:=by
  rintro s₃ rfl
  refine xE (hEX:=λe s' z=>hx _ _ e s' Zw z) (λn s'=>∃(i:Nat) (ys:T0 V) (us:T0 Vl) (k:Nat) (σ':St) (H':Hp),Inv (X.comp scope N' H2.objs.size s H fp) (X.pn++Xa) σ' H' s'/\tn i s'.heap/\(∀b∈fp,H' b=Db)/\H' s.heap.objs.size=Db/\
   s'.heap.get? s.heap.objs.size=Fa {cls:=.type "list",data:=.seq us.toArray k}/\qD ys us/\ys.length<=pi/\W i n ys σ' H') ?_ m0
   ⟨0,[],[],0,Qi ix Y,H,I.comp S hf Xq Zw old YY,T.keep _ _ _ st λb _ o e=>old b o e,λb hb=>(hf b hb).1,I.mT.fresh (dB _),hacc,.nil,eD _,w0⟩
  rintro n s' ⟨i,ys,us,k,σ',H',I',Yz,fr',hD',XT,rv',hz',w'⟩
  have cellD:∀x c,(X.comp scope N' H2.objs.size s H fp).env.cells.lookup x=Fa c->c≠s.heap.objs.size:=λx c e=>by obtain⟨v,q⟩:=I.cell x c (S.sub I.ok e);exact dU q.lt
  have pinD:∀p∈X.pn++Xa,p.1≠s.heap.objs.size:=λp hp=>dU (dI (I.pin p hp).1);have dfs:s.heap.objs.size∉(X.comp scope N' H2.objs.size s H fp).fs:=λz=>by
   rcases dw.mp (I.nz _ z)with y|y
   .exact absurd I.lt (by rw[<-y];exact fm _)
   .exact I.oR (dB _) y
  have dfp:s.heap.objs.size∉fp:=λz=>absurd (Xq _ z) (fm _);have IpD:Inv (X.comp scope N' H2.objs.size s H fp) (X.pn++Xa++[(s.heap.objs.size,{cls:=.type "list",data:=.seq us.toArray k})]) σ' H' s':=I'.nN λp hp=>by
   rcases dX.mp hp with z|z
   .exact I'.pin p (eM _ z)
   .have e:p=(s.heap.objs.size,{cls:=.type "list",data:=.seq us.toArray k}):=by simpa using z
    subst e;exact⟨XT,hD',hDC,dfs,λv z=>by cases z⟩
  have pfp:∀p∈[((s.heap.objs.size,{cls:=.type "list",data:=.seq us.toArray k}):Ch×Obj)],p.1∉fp:=λp hp=>by
   have e:p=(s.heap.objs.size,{cls:=.type "list",data:=.seq us.toArray k}):=by simpa using hp
   subst e;exact dfp
  rcases turn i n ys σ' H' w' with⟨stop,hz,q⟩|⟨go,hz,step⟩
  .refine eJ (T.done (X.comp scope N' H2.objs.size s H fp) Z' Z' Z' hc i _ s' σ' H' (λ_ _=>False) IpD (Ys fr' pfp) Yz stop) (λr s1 ⟨hr,I1⟩=>?_) λ_ _ z=>z;subst hr;show RR _ _ _ _;have ho1:s1.heap.get? s.heap.objs.size=Fa {cls:=.type "list",data:=.seq us.toArray k}:=(I1.pin (s.heap.objs.size,{cls:=.type "list",data:=.seq us.toArray k}) (by simp)).1;obtain⟨m,hnC,_⟩:=id I1.loc;refine Xe _ _ s1 (upd H' s.heap.objs.size (.lst ys)) m Zw (by rw[pV (dW hDC)];exact I1.free) hnC ?_ (q _ hD');have nD:∀b o,s.heap.get? b=Fa o->b≠s.heap.objs.size:=λb o e=>(ZQ b (dI e)).2;have hD0:H s.heap.objs.size=Db:=I.mT.fresh (dB _);refine I.oP (s':=s1) (ch:=fp) I1.os ⟨λb o e n1 n2 n3=>?_,λb o e n1 n2 n3=>?_,λb o e n1 n2=>?_,λb o e n1=>?_,λb xs e=>?_,λb o u e=>?_,λb ps e=>?_⟩ (λb u e=>?_) I1.bare λb hb=>⟨(hf b hb).2.2.2.1,(hf b hb).2.1,(hf b hb).2.2.2.2.1,(hf b hb).2.2.2.2.2⟩
   .exact I1.base.keep b o e n1 n2 n3
   .exact I1.base.slot b o e n1 n2 n3
   .rw[pV (nD b o e)];exact I1.base.free b o e n1 n2
   .exact I1.base.there b o e n1
   .rw[pV (qR e hD0)];exact I1.base.nG b xs e
   .rw[pV (qR e hD0)];exact I1.base.nA b o u e
   .obtain⟨more,z⟩:=I1.base.nK b ps e;exact⟨more,by rw[pV (qR e hD0)];exact z⟩
   .by_cases hb:b=s.heap.objs.size
    .subst hb;rw[qc]at e;cases e;exact⟨hz,us,k,rv',ho1⟩
    .rw[pV hb]at e;exact(I1.mT b u e).nH (λc v _ z=>z) (λc z=>by rw[pV (qR z hD')];exact z) (λc xs z=>by rw[pV (qR z hD')];exact z)
  .refine eJ (T.item (X.comp scope N' H2.objs.size s H fp) Z' Z' Z' hc i _ s' σ' H' (λ_ _=>False) IpD (Ys fr' pfp) Yz go) (λr s1 ⟨v,hr,h4⟩=>?_) λ_ _ z=>z;subst hr;show Tk _ _ (XXh tg (.ref it) v) _ _ s1;refine eJ h4 (λ_ s2 zz=>?_) λ_ _ z=>z;obtain⟨x,H5,I5,r5,y5,ZN,fr5⟩:=zz;have I5':=I5.pinned (Ys fr5 pfp) (T.obj _ _ ZN);refine eJ (hg H2.objs.size s H fp _ s2 σ' H5 x v _ I5' r5 (step x H5 y5)) (λ_ s3 ⟨σ6,H6,I6,q6⟩=>?_) λ_ _ z=>z;refine eJ (ht H2.objs.size s H fp _ s3 σ6 H6 _ I6 q6) (λok s4 ⟨H7,I7,q7⟩=>?_) λ_ _ z=>z;have ZR:∀{σ7:St} {H7:Hp} {s7:Sd},Inv (X.comp scope N' H2.objs.size s H fp) (X.pn++Xa++[(s.heap.objs.size,{cls:=.type "list",data:=.seq us.toArray k})]++CK fp s2.heap) σ7 H7 s7->
     tn (i+1) s7.heap/\(∀b∈fp,H7 b=Db)/\H7 s.heap.objs.size=Db/\s7.heap.get? s.heap.objs.size=Fa {cls:=.type "list",data:=.seq us.toArray k}:=λ{σ7 H7 s7} K7=>by
    have pd:=K7.pin (s.heap.objs.size,{cls:=.type "list",data:=.seq us.toArray k}) (by simp);refine⟨T.keep _ _ _ ZN λb hb o e=>(K7.pin (b,o) (eM _ (eM _ (vF hb e)))).1,λb hb=>?_,pd.2.1,pd.1⟩;obtain⟨o,e,d⟩:=T.obj _ _ ZN b hb;exact(K7.pin (b,o) (eM _ (eM _ (vF hb e)))).2.1
   cases ok with
   | false=>rw[dh dE]at q7 ⊢;obtain⟨m',hm,w7⟩:=q7;obtain⟨t7,f7,d7,o7⟩:=ZR I7;exact⟨m',hm,i+1,ys,us,k,σ6,H7,I7.m7.m7,t7,f7,d7,o7,rv',hz',w7⟩
   | true=>
    rw[dz Z']at q7 ⊢;refine eJ (he H2.objs.size s H fp _ s4 σ6 H7 _ I7 q7) (λyv s5 ⟨y,H8,I8,r8,m',hm,w8⟩=>?_) λ_ _ z=>⟨_,_,λb hb=>(by
     obtain⟨o,e,_⟩:=T.obj _ _ ZN b hb;exact⟨o,eM _ (vF hb e)⟩),z⟩
    obtain⟨t8,f8,d8,o8⟩:=ZR I8;have hsz:us.toArray.size<=pi:=by rw[dD,<-rv'.length];exact hz'
    refine append_at (hsz:=hsz) o8 λh' sb od=>?_;refine⟨m',hm,i+1,ys++[y],us++[yv],k+1,σ6,H8,?_,T.keep _ _ _ t8 λb hb o e=>(sb.2 b λq=>dfp (q ▸ hb)).trans e,f8,d8,?_,rv'.append (.cons r8 .nil),?_,w8⟩
    .exact I8.m7.m7.turned (it:=s.heap.objs.size) (t':=s5.toks) (λb o hb e=>(sb.2 b hb).trans e) d8 hDC (.inr (dB _)) cellD (by simpa using pinD)
    .rw[od,List.push_toArray]
    .rw[df,dM];exact hz
 exact codeAny_compStart_list (loop _ Z') (T.self _ 0 _ _ _ (T.keep _ _ _ st λb _ o e=>old b o e) (loop _ Z'))
def Inv.letGo{C:Ch}(I:Inv X Xa Y H s)(I':Inv X Xa σ' H' s')(hC:s.heap.objs.size<=C)(hn:H' C=Db)(hs:Heap.SameBut C s'.heap h'):Inv X Xa σ' H' {s' with heap:=h'}:=
 I'.turned (t':=s'.toks) (it:=C) (λb o hb e=>(hs.2 b hb).trans e) hn (λz=>absurd (dY I.lt hC) (by rw[z];exact fm _)) (.inr (eA I.sz hC))
  (λx c e z=>by
   obtain⟨v,r⟩:=I.cell x c e;exact absurd (dY r.lt hC) (by rw[z];exact fm _))
  (λp hp z=>absurd (dY (dI (I.pin p hp).1) hC) (by rw[z];exact fm _))
def Ql(hc:X.calm=pc)(S:sj X scope ix N')(hi:PI X tg iter wi)(hg:∀C s0 H0 ex,PG (X.comp scope N' C s0 H0 ex) tg g)(ht:∀C s0 H0 ex,PF (X.comp scope N' C s0 H0 ex) XM tt)(he:∀C s0 H0 ex,PE (X.comp scope N' C s0 H0 ex) X7 te) (hs:∀x,XV iter X.env x=pure x:=by intro _;rfl):PE X (.ListComp X7 [⟨tg,iter,XM,0⟩] scope pos) (Mf ix wi g tt te):=by
 intro Xa s Y H Q I h;rw[eval_ListComp];refine jO (use:=none) Z' hs (yz (S.cells I.ok)) S.kind S.nam (eJ (hi Xa s Y H _ I h) (λxv s₁ h₁=>eJ h₁ (λitv s₂ h₂=>?_) λ_ _ e=>e) λ_ _ e=>e);obtain⟨it,fp,tn,J,H2,e,I2,T,Xx,f2,hw⟩:=h₂;subst e;refine Cr (RR:=λacc C=>compPost (Tl X.prog X.w) X.A X.xe Db (EP X Xa Y Q) acc C) hc S I2 T Xx f2 hg ht (XP:=λ_ _ _ _ _ _ _ _=>False) he (λ_ _ _ _ _ z=>by obtain⟨_,_,_,z⟩:=z;exact z.elim) hw λD C s' H' m hCs hCn hn I3 q=>?_;exact⟨m,hn,λh' YZ=>⟨.ref D,_,I2.letGo I3 hCs hCn YZ,Z',q⟩⟩
def Ih{i:Nat}{x:Str}{px Y0:Pos}(hN:X.N.Nodup)(Z9:X.N[i]?=Fa x)(hx:K9 X.env.scope x)(hc:X.calm=pc)(S:sj X scope ix N')(hi:PI X tg iter wi)(hg:∀C s0 H0 ex,PG (X.comp scope N' C s0 H0 ex) tg g)(ht:∀C s0 H0 ex,PF (X.comp scope N' C s0 H0 ex) XM tt) (he:∀C s0 H0 ex,PE (X.comp scope N' C s0 H0 ex) X7 te) (YG:TD (.ListComp X7 [⟨tg,iter,XM,0⟩] scope pos) (Fa (.Name x px)) Y0.line X.env=pure pc) (hf:K' X x:=by first|exact .inl Z'|exact .inr Z'|assumption) (hs:∀x,XV iter X.env x=pure x:=by intro _;rfl):
  PS X (.Assign [.Name x px] (.ListComp X7 [⟨tg,iter,XM,0⟩] scope pos) Y0) (RH (Mf ix wi g tt te) (LY i)):=by
 intro Xa s Y H D I h;rw[exec_Assign_Name_used _ _ _ _ YG];refine c9 (io (c9 ?_));show Tk _ X.A (do let _<-comprehension (.ListComp X7 [⟨tg,iter,XM,0⟩] scope pos) scope X.env _ (newList []) Uf (Op iter X.env) (Fa (assign (.Name x px) X.env))) _ _ s;refine c9 (eJ (jO (use:=some (assign (.Name x px) X.env)) (Q:=λ_ s'=>SP X Xa D .next s') Z' hs (yz (S.cells I.ok)) S.kind S.nam
  (eJ (hi Xa s Y H _ I h) (λxv s₁ h₁=>eJ h₁ (λitv s₂ h₂=>?_) λ_ _ e=>e) λ_ _ e=>e)) (λ_ s' hq=>dC (dC hq)) λ_ _ e=>e)
 obtain⟨it,fp,tn,J,H2,e,I2,T,Xx,f2,hw⟩:=h₂;subst e;refine Cr (RR:=λacc C=>compPost (Tl X.prog X.w) X.A X.xe (Fa (assign (.Name x px) X.env)) (λ_ s'=>SP X Xa D .next s') acc C) hc S I2 T Xx f2 hg ht (XP:=λ_ _ _ _ _ _ _ _=>False) he (λ_ _ _ _ _ z=>by obtain⟨_,_,_,z⟩:=z;exact z.elim) hw λDa C s' H' m hCs hCn hn I3 q=>?_;show Tk _ X.A (assign (.Name x px) X.env (.ref Da)) _ _ _;refine lu (DO I3 hN Z9 hx (v:=.ref Da) Z' (λs4 I4 ⟨a,sb,ha⟩=>?_) hf);have ca:C≠a:=λz=>by
  rcases ha with y|y
  .exact absurd (dY I2.lt hCs) (by rw[z,y];exact fm _)
  .obtain⟨v,r⟩:=I2.cell x a y;exact absurd (dY r.lt hCs) (by rw[z];exact fm _)
 exact⟨m,hn.sameBut sb ca,λh' YZ=>⟨_,H',I2.letGo I4 hCs hCn YZ,q⟩⟩
end
def AW:typeLookup (.type "list") "__getattr__"=pure Db:=by rw[typeLookup_type,kg];kernel_rfl
def Fm:typeLookup (.type "list") "keys"=pure Db:=by rw[typeLookup_type,kg];kernel_rfl
section
variable {prog:Pg}{w:Wo}{A:Ar}{E:QQX}
def Ms(a:Ch)(u:Tok)(its:Array Vl)(n:Nat)(sl:Array (Option Vl)):
  Meets (Builtin.«object.__getattribute__» ⟨[.ref a,.str "keys" u],[]⟩) λA R s=>s.heap.get? a=Fa ⟨.type "list",Db,.seq its n,sl⟩/\A.handled=Db/\∀h' tk e,Heap.NewAttrErr s.heap h' e (.ref a) "keys"->R (.error (.ref e)) {s with heap:=h',toks:=tk}:=
 Meets.of_wp λprog w A R s hs=>by
  obtain⟨hp,g,d,tk,os⟩:=s;obtain⟨h1,h2,h3⟩:=hs;have hT:(⟨hp,g,d,tk,os⟩:Sd).TypeIs (.ref a) "list":=⟨_,h1,Z'⟩;have f1:=Fm;unfold Builtin.«object.__getattribute__»
  repeat (any_goals(first|assumption|wp_step))
  exact wpAny_raiseAttrError h2 h3 (attrMsg_fits (by decide+kernel) (by decide))
def EC{s:Sd}{a:Ch}{its:Array Vl}{n:Nat}{sl:Array (Option Vl)}{Q:Option Vl->Sd->Prop}(ha:s.heap.get? a=Fa ⟨.type "list",Db,.seq its n,sl⟩)(hA:A.handled=Db) (h:∀h' tk,(∀b o,s.heap.get? b=Fa o->h'.get? b=Fa o)->Q Db {s with heap:=h',toks:=tk}):Tk (Tl prog w) A (getAttr? (.ref a) "keys") Q E s:=by
 obtain⟨hp,g,d,tk,os⟩:=s;have hT:(⟨hp,g,d,tk,os⟩:Sd).TypeIs (.ref a) "list":=⟨_,ha,Z'⟩;have f1:=sub_AttributeError;have f3:=iy.lookup;have f4:=iy.bind (.ref a);have f5:=AW;unfold getAttr? getAttrBy? getAttrBy
 repeat (any_goals(first|assumption|((with_reducible show Tk _ _ (call (Value.builtin "list.__getattribute__") _ _) _ _ _);refine iT iy hT F.entry_list_ga (F.args_list_getattribute_2 _ _) (Ms a _ its n sl) ⟨ha,hA,λh' tk' e hx=>?_⟩)|wp_step))
 obtain⟨t',u',he⟩:=hx.there;show Tk _ _ (getattributeRaised _ _ _ _ _ _ _) _ _ _;unfold getattributeRaised
 repeat (any_goals(first|assumption|wp_step))
 all_goals first|exact h _ _ hx.keeps|skip
end
def AE:entryFor table "dict.update.loop"=Fa Builtin.«dict.update.loop»:=entryFor_of_tree (by kernel_rfl)
def vW:plainId "dict.update.loop"=pc:=by decide+kernel
section
variable {prog:Pg}{w:Wo}{A:Ar}{E:QQX}{R:Result→Sd→Prop}{κ:Type}[DecidableEq κ]{knd:PySem.KeyKind prog w κ}
 {I:Ch} {fp wr:QXQ} {G:Array GenState->Array GenState->Prop} {P:Nat->Vl->Prop} {St:Nat->Sd->Prop}
def OJ{s:Sd}{t:Ch}{x y:Vl}{Q:T0 Vl->Sd->Prop}(h:s.heap.IsTuple t #[x,y])(q:Q [x,y] s):Tk (Tl prog w) A (Builtin.Dict.pairItems (.ref t)) Q E s:=by
 obtain⟨⟨oc,od,oda,Ya⟩,h1,h2,n,h3⟩:=h;simp only at h2 h3;subst h2 h3;have hT:s.TypeIs (.ref t) "tuple":=⟨_,h1,Z'⟩;obtain⟨hp,g,d,tk,os⟩:=s;unfold Builtin.Dict.pairItems
 repeat (any_goals(first|assumption|wp_step))
def KP{all:T0 (κ×Vl)}(W:WalksS prog w A.in1 I fp wr G all.length P St)(d:Ch)(ZP:d∉fp)(kv:Nat->Vl)(tp:Nat->Ch)(hP:∀i v,P i v->v=.ref (tp i))(hw:∀j,j<all.length->tp j∉wr/\tp j≠d) (hk:∀j p,all[j]?=Fa p->knd.is p.1 (kv j)=pc) (hz:all.length<=pi):
  ∀(k i:Nat) (z:Int) (s:Sd),all.length - i=k->i<=all.length->St i s->(∀j p,all[j]?=Fa p->s.heap.IsTuple (tp j) #[kv j,p.2])->s.heap.DictOf knd d (merged [] (all.take i))->
   (∀s',Moved (d::wr) G s s'->s'.heap.DictOf knd d (merged [] all)->R (.ok (.ret .none)) s')->XXi (Tl prog w) A (.builtin "dict.update.loop" ⟨[.ref d,.ref I,.int z 0,.none],[]⟩) R s:=by
 have hdw:d∉wr:=λh=>ZP (W.sub _ h);have YH:∀b∈wr,b∈d::wr:=λb hb=>dF _ hb;intro k;induction k with
 | zero=>
  intro i z s hk0 hi Xw hT hD hR;have Ze:i=all.length:=by omega
  subst Ze;refine g9 AE ?_;rw[ig vW _];show Tk _ A.in1 (pyNext (.ref I)>>=_) _ _ s;refine c9 (W.done s _ _ Xw λs' hm=>?_);show Tk _ A.in1 (Builtin.Dict.addKeywords d []>>=_) _ _ s';refine c9 (dC (dC (hR s' (hm.mono YH) ?_)));rw[e9]at hD;obtain⟨o,es,ep,ho,rest⟩:=hD;exact⟨o,es,ep,hm.heap d _ hdw ho,rest⟩
 | succ k ih=>
  intro i z s hk0 hi Xw hT hD hR;have Xq:i<all.length:=by omega
  have Yu:all[i]?=Fa all[i]:=dg Xq;refine g9 AE ?_;rw[ig vW _];show Tk _ A.in1 (pyNext (.ref I)>>=_) _ _ s;refine c9 (W.item i s _ _ Xq Xw λv s' hPv hst' hm=>?_);obtain rfl:=hP i v hPv;have hT':∀j p,all[j]?=Fa p->s'.heap.IsTuple (tp j) #[kv j,p.2]:=λj p e=>by obtain⟨o,h1,h2⟩:=hT j p e;exact⟨o,hm.heap _ _ (hw j (de.mp e).1).1 h1,h2⟩
  have hD':s'.heap.DictOf knd d (merged [] (all.take i)):=by obtain⟨o,es,ep,ho,rest⟩:=hD;exact⟨o,es,ep,hm.heap d _ hdw ho,rest⟩
  show Tk _ A.in1 (sB [Value.ref (tp i)] _>>=_) _ _ s';refine c9 (fu (c9 (wpAny_tryCatch (OJ (hT' i _ Yu) ?_))));show Tk _ A.in1 (sB [kv i,all[i].2] (dictSet d (kv i) all[i].2)) _ _ s';refine fu ?_;unfold dictSet;refine fu (c9 (knd.pyHash (hk i _ Yu) ?_));have hl:(merged [] (all.take i)).length<=pi:=by have:=merged_length_le [] (all.take i);rw[eR]at this;simp only[dR]at this;omega
  refine wpAny_dictSetHashed_pairs (hsz:=hl) (hk i _ Yu) hD' λh' dd hs=>?_;rw[<-merged_take_succ [] all i _ Yu]at dd;refine dC ⟨kE vW _,ih (i+1) _ _ (by omega) Xq (W.frame _ s' _ _ hst' (gS _) λb hb o e=>?_) (λj p e=>?_) dd λZ4 hm'' hD''=>?_⟩
  .rw[hs.2 b (λz:b=d=>ZP (z ▸ hb))];exact e
  .obtain⟨o,h1,h2⟩:=hT' j p e;refine⟨o,?_,h2⟩;show h'.get? (tp j)=Fa o;rw[hs.2 _ (hw j (de.mp e).1).2];exact h1
  .refine hR Z4 (mG W.gtrans ((hm.mono YH).then_heap (gS _) λb o hb e=>?_) hm'') hD'';rw[hs.2 b (λz:b=d=>hb (by rw[z];exact dP))];exact e
end
section
variable {prog:Pg}{w:Wo}{A:Ar}{E:QQX}{κ:Type}[DecidableEq κ]{knd:PySem.KeyKind prog w κ}{s:Sd}
def Bf{l:Ch}{its:Array Vl}{n:Nat}{sl:Array (Option Vl)}{all:T0 (κ×Vl)}{Q:QQX}(kv:Nat->Vl)(tp:Nat->Ch)(hh:A.handled=Db)(hl:s.heap.get? l=Fa ⟨.type "list",Db,.seq its n,sl⟩) (hits:∀(j:Nat) (v:Vl),its[j]?=Fa v->v=.ref (tp j)) (Xg:its.size=all.length) (hT:∀j p,all[j]?=Fa p->s.heap.IsTuple (tp j) #[kv j,p.2]) (hk:∀j p,all[j]?=Fa p->knd.is p.1 (kv j)=pc) (hz:all.length<=pi) (h:∀h' tk,h'.DictOf knd s.heap.objs.size (merged [] all)->(∀b o,s.heap.get? b=Fa o->h'.get? b=Fa o)->Q (.ref s.heap.objs.size) {s with heap:=h',toks:=tk}):
  Tk (Tl prog w) A (call (.type "dict") [.ref l]) Q E s:=by
 refine callType_codes (Q₁:=λobj s₁=>obj=Value.ref s.heap.objs.size/\s₁={s with heap:=s.heap.push {cls:=.type "dict",data:=.dict #[]}}) PySem.F.kt_called_dict (PySem.F.kt_typeCall_dict_1 _) F.entry_dict_init (kt_code_dict_new _ ⟨Z',Z'⟩) ?_
 rintro obj s₁ ⟨rfl,rfl⟩
 have YW:(s.heap.push {cls:=.type "dict",data:=.dict #[]}).DictOf knd s.heap.objs.size []:=Heap.DictOf.new s.heap;have hl':(s.heap.push {cls:=.type "dict",data:=.dict #[]}).get? l=Fa ⟨.type "list",Db,.seq its n,sl⟩:=dq _ hl;have hTl:Shared.TypeIs {s with heap:=s.heap.push {cls:=.type "dict",data:=.dict #[]}} (.ref l) "list":=⟨_,hl',Z'⟩;have lsz:l<s.heap.objs.size:=dI hl;refine⟨YW.typeIs,F.args_dict_init_2 _ _,?_⟩;unfold Builtin.«dict.__init__»;refine c9 ?_;unfold Builtin.Dict.selfAndRest;refine c9 (wpAny_notOrdered_dict YW.typeIs ?_);show Tk _ _ (pure (s.heap.objs.size,[Value.ref l])) _ _ _;refine dC ?_;show Tk _ _ (Builtin.Dict.updateFrom "dict.__init__" s.heap.objs.size (.ref l) [] .none) _ _ _;unfold Builtin.Dict.updateFrom;refine c9 (jM hTl ?_);rw[dz (by decide)];refine c9 (EC hl' (by simpa using hh) λh' tk keep=>?_);have hl2:h'.IsList l its:=⟨_,keep _ _ hl',Z',n,Z'⟩;show Tk _ _ (rule _>>=_) _ _ _;refine c9 (jC (c9 (hZ hl2 ?_)));have nd:h'.objs.size>s.heap.objs.size:=by have z:h'.get? s.heap.objs.size=Fa _:=keep _ _ (dN _ Z');exact dI z
 have hDn:h'.DictOf knd s.heap.objs.size []:=by obtain⟨o,es,ep,ho,rest⟩:=YW;exact⟨o,es,ep,keep _ _ ho,rest⟩
 have hTs:∀j p,all[j]?=Fa p->h'.IsTuple (tp j) #[kv j,p.2]:=λj p e=>by obtain⟨o,h1,h2⟩:=hT j p e;exact⟨o,keep _ _ (dq _ h1),h2⟩
 have Xy:l≠h'.objs.size:=dU (jN lsz nd);have W:=(kx (prog:=prog) (w:=w) (A:=A.in1.in1) (by simpa using hh) h'.objs.size l Xy its).toS;rw[Xg]at W;refine dC ⟨kE vW _,KP (A:=A.in1) W s.heap.objs.size ?_ kv tp (λi v e=>hits i v e) (λj hj=>?_) hk hz all.length 0 0 _ (by omega) (eD _) ⟨⟨_,dN _ Z',Z',Z'⟩,hl2.push _⟩ (λj p e=>(hTs j p e).push _) ?_ λs' hm hD=>?_⟩
 .simp only[dw,dH,eQ,fS];exact⟨dU nd,gH lsz⟩
 .have hj':all[j]?=Fa all[j]:=dg hj;obtain⟨o,h1,_⟩:=hT j _ hj';have tsz:=dI h1;simp only[dw,dH,eQ];exact⟨dU (jN tsz nd),dU tsz⟩
 .obtain⟨o,es,ep,ho,rest⟩:=hDn;exact⟨o,es,ep,dq _ ho,rest⟩
 .obtain⟨h2,g2,d2,t2,o2⟩:=s';have eg:g2=s.gens:=hm.gens;have ed:d2=s.drawn:=hm.drawn;have eo:o2=s.os:=hm.os;subst eg ed eo;refine⟨Z',h h2 t2 hD λb o e=>?_⟩;have hb:=dI e;refine hm.heap b o ?_ (dq _ (keep _ _ (dq _ e)));simp only[dw,dH,eQ,fS];exact⟨dU hb,dU (jN hb nd)⟩
end
noncomputable def sX{κ:Type}[DecidableEq κ](l:List κ):List κ:=l.foldl (λacc k=>if k∈acc then acc else acc++[k]) []
def ym{κ:Type}[DecidableEq κ](l:List κ)(k:κ):sX (l++[k])=if k∈sX l then sX l else sX l++[k]:=by unfold sX;rw[lC];rfl
def Jc{κ:Type}[DecidableEq κ]:∀l:List κ,(sX l).length<=l.length:=by
 have go:∀(l acc:List κ),(l.foldl (λacc k=>if k∈acc then acc else acc++[k]) acc).length<=acc.length+l.length:=by
  intro l;induction l with
  | nil=>intro acc;simp
  | cons k r ih=>
   intro acc;rw[gb];refine eA (ih _) ?_;split
   .simp only[eC];omega
   .simp only[eC,df,dR];omega
 intro l;have:=go l []
 simpa [sX]using this
def NL{κ:Type}[DecidableEq κ](x:κ):∀l:List κ,x∈sX l↔x∈l:=by
 have go:∀(l acc:List κ),x∈l.foldl (λacc k=>if k∈acc then acc else acc++[k]) acc↔x∈acc\/x∈l:=by
  intro l;induction l with
  | nil=>intro acc;simp
  | cons k r ih=>
   intro acc;rw[gb,ih];by_cases h:k∈acc
   .rw[dz h,dw];constructor
    .rintro (z|z)
     .exact .inl z
     .exact .inr (.inr z)
    .rintro (z|z|z)
     .exact .inl z
     .subst z;exact .inl h
     .exact .inr z
   .rw[dh h,dX,dv,dw,or_assoc]
 intro l;have:=go l []
 simpa [sX]using this
def HJ{κ:Type}[DecidableEq κ]:∀l:List κ,l.Nodup->sX l=l:=by
 have go:∀(l acc:List κ),(acc++l).Nodup->l.foldl (λacc k=>if k∈acc then acc else acc++[k]) acc=acc++l:=by
  intro l;induction l with
  | nil=>intro acc _;simp
  | cons k r ih=>
   intro acc h;have hk:k∉acc:=λz=>by rw[gx]at h;exact h.2.2 k z k dP Z'
   rw[gb,dh hk,ih]
   .rw[eV];rfl
   .rw[eV];exact h
 intro l h;have:=go l [] (by simpa using h)
 simpa [sX]using this
section
variable {prog:Pg}{w:Wo}{A:Ar}{E:QQX}{R:Result→Sd→Prop}{κ:Type}[DecidableEq κ][BEq κ][LawfulBEq κ]{knd:PySem.KeyKind prog w κ}
 {I:Ch} {fp wr:QXQ} {G:Array GenState->Array GenState->Prop} {P:Nat->Vl->Prop} {St:Nat->Sd->Prop}
def GJ{all:List κ}(W:WalksS prog w A.in1 I fp wr G all.length P St)(S:Ch)(hSf:S∉fp)(hval:∀i v k,P i v->all[i]?=Fa k->knd.is k v=pc/\v.scannable=pc)(hb:all.length+1<XXa):
  ∀(n i:Nat) (s:Sd),all.length - i=n->i<=all.length->St i s->s.heap.SetOf knd S (λx=>decide (x∈sX (all.take i))) (sX (all.take i)).length->
   (∀s',Moved (S::wr) G s s'->s'.heap.SetOf knd S (λx=>decide (x∈sX all)) (sX all).length->R (.ok (.ret .none)) s')->XXi (Tl prog w) A (.builtin "set.update.loop" ⟨[.ref S,.ref I],[]⟩) R s:=by
 have hSw:S∉wr:=λh=>hSf (W.sub _ h);have up:∀b∈wr,b∈S::wr:=λb hb=>dF _ hb;have kept:∀{s s':Sd} {T:κ->Bool} {m:Nat},Moved wr G s s'->s.heap.SetOf knd S T m->s'.heap.SetOf knd S T m:=λhm ⟨o,es,ep,t,ho,rest⟩=>⟨o,es,ep,t,hm.heap S _ hSw ho,rest⟩;intro n;induction n with
 | zero=>
  intro i s h0 hi Xw hS hR;obtain rfl:i=all.length:=by omega
  refine g9 iz ?_;rw[ig gI _];rw[e9]at hS;exact c9 (W.done s _ _ Xw λs' hm=>dC (hR s' (hm.mono up) (kept hm hS)))
 | succ n ih=>
  intro i s h0 hi Xw hS hR;have Xq:i<all.length:=by omega
  have Yu:all[i]?=Fa all[i]:=dg Xq;refine g9 iz ?_;rw[ig gI _];refine c9 (W.item i s _ _ Xq Xw λv s' hP hst' hm=>?_);obtain⟨k1,k2⟩:=hval i v _ hP Yu;have Zx:=kept hm hS;show Tk _ A.in1 (sB [v] (setAdd S v)>>=_) _ _ s';refine c9 (fu ?_);unfold setAdd;refine fu (c9 (knd.pyHash k1 ?_));have room:(sX (all.take i)).length+1<XXa:=by have h1:=Jc (all.take i);rw[eR]at h1;omega
  refine wpAny_setAddHashed_of (knd:=knd) (s:={s' with toks:=s'.toks+1}) k1 k2 Zx room λh' hsb hS2=>?_;have et:all.take (i+1)=all.take i++[all[i]]:=by rw[gy,Yu];rfl
  have hSi:h'.SetOf knd S (λx=>decide (x∈sX (all.take (i+1)))) (sX (all.take (i+1))).length:=by
   refine iA hS2 (λx=>?_) ?_
   .rw[et];by_cases Xc:all[i]∈sX (all.take i)
    .rw[ym,dz Xc];by_cases hx:x=all[i]
     .subst hx;simp[Xc]
     .simp[hx]
    .rw[ym,dh Xc];by_cases hx:x=all[i]
     .subst hx;simp
     .simp[hx]
   .rw[et,ym];by_cases Xc:all[i]∈sX (all.take i)
    .rw[dz Xc];simp[Xc]
    .rw[dh Xc];simp[Xc]
  refine dC ⟨kE gI _,ih (i+1) _ (by omega) Xq (W.frame _ s' _ _ hst' (gS _) λb hb o e=>?_) hSi λZ4 hm'' hS''=>?_⟩
  .rw[hsb.2 b (λz:b=S=>hSf (z ▸ hb))];exact e
  .refine hR Z4 (mG W.gtrans ((hm.mono up).then_heap (gS _) λb o hb e=>?_) hm'') hS'';rw[hsb.2 b (λz:b=S=>hb (by rw[z];exact dP))];exact e
end
def FK:isSubtype (.type "list") (.type "set")=pure Uf:=by rw[jf];kernel_rfl
def AL:isSubtype (.type "list") (.type "frozenset")=pure Uf:=by rw[jf];kernel_rfl
section
variable {prog:Pg}{w:Wo}{A:Ar}{E:QQX}{κ:Type}[DecidableEq κ][BEq κ][LawfulBEq κ]{knd:PySem.KeyKind prog w κ}{s:Sd}
set_option maxHeartbeats 4000000 in
def Dh{l:Ch}{Xb:Array Vl}{all:List κ}{Q:QQX}(hh:A.handled=Db)(hl:s.heap.IsList l Xb)(hn:Xb.size=all.length)(hi:∀(i:Nat) (v:Vl) (k:κ),Xb[i]?=Fa v->all[i]?=Fa k->knd.is k v=pc/\v.scannable=pc)(hb:all.length+1<XXa) (h:∀(h':wp) (tk:Nat),h'.SetOf knd s.heap.objs.size (λx=>decide (x∈sX all)) (sX all).length->(∀b o,s.heap.get? b=Fa o->h'.get? b=Fa o)->Q (.ref s.heap.objs.size) {s with heap:=h',toks:=tk}):
  Tk (Tl prog w) A (call (.type "set") [.ref l]) Q E s:=by
 obtain⟨c,tl,hmro⟩:=fE.mro;have hmade:=fE.made;have YH:=fE.sub;refine iI (j4 ?_);show Tk _ _ (callAny (.type "set") _) _ _ _;refine dC ⟨iB _ (by decide+kernel),g9 lD ?_⟩;rw[kZ (kh "set" [.ref l] []) Z'];have h1:=fE.notType;have h2:=fE.canCreate;have hct:=lT (.ref l)
 repeat (any_goals(first|assumption|wp_step))
 have fresh:∀XB:Bool,(s.heap.push {cls:=.type "set",dict:=none,data:=.set #[] 0 (.fresh 0 0 XB)}).get? s.heap.objs.size=Fa {cls:=.type "set",dict:=none,data:=.set #[] 0 (.fresh 0 0 XB)}:=λXB=>dN _ Z';refine gq (code_set_new_1 (.ref l) (E:=E) (Q₁:=λobj s₁=>∃XB:Bool,obj=Value.ref s.heap.objs.size/\s₁={s with heap:=s.heap.push {cls:=.type "set",dict:=none,data:=.set #[] 0 (.fresh 0 0 XB)}}) λXB=>⟨XB,Z',Z'⟩) λr s₁ hr=>?_;cases r with
 | error e=>exact hr
 | ok fl=>
  cases fl with
  | ret obj=>
   obtain⟨XB,rfl,rfl⟩:=hr;have hS:=fresh XB;have hT:Shared.TypeIs {s with heap:=s.heap.push {cls:=.type "set",dict:=none,data:=.set #[] 0 (.fresh 0 0 XB)}} (.ref s.heap.objs.size) "set":=⟨_,hS,Z'⟩;have hli:=fE.init.lookup;have hbi:=fE.init.bind (.ref s.heap.objs.size)
   repeat (any_goals(first|assumption|wp_step))
   refine gq (iV (R:=wants (λr s₂=>r=.none/\∃h' tk,s₂={s with heap:=h',toks:=tk}/\h'.SetOf knd s.heap.objs.size (λx=>decide (x∈sX all)) (sX all).length/\(∀b o,s.heap.get? b=Fa o->h'.get? b=Fa o)) E) fE.init.plain lU (lV hT ?_)) λr₂ s₂ hr₂=>?_
   .obtain⟨ol,Zy,Y1,nl,Zz⟩:=hl;obtain⟨ocls,Y2,odata,Yv⟩:=ol;simp only at Y1 Zz;subst Y1;subst Zz;have hol':(s.heap.push {cls:=.type "set",dict:=none,data:=.set #[] 0 (.fresh 0 0 XB)}).get? l=Fa {cls:=.type "list",dict:=Y2,data:=.seq Xb nl,slots:=Yv}:=dq _ Zy;have hsls:=FK;have hslf:=AL;have hnd:(Value.type "list"==Value.type "dict")=Uf:=by decide
    have hl1:(s.heap.push {cls:=.type "set",dict:=none,data:=.set #[] 0 (.fresh 0 0 XB)}).IsList l Xb:=⟨_,hol',Z',nl,Z'⟩;unfold Builtin.«set.__init__» noKeywords Builtin.Frozenset.updateFrom;generalize hPI:pyIter=PI
    wp_walk
    subst hPI;refine hZ hl1 ?_;refine c9 (wpAny_runValue ?_);have lS:l<s.heap.objs.size:=dI Zy;have hh3:A.in1.in1.in1.handled=Db:=by simp[hh]
    have lI:l≠(s.heap.push {cls:=.type "set",dict:=none,data:=.set #[] 0 (.fresh 0 0 XB)}).objs.size:=by rw[ft];exact dU (gw lS)
    have W:=(kx (prog:=prog) (w:=w) hh3 _ l lI Xb).toS;rw[hn]at W;refine GJ W s.heap.objs.size ?hf (λi v k e1 e2=>hi i v k e1 e2) hb all.length 0 _ (by omega) (eD _) ⟨⟨_,dN _ Z',Z',Z'⟩,(hl1.push _)⟩ ?h0 ?hR;case hf=>rw[ft];simp only[dw,dH,eQ,fS];exact⟨dU (fD _),gH lS⟩
    case h0=>exact iA ((jk (knd:=knd) XB).setOf (dq _ hS) (by unfold XXa;omega)) (λ_=>rfl) Z'
    case hR=>intro s' hm Zx;obtain⟨h',g',d',tk',Z3⟩:=s';have eg:g'=s.gens:=hm.gens;have ed:d'=s.drawn:=hm.drawn;have eo:Z3=s.os:=hm.os;subst eg;subst ed;subst eo;refine dC ?_;show Tk _ _ (ret Value.none) _ _ _;refine dC ⟨Z',h',tk',Z',Zx,λb o e=>?_⟩;have hb:=dI e;refine hm.heap b o ?_ (dq _ (dq _ e));rw[ft];simp only[dw,dH,eQ,fS];exact⟨dU hb,dU (gw hb)⟩
   .cases r₂ with
    | error e=>exact hr₂
    | ok fl₂=>
     cases fl₂ with
     | ret r=>
      obtain⟨rfl,h',tk,rfl,Zx,hk'⟩:=hr₂
      repeat (any_goals(first|assumption|wp_step))
      exact h _ _ Zx hk'
     | _=>exact hr₂.elim
  | _=>exact hr.elim
end
def C6:isSubtype (.type "tuple") (.type "set")=pure Uf:=by rw[jf];kernel_rfl
def Ae:isSubtype (.type "tuple") (.type "frozenset")=pure Uf:=by rw[jf];kernel_rfl
section
variable {prog:Pg}{w:Wo}{A:Ar}{E:QQX}{κ:Type}[DecidableEq κ][BEq κ][LawfulBEq κ]{knd:PySem.KeyKind prog w κ}{s:Sd}
set_option maxHeartbeats 4000000 in
def BH{l:Ch}{Xb:Array Vl}{all:List κ}{Q:QQX}(hh:A.handled=Db)(hl:s.heap.IsTuple l Xb)(hn:Xb.size=all.length)(hi:∀(i:Nat) (v:Vl) (k:κ),Xb[i]?=Fa v->all[i]?=Fa k->knd.is k v=pc/\v.scannable=pc)(hb:all.length+1<XXa) (h:∀(h':wp) (tk:Nat),h'.SetOf knd s.heap.objs.size (λx=>decide (x∈sX all)) (sX all).length->(∀b o,s.heap.get? b=Fa o->h'.get? b=Fa o)->Q (.ref s.heap.objs.size) {s with heap:=h',toks:=tk}):
  Tk (Tl prog w) A (call (.type "set") [.ref l]) Q E s:=by
 obtain⟨c,tl,hmro⟩:=fE.mro;have hmade:=fE.made;have YH:=fE.sub;refine iI (j4 ?_);show Tk _ _ (callAny (.type "set") _) _ _ _;refine dC ⟨iB _ (by decide+kernel),g9 lD ?_⟩;rw[kZ (kh "set" [.ref l] []) Z'];have h1:=fE.notType;have h2:=fE.canCreate;have hct:=lT (.ref l)
 repeat (any_goals(first|assumption|wp_step))
 have fresh:∀XB:Bool,(s.heap.push {cls:=.type "set",dict:=none,data:=.set #[] 0 (.fresh 0 0 XB)}).get? s.heap.objs.size=Fa {cls:=.type "set",dict:=none,data:=.set #[] 0 (.fresh 0 0 XB)}:=λXB=>dN _ Z';refine gq (code_set_new_1 (.ref l) (E:=E) (Q₁:=λobj s₁=>∃XB:Bool,obj=Value.ref s.heap.objs.size/\s₁={s with heap:=s.heap.push {cls:=.type "set",dict:=none,data:=.set #[] 0 (.fresh 0 0 XB)}}) λXB=>⟨XB,Z',Z'⟩) λr s₁ hr=>?_;cases r with
 | error e=>exact hr
 | ok fl=>
  cases fl with
  | ret obj=>
   obtain⟨XB,rfl,rfl⟩:=hr;have hS:=fresh XB;have hT:Shared.TypeIs {s with heap:=s.heap.push {cls:=.type "set",dict:=none,data:=.set #[] 0 (.fresh 0 0 XB)}} (.ref s.heap.objs.size) "set":=⟨_,hS,Z'⟩;have hli:=fE.init.lookup;have hbi:=fE.init.bind (.ref s.heap.objs.size)
   repeat (any_goals(first|assumption|wp_step))
   refine gq (iV (R:=wants (λr s₂=>r=.none/\∃h' tk,s₂={s with heap:=h',toks:=tk}/\h'.SetOf knd s.heap.objs.size (λx=>decide (x∈sX all)) (sX all).length/\(∀b o,s.heap.get? b=Fa o->h'.get? b=Fa o)) E) fE.init.plain lU (lV hT ?_)) λr₂ s₂ hr₂=>?_
   .obtain⟨ol,Zy,Y1,nl,Zz⟩:=hl;obtain⟨ocls,Y2,odata,Yv⟩:=ol;simp only at Y1 Zz;subst Y1;subst Zz;have hol':(s.heap.push {cls:=.type "set",dict:=none,data:=.set #[] 0 (.fresh 0 0 XB)}).get? l=Fa {cls:=.type "tuple",dict:=Y2,data:=.seq Xb nl,slots:=Yv}:=dq _ Zy;have hsls:=C6;have hslf:=Ae;have hnd:(Value.type "tuple"==Value.type "dict")=Uf:=by decide
    have hl1:(s.heap.push {cls:=.type "set",dict:=none,data:=.set #[] 0 (.fresh 0 0 XB)}).IsTuple l Xb:=⟨_,hol',Z',nl,Z'⟩;unfold Builtin.«set.__init__» noKeywords Builtin.Frozenset.updateFrom;generalize hPI:pyIter=PI
    wp_walk
    subst hPI;refine iC hl1 ?_;refine c9 (wpAny_runValue ?_);have lS:l<s.heap.objs.size:=dI Zy;have hh3:A.in1.in1.in1.handled=Db:=by simp[hh]
    have lI:l≠(s.heap.push {cls:=.type "set",dict:=none,data:=.set #[] 0 (.fresh 0 0 XB)}).objs.size:=by rw[ft];exact dU (gw lS)
    have W:=(Walks.tuple (prog:=prog) (w:=w) hh3 _ l lI Xb).toS;rw[hn]at W;refine GJ W s.heap.objs.size ?hf (λi v k e1 e2=>hi i v k e1 e2) hb all.length 0 _ (by omega) (eD _) ⟨⟨_,dN _ Z',Z',Z'⟩,(hl1.push _)⟩ ?h0 ?hR;case hf=>rw[ft];simp only[dw,dH,eQ,fS];exact⟨dU (fD _),gH lS⟩
    case h0=>exact iA ((jk (knd:=knd) XB).setOf (dq _ hS) (by unfold XXa;omega)) (λ_=>rfl) Z'
    case hR=>intro s' hm Zx;obtain⟨h',g',d',tk',Z3⟩:=s';have eg:g'=s.gens:=hm.gens;have ed:d'=s.drawn:=hm.drawn;have eo:Z3=s.os:=hm.os;subst eg;subst ed;subst eo;refine dC ?_;show Tk _ _ (ret Value.none) _ _ _;refine dC ⟨Z',h',tk',Z',Zx,λb o e=>?_⟩;have hb:=dI e;refine hm.heap b o ?_ (dq _ (dq _ e));rw[ft];simp only[dw,dH,eQ,fS];exact⟨dU hb,dU (gw hb)⟩
   .cases r₂ with
    | error e=>exact hr₂
    | ok fl₂=>
     cases fl₂ with
     | ret r=>
      obtain⟨rfl,h',tk,rfl,Zx,hk'⟩:=hr₂
      repeat (any_goals(first|assumption|wp_step))
      exact h _ _ Zx hk'
     | _=>exact hr₂.elim
  | _=>exact hr.elim
end
end L2
namespace HT
open PySem PyProof.Rows
variable {prog:Pg}{w:Wo}{A:Ar}{E:QQX}{s:Sd}
def zE{t sl:Ch}{vl vu:Vl}{lo hi:Option Int}{Q:QQX}(ht:IsTup s.heap t Xb)(hs:s.heap.IsSliceOf sl vl vu .none)(pl:IsPart vl lo)(pu:IsPart vu hi) (hw:tz Xb.size 0 lo=0/\tz Xb.size Xb.size hi=Xb.size) (h:Q (.ref t) s):Tk (Tl prog w) A (XXe (.ref t) (.ref sl)) Q E s:=by
 obtain⟨os,Z5,ZO,Yt⟩:=id hs;have hTs:s.TypeIs (.ref sl) "slice":=⟨os,Z5,ZO⟩;unfold XXe
 try with_reducible refine fu ?_
 first|refine c9 (dC ?_)|skip
 refine c9 (jw ht.typeIs (by decide) ?_);refine c9 (fz (name:=Str.ofString "__getitem__") ht.typeIs fJ (fV fJ ht.typeIs kG ?_ (kW _ _)));show Tk _ _ (Builtin.Tuple.tupleItemsOf (.ref t)>>=_) _ _ s;refine c9 (tupleItemsOf_ ht ?_);refine c9 (jM hTs ?_);rw[dz (by decide)];refine c9 (wG hs pl pu ?_);have yes:(((tz Xb.size 0 lo:Nat):Int)==0&&(1:Int)==1&&(tz Xb.size Xb.size hi - tz Xb.size 0 lo)==Xb.size)=pc:=by rw[hw.1,hw.2];simp
 show Tk _ _ (if (((tz Xb.size 0 lo:Nat):Int)==0&&(1:Int)==1&&(tz Xb.size Xb.size hi - tz Xb.size 0 lo)==Xb.size)=pc then _ else _) _ _ s;rw[dz yes];have hT:=ht.typeIs;obtain⟨hp,g,d,tk,o⟩:=s
 repeat (any_goals(first|assumption|wp_step))
 exact⟨_,Z',dC h⟩
end HT
namespace L2
variable {X:Cx}{p p2 pos Y3:Pos}{e:No}{te:TE}
section
def Wr(K:qo):V->Option Int->Option Int->Hp->VK->Prop:=λx lo hi H Q=>∃a xs,x=.ref a/\uS K H a xs/\(HT.tz xs.length 0 lo=0/\HT.tz xs.length xs.length hi=xs.length)/\Q (.ref a) H
def R8:TQ X (Wr X.K):=by
 intro Xa s Y H x v vl vu lo hi sl Q I rx hs pl pu h;obtain⟨a,xs,rfl,hx,hw,q⟩:=h;cases rx;obtain⟨its,r,ht,hz⟩:=I.tuple hx;have Xg:its.toArray.size=xs.length:=by rw[dD];exact r.length.symm
 exact⟨"tuple",_,fJ.lookup,ht.typeIs,HT.zE ht hs pl pu (by rw[Xg];exact hw) ⟨.ref a,H,I,Z',q⟩⟩
local instance (priority:=5000) keyBEq:BEq rq:=instBEqOfDecidableEq
local instance (priority:=5000) keyLaw:LawfulBEq rq:=inferInstanceAs (LawfulBEq (Sum Int Str))
def PK(K:qo)(te:TE):TE:=λY H Q=>te Y H λx H1=>∃a,∃ss:QQQ,x=.ref a/\(za K H1 a (ss.map V.str)\/uS K H1 a (ss.map V.str))/\ss.length+1<XXa/\Q (.int (sX ss).length) H1
def Gf{ss:QQQ}(r:qD (ss.map V.str) us):us.length=ss.length/\∀(i:Nat) (v:Vl) (k:rq),us[i]?=Fa v->(ss.map λx=>(Sum.inr x:rq))[i]?=Fa k->(rL P w).is k v=pc/\v.scannable=pc:=by
 refine⟨by rw[<-r.length,cZ],λi v k e1 e2=>?_⟩;rw[dG]at e2;cases q:ss[i]? with
 | none=>rw[q]at e2;cases e2
 | some x=>rw[q]at e2;cases e2;obtain⟨u,e3,t,rfl⟩:=r.get (i:=i) (x:=V.str x) (by rw[dG,q];rfl);rw[e3]at e1;cases e1;exact⟨Aw P w x t,Z'⟩
def MQ{ss:QQQ}:(sX (ss.map λx=>(Sum.inr x:rq))).length=(sX ss).length:=by
 have go:∀(l acc:QQQ),(l.map λx=>(Sum.inr x:rq)).foldl (λacc k=>if k∈acc then acc else acc++[k]) (acc.map Sum.inr)=(l.foldl (λacc k=>if k∈acc then acc else acc++[k]) acc).map Sum.inr:=by
  intro l;induction l with
  | nil=>intro acc;rfl
  | cons k r ih=>
   intro acc;rw[d9,gb,gb];have hm:(Sum.inr k:rq)∈acc.map Sum.inr↔k∈acc:=by
    rw[dJ];constructor
    .rintro ⟨y,h1,h2⟩;cases h2;exact h1
    .exact λh=>⟨k,h,Z'⟩
   by_cases h:k∈acc
   .rw[dz h,dz (hm.mpr h)];exact ih acc
   .rw[dh h,dh λz=>h (hm.mp z)];have:=ih (acc++[k]);rw[dQ]at this;exact this
 have:=go ss [];unfold sX;rw[iU]at this;rw[this,cZ]
def KZ(hc:X.calm=pc)(he:PE X e te)(hg1:Gl X "len")(Xc:X.mg "len"=Db)(hg2:Gl X "set")(Xs:X.mg "set"=Db)(b1:Go "len"=Fa (.builtin "len"))(b2:Go "set"=Fa (.type "set")) (hs:zn [e] X.env=[(Uf,Op e X.env)]:=by rfl):PE X (.Call (.Name "len" p) [.Call (.Name "set" p2) [e] [] Y3] [] pos) (PK X.K te):=by
 intro Xa s Y H Q I h;refine gk (wm I hg1 Xc b1 ?_);refine iS ?_ Z' Z';show Tk _ _ (spliced ((Uf,Op (.Call (.Name "set" p2) [e] [] Y3) X.env)::Ix pos (zn [] X.env))) _ _ s;refine ji ?_;refine gk (wm I hg2 Xs b2 ?_);refine fG ?_ hs Z';rw[hs];show Tk _ _ (spliced ((Uf,Op e X.env)::Ix Y3 (zn [] X.env))) _ _ s;refine ji (sC (he Xa s Y H _ I h) λu s1 ⟨x,H1,I1,r1,a,ss,ex,hq,hb,q⟩=>jv ?_);subst ex;obtain rfl:u=Value.ref a:=r1;have XH:(ss.map λx=>(Sum.inr x:rq)).length+1<XXa:=by rw[cZ];exact hb
 have Xe:∀(h':wp) (tk:Nat),h'.SetOf (rL X.prog X.w) s1.heap.objs.size (λx=>decide (x∈sX (ss.map λx=>(Sum.inr x:rq)))) (sX (ss.map λx=>(Sum.inr x:rq))).length->(∀b o,s1.heap.get? b=Fa o->h'.get? b=Fa o)->
   Tk (Tl X.prog X.w) X.A (spliced (Ix pos (zn [] X.env))) (λvs s₁=>Tk (Tl X.prog X.w) X.A (call (.builtin "len") (.ref s1.heap.objs.size::vs)) (EP X Xa Y Q) X.xe s₁) X.xe {s1 with heap:=h',toks:=tk}:=λh' tk hS keep=>by
  refine jv ?_;obtain⟨o,es,ep,t,ho,hex,hd,_,_,hz,hf,hn⟩:=hS;have Xq:(es.size:Int)<2 ^ 63:=by have:XXa=4096:=rfl;omega
  refine call_len_set ho hex hd hf Xq ?_;refine⟨.int es.size,H1,I1.kept keep,⟨_,Z'⟩,?_⟩;rw[hn,MQ];exact q
 rcases hq with hq|hq
 .obtain⟨its,r,pl,hz⟩:=I1.list hq;obtain⟨k1,k2⟩:=Gf (P:=X.prog) (w:=X.w) r;exact L2.Dh (knd:=rL X.prog X.w) (all:=ss.map λx=>(Sum.inr x:rq)) (I1.ok.hd hc) pl.isList (by rw[dD,k1,cZ]) (λi v k e1 e2=>k2 i v k (by simpa using e1) e2) XH Xe
 .obtain⟨its,r,pl,hz⟩:=I1.tuple hq;obtain⟨k1,k2⟩:=Gf (P:=X.prog) (w:=X.w) r;exact L2.BH (knd:=rL X.prog X.w) (all:=ss.map λx=>(Sum.inr x:rq)) (I1.ok.hd hc) pl (by rw[dD,k1,cZ]) (λi v k e1 e2=>k2 i v k (by simpa using e1) e2) XH Xe
end
variable {Xa:T0 (Ch × Obj)}{Y:St}{H:Hp}{s:Sd}
theorem DD(I:Inv X Xa Y H s):∀(ts:QXQ) (kvs:T0 (rq×V)),ts.length=kvs.length->(∀(j:Nat) (t:Ch) (p:rq×V),ts[j]?=Fa t->kvs[j]?=Fa p->uS X.K H t [kV p.1,p.2])->
  ∃(us:T0 Vl) (all:T0 (rq×Vl)),us.length=kvs.length/\KV kvs all/\∀(j:Nat) (t:Ch) (p:rq×Vl),ts[j]?=Fa t->all[j]?=Fa p->∃u,us[j]?=Fa u/\s.heap.IsTuple t #[u,p.2]/\(rL X.prog X.w).is p.1 u=pc
 | [],[],_,_=>⟨[],[],Z',.nil,λj t p e=>by simp at e⟩
 | [],_::_,h,_=>by simp at h
 | _::_,[],h,_=>by simp at h
 | t::ts,(k,v)::kvs,h,hq=>by
  obtain⟨us,all,h1,h2,h3⟩:=DD I ts kvs (by simpa using h) (λj t p e1 e2=>hq (j+1) t p (by simpa using e1) (by simpa using e2));obtain⟨its,r,pl,_⟩:=I.tuple (hq 0 t (k,v) (by simp) (by simp));cases r with
  | cons r1 r2=>
   cases r2 with
   | cons r3 r4=>
    cases r4;rename_i u w;refine⟨u::us,(k,w)::all,by simpa using h1,.cons ⟨Z',r3⟩ h2,λj t' p e1 e2=>?_⟩;cases j with
    | zero=>
     have e1':t=t':=by simpa using e1
     have Zt:(k,w)=p:=by simpa using e2
     subst e1' Zt;exact⟨u,by simp,pl,GU r1⟩
    | succ j=>simpa using h3 j t' p (by simpa using e1) (by simpa using e2)
theorem MB:∀{kvs:T0 (rq×V)} {all:T0 (rq×Vl)},KV kvs all->all.map (·.1)=kvs.map (·.1)
 | _,_,.nil=>rfl
 | _,_,.cons r rs=>by rw[d9,d9,MB rs,r.1]
def Hm(hc:X.calm=pc):zm X (.type "dict") (λxs H Q=>∃l,∃ts:QXQ,∃kvs:T0 (rq×V),xs=[V.ref l]/\za X.K H l (ts.map V.ref)/\ts.length=kvs.length/\
  (∀(j:Nat) (t:Ch) (p:rq×V),ts[j]?=Fa t->kvs[j]?=Fa p->uS X.K H t [kV p.1,p.2])/\(kvs.map (·.1)).Nodup/\∀d,H d=Db->Q (.ref d) (upd H d (.dK kvs))):=by
 intro Xa s Y H xs us Q I r h;obtain⟨l,ts,kvs,rfl,hl,Xg,hq,hnd,q⟩:=h;obtain⟨u,rfl,ru⟩:=xS r;cases ru;obtain⟨its,rv,⟨⟨c1,d1,t1,sl1⟩,n,g1,e1,e2,e3⟩,hz⟩:=I.list hl;simp only at e1 e2 e3;subst e1 e2 e3;obtain⟨ks,all,h1,h2,h3⟩:=DD I ts kvs Xg hq;have la:all.length=kvs.length:=(jp h2).symm;have li:its.length=kvs.length:=by rw[<-rv.length,cZ,Xg]
 have zl:all.length<=pi:=by rw[la,<-Xg];simpa using hz
 have at_:∀(j:Nat) (p:rq×Vl),all[j]?=Fa p->∃t,ts[j]?=Fa t:=λj p e=>by have:=(de.mp e).1;exact⟨ts[j],dg (by omega)⟩
 refine Bf (knd:=rL X.prog X.w) (all:=all) (λj=>(ks[j]?).getD .none) (λj=>(ts[j]?).getD 0) (I.ok.hd hc) g1 (λj v e=>?_) (by rw[dD,li,la]) (λj p e=>?_) (λj p e=>?_) zl λh' tk hD keep=>?_
 .have e':its[j]?=Fa v:=by simpa using e
  have hj:=(de.mp e').1;have hj2:j<ts.length:=by omega
  obtain⟨w,e4,e5⟩:=rv.get (i:=j) (x:=V.ref ts[j]) (by rw[dG,dg hj2];rfl);rw[e']at e4;cases e4;show v=Value.ref ((ts[j]?).getD 0);rw[dg hj2];exact e5
 .obtain⟨t,et⟩:=at_ j p e;obtain⟨u,e4,e5,_⟩:=h3 j t p et e;show s.heap.IsTuple ((ts[j]?).getD 0) #[(ks[j]?).getD .none,p.2];rw[et,e4];exact e5
 .obtain⟨t,et⟩:=at_ j p e;obtain⟨u,e4,_,e6⟩:=h3 j t p et e;show(rL X.prog X.w).is p.1 ((ks[j]?).getD .none)=pc;rw[e4];exact e6
 .rw[merged_nil_of_nodup all (by rw[MB h2];exact hnd)]at hD;have fr:=I.mT.fresh (dB s.heap.objs.size);exact⟨.ref s.heap.objs.size,_,I.laid (t':=tk) (o:=.dK kvs) keep (dB _) (MR (by rw[<-la];exact zl) (gC.mpr (dW (dU I.big))) h2 hD),Z',q _ fr⟩
def Wq:R2:=λx y H Q=>∃a v,x=.ref a/\Ft H a y (Fa v)/\Q v H
def OF(hu:X.A.units+1<Y'):Ts X Wq:=by
 intro value Xl Xa s Y H x y o i Q I rx ry h hs;obtain⟨a,v,rfl,g,q⟩:=h;obtain rfl:o=Value.ref a:=rx;have hT:=F1 I g;have h2:Tk (Tl X.prog X.w) X.A (XXe (.ref a) i) (EP X Xa Y Q) X.xe s:=KM hu I g ry λw' s3 I3 Zr=>⟨v,H,I3,Zr,q⟩;unfold subscriptTail;refine c9 ?_;rw[kl hT.not_modules];refine c9 (j5 hT jD.lookup ?_);have Xe:Tk (Tl X.prog X.w) X.A (subscripted Xl Uf (.ref a) i) (λr s₃=>Tk (Tl X.prog X.w) X.A (letTemporaryGo value (.ref a) r>>=λ_=>pure r) (EP X Xa Y Q) X.xe s₃) X.xe s:=by rw[hs];exact wpAny_operating (eJ h2 (λr s₃ h₃=>c9 (ky (dC h₃))) λ_ _ x=>x)
 first
  | exact dC (c9 Xe)
  | exact c9 (dC (c9 Xe))
  | exact c9 Xe
def SL(hu:X.A.units+1<Y'):ya X (Ps .In) (λx y H Q=>∃a o,y=.ref a/\Ft H a x o/\Q (.bl o.isSome) H):=by intro Xa s Y H x y v u Q I rx ry h;obtain⟨a,o,rfl,g,q⟩:=h;obtain rfl:u=Value.ref a:=ry;exact VD hu I g rx λs3 I3=>⟨.bl o.isSome,H,I3,Z',q⟩
variable {prog:Pg}{w:Wo}{A:Ar}{E:QQX}{a:Ch}{U:Type}{k:Str}{tk:Tok}
section
variable {R:U→Vl→Prop}{D:T0 (Str × U)}
def yF(T:KTD.TabOf R s.heap a D):s.TypeIs (.ref a) "dict":=let⟨_,o,_,_,ho,hc,_⟩:=T;⟨o,ho,hc.1⟩
def JA{Q:Option Vl->Sd->Prop}(T:KTD.TabOf R s.heap a D)(h1:∀d v,KTD.datumAt k D=Fa d->R d v->Q (Fa v) {s with toks:=s.toks+1})(h2:KTD.datumAt k D=Db->Q Db {s with toks:=s.toks+1}):
  Tk (Tl prog w) A (dictGet a (.str k tk)) Q E s:=by
 obtain⟨_,o,es,ep,ho,hc,hd,hr⟩:=T;have hq:Q (findBy (λk v=>v.isStr k) es k) {s with toks:=s.toks+1}:=by
  have hf:findBy (λk v=>v.isStr k) es k=(es.toList.find? λe=>e.key.isStr k).map (·.val):=by obtain⟨l⟩:=es;simp[findBy]
  rw[hf];cases hat:KTD.datumAt k D with
  | none=>rw[hr.find_none hat];exact h2 hat
  | some d=>obtain⟨v,hv,hfl⟩:=hr.find_some hat;rw[hv];exact h1 d v hat hfl
 have Yf:(es.all λe=>isExactStrKey e.key)=pc:=by
  obtain⟨l⟩:=es
  simpa using hr.exact
 unfold dictGet
 try with_reducible refine fu ?_
 refine c9 (lL (c9 (KTD.kt_dictFind_strs (s:={s with toks:=s.toks+1}) ho hd Yf ?_)));rw[findBy_of_findIdx?]at hq;cases hi:es.findIdx? λe=>e.key.isStr k with
 | none=>rw[hi]at hq;exact dC hq
 | some i=>rw[hi]at hq;exact c9 (wpAny_dictEntries (s:={s with toks:=s.toks+1}) ho hd (dC hq))
def Sf{Q:QQX}(T:KTD.TabOf R s.heap a D)(h:Q (.bool (KTD.datumAt k D).isSome) {s with toks:=s.toks+1}):Tk (Tl prog w) A (Ps .In (.str k tk) (.ref a)) Q E s:=by
 have hT:=yF T;show Tk _ _ (do return .bool (<-contains (.ref a) (.str k tk))) Q E s;refine c9 ?_;unfold contains
 try with_reducible refine fu ?_
 refine c9 (j5 hT jl.lookup ?_);show Tk _ _ (if (Fa (Value.builtin "dict.__contains__")==Fa Value.none)=pc then _ else _) _ E s;rw[dh (by rw[beq_builtin_none];exact dE)];refine c9 (wpAny_callSpecialUnlessNone?_slot (name:=Str.ofString "__contains__") hT jl (fV jl hT entry_dict_contains ?_ (args_dict_contains _ _)));show Tk _ _ (dictGet a (.str k tk)>>=_) _ _ s;refine c9 (JA T (λd v ha _=>?_) λhn=>?_)
 .rw[ha]at h;show Tk _ _ (ret (.bool pc)) _ _ _;exact dC ⟨_,Z',fA (dC h)⟩
 .rw[hn]at h;show Tk _ _ (Builtin.Dict.pendingKey? a (.str k tk)>>=_) _ _ _;exact c9 (wpAny_pendingKey_other T.1 (dC ⟨_,Z',fA (dC h)⟩))
def Mb{Q:QQX}{d:U}(T:KTD.TabOf R s.heap a D)(hd:KTD.datumAt k D=Fa d)(h:∀v,R d v->Q v {s with toks:=s.toks+1}):Tk (Tl prog w) A (XXe (.ref a) (.str k tk)) Q E s:=by
 have hT:=yF T;unfold XXe
 try with_reducible refine fu ?_
 refine c9 (jw hT (by decide) ?_);refine c9 (fz (name:=Str.ofString "__getitem__") hT lE (fV lE hT entry_dict_getitem ?_ (args_dict_getitem _ _)));show Tk _ _ (dictGet a (.str k tk)>>=_) _ _ s;refine c9 (JA T (λd' v ha hv=>dC ⟨v,Z',dC (h v ?_)⟩) λhn=>?_)
 .rw[hd]at ha;cases ha;exact hv
 .rw[hd]at hn;cases hn
end
def Na(K:qo)(mg:QQZ)(x:Str)(F:T0 (Str×QQQ)):Prop:=∃a o es ep,mg x=Fa (.ref a)/\(a==TW)=Uf/\K.lookup a=Fa o/\o.ExactDict/\o.data=.dict es ep/\
 KTD.Rows (λ(ss:QQQ) v=>∃t,v=Value.ref t/\uS K (λ_=>Db) t (ss.map V.str)) es.toList F
variable {x:Str}{F:T0 (Str × QQQ)}
def Jr{K:qo}(h:uS K (λ_=>Db) t xs):uS K H t xs:=by
 rcases h with(h|⟨o,h⟩)|h
 .cases h
 .cases h
 .exact .inr h
def Hd{K:qo}(T:Na K mg x F):∃a,mg x=Fa (.ref a)/\∀h:wp,K.In h->KTD.TabOf (λ(ss:QQQ) v=>∃t,v=Value.ref t/\uS K (λ_=>Db) t (ss.map V.str)) h a F:=by obtain⟨a,o,es,ep,h1,h2,h3,h4,h5,h6⟩:=T;exact⟨a,h1,λh hk=>⟨h2,o,es,ep,hk a o h3,h4,h5,h6⟩⟩
noncomputable def Wu(x:Str):It:=⟨λi _=>i<x.cps.size,λi H v H'=>H'=H/\∃c,x.cps[i]?=Fa c/\v=.str ⟨#[c]⟩,λi _=>i=x.cps.size⟩
def Gb{K:qo}{ty:String}{x:Str}{t:Tok}(it:Ch)(W:∀A':Ar,A'.handled=Db->Walks P w A' it [it] [it] x.cps.size (SignAt x) (λi h=>h.IsStrIter it ty x t i)) (hself:∀(A:Ar) (i:Nat) (s:Sd) (Q:QQX) (E:QQX),s.heap.IsStrIter it ty x t i->Q (.ref it) s->Tk (Tl P w) A (pyIter (.ref it)) Q E s) (hn:["enumerate","zip","dict_itemiterator","dict_reverseitemiterator","odict_iterator","itertools.zip_longest","itertools.pairwise"].contains ty=Uf):Em P w K tg (Wu x) [it] it (λi h=>h.IsStrIter it ty x t i) where
 mem:=by simp
 obj:=λi h st b hb=>by
  obtain rfl:b=it:=by simpa using hb
  obtain⟨o,e,c,d⟩:=st;exact⟨o,e,λv z=>by rw[d]at z;cases z⟩
 keep:=λi h h' st k=>by obtain⟨o,e,r⟩:=st;exact⟨o,k it (by simp) o e,r⟩
 item:=by intro X hP hw hK hc i Xa s Y H E I hf st hg;subst hP hw hK;obtain⟨f0,f1,f2,f3,f4,f5⟩:=hf it (by simp);refine(W X.A (I.ok.hd hc)).item i s _ _ hg st λv h' tk hv Yz kp=>?_;obtain⟨c,u,e1,e2⟩:=hv;have I1:Inv X Xa Y H {s with heap:=h',toks:=tk}:=I.turned (t':=tk) (λb o hb e=>kp b o (by simpa using hb) e) f0 f1 f3 f4 f5;obtain⟨o,e,cl,d⟩:=id Yz;exact⟨v,Z',I0 (s:={s with heap:=h',toks:=tk}) e cl d hn ⟨.str ⟨#[c]⟩,H,I1,⟨u,e2⟩,⟨Z',c,e1,Z'⟩,Yz,λb hb=>(hf b hb).1⟩⟩
 done:=by intro X hP hw hK hc i Xa s Y H E I hf st hg;subst hP hw hK;obtain⟨f0,f1,f2,f3,f4,f5⟩:=hf it (by simp);obtain rfl:i=x.cps.size:=hg;exact(W X.A (I.ok.hd hc)).done s _ _ st λh' tk kp=>⟨Z',I.turned (t':=tk) (λb o hb e=>kp b o (by simpa using hb) e) f0 f1 f3 f4 f5⟩
 self:=hself
variable {tg:No}
def Qs(hc:X.calm=pc)(hl:PE X l tl):PI X tg l (λY H R=>tl Y H λx H1=>(∃a,x=.ref a/\(((∃xs,za X.K H1 a xs)/\R (Vp X.K a) H1)\/((∃xs,uS X.K H1 a xs)/\R (Wp X.K a) H1)))\/∃z,x=.str z/\R (Wu z) H1):=by
 intro Xa s Y H R I h;refine sC (hl Xa s Y H _ I h) λv s1 zz=>x5 zz λx H1 I1 r1 q1=>?_;rcases q1 with⟨a,e,q1⟩|⟨z,e,q⟩
 .subst e;cases r1;rcases q1 with⟨⟨xs,hq⟩,q⟩|⟨⟨xs,hq⟩,q⟩
  .obtain⟨its,rv,p,hz⟩:=I1.list hq;refine hZ p.isList ?_;refine⟨s1.heap.objs.size,[s1.heap.objs.size],_,_,H1,Z',I1.kept (t':=s1.toks) λb o e=>dq _ e,Kp a _,⟨_,dN _ Z',Z',Z'⟩,λb hb=>?_,q⟩;obtain rfl:b=s1.heap.objs.size:=by simpa using hb
   exact I1.nR (dB _) (I1.mT.fresh (dB _))
  .obtain⟨its,rv,p,hz⟩:=I1.tuple hq;refine iC (show s1.heap.IsTuple a its.toArray from p) ?_;refine⟨s1.heap.objs.size,[s1.heap.objs.size],_,_,H1,Z',I1.kept (t':=s1.toks) λb o e=>dq _ e,Iv a _,⟨_,dN _ Z',Z',Z'⟩,λb hb=>?_,q⟩;obtain rfl:b=s1.heap.objs.size:=by simpa using hb
   exact I1.nR (dB _) (I1.mT.fresh (dB _))
 .subst e;obtain⟨t,rfl⟩:=r1;have fp:∀b∈[s1.heap.objs.size],AN X Xa H1 b:=λb hb=>by
   obtain rfl:b=s1.heap.objs.size:=by simpa using hb
   exact I1.nR (dB _) (I1.mT.fresh (dB _))
  cases ha:z.cps.all (·<128)
  .refine wpAny_pyIter_wide ha ?_;exact⟨s1.heap.objs.size,[s1.heap.objs.size],_,_,H1,Z',I1.kept (t':=s1.toks) λb o e=>dq _ e,Gb _ (λA' hA=>Walks.strWide hA _ z t) (λA i s Q E st h=>wpAny_pyIter_striter_wide st h) (by decide),⟨_,dN _ Z',Z',Z'⟩,fp,q⟩
  .refine wpAny_pyIter_ascii ha ?_;exact⟨s1.heap.objs.size,[s1.heap.objs.size],_,_,H1,Z',I1.kept (t':=s1.toks) λb o e=>dq _ e,Gb _ (λA' hA=>Walks.strAscii hA _ z t) (λA i s Q E st h=>wpAny_pyIter_striter_ascii st h) (by decide),⟨_,dN _ Z',Z',Z'⟩,fp,q⟩
end L2
namespace L2
inductive C4{α0:Sort u}{α1:Sort v}(p:α0->α1->Prop):Prop
 | mk (a0:α0) (a1:α1) (h:p a0 a1):C4 p
inductive C9{α0:Sort u}{α1:Sort v}{α2:Sort w}(p:α0->α1->α2->Prop):Prop
 | mk (a0:α0) (a1:α1) (a2:α2) (h:p a0 a1 a2):C9 p
def x7{α:Sort u}{β:Sort v}{γ:Sort w}{p q r s:α->β->γ->Prop}{C:Prop}(h:C9 λa b c=>p a b c/\q a b c/\r a b c/\s a b c)(f:∀a b c,p a b c->q a b c->r a b c->s a b c->C):C:=by obtain⟨a,b,c,h1,h2,h3,h4⟩:=h;exact f a b c h1 h2 h3 h4
def K6{α:Sort u}{β:Sort v}{γ:Sort w}{p q r s s1 s2 s3:α->β->γ->Prop}{C:Prop}(h:C9 λa b c=>p a b c/\q a b c/\r a b c/\s a b c/\s1 a b c/\s2 a b c/\s3 a b c)(f:∀a b c,p a b c->q a b c->r a b c->s a b c->s1 a b c->s2 a b c->s3 a b c->C):C:=by obtain⟨a,b,c,h1,h2,h3,h4,h5,h6,h7⟩:=h;exact f a b c h1 h2 h3 h4 h5 h6 h7
inductive Af{α0:Sort u}{α1:Sort v}{α2:Sort w}{α3:Sort u1}(p:α0->α1->α2->α3->Prop):Prop
 | mk (a0:α0) (a1:α1) (a2:α2) (a3:α3) (h:p a0 a1 a2 a3):Af p
inductive FQ{α0:Sort u}{α1:Sort v}{α2:Sort w}{α3:Sort u1}{α4:Sort u2}(p:α0->α1->α2->α3->α4->Prop):Prop
 | mk (a0:α0) (a1:α1) (a2:α2) (a3:α3) (a4:α4) (h:p a0 a1 a2 a3 a4):FQ p
inductive J6{α0:Sort u}{α1:Sort v}{α2:Sort w}{α3:Sort u1}{α4:Sort u2}{α5:Sort u3}(p:α0->α1->α2->α3->α4->α5->Prop):Prop
 | mk (a0:α0) (a1:α1) (a2:α2) (a3:α3) (a4:α4) (a5:α5) (h:p a0 a1 a2 a3 a4 a5):J6 p
inductive Tq{α0:Sort u}{α1:Sort v}{α2:Sort w}{α3:Sort u1}{α4:Sort u2}{α5:Sort u3}{α6:Sort u4}(p:α0->α1->α2->α3->α4->α5->α6->Prop):Prop
 | mk (a0:α0) (a1:α1) (a2:α2) (a3:α3) (a4:α4) (a5:α5) (a6:α6) (h:p a0 a1 a2 a3 a4 a5 a6):Tq p
inductive To{α0:Sort u}{α1:Sort v}{α2:Sort w}{α3:Sort u1}{α4:Sort u2}{α5:Sort u3}{α6:Sort u4}{α7:Sort u5}(p:α0->α1->α2->α3->α4->α5->α6->α7->Prop):Prop
 | mk (a0:α0) (a1:α1) (a2:α2) (a3:α3) (a4:α4) (a5:α5) (a6:α6) (a7:α7) (h:p a0 a1 a2 a3 a4 a5 a6 a7):To p
inductive UH{α0:Sort u}{α1:Sort v}{α2:Sort w}{α3:Sort u1}{α4:Sort u2}{α5:Sort u3}{α6:Sort u4}{α7:Sort u5}{α8:Sort u6}(p:α0->α1->α2->α3->α4->α5->α6->α7->α8->Prop):Prop
 | mk (a0:α0) (a1:α1) (a2:α2) (a3:α3) (a4:α4) (a5:α5) (a6:α6) (a7:α7) (a8:α8) (h:p a0 a1 a2 a3 a4 a5 a6 a7 a8):UH p
inductive Mq{α0:Sort u}{α1:Sort v}{α2:Sort w}{α3:Sort u1}{α4:Sort u2}{α5:Sort u3}{α6:Sort u4}{α7:Sort u5}{α8:Sort u6}{α9:Sort u7}(p:α0->α1->α2->α3->α4->α5->α6->α7->α8->α9->Prop):Prop
 | mk (a0:α0) (a1:α1) (a2:α2) (a3:α3) (a4:α4) (a5:α5) (a6:α6) (a7:α7) (a8:α8) (a9:α9) (h:p a0 a1 a2 a3 a4 a5 a6 a7 a8 a9):Mq p
inductive Wm{α0:Sort u}{α1:Sort v}{α2:Sort w}{α3:Sort u1}{α4:Sort u2}{α5:Sort u3}{α6:Sort u4}{α7:Sort u5}{α8:Sort u6}{α9:Sort u7}{α10:Sort u8}(p:α0->α1->α2->α3->α4->α5->α6->α7->α8->α9->α10->Prop):Prop
 | mk (a0:α0) (a1:α1) (a2:α2) (a3:α3) (a4:α4) (a5:α5) (a6:α6) (a7:α7) (a8:α8) (a9:α9) (pb:α10) (h:p a0 a1 a2 a3 a4 a5 a6 a7 a8 a9 pb):Wm p
inductive Wa{α0:Sort u}{α1:Sort v}{α2:Sort w}{α3:Sort u1}{α4:Sort u2}{α5:Sort u3}{α6:Sort u4}{α7:Sort u5}{α8:Sort u6}{α9:Sort u7}{α10:Sort u8}{α11:Sort u9}(p:α0->α1->α2->α3->α4->α5->α6->α7->α8->α9->α10->α11->Prop):Prop
 | mk (a0:α0) (a1:α1) (a2:α2) (a3:α3) (a4:α4) (a5:α5) (a6:α6) (a7:α7) (a8:α8) (a9:α9) (pb:α10) (a11:α11) (h:p a0 a1 a2 a3 a4 a5 a6 a7 a8 a9 pb a11):Wa p
end L2
namespace L2
open PySem
def Tz(a C:Ch)(h:wp):Prop:=C4 λoe vs=>h.get? a=Fa oe/\oe.cls=.ref C/\oe.data=.fields vs/\oe.dict=Db
end L2
namespace L3
open L2
inductive D where
 | mP|bl (b:Bool)|int (i:Int)|str (x:Str)|tup (ds:List D)|ref (a:Ch)|ty (n:String)
 | rl (ds:List D)
def Ph(K:qo)(H:Hp)(a:Ch)(xs:T0 V):Prop:=(∃o,H a=Fa (.frz o (.lst xs)))\/
 ∃(o:Obj) (its:Array Vl) (n:Nat),K.lookup a=Fa o/\o.cls=.type "list"/\o.dict=Db/\o.data=.seq its n/\its.size<=pi/\qD xs its.toList
def Ph.sq{K:qo}(h:Ph K H a xs):za K H a xs:=by
 rcases h with⟨o,h⟩|h
 .exact .inl (.inr ⟨o,h⟩)
 .exact .inr h
mutual
def rO(K:qo)(H:Hp):D->V->Prop
 | .mP,v=>v=.mP
 | .bl b,v=>v=.bl b
 | .int i,v=>v=.int i
 | .str x,v=>v=.str x
 | .ref a,v=>v=.ref a
 | .ty n,v=>v=.ty n
 | .tup ds,v=>∃a xs,v=.ref a/\uS K H a xs/\qk K H ds xs
 | .rl ds,v=>∃a xs,v=.ref a/\Ph K H a xs/\qk K H ds xs
def qk(K:qo)(H:Hp):T0 D->T0 V->Prop
 | [],xs=>xs=[]
 | d::ds,xs=>∃x r,xs=x::r/\rO K H d x/\qk K H ds r
end
structure qS(K:qo)(H H':Hp):Prop where
 t:∀a xs,uS K H a xs->uS K H' a xs
 f:∀a o xs,H a=Fa (.frz o (.lst xs))->H' a=Fa (.frz o (.lst xs))
def qS.refl{K:qo}:qS K H H:=⟨λ_ _ h=>h,λ_ _ _ h=>h⟩
def qS.trans{K:qo}(a:qS K H H1)(b:qS K H1 H2):qS K H H2:=⟨λc xs h=>b.t c xs (a.t c xs h),λc o xs h=>b.f c o xs (a.f c o xs h)⟩
def qS.upd{K:qo}(h:∀xs,¬Rd H p (.tup xs))(h':∀u xs,H p≠Fa (.frz u (.lst xs))):qS K H (upd H p o):=⟨λa xs q=>by
 rcases q with q|q
 .have ne:a≠p:=λz=>h xs (z ▸ q);rcases q with q|⟨u,q⟩
  .exact .inl (.inl (by rw[pV ne];exact q))
  .exact .inl (.inr ⟨u,by rw[pV ne];exact q⟩)
 .exact .inr q,λa u xs q=>by
 have ne:a≠p:=λz=>h' u xs (z ▸ q);rw[pV ne];exact q⟩
def qS.new{K:qo}{H:Hp}{p:Ch}(h:H p=Db):qS K H (L2.upd H p o):=.upd (λxs q=>by
 rcases q with q|⟨u,q⟩<;>(rw[h]at q;cases q)) λu xs q=>by rw[h]at q;cases q
def Ph.mono{K:qo}(e:qS K H H')(h:Ph K H a xs):Ph K H' a xs:=by
 rcases h with⟨o,h⟩|h
 .exact .inl ⟨o,e.f a o xs h⟩
 .exact .inr h
mutual
theorem rO.mono{K:qo}(e:qS K H H'):∀{d:D} {v:V},rO K H d v->rO K H' d v
 | .mP,_,h=>h
 | .bl _,_,h=>h
 | .int _,_,h=>h
 | .str _,_,h=>h
 | .ref _,_,h=>h
 | .ty _,_,h=>h
 | .tup ds,v,h=>by unfold rO at h ⊢;obtain⟨a,xs,e1,e2,e3⟩:=h;exact⟨a,xs,e1,e.t _ _ e2,qk.mono e e3⟩
 | .rl ds,v,h=>by unfold rO at h ⊢;obtain⟨a,xs,e1,e2,e3⟩:=h;exact⟨a,xs,e1,e2.mono e,qk.mono e e3⟩
theorem qk.mono{K:qo}(e:qS K H H'):∀{ds:T0 D} {xs:T0 V},qk K H ds xs->qk K H' ds xs
 | [],_,h=>h
 | d::ds,xs,h=>by unfold qk at h ⊢;obtain⟨x,r,e1,e2,e3⟩:=h;exact⟨x,r,e1,rO.mono e e2,qk.mono e e3⟩
end
variable {K:qo}{H H':Hp}
def qk.nil:qk K H [] []:=by unfold qk;rfl
def qk.cons(a:rO K H d x)(b:qk K H ds xs):qk K H (d::ds) (x::xs):=by unfold qk;exact⟨x,xs,Z',a,b⟩
def qk.inv{d:D}{ds:T0 D}(h:qk K H (d::ds) xs):∃x r,xs=x::r/\rO K H d x/\qk K H ds r:=by unfold qk at h;exact h
def qk.nil_inv(h:qk K H [] xs):xs=[]:=by unfold qk at h;exact h
theorem qk.length:∀{ds:T0 D} {xs:T0 V},qk K H ds xs->ds.length=xs.length
 | [],_,h=>by rw[h.nil_inv];rfl
 | d::ds,_,h=>by obtain⟨x,r,rfl,_,e⟩:=h.inv;simp[qk.length e]
theorem qk.get:∀{ds:T0 D} {xs:T0 V} {i:Nat} {d:D},qk K H ds xs->ds[i]?=Fa d->∃x,xs[i]?=Fa x/\rO K H d x
 | [],_,_,_,_,e=>by simp at e
 | d::ds,_,0,_,h,e=>by obtain⟨x,r,rfl,a,_⟩:=h.inv;simp at e;subst e;exact⟨x,by simp,a⟩
 | d::ds,_,i+1,_,h,e=>by obtain⟨x,r,rfl,_,b⟩:=h.inv;obtain⟨y,e1,e2⟩:=qk.get b (by simpa using e);exact⟨y,by simpa using e1,e2⟩
theorem qk.append:∀{ds es:T0 D} {xs ys:T0 V},qk K H ds xs->qk K H es ys->qk K H (ds++es) (xs++ys)
 | [],_,_,_,h,g=>by rw[h.nil_inv];exact g
 | d::ds,_,_,_,h,g=>by obtain⟨x,r,rfl,a,b⟩:=h.inv;exact .cons a (qk.append b g)
theorem qk.take:∀{ds:T0 D} {xs:T0 V} (n:Nat),qk K H ds xs->qk K H (ds.take n) (xs.take n)
 | _,_,0,_=>by simp only[List.take_zero];exact .nil
 | [],_,n+1,h=>by rw[h.nil_inv];exact .nil
 | d::ds,_,n+1,h=>by obtain⟨x,r,rfl,a,b⟩:=h.inv;exact .cons a (qk.take n b)
theorem qk.drop:∀{ds:T0 D} {xs:T0 V} (n:Nat),qk K H ds xs->qk K H (ds.drop n) (xs.drop n)
 | _,_,0,h=>h
 | [],_,n+1,h=>by rw[h.nil_inv];exact .nil
 | d::ds,_,n+1,h=>by obtain⟨x,r,rfl,a,b⟩:=h.inv;exact qk.drop n b
def qk.snoc(h:qk K H ds xs)(a:rO K H d x):qk K H (ds++[d]) (xs++[x]):=h.append (.cons a .nil)
theorem qk.ints:∀{ns:T0 Int},qk K H (ns.map D.int) (ns.map V.int)
 | []=>.nil
 | n::r=>.cons (by unfold rO;rfl) qk.ints
def rO.tup(q:uS K H a xs)(h:qk K H ds xs):rO K H (.tup ds) (.ref a):=by unfold rO;exact⟨a,xs,Z',q,h⟩
def rO.mQ{ds:T0 D}(h:rO K H (.tup ds) v):∃a xs,v=.ref a/\uS K H a xs/\qk K H ds xs:=by unfold rO at h;exact h
def rO.m8{ds:T0 D}(h:rO K H (.rl ds) v):∃a xs,v=.ref a/\Ph K H a xs/\qk K H ds xs:=by unfold rO at h;exact h
def rO.int{i:Int}:rO K H (.int i) (.int i):=by unfold rO;rfl
def rO.bl{i:Bool}:rO K H (.bl i) (.bl i):=by unfold rO;rfl
def rO.str{i:Str}:rO K H (.str i) (.str i):=by unfold rO;rfl
def rO.ref{i:Ch}:rO K H (.ref i) (.ref i):=by unfold rO;rfl
def rO.mP:rO K H .mP .mP:=by unfold rO;rfl
def rO.int_inv{i:Int}(h:rO K H (.int i) v):v=.int i:=by unfold rO at h;exact h
def rO.mO{i:Bool}(h:rO K H (.bl i) v):v=.bl i:=by unfold rO at h;exact h
def rO.str_inv{i:Str}(h:rO K H (.str i) v):v=.str i:=by unfold rO at h;exact h
def rO.mK{i:Ch}(h:rO K H (.ref i) v):v=.ref i:=by unfold rO at h;exact h
def rO.nS{i:String}(h:rO K H (.ty i) v):v=.ty i:=by unfold rO at h;exact h
def rO.mM{v:V}(h:rO K H .mP v):v=.mP:=by unfold rO at h;exact h
inductive uY where
 | lst (ds:List D)
 | ins (C:Ch) (fs:List (Str×D))
 | dk (kvs:List (rq×D))
 | exc (C:Ch)
abbrev Mp:=Ch->Option uY
noncomputable def pE(M:Mp)(a:Ch)(c:uY):Mp:=λb=>if b=a then Fa c else M b
def pS:pE M a c a=Fa c:=by unfold pE;rw[dz Z']
def uo{a b:Ch}(h:b≠a):pE M a c b=M b:=by unfold pE;rw[dh h]
def rM:pE (pE M a c) a d=pE M a d:=by funext b;unfold pE;split<;>rfl
def Tc{M:Mp}{a b:Ch}{c:uY}(h:M a=Fa c)(h':M b=Db):a≠b:=by intro e;subst e;rw[h]at h';cases h'
def Cu(K:qo)(H:Hp)(fs:T0 (Str×D))(vs:T0 (Str×V)):Prop:=vs.map (·.1)=fs.map (·.1)/\qk K H (fs.map (·.2)) (vs.map (·.2))
def xB(K:qo)(H:Hp)(a:Ch):uY->Prop
 | .lst ds=>∃xs,H a=Fa (.lst xs)/\qk K H ds xs
 | .ins C fs=>∃dx vs,H a=Fa (.ins C dx vs)/\Cls K C/\(∀f,f∈fs.map (·.1)->ue K C f)/\Cu K H fs vs
 | .dk kvs=>∃vs,H a=Fa (.dK vs)/\vs.map (·.1)=kvs.map (·.1)/\qk K H (kvs.map (·.2)) (vs.map (·.2))
 | .exc C=>H a=Fa (.ext (Tz a C))
def HM(K:qo)(H:Hp)(M:Mp):Prop:=∀a c,M a=Fa c->xB K H a c
variable {M:Mp}
def Cu.mono(e:qS K H H')(h:Cu K H fs vs):Cu K H' fs vs:=⟨h.1,h.2.mono e⟩
def xB.keep(e:qS K H H')(k:H' a=H a)(h:xB K H a c):xB K H' a c:=by
 cases c with
 | lst ds=>obtain⟨xs,e1,e2⟩:=h;exact⟨xs,by rw[k];exact e1,e2.mono e⟩
 | ins C fs=>obtain⟨dx,vs,e1,c,n,e2⟩:=h;exact⟨dx,vs,by rw[k];exact e1,c,n,e2.mono e⟩
 | dk kvs=>obtain⟨vs,e1,e2,e3⟩:=h;exact⟨vs,by rw[k];exact e1,e2,e3.mono e⟩
 | exc C=>exact k.trans h
def xB.there(h:xB K H a c):∃o,H a=Fa o/\(∀xs,¬Rd H a (.tup xs))/\∀u xs,H a≠Fa (.frz u (.lst xs)):=by
 have go:∀o,H a=Fa o->(∀xs,o≠.tup xs)->(∀u v,o≠.frz u v)->∃o,H a=Fa o/\(∀xs,¬Rd H a (.tup xs))/\∀u xs,H a≠Fa (.frz u (.lst xs)):=λo e n1 n2=>⟨o,e,λxs q=>by
  rcases q with q|⟨u,q⟩
  .rw[e]at q;exact n1 xs (dA q)
  .rw[e]at q;exact n2 u _ (dA q),λu xs q=>by rw[e]at q;exact n2 u _ (dA q)⟩
 cases c with
 | lst ds=>obtain⟨xs,e1,e2⟩:=h;exact go _ e1 (λ_ z=>by cases z) λ_ _ z=>by cases z
 | ins C fs=>obtain⟨dx,vs,e1,e2⟩:=h;exact go _ e1 (λ_ z=>by cases z) λ_ _ z=>by cases z
 | dk kvs=>obtain⟨vs,e1,e2,e3⟩:=h;exact go _ e1 (λ_ z=>by cases z) λ_ _ z=>by cases z
 | exc C=>exact go _ h (λ_ z=>by cases z) λ_ _ z=>by cases z
def HM.fresh(h:HM K H M){p:Ch}(n:H p=Db):M p=Db:=by
 cases e:M p with
 | none=>rfl
 | some c=>obtain⟨o,q,_⟩:=(h p c e).there;rw[n]at q;cases q
def HM.keep(h:HM K H M)(e:qS K H H')(k:∀a c,M a=Fa c->H' a=H a):HM K H' M:=λa c q=>(h a c q).keep e (k a c q)
def HM.add(h:HM K H M){p:Ch}{o:HO}(n:H p=Db):HM K (upd H p o) M:=h.keep (.new n) λa c q=>by obtain⟨u,e,_⟩:=(h a c q).there;rw[pV (qR e n)]
def HM.new(h:HM K H M){p:Ch}{o:HO}{c:uY}(n:H p=Db)(ok:xB K (upd H p o) p c):HM K (upd H p o) (pE M p c):=λa d q=>by
 by_cases e:a=p
 .subst e;rw[pS]at q;cases q;exact ok
 .rw[uo e]at q;exact h.add n a d q
def HM.put(h:HM K H M){p:Ch}{o:HO}{c c0:uY}(e0:M p=Fa c0)(ok:qS K H (upd H p o)->xB K (upd H p o) p c):HM K (upd H p o) (pE M p c)/\qS K H (upd H p o):=by
 obtain⟨u,eu,nt,nf⟩:=(h p c0 e0).there;have x:qS K H (upd H p o):=.upd nt nf;refine⟨λa d q=>?_,x⟩;by_cases e:a=p
 .subst e;rw[pS]at q;cases q;exact ok x
 .rw[uo e]at q;exact(h a d q).keep x (pV e)
abbrev St:=L2.St
abbrev vq:=T0 (Option D)
abbrev DK:=D->Mp->Prop
abbrev T3:=vq->Mp->DK->Prop
abbrev AD:=vq->Mp->(Bool->Mp->Prop)->Prop
abbrev xt:=vq->Mp->(T0 D->Mp->Prop)->Prop
structure G2 where
 nx:vq->Mp->Prop
 rt:DK
 bk:vq->Mp->Prop:=λ_ _=>False
 ct:vq->Mp->Prop:=λ_ _=>False
abbrev xy:=G2->vq->Mp->Prop
def zQ(K:qo)(H:Hp)(Y:St)(U:vq):Prop:=∀(i:Nat) (d:D),U[i]?=Fa (Fa d)->∃v,Y[i]?=Fa (Fa v)/\rO K H d v
def zQ.mono{K:qo}(e:qS K H H')(h:zQ K H Y U):zQ K H' Y U:=λi d q=>by obtain⟨v,e1,e2⟩:=h i d q;exact⟨v,e1,e2.mono e⟩
def zQ.set{K:qo}{i:Nat}(h:zQ K H Y U)(hv:rO K H d v)(hi:i<Y.length):zQ K H (Y.set i (Fa v)) (U.set i (Fa d)):=λj e q=>by
 by_cases hj:j=i
 .subst hj;rw[fM hi];by_cases hl:j<U.length
  .rw[fM hl]at q;cases q;exact⟨v,Z',hv⟩
  .rw[ic (by simpa using hl)]at q;cases q
 .rw[fL (dW hj)]at q ⊢;exact h j e q
def lo(K:qo)(t:T3):TE:=λY H Q'=>C9 λU M Q=>zQ K H Y U/\HM K H M/\t U M Q/\∀v H' d M',rO K H' d v->HM K H' M'->qS K H H'->Q d M'->Q' v H'
def Tv(K:qo)(t:AD):TT:=λY H Q'=>C9 λU M Q=>zQ K H Y U/\HM K H M/\t U M Q/\∀b H' M',HM K H' M'->qS K H H'->Q b M'->Q' b H'
def WI(K:qo)(t:xt):TA:=λY H Q'=>C9 λU M Q=>zQ K H Y U/\HM K H M/\t U M Q/\∀vs H' ds M',qk K H' ds vs->HM K H' M'->qS K H H'->Q ds M'->Q' vs H'
def Vf(K:qo)(t:xy):TS:=λD' Y H=>C9 λU M D=>zQ K H Y U/\HM K H M/\t D U M/\(∀σ' H' δ' M',zQ K H' σ' δ'->HM K H' M'->qS K H H'->σ'.length=Y.length->D.nx δ' M'->D'.nx σ' H')/\
 (∀v H' d M',rO K H' d v->HM K H' M'->qS K H H'->D.rt d M'->D'.rt v H')/\(∀σ' H' δ' M',zQ K H' σ' δ'->HM K H' M'->qS K H H'->σ'.length=Y.length->D.bk δ' M'->D'.bk σ' H')/\
 (∀σ' H' δ' M',zQ K H' σ' δ'->HM K H' M'->qS K H H'->σ'.length=Y.length->D.ct δ' M'->D'.ct σ' H')
def E3(X:Cx)(e:No)(t:T3):Prop:=PE X e (lo X.K t)
def B3(X:Cx)(e:No)(t:AD):Prop:=PT X e (Tv X.K t)
def A3(X:Cx)(es:T0 No)(t:xt):Prop:=PA X es (WI X.K t)
def S3(X:Cx)(st:ZB)(t:xy):Prop:=PS X st (Vf X.K t)
def He(X:Cx)(st:T0 ZB)(t:xy):Prop:=B' X st (Vf X.K t)
def PE.mono{t t':TE}(h:PE X e t)(m:∀Y H Q,t' Y H Q->t Y H Q):PE X e t':=λXa s Y H Q I q=>h Xa s Y H Q I (m Y H Q q)
def PT.mono{t t':TT}(h:PT X e t)(m:∀Y H Q,t' Y H Q->t Y H Q):PT X e t':=λXa s Y H Q I q=>h Xa s Y H Q I (m Y H Q q)
def PA.mono{t t':TA}(h:PA X e t)(m:∀Y H Q,t' Y H Q->t Y H Q):PA X e t':=λpos Xa s Y H Q I q=>h pos Xa s Y H Q I (m Y H Q q)
def PS.mono{t t':TS}(h:PS X e t)(m:∀D Y H,t' D Y H->t D Y H):PS X e t':=λXa s Y H D I q=>h Xa s Y H D I (m D Y H q)
def B'.mono{t t':TS}(h:B' X e t)(m:∀D Y H,t' D Y H->t D Y H):B' X e t':=λXa s Y H D I q=>h Xa s Y H D I (m D Y H q)
def PS.nO{t t':TS}(h:PS X e t)(m:∀D Y H,Y.length=X.N.length->t' D Y H->t D Y H):PS X e t':=λXa s Y H D I q=>h Xa s Y H D I (m D Y H I.len q)
def vO{K:qo}{Q':VK}{Q:DK}(x:qS K H H1)(f:∀v H' d M',rO K H' d v->HM K H' M'->qS K H H'->Q d M'->Q' v H'):∀v H' d M',rO K H' d v->HM K H' M'->qS K H1 H'->Q d M'->Q' v H':=
 λv H' d M' a b c e=>f v H' d M' a b (x.trans c) e
variable {X:Cx}{pos:Pos}
def v3(i:Nat):T3:=λU M Q=>(U.getD i Db).elim False λd=>Q d M
def Kb{U:vq}{i:Nat}{P:D->Prop}(h:(U.getD i Db).elim False P):∃d,U[i]?=Fa (Fa d)/\P d:=by
 cases e:U[i]? with
 | none=>rw[gM,e]at h;exact h.elim
 | some o=>
  rw[gM,e]at h;cases o with
  | none=>exact h.elim
  | some d=>exact⟨d,Z',h⟩
def RX(i:Nat){x:Str}(h:PE X (.Name x pos) (Hr i)):E3 X (.Name x pos) (v3 i):=PE.mono h λY H Q' zz=>x7 zz λU M Q hs hm ht k=>by obtain⟨d,e,q⟩:=Kb ht;obtain⟨v,e1,e2⟩:=hs i d e;exact⟨v,e1,k v H d M e2 hm .refl q⟩
def c3(d:D):T3:=λ_ M Q=>Q d M
def pz{i j}:E3 X (.Constant (.int i) j pos) (c3 (.int i)):=PE.mono RA λY H Q' zz=>x7 zz λU M Q hs hm ht k=>k _ H _ M .int hm .refl ht
def vN{i j}:E3 X (.Constant (.bool i) j pos) (c3 (.bl i)):=PE.mono UK λY H Q' zz=>x7 zz λU M Q hs hm ht k=>k _ H _ M .bl hm .refl ht
def pA{i j}:E3 X (.Constant (.str i) j pos) (c3 (.str i)):=PE.mono Rp λY H Q' zz=>x7 zz λU M Q hs hm ht k=>k _ H _ M .str hm .refl ht
def rQ{j}:E3 X (.Constant .none j pos) (c3 .mP):=PE.mono Rm λY H Q' zz=>x7 zz λU M Q hs hm ht k=>k _ H _ M .mP hm .refl ht
def LW{n:String}(hg:Gl X x)(hm:X.mg x=Db)(hv:Go x=Fa (.type n))(hn:x≠"__name__":=by decide)(hd:zb x:=by decide):E3 X (.Name x pos) (c3 (.ty n)):=
 PE.mono (Pe (v:=.ty n) hg hm hv Z' hn hd) λY H Q' zz=>x7 zz λU M Q hs hm ht k=>k _ H _ M (by unfold rO;rfl) hm .refl ht
noncomputable def oj(M:Mp)(a:Ch):Option (T0 D):=match M a with
 | some (.lst ds)=>Fa ds
 | _=>Db
noncomputable def yD(x:Str)(n:Int):Str:=⟨(List.replicate n.toNat x.cps).foldl (·++·) #[]⟩
def Vh(op:XYa)(x y:D)(M:Mp)(Q:DK):Prop:=match op,x,y with
 | .Add,.int i,.int j=>Q (.int (i+j)) M
 | .Add,.str i,.str j=>i.length+j.length<=pi/\Q (.str (i++j)) M
 | .Add,.tup i,.tup j=>i≠[]/\i.length+j.length<=pi/\Q (.tup (i++j)) M
 | .Add,.ref a,.ref b=>(oj M a).elim False λi=>(oj M b).elim False λj=>i.length+j.length<=pi/\∀p,M p=Db->Q (.ref p) (pE M p (.lst (i++j)))
 | .Add,.rl i,.ref b=>(oj M b).elim False λj=>i.length+j.length<=pi/\∀p,M p=Db->Q (.ref p) (pE M p (.lst (i++j)))
 | .Sub,.int i,.int j=>Q (.int (i - j)) M
 | .Mult,.int i,.int j=>CS i j/\Q (.int (i*j)) M
 | .Mult,.str i,.int j=>(j<4096/\-4096<j/\i.length<4096)/\Q (.str (yD i j)) M
 | .FloorDiv,.int i,.int j=>UE i j/\Q (.int (i / j)) M
 | .Mod,.int i,.int j=>0<j/\Q (.int (i % j)) M
 | _,_,_=>False
def o3(op:XYa)(ta tb:T3):T3:=λU M Q=>ta U M λx M1=>tb U M1 λy M2=>Vh op x y M2 Q
def Up(K:qo)(H:Hp)(Q':VK)(Q:DK):Prop:=∀v H' d M',rO K H' d v->HM K H' M'->qS K H H'->Q d M'->Q' v H'
variable {ta tb:T3}
section
def qz{K:qo}{ds:T0 D}(hm:HM K H M)(h:oj M a=Fa ds):∃xs,za K H a xs/\qk K H ds xs/\Rd H a (.lst xs):=by
 unfold oj at h;cases e:M a with
 | none=>rw[e]at h;cases h
 | some c=>
  rw[e]at h;have ok:=hm a c e;cases c with
  | lst es=>cases h;obtain⟨xs,e1,e2⟩:=ok;exact⟨xs,.inl (.inl e1),e2,.inl e1⟩
  | ins _ _=>cases h
  | dk _=>cases h
  | exc _=>cases h
def qV{α:Type}{o:Option α}{P:α->Prop}(h:o.elim False P):∃a,o=Fa a/\P a:=by
 cases o with
 | none=>exact h.elim
 | some a=>exact⟨a,Z',h⟩
def IX:ya X (wS .Add) (λx y H Q=>∃l b xs zs,x=.ref l/\y=.ref b/\za X.K H l xs/\za X.K H b zs/\xs.length+zs.length<=pi/\∀p,H p=Db->Q (.ref p) (upd H p (.lst (xs++zs)))):=by
 intro Xa s Y H x y v u Q I rx ry h;obtain⟨l,b,xs,zs,rfl,rfl,hH,hB,hz,q⟩:=h;cases rx;cases ry;obtain⟨its,r,⟨⟨c1,d1,t1,sl1⟩,n,g1,e1,_,f1⟩,_⟩:=I.list hH;obtain⟨Zf,r2,⟨⟨c2,d2,t2,sl2⟩,m,g2,e2,_,f2⟩,_⟩:=I.list hB;simp only at e1 f1 e2 f2;subst e1 f1 e2 f2;have hl:=r.length;have hl2:=r2.length;refine kU ⟨_,g1,Z'⟩ ⟨_,g2,Z'⟩ noFill_list_add seq_list_add PySem.F.slot_list_add PySem.F.entry_list_add (PySem.F.args_list_add_2 _ _) (list_addW l b its.toArray Zf.toArray n m d1 d2 sl1 sl2 (by rw[dD,dD];omega)) ⟨g1,g2,?_⟩;have ea:its.toArray++Zf.toArray=(its++Zf).toArray:=by simp
 rw[ea];exact⟨.ref _,_,I.oM (t':=s.toks) (r.append r2) (by rw[df];omega),Z',q _ I.fresh⟩
def Jd(x:Array Nat):∀k,((List.replicate k x).foldl (·++·) #[]:Array Nat).size=k*x.size:=by
 have go:∀(k:Nat) (acc:Array Nat),((List.replicate k x).foldl (·++·) acc).size=acc.size+k*x.size:=by
  intro k;induction k with
  | zero=>intro acc;simp
  | succ k ih=>intro acc;rw[eN,gb,ih,Array.size_append,kY];omega
 intro k;rw[go];simp
def Oz:ya X (wS .Mult) (λx y H Q=>∃i j,x=.str i/\y=.int j/\(j<4096/\-4096<j/\i.length<4096)/\Q (.str (yD i j)) H):=by
 intro Xa s Y H x y v u Q I rx ry h;obtain⟨i,j,rfl,rfl,⟨h1,h2,h3⟩,q⟩:=h;obtain⟨t,rfl⟩:=rx;obtain⟨t',rfl⟩:=ry;refine PySem.P.mul_str ?_ ?_ ?_ ?_
 .rw[eY (by omega),eY (by omega)];rfl
 .intro h0 _;have:(4096:Int)<=(2 ^ 63 - 1) / j:=by
   have:(4096:Int)*j<=2 ^ 63 - 1:=by omega
   exact(Int.le_ediv_iff_mul_le (by omega)).mpr this
  omega
 .intro h0 _;have hm:i.length*j.toNat<=4096*4096:=km (by omega) (by omega);have hz:=dS;unfold Builtin.Str.tooLong;exact eY (by omega)
 .by_cases h0:j<1
  .rw[dz h0];have e:yD i j=Str.empty:=by unfold yD;rw[show j.toNat=0 by omega];rfl
   rw[e]at q;exact⟨by decide,⟨.str Str.empty,H,I.tok _,⟨_,Z'⟩,q⟩⟩
  .rw[dh h0];by_cases hj:(j==1||i.length==0)=pc
   .rw[dz hj];have e:yD i j=i:=by
     have hj':j=1\/i.length=0:=by simpa using hj
     unfold yD;rcases hj' with z|z
     .subst z;show(⟨#[]++i.cps⟩:Str)=i;simp
     .have ec:i.cps=#[]:=Array.size_eq_zero_iff.mp z;have er:∀k:Nat,((List.replicate k (#[]:Array Nat)).foldl (·++·) #[]:Array Nat)=#[]:=by
       intro k;induction k with
       | zero=>rfl
       | succ k ih=>rw[eN,gb];simpa using ih
      rw[ec,er,<-ec]
    rw[e]at q;exact⟨.str i,H,I,⟨t,Z'⟩,q⟩
   .rw[dh hj];refine⟨?_,⟨.str _,H,I.tok _,⟨_,Z'⟩,q⟩⟩;have hz:=dS;have hm:j.toNat*i.length<=4096*4096:=km (by omega) (by omega);show((List.replicate j.toNat i.cps).foldl (·++·) #[]:Array Nat).size<=_;rw[Jd];have YI:j.toNat*i.cps.size<=4096*4096:=hm;omega
def R3(K:qo)(f:D->D->Mp->DK->Prop):R2:=λvx vy H Q'=>Af λx y M Q=>rO K H x vx/\rO K H y vy/\HM K H M/\f x y M Q/\Up K H Q' Q
def W8(op:XYa):ya X (wS op) (R3 X.K (Vh op)):=by
 intro Xa s Y H vx vy v u Q' I rx ry h;obtain⟨x,y,M,Q,hx,hy,hm,q,k⟩:=h;unfold Vh at q;split at q
 .cases hx.int_inv;cases hy.int_inv;exact R1 Xa s Y H _ _ v u Q' I rx ry ⟨_,_,Z',Z',k _ _ _ _ .int hm .refl q⟩
 .cases hx.str_inv;cases hy.str_inv;exact HH Xa s Y H _ _ v u Q' I rx ry ⟨_,_,Z',Z',q.1,k _ _ _ _ .str hm .refl q.2⟩
 .rename_i i j;obtain⟨q1,q2,q3⟩:=q;obtain⟨a,xs,rfl,ha,YO⟩:=hx.mQ;obtain⟨b,ys,rfl,hb,XH⟩:=hy.mQ;have l1:=YO.length;have l2:=XH.length;refine Pd Xa s Y H _ _ v u Q' I rx ry ⟨a,b,xs,ys,Z',Z',ha,hb,λz=>q1 (by rw[z]at l1;exact gA.mp l1),by omega,λz=>?_,λz p hp=>?_⟩
  .refine k _ _ _ _ (.tup ha ?_) hm .refl q3;rw[z]at XH;have e0:j=[]:=gA.mp (by simpa using XH.length);rw[e0,eE];exact YO
  .have e:qS X.K H (upd H p (.tup (xs++ys))):=.new hp;exact k _ _ _ _ (.tup (.of qc) ((YO.append XH).mono e)) (hm.add hp) e q3
 .obtain⟨i,ei,q⟩:=qV q;obtain⟨j,ej,q1,q2⟩:=qV q;cases hx.mK;cases hy.mK;obtain⟨xs,rx',hxs,_⟩:=qz hm ei;obtain⟨ys,ry',hys,_⟩:=qz hm ej;have l1:=hxs.length;have l2:=hys.length;refine IX Xa s Y H _ _ v u Q' I rx ry ⟨_,_,xs,ys,Z',Z',rx',ry',by omega,λp hp=>?_⟩;have e:qS X.K H (upd H p (.lst (xs++ys))):=.new hp;exact k _ _ _ _ .ref (hm.new (c:=.lst (i++j)) hp ⟨_,qc,(hxs.append hys).mono e⟩) e (q2 p (hm.fresh hp))
 .obtain⟨j,ej,q1,q2⟩:=qV q;obtain⟨l,xs,rfl,rx',hxs⟩:=hx.m8;cases hy.mK;obtain⟨ys,ry',hys,_⟩:=qz hm ej;have l1:=hxs.length;have l2:=hys.length;refine IX Xa s Y H _ _ v u Q' I rx ry ⟨_,_,xs,ys,Z',Z',rx'.sq,ry',by omega,λp hp=>?_⟩;have e:qS X.K H (upd H p (.lst (xs++ys))):=.new hp;exact k _ _ _ _ .ref (hm.new (c:=.lst (_++j)) hp ⟨_,qc,(hxs.append hys).mono e⟩) e (q2 p (hm.fresh hp))
 .cases hx.int_inv;cases hy.int_inv;exact Rv Xa s Y H _ _ v u Q' I rx ry ⟨_,_,Z',Z',k _ _ _ _ .int hm .refl q⟩
 .cases hx.int_inv;cases hy.int_inv;exact R9 Xa s Y H _ _ v u Q' I rx ry ⟨_,_,Z',Z',q.1,k _ _ _ _ .int hm .refl q.2⟩
 .cases hx.str_inv;cases hy.int_inv;exact Oz Xa s Y H _ _ v u Q' I rx ry ⟨_,_,Z',Z',q.1,k _ _ _ _ .str hm .refl q.2⟩
 .cases hx.int_inv;cases hy.int_inv;exact Qr Xa s Y H _ _ v u Q' I rx ry ⟨_,_,Z',Z',q.1,k _ _ _ _ .int hm .refl q.2⟩
 .cases hx.int_inv;cases hy.int_inv;exact RD Xa s Y H _ _ v u Q' I rx ry ⟨_,_,Z',Z',q.1,k _ _ _ _ .int hm .refl q.2⟩
 .exact q.elim
variable {a b:No}
def Ia{f:D->D->Mp->DK->Prop}:∀Y H Q',lo X.K (λU M Q=>ta U M λx M1=>tb U M1 λy M2=>f x y M2 Q) Y H Q'->UR (R3 X.K f) (lo X.K ta) (lo X.K tb) Y H Q':=λY H Q' zz=>x7 zz λU M Q hs hm ht k=>⟨U,M,_,hs,hm,ht,λv H1 x M1 hx Xc e1 q1=>⟨U,M1,_,hs.mono e1,Xc,q1,λu H2 y M2 hy Xs e2 q2=>⟨x,y,M2,Q,hx.mono e2,hy,Xs,q2,vO (e1.trans e2) k⟩⟩⟩
def pU(ha:E3 X a ta)(hb:E3 X b tb):E3 X (.BinOp a op b pos) (o3 op ta tb):=PE.mono (QZ (W8 op) ha hb) Ia
end
noncomputable def sR(f:D->D->Option Bool):T0 D->T0 D->Option Bool
 | x::a,y::b=>(f x y).bind λp=>(sR f a b).map λq=>p&&q
 | _,_=>Fa pc
noncomputable def yA(M:Mp):Nat->D->D->Option Bool
 | 0,_,_=>Db
 | n+1,x,y=>match x,y with
  | .mP,.mP=>Fa pc
  | .bl a,.bl b=>Fa (a==b)
  | .int a,.int b=>Fa (a==b)
  | .str a,.str b=>Fa (a==b)
  | .mP,.bl _=>Fa Uf
  | .mP,.int _=>Fa Uf
  | .mP,.str _=>Fa Uf
  | .bl _,.mP=>Fa Uf
  | .bl _,.str _=>Fa Uf
  | .int _,.mP=>Fa Uf
  | .int _,.str _=>Fa Uf
  | .str _,.mP=>Fa Uf
  | .str _,.bl _=>Fa Uf
  | .str _,.int _=>Fa Uf
  | .tup a,.tup b=>(sR (yA M n) a b).map λp=>p&&a.length==b.length
  | .ref a,.ref b=>(oj M a).bind λi=>(oj M b).bind λj=>if i.length=j.length then sR (yA M n) i j else Fa Uf
  | _,_=>Db
variable {Xa:T0 (Ch × Obj)}{Y:St}{s:Sd}
theorem yX{f:D->D->Option Bool}:∀{ds es:T0 D} {xs:T0 V} {b:Bool},qk X.K H ds xs->qk X.K H es xs->(∀x y v b,rO X.K H x v->rO X.K H y v->f x y=Fa b->b=pc)->sR f ds es=Fa b->b=pc
 | [],[],_,_,_,_,_,e=>(dA e).symm
 | [],_::_,_,_,h,g,_,_=>by have h1:=h.length;have h2:=g.length;rw[<-h1]at h2;simp at h2
 | _::_,[],_,_,h,g,_,_=>by have h1:=h.length;have h2:=g.length;rw[<-h1]at h2;simp at h2
 | d::ds,e::es,xs,b,h,g,k,q=>by
  obtain⟨x,r,rfl,h1,h2⟩:=h.inv;obtain⟨x',r',e',g1,g2⟩:=g.inv;cases e';unfold sR at q;cases p1:f d e with
  | none=>rw[p1]at q;cases q
  | some b1=>
   rw[p1]at q;cases p2:sR f ds es with
   | none=>rw[p2]at q;cases q
   | some b2=>rw[p2]at q;have q':(b1&&b2)=b:=dA q;rw[<-q',k _ _ _ _ h1 g1 p1,yX h2 g2 k p2];rfl
theorem zM(I:Inv X Xa Y H s)(hm:HM X.K H M):∀(n:Nat) (x y:D) (v:V) (b:Bool),rO X.K H x v->rO X.K H y v->yA M n x y=Fa b->b=pc
 | 0,_,_,_,_,_,_,e=>by cases e
 | n+1,x,y,v,b,hx,hy,e=>by
  unfold yA at e;split at e
  .exact(dA e).symm
  .rw[hx.mO]at hy;cases hy.mO;exact(dA e).symm.trans (by simp)
  .rw[hx.int_inv]at hy;cases hy.int_inv;exact(dA e).symm.trans (by simp)
  .rw[hx.str_inv]at hy;cases hy.str_inv;exact(dA e).symm.trans (by simp)
  .rw[hx.mM]at hy;cases hy.mO
  .rw[hx.mM]at hy;cases hy.int_inv
  .rw[hx.mM]at hy;cases hy.str_inv
  .rw[hx.mO]at hy;cases hy.mM
  .rw[hx.mO]at hy;cases hy.str_inv
  .rw[hx.int_inv]at hy;cases hy.mM
  .rw[hx.int_inv]at hy;cases hy.str_inv
  .rw[hx.str_inv]at hy;cases hy.mM
  .rw[hx.str_inv]at hy;cases hy.mO
  .rw[hx.str_inv]at hy;cases hy.int_inv
  .obtain⟨a,xs,rfl,h1,h2⟩:=hx.mQ;obtain⟨a',ys,e',g1,g2⟩:=hy.mQ;cases e';rw[I.m9 g1 h1]at g2;cases p:sR (yA M n) _ _ with
   | none=>rw[p]at e;cases e
   | some b1=>rw[p]at e;have e':=dA e;rw[<-e',yX h2 g2 (zM I hm n) p,h2.length,g2.length];simp
  .rw[hx.mK]at hy;cases hy.mK;cases p:oj M _ with
   | none=>rw[p]at e;cases e
   | some i=>rw[p]at e;have e:(if i.length=i.length then sR (yA M n) i i else Fa Uf)=Fa b:=e;rw[dz Z']at e;obtain⟨xs,_,h2,_⟩:=qz hm p;exact yX h2 h2 (zM I hm n) e
  .cases e
theorem CM{A:Ar}:∀{ds es:T0 D} {xs ys:T0 V} {us ws:T0 Vl} {b:Bool},sR f ds es=Fa b->qk X.K H ds xs->qk X.K H es ys->qD xs us->qD ys ws->
  (∀x y b vx vy u w,f x y=Fa b->rO X.K H x vx->rO X.K H y vy->qN vx u->qN vy w->SeqAt.EqAt A s u w b)->
  ∃e:Nat->Bool,(∀j (h1:j<us.length) (h2:j<ws.length),SeqAt.EqAt A s us[j] ws[j] (e j))/\(List.range (min us.length ws.length)).all e=b
 | [],es,xs,ys,us,ws,b,q,hx,hy,rx,ry,k=>by
  have e1:=hx.nil_inv;subst e1;cases rx;refine⟨λ_=>pc,λj h1=>absurd h1 (by simp),?_⟩;have q':Fa pc=Fa b:=by cases es<;>exact q
  simpa using(dA q')
 | d::ds,[],xs,ys,us,ws,b,q,hx,hy,rx,ry,k=>by
  have e1:=hy.nil_inv;subst e1;cases ry;refine⟨λ_=>pc,λj _ h2=>absurd h2 (by simp),?_⟩;have q':Fa pc=Fa b:=q
  simpa using(dA q')
 | d::ds,e::es,xs,ys,us,ws,b,q,hx,hy,rx,ry,k=>by
  obtain⟨x,r,rfl,h1,h2⟩:=hx.inv;obtain⟨y,r',rfl,g1,g2⟩:=hy.inv;cases rx with
  | cons r1 r2=>
   cases ry with
   | cons t1 t2=>
    unfold sR at q;cases p1:f d e with
    | none=>rw[p1]at q;cases q
    | some b1=>
     rw[p1]at q;cases p2:sR f ds es with
     | none=>rw[p2]at q;cases q
     | some b2=>
      rw[p2]at q;have q':(b1&&b2)=b:=dA q;obtain⟨e',he,ha⟩:=CM p2 h2 g2 r2 t2 k;refine⟨λj=>match j with|0=>b1|j+1=>e' j,λj l1 l2=>?_,?_⟩
      .cases j with
       | zero=>exact k _ _ _ _ _ _ _ p1 h1 g1 r1 t1
       | succ j=>exact he j (by simpa using l1) (by simpa using l2)
      .rw[<-q',<-ha];simp only[eC];rw[Nat.succ_min_succ,List.range_succ_eq_map,fC,mB];rfl
theorem EM(I:Inv X Xa Y H s)(hm:HM X.K H M):∀(n:Nat) (A:Ar) (x y:D) (b:Bool) (vx vy:V) (u w:Vl),A.units+n<Y'->yA M n x y=Fa b->rO X.K H x vx->rO X.K H y vy->qN vx u->qN vy w->
  SeqAt.RcAt A s u w b/\SeqAt.EqAt A s u w b/\SeqAt.RcNeAt A s u w (!b)
 | 0,_,_,_,_,_,_,_,_,_,e,_,_,_,_=>by cases e
 | n+1,A,x,y,b,vx,vy,u,w,hu,e,hx,hy,rx,ry=>by
  have hu1:A.units<Y':=by omega
  have hui:A.in1.units+n<Y':=by show A.units+1+n<Y';omega
  unfold yA at e;split at e
  .cases hx.mM;cases hy.mM;cases rx;cases ry;cases e;exact⟨.none_none,.same _,.none_none⟩
  .cases hx.mO;cases hy.mO;cases rx;cases ry;cases e;exact⟨.bool_bool _ _,.bool_bool _ _,.bool_bool _ _⟩
  .cases hx.int_inv;cases hy.int_inv;obtain⟨t,rfl⟩:=rx;obtain⟨t',rfl⟩:=ry;cases e;exact⟨.int_int _ _ _ _,.int_int _ _ _ _,.int_int _ _ _ _⟩
  .cases hx.str_inv;cases hy.str_inv;obtain⟨t,rfl⟩:=rx;obtain⟨t',rfl⟩:=ry;cases e;exact⟨.str_str _ _ _ _,.str_str _ _ _ _,.str_str _ _ _ _⟩
  .cases hx.mM;cases hy.mO;cases rx;cases ry;cases e;exact⟨.none_bool _,.none_bool _,.none_bool _⟩
  .cases hx.mM;cases hy.int_inv;cases rx;obtain⟨t',rfl⟩:=ry;cases e;exact⟨.none_int _ _,.none_int _ _,.none_int _ _⟩
  .cases hx.mM;cases hy.str_inv;cases rx;obtain⟨t',rfl⟩:=ry;cases e;exact⟨.none_str _ _,.none_str _ _,.none_str _ _⟩
  .cases hx.mO;cases hy.mM;cases rx;cases ry;cases e;exact⟨.bool_none _,.bool_none _,.bool_none _⟩
  .cases hx.mO;cases hy.str_inv;cases rx;obtain⟨t',rfl⟩:=ry;cases e;exact⟨.bool_str _ _ _,.bool_str _ _ _,.bool_str _ _ _⟩
  .cases hx.int_inv;cases hy.mM;obtain⟨t,rfl⟩:=rx;cases ry;cases e;exact⟨.int_none _ _,.int_none _ _,.int_none _ _⟩
  .cases hx.int_inv;cases hy.str_inv;obtain⟨t,rfl⟩:=rx;obtain⟨t',rfl⟩:=ry;cases e;exact⟨.int_str _ _ _ _,.int_str _ _ _ _,.int_str _ _ _ _⟩
  .cases hx.str_inv;cases hy.mM;obtain⟨t,rfl⟩:=rx;cases ry;cases e;exact⟨.str_none _ _,.str_none _ _,.str_none _ _⟩
  .cases hx.str_inv;cases hy.mO;obtain⟨t,rfl⟩:=rx;cases ry;cases e;exact⟨.str_bool _ _ _,.str_bool _ _ _,.str_bool _ _ _⟩
  .cases hx.str_inv;cases hy.int_inv;obtain⟨t,rfl⟩:=rx;obtain⟨t',rfl⟩:=ry;cases e;exact⟨.str_int _ _ _ _,.str_int _ _ _ _,.str_int _ _ _ _⟩
  .rename_i da db;obtain⟨a1,xs,rfl,h1,h2⟩:=hx.mQ;obtain⟨a2,ys,rfl,g1,g2⟩:=hy.mQ;cases rx;cases ry;obtain⟨us,r1,p1,_⟩:=I.tuple h1;obtain⟨ws,r2,p2,_⟩:=I.tuple g1;cases p:sR (yA M n) da db with
   | none=>rw[p]at e;cases e
   | some b1=>
    have e0:=e;rw[p]at e;have e':(b1&&da.length==db.length)=b:=dA e;obtain⟨f,hf,ha⟩:=CM (A:=A.in1) (s:=s) p h2 g2 r1 r2 λx y b vx vy u w q1 q2 q3 q4 q5=>(EM I hm n A.in1 x y b vx vy u w hui q1 q2 q3 q4 q5).2.1;have hb:((List.range (min us.toArray.size ws.toArray.size)).all f&&us.toArray.size==ws.toArray.size)=b:=by rw[dD,dD,ha,<-e',<-r1.length,<-r2.length,h2.length,g2.length]
    have hf':∀j (l1:j<us.toArray.size) (l2:j<ws.toArray.size),SeqAt.EqAt A.in1 s us.toArray[j] ws.toArray[j] (f j):=λj l1 l2=>by simpa using hf j (by simpa using l1) (by simpa using l2)
    have c1:SeqAt.RcAt A s (.ref a1) (.ref a2) b:=by rw[<-hb];exact .tuples p1 p2 hu1 hf'
    have c3:SeqAt.RcNeAt A s (.ref a1) (.ref a2) (!b):=by have:=SeqAt.RcNeAt.tuples p1 p2 hu1 hf';rw[hb]at this;exact this
    refine⟨c1,?_,c3⟩;by_cases ea:a1=a2
    .subst ea;have:b=pc:=zM I hm (n+1) (.tup da) (.tup db) (.ref a1) b hx hy (by unfold yA;exact e0);rw[this];exact .same _
    .exact .of_refs ea c1
  .cases hx.mK;cases hy.mK;cases rx;cases ry;rename_i a1 a2;have e0:=e;cases p:oj M a1 with
   | none=>rw[p]at e;cases e
   | some i=>
    cases p':oj M a2 with
    | none=>rw[p,p']at e;cases e
    | some j=>
     rw[p,p']at e;have e:(if i.length=j.length then sR (yA M n) i j else Fa Uf)=Fa b:=e;obtain⟨xs,q1,h2,_⟩:=qz hm p;obtain⟨ys,q2,g2,_⟩:=qz hm p';obtain⟨us,r1,p1,_⟩:=I.list q1;obtain⟨ws,r2,p2,_⟩:=I.list q2;have Xe:SeqAt.RcAt A s (.ref a1) (.ref a2) b/\SeqAt.RcNeAt A s (.ref a1) (.ref a2) (!b):=by
      by_cases hl:i.length=j.length
      .rw[dz hl]at e;obtain⟨f,hf,ha⟩:=CM (A:=A.in1) (s:=s) e h2 g2 r1 r2 λx y b vx vy u w q1 q2 q3 q4 q5=>(EM I hm n A.in1 x y b vx vy u w hui q1 q2 q3 q4 q5).2.1;have hsz:us.toArray.size=ws.toArray.size:=by rw[dD,dD,<-r1.length,<-r2.length,<-h2.length,<-g2.length];exact hl
       have hf':∀j (l1:j<us.toArray.size) (l2:j<ws.toArray.size),SeqAt.EqAt A.in1 s us.toArray[j] ws.toArray[j] (f j):=λj l1 l2=>by simpa using hf j (by simpa using l1) (by simpa using l2)
       have hb:(List.range us.toArray.size).all f=b:=by rw[<-ha];rw[dD,dD]at hsz;rw[dD,<-hsz,Nat.min_self]
       rw[<-hb];exact⟨.lists p1.isList p2.isList hsz hu1 hf',.lists p1.isList p2.isList hsz hu1 hf'⟩
      .rw[dh hl]at e;cases e;have hsz:(us.toArray.size != ws.toArray.size)=pc:=by
        rw[dD,dD,<-r1.length,<-r2.length,<-h2.length,<-g2.length]
        simpa using hl
       exact⟨.lists_lengths p1.isList p2.isList hsz hu1,.lists_lengths p1.isList p2.isList hsz hu1⟩
     refine⟨Xe.1,?_,Xe.2⟩;by_cases ea:a1=a2
     .subst ea;have:b=pc:=zM I hm (n+1) (.ref a1) (.ref a1) (.ref a1) b .ref .ref (by unfold yA;exact e0);rw[this];exact .same _
     .exact .of_refs ea Xe.1
  .cases e
noncomputable def va:D->Bool
 | .mP=>pc
 | .bl _=>pc
 | .int _=>pc
 | .str _=>pc
 | _=>Uf
noncomputable def OM:D->D->Bool
 | .mP,.mP=>pc
 | .bl a,.bl b=>a==b
 | .bl a,.int b=>(if a then 1 else 0)==b
 | .int a,.bl b=>a==(if b then 1 else 0)
 | .int a,.int b=>a==b
 | .str a,.str b=>a==b
 | _,_=>Uf
noncomputable def inD(x:D)(ds:T0 D):Bool:=ds.any λy=>OM y x
noncomputable def Ln(M:Mp):D->Option (T0 D)
 | .tup ds=>Fa ds
 | .ref a=>oj M a
 | .rl ds=>Fa ds
 | _=>Db
noncomputable def C8(i j:Str):Bool:=!(Builtin.Str.occurrences j i 0 j.length 1).isEmpty
def S8(YN:Bool)(x y:D)(M:Mp)(Q:DK):Prop:=match x,y with
 | .str i,.str j=>Q (.bl (if YN then !C8 i j else C8 i j)) M
 | _,_=>(Ln M y).elim False λds=>va x=pc/\ds.all va=pc/\Q (.bl (if YN then !inD x ds else inD x ds)) M
def OH(op:CmpOp)(x y:D)(M:Mp)(Q:DK):Prop:=match op with
 | .Eq=>(yA M 9 x y).elim False λb=>Q (.bl b) M
 | .NotEq=>(yA M 9 x y).elim False λb=>Q (.bl (!b)) M
 | .Lt=>match x,y with|.int i,.int j=>Q (.bl (decide (i<j))) M|_,_=>False
 | .LtE=>match x,y with|.int i,.int j=>Q (.bl (decide (i<=j))) M|_,_=>False
 | .Gt=>match x,y with|.int i,.int j=>Q (.bl (decide (j<i))) M|_,_=>False
 | .GtE=>match x,y with|.int i,.int j=>Q (.bl (decide (j<=i))) M|_,_=>False
 | .Is=>match y with|.mP=>Q (.bl (match x with|.mP=>pc|_=>Uf)) M|_=>False
 | .IsNot=>match y with|.mP=>Q (.bl (match x with|.mP=>Uf|_=>pc)) M|_=>False
 | .In=>S8 Uf x y M Q
 | .NotIn=>S8 pc x y M Q
def k3(op:CmpOp)(ta tb:T3):T3:=λU M Q=>ta U M λx M1=>tb U M1 λy M2=>OH op x y M2 Q
def zq(h:rO K H d v)(f:va d=pc):yB v=pc:=by
 cases d with
 | mP=>rw[h.mM];rfl
 | bl _=>rw[h.mO];rfl
 | int _=>rw[h.int_inv];rfl
 | str _=>rw[h.str_inv];rfl
 | _=>cases f
def Jz(h:rO K H d v)(g:rO K H e w)(f:va d=pc)(f':va e=pc):Oi v w=OM d e:=by
 cases d with
 | mP=>
  rw[h.mM];cases e with
  | mP=>rw[g.mM];rfl
  | bl _=>rw[g.mO];rfl
  | int _=>rw[g.int_inv];rfl
  | str _=>rw[g.str_inv];rfl
  | _=>cases f'
 | bl _=>
  rw[h.mO];cases e with
  | mP=>rw[g.mM];rfl
  | bl _=>rw[g.mO];rfl
  | int _=>rw[g.int_inv];rfl
  | str _=>rw[g.str_inv];rfl
  | _=>cases f'
 | int _=>
  rw[h.int_inv];cases e with
  | mP=>rw[g.mM];rfl
  | bl _=>rw[g.mO];rfl
  | int _=>rw[g.int_inv];rfl
  | str _=>rw[g.str_inv];rfl
  | _=>cases f'
 | str _=>
  rw[h.str_inv];cases e with
  | mP=>rw[g.mM];rfl
  | bl _=>rw[g.mO];rfl
  | int _=>rw[g.int_inv];rfl
  | str _=>rw[g.str_inv];rfl
  | _=>cases f'
 | _=>cases f
theorem E7:∀{ds:T0 D} {xs:T0 V},qk K H ds xs->ds.all va=pc->xs.all yB=pc
 | [],_,h,_=>by rw[h.nil_inv];rfl
 | d::ds,_,h,f=>by obtain⟨x,r,rfl,h1,h2⟩:=h.inv;rw[fC,eh]at f ⊢;exact⟨zq h1 f.1,E7 h2 f.2⟩
theorem Nl(g:rO K H e w)(f':va e=pc):∀{ds:T0 D} {xs:T0 V},qk K H ds xs->ds.all va=pc->inV w xs=inD e ds
 | [],_,h,_=>by rw[h.nil_inv];rfl
 | d::ds,_,h,f=>by obtain⟨x,r,rfl,h1,h2⟩:=h.inv;rw[fC,eh]at f;show(Oi x w||inV w r)=(OM d e||inD e ds);rw[Jz h1 g f.1 f',Nl g f' h2 f.2]
def FP(hm:HM K H M){y:D}{v:V}{ds:T0 D}(h:rO K H y v)(q:Ln M y=Fa ds):∃p xs,v=.ref p/\(za K H p xs\/uS K H p xs)/\qk K H ds xs:=by
 cases y with
 | tup es=>cases q;obtain⟨a,xs,rfl,h1,h2⟩:=h.mQ;exact⟨a,xs,Z',.inr h1,h2⟩
 | ref a=>cases h.mK;obtain⟨xs,h1,h2,_⟩:=qz hm q;exact⟨a,xs,Z',.inl h1,h2⟩
 | rl es=>cases q;obtain⟨a,xs,rfl,h1,h2⟩:=h.m8;exact⟨a,xs,Z',.inl h1.sq,h2⟩
 | _=>cases q
variable {c:No}{tc:T3}
section
def J0(op:CmpOp)(hu:X.A.units+9<Y'):ya X (Ps op) (R3 X.K (OH op)):=by
 intro Xa s Y H vx vy v u Q' I rx ry h;obtain⟨x,y,M,Q,hx,hy,hm,q,k⟩:=h;have bk:∀b,Q (.bl b) M->EP X Xa Y Q' (.bool b) s:=λb q=>⟨.bl b,H,I,Z',k _ _ _ _ .bl hm .refl q⟩;have inn:∀YN:Bool,((Ln M y).elim False λds=>va x=pc/\ds.all va=pc/\Q (.bl (if YN then !inD x ds else inD x ds)) M)->VV X.K YN vx vy H Q':=λYN q=>by obtain⟨ds,e,f1,f2,q⟩:=qV q;obtain⟨p,xs,rfl,h1,h2⟩:=FP hm hy e;refine⟨p,xs,Z',h1,zq hx f1,E7 h2 f2,?_⟩;rw[Nl hx f1 h2 f2];exact k _ _ _ _ .bl hm .refl q
 cases op with
 | Eq=>obtain⟨b,e,q⟩:=qV q;exact(EM I hm 9 X.A x y b vx vy v u hu e hx hy rx ry).1 _ _ _ _ (bk b q)
 | NotEq=>obtain⟨b,e,q⟩:=qV q;exact(EM I hm 9 X.A x y b vx vy v u hu e hx hy rx ry).2.2 _ _ _ _ (bk _ q)
 | Lt=>
  cases x<;>first|exact q.elim|skip
  cases y<;>first|exact q.elim|skip
  cases hx.int_inv;cases hy.int_inv;exact Ua Xa s Y H _ _ v u Q' I rx ry ⟨_,_,Z',Z',k _ _ _ _ .bl hm .refl q⟩
 | LtE=>
  cases x<;>first|exact q.elim|skip
  cases y<;>first|exact q.elim|skip
  cases hx.int_inv;cases hy.int_inv;exact TZ Xa s Y H _ _ v u Q' I rx ry ⟨_,_,Z',Z',k _ _ _ _ .bl hm .refl q⟩
 | Gt=>
  cases x<;>first|exact q.elim|skip
  cases y<;>first|exact q.elim|skip
  cases hx.int_inv;cases hy.int_inv;exact UB Xa s Y H _ _ v u Q' I rx ry ⟨_,_,Z',Z',k _ _ _ _ .bl hm .refl q⟩
 | GtE=>
  cases x<;>first|exact q.elim|skip
  cases y<;>first|exact q.elim|skip
  cases hx.int_inv;cases hy.int_inv;exact Uv Xa s Y H _ _ v u Q' I rx ry ⟨_,_,Z',Z',k _ _ _ _ .bl hm .refl q⟩
 | Is=>
  cases y<;>first|exact q.elim|skip
  cases hy.mM;refine SD Xa s Y H _ _ v u Q' I rx ry ⟨Z',k _ _ _ _ ?_ hm .refl q⟩;cases x with
  | mP=>rw[hx.mM];exact .bl
  | bl _=>rw[hx.mO];exact .bl
  | int _=>rw[hx.int_inv];exact .bl
  | str _=>rw[hx.str_inv];exact .bl
  | tup _=>obtain⟨a,xs,rfl,_⟩:=hx.mQ;exact .bl
  | ref _=>rw[hx.mK];exact .bl
  | ty _=>rw[hx.nS];exact .bl
  | rl _=>obtain⟨a,xs,rfl,_⟩:=hx.m8;exact .bl
 | IsNot=>
  cases y<;>first|exact q.elim|skip
  cases hy.mM;refine QC Xa s Y H _ _ v u Q' I rx ry ⟨Z',k _ _ _ _ ?_ hm .refl q⟩;cases x with
  | mP=>rw[hx.mM];exact .bl
  | bl _=>rw[hx.mO];exact .bl
  | int _=>rw[hx.int_inv];exact .bl
  | str _=>rw[hx.str_inv];exact .bl
  | tup _=>obtain⟨a,xs,rfl,_⟩:=hx.mQ;exact .bl
  | ref _=>rw[hx.mK];exact .bl
  | ty _=>rw[hx.nS];exact .bl
  | rl _=>obtain⟨a,xs,rfl,_⟩:=hx.m8;exact .bl
 | In=>
  have q:S8 Uf x y M Q:=q;unfold S8 at q;split at q
  .cases hx.str_inv;cases hy.str_inv;exact KY Xa s Y H _ _ v u Q' I rx ry ⟨_,_,Z',Z',k _ _ _ _ .bl hm .refl q⟩
  .exact KR Xa s Y H _ _ v u Q' I rx ry (inn Uf q)
 | NotIn=>
  have q:S8 pc x y M Q:=q;unfold S8 at q;split at q
  .cases hx.str_inv;cases hy.str_inv;exact Fx Xa s Y H _ _ v u Q' I rx ry ⟨_,_,Z',Z',k _ _ _ _ .bl hm .refl q⟩
  .exact FI Xa s Y H _ _ v u Q' I rx ry (inn pc q)
variable {a b:No}
def qm{op:CmpOp}(hu:X.A.units+9<Y')(ha:E3 X a ta)(hb:E3 X b tb)(hm:AT op b=Uf:=by first|exact Iu _|with_unfolding_all rfl):E3 X (.Compare a [op] [b] pos) (k3 op ta tb):=PE.mono (Jt (J0 op hu) ha hb hm) Ia
def b3(t:T3):AD:=λU M Q=>t U M λd M1=>match d with|.bl c=>Q c M1|_=>False
def um(h:E3 X e t)(he:∀XI,isTrue e X.env XI=(do let v<-XI;XXc e.pos;sB [v] (truthy v)):=by intro _;rfl):B3 X e (b3 t):=PT.mono (Tf h he) λY H Q' zz=>x7 zz λU M Q hs hm ht k=>
 ⟨U,M,_,hs,hm,ht,λv H1 d M1 hd Xc e1 q1=>by
  cases d with
  | bl c=>exact⟨c,hd.mO,k c H1 M1 Xc e1 q1⟩
  | _=>exact q1.elim⟩
def pH{op:CmpOp}(hu:X.A.units+9<Y')(ha:E3 X a ta)(hb:E3 X b tb)(hm:AT op b=Uf:=by first|exact Iu _|with_unfolding_all rfl):B3 X (.Compare a [op] [b] pos) (b3 (k3 op ta tb)):=PT.mono (IP (J0 op hu) ha hb hm) λY H Q' zz=>x7 zz λU M Q hs hm ht k=>
 Ia Y H _ ⟨U,M,_,hs,hm,ht,λv H1 d M1 hd Xc e1 q1=>by
  cases d with
  | bl c=>exact⟨c,hd.mO,k c H1 M1 Xc e1 q1⟩
  | _=>exact q1.elim⟩
end
variable {tA tB:AD}{rest:T0 No}
section
variable {a b:No}
def O7(t u:AD):AD:=λU M Q=>t U M λc M1=>if c=pc then u U M1 Q else Q Uf M1
def W5(t u:AD):AD:=λU M Q=>t U M λc M1=>if c=pc then Q pc M1 else u U M1 Q
def Ut(t:AD):AD:=λU M Q=>t U M λc M1=>Q (!c) M1
def W3(X:Cx)(e:No)(t:AD):Prop:=PW X e (Tv X.K t)
def PW.mono{t t':TT}(h:PW X e t)(m:∀Y H Q,t' Y H Q->t Y H Q):PW X e t':=λwh Xa s Y H Q I q=>h wh Xa s Y H Q I (m Y H Q q)
def W3.b3(h:W3 X e t):B3 X e t:=PW.pt h
def wZ(h:B3 X a tA):W3 X (.BoolOp .And [a] pos) tA:=Po h
def wg(h:B3 X a tA):W3 X (.BoolOp .Or [a] pos) tA:=Rk h
def xP(ha:B3 X a tA)(hb:W3 X (.BoolOp .And (b::rest) pos) tB):W3 X (.BoolOp .And (a::b::rest) pos) (O7 tA tB):=PW.mono (Rz ha hb) λY H Q' zz=>x7 zz λU M Q hs hm ht k=>
 ⟨U,M,_,hs,hm,ht,λc H1 M1 Xc e1 q1=>by
  cases c with
  | true=>exact(dz Z').mpr ⟨U,M1,Q,hs.mono e1,Xc,(dz Z').mp q1,λb H' M' x1 x2 x3=>k b H' M' x1 (e1.trans x2) x3⟩
  | false=>exact(dh dE).mpr (k Uf H1 M1 Xc e1 ((dh dE).mp q1))⟩
def xp(ha:B3 X a tA)(hb:W3 X (.BoolOp .Or (b::rest) pos) tB):W3 X (.BoolOp .Or (a::b::rest) pos) (W5 tA tB):=PW.mono (Uu ha hb) λY H Q' zz=>x7 zz λU M Q hs hm ht k=>
 ⟨U,M,_,hs,hm,ht,λc H1 M1 Xc e1 q1=>by
  cases c with
  | true=>exact(dz Z').mpr (k pc H1 M1 Xc e1 ((dz Z').mp q1))
  | false=>exact(dh dE).mpr ⟨U,M1,Q,hs.mono e1,Xc,(dh dE).mp q1,λb H' M' x1 x2 x3=>k b H' M' x1 (e1.trans x2) x3⟩⟩
def vt(ha:B3 X a tA):B3 X (.UnaryOp .Not a pos) (Ut tA):=PT.mono (RP ha) λY H Q' zz=>x7 zz λU M Q hs hm ht k=>⟨U,M,_,hs,hm,ht,λc H1 M1 Xc e1 q1=>k _ H1 M1 Xc e1 q1⟩
def Uy(ta tb:T3):T3:=λU M Q=>ta U M λd M1=>match d with|.bl c=>if c=pc then tb U M1 Q else Q (.bl Uf) M1|_=>False
def VF(ta tb:T3):T3:=λU M Q=>ta U M λd M1=>match d with|.bl c=>if c=pc then Q (.bl pc) M1 else tb U M1 Q|_=>False
def Uz(ta:T3):T3:=λU M Q=>ta U M λd M1=>match d with|.bl c=>Q (.bl (!c)) M1|_=>False
def sV{op}(h:E3 X a ta):E3 X (.BoolOp op [a] pos) ta:=Rt h
def tH(ha:E3 X a ta)(hb:E3 X (.BoolOp .And (b::rest) pos) tb):E3 X (.BoolOp .And (a::b::rest) pos) (Uy ta tb):=PE.mono (Sl ha hb) λY H Q' zz=>x7 zz λU M Q hs hm ht k=>
 ⟨U,M,_,hs,hm,ht,λv H1 d M1 hd Xc e1 q1=>by
  cases d with
  | bl c=>
   refine⟨c,hd.mO,?_⟩;cases c with
   | true=>exact(dz Z').mpr ⟨U,M1,Q,hs.mono e1,Xc,(dz Z').mp q1,vO e1 k⟩
   | false=>exact(dh dE).mpr (k _ H1 _ M1 .bl Xc e1 ((dh dE).mp q1))
  | _=>exact q1.elim⟩
def JU(ha:E3 X a ta)(hb:E3 X (.BoolOp .Or (b::rest) pos) tb):E3 X (.BoolOp .Or (a::b::rest) pos) (VF ta tb):=PE.mono (Ue ha hb) λY H Q' zz=>x7 zz λU M Q hs hm ht k=>
 ⟨U,M,_,hs,hm,ht,λv H1 d M1 hd Xc e1 q1=>by
  cases d with
  | bl c=>
   refine⟨c,hd.mO,?_⟩;cases c with
   | true=>exact(dz Z').mpr (k _ H1 _ M1 .bl Xc e1 ((dz Z').mp q1))
   | false=>exact(dh dE).mpr ⟨U,M1,Q,hs.mono e1,Xc,(dh dE).mp q1,vO e1 k⟩
  | _=>exact q1.elim⟩
def Rj(ha:E3 X a ta):E3 X (.UnaryOp .Not a pos) (Uz ta):=PE.mono (SR ha) λY H Q' zz=>x7 zz λU M Q hs hm ht k=>
 ⟨U,M,_,hs,hm,ht,λv H1 d M1 hd Xc e1 q1=>by
  cases d with
  | bl c=>exact⟨c,hd.mO,k _ H1 _ M1 .bl Xc e1 q1⟩
  | _=>exact q1.elim⟩
def WX(t:AD)(ta tb:T3):T3:=λU M Q=>t U M λc M1=>if c=pc then ta U M1 Q else tb U M1 Q
def Q3(hc:B3 X c tA)(ha:E3 X a ta)(hb:E3 X b tb):E3 X (.IfExp c a b pos) (WX tA ta tb):=PE.mono (Nb hc ha hb) λY H Q' zz=>x7 zz λU M Q hs hm ht k=>
 ⟨U,M,_,hs,hm,ht,λc H1 M1 Xc e1 q1=>by
  cases c with
  | true=>exact(dz Z').mpr ⟨U,M1,Q,hs.mono e1,Xc,(dz Z').mp q1,vO e1 k⟩
  | false=>exact(dh dE).mpr ⟨U,M1,Q,hs.mono e1,Xc,(dh dE).mp q1,vO e1 k⟩⟩
def Wf(x y:D)(M:Mp)(Q:DK):Prop:=match x,y with
 | .tup ds,.int i=>(vM ds i).elim False λd=>Q d M
 | .ref a,.int i=>(oj M a).elim False λds=>(vM ds i).elim False λd=>Q d M
 | .rl ds,.int i=>(vM ds i).elim False λd=>Q d M
 | .str z,.int i=>z.length<=pi/\(vM z.cps.toList i).elim False λc=>Q (.str ⟨#[c]⟩) M
 | _,_=>False
def i3(ta tb:T3):T3:=λU M Q=>ta U M λx M1=>tb U M1 λy M2=>Wf x y M2 Q
def FH{K:qo}{d:D}(h:qk K H ds xs)(e:vM ds i=Fa d):∃v,vM xs i=Fa v/\rO K H d v:=by
 unfold vM at e ⊢;rw[<-h.length];cases q:G9 ds.length i with
 | none=>rw[q]at e;cases e
 | some j=>rw[q]at e;exact h.get e
def W0:Ts X (R3 X.K Wf):=by
 intro value Xl Xa s Y H vx vy v u Q' I rx ry h hs;obtain⟨x,y,M,Q,hx,hy,hm,q,k⟩:=h;unfold Wf at q;split at q
 .obtain⟨d,e,q⟩:=qV q;obtain⟨p,xs,rfl,h1,h2⟩:=hx.mQ;cases hy.int_inv;obtain⟨w,e1,e2⟩:=FH h2 e;exact SA value Xl Xa s Y H _ _ v u Q' I rx ry ⟨p,xs,_,w,Z',Z',h1,e1,k _ _ _ _ e2 hm .refl q⟩ hs
 .obtain⟨ds,e0,q⟩:=qV q;obtain⟨d,e,q⟩:=qV q;cases hx.mK;cases hy.int_inv;obtain⟨xs,h1,h2,_⟩:=qz hm e0;obtain⟨w,e1,e2⟩:=FH h2 e;exact Jk value Xl Xa s Y H _ _ v u Q' I rx ry ⟨_,xs,_,w,Z',Z',h1,e1,k _ _ _ _ e2 hm .refl q⟩ hs
 .obtain⟨d,e,q⟩:=qV q;obtain⟨p,xs,rfl,h1,h2⟩:=hx.m8;cases hy.int_inv;obtain⟨w,e1,e2⟩:=FH h2 e;exact Jk value Xl Xa s Y H _ _ v u Q' I rx ry ⟨p,xs,_,w,Z',Z',h1.sq,e1,k _ _ _ _ e2 hm .refl q⟩ hs
 .obtain⟨q1,q⟩:=q;obtain⟨c,e,q⟩:=qV q;cases hx.str_inv;cases hy.int_inv;exact SC value Xl Xa s Y H _ _ v u Q' I rx ry ⟨_,_,c,Z',Z',q1,e,k _ _ _ _ .str hm .refl q⟩ hs
 .exact q.elim
def pJ(ha:E3 X a ta)(hb:E3 X b tb)(hs:Br b:=by exact λ_ _=>rfl):E3 X (.Subscript a b pos) (i3 ta tb):=PE.mono (Mw W0 ha hb hs) Ia
noncomputable def uH(ds:T0 D)(lo hi:Option Int):T0 D:=(ds.drop (HT.tz ds.length 0 lo)).take (HT.tz ds.length ds.length hi - HT.tz ds.length 0 lo)
def Ey{K:qo}(q:qk K H ds xs):qk K H (uH ds l h) (B9 xs l h):=by unfold uH B9;rw[q.length];exact(q.drop _).take _
abbrev Tp:=vq->Mp->(Option Int->Mp->Prop)->Prop
def W2(K:qo)(t:Tp):TO:=λY H Q'=>C9 λU M Q=>zQ K H Y U/\HM K H M/\t U M Q/\∀o H' M',HM K H' M'->qS K H H'->Q o M'->Q' o H'
def O3(X:Cx)(e:Option No)(t:Tp):Prop:=PO X e (W2 X.K t)
def P3:Tp:=λ_ M Q=>Q Db M
def T4(t:T3):Tp:=λU M Q=>t U M λd M1=>match d with|.int i=>Q (Fa i) M1|_=>False
def PO.mono{t t':TO}(h:PO X e t)(m:∀Y H Q,t' Y H Q->t Y H Q):PO X e t':=λXa s Y H Q I q=>h Xa s Y H Q I (m Y H Q q)
def sT:O3 X Db P3:=PO.mono Px λY H Q' zz=>x7 zz λU M Q hs hm ht k=>k Db H M hm .refl ht
def sU(h:E3 X e t):O3 X (Fa e) (T4 t):=PO.mono (PY h) λY H Q' zz=>x7 zz λU M Q hs hm ht k=>
 ⟨U,M,_,hs,hm,ht,λv H1 d M1 hd Xc e1 q1=>by
  cases d with
  | int i=>exact⟨i,hd.int_inv,k (Fa i) H1 M1 Xc e1 q1⟩
  | _=>exact q1.elim⟩
def WN(x:D)(lo hi:Option Int)(M:Mp)(Q:DK):Prop:=match x with
 | .tup ds=>Q (.tup (uH ds lo hi)) M
 | .ref a=>(oj M a).elim False λds=>∀p,M p=Db->Q (.ref p) (pE M p (.lst (uH ds lo hi)))
 | .rl ds=>∀p,M p=Db->Q (.ref p) (pE M p (.lst (uH ds lo hi)))
 | _=>False
def s3(te:T3)(tl th:Tp):T3:=λU M Q=>te U M λx M1=>tl U M1 λl M2=>th U M2 λu M3=>WN x l u M3 Q
def Wj(K:qo):V->Option Int->Option Int->Hp->VK->Prop:=λvx l u H Q'=>C9 λx M Q=>rO K H x vx/\HM K H M/\WN x l u M Q/\Up K H Q' Q
def QE{ds:T0 D}{lo hi:Option Int}(h:HT.tz ds.length 0 lo=0/\HT.tz ds.length ds.length hi=ds.length):uH ds lo hi=ds:=by unfold uH;rw[h.1,h.2,ko,k9,e9]
def V7:TQ X (Wj X.K):=by
 intro Xa s Y H vx v vl vu l u sl Q' I rx ZA pl pu h;obtain⟨x,M,Q,hx,hm,q,k⟩:=h;cases x with
 | tup ds=>
  have q2:Q (.tup (uH ds l u)) M:=q;obtain⟨a,xs,rfl,h1,h2⟩:=hx.mQ;by_cases q1:HT.tz ds.length 0 l=0/\HT.tz ds.length ds.length u=ds.length
  .rw[QE q1]at q2;exact R8 Xa s Y H _ v vl vu l u sl Q' I rx ZA pl pu ⟨a,xs,Z',h1,by rw[<-h2.length];exact q1,k _ _ _ _ hx hm .refl q2⟩
  refine R6 Xa s Y H _ v vl vu l u sl Q' I rx ZA pl pu ⟨a,xs,Z',h1,by rw[<-h2.length];exact q1,λp hp=>?_⟩;have e:qS X.K H (upd H p (.tup (B9 xs l u))):=.new hp;exact k _ _ _ _ (.tup (.of qc) ((Ey h2).mono e)) (hm.add hp) e q2
 | ref a=>obtain⟨ds,e0,q⟩:=qV q;cases hx.mK;obtain⟨xs,h1,h2,_⟩:=qz hm e0;refine IS Xa s Y H _ v vl vu l u sl Q' I rx ZA pl pu ⟨a,xs,Z',h1,λp hp=>?_⟩;have e:qS X.K H (upd H p (.lst (B9 xs l u))):=.new hp;exact k _ _ _ _ .ref (hm.new (c:=.lst (uH ds l u)) hp ⟨_,qc,(Ey h2).mono e⟩) e (q p (hm.fresh hp))
 | rl ds=>obtain⟨a,xs,rfl,h1,h2⟩:=hx.m8;refine IS Xa s Y H _ v vl vu l u sl Q' I rx ZA pl pu ⟨a,xs,Z',h1.sq,λp hp=>?_⟩;have e:qS X.K H (upd H p (.lst (B9 xs l u))):=.new hp;exact k _ _ _ _ .ref (hm.new (c:=.lst (uH ds l u)) hp ⟨_,qc,(Ey h2).mono e⟩) e (q p (hm.fresh hp))
 | _=>exact q.elim
def rW{lo hi:Option No}{p2:Pos}(he:E3 X e te)(hl:O3 X lo tl)(hu:O3 X hi th):E3 X (.Subscript e (.Slice lo hi Db p2) pos) (s3 te tl th):=PE.mono (NY V7 he hl hu) λY H Q' zz=>x7 zz λU M Q hs hm ht k=>⟨U,M,_,hs,hm,ht,λv H1 x M1 hx Xc e1 q1=>⟨U,M1,_,hs.mono e1,Xc,q1,λl H2 M2 Xs e2 q2=>⟨U,M2,_,hs.mono (e1.trans e2),Xs,q2,λu H3 M3 Yb e3 q3=>⟨x,M3,Q,hx.mono (e2.trans e3),Yb,q3,vO (e1.trans (e2.trans e3)) k⟩⟩⟩⟩
def xV:xt:=λ_ M Q=>Q [] M
def vB(ta:T3)(tr:xt):xt:=λU M Q=>ta U M λx M1=>tr U M1 λxs M2=>Q (x::xs) M2
def r6:A3 X [] xV:=PA.mono RM λY H Q' zz=>x7 zz λU M Q hs hm ht k=>k [] H [] M .nil hm .refl ht
def pX(ha:E3 X e te)(hr:A3 X es t)(hs:A6 X e es:=by rfl):A3 X (e::es) (vB te t):=PA.mono (OX ha hr hs) λY H Q' zz=>x7 zz λU M Q hs hm ht k=>⟨U,M,_,hs,hm,ht,λv H1 x M1 hx Xc e1 q1=>⟨U,M1,_,hs.mono e1,Xc,q1,λvs H2 xs M2 hxs Xs e2 q2=>k _ H2 _ M2 (.cons (hx.mono e2) hxs) Xs (e1.trans e2) q2⟩⟩
def VB(t:xt):T3:=λU M Q=>t U M λds M1=>ds.length<=pi/\Q (.tup ds) M1
def T6(t:xt):T3:=λU M Q=>t U M λds M1=>ds.length<=pi/\∀p,M1 p=Db->Q (.ref p) (pE M1 p (.lst ds))
def pN{x1}(h:A3 X es t):E3 X (.Tuple es x1 pos) (VB t):=PE.mono (Rl h) λY H Q' zz=>x7 zz λU M Q hs hm ht k=>
 ⟨U,M,_,hs,hm,ht,λvs H1 ds M1 Yt Xc e1 q1=>⟨by rw[<-Yt.length];exact q1.1,λp hp=>by
  have e:qS X.K H1 (upd H1 p (.tup vs)):=.new hp;exact k _ _ _ M1 (.tup (.of qc) (Yt.mono e)) (Xc.add hp) (e1.trans e) q1.2⟩⟩
def qQ(h:A3 X es t):E3 X (.List es pos) (T6 t):=PE.mono (RB h) λY H Q' zz=>x7 zz λU M Q hs hm ht k=>
 ⟨U,M,_,hs,hm,ht,λvs H1 ds M1 Yt Xc e1 q1=>⟨by rw[<-Yt.length];exact q1.1,λp hp=>by
  have e:qS X.K H1 (upd H1 p (.lst vs)):=.new hp;exact k _ _ _ _ .ref (Xc.new (c:=.lst ds) hp ⟨_,qc,Yt.mono e⟩) (e1.trans e) (q1.2 p (Xc.fresh hp))⟩⟩
def uk(t u:xy):xy:=λD U M=>t {D with nx:=u D} U M
def VU:xy:=λD U M=>D.nx U M
def pK:He X [] VU:=B'.mono OD λD' Y H zz=>K6 zz λU M D hs hm ht k1 k2 k3 k4=>k1 Y H U M hs hm .refl Z' ht
def pj{st:ZB}{rest:T0 ZB}(h1:S3 X st t)(h2:He X rest u):He X (st::rest) (uk t u):=B'.mono (Mz h1 h2) λD' Y H zz=>K6 zz λU M D hs hm ht k1 k2 k3 k4=>
 ⟨U,M,{D with nx:=u D},hs,hm,ht,λσ1 H1 δ1 M1 hs1 Xc e1 l1 q1=>⟨δ1,M1,D,hs1,Xc,q1,λσ' H' δ' M' x1 x2 x3 x4 x5=>k1 σ' H' δ' M' x1 x2 (e1.trans x3) (x4.trans l1) x5,λv H' d M' x1 x2 x3 x4=>k2 v H' d M' x1 x2 (e1.trans x3) x4,λσ' H' δ' M' x1 x2 x3 x4 x5=>k3 σ' H' δ' M' x1 x2 (e1.trans x3) (x4.trans l1) x5,λσ' H' δ' M' x1 x2 x3 x4 x5=>k4 σ' H' δ' M' x1 x2 (e1.trans x3) (x4.trans l1) x5⟩,k2,k3,k4⟩
noncomputable def pk{st:ZB}(h1:S3 X st t):He X [st] t:=B'.mono (IJ h1) λD' Y H h=>h
def TM(te:T3):xy:=λD U M=>te U M λ_ M1=>D.nx U M1
def pM(he:E3 X e te)(YG:TD e Db pos.line X.env=pure Uf:=by rfl):S3 X (.Expr e pos) (TM te):=PS.mono (Qh he YG) λD' Y H zz=>K6 zz λU M D hs hm ht k1 k2 k3 k4=>⟨U,M,_,hs,hm,ht,λv H1 d M1 hd Xc e1 q1=>k1 Y H1 U M1 (hs.mono e1) Xc e1 Z' q1⟩
def SG(te:T3):xy:=λD U M=>te U M D.rt
def pC(he:E3 X e te):S3 X (.Return (Fa e) pos) (SG te):=PS.mono (S4 he) λD' Y H zz=>K6 zz λU M D hs hm ht k1 k2 k3 k4=>⟨U,M,_,hs,hm,ht,λv H1 d M1 hd Xc e1 q1=>k2 v H1 d M1 hd Xc e1 q1⟩
def R0(c:AD)(t u:xy):xy:=λD U M=>c U M λb M1=>if b=pc then t D U M1 else u D U M1
def pP{tc:AD}(hc:B3 X c tc)(ha:He X as t)(hb:He X bs u):S3 X (.If c as bs pos) (R0 tc t u):=PS.mono (US hc ha hb) λD' Y H zz=>K6 zz λU M D hs hm ht k1 k2 k3 k4=>
 ⟨U,M,_,hs,hm,ht,λb H1 M1 Xc e1 q1=>by
  have up:∀t:xy,t D U M1->Vf X.K t D' Y H1:=λt q=>⟨U,M1,D,hs.mono e1,Xc,q,λσ' H' δ' M' x1 x2 x3 x4 x5=>k1 σ' H' δ' M' x1 x2 (e1.trans x3) x4 x5,λv H' d M' x1 x2 x3 x4=>k2 v H' d M' x1 x2 (e1.trans x3) x4,λσ' H' δ' M' x1 x2 x3 x4 x5=>k3 σ' H' δ' M' x1 x2 (e1.trans x3) x4 x5,λσ' H' δ' M' x1 x2 x3 x4 x5=>k4 σ' H' δ' M' x1 x2 (e1.trans x3) x4 x5⟩
  cases b with
  | true=>exact(dz Z').mpr (up t ((dz Z').mp q1))
  | false=>exact(dh dE).mpr (up u ((dh dE).mp q1))⟩
def Ta:xy:=λ_ _ _=>False
def FX{st:ZB}:S3 X st Ta:=PS.mono L0 λD' Y H ⟨U,M,D,hs,hm,ht,_⟩=>ht
abbrev D6:=D->vq->Mp->(vq->Mp->Prop)->Prop
def Vg(K:qo)(g:D6):TG:=λv Y H Q'=>Af λd U M Q=>rO K H d v/\zQ K H Y U/\HM K H M/\g d U M Q/\∀σ' H' δ' M',zQ K H' σ' δ'->HM K H' M'->qS K H H'->σ'.length=Y.length->Q δ' M'->Q' σ' H'
def G3(X:Cx)(e:No)(g:D6):Prop:=PG X e (Vg X.K g)
def PG.nO{t t':TG}(h:PG X e t)(m:∀v Y H Q,Y.length=X.N.length->t' v Y H Q->t v Y H Q):PG X e t':=λXa s Y H v u Q I r q=>h Xa s Y H v u Q I r (m v Y H Q I.len q)
def sf(i:Nat):D6:=λd U M Q=>Q (U.set i (Fa d)) M
def IU{i:Nat}{x:Str}(hN:X.N.Nodup)(hi:X.N[i]?=Fa x)(hx:K9 X.env.scope x)(hf:K' X x:=by first|exact .inl Z'|exact .inr Z'|assumption):G3 X (.Name x pos) (sf i):=
 PG.nO (QI hN hi hx hf) λv Y H Q' hl ⟨d,U,M,Q,hd,hs,hm,ht,k⟩=>k _ H _ M (hs.set hd (by rw[hl];exact(de.mp hi).1)) hm .refl (by simp) ht
abbrev GL:=T0 D->vq->Mp->(vq->Mp->Prop)->Prop
def V9(K:qo)(g:GL):QN:=λvs Y H Q'=>Af λds U M Q=>qk K H ds vs/\zQ K H Y U/\HM K H M/\g ds U M Q/\∀σ' H' δ' M',zQ K H' σ' δ'->HM K H' M'->qS K H H'->σ'.length=Y.length->Q δ' M'->Q' σ' H'
def Vn(X:Cx)(es:T0 No)(g:GL):Prop:=Oh X es (V9 X.K g)
def Oh.mono{t t':QN}(h:Oh X e t)(m:∀v Y H Q,t' v Y H Q->t v Y H Q):Oh X e t':=λXa s Y H v u Q I r q=>h Xa s Y H v u Q I r (m v Y H Q q)
def PG.mono{t t':TG}(h:PG X e t)(m:∀v Y H Q,t' v Y H Q->t v Y H Q):PG X e t':=λXa s Y H v u Q I r q=>h Xa s Y H v u Q I r (m v Y H Q q)
def Gx:GL:=λds U M Q=>match ds with|[]=>Q U M|_=>False
def Ag(t:D6)(u:GL):GL:=λds U M Q=>match ds with|d::r=>t d U M λδ' M'=>u r δ' M' Q|[]=>False
def ub:Vn X [] Gx:=Oh.mono PC λvs Y H Q' ⟨ds,U,M,Q,hd,hs,hm,ht,k⟩=>by
 cases ds with
 | nil=>exact⟨hd.nil_inv,k Y H U M hs hm .refl Z' ht⟩
 | cons _ _=>exact ht.elim
def qE(h1:G3 X e t)(h2:Vn X es u)(hs:(wP (e::es) X.env).map (·.2)=assign e X.env::(wP es X.env).map (·.2):=by rfl):Vn X (e::es) (Ag t u):=
 Oh.mono (Nc h1 h2 hs) λvs Y H Q' ⟨ds,U,M,Q,hd,hs,hm,ht,k⟩=>by
 cases ds with
 | nil=>exact ht.elim
 | cons d r=>obtain⟨x,xr,rfl,hx,hr⟩:=hd.inv;exact⟨x,xr,Z',d,U,M,_,hx,hs,hm,ht,λσ1 H1 δ1 M1 hs1 Xc e1 l1 q1=>⟨r,δ1,M1,Q,hr.mono e1,hs1,Xc,q1,λσ' H' δ' M' x1 x2 x3 x4 x5=>k σ' H' δ' M' x1 x2 (e1.trans x3) (x4.trans l1) x5⟩⟩
def Q4(n:Nat)(t:GL):D6:=λd U M Q=>match d with|.tup ds=>ds.length=n/\t ds U M Q|_=>False
def uX{n:Nat}(hc:X.calm=pc)(h:Vn X es t)(hn:(wP es X.env).length=n:=by rfl)(Xw:(wP es X.env).findIdx? (·.1)=Db:=by rfl):G3 X (.Tuple es k pos) (Q4 n t):=
 PG.mono (Sv hc h hn Xw) λv Y H Q' ⟨d,U,M,Q,hd,hs,hm,ht,k⟩=>by
 cases d with
 | tup ds=>obtain⟨a,xs,rfl,h1,h2⟩:=hd.mQ;exact⟨a,xs,Z',h1,by rw[<-h2.length];exact ht.1,ds,U,M,Q,h2,hs,hm,ht.2,k⟩
 | _=>exact ht.elim
def F6(te:T3)(g:D6):xy:=λD U M=>te U M λx M1=>g x U M1 D.nx
def Rw(he:E3 X e te)(hg:G3 X tg g)(hs:swapsWithSole [tg] e pos.line X.env=pure Uf:=by rfl)(hw:swappedStores [tg] e X.env=pure Db:=by rfl)
  (h1:(wP [tg] X.env).map (·.2)=[assign tg X.env]:=by rfl):S3 X (.Assign [tg] e pos) (F6 te g):=PS.mono (SE he hg hs hw h1) λD' Y H zz=>K6 zz λU M D hs hm ht k1 k2 k3 k4=>
 ⟨U,M,_,hs,hm,ht,λv H1 d M1 hd Xc e1 q1=>⟨d,U,M1,_,hd,hs.mono e1,Xc,q1,λσ' H' δ' M' x1 x2 x3 x4 x5=>k1 σ' H' δ' M' x1 x2 (e1.trans x3) x4 x5⟩⟩
def Sx{i:Nat}{x:Str}(hN:X.N.Nodup)(hi:X.N[i]?=Fa x)(hx:K9 X.env.scope x)(he:E3 X e te)(YG:TD e (Fa (.Name x Xj)) pos.line X.env=pure Uf:=by rfl)
  (hf:K' X x:=by first|exact .inl Z'|exact .inr Z'|assumption):S3 X (.Assign [.Name x Xj] e pos) (F6 te (sf i)):=PS.nO (SO hN hi hx he YG hf) λD' Y H hl zz=>K6 zz λU M D hs hm ht k1 k2 k3 k4=>
 ⟨U,M,_,hs,hm,ht,λv H1 d M1 hd Xc e1 q1=>k1 _ H1 _ M1 ((hs.mono e1).set hd (by rw[hl];exact(de.mp hi).1)) Xc e1 (by simp) q1⟩
end
abbrev rk:=T0 D->Mp->DK->Prop
def Ol(K:qo)(sp:rk):Sp:=λvs H Q' _=>C9 λds M Q=>qk K H ds vs/\HM K H M/\sp ds M Q/\Up K H Q' Q
noncomputable def xf(N:QQQ)(ds:T0 D):vq:=ds.map Fa++List.replicate (N.length - ds.length) Db
def DS{K:qo}(h:qk K H ds vs):zQ K H (L2.yw N vs) (xf N ds):=λi d q=>by
 unfold xf at q;unfold L2.yw;by_cases hi:i<ds.length
 .rw[fk (by simpa using hi),dG]at q;cases e:ds[i]? with
  | none=>rw[e]at q;cases q
  | some d'=>rw[e]at q;cases q;obtain⟨v,e1,e2⟩:=h.get e;refine⟨v,?_,e2⟩;rw[fk (by rw[cZ,<-h.length];exact hi),dG,e1];rfl
 .rw[fi (by simpa using hi),jW]at q;split at q<;>cases q
variable {P:Pg}{w:Wo}{mg:QQZ}{base:wp}
abbrev Tr(P:Pg)(w:Wo)(K:qo)(mg:QQZ)(base:wp)(k:Nat)(f:Ch)(fd:At)(ps:QQQ)(sp:rk):Prop:=xx P w K mg base On k f fd ps (Ol K sp)
variable {k:Nat}{f C:Ch}{fd:At}{ps:QQQ}{sp:rk}{x m fn:Str}{p Xd:Pos}{e o:No}{es:T0 No}{t:xt}
def Dw(sp:rk)(t:xt):T3:=λU M Q=>t U M λds M1=>sp ds M1 Q
def Qd(F:Tr X.prog X.w X.K X.mg X.base k f fd ps sp)(hr:rY k X.A)(hg:Gl X x)(hm:X.mg x=Fa (.ref f))(hk:W.keepIn X.K (.ref f)=pc)(hb:uT X.K fd ps [])(ha:A3 X (e::es) t) (Xt:zb x:=by decide) (he:A6 X e es:=by rfl) (Xp:BJ X pos es:=by rfl):
  E3 X (.Call (.Name x p) (e::es) [] pos) (Dw sp t):=PE.mono (Qv F hr hg hm hk hb .nil (F0 (X:=X)) ha Xt he Xp) λY H Q' zz=>x7 zz λU M Q hs hm ht k=>
 ⟨U,M,_,hs,hm,ht,λvs H1 ds M1 hd Xc e1 q1=>⟨ds,M1,Q,by rw[eE];exact hd,Xc,q1,vO e1 k⟩⟩
def C3(X:Cx)(f:Vl)(r:rk):Prop:=zm X f λvs H Q'=>∃ds M Q,qk X.K H ds vs/\HM X.K H M/\r ds M Q/\Up X.K H Q' Q
def pR{id:String}(hc:C3 X (.builtin id) r)(hg:Gl X x)(hm:X.mg x=Db)(hv:Go x=Fa (.builtin id))(ha:A3 X (e::es) t)(hn:x≠"__name__":=by decide)(Xt:zb x:=by decide)
  (he:A6 X e es:=by rfl) (Xp:BJ X pos es:=by rfl):E3 X (.Call (.Name x p) (e::es) [] pos) (Dw r t):=
 PE.mono (LV hc hg hm hv ha hn Xt he Xp) λY H Q' zz=>x7 zz λU M Q hs hm ht k=>⟨U,M,_,hs,hm,ht,λvs H1 ds M1 hd Xc e1 q1=>⟨ds,M1,Q,hd,Xc,q1,vO e1 k⟩⟩
def qg{T:String}(hc:C3 X (.type T) r)(hg:Gl X x)(hm:X.mg x=Db)(hv:Go x=Fa (.type T))(ha:A3 X (e::es) t)(hn:x≠"__name__":=by decide)(Xt:zb x:=by decide)
  (he:A6 X e es:=by rfl) (Xp:BJ X pos es:=by rfl):E3 X (.Call (.Name x p) (e::es) [] pos) (Dw r t):=
 PE.mono (KG hc hg hm hv ha hn Xt he Xp) λY H Q' zz=>x7 zz λU M Q hs hm ht k=>⟨U,M,_,hs,hm,ht,λvs H1 ds M1 hd Xc e1 q1=>⟨ds,M1,Q,hd,Xc,q1,vO e1 k⟩⟩
def Ux(ds:T0 D)(M:Mp)(Q:DK):Prop:=match ds with
 | [.str z]=>z.length<=pi/\Q (.int z.length) M
 | [.tup es]=>Q (.int es.length) M
 | [.ref a]=>(oj M a).elim False λes=>Q (.int es.length) M
 | [.rl es]=>Q (.int es.length) M
 | _=>False
def rP{K:qo}{d:D}(h:qk K H [d] vs):∃v,vs=[v]/\rO K H d v:=by obtain⟨x,r,rfl,a,b⟩:=h.inv;rw[b.nil_inv];exact⟨x,Z',a⟩
def Bk{K:qo}{d e:D}(h:qk K H [d,e] vs):∃v u,vs=[v,u]/\rO K H d v/\rO K H e u:=by obtain⟨x,r,rfl,a,b⟩:=h.inv;obtain⟨y,rfl,c⟩:=rP b;exact⟨x,y,Z',a,c⟩
def qw:C3 X (.builtin "len") Ux:=by
 intro Xa s Y H vs us Q' I rv h;obtain⟨ds,M,Q,hd,hm,q,k⟩:=h;unfold Ux at q;split at q
 .obtain⟨v,rfl,hv⟩:=rP hd;cases hv.str_inv;exact Fb Xa s Y H _ us Q' I rv ⟨_,Z',q.1,k _ _ _ _ .int hm .refl q.2⟩
 .obtain⟨v,rfl,hv⟩:=rP hd;obtain⟨a,xs,rfl,h1,h2⟩:=hv.mQ;exact wX Xa s Y H _ us Q' I rv ⟨a,xs,Z',.inr h1,k _ _ _ _ (by rw[<-h2.length];exact .int) hm .refl q⟩
 .obtain⟨v,rfl,hv⟩:=rP hd;obtain⟨es,e0,q⟩:=qV q;cases hv.mK;obtain⟨xs,h1,h2,_⟩:=qz hm e0;exact wX Xa s Y H _ us Q' I rv ⟨_,xs,Z',.inl h1,k _ _ _ _ (by rw[<-h2.length];exact .int) hm .refl q⟩
 .obtain⟨v,rfl,hv⟩:=rP hd;obtain⟨a,xs,rfl,h1,h2⟩:=hv.m8;exact wX Xa s Y H _ us Q' I rv ⟨a,xs,Z',.inl h1.sq,k _ _ _ _ (by rw[<-h2.length];exact .int) hm .refl q⟩
 .exact q.elim
def TL(ds:T0 D)(M:Mp)(Q:DK):Prop:=match ds with
 | [.int i,.int j]=>Q (.int (if j<i then j else i)) M
 | _=>False
def ME(hc:X.calm=pc):C3 X (.builtin "min") TL:=by
 intro Xa s Y H vs us Q' I rv h;obtain⟨ds,M,Q,hd,hm,q,k⟩:=h;unfold TL at q;split at q
 .obtain⟨v,u,rfl,hv,hw⟩:=Bk hd;cases hv.int_inv;cases hw.int_inv;exact Kx hc Xa s Y H _ us Q' I rv ⟨_,_,Z',k _ _ _ _ .int hm .refl q⟩
 .exact q.elim
def Mr(ds:T0 D)(M:Mp)(Q:DK):Prop:=match ds with
 | [.tup es]=>Q (.tup es) M
 | [.ref a]=>(oj M a).elim False λes=>Q (.tup es) M
 | [.rl es]=>Q (.tup es) M
 | _=>False
def uF:C3 X (.type "tuple") Mr:=by
 intro Xa s Y H vs us Q' I rv h;obtain⟨ds,M,Q,hd,hm,q,k⟩:=h;unfold Mr at q;split at q
 .obtain⟨v,rfl,hv⟩:=rP hd;obtain⟨a,xs,rfl,h1,h2⟩:=id hv.mQ;exact wq Xa s Y H _ us Q' I rv ⟨a,xs,Z',.inr ⟨h1,k _ _ _ _ hv hm .refl q⟩⟩
 .obtain⟨v,rfl,hv⟩:=rP hd;obtain⟨es,e0,q⟩:=qV q;cases hv.mK;obtain⟨xs,h1,h2,_⟩:=qz hm e0;refine wq Xa s Y H _ us Q' I rv ⟨_,xs,Z',.inl ⟨h1,λl hl=>?_⟩⟩;have e:qS X.K H (upd H l (.tup xs)):=.new hl;exact k _ _ _ _ (.tup (.of qc) (h2.mono e)) (hm.add hl) e q
 .obtain⟨v,rfl,hv⟩:=rP hd;obtain⟨a,xs,rfl,h1,h2⟩:=hv.m8;refine wq Xa s Y H _ us Q' I rv ⟨_,xs,Z',.inl ⟨h1.sq,λl hl=>?_⟩⟩;have e:qS X.K H (upd H l (.tup xs)):=.new hl;exact k _ _ _ _ (.tup (.of qc) (h2.mono e)) (hm.add hl) e q
 .exact q.elim
def Q6(ds:T0 D)(M:Mp)(Q:DK):Prop:=match ds with
 | [d]=>(Ln M d).elim False λes=>∀p,M p=Db->Q (.ref p) (pE M p (.lst es))
 | _=>False
def sv:C3 X (.type "list") Q6:=by
 intro Xa s Y H vs us Q' I rv h;obtain⟨ds,M,Q,hd,hm,q,k⟩:=h;unfold Q6 at q;split at q
 .obtain⟨v,rfl,hv⟩:=rP hd;obtain⟨es,e0,q⟩:=qV q;obtain⟨p,xs,rfl,h1,h2⟩:=FP hm hv e0;refine Fh Xa s Y H _ us Q' I rv ⟨p,xs,Z',h1,λl hl=>?_⟩;have e:qS X.K H (upd H l (.lst xs)):=.new hl;exact k _ _ _ _ .ref (hm.new (c:=.lst es) hl ⟨_,qc,h2.mono e⟩) e (q l (hm.fresh hl))
 .exact q.elim
theorem wQ{K:qo}{f:Str}:∀{fs:T0 (Str×D)} {vs:T0 (Str×V)},Cu K H fs vs->(∀d,fs.lookup f=Fa d->∃v,vs.lookup f=Fa v/\rO K H d v)/\(fs.lookup f=Db->vs.lookup f=Db)
 | [],[],_=>⟨λd e=>by simp at e,λ_=>rfl⟩
 | [],_::_,h=>by have:=h.1;simp at this
 | _::_,[],h=>by have:=h.1;simp at this
 | (g,d)::fs,(g',v)::vs,h=>by
  have h1:g'=g/\vs.map (·.1)=fs.map (·.1):=by
   have:=h.1
   simpa using this
  obtain⟨x,r,e,a,b⟩:=h.2.inv;have e':v::vs.map (·.2)=x::r:=e;cases e';obtain⟨i1,i2⟩:=wQ (f:=f) (fs:=fs) (vs:=vs) ⟨h1.2,b⟩;rw[h1.1];refine⟨λd' e=>?_,λe=>?_⟩
  .rw[eS]at e ⊢;cases q:f==g with
   | true=>rw[q]at e;cases e;exact⟨v,Z',a⟩
   | false=>rw[q]at e;exact i1 d' e
  .rw[eS]at e ⊢;cases q:f==g with
   | true=>rw[q]at e;cases e
   | false=>rw[q]at e;exact i2 e
theorem Ju{f:Str}{d:D}:∀{fs:T0 (Str×D)},fs.lookup f=Fa d->f∈fs.map (·.1)
 | [],h=>by simp at h
 | (g,e)::r,h=>by
  rw[eS]at h;cases q:f==g with
  | true=>
   have z:f=g:=by simpa using q
   rw[z,d9];exact dP
  | false=>rw[q]at h;simp[Ju h]
def zo(o:Option uY)(F:Ch->T0 (Str×D)->Prop):Prop:=match o with
 | some (.ins C fs)=>F C fs
 | _=>False
def pq{o:Option uY}{F:Ch->T0 (Str×D)->Prop}{C:Ch}{fs:T0 (Str×D)}(e:o=Fa (.ins C fs))(h:F C fs):zo o F:=by rw[e];exact h
def xC{o:Option uY}(h:zo o F):∃C fs,o=Fa (.ins C fs)/\F C fs:=by
 unfold zo at h;split at h
 .exact⟨_,_,Z',h⟩
 .exact h.elim
def VZ(f:Str)(ta:T3):T3:=λU M Q=>ta U M λx M1=>match x with
 | .ref a=>zo (M1 a) λ_ fs=>(fs.lookup f).elim False λd=>Q d M1
 | _=>False
def pF{f:Str}(he:E3 X o ta)(hb:xz o f X.env (Op o X.env)=Op o X.env:=by rfl):E3 X (.Attribute o f pos) (VZ f ta):=PE.mono (S7 he hb) λY H Q' zz=>x7 zz λU M Q hs hm ht k=>
 ⟨U,M,_,hs,hm,ht,λv H1 d M1 hd Xc e1 q1=>by
  cases d with
  | ref a=>cases hd.mK;obtain⟨C,fs,e,q1⟩:=xC q1;obtain⟨d,e2,q⟩:=qV q1;obtain⟨dx,vs,h1,cl,na,fo⟩:=Xc a _ e;obtain⟨v,e3,hv⟩:=(wQ fo).1 d e2;exact⟨a,C,dx,vs,v,Z',h1,cl,na f (Ju e2),e3,k v H1 d M1 hv Xc e1 q⟩
  | _=>exact q1.elim⟩
noncomputable def wc(f:Str)(v:D):T0 (Str×D)->T0 (Str×D)
 | []=>[(f,v)]
 | (g,u)::r=>if g=f then(g,v)::r else(g,u)::wc f v r
theorem ET{K:qo}{f:Str}(hv:rO K H d v):∀{fs:T0 (Str×D)} {vs:T0 (Str×V)},Cu K H fs vs->Cu K H (wc f d fs) (vJ f v vs)
 | [],[],_=>⟨Z',.cons hv .nil⟩
 | [],_::_,h=>by have:=h.1;simp at this
 | _::_,[],h=>by have:=h.1;simp at this
 | (g,e)::fs,(g',u)::vs,h=>by
  have h1:g'=g/\vs.map (·.1)=fs.map (·.1):=by
   have:=h.1
   simpa using this
  obtain⟨x,r,e1,a,b⟩:=h.2.inv;have e':u::vs.map (·.2)=x::r:=e1;cases e';obtain⟨hg,ht⟩:=h1;subst hg;rw[show wc f d ((g',e)::fs)=(if g'=f then(g',d)::fs else(g',e)::wc f d fs)from Z',show vJ f v ((g',u)::vs)=(if g'=f then(g',v)::vs else(g',u)::vJ f v vs)from Z'];by_cases q:g'=f
  .rw[dz q,dz q];exact⟨by simpa using ht,.cons hv b⟩
  .rw[dh q,dh q];obtain⟨i1,i2⟩:=ET hv (fs:=fs) (vs:=vs) ⟨ht,b⟩;exact⟨by simpa using i1,.cons a i2⟩
theorem BA{f:Str}:∀{fs:T0 (Str×D)} {g:Str},g∈(wc f d fs).map (·.1)->g=f\/g∈fs.map (·.1)
 | [],g,h=>.inl (by simpa [wc]using h)
 | (k,e)::r,g,h=>by
  rw[show wc f d ((k,e)::r)=(if k=f then(k,d)::r else(k,e)::wc f d r)from Z']at h;by_cases q:k=f
  .rw[dz q]at h;exact .inr (by simpa using h)
  .rw[dh q]at h;rw[d9,dw]at h;rcases h with h|h
   .exact .inr (by simp[h])
   .rcases BA h with z|z
    .exact .inl z
    .exact .inr (by simp;right;simpa using z)
def Uo(K:qo)(f:Str)(ta tv:T3):xy:=λD U M=>tv U M λy M1=>ta U M1 λx M2=>match x with
 | .ref a=>zo (M2 a) λC fs=>ue K C f/\fs.length<1000/\D.nx U (pE M2 a (.ins C (wc f y fs)))
 | _=>False
def pZ{f:Str}(ha:E3 X o ta)(hv:E3 X value tv)(YG:TD value (Fa (.Attribute o f Xj)) pos.line X.env=pure Uf:=by rfl):S3 X (.Assign [.Attribute o f Xj] value pos) (Uo X.K f ta tv):=
 PS.mono (Se ha hv YG) λD' Y H zz=>K6 zz λU M D hs hm ht k1 k2 k3 k4=>
 ⟨U,M,_,hs,hm,ht,λy H1 dy M1 hy Xc e1 q1=>⟨U,M1,_,hs.mono e1,Xc,q1,λv H2 d M2 hd Xs e2 q2=>by
  cases d with
  | ref a=>
   cases hd.mK;obtain⟨C,fs,e,q2⟩:=xC q2;obtain⟨na,hl,q⟩:=q2;obtain⟨dx,vs,h1,cl,nn,fo⟩:=Xs a _ e;have Xg:vs.length=fs.length:=by have:=eZ List.length fo.1;simpa using this
   refine⟨a,C,dx,vs,Z',h1,cl,na,by omega,?_⟩;obtain⟨Yb,e3⟩:=Xs.put (p:=a) (o:=.ins C dx (vJ f y vs)) (c:=.ins C (wc f dy fs)) e λx=>⟨dx,_,qc,cl,λg hg=>by
    rcases BA hg with z|z
    .rw[z];exact na
    .exact nn g z,ET ((hy.mono e2).mono x) (fo.mono x)⟩
   exact k1 Y _ U _ (hs.mono (e1.trans (e2.trans e3))) Yb (e1.trans (e2.trans e3)) Z' q
  | _=>exact q2.elim⟩⟩
def Q2(C:Ch)(sp:rk)(t:xt):T3:=λU M Q=>t U M λds M1=>∀x,M1 x=Db->sp (.ref x::ds) (pE M1 x (.ins C [])) λd M2=>d=.mP/\Q (.ref x) M2
def Nz{K:qo}{xa dx:Ch}(hm:HM K H M)(cl:Cls K C)(h1:H xa=Db)(h2:H dx=Db)(ne:dx≠xa):HM K (upd (upd H dx (.own xa)) xa (.ins C dx [])) (pE M xa (.ins C []))/\qS K H (upd (upd H dx (.own xa)) xa (.ins C dx [])):=by
 have XW:upd H dx (.own xa) xa=Db:=by rw[pV (dW ne)];exact h1
 exact⟨(hm.add (p:=dx) (o:=.own xa) h2).new XW ⟨dx,[],qc,cl,λg hg=>by simp at hg,Z',.nil⟩,qS.trans (.new h2) (.new XW)⟩
def OC(cl:Cls X.K C)(Mk':Mk X.K C f)(F:Tr X.prog X.w X.K X.mg X.base k f fd ps sp)(hr:rY (k+1) X.A)(hg:Gl X x)(hm:X.mg x=Fa (.ref C))(hb:uT X.K fd ps [])(ha:A3 X (e::es) t) (Xt:zb x:=by decide) (he:A6 X e es:=by rfl) (Xp:BJ X pos es:=by rfl):
  E3 X (.Call (.Name x p) (e::es) [] pos) (Q2 C sp t):=PE.mono (QM Mk' F hr hg hm hb .nil (F0 (X:=X)) ha Xt he Xp) λY H Q' zz=>x7 zz λU M Q hs hm ht k=>
 ⟨U,M,_,hs,hm,ht,λvs H1 ds M1 hd Xc e1 q1=>λxa dx n1 n2 ne=>by
  obtain⟨Xs,e2⟩:=Nz Xc cl n1 n2 ne;refine⟨.ref xa::ds,_,_,?_,Xs,q1 xa (Xc.fresh n1),λv H3 d M3 hd3 Yb e3 q3=>?_⟩
  .rw[eE];exact .cons .ref (hd.mono e2)
  .obtain⟨z,q3⟩:=q3;subst z;exact⟨hd3.mM,k _ H3 _ M3 .ref Yb (e1.trans (e2.trans e3)) q3⟩⟩
def HS(m:Str)(R:Ch->Sp->Prop)(ta:TE)(t:TA):TE:=λY H Q=>ta Y H λx H1=>∃a C dx fs sp,x=.ref a/\H1 a=Fa (.ins C dx fs)/\fs.lookup m=Db/\R C sp/\t Y H1 λvs H2=>sp (x::vs) H2 Q E0
def xT(P:Pg)(w:Wo)(K:qo)(mg:QQZ)(base:wp)(k:Nat)(m:Str)(C:Ch)(sp:Sp):Prop:=Cls K C/\∃f fd ps,vH K C m f/\xx P w K mg base On k f fd ps sp/\uT K fd ps []
def Ma{R:Ch->Sp->Prop}{ta:TE}{t:TA}{pl:Sem Bool}(he:PE X o ta)(hR:∀C sp,R C sp->xT X.prog X.w X.K X.mg X.base k m C sp)(hr:rY k X.A)(ha:PA X (e::es) t) (Xw:A6 X e es:=by rfl) (Xp:BJ X pos es:=by rfl)
  (ht:Op (.Call (.Attribute o m Xd) (e::es) [] pos) X.env=(do
   let ov<-Op o X.env
   XXc Xd.atName
   let(f,first)<-sB [ov] (o0 ov m pl)
   XXg pos f first (Ix pos (zn (e::es) X.env)) (wE pos (Rs [] X.env))):=by rfl):
  PE X (.Call (.Attribute o m Xd) (e::es) [] pos) (HS m R ta t):=by
 intro Xa s Y H Q I h;refine j6 (pl:=pl) (sC (he Xa s Y H _ I h) λu s1 zz=>?_) ht;obtain⟨x,H1,I1,rx,a,C,dx,fs,sp,ex,ea,l,hRC,q⟩:=zz;obtain⟨c,f,fd,ps,hm,F,hb⟩:=hR C sp hRC;subst ex;obtain rfl:u=Value.ref a:=rx;refine CF I1 ea c hm l ?_;refine iR (first:=[.ref a]) (h₀:=X.base) I.ok.mod.oz hm.kp (sC (ha pos Xa s1 Y H1 _ I1 q) λus s2 zz=>x5 zz λvs H2 I2 r q2=>⟨I2.ni,?_⟩) Xw Xp;exact ED (us:=.ref a::us) (vs:=.ref a::vs) F hr hb .nil (F0 (X:=X)) I2 (.cons Z' r) (by rw[eE];exact q2)
def KS{R:Ch->Sp->Prop}{ta:TE}{pl:Sem Bool}(he:PE X o ta)(hR:∀C sp,R C sp->xT X.prog X.w X.K X.mg X.base k m C sp)(hr:rY k X.A) (ht:Op (.Call (.Attribute o m Xd) [] [] pos) X.env=(do
   let ov<-Op o X.env
   XXc Xd.atName
   let(f,first)<-sB [ov] (o0 ov m pl)
   XXg pos f first (Ix pos (zn [] X.env)) (wE pos (Rs [] X.env))):=by rfl):
  PE X (.Call (.Attribute o m Xd) [] [] pos) (HS m R ta UM):=by
 intro Xa s Y H Q I h;refine j6 (pl:=pl) (sC (he Xa s Y H _ I h) λu s1 zz=>?_) ht;obtain⟨x,H1,I1,rx,a,C,dx,fs,sp,ex,ea,l,hRC,q⟩:=zz;obtain⟨c,f,fd,ps,hm,F,hb⟩:=hR C sp hRC;subst ex;obtain rfl:u=Value.ref a:=rx;refine CF I1 ea c hm l ?_;exact W.callWith_K0 (first:=[.ref a]) I1.ni hm.kp (ED (us:=[.ref a]) (vs:=[.ref a]) F hr hb .nil (F0 (X:=X)) I1 (.cons Z' .nil) (by rw[eE];exact q))
def AB(m:Str)(R:Ch->rk->Prop)(ta:T3)(t:xt):T3:=λU M Q=>ta U M λx M1=>match x with
 | .ref a=>zo (M1 a) λC fs=>fs.lookup m=Db/\∃sp,R C sp/\t U M1 λds M2=>sp (x::ds) M2 Q
 | _=>False
def Vr(K:qo)(R:Ch->rk->Prop):Ch->Sp->Prop:=λC sp'=>∃sp,R C sp/\sp'=Ol K sp
def Jj:∀Y H Q',lo X.K (AB m R ta t) Y H Q'->HS m (Vr X.K R) (lo X.K ta) (WI X.K t) Y H Q':=λY H Q' zz=>x7 zz λU M Q hs hm ht k=>
 ⟨U,M,_,hs,hm,ht,λv H1 d M1 hd Xc e1 q1=>by
  cases d with
  | ref a=>cases hd.mK;obtain⟨C,fs,e,q1⟩:=xC q1;obtain⟨hn,sp,hR,q⟩:=q1;obtain⟨dx,vs,h1,cl,na,fo⟩:=Xc a _ e;exact⟨a,C,dx,vs,_,Z',h1,(wQ fo).2 hn,⟨sp,hR,Z'⟩,U,M1,_,hs.mono e1,Xc,q,λus H2 ds M2 Yt Xs e2 q2=>⟨.ref a::ds,M2,Q,.cons .ref Yt,Xs,q2,vO (e1.trans e2) k⟩⟩
  | _=>exact q1.elim⟩
def Fp{R:Ch->rk->Prop}{pl:Sem Bool}(he:E3 X o ta)(hR:∀C sp,R C sp->xT X.prog X.w X.K X.mg X.base k m C (Ol X.K sp))(hr:rY k X.A)(ha:A3 X (e::es) t) (Xw:A6 X e es:=by rfl) (Xp:BJ X pos es:=by rfl)
  (ht:Op (.Call (.Attribute o m Xd) (e::es) [] pos) X.env=(do
   let ov<-Op o X.env
   XXc Xd.atName
   let(f,first)<-sB [ov] (o0 ov m pl)
   XXg pos f first (Ix pos (zn (e::es) X.env)) (wE pos (Rs [] X.env))):=by rfl):
  E3 X (.Call (.Attribute o m Xd) (e::es) [] pos) (AB m R ta t):=PE.mono (Ma (R:=Vr X.K R) he (λC sp' ⟨sp,h,z⟩=>by rw[z];exact hR C sp h) hr ha Xw Xp ht) Jj
def xJ{R:Ch->rk->Prop}{pl:Sem Bool}(he:E3 X o ta)(hR:∀C sp,R C sp->xT X.prog X.w X.K X.mg X.base k m C (Ol X.K sp))(hr:rY k X.A) (ht:Op (.Call (.Attribute o m Xd) [] [] pos) X.env=(do
   let ov<-Op o X.env
   XXc Xd.atName
   let(f,first)<-sB [ov] (o0 ov m pl)
   XXg pos f first (Ix pos (zn [] X.env)) (wE pos (Rs [] X.env))):=by rfl):
  E3 X (.Call (.Attribute o m Xd) [] [] pos) (AB m R ta xV):=PE.mono (KS (R:=Vr X.K R) he (λC sp' ⟨sp,h,z⟩=>by rw[z];exact hR C sp h) hr ht) λY H Q' h=>by
 obtain⟨U,M,Q,hs,hm,ht,k⟩:=Jj (t:=xV) Y H Q' h;refine⟨U,M,Q,hs,hm,ht,λv H' d M' x1 x2 x3 x4=>?_⟩;obtain⟨a,C,dx,fs,sp,e1,e2,e3,e4,δ',Xf,Q'',y1,y2,y3,y4⟩:=k v H' d M' x1 x2 x3 x4;exact⟨a,C,dx,fs,sp,e1,e2,e3,e4,y4 [] H' [] Xf .nil y2 .refl y3⟩
structure E1(K:qo)(H1:Hp)(J:It)(ds:List D)(ok:Mp->Prop):Prop where
 go:∀i H M,i<ds.length->HM K H M->ok M->qS K H1 H->J.go i H
 oS:∀i d H M x H',ds[i]?=Fa d->HM K H M->ok M->qS K H1 H->J.oS i H x H'->rO K H' d x/\HM K H' M/\qS K H H'
 stop:∀H M,HM K H M->ok M->qS K H1 H->J.stop ds.length H
abbrev L4:=vq->Mp->(T0 D->(Mp->Prop)->Mp->Prop)->Prop
def WQ(K:qo)(wi:L4):TI:=λY H R'=>C9 λU M R=>zQ K H Y U/\HM K H M/\wi U M R/\∀J H1 ds ok M1,E1 K H1 J ds ok->HM K H1 M1->qS K H H1->ok M1->R ds ok M1->R' J H1
def I3(X:Cx)(tg iter:No)(wi:L4):Prop:=PI X tg iter (WQ X.K wi)
def PI.mono{t t':TI}(h:PI X tg e t)(m:∀Y H Q,t' Y H Q->t Y H Q):PI X tg e t':=λXa s Y H Q I q=>h Xa s Y H Q I (m Y H Q q)
variable {H1:Hp}
def Oa:E1 K H1 (Vp K a) ds (λM=>oj M a=Fa ds) where
 go:=λi H M hi hm ok _=>by obtain⟨xs,h1,h2,_⟩:=qz hm ok;obtain⟨x,e,_⟩:=h2.get (dg hi);exact⟨xs,x,h1,e⟩
 oS:=λi d H M x H' hd hm ok _ y=>by obtain⟨xs,h1,h2,_⟩:=qz hm ok;obtain⟨e,y⟩:=y;subst e;obtain⟨x',e,hx⟩:=h2.get hd;have:=y xs h1;rw[e]at this;cases this;exact⟨hx,hm,.refl⟩
 stop:=λH M hm ok _=>by obtain⟨xs,h1,h2,_⟩:=qz hm ok;exact⟨xs,h1,by rw[h2.length];exact dB _⟩
def Pk(h1:uS K H1 a xs)(h2:qk K H1 ds xs):E1 K H1 (Wp K a) ds (λ_=>True) where
 go:=λi H M hi hm ok e1=>by obtain⟨x,e,_⟩:=h2.get (dg hi);exact⟨xs,x,e1.t _ _ h1,e⟩
 oS:=λi d H M x H' hd hm ok e1 y=>by obtain⟨e,y⟩:=y;subst e;obtain⟨x',e,hx⟩:=h2.get hd;have:=y xs (e1.t _ _ h1);rw[e]at this;cases this;exact⟨hx.mono e1,hm,.refl⟩
 stop:=λH M hm ok e1=>⟨xs,e1.t _ _ h1,by rw[h2.length];exact dB _⟩
def SH(h1:Ph K H1 a xs)(h2:qk K H1 ds xs):E1 K H1 (Vp K a) ds (λ_=>True) where
 go:=λi H M hi hm ok e1=>by obtain⟨x,e,_⟩:=h2.get (dg hi);exact⟨xs,x,(h1.mono e1).sq,e⟩
 oS:=λi d H M x H' hd hm ok e1 y=>by obtain⟨e,y⟩:=y;subst e;obtain⟨x',e,hx⟩:=h2.get hd;have:=y xs (h1.mono e1).sq;rw[e]at this;cases this;exact⟨hx.mono e1,hm,.refl⟩
 stop:=λH M hm ok e1=>⟨xs,(h1.mono e1).sq,by rw[h2.length];exact dB _⟩
def DW{lo:Int}:E1 K H1 (UA lo n) ((List.range n).map λi=>D.int (lo+(i:Nat))) (λ_=>True) where
 go:=λi H M hi hm ok e1=>by
  have z:i<n:=by simpa using hi
  exact z
 oS:=λi d H M x H' hd hm ok e1 y=>by
  obtain⟨e,y⟩:=y;subst e;subst y;have hi:i<n:=by
   have:=(de.mp hd).1
   simpa using this
  have hd':d=D.int (lo+(i:Nat)):=by rw[dG,jb hi]at hd;exact(dA hd).symm
  subst hd';exact⟨.int,hm,.refl⟩
 stop:=λH M hm ok e1=>by show n<=_;simp
variable {scope:XXd}{ix:T0 (Option Nat)}{N':QQQ}{iter X7:No}{XM:T0 No}{wi:L4}{g:D6}{tt:AD}{te:T3}{tg:No}
def Uh(t:T3):L4:=λU M R=>t U M λx M1=>match x with
 | .tup ds=>R ds (λ_=>True) M1
 | .ref a=>(oj M1 a).elim False λds=>R ds (λM=>oj M a=Fa ds) M1
 | .rl ds=>R ds (λ_=>True) M1
 | .str z=>R (z.cps.toList.map λc=>D.str ⟨#[c]⟩) (λ_=>True) M1
 | _=>False
def Qk{K:qo}:E1 K H1 (Wu z) (z.cps.toList.map λc=>D.str ⟨#[c]⟩) (λ_=>True) where
 go:=λi H M hi hm ok _=>by
  show i<z.cps.size
  simpa using hi
 oS:=λi d H M x H' hd hm ok _ y=>by obtain⟨e,c,e1,e2⟩:=y;subst e e2;rw[dG,Array.getElem?_toList,e1]at hd;cases hd;exact⟨.str,hm,.refl⟩
 stop:=λH M hm ok _=>by show _=z.cps.size;simp
def qB{t:T3}(h:E3 X l t)(hc:X.calm=pc:=by rfl):I3 X tg l (Uh t):=PI.mono (Qs hc h) λY H R' zz=>x7 zz λU M R hs hm ht k=>
 ⟨U,M,_,hs,hm,ht,λv H1 d M1 hd Xc e1 q1=>by
  cases d with
  | tup ds=>obtain⟨a,xs,rfl,h1,h2⟩:=hd.mQ;exact .inl ⟨a,Z',.inr ⟨⟨xs,h1⟩,k _ H1 ds _ M1 (Pk h1 h2) Xc e1 trivial q1⟩⟩
  | ref a=>cases hd.mK;obtain⟨ds,e0,q⟩:=qV q1;obtain⟨xs,h1,h2,_⟩:=qz Xc e0;exact .inl ⟨a,Z',.inl ⟨⟨xs,h1⟩,k _ H1 ds _ M1 Oa Xc e1 e0 q⟩⟩
  | str z=>exact .inr ⟨z,hd.str_inv,k _ H1 _ _ M1 Qk Xc e1 trivial q1⟩
  | rl ds=>obtain⟨a,xs,rfl,h1,h2⟩:=hd.m8;exact .inl ⟨a,Z',.inl ⟨⟨xs,h1.sq⟩,k _ H1 ds _ M1 (SH h1 h2) Xc e1 trivial q1⟩⟩
  | _=>exact q1.elim⟩
def Rb(t:xt):L4:=λU M R=>t U M λds M1=>match ds with
 | [.int j]=>(-(2 ^ 62)<=j/\j<2 ^ 62)/\R ((List.range j.toNat).map λi=>D.int (0+(i:Nat))) (λ_=>True) M1
 | [.int i,.int j]=>(-(2 ^ 62)<=i/\i<2 ^ 62/\-(2 ^ 62)<=j/\j<2 ^ 62)/\R ((List.range (j - i).toNat).map λn=>D.int (i+(n:Nat))) (λ_=>True) M1
 | _=>False
def vm{a:No}{ta:xt}(hg:Gl X "range")(hm:X.mg "range"=Db)(ha:A3 X [a] ta)(hs:zn [a] X.env=[(Uf,Op a X.env)]:=by rfl):I3 X tg (.Call (.Name "range" p) [a] [] pos) (Rb λU M Q=>ta U M λds M1=>ds.length=1/\Q ds M1):=
 PI.mono (Ki hg hm ha hs) λY H R' zz=>x7 zz λU M R hs hm ht k=>⟨U,M,_,hs,hm,ht,λvs H1 ds M1 hd Xc e1 q1=>by
  obtain⟨hl,q1⟩:=q1;split at q1
  .obtain⟨v,rfl,hv⟩:=rP hd;cases hv.int_inv;exact⟨_,Z',q1.1.1,q1.1.2,k _ H1 _ _ M1 DW Xc e1 trivial q1.2⟩
  .simp at hl
  .exact q1.elim⟩
def J7{a b:No}{ta:xt}(hg:Gl X "range")(hm:X.mg "range"=Db)(ha:A3 X [a,b] ta)(hs:zn [a,b] X.env=[(Uf,Op a X.env),(Uf,Op b X.env)]:=by rfl)(X0:zn [b] X.env=[(Uf,Op b X.env)]:=by rfl):
  I3 X tg (.Call (.Name "range" p) [a,b] [] pos) (Rb λU M Q=>ta U M λds M1=>ds.length=2/\Q ds M1):=
 PI.mono (JX hg hm ha hs X0) λY H R' zz=>x7 zz λU M R hs hm ht k=>⟨U,M,_,hs,hm,ht,λvs H1 ds M1 hd Xc e1 q1=>by
  obtain⟨hl,q1⟩:=q1;split at q1
  .simp at hl
  .obtain⟨v,u,rfl,hv,hw⟩:=Bk hd;cases hv.int_inv;cases hw.int_inv;exact⟨_,_,Z',q1.1,k _ H1 _ _ M1 DW Xc e1 trivial q1.2⟩
  .exact q1.elim⟩
def Dl(g:D6)(tb:xy)(ok:Mp->Prop)(E:G2):T0 D->vq->Mp->Prop
 | [],U,M=>E.nx U M
 | d::r,U,M=>g d U M λδ2 M2=>tb {E with nx:=λδ' M'=>ok M'/\Dl g tb ok E r δ' M',ct:=λδ' M'=>ok M'/\Dl g tb ok E r δ' M',bk:=E.nx} δ2 M2
def VW(wi:L4)(g:D6)(tb:xy):xy:=λE U M=>wi U M λds ok M1=>Dl g tb ok E ds U M1
def sN{tb:xy}(hp:PassesOwn (Tl X.prog X.w) X.A X.env X.xe)(hc:X.calm=pc)(hi:I3 X tg iter wi)(hg:G3 X tg g)(hb:He X body tb) (hs:∀x,XV iter X.env x=pure x:=by intro _;rfl):S3 X (.For tg iter body [] pos) (VW wi g tb):=PS.mono (RK hp hc hi hg hb hs) λD' Y H zz=>K6 zz λU M E hs hm ht k1 k2 k3 k4=>
 ⟨U,M,_,hs,hm,ht,λJ H1 ds ok M1 S Xc e1 ok1 q1=>by
  refine⟨λi m σ' H'=>m=ds.length - i/\i<=ds.length/\∃δ' M',zQ X.K H' σ' δ'/\HM X.K H' M'/\ok M'/\qS X.K H1 H'/\σ'.length=Y.length/\Dl g tb ok E (ds.drop i) δ' M',⟨ds.length,by simp,eD _,U,M1,hs.mono e1,Xc,ok1,.refl,Z',by simpa using q1⟩,?_⟩
  rintro i m σ' H' ⟨rfl,hi,δ',M',YZ,YI,ok',e',l',q'⟩
  by_cases Xq:i<ds.length
  .rw[iw Xq]at q';refine .inr ⟨S.go i H' M' Xq YI ok' e',λσ2 H2=>∃δ2 M2,zQ X.K H2 σ2 δ2/\HM X.K H2 M2/\ok M2/\qS X.K H1 H2/\σ2.length=Y.length/\Dl g tb ok E (ds.drop (i+1)) δ2 M2,λσ2 H2 z=>⟨ds.length - (i+1),by omega,Z',Xq,z⟩,λx H2 y=>?_⟩;obtain⟨hx,Xs,e2⟩:=S.oS i ds[i] H' M' x H2 (dg Xq) YI ok' e' y;refine⟨ds[i],δ',M',_,hx,YZ.mono e2,Xs,q',λσ3 H3 δ3 M3 x1 x2 x3 x4 x5=>?_⟩;refine⟨δ3,M3,_,x1,x2,x5,λσ4 H4 δ4 M4 y1 y2 y3 y4 y5=>?_,λv H4 d M4 y1 y2 y3 y4=>?_,λσ4 H4 δ4 M4 y1 y2 y3 y4 y5=>?_,λσ4 H4 δ4 M4 y1 y2 y3 y4 y5=>?_⟩
   .exact⟨δ4,M4,y1,y2,y5.1,e'.trans (e2.trans (x3.trans y3)),by rw[y4,x4,l'],y5.2⟩
   .exact k2 v H4 d M4 y1 y2 (e1.trans (e'.trans (e2.trans (x3.trans y3)))) y4
   .exact k1 σ4 H4 δ4 M4 y1 y2 (e1.trans (e'.trans (e2.trans (x3.trans y3)))) (by rw[y4,x4,l']) y5
   .exact⟨δ4,M4,y1,y2,y5.1,e'.trans (e2.trans (x3.trans y3)),by rw[y4,x4,l'],y5.2⟩
  .have e:i=ds.length:=by omega
   subst e;rw[jP]at q';exact .inl ⟨S.stop H' M' YI ok' e',k1 σ' H' δ' M' YZ YI (e1.trans e') l' q'⟩⟩
noncomputable def OU(ix:T0 (Option Nat))(U:vq):vq:=ix.map λo=>o.bind λi=>(U[i]?).join
def Pp{K:qo}(h:zQ K H Y U):zQ K H (Qi ix Y) (OU ix U):=λi d q=>by
 unfold OU at q;unfold Qi;rw[dG]at q ⊢;cases e:ix[i]? with
 | none=>rw[e]at q;cases q
 | some o=>
  rw[e]at q;cases o with
  | none=>cases q
  | some j=>
   have q':(U[j]?).join=Fa d:=dA q;have e4:U[j]?=Fa (Fa d):=by
    cases r:U[j]? with
    | none=>rw[r]at q';cases q'
    | some w=>rw[r]at q';exact eZ Fa q'
   obtain⟨v,e5,hv⟩:=h j d e4;refine⟨v,?_,hv⟩;show Fa ((Y[j]?).join)=Fa (Fa v);rw[e5];rfl
def uU(g:D6)(tt:AD)(te:T3)(ok:Mp->Prop)(Q:DK):T0 D->T0 D->vq->Mp->Prop
 | [],acc,_,M=>acc.length<=pi/\∀p,M p=Db->Q (.ref p) (pE M p (.lst acc))
 | d::r,acc,U,M=>acc.length<pi/\g d U M λδ2 M2=>tt δ2 M2 λb M3=>if b=pc then te δ2 M3 λy M4=>ok M4/\uU g tt te ok Q r (acc++[y]) δ2 M4 else ok M3/\uU g tt te ok Q r acc δ2 M3
def MP(ix:T0 (Option Nat))(wi:L4)(g:D6)(tt:AD)(te:T3):T3:=λU M Q=>wi U M λds ok M1=>uU g tt te ok Q ds [] (OU ix U) M1
def F3(X:Cx)(XM:T0 No)(t:AD):Prop:=PF X XM (Tv X.K t)
def PF.mono{e:T0 No}{t t':TT}(h:PF X e t)(m:∀Y H Q,t' Y H Q->t Y H Q):PF X e t':=λXa s Y H Q I q=>h Xa s Y H Q I (m Y H Q q)
def B1:AD:=λ_ M Q=>Q pc M
def rT:F3 X [] B1:=PF.mono S0 λY H Q' zz=>x7 zz λU M Q hs hm ht k=>k pc H M hm .refl ht
def vC{t:AD}(h:B3 X c t):F3 X [c] t:=So h
def IE:∀Y H Q',lo X.K (MP ix wi g tt te) Y H Q'->Mf ix (WQ X.K wi) (Vg X.K g) (Tv X.K tt) (lo X.K te) Y H Q':=λY H Q' zz=>x7 zz λU M Q hs hm ht k=>
 ⟨U,M,_,hs,hm,ht,λJ H1 ds ok M1 S Xc e1 ok1 q1=>by
  refine⟨λi m ys σ' H'=>m=ds.length - i/\i<=ds.length/\∃δ' M' acc,zQ X.K H' σ' δ'/\HM X.K H' M'/\qk X.K H' acc ys/\ok M'/\qS X.K H1 H'/\uU g tt te ok Q (ds.drop i) acc δ' M',⟨ds.length,by simp,eD _,OU ix U,M1,[],Pp (hs.mono e1),Xc,.nil,ok1,.refl,by simpa using q1⟩,?_⟩
  rintro i m ys σ' H' ⟨rfl,hi,δ',M',acc,YZ,YI,YO,ok',e',q'⟩
  by_cases Xq:i<ds.length
  .rw[iw Xq]at q';obtain⟨hz,q'⟩:=q';refine .inr ⟨S.go i H' M' Xq YI ok' e',by rw[<-YO.length];exact hz,λx H2 y=>?_⟩;obtain⟨hx,Xs,e2⟩:=S.oS i ds[i] H' M' x H2 (dg Xq) YI ok' e' y;refine⟨ds[i],δ',M',_,hx,YZ.mono e2,Xs,q',λσ3 H3 δ3 M3 x1 x2 x3 x4 x5=>?_⟩;refine⟨δ3,M3,_,x1,x2,x5,λb H4 M4 y2 y3 y5=>?_⟩;cases b with
   | true=>rw[dz Z']at y5 ⊢;refine⟨δ3,M4,_,x1.mono y3,y2,y5,λv H5 d M5 z1 z2 z3 z4=>⟨ds.length - (i+1),by omega,Z',Xq,δ3,M5,acc++[d],x1.mono (y3.trans z3),z2,(YO.mono (e2.trans (x3.trans (y3.trans z3)))).snoc z1,z4.1,e'.trans (e2.trans (x3.trans (y3.trans z3))),z4.2⟩⟩
   | false=>rw[dh dE]at y5 ⊢;exact⟨ds.length - (i+1),by omega,Z',Xq,δ3,M4,acc,x1.mono y3,y2,YO.mono (e2.trans (x3.trans y3)),y5.1,e'.trans (e2.trans (x3.trans y3)),y5.2⟩
  .have e:i=ds.length:=by omega
   subst e;rw[jP]at q';refine .inl ⟨S.stop H' M' YI ok' e',by rw[<-YO.length];exact q'.1,λp hp=>?_⟩;have e5:qS X.K H' (upd H' p (.lst ys)):=.new hp;exact k _ _ _ _ .ref (YI.new (c:=.lst acc) hp ⟨_,qc,YO.mono e5⟩) (e1.trans (e'.trans e5)) (q'.2 p (YI.fresh hp))⟩
def qF(hc:X.calm=pc)(S:sj X scope ix N')(hi:I3 X tg iter wi)(hg:∀{C s0 H0 ex},G3 (X.comp scope N' C s0 H0 ex) tg g)(ht:∀{C s0 H0 ex},F3 (X.comp scope N' C s0 H0 ex) XM tt)(he:∀{C s0 H0 ex},E3 (X.comp scope N' C s0 H0 ex) X7 te) (hs:∀x,XV iter X.env x=pure x:=by intro _;rfl):E3 X (.ListComp X7 [⟨tg,iter,XM,0⟩] scope pos) (MP ix wi g tt te):=PE.mono (Ql (g:=Vg X.K g) (tt:=Tv X.K tt) (te:=lo X.K te) hc S hi (λ_ _ _ _=>hg) (λ_ _ _ _=>ht) (λ_ _ _ _=>he) hs) IE
def xb{i:Nat}{x:Str}{px Y0:Pos}(hN:X.N.Nodup)(Z9:X.N[i]?=Fa x)(hx:K9 X.env.scope x)(hc:X.calm=pc)(S:sj X scope ix N')(hi:I3 X tg iter wi)(hg:∀{C s0 H0 ex},G3 (X.comp scope N' C s0 H0 ex) tg g)(ht:∀{C s0 H0 ex},F3 (X.comp scope N' C s0 H0 ex) XM tt) (he:∀{C s0 H0 ex},E3 (X.comp scope N' C s0 H0 ex) X7 te) (YG:TD (.ListComp X7 [⟨tg,iter,XM,0⟩] scope pos) (Fa (.Name x px)) Y0.line X.env=pure pc:=by rfl)
  (hf:K' X x:=by first|exact .inl Z'|exact .inr Z'|assumption) (hs:∀x,XV iter X.env x=pure x:=by intro _;rfl):
  S3 X (.Assign [.Name x px] (.ListComp X7 [⟨tg,iter,XM,0⟩] scope pos) Y0) (F6 (MP ix wi g tt te) (sf i)):=PS.nO (Ih (g:=Vg X.K g) (tt:=Tv X.K tt) (te:=lo X.K te) hN Z9 hx hc S hi (λ_ _ _ _=>hg) (λ_ _ _ _=>ht) (λ_ _ _ _=>he) YG hf hs) λD' Y H hl zz=>K6 zz λU M D hs hm ht k1 k2 k3 k4=>
 IE Y H _ ⟨U,M,_,hs,hm,ht,λv H1 d M1 hd Xc e1 q1=>k1 _ H1 _ M1 ((hs.mono e1).set hd (by rw[hl];exact(de.mp Z9).1)) Xc e1 (by simp) q1⟩
def WO(hr:rY k A):A.units+9<Y':=by have:=hr.units;omega
noncomputable def Ij(sc:XXd)(N:QQQ)(scope:XXd)(ix:T0 (Option Nat))(N':QQQ):Bool:=
 (scope.kind==.function)&&(scope.names.all λy=>!(y.2==.cell))&&(scope.names.all λy=>!(y.2==.local)||(scope.names.lookup y.1==Fa .local))&&
 (scope.names.all λy=>!(y.2==.free)||(sc.names.lookup y.1==Fa .cell)||(sc.names.lookup y.1==Fa .free))&&(ix.length==N'.length)&&
 ((ix.zip N').all λp=>match p.1 with|none=>pc|some i=>(N[i]?==Fa p.2)&&(scope.names.lookup p.2==Fa .free))
def Ug{X:Cx}(h:Ij X.env.scope X.N scope ix N'=pc):sj X scope ix N':=by
 unfold Ij at h;simp only[eh]at h;obtain⟨⟨⟨⟨⟨h1,h2⟩,h3⟩,h4⟩,h5⟩,h6⟩:=h;refine⟨by simpa using h1,λy hy e=>?_,λy hy e=>?_,λy hy e=>?_,by simpa using h5,λj i x e1 e2=>?_⟩
 .have:=eU.mp h2 y hy;rw[e]at this;simp at this
 .have:=eU.mp h3 y hy;rw[e]at this
  simpa using this
 .have:=eU.mp h4 y hy;rw[e]at this
  simpa using this
 .have hm:(Fa i,x)∈ix.zip N':=by
   have:(ix.zip N')[j]?=Fa (Fa i,x):=by rw[List.getElem?_zip_eq_some];exact⟨e1,e2⟩
   exact fU this
  have:=eU.mp h6 _ hm
  simpa using this
section
variable {a b:No}
def JH(op X5:CmpOp)(ta tb tc:T3):T3:=λU M Q=>ta U M λx M1=>tb U M1 λy M2=>OH op x y M2 λz M3=>match z with
 | .bl k=>if k=pc then tc U M3 λw M4=>OH X5 y w M4 Q else Q (.bl Uf) M3
 | _=>False
def uy{op X5:CmpOp}(hu:X.A.units+9<Y')(ha:E3 X a ta)(hb:E3 X b tb)(hc:E3 X c tc)(hmk:lastMarks [op,X5] [b,c]=Uf:=by rfl):
  E3 X (.Compare a [op,X5] [b,c] pos) (JH op X5 ta tb tc):=PE.mono (MY (J0 op hu) (J0 X5 hu) ha hb hc hmk) λY H Q' zz=>x7 zz λU M Q hs hm ht k=>
 ⟨U,M,_,hs,hm,ht,λv H1 x M1 hx Xc e1 q1=>⟨U,M1,_,hs.mono e1,Xc,q1,λu H2 y M2 hy Xs e2 q2=>⟨x,y,M2,_,hx.mono e2,hy,Xs,q2,λw H3 z M3 hz Yb e3 q3=>by
  cases z with
  | bl c=>
   refine⟨c,hz.mO,?_⟩;cases c with
   | true=>refine(dz Z').mpr ⟨U,M3,_,hs.mono (e1.trans (e2.trans e3)),Yb,(dz Z').mp q3,λw' H4 d M4 hd hm4 e4 q4=>⟨y,d,M4,Q,hy.mono (e3.trans e4),hd,hm4,q4,vO (e1.trans (e2.trans (e3.trans e4))) k⟩⟩
   | false=>exact(dh dE).mpr (k _ H3 _ M3 .bl Yb (e1.trans (e2.trans e3)) ((dh dE).mp q3))
  | _=>exact q3.elim⟩⟩⟩
def Gv{op X5:CmpOp}(hu:X.A.units+9<Y')(ha:E3 X a ta)(hb:E3 X b tb)(hc:E3 X c tc)(hmk:lastMarks [op,X5] [b,c]=Uf:=by rfl):
  B3 X (.Compare a [op,X5] [b,c] pos) (b3 (JH op X5 ta tb tc)):=PT.mono (NI (J0 op hu) (J0 X5 hu) ha hb hc hmk) λY H Q' zz=>x7 zz λU M Q hs hm ht k=>
 ⟨U,M,_,hs,hm,ht,λv H1 x M1 hx Xc e1 q1=>⟨U,M1,_,hs.mono e1,Xc,q1,λu H2 y M2 hy Xs e2 q2=>⟨x,y,M2,_,hx.mono e2,hy,Xs,q2,λw H3 z M3 hz Yb e3 q3=>by
  cases z with
  | bl c=>
   refine⟨c,hz.mO,?_⟩;cases c with
   | true=>
    refine(dz Z').mpr ⟨U,M3,_,hs.mono (e1.trans (e2.trans e3)),Yb,(dz Z').mp q3,λw' H4 d M4 hd hm4 e4 q4=>⟨y,d,M4,_,hy.mono (e3.trans e4),hd,hm4,q4,λw5 H5 d5 M5 hd5 hm5 e5 q5=>?_⟩⟩;cases d5 with
    | bl c5=>exact⟨c5,hd5.mO,k c5 H5 M5 hm5 (e1.trans (e2.trans (e3.trans (e4.trans e5)))) q5⟩
    | _=>exact q5.elim
   | false=>exact(dh dE).mpr ⟨Uf,Z',k Uf H3 M3 Yb (e1.trans (e2.trans e3)) ((dh dE).mp q3)⟩
  | _=>exact q3.elim⟩⟩⟩
structure VL(K:qo)(C:Ch):Prop where
 ha:W.findIn K (.ref C) "__class__"=Fa (Fa (.builtin "object.__class__"))
 hn:W.specialIn K (.builtin "object.__class__") "__get__"=Fa (Fa (.builtin "getset_descriptor.__get__"))
 htk:W.takesIn K (.builtin "object.__class__")=Fa pc
 hm:W.mroIn K C (.type "object")=Fa pc
noncomputable def HR:Option uY->Option Vl
 | some (.lst _)=>Fa (.type "list")
 | some (.ins C _)=>Fa (.ref C)
 | some (.dk _)=>Fa (.type "dict")
 | some (.exc _)=>Db
 | none=>Db
noncomputable def WE(M:Mp):D->Option Vl
 | .mP=>Fa (.type "NoneType")
 | .bl _=>Fa (.type "bool")
 | .int _=>Fa (.type "int")
 | .str _=>Fa (.type "str")
 | .tup _=>Fa (.type "tuple")
 | .ref a=>HR (M a)
 | .ty _=>Db
 | .rl _=>Fa (.type "list")
noncomputable def VO:D->Option Vl
 | .ref C=>Fa (.ref C)
 | .ty n=>Fa (.type n)
 | _=>Db
def NF(K:qo)(ds:T0 D)(M:Mp)(Q:DK):Prop:=match ds with
 | [x,c]=>(WE M x).elim False λt=>(VO c).elim False λcv=>(∀C,t=.ref C->VL K C)/\(W.kitOne K t cv).elim False λb=>Q (.bl b) M
 | _=>False
def zY:C3 X (.builtin "isinstance") (NF X.K):=by
 intro Xa s Y H vs us Q' I rv h;obtain⟨ds,M,Q,hd,hm,q,k⟩:=h;unfold NF at q;split at q
 .rename_i x c;obtain⟨v,u,rfl,hv,hw⟩:=Bk hd;obtain⟨t,et,q⟩:=qV q;obtain⟨cv,ec,hC,q⟩:=qV q;obtain⟨b,eb,qb⟩:=qV q;obtain⟨uv,uw,rfl,ZC,rv2⟩:=Nd rv;have ecv:uw=cv:=by
   cases c with
   | ref C=>cases hw.mK;cases ec;exact rv2
   | ty n=>cases hw.nS;cases ec;exact rv2
   | _=>cases ec
  subst ecv;have Xe:∀tk,EP X Xa Y Q' (.bool b) {s with toks:=tk}:=λtk=>⟨.bl b,H,I.tok tk,Z',k _ _ _ _ .bl hm .refl qb⟩;cases x with
  | mP=>cases hv.mM;cases et;exact uL I ZC .mP eb Xe
  | bl y=>cases hv.mO;cases et;exact uL I ZC (.bl y) eb Xe
  | int y=>cases hv.int_inv;cases et;exact uL I ZC (.int y) eb Xe
  | str y=>cases hv.str_inv;cases et;exact uL I ZC (.str y) eb Xe
  | tup ds=>obtain⟨a,xs,rfl,h1,h2⟩:=hv.mQ;cases et;cases ZC;obtain⟨its,r,p,_⟩:=I.tuple h1;obtain⟨o,g1,g2,_⟩:=p;exact gz W.kitx_tuple I.ni ⟨o,g1,g2⟩ eb (λz=>nomatch z) Xe
  | ref a=>
   cases hv.mK;have et:HR (M a)=Fa t:=et;cases e:M a with
   | none=>rw[e]at et;cases et
   | some cell=>
    rw[e]at et;have ok:=hm a cell e;cases cell with
    | lst ds=>cases et;obtain⟨xs,e1,_⟩:=ok;exact uL I ZC (.lst e1) eb Xe
    | ins C fs=>cases et;obtain⟨dx,vs,e1,cl,_⟩:=ok;obtain⟨i1,i2,i3,i4⟩:=hC C Z';exact uL I ZC (.ins e1 cl i1 i2 i3 i4) eb Xe
    | dk kvs=>cases et;obtain⟨vs,e1,_⟩:=ok;exact uL I ZC (.dK e1) eb Xe
    | exc C=>cases et
  | ty n=>cases et
  | rl ds=>obtain⟨p,xs,rfl,h1,h2⟩:=hv.m8;cases et;cases ZC;obtain⟨its,r,⟨o,n,g1,g2,_⟩,_⟩:=I.list h1.sq;exact gz lH I.ni ⟨o,g1,g2⟩ eb (λz=>nomatch z) Xe
 .exact q.elim
noncomputable def Gs:T0 D->Option (T0 Bool)
 | []=>Fa []
 | .bl b::r=>(Gs r).map (b::·)
 | _::_=>Db
theorem Fy{K:qo}:∀{ds:T0 D} {bs:T0 Bool} {xs:T0 V} {us:T0 Vl},Gs ds=Fa bs->qk K H ds xs->qD xs us->us=bs.map Value.bool
 | [],bs,xs,us,e,h,r=>by cases e;have:=h.nil_inv;subst this;cases r;rfl
 | d::ds,bs,xs,us,e,h,r=>by
  cases d with
  | bl b=>
   obtain⟨y,ys,rfl,h1,h2⟩:=h.inv;cases h1.mO;unfold Gs at e;cases q:Gs ds with
   | none=>rw[q]at e;cases e
   | some cs=>
    rw[q]at e;cases e;cases r with
    | cons r1 r2=>cases r1;rw[Fy q h2 r2];rfl
  | _=>cases e
def TC(ds:T0 D)(M:Mp)(Q:DK):Prop:=match ds with
 | [.ref a]=>(oj M a).elim False λes=>(Gs es).elim False λbs=>Q (.bl (bs.all id)) M
 | _=>False
def EF(hc:X.calm=pc):C3 X (.builtin "all") TC:=by
 intro Xa s Y H vs us Q' I rv h;obtain⟨ds,M,Q,hd,hm,q,k⟩:=h;unfold TC at q;split at q
 .rename_i a;obtain⟨v,rfl,hv⟩:=rP hd;obtain⟨es,e0,q⟩:=qV q;obtain⟨bs,e1,q⟩:=qV q;cases hv.mK;obtain⟨u,rfl,ru⟩:=xS rv;cases ru;obtain⟨xs,h1,h2,_⟩:=qz hm e0;obtain⟨its,r,pl,hz⟩:=I.list h1;have eits:=Fy e1 h2 r;subst eits;have Xy:a≠s.heap.objs.size:=by obtain⟨o,_,e,_⟩:=pl;exact dU (dI e)
  refine call_all_walk (hZ pl.isList ?_);refine⟨s.heap.objs.size,_,_,_,_,_,λi=>(bs[i]?).getD pc,Z',kx (A:=X.A.in1) (I.ok.hd hc) _ a Xy (bs.map Value.bool).toArray,⟨⟨_,dN _ Z',Z',Z'⟩,?_⟩,λi v s' Q E hP hQ=>?_,λh' tk hk=>?_⟩
  .obtain⟨o,n,e,c,d,q⟩:=pl;exact⟨o,dq _ e,c,n,q⟩
  .simp only[iP,dG]at hP;cases e2:bs[i]? with
   | none=>rw[e2]at hP;cases hP
   | some b=>rw[e2]at hP;cases hP;have hQ:Q ((bs[i]?).getD pc) s':=hQ;rw[e2]at hQ;exact fA hQ
  .have ea:(List.range (bs.map Value.bool).toArray.size).all (λi=>(bs[i]?).getD pc)=bs.all id:=by
    rw[dD,cZ];rw[gu,eU,eU];constructor
    .intro z b hb;obtain⟨i,hi,e⟩:=gW hb;have:=z i (gD.mpr hi);rw[dg hi,e]at this;exact this
    .intro z i hi;have Zg:=gD.mp hi;rw[dg Zg];exact z _ (ii Zg)
   rw[ea];refine⟨.bl (bs.all id),H,?_,Z',k _ _ _ _ .bl hm .refl q⟩;exact I.kept (h':=h') (t':=tk) λb o e=>hk b o (by simpa using dU (dI e)) (dq _ e)
 .exact q.elim
noncomputable def A7(x:D):T0 D->Option Nat
 | []=>Db
 | d::r=>if OM d x=pc then Fa 0 else(A7 x r).map (·+1)
theorem IM{K:qo}{e:D}{w:V}(g:rO K H e w)(fe:va e=pc):∀{ds:T0 D} {xs:T0 V} {us:T0 Vl} {j:Nat},qk K H ds xs->qD xs us->ds.all va=pc->A7 e ds=Fa j->
  ∃h:j<us.length,Fw w us[j]=pc/\∀m (hm:m<us.length),m<j->Fw w us[m]=Uf
 | [],_,_,_,_,_,_,q=>by cases q
 | d::ds,_,us,j,h,r,fl,q=>by
  obtain⟨y,ys,rfl,h1,h2⟩:=h.inv;rw[fC,eh]at fl;cases r with
  | @cons _ u _ us' r1 r2=>
   have eu:Fw w u=OM d e:=by rw[Ir r1 (zq h1 fl.1),Jz h1 g fl.1 fe]
   unfold A7 at q;by_cases hq:OM d e=pc
   .rw[dz hq]at q;cases q;exact⟨by simp,by simpa [eu]using hq,λm _ hm=>absurd hm (Nat.not_lt_zero m)⟩
   .rw[dh hq]at q;cases q2:A7 e ds with
    | none=>rw[q2]at q;cases q
    | some j'=>
     rw[q2]at q;cases q;obtain⟨hl,e1,e2⟩:=IM g fe h2 r2 fl.2 q2;refine⟨by simpa using hl,by simpa using e1,λm hm Xq=>?_⟩;cases m with
     | zero=>simpa [eu]using hq
     | succ m=>simpa using e2 m (by simpa using hm) (by have z:m+1<j'+1:=Xq;omega)
def RW(x:D)(ds:T0 D)(M:Mp)(Q:DK):Prop:=match x,ds with
 | .ref a,[y]=>(oj M a).elim False λes=>va y=pc/\es.all va=pc/\(A7 y es).elim False λj=>Q (.int (j:Nat)) M
 | _,_=>False
def M3(X:Cx)(id:String)(r:D->T0 D->Mp->DK->Prop):Prop:=WD X id λvx vs H Q'=>∃x ds M Q,rO X.K H x vx/\qk X.K H ds vs/\HM X.K H M/\r x ds M Q/\Up X.K H Q' Q
def Of:M3 X "list.index" RW:=by
 intro Xa s Y H vx vs v us Q' I rx rv h;obtain⟨x,ds,M,Q,hx,hd,hm,q,k⟩:=h;unfold RW at q;split at q
 .rename_i a y;obtain⟨es,e0,f1,f2,q⟩:=qV q;obtain⟨j,e1,q⟩:=qV q;cases hx.mK;cases rx;obtain⟨w,rfl,hw⟩:=rP hd;obtain⟨u,rfl,ru⟩:=xS rv;obtain⟨xs,h1,h2,rd⟩:=qz hm e0;obtain⟨hz,its,n,r,g⟩:=rd.ok I.mT;obtain⟨hl,p1,p2⟩:=IM hw f1 h2 r f2 e1;have hlz:its.length<=pi:=by rw[<-r.length];exact hz
  have h63:=yY;refine iT F.slot_list_index ⟨_,g,Z'⟩ F.entry_list_index (F.args_list_index_2 _ _) (SeqAt.list_indexAt a its.toArray n Db #[] u (Fw w) j (by simpa using hl) (by omega) (by simpa using p1) λm hm Xq=>by simpa using p2 m (by simpa using hm) Xq) ⟨g,?_,?_⟩
  .intro z hz';exact wK ru (zq hw f1) r (E7 h2 f2) z (by simpa using hz')
  .exact⟨.int (j:Nat),H,I.tok _,⟨_,Z'⟩,k _ _ _ _ .int hm .refl q⟩
 .exact q.elim
def QU(M:Mp):D->Prop
 | .ref a=>(oj M a).isSome=pc
 | _=>False
def Vc(r:D->T0 D->Mp->DK->Prop)(to:T3)(t:xt):T3:=λU M Q=>to U M λx M1=>QU M1 x/\t U M1 λds M2=>r x ds M2 Q
def Ru{K:qo}{x:D}(hm:HM K H M)(h:rO K H x v)(l:QU M x):VR K "list" v H:=by
 cases x with
 | ref a=>cases h.mK;obtain⟨ds,e⟩:=jK.mp (show(oj M a).isSome=pc from l);obtain⟨xs,h1,_⟩:=qz hm e;exact .inl ⟨Z',xs,h1⟩
 | _=>exact l.elim
def MN{id:String}(slot:Slot "list" name id)(hty:typeOf (.builtin id)=pure (.type "method_descriptor"))(hm:M3 X id r)(ho:E3 X o ta)(ha:A3 X (e::es) t) (Xr:xz o name X.env (Op o X.env)=Op o X.env:=by rfl)
  (X6:((Ix pos (zn (e::es) X.env)).all (λx=>!x.1)&&(wE pos (Rs [] X.env)).all (λx=>x.1.isSome)
   &&decide ((e::es).length+([]:T0 W').length+(if ([]:T0 W').isEmpty then 0 else 1)<30))=pc:=by rfl)
  (XA:(Xd.endLine==pos.line)=pc:=by rfl) (hs:A6 X e es:=by rfl) (Xn:BJ X pos es:=by rfl):
  E3 X (.Call (.Attribute o name Xd) (e::es) [] pos) (Vc r ta t):=PE.mono (Ud PySem.F.plainAttrs_list slot hty hm ho ha Xr X6 XA hs Xn) λY H Q' zz=>x7 zz λU M Q hs hm ht k=>
 ⟨U,M,_,hs,hm,ht,λv H1 x M1 hx Xc e1 q1=>⟨Ru Xc hx q1.1,U,M1,_,hs.mono e1,Xc,q1.2,λvs H2 ds M2 Yt Xs e2 q2=>⟨x,ds,M2,Q,hx.mono e2,Yt,Xs,q2,vO (e1.trans e2) k⟩⟩⟩
def xI(ho:E3 X o ta)(ha:A3 X (e::es) t) (Xr:xz o "index" X.env (Op o X.env)=Op o X.env:=by rfl)
  (X6:((Ix pos (zn (e::es) X.env)).all (λx=>!x.1)&&(wE pos (Rs [] X.env)).all (λx=>x.1.isSome)
   &&decide ((e::es).length+([]:T0 W').length+(if ([]:T0 W').isEmpty then 0 else 1)<30))=pc:=by rfl)
  (XA:(Xd.endLine==pos.line)=pc:=by rfl) (hs:A6 X e es:=by rfl) (Xn:BJ X pos es:=by rfl):
  E3 X (.Call (.Attribute o "index" Xd) (e::es) [] pos) (Vc RW ta t):=MN PySem.F.slot_list_index PySem.F.type_list_index Of ho ha Xr X6 XA hs Xn
structure Li(K:qo)(C:Ch)(m:Str)(f:Ch):Prop where
 hg:W.specialIn K (.ref C) "__getattribute__"=Fa (Fa (.builtin "type.__getattribute__"))
 rd:W.readsIn K C (.type "type")=pc
 fc:W.findCls K (.ref C) (.type "type") m=Fa (.val (.ref f))
def Ou{sp:Sp}{t:TA}{pl:Sem Bool}(cm:Li X.K C m f)(F:xx X.prog X.w X.K X.mg X.base On k f fd ps sp)(hr:rY k X.A)(hg:Gl X x)(hm:X.mg x=Fa (.ref C))(hk:W.keepIn X.K (.ref f)=pc)(hb:uT X.K fd ps [])(ha:PA X (e::es) t) (Xt:zb x:=by decide) (Xw:A6 X e es:=by rfl) (Xp:BJ X pos es:=by rfl)
  (ht:Op (.Call (.Attribute (.Name x p) m Xd) (e::es) [] pos) X.env=(do
   let ov<-Op (.Name x p) X.env
   XXc Xd.atName
   let(f,first)<-sB [ov] (o0 ov m pl)
   XXg pos f first (Ix pos (zn (e::es) X.env)) (wE pos (Rs [] X.env))):=by rfl):
  PE X (.Call (.Attribute (.Name x p) m Xd) (e::es) [] pos) (λY H Q=>t Y H λvs H1=>sp vs H1 Q E0):=by
 intro Xa s Y H Q I h;refine j6 (pl:=pl) (xm I hg hm ?_ Xt) ht;refine W.method_cls I.ni cm.hg (W.cls_value I.ni cm.rd cm.fc Z' ?_);refine iR (first:=[]) (h₀:=X.base) I.ok.mod.oz hk (sC (ha pos Xa _ Y H _ (I.tok _) h) λus s2 zz=>x5 zz λvs H2 I2 r q2=>⟨I2.ni,?_⟩) Xw Xp;exact ED F hr hb .nil (F0 (X:=X)) I2 r (by rw[eE];exact q2)
def Pr{pl:Sem Bool}(cm:Li X.K C m f)(F:Tr X.prog X.w X.K X.mg X.base k f fd ps sp)(hr:rY k X.A)(hg:Gl X x)(hm:X.mg x=Fa (.ref C))(hk:W.keepIn X.K (.ref f)=pc)(hb:uT X.K fd ps [])(ha:A3 X (e::es) t) (Xt:zb x:=by decide) (Xw:A6 X e es:=by rfl) (Xp:BJ X pos es:=by rfl)
  (ht:Op (.Call (.Attribute (.Name x p) m Xd) (e::es) [] pos) X.env=(do
   let ov<-Op (.Name x p) X.env
   XXc Xd.atName
   let(f,first)<-sB [ov] (o0 ov m pl)
   XXg pos f first (Ix pos (zn (e::es) X.env)) (wE pos (Rs [] X.env))):=by rfl):
  E3 X (.Call (.Attribute (.Name x p) m Xd) (e::es) [] pos) (Dw sp t):=PE.mono (Ou cm F hr hg hm hk hb ha Xt Xw Xp ht) λY H Q' zz=>x7 zz λU M Q hs hm ht k=>
 ⟨U,M,_,hs,hm,ht,λvs H1 ds M1 hd Xc e1 q1=>⟨ds,M1,Q,hd,Xc,q1,vO e1 k⟩⟩
def qv:Go "len"=Fa (.builtin "len"):=by decide+kernel
def LA:Go "min"=Fa (.builtin "min"):=by decide+kernel
def wx:Go "isinstance"=Fa (.builtin "isinstance"):=by decide+kernel
def EN:Go "all"=Fa (.builtin "all"):=by decide+kernel
def ua:Go "tuple"=Fa (.type "tuple"):=by decide+kernel
def rX:Go "list"=Fa (.type "list"):=by decide+kernel
def PV:Go "bool"=Fa (.type "bool"):=by decide+kernel
def Fc:Go "dict"=Fa (.type "dict"):=by decide+kernel
def zw:Go "enumerate"=Fa (.type "enumerate"):=by decide+kernel
def S5:Go "zip"=Fa (.type "zip"):=by decide+kernel
end
theorem _root_.L2.Inv.drawn{ch:QXQ}{T:Ch}{xs:T0 V}{h':wp}{tk:Nat}(I:Inv X Xa Y H s)(Yd:∀b∈ch,AN X Xa H b)(k:∀b o,b∉ch->s.heap.get? b=Fa o->h'.get? b=Fa o)(hT:s.heap.objs.size<=T)(hx:xs.length<=pi) (rv:qD xs its) (ht:Ek h' T its.toArray):Inv X Xa Y (upd H T (.tup xs)) {s with heap:=h',toks:=tk}:=by
 have Y4:H T=Db:=I.mT.fresh hT;have nT:∀b o,s.heap.get? b=Fa o->b≠T:=λb o e=>dU (dY (dI e) hT);refine I.step (g':=s.gens) (d':=s.drawn) (ch:=ch) (λb hb=>⟨(Yd b hb).2.2.2.1,(Yd b hb).2.1,(Yd b hb).2.2.2.2.1,(Yd b hb).2.2.2.2.2⟩) (λb o _ _ hc e _=>k b o hc e) (λb o _ _ hc e _=>⟨o.slots,k b o hc e⟩) (λb o _ e n=>by rw[pV (nT b o e)];exact n)
  (λb o hc e=>⟨o,k b o hc e⟩) (λb ys e=>by rw[pV (qR e Y4)];exact e) (λb o u e=>by rw[pV (qR e Y4)];exact e) (λb ps e=>⟨#[],by rw[pV (qR e Y4),e];simp⟩) (λm hm=>?_) (λb u e=>?_) I.bare
 .obtain⟨o,es,ep,ho,r⟩:=hm;exact⟨o,es,ep,k _ o (λz=>(Yd _ z).2.1 Z') ho,r⟩
 .by_cases hb:b=T
  .subst hb;rw[qc]at e;cases e;exact⟨hx,its,rv,ht⟩
  .rw[pV hb]at e;refine(I.mT b u e).nH (λc v hc q=>k c v (λz=>?_) q) (λc q=>by rw[pV (qR q Y4)];exact q) (λc ys q=>by rw[pV (qR q Y4)];exact q);have n:=(Yd c z).1;rcases hc with y|y
   .rw[y,e]at n;cases n
   .rw[y]at n;cases n
noncomputable def Wh(K:qo)(a:Ch):It:=
 ⟨λi H=>∃xs x,za K H a xs/\xs[i]?=Fa x,λi H x H'=>∃p y,x=.ref p/\H p=Db/\H'=upd H p (.tup [.int (i:Nat),y])/\∀xs,za K H a xs->xs[i]?=Fa y,λi H=>∃xs,za K H a xs/\xs.length<=i⟩
def Kk{K:qo}(a e it:Ch)(hei:e≠it):Em P w K (.Tuple Xz n tp) (Wh K a) [e,it] e (λi h=>(∃old,IsEnum h e it (i:Nat) old)/\h.IsListIter it a i) where
 mem:=by simp
 obj:=λi h st b hb=>by
  obtain⟨⟨old,he⟩,o,e1,c,d⟩:=st;rcases dw.mp hb with rfl|hb
  .exact⟨_,he,λv z=>by cases z⟩
  .rw[dv.mp hb];exact⟨o,e1,λv z=>by rw[d]at z;cases z⟩
 keep:=λi h h' st k=>by obtain⟨⟨old,he⟩,hi⟩:=st;exact⟨⟨old,k e (by simp) _ he⟩,hi.at λo q=>k it (by simp) o q⟩
 item:=by
  intro X hP hw hK hc i Xa s Y H E I hf st hg;subst hP hw hK;obtain⟨xs,x,hq,hx⟩:=hg;obtain⟨its,rv,p,hz⟩:=I.list hq;obtain⟨u,hu,ru⟩:=rv.get hx;obtain⟨⟨old,he⟩,hi⟩:=st;refine wpAny_pyNext_enum_item he hi p.isList (x:=u) (by simpa using hu) hei λh1 ho XQ hT hsz hk=>?_;refine⟨_,Z',jr ho λh2 he2 X0=>?_⟩;have Y5:e<s.heap.objs.size:=dI he;have hilt:it<s.heap.objs.size:=by obtain⟨o,q,_⟩:=hi;exact dI q
  have kk:∀b o,b∉[e,it]->s.heap.get? b=Fa o->h2.get? b=Fa o:=λb o hb q=>(X0.2 b λz=>hb (by simp[z])).trans (hk b o (λz=>hb (by simp[z])) (λz=>hb (by simp[z])) q);have hT2:h2.get? s.heap.objs.size=Fa {cls:=.type "tuple",data:=.seq #[.int (i:Nat) s.toks,u]}:=(X0.2 _ (gH Y5)).trans hT;have Y4:H s.heap.objs.size=Db:=I.mT.fresh (dB _);have I2:=I.drawn (ch:=[e,it]) (T:=s.heap.objs.size) (xs:=[.int (i:Nat),x]) (its:=[.int (i:Nat) s.toks,u]) (h':=h2) (tk:=s.toks+1) hf kk (dB _) (by show 2<=pi;decide) (.cons ⟨_,Z'⟩ (.cons ru .nil)) ⟨_,hT2,Z',⟨_,Z'⟩,Z'⟩;refine⟨.ref s.heap.objs.size,_,I2,Z',⟨_,x,Z',Y4,Z',λys hy=>by rw[I.nP hy hq];exact hx⟩,⟨⟨_,by simpa using he2⟩,XQ.extBut X0.extBut (dW hei)⟩,λb hb=>?_⟩;have XH:b<s.heap.objs.size:=by
   rcases dw.mp hb with z|z
   .rw[z];exact Y5
   .rw[dv.mp z];exact hilt
  rw[pV (dU XH)];exact(hf b hb).1
 done:=by intro X hP hw hK hc i Xa s Y H E I hf st hg;subst hP hw hK;obtain⟨xs,hq,hx⟩:=hg;obtain⟨its,rv,p,hz⟩:=I.list hq;obtain⟨⟨old,he⟩,hi⟩:=st;have hl:=rv.length;obtain⟨f0,f1,f2,f3,f4,f5⟩:=hf it (by simp);exact wpAny_pyNext_enum_end (I.ok.hd hc) he hi p.isList (by simp;omega) λh' eb=>⟨Z',I.turned (t':=s.toks) (λb o hb q=>eb b o hb q) f0 f1 f3 f4 f5⟩
 self:=λ_ _ _ _ _ st h=>by obtain⟨⟨old,he⟩,_⟩:=st;exact iK he h
variable {tp:Pos}{Xz:T0 No}{n:Nat}
def Qg{a:No}{ta:TA}(hg:Gl X "enumerate")(hm:X.mg "enumerate"=Db)(ha:PA X [a] ta)(hs:zn [a] X.env=[(Uf,Op a X.env)]:=by rfl):
  PI X (.Tuple Xz n tp) (.Call (.Name "enumerate" p) [a] [] pos) (λY H R=>ta Y H λvs H1=>∃l,vs=[.ref l]/\(∃xs,za X.K H1 l xs)/\R (Wh X.K l) H1):=by
 intro Xa s Y H R I h;refine Call_ (wm I hg hm zw (fG (sC (ha pos Xa s Y H _ I h) λus s1 zz=>x5 zz λvs H1 I1 r1 q1=>?_) hs Z'));obtain⟨l,e,⟨xs,hq⟩,q⟩:=q1;subst e;obtain⟨u,rfl,ru⟩:=xS r1;cases ru;obtain⟨its,rv,pl,hz⟩:=I1.list hq;refine call_enumerate_list pl.isList λh' he hi hsz hk=>?_;refine iK he ?_;have I2:Inv X Xa Y H1 {s1 with heap:=h'}:=I1.kept (t':=s1.toks) hk;refine⟨s1.heap.objs.size+1,[s1.heap.objs.size+1,s1.heap.objs.size],_,_,H1,Z',I2,Kk l _ _ (lW _),⟨⟨_,he⟩,hi⟩,λb hb=>?_,q⟩;have XH:s1.heap.objs.size<=b:=by
  rcases dw.mp hb with z|z
  .rw[z];exact gS _
  .rw[dv.mp z];exact dB _
 exact I1.nR XH (I1.mT.fresh XH)
noncomputable def sZ:Nat->T0 D->T0 D
 | _,[]=>[]
 | i,d::r=>.tup [.int (i:Nat),d]::sZ (i+1) r
theorem wF:∀{ds:T0 D} {i j:Nat},(sZ j ds)[i]?=(ds[i]?).map λd=>D.tup [.int ((j+i:Nat):Int),d]
 | [],i,j=>by simp[sZ]
 | d::r,0,j=>by simp[sZ]
 | d::r,i+1,j=>by show(sZ (j+1) r)[i]?=_;rw[wF];simp only[List.getElem?_cons_succ];rw[show j+1+i=j+(i+1)by omega]
theorem tJ:∀{ds:T0 D} {j:Nat},(sZ j ds).length=ds.length
 | [],j=>rfl
 | d::r,j=>by simp[sZ,tJ]
def Np{K:qo}:E1 K H1 (Wh K a) (sZ 0 ds) (λM=>oj M a=Fa ds) where
 go:=λi H M hi hm ok _=>by rw[tJ]at hi;obtain⟨xs,h1,h2,_⟩:=qz hm ok;obtain⟨x,e,_⟩:=h2.get (dg hi);exact⟨xs,x,h1,e⟩
 oS:=λi d H M x H' hd hm ok _ y=>by
  obtain⟨xs,h1,h2,_⟩:=qz hm ok;obtain⟨p,z,rfl,hp,rfl,y⟩:=y;rw[wF]at hd;cases e:ds[i]? with
  | none=>rw[e]at hd;cases hd
  | some d'=>rw[e]at hd;cases hd;obtain⟨x',e',hx⟩:=h2.get e;have w1:=y xs h1;rw[e']at w1;have w2:x'=z:=dA w1;subst w2;have ex:qS K H (upd H p (.tup [.int (i:Nat),x'])):=.new hp;refine⟨.tup (.of qc) (.cons (by rw[jQ];exact .int) (.cons (hx.mono ex) .nil)),hm.add hp,ex⟩
 stop:=λH M hm ok _=>by obtain⟨xs,h1,h2,_⟩:=qz hm ok;exact⟨xs,h1,by rw[tJ,h2.length];exact dB _⟩
def Sb(t:xt):L4:=λU M R=>t U M λds M1=>match ds with
 | [.ref a]=>(oj M1 a).elim False λes=>R (sZ 0 es) (λM=>oj M a=Fa es) M1
 | _=>False
def vk{a:No}{ta:xt}(hg:Gl X "enumerate")(hm:X.mg "enumerate"=Db)(ha:A3 X [a] ta)(hs:zn [a] X.env=[(Uf,Op a X.env)]:=by rfl):I3 X (.Tuple Xz n tp) (.Call (.Name "enumerate" p) [a] [] pos) (Sb ta):=
 PI.mono (Qg hg hm ha hs) λY H R' zz=>x7 zz λU M R hs hm ht k=>⟨U,M,_,hs,hm,ht,λvs H1 ds M1 hd Xc e1 q1=>by
  split at q1
  .obtain⟨v,rfl,hv⟩:=rP hd;cases hv.mK;obtain⟨es,e0,q⟩:=qV q1;obtain⟨xs,h1,h2,_⟩:=qz Xc e0;exact⟨_,Z',⟨xs,h1⟩,k _ H1 _ _ M1 Np Xc e1 e0 q⟩
  .exact q1.elim⟩
variable {prog:Pg}{A:Ar}{E:QQX}
def Hv{it t:Ch}{i:Nat}{its:Array Vl}{x:Vl}{Q:QQX}(hi:s.heap.IsTupleIter it t i)(ht:s.heap.IsTuple t its)(hx:its[i]?=Fa x) (hQ:∀g,g.IsTupleIter it t (i+1)->Heap.SameBut it s.heap g->Q x {s with heap:=g}):Tk (Tl prog w) A (Builtin.SmallTypes.nextOf (.ref it)) Q E s:=by
 obtain⟨ob,e1,e2,e3⟩:=id hi;obtain⟨ot,e4,_,nt,e5⟩:=ht;unfold Builtin.SmallTypes.nextOf;refine c9 (fz (name:=Str.ofString "__next__") hi.typeIs gN (fV gN hi.typeIs jm ?_ (jg _)));show Tk (Tl prog w) _ (field (.ref it) 0>>=_) _ _ s;refine c9 (eW e1 e3 (x:=.ref t) Z' ?_);show Tk (Tl prog w) _ (if (Value.ref t==Value.none)=pc then _ else _) _ _ s;rw[dh (show ¬(Value.ref t==Value.none)=pc from dE)];show Tk (Tl prog w) _ (field (.ref it) 1>>=_) _ _ s;refine c9 (eW e1 e3 (x:=.int i 0) Z' ?_);show Tk (Tl prog w) _ (seqItems? (.ref t)>>=_) _ _ s;refine c9 (fZ e4 e5 ?_);simp only[gO,hx];refine c9 (gF e1 e3 (by simp) (dC ⟨x,Z',dC (hQ _ ⟨_,fH _ e1 (kq (iD e3 _)),(lF ..).trans e2,?_⟩ (iq ..))⟩));rw[iD e3];simp[sK]
def BM{it t:Ch}{i:Nat}{its:Array Vl}{Q:QQX}(hh:A.handled=Db)(hi:s.heap.IsTupleIter it t i)(ht:s.heap.IsTuple t its)(hx:its[i]?=Db) (hE:∀g e,Heap.ExtBut it s.heap g->(∃o,g.get? e=Fa o/\o.cls=.type "StopIteration")->E (.ref e) {s with heap:=g}):Tk (Tl prog w) A (Builtin.SmallTypes.nextOf (.ref it)) Q E s:=by
 obtain⟨ob,e1,e2,e3⟩:=id hi;obtain⟨ot,e4,_,nt,e5⟩:=ht;unfold Builtin.SmallTypes.nextOf;refine c9 (fz (name:=Str.ofString "__next__") hi.typeIs gN (fV gN hi.typeIs jm ?_ (jg _)));show Tk (Tl prog w) _ (field (.ref it) 0>>=_) _ _ s;refine c9 (eW e1 e3 (x:=.ref t) Z' ?_);show Tk (Tl prog w) _ (if (Value.ref t==Value.none)=pc then _ else _) _ _ s;rw[dh (show ¬(Value.ref t==Value.none)=pc from dE)];show Tk (Tl prog w) _ (field (.ref it) 1>>=_) _ _ s;refine c9 (eW e1 e3 (x:=.int i 0) Z' ?_);show Tk (Tl prog w) _ (seqItems? (.ref t)>>=_) _ _ s;refine c9 (fZ e4 e5 ?_);simp only[gO,hx];refine c9 (jC (c9 (gF e1 e3 (by simp) ?_)));show Tk (Tl prog w) _ (newExc (.type "StopIteration") []>>=_) _ _ _;refine c9 ?_;simp only[newExc,newTuple];refine c9 (fN ?_ (by size_fits));refine c9 (m:=firstArgMember _ _) (wpAny_of_eq (a:=Value.none) (by first|rfl|(simp only[firstArgMember];rfl)) ?_);refine fN ?_ (by size_fits);simp only[raiseNew];refine c9 (wpAny_handled ?_)
 first|rw[show A.in1.handled=Db from hh]|rw[hh]
 refine c9 (dC (wpAny_throw (hE _ _ (((iq ..).extBut.push _).push _) ⟨_,dN _ Z',Z'⟩)))
def yg{prog:Pg}{w:Wo}{A:Ar}(hh:A.handled=Db)(it t:Ch)(Xy:t≠it)(its:Array Vl):
  Draws prog w A it [it,t] its.size (λi v=>its[i]?=Fa v) (λi h=>h.IsTupleIter it t i/\h.IsTuple t its) where
 live:=λi h st=>let⟨o,ho,_⟩:=st.1;⟨o,ho⟩
 frame:=λi h g st hk=>by obtain⟨⟨o,e1,e2⟩,⟨o',e3,e4⟩⟩:=st;exact⟨⟨o,hk it (by simp) o e1,e2⟩,⟨o',hk t (by simp) o' e3,e4⟩⟩
 item:=λi s Q E hi st hQ=>Hv st.1 st.2 (x:=its[i]) (by simp[hi]) λg hg hs=>hQ _ g s.toks (by simp[hi]) ⟨hg,st.2.extBut hs.extBut Xy⟩ hs
 done:=λs Q E st hE=>BM hh st.1 st.2 (by simp) hE
structure Ai(z TI TO i1 i2:Ch)(f1 f2:QXQ):Prop where
 a1:TI≠z
 a2:TO≠z
 a3:i1≠z
 a4:i2≠z
 a5:TI≠TO
 a6:TI≠i1
 a7:TI≠i2
 a8:TO≠i1
 a9:TO≠i2
 pb:i1≠i2
 b1:z∉f1
 b2:TO∉f1
 b3:i2∉f1
 c1:z∉f2
 c2:TO∉f2
 c3:i1∉f2
variable {z TI TO i1 i2:Ch}{f1 f2:QXQ}{n1 n2 k1 k2:Nat}{P1 P2:Nat→Vl→Prop}{S1 S2:Nat→wp→Prop}
section
variable {a b:Vl}
def sm{St:Nat->wp->Prop}(Dr:Draws prog w A it fp n Pt St){i:Nat}{h g:wp}{c:Ch}(st:St i h)(hs:Heap.SameBut c h g)(hc:c∉fp):St i g:=
 Dr.frame _ _ _ st λd hd o e=>(hs.2 d λq=>hc (q ▸ hd)).trans e
def J5{Q:QQX}(D1:Draws prog w A i1 f1 n1 P1 S1)(D2:Draws prog w A i2 f2 n2 P2 S2)(Xu:Ai z TI TO i1 i2 f1 f2)(hz:XXj s.heap z TI TO .none)(hI:IN s.heap TI (.ref i1) (.ref i2))(hO:IN s.heap TO a b) (XS:S1 k1 s.heap) (Xx:S2 k2 s.heap) (l1:k1<n1) (l2:k2<n2) (hQ:∀x y g tk,P1 k1 x->P2 k2 y->XXj g z TI TO (sK s.heap.objs.size)->IN g TO x y->S1 (k1+1) g->S2 (k2+1) g->IN g s.heap.objs.size x y->g.objs.size=s.heap.objs.size+1->
   (∀c o,c≠z->c≠TO->c≠i1->c≠i2->s.heap.get? c=Fa o->g.get? c=Fa o)->Q (.ref s.heap.objs.size) {s with heap:=g,toks:=tk}):
  Tk (Tl prog w) A (Builtin.«zip.__next__» ⟨[.ref z],[]⟩) (λXe s'=>∃v,Xe=.done (.ret v)/\Q v s') E s:=by
 show Tk (Tl prog w) A (field (.ref z) 2>>=_) _ _ _;refine c9 (eW hz Z' (x:=.bool Uf) Z' ?_);show Tk (Tl prog w) A (field (.ref z) 3>>=_) _ _ _;refine c9 (eW hz Z' (x:=.ref TI) Z' (c9 (fZ hI Z' ?_)));show Tk (Tl prog w) A (Builtin.SmallTypes.ownedTupleIsFree (.ref z)>>=_) _ _ _;refine c9 ?_;unfold Builtin.SmallTypes.ownedTupleIsFree;refine c9 (eW hz Z' (x:=.none) Z' (dC ?_));simp only[je];refine c9 (jC (c9 (eW hz Z' (x:=.ref TO) Z' (c9 (gJ hz (by simp) λg1 z1 Y6=>?_)))));replace z1:XXj g1 z TI TO .ellipsis:=z1;refine c9 ?_;simp only[lX,mi,jZ,ke];refine c9 (c9 (jt ?_));show Tk (Tl prog w) A (Builtin.SmallTypes.nextOf (.ref i1)>>=_) _ _ _;have Y7:S1 k1 g1:=sm D1 XS Y6 Xu.b1;refine c9 (D1.item k1 _ _ _ l1 Y7 λx g2 tk2 px st1b Yg=>dC ?_);replace Yg:Heap.SameBut i1 g1 g2:=Yg;have o2:IN g2 TO a b:=Yg.extBut _ _ Xu.a8 (Y6.extBut _ _ Xu.a2 hO);refine c9 (fZ o2 Z' (c9 (iW o2 λg3 o3 Yn=>?_)));replace o3:IN g3 TO x b:=o3;replace Yn:Heap.SameBut TO g2 g3:=Yn;refine c9 (lK (dC (c9 (c9 (jt ?_)))));show Tk (Tl prog w) A (Builtin.SmallTypes.nextOf (.ref i2)>>=_) _ _ _;have ZD:S2 k2 g3:=sm D2 (sm D2 (sm D2 Xx Y6 Xu.c1) Yg Xu.c3) Yn Xu.c2;refine c9 (D2.item k2 _ _ _ l2 ZD λy g4 tk4 py st2b Zh=>dC ?_);replace Zh:Heap.SameBut i2 g3 g4:=Zh;have o4:IN g4 TO x b:=Zh.extBut _ _ Xu.a9 o3;refine c9 (fZ o4 Z' (c9 (iW o4 λg5 o5 Zi=>?_)));replace o5:IN g5 TO x y:=o5;replace Zi:Heap.SameBut TO g4 g5:=Zi;refine c9 (lK (dC (dC (c9 (fZ o5 Z' (c9 (wpAny_newTuple ?_)))))));have esz:g5.objs.size=s.heap.objs.size:=by rw[Zi.1,Zh.1,Yn.1,Yg.1,Y6.1]
 have z5:XXj g5 z TI TO .ellipsis:=Zi.extBut _ _ Xu.a2.symm (Zh.extBut _ _ Xu.a4.symm (Yn.extBut _ _ Xu.a2.symm (Yg.extBut _ _ Xu.a3.symm z1)));have kp:∀c o,c≠z->c≠TO->c≠i1->c≠i2->s.heap.get? c=Fa o->g5.get? c=Fa o:=λc o q1 q2 q3 q4 q=>Zi.extBut _ _ q2 (Zh.extBut _ _ q4 (Yn.extBut _ _ q2 (Yg.extBut _ _ q3 (Y6.extBut _ _ q1 q))));have st1c:S1 (k1+1) g5:=sm D1 (sm D1 (sm D1 st1b Yn Xu.b2) Zh Xu.b3) Zi Xu.b2;have st2c:S2 (k2+1) g5:=sm D2 st2b Zi Xu.c2;have zlt:z<g5.objs.size:=dI z5;show Tk (Tl prog w) A (Builtin.SmallTypes.ownedTupleHandOut (.ref z) (.ref g5.objs.size)>>=_) _ _ _;refine c9 ?_;unfold Builtin.SmallTypes.ownedTupleHandOut;have z6:XXj (g5.push {cls:=.type "tuple",data:=.seq #[x,y]}) z TI TO .ellipsis:=dq _ z5;refine c9 (gJ z6 (by simp) λg7 z7 sb7=>?_);replace z7:XXj g7 z TI TO (sK g5.objs.size):=z7;refine gJ z7 (by simp) λg8 z8 sb8=>?_;replace z8:XXj g8 z TI TO (sK g5.objs.size):=z8;have up:∀c o,c≠z->g5.get? c=Fa o->g8.get? c=Fa o:=λc o q1 q=>sb8.extBut _ _ q1 (sb7.extBut _ _ q1 (dq _ q));have tu:IN g8 g5.objs.size x y:=sb8.extBut _ _ (gH zlt) (sb7.extBut _ _ (gH zlt) (dN _ Z'));have es8:g8.objs.size=g5.objs.size+1:=by rw[sb8.1,sb7.1,ft]
 rw[esz]at z8 tu es8;refine dC ⟨_,Z',?_⟩;show Q (.ref g5.objs.size) _;rw[esz];exact hQ x y g8 _ px py z8 (up _ _ Xu.a2 o5) (D1.frame _ _ _ st1c λc hc o q=>up c o (λr=>Xu.b1 (r ▸ hc)) q) (D2.frame _ _ _ st2c λc hc o q=>up c o (λr=>Xu.c1 (r ▸ hc)) q) tu es8 λc o q1 q2 q3 q4 q=>up c o q1 (kp c o q1 q2 q3 q4 q)
def NC{Q:Fin->Sd->Prop}(D1:Draws prog w A i1 f1 n1 P1 S1)(D2:Draws prog w A i2 f2 n2 P2 S2)(Xu:Ai z TI TO i1 i2 f1 f2)(hz:XXj s.heap z TI TO .none)(hI:IN s.heap TI (.ref i1) (.ref i2))(hO:IN s.heap TO a b) (XS:S1 k1 s.heap) (Xx:S2 k1 s.heap) (hend:k1=n1\/(k1<n1/\k1=n2)) (hE:∀g e,(∀c o,c≠z->c≠TO->c≠i1->c≠i2->s.heap.get? c=Fa o->g.get? c=Fa o)->(∃o,g.get? e=Fa o/\o.cls=.type "StopIteration")->∀tk,E (.ref e) {s with heap:=g,toks:=tk}):
  Tk (Tl prog w) A (Builtin.«zip.__next__» ⟨[.ref z],[]⟩) Q E s:=by
 show Tk (Tl prog w) A (field (.ref z) 2>>=_) _ _ _;refine c9 (eW hz Z' (x:=.bool Uf) Z' ?_);show Tk (Tl prog w) A (field (.ref z) 3>>=_) _ _ _;refine c9 (eW hz Z' (x:=.ref TI) Z' (c9 (fZ hI Z' ?_)));show Tk (Tl prog w) A (Builtin.SmallTypes.ownedTupleIsFree (.ref z)>>=_) _ _ _;refine c9 ?_;unfold Builtin.SmallTypes.ownedTupleIsFree;refine c9 (eW hz Z' (x:=.none) Z' (dC ?_));simp only[je];refine c9 (jC (c9 (eW hz Z' (x:=.ref TO) Z' (c9 (gJ hz (by simp) λg1 z1 Y6=>?_)))));replace z1:XXj g1 z TI TO .ellipsis:=z1;refine c9 ?_;simp only[lX,mi,jZ,ke];refine c9 (c9 (jt ?_));show Tk (Tl prog w) A (Builtin.SmallTypes.nextOf (.ref i1)>>=_) _ _ _;have Y7:S1 k1 g1:=sm D1 XS Y6 Xu.b1;rcases hend with he|⟨Xq,he⟩
 .rw[he]at Y7;refine c9 (D1.done _ _ _ Y7 λg2 e Yg hx=>?_);obtain⟨oe,g,hce⟩:=hx;have z2:XXj g2 z TI TO .ellipsis:=Yg _ _ Xu.a3.symm z1;have hez:e≠z:=λq=>by subst q;rw[z2]at g;cases g;simp at hce
  exact gJ z2 (by simp) λg3 _ Yn=>hE g3 e (λc o q1 _ q3 _ q=>Yn.extBut _ _ q1 (Yg _ _ q3 (Y6.extBut _ _ q1 q))) ⟨oe,Yn.extBut _ _ hez g,hce⟩ _
 .refine c9 (D1.item k1 _ _ _ Xq Y7 λx g2 tk2 px st1b Yg=>dC ?_);replace Yg:Heap.SameBut i1 g1 g2:=Yg;have o2:IN g2 TO a b:=Yg.extBut _ _ Xu.a8 (Y6.extBut _ _ Xu.a2 hO);refine c9 (fZ o2 Z' (c9 (iW o2 λg3 o3 Yn=>?_)));replace Yn:Heap.SameBut TO g2 g3:=Yn;refine c9 (lK (dC (c9 (c9 (jt ?_)))));show Tk (Tl prog w) A (Builtin.SmallTypes.nextOf (.ref i2)>>=_) _ _ _;have ZD:S2 k1 g3:=sm D2 (sm D2 (sm D2 Xx Y6 Xu.c1) Yg Xu.c3) Yn Xu.c2;rw[he]at ZD;refine c9 (D2.done _ _ _ ZD λg4 e Zh hx=>?_);obtain⟨oe,g,hce⟩:=hx;have z4:XXj g4 z TI TO .ellipsis:=Zh _ _ Xu.a4.symm (Yn.extBut _ _ Xu.a2.symm (Yg.extBut _ _ Xu.a3.symm z1));have hez:e≠z:=λq=>by subst q;rw[z4]at g;cases g;simp at hce
  exact gJ z4 (by simp) λg5 _ Zi=>hE g5 e (λc o q1 q2 q3 q4 q=>Zi.extBut _ _ q1 (Zh _ _ q4 (Yn.extBut _ _ q2 (Yg.extBut _ _ q3 (Y6.extBut _ _ q1 q))))) ⟨oe,Zi.extBut _ _ hez g,hce⟩ _
end
abbrev Ve(h:wp)(t:Ch):wp:=h.push {cls:=.type "tuple_iterator",data:=.fields #[.ref t,.int 0 0]}
abbrev Vm(h:wp)(t u:Ch):wp:=(Ve h t).push {cls:=.type "tuple_iterator",data:=.fields #[.ref u,.int 0 0]}
abbrev Vo(h:wp)(t u:Ch):wp:=(Vm h t u).push {cls:=.type "tuple",data:=.seq #[.ref h.objs.size,.ref (Ve h t).objs.size]}
abbrev Vj(h:wp)(t u:Ch):wp:=(Vo h t u).push {cls:=.type "tuple",data:=.seq #[.none,.none]}
abbrev Tt(h:wp)(t u:Ch):wp:=(Vj h t u).push {cls:=.type "zip",data:=.fields #[.none,.bool Uf,.bool Uf,.ref (Vm h t u).objs.size,.ref (Vo h t u).objs.size]}
def Dp(t u:Ch)(xs ys:Array Vl):
  Meets (Builtin.«zip.__new__» ⟨[.type "zip",.ref t,.ref u],[]⟩) (λ_ R s=>s.heap.IsTuple t xs/\s.heap.IsTuple u ys/\R (.ok (.ret (.ref (Vj s.heap t u).objs.size))) {s with heap:=Tt s.heap t u}):=
 .of_wp λprog w A R s h=>by
  obtain⟨hp,g,d,tk,os⟩:=s;obtain⟨e1,e2,h⟩:=h;have YH:=sub_zip;have q1:Heap.IsTuple (Shared.heap ⟨hp,g,d,tk,os⟩) t xs:=e1;have q2:Heap.IsTuple (Shared.heap ⟨hp.push {cls:=.type "tuple_iterator",data:=.fields #[.ref t,.int 0 0]},g,d,tk,os⟩) u ys:=Heap.IsTuple.push e2 _
  wp_walk using iC q1,iC q2
  exact⟨_,Z',h⟩
def Fu{t u:Ch}{xs ys:Array Vl}{Q:QQX}(ht:s.heap.IsTuple t xs)(hu:s.heap.IsTuple u ys) (h:∀g,XXj g (s.heap.objs.size+4) (s.heap.objs.size+2) (s.heap.objs.size+3) .none->IN g (s.heap.objs.size+2) (.ref s.heap.objs.size) (.ref (s.heap.objs.size+1))->IN g (s.heap.objs.size+3) .none .none->
   g.IsTupleIter s.heap.objs.size t 0->g.IsTupleIter (s.heap.objs.size+1) u 0->(∀c o,s.heap.get? c=Fa o->g.get? c=Fa o)->Q (.ref (s.heap.objs.size+4)) {s with heap:=g}):
  Tk (Tl prog w) A (call (.type "zip") [.ref t,.ref u]) Q E s:=by
 refine callType_new F.called_zip (by decide) (F.typeCall_zip_2 _ _) (F.newCall_zip_2 _ _) (λobj=>F.args_object_init_3 obj _ _) F.entry_zip_new (Dp t u xs ys) ⟨ht,hu,?_⟩;have m1:(Ve s.heap t).objs.size=s.heap.objs.size+1:=ft ..;have m2:(Vm s.heap t u).objs.size=s.heap.objs.size+2:=by rw[ft,m1]
 have m3:(Vo s.heap t u).objs.size=s.heap.objs.size+3:=by rw[ft,m2]
 have m4:(Vj s.heap t u).objs.size=s.heap.objs.size+4:=by rw[ft,m3]
 have up:∀{h:wp} {c:Ch} {o p:Obj},h.get? c=Fa o->(h.push p).get? c=Fa o:=λq=>dq _ q;have r5:(Tt s.heap t u).get? (Vj s.heap t u).objs.size=Fa _:=dN _ Z';have r4:(Tt s.heap t u).get? (Vo s.heap t u).objs.size=Fa _:=up (dN _ Z');have r3:(Tt s.heap t u).get? (Vm s.heap t u).objs.size=Fa _:=up (up (dN _ Z'));have r2:(Tt s.heap t u).get? (Ve s.heap t).objs.size=Fa _:=up (up (up (dN _ Z')));have r1:(Tt s.heap t u).get? s.heap.objs.size=Fa _:=up (up (up (up (dN _ Z'))));show _/\_;rw[m2,m3,m4]at r5;rw[m1,m2]at r3;rw[m3]at r4;rw[m1]at r2;rw[m4];exact⟨⟨_,r5,Z'⟩,h _ r5 r3 r4 ⟨_,r1,Z',Z'⟩ ⟨_,r2,Z',Z'⟩ λc o q=>up (up (up (up (up q))))⟩
def G4{z TI TO i1 i2:Ch}{n1 n2 k:Nat}{P1 P2:Nat->Vl->Prop}{S1 S2:Nat->wp->Prop}{Q:Option Vl->Sd->Prop}(D1:Draws prog w A.in1 i1 f1 n1 P1 S1)(D2:Draws prog w A.in1 i2 f2 n2 P2 S2)(Xu:Ai z TI TO i1 i2 f1 f2) (hz:XXj s.heap z TI TO .none) (hI:IN s.heap TI (.ref i1) (.ref i2)) (hO:IN s.heap TO a b) (XS:S1 k s.heap) (Xx:S2 k s.heap) (l1:k<n1) (l2:k<n2) (hQ:∀x y g tk,P1 k x->P2 k y->XXj g z TI TO (sK s.heap.objs.size)->IN g TO x y->S1 (k+1) g->S2 (k+1) g->IN g s.heap.objs.size x y->g.objs.size=s.heap.objs.size+1->
   (∀c o,c≠z->c≠TO->c≠i1->c≠i2->s.heap.get? c=Fa o->g.get? c=Fa o)->Q (Fa (.ref s.heap.objs.size)) {s with heap:=g,toks:=tk}):Tk (Tl prog w) A (pyNext (.ref z)) Q E s:=by
 have hT:s.TypeIs (.ref z) "zip":=⟨_,hz,Z'⟩;unfold pyNext;refine c9 (wpAny_attempt (fz (name:=Str.ofString "__next__") hT iX (fV iX hT lY ?_ (lG _))));exact J5 D1 D2 Xu hz hI hO XS Xx l1 l2 λx y g tk q1 q2 q3 q4 q5 q6 q7 q8 q9=>dC (hQ x y g tk q1 q2 q3 q4 q5 q6 q7 q8 q9)
def AK{z TI TO i1 i2:Ch}{n1 n2 k:Nat}{P1 P2:Nat->Vl->Prop}{S1 S2:Nat->wp->Prop}{Q:Option Vl->Sd->Prop}(D1:Draws prog w A.in1 i1 f1 n1 P1 S1)(D2:Draws prog w A.in1 i2 f2 n2 P2 S2)(Xu:Ai z TI TO i1 i2 f1 f2) (hz:XXj s.heap z TI TO .none) (hI:IN s.heap TI (.ref i1) (.ref i2)) (hO:IN s.heap TO a b) (XS:S1 k s.heap) (Xx:S2 k s.heap) (hend:k=n1\/(k<n1/\k=n2)) (hQ:∀g tk,(∀c o,c≠z->c≠TO->c≠i1->c≠i2->s.heap.get? c=Fa o->g.get? c=Fa o)->Q Db {s with heap:=g,toks:=tk}):Tk (Tl prog w) A (pyNext (.ref z)) Q E s:=by
 have hT:s.TypeIs (.ref z) "zip":=⟨_,hz,Z'⟩;unfold pyNext;refine c9 (wpAny_attempt (fz (name:=Str.ofString "__next__") hT iX (fV iX hT lY (NC D1 D2 Xu hz hI hO XS Xx hend λg e kp hx tk=>?_) (lG _))));obtain⟨o,e1,e2⟩:=hx;exact c9 (wpAny_isInstance (T:="StopIteration") (b:=true) ⟨o,e1,e2⟩ isSubtype_stop (dC (hQ g tk kp)))
def EE(I:Inv X Xa Y H s)(f:AN X Xa H b)(q:uS X.K H a xs):a≠b:=by
 rintro rfl
 rcases q with q|⟨o,its,n,hk,_⟩
 .have z:=f.1;rcases q with q|⟨u,q⟩<;>(rw[q]at z;cases z)
 .have e:=I.mod.oz a o hk;rcases f.2.2.2.1 with z|z
  .exact I.ok.nQ a o e z
  .exact absurd (dY (dI e) (eA I.ok.oa z)) (fm _)
noncomputable def V5(K:qo)(a b:Ch):It:=
 ⟨λi H=>∃xs ys x y,uS K H a xs/\uS K H b ys/\xs[i]?=Fa x/\ys[i]?=Fa y,λi H v H'=>∃p x y,v=.ref p/\H p=Db/\H'=upd H p (.tup [x,y])/\(∀xs,uS K H a xs->xs[i]?=Fa x)/\(∀ys,uS K H b ys->ys[i]?=Fa y),λi H=>∃xs ys,uS K H a xs/\uS K H b ys/\i=min xs.length ys.length⟩
def NG{P:Pg}{w:Wo}{K:qo}{Xz:T0 No}{n:Nat}{tp:Pos}(a b z TI TO i1 i2:Ch)(a1:TI≠z)(a2:TO≠z)(a3:i1≠z)(a4:i2≠z)(a5:TI≠TO)(a6:TI≠i1)(a7:TI≠i2)(a8:TO≠i1)(a9:TO≠i2)(pb:i1≠i2):
  Em P w K (.Tuple Xz n tp) (V5 K a b) [z,TI,TO,i1,i2] z (λi h=>XXj h z TI TO .none/\IN h TI (.ref i1) (.ref i2)/\(∃u v,IN h TO u v)/\h.IsTupleIter i1 a i/\h.IsTupleIter i2 b i) where
 mem:=by simp
 obj:=λi h st c hc=>by
  obtain⟨h1,h2,⟨u,v,h3⟩,⟨o4,h4,_,d4⟩,⟨o5,h5,_,d5⟩⟩:=st;simp only[dw,dH,eQ]at hc;rcases hc with rfl|rfl|rfl|rfl|rfl
  .exact⟨_,h1,λv z=>by cases z⟩
  .exact⟨_,h2,λv z=>by cases z⟩
  .exact⟨_,h3,λv z=>by cases z⟩
  .exact⟨_,h4,λv z=>by rw[d4]at z;cases z⟩
  .exact⟨_,h5,λv z=>by rw[d5]at z;cases z⟩
 keep:=λi h h' st k=>by obtain⟨h1,h2,⟨u,v,h3⟩,⟨o4,h4,c4⟩,⟨o5,h5,c5⟩⟩:=st;exact⟨k z (by simp) _ h1,k TI (by simp) _ h2,⟨u,v,k TO (by simp) _ h3⟩,⟨o4,k i1 (by simp) _ h4,c4⟩,⟨o5,k i2 (by simp) _ h5,c5⟩⟩
 item:=by
  intro X hP hw hK hc i Xa s Y H E I hf st hg;subst hP hw hK;obtain⟨xs,ys,x,y,hx,hy,ex,ey⟩:=hg;obtain⟨its,rx,px,_⟩:=I.tuple hx;obtain⟨Zf,ry,py,_⟩:=I.tuple hy;obtain⟨u,eu,ru⟩:=rx.get ex;obtain⟨v,ev,rv⟩:=ry.get ey;obtain⟨h1,h2,⟨p,q,h3⟩,h4,h5⟩:=st;have hh:X.A.in1.handled=Db:=I.ok.hd hc;have fa:∀c∈[z,TI,TO,i1,i2],a≠c:=λc hc=>EE I (hf c hc) hx;have fb:∀c∈[z,TI,TO,i1,i2],b≠c:=λc hc=>EE I (hf c hc) hy;have Xu:Ai z TI TO i1 i2 [i1,a] [i2,b]:=⟨a1,a2,a3,a4,a5,a6,a7,a8,a9,pb,by
   simp only[dw,dH,eQ,fS];exact⟨dW a3,dW (fa z (by simp))⟩,by
   simp only[dw,dH,eQ,fS];exact⟨a8,dW (fa TO (by simp))⟩,by
   simp only[dw,dH,eQ,fS];exact⟨dW pb,dW (fa i2 (by simp))⟩,by
   simp only[dw,dH,eQ,fS];exact⟨dW a4,dW (fb z (by simp))⟩,by
   simp only[dw,dH,eQ,fS];exact⟨a9,dW (fb TO (by simp))⟩,by
   simp only[dw,dH,eQ,fS];exact⟨pb,dW (fb i1 (by simp))⟩⟩
  have l1:i<its.toArray.size:=by
   have:=(de.mp eu).1
   simpa using this
  have l2:i<Zf.toArray.size:=by
   have:=(de.mp ev).1
   simpa using this
  refine G4 (yg hh i1 a (fa i1 (by simp)) its.toArray) (yg hh i2 b (fb i2 (by simp)) Zf.toArray) Xu h1 h2 h3 ⟨h4,px⟩ ⟨h5,py⟩ l1 l2 λx' y' g tk e1 e2 z1 o1 s1 s2 t1 sz kp=>?_;have e1':x'=u:=by
   have:its[i]?=Fa x':=by simpa using e1
   rw[eu]at this;exact(dA this).symm
  have Zt:y'=v:=by
   have:Zf[i]?=Fa y':=by simpa using e2
   rw[ev]at this;exact(dA this).symm
  subst e1' Zt;refine⟨_,Z',wpAny_letOwnedTupleGo_zip z1 λg2 z2 sb=>?_⟩;have zlt:z<s.heap.objs.size:=dI h1;have kk:∀c o,c∉[z,TI,TO,i1,i2]->s.heap.get? c=Fa o->g2.get? c=Fa o:=λc o hc e=>by simp only[dw,dH,eQ,fS]at hc;exact(sb.2 c hc.1).trans (kp c o hc.1 hc.2.2.1 hc.2.2.2.1 hc.2.2.2.2 e)
  have t2:g2.get? s.heap.objs.size=Fa {cls:=.type "tuple",data:=.seq #[x',y']}:=(sb.2 _ (gH zlt)).trans t1;have Y4:H s.heap.objs.size=Db:=I.mT.fresh (dB _);have I2:=I.drawn (ch:=[z,TI,TO,i1,i2]) (T:=s.heap.objs.size) (xs:=[x,y]) (its:=[x',y']) (h':=g2) (tk:=tk) hf kk (dB _) (by show 2<=pi;decide) (.cons ru (.cons rv .nil)) ⟨_,t2,Z',⟨_,Z'⟩,Z'⟩;refine⟨.ref s.heap.objs.size,_,I2,Z',⟨_,x,y,Z',Y4,Z',λxs' hx'=>by rw[I.m9 hx' hx];exact ex,λys' hy'=>by rw[I.m9 hy' hy];exact ey⟩,?_,λc hc=>?_⟩
  .obtain⟨o4,g4,c4⟩:=s1.1;obtain⟨o5,g5,c5⟩:=s2.1;exact⟨z2,(sb.2 _ a1).trans (kp _ _ a1 a5 a6 a7 h2),⟨_,_,(sb.2 _ a2).trans o1⟩,⟨o4,(sb.2 _ a3).trans g4,c4⟩,⟨o5,(sb.2 _ a4).trans g5,c5⟩⟩
  .have n0:=(hf c hc).1;obtain⟨o,eo⟩:∃o,s.heap.get? c=Fa o:=by
    obtain⟨o4,g4,_⟩:=h4;obtain⟨o5,g5,_⟩:=h5;simp only[dw,dH,eQ]at hc;rcases hc with rfl|rfl|rfl|rfl|rfl
    .exact⟨_,h1⟩
    .exact⟨_,h2⟩
    .exact⟨_,h3⟩
    .exact⟨_,g4⟩
    .exact⟨_,g5⟩
   rw[pV (dU (dI eo))];exact n0
 done:=by
  intro X hP hw hK hc i Xa s Y H E I hf st hg;subst hP hw hK;obtain⟨xs,ys,hx,hy,hi⟩:=hg;obtain⟨its,rx,px,_⟩:=I.tuple hx;obtain⟨Zf,ry,py,_⟩:=I.tuple hy;obtain⟨h1,h2,⟨p,q,h3⟩,h4,h5⟩:=st;have hh:X.A.in1.handled=Db:=I.ok.hd hc;have fa:∀c∈[z,TI,TO,i1,i2],a≠c:=λc hc=>EE I (hf c hc) hx;have fb:∀c∈[z,TI,TO,i1,i2],b≠c:=λc hc=>EE I (hf c hc) hy;have Xu:Ai z TI TO i1 i2 [i1,a] [i2,b]:=⟨a1,a2,a3,a4,a5,a6,a7,a8,a9,pb,by
   simp only[dw,dH,eQ,fS];exact⟨dW a3,dW (fa z (by simp))⟩,by
   simp only[dw,dH,eQ,fS];exact⟨a8,dW (fa TO (by simp))⟩,by
   simp only[dw,dH,eQ,fS];exact⟨dW pb,dW (fa i2 (by simp))⟩,by
   simp only[dw,dH,eQ,fS];exact⟨dW a4,dW (fb z (by simp))⟩,by
   simp only[dw,dH,eQ,fS];exact⟨a9,dW (fb TO (by simp))⟩,by
   simp only[dw,dH,eQ,fS];exact⟨pb,dW (fb i1 (by simp))⟩⟩
  have e1:=rx.length;have e2:=ry.length;refine AK (yg hh i1 a (fa i1 (by simp)) its.toArray) (yg hh i2 b (fb i2 (by simp)) Zf.toArray) Xu h1 h2 h3 ⟨h4,px⟩ ⟨h5,py⟩ (by simp only[dD];omega) λg tk kp=>⟨Z',?_⟩;have kk:∀c o,c∉[z,TI,TO,i1,i2]->s.heap.get? c=Fa o->g.get? c=Fa o:=λc o hc e=>by simp only[dw,dH,eQ,fS]at hc;exact kp c o hc.1 hc.2.2.1 hc.2.2.2.1 hc.2.2.2.2 e
  refine I.step (g':=s.gens) (d':=s.drawn) (t':=tk) (ch:=[z,TI,TO,i1,i2]) (λc hc=>⟨(hf c hc).2.2.2.1,(hf c hc).2.1,(hf c hc).2.2.2.2.1,(hf c hc).2.2.2.2.2⟩) ?_ ?_ (λc o _ e n=>n) ?_ (λ_ _ e=>e) (λ_ _ _ e=>e) (λc ps e=>⟨#[],by rw[e];simp⟩) ?_ ?_ I.bare
  .exact λc o _ _ hc e _=>kk c o hc e
  .exact λc o _ _ hc e _=>⟨o.slots,kk c o hc e⟩
  .exact λc o hc e=>⟨o,kk c o hc e⟩
  .intro m hm;obtain⟨o,es,ep,ho,r⟩:=hm;exact⟨o,es,ep,kk _ o (λy=>(hf _ y).2.1 Z') ho,r⟩
  .intro c u e;refine(I.mT c u e).nH (λd v hd q=>kk d v (λy=>?_) q) (λ_ q=>q) λ_ _ q=>q;have n:=(hf d y).1;rcases hd with x|x
   .rw[x,e]at n;cases n
   .rw[x]at n;cases n
 self:=λ_ _ _ _ _ st h=>lZ st.1 h
def SQ{a b:No}{ta:TA}(hg:Gl X "zip")(hm:X.mg "zip"=Db)(ha:PA X [a,b] ta)(hs:zn [a,b] X.env=[(Uf,Op a X.env),(Uf,Op b X.env)]:=by rfl)(X0:zn [b] X.env=[(Uf,Op b X.env)]:=by rfl):
  PI X (.Tuple Xz n tp) (.Call (.Name "zip" p) [a,b] [] pos) (λY H R=>ta Y H λvs H1=>∃l m,vs=[.ref l,.ref m]/\(∃xs,uS X.K H1 l xs)/\(∃xs,uS X.K H1 m xs)/\R (V5 X.K l m) H1):=by
 intro Xa s Y H R I h;refine Call_ (wm I hg hm S5 (fG (sC (ha pos Xa s Y H _ I h) λus s1 zz=>x5 zz λvs H1 I1 r1 q1=>?_) (by rw[hs,X0]) (by rw[X0];rfl)));obtain⟨l,m,e,⟨xs,hx⟩,⟨ys,hy⟩,q⟩:=q1;subst e;obtain⟨u,v,rfl,ru,rv⟩:=Nd r1;cases ru;cases rv;obtain⟨its,_,px,_⟩:=I1.tuple hx;obtain⟨Zf,_,py,_⟩:=I1.tuple hy;refine Fu px py λg h1 h2 h3 h4 h5 hk=>lZ h1 ?_;have I2:Inv X Xa Y H1 {s1 with heap:=g}:=I1.kept (t':=s1.toks) hk;refine⟨s1.heap.objs.size+4,[s1.heap.objs.size+4,s1.heap.objs.size+2,s1.heap.objs.size+3,s1.heap.objs.size,s1.heap.objs.size+1],_,_,H1,Z',I2,NG l m _ _ _ _ _ ?_ ?_ ?_ ?_ ?_ ?_ ?_ ?_ ?_ ?_,⟨h1,h2,⟨_,_,h3⟩,h4,h5⟩,λb hb=>?_,q⟩
 .exact λz=>by have z:s1.heap.objs.size+2=s1.heap.objs.size+4:=z;omega
 .exact λz=>by have z:s1.heap.objs.size+3=s1.heap.objs.size+4:=z;omega
 .exact λz=>by have z:s1.heap.objs.size=s1.heap.objs.size+4:=z;omega
 .exact λz=>by have z:s1.heap.objs.size+1=s1.heap.objs.size+4:=z;omega
 .exact λz=>by have z:s1.heap.objs.size+2=s1.heap.objs.size+3:=z;omega
 .exact λz=>by have z:s1.heap.objs.size+2=s1.heap.objs.size:=z;omega
 .exact λz=>by have z:s1.heap.objs.size+2=s1.heap.objs.size+1:=z;omega
 .exact λz=>by have z:s1.heap.objs.size+3=s1.heap.objs.size:=z;omega
 .exact λz=>by have z:s1.heap.objs.size+3=s1.heap.objs.size+1:=z;omega
 .exact λz=>by have z:s1.heap.objs.size=s1.heap.objs.size+1:=z;omega
 .have XH:s1.heap.objs.size<=b:=by
   simp only[dw,dH,eQ]at hb;rcases hb with rfl|rfl|rfl|rfl|rfl
   .exact iN _ _
   .exact iN _ _
   .exact iN _ _
   .exact dB _
   .exact iN _ _
  exact I1.nR XH (I1.mT.fresh XH)
noncomputable def AY:T0 D->T0 D->T0 D
 | x::a,y::b=>.tup [x,y]::AY a b
 | _,_=>[]
theorem JL:∀{ds es:T0 D} {i:Nat},(AY ds es)[i]?=(ds[i]?).bind λd=>(es[i]?).map λe=>D.tup [d,e]
 | [],es,i=>by simp[AY]
 | d::ds,[],i=>by simp[AY]
 | d::ds,e::es,0=>by simp[AY]
 | d::ds,e::es,i+1=>by show(AY ds es)[i]?=_;rw[JL];simp
theorem Fo:∀{ds es:T0 D},(AY ds es).length=min ds.length es.length
 | [],es=>by simp[AY]
 | d::ds,[]=>by simp[AY]
 | d::ds,e::es=>by show(AY ds es).length+1=_;rw[Fo];simp only[eC];omega
def Pu{K:qo}{ds es:T0 D}(h1:uS K H1 a xs)(h2:qk K H1 ds xs)(g1:uS K H1 b ys)(g2:qk K H1 es ys):E1 K H1 (V5 K a b) (AY ds es) (λ_=>True) where
 go:=λi H M hi hm ok e1=>by rw[Fo]at hi;obtain⟨x,ex,_⟩:=h2.get (dg (show i<ds.length by omega));obtain⟨y,ey,_⟩:=g2.get (dg (show i<es.length by omega));exact⟨xs,ys,x,y,e1.t _ _ h1,e1.t _ _ g1,ex,ey⟩
 oS:=λi d H M v H' hd hm ok e1 y=>by
  obtain⟨p,x,z,rfl,hp,rfl,y1,y2⟩:=y;rw[JL]at hd;cases e:ds[i]? with
  | none=>rw[e]at hd;cases hd
  | some d'=>
   cases e':es[i]? with
   | none=>rw[e,e']at hd;cases hd
   | some d''=>rw[e,e']at hd;cases hd;obtain⟨x',q1,hx⟩:=h2.get e;obtain⟨z',q2,hz⟩:=g2.get e';have w1:=y1 xs (e1.t _ _ h1);have w2:=y2 ys (e1.t _ _ g1);rw[q1]at w1;rw[q2]at w2;have v1:x'=x:=dA w1;have v2:z'=z:=dA w2;subst v1 v2;have ex:qS K H (upd H p (.tup [x',z'])):=.new hp;exact⟨.tup (.of qc) (.cons (hx.mono (e1.trans ex)) (.cons (hz.mono (e1.trans ex)) .nil)),hm.add hp,ex⟩
 stop:=λH M hm ok e1=>⟨xs,ys,e1.t _ _ h1,e1.t _ _ g1,by rw[Fo,h2.length,g2.length]⟩
def Uq(t:xt):L4:=λU M R=>t U M λds M1=>match ds with
 | [.tup a,.tup b]=>R (AY a b) (λ_=>True) M1
 | _=>False
def Td{a b:No}{ta:xt}(hg:Gl X "zip")(hm:X.mg "zip"=Db)(ha:A3 X [a,b] ta)(hs:zn [a,b] X.env=[(Uf,Op a X.env),(Uf,Op b X.env)]:=by rfl)(X0:zn [b] X.env=[(Uf,Op b X.env)]:=by rfl):
  I3 X (.Tuple Xz n tp) (.Call (.Name "zip" p) [a,b] [] pos) (Uq ta):=
 PI.mono (SQ hg hm ha hs X0) λY H R' zz=>x7 zz λU M R hs hm ht k=>⟨U,M,_,hs,hm,ht,λvs H1 ds M1 hd Xc e1 q1=>by
  split at q1
  .obtain⟨v,u,rfl,hv,hw⟩:=Bk hd;obtain⟨l,xs,rfl,h1,h2⟩:=hv.mQ;obtain⟨m,ys,rfl,g1,g2⟩:=hw.mQ;exact⟨l,m,Z',⟨xs,h1⟩,⟨ys,g1⟩,k _ H1 _ _ M1 (Pu h1 h2 g1 g2) Xc e1 trivial q1⟩
  .exact q1.elim⟩
def qp(M M':Mp):Prop:=∀a c,M a=Fa c->M' a=Fa c
def qp.refl:qp M M:=λ_ _ h=>h
def qp.trans{M M1 M2:Mp}(a:qp M M1)(b:qp M1 M2):qp M M2:=λx c h=>b x c (a x c h)
def qp.new{M:Mp}{p:Ch}{c:uY}(h:M p=Db):qp M (pE M p c):=λx d q=>by rw[uo (Tc q h)];exact q
def qp.lst{ds:T0 D}(s:qp M M')(h:oj M a=Fa ds):oj M' a=Fa ds:=by
 unfold oj at h ⊢;cases e:M a with
 | none=>rw[e]at h;cases h
 | some c=>rw[s a c e];rw[e]at h;exact h
def HM.sub{K:qo}(h:HM K H M')(s:qp M M'):HM K H M:=λa c q=>h a c (s a c q)
def UW{st:ZB}{sp:rk}(F:P5 K x qual st f fd)(S:tq N ps (qa st))(len:∀ds M Q,sp ds M Q->ds.length=ps.length) (Xv:∀(Xk:Vl) (A:Ar) (outer:T0 Env) (s:Sd) (H:Hp) (E:XK),rY k (A.deeper (xL qual (qa st) s.heap.objs.size f Xk))->
   ∃t,He (vE On P w K mg base N qual (qa st) f Xk A outer s H E).ow (rS st) t/\∀ds M Q,sp ds M Q->t {nx:=λ_ M'=>∃Xf,qp Xf M'/\Q .mP Xf,rt:=λd M'=>∃Xf,qp Xf M'/\Q d Xf} (xf N ds) M):Tr P w K mg base (k+1) f fd ps sp:=by
 refine F.ok S (λvs H Q E h=>?_) (λXk A outer s H vs Q' E hr h=>?_)
 .obtain⟨ds,M,Q,hd,_,hs,_⟩:=h;rw[<-hd.length];exact len ds M Q hs
 .obtain⟨ds,M,Q,hd,hm,hs,k⟩:=h;obtain⟨t,ht,hb⟩:=Xv Xk A outer s H E hr;exact⟨_,ht,xf N ds,M,_,DS hd,hm,hb ds M Q hs,λσ' H' δ' M' _ x2 x3 _ ⟨Xf,y1,y2⟩=>k .mP H' .mP Xf .mP (x2.sub y1) x3 y2,λv H' d M' x1 x2 x3 ⟨Xf,y1,y2⟩=>k v H' d Xf x1 (x2.sub y1) x3 y2,λ_ _ _ _ _ _ _ _ z=>z,λ_ _ _ _ _ _ _ _ z=>z⟩
theorem Cg{g:D6}{te:T3}{ok:Mp->Prop}{Q:DK}{f:D->D}{M:Mp}(J:vq->Prop)(mT:ok M):∀(ds acc:T0 D) (U:vq),J U->acc.length+ds.length<=pi->
  (∀d∈ds,∀U,J U->∀k:vq->DK,(∀δ',J δ'->k δ' (f d) M)->g d U M λδ2 M2=>te δ2 M2 (k δ2))->(∀p,M p=Db->Q (.ref p) (pE M p (.lst (acc++ds.map f))))->uU g B1 te ok Q ds acc U M
 | [],acc,U,_,hl,_,hq=>⟨by simpa using hl,by simpa using hq⟩
 | d::r,acc,U,hj,hl,ht,hq=>by
  rw[eC]at hl;refine⟨by omega,?_⟩;refine ht d dP U hj (λδ2 y M4=>ok M4/\uU g B1 te ok Q r (acc++[y]) δ2 M4) λδ' hj'=>⟨mT,Cg (f:=f) J mT r (acc++[f d]) δ' hj' ?_ (λe he=>ht e (dF _ he)) ?_⟩
  .rw[df,dM];omega
  .simpa using hq
def qW{te:T3}{ok:Mp->Prop}{Q:DK}{f:D->D}{M:Mp}(mT:ok M):∀(ds acc:T0 D) (U:vq),acc.length+ds.length<=pi->(∀d∈ds,∀k:DK,k (f d) M->te (U.set i (Fa d)) M k)->
  (∀p,M p=Db->Q (.ref p) (pE M p (.lst (acc++ds.map f))))->uU (sf i) B1 te ok Q ds acc U M:=λds acc U hl ht hq=>
 Cg (f:=f) (λδ'=>∀d,δ'.set i (Fa d)=U.set i (Fa d)) mT ds acc U (λ_=>rfl) hl (λd hd δ' hj k hk=>by
  show te (δ'.set i (Fa d)) M (k (δ'.set i (Fa d)));rw[hj d];exact ht d hd _ (hk _ λe=>by rw[jR])) hq
theorem yp{α:Type}(f:α->Bool):∀l:List α,Gs (l.map λx=>D.bl (f x))=Fa (l.map f)
 | []=>rfl
 | x::r=>by show(Gs (r.map λx=>D.bl (f x))).map (f x::·)=_;rw[yp f r];rfl
def pD{p:Ch}{ds:T0 D}:oj (pE M p (.lst ds)) p=Fa ds:=by unfold oj;rw[pS]
def i'{α:Type}{o:Option α}{P:α->Prop}{x:α}(e:o=Fa x)(h:P x):o.elim False P:=by rw[e];exact h
def o9{l:T0 D}(h:decide (l.length<=100)=pc):l.length<=pi:=by have z:=dS;have:=fO h;omega
theorem Bx{g:D6}{tb:xy}{ok:Mp->Prop}{E:G2}(J:vq->Mp->Prop)(mT:∀U M,J U M->ok M):∀(ds:T0 D) (U:vq) (M:Mp),J U M->
  (∀d∈ds,∀U M,J U M->∀nx:vq->Mp->Prop,(∀δ' M',J δ' M'->nx δ' M')->g d U M λδ2 M2=>tb {E with nx:=nx,ct:=nx,bk:=E.nx} δ2 M2)->(∀U M,J U M->E.nx U M)->Dl g tb ok E ds U M
 | [],U,M,j,_,hn=>hn U M j
 | d::r,U,M,j,ht,hn=>ht d dP U M j (λδ' M'=>ok M'/\Dl g tb ok E r δ' M') λδ' M' j'=>⟨mT δ' M' j',Bx J mT r δ' M' j' (λe he=>ht e (dF _ he)) hn⟩
theorem tF{g:D6}{tb:xy}{ok:Mp->Prop}{E:G2}(all:T0 D)(J:T0 D->vq->Mp->Prop)(mT:∀p U M,J p U M->ok M):∀(ds pre:T0 D) (U:vq) (M:Mp),pre++ds=all->J pre U M->
  (∀pre d post,pre++d::post=all->∀U M,J pre U M->∀nx:vq->Mp->Prop,(∀δ' M',J (pre++[d]) δ' M'->nx δ' M')->g d U M λδ2 M2=>tb {E with nx:=nx,ct:=nx,bk:=E.nx} δ2 M2)->(∀U M,J all U M->E.nx U M)->Dl g tb ok E ds U M
 | [],pre,U,M,e,j,_,hn=>hn U M (by rw[<-e,eE];exact j)
 | d::r,pre,U,M,e,j,ht,hn=>ht pre d r e U M j (λδ' M'=>ok M'/\Dl g tb ok E r δ' M') λδ' M' j'=>⟨mT _ δ' M' j',tF all J mT r (pre++[d]) δ' M' (by rw[<-e,eV];rfl) j' ht hn⟩
def Gm{K:qo}{t:Vl}:W.kitOne K t t=Fa pc:=by unfold W.kitOne;rw[dz (by simp)]
def S9{K:qo}{t c:Vl}{b:Bool}(h:W.kitCls K t c=Fa b)(ne:b=Uf->(t==c)=Uf):W.kitOne K t c=Fa b:=by
 unfold W.kitOne;by_cases e:(t==c)=pc
 .rw[dz e];cases b with
  | true=>rfl
  | false=>rw[ne Z']at e;cases e
 .rw[dh e];exact h
def N0{K:qo}{t:Vl}{b:Bool}(m:W.kitMeta T=pc)(s:W.subIn K t (.type T)=Fa b)(ne:b=Uf->(t==.type T)=Uf):W.kitOne K t (.type T)=Fa b:=by refine S9 ?_ ne;unfold W.kitCls;simp only;rw[dz m];exact s
def II:W.kitMeta "bool"=pc:=by decide+kernel
def Mt{c:Bool}{A B:Prop}(h:c=Uf)(hb:B):if c=pc then A else B:=by subst h;exact B6 hb
def Ba{c:Bool}{A B:Prop}(h:c=pc)(ha:A):if c=pc then A else B:=by subst h;exact OS ha
def Vq{t u:xy}{E:G2}{U:vq}{M:Mp}(R:vq->Mp->Prop)(h2:∀nx:vq->Mp->Prop,(∀δ' M',R δ' M'->nx δ' M')->t {E with nx:=nx} U M)(h1:∀δ' M',R δ' M'->u E δ' M'):uk t u E U M:=h2 (u E) h1
def Uk{K:qo}{ns:T0 Int}(hO:MD H)(hS:za K H a (ns.map V.int)):rO K H (.rl (ns.map D.int)) (.ref a):=by
 have r:Ph K H a (ns.map V.int):=by
  rcases hS with h|h
  .rcases h with h|⟨o,h⟩
   .rcases hO a with z|⟨o,xs,z⟩<;>(rw[h]at z;cases z)
   .exact .inl ⟨o,h⟩
  .exact .inr h
 unfold rO;exact⟨a,_,Z',r,.ints⟩
def S'{K:qo}{sp:rk}{ns:T0 Int}(hO:MD H)(hS:za K H a (ns.map V.int))(h:sp [.rl (ns.map D.int)] (λ_=>Db) λd _=>d=.bl pc):Ol K sp [.ref a] H (λv _=>v=.bl pc) λ_ _ _=>False:=
 ⟨_,λ_=>Db,_,.cons (Uk hO hS) .nil,λ_ _ z=>(by cases z),h,λv H' d M' x1 _ _ x4=>by subst x4;exact x1.mO⟩
def Og{l:W.OpenLaw}{q:Pg}{X2:QQQ}{XP:(QQZ)->wp->Prop}{YP:Wo->wp->Prop}{d:DefRec}{K:Params->qo}{x:Str}{sp:rk}(hn:l.most=Fa 63)(ZP:d.params.defaults=[])(hr:rY k callerA) (hY:∀(w:Wo) (h:wp),YP w h->(K w.params).In h) (YF:∀ns:T0 Int,ns.length<=63->sp [.rl (ns.map D.int)] (λ_=>Db) λd _=>d=.bl pc) (F:∀(w:Wo) (mg:QQZ) (fa:Ch) (h:wp),(K w.params).In h->h.Ns wv mg->mg d.name=Fa (.ref fa)->
   ∃fd:At,(∀(s:Sd) (u:Vl),BindsTo s fd ⟨[u],[]⟩ [(x,u)])/\∀base:wp,(K w.params).In base->base.Ns wv mg->Tr l.prog w (K w.params) mg base k fa fd [x] sp):
  W.WalkO q X2 XP YP l.row.toRowW d [] (λf vs=>PySem.call f vs):=
 L2.OQ (n:=63) (k:=k) (x:=x) (CX:=λ_=>On) (sp:=λw=>Ol (K w.params) sp) hn (by decide) ZP hr hY F (λ_ _ a ns hl hO hS=>S' hO hS (YF ns hl)) λ_ _ _ _ _ z=>z
def KD(K:qo)(mg:QQZ)(x:Str)(d:D):Prop:=C4 λv u=>mg x=Fa u/\qN v u/\∀H,rO K H d v
def SU{K:qo}{mg:QQZ}{x y:Str}{t:Tok}(h:mg x=Fa (.str y t)):KD K mg x (.str y):=⟨.str y,_,h,⟨t,Z'⟩,λ_=>.str⟩
def we{K:qo}{mg:QQZ}{x:Str}{y:Int}{t:Tok}(h:mg x=Fa (.int y t)):KD K mg x (.int y):=⟨.int y,_,h,⟨t,Z'⟩,λ_=>.int⟩
def uz{K:qo}{a:Ch}{ss:QQQ}{us:T0 Vl}{n:Nat}{sl:Array (Option Vl)}(h:K.lookup a=Fa ⟨.type "tuple",Db,.seq us.toArray n,sl⟩)(r:qD (ss.map V.str) us)(hz:us.length<=1000):uS K (λ_=>Db) a (ss.map V.str):=
 .inr ⟨_,us.toArray,n,h,Z',Z',Z',by rw[dD,dS];omega,by simpa using r⟩
theorem An{K:qo}:∀{ss:QQQ},qk K H (ss.map D.str) (ss.map V.str)
 | []=>.nil
 | _::_=>.cons .str An
def Py{K:qo}{mg:QQZ}{x:Str}{a:Ch}{ss:QQQ}(h:mg x=Fa (.ref a))(q:uS K (λ_=>Db) a (ss.map V.str)):KD K mg x (.tup (ss.map D.str)):=
 ⟨.ref a,_,h,Z',λ_=>.tup (Jr q) An⟩
variable {d:D}{i:No}{td tk:T3}{F:T0 (Str × QQQ)}
def sJ(hg:Gl X x)(h:KD X.K X.mg x d)(hd:zb x:=by decide):E3 X (.Name x pos) (c3 d):=by obtain⟨v,u,hm,r,hh⟩:=h;exact PE.mono (EV hg hm r hd) λY H Q' zz=>x7 zz λU M Q hs hm ht k=>k _ H _ M (hh H) hm .refl ht
def Wd(F:T0 (Str×QQQ))(ta:T3):T3:=λU M Q=>ta U M λx M1=>match x with|.str k=>Q (.bl (KTD.datumAt k F).isSome) M1|_=>False
def UZ(F:T0 (Str×QQQ))(ta:T3):T3:=λU M Q=>ta U M λx M1=>match x with|.str k=>(KTD.datumAt k F).elim False λss=>Q (.tup (ss.map D.str)) M1|_=>False
def Le(T:Na X.K X.mg x F)(hg:Gl X x)(he:E3 X e ta)(hd:zb x:=by decide)(hmk:AT .In (.Name x p)=Uf:=by rfl):E3 X (.Compare e [.In] [.Name x p] pos) (Wd F ta):=by
 obtain⟨a,hm,T⟩:=Hd T;refine PE.mono (Jt (r:=λy z H Q=>∃k,y=.str k/\z=.ref a/\Q (.bl (KTD.datumAt k F).isSome) H) (λXa s Y H y z v u Q I ry rz ⟨k,e1,e2,q⟩=>?_) he (EV (v:=.ref a) hg hm Z' hd) hmk) λY H Q' zz=>x7 zz λU M Q hs hm ht k=>⟨U,M,_,hs,hm,ht,λv H1 d M1 hd Xc e1 q1=>?_⟩
 .subst e1 e2;obtain⟨t,rfl⟩:=ry;obtain rfl:u=Value.ref a:=rz;exact Sf (T s.heap I.ni) ⟨.bl (KTD.datumAt k F).isSome,H,I.tok _,Z',q⟩
 .cases d with
  | str k'=>exact⟨k',hd.str_inv,Z',k _ _ _ _ .bl Xc e1 q1⟩
  | _=>exact q1.elim
def KB(T:Na X.K X.mg x F)(hg:Gl X x)(he:E3 X e ta)(hd:zb x:=by decide)(hs:Br e:=by exact λ_ _=>rfl):E3 X (.Subscript (.Name x p) e pos) (UZ F ta):=by
 obtain⟨a,hm,T⟩:=Hd T;refine PE.mono (Mw (r:=λz y H Q=>∃k ss,y=.str k/\z=.ref a/\KTD.datumAt k F=Fa ss/\∀t,uS X.K H t (ss.map V.str)->Q (.ref t) H) (λvalue Xl Xa s Y H z y o i Q I rz ry ⟨k,ss,e1,e2,e3,q⟩ hs=>?_) (EV (v:=.ref a) hg hm Z' hd) he hs) λY H Q' zz=>x7 zz λU M Q hs hm ht k=>⟨U,M,_,hs,hm,ht,λv H1 d M1 hd Xc e1 q1=>?_⟩
 .subst e1 e2;obtain⟨t,rfl⟩:=ry;obtain rfl:o=Value.ref a:=rz;have hT:=yF (s:=s) (T s.heap I.ni);have h2:Tk (Tl X.prog X.w) X.A (XXe (.ref a) (.str k t)) (EP X Xa Y Q) X.xe s:=Mb (T s.heap I.ni) e3 λv ⟨t',e4,q4⟩=>⟨.ref t',H,I.tok _,e4,q t' (Jr q4)⟩;unfold subscriptTail;refine c9 ?_;rw[kl hT.not_modules];refine c9 (j5 hT jD.lookup ?_);have Xe:Tk (Tl X.prog X.w) X.A (subscripted Xl Uf (.ref a) (.str k t)) (λr s₃=>Tk (Tl X.prog X.w) X.A (letTemporaryGo value (.ref a) r>>=λ_=>pure r) (EP X Xa Y Q) X.xe s₃) X.xe s:=by rw[hs];exact wpAny_operating (eJ h2 (λr s₃ h₃=>c9 (ky (dC h₃))) λ_ _ x=>x)
  first
   | exact dC (c9 Xe)
   | exact c9 (dC (c9 Xe))
   | exact c9 Xe
 .cases d with
  | str k'=>obtain⟨ss,e4,q2⟩:=qV q1;exact⟨k',ss,hd.str_inv,Z',e4,λt qt=>k _ _ _ _ (.tup qt An) Xc e1 q2⟩
  | _=>exact q1.elim
noncomputable def zP(M:Mp)(a:Ch):Option (T0 (rq×D)):=match M a with
 | some (.dk kvs)=>Fa kvs
 | _=>Db
noncomputable def vI(kvs:T0 (rq×D))(k:rq):Option D:=(kvs.find? λp=>decide (p.1=k)).map (·.2)
def Cj{K:qo}{kvs:T0 (rq×D)}(hm:HM K H M)(h:zP M a=Fa kvs):∃vs,H a=Fa (.dK vs)/\vs.map (·.1)=kvs.map (·.1)/\qk K H (kvs.map (·.2)) (vs.map (·.2)):=by
 unfold zP at h;cases e:M a with
 | none=>rw[e]at h;cases h
 | some c=>
  rw[e]at h;have ok:=hm a c e;cases c with
  | dk es=>cases h;exact ok
  | ins _ _=>cases h
  | lst _=>cases h
  | exc _=>cases h
theorem Ee{K:qo}{k:rq}:∀{kvs:T0 (rq×D)} {vs:T0 (rq×V)},vs.map (·.1)=kvs.map (·.1)->qk K H (kvs.map (·.2)) (vs.map (·.2))->(∀d,vI kvs k=Fa d->∃v,xc vs k=Fa v/\rO K H d v)/\(vI kvs k=Db->xc vs k=Db)
 | [],[],_,_=>⟨λd z=>(by cases z),λ_=>rfl⟩
 | [],_::_,e,_=>by cases e
 | _::_,[],e,_=>by cases e
 | (j,d)::kvs,(j',v)::vs,e,h=>by
  have e1:j'=j:=by simpa using(gY e).1
  subst e1;obtain⟨x,r,e2,h1,h2⟩:=h.inv;obtain⟨e3,e4⟩:=gY e2;subst e3 e4;have ih:=Ee (k:=k) (kvs:=kvs) (vs:=vs) (gY e).2 h2;by_cases hk:j'=k
  .have g:vI ((j',d)::kvs) k=Fa d:=by simp[vI,hk]
   have g':xc ((j',v)::vs) k=Fa v:=by simp[xc,hk]
   rw[g,g'];exact⟨λd' z=>by cases z;exact⟨v,Z',h1⟩,λz=>by cases z⟩
  .have g:vI ((j',d)::kvs) k=vI kvs k:=by simp[vI,hk]
   have g':xc ((j',v)::vs) k=xc vs k:=by simp[xc,hk]
   rw[g,g'];exact ih
def Nx(x y:D)(M:Mp)(Q:DK):Prop:=match x,y with
 | .ref a,.str k=>(zP M a).elim False λkvs=>(vI kvs (.inr k)).elim False λd=>Q d M
 | _,_=>False
def TB(td tk:T3):T3:=λU M Q=>td U M λx M1=>tk U M1 λy M2=>Nx x y M2 Q
def zy(hu:X.A.units+9<Y')(ho:E3 X o td)(hi:E3 X i tk)(hs:Br i:=by exact λ_ _=>rfl):E3 X (.Subscript o i pos) (TB td tk):=by
 refine PE.mono (Mw (r:=R3 X.K Nx) (λvalue Xl Xa s Y H vx vy v u Q' I rx ry h hs=>?_) ho hi hs) Ia;obtain⟨x,y,M,Q,hx,hy,hm,q,k⟩:=h;unfold Nx at q;split at q
 .rename_i a0 k0;obtain⟨kvs,e1,q⟩:=qV q;obtain⟨d,e2,q⟩:=qV q;cases hx.mK;cases hy.str_inv;obtain⟨vs,h1,h2,h3⟩:=Cj hm e1;obtain⟨w,e3,hw⟩:=(Ee h2 h3).1 d e2;refine OF (by omega) value Xl Xa s Y H _ _ v u Q' I rx ry ⟨_,w,Z',?_,k _ _ _ _ hw hm .refl q⟩ hs;have g:=Ft.k (k:=Sum.inr k0) h1;rw[e3]at g;exact g
 .exact q.elim
def Th(YN:Bool)(x y:D)(M:Mp)(Q:DK):Prop:=match x,y with
 | .str k,.ref a=>(zP M a).elim False λkvs=>Q (.bl (if YN then !(vI kvs (.inr k)).isSome else(vI kvs (.inr k)).isSome)) M
 | _,_=>False
def Mn{K:qo}{k:rq}{kvs:T0 (rq×D)}{vs:T0 (rq×V)}(h2:vs.map (·.1)=kvs.map (·.1))(h3:qk K H (kvs.map (·.2)) (vs.map (·.2))):(xc vs k).isSome=(vI kvs k).isSome:=by
 obtain⟨a,b⟩:=Ee (k:=k) h2 h3;cases e:vI kvs k with
 | none=>rw[b e];rfl
 | some d=>obtain⟨v,e3,_⟩:=a d e;rw[e3];rfl
def Wl(YN:Bool)(tk td:T3):T3:=λU M Q=>tk U M λx M1=>td U M1 λy M2=>Th YN x y M2 Q
def UN(hu:X.A.units+9<Y'):ya X (Ps .In) (R3 X.K (Th Uf)):=λXa s Y H vx vy v u Q' I rx ry h=>by
 obtain⟨x,y,M,Q,hx,hy,hm,q,k⟩:=h;unfold Th at q;split at q
 .obtain⟨kvs,e1,q⟩:=qV q;cases hy.mK;cases hx.str_inv;obtain⟨vs,h1,h2,h3⟩:=Cj hm e1;refine SL (by omega) Xa s Y H _ _ v u Q' I rx ry ⟨_,_,Z',Ft.k (k:=Sum.inr _) h1,?_⟩;rw[Mn h2 h3];exact k _ _ _ _ .bl hm .refl q
 .exact q.elim
def Nn(hu:X.A.units+9<Y')(hi:E3 X i tk)(ho:E3 X o td)(hm:AT .In o=Uf:=by first|exact Iu _|with_unfolding_all rfl):B3 X (.Compare i [.In] [o] pos) (b3 (Wl Uf tk td)):=PT.mono (IP (UN hu) hi ho hm) λY H Q' zz=>x7 zz λU M Q hs hm ht k=>
 Ia Y H _ ⟨U,M,_,hs,hm,ht,λv H1 d M1 hd Xc e1 q1=>by
  cases d with
  | bl c=>exact⟨c,hd.mO,k c H1 M1 Xc e1 q1⟩
  | _=>exact q1.elim⟩
noncomputable def wO:T0 D->Option (T0 (rq×D))
 | []=>Fa []
 | .tup [.str k,d]::r=>(wO r).map ((.inr k,d)::·)
 | _::_=>Db
theorem DQ{K:qo}:∀{es:T0 D} {kvs:T0 (rq×D)} {xs:T0 V},wO es=Fa kvs->qk K H es xs->∃(ts:QXQ) (vs:T0 (rq×V)),xs=ts.map V.ref/\ts.length=vs.length/\vs.map (·.1)=kvs.map (·.1)/\qk K H (kvs.map (·.2)) (vs.map (·.2))/\
  ∀(j:Nat) (t:Ch) (p:rq×V),ts[j]?=Fa t->vs[j]?=Fa p->uS K H t [kV p.1,p.2]
 | [],_,_,e,h=>by cases e;exact⟨[],[],h.nil_inv,Z',Z',.nil,λj t p z=>by simp at z⟩
 | d::es,kvs,xs,e,h=>by
  obtain⟨x,r,rfl,h1,h2⟩:=h.inv;unfold wO at e;split at e
  .rename_i z;cases z
  .rename_i k d' r' z;cases z;cases q:wO es with
   | none=>rw[q]at e;cases e
   | some kvs'=>
    rw[q]at e;cases e;obtain⟨ts,vs,e1,e2,e3,e4,e5⟩:=DQ q h2;obtain⟨a,ys,rfl,g1,g2⟩:=h1.mQ;obtain⟨y,r1,rfl,g3,g4⟩:=g2.inv;obtain⟨w,r2,rfl,g5,g6⟩:=g4.inv;cases g6.nil_inv;cases g3.str_inv;refine⟨a::ts,(.inr k,w)::vs,by rw[e1];rfl,by simpa using e2,by rw[d9,d9,e3],.cons g5 e4,λj t p z1 z2=>?_⟩;cases j with
    | zero=>
     have z1':a=t:=by simpa using z1
     have z2':(Sum.inr k,w)=p:=by simpa using z2
     subst z1' z2';exact g1
    | succ j=>exact e5 j t p (by simpa using z1) (by simpa using z2)
  .cases e
def QS(ds:T0 D)(M:Mp)(Q:DK):Prop:=match ds with
 | [.ref a]=>(oj M a).elim False λes=>(wO es).elim False λkvs=>(kvs.map (·.1)).Nodup/\∀p,M p=Db->Q (.ref p) (pE M p (.dk kvs))
 | _=>False
def ER(hc:X.calm=pc):C3 X (.type "dict") QS:=by
 intro Xa s Y H vs us Q' I rv h;obtain⟨ds,M,Q,hd,hm,q,k⟩:=h;unfold QS at q;split at q
 .obtain⟨es,e1,q⟩:=qV q;obtain⟨kvs,e2,hnd,q⟩:=qV q;obtain⟨v,rfl,hv⟩:=rP hd;cases hv.mK;obtain⟨xs,h1,h2,_⟩:=qz hm e1;obtain⟨ts,ws,rfl,f2,f3,f4,f5⟩:=DQ e2 h2;refine Hm hc Xa s Y H _ us Q' I rv ⟨_,ts,ws,Z',h1,f2,f5,by rw[f3];exact hnd,λd hd=>?_⟩;have e:qS X.K H (upd H d (.dK ws)):=.new hd;exact k _ _ _ _ .ref (hm.new (c:=.dk kvs) hd ⟨_,qc,f3,f4.mono e⟩) e (q d (hm.fresh hd))
 .exact q.elim
def SM:Go "set"=Fa (.type "set"):=by decide+kernel
noncomputable def BQ:T0 D->Option (QQQ)
 | []=>Fa []
 | .str x::r=>(BQ r).map (x::·)
 | _::_=>Db
theorem CC:∀ss:QQQ,BQ (ss.map D.str)=Fa ss
 | []=>rfl
 | x::r=>by show(BQ (r.map D.str)).map (x::·)=_;rw[CC r];rfl
theorem F8{K:qo}:∀{ds:T0 D} {ss:QQQ} {xs:T0 V},BQ ds=Fa ss->qk K H ds xs->xs=ss.map V.str
 | [],_,_,e,h=>by cases e;exact h.nil_inv
 | d::ds,_,_,e,h=>by
  obtain⟨x,r,rfl,h1,h2⟩:=h.inv;cases d with
  | str z=>
   unfold BQ at e;cases q:BQ ds with
   | none=>rw[q]at e;cases e
   | some ss=>rw[q]at e;cases e;rw[h1.str_inv,F8 q h2];rfl
  | _=>cases e
def UY(ta:T3):T3:=λU M Q=>ta U M λx M1=>(Ln M1 x).elim False λes=>(BQ es).elim False λss=>ss.length<4000/\Q (.int (sX ss).length) M1
def Kr(hc:X.calm=pc)(he:E3 X e ta)(hg1:Gl X "len")(Xc:X.mg "len"=Db)(hg2:Gl X "set")(Xs:X.mg "set"=Db)(b1:Go "len"=Fa (.builtin "len"))(b2:Go "set"=Fa (.type "set")) (hs:zn [e] X.env=[(Uf,Op e X.env)]:=by rfl):E3 X (.Call (.Name "len" p) [.Call (.Name "set" p2) [e] [] Y3] [] pos) (UY ta):=
 PE.mono (KZ hc he hg1 Xc hg2 Xs b1 b2 hs) λY H Q' zz=>x7 zz λU M Q hs hm ht k=>⟨U,M,_,hs,hm,ht,λv H1 d M1 hd Xc e1 q1=>by
  obtain⟨es,e2,q1⟩:=qV q1;obtain⟨ss,e3,hz,q1⟩:=qV q1;obtain⟨a,xs,rfl,h1,h2⟩:=FP Xc hd e2;rw[F8 e3 h2]at h1;have z:XXa=4096:=rfl;exact⟨a,ss,Z',h1,by omega,k _ _ _ _ .int Xc e1 q1⟩⟩
def RI(x:D)(ds:T0 D)(M:Mp)(Q:DK):Prop:=match x,ds with
 | .ref a,[y]=>(oj M a).elim False λes=>es.length<pi/\Q .mP (pE M a (.lst (es++[y])))
 | _,_=>False
def qh{es:T0 D}(h:oj M a=Fa es):M a=Fa (.lst es):=by
 unfold oj at h;split at h
 .rename_i e;rw[e];cases h;rfl
 .cases h
def zr{K:qo}{es:T0 D}(hm:HM K H M)(h:oj M a=Fa es):∃xs,H a=Fa (.lst xs)/\qk K H es xs:=hm a _ (qh h)
def J':M3 X "list.append" RI:=by
 intro Xa s Y H vx vs v us Q' I rx rv h;obtain⟨x,ds,M,Q,hx,hd,hm,q,k⟩:=h;unfold RI at q;split at q
 .obtain⟨es,e1,hz,q⟩:=qV q;obtain⟨w,rfl,hw⟩:=rP hd;cases hx.mK;obtain⟨xs,h1,h2⟩:=zr hm e1;refine KH Xa s Y H _ _ v us Q' I rx rv ⟨_,xs,w,Z',Z',h1,by rw[<-h2.length];exact hz,?_⟩;obtain⟨Xs,ex⟩:=hm.put (c:=.lst (es++[_])) (qh e1) λex=>⟨_,qc,(h2.mono ex).snoc (hw.mono ex)⟩;exact k _ _ _ _ .mP Xs ex q
 .exact q.elim
def Sy(x:D)(ds:T0 D)(M:Mp)(Q:DK):Prop:=match x,ds with
 | .ref a,[.ref b]=>(oj M a).elim False λes=>(oj M b).elim False λfs=>es.length+fs.length<=pi/\Q .mP (pE M a (.lst (es++fs)))
 | _,_=>False
def KJ:M3 X "list.extend" Sy:=by
 intro Xa s Y H vx vs v us Q' I rx rv h;obtain⟨x,ds,M,Q,hx,hd,hm,q,k⟩:=h;unfold Sy at q;split at q
 .obtain⟨es,e1,q⟩:=qV q;obtain⟨fs,e2,hz,q⟩:=qV q;obtain⟨w,rfl,hw⟩:=rP hd;cases hx.mK;cases hw.mK;obtain⟨xs,h1,h2⟩:=zr hm e1;obtain⟨ys,g1,g2⟩:=zr hm e2;refine Kz Xa s Y H _ _ v us Q' I rx rv ⟨_,_,xs,ys,Z',Z',h1,g1,by rw[<-h2.length,<-g2.length];exact hz,?_⟩;obtain⟨Xs,ex⟩:=hm.put (c:=.lst (es++fs)) (qh e1) λex=>⟨_,qc,(h2.mono ex).append (g2.mono ex)⟩;exact k _ _ _ _ .mP Xs ex q
 .exact q.elim
def qJ(ho:E3 X o ta)(ha:A3 X (e::es) t)(Xr:xz o "append" X.env (Op o X.env)=Op o X.env:=by rfl)
  (X6:((Ix pos (zn (e::es) X.env)).all (λx=>!x.1)&&(wE pos (Rs [] X.env)).all (λx=>x.1.isSome)&&decide ((e::es).length+([]:T0 W').length+(if ([]:T0 W').isEmpty then 0 else 1)<30))=pc:=by rfl)
  (XA:(Xd.endLine==pos.line)=pc:=by rfl) (hs:A6 X e es:=by rfl) (Xn:BJ X pos es:=by rfl):
  E3 X (.Call (.Attribute o "append" Xd) (e::es) [] pos) (Vc RI ta t):=MN PySem.F.slot_list_append PySem.F.type_list_append J' ho ha Xr X6 XA hs Xn
def EL(ho:E3 X o ta)(ha:A3 X (e::es) t)(Xr:xz o "extend" X.env (Op o X.env)=Op o X.env:=by rfl)
  (X6:((Ix pos (zn (e::es) X.env)).all (λx=>!x.1)&&(wE pos (Rs [] X.env)).all (λx=>x.1.isSome)&&decide ((e::es).length+([]:T0 W').length+(if ([]:T0 W').isEmpty then 0 else 1)<30))=pc:=by rfl)
  (XA:(Xd.endLine==pos.line)=pc:=by rfl) (hs:A6 X e es:=by rfl) (Xn:BJ X pos es:=by rfl):
  E3 X (.Call (.Attribute o "extend" Xd) (e::es) [] pos) (Vc Sy ta t):=MN PySem.F.slot_list_extend PySem.F.type_list_extend KJ ho ha Xr X6 XA hs Xn
def qp.none{M M2:Mp}{q:Ch}(s:qp M M2)(h:M2 q=Db):M q=Db:=by
 cases e:M q with
 | none=>rfl
 | some c=>rw[s q c e]at h;cases h
def qp.upd{M M2:Mp}{c:uY}(s:qp M M2):qp (pE M q c) (pE M2 q c):=λx d h=>by
 by_cases e:x=q
 .subst e;rw[pS]at h ⊢;exact h
 .rw[uo e]at h ⊢;exact s x d h
def qp.dk{ds:T0 (rq×D)}(s:qp M M')(h:zP M a=Fa ds):zP M' a=Fa ds:=by
 unfold zP at h ⊢;cases e:M a with
 | none=>rw[e]at h;cases h
 | some c=>rw[s a c e];rw[e]at h;exact h
def rZ(p:Ch)(M M':Mp):Prop:=∀b c,b≠p->M b=Fa c->M' b=Fa c
def qp.keep{p:Ch}(s:qp M M'):rZ p M M':=λb c _ h=>s b c h
def rZ.trans{M M1 M2:Mp}{p:Ch}(a:rZ p M M1)(b:rZ p M1 M2):rZ p M M2:=λx c n h=>b x c n (a x c n h)
def rZ.put{p:Ch}{c:uY}:rZ p M (pE M p c):=λb d n h=>by rw[uo n];exact h
def rZ.lst{p a:Ch}{ds:T0 D}(k:rZ p M M')(n:a≠p)(h:oj M a=Fa ds):oj M' a=Fa ds:=by have:=k a _ n (qh h);unfold oj;rw[this]
def rZ.dk{p a:Ch}{ds:T0 (rq×D)}(k:rZ p M M')(n:a≠p)(h:zP M a=Fa ds):zP M' a=Fa ds:=by
 unfold zP at h ⊢;cases e:M a with
 | none=>rw[e]at h;cases h
 | some c=>rw[k a c n e];rw[e]at h;exact h
def pT{a p C:Ch}{ds:T0 D}{fs:T0 (Str×D)}(h:oj M a=Fa ds)(hp:M p=Fa (.ins C fs)):a≠p:=λz=>by subst z;rw[qh h]at hp;cases hp
def Ca{a p C:Ch}{ds:T0 (rq×D)}{fs:T0 (Str×D)}(h:zP M a=Fa ds)(hp:M p=Fa (.ins C fs)):a≠p:=λz=>by subst z;unfold zP at h;rw[hp]at h;cases h
def sQ{M:Mp}{p:Ch}{ds:T0 D}(h:M p=Fa (.lst ds)):oj M p=Fa ds:=by unfold oj;rw[h]
def D8{M:Mp}{p:Ch}{ds:T0 (rq×D)}(h:M p=Fa (.dk ds)):zP M p=Fa ds:=by unfold zP;rw[h]
def tw{N:Mp}{p q C:Ch}{fs fs':T0 (Str×D)}{c:uY}(hp:N p=Fa (.ins C fs))(hq:N q=Db):
  q≠p/\pE N q c p=Fa (.ins C fs)/\rZ p N (pE (pE N q c) p (.ins C fs'))/\pE (pE N q c) p (.ins C fs') q=Fa c/\pE (pE N q c) p (.ins C fs') p=Fa (.ins C fs'):=by
 have n:p≠q:=Tc hp hq;refine⟨dW n,by rw[uo n];exact hp,(qp.new hq).keep.trans .put,by rw[uo (dW n),pS],pS⟩
theorem FN{g:D6}{te:T3}{ok:Mp->Prop}{Q:DK}(all:T0 D)(J:T0 D->T0 D->vq->Mp->Prop)(mT:∀p acc U M,J p acc U M->ok M):∀(ds pre acc:T0 D) (U:vq) (M:Mp),pre++ds=all->acc.length+ds.length<=pi->J pre acc U M->
  (∀pre d post,pre++d::post=all->∀acc U M,J pre acc U M->∀k:vq->DK,(∀δ2 y M4,J (pre++[d]) (acc++[y]) δ2 M4->k δ2 y M4)->g d U M λδ2 M2=>te δ2 M2 (k δ2))->
  (∀acc U M,J all acc U M->∀p,M p=Db->Q (.ref p) (pE M p (.lst acc)))->uU g B1 te ok Q ds acc U M
 | [],pre,acc,U,M,e,hl,j,_,hq=>⟨by simpa using hl,hq acc U M (by rw[<-e,eE];exact j)⟩
 | d::r,pre,acc,U,M,e,hl,j,ht,hq=>by rw[eC]at hl;refine⟨by omega,?_⟩;refine ht pre d r e acc U M j (λδ2 y M4=>ok M4/\uU g B1 te ok Q r (acc++[y]) δ2 M4) λδ2 y M4 j'=>⟨mT _ _ _ _ j',FN all J mT r (pre++[d]) (acc++[y]) δ2 M4 (by rw[<-e,eV];rfl) ?_ j' ht hq⟩;rw[df,dM];omega
noncomputable def uV:Nat->D->Bool
 | _,.mP=>pc
 | _,.bl _=>pc
 | _,.int _=>pc
 | _,.str _=>pc
 | n+1,.tup ds=>ds.all (uV n)
 | _,_=>Uf
theorem yR{f:D->D->Option Bool}:∀ds:T0 D,(∀d∈ds,f d d=Fa pc)->sR f ds ds=Fa pc
 | [],_=>rfl
 | d::r,h=>by show(f d d).bind (λp=>(sR f r r).map λq=>p&&q)=Fa pc;rw[h d dP,yR r λe he=>h e (dF _ he)];rfl
theorem Ct:∀(n:Nat) (d:D),uV n d=pc->yA M (n+1) d d=Fa pc
 | _,.mP,_=>rfl
 | _,.bl _,_=>by simp[yA]
 | _,.int _,_=>by simp[yA]
 | _,.str _,_=>by simp[yA]
 | n+1,.tup ds,h=>by have h:ds.all (uV n)=pc:=h;show(sR (yA M (n+1)) ds ds).map (λp=>p&&ds.length==ds.length)=Fa pc;rw[yR ds λd hd=>Ct n d (eU.mp h d hd)];simp
 | 0,.tup _,h=>by cases h
 | 0,.ref _,h=>by cases h
 | _+1,.ref _,h=>by cases h
 | 0,.ty _,h=>by cases h
 | _+1,.ty _,h=>by cases h
 | 0,.rl _,h=>by cases h
 | _+1,.rl _,h=>by cases h
def D7{ds:T0 D}(ha:oj M a=Fa ds)(hb:oj M b=Fa ds)(h:∀d∈ds,yA M n d d=Fa pc):yA M (n+1) (.ref a) (.ref b)=Fa pc:=by show(oj M a).bind (λi=>(oj M b).bind λj=>if i.length=j.length then sR (yA M n) i j else Fa Uf)=Fa pc;rw[ha,hb];show(if ds.length=ds.length then sR (yA M n) ds ds else Fa Uf)=Fa pc;rw[dz Z'];exact yR ds h
def SX(tc:AD)(tb:xy):xy:=λE U M=>∃W:Nat->vq->Mp->Prop,(∃m,W m U M)/\∀m U M,W m U M->
 tc U M λb M1=>if b=pc then tb {E with nx:=λδ' M'=>∃m',m'<m/\W m' δ' M',ct:=λδ' M'=>∃m',m'<m/\W m' δ' M',bk:=E.nx} U M1 else E.nx U M1
def Mm{tc:AD}{tb:xy}(hp:PassesOwn (Tl X.prog X.w) X.A X.env X.xe)(hc:B3 X c tc)(hb:He X body tb):S3 X (.While c body [] pos) (SX tc tb):=
 PS.mono (Lj hp hc hb) λD' Y H ⟨U,M,E,hs,hm,⟨W,⟨m0,w0⟩,turn⟩,k1,k2,k3,k4⟩=>by
 refine⟨λm σ' H'=>∃δ' M',zQ X.K H' σ' δ'/\HM X.K H' M'/\qS X.K H H'/\σ'.length=Y.length/\W m δ' M',⟨m0,U,M,hs,hm,.refl,Z',w0⟩,?_⟩
 rintro m σ1 H1 ⟨δ1,M1,hs1,Xc,e1,l1,w1⟩
 refine⟨δ1,M1,_,hs1,Xc,turn m δ1 M1 w1,λb H2 M2 Xs e2 q2=>?_⟩;cases b with
 | false=>rw[dh dE]at q2 ⊢;exact k1 σ1 H2 δ1 M2 (hs1.mono e2) Xs (e1.trans e2) l1 q2
 | true=>
  rw[dz Z']at q2 ⊢;refine⟨λσ' H'=>∃δ' M',zQ X.K H' σ' δ'/\HM X.K H' M'/\qS X.K H H'/\σ'.length=Y.length/\∃m',m'<m/\W m' δ' M',?_,δ1,M2,_,hs1.mono e2,Xs,q2,?_,?_,?_,?_⟩
  .rintro σ' H' ⟨δ',M',a1,a2,a3,a4,m',lt,w⟩
   exact⟨m',lt,δ',M',a1,a2,a3,a4,w⟩
  .exact λσ' H' δ' M' y1 y2 y3 y4 y5=>⟨δ',M',y1,y2,e1.trans (e2.trans y3),by rw[y4,l1],y5⟩
  .exact λv H' d M' y1 y2 y3 y4=>k2 v H' d M' y1 y2 (e1.trans (e2.trans y3)) y4
  .exact λσ' H' δ' M' y1 y2 y3 y4 y5=>k1 σ' H' δ' M' y1 y2 (e1.trans (e2.trans y3)) (by rw[y4,l1]) y5
  .exact λσ' H' δ' M' y1 y2 y3 y4 y5=>⟨δ',M',y1,y2,e1.trans (e2.trans y3),by rw[y4,l1],y5⟩
noncomputable def Ti(op:XYa)(x y:D):Option D:=match op,x,y with
 | .Add,.int i,.int j=>Fa (.int (i+j))
 | .Sub,.int i,.int j=>Fa (.int (i - j))
 | _,_,_=>Db
def Sq(op:XYa):V->V->Hp->VK->Prop:=λvx vy H Q=>match op,vx,vy with
 | .Add,.int i,.int j=>Q (.int (i+j)) H
 | .Sub,.int i,.int j=>Q (.int (i - j)) H
 | _,_,_=>False
def RF:Pc X op (Sq op):=by
 intro Xa s Y H x y u v Q I rx ry h;unfold Sq at h;split at h
 .exact Sr Xa s Y H _ _ u v Q I rx ry ⟨_,_,Z',Z',h⟩
 .exact RC Xa s Y H _ _ u v Q I rx ry ⟨_,_,Z',Z',h⟩
 .exact h.elim
def PB{K:qo}{x y z:D}{Q:VK}(hx:rO K H x vx)(hy:rO K H y vy)(e:Ti op x y=Fa z)(k:∀vz,rO K H z vz->Q vz H):Sq op vx vy H Q:=by
 unfold Ti at e;split at e
 .cases e;cases hx.int_inv;cases hy.int_inv;exact k _ .int
 .cases e;cases hx.int_inv;cases hy.int_inv;exact k _ .int
 .cases e
def U6(K:qo)(f:Str)(op:XYa)(ta tv:T3):xy:=λE U M=>ta U M λx M1=>match x with
 | .ref a=>zo (M1 a) λC fs=>ue K C f/\(fs.lookup f).elim False λd=>tv U M1 λy M2=>(Ti op d y).elim False λz=>zo (M2 a) λC' fs'=>C'=C/\fs'.length<1000/\E.nx U (pE M2 a (.ins C (wc f z fs')))
 | _=>False
def Dz{f:Str}(ha:E3 X o ta)(hv:E3 X value tv):S3 X (.AugAssign (.Attribute o f Zq) op value pos) (U6 X.K f op ta tv):=
 PS.mono (Kq ha hv RF) λD' Y H zz=>K6 zz λU M E hs hm ht k1 k2 k3 k4=>
 ⟨U,M,_,hs,hm,ht,λv H1 d M1 hd Xc e1 q1=>by
  cases d with
  | ref a=>
   cases hd.mK;obtain⟨C,fs,e,q1⟩:=xC q1;obtain⟨na,q1⟩:=q1;obtain⟨d,ed,q1⟩:=qV q1;obtain⟨dx,vs,h1,cl,nn,fo⟩:=Xc a _ e;obtain⟨w,ew,hw⟩:=(wQ fo).1 d ed;refine⟨a,C,dx,vs,w,Z',h1,cl,na,ew,U,M1,_,hs.mono e1,Xc,q1,λu H2 y M2 hy Xs e2 q2=>?_⟩;obtain⟨z,ez,q2⟩:=qV q2;obtain⟨C',fs',e',q2⟩:=xC q2;obtain⟨rfl,hl,q2⟩:=q2;refine PB (hw.mono e2) hy ez λvz hz=>?_;obtain⟨Z2,vs',XW,cl',nn',fo'⟩:=Xs a _ e';have Xg:vs'.length=fs'.length:=by have:=eZ List.length fo'.1;simpa using this
   refine⟨Z2,vs',XW,by omega,?_⟩;obtain⟨Yb,e3⟩:=Xs.put (p:=a) (o:=.ins C' Z2 (vJ f vz vs')) (c:=.ins C' (wc f z fs')) e' λx=>⟨Z2,_,qc,cl',λg hg=>by
    rcases BA hg with q|q
    .rw[q];exact na
    .exact nn' g q,ET (hz.mono x) (fo'.mono x)⟩
   exact k1 Y _ U _ (hs.mono (e1.trans (e2.trans e3))) Yb (e1.trans (e2.trans e3)) Z' q2
  | _=>exact q1.elim⟩
theorem tP{i:Nat}{tt:AD}{te:T3}{ok:Mp->Prop}{Q:DK}{f:D->D}{t:D->Bool}{M:Mp}(mT:ok M):∀(ds acc:T0 D) (U:vq),acc.length+ds.length<=pi->
  (∀d∈ds,∀k:Bool->Mp->Prop,k (t d) M->tt (U.set i (Fa d)) M k)->(∀d∈ds,t d=pc->∀k:DK,k (f d) M->te (U.set i (Fa d)) M k)->
  (∀p,M p=Db->Q (.ref p) (pE M p (.lst (acc++(ds.filter t).map f))))->uU (sf i) tt te ok Q ds acc U M
 | [],acc,U,hl,_,_,hq=>⟨by simpa using hl,by simpa using hq⟩
 | d::r,acc,U,hl,ht,he,hq=>by
  rw[eC]at hl;refine⟨by omega,?_⟩;show tt (U.set i (Fa d)) M _;refine ht d dP _ ?_;have z:∀e:D,(U.set i (Fa d)).set i (Fa e)=U.set i (Fa e):=λe=>by rw[jR]
  cases q:t d with
  | true=>
   rw[dz Z'];refine he d dP q _ ⟨mT,tP (f:=f) (t:=t) mT r (acc++[f d]) _ ?_ (λe m k h=>?_) (λe m h0 k h=>?_) ?_⟩
   .rw[df,dM];omega
   .rw[z];exact ht e (dF _ m) k h
   .rw[z];exact he e (dF _ m) h0 k h
   .intro p hp;have:=hq p hp;rw[gB q]at this
    simpa using this
  | false=>
   rw[dh dE];refine⟨mT,tP (f:=f) (t:=t) mT r acc _ (by omega) (λe m k h=>?_) (λe m h0 k h=>?_) ?_⟩
   .rw[z];exact ht e (dF _ m) k h
   .rw[z];exact he e (dF _ m) h0 k h
   .intro p hp;have:=hq p hp;rw[fT (by rw[q];exact dE)]at this;exact this
section
variable {a:No}
def VY(ta:T3):T3:=λU M Q=>ta U M λx M1=>match x with|.int i=>Q (.int (-i)) M1|_=>False
def EZ(ha:E3 X a ta):E3 X (.UnaryOp .USub a pos) (VY ta):=PE.mono (U5 Tg ha) λY H Q' zz=>x7 zz λU M Q hs hm ht k=>
 ⟨U,M,_,hs,hm,ht,λv H1 d M1 hd Xc e1 q1=>by
  cases d with
  | int i=>cases hd.int_inv;exact⟨i,Z',k _ H1 _ M1 .int Xc e1 q1⟩
  | _=>exact q1.elim⟩
end
end L3
namespace L2
open PySem.W
variable {prog:Pg}{w:Wo}{A:Ar}{E:QQX}{s:Sd}
end L2
namespace L3
open L2
variable {X:Cx}{pos:Pos}{a b o i:No}{ta tb ti to:T3}
def T5(to ti:T3):D6:=λd U M Q=>to U M λx M1=>ti U M1 λy M2=>match x,y with
 | .ref p,.int k=>(oj M2 p).elim False λes=>(G9 es.length k).elim False λj=>Q U (pE M2 p (.lst (es.set j d)))
 | _,_=>False
theorem qk.set{K:qo}(hv:rO K H d v):∀{ds:T0 D} {xs:T0 V} (j:Nat),qk K H ds xs->qk K H (ds.set j d) (xs.set j v)
 | [],_,j,h=>by rw[h.nil_inv];simp only[List.set_nil];exact .nil
 | e::ds,_,0,h=>by obtain⟨x,r,rfl,h1,h2⟩:=h.inv;exact .cons hv h2
 | e::ds,_,j+1,h=>by obtain⟨x,r,rfl,h1,h2⟩:=h.inv;exact .cons h1 (qk.set hv j h2)
def Tn(ho:E3 X o to)(hi:E3 X i ti) (ha:∀v,assign (.Subscript o i pos) X.env v=(do
   let ov<-sB [v] (Op o X.env);let iv<-sB [v,ov] (Op i X.env)
   XXc pos
   sB [v,ov,iv] (setItem ov iv v)
   release [v,ov,iv] []):=by intro _;rfl):G3 X (.Subscript o i pos) (T5 to ti):=
 PG.mono (RE ho hi LG ha) λv Y H Q' ⟨d,U,M,Q,hd,hs,hm,ht,k⟩=>
 ⟨U,M,_,hs,hm,ht,λvx H1 x M1 hx Xc e1 q1=>⟨U,M1,_,hs.mono e1,Xc,q1,λvy H2 y M2 hy Xs e2 q2=>by
  cases x with
  | ref p=>
   cases y with
   | int j0=>obtain⟨es,f1,q2⟩:=qV q2;obtain⟨j,f2,q2⟩:=qV q2;cases(hx.mono e2).mK;cases hy.int_inv;obtain⟨xs,h1,h2⟩:=zr Xs f1;refine⟨p,xs,j0,j,Z',Z',h1,by rw[<-h2.length];exact f2,?_⟩;have hd2:=hd.mono (e1.trans e2);obtain⟨Yb,e3⟩:=Xs.put (o:=.lst (xs.set j v)) (c:=.lst (es.set j d)) (qh f1) λex=>⟨_,qc,(h2.mono ex).set (hd2.mono ex) j⟩;exact k Y _ U _ (hs.mono (e1.trans (e2.trans e3))) Yb (e1.trans (e2.trans e3)) Z' q2
   | _=>exact q2.elim
  | _=>exact q2.elim⟩⟩
end L3
namespace L2
variable {prog:Pg}{w:Wo}{A:Ar}{E:QQX}{s:Sd}{X:Cx}
end L2
namespace L3
open L2
variable {X:Cx}{pos Xd p:Pos}{a b o e i value:No}{es:T0 No}{ta tb ti to tv td tk:T3}{t:xt}
def Tj(x y:D)(M:Mp)(Q:DK):Prop:=match x,y with
 | .ref a,.int k=>(oj M a).elim False λes=>(0<=k/\k<=1000/\es.length<=1000)/\∀p,M p=Db->Q (.ref p) (pE M p (.lst (List.replicate k.toNat es).flatten))
 | _,_=>False
theorem Jv{K:qo}(h:qk K H ds xs):∀n:Nat,qk K H (List.replicate n ds).flatten (List.replicate n xs).flatten
 | 0=>.nil
 | n+1=>by rw[eN,eN,fY,fY];exact h.append (Jv h n)
def SW:ya X (wS .Mult) (R3 X.K Tj):=λXa s Y H vx vy v u Q' I rx ry h=>by
 obtain⟨x,y,M,Q,hx,hy,hm,q,k⟩:=h;unfold Tj at q;split at q
 .obtain⟨es,e1,⟨q1,q2,q3⟩,q⟩:=qV q;cases hx.mK;cases hy.int_inv;obtain⟨xs,h1,h2⟩:=zr hm e1;have hz:=dS;have hl:=h2.length;refine S6 Xa s Y H _ _ v u Q' I rx ry ⟨_,_,xs,Z',Z',h1,by omega,by omega,?_,λpp hp=>?_⟩
  .exact eA (km (show xs.length<=1000 by omega) (show Int.toNat _<=1000 by omega)) (by rw[hz];decide)
  .exact k _ _ _ _ .ref (hm.new (c:=.lst _) hp ⟨_,qc,(Jv h2 _).mono (.new hp)⟩) (.new hp) (q pp (hm.fresh hp))
 .exact q.elim
def Ur(ta tb:T3):T3:=λU M Q=>ta U M λx M1=>tb U M1 λy M2=>Tj x y M2 Q
def Cq(ha:E3 X a ta)(hb:E3 X b tb):E3 X (.BinOp a .Mult b pos) (Ur ta tb):=PE.mono (QZ SW ha hb) Ia
noncomputable def CP(kvs:T0 (rq×D))(k:rq)(v:D):T0 (rq×D):=if (kvs.any λkv=>decide (kv.1=k))=pc then kvs.map (λkv=>if kv.1=k then(kv.1,v)else kv)else kvs++[(k,v)]
theorem F5{κ α β:Type}{k:κ}[DecidableEq κ]:∀{xs:T0 (κ×α)} {ys:T0 (κ×β)},xs.map (·.1)=ys.map (·.1)->(xs.any λkv=>decide (kv.1=k))=ys.any λkv=>decide (kv.1=k)
 | [],[],_=>rfl
 | [],_::_,e=>by cases e
 | _::_,[],e=>by cases e
 | x::xs,y::ys,e=>by obtain⟨e1,e2⟩:=gY e;rw[gh,gh,F5 e2];have e1:x.1=y.1:=e1;rw[e1]
def K4{K:qo}{k:rq}(hv:rO K H d v){kvs:T0 (rq×D)}{vs:T0 (rq×V)}(h1:vs.map (·.1)=kvs.map (·.1))(h2:qk K H (kvs.map (·.2)) (vs.map (·.2))):
  (yS vs k v).map (·.1)=(CP kvs k d).map (·.1)/\qk K H ((CP kvs k d).map (·.2)) ((yS vs k v).map (·.2)):=by
 have go:∀{kvs:T0 (rq×D)} {vs:T0 (rq×V)},vs.map (·.1)=kvs.map (·.1)->qk K H (kvs.map (·.2)) (vs.map (·.2))->
   (vs.map (λkv=>if kv.1=k then(kv.1,v)else kv)).map (·.1)=(kvs.map (λkv=>if kv.1=k then(kv.1,d)else kv)).map (·.1)/\qk K H ((kvs.map (λkv=>if kv.1=k then(kv.1,d)else kv)).map (·.2)) ((vs.map (λkv=>if kv.1=k then(kv.1,v)else kv)).map (·.2)):=λ{kvs}=>by
  induction kvs with
  | nil=>intro vs e h;cases vs with
   | nil=>exact⟨Z',.nil⟩
   | cons _ _=>cases e
  | cons c r ih=>intro vs e h;cases vs with
   | nil=>cases e
   | cons w ws=>
    obtain⟨e1,e2⟩:=gY e;obtain⟨x,xr,e3,g1,g2⟩:=h.inv;obtain⟨e4,e5⟩:=gY e3;subst e4 e5;obtain⟨i1,i2⟩:=ih e2 g2;have e1:w.1=c.1:=e1;by_cases hk:c.1=k
    .have w1:(if w.1=k then(w.1,v)else w)=(w.1,v):=dz (e1.trans hk);have w2:(if c.1=k then(c.1,d)else c)=(c.1,d):=dz hk;simp only[d9,w1,w2];exact⟨by rw[i1,e1],.cons hv i2⟩
    .have w1:(if w.1=k then(w.1,v)else w)=w:=dh λz=>hk (e1.symm.trans z);have w2:(if c.1=k then(c.1,d)else c)=c:=dh hk;simp only[d9,w1,w2];exact⟨by rw[i1,e1],.cons g1 i2⟩
 unfold yS CP;rw[F5 (k:=k) h1];by_cases hk:(kvs.any λkv=>decide (kv.1=k))=pc
 .rw[dz hk,dz hk];exact go h1 h2
 .rw[dh hk,dh hk];exact⟨by rw[dQ,dQ,h1];rfl,by rw[dQ,dQ];exact h2.append (.cons hv .nil)⟩
def Uj(td tk tv:T3):xy:=λD U M=>tv U M λv M1=>td U M1 λx M2=>tk U M2 λy M3=>match x,y with
 | .ref a,.str k=>(zP M3 a).elim False λkvs=>kvs.length<pi/\D.nx U (pE M3 a (.dk (CP kvs (.inr k) v)))
 | _,_=>False
def zC{a:Ch}{kvs:T0 (rq×D)}(h:zP M a=Fa kvs):M a=Fa (.dk kvs):=by
 unfold zP at h;split at h
 .rename_i e;rw[e];cases h;rfl
 .cases h
def Qm(hu:X.A.units+9<Y')(ho:E3 X o td)(hi:E3 X i tk)(hv:E3 X value tv)(hs:TD value (Fa (.Subscript o i Xj)) pos.line X.env=pure Uf:=by rfl):S3 X (.Assign [.Subscript o i Xj] value pos) (Uj td tk tv):=
 PS.mono (OT (by omega) ho hi hv hs) λD' Y H zz=>K6 zz λU M D hs hm ht k1 k2 k3 k4=>
 ⟨U,M,_,hs,hm,ht,λv H1 d M1 hd Xc e1 q1=>⟨U,M1,_,hs.mono e1,Xc,q1,λvx H2 x M2 hx Xs e2 q2=>⟨U,M2,_,hs.mono (e1.trans e2),Xs,q2,λvy H3 y M3 hy Yb e3 q3=>by
  split at q3
  .rename_i a0 k0;obtain⟨kvs,f1,f2,q3⟩:=qV q3;cases(hx.mono e3).mK;cases hy.str_inv;obtain⟨vs,h1,h2,h3⟩:=Cj Yb f1;have hl:vs.length=kvs.length:=by have:=eZ List.length h2;simpa using this
   refine⟨_,_,Z',LO.k (k:=Sum.inr k0) h1 (by omega),?_⟩;have hd3:=hd.mono (e2.trans e3);obtain⟨hm4,e4⟩:=Yb.put (o:=.dK (yS vs (Sum.inr k0) v)) (c:=.dk (CP kvs (.inr k0) d)) (zC f1) λex=>by obtain⟨g1,g2⟩:=K4 (k:=Sum.inr k0) (hd3.mono ex) h2 (h3.mono ex);exact⟨_,qc,g1,g2⟩
   exact k1 Y _ U _ (hs.mono (e1.trans (e2.trans (e3.trans e4)))) hm4 (e1.trans (e2.trans (e3.trans e4))) Z' q3
  .exact q3.elim⟩⟩⟩
variable {Xa:T0 (Ch × Obj)}{Y:St}{H:Hp}{s:Sd}{tp:Pos}{Xz:T0 No}{n:Nat}
end L3
namespace L2
open Builtin Builtin.Str
variable {prog:Pg}{w:Wo}{A:Ar}{E:QQX}{s:Sd}{X:Cx}
end L2
namespace L3
open L2 Builtin Builtin.Str
variable {X:Cx}{pos Xd:Pos}{o e:No}{es:T0 No}{ta:T3}{t:xt}
@[irreducible] def SsI (X:Cx) (st:T0 ZB) (t:xy):Prop:=He X st t
@[irreducible] def SI (X:Cx) (st:ZB) (t:xy):Prop:=S3 X st t
@[irreducible] def EI (X:Cx) (e:No) (t:T3):Prop:=E3 X e t
@[irreducible] def AI (X:Cx) (es:T0 No) (t:xt):Prop:=A3 X es t
variable {prog:Pg}{w:Wo}{A:Ar}{E:QQX}{s:Sd}{Xa:T0 (Ch × Obj)}{Y:St}{H:Hp}{p tp:Pos}{Xz:T0 No}{n:Nat}
theorem wD{g:D6}{tt:AD}{te:T3}{ok:Mp->Prop}{Q:DK}(all:T0 D)(J:T0 D->T0 D->vq->Mp->Prop)(mT:∀p acc U M,J p acc U M->ok M):∀(ds pre acc:T0 D) (U:vq) (M:Mp),pre++ds=all->acc.length+ds.length<=pi->J pre acc U M->
  (∀pre d post,pre++d::post=all->∀acc U M,J pre acc U M->∀(k:vq->DK) (k2:vq->Mp->Prop),(∀δ2 y M4,J (pre++[d]) (acc++[y]) δ2 M4->k δ2 y M4)->(∀δ2 M3,J (pre++[d]) acc δ2 M3->k2 δ2 M3)->g d U M λδ2 M2=>tt δ2 M2 λb M3=>if b=pc then te δ2 M3 (k δ2)else k2 δ2 M3)->
  (∀acc U M,J all acc U M->∀p,M p=Db->Q (.ref p) (pE M p (.lst acc)))->uU g tt te ok Q ds acc U M
 | [],pre,acc,U,M,e,hl,j,_,hq=>⟨by simpa using hl,hq acc U M (by rw[<-e,eE];exact j)⟩
 | d::r,pre,acc,U,M,e,hl,j,ht,hq=>by rw[eC]at hl;refine⟨by omega,?_⟩;refine ht pre d r e acc U M j (λδ2 y M4=>ok M4/\uU g tt te ok Q r (acc++[y]) δ2 M4) (λδ2 M3=>ok M3/\uU g tt te ok Q r acc δ2 M3) (λδ2 y M4 j'=>⟨mT _ _ _ _ j',wD all J mT r (pre++[d]) (acc++[y]) δ2 M4 (by rw[<-e,eV];rfl) ?_ j' ht hq⟩) λδ2 M3 j'=>⟨mT _ _ _ _ j',wD all J mT r (pre++[d]) acc δ2 M3 (by rw[<-e,eV];rfl) (by omega) j' ht hq⟩;rw[df,dM];omega
end L3
namespace L2
noncomputable def Cx.nW(X:Cx)(E:QQX):Cx:={X with xe:=E}
def Inv.nW{E:QQX}{Xa:QQY}(I:Inv X Xa Y H s):Inv (X.nW E) Xa Y H s:=
 ⟨⟨I.ok.mod,I.ok.kind,I.ok.glob,I.ok.blt,I.ok.above,I.ok.inj,I.ok.has,I.ok.oE,I.ok.hd,I.ok.frames,I.ok.oH,I.ok.oX,I.ok.bs,I.ok.oa,I.ok.nQ,I.ok.nX,I.ok.nB,I.ok.om⟩,I.os,I.bare,I.base,I.loc,I.cell,I.free,I.mZ,I.pin,I.mT,I.len⟩
def Inv.xeOf{X:Cx}{E:QQX}{Xa:QQY}(I:Inv (X.nW E) Xa Y H s):Inv X Xa Y H s:=
 ⟨⟨I.ok.mod,I.ok.kind,I.ok.glob,I.ok.blt,I.ok.above,I.ok.inj,I.ok.has,I.ok.oE,I.ok.hd,I.ok.frames,I.ok.oH,I.ok.oX,I.ok.bs,I.ok.oa,I.ok.nQ,I.ok.nX,I.ok.nB,I.ok.om⟩,I.os,I.bare,I.base,I.loc,I.cell,I.free,I.mZ,I.pin,I.mT,I.len⟩
end L2
namespace L3
open L2
end L3
namespace L2
end L2
namespace L3
open L2
variable {X:Cx}{pos p tp kpos:Pos}{Xz:T0 No}{n:Nat}
end L3
namespace L2
variable {prog:Pg}{w:Wo}{A:Ar}{E:QQX}{s:Sd}{a:Ch}{U:Type}{k:Str}{tk:Tok}
section
variable {R:U→Vl→Prop}{D:T0 (Str × U)}
end
end L2
namespace L3
open L2
variable {X:Cx}{pos p:Pos}{x:Str}{d:D}{e o i:No}{ta tb td tk:T3}{F:T0 (Str × QQQ)}
end L3
namespace L2
def MT(h:wp)(e:Ch)(cls:Vl)(dx tb:Option Ch)(F:Vl):Prop:=
 ∃oe vs,h.get? e=Fa oe/\oe.cls=cls/\oe.dict=dx/\oe.data=.fields vs/\1<vs.size/\vs[1]?=Fa (tb.elim Value.none Value.ref)/\∀T,tb=Fa T->T≠e/\∃oT ts,h.get? T=Fa oT/\oT.data=.fields ts/\3<ts.size/\ts[3]?=Fa F
def Ot(h:wp)(e:Ch)(cls:Vl)(dx tb:Option Ch):Prop:=MT h e cls dx tb Value.none
theorem CJ{h base:wp}:∀{l:T0 Env} {b:Ch},h.FunFrames base l->b∈wz l->∃o,h.get? b=Fa o/\∀vs,o.data≠.fields vs
 | [],b,_,hb=>by cases hb
 | env::r,b,hF,hb=>by
  obtain⟨_,⟨L,o,hL,_,ho,hd⟩,hr⟩:=hF;have e:wz (env::r)=L::wz r:=by unfold wz;rw[gc,hL]
  rw[e]at hb;rcases dw.mp hb with z|z
  .rw[z];exact⟨o,ho,hd⟩
  .exact CJ hr z
def DB{h base:wp}{l:T0 Env}{b:Ch}{o:Obj}{vs:Array Vl}(hF:h.FunFrames base l)(ho:h.get? b=Fa o)(hd:o.data=.fields vs):b∉wz l:=λhb=>by obtain⟨o',XT,hn⟩:=CJ hF hb;rw[ho]at XT;cases XT;exact hn vs hd
variable {M:Model}{A:Ar}{s:Sd}{base:wp}{env:Env}{outer:T0 Env}{L e:Ch}{cls:Vl}{dx:Option Ch}{Q:Unit→Sd→Prop}
section
variable {E:QQX}
def QD{Yw:Vl}{ZE:Bool}{oe:Obj}{vs:Array Vl}{XU:Env}(hcf:XU.frame=Fa L)(Zj:A.frames=Fa (env::outer))(hF:s.heap.FunFrames base (env::outer))(hL:env.frame=Fa L)(ho:s.heap.get? e=Fa oe)(hd:oe.data=.fields vs)(h1:1<vs.size) (k:∀(h':wp) (T:Ch),s.heap.get? T=Db->(∀b o,s.heap.get? b=Fa o->b∉wz (env::outer)->b≠e->h'.get? b=Fa o)->(∀b o,s.heap.get? b=Fa o->b∈wz (env::outer)->∃sl,h'.get? b=Fa {o with slots:=sl})->
   (∃oe',h'.get? e=Fa oe'/\oe'.cls=oe.cls/\oe'.dict=oe.dict/\oe'.data=.fields (vs.setIfInBounds 1 (.ref T)))->(∃oT ts,h'.get? T=Fa oT/\oT.data=.fields ts/\3<ts.size/\ts[3]?=Fa (sK ↑L))->Q () {s with heap:=h'}):
  Tk M A (do
   let a<-PySem.frameOf XU;let pl<-entryPlaceOf L ZE;let b<-EntryCells.newEntry Yw a Value.none (sK ↑L) Value.none pl
   setField (Value.ref e) 1 b) Q E s:=by
 have ne:=DB hF ho hd;unfold PySem.frameOf;refine c9 (c9 (wpAny_frameEnvs Zj (c9 ?_)));have ed:List.dropWhile (λx=>x.frame != XU.frame) (env::outer)=env::outer:=by rw[List.dropWhile_cons,dh (by rw[hL,hcf];simp)]
 rw[ed];unfold frameObject;refine c9 (wpAny_readyFrames_fun hF λXW hs=>?_);obtain⟨z1,z2,z3⟩:=hs;rw[hL];refine dC (dC ?_);refine c9 (wpAny_entryPlaceOf λpl hp=>?_);refine c9 ?_;unfold EntryCells.newEntry newFields;have Xg:([Yw,Value.ref L,Value.none,sK ↑L,Value.none]++if pl.isEmpty=pc then List.replicate 6 Value.none else pl).length=11:=by rw[df];rcases hp with rfl|⟨_,_,_,_,_,_,_,rfl⟩<;>rfl
 have hfl:([Yw,Value.ref L,Value.none,sK ↑L,Value.none]++if pl.isEmpty=pc then List.replicate 6 Value.none else pl)[3]?=Fa (sK ↑L):=rfl;generalize ([Yw,Value.ref L,Value.none,sK ↑L,Value.none]++if pl.isEmpty=pc then List.replicate 6 Value.none else pl)=fs at Xg hfl ⊢;refine fN ?_ (by
  show fs.toArray.size<=_;rw[dD,Xg];decide)
 have e1:XW.get? e=Fa oe:=by rw[z2 e ne];exact ho
 have e2:(XW.push {cls:=.type "traceback",data:=.fields fs.toArray}).get? e=Fa oe:=dq _ e1;refine gF e2 hd h1 ?_;have tn:s.heap.get? XW.objs.size=Db:=gQ (by rw[z1];exact dB _);have te:XW.objs.size≠e:=λz=>by rw[z,ho]at tn;cases tn
 obtain⟨oc,od,odt,Ya⟩:=oe;obtain rfl:odt=.fields vs:=hd;have up:∀b,e≠b->((XW.push {cls:=.type "traceback",data:=.fields fs.toArray}).update e (Obj.mapFields λx=>x.setIfInBounds 1 (.ref XW.objs.size))).get? b=(XW.push {cls:=.type "traceback",data:=.fields fs.toArray}).get? b:=λb z=>gg _ _ z;refine k _ XW.objs.size tn (λb o hb nf ne'=>?_) (λb o hb hf=>?_) ⟨_,fH _ e2 Z',Z',Z',Z'⟩ ⟨_,fs.toArray,(up _ (dW te)).trans (dN _ Z'),Z',by rw[dD,Xg];decide,by rw[iP];exact hfl⟩
 .rw[up b (dW ne')];exact dq _ (by rw[z2 b nf];exact hb)
 .obtain⟨sl,q⟩:=z3 b o hb;refine⟨sl,?_⟩;rw[up b (λz=>ne (z ▸ hf))];exact dq _ q
def Sw{E₁:QQX}{tb:Option Ch}{F:Vl}{XU:Env}(hcf:XU.frame=Fa L)(Zj:A.frames=Fa (env::outer))(hF:s.heap.FunFrames base (env::outer))(hL:env.frame=Fa L)(hx:MT s.heap e cls dx tb F)(hFL:(F==sK ↑L)=Uf) (k:∀(h':wp) (T:Ch),s.heap.get? T=Db->(∀b o,s.heap.get? b=Fa o->b∉wz (env::outer)->b≠e->tb≠Fa b->h'.get? b=Fa o)->(∀b o,s.heap.get? b=Fa o->b∈wz (env::outer)->∃sl,h'.get? b=Fa {o with slots:=sl})->
   (∀b,h'.get? b=Db->s.heap.get? b=Db)->MT h' e cls dx (Fa T) (sK ↑L)->Q () {s with heap:=h'}):Tk M A (noteFrame (.ref e) XU) Q E₁ s:=by
 obtain⟨oe,vs,ho,hc,ZS,hd,h1,hv,hT⟩:=hx;have ne:=DB hF ho hd;unfold noteFrame;rw[hcf];refine c9 (eW ho hd hv ?_);have Xe:∀(s1:Sd) (oe1:Obj),s1.gens=s.gens->s1.drawn=s.drawn->s1.toks=s.toks->s1.os=s.os->s1.heap.FunFrames base (env::outer)->s1.heap.get? e=Fa oe1->oe1.cls=cls->oe1.dict=dx->oe1.data=.fields vs->(∀b o,s.heap.get? b=Fa o->b∉wz (env::outer)->b≠e->tb≠Fa b->s1.heap.get? b=Fa o)->
   (∀b o,s.heap.get? b=Fa o->b∈wz (env::outer)->s1.heap.get? b=Fa o)->(∀b,s1.heap.get? b=Db↔s.heap.get? b=Db)->∀(Yw:Vl) (ZE:Bool),Tk M A (do
   let a<-PySem.frameOf XU;let pl<-entryPlaceOf L ZE;let b<-EntryCells.newEntry Yw a Value.none (sK ↑L) Value.none pl
   setField (Value.ref e) 1 b) Q E₁ s1:=by
  intro s1 oe1 g1 g2 g3 g4 hF1 ho1 hc1 hdx1 hd1 kb kf kn Yw ZE;refine QD hcf Zj hF1 hL ho1 hd1 h1 λh' T tn k1 k2 ⟨oe',he',hce,hdxe,hde⟩ ⟨oT,ts,Yo,YQ,h3,h3v⟩=>?_;have te:T≠e:=λz=>by rw[z,ho1]at tn;cases tn
  have:=k h' T ((kn T).mp tn) (λb o hb nf nb nt=>k1 b o (kb b o hb nf nb nt) nf nb) (λb o hb hf=>k2 b o (kf b o hb hf) hf) (λb hb=>?_) ⟨oe',vs.setIfInBounds 1 (.ref T),he',hce.trans hc1,hdxe.trans hdx1,hde,by rw[jS];exact h1,by rw[ip h1];rfl,λT' eT=>?_⟩
  .show Q () {heap:=_,gens:=s1.gens,drawn:=s1.drawn,toks:=s1.toks,os:=s1.os};rw[g1,g2,g3,g4];exact this
  .refine(kn b).mp ?_;cases q:s1.heap.get? b with
   | none=>rfl
   | some o=>
    by_cases z:b=e
    .rw[z,he']at hb;cases hb
    .by_cases zf:b∈wz (env::outer)
     .obtain⟨sl,q2⟩:=k2 b o q zf;rw[q2]at hb;cases hb
     .rw[k1 b o q zf z]at hb;cases hb
  .cases eT;exact⟨te,oT,ts,Yo,YQ,h3,h3v⟩
 cases tb with
 | none=>rw[dh (show ¬((Db:Option Ch).elim Value.none Value.ref != Value.none)=pc by decide+kernel)];exact Xe s oe Z' Z' Z' Z' hF ho hc ZS hd (λb o hb _ _ _=>hb) (λb o hb _=>hb) (λb=>.rfl) _ _
 | some T=>
  obtain⟨nTe,oT,ts,Yo,YQ,h3,hn⟩:=hT T Z';rw[dz (show((Fa T:Option Ch).elim Value.none Value.ref != Value.none)=pc by rfl)];refine c9 (eW Yo YQ hn ?_);rw[dh (by rw[hFL];exact dE)];refine c9 (gF Yo YQ h3 ?_);have up:∀b,T≠b->(s.heap.update T (Obj.mapFields λx=>x.setIfInBounds 3 .none)).get? b=s.heap.get? b:=λb z=>gg _ _ z;have nf:∀b o,s.heap.get? b=Fa o->(∀vs,o.data≠.fields vs)->T≠b:=λb o hb hn z=>by rw[<-z,Yo]at hb;cases hb;exact hn ts YQ
  have sz:∀b,(s.heap.update T (Obj.mapFields λx=>x.setIfInBounds 3 .none)).get? b=Db↔s.heap.get? b=Db:=λb=>by
   by_cases z:T=b
   .rw[<-z];obtain⟨oc,od,odt,Ya⟩:=oT;obtain rfl:odt=.fields ts:=YQ;rw[fH _ Yo Z',Yo];exact⟨(λq=>by cases q),(λq=>by cases q)⟩
   .rw[up b z]
  exact Xe {s with heap:=s.heap.update T (Obj.mapFields λx=>x.setIfInBounds 3 .none)} oe Z' Z' Z' Z' (mE (λb o hb hn=>⟨o,(up b (nf b o hb hn)).trans hb,Z'⟩) hF) ((up e nTe).trans ho) hc ZS hd
   (λb o hb _ _ nt=>(up b λz=>nt (by rw[z])).trans hb) (λb o hb hf=>by
    obtain⟨o',XT,hn⟩:=CJ hF hf;rw[hb]at XT;cases XT;exact(up b (nf b o hb hn)).trans hb) sz _ _
def MZ{T:Ch}{F:Vl}(x:Option Ch)(hx:MT s.heap e cls dx (Fa T) F)(k:∀h':wp,(∀b,T≠b->h'.get? b=s.heap.get? b)->(∀b,h'.get? b=Db↔s.heap.get? b=Db)->MT h' e cls dx (Fa T) (x.elim .none λf=>sK f)->Q () {s with heap:=h'}):Tk M A (setFlight (.ref e) x) Q E s:=by
 obtain⟨oe,vs,ho,hc,ZS,hd,h1,hv,hT⟩:=hx;obtain⟨nTe,oT,ts,Yo,YQ,h3,hn⟩:=hT T Z';unfold setFlight;refine c9 (eW ho hd hv ?_);rw[dz (by rfl)];refine gF Yo YQ h3 ?_;obtain⟨oc,od,odt,Ya⟩:=oT;obtain rfl:odt=.fields ts:=YQ;have up:∀b,T≠b->(s.heap.update T (Obj.mapFields λy=>y.setIfInBounds 3 (x.elim .none λf=>sK f))).get? b=s.heap.get? b:=λb z=>gg _ _ z;refine k _ up (λb=>?_) ⟨oe,vs,(up e nTe).trans ho,hc,ZS,hd,h1,hv,λT' eT=>?_⟩
 .by_cases z:T=b
  .rw[<-z,fH _ Yo Z',Yo];exact⟨(λq=>by cases q),(λq=>by cases q)⟩
  .rw[up b z]
 .cases eT;exact⟨nTe,_,ts.setIfInBounds 3 (x.elim .none λf=>sK f),fH _ Yo Z',Z',by rw[jS];exact h3,by rw[ip h3]⟩
def Js{E₁ E₂:QQX}{tb:Option Ch}(Zj:A.frames=Fa (env::outer))(hF:s.heap.FunFrames base (env::outer))(hL:env.frame=Fa L)(hx:Ot s.heap e cls dx tb) (k:∀(h':wp) (T:Ch),s.heap.get? T=Db->(∀b o,s.heap.get? b=Fa o->b∉wz (env::outer)->b≠e->tb≠Fa b->h'.get? b=Fa o)->(∀b o,s.heap.get? b=Fa o->b∈wz (env::outer)->∃sl,h'.get? b=Fa {o with slots:=sl})->
   Ot h' e cls dx (Fa T)->Q () {s with heap:=h'}):Tk M A (noteFrame (.ref e) env) (λ_ s₂=>Tk M A (setFlight (.ref e) Db) Q E₂ s₂) E₁ s:=by
 refine Sw hL Zj hF hL hx (dO.mpr λz=>by have:=fB.mp z;cases this) λh' T tn k1 k2 _ x'=>?_;refine MZ Db x' λh2 up _ x2=>k h2 T tn (λb o hb nf nb nt=>?_) (λb o hb hf=>?_) x2
 .have tb:T≠b:=λz=>by rw[z,hb]at tn;cases tn
  exact(up b tb).trans (k1 b o hb nf nb nt)
 .have tb:T≠b:=λz=>by rw[z,hb]at tn;cases tn
  obtain⟨sl,q⟩:=k2 b o hb hf;exact⟨sl,(up b tb).trans q⟩
def P8{tb:Option Ch}(Zj:A.frames=Fa (env::outer))(hF:s.heap.FunFrames base (env::outer))(hL:env.frame=Fa L)(hx:Ot s.heap e cls dx tb) (k:∀(h':wp) (T:Ch),s.heap.get? T=Db->(∀b o,s.heap.get? b=Fa o->b∉wz (env::outer)->b≠e->tb≠Fa b->h'.get? b=Fa o)->(∀b o,s.heap.get? b=Fa o->b∈wz (env::outer)->∃sl,h'.get? b=Fa {o with slots:=sl})->
   Ot h' e cls dx (Fa T)->Q () {s with heap:=h'}):Tk M A (leaving env (.ref e)) Q E s:=c9 (Js Zj hF hL hx k)
end
def BD(P:Pg)(w:Wo):K8:=λouter H s E ev s'=>FQ λe C dx H' tb=>ev=.ref e/\E (.ref C) dx H'/\s'.os=s.os/\XXk s'.gens/\Un (wz outer) [] H H' s.heap s'.heap/\yr P w H' s'.heap/\
 Ot s'.heap e (.ref C) dx (Fa tb)/\s.heap.get? e=Db/\s.heap.get? tb=Db/\H' e=Db/\H' tb=Db
def yo{o:HO}(x:sA P w H h a o):∃ob,h.get? a=Fa ob:=by
 cases o with
 | lst xs=>obtain⟨_,_,_,_,e⟩:=x;exact⟨_,e⟩
 | tup xs=>obtain⟨_,_,_,o,e,_⟩:=x;exact⟨_,e⟩
 | dK kvs=>obtain⟨_,_,_,_,o,_,_,e,_⟩:=x;exact⟨_,e⟩
 | dT kvs=>obtain⟨_,_,_,_,o,_,_,e,_⟩:=x;exact⟨_,e⟩
 | set S n=>obtain⟨o,_,_,_,e,_⟩:=x;exact⟨_,e⟩
 | ins C dx fs=>obtain⟨_,_,_,e,_⟩:=x;exact⟨_,e⟩
 | own y=>exact x
 | xd fs=>obtain⟨_,⟨_,_,_,e,_⟩,_⟩:=x;exact⟨_,e⟩
 | rng lo hi=>obtain⟨_,_,_,e⟩:=x;exact⟨_,e⟩
 | frz ob u=>obtain⟨e,_⟩:=x;exact⟨_,e⟩
 | tbl ps=>exact⟨_,x⟩
 | met f y=>exact⟨_,x⟩
 | ext φ=>obtain⟨_,e,_⟩:=x;exact e
def zd{T:Ch}(mT:yr P w H h)(tn:h.get? T=Db):H T=Db:=by
 cases z:H T with
 | none=>rfl
 | some o=>obtain⟨ob,hob⟩:=yo (mT T o z);rw[hob]at tn;cases tn
variable {P:Pg}{w:Wo}{K:qo}{mg:QQZ}{N:QQQ}{qual:Str}{scope:XXd}{f:Ch}{cd:Vl}{s0:Sd}{H0:Hp}
section
variable {E:XK}
def GM(u:Un fs ex H H' h h')(hex:ex=[]){b:Ch}(hb:h'.get? b=Db):h.get? b=Db:=by
 cases q:h.get? b with
 | none=>rfl
 | some o=>obtain⟨o',e⟩:=u.there b o q (by rw[hex];simp);rw[e]at hb;cases hb
def MV{Xa:QQY}{e C T:Ch}{tb dx:Option Ch}{h':wp}(I:Inv (vE (BD P w) P w K mg base N qual scope f cd A outer s0 H0 E) Xa Y H s)(he:s0.heap.get? e=Db)(old:∀T,tb=Fa T->s0.heap.get? T=Db/\H T=Db)(hn:H e=Db)(q:E (.ref C) dx H)(hT:s0.heap.get? T=Db/\H T=Db) (k1:∀b o,s.heap.get? b=Fa o->b∉wz (xL qual scope s0.heap.objs.size f cd::outer)->b≠e->tb≠Fa b->h'.get? b=Fa o) (k2:∀b o,s.heap.get? b=Fa o->b∈wz (xL qual scope s0.heap.objs.size f cd::outer)->∃sl,h'.get? b=Fa {o with slots:=sl}) (x':Ot h' e (.ref C) dx (Fa T)):
  BD P w outer H0 s0 E (.ref e) {s with heap:=h'}:=by
 have XZ:=I.nI;have Xo:∀b o,H b=Fa o->∀u,s.heap.get? b=Fa u->h'.get? b=Fa u:=λb o hb u hu=>k1 b u hu (λz=>by rw[XZ b z]at hb;cases hb) (λz=>by rw[z,hn]at hb;cases hb) (λz=>by rw[(old b z).2]at hb;cases hb);have oldf:∀b o,s0.heap.get? b=Fa o->b∉wz [xL qual scope s0.heap.objs.size f cd]:=λb o hb z=>by
  have:b=s0.heap.objs.size:=by have hz:b∈[s0.heap.objs.size]:=z;exact dv.mp hz
  rw[this]at hb;exact absurd (dI hb) (fm _)
 have fr:∀b,b∈wz (xL qual scope s0.heap.objs.size f cd::outer)->b∈wz [xL qual scope s0.heap.objs.size f cd]\/b∈wz outer:=λb hb=>by
  have hb:b∈s0.heap.objs.size::wz outer:=hb;rcases dw.mp hb with z|z
  .exact .inl (by rw[z];exact dP)
  .exact .inr z
 have XC:Un (wz outer) [] H0 H s0.heap s.heap:=I.base;refine⟨e,C,dx,H,T,Z',q,I.os,I.bare,⟨λb o hb h0 nf ne=>?_,λb o hb h0 hf ne=>?_,XC.free,λb o hb ne=>?_,XC.nG,XC.nA,XC.nK⟩,λb o hb=>?_,x',he,hT.1,hn,hT.2⟩
 .have hs:=XC.keep b o hb h0 nf ne;refine k1 b o hs (λz=>?_) (λz=>by rw[z,he]at hb;cases hb) λz=>by rw[(old b z).1]at hb;cases hb
  rcases fr b z with z|z
  .exact oldf b o hb z
  .exact nf z
 .obtain⟨sl,hs⟩:=XC.slot b o hb h0 hf ne;have:b∈wz (xL qual scope s0.heap.objs.size f cd::outer):=dF _ hf;obtain⟨YE,h2⟩:=k2 b _ hs this;exact⟨YE,h2⟩
 .obtain⟨o',hs⟩:=XC.there b o hb ne;by_cases z:b∈wz (xL qual scope s0.heap.objs.size f cd::outer)
  .obtain⟨sl,h2⟩:=k2 b o' hs z;exact⟨_,h2⟩
  .exact⟨o',k1 b o' hs z (λz=>by rw[z,he]at hb;cases hb) λz=>by rw[(old b z).1]at hb;cases hb⟩
 .refine(I.mT b o hb).nH (λb' u XH hu=>?_) (λ_ q=>q) λ_ _ q=>q;rcases XH with z|z
  .subst z;exact Xo b' o hb u hu
  .exact Xo b' _ z u hu
def TH{Xa:QQY}{e C:Ch}{tb dx:Option Ch}(I:Inv (vE (BD P w) P w K mg base N qual scope f cd A outer s0 H0 E) Xa Y H s)(hx:Ot s.heap e (.ref C) dx tb)(he:s0.heap.get? e=Db)(hT:∀T,tb=Fa T->s0.heap.get? T=Db/\H T=Db)(hn:H e=Db)(q:E (.ref C) dx H):
  (vE (BD P w) P w K mg base N qual scope f cd A outer s0 H0 E).xe (.ref e) s:=
 P8 (base:=base) (outer:=outer) I.ok.frames I.stack Z' hx λh' T tn k1 k2 x'=>MV I he hT hn q ⟨GM (show Un (wz outer) [] H0 H s0.heap s.heap from I.base) Z' tn,zd I.mT tn⟩ k1 k2 x'
end
section
variable {E:XK}
end
def Qe(d:Ch)(f:Str)(v:V)(h:wp):Prop:=∃u,h.Ns1 d (λy=>if y=f then Fa u else Db)/\qN v u
end L2
namespace L3
open L2
abbrev XR:=Ch->Option (Str×D)->Mp->Prop
abbrev GH:=T0 D->Mp->DK->XR->Prop
def TV(K:qo)(H:Hp)(dx:Option Ch)(y:Option (Str×D)):Prop:=(dx=Db/\y=Db)\/Af λd f z v=>dx=Fa d/\y=Fa (f,z)/\H d=Fa (.ext (Qe d f v))/\rO K H z v
def Vb(K:qo)(R:XR)(E:XK):Prop:=∀C dx H M y,HM K H M->TV K H dx y->R C y M->E (.ref C) dx H
def Ww(K:qo)(sp:GH):Sp:=λvs H Q' E=>Af λds M Q R=>qk K H ds vs/\HM K H M/\sp ds M Q R/\Up K H Q' Q/\Vb K R E
abbrev Rf(P:Pg)(w:Wo)(K:qo)(mg:QQZ)(base:wp)(k:Nat)(f:Ch)(fd:At)(ps:QQQ)(sp:GH):Prop:=xx P w K mg base (BD P w) k f fd ps (Ww K sp)
variable {X:Cx}{x:Str}{p pos np Xi:Pos}{e:No}{es:T0 No}{t:xt}{k:Nat}{f C:Ch}{fd:At}{ps:QQQ}{sp:GH}{R:XR}{E:XK}{P:Pg}{w:Wo}{K:qo}{mg:QQZ}{base:wp}{N:QQQ}{qual:Str}{scope:XXd}{cd:Vl}{A:Ar}{outer:T0 Env}{s0:Sd}{H0:Hp}{ta:xt}
def Us{st:ZB}{sp:GH}(F:P5 K x qual st f fd)(S:tq N ps (qa st))(len:∀ds M Q R,sp ds M Q R->ds.length=ps.length) (Xv:∀(Xk:Vl) (A:Ar) (outer:T0 Env) (s:Sd) (H:Hp) (E:XK) (R:XR),rY k (A.deeper (xL qual (qa st) s.heap.objs.size f Xk))->Vb K R E->
   ∃t,He (vE (BD P w) P w K mg base N qual (qa st) f Xk A outer s H E) (rS st) t/\∀ds M Q,sp ds M Q R->t {nx:=λ_ M'=>∃Xf,qp Xf M'/\Q .mP Xf,rt:=λd M'=>∃Xf,qp Xf M'/\Q d Xf} (xf N ds) M):Rf P w K mg base (k+1) f fd ps sp:=by
 obtain⟨oc,od,kV,XO,pm,an,Xk,ct,Ya,rfl,lk,Yr⟩:=F.ex;refine LU lk Yr S (λvs H Q E h=>?_) λA outer s H vs Q' E hr h=>?_
 .obtain⟨ds,M,Q,R,hd,_,hs,_⟩:=h;rw[<-hd.length];exact len ds M Q R hs
 .obtain⟨ds,M,Q,R,hd,hm,hs,k,hR⟩:=h;obtain⟨t,ht,hb⟩:=Xv Xk A outer s H E R hr hR;exact⟨_,ht,xf N ds,M,_,DS hd,hm,hb ds M Q hs,λσ' H' δ' M' _ x2 x3 _ ⟨Xf,y1,y2⟩=>k .mP H' .mP Xf .mP (x2.sub y1) x3 y2,λv H' d M' x1 x2 x3 ⟨Xf,y1,y2⟩=>k v H' d Xf x1 (x2.sub y1) x3 y2,λ_ _ _ _ _ _ _ _ z=>z,λ_ _ _ _ _ _ _ _ z=>z⟩
end L3
namespace L2
def TKept(H H':Hp):Prop:=(∀b xs,H b=Fa (.tup xs)->H' b=Fa (.tup xs))/\∀b o u,H b=Fa (.frz o u)->H' b=Fa (.frz o u)
def Wx(X:Cx)(Xa:QQY)(Y:St)(J:Hp->Prop)(E:XK)(ev:Vl)(s':Sd):Prop:=C4 λH s=>J H/\Inv X Xa Y H s/\BD X.prog X.w X.stack H s E ev s'
def TU(X:Cx)(Xa:QQY)(Y:St)(J:Hp->Prop)(E:XK)(ev:Vl)(s':Sd):Prop:=Tq λa C dx H' tb H1 s1=>ev=.ref a/\E (.ref C) dx H'/\Inv X Xa Y H' s'/\Ot s'.heap a (.ref C) dx (Fa tb)/\H' a=Db/\H' tb=Db/\J H1/\TKept H1 H'/\Inv X Xa Y H1 s1/\s1.heap.get? a=Db
def Rn{M:Model}{E₁ E₂:QQX}{Xa:QQY}{E:XK}{outer:T0 Env}{L:Ch}(h:Wx X Xa Y J E ev s')(Xw:X.stack=X.env::outer)(hL:X.env.frame=Fa L):
  Tk M X.A (noteFrame ev X.env) (λ_ s₂=>Tk M X.A (setFlight ev Db) (λ_ s₃=>TU X Xa Y J E ev s₃) E₂ s₂) E₁ s':=by
 obtain⟨H,s,jH,I,e,C,dx,H',tb,rfl,q,os,bare,un,mT,x,he,ht,ne,nt⟩:=h;obtain⟨hh,g,d,t,Z3⟩:=s';obtain rfl:Z3=s.os:=os;have I':=I.call (h':=hh) (g':=g) (d':=d) (t':=t) (ch:=[]) un mT bare (λb z=>absurd z (by simp));have hF:=I'.stack;have XZ:=I'.nI;have Zj:=I.ok.frames;rw[Xw]at hF Zj;refine Js (base:=X.base) (outer:=outer) Zj hF hL x λh' T tn k1 k2 x'=>?_;have Xo:∀b o,H' b=Fa o->∀u,hh.get? b=Fa u->h'.get? b=Fa u:=λb o hb u hu=>k1 b u hu (λz=>by rw[XZ b (by rw[Xw];exact z)]at hb;cases hb) (λz=>by rw[z,ne]at hb;cases hb) (λz=>by cases z;rw[nt]at hb;cases hb);have un':Un (wz X.stack) [] H H' s.heap h':=by
  refine⟨λb o hb h0 nf nx=>?_,λb o hb h0 hf nx=>?_,un.free,λb o hb nx=>?_,un.nG,un.nA,un.nK⟩
  .exact k1 b o (un.keep b o hb h0 nf nx) (λz=>nf (by rw[Xw];exact z)) (λz=>by rw[z,he]at hb;cases hb) λz=>by cases z;rw[ht]at hb;cases hb
  .obtain⟨sl,hs⟩:=un.slot b o hb h0 hf nx;obtain⟨YE,h2⟩:=k2 b _ hs (by rw[<-Xw];exact hf);exact⟨YE,h2⟩
  .obtain⟨o',hs⟩:=un.there b o hb nx;by_cases z:b∈wz (X.env::outer)
   .obtain⟨sl,h2⟩:=k2 b o' hs z;exact⟨_,h2⟩
   .exact⟨o',k1 b o' hs z (λz=>by rw[z,he]at hb;cases hb) λz=>by cases z;rw[ht]at hb;cases hb⟩
 have Z8:yr X.prog X.w H' h':=λb o hb=>(mT b o hb).nH (λb' u XH hu=>by
  rcases XH with z|z
  .subst z;exact Xo b' o hb u hu
  .exact Xo b' _ z u hu) (λ_ q=>q) λ_ _ q=>q
 have I3:Inv X Xa Y H' {heap:=h',gens:=g,drawn:=d,toks:=t,os:=s.os}:=Inv.call (s:=s) (ch:=[]) I un' Z8 bare (λb z=>absurd z (by simp));refine⟨e,C,dx,H',T,H,s,Z',q,I3,x',ne,?_,jH,⟨un.nG,un.nA⟩,I,he⟩;cases z:H' T with
 | none=>rfl
 | some o=>obtain⟨ob,hob⟩:=yo (mT T o z);have tn:hh.get? T=Db:=tn;rw[hob]at tn;cases tn
variable {X:Cx}{Xa:T0 (Ch × Obj)}{Y σ':St}{H H1:Hp}{s s1:Sd}{ev:Vl}{E':QQX}{a:Ch}
def Inv.adopt{o:HO}(I:Inv X Xa Y H s)(I1:Inv X Xa σ' H1 s1)(n1:s1.heap.get? a=Db)(hn:H a=Db)(ok:sA X.prog X.w (upd H a o) s.heap a o):Inv X Xa Y (upd H a o) s:=by
 have ne:∀b ob,s1.heap.get? b=Fa ob->b≠a:=λb ob e z=>by rw[z,n1]at e;cases e
 have nh:∀b ob,H b=Fa ob->b≠a:=λb ob e z=>by rw[z,hn]at e;cases e
 refine⟨I.ok,I.os,I.bare,⟨I.base.keep,I.base.slot,λb o' e h0 hb=>?_,I.base.there,λb xs e=>?_,λb o' u e=>?_,λb ps e=>?_⟩,I.loc,I.cell,?_,λx c e=>?_,λp hp=>?_,λb ob e=>?_,I.len⟩
 .obtain⟨o2,e2⟩:=I1.base.there b o' e hb;rw[pV (ne b o2 e2)];exact I.base.free b o' e h0 hb
 .have:=I.base.nG b xs e;rw[pV (nh b _ this)];exact this
 .have:=I.base.nA b o' u e;rw[pV (nh b _ this)];exact this
 .obtain⟨more,this⟩:=I.base.nK b ps e;exact⟨more,by rw[pV (nh b _ this)];exact this⟩
 .obtain⟨m,⟨o2,_,_,e2,_⟩,_⟩:=I1.loc;rw[pV (ne _ o2 e2)];exact I.free
 .obtain⟨v,o2,e2,_⟩:=I1.cell x c e;rw[pV (ne _ o2 e2)];exact I.mZ x c e
 .obtain⟨e1,e2,e3,e4,e5⟩:=I.pin p hp;exact⟨e1,by rw[pV (ne _ _ (I1.pin p hp).1)];exact e2,e3,e4,e5⟩
 .by_cases z:b=a
  .subst z;rw[qc]at e;cases e;exact ok
  .rw[pV z]at e;exact(I.mT b ob e).nH (λ_ _ _ q=>q) (λb' q=>by rw[pV (nh b' _ q)];exact q) λb' xs q=>by rw[pV (nh b' _ q)];exact q
noncomputable def Cx.marked(X:Cx)(ev:Vl)(E:QQX):Cx:={X with A:=X.A.mark (Fa ev),calm:=false,xe:=E}
def Inv.mark(I:Inv X Xa Y H s):Inv (X.marked ev E') Xa Y H s:=
 ⟨⟨I.ok.mod,I.ok.kind,I.ok.glob,I.ok.blt,I.ok.above,I.ok.inj,I.ok.has,I.ok.oE,(λz=>by cases z),I.ok.frames,I.ok.oH,I.ok.oX,I.ok.bs,I.ok.oa,I.ok.nQ,I.ok.nX,I.ok.nB,I.ok.om⟩,I.os,I.bare,I.base,I.loc,I.cell,I.free,I.mZ,I.pin,I.mT,I.len⟩
def Inv.unmark(ok:X.Ok)(I:Inv (X.marked ev E') Xa Y H s):Inv X Xa Y H s:=⟨ok,I.os,I.bare,I.base,I.loc,I.cell,I.free,I.mZ,I.pin,I.mT,I.len⟩
def SP.unmark(ok:X.Ok){D:FC}{f:Flow}(h:SP (X.marked ev E') Xa D f s):SP X Xa D f s:=by
 cases f with
 | next=>obtain⟨a,b,I,q⟩:=h;exact⟨a,b,I.unmark ok,q⟩
 | brk=>obtain⟨a,b,I,q⟩:=h;exact⟨a,b,I.unmark ok,q⟩
 | cont=>obtain⟨a,b,I,q⟩:=h;exact⟨a,b,I.unmark ok,q⟩
 | ret v=>obtain⟨a,b,c,I,q⟩:=h;exact⟨a,b,c,I.unmark ok,q⟩
def Hs{M:Model}{h:wp}{a:Ch}{o:Obj}(ho:h.get? a=Fa o):W.Looks M h (typeOf (.ref a)) o.cls:=by intro A Q E s k q;unfold typeOf;exact c9 (wpAny_load (k a o ho) (dC q))
def FV{M:Model}{A:Ar}{E:QQX}{a C T:Ch}{Q:Unit->Sd->Prop}(x:Ot s.heap a (.ref C) dx (Fa T))(h:∀h':wp,(∀b,h'.get? b=s.heap.get? b)->Q () {s with heap:=h'}):Tk M A (setFlight (.ref a) Db) Q E s:=by
 obtain⟨oe,vs,ho,hc,_,hd,h1,hv,hT⟩:=x;obtain⟨nTe,oT,ts,Yo,YQ,h3,hn⟩:=hT T Z';unfold setFlight;refine c9 (eW ho hd hv ?_);rw[dz (by rfl)];refine gF Yo YQ h3 (h _ λb=>?_);by_cases z:T=b
 .subst z;obtain⟨oc,od,odt,Ya⟩:=oT;obtain rfl:odt=.fields ts:=YQ;rw[fH _ Yo Z',Yo];show Fa (Obj.mk oc od (.fields (ts.setIfInBounds 3 .none)) Ya)=_;have:ts.setIfInBounds 3 .none=ts:=by
   apply Array.ext
   .simp
   .intro i h1 h2;rw[Array.getElem_setIfInBounds];split
    .rename_i e;subst e;rw[Array.getElem?_eq_getElem h3]at hn;exact(dA hn).symm
    .rfl
  rw[this]
 .exact gg _ _ z
def R4(X:Cx)(e:No)(t:St->Hp->VK->(Hp->Prop)->XK->Prop):Prop:=∀(Xa:QQY) (s:Sd) (Y:St) (H:Hp) (Q:VK) (J:Hp->Prop) (E:XK),Inv X Xa Y H s->t Y H Q J E->Tk (Tl X.prog X.w) X.A (Op e X.env) (EP X Xa Y Q) (Wx X Xa Y J E) s
def WB(X:Cx)(st:ZB)(t:FC->St->Hp->(Hp->Prop)->XK->Prop):Prop:=∀(Xa:QQY) (s:Sd) (Y:St) (H:Hp) (D:FC) (J:Hp->Prop) (E:XK),Inv X Xa Y H s->t D Y H J E->Tk (Tl X.prog X.w) X.A (exec st X.env) (SP X Xa D) (Wx X Xa Y J E) s
def OO{X:Cx}{i:Nat}{x:Str}{te:St->Hp->VK->(Hp->Prop)->XK->Prop}{pos Xj:Pos}(hN:X.N.Nodup)(hi:X.N[i]?=Fa x)(hx:K9 X.env.scope x)(he:R4 X e te)(hs:TD e (Fa (.Name x Xj)) pos.line X.env=pure Uf:=by rfl)(hf:K' X x:=by first|exact .inl Z'|exact .inr Z'|assumption):
  WB X (.Assign [.Name x Xj] e pos) (λD Y H J E=>te Y H (λv H'=>D.nx (Y.set i (Fa v)) H') J E):=by
 intro Xa s Y H D J E I h;refine ly (sC (he Xa s Y H _ J E I h) λv s1 zz=>x5 zz λy H1 I1 r1 q1=>?_) hs;exact Cb I1 hN hi hx r1 (λs2 I2=>⟨_,H1,I2,q1⟩) hf
variable {k:Nat}{f C:Ch}{fd:At}{ps:QQQ}{sp:Sp}{X1:T0 V}{ds:T0 Vl}{m:Str}{p pos Xd:Pos}{e o:No}{es:T0 No}{t:TA}
section
variable {x:Str}
def MU(F:xx X.prog X.w X.K X.mg X.base (BD X.prog X.w) k f fd ps sp)(hr:rY k X.A)(hg:Gl X x)(hm:X.mg x=Fa (.ref f))(hk:W.keepIn X.K (.ref f)=pc)(hb:uT X.K fd ps ds)(hd:qD X1 ds) (ha:PA (X.nW λ_ _=>False) (e::es) t) (Xt:zb x:=by decide) (he:A6 X e es:=by rfl) (Xp:BJ X pos es:=by rfl):
  R4 X (.Call (.Name x p) (e::es) [] pos) (λY H Q J E=>t Y H λvs H1=>J H1/\sp (vs++X1) H1 Q E):=by
 intro Xa s Y H Q J E I h;refine gk (xm I hg hm ?_ Xt);refine iR (h₀:=X.base) I.ok.mod.oz hk (eJ (ha pos Xa s Y H _ I.nW h) (λus s1 ⟨vs,H1,I1,r,jH,q⟩=>⟨I1.ni,?_⟩) λ_ _ z=>z.elim) he Xp;have I1:=I1.xeOf;have r2:qD (vs++X1) (us++ds):=r.append hd;have hl:(us++ds).length=ps.length:=by rw[<-r2.length];exact F.len _ _ _ _ q
 refine iI (gq (F.run X.A X.stack s1 H1 ⟨us,[]⟩ (us++ds) (vs++X1) Q E hr I1.oh (hb s1 us I1.ni hl) r2 q) λr s' hq=>?_);cases r with
 | error e=>exact⟨H1,s1,jH,I1,hq⟩
 | ok fl=>
  cases fl with
  | ret u=>exact I1.after hq
  | next=>exact False.elim hq
  | brk=>exact False.elim hq
  | cont=>exact False.elim hq
end
def P'{st b₀:ZB}{X3:T0 ZB}{cnp Y8 pos:Pos}{Cc L:Ch}{outer:T0 Env}{t:FC->St->Hp->(Hp->Prop)->XK->Prop}(hb:WB X st t)(Xw:X.stack=X.env::outer)(hL:X.env.frame=Fa L)(hg:Gl X cn)(hm:X.mg cn=Fa (.ref Cc))(hs:∀ev E',B' (X.marked ev E') (b₀::X3) th) (Xt:zb cn:=by decide):
  PS X (.Try [st] [.ExceptHandler (Fa (.Name cn cnp)) Db (b₀::X3) Y8] [] [] pos) (λD Y H=>∃(J:Hp->Prop) (E:XK),t D Y H J E/\∀C dx H1 H',J H1->TKept H1 H'->E (.ref C) dx H'->W.exmOne X.K (.ref C) (.ref Cc)=Fa pc/\th D Y H'):=by
 intro Xa s Y H D I ⟨J,E,h,hh⟩;refine wpAny_Try_except (eJ (Q:=λf s'=>SP X Xa D f s') (jJ (sC (hb Xa s Y H D J E I h) λf s1 q=>?_)) (λf s1 q=>?_) λev s1 x=>?_)
 .cases f with
  | next=>exact gZ q
  | brk=>exact q
  | cont=>exact q
  | ret v=>exact q
 .cases f with
  | next=>exact gZ q
  | brk=>exact q
  | cont=>exact q
  | ret v=>exact q
 .refine eJ (Rn x Xw hL) (λ_ s2 y=>sC y λ_ s3 z=>?_) λ_ _ z=>z;obtain⟨a,C,dx,H',tb,H1,s1,rfl,q,I3,x3,na,nt,jH,tk,I1,n1⟩:=z;obtain⟨Xc,h1⟩:=hh C dx H1 H' jH tk q;refine wpAny_handleBy_cons (codeAny_handlers_test (xm (X:=X.marked (.ref a) λ_ _=>False) I3.mark hg hm ?_ Xt)) (by intro z;cases z);obtain⟨oe,vs,ho,hc,_⟩:=id x3;refine W.exm_one I3.ni (Hs ho) (by rw[hc];exact Xc) _ _ _ _ (λ_ _ z=>z) ?_;refine codeAny_handlers_suite (FV x3 λh' hh'=>?_);have I4:Inv X Xa Y H' {s3 with heap:=h'}:=I3.kept (t':=s3.toks) λb u z=>by rw[hh' b];exact z
  refine eJ (hs (.ref a) _ Xa _ Y H' D I4.mark h1) (λf s5 q5=>SP.unmark I.ok q5) λ_ _ z=>z
structure WG(K:qo)(C:Ch):Prop where
 hd:(W.clsIn K C).isSome=pc
 ga:W.findIn K (.ref C) "__getattribute__"=Fa (Fa (.builtin "BaseException.__getattribute__"))
 gt:W.findIn K (.ref C) "__getattr__"=Fa Db
 ha:W.findIn K (.ref C) "__class__"=Fa (Fa (.builtin "object.__class__"))
 hn:W.specialIn K (.builtin "object.__class__") "__get__"=Fa (Fa (.builtin "getset_descriptor.__get__"))
 htk:W.takesIn K (.builtin "object.__class__")=Fa pc
 hm:W.mroIn K C (.type "object")=Fa pc
 hb:W.mroIn K C (.type "BaseException")=Fa pc
variable {prog:Pg}{w:Wo}{A:Ar}{E:QQX}{K:qo}{ox:Obj}
section
variable {x:Ch}
end
end L2
namespace L3
open L2
theorem _root_.L2.TKept.ext{K:qo}(h:TKept H H'):qS K H H':=⟨λa xs q=>by
 rcases q with(q|⟨u,q⟩)|q
 .exact .inl (.inl (h.1 a xs q))
 .exact .inl (.inr ⟨u,h.2 a u _ q⟩)
 .exact .inr q,λa o xs q=>h.2 a o _ q⟩
abbrev Uc:=vq->Mp->DK->XR->Prop
def WZ(K:qo)(t:Uc):St->Hp->VK->(Hp->Prop)->XK->Prop:=λY H Q' J E=>Af λU M Q R=>zQ K H Y U/\HM K H M/\t U M Q R/\(∀v H' d M',rO K H' d v->HM K H' M'->qS K H H'->Q d M'->Q' v H')/\(∀H1,qS K H H1->J H1)/\Vb K R E
def WS(X:Cx)(e:No)(t:Uc):Prop:=R4 X e (WZ X.K t)
def R4.mono{t t':St->Hp->VK->(Hp->Prop)->XK->Prop}(h:R4 X e t)(m:∀Y H Q J E,t' Y H Q J E->t Y H Q J E):R4 X e t':=λXa s Y H Q J E I q=>h Xa s Y H Q J E I (m Y H Q J E q)
variable {X:Cx}{x:Str}{p pos np Xi:Pos}{e:No}{es:T0 No}{t:xt}{k:Nat}{f C:Ch}{fd:At}{ps:QQQ}{sp:GH}
def LS(F:Rf X.prog X.w X.K X.mg X.base k f fd ps sp)(hr:rY k X.A)(hg:Gl X x)(hm:X.mg x=Fa (.ref f))(hk:W.keepIn X.K (.ref f)=pc)(hb:uT X.K fd ps [])(ha:A3 (X.nW λ_ _=>False) (e::es) t) (Xt:zb x:=by decide) (he:A6 X e es:=by rfl) (Xp:BJ X pos es:=by rfl):
  WS X (.Call (.Name x p) (e::es) [] pos) (λU M Q R=>t U M λds M1=>sp ds M1 Q R):=R4.mono (MU F hr hg hm hk hb .nil ha Xt he Xp) λY H Q' J E ⟨U,M,Q,R,hs,hm,ht,k,kJ,kR⟩=>
 ⟨U,M,_,hs,hm,ht,λvs H1 ds M1 hd Xc e1 q1=>⟨kJ H1 e1,ds,M1,Q,R,by rw[eE];exact hd,Xc,q1,vO e1 k,kR⟩⟩
variable {b₀:ZB}{X3:T0 ZB}{cn n:Str}{cnp Y8 Xd xpos:Pos}{Cc L:Ch}{outer:T0 Env}{i ix:Nat}{te:Uc}{th:xy}
def V4(K:qo)(ix:Nat)(Cc:Ch)(te:Uc)(th:xy):xy:=λD U M=>∃R,te U M (λd M1=>D.nx (U.set ix (Fa d)) M1) R/\∀C y M',R C y M'->W.exmOne K (.ref C) (.ref Cc)=Fa pc/\th D U M'
def OY(he:WS X e te)(Xw:X.stack=X.env::outer)(hL:X.env.frame=Fa L)(hg:Gl X cn)(hm:X.mg cn=Fa (.ref Cc))(hN:X.N.Nodup)(Z9:X.N[ix]?=Fa x)(hx:X.env.scope.names.lookup x=Fa .local) (hs:∀ev E',He (X.marked ev E') (b₀::X3) th) (Xt:zb cn:=by decide) (YG:TD e (Fa (.Name x xpos)) Xd.line X.env=pure Uf:=by rfl):
  S3 X (.Try [.Assign [.Name x xpos] e Xd] [.ExceptHandler (Fa (.Name cn cnp)) Db (b₀::X3) Y8] [] [] pos) (V4 X.K ix Cc te th):=
 PS.nO (P' (th:=Vf X.K th) (OO hN Z9 (.inl hx) he YG (.inr hx)) Xw hL hg hm hs Xt) λD' Y H hl ⟨U,M,D,hs,hm,⟨R,ht,hh⟩,k1,k2,k3,k4⟩=>by
  refine⟨λH1=>qS X.K H H1,λcv d H'=>∃C M' y,cv=.ref C/\HM X.K H' M'/\TV X.K H' d y/\R C y M',⟨U,M,_,R,hs,hm,ht,λv H1 d M1 hd Xc e1 q1=>?_,λ_ z=>z,λC dx H' M' y h1 h0 h2=>⟨C,M',y,Z',h1,h0,h2⟩⟩,λC dx H1 H' jH tk ⟨C',M',y,ec,YI,ZS,r⟩=>?_⟩
  .exact k1 _ H1 _ M1 ((hs.mono e1).set hd (by rw[hl];exact(de.mp Z9).1)) Xc e1 (by simp) q1
  .cases ec;obtain⟨r1,r2⟩:=hh C y M' r;have e1:qS X.K H H':=jH.trans (L2.TKept.ext tk);refine⟨r1,U,M',D,hs.mono e1,YI,r2,λσ2 H2 δ2 M2 y1 y2 y3 y4 y5=>?_,λv H2 d M2 y1 y2 y3 y5=>?_,λσ2 H2 δ2 M2 y1 y2 y3 y4 y5=>?_,λσ2 H2 δ2 M2 y1 y2 y3 y4 y5=>?_⟩
   .exact k1 _ H2 _ M2 y1 y2 (e1.trans y3) y4 y5
   .exact k2 _ H2 _ M2 y1 y2 (e1.trans y3) y5
   .exact k3 _ H2 _ M2 y1 y2 (e1.trans y3) y4 y5
   .exact k4 _ H2 _ M2 y1 y2 (e1.trans y3) y4 y5
end L3
namespace L2
noncomputable def Cs(es:Array DictEntry):Bool:=es.toList.all λe=>match e.key with|.str _ _=>pc|_=>Uf
def BV{es:Array DictEntry}(h:Cs es=pc):StrKeys es:=λe he=>by
 have:=eU.mp h e (ku.mpr he);cases z:e.key with
 | str n t=>exact⟨n,t,Z'⟩
 | _=>rw[z]at this;cases this
abbrev NR:T0 Vl:=[.type "ValueError",.type "Exception",.type "BaseException",.type "object"]
def Pv{K:qo}{t:Vl}{C:Ch}{cd:ClassData}{b:Bool}(q0:W.subIn K (.ref C) (.type "BaseException")=Fa pc)(q1:W.clsIn K C=Fa cd)(q2:W.typeIn K (.ref C)=Fa (.type "type"))(s:W.subIn K t (.ref C)=Fa b):W.exmOne K t (.ref C)=Fa b:=by unfold W.exmOne;rw[q0,dz (by rfl)];unfold W.kitCls;simp only;rw[q1,q2,dz (by rfl)];exact s
end L2
namespace L3
open L2
end L3
namespace L2
theorem CB(self:Vl):∀own:QXQ,refuseLoop self "__setattr__" (own.map Value.ref++NR)=pure ()
 | []=>jT.passes self
 | c::r=>by show refuseLoop self "__setattr__" (.ref c::(r.map Value.ref++NR))=pure ();rw[refuseLoop_ref];exact CB self r
variable {prog:Pg}{w:Wo}{A:Ar}{s:Sd}{K:qo}{x C:Ch}{ox:Obj}{own:QXQ}{name:Str}{v:Vl}
section
variable {E:QQX}{cd:ClassData}
def OE{Q:Unit->Sd->Prop}(X:K.In s.heap)(I:W.InstAt s.heap x ox C Db)(hs:W.findIn K (.ref C) "__setattr__"=Fa (Fa (.builtin "object.__setattr__")))(hc:W.clsIn K C=Fa cd)(hm:cd.mro=own.map Value.ref++NR)(ht:W.takerIn K C name=Fa Db)(hd:cd.hasDict=pc) (h:∀h' d t,(∀b o,b≠x->s.heap.get? b=Fa o->h'.get? b=Fa o)->h'.get? x=Fa {ox with dict:=some d}->s.heap.get? d=Db->d≠x->h'.Ns1 d (λy=>if y=name then Fa v else Db)->Q () {s with heap:=h',toks:=t}):Tk (Tl prog w) A (setAttr (.ref x) name v) Q E s:=by
 refine W.set_plain X I hs ?_;have SF:=jT;have ne:cd.mro.isEmpty=Uf:=by rw[hm];cases own<;>rfl
 have has:cd.mro.contains (.type "object")=pc:=by
  rw[hm,List.contains_eq_any_beq,mj];have:NR.any (Value.type "object"==·)=pc:=by decide+kernel
  rw[this,lb]
 have sub:W.Looks (Tl prog w) s.heap (isInstance (.ref x) (.type "object")) pc:=I.type.andThen (W.looks_mroIn X (by unfold W.mroIn;rw[hc,l0,dh (by rw[ne];decide),has]));refine iV SF.slot.plain SF.entry (@PySem.W.check_slot (Tl prog w) _ _ {s with toks:=s.toks+1} "object.__setattr__" "object" "__setattr__" (.ref x) [.str name s.toks,v] [] _ SF.kind SF.split sub (SF.args (.ref x) (.str name s.toks) v) ?_);obtain⟨attr,ha,hr⟩:=Option.bind_eq_some_iff.mp ht;have hmro:W.Looks (Tl prog w) s.heap (mroOf (.ref C)) cd.mro:=(kC X hc).andThen .now;have L3':W.Looks (Tl prog w) s.heap (Builtin.ObjectAttr.storeTaker? attr) Db:=by
  cases attr with
  | none=>exact .now
  | some a=>
   obtain⟨b,hb,hr⟩:=hW.mp hr;refine(W.looks_takesIn X hb).andThen ?_;cases b
   .exact .now
   .cases hr
 rw[W.osa_eq,refuse_eq];refine c9 (c9 (I.type.here (s:={s with toks:=s.toks+1}) (c9 (hmro.here (s:={s with toks:=s.toks+1}) ?_))));rw[hm,CB];refine dC (c9 (I.type.here (s:={s with toks:=s.toks+1}) (c9 ((mv X ha).here (s:={s with toks:=s.toks+1}) (c9 (L3'.here (s:={s with toks:=s.toks+1}) ?_))))));obtain⟨hx,Y1,hn,ZS⟩:=I;obtain⟨oc,odi,oda,Ya⟩:=ox;dsimp only at Y1 ZS;subst Y1;cases odi with
 | some _=>exact ZS.elim
 | none=>
  refine c9 (dC (c9 (c9 (wpAny_loadPart hx (c9 (my (s:={s with toks:=s.toks+1}) (kC X hc) ?_))))));rw[hd];rw[dh (by decide)];obtain⟨hh,g,dr,tk,os⟩:=s;dsimp only at hx h ⊢;rw[dh (by simp[typeHasDict])];split
  .cases hn
  .have y1:(hh.push W.emptyDict).get? x=Fa ⟨.ref C,Db,oda,Ya⟩:=dq _ hx;have nx:x≠hh.objs.size:=λz=>fm _ (z ▸ dI hx);refine c9 (wpAny_alloc' (c9 (wpAny_update' y1 (dC ?_))));have e0:((hh.push W.emptyDict).update x λo=>{o with dict:=some hh.objs.size}).Ns hh.objs.size (λ_=>Db):=⟨W.emptyDict,#[],_,(kH _ _ _ _ nx.symm).trans (dN hh Z'),Z',λe he=>absurd he (by simp),λ_=>rfl⟩;refine c9 (dC (c9 (wpAny_nsSet1 (lA e0) λh' n1 sb=>?_)));obtain⟨oD,esD,epD,g1,g2,g3⟩:=n1.count (Within.cons name v Within.nil);refine c9 (lN g1 (g2 ▸ lO (eA g3 (by rw[dS,dM];decide))) (dC (h h' hh.objs.size _ (λb o hb z=>?_) ?_ (gQ (dB _)) nx.symm n1)))
   .exact(sb.2 b λy=>fm _ (y ▸ dI z)).trans ((kH _ _ _ _ hb).trans (dq _ z))
   .refine(sb.2 x nx).trans (fH _ y1 ?_);have fr:=(Heap.get?_some_iff.mp hx).2;cases oda with
    | _=>first|rfl|exact fr
end
variable {nm q:Str}{bs bm YC:T0 Vl}{hdct:Bool}{sn:QQQ}{sub:T0 Vl}{ab:Bool}{col:Option Bool}{dd:Option Ch}{k0 k1 k2 k3 k5:Option Vl}{B Bn newId nid XE zI:String}{bmN:T0 Vl}{h:wp}{g:Array GenState}{d:Drawn}{t:Nat}{os:OsState}
section
variable {E:QQX}{N:Ch}
abbrev P0(C t:Ch):Obj:={cls:=.ref C,data:=.fields #[.ref t,.none,.none,.none,.bool Uf,.none]}
def AU(Fn:X' Bn newId zI bmN)(hBn:YC.contains (.type Bn)=pc)(F:X' B nid XE YC)(T:OwnTail h YC bm){mN:QQZ}{us:T0 Vl}{fI:Ch}{oI:Obj}{Q:PySem.Fin->Sd->Prop} (hC:h.get? C=Fa (XXb nm q C N bs bm hdct sn sub ab col dd k0 k1 k2 k3 k5 newId)) (hn:h.Ns N mN) (hi:mN "__init__"=Fa (.ref fI)) (hf:h.get? fI=Fa oI) (hfc:oI.cls=.type "function") (Xg:us.length<=pi) (hq:∀h' e,Heap.MadeExcOf h h' e (.ref C) us->Tk (Tl prog w) A (call (.ref fI) (.ref e::us)) (λr s'=>r=.none/\Q (.done (.ret (.ref e))) s') E ⟨h',g,d,t,os⟩):
  Tk (Tl prog w) A (Builtin.«type.__call__» ⟨.ref C::us,[]⟩) Q E ⟨h,g,d,t,os⟩:=by
 repeat (first|with_reducible refine h9 hC ?_|with_reducible refine wpAny_madeBy_exc hC ?_|wp_step)
 refine codeAny_call_builtin_code (iB _ Fn.quiet) (wpAny_check_new_subU Fn hBn T hC (codeAny_exc_new_subU Fn hBn F T hC ?_ Xg));have kp:∀b o,h.get? b=Fa o->((h.push {cls:=.type "tuple",data:=.seq us.toArray}).push (P0 C h.objs.size)).get? b=Fa o:=λb o z=>dq _ (dq _ z);have gE:((h.push {cls:=.type "tuple",data:=.seq us.toArray}).push (P0 C h.objs.size)).get? (h.objs.size+1)=Fa (P0 C h.objs.size):=by heap_get
 have hC2:=kp _ _ hC;have Z1:((h.push {cls:=.type "tuple",data:=.seq us.toArray}).push (P0 C h.objs.size)).Ns N mN:=let⟨o,es,ep,e,r⟩:=hn;⟨o,es,ep,kp _ _ e,r⟩;have cC:(Value.ref C::bm).contains (.ref C)=pc:=by rw[iE,fv,ib]
 have T2:=T.keeps kp;show Tk _ _ _ _ _ _;unfold isInstance
 repeat (first|with_reducible refine h9 gE ?_|(with_reducible refine kI hC2 ?_;rw[cC])|wp_step)
 show Tk _ _ (typeLookup (.ref C) _) _ _ _;refine wpAny_typeLookup_tail hC2 Z1 T2 F.mroIs F.init.lookup ?_;rw[hi];refine fu (c9 ?_);unfold bindSpecial;refine c9 (jM (T:="function") ⟨_,kp _ _ hf,hfc⟩ ?_);rw[dz (by decide)];refine dC (c9 (eJ (hq _ (h.objs.size+1) ⟨kp,gQ (gS _),h.objs.size,gE,gQ (dB _),dq _ (Heap.get?_push_at Z' Z')⟩) (λr s' hr=>?_) λ_ _ z=>z));obtain⟨rfl,hQ⟩:=hr
 wp_walk
 exact hQ
def HE(Fn:X' Bn newId zI bmN)(hBn:YC.contains (.type Bn)=pc)(F:X' B nid XE YC)(T:OwnTail h YC bm){mN:QQZ}{us:T0 Vl}{fI:Ch}{oI:Obj}{Q:QQX} (hC:h.get? C=Fa (XXb nm q C N bs bm hdct sn sub ab col dd k0 k1 k2 k3 k5 newId)) (hn:h.Ns N mN) (hi:mN "__init__"=Fa (.ref fI)) (hf:h.get? fI=Fa oI) (hfc:oI.cls=.type "function") (Xg:us.length<=pi) (hq:∀h' e,Heap.MadeExcOf h h' e (.ref C) us->Tk (Tl prog w) (A.under (.builtin "type.__call__" ⟨.ref C::us,[]⟩)) (call (.ref fI) (.ref e::us)) (λr s'=>r=.none/\Q (.ref e) s') E ⟨h',g,d,t,os⟩):
  Tk (Tl prog w) A (call (.ref C) us) Q E ⟨h,g,d,t,os⟩:=by
 have f1:=tc_lookup;have f2:=tc_bind (.ref C);have hT:(⟨h,g,d,t,os⟩:Sd).TypeIs (.ref C) "type":=⟨_,hC,Z'⟩;refine iI (j4 ?_);show Tk _ _ (callAny (.ref C) _) _ _ _
 repeat (any_goals(first|assumption|with_reducible refine h9 hC ?_|wp_step))
 exact⟨Z',codeAny_call_builtin_at (iB _ (by decide+kernel)) entry_typeCall (wpAny_check_type_call_sub hC (AU Fn hBn F T hC hn hi hf hfc Xg hq))⟩
end
variable {M:Model}{env:Env}
section
variable {E:QQX}{N:Ch}
def JG(h:wp)(e C:Ch)(dx:Option Ch):Prop:=C4 λt sl=>h.get? e=Fa ⟨.ref C,dx,.fields #[.ref t,.none,.none,.none,.bool Uf,.none],sl⟩
def GN{x:Sem Vl}{Q:Flow->Sd->Prop}(Xr:bm.contains (.type "BaseException")=pc)(hh:A.handled=Db) (h:Tk M A x (λv s₁=>∃e dx,v=.ref e/\s₁.heap.get? C=Fa (XXb nm q C N bs bm hdct sn sub ab col dd k0 k1 k2 k3 k5 newId)/\JG s₁.heap e C dx/\E (.ref e) s₁) E s):
  Tk M A (raiseStmt env (Fa x) Db) Q E s:=by
 have cB:(Value.ref C::bm).contains (.type "BaseException")=pc:=by rw[iE,Xr,lb]
 unfold raiseStmt;refine c9 (eJ h (λv s₁ ⟨e,dx,ev,hC,⟨t,sl,he⟩,hE⟩=>?_) λ_ _ z=>z);subst ev;obtain⟨hp,g,d,tk,os⟩:=s₁
 repeat (first|with_reducible refine h9 he ?_|with_reducible refine h9 hC ?_|(with_reducible refine kI hC ?_;rw[cB])|wp_step)
 exact wpAny_raiseNew_none hh hE
def GQ(Fn:X' Bn newId zI bmN)(hBn:YC.contains (.type Bn)=pc)(F:X' B nid XE YC){mN:QQZ}{fI:Ch}{x:Str}{np Xi pos:Pos}{args:T0 No}{Q:Flow->Sd->Prop} (Xr:bm.contains (.type "BaseException")=pc) (hh:A.handled=Db) (Xn:(Ix Xi (zn args env)).any (·.1)=Uf) (hi:mN "__init__"=Fa (.ref fI)) (h:Tk (Tl prog w) A (Op (.Name x np) env) (λf s₁=>f=.ref C/\Tk (Tl prog w) A (evalArgs (.ref C) pc (Ix Xi (zn args env)) []) (λa s₂=>a.kw=[]/\a.pos.length<=pi/\s₂.heap.get? C=Fa (XXb nm q C N bs bm hdct sn sub ab col dd k0 k1 k2 k3 k5 newId)/\s₂.heap.Ns N mN/\OwnTail s₂.heap YC bm/\(∃oI,s₂.heap.get? fI=Fa oI/\oI.cls=.type "function")/\
    ∀h' e,Heap.MadeExcOf s₂.heap h' e (.ref C) a.pos->Tk (Tl prog w) (A.under (.builtin "type.__call__" ⟨.ref C::a.pos,[]⟩)) (call (.ref fI) (.ref e::a.pos))
     (λr s'=>r=.none/\∃dx,s'.heap.get? C=Fa (XXb nm q C N bs bm hdct sn sub ab col dd k0 k1 k2 k3 k5 newId)/\JG s'.heap e C dx/\E (.ref e) s') E {s₂ with heap:=h'}) E s₁) E s):
  Tk (Tl prog w) A (exec (.Raise (Fa (.Call (.Name x np) args [] Xi)) Db pos) env) Q E s:=by
 rw[arm_exec_Raise];refine c9 (io (GN (C:=C) (nm:=nm) (q:=q) (N:=N) (bs:=bs) (bm:=bm) (hdct:=hdct) (sn:=sn) (sub:=sub) (ab:=ab) (col:=col) (dd:=dd) (k0:=k0) (k1:=k1) (k2:=k2) (k3:=k3) (k5:=k5) (newId:=newId) Xr hh ?_));refine c9 (eJ (wpAny_Call_ofName (eJ h (λf s₁ ⟨ef,h₁⟩=>?_) λ_ _ z=>z)) (λv s₃ h₃=>c9 (io (dC h₃))) λ_ _ z=>z);subst ef;unfold XXg;refine c9 (fu (eJ h₁ (λa s₂ h₂=>c9 (io ?_)) λ_ _ z=>z));obtain⟨Xd,akw⟩:=a;obtain⟨hkw,Xg,hC,hn,T,⟨oI,hf,hfc⟩,h₂⟩:=h₂;obtain rfl:akw=[]:=hkw;obtain⟨hp,g,d,tk,os⟩:=s₂;simp only[Xn];refine c9 (wpAny_keeperOf_exc hC (c9 (HE Fn hBn F T hC hn hi hf hfc Xg λh' e hm=>eJ (h₂ h' e hm) (λr s' ⟨z,dx,c1,c2,c3⟩=>⟨z,c9 (fu (wpAny_point (dC ⟨e,dx,Z',c1,c2,c3⟩)))⟩) λ_ _ z=>z)))
end
def x0(a C:Ch)(h:wp):Prop:=JG h a C Db
def x1(a C d:Ch)(h:wp):Prop:=JG h a C (Fa d)
structure yK(K:qo)(C:Ch)(f:Str):Prop where
 sa:W.findIn K (.ref C) "__setattr__"=Fa (Fa (.builtin "object.__setattr__"))
 cd:∃cd own,W.clsIn K C=Fa cd/\cd.mro=List.map Value.ref own++NR/\cd.hasDict=pc
 tk:W.takerIn K C f=Fa Db
variable {X:Cx}{Xa:T0 (Ch × Obj)}{Y σ':St}{H H1:Hp}{s1:Sd}{a:Ch}
section
variable {f:Str}
def Hb{A:Ar}{E:QQX}{Q:Unit->Sd->Prop}(I:Inv X Xa Y H s)(e:H a=Fa (.ext (x0 a C)))(ry:qN y u)(st:yK X.K C f)(h:∀d s',H d=Db->d≠a->Inv X Xa Y (upd (upd H a (.ext (x1 a C d))) d (.ext (Qe d f y))) s'->Q () s'):Tk (Tl X.prog X.w) A (setAttr (.ref a) f u) Q E s:=by obtain⟨⟨t,sl,ho⟩,_,_⟩:=I.mT a _ e;obtain⟨cd,own,c1,c2,c3⟩:=st.cd;refine OE I.ni ⟨ho,Z',Z',trivial⟩ st.sa c1 c2 st.tk c3 λh' d tk k1 k2 dn da n1=>h d _ (zd I.mT dn) da ?_;have I2:=I.write (t':=tk) (x:=a) (e:=a) (o:=.ext (x1 a C d)) (by rw[e];exact True.intro) (.inl Z') k1 ⟨_,k2⟩ ⟨⟨t,sl,k2⟩,⟨_,k2⟩,λh1 h2 ⟨t',YE,z⟩ kk=>⟨t',YE,kk _ z⟩⟩;refine I2.adopt I dn (by rw[pV da];exact zd I.mT dn) ⟨⟨u,n1,ry⟩,?_,λh1 h2 ⟨u,n,r⟩ kk=>⟨u,n.at kk,r⟩⟩;obtain⟨o,_,_,z,_⟩:=n1;exact⟨o,z⟩
def Inv.drop{φ:wp->Prop}(I:Inv X Xa Y H s)(ea:H a=Fa (.ext φ)):Inv X Xa Y (λb=>if b=a then Db else H b) s:=by
 have less:∀b,H b=Db->(if b=a then Db else H b)=Db:=λb e=>by split<;>first|rfl|exact e
 have keep:∀b o,H b=Fa o->(∀φ,o≠.ext φ)->(if b=a then Db else H b)=Fa o:=λb o e n=>by
  rw[dh]
  .exact e
  .intro z;rw[z,ea]at e;exact n φ (dA e).symm
 refine⟨I.ok,I.os,I.bare,⟨I.base.keep,I.base.slot,λb o e h0 hb=>less b (I.base.free b o e h0 hb),I.base.there,λb xs e=>keep b _ (I.base.nG b xs e) (λ_ z=>nomatch z),λb o u e=>keep b _ (I.base.nA b o u e) (λ_ z=>nomatch z),λb ps e=>?_⟩,I.loc,I.cell,less _ I.free,λx c e=>less _ (I.mZ x c e),λp hp=>⟨(I.pin p hp).1,less _ (I.pin p hp).2.1,(I.pin p hp).2.2⟩,λb ob e=>?_,I.len⟩
 .obtain⟨more,z⟩:=I.base.nK b ps e;exact⟨more,keep b _ z (λ_ z=>nomatch z)⟩
 .have e':H b=Fa ob:=by
   by_cases z:b=a
   .rw[dz z]at e;cases e
   .rw[dh z]at e;exact e
  exact(I.mT b ob e').nH (λ_ _ _ q=>q) (λb' q=>keep b' _ q (λ_ z=>nomatch z)) λb' xs q=>keep b' _ q (λ_ z=>nomatch z)
end
def MM(K:qo)(ta tv:TE)(f:Str):TS:=λD Y H=>tv Y H λy H1=>ta Y H1 λx H2=>∃a C,x=.ref a/\H2 a=Fa (.ext (x0 a C))/\yK K C f/\∀d,H2 d=Db->d≠a->D.nx Y (upd (upd H2 a (.ext (x1 a C d))) d (.ext (Qe d f y)))
def OW{f:Str}{pos Xj:Pos}{ta tv:TE}(ha:PE X o ta)(hv:PE X value tv)(hs:TD value (Fa (.Attribute o f Xj)) pos.line X.env=pure Uf:=by rfl):PS X (.Assign [.Attribute o f Xj] value pos) (MM X.K ta tv f):=by intro Xa s Y H D I h;refine iQ (sC (hv Xa s Y H _ I h) λu s1 zz=>x5 zz λy H1 I1 ry q=>sC (ha Xa s1 Y H1 _ I1 q) λov s2 zz=>?_) hs;obtain⟨x,H2,I2,rx,a,C,ex,ea,st,q2⟩:=zz;subst ex;obtain rfl:ov=Value.ref a:=rx;exact Hb I2 ea ry st λd s3 dn da I3=>⟨Y,_,I3,q2 d dn da⟩
def wH(K:qo)(f:Str):Sp:=λvs H Q _=>C9 λe C y=>vs=[.ref e,y]/\H e=Fa (.ext (x0 e C))/\yK K C f/\∀d,H d=Db->d≠e->Q .mP (upd (upd H e (.ext (x1 e C d))) d (.ext (Qe d f y)))
variable {qual:Str}{scope:XXd}{outer:T0 Env}{s0:Sd}{H0:Hp}{P:Pg}{mg:QQZ}{base:wp}
section
def La{x qual y1 y2 fl:Str}{st:ZB}(F:P5 K x qual st f fd)(S:tq [y1,y2] [y1,y2] (qa st)) (hb:∀(Xk:Vl) (A:Ar) (outer:T0 Env) (s:Sd) (H:Hp) (E:XK),B' (vE (BD P w) P w K mg base [y1,y2] qual (qa st) f Xk A outer s H E) (rS st) (MM K (Hr 0) (Hr 1) fl)):xx P w K mg base (BD P w) 1 f fd [y1,y2] (wH K fl):=by
 obtain⟨oc,od,kV,XO,pm,an,Xk,ct,Ya,rfl,lk,Yr⟩:=F.ex;refine LU lk Yr S (λvs H Q E h=>?_) λA outer s H vs Q' E hr h=>⟨_,hb Xk A outer s H E,?_⟩
 .obtain⟨e,C,y,rfl,_⟩:=h;rfl
 .obtain⟨e,C,y,rfl,h1,h2,q⟩:=h;exact⟨y,Z',.ref e,Z',e,C,Z',h1,h2,q⟩
def JI(K:qo)(C fI:Ch):Prop:=
 ∃nm q N bs bm YC hdct sn sub ab col dd k0 k1 k2 k3 k5,∃B Bn newId nid XE zI:String,∃bmN,∃mN:QQZ,X' Bn newId zI bmN/\YC.contains (Value.type Bn)=pc/\X' B nid XE YC/\bm.contains (Value.type "BaseException")=pc/\mN "__init__"=Fa (.ref fI)/\
  ∀h:wp,K.In h->h.get? C=Fa (XXb nm q C N bs bm hdct sn sub ab col dd k0 k1 k2 k3 k5 newId)/\h.Ns N mN/\OwnTail h YC bm/\∃oI,h.get? fI=Fa oI/\oI.cls=.type "function"
variable {N:QQQ}{f:Ch}{cd:Vl}{E:XK}
def K2{X:Cx}(hX:X=vE (BD P w) P w K mg base N qual scope f cd A outer s0 H0 E){C fI:Ch}{fdI:At}{ps:QQQ}{fl:Str}{k:Nat}{x:Str}{np Xi pos:Pos}{e:No}{ta:TA}(hC:JI X.K C fI)(F:xx X.prog X.w X.K X.mg X.base (BD X.prog X.w) k fI fdI ps (wH X.K fl))(hr:rY (k+1) X.A)(hb:uT X.K fdI ps [])(st:yK X.K C fl) (hg:Gl X x) (hm:X.mg x=Fa (.ref C)) (ha:PA X [e] ta) (hs:zn [e] X.env=[(Uf,Op e X.env)]:=by rfl) (Xt:zb x:=by decide):
  PS X (.Raise (Fa (.Call (.Name x np) [e] [] Xi)) Db pos) (λ_ Y H=>ta Y H λvs H1=>∃y,vs=[y]/\∀d,H1 d=Db->E (.ref C) (Fa d) (upd H1 d (.ext (Qe d fl y)))):=by
 intro Xa s Y H D I h;obtain⟨nm,q,N',bs,bm,YC,hdct,sn,sub,ab,col,dd,k0,k1,k2,k3,k5,B,Bn,newId,nid,XE,zI,bmN,mN,f1,f2,f3,f4,f5,Ze⟩:=hC;have hcalm:X.A.handled=Db:=I.ok.hd (by rw[hX];rfl);refine GQ (nm:=nm) (q:=q) (N:=N') (bs:=bs) (hdct:=hdct) (sn:=sn) (sub:=sub) (ab:=ab) (col:=col) (dd:=dd) (k0:=k0) (k1:=k1) (k2:=k2) (k3:=k3) (k5:=k5) f1 f2 f3 f4 hcalm (by rw[hs];rfl) f5 (xm I hg hm ⟨Z',?_⟩ Xt);rw[hs];refine evalArgs_kwB Z' ?_;have YO:=ha Xi Xa s Y H _ I h;rw[hs]at YO;refine sC YO λus s1 zz=>?_;obtain⟨vs,H1,I1,r1,y,ey,q1⟩:=zz;subst ey;obtain⟨u,rfl,ru⟩:=xS r1;refine wpAny_evalAll_nil ?_;obtain⟨c1,c2,c3,c4⟩:=Ze s1.heap I1.ni;refine⟨Z',by show 1<=pi;rw[dS];decide,c1,c2,c3,c4,λh' e' md=>?_⟩;obtain⟨mk,mn,t,mt,_⟩:=md;have hn:H1 e'=Db:=zd I1.mT mn;have I2:Inv X Xa Y H1 {s1 with heap:=h'}:=I1.kept (t':=s1.toks) mk;have I3:Inv X Xa Y (upd H1 e' (.ext (x0 e' C))) {s1 with heap:=h'}:=I2.adopt I1 mn hn ⟨⟨t,_,mt⟩,⟨_,mt⟩,λh1 h2 ⟨t',YE,z⟩ kk=>⟨t',YE,kk _ z⟩⟩;have r2:qD [V.ref e',y] [Value.ref e',u]:=.cons Z' (.cons ru .nil);have YF:wH X.K fl [V.ref e',y] (upd H1 e' (.ext (x0 e' C))) (λv H2=>v=.mP/\∃d,d≠e'/\H1 d=Db/\H2=upd (upd H1 e' (.ext (x1 e' C d))) d (.ext (Qe d fl y))) (λ_ _ _=>False):=⟨e',C,y,Z',qc,st,λd dn da=>⟨Z',d,da,by rw[pV da]at dn;exact dn,by rw[Qx]⟩⟩;have hl:([Value.ref e',u]:T0 Vl).length=ps.length:=by rw[<-r2.length];exact F.len _ _ _ _ YF
 refine iI (gq (F.run _ X.stack _ _ ⟨[Value.ref e',u],[]⟩ [Value.ref e',u] _ _ _ (hr.make C [u] []) (I3.oh.make C [u] []) (hb _ [Value.ref e',u] I3.ni hl) r2 YF) λr s' YT=>?_);cases r with
 | error ev=>obtain⟨_,_,_,_,_,_,z,_⟩:=YT;exact z.elim
 | ok fw=>
  cases fw with
  | ret uv=>
   obtain⟨v,H',I4,rv,ev,d,da,dn,eH⟩:=I3.after YT;subst ev eH;obtain⟨⟨t',YE,md⟩,_,_⟩:=I4.mT e' _ (by rw[pV (dW da)];exact qc);have I5:Inv X Xa Y (upd H1 d (.ext (Qe d fl y))) _:=(funext λb=>by
    by_cases z:b=e'
    .subst z;rw[dz Z',pV (dW da),hn]
    .rw[dh z];by_cases z2:b=d
     .subst z2;rw[qc,qc]
     .rw[pV z2,pV z2,pV z]:(λb=>if b=e' then Db else upd (upd H1 e' (.ext (x1 e' C d))) d (.ext (Qe d fl y)) b)=upd H1 d (.ext (Qe d fl y))) ▸ I4.drop (a:=e') (φ:=x1 e' C d) (by rw[pV (dW da)];exact qc)
   refine⟨rv,Fa d,(Ze s'.heap I4.ni).1,⟨t',YE,md⟩,?_⟩;subst hX;have XC:Un (wz outer) [] H0 H1 s0.heap s1.heap:=I1.base;exact TH I5 (tb:=none) ⟨_,_,md,Z',Z',Z',(by show 1<6;decide),Z',λT z=>by cases z⟩ (GM XC Z' mn) (λT z=>by cases z) (by rw[pV (dW da)];exact hn) (q1 d dn)
  | next=>exact False.elim YT
  | brk=>exact False.elim YT
  | cont=>exact False.elim YT
end
end L2
namespace L3
open L2
variable {P:Pg}{w:Wo}{K:qo}{mg:QQZ}{base:wp}{N:QQQ}{qual:Str}{scope:XXd}{f:Ch}{cd:Vl}{A:Ar}{outer:T0 Env}{s0:Sd}{H0:Hp}{E:XK}{x:Str}{np Xi pos:Pos}{e:No}{C fI:Ch}{fdI:At}{ps:QQQ}{fl:Str}{k:Nat}{R:XR}{ta:xt}
def Ov(C:Ch)(R:XR)(f:Str)(ta:xt):xy:=λ_ U M=>ta U M λds M1=>∃z,ds=[z]/\R C (Fa (f,z)) M1
def Ks(hC:JI K C fI)(F:xx P w K mg base (BD P w) k fI fdI ps (wH K fl))(hr:rY (k+1) (vE (BD P w) P w K mg base N qual scope f cd A outer s0 H0 E).A)(hb:uT K fdI ps [])(st:yK K C fl)(_:W.findIn K (.ref C) "__init__"=Fa (Fa (.ref fI)))(hg:Gl (vE (BD P w) P w K mg base N qual scope f cd A outer s0 H0 E) x)(hm:mg x=Fa (.ref C))(hR:Vb K R E)(ha:A3 (vE (BD P w) P w K mg base N qual scope f cd A outer s0 H0 E) [e] ta) (hs:zn [e] (vE (BD P w) P w K mg base N qual scope f cd A outer s0 H0 E).env=[(Uf,Op e (vE (BD P w) P w K mg base N qual scope f cd A outer s0 H0 E).env)]:=by rfl) (Xt:zb x:=by decide):
  S3 (vE (BD P w) P w K mg base N qual scope f cd A outer s0 H0 E) (.Raise (Fa (.Call (.Name x np) [e] [] Xi)) Db pos) (Ov C R fl ta):=
 PS.mono (K2 Z' hC F hr hb st hg hm ha hs Xt) λD' Y H ⟨U,M,D,hs,hm,ht,_⟩=>⟨U,M,_,hs,hm,ht,λvs H1 ds M1 hd Xc e1 q1=>by
  obtain⟨z,rfl,r⟩:=q1;obtain⟨v,rfl,hv⟩:=rP hd;exact⟨v,Z',λd dn=>hR C (Fa d) _ M1 _ (Xc.add dn) (.inr ⟨d,fl,z,v,Z',Z',qc,hv.mono (.new dn)⟩) r⟩⟩
variable {X:Cx}{b₀:ZB}{X3:T0 ZB}{cn:Str}{cnp Y8 epos:Pos}{Cc L:Ch}{te:Uc}{th:xy}
end L3
namespace L2
def L1{K:qo}{C C2 N fI:Ch}{nm q:Str}{bs sub:T0 Vl}{hdct ab:Bool}{sn:QQQ}{col:Option Bool}{dd od1 od2 dd2:Option Ch}{k0 k1 k2 k3 k5:Option Vl}{oc1 oc2 c0:Vl}{es1 es2:Array DictEntry}{ep1 ep2:Nat}{sl1 sl2 V7:Array (Option Vl)}{cd2:ClassData}{oI:Obj} (l1:K.lookup C=Fa (XXb nm q C N bs (.ref C2::NR) hdct sn sub ab col dd k0 k1 k2 k3 k5 "ValueError.__new__")) (n1:K.lookup N=Fa ⟨oc1,od1,.dict es1 ep1,sl1⟩) (s1:Cs es1=pc) (i1:nsFind es1 "__init__"=Fa (.ref fI)) (l2:K.lookup C2=Fa ⟨c0,dd2,.cls cd2,V7⟩) (n2:K.lookup cd2.ns=Fa ⟨oc2,od2,.dict es2 ep2,sl2⟩) (s2:Cs es2=pc) (i2:nsFind es2 "__init__"=Db) (l3:K.lookup fI=Fa oI) (hf:W.isFn K (.ref fI)=pc):JI K C fI:=by
 have hc:oI.cls=.type "function":=by have hf:=fB.mp hf;unfold W.typeIn at hf;simp only at hf;rw[l3]at hf;exact dA hf
 refine⟨nm,q,N,bs,.ref C2::NR,NR,hdct,sn,sub,ab,col,dd,k0,k1,k2,k3,k5,"ValueError","ValueError","ValueError.__new__","ValueError.__new__","ValueError.__init__","ValueError.__init__",NR,λn=>nsFind es1 n,kz,by decide+kernel,kz,?_,i1,λh X=>⟨X C _ l1,⟨_,es1,ep1,X N _ n1,Z',BV s1,λ_=>rfl⟩,.own (X C2 _ l2) ⟨_,es2,ep2,X _ _ n2,Z',BV s2,λ_=>rfl⟩ i2 .base,oI,X fI _ l3,hc⟩⟩;rw[iE];have:NR.contains (.type "BaseException")=pc:=by decide+kernel
 rw[this,lb]
def KW{K:qo}{C C2 N:Ch}{nm q f:Str}{bs sub:T0 Vl}{ab:Bool}{sn:QQQ}{col:Option Bool}{dd:Option Ch}{k0 k1 k2 k3 k5:Option Vl}(l1:K.lookup C=Fa (XXb nm q C N bs (.ref C2::NR) pc sn sub ab col dd k0 k1 k2 k3 k5 "ValueError.__new__"))(sa:W.findIn K (.ref C) "__setattr__"=Fa (Fa (.builtin "object.__setattr__")))(tk:W.findIn K (.ref C) f=Fa Db):yK K C f:=by refine⟨sa,⟨_,[C,C2],by unfold W.clsIn;rw[l1],Z',Z'⟩,?_⟩;unfold W.takerIn;rw[tk];rfl
end L2
namespace L3
open L2
variable {X:Cx}{pos Xd:Pos}{o e:No}{es:T0 No}{ta:T3}{t:xt}
structure FA where
 f:Ch
 d:At
 p:QQQ
structure DG(K:qo)(st:ZB)(py qual:Str)(ps:QQQ)(x:FA):Prop where
 pe:x.p=ps
 fn:P5 K py qual st x.f x.d
 b:uT K x.d x.p []
 ty:W.isFn K (.ref x.f)=pc
structure TG(K:qo)(mg:QQZ)(st:ZB)(py:Str)(ps:QQQ)(x:FA):Prop extends DG K st py py ps x where
 mg:mg py=Fa (.ref x.f)
structure MG(K:qo)(C:Ch)(st:ZB)(py qual:Str)(ps:QQQ)(x:FA):Prop extends DG K st py qual ps x where
 at_:W.findIn K (.ref C) py=Fa (Fa (.ref x.f))
structure CG(K:qo)(mg:QQZ)(nm:Str)(C:Ch):Prop extends Cls K C where
 mg:mg nm=Fa (.ref C)
def DG.kp{K:qo}{st:ZB}{x:FA}(h:DG K st py qual ps x):W.keepIn K (.ref x.f)=pc:=h.fn.kp
def MG.nq{K:qo}{st:ZB}{x:FA}(h:MG K C st py qual ps x):vH K C py x.f:=⟨h.at_,h.ty,h.toDG.kp⟩
def zc(K:qo)(C:Ch)(fs:QQQ):Prop:=∀f,fs.contains f=pc->ue K C f
def tE{K:qo}:zc K C []:=λf h=>by simp at h
def pQ{K:qo}{C:Ch}{g:Str}(h:W.findIn K (.ref C) g=Fa Db)(r:zc K C fs):zc K C (g::fs):=λf q=>by
 rw[iE,hG]at q;rcases q with q|q
 .rw[dL q];exact h
 .exact r f q
abbrev Fq(P:Pg)(w:Wo)(K:qo)(mg:QQZ)(base:wp)(k:Nat)(x:FA)(sp:rk):Prop:=Tr P w K mg base k x.f x.d x.p sp
abbrev Vv(P:Pg)(w:Wo)(K:qo)(mg:QQZ)(base:wp)(k:Nat)(x:FA)(sp:GH):Prop:=Rf P w K mg base k x.f x.d x.p sp
noncomputable def RL(N P:QQQ)(sc:XXd):Bool:=sc.kind==.function&&(!sc.isCoroutine&&(!sc.isGenerator&&(decide N.Nodup&&(decide (N.take P.length=P)&&((P.all λx=>sc.names.lookup x==Fa .local||sc.names.lookup x==Fa .cell)&&sc.names.all λy=>!(y.2==.free))))))
def WW{N P:QQQ}(h:RL N P sc=pc):tq N P sc:=by
 unfold RL at h;simp only[eh,gP,fB,eL]at h;obtain⟨h1,h2,h3,h4,h5,h6,h7⟩:=h;refine⟨h1,h2,h3,h4,h5,λx hx=>?_,λy hy e=>?_⟩
 .have:=eU.mp h6 x hx
  simpa using this
 .have:=eU.mp h7 y hy;rw[e]at this;simp at this
variable {P:Pg}{w:Wo}{K:qo}{mg:QQZ}{base:wp}
def Wz{st:ZB}{sp:rk}(F:DG K st x qual ps fa)(S:tq N ps (qa st))(len:∀ds M Q,sp ds M Q->ds.length=ps.length) (Xv:∀(Xk:Vl) (A:Ar) (outer:T0 Env) (s:Sd) (H:Hp) (E:XK),rY k (A.deeper (xL qual (qa st) s.heap.objs.size fa.f Xk))->
   ∃t,He (vE On P w K mg base N qual (qa st) fa.f Xk A outer s H E).ow (rS st) t/\∀ds M Q,sp ds M Q->t {nx:=λ_ M'=>∃Xf,qp Xf M'/\Q .mP Xf,rt:=λd M'=>∃Xf,qp Xf M'/\Q d Xf} (xf N ds) M):Fq P w K mg base (k+1) fa sp:=by
 unfold Fq;rw[F.pe];exact UW F.fn S len Xv
def T7{st:ZB}{sp:GH}(F:DG K st x qual ps fa)(S:tq N ps (qa st))(len:∀ds M Q R,sp ds M Q R->ds.length=ps.length) (Xv:∀(Xk:Vl) (A:Ar) (outer:T0 Env) (s:Sd) (H:Hp) (E:XK) (R:XR),rY k (A.deeper (xL qual (qa st) s.heap.objs.size fa.f Xk))->Vb K R E->
   ∃t,He (vE (BD P w) P w K mg base N qual (qa st) fa.f Xk A outer s H E) (rS st) t/\∀ds M Q,sp ds M Q R->t {nx:=λ_ M'=>∃Xf,qp Xf M'/\Q .mP Xf,rt:=λd M'=>∃Xf,qp Xf M'/\Q d Xf} (xf N ds) M):Vv P w K mg base (k+1) fa sp:=by
 unfold Vv;rw[F.pe];exact Us F.fn S len Xv
variable {k n:Nat}{f C:Ch}{fa:FA}{st:ZB}{qual:Str}{ps:QQQ}{sp:rk}{x m:Str}{p:Pos}
def pI(F:Fq X.prog X.w X.K X.mg X.base k fa sp)(hr:rY n X.A)(T:TG X.K X.mg st x ps fa)(ha:A3 X (e::es) t)(hn:k<=n:=by first|decide|omega)(hg:Gl X x:=by rfl)
  (Xt:zb x:=by decide) (he:A6 X e es:=by rfl) (Xp:BJ X pos es:=by rfl):
  E3 X (.Call (.Name x p) (e::es) [] pos) (Dw sp t):=Qd F (hr.mono hn) hg T.mg T.toDG.kp T.b ha Xt he Xp
def vG(F:Fq X.prog X.w X.K X.mg X.base k fa sp)(hr:rY n X.A)(c:CG X.K X.mg x C)(i:Mk X.K C fa.f)(T:DG X.K st m qual ps fa)(ha:A3 X (e::es) t)(hn:k+1<=n:=by first|decide|omega)(hg:Gl X x:=by rfl)
  (Xt:zb x:=by decide) (he:A6 X e es:=by rfl) (Xp:BJ X pos es:=by rfl):
  E3 X (.Call (.Name x p) (e::es) [] pos) (Q2 C sp t):=OC c.toCls i F (hr.mono hn) hg c.mg T.b ha Xt he Xp
def pW{pl:Sem Bool}(he:E3 X o ta)(c:Cls X.K C)(T:MG X.K C st m qual ps fa)(F:Fq X.prog X.w X.K X.mg X.base k fa sp)(hr:rY n X.A)(ha:A3 X (e::es) t)(hn:k<=n:=by first|decide|omega)
  (Xw:A6 X e es:=by rfl) (Xp:BJ X pos es:=by rfl)
  (ht:Op (.Call (.Attribute o m Xd) (e::es) [] pos) X.env=(do
   let ov<-Op o X.env
   XXc Xd.atName
   let(f,first)<-sB [ov] (o0 ov m pl)
   XXg pos f first (Ix pos (zn (e::es) X.env)) (wE pos (Rs [] X.env))):=by rfl):
  E3 X (.Call (.Attribute o m Xd) (e::es) [] pos) (AB m (λD s=>D=C/\s=sp) ta t):=
 Fp (R:=λD s=>D=C/\s=sp) he (λD s ⟨e1,e2⟩=>by subst e1 e2;exact⟨c,_,_,_,T.nq,F,T.b⟩) (hr.mono hn) ha Xw Xp ht
def vX{pl:Sem Bool}(he:E3 X o ta)(c:Cls X.K C)(T:MG X.K C st m qual ps fa)(F:Fq X.prog X.w X.K X.mg X.base k fa sp)(hr:rY n X.A)(hn:k<=n:=by first|decide|omega)
  (ht:Op (.Call (.Attribute o m Xd) [] [] pos) X.env=(do
   let ov<-Op o X.env
   XXc Xd.atName
   let(f,first)<-sB [ov] (o0 ov m pl)
   XXg pos f first (Ix pos (zn [] X.env)) (wE pos (Rs [] X.env))):=by rfl):
  E3 X (.Call (.Attribute o m Xd) [] [] pos) (AB m (λD s=>D=C/\s=sp) ta xV):=
 xJ (R:=λD s=>D=C/\s=sp) he (λD s ⟨e1,e2⟩=>by subst e1 e2;exact⟨c,_,_,_,T.nq,F,T.b⟩) (hr.mono hn) ht
def yC{pl:Sem Bool}(cm:Li X.K C m fa.f)(F:Fq X.prog X.w X.K X.mg X.base k fa sp)(hr:rY n X.A)(c:CG X.K X.mg x C)(T:DG X.K st m qual ps fa)(ha:A3 X (e::es) t)(hn:k<=n:=by first|decide|omega)(hg:Gl X x:=by rfl)
  (Xt:zb x:=by decide) (Xw:A6 X e es:=by rfl) (Xp:BJ X pos es:=by rfl)
  (ht:Op (.Call (.Attribute (.Name x p) m Xd) (e::es) [] pos) X.env=(do
   let ov<-Op (.Name x p) X.env
   XXc Xd.atName
   let(f,first)<-sB [ov] (o0 ov m pl)
   XXg pos f first (Ix pos (zn (e::es) X.env)) (wE pos (Rs [] X.env))):=by rfl):
  E3 X (.Call (.Attribute (.Name x p) m Xd) (e::es) [] pos) (Dw sp t):=Pr cm F (hr.mono hn) hg c.mg T.kp T.b ha Xt Xw Xp ht
variable {h:wp}{py:Str}{od an:Option Ch}{sl:Array (Option Vl)}{kv dc pm cd ct:Vl}
def Jn{fd:At}{oc:Vl}(l:K.lookup f=Fa ⟨oc,od,.func fd,sl⟩):W.keepIn K (.ref f)=pc:=by unfold W.keepIn;simp only;rw[l]
def PQ{fd:At}(l:K.lookup f=Fa ⟨.type "function",od,.func fd,sl⟩):W.isFn K (.ref f)=pc:=by unfold W.isFn W.typeIn;simp only;rw[l];rfl
abbrev nj(py qual:Str)(st:ZB)(ps:QQQ):Prop:=∀(kV XO pm:Vl) (an:Option Ch) (Xk ct:Vl) (us:T0 Vl),us.length=ps.length->bindArgs (W.fnOf py qual (ut st) (rS st) (qa st) .none kV XO pm an Xk ct) ⟨us,[]⟩=pure (ps.zip us)
def Q7(l:K.lookup f=Fa ⟨.type "function",od,.func (W.fnOf py qual (ut st) (rS st) (qa st) .none kv dc pm an cd ct),sl⟩)(k:W.codeIn K cd qual=pc)(hb:nj py qual st ps):
  DG K st py qual ps ⟨f,W.fnOf py qual (ut st) (rS st) (qa st) .none kv dc pm an cd ct,ps⟩:=⟨Z',Nj l k (Jn l),(Nj l k (Jn l)).binds hb,PQ l⟩
def ql(X:K.In h)(G:h.Ns wv mg)(a:W.nsIn K wv py=Fa (Fa (.ref f)))(l:K.lookup f=Fa ⟨.type "function",od,.func (W.fnOf py py (ut st) (rS st) (qa st) .none kv dc pm an cd ct),sl⟩)(k:W.codeIn K cd py=pc)(hb:nj py py st ps):
  TG K mg st py ps ⟨f,W.fnOf py py (ut st) (rS st) (qa st) .none kv dc pm an cd ct,ps⟩:=⟨Q7 l k hb,W.mg_of X G a⟩
def pY(a:W.findIn K (.ref C) py=Fa (Fa (.ref f)))(l:K.lookup f=Fa ⟨.type "function",od,.func (W.fnOf py qual (ut st) (rS st) (qa st) .none kv dc pm an cd ct),sl⟩)(k:W.codeIn K cd qual=pc)(hb:nj py qual st ps):
  MG K C st py qual ps ⟨f,W.fnOf py qual (ut st) (rS st) (qa st) .none kv dc pm an cd ct,ps⟩:=⟨Q7 l k hb,a⟩
def wI(X:K.In h)(G:h.Ns wv mg)(a:W.nsIn K wv py=Fa (Fa (.ref C)))(h1:W.plainGet K C Str.empty=pc)(h2:W.hasDictIn K C=pc)(h3:W.plainOver K C=pc)(h4:W.findIn K (.ref C) "__setattr__"=Fa (Fa (.builtin "object.__setattr__"))):CG K mg py C:=⟨⟨h1,h2,h3,h4⟩,W.mg_of X G a⟩
def Qj{x:Str}{a:Ch}{es:T0 DictEntry}{ep:Nat}(h:mg x=Fa (.ref a))(s:(a==TW)=Uf)(l:K.lookup a=Fa ⟨.type "dict",Db,.dict es.toArray ep,#[]⟩) (r:KTD.Rows (λ(ss:QQQ) v=>∃t,v=Value.ref t/\uS K (λ_=>Db) t (ss.map V.str)) es T):Na K mg x T:=⟨a,_,_,_,h,s,l,⟨Z',Z',Z'⟩,Z',by simpa using r⟩
def Nt{x qual y1 y2 fl:Str}{st:ZB}(F:DG K st x qual [y1,y2] fa)(S:tq [y1,y2] [y1,y2] (qa st)) (hb:∀(Xk:Vl) (A:Ar) (outer:T0 Env) (s:Sd) (H:Hp) (E:XK),B' (vE (BD P w) P w K mg base [y1,y2] qual (qa st) fa.f Xk A outer s H E) (rS st) (MM K (Hr 0) (Hr 1) fl)):xx P w K mg base (BD P w) 1 fa.f fa.d fa.p (wH K fl):=by
 rw[F.pe];exact La F.fn S hb
def TF(ds:T0 D)(M:Mp)(Q:DK):Prop:=match ds with
 | [.ref a]=>(oj M a).elim False λes=>(Gs es).elim False λbs=>Q (.bl (bs.any id)) M
 | _=>False
def ML(hc:X.calm=pc):C3 X (.builtin "any") TF:=by
 intro Xa s Y H vs us Q' I rv h;obtain⟨ds,M,Q,hd,hm,q,k⟩:=h;unfold TF at q;split at q
 .rename_i a;obtain⟨v,rfl,hv⟩:=rP hd;obtain⟨es,e0,q⟩:=qV q;obtain⟨bs,e1,q⟩:=qV q;cases hv.mK;obtain⟨u,rfl,ru⟩:=xS rv;cases ru;obtain⟨xs,h1,h2,_⟩:=qz hm e0;obtain⟨its,r,pl,hz⟩:=I.list h1;have eits:=Fy e1 h2 r;subst eits;have Xy:a≠s.heap.objs.size:=by obtain⟨o,_,e,_⟩:=pl;exact dU (dI e)
  refine call_any_walk (hZ pl.isList ?_);refine⟨s.heap.objs.size,_,_,_,_,_,λi=>(bs[i]?).getD Uf,Z',kx (A:=X.A.in1) (I.ok.hd hc) _ a Xy (bs.map Value.bool).toArray,⟨⟨_,dN _ Z',Z',Z'⟩,?_⟩,λi v s' Q E hP hQ=>?_,λh' tk hk=>?_⟩
  .obtain⟨o,n,e,c,d,q⟩:=pl;exact⟨o,dq _ e,c,n,q⟩
  .simp only[iP,dG]at hP;cases e2:bs[i]? with
   | none=>rw[e2]at hP;cases hP
   | some b=>rw[e2]at hP;cases hP;have hQ:Q ((bs[i]?).getD Uf) s':=hQ;rw[e2]at hQ;exact fA hQ
  .have ea:(List.range (bs.map Value.bool).toArray.size).any (λi=>(bs[i]?).getD Uf)=bs.any id:=by
    rw[dD,cZ];rw[gu,gG,gG];constructor
    .rintro ⟨i,hi,z⟩
     have Zg:=gD.mp hi;rw[dg Zg]at z;exact⟨_,ii Zg,z⟩
    .rintro ⟨b,hb,z⟩
     obtain⟨i,hi,e⟩:=gW hb;refine⟨i,gD.mpr hi,?_⟩;rw[dg hi,e];exact z
   rw[ea];refine⟨.bl (bs.any id),H,?_,Z',k _ _ _ _ .bl hm .refl q⟩;exact I.kept (h':=h') (t':=tk) λb o e=>hk b o (by simpa using dU (dI e)) (dq _ e)
 .exact q.elim
def Lr:Go "any"=Fa (.builtin "any"):=by decide+kernel
def HU{K:qo}(h:X.K=K):C3 X (.builtin "isinstance") (NF K):=by subst h;exact zY
end L3
namespace L2
def Mu(l:Ch)(Xb:Array Vl)(n:Nat)(dct:Option Ch)(sl:Array (Option Vl)):
  Meets (Builtin.«enumerate.__new__» ⟨[.type "enumerate",.ref l],[]⟩) (λ_ R s=>s.heap.get? l=Fa {cls:=.type "tuple",dict:=dct,data:=.seq Xb n,slots:=sl}/\
   R (.ok (.ret (.ref (s.heap.push {cls:=.type "tuple_iterator",data:=.fields #[.ref l,.int 0 0]}).objs.size)))
    {s with heap:=(s.heap.push {cls:=.type "tuple_iterator",data:=.fields #[.ref l,.int 0 0]}).push {cls:=.type "enumerate",data:=.fields #[.none,.bool Uf,.ref s.heap.objs.size,sK 0,.none,.none]}}):=
 .of_wp λprog w A R s h=>by
  obtain⟨hp,g,d,tk,os⟩:=s;obtain⟨hl,h⟩:=h;have YH:=sub_enumerate;have hL:IsTup (Shared.heap ⟨hp,g,d,tk,os⟩) l Xb:=⟨_,hl,Z',n,Z'⟩
  wp_walk using iF hl
  refine wpAny_stack_any λst=>dC ?_;split
  .rename_i c _ _ _ _ _;cases(c==Value.type "enumerate")<;>
   .wp_walk using iF hl,iter_tuple hL
    exact⟨_,Z',h⟩
  .wp_walk using iF hl,iter_tuple hL
   exact⟨_,Z',h⟩
variable {prog:Pg}{w:Wo}{A:Ar}{E:QQX}{s:Sd}
def IB{Q:QQX}(hL:IsTup s.heap l Xb) (h:∀h',IsEnum h' (s.heap.objs.size+1) s.heap.objs.size 0 .none->IsTupIter h' s.heap.objs.size l 0->
   (∀b o,s.heap.get? b=Fa o->h'.get? b=Fa o)->Q (.ref (s.heap.objs.size+1)) {s with heap:=h'}):
  Tk (Tl prog w) A (call (.type "enumerate") [.ref l]) Q E s:=by
 obtain⟨⟨c,dct,dt,sl⟩,hl,hc,n,hd⟩:=hL;replace hc:c=.type "tuple":=hc;replace hd:dt=.seq Xb n:=hd;subst hc hd;refine callType_new F.called_enumerate (by decide) (F.typeCall_enumerate_1 _) (F.newCall_enumerate_1 _) (λobj=>F.args_object_init_2 obj _) F.entry_enumerate_new
  (Mu l Xb n dct sl) ⟨hl,?_⟩
 have hz:(s.heap.push {cls:=.type "tuple_iterator",data:=.fields #[.ref l,.int 0 0]}).objs.size=s.heap.objs.size+1:=ft ..;show _/\_;rw[hz];have he:IsEnum ((s.heap.push {cls:=.type "tuple_iterator",data:=.fields #[.ref l,.int 0 0]}).push
   {cls:=.type "enumerate",data:=.fields #[.none,.bool Uf,.ref s.heap.objs.size,sK 0,.none,.none]}) (s.heap.objs.size+1) s.heap.objs.size 0 .none:=by
  have:=dN (s.heap.push {cls:=.type "tuple_iterator",data:=.fields #[.ref l,.int 0 0]})
   (o:={cls:=.type "enumerate",data:=.fields #[.none,.bool Uf,.ref s.heap.objs.size,sK 0,.none,.none]}) Z'
  rw[hz]at this;exact this
 exact⟨⟨_,he,Z'⟩,h _ he ⟨_,dq _ (dN _ Z'),Z',Z'⟩ λb o x=>dq _ (dq _ x)⟩
def Ic{i:Nat}{x:Vl}{Q:QQX}(hit:IsTupIter s.heap it l i)(hl:IsTup s.heap l Xb)(hx:Xb[i]?=Fa x) (hQ:∀h',IsTupIter h' it l (i+1)->Heap.SameBut it s.heap h'->Q x {s with heap:=h'}):Tk (Tl prog w) A (Builtin.SmallTypes.nextOf (.ref it)) Q E s:=by
 obtain⟨o,ho,hc,hd⟩:=id hit;obtain⟨ol,Zy,_,nl,Zz⟩:=hl;unfold Builtin.SmallTypes.nextOf;refine c9 (fz (name:=Str.ofString "__next__") hit.typeIs ir
  (fV ir hit.typeIs kA ?_ (kK _)))
 show Tk _ _ (field (.ref it) 0>>=_) _ _ s;refine c9 (eW ho hd (x:=.ref l) Z' ?_);show Tk _ _ (if (Value.ref l==Value.none)=pc then _ else _) _ _ s;rw[dh (show ¬((Value.ref l==Value.none)=pc)from dE)];show Tk _ _ (field (.ref it) 1>>=_) _ _ s;refine c9 (eW ho hd (x:=.int i 0) Z' ?_);show Tk _ _ (seqItems? (.ref l)>>=_) _ _ s;refine c9 (fZ Zy Zz ?_);simp only[gO,hx];refine c9 (gF ho hd (by simp) (dC ⟨x,Z',dC (hQ _ ?_ (iq ..))⟩));exact⟨_,fH _ ho (kq (iD hd _)),(lF ..).trans hc,by
  rw[iD hd];simp[sK]⟩
def JV{i:Nat}{Q:QQX}(hh:A.handled=Db)(hit:IsTupIter s.heap it l i)(hl:IsTup s.heap l Xb)(hx:Xb[i]?=Db) (hE:∀h' e,Heap.ExtBut it s.heap h'->(∃o,h'.get? e=Fa o/\o.cls=.type "StopIteration")->E (.ref e) {s with heap:=h'}):Tk (Tl prog w) A (Builtin.SmallTypes.nextOf (.ref it)) Q E s:=by
 obtain⟨o,ho,hc,hd⟩:=id hit;obtain⟨ol,Zy,_,nl,Zz⟩:=hl;unfold Builtin.SmallTypes.nextOf;refine c9 (fz (name:=Str.ofString "__next__") hit.typeIs ir
  (fV ir hit.typeIs kA ?_ (kK _)))
 show Tk _ _ (field (.ref it) 0>>=_) _ _ s;refine c9 (eW ho hd (x:=.ref l) Z' ?_);show Tk _ _ (if (Value.ref l==Value.none)=pc then _ else _) _ _ s;rw[dh (show ¬((Value.ref l==Value.none)=pc)from dE)];show Tk _ _ (field (.ref it) 1>>=_) _ _ s;refine c9 (eW ho hd (x:=.int i 0) Z' ?_);show Tk _ _ (seqItems? (.ref l)>>=_) _ _ s;refine c9 (fZ Zy Zz ?_);simp only[gO,hx];refine c9 (jC (c9 (gF ho hd (by simp) ?_)));show Tk _ _ (newExc (.type "StopIteration") []>>=_) _ _ _;refine c9 ?_;simp only[newExc,newTuple];refine c9 (fN ?_ (by size_fits));refine c9 (m:=firstArgMember _ _) (wpAny_of_eq (a:=Value.none) (by first|rfl|(simp only[firstArgMember];rfl)) ?_);refine fN ?_ (by size_fits);simp only[raiseNew];refine c9 (wpAny_handled ?_)
 first|rw[show A.in1.handled=Db from hh]|rw[hh]
 refine c9 (dC (wpAny_throw ?_));exact hE _ _ (((iq ..).extBut.push _).push _) ⟨_,dN _ Z',Z'⟩
def My(hh:A.handled=Db)(it l:Ch)(Xy:l≠it)(Xb:Array Vl):
  Draws prog w A it [it,l] Xb.size (λi v=>Xb[i]?=Fa v) (λi h=>IsTupIter h it l i/\IsTup h l Xb) where
 live:=λ_ _ st=>let⟨o,ho,_⟩:=st.1;⟨o,ho⟩
 frame:=λ_ _ _ st hk=>by obtain⟨⟨o,ho,r⟩,u,hu,r'⟩:=st;exact⟨⟨o,hk it (by simp) o ho,r⟩,u,hk l (by simp) u hu,r'⟩
 item:=λi s Q E hi st hQ=>by refine Ic st.1 st.2 (x:=Xb[i]) (by simp[hi]) λh' hit' YZ=>?_;exact hQ _ h' s.toks (by simp[hi]) ⟨hit',st.2.extBut YZ.extBut Xy⟩ YZ
 done:=λs Q E st hE=>JV hh st.1 st.2 (by simp) hE
end L2
namespace L3
open L2
variable {X:Cx}{pos p tp:Pos}{Xz:T0 No}{n:Nat}
noncomputable def Vt(K:qo)(a:Ch):It:=
 ⟨λi H=>∃xs x,uS K H a xs/\xs[i]?=Fa x,λi H x H'=>∃p y,x=.ref p/\H p=Db/\H'=upd H p (.tup [.int (i:Nat),y])/\∀xs,uS K H a xs->xs[i]?=Fa y,λi H=>∃xs,uS K H a xs/\xs.length=i⟩
def Ip{K:qo}(a e it:Ch)(hei:e≠it)(hai:a≠it)(hae:a≠e):Em P w K (.Tuple Xz n tp) (Vt K a) [e,it] e (λi h=>(∃old,IsEnum h e it (i:Nat) old)/\IsTupIter h it a i) where
 mem:=by simp
 obj:=λi h st b hb=>by
  obtain⟨⟨old,he⟩,o,e1,c,d⟩:=st;rcases dw.mp hb with rfl|hb
  .exact⟨_,he,λv z=>by cases z⟩
  .rw[dv.mp hb];exact⟨o,e1,λv z=>by rw[d]at z;cases z⟩
 keep:=λi h h' st k=>by obtain⟨⟨old,he⟩,o,ho,r⟩:=st;exact⟨⟨old,k e (by simp) _ he⟩,o,k it (by simp) o ho,r⟩
 item:=by
  intro X hP hw hK hc i Xa s Y H E I hf st hg;subst hP hw hK;obtain⟨xs,x,hq,hx⟩:=hg;obtain⟨its,rv,p,hz⟩:=I.tuple hq;obtain⟨u,hu,ru⟩:=rv.get hx;obtain⟨⟨old,he⟩,hi⟩:=st;have hiz:i<its.toArray.size:=by rw[dD];exact(de.mp hu).1
  refine wpAny_pyNext_enum_itemD (My (by exact I.ok.hd hc) it a hai its.toArray) he ⟨hi,p⟩ hiz hei (by simp[hei,dW hae]) λx' h1 tk hx' ho XQ hT hsz hk=>?_;have ex:x'=u:=by
   have:its[i]?=Fa x':=by simpa using hx'
   rw[hu]at this;exact(dA this).symm
  subst ex;refine⟨_,Z',jr ho λh2 he2 X0=>?_⟩;have Y5:e<s.heap.objs.size:=dI he;have hilt:it<s.heap.objs.size:=by obtain⟨o,q,_⟩:=hi;exact dI q
  have kk:∀b o,b∉[e,it]->s.heap.get? b=Fa o->h2.get? b=Fa o:=λb o hb q=>(X0.2 b λz=>hb (by simp[z])).trans (hk b o (λz=>hb (by simp[z])) (λz=>hb (by simp[z])) q);have hT2:h2.get? s.heap.objs.size=Fa {cls:=.type "tuple",data:=.seq #[.int (i:Nat) tk,x']}:=(X0.2 _ (gH Y5)).trans hT;have Y4:H s.heap.objs.size=Db:=I.mT.fresh (dB _);have I2:=I.drawn (ch:=[e,it]) (T:=s.heap.objs.size) (xs:=[.int (i:Nat),x]) (its:=[.int (i:Nat) tk,x']) (h':=h2) (tk:=tk+1) hf kk (dB _) (by show 2<=pi;decide) (.cons ⟨_,Z'⟩ (.cons ru .nil)) ⟨_,hT2,Z',⟨_,Z'⟩,Z'⟩;refine⟨.ref s.heap.objs.size,_,I2,Z',⟨_,x,Z',Y4,Z',λys hy=>by rw[I.m9 hy hq];exact hx⟩,⟨⟨_,by simpa using he2⟩,XQ.1.extBut X0.extBut (dW hei)⟩,λb hb=>?_⟩;have XH:b<s.heap.objs.size:=by
   rcases dw.mp hb with z|z
   .rw[z];exact Y5
   .rw[dv.mp z];exact hilt
  rw[pV (dU XH)];exact(hf b hb).1
 done:=by
  intro X hP hw hK hc i Xa s Y H E I hf st hg;subst hP hw hK;obtain⟨xs,hq,hx⟩:=hg;obtain⟨its,rv,p,hz⟩:=I.tuple hq;obtain⟨⟨old,he⟩,hi⟩:=st;have hl:=rv.length;have hs:its.toArray.size=i:=by rw[dD];omega
  obtain⟨f0,f1,f2,f3,f4,f5⟩:=hf it (by simp);exact wpAny_pyNext_enum_endD (My (by exact I.ok.hd hc) it a hai its.toArray) he ⟨by rw[hs];exact hi,p⟩ λh' eb=>⟨Z',I.turned (t':=s.toks) (λb o hb q=>eb b o hb q) f0 f1 f3 f4 f5⟩
 self:=λ_ _ _ _ _ st h=>by obtain⟨⟨old,he⟩,_⟩:=st;exact iK he h
def NV{a:No}{ta:TA}(hg:Gl X "enumerate")(hm:X.mg "enumerate"=Db)(ha:PA X [a] ta)(hs:zn [a] X.env=[(Uf,Op a X.env)]):
  PI X (.Tuple Xz n tp) (.Call (.Name "enumerate" p) [a] [] pos) (λY H R=>ta Y H λvs H1=>∃l,vs=[.ref l]/\(∃xs,uS X.K H1 l xs)/\R (Vt X.K l) H1):=by
 intro Xa s Y H R I h;refine Call_ (wm I hg hm zw (fG (sC (ha pos Xa s Y H _ I h) λus s1 zz=>x5 zz λvs H1 I1 r1 q1=>?_) hs Z'));obtain⟨l,e,⟨xs,hq⟩,q⟩:=q1;subst e;obtain⟨u,rfl,ru⟩:=xS r1;cases ru;obtain⟨its,rv,pl,hz⟩:=I1.tuple hq;have ll:=pl.lt;refine IB pl λh' he hi hk=>?_;refine iK he ?_;have I2:Inv X Xa Y H1 {s1 with heap:=h'}:=I1.kept (t':=s1.toks) hk;refine⟨s1.heap.objs.size+1,[s1.heap.objs.size+1,s1.heap.objs.size],_,_,H1,Z',I2,Ip l _ _ (lW _) (dU ll) (dU (gw ll)),⟨⟨_,he⟩,hi⟩,λb hb=>?_,q⟩;have XH:s1.heap.objs.size<=b:=by
  rcases dw.mp hb with z|z
  .rw[z];exact gS _
  .rw[dv.mp z];exact dB _
 exact I1.nR XH (I1.mT.fresh XH)
def Ky{K:qo}(h1:uS K H1 a xs)(h2:qk K H1 ds xs):E1 K H1 (Vt K a) (sZ 0 ds) (λ_=>True) where
 go:=λi H M hi hm ok e1=>by rw[tJ]at hi;obtain⟨x,e,_⟩:=h2.get (dg hi);exact⟨xs,x,e1.t _ _ h1,e⟩
 oS:=λi d H M x H' hd hm ok e1 y=>by
  obtain⟨p,z,rfl,hp,rfl,y⟩:=y;rw[wF]at hd;cases e:ds[i]? with
  | none=>rw[e]at hd;cases hd
  | some d'=>rw[e]at hd;cases hd;obtain⟨x',e',hx⟩:=h2.get e;have w1:=y xs (e1.t _ _ h1);rw[e']at w1;have w2:x'=z:=dA w1;subst w2;have ex:qS K H (upd H p (.tup [.int (i:Nat),x'])):=.new hp;exact⟨.tup (.of qc) (.cons (by rw[jQ];exact .int) (.cons ((hx.mono e1).mono ex) .nil)),hm.add hp,ex⟩
 stop:=λH M hm ok e1=>⟨xs,e1.t _ _ h1,by rw[tJ,h2.length]⟩
def PN(t:xt):L4:=λU M R=>t U M λds M1=>match ds with
 | [.tup es]=>R (sZ 0 es) (λ_=>True) M1
 | _=>False
def LJ{a:No}{ta:xt}(hg:Gl X "enumerate")(hm:X.mg "enumerate"=Db)(ha:A3 X [a] ta)(hs:zn [a] X.env=[(Uf,Op a X.env)]:=by rfl):I3 X (.Tuple Xz n tp) (.Call (.Name "enumerate" p) [a] [] pos) (PN ta):=
 PI.mono (NV hg hm ha hs) λY H R' zz=>x7 zz λU M R hs hm ht k=>⟨U,M,_,hs,hm,ht,λvs H1 ds M1 hd Xc e1 q1=>by
  split at q1
  .obtain⟨v,rfl,hv⟩:=rP hd;obtain⟨a,xs,rfl,h1,h2⟩:=hv.mQ;exact⟨_,Z',⟨xs,h1⟩,k _ H1 _ _ M1 (Ky h1 h2) Xc e1 trivial q1⟩
  .exact q1.elim⟩
end L3
namespace L3
open L2
def Om(i:Nat){X:Cx}{pos:Pos}{x:Str}(h1:X.N[i]?=Fa x:=by rfl)(h2:U9 X.env.scope x:=by first|exact Or.inl Z'|exact Or.inr (Or.inl Z')|exact Or.inr (Or.inr Z'))(h3:zb x:=by decide)(h4:(x==("__classdict__":Str))=Uf:=by decide):E3 X (.Name x pos) (v3 i):=RX i (pv i h1 h2 h3 h4)
variable {X:Cx}{pos:Pos}
def W1{N:QQQ}(h:decide N.Nodup=pc):N.Nodup:=fO h
def pL(i:Nat){x:Str}{e:No}{te:T3}{Xj:Pos}{ps:QQQ}{sc:XXd}(S:tq X.N ps sc)(he:E3 X e te)(hi:X.N[i]?=Fa x:=by rfl)(hx:K9 X.env.scope x:=by first|exact Or.inl Z'|exact Or.inr Z')(YG:TD e (Fa (.Name x Xj)) pos.line X.env=pure Uf:=by rfl)(hf:K' X x:=by first|exact .inl Z'|exact .inr Z'|assumption):S3 X (.Assign [.Name x Xj] e pos) (F6 te (sf i)):=Sx S.nd hi hx he YG hf
def rg(i:Nat){x:Str}{ps:QQQ}{sc:XXd}(S:tq X.N ps sc)(hi:X.N[i]?=Fa x:=by rfl)(hx:K9 X.env.scope x:=by first|exact Or.inl Z'|exact Or.inr Z')(hf:K' X x:=by first|exact .inl Z'|exact .inr Z'|assumption):G3 X (.Name x pos) (sf i):=IU S.nd hi hx hf
def qG(i:Nat){x:Str}(hN:decide X.N.Nodup=pc:=by kernel_rfl)(hi:X.N[i]?=Fa x:=by rfl)(hx:K9 X.env.scope x:=by first|exact Or.inl Z'|exact Or.inr Z')(hf:K' X x:=by first|exact .inl Z'|exact .inr Z'|assumption):G3 X (.Name x pos) (sf i):=IU (W1 hN) hi hx hf
abbrev Sc(n:Nat)(N:QQQ)(s:ZB):=tq N (N.take n) (qa s)
def sk{n:Nat}{s:ZB}(h:RL N (N.take n) (qa s)=pc:=by decide+kernel):Sc n N s:=WW h
def qe(h0:E3 X e0 t0)(g0:zn [e0] X.env=(Uf,Op e0 X.env)::zn [] X.env:=by rfl):A3 X [e0] (vB t0 xV):=(pX h0 r6 g0)
def rN(h0:E3 X e0 t0)(h1:E3 X e1 t1)(g0:zn [e0,e1] X.env=(Uf,Op e0 X.env)::zn [e1] X.env:=by rfl)(g1:zn [e1] X.env=(Uf,Op e1 X.env)::zn [] X.env:=by rfl):A3 X [e0,e1] (vB t0 (vB t1 xV)):=(pX h0 (pX h1 r6 g1) g0)
def rj(h0:E3 X e0 t0)(h1:E3 X e1 t1)(h2:E3 X e2 t2)(g0:zn [e0,e1,e2] X.env=(Uf,Op e0 X.env)::zn [e1,e2] X.env:=by rfl)(g1:zn [e1,e2] X.env=(Uf,Op e1 X.env)::zn [e2] X.env:=by rfl)(g2:zn [e2] X.env=(Uf,Op e2 X.env)::zn [] X.env:=by rfl):A3 X [e0,e1,e2] (vB t0 (vB t1 (vB t2 xV))):=(pX h0 (pX h1 (pX h2 r6 g2) g1) g0)
abbrev v0:=@Om 0
abbrev U1:=@Om 1
abbrev U2:=@Om 2
abbrev U3:=@Om 3
abbrev v5:=@Om 5
abbrev v4:=@Om 4
abbrev v6:=@Om 6
abbrev v7:=@Om 7
abbrev v8:=@Om 8
abbrev v9:=@Om 9
variable {P:Pg}{w:Wo}{K:qo}{mg:QQZ}{base:wp}
def fq{st:ZB}{sp:rk}(F:DG K st x qual ps fa)(S:tq N ps (qa st)) (hb:∀{Xk:Vl} {A:Ar} {outer:T0 Env} {s:Sd} {H:Hp} {E:XK},rY k (A.deeper (xL qual (qa st) s.heap.objs.size fa.f Xk))->(A.deeper (xL qual (qa st) s.heap.objs.size fa.f Xk)).units+9<Y'->
   ∃t,He (vE On P w K mg base N qual (qa st) fa.f Xk A outer s H E).ow (rS st) t/\∀ds M Q,sp ds M Q->t {nx:=λ_ M'=>∃Xf,qp Xf M'/\Q .mP Xf,rt:=λd M'=>∃Xf,qp Xf M'/\Q d Xf} (xf N ds) M) (len:∀ds M Q,sp ds M Q->ds.length=ps.length:=by walk_at "l"):Fq P w K mg base (k+1) fa sp:=Wz F S len λ_ _ _ _ _ _ h=>hb h (WO h)
def yb{X:Cx}(h:Ij X.env.scope X.N scope ix N'=pc:=by kernel_rfl):sj X scope ix N':=Ug h
end L3
namespace Z
section
open L2 L3
def qX(i:Nat):ZB:=PySem.Challenge.pw_callboard_k62_clashes.main.body.getD i (.Pass ⟨0,0,0,0⟩)
abbrev tm(i j:Nat):ZB:=O2 (qX i) j
def zX:Sc 1 ["answers"] (qX 1):=sk
def F':Sc 2 ["call","word"] (qX 3):=sk
def Dq:Sc 2 ["call","phone"] (qX 4):=sk
def xM:Sc 2 ["call","event","word"] (qX 5):=sk
def BG:Sc 3 ["board","caller","target","wishes"] (qX 12):=sk
def tG:Sc 3 ["board","caller","target","free","members","place","in_turn"] (qX 13):=sk
def vc:Sc 3 ["board","caller","target","phones"] (qX 14):=sk
def Ao:Sc 2 ["wanted","target"] (qX 15):=sk
def wC:Sc 4 ["board","caller","target","way","come_to","steps","fits","wanted"] (qX 16):=sk
def yV:Sc 2 ["board","phone"] (qX 18):=sk
def wA:Sc 3 ["board","phone","target","word"] (qX 19):=sk
def NH:Sc 3 ["word","phone","calls"] (qX 20):=sk
def tV:Sc 4 ["board","word","phone","numbers","calls","due"] (qX 21):=sk
def yM:Sc 3 ["board","word","number"] (qX 22):=sk
def B7:Sc 2 ["board","deed","word"] (qX 23):=sk
def tW:Sc 3 ["board","number","steps","last","target","fits"] (qX 24):=sk
def uM:Sc 4 ["board","number","target","phones","members","place"] (qX 25):=sk
def xD:Sc 3 ["board","number","target","talk","members"] (qX 26):=sk
def xH:Sc 3 ["board","number","end","word"] (qX 27):=sk
def wM:Sc 2 ["board","number","call","told","end","steps","last"] (qX 28):=sk
def zL:Sc 3 ["board","phone","target","number"] (qX 29):=sk
def BC:Sc 3 ["board","phone","number","call"] (qX 30):=sk
def yx:Sc 2 ["board","call","wishes"] (qX 31):=sk
def B4:Sc 3 ["board","number","fits","wish"] (qX 32):=sk
def tR:Sc 1 ["board","number","call","fits"] (qX 33):=sk
def tD:Sc 2 ["board","deed","word","phone","number","call","kept","others"] (qX 34):=sk
def Md:Sc 2 ["board","deed","word"] (qX 35):=sk
def Hk:Sc 2 ["board","deed","word","begun"] (qX 36):=sk
def sH:Sc 3 ["plan","target","fits","found","place","i","j"] (qX 38):=sk
def yL:Sc 2 ["plan","events","found","event"] (qX 39):=sk
def Hz:Sc 3 ["board","caller","target"] (qX 41):=sk
def BU:Sc 1 ["told","word"] (qX 52):=sk
def PP:Sc 2 ["holds","words"] (qX 67):=sk
def Hg:Sc 1 ["text"] (qX 68):=sk
def CV:Sc 1 ["things"] (qX 69):=sk
def EJ:Sc 3 ["chosen","known","most"] (qX 70):=sk
def uc:Sc 1 ["phones","name","lines","rank"] (qX 71):=sk
def ud:Sc 2 ["groups","phone_names","name","manner","members"] (qX 72):=sk
def Dt:Sc 4 ["kind","part","phone_names","names"] (qX 73):=sk
def tX:Sc 3 ["wish","phone_names","names","form","parts","kind","part"] (qX 74):=sk
def uZ:Sc 3 ["wishes","phone_names","names","on","wish"] (qX 75):=sk
def wu:Sc 3 ["phones","groups","wishes","phone_names","names"] (qX 76):=sk
def KN:Sc 2 ["_law_script","_law_k"] (qX 79):=sk
def GG:Sc 3 ["_law_cell","_law_factor","_law_many"] (qX 80):=sk
def uh:Sc 2 ["_law_seed","_law_which","_law_letters","_law_size","_law_place","_law_rest","_law_sign"] (qX 81):=sk
def xX:Sc 3 ["_law_row","_law_cell","_law_most","_law_first","_law_size"] (qX 82):=sk
def uP:Sc 2 ["_law_seed","_law_most","_law_phones_here","_law_k","_law_lines"] (qX 83):=sk
def uQ:Sc 2 ["_law_seed","_law_own","_law_groups_here","_law_g","_law_manner"] (qX 84):=sk
def tI:Sc 3 ["_law_cell","_law_own","_law_names","_law_a","_law_place","_law_b","_law_c","_law_pick","_law_first"] (qX 85):=sk
def sy:Sc 2 ["_law_script","_law_most","_law_seed","_law_phones_here","_law_own","_law_groups_here","_law_names","_law_wishes","_law_k","_law_cell"] (qX 86):=sk
def CU:Sc 1 ["_law_call"] (qX 87):=sk
def AO:Sc 2 ["_law_board","_law_states"] (qX 88):=sk
def rG:Sc 4 ["_law_board","_law_cell","_law_word_here","_law_states","_law_some_here","_law_k","_law_people_here","_law_a","_law_m"] (qX 89):=sk
def uN:Sc 4 ["_law_cell","_law_own","_law_names","_law_many","_law_a","_law_b","_law_k","_law_m","_law_some_here"] (qX 90):=sk
def rH:Sc 4 ["_law_board","_law_cell","_law_own","_law_names","_law_word_here","_law_states","_law_found","_law_a"] (qX 91):=sk
def GY:Sc 1 ["_law_parts"] (qX 92):=sk
def GE:Sc 1 ["_law_script"] (qX 93):=sk
def vZ:Sc 2 ["_law_board","_law_deed_here","_law_events"] (qX 94):=sk
def Ha:Sc 3 ["_law_board","_law_script","_law_k"] (qX 95):=sk
def wk:Sc 2 ["_law_script","_law_parts","_law_board","_law_k"] (qX 96):=sk
def E6:Sc 1 ["_law_wish_here"] (qX 97):=sk
def tL:Sc 2 ["_law_wishes","_law_events","_law_found","_law_event","_law_i","_law_j"] (qX 98):=sk
def vY:Sc 2 ["_law_found","_law_due","_law_row"] (qX 99):=sk
def tO:Sc 3 ["_law_script","_law_many","_law_names","_law_events","_law_k","_law_cell","_law_fits","_law_target"] (qX 100):=sk
def xY:Sc 1 ["_law_script","_law_parts","_law_board","_law_names","_law_events","_law_handed","_law_due","_law_found"] (qX 101):=sk
def BN:Sc 2 ["self","word"] (tm 10 0):=sk
def CZ:Sc 3 ["self","plan","hour"] (tm 6 0):=sk
def EB:Sc 4 ["self","phones","groups","wishes"] (tm 77 0):=sk
def yt:Sc 1 ["self"] (tm 77 2):=sk
def Dk:Sc 1 ["self"] (tm 77 1):=sk
def Gw:Sc 2 ["self","told"] (tm 43 0):=sk
def ES:Sc 1 ["self"] (tm 43 1):=sk
def EK:Sc 2 ["self","told"] (tm 44 0):=sk
def Dg:Sc 1 ["self"] (tm 44 1):=sk
def AR:Sc 2 ["self","told"] (tm 45 0):=sk
def Am:Sc 1 ["self"] (tm 45 1):=sk
def Dj:Sc 2 ["self","told"] (tm 47 0):=sk
def CQ:Sc 2 ["self","told"] (tm 49 0):=sk
def Ew:Sc 2 ["self","told"] (tm 50 0):=sk
def C5:Sc 1 ["self"] (tm 50 1):=sk
def BR:Sc 2 ["self","told"] (tm 51 0):=sk
def A0:Sc 1 ["self"] (tm 51 1):=sk
def xG:Sc 2 ["self","event","word"] (tm 6 12):=sk
def zV:Sc 2 ["self","phone"] (tm 6 3):=sk
def El:Sc 2 ["self","told"] (tm 42 0):=sk
def zU:Sc 2 ["self","phone"] (tm 6 2):=sk
def Fv:Sc 2 ["self","caller"] (tm 2 0):=sk
def yJ:Sc 2 ["self","phone"] (tm 2 5):=sk
def yu:Sc 2 ["self","phone"] (tm 2 4):=sk
def Au:Sc 2 ["self","leg"] (tm 6 10):=sk
def x8:Sc 4 ["self","merged","kept","members","call"] (tm 6 11):=sk
def vn:Sc 1 ["self","call"] (tm 6 9):=sk
def yZ:Sc 2 ["self","phone"] (tm 2 8):=sk
def yT:Sc 2 ["self","phone"] (tm 2 2):=sk
def Ci:Sc 2 ["self","phone"] (tm 6 4):=sk
def Aj:Sc 2 ["self","phone"] (tm 6 5):=sk
def Dm:Sc 2 ["self","phone"] (tm 6 1):=sk
def Df:Sc 2 ["self","phone"] (tm 77 3):=sk
def xg:Sc 2 ["self","phone"] (tm 2 7):=sk
def Dc:Sc 2 ["self","phone"] (tm 2 6):=sk
def CD:Sc 2 ["self","call"] (tm 42 4):=sk
def As:Sc 2 ["self","call"] (tm 49 2):=sk
def FL:Sc 1 ["self"] (tm 42 1):=sk
def De:Sc 2 ["self","phone"] (tm 2 3):=sk
def Gp:Sc 2 ["self","phone"] (tm 2 1):=sk
def Gc:Sc 4 ["self","board","caller","target"] (tm 43 2):=sk
def Ep:Sc 4 ["self","board","caller","target"] (tm 44 2):=sk
def B2:Sc 4 ["self","board","caller","target"] (tm 46 0):=sk
def Ds:Sc 4 ["self","board","caller","target"] (tm 47 2):=sk
def Eh:Sc 4 ["self","board","caller","target"] (tm 48 0):=sk
def BW:Sc 4 ["self","board","caller","target"] (tm 49 1):=sk
def Er:Sc 4 ["self","board","caller","target"] (tm 50 2):=sk
def vw:Sc 4 ["self","board","caller","target","talk","members"] (tm 51 3):=sk
def B5:Sc 2 ["self","name"] (tm 77 6):=sk
def zx:Sc 2 ["self","name"] (tm 77 5):=sk
def zi:Sc 2 ["self","hour"] (tm 47 1):=sk
def zB:Sc 1 ["self"] (tm 6 8):=sk
def zk:Sc 2 ["self","phone"] (tm 6 6):=sk
def vp:Sc 3 ["self","plan","members","rank"] (tm 51 2):=sk
def zO:Sc 3 ["self","caller","target"] (tm 6 7):=sk
def E9:Sc 2 ["self","phone"] (tm 77 4):=sk
noncomputable def J4:T0 (Str×QQQ):=[("bar",["phone","names"]),("shut",["name","phones"]),("always",["name","name"]),("night",["name","name","hour","hour"]),("busy",["name","name"]),("silent",["name","name","turns"]),("wait",["phone"]),("breaks",["phone"])]
set_option genInjectivity false in
structure Ad where
 (N aa aS aT aU aV aW aX aY ab aZ a0 a1 a2 a3 a4 a5 a6 a7 ac a8 a9 ba bb bc bd be O bf ad P bg m ae af Q bh bi bj bk bl bm J i ag R bn bo bp bq br bs bt bu bv bw bx bz bA bB ah bC ai bD aj H ak al L am an ao ap aq A z ar au av aw ax ay k S F T az aA U bE bF bG aB V bH bI bJ bK bL aC r aD l bM bN aE aF aG aH aI aJ aK aL aM X bO bP bQ bR aN aO:FA)
 (e c B t u Y x n y v w o h b9 I:Ch)
structure Gl(K:qo)(mg:QQZ)(a:Ad):Prop where
 e:CG K mg "Call" a.e
 c:CG K mg "Board" a.c
 B:CG K mg "Wish" a.B
 t:CG K mg "Bar" a.t
 u:CG K mg "Shut" a.u
 Y:CG K mg "Forward" a.Y
 x:CG K mg "Always" a.x
 n:CG K mg "Night" a.n
 y:CG K mg "Busy" a.y
 v:CG K mg "Silent" a.v
 w:CG K mg "Wait" a.w
 o:CG K mg "Breaks" a.o
 h:CG K mg "Plan" a.h
 cY:mg "CallError"=Fa (.ref a.b9)
 b0:mg "NoDeed"=Fa (.ref a.I)
 N:TG K mg (qX 1) "place_of_true" ["answers"] a.N
 aa:TG K mg (qX 3) "end_call" ["call","word"] a.aa
 aS:TG K mg (qX 4) "drop_phone" ["call","phone"] a.aS
 aT:TG K mg (qX 5) "change_call" ["call","event"] a.aT
 aU:TG K mg (qX 12) "fitting" ["board","caller","target"] a.aU
 aV:TG K mg (qX 13) "rung_phones" ["board","caller","target"] a.aV
 aW:TG K mg (qX 14) "end_without_wish" ["board","caller","target"] a.aW
 aX:TG K mg (qX 15) "end_as_wanted" ["wanted","target"] a.aX
 aY:TG K mg (qX 16) "route" ["board","caller","target","way"] a.aY
 ab:TG K mg (qX 18) "word_for_idling" ["board","phone"] a.ab
 aZ:TG K mg (qX 19) "word_for_call" ["board","phone","target"] a.aZ
 a0:TG K mg (qX 20) "suits" ["word","phone","calls"] a.a0
 a1:TG K mg (qX 21) "word_for_numbers" ["board","word","phone","numbers"] a.a1
 a2:TG K mg (qX 22) "word_for_switch" ["board","word","number"] a.a2
 a3:TG K mg (qX 23) "refusal" ["board","deed"] a.a3
 a4:TG K mg (qX 24) "take_steps" ["board","number","steps"] a.a4
 a5:TG K mg (qX 25) "start_ringing" ["board","number","target","phones"] a.a5
 a6:TG K mg (qX 26) "break_in" ["board","number","target"] a.a6
 a7:TG K mg (qX 27) "come_to_end" ["board","number","end"] a.a7
 ac:TG K mg (qX 28) "go_on" ["board","number"] a.ac
 a8:TG K mg (qX 29) "make_call" ["board","phone","target"] a.a8
 a9:TG K mg (qX 30) "hang_up" ["board","phone","number"] a.a9
 ba:TG K mg (qX 31) "due_wishes" ["board","call"] a.ba
 bb:TG K mg (qX 32) "send_on" ["board","number","fits"] a.bb
 bc:TG K mg (qX 33) "let_turn_pass" ["board"] a.bc
 bd:TG K mg (qX 34) "event_of" ["board","deed"] a.bd
 be:TG K mg (qX 35) "act" ["board","deed"] a.be
 O:TG K mg (qX 36) "do" ["board","deed"] a.O
 bf:TG K mg (qX 38) "clashes_among" ["plan","target","fits"] a.bf
 ad:TG K mg (qX 39) "clashes" ["plan","events"] a.ad
 P:TG K mg (qX 41) "is_busy" ["board","caller","target"] a.P
 bg:TG K mg (qX 52) "wish_of" ["told"] a.bg
 m:TG K mg (qX 67) "need" ["holds","words"] a.m
 ae:TG K mg (qX 68) "is_name" ["text"] a.ae
 af:TG K mg (qX 69) "all_unlike" ["things"] a.af
 Q:TG K mg (qX 70) "is_choice" ["chosen","known","most"] a.Q
 bh:TG K mg (qX 71) "check_phones" ["phones"] a.bh
 bi:TG K mg (qX 72) "check_groups" ["groups","phone_names"] a.bi
 bj:TG K mg (qX 73) "part_holds" ["kind","part","phone_names","names"] a.bj
 bk:TG K mg (qX 74) "check_wish" ["wish","phone_names","names"] a.bk
 bl:TG K mg (qX 75) "check_wishes" ["wishes","phone_names","names"] a.bl
 bm:TG K mg (qX 76) "check_plan" ["phones","groups","wishes"] a.bm
 J:TG K mg (qX 79) "_law_at" ["_law_script","_law_k"] a.J
 i:TG K mg (qX 80) "_law_draw" ["_law_cell","_law_factor","_law_many"] a.i
 ag:TG K mg (qX 81) "_law_word" ["_law_seed","_law_which"] a.ag
 R:TG K mg (qX 82) "_law_some" ["_law_row","_law_cell","_law_most"] a.R
 bn:TG K mg (qX 83) "_law_phones" ["_law_seed","_law_most"] a.bn
 bo:TG K mg (qX 84) "_law_groups" ["_law_seed","_law_own"] a.bo
 bp:TG K mg (qX 85) "_law_wish" ["_law_cell","_law_own","_law_names"] a.bp
 bq:TG K mg (qX 86) "_law_plan" ["_law_script","_law_most"] a.bq
 br:TG K mg (qX 87) "_law_people" ["_law_call"] a.br
 bs:TG K mg (qX 88) "_law_of_state" ["_law_board","_law_states"] a.bs
 bt:TG K mg (qX 89) "_law_on_call" ["_law_board","_law_cell","_law_word_here","_law_states"] a.bt
 bu:TG K mg (qX 90) "_law_any" ["_law_cell","_law_own","_law_names","_law_many"] a.bu
 bv:TG K mg (qX 91) "_law_deed" ["_law_board","_law_cell","_law_own","_law_names"] a.bv
 bw:TG K mg (qX 92) "_law_made" ["_law_parts"] a.bw
 bx:TG K mg (qX 93) "_law_hour" ["_law_script"] a.bx
 bz:TG K mg (qX 94) "_law_done" ["_law_board","_law_deed_here"] a.bz
 bA:TG K mg (qX 95) "_law_next" ["_law_board","_law_script","_law_k"] a.bA
 bB:TG K mg (qX 96) "_law_played" ["_law_script","_law_parts"] a.bB
 ah:TG K mg (qX 97) "_law_wants" ["_law_wish_here"] a.ah
 bC:TG K mg (qX 98) "_law_clashes" ["_law_wishes","_law_events"] a.bC
 ai:TG K mg (qX 99) "_law_are_tuples" ["_law_found","_law_due"] a.ai
 bD:TG K mg (qX 100) "_law_asked" ["_law_script","_law_many","_law_names"] a.bD
 aj:TG K mg (qX 101) "law" ["_law_script"] a.aj
 H:MG K a.I (tm 10 0) "__init__" "NoDeed.__init__" ["self","word"] a.H
 ak:MG K a.c (tm 6 0) "__init__" "Board.__init__" ["self","plan","hour"] a.ak
 al:MG K a.h (tm 77 0) "__init__" "Plan.__init__" ["self","phones","groups","wishes"] a.al
 L:MG K a.h (tm 77 2) "phone_names" "Plan.phone_names" ["self"] a.L
 am:MG K a.h (tm 77 1) "names" "Plan.names" ["self"] a.am
 an:MG K a.t (tm 43 0) "__init__" "Bar.__init__" ["self","told"] a.an
 ao:MG K a.t (tm 43 1) "wants" "Bar.wants" ["self"] a.ao
 ap:MG K a.u (tm 44 0) "__init__" "Shut.__init__" ["self","told"] a.ap
 aq:MG K a.u (tm 44 1) "wants" "Shut.wants" ["self"] a.aq
 A:MG K a.Y (tm 45 0) "__init__" "Forward.__init__" ["self","told"] a.A
 z:MG K a.Y (tm 45 1) "wants" "Forward.wants" ["self"] a.z
 ar:MG K a.n (tm 47 0) "__init__" "Night.__init__" ["self","told"] a.ar
 au:MG K a.v (tm 49 0) "__init__" "Silent.__init__" ["self","told"] a.au
 av:MG K a.w (tm 50 0) "__init__" "Wait.__init__" ["self","told"] a.av
 aw:MG K a.w (tm 50 1) "wants" "Wait.wants" ["self"] a.aw
 ax:MG K a.o (tm 51 0) "__init__" "Breaks.__init__" ["self","told"] a.ax
 ay:MG K a.o (tm 51 1) "wants" "Breaks.wants" ["self"] a.ay
 k:MG K a.c (tm 6 12) "apply" "Board.apply" ["self","event"] a.k
 S:MG K a.c (tm 6 3) "talk_of" "Board.talk_of" ["self","phone"] a.S
 F:MG K a.B (tm 42 0) "__init__" "Wish.__init__" ["self","told"] a.F
 T:MG K a.c (tm 6 2) "is_free" "Board.is_free" ["self","phone"] a.T
 az:MG K a.e (tm 2 0) "__init__" "Call.__init__" ["self","caller"] a.az
 aA:MG K a.e (tm 2 5) "waits_with" "Call.waits_with" ["self","phone"] a.aA
 U:MG K a.e (tm 2 4) "is_tried_by" "Call.is_tried_by" ["self","phone"] a.U
 bE:MG K a.c (tm 6 10) "add_leg" "Board.add_leg" ["self","leg"] a.bE
 bF:MG K a.c (tm 6 11) "merge" "Board.merge" ["self","merged","kept","members"] a.bF
 bG:MG K a.c (tm 6 9) "pass_turn" "Board.pass_turn" ["self"] a.bG
 aB:MG K a.e (tm 2 8) "other_than" "Call.other_than" ["self","phone"] a.aB
 V:MG K a.e (tm 2 2) "talks_with" "Call.talks_with" ["self","phone"] a.V
 bH:MG K a.c (tm 6 4) "bound" "Board.bound" ["self","phone"] a.bH
 bI:MG K a.c (tm 6 5) "calling" "Board.calling" ["self","phone"] a.bI
 bJ:MG K a.c (tm 6 1) "used" "Board.used" ["self","phone"] a.bJ
 bK:MG K a.h (tm 77 3) "lines" "Plan.lines" ["self","phone"] a.bK
 bL:MG K a.e (tm 2 7) "can_be_left_by" "Call.can_be_left_by" ["self","phone"] a.bL
 aC:MG K a.e (tm 2 6) "pairs" "Call.pairs" ["self","phone"] a.aC
 r:MG K a.B (tm 42 4) "is_due" "Wish.is_due" ["self","call"] a.r
 aD:MG K a.v (tm 49 2) "is_due" "Silent.is_due" ["self","call"] a.aD
 l:MG K a.B (tm 42 1) "told" "Wish.told" ["self"] a.l
 bM:MG K a.e (tm 2 3) "binds" "Call.binds" ["self","phone"] a.bM
 bN:MG K a.e (tm 2 1) "has" "Call.has" ["self","phone"] a.bN
 aE:MG K a.t (tm 43 2) "fits" "Bar.fits" ["self","board","caller","target"] a.aE
 aF:MG K a.u (tm 44 2) "fits" "Shut.fits" ["self","board","caller","target"] a.aF
 aG:MG K a.x (tm 46 0) "fits" "Always.fits" ["self","board","caller","target"] a.aG
 aH:MG K a.n (tm 47 2) "fits" "Night.fits" ["self","board","caller","target"] a.aH
 aI:MG K a.y (tm 48 0) "fits" "Busy.fits" ["self","board","caller","target"] a.aI
 aJ:MG K a.v (tm 49 1) "fits" "Silent.fits" ["self","board","caller","target"] a.aJ
 aK:MG K a.w (tm 50 2) "fits" "Wait.fits" ["self","board","caller","target"] a.aK
 aL:MG K a.o (tm 51 3) "fits" "Breaks.fits" ["self","board","caller","target"] a.aL
 aM:MG K a.h (tm 77 6) "manner" "Plan.manner" ["self","name"] a.aM
 X:MG K a.h (tm 77 5) "phones_of" "Plan.phones_of" ["self","name"] a.X
 bO:MG K a.n (tm 47 1) "has_hour" "Night.has_hour" ["self","hour"] a.bO
 bP:MG K a.c (tm 6 8) "hour_now" "Board.hour_now" ["self"] a.bP
 bQ:MG K a.c (tm 6 6) "waits_at" "Board.waits_at" ["self","phone"] a.bQ
 bR:MG K a.o (tm 51 2) "outranks" "Breaks.outranks" ["self","plan","members"] a.bR
 aN:MG K a.c (tm 6 7) "ringable" "Board.ringable" ["self","caller","target"] a.aN
 aO:MG K a.h (tm 77 4) "rank" "Plan.rank" ["self","phone"] a.aO
 ca:JI K a.I a.H.f
 cb:yK K a.I "word"
 cc:W.exmOne K (.ref a.I) (.ref a.I)=Fa pc
 cd:Mk K a.c a.ak.f
 ce:Mk K a.h a.al.f
 cf:Mk K a.t a.an.f
 cg:Mk K a.u a.ap.f
 ch:Mk K a.x a.A.f
 ci:Mk K a.n a.ar.f
 cj:Mk K a.y a.A.f
 ck:Mk K a.v a.au.f
 cl:Mk K a.w a.av.f
 cm:Mk K a.o a.ax.f
 cn:Mk K a.e a.az.f
 co:vH K a.x "wants" a.z.f
 cp:vH K a.n "wants" a.z.f
 cq:vH K a.y "wants" a.z.f
 cr:vH K a.v "wants" a.z.f
 cs:vH K a.t "is_due" a.r.f
 ct:vH K a.u "is_due" a.r.f
 cu:vH K a.x "is_due" a.r.f
 cv:vH K a.n "is_due" a.r.f
 cw:vH K a.y "is_due" a.r.f
 cx:vH K a.w "is_due" a.r.f
 cy:vH K a.o "is_due" a.r.f
 cz:vH K a.t "told" a.l.f
 cA:vH K a.u "told" a.l.f
 cB:vH K a.x "told" a.l.f
 cC:vH K a.n "told" a.l.f
 cD:vH K a.y "told" a.l.f
 cE:vH K a.v "told" a.l.f
 cF:vH K a.w "told" a.l.f
 cG:vH K a.o "told" a.l.f
 aP:Li K a.B "__init__" a.F.f
 b1:Li K a.Y "__init__" a.A.f
 C:zc K a.c ["plan","hour","turn","calls","legs","nexts","on","log"]
 Z:zc K a.h ["phones","groups","wishes","on","phone_rows","group_rows"]
 bU:zc K a.t ["form","phone","targets"]
 bV:zc K a.u ["form","target","callers"]
 bW:zc K a.x ["form","target","goal"]
 aQ:zc K a.n ["form","target","goal","first","last"]
 bX:zc K a.y ["form","target","goal"]
 bS:zc K a.v ["form","target","goal","turns"]
 b2:zc K a.w ["form","phone"]
 b3:zc K a.o ["form","phone"]
 j:zc K a.e ["state","caller","way","at","members","holder","since","word"]
 cH:W.kitOne K (.type "list") (.type "list")=Fa pc
 cI:W.kitOne K (.type "tuple") (.type "tuple")=Fa pc
 cJ:W.kitOne K (.type "str") (.type "bool")=Fa Uf
 b4:W.kitOne K (.type "int") (.type "bool")=Fa Uf
 q:mg "list"=Db
 g:mg "len"=Db
 M:mg "range"=Db
 b5:mg "min"=Db
 aR:mg "enumerate"=Db
 E:mg "tuple"=Db
 bY:mg "isinstance"=Db
 b6:mg "any"=Db
 cK:mg "bool"=Db
 bZ:mg "dict"=Db
 cL:mg "set"=Db
 bT:mg "all"=Db
 cM:mg "zip"=Db
 cN:KD K mg "MOST_PHONES" (.int 8)
 cO:KD K mg "MOST_LINES" (.int 3)
 cP:KD K mg "MOST_RANK" (.int 9)
 cQ:KD K mg "MOST_GROUPS" (.int 3)
 cR:KD K mg "MANNERS" (.tup ((["all","turns"]:QQQ).map D.str))
 cS:KD K mg "MOST_MEMBERS" (.int 4)
 cT:KD K mg "MOST_WISHES" (.int 16)
 cU:KD K mg "MOST_SIGNS" (.int 6)
 cV:KD K mg "LETTERS" (.str "abcdefghijklmnopqrstuvwxyz")
 b7:Na K mg "FORMS" J4
 b8:KD K mg "MOST_LISTED" (.int 6)
 cW:KD K mg "LAST_HOUR" (.int 23)
 cX:KD K mg "MOST_TURNS" (.int 9)
noncomputable def qu(c f m:Int):Int:=(c % 2147483647+5)*f % 2147483629 / 89 % m
def ra{c f m:Int}(h:0<m):0<=qu c f m:=fg _ (by omega)
def qM{c f m:Int}(h:0<m):qu c f m<m:=eX _ h
def Jh:rk:=λds M Q=>C9 λc f m=>ds=[.int c,.int f,.int m]/\0<m/\Q (.int (qu c f m)) M
noncomputable def uu:Str:="abcdefghijklmnopqrstuvwxyz"
noncomputable def uf(i:Int):Str:=⟨#[97+i.toNat]⟩
noncomputable def size(s:Int):Int:=1+s % 6
def uD(s:Int):Int:=s / 6 % size s
def xK(s v:Int):Str:=yD (uf (s / 36 % 26)) (uD s)++uf ((s / 936+v) % 26)++yD (uf (s / 36 % 26)) (size s - 1 - uD s)
def QA:rk:=λds M Q=>C4 λs v=>ds=[.int s,.int v]/\Q (.str (xK s v)) M
noncomputable def cell(ns:T0 Int)(i:Int):Int:=if 0<=i/\i<ns.length then ns.getD i.toNat 0 else 0
def UO:rk:=λds M Q=>C4 λns i=>ds=[.rl (ns.map D.int),.int i]/\Q (.int (cell ns i)) M
def FZ(c:Int):0<size c:=by unfold size;have:=fg c (show(6:Int)≠0 by decide);omega
def Jg(c:Int):size c<=6:=by unfold size;have:=eX c (show(0:Int)<6 by decide);omega
def GV(i n:Int):(yD (uf i) n).length=n.toNat:=by show((List.replicate n.toNat (uf i).cps).foldl (·++·) #[]:Array Nat).size=n.toNat;rw[Jd];show n.toNat*1=n.toNat;omega
def Av:uu.length<=pi:=by decide+kernel
variable {P:Pg}{w:Wo}{K:qo}{mg:QQZ}{base:wp}{a:Ad}(G:Gl K mg a)
def qH:Fq P w K mg base 1 a.i Jh:=by
 refine fq G.i.toDG GG (λr u=>⟨_,(pk (pC (pU (pU (pU (pU (pU (pU v0 pz) pz) U1) pz) pz) U2))),?_⟩)
 rintro ds M Q ⟨c,f,m,rfl,hm,q⟩
 refine⟨by decide,.inl ?_,by decide,⟨by decide,by decide⟩,hm,M,.refl,q⟩;have h1:0<=c % 2147483647:=fg _ (by decide);have h2:c % 2147483647<2147483647:=eX _ (by decide);exact⟨by omega,by omega⟩
def Ec{i:Int}(h0:0<=i)(h1:i<26):vM uu.cps.toList i=Fa (97+i.toNat):=by
 obtain⟨n,rfl⟩:=eI h0;have hn:n<26:=by omega
 have key:∀n:_root_.Fin 26,vM uu.cps.toList ((n.val:Nat):Int)=Fa (97+n.val):=by decide+kernel
 exact key ⟨n,hn⟩
def JE:Fq P w K mg base 1 a.ag QA:=by
 refine fq G.ag.toDG uh (λr u=>⟨_,(pj (pL 2 uh pA)
 (pj (pL 3 uh (pU pz (pU v0 pz)))
 (pj (pL 4 uh (pU (pU v0 pz) U3))
 (pj (pL 5 uh (pJ U2 (pU (pU v0 pz) pz)))
 (pj (pL 6 uh (pJ U2 (pU (pU (pU v0 pz) U1) pz)))
 (pk (pC (pU (pU (pU v5 v4) v6) (pU v5 (pU (pU U3 pz) v4)))))))))),?_⟩)
 rintro ds M Q ⟨c,v,rfl,q⟩
 have hs:=FZ c;have hs6:=Jg c;have hp0:0<=uD c:=fg _ (by omega);have YR:uD c<size c:=eX _ hs;have l1:=GV (c / 36 % 26) (uD c);have l2:=GV (c / 36 % 26) (size c - 1 - uD c);have hz:=dS;refine⟨by decide,⟨by decide,by decide⟩,hs,⟨by decide,by decide⟩,by decide,Av,i' (Ec (fg _ (by decide)) (eX _ (by decide))) ?_⟩;refine⟨⟨by decide,by decide⟩,by decide,Av,i' (Ec (fg _ (by decide)) (eX _ (by decide))) ?_⟩;refine⟨⟨?_,?_,?_⟩,?_,⟨?_,?_,?_⟩,?_,M,.refl,q⟩
 .show uD c<4096;omega
 .show -4096<uD c;omega
 .show(1:Nat)<4096;decide
 .show(yD (uf (c / 36 % 26)) (uD c)).length+1<=pi;omega
 .show size c - 1 - uD c<4096;omega
 .show -4096<size c - 1 - uD c;omega
 .show(1:Nat)<4096;decide
 .show(yD (uf (c / 36 % 26)) (uD c)++uf ((c / 936+v) % 26)).length+(yD (uf (c / 36 % 26)) (size c - 1 - uD c)).length<=pi;rw[PySem.size_cat];have:(uf ((c / 936+v) % 26)).length=1:=rfl;omega
def JF:Fq P w K mg base 1 a.J UO:=by
 refine fq G.J.toDG KN (λr u=>⟨_,(pj (pP (Gv u pz U1 (pR qw Z' G.g qv (qe v0)))
 (pk (pC (pJ v0 U1)))
 pK)
 (pk (pC pz))),?_⟩)
 rintro ds M Q ⟨ns,i,rfl,q⟩
 refine qC (λh0=>?_) (λh0=>?_)
 .have h0:0<=i:=fO h0;refine qC (λh1=>?_) (λh1=>?_)
  .have h1:i<((ns.map D.int).length:Int):=fO h1;rw[cZ]at h1;have hi:i.toNat<ns.length:=by omega
   have e:vM (ns.map D.int) i=Fa (D.int (ns.getD i.toNat 0)):=by
    obtain⟨n,rfl⟩:=eI h0;have hn:n<ns.length:=by omega
    refine uB ?_;rw[dG,dg hn];simp[hn]
   refine i' e ⟨M,.refl,?_⟩;have:cell ns i=ns.getD i.toNat 0:=by unfold cell;rw[dz ⟨h0,h1⟩]
   rw[<-this];exact q
  .have h1:¬i<((ns.map D.int).length:Int):=λz=>h1 (d6 z);rw[cZ]at h1;refine⟨M,.refl,?_⟩;have:cell ns i=0:=by unfold cell;rw[dh (λz=>h1 z.2)]
   rw[<-this];exact q
 .have h0:¬0<=i:=λz=>h0 (d6 z);refine⟨M,.refl,?_⟩;have:cell ns i=0:=by unfold cell;rw[dh (λz=>h0 z.1)]
  rw[<-this];exact q
inductive Wi where
 | bar (x:Str) (ns:QQQ)|shut (x:Str) (ns:QQQ)|always (x y:Str)|night (x y:Str) (f l:Int)|busy (x y:Str)|silent (x y:Str) (n:Int)|wait (x:Str)|breaks (x:Str)
abbrev names(ns:QQQ):D:=.tup (ns.map D.str)
noncomputable def Wi.told:Wi->T0 D
 | .bar x ns=>[.str "bar",.str x,names ns]
 | .shut x ns=>[.str "shut",.str x,names ns]
 | .always x y=>[.str "always",.str x,.str y]
 | .night x y f l=>[.str "night",.str x,.str y,.int f,.int l]
 | .busy x y=>[.str "busy",.str x,.str y]
 | .silent x y n=>[.str "silent",.str x,.str y,.int n]
 | .wait x=>[.str "wait",.str x]
 | .breaks x=>[.str "breaks",.str x]
noncomputable def Wi.wants:Wi->T0 D
 | .bar _ _=>[.str "end"]
 | .shut _ _=>[.str "end"]
 | .always _ y=>[.str "to",.str y]
 | .night _ y _ _=>[.str "to",.str y]
 | .busy _ y=>[.str "to",.str y]
 | .silent _ y _=>[.str "to",.str y]
 | .wait x=>[.str "wait",.str x]
 | .breaks _=>[.str "break"]
noncomputable def Wi.cls(a:Ad):Wi->Ch
 | .bar _ _=>a.t
 | .shut _ _=>a.u
 | .always _ _=>a.x
 | .night _ _ _ _=>a.n
 | .busy _ _=>a.y
 | .silent _ _ _=>a.v
 | .wait _=>a.w
 | .breaks _=>a.o
noncomputable def Wi.more:Wi->T0 (Str×D)
 | .bar x ns=>[("phone",.str x),("targets",names ns)]
 | .shut x ns=>[("target",.str x),("callers",names ns)]
 | .always x y=>[("target",.str x),("goal",.str y)]
 | .night x y f l=>[("target",.str x),("goal",.str y),("first",.int f),("last",.int l)]
 | .busy x y=>[("target",.str x),("goal",.str y)]
 | .silent x y n=>[("target",.str x),("goal",.str y),("turns",.int n)]
 | .wait x=>[("phone",.str x)]
 | .breaks x=>[("phone",.str x)]
noncomputable def Wi.nF(v:Wi):T0 (Str×D):=("form",.tup v.told)::v.more
abbrev B0(ns:QQQ)(i:Int):Str:=ns.getD i.toNat Str.empty
def xq(row:QQQ)(c m:Int):Nat:=(1+qu c 40692 (if (row.length:Int)<m then(row.length:Int)else m)).toNat
def UG(row:QQQ)(c:Int)(j:Nat):Str:=B0 row ((qu c 69621 row.length+(0+(j:Nat))) % row.length)
def vL(row:QQQ)(c m:Int):QQQ:=(List.range (xq row c m)).map (UG row c)
def Pb:rk:=λds M Q=>Af λr c m row=>ds=[.ref r,.int c,.int m]/\oj M r=Fa (row.map D.str)/\row≠[]/\0<m/\row.length<=64/\Q (names (vL row c m)) M
def Jq{row:QQQ}(h:row≠[])(x:Int):vM (row.map D.str) (x % row.length)=Fa (D.str (B0 row (x % row.length))):=by
 have hl:0<row.length:=fF.mpr h;have h0:0<=x % row.length:=fg _ (by omega);have h1:x % row.length<row.length:=eX _ (by omega);obtain⟨n,hn⟩:=eI h0;rw[hn]at h1 ⊢;have Zd:n<row.length:=by omega
 refine uB ?_;rw[dG,dg Zd];simp[B0,Zd]
def yo:Fq P w K mg base 2 a.R Pb:=by
 refine fq G.R.toDG xX (λr u=>⟨_,(pj (pL 3 xX (pI (qH G) r G.i (rj U1 pz (pR qw Z' G.g qv (qe v0)))))
 (pj (pL 4 xX (pU pz (pI (qH G) r G.i (rj U1 pz (pR (ME Z') Z' G.b5 LA (rN U2 (pR qw Z' G.g qv (qe v0))))))))
 (pk (pC (qg uF Z' G.E ua (qe (qF Z' (yb (ix:=[Db,Fa 0,Fa 3]) (N':=["_law_j","_law_row","_law_first"])) (vm Z' G.M (qe v4)) (qG 0) rT (pJ U1 (pU (pU U2 v0) (pR qw Z' G.g qv (qe U1))))))))))),?_⟩)
 rintro ds M Q ⟨r,c,m,row,rfl,hl,Xy,hm,h64,q⟩
 have Xg:0<row.length:=fF.mpr Xy;have hz:=dS;have el:((row.map D.str).length:Int)=row.length:=by rw[cZ]
 refine i' hl ⟨c,69621,_,Z',by rw[el];omega,?_⟩;refine i' hl ⟨c,40692,_,Z',by rw[el];split<;>omega,?_⟩;rw[el];have d0:=ra (c:=c) (f:=40692) (m:=if (row.length:Int)<m then(row.length:Int)else m) (by split<;>omega);have d1:=qM (c:=c) (f:=40692) (m:=if (row.length:Int)<m then(row.length:Int)else m) (by split<;>omega);have d2:qu c 40692 (if (row.length:Int)<m then(row.length:Int)else m)<row.length+1:=by refine Int.lt_of_lt_of_le d1 ?_;split<;>omega
 refine⟨Z',⟨?_,?_⟩,qW (f:=λd=>match d with|.int j=>D.str (B0 row ((qu c 69621 row.length+j) % row.length))|_=>.mP) trivial _ [] _ ?_ (λd hd k hk=>?_) λp hp=>?_⟩
 .show -(2 ^ 62)<=1+qu c 40692 (if (row.length:Int)<m then(row.length:Int)else m);omega
 .show 1+qu c 40692 (if (row.length:Int)<m then(row.length:Int)else m)<2 ^ 62;omega
 .rw[cZ,eF];show 0+xq row c m<=pi;unfold xq;omega
 .obtain⟨j,_,rfl⟩:=dJ.mp hd;refine i' hl ⟨by rw[el];omega,i' hl ?_⟩;rw[el];exact i' (Jq Xy _) hk
 .refine i' (x:=(vL row c m).map D.str) ?_ ⟨M,.new hp,q⟩;unfold oj;rw[pS];show Fa ([]++((List.range (xq row c m)).map λi=>D.int (0+(i:Nat))).map _)=_;rw[eB,eG];unfold vL;rw[eG];rfl
def wB(c:Int)(own all:QQQ):Wi:=
 let x:=B0 own (qu c 16807 own.length);let pl:=qu c 39373 all.length;let y:=B0 all pl;let z:=B0 all ((pl+1+qu c 742938285 ((all.length:Int) - 1)) % all.length);let k:=qu c 1226874159 12
 if k=0 then .bar x (vL all c 3)
 else if k=1 then .shut y (vL own c 3)
 else if k=2 then .always y z
 else if k<5 then .night y z (qu c 22695477 24) ((qu c 22695477 24+1+qu c 48271 23) % 24)
 else if k<7 then .busy y z
 else if k<9 then .silent y z ([1,1,2,3,9].getD (qu c 950706376 5).toNat 0)
 else if k=9 then .wait x
 else .breaks x
def P9:rk:=λds M Q=>FQ λc o n own all=>ds=[.int c,.ref o,.ref n]/\oj M o=Fa (own.map D.str)/\oj M n=Fa (all.map D.str)/\own≠[]/\2<=all.length/\own.length<=64/\all.length<=64/\Q (.tup (wB c own all).told) M
def HC{row:QQQ}{x:Int}(h0:0<=x)(h1:x<row.length):vM (row.map D.str) x=Fa (D.str (B0 row x)):=by
 obtain⟨n,rfl⟩:=eI h0;have Zd:n<row.length:=by omega
 refine uB ?_;rw[dG,dg Zd];simp[B0,Zd]
def Pf:Fq P w K mg base 3 a.bp P9:=by
 refine fq G.bp.toDG tI (λr u=>⟨_,(pj (pL 3 tI (pJ U1 (pI (qH G) r G.i (rj v0 pz (pR qw Z' G.g qv (qe U1))))))
 (pj (pL 4 tI (pI (qH G) r G.i (rj v0 pz (pR qw Z' G.g qv (qe U2)))))
 (pj (pL 5 tI (pJ U2 v4))
 (pj (pL 6 tI (pJ U2 (pU (pU (pU v4 pz) (pI (qH G) r G.i (rj v0 pz (pU (pR qw Z' G.g qv (qe U2)) pz)))) (pR qw Z' G.g qv (qe U2)))))
 (pj (pL 7 tI (pI (qH G) r G.i (rj v0 pz pz)))
 (pj (pP (pH u v7 pz)
 (pk (pC (pN (rj pA U3 (pI (yo G) r G.R (rj U2 v0 pz))))))
 pK)
 (pj (pP (pH u v7 pz)
 (pk (pC (pN (rj pA v5 (pI (yo G) r G.R (rj U1 v0 pz))))))
 pK)
 (pj (pP (pH u v7 pz)
 (pk (pC (pN (rj pA v5 v6))))
 pK)
 (pj (pP (pH u v7 pz)
 (pj (pL 8 tI (pI (qH G) r G.i (rj v0 pz pz)))
 (pk (pC (pN (pX pA (pX v5 (rj v6 v8 (pU (pU (pU v8 pz) (pI (qH G) r G.i (rj v0 pz pz))) pz))))))))
 pK)
 (pj (pP (pH u v7 pz)
 (pk (pC (pN (rj pA v5 v6))))
 pK)
 (pj (pP (pH u v7 pz)
 (pk (pC (pN (pX pA (rj v5 v6 (pJ (pN (pX pz (pX pz (rj pz pz pz)))) (pI (qH G) r G.i (rj v0 pz pz))))))))
 pK)
 (pj (pP (pH u v7 pz)
 (pk (pC (pN (rN pA U3))))
 pK)
 (pk (pC (pN (rN pA U3)))))))))))))))),?_⟩)
 rintro ds M Q ⟨c,o,n,own,all,rfl,ho,hn,Xy,h2,l1,l2,q⟩
 have Xg:0<own.length:=fF.mpr Xy;have hne2:all≠[]:=λz=>by rw[z]at h2;simp at h2
 have e1:((own.map D.str).length:Int)=own.length:=by rw[cZ]
 have e2:((all.map D.str).length:Int)=all.length:=by rw[cZ]
 have p1:(0:Int)<own.length:=by omega
 have p2:(0:Int)<all.length:=by omega
 have p3:(0:Int)<(all.length:Int) - 1:=by omega
 refine i' ho ⟨c,_,_,Z',by rw[e1];exact p1,?_⟩;rw[e1];refine i' ho (i' (HC (ra p1) (qM p1)) ?_);refine i' hn ⟨c,_,_,Z',by rw[e2];exact p2,?_⟩;rw[e2];refine i' hn (i' (HC (ra p2) (qM p2)) ?_);refine i' hn ⟨c,_,_,Z',by rw[e2];exact p3,?_⟩;rw[e2];refine i' hn ⟨by rw[e2];exact p2,?_⟩;rw[e2];refine i' hn (i' (Jq hne2 _) ?_);refine⟨c,_,_,Z',by decide,?_⟩;have Xe:∀t:T0 D,(wB c own all).told=t->∃Xf,qp Xf M/\Q (.tup t) Xf:=λt e=>⟨M,.refl,e ▸ q⟩;have k0:0<=qu c 1226874159 12:=ra (by decide);refine qC (λh=>?_) (λh=>?_)
 .have h:qu c 1226874159 12=0:=by simpa using h
  refine⟨n,c,3,all,Z',hn,hne2,by decide,l2,o9 Z',Xe _ ?_⟩;simp only[wB,dz h,Wi.told]
 have h:¬qu c 1226874159 12=0:=by simpa using h
 refine qC (λg=>?_) (λg=>?_)
 .have g:qu c 1226874159 12=1:=by simpa using g
  refine⟨o,c,3,own,Z',ho,Xy,by decide,l1,o9 Z',Xe _ ?_⟩;simp only[wB,dh h,dz g,Wi.told]
 have g:¬qu c 1226874159 12=1:=by simpa using g
 refine qC (λi=>?_) (λi=>?_)
 .have i:qu c 1226874159 12=2:=by simpa using i
  refine⟨o9 Z',Xe _ ?_⟩;simp only[wB,dh h,dh g,dz i,Wi.told]
 have i:¬qu c 1226874159 12=2:=by simpa using i
 refine qC (λj=>?_) (λj=>?_)
 .have j:qu c 1226874159 12<5:=fO j;refine⟨c,_,_,Z',by decide,c,_,_,Z',by decide,by decide,o9 Z',Xe _ ?_⟩;simp only[wB,dh h,dh g,dh i,dz j,Wi.told]
 have j:¬qu c 1226874159 12<5:=λz=>j (d6 z);refine qC (λl=>?_) (λl=>?_)
 .have l:qu c 1226874159 12<7:=fO l;refine⟨o9 Z',Xe _ ?_⟩;simp only[wB,dh h,dh g,dh i,dh j,dz l,Wi.told]
 have l:¬qu c 1226874159 12<7:=λz=>l (d6 z);refine qC (λm=>?_) (λm=>?_)
 .have m:qu c 1226874159 12<9:=fO m;have d0:0<=qu c 950706376 5:=ra (by decide);have d1:qu c 950706376 5<5:=qM (by decide);have e:vM [D.int 1,.int 1,.int 2,.int 3,.int 9] (qu c 950706376 5)=Fa (D.int ([1,1,2,3,9].getD (qu c 950706376 5).toNat 0)):=by
   obtain⟨t,ht⟩:=eI d0;rw[ht]at d1 ⊢;have:t<5:=by omega
   match t,this with
   | 0,_=>rfl
   | 1,_=>rfl
   | 2,_=>rfl
   | 3,_=>rfl
   | 4,_=>rfl
  refine⟨o9 Z',c,_,_,Z',by decide,i' e ⟨o9 Z',Xe _ ?_⟩⟩;simp only[wB,dh h,dh g,dh i,dh j,dh l,dz m,Wi.told]
 have m:¬qu c 1226874159 12<9:=λz=>m (d6 z);refine qC (λr=>?_) (λr=>?_)
 .have r:qu c 1226874159 12=9:=by simpa using r
  refine⟨o9 Z',Xe _ ?_⟩;simp only[wB,dh h,dh g,dh i,dh j,dh l,dh m,dz r,Wi.told]
 have r:¬qu c 1226874159 12=9:=by simpa using r
 refine⟨o9 Z',Xe _ ?_⟩;simp only[wB,dh h,dh g,dh i,dh j,dh l,dh m,dh r,Wi.told]
def Nf(K:qo):rk:=λds M Q=>C9 λp d C=>ds=[.ref p,d]/\M p=Fa (.ins C [])/\ue K C "form"/\Q .mP (pE M p (.ins C [("form",d)]))
def NJ(K:qo):rk:=λds M Q=>FQ λp t x y C=>ds=[.ref p,.tup t]/\vM t 1=Fa x/\vM t 2=Fa y/\M p=Fa (.ins C [])/\ue K C "form"/\ue K C "target"/\ue K C "goal"/\Q .mP (pE M p (.ins C [("form",.tup t),("target",x),("goal",y)]))
def yj(a:Ad)(k:Wi->Prop):rk:=λds M Q=>C4 λp v=>ds=[.ref p,.tup (Wi.told v)]/\k v/\M p=Fa (.ins (v.cls a) [])/\Q .mP (pE M p (.ins (v.cls a) v.nF))
def xQ:Fq P w K mg base 1 a.F (Nf K):=by
 refine fq G.F.toDG El (λr u=>⟨_,(pk (pZ v0 U1)),?_⟩)
 rintro ds M Q ⟨p,d,C,rfl,hp,na,q⟩
 exact pq hp ⟨na,by decide,_,.refl,q⟩
def zN:Fq P w K mg base 2 a.A (NJ K):=by
 refine fq G.A.toDG AR (λr u=>⟨_,(pj (pM (yC G.aP (xQ G) r G.B G.F.toDG (rN v0 U1)))
 (pj (pZ v0 (pJ U1 pz))
 (pk (pZ v0 (pJ U1 pz))))),?_⟩)
 rintro ds M Q ⟨p,t,x,y,C,rfl,e1,e2,hp,n1,n2,n3,q⟩
 refine⟨p,_,C,Z',hp,n1,i' e1 (pq pS ⟨n2,by show 1<1000;decide,?_⟩)⟩;refine i' e2 (pq pS ⟨n3,by show 2<1000;decide,_,?_,q⟩);rw[rM,rM];exact .refl
def SB:Fq P w K mg base 2 a.an (yj a λv=>∃x ns,v=.bar x ns):=by
 refine fq G.an.toDG Gw (λr u=>⟨_,(pj (pM (yC G.aP (xQ G) r G.B G.F.toDG (rN v0 U1)))
 (pj (pZ v0 (pJ U1 pz))
 (pk (pZ v0 (pJ U1 pz))))),?_⟩)
 rintro ds M Q ⟨p,v,rfl,⟨x,ns,rfl⟩,hp,q⟩
 refine⟨p,_,_,Z',hp,(G.bU "form" Z'),pq pS ⟨(G.bU "phone" Z'),by show 1<1000;decide,?_⟩⟩;refine pq pS ⟨(G.bU "targets" Z'),by show 2<1000;decide,_,?_,q⟩;rw[rM,rM];exact .refl
def P4:Fq P w K mg base 2 a.ap (yj a λv=>∃x ns,v=.shut x ns):=by
 refine fq G.ap.toDG EK (λr u=>⟨_,(pj (pM (yC G.aP (xQ G) r G.B G.F.toDG (rN v0 U1)))
 (pj (pZ v0 (pJ U1 pz))
 (pk (pZ v0 (pJ U1 pz))))),?_⟩)
 rintro ds M Q ⟨p,v,rfl,⟨x,ns,rfl⟩,hp,q⟩
 refine⟨p,_,_,Z',hp,(G.bV "form" Z'),pq pS ⟨(G.bV "target" Z'),by show 1<1000;decide,?_⟩⟩;refine pq pS ⟨(G.bV "callers" Z'),by show 2<1000;decide,_,?_,q⟩;rw[rM,rM];exact .refl
def NS:Fq P w K mg base 3 a.ar (yj a λv=>∃x y f l,v=.night x y f l):=by
 refine fq G.ar.toDG Dj (λr u=>⟨_,(pj (pM (yC G.b1 (zN G) r G.Y G.A.toDG (rN v0 U1)))
 (pj (pZ v0 (pJ U1 pz))
 (pk (pZ v0 (pJ U1 pz))))),?_⟩)
 rintro ds M Q ⟨p,v,rfl,⟨x,y,f,l,rfl⟩,hp,q⟩
 refine⟨p,_,_,_,_,Z',Z',Z',hp,(G.aQ "form" Z'),(G.aQ "target" Z'),(G.aQ "goal" Z'),pq pS ⟨(G.aQ "first" Z'),by show 3<1000;decide,?_⟩⟩;refine pq pS ⟨(G.aQ "last" Z'),by show 4<1000;decide,_,?_,q⟩;rw[rM,rM];exact .refl
def Ke:Fq P w K mg base 3 a.au (yj a λv=>∃x y n,v=.silent x y n):=by
 refine fq G.au.toDG CQ (λr u=>⟨_,(pj (pM (yC G.b1 (zN G) r G.Y G.A.toDG (rN v0 U1)))
 (pk (pZ v0 (pJ U1 pz)))),?_⟩)
 rintro ds M Q ⟨p,v,rfl,⟨x,y,n,rfl⟩,hp,q⟩
 refine⟨p,_,_,_,_,Z',Z',Z',hp,(G.bS "form" Z'),(G.bS "target" Z'),(G.bS "goal" Z'),pq pS ⟨(G.bS "turns" Z'),by show 3<1000;decide,_,?_,q⟩⟩;rw[rM];exact .refl
def P6:Fq P w K mg base 2 a.av (yj a λv=>∃x,v=.wait x):=by
 refine fq G.av.toDG Ew (λr u=>⟨_,(pj (pM (yC G.aP (xQ G) r G.B G.F.toDG (rN v0 U1)))
 (pk (pZ v0 (pJ U1 pz)))),?_⟩)
 rintro ds M Q ⟨p,v,rfl,⟨x,rfl⟩,hp,q⟩
 refine⟨p,_,_,Z',hp,(G.b2 "form" Z'),pq pS ⟨(G.b2 "phone" Z'),by show 1<1000;decide,_,?_,q⟩⟩;rw[rM];exact .refl
def J3:Fq P w K mg base 2 a.ax (yj a λv=>∃x,v=.breaks x):=by
 refine fq G.ax.toDG BR (λr u=>⟨_,(pj (pM (yC G.aP (xQ G) r G.B G.F.toDG (rN v0 U1)))
 (pk (pZ v0 (pJ U1 pz)))),?_⟩)
 rintro ds M Q ⟨p,v,rfl,⟨x,rfl⟩,hp,q⟩
 refine⟨p,_,_,Z',hp,(G.b3 "form" Z'),pq pS ⟨(G.b3 "phone" Z'),by show 1<1000;decide,_,?_,q⟩⟩;rw[rM];exact .refl
def HV(a:Ad):rk:=λds M Q=>∃v:Wi,ds=[.tup v.told]/\∀p,M p=Db->Q (.ref p) (pE M p (.ins (v.cls a) v.nF))
def I9(a:Ad):rk:=λds M Q=>C4 λp (v:Wi)=>ds=[.ref p]/\M p=Fa (.ins (v.cls a) v.nF)/\Q (.tup v.told) M
def HY:rk:=λds M Q=>∃p,ds=[.ref p]/\Q (.tup [.str "end"]) M
def Ni:rk:=λds M Q=>∃p,ds=[.ref p]/\Q (.tup [.str "break"]) M
def QW:rk:=λds M Q=>Af λp C fs y=>ds=[.ref p]/\M p=Fa (.ins C fs)/\fs.lookup ("goal":Str)=Fa y/\Q (.tup [.str "to",y]) M
def Ra:rk:=λds M Q=>Af λp C fs y=>ds=[.ref p]/\M p=Fa (.ins C fs)/\fs.lookup ("phone":Str)=Fa y/\Q (.tup [.str "wait",y]) M
def LC(a:Ad):Ch->rk->Prop:=λC sp=>(∃v:Wi,C=v.cls a)/\sp=I9 a
def zu(a:Ad):Ch->rk->Prop:=λC sp=>((C=a.t\/C=a.u)/\sp=HY)\/((C=a.x\/C=a.n\/C=a.y\/C=a.v)/\sp=QW)\/(C=a.w/\sp=Ra)\/(C=a.o/\sp=Ni)
def HZ:Fq P w K mg base 5 a.bg (HV a):=by
 refine fq G.bg.toDG BU (λr u=>⟨_,(pj (pL 1 BU (pJ v0 pz))
 (pj (pP (pH u U1 pA)
 (pk (pC (vG (SB G) r G.t G.cf G.an.toDG (qe v0))))
 pK)
 (pj (pP (pH u U1 pA)
 (pk (pC (vG (P4 G) r G.u G.cg G.ap.toDG (qe v0))))
 pK)
 (pj (pP (pH u U1 pA)
 (pk (pC (vG (zN G) r G.x G.ch G.A.toDG (qe v0))))
 pK)
 (pj (pP (pH u U1 pA)
 (pk (pC (vG (NS G) r G.n G.ci G.ar.toDG (qe v0))))
 pK)
 (pj (pP (pH u U1 pA)
 (pk (pC (vG (zN G) r G.y G.cj G.A.toDG (qe v0))))
 pK)
 (pj (pP (pH u U1 pA)
 (pk (pC (vG (Ke G) r G.v G.ck G.au.toDG (qe v0))))
 pK)
 (pj (pP (pH u U1 pA)
 (pk (pC (vG (P6 G) r G.w G.cl G.av.toDG (qe v0))))
 pK)
 (pj (pP (pH u U1 pA)
 (pk (pC (vG (J3 G) r G.o G.cm G.ax.toDG (qe v0))))
 pK)
 (pk FX)))))))))),?_⟩)
 rintro ds M Q ⟨v,rfl,q⟩
 have Xe:∀(x:Ch) (c0 c1:uY) (C:Ch) (fs:T0 (Str×D)),M x=Db->Q (.ref x) (pE M x c1)->∃Xf,qp Xf (pE (pE M x c0) x c1)/\Q (.ref x) Xf:=λx c0 c1 C fs hx q=>⟨_,by rw[rM];exact .refl,q⟩;cases v with
 | bar x ns=>exact λp hp=>⟨p,.bar x ns,Z',⟨_,_,Z'⟩,pS,Z',Xe p _ _ 0 [] hp (q p hp)⟩
 | shut x ns=>exact λp hp=>⟨p,.shut x ns,Z',⟨_,_,Z'⟩,pS,Z',Xe p _ _ 0 [] hp (q p hp)⟩
 | always x y=>exact λp hp=>⟨p,_,_,_,_,Z',Z',Z',pS,(G.bW "form" Z'),(G.bW "target" Z'),(G.bW "goal" Z'),Z',Xe p _ _ 0 [] hp (q p hp)⟩
 | night x y f l=>exact λp hp=>⟨p,.night x y f l,Z',⟨_,_,_,_,Z'⟩,pS,Z',Xe p _ _ 0 [] hp (q p hp)⟩
 | busy x y=>exact λp hp=>⟨p,_,_,_,_,Z',Z',Z',pS,(G.bX "form" Z'),(G.bX "target" Z'),(G.bX "goal" Z'),Z',Xe p _ _ 0 [] hp (q p hp)⟩
 | silent x y n=>exact λp hp=>⟨p,.silent x y n,Z',⟨_,_,_,Z'⟩,pS,Z',Xe p _ _ 0 [] hp (q p hp)⟩
 | wait x=>exact λp hp=>⟨p,.wait x,Z',⟨_,Z'⟩,pS,Z',Xe p _ _ 0 [] hp (q p hp)⟩
 | breaks x=>exact λp hp=>⟨p,.breaks x,Z',⟨_,Z'⟩,pS,Z',Xe p _ _ 0 [] hp (q p hp)⟩
def QH:Fq P w K mg base 1 a.l (I9 a):=by
 refine fq G.l.toDG FL (λr u=>⟨_,(pk (pC (pF v0))),?_⟩)
 rintro ds M Q ⟨p,v,rfl,hp,q⟩
 exact pq hp (i' Z' ⟨M,.refl,q⟩)
def OZ:Fq P w K mg base 1 a.ao HY:=by
 refine fq G.ao.toDG ES (λr u=>⟨_,(pk (pC (pN (qe pA)))),?_⟩)
 rintro ds M Q ⟨p,rfl,q⟩
 exact⟨o9 Z',M,.refl,q⟩
def L9:Fq P w K mg base 1 a.aq HY:=by
 refine fq G.aq.toDG Dg (λr u=>⟨_,(pk (pC (pN (qe pA)))),?_⟩)
 rintro ds M Q ⟨p,rfl,q⟩
 exact⟨o9 Z',M,.refl,q⟩
def vT:Fq P w K mg base 1 a.z QW:=by
 refine fq G.z.toDG Am (λr u=>⟨_,(pk (pC (pN (rN pA (pF v0))))),?_⟩)
 rintro ds M Q ⟨p,C,fs,y,rfl,hp,e,q⟩
 exact pq hp (i' e ⟨o9 Z',M,.refl,q⟩)
def Nw:Fq P w K mg base 1 a.aw Ra:=by
 refine fq G.aw.toDG C5 (λr u=>⟨_,(pk (pC (pN (rN pA (pF v0))))),?_⟩)
 rintro ds M Q ⟨p,C,fs,y,rfl,hp,e,q⟩
 exact pq hp (i' e ⟨o9 Z',M,.refl,q⟩)
def HG:Fq P w K mg base 1 a.ay Ni:=by
 refine fq G.ay.toDG A0 (λr u=>⟨_,(pk (pC (pN (qe pA)))),?_⟩)
 rintro ds M Q ⟨p,rfl,q⟩
 exact⟨o9 Z',M,.refl,q⟩
def RO:∀C sp,LC a C sp->xT P w K mg base 1 "told" C (Ol K sp):=by
 rintro C sp ⟨⟨v,rfl⟩,rfl⟩
 have F:=QH (P:=P) (w:=w) (base:=base) G;cases v with
 | bar _ _=>exact⟨G.t.toCls,_,_,_,G.cz,F,G.l.b⟩
 | shut _ _=>exact⟨G.u.toCls,_,_,_,G.cA,F,G.l.b⟩
 | always _ _=>exact⟨G.x.toCls,_,_,_,G.cB,F,G.l.b⟩
 | night _ _ _ _=>exact⟨G.n.toCls,_,_,_,G.cC,F,G.l.b⟩
 | busy _ _=>exact⟨G.y.toCls,_,_,_,G.cD,F,G.l.b⟩
 | silent _ _ _=>exact⟨G.v.toCls,_,_,_,G.cE,F,G.l.b⟩
 | wait _=>exact⟨G.w.toCls,_,_,_,G.cF,F,G.l.b⟩
 | breaks _=>exact⟨G.o.toCls,_,_,_,G.cG,F,G.l.b⟩
def Ex:∀C sp,zu a C sp->xT P w K mg base 1 "wants" C (Ol K sp):=by
 rintro C sp (⟨rfl|rfl,rfl⟩|⟨rfl|rfl|rfl|rfl,rfl⟩|⟨rfl,rfl⟩|⟨rfl,rfl⟩)
 .exact⟨G.t.toCls,_,_,_,G.ao.nq,OZ G,G.ao.b⟩
 .exact⟨G.u.toCls,_,_,_,G.aq.nq,L9 G,G.aq.b⟩
 .exact⟨G.x.toCls,_,_,_,G.co,vT G,G.z.b⟩
 .exact⟨G.n.toCls,_,_,_,G.cp,vT G,G.z.b⟩
 .exact⟨G.y.toCls,_,_,_,G.cq,vT G,G.z.b⟩
 .exact⟨G.v.toCls,_,_,_,G.cr,vT G,G.z.b⟩
 .exact⟨G.w.toCls,_,_,_,G.aw.nq,Nw G,G.aw.b⟩
 .exact⟨G.o.toCls,_,_,_,G.ay.nq,HG G,G.ay.b⟩
def uG(x:Str):Bool:=decide ((1:Int)<=x.length)&&(decide ((x.length:Int)<=6)&&x.cps.toList.all λc=>C8 ⟨#[c]⟩ uu)
def Hn:rk:=λds M Q=>∃x:Str,ds=[.str x]/\x.length<=1000/\Q (.bl (uG x)) M
def IK:rk:=λds M Q=>∃w,ds=[.bl pc,w]/\Q .mP M
noncomputable def xk(ss:QQQ):Bool:=((sX ss).length:Int)==(ss.length:Int)
def RY(M:Mp)(x:D)(ss:QQQ):Prop:=x=.tup (ss.map D.str)\/∃a,x=.ref a/\oj M a=Fa (ss.map D.str)
def KC:rk:=λds M Q=>C4 λx ss=>ds=[x]/\RY M x ss/\ss.length<4000/\Q (.bl (xk ss)) M
def ze{α:Type}(f:α->Bool)(l:List α):(l.map f).all id=l.all f:=by rw[mB];rfl
def sE(x:Str)(ss:QQQ):inD (.str x) (ss.map D.str)=ss.any (·==x):=by unfold inD;rw[jU];rfl
theorem qx:∀ss:QQQ,(ss.map D.str).all va=pc
 | []=>rfl
 | _::r=>by rw[d9,fC,qx r];rfl
def sD(cs ks:QQQ)(m:Int):Bool:=decide ((1:Int)<=cs.length)&&(decide ((cs.length:Int)<=m)&&(xk cs&&cs.all λc=>ks.any (·==c)))
def KQ:rk:=λds M Q=>Af λcs ks k m=>ds=[.tup (cs.map D.str),.ref k,.int m]/\oj M k=Fa (ks.map D.str)/\cs.length<4000/\Q (.bl (sD cs ks m)) M
def CA:Fq P w K mg base 1 a.ae Hn:=by
 refine fq G.ae.toDG Hg (λr u=>⟨_,(pk (pC (tH (uy u pz (pR qw Z' G.g qv (qe v0)) (sJ Z' G.cU)) (sV (pR (EF Z') Z' G.bT EN (qe (qF Z' (yb (ix:=[Db]) (N':=["sign"])) (qB v0) (qG 0) rT (qm u v0 (sJ Z' G.cV))))))))),?_⟩)
 rintro ds M Q ⟨x,rfl,hl,q⟩
 have hz:=dS;refine⟨by omega,qC (λh1=>?_) (λh1=>?_)⟩
 .refine qC (λh2=>?_) (λh2=>?_)
  .refine qW (f:=λd=>match d with|.str z=>D.bl (C8 z uu)|_=>.mP) trivial _ [] _ ?_ (λd hd k hk=>?_) λp hp=>?_
   .rw[cZ];have:x.cps.toList.length=x.length:=by simp[Str.length]
    simp only[dR];omega
   .obtain⟨c,_,rfl⟩:=dJ.mp hd;exact hk
   .refine i' pD ?_;have e:([]++(x.cps.toList.map λc=>D.str ⟨#[c]⟩).map λd=>match d with|.str z=>D.bl (C8 z uu)|_=>.mP)=x.cps.toList.map λc=>D.bl (C8 ⟨#[c]⟩ uu):=by rw[eB,eG];rfl
    rw[e];refine i' (yp (λc=>C8 ⟨#[c]⟩ uu) x.cps.toList) ⟨M,.new hp,?_⟩;rw[ze];have:uG x=x.cps.toList.all λc=>C8 ⟨#[c]⟩ uu:=by unfold uG;rw[h1,h2];rfl
    rw[<-this];exact q
  .refine⟨M,.refl,?_⟩;have:uG x=Uf:=by
    unfold uG;have h2:decide ((x.length:Int)<=6)=Uf:=by simpa using h2
    rw[h2];simp
   rw[<-this];exact q
 .refine⟨M,.refl,?_⟩;have:uG x=Uf:=by
   unfold uG;have h1:decide ((1:Int)<=x.length)=Uf:=by simpa using h1
   rw[h1];rfl
  rw[<-this];exact q
def sS:Fq P w K mg base 1 a.m IK:=by
 refine fq G.m.toDG PP (λr u=>⟨_,(pk (pP (vt (um v0))
 (pk FX)
 pK)),?_⟩)
 rintro ds M Q ⟨x,rfl,q⟩
 exact⟨M,.refl,q⟩
def D0:Fq P w K mg base 1 a.af KC:=by
 refine fq G.af.toDG CV (λr u=>⟨_,(pk (pC (qm u (Kr Z' v0 Z' G.g Z' G.cL qv SM) (pR qw Z' G.g qv (qe v0))))),?_⟩)
 rintro ds M Q ⟨x,ss,rfl,hx,hl,q⟩
 have key:((ss.map D.str).length:Int)=ss.length:=by rw[cZ]
 rcases hx with rfl|⟨b,rfl,hb⟩
 .refine i' (L3.CC ss) ⟨hl,M,.refl,?_⟩;rw[key];exact q
 .refine i' hb (i' (L3.CC ss) ⟨hl,i' hb ⟨M,.refl,?_⟩⟩);rw[key];exact q
def Al:Fq P w K mg base 2 a.Q KQ:=by
 refine fq G.Q.toDG EJ (λr u=>⟨_,(pk (pC (tH (uy u pz (pR qw Z' G.g qv (qe v0)) U2) (tH (pI (D0 G) r G.af (qe v0)) (sV (pR (EF Z') Z' G.bT EN (qe (qF Z' (yb (ix:=[Db,Fa 1]) (N':=["name","known"])) (qB v0) (qG 0) rT (qm u v0 U1))))))))),?_⟩)
 rintro ds M Q ⟨cs,ks,k,m,rfl,hk,hl,q⟩
 have hz:=dS;have key:((cs.map D.str).length:Int)=cs.length:=by rw[cZ]
 have end_:∀b:Bool,sD cs ks m=b->∃Xf,qp Xf M/\Q (.bl b) Xf:=λb e=>⟨M,.refl,e ▸ q⟩;refine qC (λh1=>?_) (λh1=>?_)
 .have h1:decide ((1:Int)<=cs.length)=pc:=by rw[<-key];exact h1
  refine qC (λh2=>?_) (λh2=>?_)
  .have h2:decide ((cs.length:Int)<=m)=pc:=by rw[<-key];exact h2
   refine⟨_,cs,Z',.inl Z',hl,qC (λh3=>?_) (λh3=>?_)⟩
   .refine qW (f:=λd=>match d with|.str z=>D.bl (ks.any (·==z))|_=>.mP) trivial _ [] _ ?_ (λd hd k0 hk0=>?_) λp hp=>?_
    .rw[cZ];simp only[dR];omega
    .obtain⟨c,_,rfl⟩:=dJ.mp hd;refine i' hk ⟨Z',qx ks,?_⟩;show k0 (.bl (inD (.str c) (ks.map D.str))) M;rw[sE];exact hk0
    .refine i' pD ?_;have e:([]++(cs.map D.str).map λd=>match d with|.str z=>D.bl (ks.any (·==z))|_=>.mP)=cs.map λc=>D.bl (ks.any (·==c)):=by rw[eB,eG];rfl
     rw[e];refine i' (yp (λc=>ks.any (·==c)) cs) ⟨M,.new hp,?_⟩;rw[ze];have:sD cs ks m=cs.all λc=>ks.any (·==c):=by unfold sD;rw[h1,h2,h3];rfl
     rw[<-this];exact q
   .refine end_ _ ?_;unfold sD;have h3:xk cs=Uf:=by simpa using h3
    rw[h3];simp
  .refine end_ _ ?_;unfold sD;have h2:decide ((cs.length:Int)<=m)=Uf:=by
    rw[<-key]
    simpa using h2
   rw[h2];simp
 .refine end_ _ ?_;unfold sD;have h1:decide ((1:Int)<=cs.length)=Uf:=by
   rw[<-key]
   simpa using h1
  rw[h1];rfl
abbrev uO:=Str×Int×Int
abbrev ur:=Str×Str×QQQ
abbrev vd:=Bool×Wi
noncomputable def qK(p:uO):D:=.tup [.str p.1,.int p.2.1,.int p.2.2]
noncomputable def qP(g:ur):D:=.tup [.str g.1,.str g.2.1,names g.2.2]
noncomputable def ug(w:vd):D:=.tup [.bl w.1,.tup w.2.told]
structure EY(p:uO):Prop where
 len:p.1.length<=1000
 nm:uG p.1=pc
 l1:1<=p.2.1
 l2:p.2.1<=3
 r1:0<=p.2.2
 r2:p.2.2<=9
structure EH(pn:QQQ)(g:ur):Prop where
 len:g.1.length<=1000
 nm:uG g.1=pc
 man:g.2.1="all"\/g.2.1="turns"
 o9:g.2.2.length<4000
 mem:sD g.2.2 pn 4=pc
def x9(ss:QQQ)(x:Str):Prop:=ss.any (·==x)=pc
def Cy(pn nm:QQQ):Wi->Prop
 | .bar x ns=>x9 pn x/\ns.length<4000/\sD ns nm 6=pc
 | .shut x ns=>x9 nm x/\ns.length<4000/\sD ns pn 6=pc
 | .always x y=>x9 nm x/\x9 nm y/\x≠y
 | .night x y f l=>x9 nm x/\x9 nm y/\x≠y/\(0<=f/\f<=23)/\(0<=l/\l<=23)/\f≠l
 | .busy x y=>x9 nm x/\x9 nm y/\x≠y
 | .silent x y n=>x9 nm x/\x9 nm y/\x≠y/\1<=n/\n<=9
 | .wait x=>x9 pn x
 | .breaks x=>x9 pn x
inductive xZ(pn nm:QQQ):Str->D->Prop
 | ng (x:Str) (h:x9 pn x):xZ pn nm "phone" (.str x)
 | name (x:Str) (h:x9 nm x):xZ pn nm "name" (.str x)
 | mL (cs:QQQ) (l:cs.length<4000) (h:sD cs pn 6=pc):xZ pn nm "phones" (names cs)
 | names (cs:QQQ) (l:cs.length<4000) (h:sD cs nm 6=pc):xZ pn nm "names" (names cs)
 | hour (i:Int) (h0:0<=i) (h1:i<=23):xZ pn nm "hour" (.int i)
 | turns (i:Int) (h0:1<=i) (h1:i<=9):xZ pn nm "turns" (.int i)
def Ji:rk:=λds M Q=>J6 λk d pl nl (pn nm:QQQ)=>ds=[.str k,d,.ref pl,.ref nl]/\oj M pl=Fa (pn.map D.str)/\oj M nl=Fa (nm.map D.str)/\xZ pn nm k d/\Q (.bl pc) M
def AJ:rk:=λds M Q=>C4 λr (ps:List uO)=>ds=[.ref r]/\oj M r=Fa (ps.map qK)/\1<=ps.length/\ps.length<=8/\(∀p∈ps,EY p)/\Q .mP M
def AQ:rk:=λds M Q=>Af λr (gs:List ur) pl (pn:QQQ)=>ds=[.ref r,.ref pl]/\oj M r=Fa (gs.map qP)/\oj M pl=Fa (pn.map D.str)/\gs.length<=3/\(∀g∈gs,EH pn g)/\Q .mP M
def Dn:rk:=λds M Q=>FQ λv pl nl (pn nm:QQQ)=>ds=[.tup (Wi.told v),.ref pl,.ref nl]/\oj M pl=Fa (pn.map D.str)/\oj M nl=Fa (nm.map D.str)/\Cy pn nm v/\Q .mP M
def AS:rk:=λds M Q=>J6 λr (ws:List vd) pl nl (pn nm:QQQ)=>ds=[.ref r,.ref pl,.ref nl]/\oj M r=Fa (ws.map ug)/\oj M pl=Fa (pn.map D.str)/\oj M nl=Fa (nm.map D.str)/\ws.length<=16/\(∀w∈ws,Cy pn nm w.2)/\Q .mP M
def WJ(h:x9 ss x):inD (.str x) (ss.map D.str)=pc:=by rw[sE];exact h
def OL:Fq P w K mg base 3 a.bj Ji:=by
 refine fq G.bj.toDG Dt (λr u=>⟨_,(pj (pP (pH u v0 pA)
 (pk (pC (qm u U1 U2)))
 pK)
 (pj (pP (pH u v0 pA)
 (pk (pC (qm u U1 U3)))
 pK)
 (pj (pP (pH u v0 pA)
 (pk (pC (pI (Al G) r G.Q (rj U1 U2 (sJ Z' G.b8)))))
 pK)
 (pj (pP (pH u v0 pA)
 (pk (pC (pI (Al G) r G.Q (rj U1 U3 (sJ Z' G.b8)))))
 pK)
 (pj (pP (pH u v0 pA)
 (pk (pC (uy u pz U1 (sJ Z' G.cW))))
 pK)
 (pk (pC (uy u pz U1 (sJ Z' G.cX))))))))),?_⟩)
 rintro ds M Q ⟨k,d,pl,nl,pn,nm,rfl,hp,hn,ok,q⟩
 cases ok with
 | ng x h=>refine i' hp ⟨Z',qx pn,M,.refl,?_⟩;show Q (.bl (inD (.str x) (pn.map D.str))) M;rw[WJ h];exact q
 | name x h=>refine i' hn ⟨Z',qx nm,M,.refl,?_⟩;show Q (.bl (inD (.str x) (nm.map D.str))) M;rw[WJ h];exact q
 | mL cs l h=>exact⟨cs,pn,pl,6,Z',hp,l,M,.refl,by rw[h];exact q⟩
 | names cs l h=>exact⟨cs,nm,nl,6,Z',hn,l,M,.refl,by rw[h];exact q⟩
 | hour i h0 h1=>refine Ba (c:=decide (0<=i)) (d6 h0) ⟨M,.refl,?_⟩;show Q (.bl (decide (i<=23))) M;rw[d6 h1];exact q
 | turns i h0 h1=>refine Ba (c:=decide (1<=i)) (d6 h0) ⟨M,.refl,?_⟩;show Q (.bl (decide (i<=9))) M;rw[d6 h1];exact q
def A5:Fq P w K mg base 2 a.bh AJ:=by
 refine fq G.bh.toDG uc (λr u=>⟨_,(pj (pM (pI (sS G) r G.m (rN (uy u pz (pR qw Z' G.g qv (qe v0)) (sJ Z' G.cN)) pA)))
 (pk (sN eK Z' (qB v0) (uX (n:=3) Z' (qE (rg 1 uc) (qE (rg 2 uc) (qE (rg 3 uc) ub))))
 (pj (pM (pI (sS G) r G.m (rN (pI (CA G) r G.ae (qe U1)) pA)))
 (pj (pM (pI (sS G) r G.m (rN (uy u pz U2 (sJ Z' G.cO)) pA)))
 (pk (pM (pI (sS G) r G.m (rN (uy u pz U3 (sJ Z' G.cP)) pA))))))))),?_⟩)
 rintro ds M Q ⟨r,ps,rfl,XX,h1,h8,mT,q⟩
 have el:((ps.map qK).length:Int)=ps.length:=by rw[cZ]
 refine i' XX (Ba (c:=decide ((1:Int)<=(ps.map qK).length)) (d6 (by omega)) ⟨_,by rw[d6 (show((ps.map qK).length:Int)<=8 by omega)],i' XX ?_⟩);refine Bx (λU M'=>M=M'/\∃x y z,U=[Fa (.ref r),x,y,z]) (λU M' j=>by rw[<-j.1];exact XX) _ _ _ ⟨Z',Db,Db,Db,Z'⟩ ?_ ?_
 .rintro d hd U M' ⟨rfl,x,y,z,rfl⟩ nx Xh
  obtain⟨p,hp,rfl⟩:=dJ.mp hd;have o:=mT p hp;refine⟨Z',⟨p.1,Z',o.len,_,by rw[o.nm],?_⟩⟩;refine Ba (c:=decide ((1:Int)<=p.2.1)) (d6 o.l1) ⟨_,by rw[d6 (show p.2.1<=3 from o.l2)],?_⟩;refine Ba (c:=decide ((0:Int)<=p.2.2)) (d6 o.r1) ⟨_,by rw[d6 (show p.2.2<=9 from o.r2)],?_⟩;exact Xh _ _ ⟨Z',_,_,_,Z'⟩
 .rintro U M' ⟨rfl,x,y,z,rfl⟩
  exact⟨M,.refl,q⟩
def Bd:Fq P w K mg base 3 a.bi AQ:=by
 refine fq G.bi.toDG ud (λr u=>⟨_,(pj (pM (pI (sS G) r G.m (rN (qm u (pR qw Z' G.g qv (qe v0)) (sJ Z' G.cQ)) pA)))
 (pk (sN eK Z' (qB v0) (uX (n:=3) Z' (qE (rg 2 ud) (qE (rg 3 ud) (qE (rg 4 ud) ub))))
 (pj (pM (pI (sS G) r G.m (rN (pI (CA G) r G.ae (qe U2)) pA)))
 (pj (pM (pI (sS G) r G.m (rN (qm u U3 (sJ Z' G.cR)) pA)))
 (pk (pM (pI (sS G) r G.m (rN (pI (Al G) r G.Q (rj v4 U1 (sJ Z' G.cS))) pA))))))))),?_⟩)
 rintro ds M Q ⟨r,gs,pl,pn,rfl,XX,hp,h3,mT,q⟩
 have el:((gs.map qP).length:Int)=gs.length:=by rw[cZ]
 refine i' XX ⟨_,by rw[d6 (show((gs.map qP).length:Int)<=3 by omega)],i' XX ?_⟩;refine Bx (λU M'=>M=M'/\∃x y z,U=[Fa (.ref r),Fa (.ref pl),x,y,z]) (λU M' j=>by rw[<-j.1];exact XX) _ _ _ ⟨Z',Db,Db,Db,Z'⟩ ?_ ?_
 .rintro d hd U M' ⟨rfl,x,y,z,rfl⟩ nx Xh
  obtain⟨g,hg,rfl⟩:=dJ.mp hd;have o:=mT g hg;refine⟨Z',⟨g.1,Z',o.len,_,by rw[o.nm],?_⟩⟩;have hm:inD (.str g.2.1) [.str "all",.str "turns"]=pc:=by rcases o.man with e|e<;>(rw[e];rfl)
  refine⟨Z',Z',.str "a group's manner is all or turns",eZ (λb=>[D.bl b,D.str "a group's manner is all or turns"]) hm,?_⟩;refine⟨g.2.2,pn,pl,4,Z',hp,o.o9,_,by rw[o.mem],?_⟩;exact Xh _ _ ⟨Z',_,_,_,Z'⟩
 .rintro U M' ⟨rfl,x,y,z,rfl⟩
  exact⟨M,.refl,q⟩
def Do:Fq P w K mg base 4 a.bk Dn:=by
 refine fq G.bk.toDG tX (λr u=>⟨_,(pj (pM (pI (sS G) r G.m (rN (Le G.b7 Z' (pJ v0 pz)) pA)))
 (pj (pL 3 tX (KB G.b7 Z' (pJ v0 pz)))
 (pj (pL 4 tX (rW v0 (sU pz) sT))
 (pj (pM (pI (sS G) r G.m (rN (qm u (pR qw Z' G.g qv (qe v4)) (pR qw Z' G.g qv (qe U3))) pA)))
 (pj (sN eK Z' (Td Z' G.cM (rN U3 v4)) (uX (n:=2) Z' (qE (rg 5 tX) (qE (rg 6 tX) ub)))
 (pk (pM (pI (sS G) r G.m (rN (pI (OL G) r G.bj (pX v5 (rj v6 U1 U2))) pA)))))
 (pj (pP (pH u (rW U3 sT (sU pz)) (pN (rN pA pA)))
 (pk (pM (pI (sS G) r G.m (rN (qm u (pJ v4 pz) (pJ v4 pz)) pA))))
 pK)
 (pk (pP (pH u (rW U3 (sU pz) sT) (pN (rN pA pA)))
 (pk (pM (pI (sS G) r G.m (rN (qm u (pJ v4 pz) (pJ v4 pz)) pA))))
 pK)))))))),?_⟩)
 rintro ds M Q ⟨v,pl,nl,pn,nm,rfl,hp,hn,ok,q⟩
 have part:∀{k:Str} {d:D} {C:DK},xZ pn nm k d->C (.bl pc) M->Ji [.str k,d,.ref pl,.ref nl] M C:=λo c=>⟨_,_,pl,nl,pn,nm,Z',hp,hn,o,c⟩;have need:∀{x:D} {C:DK},C .mP M->IK [.bl pc,x] M C:=λc=>⟨_,Z',c⟩;have ne:∀{x y:Str},x≠y->(!(x==y))=pc:=λh=>by simpa using h
 have nei:∀{x y:Int},x≠y->(!(x==y))=pc:=λh=>by simpa using h
 have Xe:∃Xf,qp Xf M/\Q .mP Xf:=⟨M,.refl,q⟩;cases v with
 | bar x ns=>obtain⟨h1,h2,h3⟩:=ok;refine⟨_,Z',_,Z',?_⟩;refine⟨Z',_,_,pl,nl,pn,nm,Z',hp,hn,.ng x h1,_,Z',trivial,⟨Z',_,_,pl,nl,pn,nm,Z',hp,hn,.names ns h2 h3,_,Z',trivial,?_⟩⟩;exact⟨o9 Z',o9 Z',Xe⟩
 | shut x ns=>obtain⟨h1,h2,h3⟩:=ok;refine⟨_,Z',_,Z',?_⟩;refine⟨Z',_,_,pl,nl,pn,nm,Z',hp,hn,.name x h1,_,Z',trivial,⟨Z',_,_,pl,nl,pn,nm,Z',hp,hn,.mL ns h2 h3,_,Z',trivial,?_⟩⟩;exact⟨o9 Z',o9 Z',Xe⟩
 | always x y=>obtain⟨h1,h2,h3⟩:=ok;refine⟨_,Z',_,Z',?_⟩;refine⟨Z',_,_,pl,nl,pn,nm,Z',hp,hn,.name x h1,_,Z',trivial,⟨Z',_,_,pl,nl,pn,nm,Z',hp,hn,.name y h2,_,Z',trivial,?_⟩⟩;refine⟨o9 Z',⟨_,by rw[ne h3],?_⟩⟩;exact⟨o9 Z',Xe⟩
 | night x y f l=>obtain⟨h1,h2,h3,h4,h5,h6⟩:=ok;refine⟨_,Z',_,Z',?_⟩;refine⟨Z',_,_,pl,nl,pn,nm,Z',hp,hn,.name x h1,_,Z',trivial,⟨Z',_,_,pl,nl,pn,nm,Z',hp,hn,.name y h2,_,Z',trivial,⟨Z',_,_,pl,nl,pn,nm,Z',hp,hn,.hour f h4.1 h4.2,_,Z',trivial,⟨Z',_,_,pl,nl,pn,nm,Z',hp,hn,.hour l h5.1 h5.2,_,Z',trivial,?_⟩⟩⟩⟩;refine⟨o9 Z',⟨_,by rw[ne h3],?_⟩⟩;refine⟨o9 Z',⟨_,by rw[nei h6],?_⟩⟩;exact Xe
 | busy x y=>obtain⟨h1,h2,h3⟩:=ok;refine⟨_,Z',_,Z',?_⟩;refine⟨Z',_,_,pl,nl,pn,nm,Z',hp,hn,.name x h1,_,Z',trivial,⟨Z',_,_,pl,nl,pn,nm,Z',hp,hn,.name y h2,_,Z',trivial,?_⟩⟩;refine⟨o9 Z',⟨_,by rw[ne h3],?_⟩⟩;exact⟨o9 Z',Xe⟩
 | silent x y n=>obtain⟨h1,h2,h3,h4,h5⟩:=ok;refine⟨_,Z',_,Z',?_⟩;refine⟨Z',_,_,pl,nl,pn,nm,Z',hp,hn,.name x h1,_,Z',trivial,⟨Z',_,_,pl,nl,pn,nm,Z',hp,hn,.name y h2,_,Z',trivial,⟨Z',_,_,pl,nl,pn,nm,Z',hp,hn,.turns n h4 h5,_,Z',trivial,?_⟩⟩⟩;refine⟨o9 Z',⟨_,by rw[ne h3],?_⟩⟩;exact⟨o9 Z',Xe⟩
 | wait x=>refine⟨_,Z',_,Z',?_⟩;refine⟨Z',_,_,pl,nl,pn,nm,Z',hp,hn,.ng x ok,_,Z',trivial,?_⟩;exact⟨o9 Z',o9 Z',Xe⟩
 | breaks x=>refine⟨_,Z',_,Z',?_⟩;refine⟨Z',_,_,pl,nl,pn,nm,Z',hp,hn,.ng x ok,_,Z',trivial,?_⟩;exact⟨o9 Z',o9 Z',Xe⟩
def AZ:Fq P w K mg base 5 a.bl AS:=by
 refine fq G.bl.toDG uZ (λr u=>⟨_,(pj (pM (pI (sS G) r G.m (rN (qm u (pR qw Z' G.g qv (qe v0)) (sJ Z' G.cT)) pA)))
 (pk (sN eK Z' (qB v0) (uX (n:=2) Z' (qE (rg 3 uZ) (qE (rg 4 uZ) ub)))
 (pk (pM (pI (Do G) r G.bk (rj v4 U1 U2))))))),?_⟩)
 rintro ds M Q ⟨r,ws,pl,nl,pn,nm,rfl,XX,hp,hn,h16,mT,q⟩
 have el:((ws.map ug).length:Int)=ws.length:=by rw[cZ]
 refine i' XX ⟨_,by rw[d6 (show((ws.map ug).length:Int)<=16 by omega)],i' XX ?_⟩;refine Bx (λU M'=>M=M'/\∃x y,U=[Fa (.ref r),Fa (.ref pl),Fa (.ref nl),x,y]) (λU M' j=>by rw[<-j.1];exact XX) _ _ _ ⟨Z',Db,Db,Z'⟩ ?_ ?_
 .rintro d hd U M' ⟨rfl,x,y,rfl⟩ nx Xh
  obtain⟨v,hv,rfl⟩:=dJ.mp hd;exact⟨Z',⟨v.2,pl,nl,pn,nm,Z',hp,hn,mT v hv,Xh _ _ ⟨Z',_,_,Z'⟩⟩⟩
 .rintro U M' ⟨rfl,x,y,rfl⟩
  exact⟨M,.refl,q⟩
structure pG where
 mL:List uO
 groups:List ur
 mJ:List vd
noncomputable def pG.pn(l:pG):QQQ:=l.mL.map (·.1)
noncomputable def pG.gn(l:pG):QQQ:=l.groups.map (·.1)
noncomputable def pG.nm(l:pG):QQQ:=l.pn++l.gn
structure rm(l:pG):Prop where
 p1:1<=l.mL.length
 p8:l.mL.length<=8
 po:∀p∈l.mL,EY p
 g3:l.groups.length<=3
 go:∀g∈l.groups,EH l.pn g
 nd:l.nm.Nodup
 w16:l.mJ.length<=16
 wo:∀w∈l.mJ,Cy l.pn l.nm w.2
def DN{ss:QQQ}(h:ss.Nodup):xk ss=pc:=by unfold xk;rw[HJ ss h];simp
def Dd:rk:=λds M Q=>Af λr1 r2 r3 (l:pG)=>ds=[.ref r1,.ref r2,.ref r3]/\oj M r1=Fa (l.mL.map qK)/\oj M r2=Fa (l.groups.map qP)/\oj M r3=Fa (l.mJ.map ug)/\rm l/\Q .mP M
noncomputable def A9:D->D
 | .tup (x::_)=>x
 | _=>.mP
def wR(ps:List uO):(ps.map qK).map A9=(ps.map (·.1)).map D.str:=by rw[eG,eG];rfl
def wW(ps:List ur):(ps.map qP).map A9=(ps.map (·.1)).map D.str:=by rw[eG,eG];rfl
def C0:Fq P w K mg base 6 a.bm Dd:=by
 refine fq G.bm.toDG wu (λr u=>⟨_,(pj (pM (pI (A5 G) r G.bh (qe v0)))
 (pj (xb (i:=3) wu.nd Z' (Or.inl Z') Z' (yb (ix:=[Db]) (N':=["phone"])) (qB v0) (qG 0) rT (pJ v0 pz))
 (pj (pM (pI (Bd G) r G.bi (rN U1 U3)))
 (pj (pL 4 wu (pU U3 (qF Z' (yb (ix:=[Db]) (N':=["group"])) (qB U1) (qG 0) rT (pJ v0 pz))))
 (pj (pM (pI (sS G) r G.m (rN (pI (D0 G) r G.af (qe v4)) pA)))
 (pk (pM (pI (AZ G) r G.bl (rj U2 U3 v4))))))))),?_⟩)
 rintro ds M Q ⟨r1,r2,r3,l,rfl,h1,h2,h3,ok,q⟩
 have hz:=dS;have l1:=ok.p8;have l2:=ok.g3;refine⟨r1,l.mL,Z',h1,ok.p1,ok.p8,ok.po,i' h1 ?_⟩;refine qW (f:=A9) h1 _ [] _ (by rw[cZ];simp only[dR];omega) (λd hd k hk=>?_) λp hp=>?_
 .obtain⟨x,_,rfl⟩:=dJ.mp hd;exact hk
 rw[eB,wR];have s1:=qp.new (c:=.lst ((l.mL.map (·.1)).map D.str)) hp;have lp:oj (pE M p (.lst ((l.mL.map (·.1)).map D.str))) p=Fa (l.pn.map D.str):=pD;generalize pE M p (.lst ((l.mL.map (·.1)).map D.str))=M1 at s1 lp ⊢;refine⟨r2,l.groups,p,l.pn,Z',s1.lst h2,lp,ok.g3,ok.go,?_⟩;refine i' (s1.lst h2) (qW (f:=A9) (s1.lst h2) _ [] _ (by rw[cZ];simp only[dR];omega) (λd hd k hk=>?_) λp2 Xm=>?_)
 .obtain⟨x,_,rfl⟩:=dJ.mp hd;exact hk
 rw[eB,wW];have s2:=qp.new (c:=.lst ((l.groups.map (·.1)).map D.str)) Xm;refine i' (s2.lst lp) (i' pD ⟨?_,λp3 hp3=>?_⟩)
 .rw[cZ,cZ,cZ];show(l.mL.map (·.1)).length+_<=_;rw[cZ];omega
 have en:l.pn.map D.str++(l.groups.map (·.1)).map D.str=l.nm.map D.str:=by unfold pG.nm;rw[dQ];rfl
 rw[en];have s3:=s2.trans (qp.new (c:=.lst (l.nm.map D.str)) hp3);have l3:=@pD (pE M1 p2 (.lst ((l.groups.map (·.1)).map D.str))) p3 (l.nm.map D.str);generalize pE (pE M1 p2 (.lst ((l.groups.map (·.1)).map D.str))) p3 (.lst (l.nm.map D.str))=M3 at s3 l3 ⊢;have ln:l.nm.length<4000:=by unfold pG.nm pG.pn pG.gn;rw[df,cZ,cZ];omega
 refine⟨_,l.nm,Z',.inr ⟨p3,Z',l3⟩,ln,_,by rw[DN ok.nd],?_⟩;exact⟨r3,l.mJ,p,p3,l.pn,l.nm,Z',s3.lst (s1.lst h3),s3.lst lp,l3,ok.w16,ok.wo,M,s1.trans s3,q⟩
noncomputable def QQ(ph gr ws on pr gd:Ch):T0 (Str×D):=[("phones",.ref ph),("groups",.ref gr),("wishes",.ref ws),("on",.ref on),("phone_rows",.ref pr),("group_rows",.ref gd)]
def Te(l:pG):T0 (rq×D):=l.mL.map λp=>(Sum.inr p.1,qK p)
def Iy(l:pG):T0 (rq×D):=l.groups.map λg=>(Sum.inr g.1,qP g)
def sO(a:Ad)(M:Mp)(rs:QXQ)(ws:List vd):Prop:=rs.length=ws.length/\∀(i:Nat) (r:Ch) (v:vd),rs[i]?=Fa r->ws[i]?=Fa v->M r=Fa (.ins (v.2.cls a) v.2.nF)
def sI(a:Ad)(M:Mp)(p:Ch)(l:pG):Prop:=Tq λph gr ws on pr gd (rs:QXQ)=>M p=Fa (.ins a.h (QQ ph gr ws on pr gd))/\oj M ph=Fa (l.mL.map qK)/\oj M gr=Fa (l.groups.map qP)/\
 oj M ws=Fa (rs.map D.ref)/\oj M on=Fa (l.mJ.map λw=>D.bl w.1)/\zP M pr=Fa (Te l)/\zP M gd=Fa (Iy l)/\sO a M rs l.mJ
def sO.keep{p:Ch}(h:sO a M rs ws)(k:rZ p M M')(n:∀r∈rs,r≠p):sO a M' rs ws:=⟨h.1,λi r v e1 e2=>k r _ (n r (fU e1)) (h.2 i r v e1 e2)⟩
def sO.sub(h:sO a M rs ws)(k:qp M M'):sO a M' rs ws:=⟨h.1,λi r v e1 e2=>k r _ (h.2 i r v e1 e2)⟩
def sI.sub{p:Ch}(h:sI a M p l)(s:qp M M'):sI a M' p l:=by obtain⟨ph,gr,ws,on,pr,gd,rs,h1,h2,h3,h4,h5,h6,h7,h8⟩:=h;exact⟨ph,gr,ws,on,pr,gd,rs,s _ _ h1,s.lst h2,s.lst h3,s.lst h4,s.lst h5,s.dk h6,s.dk h7,h8.sub s⟩
def OA(a:Ad):rk:=λds M Q=>FQ λp r1 r2 r3 (l:pG)=>ds=[.ref p,.ref r1,.ref r2,.ref r3]/\M p=Fa (.ins a.h [])/\oj M r1=Fa (l.mL.map qK)/\oj M r2=Fa (l.groups.map qP)/\oj M r3=Fa (l.mJ.map ug)/\rm l/\
 ∀M',rZ p M M'->sI a M' p l->(∀Xf,(∀b c,(b=p\/M b=Db)->M' b=Fa c->Xf b=Fa c)->sI a Xf p l)->Q .mP M'
def rK{p x:Ch}{c:uY}(k:rZ p M N)(hp:N p=Fa c)(h:N x=Db):M x=Db:=by
 cases e:M x with
 | none=>rfl
 | some d=>
  have n:x≠p:=λz=>by rw[z,hp]at h;cases h
  rw[k x d n e]at h;cases h
def zC{a:Ch}{es:T0 (rq×D)}(h:zP M a=Fa es):M a=Fa (.dk es):=by
 unfold zP at h;split at h
 .rename_i e;rw[e];cases h;rfl
 .cases h
theorem xj{α:Type}(f:α->Str)(g:α->D):∀l:List α,wO (l.map λx=>D.tup [.str (f x),g x])=Fa (l.map λx=>(Sum.inr (f x),g x))
 | []=>rfl
 | x::r=>by show(wO (r.map λx=>D.tup [.str (f x),g x])).map ((Sum.inr (f x),g x)::·)=_;rw[xj f g r];rfl
def Ku{ss:QQQ}(h:ss.Nodup):(ss.map λx=>(Sum.inr x:rq)).Nodup:=by
 induction ss with
 | nil=>exact eO
 | cons x r ih=>obtain⟨h1,h2⟩:=dZ.mp h;rw[d9];refine dZ.mpr ⟨λz=>h1 ?_,ih h2⟩;obtain⟨y,hy,e⟩:=dJ.mp z;cases e;exact hy
def y8{α:Type}{f:α->Str}{g:α->D}{l:List α}(h:(l.map f).Nodup):((l.map λx=>((Sum.inr (f x):rq),g x)).map (·.1)).Nodup:=by rw[eG];have:=Ku h;rw[eG]at this;exact this
def Bp(d:D):D:=.tup [A9 d,d]
noncomputable def WR:D->D
 | .tup (x::_)=>x
 | _=>.mP
def RN(ws:List vd):(ws.map ug).map WR=ws.map λw=>D.bl w.1:=by rw[eG];rfl
def GB(ps:List uO):(ps.map qK).map Bp=ps.map λp=>D.tup [.str p.1,qK p]:=by rw[eG];rfl
def FW(ps:List ur):(ps.map qP).map Bp=ps.map λp=>D.tup [.str p.1,qP p]:=by rw[eG];rfl
def sO.snoc{r:Ch}{v:vd}(h:sO a M rs ws)(n:M r=Db):sO a (pE M r (.ins (v.2.cls a) v.2.nF)) (rs++[r]) (ws++[v]):=by
 refine⟨by rw[df,df,h.1];rfl,λi r' v' e1 e2=>?_⟩;by_cases hi:i<rs.length
 .rw[fk hi]at e1;rw[fk (by rw[<-h.1];exact hi)]at e2;have:=h.2 i r' v' e1 e2;rw[uo (Tc this n)];exact this
 .have Zg:i=rs.length:=by have:=(de.mp e1).1;rw[df,dM]at this;omega
  subst Zg;rw[fi (dB _)]at e1;rw[h.1,fi (dB _)]at e2;simp only[ie,iJ,jy]at e1 e2;subst e1 e2;exact pS
def Qn:Fq P w K mg base 7 a.al (OA a):=by
 refine fq G.al.toDG EB (λr u=>⟨_,(pj (pM (pI (C0 G) r G.bm (rj U1 U2 U3)))
 (pj (pZ v0 (qg sv Z' G.q rX (qe U1)))
 (pj (pZ v0 (qg sv Z' G.q rX (qe U2)))
 (pj (pZ v0 (qF Z' (yb (ix:=[Db,Db]) (N':=["on","wish"])) (qB U3) (uX (n:=2) Z' (qE (qG 0) (qE (qG 1) ub))) rT (pI (HZ G) r G.bg (qe U1))))
 (pj (pZ v0 (qF Z' (yb (ix:=[Db,Db]) (N':=["on","wish"])) (qB U3) (uX (n:=2) Z' (qE (qG 0) (qE (qG 1) ub))) rT v0))
 (pj (pZ v0 (qg (ER Z') Z' G.bZ Fc (qe (qF Z' (yb (ix:=[Db]) (N':=["phone"])) (qB U1) (qG 0) rT (pN (rN (pJ v0 pz) v0))))))
 (pk (pZ v0 (qg (ER Z') Z' G.bZ Fc (qe (qF Z' (yb (ix:=[Db]) (N':=["group"])) (qB U2) (qG 0) rT (pN (rN (pJ v0 pz) v0))))))))))))),?_⟩)
 rintro ds M Q ⟨p,r1,r2,r3,l,rfl,hp,h1,h2,h3,ok,q⟩
 have hz:=dS;have l1:=ok.p8;have l2:=ok.g3;have l3:=ok.w16;refine⟨r1,r2,r3,l,Z',h1,h2,h3,ok,?_⟩;refine i' h1 λph hph=>?_;obtain⟨n1,e1,k1,c1,p1⟩:=tw (fs':=[("phones",.ref ph)]) (c:=.lst (l.mL.map qK)) hp hph;refine pq e1 ⟨(G.Z "phones" Z'),by show 0<1000;decide,?_⟩;show uk _ _ _ _ (pE (pE M ph (.lst (l.mL.map qK))) p (.ins a.h [("phones",.ref ph)]));generalize pE (pE M ph (.lst (l.mL.map qK))) p (.ins a.h [("phones",.ref ph)])=N1 at k1 c1 p1 ⊢;have XW:=k1.lst (pT h1 hp) h1;have h2':=k1.lst (pT h2 hp) h2;have ZT:=k1.lst (pT h3 hp) h3;have f1:oj N1 ph=Fa (l.mL.map qK):=sQ c1;refine i' h2' λgr hgr=>?_;obtain⟨n2,e2,k2,c2,p2⟩:=tw (fs':=[("phones",.ref ph),("groups",.ref gr)]) (c:=.lst (l.groups.map qP)) p1 hgr;refine pq e2 ⟨(G.Z "groups" Z'),by show 1<1000;decide,?_⟩;show uk _ _ _ _ (pE (pE N1 gr (.lst (l.groups.map qP))) p (.ins a.h [("phones",.ref ph),("groups",.ref gr)]));generalize pE (pE N1 gr (.lst (l.groups.map qP))) p (.ins a.h [("phones",.ref ph),("groups",.ref gr)])=N2 at k2 c2 p2 ⊢;have g1:=k2.lst (pT XW p1) XW;have g2:=k2.lst (pT h2' p1) h2';have g3:=k2.lst (pT ZT p1) ZT;have f2:=k2.lst (pT f1 p1) f1;have f3:oj N2 gr=Fa (l.groups.map qP):=sQ c2;have kk2:=k1.trans k2;have m2:M gr=Db:=rK k1 p1 hgr;clear XW h2' ZT f1 c1 c2 k1 k2 e1 e2;refine i' g3 ?_;refine FN (l.mJ.map ug) (λpre acc U Mx=>(∃x y,U=[x,y])/\qp N2 Mx/\∃rs:QXQ,acc=rs.map D.ref/\(∀r∈rs,N2 r=Db)/\sO a Mx rs (l.mJ.take pre.length)) (λpre acc U Mx j=>j.2.1.lst g3) _ [] [] _ _ Z' (by rw[cZ];simp only[dR];omega) ⟨⟨Db,Db,Z'⟩,.refl,[],Z',λr hr=>absurd hr (dH),Z',λi r v e=>by simp at e⟩ ?_ ?_
 .rintro pre d post e acc U Mx ⟨⟨x,y,rfl⟩,sx,rs,rfl,fr,wa⟩ k hk
  obtain⟨v,hv,rfl⟩:∃v,l.mJ[pre.length]?=Fa v/\d=ug v:=by
   have:(l.mJ.map ug)[pre.length]?=Fa d:=by rw[<-e];simp
   rw[dG]at this;cases z:l.mJ[pre.length]? with
   | none=>rw[z]at this;cases this
   | some v=>rw[z]at this;exact⟨v,Z',(dA this).symm⟩
  refine⟨Z',⟨v.2,Z',λr hr=>hk _ _ _ ⟨⟨_,_,Z'⟩,sx.trans (.new hr),rs++[r],?_,λr' hr'=>?_,?_⟩⟩⟩
  .rw[dQ];rfl
  .rcases dX.mp hr' with z|z
   .exact fr r' z
   .rw[dv.mp z];exact sx.none hr
  .rw[df,dM,gy,hv];exact wa.snoc hr
 rintro acc U Mx ⟨⟨x,y,rfl⟩,sx,rs,rfl,fr,wa⟩ ws hws
 have wa:sO a Mx rs l.mJ:=by rw[cZ,e9]at wa;exact wa
 obtain⟨n3,e3,k3,c3,p3⟩:=tw (fs':=[("phones",.ref ph),("groups",.ref gr),("wishes",.ref ws)]) (c:=.lst (rs.map D.ref)) (sx _ _ p2) hws;refine pq e3 ⟨(G.Z "wishes" Z'),by show 2<1000;decide,?_⟩;show uk _ _ _ _ (pE (pE Mx ws (.lst (rs.map D.ref))) p (.ins a.h [("phones",.ref ph),("groups",.ref gr),("wishes",.ref ws)]));generalize pE (pE Mx ws (.lst (rs.map D.ref))) p (.ins a.h [("phones",.ref ph),("groups",.ref gr),("wishes",.ref ws)])=N3 at k3 c3 p3 ⊢;have px:=sx _ _ p2;have i1:=k3.lst (pT (sx.lst g1) px) (sx.lst g1);have i2:=k3.lst (pT (sx.lst g2) px) (sx.lst g2);have i3:=k3.lst (pT (sx.lst g3) px) (sx.lst g3);have f4:=k3.lst (pT (sx.lst f2) px) (sx.lst f2);have f5:=k3.lst (pT (sx.lst f3) px) (sx.lst f3);have f6:oj N3 ws=Fa (rs.map D.ref):=sQ c3;have rp:∀r∈rs,r≠p:=λr hr z=>by have:=fr r hr;rw[z,p2]at this;cases this
 have w3:=wa.keep k3 rp;have kk3:=(kk2.trans sx.keep).trans k3;have m3:M ws=Db:=rK (kk2.trans sx.keep) px hws;have mr:∀r∈rs,M r=Db:=λr hr=>rK kk2 p2 (fr r hr);clear g1 g2 g3 f2 f3 c3 k3 e3 wa px kk2;refine i' i3 (Cg (f:=WR) (λU=>∃x y,U=[x,y]) i3 _ [] _ ⟨Db,Db,Z'⟩ (by rw[cZ];simp only[dR];omega) (λd hd U hj k hk=>?_) λon hon=>?_)
 .obtain⟨x,y,rfl⟩:=hj;obtain⟨v,_,rfl⟩:=dJ.mp hd;exact⟨Z',hk _ ⟨_,_,Z'⟩⟩
 rw[eB,RN];obtain⟨n4,e4,k4,c4,p4⟩:=tw (fs':=[("phones",.ref ph),("groups",.ref gr),("wishes",.ref ws),("on",.ref on)]) (c:=.lst (l.mJ.map λw=>D.bl w.1)) p3 hon;refine pq e4 ⟨(G.Z "on" Z'),by show 3<1000;decide,?_⟩;show uk _ _ _ _ (pE (pE N3 on (.lst (l.mJ.map λw=>D.bl w.1))) p (.ins a.h [("phones",.ref ph),("groups",.ref gr),("wishes",.ref ws),("on",.ref on)]));generalize pE (pE N3 on (.lst (l.mJ.map λw=>D.bl w.1))) p (.ins a.h [("phones",.ref ph),("groups",.ref gr),("wishes",.ref ws),("on",.ref on)])=N4 at k4 c4 p4 ⊢;have j1:=k4.lst (pT i1 p3) i1;have j2:=k4.lst (pT i2 p3) i2;have f7:=k4.lst (pT f4 p3) f4;have f8:=k4.lst (pT f5 p3) f5;have f9:=k4.lst (pT f6 p3) f6;have fa:oj N4 on=Fa (l.mJ.map λw=>D.bl w.1):=sQ c4;have w4:=w3.keep k4 rp;have Zk:=kk3.trans k4;have m4:M on=Db:=rK kk3 p3 hon;clear i1 i2 i3 f4 f5 f6 c4 k4 e4 w3 kk3;refine i' j1 (qW (f:=Bp) j1 _ [] _ (by rw[cZ];simp only[dR];omega) (λd hd k hk=>?_) λq1 X8=>?_)
 .obtain⟨v,_,rfl⟩:=dJ.mp hd;exact⟨o9 Z',hk⟩
 rw[eB,GB];have ZU:=qp.new (c:=.lst (l.mL.map λp=>D.tup [.str p.1,qK p])) X8;refine i' pD (i' (xj (λp:uO=>p.1) qK l.mL) ⟨y8 (iG (List.sublist_append_left _ _) ok.nd),λpr hpr=>?_⟩);obtain⟨n5,e5,k5,c5,p5⟩:=tw (fs':=[("phones",.ref ph),("groups",.ref gr),("wishes",.ref ws),("on",.ref on),("phone_rows",.ref pr)]) (c:=.dk (l.mL.map λx=>(Sum.inr x.1,qK x))) (ZU _ _ p4) hpr;refine pq e5 ⟨(G.Z "phone_rows" Z'),by show 4<1000;decide,?_⟩;have k5:=ZU.keep.trans k5;have Y9:wc "phone_rows" (.ref pr) [("phones",.ref ph),("groups",.ref gr),("wishes",.ref ws),("on",.ref on)]=([("phones",.ref ph),("groups",.ref gr),("wishes",.ref ws),("on",.ref on),("phone_rows",.ref pr)]:T0 (Str×D)):=rfl;rw[Y9];generalize pE (pE (pE N4 q1 (.lst (l.mL.map λp=>D.tup [.str p.1,qK p]))) pr (.dk (l.mL.map λx=>(Sum.inr x.1,qK x)))) p (.ins a.h [("phones",.ref ph),("groups",.ref gr),("wishes",.ref ws),("on",.ref on),("phone_rows",.ref pr)])=N5 at k5 c5 p5 ⊢;have mm:=k5.lst (pT j2 p4) j2;have fb:=k5.lst (pT f7 p4) f7;have fc:=k5.lst (pT f8 p4) f8;have fd:=k5.lst (pT f9 p4) f9;have fe:=k5.lst (pT fa p4) fa;have ff:zP N5 pr=Fa (Te l):=D8 c5;have w5:=w4.keep k5 rp;have Zl:=Zk.trans k5;have m5:M pr=Db:=rK (Zk.trans ZU.keep) (ZU _ _ p4) hpr;clear j1 j2 f7 f8 f9 fa c5 k5 e5 w4 Zk;refine i' mm (qW (f:=Bp) mm _ [] _ (by rw[cZ];simp only[dR];omega) (λd hd k hk=>?_) λq2 YS=>?_)
 .obtain⟨v,_,rfl⟩:=dJ.mp hd;exact⟨o9 Z',hk⟩
 rw[eB,FW];have sq2:=qp.new (c:=.lst (l.groups.map λg=>D.tup [.str g.1,qP g])) YS;refine i' pD (i' (xj (λp:ur=>p.1) qP l.groups) ⟨y8 (iG (jE _ _) ok.nd),λgd hgd=>?_⟩);obtain⟨n6,e6,k6,c6,p6⟩:=tw (fs':=QQ ph gr ws on pr gd) (c:=.dk (Iy l)) (sq2 _ _ p5) hgd;have k6:=sq2.keep.trans k6;refine pq e6 ⟨(G.Z "group_rows" Z'),by show 5<1000;decide,_,.refl,?_⟩;have m6:M gd=Db:=rK (Zl.trans sq2.keep) (sq2 _ _ p5) hgd;have w6:=w5.keep k6 rp;have y1:=k6.lst (pT fb p5) fb;have y2:=k6.lst (pT fc p5) fc;have y3:=k6.lst (pT fd p5) fd;have y4:=k6.lst (pT fe p5) fe;have y5:=k6.dk (Ca ff p5) ff;refine q _ (Zl.trans k6) ⟨ph,gr,ws,on,pr,gd,rs,p6,y1,y2,y3,y4,y5,D8 c6,w6⟩ λXf hs=>?_;exact⟨ph,gr,ws,on,pr,gd,rs,hs _ _ (.inl Z') p6,sQ (hs _ _ (.inr hph) (qh y1)),sQ (hs _ _ (.inr m2) (qh y2)),sQ (hs _ _ (.inr m3) (qh y3)),sQ (hs _ _ (.inr m4) (qh y4)),D8 (hs _ _ (.inr m5) (zC y5)),D8 (hs _ _ (.inr m6) c6),w6.1,λi r v e1 e2=>hs _ _ (.inr (mr r (fU e1))) (w6.2 i r v e1 e2)⟩
theorem yi{α:Type}(f:α->Str)(g:α->D)(k:Str):∀l:List α,vI (l.map λx=>((Sum.inr (f x):rq),g x)) (Sum.inr k)=(l.find? λx=>decide (f x=k)).map g
 | []=>rfl
 | x::r=>by
  have ih:=yi f g k r;unfold vI at ih ⊢;rw[d9,fR,fR];by_cases h:f x=k
  .have h':decide ((Sum.inr (f x):rq)=Sum.inr k)=pc:=d6 (by rw[h]);simp[h]
  .have h':¬(Sum.inr (f x):rq)=Sum.inr k:=λz=>h (j8 z);simp only[h,h',decide_false];exact ih
noncomputable def pG.ng(l:pG)(x:Str):Option uO:=l.mL.find? λp=>decide (p.1=x)
noncomputable def pG.group(l:pG)(x:Str):Option ur:=l.groups.find? λg=>decide (g.1=x)
noncomputable def pG.mI(l:pG)(x:Str):QQQ:=(l.group x).elim [x] λg=>g.2.2
noncomputable def pG.mS(l:pG)(x:Str):Str:=(l.group x).elim "one" λg=>g.2.1
def Gh(l:pG)(x:Str):vI (Te l) (Sum.inr x)=(l.ng x).map qK:=yi (λp:uO=>p.1) qK x l.mL
def wJ(l:pG)(x:Str):vI (Iy l) (Sum.inr x)=(l.group x).map qP:=yi (λp:ur=>p.1) qP x l.groups
def y0(a:Ad):rk:=λds M Q=>C4 λp (l:pG)=>ds=[.ref p]/\sI a M p l/\l.mL.length<=100/\∀q,M q=Db->Q (.ref q) (pE M q (.lst (l.pn.map D.str)))
def EU(a:Ad):rk:=λds M Q=>C4 λp (l:pG)=>ds=[.ref p]/\sI a M p l/\l.mL.length<=100/\l.groups.length<=100/\∀q,M q=Db->Q (.ref q) (pE M q (.lst (l.nm.map D.str)))
def Ej(a:Ad):rk:=λds M Q=>Af λp x v (l:pG)=>ds=[.ref p,.str x]/\sI a M p l/\l.ng x=Fa v/\Q (.int v.2.1) M
def FT(a:Ad):rk:=λds M Q=>Af λp x v (l:pG)=>ds=[.ref p,.str x]/\sI a M p l/\l.ng x=Fa v/\Q (.int v.2.2) M
def zW(a:Ad):rk:=λds M Q=>C9 λp x (l:pG)=>ds=[.ref p,.str x]/\sI a M p l/\∀q,M q=Db->Q (.ref q) (pE M q (.lst ((l.mI x).map D.str)))
def CW(a:Ad):rk:=λds M Q=>C9 λp x (l:pG)=>ds=[.ref p,.str x]/\sI a M p l/\Q (.str (l.mS x)) M
def sF:Fq P w K mg base 1 a.L (y0 a):=by
 refine fq G.L.toDG yt (λr u=>⟨_,(pk (pC (qF Z' (yb (ix:=[Db]) (N':=["phone"])) (qB (pF v0)) (qG 0) rT (pJ v0 pz)))),?_⟩)
 rintro ds M Q ⟨p,l,rfl,hp,hl,q⟩
 have hz:=dS;obtain⟨ph,gr,ws,on,pr,gd,rs,h1,h2,h3,h4,h5,h6,h7,h8⟩:=hp;refine pq h1 (i' Z' (i' h2 ?_));refine qW (f:=A9) h2 _ [] _ (by rw[cZ];simp only[dR];omega) (λd hd k hk=>?_) λq1 X8=>?_
 .obtain⟨x,_,rfl⟩:=dJ.mp hd;exact hk
 rw[eB,wR];exact⟨_,.refl,q q1 X8⟩
def yy:Fq P w K mg base 2 a.am (EU a):=by
 refine fq G.am.toDG Dk (λr u=>⟨_,(pk (pC (pU (vX v0 G.h.toCls G.L (sF G) r) (qF Z' (yb (ix:=[Db]) (N':=["group"])) (qB (pF v0)) (qG 0) rT (pJ v0 pz))))),?_⟩)
 rintro ds M Q ⟨p,l,rfl,hp,hl,hl2,q⟩
 have hz:=dS;have Xp:=hp;obtain⟨ph,gr,ws,on,pr,gd,rs,h1,h2,h3,h4,h5,h6,h7,h8⟩:=hp;refine pq h1 ⟨Z',_,⟨Z',Z'⟩,p,l,Z',Xp,hl,λq1 X8=>?_⟩;have s1:=qp.new (c:=.lst (l.pn.map D.str)) X8;have e1:=@pD M q1 (l.pn.map D.str);generalize pE M q1 (.lst (l.pn.map D.str))=M1 at s1 e1 ⊢;have ZT:=s1.lst h3;refine pq (s1 _ _ h1) (i' Z' (i' ZT ?_));refine qW (f:=A9) ZT _ [] _ (by rw[cZ];simp only[dR];omega) (λd hd k hk=>?_) λq2 YS=>?_
 .obtain⟨x,_,rfl⟩:=dJ.mp hd;exact hk
 rw[eB,wW];have s2:=qp.new (c:=.lst ((l.groups.map (·.1)).map D.str)) YS;refine i' (s2.lst e1) (i' pD ⟨?_,λq3 hq3=>?_⟩)
 .rw[cZ,cZ,cZ];show(l.mL.map (·.1)).length+_<=_;rw[cZ];omega
 have en:l.pn.map D.str++(l.groups.map (·.1)).map D.str=l.nm.map D.str:=by unfold pG.nm;rw[dQ];rfl
 rw[en];exact⟨_,(s1.trans s2).upd,q q3 ((s1.trans s2).none hq3)⟩
def C1:Fq P w K mg base 1 a.bK (Ej a):=by
 refine fq G.bK.toDG Df (λr u=>⟨_,(pk (pC (pJ (zy u (pF v0) U1) pz))),?_⟩)
 rintro ds M Q ⟨p,x,v,l,rfl,hp,hv,q⟩
 obtain⟨ph,gr,ws,on,pr,gd,rs,h1,h2,h3,h4,h5,h6,h7,h8⟩:=hp;exact pq h1 (i' Z' (i' Z' (i' h6 (i' (x:=qK v) (by rw[Gh,hv];rfl) ⟨M,.refl,q⟩))))
def zh:Fq P w K mg base 1 a.aO (FT a):=by
 refine fq G.aO.toDG E9 (λr u=>⟨_,(pk (pC (pJ (zy u (pF v0) U1) pz))),?_⟩)
 rintro ds M Q ⟨p,x,v,l,rfl,hp,hv,q⟩
 obtain⟨ph,gr,ws,on,pr,gd,rs,h1,h2,h3,h4,h5,h6,h7,h8⟩:=hp;exact pq h1 (i' Z' (i' Z' (i' h6 (i' (x:=qK v) (by rw[Gh,hv];rfl) ⟨M,.refl,q⟩))))
def ul:Fq P w K mg base 1 a.X (zW a):=by
 refine fq G.X.toDG zx (λr u=>⟨_,(pj (pP (Nn u U1 (pF v0))
 (pk (pC (qg sv Z' G.q rX (qe (pJ (zy u (pF v0) U1) pz)))))
 pK)
 (pk (pC (qQ (qe U1))))),?_⟩)
 rintro ds M Q ⟨p,x,l,rfl,hp,q⟩
 obtain⟨ph,gr,ws,on,pr,gd,rs,h1,h2,h3,h4,h5,h6,h7,h8⟩:=hp;refine pq h1 (i' Z' (i' h7 ?_));cases e:l.group x with
 | none=>refine Mt (c:=(vI (Iy l) (Sum.inr x)).isSome) (by rw[wJ,e];rfl) ⟨o9 Z',λq1 X8=>⟨_,.refl,?_⟩⟩;have:=q q1 X8;unfold pG.mI at this;rw[e]at this;exact this
 | some g=>refine Ba (c:=(vI (Iy l) (Sum.inr x)).isSome) (by rw[wJ,e];rfl) (pq h1 (i' Z' (i' Z' (i' h7 (i' (x:=qP g) (by rw[wJ,e];rfl) λq1 X8=>⟨_,.refl,?_⟩)))));have:=q q1 X8;unfold pG.mI at this;rw[e]at this;exact this
def xR:Fq P w K mg base 1 a.aM (CW a):=by
 refine fq G.aM.toDG B5 (λr u=>⟨_,(pj (pP (Nn u U1 (pF v0))
 (pk (pC (pJ (zy u (pF v0) U1) pz)))
 pK)
 (pk (pC pA))),?_⟩)
 rintro ds M Q ⟨p,x,l,rfl,hp,q⟩
 obtain⟨ph,gr,ws,on,pr,gd,rs,h1,h2,h3,h4,h5,h6,h7,h8⟩:=hp;refine pq h1 (i' Z' (i' h7 ?_));cases e:l.group x with
 | none=>refine Mt (c:=(vI (Iy l) (Sum.inr x)).isSome) (by rw[wJ,e];rfl) ⟨M,.refl,?_⟩;unfold pG.mS at q;rw[e]at q;exact q
 | some g=>refine Ba (c:=(vI (Iy l) (Sum.inr x)).isSome) (by rw[wJ,e];rfl) (pq h1 (i' Z' (i' Z' (i' h7 (i' (x:=qP g) (by rw[wJ,e];rfl) ⟨M,.refl,?_⟩)))));unfold pG.mS at q;rw[e]at q;exact q
noncomputable def O6:T0 Int:=[1,1,2,2,3]
noncomputable def QO:T0 Int:=[0,1,1,2,5,9]
noncomputable def Qu:QQQ:=["all","turns"]
noncomputable def FU(t:T0 Int)(i:Int):Int:=t.getD i.toNat 0
def wb(s:Int)(i:Nat):uO:=(xK s (0+(i:Nat)),FU O6 (qu (s+17*(0+(i:Nat))*(0+(i:Nat))) 16807 5),FU QO (qu (s+17*(0+(i:Nat))*(0+(i:Nat))) 39373 6))
def rR(s m:Int):Nat:=(2+qu s 48271 (m - 1)).toNat
def qy(s m:Int):List uO:=(List.range (rR s m)).map (wb s)
def Ab(s:Int)(own:QQQ)(i:Nat):ur:=(xK s (8+(0+(i:Nat))),B0 Qu (qu (s+5*(0+(i:Nat))) 742938285 2),vL own (s+11*(0+(i:Nat))) 4)
def vR(s:Int):Nat:=(qu s 69621 3).toNat
def qY(s:Int)(own:QQQ):List ur:=(List.range (vR s)).map (Ab s own)
def G7{ts:T0 Int}{i:Int}(h0:0<=i)(h1:i<ts.length):vM (ts.map D.int) i=Fa (D.int (FU ts i)):=by
 obtain⟨n,rfl⟩:=eI h0;have Zd:n<ts.length:=by omega
 refine uB ?_;rw[dG,dg Zd];simp[FU,Zd]
def B8{pre post:T0 D}{d:D}(e:pre++d::post=(List.range n).map λi=>D.int (0+(i:Nat))):d=.int (0+(pre.length:Nat))/\pre.length<n:=by
 have h:((List.range n).map λi=>D.int (0+(i:Nat)))[pre.length]?=Fa d:=by rw[<-e];simp
 have hl:pre.length<n:=by
  have:=(de.mp h).1
  simpa using this
 rw[dG,jb hl]at h;exact⟨(dA h).symm,hl⟩
def BB{α β:Type}(f:Nat->α)(g:α->β)(n:Nat):((List.range n).map f).map g++[g (f n)]=((List.range (n+1)).map f).map g:=by rw[j7,dQ,dQ];rfl
def Io:rk:=λds M Q=>C4 λs m=>ds=[.int s,.int m]/\2<=m/\m<=100/\∀q,M q=Db->Q (.ref q) (pE M q (.lst ((qy s m).map qK)))
def Hf:rk:=λds M Q=>C9 λs o own=>ds=[.int s,.ref o]/\oj M o=Fa (own.map D.str)/\own≠[]/\own.length<=64/\∀q,M q=Db->Q (.ref q) (pE M q (.lst ((qY s own).map qP)))
def yH{s m:Int}(h2:2<=m)(h:m<=100):rR s m<=100/\2<=rR s m:=by have d0:=ra (c:=s) (f:=48271) (m:=m - 1) (by omega);have d1:=qM (c:=s) (f:=48271) (m:=m - 1) (by omega);unfold rR;omega
def wU{s:Int}:vR s<=3:=by have d0:=ra (c:=s) (f:=69621) (m:=3) (by decide);have d1:=qM (c:=s) (f:=69621) (m:=3) (by decide);unfold vR;omega
def Ii:Fq P w K mg base 2 a.bn Io:=by
 refine fq G.bn.toDG uP (λr u=>⟨_,(pj (pL 2 uP (qQ r6))
 (pj (sN eK Z' (vm Z' G.M (qe (pU pz (pI (qH G) r G.i (rj v0 pz (pU U1 pz)))))) (rg 3 uP)
 (pj (pL 4 uP (pJ (pN (pX pz (pX pz (rj pz pz pz)))) (pI (qH G) r G.i (rj (pU v0 (pU (pU pz U3) U3)) pz pz))))
 (pk (pM (qJ U2 (qe (pN (rj (pI (JE G) r G.ag (rN v0 U3)) v4 (pJ (pN (pX pz (pX pz (pX pz (rj pz pz pz))))) (pI (qH G) r G.i (rj (pU v0 (pU (pU pz U3) U3)) pz pz)))))))))))
 (pk (pC U2)))),?_⟩)
 rintro ds M Q ⟨s,m,rfl,h2,h100,q⟩
 have hz:=dS;have d0:=ra (c:=s) (f:=48271) (m:=m - 1) (by omega);have d1:=qM (c:=s) (f:=48271) (m:=m - 1) (by omega);have nl:=(yH (s:=s) h2 h100).1;refine⟨o9 Z',λr hr=>⟨s,_,_,Z',by show 0<m - 1;omega,Z',⟨?_,?_⟩,?_⟩⟩
 .show -(2 ^ 62)<=2+qu s 48271 (m - 1);omega
 .show 2+qu s 48271 (m - 1)<2 ^ 62;omega
 refine tF ((List.range (rR s m)).map λi=>D.int (0+(i:Nat))) (λpre U M'=>M'=pE M r (.lst (((List.range pre.length).map (wb s)).map qK))/\∃x y,U=[Fa (.int s),Fa (.int m),Fa (.ref r),x,y]) (λ_ _ _ _=>trivial) _ [] _ _ Z' ⟨Z',Db,Db,Z'⟩ ?_ ?_
 .rintro pre d post e U M' ⟨rfl,x,y,rfl⟩ nx Xh
  obtain⟨rfl,Xq⟩:=B8 e;generalize hi:pre.length=i at Xq Xh ⊢;have cm:CS (17*(0+(i:Int))) (0+(i:Int)):=.inr ⟨by omega,by omega⟩;have c17:CS 17 (0+(i:Int)):=.inl ⟨by decide,by decide⟩;have t5:vM [D.int 1,.int 1,.int 2,.int 2,.int 3] (qu (s+17*(0+(i:Int))*(0+(i:Int))) 16807 5)=Fa (.int (wb s i).2.1):=G7 (ts:=O6) (ra (by decide)) (qM (by decide));have t6:vM [D.int 0,.int 1,.int 1,.int 2,.int 5,.int 9] (qu (s+17*(0+(i:Int))*(0+(i:Int))) 39373 6)=Fa (.int (wb s i).2.2):=G7 (ts:=QO) (ra (by decide)) (qM (by decide));refine⟨o9 Z',c17,cm,_,_,_,Z',by decide,i' t5 ?_⟩;refine⟨by show(oj _ r).isSome=pc;rw[pD];rfl,s,_,Z',o9 Z',c17,cm,_,_,_,Z',by decide,i' t6 ⟨o9 Z',i' pD ⟨?_,?_⟩⟩⟩
  .rw[cZ,cZ,eF];omega
  .refine Xh _ _ ⟨?_,_,_,Z'⟩;rw[rM,df,hi];show pE M r (.lst (_++[qK (wb s i)]))=_;rw[BB];rfl
 .rintro U M' ⟨rfl,x,y,rfl⟩
  refine⟨_,.refl,?_⟩;rw[cZ,eF];exact q r hr
def Hi:Fq P w K mg base 3 a.bo Hf:=by
 refine fq G.bo.toDG uQ (λr u=>⟨_,(pj (pL 2 uQ (qQ r6))
 (pj (sN eK Z' (vm Z' G.M (qe (pI (qH G) r G.i (rj v0 pz pz)))) (rg 3 uQ)
 (pj (pL 4 uQ (pJ (pN (rN pA pA)) (pI (qH G) r G.i (rj (pU v0 (pU pz U3)) pz pz))))
 (pk (pM (qJ U2 (qe (pN (rj (pI (JE G) r G.ag (rN v0 (pU pz U3))) v4 (pI (yo G) r G.R (rj U1 (pU v0 (pU pz U3)) pz))))))))))
 (pk (pC U2)))),?_⟩)
 rintro ds M Q ⟨s,o,own,rfl,ho,Xy,h64,q⟩
 have hz:=dS;have d0:=ra (c:=s) (f:=69621) (m:=3) (by decide);have d1:=qM (c:=s) (f:=69621) (m:=3) (by decide);have nl:=wU (s:=s);refine⟨o9 Z',λr hr=>⟨s,_,_,Z',by decide,Z',⟨?_,?_⟩,?_⟩⟩
 .show -(2 ^ 62)<=qu s 69621 3;omega
 .show qu s 69621 3<2 ^ 62;omega
 have nor:o≠r:=λz=>by rw[z]at ho;unfold oj at ho;rw[hr]at ho;cases ho
 refine tF ((List.range (vR s)).map λi=>D.int (0+(i:Nat))) (λpre U M'=>M'=pE M r (.lst (((List.range pre.length).map (Ab s own)).map qP))/\∃x y,U=[Fa (.int s),Fa (.ref o),Fa (.ref r),x,y]) (λ_ _ _ _=>trivial) _ [] _ _ Z' ⟨Z',Db,Db,Z'⟩ ?_ ?_
 .rintro pre d post e U M' ⟨rfl,x,y,rfl⟩ nx Xh
  obtain⟨rfl,Xq⟩:=B8 e;generalize hi:pre.length=i at Xq Xh ⊢;have c5:CS 5 (0+(i:Int)):=.inl ⟨by decide,by decide⟩;have c11:CS 11 (0+(i:Int)):=.inl ⟨by decide,by decide⟩;have tm:vM [D.str "all",.str "turns"] (qu (s+5*(0+(i:Int))) 742938285 2)=Fa (.str (Ab s own i).2.1):=HC (row:=Qu) (ra (by decide)) (qM (by decide));have XT:oj (pE M r (.lst (((List.range i).map (Ab s own)).map qP))) o=Fa (own.map D.str):=by unfold oj;rw[uo nor];exact ho
  refine⟨o9 Z',c5,_,_,_,Z',by decide,i' tm ?_⟩;refine⟨by show(oj _ r).isSome=pc;rw[pD];rfl,s,_,Z',c11,o,_,_,own,Z',XT,Xy,by decide,h64,o9 Z',i' pD ⟨?_,?_⟩⟩
  .rw[cZ,cZ,eF];omega
  .refine Xh _ _ ⟨?_,_,_,Z'⟩;rw[rM,df,hi];show pE M r (.lst (_++[qP (Ab s own i)]))=_;rw[BB];rfl
 .rintro U M' ⟨rfl,x,y,rfl⟩
  refine⟨_,.refl,?_⟩;rw[cZ,eF];exact q r hr
def Jx(ns:T0 Int)(own nm:QQQ)(i:Nat):vd:=(decide (0<qu (cell ns (1+(0+(i:Nat)))+31*(0+(i:Nat))*(0+(i:Nat))) 22695477 6),wB (cell ns (1+(0+(i:Nat)))+31*(0+(i:Nat))*(0+(i:Nat))) own nm)
def vg(s:Int):Nat:=(qu s 950706376 11).toNat
def AG(ns:T0 Int)(m:Int):pG:=
 let s:=cell ns 0;let own:=(qy s m).map (·.1);let gs:=qY s own
 ⟨qy s m,gs,(List.range (vg s)).map (Jx ns own (own++gs.map (·.1)))⟩
def Od:rk:=λds M Q=>C4 λns m=>ds=[.rl (ns.map D.int),.int m]/\2<=m/\m<=8/\∀r1 r2 r3 M',qp M M'->oj M' r1=Fa ((AG ns m).mL.map qK)->oj M' r2=Fa ((AG ns m).groups.map qP)->oj M' r3=Fa ((AG ns m).mJ.map ug)->Q (.tup [.ref r1,.ref r2,.ref r3]) M'
def Lg:Fq P w K mg base 4 a.bq Od:=by
 refine fq G.bq.toDG sy (λr u=>⟨_,(pj (pL 2 sy (pI (JF G) r G.J (rN v0 pz)))
 (pj (pL 3 sy (pI (Ii G) r G.bn (rN U2 U1)))
 (pj (xb (i:=4) sy.nd Z' (Or.inl Z') Z' (yb (ix:=[Db]) (N':=["_law_phone"])) (qB U3) (qG 0) rT (pJ v0 pz))
 (pj (pL 5 sy (pI (Hi G) r G.bo (rN U2 v4)))
 (pj (pL 6 sy (pU v4 (qF Z' (yb (ix:=[Db]) (N':=["_law_group"])) (qB v5) (qG 0) rT (pJ v0 pz))))
 (pj (pL 7 sy (qQ r6))
 (pj (sN eK Z' (vm Z' G.M (qe (pI (qH G) r G.i (rj U2 pz pz)))) (rg 8 sy)
 (pj (pL 9 sy (pU (pI (JF G) r G.J (rN v0 (pU pz v8))) (pU (pU pz v8) v8)))
 (pk (pM (qJ v7 (qe (pN (rN (qm u (pI (qH G) r G.i (rj v9 pz pz)) pz) (pI (Pf G) r G.bp (rj v9 v4 v6))))))))))
 (pk (pC (pN (rj U3 v5 v7))))))))))),?_⟩)
 rintro ds M Q ⟨ns,m,rfl,h2,h8,q⟩
 have hz:=dS;have pl:=yH (s:=cell ns 0) h2 (by omega);have p8:rR (cell ns 0) m<=8:=by have d1:=qM (c:=cell ns 0) (f:=48271) (m:=m - 1) (by omega);unfold rR;omega
 have gl:=wU (s:=cell ns 0);have lp:(qy (cell ns 0) m).length=rR (cell ns 0) m:=by unfold qy;rw[cZ,eF]
 refine⟨ns,0,Z',cell ns 0,m,Z',h2,by omega,λr1 XX=>?_⟩;have s1:=qp.new (c:=.lst ((qy (cell ns 0) m).map qK)) XX;have a1:=@pD M r1 ((qy (cell ns 0) m).map qK);generalize pE M r1 (.lst ((qy (cell ns 0) m).map qK))=M1 at s1 a1 ⊢;refine i' a1 (qW (f:=A9) a1 _ [] _ (by rw[cZ];simp only[dR];omega) (λd hd k hk=>?_) λo ho=>?_)
 .obtain⟨x,_,rfl⟩:=dJ.mp hd;exact hk
 rw[eB,wR];have s2:=s1.trans (qp.new (c:=.lst (((qy (cell ns 0) m).map (·.1)).map D.str)) ho);have b1:=(qp.new (c:=.lst (((qy (cell ns 0) m).map (·.1)).map D.str)) ho).lst a1;have bo:=@pD M1 o (((qy (cell ns 0) m).map (·.1)).map D.str);generalize pE M1 o (.lst (((qy (cell ns 0) m).map (·.1)).map D.str))=M2 at s2 b1 bo ⊢;have ol:((qy (cell ns 0) m).map (·.1)).length=rR (cell ns 0) m:=by rw[cZ,lp]
 have one:(qy (cell ns 0) m).map (·.1)≠[]:=λz=>by rw[z]at ol;have:0=rR (cell ns 0) m:=ol;omega
 have Xp:AG ns m=⟨qy (cell ns 0) m,qY (cell ns 0) ((qy (cell ns 0) m).map (·.1)),(List.range (vg (cell ns 0))).map (Jx ns ((qy (cell ns 0) m).map (·.1)) ((qy (cell ns 0) m).map (·.1)++(qY (cell ns 0) ((qy (cell ns 0) m).map (·.1))).map (·.1)))⟩:=rfl;rw[Xp]at q;generalize (qy (cell ns 0) m).map (·.1)=own at bo ol one q ⊢;refine⟨cell ns 0,o,own,Z',bo,one,by omega,λr2 ZF=>?_⟩;have t3:=qp.new (c:=.lst ((qY (cell ns 0) own).map qP)) ZF;have c2:=@pD M2 r2 ((qY (cell ns 0) own).map qP);have c1:=t3.lst b1;have co:=t3.lst bo;have s3:=s2.trans t3;generalize pE M2 r2 (.lst ((qY (cell ns 0) own).map qP))=M3 at s3 c1 c2 co ⊢;have gll:(qY (cell ns 0) own).length=vR (cell ns 0):=by unfold qY;rw[cZ,eF]
 refine i' c2 (qW (f:=A9) c2 _ [] _ (by rw[cZ];simp only[dR];omega) (λd hd k hk=>?_) λx4 hx4=>?_)
 .obtain⟨x,_,rfl⟩:=dJ.mp hd;exact hk
 rw[eB,wW];have t4:=qp.new (c:=.lst (((qY (cell ns 0) own).map (·.1)).map D.str)) hx4;refine i' (t4.lst co) (i' pD ⟨?_,λn hn=>?_⟩)
 .rw[cZ,cZ,cZ];omega
 have en:own.map D.str++((qY (cell ns 0) own).map (·.1)).map D.str=(own++(qY (cell ns 0) own).map (·.1)).map D.str:=by rw[dQ]
 rw[en];have nl:(own++(qY (cell ns 0) own).map (·.1)).length=rR (cell ns 0) m+vR (cell ns 0):=by rw[df,cZ,ol,gll]
 have t5:=t4.trans (qp.new (c:=.lst ((own++(qY (cell ns 0) own).map (·.1)).map D.str)) hn);have en5:=@pD (pE M3 x4 (.lst (((qY (cell ns 0) own).map (·.1)).map D.str))) n ((own++(qY (cell ns 0) own).map (·.1)).map D.str);have e1:=t5.lst c1;have e2:=t5.lst c2;have eo:=t5.lst co;have s5:=s3.trans t5;generalize pE (pE M3 x4 (.lst (((qY (cell ns 0) own).map (·.1)).map D.str))) n (.lst ((own++(qY (cell ns 0) own).map (·.1)).map D.str))=M5 at s5 e1 e2 eo en5 ⊢;generalize own++(qY (cell ns 0) own).map (·.1)=nm at en5 nl q ⊢;have d0:=ra (c:=cell ns 0) (f:=950706376) (m:=11) (by decide);have d1:=qM (c:=cell ns 0) (f:=950706376) (m:=11) (by decide);refine⟨o9 Z',λr3 Zm=>⟨_,_,_,Z',by decide,Z',⟨?_,?_⟩,?_⟩⟩
 .show -(2 ^ 62)<=qu (cell ns 0) 950706376 11;omega
 .show qu (cell ns 0) 950706376 11<2 ^ 62;omega
 have t6:=qp.new (c:=.lst []) Zm;have g3:=@pD M5 r3 [];have no:o≠r3:=λz=>by have:=qh eo;rw[z,Zm]at this;cases this
 have nn:n≠r3:=λz=>by have:=qh en5;rw[z,Zm]at this;cases this
 have n1:r1≠r3:=λz=>by have:=qh e1;rw[z,Zm]at this;cases this
 have n2:r2≠r3:=λz=>by have:=qh e2;rw[z,Zm]at this;cases this
 have f1:=t6.lst e1;have f2:=t6.lst e2;have fo:=t6.lst eo;have fn:=t6.lst en5;have k6:qp M (pE M5 r3 (.lst [])):=s5.trans t6;have nr:M r3=Db:=s5.none Zm;generalize pE M5 r3 (.lst [])=M6 at f1 f2 fo fn k6 g3 ⊢;have wl:vg (cell ns 0)<=10:=by unfold vg;omega
 refine tF ((List.range (vg (cell ns 0))).map λi=>D.int (0+(i:Nat))) (λpre U M'=>rZ r3 M6 M'/\oj M' r3=Fa (((List.range pre.length).map (Jx ns own nm)).map ug)/\∃x y,U=[Fa (.rl (ns.map D.int)),Fa (.int m),Fa (.int (cell ns 0)),Fa (.ref r1),Fa (.ref o),Fa (.ref r2),Fa (.ref n),Fa (.ref r3),x,y]) (λp U M' j=>trivial) _ [] _ _ Z' ⟨λ_ _ _ h=>h,g3,Db,Db,Z'⟩ ?_ ?_
 .rintro pre d post e U M' ⟨kp,lr,x,y,rfl⟩ nx Xh
  obtain⟨rfl,Xq⟩:=B8 e;generalize hi:pre.length=i at Xq Xh lr ⊢;have c31:CS 31 (0+(i:Int)):=.inl ⟨by decide,by decide⟩;have cm:CS (31*(0+(i:Int))) (0+(i:Int)):=.inr ⟨by omega,by omega⟩;refine⟨ns,_,Z',c31,cm,?_⟩;refine⟨by show(oj M' r3).isSome=pc;rw[lr];rfl,_,_,_,Z',by decide,_,o,n,own,nm,Z',kp.lst no fo,kp.lst nn fn,one,by omega,by omega,by omega,o9 Z',i' lr ⟨?_,?_⟩⟩
  .rw[cZ,cZ,eF];omega
  .refine Xh _ _ ⟨kp.trans .put,?_,_,_,Z'⟩;rw[pD,df,hi];show Fa (_++[ug (Jx ns own nm i)])=_;rw[BB];rfl
 .rintro U M' ⟨kp,lr,x,y,rfl⟩
  rw[cZ,eF]at lr;exact⟨o9 Z',M',.refl,q r1 r2 r3 M' (λb c h=>kp b c (λz=>by rw[z,nr]at h;cases h) (k6 b c h)) (kp.lst n1 f1) (kp.lst n2 f2) lr⟩
theorem CN(x:Array Nat):∀(n:Nat) (acc:Array Nat),((List.replicate n x).foldl (·++·) acc).toList=acc.toList++(List.replicate n x.toList).flatten
 | 0,acc=>by simp
 | n+1,acc=>by rw[eN,gb,CN x n (acc++x),eN,fY,jc,eV]
theorem Gj(c:Nat):∀n:Nat,(List.replicate n [c]).flatten=List.replicate n c
 | 0=>rfl
 | n+1=>by rw[eN,fY,Gj c n,eN];rfl
def DT(i n:Int):(yD (uf i) n).cps.toList=List.replicate n.toNat (97+i.toNat):=by show((List.replicate n.toNat (uf i).cps).foldl (·++·) #[]:Array Nat).toList=_;rw[CN];show[]++(List.replicate n.toNat [97+i.toNat]).flatten=_;rw[eB,Gj]
def ye(s v:Int):(xK s v).cps.toList=List.replicate (uD s).toNat (97+(s / 36 % 26).toNat)++(97+((s / 936+v) % 26).toNat)::List.replicate (size s - 1 - uD s).toNat (97+(s / 36 % 26).toNat):=by show((yD (uf (s / 36 % 26)) (uD s)).cps++(uf ((s / 936+v) % 26)).cps++(yD (uf (s / 36 % 26)) (size s - 1 - uD s)).cps).toList=_;rw[jc,jc,DT,DT];show _++[97+((s / 936+v) % 26).toNat]++_=_;rw[eV];rfl
def Cv(s v:Int):1<=(xK s v).length/\(xK s v).length<=6:=by
 have e:(xK s v).length=(xK s v).cps.toList.length:=by simp[Str.length]
 rw[e,ye,df,eC,iO,iO];have h1:=FZ s;have h2:=Jg s;have h3:0<=uD s:=fg _ (by omega);have h4:uD s<size s:=eX _ h1;omega
def NT{i:Int}(h0:0<=i)(h1:i<26):C8 ⟨#[97+i.toNat]⟩ uu=pc:=by
 obtain⟨n,rfl⟩:=eI h0;have hn:n<26:=by omega
 have key:∀n:_root_.Fin 26,C8 ⟨#[97+n.val]⟩ uu=pc:=by decide+kernel
 exact key ⟨n,hn⟩
def DP(s v:Int):uG (xK s v)=pc:=by
 obtain⟨h1,h2⟩:=Cv s v;unfold uG;rw[d6 (show(1:Int)<=(xK s v).length by omega),d6 (show((xK s v).length:Int)<=6 by omega),eP,eP,eU];intro c hc;rw[ye]at hc;have k1:=NT (fg (s / 36) (show(26:Int)≠0 by decide)) (eX (s / 36) (by decide));have k2:=NT (fg (s / 936+v) (show(26:Int)≠0 by decide)) (eX (s / 936+v) (by decide));rcases dX.mp hc with z|z
 .rw[jV z];exact k1
 .rcases dw.mp z with z|z
  .rw[z];exact k2
  .rw[jV z];exact k1
def Cw{s u v:Int}(hu:0<=u)(hu':u<26)(hv:0<=v)(hv':v<26)(e:xK s u=xK s v):u=v:=by
 have e':(xK s u).cps.toList=(xK s v).cps.toList:=by rw[e]
 rw[ye,ye]at e';have:=(List.append_cancel_left e');have:=(gY this).1;have a1:=fg (s / 936+u) (show(26:Int)≠0 by decide);have a2:=fg (s / 936+v) (show(26:Int)≠0 by decide);have h:(s / 936+u) % 26=(s / 936+v) % 26:=by omega
 omega
def Ez{ss:QQQ}{x:Str}(h:x∈ss):x9 ss x:=gG.mpr ⟨x,h,by simp⟩
def Bh{row:QQQ}{i:Int}(h0:0<=i)(h1:i<row.length):B0 row i∈row:=by
 obtain⟨n,rfl⟩:=eI h0;have hn:n<row.length:=by omega
 have:B0 row (n:Int)=row[n]:=by simp[B0,hn]
 rw[this];exact ii hn
def JT{row:QQQ}{i j:Int}(nd:row.Nodup)(h0:0<=i)(h1:i<row.length)(g0:0<=j)(g1:j<row.length)(e:B0 row i=B0 row j):i=j:=by
 obtain⟨n,rfl⟩:=eI h0;obtain⟨k,rfl⟩:=eI g0;have hn:n<row.length:=by omega
 have hk:k<row.length:=by omega
 have e1:B0 row (n:Int)=row[n]:=by simp[B0,hn]
 have e2:B0 row (k:Int)=row[k]:=by simp[B0,hk]
 rw[e1,e2]at e;have pw:=jF.mp nd;rcases Nat.lt_trichotomy n k with z|z|z
 .exact absurd e (pw n k hn hk z)
 .rw[z]
 .exact absurd e.symm (pw k n hk hn z)
def zZ{α:Type}(f:Nat->α)(n:Nat)(h:∀i j,i<n->j<n->f i=f j->i=j):((List.range n).map f).Nodup:=by refine jF.mpr λi j hi hj Xq e=>?_;rw[cZ,eF]at hi hj;rw[l8,l8,jn,jn]at e;have:=h i j hi hj e;omega
def Bz{row:QQQ}{c m:Int}(hr:row≠[])(hm:0<m):1<=xq row c m/\(xq row c m:Int)<=m/\xq row c m<=row.length:=by
 have hl:0<row.length:=fF.mpr hr;have d0:=ra (c:=c) (f:=40692) (m:=if (row.length:Int)<m then(row.length:Int)else m) (by split<;>omega);have d1:=qM (c:=c) (f:=40692) (m:=if (row.length:Int)<m then(row.length:Int)else m) (by split<;>omega);unfold xq;by_cases h:(row.length:Int)<m
 .rw[dz h]at d0 d1 ⊢;omega
 .rw[dh h]at d0 d1 ⊢;omega
def Ce{row:QQQ}{c:Int}(hr:row≠[])(j:Nat):0<=(qu c 69621 row.length+(0+(j:Nat))) % (row.length:Int)/\(qu c 69621 row.length+(0+(j:Nat))) % (row.length:Int)<row.length:=by have hl:0<row.length:=fF.mpr hr;exact⟨fg _ (by omega),eX _ (by omega)⟩
def JC{d n i j:Int}(hn:0<n)(hi:0<=i)(Zg:i<n)(hj:0<=j)(hj':j<n)(e:(d+i) % n=(d+j) % n):i=j:=by
 have h1:=kr (d+i) n;have h2:=kr (d+j) n;generalize (d+i) / n=a at h1;generalize (d+j) / n=b at h2;have h3:i - j=n*(a - b):=by rw[Int.mul_sub];omega
 rcases Int.lt_trichotomy (a - b) 0 with z|z|z
 .have:n*(a - b)<=n*(-1):=i9 (by omega) (by omega);omega
 .rw[z]at h3;omega
 .have:n*1<=n*(a - b):=i9 (by omega) (by omega);omega
def HF{row:QQQ}{c m:Int}(nd:row.Nodup)(hr:row≠[])(hm:0<m):(vL row c m).Nodup:=by have hl:0<row.length:=fF.mpr hr;obtain⟨_,_,l3⟩:=Bz (c:=c) hr hm;refine zZ _ _ λi j hi hj e=>?_;obtain⟨a0,a1⟩:=Ce (c:=c) hr i;obtain⟨b0,b1⟩:=Ce (c:=c) hr j;have e':=JT nd a0 a1 b0 b1 e;have:=JC (d:=qu c 69621 row.length) (n:=row.length) (i:=0+(i:Nat)) (j:=0+(j:Nat)) (by omega) (by omega) (by omega) (by omega) (by omega) e';omega
def yc{row:QQQ}{c m k:Int}(nd:row.Nodup)(hr:row≠[])(hm:0<m)(hk:m<=k):sD (vL row c m) row k=pc:=by
 obtain⟨l1,l2,l3⟩:=Bz (c:=c) hr hm;have el:(vL row c m).length=xq row c m:=by unfold vL;rw[cZ,eF]
 unfold sD;rw[el,d6 (show(1:Int)<=xq row c m by omega),d6 (show(xq row c m:Int)<=k by omega),DN (HF nd hr hm),eP,eP,eP,eU];intro x hx;unfold vL at hx;obtain⟨j,_,rfl⟩:=dJ.mp hx;obtain⟨a0,a1⟩:=Ce (c:=c) hr j;exact Ez (Bh a0 a1)
def Cp{row:QQQ}{c m:Int}(hr:row≠[])(hm:0<m)(h:m<=100):(vL row c m).length<4000:=by
 obtain⟨l1,l2,l3⟩:=Bz (c:=c) hr hm;have el:(vL row c m).length=xq row c m:=by unfold vL;rw[cZ,eF]
 omega
def PH{c:Int}{own all:QQQ}(no:own.Nodup)(na:all.Nodup)(ho:own≠[])(ha:2<=all.length):Cy own all (wB c own all):=by
 have hl:(0:Int)<own.length:=by have:=fF.mpr ho;omega
 have ha0:all≠[]:=λz=>by rw[z]at ha;simp at ha
 have hx:=Ez (Bh (ra (c:=c) (f:=16807) hl) (qM (c:=c) (f:=16807) hl));have p0:=ra (c:=c) (f:=39373) (m:=all.length) (by omega);have p1:=qM (c:=c) (f:=39373) (m:=all.length) (by omega);have e0:=ra (c:=c) (f:=742938285) (m:=(all.length:Int) - 1) (by omega);have e1:=qM (c:=c) (f:=742938285) (m:=(all.length:Int) - 1) (by omega);have z0:=fg (qu c 39373 all.length+1+qu c 742938285 ((all.length:Int) - 1)) (show(all.length:Int)≠0 by omega);have z1:=eX (qu c 39373 all.length+1+qu c 742938285 ((all.length:Int) - 1)) (show(0:Int)<all.length by omega);have hy:=Ez (Bh p0 p1);have hzz:=Ez (Bh z0 z1);have ne:B0 all (qu c 39373 all.length)≠B0 all ((qu c 39373 all.length+1+qu c 742938285 ((all.length:Int) - 1)) % all.length):=λz=>by
  have q:=JT na p0 p1 z0 z1 z;have q2:(qu c 39373 all.length+0) % (all.length:Int)=(qu c 39373 all.length+(1+qu c 742938285 ((all.length:Int) - 1))) % (all.length:Int):=by rw[Int.add_zero,Int.emod_eq_of_lt p0 p1,<-Int.add_assoc];exact q
  have:=JC (by omega) (by omega) (by omega) (by omega) (by omega) q2;omega
 have f0:=ra (c:=c) (f:=22695477) (m:=24) (by decide);have f1:=qM (c:=c) (f:=22695477) (m:=24) (by decide);have g0:=ra (c:=c) (f:=48271) (m:=23) (by decide);have g1:=qM (c:=c) (f:=48271) (m:=23) (by decide);have t0:=ra (c:=c) (f:=950706376) (m:=5) (by decide);have t1:=qM (c:=c) (f:=950706376) (m:=5) (by decide);unfold wB;simp only;split
 .exact⟨hx,Cp ha0 (by decide) (by decide),yc na ha0 (by decide) (by decide)⟩
 .split
  .exact⟨hy,Cp ho (by decide) (by decide),yc no ho (by decide) (by decide)⟩
  .split
   .exact⟨hy,hzz,ne⟩
   .split
    .refine⟨hy,hzz,ne,⟨f0,by omega⟩,⟨fg _ (by decide),?_⟩,?_⟩
     .have:=eX (qu c 22695477 24+1+qu c 48271 23) (show(0:Int)<24 by decide);omega
     .omega
    .split
     .exact⟨hy,hzz,ne⟩
     .split
      .refine⟨hy,hzz,ne,?_⟩;generalize qu c 950706376 5=d at t0 t1;have:d=0\/d=1\/d=2\/d=3\/d=4:=by omega
       rcases this with z|z|z|z|z<;>(subst z;decide)
      .split
       .exact hx
       .exact hx
def Nk(s:Int)(i:Nat):EY (wb s i):=by
 have t0:=ra (c:=s+17*(0+(i:Nat))*(0+(i:Nat))) (f:=16807) (m:=5) (by decide);have t1:=qM (c:=s+17*(0+(i:Nat))*(0+(i:Nat))) (f:=16807) (m:=5) (by decide);have u0:=ra (c:=s+17*(0+(i:Nat))*(0+(i:Nat))) (f:=39373) (m:=6) (by decide);have u1:=qM (c:=s+17*(0+(i:Nat))*(0+(i:Nat))) (f:=39373) (m:=6) (by decide);have a:1<=(wb s i).2.1/\(wb s i).2.1<=3:=by
  show 1<=FU O6 (qu (s+17*(0+(i:Nat))*(0+(i:Nat))) 16807 5)/\FU O6 (qu (s+17*(0+(i:Nat))*(0+(i:Nat))) 16807 5)<=3;generalize qu (s+17*(0+(i:Nat))*(0+(i:Nat))) 16807 5=d at t0 t1;have:d=0\/d=1\/d=2\/d=3\/d=4:=by omega
  rcases this with z|z|z|z|z<;>(subst z;decide)
 have b:0<=(wb s i).2.2/\(wb s i).2.2<=9:=by
  show 0<=FU QO (qu (s+17*(0+(i:Nat))*(0+(i:Nat))) 39373 6)/\FU QO (qu (s+17*(0+(i:Nat))*(0+(i:Nat))) 39373 6)<=9;generalize qu (s+17*(0+(i:Nat))*(0+(i:Nat))) 39373 6=d at u0 u1;have:d=0\/d=1\/d=2\/d=3\/d=4\/d=5:=by omega
  rcases this with z|z|z|z|z|z<;>(subst z;decide)
 exact⟨eA (Cv s (0+(i:Nat))).2 (by decide),DP _ _,a.1,a.2,b.1,b.2⟩
def Ml{s:Int}{own:QQQ}(nd:own.Nodup)(hr:own≠[])(i:Nat):EH own (Ab s own i):=by
 have t0:=ra (c:=s+5*(0+(i:Nat))) (f:=742938285) (m:=2) (by decide);have t1:=qM (c:=s+5*(0+(i:Nat))) (f:=742938285) (m:=2) (by decide);refine⟨eA (Cv s (8+(0+(i:Nat)))).2 (by decide),DP _ _,?_,Cp hr (by decide) (by decide),yc nd hr (by decide) (by decide)⟩;show B0 Qu (qu (s+5*(0+(i:Nat))) 742938285 2)="all"\/B0 Qu (qu (s+5*(0+(i:Nat))) 742938285 2)="turns";generalize qu (s+5*(0+(i:Nat))) 742938285 2=d at t0 t1;have:d=0\/d=1:=by omega
 rcases this with z|z
 .subst z;exact .inl Z'
 .subst z;exact .inr Z'
def Lx(s m:Int):(qy s m).map (·.1)=(List.range (rR s m)).map λi=>xK s (0+(i:Nat)):=by unfold qy;rw[eG];rfl
def F9{s m:Int}(h2:2<=m)(h8:m<=8):((qy s m).map (·.1)).Nodup/\∀own,((qy s m).map (·.1)++(qY s own).map (·.1)).Nodup:=by
 have d1:=qM (c:=s) (f:=48271) (m:=m - 1) (by omega);have d0:=ra (c:=s) (f:=48271) (m:=m - 1) (by omega);have p8:rR s m<=8:=by unfold rR;omega
 have g3:=wU (s:=s);have a:((qy s m).map (·.1)).Nodup:=by rw[Lx];refine zZ _ _ λi j hi hj e=>?_;have:=Cw (by omega) (by omega) (by omega) (by omega) e;omega
 refine⟨a,λown=>?_⟩;have ge:(qY s own).map (·.1)=(List.range (vR s)).map λi=>xK s (8+(0+(i:Nat))):=by unfold qY;rw[eG];rfl
 rw[gx];refine⟨a,?_,λx hx y hy e=>?_⟩
 .rw[ge];refine zZ _ _ λi j hi hj e=>?_;have:=Cw (by omega) (by omega) (by omega) (by omega) e;omega
 .rw[Lx]at hx;rw[ge]at hy;obtain⟨i,hi,rfl⟩:=dJ.mp hx;obtain⟨j,hj,rfl⟩:=dJ.mp hy;have hi:=gD.mp hi;have hj:=gD.mp hj;have:=Cw (by omega) (by omega) (by omega) (by omega) e;omega
def OK{m:Int}(h2:2<=m)(h8:m<=8):rm (AG ns m):=by
 obtain⟨n1,n2⟩:=F9 (s:=cell ns 0) h2 h8;have pl:=yH (s:=cell ns 0) h2 (by omega);have p8:rR (cell ns 0) m<=8:=by have d1:=qM (c:=cell ns 0) (f:=48271) (m:=m - 1) (by omega);unfold rR;omega
 have lp:(qy (cell ns 0) m).length=rR (cell ns 0) m:=by unfold qy;rw[cZ,eF]
 have ol:((qy (cell ns 0) m).map (·.1)).length=rR (cell ns 0) m:=by rw[cZ,lp]
 have one:(qy (cell ns 0) m).map (·.1)≠[]:=λz=>by rw[z]at ol;have:0=rR (cell ns 0) m:=ol;omega
 have gl:(qY (cell ns 0) ((qy (cell ns 0) m).map (·.1))).length=vR (cell ns 0):=by unfold qY;rw[cZ,eF]
 refine⟨?_,?_,λp hp=>?_,?_,λg hg=>?_,n2 _,?_,λv hv=>?_⟩
 .show 1<=(qy (cell ns 0) m).length;omega
 .show(qy (cell ns 0) m).length<=8;omega
 .obtain⟨i,_,rfl⟩:=dJ.mp hp;exact Nk _ i
 .show(qY (cell ns 0) ((qy (cell ns 0) m).map (·.1))).length<=3;rw[gl];exact wU
 .obtain⟨i,_,rfl⟩:=dJ.mp hg;exact Ml n1 one i
 .show((List.range (vg (cell ns 0))).map _).length<=16;rw[cZ,eF];have d1:=qM (c:=cell ns 0) (f:=950706376) (m:=11) (by decide);unfold vg;omega
 .obtain⟨i,hi,rfl⟩:=dJ.mp hv;refine PH n1 (n2 _) one ?_;show 2<=((qy (cell ns 0) m).map (·.1)++_).length;rw[df,ol];omega
structure pB where
 st:Str
 cr:Str
 way:QQQ
 at_:QQQ
 ms:QQQ
 hd:Option Str
 si:Int
 wd:Option Str
structure se where
 i:Nat
 f:Str
 g:Str
 y:Str
inductive Ev
 | new (n:Nat) (x:Str)
 | leg (v:se)
 | asks (i:Nat) (z:Str) (ns:List Nat)
 | next (z:Str) (n:Int)
 | merge (i j:Nat) (ms:QQQ)
 | turn
 | sw (b:Bool) (i:Nat)
 | rings (i:Nat) (ps:QQQ)
 | quiet (i:Nat)
 | waits (i:Nat) (x:Str)
 | talks (i:Nat) (ms:QQQ)
 | held (i:Nat) (x:Str)
 | leaves (i:Nat) (x:Str)
 | over (i:Nat) (w:Str)
structure qr where
 p:Ch
 h:Int
 t:Int
 calls:List pB
 mX:List se
 ps:List (Str×Int)
 on:List Bool
 log:List Ev
 fo:QXQ
noncomputable def ui(ns:T0 Nat):D:=.tup (ns.map λn=>D.int (n:Nat))
noncomputable def se.d(v:se):D:=.tup [.int (v.i:Nat),.str v.f,.str v.g,.str v.y]
noncomputable def Ul(b:Bool):Str:=if b=pc then "on" else "off"
def Ev.d:Ev->D
 | .new n x=>.tup [.str "new",.int (n:Nat),.str x]
 | .leg v=>.tup [.str "leg",.int (v.i:Nat),.str v.f,.str v.g,.str v.y]
 | .asks i z ns=>.tup [.str "asks",.int (i:Nat),.str z,ui ns]
 | .next z n=>.tup [.str "next",.str z,.int n]
 | .merge i j ms=>.tup [.str "merge",.int (i:Nat),.int (j:Nat),names ms]
 | .turn=>.tup [.str "turn"]
 | .sw b i=>.tup [.str (Ul b),.int (i:Nat)]
 | .rings i ps=>.tup [.str "rings",.int (i:Nat),names ps]
 | .quiet i=>.tup [.str "quiet",.int (i:Nat)]
 | .waits i x=>.tup [.str "waits",.int (i:Nat),.str x]
 | .talks i ms=>.tup [.str "talks",.int (i:Nat),names ms]
 | .held i x=>.tup [.str "held",.int (i:Nat),.str x]
 | .leaves i x=>.tup [.str "leaves",.int (i:Nat),.str x]
 | .over i w=>.tup [.str "over",.int (i:Nat),.str w]
noncomputable def hasS(ss:QQQ)(x:Str):Bool:=ss.any (·==x)
noncomputable def rJ(ss:QQQ)(x:Str):QQQ:=ss.filter λy=>!(y==x)
noncomputable def yU(x:Str):pB:=⟨"rings",x,[],[],[],Db,0,Db⟩
noncomputable def pB.over(c:pB)(w:Str):pB:={c with st:="over",wd:=some w,at_:=[],ms:=[],hd:=none}
def pB.drop(c:pB)(x:Str):pB:={c with at_:=rJ c.at_ x,ms:=rJ c.ms x}
noncomputable def pB.ring(c:pB)(ps:QQQ):pB:={c with st:="rings",at_:=ps,si:=0}
noncomputable def pB.nE(c:pB)(ms:QQQ):pB:={c with st:="talks",ms:=ms,at_:=[],hd:=none}
noncomputable def pB.wait(c:pB)(x:Str):pB:={c with st:="waits",at_:=[x]}
noncomputable def pB.hold(c:pB)(x:Str):pB:={c with st:="held",hd:=some x}
noncomputable def pB.nJ(c:pB):pB:={c with at_:=[]}
noncomputable def pB.mem(c:pB)(ms:QQQ):pB:={c with ms:=ms}
noncomputable def pB.go(c:pB)(g:Str):pB:={c with way:=c.way++[g]}
noncomputable def pB.tick(c:pB):pB:=if (c.st=="rings")=pc then{c with si:=c.si+1}else c
noncomputable def se.to(m k:Nat)(v:se):se:=if v.i=m then{v with i:=k}else v
noncomputable def BX(ps:T0 (Str×Int))(z:Str)(n:Int):T0 (Str×Int):=if ps.any (λp=>decide (p.1=z))=pc then ps.map (λp=>if p.1=z then(p.1,n)else p)else ps++[(z,n)]
noncomputable def xU(V:qr)(i:Nat)(f:pB->pB):qr:={V with calls:=V.calls.modify i f}
noncomputable def qO(V:qr)(e:Ev):qr:={V with log:=V.log++[e]}
def Va(V:qr):Ev->qr
 | .new _ x=>{V with calls:=V.calls++[yU x]}
 | .leg v=>{V with mX:=V.mX++[v],calls:=V.calls.modify v.i (·.go v.g)}
 | .asks _ _ _=>V
 | .next z n=>{V with ps:=BX V.ps z n}
 | .merge i j ms=>{V with calls:=(V.calls.modify i (·.over "merged")).modify j (·.mem ms),mX:=V.mX.map (se.to i j)}
 | .turn=>{V with t:=V.t+1,calls:=V.calls.map pB.tick}
 | .sw b i=>{V with on:=V.on.set i b}
 | .rings i ps=>xU V i (·.ring ps)
 | .quiet i=>xU V i pB.nJ
 | .waits i x=>xU V i (·.wait x)
 | .talks i ms=>xU V i (·.nE ms)
 | .held i x=>xU V i (·.hold x)
 | .leaves i x=>xU V i (·.drop x)
 | .over i w=>xU V i (·.over w)
def qd(V:qr)(e:Ev):qr:=Va (qO V e) e
def qI(V:qr)(es:T0 Ev):qr:=es.foldl qd V
def Ev.ok(V:qr):Ev->Prop
 | .new _ _=>True
 | .leg v=>v.i<V.calls.length
 | .asks _ _ _=>True
 | .next _ _=>True
 | .merge i j ms=>i<V.calls.length/\j<V.calls.length/\i≠j/\ms.length<=100
 | .turn=>True
 | .sw _ i=>i<V.on.length
 | .rings i ps=>i<V.calls.length/\ps.length<=100
 | .quiet i=>i<V.calls.length
 | .waits i _=>i<V.calls.length
 | .talks i ms=>i<V.calls.length/\ms.length<=100
 | .held i _=>i<V.calls.length
 | .leaves i _=>i<V.calls.length
 | .over i _=>i<V.calls.length
def GT:qr->T0 Ev->Prop
 | _,[]=>True
 | V,e::r=>e.ok V/\GT (qd V e) r
def rF(V:qr)(es fs:T0 Ev):qI V (es++fs)=qI (qI V es) fs:=lC ..
theorem w9:∀{V:qr} {es fs:T0 Ev},GT V es->GT (qI V es) fs->GT V (es++fs)
 | _,[],_,_,h=>h
 | _,_::_,_,h,g=>⟨h.1,w9 h.2 g⟩
theorem zp:∀(es:T0 Ev) (V:qr),(qI V es).log=V.log++es
 | [],V=>(eE _).symm
 | e::r,V=>by
  show(qI (qd V e) r).log=_;rw[zp r];have:(qd V e).log=V.log++[e]:=by cases e<;>rfl
  rw[this,eV];rfl
def pB.mU(c:pB)(x:Str):Bool:=(c.st=="talks")&&hasS c.ms x
def pB.hasB(c:pB)(x:Str):Bool:=if (c.st=="rings")=pc then(x==c.cr)||hasS c.at_ x else if (c.st=="waits")=pc then x==c.cr else(c.st=="talks"||c.st=="held")&&hasS c.ms x
def pB.nj(c:pB)(x:Str):Bool:=if (c.st=="held")=pc then hasS c.ms x&&!((c.hd==Fa x))else c.mU x
noncomputable def pB.mV(c:pB)(x:Str):Bool:=(c.st=="rings"||c.st=="waits")&&(x==c.cr)
def pB.mR(c:pB)(x:Str):Bool:=(c.st=="waits")&&hasS c.at_ x
def pB.nC(c:pB)(x:Str):Bool:=c.mV x||(hasS c.at_ x||hasS c.ms x)
noncomputable def pB.mW(c:pB)(x:Str):Bool:=c.mU x&&(c.ms.length==2)
noncomputable def vb(V:qr)(x:Str):Nat:=(V.calls.filter (·.hasB x)).length
noncomputable def xi(l:pG)(x:Str):Int:=(l.ng x).elim 0 λv=>v.2.1
noncomputable def vU(l:pG)(x:Str):Int:=(l.ng x).elim 0 λv=>v.2.2
def tZ(l:pG)(V:qr)(x:Str):Bool:=decide ((vb V x:Int)<xi l x)
def uE(l:pG)(V:qr)(c z:Str):QQQ:=(l.mI z).filter λx=>!(x==c)&&tZ l V x
def xF(l:pG)(V:qr)(c z:Str):Bool:=(uE l V c z).isEmpty
noncomputable def vQ(V:qr)(x:Str):Option Nat:=V.calls.findIdx? (·.mU x)
noncomputable def Eu(V:qr)(x:Str):Option Nat:=V.calls.findIdx? (·.nj x)
noncomputable def Jp(V:qr)(x:Str):Option Nat:=V.calls.findIdx? (·.mV x)
noncomputable def AF(V:qr)(x:Str):Bool:=V.calls.any (·.mR x)
noncomputable def Qc:Option Nat->D
 | none=>.mP
 | some j=>.int (j:Nat)
noncomputable def E2(f l h:Int):Bool:=if f<l then decide (f<=h)&&decide (h<l)else decide (h>=f)||decide (h<l)
def Hw(l:pG)(x:Str)(ms:QQQ):Bool:=ms.all λm=>decide (vU l m<vU l x)
def Iw(l:pG)(V:qr)(x c z:Str):Bool:=if (!(c==x)||(z==x))=pc then Uf else if (!(hasS l.pn z)||!(xF l V c z))=pc then Uf else((vQ V z).bind (V.calls[·]?)).elim Uf λk=>(k.ms.length==2)&&Hw l x k.ms
def AM(l:pG)(V:qr)(c z:Str):Wi->Bool
 | .bar x ns=>(c==x)&&hasS ns z
 | .shut x ns=>(z==x)&&hasS ns c
 | .always x _=>z==x
 | .night x _ f m=>(z==x)&&E2 f m ((V.h+V.t) % 24)
 | .busy x _=>(z==x)&&xF l V c z
 | .silent _ _ _=>Uf
 | .wait x=>if (!(z==x)||(c==x))=pc then Uf else xF l V c z&&!(AF V z)
 | .breaks x=>Iw l V x c z
noncomputable def GW(c:pB):Wi->Bool
 | .silent x _ n=>(c.way.getLast?==Fa x)&&decide (n<=c.si)
 | _=>Uf
noncomputable def Ga(l:pG)(V:qr)(f:Wi->Bool):T0 Nat:=(List.range V.on.length).filter λi=>V.on.getD i Uf&&(l.mJ[i]?).elim Uf λw=>f w.2
def BO(l:pG)(V:qr)(c z:Str):T0 Nat:=Ga l V (AM l V c z)
noncomputable def vf(ms:QQQ)(n:Nat):QQQ:=ms.drop n++ms.take n
noncomputable def zD(V:qr)(z:Str):Nat:=((V.ps.find? λp=>decide (p.1=z)).elim 0 λp=>p.2).toNat
def xA(l:pG)(V:qr)(c z:Str):QQQ:=if (l.mS z=="turns")=pc then((vf (l.mI z) (zD V z)).filter λx=>hasS (uE l V c z) x).take 1 else uE l V c z
inductive vD
 | engaged (z:Str)
 | rings (z:Str) (ps:QQQ)
 | waits (z:Str)
 | breaks (z:Str)
 | barred
 | ring (ns:QQQ)
noncomputable def vD.d:vD->D
 | .engaged z=>.tup [.str "engaged",.str z]
 | .rings z ps=>.tup [.str "rings",.str z,names ps]
 | .waits z=>.tup [.str "waits",.str z]
 | .breaks z=>.tup [.str "breaks",.str z]
 | .barred=>.tup [.str "barred"]
 | .ring ns=>.tup [.str "ring",names ns]
def Hu(l:pG)(V:qr)(c z:Str):vD:=match xA l V c z with
 | []=>.engaged z
 | x::r=>.rings z (x::r)
noncomputable def IG(z:Str):Wi->Sum vD Str
 | .bar _ _=>.inl .barred
 | .shut _ _=>.inl .barred
 | .always _ y=>.inr y
 | .night _ y _ _=>.inr y
 | .busy _ y=>.inr y
 | .silent _ y _=>.inr y
 | .wait _=>.inl (.waits z)
 | .breaks _=>.inl (.breaks z)
abbrev sP:=T0 (Str×T0 Nat)
def vA(l:pG)(V:qr)(c:Str):Nat->Str->QQQ->sP->vD×sP
 | 0,_,_,st=>(.barred,st)
 | n+1,z,way,st=>if hasS way z=pc then(.ring (way.drop (way.findIdx (·==z))),st)else
  match BO l V c z with
  | []=>(Hu l V c z,st++[(z,[])])
  | i::r=>(l.mJ[i]?).elim (.barred,st) λw=>match IG z w.2 with
   | .inl e=>(e,st++[(z,i::r)])
   | .inr y=>vA l V c n y (way++[z]) (st++[(z,i::r)])
def uq(l:pG)(V:qr)(c z:Str)(way:QQQ):vD×sP:=vA l V c (l.nm.length+1) z way []
noncomputable def qT(i:Nat):Option Str->sP->T0 Ev
 | _,[]=>[]
 | none,(z,fs)::r=>.asks i z fs::qT i (Fa z) r
 | some y,(z,fs)::r=>.leg ⟨i,y,z,y⟩::.asks i z fs::qT i (Fa z) r
noncomputable def Ox(ms:QQQ)(x:Str):Int:=((ms.findIdx (·==x):Nat)+1) % (ms.length:Int)
def sd(l:pG)(V:qr)(i:Nat):vD->T0 Ev
 | .rings z ps=>(if (l.mS z=="turns")=pc then[.next z (Ox (l.mI z) (ps.headD Str.empty))]else[])++[.rings i ps]
 | .waits z=>[.waits i z]
 | .breaks z=>match vQ V z,V.calls[i]? with
  | some j,Fa c=>[.merge i j ((V.calls[j]?).elim [] (·.ms)++[c.cr])]
  | _,_=>[]
 | .engaged _=>[.over i "engaged"]
 | .barred=>[.over i "barred"]
 | .ring _=>[.over i "ring"]
noncomputable def sW(i:Nat)(st:sP):vD->T0 Ev
 | .ring ns=>(st.getLast?).elim [] λs=>[.leg ⟨i,s.1,ns.headD Str.empty,s.1⟩]
 | _=>[]
def ve(l:pG)(V:qr)(i:Nat):T0 Ev:=(V.calls[i]?).elim [] λc=>
 let r:=uq l V c.cr (c.way.getLastD Str.empty) c.way.dropLast
 qT i Db r.2++(sW i r.2 r.1++sd l V i r.1)
def Bl(l:pG)(V:qr)(y z:Str):T0 Ev:=
 let es:=[Ev.new V.calls.length y,.leg ⟨V.calls.length,y,z,y⟩]
 es++ve l (qI V es) V.calls.length
def uR(V:qr)(x:Str)(i:Nat):T0 Ev:=(V.calls[i]?).elim [] λc=>if c.mV x=pc then[.over i "left"]else if hasS c.at_ x=pc then .leaves i x::(if rJ c.at_ x=[]then[.over i "refused"]else[])else if 2<c.ms.length then[.leaves i x]else[.over i "done"]
def tj(l:pG)(V:qr)(i:Nat)(fs:T0 Nat):T0 Ev:=match fs.head?.bind (l.mJ[·]?)with
 | some (_,.silent x y _)=>
  let es:=[Ev.asks i x fs,.quiet i,.leg ⟨i,x,y,x⟩]
  es++ve l (qI V es) i
 | _=>[]
def wN(l:pG)(V:qr)(i:Nat):T0 Nat:=(V.calls[i]?).elim [] λc=>if (c.st=="rings")=pc then Ga l V (GW c)else[]
def qZ(l:pG):T0 Nat->qr->T0 Ev
 | [],_=>[]
 | i::r,V=>tj l V i (wN l V i)++qZ l r (qI V (tj l V i (wN l V i)))
def Et(l:pG)(V:qr):T0 Ev:=.turn::qZ l (List.range V.calls.length) (qd V .turn)
inductive tU
 | call (y z:Str)
 | num (w x:Str) (ns:List Int)
 | turn
 | sw (b:Bool) (i:Int)
def tU.d:tU->D
 | .call y z=>.tup [.str "call",.str y,.str z]
 | .num w x ns=>.tup (.str w::.str x::ns.map D.int)
 | .turn=>.tup [.str "turn"]
 | .sw b i=>.tup [.str (Ul b),.int i]
def tU.nu:tU->Prop
 | .num w _ ns=>((w="answer"\/w="hang"\/w="hold"\/w="back")/\ns.length=1)\/((w="hand"\/w="join")/\ns.length=2)
 | _=>True
def uI(V:qr)(x:Str):Option Str:=if (Eu V x).isSome=pc then Fa "bound" else if (Jp V x).isSome=pc then Fa "calls" else Db
noncomputable def zI(n:Nat)(i:Int):Bool:=decide (0<=i)&&decide (i<(n:Int))
def JP(w x:Str):List pB->Bool
 | []=>Uf
 | c::r=>if (w=="answer")=pc then hasS c.at_ x else if (w=="hang")=pc then c.nC x else if (w=="hold")=pc then c.mW x else if (w=="back")=pc then c.hd==Fa x else(c.hd==Fa x)&&(r.head?.elim Uf λd=>d.mW x)
noncomputable def tQ(V:qr)(ns:T0 Int):List pB:=ns.filterMap λi=>V.calls[i.toNat]?
def Ge(l:pG)(V:qr)(y z:Str):Option Str:=if hasS l.nm z=Uf then Fa "name" else if ((uI V y).isNone&&!(tZ l V y))=pc then Fa "full" else uI V y
def MI(l:pG)(V:qr)(w x:Str)(ns:T0 Int):Option Str:=if ns.all (zI V.calls.length)=Uf then Fa "call" else if JP w x (tQ V ns)=Uf then Fa "call" else if (w=="answer"||w=="back")=Uf then Db else
 if ((uI V x).isNone&&((tQ V ns).head?.elim Uf (λc=>c.mR x)&&!(tZ l V x)))=pc then Fa "full" else uI V x
def Pm(V:qr)(b:Bool)(i:Int):Option Str:=if zI V.on.length i=Uf then Fa "wish" else if (V.on.getD i.toNat Uf==b)=pc then Fa "wish" else Db
def xu(l:pG)(V:qr):tU->Option Str
 | .turn=>Db
 | .sw b i=>Pm V b i
 | .call y z=>if hasS l.pn y=Uf then Fa "name" else Ge l V y z
 | .num w x ns=>if hasS l.pn x=Uf then Fa "name" else MI l V w x ns
def qA(c:pB)(x:Str):Str:=(rJ c.ms x).headD Str.empty
noncomputable def zR(V:qr)(w x:Str)(i:Nat):Ev:=(V.calls[i]?).elim .turn λc=>if (w=="answer")=pc then .talks i [c.cr,x]else if (w=="hold")=pc then .held i x else .talks i c.ms
def BE(V:qr)(w x:Str)(i j:Nat):Ev:=(V.calls[i]?).elim .turn λc=>(V.calls[j]?).elim .turn λd=>.merge i j (if (w=="hand")=pc then[qA c x,qA d x]else[x,qA c x,qA d x])
def vv(l:pG)(V:qr):tU->T0 Ev
 | .call y z=>Bl l V y z
 | .num w x [i]=>if (w=="hang")=pc then uR V x i.toNat else[zR V w x i.toNat]
 | .num w x [i,j]=>[BE V w x i.toNat j.toNat]
 | .num _ _ _=>[]
 | .turn=>Et l V
 | .sw b i=>[.sw b i.toNat]
structure rE where
 p:Ch
 wy:Ch
structure uj where
 b:Ch
 ca:Ch
 le:Ch
 nx:Ch
 on:Ch
 lo:Ch
 cs:List rE
noncomputable def FS:Option Str->D
 | none=>.mP
 | some x=>.str x
def rA(c:pB)(wy ad md:Ch):T0 (Str×D):=[("state",.str c.st),("caller",.str c.cr),("way",.ref wy),("at",.ref ad),("members",.ref md),("holder",FS c.hd),("since",.int c.si),("word",FS c.wd)]
noncomputable def tT(p:D)(h t:Int)(ca le nx on lo:Ch):T0 (Str×D):=[("plan",p),("hour",.int h),("turn",.int t),("calls",.ref ca),("legs",.ref le),("nexts",.ref nx),("on",.ref on),("log",.ref lo)]
noncomputable def tK(ps:T0 (Str×Int)):T0 (rq×D):=ps.map λp=>((Sum.inr p.1:rq),D.int p.2)
noncomputable def uj.lists(A:uj):QXQ:=A.ca::A.le::A.on::A.lo::A.cs.map (·.wy)
noncomputable def uj.foot(A:uj):QXQ:=A.b::A.nx::(A.lists++A.cs.map (·.p))
def rV(a:Ad)(M:Mp)(L:QXQ)(k:rE)(c:pB):Prop:=C4 λad md=>M k.p=Fa (.ins a.e (rA c k.wy ad md))/\oj M k.wy=Fa (c.way.map D.str)/\oj M ad=Fa (c.at_.map D.str)/\oj M md=Fa (c.ms.map D.str)/\ad∉L/\md∉L
structure pO(a:Ad)(M:Mp)(A:uj)(V:qr):Prop where
 at_:M A.b=Fa (.ins a.c (tT (.ref V.p) V.h V.t A.ca A.le A.nx A.on A.lo))
 ca:oj M A.ca=Fa (A.cs.map λk=>D.ref k.p)
 le:oj M A.le=Fa (V.mX.map se.d)
 nx:zP M A.nx=Fa (tK V.ps)
 on:oj M A.on=Fa (V.on.map D.bl)
 lo:oj M A.lo=Fa (V.log.map Ev.d)
 len:A.cs.length=V.calls.length
 cs:∀(i:Nat) k c,A.cs[i]?=Fa k->V.calls[i]?=Fa c->rV a M (A.lists++V.fo) k c
 nl:A.lists.Nodup
 np:(A.b::A.cs.map (·.p)).Nodup
 fo:∀x∈V.fo,∃c,M x=Fa c
def wV{F:QXQ}{M:Mp}{p:Ch}{c:uY}(h:∀x∈F,∃c,M x=Fa c):∀x∈F,∃d,pE M p c x=Fa d:=λx hx=>by
 by_cases z:x=p
 .exact⟨c,by rw[z];exact pS⟩
 .obtain⟨d,e⟩:=h x hx;exact⟨d,rZ.put x d z e⟩
def rV.sub{k:rE}{c:pB}(h:rV a M L k c)(s:qp M M'):rV a M' L k c:=by obtain⟨ad,md,h1,h2,h3,h4,h5⟩:=h;exact⟨ad,md,s _ _ h1,s.lst h2,s.lst h3,s.lst h4,h5⟩
def pO.sub{A:uj}{V:qr}(h:pO a M A V)(s:qp M M'):pO a M' A V:=⟨s _ _ h.at_,s.lst h.ca,s.lst h.le,s.dk h.nx,s.lst h.on,s.lst h.lo,h.len,λi k c e1 e2=>(h.cs i k c e1 e2).sub s,h.nl,h.np,λx hx=>(h.fo x hx).imp λc e=>s x c e⟩
def rV.nV{k:rE}{c:pB}{x:Ch}{ds:T0 D}(h:rV a M L k c)(kp:rZ x M M')(hl:oj M x=Fa ds)(hx:x∈L)(hn:k.wy≠x):rV a M' L k c:=by obtain⟨ad,md,h1,h2,h3,h4,h5,h6⟩:=h;exact⟨ad,md,kp _ _ (λz=>by rw[z,qh hl]at h1;cases h1) h1,kp.lst hn h2,kp.lst (λz=>h5 (z ▸ hx)) h3,kp.lst (λz=>h6 (z ▸ hx)) h4,h5,h6⟩
def rV.nZ{k:rE}{c:pB}{x C:Ch}{fs:T0 (Str×D)}(h:rV a M L k c)(kp:rZ x M M')(hi:M x=Fa (.ins C fs))(hn:k.p≠x):rV a M' L k c:=by obtain⟨ad,md,h1,h2,h3,h4,h5⟩:=h;exact⟨ad,md,kp _ _ hn h1,kp.lst (pT h2 hi) h2,kp.lst (pT h3 hi) h3,kp.lst (pT h4 hi) h4,h5⟩
def uW{a p:Ch}{ds:T0 (rq×D)}{es:T0 D}(h:zP M a=Fa ds)(hp:oj M p=Fa es):a≠p:=λz=>by subst z;unfold zP at h;rw[qh hp]at h;cases h
def rV.oV{k:rE}{c:pB}{x:Ch}{ds:T0 (rq×D)}(h:rV a M L k c)(kp:rZ x M M')(hd:zP M x=Fa ds):rV a M' L k c:=by obtain⟨ad,md,h1,h2,h3,h4,h5⟩:=h;exact⟨ad,md,kp _ _ (λz=>by rw[z,zC hd]at h1;cases h1) h1,kp.lst (dW (uW hd h2)) h2,kp.lst (dW (uW hd h3)) h3,kp.lst (dW (uW hd h4)) h4,h5⟩
def qL{α:Type}{l:List α}{i:Nat}{x:α}(h:l[i]?=Fa x):x∈l:=fU h
def pO.ne{A:uj}{V:qr}(h:pO a M A V):A.ca≠A.le/\A.ca≠A.on/\A.ca≠A.lo/\A.le≠A.on/\A.le≠A.lo/\A.on≠A.lo/\∀k∈A.cs,k.wy≠A.ca/\k.wy≠A.le/\k.wy≠A.on/\k.wy≠A.lo:=by
 have n:=h.nl;unfold uj.lists at n;obtain⟨n1,n⟩:=dZ.mp n;obtain⟨n2,n⟩:=dZ.mp n;obtain⟨n3,n⟩:=dZ.mp n;obtain⟨n4,n⟩:=dZ.mp n;have w:∀k∈A.cs,k.wy∈A.cs.map (·.wy):=λk hk=>dJ.mpr ⟨k,hk,Z'⟩;refine⟨λz=>n1 (z ▸ by simp),λz=>n1 (z ▸ by simp),λz=>n1 (z ▸ by simp),λz=>n2 (z ▸ by simp),λz=>n2 (z ▸ by simp),λz=>n3 (z ▸ by simp),λk hk=>⟨λz=>n1 ?_,λz=>n2 ?_,λz=>n3 ?_,λz=>n4 ?_⟩⟩
 .rw[<-z];exact dF _ (dF _ (dF _ (w k hk)))
 .rw[<-z];exact dF _ (dF _ (w k hk))
 .rw[<-z];exact dF _ (w k hk)
 .rw[<-z];exact w k hk
def pO.oy{A:uj}{V:qr}(_:pO a M A V):A.ca∈A.lists/\A.le∈A.lists/\A.lo∈A.lists/\(∀k∈A.cs,k.wy∈A.lists)/\A.on∈A.lists:=by unfold uj.lists;refine⟨by simp,by simp,by simp,?_,by simp⟩;exact λk hk=>by simp;exact .inr (.inr (.inr (.inr ⟨k,hk,Z'⟩)))
def pO.oJ{A:uj}{V:qr}(h:pO a M A V):A.ca∈A.lists++V.fo/\A.le∈A.lists++V.fo/\A.lo∈A.lists++V.fo/\(∀k∈A.cs,k.wy∈A.lists++V.fo)/\A.on∈A.lists++V.fo:=by obtain⟨h1,h2,h3,h4,h5⟩:=h.oy;exact⟨fK _ h1,fK _ h2,fK _ h3,λk hk=>fK _ (h4 k hk),fK _ h5⟩
def rb(A:uj)(M:Mp)(A':uj)(M':Mp):Prop:=(∀x c,x∉A.foot->M x=Fa c->M' x=Fa c)/\(∀x∈A'.foot,x∈A.foot\/M x=Db)/\(∀(i:Nat) k,A.cs[i]?=Fa k->A'.cs[i]?=Fa k)/\∀x c,M x=Fa c->∃d,M' x=Fa d
def FD{M:Mp}{p y:Ch}{c d:uY}(h:M y=Fa d):∃e,pE M p c y=Fa e:=by
 by_cases z:y=p
 .exact⟨c,by rw[z];exact pS⟩
 .exact⟨d,rZ.put y d z h⟩
def rb.refl{A:uj}:rb A M A M:=⟨λ_ _ _ h=>h,λ_ h=>.inl h,λ_ _ h=>h,λ_ c h=>⟨c,h⟩⟩
def rb.trans{A A1 A2:uj}{M M1 M2:Mp}(s:rb A M A1 M1)(u:rb A1 M1 A2 M2):rb A M A2 M2:=by
 refine⟨λx c n h=>u.1 x c (λz=>?_) (s.1 x c n h),λx hx=>?_,λi k h=>u.2.2.1 i k (s.2.2.1 i k h),λx c h=>(s.2.2.2 x c h).elim λd e=>u.2.2.2 x d e⟩
 .rcases s.2.1 x z with y|y
  .exact n y
  .rw[y]at h;cases h
 .rcases u.2.1 x hx with z|z
  .exact s.2.1 x z
  .by_cases y:x∈A.foot
   .exact .inl y
   .refine .inr ?_;cases e:M x with
    | none=>rfl
    | some c=>rw[s.1 x c y e]at z;cases z
def rb.keep{A:uj}{x:Ch}{c:uY}(h:x∈A.foot)(k:rZ x M (pE M x c)):rb A M A (pE M x c):=⟨λy c n e=>k y c (λz=>n (z ▸ h)) e,λ_ h=>.inl h,λ_ _ h=>h,λ_ _ h=>FD h⟩
def rb.sub{A:uj}(s:qp M M'):rb A M A M':=⟨λy c _ e=>s y c e,λ_ h=>.inl h,λ_ _ h=>h,λx c h=>⟨c,s x c h⟩⟩
def uj.mY(A:uj):A.b∈A.foot/\A.nx∈A.foot/\A.ca∈A.foot/\A.le∈A.foot/\A.lo∈A.foot/\(∀k∈A.cs,k.p∈A.foot)/\∀k∈A.cs,k.wy∈A.foot:=by unfold uj.foot uj.lists;exact⟨by simp,by simp,by simp,by simp,by simp,λk hk=>by simp;exact .inr (.inr (.inr (.inr (.inr (.inr (.inr ⟨k,hk,Z'⟩)))))),λk hk=>by simp;exact .inr (.inr (.inr (.inr (.inr (.inr (.inl ⟨k,hk,Z'⟩))))))⟩
def uj.nU(A:uj){x:Ch}(h:x∈A.lists):x∈A.foot:=by unfold uj.foot;exact dF _ (dF _ (dX.mpr (.inl h)))
variable {M M1:Mp}{A:uj}{V:qr}
def E4{α:Type}{l:List α}{i j:Nat}{x y:α}(h:(l.set i x)[j]?=Fa y):(j=i/\y=x/\i<l.length)\/(j≠i/\l[j]?=Fa y):=by
 by_cases z:j=i
 .subst z;by_cases hl:j<l.length
  .rw[fM hl]at h;exact .inl ⟨Z',(dA h).symm,hl⟩
  .rw[ic (by rw[iu];omega)]at h;cases h
 .rw[fL (dW z)]at h;exact .inr ⟨z,h⟩
def Lz{α β:Type}{f:α->β}{l:List α}{i j:Nat}{x y:α}(nd:(l.map f).Nodup)(h1:l[i]?=Fa x)(h2:l[j]?=Fa y)(e:f x=f y):i=j:=by
 have e1:(l.map f)[i]?=Fa (f x):=by rw[dG,h1];rfl
 have e2:(l.map f)[j]?=Fa (f y):=by rw[dG,h2];rfl
 obtain⟨l1,q1⟩:=de.mp e1;obtain⟨l2,q2⟩:=de.mp e2;exact(lM nd).mp (q1.trans (e.trans q2.symm))
def pO.nw(h:pO a M A V):(A.cs.map (·.wy)).Nodup:=(dZ.mp (dZ.mp (dZ.mp (dZ.mp h.nl).2).2).2).2
def pO.oK(h:pO a M A V):(A.cs.map (·.p)).Nodup/\∀k∈A.cs,k.p≠A.b:=⟨(dZ.mp h.np).2,λk hk z=>(dZ.mp h.np).1 (z ▸ dJ.mpr ⟨k,hk,Z'⟩)⟩
def pO.ou(h:pO a M A V){es:T0 Ev}:pO a (pE M A.lo (.lst (es.map Ev.d))) A {V with log:=es}/\rb A M A (pE M A.lo (.lst (es.map Ev.d))):=by have kp:rZ A.lo M (pE M A.lo (.lst (es.map Ev.d))):=.put;obtain⟨n1,n2,n3,n4,n5,n6,nw⟩:=h.ne;exact⟨⟨kp _ _ (dW (pT h.lo h.at_)) h.at_,kp.lst n3 h.ca,kp.lst n5 h.le,kp.dk (uW h.nx h.lo) h.nx,kp.lst n6 h.on,pD,h.len,λi k c e1 e2=>(h.cs i k c e1 e2).nV kp h.lo h.oJ.2.2.1 (nw k (qL e1)).2.2.2,h.nl,h.np,wV h.fo⟩,.keep A.mY.2.2.2.2.1 kp⟩
def pO.oA(h:pO a M A V){es:List se}:pO a (pE M A.le (.lst (es.map se.d))) A {V with mX:=es}/\rb A M A (pE M A.le (.lst (es.map se.d))):=by have kp:rZ A.le M (pE M A.le (.lst (es.map se.d))):=.put;obtain⟨n1,n2,n3,n4,n5,n6,nw⟩:=h.ne;exact⟨⟨kp _ _ (dW (pT h.le h.at_)) h.at_,kp.lst n1 h.ca,pD,kp.dk (uW h.nx h.le) h.nx,kp.lst (dW n4) h.on,kp.lst (dW n5) h.lo,h.len,λi k c e1 e2=>(h.cs i k c e1 e2).nV kp h.le h.oJ.2.1 (nw k (qL e1)).2.1,h.nl,h.np,wV h.fo⟩,.keep A.mY.2.2.2.1 kp⟩
def pO.oN(h:pO a M A V){bs:T0 Bool}:pO a (pE M A.on (.lst (bs.map D.bl))) A {V with on:=bs}/\rb A M A (pE M A.on (.lst (bs.map D.bl))):=by have kp:rZ A.on M (pE M A.on (.lst (bs.map D.bl))):=.put;obtain⟨n1,n2,n3,n4,n5,n6,nw⟩:=h.ne;exact⟨⟨kp _ _ (dW (pT h.on h.at_)) h.at_,kp.lst n2 h.ca,kp.lst n4 h.le,kp.dk (uW h.nx h.on) h.nx,pD,kp.lst (dW n6) h.lo,h.len,λi k c e1 e2=>(h.cs i k c e1 e2).nV kp h.on h.oJ.2.2.2.2 (nw k (qL e1)).2.2.1,h.nl,h.np,wV h.fo⟩,.keep (A.nU h.oy.2.2.2.2) kp⟩
def pO.oU(h:pO a M A V){ps:T0 (Str×Int)}:pO a (pE M A.nx (.dk (tK ps))) A {V with ps:=ps}/\rb A M A (pE M A.nx (.dk (tK ps))):=by have kp:rZ A.nx M (pE M A.nx (.dk (tK ps))):=.put;exact⟨⟨kp _ _ (dW (Ca h.nx h.at_)) h.at_,kp.lst (dW (uW h.nx h.ca)) h.ca,kp.lst (dW (uW h.nx h.le)) h.le,D8 pS,kp.lst (dW (uW h.nx h.on)) h.on,kp.lst (dW (uW h.nx h.lo)) h.lo,h.len,λi k c e1 e2=>(h.cs i k c e1 e2).oV kp h.nx,h.nl,h.np,wV h.fo⟩,.keep A.mY.2.1 kp⟩
def pO.putT(h:pO a M A V){t:Int}:pO a (pE M A.b (.ins a.c (tT (.ref V.p) V.h t A.ca A.le A.nx A.on A.lo))) A {V with t:=t}/\rb A M A (pE M A.b (.ins a.c (tT (.ref V.p) V.h t A.ca A.le A.nx A.on A.lo))):=by have kp:rZ A.b M (pE M A.b (.ins a.c (tT (.ref V.p) V.h t A.ca A.le A.nx A.on A.lo))):=.put;exact⟨⟨pS,kp.lst (pT h.ca h.at_) h.ca,kp.lst (pT h.le h.at_) h.le,kp.dk (Ca h.nx h.at_) h.nx,kp.lst (pT h.on h.at_) h.on,kp.lst (pT h.lo h.at_) h.lo,h.len,λi k c e1 e2=>(h.cs i k c e1 e2).nZ kp h.at_ (h.oK.2 k (qL e1)),h.nl,h.np,wV h.fo⟩,.keep A.mY.1 kp⟩
def pO.oi(h:pO a M A V){i:Nat}{k:rE}{c c':pB}{ad md:Ch}(e1:A.cs[i]?=Fa k)(e2:V.calls[i]?=Fa c)(ew:c'.way=c.way)(la:oj M ad=Fa (c'.at_.map D.str))(lm:oj M md=Fa (c'.ms.map D.str))(na:ad∉A.lists++V.fo)(nm:md∉A.lists++V.fo):
  pO a (pE M k.p (.ins a.e (rA c' k.wy ad md))) A {V with calls:=V.calls.set i c'}/\rb A M A (pE M k.p (.ins a.e (rA c' k.wy ad md))):=by
 have kp:rZ k.p M (pE M k.p (.ins a.e (rA c' k.wy ad md))):=.put;obtain⟨_,_,h1,h2,_⟩:=h.cs i k c e1 e2;refine⟨⟨kp _ _ (dW (h.oK.2 k (qL e1))) h.at_,kp.lst (pT h.ca h1) h.ca,kp.lst (pT h.le h1) h.le,kp.dk (Ca h.nx h1) h.nx,kp.lst (pT h.on h1) h.on,kp.lst (pT h.lo h1) h.lo,by rw[h.len,iu],λj k' d f1 f2=>?_,h.nl,h.np,wV h.fo⟩,.keep (A.mY.2.2.2.2.2.1 k (qL e1)) kp⟩;rcases E4 f2 with⟨rfl,rfl,_⟩|⟨hj,f2⟩
 .rw[e1]at f1;cases f1;exact⟨ad,md,pS,by rw[ew];exact kp.lst (pT h2 h1) h2,kp.lst (pT la h1) la,kp.lst (pT lm h1) lm,na,nm⟩
 .exact(h.cs j k' d f1 f2).nZ kp h1 λz=>hj (Lz h.oK.1 f1 e1 z)
def pO.oG(h:pO a M A V){i:Nat}{k:rE}{c:pB}{ws:QQQ}(e1:A.cs[i]?=Fa k)(e2:V.calls[i]?=Fa c):
  pO a (pE M k.wy (.lst (ws.map D.str))) A {V with calls:=V.calls.set i {c with way:=ws}}/\rb A M A (pE M k.wy (.lst (ws.map D.str))):=by
 have kp:rZ k.wy M (pE M k.wy (.lst (ws.map D.str))):=.put;obtain⟨ad,md,h1,h2,h3,h4,h5,h6⟩:=h.cs i k c e1 e2;obtain⟨n1,n2,n3,n4,n5,n6,nw⟩:=h.ne;obtain⟨w1,w2,w3,w4⟩:=nw k (qL e1);have kL:=h.oJ.2.2.2.1 k (qL e1);refine⟨⟨kp _ _ (dW (pT h2 h.at_)) h.at_,kp.lst (dW w1) h.ca,kp.lst (dW w2) h.le,kp.dk (uW h.nx h2) h.nx,kp.lst (dW w3) h.on,kp.lst (dW w4) h.lo,by rw[h.len,iu],λj k' d f1 f2=>?_,h.nl,h.np,wV h.fo⟩,.keep (A.mY.2.2.2.2.2.2 k (qL e1)) kp⟩;rcases E4 f2 with⟨rfl,rfl,_⟩|⟨hj,f2⟩
 .rw[e1]at f1;cases f1;exact⟨ad,md,kp _ _ (dW (pT h2 h1)) h1,pD,kp.lst (λz=>h5 (z ▸ kL)) h3,kp.lst (λz=>h6 (z ▸ kL)) h4,h5,h6⟩
 .exact(h.cs j k' d f1 f2).nV kp h2 kL λz=>hj (Lz h.nw f1 e1 z)
noncomputable def uj.add(A:uj)(k:rE):uj:={A with cs:=A.cs++[k]}
def zT(A:uj)(k:rE):(A.add k).lists=A.lists++[k.wy]:=by unfold uj.add uj.lists;rw[dQ];rfl
def pO.dom(h:pO a M A V):(∀x∈A.lists,∃ds,oj M x=Fa ds)/\∀x∈A.foot,∃c,M x=Fa c:=by
 have hc:∀k∈A.cs,(∃ds,oj M k.wy=Fa ds)/\∃c,M k.p=Fa c:=λk hk=>by
  obtain⟨i,hi,e⟩:=gW hk;have e1:A.cs[i]?=Fa k:=by rw[dg hi,e]
  have Yp:i<V.calls.length:=by rw[<-h.len];exact hi
  have e2:V.calls[i]?=Fa V.calls[i]:=dg Yp;obtain⟨ad,md,h1,h2,_⟩:=h.cs i k _ e1 e2;exact⟨⟨_,h2⟩,_,h1⟩
 have hl:∀x∈A.lists,∃ds,oj M x=Fa ds:=λx hx=>by
  unfold uj.lists at hx;simp only[dw,dJ]at hx;rcases hx with rfl|rfl|rfl|rfl|⟨k,hk,rfl⟩
  .exact⟨_,h.ca⟩
  .exact⟨_,h.le⟩
  .exact⟨_,h.on⟩
  .exact⟨_,h.lo⟩
  .exact(hc k hk).1
 refine⟨hl,λx hx=>?_⟩;unfold uj.foot at hx;simp only[dw,dX,dJ]at hx;rcases hx with rfl|rfl|hx|⟨k,hk,rfl⟩
 .exact⟨_,h.at_⟩
 .exact⟨_,zC h.nx⟩
 .obtain⟨ds,e⟩:=hl x hx;exact⟨_,qh e⟩
 .exact(hc k hk).2
def pO.n9(h:pO a M A V){x:Ch}(hx:M x=Db):x∉A.lists:=λz=>by obtain⟨ds,e⟩:=h.dom.1 x z;have:=qh e;rw[hx]at this;cases this
def pO.nv(h:pO a M A V){x:Ch}(hx:M x=Db):x∉A.lists++V.fo:=λz=>by
 rcases dX.mp z with z|z
 .exact h.n9 hx z
 .obtain⟨c,e⟩:=h.fo x z;rw[hx]at e;cases e
def pO.nY(h:pO a M A V){x:Ch}(hx:M x=Db):x∉A.foot:=λz=>by obtain⟨ds,e⟩:=h.dom.2 x z;rw[hx]at e;cases e
def pO.og(h:pO a M A V)(s:qp M M1){p wy ad md:Ch}{c:pB}(hp:M p=Db)(hw:M wy=Db)(ha:M ad=Db)(hm:M md=Db)(h1:M1 p=Fa (.ins a.e (rA c wy ad md)))(h2:oj M1 wy=Fa (c.way.map D.str))(h3:oj M1 ad=Fa (c.at_.map D.str))(h4:oj M1 md=Fa (c.ms.map D.str))(n1:ad≠wy)(n2:md≠wy):
  pO a (pE M1 A.ca (.lst ((A.cs.map λk=>D.ref k.p)++[.ref p]))) (A.add ⟨p,wy⟩) {V with calls:=V.calls++[c]}/\rb A M (A.add ⟨p,wy⟩) (pE M1 A.ca (.lst ((A.cs.map λk=>D.ref k.p)++[.ref p]))):=by
 have h':=h.sub s;have kp:rZ A.ca M1 (pE M1 A.ca (.lst ((A.cs.map λk=>D.ref k.p)++[.ref p]))):=.put;obtain⟨m1,m2,m3,m4,m5,m6,nw⟩:=h.ne;have wL:wy∉A.lists:=h.n9 hw;have cL:=h.oJ.1;have nl':∀x,x∉A.lists++V.fo->x≠wy->x∉(A.add ⟨p,wy⟩).lists++V.fo:=λx h1 h2=>by
  rw[zT,dX,dX,dv]
  rintro ((z|z)|z)
  .exact h1 (fK _ z)
  .exact h2 z
  .exact h1 (eM _ z)
 have old:∀x c,M x=Fa c->x≠wy:=λx c e z=>by rw[z,hw]at e;cases e
 refine⟨⟨kp _ _ (dW (pT h'.ca h'.at_)) h'.at_,?_,kp.lst (dW m1) h'.le,kp.dk (uW h'.nx h'.ca) h'.nx,kp.lst (dW m2) h'.on,kp.lst (dW m3) h'.lo,?_,λi k d e1 e2=>?_,?_,?_,wV h'.fo⟩,λx d n e=>kp x d (λz=>n (z ▸ A.mY.2.2.1)) (s x d e),λx hx=>?_,λi k e=>by show(A.cs++[(⟨p,wy⟩:rE)])[i]?=Fa k;rw[fk (de.mp e).1];exact e,λx d e=>FD (s x d e)⟩
 .show oj _ A.ca=Fa ((A.cs++[(⟨p,wy⟩:rE)]).map λk=>D.ref k.p);rw[dQ];exact pD
 .show(A.cs++[(⟨p,wy⟩:rE)]).length=(V.calls++[c]).length;rw[df,df,h.len];rfl
 .have e1:(A.cs++[(⟨p,wy⟩:rE)])[i]?=Fa k:=e1;have e2:(V.calls++[c])[i]?=Fa d:=e2;by_cases hi:i<A.cs.length
  .rw[fk hi]at e1;rw[fk (by rw[<-h.len];exact hi)]at e2;obtain⟨ad',md',g1,g2,g3,g4,g5,g6⟩:=(h.cs i k d e1 e2);refine⟨ad',md',kp _ _ (λz=>by have:=s _ _ g1;rw[z,qh h'.ca]at this;cases this) (s _ _ g1),kp.lst (nw k (qL e1)).1 (s.lst g2),kp.lst (λz=>g5 (z ▸ cL)) (s.lst g3),kp.lst (λz=>g6 (z ▸ cL)) (s.lst g4),nl' _ g5 (old _ _ (qh g3)),nl' _ g6 (old _ _ (qh g4))⟩
  .have Zg:i=A.cs.length:=by have:=(de.mp e1).1;rw[df,dM]at this;omega
   subst Zg;rw[fi (dB _)]at e1;rw[h.len,fi (dB _)]at e2;simp only[ie,iJ,jy]at e1 e2;subst e1 e2;have q1:p≠A.ca:=λz=>by rw[z,qh h'.ca]at h1;cases h1
   have q2:wy≠A.ca:=λz=>wL (z ▸ h.oy.1);exact⟨ad,md,kp p _ q1 h1,kp.lst (a:=wy) q2 h2,kp.lst (λz=>h.nv ha (z ▸ cL)) h3,kp.lst (λz=>h.nv hm (z ▸ cL)) h4,nl' _ (h.nv ha) n1,nl' _ (h.nv hm) n2⟩
 .rw[zT];refine gx.mpr ⟨h.nl,dZ.mpr ⟨dH,eO⟩,λx hx y hy=>?_⟩;rw[dv]at hy;subst hy;exact λz=>wL (z ▸ hx)
 .show(A.b::(A.cs++[(⟨p,wy⟩:rE)]).map (·.p)).Nodup;rw[dQ,<-List.cons_append];refine gx.mpr ⟨h.np,dZ.mpr ⟨dH,eO⟩,λx hx y hy=>?_⟩;rw[d9,iU,dv]at hy;subst hy;refine λz=>h.nY hp (z ▸ ?_);rcases dw.mp hx with y|y
  .rw[y];exact A.mY.1
  .obtain⟨k,hk,rfl⟩:=dJ.mp y;exact A.mY.2.2.2.2.2.1 k hk
 .unfold uj.foot at hx;rw[zT]at hx;have hx:x∈A.b::A.nx::(A.lists++[wy]++(A.cs++[(⟨p,wy⟩:rE)]).map (·.p)):=hx;simp only[dw,dX,dQ,d9,iU,dH,eQ]at hx;unfold uj.foot;simp only[dw,dX];rcases hx with z|z|(z|z)|(z|z)
  .exact .inl (.inl z)
  .exact .inl (.inr (.inl z))
  .exact .inl (.inr (.inr (.inl z)))
  .exact .inr (by rw[z];exact hw)
  .exact .inl (.inr (.inr (.inr z)))
  .exact .inr (by rw[z];exact hp)
def pO.oB{V:qr}{p:Ch}{es:List se}(h:pO a M A V)(hp:M p=Db):
  pO a (pE (pE M p (.lst (es.map se.d))) A.b (.ins a.c (tT (.ref V.p) V.h V.t A.ca p A.nx A.on A.lo))) {A with le:=p} {V with mX:=es}/\rb A M {A with le:=p} (pE (pE M p (.lst (es.map se.d))) A.b (.ins a.c (tT (.ref V.p) V.h V.t A.ca p A.nx A.on A.lo))):=by
 have t:=qp.new (c:=.lst (es.map se.d)) hp;have lp:=@pD M p (es.map se.d);have h1:=h.sub t;have np:p∉A.lists:=h.n9 hp;have nf:p∉A.foot:=h.nY hp;have old:∀x c,M x=Fa c->x≠p:=λx c e z=>by rw[z,hp]at e;cases e
 generalize pE M p (.lst (es.map se.d))=M1 at t lp h1 ⊢;have kp:rZ A.b M1 (pE M1 A.b (.ins a.c (tT (.ref V.p) V.h V.t A.ca p A.nx A.on A.lo))):=.put;have sub:∀x,x∉A.lists++V.fo->x≠p->x∉({A with le:=p}:uj).lists++V.fo:=λx h1 h2 z=>by
  rcases dX.mp z with z|z
  rotate_left
  .exact h1 (eM _ z)
  have h1:x∉A.lists:=λy=>h1 (fK _ y);unfold uj.lists at h1 z;simp only[dw,fS]at h1 z;rcases z with z|z|z|z|z
  .exact h1.1 z
  .exact h2 z
  .exact h1.2.2.1 z
  .exact h1.2.2.2.1 z
  .exact h1.2.2.2.2 z
 refine⟨⟨pS,kp.lst (pT h1.ca h1.at_) h1.ca,kp.lst (pT lp h1.at_) lp,kp.dk (Ca h1.nx h1.at_) h1.nx,kp.lst (pT h1.on h1.at_) h1.on,kp.lst (pT h1.lo h1.at_) h1.lo,h.len,λi k c e1 e2=>?_,?_,h.np,wV h1.fo⟩,λx c n e=>kp x c (λz=>n (z ▸ A.mY.1)) (t x c e),λx hx=>?_,λi k e=>e,λx d e=>FD (t x d e)⟩
 .obtain⟨ad,md,g1,g2,g3,g4,g5,g6⟩:=(h.cs i k c e1 e2);obtain⟨ad',md',f1,f2,f3,f4,f5⟩:=((h.cs i k c e1 e2).sub t).nZ kp h1.at_ (h.oK.2 k (qL e1));have q1:=kp _ _ (λz=>h.oK.2 k (qL e1) z) (t _ _ g1);exact⟨ad,md,q1,f2,kp.lst (pT (t.lst g3) h1.at_) (t.lst g3),kp.lst (pT (t.lst g4) h1.at_) (t.lst g4),sub _ g5 (old _ _ (qh g3)),sub _ g6 (old _ _ (qh g4))⟩
 .have n:=h.nl;unfold uj.lists at n np ⊢;simp only[dw,fS]at np;simp only[dZ,dw,fS]at n ⊢;exact⟨⟨λz=>np.1 z.symm,n.1.2⟩,⟨np.2.2.1,np.2.2.2.1,np.2.2.2.2⟩,n.2.2⟩
 .by_cases z:x=p
  .exact .inr (z ▸ hp)
  .refine .inl ?_;unfold uj.foot uj.lists at hx ⊢;simp only[dw,dX]at hx ⊢;rcases hx with y|y|(y|y|y|y|y)|y
   .exact .inl y
   .exact .inr (.inl y)
   .exact .inr (.inr (.inl (.inl y)))
   .exact absurd y z
   .exact .inr (.inr (.inl (.inr (.inr (.inl y)))))
   .exact .inr (.inr (.inl (.inr (.inr (.inr (.inl y))))))
   .exact .inr (.inr (.inl (.inr (.inr (.inr (.inr y))))))
   .exact .inr (.inr (.inr y))
def vK(x:D)(l:T0 D):vM (x::l) 0=Fa x:=by
 unfold vM;have:G9 (x::l).length 0=Fa 0:=by unfold G9;rw[eC];simp
 rw[this];rfl
def xW(f:pB->Str->Bool)(a:Ad):rk:=λds M Q=>Af λL k c x=>ds=[.ref k.p,.str x]/\rV a M L k c/\Q (.bl (f c x)) M
abbrev Hq:=xW pB.hasB
abbrev zH:=xW pB.mU
abbrev Ei:=xW pB.nj
abbrev yO:=xW pB.mV
abbrev vS:=xW pB.mR
abbrev Fk:=xW pB.mW
abbrev xw:=xW pB.nC
noncomputable def Pn(x:Str):D->Bool
 | .str y=>!(y==x)
 | _=>Uf
def zJ(a:Ad):rk:=λds M Q=>J6 λL k c x y r=>ds=[.ref k.p,.str x]/\rV a M L k c/\c.ms.length<=100/\rJ c.ms x=y::r/\Q (.str y) M
def Co(ss:QQQ)(x:Str):[]++(List.filter (Pn x) (ss.map D.str)).map id=(rJ ss x).map D.str:=by rw[eB,jh,hJ];rfl
def DM{k:Ch}{ks:QQQ}{c:Str}{K:DK}(hk:oj M k=Fa (ks.map D.str))(h:K (.bl (hasS ks c)) M):S8 Uf (.str c) (.ref k) M K:=by refine i' hk ⟨Z',qx ks,?_⟩;show K (.bl (inD (.str c) (ks.map D.str))) M;rw[sE];exact h
def VP(w x y:Str):inD (.str w) [.str x,.str y]=(w==x||w==y):=by rw[show[D.str x,D.str y]=[x,y].map D.str from rfl,sE,gu];simp only[gh,List.any_nil,kD,hG,fB];exact⟨λh=>h.imp mw mw,λh=>h.imp mw mw⟩
def Rx:Fq P w K mg base 1 a.bN (Hq a):=by
 refine fq G.bN.toDG Gp (λr u=>⟨_,(pj (pP (pH u (pF v0) pA)
 (pk (pC (JU (qm u U1 (pF v0)) (sV (qm u U1 (pF v0))))))
 pK)
 (pj (pP (pH u (pF v0) pA)
 (pk (pC (qm u U1 (pF v0))))
 pK)
 (pk (pC (tH (qm u (pF v0) (pN (rN pA pA))) (sV (qm u U1 (pF v0)))))))),?_⟩)
 rintro ds M Q ⟨L,k,c,x,rfl,⟨ad,md,h1,h2,h3,h4,_⟩,q⟩
 unfold pB.hasB at q;refine pq h1 (i' Z' ?_);refine qC (c:=c.st=="rings") (λg=>?_) (λg=>?_)
 .rw[dz g]at q;refine pq h1 (i' Z' (qC (c:=x==c.cr) (λg2=>?_) (λg2=>?_)))
  .rw[g2]at q;exact⟨M,.refl,q⟩
  .rw[show(x==c.cr)=Uf from dO.mpr g2,fX]at q;exact pq h1 (i' Z' (DM h3 ⟨M,.refl,q⟩))
 .rw[dh g]at q;refine pq h1 (i' Z' ?_);refine qC (c:=c.st=="waits") (λg2=>?_) (λg2=>?_)
  .rw[dz g2]at q;exact pq h1 (i' Z' ⟨M,.refl,q⟩)
  .rw[dh g2]at q;refine pq h1 (i' Z' ⟨o9 Z',Z',Z',?_⟩);show if inD (.str c.st) [.str "talks",.str "held"]=pc then _ else _
   rw[VP];refine qC (λg3=>?_) (λg3=>?_)
   .rw[g3,eP]at q;exact pq h1 (i' Z' (DM h4 ⟨M,.refl,q⟩))
   .rw[show(c.st=="talks"||c.st=="held")=Uf from dO.mpr g3,fh]at q;exact⟨M,.refl,q⟩
def wn:Fq P w K mg base 1 a.V (zH a):=by
 refine fq G.V.toDG yT (λr u=>⟨_,(pk (pC (tH (qm u (pF v0) pA) (sV (qm u U1 (pF v0)))))),?_⟩)
 rintro ds M Q ⟨L,k,c,x,rfl,⟨ad,md,h1,h2,h3,h4,_⟩,q⟩
 unfold pB.mU at q;refine pq h1 (i' Z' (qC (c:=c.st=="talks") (λg=>?_) (λg=>?_)))
 .rw[g,eP]at q;exact pq h1 (i' Z' (DM h4 ⟨M,.refl,q⟩))
 .rw[show(c.st=="talks")=Uf from dO.mpr g,fh]at q;exact⟨M,.refl,q⟩
def LK:Fq P w K mg base 2 a.bM (Ei a):=by
 refine fq G.bM.toDG De (λr u=>⟨_,(pj (pP (pH u (pF v0) pA)
 (pk (pC (tH (qm u U1 (pF v0)) (sV (qm u U1 (pF v0))))))
 pK)
 (pk (pC (pW v0 G.e.toCls G.V (wn G) r (qe U1))))),?_⟩)
 rintro ds M Q ⟨L,k,c,x,rfl,hc,q⟩
 obtain⟨ad,md,h1,h2,h3,h4,_⟩:=id hc;unfold pB.nj at q;refine pq h1 (i' Z' ?_);refine qC (c:=c.st=="held") (λg=>?_) (λg=>?_)
 .rw[dz g]at q;refine pq h1 (i' Z' (i' h4 ⟨Z',qx c.ms,?_⟩));show if inD (.str x) (c.ms.map D.str)=pc then _ else _
  rw[sE];refine qC (c:=hasS c.ms x) (λg2=>?_) (λg2=>?_)
  .rw[g2,eP]at q;refine pq h1 (i' Z' ?_);cases e:c.hd with
   | none=>rw[e]at q;exact⟨M,.refl,q⟩
   | some y=>
    rw[e]at q;refine⟨M,.refl,?_⟩;rw[show(!(Fa y==Fa x))=!(x==y)from by
     show(!(y==x))=_;rw[mx]]at q
    exact q
  .rw[show hasS c.ms x=Uf from dO.mpr g2,fh]at q;exact⟨M,.refl,q⟩
 .rw[dh g]at q;exact pq h1 ⟨Z',_,⟨Z',Z'⟩,L,k,c,x,Z',hc,M,.refl,q⟩
def By:Fq P w K mg base 1 a.U (yO a):=by
 refine fq G.U.toDG yu (λr u=>⟨_,(pk (pC (tH (qm u (pF v0) (pN (rN pA pA))) (sV (qm u U1 (pF v0)))))),?_⟩)
 rintro ds M Q ⟨L,k,c,x,rfl,⟨ad,md,h1,h2,h3,h4,_⟩,q⟩
 unfold pB.mV at q;refine pq h1 (i' Z' ⟨o9 Z',Z',Z',?_⟩);show if inD (.str c.st) [.str "rings",.str "waits"]=pc then _ else _
 rw[VP];refine qC (λg3=>?_) (λg3=>?_)
 .rw[g3,eP]at q;exact pq h1 (i' Z' ⟨M,.refl,q⟩)
 .rw[show(c.st=="rings"||c.st=="waits")=Uf from dO.mpr g3,fh]at q;exact⟨M,.refl,q⟩
def Gz:Fq P w K mg base 1 a.aA (vS a):=by
 refine fq G.aA.toDG yJ (λr u=>⟨_,(pk (pC (tH (qm u (pF v0) pA) (sV (qm u U1 (pF v0)))))),?_⟩)
 rintro ds M Q ⟨L,k,c,x,rfl,⟨ad,md,h1,h2,h3,h4,_⟩,q⟩
 unfold pB.mR at q;refine pq h1 (i' Z' (qC (c:=c.st=="waits") (λg=>?_) (λg=>?_)))
 .rw[g,eP]at q;exact pq h1 (i' Z' (DM h3 ⟨M,.refl,q⟩))
 .rw[show(c.st=="waits")=Uf from dO.mpr g,fh]at q;exact⟨M,.refl,q⟩
def Ll:Fq P w K mg base 2 a.bL (xw a):=by
 refine fq G.bL.toDG xg (λr u=>⟨_,(pk (pC (JU (pW v0 G.e.toCls G.U (By G) r (qe U1)) (JU (qm u U1 (pF v0)) (sV (qm u U1 (pF v0))))))),?_⟩)
 rintro ds M Q ⟨L,k,c,x,rfl,hc,q⟩
 obtain⟨ad,md,h1,h2,h3,h4,_⟩:=id hc;unfold pB.nC at q;refine pq h1 ⟨Z',_,⟨Z',Z'⟩,L,k,c,x,Z',hc,qC (c:=c.mV x) (λg=>?_) (λg=>?_)⟩
 .rw[g]at q;exact⟨M,.refl,q⟩
 .rw[show c.mV x=Uf from dO.mpr g,fX]at q;refine pq h1 (i' Z' (i' h3 ⟨Z',qx c.at_,?_⟩));show if inD (.str x) (c.at_.map D.str)=pc then _ else _
  rw[sE];refine qC (c:=hasS c.at_ x) (λg2=>?_) (λg2=>?_)
  .rw[g2]at q;exact⟨M,.refl,q⟩
  .rw[show hasS c.at_ x=Uf from dO.mpr g2,fX]at q;exact pq h1 (i' Z' (DM h4 ⟨M,.refl,q⟩))
def GI:Fq P w K mg base 2 a.aC (Fk a):=by
 refine fq G.aC.toDG Dc (λr u=>⟨_,(pk (pC (tH (pW v0 G.e.toCls G.V (wn G) r (qe U1)) (sV (qm u (pR qw Z' G.g qv (qe (pF v0))) pz))))),?_⟩)
 rintro ds M Q ⟨L,k,c,x,rfl,hc,q⟩
 obtain⟨ad,md,h1,h2,h3,h4,_⟩:=id hc;unfold pB.mW at q;refine pq h1 ⟨Z',_,⟨Z',Z'⟩,L,k,c,x,Z',hc,qC (c:=c.mU x) (λg=>?_) (λg=>?_)⟩
 .rw[g,eP]at q;refine pq h1 (i' Z' (i' h4 ⟨M,.refl,?_⟩));rw[cZ];have:(((c.ms.length:Nat):Int)==2)=(c.ms.length==2):=by rw[gu,fB,fB];omega
  show Q (.bl (((c.ms.length:Nat):Int)==2)) M;rw[this];exact q
 .rw[show c.mU x=Uf from dO.mpr g,fh]at q;exact⟨M,.refl,q⟩
def FY:Fq P w K mg base 1 a.aB (zJ a):=by
 refine fq G.aB.toDG yZ (λr u=>⟨_,(pk (pC (pJ (qF Z' (yb (ix:=[Db,Fa 1]) (N':=["member","phone"])) (qB (pF v0)) (qG 0) (vC (pH u v0 U1)) v0) pz))),?_⟩)
 rintro ds M Q ⟨L,k,c,x,y,r,rfl,hc,hl,e,q⟩
 have hz:=dS;obtain⟨ad,md,h1,h2,h3,h4,_⟩:=id hc;refine pq h1 (i' Z' (i' h4 (tP (f:=id) (t:=Pn x) h4 _ [] _ (by rw[cZ];simp only[dR];omega) (λd hd k0 hk=>?_) (λd hd _ k0 hk=>?_) λp hp=>?_)))
 .obtain⟨y,hy,rfl⟩:=dJ.mp hd;exact hk
 .obtain⟨y,hy,rfl⟩:=dJ.mp hd;exact hk
 rw[Co,e];exact i' pD (i' (vK _ _) ⟨M,.new hp,q⟩)
theorem BK:∀bs:T0 Bool,A7 (.bl pc) (bs.map D.bl)=bs.findIdx? id
 | []=>rfl
 | b::r=>by rw[d9,List.findIdx?_cons];unfold A7;rw[BK r];cases b<;>rfl
theorem Oe(x:D):∀ds:T0 D,(A7 x ds).isSome=ds.any λd=>OM d x
 | []=>rfl
 | d::r=>by
  unfold A7;rw[gh];by_cases h:OM d x=pc
  .rw[dz h,h];rfl
  .rw[dh h,jx,Oe x r,show OM d x=Uf from dO.mpr h,fX]
theorem Cf:∀bs:T0 Bool,(bs.map D.bl).all va=pc
 | []=>rfl
 | _::r=>by rw[d9,fC,Cf r];rfl
structure Rd(a:Ad)(M:Mp)(A:uj)(V:qr)(l:pG):Prop where
 bd:pO a M A V
 k:V.calls.length<=1000000
 pl:sI a M V.p l
 ok:rm l
 on:V.on.length=l.mJ.length
 ms:∀c∈V.calls,(∀x∈c.ms,x∈l.pn)/\c.ms.length<=100
def Rd.sub{V:qr}(h:Rd a M A V l)(s:qp M M'):Rd a M' A V l:=⟨h.bd.sub s,h.k,h.pl.sub s,h.ok,h.on,h.ms⟩
def LD:rk:=λds M Q=>C4 λr bs=>ds=[.ref r]/\oj M r=Fa (List.map D.bl bs)/\Q (Qc (bs.findIdx? id)) M
def J1(f:qr->Str->D)(a:Ad):rk:=λds M Q=>C9 λA V x=>ds=[.ref A.b,.str x]/\pO a M A V/\V.calls.length<=1000000/\Q (f V x) M
def Uw(V:qr)(x:Str):D:=.int (vb V x:Nat)
def NX(V:qr)(x:Str):D:=Qc (Eu V x)
def Az(V:qr)(x:Str):D:=Qc (vQ V x)
def Ub(V:qr)(x:Str):D:=Qc (Jp V x)
def U'(V:qr)(x:Str):D:=.bl (AF V x)
abbrev Es:=J1 Uw
abbrev Di:=J1 NX
abbrev Be:=J1 Az
abbrev Bb:=J1 Ub
abbrev zS:=J1 U'
def xn(a:Ad):rk:=λds M Q=>Af λA V l x=>ds=[.ref A.b,.str x]/\Rd a M A V l/\x∈l.pn/\Q (.bl (tZ l V x)) M
def z9(a:Ad):rk:=λds M Q=>FQ λA V l c z=>ds=[.ref A.b,.str c,.str z]/\Rd a M A V l/\z∈l.nm/\∀q M',qp M M'->M q=Db->oj M' q=Fa ((uE l V c z).map D.str)->Q (.ref q) M'
def Aa(a:Ad):rk:=λds M Q=>C4 λA V=>ds=[.ref A.b]/\pO a M A V/\Q (.int ((V.h+V.t) % 24)) M
def Pq(a:Ad):rk:=λds M Q=>FQ λA V l c z=>ds=[.ref A.b,.str c,.str z]/\Rd a M A V l/\z∈l.nm/\Q (.bl (xF l V c z)) M
def Jo{V:qr}(h:pO a M A V){pre post:T0 D}{d:D}(e:pre++d::post=A.cs.map λk=>D.ref k.p):∃k c,A.cs[pre.length]?=Fa k/\V.calls[pre.length]?=Fa c/\d=.ref k.p/\rV a M (A.lists++V.fo) k c/\V.calls.take (pre.length+1)=V.calls.take pre.length++[c]:=by
 have h1:(A.cs.map λk=>D.ref k.p)[pre.length]?=Fa d:=by rw[<-e];simp
 rw[dG]at h1;cases z:A.cs[pre.length]? with
 | none=>rw[z]at h1;cases h1
 | some k=>
  rw[z]at h1;have hi:pre.length<V.calls.length:=by rw[<-h.len];exact(de.mp z).1
  have e2:V.calls[pre.length]?=Fa V.calls[pre.length]:=dg hi;refine⟨k,_,Z',e2,(dA h1).symm,h.cs _ _ _ z e2,?_⟩;rw[gy,e2];rfl
def yE{l:pG}{x:Str}(h:x∈l.pn):∃v,l.ng x=Fa v:=by
 obtain⟨p,hp,rfl⟩:=dJ.mp h;unfold pG.ng;cases e:l.mL.find? λq=>decide (q.1=p.1)with
 | some v=>exact⟨v,Z'⟩
 | none=>exact absurd (hU.mp e p hp) (by simp)
def qU:hasS ss x=pc↔x∈ss:=by unfold hasS;rw[gG];exact⟨λ⟨y,hy,e⟩=>dL e ▸ hy,λh=>⟨x,h,fv _⟩⟩
def Kf(h:xk ss=pc):ss.Nodup:=by
 have h:(sX ss).length=ss.length:=by unfold xk at h;have:=fB.mp h;omega
 suffices key:∀r:QQQ,(sX r.reverse).length=r.reverse.length->r.reverse.Nodup by have:=key ss.reverse;rw[List.reverse_reverse]at this;exact this h
 intro r;induction r with
 | nil=>intro _;exact eO
 | cons k r ih=>
  intro h;rw[List.reverse_cons]at h ⊢;generalize r.reverse=l at ih h ⊢;rw[ym]at h;split at h
  .have:=Jc l;rw[df,dM]at h;omega
  .rename_i hk;rw[df,df,dM]at h;have h1:=ih (by omega);rw[NL]at hk;refine gx.mpr ⟨h1,by simp,λx hx y hy=>?_⟩;rw[dv.mp hy];exact λz=>hk (z ▸ hx)
def Ig{m:Int}(h:sD cs ks m=pc):cs≠[]/\(cs.length:Int)<=m/\cs.Nodup/\∀x∈cs,x∈ks:=by unfold sD at h;simp only[eh,eL,eU]at h;obtain⟨h1,h2,h3,h4⟩:=h;refine⟨λz=>by rw[z]at h1;exact absurd h1 (by decide),h2,Kf h3,λx hx=>qU.mp (h4 x hx)⟩
def rm.of(ok:rm l){z:Str}(hz:z∈l.nm):(l.mI z≠[]/\(l.mI z).length<=4/\(l.mI z).Nodup/\∀x∈l.mI z,x∈l.pn)/\(z∈l.pn->l.mI z=[z]/\l.mS z="one"):=by
 have hd:=gx.mp ok.nd;have h1:z∈l.pn->l.group z=Db:=λh=>hU.mpr λg hg e=>hd.2.2 z h g.1 (dJ.mpr ⟨g,hg,Z'⟩) (by simpa using e:g.1=z).symm;refine⟨?_,λh=>by unfold pG.mI pG.mS;rw[h1 h];exact⟨Z',Z'⟩⟩;unfold pG.mI;cases e:l.group z with
 | none=>
  have hp:z∈l.pn:=by
   rcases dX.mp hz with h|h
   .exact h
   .obtain⟨g,hg,rfl⟩:=dJ.mp h;exact absurd (hU.mp e g hg) (by simp)
  exact⟨fW _ _,by show 1<=4;decide,dZ.mpr ⟨dH,eO⟩,λx hx=>by rw[dv.mp hx];exact hp⟩
 | some g=>obtain⟨c1,c2,c3,c4⟩:=Ig (ok.go g (gm e)).mem;exact⟨c1,by show g.2.2.length<=4;omega,c3,c4⟩
def yk{V:qr}{f:pB->Str->Bool}{m x:Str}{Q:DK}{ok:Mp->Prop}(bd:pO a M A V)(hk:V.calls.length<=1000000)(mT:ok M)(hm:∀c wy ad md,(rA c wy ad md).lookup m=Db)(q:∀p,M p=Db->Q (.ref p) (pE M p (.lst ((V.calls.map λc=>f c x).map D.bl)))):
  uU (sf 0) B1 (AB m (λC s=>C=a.e/\s=xW f a) (v3 0) (vB (v3 1) xV)) ok Q (A.cs.map λk=>D.ref k.p) [] [Db,Fa (.str x)] M:=by
 have hz:=dS;refine FN (A.cs.map λk=>D.ref k.p) (λpre acc U M'=>M=M'/\acc=((V.calls.take pre.length).map λc=>f c x).map D.bl/\∃y,U=[y,Fa (.str x)]) (λ_ _ _ M' j=>by rw[<-j.1];exact mT) _ [] [] _ _ Z' ?_ ⟨Z',Z',Db,Z'⟩ ?_ ?_
 .rw[cZ,bd.len];simp only[dR];omega
 .rintro pre d post e acc U M' ⟨rfl,rfl,y,rfl⟩ k hk
  obtain⟨ka,c,e1,e2,rfl,hc,et⟩:=Jo bd e;obtain⟨_,_,g1,_⟩:=id hc;refine pq g1 ⟨hm _ _ _ _,_,⟨Z',Z'⟩,_,ka,c,x,Z',hc,hk _ _ _ ⟨Z',?_,_,Z'⟩⟩;rw[df,dM,et,dQ,dQ];rfl
 .rintro acc U M' ⟨rfl,rfl,y,rfl⟩ p hp
  rw[cZ,bd.len,e9];exact q p hp
def Cz:Fq P w K mg base 1 a.N LD:=by
 refine fq G.N.toDG zX (λr u=>⟨_,(pj (pP (pH u vN v0)
 (pk (pC (xI v0 (qe vN))))
 pK)
 (pk (pC rQ))),?_⟩)
 rintro ds M Q ⟨r,bs,rfl,hr,q⟩
 have ei:inD (.bl pc) (bs.map D.bl)=(bs.findIdx? id).isSome:=by rw[<-BK];exact(Oe _ _).symm
 refine i' hr ⟨Z',Cf bs,?_⟩;show if inD (.bl pc) (bs.map D.bl)=pc then _ else _
 rw[ei];cases e:bs.findIdx? id with
 | none=>rw[e]at q;exact⟨M,.refl,q⟩
 | some j=>rw[e]at q;exact OS ⟨by show(oj M r).isSome=pc;rw[hr];rfl,i' hr ⟨Z',Cf bs,i' ((BK bs).trans e) ⟨M,.refl,q⟩⟩⟩
def Qp:Fq P w K mg base 2 a.bJ (Es a):=by
 refine fq G.bJ.toDG Dm (λr u=>⟨_,(pk (pC (pR qw Z' G.g qv (qe (qF Z' (yb (ix:=[Db,Fa 1]) (N':=["call","phone"])) (qB (pF v0)) (qG 0) (vC (um (pW v0 G.e.toCls G.bN (Rx G) r (qe U1)))) v0))))),?_⟩)
 rintro ds M Q ⟨A,V,x,rfl,bd,XF,q⟩
 have hz:=dS;refine pq bd.at_ (i' Z' (i' bd.ca ?_));refine wD (A.cs.map λk=>D.ref k.p) (λpre acc U M'=>M=M'/\acc.length=((V.calls.take pre.length).filter (·.hasB x)).length/\∃y,U=[y,Fa (.str x)]) (λ_ _ _ M' j=>by rw[<-j.1];exact bd.ca) _ [] [] _ _ Z' ?_ ⟨Z',Z',Db,Z'⟩ ?_ ?_
 .rw[cZ,bd.len];simp only[dR];omega
 .rintro pre d post e acc U M' ⟨rfl,ha,y,rfl⟩ k k2 hk YJ
  obtain⟨ka,c,e1,e2,rfl,hc,et⟩:=Jo bd e;rw[df,dM,et,gK]at hk YJ;obtain⟨_,_,g1,_⟩:=id hc;refine pq g1 ⟨Z',_,⟨Z',Z'⟩,_,ka,c,x,Z',hc,?_⟩;refine qC (c:=c.hasB x) (λg=>?_) (λg=>?_)
  .refine hk _ _ _ ⟨Z',?_,_,Z'⟩;rw[df,df,ha,gB (by exact g)];rfl
  .refine YJ _ _ ⟨Z',?_,_,Z'⟩;rw[df,ha,fT (by exact g)];rfl
 .rintro acc U M' ⟨rfl,ha,y,rfl⟩ p hp
  refine i' pD ⟨M,.new hp,?_⟩;rw[cZ,bd.len,e9]at ha;rw[ha];exact q
def Lo:Fq P w K mg base 3 a.bH (Di a):=by
 refine fq G.bH.toDG Ci (λr u=>⟨_,(pk (pC (pI (Cz G) r G.N (qe (qF Z' (yb (ix:=[Db,Fa 1]) (N':=["call","phone"])) (qB (pF v0)) (qG 0) rT (pW v0 G.e.toCls G.bM (LK G) r (qe U1))))))),?_⟩)
 rintro ds M Q ⟨A,V,x,rfl,bd,XF,q⟩
 refine pq bd.at_ (i' Z' (i' bd.ca (yk bd XF bd.ca (λ_ _ _ _=>rfl) λp hp=>⟨p,_,Z',pD,M,.new hp,?_⟩)));rw[ia];exact q
def Il:Fq P w K mg base 3 a.bI (Bb a):=by
 refine fq G.bI.toDG Aj (λr u=>⟨_,(pk (pC (pI (Cz G) r G.N (qe (qF Z' (yb (ix:=[Db,Fa 1]) (N':=["call","phone"])) (qB (pF v0)) (qG 0) rT (pW v0 G.e.toCls G.U (By G) r (qe U1))))))),?_⟩)
 rintro ds M Q ⟨A,V,x,rfl,bd,XF,q⟩
 refine pq bd.at_ (i' Z' (i' bd.ca (yk bd XF bd.ca (λ_ _ _ _=>rfl) λp hp=>⟨p,_,Z',pD,M,.new hp,?_⟩)));rw[ia];exact q
def yN:Fq P w K mg base 3 a.S (Be a):=by
 refine fq G.S.toDG zV (λr u=>⟨_,(pk (pC (pI (Cz G) r G.N (qe (qF Z' (yb (ix:=[Db,Fa 1]) (N':=["call","phone"])) (qB (pF v0)) (qG 0) rT (pW v0 G.e.toCls G.V (wn G) r (qe U1))))))),?_⟩)
 rintro ds M Q ⟨A,V,x,rfl,bd,XF,q⟩
 refine pq bd.at_ (i' Z' (i' bd.ca (yk bd XF bd.ca (λ_ _ _ _=>rfl) λp hp=>⟨p,_,Z',pD,M,.new hp,?_⟩)));rw[ia];exact q
def GK:Fq P w K mg base 3 a.bQ (zS a):=by
 refine fq G.bQ.toDG zk (λr u=>⟨_,(pk (pC (pR (ML Z') Z' G.b6 Lr (qe (qF Z' (yb (ix:=[Db,Fa 1]) (N':=["call","phone"])) (qB (pF v0)) (qG 0) rT (pW v0 G.e.toCls G.aA (Gz G) r (qe U1))))))),?_⟩)
 rintro ds M Q ⟨A,V,x,rfl,bd,XF,q⟩
 refine pq bd.at_ (i' Z' (i' bd.ca (yk bd XF bd.ca (λ_ _ _ _=>rfl) λp hp=>i' pD ?_)));rw[eG];refine i' (yp _ _) ⟨M,.new hp,?_⟩;rw[jU];exact q
def GX:Fq P w K mg base 1 a.bP (Aa a):=by
 refine fq G.bP.toDG zB (λr u=>⟨_,(pk (pC (pU (pU (pF v0) (pF v0)) pz))),?_⟩)
 rintro ds M Q ⟨A,V,rfl,bd,q⟩
 exact pq bd.at_ (i' Z' (pq bd.at_ (i' Z' ⟨by decide,M,.refl,q⟩)))
def LM{l:pG}{x:Str}{v:uO}(h:l.ng x=Fa v):xi l x=v.2.1:=by unfold xi;rw[h];rfl
def y9:Fq P w K mg base 3 a.T (xn a):=by
 refine fq G.T.toDG zU (λr u=>⟨_,(pk (pC (qm u (pW v0 G.c.toCls G.bJ (Qp G) r (qe U1)) (pW (pF v0) G.h.toCls G.bK (C1 G) r (qe U1))))),?_⟩)
 rintro ds M Q ⟨A,V,l,x,rfl,rd,hx,q⟩
 obtain⟨ph,gr,ws,YD,pr,gd,rs,i1,_⟩:=rd.pl;obtain⟨v,hv⟩:=yE hx;refine pq rd.bd.at_ ⟨Z',_,⟨Z',Z'⟩,A,V,x,Z',rd.bd,rd.k,?_⟩;refine pq rd.bd.at_ (i' Z' (pq i1 ⟨Z',_,⟨Z',Z'⟩,V.p,x,v,l,Z',rd.pl,hv,?_⟩));unfold tZ at q;rw[LM hv]at q;exact⟨M,.refl,q⟩
def AH:Fq P w K mg base 4 a.aN (z9 a):=by
 refine fq G.aN.toDG zO (λr u=>⟨_,(pk (pC (qF Z' (yb (ix:=[Db,Fa 1,Fa 0]) (N':=["phone","caller","self"])) (qB (pW (pF v0) G.h.toCls G.X (ul G) r (qe U2))) (qG 0) (vC (W3.b3 (xP (pH u v0 U1) (wZ (um (pW U2 G.c.toCls G.T (y9 G) r (qe v0))))))) v0))),?_⟩)
 rintro ds M Q ⟨A,V,l,c,z,rfl,rd,Yh,q⟩
 obtain⟨ph,gr,ws,YD,pr,gd,rs,i1,_⟩:=rd.pl;obtain⟨⟨_,p4,_,pin⟩,_⟩:=rd.ok.of Yh;refine pq rd.bd.at_ (i' Z' (pq i1 ⟨Z',_,⟨Z',Z'⟩,V.p,z,l,Z',rd.pl,λq1 X8=>i' pD ?_⟩));have s1:=qp.new (c:=.lst (List.map D.str (l.mI z))) X8;have c1:=@pD M q1 (List.map D.str (l.mI z));generalize pE M q1 (.lst (List.map D.str (l.mI z)))=M1 at s1 c1 ⊢;have hz:=dS;have Za:=rd.sub s1;refine tP (f:=id) (t:=λd=>match d with|.str x=>!(x==c)&&tZ l V x|_=>Uf) c1 _ [] _ (by rw[cZ];simp only[dR];omega) (λd hd k hk=>?_) (λd hd _ k hk=>?_) λq2 YS=>?_
 .obtain⟨x,hx,rfl⟩:=dJ.mp hd;have hk:k (!(x==c)&&tZ l V x) M1:=hk;cases e:x==c with
  | true=>rw[e]at hk;refine Mt (c:=!(x==c)) (by rw[e];rfl) hk
  | false=>rw[e]at hk;refine Ba (c:=!(x==c)) (by rw[e];rfl) (pq Za.bd.at_ ⟨Z',_,⟨Z',Z'⟩,A,V,l,x,Z',Za,pin x hx,hk⟩)
 .obtain⟨x,hx,rfl⟩:=dJ.mp hd;exact hk
 .have ef:[]++(List.filter (λd=>match d with|.str x=>!(x==c)&&tZ l V x|_=>Uf) ((l.mI z).map D.str)).map id=(uE l V c z).map D.str:=by rw[eB,jh,hJ];rfl
  rw[ef];have t2:=qp.new (c:=.lst ((uE l V c z).map D.str)) YS;exact⟨_,.refl,q q2 _ (s1.trans t2) (s1.none YS) pD⟩
def FE:Fq P w K mg base 5 a.P (Pq a):=by
 refine fq G.P.toDG Hz (λr u=>⟨_,(pk (pC (qm u (pR qw Z' G.g qv (qe (pW v0 G.c.toCls G.aN (AH G) r (rN U1 U2)))) pz))),?_⟩)
 rintro ds M Q ⟨A,V,l,c,z,rfl,rd,tg,q⟩
 refine pq rd.bd.at_ ⟨Z',_,⟨Z',Z'⟩,A,V,l,c,z,Z',rd,tg,λq1 M1 s1 X8 e1=>i' e1 ⟨M,s1,?_⟩⟩;have e:((((uE l V c z).map D.str).length:Int)==0)=xF l V c z:=by unfold xF;rw[cZ,gu,fB,List.isEmpty_iff,<-gA];omega
 show Q (.bl ((((uE l V c z).map D.str).length:Int)==0)) M;rw[e];exact q
def xl(a:Ad)(v:Wi):rk:=λds M Q=>J6 λp A V l c z=>ds=[.ref p,.ref A.b,.str c,.str z]/\M p=Fa (.ins (v.cls a) v.nF)/\Rd a M A V l/\z∈l.nm/\Cy l.pn l.nm v/\Q (.bl (AM l V c z v)) M
def Re(a:Ad)(v:Wi):rk:=λds M Q=>Af λp L k c=>ds=[.ref p,.ref (rE.p k)]/\M p=Fa (.ins (v.cls a) v.nF)/\rV a M L k c/\Q (.bl (GW c v)) M
def Gg:rk:=λds M Q=>C4 λx y=>ds=[x,y]/\Q (.bl Uf) M
def NU(a:Ad):Ch->rk->Prop:=λC sp=>∃v:Wi,C=v.cls a/\sp=xl a v
noncomputable def MO(a:Ad):Wi->rk
 | .silent x y n=>Re a (.silent x y n)
 | _=>Gg
def Gr(a:Ad):Ch->rk->Prop:=λC sp=>∃v:Wi,C=v.cls a/\sp=MO a v
def Ah(a:Ad):rk:=λds M Q=>J6 λp x y f l h=>ds=[.ref p,.int h]/\M p=Fa (.ins a.n (Wi.night x y f l).nF)/\Q (.bl (E2 f l h)) M
def zG(a:Ad):rk:=λds M Q=>J6 λp x q l r ms=>ds=[.ref p,.ref q,.ref r]/\M p=Fa (.ins a.o (Wi.breaks x).nF)/\sI a M q l/\oj M r=Fa (List.map D.str ms)/\ms.length<=100/\x∈l.pn/\(∀m∈ms,m∈l.pn)/\Q (.bl (Hw l x ms)) M
def Jl{l:pG}{x:Str}{v:uO}(h:l.ng x=Fa v):vU l x=v.2.2:=by unfold vU;rw[h];rfl
def rB{ks:List rE}{i:Nat}{k:rE}(h:ks[i]?=Fa k):vM (ks.map λk=>D.ref k.p) (i:Nat)=Fa (.ref k.p):=uB (by rw[dG,h];rfl)
def Nh(ds:T0 D):L3.uH ds (Fa (-1:Int)) Db=ds.drop (ds.length - 1):=by
 unfold L3.uH;have e:HT.tz ds.length 0 (Fa (-1:Int))=ds.length - 1:=by show(if (-1:Int)<0 then((-1:Int)+(ds.length:Int)).toNat else min (-1:Int).toNat ds.length)=ds.length - 1;rw[dz (by decide)];omega
 rw[e];show(ds.drop (ds.length - 1)).take (ds.length - (ds.length - 1))=_;exact iL (by rw[gj];exact dB _)
theorem D5{α:Type}:∀w:List α,w.drop (w.length - 1)=w.getLast?.toList
 | []=>rfl
 | [_]=>rfl
 | _::z::r=>by rw[List.getLast?_cons_cons,<-D5 (z::r)];rfl
def O5{p q:Ch}{w:QQQ}(h1:oj M p=Fa ((w.map D.str).drop ((w.map D.str).length - 1)))(h2:oj M q=Fa [D.str x]):yA M 9 (.ref p) (.ref q)=Fa (w.getLast?==Fa x):=by
 have e:(w.map D.str).drop ((w.map D.str).length - 1)=(w.getLast?.toList).map D.str:=by rw[cZ,<-ju];rw[D5]
 rw[e]at h1;show(oj M p).bind (λi=>(oj M q).bind λj=>if i.length=j.length then sR (yA M 8) i j else Fa Uf)=_;rw[h1,h2];cases w.getLast? with
 | none=>rfl
 | some y=>show((Fa (y==x)).bind λp=>(Fa pc).map λq=>p&&q)=Fa (Fa y==Fa x);show Fa ((y==x)&&pc)=_;rw[Bool.and_true];rfl
def Me(G:Gl K mg a)(x:Str)(ns:QQQ):Fq P w K mg base 6 a.aE (xl a (.bar x ns)):=by
 refine fq G.aE.toDG Gc (λr u=>⟨_,(pk (pC (tH (qm u U2 (pF v0)) (sV (qm u U3 (pF v0)))))),?_⟩)
 rintro ds M Q ⟨p,A,V,l,c,z,rfl,hp,_,_,_,q⟩
 refine pq hp ?_;refine qC (c:=c==x) (λg=>pq hp ⟨Z',qx ns,M,.refl,?_⟩) (λg=>⟨M,.refl,?_⟩)
 .show Q (.bl (inD (.str z) (ns.map D.str))) M;rw[sE];dsimp only[AM]at q;rw[g,eP]at q;exact q
 .dsimp only[AM]at q;rw[show(c==x)=Uf from dO.mpr g,fh]at q;exact q
def MW(G:Gl K mg a)(x:Str)(ns:QQQ):Fq P w K mg base 6 a.aF (xl a (.shut x ns)):=by
 refine fq G.aF.toDG Ep (λr u=>⟨_,(pk (pC (tH (qm u U3 (pF v0)) (sV (qm u U2 (pF v0)))))),?_⟩)
 rintro ds M Q ⟨p,A,V,l,c,z,rfl,hp,_,_,_,q⟩
 refine pq hp ?_;refine qC (c:=z==x) (λg=>pq hp ⟨Z',qx ns,M,.refl,?_⟩) (λg=>⟨M,.refl,?_⟩)
 .show Q (.bl (inD (.str c) (ns.map D.str))) M;rw[sE];dsimp only[AM]at q;rw[g,eP]at q;exact q
 .dsimp only[AM]at q;rw[show(z==x)=Uf from dO.mpr g,fh]at q;exact q
def LH(G:Gl K mg a)(x y:Str):Fq P w K mg base 6 a.aG (xl a (.always x y)):=by
 refine fq G.aG.toDG B2 (λr u=>⟨_,(pk (pC (qm u U3 (pF v0)))),?_⟩)
 rintro ds M Q ⟨p,A,V,l,c,z,rfl,hp,_,_,_,q⟩
 exact pq hp ⟨M,.refl,q⟩
def GC:Fq P w K mg base 1 a.bO (Ah a):=by
 refine fq G.bO.toDG zi (λr u=>⟨_,(pj (pP (pH u (pF v0) (pF v0))
 (pk (pC (uy u (pF v0) U1 (pF v0))))
 pK)
 (pk (pC (JU (qm u U1 (pF v0)) (sV (qm u U1 (pF v0))))))),?_⟩)
 rintro ds M Q ⟨p,x,y,f,l,h,rfl,hp,q⟩
 refine pq hp (pq hp ?_);show if (decide (f<l))=pc then _ else _
 unfold E2 at q;by_cases z:f<l
 .rw[dz z]at q;refine Ba (d6 z) (pq hp ?_);refine qC (c:=decide (f<=h)) (λg=>?_) (λg=>?_)
  .rw[g,eP]at q;exact pq hp ⟨M,.refl,q⟩
  .rw[show decide (f<=h)=Uf from dO.mpr g,fh]at q;exact⟨M,.refl,q⟩
 .rw[dh z]at q;refine Mt (eY z) (pq hp ?_);refine qC (c:=decide (h>=f)) (λg=>?_) (λg=>?_)
  .rw[g,ib]at q;exact⟨M,.refl,q⟩
  .rw[show decide (h>=f)=Uf from dO.mpr g,fX]at q;exact pq hp ⟨M,.refl,q⟩
def NA(G:Gl K mg a)(x y:Str)(f m:Int):Fq P w K mg base 6 a.aH (xl a (.night x y f m)):=by
 refine fq G.aH.toDG Ds (λr u=>⟨_,(pk (pC (tH (qm u U3 (pF v0)) (sV (pW v0 G.n.toCls G.bO (GC G) r (qe (vX U1 G.c.toCls G.bP (GX G) r))))))),?_⟩)
 rintro ds M Q ⟨p,A,V,l,c,z,rfl,hp,rd,_,_,q⟩
 dsimp only[AM]at q;refine pq hp ?_;refine qC (c:=z==x) (λg=>?_) (λg=>?_)
 .rw[g,eP]at q;exact pq hp ⟨Z',_,⟨Z',Z'⟩,pq rd.bd.at_ ⟨Z',_,⟨Z',Z'⟩,A,V,Z',rd.bd,p,x,y,f,m,_,Z',hp,M,.refl,q⟩⟩
 .rw[show(z==x)=Uf from dO.mpr g,fh]at q;exact⟨M,.refl,q⟩
def Lm(G:Gl K mg a)(x y:Str):Fq P w K mg base 6 a.aI (xl a (.busy x y)):=by
 refine fq G.aI.toDG Eh (λr u=>⟨_,(pk (pC (tH (qm u U3 (pF v0)) (sV (pI (FE G) r G.P (rj U1 U2 U3)))))),?_⟩)
 rintro ds M Q ⟨p,A,V,l,c,z,rfl,hp,rd,hz,_,q⟩
 dsimp only[AM]at q;refine pq hp ?_;refine qC (c:=z==x) (λg=>?_) (λg=>?_)
 .rw[g,eP]at q;exact⟨A,V,l,c,z,Z',rd,hz,M,.refl,q⟩
 .rw[show(z==x)=Uf from dO.mpr g,fh]at q;exact⟨M,.refl,q⟩
def MJ(G:Gl K mg a)(x y:Str)(n:Int):Fq P w K mg base 6 a.aJ (xl a (.silent x y n)):=by
 refine fq G.aJ.toDG BW (λr u=>⟨_,(pk (pC vN)),?_⟩)
 rintro ds M Q ⟨p,A,V,l,c,z,rfl,hp,rd,hz,_,q⟩
 exact⟨M,.refl,q⟩
def Nq(G:Gl K mg a)(x:Str):Fq P w K mg base 6 a.aK (xl a (.wait x)):=by
 refine fq G.aK.toDG Er (λr u=>⟨_,(pj (pP (W3.b3 (xp (pH u U3 (pF v0)) (wg (pH u U2 (pF v0)))))
 (pk (pC vN))
 pK)
 (pk (pC (tH (pI (FE G) r G.P (rj U1 U2 U3)) (sV (Rj (pW U1 G.c.toCls G.bQ (GK G) r (qe U3)))))))),?_⟩)
 rintro ds M Q ⟨p,A,V,l,c,z,rfl,hp,rd,hz,_,q⟩
 dsimp only[AM]at q;refine pq hp ?_;refine qC (c:=!(z==x)) (λg=>?_) (λg=>?_)
 .rw[g,ib]at q;exact⟨M,.refl,q⟩
 rw[show(!(z==x))=Uf from dO.mpr g,fX]at q;refine pq hp ?_;refine qC (c:=c==x) (λg=>?_) (λg=>?_)
 .rw[g]at q;exact⟨M,.refl,q⟩
 rw[dh g]at q;refine⟨A,V,l,c,z,Z',rd,hz,?_⟩;refine qC (c:=xF l V c z) (λg=>?_) (λg=>?_)
 .rw[g,eP]at q;exact pq rd.bd.at_ ⟨Z',_,⟨Z',Z'⟩,A,V,z,Z',rd.bd,rd.k,M,.refl,q⟩
 .rw[show xF l V c z=Uf from dO.mpr g,fh]at q;exact⟨M,.refl,q⟩
def Gq:Fq P w K mg base 2 a.bR (zG a):=by
 refine fq G.bR.toDG vp (λr u=>⟨_,(pj (pL 3 vp (pW U1 G.h.toCls G.aO (zh G) r (qe (pF v0))))
 (pk (pC (pR (EF Z') Z' G.bT EN (qe (qF Z' (yb (ix:=[Db,Fa 1,Fa 3]) (N':=["member","plan","rank"])) (qB U2) (qG 0) rT (qm u (pW U1 G.h.toCls G.aO (zh G) r (qe v0)) U2))))))),?_⟩)
 rintro ds M Q ⟨p,x,q,l,r,ms,rfl,hp,pl,lr,h100,hx,hm,k⟩
 have hz:=dS;obtain⟨v,hv⟩:=yE hx;obtain⟨ph,gr,ws,YD,pr,gd,rs,i1,_⟩:=id pl;refine pq i1 ⟨Z',_,⟨Z',Z'⟩,pq hp (i' Z' ⟨q,x,v,l,Z',pl,hv,?_⟩)⟩;refine i' lr (qW (f:=λd=>match d with|.str m=>.bl (decide (vU l m<vU l x))|_=>.mP) lr _ [] _ (by rw[cZ];show 0+ms.length<=pi;omega) (λd hd k0 hk=>?_) λp1 YR=>?_)
 .obtain⟨m,hmm,rfl⟩:=dJ.mp hd;obtain⟨u,hu⟩:=yE (hm m hmm);have hk:k0 (.bl (decide (vU l m<vU l x))) M:=hk;rw[Jl hu,Jl hv]at hk;exact pq i1 ⟨Z',_,⟨Z',Z'⟩,q,m,u,l,Z',pl,hu,hk⟩
 .have em:[]++(ms.map D.str).map (λd=>match d with|.str m=>.bl (decide (vU l m<vU l x))|_=>.mP)=ms.map λm=>D.bl (decide (vU l m<vU l x)):=by rw[eB,eG];rfl
  rw[em];refine i' pD (i' (yp (λm=>decide (vU l m<vU l x)) ms) ⟨M,.new YR,?_⟩);unfold Hw at k;rw[ze];exact k
def MK(G:Gl K mg a)(x:Str):Fq P w K mg base 6 a.aL (xl a (.breaks x)):=by
 refine fq G.aL.toDG vw (λr u=>⟨_,(pj (pP (W3.b3 (xp (pH u U2 (pF v0)) (wg (pH u U3 (pF v0)))))
 (pk (pC vN))
 pK)
 (pj (pP (W3.b3 (xp (pH u U3 (vX (pF U1) G.h.toCls G.L (sF G) r)) (wg (vt (um (pI (FE G) r G.P (rj U1 U2 U3)))))))
 (pk (pC vN))
 pK)
 (pj (pL 4 vw (pW U1 G.c.toCls G.S (yN G) r (qe U3)))
 (pj (pP (pH u v4 rQ)
 (pk (pC vN))
 pK)
 (pj (pL 5 vw (pF (pJ (pF U1) v4)))
 (pk (pC (tH (qm u (pR qw Z' G.g qv (qe v5)) pz) (sV (pW v0 G.o.toCls G.bR (Gq G) r (rN (pF U1) v5))))))))))),?_⟩)
 rintro ds M Q ⟨p,A,V,l,c,z,rfl,hp,rd,Yh,hx,q⟩
 have hx:x∈l.pn:=qU.mp hx;obtain⟨ph,gr,ws,YD,pr,gd,rs,i1,_⟩:=rd.pl;have p8:=rd.ok.p8;dsimp only[AM,Iw]at q;refine pq hp ?_;refine qC (c:=!(c==x)) (λh1=>?_) (λh1=>?_)
 .rw[h1,ib]at q;exact⟨M,.refl,q⟩
 rw[show(!(c==x))=Uf from dO.mpr h1,fX]at q;refine pq hp ?_;refine qC (c:=z==x) (λh2=>?_) (λh2=>?_)
 .rw[h2]at q;exact⟨M,.refl,q⟩
 rw[dh h2]at q;refine pq rd.bd.at_ (i' Z' (pq i1 ⟨Z',_,⟨Z',Z'⟩,V.p,l,Z',rd.pl,by omega,λq1 X8=>i' pD ⟨Z',qx _,?_⟩⟩));have t:=qp.new (c:=.lst (l.pn.map D.str)) X8;have XG:=rd.sub t;generalize pE M q1 (.lst (l.pn.map D.str))=M1 at t XG ⊢;show if (!(inD (.str z) (l.pn.map D.str)))=pc then _ else _
 rw[sE];refine qC (c:=!(hasS l.pn z)) (λh3=>?_) (λh3=>?_)
 .rw[h3,ib]at q;exact⟨M,t,q⟩
 rw[show(!(hasS l.pn z))=Uf from dO.mpr h3,fX]at q;refine⟨A,V,l,c,z,Z',XG,Yh,?_⟩;refine qC (c:=!(xF l V c z)) (λh4=>?_) (λh4=>?_)
 .rw[h4]at q;exact⟨M,t,q⟩
 rw[dh h4]at q;refine pq XG.bd.at_ ⟨Z',_,⟨Z',Z'⟩,A,V,z,Z',XG.bd,XG.k,?_⟩;cases e:vQ V z with
 | none=>rw[e]at q;rw[show Az V z=.mP from by unfold Az;rw[e];rfl];exact⟨M,t,q⟩
 | some j=>
  rw[show Az V z=.int (j:Nat)from by unfold Az;rw[e];rfl];have hj:j<V.calls.length:=(iM.mp e).1;have e2:V.calls[j]?=Fa V.calls[j]:=dg hj;rw[e]at q;generalize V.calls[j]=k at e2;have q:Q (.bl (((V.calls[j]?).elim Uf λk=>(k.ms.length==2)&&Hw l x k.ms))) M:=q;rw[e2]at q;have hj:j<A.cs.length:=by rw[rd.bd.len];exact hj
  have ek:A.cs[j]?=Fa A.cs[j]:=dg hj;obtain⟨ad,md,f1,f2,f3,f4,_⟩:=XG.bd.cs j _ k ek e2;refine pq XG.bd.at_ (i' Z' (i' Z' (i' XG.bd.ca (i' (rB ek) (pq f1 (i' Z' ?_))))));refine i' f4 ?_;have el:((((k.ms.map D.str).length:Nat):Int)==2)=(k.ms.length==2):=by rw[cZ,gu,fB,fB];omega
  show if ((((k.ms.map D.str).length:Nat):Int)==2)=pc then _ else _
  rw[el];have q:Q (.bl ((k.ms.length==2)&&Hw l x k.ms)) M:=q;refine qC (c:=k.ms.length==2) (λh5=>?_) (λh5=>?_)
  .rw[h5,eP]at q;have hm:=rd.ms k (qL e2);refine pq (t _ _ hp) ⟨Z',_,⟨Z',Z'⟩,pq XG.bd.at_ (i' Z' ⟨p,x,V.p,l,md,k.ms,Z',t _ _ hp,XG.pl,f4,hm.2,hx,hm.1,M,t,q⟩)⟩
  .rw[show(k.ms.length==2)=Uf from dO.mpr h5,fh]at q;exact⟨M,t,q⟩
def Mj:Fq P w K mg base 1 a.r Gg:=by
 refine fq G.r.toDG CD (λr u=>⟨_,(pk (pC vN)),?_⟩)
 rintro ds M Q ⟨x,y,rfl,q⟩
 exact⟨M,.refl,q⟩
def Sg(G:Gl K mg a)(x y:Str)(n:Int):Fq P w K mg base 1 a.aD (Re a (.silent x y n)):=by
 refine fq G.aD.toDG As (λr u=>⟨_,(pk (pC (tH (qm u (rW (pF U1) (sU (EZ pz)) sT) (qQ (qe (pF v0)))) (sV (qm u (pF v0) (pF U1)))))),?_⟩)
 rintro ds M Q ⟨p,L,k,c,rfl,hp,⟨ad,md,h1,h2,h3,h4,_⟩,q⟩
 refine pq h1 (i' Z' (i' h2 λp1 YR=>?_));have t1:=qp.new (c:=.lst (L3.uH (c.way.map D.str) (Fa (-1:Int)) Db)) YR;have l1:oj (pE M p1 (.lst (L3.uH (c.way.map D.str) (Fa (-1:Int)) Db))) p1=Fa ((c.way.map D.str).drop ((c.way.map D.str).length - 1)):=by rw[pD,Nh]
 show zo (pE M p1 (.lst (L3.uH (c.way.map D.str) (Fa (-1:Int)) Db)) p) _;generalize pE M p1 (.lst (L3.uH (c.way.map D.str) (Fa (-1:Int)) Db))=M1 at t1 l1 ⊢;refine pq (t1 _ _ hp) ⟨o9 Z',λp2 Xm=>?_⟩;have t2:=qp.new (c:=.lst [D.str x]) Xm;have l2:=@pD M1 p2 [D.str x];show Option.elim (yA (pE M1 p2 (.lst [D.str x])) 9 (.ref p1) (.ref p2)) False _;generalize pE M1 p2 (.lst [D.str x])=M2 at t2 l2 ⊢;have s2:=t1.trans t2;refine i' (O5 (t2.lst l1) l2) ?_;dsimp only[GW]at q;refine qC (c:=c.way.getLast?==Fa x) (λg=>?_) (λg=>?_)
 .rw[g,eP]at q;exact pq (s2 _ _ hp) (pq (s2 _ _ h1) ⟨M,s2,q⟩)
 .rw[show(c.way.getLast?==Fa x)=Uf from dO.mpr g,fh]at q;exact⟨M,s2,q⟩
def SS:∀C sp,NU a C sp->xT P w K mg base 6 "fits" C (Ol K sp):=by
 rintro C sp ⟨v,rfl,rfl⟩
 cases v with
 | bar x ns=>exact⟨G.t.toCls,_,_,_,G.aE.nq,Me G x ns,G.aE.b⟩
 | shut x ns=>exact⟨G.u.toCls,_,_,_,G.aF.nq,MW G x ns,G.aF.b⟩
 | always x y=>exact⟨G.x.toCls,_,_,_,G.aG.nq,LH G x y,G.aG.b⟩
 | night x y f m=>exact⟨G.n.toCls,_,_,_,G.aH.nq,NA G x y f m,G.aH.b⟩
 | busy x y=>exact⟨G.y.toCls,_,_,_,G.aI.nq,Lm G x y,G.aI.b⟩
 | silent x y n=>exact⟨G.v.toCls,_,_,_,G.aJ.nq,MJ G x y n,G.aJ.b⟩
 | wait x=>exact⟨G.w.toCls,_,_,_,G.aK.nq,Nq G x,G.aK.b⟩
 | breaks x=>exact⟨G.o.toCls,_,_,_,G.aL.nq,MK G x,G.aL.b⟩
def TN:∀C sp,Gr a C sp->xT P w K mg base 1 "is_due" C (Ol K sp):=by
 rintro C sp ⟨v,rfl,rfl⟩
 have F:=Mj (P:=P) (w:=w) (base:=base) G;cases v with
 | silent x y n=>exact⟨G.v.toCls,_,_,_,G.aD.nq,Sg G x y n,G.aD.b⟩
 | bar _ _=>exact⟨G.t.toCls,_,_,_,G.cs,F,G.r.b⟩
 | shut _ _=>exact⟨G.u.toCls,_,_,_,G.ct,F,G.r.b⟩
 | always _ _=>exact⟨G.x.toCls,_,_,_,G.cu,F,G.r.b⟩
 | night _ _ _ _=>exact⟨G.n.toCls,_,_,_,G.cv,F,G.r.b⟩
 | busy _ _=>exact⟨G.y.toCls,_,_,_,G.cw,F,G.r.b⟩
 | wait _=>exact⟨G.w.toCls,_,_,_,G.cx,F,G.r.b⟩
 | breaks _=>exact⟨G.o.toCls,_,_,_,G.cy,F,G.r.b⟩
def IT{es pre post:T0 D}{d:D}(e:pre++d::post=sZ 0 es):∃x,es[pre.length]?=Fa x/\d=.tup [.int (pre.length:Nat),x]:=by
 have h:(sZ 0 es)[pre.length]?=Fa d:=by rw[<-e];simp
 rw[wF]at h;cases q:es[pre.length]? with
 | none=>rw[q]at h;cases h
 | some x=>rw[q]at h;refine⟨x,Z',?_⟩;have:=(dA h).symm;rw[jQ]at this;exact this
def tJ(n:Nat):∀es:T0 D,(sZ n es).length=es.length:=λes=>by
 have h:∀i:Nat,(sZ n es)[i]?=Db↔es[i]?=Db:=λi=>by rw[wF];cases es[i]?<;>simp
 have a:=(h es.length).mpr (ic (dB _));have b:=(h (sZ n es).length).mp (ic (dB _));rw[List.getElem?_eq_none_iff]at a b;omega
def IH{l:pG}{V:qr}{f:Wi->Bool}{tt:AD}{ok:Mp->Prop}{Q:DK}{M:Mp}{rest:T0 (Option D)}(hl:V.on.length=l.mJ.length)(h16:l.mJ.length<=16)(mT:ok M) (ht:∀(i:Nat) (w:vd),l.mJ[i]?=Fa w->∀(y:Option D) (k:Bool->Mp->Prop),k (f w.2) M->tt (Fa (.int (i:Nat))::y::rest) M k) (q:∀p,M p=Db->Q (.ref p) (pE M p (.lst ((Ga l V f).map λn=>D.int (n:Nat))))):
  uU (Q4 2 (Ag (sf 0) (Ag (sf 1) Gx))) (O7 (b3 (v3 1)) tt) (v3 0) ok Q (sZ 0 (V.on.map D.bl)) [] (Db::Db::rest) M:=by
 have hz:=dS;refine wD (sZ 0 (V.on.map D.bl)) (λpre acc U M'=>M=M'/\acc=((List.range pre.length).filter λi=>V.on.getD i Uf&&(l.mJ[i]?).elim Uf λw=>f w.2).map (λn=>D.int (n:Nat))/\∃y1 y2,U=y1::y2::rest) (λ_ _ _ M' j=>by rw[<-j.1];exact mT) _ [] [] _ _ Z' ?_ ⟨Z',Z',Db,Db,Z'⟩ ?_ ?_
 .rw[tJ,cZ,hl];simp only[dR];omega
 .rintro pre d post e acc U M' ⟨rfl,rfl,y1,y2,rfl⟩ k k2 hk YJ
  obtain⟨x,hx,rfl⟩:=IT e;rw[df,dM,j7,gK]at hk YJ;rw[dG]at hx;cases eo:V.on[pre.length]? with
  | none=>rw[eo]at hx;cases hx
  | some b=>
   rw[eo]at hx;have hx:D.bl b=x:=dA hx;subst hx;have hi:pre.length<l.mJ.length:=by rw[<-hl];exact(de.mp eo).1
   have ew:l.mJ[pre.length]?=Fa l.mJ[pre.length]:=dg hi;generalize l.mJ[pre.length]=w0 at ew;have eg:V.on.getD pre.length Uf=b:=by rw[gM,eo];rfl
   have no:(b&&f w0.2)=Uf->k2 (Fa (.int (pre.length:Nat))::Fa (.bl b)::rest) M:=λg=>by refine YJ _ _ ⟨Z',?_,_,_,Z'⟩;rw[fT (by rw[eg,ew];show ¬(b&&f w0.2)=pc;rw[g];exact dE),gv,eE]
   refine⟨Z',?_⟩;show if b=pc then _ else _
   cases b with
   | false=>exact B6 (no Z')
   | true=>
    refine OS (ht _ _ ew _ _ ?_);cases g:f w0.2 with
    | false=>exact B6 (no (by rw[g];rfl))
    | true=>refine OS (hk _ _ _ ⟨Z',?_,_,_,Z'⟩);rw[gB (by rw[eg,ew];show(pc&&f w0.2)=pc;rw[g];rfl),gv,dQ];rfl
 .rintro acc U M' ⟨rfl,rfl,y1,y2,rfl⟩ p hp
  rw[tJ,cZ];exact q p hp
def yf(h:sO a M rs ws){i:Nat}{w:vd}(e:ws[i]?=Fa w):∃r,vM (rs.map D.ref) (i:Nat)=Fa (.ref r)/\M r=Fa (.ins (w.2.cls a) w.2.nF):=by
 have hi:i<rs.length:=by rw[h.1];exact(de.mp e).1
 exact⟨rs[i],uB (by rw[dG,dg hi];rfl),h.2 i _ w (dg hi) e⟩
def Hh(ds:T0 D)(m:Nat):L3.uH ds Db (Fa (m:Int))=ds.take m:=by
 unfold L3.uH;rw[HT.BI,HT.JS,ko,k9];by_cases h:m<=ds.length
 .rw[mo h]
 .rw[Nat.min_eq_right (by omega),e9,iL (by omega)]
def Fs(ds:T0 D)(m:Nat)(h:m<=ds.length):L3.uH ds (Fa (m:Int)) Db=ds.drop m:=by unfold L3.uH;rw[HT.BI,HT.JS,mo h];exact iL (by rw[gj];exact dB _)
def ux(l:pG)(V:qr):Prop:=∀z∈l.nm,(l.mS z=="turns")=pc->∃v,V.ps.find? (λp=>decide (p.1=z))=Fa v/\0<=v.2/\v.2<=((l.mI z).length:Int)
def LN{V:qr}(h:ux l V){z:Str}(hz:z∈l.nm)(e:(l.mS z=="turns")=pc):vI (tK V.ps) (.inr z)=Fa (.int (zD V z:Nat))/\zD V z<=(l.mI z).length:=by
 obtain⟨v,e1,e2,e3⟩:=h z hz e;have h1:zD V z=v.2.toNat:=by unfold zD;rw[e1];rfl
 have h2:vI (tK V.ps) (.inr z)=(V.ps.find? λp=>decide (p.1=z)).map λp=>D.int p.2:=yi (λp:Str×Int=>p.1) (λp=>D.int p.2) z V.ps;rw[h2,e1,h1];exact⟨by show Fa (D.int v.2)=Fa (.int (v.2.toNat:Nat));rw[Int.toNat_of_nonneg e2],by omega⟩
def Ib(a:Ad):rk:=λds M Q=>FQ λA V l c z=>ds=[.ref A.b,.str c,.str z]/\Rd a M A V l/\z∈l.nm/\Q (ui (BO l V c z)) M
def PL(a:Ad):rk:=λds M Q=>FQ λA V l c z=>ds=[.ref A.b,.str c,.str z]/\Rd a M A V l/\z∈l.nm/\ux l V/\Q (names (xA l V c z)) M
def Mc(a:Ad):rk:=λds M Q=>FQ λA V l c z=>ds=[.ref A.b,.str c,.str z]/\Rd a M A V l/\z∈l.nm/\ux l V/\Q (Hu l V c z).d M
def JZ:rk:=λds M Q=>C9 λx r z=>ds=[.tup (.str x::r),.str z]/\Q (if (x=="wait")=pc then(vD.waits z).d else if (x=="break")=pc then(vD.breaks z).d else vD.barred.d) M
def rC(st:sP):T0 D:=st.map λs=>.tup [.str s.1,ui s.2]
def LP(a:Ad):rk:=λds M Q=>Tq λA V l c z r way=>ds=[.ref A.b,.str c,.str z,.ref r]/\Rd a M A V l/\z∈l.nm/\ux l V/\oj M r=Fa (List.map D.str way)/\way.length<=8000000/\∀q M',qp M M'->M q=Db->oj M' q=Fa (rC (uq l V c z way).2)->Q (.tup [(uq l V c z way).1.d,.ref q]) M'
def Bu{V:qr}{f:Wi->Bool}{i:Nat}(h:i∈Ga l V f):∃w,l.mJ[i]?=Fa w/\f w.2=pc:=by
 have h:=(fQ.mp h).2;rw[eh]at h;cases e:l.mJ[i]? with
 | none=>rw[e]at h;cases h.2
 | some w=>rw[e]at h;exact⟨w,Z',h.2⟩
def JK(l:pG)(way:QQQ):Nat:=(l.nm.filter λx=>!(hasS way x)).length
def Bt{l:pG}{z:Str}(hz:z∈l.nm)(h:hasS way z=Uf):JK l (way++[z])<JK l way:=by
 unfold JK;have e:(l.nm.filter λx=>!(hasS (way++[z]) x))=(l.nm.filter λx=>!(hasS way x)).filter λx=>!(x==z):=by rw[List.filter_filter];refine List.filter_congr λx _=>?_;unfold hasS;rw[mj];show(!(way.any (·==x)||((z==x)||false)))=_;rw[kD,Bool.not_or,Bool.and_comm,mx]
 rw[e];refine Nat.lt_of_le_of_ne (fP _ _) λg=>?_;have:=jd.mp (List.Sublist.eq_of_length gf g) z (fQ.mpr ⟨hz,by rw[h];rfl⟩);simp at this
def Cn(ok:rm l){w:vd}(hw:w∈l.mJ){z y:Str}(h:IG z w.2=.inr y):y∈l.nm:=by
 have o:=ok.wo w hw;cases e:w.2 with
 | bar _ _=>rw[e]at h;cases h
 | shut _ _=>rw[e]at h;cases h
 | always x u=>rw[e]at h o;cases h;exact qU.mp o.2.1
 | night x u f m=>rw[e]at h o;cases h;exact qU.mp o.2.1
 | busy x u=>rw[e]at h o;cases h;exact qU.mp o.2.1
 | silent x u n=>rw[e]at h o;cases h;exact qU.mp o.2.1
 | wait _=>rw[e]at h;cases h
 | breaks _=>rw[e]at h;cases h
theorem Eg(x:Str):∀ss:QQQ,x∈ss->A7 (.str x) (ss.map D.str)=Fa (ss.findIdx (·==x))
 | [],h=>by cases h
 | y::r,h=>by
  rw[d9,List.findIdx_cons];unfold A7;show(if (y==x)=pc then Fa 0 else(A7 (.str x) (r.map D.str)).map (·+1))=_;cases e:y==x with
  | true=>rfl
  | false=>
   rw[dh dE];have hr:x∈r:=by
    rcases dw.mp h with g|g
    .rw[g,fv]at e;cases e
    .exact g
   rw[Eg x r hr];rfl
def Ho:Fq P w K mg base 7 a.aU (Ib a):=by
 refine fq G.aU.toDG BG (λr u=>⟨_,(pj (pL 3 BG (pF (pF v0)))
 (pk (pC (qg uF Z' G.E ua (qe (qF Z' (yb (ix:=[Db,Db,Fa 3,Fa 0,Fa 1,Fa 2]) (N':=["i","on","wishes","board","caller","target"])) (vk Z' G.aR (qe (pF v0))) (uX (n:=2) Z' (qE (qG 0) (qE (qG 1) ub))) (vC (W3.b3 (xP (um U1) (wZ (um (Fp (R:=NU a) (pJ U2 v0) (SS G) (r.mono (by first|decide|omega)) (rj U3 v4 v5))))))) v0)))))),?_⟩)
 rintro ds M Q ⟨A,V,l,c,z,rfl,rd,hz,q⟩
 obtain⟨ph,gr,ws,YD,pr,gd,rs,i1,i2,i3,i4,i5,i6,i7,i8⟩:=rd.pl;refine pq rd.bd.at_ (i' Z' (pq i1 (i' Z' ?_)));refine pq rd.bd.at_ (i' Z' (i' rd.bd.on ?_));refine IH (rest:=[Fa (.ref ws),Fa (.ref A.b),Fa (.str c),Fa (.str z)]) rd.on rd.ok.w16 rd.bd.on (λi w0 ew y k hk=>?_) λp hp=>i' pD ⟨M,.new hp,q⟩;obtain⟨r,e1,e2⟩:=yf i8 ew;refine i' i4 (i' e1 (pq e2 ⟨by cases w0.2<;>rfl,_,⟨w0.2,Z',Z'⟩,r,A,V,l,c,z,Z',e2,rd,hz,rd.ok.wo w0 (qL ew),hk⟩))
def Qz:Fq P w K mg base 5 a.aV (PL a):=by
 refine fq G.aV.toDG tG (λr u=>⟨_,(pj (pL 3 tG (pW v0 G.c.toCls G.aN (AH G) r (rN U1 U2)))
 (pj (pP (pH u (pW (pF v0) G.h.toCls G.aM (xR G) r (qe U2)) pA)
 (pk (pC (qg uF Z' G.E ua (qe U3))))
 pK)
 (pj (pL 4 tG (pW (pF v0) G.h.toCls G.X (ul G) r (qe U2)))
 (pj (pL 5 tG (zy u (pF v0) U2))
 (pj (xb (i:=6) tG.nd Z' (Or.inl Z') Z' (yb (ix:=[Db,Fa 3]) (N':=["phone","free"])) (qB (pU (rW v4 (sU v5) sT) (rW v4 sT (sU v5)))) (qG 0) (vC (pH u v0 U1)) v0)
 (pk (pC (qg uF Z' G.E ua (qe (rW v6 sT (sU pz))))))))))),?_⟩)
 rintro ds M Q ⟨A,V,l,c,z,rfl,rd,Yh,nx,q⟩
 have hz:=dS;have bd:=rd.bd;have pl:=rd.pl;obtain⟨ph,gr,ws,YD,pr,gd,rs,i1,_⟩:=rd.pl;obtain⟨⟨_,tf,_⟩,_⟩:=rd.ok.of Yh;refine pq bd.at_ ⟨Z',_,⟨Z',Z'⟩,A,V,l,c,z,Z',rd,Yh,λq1 M1 s1 X8 e1=>?_⟩;refine pq (s1 _ _ bd.at_) (i' Z' (pq (s1 _ _ i1) ⟨Z',_,⟨Z',Z'⟩,V.p,z,l,Z',pl.sub s1,?_⟩));unfold xA at q;cases e:l.mS z=="turns" with
 | false=>rw[e]at q;exact Ba (c:=!(l.mS z=="turns")) (by rw[e];rfl) (i' e1 ⟨M,s1,q⟩)
 | true=>
  obtain⟨hn,nl⟩:=LN nx Yh e;generalize zD V z=n at hn nl q;rw[e,dz Z']at q;refine Mt (c:=!(l.mS z=="turns")) (by rw[e];rfl) ?_;refine pq (s1 _ _ bd.at_) (i' Z' (pq (s1 _ _ i1) ⟨Z',_,⟨Z',Z'⟩,V.p,z,l,Z',pl.sub s1,λq2 YS=>?_⟩));have s2:=s1.trans (qp.new (c:=.lst ((l.mI z).map D.str)) YS);have c2:=@pD M1 q2 ((l.mI z).map D.str);have e2:=(qp.new (c:=.lst ((l.mI z).map D.str)) YS).lst e1;generalize pE M1 q2 (.lst ((l.mI z).map D.str))=M2 at s2 c2 e2 ⊢;refine pq (s2 _ _ bd.at_) (i' Z' (i' Z' (i' (s2.dk bd.nx) (i' hn ?_))));refine i' c2 λq3 hq3=>?_;rw[Fs _ n (by rw[cZ];exact nl),<-ju];have t3:=qp.new (c:=.lst (((l.mI z).drop n).map D.str)) hq3;have c3':=@pD M2 q3 (((l.mI z).drop n).map D.str);generalize pE M2 q3 (.lst (((l.mI z).drop n).map D.str))=M3 at t3 c3' ⊢;refine i' (t3.lst c2) λq4 hq4=>?_;rw[Hh,<-kF];have t4:=qp.new (c:=.lst (((l.mI z).take n).map D.str)) hq4;have c4:=@pD M3 q4 (((l.mI z).take n).map D.str);generalize pE M3 q4 (.lst (((l.mI z).take n).map D.str))=M4 at t4 c4 ⊢;refine i' (t4.lst c3') (i' c4 ?_);refine⟨by rw[cZ,cZ,gj,eR];omega,λq5 hq5=>i' pD ?_⟩;rw[<-dQ];have t5:=qp.new (c:=.lst ((vf (l.mI z) n).map D.str)) hq5;have c5:=@pD M4 q5 ((vf (l.mI z) n).map D.str);show uU _ _ _ _ _ ((vf (l.mI z) n).map D.str) _ _ (pE M4 q5 (.lst ((vf (l.mI z) n).map D.str)));generalize pE M4 q5 (.lst ((vf (l.mI z) n).map D.str))=M5 at t5 c5 ⊢;have s5:=t3.trans (t4.trans t5);have e5:=s5.lst e2;have tl:(vf (l.mI z) n).length<=200:=by unfold vf;rw[df,gj,eR];omega
  refine tP (f:=id) (t:=λd=>inD d ((uE l V c z).map D.str)) c5 _ [] _ (by rw[cZ];simp only[dR];omega) (λd hd k hk=>?_) (λd hd _ k hk=>?_) λq6 hq6=>?_
  .obtain⟨x,hx,rfl⟩:=dJ.mp hd;exact i' e5 ⟨Z',qx _,hk⟩
  .obtain⟨x,hx,rfl⟩:=dJ.mp hd;exact hk
  .have ef:[]++(List.filter (λd=>inD d ((uE l V c z).map D.str)) ((vf (l.mI z) n).map D.str)).map id=((vf (l.mI z) n).filter λx=>hasS (uE l V c z) x).map D.str:=by
    rw[eB,jh,hJ];have:((λd=>inD d ((uE l V c z).map D.str))∘D.str)=λx=>hasS (uE l V c z) x:=by funext x;exact sE _ _
    rw[this]
   rw[ef];refine i' pD λq7 hq7=>i' pD ?_;rw[show L3.uH (((vf (l.mI z) n).filter λx=>hasS (uE l V c z) x).map D.str) Db (Fa (1:Int))=(((vf (l.mI z) n).filter λx=>hasS (uE l V c z) x).take 1).map D.str from(Hh _ 1).trans (kF).symm];exact⟨M,s2.trans (s5.trans ((qp.new hq6).trans (.new hq7))),q⟩
def Nm:Fq P w K mg base 6 a.aW (Mc a):=by
 refine fq G.aW.toDG vc (λr u=>⟨_,(pj (pL 3 vc (pI (Qz G) r G.aV (rj v0 U1 U2)))
 (pj (pP (pH u (pR qw Z' G.g qv (qe U3)) pz)
 (pk (pC (pN (rN pA U2))))
 pK)
 (pk (pC (pN (rj pA U2 U3)))))),?_⟩)
 rintro ds M Q ⟨A,V,l,c,z,rfl,rd,hz,nx,q⟩
 refine⟨A,V,l,c,z,Z',rd,hz,nx,?_⟩;unfold Hu at q;cases e:xA l V c z with
 | nil=>rw[e]at q;exact⟨o9 Z',M,.refl,q⟩
 | cons x r=>rw[e]at q;exact⟨o9 Z',M,.refl,q⟩
def Ko:Fq P w K mg base 1 a.aX JZ:=by
 refine fq G.aX.toDG Ao (λr u=>⟨_,(pj (pP (pH u (pJ v0 pz) pA)
 (pk (pC (pN (rN pA U1))))
 pK)
 (pj (pP (pH u (pJ v0 pz) pA)
 (pk (pC (pN (rN pA U1))))
 pK)
 (pk (pC (pN (qe pA)))))),?_⟩)
 rintro ds M Q ⟨x,r,z,rfl,q⟩
 refine i' (vK _ _) (qC (c:=x=="wait") (λg=>?_) (λg=>?_))
 .rw[dz g]at q;exact⟨o9 Z',M,.refl,q⟩
 rw[dh g]at q;refine i' (vK _ _) (qC (c:=x=="break") (λg=>?_) (λg=>?_))
 .rw[dz g]at q;exact⟨o9 Z',M,.refl,q⟩
 rw[dh g]at q;exact⟨o9 Z',M,.refl,q⟩
def Lw:Fq P w K mg base 8 a.aY (LP a):=by
 refine fq G.aY.toDG wC (λr u=>⟨_,(pj (pL 4 wC (qg sv Z' G.q rX (qe U3)))
 (pj (pL 5 wC (qQ r6))
 (pj (Mm eK (pH u U2 v4)
 (pj (pM (qJ v4 (qe U2)))
 (pj (pL 6 wC (pI (Ho G) r G.aU (rj v0 U1 U2)))
 (pj (pM (qJ v5 (qe (pN (rN U2 v6)))))
 (pj (pP (pH u (pR qw Z' G.g qv (qe v6)) pz)
 (pk (pC (pN (rN (pI (Nm G) r G.aW (rj v0 U1 U2)) v5))))
 pK)
 (pj (pL 7 wC (xJ (R:=zu a) (pJ (pF (pF v0)) (pJ v6 pz)) (Ex G) (r.mono (by first|decide|omega))))
 (pj (pP (pH u (pJ v7 pz) pA)
 (pk (pC (pN (rN (pI (Ko G) r G.aX (rN v7 U2)) v5))))
 pK)
 (pk (pL 2 wC (pJ v7 pz))))))))))
 (pk (pC (pN (rN (pN (rN pA (qg uF Z' G.E ua (qe (rW v4 (sU (xI v4 (qe U2))) sT))))) v5))))))),?_⟩)
 rintro ds M Q ⟨A,V,l,c,z0,r,Yx,rfl,rd,hz0,nx,hr0,hw0,q⟩
 have hz:=dS;have p8:=rd.ok.p8;have g3:=rd.ok.g3;have nl:l.nm.length<=11:=by unfold pG.nm pG.pn pG.gn;rw[df,cZ,cZ];omega
 refine i' hr0 λp1 YR=>⟨o9 Z',λp2 Xm=>?_⟩;have t1:=qp.new (c:=.lst (Yx.map D.str)) YR;have t2:=qp.new (c:=.lst []) Xm;have c1:oj (pE (pE M p1 (.lst (Yx.map D.str))) p2 (.lst [])) p1=Fa (Yx.map D.str):=t2.lst pD;have c2:=@pD (pE M p1 (.lst (Yx.map D.str))) p2 [];have n12:p2≠p1:=λy=>by rw[y,pS]at Xm;cases Xm
 have m2:M p2=Db:=t1.none Xm;have s2:=t1.trans t2;generalize pE (pE M p1 (.lst (Yx.map D.str))) p2 (.lst [])=M2 at c1 c2 s2 ⊢;refine⟨λm U M'=>∃z way st,qp M M'/\oj M' p1=Fa (List.map D.str way)/\oj M' p2=Fa (rC st)/\z∈l.nm/\JK l way<m/\way.length+m<=8000012/\st.length+m<=100/\vA l V c m z way st=uq l V c z0 Yx/\∃y6 y7,U=[Fa (.ref A.b),Fa (.str c),Fa (.str z),Fa (.ref r),Fa (.ref p1),Fa (.ref p2),y6,y7],⟨l.nm.length+1,z0,Yx,[],s2,c1,c2,hz0,Nat.lt_succ_of_le (fP _ _),by omega,by show 0+(l.nm.length+1)<=100;omega,Z',Db,Db,Z'⟩,?_⟩
 rintro m U M' ⟨z,way,st,sM,l1,l2,Yh,Xq,hwl,ZA,er,y6,y7,rfl⟩
 obtain⟨m,rfl⟩:∃k,m=k+1:=⟨m - 1,by omega⟩;have q2:∀Xf,qp M Xf->oj Xf p2=Fa (rC (vA l V c (m+1) z way st).2)->Q (.tup [(vA l V c (m+1) z way st).1.d,.ref p2]) Xf:=λXf s ll=>by rw[er]at ll ⊢;exact q p2 Xf s m2 ll
 clear q;unfold vA at er q2;refine i' l1 ⟨Z',qx way,?_⟩;show if (!(inD (.str z) (way.map D.str)))=pc then _ else _
 rw[sE];refine qC (c:=!(hasS way z)) (λh1=>?_) (λh1=>?_)
 rotate_left
 .
  have h1:hasS way z=pc:=by simpa using h1
  rw[dz h1]at q2;refine⟨by show(oj M' p1).isSome=pc;rw[l1];rfl,i' l1 ⟨Z',qx _,i' (Eg z way (qU.mp h1)) (i' l1 λp3 hp3=>?_)⟩⟩;have hle:way.findIdx (·==z)<=(way.map D.str).length:=by rw[cZ];exact List.findIdx_le_length
  rw[Fs _ _ hle,<-ju];refine i' pD ⟨o9 Z',o9 Z',_,.refl,q2 _ (sM.trans (.new hp3)) ((qp.new hp3).lst l2)⟩
 have h1:hasS way z=Uf:=by simpa using h1
 rw[h1,dh dE]at er q2;refine⟨by show(oj M' p1).isSome=pc;rw[l1];rfl,i' l1 ⟨by rw[cZ];omega,?_⟩⟩;have k3:rZ p1 M' (pE M' p1 (.lst (way.map D.str++[D.str z]))):=.put;have s3:qp M (pE M' p1 (.lst (way.map D.str++[D.str z]))):=λx d hx=>by rw[uo (Tc hx YR)];exact sM x d hx
 have c3:=k3.lst n12 l2;have l3:oj (pE M' p1 (.lst (way.map D.str++[D.str z]))) p1=Fa ((way++[z]).map D.str):=by rw[pD,dQ];rfl
 generalize pE M' p1 (.lst (way.map D.str++[D.str z]))=M3 at s3 c3 l3 ⊢;refine⟨A,V,l,c,z,Z',rd.sub s3,Yh,?_⟩;generalize hf:BO l V c z=fs at er q2 ⊢;refine⟨by show(oj M3 p2).isSome=pc;rw[c3];rfl,o9 Z',i' c3 ⟨by unfold rC;rw[cZ];omega,?_⟩⟩;have es:rC st++[.tup [.str z,ui fs]]=rC (st++[(z,fs)]):=by unfold rC;rw[dQ];rfl
 rw[es];have s4:qp M (pE M3 p2 (.lst (rC (st++[(z,fs)])))):=λx d hx=>by rw[uo (Tc hx m2)];exact s3 x d hx
 have c4:=@pD M3 p2 (rC (st++[(z,fs)]));have l4:oj (pE M3 p2 (.lst (rC (st++[(z,fs)])))) p1=Fa ((way++[z]).map D.str):=rZ.lst .put (dW n12) l3;generalize pE M3 p2 (.lst (rC (st++[(z,fs)])))=M4 at s4 c4 l4 ⊢;cases fs with
 | nil=>exact⟨A,V,l,c,z,Z',rd.sub s4,Yh,nx,o9 Z',M4,.refl,q2 M4 s4 c4⟩
 | cons i fr=>
  obtain⟨w0,ew,_⟩:=Bu (l:=l) (V:=V) (f:=AM l V c z) (i:=i) (by show i∈BO l V c z;rw[hf];exact dP);dsimp only at er q2;rw[ew]at er q2;dsimp only[Option.elim]at er q2;obtain⟨ph,gr,ws,YD,pr,gd,rs,i1,i2,i3,i4,i5,i6,i7,i8⟩:=(rd.sub s4).pl;obtain⟨ZV,e1,e2⟩:=yf i8 ew;have hwo:=rd.ok.wo w0 (qL ew);have ZW:∀y,IG z w0.2=.inr y->y∈l.nm:=λy h=>Cn rd.ok (qL ew) h;refine pq (s4 _ _ rd.bd.at_) (i' Z' (pq i1 (i' Z' (i' (vK _ _) (i' i4 (i' e1 ?_))))));cases hv:w0.2 with
  | bar x ns=>rw[hv]at q2 e2;exact pq e2 ⟨Z',_,.inl ⟨.inl Z',Z'⟩,ZV,Z',⟨"end",[],z,Z',o9 Z',M4,.refl,q2 M4 s4 c4⟩⟩
  | shut x ns=>rw[hv]at q2 e2;exact pq e2 ⟨Z',_,.inl ⟨.inr Z',Z'⟩,ZV,Z',⟨"end",[],z,Z',o9 Z',M4,.refl,q2 M4 s4 c4⟩⟩
  | wait x=>rw[hv]at q2 e2;exact pq e2 ⟨Z',_,.inr (.inr (.inl ⟨Z',Z'⟩)),ZV,_,_,_,Z',e2,Z',⟨"wait",_,z,Z',o9 Z',M4,.refl,q2 M4 s4 c4⟩⟩
  | breaks x=>rw[hv]at q2 e2;exact pq e2 ⟨Z',_,.inr (.inr (.inr ⟨Z',Z'⟩)),ZV,Z',⟨"break",_,z,Z',o9 Z',M4,.refl,q2 M4 s4 c4⟩⟩
  | always x y=>rw[hv]at er e2 ZW;exact pq e2 ⟨Z',_,.inr (.inl ⟨.inl Z',Z'⟩),ZV,_,_,_,Z',e2,Z',⟨m,fD _,y,way++[z],st++[(z,i::fr)],s4,l4,c4,ZW y Z',by have:=Bt Yh h1;omega,by rw[df];show way.length+1+m<=_;omega,by rw[df];show st.length+1+m<=_;omega,er,_,_,Z'⟩⟩
  | night x y f mm=>rw[hv]at er e2 ZW;exact pq e2 ⟨Z',_,.inr (.inl ⟨.inr (.inl Z'),Z'⟩),ZV,_,_,_,Z',e2,Z',⟨m,fD _,y,way++[z],st++[(z,i::fr)],s4,l4,c4,ZW y Z',by have:=Bt Yh h1;omega,by rw[df];show way.length+1+m<=_;omega,by rw[df];show st.length+1+m<=_;omega,er,_,_,Z'⟩⟩
  | busy x y=>rw[hv]at er e2 ZW;exact pq e2 ⟨Z',_,.inr (.inl ⟨.inr (.inr (.inl Z')),Z'⟩),ZV,_,_,_,Z',e2,Z',⟨m,fD _,y,way++[z],st++[(z,i::fr)],s4,l4,c4,ZW y Z',by have:=Bt Yh h1;omega,by rw[df];show way.length+1+m<=_;omega,by rw[df];show st.length+1+m<=_;omega,er,_,_,Z'⟩⟩
  | silent x y n=>rw[hv]at er e2 ZW;exact pq e2 ⟨Z',_,.inr (.inl ⟨.inr (.inr (.inr Z')),Z'⟩),ZV,_,_,_,Z',e2,Z',⟨m,fD _,y,way++[z],st++[(z,i::fr)],s4,l4,c4,ZW y Z',by have:=Bt Yh h1;omega,by rw[df];show way.length+1+m<=_;omega,by rw[df];show st.length+1+m<=_;omega,er,_,_,Z'⟩⟩
noncomputable def yP(V:qr)(i:Nat)(c:pB):qr:={V with calls:=V.calls.set i c}
def so(V:qr)(i:Nat)(c d:pB):yP (yP V i c) i d=yP V i d:=by unfold yP;rw[jR]
structure CI(a:Ad)(M:Mp)(A:uj)(V:qr)(i:Nat)(k:rE)(c:pB):Prop where
 bd:pO a M A V
 e1:A.cs[i]?=Fa k
 e2:V.calls[i]?=Fa c
noncomputable def cF(x:Str)(wy ad md:Ch)(k:Nat):T0 (Str×D):=List.take (α:=Str×D) k [("state",.str "rings"),("caller",.str x),("way",.ref wy),("at",.ref ad),("members",.ref md),("holder",.mP),("since",.int 0)]
variable {M':Mp}{i:Nat}{k:rE}
section
variable {c:pB}
def CI.cell(h:CI a M A V i k c):rV a M (A.lists++V.fo) k c:=h.bd.cs i k c h.e1 h.e2
def CI.sub(h:CI a M A V i k c)(s:qp M M'):CI a M' A V i k c:=⟨h.bd.sub s,h.e1,h.e2⟩
def CI.put(h:CI a M A V i k c)(c':pB){ad md:Ch}(ew:c'.way=c.way)(la:oj M ad=Fa (c'.at_.map D.str))(lm:oj M md=Fa (c'.ms.map D.str))(na:ad∉A.lists++V.fo)(nm:md∉A.lists++V.fo):
  CI a (pE M k.p (.ins a.e (rA c' k.wy ad md))) A (yP V i c') i k c'/\rb A M A (pE M k.p (.ins a.e (rA c' k.wy ad md))):=by
 obtain⟨b,s⟩:=h.bd.oi h.e1 h.e2 ew la lm na nm;refine⟨⟨b,h.e1,?_⟩,s⟩;show(V.calls.set i c')[i]?=Fa c';rw[fM (de.mp h.e2).1]
end
inductive QP(i:Nat)(c:pB):Ev->pB->Prop
 | rings (ps:QQQ):QP i c (.rings i ps) (c.ring ps)
 | quiet:QP i c (.quiet i) c.nJ
 | waits (x:Str):QP i c (.waits i x) (c.wait x)
 | talks (ms:QQQ):QP i c (.talks i ms) (c.nE ms)
 | held (x:Str):QP i c (.held i x) (c.hold x)
 | leaves (x:Str):QP i c (.leaves i x) (c.drop x)
 | over (w:Str):QP i c (.over i w) (c.over w)
def Gk(a:Ad):rk:=λds M Q=>C4 λp x=>ds=[.ref p,.str x]/\M p=Fa (.ins a.e [])/\∀M' wy ad md,rZ p M M'->M wy=Db->M ad=Db->M md=Db->ad≠wy->md≠wy->M' p=Fa (.ins a.e (rA (yU x) wy ad md))->oj M' wy=Fa []->oj M' ad=Fa []->oj M' md=Fa []->Q .mP M'
def Pl(a:Ad):rk:=λds M Q=>J6 λA V i k c w=>ds=[.ref k.p,.str w]/\CI a M A V i k c/\∀M',rb A M A M'->pO a M' A (yP V i (c.over w))->Q .mP M'
def Oc(a:Ad):rk:=λds M Q=>J6 λA V i k c x=>ds=[.ref k.p,.str x]/\CI a M A V i k c/\c.at_.length<=100/\c.ms.length<=100/\∀M',rb A M A M'->pO a M' A (yP V i (c.drop x))->Q .mP M'
def JW(a:Ad):rk:=λds M Q=>Tq λA V i k c e c'=>ds=[.ref k.p,Ev.d e]/\CI a M A V i k c/\c.at_.length<=100/\c.ms.length<=100/\QP i c e c'/\∀M',rb A M A M'->pO a M' A (yP V i c')->Q .mP M'
def PD:Fq P w K mg base 1 a.az (Gk a):=by
 refine fq G.az.toDG Fv (λr u=>⟨_,(pj (pZ v0 pA)
 (pj (pZ v0 U1)
 (pj (pZ v0 (qQ r6))
 (pj (pZ v0 (qQ r6))
 (pj (pZ v0 (qQ r6))
 (pj (pZ v0 rQ)
 (pj (pZ v0 pz)
 (pk (pZ v0 rQ))))))))),?_⟩)
 rintro ds M Q ⟨p,x,rfl,hb,q⟩
 refine pq hb ⟨(G.j "state" Z'),by show 0<1000;decide,?_⟩;have k1:rZ p M (pE M p (.ins a.e [("state",.str "rings")])):=.put;have b1:pE M p (.ins a.e [("state",.str "rings")]) p=Fa (.ins a.e [("state",.str "rings")]):=pS;show uk _ _ _ _ (pE M p (.ins a.e [("state",.str "rings")]));generalize pE M p (.ins a.e [("state",.str "rings")])=N1 at k1 b1 ⊢;refine pq b1 ⟨(G.j "caller" Z'),by show 1<1000;decide,?_⟩;have k2:=k1.trans (rZ.put (p:=p) (c:=.ins a.e [("state",.str "rings"),("caller",.str x)]));have b2:pE N1 p (.ins a.e [("state",.str "rings"),("caller",.str x)]) p=Fa (.ins a.e [("state",.str "rings"),("caller",.str x)]):=pS;show uk _ _ _ _ (pE N1 p (.ins a.e [("state",.str "rings"),("caller",.str x)]));generalize pE N1 p (.ins a.e [("state",.str "rings"),("caller",.str x)])=N2 at k2 b2 ⊢;refine⟨o9 Z',λwy hwy=>?_⟩;obtain⟨n3,e3,k3,c3,b3⟩:=tw (fs':=(cF x wy 0 0 3)) (c:=.lst []) b2 hwy;refine pq e3 ⟨(G.j "way" Z'),by show 2<1000;decide,?_⟩;show uk _ _ _ _ (pE (pE N2 wy (.lst [])) p (.ins a.e (cF x wy 0 0 3)));generalize pE (pE N2 wy (.lst [])) p (.ins a.e (cF x wy 0 0 3))=N3 at k3 c3 b3 ⊢;have z1:M wy=Db:=rK k2 b2 hwy;have kk3:=k2.trans k3;have l3:oj N3 wy=Fa []:=sQ c3;refine⟨o9 Z',λad ZE=>?_⟩;obtain⟨n4,e4,k4,c4,b4⟩:=tw (fs':=(cF x wy ad 0 4)) (c:=.lst []) b3 ZE;refine pq e4 ⟨(G.j "at" Z'),by show 3<1000;decide,?_⟩;show uk _ _ _ _ (pE (pE N3 ad (.lst [])) p (.ins a.e (cF x wy ad 0 4)));generalize pE (pE N3 ad (.lst [])) p (.ins a.e (cF x wy ad 0 4))=N4 at k4 c4 b4 ⊢;have z2:M ad=Db:=rK kk3 b3 ZE;have Zk:=kk3.trans k4;have naw:ad≠wy:=λz=>by rw[z,c3]at ZE;cases ZE
 have l4:=k4.lst (pT l3 b3) l3;have m4:oj N4 ad=Fa []:=sQ c4;refine⟨o9 Z',λmd hmd=>?_⟩;obtain⟨n5,e5,k5,c5,b5⟩:=tw (fs':=(cF x wy ad md 5)) (c:=.lst []) b4 hmd;refine pq e5 ⟨(G.j "members" Z'),by show 4<1000;decide,?_⟩;show uk _ _ _ _ (pE (pE N4 md (.lst [])) p (.ins a.e (cF x wy ad md 5)));generalize pE (pE N4 md (.lst [])) p (.ins a.e (cF x wy ad md 5))=N5 at k5 c5 b5 ⊢;have z3:M md=Db:=rK Zk b4 hmd;have Zl:=Zk.trans k5;have nmw:md≠wy:=λz=>by rw[z,qh l4]at hmd;cases hmd
 have l5:=k5.lst (pT l4 b4) l4;have m5:=k5.lst (pT m4 b4) m4;have o5:oj N5 md=Fa []:=sQ c5;refine pq b5 ⟨(G.j "holder" Z'),by show 5<1000;decide,?_⟩;have k6:rZ p N5 (pE N5 p (.ins a.e (cF x wy ad md 6))):=.put;have b6:pE N5 p (.ins a.e (cF x wy ad md 6)) p=Fa (.ins a.e (cF x wy ad md 6)):=pS;show uk _ _ _ _ (pE N5 p (.ins a.e (cF x wy ad md 6)));generalize pE N5 p (.ins a.e (cF x wy ad md 6))=N6 at k6 b6 ⊢;refine pq b6 ⟨(G.j "since" Z'),by show 6<1000;decide,?_⟩;have k7:=k6.trans (rZ.put (p:=p) (c:=.ins a.e (cF x wy ad md 7)));have b7:pE N6 p (.ins a.e (cF x wy ad md 7)) p=Fa (.ins a.e (cF x wy ad md 7)):=pS;rw[show wc "since" (.int 0) (cF x wy ad md 6)=(cF x wy ad md 7)from Z'];generalize pE N6 p (.ins a.e (cF x wy ad md 7))=N7 at k7 b7 ⊢;refine pq b7 ⟨(G.j "word" Z'),by show 7<1000;decide,_,.refl,?_⟩;have k8:=k7.trans (rZ.put (p:=p) (c:=.ins a.e (rA (yU x) wy ad md)));exact q _ wy ad md (Zl.trans k8) z1 z2 z3 naw nmw pS (k8.lst (pT l5 b5) l5) (k8.lst (pT m5 b5) m5) (k8.lst (pT o5 b5) o5)
def JM:Fq P w K mg base 1 a.aa (Pl a):=by
 refine fq G.aa.toDG F' (λr u=>⟨_,(pj (pZ v0 pA)
 (pj (pZ v0 U1)
 (pj (pZ v0 (qQ r6))
 (pj (pZ v0 (qQ r6))
 (pk (pZ v0 rQ)))))),?_⟩)
 rintro ds M Q ⟨A,V,i,k,c,w0,rfl,h,q⟩
 obtain⟨ad,md,h1,h2,h3,h4,n1,n2⟩:=h.cell;refine pq h1 ⟨(G.j "state" Z'),by show 8<1000;decide,?_⟩;obtain⟨g1,s1⟩:=h.put {c with st:="over"} Z' h3 h4 n1 n2;show uk _ _ _ _ (pE M k.p (.ins a.e (rA {c with st:="over"} k.wy ad md)));generalize pE M k.p (.ins a.e (rA {c with st:="over"} k.wy ad md))=M1 at g1 s1 ⊢;clear h1 h2 h3 h4 n1 n2;obtain⟨ad,md,h1,h2,h3,h4,n1,n2⟩:=g1.cell;refine pq h1 ⟨(G.j "word" Z'),by show 8<1000;decide,?_⟩;obtain⟨g2,s2⟩:=g1.put {c with st:="over",wd:=some w0} Z' h3 h4 n1 n2;show uk _ _ _ _ (pE M1 k.p (.ins a.e (rA {c with st:="over",wd:=some w0} k.wy ad md)));generalize pE M1 k.p (.ins a.e (rA {c with st:="over",wd:=some w0} k.wy ad md))=M2 at g2 s2 ⊢;clear h1 h2 h3 h4 n1 n2;refine⟨o9 Z',λp hp=>?_⟩;have t3:=qp.new (c:=.lst []) hp;have lp:=@pD M2 p [];have np:=g2.bd.nv hp;have ZG:=g2.sub t3;have s2':=s2.trans (.sub t3);generalize pE M2 p (.lst [])=M2' at t3 lp ZG s2' ⊢;obtain⟨ad,md,h1,h2,h3,h4,n1,n2⟩:=ZG.cell;refine pq h1 ⟨(G.j "at" Z'),by show 8<1000;decide,?_⟩;obtain⟨g3,s3⟩:=ZG.put {c with st:="over",wd:=some w0,at_:=[]} Z' lp h4 np n2;show uk _ _ _ _ (pE M2' k.p (.ins a.e (rA {c with st:="over",wd:=some w0,at_:=[]} k.wy p md)));generalize pE M2' k.p (.ins a.e (rA {c with st:="over",wd:=some w0,at_:=[]} k.wy p md))=M3 at g3 s3 ⊢;clear h1 h2 h3 h4 n1 n2 lp t3 np g2 ZG;refine⟨o9 Z',λp2 Xm=>?_⟩;have t4:=qp.new (c:=.lst []) Xm;have lp:=@pD M3 p2 [];have np:=g3.bd.nv Xm;have ZX:=g3.sub t4;have s3':=s3.trans (.sub t4);generalize pE M3 p2 (.lst [])=M3' at t4 lp ZX s3' ⊢;obtain⟨ad,md,h1,h2,h3,h4,n1,n2⟩:=ZX.cell;refine pq h1 ⟨(G.j "members" Z'),by show 8<1000;decide,?_⟩;obtain⟨g4,s4⟩:=ZX.put {c with st:="over",wd:=some w0,at_:=[],ms:=[]} Z' h3 lp n1 np;rw[show wc "members" (.ref p2) (rA {c with st:="over",wd:=some w0,at_:=[]} k.wy ad md)=rA {c with st:="over",wd:=some w0,at_:=[],ms:=[]} k.wy ad p2 from rfl];generalize pE M3' k.p (.ins a.e (rA {c with st:="over",wd:=some w0,at_:=[],ms:=[]} k.wy ad p2))=M4 at g4 s4 ⊢;clear h1 h2 h3 h4 n1 n2 lp t4 np g3 ZX;obtain⟨ad,md,h1,h2,h3,h4,n1,n2⟩:=g4.cell;refine pq h1 ⟨(G.j "holder" Z'),by show 8<1000;decide,_,.refl,?_⟩;obtain⟨g5,s5⟩:=g4.put (c.over w0) Z' h3 h4 n1 n2;refine q _ ((s1.trans s2').trans (s3'.trans (s4.trans s5))) ?_;have:=g5.bd;rw[so,so,so,so]at this;exact this
def NO:Fq P w K mg base 1 a.aS (Oc a):=by
 refine fq G.aS.toDG Dq (λr u=>⟨_,(pj (pZ v0 (qF Z' (yb (ix:=[Db,Fa 1]) (N':=["other","phone"])) (qB (pF v0)) (qG 0) (vC (pH u v0 U1)) v0))
 (pk (pZ v0 (qF Z' (yb (ix:=[Db,Fa 1]) (N':=["other","phone"])) (qB (pF v0)) (qG 0) (vC (pH u v0 U1)) v0)))),?_⟩)
 rintro ds M Q ⟨A,V,i,k,c,x,rfl,h,la,lm,q⟩
 have hz:=dS;obtain⟨ad,md,h1,h2,h3,h4,n1,n2⟩:=h.cell;refine pq h1 (i' Z' (i' h3 (tP (f:=id) (t:=Pn x) h3 _ [] _ (by rw[cZ];simp only[dR];omega) (λd hd k0 hk=>?_) (λd hd _ k0 hk=>?_) λp hp=>?_)))
 .obtain⟨y,hy,rfl⟩:=dJ.mp hd;exact hk
 .obtain⟨y,hy,rfl⟩:=dJ.mp hd;exact hk
 rw[Co];have t1:=qp.new (c:=.lst ((rJ c.at_ x).map D.str)) hp;have lp:=@pD M p ((rJ c.at_ x).map D.str);have np:=h.bd.nv hp;have h':=h.sub t1;have s1:rb A M A (pE M p (.lst ((rJ c.at_ x).map D.str))):=.sub t1;generalize pE M p (.lst ((rJ c.at_ x).map D.str))=M1 at t1 lp h' s1 ⊢;clear h1 h2 h3 h4 n1 n2;obtain⟨ad,md,h1,h2,h3,h4,n1,n2⟩:=h'.cell;refine pq h1 ⟨(G.j "at" Z'),by show 8<1000;decide,?_⟩;obtain⟨g2,s2⟩:=h'.put {c with at_:=rJ c.at_ x} Z' lp h4 np n2;rw[show wc "at" (.ref p) (rA c k.wy ad md)=rA {c with at_:=rJ c.at_ x} k.wy p md from rfl];generalize pE M1 k.p (.ins a.e (rA {c with at_:=rJ c.at_ x} k.wy p md))=M2 at g2 s2 ⊢;clear h1 h2 h3 h4 n1 n2 lp np;obtain⟨ad,md,h1,h2,h3,h4,n1,n2⟩:=g2.cell;refine pq h1 (i' Z' (i' h4 (tP (f:=id) (t:=Pn x) h4 _ [] _ (by rw[cZ];simp only[dR];show 0+c.ms.length<=pi;omega) (λd hd k0 hk=>?_) (λd hd _ k0 hk=>?_) λp2 Xm=>?_)))
 .obtain⟨y,hy,rfl⟩:=dJ.mp hd;exact hk
 .obtain⟨y,hy,rfl⟩:=dJ.mp hd;exact hk
 rw[Co];have t3:=qp.new (c:=.lst ((rJ c.ms x).map D.str)) Xm;have lp:=@pD M2 p2 ((rJ c.ms x).map D.str);have np:=g2.bd.nv Xm;have ZG:=g2.sub t3;have s3:rb A M2 A (pE M2 p2 (.lst ((rJ c.ms x).map D.str))):=.sub t3;generalize pE M2 p2 (.lst ((rJ c.ms x).map D.str))=M3 at t3 lp ZG s3 ⊢;clear h1 h2 h3 h4 n1 n2;obtain⟨ad,md,h1,h2,h3,h4,n1,n2⟩:=ZG.cell;refine pq h1 ⟨(G.j "members" Z'),by show 8<1000;decide,_,.refl,?_⟩;obtain⟨g4,s4⟩:=ZG.put (c.drop x) Z' h3 lp n1 np;refine q _ ((s1.trans s2).trans (s3.trans s4)) ?_;have:=g4.bd;rw[so]at this;exact this
def K1:Fq P w K mg base 2 a.aT (JW a):=by
 refine fq G.aT.toDG xM (λr u=>⟨_,(pj (pL 2 xM (pJ U1 pz))
 (pk (pP (pH u U2 pA)
 (pj (pZ v0 pA)
 (pj (pZ v0 (qg sv Z' G.q rX (qe (pJ U1 pz))))
 (pk (pZ v0 pz))))
 (pk (pP (pH u U2 pA)
 (pk (pZ v0 (qQ r6)))
 (pk (pP (pH u U2 pA)
 (pj (pZ v0 pA)
 (pk (pZ v0 (qQ (qe (pJ U1 pz))))))
 (pk (pP (pH u U2 pA)
 (pj (pZ v0 pA)
 (pj (pZ v0 (qg sv Z' G.q rX (qe (pJ U1 pz))))
 (pj (pZ v0 (qQ r6))
 (pk (pZ v0 rQ)))))
 (pk (pP (pH u U2 pA)
 (pj (pZ v0 pA)
 (pk (pZ v0 (pJ U1 pz))))
 (pk (pP (pH u U2 pA)
 (pk (pM (pI (NO G) r G.aS (rN v0 (pJ U1 pz)))))
 (pk (pP (pH u U2 pA)
 (pk (pM (pI (JM G) r G.aa (rN v0 (pJ U1 pz)))))
 pK))))))))))))))),?_⟩)
 rintro ds M Q ⟨A,V,i,k,c,e,c',rfl,h,la,lm,hc,q⟩
 cases hc with
 | over w0=>exact⟨A,V,i,k,c,w0,Z',h,λM' s b=>⟨M',.refl,q M' s b⟩⟩
 | leaves x=>exact⟨A,V,i,k,c,x,Z',h,la,lm,λM' s b=>⟨M',.refl,q M' s b⟩⟩
 | quiet=>refine⟨o9 Z',λp hp=>?_⟩;have t3:=qp.new (c:=.lst []) hp;have lp:=@pD M p [];have np:=h.bd.nv hp;have g1:=h.sub t3;generalize pE M p (.lst [])=M1 at t3 lp g1 ⊢;obtain⟨ad,md,h1,h2,h3,h4,n1,n2⟩:=g1.cell;refine pq h1 ⟨(G.j "at" Z'),by show 8<1000;decide,_,.refl,?_⟩;obtain⟨g5,s5⟩:=g1.put c.nJ Z' lp h4 np n2;exact q _ ((rb.sub t3).trans s5) g5.bd
 | waits x=>obtain⟨ad,md,h1,h2,h3,h4,n1,n2⟩:=h.cell;refine pq h1 ⟨(G.j "state" Z'),by show 8<1000;decide,?_⟩;obtain⟨g1,s1⟩:=h.put {c with st:="waits"} Z' h3 h4 n1 n2;show uk _ _ _ _ (pE M k.p (.ins a.e (rA {c with st:="waits"} k.wy ad md)));generalize pE M k.p (.ins a.e (rA {c with st:="waits"} k.wy ad md))=M1 at g1 s1 ⊢;clear h1 h2 h3 h4 n1 n2;refine⟨o9 Z',λp hp=>?_⟩;have t3:=qp.new (c:=.lst [D.str x]) hp;have lp:=@pD M1 p [D.str x];have np:=g1.bd.nv hp;have Zb:=g1.sub t3;generalize pE M1 p (.lst [D.str x])=M1' at t3 lp Zb ⊢;obtain⟨ad,md,h1,h2,h3,h4,n1,n2⟩:=Zb.cell;refine pq h1 ⟨(G.j "at" Z'),by show 8<1000;decide,_,.refl,?_⟩;obtain⟨g5,s5⟩:=Zb.put (c.wait x) Z' lp h4 np n2;refine q _ (s1.trans ((rb.sub t3).trans s5)) ?_;have:=g5.bd;rw[so]at this;exact this
 | held x=>obtain⟨ad,md,h1,h2,h3,h4,n1,n2⟩:=h.cell;refine pq h1 ⟨(G.j "state" Z'),by show 8<1000;decide,?_⟩;obtain⟨g1,s1⟩:=h.put {c with st:="held"} Z' h3 h4 n1 n2;show uk _ _ _ _ (pE M k.p (.ins a.e (rA {c with st:="held"} k.wy ad md)));generalize pE M k.p (.ins a.e (rA {c with st:="held"} k.wy ad md))=M1 at g1 s1 ⊢;clear h1 h2 h3 h4 n1 n2;obtain⟨ad,md,h1,h2,h3,h4,n1,n2⟩:=g1.cell;refine pq h1 ⟨(G.j "holder" Z'),by show 8<1000;decide,_,.refl,?_⟩;obtain⟨g5,s5⟩:=g1.put (c.hold x) Z' h3 h4 n1 n2;refine q _ (s1.trans s5) ?_;have:=g5.bd;rw[so]at this;exact this
 | rings ps=>obtain⟨ad,md,h1,h2,h3,h4,n1,n2⟩:=h.cell;refine pq h1 ⟨(G.j "state" Z'),by show 8<1000;decide,?_⟩;obtain⟨g1,s1⟩:=h.put {c with st:="rings"} Z' h3 h4 n1 n2;show uk _ _ _ _ (pE M k.p (.ins a.e (rA {c with st:="rings"} k.wy ad md)));generalize pE M k.p (.ins a.e (rA {c with st:="rings"} k.wy ad md))=M1 at g1 s1 ⊢;clear h1 h2 h3 h4 n1 n2;refine λp hp=>?_;have t3:=qp.new (c:=.lst (ps.map D.str)) hp;have lp:=@pD M1 p (ps.map D.str);have np:=g1.bd.nv hp;have Zb:=g1.sub t3;have s1':=s1.trans (.sub t3);generalize pE M1 p (.lst (ps.map D.str))=M1' at t3 lp Zb s1' ⊢;obtain⟨ad,md,h1,h2,h3,h4,n1,n2⟩:=Zb.cell;refine pq h1 ⟨(G.j "at" Z'),by show 8<1000;decide,?_⟩;obtain⟨g3,s3⟩:=Zb.put {c with st:="rings",at_:=ps} Z' lp h4 np n2;rw[show wc "at" (.ref p) (rA {c with st:="rings"} k.wy ad md)=rA {c with st:="rings",at_:=ps} k.wy p md from rfl];generalize pE M1' k.p (.ins a.e (rA {c with st:="rings",at_:=ps} k.wy p md))=M3 at g3 s3 ⊢;clear h1 h2 h3 h4 n1 n2 lp t3 np;obtain⟨ad,md,h1,h2,h3,h4,n1,n2⟩:=g3.cell;refine pq h1 ⟨(G.j "since" Z'),by show 8<1000;decide,_,.refl,?_⟩;obtain⟨g5,s5⟩:=g3.put (c.ring ps) Z' h3 h4 n1 n2;refine q _ (s1'.trans (s3.trans s5)) ?_;have:=g5.bd;rw[so,so]at this;exact this
 | talks ms=>obtain⟨ad,md,h1,h2,h3,h4,n1,n2⟩:=h.cell;refine pq h1 ⟨(G.j "state" Z'),by show 8<1000;decide,?_⟩;obtain⟨g1,s1⟩:=h.put {c with st:="talks"} Z' h3 h4 n1 n2;show uk _ _ _ _ (pE M k.p (.ins a.e (rA {c with st:="talks"} k.wy ad md)));generalize pE M k.p (.ins a.e (rA {c with st:="talks"} k.wy ad md))=M1 at g1 s1 ⊢;clear h1 h2 h3 h4 n1 n2;refine λp hp=>?_;have t3:=qp.new (c:=.lst (ms.map D.str)) hp;have lp:=@pD M1 p (ms.map D.str);have np:=g1.bd.nv hp;have Zb:=g1.sub t3;have s1':=s1.trans (.sub t3);generalize pE M1 p (.lst (ms.map D.str))=M1' at t3 lp Zb s1' ⊢;obtain⟨ad,md,h1,h2,h3,h4,n1,n2⟩:=Zb.cell;refine pq h1 ⟨(G.j "members" Z'),by show 8<1000;decide,?_⟩;obtain⟨g3,s3⟩:=Zb.put {c with st:="talks",ms:=ms} Z' h3 lp n1 np;show uk _ _ _ _ (pE M1' k.p (.ins a.e (rA {c with st:="talks",ms:=ms} k.wy ad p)));generalize pE M1' k.p (.ins a.e (rA {c with st:="talks",ms:=ms} k.wy ad p))=M3 at g3 s3 ⊢;clear h1 h2 h3 h4 n1 n2 lp t3 np;refine⟨o9 Z',λp2 Xm=>?_⟩;have t4:=qp.new (c:=.lst []) Xm;have lp:=@pD M3 p2 [];have np:=g3.bd.nv Xm;have ZX:=g3.sub t4;have s3':=s3.trans (.sub t4);generalize pE M3 p2 (.lst [])=M3' at t4 lp ZX s3' ⊢;obtain⟨ad,md,h1,h2,h3,h4,n1,n2⟩:=ZX.cell;refine pq h1 ⟨(G.j "at" Z'),by show 8<1000;decide,?_⟩;obtain⟨g4,s4⟩:=ZX.put {c with st:="talks",ms:=ms,at_:=[]} Z' lp h4 np n2;rw[show wc "at" (.ref p2) (rA {c with st:="talks",ms:=ms} k.wy ad md)=rA {c with st:="talks",ms:=ms,at_:=[]} k.wy p2 md from rfl];generalize pE M3' k.p (.ins a.e (rA {c with st:="talks",ms:=ms,at_:=[]} k.wy p2 md))=M4 at g4 s4 ⊢;clear h1 h2 h3 h4 n1 n2 lp t4 np;obtain⟨ad,md,h1,h2,h3,h4,n1,n2⟩:=g4.cell;refine pq h1 ⟨(G.j "holder" Z'),by show 8<1000;decide,_,.refl,?_⟩;obtain⟨g5,s5⟩:=g4.put (c.nE ms) Z' h3 h4 n1 n2;refine q _ (s1'.trans (s3'.trans (s4.trans s5))) ?_;have:=g5.bd;rw[so,so,so]at this;exact this
theorem tN{α:Type}{f:α->α}:∀{l:List α} {i:Nat} {c:α},l[i]?=Fa c->l.modify i f=l.set i (f c)
 | [],_,_,h=>by simp at h
 | _::_,0,_,h=>by cases h;rfl
 | x::r,i+1,c,h=>by rw[List.modify_succ_cons,lj,tN (l:=r) (by simpa using h)]
def HA(ps:T0 (Str×Int))(z:Str)(n:Int):CP (tK ps) (.inr z) (.int n)=tK (BX ps z n):=by
 have ea:((tK ps).any λkv=>decide (kv.1=(Sum.inr z:rq)))=ps.any λp=>decide (p.1=z):=by unfold tK;rw[jU];congr 1;funext p;have:((Sum.inr p.1:rq)=Sum.inr z)=(p.1=z):=propext ⟨λh=>j8 h,λh=>by rw[h]⟩;simp only[Function.comp,this]
 unfold CP BX;rw[ea];by_cases h:(ps.any λp=>decide (p.1=z))=pc
 .rw[dz h,dz h];unfold tK;rw[eG,eG];refine gX λp _=>?_;by_cases hp:p.1=z
  .simp[hp]
  .have:¬(Sum.inr p.1:rq)=Sum.inr z:=λy=>hp (j8 y);simp[hp]
 .rw[dh h,dh h];unfold tK;rw[dQ];rfl
def FR{α:Type}{l:List α}{i:Nat}{x:α}(h:l[i]?=Fa x):l.set i x=l:=by obtain⟨hi,e⟩:=de.mp h;rw[<-e,List.set_getElem_self]
structure WL(V:qr):Prop where
 lo:V.log.length<10000000
 le:V.mX.length<10000000
 ca:V.calls.length<=1000000
 ps:V.ps.length<10000000
 cs:∀c∈V.calls,c.way.length<10000000/\c.at_.length<=100/\c.ms.length<=100
def AV(a:Ad):rk:=λds M Q=>FQ λA V k c v=>ds=[.ref A.b,se.d v]/\CI a M A V v.i k c/\V.mX.length<10000000/\c.way.length<10000000/\∀M',rb A M A M'->pO a M' A {yP V v.i (c.go v.g)with mX:=V.mX++[v]}->Q .mP M'
def CY(a:Ad):rk:=λds M Q=>To λA V i j ki ci cj ms=>ds=[.ref A.b,.int (i:Nat),.int (j:Nat),names ms]/\CI a M A V i ki ci/\V.calls[j]?=Fa cj/\i≠j/\V.mX.length<10000000/\∀M' A',A'.b=A.b->rb A M A' M'->pO a M' A' {yP (yP V i (ci.over "merged")) j (cj.mem ms)with mX:=V.mX.map (se.to i j)}->Q .mP M'
def zA(a:Ad):rk:=λds M Q=>C4 λA V=>ds=[.ref A.b]/\pO a M A V/\∀M',rb A M A M'->pO a M' A {V with t:=V.t+1,calls:=V.calls.map pB.tick}->Q .mP M'
def ww(a:Ad):rk:=λds M Q=>Af λb A V e=>ds=[.ref b,Ev.d e]/\A.b=b/\pO a M A V/\WL V/\e.ok V/\∀M' A',A'.b=A.b->rb A M A' M'->pO a M' A' (qd V e)->Q .mP M'
noncomputable def Ri(m k:Nat):D->D
 | .tup (.int i::r)=>if i=(m:Int)then .tup (.int (k:Nat)::r)else .tup (.int i::r)
 | d=>d
def RZ(m k:Nat)(v:se):Ri m k v.d=(v.to m k).d:=by
 show(if ((v.i:Nat):Int)=(m:Int)then _ else _)=_;unfold se.to;by_cases h:v.i=m
 .rw[dz h,dz (by rw[h])];rfl
 .rw[dh h,dh (by omega)];rfl
def HD:Fq P w K mg base 1 a.bE (AV a):=by
 refine fq G.bE.toDG Au (λr u=>⟨_,(pj (pM (qJ (pF v0) (qe U1)))
 (pk (pM (qJ (pF (pJ (pF v0) (pJ U1 pz))) (qe (pJ U1 pz)))))),?_⟩)
 rintro ds M Q ⟨A,V,k,c,v,rfl,ci,l1,l2,q⟩
 have hz:=dS;have bd:=ci.bd;refine pq bd.at_ (i' Z' ⟨by show(oj M A.le).isSome=pc;rw[bd.le];rfl,i' bd.le ⟨by rw[cZ];omega,?_⟩⟩);obtain⟨b1,s1⟩:=bd.oA (es:=V.mX++[v]);rw[dQ]at b1 s1;have b1:pO a (pE M A.le (.lst (V.mX.map se.d++[v.d]))) A {V with mX:=V.mX++[v]}:=b1;have s1:rb A M A (pE M A.le (.lst (V.mX.map se.d++[v.d]))):=s1;generalize pE M A.le (.lst (V.mX.map se.d++[v.d]))=M1 at b1 s1 ⊢;obtain⟨ad,md,h1,h2,h3,h4,n1,n2⟩:=b1.cs v.i k c ci.e1 ci.e2;refine pq b1.at_ (i' Z' (i' b1.ca (i' (rB ci.e1) (pq h1 (i' Z' ⟨by show(oj M1 k.wy).isSome=pc;rw[h2];rfl,i' h2 ⟨by rw[cZ];omega,?_⟩⟩)))));obtain⟨b2,s2⟩:=b1.oG (ws:=c.way++[v.g]) ci.e1 ci.e2;rw[dQ]at b2 s2;exact⟨_,.refl,q _ (s1.trans s2) b2⟩
def Mg:Fq P w K mg base 2 a.bF (CY a):=by
 refine fq G.bF.toDG x8 (λr u=>⟨_,(pj (pM (pI (JM G) r G.aa (rN (pJ (pF v0) U1) pA)))
 (pj (pZ v0 (qF Z' (yb (ix:=[Db,Fa 1,Fa 2]) (N':=["leg","merged","kept"])) (qB (pF v0)) (qG 0) rT (Q3 (pH u (pJ v0 pz) U1) (pU (pN (qe U2)) (rW v0 (sU pz) sT)) v0)))
 (pj (pL 4 x8 (pJ (pF v0) U2))
 (pk (pZ v4 (qg sv Z' G.q rX (qe U3))))))),?_⟩)
 rintro ds M Q ⟨A,V,i,j,ki,ci,cj,ms,rfl,hi,hj,Yc,l1,q⟩
 have hz:=dS;refine pq hi.bd.at_ (i' Z' (i' Z' (i' hi.bd.ca (i' (rB hi.e1) ⟨A,V,i,ki,ci,"merged",Z',hi,λM1 s1 b1=>?_⟩))));have hj1:(yP V i (ci.over "merged")).calls[j]?=Fa cj:=by show(V.calls.set i _)[j]?=_;rw[fL Yc];exact hj
 have le1:oj M1 A.le=Fa (V.mX.map se.d):=b1.le;refine pq b1.at_ (i' Z' (i' le1 (qW (f:=Ri i j) le1 _ [] _ (by rw[cZ];simp only[dR];omega) (λd hd k hk=>?_) λp hp=>?_)))
 .obtain⟨v,_,rfl⟩:=dJ.mp hd;refine i' Z' ?_;have hk:k (if ((v.i:Nat):Int)=(i:Int)then .tup [.int (j:Nat),.str v.f,.str v.g,.str v.y]else .tup [.int (v.i:Nat),.str v.f,.str v.g,.str v.y]) M1:=hk;refine qC (c:=((v.i:Nat):Int)==(i:Nat)) (λz=>?_) (λz=>?_)
  .rw[dz (dL z)]at hk;exact⟨o9 Z',fW _ _,by show 1+3<=pi;omega,hk⟩
  .rw[dh (λy=>z (by rw[y];exact fv _))]at hk;exact hk
 have em:[]++(V.mX.map se.d).map (Ri i j)=(V.mX.map (se.to i j)).map se.d:=by rw[eB,eG,eG];exact gX λv _=>RZ i j v
 rw[em];obtain⟨b2,s2⟩:=b1.oB (es:=V.mX.map (se.to i j)) hp;have t:=qp.new (c:=.lst ((V.mX.map (se.to i j)).map se.d)) hp;refine pq (t _ _ b1.at_) ⟨(G.C "legs" Z'),by show 8<1000;decide,?_⟩;show uk _ _ _ _ (pE (pE M1 p (.lst ((V.mX.map (se.to i j)).map se.d))) A.b (.ins a.c (tT (.ref V.p) V.h V.t A.ca p A.nx A.on A.lo)));have b2:pO a (pE (pE M1 p (.lst ((V.mX.map (se.to i j)).map se.d))) A.b (.ins a.c (tT (.ref V.p) V.h V.t A.ca p A.nx A.on A.lo))) {A with le:=p} {yP V i (ci.over "merged")with mX:=V.mX.map (se.to i j)}:=b2;have s2:rb A M1 {A with le:=p} (pE (pE M1 p (.lst ((V.mX.map (se.to i j)).map se.d))) A.b (.ins a.c (tT (.ref V.p) V.h V.t A.ca p A.nx A.on A.lo))):=s2;generalize pE (pE M1 p (.lst ((V.mX.map (se.to i j)).map se.d))) A.b (.ins a.c (tT (.ref V.p) V.h V.t A.ca p A.nx A.on A.lo))=M2 at b2 s2 ⊢;have hjk:j<A.cs.length:=by rw[hi.bd.len];exact(de.mp hj).1
 have ej:A.cs[j]?=Fa A.cs[j]:=dg hjk;generalize A.cs[j]=kj at ej;have cj2:CI a M2 {A with le:=p} _ j kj cj:=⟨b2,ej,hj1⟩;refine pq b2.at_ (i' Z' (i' Z' (i' b2.ca (i' (rB ej) ?_))));refine λr hr0=>?_;have t3:=qp.new (c:=.lst (ms.map D.str)) hr0;have lr:=@pD M2 r (ms.map D.str);have nr:=b2.nv hr0;have cj3:=cj2.sub t3;generalize pE M2 r (.lst (ms.map D.str))=M3 at t3 lr cj3 ⊢;obtain⟨ad,md,h1,h2,h3,h4,n1,n2⟩:=cj3.cell;refine pq h1 ⟨(G.j "members" Z'),by show 8<1000;decide,_,.refl,?_⟩;obtain⟨g5,s5⟩:=cj3.put (cj.mem ms) Z' h3 lr n1 nr;exact q _ {A with le:=p} Z' (s1.trans (s2.trans ((rb.sub t3).trans s5))) g5.bd
def Fi:Fq P w K mg base 1 a.bG (zA a):=by
 refine fq G.bG.toDG vn (λr u=>⟨_,(pj (Dz v0 pz)
 (pk (sN eK Z' (qB (pF v0)) (rg 1 vn)
 (pk (pP (pH u (pF U1) pA)
 (pk (Dz U1 pz))
 pK))))),?_⟩)
 rintro ds M Q ⟨A,V,rfl,bd,q⟩
 refine pq bd.at_ ⟨(G.C "turn" Z'),i' Z' (i' Z' (pq bd.at_ ⟨Z',by show 8<1000;decide,?_⟩))⟩;obtain⟨b1,s1⟩:=bd.putT (t:=V.t+1);rw[show wc "turn" (.int (V.t+1)) (tT (.ref V.p) V.h V.t A.ca A.le A.nx A.on A.lo)=tT (.ref V.p) V.h (V.t+1) A.ca A.le A.nx A.on A.lo from rfl];generalize pE M A.b (.ins a.c (tT (.ref V.p) V.h (V.t+1) A.ca A.le A.nx A.on A.lo))=M1 at b1 s1 ⊢;refine pq b1.at_ (i' Z' (i' b1.ca ?_));refine tF (A.cs.map λk=>D.ref k.p) (λpre U M'=>pO a M' A {V with t:=V.t+1,calls:=(V.calls.take pre.length).map pB.tick++V.calls.drop pre.length}/\rb A M A M'/\∃y,U=[Fa (.ref A.b),y]) (λ_ _ M' j=>j.1.ca) _ [] _ _ Z' ⟨b1,s1,Db,Z'⟩ ?_ ?_
 .rintro pre d post e U M' ⟨b2,s2,y,rfl⟩ nx Xh
  have hd:(A.cs.map λk=>D.ref k.p)[pre.length]?=Fa d:=by rw[<-e];simp
  rw[dG]at hd;cases ek:A.cs[pre.length]? with
  | none=>rw[ek]at hd;cases hd
  | some k=>
   rw[ek]at hd;have hd:D.ref k.p=d:=dA hd;subst hd;have hi:pre.length<V.calls.length:=by rw[<-bd.len];exact(de.mp ek).1
   have ec:V.calls[pre.length]?=Fa V.calls[pre.length]:=dg hi;have ed:V.calls.drop pre.length=V.calls[pre.length]::V.calls.drop (pre.length+1):=iw hi;have et:V.calls.take (pre.length+1)=V.calls.take pre.length++[V.calls[pre.length]]:=by rw[gy,ec];rfl
   generalize V.calls[pre.length]=c at ec ed et;have hl:((V.calls.take pre.length).map pB.tick).length=pre.length:=by rw[cZ,eR];omega
   have ec2:((V.calls.take pre.length).map pB.tick++V.calls.drop pre.length)[pre.length]?=Fa c:=by rw[fi (by rw[hl];exact dB _),hl,ie,ed];rfl
   rw[df,dM,et]at Xh;have en:((V.calls.take pre.length).map pB.tick++V.calls.drop pre.length).set pre.length c.tick=(V.calls.take pre.length++[c]).map pB.tick++V.calls.drop (pre.length+1):=by rw[kt _ _ (by rw[hl];exact dB _),hl,ie,ed,dQ,eV];rfl
   have ci:CI a M' A _ pre.length k c:=⟨b2,ek,ec2⟩;obtain⟨ad,md,h1,h2,h3,h4,n1,n2⟩:=ci.cell;refine pq h1 (i' Z' ?_);have ht:c.tick=if (c.st=="rings")=pc then{c with si:=c.si+1}else c:=rfl;refine qC (c:=c.st=="rings") (λg=>?_) (λg=>?_)
   .rw[dz g]at ht;refine pq h1 ⟨(G.j "since" Z'),i' Z' (i' Z' (pq h1 ⟨Z',by show 8<1000;decide,?_⟩))⟩;obtain⟨g5,s5⟩:=ci.put c.tick (by rw[ht]) (by rw[ht];exact h3) (by rw[ht];exact h4) n1 n2;have b5:=g5.bd;unfold yP at b5;rw[en]at b5;rw[ht]at b5 s5;exact Xh _ _ ⟨b5,s2.trans s5,_,Z'⟩
   .rw[dh g]at ht;rw[ht,FR ec2]at en;rw[en]at b2;exact Xh _ _ ⟨b2,s2,_,Z'⟩
 .rintro U M' ⟨b2,s2,y,rfl⟩
  rw[cZ,bd.len,e9,jP,eE]at b2;exact⟨M',.refl,q M' s2 b2⟩
def rc:Fq P w K mg base 3 a.k (ww a):=by
 refine fq G.k.toDG xG (λr u=>⟨_,(pj (pM (qJ (pF v0) (qe U1)))
 (pj (pL 2 xG (pJ U1 pz))
 (pk (pP (pH u U2 pA)
 (pk (pM (qJ (pF v0) (qe (vG (PD G) r G.e G.cn G.az.toDG (qe (pJ U1 pz)))))))
 (pk (pP (pH u U2 pA)
 (pk (pM (pW v0 G.c.toCls G.bE (HD G) r (qe (rW U1 (sU pz) sT)))))
 (pk (pP (pH u U2 pA)
 (pk (Qm u (pF v0) (pJ U1 pz) (pJ U1 pz)))
 (pk (pP (pH u U2 pA)
 (pk (pM (pW v0 G.c.toCls G.bF (Mg G) r (rj (pJ U1 pz) (pJ U1 pz) (pJ U1 pz)))))
 (pk (pP (pH u U2 pA)
 (pk (pM (vX v0 G.c.toCls G.bG (Fi G) r)))
 (pk (pP (pH u U2 (pN (rN pA pA)))
 (pk (Rw (qm u U2 pA) (Tn (pF v0) (pJ U1 pz))))
 (pk (pP (pH u U2 pA)
 (pk (pM (pI (K1 G) r G.aT (rN (pJ (pF v0) (pJ U1 pz)) U1))))
 pK)))))))))))))))),?_⟩)
 rintro ds M Q ⟨_,A,V,e,rfl,rfl,bd,lim,ev,q⟩
 have hz:=dS;have ll:=lim.lo;have lc:=lim.ca;have lp:=lim.ps;refine pq bd.at_ (i' Z' ⟨by show(oj M A.lo).isSome=pc;rw[bd.lo];rfl,i' bd.lo ⟨by rw[cZ];omega,?_⟩⟩);have hb:=bd.ou (es:=V.log++[e]);rw[dQ]at hb;obtain⟨b1,s1⟩:pO a (pE M A.lo (.lst (V.log.map Ev.d++[e.d]))) A (qO V e)/\rb A M A (pE M A.lo (.lst (V.log.map Ev.d++[e.d]))):=hb;show uk _ _ _ _ (pE M A.lo (.lst (V.log.map Ev.d++[e.d])));generalize pE M A.lo (.lst (V.log.map Ev.d++[e.d]))=M1 at b1 s1 ⊢;have Zn:∀i,i<V.calls.length->∃k c,A.cs[i]?=Fa k/\V.calls[i]?=Fa c/\c∈V.calls:=λi hi=>by
  have Yp:i<A.cs.length:=by rw[bd.len];exact hi
  exact⟨_,_,dg Yp,dg hi,ii hi⟩
 have chg:∀(i:Nat) (k:rE) (c:pB) (c':pB) (f:pB->pB),A.cs[i]?=Fa k->V.calls[i]?=Fa c->f c=c'->qd V e=xU (qO V e) i f->∀(M2:Mp),rb A M1 A M2->pO a M2 A (yP (qO V e) i c')->∃Xf,qp Xf M2/\Q .mP Xf:=λi k c c' f e1 e2 e3 e4 M2 s2 b2=>⟨M2,.refl,q M2 A Z' (s1.trans s2) (by
  rw[e4];unfold xU;rw[show(qO V e).calls=V.calls from rfl,tN e2,e3];exact b2)⟩
 cases e with
 | new n x=>refine pq b1.at_ (i' Z' ⟨by show(oj M1 A.ca).isSome=pc;rw[b1.ca];rfl,λp hp=>⟨p,x,Z',pS,λM2 wy ad md kp z1 z2 z3 n1 n2 h1 h2 h3 h4=>⟨Z',?_⟩⟩⟩);have sp:=qp.new (c:=.ins a.e []) hp;have s2:qp M1 M2:=λy d hy=>kp y d (Tc hy hp) (sp y d hy);refine i' (s2.lst b1.ca) ⟨by rw[cZ,b1.len];show V.calls.length<pi;omega,?_⟩;obtain⟨b3,s3⟩:=b1.og s2 (c:=yU x) hp (sp.none z1) (sp.none z2) (sp.none z3) h1 h2 h3 h4 n1 n2;exact⟨_,.refl,q _ (A.add ⟨p,wy⟩) Z' (s1.trans s3) b3⟩
 | leg v=>obtain⟨k,c,ek,ec,hc⟩:=Zn v.i ev;refine pq b1.at_ ⟨Z',_,⟨Z',Z'⟩,A,qO V (.leg v),k,c,v,Z',⟨b1,ek,ec⟩,lim.le,(lim.cs c hc).1,λM2 s2 b2=>⟨M2,.refl,q M2 A Z' (s1.trans s2) ?_⟩⟩;show pO a M2 A {qO V (.leg v)with mX:=V.mX++[v],calls:=V.calls.modify v.i (·.go v.g)};rw[tN ec];exact b2
 | next z n=>refine pq b1.at_ (i' Z' (i' b1.nx ⟨by show(tK V.ps).length<pi;unfold tK;rw[cZ];omega,?_⟩));rw[HA];obtain⟨b2,s2⟩:=b1.oU (ps:=BX V.ps z n);exact⟨_,.refl,q _ A Z' (s1.trans s2) b2⟩
 | merge i j ms=>obtain⟨hi,hj,hij,_⟩:=ev;obtain⟨ki,ci,eki,eci,hci⟩:=Zn i hi;obtain⟨kj,cj,ekj,ecj,hcj⟩:=Zn j hj;refine pq b1.at_ ⟨Z',_,⟨Z',Z'⟩,A,qO V (.merge i j ms),i,j,ki,ci,cj,ms,Z',⟨b1,eki,eci⟩,ecj,hij,lim.le,λM2 A2 eb s2 b2=>⟨M2,.refl,q M2 A2 eb (s1.trans s2) ?_⟩⟩;show pO a M2 A2 {qO V (.merge i j ms)with calls:=(V.calls.modify i (·.over "merged")).modify j (·.mem ms),mX:=V.mX.map (se.to i j)};rw[tN eci,tN (show(V.calls.set i _)[j]?=Fa cj by rw[fL hij];exact ecj)];exact b2
 | asks i z ns=>exact⟨o9 Z',Z',Z',M1,.refl,q M1 A Z' s1 b1⟩
 | turn=>exact pq b1.at_ ⟨Z',_,⟨Z',Z'⟩,A,qO V .turn,Z',b1,λM2 s2 b2=>⟨M2,.refl,q M2 A Z' (s1.trans s2) b2⟩⟩
 | sw b i=>
  have hi:i<V.on.length:=ev;obtain⟨b2,s2⟩:=b1.oN (bs:=V.on.set i b);have es:(V.on.map D.bl).set i (.bl b)=(V.on.set i b).map D.bl:=(mC).symm;have ix:G9 (V.on.map D.bl).length (i:Nat)=Fa i:=by rw[cZ];unfold G9;simp[hi]
  have Xe:∃Xf,qp Xf (pE M1 A.on (.lst ((V.on.map D.bl).set i (.bl b))))/\Q .mP Xf:=by rw[es];exact⟨_,.refl,q _ A Z' (s1.trans s2) b2⟩
  cases b with
  | true=>exact⟨o9 Z',Z',Z',pq b1.at_ (i' Z' (i' b1.on (i' ix Xe)))⟩
  | false=>exact⟨o9 Z',Z',Z',pq b1.at_ (i' Z' (i' b1.on (i' ix Xe)))⟩
 | rings i ps=>obtain⟨k,c,ek,ec,hc⟩:=Zn i ev.1;exact⟨o9 Z',Z',Z',pq b1.at_ (i' Z' (i' b1.ca (i' (rB ek) ⟨A,qO V _,i,k,c,_,_,Z',⟨b1,ek,ec⟩,(lim.cs c hc).2.1,(lim.cs c hc).2.2,.rings ps,chg i k c _ _ ek ec Z' Z'⟩)))⟩
 | quiet i=>obtain⟨k,c,ek,ec,hc⟩:=Zn i ev;exact⟨o9 Z',Z',Z',pq b1.at_ (i' Z' (i' b1.ca (i' (rB ek) ⟨A,qO V _,i,k,c,_,_,Z',⟨b1,ek,ec⟩,(lim.cs c hc).2.1,(lim.cs c hc).2.2,.quiet,chg i k c _ _ ek ec Z' Z'⟩)))⟩
 | waits i x=>obtain⟨k,c,ek,ec,hc⟩:=Zn i ev;exact⟨o9 Z',Z',Z',pq b1.at_ (i' Z' (i' b1.ca (i' (rB ek) ⟨A,qO V _,i,k,c,_,_,Z',⟨b1,ek,ec⟩,(lim.cs c hc).2.1,(lim.cs c hc).2.2,.waits x,chg i k c _ _ ek ec Z' Z'⟩)))⟩
 | talks i ms=>obtain⟨k,c,ek,ec,hc⟩:=Zn i ev.1;exact⟨o9 Z',Z',Z',pq b1.at_ (i' Z' (i' b1.ca (i' (rB ek) ⟨A,qO V _,i,k,c,_,_,Z',⟨b1,ek,ec⟩,(lim.cs c hc).2.1,(lim.cs c hc).2.2,.talks ms,chg i k c _ _ ek ec Z' Z'⟩)))⟩
 | held i x=>obtain⟨k,c,ek,ec,hc⟩:=Zn i ev;exact⟨o9 Z',Z',Z',pq b1.at_ (i' Z' (i' b1.ca (i' (rB ek) ⟨A,qO V _,i,k,c,_,_,Z',⟨b1,ek,ec⟩,(lim.cs c hc).2.1,(lim.cs c hc).2.2,.held x,chg i k c _ _ ek ec Z' Z'⟩)))⟩
 | leaves i x=>obtain⟨k,c,ek,ec,hc⟩:=Zn i ev;exact⟨o9 Z',Z',Z',pq b1.at_ (i' Z' (i' b1.ca (i' (rB ek) ⟨A,qO V _,i,k,c,_,_,Z',⟨b1,ek,ec⟩,(lim.cs c hc).2.1,(lim.cs c hc).2.2,.leaves x,chg i k c _ _ ek ec Z' Z'⟩)))⟩
 | over i w0=>obtain⟨k,c,ek,ec,hc⟩:=Zn i ev;exact⟨o9 Z',Z',Z',pq b1.at_ (i' Z' (i' b1.ca (i' (rB ek) ⟨A,qO V _,i,k,c,_,_,Z',⟨b1,ek,ec⟩,(lim.cs c hc).2.1,(lim.cs c hc).2.2,.over w0,chg i k c _ _ ek ec Z' Z'⟩)))⟩
noncomputable def Mv:QQQ:=["barred","ring","engaged","left","refused","done","merged"]
def QV(o:Bool)(c:pB):Prop:=(c.st="rings"/\c.ms=[]/\c.hd=Db/\c.wd=Db/\(o=pc->c.at_=[])/\(o=Uf->c.at_≠[]))\/(o=Uf/\((c.st="waits"/\c.ms=[]/\c.hd=Db/\c.wd=Db/\c.at_.length=1)\/(c.st="talks"/\(c.ms.length=2\/c.ms.length=3)/\c.hd=Db/\c.wd=Db/\c.at_=[])\/
 (∃x,c.st="held"/\c.ms.length=2/\c.hd=Fa x/\x∈c.ms/\c.wd=Db/\c.at_=[])\/(c.st="over"/\c.ms=[]/\c.hd=Db/\c.at_=[]/\∃w∈Mv,c.wd=Fa w)))
structure wj(l:pG)(o:Bool)(c:pB):Prop where
 sh:QV o c
 cr:c.cr∈l.pn
 at_:∀x∈c.at_,x∈l.pn
 ms:∀x∈c.ms,x∈l.pn
 an:c.at_.Nodup
 mn:c.ms.Nodup
 ca:c.cr∉c.at_
 wy:c.way≠[]/\∀z∈c.way,z∈l.nm
def Bq(c:pB)(x:Str):Prop:=c.nj x=pc\/c.mV x=pc
structure zj(l:pG)(V:qr)(o:Option Nat):Prop where
 ok:∀(i:Nat) c,V.calls[i]?=Fa c->wj l (o==Fa i) c
 un:∀(i j:Nat) ci cj x,V.calls[i]?=Fa ci->V.calls[j]?=Fa cj->Bq ci x->Bq cj x->i=j
 ln:∀x∈l.pn,(vb V x:Int)<=xi l x
 wt:∀(i j:Nat) ci cj x,V.calls[i]?=Fa ci->V.calls[j]?=Fa cj->ci.mR x=pc->cj.mR x=pc->i=j
 nx:ux l V
abbrev WF(l:pG)(V:qr):Prop:=zj l V Db
structure Sz(V:qr)(c n:Nat):Prop where
 lo:V.log.length<=n
 le:V.mX.length<=n
 ca:V.calls.length<=c
 ps:V.ps.length<=n
 cs:∀k∈V.calls,k.way.length<=n/\k.at_.length<=100/\k.ms.length<=100
def Sz.mono{V:qr}{c n c' n':Nat}(h:Sz V c n)(hc:c<=c')(hn:n<=n'):Sz V c' n':=⟨eA h.lo hn,eA h.le hn,eA h.ca hc,eA h.ps hn,λk hk=>⟨eA (h.cs k hk).1 hn,(h.cs k hk).2⟩⟩
noncomputable def Ev.nw:Ev->Nat
 | .new _ _=>1
 | _=>0
def ND(ps:T0 (Str×Int))(z:Str)(n:Int):(BX ps z n).length<=ps.length+1:=by
 unfold BX;split
 .rw[cZ];omega
 .rw[df];exact dB _
def IW(ss:QQQ)(x:Str):(rJ ss x).length<=ss.length:=fP _ _
def FM{α:Type}{f:α->α}{l:List α}{i:Nat}{x:α}(h:x∈l.modify i f):x∈l\/∃y∈l,x=f y:=by
 cases e:l[i]? with
 | none=>rw[kM (by simpa using e)]at h;exact .inl h
 | some c=>
  rw[tN e]at h;rcases List.mem_or_eq_of_mem_set h with g|g
  .exact .inl g
  .exact .inr ⟨c,fU e,g⟩
def Sz.step{V:qr}{c n:Nat}{e:Ev}(h:Sz V c n)(ok:e.ok V):Sz (qd V e) (c+e.nw) (n+1):=by
 have h1:Sz (qO V e) c (n+1):=⟨by show(V.log++[e]).length<=n+1;rw[df];exact ij h.lo,jz h.le,h.ca,jz h.ps,λk hk=>⟨jz (h.cs k hk).1,(h.cs k hk).2⟩⟩;have md:∀(i:Nat) (f:pB->pB),(∀k∈V.calls,(f k).way=k.way/\(f k).at_.length<=100/\(f k).ms.length<=100)->Sz (xU (qO V e) i f) c (n+1):=λi f hf=>⟨h1.lo,h1.le,by show(V.calls.modify i f).length<=c;rw[fj];exact h.ca,h1.ps,λk hk=>by
  rcases FM hk with g|⟨y,hy,rfl⟩
  .exact h1.cs k g
  .obtain⟨a1,a2,a3⟩:=hf y hy;exact⟨by rw[a1];exact(h1.cs y hy).1,a2,a3⟩⟩
 cases e with
 | new m x=>
  refine⟨h1.lo,h1.le,by show(V.calls++[yU x]).length<=c+1;rw[df];exact ij h.ca,h1.ps,λk hk=>?_⟩;rcases dX.mp hk with g|g
  .exact h1.cs k g
  .rw[dv.mp g];exact⟨eD _,eD _,eD _⟩
 | leg v=>
  refine⟨h1.lo,by show(V.mX++[v]).length<=n+1;rw[df];exact ij h.le,by show(V.calls.modify v.i _).length<=c;rw[fj];exact h.ca,h1.ps,λk hk=>?_⟩;rcases FM (l:=V.calls) hk with g|⟨y,hy,rfl⟩
  .exact h1.cs k g
  .exact⟨by show(y.way++[v.g]).length<=n+1;rw[df];exact ij (h.cs y hy).1,(h.cs y hy).2⟩
 | asks i z ns=>exact h1
 | next z m=>exact⟨h1.lo,h1.le,h1.ca,eA (ND _ _ _) (ij h.ps),h1.cs⟩
 | merge i j ms=>
  have m1:=md i (·.over "merged") λk hk=>⟨Z',eD _,eD _⟩;refine⟨h1.lo,by show(V.mX.map _).length<=n+1;rw[cZ];exact h1.le,by show((V.calls.modify i _).modify j _).length<=c;rw[fj,fj];exact h.ca,h1.ps,λk hk=>?_⟩;rcases FM (l:=V.calls.modify i (·.over "merged")) hk with g|⟨y,hy,rfl⟩
  .exact m1.cs k g
  .exact⟨(m1.cs y hy).1,(m1.cs y hy).2.1,ok.2.2.2⟩
 | turn=>
  refine⟨h1.lo,h1.le,by show(V.calls.map pB.tick).length<=c;rw[cZ];exact h.ca,h1.ps,λk hk=>?_⟩;obtain⟨y,hy,rfl⟩:=dJ.mp hk;have e:y.tick.way=y.way/\y.tick.at_=y.at_/\y.tick.ms=y.ms:=by unfold pB.tick;split<;>exact⟨Z',Z',Z'⟩
  rw[e.1,e.2.1,e.2.2];exact h1.cs y hy
 | sw b i=>exact⟨h1.lo,h1.le,h1.ca,h1.ps,h1.cs⟩
 | rings i ps=>exact md i _ λk hk=>⟨Z',ok.2,(h.cs k hk).2.2⟩
 | quiet i=>exact md i _ λk hk=>⟨Z',eD _,(h.cs k hk).2.2⟩
 | waits i x=>exact md i _ λk hk=>⟨Z',by show 1<=100;decide,(h.cs k hk).2.2⟩
 | talks i ms=>exact md i _ λk hk=>⟨Z',eD _,ok.2⟩
 | held i x=>exact md i _ λk hk=>⟨Z',(h.cs k hk).2.1,(h.cs k hk).2.2⟩
 | leaves i x=>exact md i _ λk hk=>⟨Z',eA (IW _ _) (h.cs k hk).2.1,eA (IW _ _) (h.cs k hk).2.2⟩
 | over i w=>exact md i _ λk hk=>⟨Z',eD _,eD _⟩
def Ry(V:qr)(e:Ev):(qd V e).p=V.p/\(qd V e).h=V.h/\(qd V e).on.length=V.on.length:=by cases e<;>first|exact⟨Z',Z',Z'⟩|exact⟨Z',Z',iu⟩
structure uJ(a:Ad)(M0 M:Mp)(b:Ch)(A:uj)(V:qr)(l:pG)(c n:Nat):Prop where
 bd:pO a M A V
 oW:sI a M0 V.p l
 s0:qp M0 M
 fr:∀x∈A.foot,M0 x=Db
 b:A.b=b
 sz:Sz V c n
 ok:rm l
 on:V.on.length=l.mJ.length
variable {M0:Mp}{b:Ch}{A':uj}{V':qr}{l:pG}{n:Nat}
section
variable {c:Nat}
def uJ.at_(h:uJ a M0 M b A V l c n):M b=Fa (.ins a.c (tT (.ref V.p) V.h V.t A.ca A.le A.nx A.on A.lo)):=h.b ▸ h.bd.at_
def uJ.sub(h:uJ a M0 M b A V l c n)(s:qp M M'):uJ a M0 M' b A V l c n:=⟨h.bd.sub s,h.oW,h.s0.trans s,h.fr,h.b,h.sz,h.ok,h.on⟩
def uJ.pl(h:uJ a M0 M b A V l c n):sI a M V.p l:=h.oW.sub h.s0
def uJ.mono(h:uJ a M0 M b A V l c n){c' n':Nat}(hc:c<=c')(hn:n<=n'):uJ a M0 M b A V l c' n':=⟨h.bd,h.oW,h.s0,h.fr,h.b,h.sz.mono hc hn,h.ok,h.on⟩
def uJ.lim(h:uJ a M0 M b A V l c n)(hc:c<=1000000)(hn:n<9000000):WL V:=⟨iH h.sz.lo (by omega),iH h.sz.le (by omega),eA h.sz.ca hc,iH h.sz.ps (by omega),λk hk=>⟨iH (h.sz.cs k hk).1 (by omega),(h.sz.cs k hk).2⟩⟩
def uJ.rd(h:uJ a M0 M b A V l c n)(hc:c<=1000000){o:Option Nat}(wf:zj l V o):Rd a M A V l:=⟨h.bd,eA h.sz.ca hc,h.pl,h.ok,h.on,λk hk=>by
 obtain⟨i,hi,e⟩:=gW hk;exact⟨(wf.ok i k (by rw[dg hi,e])).ms,(h.sz.cs k hk).2.2⟩⟩
def uJ.call(h:uJ a M0 M b A V l c n){i:Nat}{v:pB}(e:V.calls[i]?=Fa v):∃k,CI a M A V i k v:=by
 have hi:i<A.cs.length:=by rw[h.bd.len];exact(de.mp e).1
 exact⟨A.cs[i],h.bd,dg hi,e⟩
def uJ.after(h:uJ a M0 M b A V l c n){e:Ev}(ok:e.ok V)(eb:A'.b=A.b)(st:rb A M A' M')(bd:pO a M' A' (qd V e)):uJ a M0 M' b A' (qd V e) l (c+e.nw) (n+1):=by
 obtain⟨p1,p2,p3⟩:=Ry V e;refine⟨bd,p1 ▸ h.oW,λx d hx=>st.1 x d (λz=>?_) (h.s0 x d hx),λx hx=>?_,eb.trans h.b,h.sz.step ok,h.ok,p3.trans h.on⟩
 .rw[h.fr x z]at hx;cases hx
 .rcases st.2.1 x hx with z|z
  .exact h.fr x z
  .exact h.s0.none z
end
def GD(l:pG)(V:qr)(c:Str):vD->Prop
 | .rings z ps=>z∈l.nm/\ps≠[]/\ps=xA l V c z
 | .breaks z=>∃x,x=c/\Iw l V x c z=pc
 | .waits z=>z∈l.pn/\z≠c/\AF V z=Uf
 | .ring ns=>ns≠[]
 | _=>True
def G'{V:qr}{c z:Str}:(∀x∈xA l V c z,x∈uE l V c z/\x∈l.mI z)/\(xA l V c z).length<=(l.mI z).length:=by
 have hr:∀x∈uE l V c z,x∈l.mI z:=λx hx=>(fQ.mp hx).1;unfold xA;split
 .refine⟨λx hx=>?_,?_⟩
  .have hx:=(fQ.mp (ik hx)).2;have hx:=qU.mp hx;exact⟨hx,hr x hx⟩
  .cases e:(vf (l.mI z) (zD V z)).filter λx=>hasS (uE l V c z) x with
   | nil=>exact eD _
   | cons y r=>
    have hy:y∈vf (l.mI z) (zD V z):=(fQ.mp (by rw[e];exact dP)).1;have hy:y∈l.mI z:=by
     unfold vf at hy;rcases dX.mp hy with q|q
     .exact iY q
     .exact ik q
    rw[eR];have:=List.length_pos_of_mem hy;omega
 .exact⟨λx hx=>⟨hx,hr x hx⟩,fP _ _⟩
def PU{l:pG}{V:qr}{c z:Str}(hz:z∈l.nm):GD l V c (Hu l V c z):=by
 unfold Hu;split
 .trivial
 .rename_i x r e;exact⟨hz,fW _ _,e.symm⟩
structure wY(l:pG)(V:qr)(c:Str)(n:Nat)(st:sP)(r:vD×sP):Prop where
 e:GD l V c r.1
 len:r.2.length<=st.length+n
 nm:∀s∈r.2,s∈st\/s.1∈l.nm
 wy:∀ns,r.1=.ring ns->∀z∈ns,z∈l.nm
theorem xN{V:qr}{c:Str}(ok:rm l):∀(n:Nat) (z:Str) (way:QQQ) (st:sP),z∈l.nm->(∀x∈way,x∈l.nm)->wY l V c n st (vA l V c n z way st)
 | 0,z,way,st,_,_=>⟨trivial,dB _,λs hs=>.inl hs,λns h=>by cases h⟩
 | n+1,z,way,st,hz,hw=>by
  unfold vA;by_cases h:hasS way z=pc
  .rw[dz h];refine⟨?_,by show st.length<=_;omega,λs hs=>.inl hs,λns e y hy=>?_⟩
   .have h1:way.findIdx (·==z)<way.length:=List.findIdx_lt_length_of_exists ⟨z,qU.mp h,fv z⟩;show way.drop _≠[];intro g;have:=eZ List.length g;rw[gj]at this;simp only[dR]at this;omega
   .cases e;exact hw y (iY hy)
  rw[dh h];have sn:∀(fs:T0 Nat),∀s∈st++[(z,fs)],s∈st\/s.1∈l.nm:=λfs s hs=>by
   rcases dX.mp hs with g|g
   .exact .inl g
   .rw[dv.mp g];exact .inr hz
  have sl:∀fs:T0 Nat,(st++[(z,fs)]).length=st.length+1:=λfs=>by rw[df];rfl
  cases hf:BO l V c z with
  | nil=>refine⟨PU hz,by show(st++[(z,[])]).length<=_;rw[sl];omega,sn [],λns e=>?_⟩;have e:Hu l V c z=.ring ns:=e;unfold Hu at e;split at e<;>cases e
  | cons i r=>
   obtain⟨w,ew,XJ⟩:=Bu (l:=l) (V:=V) (f:=AM l V c z) (i:=i) (by show i∈BO l V c z;rw[hf];exact dP);dsimp only;rw[ew];dsimp only[Option.elim];have stop:∀e:vD,GD l V c e->(∀ns,e≠.ring ns)->wY l V c (n+1) st (e,st++[(z,i::r)]):=λe he Xy=>⟨he,by show(st++[(z,i::r)]).length<=_;rw[sl];omega,sn _,λns g=>absurd g (Xy ns)⟩
   have ZH:∀y,IG z w.2=.inr y->wY l V c (n+1) st (vA l V c n y (way++[z]) (st++[(z,i::r)])):=λy hy=>by
    have hr:=xN (V:=V) (c:=c) ok n y (way++[z]) (st++[(z,i::r)]) (Cn ok (qL ew) hy) λx hx=>by
     rcases dX.mp hx with g|g
     .exact hw x g
     .rw[dv.mp g];exact hz
    refine⟨hr.e,by have:=hr.len;rw[sl]at this;omega,λs hs=>?_,hr.wy⟩;rcases hr.nm s hs with g|g
    .exact sn _ s g
    .exact .inr g
   cases hv:w.2 with
   | bar x ns=>exact stop _ trivial λns g=>by cases g
   | shut x ns=>exact stop _ trivial λns g=>by cases g
   | wait x=>
    rw[hv]at XJ;have hf2:(if (!(z==x)||(c==x))=pc then Uf else xF l V c z&&!(AF V z))=pc:=XJ;have hx:x9 l.pn x:=by have:=ok.wo w (qL ew);rw[hv]at this;exact this
    by_cases g:(!(z==x)||(c==x))=pc
    .rw[dz g]at hf2;cases hf2
    rw[dh g]at hf2;simp only[hG,gP,fS,jA,eh]at g hf2;have ezx:=dL g.1;subst ezx;exact stop _ ⟨qU.mp hx,λy=>g.2 (by rw[y];exact fv _),hf2.2⟩ λns g=>by cases g
   | breaks x=>
    rw[hv]at XJ;refine stop _ ⟨x,?_,?_⟩ λns g=>by cases g
    .have XJ:Iw l V x c z=pc:=XJ;unfold Iw at XJ;by_cases g:(!(c==x)||(z==x))=pc
     .rw[dz g]at XJ;cases XJ
     .simp only[hG,gP,fS,jA]at g;exact(dL g.1).symm
    .exact XJ
   | always x y=>exact ZH y (by rw[hv];rfl)
   | night x y f m=>exact ZH y (by rw[hv];rfl)
   | busy x y=>exact ZH y (by rw[hv];rfl)
   | silent x y m=>exact ZH y (by rw[hv];rfl)
def Gd{V:qr}{x c z:Str}(h:Iw l V x c z=pc):∃j k,vQ V z=Fa j/\V.calls[j]?=Fa k/\k.st="talks"/\z∈k.ms/\k.ms.length=2/\z≠c:=by
 unfold Iw at h;by_cases g:(!(c==x)||(z==x))=pc
 .rw[dz g]at h;cases h
 rw[dh g]at h;simp only[hG,gP,fS,jA]at g;by_cases g2:(!(hasS l.pn z)||!(xF l V c z))=pc
 .rw[dz g2]at h;cases h
 rw[dh g2]at h;cases e:vQ V z with
 | none=>rw[e]at h;cases h
 | some j=>obtain⟨hj,ht,_⟩:=iM.mp e;rw[e]at h;have h:((V.calls[j]?).elim Uf λk=>(k.ms.length==2)&&Hw l x k.ms)=pc:=h;rw[dg hj]at h;have h:((V.calls[j].ms.length==2)&&Hw l x V.calls[j].ms)=pc:=h;unfold pB.mU at ht;rw[eh]at h ht;refine⟨j,V.calls[j],Z',dg hj,dL ht.1,qU.mp ht.2,dL h.1,λy=>?_⟩;rw[y]at g;have:=dL g.1;rw[this,fv]at g;exact absurd Z' g.2
noncomputable def pB.bare(c:pB):pB:={c with way:=[]}
def tS(V V':qr):Prop:=V'.calls.map pB.bare=V.calls.map pB.bare
def tS.at_{V V':qr}(h:tS V V'){i:Nat}{c:pB}(e:V.calls[i]?=Fa c):∃c',V'.calls[i]?=Fa c'/\c'.bare=c.bare:=by
 have:=eZ (·[i]?) h;simp only[dG,e]at this;cases e':V'.calls[i]? with
 | none=>rw[e']at this;cases this
 | some c'=>rw[e']at this;exact⟨c',Z',dA this⟩
def zF(f:pB->Bool)(hf:∀c,f c.bare=f c)(cs:List pB):(cs.map pB.bare).findIdx? f=cs.findIdx? f:=by rw[ia];congr 1;funext c;exact hf c
def tS.nE{V V':qr}(h:tS V V')(z:Str):vQ V' z=vQ V z:=by unfold vQ;rw[<-zF _ (λ_=>rfl) V'.calls,h,zF _ (λ_=>rfl)]
def tS.ends{V V':qr}(h:tS V V')(i:Nat)(e:vD):sd l V' i e=sd l V i e:=by
 cases e with
 | breaks z=>
  unfold sd;dsimp only;rw[h.nE];have key:∀j:Nat,(V'.calls[j]?).map pB.bare=(V.calls[j]?).map pB.bare:=λj=>by
   have:=eZ (·[j]?) h
   simpa only [dG]using this
  have ki:=key i;cases vQ V z with
  | none=>rfl
  | some j=>
   have kj:=key j;cases e1:V.calls[i]? with
   | none=>rw[e1]at ki;rw[show V'.calls[i]?=Db by cases q:V'.calls[i]? with|none=>rfl|some _=>rw[q]at ki;cases ki]
   | some c=>
    rw[e1]at ki;cases e2:V'.calls[i]? with
    | none=>rw[e2]at ki;cases ki
    | some c'=>
     rw[e2]at ki;have k1:c'.cr=c.cr:=by have kb:c'.bare=c.bare:=dA ki;exact show c'.bare.cr=c.bare.cr by rw[kb]
     have k2:(V'.calls[j]?).elim [] pB.ms=(V.calls[j]?).elim [] pB.ms:=by
      cases e3:V.calls[j]? with
      | none=>rw[e3]at kj;rw[show V'.calls[j]?=Db by cases q:V'.calls[j]? with|none=>rfl|some _=>rw[q]at kj;cases kj]
      | some d=>
       rw[e3]at kj;cases e4:V'.calls[j]? with
       | none=>rw[e4]at kj;cases kj
       | some d'=>rw[e4]at kj;exact show d'.bare.ms=d.bare.ms by rw[show d'.bare=d.bare from dA kj]
     dsimp only;rw[k1,k2]
 | _=>rfl
def tS.trans{V V1 V2:qr}(h:tS V V1)(g:tS V1 V2):tS V V2:=Eq.trans g h
def zt(V:qr)(v:se):tS V (qd V (.leg v)):=by
 show(V.calls.modify v.i (·.go v.g)).map pB.bare=V.calls.map pB.bare;cases e:V.calls[v.i]? with
 | none=>rw[kM (by simpa using e)]
 | some c=>rw[tN e,mC,show(c.go v.g).bare=c.bare from rfl,FR (by rw[dG,e];rfl)]
def DR(V:qr)(i:Nat)(z:Str)(ns:T0 Nat):tS V (qd V (.asks i z ns)):=rfl
def tS.len{V V':qr}(h:tS V V'):V'.calls.length=V.calls.length:=by
 have:=eZ List.length h
 rwa [cZ,cZ]at this
noncomputable def GS:Option Str->sP->Option Str
 | o,[]=>o
 | _,(z,_)::r=>GS (Fa z) r
noncomputable def TJ(i:Nat)(z:Str)(fs:T0 Nat):Option Str->T0 Ev
 | none=>[.asks i z fs]
 | some y=>[.leg ⟨i,y,z,y⟩,.asks i z fs]
theorem yG(i:Nat)(z:Str)(fs:T0 Nat):∀(st:sP) (o:Option Str),qT i o (st++[(z,fs)])=qT i o st++TJ i z fs (GS o st)
 | [],none=>rfl
 | [],Fa _=>rfl
 | (y,gs)::r,none=>by show .asks i y gs::qT i (Fa y) (r++[(z,fs)])=_;rw[yG i z fs r];rfl
 | (y,gs)::r,Fa u=>by show .leg ⟨i,u,y,u⟩::.asks i y gs::qT i (Fa y) (r++[(z,fs)])=_;rw[yG i z fs r];rfl
theorem BS(z:Str)(fs:T0 Nat):∀(st:sP) (o:Option Str),GS o (st++[(z,fs)])=Fa z
 | [],_=>rfl
 | _::r,_=>BS z fs r _
theorem uK(i:Nat):∀(st:sP) (o:Option Str) (V:qr),tS V (qI V (qT i o st))
 | [],_,V=>rfl
 | (y,gs)::r,Db,V=>(DR V i y gs).trans (uK i r (Fa y) _)
 | (y,gs)::r,Fa u,V=>((zt V ⟨i,u,y,u⟩).trans (DR _ i y gs)).trans (uK i r (Fa y) _)
def Qo(a:Ad):rk:=λds M Q=>Mq λM0 b A V l c n i st r=>ds=[.ref b,.int ((i:Nat):Int),.ref r]/\uJ a M0 M b A V l c n/\c<=1000000/\n<=8000000/\st.length<=100/\i<V.calls.length/\oj M r=Fa (rC st)/\r∉A.foot/\∀M' A',uJ a M0 M' b A' (qI V (qT i Db st)) l c (n+2*st.length)->rb A M A' M'->Q .mP M'
def LZ(a:Ad):rk:=λds M Q=>Mq λM0 b A V l c n i z ps=>ds=[.ref b,.int ((i:Nat):Int),.str z,names ps]/\uJ a M0 M b A V l c n/\c<=1000000/\n<=8000000/\i<V.calls.length/\z∈l.nm/\ps≠[]/\(∀x∈ps,x∈l.mI z)/\ps.length<=100/\∀M' A',uJ a M0 M' b A' (qI V (sd l V i (.rings z ps))) l c (n+2)->rb A M A' M'->Q .mP M'
def DJ(l:pG)(V:qr)(i:Nat):vD->Prop
 | .rings z ps=>z∈l.nm/\ps≠[]/\(∀x∈ps,x∈l.mI z)/\ps.length<=100
 | .breaks z=>∃j k,vQ V z=Fa j/\V.calls[j]?=Fa k/\i≠j/\k.ms.length=2
 | _=>True
def Mh(a:Ad):rk:=λds M Q=>UH λM0 b A V l c n i z=>ds=[.ref b,.int ((i:Nat):Int),.str z]/\uJ a M0 M b A V l c n/\c<=1000000/\n<=8000000/\i<V.calls.length/\DJ l V i (.breaks z)/\∀M' A',uJ a M0 M' b A' (qI V (sd l V i (.breaks z))) l c (n+2)->rb A M A' M'->Q .mP M'
def JJ(a:Ad):rk:=λds M Q=>UH λM0 b A V l c n i e=>ds=[.ref b,.int ((i:Nat):Int),vD.d e]/\uJ a M0 M b A V l c n/\c<=1000000/\n<=8000000/\i<V.calls.length/\DJ l V i e/\∀M' A',uJ a M0 M' b A' (qI V (sd l V i e)) l c (n+2)->rb A M A' M'->Q .mP M'
def Os(a:Ad):rk:=λds M Q=>UH λM0 b A V l c n i k=>ds=[.ref b,.int ((i:Nat):Int)]/\uJ a M0 M b A V l c n/\c<=1000000/\n<=7000000/\zj l V (Fa i)/\V.calls[i]?=Fa k/\∀M' A',uJ a M0 M' b A' (qI V (ve l V i)) l c (n+30)->rb A M A' M'->Q .mP M'
def NP(a:Ad):rk:=λds M Q=>UH λM0 b A V l c n y z=>ds=[.ref b,.str y,.str z]/\uJ a M0 M b A V l c n/\c<1000000/\n<=6000000/\zj l (qI V [.new V.calls.length y,.leg ⟨V.calls.length,y,z,y⟩]) (Fa V.calls.length)/\∀M' A',uJ a M0 M' b A' (qI V (Bl l V y z)) l (c+1) (n+32)->rb A M A' M'->Q .mP M'
def L6{st:sP}{pre post:T0 D}{d:D}(e:pre++d::post=rC st):∃z fs,st[pre.length]?=Fa (z,fs)/\d=.tup [.str z,ui fs]/\st.take (pre.length+1)=st.take pre.length++[(z,fs)]:=by
 have h:(rC st)[pre.length]?=Fa d:=by rw[<-e];simp
 unfold rC at h;rw[dG]at h;cases q:st[pre.length]? with
 | none=>rw[q]at h;cases h
 | some s=>rw[q]at h;refine⟨s.1,s.2,Z',(dA h).symm,?_⟩;rw[gy,q];rfl
noncomputable def Vx:Option Str->D
 | none=>.mP
 | some x=>.str x
def PM{ss:QQQ}{x:Str}(h:ss.getLast?=Fa x):vM (ss.map D.str) (-1)=Fa (.str x):=by
 have hp:0<ss.length:=by cases ss with|nil=>cases h|cons _ _=>exact mD _
 unfold vM;have e:G9 (ss.map D.str).length (-1)=Fa (ss.length - 1):=by
  rw[cZ];unfold G9;have:¬((-1:Int)>=0):=by decide
  simp;omega
 rw[e];show(ss.map D.str)[ss.length - 1]?=_;rw[dG,<-jG,h];rfl
def Ly(ds:T0 D):L3.uH ds Db (Fa (-1:Int))=ds.dropLast:=by
 unfold L3.uH;have e:HT.tz ds.length ds.length (Fa (-1:Int))=ds.length - 1:=by show(if (-1:Int)<0 then((-1:Int)+(ds.length:Int)).toNat else min (-1:Int).toNat ds.length)=ds.length - 1;rw[dz (by decide)];omega
 rw[e,HT.BI,ko,k9,List.dropLast_eq_take]
def OG:Fq P w K mg base 4 a.a4 (Qo a):=by
 refine fq G.a4.toDG tW (λr u=>⟨_,(pj (pL 3 tW rQ)
 (pk (sN eK Z' (qB U2) (uX (n:=2) Z' (qE (rg 4 tW) (qE (rg 5 tW) ub)))
 (pj (pP (pH u U3 rQ)
 (pk (pM (pW v0 G.c.toCls G.k (rc G) r (qe (pN (pX pA (pX U1 (rj U3 v4 U3))))))))
 pK)
 (pj (pM (pW v0 G.c.toCls G.k (rc G) r (qe (pN (pX pA (rj U1 v4 v5))))))
 (pk (pL 3 tW v4))))))),?_⟩)
 rintro ds M Q ⟨M0,b,A,V,l,c,n,i,st,r,rfl,cu,hc,hn,Xw,hi,lr,nf,q⟩
 refine i' lr (tF (rC st) (λpre U M'=>(∃A',uJ a M0 M' b A' (qI V (qT i Db (st.take pre.length))) l c (n+2*pre.length)/\rb A M A' M')/\∃y4 y5,U=[Fa (.ref b),Fa (.int ((i:Nat):Int)),Fa (.ref r),Fa (Vx (GS Db (st.take pre.length))),y4,y5]) (λpre U M' j=>?_) _ [] _ _ Z' ⟨⟨A,cu,.refl⟩,Db,Db,Z'⟩ ?_ ?_)
 .obtain⟨⟨A',c1,XS⟩,_⟩:=j;exact sQ (XS.1 r _ nf (qh lr))
 .rintro pre d post e U M' ⟨⟨A',c1,XS⟩,y4,y5,rfl⟩ nx Xh
  obtain⟨z,fs,es,rfl,et⟩:=L6 e;have hp:pre.length<100:=dY (de.mp es).1 Xw;rw[df,dM,et,yG,BS]at Xh;have len:∀es,tS V (qI V es)->i<(qI V es).calls.length:=λes h=>by rw[h.len];exact hi
  have XQ:=len _ (uK i (st.take pre.length) Db V);generalize hV:qI V (qT i Db (st.take pre.length))=V1 at c1 XQ;rw[rF,hV]at Xh;refine⟨Z',?_⟩;dsimp only[sf,Ag,Gx];have asks:∀(M2:Mp) (A2:uj) (V2:qr) (m:Nat) (y3:Option D),m<9000000->uJ a M0 M2 b A2 V2 l c m->rb A M A2 M2->(∀M3 A3,uJ a M0 M3 b A3 (qd V2 (.asks i z fs)) l c (m+1)->rb A M A3 M3->nx [Fa (.ref b),Fa (.int ((i:Nat):Int)),Fa (.ref r),Fa (.str z),Fa (.str z),Fa (ui fs)] M3)->zo (M2 b) λC fs'=>fs'.lookup ("apply":Str)=Db/\∃sp,(C=a.c/\sp=ww a)/\4<=pi/\sp [.ref b,.tup [.str "asks",.int ((i:Nat):Int),.str z,ui fs]] M2 λ_ M3=>nx [Fa (.ref b),Fa (.int ((i:Nat):Int)),Fa (.ref r),Fa (.str z),Fa (.str z),Fa (ui fs)] M3:=λM2 A2 V2 m y3 hm c2 s2 k=>pq c2.at_ ⟨Z',_,⟨Z',Z'⟩,by rw[dS];decide,b,A2,V2,.asks i z fs,Z',c2.b,c2.bd,c2.lim hc hm,trivial,λM3 A3 eb s3 bd=>k M3 A3 (c2.after trivial eb s3 bd) (s2.trans s3)⟩;cases hl:GS Db (st.take pre.length)with
  | none=>rw[hl]at Xh;refine asks M' A' V1 _ Db (by omega) c1 XS λM3 A3 c3 s3=>Xh _ _ ⟨⟨A3,c3.mono (dB _) (by omega),s3⟩,_,_,Z'⟩
  | some y=>rw[hl]at Xh;refine pq c1.at_ ⟨Z',_,⟨Z',Z'⟩,o9 Z',b,A',V1,.leg ⟨i,y,z,y⟩,Z',c1.b,c1.bd,c1.lim hc (by omega),XQ,λM2 A2 eb s2 bd=>?_⟩;have c2:=c1.after (e:=.leg ⟨i,y,z,y⟩) XQ eb s2 bd;refine asks M2 A2 _ _ Db (by omega) c2 (XS.trans s2) λM3 A3 c3 s3=>Xh _ _ ⟨⟨A3,c3.mono (dB _) (by omega),s3⟩,_,_,Z'⟩
 .rintro U M' ⟨⟨A',c1,XS⟩,_⟩
  have hl:(rC st).length=st.length:=by unfold rC;rw[cZ]
  rw[hl,e9]at c1;exact⟨M',.refl,q M' A' c1 XS⟩
def NN:Fq P w K mg base 4 a.a5 (LZ a):=by
 refine fq G.a5.toDG uM (λr u=>⟨_,(pj (pP (pH u (pW (pF v0) G.h.toCls G.aM (xR G) r (qe U2)) pA)
 (pj (pL 4 uM (pW (pF v0) G.h.toCls G.X (ul G) r (qe U2)))
 (pj (pL 5 uM (pU (pU (xI v4 (qe (pJ U3 pz))) pz) (pR qw Z' G.g qv (qe v4))))
 (pk (pM (pW v0 G.c.toCls G.k (rc G) r (qe (pN (rj pA U2 v5))))))))
 pK)
 (pk (pM (pW v0 G.c.toCls G.k (rc G) r (qe (pN (rj pA U1 U3))))))),?_⟩)
 rintro ds M Q ⟨M0,b,A,V,l,c,n,i,z,ps,rfl,cu,hc,hn,hi,hz,Xy,hm,hps,q⟩
 obtain⟨ph,gr,ws,YD,pr,gd,rs,i1,_⟩:=cu.pl;have pl:=cu.pl;obtain⟨x,ps',rfl⟩:=gi Xy;obtain⟨⟨pne,_⟩,_⟩:=cu.ok.of hz;refine Vq (t:=R0 _ _ _) (λU M'=>(∃A',uJ a M0 M' b A' (qI V (if (l.mS z=="turns")=pc then[.next z (Ox (l.mI z) x)]else[])) l c (n+1)/\rb A M A' M')/\∃y1 y2,U=[Fa (.ref b),Fa (.int ((i:Nat):Int)),Fa (.str z),Fa (names (x::ps')),y1,y2]) (λnx h=>?_) ?_
 .refine pq cu.at_ (i' Z' (pq i1 ⟨Z',_,⟨Z',Z'⟩,V.p,z,l,Z',pl,?_⟩));refine qC (c:=l.mS z=="turns") (λg=>?_) (λg=>?_)
  .rw[dz g]at h;refine pq cu.at_ (i' Z' (pq i1 ⟨Z',_,⟨Z',Z'⟩,V.p,z,l,Z',pl,λp hp=>?_⟩));have t:=qp.new (c:=.lst ((l.mI z).map D.str)) hp;have lp:=@pD M p ((l.mI z).map D.str);have ZY:=cu.sub t;have st0:rb A M A (pE M p (.lst ((l.mI z).map D.str))):=.sub t;generalize pE M p (.lst ((l.mI z).map D.str))=M1 at t lp ZY st0 ⊢;have ej:=Eg x (l.mI z) (hm x dP);have lpos:0<(l.mI z).length:=fF.mpr pne;have el:(((l.mI z).map D.str).length:Int)=(l.mI z).length:=by rw[cZ]
   refine⟨by show(oj M1 p).isSome=pc;rw[lp];rfl,i' (vK _ _) (i' lp ⟨Z',qx _,i' ej (i' lp ⟨by rw[el];omega,?_⟩)⟩)⟩;rw[el];refine pq ZY.at_ ⟨Z',_,⟨Z',Z'⟩,o9 Z',b,A,V,.next z (Ox (l.mI z) x),Z',ZY.b,ZY.bd,ZY.lim hc (by omega),trivial,λM2 A2 eb st YK=>?_⟩;exact h _ _ ⟨⟨A2,ZY.after (e:=.next z (Ox (l.mI z) x)) trivial eb st YK,st0.trans st⟩,_,_,Z'⟩
  .rw[dh g]at h;exact h _ _ ⟨⟨A,cu.mono (dB _) (by omega),.refl⟩,_,_,Z'⟩
 rintro U M1 ⟨⟨A1,c1,XS⟩,y1,y2,rfl⟩
 have q:∀M' A',uJ a M0 M' b A' (qI V ((if (l.mS z=="turns")=pc then[.next z (Ox (l.mI z) x)]else[])++[.rings i (x::ps')])) l c (n+2)->rb A M A' M'->Q .mP M':=q;rw[rF]at q;have XQ:i<(qI V (if (l.mS z=="turns")=pc then[.next z (Ox (l.mI z) x)]else[])).calls.length:=by
  split
  .exact hi
  .exact hi
 generalize qI V (if (l.mS z=="turns")=pc then[.next z (Ox (l.mI z) x)]else[])=V1 at c1 q XQ;refine pq c1.at_ ⟨Z',_,⟨Z',Z'⟩,o9 Z',b,A1,V1,.rings i (x::ps'),Z',c1.b,c1.bd,c1.lim hc (by omega),⟨XQ,hps⟩,λM2 A2 eb Xx YK=>?_⟩;exact⟨M2,.refl,q M2 A2 (c1.after (e:=.rings i (x::ps')) ⟨XQ,hps⟩ eb Xx YK) (XS.trans Xx)⟩
def LL:Fq P w K mg base 4 a.a6 (Mh a):=by
 refine fq G.a6.toDG xD (λr u=>⟨_,(pj (pL 3 xD (pW v0 G.c.toCls G.S (yN G) r (qe U2)))
 (pj (pL 4 xD (pU (qg uF Z' G.E ua (qe (pF (pJ (pF v0) U3)))) (pN (qe (pF (pJ (pF v0) U1))))))
 (pk (pM (pW v0 G.c.toCls G.k (rc G) r (qe (pN (pX pA (rj U1 U3 v4))))))))),?_⟩)
 rintro ds M Q ⟨M0,b,A,V,l,c,n,i,z,rfl,cu,hc,hn,hi,⟨j,k,ej,ek,Yc,YJ⟩,q⟩
 have hz:=dS;have ei:V.calls[i]?=Fa V.calls[i]:=dg hi;generalize V.calls[i]=ci at ei;obtain⟨ka,qi⟩:=cu.call ei;obtain⟨kb,qj⟩:=cu.call ek;obtain⟨ad,md,h1,h2,h3,h4,_⟩:=qi.cell;obtain⟨ad',md',g1,g2,g3,g4,_⟩:=qj.cell;have hee:sd l V i (.breaks z)=[.merge i j (k.ms++[ci.cr])]:=by unfold sd;dsimp only;rw[ej,ei];dsimp only;rw[ek];rfl
 rw[hee]at q;have ok:(Ev.merge i j (k.ms++[ci.cr])).ok V:=⟨hi,(de.mp ek).1,Yc,by rw[df,YJ];show 3<=100;decide⟩;refine pq cu.at_ ⟨Z',_,⟨Z',Z'⟩,A,V,z,by rw[cu.b],cu.bd,eA cu.sz.ca hc,?_⟩;rw[show Az V z=.int (j:Nat)from by unfold Az;rw[ej];rfl];refine pq cu.at_ (i' Z' (i' Z' (i' cu.bd.ca (i' (rB qj.e1) (pq g1 (i' Z' (i' g4 ?_)))))));refine pq cu.at_ (i' Z' (i' Z' (i' cu.bd.ca (i' (rB qi.e1) (pq h1 (i' Z' ⟨o9 Z',?_⟩))))));refine⟨(by intro y;rw[List.map_eq_nil_iff]at y;rw[y]at YJ;cases YJ),(by rw[cZ,YJ];show 2+1<=pi;omega),?_⟩;rw[show k.ms.map D.str++[D.str ci.cr]=(k.ms++[ci.cr]).map D.str by rw[dQ];rfl];refine pq cu.at_ ⟨Z',_,⟨Z',Z'⟩,o9 Z',b,A,V,.merge i j (k.ms++[ci.cr]),Z',cu.b,cu.bd,cu.lim hc (by omega),ok,λM2 A2 eb Xx YK=>?_⟩;exact⟨M2,.refl,q M2 A2 ((cu.after ok eb Xx YK).mono (dB _) (by omega)) Xx⟩
def P7:Fq P w K mg base 5 a.a7 (JJ a):=by
 refine fq G.a7.toDG xH (λr u=>⟨_,(pj (pL 3 xH (pJ U2 pz))
 (pk (pP (pH u U3 pA)
 (pk (pM (pI (NN G) r G.a5 (pX v0 (rj U1 (pJ U2 pz) (pJ U2 pz))))))
 (pk (pP (pH u U3 pA)
 (pk (pM (pW v0 G.c.toCls G.k (rc G) r (qe (pN (rj pA U1 (pJ U2 pz)))))))
 (pk (pP (pH u U3 pA)
 (pk (pM (pI (LL G) r G.a6 (rj v0 U1 (pJ U2 pz)))))
 (pk (pM (pW v0 G.c.toCls G.k (rc G) r (qe (pN (rj pA U1 U3))))))))))))),?_⟩)
 rintro ds M Q ⟨M0,b,A,V,l,c,n,i,e,rfl,cu,hc,hn,hi,he,q⟩
 have one:∀(ev:Ev) (ok:ev.ok V),ev.nw=0->sd l V i e=[ev]->∀M2 A2,A2.b=A.b->rb A M A2 M2->pO a M2 A2 (qd V ev)->∃Xf,qp Xf M2/\Q .mP Xf:=λev ok h0 h1 M2 A2 eb Xx YK=>by rw[h1]at q;have c2:=cu.after ok eb Xx YK;rw[h0]at c2;exact⟨M2,.refl,q M2 A2 (c2.mono (dB _) (by omega)) Xx⟩
 cases e with
 | rings z ps=>exact⟨M0,b,A,V,l,c,n,i,z,ps,Z',cu,hc,hn,hi,he.1,he.2.1,he.2.2.1,he.2.2.2,λM' A' c1 st=>⟨M',.refl,q M' A' c1 st⟩⟩
 | waits z=>exact pq cu.at_ ⟨Z',_,⟨Z',Z'⟩,o9 Z',b,A,V,.waits i z,Z',cu.b,cu.bd,cu.lim hc (by omega),hi,one (.waits i z) hi Z' Z'⟩
 | breaks z=>exact⟨M0,b,A,V,l,c,n,i,z,Z',cu,hc,hn,hi,he,λM' A' c1 st=>⟨M',.refl,q M' A' c1 st⟩⟩
 | engaged z=>exact pq cu.at_ ⟨Z',_,⟨Z',Z'⟩,o9 Z',b,A,V,.over i "engaged",Z',cu.b,cu.bd,cu.lim hc (by omega),hi,one (.over i "engaged") hi Z' Z'⟩
 | barred=>exact pq cu.at_ ⟨Z',_,⟨Z',Z'⟩,o9 Z',b,A,V,.over i "barred",Z',cu.b,cu.bd,cu.lim hc (by omega),hi,one (.over i "barred") hi Z' Z'⟩
 | ring ns=>exact pq cu.at_ ⟨Z',_,⟨Z',Z'⟩,o9 Z',b,A,V,.over i "ring",Z',cu.b,cu.bd,cu.lim hc (by omega),hi,one (.over i "ring") hi Z' Z'⟩
def HL{V:qr}{i:Nat}{k:pB}{e:vD}(ok:rm l)(wf:zj l V (Fa i))(hk:V.calls[i]?=Fa k)(h:GD l V k.cr e):DJ l V i e:=by
 cases e with
 | rings z ps=>obtain⟨hz,Xy,rfl⟩:=h;have h1:=(G' (l:=l) (V:=V) (c:=k.cr) (z:=z));have h2:=(ok.of hz).1.2.1;exact⟨hz,Xy,λx hx=>(h1.1 x hx).2,by have:=h1.2;omega⟩
 | breaks z=>
  obtain⟨x,rfl,hb⟩:=h;obtain⟨j,d,e1,e2,e3,e4,e5,_⟩:=Gd hb;refine⟨j,d,e1,e2,λy=>?_,e5⟩;subst y;rw[hk]at e2;cases e2;have sh:=(wf.ok i k hk).sh;rw[show(Fa i==Fa i)=pc from fv _]at sh;rcases sh with g|g
  .rw[g.1]at e3;exact absurd e3 (by decide)
  .cases g.1
 | _=>trivial
def ID:Fq P w K mg base 9 a.ac (Os a):=by
 refine fq G.ac.toDG wM (λr u=>⟨_,(pj (pL 2 wM (pJ (pF v0) U1))
 (pj (pL 3 wM (pI (Lw G) r G.aY (pX v0 (rj (pF U2) (pJ (pF U2) (EZ pz)) (rW (pF U2) sT (sU (EZ pz)))))))
 (pj (pL 4 wM (pJ U3 pz))
 (pj (pL 5 wM (pJ U3 pz))
 (pj (pM (pI (OG G) r G.a4 (rj v0 U1 v5)))
 (pj (pP (W3.b3 (xP (pH u (pJ v4 pz) pA) (wZ (pH u (pR qw Z' G.g qv (qe v5)) pz))))
 (pj (pL 6 wM (pJ (pJ v5 (EZ pz)) pz))
 (pk (pM (pW v0 G.c.toCls G.k (rc G) r (qe (pN (pX pA (pX U1 (rj v6 (pJ (pJ v4 pz) pz) v6)))))))))
 pK)
 (pk (pM (pI (P7 G) r G.a7 (rj v0 U1 v4)))))))))),?_⟩)
 rintro ds M Q ⟨M0,b,A,V,l,c,n,i,k,rfl,cu,hc,hn,wf,hk,q⟩
 obtain⟨ka,ci⟩:=cu.call hk;obtain⟨ad,md,h1,h2,h3,h4,n1,n2⟩:=ci.cell;have XY:=wf.ok i k hk;have hi:=(de.mp hk).1;obtain⟨z,hz⟩:∃z,k.way.getLast?=Fa z:=by
  cases e:k.way.getLast? with
  | none=>exact absurd (gp.mp e) XY.wy.1
  | some z=>exact⟨z,Z'⟩
 have Yh:z∈l.nm:=XY.wy.2 z (il hz);have hdn:∀x∈k.way.dropLast,x∈l.nm:=λx hx=>XY.wy.2 x (im _ hx);have hwl:=(cu.sz.cs k (qL hk)).1;have hev:ve l V i=qT i Db (uq l V k.cr z k.way.dropLast).2++(sW i (uq l V k.cr z k.way.dropLast).2 (uq l V k.cr z k.way.dropLast).1++sd l V i (uq l V k.cr z k.way.dropLast).1):=by
  unfold ve;rw[hk];have:k.way.getLastD Str.empty=z:=by rw[gR,hz];rfl
  dsimp only[Option.elim];rw[this]
 rw[hev]at q;have ro:wY l V k.cr (l.nm.length+1) [] (uq l V k.cr z k.way.dropLast):=xN cu.ok _ _ _ _ Yh hdn;have rl:=ro.len;have eo:=HL cu.ok wf hk ro.e;have nl:l.nm.length<=11:=by have p8:=cu.ok.p8;have g3:=cu.ok.g3;unfold pG.nm pG.pn pG.gn;rw[df,cZ,cZ];omega
 have re:=ro.e;refine Vq (t:=F6 _ _) (λU M'=>M=M'/\U=[Fa (.ref b),Fa (.int ((i:Nat):Int)),Fa (.ref ka.p),Db,Db,Db,Db]) (λnx0 h=>pq cu.at_ (i' Z' (i' Z' (i' ci.bd.ca (i' (rB ci.e1) (h _ _ ⟨Z',Z'⟩)))))) ?_
 rintro U _ ⟨rfl,rfl⟩
 refine Vq (t:=F6 _ _) (λU M'=>qp M M'/\∃r,M r=Db/\oj M' r=Fa (rC (uq l V k.cr z k.way.dropLast).2)/\U=[Fa (.ref b),Fa (.int ((i:Nat):Int)),Fa (.ref ka.p),Fa (.tup [(uq l V k.cr z k.way.dropLast).1.d,.ref r]),Db,Db,Db]) (λnx0 h=>?_) ?_
 .refine pq h1 (i' Z' (pq h1 (i' Z' (i' h2 (i' (PM hz) (pq h1 (i' Z' (i' h2 λp hp=>?_))))))));rw[show L3.uH (k.way.map D.str) Db (Fa (-1:Int))=k.way.dropLast.map D.str from(Ly _).trans (List.map_dropLast).symm];have t:=qp.new (c:=.lst (k.way.dropLast.map D.str)) hp;have lp:=@pD M p (k.way.dropLast.map D.str);refine⟨A,V,l,k.cr,z,p,k.way.dropLast,by rw[cu.b],(cu.rd hc wf).sub t,Yh,wf.nx,lp,by rw[List.length_dropLast];omega,λr M' s hr lr=>?_⟩;exact h _ _ ⟨t.trans s,r,t.none hr,lr,Z'⟩
 rintro U M1 ⟨s1,r,hr,lr,rfl⟩
 generalize uq l V k.cr z k.way.dropLast=R at lr ro rl eo re q;obtain⟨e,st⟩:=R;have cu1:=cu.sub s1;have rl:st.length<=0+(l.nm.length+1):=rl;refine⟨M0,b,A,V,l,c,n,i,st,r,Z',cu1,hc,by omega,by omega,hi,lr,cu.bd.nY hr,λM2 A2 c2 Xx=>?_⟩;have same:=uK i st Db V;have Yp:i<(qI V (qT i Db st)).calls.length:=by rw[same.len];exact hi
 have ZZ:oj M2 r=Fa (rC st):=sQ (Xx.1 r _ (cu.bd.nY hr) (qh lr));rw[rF,rF]at q;have hee:=λV' (h:tS V V')=>h.ends (l:=l) i e;have hat:∀V',tS V V'->DJ l V' i e:=λV' h=>by
  cases e with
  | breaks z'=>obtain⟨j,d,a1,a2,a3,a4⟩:=eo;obtain⟨d',b1,b2⟩:=h.at_ a2;exact⟨j,d',by rw[h.nE];exact a1,b1,a3,by rw[show d'.ms=d.ms from show d'.bare.ms=d.bare.ms by rw[b2]];exact a4⟩
  | rings _ _=>exact eo
  | _=>trivial
 generalize qI V (qT i Db st)=V2 at c2 Yp same q;have Yi:∀(M3:Mp) (A3:uj) (V3:qr),uJ a M0 M3 b A3 V3 l c (n+2*st.length+1)->rb A M A3 M3->tS V V3->i<V3.calls.length->V3=qI V2 (sW i st e)->JJ a [.ref b,.int ((i:Nat):Int),e.d] M3 λ_ M'=>∃Xf,qp Xf M'/\Q .mP Xf:=λM3 A3 V3 c3 s3 Yj hi3 e3=>⟨M0,b,A3,V3,l,c,_,i,e,Z',c3,hc,by omega,hi3,hat V3 Yj,λM4 A4 c4 s4=>⟨M4,.refl,q M4 A4 (by
  rw[<-e3];rw[hee V3 Yj]at c4;exact c4.mono (dB _) (by omega)) (s3.trans s4)⟩⟩
 have c2':=c2.mono (dB c) (show n+2*st.length<=n+2*st.length+1 by omega);have Yy:=(rb.sub s1 (A:=A)).trans Xx;cases e with
 | ring ns=>
  obtain⟨x,ns',rfl⟩:=gi (show ns≠[]from re);refine i' ZZ ?_;cases hl:st.getLast? with
  | none=>have:st=[]:=gp.mp hl;subst this;exact Yi M2 A2 V2 c2' Yy same Yp Z'
  | some s0=>
   have Y8:0<st.length:=by cases st with|nil=>cases hl|cons _ _=>exact mD _
   have hd:decide ((0:Int)<((rC st).length:Int))=pc:=d6 (by unfold rC;rw[cZ];omega);refine Ba (c:=decide ((0:Int)<((rC st).length:Int))) hd ?_;have hat1:vM (rC st) (-1)=Fa (.tup [.str s0.1,ui s0.2]):=by
    unfold vM;have e1:G9 (rC st).length (-1)=Fa (st.length - 1):=by unfold rC;rw[cZ];unfold G9;simp;omega
    rw[e1];show(rC st)[st.length - 1]?=_;unfold rC;rw[dG,<-jG,hl];rfl
   have hrv:sW i st (.ring (x::ns'))=[.leg ⟨i,s0.1,x,s0.1⟩]:=by unfold sW;dsimp only;rw[hl];rfl
   rw[hrv]at Yi;refine i' ZZ (i' hat1 ?_);refine pq c2.at_ ⟨Z',_,⟨Z',Z'⟩,i' (vK _ _) ⟨o9 Z',b,A2,V2,.leg ⟨i,s0.1,x,s0.1⟩,Z',c2.b,c2.bd,c2.lim hc (by omega),Yp,λM3 A3 eb X4 bd3=>?_⟩⟩;have Yj:=same.trans (zt V2 ⟨i,s0.1,x,s0.1⟩);exact Yi M3 A3 _ (c2.after (e:=.leg ⟨i,s0.1,x,s0.1⟩) Yp eb X4 bd3) (Yy.trans X4) Yj (by rw[Yj.len];exact hi) Z'
 | rings z' ps=>exact Yi M2 A2 V2 c2' Yy same Yp Z'
 | waits z'=>exact Yi M2 A2 V2 c2' Yy same Yp Z'
 | breaks z'=>exact Yi M2 A2 V2 c2' Yy same Yp Z'
 | engaged z'=>exact Yi M2 A2 V2 c2' Yy same Yp Z'
 | barred=>exact Yi M2 A2 V2 c2' Yy same Yp Z'
def Lk:Fq P w K mg base 10 a.a8 (NP a):=by
 refine fq G.a8.toDG zL (λr u=>⟨_,(pj (pL 3 zL (pR qw Z' G.g qv (qe (pF v0))))
 (pj (pM (pW v0 G.c.toCls G.k (rc G) r (qe (pN (rj pA U3 U1)))))
 (pj (pM (pW v0 G.c.toCls G.k (rc G) r (qe (pN (pX pA (pX U3 (rj U1 U2 U1)))))))
 (pk (pM (pI (ID G) r G.ac (rN v0 U3))))))),?_⟩)
 rintro ds M Q ⟨M0,b,A,V,l,c,n,y,z,rfl,cu,hc,hn,wf,q⟩
 have lc:((A.cs.map λk=>D.ref k.p).length:Int)=(V.calls.length:Nat):=by rw[cZ,cu.bd.len]
 refine pq cu.at_ (i' Z' (i' cu.bd.ca ?_));rw[lc];refine pq cu.at_ ⟨Z',_,⟨Z',Z'⟩,o9 Z',b,A,V,.new V.calls.length y,Z',cu.b,cu.bd,cu.lim (by omega) (by omega),trivial,λM1 A1 eb1 XS bd1=>?_⟩;have c1:=cu.after (e:=.new V.calls.length y) trivial eb1 XS bd1;have ok2:(Ev.leg ⟨V.calls.length,y,z,y⟩).ok (qd V (.new V.calls.length y)):=by show V.calls.length<(V.calls++[yU y]).length;rw[df];exact fD _
 refine pq c1.at_ ⟨Z',_,⟨Z',Z'⟩,o9 Z',b,A1,_,.leg ⟨V.calls.length,y,z,y⟩,Z',c1.b,c1.bd,c1.lim (by show c+1<=_;omega) (by omega),ok2,λM2 A2 eb2 Xx YK=>?_⟩;have c2:=c1.after ok2 eb2 Xx YK;obtain⟨k,hk⟩:∃k,(qI V [.new V.calls.length y,.leg ⟨V.calls.length,y,z,y⟩]).calls[V.calls.length]?=Fa k:=by
  have:V.calls.length<(qI V [.new V.calls.length y,.leg ⟨V.calls.length,y,z,y⟩]).calls.length:=by show V.calls.length<((V.calls++[yU y]).modify _ _).length;rw[fj];exact ok2
  exact⟨_,dg this⟩
 refine⟨M0,b,A2,_,l,c+1,n+2,V.calls.length,k,Z',c2,by omega,by omega,wf,hk,λM3 A3 c3 X4=>⟨M3,.refl,q M3 A3 ?_ (XS.trans (Xx.trans X4))⟩⟩;unfold Bl;rw[rF];exact c3.mono (dB _) (by omega)
def Ff(V:qr)(x:Str):D:=FS (uI V x)
abbrev DH:=J1 Ff
def Lp(a:Ad):rk:=λds M Q=>FQ λA V l x z=>ds=[.ref A.b,.str x,.str z]/\Rd a M A V l/\x∈l.pn/\Q (FS (Ge l V x z)) M
inductive vV(a:Ad)(M:Mp)(L:QXQ):List rE->List pB->Prop
 | nil:vV a M L [] []
 | cons (k:rE) (c:pB) (ks:List rE) (cs:List pB) (h:rV a M L k c) (r:vV a M L ks cs):vV a M L (k::ks) (c::cs)
def tU.nf(w:Str)(m:Nat):Prop:=((w="answer"\/w="hang"\/w="hold"\/w="back")/\m=1)\/((w="hand"\/w="join")/\m=2)
def L8(a:Ad):rk:=λds M Q=>J6 λwd x r L ks cs=>ds=[.str wd,.str x,.ref r]/\oj M r=Fa (List.map (λk:rE=>D.ref k.p) ks)/\vV a M L ks cs/\tU.nf wd cs.length/\Q (.bl (JP wd x cs)) M
def JO(a:Ad):rk:=λds M Q=>J6 λA V l wd x ns=>ds=[.ref A.b,.str wd,.str x,.tup (List.map D.int ns)]/\Rd a M A V l/\x∈l.pn/\tU.nf wd ns.length/\Q (FS (MI l V wd x ns)) M
def Sh(a:Ad):rk:=λds M Q=>Af λA V b i=>ds=[.ref A.b,.str (Ul b),.int i]/\pO a M A V/\Q (FS (Pm V b i)) M
def Ik(a:Ad):rk:=λds M Q=>Af λA V l e=>ds=[.ref A.b,tU.d e]/\Rd a M A V l/\e.nu/\Q (FS (xu l V e)) M
def WC(m:Nat):D->D
 | .int i=>.bl (zI m i)
 | _=>.bl Uf
noncomputable def WK(A:uj):D->D
 | .int i=>(A.cs[i.toNat]?).elim .mP λk=>.ref k.p
 | _=>.mP
theorem Rc{V:qr}(bd:pO a M A V):∀{ns:T0 Int},ns.all (zI V.calls.length)=pc->∃ks,vV a M (A.lists++V.fo) ks (tQ V ns)/\(ns.map D.int).map (WK A)=ks.map (λk:rE=>D.ref k.p)/\(tQ V ns).length=ns.length/\∀i∈ns,∃k,0<=i/\A.cs[i.toNat]?=Fa k
 | [],_=>⟨[],.nil,Z',Z',λi hi=>by cases hi⟩
 | i::r,h=>by
  rw[fC,eh]at h;obtain⟨ks,h1,h2,h3,h4⟩:=Rc bd h.2;have hh:(decide (0<=i)&&decide (i<V.calls.length))=pc:=h.1;rw[eh,eL,eL]at hh;have hi:i.toNat<V.calls.length:=by omega
  have hk:i.toNat<A.cs.length:=by rw[bd.len];exact hi
  have e1:A.cs[i.toNat]?=Fa A.cs[i.toNat]:=dg hk;have e2:V.calls[i.toNat]?=Fa V.calls[i.toNat]:=dg hi;have ec:tQ V (i::r)=V.calls[i.toNat]::tQ V r:=by unfold tQ;rw[List.filterMap_cons_some (f:=λi:Int=>V.calls[i.toNat]?) e2]
  rw[ec];refine⟨A.cs[i.toNat]::ks,.cons _ _ _ _ (bd.cs _ _ _ e1 e2) h1,?_,eZ Nat.succ h3,λj hj=>?_⟩
  .rw[d9,d9,h2];show(A.cs[i.toNat]?).elim _ _::_=_;rw[e1];rfl
  .rcases dw.mp hj with rfl|hj
   .exact⟨_,hh.1,e1⟩
   .exact h4 j hj
def vV.sub(h:vV a M L ks cs)(s:qp M M'):vV a M' L ks cs:=by
 induction h with
 | nil=>exact .nil
 | cons k c ks cs h r ih=>exact .cons k c ks cs (h.sub s) ih
def Rq{bs:T0 Bool}{i:Int}(h:zI bs.length i=pc):vM (bs.map D.bl) i=Fa (.bl (bs.getD i.toNat Uf)):=by
 have hh:(decide (0<=i)&&decide (i<bs.length))=pc:=h;rw[eh,eL,eL]at hh;obtain⟨n,rfl⟩:=eI hh.1;have hn:n<bs.length:=by omega
 refine uB ?_;rw[dG,dg hn];show Fa (D.bl bs[n])=Fa (.bl (bs.getD n Uf));rw[gM,dg hn];rfl
def DF:Fq P w K mg base 4 a.ab (DH a):=by
 refine fq G.ab.toDG yV (λr u=>⟨_,(pj (pP (pH u (pW v0 G.c.toCls G.bH (Lo G) r (qe U1)) rQ)
 (pk (pC pA))
 pK)
 (pj (pP (pH u (pW v0 G.c.toCls G.bI (Il G) r (qe U1)) rQ)
 (pk (pC pA))
 pK)
 (pk (pC rQ)))),?_⟩)
 rintro ds M Q ⟨A,V,x,rfl,bd,hk,q⟩
 unfold Ff uI at q;refine pq bd.at_ ⟨Z',_,⟨Z',Z'⟩,A,V,x,Z',bd,hk,?_⟩;unfold NX;cases e:Eu V x with
 | some j=>rw[e]at q;exact⟨M,.refl,q⟩
 | none=>
  rw[e]at q;refine pq bd.at_ ⟨Z',_,⟨Z',Z'⟩,A,V,x,Z',bd,hk,?_⟩;unfold Ub;cases e:Jp V x with
  | some j=>rw[e]at q;exact⟨M,.refl,q⟩
  | none=>rw[e]at q;exact⟨M,.refl,q⟩
def MF:Fq P w K mg base 5 a.aZ (Lp a):=by
 refine fq G.aZ.toDG wA (λr u=>⟨_,(pj (pP (pH u U2 (vX (pF v0) G.h.toCls G.am (yy G) r))
 (pk (pC pA))
 pK)
 (pj (pL 3 wA (pI (DF G) r G.ab (rN v0 U1)))
 (pj (pP (W3.b3 (xP (pH u U3 rQ) (wZ (vt (um (pW v0 G.c.toCls G.T (y9 G) r (qe U1)))))))
 (pk (pC pA))
 pK)
 (pk (pC U3))))),?_⟩)
 rintro ds M Q ⟨A,V,l,x,z,rfl,rd,hx,q⟩
 obtain⟨ph,gr,ws,YD,pr,gd,rs,i1,_⟩:=rd.pl;have p8:=rd.ok.p8;have g3:=rd.ok.g3;unfold Ge at q;refine pq rd.bd.at_ (i' Z' (pq i1 ⟨Z',_,⟨Z',Z'⟩,V.p,l,Z',rd.pl,by omega,by omega,λp hp=>i' pD ⟨Z',qx _,?_⟩⟩));have t:=qp.new (c:=.lst (l.nm.map D.str)) hp;have XG:=rd.sub t;generalize pE M p (.lst (l.nm.map D.str))=M1 at t XG ⊢;show if (!(inD (.str z) (l.nm.map D.str)))=pc then _ else _
 rw[sE];refine qC (c:=!(hasS l.nm z)) (λg=>?_) (λg=>?_)
 .rw[dz (by simpa using g)]at q;exact⟨M,t,q⟩
 rw[dh (by simpa using g)]at q;refine⟨A,V,x,Z',XG.bd,XG.k,?_⟩;unfold Ff;cases e:uI V x with
 | some w0=>rw[e]at q;exact⟨M,t,q⟩
 | none=>
  rw[e]at q;refine pq XG.bd.at_ ⟨Z',_,⟨Z',Z'⟩,A,V,l,x,Z',XG,hx,?_⟩;refine qC (c:=!(tZ l V x)) (λg=>?_) (λg=>?_)
  .rw[g]at q;exact⟨M,t,q⟩
  .rw[show(!(tZ l V x))=Uf from dO.mpr g]at q;exact⟨M,t,q⟩
def NM:Fq P w K mg base 3 a.a0 (L8 a):=by
 refine fq G.a0.toDG NH (λr u=>⟨_,(pj (pP (pH u v0 pA)
 (pk (pC (qm u U1 (pF (pJ U2 pz)))))
 pK)
 (pj (pP (pH u v0 pA)
 (pk (pC (pW (pJ U2 pz) G.e.toCls G.bL (Ll G) r (qe U1))))
 pK)
 (pj (pP (pH u v0 pA)
 (pk (pC (pW (pJ U2 pz) G.e.toCls G.aC (GI G) r (qe U1))))
 pK)
 (pj (pP (pH u v0 pA)
 (pk (pC (qm u (pF (pJ U2 pz)) U1)))
 pK)
 (pk (pC (tH (qm u (pF (pJ U2 pz)) U1) (sV (pW (pJ U2 pz) G.e.toCls G.aC (GI G) r (qe U1)))))))))),?_⟩)
 rintro ds M Q ⟨wd,x,r,L,ks,cs,rfl,lr,ZO,hw,q⟩
 cases ZO with
 | nil=>rcases hw with⟨_,h⟩|⟨_,h⟩<;>cases h
 | cons k c ks cs hc XX=>
 obtain⟨ad,md,h1,h2,h3,h4,_⟩:=id hc;have a0:=vK (.ref k.p) (ks.map λk:rE=>D.ref k.p);have hold:∀K:DK,K (.bl (c.hd==Fa x)) M->Option.elim (yA M 9 (FS c.hd) (.str x)) False λb=>K (.bl b) M:=λK hK=>by
  cases e:c.hd with
  | none=>rw[e]at hK;exact hK
  | some y=>rw[e]at hK;exact hK
 rcases hw with⟨rfl|rfl|rfl|rfl,h⟩|⟨hw,h⟩
 .exact i' lr (i' a0 (pq h1 (i' Z' (DM h3 ⟨M,.refl,q⟩))))
 .exact i' lr (i' a0 (pq h1 ⟨Z',_,⟨Z',Z'⟩,L,k,c,x,Z',hc,M,.refl,q⟩))
 .exact i' lr (i' a0 (pq h1 ⟨Z',_,⟨Z',Z'⟩,L,k,c,x,Z',hc,M,.refl,q⟩))
 .exact i' lr (i' a0 (pq h1 (i' Z' (hold _ ⟨M,.refl,q⟩))))
 .cases XX with
  | nil=>cases h
  | cons k' d ks cs hd _=>
   obtain⟨ad',md',f1,_⟩:=id hd;have a1:vM (.ref k.p::.ref k'.p::ks.map λk:rE=>D.ref k.p) 1=Fa (.ref k'.p):=uB (j:=1) Z';have qq:Q (.bl ((c.hd==Fa x)&&d.mW x)) M:=by
    rcases hw with rfl|rfl
    .exact q
    .exact q
   rcases hw with rfl|rfl
   all_goals
    refine i' lr (i' a0 (pq h1 (i' Z' ?_)));cases e:c.hd with
    | none=>rw[e]at qq;exact⟨M,.refl,qq⟩
    | some y=>
     rw[e]at qq;have qq:Q (.bl ((y==x)&&d.mW x)) M:=qq;refine qC (c:=y==x) (λg=>?_) (λg=>?_)
     .rw[g,eP]at qq;exact i' lr (i' a1 (pq f1 ⟨Z',_,⟨Z',Z'⟩,L,k',d,x,Z',hd,M,.refl,qq⟩))
     .rw[show(y==x)=Uf from dO.mpr g,fh]at qq;exact⟨M,.refl,qq⟩
def Pi:Fq P w K mg base 5 a.a1 (JO a):=by
 refine fq G.a1.toDG tV (λr u=>⟨_,(pj (pP (vt (um (pR (EF Z') Z' G.bT EN (qe (qF Z' (yb (ix:=[Db,Fa 0]) (N':=["number","board"])) (qB U3) (qG 0) rT (uy u pz v0 (pR qw Z' G.g qv (qe (pF U1)))))))))
 (pk (pC pA))
 pK)
 (pj (xb (i:=4) tV.nd Z' (Or.inl Z') Z' (yb (ix:=[Db,Fa 0]) (N':=["number","board"])) (qB U3) (qG 0) rT (pJ (pF U1) v0))
 (pj (pP (vt (um (pI (NM G) r G.a0 (rj U1 U2 v4))))
 (pk (pC pA))
 pK)
 (pj (pP (pH u U1 (pN (rN pA pA)))
 (pk (pC rQ))
 pK)
 (pj (pL 5 tV (pI (DF G) r G.ab (rN v0 U2)))
 (pj (pP (W3.b3 (xP (pH u v5 rQ) (xP (um (pW (pJ v4 pz) G.e.toCls G.aA (Gz G) r (qe U2))) (wZ (vt (um (pW v0 G.c.toCls G.T (y9 G) r (qe U2))))))))
 (pk (pC pA))
 pK)
 (pk (pC v5)))))))),?_⟩)
 rintro ds M Q ⟨A,V,l,wd,x,ns,rfl,rd,hx,hw,q⟩
 have hz:=dS;have Z1:ns.length<=2:=by rcases hw with⟨_,h⟩|⟨_,h⟩<;>omega
 have lca:((A.cs.map λk=>D.ref k.p).length:Int)=V.calls.length:=by rw[cZ,rd.bd.len]
 unfold MI at q;refine qW (f:=WC V.calls.length) trivial _ [] _ (by rw[cZ];simp only[dR];omega) (λd hd k hk=>?_) λp hp=>?_
 .obtain⟨i,_,rfl⟩:=dJ.mp hd;have hk:k (.bl (decide (0<=i)&&decide (i<V.calls.length))) M:=hk;refine qC (c:=decide (0<=i)) (λg=>?_) (λg=>?_)
  .rw[g,eP]at hk;refine pq rd.bd.at_ (i' Z' (i' rd.bd.ca ?_));rw[lca];exact hk
  .rw[show decide (0<=i)=Uf from dO.mpr g,fh]at hk;exact hk
 have em:[]++(ns.map D.int).map (WC V.calls.length)=ns.map λi=>D.bl (zI V.calls.length i):=by rw[eB,eG];rfl
 rw[em];have t:=qp.new (c:=.lst (ns.map λi=>D.bl (zI V.calls.length i))) hp;refine i' pD (i' (yp (zI V.calls.length) ns) ?_);have XG:=rd.sub t;generalize pE M p (.lst (ns.map λi=>D.bl (zI V.calls.length i)))=M1 at t XG ⊢;rw[ze];refine qC (c:=!(ns.all (zI V.calls.length))) (λg=>?_) (λYf=>?_)
 .rw[dz (by simpa using g)]at q;exact⟨M,t,q⟩
 have Yf:ns.all (zI V.calls.length)=pc:=by simpa using Yf
 rw[dh (by rw[Yf];exact Bool.noConfusion)]at q;obtain⟨ks,hks,eks,lcs,Ze⟩:=Rc XG.bd Yf;refine qW (f:=WK A) trivial _ [] _ (by rw[cZ];simp only[dR];omega) (λd hd k0 hk=>?_) λp2 Xm=>?_
 .obtain⟨i,hi,rfl⟩:=dJ.mp hd;obtain⟨k,i0,e1⟩:=Ze i hi;obtain⟨n,rfl⟩:=eI i0;have e1:A.cs[n]?=Fa k:=e1;have hk:k0 ((A.cs[n]?).elim .mP λk=>.ref k.p) M1:=hk;rw[e1]at hk;exact pq XG.bd.at_ (i' Z' (i' Z' (i' XG.bd.ca (i' (rB e1) hk))))
 rw[eB,eks];have t2:=qp.new (c:=.lst (ks.map λk:rE=>D.ref k.p)) Xm;have l2:=@pD M1 p2 (ks.map λk:rE=>D.ref k.p);have Zo:=XG.sub t2;have s2:=t.trans t2;generalize pE M1 p2 (.lst (ks.map λk:rE=>D.ref k.p))=M2 at l2 Zo s2 t2 ⊢;have hks:=hks.sub t2;generalize tQ V ns=cs at hks lcs q;refine⟨wd,x,p2,_,ks,cs,Z',l2,hks,by rw[lcs];exact hw,?_⟩;refine qC (c:=!JP wd x cs) (λg=>?_) (λg=>?_)
 .rw[dz (by simpa using g)]at q;exact⟨M,s2,q⟩
 rw[dh (by simpa using g)]at q;have two:∀wd:Str,(wd=="answer"||wd=="back")=pc->Q (FS (if ((uI V x).isNone&&(cs.head?.elim Uf (λc=>c.mR x)&&!(tZ l V x)))=pc then Fa "full" else uI V x)) M->cs.length=1->DH a [.ref A.b,.str x] M2 λdue M3=>uk (R0 (O7 (b3 (k3 .Is (v3 5) (c3 .mP))) (O7 (b3 (AB "waits_with" (λD s=>D=a.e/\s=vS a) (i3 (v3 4) (c3 (.int 0))) (vB (v3 2) xV))) (Ut (b3 (AB "is_free" (λD s=>D=a.c/\s=xn a) (v3 0) (vB (v3 2) xV)))))) (SG (c3 (.str "full"))) VU) (SG (v3 5)) {nx:=λ_ M'=>∃Xf,qp Xf M'/\Q .mP Xf,rt:=λd M'=>∃Xf,qp Xf M'/\Q d Xf} [Fa (.ref A.b),Fa (.str wd),Fa (.str x),Fa (.tup (ns.map D.int)),Fa (.ref p2),Fa due] M3:=λwd _ q hl=>by
  cases hks with
  | nil=>cases hl
  | cons k c ks cs hc _=>
  have q:Q (FS (if ((uI V x).isNone&&(c.mR x&&!(tZ l V x)))=pc then Fa "full" else uI V x)) M:=q;obtain⟨ad,md,h1,_⟩:=id hc;refine⟨A,V,x,Z',Zo.bd,Zo.k,?_⟩;unfold Ff;cases e:uI V x with
  | some w0=>rw[e]at q;exact⟨M,s2,q⟩
  | none=>
   rw[e]at q;refine i' l2 (i' (vK _ _) (pq h1 ⟨Z',_,⟨Z',Z'⟩,_,k,c,x,Z',hc,?_⟩));refine qC (c:=c.mR x) (λg1=>?_) (λg1=>?_)
   .rw[g1]at q;refine pq Zo.bd.at_ ⟨Z',_,⟨Z',Z'⟩,A,V,l,x,Z',Zo,hx,?_⟩;refine qC (c:=!(tZ l V x)) (λg=>?_) (λg=>?_)
    .rw[g]at q;exact⟨M,s2,q⟩
    .rw[show(!(tZ l V x))=Uf from dO.mpr g]at q;exact⟨M,s2,q⟩
   .rw[show c.mR x=Uf from dO.mpr g1]at q;exact⟨M,s2,q⟩
 rcases hw with⟨rfl|rfl|rfl|rfl,h⟩|⟨rfl|rfl,h⟩
 .exact⟨o9 Z',Z',Z',two "answer" Z' q (lcs.trans h)⟩
 .exact⟨o9 Z',Z',Z',M,s2,q⟩
 .exact⟨o9 Z',Z',Z',M,s2,q⟩
 .exact⟨o9 Z',Z',Z',two "back" Z' q (lcs.trans h)⟩
 .exact⟨o9 Z',Z',Z',M,s2,q⟩
 .exact⟨o9 Z',Z',Z',M,s2,q⟩
def Su:Fq P w K mg base 1 a.a2 (Sh a):=by
 refine fq G.a2.toDG yM (λr u=>⟨_,(pj (pP (vt (Gv u pz U2 (pR qw Z' G.g qv (qe (pF v0)))))
 (pk (pC pA))
 pK)
 (pj (pP (pH u (pJ (pF v0) U2) (qm u U1 pA))
 (pk (pC pA))
 pK)
 (pk (pC rQ)))),?_⟩)
 rintro ds M Q ⟨A,V,b,i,rfl,bd,q⟩
 unfold Pm at q;have Ze:zI V.on.length i=(decide (0<=i)&&decide (i<V.on.length)):=rfl;have lon:((V.on.map D.bl).length:Int)=V.on.length:=by rw[cZ]
 have no:zI V.on.length i=Uf->Q (.str "wish") M:=λh=>by rw[dz h]at q;exact q
 have yes:zI V.on.length i=pc->Q (FS (if (V.on.getD i.toNat Uf==b)=pc then Fa "wish" else Db)) M:=λh=>by rw[h,dh Bool.noConfusion]at q;exact q
 refine qC (c:=decide (0<=i)) (λg0=>?_) (λg0=>⟨M,.refl,no (by rw[Ze,show decide (0<=i)=Uf from dO.mpr g0];rfl)⟩);refine pq bd.at_ (i' Z' (i' bd.on ?_));rw[lon];refine qC (c:=!(decide (i<(V.on.length:Int)))) (λg1=>⟨M,.refl,no (by rw[Ze,g0,show decide (i<(V.on.length:Int))=Uf by simpa using g1];rfl)⟩) (λg1=>?_);have h:zI V.on.length i=pc:=by rw[Ze,g0,show decide (i<(V.on.length:Int))=pc by simpa using g1];rfl
 have q:=yes h;refine pq bd.at_ (i' Z' (i' Z' (i' bd.on (i' (Rq h) ?_))));have es:(Ul b=="on")=b:=by cases b<;>rfl
 show if (V.on.getD i.toNat Uf==(Ul b=="on"))=pc then _ else _
 rw[es];refine qC (λg=>?_) (λg=>?_)
 .rw[dz g]at q;exact⟨M,.refl,q⟩
 .rw[dh g]at q;exact⟨M,.refl,q⟩
def Hj:Fq P w K mg base 6 a.a3 (Ik a):=by
 refine fq G.a3.toDG B7 (λr u=>⟨_,(pj (pL 2 B7 (pJ U1 pz))
 (pj (pP (pH u U2 pA)
 (pk (pC rQ))
 pK)
 (pj (pP (pH u U2 (pN (rN pA pA)))
 (pk (pC (pI (Su G) r G.a2 (rj v0 U2 (pJ U1 pz)))))
 pK)
 (pj (pP (pH u (pJ U1 pz) (vX (pF v0) G.h.toCls G.L (sF G) r))
 (pk (pC pA))
 pK)
 (pj (pP (pH u U2 pA)
 (pk (pC (pI (MF G) r G.aZ (rj v0 (pJ U1 pz) (pJ U1 pz)))))
 pK)
 (pk (pC (pI (Pi G) r G.a1 (pX v0 (rj U2 (pJ U1 pz) (rW U1 (sU pz) sT))))))))))),?_⟩)
 rintro ds M Q ⟨A,V,l,e,rfl,rd,hf,q⟩
 obtain⟨ph,gr,ws,YD,pr,gd,rs,i1,_⟩:=rd.pl;have p8:=rd.ok.p8;cases e with
 | turn=>exact⟨M,.refl,q⟩
 | sw b i=>
  cases b with
  | true=>exact⟨o9 Z',Z',Z',A,V,pc,i,Z',rd.bd,M,.refl,q⟩
  | false=>exact⟨o9 Z',Z',Z',A,V,Uf,i,Z',rd.bd,M,.refl,q⟩
 | call x z=>
  have q:Q (FS (if hasS l.pn x=Uf then Fa "name" else Ge l V x z)) M:=q;refine⟨o9 Z',Z',Z',?_⟩;refine pq rd.bd.at_ (i' Z' (pq i1 ⟨Z',_,⟨Z',Z'⟩,V.p,l,Z',rd.pl,by omega,λp Xm=>i' pD ⟨Z',qx _,?_⟩⟩));have t:=qp.new (c:=.lst (l.pn.map D.str)) Xm;have XG:=rd.sub t;generalize pE M p (.lst (l.pn.map D.str))=M1 at t XG ⊢;show if (!(inD (.str x) (l.pn.map D.str)))=pc then _ else _
  rw[sE];refine qC (c:=!(hasS l.pn x)) (λg=>?_) (λg=>?_)
  .rw[dz (by simpa using g)]at q;exact⟨M,t,q⟩
  .have g:hasS l.pn x=pc:=by simpa using g
   rw[g,dh Bool.noConfusion]at q;exact⟨A,V,l,x,z,Z',XG,qU.mp g,M,t,q⟩
 | num wd x ns=>
  have q:Q (FS (if hasS l.pn x=Uf then Fa "name" else MI l V wd x ns)) M:=q;have hf:tU.nf wd ns.length:=hf;have key:∀(M1:Mp),qp M M1->if (!(inD (.str x) (l.pn.map D.str)))=pc then(∃Xf,qp Xf M1/\Q (.str "name") Xf)else JO a [.ref A.b,.str wd,.str x,.tup (ns.map D.int)] M1 λd M'=>∃Xf,qp Xf M'/\Q d Xf:=λM1 t=>by
   rw[sE];refine qC (c:=!(hasS l.pn x)) (λg=>?_) (λg=>?_)
   .rw[dz (by simpa using g)]at q;exact⟨M,t,q⟩
   .have g:hasS l.pn x=pc:=by simpa using g
    rw[g,dh Bool.noConfusion]at q;exact⟨A,V,l,wd,x,ns,Z',rd.sub t,qU.mp g,hf,M,t,q⟩
  have one:ns.length=1->∃i,ns=[i]:=List.length_eq_one_iff.mp;have two:ns.length=2->∃i j,ns=[i,j]:=λh=>by
   match ns,h with
   | [i,j],_=>exact⟨i,j,Z'⟩
  rcases id hf with⟨rfl|rfl|rfl|rfl,h⟩|⟨rfl|rfl,h⟩
  .obtain⟨i,rfl⟩:=one h;exact⟨o9 Z',Z',Z',pq rd.bd.at_ (i' Z' (pq i1 ⟨Z',_,⟨Z',Z'⟩,V.p,l,Z',rd.pl,by omega,λp Xm=>i' pD ⟨Z',qx _,key _ (.new Xm)⟩⟩))⟩
  .obtain⟨i,rfl⟩:=one h;exact⟨o9 Z',Z',Z',pq rd.bd.at_ (i' Z' (pq i1 ⟨Z',_,⟨Z',Z'⟩,V.p,l,Z',rd.pl,by omega,λp Xm=>i' pD ⟨Z',qx _,key _ (.new Xm)⟩⟩))⟩
  .obtain⟨i,rfl⟩:=one h;exact⟨o9 Z',Z',Z',pq rd.bd.at_ (i' Z' (pq i1 ⟨Z',_,⟨Z',Z'⟩,V.p,l,Z',rd.pl,by omega,λp Xm=>i' pD ⟨Z',qx _,key _ (.new Xm)⟩⟩))⟩
  .obtain⟨i,rfl⟩:=one h;exact⟨o9 Z',Z',Z',pq rd.bd.at_ (i' Z' (pq i1 ⟨Z',_,⟨Z',Z'⟩,V.p,l,Z',rd.pl,by omega,λp Xm=>i' pD ⟨Z',qx _,key _ (.new Xm)⟩⟩))⟩
  .obtain⟨i,j,rfl⟩:=two h;exact⟨o9 Z',Z',Z',pq rd.bd.at_ (i' Z' (pq i1 ⟨Z',_,⟨Z',Z'⟩,V.p,l,Z',rd.pl,by omega,λp Xm=>i' pD ⟨Z',qx _,key _ (.new Xm)⟩⟩))⟩
  .obtain⟨i,j,rfl⟩:=two h;exact⟨o9 Z',Z',Z',pq rd.bd.at_ (i' Z' (pq i1 ⟨Z',_,⟨Z',Z'⟩,V.p,l,Z',rd.pl,by omega,λp Xm=>i' pD ⟨Z',qx _,key _ (.new Xm)⟩⟩))⟩
def C7(V:qr)(x:Str):Prop:=∀c∈V.calls,¬Bq c x
def FJ{V:qr}(h:uI V x=Db):C7 V x:=by
 unfold uI at h;cases e1:Eu V x with
 | some j=>rw[e1]at h;cases h
 | none=>
  cases e2:Jp V x with
  | some j=>rw[e1,e2]at h;cases h
  | none=>
   intro c hc g;have h1:=jI.mp e1 c hc;have h2:=jI.mp e2 c hc;rcases g with g|g
   .rw[h1]at g;cases g
   .rw[h2]at g;cases g
def sG{c:pB}(h:c.st="rings"){x:Str}:Bq c x↔x=c.cr:=by unfold Bq pB.nj pB.mV pB.mU;rw[h];simp(decide:=true)
def DE{c:pB}(h:c.st="waits"){x:Str}:Bq c x↔x=c.cr:=by unfold Bq pB.nj pB.mV pB.mU;rw[h];simp(decide:=true)
def tM{c:pB}(h:c.st="talks"){x:Str}:Bq c x↔x∈c.ms:=by unfold Bq pB.nj pB.mV pB.mU;rw[h,<-qU];simp(decide:=true)
def CH{c:pB}(h:c.st="held"){x:Str}:Bq c x↔x∈c.ms/\c.hd≠Fa x:=by unfold Bq pB.nj pB.mV;rw[h,<-qU];simp(decide:=true)
def GO{c:pB}(h:c.st="over"){x:Str}:¬Bq c x:=by unfold Bq pB.nj pB.mV pB.mU;rw[h];simp(decide:=true)
def sL{c:pB}(h:c.st="rings"){x:Str}:c.hasB x=pc↔x=c.cr\/x∈c.at_:=by unfold pB.hasB;rw[h,<-qU];simp(decide:=true)
def D3{c:pB}(h:c.st="waits"){x:Str}:c.hasB x=pc↔x=c.cr:=by unfold pB.hasB;rw[h];simp(decide:=true)
def sY{c:pB}(h:c.st="talks"\/c.st="held"){x:Str}:c.hasB x=pc↔x∈c.ms:=by unfold pB.hasB;rw[<-qU];rcases h with h|h<;>(rw[h];simp(decide:=true))
def F2{c:pB}(h:c.st="over"){x:Str}:c.hasB x=Uf:=by unfold pB.hasB;rw[h];simp(decide:=true)
def sr{c:pB}{x:Str}:c.mR x=pc↔c.st="waits"/\x∈c.at_:=by unfold pB.mR;rw[eh,fB,qU]
theorem Fz{α:Type}(f:α->Bool):∀{l:List α} {i:Nat} {c:α} (c':α),l[i]?=Fa c->((l.set i c').filter f).length+(if f c=pc then 1 else 0)=(l.filter f).length+(if f c'=pc then 1 else 0)
 | [],_,_,_,h=>by simp at h
 | x::r,0,c,c',h=>by cases h;rw[List.set_cons_zero,gT,gT];split<;>split<;>simp
 | x::r,i+1,c,c',h=>by
  have ih:=Fz f (l:=r) (i:=i) (c:=c) c' (by simpa using h);rw[lj,gT,gT];split
  .rw[eC,eC];omega
  .exact ih
def zj.set{V V':qr}{o o':Option Nat}{i:Nat}{c c':pB}(h:zj l V o)(e:V'.calls=V.calls.set i c')(hc:V.calls[i]?=Fa c)(ho:∀j,j≠i->(o==Fa j)=(o'==Fa j))(ok:wj l (o'==Fa i) c')(he:∀x,Bq c' x->Bq c x\/C7 V x)(hu:∀x,c'.hasB x=pc->c.hasB x=pc\/(vb V x:Int)<xi l x)(hw:∀x,c'.mR x=pc->c.mR x=pc\/AF V x=Uf)(nx:ux l V'):zj l V' o':=by
 have si:∀{j:Nat} {d:pB},V'.calls[j]?=Fa d->(j=i/\d=c')\/(j≠i/\V.calls[j]?=Fa d):=λ{j d} g=>by rw[e]at g;exact(E4 g).imp (λg=>⟨g.1,g.2.1⟩) id
 have key:∀(j:Nat) cj x,j≠i->V.calls[j]?=Fa cj->Bq c' x->Bq cj x->False:=λj cj x hj e1 g1 g2=>by
  rcases he x g1 with z|z
  .exact hj (h.un j i cj c x e1 hc g2 z)
  .exact z cj (qL e1) g2
 have keyw:∀(j:Nat) cj x,j≠i->V.calls[j]?=Fa cj->c'.mR x=pc->cj.mR x=pc->False:=λj cj x hj e1 g1 g2=>by
  rcases hw x g1 with z|z
  .exact hj (h.wt j i cj c x e1 hc g2 z)
  .unfold AF at z;exact absurd g2 (by rw[lz.mp z cj (qL e1)|>dO.mpr];exact Bool.noConfusion)
 refine⟨λj d g=>?_,λm n cm cn x e1 e2 g1 g2=>?_,λx hx=>?_,λm n cm cn x e1 e2 g1 g2=>?_,nx⟩
 .rcases si g with⟨rfl,rfl⟩|⟨hj,g⟩
  .exact ok
  .rw[<-ho j hj];exact h.ok j d g
 .rcases si e1 with⟨rfl,rfl⟩|⟨hm,e1⟩<;>rcases si e2 with⟨rfl,rfl⟩|⟨hn,e2⟩
  .rfl
  .exact(key n cn x hn e2 g1 g2).elim
  .exact(key m cm x hm e1 g2 g1).elim
  .exact h.un m n cm cn x e1 e2 g1 g2
 .have cs:=Fz (λk:pB=>k.hasB x) c' hc;have hl:=h.ln x hx;unfold vb at hl ⊢;rw[e];by_cases g:c'.hasB x=pc
  .rw[dz g]at cs;rcases hu x g with z|z
   .rw[dz z]at cs;omega
   .unfold vb at z;omega
  .rw[dh g]at cs;omega
 .rcases si e1 with⟨rfl,rfl⟩|⟨hm,e1⟩<;>rcases si e2 with⟨rfl,rfl⟩|⟨hn,e2⟩
  .rfl
  .exact(keyw n cn x hn e2 g1 g2).elim
  .exact(keyw m cm x hm e1 g2 g1).elim
  .exact h.wt m n cm cn x e1 e2 g1 g2
def zj.add{V V':qr}{c':pB}(h:WF l V)(e:V'.calls=V.calls++[c'])(ok:wj l pc c')(he:∀x,Bq c' x->C7 V x)(hu:∀x,c'.hasB x=pc->(vb V x:Int)<xi l x)(hw:∀x,c'.mR x=Uf)(nx:ux l V'):zj l V' (Fa V.calls.length):=by
 have si:∀{j:Nat} {d:pB},V'.calls[j]?=Fa d->(j=V.calls.length/\d=c')\/(j≠V.calls.length/\V.calls[j]?=Fa d):=λ{j d} g=>by
  rw[e]at g;by_cases z:j<V.calls.length
  .rw[fk z]at g;exact .inr ⟨by omega,g⟩
  .have:=(de.mp g).1;rw[df,dM]at this;have z:j=V.calls.length:=by omega
   subst z;rw[fi (dB _)]at g;simp only[ie,iJ,jy]at g;exact .inl ⟨Z',g.symm⟩
 refine⟨λj d g=>?_,λm n cm cn x e1 e2 g1 g2=>?_,λx hx=>?_,λm n cm cn x e1 e2 g1 g2=>?_,nx⟩
 .rcases si g with⟨rfl,rfl⟩|⟨hj,g⟩
  .rw[fv];exact ok
  .rw[show(Fa V.calls.length==Fa j)=Uf by simpa using dW hj];exact h.ok j d g
 .rcases si e1 with⟨rfl,rfl⟩|⟨hm,e1⟩<;>rcases si e2 with⟨rfl,rfl⟩|⟨hn,e2⟩
  .rfl
  .exact(he x g1 cn (qL e2) g2).elim
  .exact(he x g2 cm (qL e1) g1).elim
  .exact h.un m n cm cn x e1 e2 g1 g2
 .have hl:=h.ln x hx;unfold vb at hl ⊢;rw[e,gK,df,gT];split
  .rename_i g;have:=hu x g;unfold vb at this;simp only[gv,dM];omega
  .simp only[gv,dR];omega
 .rcases si e1 with⟨rfl,rfl⟩|⟨hm,e1⟩<;>rcases si e2 with⟨rfl,rfl⟩|⟨hn,e2⟩
  .rfl
  .rw[hw x]at g1;cases g1
  .rw[hw x]at g2;cases g2
  .exact h.wt m n cm cn x e1 e2 g1 g2
noncomputable def pB.core(c:pB):pB:={c with way:=[],si:=0}
def zv(V V':qr):Prop:=V'.calls.map pB.core=V.calls.map pB.core
def zv.at_{V V':qr}(h:zv V V'){i:Nat}{c':pB}(e:V'.calls[i]?=Fa c'):∃c,V.calls[i]?=Fa c/\c'.core=c.core:=by
 have:=eZ (·[i]?) h;simp only[dG,e]at this;cases e':V.calls[i]? with
 | none=>rw[e']at this;cases this
 | some c=>rw[e']at this;exact⟨c,Z',dA this⟩
def zv.used{V V':qr}(h:zv V V')(x:Str):vb V' x=vb V x:=by
 have key:∀cs:List pB,(cs.filter (·.hasB x)).length=((cs.map pB.core).filter (·.hasB x)).length:=λcs=>by rw[hJ,cZ];rfl
 unfold vb;rw[key,h,<-key]
def zv.wf{V V':qr}{o:Option Nat}(h:zv V V')(wf:zj l V o)(hw:∀(i:Nat) c',V'.calls[i]?=Fa c'->c'.way≠[]/\∀z∈c'.way,z∈l.nm)(nx:ux l V'):zj l V' o:=by
 refine⟨λi c' e=>?_,λi j ci cj x e1 e2 g1 g2=>?_,λx hx=>by rw[h.used];exact wf.ln x hx,λi j ci cj x e1 e2 g1 g2=>?_,nx⟩
 .obtain⟨c,ec,ee⟩:=h.at_ e;have k:=wf.ok i c ec;have k1:c'.at_=c.at_:=show c'.core.at_=c.core.at_ by rw[ee]
  have k2:c'.ms=c.ms:=show c'.core.ms=c.core.ms by rw[ee]
  have k3:c'.cr=c.cr:=show c'.core.cr=c.core.cr by rw[ee]
  exact⟨by show QV _ c'.core;rw[ee];exact k.sh,by rw[k3];exact k.cr,by rw[k1];exact k.at_,by rw[k2];exact k.ms,by rw[k1];exact k.an,by rw[k2];exact k.mn,by rw[k1,k3];exact k.ca,hw i c' e⟩
 .obtain⟨di,a1,a2⟩:=h.at_ e1;obtain⟨dj,b1,b2⟩:=h.at_ e2;exact wf.un i j di dj x a1 b1 (by show Bq di.core x;rw[<-a2];exact g1) (by show Bq dj.core x;rw[<-b2];exact g2)
 .obtain⟨di,a1,a2⟩:=h.at_ e1;obtain⟨dj,b1,b2⟩:=h.at_ e2;exact wf.wt i j di dj x a1 b1 (by show di.core.mR x=pc;rw[<-a2];exact g1) (by show dj.core.mR x=pc;rw[<-b2];exact g2)
def tS.core{V V':qr}(h:tS V V'):zv V V':=by have:=eZ (List.map pB.core) h;rw[eG,eG]at this;exact this
def KL(V:qr):zv V (qd V .turn):=by show(V.calls.map pB.tick).map pB.core=V.calls.map pB.core;rw[eG];refine gX λc _=>?_;show(pB.tick c).core=c.core;unfold pB.tick;split<;>rfl
def Bo{V:qr}(wf:WF l V):WF l (qd V .turn):=(KL V).wf wf (λi c' e=>by
 have e:(V.calls.map pB.tick)[i]?=Fa c':=e;rw[dG]at e;cases q:V.calls[i]? with
 | none=>rw[q]at e;cases e
 | some c=>
  rw[q]at e;have e:c.tick=c':=dA e;have hw:c.tick.way=c.way:=by unfold pB.tick;split<;>rfl
  rw[<-e,hw];exact(wf.ok i c q).wy) wf.nx
def U4{V:qr}{b:Bool}{i:Nat}(wf:WF l V):WF l (qd V (.sw b i)):=⟨wf.ok,wf.un,wf.ln,wf.wt,wf.nx⟩
def FB{V:qr}{o:Option Nat}{i:Nat}{z:Str}{ns:T0 Nat}(wf:zj l V o):zj l (qd V (.asks i z ns)) o:=⟨wf.ok,wf.un,wf.ln,wf.wt,wf.nx⟩
def Im{V:qr}{o:Option Nat}{v:se}(wf:zj l V o)(hz:v.g∈l.nm):zj l (qd V (.leg v)) o:=(zt V v).core.wf wf (λi c' e=>by
 have e:(V.calls.modify v.i (·.go v.g))[i]?=Fa c':=e;rw[iZ]at e;cases q:V.calls[i]? with
 | none=>rw[q]at e;cases e
 | some c=>
  rw[q]at e;have k:=(wf.ok i c q).wy;have e:(if v.i=i then c.go v.g else c)=c':=dA e;by_cases g:v.i=i
  .rw[dz g]at e;rw[<-e];refine⟨by show c.way++[v.g]≠[];simp,λz hz'=>?_⟩;rcases dX.mp (show z∈c.way++[v.g]from hz')with y|y
   .exact k.2 z y
   .rw[dv.mp y];exact hz
  .rw[dh g]at e;rw[<-show c=c' from e];exact k) wf.nx
theorem BP{o:Option Nat}(i:Nat):∀(st:sP) (q:Option Str) {V:qr},zj l V o->(∀s∈st,s.1∈l.nm)->zj l (qI V (qT i q st)) o
 | [],_,V,wf,_=>wf
 | (y,gs)::r,Db,V,wf,h=>BP i r (Fa y) (FB wf) λs hs=>h s (dF _ hs)
 | (y,gs)::r,Fa u,V,wf,h=>BP i r (Fa y) (FB (Im wf (h _ dP))) λs hs=>h s (dF _ hs)
def rD{V:qr}{i:Nat}{c:pB}{f:pB->pB}(h:V.calls[i]?=Fa c):(xU V i f).calls=V.calls.set i (f c):=by unfold xU;rw[tN h]
def Bw{i:Nat}:∀j,j≠i->((Fa i:Option Nat)==Fa j)=((Db:Option Nat)==Fa j):=λj hj=>by rw[show((Fa i:Option Nat)==Fa j)=Uf by simpa using dW hj];rfl
def VC{V:qr}{i:Nat}{c:pB}(wf:zj l V (Fa i))(hc:V.calls[i]?=Fa c):c.st="rings"/\c.ms=[]/\c.hd=Db/\c.wd=Db/\c.at_=[]:=by
 have sh:=(wf.ok i c hc).sh;rw[fv]at sh;rcases sh with g|g
 .exact⟨g.1,g.2.1,g.2.2.1,g.2.2.2.1,g.2.2.2.2.1 Z'⟩
 .cases g.1
def Pj{c:pB}{o:Bool}{w:Str}(k:wj l o c)(hw:w∈Mv):wj l Uf (c.over w):=⟨.inr ⟨Z',.inr (.inr (.inr ⟨Z',Z',Z',Z',w,hw,Z'⟩))⟩,k.cr,(λx hx=>by cases hx),(λx hx=>by cases hx),eO,eO,(λhx=>by cases hx),k.wy⟩
def xh{V V':qr}{o:Option Nat}{i:Nat}{c:pB}{w:Str}(wf:zj l V o)(hc:V.calls[i]?=Fa c)(ho:o=Db\/o=Fa i)(hw:w∈Mv)(e:V'.calls=V.calls.set i (c.over w))(nx:ux l V'):WF l V':=
 wf.set e hc (λj hj=>by rcases ho with rfl|rfl;rfl;exact Bw j hj) (Pj (wf.ok i c hc) hw) (λx g=>(GO Z' g).elim) (λx g=>by rw[F2 (c:=c.over w) Z']at g;cases g) (λx g=>by have:=(sr.mp g).1;exact absurd this (show("over":Str)≠"waits" by decide)) nx
def HB{l:pG}{V:qr}{c z:Str}(h:(l.mI z).Nodup):(xA l V c z).Nodup:=by
 unfold xA;split
 .cases(vf (l.mI z) (zD V z)).filter λx=>hasS (uE l V c z) x with
  | nil=>exact eO
  | cons y r=>exact dZ.mpr ⟨dH,eO⟩
 .exact h.sublist gf
def Lf(ps:T0 (Str×Int))(z:Str)(n:Int)(y:Str):(BX ps z n).find? (λp=>decide (p.1=y))=if y=z then Fa (z,n)else ps.find? λp=>decide (p.1=y):=by
 unfold BX;by_cases h:ps.any (λp=>decide (p.1=z))=pc
 .rw[dz h];induction ps with
  | nil=>cases h
  | cons p r ih=>
   rw[d9,fR,fR];by_cases hp:p.1=z
   .rw[dz hp];by_cases hy:y=z
    .rw[dz hy,hy];simp[hp]
    .rw[dh hy];have n1:decide (p.1=y)=Uf:=eY (λq=>hy (q.symm.trans hp));simp only[n1];by_cases hr:r.any (λp=>decide (p.1=z))=pc
     .have:=ih hr;rw[dh hy]at this;exact this
     .have hr:∀q∈r,¬q.1=z:=λq hq g=>hr (gG.mpr ⟨q,hq,d6 g⟩);rw[show r.map (λp=>if p.1=z then(p.1,n)else p)=r from(gX λq hq=>dh (hr q hq)).trans (jh _)]
   .rw[dh hp];have hr:r.any (λp=>decide (p.1=z))=pc:=by
     rw[gh,hG]at h;rcases h with g|g
     .exact absurd (fO g) hp
     .exact g
    have ih:=ih hr;by_cases hy:y=z
    .rw[dz hy]at ih ⊢;have n1:decide (p.1=y)=Uf:=eY (λq=>hp (q.trans hy));simp only[n1];exact ih
    .rw[dh hy]at ih ⊢;cases decide (p.1=y)with
     | true=>rfl
     | false=>exact ih
 .rw[dh h,List.find?_append];have hr:∀q∈ps,¬q.1=z:=λq hq g=>h (gG.mpr ⟨q,hq,d6 g⟩);by_cases hy:y=z
  .subst hy;rw[dz Z',hU.mpr λq hq=>by simpa using hr q hq,Option.none_or];simp
  .rw[dh hy,fR,eY (λq:z=y=>hy q.symm)];simp
def Ld{V:qr}{z:Str}{n:Int}(h:ux l V)(h0:0<=n)(h1:n<=((l.mI z).length:Int)):ux l (qd V (.next z n)):=λy hy ht=>by
 show ∃v,(BX V.ps z n).find? _=Fa v/\_;rw[Lf];by_cases e:y=z
 .subst e;rw[dz Z'];exact⟨_,Z',h0,h1⟩
 .rw[dh e];exact h y hy ht
def Fj{V:qr}(h:tZ l V x=pc):(vb V x:Int)<xi l x:=fO h
def J2{V V':qr}{o:Option Nat}{i:Nat}{c:pB}{w x:Str}(wf:zj l V o)(hc:V.calls[i]?=Fa c)(e:V'.calls=V.calls.set i (c.over w))(hx:Bq c x):C7 V' x:=λd hd g=>by
 rw[e]at hd;obtain⟨j,hj,ed⟩:=gW hd;have ej:(V.calls.set i (c.over w))[j]?=Fa d:=by rw[dg hj,ed]
 rcases E4 ej with⟨_,rfl,_⟩|⟨Xy,ej⟩
 .exact GO Z' g
 .exact Xy (wf.un j i d c x ej hc g hx)
def Km{V V':qr}{i:Nat}{c:pB}{w x:Str}(hc:V.calls[i]?=Fa c)(e:V'.calls=V.calls.set i (c.over w))(hx:c.hasB x=pc):vb V' x+1=vb V x:=by
 have:=Fz (λk:pB=>k.hasB x) (c.over w) hc;unfold vb;rw[e];simp only[hx,je,F2 (c:=c.over w) Z']at this
 simpa using this
def Gu{V V':qr}{o:Option Nat}{i j:Nat}{c d:pB}{ms:QQQ}(wf:zj l V o)(ho:o=Db\/o=Fa i)(hc:V.calls[i]?=Fa c)(hd:V.calls[j]?=Fa d)(Yc:i≠j)(e:V'.calls=(V.calls.set i (c.over "merged")).set j (d.mem ms))(nx:ux l V')(dt:d.st="talks")(m1:ms.Nodup)(m2:ms.length=2\/ms.length=3)(m3:∀x∈ms,x∈d.ms\/(Bq c x/\c.hasB x=pc))(m4:∀x∈ms,x∈l.pn):WF l V':=by
 have e1:(xU V i (·.over "merged")).calls=V.calls.set i (c.over "merged"):=rD hc;have w1:WF l (xU V i (·.over "merged")):=xh wf hc ho (by decide) e1 wf.nx;have hd1:(xU V i (·.over "merged")).calls[j]?=Fa d:=by rw[e1,fL Yc];exact hd
 have kd:=w1.ok j d hd1;have kd':d.hd=Db/\d.wd=Db/\d.at_=[]:=by
  rcases kd.sh with g|⟨_,g|g|⟨_,g⟩|g⟩
  .rw[dt]at g;exact absurd g.1 (by decide)
  .rw[dt]at g;exact absurd g.1 (by decide)
  .exact⟨g.2.2.1,g.2.2.2.1,g.2.2.2.2⟩
  .rw[dt]at g;exact absurd g.1 (by decide)
  .rw[dt]at g;exact absurd g.1 (by decide)
 refine w1.set (c':=d.mem ms) (by rw[e,e1]) hd1 (λ_ _=>rfl) ⟨.inr ⟨Z',.inr (.inl ⟨dt,m2,kd'.1,kd'.2.1,kd'.2.2⟩)⟩,kd.cr,kd.at_,m4,kd.an,m1,kd.ca,kd.wy⟩ (λx g=>?_) (λx g=>?_) (λx g=>?_) nx
 .have g:=(tM (c:=d.mem ms) dt).mp g;rcases m3 x g with y|y
  .exact .inl ((tM dt).mpr y)
  .exact .inr (J2 wf hc e1 y.1)
 .have g:=(sY (c:=d.mem ms) (.inl dt)).mp g;rcases m3 x g with y|y
  .exact .inl ((sY (.inl dt)).mpr y)
  .have:=Km hc e1 y.2;have:=wf.ln x (m4 x g);exact .inr (by omega)
 .have:=(sr.mp g).1;rw[show(d.mem ms).st="talks" from dt]at this;exact absurd this (by decide)
def RS{V V1:qr}{i:Nat}{c:pB}{e:vD}(ok:rm l)(wf:zj l V1 (Fa i))(same:zv V V1)(hc:V1.calls[i]?=Fa c)(he:GD l V c.cr e):WF l (qI V1 (sd l V1 i e)):=by
 obtain⟨p1,p2,p3,p4,p5⟩:=VC wf hc;have k:=wf.ok i c hc;have hi:=(de.mp hc).1;cases e with
 | rings z ps=>
  obtain⟨hz,Xy,rfl⟩:=he;obtain⟨⟨q1,q2,q3,q4⟩,_⟩:=ok.of hz;obtain⟨r1,r2⟩:=G' (l:=l) (V:=V) (c:=c.cr) (z:=z);generalize hps:xA l V c.cr z=ps at Xy r1 r2;have Xe:∀V2:qr,V2.calls=V1.calls->ux l V2->WF l (qd V2 (.rings i ps)):=λV2 e2 nx=>by
   have e3:(qd V2 (.rings i ps)).calls=V1.calls.set i (c.ring ps):=by show(xU (qO V2 _) i _).calls=_;rw[rD (c:=c) (by show V2.calls[i]?=_;rw[e2];exact hc)];show V2.calls.set i _=_;rw[e2]
   have free:∀x∈ps,tZ l V x=pc/\x≠c.cr:=λx hx=>by have h:=(fQ.mp (r1 x hx).1).2;simp only[eh,gP]at h;exact⟨h.2,by simpa using h.1⟩
   refine wf.set e3 hc Bw ⟨.inl ⟨Z',p2,p3,p4,(λh=>by cases h),λ_=>Xy⟩,k.cr,λx hx=>q4 x (r1 x hx).2,k.ms,by rw[<-hps];exact HB q3,k.mn,λhx=>(free _ hx).2 Z',k.wy⟩ (λx g=>?_) (λx g=>?_) (λx g=>?_) nx
   .exact .inl ((sG p1).mpr ((sG (c:=c.ring ps) Z').mp g))
   .rcases(sL (c:=c.ring ps) Z').mp g with y|y
    .exact .inl ((sL p1).mpr (.inl y))
    .refine .inr ?_;rw[same.used];exact Fj (free x y).1
   .exact absurd (sr.mp g).1 (show("rings":Str)≠"waits" by decide)
  show WF l (qI V1 ((if (l.mS z=="turns")=pc then _ else _)++[.rings i ps]));rw[rF];by_cases ht:(l.mS z=="turns")=pc
  .rw[dz ht];have lp:0<(l.mI z).length:=fF.mpr q1;refine Xe _ Z' (Ld wf.nx (fg _ (by omega)) (Int.le_of_lt (eX _ (by omega))))
  .rw[dh ht];exact Xe V1 Z' wf.nx
 | waits z=>
  obtain⟨hz,Xy,hw⟩:=he;have e3:(qd V1 (.waits i z)).calls=V1.calls.set i (c.wait z):=rD (V:=qO V1 _) hc;have hw1:AF V1 z=Uf:=by
   unfold AF at hw ⊢;have key:∀cs:List pB,cs.any (·.mR z)=(cs.map pB.core).any (·.mR z):=λcs=>by rw[jU];rfl
   rw[key,same,<-key];exact hw
  refine wf.set e3 hc Bw ⟨.inr ⟨Z',.inl ⟨Z',p2,p3,p4,Z'⟩⟩,k.cr,λx hx=>by rw[dv.mp hx];exact hz,k.ms,dZ.mpr ⟨dH,eO⟩,k.mn,λhx=>Xy (dv.mp hx).symm,k.wy⟩ (λx g=>?_) (λx g=>?_) (λx g=>?_) wf.nx
  .exact .inl ((sG p1).mpr ((DE (c:=c.wait z) Z').mp g))
  .exact .inl ((sL p1).mpr (.inl ((D3 (c:=c.wait z) Z').mp g)))
  .have:=(sr.mp g).2;rw[dv.mp this];exact .inr hw1
 | breaks z=>
  obtain⟨x,rfl,hb⟩:=he;obtain⟨j,d0,t1,t2,t3,t4,t5,t6⟩:=Gd hb;have ht:vQ V1 z=Fa j:=by
   rw[<-t1];unfold vQ;have key:∀cs:List pB,cs.findIdx? (·.mU z)=(cs.map pB.core).findIdx? (·.mU z):=λcs=>by rw[ia];rfl
   rw[key,same,<-key]
  obtain⟨d,ed,ec⟩:∃d,V1.calls[j]?=Fa d/\d.core=d0.core:=by
   have:=eZ (·[j]?) same;simp only[dG,t2]at this;cases q:V1.calls[j]? with
   | none=>rw[q]at this;cases this
   | some d=>rw[q]at this;exact⟨d,Z',dA this⟩
  have ds:d.st="talks":=by rw[show d.st=d0.st from show d.core.st=d0.core.st by rw[ec]];exact t3
  have dm:d.ms=d0.ms:=show d.core.ms=d0.core.ms by rw[ec]
  have Yc:i≠j:=λy=>by subst y;rw[hc]at ed;cases ed;rw[p1]at ds;exact absurd ds (by decide)
  have hee:sd l V1 i (.breaks z)=[.merge i j (d.ms++[c.cr])]:=by unfold sd;dsimp only;rw[ht,hc];dsimp only;rw[ed];rfl
  rw[hee];have ncr:c.cr∉d.ms:=λy=>Yc (wf.un i j c d c.cr hc ed ((sG p1).mpr Z') ((tM ds).mpr y));have kd:=wf.ok j d ed;refine Gu (V':=qd V1 (.merge i j (d.ms++[c.cr]))) (ms:=d.ms++[c.cr]) wf (.inr Z') hc ed Yc ?_ wf.nx ds ?_ (.inr ?_) (λx hx=>?_) (λx hx=>?_)
  .show(V1.calls.modify i _).modify j _=_;rw[tN hc,tN (show(V1.calls.set i _)[j]?=Fa d by rw[fL Yc];exact ed)]
  .refine gx.mpr ⟨kd.mn,dZ.mpr ⟨dH,eO⟩,λx hx y hy q=>ncr ?_⟩;rw[dv.mp hy]at q;rw[<-q];exact hx
  .rw[df,dm,t5];rfl
  .rcases dX.mp hx with y|y
   .exact .inl y
   .rw[dv.mp y];exact .inr ⟨(sG p1).mpr Z',(sL p1).mpr (.inl Z')⟩
  .rcases dX.mp hx with y|y
   .exact kd.ms x y
   .rw[dv.mp y];exact k.cr
 | engaged z=>exact xh (V':=qd V1 (.over i "engaged")) wf hc (.inr Z') (by decide) (rD (V:=qO V1 _) hc) wf.nx
 | barred=>exact xh (V':=qd V1 (.over i "barred")) wf hc (.inr Z') (by decide) (rD (V:=qO V1 _) hc) wf.nx
 | ring ns=>exact xh (V':=qd V1 (.over i "ring")) wf hc (.inr Z') (by decide) (rD (V:=qO V1 _) hc) wf.nx
def Q8{V:qr}{i:Nat}{k:pB}(ok:rm l)(wf:zj l V (Fa i))(hk:V.calls[i]?=Fa k):WF l (qI V (ve l V i)):=by
 have XY:=wf.ok i k hk;unfold ve;rw[hk];dsimp only[Option.elim];obtain⟨z,hz⟩:∃z,k.way.getLast?=Fa z:=by
  cases e:k.way.getLast? with
  | none=>exact absurd (gp.mp e) XY.wy.1
  | some z=>exact⟨z,Z'⟩
 rw[show k.way.getLastD Str.empty=z by rw[gR,hz];rfl];have ro:wY l V k.cr (l.nm.length+1) [] (uq l V k.cr z k.way.dropLast):=xN ok _ _ _ _ (XY.wy.2 z (il hz)) λx hx=>XY.wy.2 x (im _ hx);generalize uq l V k.cr z k.way.dropLast=R at ro;obtain⟨e,st⟩:=R;have snm:∀s∈st,s.1∈l.nm:=λs hs=>(ro.nm s hs).elim (λh=>by cases h) id;have w1:=BP i st Db wf snm;have XN:=uK i st Db V;rw[rF,rF];dsimp only;have Xe:∀V1:qr,zj l V1 (Fa i)->tS V V1->WF l (qI V1 (sd l V i e)):=λV1 w s=>by
  rw[<-s.ends];obtain⟨c',e1,e2⟩:=s.at_ hk;have hcr:c'.cr=k.cr:=show c'.bare.cr=k.bare.cr by rw[e2]
  exact RS ok w s.core e1 (by rw[hcr];exact ro.e)
 cases e with
 | ring ns=>
  obtain⟨x,ns',rfl⟩:=gi (show ns≠[]from ro.e);cases hl:st.getLast? with
  | none=>rw[show sW i st (.ring (x::ns'))=[]by unfold sW;dsimp only;rw[hl];rfl];exact Xe _ w1 XN
  | some s0=>rw[show sW i st (.ring (x::ns'))=[.leg ⟨i,s0.1,x,s0.1⟩]by unfold sW;dsimp only;rw[hl];rfl];exact Xe _ (Im (v:=⟨i,s0.1,x,s0.1⟩) w1 (ro.wy _ Z' x dP)) (XN.trans (zt _ _))
 | rings _ _=>exact Xe _ w1 XN
 | waits _=>exact Xe _ w1 XN
 | breaks _=>exact Xe _ w1 XN
 | engaged _=>exact Xe _ w1 XN
 | barred=>exact Xe _ w1 XN
def Fl{V:qr}{y z:Str}(wf:WF l V)(hy:y∈l.pn)(hz:z∈l.nm)(hi:C7 V y)(hf:tZ l V y=pc):zj l (qI V [.new V.calls.length y,.leg ⟨V.calls.length,y,z,y⟩]) (Fa V.calls.length):=by
 have e:(qI V [.new V.calls.length y,.leg ⟨V.calls.length,y,z,y⟩]).calls=V.calls++[(yU y).go z]:=by show(V.calls++[yU y]).modify V.calls.length _=_;rw[tN (c:=yU y) (by rw[fi (dB _),ie];rfl),kt _ _ (dB _),ie];rfl
 refine wf.add e ⟨.inl ⟨Z',Z',Z',Z',λ_=>rfl,(λh=>by cases h)⟩,hy,(λx h=>by cases h),(λx h=>by cases h),eO,eO,(λh=>by cases h),fW _ _,λx h=>by rw[dv.mp h];exact hz⟩ (λx h=>?_) (λx h=>?_) (λx=>?_) wf.nx
 .rw[(sG (c:=(yU y).go z) Z').mp h];exact hi
 .rcases(sL (c:=(yU y).go z) Z').mp h with g|g
  .rw[g];exact Fj hf
  .cases g
 .cases q:((yU y).go z).mR x with
  | false=>rfl
  | true=>exact absurd (sr.mp q).1 (show("rings":Str)≠"waits" by decide)
def HX{V:qr}{y z:Str}:∃k,(qI V [.new V.calls.length y,.leg ⟨V.calls.length,y,z,y⟩]).calls[V.calls.length]?=Fa k:=by
 have:V.calls.length<(qI V [.new V.calls.length y,.leg ⟨V.calls.length,y,z,y⟩]).calls.length:=by show V.calls.length<((V.calls++[yU y]).modify _ _).length;rw[fj,df];exact fD _
 exact⟨_,dg this⟩
def Bm{V:qr}{i:Nat}{c:pB}{x y:Str}{fs:T0 Nat}(wf:WF l V)(hc:V.calls[i]?=Fa c)(hs:c.st="rings")(hy:y∈l.nm):zj l (qI V [.asks i x fs,.quiet i,.leg ⟨i,x,y,x⟩]) (Fa i):=by
 refine Im (v:=⟨i,x,y,x⟩) ?_ hy;have k:=wf.ok i c hc;have w1:WF l (qd V (.asks i x fs)):=FB wf;have sh:c.ms=[]/\c.hd=Db/\c.wd=Db:=by
  rcases k.sh with g|⟨_,g|g|⟨_,g⟩|g⟩
  .exact⟨g.2.1,g.2.2.1,g.2.2.2.1⟩
  all_goals(rw[hs]at g;exact absurd g.1 (by decide))
 refine w1.set (i:=i) (c:=c) (c':=c.nJ) (rD (V:=qO (qd V (.asks i x fs)) _) hc) hc (λj hj=>(Bw j hj).symm) ?_ (λx g=>.inl ?_) (λx g=>.inl ?_) (λx g=>?_) wf.nx
 .rw[fv];exact⟨.inl ⟨hs,sh.1,sh.2.1,sh.2.2,λ_=>rfl,(λh=>by cases h)⟩,k.cr,(λx h=>by cases h),k.ms,eO,k.mn,(λh=>by cases h),k.wy⟩
 .exact(sG hs).mpr ((sG (c:=c.nJ) hs).mp g)
 .rcases(sL (c:=c.nJ) hs).mp g with y|y
  .exact(sL hs).mpr (.inl y)
  .cases y
 .have:=(sr.mp g).1;rw[show c.nJ.st="rings" from hs]at this;exact absurd this (by decide)
inductive Vd(l:pG)(V:qr)(i:Nat):List Nat->Prop
 | no:Vd l V i []
 | on (c:pB) (k:Nat) (r:List Nat) (b:Bool) (x y:Str) (n:Int):V.calls[i]?=Fa c->c.st="rings"->l.mJ[k]?=Fa (b,.silent x y n)->c.way.getLast?=Fa x->y∈l.nm->Vd l V i (k::r)
def Fe{V:qr}(ok:rm l):Vd l V i (wN l V i):=by
 unfold wN;cases e:V.calls[i]? with
 | none=>exact .no
 | some c=>
  dsimp only[Option.elim];by_cases hs:(c.st=="rings")=pc
  .rw[dz hs];cases q:Ga l V (GW c)with
   | nil=>exact .no
   | cons k r=>
    obtain⟨⟨b,w⟩,e1,e2⟩:=Bu (i:=k) (by rw[q];exact dP);cases w with
    | silent x y n=>unfold GW at e2;rw[eh,fB]at e2;exact .on c k r b x y n e (dL hs) e1 e2.1 (Cn ok (fU e1) (z:=Str.empty) Z')
    | _=>cases e2
  .rw[dh hs];exact .no
def yl{l:pG}{V:qr}{i k:Nat}{r:T0 Nat}{b:Bool}{x y:Str}{n:Int}(h:l.mJ[k]?=Fa (b,.silent x y n)):tj l V i (k::r)=[.asks i x (k::r),.quiet i,.leg ⟨i,x,y,x⟩]++ve l (qI V [.asks i x (k::r),.quiet i,.leg ⟨i,x,y,x⟩]) i:=by unfold tj;simp only[List.head?_cons,l0,h]
def Bj{V:qr}{i:Nat}{c:pB}{x y:Str}{fs:T0 Nat}(h:V.calls[i]?=Fa c):(qI V [.asks i x fs,.quiet i,.leg ⟨i,x,y,x⟩]).calls[i]?=Fa (c.nJ.go y):=by show((V.calls.modify i pB.nJ).modify i _)[i]?=_;rw[iZ,iZ,h];simp
def En{V:qr}(ok:rm l)(wf:WF l V):WF l (qI V (tj l V i (wN l V i))):=by
 have d:=Fe (V:=V) (i:=i) ok;generalize wN l V i=fs at d;cases d with
 | no=>exact wf
 | on c k r b x y n hc hs hk hw hy=>rw[yl hk,rF];exact Q8 ok (Bm wf hc hs hy) (Bj hc)
theorem EQ(ok:rm l):∀(is:T0 Nat) {V:qr},WF l V->WF l (qI V (qZ l is V))
 | [],_,wf=>wf
 | i::r,V,wf=>by unfold qZ;rw[rF];exact EQ ok r (En ok wf)
theorem Ea(l:pG)(i:Nat):∀(is:T0 Nat) (V:qr),qZ l (is++[i]) V=qZ l is V++tj l (qI V (qZ l is V)) i (wN l (qI V (qZ l is V)) i)
 | [],V=>by show tj l V i _++[]=[]++_;rw[eE];rfl
 | j::r,V=>by show tj l V j _++qZ l (r++[i]) _=(tj l V j _++qZ l r _)++_;rw[Ea l i r,eV,show qZ l (j::r) V=tj l V j (wN l V j)++qZ l r (qI V (tj l V j (wN l V j)))from Z',rF]
def tY{x y:Str}:y∈rJ ss x↔y∈ss/\y≠x:=by unfold rJ;rw[fQ,gP,gC]
theorem xO{x:Str}:∀{ss:QQQ},ss.Nodup->x∈ss->(rJ ss x).length+1=ss.length
 | [],_,h=>by cases h
 | y::r,nd,h=>by
  have nd:=dZ.mp nd;unfold rJ;rw[gT];by_cases e:y=x
  .subst e;rw[show(!(y==y))=Uf by simp,dh (by decide),jd.mpr λz hz=>by
    have:z≠y:=λq=>nd.1 (q ▸ hz)
    simpa using this]
   rfl
  .have h:x∈r:=by
    rcases dw.mp h with q|q
    .exact absurd q.symm e
    .exact q
   rw[dz (by simpa using e)];have:=xO nd.2 h;unfold rJ at this;rw[eC,eC,this]
def QF{V:qr}{i:Nat}{c:pB}{x:Str}(wf:WF l V)(hc:V.calls[i]?=Fa c)(hl:c.nC x=pc):WF l (qI V (uR V x i)):=by
 have k:=wf.ok i c hc;unfold uR;rw[hc];dsimp only[Option.elim];by_cases h1:c.mV x=pc
 .rw[dz h1];exact xh (V':=qd V (.over i "left")) wf hc (.inl Z') (by decide) (rD (V:=qO V _) hc) wf.nx
 .rw[dh h1];have e1:(qd V (.leaves i x)).calls=V.calls.set i (c.drop x):=rD (V:=qO V _) hc;by_cases h2:hasS c.at_ x=pc
  .rw[dz h2];by_cases h3:rJ c.at_ x=[]
   .rw[dz h3];refine xh (V':=qd (qd V (.leaves i x)) (.over i "refused")) wf hc (.inl Z') (by decide) (w:="refused") ?_ wf.nx;have h4:(qd V (.leaves i x)).calls[i]?=Fa (c.drop x):=by rw[e1,fM (de.mp hc).1]
    show(xU (qO (qd V (.leaves i x)) _) i _).calls=_;rw[rD (V:=qO (qd V (.leaves i x)) _) h4];show(qd V (.leaves i x)).calls.set i _=_;rw[e1,jR];rfl
   .rw[dh h3];have hs:c.st="rings"/\c.ms=[]/\c.hd=Db/\c.wd=Db:=by
     rcases k.sh with g|⟨_,g|g|⟨_,g⟩|g⟩
     .exact⟨g.1,g.2.1,g.2.2.1,g.2.2.2.1⟩
     .exfalso;have:=xO k.an (qU.mp h2);rw[g.2.2.2.2]at this;exact h3 (gA.mp (by omega))
     .rw[g.2.2.2.2]at h2;cases h2
     .rw[g.2.2.2.2.2]at h2;cases h2
     .rw[g.2.2.2.1]at h2;cases h2
    refine wf.set (V':=qd V (.leaves i x)) (c':=c.drop x) e1 hc (λ_ _=>rfl) ⟨.inl ⟨hs.1,by show rJ c.ms x=[];rw[hs.2.1];rfl,hs.2.2.1,hs.2.2.2,(λh=>by cases h),λ_=>h3⟩,k.cr,λy hy=>k.at_ y (tY.mp hy).1,λy hy=>k.ms y (tY.mp hy).1,k.an.sublist gf,k.mn.sublist gf,λhy=>k.ca (tY.mp hy).1,k.wy⟩ (λy g=>?_) (λy g=>?_) (λy g=>?_) wf.nx
    .exact .inl ((sG hs.1).mpr ((sG (c:=c.drop x) hs.1).mp g))
    .refine .inl ((sL hs.1).mpr (((sL (c:=c.drop x) hs.1).mp g).imp id λh=>(tY.mp h).1))
    .have:=(sr.mp g).1;rw[show(c.drop x).st="rings" from hs.1]at this;exact absurd this (by decide)
  .rw[dh h2];by_cases h3:2<c.ms.length
   .rw[dz h3];have hx:x∈c.ms:=by unfold pB.nC at hl;rw[dO.mpr h1,dO.mpr h2,fX,fX]at hl;exact qU.mp hl
    have hs:c.st="talks"/\c.ms.length=3/\c.hd=Db/\c.wd=Db/\c.at_=[]:=by
     rcases k.sh with g|⟨_,g|g|⟨_,g⟩|g⟩
     .rw[g.2.1]at h3;cases h3
     .rw[g.2.1]at h3;cases h3
     .exact⟨g.1,g.2.1.elim (λq=>by omega) id,g.2.2⟩
     .omega
     .rw[g.2.1]at h3;cases h3
    have dl:=xO k.mn hx;refine wf.set (V':=qd V (.leaves i x)) (c':=c.drop x) e1 hc (λ_ _=>rfl) ⟨.inr ⟨Z',.inr (.inl ⟨hs.1,.inl (by show(rJ c.ms x).length=2;omega),hs.2.2.1,hs.2.2.2.1,by show rJ c.at_ x=[];rw[hs.2.2.2.2];rfl⟩)⟩,k.cr,λy hy=>k.at_ y (tY.mp hy).1,λy hy=>k.ms y (tY.mp hy).1,k.an.sublist gf,k.mn.sublist gf,λhy=>k.ca (tY.mp hy).1,k.wy⟩ (λy g=>?_) (λy g=>?_) (λy g=>?_) wf.nx
    .exact .inl ((tM hs.1).mpr (tY.mp ((tM (c:=c.drop x) hs.1).mp g)).1)
    .exact .inl ((sY (.inl hs.1)).mpr (tY.mp ((sY (c:=c.drop x) (.inl hs.1)).mp g)).1)
    .have:=(sr.mp g).1;rw[show(c.drop x).st="talks" from hs.1]at this;exact absurd this (by decide)
   .rw[dh h3];exact xh (V':=qd V (.over i "done")) wf hc (.inl Z') (by decide) (rD (V:=qO V _) hc) wf.nx
def Kc{V:qr}{i:Nat}{c:pB}(wf:WF l V)(hc:V.calls[i]?=Fa c)(hx:hasS c.at_ x=pc)(hi:C7 V x)(hf:c.mR x=pc->tZ l V x=pc):WF l (qd V (.talks i [c.cr,x])):=by
 have k:=wf.ok i c hc;have hx:=qU.mp hx;have Xy:c.cr≠x:=λq=>k.ca (q ▸ hx);have hs:(c.st="rings"\/c.st="waits")/\c.wd=Db:=by
  rcases k.sh with g|⟨_,g|g|⟨_,g⟩|g⟩
  .exact⟨.inl g.1,g.2.2.2.1⟩
  .exact⟨.inr g.1,g.2.2.2.1⟩
  .rw[g.2.2.2.2]at hx;cases hx
  .rw[g.2.2.2.2.2]at hx;cases hx
  .rw[g.2.2.2.1]at hx;cases hx
 have ec:Bq c c.cr/\c.hasB c.cr=pc:=by
  rcases hs.1 with g|g
  .exact⟨(sG g).mpr Z',(sL g).mpr (.inl Z')⟩
  .exact⟨(DE g).mpr Z',(D3 g).mpr Z'⟩
 refine wf.set (V':=qd V (.talks i [c.cr,x])) (c':=c.nE [c.cr,x]) (rD (V:=qO V _) hc) hc (λ_ _=>rfl) ⟨.inr ⟨Z',.inr (.inl ⟨Z',.inl Z',Z',hs.2,Z'⟩)⟩,k.cr,(λy h=>by cases h),(λy h=>?_),eO,?_,(λh=>by cases h),k.wy⟩ (λy g=>?_) (λy g=>?_) (λy g=>?_) wf.nx
 .rcases dw.mp h with g|g
  .rw[g];exact k.cr
  .rw[dv.mp g];exact k.at_ x hx
 .exact dZ.mpr ⟨λh=>Xy (dv.mp h),dZ.mpr ⟨dH,eO⟩⟩
 .rcases dw.mp ((tM (c:=c.nE [c.cr,x]) Z').mp g)with h|h
  .rw[h];exact .inl ec.1
  .rw[dv.mp h];exact .inr hi
 .rcases dw.mp ((sY (c:=c.nE [c.cr,x]) (.inl Z')).mp g)with h|h
  .rw[h];exact .inl ec.2
  .rw[dv.mp h];rcases hs.1 with q|q
   .exact .inl ((sL q).mpr (.inr hx))
   .exact .inr (Fj (hf (sr.mpr ⟨q,hx⟩)))
 .exact absurd (sr.mp g).1 (show("talks":Str)≠"waits" by decide)
def Ak{c:pB}{x:Str}:c.mW x=pc↔c.st="talks"/\x∈c.ms/\c.ms.length=2:=by unfold pB.mW pB.mU;rw[eh,eh,fB,qU,fB,and_assoc]
def Lh{c:pB}(k:wj l Uf c)(h:c.st="talks"):c.hd=Db/\c.wd=Db/\c.at_=[]:=by
 rcases k.sh with g|⟨_,g|g|⟨_,g⟩|g⟩
 .rw[h]at g;exact absurd g.1 (by decide)
 .rw[h]at g;exact absurd g.1 (by decide)
 .exact g.2.2
 .rw[h]at g;exact absurd g.1 (by decide)
 .rw[h]at g;exact absurd g.1 (by decide)
def Ef{c:pB}{x:Str}(k:wj l Uf c)(h:c.hd=Fa x):c.st="held"/\c.ms.length=2/\x∈c.ms/\c.wd=Db/\c.at_=[]:=by
 rcases k.sh with g|⟨_,g|g|⟨y,g⟩|g⟩
 .rw[h]at g;cases g.2.2.1
 .rw[h]at g;cases g.2.2.1
 .rw[h]at g;cases g.2.2.1
 .have e:=g.2.2.1;rw[h]at e;cases e;exact⟨g.1,g.2.1,g.2.2.2⟩
 .rw[h]at g;cases g.2.2.1
def PX{V:qr}{i:Nat}{c:pB}{x:Str}(wf:WF l V)(hc:V.calls[i]?=Fa c)(hx:c.mW x=pc):WF l (qd V (.held i x)):=by
 have k:=wf.ok i c hc;obtain⟨h1,h2,h3⟩:=Ak.mp hx;obtain⟨s1,s2,s3⟩:=Lh k h1;refine wf.set (V':=qd V (.held i x)) (c':=c.hold x) (rD (V:=qO V _) hc) hc (λ_ _=>rfl) ⟨.inr ⟨Z',.inr (.inr (.inl ⟨x,Z',h3,Z',h2,s2,s3⟩))⟩,k.cr,k.at_,k.ms,k.an,k.mn,k.ca,k.wy⟩ (λy g=>.inl ?_) (λy g=>.inl ?_) (λy g=>?_) wf.nx
 .exact(tM h1).mpr ((CH (c:=c.hold x) Z').mp g).1
 .exact(sY (.inl h1)).mpr ((sY (c:=c.hold x) (.inr Z')).mp g)
 .exact absurd (sr.mp g).1 (show("held":Str)≠"waits" by decide)
def Qa{V:qr}{i:Nat}{c:pB}{x:Str}(wf:WF l V)(hc:V.calls[i]?=Fa c)(hx:c.hd=Fa x)(hi:C7 V x):WF l (qd V (.talks i c.ms)):=by
 have k:=wf.ok i c hc;obtain⟨h1,h2,h3,h4,h5⟩:=Ef k hx;refine wf.set (V':=qd V (.talks i c.ms)) (c':=c.nE c.ms) (rD (V:=qO V _) hc) hc (λ_ _=>rfl) ⟨.inr ⟨Z',.inr (.inl ⟨Z',.inl h2,Z',h4,Z'⟩)⟩,k.cr,(λy h=>by cases h),k.ms,eO,k.mn,(λh=>by cases h),k.wy⟩ (λy g=>?_) (λy g=>.inl ?_) (λy g=>?_) wf.nx
 .have g:=(tM (c:=c.nE c.ms) Z').mp g;by_cases e:y=x
  .rw[e];exact .inr hi
  .exact .inl ((CH h1).mpr ⟨g,λq=>e (dA (q.symm.trans hx))⟩)
 .exact(sY (.inr h1)).mpr ((sY (c:=c.nE c.ms) (.inl Z')).mp g)
 .exact absurd (sr.mp g).1 (show("talks":Str)≠"waits" by decide)
def D9{c:pB}{x:Str}(nd:c.ms.Nodup)(h2:c.ms.length=2)(hx:x∈c.ms):qA c x∈c.ms/\qA c x≠x:=by
 have dl:=xO nd hx;obtain⟨y,r,e⟩:=List.exists_cons_of_length_pos (show 0<(rJ c.ms x).length by omega);have hm:y∈rJ c.ms x:=by rw[e];exact dP
 unfold qA;rw[e];exact tY.mp hm
def FO{V:qr}{i j:Nat}{c d:pB}{w x:Str}(wf:WF l V)(hc:V.calls[i]?=Fa c)(hd:V.calls[j]?=Fa d)(h1:c.hd=Fa x)(h2:d.mW x=pc):i≠j/\WF l (qd V (.merge i j (if (w=="hand")=pc then[qA c x,qA d x]else[x,qA c x,qA d x]))):=by
 have k:=wf.ok i c hc;have kd:=wf.ok j d hd;obtain⟨c1,c2,c3,c4,c5⟩:=Ef k h1;obtain⟨d1,d2,d3⟩:=Ak.mp h2;obtain⟨a1,a2⟩:=D9 k.mn c2 c3;obtain⟨b1,b2⟩:=D9 kd.mn d3 d2;have Yc:i≠j:=λq=>by subst q;rw[hc]at hd;cases hd;rw[c1]at d1;exact absurd d1 (by decide)
 refine⟨Yc,?_⟩;have ea:Bq c (qA c x):=(CH c1).mpr ⟨a1,λq=>a2 (dA (q.symm.trans h1))⟩;have ab:qA c x≠qA d x:=λq=>Yc (wf.un i j c d _ hc hd ea (by rw[q];exact(tM d1).mpr b1));generalize hms:(if (w=="hand")=pc then[qA c x,qA d x]else[x,qA c x,qA d x])=ms;have mm:∀y∈ms,y=x\/y=qA c x\/y=qA d x:=λy hy=>by
  rw[<-hms]at hy;split at hy
  .rcases dw.mp hy with g|g
   .exact .inr (.inl g)
   .exact .inr (.inr (dv.mp g))
  .rcases dw.mp hy with g|g
   .exact .inl g
   .rcases dw.mp g with g|g
    .exact .inr (.inl g)
    .exact .inr (.inr (dv.mp g))
 have n2:[qA c x,qA d x].Nodup:=dZ.mpr ⟨λh=>ab (dv.mp h),dZ.mpr ⟨dH,eO⟩⟩;refine Gu (V':=qd V (.merge i j ms)) (ms:=ms) wf (.inl Z') hc hd Yc ?_ wf.nx d1 ?_ ?_ (λy hy=>?_) (λy hy=>?_)
 .show(V.calls.modify i _).modify j _=_;rw[tN hc,tN (show(V.calls.set i _)[j]?=Fa d by rw[fL Yc];exact hd)]
 .rw[<-hms];split
  .exact n2
  .refine dZ.mpr ⟨λh=>?_,n2⟩;rcases dw.mp h with g|g
   .exact a2 g.symm
   .exact b2 (dv.mp g).symm
 .rw[<-hms];split
  .exact .inl Z'
  .exact .inr Z'
 .rcases mm y hy with g|g|g
  .rw[g];exact .inl d2
  .rw[g];exact .inr ⟨ea,(sY (.inr c1)).mpr a1⟩
  .rw[g];exact .inl b1
 .rcases mm y hy with g|g|g
  .rw[g];exact k.ms x c3
  .rw[g];exact k.ms _ a1
  .rw[g];exact kd.ms _ b1
def Ss{V:qr}{i:Int}(h:zI V.calls.length i=pc):∃c,V.calls[i.toNat]?=Fa c:=by unfold zI at h;rw[eh,eL,eL]at h;exact⟨_,dg (by omega)⟩
def Fg{V:qr}{b:Bool}(h:(if ((uI V x).isNone&&b)=pc then Fa ("full":Str)else uI V x)=Db):uI V x=Db/\b=Uf:=by
 cases e:uI V x with
 | some w=>rw[e]at h;cases h
 | none=>
  rw[e]at h;cases b with
  | true=>cases h
  | false=>exact⟨Z',Z'⟩
inductive DL(l:pG)(V:qr)(x:Str):Str->List Int->Prop
 | answer (i:Int) (c:pB):0<=i->V.calls[i.toNat]?=Fa c->hasS c.at_ x=pc->C7 V x->(c.mR x=pc->tZ l V x=pc)->DL l V x "answer" [i]
 | hang (i:Int) (c:pB):0<=i->V.calls[i.toNat]?=Fa c->c.nC x=pc->DL l V x "hang" [i]
 | hold (i:Int) (c:pB):0<=i->V.calls[i.toNat]?=Fa c->c.mW x=pc->DL l V x "hold" [i]
 | back (i:Int) (c:pB):0<=i->V.calls[i.toNat]?=Fa c->c.hd=Fa x->C7 V x->DL l V x "back" [i]
 | two (w:Str) (i j:Int) (c d:pB):0<=i->0<=j->w="hand"\/w="join"->V.calls[i.toNat]?=Fa c->V.calls[j.toNat]?=Fa d->c.hd=Fa x->d.mW x=pc->DL l V x w [i,j]
def EO{V:qr}{w x:Str}(f:(tU.num w x ns).nu)(h:xu l V (.num w x ns)=Db):x∈l.pn/\DL l V x w ns:=by
 have hp:hasS l.pn x=pc:=by
  cases q:hasS l.pn x with
  | true=>rfl
  | false=>unfold xu at h;dsimp only at h;rw[dz q]at h;cases h
 refine⟨qU.mp hp,?_⟩;unfold xu at h;dsimp only at h;rw[dh (by rw[hp];decide)]at h;unfold MI at h;cases q1:ns.all (zI V.calls.length)with
 | false=>rw[dz q1]at h;cases h
 | true=>
 rw[dh (by rw[q1];decide)]at h;cases q2:JP w x (tQ V ns)with
 | false=>rw[dz q2]at h;cases h
 | true=>
 rw[dh (by rw[q2];decide)]at h;have z:∀i∈ns,0<=i/\∃c,V.calls[i.toNat]?=Fa c:=λi hi=>by have g:=eU.mp q1 i hi;refine⟨?_,Ss g⟩;unfold zI at g;rw[eh,eL]at g;exact g.1
 rcases f with⟨fw,fl⟩|⟨fw,fl⟩
 .match ns,fl with
  | [i],_=>
   obtain⟨hi,c,hc⟩:=z i dP;have ec:tQ V [i]=[c]:=by unfold tQ;rw[gc,hc];rfl
   rw[ec]at h q2;rcases fw with rfl|rfl|rfl|rfl
   .rw[dh (by decide)]at h;obtain⟨h1,h2⟩:=Fg h;refine .answer i c hi hc q2 (FJ h1) λhw=>?_;have h2:(c.mR x&&!(tZ l V x))=Uf:=h2;rw[hw]at h2
    simpa using h2
   .exact .hang i c hi hc q2
   .exact .hold i c hi hc q2
   .rw[dh (by decide)]at h;exact .back i c hi hc (dL q2) (FJ (Fg h).1)
 .match ns,fl with
  | [i,j],_=>
   obtain⟨hi,c,hc⟩:=z i dP;obtain⟨hj,d,hd⟩:=z j (dF _ dP);have ec:tQ V [i,j]=[c,d]:=by unfold tQ;rw[gc,hc];dsimp only;rw[gc,hd];rfl
   rw[ec]at q2;have q3:((c.hd==Fa x)&&d.mW x)=pc:=by rcases fw with rfl|rfl<;>exact q2
   rw[eh]at q3;exact .two w i j c d hi hj fw hc hd (dL q3.1) q3.2
def Bv{V:qr}{y z:Str}(h:xu l V (.call y z)=Db):y∈l.pn/\z∈l.nm/\C7 V y/\tZ l V y=pc:=by
 unfold xu at h;dsimp only at h;cases q:hasS l.pn y with
 | false=>rw[dz q]at h;cases h
 | true=>
 rw[dh (by rw[q];decide)]at h;unfold Ge at h;cases q1:hasS l.nm z with
 | false=>rw[dz q1]at h;cases h
 | true=>
 rw[dh (by rw[q1];decide)]at h;obtain⟨h1,h2⟩:=Fg h;exact⟨qU.mp q,qU.mp q1,FJ h1,by simpa using h2⟩
def QR{V:qr}{b:Bool}{i:Int}(h:xu l V (.sw b i)=Db):0<=i/\i.toNat<V.on.length:=by
 unfold xu Pm at h;dsimp only at h;cases q:zI V.on.length i with
 | false=>rw[dz q]at h;cases h
 | true=>unfold zI at q;rw[eh,eL,eL]at q;omega
def xo{V:qr}{w x:Str}{i:Nat}{c:pB}(h:V.calls[i]?=Fa c):zR V w x i=if (w=="answer")=pc then .talks i [c.cr,x]else if (w=="hold")=pc then .held i x else .talks i c.ms:=by unfold zR;rw[h];rfl
def E8{V:qr}{w x:Str}{i j:Nat}{c d:pB}(h:V.calls[i]?=Fa c)(g:V.calls[j]?=Fa d):BE V w x i j=.merge i j (if (w=="hand")=pc then[qA c x,qA d x]else[x,qA c x,qA d x]):=by unfold BE;rw[h,g];rfl
def UI{V:qr}{e:tU}(ok:rm l)(wf:WF l V)(f:e.nu)(h:xu l V e=Db):WF l (qI V (vv l V e)):=by
 cases e with
 | call y z=>obtain⟨h1,h2,h3,h4⟩:=Bv h;obtain⟨k,hk⟩:=HX (V:=V) (y:=y) (z:=z);show WF l (qI V (_++ve l _ _));rw[rF];exact Q8 ok (Fl wf h1 h2 h3 h4) hk
 | turn=>exact EQ ok _ (Bo wf)
 | sw b i=>exact U4 wf
 | num w x ns=>
  obtain⟨_,n⟩:=EO f h;cases n with
  | answer i c hi hc h1 h2 h3=>show WF l (qd V (zR V "answer" x i.toNat));rw[xo hc];exact Kc wf hc h1 h2 h3
  | hang i c hi hc h1=>exact QF wf hc h1
  | hold i c hi hc h1=>show WF l (qd V (zR V "hold" x i.toNat));rw[xo hc];exact PX wf hc h1
  | back i c hi hc h1 h2=>show WF l (qd V (zR V "back" x i.toNat));rw[xo hc];exact Qa wf hc h1 h2
  | two _ i j c d hi hj hw hc hd h1 h2=>show WF l (qd V (BE V w x i.toNat j.toNat));rw[E8 hc hd];exact(FO wf hc hd h1 h2).2
def O8(a:Ad):rk:=λds M Q=>Mq λM0 b A V l c n x i k=>ds=[.ref b,.str x,.int ((i:Nat):Int)]/\uJ a M0 M b A V l c n/\c<=1000000/\n<=7000000/\V.calls[i]?=Fa k/\∀M' A',uJ a M0 M' b A' (qI V (uR V x i)) l c (n+2)->rb A M A' M'->Q .mP M'
def Pa(a:Ad):rk:=λds M Q=>J6 λA V l L k c=>ds=[.ref A.b,.ref (rE.p k)]/\Rd a M A V l/\rV a M L k c/\Q (ui (Ga l V (GW c))) M
def OV(a:Ad):rk:=λds M Q=>Mq λM0 b A V l c n i k r=>ds=[.ref b,.int ((i:Nat):Int),ui (k::r)]/\uJ a M0 M b A V l c n/\c<=1000000/\n<=6900000/\WF l V/\Vd l V i (k::r)/\∀M' A',uJ a M0 M' b A' (qI V (tj l V i (k::r))) l c (n+33)->rb A M A' M'->Q .mP M'
def OB(a:Ad):rk:=λds M Q=>Tq λM0 b A V l c n=>ds=[.ref b]/\uJ a M0 M b A V l c n/\c<=10000/\n<=6000000/\WF l V/\∀M' A',uJ a M0 M' b A' (qI V (Et l V)) l c (n+1+33*c)->rb A M A' M'->Q .mP M'
def RV{a:Ad}{M:Mp}{c:pB}{v:Wi}{r:Ch}{Q:DK}(h:M r=Fa (.ins (v.cls a) v.nF))(hk:rV a M L k c)(q:Q (.bl (GW c v)) M):MO a v [.ref r,.ref k.p] M Q:=by
 cases v with
 | silent x y n=>exact⟨r,L,k,c,Z',h,hk,q⟩
 | _=>exact⟨_,_,Z',q⟩
def ON:Fq P w K mg base 4 a.a9 (O8 a):=by
 refine fq G.a9.toDG BC (λr u=>⟨_,(pj (pL 3 BC (pJ (pF v0) U2))
 (pk (pP (um (pW U3 G.e.toCls G.U (By G) r (qe U1)))
 (pk (pM (pW v0 G.c.toCls G.k (rc G) r (qe (pN (rj pA U2 pA))))))
 (pk (pP (pH u U1 (pF U3))
 (pj (pM (pW v0 G.c.toCls G.k (rc G) r (qe (pN (rj pA U2 U1)))))
 (pk (pP (pH u (pR qw Z' G.g qv (qe (pF U3))) pz)
 (pk (pM (pW v0 G.c.toCls G.k (rc G) r (qe (pN (rj pA U2 pA))))))
 pK)))
 (pk (pP (pH u (pR qw Z' G.g qv (qe (pF U3))) pz)
 (pk (pM (pW v0 G.c.toCls G.k (rc G) r (qe (pN (rj pA U2 U1))))))
 (pk (pM (pW v0 G.c.toCls G.k (rc G) r (qe (pN (rj pA U2 pA))))))))))))),?_⟩)
 rintro ds M Q ⟨M0,b,A,V,l,cc,n,x,i,c,rfl,cu,ZM,hn,hc,q⟩
 obtain⟨ka,ci⟩:=cu.call hc;obtain⟨ad,md,h1,h2,h3,h4,n1,n2⟩:=ci.cell;have hi:=(de.mp hc).1;refine pq cu.at_ (i' Z' (i' Z' (i' ci.bd.ca (i' (rB ci.e1) ?_))));refine pq h1 ⟨Z',_,⟨Z',Z'⟩,_,ka,c,x,Z',ci.cell,?_⟩;unfold uR at q;rw[hc]at q;dsimp only[Option.elim]at q;have over:∀(w0:Str),(∀M' A',uJ a M0 M' b A' (qI V [.over i w0]) l cc (n+2)->rb A M A' M'->Q .mP M')->∀(M1:Mp) (A1:uj),A1.b=A.b->rb A M A1 M1->pO a M1 A1 (qd V (.over i w0))->∃Xf,qp Xf M1/\Q .mP Xf:=λw0 q M1 A1 eb st bd=>⟨M1,.refl,q M1 A1 ((cu.after (e:=.over i w0) hi eb st bd).mono (dB _) (by omega)) st⟩;refine qC (c:=c.mV x) (λg=>?_) (λg=>?_)
 .rw[dz g]at q;exact pq cu.at_ ⟨Z',_,⟨Z',Z'⟩,o9 Z',b,A,V,.over i "left",Z',cu.b,cu.bd,cu.lim ZM (by omega),hi,over "left" q⟩
 rw[dh g]at q;refine pq h1 (i' Z' (i' h3 ⟨Z',qx _,?_⟩));show if inD (.str x) (c.at_.map D.str)=pc then _ else _
 rw[sE];refine qC (c:=hasS c.at_ x) (λg2=>?_) (λg2=>?_)
 .rw[dz g2]at q;refine pq cu.at_ ⟨Z',_,⟨Z',Z'⟩,o9 Z',b,A,V,.leaves i x,Z',cu.b,cu.bd,cu.lim ZM (by omega),hi,λM1 A1 eb st bd=>?_⟩;have c1:=cu.after (e:=.leaves i x) hi eb st bd;have ZO:(qd V (.leaves i x)).calls=V.calls.set i (c.drop x):=rD (V:=qO V _) hc;have hc1:(qd V (.leaves i x)).calls[i]?=Fa (c.drop x):=by rw[ZO,fM hi]
  obtain⟨ad',md',g1,ZG,g3,g4,_⟩:=c1.bd.cs i ka _ (st.2.2.1 i ka ci.e1) hc1;have le0:((((c.drop x).at_.map D.str).length:Int)==0)=decide (rJ c.at_ x=[]):=by rw[cZ,gu,fB,eL];show((rJ c.at_ x).length:Int)=0↔_;rw[<-gA];omega
  refine pq g1 (i' Z' (i' g3 ?_));refine qC (c:=(((c.drop x).at_.map D.str).length:Int)==0) (λg5=>?_) (λg5=>?_)
  .rw[le0,eL]at g5;rw[dz g5]at q;have XQ:i<(qd V (.leaves i x)).calls.length:=(de.mp hc1).1;refine pq c1.at_ ⟨Z',_,⟨Z',Z'⟩,o9 Z',b,A1,_,.over i "refused",Z',c1.b,c1.bd,c1.lim ZM (by omega),XQ,λM2 A2 eb2 Xx YK=>?_⟩;exact⟨M2,.refl,q M2 A2 (c1.after (e:=.over i "refused") XQ eb2 Xx YK) (st.trans Xx)⟩
  .rw[le0,eL]at g5;rw[dh g5]at q;exact⟨M1,.refl,q M1 A1 (c1.mono (dB _) (by omega)) st⟩
 .rw[dh g2]at q;refine pq h1 (i' Z' (i' h4 ?_));have lm:decide ((2:Int)<((c.ms.map D.str).length:Int))=decide (2<c.ms.length):=by rw[cZ,gu,eL,eL];omega
  refine qC (c:=decide ((2:Int)<((c.ms.map D.str).length:Int))) (λg3=>?_) (λg3=>?_)
  .rw[lm,eL]at g3;rw[dz g3]at q;refine pq cu.at_ ⟨Z',_,⟨Z',Z'⟩,o9 Z',b,A,V,.leaves i x,Z',cu.b,cu.bd,cu.lim ZM (by omega),hi,λM1 A1 eb st bd=>?_⟩;exact⟨M1,.refl,q M1 A1 ((cu.after (e:=.leaves i x) hi eb st bd).mono (dB _) (by omega)) st⟩
  .rw[lm,eL]at g3;rw[dh g3]at q;exact pq cu.at_ ⟨Z',_,⟨Z',Z'⟩,o9 Z',b,A,V,.over i "done",Z',cu.b,cu.bd,cu.lim ZM (by omega),hi,over "done" q⟩
def Qt:Fq P w K mg base 2 a.ba (Pa a):=by
 refine fq G.ba.toDG yx (λr u=>⟨_,(pj (pL 2 yx (pF (pF v0)))
 (pk (pC (qg uF Z' G.E ua (qe (qF Z' (yb (ix:=[Db,Db,Fa 2,Fa 1]) (N':=["i","on","wishes","call"])) (vk Z' G.aR (qe (pF v0))) (uX (n:=2) Z' (qE (qG 0) (qE (qG 1) ub))) (vC (W3.b3 (xP (um U1) (wZ (um (Fp (R:=Gr a) (pJ U2 v0) (TN G) (r.mono (by first|decide|omega)) (qe U3))))))) v0)))))),?_⟩)
 rintro ds M Q ⟨A,V,l,L,k,c,rfl,rd,hk,q⟩
 obtain⟨ph,gr,ws,YD,pr,gd,rs,i1,i2,i3,i4,i5,i6,i7,i8⟩:=rd.pl;refine pq rd.bd.at_ (i' Z' (pq i1 (i' Z' ?_)));refine pq rd.bd.at_ (i' Z' (i' rd.bd.on ?_));refine IH (rest:=[Fa (.ref ws),Fa (.ref k.p)]) rd.on rd.ok.w16 rd.bd.on (λi w0 ew y kk hkk=>?_) λp hp=>i' pD ⟨M,.new hp,q⟩;obtain⟨r,e1,e2⟩:=yf i8 ew;exact i' i4 (i' e1 (pq e2 ⟨by cases w0.2<;>rfl,_,⟨w0.2,Z',Z'⟩,RV e2 hk hkk⟩))
def Oq:Fq P w K mg base 10 a.bb (OV a):=by
 refine fq G.bb.toDG B4 (λr u=>⟨_,(pj (pL 3 B4 (xJ (R:=LC a) (pJ (pF (pF v0)) (pJ U2 pz)) (RO G) (r.mono (by first|decide|omega))))
 (pj (pM (pW v0 G.c.toCls G.k (rc G) r (qe (pN (pX pA (rj U1 (pJ U3 pz) U2))))))
 (pj (pM (pW v0 G.c.toCls G.k (rc G) r (qe (pN (rN pA U1)))))
 (pj (pM (pW v0 G.c.toCls G.k (rc G) r (qe (pN (pX pA (pX U1 (rj (pJ U3 pz) (pJ U3 pz) (pJ U3 pz))))))))
 (pk (pM (pI (ID G) r G.ac (rN v0 U1)))))))),?_⟩)
 rintro ds M Q ⟨M0,b,A,V,l,c,n,i,k,r,rfl,cu,hc,hn,wf,du,q⟩
 obtain⟨ph,gr,ws,YD,pr,gd,rs,i1,i2,i3,i4,i5,i6,i7,i8⟩:=cu.pl;cases du with
 | on k0 _ _ b0 x y m hk hs hw hl hy=>
  have hi:=(de.mp hk).1;rw[yl hw]at q;rw[rF]at q;obtain⟨r0,e1,e2⟩:=yf i8 hw;refine pq cu.at_ (i' Z' (pq i1 (i' Z' (i' (vK _ _) (i' i4 (i' e1 (pq e2 ⟨Z',_,⟨⟨.silent x y m,Z'⟩,Z'⟩,r0,.silent x y m,Z',e2,?_⟩)))))));refine pq cu.at_ ⟨Z',_,⟨Z',Z'⟩,o9 Z',b,A,V,.asks i x (k::r),Z',cu.b,cu.bd,cu.lim hc (by omega),trivial,λM1 A1 eb1 XS bd1=>?_⟩;have c1:=cu.after (e:=.asks i x (k::r)) trivial eb1 XS bd1;refine pq c1.at_ ⟨Z',_,⟨Z',Z'⟩,o9 Z',b,A1,_,.quiet i,Z',c1.b,c1.bd,c1.lim hc (by omega),hi,λM2 A2 eb2 Xx YK=>?_⟩;have c2:=c1.after (e:=.quiet i) hi eb2 Xx YK;have Yp:i<(qd (qd V (.asks i x (k::r))) (.quiet i)).calls.length:=by show i<(V.calls.modify i pB.nJ).length;rw[fj];exact hi
  refine pq c2.at_ ⟨Z',_,⟨Z',Z'⟩,o9 Z',b,A2,_,.leg ⟨i,x,y,x⟩,Z',c2.b,c2.bd,c2.lim hc (by omega),Yp,λM3 A3 eb3 X4 bd3=>?_⟩;have c3:=c2.after (e:=.leg ⟨i,x,y,x⟩) Yp eb3 X4 bd3;exact⟨M0,b,A3,_,l,c,n+3,i,_,Z',c3,hc,by omega,Bm wf hk hs hy,Bj hk,λM4 A4 c4 st4=>⟨M4,.refl,q M4 A4 (c4.mono (dB _) (by omega)) (XS.trans (Xx.trans (X4.trans st4)))⟩⟩
def OR:Fq P w K mg base 11 a.bc (OB a):=by
 refine fq G.bc.toDG tR (λr u=>⟨_,(pj (pM (pW v0 G.c.toCls G.k (rc G) r (qe (pN (qe pA)))))
 (pk (sN eK Z' (vk Z' G.aR (qe (qg sv Z' G.q rX (qe (pF v0))))) (uX (n:=2) Z' (qE (rg 1 tR) (qE (rg 2 tR) ub)))
 (pk (pP (pH u (pF U2) pA)
 (pj (pL 3 tR (pI (Qt G) r G.ba (rN v0 U2)))
 (pk (pP (pH u (pR qw Z' G.g qv (qe U3)) pz)
 (pk (pM (pI (Oq G) r G.bb (rj v0 U1 U3))))
 pK)))
 pK))))),?_⟩)
 rintro ds M Q ⟨M0,b,A,V,l,c,n,rfl,cu,hc,hn,wf,q⟩
 refine pq cu.at_ ⟨Z',_,⟨Z',Z'⟩,o9 Z',b,A,V,.turn,Z',cu.b,cu.bd,cu.lim (by omega) (by omega),trivial,λM1 A1 eb st bd=>?_⟩;have c1:=cu.after (e:=.turn) trivial eb st bd;have wf1:=Bo wf;have lv:(qd V .turn).calls.length=V.calls.length:=cZ ..;have ev:Et l V=.turn::qZ l (List.range V.calls.length) (qd V .turn):=rfl;rw[ev,<-lv]at q;have q:∀M' A',uJ a M0 M' b A' (qI (qd V .turn) (qZ l (List.range (qd V .turn).calls.length) (qd V .turn))) l c (n+1+33*c)->rb A M A' M'->Q .mP M':=q;have c1:uJ a M0 M1 b A1 (qd V .turn) l c (n+1):=c1;generalize qd V .turn=V1 at c1 wf1 q bd;refine pq c1.at_ (i' Z' (i' c1.bd.ca λr hr=>i' pD ?_));have t:=qp.new (c:=.lst (A1.cs.map λk=>D.ref k.p)) hr;have lr:=@pD M1 r (A1.cs.map λk=>D.ref k.p);have nf:=c1.bd.nY hr;have c2:=c1.sub t;have cl:V1.calls.length<=c:=c1.sz.ca;generalize pE M1 r (.lst (A1.cs.map λk=>D.ref k.p))=M2 at t lr c2 ⊢;refine tF (sZ 0 (A1.cs.map λk=>D.ref k.p)) (λpre U M'=>(∃A',uJ a M0 M' b A' (qI V1 (qZ l (List.range pre.length) V1)) l c (n+1+33*pre.length)/\rb A1 M2 A' M')/\∃y1 y2 y3,U=[Fa (.ref b),y1,y2,y3]) (λpre U M' j=>?_) _ [] _ _ Z' ⟨⟨A1,c2,.refl⟩,Db,Db,Db,Z'⟩ ?_ ?_
 .obtain⟨⟨A',c3,X4⟩,_⟩:=j;exact sQ (X4.1 r _ nf (qh lr))
 .rintro pre d post e U M' ⟨⟨A',c3,X4⟩,y1,y2,y3,rfl⟩ nx Xh
  rw[df,dM,j7,Ea,rF]at Xh;have wf3:=EQ cu.ok (List.range pre.length) wf1;generalize qI V1 (qZ l (List.range pre.length) V1)=V3 at c3 wf3 Xh;obtain⟨x,hx,rfl⟩:=IT e;rw[dG]at hx;cases ek:A1.cs[pre.length]? with
  | none=>rw[ek]at hx;cases hx
  | some k=>
   rw[ek]at hx;have hx:D.ref k.p=x:=dA hx;subst hx;have hp:pre.length<c:=by have:=(de.mp ek).1;rw[c1.bd.len]at this;omega
   have ek3:=X4.2.2.1 _ k ek;have hi:pre.length<V3.calls.length:=by rw[<-c3.bd.len];exact(de.mp ek3).1
   have ec:V3.calls[pre.length]?=Fa V3.calls[pre.length]:=dg hi;generalize V3.calls[pre.length]=cv at ec;have ca:=c3.bd.cs _ k cv ek3 ec;obtain⟨ad,md,g1,_⟩:=ca;refine⟨Z',pq g1 (i' Z' ?_)⟩;have hdv:wN l V3 pre.length=if (cv.st=="rings")=pc then Ga l V3 (GW cv)else[]:=by unfold wN;rw[ec];rfl
   have mP:wN l V3 pre.length=[]->∀y1' y2' y3',nx [Fa (.ref b),y1',y2',y3'] M':=λh0 y1' y2' y3'=>Xh _ _ ⟨⟨A',by rw[h0];exact c3.mono (dB _) (by omega),X4⟩,_,_,_,Z'⟩;have du:=Fe (V:=V3) (i:=pre.length) cu.ok;refine qC (c:=cv.st=="rings") (λg=>?_) (λg=>mP (by rw[hdv,dh g]) _ _ _);rw[dz g]at hdv;refine⟨A',V3,l,_,k,cv,by rw[c3.b],c3.rd (by omega) wf3,c3.bd.cs _ k cv ek3 ec,?_⟩;rw[<-hdv];cases hdq:wN l V3 pre.length with
   | nil=>exact mP hdq _ _ _
   | cons k0 r0=>rw[hdq]at du Xh;refine Ba (d6 (by rw[cZ];show(0:Int)<((k0::r0).length:Nat);rw[eC];omega)) ?_;exact⟨M0,b,A',V3,l,c,_,pre.length,k0,r0,Z',c3,by omega,by omega,wf3,du,λM4 A4 c4 st4=>Xh _ _ ⟨⟨A4,c4.mono (dB _) (by omega),X4.trans st4⟩,_,_,_,Z'⟩⟩
 .rintro U M' ⟨⟨A',c3,X4⟩,y1,y2,y3,rfl⟩
  have hl:(sZ 0 (A1.cs.map λk=>D.ref k.p)).length=V1.calls.length:=by rw[tJ,cZ,c1.bd.len]
  rw[hl]at c3;exact⟨M',.refl,q M' A' (c3.mono (dB _) (by omega)) (st.trans ((rb.sub t).trans X4))⟩
inductive Q9(l:pG)(V:qr):tU->Ev->Prop
 | sw (b:Bool) (i:Nat):i<V.on.length->Q9 l V (.sw b (i:Nat)) (.sw b i)
 | answer (x:Str) (i:Nat) (c:pB):V.calls[i]?=Fa c->Q9 l V (.num "answer" x [(i:Nat)]) (.talks i [c.cr,x])
 | hold (x:Str) (i:Nat) (c:pB):V.calls[i]?=Fa c->Q9 l V (.num "hold" x [(i:Nat)]) (.held i x)
 | back (x:Str) (i:Nat) (c:pB):V.calls[i]?=Fa c->Q9 l V (.num "back" x [(i:Nat)]) (.talks i c.ms)
 | two (w x:Str) (i j:Nat) (c d:pB):i≠j->w="hand"\/w="join"->V.calls[i]?=Fa c->V.calls[j]?=Fa d->rJ c.ms x≠[]->rJ d.ms x≠[]->Q9 l V (.num w x [(i:Nat),(j:Nat)]) (.merge i j (if (w=="hand")=pc then[qA c x,qA d x]else[x,qA c x,qA d x]))
def GR(a:Ad):rk:=λds M Q=>FQ λA V l e ev=>ds=[.ref A.b,tU.d e]/\Rd a M A V l/\Q9 l V e ev/\Q ev.d M
def Sa(a:Ad):rk:=λds M Q=>To λM0 b A V l c n e=>ds=[.ref b,tU.d e]/\uJ a M0 M b A V l c n/\c<10000/\n<=5000000/\WF l V/\e.nu/\xu l V e=Db/\∀M' A',uJ a M0 M' b A' (qI V (vv l V e)) l (c+1) (n+40+33*c)->rb A M A' M'->Q .mP M'
def WH(a:Ad)(M0 M:Mp)(b:Ch)(A:uj)(V:qr)(l:pG)(c n:Nat)(e:tU)(Q:DK):Prop:=xu l V e=Db->∀M' A' r,uJ a M0 M' b A' (qI V (vv l V e)) l (c+1) (n+40+33*c)->rb A M A' M'->M' r=Db->Q (.ref r) (pE M' r (.lst ((vv l V e).map Ev.d)))
def Ui(a:Ad):GH:=λds M Q R=>To λM0 b A V l c n e=>ds=[.ref b,tU.d e]/\uJ a M0 M b A V l c n/\c<10000/\n<=5000000/\WF l V/\e.nu/\WH a M0 M b A V l c n e Q/\(∀w,xu l V e=Fa w->R a.I (Fa ("word",.str w)) M)
def Rd.call{V:qr}(rd:Rd a M A V l){i:Nat}{c:pB}(e:V.calls[i]?=Fa c):∃k,A.cs[i]?=Fa k/\rV a M (A.lists++V.fo) k c:=by
 have hi:i<A.cs.length:=by rw[rd.bd.len];exact(de.mp e).1
 exact⟨A.cs[i],dg hi,rd.bd.cs i _ c (dg hi) e⟩
def yI{i:Int}(h:0<=i):∃m:Nat,i=(m:Int):=eI h
def IR{c:pB}{x:Str}(nd:c.ms.Nodup)(h2:c.ms.length=2)(hx:x∈c.ms):rJ c.ms x≠[]:=λz=>by have:=xO nd hx;rw[z]at this;simp only[dR]at this;omega
def Ng:Fq P w K mg base 2 a.bd (GR a):=by
 refine fq G.bd.toDG tD (λr u=>⟨_,(pj (pL 2 tD (pJ U1 pz))
 (pj (pP (pH u U2 (pN (rN pA pA)))
 (pk (pC (pN (rN U2 (pJ U1 pz)))))
 pK)
 (pj (pL 3 tD (pJ U1 pz))
 (pj (pL 4 tD (pJ U1 pz))
 (pj (pL 5 tD (pJ (pF v0) v4))
 (pj (pP (pH u U2 pA)
 (pk (pC (pN (rj pA v4 (pN (rN (pF v5) U3))))))
 pK)
 (pj (pP (pH u U2 pA)
 (pk (pC (pN (rj pA v4 U3))))
 pK)
 (pj (pP (pH u U2 pA)
 (pk (pC (pN (rj pA v4 (qg uF Z' G.E ua (qe (pF v5)))))))
 pK)
 (pj (pL 6 tD (pJ U1 pz))
 (pj (pL 7 tD (pN (rN (pW v5 G.e.toCls G.aB (FY G) r (qe U3)) (pW (pJ (pF v0) v6) G.e.toCls G.aB (FY G) r (qe U3)))))
 (pj (pP (pH u U2 pA)
 (pk (pC (pN (pX pA (rj v4 v6 v7)))))
 pK)
 (pk (pC (pN (pX pA (rj v4 v6 (pU (pN (qe U3)) v7))))))))))))))))),?_⟩)
 rintro ds M Q ⟨A,V,l,e,ev,rfl,rd,sg,q⟩
 cases sg with
 | sw b i hi=>
  cases b with
  | true=>exact⟨o9 Z',Z',Z',o9 Z',M,.refl,q⟩
  | false=>exact⟨o9 Z',Z',Z',o9 Z',M,.refl,q⟩
 | answer x i c hc=>obtain⟨k,ek,ca⟩:=rd.call hc;obtain⟨ad,md,h1,h2,h3,h4,n1,n2⟩:=ca;refine⟨o9 Z',Z',Z',?_⟩;refine pq rd.bd.at_ (i' Z' (i' Z' (i' rd.bd.ca (i' (rB ek) ?_))));exact pq h1 (i' Z' ⟨o9 Z',o9 Z',M,.refl,q⟩)
 | hold x i c hc=>obtain⟨k,ek,ca⟩:=rd.call hc;refine⟨o9 Z',Z',Z',?_⟩;refine pq rd.bd.at_ (i' Z' (i' Z' (i' rd.bd.ca (i' (rB ek) ?_))));exact⟨o9 Z',M,.refl,q⟩
 | back x i c hc=>obtain⟨k,ek,ca⟩:=rd.call hc;obtain⟨ad,md,h1,h2,h3,h4,n1,n2⟩:=ca;refine⟨o9 Z',Z',Z',?_⟩;refine pq rd.bd.at_ (i' Z' (i' Z' (i' rd.bd.ca (i' (rB ek) ?_))));exact pq h1 (i' Z' (i' h4 ⟨o9 Z',M,.refl,q⟩))
 | two wd x i j c d Yc hw hc hd nc nd=>
  obtain⟨k,ek,ca⟩:=rd.call hc;obtain⟨k',ek',ca'⟩:=rd.call hd;have ca0:=ca;have ca1:=ca';obtain⟨ad,md,h1,h2,h3,h4,n1,n2⟩:=ca0;obtain⟨ad',md',f1,_⟩:=ca1;obtain⟨y1,r1,e1⟩:=gi nc;obtain⟨y2,r2,e2⟩:=gi nd;have o1:qA c x=y1:=by unfold qA;rw[e1];rfl
  have o2:qA d x=y2:=by unfold qA;rw[e2];rfl
  rw[o1,o2]at q;rcases hw with rfl|rfl
  .refine⟨o9 Z',Z',Z',?_⟩;refine pq rd.bd.at_ (i' Z' (i' Z' (i' rd.bd.ca (i' (rB ek) ?_))));refine pq h1 ⟨Z',_,⟨Z',Z'⟩,_,k,c,x,y1,r1,Z',ca,(rd.ms c (qL hc)).2,e1,?_⟩;refine pq rd.bd.at_ (i' Z' (i' Z' (i' rd.bd.ca (i' (rB ek') ?_))));refine pq f1 ⟨Z',_,⟨Z',Z'⟩,_,k',d,x,y2,r2,Z',ca',(rd.ms d (qL hd)).2,e2,?_⟩;exact⟨o9 Z',o9 Z',M,.refl,q⟩
  .refine⟨o9 Z',Z',Z',?_⟩;refine pq rd.bd.at_ (i' Z' (i' Z' (i' rd.bd.ca (i' (rB ek) ?_))));refine pq h1 ⟨Z',_,⟨Z',Z'⟩,_,k,c,x,y1,r1,Z',ca,(rd.ms c (qL hc)).2,e1,?_⟩;refine pq rd.bd.at_ (i' Z' (i' Z' (i' rd.bd.ca (i' (rB ek') ?_))));refine pq f1 ⟨Z',_,⟨Z',Z'⟩,_,k',d,x,y2,r2,Z',ca',(rd.ms d (qL hd)).2,e2,?_⟩;exact⟨o9 Z',o9 Z',fW _ _,by show 1+2<=pi;have hz:=dS;omega,o9 Z',M,.refl,q⟩
def R7:Fq P w K mg base 12 a.be (Sa a):=by
 refine fq G.be.toDG Md (λr u=>⟨_,(pj (pL 2 Md (pJ U1 pz))
 (pk (pP (pH u U2 pA)
 (pk (pM (pI (Lk G) r G.a8 (rj v0 (pJ U1 pz) (pJ U1 pz)))))
 (pk (pP (pH u U2 pA)
 (pk (pM (pI (ON G) r G.a9 (rj v0 (pJ U1 pz) (pJ U1 pz)))))
 (pk (pP (pH u U2 pA)
 (pk (pM (pI (OR G) r G.bc (qe v0))))
 (pk (pM (pW v0 G.c.toCls G.k (rc G) r (qe (pI (Ng G) r G.bd (rN v0 U1))))))))))))),?_⟩)
 rintro ds M Q ⟨M0,b,A,V,l,c,n,e,rfl,cu,hc,hn,wf,hf,hr,q⟩
 have rd:=cu.rd (by omega) wf;have one:∀(ev:Ev),Q9 l V e ev->vv l V e=[ev]->ev.ok V->ev.nw=0->zo (M b) λC fs'=>fs'.lookup ("apply":Str)=Db/\∃sp,(C=a.c/\sp=ww a)/\GR a [.ref b,e.d] M λd M1=>sp [.ref b,d] M1 λ_ M'=>∃Xf,qp Xf M'/\Q .mP Xf:=λev sg he ok h0=>by refine pq cu.at_ ⟨Z',_,⟨Z',Z'⟩,A,V,l,e,ev,by rw[cu.b],rd,sg,b,A,V,ev,Z',cu.b,cu.bd,cu.lim (by omega) (by omega),ok,λM1 A1 eb st bd=>?_⟩;rw[he]at q;have c1:=cu.after ok eb st bd;rw[h0]at c1;exact⟨M1,.refl,q M1 A1 (c1.mono (by omega) (by omega)) st⟩
 cases e with
 | call y z=>obtain⟨h1,h2,h3,h4⟩:=Bv hr;exact⟨M0,b,A,V,l,c,n,y,z,Z',cu,by omega,by omega,Fl wf h1 h2 h3 h4,λM' A' c1 st=>⟨M',.refl,q M' A' (c1.mono (by omega) (by omega)) st⟩⟩
 | turn=>exact⟨M0,b,A,V,l,c,n,Z',cu,by omega,by omega,wf,λM' A' c1 st=>⟨M',.refl,q M' A' (c1.mono (by omega) (by omega)) st⟩⟩
 | sw b0 i=>
  obtain⟨h1,h2⟩:=QR hr;obtain⟨i,rfl⟩:=yI h1;cases b0 with
  | true=>exact one (.sw pc i) (.sw pc i h2) Z' h2 Z'
  | false=>exact one (.sw Uf i) (.sw Uf i h2) Z' h2 Z'
 | num wd x ns=>
  obtain⟨hx,no⟩:=EO hf hr;cases no with
  | answer i c0 hi hc0 h1 h2 h3=>obtain⟨i,rfl⟩:=yI hi;have lt:=(de.mp hc0).1;exact one (.talks i [c0.cr,x]) (.answer x i c0 hc0) (eZ (λev=>[ev]) (xo hc0)) ⟨lt,by show 2<=100;decide⟩ Z'
  | hang i c0 hi hc0 h1=>obtain⟨i,rfl⟩:=yI hi;exact⟨M0,b,A,V,l,c,n,x,i,c0,Z',cu,by omega,by omega,hc0,λM' A' c1 st=>⟨M',.refl,q M' A' (c1.mono (by omega) (by omega)) st⟩⟩
  | hold i c0 hi hc0 h1=>obtain⟨i,rfl⟩:=yI hi;have lt:=(de.mp hc0).1;exact one (.held i x) (.hold x i c0 hc0) (eZ (λev=>[ev]) (xo hc0)) lt Z'
  | back i c0 hi hc0 h1 h2=>obtain⟨i,rfl⟩:=yI hi;have lt:=(de.mp hc0).1;exact one (.talks i c0.ms) (.back x i c0 hc0) (eZ (λev=>[ev]) (xo hc0)) ⟨lt,(cu.sz.cs c0 (qL hc0)).2.2⟩ Z'
  | two _ i j c0 d0 hi hj hw hc0 hd0 h1 h2=>
   obtain⟨i,rfl⟩:=yI hi;obtain⟨j,rfl⟩:=yI hj;have lt:=(de.mp hc0).1;have lt':=(de.mp hd0).1;have Yc:=(FO (w:=wd) wf hc0 hd0 h1 h2).1;have k0:=wf.ok _ c0 hc0;have k1:=wf.ok _ d0 hd0;obtain⟨_,u2,u3,_⟩:=Ef k0 h1;obtain⟨_,v2,v3⟩:=Ak.mp h2;have sg:=Q9.two (l:=l) wd x i j c0 d0 Yc hw hc0 hd0 (IR k0.mn u2 u3) (IR k1.mn v3 v2);have ok:(Ev.merge i j (if (wd=="hand")=pc then[qA c0 x,qA d0 x]else[x,qA c0 x,qA d0 x])).ok V:=⟨lt,lt',Yc,by split;exact(by decide:2<=100);exact(by decide:3<=100)⟩;have he:vv l V (.num wd x [(i:Int),(j:Int)])=[.merge i j (if (wd=="hand")=pc then[qA c0 x,qA d0 x]else[x,qA c0 x,qA d0 x])]:=eZ (λev=>[ev]) (E8 hc0 hd0);rcases hw with rfl|rfl
   .exact one _ sg he ok Z'
   .exact one _ sg he ok Z'
def J9:xx P w K mg base (BD P w) 1 a.H.f a.H.d a.H.p (wH K "word"):=
 Nt G.H.toDG BN λXk A outer s H E=>IJ (OW (pv 0) (pv 1))
def UU:Vv P w K mg base 13 a.O (Ui a):=by
 refine T7 G.O.toDG Hk (by walk_at "m") (λ_ _ _ _ _ _ R hr hR=>⟨_,(pj (pL 2 Hk (pI (Hj G) hr G.a3 (rN v0 U1)))
 (pj (pP (pH (WO hr) U2 rQ)
 (pk (Ks G.ca (J9 G) (hr.mono (by first|decide|omega)) G.H.b G.cb G.H.at_ Z' G.b0 hR (qe U2)))
 pK)
 (pj (pL 3 Hk (pR qw Z' G.g qv (qe (pF v0))))
 (pj (pM (pI (R7 G) hr G.be (rN v0 U1)))
 (pk (pC (rW (pF v0) (sU U3) sT))))))),?_⟩)
 .rintro ds M Q ⟨M0,b,A,V,l,c,n,e,rfl,cu,hc,hn,wf,hf,q,rr⟩
  refine⟨A,V,l,e,by rw[cu.b],cu.rd (by omega) wf,hf,?_⟩;cases er:xu l V e with
  | some w0=>exact⟨_,Z',rr w0 er⟩
  | none=>
   refine pq cu.at_ (i' Z' (i' cu.bd.lo ?_));refine⟨M0,b,A,V,l,c,n,e,Z',cu,hc,hn,wf,hf,er,λM' A' c1 st=>?_⟩;refine pq c1.at_ (i' Z' (i' c1.bd.lo λp hp=>?_));have hcut:L3.uH ((qI V (vv l V e)).log.map Ev.d) (Fa (((V.log.map Ev.d).length:Nat):Int)) Db=(vv l V e).map Ev.d:=by rw[zp,dQ,Fs _ _ (by rw[df];omega),List.drop_left]
   rw[hcut];exact⟨_,.refl,q er M' A' p c1 st hp⟩
def Pw(a:Ad):rk:=λds M Q=>To λM0 b A V l c n e=>ds=[.ref b,tU.d e]/\uJ a M0 M b A V l c n/\c<10000/\n<=5000000/\WF l V/\e.nu/\WH a M0 M b A V l c n e Q/\(xu l V e≠Db->Q .mP M)
def O4:Fq P w K mg base 14 a.bz (Pw a):=by
 refine fq G.bz.toDG vZ (λr u=>⟨_,(pj (pL 2 vZ rQ)
 (pj (OY (ix:=2) (LS (UU G) (r.mono (by first|decide|omega)) Z' G.O.mg G.O.toDG.kp G.O.b (rN v0 U1)) Z' Z' Z' G.b0 vZ.nd Z' Z' (λev E'=>
 (pk (pL 2 vZ rQ))))
 (pk (pC U2)))),?_⟩)
 rintro ds M Q ⟨M0,b,A,V,l,c,n,e,rfl,cu,hc,hn,wf,hf,q,qf⟩
 refine⟨λC _ M'=>(C=a.I/\xu l V e≠Db)/\M=M',?_,?_⟩
 .exact⟨M0,b,A,V,l,c,n,e,Z',cu,hc,hn,wf,hf,λh M' A' r c1 st hm=>⟨_,.refl,q h M' A' r c1 st hm⟩,λw h=>⟨⟨Z',by rw[h];exact λz=>nomatch z⟩,Z'⟩⟩
 .rintro C y M' ⟨⟨rfl,h⟩,rfl⟩
  exact⟨G.cc,M,.refl,qf h⟩
noncomputable def vP(g:ur):Bool:=g.2.1==("turns":Str)
def vh(l:pG):T0 (Str×Int):=(l.groups.filter vP).map λg=>(g.1,0)
def V0(p:Ch)(h:Int)(l:pG)(F:QXQ):qr:=⟨p,h,0,[],[],vh l,l.mJ.map (·.1),[],F⟩
def E5(a:Ad):rk:=λds M Q=>FQ λb p h F (l:pG)=>ds=[.ref b,.ref p,.int h]/\M b=Fa (.ins a.c [])/\sI a M p l/\rm l/\p≠b/\(∀x∈F,∃c,M x=Fa c)/\∀M' A,A.b=b->rZ b M M'->(∀x∈A.foot,x=b\/M x=Db)->pO a M' A (V0 p h l F)->Q .mP M'
noncomputable def Lb(g:D):Bool:=match g with
 | .tup (_::.str m::_)=>m=="turns"
 | _=>Uf
def QT(d:D):D:=.tup [A9 d,.int 0]
def Hx(gs:List ur):((gs.map qP).filter Lb).map QT=(gs.filter vP).map λg=>D.tup [.str g.1,.int 0]:=by rw[hJ,eG];rfl
def KO(l:pG):((l.groups.filter vP).map λg=>((Sum.inr g.1:rq),D.int 0))=tK (vh l):=by unfold tK vh;rw[eG];rfl
noncomputable def bF(p:Ch)(h:Int)(ca le nx YL:Ch)(k:Nat):T0 (Str×D):=List.take (α:=Str×D) k [("plan",.ref p),("hour",.int h),("turn",.int 0),("calls",.ref ca),("legs",.ref le),("nexts",.ref nx),("on",.ref YL)]
def Lv:Fq P w K mg base 1 a.ak (E5 a):=by
 refine fq G.ak.toDG CZ (λr u=>⟨_,(pj (pZ v0 U1)
 (pj (pZ v0 U2)
 (pj (pZ v0 pz)
 (pj (pZ v0 (qQ r6))
 (pj (pZ v0 (qQ r6))
 (pj (pZ v0 (qg (ER Z') Z' G.bZ Fc (qe (qF Z' (yb (ix:=[Db]) (N':=["group"])) (qB (pF U1)) (qG 0) (vC (pH u (pJ v0 pz) pA)) (pN (rN (pJ v0 pz) pz))))))
 (pj (pZ v0 (qg sv Z' G.q rX (qe (pF U1))))
 (pk (pZ v0 (qQ r6)))))))))),?_⟩)
 rintro ds M Q ⟨b,p,h,F,l,rfl,hb,⟨ph,gr,ws,on,pr,gd,rs,i1,i2,i3,i4,i5,i6,i7,i8⟩,ok,nbp,hF,q⟩
 have hz:=dS;have l2:=ok.g3;refine pq hb ⟨(G.C "plan" Z'),by show 0<1000;decide,?_⟩;have k1:rZ b M (pE M b (.ins a.c [("plan",.ref p)])):=.put;have b1:pE M b (.ins a.c [("plan",.ref p)]) b=Fa (.ins a.c [("plan",.ref p)]):=pS;show uk _ _ _ _ (pE M b (.ins a.c [("plan",.ref p)]));generalize pE M b (.ins a.c [("plan",.ref p)])=N1 at k1 b1 ⊢;refine pq b1 ⟨(G.C "hour" Z'),by show 1<1000;decide,?_⟩;have k2:=k1.trans (rZ.put (p:=b) (c:=.ins a.c [("plan",.ref p),("hour",.int h)]));have b2:pE N1 b (.ins a.c [("plan",.ref p),("hour",.int h)]) b=Fa (.ins a.c [("plan",.ref p),("hour",.int h)]):=pS;show uk _ _ _ _ (pE N1 b (.ins a.c [("plan",.ref p),("hour",.int h)]));generalize pE N1 b (.ins a.c [("plan",.ref p),("hour",.int h)])=N2 at k2 b2 ⊢;refine pq b2 ⟨(G.C "turn" Z'),by show 2<1000;decide,?_⟩;have k3:=k2.trans (rZ.put (p:=b) (c:=.ins a.c (bF p h 0 0 0 0 3)));have b3:pE N2 b (.ins a.c (bF p h 0 0 0 0 3)) b=Fa (.ins a.c (bF p h 0 0 0 0 3)):=pS;show uk _ _ _ _ (pE N2 b (.ins a.c (bF p h 0 0 0 0 3)));generalize pE N2 b (.ins a.c (bF p h 0 0 0 0 3))=N3 at k3 b3 ⊢;clear k1 k2 b1 b2;refine⟨o9 Z',λca hca=>?_⟩;obtain⟨n4,e4,k4,c4,b4⟩:=tw (fs':=(bF p h ca 0 0 0 4)) (c:=.lst []) b3 hca;refine pq e4 ⟨(G.C "calls" Z'),by show 3<1000;decide,?_⟩;show uk _ _ _ _ (pE (pE N3 ca (.lst [])) b (.ins a.c (bF p h ca 0 0 0 4)));generalize pE (pE N3 ca (.lst [])) b (.ins a.c (bF p h ca 0 0 0 4))=N4 at k4 c4 b4 ⊢;have Zk:=k3.trans k4;have z1:M ca=Db:=rK k3 b3 hca;have lc4:oj N4 ca=Fa []:=sQ c4;refine⟨o9 Z',λle hle=>?_⟩;obtain⟨n5,e5,k5,c5,b5⟩:=tw (fs':=(bF p h ca le 0 0 5)) (c:=.lst []) b4 hle;refine pq e5 ⟨(G.C "legs" Z'),by show 4<1000;decide,?_⟩;show uk _ _ _ _ (pE (pE N4 le (.lst [])) b (.ins a.c (bF p h ca le 0 0 5)));generalize pE (pE N4 le (.lst [])) b (.ins a.c (bF p h ca le 0 0 5))=N5 at k5 c5 b5 ⊢;have Zl:=Zk.trans k5;have z2:M le=Db:=rK Zk b4 hle;have le5:oj N5 le=Fa []:=sQ c5;have mcl:le≠ca:=λz=>by rw[z,qh lc4]at hle;cases hle
 have lc5:=k5.lst (pT lc4 b4) lc4;have p5:=Zl _ _ nbp i1;have g5:=Zl.lst (pT i3 hb) i3;clear k3 k4 k5 Zk lc4 c4 c5 e4 e5 b3 b4;refine pq p5 (i' Z' (i' g5 ?_));refine tP (f:=QT) (t:=Lb) g5 _ [] _ (by rw[cZ];simp only[dR];omega) (λd hd k hk=>?_) (λd hd _ k hk=>?_) λq1 X8=>?_
 .obtain⟨v,_,rfl⟩:=dJ.mp hd;exact hk
 .obtain⟨v,_,rfl⟩:=dJ.mp hd;exact⟨o9 Z',hk⟩
 rw[eB,Hx];have ZU:=qp.new (c:=.lst ((l.groups.filter vP).map λg=>D.tup [.str g.1,.int 0])) X8;refine i' pD (i' (xj (λg:ur=>g.1) (λ_=>D.int 0) _) ⟨y8 (iG (List.Sublist.map _ gf) (iG (jE _ _) ok.nd)),λnx Xh=>?_⟩);have z3:M nx=Db:=rK Zl b5 (ZU.none Xh);obtain⟨n6,e6,k6,c6,b6⟩:=tw (fs':=(bF p h ca le nx 0 6)) (c:=.dk ((l.groups.filter vP).map λg=>((Sum.inr g.1:rq),D.int 0))) (ZU _ _ b5) Xh;refine pq e6 ⟨(G.C "nexts" Z'),by show 5<1000;decide,?_⟩;have k6:=ZU.keep.trans k6;have Y9:wc "nexts" (.ref nx) (bF p h ca le 0 0 5)=(bF p h ca le nx 0 6):=rfl;rw[Y9];generalize pE (pE (pE N5 q1 (.lst ((l.groups.filter vP).map λg=>D.tup [.str g.1,.int 0]))) nx (.dk ((l.groups.filter vP).map λg=>((Sum.inr g.1:rq),D.int 0)))) b (.ins a.c (bF p h ca le nx 0 6))=N6 at k6 b6 c6 ⊢;have x6:zP N6 nx=Fa ((l.groups.filter vP).map λg=>((Sum.inr g.1:rq),D.int 0)):=D8 c6;have kk6:=Zl.trans k6;have lc6:=k6.lst (pT lc5 b5) lc5;have le6:=k6.lst (pT le5 b5) le5;have p6:=kk6 _ _ nbp i1;have o6:=kk6.lst (pT i5 hb) i5;clear Zl k6 lc5 p5 g5 e6 c6;refine pq p6 (i' Z' (i' o6 λYL hon=>?_));have z4:M YL=Db:=rK kk6 b6 hon;obtain⟨n7,e7,k7,c7,b7⟩:=tw (fs':=(bF p h ca le nx YL 7)) (c:=.lst (l.mJ.map λw=>D.bl w.1)) b6 hon;refine pq e7 ⟨(G.C "on" Z'),by show 6<1000;decide,?_⟩;have Y9:wc "on" (.ref YL) (bF p h ca le nx 0 6)=(bF p h ca le nx YL 7):=rfl;rw[Y9];generalize pE (pE N6 YL (.lst (l.mJ.map λw=>D.bl w.1))) b (.ins a.c (bF p h ca le nx YL 7))=N7 at k7 b7 c7 ⊢;have kk7:=kk6.trans k7;have lc7:=k7.lst (pT lc6 b6) lc6;have le7:=k7.lst (pT le6 b6) le6;have x7:=k7.dk (Ca x6 b6) x6;have lo7:oj N7 YL=Fa ((l.mJ.map (·.1)).map D.bl):=by rw[eG];exact sQ c7
 refine⟨o9 Z',λlg hlg=>?_⟩;obtain⟨n8,e8,k8,c8,b8⟩:=tw (fs':=tT (.ref p) h 0 ca le nx YL lg) (c:=.lst []) b7 hlg;refine pq e8 ⟨(G.C "log" Z'),by show 7<1000;decide,_,.refl,?_⟩;have apart:∀{N:Mp} {x y:Ch} {ds:T0 D},N x=Db->oj N y=Fa ds->x≠y:=λ{N x y ds} h1 h2 z=>by have:=qh h2;rw[<-z,h1]at this;cases this
 have y5:=rK kk7 b7 hlg;refine q _ ⟨b,ca,le,nx,YL,lg,[]⟩ Z' (kk7.trans k8) (λx hx=>?_) ⟨b8,k8.lst (pT lc7 b7) lc7,k8.lst (pT le7 b7) le7,?_,k8.lst (pT lo7 b7) lo7,sQ c8,Z',λi k c e=>by simp at e,?_,dZ.mpr ⟨dH,eO⟩,λx hx=>?_⟩
 rotate_right
 .by_cases z:x=b
  .exact⟨_,by rw[z];exact b8⟩
  .obtain⟨c,e⟩:=hF x hx;exact⟨c,(kk7.trans k8) x c z e⟩
 .have hx:x∈[b,nx,ca,le,YL,lg]:=by
   unfold uj.foot uj.lists at hx
   simpa using hx
  simp only[dw,dH,eQ]at hx;rcases hx with rfl|rfl|rfl|rfl|rfl|rfl
  .exact .inl Z'
  .exact .inr z3
  .exact .inr z1
  .exact .inr z2
  .exact .inr z4
  .exact .inr y5
 .show zP _ nx=Fa (tK (vh l));rw[<-KO];exact k8.dk (Ca x7 b7) x7
 .have m1:=apart hlg lc7;have m2:=apart hlg le7;have m3:=apart hlg lo7;have m4:=apart hon lc6;have m5:=apart hon le6;show[ca,le,YL,lg].Nodup;simp only[dZ,dw,dH,eQ,fS,not_false_eq_true,eO,and_true];exact⟨⟨dW mcl,dW m4,dW m1⟩,⟨dW m5,dW m2⟩,dW m3⟩
def VA{p:Ch}{F:QXQ}(ok:rm l):WF l (V0 p h l F):=by
 refine⟨λi c e=>by simp[V0]at e,λi j ci cj x e=>by simp[V0]at e,λx hx=>?_,λi j ci cj x e=>by simp[V0]at e,λz hz ht=>?_⟩
 .show((0:Nat):Int)<=xi l x;unfold xi;cases e:l.ng x with
  | none=>exact Int.le_refl _
  | some v=>have:=(ok.po v (gm e)).l1;show(0:Int)<=v.2.1;omega
 .show ∃v,(vh l).find? (λp=>decide (p.1=z))=Fa v/\_;unfold pG.mS at ht;cases e:l.group z with
  | none=>rw[e]at ht;exact absurd ht (by decide)
  | some g=>
   rw[e]at ht;have hg:=gm e;have hn:g.1=z:=by simpa using mq e
   have hm:((g.1,0):Str×Int)∈vh l:=dJ.mpr ⟨g,fQ.mpr ⟨hg,ht⟩,Z'⟩;cases q:(vh l).find? (λp=>decide (p.1=z))with
   | none=>exact absurd (hU.mp q _ hm) (by simp[hn])
   | some v=>refine⟨v,Z',?_⟩;obtain⟨g',_,rfl⟩:=dJ.mp (gm q);exact⟨Int.le_refl _,Int.natCast_nonneg _⟩
def Ev.old:Ev->Prop
 | .new _ _=>False
 | _=>True
def Lu{V:qr}{e:Ev}(h:e.old):(qd V e).calls.length=V.calls.length:=by
 cases e with
 | new _ _=>cases h
 | merge i j ms=>exact(fj ..).trans (fj ..)
 | turn=>exact cZ ..
 | asks _ _ _=>rfl
 | next _ _=>rfl
 | sw _ _=>rfl
 | _=>exact fj ..
theorem IF:∀{es:T0 Ev} {V:qr},(∀e∈es,e.old)->(qI V es).calls.length=V.calls.length
 | [],_,_=>rfl
 | e::r,V,h=>(IF (es:=r) (V:=qd V e) λx hx=>h x (dF _ hx)).trans (Lu (h e dP))
theorem Aq(i:Nat):∀(st:sP) (q:Option Str) {V:qr},i<V.calls.length->GT V (qT i q st)
 | [],_,V,_=>by unfold qT;trivial
 | (y,gs)::r,Db,V,h=>⟨trivial,Aq i r (Fa y) h⟩
 | (y,gs)::r,Fa u,V,h=>⟨h,trivial,Aq i r (Fa y) (by
  show i<(V.calls.modify i _).length;rw[fj];exact h)⟩
def OP{V V1:qr}{e:vD}(h:DJ l V i e)(hi:i<V.calls.length)(hl:V1.calls.length=V.calls.length):GT V1 (sd l V i e):=by
 have XQ:i<V1.calls.length:=by rw[hl];exact hi
 cases e with
 | rings z ps=>
  have h4:ps.length<=100:=h.2.2.2;show GT V1 ((if (l.mS z=="turns")=pc then _ else _)++[.rings i ps]);split
  .exact⟨trivial,⟨XQ,h4⟩,trivial⟩
  .exact⟨⟨XQ,h4⟩,trivial⟩
 | waits z=>exact⟨XQ,trivial⟩
 | breaks z=>
  obtain⟨j,k,t1,t2,t3,t4⟩:=h;have e1:V.calls[i]?=Fa V.calls[i]:=dg hi;have hee:sd l V i (.breaks z)=[.merge i j (k.ms++[V.calls[i].cr])]:=by unfold sd;dsimp only;rw[t1,e1];dsimp only;rw[t2];rfl
  rw[hee];exact⟨⟨XQ,by rw[hl];exact(de.mp t2).1,t3,by rw[df,t4];exact(by decide:3<=100)⟩,trivial⟩
 | engaged z=>exact⟨XQ,trivial⟩
 | barred=>exact⟨XQ,trivial⟩
 | ring ns=>exact⟨XQ,trivial⟩
def Ob{V:qr}{i:Nat}{k:pB}(ok:rm l)(wf:zj l V (Fa i))(hk:V.calls[i]?=Fa k):GT V (ve l V i):=by
 have XY:=wf.ok i k hk;have hi:=(de.mp hk).1;unfold ve;rw[hk];dsimp only[Option.elim];obtain⟨z,hz⟩:∃z,k.way.getLast?=Fa z:=by
  cases e:k.way.getLast? with
  | none=>exact absurd (gp.mp e) XY.wy.1
  | some z=>exact⟨z,Z'⟩
 rw[show k.way.getLastD Str.empty=z by rw[gR,hz];rfl];have ro:wY l V k.cr (l.nm.length+1) [] (uq l V k.cr z k.way.dropLast):=xN ok _ _ _ _ (XY.wy.2 z (il hz)) λx hx=>XY.wy.2 x (im _ hx);have eo:=HL ok wf hk ro.e;generalize uq l V k.cr z k.way.dropLast=R at ro eo;obtain⟨e,st⟩:=R;have s1:=(uK i st Db V).len;refine w9 (Aq i st Db hi) (w9 ?_ (OP eo hi ?_))
 .unfold sW;cases e with
  | ring ns=>
   dsimp only;cases st.getLast? with
   | none=>trivial
   | some s0=>exact⟨by show i<_;rw[s1];exact hi,trivial⟩
  | _=>trivial
 .refine(IF λx hx=>?_).trans s1;unfold sW at hx;cases e with
  | ring ns=>
   dsimp only at hx;cases q:st.getLast? with
   | none=>rw[q]at hx;cases hx
   | some s0=>rw[q]at hx;rw[dv.mp hx];trivial
  | _=>cases hx
def MX{V:qr}(ok:rm l)(wf:WF l V):GT V (tj l V i (wN l V i)):=by
 have d:=Fe (V:=V) (i:=i) ok;generalize wN l V i=fs at d;cases d with
 | no=>trivial
 | on c k r b x y n hc hs hk hw hy=>rw[yl hk];have hi:=(de.mp hc).1;exact w9 ⟨trivial,hi,(by show i<(V.calls.modify i pB.nJ).length;rw[fj];exact hi),trivial⟩ (Ob ok (Bm wf hc hs hy) (Bj hc))
theorem G0(ok:rm l):∀(is:T0 Nat) {V:qr},WF l V->GT V (qZ l is V)
 | [],V,_=>by unfold qZ;trivial
 | i::r,V,wf=>by unfold qZ;exact w9 (MX ok wf) (G0 ok r (En ok wf))
def Tb{V:qr}{e:tU}(ok:rm l)(wf:WF l V)(hm:∀c∈V.calls,c.ms.length<=100)(f:e.nu)(h:xu l V e=Db):GT V (vv l V e):=by
 cases e with
 | call y z=>obtain⟨h1,h2,h3,h4⟩:=Bv h;obtain⟨k,hk⟩:=HX (V:=V) (y:=y) (z:=z);refine w9 ⟨trivial,?_,trivial⟩ (Ob ok (Fl wf h1 h2 h3 h4) hk);show V.calls.length<(V.calls++[yU y]).length;rw[df];exact fD _
 | turn=>exact⟨trivial,G0 ok _ (Bo wf)⟩
 | sw b i=>exact⟨(QR h).2,trivial⟩
 | num w x ns=>
  obtain⟨_,n⟩:=EO f h;cases n with
  | answer i c hi hc h1 h2 h3=>show GT V [zR V "answer" x i.toNat];rw[xo hc];exact⟨⟨(de.mp hc).1,(by decide:2<=100)⟩,trivial⟩
  | hang i c hi hc h1=>
   have lt:=(de.mp hc).1;show GT V (uR V x i.toNat);unfold uR;rw[hc];dsimp only[Option.elim];split
   .exact⟨lt,trivial⟩
   split
   .refine⟨lt,?_⟩;split
    .exact⟨by show _<(V.calls.modify _ _).length;rw[fj];exact lt,trivial⟩
    .trivial
   split
   .exact⟨lt,trivial⟩
   .exact⟨lt,trivial⟩
  | hold i c hi hc h1=>show GT V [zR V "hold" x i.toNat];rw[xo hc];exact⟨(de.mp hc).1,trivial⟩
  | back i c hi hc h1 h2=>show GT V [zR V "back" x i.toNat];rw[xo hc];exact⟨⟨(de.mp hc).1,hm c (qL hc)⟩,trivial⟩
  | two _ i j c d hi hj hw hc hd h1 h2=>
   show GT V [BE V w x i.toNat j.toNat];rw[E8 hc hd];refine⟨⟨(de.mp hc).1,(de.mp hd).1,(FO (w:=w) wf hc hd h1 h2).1,?_⟩,trivial⟩;split
   .exact(by decide:2<=100)
   .exact(by decide:3<=100)
def Du(ok:rm l):(vh l).length<=3:=by unfold vh;rw[cZ];exact eA (fP _ _) ok.g3
def Ev.noT:Ev->Prop
 | .turn=>False
 | .sw _ _=>False
 | _=>True
def Ev.noN:Ev->Prop
 | .next _ _=>False
 | _=>True
theorem FF:∀{es:T0 Ev} {V:qr},(∀e∈es,e.noN)->(qI V es).ps=V.ps
 | [],_,_=>rfl
 | e::r,V,h=>(FF (es:=r) (V:=qd V e) λx hx=>h x (dF _ hx)).trans (by have:=h e dP;cases e<;>first|rfl|cases this)
theorem BZ(i:Nat):∀(st:sP) (q:Option Str),∀e∈qT i q st,e.noT/\e.noN
 | [],_,e,h=>by unfold qT at h;cases h
 | (y,gs)::r,Db,e,h=>by
  rcases dw.mp (show e∈Ev.asks i y gs::qT i (Fa y) r from h)with rfl|h
  .exact⟨trivial,trivial⟩
  .exact BZ i r _ e h
 | (y,gs)::r,Fa u,e,h=>by
  rcases dw.mp (show e∈Ev.leg ⟨i,u,y,u⟩::Ev.asks i y gs::qT i (Fa y) r from h)with rfl|h
  .exact⟨trivial,trivial⟩
  rcases dw.mp h with rfl|h
  .exact⟨trivial,trivial⟩
  .exact BZ i r _ e h
def QK{st:sP}:∀e∈sW i st en,e.noT/\e.noN:=λe h=>by
 unfold sW at h;cases en with
 | ring ns=>
  dsimp only at h;cases q:st.getLast? with
  | none=>rw[q]at h;cases h
  | some s0=>rw[q]at h;rw[dv.mp h];exact⟨trivial,trivial⟩
 | _=>cases h
def QL{ps:T0 (Str×Int)}{z:Str}{n:Int}(h:ps.any (λp=>decide (p.1=z))=pc):(BX ps z n).length=ps.length:=by unfold BX;rw[dz h,cZ]
def Si{V V1:qr}(nx:ux l V1)(he:DJ l V i en):(qI V1 (sd l V i en)).ps.length=V1.ps.length:=by
 cases en with
 | rings z ps=>
  show(qI V1 ((if (l.mS z=="turns")=pc then[Ev.next z (Ox (l.mI z) (ps.headD Str.empty))]else[])++[.rings i ps])).ps.length=_;rw[rF];by_cases ht:(l.mS z=="turns")=pc
  .rw[dz ht];refine QL ?_;obtain⟨v,e,_⟩:=nx z he.1 ht;exact gG.mpr ⟨v,gm e,by simpa using mq e⟩
  .rw[dh ht];rfl
 | breaks z=>
  unfold sd;dsimp only;split
  .rfl
  .rfl
 | waits z=>rfl
 | engaged z=>rfl
 | barred=>rfl
 | ring ns=>rfl
def QY{V:qr}{i:Nat}{k:pB}(ok:rm l)(wf:zj l V (Fa i))(hk:V.calls[i]?=Fa k):(qI V (ve l V i)).ps.length=V.ps.length:=by
 have XY:=wf.ok i k hk;unfold ve;rw[hk];dsimp only[Option.elim];obtain⟨z,hz⟩:∃z,k.way.getLast?=Fa z:=by
  cases e:k.way.getLast? with
  | none=>exact absurd (gp.mp e) XY.wy.1
  | some z=>exact⟨z,Z'⟩
 rw[show k.way.getLastD Str.empty=z by rw[gR,hz];rfl];have ro:wY l V k.cr (l.nm.length+1) [] (uq l V k.cr z k.way.dropLast):=xN ok _ _ _ _ (XY.wy.2 z (il hz)) λx hx=>XY.wy.2 x (im _ hx);have eo:=HL ok wf hk ro.e;generalize uq l V k.cr z k.way.dropLast=R at eo;obtain⟨e,st⟩:=R;have e1:(qI (qI V (qT i Db st)) (sW i st e)).ps=V.ps:=(FF λx hx=>(QK x hx).2).trans (FF λx hx=>(BZ i st Db x hx).2);rw[rF,rF];refine(Si (λz hz ht=>?_) eo).trans (eZ List.length e1);rw[e1];exact wf.nx z hz ht
theorem Jb(ok:rm l):∀(is:T0 Nat) {V:qr},WF l V->(qI V (qZ l is V)).ps.length=V.ps.length
 | [],V,_=>by unfold qZ;rfl
 | i::r,V,wf=>by
  unfold qZ;rw[rF];refine(Jb ok r (En ok wf)).trans ?_;have d:=Fe (V:=V) (i:=i) ok;generalize wN l V i=fs at d;cases d with
  | no=>rfl
  | on c k r b x y n hc hs hk hw hy=>rw[yl hk,rF];exact QY ok (Bm wf hc hs hy) (Bj hc)
def UD{V:qr}{e:tU}(ok:rm l)(wf:WF l V)(f:e.nu)(h:xu l V e=Db):(qI V (vv l V e)).ps.length=V.ps.length:=by
 cases e with
 | call y z=>obtain⟨h1,h2,h3,h4⟩:=Bv h;obtain⟨k,hk⟩:=HX (V:=V) (y:=y) (z:=z);show(qI V (_++ve l _ _)).ps.length=_;rw[rF];exact QY ok (Fl wf h1 h2 h3 h4) hk
 | turn=>exact Jb ok _ (Bo wf)
 | sw b i=>rfl
 | num w x ns=>
  refine eZ List.length (FF λev hev=>?_);obtain⟨_,n⟩:=EO f h;cases n with
  | answer i c hi hc h1 h2 h3=>rw[dv.mp (show ev∈[zR V "answer" x i.toNat]from hev),xo hc];trivial
  | hang i c hi hc h1=>
   have hev:ev∈uR V x i.toNat:=hev;unfold uR at hev;rw[hc]at hev;dsimp only[Option.elim]at hev;split at hev
   .rw[dv.mp hev];trivial
   split at hev
   .rcases dw.mp hev with rfl|hev
    .trivial
    split at hev
    .rw[dv.mp hev];trivial
    .cases hev
   split at hev
   .rw[dv.mp hev];trivial
   .rw[dv.mp hev];trivial
  | hold i c hi hc h1=>rw[dv.mp (show ev∈[zR V "hold" x i.toNat]from hev),xo hc];trivial
  | back i c hi hc h1 h2=>rw[dv.mp (show ev∈[zR V "back" x i.toNat]from hev),xo hc];trivial
  | two _ i j c d hi hj hw hc hd h1 h2=>rw[dv.mp (show ev∈[BE V w x i.toNat j.toNat]from hev),E8 hc hd];trivial
theorem DX(n:Nat):∀ss:QQQ,(ss.map D.str).all (uV n)=pc
 | []=>rfl
 | s::r=>by rw[d9,fC,DX n r];cases n<;>rfl
theorem DA(n:Nat):∀ss:T0 Nat,(ss.map λi=>D.int (i:Nat)).all (uV n)=pc
 | []=>rfl
 | s::r=>by rw[d9,fC,DA n r];cases n<;>rfl
def Qb(e:Ev):uV 6 e.d=pc:=by
 have t:∀ss:QQQ,uV 5 (names ss)=pc:=λss=>DX 4 ss;have u:∀ss:T0 Nat,uV 5 (ui ss)=pc:=λss=>DA 4 ss;cases e with
 | asks i z ns=>show([D.str "asks",.int (i:Nat),.str z,ui ns].all (uV 5))=pc;simp only[fC,u];rfl
 | merge i j ms=>show([D.str "merge",.int (i:Nat),.int (j:Nat),names ms].all (uV 5))=pc;simp only[fC,t];rfl
 | rings i ps=>show([D.str "rings",.int (i:Nat),names ps].all (uV 5))=pc;simp only[fC,t];rfl
 | talks i ps=>show([D.str "talks",.int (i:Nat),names ps].all (uV 5))=pc;simp only[fC,t];rfl
 | _=>rfl
noncomputable def Bi(c:pB):QQQ:=if (c.st=="talks"||c.st=="held")=pc then c.ms else c.cr::c.at_
def KI(a:Ad):rk:=λds M Q=>C9 λL k c=>ds=[.ref (rE.p k)]/\rV a M L k c/\c.at_.length<=100/\∀r M',qp M M'->oj M' r=Fa ((Bi c).map D.str)->Q (.ref r) M'
def LB(V:qr)(Yk:QQQ):T0 Nat:=(List.range V.calls.length).filter λi=>(V.calls[i]?).elim Uf λc=>hasS Yk c.st
def O0(a:Ad):rk:=λds M Q=>Af λA V l Yk=>ds=[.ref A.b,.tup (List.map D.str Yk)]/\Rd a M A V l/\∀r M',qp M M'->oj M' r=Fa ((LB V Yk).map λn=>D.int (n:Nat))->Q (.ref r) M'
def SK(V:qr)(Yk:QQQ):D->Bool
 | .int n=>(V.calls[n.toNat]?).elim Uf λc=>hasS Yk c.st
 | _=>Uf
def KA:Fq P w K mg base 1 a.br (KI a):=by
 refine fq G.br.toDG CU (λr u=>⟨_,(pj (pP (W3.b3 (xp (pH u (pF v0) pA) (wg (pH u (pF v0) pA))))
 (pk (pC (qg sv Z' G.q rX (qe (pF v0)))))
 pK)
 (pk (pC (pU (qQ (qe (pF v0))) (qg sv Z' G.q rX (qe (pF v0))))))),?_⟩)
 rintro ds M Q ⟨L,k,c,rfl,⟨ad,md,h1,h2,h3,h4,_⟩,ha,q⟩
 have hz:=dS;unfold Bi at q;refine pq h1 (i' Z' (qC (c:=c.st=="talks") (λg=>?_) (λg=>?_)))
 .rw[g,ib,dz Z']at q;exact pq h1 (i' Z' (i' h4 λr hr=>⟨_,.refl,q r _ (.new hr) pD⟩))
 rw[dO.mpr g,fX]at q;refine pq h1 (i' Z' (qC (c:=c.st=="held") (λg=>?_) (λg=>?_)))
 .rw[dz g]at q;exact pq h1 (i' Z' (i' h4 λr hr=>⟨_,.refl,q r _ (.new hr) pD⟩))
 rw[dh g]at q;refine pq h1 (i' Z' ⟨o9 Z',λr1 XX=>?_⟩);have t1:=qp.new (c:=.lst [D.str c.cr]) XX;have l1:=@pD M r1 [D.str c.cr];show zo (pE M r1 (.lst [D.str c.cr]) k.p) _;generalize pE M r1 (.lst [D.str c.cr])=M1 at t1 l1 ⊢;refine pq (t1 _ _ h1) (i' Z' (i' (t1.lst h3) λr2 ZF=>?_));have t2:=qp.new (c:=.lst (c.at_.map D.str)) ZF;refine i' (t2.lst l1) (i' pD ⟨?_,λr3 Zm=>⟨_,.refl,q r3 _ (t1.trans (t2.trans (.new Zm))) pD⟩⟩);rw[cZ];show 1+c.at_.length<=pi;omega
def Qw:Fq P w K mg base 1 a.bs (O0 a):=by
 refine fq G.bs.toDG AO (λr u=>⟨_,(pk (pC (qF Z' (yb (ix:=[Db,Fa 0,Fa 1]) (N':=["_law_k","_law_board","_law_states"])) (vm Z' G.M (qe (pR qw Z' G.g qv (qe (pF v0))))) (qG 0) (vC (pH u (pF (pJ (pF U1) v0)) U2)) v0))),?_⟩)
 rintro ds M Q ⟨A,V,l,Yk,rfl,rd,q⟩
 have hz:=dS;have lc:((A.cs.map λk=>D.ref k.p).length:Int)=(V.calls.length:Nat):=by rw[cZ,rd.bd.len]
 have hb:=rd.k;refine pq rd.bd.at_ (i' Z' (i' rd.bd.ca ?_));rw[lc];refine⟨Z',⟨by omega,by omega⟩,?_⟩;refine tP (f:=id) (t:=SK V Yk) trivial _ [] _ (by rw[cZ,eF];simp only[dR];omega) (λd hd k hk=>?_) (λd hd _ k hk=>?_) λr hr=>?_
 .obtain⟨i,hi,rfl⟩:=dJ.mp hd;rw[gD]at hi;have hi:i<V.calls.length:=by omega
  obtain⟨k',ek,⟨ad,md,h1,_⟩⟩:=rd.call (dg hi);have ea:vM (A.cs.map λk=>D.ref k.p) (0+(i:Nat))=Fa (.ref k'.p):=by rw[lq];exact rB ek
  refine pq rd.bd.at_ (i' Z' (i' Z' (i' rd.bd.ca (i' ea (pq h1 (i' Z' (i' Z' ⟨Z',qx _,?_⟩)))))));show k (inD (.str V.calls[i].st) (Yk.map D.str)) M;rw[sE];have e1:SK V Yk (.int (0+(i:Nat)))=hasS Yk V.calls[i].st:=by show(V.calls[(0+(i:Int)).toNat]?).elim Uf _=_;rw[show(0+(i:Int)).toNat=i by omega,dg hi];rfl
  show k (hasS Yk V.calls[i].st) M;rw[<-e1];exact hk
 .exact hk
 .refine⟨_,.refl,q r _ (.new hr) (pD.trans (eZ Fa ?_))⟩;rw[eB,jh,hJ,show(((V.calls.length:Nat):Int)).toNat=V.calls.length from rfl];unfold LB;have e1:(SK V Yk∘λi:Nat=>D.int (0+(i:Nat)))=λi=>(V.calls[i]?).elim Uf λc=>hasS Yk c.st:=funext λi=>by show(V.calls[(0+(i:Int)).toNat]?).elim Uf _=_;rw[show(0+(i:Int)).toNat=i by omega]
  rw[e1];exact gX λi _=>by rw[lq]
noncomputable def G5:Str->QQQ:=λw=>if (w=="answer")=pc then["rings","waits"]else if (w=="hold")=pc then["talks"]else if (w=="hang")=pc then["rings","waits","talks","held"]else["held"]
def SY(w:Str):Prop:=w="answer"\/w="hang"\/w="hold"\/w="back"\/w="hand"\/w="join"
def J8(a:Ad):rk:=λds M Q=>FQ λA V l c w=>ds=[.ref A.b,.int c,.str w,.tup ((G5 w).map D.str)]/\Rd a M A V l/\WF l V/\(∀k∈V.calls,k.at_.length<=100)/\SY w/\∀M',qp M M'->Q .mP M'/\∀e:tU,e.nu->Q e.d M'
def Ro{n:Nat}{a b:Ch}{ds:T0 D}(ha:oj M a=Fa ds)(hb:oj M b=Fa []):yA M (n+1) (.ref a) (.ref b)=Fa ds.isEmpty:=by
 show(oj M a).bind (λi=>(oj M b).bind λj=>if i.length=j.length then sR (yA M n) i j else Fa Uf)=_;rw[ha,hb];cases ds with
 | nil=>rfl
 | cons x r=>rfl
def uC{α:Type}(f:α->D){xs:List α}(h:xs≠[])(c k:Int):(0:Int)<((xs.map f).length:Nat)/\∃x∈xs,vM (xs.map f) (qu c k ((xs.map f).length:Nat))=Fa (f x):=by
 have hp:(0:Int)<((xs.map f).length:Nat):=by have:=fF.mpr h;rw[cZ];omega
 have d0:=ra (c:=c) (f:=k) hp;have d1:=qM (c:=c) (f:=k) hp;obtain⟨n,e⟩:=eI d0;rw[e]at d1 ⊢;have hn:n<xs.length:=by rw[cZ]at d1;omega
 exact⟨hp,xs[n],ii hn,uB (by rw[dG,dg hn];rfl)⟩
def RG{V:qr}{i:Nat}(h:i∈LB V Yk):∃c,V.calls[i]?=Fa c/\c.st∈Yk:=by
 have h:=(fQ.mp h).2;cases e:V.calls[i]? with
 | none=>rw[e]at h;cases h
 | some c=>rw[e]at h;exact⟨c,Z',qU.mp h⟩
def D4{c:pB}(k:wj l Uf c)(h:c.st≠"over"):Bi c≠[]:=by
 unfold Bi;split
 .rename_i g;rcases k.sh with z|⟨_,z|z|⟨_,z⟩|z⟩
  .rw[z.1]at g;exact absurd g (by decide)
  .rw[z.1]at g;exact absurd g (by decide)
  .intro y;rw[y]at z;rcases z.2.1 with u|u<;>cases u
  .intro y;rw[y]at z;cases z.2.1
  .exact absurd z.1 h
 .exact fW _ _
def T1{c:pB}(k:wj l Uf c)(h:c.st∈G5 "answer"):c.at_≠[]:=by
 have h:c.st="rings"\/c.st="waits":=by
  rcases dw.mp h with g|g
  .exact .inl g
  .exact .inr (dv.mp g)
 rcases k.sh with z|⟨_,z|z|⟨_,z⟩|z⟩
 .exact z.2.2.2.2.2 Z'
 .intro y;rw[y]at z;cases z.2.2.2.2
 all_goals(rw[z.1]at h;exact absurd h (by decide))
def Ja{c:pB}(k:wj l Uf c)(h:c.st="held"):∃x,c.hd=Fa x:=by
 rcases k.sh with z|⟨_,z|z|⟨x,z⟩|z⟩
 .rw[h]at z;exact absurd z.1 (by decide)
 .rw[h]at z;exact absurd z.1 (by decide)
 .rw[h]at z;exact absurd z.1 (by decide)
 .exact⟨x,z.2.2.1⟩
 .rw[h]at z;exact absurd z.1 (by decide)
def Kj:Fq P w K mg base 4 a.bt (J8 a):=by
 refine fq G.bt.toDG rG (λr u=>⟨_,(pj (pL 4 rG (pI (Qw G) r G.bs (rN v0 U3)))
 (pj (pP (pH u v4 (qQ r6))
 (pk (pC rQ))
 pK)
 (pj (pL 5 rG (pJ v4 (pI (qH G) r G.i (rj U1 pz (pR qw Z' G.g qv (qe v4))))))
 (pj (pL 6 rG (pI (KA G) r G.br (qe (pJ (pF v0) v5))))
 (pj (pP (pH u U2 pA)
 (pk (pL 6 rG (qg sv Z' G.q rX (qe (pF (pJ (pF v0) v5))))))
 pK)
 (pj (pP (W3.b3 (xp (pH u U2 pA) (xp (pH u U2 pA) (wg (pH u U2 pA)))))
 (pk (pL 6 rG (qQ (qe (pF (pJ (pF v0) v5))))))
 pK)
 (pj (pL 7 rG (pJ v6 (pI (qH G) r G.i (rj U1 pz (pR qw Z' G.g qv (qe v6))))))
 (pj (pP (W3.b3 (xp (pH u U2 pA) (wg (pH u U2 pA))))
 (pj (pL 8 rG (pW v0 G.c.toCls G.S (yN G) r (qe v7)))
 (pk (pC (pN (pX U2 (rj v7 v5 (Q3 (pH u v8 rQ) pz v8)))))))
 pK)
 (pk (pC (pN (rj U2 v7 v5)))))))))))),?_⟩)
 rintro ds M Q ⟨A,V,l,c,wd,rfl,rd,wf,ha,ho,q⟩
 have hz:=dS;refine⟨A,V,l,G5 wd,Z',rd,λr M1 s1 lr=>?_⟩;refine⟨o9 Z',λr0 hr0=>?_⟩;have t2:=qp.new (c:=.lst []) hr0;have ZZ:=t2.lst lr;refine i' (Ro ZZ pD) ?_;have s2:=s1.trans t2;generalize pE M1 r0 (.lst [])=M2 at s2 ZZ ⊢;clear t2 lr hr0 s1;refine qC (c:=((LB V (G5 wd)).map λn=>D.int (n:Nat)).isEmpty) (λ_=>⟨M2,.refl,(q M2 s2).1⟩) (λg=>?_);have gne:LB V (G5 wd)≠[]:=λz=>g (by rw[z];rfl);obtain⟨hp,i,hi,ei⟩:=uC (λn:Nat=>D.int (n:Nat)) gne c 40692;obtain⟨cv,hc,hs⟩:=RG hi;have Zo:=rd.sub s2;obtain⟨k,ek,ca⟩:=Zo.call hc;have ca0:=ca;obtain⟨ad,md,h1,h2,h3,h4,_⟩:=ca0;have XY:=wf.ok i cv hc;refine i' ZZ ⟨c,_,_,Z',hp,i' ZZ (i' ei ?_)⟩;refine pq Zo.bd.at_ (i' Z' (i' Z' (i' Zo.bd.ca (i' (rB ek) ?_))));refine⟨_,k,cv,Z',ca,ha cv (qL hc),λr3 M3 s3 lr3=>?_⟩;have XW:=s3 _ _ h1;have q3:=λM' (s:qp M3 M')=>q M' (s2.trans (s3.trans s));have ZI:=Zo.sub s3;have ZT:=s3.lst h3;clear q ZZ s2 h1 h2 h3 h4 ca;rcases ho with rfl|rfl|rfl|rfl|rfl|rfl
 .
  refine pq ZI.bd.at_ (i' Z' (i' Z' (i' ZI.bd.ca (i' (rB ek) (pq XW (i' Z' (i' ZT λr4 Z0=>?_)))))));obtain⟨Xm,x,hx,ex⟩:=uC D.str (T1 XY hs) c 742938285;refine i' pD ⟨c,_,_,Z',Xm,i' pD (i' ex ?_)⟩;exact⟨o9 Z',_,.refl,(q3 _ (.new Z0)).2 (.num "answer" x [(i:Nat)]) (.inl ⟨.inl Z',Z'⟩)⟩
 .
  obtain⟨Xm,x,hx,ex⟩:=uC D.str (D4 XY (λz=>by rw[z]at hs;exact absurd hs (by decide))) c 742938285;refine i' lr3 ⟨c,_,_,Z',Xm,i' lr3 (i' ex ?_)⟩;exact⟨o9 Z',_,.refl,(q3 _ .refl).2 (.num "hang" x [(i:Nat)]) (.inl ⟨.inr (.inl Z'),Z'⟩)⟩
 .
  obtain⟨Xm,x,hx,ex⟩:=uC D.str (D4 XY (λz=>by rw[z]at hs;exact absurd hs (by decide))) c 742938285;refine i' lr3 ⟨c,_,_,Z',Xm,i' lr3 (i' ex ?_)⟩;exact⟨o9 Z',_,.refl,(q3 _ .refl).2 (.num "hold" x [(i:Nat)]) (.inl ⟨.inr (.inr (.inl Z')),Z'⟩)⟩
 .
  obtain⟨y,hy⟩:=Ja XY (dv.mp hs);refine pq ZI.bd.at_ (i' Z' (i' Z' (i' ZI.bd.ca (i' (rB ek) (pq XW (i' Z' ⟨o9 Z',λr4 Z0=>?_⟩))))));rw[show FS cv.hd=.str y by rw[hy];rfl];obtain⟨Xm,x,hx,ex⟩:=uC D.str (fW y []) c 742938285;refine i' pD ⟨c,_,_,Z',Xm,i' pD (i' ex ?_)⟩;exact⟨o9 Z',_,.refl,(q3 _ (.new Z0)).2 (.num "back" x [(i:Nat)]) (.inl ⟨.inr (.inr (.inr Z')),Z'⟩)⟩
 all_goals
  obtain⟨y,hy⟩:=Ja XY (dv.mp hs);refine pq ZI.bd.at_ (i' Z' (i' Z' (i' ZI.bd.ca (i' (rB ek) (pq XW (i' Z' ⟨o9 Z',λr4 Z0=>?_⟩))))));rw[show FS cv.hd=.str y by rw[hy];rfl];obtain⟨Xm,x,hx,ex⟩:=uC D.str (fW y []) c 742938285;refine i' pD ⟨c,_,_,Z',Xm,i' pD (i' ex ?_)⟩;have t4:=qp.new (c:=.lst [D.str y]) Z0;refine pq (t4 _ _ ZI.bd.at_) ⟨Z',_,⟨Z',Z'⟩,A,V,x,Z',ZI.bd.sub t4,ZI.k,?_⟩;unfold Az;cases vQ V x with
  | none=>first|exact⟨o9 Z',_,.refl,(q3 _ t4).2 (.num "hand" x [(i:Nat),(0:Nat)]) (.inr ⟨.inl Z',Z'⟩)⟩|exact⟨o9 Z',_,.refl,(q3 _ t4).2 (.num "join" x [(i:Nat),(0:Nat)]) (.inr ⟨.inr Z',Z'⟩)⟩
  | some j=>first|exact⟨o9 Z',_,.refl,(q3 _ t4).2 (.num "hand" x [(i:Nat),(j:Nat)]) (.inr ⟨.inl Z',Z'⟩)⟩|exact⟨o9 Z',_,.refl,(q3 _ t4).2 (.num "join" x [(i:Nat),(j:Nat)]) (.inr ⟨.inr Z',Z'⟩)⟩
def IQ:rk:=λds M Q=>J6 λc o n own nm m=>ds=[.int c,.ref o,.ref n,.int ((m:Nat):Int)]/\oj M o=Fa (List.map D.str own)/\oj M n=Fa (List.map D.str nm)/\own.length<=100/\nm.length<=100/\m<=1000000/\∀M' (e:tU),qp M M'->e.nu->Q e.d M'
def NB(a:Ad):rk:=λds M Q=>To λA V l c o n own nm=>ds=[.ref A.b,.int c,.ref o,.ref n]/\Rd a M A V l/\WF l V/\(∀k∈V.calls,k.at_.length<=100)/\oj M o=Fa (List.map D.str own)/\oj M n=Fa (List.map D.str nm)/\own≠[]/\nm≠[]/\own.length<=100/\nm.length<=100/\∀M' (e:tU),qp M M'->e.nu->Q e.d M'
def Je{α:Type}(f:α->D){xs:List α}(h:xs≠[]){m:Int}(hm:m=(xs.length:Nat))(c k:Int):(0:Int)<m/\∃x∈xs,vM (xs.map f) (qu c k m)=Fa (f x):=by have:=uC f h c k;rw[cZ,<-hm]at this;exact this
def Qy{α:Type}(xs:List α)(x:α):xs++[x]≠[]:=by simp
noncomputable def HP:QQQ:=["call","call","call","call","call","answer","answer","answer","answer","answer","hang","hang","hold","hold","hold","back","hand","join","turn","turn","turn"]
theorem DY(d:D):∀n:Nat,(List.replicate n [d]).flatten=List.replicate n d
 | 0=>rfl
 | n+1=>by rw[eN,fY,DY d n,eN];rfl
noncomputable def zz:Str:="zzzzzz"
noncomputable def L7(a b:Str)(k m:Int):List tU:=[.call a b,.num "answer" a [k],.num "hang" a [k],.num "hold" a [k],.num "back" a [k],.num "hand" a [k,m],.num "join" a [k,m],.turn,.sw pc k,.sw Uf k]
def LQ{a b:Str}{k m:Int}{e:tU}(h:e∈L7 a b k m):e.nu:=by
 unfold L7 at h;simp only[dw,dH,eQ]at h;rcases h with rfl|rfl|rfl|rfl|rfl|rfl|rfl|rfl|rfl|rfl
 .trivial
 .exact .inl ⟨.inl Z',Z'⟩
 .exact .inl ⟨.inr (.inl Z'),Z'⟩
 .exact .inl ⟨.inr (.inr (.inl Z')),Z'⟩
 .exact .inl ⟨.inr (.inr (.inr Z')),Z'⟩
 .exact .inr ⟨.inl Z',Z'⟩
 .exact .inr ⟨.inr Z',Z'⟩
 .trivial
 .trivial
 .trivial
def Qq:Fq P w K mg base 2 a.bu IQ:=by
 refine fq G.bu.toDG uN (λr u=>⟨_,(pj (pL 4 uN (pJ (pU U1 (qQ (qe pA))) (pI (qH G) r G.i (rj v0 pz (pU (pR qw Z' G.g qv (qe U1)) pz)))))
 (pj (pL 5 uN (pJ (pU U2 (qQ (qe pA))) (pI (qH G) r G.i (rj v0 pz (pU (pR qw Z' G.g qv (qe U2)) pz)))))
 (pj (pL 6 uN (pU (pI (qH G) r G.i (rj v0 pz (pU U3 pz))) pz))
 (pj (pL 7 uN (pU (pI (qH G) r G.i (rj v0 pz (pU U3 pz))) pz))
 (pj (pL 8 uN (qQ (pX (pN (rj pA v4 v5)) (pX (pN (rj pA v4 v6)) (pX (pN (rj pA v4 v6)) (rj (pN (rj pA v4 v6)) (pN (rj pA v4 v6)) (pN (pX pA (rj v4 v6 v7)))))))))
 (pk (pC (pJ (pU v8 (qQ (pX (pN (pX pA (rj v4 v6 v7))) (rj (pN (qe pA)) (pN (rN pA v6)) (pN (rN pA v6)))))) (pI (qH G) r G.i (rj v0 pz pz)))))))))),?_⟩)
 rintro ds M Q ⟨c,o,n,own,nm,m,rfl,ho,hn,ol,nl,ml,q⟩
 have hz:=dS;have add:∀{M1:Mp} {p:Ch} {xs:QQQ} (f:Int) (nx:DK),qp M M1->oj M1 p=Fa (xs.map D.str)->xs.length<=100->(∀x M',qp M M'->nx (.str x) M')->∀r1,M1 r1=Db->(oj (pE M1 r1 (.lst [D.str zz])) p).elim False λi=>(oj (pE M1 r1 (.lst [D.str zz])) r1).elim False λj=>i.length+j.length<=pi/\∀r2,pE M1 r1 (.lst [D.str zz]) r2=Db->(oj (pE (pE M1 r1 (.lst [D.str zz])) r2 (.lst (i++j))) p).elim False λys=>Jh [.int c,.int f,.int ((ys.length:Nat)+1)] (pE (pE M1 r1 (.lst [D.str zz])) r2 (.lst (i++j))) λy M2=>match y with
  | .int n=>(oj M2 r2).elim False λzs=>(vM zs n).elim False λd=>nx d M2
  | _=>False:=λ{M1 p xs} f nx s hx lx Xh r1 XX=>by
  have t1:=qp.new (c:=.lst [D.str zz]) XX;refine i' (t1.lst hx) (i' pD ⟨by rw[cZ];show xs.length+1<=pi;omega,λr2 ZF=>?_⟩);have t2:=qp.new (c:=.lst (xs.map D.str++[D.str zz])) ZF;obtain⟨hp,x,_,ex⟩:=Je D.str (Qy xs zz) (m:=((xs.map D.str).length:Nat)+1) (by rw[cZ,df];rfl) c f;rw[dQ]at ex;exact i' ((t1.trans t2).lst hx) ⟨c,f,_,Z',hp,i' pD (i' ex (Xh x _ (s.trans (t1.trans t2))))⟩
 refine⟨o9 Z',add 16807 _ .refl ho ol λx M1 s1=>⟨o9 Z',add 39373 _ s1 (s1.lst hn) nl λy M2 s2=>?_⟩⟩;refine⟨c,_,_,Z',by show(0:Int)<(m:Nat)+2;omega,⟨c,_,_,Z',by show(0:Int)<(m:Nat)+2;omega,?_⟩⟩;generalize qu c 69621 ((m:Nat)+2) - 1=k0;refine⟨o9 Z',o9 Z',o9 Z',o9 Z',o9 Z',o9 Z',o9 Z',λr8 hr8=>⟨o9 Z',o9 Z',o9 Z',o9 Z',o9 Z',λr9 hr9=>?_⟩⟩;have t8:=qp.new (c:=.lst (((L7 x y k0 (qu c 22695477 ((m:Nat)+2) - 1)).take 6).map tU.d)) hr8;have t9:=qp.new (c:=.lst (((L7 x y k0 (qu c 22695477 ((m:Nat)+2) - 1)).drop 6).map tU.d)) hr9;refine i' (t9.lst pD) (i' pD ⟨by show 6+4<=pi;omega,λr10 hr10=>?_⟩);obtain⟨hp,e,he,ee⟩:=Je tU.d (xs:=L7 x y k0 (qu c 22695477 ((m:Nat)+2) - 1)) (fW _ _) (m:=10) Z' c 1664525;exact⟨c,_,_,Z',hp,i' pD (i' ee ⟨_,.refl,q _ e (s2.trans (t8.trans (t9.trans (.new hr10)))) (LQ he)⟩)⟩
def N8:Fq P w K mg base 5 a.bv (NB a):=by
 refine fq G.bv.toDG rH (λr u=>⟨_,(pj (pL 4 rH (pU (pU (pU (pU (pU (Cq (qQ (qe pA)) pz) (Cq (qQ (qe pA)) pz)) (Cq (qQ (qe pA)) pz)) (Cq (qQ (qe pA)) pz)) (qQ (rj pA pA pA))) (Cq (qQ (qe pA)) pz)))
 (pj (pL 4 rH (pJ v4 (pI (qH G) r G.i (rj U1 pz (pR qw Z' G.g qv (qe v4))))))
 (pj (pL 5 rH (pN (pX pA (rj pA pA pA))))
 (pj (pP (pH u v4 pA)
 (pk (pL 5 rH (pN (rN pA pA))))
 pK)
 (pj (pP (pH u v4 pA)
 (pk (pL 5 rH (pN (qe pA))))
 pK)
 (pj (pP (W3.b3 (xp (pH u v4 pA) (xp (pH u v4 pA) (wg (pH u v4 pA)))))
 (pk (pL 5 rH (pN (qe pA))))
 pK)
 (pj (pP (pH u v4 pA)
 (pk (pC (pN (qe pA))))
 pK)
 (pj (pP (pH u (pI (qH G) r G.i (rj U1 pz pz)) pz)
 (pk (pC (pI (Qq G) r G.bu (pX U1 (rj U2 U3 (pR qw Z' G.g qv (qe (pF v0))))))))
 pK)
 (pj (pL 6 rH rQ)
 (pj (pP (pH u v4 pA)
 (pk (pL 6 rH (pI (Kj G) r G.bt (pX v0 (rj U1 v4 v5)))))
 pK)
 (pj (pP (pH u v6 rQ)
 (pj (pL 7 rH (pJ U2 (pI (qH G) r G.i (rj U1 pz (pR qw Z' G.g qv (qe U2))))))
 (pk (pL 6 rH (pN (rj pA v7 (pJ U3 (pI (qH G) r G.i (rj U1 pz (pR qw Z' G.g qv (qe U3))))))))))
 pK)
 (pk (pC v6))))))))))))),?_⟩)
 rintro ds M Q ⟨A,V,l,c,o,n,own,nm,rfl,rd,wf,ha,ho,hn,one,nne,ol,nl,q⟩
 have hz:=dS;refine Vq (t:=F6 _ _) (λU M'=>qp M M'/\∃r,oj M' r=Fa (HP.map D.str)/\U=[Fa (.ref A.b),Fa (.int c),Fa (.ref o),Fa (.ref n),Fa (.ref r),Db,Db,Db]) (λnx h=>?_) ?_
 .have Zc:∀{N:Mp} {U:vq} (w0:Str) (m:Int) (nx:DK),qp M N->(0<=m/\m<=10)->(∀r N',qp M N'->qp N N'->oj N' r=Fa ((List.replicate m.toNat w0).map D.str)->nx (.ref r) N')->Ur (T6 (vB (L3.c3 (.str w0)) xV)) (L3.c3 (.int m)) U N nx:=λ{N U} w0 m nx sn hm Xh=>by refine⟨o9 Z',λr1 XX=>?_⟩;refine i' pD ⟨⟨by omega,by omega,by show 1<=1000;decide⟩,λr2 ZF=>?_⟩;have t:=(qp.new (c:=.lst [D.str w0]) XX).trans (qp.new (c:=.lst (List.replicate m.toNat [D.str w0]).flatten) ZF);refine Xh r2 _ (sn.trans t) t (pD.trans (eZ Fa ?_));rw[List.map_replicate];exact DY _ _
  have Yl:∀{N:Mp} {p r:Ch} {xs ys:QQQ} (nx:DK),qp M N->oj N p=Fa (xs.map D.str)->oj N r=Fa (ys.map D.str)->xs.length+ys.length<=100->(∀r N',qp M N'->oj N' r=Fa ((xs++ys).map D.str)->nx (.ref r) N')->Vh .Add (.ref p) (.ref r) N nx:=λ{N p r xs ys} nx sn hx hy hl Xh=>by refine i' hx (i' hy ⟨by rw[cZ,cZ];omega,λr2 ZF=>?_⟩);refine Xh r2 _ (sn.trans (.new ZF)) (pD.trans (eZ Fa ?_));rw[dQ]
  dsimp only[F6,o3];refine Zc "call" 5 _ .refl (by decide) λp1 N1 s1 _ l1=>Zc "answer" 5 _ s1 (by decide) λq2 N2 s2 t2 l2=>Yl _ s2 (t2.lst l1) l2 (by decide) λp2 N3 s3 l3=>Zc "hang" 2 _ s3 (by decide) λq4 N4 s4 t4 l4=>Yl _ s4 (t4.lst l3) l4 (by decide) λp5 N5 s5 l5=>Zc "hold" 3 _ s5 (by decide) λq6 N6 s6 t6 l6=>Yl _ s6 (t6.lst l5) l6 (by decide) λp7 N7 s7 l7=>⟨o9 Z',λr8 hr8=>?_⟩;have t8:=qp.new (c:=.lst ((["back","hand","join"]:QQQ).map D.str)) hr8;exact Yl (ys:=["back","hand","join"]) _ (s7.trans t8) (t8.lst l7) pD (by decide) λp9 N9 s9 l9=>Zc "turn" 3 _ s9 (by decide) λq10 N10 s10 t10 Zp=>Yl _ s10 (t10.lst l9) Zp (by decide) λp11 N11 s11 l11=>h _ _ ⟨s11,p11,l11,Z'⟩
 rintro U M1 ⟨s1,r,lr,rfl⟩
 have s1n:=s1.lst hn;have s1o:=s1.lst ho;obtain⟨hp,w0,hw,ew⟩:=uC D.str (show HP≠[]from fW _ _) c 48271;refine i' lr ⟨c,_,_,Z',hp,i' lr (i' ew ?_)⟩;obtain⟨YR,x1,hx1,ex1⟩:=uC D.str one c 16807;obtain⟨Xm,x2,hx2,ex2⟩:=uC D.str nne c 39373;have Za:=rd.sub s1;have lc:((A.cs.map λk=>D.ref k.p).length:Int)=(V.calls.length:Nat):=by rw[cZ,rd.bd.len]
 clear lr hp ew;have hw:w0="call"\/w0="turn"\/SY w0:=by unfold HP at hw;simp only[dw,dH,eQ]at hw;unfold SY;rcases hw with h|h|h|h|h|h|h|h|h|h|h|h|h|h|h|h|h|h|h|h|h<;>simp[h]
 have Xe:∀M' (e:tU),qp M1 M'->e.nu->∃Xf,qp Xf M'/\Q e.d Xf:=λM' e s f=>⟨M',.refl,q M' e (s1.trans s) f⟩;rcases hw with rfl|rfl|hw
 .refine⟨o9 Z',c,_,_,Z',by decide,qC (c:=qu c 950706376 9==0) (λ_=>pq Za.bd.at_ (i' Z' (i' Za.bd.ca ?_))) (λ_=>?_)⟩
  .rw[lc];exact⟨c,o,n,own,nm,V.calls.length,Z',s1o,s1n,ol,nl,rd.k,Xe⟩
  exact i' s1o ⟨c,_,_,Z',YR,i' s1o (i' ex1 (i' s1n ⟨c,_,_,Z',Xm,i' s1n (i' ex2 ⟨o9 Z',Xe M1 (.call x1 x2) .refl trivial⟩)⟩))⟩
 .exact⟨o9 Z',o9 Z',Xe M1 .turn .refl trivial⟩
 have lany:IQ [.int c,.ref o,.ref n,.int ((V.calls.length:Nat):Int)] M1 λd M'=>∃Xf,qp Xf M'/\Q d Xf:=⟨c,o,n,own,nm,V.calls.length,Z',s1o,s1n,ol,nl,rd.k,Xe⟩;have hw':=hw;rcases hw with rfl|rfl|rfl|rfl|rfl|rfl
 all_goals
  first
   | refine⟨o9 rfl,o9 rfl,c,_,_,rfl,by decide,qC (c:=qu c 950706376 9==0) (λ_=>pq Za.bd.at_ (i' rfl (i' Za.bd.ca ?_))) (λ_=>⟨A,V,l,c,_,rfl,Za,wf,ha,hw',λM' s=>⟨?_,λe f=>?_⟩⟩)⟩
   | refine⟨o9 rfl,c,_,_,rfl,by decide,qC (c:=qu c 950706376 9==0) (λ_=>pq Za.bd.at_ (i' rfl (i' Za.bd.ca ?_))) (λ_=>⟨A,V,l,c,_,rfl,Za,wf,ha,hw',λM' s=>⟨?_,λe f=>?_⟩⟩)⟩
  .rw[lc];exact lany
  .exact i' (s.lst s1o) ⟨c,_,_,Z',YR,i' (s.lst s1o) (i' ex1 (i' (s.lst s1n) ⟨c,_,_,Z',Xm,i' (s.lst s1n) (i' ex2 ⟨o9 Z',Xe M' (.call x1 x2) s trivial⟩)⟩))⟩
  .cases e with
   | call y z=>exact Xe M' (.call y z) s f
   | num v y ns=>exact Xe M' (.num v y ns) s f
   | turn=>exact Xe M' .turn s f
   | sw b i=>exact Xe M' (.sw b i) s f
def Oj(n:Nat)(fs:T0 Nat):Prop:=fs.Pairwise (·<·)/\∀i∈fs,i<n
def Ev.asc(n:Nat):Ev->Prop
 | .asks _ _ fs=>Oj n fs
 | _=>True
def Jw{f:Wi->Bool}:Oj l.mJ.length (Ga l V f):=⟨List.pairwise_lt_range.filter _,λi h=>by
 obtain⟨w,e,_⟩:=Bu h;exact(de.mp e).1⟩
theorem DU{c:Str}:∀(n:Nat) {z:Str} {way:QQQ} {st:sP},(∀s∈st,Oj l.mJ.length s.2)->∀s∈(vA l V c n z way st).2,Oj l.mJ.length s.2
 | 0,_,_,_,h=>h
 | n+1,z,way,st,h=>by
  unfold vA;split
  .exact h
  have h2:∀fs,BO l V c z=fs->∀s∈st++[(z,fs)],Oj l.mJ.length s.2:=λfs e s hs=>by
   rcases dX.mp hs with g|g
   .exact h s g
   .rw[dv.mp g,<-e];exact Jw
  split
  .rename_i e;exact h2 _ e
  .rename_i i r e;cases l.mJ[i]? with
   | none=>exact h
   | some w=>
    dsimp only[Option.elim];split
    .exact h2 _ e
    .exact DU n (h2 _ e)
theorem Ap:∀(st:sP) (q:Option Str),(∀s∈st,Oj n s.2)->∀e∈qT i q st,e.asc n
 | [],_,_,e,h=>by unfold qT at h;cases h
 | (y,gs)::r,Db,a,e,h=>by
  rcases dw.mp (show e∈Ev.asks i y gs::qT i (Fa y) r from h)with rfl|h
  .exact a _ dP
  .exact Ap r _ (λs hs=>a s (dF _ hs)) e h
 | (y,gs)::r,Fa u,a,e,h=>by
  rcases dw.mp (show e∈Ev.leg ⟨i,u,y,u⟩::Ev.asks i y gs::qT i (Fa y) r from h)with rfl|h
  .trivial
  rcases dw.mp h with rfl|h
  .exact a _ dP
  .exact Ap r _ (λs hs=>a s (dF _ hs)) e h
def QB{n i:Nat}:∀e∈sd l V i en,e.asc n:=λe h=>by
 cases en with
 | rings z ps=>
  rcases dX.mp (show e∈(if (l.mS z=="turns")=pc then[Ev.next z (Ox (l.mI z) (ps.headD Str.empty))]else[])++[.rings i ps]from h)with g|g
  .split at g
   .rw[dv.mp g];trivial
   .cases g
  .rw[dv.mp g];trivial
 | breaks z=>
  unfold sd at h;dsimp only at h;split at h
  .rw[dv.mp h];trivial
  .cases h
 | _=>rw[dv.mp h];trivial
def MH:∀e∈ve l V i,e.asc l.mJ.length:=λe h=>by
 unfold ve at h;cases q:V.calls[i]? with
 | none=>rw[q]at h;cases h
 | some c=>
  rw[q]at h;dsimp only[Option.elim]at h;rcases dX.mp h with h|h
  .exact Ap _ _ (DU _ λs hs=>by cases hs) e h
  rcases dX.mp h with h|h
  .unfold sW at h;split at h
   .cases q:(uq l V c.cr (c.way.getLastD Str.empty) c.way.dropLast).2.getLast? with
    | none=>rw[q]at h;cases h
    | some s0=>rw[q]at h;rw[dv.mp h];trivial
   .cases h
  .exact QB e h
theorem G6:∀(is:T0 Nat) (V:qr),∀e∈qZ l is V,e.asc l.mJ.length
 | [],_,e,h=>by unfold qZ at h;cases h
 | i::r,V,e,h=>by
  unfold qZ at h;rcases dX.mp h with h|h
  .have ha:Oj l.mJ.length (wN l V i):=by
    unfold wN;cases V.calls[i]? with
    | none=>exact⟨.nil,λi h=>by cases h⟩
    | some c=>
     dsimp only[Option.elim];split
     .exact Jw
     .exact⟨.nil,λi h=>by cases h⟩
   generalize wN l V i=fs at ha h;unfold tj at h;split at h
   .dsimp only at h;rcases dX.mp h with h|h
    .simp only[dw,dH,eQ]at h;rcases h with rfl|rfl|rfl
     .exact ha
     .trivial
     .trivial
    .exact MH e h
   .cases h
  .exact G6 r _ e h
def Rh{d:tU}:∀e∈vv l V d,e.asc l.mJ.length:=λe h=>by
 unfold vv at h;split at h
 .unfold Bl at h;dsimp only at h;rcases dX.mp h with h|h
  .simp only[dw,dH,eQ]at h;rcases h with rfl|rfl<;>trivial
  .exact MH e h
 .split at h
  .unfold uR at h;cases q:V.calls[Int.toNat _]? with
   | none=>rw[q]at h;cases h
   | some c=>
    rw[q]at h;dsimp only[Option.elim]at h;split at h
    .rw[dv.mp h];trivial
    split at h
    .rcases dw.mp h with rfl|h
     .trivial
     split at h
     .rw[dv.mp h];trivial
     .cases h
    split at h<;>(rw[dv.mp h];trivial)
  .rw[dv.mp h];unfold zR;cases V.calls[Int.toNat _]? with
   | none=>trivial
   | some c=>
    dsimp only[Option.elim];split
    .trivial
    split<;>trivial
 .rw[dv.mp h];unfold BE;cases V.calls[Int.toNat _]? with
  | none=>trivial
  | some c=>dsimp only[Option.elim];cases V.calls[Int.toNat _]?<;>trivial
 .cases h
 .rcases dw.mp h with rfl|h
  .trivial
  .exact G6 _ _ e h
 .rw[dv.mp h];trivial
def LF(a:Ad):rk:=λds M Q=>Af λr1 r2 r3 (l:pG)=>ds=[.tup [.ref r1,.ref r2,.ref r3]]/\oj M r1=Fa (l.mL.map qK)/\oj M r2=Fa (l.groups.map qP)/\oj M r3=Fa (l.mJ.map ug)/\rm l/\∀p M',qp M M'->sI a M' p l->Q (.ref p) M'
def NK:rk:=λds M Q=>∃ns,ds=[.rl (List.map D.int ns)]/\Q (.int (qu (cell ns 0) 1664525 24)) M
def Mi(a:Ad):rk:=λds M Q=>FQ λA V l ns k=>ds=[.ref A.b,.rl (List.map D.int ns),.int k]/\Rd a M A V l/\WF l V/\(∀k∈V.calls,k.at_.length<=100)/\(0<=k/\k<=1000)/\∀M' (e:tU),qp M M'->e.nu->Q e.d M'
structure Bc(a:Ad)(M0 M:Mp)(A:uj)(V:qr)(l:pG)(p:Ch)(h:Int)(F:QXQ)(c n:Nat):Prop where
 cu:uJ a M0 M A.b A V l c n
 wf:WF l V
 oks:GT (V0 p h l F) V.log
 run:V=qI (V0 p h l F) V.log
 ps:V.ps.length<=3
 asc:∀e∈V.log,e.asc l.mJ.length
def Kh(a:Ad):rk:=λds M Q=>FQ λns r1 r2 r3 (l:pG)=>ds=[.rl (List.map D.int ns),.tup [.ref r1,.ref r2,.ref r3]]/\oj M r1=Fa (l.mL.map qK)/\oj M r2=Fa (l.groups.map qP)/\oj M r3=Fa (l.mJ.map ug)/\rm l/\∀M0 M' A V p,qp M M0->Bc a M0 M' A V l p (qu (cell ns 0) 1664525 24) [] 64 139000->Q (.ref A.b) M'
def Bc.after{V:qr}{p:Ch}{F:QXQ}{c n:Nat}{e:tU}(g:Bc a M0 M A V l p h F c n)(f:e.nu)(hr:xu l V e=Db){c' n':Nat}(cu:uJ a M0 M' A.b A' (qI V (vv l V e)) l c' n'):Bc a M0 M' A' (qI V (vv l V e)) l p h F c' n':=by
 have ok:=Tb g.cu.ok g.wf (λk hk=>(g.cu.sz.cs k hk).2.2) f hr;have ZY:uJ a M0 M' A'.b A' (qI V (vv l V e)) l c' n':=by rw[cu.b];exact cu
 refine⟨ZY,UI g.cu.ok g.wf f hr,?_,?_,?_,λx hx=>?_⟩
 .rw[zp];exact w9 g.oks (by rw[<-g.run];exact ok)
 .rw[zp,rF,<-g.run]
 .rw[UD g.cu.ok g.wf f hr];exact g.ps
 .rw[zp]at hx;rcases dX.mp hx with h|h
  .exact g.asc x h
  .exact Rh x h
def Bc.sub{V:qr}{p:Ch}{F:QXQ}{c n:Nat}(g:Bc a M0 M A V l p h F c n)(s:qp M M'):Bc a M0 M' A V l p h F c n:=⟨g.cu.sub s,g.wf,g.oks,g.run,g.ps,g.asc⟩
def Bc.mono{V:qr}{p:Ch}{F:QXQ}{c n c' n':Nat}(g:Bc a M0 M A V l p h F c n)(hc:c<=c')(hn:n<=n'):Bc a M0 M A V l p h F c' n':=⟨g.cu.mono hc hn,g.wf,g.oks,g.run,g.ps,g.asc⟩
def Kl{pre post:T0 D}{d:D}(e:pre++d::post=(List.range n).map λi=>D.int (1+(i:Nat))):d=.int (1+(pre.length:Nat))/\pre.length<n:=by
 have h:((List.range n).map λi=>D.int (1+(i:Nat)))[pre.length]?=Fa d:=by rw[<-e];simp
 have hl:pre.length<n:=by
  have:=(de.mp h).1
  simpa using this
 rw[dG,jb hl]at h;exact⟨(dA h).symm,hl⟩
def MS:Fq P w K mg base 9 a.bw (LF a):=by
 refine fq G.bw.toDG GY (λr u=>⟨_,(pk (pC (vG (Qn G) r G.h G.ce G.al.toDG (rj (qg sv Z' G.q rX (qe (pJ v0 pz))) (qg sv Z' G.q rX (qe (pJ v0 pz))) (qg sv Z' G.q rX (qe (pJ v0 pz))))))),?_⟩)
 rintro ds M Q ⟨r1,r2,r3,l,rfl,h1,h2,h3,ok,q⟩
 refine i' h1 λp1 YR=>?_;have t1:=qp.new (c:=.lst (l.mL.map qK)) YR;have l1:=@pD M p1 (l.mL.map qK);generalize pE M p1 (.lst (l.mL.map qK))=M1 at t1 l1 ⊢;refine i' (t1.lst h2) λp2 Xm=>?_;have t2:=qp.new (c:=.lst (l.groups.map qP)) Xm;have l2:=@pD M1 p2 (l.groups.map qP);generalize pE M1 p2 (.lst (l.groups.map qP))=M2 at t2 l2 ⊢;refine i' ((t1.trans t2).lst h3) λp3 hp3=>?_;have t3:=qp.new (c:=.lst (l.mJ.map ug)) hp3;have l3:=@pD M2 p3 (l.mJ.map ug);generalize pE M2 p3 (.lst (l.mJ.map ug))=M3 at t3 l3 ⊢;refine λp hp=>?_;have t4:=qp.new (c:=.ins a.h []) hp;refine⟨p,p1,p2,p3,l,Z',pS,(t2.trans (t3.trans t4)).lst l1,(t3.trans t4).lst l2,t4.lst l3,ok,λM5 kp pa _=>⟨Z',_,.refl,q p M5 ?_ pa⟩⟩;exact t1.trans (t2.trans (t3.trans λx c e=>kp x c (λz=>by rw[z,hp]at e;cases e) (t4 x c e)))
def NW:Fq P w K mg base 2 a.bx NK:=by
 refine fq G.bx.toDG GE (λr u=>⟨_,(pk (pC (pI (qH G) r G.i (rj (pI (JF G) r G.J (rN v0 pz)) pz pz)))),?_⟩)
 rintro ds M Q ⟨ns,rfl,q⟩
 exact⟨ns,0,Z',_,_,_,Z',by decide,M,.refl,q⟩
def Mo:Fq P w K mg base 6 a.bA (Mi a):=by
 refine fq G.bA.toDG Ha (λr u=>⟨_,(pk (pC (pI (N8 G) r G.bv (pX v0 (rj (pU (pI (JF G) r G.J (rN U1 U2)) (pU (pU pz U2) U2)) (vX (pF v0) G.h.toCls G.L (sF G) r) (vX (pF v0) G.h.toCls G.am (yy G) r)))))),?_⟩)
 rintro ds M Q ⟨A,V,l,ns,k,rfl,rd,wf,ha,hk,q⟩
 obtain⟨ph,gr,ws,YD,pr,gd,rs,i1,_⟩:=rd.pl;have p1:=rd.ok.p1;have p8:=rd.ok.p8;have g3:=rd.ok.g3;have pl:l.pn.length=l.mL.length:=cZ ..;have nl:l.nm.length=l.mL.length+l.groups.length:=by unfold pG.nm pG.pn pG.gn;rw[df,cZ,cZ]
 refine⟨ns,k,Z',?_⟩;refine⟨.inl ⟨by decide,by decide⟩,.inr ⟨by omega,by omega⟩,?_⟩;refine pq rd.bd.at_ (i' Z' (pq i1 ⟨Z',_,⟨Z',Z'⟩,V.p,l,Z',rd.pl,by omega,λq1 X8=>?_⟩));have t1:=qp.new (c:=.lst (l.pn.map D.str)) X8;have l1:=@pD M q1 (l.pn.map D.str);show zo (pE M q1 (.lst (l.pn.map D.str)) A.b) _;generalize pE M q1 (.lst (l.pn.map D.str))=M1 at t1 l1 ⊢;refine pq (t1 _ _ rd.bd.at_) (i' Z' (pq (t1 _ _ i1) ⟨Z',_,⟨Z',Z'⟩,V.p,l,Z',rd.pl.sub t1,by omega,by omega,λq2 YS=>?_⟩));have t2:=qp.new (c:=.lst (l.nm.map D.str)) YS;exact⟨A,V,l,_,q1,q2,l.pn,l.nm,Z',rd.sub (t1.trans t2),wf,ha,t2.lst l1,pD,λz=>by rw[z]at pl;simp only[dR]at pl;omega,λz=>by rw[z]at nl;simp only[dR]at nl;omega,by omega,by omega,λM' e s f=>⟨M',.refl,q M' e (t1.trans (t2.trans s)) f⟩⟩
def Kg:Fq P w K mg base 16 a.bB (Kh a):=by
 refine fq G.bB.toDG wk (λr u=>⟨_,(pj (pL 2 wk (vG (Lv G) r G.c G.cd G.ak.toDG (rN (pI (MS G) r G.bw (qe U1)) (pI (NW G) r G.bx (qe v0)))))
 (pj (sN eK Z' (J7 Z' G.M (rN pz (pR (ME Z') Z' G.b5 LA (rN (pR qw Z' G.g qv (qe v0)) pz)))) (rg 3 wk)
 (pk (pM (pI (O4 G) r G.bz (rN U2 (pI (Mo G) r G.bA (rj U2 v0 U3)))))))
 (pk (pC U2)))),?_⟩)
 rintro ds M Q ⟨ns,r1,r2,r3,l,rfl,h1,h2,h3,ok,q⟩
 have hz:=dS;refine⟨r1,r2,r3,l,Z',h1,h2,h3,ok,λp M0 s0 pa=>⟨ns,Z',λb hb=>?_⟩⟩;have t1:=qp.new (c:=.ins a.c []) hb;refine⟨b,p,_,[],l,Z',pS,pa.sub t1,ok,λz=>?_,(λx hx=>by cases hx),λM1 A eb kp fr bd=>⟨Z',?_⟩⟩
 .obtain⟨ph,gr,ws,YD,pr,gd,rs,i1,_⟩:=pa;rw[z,hb]at i1;cases i1
 have s1:qp M0 M1:=λx c e=>kp x c (λz=>by rw[z,hb]at e;cases e) (t1 x c e);have oW:Bc a M0 M1 A (V0 p (qu (cell ns 0) 1664525 24) l []) l p (qu (cell ns 0) 1664525 24) [] 1 3:=⟨⟨bd,pa,s1,λx hx=>?_,Z',⟨eD _,eD _,eD _,Du ok,λk hk=>by cases hk⟩,ok,cZ ..⟩,VA ok,trivial,Z',Du ok,λe he=>by cases he⟩
 rotate_left
 .rcases fr x hx with z|z
  .rw[z];exact hb
  .exact t1.none z
 refine⟨Z',?_⟩;generalize hN:(if (63:Int)<((ns.map D.int).length:Nat)then(63:Int)else((ns.map D.int).length:Nat))=N;have hN0:0<=N/\N<=63:=by rw[<-hN];split<;>omega
 subst eb;refine⟨⟨by decide,by decide,by omega,by omega⟩,?_⟩;refine tF ((List.range (N - 1).toNat).map λn=>D.int (1+(n:Nat))) (λpre U M'=>(∃A' V',A'.b=A.b/\Bc a M0 M' A' V' l p (qu (cell ns 0) 1664525 24) [] (1+pre.length) (3+2200*pre.length))/\∃y,U=[Fa (.rl (ns.map D.int)),Fa (.tup [.ref r1,.ref r2,.ref r3]),Fa (.ref A.b),y]) (λ_ _ _ _=>trivial) _ [] _ _ Z' ⟨⟨A,_,Z',oW⟩,Db,Z'⟩ ?_ ?_
 .rintro pre d post e U M' ⟨⟨A',V',eb',g⟩,y,rfl⟩ nx Xh
  obtain⟨rfl,Xq⟩:=Kl e;have Xq:pre.length<62:=by omega
  rw[df,dM]at Xh;rw[<-eb']at Xh ⊢;refine⟨A',V',l,ns,_,Z',g.cu.rd (by omega) g.wf,g.wf,λk hk=>(g.cu.sz.cs k hk).2.1,⟨by omega,by omega⟩,λM2 e s f=>?_⟩;refine⟨M0,A'.b,A',V',l,_,_,e,Z',g.cu.sub s,by omega,by omega,g.wf,f,λhr M3 A3 r c3 X4 Zm=>Xh _ _ ⟨⟨A3,_,c3.b,((g.after f hr c3).mono (by omega) (by omega)).sub (.new Zm)⟩,_,Z'⟩,λ_=>Xh _ _ ⟨⟨A',V',Z',(g.sub s).mono (by omega) (by omega)⟩,_,Z'⟩⟩
 .rintro U M' ⟨⟨A',V',eb',g⟩,y,rfl⟩
  rw[cZ,eF]at g;rw[<-eb'];exact⟨M',.refl,q M0 M' A' V' p s0 (g.mono (by omega) (by omega))⟩
noncomputable def F4(t:Str×Nat×Nat):D:=.tup [.str t.1,.int (t.2.1:Nat),.int (t.2.2:Nat)]
noncomputable def Tu(v u:Wi):Bool:=(yA (λ_=>Db) 9 (.tup v.wants) (.tup u.wants)).getD pc
def LX(M:Mp)(v u:Wi):yA M 9 (.tup v.wants) (.tup u.wants)=Fa (Tu v u):=by cases v<;>cases u<;>rfl
def Hl(l:pG)(i j:Nat):Bool:=(l.mJ[i]?).elim Uf λv=>(l.mJ[j]?).elim Uf λu=>!(Tu v.2 u.2)
def yW(l:pG)(z:Str)(i:Nat)(js:T0 Nat):T0 (Str×Nat×Nat):=(js.filter (Hl l i)).map λj=>(z,i,j)
def IL(l:pG)(z:Str)(fs is:T0 Nat):T0 (Str×Nat×Nat):=is.flatMap λi=>yW l z i (fs.filter λj=>decide (i<j))
def Ws(l:pG):Ev->T0 (Str×Nat×Nat)
 | .asks _ z fs=>IL l z fs fs
 | _=>[]
def JR(l:pG)(es:T0 Ev):T0 (Str×Nat×Nat):=es.flatMap (Ws l)
theorem yd{n:Nat}:∀(fs:T0 Nat) (lw:Nat),fs.Pairwise (·<·)->(∀i∈fs,lw<=i/\i<n)->lw<=n->fs.length+lw<=n
 | [],lw,_,_,h=>by simpa using h
 | i::r,lw,p,a,h=>by obtain⟨p1,p2⟩:=jo.mp p;have:=a i dP;have:=yd r (i+1) p2 (λj hj=>⟨p1 j hj,(a j (dF _ hj)).2⟩) (by omega);rw[eC];omega
theorem GZ:∀{fs:T0 Nat} {k i:Nat},fs.Pairwise (·<·)->fs[k]?=Fa i->(fs.filter λj=>decide (i<j))=fs.drop (k+1)
 | [],_,_,_,e=>by cases e
 | a::r,0,i,p,e=>by cases e;obtain⟨p1,_⟩:=jo.mp p;rw[fT (by simp),jd.mpr λj hj=>d6 (p1 j hj)];rfl
 | a::r,k+1,i,p,e=>by obtain⟨p1,p2⟩:=jo.mp p;have:=p1 i (fU e);rw[fT (by simp;omega),GZ (fs:=r) p2 e];rfl
def Eo{z:Str}:(yW l z i js).length<=js.length:=by unfold yW;rw[cZ];exact fP _ _
theorem CL{α β:Type}{f:α->List β}{m:Nat}:∀{xs:List α},(∀x∈xs,(f x).length<=m)->(xs.flatMap f).length<=xs.length*m
 | [],_=>eD _
 | x::r,h=>by rw[jB,df,eC,kY];have:=CL (xs:=r) λy hy=>h y (dF _ hy);have:=h x dP;omega
def EG{z:Str}{fs is:T0 Nat}(h:Oj n fs)(hn:n<=10)(hi:is.length<=10):(IL l z fs is).length<=100:=by have hf:=yd fs 0 h.1 (λi hi=>⟨eD _,h.2 i hi⟩) (eD _);have:=CL (xs:=is) (f:=λi=>yW l z i (fs.filter λj=>decide (i<j))) (m:=10) λi _=>eA Eo (eA (fP _ _) (by omega));unfold IL;omega
def IA{n:Nat}{es:T0 Ev}(h:∀e∈es,e.asc n)(hn:n<=10):(JR l es).length<=es.length*100:=CL λe he=>by
 cases e with
 | asks i z fs=>have ha:=h _ he;exact EG ha hn (by have:=yd fs 0 ha.1 (λi hi=>⟨eD _,ha.2 i hi⟩) (eD _);omega)
 | _=>exact eD _
def JQ{es:T0 Ev}{e:Ev}:JR l (es++[e])=JR l es++Ws l e:=by unfold JR;rw[kN,jB,ma,eE]
def IV{z:Str}{fs is:T0 Nat}{i:Nat}:IL l z fs (is++[i])=IL l z fs is++yW l z i (fs.filter λj=>decide (i<j)):=by unfold IL;rw[kN,jB,ma,eE]
def JD{z:Str}{js:T0 Nat}(h:Hl l i j=pc):yW l z i (js++[j])=yW l z i js++[(z,i,j)]:=by unfold yW;rw[gK,gB h,gv,dQ];rfl
def Nu{z:Str}{js:T0 Nat}(h:Hl l i j=Uf):yW l z i (js++[j])=yW l z i js:=by unfold yW;rw[gK,fT (by rw[h];decide),gv,eE]
def IY(l:pG)(e:Ev):(∃i z fs,e=.asks i z fs)\/∃w r,e.d=.tup (.str w::r)/\(w=="asks")=Uf/\Ws l e=[]:=by
 cases e with
 | asks i z fs=>exact .inl ⟨_,_,_,Z'⟩
 | sw b i=>cases b<;>exact .inr ⟨_,_,Z',by decide+kernel,Z'⟩
 | _=>exact .inr ⟨_,_,Z',by decide+kernel,Z'⟩
def yQ{α:Type}{f:α->D}{xs:List α}{pre post:T0 D}{d:D}(e:pre++d::post=xs.map f):∃x,xs[pre.length]?=Fa x/\d=f x/\xs.take (pre.length+1)=xs.take pre.length++[x]:=by
 have h:(xs.map f)[pre.length]?=Fa d:=by rw[<-e];simp
 rw[dG]at h;cases hx:xs[pre.length]? with
 | none=>rw[hx]at h;cases h
 | some x=>rw[hx]at h;refine⟨x,Z',(dA h).symm,?_⟩;rw[gy,hx];rfl
def Jy{α:Type}{f:α->D}{xs:List α}{pre post:T0 D}{d:D}(e:pre++d::post=sZ 0 (xs.map f)):∃x,xs[pre.length]?=Fa x/\d=.tup [.int (pre.length:Nat),f x]/\xs.take (pre.length+1)=xs.take pre.length++[x]:=by
 have h:(sZ 0 (xs.map f))[pre.length]?=Fa d:=by rw[<-e];simp
 rw[wF,dG]at h;cases hx:xs[pre.length]? with
 | none=>rw[hx]at h;cases h
 | some x=>rw[hx]at h;refine⟨x,Z',?_,by rw[gy,hx];rfl⟩;have h:=(dA h).symm;rw[jQ]at h;exact h
def yh{M M':Mp}{p:Ch}{c:uY}(hp:M p=Db)(s:qp M M'):qp M (pE M' p c):=λx d e=>rZ.put x d (Tc e hp) (s x d e)
noncomputable def Vk(x:Str)(r:T0 D):Option D:=if (x=="bar"||x=="shut")=pc then Fa (.tup [.str "end"])else if (x=="wait")=pc then(vM (.str x::r) 1).map λy=>.tup [.str "wait",y]else if (x=="breaks")=pc then Fa (.tup [.str "break"])else(vM (.str x::r) 2).map λy=>.tup [.str "to",y]
def Ow(v:Wi):∃x r,v.told=.str x::r/\Vk x r=Fa (.tup v.wants):=by
 have t:∀(x:Str) (y z:Str) (r:T0 D),(x=="bar"||x=="shut")=Uf->(x=="wait")=Uf->(x=="breaks")=Uf->Vk x (.str y::.str z::r)=Fa (.tup [.str "to",.str z]):=λx y z r h1 h2 h3=>by unfold Vk;rw[h1,h2,h3,dh dE,dh dE,dh dE,show vM (.str x::.str y::.str z::r) 2=Fa (.str z)from uB (j:=2) Z'];rfl
 cases v with
 | bar x ns=>exact⟨"bar",_,Z',dz (by decide+kernel)⟩
 | shut x ns=>exact⟨"shut",_,Z',dz (by decide+kernel)⟩
 | wait x=>exact⟨"wait",_,Z',(dh (by decide+kernel)).trans (dz (by decide+kernel))⟩
 | breaks x=>exact⟨"breaks",_,Z',(dh (by decide+kernel)).trans ((dh (by decide+kernel)).trans (dz (by decide+kernel)))⟩
 | always x y=>exact⟨"always",_,Z',t _ _ _ _ (by decide+kernel) (by decide+kernel) (by decide+kernel)⟩
 | night x y f n=>exact⟨"night",_,Z',t _ _ _ _ (by decide+kernel) (by decide+kernel) (by decide+kernel)⟩
 | busy x y=>exact⟨"busy",_,Z',t _ _ _ _ (by decide+kernel) (by decide+kernel) (by decide+kernel)⟩
 | silent x y n=>exact⟨"silent",_,Z',t _ _ _ _ (by decide+kernel) (by decide+kernel) (by decide+kernel)⟩
def GP{a:Ad}{M:Mp}{p:Ch}{v:Wi}{Q:DK}(h:M p=Fa (.ins (v.cls a) v.nF))(q:Q (.tup v.wants) M):zo (M p) λC fs=>fs.lookup ("wants":Str)=Db/\∃sp,zu a C sp/\sp [.ref p] M Q:=by
 cases v with
 | bar x ns=>exact pq h ⟨Z',_,.inl ⟨.inl Z',Z'⟩,p,Z',q⟩
 | shut x ns=>exact pq h ⟨Z',_,.inl ⟨.inr Z',Z'⟩,p,Z',q⟩
 | wait x=>exact pq h ⟨Z',_,.inr (.inr (.inl ⟨Z',Z'⟩)),p,_,_,_,Z',h,Z',q⟩
 | breaks x=>exact pq h ⟨Z',_,.inr (.inr (.inr ⟨Z',Z'⟩)),p,Z',q⟩
 | always x y=>exact pq h ⟨Z',_,.inr (.inl ⟨.inl Z',Z'⟩),p,_,_,_,Z',h,Z',q⟩
 | night x y f n=>exact pq h ⟨Z',_,.inr (.inl ⟨.inr (.inl Z'),Z'⟩),p,_,_,_,Z',h,Z',q⟩
 | busy x y=>exact pq h ⟨Z',_,.inr (.inl ⟨.inr (.inr (.inl Z')),Z'⟩),p,_,_,_,Z',h,Z',q⟩
 | silent x y n=>exact pq h ⟨Z',_,.inr (.inl ⟨.inr (.inr (.inr Z')),Z'⟩),p,_,_,_,Z',h,Z',q⟩
def Lc(a:Ad):rk:=λds M Q=>Af λp l z fs=>ds=[.ref p,.str z,ui fs]/\sI a M p l/\Oj l.mJ.length fs/\l.mJ.length<=10/\∀q M',qp M M'->M q=Db->oj M' q=Fa ((IL l z fs fs).map F4)->Q (.ref q) M'
def HN(a:Ad):rk:=λds M Q=>Af λp r l es=>ds=[.ref p,.ref r]/\sI a M p l/\oj M r=Fa (es.map Ev.d)/\es.length<=140000/\(∀e∈es,Ev.asc l.mJ.length e)/\l.mJ.length<=10/\∀q M',qp M M'->M q=Db->oj M' q=Fa ((JR l es).map F4)->Q (.ref q) M'
def K3:rk:=λds M Q=>∃v:Wi,ds=[.tup v.told]/\Q (.tup v.wants) M
def Gy:rk:=λds M Q=>Af λr1 r l es=>ds=[.ref r1,.ref r]/\oj M r1=Fa (List.map ug l.mJ)/\oj M r=Fa (es.map Ev.d)/\es.length<=140000/\(∀e∈es,Ev.asc l.mJ.length e)/\l.mJ.length<=10/\∀q M',qp M M'->M q=Db->oj M' q=Fa ((JR l es).map F4)->Q (.ref q) M'
def NQ:Fq P w K mg base 2 a.bf (Lc a):=by
 refine fq G.bf.toDG sH (λr u=>⟨_,(pj (pL 3 sH (qQ r6))
 (pj (sN eK Z' (LJ Z' G.aR (qe U2)) (uX (n:=2) Z' (qE (rg 4 sH) (qE (rg 5 sH) ub)))
 (pk (sN eK Z' (qB (rW U2 (sU (pU v4 pz)) sT)) (rg 6 sH)
 (pk (pP (pH u (xJ (R:=zu a) (pJ (pF v0) v5) (Ex G) (r.mono (by first|decide|omega))) (xJ (R:=zu a) (pJ (pF v0) v6) (Ex G) (r.mono (by first|decide|omega))))
 (pk (pM (qJ U3 (qe (pN (rj U1 v5 v6))))))
 pK)))))
 (pk (pC U3)))),?_⟩)
 rintro ds M Q ⟨p,l,z,fs,rfl,pa,asc,Zp,q⟩
 have hz:=dS;have f10:=yd fs 0 asc.1 (λi hi=>⟨eD _,asc.2 i hi⟩) (eD _);refine⟨o9 Z',λpf Yq=>?_⟩;have t:=qp.new (c:=.lst []) Yq;have lp:oj (pE M pf (.lst [])) pf=Fa ((IL l z fs []).map F4):=pD;generalize pE M pf (.lst [])=M1 at t lp ⊢;dsimp only[sf];refine tF (sZ 0 (fs.map λn=>D.int (n:Nat))) (λpre U M'=>qp M M'/\oj M' pf=Fa ((IL l z fs (fs.take pre.length)).map F4)/\∃y4 y5 y6,U=[Fa (.ref p),Fa (.str z),Fa (ui fs),Fa (.ref pf),y4,y5,y6]) (λ_ _ _ _=>trivial) _ [] _ _ Z' ⟨t,lp,Db,Db,Db,Z'⟩ ?_ ?_
 rotate_left
 .rintro U M' ⟨s1,lp,y4,y5,y6,rfl⟩
  rw[tJ,cZ,e9]at lp;exact⟨M',.refl,q pf M' s1 Yq lp⟩
 clear lp t
 rintro pre d post e U M2 ⟨s2,lp,y4,y5,y6,rfl⟩ nx Xh
 obtain⟨i,ei,rfl,et⟩:=Jy e;have hi:=asc.2 i (qL ei);have hk:pre.length<fs.length:=(de.mp ei).1;rw[df,dM,et,IV,GZ asc.1 ei]at Xh;have Y1:=EG (l:=l) (z:=z) (is:=fs.take pre.length) asc Zp (by rw[eR];omega);generalize IL l z fs (fs.take pre.length)=c0 at lp Xh Y1;refine⟨Z',?_⟩;dsimp only[sf,Ag,Gx];obtain⟨ph,gr,ws,YD,pr,gd,rs,i1,i2,i3,i4,_,_,_,i8⟩:=pa;obtain⟨vi,evi⟩:∃v,l.mJ[i]?=Fa v:=⟨_,dg hi⟩;have ecut:L3.uH (fs.map λn=>D.int (n:Nat)) (Fa ((pre.length:Int)+1)) Db=(fs.drop (pre.length+1)).map λn=>D.int (n:Nat):=by rw[show(pre.length:Int)+1=((pre.length+1:Nat):Int)from Z',Fs _ _ (by rw[cZ];omega),ju]
 show Dl _ _ _ _ (L3.uH (fs.map λn=>D.int (n:Nat)) (Fa ((pre.length:Int)+1)) Db) _ _;rw[ecut];refine tF ((fs.drop (pre.length+1)).map λn=>D.int (n:Nat)) (λX9 U M'=>qp M M'/\oj M' pf=Fa ((c0++yW l z i ((fs.drop (pre.length+1)).take X9.length)).map F4)/\∃y6,U=[Fa (.ref p),Fa (.str z),Fa (ui fs),Fa (.ref pf),Fa (.int (pre.length:Nat)),Fa (.int (i:Nat)),y6]) (λ_ _ _ _=>trivial) _ [] _ _ Z' ⟨s2,by rw[show yW l z i ((fs.drop (pre.length+1)).take ([]:T0 D).length)=[]from Z',eE];exact lp,_,Z'⟩ ?_ ?_
 rotate_left
 .rintro U M' ⟨s3,lp,y6,rfl⟩
  rw[cZ,e9]at lp;exact Xh _ _ ⟨s3,lp,_,_,_,Z'⟩
 clear lp
 rintro X9 d post2 e2 U M3 ⟨s3,lp,y6,rfl⟩ nx2 Ym
 obtain⟨j,ej,rfl,et2⟩:=yQ e2;obtain⟨vj,evj⟩:∃v,l.mJ[j]?=Fa v:=⟨_,dg (asc.2 j (iY (qL ej)))⟩;rw[df,dM,et2]at Ym;obtain⟨r1,a1,b1⟩:=yf (i8.sub s3) evi;obtain⟨r2,a2,b2⟩:=yf (i8.sub s3) evj;refine pq (s3 _ _ i1) (i' Z' (i' Z' (i' (s3.lst i4) (i' a1 (GP b1 ?_)))));refine pq (s3 _ _ i1) (i' Z' (i' Z' (i' (s3.lst i4) (i' a2 (GP b2 ?_)))));have ed:Hl l i j=!(Tu vi.2 vj.2):=by unfold Hl;rw[evi,evj];rfl
 refine i' (LX _ _ _) (qC (c:=!(Tu vi.2 vj.2)) (λg=>?_) (λg=>?_))
 .refine⟨by show(oj M3 pf).isSome=pc;rw[lp];rfl,o9 Z',i' lp ⟨?_,?_⟩⟩
  .have:=Eo (l:=l) (z:=z) (i:=i) (js:=(fs.drop (pre.length+1)).take X9.length);rw[eR,gj]at this;rw[cZ,df];omega
  .refine Ym _ _ ⟨yh Yq s3,?_,_,Z'⟩;rw[JD (ed.trans g),<-eV,dQ (l₂:=[_])];exact pD
 .refine Ym _ _ ⟨s3,?_,_,Z'⟩;rw[Nu (ed.trans (dO.mpr g))];exact lp
def BY:Fq P w K mg base 3 a.ad (HN a):=by
 refine fq G.ad.toDG yL (λr u=>⟨_,(pj (pL 2 yL (qQ r6))
 (pj (sN eK Z' (qB U1) (rg 3 yL)
 (pk (pP (pH u (pJ U3 pz) pA)
 (pk (pM (EL U2 (qe (pI (NQ G) r G.bf (rj v0 (pJ U3 pz) (pJ U3 pz)))))))
 pK)))
 (pk (pC U2)))),?_⟩)
 rintro ds M Q ⟨p,r,l,es,rfl,pa,lr,hl,asc,Zp,q⟩
 have hz:=dS;refine⟨o9 Z',λpf Yq=>?_⟩;have t:=qp.new (c:=.lst []) Yq;have lp:oj (pE M pf (.lst [])) pf=Fa ((JR l []).map F4):=pD;generalize pE M pf (.lst [])=M1 at t lp ⊢;dsimp only[sf];refine i' (t.lst lr) ?_;refine tF (es.map Ev.d) (λpre U M'=>qp M M'/\oj M' pf=Fa ((JR l (es.take pre.length)).map F4)/\∃y3,U=[Fa (.ref p),Fa (.ref r),Fa (.ref pf),y3]) (λ_ _ M' j=>j.1.lst lr) _ [] _ _ Z' ⟨t,lp,Db,Z'⟩ ?_ ?_
 rotate_left
 .rintro U M' ⟨s1,lp,y3,rfl⟩
  rw[cZ,e9]at lp;exact⟨M',.refl,q pf M' s1 Yq lp⟩
 clear lp t
 rintro pre d post e U M2 ⟨s2,lp,y3,rfl⟩ nx Xh
 obtain⟨ev,ee,rfl,et⟩:=yQ e;have hk:pre.length<es.length:=(de.mp ee).1;have ha:=asc ev (qL ee);have hal:=IA (l:=l) (es:=es.take pre.length) (λe he=>asc e (ik he)) Zp;rw[eR]at hal;rw[df,dM,et,JQ]at Xh;generalize JR l (es.take pre.length)=c0 at lp Xh hal;rcases IY l ev with⟨i,z,fs,rfl⟩|⟨w,r',ed,hw,hc⟩
 .obtain⟨wd,hwd⟩:∃w:Str,w="asks":=⟨_,Z'⟩;rw[show(Ev.asks i z fs).d=.tup [.str wd,.int (i:Nat),.str z,ui fs]from by rw[hwd];rfl];dsimp only[sf];refine qC (c:=wd=="asks") (λ_=>?_) (λg=>absurd (by rw[hwd];exact fv _) g);refine⟨by show(oj M2 pf).isSome=pc;rw[lp];rfl,?_⟩;refine⟨p,l,z,fs,Z',pa.sub s2,ha,Zp,λq2 M3 s3 YS l2=>?_⟩;refine i' (s3.lst lp) (i' l2 ⟨?_,Xh _ _ ⟨yh Yq (s2.trans s3),?_,_,Z'⟩⟩)
  .have f10:=yd fs 0 ha.1 (λi hi=>⟨eD _,ha.2 i hi⟩) (eD _);have:=EG (l:=l) (z:=z) (is:=fs) ha Zp (by omega);rw[cZ,cZ];omega
  .rw[<-dQ];exact pD
 .rw[hc,eE]at Xh;rw[ed];exact i' (vK _ _) (qC (c:=w=="asks") (λg=>by rw[hw]at g;cases g) (λ_=>Xh _ _ ⟨s2,lp,_,Z'⟩))
def Dx:Fq P w K mg base 1 a.ah K3:=by
 refine fq G.ah.toDG E6 (λr u=>⟨_,(pj (pP (pH u (pJ v0 pz) (pN (rN pA pA)))
 (pk (pC (pN (qe pA))))
 pK)
 (pj (pP (pH u (pJ v0 pz) pA)
 (pk (pC (pN (rN pA (pJ v0 pz)))))
 pK)
 (pj (pP (pH u (pJ v0 pz) pA)
 (pk (pC (pN (qe pA))))
 pK)
 (pk (pC (pN (rN pA (pJ v0 pz)))))))),?_⟩)
 rintro ds M Q ⟨v,rfl,q⟩
 obtain⟨x,r,ev,hw⟩:=Ow v;rw[ev];unfold Vk at hw;refine i' (vK _ _) ⟨o9 Z',Z',Z',?_⟩;show if inD (.str x) [.str "bar",.str "shut"]=pc then _ else _
 rw[VP];refine qC (λg=>?_) (λg=>?_)
 .rw[dz g]at hw;rw[<-dA hw]at q;exact⟨o9 Z',M,.refl,q⟩
 rw[dh g]at hw;refine i' (vK _ _) (qC (c:=x=="wait") (λg=>?_) (λg=>?_))
 .rw[dz g]at hw;obtain⟨y,ey,hw⟩:=hW.mp hw;rw[<-hw]at q;exact i' ey ⟨o9 Z',M,.refl,q⟩
 rw[dh g]at hw;refine i' (vK _ _) (qC (c:=x=="breaks") (λg=>?_) (λg=>?_))
 .rw[dz g]at hw;rw[<-dA hw]at q;exact⟨o9 Z',M,.refl,q⟩
 rw[dh g]at hw;obtain⟨y,ey,hw⟩:=hW.mp hw;rw[<-hw]at q;exact i' ey ⟨o9 Z',M,.refl,q⟩
def GA:Fq P w K mg base 2 a.bC Gy:=by
 refine fq G.bC.toDG tL (λr u=>⟨_,(pj (pL 2 tL (qQ r6))
 (pj (sN eK Z' (qB U1) (rg 3 tL)
 (pk (pP (pH u (pJ U3 pz) pA)
 (pk (sN eK Z' (qB (pJ U3 pz)) (rg 4 tL)
 (pk (sN eK Z' (qB (pJ U3 pz)) (rg 5 tL)
 (pk (pP (W3.b3 (xP (pH u v4 v5) (wZ (pH u (pI (Dx G) r G.ah (qe (pJ (pJ v0 v4) pz))) (pI (Dx G) r G.ah (qe (pJ (pJ v0 v5) pz)))))))
 (pk (pM (qJ U2 (qe (pN (rj (pJ U3 pz) v4 v5))))))
 pK))))))
 pK)))
 (pk (pC U2)))),?_⟩)
 rintro ds M Q ⟨p,r,l,es,rfl,lw,lr,hl,asc,Zp,q⟩
 have hz:=dS;refine⟨o9 Z',λpf Yq=>?_⟩;have t:=qp.new (c:=.lst []) Yq;have lp:oj (pE M pf (.lst [])) pf=Fa ((JR l []).map F4):=pD;generalize pE M pf (.lst [])=M1 at t lp ⊢;dsimp only[sf];refine i' (t.lst lr) ?_;refine tF (es.map Ev.d) (λpre U M'=>qp M M'/\oj M' pf=Fa ((JR l (es.take pre.length)).map F4)/\∃y3 y4 y5,U=[Fa (.ref p),Fa (.ref r),Fa (.ref pf),y3,y4,y5]) (λ_ _ M' j=>j.1.lst lr) _ [] _ _ Z' ⟨t,lp,Db,Db,Db,Z'⟩ ?_ ?_
 rotate_left
 .rintro U M' ⟨s1,lp,y3,y4,y5,rfl⟩
  rw[cZ,e9]at lp;exact⟨M',.refl,q pf M' s1 Yq lp⟩
 clear lp t
 rintro pre d post e U M2 ⟨s2,lp,y3,y4,y5,rfl⟩ nx Xh
 obtain⟨ev,ee,rfl,et⟩:=yQ e;have hk:pre.length<es.length:=(de.mp ee).1;have ha:=asc ev (qL ee);have hal:=IA (l:=l) (es:=es.take pre.length) (λe he=>asc e (ik he)) Zp;rw[eR]at hal;rw[df,dM,et,JQ]at Xh;generalize JR l (es.take pre.length)=c0 at lp Xh hal;rcases IY l ev with⟨k0,z,fs,rfl⟩|⟨w,r',ed,hw,hc⟩
 rotate_left
 .rw[hc,eE]at Xh;rw[ed];exact i' (vK _ _) (qC (c:=w=="asks") (λg=>by rw[hw]at g;cases g) (λ_=>Xh _ _ ⟨s2,lp,_,_,_,Z'⟩))
 have f10:=yd fs 0 ha.1 (λi hi=>⟨eD _,ha.2 i hi⟩) (eD _);obtain⟨wd,hwd⟩:∃w:Str,w="asks":=⟨_,Z'⟩;rw[show(Ev.asks k0 z fs).d=.tup [.str wd,.int (k0:Nat),.str z,ui fs]from by rw[hwd];rfl];dsimp only[sf];refine qC (c:=wd=="asks") (λ_=>?_) (λg=>absurd (by rw[hwd];exact fv _) g);refine tF (fs.map λn=>D.int (n:Nat)) (λX9 U M'=>qp M M'/\oj M' pf=Fa ((c0++IL l z fs (fs.take X9.length)).map F4)/\∃y4 y5,U=[Fa (.ref p),Fa (.ref r),Fa (.ref pf),Fa (.tup [.str wd,.int (k0:Nat),.str z,ui fs]),y4,y5]) (λ_ _ _ _=>trivial) _ [] _ _ Z' ⟨s2,by rw[show IL l z fs (fs.take ([]:T0 D).length)=[]from Z',eE];exact lp,_,_,Z'⟩ ?_ ?_
 rotate_left
 .rintro U M' ⟨s3,lp,y4,y5,rfl⟩
  rw[cZ,e9]at lp;exact Xh _ _ ⟨s3,lp,_,_,_,Z'⟩
 clear lp
 rintro X9 d post2 e2 U M3 ⟨s3,lp,y4,y5,rfl⟩ nx2 Ym
 obtain⟨i,ei,rfl,et2⟩:=yQ e2;rw[df,dM,et2,IV]at Ym;obtain⟨vi,evi⟩:∃v,l.mJ[i]?=Fa v:=⟨_,dg (ha.2 i (qL ei))⟩;have Y1:=EG (l:=l) (z:=z) (is:=fs.take X9.length) ha Zp (by rw[eR];omega);have hc1:(c0++IL l z fs (fs.take X9.length)).length<=c0.length+100:=by rw[df];omega
 rw[<-eV]at Ym;generalize c0++IL l z fs (fs.take X9.length)=c1 at lp Ym hc1;refine tF (fs.map λn=>D.int (n:Nat)) (λZJ U M'=>qp M M'/\oj M' pf=Fa ((c1++yW l z i ((fs.take ZJ.length).filter λj=>decide (i<j))).map F4)/\∃y5,U=[Fa (.ref p),Fa (.ref r),Fa (.ref pf),Fa (.tup [.str wd,.int (k0:Nat),.str z,ui fs]),Fa (.int (i:Nat)),y5]) (λ_ _ _ _=>trivial) _ [] _ _ Z' ⟨s3,by rw[show yW l z i ((fs.take ([]:T0 D).length).filter λj=>decide (i<j))=[]from Z',eE];exact lp,_,Z'⟩ ?_ ?_
 rotate_left
 .rintro U M' ⟨s4,lp,y5,rfl⟩
  rw[cZ,e9]at lp;exact Ym _ _ ⟨s4,lp,_,_,Z'⟩
 clear lp
 rintro ZJ d post3 e3 U M4 ⟨s4,lp,y5,rfl⟩ VU YM
 obtain⟨j,ej,rfl,et3⟩:=yQ e3;obtain⟨vj,evj⟩:∃v,l.mJ[j]?=Fa v:=⟨_,dg (ha.2 j (qL ej))⟩;rw[df,dM,et3,gK]at YM;have wi:∀{i:Nat} {v:vd},l.mJ[i]?=Fa v->vM (l.mJ.map ug) (i:Nat)=Fa (ug v):=λe=>uB (by rw[dG,e];rfl);refine qC (c:=decide ((i:Int)<(j:Nat))) (λg=>?_) (λg=>?_)
 .have g:i<j:=by have:=fO g;omega
  rw[gB (by exact d6 g),gv]at YM;refine i' (s4.lst lw) (i' (wi evi) ⟨vi.2,Z',?_⟩);refine i' (s4.lst lw) (i' (wi evj) ⟨vj.2,Z',?_⟩);have ed:Hl l i j=!(Tu vi.2 vj.2):=by unfold Hl;rw[evi,evj];rfl
  refine i' (LX _ _ _) (qC (c:=!(Tu vi.2 vj.2)) (λg=>?_) (λg=>?_))
  .refine⟨by show(oj M4 pf).isSome=pc;rw[lp];rfl,o9 Z',i' lp ⟨?_,?_⟩⟩
   .have h1:=Eo (l:=l) (z:=z) (i:=i) (js:=(fs.take ZJ.length).filter λj=>decide (i<j));have h2:=fP (λj=>decide (i<j)) (fs.take ZJ.length);rw[eR]at h2;rw[cZ,df];omega
   .refine YM _ _ ⟨yh Yq s4,?_,_,Z'⟩;rw[JD (ed.trans g),<-eV,dQ (l₂:=[_])];exact pD
  .refine YM _ _ ⟨s4,?_,_,Z'⟩;rw[Nu (ed.trans (dO.mpr g))];exact lp
 .have g:¬i<j:=λz=>g (d6 (by omega));rw[fT (by simpa using g),gv,eE]at YM;exact B6 (YM _ _ ⟨s4,lp,_,Z'⟩)
theorem JN:∀(n:Nat) (d:D),uV n d=pc->uV (n+1) d=pc
 | 0,d,h=>by
  cases d with
  | tup ds=>cases h
  | ref _=>cases h
  | ty _=>cases h
  | rl _=>cases h
  | _=>rfl
 | n+1,d,h=>by
  cases d with
  | tup ds=>exact eU.mpr λd hd=>JN n d (eU.mp (show ds.all (uV n)=pc from h) d hd)
  | ref _=>cases h
  | ty _=>cases h
  | rl _=>cases h
  | _=>rfl
def JY(h:uV 6 d=pc):uV 7 d=pc:=JN 6 d h
def R5{x:Ch}{ds:T0 D}(h:oj M x=Fa ds):WE M (.ref x)=Fa (.type "list"):=by show HR (M x)=_;rw[qh h];rfl
def Sj:rk:=λds M Q=>C9 λr1 r2 ts=>ds=[.ref r1,.ref r2]/\oj M r1=Fa (List.map F4 ts)/\oj M r2=Fa (ts.map F4)/\Q (.bl pc) M
def NZ:rk:=λds M Q=>Af λns m r xs=>ds=[.rl (List.map D.int ns),.int ((m:Nat):Int),.ref r]/\m<=10/\oj M r=Fa (List.map D.str xs)/\xs≠[]/\∀q M' es,qp M M'->M q=Db->oj M' q=Fa (List.map Ev.d es)->(∀e∈es,Ev.asc m e)->es.length<=126->Q (.ref q) M'
def Lq:Fq P w K mg base 1 a.ai Sj:=by
 refine fq G.ai.toDG vY (λr u=>⟨_,(pj (pP (W3.b3 (xp (vt (um (pR zY Z' G.bY wx (rN v0 (LW Z' G.q rX))))) (wg (pH u v0 U1))))
 (pk (pC vN))
 pK)
 (pj (sN eK Z' (qB v0) (rg 2 vY)
 (pk (pP (W3.b3 (xp (vt (um (pR zY Z' G.bY wx (rN U2 (LW Z' G.E ua))))) (wg (um (pR (ML Z') Z' G.b6 Lr (qe (qF Z' (yb (ix:=[Db]) (N':=["_law_part"])) (qB U2) (qG 0) rT (pR (HU (K:=K) Z') Z' G.bY wx (rN v0 (LW Z' G.cK PV))))))))))
 (pk (pC vN))
 pK)))
 (pk (pC vN)))),?_⟩)
 rintro ds M Q ⟨r1,r2,ts,rfl,l1,l2,q⟩
 have hz:=dS;refine i' (R5 l1) ⟨λC z=>(by cases z),i' G.cH (B6 ?_)⟩;refine i' (D7 l1 l2 λd hd=>by
  obtain⟨v,_,rfl⟩:=dJ.mp hd;exact Ct 7 _ Z') (B6 (i' l1 ?_))
 refine tF (ts.map F4) (λpre U M'=>qp M M'/\∃y2,U=[Fa (.ref r1),Fa (.ref r2),y2]) (λ_ _ M' j=>j.1.lst l1) _ [] _ _ Z' ⟨.refl,Db,Z'⟩ ?_ ?_
 .rintro pre d post e U M1 ⟨s1,y2,rfl⟩ nx Xh
  obtain⟨⟨z,i,j⟩,_,rfl,_⟩:=yQ e;refine⟨λC z=>(by cases z),i' G.cI (B6 ?_)⟩;refine qW (f:=λ_=>D.bl Uf) trivial _ [] _ (by show 0+3<=pi;omega) (λd hd k hk=>?_) λp hp=>?_
  .simp only[dw,dH,eQ]at hd;rcases hd with rfl|rfl|rfl
   .exact⟨λC z=>(by cases z),i' G.cJ hk⟩
   .exact⟨λC z=>(by cases z),i' G.b4 hk⟩
   .exact⟨λC z=>(by cases z),i' G.b4 hk⟩
  .exact i' pD (i' Z' (B6 (Xh _ _ ⟨s1.trans (.new hp),_,Z'⟩)))
 .rintro U M' ⟨s1,y2,rfl⟩
  exact⟨M,s1,q⟩
def MA:Fq P w K mg base 2 a.bD NZ:=by
 refine fq G.bD.toDG tO (λr u=>⟨_,(pj (pL 3 tO (qQ r6))
 (pj (sN eK Z' (vk Z' G.aR (qe (rW v0 sT (sU pz)))) (uX (n:=2) Z' (qE (rg 4 tO) (qE (rg 5 tO) ub)))
 (pj (pL 6 tO (qg uF Z' G.E ua (qe (qF Z' (yb (ix:=[Db,Fa 5]) (N':=["_law_i","_law_cell"])) (vm Z' G.M (qe U1)) (qG 0) (vC (pH u (pI (qH G) r G.i (rj (pU U1 (pU (pU pz v0) v0)) pz pz)) pz)) v0))))
 (pj (pL 7 tO (pJ U2 (pI (qH G) r G.i (rj v5 pz (pR qw Z' G.g qv (qe U2))))))
 (pj (pM (qJ U3 (qe (pN (pX pA (rj v4 v7 v6))))))
 (pk (pP (pH u (pI (qH G) r G.i (rj v5 pz pz)) pz)
 (pk (pM (qJ U3 (qe (pN (rj pA v4 pA))))))
 pK))))))
 (pk (pC U3)))),?_⟩)
 .rintro ds M Q ⟨ns,m,r,xs,rfl,hm,lr,Xy,q⟩
  have hz:=dS;refine⟨o9 Z',λpf Yq=>?_⟩;have t:=qp.new (c:=.lst []) Yq;have lp:oj (pE M pf (.lst [])) pf=Fa (([]:T0 Ev).map Ev.d):=pD;generalize pE M pf (.lst [])=M1 at t lp ⊢;refine λsl ZA=>?_;rw[show L3.uH (ns.map D.int) Db (Fa 63)=(ns.take 63).map D.int by rw[kF];exact Hh _ 63];have ne:sl≠pf:=λz=>by have:=qh lp;rw[<-z,ZA]at this;cases this
  have t1:=qp.new (c:=.lst ((ns.take 63).map D.int)) ZA;have ls:=@pD M1 sl ((ns.take 63).map D.int);have lp:=t1.lst lp;have s1:=t.trans t1;generalize pE M1 sl (.lst ((ns.take 63).map D.int))=M2 at ls lp s1 ⊢;clear t t1 ZA;have h63:(ns.take 63).length<=63:=by rw[eR];omega
  generalize ns.take 63=cs at ls h63 ⊢;refine i' ls ?_;refine tF (sZ 0 (cs.map D.int)) (λpre U M'=>qp M M'/\oj M' sl=Fa (cs.map D.int)/\∃es,oj M' pf=Fa (List.map Ev.d es)/\(∀e∈es,Ev.asc m e)/\es.length<=2*pre.length/\∃y4 y5 y6 y7,U=[Fa (.rl (ns.map D.int)),Fa (.int (m:Nat)),Fa (.ref r),Fa (.ref pf),y4,y5,y6,y7]) (λ_ _ M' j=>j.2.1) _ [] _ _ Z' ⟨s1,ls,[],lp,(λe he=>by cases he),eD _,Db,Db,Db,Db,Z'⟩ ?_ ?_
  rotate_left
  .rintro U M' ⟨s1,ls,es,lp,asc,hl,y4,y5,y6,y7,rfl⟩
   rw[tJ,cZ]at hl;exact⟨M',.refl,q pf M' es s1 Yq lp asc (by omega)⟩
  clear lp ls s1
  rintro pre d post e U M3 ⟨s3,ls,es,lp,asc,hl,y4,y5,y6,y7,rfl⟩ nx Xh
  obtain⟨c,ec,rfl,et⟩:=Jy e;have hk:pre.length<cs.length:=(de.mp ec).1;rw[df,dM]at Xh;refine⟨Z',?_⟩;dsimp only[sf,Ag,Gx];refine⟨Z',⟨by omega,by omega⟩,?_⟩;show uU _ _ _ _ _ ((List.range ((m:Nat):Int).toNat).map λi=>D.int (0+(i:Nat))) [] _ _;rw[gO];refine wD ((List.range m).map λi=>D.int (0+(i:Nat))) (λpre acc U M'=>M3=M'/\(∃fs,acc=List.map (λn:Nat=>D.int (n:Nat)) fs/\fs.Pairwise (·<·)/\∀i∈fs,i<pre.length/\i<m)/\∃y,U=[y,Fa (.int c)]) (λ_ _ _ _ _=>trivial) _ [] [] _ _ Z' ?_ ⟨Z',⟨[],Z',.nil,λi h=>by cases h⟩,Db,Z'⟩ ?_ ?_
  .rw[cZ,eF];simp only[dR];omega
  .rintro pre d post e acc U _ ⟨rfl,⟨fs,rfl,pw,hf⟩,y,rfl⟩ k k2 hk YJ
   obtain⟨i,ei,rfl,et⟩:=yQ e;have hi:i=pre.length/\i<m:=by obtain⟨h1,h2⟩:=de.mp ei;rw[jn]at h2;rw[eF]at h1;exact⟨h2.symm,by omega⟩
   rw[df,dM]at hk YJ;rw[lq];refine⟨.inl ⟨by decide,by decide⟩,.inr ⟨by omega,by omega⟩,_,_,_,Z',by decide,?_⟩;refine qC (λg=>?_) (λg=>?_)
   .refine hk _ _ _ ⟨Z',⟨fs++[i],by rw[dQ];rfl,List.pairwise_append.mpr ⟨pw,List.pairwise_singleton _ _,λa ha b hb=>?_⟩,λj hj=>?_⟩,_,Z'⟩
    .rw[dv.mp hb];have:=(hf a ha).1;omega
    .rcases dX.mp hj with h|h
     .have:=hf j h;omega
     .rw[dv.mp h];omega
   .exact YJ _ _ ⟨Z',⟨fs,Z',pw,λj hj=>⟨gw (hf j hj).1,(hf j hj).2⟩⟩,_,Z'⟩
  rintro acc U _ ⟨rfl,⟨fs,rfl,pw,hf⟩,y,rfl⟩ p5 hp5
  have hfs:Oj m fs:=⟨pw,λi hi=>(hf i hi).2⟩;have t5:=qp.new (c:=.lst (fs.map λn:Nat=>D.int (n:Nat))) hp5;refine i' pD ?_;have s5:=s3.trans t5;have lp:=t5.lst lp;have ls:=t5.lst ls;show sf 6 _ _ (pE M3 p5 (.lst (fs.map λn:Nat=>D.int (n:Nat)))) _;generalize pE M3 p5 (.lst (fs.map λn:Nat=>D.int (n:Nat)))=M5 at s5 lp ls ⊢;clear t5 hp5 s3;dsimp only[sf];obtain⟨hp,x,_,ax⟩:=uC D.str (xs:=xs) Xy c 16807;refine i' (s5.lst lr) ⟨_,_,_,Z',hp,i' (s5.lst lr) (i' ax ?_)⟩;refine⟨by show(oj M5 pf).isSome=pc;rw[lp];rfl,o9 Z',i' lp ⟨by rw[cZ];omega,?_⟩⟩;have s6:qp M (pE M5 pf (.lst (es.map Ev.d++[(Ev.asks pre.length x fs).d]))):=yh Yq s5;have lp6:oj (pE M5 pf (.lst (es.map Ev.d++[(Ev.asks pre.length x fs).d]))) pf=Fa ((es++[Ev.asks pre.length x fs]).map Ev.d):=by rw[pD,dQ];rfl
  have ls6:oj (pE M5 pf (.lst (es.map Ev.d++[(Ev.asks pre.length x fs).d]))) sl=Fa (cs.map D.int):=sQ (rZ.put _ _ ne (qh ls));rw[show(Ev.asks pre.length x fs).d=.tup [.str "asks",.int (pre.length:Nat),.str x,.tup (fs.map λn:Nat=>D.int (n:Nat))]from Z']at s6 lp6 ls6;generalize pE M5 pf (.lst (es.map Ev.d++[.tup [.str "asks",.int (pre.length:Nat),.str x,.tup (fs.map λn:Nat=>D.int (n:Nat))]]))=M6 at s6 lp6 ls6 ⊢;have asc6:∀e∈es++[Ev.asks pre.length x fs],Ev.asc m e:=λe he=>by
   rcases dX.mp he with h|h
   .exact asc e h
   .rw[dv.mp h];exact hfs
  have hl6:(es++[Ev.asks pre.length x fs]).length<=2*pre.length+1:=by rw[df,dM];omega
  generalize es++[Ev.asks pre.length x fs]=es6 at lp6 asc6 hl6;refine⟨_,_,_,Z',by decide,qC (λg=>?_) (λg=>?_)⟩
  .refine⟨by show(oj M6 pf).isSome=pc;rw[lp6];rfl,o9 Z',i' lp6 ⟨by rw[cZ];omega,?_⟩⟩;refine Xh _ _ ⟨yh Yq s6,sQ (rZ.put _ _ ne (qh ls6)),es6++[.over pre.length "left"],by rw[pD,dQ];rfl,λe he=>?_,by rw[df,dM];omega,_,_,_,_,Z'⟩;rcases dX.mp he with h|h
   .exact asc6 e h
   .rw[dv.mp h];trivial
  .exact Xh _ _ ⟨s6,ls6,es6,lp6,asc6,by omega,_,_,_,_,Z'⟩
seal L3.E3 L3.B3 L3.A3 L3.S3 L3.He
def LR:rk:=λds M Q=>∃ns:T0 Int,ds=[.rl (ns.map D.int)]/\ns.length<=63/\Q (.bl pc) M
def SV:Fq P w K mg base 17 a.aj LR:=by
 refine fq G.aj.toDG xY (λr u=>⟨_,(pj (pL 1 xY (pI (Lg G) r G.bq (rN v0 pz)))
 (pj (pL 2 xY (pI (Kg G) r G.bB (rN v0 U1)))
 (pj (pL 3 xY (pU (qF Z' (yb (ix:=[Db]) (N':=["_law_phone"])) (qB (pJ U1 pz)) (qG 0) rT (pJ v0 pz)) (qF Z' (yb (ix:=[Db]) (N':=["_law_group"])) (qB (pJ U1 pz)) (qG 0) rT (pJ v0 pz))))
 (pj (sN eK Z' (qB (pN (rN (qg sv Z' G.q rX (qe (pF U2))) (pI (MA G) r G.bD (rj v0 (pR qw Z' G.g qv (qe (pJ U1 pz))) U3))))) (rg 4 xY)
 (pj (pL 5 xY (qg sv Z' G.q rX (qe v4)))
 (pj (pL 6 xY (pI (GA G) r G.bC (rN (pJ U1 pz) v4)))
 (pj (pL 7 xY (pI (BY G) r G.ad (rN (pF U2) v5)))
 (pj (pP (W3.b3 (xp (vt (um (pI (Lq G) r G.ai (rN v7 v6)))) (wg (pH u v5 v4))))
 (pk (pC vN))
 pK)
 (pj (pM (qJ v7 (qe rQ)))
 (pk (pP (vt (um (pI (Lq G) r G.ai (rN (pI (BY G) r G.ad (rN (pF U2) v5)) v6))))
 (pk (pC vN))
 pK))))))))
 (pk (pC vN)))))),?_⟩)
 rintro ds M Q ⟨ns,rfl,hns,q⟩
 have hz:=dS;have ok:rm (AG ns 4):=OK (by decide) (by decide);have w10:(AG ns 4).mJ.length<=10:=by have:=qM (c:=cell ns 0) (f:=950706376) (m:=11) (by decide);show((List.range (vg (cell ns 0))).map _).length<=10;rw[cZ,eF];unfold vg;omega
 refine⟨ns,4,Z',by decide,by decide,λr1 r2 r3 M1 s1 h1 h2 h3=>?_⟩;generalize AG ns 4=l at h1 h2 h3 ok w10;have p1:=ok.p1;have p8:=ok.p8;have g3:=ok.g3;refine⟨ns,r1,r2,r3,l,Z',h1,h2,h3,ok,λM0 M2 A V p s2 g=>?_⟩;have s02:=s2.trans g.cu.s0;have h1:=s02.lst h1;have h2:=s02.lst h2;have h3:=s02.lst h3;have sM:=s1.trans s02;clear s02 s1 s2;refine i' h1 (qW (f:=A9) h1 _ [] _ (by rw[cZ];simp only[dR];omega) (λd hd k hk=>?_) λro hro=>?_)
 .obtain⟨x,_,rfl⟩:=dJ.mp hd;exact hk
 rw[eB,wR];have t3:=qp.new (c:=.lst ((l.mL.map (·.1)).map D.str)) hro;have lo:oj (pE M2 ro (.lst ((l.mL.map (·.1)).map D.str))) ro=Fa (l.pn.map D.str):=pD;generalize pE M2 ro (.lst ((l.mL.map (·.1)).map D.str))=M3 at lo t3 ⊢;refine i' (t3.lst h2) (qW (f:=A9) (t3.lst h2) _ [] _ (by rw[cZ];simp only[dR];omega) (λd hd k hk=>?_) λp4 hp4=>?_)
 .obtain⟨x,_,rfl⟩:=dJ.mp hd;exact hk
 rw[eB,wW];have pl:l.pn.length=l.mL.length:=cZ ..;have gl:l.gn.length=l.groups.length:=cZ ..;rw[show(l.groups.map (·.1)).map D.str=l.gn.map D.str from rfl];have t:=qp.new (c:=.lst (l.gn.map D.str)) hp4;refine i' (t.lst lo) (i' pD ⟨by rw[cZ,cZ];omega,λrn hrn=>?_⟩);rw[<-dQ];have t5:=t3.trans (t.trans (.new (c:=.lst ((l.pn++l.gn).map D.str)) hrn));have ln:=@pD (pE M3 p4 (.lst (l.gn.map D.str))) rn ((l.pn++l.gn).map D.str);show uk _ _ _ _ (pE (pE M3 p4 (.lst (l.gn.map D.str))) rn (.lst ((l.pn++l.gn).map D.str)));generalize pE (pE M3 p4 (.lst (l.gn.map D.str))) rn (.lst ((l.pn++l.gn).map D.str))=M5 at t5 ln ⊢;clear t t3 lo hro hp4 hrn;have g5:=g.sub t5;refine pq g5.cu.at_ (i' Z' (i' g5.cu.bd.lo λr4 Z0=>?_));have t6:=qp.new (c:=.lst (V.log.map Ev.d)) Z0;have l4:=@pD M5 r4 (V.log.map Ev.d);generalize pE M5 r4 (.lst (V.log.map Ev.d))=M6 at t6 l4 ⊢;have t56:=t5.trans t6;refine i' (t56.lst h3) ⟨ns,l.mJ.length,rn,l.pn++l.gn,by rw[cZ],w10,t6.lst ln,λz=>?_,λq7 M7 es7 t7 hq7 l7 asc7 len7=>?_⟩
 .have:=eZ List.length z;rw[df,dR]at this;omega
 have t57:=t56.trans t7;have l4:=t7.lst l4;have g7:=g.sub t57;have h3:=t57.lst h3;have sM:=sM.trans t57;clear t6 t56 g5 t5 Z0 ln;have both:∀d∈[D.ref r4,D.ref q7],∃x es,d=.ref x/\oj M7 x=Fa (List.map Ev.d es)/\es.length<=140000/\∀e∈es,Ev.asc l.mJ.length e:=λd hd=>by
  simp only[dw,dH,eQ]at hd;have:=g.cu.sz.lo;rcases hd with rfl|rfl
  .exact⟨r4,V.log,Z',l4,by omega,g.asc⟩
  .exact⟨q7,es7,Z',l7,by omega,asc7⟩
 refine⟨o9 Z',?_⟩;refine tF [D.ref r4,D.ref q7] (λpre U M'=>qp M7 M'/\∃y4 y5 y6 y7,U=[Fa (.rl (ns.map D.int)),Fa (.tup [.ref r1,.ref r2,.ref r3]),Fa (.ref A.b),Fa (.ref rn),y4,y5,y6,y7]) (λ_ _ _ _=>trivial) _ [] _ _ Z' ⟨.refl,Db,Db,Db,Db,Z'⟩ ?_ ?_
 rotate_left
 .rintro U M' ⟨s8,y4,y5,y6,y7,rfl⟩
  exact⟨M,sM.trans s8,q⟩
 rintro pre d post e U M8 ⟨s8,y4,y5,y6,y7,rfl⟩ nx Xh
 obtain⟨x,es,rfl,lx,hl,asc⟩:=both d (by rw[<-e];simp);clear both;dsimp only[sf];have lx:=s8.lst lx;have g8:=g7.sub s8;have h3:=s8.lst h3;have pa:sI a M8 V.p l:=g8.cu.oW.sub g8.cu.s0;have hal:=IA (l:=l) (es:=es) asc w10;have eqe:∀{N:Mp} {x y:Ch},oj N x=Fa (es.map Ev.d)->oj N y=Fa (es.map Ev.d)->yA N 9 (.ref x) (.ref y)=Fa pc:=λh1 h2=>D7 h1 h2 λd hd=>by obtain⟨v,_,rfl⟩:=dJ.mp hd;exact Ct 7 _ (JY (Qb v))
 refine i' lx λrh hrh=>?_;have t9:=qp.new (c:=.lst (es.map Ev.d)) hrh;have lh:=@pD M8 rh (es.map Ev.d);show uk _ _ _ _ (pE M8 rh (.lst (es.map Ev.d)));generalize pE M8 rh (.lst (es.map Ev.d))=M9 at t9 lh ⊢;refine⟨r3,x,l,es,Z',t9.lst h3,t9.lst lx,hl,asc,w10,λrd M10 t10 hrd ld=>?_⟩;have ZK:=t9.trans t10;refine pq (g8.sub ZK).cu.at_ (i' Z' ⟨V.p,rh,l,es,Z',pa.sub ZK,t10.lst lh,hl,asc,w10,λrf M11 t11 hrf lf=>?_⟩);refine⟨rf,rd,_,Z',lf,t11.lst ld,B6 ?_⟩;refine i' (eqe (t11.lst (t10.lst lh)) ((ZK.trans t11).lst lx)) (B6 ?_);refine⟨by show(oj M11 rf).isSome=pc;rw[lf];rfl,i' lf ⟨by rw[cZ];omega,?_⟩⟩;have t12:qp M10 (pE M11 rf (.lst ((JR l es).map F4++[D.mP]))):=yh hrf t11;generalize pE M11 rf (.lst ((JR l es).map F4++[D.mP]))=M12 at t12 ⊢;have t812:=ZK.trans t12;refine pq (g8.sub t812).cu.at_ (i' Z' ⟨V.p,rh,l,es,Z',pa.sub t812,t12.lst (t10.lst lh),hl,asc,w10,λrf2 M13 t13 hrf2 lf2=>?_⟩);exact⟨rf2,rd,_,Z',lf2,t13.lst (t12.lst ld),B6 (Xh _ _ ⟨s8.trans (t812.trans t13),_,_,_,_,Z'⟩)⟩
end
end Z
end
structure PySem.W.Fast:Prop where(tw9274208331854332349 tw7390680095453896658 tw6869699370377897102 tw5977405071725087507 tw5790713495779319129 tw5522249417371060300 tw3844330204156675942 tw3545318633545077449 tw3235896289682754868 tw17349842453454344477 tw17129319644428044628 tw16877216264338878326 tw16348768301934568606 tw16191429505537776086 tw16121459990707810295 tw15819414539632789366 tw15764656767107472261 tw15686926365728424202 tw15489256120999357259 tw15183590789016974683 tw14988196586520191042 tw14429749552016638077 tw13386167014035055550 tw11546466414275872758 tw11082605863580884799 tw10894645003141517094 tw10759117987132910203 tw10166741653968178212 tw10069512037378699462 tw1006478018288800873 tw11172081209513050457 tw4722178094748030645 tw12335392871326384182 tw1669643970886550300 tw3385823605731066154 tw11672849183028636983 tw17820038643799838291 tw5384901388219980801 tw707933370108914699 tw15489942897358732346 tw5849338204569136141 tw4465841885020755455 tw11993117796881302568 tw15179808910783430221 tw445698151387281260 tw5330217794198249657 tw1827094809252397848 tw9112728463111332156 tw15443721467431909877 tw5479211274920777846 tw6867740951214424031 tw16636816637873381796 tw2154625033549140238 tw10648747003117841047 tw2588026317990780028 tw8842531849973712374 tw798358035891919647 tw9270484405499677183 tw768850852360989442 tw9678494622850205564 tw6690017673385356036 tw15567159762917718590 tw9712043550167248646 tw16619260758359627724 tw5799436075804917909 tw13225215441512800310 tw7869570758224937418 tw14918175052963039012 tw7774785797776289042 tw3640812781458226509 tw11184635646361752342 tw7713061931891407575 tw17880443924680163199 tw1421951905378664914 tw12134978565829601571 tw1301597365152300256 tw3441534916595618699 tw11795874747937943773 tw9005297876604386748 tw9578348096273208024 tw3383754524190773914 tw12231375190647722439 tw16048633570810871716 tw12108822224229360131 tw16294117833456501699 tw960921308363102150 tw14586474179670367543 tw12400186210007065652 tw15764366082496604471 tw12530282332366421875 tw9893962437904319306 tw13952693913559152771 tw15071002879440480110 tw141935293947435003 tw11651247107133661939 tw16328650802817677662 tw17250197500034720772 tw7564415403620222312 tw6693109047670742473 tw1196914715664213194 tw14957913748838345953 tw11335909757118826573 tw2869043191288438139 tw7687412773750121869 tw12352662259104080246 tw16080161360408405963 tw16469932362298119941 tw16935900578103333418 tw4138142268021241783 tw1484436337141527617 tw2462994448446992917 tw2805887246916962846 tw747719954802746990 tw12787397217363250197 tw4683404243396184745 tw15390697630945230855 tw9730472017965152722 tw3247398453591312050 tw18310820620556907629 tw877419071408756695 tw7973570277626435091 tw3604576099917746826 tw1589721889580677894 tw3285416014963063436 tw4059691507837410349 tw2337403976836211907 tw1934084477202250477 tw1084170588973211332 tw9533477957595989648 tw2217462523263501810 tw6288226456339308779 tw7366096624492030822 tw11714242618509201821 tw16975691468315970321 tw9338548955987901655 tw12829494934332237117 tw16670560112385384997 tw11113647486636210088 tw2676651437706268906 tw16538978237837932715 tw13026199283563633828 tw10967319489412205701 tw16646185321189481906 tw4134454965908650944 tw12491792514408532074 tw17997050244678836265 tw6379340464594962767 tw9778568248607908412 tw9767500009726035209 tw15973051928279414298 tw3067353185697436476 tw11524933592138245268 tw7081701776251911552 tw2477471719570980366 tw16987783120041337255 tw15624157769422288093 tw10853584205134402069 tw4265717286906582379 tw14051886572350506580 tw12116273026670069210 tw1339052645708417411 tw11462482571463534934 tw12276097679317080409 tw13290334790812243696 tw1527537983836898679 tw14342261304434989025 tw1180307838171331330 tw6668721378699573086 tw7634972131424133843 tw11003151196768838084 tw135195603670282276 tw18207635709943562202 tw5427496948333656264 tw4150215715639612651 tw11071119661585042329 tw2389484295698558113 tw6920553852414414254 tw6122792643118566356 tw1717501442028356383 tw3143079425584820966 tw12230753186599749624 tw17134994769239455896 tw678709533024051233 tw9630614861014659393 tw12382106411495965519 tw15342511632969071949 tw11536792820596288619 tw2896988471377103852 tw1220151543890558859 tw1622033776686168435 tw17935867438222452785 tw12495173319012600856 tw9974952241351130484 tw13080203592360114549 tw6638035695463880586 tw11201980646421045796 tw7498939065047677813 tw14832955631860215124 tw3597102126375785716 tw3571148279708691779 tw14173608298287564484 tw9916037409527437262 tw16198856762076167734 tw4083937849238193303 tw14488311498467515501 tw12218087093018514884 tw7397251924372602958 tw16264780466834704589 tw18326295562386715824 tw6299275190490701149 tw2506845583462174075 tw13410181572490307214 tw9390796443772088002 tw4179494791070812550 tw9160498532704297603 tw15844331559111166038 tw14757237974745206281 tw9949362155284756587 tw715683714932317432 tw4369821212175453745 tw375509406501290772 tw12734847611862990954 tw5814940661225744053 tw12446008736248319784 tw11831130487052590132 tw6247655545124653168 tw4161704840528978736 tw8158505605907147921 tw5688797782521196242 tw17848115640107952306 tw1831708183903016125 tw9685734393411856738 tw18272400696984469859 tw12795371300727546466 tw10221678030748471835 tw5586202322556019153 tw9598197257304290165 tw8781566379539172246 tw13630504576817630227 tw1762132474009761886 tw3656149352216065894 tw3760662218762379028 tw13527219064274471870 tw14071933759645628127 tw5603258066642403302 tw11817382293978077371 tw8980703261505451404 tw5549081059851854113 tw13651412136994245488 tw1754651681284283717 tw7017461808672495443 tw15290021385106159014 tw10837464758910091681 tw3357950115943895115 tw11507134309633956337 tw10423299138673484538 tw12997185054071841405 tw1433987456297145503 tw1841388609726340042 tw4946495096177118643 tw16079347350541559231 tw4053655689215455723 tw17100314829936570495 tw5867606890011473273 tw1094962018556128207 tw11875471821934226888 tw11064704190285187747 tw9623126274377847609 tw8687163392495100717 tw11417343877895203610 tw215585396776118293 tw5856460445791516041 tw10382133753490426242 tw18124676508157921814 tw4172540361924379488 tw12382131300049444383 tw14984446623536571685 tw5436839895659971422 tw8163265712997514103 tw11583568053138473143 tw13723844292908882375 tw9592997907547225862 tw15709831336676814657 tw826004315228396504 tw12359213514907277315 tw5714740352941030761 tw17517235431131684737 tw16883716468671412969 tw15524209081436443819 tw18066381744174070564 tw11106906365852792557 tw1311874491364808829 tw3421233353237789955 tw1087060081917315232 tw9612917643303843428 tw8241919737127522330 tw956009165168064464 tw5973448704240684546 tw4964323260807004270 tw9999379220010375619 tw18228772609529039865 tw6360516524963665086 tw2128649522047701179 tw12463551282643187956 tw9805362748743390146 tw448786039075354785 tw14796400021984201021 tw14681804950170047535 tw5722809680822406470 tw1791830655245835589 tw11289896965164136564 tw6419982079721549310 tw14365947147785245194 tw15488173645415548712 tw6597811818537144716 tw14228240137837202617 tw10407386088053101389 tw9186666775914185270 tw1847560451278779717 tw8939296144198240009 tw11673782100407327027 tw15474189146087732659 tw10581158238160182490 tw17491824395048034927 tw5687765850436418830 tw16346118962277406807 tw15431651078446878191 tw13885432222132821705 tw5488370195589232799 tw8329726302561164517 tw16722560368674463255 tw10144106974974564934 tw7499055666516273974 tw5172961785128069763 tw2094530176549146431 tw14353313947159839215 tw14139539931071132948 tw12384399806622583300 tw6832218968615090551 tw9870480771531062230 tw10011528300367448074 tw6256150941447482474 tw15218561118640925082 tw3759225676904625728 tw7708161755860128198 tw13592598443575054475 tw2759925623832978113 tw1409191400583097124 tw10422639771526517353 tw5727383123084891641 tw15670080083685014622 tw6426720830178710198 tw2285545320895401173 tw13998738793166686996 tw9613907140300649710 tw3464690521732839008 tw5709445507314050170 tw17884782314066874253 tw16992164083363547876 tw813198310147839830 tw6339024260602831594 tw10211528568045226847 tw4874603286575596477 tw2914312514232919580 tw14606751971776845193 tw10982712250628814593 tw4942867167158279125 tw14003669744042263915 tw7306527218017389826 tw5721018950900820672 tw10201624417710609640 tw14730046153345435281 tw10239834120505534235 tw11793700827179436658 tw8301101265693736258 tw10943805723136616844 tw696289362440463309 tw772001511047298617 tw2874128350112374611 tw5931457733761443565 tw1798874021278032492 tw3085532342960813478 tw2629556909868890350 tw16162708736197442251 tw10498930143391406239 tw9504397283539249525 tw6663899665025203639 tw17357128629387688732 tw10438342541714441300 tw4860848743334311533 tw11439334461768082861 tw10641601910415521107 tw8658068882356885954 tw8598496554961224407 tw2428755929831699762 tw18192096041125532134 tw15686055079632841322 tw1837379434787913453 tw10176700679891794671 tw8371334576333569493 tw6509695630434235412 tw2733295132494244380 tw17267235282473887581 tw12359470338914933755 tw4586578615203559351 tw3871236734243078803 tw13376249407172850233 tw4004167461551471850 tw579022934031251615 tw16783593894139734904 tw1582492348342069916 tw13802574309415919010 tw12183737457430210907 tw10726080630980980136 tw14287797029657324377 tw10902186636492149457 tw8710837211562296467 tw7836830679574829635 tw5588344126304685881 tw15191829454761227843 tw13042789198686793585 tw11293568868994418299 tw6413398131335761617 tw4774452205552042962 tw16847037066816012020 tw14207990832714380523 tw8971578350294195854 tw6765279850555394091 tw18262007760075802288 tw14334848618360438136 tw1858975431572845343 tw16919825040720566337 tw17122884328737132533 tw16178283176821079688 tw13263898300567743890 tw7866995995780836192 tw2710515749968235038 tw10076780297513979229 tw3625440291077274508 tw8875363489366741014 tw10165089621304248703 tw8622455226360096891 tw12853369422585851250 tw16718099781101514123 tw16960110764384131678 tw15715175182521804322 tw13993116476636325291 tw13810025122593046398 tw1001632998339145986 tw10025075429334995585 tw2835468939250653182 tw15886892872294030780 tw14845652718922177423 tw11029591552394104105 tw16465211833357669564 tw16050098333448068625 tw2990868789506973085 tw11449946189396889219 tw1926684952060745738 tw9105872156122424027 tw12540504836854635570 tw9431397393541762760 tw13501627123909425092 tw6305075283695453805 tw5341794198599806916 tw5303682560867006795 tw2521781293595302246 tw2176093956102590444 tw16702416093504406683 tw10351561375083873286 tw11642319476057027528 tw2513102076927313337 tw18219203759334382137 tw4260006289240400490 tw17891464721141544815 tw5324796279555403966 tw4184268175737458351 tw14028122337157708590 tw7941325144931599294 tw18151942535856593408 tw15109138432074370225 tw18276539622390590916 tw17305849427871614474 tw12724490795467274965 tw12371430144073434345 tw2730428759434468950 tw17407923909744849863 tw13366835185088913571 tw12602312818978393813 tw11337959300901964846 tw7469490461519700440 tw4307201575421261229 tw15848078113872291306 tw11575712478437740544 tw14503443444603280438 tw7163661125095627059 tw3481608002210604724 tw8332358389529460851 tw1758768863547550443 tw7100883724625172982 tw17461295012004220998 tw11578193128240025604 tw4578620854304224185 tw9107365713302857853 tw8602496531666420641 tw8134779955295613326 tw7583183159986322029 tw4310589599594571740 tw4185799204773550075 tw17327486480847396405 tw1177802251639168310 tw10702521148223414121 tw3398467401238012892 tw14620584104854494284 tw6558244901452809758 tw599489432385390038 tw15366929257641596101 tw16015000520614015391 tw12629888378409158492 tw8396379109046201834 tw10165570846793677621 tw2405636448229733468 tw15295767137906801474 tw1956572793623240413 tw15224675616055752486 tw2967529667159216632 tw12905587668971141417 tw8702580769466272870 tw4065574307020797783 tw18414576174224105817 tw5021362111372792974 tw14032791868804488097 tw13925036954094180868 tw2599311538771634011 tw2468136276641645061 tw18305858747075998397 tw10664747571353234519 tw15041766462996785750 tw970950238263518699 tw12713504088366126461 tw9049668692524415432 tw3969734247382374498 tw16848410619962922401 tw18349830279411427073 tw1294258337683992136 tw2382333570378751456 tw13062234979634936633 tw10503934228020139886 tw11094245758957481843 tw1874464504890214169 tw11978478689010106486 tw8974825653536471083 tw13369890959170527593 tw9768002040468909091 tw8039342221903762922 tw7030187358087435031 tw13882969903700507366 tw7731030454976298820 tw2124451729086178829 tw18316020473252751016 tw11901823058643904002 tw10641654877853033311 tw7421456155148777715 tw4216925945527046281 tw14047674485241355913 tw5068808478608420973 tw3460822473239482360 tw7705957074591444235 tw9761651829862106889 tw5095811200476889832 tw8133495938393412497 tw7294588630336210555 tw15343544936916704562 tw11914452726350779483 tw10331646473479634468 tw1539731630373952597 tw266205329422698163 tw8148753953543512687 tw6083465647528447513 tw3425445821894226617 tw1243246195937469177 tw4033052891203190007 tw8421713009439904813 tw2648227344675102031 tw2286648440684081613 tw17848084989754120632 tw17164700258914599748 tw16955479556973953505 tw15431281246574927392 tw15412048916846919520 tw15280639121855995858 tw13904549162253147154 tw13406478750379348341 tw16166219026135533861 tw1079040983802984999 tw18072303327926369464 tw16247644134576174168 tw6341332825448470068 tw864503458922320421 tw3753371442023861147 tw18032200923566955211 tw14094118131400815769 tw1353022398580937910 tw9838987109821951858 tw7858790345171010918 tw6527277187841517255 tw2125413581559288744 tw1878483744874529044 tw15304466532343954088 tw15209850508701186650 tw1389364522634360558 tw12823235709396988467 tw10222627768793085240 tw217823160652804423 tw16006664134086976262 tw14028665700416081440 tw12995451849337607030 tw6620355970120814756 tw18093999233049282438 tw1739270577107216213 tw1428043620254283837 tw13087107985606094434 tw8917379177328848793 tw6019583439066510593 tw5713470492252188556 tw5159709492568436300 tw4869999469091935565 tw3598860920548028359 tw1460494645018099729 tw14255308383906310631 tw1356733319771191040 tw12965474572077885110 tw12258757014591431572 tw10734222728269849124 tw10468143295052081473 tw5458069524760304155 tw3751542948945368751 tw15440810587902439221 tw6162546683605310292 tw3465711031450741996 tw10348999145265381284 tw13047558255589474529 tw3248102891488541532 tw2485254543353681072 tw5572579723499786149 tw11882819905562693590 tw18295637346893841636 tw8586170382417781762 tw397938888033649996 tw11724516546785418162:True)
open PySem PySem.W PyProof.Rows L2 L3
set_option maxRecDepth 100000 in
set_option maxHeartbeats 0 in
theorem PySem.Challenge.cw_callboard_k62_clashes_holds : PySem.Challenge.rw_callboard_k62_clashes.Holds := by
 w_on;o_law;k_head;(case hw=>w_witness2)
 k_fill
 refine L3.Og (l:=PySem.Challenge.rw_callboard_k62_clashes) (sp:=Z.LR) (k:=17) (x:="_law_script") rfl rfl ⟨rfl,by decide,by decide⟩ (λw h Y=>PySem.W.kIn_of Y) (λns hl=>⟨ns,rfl,hl,rfl⟩) ?F;case F=>
  intro w mg fa h KX G hmg;suffices h:∃a:Z.Ad,Z.Gl _ mg a/\∀(s:Shared) (u:Value),BindsTo s a.aj.d ⟨[u],[]⟩ [("_law_script",u)]by obtain⟨a,g,hb⟩:=h;have e:=hmg.symm.trans g.aj.mg;cases e;exact⟨a.aj.d,hb,λbase _ _=>g.aj.pe ▸ Z.SV g⟩
  refine'⟨⟨_,_,_,_,_,_,_,_,_,_,_,_,_,_,_,_,_,_,_,_,_,_,_,_,_,_,_,_,_,_,_,_,_,_,_,_,_,_,_,_,_,_,_,_,_,_,_,_,_,_,_,_,_,_,_,_,_,_,_,_,_,_,_,_,_,_,_,_,_,_,_,_,_,_,_,_,_,_,_,_,_,_,_,_,_,_,_,_,_,_,_,_,_,_,_,_,_,_,_,_,_,_,_,_,_,_,_,_,_,_,_,_,_,_,_,_,_,_,_,_,_,_,_,_,_,_,_,_,_,_,_,_,_,_,_,_⟩,⟨wI KX G ..,wI KX G ..,wI KX G ..,wI KX G ..,wI KX G ..,wI KX G ..,wI KX G ..,wI KX G ..,wI KX G ..,wI KX G ..,wI KX G ..,wI KX G ..,wI KX G ..,PySem.W.mg_of KX G ?_,PySem.W.mg_of KX G ?_,ql KX G ..,ql KX G ..,ql KX G ..,ql KX G ..,ql KX G ..,ql KX G ..,ql KX G ..,ql KX G ..,ql KX G ..,ql KX G ..,ql KX G ..,ql KX G ..,ql KX G ..,ql KX G ..,ql KX G ..,ql KX G ..,ql KX G ..,ql KX G ..,ql KX G ..,ql KX G ..,ql KX G ..,ql KX G ..,ql KX G ..,ql KX G ..,ql KX G ..,ql KX G ..,ql KX G ..,ql KX G ..,ql KX G ..,ql KX G ..,ql KX G ..,ql KX G ..,ql KX G ..,ql KX G ..,ql KX G ..,ql KX G ..,ql KX G ..,ql KX G ..,ql KX G ..,ql KX G ..,ql KX G ..,ql KX G ..,ql KX G ..,ql KX G ..,ql KX G ..,ql KX G ..,ql KX G ..,ql KX G ..,ql KX G ..,ql KX G ..,ql KX G ..,ql KX G ..,ql KX G ..,ql KX G ..,ql KX G ..,ql KX G ..,ql KX G ..,ql KX G ..,ql KX G ..,ql KX G ..,ql KX G ..,ql KX G ..,ql KX G ..,ql KX G ..,ql KX G ..,pY ..,pY ..,pY ..,pY ..,pY ..,pY ..,pY ..,pY ..,pY ..,pY ..,pY ..,pY ..,pY ..,pY ..,pY ..,pY ..,pY ..,pY ..,pY ..,pY ..,pY ..,pY ..,pY ..,pY ..,pY ..,pY ..,pY ..,pY ..,pY ..,pY ..,pY ..,pY ..,pY ..,pY ..,pY ..,pY ..,pY ..,pY ..,pY ..,pY ..,pY ..,pY ..,pY ..,pY ..,pY ..,pY ..,pY ..,pY ..,pY ..,pY ..,pY ..,pY ..,pY ..,pY ..,pY ..,pY ..,L1 ?_ ?_ ?_ ?_ ?_ ?_ ?_ ?_ ?_ ?_,KW ?_ ?_ ?_,Pv ?_ ?_ ?_ ?_,⟨?_,?_,?_,?_⟩,⟨?_,?_,?_,?_⟩,⟨?_,?_,?_,?_⟩,⟨?_,?_,?_,?_⟩,⟨?_,?_,?_,?_⟩,⟨?_,?_,?_,?_⟩,⟨?_,?_,?_,?_⟩,⟨?_,?_,?_,?_⟩,⟨?_,?_,?_,?_⟩,⟨?_,?_,?_,?_⟩,⟨?_,?_,?_,?_⟩,⟨?_,?_,?_⟩,⟨?_,?_,?_⟩,⟨?_,?_,?_⟩,⟨?_,?_,?_⟩,⟨?_,?_,?_⟩,⟨?_,?_,?_⟩,⟨?_,?_,?_⟩,⟨?_,?_,?_⟩,⟨?_,?_,?_⟩,⟨?_,?_,?_⟩,⟨?_,?_,?_⟩,⟨?_,?_,?_⟩,⟨?_,?_,?_⟩,⟨?_,?_,?_⟩,⟨?_,?_,?_⟩,⟨?_,?_,?_⟩,⟨?_,?_,?_⟩,⟨?_,?_,?_⟩,⟨?_,?_,?_⟩,⟨?_,?_,?_⟩,⟨?_,?_,?_⟩,(pQ ?_ (pQ ?_ (pQ ?_ (pQ ?_ (pQ ?_ (pQ ?_ (pQ ?_ (pQ ?_ tE)))))))),(pQ ?_ (pQ ?_ (pQ ?_ (pQ ?_ (pQ ?_ (pQ ?_ tE)))))),(pQ ?_ (pQ ?_ (pQ ?_ tE))),(pQ ?_ (pQ ?_ (pQ ?_ tE))),(pQ ?_ (pQ ?_ (pQ ?_ tE))),(pQ ?_ (pQ ?_ (pQ ?_ (pQ ?_ (pQ ?_ tE))))),(pQ ?_ (pQ ?_ (pQ ?_ tE))),(pQ ?_ (pQ ?_ (pQ ?_ (pQ ?_ tE)))),(pQ ?_ (pQ ?_ tE)),(pQ ?_ (pQ ?_ tE)),(pQ ?_ (pQ ?_ (pQ ?_ (pQ ?_ (pQ ?_ (pQ ?_ (pQ ?_ (pQ ?_ tE)))))))),Gm,Gm,N0 II ?_ (λ_=>rfl),N0 II ?_ (λ_=>rfl),PySem.W.mg_none_of KX G ?_,PySem.W.mg_none_of KX G ?_,PySem.W.mg_none_of KX G ?_,PySem.W.mg_none_of KX G ?_,PySem.W.mg_none_of KX G ?_,PySem.W.mg_none_of KX G ?_,PySem.W.mg_none_of KX G ?_,PySem.W.mg_none_of KX G ?_,PySem.W.mg_none_of KX G ?_,PySem.W.mg_none_of KX G ?_,PySem.W.mg_none_of KX G ?_,PySem.W.mg_none_of KX G ?_,PySem.W.mg_none_of KX G ?_,we (PySem.W.mg_of KX G ?_),we (PySem.W.mg_of KX G ?_),we (PySem.W.mg_of KX G ?_),we (PySem.W.mg_of KX G ?_),Py (PySem.W.mg_of KX G ?_) (uz (ss:=["all","turns"]) ?_ (.cons ⟨_,rfl⟩ (.cons ⟨_,rfl⟩ .nil)) (Nat.le_of_ble_eq_true rfl)),we (PySem.W.mg_of KX G ?_),we (PySem.W.mg_of KX G ?_),we (PySem.W.mg_of KX G ?_),SU (PySem.W.mg_of KX G ?_),Qj (es:=[⟨_,.str "bar" _,.ref _⟩,⟨_,.str "shut" _,.ref _⟩,⟨_,.str "always" _,.ref _⟩,⟨_,.str "night" _,.ref _⟩,⟨_,.str "busy" _,.ref _⟩,⟨_,.str "silent" _,.ref _⟩,⟨_,.str "wait" _,.ref _⟩,⟨_,.str "breaks" _,.ref _⟩]) (PySem.W.mg_of KX G ?_) ?_ ?_ (.cons rfl ⟨_,rfl,(uz (ss:=["phone","names"]) ?_ (.cons ⟨_,rfl⟩ (.cons ⟨_,rfl⟩ .nil)) (Nat.le_of_ble_eq_true rfl))⟩ (.cons rfl ⟨_,rfl,(uz (ss:=["name","phones"]) ?_ (.cons ⟨_,rfl⟩ (.cons ⟨_,rfl⟩ .nil)) (Nat.le_of_ble_eq_true rfl))⟩ (.cons rfl ⟨_,rfl,(uz (ss:=["name","name"]) ?_ (.cons ⟨_,rfl⟩ (.cons ⟨_,rfl⟩ .nil)) (Nat.le_of_ble_eq_true rfl))⟩ (.cons rfl ⟨_,rfl,(uz (ss:=["name","name","hour","hour"]) ?_ (.cons ⟨_,rfl⟩ (.cons ⟨_,rfl⟩ (.cons ⟨_,rfl⟩ (.cons ⟨_,rfl⟩ .nil)))) (Nat.le_of_ble_eq_true rfl))⟩ (.cons rfl ⟨_,rfl,(uz (ss:=["name","name"]) ?_ (.cons ⟨_,rfl⟩ (.cons ⟨_,rfl⟩ .nil)) (Nat.le_of_ble_eq_true rfl))⟩ (.cons rfl ⟨_,rfl,(uz (ss:=["name","name","turns"]) ?_ (.cons ⟨_,rfl⟩ (.cons ⟨_,rfl⟩ (.cons ⟨_,rfl⟩ .nil))) (Nat.le_of_ble_eq_true rfl))⟩ (.cons rfl ⟨_,rfl,(uz (ss:=["phone"]) ?_ (.cons ⟨_,rfl⟩ .nil) (Nat.le_of_ble_eq_true rfl))⟩ (.cons rfl ⟨_,rfl,(uz (ss:=["phone"]) ?_ (.cons ⟨_,rfl⟩ .nil) (Nat.le_of_ble_eq_true rfl))⟩ .nil)))))))),we (PySem.W.mg_of KX G ?_),we (PySem.W.mg_of KX G ?_),we (PySem.W.mg_of KX G ?_)⟩,λs u=>.of_eq rfl⟩
  all_goals try first|k_is|(intro _ _ _ _ _ _ us hl;rcases us with _|⟨_,_|⟨_,_|⟨_,_|⟨_,_|⟨_,_|⟨_,_|⟨_,us⟩⟩⟩⟩⟩⟩⟩<;>first|rfl|(exfalso;revert hl;simp;done))|rfl
