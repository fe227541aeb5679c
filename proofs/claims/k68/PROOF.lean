import PyProof.Rows.All
import Wide.All
import OpenK.AllK
import Wide.FinOn
import PyProof.EqAt
import PyProof.EqKinds
import PyProof.TupleCall
import PyProof.AttrMiss
import PyProof.IsiH_list
import PyProof.Rows.SetFrom
import KE.KDictOf
import KE.KTab
import PyProof.AutoListH
import KE.KSortTup
import KE.KItemsList
import KE.KEqDict
import KE.KIntText
import Lean
import PyProof.RulesRaise
import PyProof.RulesTry
import KE.KTryDeep
import KE.KTryMore
import KE.KTryOn
import KE.TryInHelper
import KE.TryLedger
import PyProof.ExcArgsOwn
import PyProof.ExcAttrAll.ValueError
import KE.KIsAll
import PyProof.ExcBaseAll.ValueError
import PyProof.InstStoreFacts
import PyProof.ExcInit
import PyProof.SeqI3
import PyProof.ConsumeWalk
import PySem.Challenge.RW_callboard_k68_what_if
set_option genInjectivity false
set_option genSizeOfSpec false
set_option genSizeOf false
set_option Elab.async false
set_option linter.all false
set_option maxRecDepth 100000
set_option maxHeartbeats 4000000
noncomputable section
open LawfulBEq renaming eq_of_beq->dL
open List renaming length_map->cX,getElem?_eq_getElem->cZ,length_append->c9,getElem?_eq_some_iff->de,mem_cons->dz,size_toArray->dA,mem_singleton->dB,mem_cons_of_mem->dD,mem_map->dF,getElem?_map->dG,mem_cons_self->dH,length_singleton->dI,length_nil->dN,map_append->dP,mem_append_right->dR,mem_append->dS,nodup_cons->dW,not_mem_nil->dX,map_cons->d6,nil_append->d9,map_map->eA,length_range->eD,length_cons->eE,all_eq_true->eF,mem_append_left->eI,lookup_cons->eJ,replicate_succ->eL,nodup_nil->eM,append_nil->eN,getElem?_append_right->eY,getElem?_append_left->e9,length_take->fg,take_length->fh,append_assoc->fm,mem_of_getElem?->ft,all_cons->fv,cons_ne_nil->fA,length_pos_iff->fB,getElem?_set_ne->fE,getElem?_set_self->fF,mem_filter->fL,find?_cons->fM,flatten_cons->fP,mem_range->fU,take_add_one->fX,foldl_cons->fY,filterMap_cons->gb,filter_sublist->gc,any_cons->gg,getD_eq_getElem?_getD->gh,exists_cons_of_ne_nil->gj,length_filter_le->gk,length_modify->gm,mem_of_find?_eq_some->gp,nodup_append->gu,length_eq_zero_iff->gw,map_congr_left->gy,length_drop->gz,any_eq_true->gB,filter_cons->gC,reverse_cons->gI,getLast?_eq_none_iff->gL,getElem_mem->gO,getElem_of_mem->gQ,filter_map->gW,find?_eq_none->gX,take_of_length_le->gZ,findIdx?_map->hU,getElem?_eq_none->h9,mem_of_mem_take->ig,length_set->im,drop_eq_getElem_cons->io,getElem?_zip_eq_some->ip,range_succ->iq,filter_nil->ir,getLastD_eq_getLast?->iw,contains_cons->iF,any_map->iG,filter_append->iI,length_mapIdx->iK,filter_cons_of_pos->iM,filter_cons_of_neg->iN,getElem?_cons_zero->iO,findIdx?_eq_some_iff_getElem->iU,length_replicate->iW,getElem?_toArray->iX,map_nil->ja,all_map->jc,mem_of_getLast?->jf,dropLast_subset->jg,getElem?_modify->jh,getElem?_range->jj,map_id->jp,any_eq_false->jx,foldl_append->jz,sublist_append_right->jE,pairwise_iff_getElem->jF,getLast?_eq_getElem?->jG,findIdx?_eq_none_iff->jI,drop_length->jO,set_set->jP,eq_of_mem_replicate->jS,getElem?_replicate->jT,of_mem_zip->jY,forIn_cons->jZ,forIn_nil->ke,drop_zero->kq,set_append_right->kt,reverse_reverse->kC,mem_of_mem_drop->kD,map_drop->kK,filter_eq_self->kQ,modify_eq_self->kS,mem_filterMap->kX,getElem_range->lz,set_cons_succ->lA,mapIdx_concat->lC,filter_congr->lN,getElem_inj->lV,zipIdx_cons->mf,getElem_map->mo,zipIdx_nil->mx,any_append->mz,find?_some->mB,map_take->mF,map_set->mL
open PySem renaming wpAny_bind->cY,wpAny_pure->dv,sizeLine_eq->dO,wpAny_mono->eB,wpAny_holding->eX,wpAny_field->fj,wpAny_truthy_bool->fk,wpAny_callSpecial?_slot->fN,wpAny_Call_Name_kw->fS,wpAny_call_entry->fT,wpAny_newObj_type->fV,codeAny_mono->gq,wpAny_seqItems->gA,wpAny_setField_rec->gF,wpAny_passesOwn->gG,mem_of_lookup->gP,wpAny_execs_nil->gR,codeAny_builtin->gT,wpAny_pyIter_list->g9,wpAny_loadPart_at->hJ,wpAny_setField->ia,wpAny_standAt->ii,wpAny_pyIter_tuple->iE,wpAny_call->iL,plainObj_wpAny_Assign_Attribute->iY,call_meets->i9,codeAny_call_builtin->jb,wpAny_updateSeq_pair->jd,isSubtype_type->jn,tupleKind_room_in1->jq,slot_dict_contains->js,wpAny_onRaise->jw,wpAny_sequenceKey->jy,wpAny_execs_cons->jJ,wpAny_typeOf->jL,wpAny_comprehension_free->jN,wpAny_Call_method0_late->jV,codeAny_of_tree->j4,wpAny_specialOf->j5,builtinLookup_eq_fast->kg,weight_type_call_type->kl,getitemInPython_of_ne->km,wpAny_rule->ky,wpAny_letTemporaryGo->kA,plainId_quiet->kH,evalArgs_none->kN,wpAny_isSubtype_exc->kP,concat_meets->kY,seqIndex_neg->k9,wpAny_assign_Name->lD,wpAny_Assign_Name->lE,slot_list_getitem->lG,slot_dict_getitem->lJ,wpAny_pyIter_enum->lK,seqIndex_of->lP,wpAny_letGo->lQ,wpAny_pyHash_str->lT,wpAny_eqBool_int->lU,wpAny_lookBehind->lW,pastItsLine_dict->lX,noFill_tuple_add->lZ,check_set_init_1->me,wpAny_pyIter_zip->mi,wpAny_Name->mq,typeIs_int->mv,Addr->Uf,sizeLine->Ch,wpAny->pi,model->Tk,starEach->Tl,bootBuiltins->zn,Expr->Go,Heap->No,eval->wp,compareOp->Op,attributeBase->Ps,keywordEach->Rs,mainGlobals->At,FuncData->Ix,backTo->xz,holding->sB,Stmt->ZB,IsPair->TD,swapsWith->wE,backToKw->IN,assignEach->wP,binaryOp->wS,NameKind->wT,behindInMarks->AT,foldedSetIterable->XV,sysModules->TW,getMethod->o0,ExcBaseFacts->u8,rawInt->Y',cLine->XXa,scanBound->XXb,excClassObj->XXc,standAt->XXd,Scope->XXe,Keyword->XXf,getItem->XXg,sliceBounds->XXh,callWith->XXi,letOwnedTupleGo->XXj,codeAny->XXk,IsZip->XYa,Operator->XYc
def df:=@if_neg
def dh:=@if_pos
def d4:=@decide_eq_true
def eC:=@decide_eq_true_eq
def eQ:=@decide_eq_false
def eR:=@congrArg
def eZ:=@beq_iff_eq
def fH:=@beq_self_eq_true
def fQ:=@of_decide_eq_true
def fR:=@or_false
def gx:=@beq_eq_false_iff_ne
def gN:=@not_or
def jm:=@if_true
def kx:=@if_false
def lM:=@bne_self_eq_false
open PySem.Heap renaming get?_push_of_some->dg,lt_size->dC,get?_push_size->dJ,size_push->fu,get?_update_self->fK,get?_update_other->gf,get?_none_of_le->gK,get?_push_ne->iS,size_update->iV,get?_update_ne->jk
open Option.some renaming inj->dq,injEq->jA
open Nat renaming le_refl->dw,ne_of_lt->dM,lt_of_lt_of_le->dU,le_trans->eh,zero_le->eO,lt_irrefl->eW,lt_succ_self->fG,lt_succ_of_lt->fW,ne_of_gt->gM,le_succ->gY,le_of_lt->hW,sub_self->ib,succ_le_succ->ie,min_eq_left->iu,lt_trans->iz,lt_of_le_of_lt->iJ,le_succ_of_le->jB,le_of_not_lt->jM,mul_le_mul->ko,sub_zero->lh,zero_add->lj,le_of_eq->mH,succ_mul->mJ,min_self->mK,succ_pos->mM
open Bool renaming false_ne_true->dE,eq_false_iff->dQ,and_eq_true->dY,true_and->eK,false_and->eV,false_or->fO,eq_iff_iff->fZ,not_eq_true'->gJ,or_eq_true->gU,true_or->hZ,not_eq_false->jC,or_false->kG,false_eq_true->ls,or_true->ly,beq_comm->mE,true->Db,false->pc
open Ne renaming symm->dZ
open Int renaming eq_ofNat_of_zero_le->eG,emod_lt_of_pos->eP,emod_nonneg->eU,toNat_natCast->iQ,mul_le_mul_of_nonneg_left->ji,emod_add_mul_ediv->kr,zero_add->lB
open PySem.PassesOwn renaming never->fi
open PySem.F renaming called_set->fz,slot_tuple_iterator_next->gH,slot_list_getattribute->iA,slot_zip_next->je,args_tuple_iterator_next_1->jo,entry_tuple_iterator_next->jt,slot_dict_getitem->jD,args_tuple_add_2->jK,store_ValueError->jR,entry_tuple_add->jU,plainAttrs_list->jW,slot_dict_items->jX,slot_tuple_add->j8,excBase_ValueError->kB,entry_type_call->lH,args_zip_next_1->lL,typeCall_set_1->l8,entry_set_init->ma,entry_zip_next->mh,slot_int_rmul->mw
open PyProof.Rows renaming callWith_type1->fC,slot_tuple_getitem->fD,callWith_builtin1->gS,SetOf_congr->iC,setObjOf_fresh->jr,subscriptTail_builtinR->j9,listUpdate_at->kI,entry_tuple_getitem->kM,args_tuple_getitem->kZ,seqEpoch_at->lR,size_push'->my,seqObj->sK,envOfC->xL,AllBare->XYb
open Option renaming isSome_iff_exists->fJ,isSome_map->iR,map_some->j3,map_eq_some_iff->kc,getD_none->l0,bind_some->mj,some->ga,none->Fa
open List.cons renaming inj->gi
open PySem.W renaming kia_one->gv,callWith_K->iZ,methodCall_KW->j6,plainGet_of->kE,looks_clsIn->kF,kitx_list->lO,cellsFrom_some->lY,looks_findIn->mC
open PyProof.Rows.F renaming plain_set_update_loop->gD,entry_set_update_loop->iB
open PySem.Around renaming under_plainId->ic,under_plain->lb
open Array renaming getElem?_setIfInBounds_self_of_lt->ik,length_toList->il,toList_append->jl,size_setIfInBounds->jQ,mem_toList_iff->ku,append_assoc->kW
open PySem.Calls renaming spliced_cons->iy,spliced_nil->iP,callWith_builtin->iT,Name_function_global->jv
open PySem.Code renaming quiet_builtin->iD
open List.Nodup renaming sublist->iH
open PySem.Paired renaming length->ju,snoc->mP
open Sum.inr renaming inj->j7
open PySem.Walks renaming list->kz
open PySem.Heap.SameBut renaming update->kO
open PySem.SeqAt.EqAt renaming int_str->kT,str_int->kU
open PySem.Obj renaming data_mapFields->lq
open PySem.Heap.Ns1 renaming of_empty->lF
open Eq renaming symm->mD
open PySem.W.Looks renaming here->mG
open Prod renaming ext->mI
open PySem.Heap.FunFrames renaming of_keeps->mO
open PySem.Moved renaming trans->mQ
open PySem.Heap.IsSliceOf renaming new->mR
abbrev qJ:=PySem.W.Frag
local macro_rules | `(tactic| walk_at "l") => `(tactic| (intro _ _ _ h; repeat (first | (obtain ⟨e, _⟩ := h; subst e; rfl; done) | (cases h; rename_i h))))
local macro_rules | `(tactic| walk_at "m") => `(tactic| (intro _ _ _ _ h; repeat (first | (obtain ⟨e, _⟩ := h; subst e; rfl; done) | (cases h; rename_i h))))
abbrev Vl:=PySem.Value
abbrev Sd:=PySem.Shared
abbrev Pg:=PySem.Program
abbrev Ar:=PySem.Around
theorem Z'{α:Sort _}{a:α}:a=a:=rfl
abbrev Wo:=PySem.World
abbrev T0(α:Type _):=List α
abbrev QQQ:=List PySem.Str
abbrev QQX:=PySem.Value->PySem.Shared->Prop
abbrev QQY:=List (PySem.Addr×PySem.Obj)
abbrev QQZ:=PySem.Str->Option PySem.Value
abbrev QXQ:=List PySem.Addr
section
open PySem PySem.Spec PyProof.Rows
namespace L2
def x5{α:Sort u}{β:Sort v}{p q r:α->β->Prop}{C:Prop}(h:∃a b,p a b/\q a b/\r a b)(f:∀a b,p a b->q a b->r a b->C):C:=by obtain⟨a,b,h1,h2,h3⟩:=h;exact f a b h1 h2 h3
abbrev rM:=Sum Int Str
noncomputable def Ct:rM->Vl->Bool
 | .inl k,v=>Value.isInt k v
 | .inr x,v=>Value.isStrOf x v
noncomputable def W0(w:Wo):rM->Int
 | .inl k=>hashInt k
 | .inr x=>hashStr w x
def sH:∀{k:rM} {v:Vl},Ct k v=Db->(∃i t,k=Sum.inl i/\v=Value.int i t)\/(∃x t,k=Sum.inr x/\v=Value.str x t)
 | .inl i,v,h=>by obtain⟨t,e⟩:=Value.isInt_shape (k:=i) (v:=v) h;exact .inl ⟨i,t,Z',e⟩
 | .inr x,v,h=>by obtain⟨t,e⟩:=Value.isStrOf_shape (x:=x) (v:=v) h;exact .inr ⟨x,t,Z',e⟩
def Le(i:Int)(t:Tok):Ct (.inl i) (.int i t)=Db:=by simp[Ct,Value.isInt]
def Lc(x:Str)(t:Tok):Ct (.inr x) (.str x t)=Db:=by simp[Ct,Value.isStrOf]
def TM(a b:Int):decide ((Sum.inl a:rM)=Sum.inl b)=(a==b):=by
 by_cases e:a=b
 .subst e;simp
 .have h:¬(Sum.inl a:rM)=Sum.inl b:=λq=>e (Sum.inl.inj q);rw[eQ h];exact(gx.mpr e).symm
def SX(a b:Str):decide ((Sum.inr a:rM)=Sum.inr b)=decide (a=b):=by
 by_cases e:a=b
 .subst e;simp
 .have h:¬(Sum.inr a:rM)=Sum.inr b:=λq=>e (j7 q);rw[eQ h,eQ e]
def To(a:Int)(b:Str):decide ((Sum.inl a:rM)=Sum.inr b)=pc:=eQ (λq=>nomatch q)
def Uy(a:Str)(b:Int):decide ((Sum.inr a:rM)=Sum.inl b)=pc:=eQ (λq=>nomatch q)
noncomputable def rW(prog:Pg)(w:Wo):PySem.KeyKind prog w rM where
 is:=Ct
 hash:=W0 w
 inj:=λv a b ha hb=>by
  rcases sH ha with⟨i,t,rfl,rfl⟩|⟨x,t,rfl,rfl⟩
  .rcases sH hb with⟨j,u,rfl,e⟩|⟨y,u,rfl,e⟩
   .injection e with e1 _;rw[e1]
   .exact nomatch e
  .rcases sH hb with⟨j,u,rfl,e⟩|⟨y,u,rfl,e⟩
   .exact nomatch e
   .injection e with e1 _;rw[e1]
 byValue:=λk v h=>by rcases sH h with⟨i,t,rfl,rfl⟩|⟨x,t,rfl,rfl⟩<;>rfl
 pyHash:=λhv h=>by
  rcases sH hv with⟨i,t,rfl,rfl⟩|⟨x,t,rfl,rfl⟩
  .exact wpAny_pyHash_int h
  .exact lT h
 eqBool:=λhu hv h=>by
  rcases sH hu with⟨i,t,rfl,rfl⟩|⟨x,t,rfl,rfl⟩
  .rcases sH hv with⟨j,u,rfl,rfl⟩|⟨y,u,rfl,rfl⟩
   .rw[TM]at h;exact lU h
   .rw[To]at h;exact kT i t y u _ _ _ _ h
  .rcases sH hv with⟨j,u,rfl,rfl⟩|⟨y,u,rfl,rfl⟩
   .rw[Uy]at h;exact kU x t j u _ _ _ _ h
   .rw[SX]at h;exact wpAny_eqBool_str h
 «strs»:=λk x t v h=>by
  rcases sH h with⟨i,u,rfl,e⟩|⟨y,u,rfl,e⟩
  .exact nomatch e
  .injection e with e1 _
   subst e1;cases v<;>rfl
def HB(prog:Pg)(w:Wo)(i:Int)(t:Tok):(rW prog w).is (.inl i) (.int i t)=Db:=Le i t
def Bk(prog:Pg)(w:Wo)(x:Str)(t:Tok):(rW prog w).is (.inr x) (.str x t)=Db:=Lc x t
inductive V where
 | mY|bl (b:Bool)|int (i:Int)|str (x:Str)|byt (b:Array UInt8)|flt (b:UInt64)|ref (a:Uf)|ty (n:String)
 deriving DecidableEq
def rA:V->Vl->Prop
 | .mY,u=>u=Value.none
 | .bl b,u=>u=Value.bool b
 | .int i,u=>∃t,u=Value.int i t
 | .str x,u=>∃t,u=Value.str x t
 | .byt b,u=>∃t,u=Value.bytes b t
 | .flt b,u=>∃t,u=Value.float b t
 | .ref a,u=>u=Value.ref a
 | .ty n,u=>u=Value.type n
abbrev qL:T0 V->T0 Vl->Prop:=Paired rA
def qL.length(r:qL xs us):xs.length=us.length:=ju r
theorem qL.get:∀{xs:T0 V} {us:T0 Vl} {i:Nat} {x:V},qL xs us->xs[i]?=ga x->∃u,us[i]?=ga u/\rA x u
 | _,_,_,_,.nil,e=>by simp at e
 | _,_,0,_,.cons r _,e=>by simp at e;subst e;exact⟨_,Z',r⟩
 | _,_,i+1,x,.cons _ t,e=>by obtain⟨u,h1,h2⟩:=qL.get (i:=i) (x:=x) t (by simpa using e);exact⟨u,by simpa using h1,h2⟩
theorem qL.set(r:rA x u):∀{xs:T0 V} {us:T0 Vl} (i:Nat),qL xs us->qL (xs.set i x) (us.set i u)
 | _,_,_,.nil=>.nil
 | _,_,0,.cons _ t=>.cons r t
 | _,_,i+1,.cons q t=>.cons q (qL.set r i t)
theorem qL.append:∀{xs ys:T0 V} {us ws:T0 Vl},qL xs us->qL ys ws->qL (xs++ys) (us++ws)
 | _,_,_,_,.nil,s=>s
 | _,_,_,_,.cons r t,s=>.cons r (qL.append t s)
theorem qL.take:∀{xs:T0 V} {us:T0 Vl} (n:Nat),qL xs us->qL (xs.take n) (us.take n)
 | _,_,0,_=>.nil
 | _,_,_+1,.nil=>.nil
 | _,_,n+1,.cons r t=>.cons r (qL.take n t)
theorem qL.drop:∀{xs:T0 V} {us:T0 Vl} (n:Nat),qL xs us->qL (xs.drop n) (us.drop n)
 | _,_,0,r=>r
 | _,_,_+1,.nil=>.nil
 | _,_,n+1,.cons _ t=>qL.drop n t
def yR:Option V->Option Vl->Prop
 | some v,ga u=>rA v u
 | none,none=>True
 | _,_=>False
def KV{κ:Type}:T0 (κ×V)->T0 (κ×Vl)->Prop:=Paired λ(p:κ×V) (q:κ×Vl)=>p.1=q.1/\rA p.2 q.2
noncomputable def kV:rM->V
 | .inl i=>.int i
 | .inr x=>.str x
inductive HO where
 | lst (xs:List V)
 | tup (xs:List V)
 | dK (kvs:List (rM×V))|dT (kvs:List (List rM×V))
 | set (S:Int->Bool) (n:Nat)
 | ins (C dx:Uf) (fs:List (Str×V))
 | own (x:Uf)
 | xd (fs:List (Str×V))
 | met (f x:Uf)
 | rng (lo hi:Int)
 | frz (o:Obj) (u:HO)
 | tbl (ps:Array Vl)
 | ext (φ:No->Prop)
abbrev Hp:=Uf->Option HO
noncomputable def upd(H:Hp)(a:Uf)(o:HO):Hp:=λb=>if b=a then ga o else H b
def qC:upd H a o a=ga o:=by unfold upd;rw[dh Z']
def qv{a b:Uf}(h:b≠a):upd H a o b=H b:=by unfold upd;rw[df h]
def PQ:upd (upd H a o) a u=upd H a u:=by funext b;unfold upd;split<;>rfl
def VZ{H:Hp}{a b:Uf}{o u:HO}(h:H a=ga o)(h':H b=ga u)(d:o≠u):a≠b:=by intro e;subst e;rw[h]at h';exact d (dq h')
def rE{H:Hp}{a b:Uf}{o:HO}(h:H a=ga o)(h':H b=Fa):a≠b:=by intro e;subst e;rw[h]at h';cases h'
section
variable (P:Pg)(w:Wo)
def FN(h:No)(a:Uf)(its:Array Vl):Prop:=∃o,h.get? a=ga o/\o.cls=.type "tuple"/\(∃n,o.data=.seq its n)/\o.dict=Fa
def sQ(H:Hp)(h:No)(a:Uf):HO->Prop
 | .lst xs=>xs.length<=Ch/\∃(its:T0 Vl) (n:Nat),qL xs its/\h.get? a=ga {cls:=.type "list",data:=.seq its.toArray n}
 | .tup xs=>xs.length<=Ch/\∃its:T0 Vl,qL xs its/\FN h a its.toArray
 | .dK kvs=>kvs.length<=Ch/\(a==TW)=pc/\∃vs,KV kvs vs/\h.DictOf (rW P w) a vs
 | .dT kvs=>kvs.length<=Ch/\(a==TW)=pc/\∃xs:T0 (List rM×Uf×Vl),Paired (λ(p:List rM×V) (q:List rM×Uf×Vl)=>p.1=q.1/\H q.2.1=ga (.tup (p.1.map kV))/\rA p.2 q.2.2) kvs xs/\
   ∃o es ep,h.get? a=ga o/\o.ExactDict/\o.data=.dict es ep/\es.toList=xs.map (entryOfKey (tupleKind (rW P w)))/\(xs.map (·.1)).Nodup
 | .set S n=>h.SetOf (intKind P w) a S n
 | .ins C dx fs=>H dx=ga (.own a)/\fs.length<=1000/\dx≠a/\h.get? a=ga (W.instObj C dx)/\
   ∃mA,h.Ns1 dx mA/\(∀f,yR (fs.lookup f) (mA f))/\PySem.Within mA (fs.map (·.1))
 | .own _=>∃o,h.get? a=ga o
 | .xd fs=>∃mA,h.Ns1 a mA/\∀f,yR (fs.lookup f) (mA f)
 | .rng lo hi=>∃t u v,h.get? a=ga {cls:=.type "range",data:=.fields #[.int lo t,.int hi u,.int 1 v]}
 | .frz o u=>h.get? a=ga o/\sQ H h a u
 | .tbl ps=>h.get? a=ga {cls:=.none,data:=.fields ps}
 | .met f x=>h.get? a=ga (W.methodObj (.ref f) (.ref x))
 | .ext φ=>φ h/\(∃o,h.get? a=ga o)/\∀h1 h2:No,φ h1->(∀o,h1.get? a=ga o->h2.get? a=ga o)->φ h2
def yU(H:Hp)(h:No):Prop:=∀a o,H a=ga o->sQ P w H h a o
end
variable {H H':Hp}{h h':No}
section
variable {P:Pg}{w:Wo}{a:Uf}{o:HO}
def FN.is(x:FN h a its):IsTup h a its:=let⟨o,e,c,d,_⟩:=x;⟨o,e,c,d⟩
def FN.new(h:No)(Yk:Array Vl):FN (h.push {cls:=.type "tuple",data:=.seq Yk}) h.objs.size Yk:=⟨_,dJ _ Z',Z',⟨_,Z'⟩,Z'⟩
def sQ.lt(x:sQ P w H h a o):a<h.objs.size:=by
 cases o with
 | lst xs=>obtain⟨_,_,_,_,e⟩:=x;exact dC e
 | tup xs=>obtain⟨_,_,_,_,e,_⟩:=x;exact dC e
 | dK kvs=>obtain⟨_,_,_,_,o,_,_,e,_⟩:=x;exact dC e
 | dT kvs=>obtain⟨_,_,_,_,o,_,_,e,_⟩:=x;exact dC e
 | set S n=>obtain⟨o,_,_,_,e,_⟩:=x;exact dC e
 | ins C dx fs=>obtain⟨_,_,_,e,_⟩:=x;exact dC e
 | own y=>obtain⟨_,e⟩:=x;exact dC e
 | xd fs=>obtain⟨_,⟨_,_,_,e,_⟩,_⟩:=x;exact dC e
 | rng lo hi=>obtain⟨_,_,_,e⟩:=x;exact dC e
 | frz ob u=>obtain⟨e,_⟩:=x;exact dC e
 | tbl ps=>exact dC (show h.get? a=ga _ from x)
 | met f y=>exact dC (show h.get? a=ga _ from x)
 | ext φ=>obtain⟨_,⟨_,e⟩,_⟩:=x;exact dC e
theorem Paired.oO{α β:Type}{F G:α->β->Prop}:∀{l₁:List α} {l₂:List β},Paired F l₁ l₂->(∀a b,F a b->G a b)->Paired G l₁ l₂
 | _,_,.nil,_=>.nil
 | _,_,.cons r t,f=>.cons (f _ _ r) (Paired.oO t f)
def sQ.nH(x:sQ P w H h a o)(k:∀b u,(b=a\/H b=ga (.own a))->h.get? b=ga u->h'.get? b=ga u) (ho:∀b,H b=ga (.own a)->H' b=ga (.own a)) (ht:∀b xs,H b=ga (.tup xs)->H' b=ga (.tup xs)):sQ P w H' h' a o:=by
 induction o with
 | lst xs=>obtain⟨z,its,n,r,e⟩:=x;exact⟨z,its,n,r,k _ _ (.inl Z') e⟩
 | tup xs=>obtain⟨z,its,r,ob,e,c⟩:=x;exact⟨z,its,r,ob,k _ _ (.inl Z') e,c⟩
 | dK kvs=>obtain⟨z,y,vs,r,ob,es,ep,e,c⟩:=x;exact⟨z,y,vs,r,ob,es,ep,k _ _ (.inl Z') e,c⟩
 | dT kvs=>obtain⟨z,y,xs,r,ob,es,ep,e,c⟩:=x;exact⟨z,y,xs,Paired.oO r λp q z=>⟨z.1,ht _ _ z.2.1,z.2.2⟩,ob,es,ep,k _ _ (.inl Z') e,c⟩
 | set S n=>obtain⟨ob,es,ep,t,e,c⟩:=x;exact⟨ob,es,ep,t,k _ _ (.inl Z') e,c⟩
 | ins C dx fs=>obtain⟨d,z,ne,e,mA,⟨od,es,ep,e2,c⟩,r⟩:=x;exact⟨ho _ d,z,ne,k _ _ (.inl Z') e,mA,⟨od,es,ep,k _ _ (.inr d) e2,c⟩,r⟩
 | own y=>obtain⟨ob,e⟩:=x;exact⟨ob,k _ _ (.inl Z') e⟩
 | xd fs=>obtain⟨mA,⟨od,es,ep,e,c⟩,r⟩:=x;exact⟨mA,⟨od,es,ep,k _ _ (.inl Z') e,c⟩,r⟩
 | rng lo hi=>obtain⟨t,u,v,e⟩:=x;exact⟨t,u,v,k _ _ (.inl Z') e⟩
 | frz ob u ih=>obtain⟨e,q⟩:=x;exact⟨k _ _ (.inl Z') e,ih q⟩
 | tbl ps=>have e:h.get? a=ga {cls:=.none,data:=.fields ps}:=x;show h'.get? a=ga {cls:=.none,data:=.fields ps};exact k a _ (.inl Z') e
 | met f y=>have e:h.get? a=ga (W.methodObj (.ref f) (.ref y)):=x;show h'.get? a=ga (W.methodObj (.ref f) (.ref y));exact k a _ (.inl Z') e
 | ext φ=>obtain⟨p,⟨o,e⟩,st⟩:=x;exact⟨st _ _ p λo q=>k _ _ (.inl Z') q,⟨o,k _ _ (.inl Z') e⟩,st⟩
def yU.lt(x:yU P w H h)(e:H a=ga o):a<h.objs.size:=(x a o e).lt
def yU.fresh(x:yU P w H h)(e:h.objs.size<=a):H a=Fa:=by
 cases q:H a with
 | none=>rfl
 | some u=>exact absurd (dU (x.lt q) e) (eW _)
def yU.kept(x:yU P w H h)(k:∀b u,h.get? b=ga u->h'.get? b=ga u):yU P w H h':=λa o e=>(x a o e).nH (λb u _ q=>k b u q) (λ_ q=>q) λ_ _ q=>q
def yU.laid(x:yU P w H h)(k:∀b u,h.get? b=ga u->h'.get? b=ga u)(hp:h.objs.size<=a)(new:sQ P w (upd H a o) h' a o):yU P w (upd H a o) h':=λb u e=>by
 have hn:=x.fresh hp;by_cases hb:b=a
 .subst hb;rw[qC]at e;cases e;exact new
 .rw[qv hb]at e;exact(x b u e).nH (λc v _ q=>k c v q) (λc q=>by rw[qv (rE q hn)];exact q) λc xs q=>by rw[qv (rE q hn)];exact q
end
def Rd(H:Hp)(a:Uf)(u:HO):Prop:=H a=ga u\/∃o,H a=ga (.frz o u)
def Rd.ok(r:Rd H a u)(x:yU P w H h):sQ P w H h a u:=by
 rcases r with r|⟨o,r⟩
 .exact x a u r
 .obtain⟨_,q⟩:=x a _ r;exact q
def Vo:Option HO->Prop
 | some (.lst _)=>True
 | some (.dK _)=>True
 | some (.dT _)=>True
 | some (.set _ _)=>True
 | some (.ins _ _ _)=>True
 | some (.ext _)=>True
 | _=>False
variable {o':HO}
section
variable {P:Pg}{w:Wo}{x e:Uf}
def yU.write(ok:yU P w H h)(mu:Vo (H x))(he:e=x\/H e=ga (.own x))(k:∀b u,b≠e->h.get? b=ga u->h'.get? b=ga u)(heo:∃u,h'.get? e=ga u) (new:sQ P w (upd H x o') h' x o'):yU P w (upd H x o') h':=λb u q=>by
 have nown:∀c y,H c=ga (.own y)->c≠x:=λc y r z=>by subst z;rw[r]at mu;exact mu
 have ntup:∀c xs,H c=ga (.tup xs)->c≠x:=λc xs r z=>by subst z;rw[r]at mu;exact mu
 by_cases hb:b=x
 .subst hb;rw[qC]at q;cases q;exact new
 .rw[qv hb]at q;by_cases hbe:b=e
  .have q':H b=ga (.own x):=by
    rcases he with z|z
    .exact absurd (hbe.trans z) hb
    .rw[hbe];exact z
   rw[q]at q';cases q';obtain⟨v,hv⟩:=heo;exact⟨v,by rw[hbe];exact hv⟩
  .refine(ok b u q).nH (λc v hc r=>k c v ?_ r) (λc r=>by rw[qv (nown c b r)];exact r) λc xs r=>by rw[qv (ntup c xs r)];exact r
   rcases hc with rfl|hc
   .exact hbe
   .rintro rfl
    rcases he with z|z
    .exact nown c b hc z
    .rw[hc]at z;cases z;exact hb Z'
end
structure Un(fs ex:QXQ)(H H':Hp)(h h':No):Prop where
 keep:∀b o,h.get? b=ga o->H b=Fa->b∉fs->b∉ex->h'.get? b=ga o
 slot:∀b o,h.get? b=ga o->H b=Fa->b∈fs->b∉ex->∃sl,h'.get? b=ga {o with slots:=sl}
 free:∀b o,h.get? b=ga o->H b=Fa->b∉ex->H' b=Fa
 there:∀b o,h.get? b=ga o->b∉ex->∃o',h'.get? b=ga o'
 nQ:∀b xs,H b=ga (.tup xs)->H' b=ga (.tup xs)
 nK:∀b o u,H b=ga (.frz o u)->H' b=ga (.frz o u)
 nU:∀b ps,H b=ga (.tbl ps)->∃more,H' b=ga (.tbl (ps++more))
variable {ex ex':QXQ}{H1 H2:Hp}{h1 h2:No}
section
variable {fs fs':QXQ}{a x e:Uf}{o:HO}
def Un.any(u:Un fs ex H H1 h h1){b:Uf}{ob:Obj}(q:h.get? b=ga ob)(n:H b=Fa)(hx:b∉ex):∃sl,h1.get? b=ga {ob with slots:=sl}:=by
 by_cases hb:b∈fs
 .exact u.slot b ob q n hb hx
 .exact⟨ob.slots,u.keep b ob q n hb hx⟩
def Un.trans(a:Un fs ex H H1 h h1)(b:Un fs ex H1 H2 h1 h2):Un fs ex H H2 h h2 where
 keep:=λc ob q n hc hx=>b.keep c ob (a.keep c ob q n hc hx) (a.free c ob q n hx) hc hx
 slot:=λc ob q n hc hx=>by obtain⟨sl,e1⟩:=a.slot c ob q n hc hx;obtain⟨ZR,e2⟩:=b.slot c _ e1 (a.free c ob q n hx) hc hx;exact⟨ZR,e2⟩
 free:=λc ob q n hx=>by obtain⟨o',e1⟩:=a.there c ob q hx;exact b.free c o' e1 (a.free c ob q n hx) hx
 there:=λc ob q hx=>by obtain⟨o',e1⟩:=a.there c ob q hx;exact b.there c o' e1 hx
 nQ:=λc xs q=>b.nQ c xs (a.nQ c xs q)
 nK:=λc ob xs q=>b.nK c ob xs (a.nK c ob xs q)
 nU:=λc ps q=>by obtain⟨m1,e1⟩:=a.nU c ps q;obtain⟨m2,e2⟩:=b.nU c _ e1;exact⟨m1++m2,by rw[e2,kW]⟩
def Un.kept(k:∀b u,h.get? b=ga u->h'.get? b=ga u):Un fs ex H H h h':=
 ⟨λb ob q _ _ _=>k b ob q,λb ob q _ _ _=>⟨ob.slots,k b ob q⟩,λ_ _ _ n _=>n,λb ob q _=>⟨ob,k b ob q⟩,λ_ _ q=>q,λ_ _ _ q=>q,λ_ ps q=>⟨#[],by rw[q];simp⟩⟩
def Un.refl:Un fs ex H H h h:=Un.kept λ_ _ q=>q
def Un.laid(k:∀b u,h.get? b=ga u->h'.get? b=ga u)(hp:h.objs.size<=a)(hn:H a=Fa):Un fs ex H (upd H a o) h h' where
 keep:=λb u q _ _ _=>k b u q
 slot:=λb u q _ _ _=>⟨u.slots,k b u q⟩
 free:=λb u q n _=>by rw[qv (dM (dU (dC q) hp))];exact n
 there:=λb u q _=>⟨u,k b u q⟩
 nQ:=λb xs q=>by rw[qv (rE q hn)];exact q
 nK:=λb u xs q=>by rw[qv (rE q hn)];exact q
 nU:=λb ps q=>⟨#[],by rw[qv (rE q hn),q];simp⟩
def Un.write(mu:Vo (H x))(he:e=x\/H e=ga (.own x))(k:∀b u,b≠e->h.get? b=ga u->h'.get? b=ga u)(heo:∃u,h'.get? e=ga u):Un fs ex H (upd H x o) h h':=by
 have hx:∀b,H b=Fa->b≠x:=λb n z=>by subst z;rw[n]at mu;exact mu
 have hb:∀b,H b=Fa->b≠e:=λb n z=>by
  subst z;rcases he with r|r
  .exact hx b n r
  .rw[n]at r;cases r
 have hm:∀b u,H b=ga u->¬Vo (ga u)->b≠x:=λb u q nm z=>by subst z;rw[q]at mu;exact nm mu
 refine⟨λb u q n _ _=>k b u (hb b n) q,λb u q n _ _=>⟨u.slots,k b u (hb b n) q⟩,λb u q n _=>by rw[qv (hx b n)];exact n,λb u q _=>?_,λb xs q=>by rw[qv (hm b _ q λz=>z)];exact q,λb u xs q=>by rw[qv (hm b _ q λz=>z)];exact q,λb ps q=>⟨#[],by rw[qv (hm b _ q λz=>z),q];simp⟩⟩
 by_cases hbe:b=e
 .subst hbe;exact heo
 .exact⟨u,k b u hbe q⟩
end
noncomputable def Wv(h:No)(H:Hp):QXQ:=(List.range h.objs.size).filter λa=>(H a).isSome
noncomputable def FS(h:No)(H:Hp):No:=W.hideAll h (Wv h H)
def LK(h:No)(H:Hp):(FS h H).objs.size=h.objs.size:=W.hideAll_size _ _
def Om{h:No}{H:Hp}{b:Uf}{o:Obj}(e:h.get? b=ga o)(n:H b=Fa):(FS h H).get? b=ga o:=
 W.hideAll_get _ e λhm=>by have q:(H b).isSome=Db:=(fL.mp hm).2;rw[n]at q;simp at q
def PC{b:Uf}{o:Obj}(e:(FS h H).get? b=ga o):h.get? b=ga o/\H b=Fa:=by
 have e':h.get? b=ga o:=W.of_hideAll (Wv h H) e;refine⟨e',?_⟩;cases q:H b with
 | none=>rfl
 | some x=>have hm:b∈Wv h H:=fL.mpr ⟨fU.mpr (dC e'),by simp[q]⟩;have z:(FS h H).get? b=Fa:=W.hideAll_none (Wv h H) hm;rw[z]at e;cases e
structure Mod(K:qJ)(mg:QQZ)(base:No):Prop where
 oJ:K.In base
 glob:base.Ns At mg
 blt:∃mb,base.Ns builtinsNs mb/\∀x:Str,x≠"__name__"->mb x=zn x
 nolimit:base.NoLimit
structure Cx where
 prog:Pg
 w:Wo
 K:qJ
 mg:QQZ
 base:No
 A:Ar
 N:QQQ
 s₀:Sd
 H₀:Hp
 env:Env
 outer:List Env
 stack:List Env
 ex:QXQ
 fn:Str->Bool
 calm:Bool
 pn:QQY
 xe:QQX
abbrev BN(X:Cx)(e:Go)(es:T0 Go):Prop:=Tl (e::es) X.env=(pc,wp e X.env)::Tl es X.env
abbrev Cd(X:Cx)(p:Pos)(es:T0 Go):Prop:=(xz p (Tl es X.env)).any (·.1)=pc
abbrev zF(x:Str):Prop:=(x==("__debug__":Str))=pc
abbrev L4(X:Cx)(x:Str):Prop:=X.fn x=Db\/X.env.scope.names.lookup x=ga .local
noncomputable def wZ(l:T0 Env):QXQ:=l.filterMap (·.frame)
abbrev Cx.fs(X:Cx):QXQ:=wZ X.outer
def Vq(sc:XXe)(x:Str):Prop:=sc.names.lookup x=ga .local\/sc.names.lookup x=ga .cell\/sc.names.lookup x=ga .free
def L0(sc:XXe)(x:Str):Prop:=sc.names.lookup x=ga .local\/sc.names.lookup x=ga .cell
def XD(env:Env)(h:No)(m:QQZ)(x:Str)(u:Vl):Prop:=
 (env.kindOf x=ga .local/\m x=ga u)\/((env.kindOf x=ga .cell\/env.kindOf x=ga .free)/\∃c,env.cells.lookup x=ga c/\h.IsCell c (ga u))
structure Cx.Ok(X:Cx):Prop where
 mod:Mod X.K X.mg X.base
 kind:X.env.scope.kind=.function
 glob:X.env.globals=At
 blt:X.env.builtins=builtinsNs
 above:X.s₀.heap.objs.size<=X.env.locals
 inj:∀x y c,X.env.cells.lookup x=ga c->X.env.cells.lookup y=ga c->x=y
 has:∀x,(X.env.kindOf x=ga .cell\/X.env.kindOf x=ga .free)->∃c,X.env.cells.lookup x=ga c
 oX:∀x c,X.fn x=Db->X.env.cells.lookup x=ga c->X.s₀.heap.objs.size<=c
 hd:X.calm=Db->X.A.handled=Fa
 frames:X.A.frames=ga X.stack
 oY:X.stack=X.outer\/(X.stack=X.env::X.outer/\X.env.frame=ga X.env.locals)
 pG:∀b∈X.ex,b≠X.env.locals/\∀x c,X.env.cells.lookup x=ga c->c≠b
 bs:∀b o,X.base.get? b=ga o->X.s₀.heap.get? b=ga o/\X.H₀ b=Fa
 oq:X.base.objs.size<=X.s₀.heap.objs.size
 nZ:∀b o,X.base.get? b=ga o->b∉X.ex
 om:∀b∈X.ex,b∉X.fs
 nL:X.s₀.heap.FunFrames X.base X.outer
 oG:∀b∈X.fs,X.H₀ b=Fa
structure Inv(X:Cx)(Yj:QQY)(Y:List (Option V))(H:Hp)(s:Sd):Prop where
 ok:X.Ok
 os:s.os=X.s₀.os
 bare:XYb s.gens
 base:Un X.fs X.ex X.H₀ H X.s₀.heap s.heap
 loc:∃m,s.heap.Ns X.env.locals m/\∀(i:Nat) (x:Str) (v:V),X.N[i]?=ga x->Y[i]?=ga (ga v)->Vq X.env.scope x->∃u,rA v u/\XD X.env s.heap m x u
 cell:∀x c,X.env.cells.lookup x=ga c->∃v,s.heap.IsCell c v
 free:H X.env.locals=Fa
 nv:∀x c,X.env.cells.lookup x=ga c->H c=Fa
 pin:∀p∈X.pn++Yj,s.heap.get? p.1=ga p.2/\H p.1=Fa/\p.1≠X.env.locals/\p.1∉X.fs/\∀v,p.2.data≠.cell v
 m9:yU X.prog X.w H s.heap
 len:Y.length=X.N.length
variable {X:Cx}{Yj:T0 (Uf × Obj)}{s:Sd}
section
variable {Y:T0 (Option V)}
def Cx.Ok.nofr(ok:X.Ok){b:Uf}{o:Obj}(e:X.base.get? b=ga o):b∉X.fs:=λhb=>by have:=(ok.nL.mem hb).1;rw[e]at this;cases this
def Inv.bs(I:Inv X Yj Y H s):∀b o,X.base.get? b=ga o->s.heap.get? b=ga o/\H b=Fa:=λb o e=>⟨I.base.keep b o (I.ok.bs b o e).1 (I.ok.bs b o e).2 (I.ok.nofr e) (I.ok.nZ b o e),I.base.free b o (I.ok.bs b o e).1 (I.ok.bs b o e).2 (I.ok.nZ b o e)⟩
def Inv.bk(I:Inv X Yj Y H s):∀b o,X.base.get? b=ga o->s.heap.get? b=ga o:=λb o e=>(I.bs b o e).1
def Inv.mod(I:Inv X Yj Y H s):Mod X.K X.mg X.base:=I.ok.mod
def Inv.nB(I:Inv X Yj Y H s):X.K.In s.heap:=I.ok.mod.oJ.keeps I.bk
def Inv.lt(I:Inv X Yj Y H s):X.env.locals<s.heap.objs.size:=let⟨_,hn,_⟩:=I.loc;hn.lt
def Inv.sz(I:Inv X Yj Y H s):X.s₀.heap.objs.size<=s.heap.objs.size:=eh I.ok.above (hW I.lt)
def Inv.o9(I:Inv X Yj Y H s){a:Uf}(h:s.heap.objs.size<=a):a∉X.fs:=λhb=>by obtain⟨_,o,ho,_⟩:=I.ok.nL.mem hb;exact absurd (dU (dC ho) (eh I.sz h)) (eW _)
def Inv.pI(I:Inv X Yj Y H s):∀x c,X.env.cells.lookup x=ga c->c≠X.env.locals:=λx c e z=>by obtain⟨v,o,ho,hd⟩:=I.cell x c e;obtain⟨m,⟨o',es,ep,YY,hd',_⟩,_⟩:=I.loc;rw[z,YY]at ho;cases ho;rw[hd']at hd;cases hd
def Inv.nL(I:Inv X Yj Y H s):s.heap.FunFrames X.base X.outer:=by
 have all:∀(l:T0 Env),(∀b∈wZ l,b∈X.fs)->X.s₀.heap.FunFrames X.base l->s.heap.FunFrames X.base l:=by
  intro l;induction l with
  | nil=>intro _ _;trivial
  | cons env r ih=>intro hs hl;obtain⟨hk,⟨L,o,hf,hn,ho,hd⟩,hr⟩:=hl;have hL:L∈X.fs:=hs L (by unfold wZ;rw[gb,hf];exact dH);obtain⟨sl,e⟩:=I.base.slot L o ho (I.ok.oG L hL) hL λz=>I.ok.om L z hL;exact⟨hk,⟨L,_,hf,hn,e,hd⟩,ih (λb hb=>hs b (by unfold wZ;rw[gb,hf];exact dD _ hb)) hr⟩
 exact all X.outer (λ_ hb=>hb) I.ok.nL
def Inv.stack(I:Inv X Yj Y H s):s.heap.FunFrames X.base X.stack:=by
 rcases I.ok.oY with e|⟨e,hf⟩
 .rw[e];exact I.nL
 .rw[e];obtain⟨m,hn,_⟩:=I.loc;refine .cons (by rw[I.ok.kind];decide) hf hn ?_ I.nL;exact gK (eh I.ok.oq I.ok.above)
def Inv.nJ(I:Inv X Yj Y H s):∀b∈wZ X.stack,b∈X.env.locals::X.fs:=λb hb=>by
 rcases I.ok.oY with e|⟨e,hf⟩
 .rw[e]at hb;exact dD _ hb
 .rw[e]at hb;unfold wZ at hb;rw[gb,hf]at hb;exact hb
def Inv.nR(I:Inv X Yj Y H s):∀b∈wZ X.stack,H b=Fa:=λb hb=>by
 rcases dz.mp (I.nJ b hb)with e|hb
 .rw[e];exact I.free
 .obtain⟨_,o,ho,_⟩:=I.ok.nL.mem hb;exact I.base.free b o ho (I.ok.oG b hb) λz=>I.ok.om b z hb
def Inv.step{g':Array GenState}{t':Nat}{d':Drawn}{ch:QXQ}(I:Inv X Yj Y H s) (Zl:∀b∈ch,(b∈X.ex\/X.s₀.heap.objs.size<=b)/\b≠X.env.locals/\(∀x c,X.env.cells.lookup x=ga c->c≠b)/\∀p∈X.pn++Yj,p.1≠b) (keep:∀b o,b≠X.env.locals->b∉X.fs->b∉ch->s.heap.get? b=ga o->H b=Fa->h'.get? b=ga o) (slot:∀b o,b≠X.env.locals->b∈X.fs->b∉ch->s.heap.get? b=ga o->H b=Fa->∃sl,h'.get? b=ga {o with slots:=sl}) (free:∀b o,b∉ch->s.heap.get? b=ga o->H b=Fa->H' b=Fa)
  (there:∀b o,b∉ch->s.heap.get? b=ga o->∃o',h'.get? b=ga o')
  (nQ:∀b xs,H b=ga (.tup xs)->H' b=ga (.tup xs)) (nK:∀b o u,H b=ga (.frz o u)->H' b=ga (.frz o u)) (nU:∀b ps,H b=ga (.tbl ps)->∃more,H' b=ga (.tbl (ps++more)))
  (ns:∀m,s.heap.Ns X.env.locals m->h'.Ns X.env.locals m) (m9:yU X.prog X.w H' h') (hg:XYb g'):
  Inv X Yj Y H' {s with heap:=h',gens:=g',drawn:=d',toks:=t'}:=by
 have neL:∀b o,X.s₀.heap.get? b=ga o->b≠X.env.locals:=λb o e=>dM (dU (dC e) I.ok.above);have neC:∀b o,X.s₀.heap.get? b=ga o->b∉X.ex->b∉ch:=λb o e hx hb=>by
  rcases(Zl b hb).1 with z|z
  .exact hx z
  .exact absurd (dU (dC e) z) (eW _)
 have cellK:∀x c,X.env.cells.lookup x=ga c->∀v,s.heap.IsCell c v->h'.IsCell c v:=λx c e v ⟨o,ho,hd⟩=>by
  have nch:c∉ch:=λz=>(Zl c z).2.2.1 x c e Z';by_cases hc:c∈X.fs
  .obtain⟨sl,q⟩:=slot c o (I.pI x c e) hc nch ho (I.nv x c e);exact⟨_,q,hd⟩
  .exact⟨o,keep c o (I.pI x c e) hc nch ho (I.nv x c e),hd⟩
 refine⟨I.ok,I.os,hg,⟨λb o e n hb hx=>?_,λb o e n hb hx=>?_,λb o e n hx=>?_,λb o e hx=>?_,λb xs e=>nQ b xs (I.base.nQ b xs e),λb o xs e=>nK b o xs (I.base.nK b o xs e),λb ps e=>?_⟩,?_,λx c e=>?_,?_,λx c e=>?_,λp hp=>?_,m9,I.len⟩
 .exact keep b o (neL b o e) hb (neC b o e hx) (I.base.keep b o e n hb hx) (I.base.free b o e n hx)
 .obtain⟨sl,e1⟩:=I.base.slot b o e n hb hx;obtain⟨ZR,e2⟩:=slot b _ (neL b o e) hb (neC b o e hx) e1 (I.base.free b o e n hx);exact⟨ZR,e2⟩
 .obtain⟨o',e1⟩:=I.base.there b o e hx;exact free b o' (neC b o e hx) e1 (I.base.free b o e n hx)
 .obtain⟨o',e1⟩:=I.base.there b o e hx;exact there b o' (neC b o e hx) e1
 .obtain⟨m1,e1⟩:=I.base.nU b ps e;obtain⟨m2,e2⟩:=nU b _ e1;exact⟨m1++m2,by rw[e2,kW]⟩
 .obtain⟨m,hn,hl⟩:=I.loc;refine⟨m,ns m hn,λi x v e1 e2 e3=>?_⟩;obtain⟨u,r,l⟩:=hl i x v e1 e2 e3;refine⟨u,r,?_⟩;rcases l with l|⟨k,c,e,z⟩
  .exact .inl l
  .exact .inr ⟨k,c,e,cellK x c e _ z⟩
 .obtain⟨v,z⟩:=I.cell x c e;exact⟨v,cellK x c e v z⟩
 .obtain⟨m,⟨o,_,_,ho,_⟩,_⟩:=I.loc;exact free _ o (λz=>(Zl _ z).2.1 Z') ho I.free
 .obtain⟨v,o,ho,hd⟩:=I.cell x c e;exact free c o (λz=>(Zl c z).2.2.1 x c e Z') ho (I.nv x c e)
 .obtain⟨e,n,ne,nf,d⟩:=I.pin p hp;have nch:p.1∉ch:=λz=>(Zl p.1 z).2.2.2 p hp Z';exact⟨keep p.1 p.2 ne nf nch e n,free p.1 p.2 nch e n,ne,nf,d⟩
def Inv.un{t':Nat}(I:Inv X Yj Y H s)(u:Un X.fs [] H H' s.heap h')(m9:yU X.prog X.w H' h'):Inv X Yj Y H' {s with heap:=h',toks:=t'}:=by
 obtain⟨m,⟨o,es,ep,ho,r⟩,_⟩:=id I.loc;obtain⟨sl,hL⟩:=u.any ho I.free (by simp);exact I.step (g':=s.gens) (d':=s.drawn) (ch:=[]) (λ_ z=>nomatch z) (λb o _ hb _ e n=>u.keep b o e n hb (by simp)) (λb o _ hb _ e n=>u.slot b o e n hb (by simp)) (λb o _ e n=>u.free b o e n (by simp)) (λb o _ e=>u.there b o e (by simp)) u.nQ u.nK u.nU (λm' hm=>by
  obtain⟨o',Zv,ep',YY,r'⟩:=hm;rw[ho]at YY;cases YY;exact⟨_,Zv,ep',hL,r'⟩) m9 I.bare
def Inv.call{t':Nat}{d':Drawn}(I:Inv X Yj Y H s)(u:Un (wZ X.stack) ch H H' s.heap h')(m9:yU X.prog X.w H' h')(hg:XYb g') (Zl:∀b∈ch,(b∈X.ex\/X.s₀.heap.objs.size<=b)/\b≠X.env.locals/\(∀x c,X.env.cells.lookup x=ga c->c≠b)/\∀p∈X.pn++Yj,p.1≠b):
  Inv X Yj Y H' {s with heap:=h',gens:=g',drawn:=d',toks:=t'}:=by
 obtain⟨m,⟨o,es,ep,ho,r⟩,_⟩:=id I.loc;obtain⟨sl,hL⟩:=u.any ho I.free λz=>(Zl _ z).2.1 Z';exact I.step (ch:=ch) Zl (λb o hL hb hc e n=>u.keep b o e n (λz=>(dz.mp (I.nJ b z)).elim hL hb) hc) (λb o _ _ hc e n=>u.any e n hc) (λb o hc e n=>u.free b o e n hc) (λb o hc e=>u.there b o e hc) u.nQ u.nK u.nU (λm' hm=>by
  obtain⟨o',Zv,ep',YY,r'⟩:=hm;rw[ho]at YY;cases YY;exact⟨_,Zv,ep',hL,r'⟩) m9 hg
def Inv.turned{t':Nat}{it:Uf}(I:Inv X Yj Y H s)(k:∀b o,b≠it->s.heap.get? b=ga o->h'.get? b=ga o)(hn:H it=Fa)(hL:it≠X.env.locals) (h1:it∈X.ex\/X.s₀.heap.objs.size<=it) (h2:∀x c,X.env.cells.lookup x=ga c->c≠it) (h3:∀p∈X.pn++Yj,p.1≠it):Inv X Yj Y H {s with heap:=h',toks:=t'}:=by
 have nit:∀b u,H b=ga u->b≠it:=λb u e z=>by rw[z,hn]at e;cases e
 refine I.step (g':=s.gens) (d':=s.drawn) (ch:=[it]) (λb hb=>?_) (λb o _ _ hc e _=>k b o (λz=>hc (by simp[z])) e) (λb o _ _ hc e _=>⟨o.slots,k b o (λz=>hc (by simp[z])) e⟩) (λ_ _ _ _ n=>n)
  (λb o hc e=>⟨o,k b o (λz=>hc (by simp[z])) e⟩) (λ_ _ e=>e) (λ_ _ _ e=>e) (λb ps e=>⟨#[],by rw[e];simp⟩) (λm hm=>?_) (λb u e=>?_) I.bare
 .have e:b=it:=by simpa using hb
  subst e;exact⟨h1,hL,h2,h3⟩
 .obtain⟨o,es,ep,ho,r⟩:=hm;exact⟨o,es,ep,k _ o (dZ hL) ho,r⟩
 .refine(I.m9 b u e).nH (λc v hc q=>k c v ?_ q) (λ_ q=>q) λ_ _ q=>q;rcases hc with z|z
  .rw[z];exact nit b u e
  .exact nit c _ z
def Inv.tok(I:Inv X Yj Y H s)(t:Nat):Inv X Yj Y H {s with toks:=t}:=I.un (h':=s.heap) (t':=t) Un.refl I.m9
def Inv.kept{t':Nat}(I:Inv X Yj Y H s)(k:∀b u,s.heap.get? b=ga u->h'.get? b=ga u):Inv X Yj Y H {s with heap:=h',toks:=t'}:=I.un (Un.kept k) (I.m9.kept k)
def Inv.laid{a:Uf}{t':Nat}(I:Inv X Yj Y H s)(k:∀b u,s.heap.get? b=ga u->h'.get? b=ga u)(hp:s.heap.objs.size<=a)(new:sQ X.prog X.w (upd H a o) h' a o):
  Inv X Yj Y (upd H a o) {s with heap:=h',toks:=t'}:=I.un (Un.laid k hp (I.m9.fresh hp)) (I.m9.laid k hp new)
def Inv.write{x e:Uf}{t':Nat}(I:Inv X Yj Y H s)(mu:Vo (H x))(he:e=x\/H e=ga (.own x))(k:∀b u,b≠e->s.heap.get? b=ga u->h'.get? b=ga u)(heo:∃u,h'.get? e=ga u) (new:sQ X.prog X.w (upd H x o) h' x o):Inv X Yj Y (upd H x o) {s with heap:=h',toks:=t'}:=I.un (Un.write mu he k heo) (I.m9.write mu he k heo new)
def Inv.n9{Zm:QQY}(I:Inv X Yj Y H s)(h:∀p∈Zm,s.heap.get? p.1=ga p.2/\H p.1=Fa/\p.1≠X.env.locals/\p.1∉X.fs/\∀v,p.2.data≠.cell v):Inv X Zm Y H s:=
 ⟨I.ok,I.os,I.bare,I.base,I.loc,I.cell,I.free,I.nv,λp hp=>(dS.mp hp).elim (λz=>I.pin p (eI _ z)) (h p),I.m9,I.len⟩
def Hf{N:QQQ}(hN:N.Nodup){i j:Nat}{x:Str}(a:N[i]?=ga x)(b:N[j]?=ga x):i=j:=by obtain⟨h1,e1⟩:=de.mp a;obtain⟨h2,e2⟩:=de.mp b;exact(lV hN).mp (e1.trans e2.symm)
def EN{M:Model}{A:Ar}{E:QQX}{i:Nat}{x:Str}{Q:Unit->Sd->Prop}(I:Inv X Yj Y H s)(hN:X.N.Nodup)(hi:X.N[i]?=ga x)(hx:L0 X.env.scope x)(r:rA v u) (h:∀s',Inv X Yj (Y.set i (ga v)) H s'->(∃a,Heap.SameBut a s.heap s'.heap/\(a=X.env.locals\/X.env.cells.lookup x=ga a))->Q () s') (hf:L4 X x:=by first|exact .inl Z'|exact .inr Z'|assumption):pi M A (storeName X.env x u) Q E s:=by
 obtain⟨m,hn,hl⟩:=id I.loc;have hcls:(X.env.scope.kind==.class||(X.env.scope.kind==.module&&X.env.locals != X.env.globals))=pc:=by rw[I.ok.kind];rfl
 have hiσ:i<Y.length:=by rw[I.len];exact(de.mp hi).1
 have pI:=I.pI;have Yz:∀{a:Uf} {h':No},(∃o,s.heap.get? a=ga o/\H a=Fa)->Heap.SameBut a s.heap h'->yU X.prog X.w H h':=λ{a h'} ha hs b ob e=>by
  obtain⟨_,_,Y6⟩:=ha;refine(I.m9 b ob e).nH (λc w' hc q=>(hs.2 c ?_).trans q) (λ_ q=>q) λ_ _ q=>q
  rintro rfl
  rcases hc with rfl|hc
  .rw[Y6]at e;cases e
  .rw[Y6]at hc;cases hc
 rcases hx with hk|hk
 .refine wpAny_storeName_local hk hn (λh' hn' hs=>?_) hcls;obtain⟨oL,_,_,hoL,_⟩:=id hn;refine h _ ⟨I.ok,I.os,I.bare,⟨λb o e n hb hx=>?_,λb o e n hb hx=>?_,I.base.free,λb o e hx=>?_,I.base.nQ,I.base.nK,I.base.nU⟩,⟨_,hn',λj y v' e1 e2 e3=>?_⟩,λy c e=>?_,I.free,I.nv,λp hp=>?_,Yz ⟨oL,hoL,I.free⟩ hs,by simpa using I.len⟩ ⟨_,hs,.inl Z'⟩
  .exact(hs.2 b (dM (dU (dC e) I.ok.above))).trans (I.base.keep b o e n hb hx)
  .obtain⟨sl,e1⟩:=I.base.slot b o e n hb hx;exact⟨sl,(hs.2 b (dM (dU (dC e) I.ok.above))).trans e1⟩
  .obtain⟨o',e1⟩:=I.base.there b o e hx;exact⟨o',(hs.2 b (dM (dU (dC e) I.ok.above))).trans e1⟩
  .by_cases hj:j=i
   .subst hj;rw[hi]at e1;cases e1;rw[fF hiσ]at e2;cases e2;exact⟨u,r,.inl ⟨hk,by simp⟩⟩
   .rw[fE (dZ hj)]at e2;obtain⟨u',r',q⟩:=hl j y v' e1 e2 e3;refine⟨u',r',?_⟩;rcases q with⟨k,e⟩|⟨k,c,e,z⟩
    .refine .inl ⟨k,?_⟩;have:y≠x:=λe=>hj (Hf hN e1 (e ▸ hi));simp[this,e]
    .exact .inr ⟨k,c,e,z.sameBut hs (pI y c e)⟩
  .obtain⟨w',z⟩:=I.cell y c e;exact⟨w',z.sameBut hs (pI y c e)⟩
  .obtain⟨e,n,ne,nf,d⟩:=I.pin p hp;exact⟨(hs.2 p.1 ne).trans e,n,ne,nf,d⟩
 .have hfn:X.fn x=Db:=by
   rcases hf with z|z
   .exact z
   .rw[z]at hk;cases hk
  obtain⟨c,hc⟩:=I.ok.has x (.inl hk);obtain⟨w',z⟩:=I.cell x c hc;refine wpAny_storeName_cell I.ok.kind hk hc z (λh' hc' hs=>?_);obtain⟨oc,hoc,hocd⟩:=id z;refine h {s with heap:=h'} ⟨I.ok,I.os,I.bare,⟨λb o e n hb hx=>?_,λb o e n hb hx=>?_,I.base.free,λb o e hx=>?_,I.base.nQ,I.base.nK,I.base.nU⟩,⟨m,hn.sameBut hs (dZ (pI x c hc)),λj y v' e1 e2 e3=>?_⟩,λy c' e=>?_,I.free,I.nv,λp hp=>?_,Yz ⟨oc,hoc,I.nv x c hc⟩ hs,by simpa using I.len⟩ ⟨c,hs,.inr hc⟩
  .exact(hs.2 b (dM (dU (dC e) (I.ok.oX x c hfn hc)))).trans (I.base.keep b o e n hb hx)
  .obtain⟨sl,e1⟩:=I.base.slot b o e n hb hx;exact⟨sl,(hs.2 b (dM (dU (dC e) (I.ok.oX x c hfn hc)))).trans e1⟩
  .obtain⟨o',e1⟩:=I.base.there b o e hx;exact⟨o',(hs.2 b (dM (dU (dC e) (I.ok.oX x c hfn hc)))).trans e1⟩
  .by_cases hj:j=i
   .subst hj;rw[hi]at e1;cases e1;rw[fF hiσ]at e2;cases e2;exact⟨u,r,.inr ⟨.inl hk,c,hc,hc'⟩⟩
   .rw[fE (dZ hj)]at e2;obtain⟨u',r',q⟩:=hl j y v' e1 e2 e3;refine⟨u',r',?_⟩;rcases q with q|⟨k,c',e,z'⟩
    .exact .inl q
    .refine .inr ⟨k,c',e,z'.sameBut hs ?_⟩
     rintro rfl
     exact hj (Hf hN e1 (I.ok.inj _ _ _ e hc ▸ hi))
  .by_cases hcc:c'=c
   .subst hcc;exact⟨_,hc'⟩
   .obtain⟨w2,z2⟩:=I.cell y c' e;exact⟨w2,z2.sameBut hs hcc⟩
  .obtain⟨e,n,ne,nf,d⟩:=I.pin p hp;refine⟨(hs.2 p.1 ?_).trans e,n,ne,nf,d⟩;intro q;rw[q,hoc]at e;have q':oc=p.2:=dq e;exact d w' (by rw[<-q'];exact hocd)
def CY{M:Model}{A:Ar}{E:QQX}{i:Nat}{x:Str}{Q:Unit->Sd->Prop}(I:Inv X Yj Y H s)(hN:X.N.Nodup)(hi:X.N[i]?=ga x)(hx:L0 X.env.scope x)(r:rA v u) (h:∀s',Inv X Yj (Y.set i (ga v)) H s'->Q () s') (hf:L4 X x:=by first|exact .inl Z'|exact .inr Z'|assumption):pi M A (storeName X.env x u) Q E s:=
 EN I hN hi hx r (λs' I' _=>h s' I') hf
def Inv.pC{s':Sd}(I:Inv X Yj Y H s)(ho:s'.os=s.os)(u:Un (wZ X.stack) ch H H' s.heap s'.heap)(m9:yU X.prog X.w H' s'.heap)(hg:XYb s'.gens) (Zl:∀b∈ch,(b∈X.ex\/X.s₀.heap.objs.size<=b)/\b≠X.env.locals/\(∀x c,X.env.cells.lookup x=ga c->c≠b)/\∀p∈X.pn++Yj,p.1≠b):Inv X Yj Y H' s':=by
 obtain⟨h',g',d',t',o'⟩:=s';have e:o'=s.os:=ho;subst e;exact I.call (g':=g') (t':=t') (d':=d') u m9 hg Zl
end
abbrev XK:=Vl->Option Uf->Hp->Prop
abbrev St:=T0 (Option V)
abbrev VK:=V->Hp->Prop
abbrev TE:=St->Hp->VK->Prop
abbrev TT:=St->Hp->(Bool->Hp->Prop)->Prop
abbrev TA:=St->Hp->(T0 V->Hp->Prop)->Prop
structure E7 where
 nx:St->Hp->Prop
 rt:VK
 bk:St->Hp->Prop:=λ_ _=>False
 ct:St->Hp->Prop:=λ_ _=>False
abbrev TS:=E7->St->Hp->Prop
def EP(X:Cx)(Yj:QQY)(Y:St)(Q:VK)(u:Vl)(s':Sd):Prop:=∃v H',Inv X Yj Y H' s'/\rA v u/\Q v H'
def TP(X:Cx)(Yj:QQY)(Y:St)(Q:Bool->Hp->Prop)(b:Bool)(s':Sd):Prop:=∃H',Inv X Yj Y H' s'/\Q b H'
def AP(X:Cx)(Yj:QQY)(Y:St)(Q:T0 V->Hp->Prop)(us:T0 Vl)(s':Sd):Prop:=∃vs H',Inv X Yj Y H' s'/\qL vs us/\Q vs H'
def SP(X:Cx)(Yj:QQY)(D:E7)(f:Flow)(s':Sd):Prop:=
 match f with
 | .next=>∃σ' H',Inv X Yj σ' H' s'/\D.nx σ' H'
 | .brk=>∃σ' H',Inv X Yj σ' H' s'/\D.bk σ' H'
 | .cont=>∃σ' H',Inv X Yj σ' H' s'/\D.ct σ' H'
 | .ret u=>∃v σ' H',Inv X Yj σ' H' s'/\rA v u/\D.rt v H'
def PE(X:Cx)(e:Go)(t:TE):Prop:=
 ∀(Yj:QQY) (s:Sd) (Y:St) (H:Hp) (Q:VK),Inv X Yj Y H s->t Y H Q->pi (Tk X.prog X.w) X.A (wp e X.env) (EP X Yj Y Q) X.xe s
def PT(X:Cx)(e:Go)(t:TT):Prop:=
 ∀(Yj:QQY) (s:Sd) (Y:St) (H:Hp) (Q:Bool->Hp->Prop),Inv X Yj Y H s->t Y H Q->pi (Tk X.prog X.w) X.A (isTrue e X.env (wp e X.env)) (TP X Yj Y Q) X.xe s
def PW(X:Cx)(e:Go)(t:TT):Prop:=
 ∀(YS:Sem Vl) (Yj:QQY) (s:Sd) (Y:St) (H:Hp) (Q:Bool->Hp->Prop),Inv X Yj Y H s->t Y H Q->pi (Tk X.prog X.w) X.A (isTrue e X.env YS) (TP X Yj Y Q) X.xe s
def PW.pt(h:PW X e t):PT X e t:=h _
def PA(X:Cx)(es:T0 Go)(t:TA):Prop:=
 ∀(pos:Pos) (Yj:QQY) (s:Sd) (Y:St) (H:Hp) (Q:T0 V->Hp->Prop),Inv X Yj Y H s->t Y H Q->pi (Tk X.prog X.w) X.A (spliced (xz pos (Tl es X.env))) (AP X Yj Y Q) X.xe s
def PS(X:Cx)(st:ZB)(t:TS):Prop:=
 ∀(Yj:QQY) (s:Sd) (Y:St) (H:Hp) (D:E7),Inv X Yj Y H s->t D Y H->pi (Tk X.prog X.w) X.A (exec st X.env) (SP X Yj D) X.xe s
def Dd(X:Cx)(st:T0 ZB)(t:TS):Prop:=
 ∀(Yj:QQY) (s:Sd) (Y:St) (H:Hp) (D:E7),Inv X Yj Y H s->t D Y H->pi (Tk X.prog X.w) X.A (execs st X.env) (SP X Yj D) X.xe s
def tz{α:Type}{t:Sem α}{Q Q':α->Sd->Prop}{M:Model}{A:Ar}{E:QQX}{s:Sd}(h:pi M A t Q E s)(hQ:∀a s,Q a s->Q' a s):pi M A t Q' E s:=eB h hQ λ_ _ x=>x
variable {tA tB':TT}{ta tb:TE}{pos:Pos}
section
def Iw(i:Nat):TE:=λY H Q=>∃v,Y[i]?=ga (ga v)/\Q v H
def tC(v:V):TE:=λ_ H Q=>Q v H
def SL{i:Nat}{x:Str}(hN:X.N[i]?=ga x)(hv:Vq X.env.scope x)(hd:zF x:=by decide)(ZC:(x==("__classdict__":Str))=pc:=by decide):PE X (.Name x pos) (Iw i):=by
 intro Yj s Y H Q I h;obtain⟨v,e,h⟩:=h;obtain⟨m,hn,hl⟩:=I.loc;obtain⟨u,r,l⟩:=hl i x v hN e hv;have Yn:EP X Yj Y Q u s:=⟨v,H,I,r,h⟩;rcases l with⟨hk,hm⟩|⟨hk,c,hc,hcell⟩
 .exact mq (wpAny_loadName_local I.ok.kind hk hn hm Yn) hd
 .rcases hk with hk|hk
  .exact mq (wpAny_loadName_cell I.ok.kind hk hc hcell Yn) hd
  .exact mq (wpAny_loadName_free I.ok.kind hk hc hcell Yn ZC) hd
def Tn{i j pos}:PE X (.Constant (.int i) j pos) (tC (.int i)):=λ_ _ _ H _ I h=>wpAny_Constant_int ⟨.int i,H,I.tok _,⟨_,Z'⟩,h⟩
def VQ{b j pos}:PE X (.Constant (.bool b) j pos) (tC (.bl b)):=λ_ _ _ H _ I h=>Constant_bool ⟨.bl b,H,I,Z',h⟩
def Tu{j pos}:PE X (.Constant .none j pos) (tC .mY):=λ_ _ _ H _ I h=>Constant_none ⟨.mY,H,I,Z',h⟩
def S4{x j pos}:PE X (.Constant (.str x) j pos) (tC (.str x)):=λ_ _ _ H _ I h=>Calls.Constant_str ⟨.str x,H,I.tok _,⟨_,Z'⟩,h⟩
def Gl(X:Cx)(x:Str):Prop:=X.env.kindOf x=ga .globalImplicit
def xp{E:QQX}{Yj:QQY}{u:Vl}{Q:QQX}(I:Inv X Yj Y H s)(hg:Gl X x)(hm:X.mg x=ga u)(h:Q u s) (hd:zF x:=by decide):pi (Tk X.prog X.w) X.A (wp (.Name x pos) X.env) Q E s:=
 jv I.ok.kind hg (Calls.loadGlobal_global (by rw[I.ok.glob];exact I.mod.glob.keeps I.bk) hm h) hd
def vY{E:QQX}{Yj:QQY}{u:Vl}{Q:QQX}(I:Inv X Yj Y H s)(hg:Gl X x)(hm:X.mg x=Fa)(hv:zn x=ga u)(h:Q u s) (hn:x≠"__name__":=by decide) (hd:zF x:=by decide):pi (Tk X.prog X.w) X.A (wp (.Name x pos) X.env) Q E s:=by
 obtain⟨mb,h1,h2⟩:=I.mod.blt;exact jv I.ok.kind hg (Calls.loadGlobal_builtin (by rw[I.ok.glob];exact I.mod.glob.keeps I.bk) hm (by rw[I.ok.blt];exact h1.keeps I.bk) ((h2 x hn).trans hv) h) hd
def FB{u:Vl}(hg:Gl X x)(hm:X.mg x=ga u)(r:rA v u)(hd:zF x:=by decide):PE X (.Name x pos) (tC v):=
 λ_ _ _ H _ I h=>xp I hg hm ⟨v,H,I,r,h⟩ hd
def QU{u:Vl}(hg:Gl X x)(hm:X.mg x=Fa)(hv:zn x=ga u)(r:rA v u)(hn:x≠"__name__":=by decide)(hd:zF x:=by decide):PE X (.Name x pos) (tC v):=
 λ_ _ _ H _ I h=>vY I hg hm hv ⟨v,H,I,r,h⟩ hn hd
variable {a b:Go}
def tB(t:TE):TT:=λY H Q=>t Y H λx H1=>∃c,x=.bl c/\Q c H1
def S7(h:PE X e t)(he:∀YS,isTrue e X.env YS=(do let v<-YS;XXd e.pos;sB [v] (truthy v)):=by intro _;rfl):PT X e (tB t):=by intro Yj s Y H Q I hw;refine isTrue_plain (tz (h Yj s Y H _ I hw) λv s1 zz=>x5 zz λx H1 I1 r1 q1=>?_) (he _);obtain⟨d,rfl,q⟩:=q1;cases r1;exact fk ⟨H1,I1,q⟩
variable {rest:T0 Go}
def Xe(t u:TT):TT:=λY H Q=>t Y H λc H1=>if c=Db then u Y H1 Q else Q pc H1
def Yi(t u:TT):TT:=λY H Q=>t Y H λc H1=>if c=Db then Q Db H1 else u Y H1 Q
def Xa(t:TT):TT:=λY H Q=>t Y H λc H1=>Q (!c) H1
def Po(ha:PT X a tA):PW X (.BoolOp .And [a] pos) tA:=by
 intro wh Yj s Y H Q I h;refine isTrue_and (tz (ha Yj s Y H Q I h) λc s1 e=>?_);cases c with
 | true=>exact isTrue_and_nil e
 | false=>exact e
def UA(ha:PT X a tA):PW X (.BoolOp .Or [a] pos) tA:=by
 intro wh Yj s Y H Q I h;refine isTrue_or (tz (ha Yj s Y H Q I h) λc s1 e=>?_);cases c with
 | false=>exact isTrue_or_nil e
 | true=>exact e
def TR(ha:PT X a tA)(hb:PW X (.BoolOp .And (b::rest) pos) tB'):PW X (.BoolOp .And (a::b::rest) pos) (Xe tA tB'):=by
 intro wh Yj s Y H Q I h;refine isTrue_and (tz (ha Yj s Y H _ I h) λc s1 ⟨H1,I1,q1⟩=>?_);cases c with
 | true=>exact hb wh Yj s1 Y H1 Q I1 q1
 | false=>exact⟨H1,I1,q1⟩
def VA(ha:PT X a tA)(hb:PW X (.BoolOp .Or (b::rest) pos) tB'):PW X (.BoolOp .Or (a::b::rest) pos) (Yi tA tB'):=by
 intro wh Yj s Y H Q I h;refine isTrue_or (tz (ha Yj s Y H _ I h) λc s1 ⟨H1,I1,q1⟩=>?_);cases c with
 | true=>exact⟨H1,I1,q1⟩
 | false=>exact hb wh Yj s1 Y H1 Q I1 q1
def TC(ha:PT X a tA):PT X (.UnaryOp .Not a pos) (Xa tA):=by intro Yj s Y H Q I h;exact isTrue_not (ha Yj s Y H (λc H1=>Q (!c) H1) I h)
def Wq(ta tb:TE):TE:=λY H Q=>ta Y H λx H1=>∃c,x=.bl c/\if c=Db then tb Y H1 Q else Q (.bl pc) H1
def XC(ta tb:TE):TE:=λY H Q=>ta Y H λx H1=>∃c,x=.bl c/\if c=Db then Q (.bl Db) H1 else tb Y H1 Q
def Vm(ta:TE):TE:=λY H Q=>ta Y H λx H1=>∃c,x=.bl c/\Q (.bl (!c)) H1
def SZ{op}(h:PE X a t):PE X (.BoolOp op [a] pos) t:=λYj s Y H Q I hw=>BoolOp_one (h Yj s Y H Q I hw)
def UB(ha:PE X a ta)(hb:PE X (.BoolOp .And (b::rest) pos) tb):PE X (.BoolOp .And (a::b::rest) pos) (Wq ta tb):=by
 intro Yj s Y H Q I h;refine BoolOp_and (tz (ha Yj s Y H _ I h) λv s1 zz=>x5 zz λx H1 I1 r1 q1=>?_);obtain⟨c,rfl,q1⟩:=q1;cases r1;refine fk ?_;cases c with
 | true=>exact hb Yj s1 Y H1 Q I1 q1
 | false=>exact⟨.bl pc,H1,I1,Z',q1⟩
def UU(ha:PE X a ta)(hb:PE X (.BoolOp .Or (b::rest) pos) tb):PE X (.BoolOp .Or (a::b::rest) pos) (XC ta tb):=by
 intro Yj s Y H Q I h;refine BoolOp_or (tz (ha Yj s Y H _ I h) λv s1 zz=>x5 zz λx H1 I1 r1 q1=>?_);obtain⟨c,rfl,q1⟩:=q1;cases r1;refine fk ?_;cases c with
 | false=>exact hb Yj s1 Y H1 Q I1 q1
 | true=>exact⟨.bl Db,H1,I1,Z',q1⟩
def UG(ha:PE X a ta):PE X (.UnaryOp .Not a pos) (Vm ta):=by intro Yj s Y H Q I h;refine UnaryOp_ (tz (ha Yj s Y H _ I h) λv s1 zz=>x5 zz λx H1 I1 r1 q1=>?_);obtain⟨c,rfl,q1⟩:=q1;cases r1;exact not_of (fk ⟨.bl (!c),H1,I1,Z',q1⟩)
def X5(t:TT)(ta tb:TE):TE:=λY H Q=>t Y H λc H1=>if c=Db then ta Y H1 Q else tb Y H1 Q
def ME(hc:PT X c tA)(ha:PE X a ta)(hb:PE X b tb):PE X (.IfExp c a b pos) (X5 tA ta tb):=by
 intro Yj s Y H Q I h;refine wpAny_IfExp (tz (hc Yj s Y H _ I h) λd s1 ⟨H1,I1,q1⟩=>?_);cases d with
 | true=>exact ha Yj s1 Y H1 Q I1 q1
 | false=>exact hb Yj s1 Y H1 Q I1 q1
end
def xW(K:qJ)(H:Hp)(a:Uf)(xs:T0 V):Prop:=
 Rd H a (.lst xs)\/
  ∃(o:Obj) (its:Array Vl) (n:Nat),K.lookup a=ga o/\o.cls=.type "list"/\o.dict=Fa/\o.data=.seq its n/\its.size<=Ch/\qL xs its.toList
def wm(K:qJ)(H:Hp)(a:Uf)(xs:T0 V):Prop:=
 Rd H a (.tup xs)\/
  ∃(o:Obj) (its:Array Vl) (n:Nat),K.lookup a=ga o/\o.cls=.type "tuple"/\o.dict=Fa/\o.data=.seq its n/\its.size<=Ch/\qL xs its.toList
noncomputable def Xb:Vl->Option V
 | .none=>ga .mY
 | .bool b=>ga (.bl b)
 | .int i _=>ga (.int i)
 | .str x _=>ga (.str x)
 | .bytes b _=>ga (.byt b)
 | .float b _=>ga (.flt b)
 | .ref a=>ga (.ref a)
 | .type n=>ga (.ty n)
 | _=>Fa
def rA.abs(r:rA x u):Xb u=ga x:=by
 cases x with
 | mY=>cases r;rfl
 | bl _=>cases r;rfl
 | int _=>obtain⟨t,rfl⟩:=r;rfl
 | str _=>obtain⟨t,rfl⟩:=r;rfl
 | byt _=>obtain⟨t,rfl⟩:=r;rfl
 | flt _=>obtain⟨t,rfl⟩:=r;rfl
 | ref _=>cases r;rfl
 | ty _=>cases r;rfl
def rA.inj(r:rA x u)(q:rA y u):x=y:=dq (r.abs.symm.trans q.abs)
theorem qL.inj:∀{xs ys:T0 V} {us:T0 Vl},qL xs us->qL ys us->xs=ys
 | _,_,_,.nil,.nil=>rfl
 | _,_,_,.cons r t,.cons r' t'=>by rw[r.inj r',qL.inj t t']
variable {xs ys:T0 V}
section
variable {Y:St}{a:Uf}
def wm.of{K:qJ}(h:H a=ga (.tup xs)):wm K H a xs:=.inl (.inl h)
def Inv.list(I:Inv X Yj Y H s)(h:xW X.K H a xs):∃its:T0 Vl,qL xs its/\PlainL s.heap a its.toArray/\xs.length<=Ch:=by
 rcases h with h|⟨o,its,n,hk,hc,hd,hs,hz,r⟩
 .obtain⟨z,its,n,r,e⟩:=h.ok I.m9;exact⟨its,r,⟨_,n,e,Z',Z',Z'⟩,z⟩
 .refine⟨its.toList,r,⟨o,n,I.nB a o hk,hc,hd,by simpa using hs⟩,?_⟩;have e:=r.length;simp only[il]at e;lia
def Inv.tuple(I:Inv X Yj Y H s)(h:wm X.K H a xs):∃its:T0 Vl,qL xs its/\IsTup s.heap a its.toArray/\xs.length<=Ch:=by
 rcases h with h|⟨o,its,n,hk,hc,hd,hs,hz,r⟩
 .obtain⟨z,its,r,p⟩:=h.ok I.m9;exact⟨its,r,p.is,z⟩
 .refine⟨its.toList,r,⟨o,I.nB a o hk,hc,n,by simpa using hs⟩,?_⟩;have e:=r.length;simp only[il]at e;lia
def Inv.nV(I:Inv X Yj Y H s)(h:xW X.K H a xs)(h':xW X.K H a ys):xs=ys:=by
 obtain⟨its,r,⟨o,n,e,_,_,d⟩,_⟩:=I.list h;obtain⟨its',r',⟨o',n',e',_,_,d'⟩,_⟩:=I.list h';rw[e]at e';cases e';rw[d]at d';injection d' with d1 _
 have:its=its':=by simpa using eR Array.toList d1
 subst this;exact r.inj r'
def Inv.nN(I:Inv X Yj Y H s)(h:wm X.K H a xs)(h':wm X.K H a ys):xs=ys:=by
 obtain⟨its,r,⟨o,e,_,n,d⟩,_⟩:=I.tuple h;obtain⟨its',r',⟨o',e',_,n',d'⟩,_⟩:=I.tuple h';rw[e]at e';cases e';rw[d]at d';injection d' with d1 _
 have:its=its':=by simpa using eR Array.toList d1
 subst this;exact r.inj r'
end
abbrev Cx.nX(X:Cx)(E:QQX):Cx:={X with xe:=E}
abbrev Cx.oV(X:Cx):Cx:=X.nX λ_ _=>False
def Cx.Ok.nX{X:Cx}(ok:X.Ok)(E:QQX):(X.nX E).Ok:=
 ⟨ok.mod,ok.kind,ok.glob,ok.blt,ok.above,ok.inj,ok.has,ok.oX,ok.hd,ok.frames,ok.oY,ok.pG,ok.bs,ok.oq,ok.nZ,ok.om,ok.nL,ok.oG⟩
def Cx.Ok.nE{X:Cx}{E:QQX}(ok:(X.nX E).Ok):X.Ok:=
 ⟨ok.mod,ok.kind,ok.glob,ok.blt,ok.above,ok.inj,ok.has,ok.oX,ok.hd,ok.frames,ok.oY,ok.pG,ok.bs,ok.oq,ok.nZ,ok.om,ok.nL,ok.oG⟩
section
variable {Y:St}{E:QQX}
def Inv.nX(I:Inv X Yj Y H s)(E:QQX):Inv (X.nX E) Yj Y H s:=⟨I.ok.nX E,I.os,I.bare,I.base,I.loc,I.cell,I.free,I.nv,I.pin,I.m9,I.len⟩
def Inv.nE(I:Inv (X.nX E) Yj Y H s):Inv X Yj Y H s:=⟨I.ok.nE,I.os,I.bare,I.base,I.loc,I.cell,I.free,I.nv,I.pin,I.m9,I.len⟩
def SP.nE{D:E7}(h:SP (X.nX E) Yj D f s'):SP X Yj D f s':=by
 cases f with
 | next=>obtain⟨σ',H',I,q⟩:=h;exact⟨σ',H',I.nE,q⟩
 | brk=>obtain⟨σ',H',I,q⟩:=h;exact⟨σ',H',I.nE,q⟩
 | cont=>obtain⟨σ',H',I,q⟩:=h;exact⟨σ',H',I.nE,q⟩
 | ret u=>obtain⟨v,σ',H',I,r,q⟩:=h;exact⟨v,σ',H',I.nE,r,q⟩
def Dd.oV{st:T0 ZB}(h:Dd X.oV st t):Dd X st t:=λYj s Y H D I hw=>eB (h Yj s Y H D (I.nX _) hw) (λ_ _ q=>q.nE) λ_ _ z=>False.elim z
end
variable {st:ZB}{u:TS}{te:TE}
section
variable {rest:T0 ZB}{t:TS}{e:Go}
def Vf:TS:=λD Y H=>D.nx Y H
def XF(t u:TS):TS:=λD Y H=>t {D with nx:=u D} Y H
def PN:Dd X [] Vf:=λ_ _ Y H _ I h=>gR ⟨Y,H,I,h⟩
def Mf(h1:PS X st t)(h2:Dd X rest u):Dd X (st::rest) (XF t u):=by
 intro Yj s Y H D I h;refine jJ (tz (h1 Yj s Y H {D with nx:=u D} I h) λf s1 q=>?_);cases f with
 | next=>obtain⟨σ',H',I',q⟩:=q;exact h2 Yj s1 σ' H' D I' q
 | ret v=>exact q
 | brk=>exact q
 | cont=>exact q
def KF(h1:PS X st t):Dd X [st] t:=by
 intro Yj s Y H D I h;refine jJ (tz (h1 Yj s Y H D I h) λf s1 q=>?_);cases f with
 | next=>exact gR q
 | ret v=>exact q
 | brk=>exact q
 | cont=>exact q
def Inv.quiet{Yj:QQY}(I:Inv X Yj Y H s):interactive X.env=pc:=by simp[interactive,I.ok.kind]
def VE(te:TE):TS:=λD Y H=>te Y H λ_ H1=>D.nx Y H1
def PK(he:PE X e te)(hs:wE e Fa pos.line X.env=pure pc:=by rfl):PS X (.Expr e pos) (VE te):=by intro Yj s Y H D I h;exact wpAny_Expr_any (tz (he Yj s Y H _ I h) λv s1 zz=>x5 zz λx H1 I1 r1 q1=>⟨Y,H1,I1,q1⟩) I.quiet hs
def Xh(te:TE):TS:=λD Y H=>te Y H D.rt
def Uh(he:PE X e te):PS X (.Return (ga e) pos) (Xh te):=by intro Yj s Y H D I h;exact wpAny_Return_some (tz (he Yj s Y H _ I h) λv s1 zz=>x5 zz λx H1 I1 r1 q1=>⟨x,Y,H1,I1,r1,q1⟩)
def WP(c:TT)(t u:TS):TS:=λD Y H=>c Y H λb H1=>if b=Db then t D Y H1 else u D Y H1
def Wr(hc:PT X c tc)(ha:Dd X a t)(hb:Dd X b u):PS X (.If c a b pos) (WP tc t u):=by
 intro Yj s Y H D I h;refine wpAny_If (tz (hc Yj s Y H _ I h) λd s1 ⟨H1,I1,q1⟩=>?_);cases d with
 | true=>exact ha Yj s1 Y H1 D I1 q1
 | false=>exact hb Yj s1 Y H1 D I1 q1
def S8:TS:=λ_ _ _=>False
def OU:PS X st S8:=λ_ _ _ _ _ _ h=>h.elim
end
abbrev TG:=V->St->Hp->(St->Hp->Prop)->Prop
abbrev QR:=T0 V->St->Hp->(St->Hp->Prop)->Prop
def PG(X:Cx)(YN:Go)(t:TG):Prop:=
 ∀(Yj:QQY) (s:Sd) (Y:St) (H:Hp) (v:V) (u:Vl) (Q:St->Hp->Prop),Inv X Yj Y H s->rA v u->t v Y H Q->
  pi (Tk X.prog X.w) X.A (assign YN X.env u) (λ_ s'=>∃σ' H',Inv X Yj σ' H' s'/\Q σ' H') X.xe s
def O8(X:Cx)(ts:T0 Go)(t:QR):Prop:=
 ∀(Yj:QQY) (s:Sd) (Y:St) (H:Hp) (vs:T0 V) (us:T0 Vl) (Q:St->Hp->Prop),Inv X Yj Y H s->qL vs us->t vs Y H Q->
  pi (Tk X.prog X.w) X.A (assignInOrder ((wP ts X.env).map (·.2)) us) (λ_ s'=>∃σ' H',Inv X Yj σ' H' s'/\Q σ' H') X.xe s
abbrev Tb:=V->V->V->Hp->(Hp->Prop)->Prop
def Ve(X:Cx)(t:Tb):Prop:=
 ∀(Yj:QQY) (s:Sd) (Y:St) (H:Hp) (o i v:V) (ov iv u:Vl) (Q:Hp->Prop),Inv X Yj Y H s->rA o ov->rA i iv->rA v u->t o i v H Q->
  pi (Tk X.prog X.w) X.A (setItem ov iv u) (λ_ s'=>∃H',Inv X Yj Y H' s'/\Q H') X.xe s
def MH(i:Nat):TG:=λv Y H Q=>Q (Y.set i (ga v)) H
def P6{i:Nat}{x:Str}(hN:X.N.Nodup)(hi:X.N[i]?=ga x)(hx:L0 X.env.scope x)(hf:L4 X x:=by first|exact .inl Z'|exact .inr Z'|assumption):PG X (.Name x pos) (MH i):=by intro Yj s Y H v u Q I r h;exact lD (CY I hN hi hx r (λs' I'=>⟨_,H,I',h⟩) hf)
def W':QR:=λvs Y H Q=>vs=[]/\Q Y H
def VV(t:TG)(u:QR):QR:=λvs Y H Q=>∃v r,vs=v::r/\t v Y H λσ' H'=>u r σ' H' Q
def Qo:O8 X [] W':=by intro Yj s Y H vs us Q I r h;obtain⟨e,h⟩:=h;subst e;cases r;exact assignInOrder_nil ⟨Y,H,I,h⟩
def Mv{u:QR}(h1:PG X e t)(h2:O8 X es u) (hs:(wP (e::es) X.env).map (·.2)=assign e X.env::(wP es X.env).map (·.2):=by rfl):O8 X (e::es) (VV t u):=by
 intro Yj s Y H vs us Q I r h;obtain⟨v,vr,e1,h⟩:=h;subst e1;cases r with
 | cons r rr=>rw[hs];refine assignInOrder_cons (tz (h1 Yj s Y H _ _ _ I r h) λ_ s1 ⟨σ1,H1,I1,q1⟩=>?_);exact h2 Yj s1 σ1 H1 _ _ Q I1 rr q1
def Xp(K:qJ)(n:Nat)(t:QR):TG:=λv Y H Q=>∃a xs,v=.ref a/\wm K H a xs/\xs.length=n/\t xs Y H Q
def Uo{n:Nat}(hc:X.calm=Db)(h:O8 X es t) (hn:(wP es X.env).length=n:=by rfl) (YG:(wP es X.env).findIdx? (·.1)=Fa:=by rfl):PG X (.Tuple es k pos) (Xp X.K n t):=by
 intro Yj s Y H v u Q I r hw;obtain⟨a,xs,e1,hq,hl,hw⟩:=hw;subst e1;cases r;obtain⟨its,rv,ht,hz⟩:=I.tuple hq;refine assign_Tuple_tuple (I.ok.hd hc) ht (by simp[hn,<-hl,rv.length]) YG λh' hx=>?_;have I1:Inv X Yj Y H {s with heap:=h'}:=I.kept (t':=s.toks) λb o e=>hx b o (dM (dC e)) e;exact h Yj _ Y H xs _ Q I1 (by simpa using rv) hw
def WY(to ti:TE)(t:Tb):TG:=λv Y H Q=>to Y H λo H1=>ti Y H1 λi H2=>t o i v H2 λH3=>Q Y H3
def TB(ho:PE X o to)(hi:PE X i ti)(hs:Ve X t) (ha:∀v,assign (.Subscript o i pos) X.env v=(do
   let ov<-sB [v] (wp o X.env);let iv<-sB [v,ov] (wp i X.env)
   XXd pos
   sB [v,ov,iv] (setItem ov iv v)
   release [v,ov,iv] []):=by intro _;rfl):PG X (.Subscript o i pos) (WY to ti t):=by
 intro Yj s Y H v u Q I r h;rw[ha];refine cY (eX (tz (ho Yj s Y H _ I h) λov s1 zz=>x5 zz λx H1 I1 r1 q1=>?_));refine cY (eX (tz (hi Yj s1 Y H1 _ I1 q1) λiv s2 zz=>x5 zz λy H2 I2 r2 q2=>?_));refine cY (ii (cY (eX (tz (hs Yj s2 Y H2 x y v ov iv u _ I2 r1 r2 r q2) λ_ s3 ⟨H3,I3,q3⟩=>?_))));exact wpAny_release ⟨Y,H3,I3,q3⟩
def SA(te:TE)(g:TG):TS:=λD Y H=>te Y H λx H1=>g x Y H1 D.nx
def Ut(he:PE X e te)(hg:PG X tg g)(hs:swapsWithSole [tg] e pos.line X.env=pure pc:=by rfl)(hw:swappedStores [tg] e X.env=pure Fa:=by rfl)
  (h1:(wP [tg] X.env).map (·.2)=[assign tg X.env]:=by rfl):PS X (.Assign [tg] e pos) (SA te g):=by
 intro Yj s Y H D I h;refine wpAny_Assign_stores (tz (he Yj s Y H _ I h) λv s1 zz=>x5 zz λx H1 I1 r1 q1=>?_) hs hw;rw[h1];exact tz (hg Yj s1 Y H1 x v _ I1 r1 q1) λ_ s2 q=>q
def SR{i:Nat}{x:Str}(hN:X.N.Nodup)(hi:X.N[i]?=ga x)(hx:L0 X.env.scope x)(he:PE X e te)(hs:wE e (ga (.Name x Yu)) pos.line X.env=pure pc:=by rfl)(hf:L4 X x:=by first|exact .inl Z'|exact .inr Z'|assumption):
  PS X (.Assign [.Name x Yu] e pos) (SA te (MH i)):=by
 intro Yj s Y H D I h;refine lE (tz (he Yj s Y H _ I h) λv s1 zz=>x5 zz λy H1 I1 r1 q1=>?_) hs;exact CY I1 hN hi hx r1 (λs2 I2=>⟨_,H1,I2,q1⟩) hf
def Ui(c:TT)(tb:TS):TS:=λD Y H=>∃W:Nat->St->Hp->Prop,(∃m,W m Y H)/\∀m Y H,W m Y H->
 c Y H λb H1=>if b=Db then ∃N:St->Hp->Prop,(∀σ' H',N σ' H'->∃m',m'<m/\W m' σ' H')/\tb {D with nx:=N,ct:=N,bk:=D.nx} Y H1 else D.nx Y H1
def NF{tb:TS}(hp:PassesOwn (Tk X.prog X.w) X.A X.env X.xe)(hc:PT X c tc)(hb:Dd X body tb):PS X (.While c body [] pos) (Ui tc tb):=by
 intro Yj s Y H D I h;obtain⟨W,⟨m0,w0⟩,turn⟩:=h;refine wpAny_While (codeAny_whileLoop (λn s'=>∃σ' H',Inv X Yj σ' H' s'/\W n σ' H') ?_ m0 ⟨Y,H,I,w0⟩)
 rintro n s1 ⟨σ1,H1,I1,w1⟩
 refine gG hp (tz (hc Yj s1 σ1 H1 _ I1 (turn n σ1 H1 w1)) λb s2 ⟨H2,I2,q2⟩=>?_);cases b with
 | true=>
  obtain⟨N,hN,q2⟩:=q2;rw[dh Z'];refine gG hp (tz (hb Yj s2 σ1 H2 _ I2 q2) λf s3 q3=>?_);cases f with
  | next=>obtain⟨σ3,H3,I3,n3⟩:=q3;obtain⟨m',hm,w3⟩:=hN σ3 H3 n3;exact⟨m',hm,σ3,H3,I3,w3⟩
  | cont=>obtain⟨σ3,H3,I3,n3⟩:=q3;obtain⟨m',hm,w3⟩:=hN σ3 H3 n3;exact⟨m',hm,σ3,H3,I3,w3⟩
  | brk=>exact q3
  | ret v=>exact q3
 | false=>rw[df dE];exact gR ⟨σ1,H2,I2,q2⟩
structure It where
 go:Nat->Hp->Prop
 pz:Nat->Hp->V->Hp->Prop
 stop:Nat->Hp->Prop
def zN(X:Cx)(Yj:QQY)(H:Hp)(b:Uf):Prop:=
 H b=Fa/\b≠X.env.locals/\b∉X.fs/\(b∈X.ex\/X.s₀.heap.objs.size<=b)/\(∀x c,X.env.cells.lookup x=ga c->c≠b)/\∀p∈X.pn++Yj,p.1≠b
def Inv.oo{Yj:QQY}{H H':Hp}{b:Uf}(I:Inv X Yj Y H s)(hb:s.heap.objs.size<=b)(hn:H' b=Fa):zN X Yj H' b:=by
 refine⟨hn,gM (dU I.lt hb),I.o9 hb,.inr (eh I.sz hb),λx c e z=>?_,λp hp z=>?_⟩
 .obtain⟨v,q⟩:=I.cell x c e;exact absurd (dU q.lt (by rw[z];exact hb)) (eW _)
 .exact absurd (dU (dC (I.pin p hp).1) (by rw[z];exact hb)) (eW _)
structure HL(P:Pg)(w:Wo)(K:qJ)(tg:Go)(J:It)(fp:QXQ)(it:Uf)(tn:Nat->No->Prop):Prop where
 mem:it∈fp
 obj:∀i h,tn i h->∀b∈fp,∃o,h.get? b=ga o/\∀v,o.data≠.cell v
 keep:∀i h h',tn i h->(∀b∈fp,∀o,h.get? b=ga o->h'.get? b=ga o)->tn i h'
 item:∀(X:Cx),X.prog=P->X.w=w->X.K=K->X.calm=Db->∀(i:Nat) (Yj:QQY) (s:Sd) (Y:St) (H:Hp) (E:QQX),Inv X Yj Y H s->(∀b∈fp,zN X Yj H b)->tn i s.heap->J.go i H->
  pi (Tk P w) X.A (pyNext (.ref it)) (λr s1=>∃u,r=ga u/\
   pi (Tk P w) X.A (XXj tg (.ref it) u) (λ_ s2=>∃x H',Inv X Yj Y H' s2/\rA x u/\J.pz i H x H'/\tn (i+1) s2.heap/\∀b∈fp,H' b=Fa) E s1) E s
 done:∀(X:Cx),X.prog=P->X.w=w->X.K=K->X.calm=Db->∀(i:Nat) (Yj:QQY) (s:Sd) (Y:St) (H:Hp) (E:QQX),Inv X Yj Y H s->(∀b∈fp,zN X Yj H b)->tn i s.heap->J.stop i H->
  pi (Tk P w) X.A (pyNext (.ref it)) (λr s1=>r=Fa/\Inv X Yj Y H s1) E s
 self:∀(A:Ar) (i:Nat) (s:Sd) (Q:QQX) (E:QQX),tn i s.heap->Q (.ref it) s->pi (Tk P w) A (pyIter (.ref it)) Q E s
abbrev TI:=St->Hp->(It->Hp->Prop)->Prop
def XB(X:Cx)(Yj:QQY)(Y:St)(tg:Go)(R:It->Hp->Prop)(itv:Vl)(s2:Sd):Prop:=
 ∃(it:Uf) (fp:QXQ) (tn:Nat->No->Prop) (J:It) (H':Hp),itv=.ref it/\Inv X Yj Y H' s2/\HL X.prog X.w X.K tg J fp it tn/\tn 0 s2.heap/\(∀b∈fp,zN X Yj H' b)/\R J H'
def PI(X:Cx)(tg iter:Go)(wi:TI):Prop:=
 ∀(Yj:QQY) (s:Sd) (Y:St) (H:Hp) (R:It->Hp->Prop),Inv X Yj Y H s->wi Y H R->
  pi (Tk X.prog X.w) X.A (wp iter X.env) (λv s1=>pi (Tk X.prog X.w) X.A (pyIter v) (XB X Yj Y tg R) X.xe s1) X.xe s
def JC{M:Model}{A:Ar}{E:QQX}{s:Sd}{tg:Go}{it:Uf}{u:Vl}{o:Obj}{n:String}{vs:Array Vl}{Q:Unit->Sd->Prop}(ho:s.heap.get? it=ga o)(hc:o.cls=.type n)(hd:o.data=.fields vs) (hn:["enumerate","zip","dict_itemiterator","dict_reverseitemiterator","odict_iterator","itertools.zip_longest","itertools.pairwise"].contains n=pc) (hQ:Q () s):pi M A (XXj tg (.ref it) u) Q E s:=by
  unfold XXj;cases tg<;>first
    | exact dv hQ
    | (cases u<;>first
        | exact dv hQ
        | (refine cY (wpAny_load ho ?_)
           rw[hc,hd];show pi M A (if (["enumerate","zip","dict_itemiterator","dict_reverseitemiterator","odict_iterator","itertools.zip_longest","itertools.pairwise"].contains n&&vs[0]?==ga (Y' _))=Db then _ else _) Q E s;rw[df (by intro h;rw[hn,eV]at h;cases h)];exact dv hQ))
noncomputable def WJ(K:qJ)(a:Uf):It:=
 ⟨λi H=>∃xs x,xW K H a xs/\xs[i]?=ga x,λi H x H'=>H'=H/\∀xs,xW K H a xs->xs[i]?=ga x,λi H=>∃xs,xW K H a xs/\xs.length<=i⟩
noncomputable def WN(K:qJ)(a:Uf):It:=
 ⟨λi H=>∃xs x,wm K H a xs/\xs[i]?=ga x,λi H x H'=>H'=H/\∀xs,wm K H a xs->xs[i]?=ga x,λi H=>∃xs,wm K H a xs/\xs.length<=i⟩
noncomputable def Vy(lo:Int)(n:Nat):It:=⟨λi _=>i<n,λi H x H'=>H'=H/\x=.int (lo+i),λi _=>n<=i⟩
def K9{K:qJ}(a it:Uf):HL P w K tg (WJ K a) [it] it (λi h=>h.IsListIter it a i) where
 mem:=by simp
 obj:=λi h st b hb=>by
  have e:b=it:=by simpa using hb
  subst e;obtain⟨o,e,c,d⟩:=st;exact⟨o,e,λv z=>by rw[d]at z;cases z⟩
 keep:=λi h h' st k=>st.at λo e=>k it (by simp) o e
 item:=by intro X hP hw hK hc i Yj s Y H E I hf st hg;subst hP hw hK;obtain⟨xs,x,hq,hx⟩:=hg;obtain⟨its,rv,p,hz⟩:=I.list hq;obtain⟨u,hu,ru⟩:=rv.get hx;obtain⟨f0,f1,f2,f3,f4,f5⟩:=hf it (by simp);refine wpAny_pyNext_list_item st p.isList (x:=u) (by simpa using hu) λh' Za sb=>?_;have I1:Inv X Yj Y H {s with heap:=h'}:=I.turned (t':=s.toks) (λb o hb e=>(sb.2 b hb).trans e) f0 f1 f3 f4 f5;obtain⟨o,e,c,d⟩:=id Za;exact⟨u,Z',JC (s:={s with heap:=h'}) e c d (by decide) ⟨x,H,I1,ru,⟨Z',λys hy=>by rw[I.nV hy hq];exact hx⟩,Za,λb hb=>(hf b hb).1⟩⟩
 done:=by intro X hP hw hK hc i Yj s Y H E I hf st hg;subst hP hw hK;obtain⟨xs,hq,hx⟩:=hg;obtain⟨its,rv,p,hz⟩:=I.list hq;obtain⟨f0,f1,f2,f3,f4,f5⟩:=hf it (by simp);have hl:=rv.length;exact wpAny_pyNext_list_end (I.ok.hd hc) st p.isList (by simp;lia) λh' eb=>⟨Z',I.turned (t':=s.toks) (λb o hb e=>eb b o hb e) f0 f1 f3 f4 f5⟩
 self:=λ_ _ _ _ _ st h=>wpAny_pyIter_listiter st h
def Ic{K:qJ}(a it:Uf):HL P w K tg (WN K a) [it] it (λi h=>h.IsTupleIter it a i) where
 mem:=by simp
 obj:=λi h st b hb=>by
  have e:b=it:=by simpa using hb
  subst e;obtain⟨o,e,c,d⟩:=st;exact⟨o,e,λv z=>by rw[d]at z;cases z⟩
 keep:=λi h h' st k=>st.at λo e=>k it (by simp) o e
 item:=by intro X hP hw hK hc i Yj s Y H E I hf st hg;subst hP hw hK;obtain⟨xs,x,hq,hx⟩:=hg;obtain⟨its,rv,p,hz⟩:=I.tuple hq;obtain⟨u,hu,ru⟩:=rv.get hx;obtain⟨f0,f1,f2,f3,f4,f5⟩:=hf it (by simp);refine wpAny_pyNext_tuple_item st (show s.heap.IsTuple a its.toArray from p) (x:=u) (by simpa using hu) λh' Za sb=>?_;have I1:Inv X Yj Y H {s with heap:=h'}:=I.turned (t':=s.toks) (λb o hb e=>(sb.2 b hb).trans e) f0 f1 f3 f4 f5;obtain⟨o,e,c,d⟩:=id Za;exact⟨u,Z',JC (s:={s with heap:=h'}) e c d (by decide) ⟨x,H,I1,ru,⟨Z',λys hy=>by rw[I.nN hy hq];exact hx⟩,Za,λb hb=>(hf b hb).1⟩⟩
 done:=by intro X hP hw hK hc i Yj s Y H E I hf st hg;subst hP hw hK;obtain⟨xs,hq,hx⟩:=hg;obtain⟨its,rv,p,hz⟩:=I.tuple hq;obtain⟨f0,f1,f2,f3,f4,f5⟩:=hf it (by simp);have hl:=rv.length;exact wpAny_pyNext_tuple_end (I.ok.hd hc) st (show s.heap.IsTuple a its.toArray from p) (by simp;lia) λh' eb=>⟨Z',I.turned (t':=s.toks) (λb o hb e=>eb b o hb e) f0 f1 f3 f4 f5⟩
 self:=λ_ _ _ _ _ st h=>wpAny_pyIter_tupleiter st h
def Ip{K:qJ}(it:Uf)(lo:Int)(n:Nat):HL P w K tg (Vy lo n) [it] it (λi h=>IsRangeIter h it (lo+(i:Nat)*1) ((n:Int) - (i:Nat)) 1) where
 mem:=by simp
 obj:=λi h st b hb=>by
  have e:b=it:=by simpa using hb
  subst e;exact⟨_,st,λv z=>by
   have z':Data.fields _=Data.cell v:=z;cases z'⟩
 keep:=λi h h' st k=>k it (by simp) _ st
 item:=by intro X hP hw hK hc i Yj s Y H E I hf st hg;subst hP hw hK;obtain⟨f0,f1,f2,f3,f4,f5⟩:=hf it (by simp);have W:=Walks.range (prog:=X.prog) (w:=X.w) (I.ok.hd hc) it lo 1 n;refine W.item i s _ _ hg st λv h' tk hv Za kk=>?_;obtain⟨t,rfl⟩:=hv;have I1:Inv X Yj Y H {s with heap:=h',toks:=tk}:=I.turned (λb o hb e=>kk b o (by simpa using hb) e) f0 f1 f3 f4 f5;refine⟨_,Z',JC (s:={s with heap:=h',toks:=tk}) (n:="range_iterator") Za Z' Z' (by decide) ⟨.int (lo+i),H,I1,⟨t,?_⟩,⟨Z',Z'⟩,Za,λb hb=>(hf b hb).1⟩⟩;rw[Int.mul_one]
 done:=by intro X hP hw hK hc i Yj s Y H E I hf st hg;subst hP hw hK;obtain⟨f0,f1,f2,f3,f4,f5⟩:=hf it (by simp);exact wpAny_pyNext_range_end (I.ok.hd hc) st (by have:n<=i:=hg;lia) λh' eb=>⟨Z',I.turned (t':=s.toks) (λb o hb e=>eb b o hb e) f0 f1 f3 f4 f5⟩
 self:=λ_ _ _ _ _ st h=>wpAny_pyIter_rangeiter st h
variable {tg:Go}
def GF{Yj:QQY}{R:It->Hp->Prop}{E:QQX}{lo hi:Int}{t u v:Tok}{tk:Nat}(I:Inv X Yj Y H s)(h1:-(2 ^ 62)<=lo)(h2:lo<2 ^ 62)(h3:-(2 ^ 62)<=hi)(h4:hi<2 ^ 62) (q:R (Vy lo (hi - lo).toNat) H):pi (Tk X.prog X.w) X.A (pyIter (.ref s.heap.objs.size)) (XB X Yj Y tg R) E {s with heap:=s.heap.push {cls:=.type "range",data:=.fields #[.int lo t,.int hi u,.int 1 v]},toks:=tk}:=by
 refine wpAny_pyIter_range (IsRange.new ..) (small_one h1 h2 h3 h4) ?_;have I1:Inv X Yj Y H {s with heap:=s.heap.push {cls:=.type "range",data:=.fields #[.int lo t,.int hi u,.int 1 v]},toks:=tk}:=I.kept λb o e=>dg _ e;refine⟨(s.heap.push {cls:=.type "range",data:=.fields #[.int lo t,.int hi u,.int 1 v]}).objs.size,[(s.heap.push {cls:=.type "range",data:=.fields #[.int lo t,.int hi u,.int 1 v]}).objs.size],_,_,H,Z',I1.kept (t':=tk) λb o e=>dg _ e,Ip _ lo (hi - lo).toNat,?_,λb hb=>?_,q⟩
 .have e1:lo+((0:Nat):Int)*1=lo:=by simp
  have e2:(((hi - lo).toNat:Nat):Int) - ((0:Nat):Int)=Builtin.Range.rangeSize lo hi 1:=by rw[rangeSize_one];split<;>lia
  show IsRangeIter _ _ (lo+((0:Nat):Int)*1) ((((hi - lo).toNat:Nat):Int) - ((0:Nat):Int)) 1;rw[e1,e2];exact dJ _ Z'
 .have e:b=(s.heap.push {cls:=.type "range",data:=.fields #[.int lo t,.int hi u,.int 1 v]}).objs.size:=by simpa using hb
  subst e;exact I1.oo (dw _) (I1.m9.fresh (dw _))
def U7(ta:TA):TI:=λY H R=>ta Y H λvs H1=>∃j:Int,vs=[.int j]/\-(2 ^ 62)<=j/\j<2 ^ 62/\R (Vy 0 j.toNat) H1
def Wh(ta:TA):TI:=λY H R=>ta Y H λvs H1=>∃i j:Int,vs=[.int i,.int j]/\(-(2 ^ 62)<=i/\i<2 ^ 62/\-(2 ^ 62)<=j/\j<2 ^ 62)/\R (Vy i (j - i).toNat) H1
def LN{a:Go}{ta:TA}(hg:Gl X "range")(hm:X.mg "range"=Fa)(ha:PA X [a] ta)(hs:Tl [a] X.env=[(pc,wp a X.env)]:=by rfl):PI X tg (.Call (.Name "range" p) [a] [] pos) (U7 ta):=by
 intro Yj s Y H R I h;refine Call_ (vY I hg hm boot_range (fC (tz (ha pos Yj s Y H _ I h) λus s1 zz=>x5 zz λvs H1 I1 r1 q1=>?_) hs Z'));obtain⟨j,e,q1,q2,q⟩:=q1;subst e;cases r1 with
 | cons r rr=>cases rr;obtain⟨t,rfl⟩:=r;exact call_range_1 (GF I1 (by lia) (by lia) q1 q2 (by simpa using q))
def LX{a b:Go}{ta:TA}{p pos:Pos}(hg:Gl X "range")(hm:X.mg "range"=Fa)(ha:PA X [a,b] ta)(hs:Tl [a,b] X.env=[(pc,wp a X.env),(pc,wp b X.env)]:=by rfl)(YZ:Tl [b] X.env=[(pc,wp b X.env)]:=by rfl):
  PI X tg (.Call (.Name "range" p) [a,b] [] pos) (Wh ta):=by
 intro Yj s Y H R I h;refine Call_ (vY I hg hm boot_range (fC (tz (ha pos Yj s Y H _ I h) λus s1 zz=>x5 zz λvs H1 I1 r1 q1=>?_) (by rw[hs,YZ]) (by rw[YZ];rfl)));obtain⟨i,j,e,⟨q1,q2,q3,q4⟩,q⟩:=q1;subst e;cases r1 with
 | cons r rr=>
  cases rr with
  | cons r' rr=>cases rr;obtain⟨t,rfl⟩:=r;obtain⟨t',rfl⟩:=r';exact call_range_2 (GF I1 q1 q2 q3 q4 q)
def Xj(wi:TI)(g:TG)(tb:TS):TS:=λD Y H=>wi Y H λJ H1=>∃W:Nat->Nat->St->Hp->Prop,(∃m,W 0 m Y H1)/\∀i m Y H,W i m Y H->
 (J.stop i H/\D.nx Y H)\/(J.go i H/\∃N:St->Hp->Prop,(∀σ' H',N σ' H'->∃m',m'<m/\W (i+1) m' σ' H')/\∀x H',J.pz i H x H'->g x Y H' λσ2 H2=>tb {D with nx:=N,ct:=N,bk:=D.nx} σ2 H2)
noncomputable def C5(fp:QXQ)(h:No):QQY:=fp.filterMap λb=>(h.get? b).map λo=>(b,o)
def we{fp:QXQ}{h:No}{b:Uf}{o:Obj}(hb:b∈fp)(e:h.get? b=ga o):(b,o)∈C5 fp h:=kX.mpr ⟨b,hb,by rw[e];rfl⟩
def LL{p:Uf×Obj}(hp:p∈C5 fp h):p.1∈fp/\h.get? p.1=ga p.2:=by
 obtain⟨b,hb,e⟩:=kX.mp hp;cases q:h.get? b with
 | none=>rw[q]at e;cases e
 | some o=>rw[q]at e;have e':(b,o)=p:=dq e;subst e';exact⟨hb,q⟩
def Inv.pinned{Yj:QQY}{fp:QXQ}(I:Inv X Yj Y H s)(hf:∀b∈fp,zN X Yj H b)(ho:∀b∈fp,∃o,s.heap.get? b=ga o/\∀v,o.data≠.cell v):Inv X (Yj++C5 fp s.heap) Y H s:=
 I.n9 λp hp=>(dS.mp hp).elim (λz=>I.pin p (dR _ z)) λz=>by obtain⟨hb,e⟩:=LL z;obtain⟨f0,f1,f2,_⟩:=hf p.1 hb;obtain⟨o,e',d⟩:=ho p.1 hb;rw[e]at e';cases e';exact⟨e,f0,f1,f2,d⟩
def Inv.nu{Yj pl:QQY}(I:Inv X (Yj++pl) Y H s):Inv X Yj Y H s:=I.n9 λp hp=>I.pin p (dR _ (eI _ hp))
def Uu{tb:TS}(hp:PassesOwn (Tk X.prog X.w) X.A X.env X.xe)(hc:X.calm=Db)(hi:PI X tg iter wi)(hg:PG X tg g)(hb:Dd X body tb) (hs:∀x,XV iter X.env x=pure x:=by intro _;rfl):PS X (.For tg iter body [] pos) (Xj wi g tb):=by
 intro Yj s Y H D I h;refine wpAny_For (tz (hi Yj s Y H _ I h) λv s1 h1=>tz h1 λitv s2 h2=>?_) hs;obtain⟨it,fp,tn,J,H2,e,I2,T,YH,f2,W,⟨m0,w0⟩,turn⟩:=h2;subst e;have ZD:∀{H':Hp},(∀b∈fp,H' b=Fa)->∀b∈fp,zN X Yj H' b:=λhn b hb=>⟨hn b hb,(f2 b hb).2⟩;refine codeAny_forLoop_any (λn s'=>∃i σ' H',Inv X Yj σ' H' s'/\tn i s'.heap/\(∀b∈fp,H' b=Fa)/\W i n σ' H') ?_ m0 ⟨0,Y,H2,I2,YH,λb hb=>(f2 b hb).1,w0⟩
 rintro n s3 ⟨i,σ3,H3,I3,Zg,fr3,w3⟩
 rcases turn i n σ3 H3 w3 with⟨stop,qn⟩|⟨go,N,hN,step⟩
 .refine gG hp (tz (T.done X Z' Z' Z' hc i Yj s3 σ3 H3 X.xe I3 (ZD fr3) Zg stop) λr s4 ⟨hr,I4⟩=>?_);subst hr;exact gR ⟨σ3,H3,I4,qn⟩
 .refine gG hp (tz (T.item X Z' Z' Z' hc i Yj s3 σ3 H3 X.xe I3 (ZD fr3) Zg go) λr s4 ⟨u,hr,h4⟩=>?_);subst hr;refine gG hp (tz h4 λ_ s5 zz=>?_);obtain⟨x,H5,I5,r5,y5,st5,fr5⟩:=zz;have I5':=I5.pinned (ZD fr5) (T.obj _ _ st5);refine gG hp (tz (hg _ s5 σ3 H5 x u _ I5' r5 (step x H5 y5)) λ_ s6 ⟨σ6,H6,I6,q6⟩=>?_);refine gG hp (tz (hb _ s6 σ6 H6 _ I6 q6) λf s7 q7=>?_);have again:∀{σ7:St} {H7:Hp},Inv X (Yj++C5 fp s5.heap) σ7 H7 s7->N σ7 H7->∃m,m<n/\∃i σ' H',Inv X Yj σ' H' s7/\tn i s7.heap/\(∀b∈fp,H' b=Fa)/\W i m σ' H':=λ{σ7 H7} I7 n7=>by obtain⟨m',hm,w7⟩:=hN σ7 H7 n7;refine⟨m',hm,i+1,σ7,H7,I7.nu,T.keep _ _ _ st5 λb hb o e=>(I7.pin (b,o) (dR _ (dR _ (we hb e)))).1,λb hb=>?_,w7⟩;obtain⟨o,e,d⟩:=T.obj _ _ st5 b hb;exact(I7.pin (b,o) (dR _ (dR _ (we hb e)))).2.1
  cases f with
  | next=>obtain⟨σ7,H7,I7,n7⟩:=q7;exact again I7 n7
  | cont=>obtain⟨σ7,H7,I7,n7⟩:=q7;exact again I7 n7
  | brk=>obtain⟨σ7,H7,I7,q7⟩:=q7;exact⟨σ7,H7,I7.nu,q7⟩
  | ret v=>obtain⟨x7,σ7,H7,I7,r7,q7⟩:=q7;exact⟨x7,σ7,H7,I7.nu,r7,q7⟩
abbrev R2:=V->V->Hp->VK->Prop
def yC(X:Cx)(f:Vl->Vl->Sem Vl)(r:R2):Prop:=
 ∀(Yj:QQY) (s:Sd) (Y:St) (H:Hp) (x y:V) (v u:Vl) (Q:VK),Inv X Yj Y H s->rA x v->rA y u->r x y H Q->
  pi (Tk X.prog X.w) X.A (f v u) (EP X Yj Y Q) X.xe s
def WW(X:Cx)(f:Vl->Sem Vl)(r:V->Hp->VK->Prop):Prop:=
 ∀(Yj:QQY) (s:Sd) (Y:St) (H:Hp) (x:V) (v:Vl) (Q:VK),Inv X Yj Y H s->rA x v->r x H Q->
  pi (Tk X.prog X.w) X.A (f v) (EP X Yj Y Q) X.xe s
def zV(X:Cx)(f:Vl)(r:T0 V->Hp->VK->Prop):Prop:=
 ∀(Yj:QQY) (s:Sd) (Y:St) (H:Hp) (xs:T0 V) (us:T0 Vl) (Q:VK),Inv X Yj Y H s->qL xs us->r xs H Q->
  pi (Tk X.prog X.w) X.A (call f us) (EP X Yj Y Q) X.xe s
def Vk(r:R2)(ta tb:TE):TE:=λY H Q=>ta Y H λx H1=>tb Y H1 λy H2=>r x y H2 Q
def Yg(r:V->Hp->VK->Prop)(ta:TE):TE:=λY H Q=>ta Y H λx H1=>r x H1 Q
def rI(C:Int->Int->Prop)(g:Int->Int->V):R2:=λx y H Q=>∃i j,x=.int i/\y=.int j/\C i j/\Q (g i j) H
def R8(g:Int->Int->V):R2:=λx y H Q=>∃i j,x=.int i/\y=.int j/\Q (g i j) H
def rU(g:Int->V):V->Hp->VK->Prop:=λx H Q=>∃i,x=.int i/\Q (g i) H
variable {tc:TE}
section
variable {a b c:Go}
def SK(ha:PE X a ta)(hb:PE X b tb){Yj:QQY}{s:Sd}{Y:St}{H:Hp}{R:V->V->Hp->Prop}(I:Inv X Yj Y H s) (h:ta Y H λx H1=>tb Y H1 λy H2=>R x y H2) {Q:QQX} {f:Vl->Vl->Sem Vl} (hf:∀v u s2 x y H2,Inv X Yj Y H2 s2->rA x v->rA y u->R x y H2->pi (Tk X.prog X.w) X.A (f v u) Q X.xe s2):
  pi (Tk X.prog X.w) X.A (wp a X.env) (λv s₁=>pi (Tk X.prog X.w) X.A (wp b X.env) (λu s₂=>pi (Tk X.prog X.w) X.A (f v u) Q X.xe s₂) X.xe s₁) X.xe s:=by
 refine tz (ha Yj s Y H _ I h) λv s1 zz=>x5 zz λx H1 I1 r1 q1=>?_;refine tz (hb Yj s1 Y H1 _ I1 q1) λu s2 zz=>x5 zz λy H2 I2 r2 q2=>?_;exact hf v u s2 x y H2 I2 r1 r2 q2
def RH{op:XYc}(ho:yC X (wS op) r)(ha:PE X a ta)(hb:PE X b tb):PE X (.BinOp a op b pos) (Vk r ta tb):=by intro Yj s Y H Q I h;exact wpAny_BinOp (SK ha hb I h λv u s2 x y H2 I2 rx ry q=>ho Yj s2 Y H2 x y v u Q I2 rx ry q)
def Wj{op:UnaryOp}(ho:WW X (unaryOp op) r)(ha:PE X a ta):PE X (.UnaryOp op a pos) (Yg r ta):=by intro Yj s Y H Q I h;exact UnaryOp_ (tz (ha Yj s Y H _ I h) λv s1 zz=>x5 zz λx H1 I1 r1 q1=>ho Yj s1 Y H1 x v Q I1 r1 q1)
def WS{f:Vl->Vl->Sem Vl}{C:Int->Int->Prop}{g:Int->Int->Int} (rule:∀(i j:Int) (t u:Tok) (s:Sd) (Q:QQX) (E:QQX),C i j->Q (.int (g i j) s.toks) {s with toks:=s.toks+1}->pi (Tk X.prog X.w) X.A (f (.int i t) (.int j u)) Q E s):
  yC X f (rI C λi j=>.int (g i j)):=by
 intro Yj s Y H x y v u Q I rx ry h;obtain⟨i,j,rfl,rfl,hc,q⟩:=h;obtain⟨t,rfl⟩:=rx;obtain⟨t',rfl⟩:=ry;exact rule i j t t' s _ _ hc ⟨.int (g i j),H,I.tok _,⟨_,Z'⟩,q⟩
def VG{f:Vl->Vl->Sem Vl}{g:Int->Int->Int} (rule:∀(i j:Int) (t u:Tok) (s:Sd) (Q:QQX) (E:QQX),Q (.int (g i j) s.toks) {s with toks:=s.toks+1}->pi (Tk X.prog X.w) X.A (f (.int i t) (.int j u)) Q E s):
  yC X f (R8 λi j=>.int (g i j)):=by
 intro Yj s Y H x y v u Q I rx ry h;obtain⟨i,j,rfl,rfl,q⟩:=h;obtain⟨t,rfl⟩:=rx;obtain⟨t',rfl⟩:=ry;exact rule i j t t' s _ _ ⟨.int (g i j),H,I.tok _,⟨_,Z'⟩,q⟩
def Q1{f:Vl->Vl->Sem Vl}{g:Int->Int->Bool} (rule:∀(i j:Int) (t u:Tok) (s:Sd) (Q:QQX) (E:QQX),Q (.bool (g i j)) s->pi (Tk X.prog X.w) X.A (f (.int i t) (.int j u)) Q E s):
  yC X f (R8 λi j=>.bl (g i j)):=by
 intro Yj s Y H x y v u Q I rx ry h;obtain⟨i,j,rfl,rfl,q⟩:=h;obtain⟨t,rfl⟩:=rx;obtain⟨t',rfl⟩:=ry;exact rule i j t t' s _ _ ⟨.bl (g i j),H,I,Z',q⟩
def Va(i j:Int):Prop:=0<j/\j<1073741824
def Ea(i j:Int):Prop:=(-(2 ^ 64)<i/\i<2 ^ 64)\/(-(2 ^ 64)<j/\j<2 ^ 64)
def Ea.ok(h:Ea i j):IntMulOk i j:=by
 rcases h with⟨h1,h2⟩|⟨h1,h2⟩
 .exact .of_left (intBits_le_64 h1 h2)
 .exact .of_right (intBits_le_64 h1 h2)
def Tp:yC X (wS .Add) (R8 λi j=>.int (i+j)):=VG λ_ _ _ _ _ _ _ q=>add_int q
def TU:yC X (wS .Sub) (R8 λi j=>.int (i - j)):=VG λ_ _ _ _ _ _ _ q=>sub_int q
def SU:yC X (wS .Mult) (rI Ea λi j=>.int (i*j)):=WS λ_ _ _ _ _ _ _ hc q=>mul_int q hc.ok
def QC:yC X (wS .FloorDiv) (rI Va λi j=>.int (i / j)):=WS λi j _ _ _ _ _ hc q=>by have h1:(0:Int)<j:=hc.1;have h2:j<1073741824:=hc.2;exact floordiv_int (by lia) (by rw[Int.fdiv_eq_ediv_of_nonneg i (by lia)];exact q) (.inl (PyProof.noPylong_small (by lia)))
def Sk:yC X (wS .Mod) (rI (λ_ j=>0<j) λi j=>.int (i % j)):=WS λi j _ _ _ _ _ hc q=>by have h1:(0:Int)<j:=hc;exact mod_int' (by lia) (by rw[Int.fmod_eq_emod_of_nonneg i (by lia)];exact q)
def Yh{f:Vl->Sem Vl}{g:Int->Int} (rule:∀(i:Int) (t:Tok) (s:Sd) (Q:QQX) (E:QQX),Q (.int (g i) s.toks) {s with toks:=s.toks+1}->pi (Tk X.prog X.w) X.A (f (.int i t)) Q E s):
  WW X f (rU λi=>.int (g i)):=by
 intro Yj s Y H x v Q I rx h;obtain⟨i,rfl,q⟩:=h;obtain⟨t,rfl⟩:=rx;exact rule i t s _ _ ⟨.int (g i),H,I.tok _,⟨_,Z'⟩,q⟩
def Sn:WW X (unaryOp .USub) (rU λi=>.int (-i)):=Yh λ_ _ _ _ _ q=>neg_int q
end
section
variable {a b c:Go}
def IB{Yj:QQY}{Q:VK}{k k':Bool}(I:Inv X Yj Y H s)(q:Q (.bl k) H)(e:k=k'):EP X Yj Y Q (.bool k') s:=by subst e;exact⟨.bl k,H,I,Z',q⟩
def Wl:yC X (Op .Lt) (R8 λi j=>.bl (decide (i<j))):=Q1 λ_ _ _ _ _ _ _ q=>lt_int q
def U':yC X (Op .LtE) (R8 λi j=>.bl (decide (i<=j))):=Q1 λ_ _ _ _ _ _ _ q=>le_int q
def Ws:yC X (Op .Gt) (R8 λi j=>.bl (decide (j<i))):=Q1 λ_ _ _ _ _ _ _ q=>gt_int q
def VH:yC X (Op .GtE) (R8 λi j=>.bl (decide (j<=i))):=Q1 λ_ _ _ _ _ _ _ q=>ge_int q
def K8:yC X (Op .In) (λx y H Q=>∃i j,x=.str i/\y=.str j/\Q (.bl (!(Builtin.Str.occurrences j i 0 j.length 1).isEmpty)) H):=by intro Yj s Y H x y v u Q I rx ry h;obtain⟨i,j,rfl,rfl,q⟩:=h;obtain⟨t,rfl⟩:=rx;obtain⟨t',rfl⟩:=ry;exact in_str (IB I q Z')
def Te:yC X (Op .Is) (λx y H Q=>y=.mY/\Q (.bl (decide (x=.mY))) H):=by
 intro Yj s Y H x y v u Q I rx ry h;obtain⟨rfl,q⟩:=h;cases ry;refine is_none_gen (IB I q ?_);cases x<;>first
  | (cases rx;rfl)
  | (obtain⟨t,rfl⟩:=rx;rfl)
def Qd:yC X (Op .IsNot) (λx y H Q=>y=.mY/\Q (.bl (!decide (x=.mY))) H):=by
 intro Yj s Y H x y v u Q I rx ry h;obtain⟨rfl,q⟩:=h;cases ry;refine isnot_none_gen (IB I q ?_);cases x<;>first
  | (cases rx;rfl)
  | (obtain⟨t,rfl⟩:=rx;rfl)
def Ib(b:Go){op:CmpOp}(h:op≠.In:=by decide)(h2:op≠.NotIn:=by decide):AT op b=pc:=by
 have e1:(op==CmpOp.In)=pc:=by cases op<;>first|rfl|exact absurd Z' h
 have e2:(op==CmpOp.NotIn)=pc:=by cases op<;>first|rfl|exact absurd Z' h2
 cases b<;>simp[AT,e1,e2]
def JB{op:CmpOp}(ho:yC X (Op op) r)(ha:PE X a ta)(hb:PE X b tb)(hm:AT op b=pc):PE X (.Compare a [op] [b] pos) (Vk r ta tb):=by intro Yj s Y H Q I h;exact wpAny_Compare1 (SK ha hb I h λv u s2 x y H2 I2 rx ry q=>ho Yj s2 Y H2 x y v u Q I2 rx ry q) hm
def RJ(t:TE):TT:=λY H Q=>t Y H λx H'=>∃k,x=.bl k/\Q k H'
def Jz{op:CmpOp}(ho:yC X (Op op) r)(ha:PE X a ta)(hb:PE X b tb)(hm:AT op b=pc):PT X (.Compare a [op] [b] pos) (RJ (Vk r ta tb)):=by
 intro Yj s Y H Q I h;refine wpAny_isTrue_Compare1 (tz (ha Yj s Y H _ I h) λv s1 zz=>x5 zz λx H1 I1 r1 q1=>tz (hb Yj s1 Y H1 _ I1 q1) λu s2 zz=>x5 zz λy H2 I2 r2 q2=>
  tz (ho Yj s2 Y H2 x y v u _ I2 r1 r2 q2) λc s3 zz=>?_) hm
 obtain⟨z,H3,I3,r3,k,e,q3⟩:=zz;subst e;cases r3;exact fk ⟨H3,I3,q3⟩
def On(r r':R2)(ta tb tc:TE):TE:=λY H Q=>ta Y H λx H1=>tb Y H1 λy H2=>r x y H2 λz H3=>∃k,z=.bl k/\
 (if k=Db then tc Y H3 λw' H4=>r' y w' H4 Q else Q (.bl pc) H3)
def L6{op Zb:CmpOp}(ho:yC X (Op op) r)(YY:yC X (Op Zb) r')(ha:PE X a ta)(hb:PE X b tb)(hc:PE X c tc) (hm:lastMarks [op,Zb] [b,c]=pc:=by with_unfolding_all rfl):PE X (.Compare a [op,Zb] [b,c] pos) (On r r' ta tb tc):=by
 intro Yj s Y H Q I h;refine Compare_chain (tz (ha Yj s Y H _ I h) λv s1 zz=>x5 zz λx H1 I1 r1 q1=>chain_link (tz (hb Yj s1 Y H1 _ I1 q1) λu s2 zz=>x5 zz λy H2 I2 r2 q2=>
  tz (ho Yj s2 Y H2 x y v u _ I2 r1 r2 q2) λd s3 zz=>?_)) hm
 obtain⟨z,H3,I3,r3,k,e,q3⟩:=zz;subst e;cases r3;refine fk ?_;cases k with
 | false=>exact ite_ff ⟨.bl pc,H3,I3,Z',q3⟩
 | true=>exact ite_tt (chain_last (tz (hc Yj s3 Y H3 _ I3 q3) λw' s4 zz=>x5 zz λz' H4 I4 r4 q4=>YY Yj s4 Y H4 y z' u w' Q I4 r2 r4 q4))
def Ml{op Zb:CmpOp}(ho:yC X (Op op) r)(YY:yC X (Op Zb) r')(ha:PE X a ta)(hb:PE X b tb)(hc:PE X c tc) (hm:lastMarks [op,Zb] [b,c]=pc:=by with_unfolding_all rfl):PT X (.Compare a [op,Zb] [b,c] pos) (RJ (On r r' ta tb tc)):=by
 intro Yj s Y H Q I h;refine isTrue_chain (tz (ha Yj s Y H _ I h) λv s1 zz=>x5 zz λx H1 I1 r1 q1=>test_link (tz (hb Yj s1 Y H1 _ I1 q1) λu s2 zz=>x5 zz λy H2 I2 r2 q2=>
  tz (ho Yj s2 Y H2 x y v u _ I2 r1 r2 q2) λd s3 zz=>?_)) hm
 obtain⟨z,H3,I3,r3,k,e,q3⟩:=zz;subst e;cases r3;refine fk ?_;cases k with
 | false=>obtain⟨k',e',q'⟩:=q3;cases e';exact ite_ff ⟨H3,I3,q'⟩
 | true=>refine ite_tt (test_last (tz (hc Yj s3 Y H3 _ I3 q3) λw' s4 zz=>x5 zz λz' H4 I4 r4 q4=>tz (YY Yj s4 Y H4 y z' u w' _ I4 r2 r4 q4) λd' s5 zz=>?_));obtain⟨z2,H5,I5,r5,k2,e2,q5⟩:=zz;subst e2;cases r5;exact fk ⟨H5,I5,q5⟩
def zd:(Ch:Nat)<2 ^ 63:=by rw[dO];decide
def IC:yC X (wS .Add) (λx y H Q=>∃i j,x=.str i/\y=.str j/\i.length+j.length<=Ch/\Q (.str (i++j)) H):=by intro Yj s Y H x y v u Q I rx ry h;obtain⟨i,j,rfl,rfl,hz,q⟩:=h;obtain⟨t,rfl⟩:=rx;obtain⟨t',rfl⟩:=ry;exact add_str (λt' tk=>⟨.str (i++j),H,I.tok _,⟨_,Z'⟩,q⟩) hz
def y9{x:V}(r:qL [x] us):∃u,us=[u]/\rA x u:=by
 cases r with
 | cons r1 r2=>cases r2;exact⟨_,Z',r1⟩
def JS{x y:V}(r:qL [x,y] us):∃u w',us=[u,w']/\rA x u/\rA y w':=by
 cases r with
 | cons r1 r2=>
  cases r2 with
  | cons r3 r4=>cases r4;exact⟨_,_,Z',r1,r3⟩
def LF(hc:X.calm=Db):zV X (.builtin "min") (λxs H Q=>∃i j,xs=[.int i,.int j]/\Q (.int (if j<i then j else i)) H):=by
 intro Yj s Y H xs us Q I r h;obtain⟨i,j,rfl,q⟩:=h;obtain⟨u,w',rfl,⟨t,rfl⟩,⟨t',rfl⟩⟩:=JS r;refine min_two_ints (I.ok.hd hc) λh' tk k=>⟨_,H,I.kept k,?_,q⟩;by_cases hj:j<i
 .rw[dh hj,dh hj];exact⟨_,Z'⟩
 .rw[df hj,df hj];exact⟨_,Z'⟩
end
structure Jj(h:No)(x dx C:Uf)(mA:QQZ):Prop where
 obj:h.get? x=ga (W.instObj C dx)
 ns:h.Ns1 dx mA
 ne:dx≠x
def Lr{h:No}{dx:Uf}{mA:QQZ}(n:h.Ns1 dx mA):∃od,h.get? dx=ga od/\∀name,W.lookIn name od=ga (mA name):=by
 obtain⟨o,es,ep,ho,hd,hk,_,hm⟩:=n;refine⟨o,ho,λname=>?_⟩;have e:=hm name;unfold nsFind findBy at e;rw[<-Array.find?_toList]at e;unfold W.lookIn;rw[hd];dsimp only;split
 .rename_i y q;rw[q]at e;exact eR ga e
 .rename_i q;rw[q]at e;have a:es.toList.any (·.refKey)=pc:=by rw[jx];intro y hy;obtain⟨z,t,hkey⟩:=hk y (ku.mp hy);simp[DictEntry.refKey,hkey]
  have a':¬es.toList.any (·.refKey)=Db:=by rw[a];exact dE
  rw[df a'];exact eR ga e
def Jj.look(I:Jj h x dx C mA):∃od,W.InstAt h x (W.instObj C dx) C (ga od)/\∀name,W.lookIn name od=ga (mA name):=
 let⟨od,ho,hl⟩:=Lr I.ns
 ⟨od,⟨I.obj,Z',Z',ho⟩,hl⟩
variable {prog:Pg}{A:Ar}{K:qJ}{dx C:Uf}{mA:QQZ}{name:Str}
section
variable {w:Wo}{E:QQX}{x f:Uf}{v:Vl}
def Qh{expr:Bool}{Q:QQX}(X:K.In s.heap)(I:Jj s.heap x dx C mA)(hg:W.plainGet K C name=Db)(hh:W.hasDictIn K C=Db) (ha:W.findIn K (.ref C) name=ga Fa) (hv:mA name=ga v) (hv':W.handedIn v=Db) (h:Q v {s with toks:=s.toks+1}):
  pi (Tk prog w) A (getAttr (.ref x) name expr) Q E s:=by
 obtain⟨od,J,hl⟩:=I.look;exact W.get_value X J (kE hg).1 (W.findObj_own hh ha Z' (by rw[hl,hv])) hv' h
def ON{pl:Sem Bool}{Q:Vl×T0 Vl->Sd->Prop}(X:K.In s.heap)(I:Jj s.heap x dx C mA)(hg:W.plainGet K C name=Db) (hf:W.findIn K (.ref C) name=ga (ga (.ref f))) (ht:W.isFn K (.ref f)=Db) (hv:mA name=Fa) (h:Q (.ref f,[.ref x]) s):
  pi (Tk prog w) A (o0 (.ref x) name pl) Q E s:=by
 obtain⟨od,J,hl⟩:=I.look;exact W.method_fn X J (kE hg).1 (kE hg).2 hf (eZ.mp ht) (by show(W.lookIn name od).map (·.isSome)=ga pc;rw[hl,hv];rfl) h
def Ri{Q:Unit->Sd->Prop}(X:K.In s.heap)(I:Jj s.heap x dx C mA) (hs:W.findIn K (.ref C) "__setattr__"=ga (ga (.builtin "object.__setattr__"))) (hp:W.plainOver K C=Db) (ht:W.takerIn K C name=ga Fa) (hh:W.hasDictIn K C=Db) (hw:PySem.Within mA ns) (hsz:ns.length<=Ch) (h:∀h',Jj h' x dx C (λy=>if y=name then ga v else mA y)->Heap.SameBut dx s.heap h'->Q () {s with heap:=h',toks:=s.toks+2}):
  pi (Tk prog w) A (setAttr (.ref x) name v) Q E s:=by
 obtain⟨od,J,hl⟩:=I.look;refine W.set_plain X J hs (W.osa_open (s:={s with toks:=s.toks+1}) (r:=none) X J hp ht λb=>?_);obtain⟨cd,hc,hd'⟩:=W.any_some hh;have hx:s.heap.get? x=ga ⟨.ref C,ga dx,.plain,#[]⟩:=I.obj;refine cY (dv (cY (cY (wpAny_loadPart hx (cY (mG (s:={s with toks:=s.toks+1}) (kF X hc) ?_))))));rw[hd'];refine dv (a:=some dx) (cY (dv (cY ?_)));refine wpAny_nsSet1 (s:={s with toks:=s.toks+1}) I.ns λh' hn2 YZ=>?_;obtain⟨oD,esD,epD,hoD,BX,hcD⟩:=hn2.count (PySem.Within.cons name v hw);refine cY (lW hoD (by rw[BX];exact lX (eh hcD (by rw[eE];lia))) ?_);exact dv (h _ ⟨(YZ.2 _ (dZ I.ne)).trans I.obj,hn2,I.ne⟩ YZ)
def Oe{vs:T0 Vl}{kw:T0 (Str×Vl)}(X:K.In s.heap)(hm:W.makesIn K C=Db) (hi:W.findIn K (.ref C) "__init__"=ga (ga (.ref f))) (hf:W.typeIn K (.ref f)=ga (.type "function")) (h:XXk (Tk prog w) (A.under (.builtin "type.__call__" ⟨.ref C::vs,kw⟩)) (.call (.ref f) ⟨.ref (s.heap.objs.size+1)::vs,kw⟩) (W.InitBack (s.heap.objs.size+1) R) {s with heap:=(s.heap.push W.emptyDict).push (W.instObj C s.heap.objs.size)}):
  XXk (Tk prog w) A (.call (.ref C) ⟨vs,kw⟩) R s:=by
 obtain⟨hh,g,d,t,os⟩:=s;exact W.make_core (W.makes_of X hm) (mC X hi) (λself=>W.bind_fn X self hf) (.inl Z') h
end
noncomputable def wq(f:Str)(v:V):T0 (Str×V)->T0 (Str×V)
 | []=>[(f,v)]
 | (g,x)::r=>if g=f then(g,v)::r else(g,x)::wq f v r
theorem Bp(f g:Str)(v:V):∀fs:T0 (Str×V),(wq f v fs).lookup g=if g=f then ga v else fs.lookup g
 | []=>by
  show List.lookup g [(f,v)]=_;by_cases h:g=f
  .have hb:(g==f)=Db:=eZ.mpr h;simp only[List.lookup,hb,dh h]
  .have hb:(g==f)=pc:=gx.mpr h;simp only[List.lookup,hb,df h]
 | (k,x)::r=>by
  have ih:=Bp f g v r;rw[show wq f v ((k,x)::r)=(if k=f then(k,v)::r else(k,x)::wq f v r)from Z'];by_cases hk:k=f
  .rw[dh hk];by_cases h:g=k
   .have hb:(g==k)=Db:=eZ.mpr h;simp only[List.lookup,hb,dh (h.trans hk)]
   .have hb:(g==k)=pc:=gx.mpr h;simp only[List.lookup,hb,df (λe:g=f=>h (e.trans hk.symm))]
  .rw[df hk];by_cases h:g=k
   .have hb:(g==k)=Db:=eZ.mpr h;simp only[List.lookup,hb,df (λe:g=f=>hk (h.symm.trans e))]
   .have hb:(g==k)=pc:=gx.mpr h;simp only[List.lookup,hb];exact ih
theorem Bg(f:Str)(v:V):∀fs:T0 (Str×V),f∈(wq f v fs).map (·.1)/\∀g,g∈fs.map (·.1)->g∈(wq f v fs).map (·.1)
 | []=>⟨by simp[wq],λg h=>by simp at h⟩
 | (k,x)::r=>by
  obtain⟨i1,i2⟩:=Bg f v r;rw[show wq f v ((k,x)::r)=(if k=f then(k,v)::r else(k,x)::wq f v r)from Z'];by_cases hk:k=f
  .rw[dh hk];subst hk;exact⟨by simp,λg h=>by simpa using h⟩
  .rw[df hk];refine⟨?_,λg h=>?_⟩
   .rw[d6];exact dD _ i1
   .rw[d6]at h ⊢;rcases dz.mp h with e|e
    .exact dz.mpr (.inl e)
    .exact dD _ (i2 g e)
theorem Bu(f:Str)(v:V):∀fs:T0 (Str×V),(wq f v fs).length<=fs.length+1
 | []=>by simp[wq]
 | (k,x)::r=>by
  have ih:=Bu f v r;rw[show wq f v ((k,x)::r)=(if k=f then(k,v)::r else(k,x)::wq f v r)from Z'];by_cases hk:k=f
  .rw[dh hk,eE,eE];lia
  .rw[df hk,eE,eE];lia
def yR.some_of{v:V}(r:yR (ga v) o):∃u,o=ga u/\rA v u:=by
 cases o with
 | none=>exact(show False from r).elim
 | some u=>exact⟨u,Z',r⟩
def yR.none_of{o:Option Vl}(r:yR Fa o):o=Fa:=by
 cases o with
 | none=>rfl
 | some u=>exact(show False from r).elim
def LV{u:Vl}(r:rA v u):W.handedIn u=Db:=by
 cases v with
 | mY=>cases(show u=Value.none from r);rfl
 | bl b=>cases(show u=Value.bool b from r);rfl
 | int i=>obtain⟨t,e⟩:=(show ∃t,u=Value.int i t from r);cases e;rfl
 | str x=>obtain⟨t,e⟩:=(show ∃t,u=Value.str x t from r);cases e;rfl
 | byt b=>obtain⟨t,e⟩:=(show ∃t,u=Value.bytes b t from r);cases e;rfl
 | flt b=>obtain⟨t,e⟩:=(show ∃t,u=Value.float b t from r);cases e;rfl
 | ref a=>cases(show u=Value.ref a from r);rfl
 | ty n=>cases(show u=Value.type n from r);rfl
section
variable {P:Pg}{w:Wo}{a:Uf}{fs fs':T0 (Str × V)}
def BW(m9:yU P w H h)(e:H a=ga (.ins C dx fs)):∃mA,Jj h a dx C mA/\(∀f,yR (fs.lookup f) (mA f))/\PySem.Within mA (fs.map (·.1))/\fs.length<=1000/\H dx=ga (.own a):=by obtain⟨d,z,ne,ob,mA,n,r,q⟩:=(show sQ P w H h a (.ins C dx fs)from m9 a _ e);exact⟨mA,⟨ob,n,ne⟩,r,q,z,d⟩
end
structure Cls(K:qJ)(C:Uf):Prop where
 pg:W.plainGet K C Str.empty=Db
 hd:W.hasDictIn K C=Db
 po:W.plainOver K C=Db
 sa:W.findIn K (.ref C) "__setattr__"=ga (ga (.builtin "object.__setattr__"))
def Cls.get{K:qJ}(c:Cls K C)(f:Str):W.plainGet K C f=Db:=c.pg
def uN(K:qJ)(C:Uf)(f:Str):Prop:=W.findIn K (.ref C) f=ga Fa
def uN.pF{K:qJ}(n:uN K C f):W.takerIn K C f=ga Fa:=by unfold W.takerIn;rw[show W.findIn K (.ref C) f=ga Fa from n];rfl
structure wn(K:qJ)(C:Uf)(m:Str)(f:Uf):Prop where
 at_:W.findIn K (.ref C) m=ga (ga (.ref f))
 fn:W.isFn K (.ref f)=Db
 kp:W.keepIn K (.ref f)=Db
section
variable {Y:St}{a:Uf}{fs:T0 (Str × V)}{f:Str}{v:V}{E:QQX}
def CB{b:Bool}{Q:QQX}(I:Inv X Yj Y H s)(e:H a=ga (.ins C dx fs))(c:Cls X.K C)(n:uN X.K C f)(l:fs.lookup f=ga v) (h:∀u s',Inv X Yj Y H s'->rA v u->Q u s'):pi (Tk X.prog X.w) A (getAttr (.ref a) f b) Q E s:=by
 obtain⟨mA,O,r,_,_,_⟩:=BW I.m9 e;obtain⟨u,hu,ru⟩:=yR.some_of (v:=v) (o:=mA f) (by rw[<-l];exact r f);exact Qh I.nB O (c.get f) c.hd n hu (LV ru) (h u _ (I.tok _) ru)
def Du{pl:Sem Bool}{Q:Vl×T0 Vl->Sd->Prop}(I:Inv X Yj Y H s)(e:H a=ga (.ins C dx fs))(c:Cls X.K C)(k:wn X.K C m g)(l:fs.lookup m=Fa) (h:Q (.ref g,[.ref a]) s):pi (Tk X.prog X.w) A (o0 (.ref a) m pl) Q E s:=by
 obtain⟨mA,O,r,_,_,_⟩:=BW I.m9 e;have hn:mA m=Fa:=yR.none_of (by rw[<-l];exact r m);exact ON I.nB O (c.get m) k.at_ k.fn hn h
def Cm{u:Vl}{Q:Unit->Sd->Prop}(I:Inv X Yj Y H s)(e:H a=ga (.ins C dx fs))(c:Cls X.K C)(n:uN X.K C f)(hl:fs.length<1000)(ry:rA y u) (h:∀s',Inv X Yj Y (upd H a (.ins C dx (wq f y fs))) s'->Q () s'):pi (Tk X.prog X.w) A (setAttr (.ref a) f u) Q E s:=by
 obtain⟨mA,O,r,wi,_,ho⟩:=BW I.m9 e;have hz:(fs.map (·.1)).length<=Ch:=by rw[cX,dO];lia
 refine Ri I.nB O c.sa c.po n.pF c.hd wi hz λh' O' sb=>h _ ?_;have hd:∃o,h'.get? dx=ga o:=let⟨o,_,_,e',_⟩:=O'.ns;⟨o,e'⟩;refine I.write (x:=a) (e:=dx) (by rw[e];exact True.intro) (.inr ho) (λb q hb z=>(sb.2 b hb).trans z) hd ?_;refine⟨by rw[qv O.ne];exact ho,?_,O.ne,O'.obj,_,O'.ns,λg=>?_,λg hg=>?_⟩
 .have:=Bu f y fs;lia
 .show yR ((wq f y fs).lookup g) (if g=f then ga u else mA g);rw[Bp];by_cases q:g=f
  .rw[dh q,dh q];exact ry
  .rw[df q,df q];exact r g
 .by_cases q:g=f
  .rw[q];exact(Bg f y fs).1
  .refine(Bg f y fs).2 g (wi g λz=>hg ?_);show(if g=f then ga u else mA g)=Fa;rw[df q];exact z
def Inv.made(I:Inv X Yj Y H s):Inv X Yj Y (upd (upd H s.heap.objs.size (.own (s.heap.objs.size+1))) (s.heap.objs.size+1) (.ins C s.heap.objs.size [])) {s with heap:=(s.heap.push W.emptyDict).push (W.instObj C s.heap.objs.size)}:=by
 have e1:(s.heap.push W.emptyDict).get? s.heap.objs.size=ga W.emptyDict:=dJ s.heap Z';have e2:((s.heap.push W.emptyDict).push (W.instObj C s.heap.objs.size)).get? (s.heap.objs.size+1)=ga (W.instObj C s.heap.objs.size):=by
  have:=dJ (s.heap.push W.emptyDict) (o:=W.instObj C s.heap.objs.size) Z'
  rwa [fu]at this
 have e3:(s.heap.push W.emptyDict).Ns s.heap.objs.size (λ_=>Fa):=⟨W.emptyDict,#[],_,e1,Z',(λe he=>absurd he (by simp)),λ_=>rfl⟩;have I1:=I.laid (a:=s.heap.objs.size) (o:=.own (s.heap.objs.size+1)) (h':=s.heap.push W.emptyDict) (t':=s.toks) (λb u q=>dg _ q) (dw _) ⟨_,e1⟩;refine I1.laid (a:=s.heap.objs.size+1) (o:=.ins C s.heap.objs.size []) (t':=s.toks) (λb u q=>dg _ q) (mH (fu _ _)) ?_;have ne:s.heap.objs.size≠s.heap.objs.size+1:=dM (fG _);refine⟨by rw[qv ne,qC],eO _,ne,e2,λ_=>Fa,(lF e3).at λo q=>dg _ q,λ_=>True.intro,λy hy=>absurd Z' hy⟩
def RA{prog:Pg}{w:Wo}{env:Env}{e:Go}{f:Str}{s:Sd}{Q:QQX}(hb:Ps e f env (wp e env)=wp e env) (h:pi (Tk prog w) A (wp e env) (λo s₁=>pi (Tk prog w) A (getAttr o f Db) Q E s₁) E s):pi (Tk prog w) A (wp (.Attribute e f pos) env) Q E s:=
 Attribute_any_ h (by rw[arm_eval_Attribute,hb])
end
def W7(K:qJ)(ta:TE)(f:Str):TE:=λY H Q=>ta Y H λx H1=>∃a C dx fs v,x=.ref a/\H1 a=ga (.ins C dx fs)/\Cls K C/\uN K C f/\fs.lookup f=ga v/\Q v H1
def Xy(K:qJ)(ta tv:TE)(f:Str):TS:=λD Y H=>tv Y H λy H1=>ta Y H1 λx H2=>∃a C dx fs,x=.ref a/\H2 a=ga (.ins C dx fs)/\Cls K C/\uN K C f/\fs.length<1000/\
 D.nx Y (upd H2 a (.ins C dx (wq f y fs)))
def Rl(X:Cx)(op:XYc)(rd:V->V->Hp->VK->Prop):Prop:=
 ∀(Yj:QQY) (s:Sd) (Y:St) (H:Hp) (x y:V) (u v:Vl) (Q:VK),Inv X Yj Y H s->rA x u->rA y v->rd x y H Q->pi (Tk X.prog X.w) X.A (inplaceOp op u v) (EP X Yj Y Q) X.xe s
def RC(K:qJ)(ta tv:TE)(rd:V->V->Hp->VK->Prop)(f:Str):TS:=λD Y H=>ta Y H λx H1=>∃a C dx fs v,x=.ref a/\H1 a=ga (.ins C dx fs)/\Cls K C/\uN K C f/\fs.lookup f=ga v/\
 tv Y H1 λy H2=>rd v y H2 λz H3=>∃dx' fs',H3 a=ga (.ins C dx' fs')/\fs'.length<1000/\D.nx Y (upd H3 a (.ins C dx' (wq f z fs')))
variable {value:Go}{Yu tpos:Pos}{tv:TE}
section
variable {o e:Go}{f:Str}
def UC(he:PE X e ta)(hb:Ps e f X.env (wp e X.env)=wp e X.env):PE X (.Attribute e f pos) (W7 X.K ta f):=by intro Yj s Y H Q I h;refine RA hb (tz (he Yj s Y H _ I h) λu s1 zz=>?_);obtain⟨x,H1,I1,rx,a,C,dx,fs,v,ex,ea,c,n,l,q⟩:=zz;subst ex;obtain rfl:u=Value.ref a:=rx;exact CB I1 ea c n l λu' s2 I2 ru=>⟨v,H1,I2,ru,q⟩
def Um(ha:PE X o ta)(hv:PE X value tv)(hs:wE value (ga (.Attribute o f Yu)) pos.line X.env=pure pc):PS X (.Assign [.Attribute o f Yu] value pos) (Xy X.K ta tv f):=by intro Yj s Y H D I h;refine iY (tz (hv Yj s Y H _ I h) λu s1 zz=>x5 zz λy H1 I1 ry q=>tz (ha Yj s1 Y H1 _ I1 q) λov s2 zz=>?_) hs;obtain⟨x,H2,I2,rx,a,C,dx,fs,ex,ea,c,n,l,q2⟩:=zz;subst ex;obtain rfl:ov=Value.ref a:=rx;exact Cm I2 ea c n l ry λs3 I3=>⟨Y,_,I3,q2⟩
def LI(ha:PE X o ta)(hv:PE X value tv)(hop:Rl X op rd):PS X (.AugAssign (.Attribute o f tpos) op value pos) (RC X.K ta tv rd f):=by intro Yj s Y H D I h;refine wpAny_AugAssign_AttributeAny (tz (ha Yj s Y H _ I h) λov s1 zz=>?_);obtain⟨x,H1,I1,rx,a,C,dx,fs,v,ex,ea,c,n,l,q⟩:=zz;subst ex;obtain rfl:ov=Value.ref a:=rx;refine CB I1 ea c n l λu s2 I2 ru=>tz (hv Yj s2 Y H1 _ I2 q) λw3 s3 zz=>x5 zz λy H2 I3 ry q3=>tz (hop Yj s3 Y H2 v y u w3 _ I3 ru ry q3) λw4 s4 zz=>?_;obtain⟨z,H3,I4,rz,dx',fs',ea',l',q4⟩:=zz;exact Cm I4 ea' c n l' rz λs5 I5=>⟨Y,_,I5,q4⟩
def XJ:V->V->Hp->VK->Prop:=λx y H Q=>∃i j,x=.int i/\y=.int j/\Q (.int (i+j)) H
def W8:V->V->Hp->VK->Prop:=λx y H Q=>∃i j,x=.int i/\y=.int j/\Q (.int (i - j)) H
def Ul:Rl X .Add XJ:=by
 rintro Yj s Y H x y u v Q I rx ry ⟨i,j,rfl,rfl,q⟩
 obtain⟨t,rfl⟩:=(show ∃t,u=Value.int i t from rx);obtain⟨t',rfl⟩:=(show ∃t',v=Value.int j t' from ry);exact PyProof.Rows.iadd_int ⟨.int (i+j),H,I.tok _,⟨_,Z'⟩,q⟩
def SM:Rl X .Sub W8:=by
 rintro Yj s Y H x y u v Q I rx ry ⟨i,j,rfl,rfl,q⟩
 obtain⟨t,rfl⟩:=(show ∃t,u=Value.int i t from rx);obtain⟨t',rfl⟩:=(show ∃t',v=Value.int j t' from ry);exact PyProof.Rows.isub_int ⟨.int (i - j),H,I.tok _,⟨_,Z'⟩,q⟩
end
variable {Q:QQX}
section
variable {Y:St}{E:QQX}{c:Vl}{b:Bool}
inductive BE(K:qJ)(H:Hp):V->Vl->Prop where
 | mY:BE K H .mY (.type "NoneType")
 | bl (x:Bool):BE K H (.bl x) (.type "bool")
 | int (i:Int):BE K H (.int i) (.type "int")
 | str (x:Str):BE K H (.str x) (.type "str")
 | flt (x:UInt64):BE K H (.flt x) (.type "float")
 | lst {a:Uf} {xs:List V} (e:H a=ga (.lst xs)):BE K H (.ref a) (.type "list")
 | frz {a:Uf} {o:Obj} {xs:List V} (e:H a=ga (.frz o (.lst xs))):BE K H (.ref a) (.type "list")
 | tup {a:Uf} {xs:List V} (e:H a=ga (.tup xs)):BE K H (.ref a) (.type "tuple")
 | dK {a:Uf} {kvs:List (rM×V)} (e:H a=ga (.dK kvs)):BE K H (.ref a) (.type "dict")
 | dT {a:Uf} {kvs:List (List rM×V)} (e:H a=ga (.dT kvs)):BE K H (.ref a) (.type "dict")
 | ins {a C dx:Uf} {fs:List (Str×V)} (e:H a=ga (.ins C dx fs)) (cl:Cls K C) (ha:W.findIn K (.ref C) "__class__"=ga (ga (.builtin "object.__class__")))
   (hn:W.specialIn K (.builtin "object.__class__") "__get__"=ga (ga (.builtin "getset_descriptor.__get__"))) (htk:W.takesIn K (.builtin "object.__class__")=ga Db)
   (hm:W.mroIn K C (.type "object")=ga Db):BE K H (.ref a) (.ref C)
def vi{u t:Vl}(I:Inv X Yj Y H s)(rx:rA x u)(ty:BE X.K H x t)(e:W.kitOne X.K t c=ga b)(h:∀tk,Q (.bool b) {s with toks:=tk}):
  pi (Tk X.prog X.w) A (call (.builtin "isinstance") [u,c]) Q E s:=by
 cases ty with
 | mY=>cases(show u=Value.none from rx);exact gv W.kitx_none I.nB True.intro e (λz=>nomatch z) h
 | bl y=>cases(show u=Value.bool y from rx);exact gv W.kitx_bool I.nB True.intro e (λz=>nomatch z) h
 | int i=>obtain⟨t,q⟩:=(show ∃t,u=Value.int i t from rx);cases q;exact gv W.kitx_int I.nB True.intro e (λz=>nomatch z) h
 | str y=>obtain⟨t,q⟩:=(show ∃t,u=Value.str y t from rx);cases q;exact gv W.kitx_str I.nB True.intro e (λz=>nomatch z) h
 | flt y=>obtain⟨t,q⟩:=(show ∃t,u=Value.float y t from rx);cases q;exact gv W.kitx_float I.nB True.intro e (λz=>nomatch z) h
 | @lst a xs ea=>cases(show u=Value.ref a from rx);obtain⟨_,_,n,_,h1⟩:=(show sQ X.prog X.w H s.heap a (.lst xs)from I.m9 a _ ea);exact gv lO I.nB ⟨_,h1,Z'⟩ e (λz=>nomatch z) h
 | @frz a ob xs ea=>cases(show u=Value.ref a from rx);obtain⟨_,_,_,n,_,h1⟩:=(show sQ X.prog X.w H s.heap a (.frz ob (.lst xs))from I.m9 a _ ea);exact gv lO I.nB ⟨_,h1,Z'⟩ e (λz=>nomatch z) h
 | @tup a xs ea=>cases(show u=Value.ref a from rx);obtain⟨_,_,_,p⟩:=(show sQ X.prog X.w H s.heap a (.tup xs)from I.m9 a _ ea);obtain⟨o,h1,h2,_⟩:=p;exact gv W.kitx_tuple I.nB ⟨o,h1,h2⟩ e (λz=>nomatch z) h
 | @dK a kvs ea=>cases(show u=Value.ref a from rx);obtain⟨_,_,vs,_,p⟩:=(show sQ X.prog X.w H s.heap a (.dK kvs)from I.m9 a _ ea);obtain⟨o,es,ep,h1,h2,_⟩:=p;exact gv W.kitx_dict I.nB ⟨o,h1,h2.1⟩ e (λz=>nomatch z) h
 | @dT a kvs ea=>cases(show u=Value.ref a from rx);obtain⟨_,_,xs,_,o,es,ep,h1,h2,_⟩:=(show sQ X.prog X.w H s.heap a (.dT kvs)from I.m9 a _ ea);exact gv W.kitx_dict I.nB ⟨o,h1,h2.1⟩ e (λz=>nomatch z) h
 | @ins a C dx fs ea cl ha hn htk hm=>cases(show u=Value.ref a from rx);obtain⟨mA,O,_⟩:=BW I.m9 ea;obtain⟨od,J,_⟩:=O.look;exact gv (W.kitx_own (cl.get _) cl.hd ha hn htk hm) I.nB J e (λz=>nomatch z) h
end
structure sJ(k:Nat)(A:Ar):Prop where
 hd:A.handled=Fa
 dp:A.depth+3*k+5<recursionLimit
 un:A.units+16*k+200<XXa
def sJ.mono{j k:Nat}(r:sJ k A)(h:j<=k):sJ j A:=⟨r.hd,by have:=r.dp;lia,by have:=r.un;lia⟩
def sJ.deeper{k:Nat}(r:sJ (k+1) A)(env:Env):sJ k (A.deeper env):=
 ⟨r.hd,by have:=r.dp;show A.depth+1+3*k+5<_;lia,by have:=r.un;show A.units+3+16*k+200<_;lia⟩
def ID{A:Ar}{C:Uf}{us:T0 Vl}{kw:T0 (Str×Vl)}:(A.under (.builtin "type.__call__" ⟨.ref C::us,kw⟩)).depth=A.depth+1:=by first|rfl|simp[Around.under,Code.weight,Code.isCreation,Code.isGuard,Code.isCaller,Code.frames,Code.isFrame,guardIds]
def Ig{A:Ar}{C:Uf}{us:T0 Vl}{kw:T0 (Str×Vl)}:(A.under (.builtin "type.__call__" ⟨.ref C::us,kw⟩)).units=A.units+1:=by first|rfl|simp[Around.under,Code.cUnits,Code.frames,Code.isFrame]
def sJ.make{k:Nat}(r:sJ (k+1) A)(C:Uf)(us:T0 Vl)(kw:T0 (Str×Vl)):sJ k (A.under (.builtin "type.__call__" ⟨.ref C::us,kw⟩)):=
 ⟨r.hd,by have:=r.dp;rw[ID];lia,by have:=r.un;rw[Ig];lia⟩
def sJ.depth(r:sJ k A):A.depth<recursionLimit:=by have:=r.dp;lia
def sJ.units(r:sJ k A):A.units+64<XXa:=by have:=r.un;lia
def Vv:TA:=λ_ H Q=>Q [] H
def VR(ta:TE)(tr:TA):TA:=λY H Q=>ta Y H λx H1=>tr Y H1 λxs H2=>Q (x::xs) H2
variable {es:T0 Go}
section
variable {e:Go}{t:TA}
def SQ:PA X [] Vv:=λ_ _ _ _ H Q I h=>iP ⟨[],H,I,.nil,h⟩
def Rv(ha:PE X e te)(hr:PA X es t)(hs:BN X e es:=by rfl):PA X (e::es) (VR te t):=by intro pos Yj s Y H Q I h;rw[hs];show pi _ _ (spliced ((pc,wp e X.env)::xz pos (Tl es X.env))) _ _ s;refine iy (tz (ha Yj s Y H _ I h) λu s1 zz=>x5 zz λx H1 I1 r1 q1=>?_);exact tz (hr pos Yj s1 Y H1 _ I1 q1) λus s2 zz=>x5 zz λxs H2 I2 r2 q2=>⟨x::xs,H2,I2,.cons r1 r2,q2⟩
def Xm(t:TA):TE:=λY H Q=>t Y H λxs H1=>xs.length<=Ch/\∀p,H1 p=Fa->Q (.ref p) (upd H1 p (.tup xs))
def XE(t:TA):TE:=λY H Q=>t Y H λxs H1=>xs.length<=Ch/\∀p,H1 p=Fa->Q (.ref p) (upd H1 p (.lst xs))
def Sj{x1}(h:PA X es t):PE X (.Tuple es x1 pos) (Xm t):=by intro Yj s Y H Q I hq;refine wpAny_Tuple_spliced (tz (h pos Yj s Y H _ I hq) λus s1 ⟨xs,H1,I1,r,z,q⟩=>⟨by rw[<-r.length];exact z,?_⟩);have hf:H1 s1.heap.objs.size=Fa:=I1.m9.fresh (dw _);refine⟨.ref s1.heap.objs.size,upd H1 s1.heap.objs.size (.tup xs),I1.laid (t':=s1.toks) (λb u e=>dg _ e) (dw _) ?_,Z',q _ hf⟩;exact⟨z,us,r,⟨_,dJ _ Z',Z',⟨_,Z'⟩,Z'⟩⟩
def Sy(h:PA X es t):PE X (.List es pos) (XE t):=by intro Yj s Y H Q I hq;refine wpAny_List_spliced (tz (h pos Yj s Y H _ I hq) λus s1 ⟨xs,H1,I1,r,z,q⟩=>⟨by rw[<-r.length];exact z,?_⟩);have hf:H1 s1.heap.objs.size=Fa:=I1.m9.fresh (dw _);refine⟨.ref s1.heap.objs.size,upd H1 s1.heap.objs.size (.lst xs),I1.laid (t':=s1.toks) (λb u e=>dg _ e) (dw _) ?_,Z',q _ hf⟩;exact⟨z,us,0,r,dJ _ Z'⟩
end
abbrev Sp:=T0 V->Hp->VK->XK->Prop
abbrev LZ:=T0 Env->Hp->Sd->XK->Vl->Sd->Prop
structure IL(P:Pg)(w:Wo)(K:qJ)(mg:QQZ)(base:No)(A:Ar)(outer:List Env)(s:Sd)(H:Hp):Prop where
 frames:A.frames=ga outer
 mod:Mod K mg base
 bs:∀b o,base.get? b=ga o->s.heap.get? b=ga o/\H b=Fa
 oq:base.objs.size<=s.heap.objs.size
 nL:s.heap.FunFrames base outer
 oG:∀b∈wZ outer,H b=Fa
 m9:yU P w H s.heap
 bare:XYb s.gens
def CE(outer:T0 Env)(P:Pg)(w:Wo)(H:Hp)(s:Sd)(Q:VK)(u:Vl)(s':Sd):Prop:=
 ∃v H',s'.os=s.os/\XYb s'.gens/\Un (wZ outer) [] H H' s.heap s'.heap/\yU P w H' s'.heap/\rA v u/\Q v H'
def CR(CX:LZ)(outer:T0 Env)(P:Pg)(w:Wo)(H:Hp)(s:Sd)(Q:VK)(E:XK)(r:Result)(s':Sd):Prop:=
 match r with
 | .ok (.ret u)=>CE outer P w H s Q u s'
 | .ok _=>False
 | .error e=>CX outer H s E e s'
structure xU(P:Pg)(w:Wo)(K:qJ)(mg:QQZ)(base:No)(CX:LZ)(k:Nat)(f:Uf)(fd:Ix)(ps:QQQ)(sp:Sp):Prop where
 len:∀vs H Q E,sp vs H Q E->vs.length=ps.length
 run:∀(A:Ar) (outer:List Env) (s:Sd) (H:Hp) (args:Args) (us:List Vl) (vs:List V) (Q:VK) (E:XK),sJ k A->IL P w K mg base A outer s H->BindsTo s fd args (ps.zip us)->qL vs us->sp vs H Q E->
  XXk (Tk P w) A (.call (.ref f) args) (CR CX outer P w H s Q E) s
def IL.make{K:qJ}(e:IL P w K mg base A outer s H)(C:Uf)(us:T0 Vl)(kw:T0 (Str×Vl)):
  IL P w K mg base (A.under (.builtin "type.__call__" ⟨.ref C::us,kw⟩)) outer s H:=⟨by first|exact e.frames|(simpa [Around.under,Code.envs,Code.isFrame,pushEnvs]using e.frames),e.mod,e.bs,e.oq,e.nL,e.oG,e.m9,e.bare⟩
variable {s':Sd}
section
variable {Y:St}
def Inv.oE(I:Inv X Yj Y H s):IL X.prog X.w X.K X.mg X.base X.A X.stack s H:=
 ⟨I.ok.frames,I.ok.mod,I.bs,eh I.ok.oq I.sz,I.stack,I.nR,I.m9,I.bare⟩
def Inv.after{Q:VK}{u:Vl}(I:Inv X Yj Y H s)(h:CE X.stack X.prog X.w H s Q u s'):EP X Yj Y Q u s':=by obtain⟨v,H',os,bare,un,m9,r,q⟩:=h;obtain⟨hh,g,d,t,os'⟩:=s';obtain rfl:os'=s.os:=os;exact⟨v,H',I.call (h':=hh) (g':=g) (d':=d) (t':=t) (ch:=[]) un m9 bare (λb z=>absurd z (by simp)),r,q⟩
end
def U9(sp:Sp)(Y7:T0 V)(E:XK)(t:TA):TE:=λY H Q=>t Y H λvs H1=>sp (vs++Y7) H1 Q E
def Wm(C:Uf)(sp:Sp)(Y7:T0 V)(E:XK)(t:TA):TE:=λY H Q=>t Y H λvs H1=>∀x dx,H1 x=Fa->H1 dx=Fa->dx≠x->
 sp (.ref x::(vs++Y7)) (upd (upd H1 dx (.own x)) x (.ins C dx [])) (λv H2=>v=.mY/\Q (.ref x) H2) E
def ve(K:qJ)(fd:Ix)(ps:QQQ)(ds:T0 Vl):Prop:=
 ∀(s:Sd) (us:T0 Vl),K.In s.heap->(us++ds).length=ps.length->BindsTo s fd ⟨us,[]⟩ (ps.zip (us++ds))
def ve.all{K:qJ}{fd:Ix}{ps:QQQ}(h:∀us:T0 Vl,us.length=ps.length->bindArgs fd ⟨us,[]⟩=pure (ps.zip us)):ve K fd ps []:=λs us _ hl=>by rw[eN]at hl ⊢;exact .of_eq (h us hl)
def ze(CX:LZ)(X:Cx)(E:XK):Prop:=∀(Yj:QQY) (Y:St) (H:Hp) (s:Sd) (e:Vl) (s':Sd),Inv X Yj Y H s->CX X.stack H s E e s'->X.xe e s'
variable {CX:LZ}{k:Nat}{fd:Ix}{ps:QQQ}{sp:Sp}{Y7:T0 V}{ds:T0 Vl}{m:Str}{p Ym:Pos}
section
variable {f:Uf}{E:XK}{x:Str}{e o:Go}{t:TA}
def E6{Yj:QQY}{Q:VK}(F:xU X.prog X.w X.K X.mg X.base CX k f fd ps sp)(hr:sJ k X.A)(hb:ve X.K fd ps ds)(hd:qL Y7 ds)(hx:ze CX X E) (I:Inv X Yj Y H s) (r:qL vs us) (h:sp (vs++Y7) H Q E):pi (Tk X.prog X.w) X.A (call (.ref f) us) (EP X Yj Y Q) X.xe s:=by
 have r2:qL (vs++Y7) (us++ds):=r.append hd;have hl:(us++ds).length=ps.length:=by rw[<-r2.length];exact F.len _ _ _ _ h
 refine iL (gq (F.run X.A X.stack s H ⟨us,[]⟩ (us++ds) (vs++Y7) Q E hr I.oE (hb s us I.nB hl) r2 h) λr s' hq=>?_);cases r with
 | error e=>exact hx Yj Y H s e s' I hq
 | ok fl=>
  cases fl with
  | ret u=>exact I.after hq
  | next=>exact False.elim hq
  | brk=>exact False.elim hq
  | cont=>exact False.elim hq
def JA(F:xU X.prog X.w X.K X.mg X.base CX k f fd ps sp)(hr:sJ k X.A)(hg:Gl X x)(hm:X.mg x=ga (.ref f))(hk:W.keepIn X.K (.ref f)=Db)(hb:ve X.K fd ps ds)(hd:qL Y7 ds)(hx:ze CX X E) (ha:PA X (e::es) t) (YC:zF x:=by decide) (he:BN X e es:=by rfl) (YA:Cd X pos es:=by rfl):
  PE X (.Call (.Name x p) (e::es) [] pos) (U9 sp Y7 E t):=by
 intro Yj s Y H Q I h;refine fS (xp I hg hm ?_ YC);refine iZ (h₀:=X.base) I.ok.mod.oJ hk (tz (ha pos Yj s Y H _ I h) λus s1 zz=>x5 zz λvs H1 I1 r q=>⟨I1.nB,?_⟩) he YA;exact E6 F hr hb hd hx I1 r q
structure Mk(K:qJ)(C f:Uf):Prop where
 makes:W.makesIn K C=Db
 init:W.findIn K (.ref C) "__init__"=ga (ga (.ref f))
 fn:W.isFn K (.ref f)=Db
 kp:W.keepIn K (.ref C)=Db
def OD{Yj:QQY}{Q:VK}(M:Mk X.K C f)(F:xU X.prog X.w X.K X.mg X.base CX k f fd ps sp)(hr:sJ (k+1) X.A)(hb:ve X.K fd ps ds)(hd:qL Y7 ds) (hx:ze CX X E) (I:Inv X Yj Y H s) (r:qL vs us) (h:∀x dx,H x=Fa->H dx=Fa->dx≠x->sp (.ref x::(vs++Y7)) (upd (upd H dx (.own x)) x (.ins C dx [])) (λv H2=>v=.mY/\Q (.ref x) H2) E):
  pi (Tk X.prog X.w) X.A (call (.ref C) us) (EP X Yj Y Q) X.xe s:=by
 have hq:=h (s.heap.objs.size+1) s.heap.objs.size (I.m9.fresh (gY _)) (I.m9.fresh (dw _)) (dM (fG _));have I2:=Inv.made (C:=C) I;have r2:qL (V.ref (s.heap.objs.size+1)::(vs++Y7)) (Value.ref (s.heap.objs.size+1)::(us++ds)):=.cons Z' (r.append hd);have hl:(Value.ref (s.heap.objs.size+1)::us++ds).length=ps.length:=by have e:=r2.length;rw[F.len _ _ _ _ hq]at e;exact e.symm
 refine iL (Oe (f:=f) I.nB M.makes M.init (eZ.mp M.fn) (gq (F.run _ X.stack _ _ ⟨Value.ref (s.heap.objs.size+1)::us,[]⟩ (Value.ref (s.heap.objs.size+1)::(us++ds)) _ _ E (hr.make C us [])
  (I2.oE.make C us []) (hb _ (Value.ref (s.heap.objs.size+1)::us) I2.nB hl) r2 hq) λr s' Z2=>?_))
 cases r with
 | error e=>exact hx Yj Y _ _ e s' I2 Z2
 | ok fl=>
  cases fl with
  | ret u=>obtain⟨v,H',I3,rv,ev,q3⟩:=I2.after Z2;subst ev;exact⟨rv,⟨V.ref (s.heap.objs.size+1),H',I3,Z',q3⟩⟩
  | next=>exact False.elim Z2
  | brk=>exact False.elim Z2
  | cont=>exact False.elim Z2
def Pf(M:Mk X.K C f)(F:xU X.prog X.w X.K X.mg X.base CX k f fd ps sp)(hr:sJ (k+1) X.A)(hg:Gl X x)(hm:X.mg x=ga (.ref C))(hb:ve X.K fd ps ds)(hd:qL Y7 ds)(hx:ze CX X E) (ha:PA X (e::es) t) (YC:zF x:=by decide) (he:BN X e es:=by rfl) (YA:Cd X pos es:=by rfl):
  PE X (.Call (.Name x p) (e::es) [] pos) (Wm C sp Y7 E t):=by
 intro Yj s Y H Q I h;refine fS (xp I hg hm ?_ YC);refine iZ (h₀:=X.base) I.ok.mod.oJ M.kp (tz (ha pos Yj s Y H _ I h) λus s1 zz=>x5 zz λvs H1 I1 r q=>⟨I1.nB,?_⟩) he YA;exact OD M F hr hb hd hx I1 r q
end
variable {g:T0 Vl→T0 Vl→T0 Vl}{gV:T0 V→T0 V→T0 V}{ks:QQQ}{kpos:Pos}{kws:T0 XXf}{tk:TA}{nm:Option Str}
section
variable {f:Uf}{E:XK}{x:Str}{e o:Go}{t:TA}
end
structure tW(N P:QQQ)(sc:XXe):Prop where
 kind:sc.kind=.function
 co:sc.isCoroutine=pc
 gen:sc.isGenerator=pc
 nd:N.Nodup
 pre:N.take P.length=P
 par:∀x∈P,sc.names.lookup x=ga .local\/sc.names.lookup x=ga .cell
 pH:∀y∈sc.names,y.2≠.free
theorem EW{kindOf:Str->Option wT}{x:Str}:∀{binds:T0 (Str×Vl)} {m:QQZ},(∀v,(x,v)∉binds)->bindL kindOf binds m x=m x
 | [],_,_=>rfl
 | (n,v)::r,m,h=>by
  unfold bindL;rw[EW λw hw=>h w (dD _ hw)];split
  .have:x≠n:=by rintro rfl;exact h v dH
   simp[this]
  .rfl
theorem EL{kindOf:Str->Option wT}{x:Str}:∀{binds:T0 (Str×Vl)} {m:QQZ},(∀v,(x,v)∉binds)->bindC kindOf binds m x=m x
 | [],_,_=>rfl
 | (n,v)::r,m,h=>by
  unfold bindC;rw[EL λw hw=>h w (dD _ hw)];split
  .rfl
  .have:x≠n:=by rintro rfl;exact h v dH
   simp[this]
theorem Ex{kindOf:Str->Option wT}{x:Str}{v:Vl}:∀{P:QQQ} {vs:T0 Vl} {i:Nat} {m:QQZ},P.Nodup->P[i]?=ga x->vs[i]?=ga v->kindOf x=ga .local->
  bindL kindOf (P.zip vs) m x=ga v
 | [],_,_,_,_,h,_,_=>by simp at h
 | _::_,[],_,_,_,_,h,_=>by simp at h
 | p::P,w::vs,0,m,nd,h1,h2,hk=>by simp at h1 h2;subst h1;subst h2;show bindL kindOf ((p,w)::P.zip vs) m p=_;unfold bindL;rw[EW λv hv=>(dW.mp nd).1 (jY hv).1,dh hk];simp
 | p::P,w::vs,i+1,m,nd,h1,h2,hk=>by show bindL kindOf ((p,w)::P.zip vs) m x=_;unfold bindL;exact Ex (i:=i) (dW.mp nd).2 (by simpa using h1) (by simpa using h2) hk
theorem Eu{kindOf:Str->Option wT}{x:Str}{v:Vl}:∀{P:QQQ} {vs:T0 Vl} {i:Nat} {m:QQZ},P.Nodup->P[i]?=ga x->vs[i]?=ga v->kindOf x≠ga .local->
  bindC kindOf (P.zip vs) m x=ga v
 | [],_,_,_,_,h,_,_=>by simp at h
 | _::_,[],_,_,_,_,h,_=>by simp at h
 | p::P,w::vs,0,m,nd,h1,h2,hk=>by simp at h1 h2;subst h1;subst h2;show bindC kindOf ((p,w)::P.zip vs) m p=_;unfold bindC;rw[EL λv hv=>(dW.mp nd).1 (jY hv).1,df hk];simp
 | p::P,w::vs,i+1,m,nd,h1,h2,hk=>by show bindC kindOf ((p,w)::P.zip vs) m x=_;unfold bindC;exact Eu (i:=i) (dW.mp nd).2 (by simpa using h1) (by simpa using h2) hk
noncomputable def start(N:QQQ)(vs:T0 V):St:=vs.map ga++List.replicate (N.length - vs.length) Fa
noncomputable def vQ(CX:LZ)(P:Pg)(w:Wo)(K:qJ)(mg:QQZ)(base:No)(N:QQQ)(qual:Str)(scope:XXe)(f:Uf)(cd:Vl)(A:Ar)(outer:T0 Env)(s:Sd)(H:Hp)(E:XK):Cx where
 prog:=P
 w:=w
 K:=K
 mg:=mg
 base:=base
 A:=A.deeper (xL qual scope s.heap.objs.size f cd)
 N:=N
 s₀:=s
 H₀:=H
 env:=xL qual scope s.heap.objs.size f cd
 outer:=outer
 stack:=xL qual scope s.heap.objs.size f cd::outer
 ex:=[]
 calm:=true
 fn:=λ_=>Db
 pn:=[]
 xe:=λe s'=>pi (Tk P w) (A.deeper (xL qual scope s.heap.objs.size f cd)) (leaving (xL qual scope s.heap.objs.size f cd) e) (λ_ s''=>CX outer H s E e s'') (λe' s''=>CX outer H s E e' s'') s'
def Hk{sc:XXe}{n:Nat}{x:Str}(h:sc.names.lookup x=ga .cell):∃c,(cellsFrom n sc.names []).lookup x=ga c:=by have q:=lY sc.names n [] (.inl h);exact fJ.mp q
def LB{CX:LZ}{K:qJ}{qual:Str}{f:Uf}{cd:Vl}{A:Ar}{E:XK}{vs:T0 V} (S:tW N ps scope) (hd:A.handled=Fa) (e0:IL P w K mg base A outer s H) (hl:vs.length=ps.length) (r:qL vs us) (x:InCallC s s.heap.objs.size (bindL (xL qual scope s.heap.objs.size f cd).kindOf (ps.zip us) λ_=>Fa) (cellsFrom (s.heap.objs.size+1) scope.names []) (bindC (xL qual scope s.heap.objs.size f cd).kindOf (ps.zip us) λ_=>Fa) s1):
  Inv (vQ CX P w K mg base N qual scope f cd A outer s H E) [] (start N vs) H s1:=by
 have YA:ps.length<=N.length:=by have:=eR List.length S.pre;rw[fg]at this;lia
 obtain⟨h1,tk,rfl,hk⟩:=x.done;have noA:∀b:Uf,b∉(vQ CX P w K mg base N qual scope f cd A outer s H E).ex:=λb z=>absurd (show b∈([]:QXQ)from z) (by simp);refine⟨⟨e0.mod,S.kind,Z',Z',dw _,λy z c h1 h2=>?_,λy hy=>?_,λy c _ h=>?_,λ_=>hd,Around.frames_deeper e0.frames,.inr ⟨Z',Z'⟩,λb z=>absurd z (noA b),e0.bs,e0.oq,λb _ _=>noA b,λb z=>absurd z (noA b),e0.nL,e0.oG⟩,Z',e0.bare,Un.kept hk,⟨_,x.toInCall.ns,λi y v h1 h2 h3=>?_⟩,λy c h=>⟨_,x.cell y c h⟩,e0.m9.fresh (dw _),λy c h=>?_,λp hp=>absurd (show p∈([]:QQY)from hp) (by simp),e0.m9.kept hk,?_⟩
 .exact name_of_addr x.apart (gP h1) (gP h2)
 .have hy:scope.names.lookup y=ga .cell\/scope.names.lookup y=ga .free:=hy;rcases hy with hy|hy
  .exact Hk hy
  .exact absurd Z' (S.pH _ (gP hy))
 .exact hW (x.above y c (gP h))
 .have hi:i<vs.length:=by
   unfold start at h2;by_cases hi:i<vs.length
   .exact hi
   .rw[eY (by simpa using hi)]at h2;rw[jT]at h2;split at h2<;>cases h2
  have ha:vs[i]?=ga v:=by
   unfold start at h2;rw[e9 (by simpa using hi),dG]at h2;cases e:vs[i]? with
   | none=>rw[e]at h2;cases h2
   | some a=>rw[e]at h2;cases h2;rfl
  obtain⟨u,hu,rv⟩:=r.get ha;have hp:ps[i]?=ga y:=by rw[<-S.pre,List.getElem?_take_of_lt (by lia)];exact h1
  have ndP:ps.Nodup:=by rw[<-S.pre];exact S.nd.sublist (List.take_sublist _ _)
  refine⟨u,rv,?_⟩;rcases S.par y (ft hp)with k|k
  .exact .inl ⟨k,Ex ndP hp hu k⟩
  .obtain⟨c,e⟩:=Hk (n:=s.heap.objs.size+1) k;refine .inr ⟨.inl k,c,e,?_⟩;have q:=x.cell y c e;rw[Eu ndP hp hu (by show scope.names.lookup y≠_;rw[k];decide)]at q;exact q
 .exact e0.m9.fresh (hW (x.above y c (gP h)))
 .unfold start;show _=N.length;rw[c9,cX,iW];lia
def ND{CX:LZ}{P:Pg}{w:Wo}{K:qJ}{mg:QQZ}{base:No}{f:Uf}{dV kV YW pm Yv ct oc:Vl}{an od:Option Uf} {Zh:Array (Option Vl)} {N ps:QQQ} {sp:Sp} (lk:K.lookup f=ga ⟨oc,od,.func (W.fnOf name qual params body scope dV kV YW pm an Yv ct),Zh⟩) (ZC:W.codeIn K Yv qual=Db) (S:tW N ps scope) (len:∀vs H Q E,sp vs H Q E->vs.length=ps.length) (YF:∀(A:Ar) (outer:T0 Env) (s:Sd) (H:Hp) (vs:T0 V) (Q:VK) (E:XK),sJ k (A.deeper (xL qual scope s.heap.objs.size f Yv))->sp vs H Q E->
   ∃t,Dd (vQ CX P w K mg base N qual scope f Yv A outer s H E) body t/\t {nx:=λ_ H'=>Q .mY H',rt:=Q} (start N vs) H):
  xU P w K mg base CX (k+1) f (W.fnOf name qual params body scope dV kV YW pm an Yv ct) ps sp:=by
 refine⟨len,λA outer s H args us vs Q E hr e0 hb r ZS=>?_⟩;have hl:=len _ _ _ _ ZS;have KX:K.In s.heap:=e0.mod.oJ.keeps λb o e=>(e0.bs b o e).1;have lim:s.heap.NoLimit:=e0.mod.nolimit.keeps λb o e=>(e0.bs b o e).1;have hkind:∀y∈ps.zip us,scope.names.lookup y.1=ga .local\/(scope.names.lookup y.1=ga .cell/\((cellsFrom (s.heap.objs.size+1) scope.names []).lookup y.1).isSome=Db):=λ⟨n,v⟩ hy=>by
  rcases S.par n (jY hy).1 with q|q
  .exact .inl q
  .exact .inr ⟨q,lY _ _ _ (.inl q)⟩
 refine codeAny_call_function hr.depth (KX _ _ lk) Z' S.co S.gen Z' (W.codeRec_of KX ZC) (hb _ _ _ _ ?_);refine wpAny_newFunctionEnv_cells S.kind hkind λenv he s1 x=>?_;subst he;refine⟨lim.keeps x.toInCall.keep,codeAny_func ?_⟩;obtain⟨t,ht,hq⟩:=YF A outer s H vs Q E (hr.deeper _) ZS;have I:Inv (vQ CX P w K mg base N qual scope f Yv A outer s H E) [] (start N vs) H s1:=LB S hr.hd e0 hl r x;refine eB (ht [] s1 (start N vs) H _ I hq) (λfl s' hs=>?_) λe s' hs=>hs;have Yn:∀{σ':St} {H':Hp} {v:V} {u:Vl},Inv (vQ CX P w K mg base N qual scope f Yv A outer s H E) [] σ' H' s'->rA v u->Q v H'->CE outer P w H s Q u s':=
  λ{σ' H' v u} J rv q=>⟨v,H',J.os,J.bare,J.base,J.m9,rv,q⟩
 cases fl with
 | ret u=>obtain⟨v,σ',H',J,rv,q⟩:=hs;exact Yn J rv q
 | next=>obtain⟨σ',H',J,q⟩:=hs;exact Yn (v:=V.mY) (u:=Value.none) J Z' q
 | brk=>obtain⟨_,_,_,q⟩:=hs;exact False.elim q
 | cont=>obtain⟨_,_,_,q⟩:=hs;exact False.elim q
variable {id T:String}{r:T0 V→Hp→VK→Prop}
section
variable {x:Str}{e:Go}{t:TA}
def X2(r:T0 V->Hp->VK->Prop)(t:TA):TE:=λY H Q=>t Y H λvs H1=>r vs H1 Q
def O1(hc:zV X (.builtin id) r)(hg:Gl X x)(hm:X.mg x=Fa)(hv:zn x=ga (.builtin id))(ha:PA X (e::es) t)(hn:x≠"__name__":=by decide)(YC:zF x:=by decide)
  (he:BN X e es:=by rfl) (YA:Cd X pos es:=by rfl):PE X (.Call (.Name x p) (e::es) [] pos) (X2 r t):=by
 intro Yj s Y H Q I h;refine fS (vY I hg hm hv ?_ hn YC);exact gS (tz (ha pos Yj s Y H _ I h) λus s1 zz=>x5 zz λvs H1 I1 r1 q1=>hc Yj s1 Y H1 vs us Q I1 r1 q1) he YA
def KP(hc:zV X (.type T) r)(hg:Gl X x)(hm:X.mg x=Fa)(hv:zn x=ga (.type T))(ha:PA X (e::es) t)(hn:x≠"__name__":=by decide)(YC:zF x:=by decide)
  (he:BN X e es:=by rfl) (YA:Cd X pos es:=by rfl):PE X (.Call (.Name x p) (e::es) [] pos) (X2 r t):=by
 intro Yj s Y H Q I h;refine fS (vY I hg hm hv ?_ hn YC);exact fC (tz (ha pos Yj s Y H _ I h) λus s1 zz=>x5 zz λvs H1 I1 r1 q1=>hc Yj s1 Y H1 vs us Q I1 r1 q1) he YA
end
end L2
namespace HT
open PySem PyProof.Rows
section
open PySem.SeqAt
open PySem.AutoSeq1 (wpAny_loadPart')
open PySem.MeetsSeq PySem.MeetsSeq2 PySem.MeetsSeq3
end
variable {prog:Pg}{w:Wo}{A:Ar}{E:QQX}{s:Sd}
def QG{vs ws:T0 Vl}{Q:QQX}(ht:IsTup s.heap t vs.toArray)(hb:IsTup s.heap b ws.toArray)(hv:vs≠[]) (h1:ws=[]->Q (.ref t) s) (h2:ws≠[]->Q (.ref s.heap.objs.size) {s with heap:=s.heap.push {cls:=.type "tuple",data:=.seq (vs++ws).toArray}})
  (hsz:vs.length+ws.length<=Ch):pi (Tk prog w) A (wS .Add (.ref t) (.ref b)) Q E s:=by
 obtain⟨⟨cls,dd,data,sl⟩,ho,hc,n,hd⟩:=id ht;obtain⟨⟨cls2,dd2,data2,sl2⟩,ho2,hc2,n2,hd2⟩:=id hb;simp only at hc hd hc2 hd2;subst hc hd hc2 hd2;have e:vs.toArray++ws.toArray=(vs++ws).toArray:=by simp
 by_cases hw:ws=[]
 .exact kY ⟨_,ho,Z'⟩ ⟨_,ho2,Z'⟩ lZ seq_tuple_add j8 jU (jK _ _)
   (tuple_addW1 t b vs.toArray ws.toArray n n2 dd dd2 sl sl2 (by simpa using hv) (by simp[hw])) ⟨ho,ho2,h1 hw⟩
 .refine kY ⟨_,ho,Z'⟩ ⟨_,ho2,Z'⟩ lZ seq_tuple_add j8 jU (jK _ _)
   (tuple_addW2 t b vs.toArray ws.toArray n n2 dd dd2 sl sl2 (by simpa using hv) (by simpa using hw) (by rw[dA,dA];exact hsz)) ⟨ho,ho2,?_⟩
  rw[e];exact h2 hw
noncomputable def ua(n d:Nat):Option Int->Nat
 | none=>d
 | some v=>if v<0 then(v+(n:Int)).toNat else min v.toNat n
def Ck(n d:Nat):ua n d Fa=d:=rfl
def Kx(n d k:Nat):ua n d (ga (k:Int))=min k n:=by show(if (k:Int)<0 then((k:Int)+(n:Int)).toNat else min (k:Int).toNat n)=min k n;rw[df (by lia),iQ]
def S'(n d:Nat)(hd:d<=n)(o:Option Int):ua n d o<=n:=by
 cases o with
 | none=>exact hd
 | some v=>
  show(if v<0 then(v+(n:Int)).toNat else min v.toNat n)<=n;by_cases hv:v<0
  .rw[dh hv];lia
  .rw[df hv];exact Nat.min_le_right _ _
def Kv(v:Int)(n d:Nat):(if v<0 then max (v+(n:Int)) 0 else min v (n:Int))=((ua n d (ga v):Nat):Int):=by
 show(if v<0 then max (v+(n:Int)) 0 else min v (n:Int))=(((if v<0 then(v+(n:Int)).toNat else min v.toNat n):Nat):Int);by_cases hv:v<0
 .simp only[dh hv];lia
 .simp only[df hv];lia
def Je(lo hi:Option Int)(n:Nat):Builtin.Slice.sliceAdjust lo hi 1 (n:Int)=(((ua n 0 lo:Nat):Int),((ua n n hi:Nat):Int)):=by
 have h1:¬((1:Int)<0):=by lia
 unfold Builtin.Slice.sliceAdjust;simp only[h1,kx];refine mI ?_ ?_
 .cases lo with
  | none=>rfl
  | some v=>exact Kv v n 0
 .cases hi with
  | none=>rfl
  | some v=>exact Kv v n n
def Iz(i j:Nat):Builtin.Slice.slicePlaces (i:Int) (j:Int) 1=j - i:=by
 unfold Builtin.Slice.slicePlaces;have h1:(1:Int)>0:=by lia
 simp only[h1,jm,Int.ediv_one];split<;>lia
def Cs{Q:Option Int->Sd->Prop}(p:IsPart v o)(h:Q o s):pi (Tk prog w) A (Builtin.Slice.slicePartIndex v) Q E s:=by
 cases p with
 | none=>exact slicePart_none h
 | int i t=>exact slicePart_int h
def xg{sl:Uf}{vl vu:Vl}{lo hi:Option Int}{Q:Int×Int×Nat->Sd->Prop}(hs:s.heap.IsSliceOf sl vl vu .none)(pl:IsPart vl lo)(pu:IsPart vu hi) (h:Q (((ua n 0 lo:Nat):Int),1,ua n n hi - ua n 0 lo) s):pi (Tk prog w) A (Builtin.Slice.sliceApplied (.ref sl) (pure (n:Int))) Q E s:=by
 obtain⟨os,hos,hcs,ZE⟩:=id hs;unfold Builtin.Slice.sliceApplied Builtin.Slice.sliceFields;refine cY (cY (fj hos ZE (x:=vl) Z' (cY (fj hos ZE (x:=vu) Z' (cY (fj hos ZE (x:=.none) Z' (dv ?_)))))));refine cY (slicePart_none ?_);show pi _ _ (if ((1:Int)==0)=Db then _ else _) _ _ s;rw[df (by decide)];refine cY (Cs pl (cY (Cs pu (cY (dv ?_)))));show pi _ _ (match Builtin.Slice.sliceAdjust lo hi 1 (n:Int)with|(lo,hi)=>pure (lo,(1:Int),Builtin.Slice.slicePlaces lo hi 1)) _ _ s;rw[Je lo hi n];show pi _ _ (pure (((ua n 0 lo:Nat):Int),(1:Int),Builtin.Slice.slicePlaces ((ua n 0 lo:Nat):Int) ((ua n n hi:Nat):Int) 1)) _ _ s;rw[Iz];exact dv h
def Nu(xs:Array Vl)(i k:Nat):((List.range k).filterMap λ(m:Nat)=>xs[((i:Int)+(m:Int)*1).toNat]?).toArray=((xs.toList.drop i).take k).toArray:=by
 have e:(λ(m:Nat)=>xs[((i:Int)+(m:Int)*1).toNat]?)=λm=>xs[i+m]?:=by
  funext m;have:((i:Int)+(m:Int)*1).toNat=i+m:=by lia
  rw[this]
 rw[e];have:=pick_run xs i k;rw[List.filterMap_map]at this;have e2:((λx=>xs[x]?)∘λx=>i+x)=λm=>xs[i+m]?:=rfl;rw[e2]at this;rw[this]
def Ai{t sl:Uf}{vl vu:Vl}{lo hi:Option Int}{Q:QQX}(ht:IsTup s.heap t Yk)(hs:s.heap.IsSliceOf sl vl vu .none)(pl:IsPart vl lo)(pu:IsPart vu hi) (hw:¬(ua Yk.size 0 lo=0/\ua Yk.size Yk.size hi=Yk.size)) (h:Q (.ref s.heap.objs.size) {s with heap:=s.heap.push {cls:=.type "tuple",data:=.seq ((Yk.toList.drop (ua Yk.size 0 lo)).take (ua Yk.size Yk.size hi - ua Yk.size 0 lo)).toArray}})
  (hsz:Yk.size<=Ch):pi (Tk prog w) A (XXg (.ref t) (.ref sl)) Q E s:=by
 have ZN:sizeOk (.seq ((Yk.toList.drop (ua Yk.size 0 lo)).take (ua Yk.size Yk.size hi - ua Yk.size 0 lo)).toArray):=by show((Yk.toList.drop (ua Yk.size 0 lo)).take (ua Yk.size Yk.size hi - ua Yk.size 0 lo)).toArray.size<=Ch;rw[dA,fg,gz,il];lia
 have hj:ua Yk.size Yk.size hi<=Yk.size:=S' _ _ (dw _) hi;obtain⟨os,hos,hcs,ZE⟩:=id hs;have hTs:s.TypeIs (.ref sl) "slice":=⟨os,hos,hcs⟩;unfold XXg
 try with_reducible refine eX ?_
 first|refine cY (dv ?_)|skip
 refine cY (jy ht.typeIs (by decide) ?_);refine cY (fN (name:=Str.ofString "__getitem__") ht.typeIs fD
  (fT fD ht.typeIs kM ?_ (kZ _ _)))
 show pi _ _ (Builtin.Tuple.tupleItemsOf (.ref t)>>=_) _ _ s;refine cY (tupleItemsOf_ ht ?_);refine cY (jL hTs ?_);rw[dh (by decide)];refine cY (xg hs pl pu ?_);have hno:¬((((ua Yk.size 0 lo:Nat):Int)==0&&(1:Int)==1&&(ua Yk.size Yk.size hi - ua Yk.size 0 lo)==Yk.size)=Db):=by intro q;rw[dY,dY]at q;have q1:((ua Yk.size 0 lo:Nat):Int)=0:=dL q.1.1;have q2:ua Yk.size Yk.size hi - ua Yk.size 0 lo=Yk.size:=dL q.2;exact hw ⟨by lia,by lia⟩
 show pi _ _ (if (((ua Yk.size 0 lo:Nat):Int)==0&&(1:Int)==1&&(ua Yk.size Yk.size hi - ua Yk.size 0 lo)==Yk.size)=Db then _ else _) _ _ s;rw[df hno,Nu]
 first
  | exact cY (m:=Builtin.Tuple.tupleExact _) (fV (dv ⟨_,rfl,dv h⟩) ZN)
  | exact cY (m:=Builtin.Tuple.tupleExact _) (fV (cY (dv (dv ⟨_,rfl,dv h⟩))) ZN)
  | exact cY (cY (m:=Builtin.Tuple.tupleExact _) (fV (dv (dv ⟨_,rfl,dv h⟩)) ZN))
  | exact cY (cY (m:=Builtin.Tuple.tupleExact _) (fV (dv ⟨_,rfl,dv h⟩) ZN))
end HT
namespace L2
abbrev TO:=St->Hp->(Option Int->Hp->Prop)->Prop
def PO(X:Cx)(e:Option Go)(t:TO):Prop:=
 ∀(Yj:QQY) (s:Sd) (Y:St) (H:Hp) (Q:Option Int->Hp->Prop),Inv X Yj Y H s->t Y H Q->
  pi (Tk X.prog X.w) X.A (evalPart e X.env) (λu s'=>∃o H',Inv X Yj Y H' s'/\IsPart u o/\Q o H') X.xe s
def P9:TO:=λ_ H Q=>Q Fa H
def VD(t:TE):TO:=λY H Q=>t Y H λx H1=>∃i,x=.int i/\Q (ga i) H1
variable {X:Cx}{e:Go}{te:TE}{lo hi:Option Go}{tl th:TO}{pos p2:Pos}
def QL:PO X Fa P9:=by intro Yj s Y H Q I h;rw[evalPart_none];exact dv ⟨Fa,H,I,.none,h⟩
def Qz(h:PE X e te):PO X (ga e) (VD te):=by intro Yj s Y H Q I hw;rw[evalPart_some];refine tz (h Yj s Y H _ I hw) λu s1 zz=>x5 zz λx H1 I1 r1 q1=>?_;obtain⟨i,rfl,q⟩:=q1;obtain⟨t,rfl⟩:=r1;exact⟨ga i,H1,I1,.int i t,q⟩
def Vc(X:Cx)(r:V->Option Int->Option Int->Hp->VK->Prop):Prop:=
 ∀(Yj:QQY) (s:Sd) (Y:St) (H:Hp) (x:V) (v vl vu:Vl) (lo hi:Option Int) (sl:Uf) (Q:VK),Inv X Yj Y H s->rA x v->s.heap.IsSliceOf sl vl vu .none->IsPart vl lo->IsPart vu hi->r x lo hi H Q->
  ∃T id,typeLookup (.type T) "__getitem__"=pure (ga (.builtin id))/\s.TypeIs v T/\pi (Tk X.prog X.w) X.A (XXg v (.ref sl)) (EP X Yj Y Q) X.xe s
def X8(r:V->Option Int->Option Int->Hp->VK->Prop)(te:TE)(tl th:TO):TE:=λY H Q=>te Y H λx H1=>tl Y H1 λl H2=>th Y H2 λu H3=>r x l u H3 Q
def NH(hr:Vc X r)(he:PE X e te)(hl:PO X lo tl)(hu:PO X hi th):PE X (.Subscript e (.Slice lo hi Fa p2) pos) (X8 r te tl th):=by intro Yj s Y H Q I h;refine Subscript_ (tz (he Yj s Y H _ I h) λv s1 zz=>x5 zz λx H1 I1 r1 q1=>?_);refine wpAny_Slice (tz (hl Yj s1 Y H1 _ I1 q1) λvl s2 zz=>x5 zz λl H2 I2 pl q2=>tz (hu Yj s2 Y H2 _ I2 q2) λvu s3 zz=>x5 zz λu H3 I3 pu q3=>?_);rw[evalPart_none];refine dv ?_;have I4:Inv X Yj Y H3 {s3 with heap:=s3.heap.push {cls:=.type "slice",data:=.fields #[vl,vu,.none]}}:=I3.kept (t':=s3.toks) λb ob q=>dg _ q;obtain⟨T,id,hT,ht,hg⟩:=hr Yj {s3 with heap:=s3.heap.push {cls:=.type "slice",data:=.fields #[vl,vu,.none]}} Y H3 x v vl vu l u s3.heap.objs.size Q I4 r1 (mR ..) pl pu q3;show pi (Tk X.prog X.w) X.A (subscriptTail e (.Slice lo hi Fa p2) v (.ref s3.heap.objs.size)) (EP X Yj Y Q) X.xe {s3 with heap:=s3.heap.push {cls:=.type "slice",data:=.fields #[vl,vu,.none]}};exact tail_any (ops:=[.ref s3.heap.objs.size,v]) ht hT hg (by with_unfolding_all rfl)
noncomputable def CT(xs:T0 V)(lo hi:Option Int):T0 V:=(xs.drop (HT.ua xs.length 0 lo)).take (HT.ua xs.length xs.length hi - HT.ua xs.length 0 lo)
def Bi(xs:T0 V)(lo hi:Option Int):(CT xs lo hi).length<=xs.length:=by unfold CT;rw[fg,gz];lia
def WO(K:qJ):V->Option Int->Option Int->Hp->VK->Prop:=λx lo hi H Q=>∃a xs,x=.ref a/\wm K H a xs/\
 ¬(HT.ua xs.length 0 lo=0/\HT.ua xs.length xs.length hi=xs.length)/\∀p,H p=Fa->Q (.ref p) (upd H p (.tup (CT xs lo hi)))
def SN:Vc X (WO X.K):=by
 intro Yj s Y H x v vl vu lo hi sl Q I rx hs pl pu h;obtain⟨a,xs,rfl,hx,hw,q⟩:=h;cases rx;obtain⟨its,r,ht,hz⟩:=I.tuple hx;have Yp:its.toArray.size=xs.length:=by rw[dA];exact r.length.symm
 refine⟨"tuple",_,fD.lookup,ht.typeIs,?_⟩;refine HT.Ai ht hs pl pu (by rw[Yp];exact hw) ?_ (by rw[Yp];exact hz);rw[Yp];refine⟨.ref s.heap.objs.size,_,I.laid (t':=s.toks) (o:=.tup (CT xs lo hi)) (λb ob q=>dg _ q) (dw _) ?_,Z',q _ (I.m9.fresh (dw _))⟩;exact⟨eh (Bi xs lo hi) hz,_,(r.drop (HT.ua xs.length 0 lo)).take (HT.ua xs.length xs.length hi - HT.ua xs.length 0 lo),FN.new _ _⟩
def VI(K:qJ):R2:=λx y H Q=>∃a b xs ys,x=.ref a/\y=.ref b/\wm K H a xs/\wm K H b ys/\xs≠[]/\xs.length+ys.length<=Ch/\
 (ys=[]->Q (.ref a) H)/\(ys≠[]->∀p,H p=Fa->Q (.ref p) (upd H p (.tup (xs++ys))))
def qL.nY(r:qL xs us):us=[]↔xs=[]:=by
 cases r with
 | nil=>simp
 | cons _ _=>simp
def QO:yC X (wS .Add) (VI X.K):=by intro Yj s Y H x y v u Q I rx ry h;obtain⟨a,b,xs,ys,rfl,rfl,ha,hb,hx,hz,q1,q2⟩:=h;cases rx;cases ry;obtain⟨its,r1,p1,_⟩:=I.tuple ha;obtain⟨its2,r2,p2,_⟩:=I.tuple hb;refine HT.QG p1 p2 (λz=>hx (r1.nY.mp z)) (λz=>⟨.ref a,H,I,Z',q1 (r2.nY.mp z)⟩) (λz=>?_) (by rw[<-r1.length,<-r2.length];exact hz);refine⟨.ref s.heap.objs.size,_,I.laid (t':=s.toks) (o:=.tup (xs++ys)) (λb ob q=>dg _ q) (dw _) ?_,Z',q2 (λw=>z (r2.nY.mpr w)) _ (I.m9.fresh (dw _))⟩;exact⟨by rw[c9];exact hz,_,r1.append r2,FN.new _ _⟩
noncomputable def Gc(n:Nat)(i:Int):Option Nat:=if 0<=i then(if i<n then ga i.toNat else Fa)else if -(n:Int)<=i then ga (i+n).toNat else Fa
noncomputable def wY{α:Type}(xs:List α)(i:Int):Option α:=(Gc xs.length i).bind λj=>xs[j]?
def JQ{j:Nat}(h:Gc n i=ga j):seqIndex? i n=ga j/\j<n/\-(n:Int)<=i/\i<n:=by
 unfold Gc at h;by_cases h0:0<=i
 .rw[dh h0]at h;by_cases h1:i<n
  .rw[dh h1]at h;have e:i.toNat=j:=dq h;exact⟨by rw[lP h0 h1,e],by lia,by lia,h1⟩
  .rw[df h1]at h;cases h
 .rw[df h0]at h;by_cases h1:-(n:Int)<=i
  .rw[dh h1]at h;have e:(i+n).toNat=j:=dq h;exact⟨by rw[k9 (by lia) h1,e],by lia,h1,by lia⟩
  .rw[df h1]at h;cases h
def Gj{α:Type}{xs:List α}{i:Int}{v:α}(h:wY xs i=ga v):∃j,seqIndex? i xs.length=ga j/\xs[j]?=ga v/\j<xs.length/\-(xs.length:Int)<=i/\i<xs.length:=by
 unfold wY at h;cases e:Gc xs.length i with
 | none=>rw[e]at h;cases h
 | some j=>rw[e]at h;obtain⟨h1,h2,h3,h4⟩:=JQ e;exact⟨j,h1,h,h2,h3,h4⟩
def vK{α:Type}{xs:List α}{j:Nat}{v:α}(h:xs[j]?=ga v):wY xs (j:Int)=ga v:=by
 have hj:j<xs.length:=(de.mp h).1;have e:Gc xs.length (j:Int)=ga j:=by unfold Gc;rw[dh (by lia),dh (by lia)];simp
 unfold wY;rw[e];exact h
def GP{α:Type}(xs:List α)(v:α):wY (xs++[v]) (-1)=ga v:=by
 have hl:(xs++[v]).length=xs.length+1:=by simp
 have e:Gc (xs++[v]).length (-1)=ga xs.length:=by unfold Gc;rw[hl,df (by decide),dh (by lia)];congr 1;lia
 unfold wY;rw[e];show(xs++[v])[xs.length]?=ga v;simp
def B1(b:Go):Prop:=∀o i,subscripted b pc o i=operate [o,i] (XXg o i)
def UI(X:Cx)(r:R2):Prop:=
 ∀(value Yx:Go) (Yj:QQY) (s:Sd) (Y:St) (H:Hp) (x y:V) (v u:Vl) (Q:VK),Inv X Yj Y H s->rA x v->rA y u->r x y H Q->
  subscripted Yx pc v u=operate [v,u] (XXg v u)->pi (Tk X.prog X.w) X.A (subscriptTail value Yx v u) (EP X Yj Y Q) X.xe s
def WQ(X:Cx)(id:String)(r:V->T0 V->Hp->VK->Prop):Prop:=
 ∀(Yj:QQY) (s:Sd) (Y:St) (H:Hp) (x:V) (xs:T0 V) (v:Vl) (us:T0 Vl) (Q:VK),Inv X Yj Y H s->rA x v->qL xs us->r x xs H Q->
  pi (Tk X.prog X.w) X.A (call (.builtin id) (v::us)) (EP X Yj Y Q) X.xe s
variable {o:Go}{es:T0 Go}{to:TE}{t:TA}{name:Str}{Ym Yq:Pos}{T id:String}{r:V→T0 V→Hp→VK→Prop}{a:Go}{ta tb:TE}
section
variable {b:Go}
def O4{r:R2}(hr:UI X r)(ha:PE X a ta)(hb:PE X b tb)(hs:B1 b):PE X (.Subscript a b pos) (Vk r ta tb):=by intro Yj s Y H Q I h;exact Subscript_ (SK ha hb I h λv u s2 x y H2 I2 rx ry q=>hr a b Yj s2 Y H2 x y v u Q I2 rx ry q (hs _ _))
def W2(K:qJ):R2:=λx y H Q=>∃p xs i v,x=.ref p/\y=.int i/\xW K H p xs/\wY xs i=ga v/\Q v H
def WM(K:qJ):R2:=λx y H Q=>∃p xs i v,x=.ref p/\y=.int i/\wm K H p xs/\wY xs i=ga v/\Q v H
def WR:R2:=λx y H Q=>∃z i c,x=.str z/\y=.int i/\z.length<=Ch/\wY z.cps.toList i=ga c/\Q (.str ⟨#[c]⟩) H
def Kt:UI X (W2 X.K):=by
 intro value Yx Yj s Y H x y v u Q I rx ry h hs;obtain⟨p,xs,i,z,rfl,rfl,hq,he,q⟩:=h;cases rx;obtain⟨t,rfl⟩:=ry;obtain⟨its,r,pl,hz⟩:=I.list hq;obtain⟨j,h1,h2,h3,h4,h5⟩:=Gj he;obtain⟨w,ew,rw'⟩:=r.get h2;have hl:=r.length;have hn:=zd;have Yn:EP X Yj Y Q w s:=⟨z,H,I,rw',q⟩;by_cases h0:0<=i
 .have hj:i.toNat=j:=by rw[lP h0 h5]at h1;exact dq h1
  exact item_listR pl.isList h0 (by lia) (by rw[hj];simpa using ew) Yn hs
 .have hj:(i+(its.toArray.size:Int)).toNat=j:=by rw[k9 (by lia) h4]at h1;rw[dA,<-hl];exact dq h1
  exact j9 (x:=w) pl.isList.typeIs lG.lookup
   (wpAny_getItem_list_neg (Q:=λr s'=>r=w/\EP X Yj Y Q r s') pl.isList (by lia) (by rw[dA]<;>lia) (by lia) (by rw[hj];simpa using ew) ⟨Z',Yn⟩) hs
def Uz:UI X (WM X.K):=by
 intro value Yx Yj s Y H x y v u Q I rx ry h hs;obtain⟨p,xs,i,z,rfl,rfl,hq,he,q⟩:=h;cases rx;obtain⟨t,rfl⟩:=ry;obtain⟨its,r,pl,hz⟩:=I.tuple hq;obtain⟨j,h1,h2,h3,h4,h5⟩:=Gj he;obtain⟨w,ew,rw'⟩:=r.get h2;have hl:=r.length;have hn:=zd;have Yn:EP X Yj Y Q w s:=⟨z,H,I,rw',q⟩;exact j9 (x:=w) pl.typeIs slot_tuple_getitem.lookup
  (getItem_tuple (j:=j) (Q:=λr s'=>r=w/\EP X Yj Y Q r s') pl (by lia) (by lia) (by rw[dA,<-hl];exact h1) (by simpa using ew) ⟨Z',Yn⟩) hs
def T5:UI X WR:=by
 intro value Yx Yj s Y H x y v u Q I rx ry h hs;obtain⟨z,i,c,rfl,rfl,hz,he,q⟩:=h;obtain⟨t,rfl⟩:=rx;obtain⟨t',rfl⟩:=ry;obtain⟨j,h1,h2,h3,h4,h5⟩:=Gj he;have hl:z.cps.toList.length=z.length:=by simp[Str.length]
 rw[hl]at h1 h4 h5;have hn:=zd;exact tail_any (typeIs_str s z t) slot_str_getitem.lookup (getItem_str (c:=c) (by
  have e1:decide (i< -(2 ^ 63:Int))=pc:=eQ (by lia);have e2:decide (i>=2 ^ 63)=pc:=eQ (by lia);rw[e1,e2,kG]) (by rw[h1];simpa using h2) ⟨.str ⟨#[c]⟩,H,I.tok _,⟨_,Z'⟩,q⟩) hs
def Jp(its:T0 Vl)(n j:Nat)(u:Vl):Obj.mapSeq (·.setIfInBounds j u) {cls:=.type "list",data:=.seq its.toArray n}={cls:=.type "list",data:=.seq (its.set j u).toArray n}:=by simp[Obj.mapSeq]
def Inv.lst{p:Uf}{xs:T0 V}(I:Inv X Yj Y H s)(h:H p=ga (.lst xs)):
  ∃(its:T0 Vl) (n:Nat),qL xs its/\s.heap.get? p=ga {cls:=.type "list",data:=.seq its.toArray n}/\xs.length<=Ch:=by
 obtain⟨z,its,n,r,e⟩:=I.m9 p _ h;exact⟨its,n,r,e,z⟩
def Inv.oW{p:Uf}{xs ys:T0 V}{its its':T0 Vl}{n n':Nat}{f:Obj->Obj}(I:Inv X Yj Y H s)(h:H p=ga (.lst xs)) (ho:s.heap.get? p=ga {cls:=.type "list",data:=.seq its.toArray n}) (hf:f {cls:=.type "list",data:=.seq its.toArray n}={cls:=.type "list",data:=.seq its'.toArray n'}) (r:qL ys its') (hz:ys.length<=Ch) (t:Nat):
  Inv X Yj Y (upd H p (.lst ys)) {s with heap:=s.heap.update p f,toks:=t}:=by
 have e:(s.heap.update p f).get? p=ga {cls:=.type "list",data:=.seq its'.toArray n'}:=by rw[fK f ho (by rw[hf]<;>rfl),hf]
 refine I.write (x:=p) (e:=p) (by rw[h];trivial) (.inl Z') (λb u hb q=>(gf _ _ (dZ hb)).trans q) ⟨_,e⟩ ?_;exact⟨hz,its',n',r,e⟩
def Wp:V->V->V->Hp->(Hp->Prop)->Prop:=λo i v H Q=>∃p xs k j,o=.ref p/\i=.int k/\H p=ga (.lst xs)/\Gc xs.length k=ga j/\Q (upd H p (.lst (xs.set j v)))
def Nd:Ve X Wp:=by
 intro Yj s Y H o i v ov iv u Q I ro ri rv h;obtain⟨p,xs,k,j,rfl,rfl,hp,hj,q⟩:=h;cases ro;obtain⟨t,rfl⟩:=ri;obtain⟨its,n,r,ho,hz⟩:=I.lst hp;obtain⟨h1,h2,h3,h4⟩:=JQ hj;have hl:=r.length;have hn:=zd;have I':Inv X Yj Y (upd H p (.lst (xs.set j v))) {s with heap:=s.heap.update p (Obj.mapSeq (·.setIfInBounds j u))}:=
  I.oW hp ho (Jp its n j u) (r.set rv j) (by rw[im];exact hz) s.toks
 by_cases h0:0<=k
 .have hk:k.toNat=j:=by rw[lP h0 h4]at h1;exact dq h1
  exact W.ki_setAt ho h0 (by lia) (by rw[dA,<-hl];exact h4) (by rw[hk];exact⟨_,I',q⟩)
 .have hk:(k+(its.toArray.size:Int)).toNat=j:=by rw[k9 (by lia) h3]at h1;rw[dA,<-hl];exact dq h1
  exact W.ki_setBack ho (by lia) (by rw[dA,<-hl];exact h3) (by lia) (by rw[hk];exact⟨_,I',q⟩)
def Gf(lo hi:Option Int)(n:Nat):(XXh lo hi Fa n).1=((HT.ua n 0 lo:Nat):Int)/\(XXh lo hi Fa n).2.1=((HT.ua n n hi:Nat):Int)/\(XXh lo hi Fa n).2.2=1:=by
 refine⟨?_,?_,Z'⟩
 .cases lo with
  | none=>simp[XXh,HT.ua]
  | some i=>
   simp only[XXh,HT.ua,l0,show(1:Int)>0 by decide,jm];by_cases h:i<0
   .simp only[h,jm]<;>lia
   .simp only[h,kx]<;>lia
 .cases hi with
  | none=>simp[XXh,HT.ua]
  | some i=>
   simp only[XXh,HT.ua,l0,show(1:Int)>0 by decide,jm];by_cases h:i<0
   .simp only[h,jm]<;>lia
   .simp only[h,kx]<;>lia
def DJ(its:T0 Vl)(lo hi:Option Int):slicePick its.toArray lo hi Fa=((its.drop (HT.ua its.length 0 lo)).take (HT.ua its.length its.length hi - HT.ua its.length 0 lo)).toArray:=by obtain⟨h1,h2,h3⟩:=Gf lo hi its.toArray.size;unfold slicePick;rw[h1,h2,h3];simp only[sliceRange_one,pick_run,dA]<;>rfl
def W6(K:qJ):V->Option Int->Option Int->Hp->VK->Prop:=λx lo hi H Q=>∃a xs,x=.ref a/\xW K H a xs/\∀p,H p=Fa->Q (.ref p) (upd H p (.lst (CT xs lo hi)))
def Ks:Vc X (W6 X.K):=by intro Yj s Y H x v vl vu lo hi sl Q I rx hs pl pu h;obtain⟨a,xs,rfl,hx,q⟩:=h;cases rx;obtain⟨its,r,ht,hz⟩:=I.list hx;have Yp:=r.length;refine⟨"list",_,lG.lookup,ht.isList.typeIs,?_⟩;refine wpAny_getItem_list_slice ht.isList hs pl pu .none (by simp) ?_ (by rw[dA]<;>lia);rw[DJ,<-Yp];refine⟨.ref s.heap.objs.size,_,I.laid (t':=s.toks) (o:=.lst (CT xs lo hi)) (λb ob q=>dg _ q) (dw _) ?_,Z',q _ (I.m9.fresh (dw _))⟩;exact⟨eh (Bi xs lo hi) hz,_,0,(r.drop (HT.ua xs.length 0 lo)).take (HT.ua xs.length xs.length hi - HT.ua xs.length 0 lo),dJ _ Z'⟩
noncomputable def yV:V->Bool
 | .mY=>Db
 | .bl _=>Db
 | .int _=>Db
 | .str _=>Db
 | _=>pc
noncomputable def O7:V->V->Bool
 | .mY,.mY=>Db
 | .bl a,.bl b=>a==b
 | .bl a,.int b=>(if a then 1 else 0)==b
 | .int a,.bl b=>a==(if b then 1 else 0)
 | .int a,.int b=>a==b
 | .str a,.str b=>a==b
 | _,_=>pc
def Si(ry:rA y u)(rx:rA x v)(fy:yV y=Db)(fx:yV x=Db):SeqAt.EqAt A s u v (O7 y x):=by
 cases y with
 | mY=>
  cases ry;cases x with
  | mY=>cases rx;exact SeqAt.EqAt.same _
  | bl b=>cases rx;exact SeqAt.EqAt.none_bool b
  | int b=>obtain⟨t,rfl⟩:=rx;exact SeqAt.EqAt.none_int b t
  | str b=>obtain⟨t,rfl⟩:=rx;exact SeqAt.EqAt.none_str b t
  | _=>exact absurd (show pc=Db from fx) dE
 | bl a=>
  cases ry;cases x with
  | mY=>cases rx;exact SeqAt.EqAt.bool_none a
  | bl b=>cases rx;exact SeqAt.EqAt.bool_bool a b
  | int b=>obtain⟨t,rfl⟩:=rx;exact SeqAt.EqAt.bool_int a b t
  | str b=>obtain⟨t,rfl⟩:=rx;exact SeqAt.EqAt.bool_str a b t
  | _=>exact absurd (show pc=Db from fx) dE
 | int a=>
  obtain⟨t',rfl⟩:=ry;cases x with
  | mY=>cases rx;exact SeqAt.EqAt.int_none a t'
  | bl b=>cases rx;exact SeqAt.EqAt.int_bool a t' b
  | int b=>obtain⟨t,rfl⟩:=rx;exact SeqAt.EqAt.int_int a t' b t
  | str b=>obtain⟨t,rfl⟩:=rx;exact kT a t' b t
  | _=>exact absurd (show pc=Db from fx) dE
 | str a=>
  obtain⟨t',rfl⟩:=ry;cases x with
  | mY=>cases rx;exact SeqAt.EqAt.str_none a t'
  | bl b=>cases rx;exact SeqAt.EqAt.str_bool a t' b
  | int b=>obtain⟨t,rfl⟩:=rx;exact kU a t' b t
  | str b=>obtain⟨t,rfl⟩:=rx;exact SeqAt.EqAt.str_str a t' b t
  | _=>exact absurd (show pc=Db from fx) dE
 | _=>exact absurd (show pc=Db from fy) dE
noncomputable def E5(x:V)(u:Vl):Bool:=match u with
 | .none=>O7 .mY x
 | .bool b=>O7 (.bl b) x
 | .int i _=>O7 (.int i) x
 | .str z _=>O7 (.str z) x
 | _=>pc
def IM(r:rA y u)(f:yV y=Db):E5 x u=O7 y x:=by
 cases y with
 | mY=>cases r;rfl
 | bl b=>cases r;rfl
 | int i=>obtain⟨t,rfl⟩:=r;rfl
 | str z=>obtain⟨t,rfl⟩:=r;rfl
 | _=>exact absurd (show pc=Db from f) dE
theorem zT:∀{xs:T0 V} {us:T0 Vl},qL xs us->xs.all yV=Db->us.any (E5 x)=xs.any λy=>O7 y x
 | _,_,.nil,_=>rfl
 | y::xs,u::us,.cons r t,f=>by rw[fv,dY]at f;rw[gg,gg,IM r f.1,zT t f.2]
theorem xh(rx:rA x v)(fx:yV x=Db):∀{xs:T0 V} {us:T0 Vl},qL xs us->xs.all yV=Db->∀u∈us,SeqAt.EqAt A s u v (E5 x u)
 | _,_,.nil,_=>λu hu=>by cases hu
 | y::xs,u::us,.cons r t,f=>λu' hu=>by
  rw[fv,dY]at f;rcases dz.mp hu with rfl|hu
  .rw[IM r f.1];exact Si r rx f.1 fx
  .exact xh rx fx t f.2 u' hu
noncomputable def inV(x:V)(xs:T0 V):Bool:=xs.any λy=>O7 y x
def WX(K:qJ)(ZW:Bool):R2:=λx y H Q=>∃p xs,y=.ref p/\(xW K H p xs\/wm K H p xs)/\yV x=Db/\xs.all yV=Db/\Q (.bl (if ZW then !inV x xs else inV x xs)) H
def LR:yC X (Op .In) (WX X.K pc):=by
 intro Yj s Y H x y v u Q I rx ry h;obtain⟨p,xs,rfl,hq,fx,fs,q⟩:=h;cases ry;rcases hq with hq|hq
 .obtain⟨its,r,pl,hz⟩:=I.list hq;refine SeqAt.in_listAt (E5 x) pl.isList (λw hw=>xh rx fx r fs w (by simpa using hw)) ⟨.bl _,H,I,Z',?_⟩;rw[show its.toArray.any (E5 x)=its.any (E5 x)by simp,zT r fs];exact q
 .obtain⟨its,r,pl,hz⟩:=I.tuple hq;refine SeqAt.in_tupleAt (E5 x) pl (λw hw=>xh rx fx r fs w (by simpa using hw)) ⟨.bl _,H,I,Z',?_⟩;rw[show its.toArray.any (E5 x)=its.any (E5 x)by simp,zT r fs];exact q
def Gm:yC X (Op .NotIn) (WX X.K Db):=by
 intro Yj s Y H x y v u Q I rx ry h;obtain⟨p,xs,rfl,hq,fx,fs,q⟩:=h;cases ry;rcases hq with hq|hq
 .obtain⟨its,r,pl,hz⟩:=I.list hq;refine SeqAt.notIn_listAt (E5 x) pl.isList (λw hw=>xh rx fx r fs w (by simpa using hw)) ⟨.bl _,H,I,Z',?_⟩;rw[show its.toArray.any (E5 x)=its.any (E5 x)by simp,zT r fs];exact q
 .obtain⟨its,r,pl,hz⟩:=I.tuple hq;refine SeqAt.notIn_tupleAt (E5 x) pl (λw hw=>xh rx fx r fs w (by simpa using hw)) ⟨.bl _,H,I,Z',?_⟩;rw[show its.toArray.any (E5 x)=its.any (E5 x)by simp,zT r fs];exact q
def E8:yC X (Op .NotIn) (λx y H Q=>∃i j,x=.str i/\y=.str j/\Q (.bl (!(!(Builtin.Str.occurrences j i 0 j.length 1).isEmpty))) H):=by intro Yj s Y H x y v u Q I rx ry h;obtain⟨i,j,rfl,rfl,q⟩:=h;obtain⟨t,rfl⟩:=rx;obtain⟨t',rfl⟩:=ry;exact notIn_str ⟨.bl _,H,I,Z',q⟩
def xu:zV X (.builtin "len") (λxs H Q=>∃p ys,xs=[.ref p]/\(xW X.K H p ys\/wm X.K H p ys)/\Q (.int ys.length) H):=by
 intro Yj s Y H xs us Q I r h;obtain⟨p,ys,rfl,hq,q⟩:=h;obtain⟨u,rfl,rx⟩:=y9 r;cases rx;have hn:=zd;rcases hq with hq|hq
 .obtain⟨its,r',pl,hz⟩:=I.list hq;have Yp:=r'.length;exact Calls.call_len_list pl.isList (by simp only[dA]<;>lia) ⟨.int ys.length,H,I.tok _,⟨s.toks+1,by rw[dA,Yp]⟩,q⟩
 .obtain⟨its,r',pl,hz⟩:=I.tuple hq;have Yp:=r'.length;exact len_tuple pl (by simp only[dA]<;>lia) ⟨.int ys.length,H,I.tok _,⟨s.toks+1,by rw[dA,Yp]⟩,q⟩
def Gy:zV X (.builtin "len") (λxs H Q=>∃z,xs=[.str z]/\z.length<=Ch/\Q (.int z.length) H):=by intro Yj s Y H xs us Q I r h;obtain⟨z,rfl,hz,q⟩:=h;obtain⟨u,rfl,t,rfl⟩:=y9 r;have hn:=zd;exact len_str (by lia) ⟨.int z.length,H,I.tok _,⟨_,Z'⟩,q⟩
def FO:zV X (.type "list") (λxs H Q=>∃p ys,xs=[.ref p]/\(xW X.K H p ys\/wm X.K H p ys)/\∀l,H l=Fa->Q (.ref l) (upd H l (.lst ys))):=by
 intro Yj s Y H xs us Q I r h;obtain⟨p,ys,rfl,hq,q⟩:=h;obtain⟨u,rfl,rx⟩:=y9 r;cases rx;have Yn:∀(its:T0 Vl),qL ys its->ys.length<=Ch->∀(h':No) (c':Nat),(∀b o',s.heap.get? b=ga o'->h'.get? b=ga o')->
   h'.get? s.heap.objs.size=ga {cls:=.type "list",dict:=none,data:=.seq its.toArray c',slots:=#[]}->EP X Yj Y Q (.ref s.heap.objs.size) {s with heap:=h'}:=λits r' hz h' c' kp e=>
  ⟨.ref s.heap.objs.size,_,I.laid (t':=s.toks) kp (dw _) (show sQ X.prog X.w _ h' _ (.lst ys)from⟨hz,its,c',r',e⟩),Z',q _ (I.m9.fresh (dw _))⟩
 rcases hq with hq|hq
 .obtain⟨its,r',pl,hz⟩:=I.list hq;have Yp:=r'.length;obtain⟨o,ho,hc,n,hd⟩:=pl.isList;exact call_list_seq p (.inl Z') ho hc hd (λh' c' kp e=>Yn its r' hz h' c' kp e) (by simp only[dA]<;>lia)
 .obtain⟨its,r',pl,hz⟩:=I.tuple hq;have Yp:=r'.length;obtain⟨o,ho,hc,n,hd⟩:=pl;exact call_list_seq p (.inr Z') ho hc hd (λh' c' kp e=>Yn its r' hz h' c' kp e) (by simp only[dA]<;>lia)
def wV:zV X (.type "tuple") (λxs H Q=>∃p ys,xs=[.ref p]/\((xW X.K H p ys/\∀l,H l=Fa->Q (.ref l) (upd H l (.tup ys)))\/(wm X.K H p ys/\Q (.ref p) H))):=by
 intro Yj s Y H xs us Q I r h;obtain⟨p,ys,rfl,h⟩:=h;obtain⟨u,rfl,rx⟩:=y9 r;cases rx;rcases h with⟨hq,q⟩|⟨hq,q⟩
 .obtain⟨its,r',pl,hz⟩:=I.list hq;have Yp:=r'.length;refine call_tuple_list pl.isList (λh' kp=>?_) (by simp only[dA]<;>lia);have I1:Inv X Yj Y H {s with heap:=h'}:=I.kept (t':=s.toks) kp;have I2:Inv X Yj Y (upd H h'.objs.size (.tup ys)) {s with heap:=h'.push {cls:=.type "tuple",data:=.seq its.toArray}}:=
   I1.laid (t':=s.toks) (λb o e=>dg _ e) (dw _) (show sQ X.prog X.w _ _ _ (.tup ys)from⟨hz,its,r',FN.new _ _⟩)
  exact⟨.ref h'.objs.size,_,I2,Z',q _ (I1.m9.fresh (dw _))⟩
 .obtain⟨its,r',pl,hz⟩:=I.tuple hq;exact call_tuple_same pl ⟨.ref p,H,I,Z',q⟩
def WE(K:qJ)(T:String)(x:V)(H:Hp):Prop:=match x with
 | .str _=>T="str"
 | .int _=>T="int"
 | .ref p=>(T="list"/\∃xs,xW K H p xs)\/(T="tuple"/\∃o,K.lookup p=ga o/\o.cls=.type "tuple"/\o.dict=Fa)\/
   (T="dict"/\((∃kvs,H p=ga (.dK kvs))\/∃kvs,H p=ga (.dT kvs)))\/(T="set"/\∃S n,H p=ga (.set S n))
 | _=>False
def IG(I:Inv X Yj Y H s)(r:rA x v)(ty:WE X.K T x H):
  s.TypeIs v T/\∀a,v=.ref a->∃ob,s.heap.get? a=ga ob/\ob.dict=Fa:=by
 cases x with
 | str z=>obtain⟨t,rfl⟩:=r;cases(show T="str" from ty);exact⟨typeIs_str s z t,λ_ e=>nomatch e⟩
 | int i=>obtain⟨t,rfl⟩:=r;cases(show T="int" from ty);exact⟨mv s i t,λ_ e=>nomatch e⟩
 | ref p=>
  cases r;rcases ty with⟨rfl,xs,hq⟩|⟨rfl,o,hk,hc,hd⟩|⟨rfl,hk⟩|⟨rfl,S,n,hk⟩
  .obtain⟨its,_,pl,_⟩:=I.list hq;refine⟨pl.isList.typeIs,λa e=>?_⟩;cases e;obtain⟨o,n,e,c,hd,_⟩:=pl;exact⟨o,e,hd⟩
  .refine⟨⟨o,I.nB p o hk,hc⟩,λa e=>?_⟩;cases e;exact⟨o,I.nB _ o hk,hd⟩
  .have z:∃o,s.heap.get? p=ga o/\o.ExactDict:=by
    rcases hk with⟨kvs,hk⟩|⟨kvs,hk⟩
    .obtain⟨_,_,_,_,o,_,_,e,ex,_⟩:=I.m9 p _ hk;exact⟨o,e,ex⟩
    .obtain⟨_,_,_,_,o,_,_,e,ex,_⟩:=I.m9 p _ hk;exact⟨o,e,ex⟩
   obtain⟨o,e,ex⟩:=z;refine⟨⟨o,e,ex.1⟩,λa e2=>?_⟩;cases e2;exact⟨o,e,ex.2.1⟩
  .obtain⟨o,_,_,_,e,ex,_⟩:=I.m9 p _ hk;refine⟨⟨o,e,ex.1⟩,λa e2=>?_⟩;cases e2;exact⟨o,e,ex.2.1⟩
 | _=>exact False.elim ty
def W1(K:qJ)(T:String)(r:V->T0 V->Hp->VK->Prop)(to:TE):TE:=λY H Q=>to Y H λx H1=>WE K T x H1/\r x [] H1 Q
def Ye(K:qJ)(T:String)(r:V->T0 V->Hp->VK->Prop)(to:TE)(t:TA):TE:=λY H Q=>to Y H λx H1=>WE K T x H1/\t Y H1 λxs H2=>r x xs H2 Q
def Tq(pa:PlainAttrs T)(slot:Slot T name id)(hty:typeOf (.builtin id)=pure (.type "method_descriptor"))(hm:WQ X id r)(ho:PE X o to) (Ys:Ps o name X.env (wp o X.env)=wp o X.env:=by rfl) (Yy:(Ym.endLine==Yq.line)=Db:=by rfl):PE X (.Call (.Attribute o name Ym) [] [] Yq) (W1 X.K T r to):=by
 intro Yj s Y H Q I h;refine jV Ys Yy (tz (ho Yj s Y H _ I h) λv s1 zz=>?_);obtain⟨x,H1,I1,r1,ty,q1⟩:=zz;obtain⟨h1,h2⟩:=IG I1 r1 ty;exact⟨T,id,pa,slot,hty,h1,h2,iT Z' (kN (hm Yj s1 Y H1 x [] v [] Q I1 r1 .nil q1))⟩
def UQ(pa:PlainAttrs T)(slot:Slot T name id)(hty:typeOf (.builtin id)=pure (.type "method_descriptor"))(hm:WQ X id r)(ho:PE X o to)(ha:PA X (e::es) t) (Ys:Ps o name X.env (wp o X.env)=wp o X.env:=by rfl)
  (ZF:((xz Yq (Tl (e::es) X.env)).all (λx=>!x.1)&&(IN Yq (Rs [] X.env)).all (λx=>x.1.isSome)
   &&decide ((e::es).length+([]:T0 XXf).length+(if ([]:T0 XXf).isEmpty then 0 else 1)<30))=Db:=by rfl)
  (Yy:(Ym.endLine==Yq.line)=Db:=by rfl) (hs:BN X e es:=by rfl) (YD:Cd X Yq es:=by rfl):
  PE X (.Call (.Attribute o name Ym) (e::es) [] Yq) (Ye X.K T r to t):=by
 intro Yj s Y H Q I h;refine wpAny_Call_method_late Ys ZF Yy Z' (tz (ho Yj s Y H _ I h) λv s1 zz=>?_);obtain⟨x,H1,I1,r1,ty,q1⟩:=zz;obtain⟨h1,h2⟩:=IG I1 r1 ty;refine⟨T,id,pa,slot,hty,h1,h2,?_⟩;have hA:=ha Yq Yj s1 Y H1 _ I1 q1;rw[hs]at hA ⊢;refine iT (by show(pc||(xz Yq (Tl es X.env)).any (·.1))=pc;rw[YD]<;>rfl) (Calls.evalArgs_plain ?_);exact tz hA λus s2 zz=>x5 zz λvs H2 I2 r2 q2=>hm Yj s2 Y H2 x vs v us Q I2 r1 r2 q2
end
def XM(X:Cx)(id:String)(r:V->T0 V->Hp->VK->Prop):Prop:=
 ∀(Yj:QQY) (s:Sd) (Y:St) (H:Hp) (x:V) (xs:T0 V) (v:Vl) (us:T0 Vl) (Q:VK),Inv X Yj Y H s->rA x v->qL xs us->r x xs H Q->
  pi (Tk X.prog X.w) X.A (call (.builtin id) (v::us)) (EP X Yj Y Q) X.xe s
def qL.one:∀{x:V} {us:T0 Vl},qL [x] us->∃u,us=[u]/\rA x u
 | _,_,.cons r .nil=>⟨_,Z',r⟩
def qL.zero:∀{us:T0 Vl},qL [] us->us=[]
 | _,.nil=>rfl
def qL.reverse(h:qL xs us):qL xs.reverse us.reverse:=by
 induction h with
 | nil=>exact .nil
 | cons r t ih=>rw[gI,gI];exact qL.append ih (.cons r .nil)
theorem qL.rep(h:qL xs us):∀k:Nat,qL (List.replicate k xs).flatten (List.replicate k us).flatten
 | 0=>.nil
 | k+1=>by rw[eL,eL,fP,fP];exact qL.append h (qL.rep h k)
theorem EK(its:T0 Vl):∀(k:Nat) (acc:T0 Vl),List.foldl (λx1 x2=>x1++x2) acc.toArray (List.replicate k its.toArray)=(acc++(List.replicate k its).flatten).toArray
 | 0,acc=>by simp
 | k+1,acc=>by
  have e:acc.toArray++its.toArray=(acc++its).toArray:=by simp
  have e2:(acc++its)++(List.replicate k its).flatten=acc++(List.replicate (k+1) its).flatten:=by rw[eL,fP,fm]
  rw[<-e2,<-EK its k (acc++its),<-e,eL,fY]
variable {Yj:T0 (Uf × Obj)}{Y:St}{H:Hp}{s:Sd}{l:Uf}{xs ys zs:T0 V}
section
variable {b:Uf}
def Inv.pj{its its':T0 Vl}{n:Nat}{f:Array Vl->Array Vl}{t':Nat}(I:Inv X Yj Y H s)(hH:H l=ga (.lst xs)) (e:s.heap.get? l=ga {cls:=.type "list",data:=.seq its.toArray n}) (hf:f its.toArray=its'.toArray) (hv:qL ys its') (hz:ys.length<=Ch):
  Inv X Yj Y (upd H l (.lst ys)) {s with heap:=s.heap.update l (Obj.mapSeq f),toks:=t'}:=by
 have q:=PySem.IsL.update e f;rw[hf]at q;refine I.write (x:=l) (e:=l) (by rw[hH];exact trivial) (.inl Z') (λb' u hb hu=>(gf s.heap (Obj.mapSeq f) (dZ hb)).trans hu) ⟨_,q⟩ ?_;exact⟨hz,its',_,hv,q⟩
def Inv.pB{t':Nat}(I:Inv X Yj Y H s)(hv:qL ys its)(hz:ys.length<=Ch):
  Inv X Yj Y (upd H s.heap.objs.size (.lst ys)) {s with heap:=s.heap.push {cls:=.type "list",data:=.seq its.toArray},toks:=t'}:=
 I.laid (λ_ _ q=>dg _ q) (dw _) ⟨hz,its,0,hv,dJ _ Z'⟩
def Inv.fresh(I:Inv X Yj Y H s):H s.heap.objs.size=Fa:=I.m9.fresh (dw _)
def Inv.oU(I:Inv X Yj Y H s)(hH:H l=ga (.lst xs)):xs.length<=Ch/\∃(its:T0 Vl) (n:Nat),qL xs its/\xs.length=its.length/\s.heap.get? l=ga {cls:=.type "list",data:=.seq its.toArray n}:=by obtain⟨z,its,n,r,e⟩:=I.m9 l _ hH;exact⟨z,its,n,r,r.length,e⟩
def NQ{n:Nat}(h:n<=Ch):Builtin.List.listTooLong n=pc:=by unfold Builtin.List.listTooLong;exact eQ (by lia)
end
def QM:V->T0 V->Hp->VK->Prop:=λx vs H Q=>∃l xs y,x=.ref l/\vs=[y]/\H l=ga (.lst xs)/\xs.length<Ch/\Q .mY (upd H l (.lst (xs++[y])))
def LP:XM X "list.append" QM:=by intro Yj s Y H x vs v us Q I rx rv h;obtain⟨l,xs,y,rfl,rfl,hH,hz,q⟩:=h;cases rx;obtain⟨u,rfl,ru⟩:=rv.one;obtain⟨z,its,n,r,hl,e⟩:=I.oU hH;refine i9 F.slot_list_append ⟨_,e,Z'⟩ F.entry_list_append (F.args_list_append_2 _ _) (PySem.list_append l its.toArray n u (by rw[dA];lia)) ⟨e,?_⟩;refine⟨.mY,_,I.pj (its':=its++[u]) hH e (by simp) (r.append (.cons ru .nil)) ?_,Z',q⟩;rw[c9,dI];lia
def NJ:V->T0 V->Hp->VK->Prop:=λx vs H Q=>∃l xs,x=.ref l/\vs=[]/\H l=ga (.lst xs)/\Q .mY (upd H l (.lst xs.reverse))
def H9:XM X "list.reverse" NJ:=by intro Yj s Y H x vs v us Q I rx rv h;obtain⟨l,xs,rfl,rfl,hH,q⟩:=h;cases rx;have hus:=rv.zero;subst hus;obtain⟨z,its,n,r,hl,e⟩:=I.oU hH;refine i9 F.slot_list_reverse ⟨_,e,Z'⟩ F.entry_list_reverse (F.args_list_reverse_1 _) (AutoSeq1.list_reverse_list_0 l its.toArray n (by rw[dA];lia)) ⟨e,?_⟩;refine⟨.mY,_,I.pj (its':=its.reverse) hH e (by simp) r.reverse ?_,Z',q⟩;rw[List.length_reverse];lia
def Xl:R2:=λx y H Q=>∃l k xs,x=.ref l/\y=.int k/\H l=ga (.lst xs)/\-(2 ^ 63)<=k/\k<2 ^ 63/\xs.length*k.toNat<=Ch/\
 ∀p,H p=Fa->Q (.ref p) (upd H p (.lst (List.replicate k.toNat xs).flatten))
def PD{α:Type}(xs:List α)(k:Nat):(List.replicate k xs).flatten.length=k*xs.length:=by
 induction k with
 | zero=>simp
 | succ k ih=>rw[eL,fP,c9,ih,mJ,Nat.add_comm]
def TF:yC X (wS .Mult) Xl:=by
 intro Yj s Y H x y v u Q I rx ry h;obtain⟨l,k,xs,rfl,rfl,hH,h1,h2,hz,q⟩:=h;cases rx;obtain⟨t,rfl⟩:=ry;obtain⟨z,its,n,r,hl,e⟩:=I.oU hH;have Yp:its.toArray.size*k.toNat<=Ch:=by rw[dA,<-hl];exact hz
 have hcap:¬its.toArray.size*k.toNat>(2 ^ 63 - 1) / 8:=by
  have:(Ch:Nat)<=(2 ^ 63 - 1) / 8:=by decide
  lia
 have YT:¬(!Builtin.List.listFitsIndex k)=Db:=by rw[fitsIndex_both h1 h2];exact dE
 have hlong:¬Builtin.List.listTooLong (its.toArray.size*k.toNat)=Db:=by rw[NQ Yp];exact dE
 have Z3:List.foldl (λx1 x2=>x1++x2) #[] (List.replicate (if its.toArray.isEmpty=Db then 0 else k.toNat) its.toArray)=(List.replicate k.toNat its).flatten.toArray:=by
  have f0:∀m:Nat,List.foldl (λx1 x2=>x1++x2) #[] (List.replicate m its.toArray)=(List.replicate m its).flatten.toArray:=λm=>by have:=EK its m [];rw[d9]at this;exact this
  rw[f0];cases its with
  | nil=>simp
  | cons a r'=>rw[df (by simp)]
 refine wpAny_binaryOp_repeat_ref (T:="list") (U:="int") (by decide) ⟨_,e,Z'⟩ (λs'=>mv s' k t) noFill_list_mul F.fills_int_mul mw repeat_list F.slot_int_index.lookup
  (i9 mw (mv s k t) F.entry_int_rmul (F.args_int_rmul_2 _ _) (int___rmul___int_list k t l its.toArray n)
   ⟨e,Z',⟨_,e,Z'⟩,i9 F.slot_list_mul ⟨_,e,Z'⟩ F.entry_list_mul (F.args_list_mul_2 _ _) (AutoListH.list___mul___list_int_3 l its.toArray n k t YT hcap hlong) ⟨e,?_⟩⟩)
 rw[Z3];exact⟨.ref _,_,I.pB (t':=s.toks) (r.rep k.toNat) (by rw[PD,Nat.mul_comm];exact hz),Z',q _ I.fresh⟩
variable {prog:Pg}{w:Wo}{A:Ar}{E:QQX}
end L2
namespace Att
open PySem PySem.W PySem.Calls PyProof.Rows
def Bz:∀(ns:T0 Int) (vs:T0 Vl),WellAll P h vs (ns.map WData.int)->IntsAre vs ns:=by
 intro ns;induction ns with
 | nil=>intro vs w;rw[ja]at w;cases w;exact .nil
 | cons n ns ih=>
  intro vs w;rw[d6]at w;cases w with
  | cons a b=>cases a;exact .cons _ _ (ih _ b)
def LD{l:OpenLaw}{n:Nat}(hn:l.most=ga n){P:Params}{h:No}{args:T0 WData}{vals:T0 Vl} (hpre:l.row.toRowW.claim.pre args=Db) (hwl:WellAll P h vals args):
  ∃a vs ns,vals=[Value.ref a]/\args=[WData.list (ns.map WData.int)]/\h.get? a=ga {cls:=.type "list",data:=.seq vs.toArray}/\IntsAre vs ns/\ns.length<=n:=by
 have hsh:WShape.hasAll [] args [.list .int]=Db:=(pre_splitW hpre).1;have hc:l.pre.holds [] {args:=args}=Db:=(pre_splitW hpre).2;obtain⟨d,r,rfl,h1,h2⟩:=hasAllW_cons hsh;obtain rfl:=hasAllW_nil h2;obtain⟨xs,rfl,h3⟩:=hasW_list h1;obtain⟨ns,rfl⟩:=items_int h3;have Yp:ns.length<=n:=by
  unfold OpenLaw.pre at hc;have h4:(WTm.not (.lt (.lit (.int (n:Int))) (.len (.arg 0)))).holds [] {args:=[.list (ns.map .int)]}=Db:=by have h4:=(holds_andW hc).1;rw[hn]at h4;exact h4
  have h5:=condW_of h4 (w_not (w_lt w_lit (w_len_list (w_arg Z'))));rw[cX]at h5;refine jM λq=>?_;have q':(n:Int)<((ns.length:Nat):Int):=by lia
  first
   | (rw[d4 q']at h5;exact absurd h5 (by decide))
   | (simp at h5;lia)
 cases hwl with
 | cons w1 w2=>
  cases w2;cases w1 with
  | list ho Zn=>exact⟨_,_,ns,Z',Z',ho,Bz ns _ Zn,Yp⟩
def LM(l:OpenLaw)(args:T0 WData):l.row.toRowW.claim.post args (.bool Db) args=Db:=
 postW_of (r:=l.row.toRowW) (X:=(Db==Db))
  (show WShape.has [] (.bool Db) .bool=Db by first|rfl|decide|simp[WShape.has,WShape.arms,WShape.armsAll])
  (show(WTm.eq .res (.lit (.bool Db))).value [] {args:=args,res:=some (.bool Db),after:=args}=ga (.bool (Db==Db))from w_eq_bool (w_res Z') w_lit) Z'
def attach_call{l:OpenLaw}{n:Nat}{YP:Wo->No->Prop}{d:DefRec} (hn:l.most=ga n) (hdf:d.params.defaults=[]) (call:∀(w:Wo) (s₀ s₁:Sd) (mg mb:QQZ) (fa:Uf) (o:Obj) (pm cd YW:Vl) (a:Uf) (vs:T0 Vl) (ns:T0 Int),Ground q Y8 [] XP w s₀ mg mb s₁.heap->YP w s₁.heap->
   s₁.heap.get? fa=ga o->o.data=.func (docDef d.name d.params d.body d.scope pm cd YW)->s₁.heap.CodeRec cd d.name->mg d.name=ga (.ref fa)->
   s₁.heap.get? a=ga {cls:=.type "list",data:=.seq vs.toArray}->IntsAre vs ns->ns.length<=n->s₁.gens=#[]->
   XXk (Tk l.prog w) callerA (.call (.ref fa) ⟨[.ref a],[]⟩) (λr s'=>r=.ok (.ret (.bool Db))/\OldK s₁.heap s'.heap/\s'.os=s₁.os/\XYb s'.gens) s₁):
  WalkO q Y8 XP YP l.row.toRowW d [] (λf vs=>PySem.call f vs):=by
 intro w s₀ s₁ mg mb G Y fa o pm cd YW dV kV ho hd ZC hD hmg hg args vals as hpre hlay hrd hwl hlo;obtain rfl:dV=.none:=Dflts.none hD hdf;obtain rfl:kV=.none:=Dflts.noKw hD;obtain⟨a,vs,ns,rfl,rfl,hobj,Z4,Yp⟩:=LD hn hpre hwl;refine enter_call (gq (call w s₀ s₁ mg mb fa o pm cd YW a vs ns G Y ho (fd_plain hd) ZC hmg hobj Z4 Yp hg) λr s' hq=>?_);obtain⟨rfl,h2,h3,h4⟩:=hq;exact⟨.inl ⟨.bool Db,.bool Db,[],Z',λ_=>rfl,.bool Db,LM l _,λ_=>⟨List.Pairwise.nil,λ_ hm=>(nomatch hm)⟩⟩,h2,h3,h4⟩
variable {prog:Pg}{w:Wo}{A:Ar}{E:QQX}{s:Sd}{K:Frag}
end Att
namespace L2
theorem EQ:∀{vs:T0 Vl} {ns:T0 Int},IntsAre vs ns->qL (ns.map V.int) vs
 | _,_,.nil=>.nil
 | _,_,.cons n t h=>.cons ⟨t,Z'⟩ (EQ h)
def L5(H:Hp):Prop:=∀b,H b=Fa\/∃o xs,H b=ga (.frz o (.lst xs))
def NI{P:Pg}{w:Wo}{K:qJ}{mg mb:QQZ}{CX:LZ}{fa a:Uf}{fd:Ix}{x:Str}{sp:Sp}{s₁:Sd}{vs:T0 Vl} (KX:K.In s₁.heap) (hns:s₁.heap.Ns At mg) (hb:s₁.heap.Ns builtinsNs mb) (hbb:∀x:Str,x≠"__name__"->mb x=zn x) (hlim:s₁.heap.NoLimit) (hg:s₁.gens=#[]) (ha:s₁.heap.get? a=ga {cls:=.type "list",data:=.seq vs.toArray}) (hi:IntsAre vs ns) (hl:ns.length<=Ch) (hr:sJ k callerA)
  (F:∀base:No,K.In base->base.Ns At mg->xU P w K mg base CX k fa fd [x] sp) (hbind:∀(s:Sd) (u:Vl),BindsTo s fd ⟨[u],[]⟩ [(x,u)])
  (ZS:∀H:Hp,L5 H->xW K H a (ns.map V.int)->sp [.ref a] H (λv _=>v=.bl Db) λ_ _ _=>False)
  (hCX:∀H e s',CX [] H s₁ (λ_ _ _=>False) e s'->False):
  XXk (Tk P w) callerA (.call (.ref fa) ⟨[.ref a],[]⟩) (λr s'=>r=.ok (.ret (.bool Db))/\OldK s₁.heap s'.heap/\s'.os=s₁.os/\XYb s'.gens) s₁:=by
 have rv:=EQ hi;have lenV:=hi.length;have core:∀H:Hp,L5 H->xW K H a (ns.map V.int)->yU P w H s₁.heap->(∀b,H b≠Fa->b=a)->(H a≠Fa->K.lookup a=Fa)->
   XXk (Tk P w) callerA (.call (.ref fa) ⟨[.ref a],[]⟩) (λr s'=>r=.ok (.ret (.bool Db))/\OldK s₁.heap s'.heap/\s'.os=s₁.os/\XYb s'.gens) s₁:=by
  intro H hO hS m9 hA hK;have ZO:∀{b:Uf} {o:Obj},s₁.heap.get? b=ga o->H b=Fa->(FS s₁.heap H).get? b=ga o:=λe n=>Om e n;have noA:∀{b:Uf} {o:Obj} {es:Array DictEntry} {ep:Nat},s₁.heap.get? b=ga o->o.data=.dict es ep->H b=Fa:=λ{b o es ep} e d=>by
   cases q:H b with
   | none=>rfl
   | some u=>have e':b=a:=hA b (by rw[q];simp);subst e';rw[ha]at e;cases e;have d':Data.seq vs.toArray _=Data.dict es ep:=d;cases d'
  have nsK:∀{b:Uf} {m:QQZ},s₁.heap.Ns b m->(FS s₁.heap H).Ns b m:=λ{b m} ⟨o,es,ep,e,d,r⟩=>⟨o,es,ep,ZO e (noA e d),d,r⟩;have hKb:K.In (FS s₁.heap H):=λb o e=>ZO (KX b o e) (by
   cases q:H b with
   | none=>rfl
   | some u=>
    have e':b=a:=hA b (by rw[q];simp);subst e';rw[hK (by rw[q];simp)]at e;cases e)
  have hM:Mod K mg (FS s₁.heap H):=⟨hKb,nsK hns,⟨mb,nsK hb,hbb⟩,let⟨mc,h1,h2⟩:=hlim;⟨mc,nsK h1,h2⟩⟩;have e0:IL P w K mg (FS s₁.heap H) callerA [] s₁ H:=⟨Z',hM,λb o e=>PC e,mH (LK _ _),trivial,λb hb=>absurd (show b∈([]:QXQ)from hb) (by simp),m9,.of_eq hg⟩;refine gq ((F _ hKb (nsK hns)).run callerA [] s₁ H ⟨[.ref a],[]⟩ [.ref a] [.ref a] _ _ hr e0 (hbind s₁ (.ref a)) (.cons Z' .nil) (ZS H hO hS)) λr s' h=>?_;cases r with
  | error e=>exact(hCX H e s' h).elim
  | ok fl=>
   cases fl with
   | next=>exact False.elim h
   | brk=>exact False.elim h
   | cont=>exact False.elim h
   | ret u=>
    obtain⟨v,H',os,bare,un,hok',r',q⟩:=h;have q':v=.bl Db:=q;subst q';obtain rfl:u=Value.bool Db:=r';refine⟨Z',OldK.of_keep λb o e=>?_,os,bare⟩;cases q:H b with
    | none=>exact un.keep b o e q (by intro z;exact absurd (show b∈([]:QXQ)from z) (by simp)) (by simp)
    | some u=>
     rcases hO b with z|⟨ob,xs,z⟩
     .rw[q]at z;cases z
     .have z2:=un.nK b ob _ z;obtain⟨e1,_⟩:=m9 b _ z;obtain⟨e2,_⟩:=hok' b _ z2;rw[e]at e1;cases e1;exact e2
 cases hk:K.lookup a with
 | some o=>have e:=KX a o hk;rw[ha]at e;cases e;refine core (λ_=>Fa) (λ_=>.inl Z') (.inr ⟨_,vs.toArray,_,hk,Z',Z',Z',by rw[dA,lenV];exact hl,by simpa using rv⟩) (λb u z=>by have z':(Fa:Option HO)=ga u:=z;cases z') (λb z=>absurd Z' z) λz=>absurd Z' z
 | none=>
  refine core (λb=>if b=a then ga (.frz {cls:=.type "list",data:=.seq vs.toArray} (.lst (ns.map V.int)))else Fa) (λb=>?_) (.inl (.inr ⟨{cls:=.type "list",data:=.seq vs.toArray},dh Z'⟩)) (λb u z=>?_) (λb z=>?_) λ_=>hk
  .by_cases hb:b=a
   .exact .inr ⟨_,_,dh hb⟩
   .exact .inl (df hb)
  .by_cases hb:b=a
   .have z':=(dh hb).symm.trans z;cases z';subst hb;exact⟨ha,by rw[cX];exact hl,vs,_,rv,ha⟩
   .have z':=(df hb).symm.trans z;cases z'
  .by_cases hb:b=a
   .exact hb
   .exact absurd (df hb) z
def QN{l:W.OpenLaw}{n k:Nat}{q:Pg}{Y8:QQQ}{XP:(QQZ)->No->Prop}{YP:Wo->No->Prop}{d:DefRec}{K:Params->qJ}{CX:Wo->LZ}{sp:Wo->Sp}{x:Str} (hn:l.most=ga n) (hn2:n<=Ch) (hdf:d.params.defaults=[]) (hr:sJ k callerA) (hY:∀(w:Wo) (h:No),YP w h->(K w.params).In h) (F:∀(w:Wo) (mg:QQZ) (fa:Uf) (h:No),(K w.params).In h->h.Ns At mg->mg d.name=ga (.ref fa)->
   ∃fd:Ix,(∀(s:Sd) (u:Vl),BindsTo s fd ⟨[u],[]⟩ [(x,u)])/\
    ∀base:No,(K w.params).In base->base.Ns At mg->xU l.prog w (K w.params) mg base (CX w) k fa fd [x] (sp w))
  (ZS:∀(w:Wo) (H:Hp) (a:Uf) (ns:T0 Int),ns.length<=n->L5 H->xW (K w.params) H a (ns.map V.int)->sp w [.ref a] H (λv _=>v=.bl Db) λ_ _ _=>False)
  (hCX:∀(w:Wo) (H:Hp) (s:Sd) (e:Vl) (s':Sd),CX w [] H s (λ_ _ _=>False) e s'->False):
  W.WalkO q Y8 XP YP l.row.toRowW d [] (λf vs=>PySem.call f vs):=by
 refine Att.attach_call hn hdf λw s₀ s₁ mg mb fa o pm cd YW a vs ns G Y ho hd ZC hmg hobj Z4 Yp hg=>?_;have KX:=hY w _ Y;obtain⟨fd,hb,hF⟩:=F w mg fa _ KX G.T.g hmg;exact NI KX G.T.g G.T.b G.T.builtins G.T.nolimit hg hobj Z4 (eh Yp hn2) hr hF hb (λH hO hS=>ZS w H a ns Yp hO hS) λH e s'=>hCX w H s₁ e s'
noncomputable def Pi(s:ZB)(j:Nat):ZB:=match s with
 | .ClassDef _ _ _ body _ _ _ _ _ _ _=>body.getD j (.Pass ⟨0,0,0,0⟩)
 | _=>.Pass ⟨0,0,0,0⟩
noncomputable def uZ(s:ZB):Arguments:=match s with
 | .FunctionDef _ a _ _ _ _ _ _ _ _=>a
 | _=>{posonlyargs:=[],args:=[],vararg:=none,kwonlyargs:=[],kw_defaults:=[],kwarg:=none,defaults:=[]}
noncomputable def sE(s:ZB):T0 ZB:=match s with
 | .FunctionDef _ _ b _ _ _ _ _ _ _=>b
 | _=>[]
noncomputable def qB(s:ZB):XXe:=match s with
 | .FunctionDef _ _ _ _ _ _ sc _ _ _=>sc
 | _=>{kind:=.function,names:=[],isGenerator:=false,isCoroutine:=false}
abbrev Pa:LZ:=λ_ _ _ _ _ _=>False
abbrev E0:XK:=λ_ _ _=>False
def HF:ze Pa X E0:=λ_ _ _ _ _ _ _ h=>h.elim
structure Qk(K:qJ)(x qual:Str)(st:ZB)(f:Uf)(fd:Ix):Prop where
 ex:∃(oc:Vl) (od:Option Uf) (kV YW pm:Vl) (an:Option Uf) (Yv ct:Vl) (Zh:Array (Option Vl)),
  fd=W.fnOf x qual (uZ st) (sE st) (qB st) .none kV YW pm an Yv ct/\K.lookup f=ga ⟨oc,od,.func fd,Zh⟩/\W.codeIn K Yv qual=Db
 kp:W.keepIn K (.ref f)=Db
variable {P:Pg}{K:qJ}{mg:QQZ}{base:No}
section
variable {w:Wo}
def Qk.ok{st:ZB}{sp:Sp}(F:Qk K x qual st f fd)(S:tW N ps (qB st))(len:∀vs H Q E,sp vs H Q E->vs.length=ps.length) (YF:∀(Yv:Vl) (A:Ar) (outer:T0 Env) (s:Sd) (H:Hp) (vs:T0 V) (Q:VK) (E:XK),sJ k (A.deeper (xL qual (qB st) s.heap.objs.size f Yv))->sp vs H Q E->
   ∃t,Dd (vQ Pa P w K mg base N qual (qB st) f Yv A outer s H E).oV (sE st) t/\t {nx:=λ_ H'=>Q .mY H',rt:=Q} (start N vs) H):xU P w K mg base Pa (k+1) f fd ps sp:=by
 obtain⟨oc,od,kV,YW,pm,an,Yv,ct,Zh,rfl,lk,ZC⟩:=F.ex;refine ND lk ZC S len λA outer s H vs Q E hr ZS=>?_;obtain⟨t,h,q⟩:=YF Yv A outer s H vs Q E hr ZS;exact⟨t,h.oV,q⟩
def Qk.binds{st:ZB}{ps:QQQ}(F:Qk K x qual st f fd) (h:∀(kV YW pm:Vl) (an:Option Uf) (Yv ct:Vl) (us:T0 Vl),us.length=ps.length->bindArgs (W.fnOf x qual (uZ st) (sE st) (qB st) .none kV YW pm an Yv ct) ⟨us,[]⟩=pure (ps.zip us)):ve K fd ps []:=by
 obtain⟨oc,od,kV,YW,pm,an,Yv,ct,Zh,rfl,lk,ZC⟩:=F.ex;exact .all (h kV YW pm an Yv ct)
def NB{st:ZB}{oc:Vl}{od an:Option Uf}{Zh:Array (Option Vl)}{kV YW pm Yv ct:Vl}(l:K.lookup f=ga ⟨oc,od,.func (W.fnOf x qual (uZ st) (sE st) (qB st) .none kV YW pm an Yv ct),Zh⟩) (c:W.codeIn K Yv qual=Db) (k:W.keepIn K (.ref f)=Db):Qk K x qual st f (W.fnOf x qual (uZ st) (sE st) (qB st) .none kV YW pm an Yv ct):=⟨⟨oc,od,kV,YW,pm,an,Yv,ct,Zh,Z',l,c⟩,k⟩
end
variable {X:Cx}
def pv(i:Nat){x:Str}{pos:Pos}(hN:X.N[i]?=ga x:=by rfl)(hv:Vq X.env.scope x:=by first|exact Or.inl Z'|exact Or.inr (Or.inl Z')|exact Or.inr (Or.inr Z'))(hd:zF x:=by decide)
  (ZC:(x==("__classdict__":Str))=pc:=by decide):PE X (.Name x pos) (Iw i):=SL hN hv hd ZC
def HE{A B:Prop}(h:B):if pc=Db then A else B:=by rw[df dE];exact h
def PV{A B:Prop}(h:A):if Db=Db then A else B:=by rw[dh Z'];exact h
def qU{c A B:Prop}[Decidable c](h1:c->A)(h2:¬c->B):if c then A else B:=by
 by_cases h:c
 .rw[dh h];exact h1 h
 .rw[df h];exact h2 h
def P4(H H':Hp):Prop:=∀b o,H b=ga o->H' b=ga o
def P4.trans(a:P4 H H1)(b:P4 H1 H2):P4 H H2:=λc o h=>b c o (a c o h)
section
variable {κ:Type}[DecidableEq κ]
noncomputable def xq(kvs:T0 (κ×V))(k:κ):Option V:=(kvs.find? λkv=>decide (kv.1=k)).map (·.2)
noncomputable def zw(kvs:T0 (κ×V))(k:κ)(v:V):T0 (κ×V):=
 if (kvs.any λkv=>decide (kv.1=k))=Db then kvs.map (λkv=>if kv.1=k then(kv.1,v)else kv)else kvs++[(k,v)]
def CP{p:κ×V}{r:T0 (κ×V)}{k:κ}(e:p.1=k):xq (p::r) k=ga p.2:=by simp[xq,fM,e]
def CQ{p:κ×V}{r:T0 (κ×V)}{k:κ}(e:¬p.1=k):xq (p::r) k=xq r k:=by simp[xq,fM,e]
theorem GW(k:κ):∀kvs:T0 (κ×V),(kvs.any λkv=>decide (kv.1=k))=(xq kvs k).isSome
 | []=>rfl
 | p::r=>by
  rw[gg];by_cases e:p.1=k
  .simp only[CP e,d4 e,hZ,Option.isSome_some]
  .rw[CQ e,eQ e,fO];exact GW k r
def Br(kvs:T0 (κ×V))(k:κ)(v:V):(zw kvs k v).length<=kvs.length+1:=by
 unfold zw;split
 .rw[cX];lia
 .rw[c9,eE,dN];lia
def yR.nI(r:yR o u):o.isSome=u.isSome:=by
 cases o with
 | none=>cases u with
  | none=>rfl
  | some _=>exact(show False from r).elim
 | some _=>cases u with
  | none=>exact(show False from r).elim
  | some _=>rfl
def KV.val(r:KV kvs vs)(k:κ):yR (xq kvs k) (valueAt vs k):=by
 unfold KV at r;induction r with
 | nil=>exact True.intro
 | @cons p q ps qs h t ih=>
  obtain⟨h1,h2⟩:=h;by_cases e:p.1=k
  .have e':q.1=k:=h1.symm.trans e;have b:valueAt (q::qs) k=ga q.2:=by simp[valueAt,fM,e']
   rw[CP e,b];exact h2
  .have e':¬q.1=k:=λz=>e (h1.trans z);have b:valueAt (q::qs) k=valueAt qs k:=by simp[valueAt,fM,e']
   rw[CQ e,b];exact ih
def KV.any(r:KV kvs vs)(k:κ):(kvs.any λkv=>decide (kv.1=k))=vs.any λkv=>decide (kv.1=k):=by
 unfold KV at r;induction r with
 | nil=>rfl
 | cons h t ih=>rw[gg,gg,ih,h.1]
def KV.oR(r:KV kvs vs)(k:κ){y:V}{u:Vl}(ry:rA y u):
  KV (kvs.map λkv=>if kv.1=k then(kv.1,y)else kv) (vs.map λkv=>if kv.1=k then(kv.1,u)else kv):=by
 unfold KV at r ⊢;induction r with
 | nil=>exact .nil
 | @cons p q ps qs h t ih=>
  rw[d6,d6];refine .cons ?_ ih;obtain⟨h1,h2⟩:=h;by_cases e:p.1=k
  .rw[dh e,dh (h1.symm.trans e)];exact⟨h1,ry⟩
  .rw[df e,df (λz=>e (h1.trans z))];exact⟨h1,h2⟩
def KV.put(r:KV kvs vs)(k:κ){y:V}{u:Vl}(ry:rA y u):KV (zw kvs k y) (stored vs k u):=by
 unfold zw stored;rw[r.any k];by_cases e:(vs.any λkv=>decide (kv.1=k))=Db
 .rw[dh e,dh e];exact r.oR k ry
 .rw[df e,df e];exact mP r ⟨Z',ry⟩
def KV.length(r:KV kvs vs):kvs.length=vs.length:=ju r
end
def Hi(r:rA (kV k) u):(rW P w).is k u=Db:=by
 cases k with
 | inl i=>obtain⟨t,e⟩:=(show ∃t,u=Value.int i t from r);subst e;exact HB P w i t
 | inr x=>obtain⟨t,e⟩:=(show ∃t,u=Value.str x t from r);subst e;exact Bk P w x t
theorem Ep:∀{ks:List rM} {us:T0 Vl},qL (ks.map kV) us->ItemsAre (rW P w) ks us
 | [],_,r=>by rw[ja]at r;cases r;exact .nil
 | k::ks,_,r=>by
  rw[d6]at r;cases r with
  | cons h t=>exact .cons (Hi h) (Ep t)
abbrev KT(H:Hp):T0 (List rM×V)->T0 (List rM×Uf×Vl)->Prop:=Paired λp q=>p.1=q.1/\H q.2.1=ga (.tup (p.1.map kV))/\rA p.2 q.2.2
def KT.val(r:KT H kvs xs)(k:List rM):yR (xq kvs k) ((atKey xs k).map (·.2)):=by
 induction r with
 | nil=>exact True.intro
 | @cons p q ps qs h t ih=>
  obtain⟨h1,_,h2⟩:=h;by_cases e:p.1=k
  .have e':q.1=k:=h1.symm.trans e;have b:atKey (q::qs) k=ga q.2:=by simp[atKey,fM,e']
   rw[CP e,b];exact h2
  .have e':¬q.1=k:=λz=>e (h1.trans z);have b:atKey (q::qs) k=atKey qs k:=by simp[atKey,fM,e']
   rw[CQ e,b];exact ih
def KT.oR(r:KT H kvs xs)(k:List rM){y:V}{u:Vl}(ry:rA y u):
  KT H (kvs.map λkv=>if kv.1=k then(kv.1,y)else kv) (xs.map (putAt k u)):=by
 induction r with
 | nil=>exact .nil
 | @cons p q ps qs h t ih=>
  rw[d6,d6];refine .cons ?_ ih;obtain⟨h1,h2,h3⟩:=h;unfold putAt;by_cases e:p.1=k
  .rw[dh e,dh (h1.symm.trans e)];exact⟨h1,h2,ry⟩
  .rw[df e,df (λz=>e (h1.trans z))];exact⟨h1,h2,h3⟩
def KT.put(r:KT H kvs xs)(k:List rM){b:Uf}{y:V}{u:Vl}(hb:H b=ga (.tup (k.map kV)))(ry:rA y u):
  KT H (zw kvs k y) (storedH xs k b u):=by
 have e:(kvs.any λkv=>decide (kv.1=k))=(atKey xs k).isSome:=by rw[GW,(r.val k).nI,iR]
 unfold zw storedH;rw[e];by_cases q:(atKey xs k).isSome=Db
 .rw[dh q,dh q];exact r.oR k ry
 .rw[df q,df q];exact mP r ⟨Z',hb,ry⟩
def KT.keeps{H H':Hp}(r:KT H kvs xs)(ht:∀b ys,H b=ga (.tup ys)->H' b=ga (.tup ys)):KT H' kvs xs:=
 Paired.oO r λ_ _ z=>⟨z.1,ht _ _ z.2.1,z.2.2⟩
variable {H:Hp}{h:No}{a:Uf}
section
variable {w:Wo}
def RQ(ok:yU P w H h)(e:Rd H a u):sQ P w H h a u:=e.ok ok
def JG{kvs:T0 (rM×V)}(ok:yU P w H h)(e:Rd H a (.dK kvs)):kvs.length<=Ch/\(a==TW)=pc/\∃vs,KV kvs vs/\h.DictOf (rW P w) a vs:=
 show sQ P w H h a (.dK kvs)from RQ ok e
def UT{kvs:T0 (rM×V)}(ok:yU P w H h)(e:H a=ga (.dK kvs)):kvs.length<=Ch/\(a==TW)=pc/\∃vs,KV kvs vs/\h.DictOf (rW P w) a vs:=JG ok (.inl e)
def Fe{ks:List rM}(ok:yU P w H h)(e:H a=ga (.tup (ks.map kV))):(tupleKind (rW P w)).is h ks a:=by obtain⟨_,its,r,o,h1,h2,⟨n,h3⟩,_⟩:=(show sQ P w H h a (.tup (ks.map kV))from ok a _ e);exact⟨o,its.toArray,n,h1,h2,h3,by simpa using Ep r⟩
def Kr{kvs:T0 (List rM×V)}(ok:yU P w H h)(e:Rd H a (.dT kvs)):kvs.length<=Ch/\(a==TW)=pc/\
  ∃xs,KT H kvs xs/\h.DictOfH (tupleKind (rW P w)) a xs:=by
 obtain⟨z,y,xs,r,o,es,ep,h1,h2,h3,h4,h5⟩:=(show sQ P w H h a (.dT kvs)from RQ ok e);refine⟨z,y,xs,r,o,es,ep,h1,h2,h3,h4,λx hx=>?_,h5⟩;have all:∀{l:T0 (List rM×V)} {m:T0 (List rM×Uf×Vl)},KT H l m->∀x∈m,(tupleKind (rW P w)).is h x.1 x.2.1:=by
  intro l m q;induction q with
  | nil=>intro x hx;exact nomatch hx
  | @cons p q ps qs hq t ih=>
   intro x hx;rcases dz.mp hx with e|hx
   .subst e;exact Fe ok (by rw[<-hq.1];exact hq.2.1)
   .exact ih x hx
 exact all r x hx
def Vn{kvs:T0 (List rM×V)}(ok:yU P w H h)(e:H a=ga (.dT kvs)):kvs.length<=Ch/\(a==TW)=pc/\
  ∃xs,KT H kvs xs/\h.DictOfH (tupleKind (rW P w)) a xs:=Kr ok (.inl e)
end
def FR(H:Hp)(a:Uf)(y:V)(r:Option V):Prop:=
 (∃kvs k,Rd H a (.dK kvs)/\y=kV k/\r=xq kvs k)\/∃kvs k b,Rd H a (.dT kvs)/\y=.ref b/\H b=ga (.tup (k.map kV))/\r=xq kvs k
def Np(H:Hp)(a:Uf)(y v:V)(H':Hp):Prop:=
 (∃kvs k,H a=ga (.dK kvs)/\y=kV k/\kvs.length<Ch/\H'=upd H a (.dK (zw kvs k v)))\/
 ∃kvs k b,H a=ga (.dT kvs)/\y=.ref b/\H b=ga (.tup (k.map kV))/\kvs.length<Ch/\H'=upd H a (.dT (zw kvs k v))
def FR.k{H:Hp}{a:Uf}{kvs:T0 (rM×V)}{k:rM}(e:H a=ga (.dK kvs)):FR H a (kV k) (xq kvs k):=.inl ⟨kvs,k,.inl e,Z',Z'⟩
def Np.k{H:Hp}{a:Uf}{kvs:T0 (rM×V)}{k:rM}(e:H a=ga (.dK kvs))(hl:kvs.length<Ch):Np H a (kV k) v (upd H a (.dK (zw kvs k v))):=.inl ⟨kvs,k,e,Z',hl,Z'⟩
variable {Yj:T0 (Uf × Obj)}{Y:St}{y v:V}{u r:Vl}
section
variable {s:Sd}{o:Option V}{A:Ar}{E:QQX}
def Inv.big(I:Inv X Yj Y H s):TW<s.heap.objs.size:=by have h:At<s.heap.objs.size:=(I.mod.glob.keeps I.bk).lt;exact iz (by decide) h
def K0{Q:QQX}(hu:A.units+1<XXa)(I:Inv X Yj Y H s)(g:FR H a y (ga v))(ry:rA y u)(h:∀w' s',Inv X Yj Y H s'->rA v w'->Q w' s'):
  pi (Tk X.prog X.w) A (XXg (.ref a) u) Q E s:=by
 rcases g with⟨kvs,k,e,ey,l⟩|⟨kvs,k,b,e,ey,eb,l⟩
 .subst ey;obtain⟨z,hd,vs,ZG,dd⟩:=JG I.m9 e;obtain⟨w',hw,rw'⟩:=yR.some_of (v:=v) (o:=valueAt vs k) (by rw[l];exact ZG.val k);exact wpAny_getItem_of (Hi ry) dd.mapOf hw (h w' _ (I.tok _) rw')
 .subst ey;cases(show u=Value.ref b from ry);obtain⟨z,hd,xs,ZG,dd⟩:=Kr I.m9 e;obtain⟨w',hw,rw'⟩:=yR.some_of (v:=v) (o:=(atKey xs k).map (·.2)) (by rw[l];exact ZG.val k);obtain⟨p,hp,Yw⟩:=kc.mp hw;refine wpAny_getItem_heap (jq hu) (Fe I.m9 eb) dd hp ?_;rw[Yw];exact h w' _ (I.tok _) rw'
def WU{Q:QQX}(hu:A.units+1<XXa)(I:Inv X Yj Y H s)(g:FR H a y o)(ry:rA y u)(h:∀s',Inv X Yj Y H s'->Q (.bool o.isSome) s'):
  pi (Tk X.prog X.w) A (Op .In u (.ref a)) Q E s:=by
 rcases g with⟨kvs,k,e,ey,l⟩|⟨kvs,k,b,e,ey,eb,l⟩
 .subst ey;obtain⟨z,hd,vs,ZG,dd⟩:=JG I.m9 e;refine wpAny_in_of (Hi ry) hd dd.mapOf ?_;rw[<-(ZG.val k).nI,<-l];exact h _ (I.tok _)
 .subst ey;cases(show u=Value.ref b from ry);obtain⟨z,hd,xs,ZG,dd⟩:=Kr I.m9 e;refine wpAny_in_heap (jq hu) (Fe I.m9 eb) hd dd ?_;have q:=(ZG.val k).nI;rw[iR]at q;rw[<-q,<-l];exact h _ (I.tok _)
def JJ{t':Nat}(I:Inv X Yj Y H s)(mu:Vo (H a))(hs:Heap.SameBut a s.heap h')(he:∃q,h'.get? a=ga q)(new:sQ X.prog X.w (upd H a ob) h' a ob):
  Inv X Yj Y (upd H a ob) {s with heap:=h',toks:=t'}:=
 I.write (x:=a) (e:=a) mu (.inl Z') (λb q hb z=>(hs.2 b hb).trans z) he new
def MD{H':Hp}{h':No}{kvs:T0 (rM×V)}(z:kvs.length<=Ch)(hd:(a==TW)=pc)(ZG:KV kvs vs)(dd:h'.DictOf (rW P w) a vs):
  sQ P w H' h' a (.dK kvs):=⟨z,hd,vs,ZG,dd⟩
def K5{Q:Unit->Sd->Prop}(hu:A.units+1<XXa)(I:Inv X Yj Y H s)(g:Np H a y v H')(ry:rA y u)(rv:rA v r)(h:∀s',Inv X Yj Y H' s'->Q () s'):
  pi (Tk X.prog X.w) A (setItem (.ref a) u r) Q E s:=by
 rcases g with⟨kvs,k,e,ey,l,eH⟩|⟨kvs,k,b,e,ey,eb,l,eH⟩
 .subst ey eH;obtain⟨z,hd,vs,ZG,dd⟩:=UT I.m9 e;have hz:vs.length<=Ch:=by rw[<-ZG.length];exact z
  have hl:(zw kvs k v).length<=Ch:=by have:=Br kvs k v;lia
  refine wpAny_setItem_pairs (hsz:=hz) (Hi ry) dd λh' dd' hs=>h _ ?_;have he:∃q,h'.get? a=ga q:=let⟨q,_,_,hq,_⟩:=dd';⟨q,hq⟩;exact JJ I (by rw[e];exact True.intro) hs he (MD hl hd (ZG.put k rv) dd')
 .subst ey eH;cases(show u=Value.ref b from ry);obtain⟨z,hd,xs,ZG,dd⟩:=Vn I.m9 e;have hz:xs.length<=Ch:=by rw[<-ju ZG];exact z
  have hl:(zw kvs k v).length<=Ch:=by have:=Br kvs k v;lia
  refine wpAny_setItem_heap (hsz:=hz) (jq hu) (Fe I.m9 eb) dd λh' dd' hs=>h _ ?_;obtain⟨q,es,ep,hq,h2,h3,h4,_,h5⟩:=dd';refine JJ I (by rw[e];exact True.intro) hs ⟨q,hq⟩ ⟨hl,hd,_,(ZG.put k eb rv).keeps λc ys ec=>?_,q,es,ep,hq,h2,h3,h4,h5⟩;rw[qv (VZ ec e (λz=>nomatch z))];exact ec
end
variable {kvs:T0 (rM × V)}{k:rM}
section
variable {s:Sd}{A:Ar}{E:QQX}
end
def Hc{Yj:QQY}(I:Inv X Yj Y H s)(g:FR H a y o):s.TypeIs (.ref a) "dict":=by
 rcases g with⟨kvs,k,e,_,_⟩|⟨kvs,k,b,e,_,_,_⟩
 .obtain⟨_,_,vs,_,dd⟩:=JG I.m9 e;exact dd.typeIs
 .obtain⟨_,_,xs,_,dd⟩:=Kr I.m9 e;exact dd.typeIs
def VO(td ty tv:TE):TS:=λD Y H=>tv Y H λv H1=>td Y H1 λx H2=>ty Y H2 λy H3=>∃a H4,x=.ref a/\Np H3 a y v H4/\D.nx Y H4
variable {i e value:Go}{pos Yu tpos:Pos}{td ty tv:TE}
section
variable {o:Go}
def Q5(hu:X.A.units+1<XXa)(ho:PE X o td)(hi:PE X i ty)(hv:PE X value tv)(hs:wE value (ga (.Subscript o i Yu)) pos.line X.env=pure pc):
  PS X (.Assign [.Subscript o i Yu] value pos) (VO td ty tv):=by
 intro Yj s Y H D I h;refine wpAny_Assign_Subscript (tz (hv Yj s Y H _ I h) λr s1 zz=>x5 zz λv H1 I1 rv q1=>tz (ho Yj s1 Y H1 _ I1 q1) λu s2 zz=>x5 zz λx H2 I2 rx q2=>tz (hi Yj s2 Y H2 _ I2 q2) λiv s3 zz=>?_) hs;obtain⟨y,H3,I3,ry,a,H4,ex,g,q3⟩:=zz;subst ex;obtain rfl:u=Value.ref a:=rx;exact K5 hu I3 g ry rv λs4 I4=>⟨Y,H4,I4,q3⟩
end
structure M1(X:Cx)(o:Go)(m:Str)(Ym:Pos)(e:Go)(Yq:Pos):Prop where
 base:Ps o m X.env (wp o X.env)=wp o X.env
 pJ:((xz Yq (Tl [e] X.env)).all (λx=>!x.1)&&(IN Yq (Rs [] X.env)).all (λx=>x.1.isSome)
  &&decide (([e]:List Go).length+([]:List XXf).length+(if ([]:List XXf).isEmpty then 0 else 1)<30))=Db
 line:(Ym.endLine==Yq.line)=Db
 trees:xz Yq (Tl [e] X.env)=[(pc,wp e X.env)]
structure M2(X:Cx)(o:Go)(m:Str)(Ym:Pos)(e f:Go)(Yq:Pos):Prop where
 base:Ps o m X.env (wp o X.env)=wp o X.env
 pJ:((xz Yq (Tl [e,f] X.env)).all (λx=>!x.1)&&(IN Yq (Rs [] X.env)).all (λx=>x.1.isSome)
  &&decide (([e,f]:List Go).length+([]:List XXf).length+(if ([]:List XXf).isEmpty then 0 else 1)<30))=Db
 line:(Ym.endLine==Yq.line)=Db
 trees:xz Yq (Tl [e,f] X.env)=[(pc,wp e X.env),(pc,wp f X.env)]
variable {d:V}
section
variable {s:Sd}{o:Option V}{A:Ar}{E:QQX}
end
variable {f:Go}{Ym Yq:Pos}{tx:TE}
section
variable {o:Go}
end
section
variable {s:Sd}{A:Ar}{E:QQX}
end
section
variable {s:Sd}{A:Ar}{E:QQX}
end
section
variable {κ:Type}[DecidableEq κ]
end
noncomputable def By(env:Env):T0 (Str×wT)->T0 (Str×Uf)->T0 (Str×Uf)
 | [],acc=>acc
 | (n,k)::r,acc=>By env r (if k==.free then(n,(env.cells.lookup n).getD 0)::acc else acc)
theorem Ha{env:Env}{f:(Str×wT)->T0 (Str×Uf)->Sem (ForInStep (T0 (Str×Uf)))} (hf:∀x cs,(x.2=.free->∃c,env.cells.lookup x.1=ga c)->f x cs=pure (.yield (if x.2==.free then(x.1,(env.cells.lookup x.1).getD 0)::cs else cs))):
  ∀(l:T0 (Str×wT)) (acc:T0 (Str×Uf)),(∀x∈l,x.2=.free->∃c,env.cells.lookup x.1=ga c)->forIn l acc f=pure (By env l acc)
 | [],acc,_=>by rw[ke];rfl
 | (n,k)::r,acc,h=>by rw[jZ,hf (n,k) acc (h _ dH),pure_bind];exact Ha hf r _ λx hx=>h x (dD _ hx)
def za{scope:XXe}{env:Env}(h:∀x∈scope.names,x.2=.free->∃c,env.cells.lookup x.1=ga c):closureFor scope env=pure (By env scope.names []):=by
 unfold closureFor;have e:=Ha (env:=env) (f:=λ(x:Str×wT) (cs:T0 (Str×Uf))=>(do
   if x.2==.free then
    let a<-cellOf env x.1
    pure (ForInStep.yield ((x.1,a)::cs))
   else pure (ForInStep.yield cs))) (λx cs hx=>by
  cases hk:x.2==NameKind.free with
  | false=>simp
  | true=>
   obtain⟨c,hc⟩:=hx (by simpa using hk);simp[cellOf,hc]) scope.names [] h
 first
  | exact(eR (·>>=pure) e).trans (by simp)
  | (simp only[bind_pure];exact e)
  | (rw[<-e];rfl)
theorem Ou{env:Env}{x:Str}{c:Uf}:∀{l:T0 (Str×wT)} {acc:T0 (Str×Uf)},(∀x∈l,x.2=.free->∃c,env.cells.lookup x.1=ga c)->(∀x c,acc.lookup x=ga c->env.cells.lookup x=ga c)->(By env l acc).lookup x=ga c->env.cells.lookup x=ga c
 | [],acc,_,ha,h=>ha x c h
 | (n,k)::r,acc,hl,ha,h=>by
  refine Ou (l:=r) (acc:=if k==.free then(n,(env.cells.lookup n).getD 0)::acc else acc) (λy hy=>hl y (dD _ hy)) (λy d hd=>?_) h;cases hk:k==NameKind.free with
  | false=>rw[hk]at hd;exact ha y d (by simpa using hd)
  | true=>
   rw[hk,dh Z']at hd;obtain⟨e,he⟩:=hl (n,k) dH (by simpa using hk);rw[eJ]at hd;cases hy:y==n with
   | true=>
    rw[hy]at hd;have yn:y=n:=by simpa using hy
    subst yn;have he:env.cells.lookup y=ga e:=he;rw[he]at hd ⊢;exact hd
   | false=>rw[hy]at hd;exact ha y d hd
theorem Nt{x:Str}:∀{l:T0 (Str×wT)} {acc:T0 (Str×Uf)},(∃c,acc.lookup x=ga c)->∃c,(By env l acc).lookup x=ga c
 | [],_,h=>h
 | (n,k)::r,acc,h=>by
  refine Nt (l:=r) ?_;cases hk:k==NameKind.free with
  | false=>simpa using h
  | true=>
   rw[dh Z',eJ];cases hy:x==n with
   | true=>exact⟨_,Z'⟩
   | false=>exact h
theorem Ji{x:Str}:∀{l:T0 (Str×wT)} {acc:T0 (Str×Uf)},l.lookup x=ga .free->∃c,(By env l acc).lookup x=ga c
 | [],_,h=>by simp at h
 | (n,k)::r,acc,h=>by
  rw[eJ]at h;cases hy:x==n with
  | true=>rw[hy]at h;have hk:k=.free:=dq h;subst hk;refine Nt (l:=r) ⟨(env.cells.lookup n).getD 0,?_⟩;show List.lookup x (if NameKind.free==NameKind.free then(n,(env.cells.lookup n).getD 0)::acc else acc)=ga ((env.cells.lookup n).getD 0);rw[dh (by rfl),eJ,hy]
  | false=>rw[hy]at h;exact Ji (l:=r) h
theorem uX{env:Env}{x:Str}:∀{l:T0 (Str×wT)},(l.map λ(n,k)=>if (k==NameKind.free&&env.scope.kind==.function&&env.kindOf n==ga .cell)then(n,NameKind.cell)else(n,k)).lookup x
   = (l.lookup x).map λk=>if (k==NameKind.free&&env.scope.kind==.function&&env.kindOf x==ga .cell)then NameKind.cell else k
 | []=>rfl
 | (n,k)::r=>by
  rw[d6];show List.lookup x ((if (k==NameKind.free&&env.scope.kind==.function&&env.kindOf n==ga .cell)=Db then(n,NameKind.cell)else(n,k))::_)=_;cases hy:x==n with
  | true=>
   have yn:x=n:=by simpa using hy
   subst yn;by_cases hc:(k==NameKind.free&&env.scope.kind==.function&&env.kindOf x==ga .cell)=Db
   .rw[dh hc,eJ,eJ,hy];simp only[j3];rw[dh hc]
   .rw[df hc,eJ,eJ,hy];simp only[j3];rw[df hc]
  | false=>
   by_cases hc:(k==NameKind.free&&env.scope.kind==.function&&env.kindOf n==ga .cell)=Db
   .rw[dh hc,eJ,eJ,hy];exact uX
   .rw[df hc,eJ,eJ,hy];exact uX
noncomputable def Rw(ix:T0 (Option Nat))(Y:St):St:=ix.map λo=>o.bind λi=>(Y[i]?).join
abbrev Cx.comp(X:Cx)(scope:XXe)(N':QQQ)(C:Uf)(s0:Sd)(H0:Hp)(ex:QXQ):Cx:=
 {X with N:=N',s₀:=s0,H₀:=H0,env:=compEnvC scope (By X.env scope.names []) C X.env,outer:=X.stack,ex:=ex,fn:=λ_=>pc,pn:=[],xe:=λ_ _=>False}
structure sW(X:Cx)(scope:XXe)(ix:List (Option Nat))(N':QQQ):Prop where
 kind:scope.kind=.function
 oQ:∀y∈scope.names,y.2≠.cell
 nam:∀y∈scope.names,y.2=.local->scope.names.lookup y.1=ga .local
 fre:∀y∈scope.names,y.2=.free->X.env.scope.names.lookup y.1=ga .cell\/X.env.scope.names.lookup y.1=ga .free
 len:ix.length=N'.length
 at_:∀(j i:Nat) (x:Str),ix[j]?=ga (ga i)->N'[j]?=ga x->X.N[i]?=ga x/\scope.names.lookup x=ga .free
variable {scope:XXe}{ix:T0 (Option Nat)}{N':QQQ}{fp:QXQ}
section
variable {s:Sd}
def sW.cells(S:sW X scope ix N')(ok:X.Ok):∀x∈scope.names,x.2=.free->∃c,X.env.cells.lookup x.1=ga c:=λx hx hk=>ok.has x.1 (S.fre x hx hk)
def sW.sub(S:sW X scope ix N')(ok:X.Ok){x:Str}{c:Uf}(h:(By X.env scope.names []).lookup x=ga c):X.env.cells.lookup x=ga c:=Ou (S.cells ok) (λ_ _ z=>by simp at z) h
theorem vR{x:Str}{k:wT}:∀{l:T0 (Str×wT)},l.lookup x=ga k->(x,k)∈l
 | [],h=>by simp at h
 | (n,j)::r,h=>by
  rw[eJ]at h;cases hy:x==n with
  | true=>
   rw[hy]at h;have yn:x=n:=by simpa using hy
   subst yn;rw[dq h];exact dH
  | false=>rw[hy]at h;exact dD _ (vR h)
def Inv.comp{C:Uf}{h1:No}{tk:Nat}(I:Inv X Yj Y H s)(S:sW X scope ix N')(hf:∀b∈fp,zN X Yj H b)(Yt:∀b∈fp,b<s.heap.objs.size)(hC:s.heap.objs.size<=C) (k:∀b o,s.heap.get? b=ga o->h1.get? b=ga o) (hn:h1.Ns C (λ_=>Fa)):Inv (X.comp scope N' C s H fp) (X.pn++Yj) (Rw ix Y) H {s with heap:=h1,toks:=tk}:=by
 have sub:∀{x:Str} {c:Uf},(By X.env scope.names []).lookup x=ga c->X.env.cells.lookup x=ga c:=λh=>S.sub I.ok h;refine⟨⟨I.ok.mod,S.kind,I.ok.glob,I.ok.blt,hC,λx y c e1 e2=>I.ok.inj x y c (sub e1) (sub e2),λx hx=>?_,λ_ _ z=>(dE z).elim,I.ok.hd,I.ok.frames,.inl Z',λb hb=>⟨dM (dU (Yt b hb) hC),λx c e=>(hf b hb).2.2.2.2.1 x c (sub e)⟩,I.bs,eh I.ok.oq I.sz,λb o e hb=>?_,λb hb hfs=>?_,I.stack,I.nR⟩,Z',I.bare,Un.kept k,⟨_,hn,λi x v e1 e2 e3=>?_⟩,λx c e=>?_,I.m9.fresh hC,λx c e=>I.nv x c (sub e),λp hp=>?_,I.m9.kept k,?_⟩
 .have hx:(relabel scope X.env).names.lookup x=ga .cell\/(relabel scope X.env).names.lookup x=ga .free:=hx;have e:(relabel scope X.env).names.lookup x=(scope.names.lookup x).map λk=>if (k==NameKind.free&&X.env.scope.kind==.function&&X.env.kindOf x==ga .cell)then NameKind.cell else k:=uX
  rw[e]at hx;cases q:scope.names.lookup x with
  | none=>rw[q]at hx;rcases hx with hx|hx<;>simp at hx
  | some kd=>
   cases kd with
   | free=>exact Ji q
   | cell=>exact absurd Z' (S.oQ _ (vR q))
   | _=>rw[q]at hx;rcases hx with hx|hx<;>simp at hx
 .rcases(hf b hb).2.2.2.1 with z|z
  .exact I.ok.nZ b o e z
  .exact absurd (dU (dC e) (eh I.ok.oq z)) (eW _)
 .rcases dz.mp (I.nJ b hfs)with z|z
  .exact(hf b hb).2.1 z
  .exact(hf b hb).2.2.1 z
 .have e2':(ix[i]?).map (λo=>o.bind λi=>(Y[i]?).join)=ga (ga v):=by have z:(Rw ix Y)[i]?=ga (ga v):=e2;unfold Rw at z;rw[dG]at z;exact z
  cases q:ix[i]? with
  | none=>rw[q]at e2';cases e2'
  | some o=>
   rw[q]at e2';cases o with
   | none=>cases e2'
   | some j=>
    have e2'':(Y[j]?).join=ga v:=dq e2';have e4:Y[j]?=ga (ga v):=by
     cases r:Y[j]? with
     | none=>rw[r]at e2'';cases e2''
     | some w=>rw[r]at e2'';exact eR ga e2''
    obtain⟨n1,n2⟩:=S.at_ i j x q e1;obtain⟨m,hm,hl⟩:=I.loc;have hk:=S.fre _ (vR n2) Z';have hv:Vq X.env.scope x:=by
     rcases hk with z|z
     .exact .inr (.inl z)
     .exact .inr (.inr z)
    obtain⟨u,ru,lk⟩:=hl j x v n1 e4 hv;refine⟨u,ru,?_⟩;have hk':X.env.kindOf x=ga .cell\/X.env.kindOf x=ga .free:=hk;rcases lk with⟨z,_⟩|⟨_,c,hc,hcell⟩
    .rcases hk' with y|y<;>(rw[y]at z;cases z)
    .obtain⟨c',hc'⟩:=Ji (env:=X.env) (acc:=[]) n2;have:=sub hc';rw[hc]at this;cases this;refine .inr ⟨?_,c,hc',hcell.keeps k⟩;show(relabel scope X.env).names.lookup x=ga .cell\/(relabel scope X.env).names.lookup x=ga .free;have e:(relabel scope X.env).names.lookup x=(scope.names.lookup x).map λk=>if (k==NameKind.free&&X.env.scope.kind==.function&&X.env.kindOf x==ga .cell)then NameKind.cell else k:=uX
     rw[e,n2];simp only[j3];split
     .exact .inl Z'
     .exact .inr Z'
 .obtain⟨v,q⟩:=I.cell x c (sub e);exact⟨v,q.keeps k⟩
 .obtain⟨e,n,ne,nf,d⟩:=I.pin p (by simpa using hp);refine⟨k _ _ e,n,dM (dU (dC e) hC),λz=>?_,d⟩;rcases dz.mp (I.nJ p.1 z)with y|y
  .exact ne y
  .exact nf y
 .show(Rw ix Y).length=N'.length;unfold Rw;rw[cX];exact S.len
end
section
variable {prog:Pg}{w:Wo}{A:Ar}{R:Result→Sd→Prop}{s:Sd}
def yz{Zc YN iter:Go}{YU:T0 Go}{scope:XXe}{pos:Pos}{it acc:Vl}{env:Env}(I:Nat->Sd->Prop){EX:QQX}(hEX:∀e s',EX e s'->notedBy (Tk prog w) A env (λx s'=>R (.error x) s') e s') (turn:∀n s,I n s->pi (Tk prog w) A (pyNext it) (λr s₁=>match r with
   | none=>R (.ok .next) s₁
   | some v=>pi (Tk prog w) A (XXj YN it v) (λ_ s₁=>pi (Tk prog w) A (assign YN env v) (λ_ s₂=>
     pi (Tk prog w) A (forIn YU Db λc r=>if r=Db then do let ok<-isTrue c env (wp c env);pure (ForInStep.yield ok)else pure (ForInStep.yield r)) (λok s₃=>
      if ok=Db then pi (Tk prog w) A (wp Zc env) (λx s₄=>
       pi (Tk prog w) A (call (.builtin "list.append") [acc,x]) (λ_ s₅=>∃m,m<n/\I m s₅) (λ_ _=>False) s₄) EX s₃
      else ∃m,m<n/\I m s₃) (λ_ _=>False) s₂) (λ_ _=>False) s₁) (λ_ _=>False) s₁) (λ_ _=>False) s)
  (n:Nat) (h:I n s):
  XXk (Tk prog w) A (.compLoop (.ListComp Zc [⟨YN,iter,YU,0⟩] scope pos) 0 it acc env) R s:=by
 refine codeAny_loop Z' I (λn s hI=>?_) n h;show pi _ A ((compTurn (.ListComp Zc [⟨YN,iter,YU,0⟩] scope pos) 0 it acc env).onRaise (λx=>do noteFrame x env;theTreesLotGoes x)) _ _ s;refine wpAny_noted ?_;rw[compTurn_list];refine cY (ii (cY (eB (turn n s hI) (λr s₁ h₁=>?_) λ_ _ h'=>h'.elim)));cases r with
 | none=>exact dv h₁
 | some v=>
  refine cY (eB h₁ (λ_ s₁' h₁'=>?_) λ_ _ h'=>h'.elim);refine cY (eB h₁' (λ_ s₂ h₂=>cY (eB h₂ (λok s₃ h₃=>?_) λ_ _ h'=>h'.elim)) λ_ _ h'=>h'.elim);cases ok with
  | false=>exact dv ⟨Z',h₃⟩
  | true=>exact cY (cY (eB h₃ (λx s₄ h₄=>cY (eB h₄ (λ_ s₅ h₅=>dv (dv ⟨Z',h₅⟩)) λ_ _ h'=>h'.elim)) hEX))
end
def PF(X:Cx)(YU:T0 Go)(t:TT):Prop:=
 ∀(Yj:QQY) (s:Sd) (Y:St) (H:Hp) (Q:Bool->Hp->Prop),Inv X Yj Y H s->t Y H Q->
  pi (Tk X.prog X.w) X.A (forIn YU Db λc r=>if r=Db then do let ok<-isTrue c X.env (wp c X.env);pure (ForInStep.yield ok)else pure (ForInStep.yield r)) (TP X Yj Y Q) X.xe s
def VJ:TT:=λ_ H Q=>Q Db H
def TH:PF X [] VJ:=λ_ _ _ H _ I h=>wpAny_tests_nil ⟨H,I,h⟩
def SJ(h:PT X c t):PF X [c] t:=λYj s Y H Q I q=>wpAny_tests_one (h Yj s Y H Q I q)
def R1(ix:T0 (Option Nat))(g:TG)(tt:TT)(te:TE)(Y:St)(J:It)(Q:VK)(H:Hp):Prop:=
 ∃W:Nat->Nat->T0 V->St->Hp->Prop,(∃m,W 0 m [] (Rw ix Y) H)/\∀i m ys σ' H,W i m ys σ' H->
  (J.stop i H/\ys.length<=Ch/\∀D,H D=Fa->Q (.ref D) (upd H D (.lst ys)))\/
  (J.go i H/\ys.length<Ch/\∀x H',J.pz i H x H'->g x σ' H' λσ2 H2=>tt σ2 H2 λb H3=>if b=Db then te σ2 H3 λy H4=>∃m',m'<m/\W (i+1) m' (ys++[y]) σ2 H4 else ∃m',m'<m/\W (i+1) m' ys σ2 H3)
def MY(ix:T0 (Option Nat))(wi:TI)(g:TG)(tt:TT)(te:TE):TE:=λY H Q=>wi Y H λJ H1=>R1 ix g tt te Y J Q H1
variable {tg iter Zc:Go}{YU:T0 Go}{g:TG}{tt:TT}{te:TE}{J:It}{it:Uf}{tn:Nat→No→Prop}{Q:VK}
section
variable {s:Sd}
def CL{XP:Uf->Sd->Hp->QXQ->QQY->St->Vl->Sd->Prop}{RR:Vl->Uf->Result->Sd->Prop}{E:QQX}(hc:X.calm=Db)(S:sW X scope ix N')(I:Inv X Yj Y H s)(T:HL X.prog X.w X.K tg J fp it tn)(st:tn 0 s.heap)(hf:∀b∈fp,zN X Yj H b) (hg:∀C s0 H0 ex,PG (X.comp scope N' C s0 H0 ex) tg g) (ht:∀C s0 H0 ex,PF (X.comp scope N' C s0 H0 ex) YU tt) (he:∀C s0 H0 ex Yj s Y H Q,Inv (X.comp scope N' C s0 H0 ex) Yj Y H s->te Y H Q->pi (Tk X.prog X.w) X.A (wp Zc (X.comp scope N' C s0 H0 ex).env) (EP (X.comp scope N' C s0 H0 ex) Yj Y Q) (XP C s0 H0 ex Yj Y) s) (hx:∀C D e s',s.heap.objs.size<=C->(∃Zm σ',(∀b∈fp,∃o,(b,o)∈Zm)/\XP C s H fp Zm σ' e s')->notedBy (Tk X.prog X.w) X.A (compEnvC scope (By X.env scope.names []) C X.env) (λx s'=>RR D C (.error x) s') e s') (hw:R1 ix g tt te Y J Q H) (Yn:∀D C s' H' m,s.heap.objs.size<=C->H' C=Fa->s'.heap.Ns C m->Inv X Yj Y H' s'->Q (.ref D) H'->RR (.ref D) C (.ok .next) s'):
  pi (Tk X.prog X.w) X.A (newList []) (λacc s₃=>pi (Tk X.prog X.w) X.A (newFunctionEnv scope X.env.globals (By X.env scope.names []) [] X.env.qual Fa .none (ga X.env)) (λY0 s₄=>
   XXk (Tk X.prog X.w) X.A (.compStart (.ListComp Zc [⟨tg,iter,YU,0⟩] scope pos) 0 (.ref it) acc {Y0 with scope:=relabel scope X.env}) (RR acc Y0.locals) s₄) E s₃) E s:=by
 obtain⟨W,⟨m0,w0⟩,turn⟩:=hw;have Yt:∀b∈fp,b<s.heap.objs.size:=λb hb=>by obtain⟨o,e,_⟩:=T.obj _ _ st b hb;exact dC e
 refine fV (wpAny_newFunctionEnv S.oQ (by intro y hy;simp at hy) (λh₁ Z5 hsb₁=>?_) S.kind);dsimp only at Z5 hsb₁ ⊢;generalize hH2:s.heap.push {cls:=.type "list",dict:=none,data:=.seq ([]:T0 Vl).toArray}=H2 at Z5 hsb₁ ⊢;have hC:H2.objs.size=s.heap.objs.size+1:=by rw[<-hH2,fu]
 have hDC:s.heap.objs.size≠H2.objs.size:=by rw[hC];exact dM (fG _)
 have hCle:s.heap.objs.size<=H2.objs.size:=by rw[hC];exact gY _
 have below:∀b,b<s.heap.objs.size->b≠H2.objs.size/\b≠s.heap.objs.size:=λb hb=>⟨by rw[hC];exact dM (fW hb),dM hb⟩;have YR:∀b o,s.heap.get? b=ga o->h₁.get? b=ga o:=λb o e=>hsb₁.extBut b o (below b (dC e)).1 (dg _ (hH2 ▸ dg _ e));have hacc:h₁.get? s.heap.objs.size=ga {cls:=.type "list",data:=.seq ([]:T0 Vl).toArray 0}:=hsb₁.extBut _ _ hDC (dg _ (hH2 ▸ dJ _ Z'));have Z5:h₁.Ns H2.objs.size (λ_=>Fa):=Z5;have ZD:∀{H':Hp} {pl:QQY},(∀b∈fp,H' b=Fa)->(∀p∈pl,p.1∉fp)->∀b∈fp,zN (X.comp scope N' H2.objs.size s H fp) (X.pn++Yj++pl) H' b:=λ{H' pl} hn YA b hb=>by
  refine⟨hn b hb,dM (dU (Yt b hb) hCle),λz=>?_,.inl hb,λx c e=>(hf b hb).2.2.2.2.1 x c (S.sub I.ok e),λp hp=>?_⟩
  .rcases dz.mp (I.nJ b z)with y|y
   .exact(hf b hb).2.1 y
   .exact(hf b hb).2.2.1 y
  .rcases dS.mp (show p∈X.pn++Yj++pl by simpa using hp)with z|z
   .exact(hf b hb).2.2.2.2.2 p z
   .intro q;exact YA p z (q ▸ hb)
 have loop:∀s₃:Sd,s₃={s with heap:=h₁,toks:=s.toks+([]:T0 (Str×Vl)).length}->
   XXk (Tk X.prog X.w) X.A (.compLoop (.ListComp Zc [⟨tg,iter,YU,0⟩] scope pos) 0 (.ref it) (.ref s.heap.objs.size) (compEnvC scope (By X.env scope.names []) H2.objs.size X.env))
    (RR (.ref s.heap.objs.size) H2.objs.size) s₃:=by
  rintro s₃ rfl
  refine yz (hEX:=λe s' z=>hx _ _ e s' hCle z) (λn s'=>∃(i:Nat) (ys:T0 V) (us:T0 Vl) (k:Nat) (σ':St) (H':Hp),Inv (X.comp scope N' H2.objs.size s H fp) (X.pn++Yj) σ' H' s'/\tn i s'.heap/\(∀b∈fp,H' b=Fa)/\H' s.heap.objs.size=Fa/\
   s'.heap.get? s.heap.objs.size=ga {cls:=.type "list",data:=.seq us.toArray k}/\qL ys us/\ys.length<=Ch/\W i n ys σ' H') ?_ m0
   ⟨0,[],[],0,Rw ix Y,H,I.comp S hf Yt hCle YR Z5,T.keep _ _ _ st λb _ o e=>YR b o e,λb hb=>(hf b hb).1,I.m9.fresh (dw _),hacc,.nil,eO _,w0⟩
  rintro n s' ⟨i,ys,us,k,σ',H',I',Za,fr',hD',YY,rv',hz',w'⟩
  have cellD:∀x c,(X.comp scope N' H2.objs.size s H fp).env.cells.lookup x=ga c->c≠s.heap.objs.size:=λx c e=>by obtain⟨v,q⟩:=I.cell x c (S.sub I.ok e);exact dM q.lt
  have pinD:∀p∈X.pn++Yj,p.1≠s.heap.objs.size:=λp hp=>dM (dC (I.pin p hp).1);have dfs:s.heap.objs.size∉(X.comp scope N' H2.objs.size s H fp).fs:=λz=>by
   rcases dz.mp (I.nJ _ z)with y|y
   .exact absurd I.lt (by rw[<-y];exact eW _)
   .exact I.o9 (dw _) y
  have dfp:s.heap.objs.size∉fp:=λz=>absurd (Yt _ z) (eW _);have IpD:Inv (X.comp scope N' H2.objs.size s H fp) (X.pn++Yj++[(s.heap.objs.size,{cls:=.type "list",data:=.seq us.toArray k})]) σ' H' s':=I'.n9 λp hp=>by
   rcases dS.mp hp with z|z
   .exact I'.pin p (dR _ z)
   .have e:p=(s.heap.objs.size,{cls:=.type "list",data:=.seq us.toArray k}):=by simpa using z
    subst e;exact⟨YY,hD',hDC,dfs,λv z=>by cases z⟩
  have pfp:∀p∈[((s.heap.objs.size,{cls:=.type "list",data:=.seq us.toArray k}):Uf×Obj)],p.1∉fp:=λp hp=>by
   have e:p=(s.heap.objs.size,{cls:=.type "list",data:=.seq us.toArray k}):=by simpa using hp
   subst e;exact dfp
  rcases turn i n ys σ' H' w' with⟨stop,hz,q⟩|⟨go,hz,step⟩
  .refine eB (T.done (X.comp scope N' H2.objs.size s H fp) Z' Z' Z' hc i _ s' σ' H' (λ_ _=>False) IpD (ZD fr' pfp) Za stop) (λr s1 ⟨hr,I1⟩=>?_) λ_ _ z=>z;subst hr;show RR _ _ _ _;have ho1:s1.heap.get? s.heap.objs.size=ga {cls:=.type "list",data:=.seq us.toArray k}:=(I1.pin (s.heap.objs.size,{cls:=.type "list",data:=.seq us.toArray k}) (by simp)).1;obtain⟨m,hnC,_⟩:=id I1.loc;refine Yn _ _ s1 (upd H' s.heap.objs.size (.lst ys)) m hCle (by rw[qv (dZ hDC)];exact I1.free) hnC ?_ (q _ hD');have nD:∀b o,s.heap.get? b=ga o->b≠s.heap.objs.size:=λb o e=>(below b (dC e)).2;have hD0:H s.heap.objs.size=Fa:=I.m9.fresh (dw _);refine I.pC (s':=s1) (ch:=fp) I1.os ⟨λb o e n1 n2 n3=>?_,λb o e n1 n2 n3=>?_,λb o e n1 n2=>?_,λb o e n1=>?_,λb xs e=>?_,λb o u e=>?_,λb ps e=>?_⟩ (λb u e=>?_) I1.bare λb hb=>⟨(hf b hb).2.2.2.1,(hf b hb).2.1,(hf b hb).2.2.2.2.1,(hf b hb).2.2.2.2.2⟩
   .exact I1.base.keep b o e n1 n2 n3
   .exact I1.base.slot b o e n1 n2 n3
   .rw[qv (nD b o e)];exact I1.base.free b o e n1 n2
   .exact I1.base.there b o e n1
   .rw[qv (rE e hD0)];exact I1.base.nQ b xs e
   .rw[qv (rE e hD0)];exact I1.base.nK b o u e
   .obtain⟨more,z⟩:=I1.base.nU b ps e;exact⟨more,by rw[qv (rE e hD0)];exact z⟩
   .by_cases hb:b=s.heap.objs.size
    .subst hb;rw[qC]at e;cases e;exact⟨hz,us,k,rv',ho1⟩
    .rw[qv hb]at e;exact(I1.m9 b u e).nH (λc v _ z=>z) (λc z=>by rw[qv (rE z hD')];exact z) (λc xs z=>by rw[qv (rE z hD')];exact z)
  .refine eB (T.item (X.comp scope N' H2.objs.size s H fp) Z' Z' Z' hc i _ s' σ' H' (λ_ _=>False) IpD (ZD fr' pfp) Za go) (λr s1 ⟨v,hr,h4⟩=>?_) λ_ _ z=>z;subst hr;show pi _ _ (XXj tg (.ref it) v) _ _ s1;refine eB h4 (λ_ s2 zz=>?_) λ_ _ z=>z;obtain⟨x,H5,I5,r5,y5,st5,fr5⟩:=zz;have I5':=I5.pinned (ZD fr5 pfp) (T.obj _ _ st5);refine eB (hg H2.objs.size s H fp _ s2 σ' H5 x v _ I5' r5 (step x H5 y5)) (λ_ s3 ⟨σ6,H6,I6,q6⟩=>?_) λ_ _ z=>z;refine eB (ht H2.objs.size s H fp _ s3 σ6 H6 _ I6 q6) (λok s4 ⟨H7,I7,q7⟩=>?_) λ_ _ z=>z;have facts:∀{σ7:St} {H7:Hp} {s7:Sd},Inv (X.comp scope N' H2.objs.size s H fp) (X.pn++Yj++[(s.heap.objs.size,{cls:=.type "list",data:=.seq us.toArray k})]++C5 fp s2.heap) σ7 H7 s7->
     tn (i+1) s7.heap/\(∀b∈fp,H7 b=Fa)/\H7 s.heap.objs.size=Fa/\s7.heap.get? s.heap.objs.size=ga {cls:=.type "list",data:=.seq us.toArray k}:=λ{σ7 H7 s7} K7=>by
    have pd:=K7.pin (s.heap.objs.size,{cls:=.type "list",data:=.seq us.toArray k}) (by simp);refine⟨T.keep _ _ _ st5 λb hb o e=>(K7.pin (b,o) (dR _ (dR _ (we hb e)))).1,λb hb=>?_,pd.2.1,pd.1⟩;obtain⟨o,e,d⟩:=T.obj _ _ st5 b hb;exact(K7.pin (b,o) (dR _ (dR _ (we hb e)))).2.1
   cases ok with
   | false=>rw[df dE]at q7 ⊢;obtain⟨m',hm,w7⟩:=q7;obtain⟨t7,f7,d7,o7⟩:=facts I7;exact⟨m',hm,i+1,ys,us,k,σ6,H7,I7.nu.nu,t7,f7,d7,o7,rv',hz',w7⟩
   | true=>
    rw[dh Z']at q7 ⊢;refine eB (he H2.objs.size s H fp _ s4 σ6 H7 _ I7 q7) (λyv s5 ⟨y,H8,I8,r8,m',hm,w8⟩=>?_) λ_ _ z=>⟨_,_,λb hb=>(by
     obtain⟨o,e,_⟩:=T.obj _ _ st5 b hb;exact⟨o,dR _ (we hb e)⟩),z⟩
    obtain⟨t8,f8,d8,o8⟩:=facts I8;have hsz:us.toArray.size<=Ch:=by rw[dA,<-rv'.length];exact hz'
    refine append_at (hsz:=hsz) o8 λh' sb od=>?_;refine⟨m',hm,i+1,ys++[y],us++[yv],k+1,σ6,H8,?_,T.keep _ _ _ t8 λb hb o e=>(sb.2 b λq=>dfp (q ▸ hb)).trans e,f8,d8,?_,rv'.append (.cons r8 .nil),?_,w8⟩
    .exact I8.nu.nu.turned (it:=s.heap.objs.size) (t':=s5.toks) (λb o hb e=>(sb.2 b hb).trans e) d8 hDC (.inr (dw _)) cellD (by simpa using pinD)
    .rw[od,List.push_toArray]
    .rw[c9,dI];exact hz
 exact codeAny_compStart_list (loop _ Z') (T.self _ 0 _ _ _ (T.keep _ _ _ st λb _ o e=>YR b o e) (loop _ Z'))
def Inv.letGo{C:Uf}(I:Inv X Yj Y H s)(I':Inv X Yj σ' H' s')(hC:s.heap.objs.size<=C)(hn:H' C=Fa)(hs:Heap.SameBut C s'.heap h'):Inv X Yj σ' H' {s' with heap:=h'}:=
 I'.turned (t':=s'.toks) (it:=C) (λb o hb e=>(hs.2 b hb).trans e) hn (λz=>absurd (dU I.lt hC) (by rw[z];exact eW _)) (.inr (eh I.sz hC))
  (λx c e z=>by
   obtain⟨v,r⟩:=I.cell x c e;exact absurd (dU r.lt hC) (by rw[z];exact eW _))
  (λp hp z=>absurd (dU (dC (I.pin p hp).1) hC) (by rw[z];exact eW _))
def QW(hc:X.calm=Db)(S:sW X scope ix N')(hi:PI X tg iter wi)(hg:∀C s0 H0 ex,PG (X.comp scope N' C s0 H0 ex) tg g)(ht:∀C s0 H0 ex,PF (X.comp scope N' C s0 H0 ex) YU tt)(he:∀C s0 H0 ex,PE (X.comp scope N' C s0 H0 ex) Zc te) (hs:∀x,XV iter X.env x=pure x:=by intro _;rfl):PE X (.ListComp Zc [⟨tg,iter,YU,0⟩] scope pos) (MY ix wi g tt te):=by
 intro Yj s Y H Q I h;rw[eval_ListComp];refine jN (use:=none) Z' hs (za (S.cells I.ok)) S.kind S.nam (eB (hi Yj s Y H _ I h) (λxv s₁ h₁=>eB h₁ (λitv s₂ h₂=>?_) λ_ _ e=>e) λ_ _ e=>e);obtain⟨it,fp,tn,J,H2,e,I2,T,YH,f2,hw⟩:=h₂;subst e;refine CL (RR:=λacc C=>compPost (Tk X.prog X.w) X.A X.xe Fa (EP X Yj Y Q) acc C) hc S I2 T YH f2 hg ht (XP:=λ_ _ _ _ _ _ _ _=>False) he (λ_ _ _ _ _ z=>by obtain⟨_,_,_,z⟩:=z;exact z.elim) hw λD C s' H' m hCs hCn hn I3 q=>?_;exact⟨m,hn,λh' hs'=>⟨.ref D,_,I2.letGo I3 hCs hCn hs',Z',q⟩⟩
def Iv{i:Nat}{x:Str}{px Z6:Pos}(hN:X.N.Nodup)(hix:X.N[i]?=ga x)(hx:L0 X.env.scope x)(hc:X.calm=Db)(S:sW X scope ix N')(hi:PI X tg iter wi)(hg:∀C s0 H0 ex,PG (X.comp scope N' C s0 H0 ex) tg g)(ht:∀C s0 H0 ex,PF (X.comp scope N' C s0 H0 ex) YU tt) (he:∀C s0 H0 ex,PE (X.comp scope N' C s0 H0 ex) Zc te) (ZT:wE (.ListComp Zc [⟨tg,iter,YU,0⟩] scope pos) (ga (.Name x px)) Z6.line X.env=pure Db) (hf:L4 X x:=by first|exact .inl Z'|exact .inr Z'|assumption) (hs:∀x,XV iter X.env x=pure x:=by intro _;rfl):
  PS X (.Assign [.Name x px] (.ListComp Zc [⟨tg,iter,YU,0⟩] scope pos) Z6) (SA (MY ix wi g tt te) (MH i)):=by
 intro Yj s Y H D I h;rw[exec_Assign_Name_used _ _ _ _ ZT];refine cY (ii (cY ?_));show pi _ X.A (do let _<-comprehension (.ListComp Zc [⟨tg,iter,YU,0⟩] scope pos) scope X.env _ (newList []) pc (wp iter X.env) (ga (assign (.Name x px) X.env))) _ _ s;refine cY (eB (jN (use:=some (assign (.Name x px) X.env)) (Q:=λ_ s'=>SP X Yj D .next s') Z' hs (za (S.cells I.ok)) S.kind S.nam
  (eB (hi Yj s Y H _ I h) (λxv s₁ h₁=>eB h₁ (λitv s₂ h₂=>?_) λ_ _ e=>e) λ_ _ e=>e)) (λ_ s' hq=>dv (dv hq)) λ_ _ e=>e)
 obtain⟨it,fp,tn,J,H2,e,I2,T,YH,f2,hw⟩:=h₂;subst e;refine CL (RR:=λacc C=>compPost (Tk X.prog X.w) X.A X.xe (ga (assign (.Name x px) X.env)) (λ_ s'=>SP X Yj D .next s') acc C) hc S I2 T YH f2 hg ht (XP:=λ_ _ _ _ _ _ _ _=>False) he (λ_ _ _ _ _ z=>by obtain⟨_,_,_,z⟩:=z;exact z.elim) hw λDa C s' H' m hCs hCn hn I3 q=>?_;show pi _ X.A (assign (.Name x px) X.env (.ref Da)) _ _ _;refine lD (EN I3 hN hix hx (v:=.ref Da) Z' (λs4 I4 ⟨a,sb,ha⟩=>?_) hf);have ca:C≠a:=λz=>by
  rcases ha with y|y
  .exact absurd (dU I2.lt hCs) (by rw[z,y];exact eW _)
  .obtain⟨v,r⟩:=I2.cell x a y;exact absurd (dU r.lt hCs) (by rw[z];exact eW _)
 exact⟨m,hn.sameBut sb ca,λh' hs'=>⟨_,H',I2.letGo I4 hCs hCn hs',q⟩⟩
end
def Bx:typeLookup (.type "list") "__getattr__"=pure Fa:=by rw[typeLookup_type,kg];kernel_rfl
def F6:typeLookup (.type "list") "keys"=pure Fa:=by rw[typeLookup_type,kg];kernel_rfl
section
variable {prog:Pg}{w:Wo}{A:Ar}{E:QQX}
def Og(a:Uf)(u:Tok)(its:Array Vl)(n:Nat)(sl:Array (Option Vl)):
  Meets (Builtin.«object.__getattribute__» ⟨[.ref a,.str "keys" u],[]⟩) λA R s=>s.heap.get? a=ga ⟨.type "list",Fa,.seq its n,sl⟩/\A.handled=Fa/\∀h' tk e,Heap.NewAttrErr s.heap h' e (.ref a) "keys"->R (.error (.ref e)) {s with heap:=h',toks:=tk}:=
 Meets.of_wp λprog w A R s hs=>by
  obtain⟨hp,g,d,tk,os⟩:=s;obtain⟨h1,h2,h3⟩:=hs;have hT:(⟨hp,g,d,tk,os⟩:Sd).TypeIs (.ref a) "list":=⟨_,h1,Z'⟩;have f1:=F6;unfold Builtin.«object.__getattribute__»
  repeat (any_goals(first|assumption|wp_step))
  exact wpAny_raiseAttrError h2 h3 (attrMsg_fits (by decide+kernel) (by decide))
def FY{s:Sd}{a:Uf}{its:Array Vl}{n:Nat}{sl:Array (Option Vl)}{Q:Option Vl->Sd->Prop}(ha:s.heap.get? a=ga ⟨.type "list",Fa,.seq its n,sl⟩)(hA:A.handled=Fa) (h:∀h' tk,(∀b o,s.heap.get? b=ga o->h'.get? b=ga o)->Q Fa {s with heap:=h',toks:=tk}):pi (Tk prog w) A (getAttr? (.ref a) "keys") Q E s:=by
 obtain⟨hp,g,d,tk,os⟩:=s;have hT:(⟨hp,g,d,tk,os⟩:Sd).TypeIs (.ref a) "list":=⟨_,ha,Z'⟩;have f1:=sub_AttributeError;have f3:=iA.lookup;have f4:=iA.bind (.ref a);have f5:=Bx;unfold getAttr? getAttrBy? getAttrBy
 repeat (any_goals(first|assumption|((with_reducible show pi _ _ (call (Value.builtin "list.__getattribute__") _ _) _ _ _);refine i9 iA hT F.entry_list_ga (F.args_list_getattribute_2 _ _) (Og a _ its n sl) ⟨ha,hA,λh' tk' e hx=>?_⟩)|wp_step))
 obtain⟨t',u',he⟩:=hx.there;show pi _ _ (getattributeRaised _ _ _ _ _ _ _) _ _ _;unfold getattributeRaised
 repeat (any_goals(first|assumption|wp_step))
 all_goals first|exact h _ _ hx.keeps|skip
end
def Bj:entryFor table "dict.update.loop"=ga Builtin.«dict.update.loop»:=entryFor_of_tree (by kernel_rfl)
def wI:plainId "dict.update.loop"=Db:=by decide+kernel
section
variable {prog:Pg}{w:Wo}{A:Ar}{E:QQX}{R:Result→Sd→Prop}{κ:Type}[DecidableEq κ]{knd:PySem.KeyKind prog w κ}
 {I:Uf} {fp wr:QXQ} {G:Array GenState->Array GenState->Prop} {P:Nat->Vl->Prop} {St:Nat->Sd->Prop}
def RD{s:Sd}{t:Uf}{x y:Vl}{Q:T0 Vl->Sd->Prop}(h:s.heap.IsTuple t #[x,y])(q:Q [x,y] s):pi (Tk prog w) A (Builtin.Dict.pairItems (.ref t)) Q E s:=by
 obtain⟨⟨oc,od,oda,Zh⟩,h1,h2,n,h3⟩:=h;simp only at h2 h3;subst h2 h3;have hT:s.TypeIs (.ref t) "tuple":=⟨_,h1,Z'⟩;obtain⟨hp,g,d,tk,os⟩:=s;unfold Builtin.Dict.pairItems
 repeat (any_goals(first|assumption|wp_step))
def Ls{all:T0 (κ×Vl)}(W:WalksS prog w A.in1 I fp wr G all.length P St)(d:Uf)(hdf:d∉fp)(kv:Nat->Vl)(tp:Nat->Uf)(hP:∀i v,P i v->v=.ref (tp i))(hw:∀j,j<all.length->tp j∉wr/\tp j≠d) (hk:∀j p,all[j]?=ga p->knd.is p.1 (kv j)=Db) (hz:all.length<=Ch):
  ∀(k i:Nat) (z:Int) (s:Sd),all.length - i=k->i<=all.length->St i s->(∀j p,all[j]?=ga p->s.heap.IsTuple (tp j) #[kv j,p.2])->s.heap.DictOf knd d (merged [] (all.take i))->
   (∀s',Moved (d::wr) G s s'->s'.heap.DictOf knd d (merged [] all)->R (.ok (.ret .none)) s')->XXk (Tk prog w) A (.builtin "dict.update.loop" ⟨[.ref d,.ref I,.int z 0,.none],[]⟩) R s:=by
 have hdw:d∉wr:=λh=>hdf (W.sub _ h);have Z7:∀b∈wr,b∈d::wr:=λb hb=>dD _ hb;intro k;induction k with
 | zero=>
  intro i z s hk0 hi YG hT hD hR;have hin:i=all.length:=by lia
  subst hin;refine gT Bj ?_;rw[ic wI _];show pi _ A.in1 (pyNext (.ref I)>>=_) _ _ s;refine cY (W.done s _ _ YG λs' hm=>?_);show pi _ A.in1 (Builtin.Dict.addKeywords d []>>=_) _ _ s';refine cY (dv (dv (hR s' (hm.mono Z7) ?_)));rw[fh]at hD;obtain⟨o,es,ep,ho,rest⟩:=hD;exact⟨o,es,ep,hm.heap d _ hdw ho,rest⟩
 | succ k ih=>
  intro i z s hk0 hi YG hT hD hR;have Yt:i<all.length:=by lia
  have ZH:all[i]?=ga all[i]:=cZ Yt;refine gT Bj ?_;rw[ic wI _];show pi _ A.in1 (pyNext (.ref I)>>=_) _ _ s;refine cY (W.item i s _ _ Yt YG λv s' hPv hst' hm=>?_);obtain rfl:=hP i v hPv;have hT':∀j p,all[j]?=ga p->s'.heap.IsTuple (tp j) #[kv j,p.2]:=λj p e=>by obtain⟨o,h1,h2⟩:=hT j p e;exact⟨o,hm.heap _ _ (hw j (de.mp e).1).1 h1,h2⟩
  have hD':s'.heap.DictOf knd d (merged [] (all.take i)):=by obtain⟨o,es,ep,ho,rest⟩:=hD;exact⟨o,es,ep,hm.heap d _ hdw ho,rest⟩
  show pi _ A.in1 (sB [Value.ref (tp i)] _>>=_) _ _ s';refine cY (eX (cY (wpAny_tryCatch (RD (hT' i _ ZH) ?_))));show pi _ A.in1 (sB [kv i,all[i].2] (dictSet d (kv i) all[i].2)) _ _ s';refine eX ?_;unfold dictSet;refine eX (cY (knd.pyHash (hk i _ ZH) ?_));have hl:(merged [] (all.take i)).length<=Ch:=by have:=merged_length_le [] (all.take i);rw[fg]at this;simp only[dN]at this;lia
  refine wpAny_dictSetHashed_pairs (hsz:=hl) (hk i _ ZH) hD' λh' dd hs=>?_;rw[<-merged_take_succ [] all i _ ZH]at dd;refine dv ⟨kH wI _,ih (i+1) _ _ (by lia) Yt (W.frame _ s' _ _ hst' (gY _) λb hb o e=>?_) (λj p e=>?_) dd λs'' hm'' hD''=>?_⟩
  .rw[hs.2 b (λz:b=d=>hdf (z ▸ hb))];exact e
  .obtain⟨o,h1,h2⟩:=hT' j p e;refine⟨o,?_,h2⟩;show h'.get? (tp j)=ga o;rw[hs.2 _ (hw j (de.mp e).1).2];exact h1
  .refine hR s'' (mQ W.gtrans ((hm.mono Z7).then_heap (gY _) λb o hb e=>?_) hm'') hD'';rw[hs.2 b (λz:b=d=>hb (by rw[z];exact dH))];exact e
end
section
variable {prog:Pg}{w:Wo}{A:Ar}{E:QQX}{κ:Type}[DecidableEq κ]{knd:PySem.KeyKind prog w κ}{s:Sd}
def BS{l:Uf}{its:Array Vl}{n:Nat}{sl:Array (Option Vl)}{all:T0 (κ×Vl)}{Q:QQX}(kv:Nat->Vl)(tp:Nat->Uf)(hh:A.handled=Fa)(hl:s.heap.get? l=ga ⟨.type "list",Fa,.seq its n,sl⟩) (hits:∀(j:Nat) (v:Vl),its[j]?=ga v->v=.ref (tp j)) (Yp:its.size=all.length) (hT:∀j p,all[j]?=ga p->s.heap.IsTuple (tp j) #[kv j,p.2]) (hk:∀j p,all[j]?=ga p->knd.is p.1 (kv j)=Db) (hz:all.length<=Ch) (h:∀h' tk,h'.DictOf knd s.heap.objs.size (merged [] all)->(∀b o,s.heap.get? b=ga o->h'.get? b=ga o)->Q (.ref s.heap.objs.size) {s with heap:=h',toks:=tk}):
  pi (Tk prog w) A (call (.type "dict") [.ref l]) Q E s:=by
 refine callType_codes (Q₁:=λobj s₁=>obj=Value.ref s.heap.objs.size/\s₁={s with heap:=s.heap.push {cls:=.type "dict",data:=.dict #[]}}) PySem.F.kt_called_dict (PySem.F.kt_typeCall_dict_1 _) F.entry_dict_init (kt_code_dict_new _ ⟨Z',Z'⟩) ?_
 rintro obj s₁ ⟨rfl,rfl⟩
 have Z3:(s.heap.push {cls:=.type "dict",data:=.dict #[]}).DictOf knd s.heap.objs.size []:=Heap.DictOf.new s.heap;have hl':(s.heap.push {cls:=.type "dict",data:=.dict #[]}).get? l=ga ⟨.type "list",Fa,.seq its n,sl⟩:=dg _ hl;have hTl:Shared.TypeIs {s with heap:=s.heap.push {cls:=.type "dict",data:=.dict #[]}} (.ref l) "list":=⟨_,hl',Z'⟩;have lsz:l<s.heap.objs.size:=dC hl;refine⟨Z3.typeIs,F.args_dict_init_2 _ _,?_⟩;unfold Builtin.«dict.__init__»;refine cY ?_;unfold Builtin.Dict.selfAndRest;refine cY (wpAny_notOrdered_dict Z3.typeIs ?_);show pi _ _ (pure (s.heap.objs.size,[Value.ref l])) _ _ _;refine dv ?_;show pi _ _ (Builtin.Dict.updateFrom "dict.__init__" s.heap.objs.size (.ref l) [] .none) _ _ _;unfold Builtin.Dict.updateFrom;refine cY (jL hTl ?_);rw[dh (by decide)];refine cY (FY hl' (by simpa using hh) λh' tk keep=>?_);have hl2:h'.IsList l its:=⟨_,keep _ _ hl',Z',n,Z'⟩;show pi _ _ (rule _>>=_) _ _ _;refine cY (ky (cY (g9 hl2 ?_)));have nd:h'.objs.size>s.heap.objs.size:=by have z:h'.get? s.heap.objs.size=ga _:=keep _ _ (dJ _ Z');exact dC z
 have hDn:h'.DictOf knd s.heap.objs.size []:=by obtain⟨o,es,ep,ho,rest⟩:=Z3;exact⟨o,es,ep,keep _ _ ho,rest⟩
 have hTs:∀j p,all[j]?=ga p->h'.IsTuple (tp j) #[kv j,p.2]:=λj p e=>by obtain⟨o,h1,h2⟩:=hT j p e;exact⟨o,keep _ _ (dg _ h1),h2⟩
 have YI:l≠h'.objs.size:=dM (iz lsz nd);have W:=(kz (prog:=prog) (w:=w) (A:=A.in1.in1) (by simpa using hh) h'.objs.size l YI its).toS;rw[Yp]at W;refine dv ⟨kH wI _,Ls (A:=A.in1) W s.heap.objs.size ?_ kv tp (λi v e=>hits i v e) (λj hj=>?_) hk hz all.length 0 0 _ (by lia) (eO _) ⟨⟨_,dJ _ Z',Z',Z'⟩,hl2.push _⟩ (λj p e=>(hTs j p e).push _) ?_ λs' hm hD=>?_⟩
 .simp only[dz,dX,fR,gN];exact⟨dM nd,gM lsz⟩
 .have hj':all[j]?=ga all[j]:=cZ hj;obtain⟨o,h1,_⟩:=hT j _ hj';have tsz:=dC h1;simp only[dz,dX,fR];exact⟨dM (iz tsz nd),dM tsz⟩
 .obtain⟨o,es,ep,ho,rest⟩:=hDn;exact⟨o,es,ep,dg _ ho,rest⟩
 .obtain⟨h2,g2,d2,t2,o2⟩:=s';have eg:g2=s.gens:=hm.gens;have ed:d2=s.drawn:=hm.drawn;have eo:o2=s.os:=hm.os;subst eg ed eo;refine⟨Z',h h2 t2 hD λb o e=>?_⟩;have hb:=dC e;refine hm.heap b o ?_ (dg _ (keep _ _ (dg _ e)));simp only[dz,dX,fR,gN];exact⟨dM hb,dM (iz hb nd)⟩
end
noncomputable def tS{κ:Type}[DecidableEq κ](l:List κ):List κ:=l.foldl (λacc k=>if k∈acc then acc else acc++[k]) []
def yJ{κ:Type}[DecidableEq κ](l:List κ)(k:κ):tS (l++[k])=if k∈tS l then tS l else tS l++[k]:=by unfold tS;rw[jz];rfl
def JL{κ:Type}[DecidableEq κ]:∀l:List κ,(tS l).length<=l.length:=by
 have go:∀(l acc:List κ),(l.foldl (λacc k=>if k∈acc then acc else acc++[k]) acc).length<=acc.length+l.length:=by
  intro l;induction l with
  | nil=>intro acc;simp
  | cons k r ih=>
   intro acc;rw[fY];refine eh (ih _) ?_;split
   .simp only[eE];lia
   .simp only[eE,c9,dN];lia
 intro l;have:=go l []
 simpa [tS]using this
def OZ{κ:Type}[DecidableEq κ](x:κ):∀l:List κ,x∈tS l↔x∈l:=by
 have go:∀(l acc:List κ),x∈l.foldl (λacc k=>if k∈acc then acc else acc++[k]) acc↔x∈acc\/x∈l:=by
  intro l;induction l with
  | nil=>intro acc;simp
  | cons k r ih=>
   intro acc;rw[fY,ih];by_cases h:k∈acc
   .rw[dh h,dz];constructor
    .rintro (z|z)
     .exact .inl z
     .exact .inr (.inr z)
    .rintro (z|z|z)
     .exact .inl z
     .subst z;exact .inl h
     .exact .inr z
   .rw[df h,dS,dB,dz,or_assoc]
 intro l;have:=go l []
 simpa [tS]using this
def Jw{κ:Type}[DecidableEq κ]:∀l:List κ,l.Nodup->tS l=l:=by
 have go:∀(l acc:List κ),(acc++l).Nodup->l.foldl (λacc k=>if k∈acc then acc else acc++[k]) acc=acc++l:=by
  intro l;induction l with
  | nil=>intro acc _;simp
  | cons k r ih=>
   intro acc h;have hk:k∉acc:=λz=>by rw[gu]at h;exact h.2.2 k z k dH Z'
   rw[fY,df hk,ih]
   .rw[fm];rfl
   .rw[fm];exact h
 intro l h;have:=go l [] (by simpa using h)
 simpa [tS]using this
section
variable {prog:Pg}{w:Wo}{A:Ar}{E:QQX}{R:Result→Sd→Prop}{κ:Type}[DecidableEq κ][BEq κ][LawfulBEq κ]{knd:PySem.KeyKind prog w κ}
 {I:Uf} {fp wr:QXQ} {G:Array GenState->Array GenState->Prop} {P:Nat->Vl->Prop} {St:Nat->Sd->Prop}
def Hy{all:List κ}(W:WalksS prog w A.in1 I fp wr G all.length P St)(S:Uf)(hSf:S∉fp)(hval:∀i v k,P i v->all[i]?=ga k->knd.is k v=Db/\v.scannable=Db)(hb:all.length+1<XXb):
  ∀(n i:Nat) (s:Sd),all.length - i=n->i<=all.length->St i s->s.heap.SetOf knd S (λx=>decide (x∈tS (all.take i))) (tS (all.take i)).length->
   (∀s',Moved (S::wr) G s s'->s'.heap.SetOf knd S (λx=>decide (x∈tS all)) (tS all).length->R (.ok (.ret .none)) s')->XXk (Tk prog w) A (.builtin "set.update.loop" ⟨[.ref S,.ref I],[]⟩) R s:=by
 have hSw:S∉wr:=λh=>hSf (W.sub _ h);have up:∀b∈wr,b∈S::wr:=λb hb=>dD _ hb;have kept:∀{s s':Sd} {T:κ->Bool} {m:Nat},Moved wr G s s'->s.heap.SetOf knd S T m->s'.heap.SetOf knd S T m:=λhm ⟨o,es,ep,t,ho,rest⟩=>⟨o,es,ep,t,hm.heap S _ hSw ho,rest⟩;intro n;induction n with
 | zero=>
  intro i s h0 hi YG hS hR;obtain rfl:i=all.length:=by lia
  refine gT iB ?_;rw[ic gD _];rw[fh]at hS;exact cY (W.done s _ _ YG λs' hm=>dv (hR s' (hm.mono up) (kept hm hS)))
 | succ n ih=>
  intro i s h0 hi YG hS hR;have Yt:i<all.length:=by lia
  have ZH:all[i]?=ga all[i]:=cZ Yt;refine gT iB ?_;rw[ic gD _];refine cY (W.item i s _ _ Yt YG λv s' hP hst' hm=>?_);obtain⟨k1,k2⟩:=hval i v _ hP ZH;have Z8:=kept hm hS;show pi _ A.in1 (sB [v] (setAdd S v)>>=_) _ _ s';refine cY (eX ?_);unfold setAdd;refine eX (cY (knd.pyHash k1 ?_));have room:(tS (all.take i)).length+1<XXb:=by have h1:=JL (all.take i);rw[fg]at h1;lia
  refine wpAny_setAddHashed_of (knd:=knd) (s:={s' with toks:=s'.toks+1}) k1 k2 Z8 room λh' hsb hS2=>?_;have et:all.take (i+1)=all.take i++[all[i]]:=by rw[fX,ZH];rfl
  have hSi:h'.SetOf knd S (λx=>decide (x∈tS (all.take (i+1)))) (tS (all.take (i+1))).length:=by
   refine iC hS2 (λx=>?_) ?_
   .rw[et];by_cases Yl:all[i]∈tS (all.take i)
    .rw[yJ,dh Yl];by_cases hx:x=all[i]
     .subst hx;simp[Yl]
     .simp[hx]
    .rw[yJ,df Yl];by_cases hx:x=all[i]
     .subst hx;simp
     .simp[hx]
   .rw[et,yJ];by_cases Yl:all[i]∈tS (all.take i)
    .rw[dh Yl];simp[Yl]
    .rw[df Yl];simp[Yl]
  refine dv ⟨kH gD _,ih (i+1) _ (by lia) Yt (W.frame _ s' _ _ hst' (gY _) λb hb o e=>?_) hSi λs'' hm'' hS''=>?_⟩
  .rw[hsb.2 b (λz:b=S=>hSf (z ▸ hb))];exact e
  .refine hR s'' (mQ W.gtrans ((hm.mono up).then_heap (gY _) λb o hb e=>?_) hm'') hS'';rw[hsb.2 b (λz:b=S=>hb (by rw[z];exact dH))];exact e
end
def FE:isSubtype (.type "list") (.type "set")=pure pc:=by rw[jn];kernel_rfl
def Bw:isSubtype (.type "list") (.type "frozenset")=pure pc:=by rw[jn];kernel_rfl
section
variable {prog:Pg}{w:Wo}{A:Ar}{E:QQX}{κ:Type}[DecidableEq κ][BEq κ][LawfulBEq κ]{knd:PySem.KeyKind prog w κ}{s:Sd}
set_option maxHeartbeats 4000000 in
def D6{l:Uf}{Yk:Array Vl}{all:List κ}{Q:QQX}(hh:A.handled=Fa)(hl:s.heap.IsList l Yk)(hn:Yk.size=all.length)(hi:∀(i:Nat) (v:Vl) (k:κ),Yk[i]?=ga v->all[i]?=ga k->knd.is k v=Db/\v.scannable=Db)(hb:all.length+1<XXb) (h:∀(h':No) (tk:Nat),h'.SetOf knd s.heap.objs.size (λx=>decide (x∈tS all)) (tS all).length->(∀b o,s.heap.get? b=ga o->h'.get? b=ga o)->Q (.ref s.heap.objs.size) {s with heap:=h',toks:=tk}):
  pi (Tk prog w) A (call (.type "set") [.ref l]) Q E s:=by
 obtain⟨c,tl,hmro⟩:=fz.mro;have hmade:=fz.made;have Z7:=fz.sub;refine iL (j4 ?_);show pi _ _ (callAny (.type "set") _) _ _ _;refine dv ⟨iD _ (by decide+kernel),gT lH ?_⟩;rw[lb (kl "set" [.ref l] []) Z'];have h1:=fz.notType;have h2:=fz.canCreate;have hct:=l8 (.ref l)
 repeat (any_goals(first|assumption|wp_step))
 have fresh:∀YJ:Bool,(s.heap.push {cls:=.type "set",dict:=none,data:=.set #[] 0 (.fresh 0 0 YJ)}).get? s.heap.objs.size=ga {cls:=.type "set",dict:=none,data:=.set #[] 0 (.fresh 0 0 YJ)}:=λYJ=>dJ _ Z';refine gq (code_set_new_1 (.ref l) (E:=E) (Q₁:=λobj s₁=>∃YJ:Bool,obj=Value.ref s.heap.objs.size/\s₁={s with heap:=s.heap.push {cls:=.type "set",dict:=none,data:=.set #[] 0 (.fresh 0 0 YJ)}}) λYJ=>⟨YJ,Z',Z'⟩) λr s₁ hr=>?_;cases r with
 | error e=>exact hr
 | ok fl=>
  cases fl with
  | ret obj=>
   obtain⟨YJ,rfl,rfl⟩:=hr;have hS:=fresh YJ;have hT:Shared.TypeIs {s with heap:=s.heap.push {cls:=.type "set",dict:=none,data:=.set #[] 0 (.fresh 0 0 YJ)}} (.ref s.heap.objs.size) "set":=⟨_,hS,Z'⟩;have hli:=fz.init.lookup;have hbi:=fz.init.bind (.ref s.heap.objs.size)
   repeat (any_goals(first|assumption|wp_step))
   refine gq (jb (R:=wants (λr s₂=>r=.none/\∃h' tk,s₂={s with heap:=h',toks:=tk}/\h'.SetOf knd s.heap.objs.size (λx=>decide (x∈tS all)) (tS all).length/\(∀b o,s.heap.get? b=ga o->h'.get? b=ga o)) E) fz.init.plain ma (me hT ?_)) λr₂ s₂ hr₂=>?_
   .obtain⟨ol,hol,hcl,nl,Z9⟩:=hl;obtain⟨ocls,odict,odata,ZI⟩:=ol;simp only at hcl Z9;subst hcl;subst Z9;have hol':(s.heap.push {cls:=.type "set",dict:=none,data:=.set #[] 0 (.fresh 0 0 YJ)}).get? l=ga {cls:=.type "list",dict:=odict,data:=.seq Yk nl,slots:=ZI}:=dg _ hol;have hsls:=FE;have hslf:=Bw;have hnd:(Value.type "list"==Value.type "dict")=pc:=by decide
    have hl1:(s.heap.push {cls:=.type "set",dict:=none,data:=.set #[] 0 (.fresh 0 0 YJ)}).IsList l Yk:=⟨_,hol',Z',nl,Z'⟩;unfold Builtin.«set.__init__» noKeywords Builtin.Frozenset.updateFrom;generalize hPI:pyIter=PI
    wp_walk
    subst hPI;refine g9 hl1 ?_;refine cY (wpAny_runValue ?_);have lS:l<s.heap.objs.size:=dC hol;have hh3:A.in1.in1.in1.handled=Fa:=by simp[hh]
    have lI:l≠(s.heap.push {cls:=.type "set",dict:=none,data:=.set #[] 0 (.fresh 0 0 YJ)}).objs.size:=by rw[fu];exact dM (fW lS)
    have W:=(kz (prog:=prog) (w:=w) hh3 _ l lI Yk).toS;rw[hn]at W;refine Hy W s.heap.objs.size ?hf (λi v k e1 e2=>hi i v k e1 e2) hb all.length 0 _ (by lia) (eO _) ⟨⟨_,dJ _ Z',Z',Z'⟩,(hl1.push _)⟩ ?h0 ?hR;case hf=>rw[fu];simp only[dz,dX,fR,gN];exact⟨dM (fG _),gM lS⟩
    case h0=>exact iC ((jr (knd:=knd) YJ).setOf (dg _ hS) (by unfold XXb;lia)) (λ_=>rfl) Z'
    case hR=>intro s' hm Z8;obtain⟨h',g',d',tk',os'⟩:=s';have eg:g'=s.gens:=hm.gens;have ed:d'=s.drawn:=hm.drawn;have eo:os'=s.os:=hm.os;subst eg;subst ed;subst eo;refine dv ?_;show pi _ _ (ret Value.none) _ _ _;refine dv ⟨Z',h',tk',Z',Z8,λb o e=>?_⟩;have hb:=dC e;refine hm.heap b o ?_ (dg _ (dg _ e));rw[fu];simp only[dz,dX,fR,gN];exact⟨dM hb,dM (fW hb)⟩
   .cases r₂ with
    | error e=>exact hr₂
    | ok fl₂=>
     cases fl₂ with
     | ret r=>
      obtain⟨rfl,h',tk,rfl,Z8,hk'⟩:=hr₂
      repeat (any_goals(first|assumption|wp_step))
      exact h _ _ Z8 hk'
     | _=>exact hr₂.elim
  | _=>exact hr.elim
end
def DL:isSubtype (.type "tuple") (.type "set")=pure pc:=by rw[jn];kernel_rfl
def AJ:isSubtype (.type "tuple") (.type "frozenset")=pure pc:=by rw[jn];kernel_rfl
section
variable {prog:Pg}{w:Wo}{A:Ar}{E:QQX}{κ:Type}[DecidableEq κ][BEq κ][LawfulBEq κ]{knd:PySem.KeyKind prog w κ}{s:Sd}
set_option maxHeartbeats 4000000 in
def Dq{l:Uf}{Yk:Array Vl}{all:List κ}{Q:QQX}(hh:A.handled=Fa)(hl:s.heap.IsTuple l Yk)(hn:Yk.size=all.length)(hi:∀(i:Nat) (v:Vl) (k:κ),Yk[i]?=ga v->all[i]?=ga k->knd.is k v=Db/\v.scannable=Db)(hb:all.length+1<XXb) (h:∀(h':No) (tk:Nat),h'.SetOf knd s.heap.objs.size (λx=>decide (x∈tS all)) (tS all).length->(∀b o,s.heap.get? b=ga o->h'.get? b=ga o)->Q (.ref s.heap.objs.size) {s with heap:=h',toks:=tk}):
  pi (Tk prog w) A (call (.type "set") [.ref l]) Q E s:=by
 obtain⟨c,tl,hmro⟩:=fz.mro;have hmade:=fz.made;have Z7:=fz.sub;refine iL (j4 ?_);show pi _ _ (callAny (.type "set") _) _ _ _;refine dv ⟨iD _ (by decide+kernel),gT lH ?_⟩;rw[lb (kl "set" [.ref l] []) Z'];have h1:=fz.notType;have h2:=fz.canCreate;have hct:=l8 (.ref l)
 repeat (any_goals(first|assumption|wp_step))
 have fresh:∀YJ:Bool,(s.heap.push {cls:=.type "set",dict:=none,data:=.set #[] 0 (.fresh 0 0 YJ)}).get? s.heap.objs.size=ga {cls:=.type "set",dict:=none,data:=.set #[] 0 (.fresh 0 0 YJ)}:=λYJ=>dJ _ Z';refine gq (code_set_new_1 (.ref l) (E:=E) (Q₁:=λobj s₁=>∃YJ:Bool,obj=Value.ref s.heap.objs.size/\s₁={s with heap:=s.heap.push {cls:=.type "set",dict:=none,data:=.set #[] 0 (.fresh 0 0 YJ)}}) λYJ=>⟨YJ,Z',Z'⟩) λr s₁ hr=>?_;cases r with
 | error e=>exact hr
 | ok fl=>
  cases fl with
  | ret obj=>
   obtain⟨YJ,rfl,rfl⟩:=hr;have hS:=fresh YJ;have hT:Shared.TypeIs {s with heap:=s.heap.push {cls:=.type "set",dict:=none,data:=.set #[] 0 (.fresh 0 0 YJ)}} (.ref s.heap.objs.size) "set":=⟨_,hS,Z'⟩;have hli:=fz.init.lookup;have hbi:=fz.init.bind (.ref s.heap.objs.size)
   repeat (any_goals(first|assumption|wp_step))
   refine gq (jb (R:=wants (λr s₂=>r=.none/\∃h' tk,s₂={s with heap:=h',toks:=tk}/\h'.SetOf knd s.heap.objs.size (λx=>decide (x∈tS all)) (tS all).length/\(∀b o,s.heap.get? b=ga o->h'.get? b=ga o)) E) fz.init.plain ma (me hT ?_)) λr₂ s₂ hr₂=>?_
   .obtain⟨ol,hol,hcl,nl,Z9⟩:=hl;obtain⟨ocls,odict,odata,ZI⟩:=ol;simp only at hcl Z9;subst hcl;subst Z9;have hol':(s.heap.push {cls:=.type "set",dict:=none,data:=.set #[] 0 (.fresh 0 0 YJ)}).get? l=ga {cls:=.type "tuple",dict:=odict,data:=.seq Yk nl,slots:=ZI}:=dg _ hol;have hsls:=DL;have hslf:=AJ;have hnd:(Value.type "tuple"==Value.type "dict")=pc:=by decide
    have hl1:(s.heap.push {cls:=.type "set",dict:=none,data:=.set #[] 0 (.fresh 0 0 YJ)}).IsTuple l Yk:=⟨_,hol',Z',nl,Z'⟩;unfold Builtin.«set.__init__» noKeywords Builtin.Frozenset.updateFrom;generalize hPI:pyIter=PI
    wp_walk
    subst hPI;refine iE hl1 ?_;refine cY (wpAny_runValue ?_);have lS:l<s.heap.objs.size:=dC hol;have hh3:A.in1.in1.in1.handled=Fa:=by simp[hh]
    have lI:l≠(s.heap.push {cls:=.type "set",dict:=none,data:=.set #[] 0 (.fresh 0 0 YJ)}).objs.size:=by rw[fu];exact dM (fW lS)
    have W:=(Walks.tuple (prog:=prog) (w:=w) hh3 _ l lI Yk).toS;rw[hn]at W;refine Hy W s.heap.objs.size ?hf (λi v k e1 e2=>hi i v k e1 e2) hb all.length 0 _ (by lia) (eO _) ⟨⟨_,dJ _ Z',Z',Z'⟩,(hl1.push _)⟩ ?h0 ?hR;case hf=>rw[fu];simp only[dz,dX,fR,gN];exact⟨dM (fG _),gM lS⟩
    case h0=>exact iC ((jr (knd:=knd) YJ).setOf (dg _ hS) (by unfold XXb;lia)) (λ_=>rfl) Z'
    case hR=>intro s' hm Z8;obtain⟨h',g',d',tk',os'⟩:=s';have eg:g'=s.gens:=hm.gens;have ed:d'=s.drawn:=hm.drawn;have eo:os'=s.os:=hm.os;subst eg;subst ed;subst eo;refine dv ?_;show pi _ _ (ret Value.none) _ _ _;refine dv ⟨Z',h',tk',Z',Z8,λb o e=>?_⟩;have hb:=dC e;refine hm.heap b o ?_ (dg _ (dg _ e));rw[fu];simp only[dz,dX,fR,gN];exact⟨dM hb,dM (fW hb)⟩
   .cases r₂ with
    | error e=>exact hr₂
    | ok fl₂=>
     cases fl₂ with
     | ret r=>
      obtain⟨rfl,h',tk,rfl,Z8,hk'⟩:=hr₂
      repeat (any_goals(first|assumption|wp_step))
      exact h _ _ Z8 hk'
     | _=>exact hr₂.elim
  | _=>exact hr.elim
end
end L2
namespace HT
open PySem PyProof.Rows
variable {prog:Pg}{w:Wo}{A:Ar}{E:QQX}{s:Sd}
def zU{t sl:Uf}{vl vu:Vl}{lo hi:Option Int}{Q:QQX}(ht:IsTup s.heap t Yk)(hs:s.heap.IsSliceOf sl vl vu .none)(pl:IsPart vl lo)(pu:IsPart vu hi) (hw:ua Yk.size 0 lo=0/\ua Yk.size Yk.size hi=Yk.size) (h:Q (.ref t) s):pi (Tk prog w) A (XXg (.ref t) (.ref sl)) Q E s:=by
 obtain⟨os,hos,hcs,ZE⟩:=id hs;have hTs:s.TypeIs (.ref sl) "slice":=⟨os,hos,hcs⟩;unfold XXg
 try with_reducible refine eX ?_
 first|refine cY (dv ?_)|skip
 refine cY (jy ht.typeIs (by decide) ?_);refine cY (fN (name:=Str.ofString "__getitem__") ht.typeIs fD (fT fD ht.typeIs kM ?_ (kZ _ _)));show pi _ _ (Builtin.Tuple.tupleItemsOf (.ref t)>>=_) _ _ s;refine cY (tupleItemsOf_ ht ?_);refine cY (jL hTs ?_);rw[dh (by decide)];refine cY (xg hs pl pu ?_);have yes:(((ua Yk.size 0 lo:Nat):Int)==0&&(1:Int)==1&&(ua Yk.size Yk.size hi - ua Yk.size 0 lo)==Yk.size)=Db:=by rw[hw.1,hw.2];simp
 show pi _ _ (if (((ua Yk.size 0 lo:Nat):Int)==0&&(1:Int)==1&&(ua Yk.size Yk.size hi - ua Yk.size 0 lo)==Yk.size)=Db then _ else _) _ _ s;rw[dh yes];have hT:=ht.typeIs;obtain⟨hp,g,d,tk,o⟩:=s
 repeat (any_goals(first|assumption|wp_step))
 exact⟨_,Z',dv h⟩
end HT
namespace L2
variable {X:Cx}{p p2 pos pos2:Pos}{e:Go}{te:TE}
section
def Xc(K:qJ):V->Option Int->Option Int->Hp->VK->Prop:=λx lo hi H Q=>∃a xs,x=.ref a/\wm K H a xs/\(HT.ua xs.length 0 lo=0/\HT.ua xs.length xs.length hi=xs.length)/\Q (.ref a) H
def Ug:Vc X (Xc X.K):=by
 intro Yj s Y H x v vl vu lo hi sl Q I rx hs pl pu h;obtain⟨a,xs,rfl,hx,hw,q⟩:=h;cases rx;obtain⟨its,r,ht,hz⟩:=I.tuple hx;have Yp:its.toArray.size=xs.length:=by rw[dA];exact r.length.symm
 exact⟨"tuple",_,fD.lookup,ht.typeIs,HT.zU ht hs pl pu (by rw[Yp];exact hw) ⟨.ref a,H,I,Z',q⟩⟩
local instance (priority:=5000) keyBEq:BEq rM:=instBEqOfDecidableEq
local instance (priority:=5000) keyLaw:LawfulBEq rM:=inferInstanceAs (LawfulBEq (Sum Int Str))
def Ry(K:qJ)(te:TE):TE:=λY H Q=>te Y H λx H1=>∃a,∃ss:QQQ,x=.ref a/\(xW K H1 a (ss.map V.str)\/wm K H1 a (ss.map V.str))/\ss.length+1<XXb/\Q (.int (tS ss).length) H1
def G5{ss:QQQ}(r:qL (ss.map V.str) us):us.length=ss.length/\∀(i:Nat) (v:Vl) (k:rM),us[i]?=ga v->(ss.map λx=>(Sum.inr x:rM))[i]?=ga k->(rW P w).is k v=Db/\v.scannable=Db:=by
 refine⟨by rw[<-r.length,cX],λi v k e1 e2=>?_⟩;rw[dG]at e2;cases q:ss[i]? with
 | none=>rw[q]at e2;cases e2
 | some x=>rw[q]at e2;cases e2;obtain⟨u,e3,t,rfl⟩:=r.get (i:=i) (x:=V.str x) (by rw[dG,q];rfl);rw[e3]at e1;cases e1;exact⟨Bk P w x t,Z'⟩
def Mm{ss:QQQ}:(tS (ss.map λx=>(Sum.inr x:rM))).length=(tS ss).length:=by
 have go:∀(l acc:QQQ),(l.map λx=>(Sum.inr x:rM)).foldl (λacc k=>if k∈acc then acc else acc++[k]) (acc.map Sum.inr)=(l.foldl (λacc k=>if k∈acc then acc else acc++[k]) acc).map Sum.inr:=by
  intro l;induction l with
  | nil=>intro acc;rfl
  | cons k r ih=>
   intro acc;rw[d6,fY,fY];have hm:(Sum.inr k:rM)∈acc.map Sum.inr↔k∈acc:=by
    rw[dF];constructor
    .rintro ⟨y,h1,h2⟩;cases h2;exact h1
    .exact λh=>⟨k,h,Z'⟩
   by_cases h:k∈acc
   .rw[dh h,dh (hm.mpr h)];exact ih acc
   .rw[df h,df λz=>h (hm.mp z)];have:=ih (acc++[k]);rw[dP]at this;exact this
 have:=go ss [];unfold tS;rw[ja]at this;rw[this,cX]
def Lq(hc:X.calm=Db)(he:PE X e te)(hg1:Gl X "len")(Yl:X.mg "len"=Fa)(hg2:Gl X "set")(YB:X.mg "set"=Fa)(b1:zn "len"=ga (.builtin "len"))(b2:zn "set"=ga (.type "set")) (hs:Tl [e] X.env=[(pc,wp e X.env)]:=by rfl):PE X (.Call (.Name "len" p) [.Call (.Name "set" p2) [e] [] pos2] [] pos) (Ry X.K te):=by
 intro Yj s Y H Q I h;refine fS (vY I hg1 Yl b1 ?_);refine gS ?_ Z' Z';show pi _ _ (spliced ((pc,wp (.Call (.Name "set" p2) [e] [] pos2) X.env)::xz pos (Tl [] X.env))) _ _ s;refine iy ?_;refine fS (vY I hg2 YB b2 ?_);refine fC ?_ hs Z';rw[hs];show pi _ _ (spliced ((pc,wp e X.env)::xz pos2 (Tl [] X.env))) _ _ s;refine iy (tz (he Yj s Y H _ I h) λu s1 ⟨x,H1,I1,r1,a,ss,ex,hq,hb,q⟩=>iP ?_);subst ex;obtain rfl:u=Value.ref a:=r1;have Zd:(ss.map λx=>(Sum.inr x:rM)).length+1<XXb:=by rw[cX];exact hb
 have Yn:∀(h':No) (tk:Nat),h'.SetOf (rW X.prog X.w) s1.heap.objs.size (λx=>decide (x∈tS (ss.map λx=>(Sum.inr x:rM)))) (tS (ss.map λx=>(Sum.inr x:rM))).length->(∀b o,s1.heap.get? b=ga o->h'.get? b=ga o)->
   pi (Tk X.prog X.w) X.A (spliced (xz pos (Tl [] X.env))) (λvs s₁=>pi (Tk X.prog X.w) X.A (call (.builtin "len") (.ref s1.heap.objs.size::vs)) (EP X Yj Y Q) X.xe s₁) X.xe {s1 with heap:=h',toks:=tk}:=λh' tk hS keep=>by
  refine iP ?_;obtain⟨o,es,ep,t,ho,hex,hd,_,_,hz,hf,hn⟩:=hS;have Yt:(es.size:Int)<2 ^ 63:=by have:XXb=4096:=rfl;lia
  refine call_len_set ho hex hd hf Yt ?_;refine⟨.int es.size,H1,I1.kept keep,⟨_,Z'⟩,?_⟩;rw[hn,Mm];exact q
 rcases hq with hq|hq
 .obtain⟨its,r,pl,hz⟩:=I1.list hq;obtain⟨k1,k2⟩:=G5 (P:=X.prog) (w:=X.w) r;exact L2.D6 (knd:=rW X.prog X.w) (all:=ss.map λx=>(Sum.inr x:rM)) (I1.ok.hd hc) pl.isList (by rw[dA,k1,cX]) (λi v k e1 e2=>k2 i v k (by simpa using e1) e2) Zd Yn
 .obtain⟨its,r,pl,hz⟩:=I1.tuple hq;obtain⟨k1,k2⟩:=G5 (P:=X.prog) (w:=X.w) r;exact L2.Dq (knd:=rW X.prog X.w) (all:=ss.map λx=>(Sum.inr x:rM)) (I1.ok.hd hc) pl (by rw[dA,k1,cX]) (λi v k e1 e2=>k2 i v k (by simpa using e1) e2) Zd Yn
end
variable {Yj:T0 (Uf × Obj)}{Y:St}{H:Hp}{s:Sd}
theorem Ez(I:Inv X Yj Y H s):∀(ts:QXQ) (kvs:T0 (rM×V)),ts.length=kvs.length->(∀(j:Nat) (t:Uf) (p:rM×V),ts[j]?=ga t->kvs[j]?=ga p->wm X.K H t [kV p.1,p.2])->
  ∃(us:T0 Vl) (all:T0 (rM×Vl)),us.length=kvs.length/\KV kvs all/\∀(j:Nat) (t:Uf) (p:rM×Vl),ts[j]?=ga t->all[j]?=ga p->∃u,us[j]?=ga u/\s.heap.IsTuple t #[u,p.2]/\(rW X.prog X.w).is p.1 u=Db
 | [],[],_,_=>⟨[],[],Z',.nil,λj t p e=>by simp at e⟩
 | [],_::_,h,_=>by simp at h
 | _::_,[],h,_=>by simp at h
 | t::ts,(k,v)::kvs,h,hq=>by
  obtain⟨us,all,h1,h2,h3⟩:=Ez I ts kvs (by simpa using h) (λj t p e1 e2=>hq (j+1) t p (by simpa using e1) (by simpa using e2));obtain⟨its,r,pl,_⟩:=I.tuple (hq 0 t (k,v) (by simp) (by simp));cases r with
  | cons r1 r2=>
   cases r2 with
   | cons r3 r4=>
    cases r4;rename_i u w;refine⟨u::us,(k,w)::all,by simpa using h1,.cons ⟨Z',r3⟩ h2,λj t' p e1 e2=>?_⟩;cases j with
    | zero=>
     have e1':t=t':=by simpa using e1
     have e2':(k,w)=p:=by simpa using e2
     subst e1' e2';exact⟨u,by simp,pl,Hi r1⟩
    | succ j=>simpa using h3 j t' p (by simpa using e1) (by simpa using e2)
theorem MN:∀{kvs:T0 (rM×V)} {all:T0 (rM×Vl)},KV kvs all->all.map (·.1)=kvs.map (·.1)
 | _,_,.nil=>rfl
 | _,_,.cons r rs=>by rw[d6,d6,MN rs,r.1]
def II(hc:X.calm=Db):zV X (.type "dict") (λxs H Q=>∃l,∃ts:QXQ,∃kvs:T0 (rM×V),xs=[V.ref l]/\xW X.K H l (ts.map V.ref)/\ts.length=kvs.length/\
  (∀(j:Nat) (t:Uf) (p:rM×V),ts[j]?=ga t->kvs[j]?=ga p->wm X.K H t [kV p.1,p.2])/\(kvs.map (·.1)).Nodup/\∀d,H d=Fa->Q (.ref d) (upd H d (.dK kvs))):=by
 intro Yj s Y H xs us Q I r h;obtain⟨l,ts,kvs,rfl,hl,Yp,hq,hnd,q⟩:=h;obtain⟨u,rfl,ru⟩:=y9 r;cases ru;obtain⟨its,rv,⟨⟨c1,d1,t1,sl1⟩,n,g1,e1,e2,e3⟩,hz⟩:=I.list hl;simp only at e1 e2 e3;subst e1 e2 e3;obtain⟨ks,all,h1,h2,h3⟩:=Ez I ts kvs Yp hq;have la:all.length=kvs.length:=(ju h2).symm;have li:its.length=kvs.length:=by rw[<-rv.length,cX,Yp]
 have zl:all.length<=Ch:=by rw[la,<-Yp];simpa using hz
 have at_:∀(j:Nat) (p:rM×Vl),all[j]?=ga p->∃t,ts[j]?=ga t:=λj p e=>by have:=(de.mp e).1;exact⟨ts[j],cZ (by lia)⟩
 refine BS (knd:=rW X.prog X.w) (all:=all) (λj=>(ks[j]?).getD .none) (λj=>(ts[j]?).getD 0) (I.ok.hd hc) g1 (λj v e=>?_) (by rw[dA,li,la]) (λj p e=>?_) (λj p e=>?_) zl λh' tk hD keep=>?_
 .have e':its[j]?=ga v:=by simpa using e
  have hj:=(de.mp e').1;have hj2:j<ts.length:=by lia
  obtain⟨w,e4,e5⟩:=rv.get (i:=j) (x:=V.ref ts[j]) (by rw[dG,cZ hj2];rfl);rw[e']at e4;cases e4;show v=Value.ref ((ts[j]?).getD 0);rw[cZ hj2];exact e5
 .obtain⟨t,et⟩:=at_ j p e;obtain⟨u,e4,e5,_⟩:=h3 j t p et e;show s.heap.IsTuple ((ts[j]?).getD 0) #[(ks[j]?).getD .none,p.2];rw[et,e4];exact e5
 .obtain⟨t,et⟩:=at_ j p e;obtain⟨u,e4,_,e6⟩:=h3 j t p et e;show(rW X.prog X.w).is p.1 ((ks[j]?).getD .none)=Db;rw[e4];exact e6
 .rw[merged_nil_of_nodup all (by rw[MN h2];exact hnd)]at hD;have fr:=I.m9.fresh (dw s.heap.objs.size);exact⟨.ref s.heap.objs.size,_,I.laid (t':=tk) (o:=.dK kvs) keep (dw _) (MD (by rw[<-la];exact zl) (gx.mpr (dZ (dM I.big))) h2 hD),Z',q _ fr⟩
def W5:R2:=λx y H Q=>∃a v,x=.ref a/\FR H a y (ga v)/\Q v H
def QI(hu:X.A.units+1<XXa):UI X W5:=by
 intro value Yx Yj s Y H x y o i Q I rx ry h hs;obtain⟨a,v,rfl,g,q⟩:=h;obtain rfl:o=Value.ref a:=rx;have hT:=Hc I g;have h2:pi (Tk X.prog X.w) X.A (XXg (.ref a) i) (EP X Yj Y Q) X.xe s:=K0 hu I g ry λw' s3 I3 rw'=>⟨v,H,I3,rw',q⟩;unfold subscriptTail;refine cY ?_;rw[km hT.not_modules];refine cY (j5 hT jD.lookup ?_);have Yn:pi (Tk X.prog X.w) X.A (subscripted Yx pc (.ref a) i) (λr s₃=>pi (Tk X.prog X.w) X.A (letTemporaryGo value (.ref a) r>>=λ_=>pure r) (EP X Yj Y Q) X.xe s₃) X.xe s:=by rw[hs];exact wpAny_operating (eB h2 (λr s₃ h₃=>cY (kA (dv h₃))) λ_ _ x=>x)
 first
  | exact dv (cY Yn)
  | exact cY (dv (cY Yn))
  | exact cY Yn
def S6(hu:X.A.units+1<XXa):yC X (Op .In) (λx y H Q=>∃a o,y=.ref a/\FR H a x o/\Q (.bl o.isSome) H):=by intro Yj s Y H x y v u Q I rx ry h;obtain⟨a,o,rfl,g,q⟩:=h;obtain rfl:u=Value.ref a:=ry;exact WU hu I g rx λs3 I3=>⟨.bl o.isSome,H,I3,Z',q⟩
variable {prog:Pg}{w:Wo}{A:Ar}{E:QQX}{a:Uf}{U:Type}{k:Str}{tk:Tok}
section
variable {R:U→Vl→Prop}{D:T0 (Str × U)}
def zD(T:KTD.TabOf R s.heap a D):s.TypeIs (.ref a) "dict":=let⟨_,o,_,_,ho,hc,_⟩:=T;⟨o,ho,hc.1⟩
def Ke{Q:Option Vl->Sd->Prop}(T:KTD.TabOf R s.heap a D)(h1:∀d v,KTD.datumAt k D=ga d->R d v->Q (ga v) {s with toks:=s.toks+1})(h2:KTD.datumAt k D=Fa->Q Fa {s with toks:=s.toks+1}):
  pi (Tk prog w) A (dictGet a (.str k tk)) Q E s:=by
 obtain⟨_,o,es,ep,ho,hc,hd,hr⟩:=T;have hq:Q (findBy (λk v=>v.isStr k) es k) {s with toks:=s.toks+1}:=by
  have hf:findBy (λk v=>v.isStr k) es k=(es.toList.find? λe=>e.key.isStr k).map (·.val):=by obtain⟨l⟩:=es;simp[findBy]
  rw[hf];cases hat:KTD.datumAt k D with
  | none=>rw[hr.find_none hat];exact h2 hat
  | some d=>obtain⟨v,hv,hfl⟩:=hr.find_some hat;rw[hv];exact h1 d v hat hfl
 have Zn:(es.all λe=>isExactStrKey e.key)=Db:=by
  obtain⟨l⟩:=es
  simpa using hr.exact
 unfold dictGet
 try with_reducible refine eX ?_
 refine cY (lT (cY (KTD.kt_dictFind_strs (s:={s with toks:=s.toks+1}) ho hd Zn ?_)));rw[findBy_of_findIdx?]at hq;cases hi:es.findIdx? λe=>e.key.isStr k with
 | none=>rw[hi]at hq;exact dv hq
 | some i=>rw[hi]at hq;exact cY (wpAny_dictEntries (s:={s with toks:=s.toks+1}) ho hd (dv hq))
def T6{Q:QQX}(T:KTD.TabOf R s.heap a D)(h:Q (.bool (KTD.datumAt k D).isSome) {s with toks:=s.toks+1}):pi (Tk prog w) A (Op .In (.str k tk) (.ref a)) Q E s:=by
 have hT:=zD T;show pi _ _ (do return .bool (<-contains (.ref a) (.str k tk))) Q E s;refine cY ?_;unfold contains
 try with_reducible refine eX ?_
 refine cY (j5 hT js.lookup ?_);show pi _ _ (if (ga (Value.builtin "dict.__contains__")==ga Value.none)=Db then _ else _) _ E s;rw[df (by rw[beq_builtin_none];exact dE)];refine cY (wpAny_callSpecialUnlessNone?_slot (name:=Str.ofString "__contains__") hT js (fT js hT entry_dict_contains ?_ (args_dict_contains _ _)));show pi _ _ (dictGet a (.str k tk)>>=_) _ _ s;refine cY (Ke T (λd v ha _=>?_) λhn=>?_)
 .rw[ha]at h;show pi _ _ (ret (.bool Db)) _ _ _;exact dv ⟨_,Z',fk (dv h)⟩
 .rw[hn]at h;show pi _ _ (Builtin.Dict.pendingKey? a (.str k tk)>>=_) _ _ _;exact cY (wpAny_pendingKey_other T.1 (dv ⟨_,Z',fk (dv h)⟩))
def Oa{Q:QQX}{d:U}(T:KTD.TabOf R s.heap a D)(hd:KTD.datumAt k D=ga d)(h:∀v,R d v->Q v {s with toks:=s.toks+1}):pi (Tk prog w) A (XXg (.ref a) (.str k tk)) Q E s:=by
 have hT:=zD T;unfold XXg
 try with_reducible refine eX ?_
 refine cY (jy hT (by decide) ?_);refine cY (fN (name:=Str.ofString "__getitem__") hT lJ (fT lJ hT entry_dict_getitem ?_ (args_dict_getitem _ _)));show pi _ _ (dictGet a (.str k tk)>>=_) _ _ s;refine cY (Ke T (λd' v ha hv=>dv ⟨v,Z',dv (h v ?_)⟩) λhn=>?_)
 .rw[hd]at ha;cases ha;exact hv
 .rw[hd]at hn;cases hn
end
def Nx(K:qJ)(mg:QQZ)(x:Str)(F:T0 (Str×QQQ)):Prop:=∃a o es ep,mg x=ga (.ref a)/\(a==TW)=pc/\K.lookup a=ga o/\o.ExactDict/\o.data=.dict es ep/\
 KTD.Rows (λ(ss:QQQ) v=>∃t,v=Value.ref t/\wm K (λ_=>Fa) t (ss.map V.str)) es.toList F
variable {x:Str}{F:T0 (Str × QQQ)}
def KL{K:qJ}(h:wm K (λ_=>Fa) t xs):wm K H t xs:=by
 rcases h with(h|⟨o,h⟩)|h
 .cases h
 .cases h
 .exact .inr h
def GN{K:qJ}(T:Nx K mg x F):∃a,mg x=ga (.ref a)/\∀h:No,K.In h->KTD.TabOf (λ(ss:QQQ) v=>∃t,v=Value.ref t/\wm K (λ_=>Fa) t (ss.map V.str)) h a F:=by obtain⟨a,o,es,ep,h1,h2,h3,h4,h5,h6⟩:=T;exact⟨a,h1,λh hk=>⟨h2,o,es,ep,hk a o h3,h4,h5,h6⟩⟩
noncomputable def WV(x:Str):It:=⟨λi _=>i<x.cps.size,λi H v H'=>H'=H/\∃c,x.cps[i]?=ga c/\v=.str ⟨#[c]⟩,λi _=>i=x.cps.size⟩
def HI{K:qJ}{ty:String}{x:Str}{t:Tok}(it:Uf)(W:∀A':Ar,A'.handled=Fa->Walks P w A' it [it] [it] x.cps.size (SignAt x) (λi h=>h.IsStrIter it ty x t i)) (hself:∀(A:Ar) (i:Nat) (s:Sd) (Q:QQX) (E:QQX),s.heap.IsStrIter it ty x t i->Q (.ref it) s->pi (Tk P w) A (pyIter (.ref it)) Q E s) (hn:["enumerate","zip","dict_itemiterator","dict_reverseitemiterator","odict_iterator","itertools.zip_longest","itertools.pairwise"].contains ty=pc):HL P w K tg (WV x) [it] it (λi h=>h.IsStrIter it ty x t i) where
 mem:=by simp
 obj:=λi h st b hb=>by
  obtain rfl:b=it:=by simpa using hb
  obtain⟨o,e,c,d⟩:=st;exact⟨o,e,λv z=>by rw[d]at z;cases z⟩
 keep:=λi h h' st k=>by obtain⟨o,e,r⟩:=st;exact⟨o,k it (by simp) o e,r⟩
 item:=by intro X hP hw hK hc i Yj s Y H E I hf st hg;subst hP hw hK;obtain⟨f0,f1,f2,f3,f4,f5⟩:=hf it (by simp);refine(W X.A (I.ok.hd hc)).item i s _ _ hg st λv h' tk hv Za kp=>?_;obtain⟨c,u,e1,e2⟩:=hv;have I1:Inv X Yj Y H {s with heap:=h',toks:=tk}:=I.turned (t':=tk) (λb o hb e=>kp b o (by simpa using hb) e) f0 f1 f3 f4 f5;obtain⟨o,e,cl,d⟩:=id Za;exact⟨v,Z',JC (s:={s with heap:=h',toks:=tk}) e cl d hn ⟨.str ⟨#[c]⟩,H,I1,⟨u,e2⟩,⟨Z',c,e1,Z'⟩,Za,λb hb=>(hf b hb).1⟩⟩
 done:=by intro X hP hw hK hc i Yj s Y H E I hf st hg;subst hP hw hK;obtain⟨f0,f1,f2,f3,f4,f5⟩:=hf it (by simp);obtain rfl:i=x.cps.size:=hg;exact(W X.A (I.ok.hd hc)).done s _ _ st λh' tk kp=>⟨Z',I.turned (t':=tk) (λb o hb e=>kp b o (by simpa using hb) e) f0 f1 f3 f4 f5⟩
 self:=hself
variable {tg:Go}
def Pd(hc:X.calm=Db)(hl:PE X l tl):PI X tg l (λY H R=>tl Y H λx H1=>(∃a,x=.ref a/\(((∃xs,xW X.K H1 a xs)/\R (WJ X.K a) H1)\/((∃xs,wm X.K H1 a xs)/\R (WN X.K a) H1)))\/∃z,x=.str z/\R (WV z) H1):=by
 intro Yj s Y H R I h;refine tz (hl Yj s Y H _ I h) λv s1 zz=>x5 zz λx H1 I1 r1 q1=>?_;rcases q1 with⟨a,e,q1⟩|⟨z,e,q⟩
 .subst e;cases r1;rcases q1 with⟨⟨xs,hq⟩,q⟩|⟨⟨xs,hq⟩,q⟩
  .obtain⟨its,rv,p,hz⟩:=I1.list hq;refine g9 p.isList ?_;refine⟨s1.heap.objs.size,[s1.heap.objs.size],_,_,H1,Z',I1.kept (t':=s1.toks) λb o e=>dg _ e,K9 a _,⟨_,dJ _ Z',Z',Z'⟩,λb hb=>?_,q⟩;obtain rfl:b=s1.heap.objs.size:=by simpa using hb
   exact I1.oo (dw _) (I1.m9.fresh (dw _))
  .obtain⟨its,rv,p,hz⟩:=I1.tuple hq;refine iE (show s1.heap.IsTuple a its.toArray from p) ?_;refine⟨s1.heap.objs.size,[s1.heap.objs.size],_,_,H1,Z',I1.kept (t':=s1.toks) λb o e=>dg _ e,Ic a _,⟨_,dJ _ Z',Z',Z'⟩,λb hb=>?_,q⟩;obtain rfl:b=s1.heap.objs.size:=by simpa using hb
   exact I1.oo (dw _) (I1.m9.fresh (dw _))
 .subst e;obtain⟨t,rfl⟩:=r1;have fp:∀b∈[s1.heap.objs.size],zN X Yj H1 b:=λb hb=>by
   obtain rfl:b=s1.heap.objs.size:=by simpa using hb
   exact I1.oo (dw _) (I1.m9.fresh (dw _))
  cases ha:z.cps.all (·<128)
  .refine wpAny_pyIter_wide ha ?_;exact⟨s1.heap.objs.size,[s1.heap.objs.size],_,_,H1,Z',I1.kept (t':=s1.toks) λb o e=>dg _ e,HI _ (λA' hA=>Walks.strWide hA _ z t) (λA i s Q E st h=>wpAny_pyIter_striter_wide st h) (by decide),⟨_,dJ _ Z',Z',Z'⟩,fp,q⟩
  .refine wpAny_pyIter_ascii ha ?_;exact⟨s1.heap.objs.size,[s1.heap.objs.size],_,_,H1,Z',I1.kept (t':=s1.toks) λb o e=>dg _ e,HI _ (λA' hA=>Walks.strAscii hA _ z t) (λA i s Q E st h=>wpAny_pyIter_striter_ascii st h) (by decide),⟨_,dJ _ Z',Z',Z'⟩,fp,q⟩
end L2
namespace L2
inductive Cv{α0:Sort u}{α1:Sort v}(p:α0->α1->Prop):Prop
 | mk (a0:α0) (a1:α1) (h:p a0 a1):Cv p
inductive D4{α0:Sort u}{α1:Sort v}{α2:Sort w}(p:α0->α1->α2->Prop):Prop
 | mk (a0:α0) (a1:α1) (a2:α2) (h:p a0 a1 a2):D4 p
def x7{α:Sort u}{β:Sort v}{γ:Sort w}{p q r s:α->β->γ->Prop}{C:Prop}(h:D4 λa b c=>p a b c/\q a b c/\r a b c/\s a b c)(f:∀a b c,p a b c->q a b c->r a b c->s a b c->C):C:=by obtain⟨a,b,c,h1,h2,h3,h4⟩:=h;exact f a b c h1 h2 h3 h4
def L1{α:Sort u}{β:Sort v}{γ:Sort w}{p q r s s1 s2 s3:α->β->γ->Prop}{C:Prop}(h:D4 λa b c=>p a b c/\q a b c/\r a b c/\s a b c/\s1 a b c/\s2 a b c/\s3 a b c)(f:∀a b c,p a b c->q a b c->r a b c->s a b c->s1 a b c->s2 a b c->s3 a b c->C):C:=by obtain⟨a,b,c,h1,h2,h3,h4,h5,h6,h7⟩:=h;exact f a b c h1 h2 h3 h4 h5 h6 h7
inductive B0{α0:Sort u}{α1:Sort v}{α2:Sort w}{α3:Sort u1}(p:α0->α1->α2->α3->Prop):Prop
 | mk (a0:α0) (a1:α1) (a2:α2) (a3:α3) (h:p a0 a1 a2 a3):B0 p
inductive GD{α0:Sort u}{α1:Sort v}{α2:Sort w}{α3:Sort u1}{α4:Sort u2}(p:α0->α1->α2->α3->α4->Prop):Prop
 | mk (a0:α0) (a1:α1) (a2:α2) (a3:α3) (a4:α4) (h:p a0 a1 a2 a3 a4):GD p
inductive Kg{α0:Sort u}{α1:Sort v}{α2:Sort w}{α3:Sort u1}{α4:Sort u2}{α5:Sort u3}(p:α0->α1->α2->α3->α4->α5->Prop):Prop
 | mk (a0:α0) (a1:α1) (a2:α2) (a3:α3) (a4:α4) (a5:α5) (h:p a0 a1 a2 a3 a4 a5):Kg p
inductive Th{α0:Sort u}{α1:Sort v}{α2:Sort w}{α3:Sort u1}{α4:Sort u2}{α5:Sort u3}{α6:Sort u4}(p:α0->α1->α2->α3->α4->α5->α6->Prop):Prop
 | mk (a0:α0) (a1:α1) (a2:α2) (a3:α3) (a4:α4) (a5:α5) (a6:α6) (h:p a0 a1 a2 a3 a4 a5 a6):Th p
inductive Sr{α0:Sort u}{α1:Sort v}{α2:Sort w}{α3:Sort u1}{α4:Sort u2}{α5:Sort u3}{α6:Sort u4}{α7:Sort u5}(p:α0->α1->α2->α3->α4->α5->α6->α7->Prop):Prop
 | mk (a0:α0) (a1:α1) (a2:α2) (a3:α3) (a4:α4) (a5:α5) (a6:α6) (a7:α7) (h:p a0 a1 a2 a3 a4 a5 a6 a7):Sr p
inductive UW{α0:Sort u}{α1:Sort v}{α2:Sort w}{α3:Sort u1}{α4:Sort u2}{α5:Sort u3}{α6:Sort u4}{α7:Sort u5}{α8:Sort u6}(p:α0->α1->α2->α3->α4->α5->α6->α7->α8->Prop):Prop
 | mk (a0:α0) (a1:α1) (a2:α2) (a3:α3) (a4:α4) (a5:α5) (a6:α6) (a7:α7) (a8:α8) (h:p a0 a1 a2 a3 a4 a5 a6 a7 a8):UW p
inductive NL{α0:Sort u}{α1:Sort v}{α2:Sort w}{α3:Sort u1}{α4:Sort u2}{α5:Sort u3}{α6:Sort u4}{α7:Sort u5}{α8:Sort u6}{α9:Sort u7}(p:α0->α1->α2->α3->α4->α5->α6->α7->α8->α9->Prop):Prop
 | mk (a0:α0) (a1:α1) (a2:α2) (a3:α3) (a4:α4) (a5:α5) (a6:α6) (a7:α7) (a8:α8) (a9:α9) (h:p a0 a1 a2 a3 a4 a5 a6 a7 a8 a9):NL p
end L2
namespace L2
open PySem
def VM(a C:Uf)(h:No):Prop:=Cv λoe vs=>h.get? a=ga oe/\oe.cls=.ref C/\oe.data=.fields vs/\oe.dict=Fa
end L2
namespace L3
open L2
inductive D where
 | mY|bl (b:Bool)|int (i:Int)|str (x:Str)|tup (ds:List D)|ref (a:Uf)|ty (n:String)
 | rl (ds:List D)
def Qn(K:qJ)(H:Hp)(a:Uf)(xs:T0 V):Prop:=(∃o,H a=ga (.frz o (.lst xs)))\/
 ∃(o:Obj) (its:Array Vl) (n:Nat),K.lookup a=ga o/\o.cls=.type "list"/\o.dict=Fa/\o.data=.seq its n/\its.size<=Ch/\qL xs its.toList
def Qn.sq{K:qJ}(h:Qn K H a xs):xW K H a xs:=by
 rcases h with⟨o,h⟩|h
 .exact .inl (.inr ⟨o,h⟩)
 .exact .inr h
mutual
def sA(K:qJ)(H:Hp):D->V->Prop
 | .mY,v=>v=.mY
 | .bl b,v=>v=.bl b
 | .int i,v=>v=.int i
 | .str x,v=>v=.str x
 | .ref a,v=>v=.ref a
 | .ty n,v=>v=.ty n
 | .tup ds,v=>∃a xs,v=.ref a/\wm K H a xs/\qF K H ds xs
 | .rl ds,v=>∃a xs,v=.ref a/\Qn K H a xs/\qF K H ds xs
def qF(K:qJ)(H:Hp):T0 D->T0 V->Prop
 | [],xs=>xs=[]
 | d::ds,xs=>∃x r,xs=x::r/\sA K H d x/\qF K H ds r
end
structure rC(K:qJ)(H H':Hp):Prop where
 t:∀a xs,wm K H a xs->wm K H' a xs
 f:∀a o xs,H a=ga (.frz o (.lst xs))->H' a=ga (.frz o (.lst xs))
def rC.refl{K:qJ}:rC K H H:=⟨λ_ _ h=>h,λ_ _ _ h=>h⟩
def rC.trans{K:qJ}(a:rC K H H1)(b:rC K H1 H2):rC K H H2:=⟨λc xs h=>b.t c xs (a.t c xs h),λc o xs h=>b.f c o xs (a.f c o xs h)⟩
def rC.upd{K:qJ}(h:∀xs,¬Rd H p (.tup xs))(h':∀u xs,H p≠ga (.frz u (.lst xs))):rC K H (upd H p o):=⟨λa xs q=>by
 rcases q with q|q
 .have ne:a≠p:=λz=>h xs (z ▸ q);rcases q with q|⟨u,q⟩
  .exact .inl (.inl (by rw[qv ne];exact q))
  .exact .inl (.inr ⟨u,by rw[qv ne];exact q⟩)
 .exact .inr q,λa u xs q=>by
 have ne:a≠p:=λz=>h' u xs (z ▸ q);rw[qv ne];exact q⟩
def rC.new{K:qJ}{H:Hp}{p:Uf}(h:H p=Fa):rC K H (L2.upd H p o):=.upd (λxs q=>by
 rcases q with q|⟨u,q⟩<;>(rw[h]at q;cases q)) λu xs q=>by rw[h]at q;cases q
def Qn.mono{K:qJ}(e:rC K H H')(h:Qn K H a xs):Qn K H' a xs:=by
 rcases h with⟨o,h⟩|h
 .exact .inl ⟨o,e.f a o xs h⟩
 .exact .inr h
mutual
theorem sA.mono{K:qJ}(e:rC K H H'):∀{d:D} {v:V},sA K H d v->sA K H' d v
 | .mY,_,h=>h
 | .bl _,_,h=>h
 | .int _,_,h=>h
 | .str _,_,h=>h
 | .ref _,_,h=>h
 | .ty _,_,h=>h
 | .tup ds,v,h=>by unfold sA at h ⊢;obtain⟨a,xs,e1,e2,e3⟩:=h;exact⟨a,xs,e1,e.t _ _ e2,qF.mono e e3⟩
 | .rl ds,v,h=>by unfold sA at h ⊢;obtain⟨a,xs,e1,e2,e3⟩:=h;exact⟨a,xs,e1,e2.mono e,qF.mono e e3⟩
theorem qF.mono{K:qJ}(e:rC K H H'):∀{ds:T0 D} {xs:T0 V},qF K H ds xs->qF K H' ds xs
 | [],_,h=>h
 | d::ds,xs,h=>by unfold qF at h ⊢;obtain⟨x,r,e1,e2,e3⟩:=h;exact⟨x,r,e1,sA.mono e e2,qF.mono e e3⟩
end
variable {K:qJ}{H H':Hp}
def qF.nil:qF K H [] []:=by unfold qF;rfl
def qF.cons(a:sA K H d x)(b:qF K H ds xs):qF K H (d::ds) (x::xs):=by unfold qF;exact⟨x,xs,Z',a,b⟩
def qF.inv{d:D}{ds:T0 D}(h:qF K H (d::ds) xs):∃x r,xs=x::r/\sA K H d x/\qF K H ds r:=by unfold qF at h;exact h
def qF.nil_inv(h:qF K H [] xs):xs=[]:=by unfold qF at h;exact h
theorem qF.length:∀{ds:T0 D} {xs:T0 V},qF K H ds xs->ds.length=xs.length
 | [],_,h=>by rw[h.nil_inv];rfl
 | d::ds,_,h=>by obtain⟨x,r,rfl,_,e⟩:=h.inv;simp[qF.length e]
theorem qF.get:∀{ds:T0 D} {xs:T0 V} {i:Nat} {d:D},qF K H ds xs->ds[i]?=ga d->∃x,xs[i]?=ga x/\sA K H d x
 | [],_,_,_,_,e=>by simp at e
 | d::ds,_,0,_,h,e=>by obtain⟨x,r,rfl,a,_⟩:=h.inv;simp at e;subst e;exact⟨x,by simp,a⟩
 | d::ds,_,i+1,_,h,e=>by obtain⟨x,r,rfl,_,b⟩:=h.inv;obtain⟨y,e1,e2⟩:=qF.get b (by simpa using e);exact⟨y,by simpa using e1,e2⟩
theorem qF.append:∀{ds es:T0 D} {xs ys:T0 V},qF K H ds xs->qF K H es ys->qF K H (ds++es) (xs++ys)
 | [],_,_,_,h,g=>by rw[h.nil_inv];exact g
 | d::ds,_,_,_,h,g=>by obtain⟨x,r,rfl,a,b⟩:=h.inv;exact .cons a (qF.append b g)
theorem qF.take:∀{ds:T0 D} {xs:T0 V} (n:Nat),qF K H ds xs->qF K H (ds.take n) (xs.take n)
 | _,_,0,_=>by simp only[List.take_zero];exact .nil
 | [],_,n+1,h=>by rw[h.nil_inv];exact .nil
 | d::ds,_,n+1,h=>by obtain⟨x,r,rfl,a,b⟩:=h.inv;exact .cons a (qF.take n b)
theorem qF.drop:∀{ds:T0 D} {xs:T0 V} (n:Nat),qF K H ds xs->qF K H (ds.drop n) (xs.drop n)
 | _,_,0,h=>h
 | [],_,n+1,h=>by rw[h.nil_inv];exact .nil
 | d::ds,_,n+1,h=>by obtain⟨x,r,rfl,a,b⟩:=h.inv;exact qF.drop n b
def qF.snoc(h:qF K H ds xs)(a:sA K H d x):qF K H (ds++[d]) (xs++[x]):=h.append (.cons a .nil)
theorem qF.ints:∀{ns:T0 Int},qF K H (ns.map D.int) (ns.map V.int)
 | []=>.nil
 | n::r=>.cons (by unfold sA;rfl) qF.ints
def sA.tup(q:wm K H a xs)(h:qF K H ds xs):sA K H (.tup ds) (.ref a):=by unfold sA;exact⟨a,xs,Z',q,h⟩
def sA.m7{ds:T0 D}(h:sA K H (.tup ds) v):∃a xs,v=.ref a/\wm K H a xs/\qF K H ds xs:=by unfold sA at h;exact h
def sA.ny{ds:T0 D}(h:sA K H (.rl ds) v):∃a xs,v=.ref a/\Qn K H a xs/\qF K H ds xs:=by unfold sA at h;exact h
def sA.int{i:Int}:sA K H (.int i) (.int i):=by unfold sA;rfl
def sA.bl{i:Bool}:sA K H (.bl i) (.bl i):=by unfold sA;rfl
def sA.str{i:Str}:sA K H (.str i) (.str i):=by unfold sA;rfl
def sA.ref{i:Uf}:sA K H (.ref i) (.ref i):=by unfold sA;rfl
def sA.mY:sA K H .mY .mY:=by unfold sA;rfl
def sA.int_inv{i:Int}(h:sA K H (.int i) v):v=.int i:=by unfold sA at h;exact h
def sA.mX{i:Bool}(h:sA K H (.bl i) v):v=.bl i:=by unfold sA at h;exact h
def sA.str_inv{i:Str}(h:sA K H (.str i) v):v=.str i:=by unfold sA at h;exact h
def sA.mU{i:Uf}(h:sA K H (.ref i) v):v=.ref i:=by unfold sA at h;exact h
def sA.oh{i:String}(h:sA K H (.ty i) v):v=.ty i:=by unfold sA at h;exact h
def sA.mW{v:V}(h:sA K H .mY v):v=.mY:=by unfold sA at h;exact h
inductive uU where
 | lst (ds:List D)
 | ins (C:Uf) (fs:List (Str×D))
 | dk (kvs:List (rM×D))
 | exc (C:Uf)
abbrev Mp:=Uf->Option uU
noncomputable def pT(M:Mp)(a:Uf)(c:uU):Mp:=λb=>if b=a then ga c else M b
def qg:pT M a c a=ga c:=by unfold pT;rw[dh Z']
def uH{a b:Uf}(h:b≠a):pT M a c b=M b:=by unfold pT;rw[df h]
def sy:pT (pT M a c) a d=pT M a d:=by funext b;unfold pT;split<;>rfl
def Q7{M:Mp}{a b:Uf}{c:uU}(h:M a=ga c)(h':M b=Fa):a≠b:=by intro e;subst e;rw[h]at h';cases h'
def DH(K:qJ)(H:Hp)(fs:T0 (Str×D))(vs:T0 (Str×V)):Prop:=vs.map (·.1)=fs.map (·.1)/\qF K H (fs.map (·.2)) (vs.map (·.2))
def yl(K:qJ)(H:Hp)(a:Uf):uU->Prop
 | .lst ds=>∃xs,H a=ga (.lst xs)/\qF K H ds xs
 | .ins C fs=>∃dx vs,H a=ga (.ins C dx vs)/\Cls K C/\(∀f,f∈fs.map (·.1)->uN K C f)/\DH K H fs vs
 | .dk kvs=>∃vs,H a=ga (.dK vs)/\vs.map (·.1)=kvs.map (·.1)/\qF K H (kvs.map (·.2)) (vs.map (·.2))
 | .exc C=>H a=ga (.ext (VM a C))
def HM(K:qJ)(H:Hp)(M:Mp):Prop:=∀a c,M a=ga c->yl K H a c
variable {M:Mp}
def DH.mono(e:rC K H H')(h:DH K H fs vs):DH K H' fs vs:=⟨h.1,h.2.mono e⟩
def yl.keep(e:rC K H H')(k:H' a=H a)(h:yl K H a c):yl K H' a c:=by
 cases c with
 | lst ds=>obtain⟨xs,e1,e2⟩:=h;exact⟨xs,by rw[k];exact e1,e2.mono e⟩
 | ins C fs=>obtain⟨dx,vs,e1,c,n,e2⟩:=h;exact⟨dx,vs,by rw[k];exact e1,c,n,e2.mono e⟩
 | dk kvs=>obtain⟨vs,e1,e2,e3⟩:=h;exact⟨vs,by rw[k];exact e1,e2,e3.mono e⟩
 | exc C=>exact k.trans h
def yl.there(h:yl K H a c):∃o,H a=ga o/\(∀xs,¬Rd H a (.tup xs))/\∀u xs,H a≠ga (.frz u (.lst xs)):=by
 have go:∀o,H a=ga o->(∀xs,o≠.tup xs)->(∀u v,o≠.frz u v)->∃o,H a=ga o/\(∀xs,¬Rd H a (.tup xs))/\∀u xs,H a≠ga (.frz u (.lst xs)):=λo e n1 n2=>⟨o,e,λxs q=>by
  rcases q with q|⟨u,q⟩
  .rw[e]at q;exact n1 xs (dq q)
  .rw[e]at q;exact n2 u _ (dq q),λu xs q=>by rw[e]at q;exact n2 u _ (dq q)⟩
 cases c with
 | lst ds=>obtain⟨xs,e1,e2⟩:=h;exact go _ e1 (λ_ z=>by cases z) λ_ _ z=>by cases z
 | ins C fs=>obtain⟨dx,vs,e1,e2⟩:=h;exact go _ e1 (λ_ z=>by cases z) λ_ _ z=>by cases z
 | dk kvs=>obtain⟨vs,e1,e2,e3⟩:=h;exact go _ e1 (λ_ z=>by cases z) λ_ _ z=>by cases z
 | exc C=>exact go _ h (λ_ z=>by cases z) λ_ _ z=>by cases z
def HM.fresh(h:HM K H M){p:Uf}(n:H p=Fa):M p=Fa:=by
 cases e:M p with
 | none=>rfl
 | some c=>obtain⟨o,q,_⟩:=(h p c e).there;rw[n]at q;cases q
def HM.keep(h:HM K H M)(e:rC K H H')(k:∀a c,M a=ga c->H' a=H a):HM K H' M:=λa c q=>(h a c q).keep e (k a c q)
def HM.add(h:HM K H M){p:Uf}{o:HO}(n:H p=Fa):HM K (upd H p o) M:=h.keep (.new n) λa c q=>by obtain⟨u,e,_⟩:=(h a c q).there;rw[qv (rE e n)]
def HM.new(h:HM K H M){p:Uf}{o:HO}{c:uU}(n:H p=Fa)(ok:yl K (upd H p o) p c):HM K (upd H p o) (pT M p c):=λa d q=>by
 by_cases e:a=p
 .subst e;rw[qg]at q;cases q;exact ok
 .rw[uH e]at q;exact h.add n a d q
def HM.put(h:HM K H M){p:Uf}{o:HO}{c c0:uU}(e0:M p=ga c0)(ok:rC K H (upd H p o)->yl K (upd H p o) p c):HM K (upd H p o) (pT M p c)/\rC K H (upd H p o):=by
 obtain⟨u,eu,nt,nf⟩:=(h p c0 e0).there;have x:rC K H (upd H p o):=.upd nt nf;refine⟨λa d q=>?_,x⟩;by_cases e:a=p
 .subst e;rw[qg]at q;cases q;exact ok x
 .rw[uH e]at q;exact(h a d q).keep x (qv e)
abbrev St:=L2.St
abbrev vT:=T0 (Option D)
abbrev DK:=D->Mp->Prop
abbrev T3:=vT->Mp->DK->Prop
abbrev Bm:=vT->Mp->(Bool->Mp->Prop)->Prop
abbrev xA:=vT->Mp->(T0 D->Mp->Prop)->Prop
structure HJ where
 nx:vT->Mp->Prop
 rt:DK
 bk:vT->Mp->Prop:=λ_ _=>False
 ct:vT->Mp->Prop:=λ_ _=>False
abbrev xX:=HJ->vT->Mp->Prop
def AG(K:qJ)(H:Hp)(Y:St)(U:vT):Prop:=∀(i:Nat) (d:D),U[i]?=ga (ga d)->∃v,Y[i]?=ga (ga v)/\sA K H d v
def AG.mono{K:qJ}(e:rC K H H')(h:AG K H Y U):AG K H' Y U:=λi d q=>by obtain⟨v,e1,e2⟩:=h i d q;exact⟨v,e1,e2.mono e⟩
def AG.set{K:qJ}{i:Nat}(h:AG K H Y U)(hv:sA K H d v)(hi:i<Y.length):AG K H (Y.set i (ga v)) (U.set i (ga d)):=λj e q=>by
 by_cases hj:j=i
 .subst hj;rw[fF hi];by_cases hl:j<U.length
  .rw[fF hl]at q;cases q;exact⟨v,Z',hv⟩
  .rw[h9 (by simpa using hl)]at q;cases q
 .rw[fE (dZ hj)]at q ⊢;exact h j e q
def lo(K:qJ)(t:T3):TE:=λY H Q'=>D4 λU M Q=>AG K H Y U/\HM K H M/\t U M Q/\∀v H' d M',sA K H' d v->HM K H' M'->rC K H H'->Q d M'->Q' v H'
def UK(K:qJ)(t:Bm):TT:=λY H Q'=>D4 λU M Q=>AG K H Y U/\HM K H M/\t U M Q/\∀b H' M',HM K H' M'->rC K H H'->Q b M'->Q' b H'
def X3(K:qJ)(t:xA):TA:=λY H Q'=>D4 λU M Q=>AG K H Y U/\HM K H M/\t U M Q/\∀vs H' ds M',qF K H' ds vs->HM K H' M'->rC K H H'->Q ds M'->Q' vs H'
def Wz(K:qJ)(t:xX):TS:=λD' Y H=>D4 λU M D=>AG K H Y U/\HM K H M/\t D U M/\(∀σ' H' δ' M',AG K H' σ' δ'->HM K H' M'->rC K H H'->σ'.length=Y.length->D.nx δ' M'->D'.nx σ' H')/\
 (∀v H' d M',sA K H' d v->HM K H' M'->rC K H H'->D.rt d M'->D'.rt v H')/\(∀σ' H' δ' M',AG K H' σ' δ'->HM K H' M'->rC K H H'->σ'.length=Y.length->D.bk δ' M'->D'.bk σ' H')/\
 (∀σ' H' δ' M',AG K H' σ' δ'->HM K H' M'->rC K H H'->σ'.length=Y.length->D.ct δ' M'->D'.ct σ' H')
def E3(X:Cx)(e:Go)(t:T3):Prop:=PE X e (lo X.K t)
def B3(X:Cx)(e:Go)(t:Bm):Prop:=PT X e (UK X.K t)
def A3(X:Cx)(es:T0 Go)(t:xA):Prop:=PA X es (X3 X.K t)
def S3(X:Cx)(st:ZB)(t:xX):Prop:=PS X st (Wz X.K t)
def HY(X:Cx)(st:T0 ZB)(t:xX):Prop:=Dd X st (Wz X.K t)
def PE.mono{t t':TE}(h:PE X e t)(m:∀Y H Q,t' Y H Q->t Y H Q):PE X e t':=λYj s Y H Q I q=>h Yj s Y H Q I (m Y H Q q)
def PT.mono{t t':TT}(h:PT X e t)(m:∀Y H Q,t' Y H Q->t Y H Q):PT X e t':=λYj s Y H Q I q=>h Yj s Y H Q I (m Y H Q q)
def PA.mono{t t':TA}(h:PA X e t)(m:∀Y H Q,t' Y H Q->t Y H Q):PA X e t':=λpos Yj s Y H Q I q=>h pos Yj s Y H Q I (m Y H Q q)
def PS.mono{t t':TS}(h:PS X e t)(m:∀D Y H,t' D Y H->t D Y H):PS X e t':=λYj s Y H D I q=>h Yj s Y H D I (m D Y H q)
def Dd.mono{t t':TS}(h:Dd X e t)(m:∀D Y H,t' D Y H->t D Y H):Dd X e t':=λYj s Y H D I q=>h Yj s Y H D I (m D Y H q)
def PS.og{t t':TS}(h:PS X e t)(m:∀D Y H,Y.length=X.N.length->t' D Y H->t D Y H):PS X e t':=λYj s Y H D I q=>h Yj s Y H D I (m D Y H I.len q)
def vH{K:qJ}{Q':VK}{Q:DK}(x:rC K H H1)(f:∀v H' d M',sA K H' d v->HM K H' M'->rC K H H'->Q d M'->Q' v H'):∀v H' d M',sA K H' d v->HM K H' M'->rC K H1 H'->Q d M'->Q' v H':=
 λv H' d M' a b c e=>f v H' d M' a b (x.trans c) e
variable {X:Cx}{pos:Pos}
def v3(i:Nat):T3:=λU M Q=>(U.getD i Fa).elim False λd=>Q d M
def K1{U:vT}{i:Nat}{P:D->Prop}(h:(U.getD i Fa).elim False P):∃d,U[i]?=ga (ga d)/\P d:=by
 cases e:U[i]? with
 | none=>rw[gh,e]at h;exact h.elim
 | some o=>
  rw[gh,e]at h;cases o with
  | none=>exact h.elim
  | some d=>exact⟨d,Z',h⟩
def Uw(i:Nat){x:Str}(h:PE X (.Name x pos) (Iw i)):E3 X (.Name x pos) (v3 i):=PE.mono h λY H Q' zz=>x7 zz λU M Q hs hm ht k=>by obtain⟨d,e,q⟩:=K1 ht;obtain⟨v,e1,e2⟩:=hs i d e;exact⟨v,e1,k v H d M e2 hm .refl q⟩
def c3(d:D):T3:=λ_ M Q=>Q d M
def pO{i j}:E3 X (.Constant (.int i) j pos) (c3 (.int i)):=PE.mono Tn λY H Q' zz=>x7 zz λU M Q hs hm ht k=>k _ H _ M .int hm .refl ht
def yZ{i j}:E3 X (.Constant (.bool i) j pos) (c3 (.bl i)):=PE.mono VQ λY H Q' zz=>x7 zz λU M Q hs hm ht k=>k _ H _ M .bl hm .refl ht
def pP{i j}:E3 X (.Constant (.str i) j pos) (c3 (.str i)):=PE.mono S4 λY H Q' zz=>x7 zz λU M Q hs hm ht k=>k _ H _ M .str hm .refl ht
def sD{j}:E3 X (.Constant .none j pos) (c3 .mY):=PE.mono Tu λY H Q' zz=>x7 zz λU M Q hs hm ht k=>k _ H _ M .mY hm .refl ht
def RX{n:String}(hg:Gl X x)(hm:X.mg x=Fa)(hv:zn x=ga (.type n))(hn:x≠"__name__":=by decide)(hd:zF x:=by decide):E3 X (.Name x pos) (c3 (.ty n)):=
 PE.mono (QU (v:=.ty n) hg hm hv Z' hn hd) λY H Q' zz=>x7 zz λU M Q hs hm ht k=>k _ H _ M (by unfold sA;rfl) hm .refl ht
noncomputable def oU(M:Mp)(a:Uf):Option (T0 D):=match M a with
 | some (.lst ds)=>ga ds
 | _=>Fa
noncomputable def zA(x:Str)(n:Int):Str:=⟨(List.replicate n.toNat x.cps).foldl (·++·) #[]⟩
def WA(op:XYc)(x y:D)(M:Mp)(Q:DK):Prop:=match op,x,y with
 | .Add,.int i,.int j=>Q (.int (i+j)) M
 | .Add,.str i,.str j=>i.length+j.length<=Ch/\Q (.str (i++j)) M
 | .Add,.tup i,.tup j=>i≠[]/\i.length+j.length<=Ch/\Q (.tup (i++j)) M
 | .Add,.ref a,.ref b=>(oU M a).elim False λi=>(oU M b).elim False λj=>i.length+j.length<=Ch/\∀p,M p=Fa->Q (.ref p) (pT M p (.lst (i++j)))
 | .Add,.rl i,.ref b=>(oU M b).elim False λj=>i.length+j.length<=Ch/\∀p,M p=Fa->Q (.ref p) (pT M p (.lst (i++j)))
 | .Sub,.int i,.int j=>Q (.int (i - j)) M
 | .Mult,.int i,.int j=>Ea i j/\Q (.int (i*j)) M
 | .Mult,.str i,.int j=>(j<4096/\-4096<j/\i.length<4096)/\Q (.str (zA i j)) M
 | .FloorDiv,.int i,.int j=>Va i j/\Q (.int (i / j)) M
 | .Mod,.int i,.int j=>0<j/\Q (.int (i % j)) M
 | _,_,_=>False
def o3(op:XYc)(ta tb:T3):T3:=λU M Q=>ta U M λx M1=>tb U M1 λy M2=>WA op x y M2 Q
def Up(K:qJ)(H:Hp)(Q':VK)(Q:DK):Prop:=∀v H' d M',sA K H' d v->HM K H' M'->rC K H H'->Q d M'->Q' v H'
variable {ta tb:T3}
section
def qx{K:qJ}{ds:T0 D}(hm:HM K H M)(h:oU M a=ga ds):∃xs,xW K H a xs/\qF K H ds xs/\Rd H a (.lst xs):=by
 unfold oU at h;cases e:M a with
 | none=>rw[e]at h;cases h
 | some c=>
  rw[e]at h;have ok:=hm a c e;cases c with
  | lst es=>cases h;obtain⟨xs,e1,e2⟩:=ok;exact⟨xs,.inl (.inl e1),e2,.inl e1⟩
  | ins _ _=>cases h
  | dk _=>cases h
  | exc _=>cases h
def rD{α:Type}{o:Option α}{P:α->Prop}(h:o.elim False P):∃a,o=ga a/\P a:=by
 cases o with
 | none=>exact h.elim
 | some a=>exact⟨a,Z',h⟩
def Kz:yC X (wS .Add) (λx y H Q=>∃l b xs zs,x=.ref l/\y=.ref b/\xW X.K H l xs/\xW X.K H b zs/\xs.length+zs.length<=Ch/\∀p,H p=Fa->Q (.ref p) (upd H p (.lst (xs++zs)))):=by
 intro Yj s Y H x y v u Q I rx ry h;obtain⟨l,b,xs,zs,rfl,rfl,hH,hB,hz,q⟩:=h;cases rx;cases ry;obtain⟨its,r,⟨⟨c1,d1,t1,sl1⟩,n,g1,e1,_,f1⟩,_⟩:=I.list hH;obtain⟨jts,r2,⟨⟨c2,d2,t2,sl2⟩,m,g2,e2,_,f2⟩,_⟩:=I.list hB;simp only at e1 f1 e2 f2;subst e1 f1 e2 f2;have hl:=r.length;have hl2:=r2.length;refine kY ⟨_,g1,Z'⟩ ⟨_,g2,Z'⟩ noFill_list_add seq_list_add PySem.F.slot_list_add PySem.F.entry_list_add (PySem.F.args_list_add_2 _ _) (list_addW l b its.toArray jts.toArray n m d1 d2 sl1 sl2 (by rw[dA,dA];lia)) ⟨g1,g2,?_⟩;have ea:its.toArray++jts.toArray=(its++jts).toArray:=by simp
 rw[ea];exact⟨.ref _,_,I.pB (t':=s.toks) (r.append r2) (by rw[c9];lia),Z',q _ I.fresh⟩
def JW(x:Array Nat):∀k,((List.replicate k x).foldl (·++·) #[]:Array Nat).size=k*x.size:=by
 have go:∀(k:Nat) (acc:Array Nat),((List.replicate k x).foldl (·++·) acc).size=acc.size+k*x.size:=by
  intro k;induction k with
  | zero=>intro acc;simp
  | succ k ih=>intro acc;rw[eL,fY,ih,Array.size_append,mJ];lia
 intro k;rw[go];simp
def Pc:yC X (wS .Mult) (λx y H Q=>∃i j,x=.str i/\y=.int j/\(j<4096/\-4096<j/\i.length<4096)/\Q (.str (zA i j)) H):=by
 intro Yj s Y H x y v u Q I rx ry h;obtain⟨i,j,rfl,rfl,⟨h1,h2,h3⟩,q⟩:=h;obtain⟨t,rfl⟩:=rx;obtain⟨t',rfl⟩:=ry;refine PySem.P.mul_str ?_ ?_ ?_ ?_
 .rw[eQ (by lia),eQ (by lia)];rfl
 .intro h0 _;have:(4096:Int)<=(2 ^ 63 - 1) / j:=by
   have:(4096:Int)*j<=2 ^ 63 - 1:=by lia
   exact(Int.le_ediv_iff_mul_le (by lia)).mpr this
  lia
 .intro h0 _;have hm:i.length*j.toNat<=4096*4096:=ko (by lia) (by lia);have hz:=dO;unfold Builtin.Str.tooLong;exact eQ (by lia)
 .by_cases h0:j<1
  .rw[dh h0];have e:zA i j=Str.empty:=by unfold zA;rw[show j.toNat=0 by lia];rfl
   rw[e]at q;exact⟨by decide,⟨.str Str.empty,H,I.tok _,⟨_,Z'⟩,q⟩⟩
  .rw[df h0];by_cases hj:(j==1||i.length==0)=Db
   .rw[dh hj];have e:zA i j=i:=by
     have hj':j=1\/i.length=0:=by simpa using hj
     unfold zA;rcases hj' with z|z
     .subst z;show(⟨#[]++i.cps⟩:Str)=i;simp
     .have ec:i.cps=#[]:=Array.size_eq_zero_iff.mp z;have er:∀k:Nat,((List.replicate k (#[]:Array Nat)).foldl (·++·) #[]:Array Nat)=#[]:=by
       intro k;induction k with
       | zero=>rfl
       | succ k ih=>rw[eL,fY];simpa using ih
      rw[ec,er,<-ec]
    rw[e]at q;exact⟨.str i,H,I,⟨t,Z'⟩,q⟩
   .rw[df hj];refine⟨?_,⟨.str _,H,I.tok _,⟨_,Z'⟩,q⟩⟩;have hz:=dO;have hm:j.toNat*i.length<=4096*4096:=ko (by lia) (by lia);show((List.replicate j.toNat i.cps).foldl (·++·) #[]:Array Nat).size<=_;rw[JW];have ZU:j.toNat*i.cps.size<=4096*4096:=hm;lia
def R3(K:qJ)(f:D->D->Mp->DK->Prop):R2:=λvx vy H Q'=>B0 λx y M Q=>sA K H x vx/\sA K H y vy/\HM K H M/\f x y M Q/\Up K H Q' Q
def X6(op:XYc):yC X (wS op) (R3 X.K (WA op)):=by
 intro Yj s Y H vx vy v u Q' I rx ry h;obtain⟨x,y,M,Q,hx,hy,hm,q,k⟩:=h;unfold WA at q;split at q
 .cases hx.int_inv;cases hy.int_inv;exact Tp Yj s Y H _ _ v u Q' I rx ry ⟨_,_,Z',Z',k _ _ _ _ .int hm .refl q⟩
 .cases hx.str_inv;cases hy.str_inv;exact IC Yj s Y H _ _ v u Q' I rx ry ⟨_,_,Z',Z',q.1,k _ _ _ _ .str hm .refl q.2⟩
 .rename_i i j;obtain⟨q1,q2,q3⟩:=q;obtain⟨a,xs,rfl,ha,ZX⟩:=hx.m7;obtain⟨b,ys,rfl,hb,Zd⟩:=hy.m7;have l1:=ZX.length;have l2:=Zd.length;refine QO Yj s Y H _ _ v u Q' I rx ry ⟨a,b,xs,ys,Z',Z',ha,hb,λz=>q1 (by rw[z]at l1;exact gw.mp l1),by lia,λz=>?_,λz p hp=>?_⟩
  .refine k _ _ _ _ (.tup ha ?_) hm .refl q3;rw[z]at Zd;have e0:j=[]:=gw.mp (by simpa using Zd.length);rw[e0,eN];exact ZX
  .have e:rC X.K H (upd H p (.tup (xs++ys))):=.new hp;exact k _ _ _ _ (.tup (.of qC) ((ZX.append Zd).mono e)) (hm.add hp) e q3
 .obtain⟨i,ei,q⟩:=rD q;obtain⟨j,ej,q1,q2⟩:=rD q;cases hx.mU;cases hy.mU;obtain⟨xs,rx',hxs,_⟩:=qx hm ei;obtain⟨ys,ry',hys,_⟩:=qx hm ej;have l1:=hxs.length;have l2:=hys.length;refine Kz Yj s Y H _ _ v u Q' I rx ry ⟨_,_,xs,ys,Z',Z',rx',ry',by lia,λp hp=>?_⟩;have e:rC X.K H (upd H p (.lst (xs++ys))):=.new hp;exact k _ _ _ _ .ref (hm.new (c:=.lst (i++j)) hp ⟨_,qC,(hxs.append hys).mono e⟩) e (q2 p (hm.fresh hp))
 .obtain⟨j,ej,q1,q2⟩:=rD q;obtain⟨l,xs,rfl,rx',hxs⟩:=hx.ny;cases hy.mU;obtain⟨ys,ry',hys,_⟩:=qx hm ej;have l1:=hxs.length;have l2:=hys.length;refine Kz Yj s Y H _ _ v u Q' I rx ry ⟨_,_,xs,ys,Z',Z',rx'.sq,ry',by lia,λp hp=>?_⟩;have e:rC X.K H (upd H p (.lst (xs++ys))):=.new hp;exact k _ _ _ _ .ref (hm.new (c:=.lst (_++j)) hp ⟨_,qC,(hxs.append hys).mono e⟩) e (q2 p (hm.fresh hp))
 .cases hx.int_inv;cases hy.int_inv;exact TU Yj s Y H _ _ v u Q' I rx ry ⟨_,_,Z',Z',k _ _ _ _ .int hm .refl q⟩
 .cases hx.int_inv;cases hy.int_inv;exact SU Yj s Y H _ _ v u Q' I rx ry ⟨_,_,Z',Z',q.1,k _ _ _ _ .int hm .refl q.2⟩
 .cases hx.str_inv;cases hy.int_inv;exact Pc Yj s Y H _ _ v u Q' I rx ry ⟨_,_,Z',Z',q.1,k _ _ _ _ .str hm .refl q.2⟩
 .cases hx.int_inv;cases hy.int_inv;exact QC Yj s Y H _ _ v u Q' I rx ry ⟨_,_,Z',Z',q.1,k _ _ _ _ .int hm .refl q.2⟩
 .cases hx.int_inv;cases hy.int_inv;exact Sk Yj s Y H _ _ v u Q' I rx ry ⟨_,_,Z',Z',q.1,k _ _ _ _ .int hm .refl q.2⟩
 .exact q.elim
variable {a b:Go}
def IJ{f:D->D->Mp->DK->Prop}:∀Y H Q',lo X.K (λU M Q=>ta U M λx M1=>tb U M1 λy M2=>f x y M2 Q) Y H Q'->Vk (R3 X.K f) (lo X.K ta) (lo X.K tb) Y H Q':=λY H Q' zz=>x7 zz λU M Q hs hm ht k=>⟨U,M,_,hs,hm,ht,λv H1 x M1 hx Yl e1 q1=>⟨U,M1,_,hs.mono e1,Yl,q1,λu H2 y M2 hy YB e2 q2=>⟨x,y,M2,Q,hx.mono e2,hy,YB,q2,vH (e1.trans e2) k⟩⟩⟩
def qp(ha:E3 X a ta)(hb:E3 X b tb):E3 X (.BinOp a op b pos) (o3 op ta tb):=PE.mono (RH (X6 op) ha hb) IJ
end
noncomputable def rq(f:D->D->Option Bool):T0 D->T0 D->Option Bool
 | x::a,y::b=>(f x y).bind λp=>(rq f a b).map λq=>p&&q
 | _,_=>ga Db
noncomputable def wg(M:Mp):Nat->D->D->Option Bool
 | 0,_,_=>Fa
 | n+1,x,y=>match x,y with
  | .mY,.mY=>ga Db
  | .bl a,.bl b=>ga (a==b)
  | .int a,.int b=>ga (a==b)
  | .str a,.str b=>ga (a==b)
  | .mY,.bl _=>ga pc
  | .mY,.int _=>ga pc
  | .mY,.str _=>ga pc
  | .bl _,.mY=>ga pc
  | .bl _,.str _=>ga pc
  | .int _,.mY=>ga pc
  | .int _,.str _=>ga pc
  | .str _,.mY=>ga pc
  | .str _,.bl _=>ga pc
  | .str _,.int _=>ga pc
  | .tup a,.tup b=>(rq (wg M n) a b).map λp=>p&&a.length==b.length
  | .ref a,.ref b=>(oU M a).bind λi=>(oU M b).bind λj=>if i.length=j.length then rq (wg M n) i j else ga pc
  | _,_=>Fa
variable {Yj:T0 (Uf × Obj)}{Y:St}{s:Sd}
theorem zb{f:D->D->Option Bool}:∀{ds es:T0 D} {xs:T0 V} {b:Bool},qF X.K H ds xs->qF X.K H es xs->(∀x y v b,sA X.K H x v->sA X.K H y v->f x y=ga b->b=Db)->rq f ds es=ga b->b=Db
 | [],[],_,_,_,_,_,e=>(dq e).symm
 | [],_::_,_,_,h,g,_,_=>by have h1:=h.length;have h2:=g.length;rw[<-h1]at h2;simp at h2
 | _::_,[],_,_,h,g,_,_=>by have h1:=h.length;have h2:=g.length;rw[<-h1]at h2;simp at h2
 | d::ds,e::es,xs,b,h,g,k,q=>by
  obtain⟨x,r,rfl,h1,h2⟩:=h.inv;obtain⟨x',r',e',g1,g2⟩:=g.inv;cases e';unfold rq at q;cases p1:f d e with
  | none=>rw[p1]at q;cases q
  | some b1=>
   rw[p1]at q;cases p2:rq f ds es with
   | none=>rw[p2]at q;cases q
   | some b2=>rw[p2]at q;have q':(b1&&b2)=b:=dq q;rw[<-q',k _ _ _ _ h1 g1 p1,zb h2 g2 k p2];rfl
theorem An(I:Inv X Yj Y H s)(hm:HM X.K H M):∀(n:Nat) (x y:D) (v:V) (b:Bool),sA X.K H x v->sA X.K H y v->wg M n x y=ga b->b=Db
 | 0,_,_,_,_,_,_,e=>by cases e
 | n+1,x,y,v,b,hx,hy,e=>by
  unfold wg at e;split at e
  .exact(dq e).symm
  .rw[hx.mX]at hy;cases hy.mX;exact(dq e).symm.trans (by simp)
  .rw[hx.int_inv]at hy;cases hy.int_inv;exact(dq e).symm.trans (by simp)
  .rw[hx.str_inv]at hy;cases hy.str_inv;exact(dq e).symm.trans (by simp)
  .rw[hx.mW]at hy;cases hy.mX
  .rw[hx.mW]at hy;cases hy.int_inv
  .rw[hx.mW]at hy;cases hy.str_inv
  .rw[hx.mX]at hy;cases hy.mW
  .rw[hx.mX]at hy;cases hy.str_inv
  .rw[hx.int_inv]at hy;cases hy.mW
  .rw[hx.int_inv]at hy;cases hy.str_inv
  .rw[hx.str_inv]at hy;cases hy.mW
  .rw[hx.str_inv]at hy;cases hy.mX
  .rw[hx.str_inv]at hy;cases hy.int_inv
  .obtain⟨a,xs,rfl,h1,h2⟩:=hx.m7;obtain⟨a',ys,e',g1,g2⟩:=hy.m7;cases e';rw[I.nN g1 h1]at g2;cases p:rq (wg M n) _ _ with
   | none=>rw[p]at e;cases e
   | some b1=>rw[p]at e;have e':=dq e;rw[<-e',zb h2 g2 (An I hm n) p,h2.length,g2.length];simp
  .rw[hx.mU]at hy;cases hy.mU;cases p:oU M _ with
   | none=>rw[p]at e;cases e
   | some i=>rw[p]at e;have e:(if i.length=i.length then rq (wg M n) i i else ga pc)=ga b:=e;rw[dh Z']at e;obtain⟨xs,_,h2,_⟩:=qx hm p;exact zb h2 h2 (An I hm n) e
  .cases e
theorem DD{A:Ar}:∀{ds es:T0 D} {xs ys:T0 V} {us ws:T0 Vl} {b:Bool},rq f ds es=ga b->qF X.K H ds xs->qF X.K H es ys->qL xs us->qL ys ws->
  (∀x y b vx vy u w,f x y=ga b->sA X.K H x vx->sA X.K H y vy->rA vx u->rA vy w->SeqAt.EqAt A s u w b)->
  ∃e:Nat->Bool,(∀j (h1:j<us.length) (h2:j<ws.length),SeqAt.EqAt A s us[j] ws[j] (e j))/\(List.range (min us.length ws.length)).all e=b
 | [],es,xs,ys,us,ws,b,q,hx,hy,rx,ry,k=>by
  have e1:=hx.nil_inv;subst e1;cases rx;refine⟨λ_=>Db,λj h1=>absurd h1 (by simp),?_⟩;have q':ga Db=ga b:=by cases es<;>exact q
  simpa using(dq q')
 | d::ds,[],xs,ys,us,ws,b,q,hx,hy,rx,ry,k=>by
  have e1:=hy.nil_inv;subst e1;cases ry;refine⟨λ_=>Db,λj _ h2=>absurd h2 (by simp),?_⟩;have q':ga Db=ga b:=q
  simpa using(dq q')
 | d::ds,e::es,xs,ys,us,ws,b,q,hx,hy,rx,ry,k=>by
  obtain⟨x,r,rfl,h1,h2⟩:=hx.inv;obtain⟨y,r',rfl,g1,g2⟩:=hy.inv;cases rx with
  | cons r1 r2=>
   cases ry with
   | cons t1 t2=>
    unfold rq at q;cases p1:f d e with
    | none=>rw[p1]at q;cases q
    | some b1=>
     rw[p1]at q;cases p2:rq f ds es with
     | none=>rw[p2]at q;cases q
     | some b2=>
      rw[p2]at q;have q':(b1&&b2)=b:=dq q;obtain⟨e',he,ha⟩:=DD p2 h2 g2 r2 t2 k;refine⟨λj=>match j with|0=>b1|j+1=>e' j,λj l1 l2=>?_,?_⟩
      .cases j with
       | zero=>exact k _ _ _ _ _ _ _ p1 h1 g1 r1 t1
       | succ j=>exact he j (by simpa using l1) (by simpa using l2)
      .rw[<-q',<-ha];simp only[eE];rw[Nat.succ_min_succ,List.range_succ_eq_map,fv,jc];rfl
theorem Gw(I:Inv X Yj Y H s)(hm:HM X.K H M):∀(n:Nat) (A:Ar) (x y:D) (b:Bool) (vx vy:V) (u w:Vl),A.units+n<XXa->wg M n x y=ga b->sA X.K H x vx->sA X.K H y vy->rA vx u->rA vy w->
  SeqAt.RcAt A s u w b/\SeqAt.EqAt A s u w b/\SeqAt.RcNeAt A s u w (!b)
 | 0,_,_,_,_,_,_,_,_,_,e,_,_,_,_=>by cases e
 | n+1,A,x,y,b,vx,vy,u,w,hu,e,hx,hy,rx,ry=>by
  have hu1:A.units<XXa:=by lia
  have hui:A.in1.units+n<XXa:=by show A.units+1+n<XXa;lia
  unfold wg at e;split at e
  .cases hx.mW;cases hy.mW;cases rx;cases ry;cases e;exact⟨.none_none,.same _,.none_none⟩
  .cases hx.mX;cases hy.mX;cases rx;cases ry;cases e;exact⟨.bool_bool _ _,.bool_bool _ _,.bool_bool _ _⟩
  .cases hx.int_inv;cases hy.int_inv;obtain⟨t,rfl⟩:=rx;obtain⟨t',rfl⟩:=ry;cases e;exact⟨.int_int _ _ _ _,.int_int _ _ _ _,.int_int _ _ _ _⟩
  .cases hx.str_inv;cases hy.str_inv;obtain⟨t,rfl⟩:=rx;obtain⟨t',rfl⟩:=ry;cases e;exact⟨.str_str _ _ _ _,.str_str _ _ _ _,.str_str _ _ _ _⟩
  .cases hx.mW;cases hy.mX;cases rx;cases ry;cases e;exact⟨.none_bool _,.none_bool _,.none_bool _⟩
  .cases hx.mW;cases hy.int_inv;cases rx;obtain⟨t',rfl⟩:=ry;cases e;exact⟨.none_int _ _,.none_int _ _,.none_int _ _⟩
  .cases hx.mW;cases hy.str_inv;cases rx;obtain⟨t',rfl⟩:=ry;cases e;exact⟨.none_str _ _,.none_str _ _,.none_str _ _⟩
  .cases hx.mX;cases hy.mW;cases rx;cases ry;cases e;exact⟨.bool_none _,.bool_none _,.bool_none _⟩
  .cases hx.mX;cases hy.str_inv;cases rx;obtain⟨t',rfl⟩:=ry;cases e;exact⟨.bool_str _ _ _,.bool_str _ _ _,.bool_str _ _ _⟩
  .cases hx.int_inv;cases hy.mW;obtain⟨t,rfl⟩:=rx;cases ry;cases e;exact⟨.int_none _ _,.int_none _ _,.int_none _ _⟩
  .cases hx.int_inv;cases hy.str_inv;obtain⟨t,rfl⟩:=rx;obtain⟨t',rfl⟩:=ry;cases e;exact⟨.int_str _ _ _ _,.int_str _ _ _ _,.int_str _ _ _ _⟩
  .cases hx.str_inv;cases hy.mW;obtain⟨t,rfl⟩:=rx;cases ry;cases e;exact⟨.str_none _ _,.str_none _ _,.str_none _ _⟩
  .cases hx.str_inv;cases hy.mX;obtain⟨t,rfl⟩:=rx;cases ry;cases e;exact⟨.str_bool _ _ _,.str_bool _ _ _,.str_bool _ _ _⟩
  .cases hx.str_inv;cases hy.int_inv;obtain⟨t,rfl⟩:=rx;obtain⟨t',rfl⟩:=ry;cases e;exact⟨.str_int _ _ _ _,.str_int _ _ _ _,.str_int _ _ _ _⟩
  .rename_i da db;obtain⟨a1,xs,rfl,h1,h2⟩:=hx.m7;obtain⟨a2,ys,rfl,g1,g2⟩:=hy.m7;cases rx;cases ry;obtain⟨us,r1,p1,_⟩:=I.tuple h1;obtain⟨ws,r2,p2,_⟩:=I.tuple g1;cases p:rq (wg M n) da db with
   | none=>rw[p]at e;cases e
   | some b1=>
    have e0:=e;rw[p]at e;have e':(b1&&da.length==db.length)=b:=dq e;obtain⟨f,hf,ha⟩:=DD (A:=A.in1) (s:=s) p h2 g2 r1 r2 λx y b vx vy u w q1 q2 q3 q4 q5=>(Gw I hm n A.in1 x y b vx vy u w hui q1 q2 q3 q4 q5).2.1;have hb:((List.range (min us.toArray.size ws.toArray.size)).all f&&us.toArray.size==ws.toArray.size)=b:=by rw[dA,dA,ha,<-e',<-r1.length,<-r2.length,h2.length,g2.length]
    have hf':∀j (l1:j<us.toArray.size) (l2:j<ws.toArray.size),SeqAt.EqAt A.in1 s us.toArray[j] ws.toArray[j] (f j):=λj l1 l2=>by simpa using hf j (by simpa using l1) (by simpa using l2)
    have c1:SeqAt.RcAt A s (.ref a1) (.ref a2) b:=by rw[<-hb];exact .tuples p1 p2 hu1 hf'
    have c3:SeqAt.RcNeAt A s (.ref a1) (.ref a2) (!b):=by have:=SeqAt.RcNeAt.tuples p1 p2 hu1 hf';rw[hb]at this;exact this
    refine⟨c1,?_,c3⟩;by_cases ea:a1=a2
    .subst ea;have:b=Db:=An I hm (n+1) (.tup da) (.tup db) (.ref a1) b hx hy (by unfold wg;exact e0);rw[this];exact .same _
    .exact .of_refs ea c1
  .cases hx.mU;cases hy.mU;cases rx;cases ry;rename_i a1 a2;have e0:=e;cases p:oU M a1 with
   | none=>rw[p]at e;cases e
   | some i=>
    cases p':oU M a2 with
    | none=>rw[p,p']at e;cases e
    | some j=>
     rw[p,p']at e;have e:(if i.length=j.length then rq (wg M n) i j else ga pc)=ga b:=e;obtain⟨xs,q1,h2,_⟩:=qx hm p;obtain⟨ys,q2,g2,_⟩:=qx hm p';obtain⟨us,r1,p1,_⟩:=I.list q1;obtain⟨ws,r2,p2,_⟩:=I.list q2;have Yn:SeqAt.RcAt A s (.ref a1) (.ref a2) b/\SeqAt.RcNeAt A s (.ref a1) (.ref a2) (!b):=by
      by_cases hl:i.length=j.length
      .rw[dh hl]at e;obtain⟨f,hf,ha⟩:=DD (A:=A.in1) (s:=s) e h2 g2 r1 r2 λx y b vx vy u w q1 q2 q3 q4 q5=>(Gw I hm n A.in1 x y b vx vy u w hui q1 q2 q3 q4 q5).2.1;have hsz:us.toArray.size=ws.toArray.size:=by rw[dA,dA,<-r1.length,<-r2.length,<-h2.length,<-g2.length];exact hl
       have hf':∀j (l1:j<us.toArray.size) (l2:j<ws.toArray.size),SeqAt.EqAt A.in1 s us.toArray[j] ws.toArray[j] (f j):=λj l1 l2=>by simpa using hf j (by simpa using l1) (by simpa using l2)
       have hb:(List.range us.toArray.size).all f=b:=by rw[<-ha];rw[dA,dA]at hsz;rw[dA,<-hsz,mK]
       rw[<-hb];exact⟨.lists p1.isList p2.isList hsz hu1 hf',.lists p1.isList p2.isList hsz hu1 hf'⟩
      .rw[df hl]at e;cases e;have hsz:(us.toArray.size != ws.toArray.size)=Db:=by
        rw[dA,dA,<-r1.length,<-r2.length,<-h2.length,<-g2.length]
        simpa using hl
       exact⟨.lists_lengths p1.isList p2.isList hsz hu1,.lists_lengths p1.isList p2.isList hsz hu1⟩
     refine⟨Yn.1,?_,Yn.2⟩;by_cases ea:a1=a2
     .subst ea;have:b=Db:=An I hm (n+1) (.ref a1) (.ref a1) (.ref a1) b .ref .ref (by unfold wg;exact e0);rw[this];exact .same _
     .exact .of_refs ea Yn.1
  .cases e
noncomputable def vt:D->Bool
 | .mY=>Db
 | .bl _=>Db
 | .int _=>Db
 | .str _=>Db
 | _=>pc
noncomputable def Q2:D->D->Bool
 | .mY,.mY=>Db
 | .bl a,.bl b=>a==b
 | .bl a,.int b=>(if a then 1 else 0)==b
 | .int a,.bl b=>a==(if b then 1 else 0)
 | .int a,.int b=>a==b
 | .str a,.str b=>a==b
 | _,_=>pc
noncomputable def inD(x:D)(ds:T0 D):Bool:=ds.any λy=>Q2 y x
noncomputable def Nm(M:Mp):D->Option (T0 D)
 | .tup ds=>ga ds
 | .ref a=>oU M a
 | .rl ds=>ga ds
 | _=>Fa
noncomputable def DX(i j:Str):Bool:=!(Builtin.Str.occurrences j i 0 j.length 1).isEmpty
def UF(ZW:Bool)(x y:D)(M:Mp)(Q:DK):Prop:=match x,y with
 | .str i,.str j=>Q (.bl (if ZW then !DX i j else DX i j)) M
 | _,_=>(Nm M y).elim False λds=>vt x=Db/\ds.all vt=Db/\Q (.bl (if ZW then !inD x ds else inD x ds)) M
def Lu(op:CmpOp)(x y:D)(M:Mp)(Q:DK):Prop:=match op with
 | .Eq=>(wg M 9 x y).elim False λb=>Q (.bl b) M
 | .NotEq=>(wg M 9 x y).elim False λb=>Q (.bl (!b)) M
 | .Lt=>match x,y with|.int i,.int j=>Q (.bl (decide (i<j))) M|_,_=>False
 | .LtE=>match x,y with|.int i,.int j=>Q (.bl (decide (i<=j))) M|_,_=>False
 | .Gt=>match x,y with|.int i,.int j=>Q (.bl (decide (j<i))) M|_,_=>False
 | .GtE=>match x,y with|.int i,.int j=>Q (.bl (decide (j<=i))) M|_,_=>False
 | .Is=>match y with|.mY=>Q (.bl (match x with|.mY=>Db|_=>pc)) M|_=>False
 | .IsNot=>match y with|.mY=>Q (.bl (match x with|.mY=>pc|_=>Db)) M|_=>False
 | .In=>UF pc x y M Q
 | .NotIn=>UF Db x y M Q
def k3(op:CmpOp)(ta tb:T3):T3:=λU M Q=>ta U M λx M1=>tb U M1 λy M2=>Lu op x y M2 Q
def Af(h:sA K H d v)(f:vt d=Db):yV v=Db:=by
 cases d with
 | mY=>rw[h.mW];rfl
 | bl _=>rw[h.mX];rfl
 | int _=>rw[h.int_inv];rfl
 | str _=>rw[h.str_inv];rfl
 | _=>cases f
def JE(h:sA K H d v)(g:sA K H e w)(f:vt d=Db)(f':vt e=Db):O7 v w=Q2 d e:=by
 cases d with
 | mY=>
  rw[h.mW];cases e with
  | mY=>rw[g.mW];rfl
  | bl _=>rw[g.mX];rfl
  | int _=>rw[g.int_inv];rfl
  | str _=>rw[g.str_inv];rfl
  | _=>cases f'
 | bl _=>
  rw[h.mX];cases e with
  | mY=>rw[g.mW];rfl
  | bl _=>rw[g.mX];rfl
  | int _=>rw[g.int_inv];rfl
  | str _=>rw[g.str_inv];rfl
  | _=>cases f'
 | int _=>
  rw[h.int_inv];cases e with
  | mY=>rw[g.mW];rfl
  | bl _=>rw[g.mX];rfl
  | int _=>rw[g.int_inv];rfl
  | str _=>rw[g.str_inv];rfl
  | _=>cases f'
 | str _=>
  rw[h.str_inv];cases e with
  | mY=>rw[g.mW];rfl
  | bl _=>rw[g.mX];rfl
  | int _=>rw[g.int_inv];rfl
  | str _=>rw[g.str_inv];rfl
  | _=>cases f'
 | _=>cases f
theorem Fs:∀{ds:T0 D} {xs:T0 V},qF K H ds xs->ds.all vt=Db->xs.all yV=Db
 | [],_,h,_=>by rw[h.nil_inv];rfl
 | d::ds,_,h,f=>by obtain⟨x,r,rfl,h1,h2⟩:=h.inv;rw[fv,dY]at f ⊢;exact⟨Af h1 f.1,Fs h2 f.2⟩
theorem Nr(g:sA K H e w)(f':vt e=Db):∀{ds:T0 D} {xs:T0 V},qF K H ds xs->ds.all vt=Db->inV w xs=inD e ds
 | [],_,h,_=>by rw[h.nil_inv];rfl
 | d::ds,_,h,f=>by obtain⟨x,r,rfl,h1,h2⟩:=h.inv;rw[fv,dY]at f;show(O7 x w||inV w r)=(Q2 d e||inD e ds);rw[JE h1 g f.1 f',Nr g f' h2 f.2]
def Fm(hm:HM K H M){y:D}{v:V}{ds:T0 D}(h:sA K H y v)(q:Nm M y=ga ds):∃p xs,v=.ref p/\(xW K H p xs\/wm K H p xs)/\qF K H ds xs:=by
 cases y with
 | tup es=>cases q;obtain⟨a,xs,rfl,h1,h2⟩:=h.m7;exact⟨a,xs,Z',.inr h1,h2⟩
 | ref a=>cases h.mU;obtain⟨xs,h1,h2,_⟩:=qx hm q;exact⟨a,xs,Z',.inl h1,h2⟩
 | rl es=>cases q;obtain⟨a,xs,rfl,h1,h2⟩:=h.ny;exact⟨a,xs,Z',.inl h1.sq,h2⟩
 | _=>cases q
variable {c:Go}{tc:T3}
section
def K6(op:CmpOp)(hu:X.A.units+9<XXa):yC X (Op op) (R3 X.K (Lu op)):=by
 intro Yj s Y H vx vy v u Q' I rx ry h;obtain⟨x,y,M,Q,hx,hy,hm,q,k⟩:=h;have bk:∀b,Q (.bl b) M->EP X Yj Y Q' (.bool b) s:=λb q=>⟨.bl b,H,I,Z',k _ _ _ _ .bl hm .refl q⟩;have inn:∀ZW:Bool,((Nm M y).elim False λds=>vt x=Db/\ds.all vt=Db/\Q (.bl (if ZW then !inD x ds else inD x ds)) M)->WX X.K ZW vx vy H Q':=λZW q=>by obtain⟨ds,e,f1,f2,q⟩:=rD q;obtain⟨p,xs,rfl,h1,h2⟩:=Fm hm hy e;refine⟨p,xs,Z',h1,Af hx f1,Fs h2 f2,?_⟩;rw[Nr hx f1 h2 f2];exact k _ _ _ _ .bl hm .refl q
 cases op with
 | Eq=>obtain⟨b,e,q⟩:=rD q;exact(Gw I hm 9 X.A x y b vx vy v u hu e hx hy rx ry).1 _ _ _ _ (bk b q)
 | NotEq=>obtain⟨b,e,q⟩:=rD q;exact(Gw I hm 9 X.A x y b vx vy v u hu e hx hy rx ry).2.2 _ _ _ _ (bk _ q)
 | Lt=>
  cases x<;>first|exact q.elim|skip
  cases y<;>first|exact q.elim|skip
  cases hx.int_inv;cases hy.int_inv;exact Wl Yj s Y H _ _ v u Q' I rx ry ⟨_,_,Z',Z',k _ _ _ _ .bl hm .refl q⟩
 | LtE=>
  cases x<;>first|exact q.elim|skip
  cases y<;>first|exact q.elim|skip
  cases hx.int_inv;cases hy.int_inv;exact U' Yj s Y H _ _ v u Q' I rx ry ⟨_,_,Z',Z',k _ _ _ _ .bl hm .refl q⟩
 | Gt=>
  cases x<;>first|exact q.elim|skip
  cases y<;>first|exact q.elim|skip
  cases hx.int_inv;cases hy.int_inv;exact Ws Yj s Y H _ _ v u Q' I rx ry ⟨_,_,Z',Z',k _ _ _ _ .bl hm .refl q⟩
 | GtE=>
  cases x<;>first|exact q.elim|skip
  cases y<;>first|exact q.elim|skip
  cases hx.int_inv;cases hy.int_inv;exact VH Yj s Y H _ _ v u Q' I rx ry ⟨_,_,Z',Z',k _ _ _ _ .bl hm .refl q⟩
 | Is=>
  cases y<;>first|exact q.elim|skip
  cases hy.mW;refine Te Yj s Y H _ _ v u Q' I rx ry ⟨Z',k _ _ _ _ ?_ hm .refl q⟩;cases x with
  | mY=>rw[hx.mW];exact .bl
  | bl _=>rw[hx.mX];exact .bl
  | int _=>rw[hx.int_inv];exact .bl
  | str _=>rw[hx.str_inv];exact .bl
  | tup _=>obtain⟨a,xs,rfl,_⟩:=hx.m7;exact .bl
  | ref _=>rw[hx.mU];exact .bl
  | ty _=>rw[hx.oh];exact .bl
  | rl _=>obtain⟨a,xs,rfl,_⟩:=hx.ny;exact .bl
 | IsNot=>
  cases y<;>first|exact q.elim|skip
  cases hy.mW;refine Qd Yj s Y H _ _ v u Q' I rx ry ⟨Z',k _ _ _ _ ?_ hm .refl q⟩;cases x with
  | mY=>rw[hx.mW];exact .bl
  | bl _=>rw[hx.mX];exact .bl
  | int _=>rw[hx.int_inv];exact .bl
  | str _=>rw[hx.str_inv];exact .bl
  | tup _=>obtain⟨a,xs,rfl,_⟩:=hx.m7;exact .bl
  | ref _=>rw[hx.mU];exact .bl
  | ty _=>rw[hx.oh];exact .bl
  | rl _=>obtain⟨a,xs,rfl,_⟩:=hx.ny;exact .bl
 | In=>
  have q:UF pc x y M Q:=q;unfold UF at q;split at q
  .cases hx.str_inv;cases hy.str_inv;exact K8 Yj s Y H _ _ v u Q' I rx ry ⟨_,_,Z',Z',k _ _ _ _ .bl hm .refl q⟩
  .exact LR Yj s Y H _ _ v u Q' I rx ry (inn pc q)
 | NotIn=>
  have q:UF Db x y M Q:=q;unfold UF at q;split at q
  .cases hx.str_inv;cases hy.str_inv;exact E8 Yj s Y H _ _ v u Q' I rx ry ⟨_,_,Z',Z',k _ _ _ _ .bl hm .refl q⟩
  .exact Gm Yj s Y H _ _ v u Q' I rx ry (inn Db q)
variable {a b:Go}
def qE{op:CmpOp}(hu:X.A.units+9<XXa)(ha:E3 X a ta)(hb:E3 X b tb)(hm:AT op b=pc:=by first|exact Ib _|with_unfolding_all rfl):E3 X (.Compare a [op] [b] pos) (k3 op ta tb):=PE.mono (JB (K6 op hu) ha hb hm) IJ
def b3(t:T3):Bm:=λU M Q=>t U M λd M1=>match d with|.bl c=>Q c M1|_=>False
def vE(h:E3 X e t)(he:∀YS,isTrue e X.env YS=(do let v<-YS;XXd e.pos;sB [v] (truthy v)):=by intro _;rfl):B3 X e (b3 t):=PT.mono (S7 h he) λY H Q' zz=>x7 zz λU M Q hs hm ht k=>
 ⟨U,M,_,hs,hm,ht,λv H1 d M1 hd Yl e1 q1=>by
  cases d with
  | bl c=>exact⟨c,hd.mX,k c H1 M1 Yl e1 q1⟩
  | _=>exact q1.elim⟩
def pX{op:CmpOp}(hu:X.A.units+9<XXa)(ha:E3 X a ta)(hb:E3 X b tb)(hm:AT op b=pc:=by first|exact Ib _|with_unfolding_all rfl):B3 X (.Compare a [op] [b] pos) (b3 (k3 op ta tb)):=PT.mono (Jz (K6 op hu) ha hb hm) λY H Q' zz=>x7 zz λU M Q hs hm ht k=>
 IJ Y H _ ⟨U,M,_,hs,hm,ht,λv H1 d M1 hd Yl e1 q1=>by
  cases d with
  | bl c=>exact⟨c,hd.mX,k c H1 M1 Yl e1 q1⟩
  | _=>exact q1.elim⟩
end
variable {tA tB:Bm}{rest:T0 Go}
section
variable {a b:Go}
def QZ(t u:Bm):Bm:=λU M Q=>t U M λc M1=>if c=Db then u U M1 Q else Q pc M1
def X7(t u:Bm):Bm:=λU M Q=>t U M λc M1=>if c=Db then Q Db M1 else u U M1 Q
def Vw(t:Bm):Bm:=λU M Q=>t U M λc M1=>Q (!c) M1
def W3(X:Cx)(e:Go)(t:Bm):Prop:=PW X e (UK X.K t)
def PW.mono{t t':TT}(h:PW X e t)(m:∀Y H Q,t' Y H Q->t Y H Q):PW X e t':=λwh Yj s Y H Q I q=>h wh Yj s Y H Q I (m Y H Q q)
def W3.b3(h:W3 X e t):B3 X e t:=PW.pt h
def yD(h:B3 X a tA):W3 X (.BoolOp .And [a] pos) tA:=Po h
def xx(h:B3 X a tA):W3 X (.BoolOp .Or [a] pos) tA:=UA h
def zc(ha:B3 X a tA)(hb:W3 X (.BoolOp .And (b::rest) pos) tB):W3 X (.BoolOp .And (a::b::rest) pos) (QZ tA tB):=PW.mono (TR ha hb) λY H Q' zz=>x7 zz λU M Q hs hm ht k=>
 ⟨U,M,_,hs,hm,ht,λc H1 M1 Yl e1 q1=>by
  cases c with
  | true=>exact(dh Z').mpr ⟨U,M1,Q,hs.mono e1,Yl,(dh Z').mp q1,λb H' M' x1 x2 x3=>k b H' M' x1 (e1.trans x2) x3⟩
  | false=>exact(df dE).mpr (k pc H1 M1 Yl e1 ((df dE).mp q1))⟩
def xQ(ha:B3 X a tA)(hb:W3 X (.BoolOp .Or (b::rest) pos) tB):W3 X (.BoolOp .Or (a::b::rest) pos) (X7 tA tB):=PW.mono (VA ha hb) λY H Q' zz=>x7 zz λU M Q hs hm ht k=>
 ⟨U,M,_,hs,hm,ht,λc H1 M1 Yl e1 q1=>by
  cases c with
  | true=>exact(dh Z').mpr (k Db H1 M1 Yl e1 ((dh Z').mp q1))
  | false=>exact(df dE).mpr ⟨U,M1,Q,hs.mono e1,Yl,(df dE).mp q1,λb H' M' x1 x2 x3=>k b H' M' x1 (e1.trans x2) x3⟩⟩
def yb(ha:B3 X a tA):B3 X (.UnaryOp .Not a pos) (Vw tA):=PT.mono (TC ha) λY H Q' zz=>x7 zz λU M Q hs hm ht k=>⟨U,M,_,hs,hm,ht,λc H1 M1 Yl e1 q1=>k _ H1 M1 Yl e1 q1⟩
def VP(ta tb:T3):T3:=λU M Q=>ta U M λd M1=>match d with|.bl c=>if c=Db then tb U M1 Q else Q (.bl pc) M1|_=>False
def XH(ta tb:T3):T3:=λU M Q=>ta U M λd M1=>match d with|.bl c=>if c=Db then Q (.bl Db) M1 else tb U M1 Q|_=>False
def UR(ta:T3):T3:=λU M Q=>ta U M λd M1=>match d with|.bl c=>Q (.bl (!c)) M1|_=>False
def tP{op}(h:E3 X a ta):E3 X (.BoolOp op [a] pos) ta:=SZ h
def uc(ha:E3 X a ta)(hb:E3 X (.BoolOp .And (b::rest) pos) tb):E3 X (.BoolOp .And (a::b::rest) pos) (VP ta tb):=PE.mono (UB ha hb) λY H Q' zz=>x7 zz λU M Q hs hm ht k=>
 ⟨U,M,_,hs,hm,ht,λv H1 d M1 hd Yl e1 q1=>by
  cases d with
  | bl c=>
   refine⟨c,hd.mX,?_⟩;cases c with
   | true=>exact(dh Z').mpr ⟨U,M1,Q,hs.mono e1,Yl,(dh Z').mp q1,vH e1 k⟩
   | false=>exact(df dE).mpr (k _ H1 _ M1 .bl Yl e1 ((df dE).mp q1))
  | _=>exact q1.elim⟩
def JK(ha:E3 X a ta)(hb:E3 X (.BoolOp .Or (b::rest) pos) tb):E3 X (.BoolOp .Or (a::b::rest) pos) (XH ta tb):=PE.mono (UU ha hb) λY H Q' zz=>x7 zz λU M Q hs hm ht k=>
 ⟨U,M,_,hs,hm,ht,λv H1 d M1 hd Yl e1 q1=>by
  cases d with
  | bl c=>
   refine⟨c,hd.mX,?_⟩;cases c with
   | true=>exact(dh Z').mpr (k _ H1 _ M1 .bl Yl e1 ((dh Z').mp q1))
   | false=>exact(df dE).mpr ⟨U,M1,Q,hs.mono e1,Yl,(df dE).mp q1,vH e1 k⟩
  | _=>exact q1.elim⟩
def Ts(ha:E3 X a ta):E3 X (.UnaryOp .Not a pos) (UR ta):=PE.mono (UG ha) λY H Q' zz=>x7 zz λU M Q hs hm ht k=>
 ⟨U,M,_,hs,hm,ht,λv H1 d M1 hd Yl e1 q1=>by
  cases d with
  | bl c=>exact⟨c,hd.mX,k _ H1 _ M1 .bl Yl e1 q1⟩
  | _=>exact q1.elim⟩
def Yb(t:Bm)(ta tb:T3):T3:=λU M Q=>t U M λc M1=>if c=Db then ta U M1 Q else tb U M1 Q
def RW(hc:B3 X c tA)(ha:E3 X a ta)(hb:E3 X b tb):E3 X (.IfExp c a b pos) (Yb tA ta tb):=PE.mono (ME hc ha hb) λY H Q' zz=>x7 zz λU M Q hs hm ht k=>
 ⟨U,M,_,hs,hm,ht,λc H1 M1 Yl e1 q1=>by
  cases c with
  | true=>exact(dh Z').mpr ⟨U,M1,Q,hs.mono e1,Yl,(dh Z').mp q1,vH e1 k⟩
  | false=>exact(df dE).mpr ⟨U,M1,Q,hs.mono e1,Yl,(df dE).mp q1,vH e1 k⟩⟩
def WT(x y:D)(M:Mp)(Q:DK):Prop:=match x,y with
 | .tup ds,.int i=>(wY ds i).elim False λd=>Q d M
 | .ref a,.int i=>(oU M a).elim False λds=>(wY ds i).elim False λd=>Q d M
 | .rl ds,.int i=>(wY ds i).elim False λd=>Q d M
 | .str z,.int i=>z.length<=Ch/\(wY z.cps.toList i).elim False λc=>Q (.str ⟨#[c]⟩) M
 | _,_=>False
def i3(ta tb:T3):T3:=λU M Q=>ta U M λx M1=>tb U M1 λy M2=>WT x y M2 Q
def FQ{K:qJ}{d:D}(h:qF K H ds xs)(e:wY ds i=ga d):∃v,wY xs i=ga v/\sA K H d v:=by
 unfold wY at e ⊢;rw[<-h.length];cases q:Gc ds.length i with
 | none=>rw[q]at e;cases e
 | some j=>rw[q]at e;exact h.get e
def Ya:UI X (R3 X.K WT):=by
 intro value Yx Yj s Y H vx vy v u Q' I rx ry h hs;obtain⟨x,y,M,Q,hx,hy,hm,q,k⟩:=h;unfold WT at q;split at q
 .obtain⟨d,e,q⟩:=rD q;obtain⟨p,xs,rfl,h1,h2⟩:=hx.m7;cases hy.int_inv;obtain⟨w,e1,e2⟩:=FQ h2 e;exact Uz value Yx Yj s Y H _ _ v u Q' I rx ry ⟨p,xs,_,w,Z',Z',h1,e1,k _ _ _ _ e2 hm .refl q⟩ hs
 .obtain⟨ds,e0,q⟩:=rD q;obtain⟨d,e,q⟩:=rD q;cases hx.mU;cases hy.int_inv;obtain⟨xs,h1,h2,_⟩:=qx hm e0;obtain⟨w,e1,e2⟩:=FQ h2 e;exact Kt value Yx Yj s Y H _ _ v u Q' I rx ry ⟨_,xs,_,w,Z',Z',h1,e1,k _ _ _ _ e2 hm .refl q⟩ hs
 .obtain⟨d,e,q⟩:=rD q;obtain⟨p,xs,rfl,h1,h2⟩:=hx.ny;cases hy.int_inv;obtain⟨w,e1,e2⟩:=FQ h2 e;exact Kt value Yx Yj s Y H _ _ v u Q' I rx ry ⟨p,xs,_,w,Z',Z',h1.sq,e1,k _ _ _ _ e2 hm .refl q⟩ hs
 .obtain⟨q1,q⟩:=q;obtain⟨c,e,q⟩:=rD q;cases hx.str_inv;cases hy.int_inv;exact T5 value Yx Yj s Y H _ _ v u Q' I rx ry ⟨_,_,c,Z',Z',q1,e,k _ _ _ _ .str hm .refl q⟩ hs
 .exact q.elim
def pZ(ha:E3 X a ta)(hb:E3 X b tb)(hs:B1 b:=by exact λ_ _=>rfl):E3 X (.Subscript a b pos) (i3 ta tb):=PE.mono (O4 Ya ha hb hs) IJ
noncomputable def vB(ds:T0 D)(lo hi:Option Int):T0 D:=(ds.drop (HT.ua ds.length 0 lo)).take (HT.ua ds.length ds.length hi - HT.ua ds.length 0 lo)
def Ge{K:qJ}(q:qF K H ds xs):qF K H (vB ds l h) (CT xs l h):=by unfold vB CT;rw[q.length];exact(q.drop _).take _
abbrev UJ:=vT->Mp->(Option Int->Mp->Prop)->Prop
def Yf(K:qJ)(t:UJ):TO:=λY H Q'=>D4 λU M Q=>AG K H Y U/\HM K H M/\t U M Q/\∀o H' M',HM K H' M'->rC K H H'->Q o M'->Q' o H'
def O3(X:Cx)(e:Option Go)(t:UJ):Prop:=PO X e (Yf X.K t)
def Qp:UJ:=λ_ M Q=>Q Fa M
def Wt(t:T3):UJ:=λU M Q=>t U M λd M1=>match d with|.int i=>Q (ga i) M1|_=>False
def PO.mono{t t':TO}(h:PO X e t)(m:∀Y H Q,t' Y H Q->t Y H Q):PO X e t':=λYj s Y H Q I q=>h Yj s Y H Q I (m Y H Q q)
def uk:O3 X Fa Qp:=PO.mono QL λY H Q' zz=>x7 zz λU M Q hs hm ht k=>k Fa H M hm .refl ht
def ur(h:E3 X e t):O3 X (ga e) (Wt t):=PO.mono (Qz h) λY H Q' zz=>x7 zz λU M Q hs hm ht k=>
 ⟨U,M,_,hs,hm,ht,λv H1 d M1 hd Yl e1 q1=>by
  cases d with
  | int i=>exact⟨i,hd.int_inv,k (ga i) H1 M1 Yl e1 q1⟩
  | _=>exact q1.elim⟩
def XT(x:D)(lo hi:Option Int)(M:Mp)(Q:DK):Prop:=match x with
 | .tup ds=>Q (.tup (vB ds lo hi)) M
 | .ref a=>(oU M a).elim False λds=>∀p,M p=Fa->Q (.ref p) (pT M p (.lst (vB ds lo hi)))
 | .rl ds=>∀p,M p=Fa->Q (.ref p) (pT M p (.lst (vB ds lo hi)))
 | _=>False
def s3(te:T3)(tl th:UJ):T3:=λU M Q=>te U M λx M1=>tl U M1 λl M2=>th U M2 λu M3=>XT x l u M3 Q
def Xs(K:qJ):V->Option Int->Option Int->Hp->VK->Prop:=λvx l u H Q'=>D4 λx M Q=>sA K H x vx/\HM K H M/\XT x l u M Q/\Up K H Q' Q
def Pv{ds:T0 D}{lo hi:Option Int}(h:HT.ua ds.length 0 lo=0/\HT.ua ds.length ds.length hi=ds.length):vB ds lo hi=ds:=by unfold vB;rw[h.1,h.2,kq,lh,fh]
def WZ:Vc X (Xs X.K):=by
 intro Yj s Y H vx v vl vu l u sl Q' I rx hsl pl pu h;obtain⟨x,M,Q,hx,hm,q,k⟩:=h;cases x with
 | tup ds=>
  have q2:Q (.tup (vB ds l u)) M:=q;obtain⟨a,xs,rfl,h1,h2⟩:=hx.m7;by_cases q1:HT.ua ds.length 0 l=0/\HT.ua ds.length ds.length u=ds.length
  .rw[Pv q1]at q2;exact Ug Yj s Y H _ v vl vu l u sl Q' I rx hsl pl pu ⟨a,xs,Z',h1,by rw[<-h2.length];exact q1,k _ _ _ _ hx hm .refl q2⟩
  refine SN Yj s Y H _ v vl vu l u sl Q' I rx hsl pl pu ⟨a,xs,Z',h1,by rw[<-h2.length];exact q1,λp hp=>?_⟩;have e:rC X.K H (upd H p (.tup (CT xs l u))):=.new hp;exact k _ _ _ _ (.tup (.of qC) ((Ge h2).mono e)) (hm.add hp) e q2
 | ref a=>obtain⟨ds,e0,q⟩:=rD q;cases hx.mU;obtain⟨xs,h1,h2,_⟩:=qx hm e0;refine Ks Yj s Y H _ v vl vu l u sl Q' I rx hsl pl pu ⟨a,xs,Z',h1,λp hp=>?_⟩;have e:rC X.K H (upd H p (.lst (CT xs l u))):=.new hp;exact k _ _ _ _ .ref (hm.new (c:=.lst (vB ds l u)) hp ⟨_,qC,(Ge h2).mono e⟩) e (q p (hm.fresh hp))
 | rl ds=>obtain⟨a,xs,rfl,h1,h2⟩:=hx.ny;refine Ks Yj s Y H _ v vl vu l u sl Q' I rx hsl pl pu ⟨a,xs,Z',h1.sq,λp hp=>?_⟩;have e:rC X.K H (upd H p (.lst (CT xs l u))):=.new hp;exact k _ _ _ _ .ref (hm.new (c:=.lst (vB ds l u)) hp ⟨_,qC,(Ge h2).mono e⟩) e (q p (hm.fresh hp))
 | _=>exact q.elim
def tH{lo hi:Option Go}{p2:Pos}(he:E3 X e te)(hl:O3 X lo tl)(hu:O3 X hi th):E3 X (.Subscript e (.Slice lo hi Fa p2) pos) (s3 te tl th):=PE.mono (NH WZ he hl hu) λY H Q' zz=>x7 zz λU M Q hs hm ht k=>⟨U,M,_,hs,hm,ht,λv H1 x M1 hx Yl e1 q1=>⟨U,M1,_,hs.mono e1,Yl,q1,λl H2 M2 YB e2 q2=>⟨U,M2,_,hs.mono (e1.trans e2),YB,q2,λu H3 M3 Zi e3 q3=>⟨x,M3,Q,hx.mono (e2.trans e3),Zi,q3,vH (e1.trans (e2.trans e3)) k⟩⟩⟩⟩
def xS:xA:=λ_ M Q=>Q [] M
def wk(ta:T3)(tr:xA):xA:=λU M Q=>ta U M λx M1=>tr U M1 λxs M2=>Q (x::xs) M2
def sT:A3 X [] xS:=PA.mono SQ λY H Q' zz=>x7 zz λU M Q hs hm ht k=>k [] H [] M .nil hm .refl ht
def qw(ha:E3 X e te)(hr:A3 X es t)(hs:BN X e es:=by rfl):A3 X (e::es) (wk te t):=PA.mono (Rv ha hr hs) λY H Q' zz=>x7 zz λU M Q hs hm ht k=>⟨U,M,_,hs,hm,ht,λv H1 x M1 hx Yl e1 q1=>⟨U,M1,_,hs.mono e1,Yl,q1,λvs H2 xs M2 hxs YB e2 q2=>k _ H2 _ M2 (.cons (hx.mono e2) hxs) YB (e1.trans e2) q2⟩⟩
def Xt(t:xA):T3:=λU M Q=>t U M λds M1=>ds.length<=Ch/\Q (.tup ds) M1
def V4(t:xA):T3:=λU M Q=>t U M λds M1=>ds.length<=Ch/\∀p,M1 p=Fa->Q (.ref p) (pT M1 p (.lst ds))
def qe{x1}(h:A3 X es t):E3 X (.Tuple es x1 pos) (Xt t):=PE.mono (Sj h) λY H Q' zz=>x7 zz λU M Q hs hm ht k=>
 ⟨U,M,_,hs,hm,ht,λvs H1 ds M1 ZE Yl e1 q1=>⟨by rw[<-ZE.length];exact q1.1,λp hp=>by
  have e:rC X.K H1 (upd H1 p (.tup vs)):=.new hp;exact k _ _ _ M1 (.tup (.of qC) (ZE.mono e)) (Yl.add hp) (e1.trans e) q1.2⟩⟩
def qX(h:A3 X es t):E3 X (.List es pos) (V4 t):=PE.mono (Sy h) λY H Q' zz=>x7 zz λU M Q hs hm ht k=>
 ⟨U,M,_,hs,hm,ht,λvs H1 ds M1 ZE Yl e1 q1=>⟨by rw[<-ZE.length];exact q1.1,λp hp=>by
  have e:rC X.K H1 (upd H1 p (.lst vs)):=.new hp;exact k _ _ _ _ .ref (Yl.new (c:=.lst ds) hp ⟨_,qC,ZE.mono e⟩) (e1.trans e) (q1.2 p (Yl.fresh hp))⟩⟩
def vc(t u:xX):xX:=λD U M=>t {D with nx:=u D} U M
def WD:xX:=λD U M=>D.nx U M
def qa:HY X [] WD:=Dd.mono PN λD' Y H zz=>L1 zz λU M D hs hm ht k1 k2 k3 k4=>k1 Y H U M hs hm .refl Z' ht
def pL{st:ZB}{rest:T0 ZB}(h1:S3 X st t)(h2:HY X rest u):HY X (st::rest) (vc t u):=Dd.mono (Mf h1 h2) λD' Y H zz=>L1 zz λU M D hs hm ht k1 k2 k3 k4=>
 ⟨U,M,{D with nx:=u D},hs,hm,ht,λσ1 H1 δ1 M1 hs1 Yl e1 l1 q1=>⟨δ1,M1,D,hs1,Yl,q1,λσ' H' δ' M' x1 x2 x3 x4 x5=>k1 σ' H' δ' M' x1 x2 (e1.trans x3) (x4.trans l1) x5,λv H' d M' x1 x2 x3 x4=>k2 v H' d M' x1 x2 (e1.trans x3) x4,λσ' H' δ' M' x1 x2 x3 x4 x5=>k3 σ' H' δ' M' x1 x2 (e1.trans x3) (x4.trans l1) x5,λσ' H' δ' M' x1 x2 x3 x4 x5=>k4 σ' H' δ' M' x1 x2 (e1.trans x3) (x4.trans l1) x5⟩,k2,k3,k4⟩
def pM{st:ZB}(h1:S3 X st t):HY X [st] t:=Dd.mono (KF h1) λD' Y H h=>h
def UP(te:T3):xX:=λD U M=>te U M λ_ M1=>D.nx U M1
def qd(he:E3 X e te)(ZT:wE e Fa pos.line X.env=pure pc:=by rfl):S3 X (.Expr e pos) (UP te):=PS.mono (PK he ZT) λD' Y H zz=>L1 zz λU M D hs hm ht k1 k2 k3 k4=>⟨U,M,_,hs,hm,ht,λv H1 d M1 hd Yl e1 q1=>k1 Y H1 U M1 (hs.mono e1) Yl e1 Z' q1⟩
def So(te:T3):xX:=λD U M=>te U M D.rt
def pU(he:E3 X e te):S3 X (.Return (ga e) pos) (So te):=PS.mono (Uh he) λD' Y H zz=>L1 zz λU M D hs hm ht k1 k2 k3 k4=>⟨U,M,_,hs,hm,ht,λv H1 d M1 hd Yl e1 q1=>k2 v H1 d M1 hd Yl e1 q1⟩
def QA(c:Bm)(t u:xX):xX:=λD U M=>c U M λb M1=>if b=Db then t D U M1 else u D U M1
def qh{tc:Bm}(hc:B3 X c tc)(ha:HY X as t)(hb:HY X bs u):S3 X (.If c as bs pos) (QA tc t u):=PS.mono (Wr hc ha hb) λD' Y H zz=>L1 zz λU M D hs hm ht k1 k2 k3 k4=>
 ⟨U,M,_,hs,hm,ht,λb H1 M1 Yl e1 q1=>by
  have up:∀t:xX,t D U M1->Wz X.K t D' Y H1:=λt q=>⟨U,M1,D,hs.mono e1,Yl,q,λσ' H' δ' M' x1 x2 x3 x4 x5=>k1 σ' H' δ' M' x1 x2 (e1.trans x3) x4 x5,λv H' d M' x1 x2 x3 x4=>k2 v H' d M' x1 x2 (e1.trans x3) x4,λσ' H' δ' M' x1 x2 x3 x4 x5=>k3 σ' H' δ' M' x1 x2 (e1.trans x3) x4 x5,λσ' H' δ' M' x1 x2 x3 x4 x5=>k4 σ' H' δ' M' x1 x2 (e1.trans x3) x4 x5⟩
  cases b with
  | true=>exact(dh Z').mpr (up t ((dh Z').mp q1))
  | false=>exact(df dE).mpr (up u ((df dE).mp q1))⟩
def Td:xX:=λ_ _ _=>False
def HP{st:ZB}:S3 X st Td:=PS.mono OU λD' Y H ⟨U,M,D,hs,hm,ht,_⟩=>ht
abbrev Et:=D->vT->Mp->(vT->Mp->Prop)->Prop
def Wy(K:qJ)(g:Et):TG:=λv Y H Q'=>B0 λd U M Q=>sA K H d v/\AG K H Y U/\HM K H M/\g d U M Q/\∀σ' H' δ' M',AG K H' σ' δ'->HM K H' M'->rC K H H'->σ'.length=Y.length->Q δ' M'->Q' σ' H'
def G3(X:Cx)(e:Go)(g:Et):Prop:=PG X e (Wy X.K g)
def PG.og{t t':TG}(h:PG X e t)(m:∀v Y H Q,Y.length=X.N.length->t' v Y H Q->t v Y H Q):PG X e t':=λYj s Y H v u Q I r q=>h Yj s Y H v u Q I r (m v Y H Q I.len q)
def rH(i:Nat):Et:=λd U M Q=>Q (U.set i (ga d)) M
def JX{i:Nat}{x:Str}(hN:X.N.Nodup)(hi:X.N[i]?=ga x)(hx:L0 X.env.scope x)(hf:L4 X x:=by first|exact .inl Z'|exact .inr Z'|assumption):G3 X (.Name x pos) (rH i):=
 PG.og (P6 hN hi hx hf) λv Y H Q' hl ⟨d,U,M,Q,hd,hs,hm,ht,k⟩=>k _ H _ M (hs.set hd (by rw[hl];exact(de.mp hi).1)) hm .refl (by simp) ht
abbrev HR:=T0 D->vT->Mp->(vT->Mp->Prop)->Prop
def XG(K:qJ)(g:HR):QR:=λvs Y H Q'=>B0 λds U M Q=>qF K H ds vs/\AG K H Y U/\HM K H M/\g ds U M Q/\∀σ' H' δ' M',AG K H' σ' δ'->HM K H' M'->rC K H H'->σ'.length=Y.length->Q δ' M'->Q' σ' H'
def Wu(X:Cx)(es:T0 Go)(g:HR):Prop:=O8 X es (XG X.K g)
def O8.mono{t t':QR}(h:O8 X e t)(m:∀v Y H Q,t' v Y H Q->t v Y H Q):O8 X e t':=λYj s Y H v u Q I r q=>h Yj s Y H v u Q I r (m v Y H Q q)
def PG.mono{t t':TG}(h:PG X e t)(m:∀v Y H Q,t' v Y H Q->t v Y H Q):PG X e t':=λYj s Y H v u Q I r q=>h Yj s Y H v u Q I r (m v Y H Q q)
def Cj:HR:=λds U M Q=>match ds with|[]=>Q U M|_=>False
def yg(t:Et)(u:HR):HR:=λds U M Q=>match ds with|d::r=>t d U M λδ' M'=>u r δ' M' Q|[]=>False
def tZ:Wu X [] Cj:=O8.mono Qo λvs Y H Q' ⟨ds,U,M,Q,hd,hs,hm,ht,k⟩=>by
 cases ds with
 | nil=>exact⟨hd.nil_inv,k Y H U M hs hm .refl Z' ht⟩
 | cons _ _=>exact ht.elim
def qK(h1:G3 X e t)(h2:Wu X es u)(hs:(wP (e::es) X.env).map (·.2)=assign e X.env::(wP es X.env).map (·.2):=by rfl):Wu X (e::es) (yg t u):=
 O8.mono (Mv h1 h2 hs) λvs Y H Q' ⟨ds,U,M,Q,hd,hs,hm,ht,k⟩=>by
 cases ds with
 | nil=>exact ht.elim
 | cons d r=>obtain⟨x,xr,rfl,hx,hr⟩:=hd.inv;exact⟨x,xr,Z',d,U,M,_,hx,hs,hm,ht,λσ1 H1 δ1 M1 hs1 Yl e1 l1 q1=>⟨r,δ1,M1,Q,hr.mono e1,hs1,Yl,q1,λσ' H' δ' M' x1 x2 x3 x4 x5=>k σ' H' δ' M' x1 x2 (e1.trans x3) (x4.trans l1) x5⟩⟩
def RP(n:Nat)(t:HR):Et:=λd U M Q=>match d with|.tup ds=>ds.length=n/\t ds U M Q|_=>False
def uV{n:Nat}(hc:X.calm=Db)(h:Wu X es t)(hn:(wP es X.env).length=n:=by rfl)(YG:(wP es X.env).findIdx? (·.1)=Fa:=by rfl):G3 X (.Tuple es k pos) (RP n t):=
 PG.mono (Uo hc h hn YG) λv Y H Q' ⟨d,U,M,Q,hd,hs,hm,ht,k⟩=>by
 cases d with
 | tup ds=>obtain⟨a,xs,rfl,h1,h2⟩:=hd.m7;exact⟨a,xs,Z',h1,by rw[<-h2.length];exact ht.1,ds,U,M,Q,h2,hs,hm,ht.2,k⟩
 | _=>exact ht.elim
def G1(te:T3)(g:Et):xX:=λD U M=>te U M λx M1=>g x U M1 D.nx
def Tt(he:E3 X e te)(hg:G3 X tg g)(hs:swapsWithSole [tg] e pos.line X.env=pure pc:=by rfl)(hw:swappedStores [tg] e X.env=pure Fa:=by rfl)
  (h1:(wP [tg] X.env).map (·.2)=[assign tg X.env]:=by rfl):S3 X (.Assign [tg] e pos) (G1 te g):=PS.mono (Ut he hg hs hw h1) λD' Y H zz=>L1 zz λU M D hs hm ht k1 k2 k3 k4=>
 ⟨U,M,_,hs,hm,ht,λv H1 d M1 hd Yl e1 q1=>⟨d,U,M1,_,hd,hs.mono e1,Yl,q1,λσ' H' δ' M' x1 x2 x3 x4 x5=>k1 σ' H' δ' M' x1 x2 (e1.trans x3) x4 x5⟩⟩
def TX{i:Nat}{x:Str}(hN:X.N.Nodup)(hi:X.N[i]?=ga x)(hx:L0 X.env.scope x)(he:E3 X e te)(ZT:wE e (ga (.Name x Yu)) pos.line X.env=pure pc:=by rfl)
  (hf:L4 X x:=by first|exact .inl Z'|exact .inr Z'|assumption):S3 X (.Assign [.Name x Yu] e pos) (G1 te (rH i)):=PS.og (SR hN hi hx he ZT hf) λD' Y H hl zz=>L1 zz λU M D hs hm ht k1 k2 k3 k4=>
 ⟨U,M,_,hs,hm,ht,λv H1 d M1 hd Yl e1 q1=>k1 _ H1 _ M1 ((hs.mono e1).set hd (by rw[hl];exact(de.mp hi).1)) Yl e1 (by simp) q1⟩
end
abbrev rQ:=T0 D->Mp->DK->Prop
def O9(K:qJ)(sp:rQ):Sp:=λvs H Q' _=>D4 λds M Q=>qF K H ds vs/\HM K H M/\sp ds M Q/\Up K H Q' Q
noncomputable def xw(N:QQQ)(ds:T0 D):vT:=ds.map ga++List.replicate (N.length - ds.length) Fa
def ET{K:qJ}(h:qF K H ds vs):AG K H (L2.start N vs) (xw N ds):=λi d q=>by
 unfold xw at q;unfold L2.start;by_cases hi:i<ds.length
 .rw[e9 (by simpa using hi),dG]at q;cases e:ds[i]? with
  | none=>rw[e]at q;cases q
  | some d'=>rw[e]at q;cases q;obtain⟨v,e1,e2⟩:=h.get e;refine⟨v,?_,e2⟩;rw[e9 (by rw[cX,<-h.length];exact hi),dG,e1];rfl
 .rw[eY (by simpa using hi),jT]at q;split at q<;>cases q
variable {P:Pg}{w:Wo}{mg:QQZ}{base:No}
abbrev UN(P:Pg)(w:Wo)(K:qJ)(mg:QQZ)(base:No)(k:Nat)(f:Uf)(fd:Ix)(ps:QQQ)(sp:rQ):Prop:=xU P w K mg base Pa k f fd ps (O9 K sp)
variable {k:Nat}{f C:Uf}{fd:Ix}{ps:QQQ}{sp:rQ}{x m fn:Str}{p Ym:Pos}{e o:Go}{es:T0 Go}{t:xA}
def Ew(sp:rQ)(t:xA):T3:=λU M Q=>t U M λds M1=>sp ds M1 Q
def Q4(F:UN X.prog X.w X.K X.mg X.base k f fd ps sp)(hr:sJ k X.A)(hg:Gl X x)(hm:X.mg x=ga (.ref f))(hk:W.keepIn X.K (.ref f)=Db)(hb:ve X.K fd ps [])(ha:A3 X (e::es) t) (YC:zF x:=by decide) (he:BN X e es:=by rfl) (YA:Cd X pos es:=by rfl):
  E3 X (.Call (.Name x p) (e::es) [] pos) (Ew sp t):=PE.mono (JA F hr hg hm hk hb .nil (HF (X:=X)) ha YC he YA) λY H Q' zz=>x7 zz λU M Q hs hm ht k=>
 ⟨U,M,_,hs,hm,ht,λvs H1 ds M1 hd Yl e1 q1=>⟨ds,M1,Q,by rw[eN];exact hd,Yl,q1,vH e1 k⟩⟩
def C3(X:Cx)(f:Vl)(r:rQ):Prop:=zV X f λvs H Q'=>∃ds M Q,qF X.K H ds vs/\HM X.K H M/\r ds M Q/\Up X.K H Q' Q
def ql{id:String}(hc:C3 X (.builtin id) r)(hg:Gl X x)(hm:X.mg x=Fa)(hv:zn x=ga (.builtin id))(ha:A3 X (e::es) t)(hn:x≠"__name__":=by decide)(YC:zF x:=by decide)
  (he:BN X e es:=by rfl) (YA:Cd X pos es:=by rfl):E3 X (.Call (.Name x p) (e::es) [] pos) (Ew r t):=
 PE.mono (O1 hc hg hm hv ha hn YC he YA) λY H Q' zz=>x7 zz λU M Q hs hm ht k=>⟨U,M,_,hs,hm,ht,λvs H1 ds M1 hd Yl e1 q1=>⟨ds,M1,Q,hd,Yl,q1,vH e1 k⟩⟩
def qr{T:String}(hc:C3 X (.type T) r)(hg:Gl X x)(hm:X.mg x=Fa)(hv:zn x=ga (.type T))(ha:A3 X (e::es) t)(hn:x≠"__name__":=by decide)(YC:zF x:=by decide)
  (he:BN X e es:=by rfl) (YA:Cd X pos es:=by rfl):E3 X (.Call (.Name x p) (e::es) [] pos) (Ew r t):=
 PE.mono (KP hc hg hm hv ha hn YC he YA) λY H Q' zz=>x7 zz λU M Q hs hm ht k=>⟨U,M,_,hs,hm,ht,λvs H1 ds M1 hd Yl e1 q1=>⟨ds,M1,Q,hd,Yl,q1,vH e1 k⟩⟩
def UV(ds:T0 D)(M:Mp)(Q:DK):Prop:=match ds with
 | [.str z]=>z.length<=Ch/\Q (.int z.length) M
 | [.tup es]=>Q (.int es.length) M
 | [.ref a]=>(oU M a).elim False λes=>Q (.int es.length) M
 | [.rl es]=>Q (.int es.length) M
 | _=>False
def tj{K:qJ}{d:D}(h:qF K H [d] vs):∃v,vs=[v]/\sA K H d v:=by obtain⟨x,r,rfl,a,b⟩:=h.inv;rw[b.nil_inv];exact⟨x,Z',a⟩
def Az{K:qJ}{d e:D}(h:qF K H [d,e] vs):∃v u,vs=[v,u]/\sA K H d v/\sA K H e u:=by obtain⟨x,r,rfl,a,b⟩:=h.inv;obtain⟨y,rfl,c⟩:=tj b;exact⟨x,y,Z',a,c⟩
def qR:C3 X (.builtin "len") UV:=by
 intro Yj s Y H vs us Q' I rv h;obtain⟨ds,M,Q,hd,hm,q,k⟩:=h;unfold UV at q;split at q
 .obtain⟨v,rfl,hv⟩:=tj hd;cases hv.str_inv;exact Gy Yj s Y H _ us Q' I rv ⟨_,Z',q.1,k _ _ _ _ .int hm .refl q.2⟩
 .obtain⟨v,rfl,hv⟩:=tj hd;obtain⟨a,xs,rfl,h1,h2⟩:=hv.m7;exact xu Yj s Y H _ us Q' I rv ⟨a,xs,Z',.inr h1,k _ _ _ _ (by rw[<-h2.length];exact .int) hm .refl q⟩
 .obtain⟨v,rfl,hv⟩:=tj hd;obtain⟨es,e0,q⟩:=rD q;cases hv.mU;obtain⟨xs,h1,h2,_⟩:=qx hm e0;exact xu Yj s Y H _ us Q' I rv ⟨_,xs,Z',.inl h1,k _ _ _ _ (by rw[<-h2.length];exact .int) hm .refl q⟩
 .obtain⟨v,rfl,hv⟩:=tj hd;obtain⟨a,xs,rfl,h1,h2⟩:=hv.ny;exact xu Yj s Y H _ us Q' I rv ⟨a,xs,Z',.inl h1.sq,k _ _ _ _ (by rw[<-h2.length];exact .int) hm .refl q⟩
 .exact q.elim
def V7(ds:T0 D)(M:Mp)(Q:DK):Prop:=match ds with
 | [.int i,.int j]=>Q (.int (if j<i then j else i)) M
 | _=>False
def MA(hc:X.calm=Db):C3 X (.builtin "min") V7:=by
 intro Yj s Y H vs us Q' I rv h;obtain⟨ds,M,Q,hd,hm,q,k⟩:=h;unfold V7 at q;split at q
 .obtain⟨v,u,rfl,hv,hw⟩:=Az hd;cases hv.int_inv;cases hw.int_inv;exact LF hc Yj s Y H _ us Q' I rv ⟨_,_,Z',k _ _ _ _ .int hm .refl q⟩
 .exact q.elim
def Oy(ds:T0 D)(M:Mp)(Q:DK):Prop:=match ds with
 | [.tup es]=>Q (.tup es) M
 | [.ref a]=>(oU M a).elim False λes=>Q (.tup es) M
 | [.rl es]=>Q (.tup es) M
 | _=>False
def sY:C3 X (.type "tuple") Oy:=by
 intro Yj s Y H vs us Q' I rv h;obtain⟨ds,M,Q,hd,hm,q,k⟩:=h;unfold Oy at q;split at q
 .obtain⟨v,rfl,hv⟩:=tj hd;obtain⟨a,xs,rfl,h1,h2⟩:=id hv.m7;exact wV Yj s Y H _ us Q' I rv ⟨a,xs,Z',.inr ⟨h1,k _ _ _ _ hv hm .refl q⟩⟩
 .obtain⟨v,rfl,hv⟩:=tj hd;obtain⟨es,e0,q⟩:=rD q;cases hv.mU;obtain⟨xs,h1,h2,_⟩:=qx hm e0;refine wV Yj s Y H _ us Q' I rv ⟨_,xs,Z',.inl ⟨h1,λl hl=>?_⟩⟩;have e:rC X.K H (upd H l (.tup xs)):=.new hl;exact k _ _ _ _ (.tup (.of qC) (h2.mono e)) (hm.add hl) e q
 .obtain⟨v,rfl,hv⟩:=tj hd;obtain⟨a,xs,rfl,h1,h2⟩:=hv.ny;refine wV Yj s Y H _ us Q' I rv ⟨_,xs,Z',.inl ⟨h1.sq,λl hl=>?_⟩⟩;have e:rC X.K H (upd H l (.tup xs)):=.new hl;exact k _ _ _ _ (.tup (.of qC) (h2.mono e)) (hm.add hl) e q
 .exact q.elim
def Sa(ds:T0 D)(M:Mp)(Q:DK):Prop:=match ds with
 | [d]=>(Nm M d).elim False λes=>∀p,M p=Fa->Q (.ref p) (pT M p (.lst es))
 | _=>False
def s8:C3 X (.type "list") Sa:=by
 intro Yj s Y H vs us Q' I rv h;obtain⟨ds,M,Q,hd,hm,q,k⟩:=h;unfold Sa at q;split at q
 .obtain⟨v,rfl,hv⟩:=tj hd;obtain⟨es,e0,q⟩:=rD q;obtain⟨p,xs,rfl,h1,h2⟩:=Fm hm hv e0;refine FO Yj s Y H _ us Q' I rv ⟨p,xs,Z',h1,λl hl=>?_⟩;have e:rC X.K H (upd H l (.lst xs)):=.new hl;exact k _ _ _ _ .ref (hm.new (c:=.lst es) hl ⟨_,qC,h2.mono e⟩) e (q l (hm.fresh hl))
 .exact q.elim
theorem xH{K:qJ}{f:Str}:∀{fs:T0 (Str×D)} {vs:T0 (Str×V)},DH K H fs vs->(∀d,fs.lookup f=ga d->∃v,vs.lookup f=ga v/\sA K H d v)/\(fs.lookup f=Fa->vs.lookup f=Fa)
 | [],[],_=>⟨λd e=>by simp at e,λ_=>rfl⟩
 | [],_::_,h=>by have:=h.1;simp at this
 | _::_,[],h=>by have:=h.1;simp at this
 | (g,d)::fs,(g',v)::vs,h=>by
  have h1:g'=g/\vs.map (·.1)=fs.map (·.1):=by
   have:=h.1
   simpa using this
  obtain⟨x,r,e,a,b⟩:=h.2.inv;have e':v::vs.map (·.2)=x::r:=e;cases e';obtain⟨i1,i2⟩:=xH (f:=f) (fs:=fs) (vs:=vs) ⟨h1.2,b⟩;rw[h1.1];refine⟨λd' e=>?_,λe=>?_⟩
  .rw[eJ]at e ⊢;cases q:f==g with
   | true=>rw[q]at e;cases e;exact⟨v,Z',a⟩
   | false=>rw[q]at e;exact i1 d' e
  .rw[eJ]at e ⊢;cases q:f==g with
   | true=>rw[q]at e;cases e
   | false=>rw[q]at e;exact i2 e
theorem KB{f:Str}{d:D}:∀{fs:T0 (Str×D)},fs.lookup f=ga d->f∈fs.map (·.1)
 | [],h=>by simp at h
 | (g,e)::r,h=>by
  rw[eJ]at h;cases q:f==g with
  | true=>
   have z:f=g:=by simpa using q
   rw[z,d6];exact dH
  | false=>rw[q]at h;simp[KB h]
def AR(o:Option uU)(F:Uf->T0 (Str×D)->Prop):Prop:=match o with
 | some (.ins C fs)=>F C fs
 | _=>False
def pN{o:Option uU}{F:Uf->T0 (Str×D)->Prop}{C:Uf}{fs:T0 (Str×D)}(e:o=ga (.ins C fs))(h:F C fs):AR o F:=by rw[e];exact h
def yk{o:Option uU}(h:AR o F):∃C fs,o=ga (.ins C fs)/\F C fs:=by
 unfold AR at h;split at h
 .exact⟨_,_,Z',h⟩
 .exact h.elim
def W9(f:Str)(ta:T3):T3:=λU M Q=>ta U M λx M1=>match x with
 | .ref a=>AR (M1 a) λ_ fs=>(fs.lookup f).elim False λd=>Q d M1
 | _=>False
def pR{f:Str}(he:E3 X o ta)(hb:Ps o f X.env (wp o X.env)=wp o X.env:=by rfl):E3 X (.Attribute o f pos) (W9 f ta):=PE.mono (UC he hb) λY H Q' zz=>x7 zz λU M Q hs hm ht k=>
 ⟨U,M,_,hs,hm,ht,λv H1 d M1 hd Yl e1 q1=>by
  cases d with
  | ref a=>cases hd.mU;obtain⟨C,fs,e,q1⟩:=yk q1;obtain⟨d,e2,q⟩:=rD q1;obtain⟨dx,vs,h1,cl,na,fo⟩:=Yl a _ e;obtain⟨v,e3,hv⟩:=(xH fo).1 d e2;exact⟨a,C,dx,vs,v,Z',h1,cl,na f (KB e2),e3,k v H1 d M1 hv Yl e1 q⟩
  | _=>exact q1.elim⟩
noncomputable def wR(f:Str)(v:D):T0 (Str×D)->T0 (Str×D)
 | []=>[(f,v)]
 | (g,u)::r=>if g=f then(g,v)::r else(g,u)::wR f v r
theorem Gu{K:qJ}{f:Str}(hv:sA K H d v):∀{fs:T0 (Str×D)} {vs:T0 (Str×V)},DH K H fs vs->DH K H (wR f d fs) (wq f v vs)
 | [],[],_=>⟨Z',.cons hv .nil⟩
 | [],_::_,h=>by have:=h.1;simp at this
 | _::_,[],h=>by have:=h.1;simp at this
 | (g,e)::fs,(g',u)::vs,h=>by
  have h1:g'=g/\vs.map (·.1)=fs.map (·.1):=by
   have:=h.1
   simpa using this
  obtain⟨x,r,e1,a,b⟩:=h.2.inv;have e':u::vs.map (·.2)=x::r:=e1;cases e';obtain⟨hg,ht⟩:=h1;subst hg;rw[show wR f d ((g',e)::fs)=(if g'=f then(g',d)::fs else(g',e)::wR f d fs)from Z',show wq f v ((g',u)::vs)=(if g'=f then(g',v)::vs else(g',u)::wq f v vs)from Z'];by_cases q:g'=f
  .rw[dh q,dh q];exact⟨by simpa using ht,.cons hv b⟩
  .rw[df q,df q];obtain⟨i1,i2⟩:=Gu hv (fs:=fs) (vs:=vs) ⟨ht,b⟩;exact⟨by simpa using i1,.cons a i2⟩
theorem Dl{f:Str}:∀{fs:T0 (Str×D)} {g:Str},g∈(wR f d fs).map (·.1)->g=f\/g∈fs.map (·.1)
 | [],g,h=>.inl (by simpa [wR]using h)
 | (k,e)::r,g,h=>by
  rw[show wR f d ((k,e)::r)=(if k=f then(k,d)::r else(k,e)::wR f d r)from Z']at h;by_cases q:k=f
  .rw[dh q]at h;exact .inr (by simpa using h)
  .rw[df q]at h;rw[d6,dz]at h;rcases h with h|h
   .exact .inr (by simp[h])
   .rcases Dl h with z|z
    .exact .inl z
    .exact .inr (by simp;right;simpa using z)
def VL(K:qJ)(f:Str)(ta tv:T3):xX:=λD U M=>tv U M λy M1=>ta U M1 λx M2=>match x with
 | .ref a=>AR (M2 a) λC fs=>uN K C f/\fs.length<1000/\D.nx U (pT M2 a (.ins C (wR f y fs)))
 | _=>False
def qA{f:Str}(ha:E3 X o ta)(hv:E3 X value tv)(ZT:wE value (ga (.Attribute o f Yu)) pos.line X.env=pure pc:=by rfl):S3 X (.Assign [.Attribute o f Yu] value pos) (VL X.K f ta tv):=
 PS.mono (Um ha hv ZT) λD' Y H zz=>L1 zz λU M D hs hm ht k1 k2 k3 k4=>
 ⟨U,M,_,hs,hm,ht,λy H1 dy M1 hy Yl e1 q1=>⟨U,M1,_,hs.mono e1,Yl,q1,λv H2 d M2 hd YB e2 q2=>by
  cases d with
  | ref a=>
   cases hd.mU;obtain⟨C,fs,e,q2⟩:=yk q2;obtain⟨na,hl,q⟩:=q2;obtain⟨dx,vs,h1,cl,nn,fo⟩:=YB a _ e;have Yp:vs.length=fs.length:=by have:=eR List.length fo.1;simpa using this
   refine⟨a,C,dx,vs,Z',h1,cl,na,by lia,?_⟩;obtain⟨Zi,e3⟩:=YB.put (p:=a) (o:=.ins C dx (wq f y vs)) (c:=.ins C (wR f dy fs)) e λx=>⟨dx,_,qC,cl,λg hg=>by
    rcases Dl hg with z|z
    .rw[z];exact na
    .exact nn g z,Gu ((hy.mono e2).mono x) (fo.mono x)⟩
   exact k1 Y _ U _ (hs.mono (e1.trans (e2.trans e3))) Zi (e1.trans (e2.trans e3)) Z' q
  | _=>exact q2.elim⟩⟩
def RG(C:Uf)(sp:rQ)(t:xA):T3:=λU M Q=>t U M λds M1=>∀x,M1 x=Fa->sp (.ref x::ds) (pT M1 x (.ins C [])) λd M2=>d=.mY/\Q (.ref x) M2
def Oh{K:qJ}{xa dx:Uf}(hm:HM K H M)(cl:Cls K C)(h1:H xa=Fa)(h2:H dx=Fa)(ne:dx≠xa):HM K (upd (upd H dx (.own xa)) xa (.ins C dx [])) (pT M xa (.ins C []))/\rC K H (upd (upd H dx (.own xa)) xa (.ins C dx [])):=by
 have Y4:upd H dx (.own xa) xa=Fa:=by rw[qv (dZ ne)];exact h1
 exact⟨(hm.add (p:=dx) (o:=.own xa) h2).new Y4 ⟨dx,[],qC,cl,λg hg=>by simp at hg,Z',.nil⟩,rC.trans (.new h2) (.new Y4)⟩
def P5(cl:Cls X.K C)(Mk':Mk X.K C f)(F:UN X.prog X.w X.K X.mg X.base k f fd ps sp)(hr:sJ (k+1) X.A)(hg:Gl X x)(hm:X.mg x=ga (.ref C))(hb:ve X.K fd ps [])(ha:A3 X (e::es) t) (YC:zF x:=by decide) (he:BN X e es:=by rfl) (YA:Cd X pos es:=by rfl):
  E3 X (.Call (.Name x p) (e::es) [] pos) (RG C sp t):=PE.mono (Pf Mk' F hr hg hm hb .nil (HF (X:=X)) ha YC he YA) λY H Q' zz=>x7 zz λU M Q hs hm ht k=>
 ⟨U,M,_,hs,hm,ht,λvs H1 ds M1 hd Yl e1 q1=>λxa dx n1 n2 ne=>by
  obtain⟨YB,e2⟩:=Oh Yl cl n1 n2 ne;refine⟨.ref xa::ds,_,_,?_,YB,q1 xa (Yl.fresh n1),λv H3 d M3 hd3 Zi e3 q3=>?_⟩
  .rw[eN];exact .cons .ref (hd.mono e2)
  .obtain⟨z,q3⟩:=q3;subst z;exact⟨hd3.mW,k _ H3 _ M3 .ref Zi (e1.trans (e2.trans e3)) q3⟩⟩
def IR(m:Str)(R:Uf->Sp->Prop)(ta:TE)(t:TA):TE:=λY H Q=>ta Y H λx H1=>∃a C dx fs sp,x=.ref a/\H1 a=ga (.ins C dx fs)/\fs.lookup m=Fa/\R C sp/\t Y H1 λvs H2=>sp (x::vs) H2 Q E0
def yc(P:Pg)(w:Wo)(K:qJ)(mg:QQZ)(base:No)(k:Nat)(m:Str)(C:Uf)(sp:Sp):Prop:=Cls K C/\∃f fd ps,wn K C m f/\xU P w K mg base Pa k f fd ps sp/\ve K fd ps []
def NN{R:Uf->Sp->Prop}{ta:TE}{t:TA}{pl:Sem Bool}(he:PE X o ta)(hR:∀C sp,R C sp->yc X.prog X.w X.K X.mg X.base k m C sp)(hr:sJ k X.A)(ha:PA X (e::es) t) (YG:BN X e es:=by rfl) (YA:Cd X pos es:=by rfl)
  (ht:wp (.Call (.Attribute o m Ym) (e::es) [] pos) X.env=(do
   let ov<-wp o X.env
   XXd Ym.atName
   let(f,first)<-sB [ov] (o0 ov m pl)
   XXi pos f first (xz pos (Tl (e::es) X.env)) (IN pos (Rs [] X.env))):=by rfl):
  PE X (.Call (.Attribute o m Ym) (e::es) [] pos) (IR m R ta t):=by
 intro Yj s Y H Q I h;refine j6 (pl:=pl) (tz (he Yj s Y H _ I h) λu s1 zz=>?_) ht;obtain⟨x,H1,I1,rx,a,C,dx,fs,sp,ex,ea,l,hRC,q⟩:=zz;obtain⟨c,f,fd,ps,hm,F,hb⟩:=hR C sp hRC;subst ex;obtain rfl:u=Value.ref a:=rx;refine Du I1 ea c hm l ?_;refine iZ (first:=[.ref a]) (h₀:=X.base) I.ok.mod.oJ hm.kp (tz (ha pos Yj s1 Y H1 _ I1 q) λus s2 zz=>x5 zz λvs H2 I2 r q2=>⟨I2.nB,?_⟩) YG YA;exact E6 (us:=.ref a::us) (vs:=.ref a::vs) F hr hb .nil (HF (X:=X)) I2 (.cons Z' r) (by rw[eN];exact q2)
def KU{R:Uf->Sp->Prop}{ta:TE}{pl:Sem Bool}(he:PE X o ta)(hR:∀C sp,R C sp->yc X.prog X.w X.K X.mg X.base k m C sp)(hr:sJ k X.A) (ht:wp (.Call (.Attribute o m Ym) [] [] pos) X.env=(do
   let ov<-wp o X.env
   XXd Ym.atName
   let(f,first)<-sB [ov] (o0 ov m pl)
   XXi pos f first (xz pos (Tl [] X.env)) (IN pos (Rs [] X.env))):=by rfl):
  PE X (.Call (.Attribute o m Ym) [] [] pos) (IR m R ta Vv):=by
 intro Yj s Y H Q I h;refine j6 (pl:=pl) (tz (he Yj s Y H _ I h) λu s1 zz=>?_) ht;obtain⟨x,H1,I1,rx,a,C,dx,fs,sp,ex,ea,l,hRC,q⟩:=zz;obtain⟨c,f,fd,ps,hm,F,hb⟩:=hR C sp hRC;subst ex;obtain rfl:u=Value.ref a:=rx;refine Du I1 ea c hm l ?_;exact W.callWith_K0 (first:=[.ref a]) I1.nB hm.kp (E6 (us:=[.ref a]) (vs:=[.ref a]) F hr hb .nil (HF (X:=X)) I1 (.cons Z' .nil) (by rw[eN];exact q))
def Bt(m:Str)(R:Uf->rQ->Prop)(ta:T3)(t:xA):T3:=λU M Q=>ta U M λx M1=>match x with
 | .ref a=>AR (M1 a) λC fs=>fs.lookup m=Fa/\∃sp,R C sp/\t U M1 λds M2=>sp (x::ds) M2 Q
 | _=>False
def Xk(K:qJ)(R:Uf->rQ->Prop):Uf->Sp->Prop:=λC sp'=>∃sp,R C sp/\sp'=O9 K sp
def Km:∀Y H Q',lo X.K (Bt m R ta t) Y H Q'->IR m (Xk X.K R) (lo X.K ta) (X3 X.K t) Y H Q':=λY H Q' zz=>x7 zz λU M Q hs hm ht k=>
 ⟨U,M,_,hs,hm,ht,λv H1 d M1 hd Yl e1 q1=>by
  cases d with
  | ref a=>cases hd.mU;obtain⟨C,fs,e,q1⟩:=yk q1;obtain⟨hn,sp,hR,q⟩:=q1;obtain⟨dx,vs,h1,cl,na,fo⟩:=Yl a _ e;exact⟨a,C,dx,vs,_,Z',h1,(xH fo).2 hn,⟨sp,hR,Z'⟩,U,M1,_,hs.mono e1,Yl,q,λus H2 ds M2 ZE YB e2 q2=>⟨.ref a::ds,M2,Q,.cons .ref ZE,YB,q2,vH (e1.trans e2) k⟩⟩
  | _=>exact q1.elim⟩
def Ga{R:Uf->rQ->Prop}{pl:Sem Bool}(he:E3 X o ta)(hR:∀C sp,R C sp->yc X.prog X.w X.K X.mg X.base k m C (O9 X.K sp))(hr:sJ k X.A)(ha:A3 X (e::es) t) (YG:BN X e es:=by rfl) (YA:Cd X pos es:=by rfl)
  (ht:wp (.Call (.Attribute o m Ym) (e::es) [] pos) X.env=(do
   let ov<-wp o X.env
   XXd Ym.atName
   let(f,first)<-sB [ov] (o0 ov m pl)
   XXi pos f first (xz pos (Tl (e::es) X.env)) (IN pos (Rs [] X.env))):=by rfl):
  E3 X (.Call (.Attribute o m Ym) (e::es) [] pos) (Bt m R ta t):=PE.mono (NN (R:=Xk X.K R) he (λC sp' ⟨sp,h,z⟩=>by rw[z];exact hR C sp h) hr ha YG YA ht) Km
def Aq{R:Uf->rQ->Prop}{pl:Sem Bool}(he:E3 X o ta)(hR:∀C sp,R C sp->yc X.prog X.w X.K X.mg X.base k m C (O9 X.K sp))(hr:sJ k X.A) (ht:wp (.Call (.Attribute o m Ym) [] [] pos) X.env=(do
   let ov<-wp o X.env
   XXd Ym.atName
   let(f,first)<-sB [ov] (o0 ov m pl)
   XXi pos f first (xz pos (Tl [] X.env)) (IN pos (Rs [] X.env))):=by rfl):
  E3 X (.Call (.Attribute o m Ym) [] [] pos) (Bt m R ta xS):=PE.mono (KU (R:=Xk X.K R) he (λC sp' ⟨sp,h,z⟩=>by rw[z];exact hR C sp h) hr ht) λY H Q' h=>by
 obtain⟨U,M,Q,hs,hm,ht,k⟩:=Km (t:=xS) Y H Q' h;refine⟨U,M,Q,hs,hm,ht,λv H' d M' x1 x2 x3 x4=>?_⟩;obtain⟨a,C,dx,fs,sp,e1,e2,e3,e4,δ',Yo,Q'',y1,y2,y3,y4⟩:=k v H' d M' x1 x2 x3 x4;exact⟨a,C,dx,fs,sp,e1,e2,e3,e4,y4 [] H' [] Yo .nil y2 .refl y3⟩
structure GA(K:qJ)(H1:Hp)(J:It)(ds:List D)(ok:Mp->Prop):Prop where
 go:∀i H M,i<ds.length->HM K H M->ok M->rC K H1 H->J.go i H
 pz:∀i d H M x H',ds[i]?=ga d->HM K H M->ok M->rC K H1 H->J.pz i H x H'->sA K H' d x/\HM K H' M/\rC K H H'
 stop:∀H M,HM K H M->ok M->rC K H1 H->J.stop ds.length H
abbrev NY:=vT->Mp->(T0 D->(Mp->Prop)->Mp->Prop)->Prop
def XS(K:qJ)(wi:NY):TI:=λY H R'=>D4 λU M R=>AG K H Y U/\HM K H M/\wi U M R/\∀J H1 ds ok M1,GA K H1 J ds ok->HM K H1 M1->rC K H H1->ok M1->R ds ok M1->R' J H1
def I3(X:Cx)(tg iter:Go)(wi:NY):Prop:=PI X tg iter (XS X.K wi)
def PI.mono{t t':TI}(h:PI X tg e t)(m:∀Y H Q,t' Y H Q->t Y H Q):PI X tg e t':=λYj s Y H Q I q=>h Yj s Y H Q I (m Y H Q q)
variable {H1:Hp}
def Od:GA K H1 (WJ K a) ds (λM=>oU M a=ga ds) where
 go:=λi H M hi hm ok _=>by obtain⟨xs,h1,h2,_⟩:=qx hm ok;obtain⟨x,e,_⟩:=h2.get (cZ hi);exact⟨xs,x,h1,e⟩
 pz:=λi d H M x H' hd hm ok _ y=>by obtain⟨xs,h1,h2,_⟩:=qx hm ok;obtain⟨e,y⟩:=y;subst e;obtain⟨x',e,hx⟩:=h2.get hd;have:=y xs h1;rw[e]at this;cases this;exact⟨hx,hm,.refl⟩
 stop:=λH M hm ok _=>by obtain⟨xs,h1,h2,_⟩:=qx hm ok;exact⟨xs,h1,by rw[h2.length];exact dw _⟩
def Qv(h1:wm K H1 a xs)(h2:qF K H1 ds xs):GA K H1 (WN K a) ds (λ_=>True) where
 go:=λi H M hi hm ok e1=>by obtain⟨x,e,_⟩:=h2.get (cZ hi);exact⟨xs,x,e1.t _ _ h1,e⟩
 pz:=λi d H M x H' hd hm ok e1 y=>by obtain⟨e,y⟩:=y;subst e;obtain⟨x',e,hx⟩:=h2.get hd;have:=y xs (e1.t _ _ h1);rw[e]at this;cases this;exact⟨hx.mono e1,hm,.refl⟩
 stop:=λH M hm ok e1=>⟨xs,e1.t _ _ h1,by rw[h2.length];exact dw _⟩
def Tf(h1:Qn K H1 a xs)(h2:qF K H1 ds xs):GA K H1 (WJ K a) ds (λ_=>True) where
 go:=λi H M hi hm ok e1=>by obtain⟨x,e,_⟩:=h2.get (cZ hi);exact⟨xs,x,(h1.mono e1).sq,e⟩
 pz:=λi d H M x H' hd hm ok e1 y=>by obtain⟨e,y⟩:=y;subst e;obtain⟨x',e,hx⟩:=h2.get hd;have:=y xs (h1.mono e1).sq;rw[e]at this;cases this;exact⟨hx.mono e1,hm,.refl⟩
 stop:=λH M hm ok e1=>⟨xs,(h1.mono e1).sq,by rw[h2.length];exact dw _⟩
def EC{lo:Int}:GA K H1 (Vy lo n) ((List.range n).map λi=>D.int (lo+(i:Nat))) (λ_=>True) where
 go:=λi H M hi hm ok e1=>by
  have z:i<n:=by simpa using hi
  exact z
 pz:=λi d H M x H' hd hm ok e1 y=>by
  obtain⟨e,y⟩:=y;subst e;subst y;have hi:i<n:=by
   have:=(de.mp hd).1
   simpa using this
  have hd':d=D.int (lo+(i:Nat)):=by rw[dG,jj hi]at hd;exact(dq hd).symm
  subst hd';exact⟨.int,hm,.refl⟩
 stop:=λH M hm ok e1=>by show n<=_;simp
variable {scope:XXe}{ix:T0 (Option Nat)}{N':QQQ}{iter Zc:Go}{YU:T0 Go}{wi:NY}{g:Et}{tt:Bm}{te:T3}{tg:Go}
def VF(t:T3):NY:=λU M R=>t U M λx M1=>match x with
 | .tup ds=>R ds (λ_=>True) M1
 | .ref a=>(oU M1 a).elim False λds=>R ds (λM=>oU M a=ga ds) M1
 | .rl ds=>R ds (λ_=>True) M1
 | .str z=>R (z.cps.toList.map λc=>D.str ⟨#[c]⟩) (λ_=>True) M1
 | _=>False
def Q9{K:qJ}:GA K H1 (WV z) (z.cps.toList.map λc=>D.str ⟨#[c]⟩) (λ_=>True) where
 go:=λi H M hi hm ok _=>by
  show i<z.cps.size
  simpa using hi
 pz:=λi d H M x H' hd hm ok _ y=>by obtain⟨e,c,e1,e2⟩:=y;subst e e2;rw[dG,Array.getElem?_toList,e1]at hd;cases hd;exact⟨.str,hm,.refl⟩
 stop:=λH M hm ok _=>by show _=z.cps.size;simp
def ra{t:T3}(h:E3 X l t)(hc:X.calm=Db:=by rfl):I3 X tg l (VF t):=PI.mono (Pd hc h) λY H R' zz=>x7 zz λU M R hs hm ht k=>
 ⟨U,M,_,hs,hm,ht,λv H1 d M1 hd Yl e1 q1=>by
  cases d with
  | tup ds=>obtain⟨a,xs,rfl,h1,h2⟩:=hd.m7;exact .inl ⟨a,Z',.inr ⟨⟨xs,h1⟩,k _ H1 ds _ M1 (Qv h1 h2) Yl e1 trivial q1⟩⟩
  | ref a=>cases hd.mU;obtain⟨ds,e0,q⟩:=rD q1;obtain⟨xs,h1,h2,_⟩:=qx Yl e0;exact .inl ⟨a,Z',.inl ⟨⟨xs,h1⟩,k _ H1 ds _ M1 Od Yl e1 e0 q⟩⟩
  | str z=>exact .inr ⟨z,hd.str_inv,k _ H1 _ _ M1 Q9 Yl e1 trivial q1⟩
  | rl ds=>obtain⟨a,xs,rfl,h1,h2⟩:=hd.ny;exact .inl ⟨a,Z',.inl ⟨⟨xs,h1.sq⟩,k _ H1 ds _ M1 (Tf h1 h2) Yl e1 trivial q1⟩⟩
  | _=>exact q1.elim⟩
def RL(t:xA):NY:=λU M R=>t U M λds M1=>match ds with
 | [.int j]=>(-(2 ^ 62)<=j/\j<2 ^ 62)/\R ((List.range j.toNat).map λi=>D.int (0+(i:Nat))) (λ_=>True) M1
 | [.int i,.int j]=>(-(2 ^ 62)<=i/\i<2 ^ 62/\-(2 ^ 62)<=j/\j<2 ^ 62)/\R ((List.range (j - i).toNat).map λn=>D.int (i+(n:Nat))) (λ_=>True) M1
 | _=>False
def vO{a:Go}{ta:xA}(hg:Gl X "range")(hm:X.mg "range"=Fa)(ha:A3 X [a] ta)(hs:Tl [a] X.env=[(pc,wp a X.env)]:=by rfl):I3 X tg (.Call (.Name "range" p) [a] [] pos) (RL λU M Q=>ta U M λds M1=>ds.length=1/\Q ds M1):=
 PI.mono (LN hg hm ha hs) λY H R' zz=>x7 zz λU M R hs hm ht k=>⟨U,M,_,hs,hm,ht,λvs H1 ds M1 hd Yl e1 q1=>by
  obtain⟨hl,q1⟩:=q1;split at q1
  .obtain⟨v,rfl,hv⟩:=tj hd;cases hv.int_inv;exact⟨_,Z',q1.1.1,q1.1.2,k _ H1 _ _ M1 EC Yl e1 trivial q1.2⟩
  .simp at hl
  .exact q1.elim⟩
def LC{a b:Go}{ta:xA}(hg:Gl X "range")(hm:X.mg "range"=Fa)(ha:A3 X [a,b] ta)(hs:Tl [a,b] X.env=[(pc,wp a X.env),(pc,wp b X.env)]:=by rfl)(YZ:Tl [b] X.env=[(pc,wp b X.env)]:=by rfl):
  I3 X tg (.Call (.Name "range" p) [a,b] [] pos) (RL λU M Q=>ta U M λds M1=>ds.length=2/\Q ds M1):=
 PI.mono (LX hg hm ha hs YZ) λY H R' zz=>x7 zz λU M R hs hm ht k=>⟨U,M,_,hs,hm,ht,λvs H1 ds M1 hd Yl e1 q1=>by
  obtain⟨hl,q1⟩:=q1;split at q1
  .simp at hl
  .obtain⟨v,u,rfl,hv,hw⟩:=Az hd;cases hv.int_inv;cases hw.int_inv;exact⟨_,_,Z',q1.1,k _ H1 _ _ M1 EC Yl e1 trivial q1.2⟩
  .exact q1.elim⟩
def Fo(g:Et)(tb:xX)(ok:Mp->Prop)(E:HJ):T0 D->vT->Mp->Prop
 | [],U,M=>E.nx U M
 | d::r,U,M=>g d U M λδ2 M2=>tb {E with nx:=λδ' M'=>ok M'/\Fo g tb ok E r δ' M',ct:=λδ' M'=>ok M'/\Fo g tb ok E r δ' M',bk:=E.nx} δ2 M2
def VC(wi:NY)(g:Et)(tb:xX):xX:=λE U M=>wi U M λds ok M1=>Fo g tb ok E ds U M1
def vg{tb:xX}(hp:PassesOwn (Tk X.prog X.w) X.A X.env X.xe)(hc:X.calm=Db)(hi:I3 X tg iter wi)(hg:G3 X tg g)(hb:HY X body tb) (hs:∀x,XV iter X.env x=pure x:=by intro _;rfl):S3 X (.For tg iter body [] pos) (VC wi g tb):=PS.mono (Uu hp hc hi hg hb hs) λD' Y H zz=>L1 zz λU M E hs hm ht k1 k2 k3 k4=>
 ⟨U,M,_,hs,hm,ht,λJ H1 ds ok M1 S Yl e1 ok1 q1=>by
  refine⟨λi m σ' H'=>m=ds.length - i/\i<=ds.length/\∃δ' M',AG X.K H' σ' δ'/\HM X.K H' M'/\ok M'/\rC X.K H1 H'/\σ'.length=Y.length/\Fo g tb ok E (ds.drop i) δ' M',⟨ds.length,by simp,eO _,U,M1,hs.mono e1,Yl,ok1,.refl,Z',by simpa using q1⟩,?_⟩
  rintro i m σ' H' ⟨rfl,hi,δ',M',hs',ZU,ok',e',l',q'⟩
  by_cases Yt:i<ds.length
  .rw[io Yt]at q';refine .inr ⟨S.go i H' M' Yt ZU ok' e',λσ2 H2=>∃δ2 M2,AG X.K H2 σ2 δ2/\HM X.K H2 M2/\ok M2/\rC X.K H1 H2/\σ2.length=Y.length/\Fo g tb ok E (ds.drop (i+1)) δ2 M2,λσ2 H2 z=>⟨ds.length - (i+1),by lia,Z',Yt,z⟩,λx H2 y=>?_⟩;obtain⟨hx,YB,e2⟩:=S.pz i ds[i] H' M' x H2 (cZ Yt) ZU ok' e' y;refine⟨ds[i],δ',M',_,hx,hs'.mono e2,YB,q',λσ3 H3 δ3 M3 x1 x2 x3 x4 x5=>?_⟩;refine⟨δ3,M3,_,x1,x2,x5,λσ4 H4 δ4 M4 y1 y2 y3 y4 y5=>?_,λv H4 d M4 y1 y2 y3 y4=>?_,λσ4 H4 δ4 M4 y1 y2 y3 y4 y5=>?_,λσ4 H4 δ4 M4 y1 y2 y3 y4 y5=>?_⟩
   .exact⟨δ4,M4,y1,y2,y5.1,e'.trans (e2.trans (x3.trans y3)),by rw[y4,x4,l'],y5.2⟩
   .exact k2 v H4 d M4 y1 y2 (e1.trans (e'.trans (e2.trans (x3.trans y3)))) y4
   .exact k1 σ4 H4 δ4 M4 y1 y2 (e1.trans (e'.trans (e2.trans (x3.trans y3)))) (by rw[y4,x4,l']) y5
   .exact⟨δ4,M4,y1,y2,y5.1,e'.trans (e2.trans (x3.trans y3)),by rw[y4,x4,l'],y5.2⟩
  .have e:i=ds.length:=by lia
   subst e;rw[jO]at q';exact .inl ⟨S.stop H' M' ZU ok' e',k1 σ' H' δ' M' hs' ZU (e1.trans e') l' q'⟩⟩
noncomputable def PH(ix:T0 (Option Nat))(U:vT):vT:=ix.map λo=>o.bind λi=>(U[i]?).join
def Pm{K:qJ}(h:AG K H Y U):AG K H (Rw ix Y) (PH ix U):=λi d q=>by
 unfold PH at q;unfold Rw;rw[dG]at q ⊢;cases e:ix[i]? with
 | none=>rw[e]at q;cases q
 | some o=>
  rw[e]at q;cases o with
  | none=>cases q
  | some j=>
   have q':(U[j]?).join=ga d:=dq q;have e4:U[j]?=ga (ga d):=by
    cases r:U[j]? with
    | none=>rw[r]at q';cases q'
    | some w=>rw[r]at q';exact eR ga q'
   obtain⟨v,e5,hv⟩:=h j d e4;refine⟨v,?_,hv⟩;show ga ((Y[j]?).join)=ga (ga v);rw[e5];rfl
def vw(g:Et)(tt:Bm)(te:T3)(ok:Mp->Prop)(Q:DK):T0 D->T0 D->vT->Mp->Prop
 | [],acc,_,M=>acc.length<=Ch/\∀p,M p=Fa->Q (.ref p) (pT M p (.lst acc))
 | d::r,acc,U,M=>acc.length<Ch/\g d U M λδ2 M2=>tt δ2 M2 λb M3=>if b=Db then te δ2 M3 λy M4=>ok M4/\vw g tt te ok Q r (acc++[y]) δ2 M4 else ok M3/\vw g tt te ok Q r acc δ2 M3
def Nh(ix:T0 (Option Nat))(wi:NY)(g:Et)(tt:Bm)(te:T3):T3:=λU M Q=>wi U M λds ok M1=>vw g tt te ok Q ds [] (PH ix U) M1
def F3(X:Cx)(YU:T0 Go)(t:Bm):Prop:=PF X YU (UK X.K t)
def PF.mono{e:T0 Go}{t t':TT}(h:PF X e t)(m:∀Y H Q,t' Y H Q->t Y H Q):PF X e t':=λYj s Y H Q I q=>h Yj s Y H Q I (m Y H Q q)
def Dn:Bm:=λ_ M Q=>Q Db M
def sf:F3 X [] Dn:=PF.mono TH λY H Q' zz=>x7 zz λU M Q hs hm ht k=>k Db H M hm .refl ht
def vS{t:Bm}(h:B3 X c t):F3 X [c] t:=SJ h
def JN:∀Y H Q',lo X.K (Nh ix wi g tt te) Y H Q'->MY ix (XS X.K wi) (Wy X.K g) (UK X.K tt) (lo X.K te) Y H Q':=λY H Q' zz=>x7 zz λU M Q hs hm ht k=>
 ⟨U,M,_,hs,hm,ht,λJ H1 ds ok M1 S Yl e1 ok1 q1=>by
  refine⟨λi m ys σ' H'=>m=ds.length - i/\i<=ds.length/\∃δ' M' acc,AG X.K H' σ' δ'/\HM X.K H' M'/\qF X.K H' acc ys/\ok M'/\rC X.K H1 H'/\vw g tt te ok Q (ds.drop i) acc δ' M',⟨ds.length,by simp,eO _,PH ix U,M1,[],Pm (hs.mono e1),Yl,.nil,ok1,.refl,by simpa using q1⟩,?_⟩
  rintro i m ys σ' H' ⟨rfl,hi,δ',M',acc,hs',ZU,ZX,ok',e',q'⟩
  by_cases Yt:i<ds.length
  .rw[io Yt]at q';obtain⟨hz,q'⟩:=q';refine .inr ⟨S.go i H' M' Yt ZU ok' e',by rw[<-ZX.length];exact hz,λx H2 y=>?_⟩;obtain⟨hx,YB,e2⟩:=S.pz i ds[i] H' M' x H2 (cZ Yt) ZU ok' e' y;refine⟨ds[i],δ',M',_,hx,hs'.mono e2,YB,q',λσ3 H3 δ3 M3 x1 x2 x3 x4 x5=>?_⟩;refine⟨δ3,M3,_,x1,x2,x5,λb H4 M4 y2 y3 y5=>?_⟩;cases b with
   | true=>rw[dh Z']at y5 ⊢;refine⟨δ3,M4,_,x1.mono y3,y2,y5,λv H5 d M5 z1 z2 z3 z4=>⟨ds.length - (i+1),by lia,Z',Yt,δ3,M5,acc++[d],x1.mono (y3.trans z3),z2,(ZX.mono (e2.trans (x3.trans (y3.trans z3)))).snoc z1,z4.1,e'.trans (e2.trans (x3.trans (y3.trans z3))),z4.2⟩⟩
   | false=>rw[df dE]at y5 ⊢;exact⟨ds.length - (i+1),by lia,Z',Yt,δ3,M4,acc,x1.mono y3,y2,ZX.mono (e2.trans (x3.trans y3)),y5.1,e'.trans (e2.trans (x3.trans y3)),y5.2⟩
  .have e:i=ds.length:=by lia
   subst e;rw[jO]at q';refine .inl ⟨S.stop H' M' ZU ok' e',by rw[<-ZX.length];exact q'.1,λp hp=>?_⟩;have e5:rC X.K H' (upd H' p (.lst ys)):=.new hp;exact k _ _ _ _ .ref (ZU.new (c:=.lst acc) hp ⟨_,qC,ZX.mono e5⟩) (e1.trans (e'.trans e5)) (q'.2 p (ZU.fresh hp))⟩
def qT(hc:X.calm=Db)(S:sW X scope ix N')(hi:I3 X tg iter wi)(hg:∀{C s0 H0 ex},G3 (X.comp scope N' C s0 H0 ex) tg g)(ht:∀{C s0 H0 ex},F3 (X.comp scope N' C s0 H0 ex) YU tt)(he:∀{C s0 H0 ex},E3 (X.comp scope N' C s0 H0 ex) Zc te) (hs:∀x,XV iter X.env x=pure x:=by intro _;rfl):E3 X (.ListComp Zc [⟨tg,iter,YU,0⟩] scope pos) (Nh ix wi g tt te):=PE.mono (QW (g:=Wy X.K g) (tt:=UK X.K tt) (te:=lo X.K te) hc S hi (λ_ _ _ _=>hg) (λ_ _ _ _=>ht) (λ_ _ _ _=>he) hs) JN
def uM{i:Nat}{x:Str}{px Z6:Pos}(hN:X.N.Nodup)(hix:X.N[i]?=ga x)(hx:L0 X.env.scope x)(hc:X.calm=Db)(S:sW X scope ix N')(hi:I3 X tg iter wi)(hg:∀{C s0 H0 ex},G3 (X.comp scope N' C s0 H0 ex) tg g)(ht:∀{C s0 H0 ex},F3 (X.comp scope N' C s0 H0 ex) YU tt) (he:∀{C s0 H0 ex},E3 (X.comp scope N' C s0 H0 ex) Zc te) (ZT:wE (.ListComp Zc [⟨tg,iter,YU,0⟩] scope pos) (ga (.Name x px)) Z6.line X.env=pure Db:=by rfl)
  (hf:L4 X x:=by first|exact .inl Z'|exact .inr Z'|assumption) (hs:∀x,XV iter X.env x=pure x:=by intro _;rfl):
  S3 X (.Assign [.Name x px] (.ListComp Zc [⟨tg,iter,YU,0⟩] scope pos) Z6) (G1 (Nh ix wi g tt te) (rH i)):=PS.og (Iv (g:=Wy X.K g) (tt:=UK X.K tt) (te:=lo X.K te) hN hix hx hc S hi (λ_ _ _ _=>hg) (λ_ _ _ _=>ht) (λ_ _ _ _=>he) ZT hf hs) λD' Y H hl zz=>L1 zz λU M D hs hm ht k1 k2 k3 k4=>
 JN Y H _ ⟨U,M,_,hs,hm,ht,λv H1 d M1 hd Yl e1 q1=>k1 _ H1 _ M1 ((hs.mono e1).set hd (by rw[hl];exact(de.mp hix).1)) Yl e1 (by simp) q1⟩
def XO(hr:sJ k A):A.units+9<XXa:=by have:=hr.units;lia
noncomputable def Jk(sc:XXe)(N:QQQ)(scope:XXe)(ix:T0 (Option Nat))(N':QQQ):Bool:=
 (scope.kind==.function)&&(scope.names.all λy=>!(y.2==.cell))&&(scope.names.all λy=>!(y.2==.local)||(scope.names.lookup y.1==ga .local))&&
 (scope.names.all λy=>!(y.2==.free)||(sc.names.lookup y.1==ga .cell)||(sc.names.lookup y.1==ga .free))&&(ix.length==N'.length)&&
 ((ix.zip N').all λp=>match p.1 with|none=>Db|some i=>(N[i]?==ga p.2)&&(scope.names.lookup p.2==ga .free))
def UZ{X:Cx}(h:Jk X.env.scope X.N scope ix N'=Db):sW X scope ix N':=by
 unfold Jk at h;simp only[dY]at h;obtain⟨⟨⟨⟨⟨h1,h2⟩,h3⟩,h4⟩,h5⟩,h6⟩:=h;refine⟨by simpa using h1,λy hy e=>?_,λy hy e=>?_,λy hy e=>?_,by simpa using h5,λj i x e1 e2=>?_⟩
 .have:=eF.mp h2 y hy;rw[e]at this;simp at this
 .have:=eF.mp h3 y hy;rw[e]at this
  simpa using this
 .have:=eF.mp h4 y hy;rw[e]at this
  simpa using this
 .have hm:(ga i,x)∈ix.zip N':=by
   have:(ix.zip N')[j]?=ga (ga i,x):=by rw[ip];exact⟨e1,e2⟩
   exact ft this
  have:=eF.mp h6 _ hm
  simpa using this
section
variable {a b:Go}
def JI(op Zb:CmpOp)(ta tb tc:T3):T3:=λU M Q=>ta U M λx M1=>tb U M1 λy M2=>Lu op x y M2 λz M3=>match z with
 | .bl k=>if k=Db then tc U M3 λw M4=>Lu Zb y w M4 Q else Q (.bl pc) M3
 | _=>False
def uW{op Zb:CmpOp}(hu:X.A.units+9<XXa)(ha:E3 X a ta)(hb:E3 X b tb)(hc:E3 X c tc)(hmk:lastMarks [op,Zb] [b,c]=pc:=by rfl):
  E3 X (.Compare a [op,Zb] [b,c] pos) (JI op Zb ta tb tc):=PE.mono (L6 (K6 op hu) (K6 Zb hu) ha hb hc hmk) λY H Q' zz=>x7 zz λU M Q hs hm ht k=>
 ⟨U,M,_,hs,hm,ht,λv H1 x M1 hx Yl e1 q1=>⟨U,M1,_,hs.mono e1,Yl,q1,λu H2 y M2 hy YB e2 q2=>⟨x,y,M2,_,hx.mono e2,hy,YB,q2,λw H3 z M3 hz Zi e3 q3=>by
  cases z with
  | bl c=>
   refine⟨c,hz.mX,?_⟩;cases c with
   | true=>refine(dh Z').mpr ⟨U,M3,_,hs.mono (e1.trans (e2.trans e3)),Zi,(dh Z').mp q3,λw' H4 d M4 hd hm4 e4 q4=>⟨y,d,M4,Q,hy.mono (e3.trans e4),hd,hm4,q4,vH (e1.trans (e2.trans (e3.trans e4))) k⟩⟩
   | false=>exact(df dE).mpr (k _ H3 _ M3 .bl Zi (e1.trans (e2.trans e3)) ((df dE).mp q3))
  | _=>exact q3.elim⟩⟩⟩
def G7{op Zb:CmpOp}(hu:X.A.units+9<XXa)(ha:E3 X a ta)(hb:E3 X b tb)(hc:E3 X c tc)(hmk:lastMarks [op,Zb] [b,c]=pc:=by rfl):
  B3 X (.Compare a [op,Zb] [b,c] pos) (b3 (JI op Zb ta tb tc)):=PT.mono (Ml (K6 op hu) (K6 Zb hu) ha hb hc hmk) λY H Q' zz=>x7 zz λU M Q hs hm ht k=>
 ⟨U,M,_,hs,hm,ht,λv H1 x M1 hx Yl e1 q1=>⟨U,M1,_,hs.mono e1,Yl,q1,λu H2 y M2 hy YB e2 q2=>⟨x,y,M2,_,hx.mono e2,hy,YB,q2,λw H3 z M3 hz Zi e3 q3=>by
  cases z with
  | bl c=>
   refine⟨c,hz.mX,?_⟩;cases c with
   | true=>
    refine(dh Z').mpr ⟨U,M3,_,hs.mono (e1.trans (e2.trans e3)),Zi,(dh Z').mp q3,λw' H4 d M4 hd hm4 e4 q4=>⟨y,d,M4,_,hy.mono (e3.trans e4),hd,hm4,q4,λw5 H5 d5 M5 hd5 hm5 e5 q5=>?_⟩⟩;cases d5 with
    | bl c5=>exact⟨c5,hd5.mX,k c5 H5 M5 hm5 (e1.trans (e2.trans (e3.trans (e4.trans e5)))) q5⟩
    | _=>exact q5.elim
   | false=>exact(df dE).mpr ⟨pc,Z',k pc H3 M3 Zi (e1.trans (e2.trans e3)) ((df dE).mp q3)⟩
  | _=>exact q3.elim⟩⟩⟩
structure Xu(K:qJ)(C:Uf):Prop where
 ha:W.findIn K (.ref C) "__class__"=ga (ga (.builtin "object.__class__"))
 hn:W.specialIn K (.builtin "object.__class__") "__get__"=ga (ga (.builtin "getset_descriptor.__get__"))
 htk:W.takesIn K (.builtin "object.__class__")=ga Db
 hm:W.mroIn K C (.type "object")=ga Db
noncomputable def Jo:Option uU->Option Vl
 | some (.lst _)=>ga (.type "list")
 | some (.ins C _)=>ga (.ref C)
 | some (.dk _)=>ga (.type "dict")
 | some (.exc _)=>Fa
 | none=>Fa
noncomputable def XW(M:Mp):D->Option Vl
 | .mY=>ga (.type "NoneType")
 | .bl _=>ga (.type "bool")
 | .int _=>ga (.type "int")
 | .str _=>ga (.type "str")
 | .tup _=>ga (.type "tuple")
 | .ref a=>Jo (M a)
 | .ty _=>Fa
 | .rl _=>ga (.type "list")
noncomputable def Xr:D->Option Vl
 | .ref C=>ga (.ref C)
 | .ty n=>ga (.type n)
 | _=>Fa
def OA(K:qJ)(ds:T0 D)(M:Mp)(Q:DK):Prop:=match ds with
 | [x,c]=>(XW M x).elim False λt=>(Xr c).elim False λcv=>(∀C,t=.ref C->Xu K C)/\(W.kitOne K t cv).elim False λb=>Q (.bl b) M
 | _=>False
def EU:C3 X (.builtin "isinstance") (OA X.K):=by
 intro Yj s Y H vs us Q' I rv h;obtain⟨ds,M,Q,hd,hm,q,k⟩:=h;unfold OA at q;split at q
 .rename_i x c;obtain⟨v,u,rfl,hv,hw⟩:=Az hd;obtain⟨t,et,q⟩:=rD q;obtain⟨cv,ec,hC,q⟩:=rD q;obtain⟨b,eb,qb⟩:=rD q;obtain⟨uv,uw,rfl,rv1,rv2⟩:=JS rv;have ecv:uw=cv:=by
   cases c with
   | ref C=>cases hw.mU;cases ec;exact rv2
   | ty n=>cases hw.oh;cases ec;exact rv2
   | _=>cases ec
  subst ecv;have Yn:∀tk,EP X Yj Y Q' (.bool b) {s with toks:=tk}:=λtk=>⟨.bl b,H,I.tok tk,Z',k _ _ _ _ .bl hm .refl qb⟩;cases x with
  | mY=>cases hv.mW;cases et;exact vi I rv1 .mY eb Yn
  | bl y=>cases hv.mX;cases et;exact vi I rv1 (.bl y) eb Yn
  | int y=>cases hv.int_inv;cases et;exact vi I rv1 (.int y) eb Yn
  | str y=>cases hv.str_inv;cases et;exact vi I rv1 (.str y) eb Yn
  | tup ds=>obtain⟨a,xs,rfl,h1,h2⟩:=hv.m7;cases et;cases rv1;obtain⟨its,r,p,_⟩:=I.tuple h1;obtain⟨o,g1,g2,_⟩:=p;exact gv W.kitx_tuple I.nB ⟨o,g1,g2⟩ eb (λz=>nomatch z) Yn
  | ref a=>
   cases hv.mU;have et:Jo (M a)=ga t:=et;cases e:M a with
   | none=>rw[e]at et;cases et
   | some cell=>
    rw[e]at et;have ok:=hm a cell e;cases cell with
    | lst ds=>cases et;obtain⟨xs,e1,_⟩:=ok;exact vi I rv1 (.lst e1) eb Yn
    | ins C fs=>cases et;obtain⟨dx,vs,e1,cl,_⟩:=ok;obtain⟨i1,i2,i3,i4⟩:=hC C Z';exact vi I rv1 (.ins e1 cl i1 i2 i3 i4) eb Yn
    | dk kvs=>cases et;obtain⟨vs,e1,_⟩:=ok;exact vi I rv1 (.dK e1) eb Yn
    | exc C=>cases et
  | ty n=>cases et
  | rl ds=>obtain⟨p,xs,rfl,h1,h2⟩:=hv.ny;cases et;cases rv1;obtain⟨its,r,⟨o,n,g1,g2,_⟩,_⟩:=I.list h1.sq;exact gv lO I.nB ⟨o,g1,g2⟩ eb (λz=>nomatch z) Yn
 .exact q.elim
noncomputable def HK:T0 D->Option (T0 Bool)
 | []=>ga []
 | .bl b::r=>(HK r).map (b::·)
 | _::_=>Fa
theorem Fv{K:qJ}:∀{ds:T0 D} {bs:T0 Bool} {xs:T0 V} {us:T0 Vl},HK ds=ga bs->qF K H ds xs->qL xs us->us=bs.map Value.bool
 | [],bs,xs,us,e,h,r=>by cases e;have:=h.nil_inv;subst this;cases r;rfl
 | d::ds,bs,xs,us,e,h,r=>by
  cases d with
  | bl b=>
   obtain⟨y,ys,rfl,h1,h2⟩:=h.inv;cases h1.mX;unfold HK at e;cases q:HK ds with
   | none=>rw[q]at e;cases e
   | some cs=>
    rw[q]at e;cases e;cases r with
    | cons r1 r2=>cases r1;rw[Fv q h2 r2];rfl
  | _=>cases e
def U6(ds:T0 D)(M:Mp)(Q:DK):Prop:=match ds with
 | [.ref a]=>(oU M a).elim False λes=>(HK es).elim False λbs=>Q (.bl (bs.all id)) M
 | _=>False
def Fl(hc:X.calm=Db):C3 X (.builtin "all") U6:=by
 intro Yj s Y H vs us Q' I rv h;obtain⟨ds,M,Q,hd,hm,q,k⟩:=h;unfold U6 at q;split at q
 .rename_i a;obtain⟨v,rfl,hv⟩:=tj hd;obtain⟨es,e0,q⟩:=rD q;obtain⟨bs,e1,q⟩:=rD q;cases hv.mU;obtain⟨u,rfl,ru⟩:=y9 rv;cases ru;obtain⟨xs,h1,h2,_⟩:=qx hm e0;obtain⟨its,r,pl,hz⟩:=I.list h1;have eits:=Fv e1 h2 r;subst eits;have YI:a≠s.heap.objs.size:=by obtain⟨o,_,e,_⟩:=pl;exact dM (dC e)
  refine call_all_walk (g9 pl.isList ?_);refine⟨s.heap.objs.size,_,_,_,_,_,λi=>(bs[i]?).getD Db,Z',kz (A:=X.A.in1) (I.ok.hd hc) _ a YI (bs.map Value.bool).toArray,⟨⟨_,dJ _ Z',Z',Z'⟩,?_⟩,λi v s' Q E hP hQ=>?_,λh' tk hk=>?_⟩
  .obtain⟨o,n,e,c,d,q⟩:=pl;exact⟨o,dg _ e,c,n,q⟩
  .simp only[iX,dG]at hP;cases e2:bs[i]? with
   | none=>rw[e2]at hP;cases hP
   | some b=>rw[e2]at hP;cases hP;have hQ:Q ((bs[i]?).getD Db) s':=hQ;rw[e2]at hQ;exact fk hQ
  .have ea:(List.range (bs.map Value.bool).toArray.size).all (λi=>(bs[i]?).getD Db)=bs.all id:=by
    rw[dA,cX];rw[fZ,eF,eF];constructor
    .intro z b hb;obtain⟨i,hi,e⟩:=gQ hb;have:=z i (fU.mpr hi);rw[cZ hi,e]at this;exact this
    .intro z i hi;have ZY:=fU.mp hi;rw[cZ ZY];exact z _ (gO ZY)
   rw[ea];refine⟨.bl (bs.all id),H,?_,Z',k _ _ _ _ .bl hm .refl q⟩;exact I.kept (h':=h') (t':=tk) λb o e=>hk b o (by simpa using dM (dC e)) (dg _ e)
 .exact q.elim
noncomputable def BM(x:D):T0 D->Option Nat
 | []=>Fa
 | d::r=>if Q2 d x=Db then ga 0 else(BM x r).map (·+1)
theorem Kf{K:qJ}{e:D}{w:V}(g:sA K H e w)(fe:vt e=Db):∀{ds:T0 D} {xs:T0 V} {us:T0 Vl} {j:Nat},qF K H ds xs->qL xs us->ds.all vt=Db->BM e ds=ga j->
  ∃h:j<us.length,E5 w us[j]=Db/\∀m (hm:m<us.length),m<j->E5 w us[m]=pc
 | [],_,_,_,_,_,_,q=>by cases q
 | d::ds,_,us,j,h,r,fl,q=>by
  obtain⟨y,ys,rfl,h1,h2⟩:=h.inv;rw[fv,dY]at fl;cases r with
  | @cons _ u _ us' r1 r2=>
   have eu:E5 w u=Q2 d e:=by rw[IM r1 (Af h1 fl.1),JE h1 g fl.1 fe]
   unfold BM at q;by_cases hq:Q2 d e=Db
   .rw[dh hq]at q;cases q;exact⟨by simp,by simpa [eu]using hq,λm _ hm=>absurd hm (Nat.not_lt_zero m)⟩
   .rw[df hq]at q;cases q2:BM e ds with
    | none=>rw[q2]at q;cases q
    | some j'=>
     rw[q2]at q;cases q;obtain⟨hl,e1,e2⟩:=Kf g fe h2 r2 fl.2 q2;refine⟨by simpa using hl,by simpa using e1,λm hm Yt=>?_⟩;cases m with
     | zero=>simpa [eu]using hq
     | succ m=>simpa using e2 m (by simpa using hm) (by have z:m+1<j'+1:=Yt;lia)
def S5(x:D)(ds:T0 D)(M:Mp)(Q:DK):Prop:=match x,ds with
 | .ref a,[y]=>(oU M a).elim False λes=>vt y=Db/\es.all vt=Db/\(BM y es).elim False λj=>Q (.int (j:Nat)) M
 | _,_=>False
def M3(X:Cx)(id:String)(r:D->T0 D->Mp->DK->Prop):Prop:=WQ X id λvx vs H Q'=>∃x ds M Q,sA X.K H x vx/\qF X.K H ds vs/\HM X.K H M/\r x ds M Q/\Up X.K H Q' Q
def OM:M3 X "list.index" S5:=by
 intro Yj s Y H vx vs v us Q' I rx rv h;obtain⟨x,ds,M,Q,hx,hd,hm,q,k⟩:=h;unfold S5 at q;split at q
 .rename_i a y;obtain⟨es,e0,f1,f2,q⟩:=rD q;obtain⟨j,e1,q⟩:=rD q;cases hx.mU;cases rx;obtain⟨w,rfl,hw⟩:=tj hd;obtain⟨u,rfl,ru⟩:=y9 rv;obtain⟨xs,h1,h2,rd⟩:=qx hm e0;obtain⟨hz,its,n,r,g⟩:=rd.ok I.m9;obtain⟨hl,p1,p2⟩:=Kf hw f1 h2 r f2 e1;have hlz:its.length<=Ch:=by rw[<-r.length];exact hz
  have h63:=zd;refine i9 F.slot_list_index ⟨_,g,Z'⟩ F.entry_list_index (F.args_list_index_2 _ _) (SeqAt.list_indexAt a its.toArray n Fa #[] u (E5 w) j (by simpa using hl) (by lia) (by simpa using p1) λm hm Yt=>by simpa using p2 m (by simpa using hm) Yt) ⟨g,?_,?_⟩
  .intro z hz';exact xh ru (Af hw f1) r (Fs h2 f2) z (by simpa using hz')
  .exact⟨.int (j:Nat),H,I.tok _,⟨_,Z'⟩,k _ _ _ _ .int hm .refl q⟩
 .exact q.elim
def R5(M:Mp):D->Prop
 | .ref a=>(oU M a).isSome=Db
 | _=>False
def Ww(r:D->T0 D->Mp->DK->Prop)(to:T3)(t:xA):T3:=λU M Q=>to U M λx M1=>R5 M1 x/\t U M1 λds M2=>r x ds M2 Q
def OY{K:qJ}{x:D}(hm:HM K H M)(h:sA K H x v)(l:R5 M x):WE K "list" v H:=by
 cases x with
 | ref a=>cases h.mU;obtain⟨ds,e⟩:=fJ.mp (show(oU M a).isSome=Db from l);obtain⟨xs,h1,_⟩:=qx hm e;exact .inl ⟨Z',xs,h1⟩
 | _=>exact l.elim
def R7{id:String}(slot:Slot "list" name id)(hty:typeOf (.builtin id)=pure (.type "method_descriptor"))(hm:M3 X id r)(ho:E3 X o ta)(ha:A3 X (e::es) t) (Ys:Ps o name X.env (wp o X.env)=wp o X.env:=by rfl)
  (ZF:((xz pos (Tl (e::es) X.env)).all (λx=>!x.1)&&(IN pos (Rs [] X.env)).all (λx=>x.1.isSome)
   &&decide ((e::es).length+([]:T0 XXf).length+(if ([]:T0 XXf).isEmpty then 0 else 1)<30))=Db:=by rfl)
  (Yy:(Ym.endLine==pos.line)=Db:=by rfl) (hs:BN X e es:=by rfl) (YD:Cd X pos es:=by rfl):
  E3 X (.Call (.Attribute o name Ym) (e::es) [] pos) (Ww r ta t):=PE.mono (UQ jW slot hty hm ho ha Ys ZF Yy hs YD) λY H Q' zz=>x7 zz λU M Q hs hm ht k=>
 ⟨U,M,_,hs,hm,ht,λv H1 x M1 hx Yl e1 q1=>⟨OY Yl hx q1.1,U,M1,_,hs.mono e1,Yl,q1.2,λvs H2 ds M2 ZE YB e2 q2=>⟨x,ds,M2,Q,hx.mono e2,ZE,YB,q2,vH (e1.trans e2) k⟩⟩⟩
def yp(ho:E3 X o ta)(ha:A3 X (e::es) t) (Ys:Ps o "index" X.env (wp o X.env)=wp o X.env:=by rfl)
  (ZF:((xz pos (Tl (e::es) X.env)).all (λx=>!x.1)&&(IN pos (Rs [] X.env)).all (λx=>x.1.isSome)
   &&decide ((e::es).length+([]:T0 XXf).length+(if ([]:T0 XXf).isEmpty then 0 else 1)<30))=Db:=by rfl)
  (Yy:(Ym.endLine==pos.line)=Db:=by rfl) (hs:BN X e es:=by rfl) (YD:Cd X pos es:=by rfl):
  E3 X (.Call (.Attribute o "index" Ym) (e::es) [] pos) (Ww S5 ta t):=R7 PySem.F.slot_list_index PySem.F.type_list_index OM ho ha Ys ZF Yy hs YD
structure NC(K:qJ)(C:Uf)(m:Str)(f:Uf):Prop where
 hg:W.specialIn K (.ref C) "__getattribute__"=ga (ga (.builtin "type.__getattribute__"))
 rd:W.readsIn K C (.type "type")=Db
 fc:W.findCls K (.ref C) (.type "type") m=ga (.val (.ref f))
def Pw{sp:Sp}{t:TA}{pl:Sem Bool}(cm:NC X.K C m f)(F:xU X.prog X.w X.K X.mg X.base Pa k f fd ps sp)(hr:sJ k X.A)(hg:Gl X x)(hm:X.mg x=ga (.ref C))(hk:W.keepIn X.K (.ref f)=Db)(hb:ve X.K fd ps [])(ha:PA X (e::es) t) (YC:zF x:=by decide) (YG:BN X e es:=by rfl) (YA:Cd X pos es:=by rfl)
  (ht:wp (.Call (.Attribute (.Name x p) m Ym) (e::es) [] pos) X.env=(do
   let ov<-wp (.Name x p) X.env
   XXd Ym.atName
   let(f,first)<-sB [ov] (o0 ov m pl)
   XXi pos f first (xz pos (Tl (e::es) X.env)) (IN pos (Rs [] X.env))):=by rfl):
  PE X (.Call (.Attribute (.Name x p) m Ym) (e::es) [] pos) (λY H Q=>t Y H λvs H1=>sp vs H1 Q E0):=by
 intro Yj s Y H Q I h;refine j6 (pl:=pl) (xp I hg hm ?_ YC) ht;refine W.method_cls I.nB cm.hg (W.cls_value I.nB cm.rd cm.fc Z' ?_);refine iZ (first:=[]) (h₀:=X.base) I.ok.mod.oJ hk (tz (ha pos Yj _ Y H _ (I.tok _) h) λus s2 zz=>x5 zz λvs H2 I2 r q2=>⟨I2.nB,?_⟩) YG YA;exact E6 F hr hb .nil (HF (X:=X)) I2 r (by rw[eN];exact q2)
def QJ{pl:Sem Bool}(cm:NC X.K C m f)(F:UN X.prog X.w X.K X.mg X.base k f fd ps sp)(hr:sJ k X.A)(hg:Gl X x)(hm:X.mg x=ga (.ref C))(hk:W.keepIn X.K (.ref f)=Db)(hb:ve X.K fd ps [])(ha:A3 X (e::es) t) (YC:zF x:=by decide) (YG:BN X e es:=by rfl) (YA:Cd X pos es:=by rfl)
  (ht:wp (.Call (.Attribute (.Name x p) m Ym) (e::es) [] pos) X.env=(do
   let ov<-wp (.Name x p) X.env
   XXd Ym.atName
   let(f,first)<-sB [ov] (o0 ov m pl)
   XXi pos f first (xz pos (Tl (e::es) X.env)) (IN pos (Rs [] X.env))):=by rfl):
  E3 X (.Call (.Attribute (.Name x p) m Ym) (e::es) [] pos) (Ew sp t):=PE.mono (Pw cm F hr hg hm hk hb ha YC YG YA ht) λY H Q' zz=>x7 zz λU M Q hs hm ht k=>
 ⟨U,M,_,hs,hm,ht,λvs H1 ds M1 hd Yl e1 q1=>⟨ds,M1,Q,hd,Yl,q1,vH e1 k⟩⟩
def qO:zn "len"=ga (.builtin "len"):=by decide+kernel
def NO:zn "min"=ga (.builtin "min"):=by decide+kernel
def yX:zn "isinstance"=ga (.builtin "isinstance"):=by decide+kernel
def FL:zn "all"=ga (.builtin "all"):=by decide+kernel
def tq:zn "tuple"=ga (.type "tuple"):=by decide+kernel
def sO:zn "list"=ga (.type "list"):=by decide+kernel
def PR:zn "bool"=ga (.type "bool"):=by decide+kernel
def Gk:zn "dict"=ga (.type "dict"):=by decide+kernel
def E9:zn "enumerate"=ga (.type "enumerate"):=by decide+kernel
def L8:zn "zip"=ga (.type "zip"):=by decide+kernel
end
theorem _root_.L2.Inv.drawn{ch:QXQ}{T:Uf}{xs:T0 V}{h':No}{tk:Nat}(I:Inv X Yj Y H s)(Zl:∀b∈ch,zN X Yj H b)(k:∀b o,b∉ch->s.heap.get? b=ga o->h'.get? b=ga o)(hT:s.heap.objs.size<=T)(hx:xs.length<=Ch) (rv:qL xs its) (ht:FN h' T its.toArray):Inv X Yj Y (upd H T (.tup xs)) {s with heap:=h',toks:=tk}:=by
 have hT0:H T=Fa:=I.m9.fresh hT;have nT:∀b o,s.heap.get? b=ga o->b≠T:=λb o e=>dM (dU (dC e) hT);refine I.step (g':=s.gens) (d':=s.drawn) (ch:=ch) (λb hb=>⟨(Zl b hb).2.2.2.1,(Zl b hb).2.1,(Zl b hb).2.2.2.2.1,(Zl b hb).2.2.2.2.2⟩) (λb o _ _ hc e _=>k b o hc e) (λb o _ _ hc e _=>⟨o.slots,k b o hc e⟩) (λb o _ e n=>by rw[qv (nT b o e)];exact n)
  (λb o hc e=>⟨o,k b o hc e⟩) (λb ys e=>by rw[qv (rE e hT0)];exact e) (λb o u e=>by rw[qv (rE e hT0)];exact e) (λb ps e=>⟨#[],by rw[qv (rE e hT0),e];simp⟩) (λm hm=>?_) (λb u e=>?_) I.bare
 .obtain⟨o,es,ep,ho,r⟩:=hm;exact⟨o,es,ep,k _ o (λz=>(Zl _ z).2.1 Z') ho,r⟩
 .by_cases hb:b=T
  .subst hb;rw[qC]at e;cases e;exact⟨hx,its,rv,ht⟩
  .rw[qv hb]at e;refine(I.m9 b u e).nH (λc v hc q=>k c v (λz=>?_) q) (λc q=>by rw[qv (rE q hT0)];exact q) (λc ys q=>by rw[qv (rE q hT0)];exact q);have n:=(Zl c z).1;rcases hc with y|y
   .rw[y,e]at n;cases n
   .rw[y]at n;cases n
noncomputable def XA(K:qJ)(a:Uf):It:=
 ⟨λi H=>∃xs x,xW K H a xs/\xs[i]?=ga x,λi H x H'=>∃p y,x=.ref p/\H p=Fa/\H'=upd H p (.tup [.int (i:Nat),y])/\∀xs,xW K H a xs->xs[i]?=ga y,λi H=>∃xs,xW K H a xs/\xs.length<=i⟩
def LY{K:qJ}(a e it:Uf)(hei:e≠it):HL P w K (.Tuple YK n tp) (XA K a) [e,it] e (λi h=>(∃YR,IsEnum h e it (i:Nat) YR)/\h.IsListIter it a i) where
 mem:=by simp
 obj:=λi h st b hb=>by
  obtain⟨⟨YR,he⟩,o,e1,c,d⟩:=st;rcases dz.mp hb with rfl|hb
  .exact⟨_,he,λv z=>by cases z⟩
  .rw[dB.mp hb];exact⟨o,e1,λv z=>by rw[d]at z;cases z⟩
 keep:=λi h h' st k=>by obtain⟨⟨YR,he⟩,hi⟩:=st;exact⟨⟨YR,k e (by simp) _ he⟩,hi.at λo q=>k it (by simp) o q⟩
 item:=by
  intro X hP hw hK hc i Yj s Y H E I hf st hg;subst hP hw hK;obtain⟨xs,x,hq,hx⟩:=hg;obtain⟨its,rv,p,hz⟩:=I.list hq;obtain⟨u,hu,ru⟩:=rv.get hx;obtain⟨⟨YR,he⟩,hi⟩:=st;refine wpAny_pyNext_enum_item he hi p.isList (x:=u) (by simpa using hu) hei λh1 ho ZZ hT hsz hk=>?_;refine⟨_,Z',wpAny_letOwnedTupleGo_enum ho λh2 he2 YZ=>?_⟩;have helt:e<s.heap.objs.size:=dC he;have hilt:it<s.heap.objs.size:=by obtain⟨o,q,_⟩:=hi;exact dC q
  have kk:∀b o,b∉[e,it]->s.heap.get? b=ga o->h2.get? b=ga o:=λb o hb q=>(YZ.2 b λz=>hb (by simp[z])).trans (hk b o (λz=>hb (by simp[z])) (λz=>hb (by simp[z])) q);have hT2:h2.get? s.heap.objs.size=ga {cls:=.type "tuple",data:=.seq #[.int (i:Nat) s.toks,u]}:=(YZ.2 _ (gM helt)).trans hT;have hT0:H s.heap.objs.size=Fa:=I.m9.fresh (dw _);have I2:=I.drawn (ch:=[e,it]) (T:=s.heap.objs.size) (xs:=[.int (i:Nat),x]) (its:=[.int (i:Nat) s.toks,u]) (h':=h2) (tk:=s.toks+1) hf kk (dw _) (by show 2<=Ch;decide) (.cons ⟨_,Z'⟩ (.cons ru .nil)) ⟨_,hT2,Z',⟨_,Z'⟩,Z'⟩;refine⟨.ref s.heap.objs.size,_,I2,Z',⟨_,x,Z',hT0,Z',λys hy=>by rw[I.nV hy hq];exact hx⟩,⟨⟨_,by simpa using he2⟩,ZZ.extBut YZ.extBut (dZ hei)⟩,λb hb=>?_⟩;have Zd:b<s.heap.objs.size:=by
   rcases dz.mp hb with z|z
   .rw[z];exact helt
   .rw[dB.mp z];exact hilt
  rw[qv (dM Zd)];exact(hf b hb).1
 done:=by intro X hP hw hK hc i Yj s Y H E I hf st hg;subst hP hw hK;obtain⟨xs,hq,hx⟩:=hg;obtain⟨its,rv,p,hz⟩:=I.list hq;obtain⟨⟨YR,he⟩,hi⟩:=st;have hl:=rv.length;obtain⟨f0,f1,f2,f3,f4,f5⟩:=hf it (by simp);exact wpAny_pyNext_enum_end (I.ok.hd hc) he hi p.isList (by simp;lia) λh' eb=>⟨Z',I.turned (t':=s.toks) (λb o hb q=>eb b o hb q) f0 f1 f3 f4 f5⟩
 self:=λ_ _ _ _ _ st h=>by obtain⟨⟨YR,he⟩,_⟩:=st;exact lK he h
variable {tp:Pos}{YK:T0 Go}{n:Nat}
def Pl{a:Go}{ta:TA}(hg:Gl X "enumerate")(hm:X.mg "enumerate"=Fa)(ha:PA X [a] ta)(hs:Tl [a] X.env=[(pc,wp a X.env)]:=by rfl):
  PI X (.Tuple YK n tp) (.Call (.Name "enumerate" p) [a] [] pos) (λY H R=>ta Y H λvs H1=>∃l,vs=[.ref l]/\(∃xs,xW X.K H1 l xs)/\R (XA X.K l) H1):=by
 intro Yj s Y H R I h;refine Call_ (vY I hg hm E9 (fC (tz (ha pos Yj s Y H _ I h) λus s1 zz=>x5 zz λvs H1 I1 r1 q1=>?_) hs Z'));obtain⟨l,e,⟨xs,hq⟩,q⟩:=q1;subst e;obtain⟨u,rfl,ru⟩:=y9 r1;cases ru;obtain⟨its,rv,pl,hz⟩:=I1.list hq;refine call_enumerate_list pl.isList λh' he hi hsz hk=>?_;refine lK he ?_;have I2:Inv X Yj Y H1 {s1 with heap:=h'}:=I1.kept (t':=s1.toks) hk;refine⟨s1.heap.objs.size+1,[s1.heap.objs.size+1,s1.heap.objs.size],_,_,H1,Z',I2,LY l _ _ (Nat.succ_ne_self _),⟨⟨_,he⟩,hi⟩,λb hb=>?_,q⟩;have Zd:s1.heap.objs.size<=b:=by
  rcases dz.mp hb with z|z
  .rw[z];exact gY _
  .rw[dB.mp z];exact dw _
 exact I1.oo Zd (I1.m9.fresh Zd)
noncomputable def ug:Nat->T0 D->T0 D
 | _,[]=>[]
 | i,d::r=>.tup [.int (i:Nat),d]::ug (i+1) r
theorem xZ:∀{ds:T0 D} {i j:Nat},(ug j ds)[i]?=(ds[i]?).map λd=>D.tup [.int ((j+i:Nat):Int),d]
 | [],i,j=>by simp[ug]
 | d::r,0,j=>by simp[ug]
 | d::r,i+1,j=>by show(ug (j+1) r)[i]?=_;rw[xZ];simp only[List.getElem?_cons_succ];rw[show j+1+i=j+(i+1)by lia]
theorem ue:∀{ds:T0 D} {j:Nat},(ug j ds).length=ds.length
 | [],j=>rfl
 | d::r,j=>by simp[ug,ue]
def NP{K:qJ}:GA K H1 (XA K a) (ug 0 ds) (λM=>oU M a=ga ds) where
 go:=λi H M hi hm ok _=>by rw[ue]at hi;obtain⟨xs,h1,h2,_⟩:=qx hm ok;obtain⟨x,e,_⟩:=h2.get (cZ hi);exact⟨xs,x,h1,e⟩
 pz:=λi d H M x H' hd hm ok _ y=>by
  obtain⟨xs,h1,h2,_⟩:=qx hm ok;obtain⟨p,z,rfl,hp,rfl,y⟩:=y;rw[xZ]at hd;cases e:ds[i]? with
  | none=>rw[e]at hd;cases hd
  | some d'=>rw[e]at hd;cases hd;obtain⟨x',e',hx⟩:=h2.get e;have w1:=y xs h1;rw[e']at w1;have w2:x'=z:=dq w1;subst w2;have ex:rC K H (upd H p (.tup [.int (i:Nat),x'])):=.new hp;refine⟨.tup (.of qC) (.cons (by rw[lj];exact .int) (.cons (hx.mono ex) .nil)),hm.add hp,ex⟩
 stop:=λH M hm ok _=>by obtain⟨xs,h1,h2,_⟩:=qx hm ok;exact⟨xs,h1,by rw[ue,h2.length];exact dw _⟩
def Sg(t:xA):NY:=λU M R=>t U M λds M1=>match ds with
 | [.ref a]=>(oU M1 a).elim False λes=>R (ug 0 es) (λM=>oU M a=ga es) M1
 | _=>False
def um{a:Go}{ta:xA}(hg:Gl X "enumerate")(hm:X.mg "enumerate"=Fa)(ha:A3 X [a] ta)(hs:Tl [a] X.env=[(pc,wp a X.env)]:=by rfl):I3 X (.Tuple YK n tp) (.Call (.Name "enumerate" p) [a] [] pos) (Sg ta):=
 PI.mono (Pl hg hm ha hs) λY H R' zz=>x7 zz λU M R hs hm ht k=>⟨U,M,_,hs,hm,ht,λvs H1 ds M1 hd Yl e1 q1=>by
  split at q1
  .obtain⟨v,rfl,hv⟩:=tj hd;cases hv.mU;obtain⟨es,e0,q⟩:=rD q1;obtain⟨xs,h1,h2,_⟩:=qx Yl e0;exact⟨_,Z',⟨xs,h1⟩,k _ H1 _ _ M1 NP Yl e1 e0 q⟩
  .exact q1.elim⟩
variable {prog:Pg}{A:Ar}{E:QQX}
def Jr{it t:Uf}{i:Nat}{its:Array Vl}{x:Vl}{Q:QQX}(hi:s.heap.IsTupleIter it t i)(ht:s.heap.IsTuple t its)(hx:its[i]?=ga x) (hQ:∀g,g.IsTupleIter it t (i+1)->Heap.SameBut it s.heap g->Q x {s with heap:=g}):pi (Tk prog w) A (Builtin.SmallTypes.nextOf (.ref it)) Q E s:=by
 obtain⟨ob,e1,e2,e3⟩:=id hi;obtain⟨ot,e4,_,nt,e5⟩:=ht;unfold Builtin.SmallTypes.nextOf;refine cY (fN (name:=Str.ofString "__next__") hi.typeIs gH (fT gH hi.typeIs jt ?_ (jo _)));show pi (Tk prog w) _ (field (.ref it) 0>>=_) _ _ s;refine cY (fj e1 e3 (x:=.ref t) Z' ?_);show pi (Tk prog w) _ (if (Value.ref t==Value.none)=Db then _ else _) _ _ s;rw[df (show ¬(Value.ref t==Value.none)=Db from dE)];show pi (Tk prog w) _ (field (.ref it) 1>>=_) _ _ s;refine cY (fj e1 e3 (x:=.int i 0) Z' ?_);show pi (Tk prog w) _ (seqItems? (.ref t)>>=_) _ _ s;refine cY (gA e4 e5 ?_);simp only[iQ,hx];refine cY (ia e1 e3 (by simp) (dv ⟨x,Z',dv (hQ _ ⟨_,fK _ e1 (Obj.isFreed_of_fields (lq e3 _)),(Obj.cls_mapFields ..).trans e2,?_⟩ (kO ..))⟩));rw[lq e3];simp[Y']
def Cq{it t:Uf}{i:Nat}{its:Array Vl}{Q:QQX}(hh:A.handled=Fa)(hi:s.heap.IsTupleIter it t i)(ht:s.heap.IsTuple t its)(hx:its[i]?=Fa) (hE:∀g e,Heap.ExtBut it s.heap g->(∃o,g.get? e=ga o/\o.cls=.type "StopIteration")->E (.ref e) {s with heap:=g}):pi (Tk prog w) A (Builtin.SmallTypes.nextOf (.ref it)) Q E s:=by
 obtain⟨ob,e1,e2,e3⟩:=id hi;obtain⟨ot,e4,_,nt,e5⟩:=ht;unfold Builtin.SmallTypes.nextOf;refine cY (fN (name:=Str.ofString "__next__") hi.typeIs gH (fT gH hi.typeIs jt ?_ (jo _)));show pi (Tk prog w) _ (field (.ref it) 0>>=_) _ _ s;refine cY (fj e1 e3 (x:=.ref t) Z' ?_);show pi (Tk prog w) _ (if (Value.ref t==Value.none)=Db then _ else _) _ _ s;rw[df (show ¬(Value.ref t==Value.none)=Db from dE)];show pi (Tk prog w) _ (field (.ref it) 1>>=_) _ _ s;refine cY (fj e1 e3 (x:=.int i 0) Z' ?_);show pi (Tk prog w) _ (seqItems? (.ref t)>>=_) _ _ s;refine cY (gA e4 e5 ?_);simp only[iQ,hx];refine cY (ky (cY (ia e1 e3 (by simp) ?_)));show pi (Tk prog w) _ (newExc (.type "StopIteration") []>>=_) _ _ _;refine cY ?_;simp only[newExc,newTuple];refine cY (fV ?_ (by size_fits));refine cY (m:=firstArgMember _ _) (wpAny_of_eq (a:=Value.none) (by first|rfl|(simp only[firstArgMember];rfl)) ?_);refine fV ?_ (by size_fits);simp only[raiseNew];refine cY (wpAny_handled ?_)
 first|rw[show A.in1.handled=Fa from hh]|rw[hh]
 refine cY (dv (wpAny_throw (hE _ _ (((kO ..).extBut.push _).push _) ⟨_,dJ _ Z',Z'⟩)))
def LW{prog:Pg}{w:Wo}{A:Ar}(hh:A.handled=Fa)(it t:Uf)(YI:t≠it)(its:Array Vl):
  Draws prog w A it [it,t] its.size (λi v=>its[i]?=ga v) (λi h=>h.IsTupleIter it t i/\h.IsTuple t its) where
 live:=λi h st=>let⟨o,ho,_⟩:=st.1;⟨o,ho⟩
 frame:=λi h g st hk=>by obtain⟨⟨o,e1,e2⟩,⟨o',e3,e4⟩⟩:=st;exact⟨⟨o,hk it (by simp) o e1,e2⟩,⟨o',hk t (by simp) o' e3,e4⟩⟩
 item:=λi s Q E hi st hQ=>Jr st.1 st.2 (x:=its[i]) (by simp[hi]) λg hg hs=>hQ _ g s.toks (by simp[hi]) ⟨hg,st.2.extBut hs.extBut YI⟩ hs
 done:=λs Q E st hE=>Cq hh st.1 st.2 (by simp) hE
structure DA(z TI TO i1 i2:Uf)(f1 f2:QXQ):Prop where
 a1:TI≠z
 a2:TO≠z
 a3:i1≠z
 a4:i2≠z
 a5:TI≠TO
 a6:TI≠i1
 a7:TI≠i2
 a8:TO≠i1
 a9:TO≠i2
 pK:i1≠i2
 b1:z∉f1
 b2:TO∉f1
 b3:i2∉f1
 c1:z∉f2
 c2:TO∉f2
 c3:i1∉f2
variable {z TI TO i1 i2:Uf}{f1 f2:QXQ}{n1 n2 k1 k2:Nat}{P1 P2:Nat→Vl→Prop}{S1 S2:Nat→No→Prop}
section
variable {a b:Vl}
def sX{St:Nat->No->Prop}(Dr:Draws prog w A it fp n Pt St){i:Nat}{h g:No}{c:Uf}(st:St i h)(hs:Heap.SameBut c h g)(hc:c∉fp):St i g:=
 Dr.frame _ _ _ st λd hd o e=>(hs.2 d λq=>hc (q ▸ hd)).trans e
def Lw{Q:QQX}(D1:Draws prog w A i1 f1 n1 P1 S1)(D2:Draws prog w A i2 f2 n2 P2 S2)(YE:DA z TI TO i1 i2 f1 f2)(hz:XYa s.heap z TI TO .none)(hI:TD s.heap TI (.ref i1) (.ref i2))(hO:TD s.heap TO a b) (YX:S1 k1 s.heap) (YH:S2 k2 s.heap) (l1:k1<n1) (l2:k2<n2) (hQ:∀x y g tk,P1 k1 x->P2 k2 y->XYa g z TI TO (Y' s.heap.objs.size)->TD g TO x y->S1 (k1+1) g->S2 (k2+1) g->TD g s.heap.objs.size x y->g.objs.size=s.heap.objs.size+1->
   (∀c o,c≠z->c≠TO->c≠i1->c≠i2->s.heap.get? c=ga o->g.get? c=ga o)->Q (.ref s.heap.objs.size) {s with heap:=g,toks:=tk}):
  pi (Tk prog w) A (Builtin.«zip.__next__» ⟨[.ref z],[]⟩) (λYn s'=>∃v,Yn=.done (.ret v)/\Q v s') E s:=by
 show pi (Tk prog w) A (field (.ref z) 2>>=_) _ _ _;refine cY (fj hz Z' (x:=.bool pc) Z' ?_);show pi (Tk prog w) A (field (.ref z) 3>>=_) _ _ _;refine cY (fj hz Z' (x:=.ref TI) Z' (cY (gA hI Z' ?_)));show pi (Tk prog w) A (Builtin.SmallTypes.ownedTupleIsFree (.ref z)>>=_) _ _ _;refine cY ?_;unfold Builtin.SmallTypes.ownedTupleIsFree;refine cY (fj hz Z' (x:=.none) Z' (dv ?_));simp only[jm];refine cY (ky (cY (fj hz Z' (x:=.ref TO) Z' (cY (gF hz (by simp) λg1 z1 sb1=>?_)))));replace z1:XYa g1 z TI TO .ellipsis:=z1;refine cY ?_;simp only[mf,mx,jZ,ke];refine cY (cY (jw ?_));show pi (Tk prog w) A (Builtin.SmallTypes.nextOf (.ref i1)>>=_) _ _ _;have st1a:S1 k1 g1:=sX D1 YX sb1 YE.b1;refine cY (D1.item k1 _ _ _ l1 st1a λx g2 tk2 px st1b Zo=>dv ?_);replace Zo:Heap.SameBut i1 g1 g2:=Zo;have o2:TD g2 TO a b:=Zo.extBut _ _ YE.a8 (sb1.extBut _ _ YE.a2 hO);refine cY (gA o2 Z' (cY (jd o2 λg3 o3 Zw=>?_)));replace o3:TD g3 TO x b:=o3;replace Zw:Heap.SameBut TO g2 g3:=Zw;refine cY (lQ (dv (cY (cY (jw ?_)))));show pi (Tk prog w) A (Builtin.SmallTypes.nextOf (.ref i2)>>=_) _ _ _;have st2a:S2 k2 g3:=sX D2 (sX D2 (sX D2 YH sb1 YE.c1) Zo YE.c3) Zw YE.c2;refine cY (D2.item k2 _ _ _ l2 st2a λy g4 tk4 py st2b sb4=>dv ?_);replace sb4:Heap.SameBut i2 g3 g4:=sb4;have o4:TD g4 TO x b:=sb4.extBut _ _ YE.a9 o3;refine cY (gA o4 Z' (cY (jd o4 λg5 o5 sb5=>?_)));replace o5:TD g5 TO x y:=o5;replace sb5:Heap.SameBut TO g4 g5:=sb5;refine cY (lQ (dv (dv (cY (gA o5 Z' (cY (wpAny_newTuple ?_)))))));have esz:g5.objs.size=s.heap.objs.size:=by rw[sb5.1,sb4.1,Zw.1,Zo.1,sb1.1]
 have z5:XYa g5 z TI TO .ellipsis:=sb5.extBut _ _ YE.a2.symm (sb4.extBut _ _ YE.a4.symm (Zw.extBut _ _ YE.a2.symm (Zo.extBut _ _ YE.a3.symm z1)));have kp:∀c o,c≠z->c≠TO->c≠i1->c≠i2->s.heap.get? c=ga o->g5.get? c=ga o:=λc o q1 q2 q3 q4 q=>sb5.extBut _ _ q2 (sb4.extBut _ _ q4 (Zw.extBut _ _ q2 (Zo.extBut _ _ q3 (sb1.extBut _ _ q1 q))));have st1c:S1 (k1+1) g5:=sX D1 (sX D1 (sX D1 st1b Zw YE.b2) sb4 YE.b3) sb5 YE.b2;have st2c:S2 (k2+1) g5:=sX D2 st2b sb5 YE.c2;have zlt:z<g5.objs.size:=dC z5;show pi (Tk prog w) A (Builtin.SmallTypes.ownedTupleHandOut (.ref z) (.ref g5.objs.size)>>=_) _ _ _;refine cY ?_;unfold Builtin.SmallTypes.ownedTupleHandOut;have z6:XYa (g5.push {cls:=.type "tuple",data:=.seq #[x,y]}) z TI TO .ellipsis:=dg _ z5;refine cY (gF z6 (by simp) λg7 z7 sb7=>?_);replace z7:XYa g7 z TI TO (Y' g5.objs.size):=z7;refine gF z7 (by simp) λg8 z8 sb8=>?_;replace z8:XYa g8 z TI TO (Y' g5.objs.size):=z8;have up:∀c o,c≠z->g5.get? c=ga o->g8.get? c=ga o:=λc o q1 q=>sb8.extBut _ _ q1 (sb7.extBut _ _ q1 (dg _ q));have tu:TD g8 g5.objs.size x y:=sb8.extBut _ _ (gM zlt) (sb7.extBut _ _ (gM zlt) (dJ _ Z'));have es8:g8.objs.size=g5.objs.size+1:=by rw[sb8.1,sb7.1,fu]
 rw[esz]at z8 tu es8;refine dv ⟨_,Z',?_⟩;show Q (.ref g5.objs.size) _;rw[esz];exact hQ x y g8 _ px py z8 (up _ _ YE.a2 o5) (D1.frame _ _ _ st1c λc hc o q=>up c o (λr=>YE.b1 (r ▸ hc)) q) (D2.frame _ _ _ st2c λc hc o q=>up c o (λr=>YE.c1 (r ▸ hc)) q) tu es8 λc o q1 q2 q3 q4 q=>up c o q1 (kp c o q1 q2 q3 q4 q)
def Ni{Q:Fin->Sd->Prop}(D1:Draws prog w A i1 f1 n1 P1 S1)(D2:Draws prog w A i2 f2 n2 P2 S2)(YE:DA z TI TO i1 i2 f1 f2)(hz:XYa s.heap z TI TO .none)(hI:TD s.heap TI (.ref i1) (.ref i2))(hO:TD s.heap TO a b) (YX:S1 k1 s.heap) (YH:S2 k1 s.heap) (hend:k1=n1\/(k1<n1/\k1=n2)) (hE:∀g e,(∀c o,c≠z->c≠TO->c≠i1->c≠i2->s.heap.get? c=ga o->g.get? c=ga o)->(∃o,g.get? e=ga o/\o.cls=.type "StopIteration")->∀tk,E (.ref e) {s with heap:=g,toks:=tk}):
  pi (Tk prog w) A (Builtin.«zip.__next__» ⟨[.ref z],[]⟩) Q E s:=by
 show pi (Tk prog w) A (field (.ref z) 2>>=_) _ _ _;refine cY (fj hz Z' (x:=.bool pc) Z' ?_);show pi (Tk prog w) A (field (.ref z) 3>>=_) _ _ _;refine cY (fj hz Z' (x:=.ref TI) Z' (cY (gA hI Z' ?_)));show pi (Tk prog w) A (Builtin.SmallTypes.ownedTupleIsFree (.ref z)>>=_) _ _ _;refine cY ?_;unfold Builtin.SmallTypes.ownedTupleIsFree;refine cY (fj hz Z' (x:=.none) Z' (dv ?_));simp only[jm];refine cY (ky (cY (fj hz Z' (x:=.ref TO) Z' (cY (gF hz (by simp) λg1 z1 sb1=>?_)))));replace z1:XYa g1 z TI TO .ellipsis:=z1;refine cY ?_;simp only[mf,mx,jZ,ke];refine cY (cY (jw ?_));show pi (Tk prog w) A (Builtin.SmallTypes.nextOf (.ref i1)>>=_) _ _ _;have st1a:S1 k1 g1:=sX D1 YX sb1 YE.b1;rcases hend with he|⟨Yt,he⟩
 .rw[he]at st1a;refine cY (D1.done _ _ _ st1a λg2 e Zo hx=>?_);obtain⟨oe,g,hce⟩:=hx;have z2:XYa g2 z TI TO .ellipsis:=Zo _ _ YE.a3.symm z1;have hez:e≠z:=λq=>by subst q;rw[z2]at g;cases g;simp at hce
  exact gF z2 (by simp) λg3 _ Zw=>hE g3 e (λc o q1 _ q3 _ q=>Zw.extBut _ _ q1 (Zo _ _ q3 (sb1.extBut _ _ q1 q))) ⟨oe,Zw.extBut _ _ hez g,hce⟩ _
 .refine cY (D1.item k1 _ _ _ Yt st1a λx g2 tk2 px st1b Zo=>dv ?_);replace Zo:Heap.SameBut i1 g1 g2:=Zo;have o2:TD g2 TO a b:=Zo.extBut _ _ YE.a8 (sb1.extBut _ _ YE.a2 hO);refine cY (gA o2 Z' (cY (jd o2 λg3 o3 Zw=>?_)));replace Zw:Heap.SameBut TO g2 g3:=Zw;refine cY (lQ (dv (cY (cY (jw ?_)))));show pi (Tk prog w) A (Builtin.SmallTypes.nextOf (.ref i2)>>=_) _ _ _;have st2a:S2 k1 g3:=sX D2 (sX D2 (sX D2 YH sb1 YE.c1) Zo YE.c3) Zw YE.c2;rw[he]at st2a;refine cY (D2.done _ _ _ st2a λg4 e sb4 hx=>?_);obtain⟨oe,g,hce⟩:=hx;have z4:XYa g4 z TI TO .ellipsis:=sb4 _ _ YE.a4.symm (Zw.extBut _ _ YE.a2.symm (Zo.extBut _ _ YE.a3.symm z1));have hez:e≠z:=λq=>by subst q;rw[z4]at g;cases g;simp at hce
  exact gF z4 (by simp) λg5 _ sb5=>hE g5 e (λc o q1 q2 q3 q4 q=>sb5.extBut _ _ q1 (sb4 _ _ q4 (Zw.extBut _ _ q2 (Zo.extBut _ _ q3 (sb1.extBut _ _ q1 q))))) ⟨oe,sb5.extBut _ _ hez g,hce⟩ _
end
abbrev Wx(h:No)(t:Uf):No:=h.push {cls:=.type "tuple_iterator",data:=.fields #[.ref t,.int 0 0]}
abbrev WG(h:No)(t u:Uf):No:=(Wx h t).push {cls:=.type "tuple_iterator",data:=.fields #[.ref u,.int 0 0]}
abbrev WK(h:No)(t u:Uf):No:=(WG h t u).push {cls:=.type "tuple",data:=.seq #[.ref h.objs.size,.ref (Wx h t).objs.size]}
abbrev WH(h:No)(t u:Uf):No:=(WK h t u).push {cls:=.type "tuple",data:=.seq #[.none,.none]}
abbrev UO(h:No)(t u:Uf):No:=(WH h t u).push {cls:=.type "zip",data:=.fields #[.none,.bool pc,.bool pc,.ref (WG h t u).objs.size,.ref (WK h t u).objs.size]}
def DO(t u:Uf)(xs ys:Array Vl):
  Meets (Builtin.«zip.__new__» ⟨[.type "zip",.ref t,.ref u],[]⟩) (λ_ R s=>s.heap.IsTuple t xs/\s.heap.IsTuple u ys/\R (.ok (.ret (.ref (WH s.heap t u).objs.size))) {s with heap:=UO s.heap t u}):=
 .of_wp λprog w A R s h=>by
  obtain⟨hp,g,d,tk,os⟩:=s;obtain⟨e1,e2,h⟩:=h;have Z7:=sub_zip;have q1:Heap.IsTuple (Shared.heap ⟨hp,g,d,tk,os⟩) t xs:=e1;have q2:Heap.IsTuple (Shared.heap ⟨hp.push {cls:=.type "tuple_iterator",data:=.fields #[.ref t,.int 0 0]},g,d,tk,os⟩) u ys:=Heap.IsTuple.push e2 _
  wp_walk using iE q1,iE q2
  exact⟨_,Z',h⟩
def Fb{t u:Uf}{xs ys:Array Vl}{Q:QQX}(ht:s.heap.IsTuple t xs)(hu:s.heap.IsTuple u ys) (h:∀g,XYa g (s.heap.objs.size+4) (s.heap.objs.size+2) (s.heap.objs.size+3) .none->TD g (s.heap.objs.size+2) (.ref s.heap.objs.size) (.ref (s.heap.objs.size+1))->TD g (s.heap.objs.size+3) .none .none->
   g.IsTupleIter s.heap.objs.size t 0->g.IsTupleIter (s.heap.objs.size+1) u 0->(∀c o,s.heap.get? c=ga o->g.get? c=ga o)->Q (.ref (s.heap.objs.size+4)) {s with heap:=g}):
  pi (Tk prog w) A (call (.type "zip") [.ref t,.ref u]) Q E s:=by
 refine callType_new F.called_zip (by decide) (F.typeCall_zip_2 _ _) (F.newCall_zip_2 _ _) (λobj=>F.args_object_init_3 obj _ _) F.entry_zip_new (DO t u xs ys) ⟨ht,hu,?_⟩;have m1:(Wx s.heap t).objs.size=s.heap.objs.size+1:=fu ..;have m2:(WG s.heap t u).objs.size=s.heap.objs.size+2:=by rw[fu,m1]
 have m3:(WK s.heap t u).objs.size=s.heap.objs.size+3:=by rw[fu,m2]
 have m4:(WH s.heap t u).objs.size=s.heap.objs.size+4:=by rw[fu,m3]
 have up:∀{h:No} {c:Uf} {o p:Obj},h.get? c=ga o->(h.push p).get? c=ga o:=λq=>dg _ q;have r5:(UO s.heap t u).get? (WH s.heap t u).objs.size=ga _:=dJ _ Z';have r4:(UO s.heap t u).get? (WK s.heap t u).objs.size=ga _:=up (dJ _ Z');have r3:(UO s.heap t u).get? (WG s.heap t u).objs.size=ga _:=up (up (dJ _ Z'));have r2:(UO s.heap t u).get? (Wx s.heap t).objs.size=ga _:=up (up (up (dJ _ Z')));have r1:(UO s.heap t u).get? s.heap.objs.size=ga _:=up (up (up (up (dJ _ Z'))));show _/\_;rw[m2,m3,m4]at r5;rw[m1,m2]at r3;rw[m3]at r4;rw[m1]at r2;rw[m4];exact⟨⟨_,r5,Z'⟩,h _ r5 r3 r4 ⟨_,r1,Z',Z'⟩ ⟨_,r2,Z',Z'⟩ λc o q=>up (up (up (up (up q))))⟩
def Hm{z TI TO i1 i2:Uf}{n1 n2 k:Nat}{P1 P2:Nat->Vl->Prop}{S1 S2:Nat->No->Prop}{Q:Option Vl->Sd->Prop}(D1:Draws prog w A.in1 i1 f1 n1 P1 S1)(D2:Draws prog w A.in1 i2 f2 n2 P2 S2)(YE:DA z TI TO i1 i2 f1 f2) (hz:XYa s.heap z TI TO .none) (hI:TD s.heap TI (.ref i1) (.ref i2)) (hO:TD s.heap TO a b) (YX:S1 k s.heap) (YH:S2 k s.heap) (l1:k<n1) (l2:k<n2) (hQ:∀x y g tk,P1 k x->P2 k y->XYa g z TI TO (Y' s.heap.objs.size)->TD g TO x y->S1 (k+1) g->S2 (k+1) g->TD g s.heap.objs.size x y->g.objs.size=s.heap.objs.size+1->
   (∀c o,c≠z->c≠TO->c≠i1->c≠i2->s.heap.get? c=ga o->g.get? c=ga o)->Q (ga (.ref s.heap.objs.size)) {s with heap:=g,toks:=tk}):pi (Tk prog w) A (pyNext (.ref z)) Q E s:=by
 have hT:s.TypeIs (.ref z) "zip":=⟨_,hz,Z'⟩;unfold pyNext;refine cY (wpAny_attempt (fN (name:=Str.ofString "__next__") hT je (fT je hT mh ?_ (lL _))));exact Lw D1 D2 YE hz hI hO YX YH l1 l2 λx y g tk q1 q2 q3 q4 q5 q6 q7 q8 q9=>dv (hQ x y g tk q1 q2 q3 q4 q5 q6 q7 q8 q9)
def BC{z TI TO i1 i2:Uf}{n1 n2 k:Nat}{P1 P2:Nat->Vl->Prop}{S1 S2:Nat->No->Prop}{Q:Option Vl->Sd->Prop}(D1:Draws prog w A.in1 i1 f1 n1 P1 S1)(D2:Draws prog w A.in1 i2 f2 n2 P2 S2)(YE:DA z TI TO i1 i2 f1 f2) (hz:XYa s.heap z TI TO .none) (hI:TD s.heap TI (.ref i1) (.ref i2)) (hO:TD s.heap TO a b) (YX:S1 k s.heap) (YH:S2 k s.heap) (hend:k=n1\/(k<n1/\k=n2)) (hQ:∀g tk,(∀c o,c≠z->c≠TO->c≠i1->c≠i2->s.heap.get? c=ga o->g.get? c=ga o)->Q Fa {s with heap:=g,toks:=tk}):pi (Tk prog w) A (pyNext (.ref z)) Q E s:=by
 have hT:s.TypeIs (.ref z) "zip":=⟨_,hz,Z'⟩;unfold pyNext;refine cY (wpAny_attempt (fN (name:=Str.ofString "__next__") hT je (fT je hT mh (Ni D1 D2 YE hz hI hO YX YH hend λg e kp hx tk=>?_) (lL _))));obtain⟨o,e1,e2⟩:=hx;exact cY (wpAny_isInstance (T:="StopIteration") (b:=true) ⟨o,e1,e2⟩ isSubtype_stop (dv (hQ g tk kp)))
def Sm(I:Inv X Yj Y H s)(f:zN X Yj H b)(q:wm X.K H a xs):a≠b:=by
 rintro rfl
 rcases q with q|⟨o,its,n,hk,_⟩
 .have z:=f.1;rcases q with q|⟨u,q⟩<;>(rw[q]at z;cases z)
 .have e:=I.mod.oJ a o hk;rcases f.2.2.2.1 with z|z
  .exact I.ok.nZ a o e z
  .exact absurd (dU (dC e) (eh I.ok.oq z)) (eW _)
noncomputable def UH(Sq:qJ->Hp->Uf->T0 V->Prop)(K:qJ)(a b:Uf):It:=
 ⟨λi H=>∃xs ys x y,Sq K H a xs/\Sq K H b ys/\xs[i]?=ga x/\ys[i]?=ga y,λi H v H'=>∃p x y,v=.ref p/\H p=Fa/\H'=upd H p (.tup [x,y])/\(∀xs,Sq K H a xs->xs[i]?=ga x)/\(∀ys,Sq K H b ys->ys[i]?=ga y),λi H=>∃xs ys,Sq K H a xs/\Sq K H b ys/\i=min xs.length ys.length⟩
structure ZK(Sq:qJ->Hp->Uf->List V->Prop)(Ir:No->Uf->Uf->Nat->Prop)(C:No->Uf->Array Vl->Prop):Prop where
 gt:∀{X:Cx} {Yj:QQY} {Y:St} {H:Hp} {s:Sd} {a:Uf} {xs:List V},Inv X Yj Y H s->Sq X.K H a xs->∃its:List Vl,qL xs its/\C s.heap a its.toArray
 ij:∀{X:Cx} {Yj:QQY} {Y:St} {H:Hp} {s:Sd} {a:Uf} {xs ys:List V},Inv X Yj Y H s->Sq X.K H a xs->Sq X.K H a ys->xs=ys
 ne:∀{X:Cx} {Yj:QQY} {Y:St} {H:Hp} {s:Sd} {a b:Uf} {xs:List V},Inv X Yj Y H s->zN X Yj H b->Sq X.K H a xs->a≠b
 dr:∀{prog:Pg} {w:Wo} {A:Ar},A.handled=Fa->∀(it l:Uf),l≠it->∀its:Array Vl,Draws prog w A it [it,l] its.size (λi v=>its[i]?=ga v) (λi h=>Ir h it l i/\C h l its)
 ob:∀{h:No} {it a:Uf} {i:Nat},Ir h it a i->∃o,h.get? it=ga o/\∀v,o.data≠.cell v
 kp:∀{h h':No} {it a:Uf} {i:Nat},Ir h it a i->(∀o,h.get? it=ga o->h'.get? it=ga o)->Ir h' it a i
def X4:ZK wm Heap.IsTupleIter Heap.IsTuple where
 gt:=λI h=>(I.tuple h).imp λ_ z=>⟨z.1,z.2.1⟩
 ij:=λI h g=>I.nN h g
 ne:=Sm
 dr:=LW
 ob:=λ⟨o,h,_,d⟩=>⟨o,h,λv z=>by rw[d]at z;cases z⟩
 kp:=λ⟨o,h,c⟩ k=>⟨o,k o h,c⟩
def V8{z TI TO i1 i2 a b:Uf}(a1:TI≠z)(a2:TO≠z)(a3:i1≠z)(a4:i2≠z)(a5:TI≠TO)(a6:TI≠i1)(a7:TI≠i2)(a8:TO≠i1)(a9:TO≠i2)(pK:i1≠i2)(fa:∀c∈[z,TI,TO,i1,i2],a≠c)(fb:∀c∈[z,TI,TO,i1,i2],b≠c):DA z TI TO i1 i2 [i1,a] [i2,b]:=by
 have n:∀{x y w:Uf},x≠y->w≠x->x∉[y,w]:=λh g=>by simp only[dz,dX,fR,gN];exact⟨h,dZ g⟩
 exact⟨a1,a2,a3,a4,a5,a6,a7,a8,a9,pK,n (dZ a3) (fa z (by simp)),n a8 (fa TO (by simp)),n (dZ pK) (fa i2 (by simp)),n (dZ a4) (fb z (by simp)),n a9 (fb TO (by simp)),n pK (fb i1 (by simp))⟩
def N0{C:No->Uf->Array Vl->Prop}(zk:ZK Sq Ir C){P:Pg}{w:Wo}{K:qJ}{YK:T0 Go}{n:Nat}{tp:Pos}(a b z TI TO i1 i2:Uf)(a1:TI≠z)(a2:TO≠z)(a3:i1≠z)(a4:i2≠z)(a5:TI≠TO)(a6:TI≠i1)(a7:TI≠i2)(a8:TO≠i1)(a9:TO≠i2)(pK:i1≠i2):
  HL P w K (.Tuple YK n tp) (UH Sq K a b) [z,TI,TO,i1,i2] z (λi h=>XYa h z TI TO .none/\TD h TI (.ref i1) (.ref i2)/\(∃u v,TD h TO u v)/\Ir h i1 a i/\Ir h i2 b i) where
 mem:=by simp
 obj:=λi h st c hc=>by
  obtain⟨h1,h2,⟨u,v,h3⟩,h4,h5⟩:=st;simp only[dz,dX,fR]at hc;rcases hc with rfl|rfl|rfl|rfl|rfl
  .exact⟨_,h1,λv z=>by cases z⟩
  .exact⟨_,h2,λv z=>by cases z⟩
  .exact⟨_,h3,λv z=>by cases z⟩
  .exact zk.ob h4
  .exact zk.ob h5
 keep:=λi h h' st k=>by obtain⟨h1,h2,⟨u,v,h3⟩,h4,h5⟩:=st;exact⟨k z (by simp) _ h1,k TI (by simp) _ h2,⟨u,v,k TO (by simp) _ h3⟩,zk.kp h4 (k i1 (by simp)),zk.kp h5 (k i2 (by simp))⟩
 item:=by
  intro X hP hw hK hc i Yj s Y H E I hf st hg;subst hP hw hK;obtain⟨xs,ys,x,y,hx,hy,ex,ey⟩:=hg;obtain⟨its,rx,px⟩:=zk.gt I hx;obtain⟨jts,ry,py⟩:=zk.gt I hy;obtain⟨u,eu,ru⟩:=rx.get ex;obtain⟨v,ev,rv⟩:=ry.get ey;obtain⟨h1,h2,⟨p,q,h3⟩,h4,h5⟩:=st;have hh:X.A.in1.handled=Fa:=I.ok.hd hc;have fa:∀c∈[z,TI,TO,i1,i2],a≠c:=λc hc=>zk.ne I (hf c hc) hx;have fb:∀c∈[z,TI,TO,i1,i2],b≠c:=λc hc=>zk.ne I (hf c hc) hy;have YE:=V8 a1 a2 a3 a4 a5 a6 a7 a8 a9 pK fa fb;have l1:i<its.toArray.size:=by
   have:=(de.mp eu).1
   simpa using this
  have l2:i<jts.toArray.size:=by
   have:=(de.mp ev).1
   simpa using this
  refine Hm (zk.dr hh i1 a (fa i1 (by simp)) its.toArray) (zk.dr hh i2 b (fb i2 (by simp)) jts.toArray) YE h1 h2 h3 ⟨h4,px⟩ ⟨h5,py⟩ l1 l2 λx' y' g tk e1 e2 z1 o1 s1 s2 t1 sz kp=>?_;have e1':x'=u:=by
   have:its[i]?=ga x':=by simpa using e1
   rw[eu]at this;exact(dq this).symm
  have e2':y'=v:=by
   have:jts[i]?=ga y':=by simpa using e2
   rw[ev]at this;exact(dq this).symm
  subst e1' e2';refine⟨_,Z',wpAny_letOwnedTupleGo_zip z1 λg2 z2 sb=>?_⟩;have zlt:z<s.heap.objs.size:=dC h1;have kk:∀c o,c∉[z,TI,TO,i1,i2]->s.heap.get? c=ga o->g2.get? c=ga o:=λc o hc e=>by simp only[dz,dX,fR,gN]at hc;exact(sb.2 c hc.1).trans (kp c o hc.1 hc.2.2.1 hc.2.2.2.1 hc.2.2.2.2 e)
  have t2:g2.get? s.heap.objs.size=ga {cls:=.type "tuple",data:=.seq #[x',y']}:=(sb.2 _ (gM zlt)).trans t1;have hT0:H s.heap.objs.size=Fa:=I.m9.fresh (dw _);have I2:=I.drawn (ch:=[z,TI,TO,i1,i2]) (T:=s.heap.objs.size) (xs:=[x,y]) (its:=[x',y']) (h':=g2) (tk:=tk) hf kk (dw _) (by show 2<=Ch;decide) (.cons ru (.cons rv .nil)) ⟨_,t2,Z',⟨_,Z'⟩,Z'⟩;refine⟨.ref s.heap.objs.size,_,I2,Z',⟨_,x,y,Z',hT0,Z',λxs' hx'=>by rw[zk.ij I hx' hx];exact ex,λys' hy'=>by rw[zk.ij I hy' hy];exact ey⟩,?_,λc hc=>?_⟩
  .exact⟨z2,(sb.2 _ a1).trans (kp _ _ a1 a5 a6 a7 h2),⟨_,_,(sb.2 _ a2).trans o1⟩,zk.kp s1.1 λ_ e=>(sb.2 _ a3).trans e,zk.kp s2.1 λ_ e=>(sb.2 _ a4).trans e⟩
  .have n0:=(hf c hc).1;obtain⟨o,eo⟩:∃o,s.heap.get? c=ga o:=by
    obtain⟨o4,g4,_⟩:=zk.ob h4;obtain⟨o5,g5,_⟩:=zk.ob h5;simp only[dz,dX,fR]at hc;rcases hc with rfl|rfl|rfl|rfl|rfl
    .exact⟨_,h1⟩
    .exact⟨_,h2⟩
    .exact⟨_,h3⟩
    .exact⟨_,g4⟩
    .exact⟨_,g5⟩
   rw[qv (dM (dC eo))];exact n0
 done:=by
  intro X hP hw hK hc i Yj s Y H E I hf st hg;subst hP hw hK;obtain⟨xs,ys,hx,hy,hi⟩:=hg;obtain⟨its,rx,px⟩:=zk.gt I hx;obtain⟨jts,ry,py⟩:=zk.gt I hy;obtain⟨h1,h2,⟨p,q,h3⟩,h4,h5⟩:=st;have hh:X.A.in1.handled=Fa:=I.ok.hd hc;have fa:∀c∈[z,TI,TO,i1,i2],a≠c:=λc hc=>zk.ne I (hf c hc) hx;have fb:∀c∈[z,TI,TO,i1,i2],b≠c:=λc hc=>zk.ne I (hf c hc) hy;have YE:=V8 a1 a2 a3 a4 a5 a6 a7 a8 a9 pK fa fb;have e1:=rx.length;have e2:=ry.length;refine BC (zk.dr hh i1 a (fa i1 (by simp)) its.toArray) (zk.dr hh i2 b (fb i2 (by simp)) jts.toArray) YE h1 h2 h3 ⟨h4,px⟩ ⟨h5,py⟩ (by simp only[dA];lia) λg tk kp=>⟨Z',?_⟩;have kk:∀c o,c∉[z,TI,TO,i1,i2]->s.heap.get? c=ga o->g.get? c=ga o:=λc o hc e=>by simp only[dz,dX,fR,gN]at hc;exact kp c o hc.1 hc.2.2.1 hc.2.2.2.1 hc.2.2.2.2 e
  refine I.step (g':=s.gens) (d':=s.drawn) (t':=tk) (ch:=[z,TI,TO,i1,i2]) (λc hc=>⟨(hf c hc).2.2.2.1,(hf c hc).2.1,(hf c hc).2.2.2.2.1,(hf c hc).2.2.2.2.2⟩) ?_ ?_ (λc o _ e n=>n) ?_ (λ_ _ e=>e) (λ_ _ _ e=>e) (λc ps e=>⟨#[],by rw[e];simp⟩) ?_ ?_ I.bare
  .exact λc o _ _ hc e _=>kk c o hc e
  .exact λc o _ _ hc e _=>⟨o.slots,kk c o hc e⟩
  .exact λc o hc e=>⟨o,kk c o hc e⟩
  .intro m hm;obtain⟨o,es,ep,ho,r⟩:=hm;exact⟨o,es,ep,kk _ o (λy=>(hf _ y).2.1 Z') ho,r⟩
  .intro c u e;refine(I.m9 c u e).nH (λd v hd q=>kk d v (λy=>?_) q) (λ_ q=>q) λ_ _ q=>q;have n:=(hf d y).1;rcases hd with x|x
   .rw[x,e]at n;cases n
   .rw[x]at n;cases n
 self:=λ_ _ _ _ _ st h=>mi st.1 h
def GS{C:No->Uf->Array Vl->Prop}(zk:ZK Sq Ir C){Yj:QQY}{Y:St}{H:Hp}{s:Sd}{E:QQX}{R:It->Hp->Prop}{g:No}{l m:Uf}{u v:Vl}(I:Inv X Yj Y H s)(h1:XYa g (s.heap.objs.size+4) (s.heap.objs.size+2) (s.heap.objs.size+3) .none)(h2:TD g (s.heap.objs.size+2) (.ref s.heap.objs.size) (.ref (s.heap.objs.size+1)))(h3:TD g (s.heap.objs.size+3) u v)(h4:Ir g s.heap.objs.size l 0)(h5:Ir g (s.heap.objs.size+1) m 0)(hk:∀b o,s.heap.get? b=ga o->g.get? b=ga o)(q:R (UH Sq X.K l m) H):pi (Tk X.prog X.w) X.A (pyIter (.ref (s.heap.objs.size+4))) (XB X Yj Y (.Tuple YK n tp) R) E {s with heap:=g}:=by
 refine mi h1 ?_;have I2:Inv X Yj Y H {s with heap:=g}:=I.kept (t':=s.toks) hk;have ne:∀{i j:Nat},i≠j->(s.heap.objs.size+i:Nat)≠s.heap.objs.size+j:=λh z=>h (Nat.add_left_cancel z);refine⟨s.heap.objs.size+4,[s.heap.objs.size+4,s.heap.objs.size+2,s.heap.objs.size+3,s.heap.objs.size,s.heap.objs.size+1],_,_,H,Z',I2,N0 zk l m _ _ _ _ _ (ne (by decide)) (ne (by decide)) (ne (i:=0) (by decide)) (ne (by decide)) (ne (by decide)) (ne (j:=0) (by decide)) (ne (by decide)) (ne (j:=0) (by decide)) (ne (by decide)) (ne (i:=0) (by decide)),⟨h1,h2,⟨_,_,h3⟩,h4,h5⟩,λb hb=>?_,q⟩;have Zd:s.heap.objs.size<=b:=by simp only[dz,dX,fR]at hb;rcases hb with rfl|rfl|rfl|rfl|rfl<;>first|exact dw _|exact Nat.le_add_right _ _
 exact I.oo Zd (I.m9.fresh Zd)
def Ti{a b:Go}{ta:TA}(hg:Gl X "zip")(hm:X.mg "zip"=Fa)(ha:PA X [a,b] ta)(hs:Tl [a,b] X.env=[(pc,wp a X.env),(pc,wp b X.env)]:=by rfl)(YZ:Tl [b] X.env=[(pc,wp b X.env)]:=by rfl):
  PI X (.Tuple YK n tp) (.Call (.Name "zip" p) [a,b] [] pos) (λY H R=>ta Y H λvs H1=>∃l m,vs=[.ref l,.ref m]/\(∃xs,wm X.K H1 l xs)/\(∃xs,wm X.K H1 m xs)/\R (UH wm X.K l m) H1):=by
 intro Yj s Y H R I h;refine Call_ (vY I hg hm L8 (fC (tz (ha pos Yj s Y H _ I h) λus s1 zz=>x5 zz λvs H1 I1 r1 q1=>?_) (by rw[hs,YZ]) (by rw[YZ];rfl)));obtain⟨l,m,e,⟨xs,hx⟩,⟨ys,hy⟩,q⟩:=q1;subst e;obtain⟨u,v,rfl,ru,rv⟩:=JS r1;cases ru;cases rv;obtain⟨its,_,px,_⟩:=I1.tuple hx;obtain⟨jts,_,py,_⟩:=I1.tuple hy;exact Fb px py λg h1 h2 h3 h4 h5 hk=>GS X4 I1 h1 h2 h3 h4 h5 hk q
noncomputable def wQ:T0 D->T0 D->T0 D
 | x::a,y::b=>.tup [x,y]::wQ a b
 | _,_=>[]
theorem Fc:∀{ds es:T0 D} {i:Nat},(wQ ds es)[i]?=(ds[i]?).bind λd=>(es[i]?).map λe=>D.tup [d,e]
 | [],es,i=>by simp[wQ]
 | d::ds,[],i=>by simp[wQ]
 | d::ds,e::es,0=>by simp[wQ]
 | d::ds,e::es,i+1=>by show(wQ ds es)[i]?=_;rw[Fc];simp
theorem vL:∀{ds es:T0 D},(wQ ds es).length=min ds.length es.length
 | [],es=>by simp[wQ]
 | d::ds,[]=>by simp[wQ]
 | d::ds,e::es=>by show(wQ ds es).length+1=_;rw[vL];simp only[eE];lia
def Q3{K:qJ}{ds es:T0 D}(h1:wm K H1 a xs)(h2:qF K H1 ds xs)(g1:wm K H1 b ys)(g2:qF K H1 es ys):GA K H1 (UH wm K a b) (wQ ds es) (λ_=>True) where
 go:=λi H M hi hm ok e1=>by rw[vL]at hi;obtain⟨x,ex,_⟩:=h2.get (cZ (show i<ds.length by lia));obtain⟨y,ey,_⟩:=g2.get (cZ (show i<es.length by lia));exact⟨xs,ys,x,y,e1.t _ _ h1,e1.t _ _ g1,ex,ey⟩
 pz:=λi d H M v H' hd hm ok e1 y=>by
  obtain⟨p,x,z,rfl,hp,rfl,y1,y2⟩:=y;rw[Fc]at hd;cases e:ds[i]? with
  | none=>rw[e]at hd;cases hd
  | some d'=>
   cases e':es[i]? with
   | none=>rw[e,e']at hd;cases hd
   | some d''=>rw[e,e']at hd;cases hd;obtain⟨x',q1,hx⟩:=h2.get e;obtain⟨z',q2,hz⟩:=g2.get e';have w1:=y1 xs (e1.t _ _ h1);have w2:=y2 ys (e1.t _ _ g1);rw[q1]at w1;rw[q2]at w2;have v1:x'=x:=dq w1;have v2:z'=z:=dq w2;subst v1 v2;have ex:rC K H (upd H p (.tup [x',z'])):=.new hp;exact⟨.tup (.of qC) (.cons (hx.mono (e1.trans ex)) (.cons (hz.mono (e1.trans ex)) .nil)),hm.add hp,ex⟩
 stop:=λH M hm ok e1=>⟨xs,ys,e1.t _ _ h1,e1.t _ _ g1,by rw[vL,h2.length,g2.length]⟩
def Wd(t:xA):NY:=λU M R=>t U M λds M1=>match ds with
 | [.tup a,.tup b]=>R (wQ a b) (λ_=>True) M1
 | _=>False
def Uj{a b:Go}{ta:xA}(hg:Gl X "zip")(hm:X.mg "zip"=Fa)(ha:A3 X [a,b] ta)(hs:Tl [a,b] X.env=[(pc,wp a X.env),(pc,wp b X.env)]:=by rfl)(YZ:Tl [b] X.env=[(pc,wp b X.env)]:=by rfl):
  I3 X (.Tuple YK n tp) (.Call (.Name "zip" p) [a,b] [] pos) (Wd ta):=
 PI.mono (Ti hg hm ha hs YZ) λY H R' zz=>x7 zz λU M R hs hm ht k=>⟨U,M,_,hs,hm,ht,λvs H1 ds M1 hd Yl e1 q1=>by
  split at q1
  .obtain⟨v,u,rfl,hv,hw⟩:=Az hd;obtain⟨l,xs,rfl,h1,h2⟩:=hv.m7;obtain⟨m,ys,rfl,g1,g2⟩:=hw.m7;exact⟨l,m,Z',⟨xs,h1⟩,⟨ys,g1⟩,k _ H1 _ _ M1 (Q3 h1 h2 g1 g2) Yl e1 trivial q1⟩
  .exact q1.elim⟩
def qH(M M':Mp):Prop:=∀a c,M a=ga c->M' a=ga c
def qH.refl:qH M M:=λ_ _ h=>h
def qH.trans{M M1 M2:Mp}(a:qH M M1)(b:qH M1 M2):qH M M2:=λx c h=>b x c (a x c h)
def qH.new{M:Mp}{p:Uf}{c:uU}(h:M p=Fa):qH M (pT M p c):=λx d q=>by rw[uH (Q7 q h)];exact q
def qH.lst{ds:T0 D}(s:qH M M')(h:oU M a=ga ds):oU M' a=ga ds:=by
 unfold oU at h ⊢;cases e:M a with
 | none=>rw[e]at h;cases h
 | some c=>rw[s a c e];rw[e]at h;exact h
def HM.sub{K:qJ}(h:HM K H M')(s:qH M M'):HM K H M:=λa c q=>h a c (s a c q)
def Vt{st:ZB}{sp:rQ}(F:Qk K x qual st f fd)(S:tW N ps (qB st))(len:∀ds M Q,sp ds M Q->ds.length=ps.length) (YF:∀(Yv:Vl) (A:Ar) (outer:T0 Env) (s:Sd) (H:Hp) (E:XK),sJ k (A.deeper (xL qual (qB st) s.heap.objs.size f Yv))->
   ∃t,HY (vQ Pa P w K mg base N qual (qB st) f Yv A outer s H E).oV (sE st) t/\∀ds M Q,sp ds M Q->t {nx:=λ_ M'=>∃Yo,qH Yo M'/\Q .mY Yo,rt:=λd M'=>∃Yo,qH Yo M'/\Q d Yo} (xw N ds) M):UN P w K mg base (k+1) f fd ps sp:=by
 refine F.ok S (λvs H Q E h=>?_) (λYv A outer s H vs Q' E hr h=>?_)
 .obtain⟨ds,M,Q,hd,_,hs,_⟩:=h;rw[<-hd.length];exact len ds M Q hs
 .obtain⟨ds,M,Q,hd,hm,hs,k⟩:=h;obtain⟨t,ht,hb⟩:=YF Yv A outer s H E hr;exact⟨_,ht,xw N ds,M,_,ET hd,hm,hb ds M Q hs,λσ' H' δ' M' _ x2 x3 _ ⟨Yo,y1,y2⟩=>k .mY H' .mY Yo .mY (x2.sub y1) x3 y2,λv H' d M' x1 x2 x3 ⟨Yo,y1,y2⟩=>k v H' d Yo x1 (x2.sub y1) x3 y2,λ_ _ _ _ _ _ _ _ z=>z,λ_ _ _ _ _ _ _ _ z=>z⟩
theorem Ci{g:Et}{te:T3}{ok:Mp->Prop}{Q:DK}{f:D->D}{M:Mp}(J:vT->Prop)(m9:ok M):∀(ds acc:T0 D) (U:vT),J U->acc.length+ds.length<=Ch->
  (∀d∈ds,∀U,J U->∀k:vT->DK,(∀δ',J δ'->k δ' (f d) M)->g d U M λδ2 M2=>te δ2 M2 (k δ2))->(∀p,M p=Fa->Q (.ref p) (pT M p (.lst (acc++ds.map f))))->vw g Dn te ok Q ds acc U M
 | [],acc,U,_,hl,_,hq=>⟨by simpa using hl,by simpa using hq⟩
 | d::r,acc,U,hj,hl,ht,hq=>by
  rw[eE]at hl;refine⟨by lia,?_⟩;refine ht d dH U hj (λδ2 y M4=>ok M4/\vw g Dn te ok Q r (acc++[y]) δ2 M4) λδ' hj'=>⟨m9,Ci (f:=f) J m9 r (acc++[f d]) δ' hj' ?_ (λe he=>ht e (dD _ he)) ?_⟩
  .rw[c9,dI];lia
  .simpa using hq
def rN{te:T3}{ok:Mp->Prop}{Q:DK}{f:D->D}{M:Mp}(m9:ok M):∀(ds acc:T0 D) (U:vT),acc.length+ds.length<=Ch->(∀d∈ds,∀k:DK,k (f d) M->te (U.set i (ga d)) M k)->
  (∀p,M p=Fa->Q (.ref p) (pT M p (.lst (acc++ds.map f))))->vw (rH i) Dn te ok Q ds acc U M:=λds acc U hl ht hq=>
 Ci (f:=f) (λδ'=>∀d,δ'.set i (ga d)=U.set i (ga d)) m9 ds acc U (λ_=>rfl) hl (λd hd δ' hj k hk=>by
  show te (δ'.set i (ga d)) M (k (δ'.set i (ga d)));rw[hj d];exact ht d hd _ (hk _ λe=>by rw[jP])) hq
theorem xF{α:Type}(f:α->Bool):∀l:List α,HK (l.map λx=>D.bl (f x))=ga (l.map f)
 | []=>rfl
 | x::r=>by show(HK (r.map λx=>D.bl (f x))).map (f x::·)=_;rw[xF f r];rfl
def pS{p:Uf}{ds:T0 D}:oU (pT M p (.lst ds)) p=ga ds:=by unfold oU;rw[qg]
def i'{α:Type}{o:Option α}{P:α->Prop}{x:α}(e:o=ga x)(h:P x):o.elim False P:=by rw[e];exact h
def pJ{l:T0 D}(h:decide (l.length<=100)=Db):l.length<=Ch:=by have z:=dO;have:=fQ h;lia
theorem B8{g:Et}{tb:xX}{ok:Mp->Prop}{E:HJ}(J:vT->Mp->Prop)(m9:∀U M,J U M->ok M):∀(ds:T0 D) (U:vT) (M:Mp),J U M->
  (∀d∈ds,∀U M,J U M->∀nx:vT->Mp->Prop,(∀δ' M',J δ' M'->nx δ' M')->g d U M λδ2 M2=>tb {E with nx:=nx,ct:=nx,bk:=E.nx} δ2 M2)->(∀U M,J U M->E.nx U M)->Fo g tb ok E ds U M
 | [],U,M,j,_,hn=>hn U M j
 | d::r,U,M,j,ht,hn=>ht d dH U M j (λδ' M'=>ok M'/\Fo g tb ok E r δ' M') λδ' M' j'=>⟨m9 δ' M' j',B8 J m9 r δ' M' j' (λe he=>ht e (dD _ he)) hn⟩
theorem wX{g:Et}{tb:xX}{ok:Mp->Prop}{E:HJ}(all:T0 D)(J:T0 D->vT->Mp->Prop)(m9:∀p U M,J p U M->ok M):∀(ds pre:T0 D) (U:vT) (M:Mp),pre++ds=all->J pre U M->
  (∀pre d post,pre++d::post=all->∀U M,J pre U M->∀nx:vT->Mp->Prop,(∀δ' M',J (pre++[d]) δ' M'->nx δ' M')->g d U M λδ2 M2=>tb {E with nx:=nx,ct:=nx,bk:=E.nx} δ2 M2)->(∀U M,J all U M->E.nx U M)->Fo g tb ok E ds U M
 | [],pre,U,M,e,j,_,hn=>hn U M (by rw[<-e,eN];exact j)
 | d::r,pre,U,M,e,j,ht,hn=>ht pre d r e U M j (λδ' M'=>ok M'/\Fo g tb ok E r δ' M') λδ' M' j'=>⟨m9 _ δ' M' j',wX all J m9 r (pre++[d]) δ' M' (by rw[<-e,fm];rfl) j' ht hn⟩
def Mw{K:qJ}{t:Vl}:W.kitOne K t t=ga Db:=by unfold W.kitOne;rw[dh (by simp)]
def SW{K:qJ}{t c:Vl}{b:Bool}(h:W.kitCls K t c=ga b)(ne:b=pc->(t==c)=pc):W.kitOne K t c=ga b:=by
 unfold W.kitOne;by_cases e:(t==c)=Db
 .rw[dh e];cases b with
  | true=>rfl
  | false=>rw[ne Z']at e;cases e
 .rw[df e];exact h
def S9{K:qJ}{t:Vl}{b:Bool}(m:W.kitMeta T=Db)(s:W.subIn K t (.type T)=ga b)(ne:b=pc->(t==.type T)=pc):W.kitOne K t (.type T)=ga b:=by refine SW ?_ ne;unfold W.kitCls;simp only;rw[dh m];exact s
def Qj:W.kitMeta "bool"=Db:=by decide+kernel
def NM{c:Bool}{A B:Prop}(h:c=pc)(hb:B):if c=Db then A else B:=by subst h;exact HE hb
def BG{c:Bool}{A B:Prop}(h:c=Db)(ha:A):if c=Db then A else B:=by subst h;exact PV ha
def UL{t u:xX}{E:HJ}{U:vT}{M:Mp}(R:vT->Mp->Prop)(h2:∀nx:vT->Mp->Prop,(∀δ' M',R δ' M'->nx δ' M')->t {E with nx:=nx} U M)(h1:∀δ' M',R δ' M'->u E δ' M'):vc t u E U M:=h2 (u E) h1
def V5{K:qJ}{ns:T0 Int}(hO:L5 H)(hS:xW K H a (ns.map V.int)):sA K H (.rl (ns.map D.int)) (.ref a):=by
 have r:Qn K H a (ns.map V.int):=by
  rcases hS with h|h
  .rcases h with h|⟨o,h⟩
   .rcases hO a with z|⟨o,xs,z⟩<;>(rw[h]at z;cases z)
   .exact .inl ⟨o,h⟩
  .exact .inr h
 unfold sA;exact⟨a,_,Z',r,.ints⟩
def TY{K:qJ}{sp:rQ}{ns:T0 Int}(hO:L5 H)(hS:xW K H a (ns.map V.int))(h:sp [.rl (ns.map D.int)] (λ_=>Fa) λd _=>d=.bl Db):O9 K sp [.ref a] H (λv _=>v=.bl Db) λ_ _ _=>False:=
 ⟨_,λ_=>Fa,_,.cons (V5 hO hS) .nil,λ_ _ z=>(by cases z),h,λv H' d M' x1 _ _ x4=>by subst x4;exact x1.mX⟩
def Nj{l:W.OpenLaw}{q:Pg}{Y8:QQQ}{XP:(QQZ)->No->Prop}{YP:Wo->No->Prop}{d:DefRec}{K:Params->qJ}{x:Str}{sp:rQ}(hn:l.most=ga 63)(hdf:d.params.defaults=[])(hr:sJ k callerA) (hY:∀(w:Wo) (h:No),YP w h->(K w.params).In h) (ZS:∀ns:T0 Int,ns.length<=63->sp [.rl (ns.map D.int)] (λ_=>Fa) λd _=>d=.bl Db) (F:∀(w:Wo) (mg:QQZ) (fa:Uf) (h:No),(K w.params).In h->h.Ns At mg->mg d.name=ga (.ref fa)->
   ∃fd:Ix,(∀(s:Sd) (u:Vl),BindsTo s fd ⟨[u],[]⟩ [(x,u)])/\∀base:No,(K w.params).In base->base.Ns At mg->UN l.prog w (K w.params) mg base k fa fd [x] sp):
  W.WalkO q Y8 XP YP l.row.toRowW d [] (λf vs=>PySem.call f vs):=
 L2.QN (n:=63) (k:=k) (x:=x) (CX:=λ_=>Pa) (sp:=λw=>O9 (K w.params) sp) hn (by decide) hdf hr hY F (λ_ _ a ns hl hO hS=>TY hO hS (ZS ns hl)) λ_ _ _ _ _ z=>z
def KD(K:qJ)(mg:QQZ)(x:Str)(d:D):Prop:=Cv λv u=>mg x=ga u/\rA v u/\∀H,sA K H d v
def TQ{K:qJ}{mg:QQZ}{x y:Str}{t:Tok}(h:mg x=ga (.str y t)):KD K mg x (.str y):=⟨.str y,_,h,⟨t,Z'⟩,λ_=>.str⟩
def wJ{K:qJ}{mg:QQZ}{x:Str}{y:Int}{t:Tok}(h:mg x=ga (.int y t)):KD K mg x (.int y):=⟨.int y,_,h,⟨t,Z'⟩,λ_=>.int⟩
def uT{K:qJ}{a:Uf}{ss:QQQ}{us:T0 Vl}{n:Nat}{sl:Array (Option Vl)}(h:K.lookup a=ga ⟨.type "tuple",Fa,.seq us.toArray n,sl⟩)(r:qL (ss.map V.str) us)(hz:us.length<=1000):wm K (λ_=>Fa) a (ss.map V.str):=
 .inr ⟨_,us.toArray,n,h,Z',Z',Z',by rw[dA,dO];lia,by simpa using r⟩
theorem AL{K:qJ}:∀{ss:QQQ},qF K H (ss.map D.str) (ss.map V.str)
 | []=>.nil
 | _::_=>.cons .str AL
def Re{K:qJ}{mg:QQZ}{x:Str}{a:Uf}{ss:QQQ}(h:mg x=ga (.ref a))(q:wm K (λ_=>Fa) a (ss.map V.str)):KD K mg x (.tup (ss.map D.str)):=
 ⟨.ref a,_,h,Z',λ_=>.tup (KL q) AL⟩
variable {d:D}{i:Go}{td tk:T3}{F:T0 (Str × QQQ)}
def tJ(hg:Gl X x)(h:KD X.K X.mg x d)(hd:zF x:=by decide):E3 X (.Name x pos) (c3 d):=by obtain⟨v,u,hm,r,hh⟩:=h;exact PE.mono (FB hg hm r hd) λY H Q' zz=>x7 zz λU M Q hs hm ht k=>k _ H _ M (hh H) hm .refl ht
def Xv(F:T0 (Str×QQQ))(ta:T3):T3:=λU M Q=>ta U M λx M1=>match x with|.str k=>Q (.bl (KTD.datumAt k F).isSome) M1|_=>False
def Wg(F:T0 (Str×QQQ))(ta:T3):T3:=λU M Q=>ta U M λx M1=>match x with|.str k=>(KTD.datumAt k F).elim False λss=>Q (.tup (ss.map D.str)) M1|_=>False
def MR(T:Nx X.K X.mg x F)(hg:Gl X x)(he:E3 X e ta)(hd:zF x:=by decide)(hmk:AT .In (.Name x p)=pc:=by rfl):E3 X (.Compare e [.In] [.Name x p] pos) (Xv F ta):=by
 obtain⟨a,hm,T⟩:=GN T;refine PE.mono (JB (r:=λy z H Q=>∃k,y=.str k/\z=.ref a/\Q (.bl (KTD.datumAt k F).isSome) H) (λYj s Y H y z v u Q I ry rz ⟨k,e1,e2,q⟩=>?_) he (FB (v:=.ref a) hg hm Z' hd) hmk) λY H Q' zz=>x7 zz λU M Q hs hm ht k=>⟨U,M,_,hs,hm,ht,λv H1 d M1 hd Yl e1 q1=>?_⟩
 .subst e1 e2;obtain⟨t,rfl⟩:=ry;obtain rfl:u=Value.ref a:=rz;exact T6 (T s.heap I.nB) ⟨.bl (KTD.datumAt k F).isSome,H,I.tok _,Z',q⟩
 .cases d with
  | str k'=>exact⟨k',hd.str_inv,Z',k _ _ _ _ .bl Yl e1 q1⟩
  | _=>exact q1.elim
def Lv(T:Nx X.K X.mg x F)(hg:Gl X x)(he:E3 X e ta)(hd:zF x:=by decide)(hs:B1 e:=by exact λ_ _=>rfl):E3 X (.Subscript (.Name x p) e pos) (Wg F ta):=by
 obtain⟨a,hm,T⟩:=GN T;refine PE.mono (O4 (r:=λz y H Q=>∃k ss,y=.str k/\z=.ref a/\KTD.datumAt k F=ga ss/\∀t,wm X.K H t (ss.map V.str)->Q (.ref t) H) (λvalue Yx Yj s Y H z y o i Q I rz ry ⟨k,ss,e1,e2,e3,q⟩ hs=>?_) (FB (v:=.ref a) hg hm Z' hd) he hs) λY H Q' zz=>x7 zz λU M Q hs hm ht k=>⟨U,M,_,hs,hm,ht,λv H1 d M1 hd Yl e1 q1=>?_⟩
 .subst e1 e2;obtain⟨t,rfl⟩:=ry;obtain rfl:o=Value.ref a:=rz;have hT:=zD (s:=s) (T s.heap I.nB);have h2:pi (Tk X.prog X.w) X.A (XXg (.ref a) (.str k t)) (EP X Yj Y Q) X.xe s:=Oa (T s.heap I.nB) e3 λv ⟨t',e4,q4⟩=>⟨.ref t',H,I.tok _,e4,q t' (KL q4)⟩;unfold subscriptTail;refine cY ?_;rw[km hT.not_modules];refine cY (j5 hT jD.lookup ?_);have Yn:pi (Tk X.prog X.w) X.A (subscripted Yx pc (.ref a) (.str k t)) (λr s₃=>pi (Tk X.prog X.w) X.A (letTemporaryGo value (.ref a) r>>=λ_=>pure r) (EP X Yj Y Q) X.xe s₃) X.xe s:=by rw[hs];exact wpAny_operating (eB h2 (λr s₃ h₃=>cY (kA (dv h₃))) λ_ _ x=>x)
  first
   | exact dv (cY Yn)
   | exact cY (dv (cY Yn))
   | exact cY Yn
 .cases d with
  | str k'=>obtain⟨ss,e4,q2⟩:=rD q1;exact⟨k',ss,hd.str_inv,Z',e4,λt qt=>k _ _ _ _ (.tup qt AL) Yl e1 q2⟩
  | _=>exact q1.elim
noncomputable def zX(M:Mp)(a:Uf):Option (T0 (rM×D)):=match M a with
 | some (.dk kvs)=>ga kvs
 | _=>Fa
noncomputable def wu(kvs:T0 (rM×D))(k:rM):Option D:=(kvs.find? λp=>decide (p.1=k)).map (·.2)
def Al{K:qJ}{kvs:T0 (rM×D)}(hm:HM K H M)(h:zX M a=ga kvs):∃vs,H a=ga (.dK vs)/\vs.map (·.1)=kvs.map (·.1)/\qF K H (kvs.map (·.2)) (vs.map (·.2)):=by
 unfold zX at h;cases e:M a with
 | none=>rw[e]at h;cases h
 | some c=>
  rw[e]at h;have ok:=hm a c e;cases c with
  | dk es=>cases h;exact ok
  | ins _ _=>cases h
  | lst _=>cases h
  | exc _=>cases h
theorem FM{K:qJ}{k:rM}:∀{kvs:T0 (rM×D)} {vs:T0 (rM×V)},vs.map (·.1)=kvs.map (·.1)->qF K H (kvs.map (·.2)) (vs.map (·.2))->(∀d,wu kvs k=ga d->∃v,xq vs k=ga v/\sA K H d v)/\(wu kvs k=Fa->xq vs k=Fa)
 | [],[],_,_=>⟨λd z=>(by cases z),λ_=>rfl⟩
 | [],_::_,e,_=>by cases e
 | _::_,[],e,_=>by cases e
 | (j,d)::kvs,(j',v)::vs,e,h=>by
  have e1:j'=j:=by simpa using(gi e).1
  subst e1;obtain⟨x,r,e2,h1,h2⟩:=h.inv;obtain⟨e3,e4⟩:=gi e2;subst e3 e4;have ih:=FM (k:=k) (kvs:=kvs) (vs:=vs) (gi e).2 h2;by_cases hk:j'=k
  .have g:wu ((j',d)::kvs) k=ga d:=by simp[wu,hk]
   have g':xq ((j',v)::vs) k=ga v:=by simp[xq,hk]
   rw[g,g'];exact⟨λd' z=>by cases z;exact⟨v,Z',h1⟩,λz=>by cases z⟩
  .have g:wu ((j',d)::kvs) k=wu kvs k:=by simp[wu,hk]
   have g':xq ((j',v)::vs) k=xq vs k:=by simp[xq,hk]
   rw[g,g'];exact ih
def Mc(x y:D)(M:Mp)(Q:DK):Prop:=match x,y with
 | .ref a,.str k=>(zX M a).elim False λkvs=>(wu kvs (.inr k)).elim False λd=>Q d M
 | _,_=>False
def VU(td tk:T3):T3:=λU M Q=>td U M λx M1=>tk U M1 λy M2=>Mc x y M2 Q
def zL(hu:X.A.units+9<XXa)(ho:E3 X o td)(hi:E3 X i tk)(hs:B1 i:=by exact λ_ _=>rfl):E3 X (.Subscript o i pos) (VU td tk):=by
 refine PE.mono (O4 (r:=R3 X.K Mc) (λvalue Yx Yj s Y H vx vy v u Q' I rx ry h hs=>?_) ho hi hs) IJ;obtain⟨x,y,M,Q,hx,hy,hm,q,k⟩:=h;unfold Mc at q;split at q
 .rename_i a0 k0;obtain⟨kvs,e1,q⟩:=rD q;obtain⟨d,e2,q⟩:=rD q;cases hx.mU;cases hy.str_inv;obtain⟨vs,h1,h2,h3⟩:=Al hm e1;obtain⟨w,e3,hw⟩:=(FM h2 h3).1 d e2;refine QI (by lia) value Yx Yj s Y H _ _ v u Q' I rx ry ⟨_,w,Z',?_,k _ _ _ _ hw hm .refl q⟩ hs;have g:=FR.k (k:=Sum.inr k0) h1;rw[e3]at g;exact g
 .exact q.elim
def UE(ZW:Bool)(x y:D)(M:Mp)(Q:DK):Prop:=match x,y with
 | .str k,.ref a=>(zX M a).elim False λkvs=>Q (.bl (if ZW then !(wu kvs (.inr k)).isSome else(wu kvs (.inr k)).isSome)) M
 | _,_=>False
def MM{K:qJ}{k:rM}{kvs:T0 (rM×D)}{vs:T0 (rM×V)}(h2:vs.map (·.1)=kvs.map (·.1))(h3:qF K H (kvs.map (·.2)) (vs.map (·.2))):(xq vs k).isSome=(wu kvs k).isSome:=by
 obtain⟨a,b⟩:=FM (k:=k) h2 h3;cases e:wu kvs k with
 | none=>rw[b e];rfl
 | some d=>obtain⟨v,e3,_⟩:=a d e;rw[e3];rfl
def Xn(ZW:Bool)(tk td:T3):T3:=λU M Q=>tk U M λx M1=>td U M1 λy M2=>UE ZW x y M2 Q
def U8(hu:X.A.units+9<XXa):yC X (Op .In) (R3 X.K (UE pc)):=λYj s Y H vx vy v u Q' I rx ry h=>by
 obtain⟨x,y,M,Q,hx,hy,hm,q,k⟩:=h;unfold UE at q;split at q
 .obtain⟨kvs,e1,q⟩:=rD q;cases hy.mU;cases hx.str_inv;obtain⟨vs,h1,h2,h3⟩:=Al hm e1;refine S6 (by lia) Yj s Y H _ _ v u Q' I rx ry ⟨_,_,Z',FR.k (k:=Sum.inr _) h1,?_⟩;rw[MM h2 h3];exact k _ _ _ _ .bl hm .refl q
 .exact q.elim
def Ot(hu:X.A.units+9<XXa)(hi:E3 X i tk)(ho:E3 X o td)(hm:AT .In o=pc:=by first|exact Ib _|with_unfolding_all rfl):B3 X (.Compare i [.In] [o] pos) (b3 (Xn pc tk td)):=PT.mono (Jz (U8 hu) hi ho hm) λY H Q' zz=>x7 zz λU M Q hs hm ht k=>
 IJ Y H _ ⟨U,M,_,hs,hm,ht,λv H1 d M1 hd Yl e1 q1=>by
  cases d with
  | bl c=>exact⟨c,hd.mX,k c H1 M1 Yl e1 q1⟩
  | _=>exact q1.elim⟩
noncomputable def xE:T0 D->Option (T0 (rM×D))
 | []=>ga []
 | .tup [.str k,d]::r=>(xE r).map ((.inr k,d)::·)
 | _::_=>Fa
theorem EZ{K:qJ}:∀{es:T0 D} {kvs:T0 (rM×D)} {xs:T0 V},xE es=ga kvs->qF K H es xs->∃(ts:QXQ) (vs:T0 (rM×V)),xs=ts.map V.ref/\ts.length=vs.length/\vs.map (·.1)=kvs.map (·.1)/\qF K H (kvs.map (·.2)) (vs.map (·.2))/\
  ∀(j:Nat) (t:Uf) (p:rM×V),ts[j]?=ga t->vs[j]?=ga p->wm K H t [kV p.1,p.2]
 | [],_,_,e,h=>by cases e;exact⟨[],[],h.nil_inv,Z',Z',.nil,λj t p z=>by simp at z⟩
 | d::es,kvs,xs,e,h=>by
  obtain⟨x,r,rfl,h1,h2⟩:=h.inv;unfold xE at e;split at e
  .rename_i z;cases z
  .rename_i k d' r' z;cases z;cases q:xE es with
   | none=>rw[q]at e;cases e
   | some kvs'=>
    rw[q]at e;cases e;obtain⟨ts,vs,e1,e2,e3,e4,e5⟩:=EZ q h2;obtain⟨a,ys,rfl,g1,g2⟩:=h1.m7;obtain⟨y,r1,rfl,g3,g4⟩:=g2.inv;obtain⟨w,r2,rfl,g5,g6⟩:=g4.inv;cases g6.nil_inv;cases g3.str_inv;refine⟨a::ts,(.inr k,w)::vs,by rw[e1];rfl,by simpa using e2,by rw[d6,d6,e3],.cons g5 e4,λj t p z1 z2=>?_⟩;cases j with
    | zero=>
     have z1':a=t:=by simpa using z1
     have z2':(Sum.inr k,w)=p:=by simpa using z2
     subst z1' z2';exact g1
    | succ j=>exact e5 j t p (by simpa using z1) (by simpa using z2)
  .cases e
def RO(ds:T0 D)(M:Mp)(Q:DK):Prop:=match ds with
 | [.ref a]=>(oU M a).elim False λes=>(xE es).elim False λkvs=>(kvs.map (·.1)).Nodup/\∀p,M p=Fa->Q (.ref p) (pT M p (.dk kvs))
 | _=>False
def FI(hc:X.calm=Db):C3 X (.type "dict") RO:=by
 intro Yj s Y H vs us Q' I rv h;obtain⟨ds,M,Q,hd,hm,q,k⟩:=h;unfold RO at q;split at q
 .obtain⟨es,e1,q⟩:=rD q;obtain⟨kvs,e2,hnd,q⟩:=rD q;obtain⟨v,rfl,hv⟩:=tj hd;cases hv.mU;obtain⟨xs,h1,h2,_⟩:=qx hm e1;obtain⟨ts,ws,rfl,f2,f3,f4,f5⟩:=EZ e2 h2;refine II hc Yj s Y H _ us Q' I rv ⟨_,ts,ws,Z',h1,f2,f5,by rw[f3];exact hnd,λd hd=>?_⟩;have e:rC X.K H (upd H d (.dK ws)):=.new hd;exact k _ _ _ _ .ref (hm.new (c:=.dk kvs) hd ⟨_,qC,f3,f4.mono e⟩) e (q d (hm.fresh hd))
 .exact q.elim
def Sv:zn "set"=ga (.type "set"):=by decide+kernel
noncomputable def Cr:T0 D->Option (QQQ)
 | []=>ga []
 | .str x::r=>(Cr r).map (x::·)
 | _::_=>Fa
theorem DE:∀ss:QQQ,Cr (ss.map D.str)=ga ss
 | []=>rfl
 | x::r=>by show(Cr (r.map D.str)).map (x::·)=_;rw[DE r];rfl
theorem HW{K:qJ}:∀{ds:T0 D} {ss:QQQ} {xs:T0 V},Cr ds=ga ss->qF K H ds xs->xs=ss.map V.str
 | [],_,_,e,h=>by cases e;exact h.nil_inv
 | d::ds,_,_,e,h=>by
  obtain⟨x,r,rfl,h1,h2⟩:=h.inv;cases d with
  | str z=>
   unfold Cr at e;cases q:Cr ds with
   | none=>rw[q]at e;cases e
   | some ss=>rw[q]at e;cases e;rw[h1.str_inv,HW q h2];rfl
  | _=>cases e
def UY(ta:T3):T3:=λU M Q=>ta U M λx M1=>(Nm M1 x).elim False λes=>(Cr es).elim False λss=>ss.length<4000/\Q (.int (tS ss).length) M1
def KW(hc:X.calm=Db)(he:E3 X e ta)(hg1:Gl X "len")(Yl:X.mg "len"=Fa)(hg2:Gl X "set")(YB:X.mg "set"=Fa)(b1:zn "len"=ga (.builtin "len"))(b2:zn "set"=ga (.type "set")) (hs:Tl [e] X.env=[(pc,wp e X.env)]:=by rfl):E3 X (.Call (.Name "len" p) [.Call (.Name "set" p2) [e] [] pos2] [] pos) (UY ta):=
 PE.mono (Lq hc he hg1 Yl hg2 YB b1 b2 hs) λY H Q' zz=>x7 zz λU M Q hs hm ht k=>⟨U,M,_,hs,hm,ht,λv H1 d M1 hd Yl e1 q1=>by
  obtain⟨es,e2,q1⟩:=rD q1;obtain⟨ss,e3,hz,q1⟩:=rD q1;obtain⟨a,xs,rfl,h1,h2⟩:=Fm Yl hd e2;rw[HW e3 h2]at h1;have z:XXb=4096:=rfl;exact⟨a,ss,Z',h1,by lia,k _ _ _ _ .int Yl e1 q1⟩⟩
def Sh(x:D)(ds:T0 D)(M:Mp)(Q:DK):Prop:=match x,ds with
 | .ref a,[y]=>(oU M a).elim False λes=>es.length<Ch/\Q .mY (pT M a (.lst (es++[y])))
 | _,_=>False
def qm{es:T0 D}(h:oU M a=ga es):M a=ga (.lst es):=by
 unfold oU at h;split at h
 .rename_i e;rw[e];cases h;rfl
 .cases h
def BY{K:qJ}{es:T0 D}(hm:HM K H M)(h:oU M a=ga es):∃xs,H a=ga (.lst xs)/\qF K H es xs:=hm a _ (qm h)
def LS:M3 X "list.append" Sh:=by
 intro Yj s Y H vx vs v us Q' I rx rv h;obtain⟨x,ds,M,Q,hx,hd,hm,q,k⟩:=h;unfold Sh at q;split at q
 .obtain⟨es,e1,hz,q⟩:=rD q;obtain⟨w,rfl,hw⟩:=tj hd;cases hx.mU;obtain⟨xs,h1,h2⟩:=BY hm e1;refine LP Yj s Y H _ _ v us Q' I rx rv ⟨_,xs,w,Z',Z',h1,by rw[<-h2.length];exact hz,?_⟩;obtain⟨YB,ex⟩:=hm.put (c:=.lst (es++[_])) (qm e1) λex=>⟨_,qC,(h2.mono ex).snoc (hw.mono ex)⟩;exact k _ _ _ _ .mY YB ex q
 .exact q.elim
def qV(ho:E3 X o ta)(ha:A3 X (e::es) t)(Ys:Ps o "append" X.env (wp o X.env)=wp o X.env:=by rfl)
  (ZF:((xz pos (Tl (e::es) X.env)).all (λx=>!x.1)&&(IN pos (Rs [] X.env)).all (λx=>x.1.isSome)&&decide ((e::es).length+([]:T0 XXf).length+(if ([]:T0 XXf).isEmpty then 0 else 1)<30))=Db:=by rfl)
  (Yy:(Ym.endLine==pos.line)=Db:=by rfl) (hs:BN X e es:=by rfl) (YD:Cd X pos es:=by rfl):
  E3 X (.Call (.Attribute o "append" Ym) (e::es) [] pos) (Ww Sh ta t):=R7 PySem.F.slot_list_append PySem.F.type_list_append LS ho ha Ys ZF Yy hs YD
def qH.none{M M2:Mp}{q:Uf}(s:qH M M2)(h:M2 q=Fa):M q=Fa:=by
 cases e:M q with
 | none=>rfl
 | some c=>rw[s q c e]at h;cases h
def qH.upd{M M2:Mp}{c:uU}(s:qH M M2):qH (pT M q c) (pT M2 q c):=λx d h=>by
 by_cases e:x=q
 .subst e;rw[qg]at h ⊢;exact h
 .rw[uH e]at h ⊢;exact s x d h
def qH.dk{ds:T0 (rM×D)}(s:qH M M')(h:zX M a=ga ds):zX M' a=ga ds:=by
 unfold zX at h ⊢;cases e:M a with
 | none=>rw[e]at h;cases h
 | some c=>rw[s a c e];rw[e]at h;exact h
def sI(p:Uf)(M M':Mp):Prop:=∀b c,b≠p->M b=ga c->M' b=ga c
def qH.keep{p:Uf}(s:qH M M'):sI p M M':=λb c _ h=>s b c h
def sI.trans{M M1 M2:Mp}{p:Uf}(a:sI p M M1)(b:sI p M1 M2):sI p M M2:=λx c n h=>b x c n (a x c n h)
def sI.put{p:Uf}{c:uU}:sI p M (pT M p c):=λb d n h=>by rw[uH n];exact h
def sI.lst{p a:Uf}{ds:T0 D}(k:sI p M M')(n:a≠p)(h:oU M a=ga ds):oU M' a=ga ds:=by have:=k a _ n (qm h);unfold oU;rw[this]
def sI.dk{p a:Uf}{ds:T0 (rM×D)}(k:sI p M M')(n:a≠p)(h:zX M a=ga ds):zX M' a=ga ds:=by
 unfold zX at h ⊢;cases e:M a with
 | none=>rw[e]at h;cases h
 | some c=>rw[k a c n e];rw[e]at h;exact h
def qo{a p C:Uf}{ds:T0 D}{fs:T0 (Str×D)}(h:oU M a=ga ds)(hp:M p=ga (.ins C fs)):a≠p:=λz=>by subst z;rw[qm h]at hp;cases hp
def Cp{a p C:Uf}{ds:T0 (rM×D)}{fs:T0 (Str×D)}(h:zX M a=ga ds)(hp:M p=ga (.ins C fs)):a≠p:=λz=>by subst z;unfold zX at h;rw[hp]at h;cases h
def sd{M:Mp}{p:Uf}{ds:T0 D}(h:M p=ga (.lst ds)):oU M p=ga ds:=by unfold oU;rw[h]
def CM{M:Mp}{p:Uf}{ds:T0 (rM×D)}(h:M p=ga (.dk ds)):zX M p=ga ds:=by unfold zX;rw[h]
def tX{N:Mp}{p q C:Uf}{fs fs':T0 (Str×D)}{c:uU}(hp:N p=ga (.ins C fs))(hq:N q=Fa):
  q≠p/\pT N q c p=ga (.ins C fs)/\sI p N (pT (pT N q c) p (.ins C fs'))/\pT (pT N q c) p (.ins C fs') q=ga c/\pT (pT N q c) p (.ins C fs') p=ga (.ins C fs'):=by
 have n:p≠q:=Q7 hp hq;refine⟨dZ n,by rw[uH n];exact hp,(qH.new hq).keep.trans .put,by rw[uH (dZ n),qg],qg⟩
theorem yO{g:Et}{te:T3}{ok:Mp->Prop}{Q:DK}(all:T0 D)(J:T0 D->T0 D->vT->Mp->Prop)(m9:∀p acc U M,J p acc U M->ok M):∀(ds pre acc:T0 D) (U:vT) (M:Mp),pre++ds=all->acc.length+ds.length<=Ch->J pre acc U M->
  (∀pre d post,pre++d::post=all->∀acc U M,J pre acc U M->∀k:vT->DK,(∀δ2 y M4,J (pre++[d]) (acc++[y]) δ2 M4->k δ2 y M4)->g d U M λδ2 M2=>te δ2 M2 (k δ2))->
  (∀acc U M,J all acc U M->∀p,M p=Fa->Q (.ref p) (pT M p (.lst acc)))->vw g Dn te ok Q ds acc U M
 | [],pre,acc,U,M,e,hl,j,_,hq=>⟨by simpa using hl,hq acc U M (by rw[<-e,eN];exact j)⟩
 | d::r,pre,acc,U,M,e,hl,j,ht,hq=>by rw[eE]at hl;refine⟨by lia,?_⟩;refine ht pre d r e acc U M j (λδ2 y M4=>ok M4/\vw g Dn te ok Q r (acc++[y]) δ2 M4) λδ2 y M4 j'=>⟨m9 _ _ _ _ j',yO all J m9 r (pre++[d]) (acc++[y]) δ2 M4 (by rw[<-e,fm];rfl) ?_ j' ht hq⟩;rw[c9,dI];lia
noncomputable def tR:Nat->D->Bool
 | _,.mY=>Db
 | _,.bl _=>Db
 | _,.int _=>Db
 | _,.str _=>Db
 | n+1,.tup ds=>ds.all (tR n)
 | _,_=>pc
theorem zp{f:D->D->Option Bool}:∀ds:T0 D,(∀d∈ds,f d d=ga Db)->rq f ds ds=ga Db
 | [],_=>rfl
 | d::r,h=>by show(f d d).bind (λp=>(rq f r r).map λq=>p&&q)=ga Db;rw[h d dH,zp r λe he=>h e (dD _ he)];rfl
theorem Ah:∀(n:Nat) (d:D),tR n d=Db->wg M (n+1) d d=ga Db
 | _,.mY,_=>rfl
 | _,.bl _,_=>by simp[wg]
 | _,.int _,_=>by simp[wg]
 | _,.str _,_=>by simp[wg]
 | n+1,.tup ds,h=>by have h:ds.all (tR n)=Db:=h;show(rq (wg M (n+1)) ds ds).map (λp=>p&&ds.length==ds.length)=ga Db;rw[zp ds λd hd=>Ah n d (eF.mp h d hd)];simp
 | 0,.tup _,h=>by cases h
 | 0,.ref _,h=>by cases h
 | _+1,.ref _,h=>by cases h
 | 0,.ty _,h=>by cases h
 | _+1,.ty _,h=>by cases h
 | 0,.rl _,h=>by cases h
 | _+1,.rl _,h=>by cases h
def Ba{ds:T0 D}(ha:oU M a=ga ds)(hb:oU M b=ga ds)(h:∀d∈ds,wg M n d d=ga Db):wg M (n+1) (.ref a) (.ref b)=ga Db:=by show(oU M a).bind (λi=>(oU M b).bind λj=>if i.length=j.length then rq (wg M n) i j else ga pc)=ga Db;rw[ha,hb];show(if ds.length=ds.length then rq (wg M n) ds ds else ga pc)=ga Db;rw[dh Z'];exact zp ds h
def SG(tc:Bm)(tb:xX):xX:=λE U M=>∃W:Nat->vT->Mp->Prop,(∃m,W m U M)/\∀m U M,W m U M->
 tc U M λb M1=>if b=Db then tb {E with nx:=λδ' M'=>∃m',m'<m/\W m' δ' M',ct:=λδ' M'=>∃m',m'<m/\W m' δ' M',bk:=E.nx} U M1 else E.nx U M1
def Mr{tc:Bm}{tb:xX}(hp:PassesOwn (Tk X.prog X.w) X.A X.env X.xe)(hc:B3 X c tc)(hb:HY X body tb):S3 X (.While c body [] pos) (SG tc tb):=
 PS.mono (NF hp hc hb) λD' Y H ⟨U,M,E,hs,hm,⟨W,⟨m0,w0⟩,turn⟩,k1,k2,k3,k4⟩=>by
 refine⟨λm σ' H'=>∃δ' M',AG X.K H' σ' δ'/\HM X.K H' M'/\rC X.K H H'/\σ'.length=Y.length/\W m δ' M',⟨m0,U,M,hs,hm,.refl,Z',w0⟩,?_⟩
 rintro m σ1 H1 ⟨δ1,M1,hs1,Yl,e1,l1,w1⟩
 refine⟨δ1,M1,_,hs1,Yl,turn m δ1 M1 w1,λb H2 M2 YB e2 q2=>?_⟩;cases b with
 | false=>rw[df dE]at q2 ⊢;exact k1 σ1 H2 δ1 M2 (hs1.mono e2) YB (e1.trans e2) l1 q2
 | true=>
  rw[dh Z']at q2 ⊢;refine⟨λσ' H'=>∃δ' M',AG X.K H' σ' δ'/\HM X.K H' M'/\rC X.K H H'/\σ'.length=Y.length/\∃m',m'<m/\W m' δ' M',?_,δ1,M2,_,hs1.mono e2,YB,q2,?_,?_,?_,?_⟩
  .rintro σ' H' ⟨δ',M',a1,a2,a3,a4,m',lt,w⟩
   exact⟨m',lt,δ',M',a1,a2,a3,a4,w⟩
  .exact λσ' H' δ' M' y1 y2 y3 y4 y5=>⟨δ',M',y1,y2,e1.trans (e2.trans y3),by rw[y4,l1],y5⟩
  .exact λv H' d M' y1 y2 y3 y4=>k2 v H' d M' y1 y2 (e1.trans (e2.trans y3)) y4
  .exact λσ' H' δ' M' y1 y2 y3 y4 y5=>k1 σ' H' δ' M' y1 y2 (e1.trans (e2.trans y3)) (by rw[y4,l1]) y5
  .exact λσ' H' δ' M' y1 y2 y3 y4 y5=>⟨δ',M',y1,y2,e1.trans (e2.trans y3),by rw[y4,l1],y5⟩
noncomputable def Ud(op:XYc)(x y:D):Option D:=match op,x,y with
 | .Add,.int i,.int j=>ga (.int (i+j))
 | .Sub,.int i,.int j=>ga (.int (i - j))
 | _,_,_=>Fa
def T7(op:XYc):V->V->Hp->VK->Prop:=λvx vy H Q=>match op,vx,vy with
 | .Add,.int i,.int j=>Q (.int (i+j)) H
 | .Sub,.int i,.int j=>Q (.int (i - j)) H
 | _,_,_=>False
def SE:Rl X op (T7 op):=by
 intro Yj s Y H x y u v Q I rx ry h;unfold T7 at h;split at h
 .exact Ul Yj s Y H _ _ u v Q I rx ry ⟨_,_,Z',Z',h⟩
 .exact SM Yj s Y H _ _ u v Q I rx ry ⟨_,_,Z',Z',h⟩
 .exact h.elim
def PP{K:qJ}{x y z:D}{Q:VK}(hx:sA K H x vx)(hy:sA K H y vy)(e:Ud op x y=ga z)(k:∀vz,sA K H z vz->Q vz H):T7 op vx vy H Q:=by
 unfold Ud at e;split at e
 .cases e;cases hx.int_inv;cases hy.int_inv;exact k _ .int
 .cases e;cases hx.int_inv;cases hy.int_inv;exact k _ .int
 .cases e
def Vh(K:qJ)(f:Str)(op:XYc)(ta tv:T3):xX:=λE U M=>ta U M λx M1=>match x with
 | .ref a=>AR (M1 a) λC fs=>uN K C f/\(fs.lookup f).elim False λd=>tv U M1 λy M2=>(Ud op d y).elim False λz=>AR (M2 a) λC' fs'=>C'=C/\fs'.length<1000/\E.nx U (pT M2 a (.ins C (wR f z fs')))
 | _=>False
def Ej{f:Str}(ha:E3 X o ta)(hv:E3 X value tv):S3 X (.AugAssign (.Attribute o f tpos) op value pos) (Vh X.K f op ta tv):=
 PS.mono (LI ha hv SE) λD' Y H zz=>L1 zz λU M E hs hm ht k1 k2 k3 k4=>
 ⟨U,M,_,hs,hm,ht,λv H1 d M1 hd Yl e1 q1=>by
  cases d with
  | ref a=>
   cases hd.mU;obtain⟨C,fs,e,q1⟩:=yk q1;obtain⟨na,q1⟩:=q1;obtain⟨d,ed,q1⟩:=rD q1;obtain⟨dx,vs,h1,cl,nn,fo⟩:=Yl a _ e;obtain⟨w,ew,hw⟩:=(xH fo).1 d ed;refine⟨a,C,dx,vs,w,Z',h1,cl,na,ew,U,M1,_,hs.mono e1,Yl,q1,λu H2 y M2 hy YB e2 q2=>?_⟩;obtain⟨z,ez,q2⟩:=rD q2;obtain⟨C',fs',e',q2⟩:=yk q2;obtain⟨rfl,hl,q2⟩:=q2;refine PP (hw.mono e2) hy ez λvz hz=>?_;obtain⟨dx',vs',Y4,cl',nn',fo'⟩:=YB a _ e';have Yp:vs'.length=fs'.length:=by have:=eR List.length fo'.1;simpa using this
   refine⟨dx',vs',Y4,by lia,?_⟩;obtain⟨Zi,e3⟩:=YB.put (p:=a) (o:=.ins C' dx' (wq f vz vs')) (c:=.ins C' (wR f z fs')) e' λx=>⟨dx',_,qC,cl',λg hg=>by
    rcases Dl hg with q|q
    .rw[q];exact na
    .exact nn' g q,Gu (hz.mono x) (fo'.mono x)⟩
   exact k1 Y _ U _ (hs.mono (e1.trans (e2.trans e3))) Zi (e1.trans (e2.trans e3)) Z' q2
  | _=>exact q1.elim⟩
theorem uo{i:Nat}{tt:Bm}{te:T3}{ok:Mp->Prop}{Q:DK}{f:D->D}{t:D->Bool}{M:Mp}(m9:ok M):∀(ds acc:T0 D) (U:vT),acc.length+ds.length<=Ch->
  (∀d∈ds,∀k:Bool->Mp->Prop,k (t d) M->tt (U.set i (ga d)) M k)->(∀d∈ds,t d=Db->∀k:DK,k (f d) M->te (U.set i (ga d)) M k)->
  (∀p,M p=Fa->Q (.ref p) (pT M p (.lst (acc++(ds.filter t).map f))))->vw (rH i) tt te ok Q ds acc U M
 | [],acc,U,hl,_,_,hq=>⟨by simpa using hl,by simpa using hq⟩
 | d::r,acc,U,hl,ht,he,hq=>by
  rw[eE]at hl;refine⟨by lia,?_⟩;show tt (U.set i (ga d)) M _;refine ht d dH _ ?_;have z:∀e:D,(U.set i (ga d)).set i (ga e)=U.set i (ga e):=λe=>by rw[jP]
  cases q:t d with
  | true=>
   rw[dh Z'];refine he d dH q _ ⟨m9,uo (f:=f) (t:=t) m9 r (acc++[f d]) _ ?_ (λe m k h=>?_) (λe m h0 k h=>?_) ?_⟩
   .rw[c9,dI];lia
   .rw[z];exact ht e (dD _ m) k h
   .rw[z];exact he e (dD _ m) h0 k h
   .intro p hp;have:=hq p hp;rw[iM q]at this
    simpa using this
  | false=>
   rw[df dE];refine⟨m9,uo (f:=f) (t:=t) m9 r acc _ (by lia) (λe m k h=>?_) (λe m h0 k h=>?_) ?_⟩
   .rw[z];exact ht e (dD _ m) k h
   .rw[z];exact he e (dD _ m) h0 k h
   .intro p hp;have:=hq p hp;rw[iN (by rw[q];exact dE)]at this;exact this
section
variable {a:Go}
def Xo(ta:T3):T3:=λU M Q=>ta U M λx M1=>match x with|.int i=>Q (.int (-i)) M1|_=>False
def A5(ha:E3 X a ta):E3 X (.UnaryOp .USub a pos) (Xo ta):=PE.mono (Wj Sn ha) λY H Q' zz=>x7 zz λU M Q hs hm ht k=>
 ⟨U,M,_,hs,hm,ht,λv H1 d M1 hd Yl e1 q1=>by
  cases d with
  | int i=>cases hd.int_inv;exact⟨i,Z',k _ H1 _ M1 .int Yl e1 q1⟩
  | _=>exact q1.elim⟩
end
end L3
namespace L2
open PySem.W
noncomputable def DI{α:Type}(lt:Nat->Nat->Bool):KasT α->α
 | .ret a=>a
 | .ask i j k=>DI lt (k (lt i j))
noncomputable def vX(n:Nat):KasT (Array Nat)->Bool
 | .ret p=>p.size==n&&p.toList.all λi=>decide (i<n)
 | .ask i j k=>decide (i<n)&&decide (j<n)&&vX n (k Db)&&vX n (k pc)
def Ht{n i j:Nat}{k:Bool->KasT (Array Nat)}(h:vX n (.ask i j k)=Db):i<n/\j<n/\∀b,vX n (k b)=Db:=by simp only[vX,dY,eC]at h;exact⟨h.1.1.1,h.1.1.2,λb=>by cases b;exact h.2;exact h.1.2⟩
theorem HN{cmp:Nat->Nat->(Bool->Sd->Prop)->Sd->Prop}{lt:Nat->Nat->Bool}{n:Nat}{Q:Array Nat->Sd->Prop}(hc:∀i j (C:Bool->Sd->Prop),i<n->j<n->C (lt i j) s->cmp i j C s):
  ∀t:KasT (Array Nat),vX n t=Db->Q (DI lt t) s->t.kasWp cmp Q s
 | .ret _,_,q=>q
 | .ask i j k,hb,q=>by obtain⟨h1,h2,h3⟩:=Ht hb;exact hc i j _ h1 h2 (HN hc (k (lt i j)) (h3 _) q)
theorem J9:∀t:KasT (Array Nat),vX n t=Db->(DI lt t).size=n/\∀i∈(DI lt t).toList,i<n
 | .ret p,hb=>by simp only[vX,dY,eZ,eF,eC]at hb;exact hb
 | .ask i j k,hb=>J9 (k (lt i j)) ((Ht hb).2.2 _)
noncomputable def uA(lt:Nat->Nat->Bool)(n:Nat):T0 Nat:=if n<2 then List.range n else(DI lt (kas_sort n)).toList
def Xz:vX 2 (kas_sort 2)=Db:=by decide+kernel
def Xw:vX 3 (kas_sort 3)=Db:=by decide+kernel
def Wn{n:Nat}(h2:2<=n)(h3:n<=3):vX n (kas_sort n)=Db:=by
 have:n=2\/n=3:=by lia
 rcases this with rfl|rfl
 .exact Xz
 .exact Xw
def yL{n:Nat}(h3:n<=3):(uA lt n).length=n/\∀i∈uA lt n,i<n:=by
 unfold uA;by_cases h:n<2
 .rw[dh h,eD];exact⟨Z',λi hi=>fU.mp hi⟩
 .rw[df h];obtain⟨h1,h2⟩:=J9 (lt:=lt) (kas_sort n) (Wn (by lia) h3);exact⟨by rw[il];exact h1,h2⟩
variable {prog:Pg}{w:Wo}{A:Ar}{E:QQX}{s:Sd}
def Eg{a:Uf}{vs:T0 Vl}{n:Nat}{κ:SortKind}{lt:Nat->Nat->Bool}{P:PySem.Fin->Sd->Prop}(ho:s.heap.get? a=ga (sK "list" vs.toArray n))(h3:vs.length<=3) (hk:∀h' (Q:SortKind->Sd->Prop),0<vs.length->(∀b o,b≠a->s.heap.get? b=ga o->h'.get? b=ga o)->Q κ {s with heap:=h'}->pi (Tk prog w) A (keyKind' vs.toArray) Q (λ_ _=>False) {s with heap:=h'})
  (Yt:∀h' i j (C:Bool->Sd->Prop),(∀b o,b≠a->s.heap.get? b=ga o->h'.get? b=ga o)->i<vs.length->j<vs.length->C (lt i j) {s with heap:=h'}->pi (Tk prog w) A (keyLt' κ (vs.getD i .none) (vs.getD j .none)) C (λ_ _=>False) {s with heap:=h'})
  (h:P (.done (.ret .none)) {s with heap:=sortedHeap s.heap a vs (List.toArray ((uA lt vs.length).map λi=>vs.getD i Value.none))}):
  pi (Tk prog w) A (Builtin.«list.sort» ⟨[.ref a],[]⟩) P E s:=by
 rw[list_sort_plain];have hz:=dO;have ha:a<s.heap.objs.size:=dC ho;refine cY (listItems_at ho Z' ?_);refine cY (kI ho Z' ?_ (by rw[dA];lia) (eO _));obtain⟨e1,ho1⟩:∃e1,(s.heap.update a (Obj.mapSeq λ_=>#[])).get? a=ga (sK "list" #[] e1):=⟨_,get?_update_seq ho (λ_=>#[])⟩;refine cY (lR ho1 Z' ?_);refine cY (wpAny_newTuple ?_ (by show vs.length<=_;lia));refine cY (wpAny_newList ?_ (eO _));refine eX ?_;have ho6:(((s.heap.update a (Obj.mapSeq λ_=>#[])).push (sK "tuple" vs.toArray 0)).push (sK "list" #[] 0)).get? a=ga (sK "list" #[] e1):=by rw[iS _ _ _ (by rw[my,iV];exact dM (fW ha)),iS _ _ _ (by rw[iV];exact dM ha)];exact ho1
 have keep:∀b o,b≠a->s.heap.get? b=ga o->(((s.heap.update a (Obj.mapSeq λ_=>#[])).push (sK "tuple" vs.toArray 0)).push (sK "list" #[] 0)).get? b=ga o:=λb o hb q=>by have Yt:b<s.heap.objs.size:=dC q;rw[iS _ _ _ (by rw[my,iV];exact dM (fW Yt)),iS _ _ _ (by rw[iV];exact dM Yt),jk _ _ _ _ hb];exact q
 show pi (Tk prog w) A _ P E {s with heap:=((s.heap.update a (Obj.mapSeq λ_=>#[])).push (sK "tuple" vs.toArray 0)).push (sK "list" #[] 0)};dsimp only;have hsz:vs.toArray.size=vs.length:=by simp
 by_cases h2:vs.toArray.size<2
 .rw[dh h2,dh h2];refine cY (dv ?_);rw[StateT.run_pure];refine cY (dv ?_);dsimp only;refine cY (lR ho6 Z' ?_);have eo:(arrOf (SortSt.mk' general' (vs.toArray.zip vs.toArray) #[] 7 Fa)).map (·.2)=List.toArray ((uA lt vs.length).map λi=>vs.getD i Value.none):=by
   unfold uA;rw[dh (by lia)];show((vs.toArray.zip vs.toArray).map (·.2))=_
   match vs,hsz,h2 with
   | [],_,_=>simp
   | [_],_,_=>simp[iq]
   | _::_::_,_,h2=>simp at h2;lia
  rw[eo];refine cY (kI ho6 Z' ?_ (eO _) (by rw[dA,cX,(yL h3).1];lia));simp only[lM,ls,kx];exact dv h
 .rw[df h2,df h2];have g2:2<=vs.length:=by lia
  refine cY (eB (hk _ (λκ' s'=>κ'=κ/\s'={s with heap:=((s.heap.update a (Obj.mapSeq λ_=>#[])).push (sK "tuple" vs.toArray 0)).push (sK "list" #[] 0)}) (by lia) keep ⟨Z',Z'⟩) ?_ λ_ _ x=>x.elim)
  rintro κ' s' ⟨rfl,rfl⟩
  refine cY (eB (kat_run (ks:=vs) (vs:=vs) (Q:=λZa s'=>∃p:Array Nat,arrOf Za=p.map (kas_item (vs.toArray.zip vs.toArray))/\failedOf Za=Fa/\p.toList=uA lt vs.length/\s'={s with heap:=((s.heap.update a (Obj.mapSeq λ_=>#[])).push (sK "tuple" vs.toArray 0)).push (sK "list" #[] 0)})
   (G:=λp s'=>p.toList=uA lt vs.length/\s'={s with heap:=((s.heap.update a (Obj.mapSeq λ_=>#[])).push (sK "tuple" vs.toArray 0)).push (sK "list" #[] 0)})
   rfl g2 (by lia) (λp' Za s' a1 a2 a3 a4=>⟨p',a2,a3,a4⟩) (HN (n:=vs.length) (lt:=lt) (λi j C hi hj hC=>Yt _ i j C keep hi hj hC) _ (Wn g2 h3) ⟨by unfold uA;rw[df (by lia)],Z'⟩)) ?_ λ_ _ e=>e)
  rintro ⟨⟨⟩,Za⟩ s' ⟨p,har,hf,hp,rfl⟩
  dsimp only;have hout:=kat_snds Z' har;rw[hp]at hout;refine cY (lR ho6 Z' ?_);rw[hout];refine cY (kI ho6 Z' ?_ (eO _) (by rw[dA,cX,(yL h3).1];lia));rw[hf];simp only[lM,ls,kx];exact dv h
noncomputable def WI(a b:Str×Int):Bool:=if a.1==b.1 then(if a.2==b.2 then pc else decide (a.2<b.2))else decide (a.1.cps.toList<b.1.cps.toList)
def QS{x y:Uf}{ox oy:Obj}{n k:Nat}{a b:Str×Int}{t1 t2 t3 t4:Tok}{C:Bool->Sd->Prop}(hx:s.heap.get? x=ga ox)(dx:ox.data=.seq #[.str a.1 t1,.int a.2 t2] n)(hy:s.heap.get? y=ga oy)(dy:oy.data=.seq #[.str b.1 t3,.int b.2 t4] k)(h:C (WI a b) s):
  pi (Tk prog w) A (keyLt' (tuples' Db) (.ref x) (.ref y)) C E s:=by
 refine kat_lt hx dx hy dy ?_;show KatLex prog w A Db _ C [(Value.str a.1 t1,Value.str b.1 t3),(Value.int a.2 t2,Value.int b.2 t4)] 0 s;unfold WI at h;refine kat_cons (eqBool_str ?_);cases e:a.1==b.1 with
 | true=>
  rw[e,dh Z']at h;refine kat_yes (kat_cons (lU ?_));cases e2:a.2==b.2 with
  | true=>rw[e2,dh Z']at h;exact kat_yes (kat_nil h)
  | false=>rw[e2,df dE]at h;exact kat_no (kat_one _ _ (PyProof.Rows.lt_int h))
 | false=>rw[e,df dE]at h;exact kat_no (oneLt_str h)
def DM{x:Str}(h:Ct (.inr x) v=Db):∃t,v=.str x t:=by
 rcases sH h with⟨i,t,e,_⟩|⟨y,t,e,e2⟩
 .cases e
 .cases e;exact⟨t,e2⟩
noncomputable def Gg(ps:T0 (Str×Int))(i j:Nat):Bool:=WI (ps.getD i ("",0)) (ps.getD j ("",0))
noncomputable def tY(ps:T0 (Str×Int)):T0 (Str×Int):=(uA (Gg ps) ps.length).map λi=>ps.getD i ("",0)
def EB{ps:T0 (Str×Int)}(h:ps.length<=3):(tY ps).length=ps.length:=by unfold tY;rw[cX];exact(yL h).1
def Pr(h:No)(a:Uf)(p:Str×Int):Prop:=Cv λt1 t2=>h.get? a=ga {cls:=.type "tuple",data:=.seq #[.str p.1 t1,.int p.2 t2]}
def Pr.inj{p q:Str×Int}(x:Pr h a p)(y:Pr h a q):p=q:=by obtain⟨t1,t2,e1⟩:=x;obtain⟨u1,u2,e2⟩:=y;rw[e1]at e2;have:=dq e2;simp only[Obj.mk.injEq,Data.seq.injEq,Array.mk.injEq,List.cons.injEq,Value.str.injEq,Value.int.injEq]at this;exact mI (by simp_all) (by simp_all)
theorem JM:∀(as:QXQ) (ps:T0 (Str×Int)),as.length=ps.length->(∀(j:Nat) (a:Uf) (p:Str×Int),as[j]?=ga a->ps[j]?=ga p->Pr h a p)->∃fs,KatTups h (as.map Value.ref) fs/\fs.length=as.length/\∀v∈fs,∃x t,v=Value.str x t
 | [],[],_,_=>⟨[],.nil,Z',λv hv=>nomatch hv⟩
 | [],_::_,e,_=>by cases e
 | _::_,[],e,_=>by cases e
 | a::as,p::ps,e,hp=>by
  obtain⟨fs,h1,h2,h3⟩:=JM as ps (by simpa using e) λj a' p' e1 e2=>hp (j+1) a' p' (by simpa using e1) (by simpa using e2);obtain⟨t1,t2,ea⟩:=hp 0 a p Z' Z';refine⟨.str p.1 t1::fs,.cons ea Z' Z' Z' h1,by simp[h2],λv hv=>?_⟩;rcases dz.mp hv with z|z
  .exact⟨_,_,z⟩
  .exact h3 v z
def GB{r d:Uf}{kvs:T0 (rM×Vl)}{ep:Nat}{ps:T0 (Str×Int)}{Q:QQX}(hh:A.handled=Fa)(hv:s.heap.IsItemsView r d)(hm:s.heap.DictAt (rW prog w) d kvs ep)(h3:ps.length<=3) (hp:kvs.length=ps.length) (hps:∀(j:Nat) (k:rM) (x:Vl),kvs[j]?=ga (k,x)->∃p t,ps[j]?=ga p/\k=Sum.inr p.1/\x=.int p.2 t) (h:∀(h':No) (tk:Nat) (S:Uf) (ws:QXQ) (e:Nat),(∀b o,s.heap.get? b=ga o->h'.get? b=ga o)->r<S->h'.get? S=ga (sK "list" (ws.map Value.ref).toArray e)->ws.length=ps.length->
    (∀(j:Nat) (a:Uf) (p:Str×Int),ws[j]?=ga a->(tY ps)[j]?=ga p->r<a/\a≠S/\Pr h' a p)->Q (.ref S) {s with heap:=h',toks:=tk}):
  pi (Tk prog w) A (call (.builtin "sorted") [.ref r]) Q E s:=by
 have hz:=dO;have hr:r<s.heap.objs.size:=by obtain⟨o,ho,_⟩:=hv;exact dC ho
 refine Calls.call_function_entry kind_sorted plain_sorted entry_sorted (args_sorted1 _) ?_;unfold Builtin.«sorted»;refine cY (m:=checkCount "sorted" 1 1 _) (dv ?_);refine cY (kdx_collect (A:=A.in1) hh hv hm (by lia) λh1 tk as hk hl hG=>?_);refine cY (wpAny_newList ?_ (by rw[cX];lia));have hl':as.length=ps.length:=by lia
 have pr:∀(j:Nat) (a:Uf) (p:Str×Int),as[j]?=ga a->ps[j]?=ga p->Pr h1 a p:=λj a p e1 e2=>by obtain⟨key,k,x,f1,f2,f3⟩:=hG.pairs j a e1;obtain⟨p',t,g1,g2,g3⟩:=hps j k x f1;rw[e2]at g1;cases g1;subst g2 g3;obtain⟨t',rfl⟩:=DM f2;exact⟨t',t,f3⟩
 have hoL:(h1.push (sK "list" (as.map Value.ref).toArray 0)).get? h1.objs.size=ga (sK "list" (as.map Value.ref).toArray 0):=dJ _ Z';have pr2:∀h',(∀b o,b≠h1.objs.size->(h1.push (sK "list" (as.map Value.ref).toArray 0)).get? b=ga o->h'.get? b=ga o)->∀(j:Nat) (a:Uf) (p:Str×Int),as[j]?=ga a->ps[j]?=ga p->Pr h' a p:=λh' kp j a p e1 e2=>by obtain⟨t1,t2,e3⟩:=pr j a p e1 e2;exact⟨t1,t2,kp _ _ (dM (dC e3)) (dg _ e3)⟩
 have gd:∀i,i<as.length->∃a p,as[i]?=ga a/\ps[i]?=ga p/\(as.map Value.ref).getD i Value.none=.ref a/\ps.getD i ("",0)=p:=λi hi=>by
  have Ze:i<ps.length:=by lia
  refine⟨as[i],ps[i],cZ hi,cZ Ze,?_,?_⟩
  .simp[hi]
  .simp[Ze]
 have hll:(as.map Value.ref).length=ps.length:=by rw[cX];exact hl'
 show pi _ _ _ _ _ {s with heap:=h1.push (sK "list" (as.map Value.ref).toArray 0),toks:=tk};refine cY (eX (fT slot_list_sort ⟨_,hoL,Z'⟩ entry_list_sort (Eg (κ:=tuples' Db) (lt:=Gg ps) (s:={s with heap:=h1.push (sK "list" (as.map Value.ref).toArray 0),toks:=tk}) hoL (by rw[hll];exact h3) (λh' Q' YI kp hq=>?_) (λh' i j C kp hi hj hC=>?_) ⟨_,Z',?_⟩) (args_list_sort _)))
 .obtain⟨fs,k1,k2,k3⟩:=JM as ps hl' (pr2 h' kp);refine kat_kind (T:=Value.type "str") k1 (by rw[k2];rw[cX]at YI;exact YI) (λv hv=>?_) (by decide) hq;obtain⟨x,t,rfl⟩:=k3 v hv;exact Looks.now
 .rw[cX]at hi hj;obtain⟨a,p,a1,a2,a3,a4⟩:=gd i hi;obtain⟨b,q,b1,b2,b3,b4⟩:=gd j hj;rw[a3,b3];obtain⟨t1,t2,e1⟩:=pr2 h' kp i a p a1 a2;obtain⟨t3,t4,e2⟩:=pr2 h' kp j b q b1 b2;refine QS (s:={s with heap:=h',toks:=tk}) e1 Z' e2 Z' ?_;show C (WI p q) _;rw[<-a4,<-b4];exact hC
 .obtain⟨e,he⟩:=sortedHeap_at (h:=h1.push (sK "list" (as.map Value.ref).toArray 0)) (a:=h1.objs.size) (vs:=as.map Value.ref) (out:=List.toArray ((uA (Gg ps) (as.map Value.ref).length).map λi=>(as.map Value.ref).getD i Value.none)) hoL;have YR:∀b o,h1.get? b=ga o->(sortedHeap (h1.push (sK "list" (as.map Value.ref).toArray 0)) h1.objs.size (as.map Value.ref) (List.toArray ((uA (Gg ps) (as.map Value.ref).length).map λi=>(as.map Value.ref).getD i Value.none))).get? b=ga o:=λb o q=>by have hb:=dC q;rw[sortedHeap_old (dM hb) (by rw[my];exact fW hb)];exact dg _ q
  have ix:=yL (lt:=Gg ps) h3;have eo:((uA (Gg ps) (as.map Value.ref).length).map λi=>(as.map Value.ref).getD i Value.none)=((uA (Gg ps) ps.length).map λi=>as.getD i 0).map Value.ref:=by
   rw[hll,eA];refine gy λi hi=>?_;have:=ix.2 i hi;have ZY:i<as.length:=by lia
   simp[ZY]
  refine dv ⟨_,Z',h _ tk h1.objs.size ((uA (Gg ps) ps.length).map λi=>as.getD i 0) e (λb o q=>YR b o (hk b o q)) ?_ ?_ ?_ λj a p e1 e2=>?_⟩
  .obtain⟨o,ho,_⟩:=hv;exact dC (hk _ _ ho)
  .rw[he,eo]
  .rw[cX];exact ix.1
  .unfold tY at e2;rw[dG]at e1 e2;cases ei:(uA (Gg ps) ps.length)[j]? with
   | none=>rw[ei]at e1;cases e1
   | some i=>
    rw[ei]at e1 e2;have hi:=ix.2 i (ft ei);obtain⟨a',p',a1,a2,a3,a4⟩:=gd i (by lia);have ea:a=a':=by have:as.getD i 0=a:=dq e1;rw[<-this];simp[gh,a1]
    have ep:p=p':=by have:ps.getD i ("",0)=p:=dq e2;rw[<-this,a4]
    subst ea ep;have P1:=pr i a p a1 a2;obtain⟨t1,t2,e3⟩:=P1;exact⟨iz hr (hG.above a (ft a1)),dM (dC e3),t1,t2,YR _ _ e3⟩
def Inv.many{Yj:QQY}{H H':Hp}{h':No}{t':Nat}(I:Inv X Yj Y H s)(k:∀b o,s.heap.get? b=ga o->h'.get? b=ga o)(hs:∀b,b<s.heap.objs.size->H' b=H b) (new:∀b o,s.heap.objs.size<=b->H' b=ga o->sQ X.prog X.w H' h' b o):Inv X Yj Y H' {s with heap:=h',toks:=t'}:=by
 have sm:∀b o,H b=ga o->H' b=ga o:=λb o e=>by rw[hs b (I.m9.lt e)];exact e
 refine I.step (g':=s.gens) (d':=s.drawn) (ch:=[]) (λb hb=>nomatch hb) (λb o _ _ _ e _=>k b o e) (λb o _ _ _ e _=>⟨o.slots,k b o e⟩) (λb o _ e n=>by rw[hs b (dC e)];exact n)
  (λb o _ e=>⟨o,k b o e⟩) (λb xs e=>sm b _ e) (λb o u e=>sm b _ e) (λb ps e=>⟨#[],by rw[sm b _ e];simp⟩) (λm hm=>?_) (λb u e=>?_) I.bare
 .obtain⟨o,es,ep,ho,r⟩:=hm;exact⟨o,es,ep,k _ o ho,r⟩
 .by_cases hb:b<s.heap.objs.size
  .rw[hs b hb]at e;exact(I.m9 b u e).nH (λc v _ q=>k c v q) (λc q=>sm c _ q) λc xs q=>sm c _ q
  .exact new b u (jM hb) e
def TJ(te:TE):TE:=λY H Q=>te Y H λv H1=>∃a kvs ps,v=.ref a/\H1 a=ga (.dK kvs)/\kvs=(ps:T0 (Str×Int)).map (λp=>((Sum.inr p.1:rM),V.int p.2))/\ps.length<=3/\
 ∀(S:Uf) (H2:Hp) (ws:QXQ),H1 S=Fa->(∀b o,H1 b=ga o->H2 b=ga o)->H2 S=ga (.lst (ws.map V.ref))->ws.length=ps.length->(∀(j:Nat) (a:Uf) (p:Str×Int),ws[j]?=ga a->(tY ps)[j]?=ga p->H2 a=ga (.tup [.str p.1,.int p.2]))->
  (∀b o,H1 b=Fa->H2 b=ga o->b=S\/∃p:Str×Int,o=.tup [.str p.1,.int p.2])->Q (.ref S) H2
def Lk:zn "sorted"=ga (.builtin "sorted"):=by decide+kernel
theorem KN:∀{ps:T0 (Str×Int)} {vs:T0 (rM×Vl)},KV (ps.map (λp=>((Sum.inr p.1:rM),V.int p.2))) vs->vs.length=ps.length/\∀(j:Nat) (k:rM) (x:Vl),vs[j]?=ga (k,x)->∃p t,ps[j]?=ga p/\k=Sum.inr p.1/\x=.int p.2 t
 | [],_,.nil=>⟨Z',λj k x e=>by simp at e⟩
 | p::ps,_,.cons r rs=>by
  obtain⟨h1,h2⟩:=KN rs;refine⟨by simp[h1],λj k x e=>?_⟩;cases j with
  | zero=>have e:=dq e;obtain⟨r1,t,r2⟩:=r;subst e;exact⟨p,t,Z',r1.symm,r2⟩
  | succ j=>exact h2 j k x e
def FT{X:Cx}{te:TE}{p pos Ym Yq:Pos}(hc:X.calm=Db)(he:PE X o te)(hg:Gl X "sorted")(hm:X.mg "sorted"=Fa) (Ys:Ps o "items" X.env (wp o X.env)=wp o X.env:=by rfl) (Yy:(Ym.endLine==Yq.line)=Db:=by rfl):
  PE X (.Call (.Name "sorted" p) [.Call (.Attribute o "items" Ym) [] [] Yq] [] pos) (TJ te):=by
 intro Yj s Y H Q I h;refine fS (vY I hg hm Lk ?_);refine gS ?_ Z' Z';show pi _ _ (spliced ((pc,wp (.Call (.Attribute o "items" Ym) [] [] Yq) X.env)::xz pos (Tl [] X.env))) _ _ s;refine iy ?_;refine jV Ys Yy (tz (he Yj s Y H _ I h) λv s1 zz=>?_);obtain⟨x,H1,I1,r1,a,kvs,ps,ex,ea,ek,h3,q⟩:=zz;subst ex;obtain rfl:v=Value.ref a:=r1;obtain⟨h1,h2⟩:=IG (T:="dict") (x:=.ref a) I1 Z' (.inr (.inr (.inl ⟨Z',.inl ⟨_,ea⟩⟩)));refine⟨"dict","dict.items",PySem.F.plainAttrs_dict,jX,PySem.F.type_dict_items,h1,h2,iT Z' (kN ?_)⟩;obtain⟨hz,hS,vs,rk,hD⟩:=I1.m9 a _ ea;refine call_meetsIn jX h1 PySem.F.entry_dict_items (PySem.F.args_dict_items_1 _) (meets_dict_items (rW X.prog X.w) a hS) ⟨⟨vs,hD⟩,?_⟩;refine iP ?_;obtain⟨ep,hat⟩:=hD.dictAt;subst ek;obtain⟨g1,g2⟩:=KN rk;refine GB (ps:=ps) (s:={s1 with heap:=s1.heap.push {cls:=.type "dict_items",data:=.fields #[.ref a]}}) (I1.ok.hd hc) ⟨_,dJ _ Z',Z',Z'⟩ (hat.push _) h3 g1 g2 λh' tk S ws e k hrS Z8 hl hw=>?_;have k':∀b o,s1.heap.get? b=ga o->h'.get? b=ga o:=λb o z=>k b o (dg _ z);have hsl:(tY ps).length=ws.length:=by rw[EB h3,hl]
 let H2:Hp:=λb=>if b=S then ga (.lst (ws.map V.ref))else match (ws.zip (tY ps)).lookup b with
  | some p=>ga (.tup [.str p.1,.int p.2])
  | none=>H1 b
 have at1:∀b p,(ws.zip (tY ps)).lookup b=ga p->s1.heap.objs.size<b/\b≠S/\Pr h' b p:=λb p z=>by
  have:(b,p)∈ws.zip (tY ps):=by
   have go:∀l:T0 (Uf×(Str×Int)),l.lookup b=ga p->(b,p)∈l:=λl=>by
    induction l with
    | nil=>intro z;cases z
    | cons c r ih=>
     intro z;rw[eJ]at z;cases q:b==c.1 with
     | true=>
      rw[q]at z;have hb:b=c.1:=by simpa using q
      have:c=(b,p):=mI hb.symm (dq z);rw[this];exact dH
     | false=>rw[q]at z;exact dD _ (ih z)
   exact go _ z
  obtain⟨j,hj⟩:=List.mem_iff_getElem?.mp this;obtain⟨e1,e2⟩:=ip.mp hj;exact hw j b p e1 e2
 have lowS:s1.heap.objs.size<S:=hrS;have low:∀b,b<s1.heap.objs.size->H2 b=H1 b:=λb hb=>by
  show(if b=S then _ else _)=_;rw[df (dM (iz hb lowS))];cases z:(ws.zip (tY ps)).lookup b with
  | none=>rfl
  | some p=>exact absurd (at1 b p z).1 (Nat.not_lt_of_lt hb)
 have eS:H2 S=ga (.lst (ws.map V.ref)):=dh Z';have fr:∀b,s1.heap.objs.size<=b->H1 b=Fa:=λb hb=>I1.m9.fresh hb;have tupAt:∀(j:Nat) (b:Uf) (p:Str×Int),ws[j]?=ga b->(tY ps)[j]?=ga p->H2 b=ga (.tup [.str p.1,.int p.2]):=λj b p e1 e2=>by
  obtain⟨_,n2,n3⟩:=hw j b p e1 e2;show(if b=S then _ else _)=_;rw[df n2];have mem:(b,p)∈ws.zip (tY ps):=ft (ip.mpr ⟨e1,e2⟩);cases z:(ws.zip (tY ps)).lookup b with
  | none=>
   have go:∀l:T0 (Uf×(Str×Int)),(b,p)∈l->l.lookup b≠Fa:=λl=>by
    induction l with
    | nil=>intro z;cases z
    | cons c r ih=>
     intro z;rw[eJ];cases q:b==c.1 with
     | true=>simp
     | false=>
      rcases dz.mp z with y|y
      .rw[<-y]at q;simp at q
      .exact ih y
   exact absurd z (go _ mem)
  | some p'=>rw[(at1 b p' z).2.2.inj n3]
 have newOk:∀b u,s1.heap.objs.size<=b->H2 b=ga u->sQ X.prog X.w H2 h' b u/\(b=S\/∃p:Str×Int,u=.tup [.str p.1,.int p.2]):=λb u hb z=>by
  by_cases eb:b=S
  .subst eb;rw[eS]at z;cases z;refine⟨⟨by rw[cX,hl,dO];lia,ws.map Value.ref,e,?_,Z8⟩,.inl Z'⟩;have go:∀l:QXQ,qL (l.map V.ref) (l.map Value.ref):=λl=>by
    induction l with
    | nil=>exact .nil
    | cons c r ih=>exact .cons Z' ih
   exact go ws
  .have z':(match (ws.zip (tY ps)).lookup b with|some p=>ga (HO.tup [.str p.1,.int p.2])|none=>H1 b)=ga u:=by have:H2 b=_:=df eb;rw[this]at z;exact z
   cases y:(ws.zip (tY ps)).lookup b with
   | none=>rw[y,fr b hb]at z';cases z'
   | some p=>rw[y]at z';cases z';obtain⟨_,_,t1,t2,e3⟩:=at1 b p y;exact⟨⟨by show 2<=Ch;rw[dO];decide,[.str p.1 t1,.int p.2 t2],.cons ⟨_,Z'⟩ (.cons ⟨_,Z'⟩ .nil),⟨_,e3,Z',⟨_,Z'⟩,Z'⟩⟩,.inr ⟨p,Z'⟩⟩
 refine⟨.ref S,H2,I1.many (t':=tk) k' low λb u hb z=>(newOk b u hb z).1,Z',q S H2 ws (fr S (hW lowS)) (λb u z=>by rw[low b (I1.m9.lt z)];exact z) eS hl tupAt λb u z1 z2=>?_⟩;by_cases hb:b<s1.heap.objs.size
 .rw[low b hb,z1]at z2;cases z2
 .exact(newOk b u (jM hb) z2).2
end L2
namespace L3
open L2
noncomputable def AA(p:Str×Int):D:=.tup [.str p.1,.int p.2]
def SO(ta:T3):T3:=λU M Q=>ta U M λx M1=>match x with
 | .ref a=>∃ps:T0 (Str×Int),zX M1 a=ga (ps.map λp=>((Sum.inr p.1:rM),D.int p.2))/\ps.length<=3/\∀S,M1 S=Fa->Q (.ref S) (pT M1 S (.lst ((tY ps).map AA)))
 | _=>False
theorem Dp{K:qJ}:∀{ps:T0 (Str×Int)} {vs:T0 (rM×V)},vs.map (·.1)=(ps.map λp=>((Sum.inr p.1:rM),D.int p.2)).map (·.1)->qF K H ((ps.map λp=>((Sum.inr p.1:rM),D.int p.2)).map (·.2)) (vs.map (·.2))->vs=ps.map (λp=>((Sum.inr p.1:rM),V.int p.2))
 | [],[],_,_=>rfl
 | [],_::_,e,_=>by cases e
 | _::_,[],e,_=>by cases e
 | p::ps,(k,v)::vs,e,h=>by obtain⟨x,r,e2,h1,h2⟩:=h.inv;obtain⟨e3,e4⟩:=gi e2;obtain⟨f1,f2⟩:=gi e;subst e3 e4;have hk:k=Sum.inr p.1:=f1;have hv:v=V.int p.2:=sA.int_inv h1;rw[Dp f2 h2,hk,hv];rfl
def E4{X:Cx}{p pos Ym Yq:Pos}(hc:X.calm=Db)(he:E3 X o ta)(hg:Gl X "sorted")(hm:X.mg "sorted"=Fa) (Ys:Ps o "items" X.env (wp o X.env)=wp o X.env:=by rfl) (Yy:(Ym.endLine==Yq.line)=Db:=by rfl):
  E3 X (.Call (.Name "sorted" p) [.Call (.Attribute o "items" Ym) [] [] Yq] [] pos) (SO ta):=PE.mono (FT hc he hg hm Ys Yy) λY H Q' zz=>x7 zz λU M Q hs hm ht k=>
 ⟨U,M,_,hs,hm,ht,λv H1 d M1 hd Yl e1 q1=>by
  cases d with
  | ref a=>
   cases hd.mU;obtain⟨ps,f1,f2,q⟩:=q1;obtain⟨vs,h1,h2,h3⟩:=Al Yl f1;refine⟨a,vs,ps,Z',h1,Dp h2 h3,f2,λS H2 ws n1 kp eS hl hw hn=>?_⟩;have ex:rC X.K H1 H2:=⟨λb xs z=>by
    rcases z with(z|⟨u,z⟩)|z
    .exact .inl (.inl (kp _ _ z))
    .exact .inl (.inr ⟨u,kp _ _ z⟩)
    .exact .inr z,λb u xs z=>kp _ _ z⟩
   have hl2:(tY ps).length=ws.length:=by rw[EB f2,hl]
   have hasW:∀(l:T0 (Str×Int)) (us:QXQ),l.length=us.length->(∀(j:Nat) (a:Uf) (p:Str×Int),us[j]?=ga a->l[j]?=ga p->H2 a=ga (.tup [.str p.1,.int p.2]))->qF X.K H2 (l.map AA) (us.map V.ref):=λl=>by
    induction l with
    | nil=>intro us e _;cases us with
     | nil=>exact .nil
     | cons _ _=>cases e
    | cons c r ih=>intro us e hu;cases us with
     | nil=>cases e
     | cons b us=>exact .cons (.tup (.of (hu 0 b c Z' Z')) (.cons .str (.cons .int .nil))) (ih us (by simpa using e) λj a p e1 e2=>hu (j+1) a p e1 e2)
   refine k _ _ _ _ .ref (λb c z=>?_) (e1.trans ex) (q S (Yl.fresh n1));by_cases eb:b=S
   .subst eb;rw[qg]at z;cases z;exact⟨_,eS,hasW _ _ hl2 hw⟩
   .rw[uH eb]at z;have ok:=Yl b c z;obtain⟨u,eu,_⟩:=ok.there;exact ok.keep ex (by rw[eu,kp _ _ eu])
  | _=>exact q1.elim⟩
variable {X:Cx}{pos:Pos}{a b o i:Go}{ta tb ti to:T3}
def Vg(to ti:T3):Et:=λd U M Q=>to U M λx M1=>ti U M1 λy M2=>match x,y with
 | .ref p,.int k=>(oU M2 p).elim False λes=>(Gc es.length k).elim False λj=>Q U (pT M2 p (.lst (es.set j d)))
 | _,_=>False
theorem qF.set{K:qJ}(hv:sA K H d v):∀{ds:T0 D} {xs:T0 V} (j:Nat),qF K H ds xs->qF K H (ds.set j d) (xs.set j v)
 | [],_,j,h=>by rw[h.nil_inv];simp only[List.set_nil];exact .nil
 | e::ds,_,0,h=>by obtain⟨x,r,rfl,h1,h2⟩:=h.inv;exact .cons hv h2
 | e::ds,_,j+1,h=>by obtain⟨x,r,rfl,h1,h2⟩:=h.inv;exact .cons h1 (qF.set hv j h2)
def Tc(ho:E3 X o to)(hi:E3 X i ti) (ha:∀v,assign (.Subscript o i pos) X.env v=(do
   let ov<-sB [v] (wp o X.env);let iv<-sB [v,ov] (wp i X.env)
   XXd pos
   sB [v,ov,iv] (setItem ov iv v)
   release [v,ov,iv] []):=by intro _;rfl):G3 X (.Subscript o i pos) (Vg to ti):=
 PG.mono (TB ho hi Nd ha) λv Y H Q' ⟨d,U,M,Q,hd,hs,hm,ht,k⟩=>
 ⟨U,M,_,hs,hm,ht,λvx H1 x M1 hx Yl e1 q1=>⟨U,M1,_,hs.mono e1,Yl,q1,λvy H2 y M2 hy YB e2 q2=>by
  cases x with
  | ref p=>
   cases y with
   | int j0=>obtain⟨es,f1,q2⟩:=rD q2;obtain⟨j,f2,q2⟩:=rD q2;cases(hx.mono e2).mU;cases hy.int_inv;obtain⟨xs,h1,h2⟩:=BY YB f1;refine⟨p,xs,j0,j,Z',Z',h1,by rw[<-h2.length];exact f2,?_⟩;have hd2:=hd.mono (e1.trans e2);obtain⟨Zi,e3⟩:=YB.put (o:=.lst (xs.set j v)) (c:=.lst (es.set j d)) (qm f1) λex=>⟨_,qC,(h2.mono ex).set (hd2.mono ex) j⟩;exact k Y _ U _ (hs.mono (e1.trans (e2.trans e3))) Zi (e1.trans (e2.trans e3)) Z' q2
   | _=>exact q2.elim
  | _=>exact q2.elim⟩⟩
end L3
namespace L2
variable {prog:Pg}{w:Wo}{A:Ar}{E:QQX}{s:Sd}{X:Cx}
end L2
namespace L3
open L2
variable {X:Cx}{pos Ym p:Pos}{a b o e i value:Go}{es:T0 Go}{ta tb ti to tv td tk:T3}{t:xA}
def S0(x y:D)(M:Mp)(Q:DK):Prop:=match x,y with
 | .ref a,.int k=>(oU M a).elim False λes=>(0<=k/\k<=1000/\es.length<=1000)/\∀p,M p=Fa->Q (.ref p) (pT M p (.lst (List.replicate k.toNat es).flatten))
 | _,_=>False
theorem J'{K:qJ}(h:qF K H ds xs):∀n:Nat,qF K H (List.replicate n ds).flatten (List.replicate n xs).flatten
 | 0=>.nil
 | n+1=>by rw[eL,eL,fP,fP];exact h.append (J' h n)
def Tj:yC X (wS .Mult) (R3 X.K S0):=λYj s Y H vx vy v u Q' I rx ry h=>by
 obtain⟨x,y,M,Q,hx,hy,hm,q,k⟩:=h;unfold S0 at q;split at q
 .obtain⟨es,e1,⟨q1,q2,q3⟩,q⟩:=rD q;cases hx.mU;cases hy.int_inv;obtain⟨xs,h1,h2⟩:=BY hm e1;have hz:=dO;have hl:=h2.length;refine TF Yj s Y H _ _ v u Q' I rx ry ⟨_,_,xs,Z',Z',h1,by lia,by lia,?_,λpp hp=>?_⟩
  .exact eh (ko (show xs.length<=1000 by lia) (show Int.toNat _<=1000 by lia)) (by rw[hz];decide)
  .exact k _ _ _ _ .ref (hm.new (c:=.lst _) hp ⟨_,qC,(J' h2 _).mono (.new hp)⟩) (.new hp) (q pp (hm.fresh hp))
 .exact q.elim
def We(ta tb:T3):T3:=λU M Q=>ta U M λx M1=>tb U M1 λy M2=>S0 x y M2 Q
def DF(ha:E3 X a ta)(hb:E3 X b tb):E3 X (.BinOp a .Mult b pos) (We ta tb):=PE.mono (RH Tj ha hb) IJ
noncomputable def Dy(kvs:T0 (rM×D))(k:rM)(v:D):T0 (rM×D):=if (kvs.any λkv=>decide (kv.1=k))=Db then kvs.map (λkv=>if kv.1=k then(kv.1,v)else kv)else kvs++[(k,v)]
theorem Hv{κ α β:Type}{k:κ}[DecidableEq κ]:∀{xs:T0 (κ×α)} {ys:T0 (κ×β)},xs.map (·.1)=ys.map (·.1)->(xs.any λkv=>decide (kv.1=k))=ys.any λkv=>decide (kv.1=k)
 | [],[],_=>rfl
 | [],_::_,e=>by cases e
 | _::_,[],e=>by cases e
 | x::xs,y::ys,e=>by obtain⟨e1,e2⟩:=gi e;rw[gg,gg,Hv e2];have e1:x.1=y.1:=e1;rw[e1]
def Ln{K:qJ}{k:rM}(hv:sA K H d v){kvs:T0 (rM×D)}{vs:T0 (rM×V)}(h1:vs.map (·.1)=kvs.map (·.1))(h2:qF K H (kvs.map (·.2)) (vs.map (·.2))):
  (zw vs k v).map (·.1)=(Dy kvs k d).map (·.1)/\qF K H ((Dy kvs k d).map (·.2)) ((zw vs k v).map (·.2)):=by
 have go:∀{kvs:T0 (rM×D)} {vs:T0 (rM×V)},vs.map (·.1)=kvs.map (·.1)->qF K H (kvs.map (·.2)) (vs.map (·.2))->
   (vs.map (λkv=>if kv.1=k then(kv.1,v)else kv)).map (·.1)=(kvs.map (λkv=>if kv.1=k then(kv.1,d)else kv)).map (·.1)/\qF K H ((kvs.map (λkv=>if kv.1=k then(kv.1,d)else kv)).map (·.2)) ((vs.map (λkv=>if kv.1=k then(kv.1,v)else kv)).map (·.2)):=λ{kvs}=>by
  induction kvs with
  | nil=>intro vs e h;cases vs with
   | nil=>exact⟨Z',.nil⟩
   | cons _ _=>cases e
  | cons c r ih=>intro vs e h;cases vs with
   | nil=>cases e
   | cons w ws=>
    obtain⟨e1,e2⟩:=gi e;obtain⟨x,xr,e3,g1,g2⟩:=h.inv;obtain⟨e4,e5⟩:=gi e3;subst e4 e5;obtain⟨i1,i2⟩:=ih e2 g2;have e1:w.1=c.1:=e1;by_cases hk:c.1=k
    .have w1:(if w.1=k then(w.1,v)else w)=(w.1,v):=dh (e1.trans hk);have w2:(if c.1=k then(c.1,d)else c)=(c.1,d):=dh hk;simp only[d6,w1,w2];exact⟨by rw[i1,e1],.cons hv i2⟩
    .have w1:(if w.1=k then(w.1,v)else w)=w:=df λz=>hk (e1.symm.trans z);have w2:(if c.1=k then(c.1,d)else c)=c:=df hk;simp only[d6,w1,w2];exact⟨by rw[i1,e1],.cons g1 i2⟩
 unfold zw Dy;rw[Hv (k:=k) h1];by_cases hk:(kvs.any λkv=>decide (kv.1=k))=Db
 .rw[dh hk,dh hk];exact go h1 h2
 .rw[df hk,df hk];exact⟨by rw[dP,dP,h1];rfl,by rw[dP,dP];exact h2.append (.cons hv .nil)⟩
def Vi(td tk tv:T3):xX:=λD U M=>tv U M λv M1=>td U M1 λx M2=>tk U M2 λy M3=>match x,y with
 | .ref a,.str k=>(zX M3 a).elim False λkvs=>kvs.length<Ch/\D.nx U (pT M3 a (.dk (Dy kvs (.inr k) v)))
 | _,_=>False
def yN{a:Uf}{kvs:T0 (rM×D)}(h:zX M a=ga kvs):M a=ga (.dk kvs):=by
 unfold zX at h;split at h
 .rename_i e;rw[e];cases h;rfl
 .cases h
def Rb(hu:X.A.units+9<XXa)(ho:E3 X o td)(hi:E3 X i tk)(hv:E3 X value tv)(hs:wE value (ga (.Subscript o i Yu)) pos.line X.env=pure pc:=by rfl):S3 X (.Assign [.Subscript o i Yu] value pos) (Vi td tk tv):=
 PS.mono (Q5 (by lia) ho hi hv hs) λD' Y H zz=>L1 zz λU M D hs hm ht k1 k2 k3 k4=>
 ⟨U,M,_,hs,hm,ht,λv H1 d M1 hd Yl e1 q1=>⟨U,M1,_,hs.mono e1,Yl,q1,λvx H2 x M2 hx YB e2 q2=>⟨U,M2,_,hs.mono (e1.trans e2),YB,q2,λvy H3 y M3 hy Zi e3 q3=>by
  split at q3
  .rename_i a0 k0;obtain⟨kvs,f1,f2,q3⟩:=rD q3;cases(hx.mono e3).mU;cases hy.str_inv;obtain⟨vs,h1,h2,h3⟩:=Al Zi f1;have hl:vs.length=kvs.length:=by have:=eR List.length h2;simpa using this
   refine⟨_,_,Z',Np.k (k:=Sum.inr k0) h1 (by lia),?_⟩;have hd3:=hd.mono (e2.trans e3);obtain⟨hm4,e4⟩:=Zi.put (o:=.dK (zw vs (Sum.inr k0) v)) (c:=.dk (Dy kvs (.inr k0) d)) (yN f1) λex=>by obtain⟨g1,g2⟩:=Ln (k:=Sum.inr k0) (hd3.mono ex) h2 (h3.mono ex);exact⟨_,qC,g1,g2⟩
   exact k1 Y _ U _ (hs.mono (e1.trans (e2.trans (e3.trans e4)))) hm4 (e1.trans (e2.trans (e3.trans e4))) Z' q3
  .exact q3.elim⟩⟩⟩
variable {Yj:T0 (Uf × Obj)}{Y:St}{H:Hp}{s:Sd}
def Tr{a b:Uf}(I:Inv X Yj Y H s)(f:zN X Yj H b)(q:xW X.K H a xs):a≠b:=by
 rintro rfl
 rcases q with q|⟨o,its,n,hk,_⟩
 .have z:=f.1;rcases q with q|⟨u,q⟩<;>(rw[q]at z;cases z)
 .have e:=I.mod.oJ a o hk;rcases f.2.2.2.1 with z|z
  .exact I.ok.nZ a o e z
  .exact absurd (dU (dC e) (eh I.ok.oq z)) (eW _)
def Yc:ZK xW Heap.IsListIter Heap.IsList where
 gt:=λI h=>(I.list h).imp λ_ z=>⟨z.1,z.2.1.isList⟩
 ij:=λI h g=>I.nV h g
 ne:=Tr
 dr:=Draws.list
 ob:=λ⟨o,h,_,d⟩=>⟨o,h,λv z=>by rw[d]at z;cases z⟩
 kp:=λ⟨o,h,c⟩ k=>⟨o,k o h,c⟩
variable {tp:Pos}{YK:T0 Go}{n:Nat}
def QY{a b:Go}{ta:TA}(hg:Gl X "zip")(hm:X.mg "zip"=Fa)(ha:PA X [a,b] ta)(hs:Tl [a,b] X.env=[(pc,wp a X.env),(pc,wp b X.env)]:=by rfl)(YZ:Tl [b] X.env=[(pc,wp b X.env)]:=by rfl):
  PI X (.Tuple YK n tp) (.Call (.Name "zip" p) [a,b] [] pos) (λY H R=>ta Y H λvs H1=>∃l m,vs=[.ref l,.ref m]/\(∃xs,xW X.K H1 l xs)/\(∃xs,xW X.K H1 m xs)/\R (UH xW X.K l m) H1):=by
 intro Yj s Y H R I h;refine Call_ (vY I hg hm L8 (fC (tz (ha pos Yj s Y H _ I h) λus s1 zz=>x5 zz λvs H1 I1 r1 q1=>?_) (by rw[hs,YZ]) (by rw[YZ];rfl)));obtain⟨l,m,e,⟨xs,hx⟩,⟨ys,hy⟩,q⟩:=q1;subst e;obtain⟨u,v,rfl,ru,rv⟩:=JS r1;cases ru;cases rv;obtain⟨its,_,px,_⟩:=I1.list hx;obtain⟨jts,_,py,_⟩:=I1.list hy;exact call_zip_2 px.isList py.isList λg h1 h2 h3 h4 h5 _ hk=>GS Yc I1 h1 h2 h3 h4 h5 hk q
def Nk{K:qJ}{a b:Uf}{ds es:T0 D}:GA K H1 (UH xW K a b) (wQ ds es) (λM=>oU M a=ga ds/\oU M b=ga es) where
 go:=λi H M hi hm ok _=>by rw[vL]at hi;obtain⟨xs,h1,h2,_⟩:=qx hm ok.1;obtain⟨ys,g1,g2,_⟩:=qx hm ok.2;obtain⟨x,e1,_⟩:=h2.get (cZ (show i<ds.length by lia));obtain⟨y,e2,_⟩:=g2.get (cZ (show i<es.length by lia));exact⟨xs,ys,x,y,h1,g1,e1,e2⟩
 pz:=λi d H M x H' hd hm ok _ y=>by
  obtain⟨xs,h1,h2,_⟩:=qx hm ok.1;obtain⟨ys,g1,g2,_⟩:=qx hm ok.2;obtain⟨p,u,v,rfl,hp,rfl,y1,y2⟩:=y;rw[L3.Fc]at hd;cases e:ds[i]? with
  | none=>rw[e]at hd;cases hd
  | some d'=>
   cases e':es[i]? with
   | none=>rw[e,e']at hd;cases hd
   | some c'=>rw[e,e']at hd;cases hd;obtain⟨x',q1,hx⟩:=h2.get e;obtain⟨z',q2,hz⟩:=g2.get e';have w1:=y1 xs h1;have w2:=y2 ys g1;rw[q1]at w1;rw[q2]at w2;have v1:x'=u:=dq w1;have v2:z'=v:=dq w2;subst v1 v2;have ex:rC K H (upd H p (.tup [x',z'])):=.new hp;exact⟨.tup (.of qC) (.cons (hx.mono ex) (.cons (hz.mono ex) .nil)),hm.add hp,ex⟩
 stop:=λH M hm ok _=>by obtain⟨xs,h1,h2,_⟩:=qx hm ok.1;obtain⟨ys,g1,g2,_⟩:=qx hm ok.2;exact⟨xs,ys,h1,g1,by rw[vL,h2.length,g2.length]⟩
def TZ(t:xA):NY:=λU M R=>t U M λds M1=>match ds with
 | [.ref a,.ref b]=>(oU M1 a).elim False λxs=>(oU M1 b).elim False λys=>R (wQ xs ys) (λM=>oU M a=ga xs/\oU M b=ga ys) M1
 | _=>False
def Qr{a b:Go}{ta:xA}(hg:Gl X "zip")(hm:X.mg "zip"=Fa)(ha:A3 X [a,b] ta)(hs:Tl [a,b] X.env=[(pc,wp a X.env),(pc,wp b X.env)]:=by rfl)(YZ:Tl [b] X.env=[(pc,wp b X.env)]:=by rfl):
  I3 X (.Tuple YK n tp) (.Call (.Name "zip" p) [a,b] [] pos) (TZ ta):=
 PI.mono (QY hg hm ha hs YZ) λY H R' zz=>x7 zz λU M R hs hm ht k=>⟨U,M,_,hs,hm,ht,λvs H1 ds M1 hd Yl e1 q1=>by
  split at q1
  .obtain⟨xs,f1,q1⟩:=rD q1;obtain⟨ys,f2,q1⟩:=rD q1;obtain⟨v,u,rfl,hv,hw⟩:=Az hd;cases hv.mU;cases hw.mU;obtain⟨us,h1,_⟩:=qx Yl f1;obtain⟨ws,g1,_⟩:=qx Yl f2;exact⟨_,_,Z',⟨us,h1⟩,⟨ws,g1⟩,k _ H1 _ _ M1 Nk Yl e1 ⟨f1,f2⟩ q1⟩
  .exact q1.elim⟩
end L3
namespace L2
open Builtin Builtin.Str
variable {prog:Pg}{w:Wo}{A:Ar}{E:QQX}{s:Sd}{X:Cx}
end L2
namespace L3
open L2 Builtin Builtin.Str
variable {X:Cx}{pos Ym:Pos}{o e:Go}{es:T0 Go}{ta:T3}{t:xA}
@[irreducible] def SsI (X:Cx) (st:T0 ZB) (t:xX):Prop:=HY X st t
@[irreducible] def SI (X:Cx) (st:ZB) (t:xX):Prop:=S3 X st t
@[irreducible] def EI (X:Cx) (e:Go) (t:T3):Prop:=E3 X e t
@[irreducible] def AI (X:Cx) (es:T0 Go) (t:xA):Prop:=A3 X es t
variable {prog:Pg}{w:Wo}{A:Ar}{E:QQX}{s:Sd}{Yj:T0 (Uf × Obj)}{Y:St}{H:Hp}{p tp:Pos}{YK:T0 Go}{n:Nat}
theorem xc{g:Et}{tt:Bm}{te:T3}{ok:Mp->Prop}{Q:DK}(all:T0 D)(J:T0 D->T0 D->vT->Mp->Prop)(m9:∀p acc U M,J p acc U M->ok M):∀(ds pre acc:T0 D) (U:vT) (M:Mp),pre++ds=all->acc.length+ds.length<=Ch->J pre acc U M->
  (∀pre d post,pre++d::post=all->∀acc U M,J pre acc U M->∀(k:vT->DK) (k2:vT->Mp->Prop),(∀δ2 y M4,J (pre++[d]) (acc++[y]) δ2 M4->k δ2 y M4)->(∀δ2 M3,J (pre++[d]) acc δ2 M3->k2 δ2 M3)->g d U M λδ2 M2=>tt δ2 M2 λb M3=>if b=Db then te δ2 M3 (k δ2)else k2 δ2 M3)->
  (∀acc U M,J all acc U M->∀p,M p=Fa->Q (.ref p) (pT M p (.lst acc)))->vw g tt te ok Q ds acc U M
 | [],pre,acc,U,M,e,hl,j,_,hq=>⟨by simpa using hl,hq acc U M (by rw[<-e,eN];exact j)⟩
 | d::r,pre,acc,U,M,e,hl,j,ht,hq=>by rw[eE]at hl;refine⟨by lia,?_⟩;refine ht pre d r e acc U M j (λδ2 y M4=>ok M4/\vw g tt te ok Q r (acc++[y]) δ2 M4) (λδ2 M3=>ok M3/\vw g tt te ok Q r acc δ2 M3) (λδ2 y M4 j'=>⟨m9 _ _ _ _ j',xc all J m9 r (pre++[d]) (acc++[y]) δ2 M4 (by rw[<-e,fm];rfl) ?_ j' ht hq⟩) λδ2 M3 j'=>⟨m9 _ _ _ _ j',xc all J m9 r (pre++[d]) acc δ2 M3 (by rw[<-e,fm];rfl) (by lia) j' ht hq⟩;rw[c9,dI];lia
end L3
namespace L2
noncomputable def Cx.oj(X:Cx)(E:QQX):Cx:={X with xe:=E}
def Inv.oj{E:QQX}{Yj:QQY}(I:Inv X Yj Y H s):Inv (X.oj E) Yj Y H s:=
 ⟨⟨I.ok.mod,I.ok.kind,I.ok.glob,I.ok.blt,I.ok.above,I.ok.inj,I.ok.has,I.ok.oX,I.ok.hd,I.ok.frames,I.ok.oY,I.ok.pG,I.ok.bs,I.ok.oq,I.ok.nZ,I.ok.om,I.ok.nL,I.ok.oG⟩,I.os,I.bare,I.base,I.loc,I.cell,I.free,I.nv,I.pin,I.m9,I.len⟩
def Inv.xeOf{X:Cx}{E:QQX}{Yj:QQY}(I:Inv (X.oj E) Yj Y H s):Inv X Yj Y H s:=
 ⟨⟨I.ok.mod,I.ok.kind,I.ok.glob,I.ok.blt,I.ok.above,I.ok.inj,I.ok.has,I.ok.oX,I.ok.hd,I.ok.frames,I.ok.oY,I.ok.pG,I.ok.bs,I.ok.oq,I.ok.nZ,I.ok.om,I.ok.nL,I.ok.oG⟩,I.os,I.bare,I.base,I.loc,I.cell,I.free,I.nv,I.pin,I.m9,I.len⟩
end L2
namespace L3
open L2
end L3
namespace L2
end L2
namespace L3
open L2
variable {X:Cx}{pos p tp kpos:Pos}{YK:T0 Go}{n:Nat}
end L3
namespace L2
variable {prog:Pg}{w:Wo}{A:Ar}{E:QQX}{s:Sd}{a:Uf}{U:Type}{k:Str}{tk:Tok}
section
variable {R:U→Vl→Prop}{D:T0 (Str × U)}
end
end L2
namespace L3
open L2
variable {X:Cx}{pos p:Pos}{x:Str}{d:D}{e o i:Go}{ta tb td tk:T3}{F:T0 (Str × QQQ)}
end L3
namespace L2
def Ng(h:No)(e:Uf)(cls:Vl)(dx tb:Option Uf)(F:Vl):Prop:=
 ∃oe vs,h.get? e=ga oe/\oe.cls=cls/\oe.dict=dx/\oe.data=.fields vs/\1<vs.size/\vs[1]?=ga (tb.elim Value.none Value.ref)/\∀T,tb=ga T->T≠e/\∃oT ts,h.get? T=ga oT/\oT.data=.fields ts/\3<ts.size/\ts[3]?=ga F
def QX(h:No)(e:Uf)(cls:Vl)(dx tb:Option Uf):Prop:=Ng h e cls dx tb Value.none
theorem Dv{h base:No}:∀{l:T0 Env} {b:Uf},h.FunFrames base l->b∈wZ l->∃o,h.get? b=ga o/\∀vs,o.data≠.fields vs
 | [],b,_,hb=>by cases hb
 | env::r,b,hF,hb=>by
  obtain⟨_,⟨L,o,hL,_,ho,hd⟩,hr⟩:=hF;have e:wZ (env::r)=L::wZ r:=by unfold wZ;rw[gb,hL]
  rw[e]at hb;rcases dz.mp hb with z|z
  .rw[z];exact⟨o,ho,hd⟩
  .exact Dv hr z
def EY{h base:No}{l:T0 Env}{b:Uf}{o:Obj}{vs:Array Vl}(hF:h.FunFrames base l)(ho:h.get? b=ga o)(hd:o.data=.fields vs):b∉wZ l:=λhb=>by obtain⟨o',YY,hn⟩:=Dv hF hb;rw[ho]at YY;cases YY;exact hn vs hd
variable {M:Model}{A:Ar}{s:Sd}{base:No}{env:Env}{outer:T0 Env}{L e:Uf}{cls:Vl}{dx:Option Uf}{Q:Unit→Sd→Prop}
section
variable {E:QQX}
def Rx{ZJ:Vl}{had:Bool}{oe:Obj}{vs:Array Vl}{Y0:Env}(hcf:Y0.frame=ga L)(hfr:A.frames=ga (env::outer))(hF:s.heap.FunFrames base (env::outer))(hL:env.frame=ga L)(ho:s.heap.get? e=ga oe)(hd:oe.data=.fields vs)(h1:1<vs.size) (k:∀(h':No) (T:Uf),s.heap.get? T=Fa->(∀b o,s.heap.get? b=ga o->b∉wZ (env::outer)->b≠e->h'.get? b=ga o)->(∀b o,s.heap.get? b=ga o->b∈wZ (env::outer)->∃sl,h'.get? b=ga {o with slots:=sl})->
   (∃oe',h'.get? e=ga oe'/\oe'.cls=oe.cls/\oe'.dict=oe.dict/\oe'.data=.fields (vs.setIfInBounds 1 (.ref T)))->(∃oT ts,h'.get? T=ga oT/\oT.data=.fields ts/\3<ts.size/\ts[3]?=ga (Y' ↑L))->Q () {s with heap:=h'}):
  pi M A (do
   let a<-PySem.frameOf Y0;let pl<-entryPlaceOf L had;let b<-EntryCells.newEntry ZJ a Value.none (Y' ↑L) Value.none pl
   setField (Value.ref e) 1 b) Q E s:=by
 have ne:=EY hF ho hd;unfold PySem.frameOf;refine cY (cY (wpAny_frameEnvs hfr (cY ?_)));have ed:List.dropWhile (λx=>x.frame != Y0.frame) (env::outer)=env::outer:=by rw[List.dropWhile_cons,df (by rw[hL,hcf];simp)]
 rw[ed];unfold frameObject;refine cY (wpAny_readyFrames_fun hF λY4 hs=>?_);obtain⟨z1,z2,z3⟩:=hs;rw[hL];refine dv (dv ?_);refine cY (wpAny_entryPlaceOf λpl hp=>?_);refine cY ?_;unfold EntryCells.newEntry newFields;have Yp:([ZJ,Value.ref L,Value.none,Y' ↑L,Value.none]++if pl.isEmpty=Db then List.replicate 6 Value.none else pl).length=11:=by rw[c9];rcases hp with rfl|⟨_,_,_,_,_,_,_,rfl⟩<;>rfl
 have hfl:([ZJ,Value.ref L,Value.none,Y' ↑L,Value.none]++if pl.isEmpty=Db then List.replicate 6 Value.none else pl)[3]?=ga (Y' ↑L):=rfl;generalize ([ZJ,Value.ref L,Value.none,Y' ↑L,Value.none]++if pl.isEmpty=Db then List.replicate 6 Value.none else pl)=fs at Yp hfl ⊢;refine fV ?_ (by
  show fs.toArray.size<=_;rw[dA,Yp];decide)
 have e1:Y4.get? e=ga oe:=by rw[z2 e ne];exact ho
 have e2:(Y4.push {cls:=.type "traceback",data:=.fields fs.toArray}).get? e=ga oe:=dg _ e1;refine ia e2 hd h1 ?_;have tn:s.heap.get? Y4.objs.size=Fa:=gK (by rw[z1];exact dw _);have te:Y4.objs.size≠e:=λz=>by rw[z,ho]at tn;cases tn
 obtain⟨oc,od,odt,Zh⟩:=oe;obtain rfl:odt=.fields vs:=hd;have up:∀b,e≠b->((Y4.push {cls:=.type "traceback",data:=.fields fs.toArray}).update e (Obj.mapFields λx=>x.setIfInBounds 1 (.ref Y4.objs.size))).get? b=(Y4.push {cls:=.type "traceback",data:=.fields fs.toArray}).get? b:=λb z=>gf _ _ z;refine k _ Y4.objs.size tn (λb o hb nf ne'=>?_) (λb o hb hf=>?_) ⟨_,fK _ e2 Z',Z',Z',Z'⟩ ⟨_,fs.toArray,(up _ (dZ te)).trans (dJ _ Z'),Z',by rw[dA,Yp];decide,by rw[iX];exact hfl⟩
 .rw[up b (dZ ne')];exact dg _ (by rw[z2 b nf];exact hb)
 .obtain⟨sl,q⟩:=z3 b o hb;refine⟨sl,?_⟩;rw[up b (λz=>ne (z ▸ hf))];exact dg _ q
def SH{E₁:QQX}{tb:Option Uf}{F:Vl}{Y0:Env}(hcf:Y0.frame=ga L)(hfr:A.frames=ga (env::outer))(hF:s.heap.FunFrames base (env::outer))(hL:env.frame=ga L)(hx:Ng s.heap e cls dx tb F)(hFL:(F==Y' ↑L)=pc) (k:∀(h':No) (T:Uf),s.heap.get? T=Fa->(∀b o,s.heap.get? b=ga o->b∉wZ (env::outer)->b≠e->tb≠ga b->h'.get? b=ga o)->(∀b o,s.heap.get? b=ga o->b∈wZ (env::outer)->∃sl,h'.get? b=ga {o with slots:=sl})->
   (∀b,h'.get? b=Fa->s.heap.get? b=Fa)->Ng h' e cls dx (ga T) (Y' ↑L)->Q () {s with heap:=h'}):pi M A (noteFrame (.ref e) Y0) Q E₁ s:=by
 obtain⟨oe,vs,ho,hc,hdx,hd,h1,hv,hT⟩:=hx;have ne:=EY hF ho hd;unfold noteFrame;rw[hcf];refine cY (fj ho hd hv ?_);have Yn:∀(s1:Sd) (oe1:Obj),s1.gens=s.gens->s1.drawn=s.drawn->s1.toks=s.toks->s1.os=s.os->s1.heap.FunFrames base (env::outer)->s1.heap.get? e=ga oe1->oe1.cls=cls->oe1.dict=dx->oe1.data=.fields vs->(∀b o,s.heap.get? b=ga o->b∉wZ (env::outer)->b≠e->tb≠ga b->s1.heap.get? b=ga o)->
   (∀b o,s.heap.get? b=ga o->b∈wZ (env::outer)->s1.heap.get? b=ga o)->(∀b,s1.heap.get? b=Fa↔s.heap.get? b=Fa)->∀(ZJ:Vl) (had:Bool),pi M A (do
   let a<-PySem.frameOf Y0;let pl<-entryPlaceOf L had;let b<-EntryCells.newEntry ZJ a Value.none (Y' ↑L) Value.none pl
   setField (Value.ref e) 1 b) Q E₁ s1:=by
  intro s1 oe1 g1 g2 g3 g4 hF1 ho1 hc1 hdx1 hd1 kb kf kn ZJ had;refine Rx hcf hfr hF1 hL ho1 hd1 h1 λh' T tn k1 k2 ⟨oe',he',hce,hdxe,hde⟩ ⟨oT,ts,Zx,Z0,h3,h3v⟩=>?_;have te:T≠e:=λz=>by rw[z,ho1]at tn;cases tn
  have:=k h' T ((kn T).mp tn) (λb o hb nf nb nt=>k1 b o (kb b o hb nf nb nt) nf nb) (λb o hb hf=>k2 b o (kf b o hb hf) hf) (λb hb=>?_) ⟨oe',vs.setIfInBounds 1 (.ref T),he',hce.trans hc1,hdxe.trans hdx1,hde,by rw[jQ];exact h1,by rw[ik h1];rfl,λT' eT=>?_⟩
  .show Q () {heap:=_,gens:=s1.gens,drawn:=s1.drawn,toks:=s1.toks,os:=s1.os};rw[g1,g2,g3,g4];exact this
  .refine(kn b).mp ?_;cases q:s1.heap.get? b with
   | none=>rfl
   | some o=>
    by_cases z:b=e
    .rw[z,he']at hb;cases hb
    .by_cases zf:b∈wZ (env::outer)
     .obtain⟨sl,q2⟩:=k2 b o q zf;rw[q2]at hb;cases hb
     .rw[k1 b o q zf z]at hb;cases hb
  .cases eT;exact⟨te,oT,ts,Zx,Z0,h3,h3v⟩
 cases tb with
 | none=>rw[df (show ¬((Fa:Option Uf).elim Value.none Value.ref != Value.none)=Db by decide+kernel)];exact Yn s oe Z' Z' Z' Z' hF ho hc hdx hd (λb o hb _ _ _=>hb) (λb o hb _=>hb) (λb=>.rfl) _ _
 | some T=>
  obtain⟨nTe,oT,ts,Zx,Z0,h3,hn⟩:=hT T Z';rw[dh (show((ga T:Option Uf).elim Value.none Value.ref != Value.none)=Db by rfl)];refine cY (fj Zx Z0 hn ?_);rw[df (by rw[hFL];exact dE)];refine cY (ia Zx Z0 h3 ?_);have up:∀b,T≠b->(s.heap.update T (Obj.mapFields λx=>x.setIfInBounds 3 .none)).get? b=s.heap.get? b:=λb z=>gf _ _ z;have nf:∀b o,s.heap.get? b=ga o->(∀vs,o.data≠.fields vs)->T≠b:=λb o hb hn z=>by rw[<-z,Zx]at hb;cases hb;exact hn ts Z0
  have sz:∀b,(s.heap.update T (Obj.mapFields λx=>x.setIfInBounds 3 .none)).get? b=Fa↔s.heap.get? b=Fa:=λb=>by
   by_cases z:T=b
   .rw[<-z];obtain⟨oc,od,odt,Zh⟩:=oT;obtain rfl:odt=.fields ts:=Z0;rw[fK _ Zx Z',Zx];exact⟨(λq=>by cases q),(λq=>by cases q)⟩
   .rw[up b z]
  exact Yn {s with heap:=s.heap.update T (Obj.mapFields λx=>x.setIfInBounds 3 .none)} oe Z' Z' Z' Z' (mO (λb o hb hn=>⟨o,(up b (nf b o hb hn)).trans hb,Z'⟩) hF) ((up e nTe).trans ho) hc hdx hd
   (λb o hb _ _ nt=>(up b λz=>nt (by rw[z])).trans hb) (λb o hb hf=>by
    obtain⟨o',YY,hn⟩:=Dv hF hf;rw[hb]at YY;cases YY;exact(up b (nf b o hb hn)).trans hb) sz _ _
def OW{T:Uf}{F:Vl}(x:Option Uf)(hx:Ng s.heap e cls dx (ga T) F)(k:∀h':No,(∀b,T≠b->h'.get? b=s.heap.get? b)->(∀b,h'.get? b=Fa↔s.heap.get? b=Fa)->Ng h' e cls dx (ga T) (x.elim .none λf=>Y' f)->Q () {s with heap:=h'}):pi M A (setFlight (.ref e) x) Q E s:=by
 obtain⟨oe,vs,ho,hc,hdx,hd,h1,hv,hT⟩:=hx;obtain⟨nTe,oT,ts,Zx,Z0,h3,hn⟩:=hT T Z';unfold setFlight;refine cY (fj ho hd hv ?_);rw[dh (by rfl)];refine ia Zx Z0 h3 ?_;obtain⟨oc,od,odt,Zh⟩:=oT;obtain rfl:odt=.fields ts:=Z0;have up:∀b,T≠b->(s.heap.update T (Obj.mapFields λy=>y.setIfInBounds 3 (x.elim .none λf=>Y' f))).get? b=s.heap.get? b:=λb z=>gf _ _ z;refine k _ up (λb=>?_) ⟨oe,vs,(up e nTe).trans ho,hc,hdx,hd,h1,hv,λT' eT=>?_⟩
 .by_cases z:T=b
  .rw[<-z,fK _ Zx Z',Zx];exact⟨(λq=>by cases q),(λq=>by cases q)⟩
  .rw[up b z]
 .cases eT;exact⟨nTe,_,ts.setIfInBounds 3 (x.elim .none λf=>Y' f),fK _ Zx Z',Z',by rw[jQ];exact h3,by rw[ik h3]⟩
def KI{E₁ E₂:QQX}{tb:Option Uf}(hfr:A.frames=ga (env::outer))(hF:s.heap.FunFrames base (env::outer))(hL:env.frame=ga L)(hx:QX s.heap e cls dx tb) (k:∀(h':No) (T:Uf),s.heap.get? T=Fa->(∀b o,s.heap.get? b=ga o->b∉wZ (env::outer)->b≠e->tb≠ga b->h'.get? b=ga o)->(∀b o,s.heap.get? b=ga o->b∈wZ (env::outer)->∃sl,h'.get? b=ga {o with slots:=sl})->
   QX h' e cls dx (ga T)->Q () {s with heap:=h'}):pi M A (noteFrame (.ref e) env) (λ_ s₂=>pi M A (setFlight (.ref e) Fa) Q E₂ s₂) E₁ s:=by
 refine SH hL hfr hF hL hx (dQ.mpr λz=>by have:=eZ.mp z;cases this) λh' T tn k1 k2 _ x'=>?_;refine OW Fa x' λh2 up _ x2=>k h2 T tn (λb o hb nf nb nt=>?_) (λb o hb hf=>?_) x2
 .have tb:T≠b:=λz=>by rw[z,hb]at tn;cases tn
  exact(up b tb).trans (k1 b o hb nf nb nt)
 .have tb:T≠b:=λz=>by rw[z,hb]at tn;cases tn
  obtain⟨sl,q⟩:=k2 b o hb hf;exact⟨sl,(up b tb).trans q⟩
def QH{tb:Option Uf}(hfr:A.frames=ga (env::outer))(hF:s.heap.FunFrames base (env::outer))(hL:env.frame=ga L)(hx:QX s.heap e cls dx tb) (k:∀(h':No) (T:Uf),s.heap.get? T=Fa->(∀b o,s.heap.get? b=ga o->b∉wZ (env::outer)->b≠e->tb≠ga b->h'.get? b=ga o)->(∀b o,s.heap.get? b=ga o->b∈wZ (env::outer)->∃sl,h'.get? b=ga {o with slots:=sl})->
   QX h' e cls dx (ga T)->Q () {s with heap:=h'}):pi M A (leaving env (.ref e)) Q E s:=cY (KI hfr hF hL hx k)
end
def BP(P:Pg)(w:Wo):LZ:=λouter H s E ev s'=>GD λe C dx H' tb=>ev=.ref e/\E (.ref C) dx H'/\s'.os=s.os/\XYb s'.gens/\Un (wZ outer) [] H H' s.heap s'.heap/\yU P w H' s'.heap/\
 QX s'.heap e (.ref C) dx (ga tb)/\s.heap.get? e=Fa/\s.heap.get? tb=Fa/\H' e=Fa/\H' tb=Fa
def yM{o:HO}(x:sQ P w H h a o):∃ob,h.get? a=ga ob:=by
 cases o with
 | lst xs=>obtain⟨_,_,_,_,e⟩:=x;exact⟨_,e⟩
 | tup xs=>obtain⟨_,_,_,o,e,_⟩:=x;exact⟨_,e⟩
 | dK kvs=>obtain⟨_,_,_,_,o,_,_,e,_⟩:=x;exact⟨_,e⟩
 | dT kvs=>obtain⟨_,_,_,_,o,_,_,e,_⟩:=x;exact⟨_,e⟩
 | set S n=>obtain⟨o,_,_,_,e,_⟩:=x;exact⟨_,e⟩
 | ins C dx fs=>obtain⟨_,_,_,e,_⟩:=x;exact⟨_,e⟩
 | own y=>exact x
 | xd fs=>obtain⟨_,⟨_,_,_,e,_⟩,_⟩:=x;exact⟨_,e⟩
 | rng lo hi=>obtain⟨_,_,_,e⟩:=x;exact⟨_,e⟩
 | frz ob u=>obtain⟨e,_⟩:=x;exact⟨_,e⟩
 | tbl ps=>exact⟨_,x⟩
 | met f y=>exact⟨_,x⟩
 | ext φ=>obtain⟨_,e,_⟩:=x;exact e
def As{T:Uf}(m9:yU P w H h)(tn:h.get? T=Fa):H T=Fa:=by
 cases z:H T with
 | none=>rfl
 | some o=>obtain⟨ob,hob⟩:=yM (m9 T o z);rw[hob]at tn;cases tn
variable {P:Pg}{w:Wo}{K:qJ}{mg:QQZ}{N:QQQ}{qual:Str}{scope:XXe}{f:Uf}{cd:Vl}{s0:Sd}{H0:Hp}
section
variable {E:XK}
def Hn(u:Un fs ex H H' h h')(hex:ex=[]){b:Uf}(hb:h'.get? b=Fa):h.get? b=Fa:=by
 cases q:h.get? b with
 | none=>rfl
 | some o=>obtain⟨o',e⟩:=u.there b o q (by rw[hex];simp);rw[e]at hb;cases hb
def Ov{Yj:QQY}{e C T:Uf}{tb dx:Option Uf}{h':No}(I:Inv (vQ (BP P w) P w K mg base N qual scope f cd A outer s0 H0 E) Yj Y H s)(he:s0.heap.get? e=Fa)(YR:∀T,tb=ga T->s0.heap.get? T=Fa/\H T=Fa)(hn:H e=Fa)(q:E (.ref C) dx H)(hT:s0.heap.get? T=Fa/\H T=Fa) (k1:∀b o,s.heap.get? b=ga o->b∉wZ (xL qual scope s0.heap.objs.size f cd::outer)->b≠e->tb≠ga b->h'.get? b=ga o) (k2:∀b o,s.heap.get? b=ga o->b∈wZ (xL qual scope s0.heap.objs.size f cd::outer)->∃sl,h'.get? b=ga {o with slots:=sl}) (x':QX h' e (.ref C) dx (ga T)):
  BP P w outer H0 s0 E (.ref e) {s with heap:=h'}:=by
 have Y6:=I.nR;have Yz:∀b o,H b=ga o->∀u,s.heap.get? b=ga u->h'.get? b=ga u:=λb o hb u hu=>k1 b u hu (λz=>by rw[Y6 b z]at hb;cases hb) (λz=>by rw[z,hn]at hb;cases hb) (λz=>by rw[(YR b z).2]at hb;cases hb);have oldf:∀b o,s0.heap.get? b=ga o->b∉wZ [xL qual scope s0.heap.objs.size f cd]:=λb o hb z=>by
  have:b=s0.heap.objs.size:=by have hz:b∈[s0.heap.objs.size]:=z;exact dB.mp hz
  rw[this]at hb;exact absurd (dC hb) (eW _)
 have fr:∀b,b∈wZ (xL qual scope s0.heap.objs.size f cd::outer)->b∈wZ [xL qual scope s0.heap.objs.size f cd]\/b∈wZ outer:=λb hb=>by
  have hb:b∈s0.heap.objs.size::wZ outer:=hb;rcases dz.mp hb with z|z
  .exact .inl (by rw[z];exact dH)
  .exact .inr z
 have YL:Un (wZ outer) [] H0 H s0.heap s.heap:=I.base;refine⟨e,C,dx,H,T,Z',q,I.os,I.bare,⟨λb o hb h0 nf ne=>?_,λb o hb h0 hf ne=>?_,YL.free,λb o hb ne=>?_,YL.nQ,YL.nK,YL.nU⟩,λb o hb=>?_,x',he,hT.1,hn,hT.2⟩
 .have hs:=YL.keep b o hb h0 nf ne;refine k1 b o hs (λz=>?_) (λz=>by rw[z,he]at hb;cases hb) λz=>by rw[(YR b z).1]at hb;cases hb
  rcases fr b z with z|z
  .exact oldf b o hb z
  .exact nf z
 .obtain⟨sl,hs⟩:=YL.slot b o hb h0 hf ne;have:b∈wZ (xL qual scope s0.heap.objs.size f cd::outer):=dD _ hf;obtain⟨ZR,h2⟩:=k2 b _ hs this;exact⟨ZR,h2⟩
 .obtain⟨o',hs⟩:=YL.there b o hb ne;by_cases z:b∈wZ (xL qual scope s0.heap.objs.size f cd::outer)
  .obtain⟨sl,h2⟩:=k2 b o' hs z;exact⟨_,h2⟩
  .exact⟨o',k1 b o' hs z (λz=>by rw[z,he]at hb;cases hb) λz=>by rw[(YR b z).1]at hb;cases hb⟩
 .refine(I.m9 b o hb).nH (λb' u Zd hu=>?_) (λ_ q=>q) λ_ _ q=>q;rcases Zd with z|z
  .subst z;exact Yz b' o hb u hu
  .exact Yz b' _ z u hu
def Wf{Yj:QQY}{e C:Uf}{tb dx:Option Uf}(I:Inv (vQ (BP P w) P w K mg base N qual scope f cd A outer s0 H0 E) Yj Y H s)(hx:QX s.heap e (.ref C) dx tb)(he:s0.heap.get? e=Fa)(hT:∀T,tb=ga T->s0.heap.get? T=Fa/\H T=Fa)(hn:H e=Fa)(q:E (.ref C) dx H):
  (vQ (BP P w) P w K mg base N qual scope f cd A outer s0 H0 E).xe (.ref e) s:=
 QH (base:=base) (outer:=outer) I.ok.frames I.stack Z' hx λh' T tn k1 k2 x'=>Ov I he hT hn q ⟨Hn (show Un (wZ outer) [] H0 H s0.heap s.heap from I.base) Z' tn,As I.m9 tn⟩ k1 k2 x'
end
section
variable {E:XK}
end
def P8(d:Uf)(f:Str)(v:V)(h:No):Prop:=∃u,h.Ns1 d (λy=>if y=f then ga u else Fa)/\rA v u
end L2
namespace L3
open L2
abbrev XR:=Uf->Option (Str×D)->Mp->Prop
abbrev F5:=T0 D->Mp->DK->XR->Prop
def V6(K:qJ)(H:Hp)(dx:Option Uf)(y:Option (Str×D)):Prop:=(dx=Fa/\y=Fa)\/B0 λd f z v=>dx=ga d/\y=ga (f,z)/\H d=ga (.ext (P8 d f v))/\sA K H z v
def TL(K:qJ)(R:XR)(E:XK):Prop:=∀C dx H M y,HM K H M->V6 K H dx y->R C y M->E (.ref C) dx H
def Xf(K:qJ)(sp:F5):Sp:=λvs H Q' E=>B0 λds M Q R=>qF K H ds vs/\HM K H M/\sp ds M Q R/\Up K H Q' Q/\TL K R E
abbrev Px(P:Pg)(w:Wo)(K:qJ)(mg:QQZ)(base:No)(k:Nat)(f:Uf)(fd:Ix)(ps:QQQ)(sp:F5):Prop:=xU P w K mg base (BP P w) k f fd ps (Xf K sp)
variable {X:Cx}{x:Str}{p pos np Yq:Pos}{e:Go}{es:T0 Go}{t:xA}{k:Nat}{f C:Uf}{fd:Ix}{ps:QQQ}{sp:F5}{R:XR}{E:XK}
def Ub(sp:F5)(R:XR)(t:xA):T3:=λU M Q=>t U M λds M1=>sp ds M1 Q R
def NE(F:Px X.prog X.w X.K X.mg X.base k f fd ps sp)(hr:sJ k X.A)(hg:Gl X x)(hm:X.mg x=ga (.ref f))(hk:W.keepIn X.K (.ref f)=Db)(hb:ve X.K fd ps [])(hx:ze (BP X.prog X.w) X E)(hR:TL X.K R E)(ha:A3 X (e::es) t) (YC:zF x:=by decide) (he:BN X e es:=by rfl) (YA:Cd X pos es:=by rfl):
  E3 X (.Call (.Name x p) (e::es) [] pos) (Ub sp R t):=PE.mono (JA F hr hg hm hk hb .nil hx ha YC he YA) λY H Q' zz=>x7 zz λU M Q hs hm ht k=>
 ⟨U,M,_,hs,hm,ht,λvs H1 ds M1 hd Yl e1 q1=>⟨ds,M1,Q,R,by rw[eN];exact hd,Yl,q1,vH e1 k,hR⟩⟩
variable {P:Pg}{w:Wo}{K:qJ}{mg:QQZ}{base:No}{N:QQQ}{qual:Str}{scope:XXe}{cd:Vl}{A:Ar}{outer:T0 Env}{s0:Sd}{H0:Hp}{ta:xA}
def VS{st:ZB}{sp:F5}(F:Qk K x qual st f fd)(S:tW N ps (qB st))(len:∀ds M Q R,sp ds M Q R->ds.length=ps.length) (YF:∀(Yv:Vl) (A:Ar) (outer:T0 Env) (s:Sd) (H:Hp) (E:XK) (R:XR),sJ k (A.deeper (xL qual (qB st) s.heap.objs.size f Yv))->TL K R E->
   ∃t,HY (vQ (BP P w) P w K mg base N qual (qB st) f Yv A outer s H E) (sE st) t/\∀ds M Q,sp ds M Q R->t {nx:=λ_ M'=>∃Yo,qH Yo M'/\Q .mY Yo,rt:=λd M'=>∃Yo,qH Yo M'/\Q d Yo} (xw N ds) M):Px P w K mg base (k+1) f fd ps sp:=by
 obtain⟨oc,od,kV,YW,pm,an,Yv,ct,Zh,rfl,lk,ZC⟩:=F.ex;refine ND lk ZC S (λvs H Q E h=>?_) λA outer s H vs Q' E hr h=>?_
 .obtain⟨ds,M,Q,R,hd,_,hs,_⟩:=h;rw[<-hd.length];exact len ds M Q R hs
 .obtain⟨ds,M,Q,R,hd,hm,hs,k,hR⟩:=h;obtain⟨t,ht,hb⟩:=YF Yv A outer s H E R hr hR;exact⟨_,ht,xw N ds,M,_,ET hd,hm,hb ds M Q hs,λσ' H' δ' M' _ x2 x3 _ ⟨Yo,y1,y2⟩=>k .mY H' .mY Yo .mY (x2.sub y1) x3 y2,λv H' d M' x1 x2 x3 ⟨Yo,y1,y2⟩=>k v H' d Yo x1 (x2.sub y1) x3 y2,λ_ _ _ _ _ _ _ _ z=>z,λ_ _ _ _ _ _ _ _ z=>z⟩
end L3
namespace L2
def TKept(H H':Hp):Prop:=(∀b xs,H b=ga (.tup xs)->H' b=ga (.tup xs))/\∀b o u,H b=ga (.frz o u)->H' b=ga (.frz o u)
def Xq(X:Cx)(Yj:QQY)(Y:St)(J:Hp->Prop)(E:XK)(ev:Vl)(s':Sd):Prop:=Cv λH s=>J H/\Inv X Yj Y H s/\BP X.prog X.w X.stack H s E ev s'
def V9(X:Cx)(Yj:QQY)(Y:St)(J:Hp->Prop)(E:XK)(ev:Vl)(s':Sd):Prop:=Th λa C dx H' tb H1 s1=>ev=.ref a/\E (.ref C) dx H'/\Inv X Yj Y H' s'/\QX s'.heap a (.ref C) dx (ga tb)/\H' a=Fa/\H' tb=Fa/\J H1/\TKept H1 H'/\Inv X Yj Y H1 s1/\s1.heap.get? a=Fa
def TN{M:Model}{E₁ E₂:QQX}{Yj:QQY}{E:XK}{outer:T0 Env}{L:Uf}(h:Xq X Yj Y J E ev s')(YG:X.stack=X.env::outer)(hL:X.env.frame=ga L):
  pi M X.A (noteFrame ev X.env) (λ_ s₂=>pi M X.A (setFlight ev Fa) (λ_ s₃=>V9 X Yj Y J E ev s₃) E₂ s₂) E₁ s':=by
 obtain⟨H,s,jH,I,e,C,dx,H',tb,rfl,q,os,bare,un,m9,x,he,ht,ne,nt⟩:=h;obtain⟨hh,g,d,t,os'⟩:=s';obtain rfl:os'=s.os:=os;have I':=I.call (h':=hh) (g':=g) (d':=d) (t':=t) (ch:=[]) un m9 bare (λb z=>absurd z (by simp));have hF:=I'.stack;have Y6:=I'.nR;have hfr:=I.ok.frames;rw[YG]at hF hfr;refine KI (base:=X.base) (outer:=outer) hfr hF hL x λh' T tn k1 k2 x'=>?_;have Yz:∀b o,H' b=ga o->∀u,hh.get? b=ga u->h'.get? b=ga u:=λb o hb u hu=>k1 b u hu (λz=>by rw[Y6 b (by rw[YG];exact z)]at hb;cases hb) (λz=>by rw[z,ne]at hb;cases hb) (λz=>by cases z;rw[nt]at hb;cases hb);have un':Un (wZ X.stack) [] H H' s.heap h':=by
  refine⟨λb o hb h0 nf nx=>?_,λb o hb h0 hf nx=>?_,un.free,λb o hb nx=>?_,un.nQ,un.nK,un.nU⟩
  .exact k1 b o (un.keep b o hb h0 nf nx) (λz=>nf (by rw[YG];exact z)) (λz=>by rw[z,he]at hb;cases hb) λz=>by cases z;rw[ht]at hb;cases hb
  .obtain⟨sl,hs⟩:=un.slot b o hb h0 hf nx;obtain⟨ZR,h2⟩:=k2 b _ hs (by rw[<-YG];exact hf);exact⟨ZR,h2⟩
  .obtain⟨o',hs⟩:=un.there b o hb nx;by_cases z:b∈wZ (X.env::outer)
   .obtain⟨sl,h2⟩:=k2 b o' hs z;exact⟨_,h2⟩
   .exact⟨o',k1 b o' hs z (λz=>by rw[z,he]at hb;cases hb) λz=>by cases z;rw[ht]at hb;cases hb⟩
 have hok':yU X.prog X.w H' h':=λb o hb=>(m9 b o hb).nH (λb' u Zd hu=>by
  rcases Zd with z|z
  .subst z;exact Yz b' o hb u hu
  .exact Yz b' _ z u hu) (λ_ q=>q) λ_ _ q=>q
 have I3:Inv X Yj Y H' {heap:=h',gens:=g,drawn:=d,toks:=t,os:=s.os}:=Inv.call (s:=s) (ch:=[]) I un' hok' bare (λb z=>absurd z (by simp));refine⟨e,C,dx,H',T,H,s,Z',q,I3,x',ne,?_,jH,⟨un.nQ,un.nK⟩,I,he⟩;cases z:H' T with
 | none=>rfl
 | some o=>obtain⟨ob,hob⟩:=yM (m9 T o z);have tn:hh.get? T=Fa:=tn;rw[hob]at tn;cases tn
variable {X:Cx}{Yj:T0 (Uf × Obj)}{Y σ':St}{H H1:Hp}{s s1:Sd}{ev:Vl}{E':QQX}{a:Uf}
def Inv.adopt{o:HO}(I:Inv X Yj Y H s)(I1:Inv X Yj σ' H1 s1)(n1:s1.heap.get? a=Fa)(hn:H a=Fa)(ok:sQ X.prog X.w (upd H a o) s.heap a o):Inv X Yj Y (upd H a o) s:=by
 have ne:∀b ob,s1.heap.get? b=ga ob->b≠a:=λb ob e z=>by rw[z,n1]at e;cases e
 have nh:∀b ob,H b=ga ob->b≠a:=λb ob e z=>by rw[z,hn]at e;cases e
 refine⟨I.ok,I.os,I.bare,⟨I.base.keep,I.base.slot,λb o' e h0 hb=>?_,I.base.there,λb xs e=>?_,λb o' u e=>?_,λb ps e=>?_⟩,I.loc,I.cell,?_,λx c e=>?_,λp hp=>?_,λb ob e=>?_,I.len⟩
 .obtain⟨o2,e2⟩:=I1.base.there b o' e hb;rw[qv (ne b o2 e2)];exact I.base.free b o' e h0 hb
 .have:=I.base.nQ b xs e;rw[qv (nh b _ this)];exact this
 .have:=I.base.nK b o' u e;rw[qv (nh b _ this)];exact this
 .obtain⟨more,this⟩:=I.base.nU b ps e;exact⟨more,by rw[qv (nh b _ this)];exact this⟩
 .obtain⟨m,⟨o2,_,_,e2,_⟩,_⟩:=I1.loc;rw[qv (ne _ o2 e2)];exact I.free
 .obtain⟨v,o2,e2,_⟩:=I1.cell x c e;rw[qv (ne _ o2 e2)];exact I.nv x c e
 .obtain⟨e1,e2,e3,e4,e5⟩:=I.pin p hp;exact⟨e1,by rw[qv (ne _ _ (I1.pin p hp).1)];exact e2,e3,e4,e5⟩
 .by_cases z:b=a
  .subst z;rw[qC]at e;cases e;exact ok
  .rw[qv z]at e;exact(I.m9 b ob e).nH (λ_ _ _ q=>q) (λb' q=>by rw[qv (nh b' _ q)];exact q) λb' xs q=>by rw[qv (nh b' _ q)];exact q
noncomputable def Cx.marked(X:Cx)(ev:Vl)(E:QQX):Cx:={X with A:=X.A.mark (ga ev),calm:=false,xe:=E}
def Inv.mark(I:Inv X Yj Y H s):Inv (X.marked ev E') Yj Y H s:=
 ⟨⟨I.ok.mod,I.ok.kind,I.ok.glob,I.ok.blt,I.ok.above,I.ok.inj,I.ok.has,I.ok.oX,(λz=>by cases z),I.ok.frames,I.ok.oY,I.ok.pG,I.ok.bs,I.ok.oq,I.ok.nZ,I.ok.om,I.ok.nL,I.ok.oG⟩,I.os,I.bare,I.base,I.loc,I.cell,I.free,I.nv,I.pin,I.m9,I.len⟩
def Inv.unmark(ok:X.Ok)(I:Inv (X.marked ev E') Yj Y H s):Inv X Yj Y H s:=⟨ok,I.os,I.bare,I.base,I.loc,I.cell,I.free,I.nv,I.pin,I.m9,I.len⟩
def SP.unmark(ok:X.Ok){D:E7}{f:Flow}(h:SP (X.marked ev E') Yj D f s):SP X Yj D f s:=by
 cases f with
 | next=>obtain⟨a,b,I,q⟩:=h;exact⟨a,b,I.unmark ok,q⟩
 | brk=>obtain⟨a,b,I,q⟩:=h;exact⟨a,b,I.unmark ok,q⟩
 | cont=>obtain⟨a,b,I,q⟩:=h;exact⟨a,b,I.unmark ok,q⟩
 | ret v=>obtain⟨a,b,c,I,q⟩:=h;exact⟨a,b,c,I.unmark ok,q⟩
def Ju{M:Model}{h:No}{a:Uf}{o:Obj}(ho:h.get? a=ga o):W.Looks M h (typeOf (.ref a)) o.cls:=by intro A Q E s k q;unfold typeOf;exact cY (wpAny_load (k a o ho) (dv q))
def Hu{M:Model}{A:Ar}{E:QQX}{a C T:Uf}{Q:Unit->Sd->Prop}(x:QX s.heap a (.ref C) dx (ga T))(h:∀h':No,(∀b,h'.get? b=s.heap.get? b)->Q () {s with heap:=h'}):pi M A (setFlight (.ref a) Fa) Q E s:=by
 obtain⟨oe,vs,ho,hc,_,hd,h1,hv,hT⟩:=x;obtain⟨nTe,oT,ts,Zx,Z0,h3,hn⟩:=hT T Z';unfold setFlight;refine cY (fj ho hd hv ?_);rw[dh (by rfl)];refine ia Zx Z0 h3 (h _ λb=>?_);by_cases z:T=b
 .subst z;obtain⟨oc,od,odt,Zh⟩:=oT;obtain rfl:odt=.fields ts:=Z0;rw[fK _ Zx Z',Zx];show ga (Obj.mk oc od (.fields (ts.setIfInBounds 3 .none)) Zh)=_;have:ts.setIfInBounds 3 .none=ts:=by
   apply Array.ext
   .simp
   .intro i h1 h2;rw[Array.getElem_setIfInBounds];split
    .rename_i e;subst e;rw[Array.getElem?_eq_getElem h3]at hn;exact(dq hn).symm
    .rfl
  rw[this]
 .exact gf _ _ z
def T1(X:Cx)(e:Go)(t:St->Hp->VK->(Hp->Prop)->XK->Prop):Prop:=∀(Yj:QQY) (s:Sd) (Y:St) (H:Hp) (Q:VK) (J:Hp->Prop) (E:XK),Inv X Yj Y H s->t Y H Q J E->pi (Tk X.prog X.w) X.A (wp e X.env) (EP X Yj Y Q) (Xq X Yj Y J E) s
def XQ(X:Cx)(st:ZB)(t:E7->St->Hp->(Hp->Prop)->XK->Prop):Prop:=∀(Yj:QQY) (s:Sd) (Y:St) (H:Hp) (D:E7) (J:Hp->Prop) (E:XK),Inv X Yj Y H s->t D Y H J E->pi (Tk X.prog X.w) X.A (exec st X.env) (SP X Yj D) (Xq X Yj Y J E) s
def Rn{X:Cx}{i:Nat}{x:Str}{te:St->Hp->VK->(Hp->Prop)->XK->Prop}{pos Yu:Pos}(hN:X.N.Nodup)(hi:X.N[i]?=ga x)(hx:L0 X.env.scope x)(he:T1 X e te)(hs:wE e (ga (.Name x Yu)) pos.line X.env=pure pc:=by rfl)(hf:L4 X x:=by first|exact .inl Z'|exact .inr Z'|assumption):
  XQ X (.Assign [.Name x Yu] e pos) (λD Y H J E=>te Y H (λv H'=>D.nx (Y.set i (ga v)) H') J E):=by
 intro Yj s Y H D J E I h;refine lE (tz (he Yj s Y H _ J E I h) λv s1 zz=>x5 zz λy H1 I1 r1 q1=>?_) hs;exact CY I1 hN hi hx r1 (λs2 I2=>⟨_,H1,I2,q1⟩) hf
variable {k:Nat}{f C:Uf}{fd:Ix}{ps:QQQ}{sp:Sp}{Y7:T0 V}{ds:T0 Vl}{m:Str}{p pos Ym:Pos}{e o:Go}{es:T0 Go}{t:TA}
section
variable {x:Str}
def NV(F:xU X.prog X.w X.K X.mg X.base (BP X.prog X.w) k f fd ps sp)(hr:sJ k X.A)(hg:Gl X x)(hm:X.mg x=ga (.ref f))(hk:W.keepIn X.K (.ref f)=Db)(hb:ve X.K fd ps ds)(hd:qL Y7 ds) (ha:PA (X.oj λ_ _=>False) (e::es) t) (YC:zF x:=by decide) (he:BN X e es:=by rfl) (YA:Cd X pos es:=by rfl):
  T1 X (.Call (.Name x p) (e::es) [] pos) (λY H Q J E=>t Y H λvs H1=>J H1/\sp (vs++Y7) H1 Q E):=by
 intro Yj s Y H Q J E I h;refine fS (xp I hg hm ?_ YC);refine iZ (h₀:=X.base) I.ok.mod.oJ hk (eB (ha pos Yj s Y H _ I.oj h) (λus s1 ⟨vs,H1,I1,r,jH,q⟩=>⟨I1.nB,?_⟩) λ_ _ z=>z.elim) he YA;have I1:=I1.xeOf;have r2:qL (vs++Y7) (us++ds):=r.append hd;have hl:(us++ds).length=ps.length:=by rw[<-r2.length];exact F.len _ _ _ _ q
 refine iL (gq (F.run X.A X.stack s1 H1 ⟨us,[]⟩ (us++ds) (vs++Y7) Q E hr I1.oE (hb s1 us I1.nB hl) r2 q) λr s' hq=>?_);cases r with
 | error e=>exact⟨H1,s1,jH,I1,hq⟩
 | ok fl=>
  cases fl with
  | ret u=>exact I1.after hq
  | next=>exact False.elim hq
  | brk=>exact False.elim hq
  | cont=>exact False.elim hq
end
def Rz{st b₀:ZB}{Y9:T0 ZB}{cnp hpos pos:Pos}{Cc L:Uf}{outer:T0 Env}{t:E7->St->Hp->(Hp->Prop)->XK->Prop}(hb:XQ X st t)(YG:X.stack=X.env::outer)(hL:X.env.frame=ga L)(hg:Gl X cn)(hm:X.mg cn=ga (.ref Cc))(hs:∀ev E',Dd (X.marked ev E') (b₀::Y9) th) (YC:zF cn:=by decide):
  PS X (.Try [st] [.ExceptHandler (ga (.Name cn cnp)) Fa (b₀::Y9) hpos] [] [] pos) (λD Y H=>∃(J:Hp->Prop) (E:XK),t D Y H J E/\∀C dx H1 H',J H1->TKept H1 H'->E (.ref C) dx H'->W.exmOne X.K (.ref C) (.ref Cc)=ga Db/\th D Y H'):=by
 intro Yj s Y H D I ⟨J,E,h,hh⟩;refine wpAny_Try_except (eB (Q:=λf s'=>SP X Yj D f s') (jJ (tz (hb Yj s Y H D J E I h) λf s1 q=>?_)) (λf s1 q=>?_) λev s1 x=>?_)
 .cases f with
  | next=>exact gR q
  | brk=>exact q
  | cont=>exact q
  | ret v=>exact q
 .cases f with
  | next=>exact gR q
  | brk=>exact q
  | cont=>exact q
  | ret v=>exact q
 .refine eB (TN x YG hL) (λ_ s2 y=>tz y λ_ s3 z=>?_) λ_ _ z=>z;obtain⟨a,C,dx,H',tb,H1,s1,rfl,q,I3,x3,na,nt,jH,tk,I1,n1⟩:=z;obtain⟨Yl,h1⟩:=hh C dx H1 H' jH tk q;refine wpAny_handleBy_cons (codeAny_handlers_test (xp (X:=X.marked (.ref a) λ_ _=>False) I3.mark hg hm ?_ YC)) (by intro z;cases z);obtain⟨oe,vs,ho,hc,_⟩:=id x3;refine W.exm_one I3.nB (Ju ho) (by rw[hc];exact Yl) _ _ _ _ (λ_ _ z=>z) ?_;refine codeAny_handlers_suite (Hu x3 λh' hh'=>?_);have I4:Inv X Yj Y H' {s3 with heap:=h'}:=I3.kept (t':=s3.toks) λb u z=>by rw[hh' b];exact z
  refine eB (hs (.ref a) _ Yj _ Y H' D I4.mark h1) (λf s5 q5=>SP.unmark I.ok q5) λ_ _ z=>z
variable {prog:Pg}{w:Wo}{A:Ar}{E:QQX}{K:qJ}{ox:Obj}
section
variable {x:Uf}
end
end L2
namespace L3
open L2
theorem _root_.L2.TKept.ext{K:qJ}(h:TKept H H'):rC K H H':=⟨λa xs q=>by
 rcases q with(q|⟨u,q⟩)|q
 .exact .inl (.inl (h.1 a xs q))
 .exact .inl (.inr ⟨u,h.2 a u _ q⟩)
 .exact .inr q,λa o xs q=>h.2 a o _ q⟩
abbrev Wc:=vT->Mp->DK->XR->Prop
def Yd(K:qJ)(t:Wc):St->Hp->VK->(Hp->Prop)->XK->Prop:=λY H Q' J E=>B0 λU M Q R=>AG K H Y U/\HM K H M/\t U M Q R/\(∀v H' d M',sA K H' d v->HM K H' M'->rC K H H'->Q d M'->Q' v H')/\(∀H1,rC K H H1->J H1)/\TL K R E
def XZ(X:Cx)(e:Go)(t:Wc):Prop:=T1 X e (Yd X.K t)
def T1.mono{t t':St->Hp->VK->(Hp->Prop)->XK->Prop}(h:T1 X e t)(m:∀Y H Q J E,t' Y H Q J E->t Y H Q J E):T1 X e t':=λYj s Y H Q J E I q=>h Yj s Y H Q J E I (m Y H Q J E q)
variable {X:Cx}{x:Str}{p pos np Yq:Pos}{e:Go}{es:T0 Go}{t:xA}{k:Nat}{f C:Uf}{fd:Ix}{ps:QQQ}{sp:F5}
def MV(F:Px X.prog X.w X.K X.mg X.base k f fd ps sp)(hr:sJ k X.A)(hg:Gl X x)(hm:X.mg x=ga (.ref f))(hk:W.keepIn X.K (.ref f)=Db)(hb:ve X.K fd ps [])(ha:A3 (X.oj λ_ _=>False) (e::es) t) (YC:zF x:=by decide) (he:BN X e es:=by rfl) (YA:Cd X pos es:=by rfl):
  XZ X (.Call (.Name x p) (e::es) [] pos) (λU M Q R=>t U M λds M1=>sp ds M1 Q R):=T1.mono (NV F hr hg hm hk hb .nil ha YC he YA) λY H Q' J E ⟨U,M,Q,R,hs,hm,ht,k,kJ,kR⟩=>
 ⟨U,M,_,hs,hm,ht,λvs H1 ds M1 hd Yl e1 q1=>⟨kJ H1 e1,ds,M1,Q,R,by rw[eN];exact hd,Yl,q1,vH e1 k,kR⟩⟩
variable {b₀:ZB}{Y9:T0 ZB}{cn n:Str}{cnp hpos Ym xpos:Pos}{Cc L:Uf}{outer:T0 Env}{i ix:Nat}{te:Wc}{th:xX}
def W4(K:qJ)(ix:Nat)(Cc:Uf)(te:Wc)(th:xX):xX:=λD U M=>∃R,te U M (λd M1=>D.nx (U.set ix (ga d)) M1) R/\∀C y M',R C y M'->W.exmOne K (.ref C) (.ref Cc)=ga Db/\th D U M'
def P3(he:XZ X e te)(YG:X.stack=X.env::outer)(hL:X.env.frame=ga L)(hg:Gl X cn)(hm:X.mg cn=ga (.ref Cc))(hN:X.N.Nodup)(hix:X.N[ix]?=ga x)(hx:X.env.scope.names.lookup x=ga .local) (hs:∀ev E',HY (X.marked ev E') (b₀::Y9) th) (YC:zF cn:=by decide) (ZT:wE e (ga (.Name x xpos)) Ym.line X.env=pure pc:=by rfl):
  S3 X (.Try [.Assign [.Name x xpos] e Ym] [.ExceptHandler (ga (.Name cn cnp)) Fa (b₀::Y9) hpos] [] [] pos) (W4 X.K ix Cc te th):=
 PS.og (Rz (th:=Wz X.K th) (Rn hN hix (.inl hx) he ZT (.inr hx)) YG hL hg hm hs YC) λD' Y H hl ⟨U,M,D,hs,hm,⟨R,ht,hh⟩,k1,k2,k3,k4⟩=>by
  refine⟨λH1=>rC X.K H H1,λcv d H'=>∃C M' y,cv=.ref C/\HM X.K H' M'/\V6 X.K H' d y/\R C y M',⟨U,M,_,R,hs,hm,ht,λv H1 d M1 hd Yl e1 q1=>?_,λ_ z=>z,λC dx H' M' y h1 h0 h2=>⟨C,M',y,Z',h1,h0,h2⟩⟩,λC dx H1 H' jH tk ⟨C',M',y,ec,ZU,hdx,r⟩=>?_⟩
  .exact k1 _ H1 _ M1 ((hs.mono e1).set hd (by rw[hl];exact(de.mp hix).1)) Yl e1 (by simp) q1
  .cases ec;obtain⟨r1,r2⟩:=hh C y M' r;have e1:rC X.K H H':=jH.trans (L2.TKept.ext tk);refine⟨r1,U,M',D,hs.mono e1,ZU,r2,λσ2 H2 δ2 M2 y1 y2 y3 y4 y5=>?_,λv H2 d M2 y1 y2 y3 y5=>?_,λσ2 H2 δ2 M2 y1 y2 y3 y4 y5=>?_,λσ2 H2 δ2 M2 y1 y2 y3 y4 y5=>?_⟩
   .exact k1 _ H2 _ M2 y1 y2 (e1.trans y3) y4 y5
   .exact k2 _ H2 _ M2 y1 y2 (e1.trans y3) y5
   .exact k3 _ H2 _ M2 y1 y2 (e1.trans y3) y4 y5
   .exact k4 _ H2 _ M2 y1 y2 (e1.trans y3) y4 y5
end L3
namespace L2
noncomputable def Dg(es:Array DictEntry):Bool:=es.toList.all λe=>match e.key with|.str _ _=>Db|_=>pc
def CF{es:Array DictEntry}(h:Dg es=Db):StrKeys es:=λe he=>by
 have:=eF.mp h e (ku.mpr he);cases z:e.key with
 | str n t=>exact⟨n,t,Z'⟩
 | _=>rw[z]at this;cases this
abbrev MQ:T0 Vl:=[.type "ValueError",.type "Exception",.type "BaseException",.type "object"]
def Qu{X:Cx}:ze (BP X.prog X.w) X (λ_ _ _=>False):=λ_ _ _ _ _ _ _ ⟨_,_,_,_,_,_,z,_⟩=>z.elim
def Rc{K:qJ}{t:Vl}{C:Uf}{cd:ClassData}{b:Bool}(q0:W.subIn K (.ref C) (.type "BaseException")=ga Db)(q1:W.clsIn K C=ga cd)(q2:W.typeIn K (.ref C)=ga (.type "type"))(s:W.subIn K t (.ref C)=ga b):W.exmOne K t (.ref C)=ga b:=by unfold W.exmOne;rw[q0,dh (by rfl)];unfold W.kitCls;simp only;rw[q1,q2,dh (by rfl)];exact s
end L2
namespace L3
open L2
def Xi{K:qJ}:TL K (λ_ _ _=>False) (λ_ _ _=>False):=λ_ _ _ _ _ _ _ z=>z
end L3
namespace L2
theorem Dc(self:Vl):∀own:QXQ,refuseLoop self "__setattr__" (own.map Value.ref++MQ)=pure ()
 | []=>jR.passes self
 | c::r=>by show refuseLoop self "__setattr__" (.ref c::(r.map Value.ref++MQ))=pure ();rw[refuseLoop_ref];exact Dc self r
variable {prog:Pg}{w:Wo}{A:Ar}{s:Sd}{K:qJ}{x C:Uf}{ox:Obj}{own:QXQ}{name:Str}{v:Vl}
section
variable {E:QQX}{cd:ClassData}
def P'{Q:Unit->Sd->Prop}(X:K.In s.heap)(I:W.InstAt s.heap x ox C Fa)(hs:W.findIn K (.ref C) "__setattr__"=ga (ga (.builtin "object.__setattr__")))(hc:W.clsIn K C=ga cd)(hm:cd.mro=own.map Value.ref++MQ)(ht:W.takerIn K C name=ga Fa)(hd:cd.hasDict=Db) (h:∀h' d t,(∀b o,b≠x->s.heap.get? b=ga o->h'.get? b=ga o)->h'.get? x=ga {ox with dict:=some d}->s.heap.get? d=Fa->d≠x->h'.Ns1 d (λy=>if y=name then ga v else Fa)->Q () {s with heap:=h',toks:=t}):pi (Tk prog w) A (setAttr (.ref x) name v) Q E s:=by
 refine W.set_plain X I hs ?_;have SF:=jR;have ne:cd.mro.isEmpty=pc:=by rw[hm];cases own<;>rfl
 have has:cd.mro.contains (.type "object")=Db:=by
  rw[hm,List.contains_eq_any_beq,mz];have:MQ.any (Value.type "object"==·)=Db:=by decide+kernel
  rw[this,ly]
 have sub:W.Looks (Tk prog w) s.heap (isInstance (.ref x) (.type "object")) Db:=I.type.andThen (W.looks_mroIn X (by unfold W.mroIn;rw[hc,mj,df (by rw[ne];decide),has]));refine jb SF.slot.plain SF.entry (@PySem.W.check_slot (Tk prog w) _ _ {s with toks:=s.toks+1} "object.__setattr__" "object" "__setattr__" (.ref x) [.str name s.toks,v] [] _ SF.kind SF.split sub (SF.args (.ref x) (.str name s.toks) v) ?_);obtain⟨attr,ha,hr⟩:=Option.bind_eq_some_iff.mp ht;have hmro:W.Looks (Tk prog w) s.heap (mroOf (.ref C)) cd.mro:=(kF X hc).andThen .now;have L3':W.Looks (Tk prog w) s.heap (Builtin.ObjectAttr.storeTaker? attr) Fa:=by
  cases attr with
  | none=>exact .now
  | some a=>
   obtain⟨b,hb,hr⟩:=kc.mp hr;refine(W.looks_takesIn X hb).andThen ?_;cases b
   .exact .now
   .cases hr
 rw[W.osa_eq,refuse_eq];refine cY (cY (I.type.here (s:={s with toks:=s.toks+1}) (cY (hmro.here (s:={s with toks:=s.toks+1}) ?_))));rw[hm,Dc];refine dv (cY (I.type.here (s:={s with toks:=s.toks+1}) (cY ((mC X ha).here (s:={s with toks:=s.toks+1}) (cY (L3'.here (s:={s with toks:=s.toks+1}) ?_))))));obtain⟨hx,hcl,hn,hdx⟩:=I;obtain⟨oc,odi,oda,Zh⟩:=ox;dsimp only at hcl hdx;subst hcl;cases odi with
 | some _=>exact hdx.elim
 | none=>
  refine cY (dv (cY (cY (wpAny_loadPart hx (cY (mG (s:={s with toks:=s.toks+1}) (kF X hc) ?_))))));rw[hd];rw[df (by decide)];obtain⟨hh,g,dr,tk,os⟩:=s;dsimp only at hx h ⊢;rw[df (by simp[typeHasDict])];split
  .cases hn
  .have y1:(hh.push W.emptyDict).get? x=ga ⟨.ref C,Fa,oda,Zh⟩:=dg _ hx;have nx:x≠hh.objs.size:=λz=>eW _ (z ▸ dC hx);refine cY (wpAny_alloc' (cY (wpAny_update' y1 (dv ?_))));have e0:((hh.push W.emptyDict).update x λo=>{o with dict:=some hh.objs.size}).Ns hh.objs.size (λ_=>Fa):=⟨W.emptyDict,#[],_,(jk _ _ _ _ nx.symm).trans (dJ hh Z'),Z',λe he=>absurd he (by simp),λ_=>rfl⟩;refine cY (dv (cY (wpAny_nsSet1 (lF e0) λh' n1 sb=>?_)));obtain⟨oD,esD,epD,g1,g2,g3⟩:=n1.count (Within.cons name v Within.nil);refine cY (lW g1 (g2 ▸ lX (eh g3 (by rw[dO,dI];decide))) (dv (h h' hh.objs.size _ (λb o hb z=>?_) ?_ (gK (dw _)) nx.symm n1)))
   .exact(sb.2 b λy=>eW _ (y ▸ dC z)).trans ((jk _ _ _ _ hb).trans (dg _ z))
   .refine(sb.2 x nx).trans (fK _ y1 ?_);have fr:=(Heap.get?_some_iff.mp hx).2;cases oda with
    | _=>first|rfl|exact fr
end
variable {nm q:Str}{bs bm ZP:T0 Vl}{hdct:Bool}{sn:QQQ}{sub:T0 Vl}{ab:Bool}{col:Option Bool}{dd:Option Uf}{k0 k1 k2 k3 k5:Option Vl}{B Bn newId nid YO zP:String}{bmN:T0 Vl}{h:No}{g:Array GenState}{d:Drawn}{t:Nat}{os:OsState}
section
variable {E:QQX}{N:Uf}
abbrev PM(C t:Uf):Obj:={cls:=.ref C,data:=.fields #[.ref t,.none,.none,.none,.bool pc,.none]}
def BO(Fn:u8 Bn newId zP bmN)(hBn:ZP.contains (.type Bn)=Db)(F:u8 B nid YO ZP)(T:OwnTail h ZP bm){mN:QQZ}{us:T0 Vl}{fI:Uf}{oI:Obj}{Q:PySem.Fin->Sd->Prop} (hC:h.get? C=ga (XXc nm q C N bs bm hdct sn sub ab col dd k0 k1 k2 k3 k5 newId)) (hn:h.Ns N mN) (hi:mN "__init__"=ga (.ref fI)) (hf:h.get? fI=ga oI) (hfc:oI.cls=.type "function") (Yp:us.length<=Ch) (hq:∀h' e,Heap.MadeExcOf h h' e (.ref C) us->pi (Tk prog w) A (call (.ref fI) (.ref e::us)) (λr s'=>r=.none/\Q (.done (.ret (.ref e))) s') E ⟨h',g,d,t,os⟩):
  pi (Tk prog w) A (Builtin.«type.__call__» ⟨.ref C::us,[]⟩) Q E ⟨h,g,d,t,os⟩:=by
 repeat (first|with_reducible refine hJ hC ?_|with_reducible refine wpAny_madeBy_exc hC ?_|wp_step)
 refine codeAny_call_builtin_code (iD _ Fn.quiet) (wpAny_check_new_subU Fn hBn T hC (codeAny_exc_new_subU Fn hBn F T hC ?_ Yp));have kp:∀b o,h.get? b=ga o->((h.push {cls:=.type "tuple",data:=.seq us.toArray}).push (PM C h.objs.size)).get? b=ga o:=λb o z=>dg _ (dg _ z);have gE:((h.push {cls:=.type "tuple",data:=.seq us.toArray}).push (PM C h.objs.size)).get? (h.objs.size+1)=ga (PM C h.objs.size):=by heap_get
 have hC2:=kp _ _ hC;have hn2:((h.push {cls:=.type "tuple",data:=.seq us.toArray}).push (PM C h.objs.size)).Ns N mN:=let⟨o,es,ep,e,r⟩:=hn;⟨o,es,ep,kp _ _ e,r⟩;have cC:(Value.ref C::bm).contains (.ref C)=Db:=by rw[iF,fH,hZ]
 have T2:=T.keeps kp;show pi _ _ _ _ _ _;unfold isInstance
 repeat (first|with_reducible refine hJ gE ?_|(with_reducible refine kP hC2 ?_;rw[cC])|wp_step)
 show pi _ _ (typeLookup (.ref C) _) _ _ _;refine wpAny_typeLookup_tail hC2 hn2 T2 F.mroIs F.init.lookup ?_;rw[hi];refine eX (cY ?_);unfold bindSpecial;refine cY (jL (T:="function") ⟨_,kp _ _ hf,hfc⟩ ?_);rw[dh (by decide)];refine dv (cY (eB (hq _ (h.objs.size+1) ⟨kp,gK (gY _),h.objs.size,gE,gK (dw _),dg _ (Heap.get?_push_at Z' Z')⟩) (λr s' hr=>?_) λ_ _ z=>z));obtain⟨rfl,hQ⟩:=hr
 wp_walk
 exact hQ
def Im(Fn:u8 Bn newId zP bmN)(hBn:ZP.contains (.type Bn)=Db)(F:u8 B nid YO ZP)(T:OwnTail h ZP bm){mN:QQZ}{us:T0 Vl}{fI:Uf}{oI:Obj}{Q:QQX} (hC:h.get? C=ga (XXc nm q C N bs bm hdct sn sub ab col dd k0 k1 k2 k3 k5 newId)) (hn:h.Ns N mN) (hi:mN "__init__"=ga (.ref fI)) (hf:h.get? fI=ga oI) (hfc:oI.cls=.type "function") (Yp:us.length<=Ch) (hq:∀h' e,Heap.MadeExcOf h h' e (.ref C) us->pi (Tk prog w) (A.under (.builtin "type.__call__" ⟨.ref C::us,[]⟩)) (call (.ref fI) (.ref e::us)) (λr s'=>r=.none/\Q (.ref e) s') E ⟨h',g,d,t,os⟩):
  pi (Tk prog w) A (call (.ref C) us) Q E ⟨h,g,d,t,os⟩:=by
 have f1:=tc_lookup;have f2:=tc_bind (.ref C);have hT:(⟨h,g,d,t,os⟩:Sd).TypeIs (.ref C) "type":=⟨_,hC,Z'⟩;refine iL (j4 ?_);show pi _ _ (callAny (.ref C) _) _ _ _
 repeat (any_goals(first|assumption|with_reducible refine hJ hC ?_|wp_step))
 exact⟨Z',codeAny_call_builtin_at (iD _ (by decide+kernel)) entry_typeCall (wpAny_check_type_call_sub hC (BO Fn hBn F T hC hn hi hf hfc Yp hq))⟩
end
variable {M:Model}{env:Env}
section
variable {E:QQX}{N:Uf}
def Kn(h:No)(e C:Uf)(dx:Option Uf):Prop:=Cv λt sl=>h.get? e=ga ⟨.ref C,dx,.fields #[.ref t,.none,.none,.none,.bool pc,.none],sl⟩
def GM{x:Sem Vl}{Q:Flow->Sd->Prop}(Ys:bm.contains (.type "BaseException")=Db)(hh:A.handled=Fa) (h:pi M A x (λv s₁=>∃e dx,v=.ref e/\s₁.heap.get? C=ga (XXc nm q C N bs bm hdct sn sub ab col dd k0 k1 k2 k3 k5 newId)/\Kn s₁.heap e C dx/\E (.ref e) s₁) E s):
  pi M A (raiseStmt env (ga x) Fa) Q E s:=by
 have cB:(Value.ref C::bm).contains (.type "BaseException")=Db:=by rw[iF,Ys,ly]
 unfold raiseStmt;refine cY (eB h (λv s₁ ⟨e,dx,ev,hC,⟨t,sl,he⟩,hE⟩=>?_) λ_ _ z=>z);subst ev;obtain⟨hp,g,d,tk,os⟩:=s₁
 repeat (first|with_reducible refine hJ he ?_|with_reducible refine hJ hC ?_|(with_reducible refine kP hC ?_;rw[cB])|wp_step)
 exact wpAny_raiseNew_none hh hE
def GL(Fn:u8 Bn newId zP bmN)(hBn:ZP.contains (.type Bn)=Db)(F:u8 B nid YO ZP){mN:QQZ}{fI:Uf}{x:Str}{np Yq pos:Pos}{args:T0 Go}{Q:Flow->Sd->Prop} (Ys:bm.contains (.type "BaseException")=Db) (hh:A.handled=Fa) (YD:(xz Yq (Tl args env)).any (·.1)=pc) (hi:mN "__init__"=ga (.ref fI)) (h:pi (Tk prog w) A (wp (.Name x np) env) (λf s₁=>f=.ref C/\pi (Tk prog w) A (evalArgs (.ref C) Db (xz Yq (Tl args env)) []) (λa s₂=>a.kw=[]/\a.pos.length<=Ch/\s₂.heap.get? C=ga (XXc nm q C N bs bm hdct sn sub ab col dd k0 k1 k2 k3 k5 newId)/\s₂.heap.Ns N mN/\OwnTail s₂.heap ZP bm/\(∃oI,s₂.heap.get? fI=ga oI/\oI.cls=.type "function")/\
    ∀h' e,Heap.MadeExcOf s₂.heap h' e (.ref C) a.pos->pi (Tk prog w) (A.under (.builtin "type.__call__" ⟨.ref C::a.pos,[]⟩)) (call (.ref fI) (.ref e::a.pos))
     (λr s'=>r=.none/\∃dx,s'.heap.get? C=ga (XXc nm q C N bs bm hdct sn sub ab col dd k0 k1 k2 k3 k5 newId)/\Kn s'.heap e C dx/\E (.ref e) s') E {s₂ with heap:=h'}) E s₁) E s):
  pi (Tk prog w) A (exec (.Raise (ga (.Call (.Name x np) args [] Yq)) Fa pos) env) Q E s:=by
 rw[arm_exec_Raise];refine cY (ii (GM (C:=C) (nm:=nm) (q:=q) (N:=N) (bs:=bs) (bm:=bm) (hdct:=hdct) (sn:=sn) (sub:=sub) (ab:=ab) (col:=col) (dd:=dd) (k0:=k0) (k1:=k1) (k2:=k2) (k3:=k3) (k5:=k5) (newId:=newId) Ys hh ?_));refine cY (eB (wpAny_Call_ofName (eB h (λf s₁ ⟨ef,h₁⟩=>?_) λ_ _ z=>z)) (λv s₃ h₃=>cY (ii (dv h₃))) λ_ _ z=>z);subst ef;unfold XXi;refine cY (eX (eB h₁ (λa s₂ h₂=>cY (ii ?_)) λ_ _ z=>z));obtain⟨Ym,akw⟩:=a;obtain⟨hkw,Yp,hC,hn,T,⟨oI,hf,hfc⟩,h₂⟩:=h₂;obtain rfl:akw=[]:=hkw;obtain⟨hp,g,d,tk,os⟩:=s₂;simp only[YD];refine cY (wpAny_keeperOf_exc hC (cY (Im Fn hBn F T hC hn hi hf hfc Yp λh' e hm=>eB (h₂ h' e hm) (λr s' ⟨z,dx,c1,c2,c3⟩=>⟨z,cY (eX (wpAny_point (dv ⟨e,dx,Z',c1,c2,c3⟩)))⟩) λ_ _ z=>z)))
end
def x0(a C:Uf)(h:No):Prop:=Kn h a C Fa
def x1(a C d:Uf)(h:No):Prop:=Kn h a C (ga d)
structure zC(K:qJ)(C:Uf)(f:Str):Prop where
 sa:W.findIn K (.ref C) "__setattr__"=ga (ga (.builtin "object.__setattr__"))
 cd:∃cd own,W.clsIn K C=ga cd/\cd.mro=List.map Value.ref own++MQ/\cd.hasDict=Db
 tk:W.takerIn K C f=ga Fa
variable {X:Cx}{Yj:T0 (Uf × Obj)}{Y σ':St}{H H1:Hp}{s1:Sd}{a:Uf}
section
variable {f:Str}
def Hz{A:Ar}{E:QQX}{Q:Unit->Sd->Prop}(I:Inv X Yj Y H s)(e:H a=ga (.ext (x0 a C)))(ry:rA y u)(st:zC X.K C f)(h:∀d s',H d=Fa->d≠a->Inv X Yj Y (upd (upd H a (.ext (x1 a C d))) d (.ext (P8 d f y))) s'->Q () s'):pi (Tk X.prog X.w) A (setAttr (.ref a) f u) Q E s:=by obtain⟨⟨t,sl,ho⟩,_,_⟩:=I.m9 a _ e;obtain⟨cd,own,c1,c2,c3⟩:=st.cd;refine P' I.nB ⟨ho,Z',Z',trivial⟩ st.sa c1 c2 st.tk c3 λh' d tk k1 k2 dn da n1=>h d _ (As I.m9 dn) da ?_;have I2:=I.write (t':=tk) (x:=a) (e:=a) (o:=.ext (x1 a C d)) (by rw[e];exact True.intro) (.inl Z') k1 ⟨_,k2⟩ ⟨⟨t,sl,k2⟩,⟨_,k2⟩,λh1 h2 ⟨t',ZR,z⟩ kk=>⟨t',ZR,kk _ z⟩⟩;refine I2.adopt I dn (by rw[qv da];exact As I.m9 dn) ⟨⟨u,n1,ry⟩,?_,λh1 h2 ⟨u,n,r⟩ kk=>⟨u,n.at kk,r⟩⟩;obtain⟨o,_,_,z,_⟩:=n1;exact⟨o,z⟩
def Inv.drop{φ:No->Prop}(I:Inv X Yj Y H s)(ea:H a=ga (.ext φ)):Inv X Yj Y (λb=>if b=a then Fa else H b) s:=by
 have less:∀b,H b=Fa->(if b=a then Fa else H b)=Fa:=λb e=>by split<;>first|rfl|exact e
 have keep:∀b o,H b=ga o->(∀φ,o≠.ext φ)->(if b=a then Fa else H b)=ga o:=λb o e n=>by
  rw[df]
  .exact e
  .intro z;rw[z,ea]at e;exact n φ (dq e).symm
 refine⟨I.ok,I.os,I.bare,⟨I.base.keep,I.base.slot,λb o e h0 hb=>less b (I.base.free b o e h0 hb),I.base.there,λb xs e=>keep b _ (I.base.nQ b xs e) (λ_ z=>nomatch z),λb o u e=>keep b _ (I.base.nK b o u e) (λ_ z=>nomatch z),λb ps e=>?_⟩,I.loc,I.cell,less _ I.free,λx c e=>less _ (I.nv x c e),λp hp=>⟨(I.pin p hp).1,less _ (I.pin p hp).2.1,(I.pin p hp).2.2⟩,λb ob e=>?_,I.len⟩
 .obtain⟨more,z⟩:=I.base.nU b ps e;exact⟨more,keep b _ z (λ_ z=>nomatch z)⟩
 .have e':H b=ga ob:=by
   by_cases z:b=a
   .rw[dh z]at e;cases e
   .rw[df z]at e;exact e
  exact(I.m9 b ob e').nH (λ_ _ _ q=>q) (λb' q=>keep b' _ q (λ_ z=>nomatch z)) λb' xs q=>keep b' _ q (λ_ z=>nomatch z)
end
def Ma(K:qJ)(ta tv:TE)(f:Str):TS:=λD Y H=>tv Y H λy H1=>ta Y H1 λx H2=>∃a C,x=.ref a/\H2 a=ga (.ext (x0 a C))/\zC K C f/\∀d,H2 d=Fa->d≠a->D.nx Y (upd (upd H2 a (.ext (x1 a C d))) d (.ext (P8 d f y)))
def Pp{f:Str}{pos Yu:Pos}{ta tv:TE}(ha:PE X o ta)(hv:PE X value tv)(hs:wE value (ga (.Attribute o f Yu)) pos.line X.env=pure pc:=by rfl):PS X (.Assign [.Attribute o f Yu] value pos) (Ma X.K ta tv f):=by intro Yj s Y H D I h;refine iY (tz (hv Yj s Y H _ I h) λu s1 zz=>x5 zz λy H1 I1 ry q=>tz (ha Yj s1 Y H1 _ I1 q) λov s2 zz=>?_) hs;obtain⟨x,H2,I2,rx,a,C,ex,ea,st,q2⟩:=zz;subst ex;obtain rfl:ov=Value.ref a:=rx;exact Hz I2 ea ry st λd s3 dn da I3=>⟨Y,_,I3,q2 d dn da⟩
def xj(K:qJ)(f:Str):Sp:=λvs H Q _=>D4 λe C y=>vs=[.ref e,y]/\H e=ga (.ext (x0 e C))/\zC K C f/\∀d,H d=Fa->d≠e->Q .mY (upd (upd H e (.ext (x1 e C d))) d (.ext (P8 d f y)))
variable {qual:Str}{scope:XXe}{outer:T0 Env}{s0:Sd}{H0:Hp}{P:Pg}{mg:QQZ}{base:No}
section
def MO{x qual y1 y2 fl:Str}{st:ZB}(F:Qk K x qual st f fd)(S:tW [y1,y2] [y1,y2] (qB st)) (hb:∀(Yv:Vl) (A:Ar) (outer:T0 Env) (s:Sd) (H:Hp) (E:XK),Dd (vQ (BP P w) P w K mg base [y1,y2] qual (qB st) f Yv A outer s H E) (sE st) (Ma K (Iw 0) (Iw 1) fl)):xU P w K mg base (BP P w) 1 f fd [y1,y2] (xj K fl):=by
 obtain⟨oc,od,kV,YW,pm,an,Yv,ct,Zh,rfl,lk,ZC⟩:=F.ex;refine ND lk ZC S (λvs H Q E h=>?_) λA outer s H vs Q' E hr h=>⟨_,hb Yv A outer s H E,?_⟩
 .obtain⟨e,C,y,rfl,_⟩:=h;rfl
 .obtain⟨e,C,y,rfl,h1,h2,q⟩:=h;exact⟨y,Z',.ref e,Z',e,C,Z',h1,h2,q⟩
def JZ(K:qJ)(C fI:Uf):Prop:=
 ∃nm q N bs bm ZP hdct sn sub ab col dd k0 k1 k2 k3 k5,∃B Bn newId nid YO zP:String,∃bmN,∃mN:QQZ,u8 Bn newId zP bmN/\ZP.contains (Value.type Bn)=Db/\u8 B nid YO ZP/\bm.contains (Value.type "BaseException")=Db/\mN "__init__"=ga (.ref fI)/\
  ∀h:No,K.In h->h.get? C=ga (XXc nm q C N bs bm hdct sn sub ab col dd k0 k1 k2 k3 k5 newId)/\h.Ns N mN/\OwnTail h ZP bm/\∃oI,h.get? fI=ga oI/\oI.cls=.type "function"
variable {N:QQQ}{f:Uf}{cd:Vl}{E:XK}
def LJ{X:Cx}(hX:X=vQ (BP P w) P w K mg base N qual scope f cd A outer s0 H0 E){C fI:Uf}{fdI:Ix}{ps:QQQ}{fl:Str}{k:Nat}{x:Str}{np Yq pos:Pos}{e:Go}{ta:TA}(hC:JZ X.K C fI)(F:xU X.prog X.w X.K X.mg X.base (BP X.prog X.w) k fI fdI ps (xj X.K fl))(hr:sJ (k+1) X.A)(hb:ve X.K fdI ps [])(st:zC X.K C fl) (hg:Gl X x) (hm:X.mg x=ga (.ref C)) (ha:PA X [e] ta) (hs:Tl [e] X.env=[(pc,wp e X.env)]:=by rfl) (YC:zF x:=by decide):
  PS X (.Raise (ga (.Call (.Name x np) [e] [] Yq)) Fa pos) (λ_ Y H=>ta Y H λvs H1=>∃y,vs=[y]/\∀d,H1 d=Fa->E (.ref C) (ga d) (upd H1 d (.ext (P8 d fl y)))):=by
 intro Yj s Y H D I h;obtain⟨nm,q,N',bs,bm,ZP,hdct,sn,sub,ab,col,dd,k0,k1,k2,k3,k5,B,Bn,newId,nid,YO,zP,bmN,mN,f1,f2,f3,f4,f5,hin⟩:=hC;have hcalm:X.A.handled=Fa:=I.ok.hd (by rw[hX];rfl);refine GL (nm:=nm) (q:=q) (N:=N') (bs:=bs) (hdct:=hdct) (sn:=sn) (sub:=sub) (ab:=ab) (col:=col) (dd:=dd) (k0:=k0) (k1:=k1) (k2:=k2) (k3:=k3) (k5:=k5) f1 f2 f3 f4 hcalm (by rw[hs];rfl) f5 (xp I hg hm ⟨Z',?_⟩ YC);rw[hs];refine evalArgs_kwB Z' ?_;have ZX:=ha Yq Yj s Y H _ I h;rw[hs]at ZX;refine tz ZX λus s1 zz=>?_;obtain⟨vs,H1,I1,r1,y,ey,q1⟩:=zz;subst ey;obtain⟨u,rfl,ru⟩:=y9 r1;refine wpAny_evalAll_nil ?_;obtain⟨c1,c2,c3,c4⟩:=hin s1.heap I1.nB;refine⟨Z',by show 1<=Ch;rw[dO];decide,c1,c2,c3,c4,λh' e' md=>?_⟩;obtain⟨mk,mn,t,mt,_⟩:=md;have hn:H1 e'=Fa:=As I1.m9 mn;have I2:Inv X Yj Y H1 {s1 with heap:=h'}:=I1.kept (t':=s1.toks) mk;have I3:Inv X Yj Y (upd H1 e' (.ext (x0 e' C))) {s1 with heap:=h'}:=I2.adopt I1 mn hn ⟨⟨t,_,mt⟩,⟨_,mt⟩,λh1 h2 ⟨t',ZR,z⟩ kk=>⟨t',ZR,kk _ z⟩⟩;have r2:qL [V.ref e',y] [Value.ref e',u]:=.cons Z' (.cons ru .nil);have ZS:xj X.K fl [V.ref e',y] (upd H1 e' (.ext (x0 e' C))) (λv H2=>v=.mY/\∃d,d≠e'/\H1 d=Fa/\H2=upd (upd H1 e' (.ext (x1 e' C d))) d (.ext (P8 d fl y))) (λ_ _ _=>False):=⟨e',C,y,Z',qC,st,λd dn da=>⟨Z',d,da,by rw[qv da]at dn;exact dn,by rw[PQ]⟩⟩;have hl:([Value.ref e',u]:T0 Vl).length=ps.length:=by rw[<-r2.length];exact F.len _ _ _ _ ZS
 refine iL (gq (F.run _ X.stack _ _ ⟨[Value.ref e',u],[]⟩ [Value.ref e',u] _ _ _ (hr.make C [u] []) (I3.oE.make C [u] []) (hb _ [Value.ref e',u] I3.nB hl) r2 ZS) λr s' Z2=>?_);cases r with
 | error ev=>obtain⟨_,_,_,_,_,_,z,_⟩:=Z2;exact z.elim
 | ok fw=>
  cases fw with
  | ret uv=>
   obtain⟨v,H',I4,rv,ev,d,da,dn,eH⟩:=I3.after Z2;subst ev eH;obtain⟨⟨t',ZR,md⟩,_,_⟩:=I4.m9 e' _ (by rw[qv (dZ da)];exact qC);have I5:Inv X Yj Y (upd H1 d (.ext (P8 d fl y))) _:=(funext λb=>by
    by_cases z:b=e'
    .subst z;rw[dh Z',qv (dZ da),hn]
    .rw[df z];by_cases z2:b=d
     .subst z2;rw[qC,qC]
     .rw[qv z2,qv z2,qv z]:(λb=>if b=e' then Fa else upd (upd H1 e' (.ext (x1 e' C d))) d (.ext (P8 d fl y)) b)=upd H1 d (.ext (P8 d fl y))) ▸ I4.drop (a:=e') (φ:=x1 e' C d) (by rw[qv (dZ da)];exact qC)
   refine⟨rv,ga d,(hin s'.heap I4.nB).1,⟨t',ZR,md⟩,?_⟩;subst hX;have YL:Un (wZ outer) [] H0 H1 s0.heap s1.heap:=I1.base;exact Wf I5 (tb:=none) ⟨_,_,md,Z',Z',Z',(by show 1<6;decide),Z',λT z=>by cases z⟩ (Hn YL Z' mn) (λT z=>by cases z) (by rw[qv (dZ da)];exact hn) (q1 d dn)
  | next=>exact False.elim Z2
  | brk=>exact False.elim Z2
  | cont=>exact False.elim Z2
end
end L2
namespace L3
open L2
variable {P:Pg}{w:Wo}{K:qJ}{mg:QQZ}{base:No}{N:QQQ}{qual:Str}{scope:XXe}{f:Uf}{cd:Vl}{A:Ar}{outer:T0 Env}{s0:Sd}{H0:Hp}{E:XK}{x:Str}{np Yq pos:Pos}{e:Go}{C fI:Uf}{fdI:Ix}{ps:QQQ}{fl:Str}{k:Nat}{R:XR}{ta:xA}
def Pu(C:Uf)(R:XR)(f:Str)(ta:xA):xX:=λ_ U M=>ta U M λds M1=>∃z,ds=[z]/\R C (ga (f,z)) M1
def Lf(hC:JZ K C fI)(F:xU P w K mg base (BP P w) k fI fdI ps (xj K fl))(hr:sJ (k+1) (vQ (BP P w) P w K mg base N qual scope f cd A outer s0 H0 E).A)(hb:ve K fdI ps [])(st:zC K C fl)(_:W.findIn K (.ref C) "__init__"=ga (ga (.ref fI)))(hg:Gl (vQ (BP P w) P w K mg base N qual scope f cd A outer s0 H0 E) x)(hm:mg x=ga (.ref C))(hR:TL K R E)(ha:A3 (vQ (BP P w) P w K mg base N qual scope f cd A outer s0 H0 E) [e] ta) (hs:Tl [e] (vQ (BP P w) P w K mg base N qual scope f cd A outer s0 H0 E).env=[(pc,wp e (vQ (BP P w) P w K mg base N qual scope f cd A outer s0 H0 E).env)]:=by rfl) (YC:zF x:=by decide):
  S3 (vQ (BP P w) P w K mg base N qual scope f cd A outer s0 H0 E) (.Raise (ga (.Call (.Name x np) [e] [] Yq)) Fa pos) (Pu C R fl ta):=
 PS.mono (LJ Z' hC F hr hb st hg hm ha hs YC) λD' Y H ⟨U,M,D,hs,hm,ht,_⟩=>⟨U,M,_,hs,hm,ht,λvs H1 ds M1 hd Yl e1 q1=>by
  obtain⟨z,rfl,r⟩:=q1;obtain⟨v,rfl,hv⟩:=tj hd;exact⟨v,Z',λd dn=>hR C (ga d) _ M1 _ (Yl.add dn) (.inr ⟨d,fl,z,v,Z',Z',qC,hv.mono (.new dn)⟩) r⟩⟩
variable {X:Cx}{b₀:ZB}{Y9:T0 ZB}{cn:Str}{cnp hpos epos:Pos}{Cc L:Uf}{te:Wc}{th:xX}
end L3
namespace L2
def Ob{K:qJ}{C C2 N fI:Uf}{nm q:Str}{bs sub:T0 Vl}{hdct ab:Bool}{sn:QQQ}{col:Option Bool}{dd od1 od2 dd2:Option Uf}{k0 k1 k2 k3 k5:Option Vl}{oc1 oc2 c0:Vl}{es1 es2:Array DictEntry}{ep1 ep2:Nat}{sl1 sl2 WZ:Array (Option Vl)}{cd2:ClassData}{oI:Obj} (l1:K.lookup C=ga (XXc nm q C N bs (.ref C2::MQ) hdct sn sub ab col dd k0 k1 k2 k3 k5 "ValueError.__new__")) (n1:K.lookup N=ga ⟨oc1,od1,.dict es1 ep1,sl1⟩) (s1:Dg es1=Db) (i1:nsFind es1 "__init__"=ga (.ref fI)) (l2:K.lookup C2=ga ⟨c0,dd2,.cls cd2,WZ⟩) (n2:K.lookup cd2.ns=ga ⟨oc2,od2,.dict es2 ep2,sl2⟩) (s2:Dg es2=Db) (i2:nsFind es2 "__init__"=Fa) (l3:K.lookup fI=ga oI) (hf:W.isFn K (.ref fI)=Db):JZ K C fI:=by
 have hc:oI.cls=.type "function":=by have hf:=eZ.mp hf;unfold W.typeIn at hf;simp only at hf;rw[l3]at hf;exact dq hf
 refine⟨nm,q,N,bs,.ref C2::MQ,MQ,hdct,sn,sub,ab,col,dd,k0,k1,k2,k3,k5,"ValueError","ValueError","ValueError.__new__","ValueError.__new__","ValueError.__init__","ValueError.__init__",MQ,λn=>nsFind es1 n,kB,by decide+kernel,kB,?_,i1,λh X=>⟨X C _ l1,⟨_,es1,ep1,X N _ n1,Z',CF s1,λ_=>rfl⟩,.own (X C2 _ l2) ⟨_,es2,ep2,X _ _ n2,Z',CF s2,λ_=>rfl⟩ i2 .base,oI,X fI _ l3,hc⟩⟩;rw[iF];have:MQ.contains (.type "BaseException")=Db:=by decide+kernel
 rw[this,ly]
def Ll{K:qJ}{C C2 N:Uf}{nm q f:Str}{bs sub:T0 Vl}{ab:Bool}{sn:QQQ}{col:Option Bool}{dd:Option Uf}{k0 k1 k2 k3 k5:Option Vl}(l1:K.lookup C=ga (XXc nm q C N bs (.ref C2::MQ) Db sn sub ab col dd k0 k1 k2 k3 k5 "ValueError.__new__"))(sa:W.findIn K (.ref C) "__setattr__"=ga (ga (.builtin "object.__setattr__")))(tk:W.findIn K (.ref C) f=ga Fa):zC K C f:=by refine⟨sa,⟨_,[C,C2],by unfold W.clsIn;rw[l1],Z',Z'⟩,?_⟩;unfold W.takerIn;rw[tk];rfl
end L2
namespace L3
open L2
variable {X:Cx}{pos Ym:Pos}{o e:Go}{es:T0 Go}{ta:T3}{t:xA}
structure FA where
 f:Uf
 d:Ix
 p:QQQ
structure DG(K:qJ)(st:ZB)(py qual:Str)(ps:QQQ)(x:FA):Prop where
 pe:x.p=ps
 fn:Qk K py qual st x.f x.d
 b:ve K x.d x.p []
 ty:W.isFn K (.ref x.f)=Db
structure TG(K:qJ)(mg:QQZ)(st:ZB)(py:Str)(ps:QQQ)(x:FA):Prop extends DG K st py py ps x where
 mg:mg py=ga (.ref x.f)
structure MG(K:qJ)(C:Uf)(st:ZB)(py qual:Str)(ps:QQQ)(x:FA):Prop extends DG K st py qual ps x where
 at_:W.findIn K (.ref C) py=ga (ga (.ref x.f))
structure CG(K:qJ)(mg:QQZ)(nm:Str)(C:Uf):Prop extends Cls K C where
 mg:mg nm=ga (.ref C)
def DG.kp{K:qJ}{st:ZB}{x:FA}(h:DG K st py qual ps x):W.keepIn K (.ref x.f)=Db:=h.fn.kp
def MG.nF{K:qJ}{st:ZB}{x:FA}(h:MG K C st py qual ps x):wn K C py x.f:=⟨h.at_,h.ty,h.toDG.kp⟩
def Ag(K:qJ)(C:Uf)(fs:QQQ):Prop:=∀f,fs.contains f=Db->uN K C f
def ui{K:qJ}:Ag K C []:=λf h=>by simp at h
def qk{K:qJ}{C:Uf}{g:Str}(h:W.findIn K (.ref C) g=ga Fa)(r:Ag K C fs):Ag K C (g::fs):=λf q=>by
 rw[iF,gU]at q;rcases q with q|q
 .rw[dL q];exact h
 .exact r f q
abbrev Fq(P:Pg)(w:Wo)(K:qJ)(mg:QQZ)(base:No)(k:Nat)(x:FA)(sp:rQ):Prop:=UN P w K mg base k x.f x.d x.p sp
abbrev WL(P:Pg)(w:Wo)(K:qJ)(mg:QQZ)(base:No)(k:Nat)(x:FA)(sp:F5):Prop:=Px P w K mg base k x.f x.d x.p sp
noncomputable def Tg(N P:QQQ)(sc:XXe):Bool:=sc.kind==.function&&(!sc.isCoroutine&&(!sc.isGenerator&&(decide N.Nodup&&(decide (N.take P.length=P)&&((P.all λx=>sc.names.lookup x==ga .local||sc.names.lookup x==ga .cell)&&sc.names.all λy=>!(y.2==.free))))))
def X9{N P:QQQ}(h:Tg N P sc=Db):tW N P sc:=by
 unfold Tg at h;simp only[dY,gJ,eZ,eC]at h;obtain⟨h1,h2,h3,h4,h5,h6,h7⟩:=h;refine⟨h1,h2,h3,h4,h5,λx hx=>?_,λy hy e=>?_⟩
 .have:=eF.mp h6 x hx
  simpa using this
 .have:=eF.mp h7 y hy;rw[e]at this;simp at this
variable {P:Pg}{w:Wo}{K:qJ}{mg:QQZ}{base:No}
def Xx{st:ZB}{sp:rQ}(F:DG K st x qual ps fa)(S:tW N ps (qB st))(len:∀ds M Q,sp ds M Q->ds.length=ps.length) (YF:∀(Yv:Vl) (A:Ar) (outer:T0 Env) (s:Sd) (H:Hp) (E:XK),sJ k (A.deeper (xL qual (qB st) s.heap.objs.size fa.f Yv))->
   ∃t,HY (vQ Pa P w K mg base N qual (qB st) fa.f Yv A outer s H E).oV (sE st) t/\∀ds M Q,sp ds M Q->t {nx:=λ_ M'=>∃Yo,qH Yo M'/\Q .mY Yo,rt:=λd M'=>∃Yo,qH Yo M'/\Q d Yo} (xw N ds) M):Fq P w K mg base (k+1) fa sp:=by
 unfold Fq;rw[F.pe];exact Vt F.fn S len YF
def Wb{st:ZB}{sp:F5}(F:DG K st x qual ps fa)(S:tW N ps (qB st))(len:∀ds M Q R,sp ds M Q R->ds.length=ps.length) (YF:∀(Yv:Vl) (A:Ar) (outer:T0 Env) (s:Sd) (H:Hp) (E:XK) (R:XR),sJ k (A.deeper (xL qual (qB st) s.heap.objs.size fa.f Yv))->TL K R E->
   ∃t,HY (vQ (BP P w) P w K mg base N qual (qB st) fa.f Yv A outer s H E) (sE st) t/\∀ds M Q,sp ds M Q R->t {nx:=λ_ M'=>∃Yo,qH Yo M'/\Q .mY Yo,rt:=λd M'=>∃Yo,qH Yo M'/\Q d Yo} (xw N ds) M):WL P w K mg base (k+1) fa sp:=by
 unfold WL;rw[F.pe];exact VS F.fn S len YF
variable {k n:Nat}{f C:Uf}{fa:FA}{st:ZB}{qual:Str}{ps:QQQ}{sp:rQ}{x m:Str}{p:Pos}
def pW(F:Fq X.prog X.w X.K X.mg X.base k fa sp)(hr:sJ n X.A)(T:TG X.K X.mg st x ps fa)(ha:A3 X (e::es) t)(hn:k<=n:=by first|decide|lia)(hg:Gl X x:=by rfl)
  (YC:zF x:=by decide) (he:BN X e es:=by rfl) (YA:Cd X pos es:=by rfl):
  E3 X (.Call (.Name x p) (e::es) [] pos) (Ew sp t):=Q4 F (hr.mono hn) hg T.mg T.toDG.kp T.b ha YC he YA
def uL(F:Fq X.prog X.w X.K X.mg X.base k fa sp)(hr:sJ n X.A)(c:CG X.K X.mg x C)(i:Mk X.K C fa.f)(T:DG X.K st m qual ps fa)(ha:A3 X (e::es) t)(hn:k+1<=n:=by first|decide|lia)(hg:Gl X x:=by rfl)
  (YC:zF x:=by decide) (he:BN X e es:=by rfl) (YA:Cd X pos es:=by rfl):
  E3 X (.Call (.Name x p) (e::es) [] pos) (RG C sp t):=P5 c.toCls i F (hr.mono hn) hg c.mg T.b ha YC he YA
def qu{pl:Sem Bool}(he:E3 X o ta)(c:Cls X.K C)(T:MG X.K C st m qual ps fa)(F:Fq X.prog X.w X.K X.mg X.base k fa sp)(hr:sJ n X.A)(ha:A3 X (e::es) t)(hn:k<=n:=by first|decide|lia)
  (YG:BN X e es:=by rfl) (YA:Cd X pos es:=by rfl)
  (ht:wp (.Call (.Attribute o m Ym) (e::es) [] pos) X.env=(do
   let ov<-wp o X.env
   XXd Ym.atName
   let(f,first)<-sB [ov] (o0 ov m pl)
   XXi pos f first (xz pos (Tl (e::es) X.env)) (IN pos (Rs [] X.env))):=by rfl):
  E3 X (.Call (.Attribute o m Ym) (e::es) [] pos) (Bt m (λD s=>D=C/\s=sp) ta t):=
 Ga (R:=λD s=>D=C/\s=sp) he (λD s ⟨e1,e2⟩=>by subst e1 e2;exact⟨c,_,_,_,T.nF,F,T.b⟩) (hr.mono hn) ha YG YA ht
def ww{pl:Sem Bool}(he:E3 X o ta)(c:Cls X.K C)(T:MG X.K C st m qual ps fa)(F:Fq X.prog X.w X.K X.mg X.base k fa sp)(hr:sJ n X.A)(hn:k<=n:=by first|decide|lia)
  (ht:wp (.Call (.Attribute o m Ym) [] [] pos) X.env=(do
   let ov<-wp o X.env
   XXd Ym.atName
   let(f,first)<-sB [ov] (o0 ov m pl)
   XXi pos f first (xz pos (Tl [] X.env)) (IN pos (Rs [] X.env))):=by rfl):
  E3 X (.Call (.Attribute o m Ym) [] [] pos) (Bt m (λD s=>D=C/\s=sp) ta xS):=
 Aq (R:=λD s=>D=C/\s=sp) he (λD s ⟨e1,e2⟩=>by subst e1 e2;exact⟨c,_,_,_,T.nF,F,T.b⟩) (hr.mono hn) ht
def zu{pl:Sem Bool}(cm:NC X.K C m fa.f)(F:Fq X.prog X.w X.K X.mg X.base k fa sp)(hr:sJ n X.A)(c:CG X.K X.mg x C)(T:DG X.K st m qual ps fa)(ha:A3 X (e::es) t)(hn:k<=n:=by first|decide|lia)(hg:Gl X x:=by rfl)
  (YC:zF x:=by decide) (YG:BN X e es:=by rfl) (YA:Cd X pos es:=by rfl)
  (ht:wp (.Call (.Attribute (.Name x p) m Ym) (e::es) [] pos) X.env=(do
   let ov<-wp (.Name x p) X.env
   XXd Ym.atName
   let(f,first)<-sB [ov] (o0 ov m pl)
   XXi pos f first (xz pos (Tl (e::es) X.env)) (IN pos (Rs [] X.env))):=by rfl):
  E3 X (.Call (.Attribute (.Name x p) m Ym) (e::es) [] pos) (Ew sp t):=QJ cm F (hr.mono hn) hg c.mg T.kp T.b ha YC YG YA ht
variable {h:No}{py:Str}{od an:Option Uf}{sl:Array (Option Vl)}{kv dc pm cd ct:Vl}
def Kj{fd:Ix}{oc:Vl}(l:K.lookup f=ga ⟨oc,od,.func fd,sl⟩):W.keepIn K (.ref f)=Db:=by unfold W.keepIn;simp only;rw[l]
def PZ{fd:Ix}(l:K.lookup f=ga ⟨.type "function",od,.func fd,sl⟩):W.isFn K (.ref f)=Db:=by unfold W.isFn W.typeIn;simp only;rw[l];rfl
abbrev nC(py qual:Str)(st:ZB)(ps:QQQ):Prop:=∀(kV YW pm:Vl) (an:Option Uf) (Yv ct:Vl) (us:T0 Vl),us.length=ps.length->bindArgs (W.fnOf py qual (uZ st) (sE st) (qB st) .none kV YW pm an Yv ct) ⟨us,[]⟩=pure (ps.zip us)
def RZ(l:K.lookup f=ga ⟨.type "function",od,.func (W.fnOf py qual (uZ st) (sE st) (qB st) .none kv dc pm an cd ct),sl⟩)(k:W.codeIn K cd qual=Db)(hb:nC py qual st ps):
  DG K st py qual ps ⟨f,W.fnOf py qual (uZ st) (sE st) (qB st) .none kv dc pm an cd ct,ps⟩:=⟨Z',NB l k (Kj l),(NB l k (Kj l)).binds hb,PZ l⟩
def qI(X:K.In h)(G:h.Ns At mg)(a:W.nsIn K At py=ga (ga (.ref f)))(l:K.lookup f=ga ⟨.type "function",od,.func (W.fnOf py py (uZ st) (sE st) (qB st) .none kv dc pm an cd ct),sl⟩)(k:W.codeIn K cd py=Db)(hb:nC py py st ps):
  TG K mg st py ps ⟨f,W.fnOf py py (uZ st) (sE st) (qB st) .none kv dc pm an cd ct,ps⟩:=⟨RZ l k hb,W.mg_of X G a⟩
def qy(a:W.findIn K (.ref C) py=ga (ga (.ref f)))(l:K.lookup f=ga ⟨.type "function",od,.func (W.fnOf py qual (uZ st) (sE st) (qB st) .none kv dc pm an cd ct),sl⟩)(k:W.codeIn K cd qual=Db)(hb:nC py qual st ps):
  MG K C st py qual ps ⟨f,W.fnOf py qual (uZ st) (sE st) (qB st) .none kv dc pm an cd ct,ps⟩:=⟨RZ l k hb,a⟩
def xn(X:K.In h)(G:h.Ns At mg)(a:W.nsIn K At py=ga (ga (.ref C)))(h1:W.plainGet K C Str.empty=Db)(h2:W.hasDictIn K C=Db)(h3:W.plainOver K C=Db)(h4:W.findIn K (.ref C) "__setattr__"=ga (ga (.builtin "object.__setattr__"))):CG K mg py C:=⟨⟨h1,h2,h3,h4⟩,W.mg_of X G a⟩
def QP{x:Str}{a:Uf}{es:T0 DictEntry}{ep:Nat}(h:mg x=ga (.ref a))(s:(a==TW)=pc)(l:K.lookup a=ga ⟨.type "dict",Fa,.dict es.toArray ep,#[]⟩) (r:KTD.Rows (λ(ss:QQQ) v=>∃t,v=Value.ref t/\wm K (λ_=>Fa) t (ss.map V.str)) es T):Nx K mg x T:=⟨a,_,_,_,h,s,l,⟨Z',Z',Z'⟩,Z',by simpa using r⟩
def Na{x qual y1 y2 fl:Str}{st:ZB}(F:DG K st x qual [y1,y2] fa)(S:tW [y1,y2] [y1,y2] (qB st)) (hb:∀(Yv:Vl) (A:Ar) (outer:T0 Env) (s:Sd) (H:Hp) (E:XK),Dd (vQ (BP P w) P w K mg base [y1,y2] qual (qB st) fa.f Yv A outer s H E) (sE st) (Ma K (Iw 0) (Iw 1) fl)):xU P w K mg base (BP P w) 1 fa.f fa.d fa.p (xj K fl):=by
 rw[F.pe];exact MO F.fn S hb
def Vu(ds:T0 D)(M:Mp)(Q:DK):Prop:=match ds with
 | [.ref a]=>(oU M a).elim False λes=>(HK es).elim False λbs=>Q (.bl (bs.any id)) M
 | _=>False
def MI(hc:X.calm=Db):C3 X (.builtin "any") Vu:=by
 intro Yj s Y H vs us Q' I rv h;obtain⟨ds,M,Q,hd,hm,q,k⟩:=h;unfold Vu at q;split at q
 .rename_i a;obtain⟨v,rfl,hv⟩:=tj hd;obtain⟨es,e0,q⟩:=rD q;obtain⟨bs,e1,q⟩:=rD q;cases hv.mU;obtain⟨u,rfl,ru⟩:=y9 rv;cases ru;obtain⟨xs,h1,h2,_⟩:=qx hm e0;obtain⟨its,r,pl,hz⟩:=I.list h1;have eits:=Fv e1 h2 r;subst eits;have YI:a≠s.heap.objs.size:=by obtain⟨o,_,e,_⟩:=pl;exact dM (dC e)
  refine call_any_walk (g9 pl.isList ?_);refine⟨s.heap.objs.size,_,_,_,_,_,λi=>(bs[i]?).getD pc,Z',kz (A:=X.A.in1) (I.ok.hd hc) _ a YI (bs.map Value.bool).toArray,⟨⟨_,dJ _ Z',Z',Z'⟩,?_⟩,λi v s' Q E hP hQ=>?_,λh' tk hk=>?_⟩
  .obtain⟨o,n,e,c,d,q⟩:=pl;exact⟨o,dg _ e,c,n,q⟩
  .simp only[iX,dG]at hP;cases e2:bs[i]? with
   | none=>rw[e2]at hP;cases hP
   | some b=>rw[e2]at hP;cases hP;have hQ:Q ((bs[i]?).getD pc) s':=hQ;rw[e2]at hQ;exact fk hQ
  .have ea:(List.range (bs.map Value.bool).toArray.size).any (λi=>(bs[i]?).getD pc)=bs.any id:=by
    rw[dA,cX];rw[fZ,gB,gB];constructor
    .rintro ⟨i,hi,z⟩
     have ZY:=fU.mp hi;rw[cZ ZY]at z;exact⟨_,gO ZY,z⟩
    .rintro ⟨b,hb,z⟩
     obtain⟨i,hi,e⟩:=gQ hb;refine⟨i,fU.mpr hi,?_⟩;rw[cZ hi,e];exact z
   rw[ea];refine⟨.bl (bs.any id),H,?_,Z',k _ _ _ _ .bl hm .refl q⟩;exact I.kept (h':=h') (t':=tk) λb o e=>hk b o (by simpa using dM (dC e)) (dg _ e)
 .exact q.elim
def L':zn "any"=ga (.builtin "any"):=by decide+kernel
def IK{K:qJ}(h:X.K=K):C3 X (.builtin "isinstance") (OA K):=by subst h;exact EU
theorem Jy{K:qJ}:∀{ds:T0 D} {xs:T0 V},qF K H ds xs->qF K H ds.reverse xs.reverse
 | [],_,h=>by cases h;exact .nil
 | d::ds,xs,h=>by obtain⟨x,r,rfl,h1,h2⟩:=h.inv;rw[gI,gI];exact(Jy h2).snoc h1
def Ta(x:D)(ds:T0 D)(M:Mp)(Q:DK):Prop:=match x,ds with
 | .ref a,[]=>(oU M a).elim False λes=>Q .mY (pT M a (.lst es.reverse))
 | _,_=>False
def Ik:M3 X "list.reverse" Ta:=by
 intro Yj s Y H vx vs v us Q' I rx rv h;obtain⟨x,ds,M,Q,hx,hd,hm,q,k⟩:=h;unfold Ta at q;split at q
 .obtain⟨es,e1,q⟩:=rD q;cases hd.nil_inv;cases hx.mU;obtain⟨xs,h1,h2⟩:=BY hm e1;refine H9 Yj s Y H _ _ v us Q' I rx rv ⟨_,xs,Z',Z',h1,?_⟩;obtain⟨YB,ex⟩:=hm.put (c:=.lst es.reverse) (qm e1) λex=>⟨_,qC,Jy (h2.mono ex)⟩;exact k _ _ _ _ .mY YB ex q
 .exact q.elim
def DR{Ym pos:Pos}(ho:E3 X o ta)(Ys:Ps o "reverse" X.env (wp o X.env)=wp o X.env:=by rfl)(Yy:(Ym.endLine==pos.line)=Db:=by rfl):
  E3 X (.Call (.Attribute o "reverse" Ym) [] [] pos) (Ww Ta ta xS):=PE.mono (Tq jW PySem.F.slot_list_reverse PySem.F.type_list_reverse Ik ho Ys Yy) λY H Q' zz=>x7 zz λU M Q hs hm ht k=>
 ⟨U,M,_,hs,hm,ht,λv H1 x M1 hx Yl e1 q1=>⟨OY Yl hx q1.1,x,[],M1,Q,hx,.nil,Yl,q1.2,vH e1 k⟩⟩
end L3
namespace L3
open L2
def Oq(i:Nat){X:Cx}{pos:Pos}{x:Str}(h1:X.N[i]?=ga x:=by rfl)(h2:Vq X.env.scope x:=by first|exact Or.inl Z'|exact Or.inr (Or.inl Z')|exact Or.inr (Or.inr Z'))(h3:zF x:=by decide)(h4:(x==("__classdict__":Str))=pc:=by decide):E3 X (.Name x pos) (v3 i):=Uw i (pv i h1 h2 h3 h4)
variable {X:Cx}{pos:Pos}
def X'{N:QQQ}(h:decide N.Nodup=Db):N.Nodup:=fQ h
def qc(i:Nat){x:Str}{e:Go}{te:T3}{Yu:Pos}{ps:QQQ}{sc:XXe}(S:tW X.N ps sc)(he:E3 X e te)(hi:X.N[i]?=ga x:=by rfl)(hx:L0 X.env.scope x:=by first|exact Or.inl Z'|exact Or.inr Z')(ZT:wE e (ga (.Name x Yu)) pos.line X.env=pure pc:=by rfl)(hf:L4 X x:=by first|exact .inl Z'|exact .inr Z'|assumption):S3 X (.Assign [.Name x Yu] e pos) (G1 te (rH i)):=TX S.nd hi hx he ZT hf
def sL(i:Nat){x:Str}{ps:QQQ}{sc:XXe}(S:tW X.N ps sc)(hi:X.N[i]?=ga x:=by rfl)(hx:L0 X.env.scope x:=by first|exact Or.inl Z'|exact Or.inr Z')(hf:L4 X x:=by first|exact .inl Z'|exact .inr Z'|assumption):G3 X (.Name x pos) (rH i):=JX S.nd hi hx hf
def qN(i:Nat){x:Str}(hN:decide X.N.Nodup=Db:=by kernel_rfl)(hi:X.N[i]?=ga x:=by rfl)(hx:L0 X.env.scope x:=by first|exact Or.inl Z'|exact Or.inr Z')(hf:L4 X x:=by first|exact .inl Z'|exact .inr Z'|assumption):G3 X (.Name x pos) (rH i):=JX (X' hN) hi hx hf
abbrev Sc(n:Nat)(N:QQQ)(s:ZB):=tW N (N.take n) (qB s)
def sk{n:Nat}{s:ZB}(h:Tg N (N.take n) (qB s)=Db:=by decide+kernel):Sc n N s:=X9 h
def qz(h0:E3 X e0 t0)(g0:Tl [e0] X.env=(pc,wp e0 X.env)::Tl [] X.env:=by rfl):A3 X [e0] (wk t0 xS):=(qw h0 sT g0)
def r6(h0:E3 X e0 t0)(h1:E3 X e1 t1)(g0:Tl [e0,e1] X.env=(pc,wp e0 X.env)::Tl [e1] X.env:=by rfl)(g1:Tl [e1] X.env=(pc,wp e1 X.env)::Tl [] X.env:=by rfl):A3 X [e0,e1] (wk t0 (wk t1 xS)):=(qw h0 (qw h1 sT g1) g0)
def rP(h0:E3 X e0 t0)(h1:E3 X e1 t1)(h2:E3 X e2 t2)(g0:Tl [e0,e1,e2] X.env=(pc,wp e0 X.env)::Tl [e1,e2] X.env:=by rfl)(g1:Tl [e1,e2] X.env=(pc,wp e1 X.env)::Tl [e2] X.env:=by rfl)(g2:Tl [e2] X.env=(pc,wp e2 X.env)::Tl [] X.env:=by rfl):A3 X [e0,e1,e2] (wk t0 (wk t1 (wk t2 xS))):=(qw h0 (qw h1 (qw h2 sT g2) g1) g0)
abbrev v0:=@Oq 0
abbrev Y1:=@Oq 1
abbrev Y2:=@Oq 2
abbrev Y3:=@Oq 3
abbrev v5:=@Oq 5
abbrev v4:=@Oq 4
abbrev v6:=@Oq 6
abbrev v7:=@Oq 7
abbrev v8:=@Oq 8
abbrev v9:=@Oq 9
abbrev WC:=@Oq 10
variable {P:Pg}{w:Wo}{K:qJ}{mg:QQZ}{base:No}
def fq{st:ZB}{sp:rQ}(F:DG K st x qual ps fa)(S:tW N ps (qB st)) (hb:∀{Yv:Vl} {A:Ar} {outer:T0 Env} {s:Sd} {H:Hp} {E:XK},sJ k (A.deeper (xL qual (qB st) s.heap.objs.size fa.f Yv))->(A.deeper (xL qual (qB st) s.heap.objs.size fa.f Yv)).units+9<XXa->
   ∃t,HY (vQ Pa P w K mg base N qual (qB st) fa.f Yv A outer s H E).oV (sE st) t/\∀ds M Q,sp ds M Q->t {nx:=λ_ M'=>∃Yo,qH Yo M'/\Q .mY Yo,rt:=λd M'=>∃Yo,qH Yo M'/\Q d Yo} (xw N ds) M) (len:∀ds M Q,sp ds M Q->ds.length=ps.length:=by walk_at "l"):Fq P w K mg base (k+1) fa sp:=Xx F S len λ_ _ _ _ _ _ h=>hb h (XO h)
def xV{X:Cx}(h:Jk X.env.scope X.N scope ix N'=Db:=by kernel_rfl):sW X scope ix N':=UZ h
end L3
namespace Z
section
open L2 L3
def rJ(i:Nat):ZB:=PySem.Challenge.pw_callboard_k68_what_if.main.body.getD i (.Pass ⟨0,0,0,0⟩)
abbrev tm(i j:Nat):ZB:=Pi (rJ i) j
def AV:Sc 1 ["answers"] (rJ 1):=sk
def HQ:Sc 2 ["call","word"] (rJ 3):=sk
def D3:Sc 2 ["call","phone"] (rJ 4):=sk
def x8:Sc 2 ["call","event","word"] (rJ 5):=sk
def xO:Sc 1 ["call","lists"] (rJ 7):=sk
def Cg:Sc 1 ["board","calls"] (rJ 8):=sk
def Dj:Sc 3 ["board","caller","target","wishes"] (rJ 14):=sk
def uh:Sc 3 ["board","caller","target","free","members","place","in_turn"] (rJ 15):=sk
def vF:Sc 3 ["board","caller","target","phones"] (rJ 16):=sk
def AK:Sc 2 ["wanted","target"] (rJ 17):=sk
def w9:Sc 4 ["board","caller","target","way","come_to","steps","fits","wanted"] (rJ 18):=sk
def zH:Sc 2 ["board","phone"] (rJ 20):=sk
def xi:Sc 3 ["board","phone","target","word"] (rJ 21):=sk
def MZ:Sc 3 ["word","phone","calls"] (rJ 22):=sk
def uy:Sc 4 ["board","word","phone","numbers","calls","due"] (rJ 23):=sk
def zx:Sc 3 ["board","word","number"] (rJ 24):=sk
def CU:Sc 2 ["board","deed","word"] (rJ 25):=sk
def uC:Sc 3 ["board","number","steps","last","target","fits"] (rJ 26):=sk
def vh:Sc 4 ["board","number","target","phones","members","place"] (rJ 27):=sk
def yh:Sc 3 ["board","number","target","talk","members"] (rJ 28):=sk
def yf:Sc 3 ["board","number","end","word"] (rJ 29):=sk
def xk:Sc 2 ["board","number","call","told","end","steps","last"] (rJ 30):=sk
def AF:Sc 3 ["board","phone","target","number"] (rJ 31):=sk
def Dm:Sc 3 ["board","phone","number","call"] (rJ 32):=sk
def yW:Sc 2 ["board","call","wishes"] (rJ 33):=sk
def Dw:Sc 3 ["board","number","fits","wish"] (rJ 34):=sk
def uu:Sc 1 ["board","number","call","fits"] (rJ 35):=sk
def uf:Sc 2 ["board","deed","word","phone","number","call","kept","others"] (rJ 36):=sk
def Me:Sc 2 ["board","deed","word"] (rJ 37):=sk
def Jx:Sc 2 ["board","deed","word","begun"] (rJ 38):=sk
def IV:Sc 3 ["board","caller","target"] (rJ 40):=sk
def Ds:Sc 1 ["told","word"] (rJ 51):=sk
def PJ:Sc 2 ["holds","words"] (rJ 66):=sk
def HZ:Sc 1 ["text"] (rJ 67):=sk
def DY:Sc 1 ["things"] (rJ 68):=sk
def Fg:Sc 3 ["chosen","known","most"] (rJ 69):=sk
def uJ:Sc 1 ["phones","name","lines","rank"] (rJ 70):=sk
def uG:Sc 2 ["groups","phone_names","name","manner","members"] (rJ 71):=sk
def DN:Sc 4 ["kind","part","phone_names","names"] (rJ 72):=sk
def uD:Sc 3 ["wish","phone_names","names","form","parts","kind","part"] (rJ 73):=sk
def vC:Sc 3 ["wishes","phone_names","names","on","wish"] (rJ 74):=sk
def wM:Sc 3 ["phones","groups","wishes","phone_names","names"] (rJ 75):=sk
def wj:Sc 2 ["plan","switched","on","wishes"] (rJ 78):=sk
def zB:Sc 2 ["board","deed"] (rJ 79):=sk
def vj:Sc 4 ["plan","hour","deeds","switched","board","other","places","place","deed"] (rJ 80):=sk
def K4:Sc 2 ["_law_script","_law_k"] (rJ 82):=sk
def G4:Sc 3 ["_law_cell","_law_factor","_law_many"] (rJ 83):=sk
def uO:Sc 2 ["_law_seed","_law_which","_law_letters","_law_size","_law_place","_law_rest","_law_sign"] (rJ 84):=sk
def yo:Sc 3 ["_law_row","_law_cell","_law_most","_law_first","_law_size"] (rJ 85):=sk
def vo:Sc 2 ["_law_seed","_law_most","_law_phones_here","_law_k","_law_lines"] (rJ 86):=sk
def vp:Sc 2 ["_law_seed","_law_own","_law_groups_here","_law_g","_law_manner"] (rJ 87):=sk
def ud:Sc 3 ["_law_cell","_law_own","_law_names","_law_a","_law_place","_law_b","_law_c","_law_pick","_law_first"] (rJ 88):=sk
def tw:Sc 2 ["_law_script","_law_most","_law_seed","_law_phones_here","_law_own","_law_groups_here","_law_names","_law_wishes","_law_k","_law_cell"] (rJ 89):=sk
def D8:Sc 1 ["_law_call"] (rJ 90):=sk
def BV:Sc 2 ["_law_board","_law_states"] (rJ 91):=sk
def se:Sc 4 ["_law_board","_law_cell","_law_word_here","_law_states","_law_some_here","_law_k","_law_people_here","_law_a","_law_m"] (rJ 92):=sk
def vf:Sc 4 ["_law_cell","_law_own","_law_names","_law_many","_law_a","_law_b","_law_k","_law_m","_law_some_here"] (rJ 93):=sk
def sj:Sc 4 ["_law_board","_law_cell","_law_own","_law_names","_law_word_here","_law_states","_law_found","_law_a"] (rJ 94):=sk
def GJ:Sc 1 ["_law_parts"] (rJ 95):=sk
def GE:Sc 1 ["_law_script"] (rJ 96):=sk
def wx:Sc 2 ["_law_board","_law_deed_here","_law_events"] (rJ 97):=sk
def GH:Sc 3 ["_law_board","_law_script","_law_k"] (rJ 98):=sk
def vn:Sc 2 ["_law_parts","_law_switched","_law_wishes","_law_i","_law_pair"] (rJ 100):=sk
def vU:Sc 1 ["_law_script","_law_parts","_law_switched","_law_one","_law_other","_law_deeds","_law_due","_law_k","_law_handed","_law_plan_here","_law_found"] (rJ 101):=sk
def DB:Sc 2 ["self","word"] (tm 12 0):=sk
def Ed:Sc 3 ["self","plan","hour"] (tm 6 0):=sk
def Fu:Sc 4 ["self","phones","groups","wishes"] (tm 76 0):=sk
def yT:Sc 1 ["self"] (tm 76 2):=sk
def D5:Sc 1 ["self"] (tm 76 1):=sk
def GR:Sc 2 ["self","told"] (tm 42 0):=sk
def FF:Sc 1 ["self"] (tm 41 1):=sk
def Ft:Sc 2 ["self","told"] (tm 43 0):=sk
def BI:Sc 2 ["self","told"] (tm 44 0):=sk
def DU:Sc 2 ["self","told"] (tm 46 0):=sk
def Cw:Sc 2 ["self","told"] (tm 48 0):=sk
def Fj:Sc 2 ["self","told"] (tm 49 0):=sk
def CD:Sc 2 ["self","told"] (tm 50 0):=sk
def AN:Sc 2 ["self","phone"] (tm 6 3):=sk
def yj:Sc 2 ["self","event","word"] (tm 6 12):=sk
def Gn:Sc 2 ["self","told"] (tm 41 0):=sk
def A0:Sc 2 ["self","phone"] (tm 6 2):=sk
def E2:Sc 2 ["self","caller"] (tm 2 0):=sk
def zK:Sc 2 ["self","phone"] (tm 2 2):=sk
def zo:Sc 2 ["self","phone"] (tm 2 5):=sk
def yQ:Sc 2 ["self","phone"] (tm 2 4):=sk
def A8:Sc 2 ["self","leg"] (tm 6 10):=sk
def yi:Sc 4 ["self","merged","kept","members","call"] (tm 6 11):=sk
def vP:Sc 1 ["self","call"] (tm 6 9):=sk
def zI:Sc 2 ["self","phone"] (tm 2 8):=sk
def C6:Sc 2 ["self","phone"] (tm 6 4):=sk
def AU:Sc 2 ["self","phone"] (tm 6 5):=sk
def Ee:Sc 2 ["self","phone"] (tm 6 1):=sk
def DT:Sc 2 ["self","phone"] (tm 76 3):=sk
def xG:Sc 2 ["self","phone"] (tm 2 7):=sk
def Eh:Sc 2 ["self","phone"] (tm 2 6):=sk
def CV:Sc 2 ["self","call"] (tm 41 4):=sk
def Bh:Sc 2 ["self","call"] (tm 48 2):=sk
def Ef:Sc 2 ["self","phone"] (tm 2 3):=sk
def GI:Sc 2 ["self","phone"] (tm 2 1):=sk
def F9:Sc 1 ["self"] (tm 42 1):=sk
def D7:Sc 1 ["self"] (tm 43 1):=sk
def Be:Sc 1 ["self"] (tm 44 1):=sk
def Ec:Sc 1 ["self"] (tm 49 1):=sk
def BF:Sc 1 ["self"] (tm 50 1):=sk
def Hr:Sc 4 ["self","board","caller","target"] (tm 42 2):=sk
def FJ:Sc 4 ["self","board","caller","target"] (tm 43 2):=sk
def Cz:Sc 4 ["self","board","caller","target"] (tm 45 0):=sk
def D0:Sc 4 ["self","board","caller","target"] (tm 46 2):=sk
def Gb:Sc 4 ["self","board","caller","target"] (tm 47 0):=sk
def CC:Sc 4 ["self","board","caller","target"] (tm 48 1):=sk
def Gh:Sc 4 ["self","board","caller","target"] (tm 49 2):=sk
def wc:Sc 4 ["self","board","caller","target","talk","members"] (tm 50 3):=sk
def CA:Sc 2 ["self","name"] (tm 76 6):=sk
def zQ:Sc 2 ["self","name"] (tm 76 5):=sk
def Ay:Sc 2 ["self","hour"] (tm 46 1):=sk
def zY:Sc 1 ["self"] (tm 6 8):=sk
def Aj:Sc 2 ["self","phone"] (tm 6 6):=sk
def vV:Sc 3 ["self","plan","members","rank"] (tm 50 2):=sk
def zS:Sc 3 ["self","caller","target"] (tm 6 7):=sk
def FH:Sc 2 ["self","phone"] (tm 76 4):=sk
noncomputable def Lx:T0 (Str×QQQ):=[("bar",["phone","names"]),("shut",["name","phones"]),("always",["name","name"]),("night",["name","name","hour","hour"]),("busy",["name","name"]),("silent",["name","name","turns"]),("wait",["phone"]),("breaks",["phone"])]
set_option genInjectivity false in
structure Ad where
 (R ag aW aX aY N aZ a0 a1 a2 a3 ah a4 a5 a6 a7 ai a8 a9 ba bb aj bc bd be bf bg bh bi F S bj m ak al T bk bl bm bn bo bp bq am an H i ao U br bs bt bu bv bw bx bz bA V O ap bB bC aq J L X P ar au l av B aw ax ay az Y k I Z aA aa aB ab bD bE bF aC bG bH bI bJ bK aD r aE bL bM aF aG A aH aI aJ aK aL aM aN aO aP aQ aR ac bN bO bP bQ aS aT:FA)
 (e c C t u ad x n y v w o h ca M:Uf)
structure Gl(K:qJ)(mg:QQZ)(a:Ad):Prop where
 e:CG K mg "Call" a.e
 c:CG K mg "Board" a.c
 C:CG K mg "Wish" a.C
 t:CG K mg "Bar" a.t
 u:CG K mg "Shut" a.u
 ad:CG K mg "Forward" a.ad
 x:CG K mg "Always" a.x
 n:CG K mg "Night" a.n
 y:CG K mg "Busy" a.y
 v:CG K mg "Silent" a.v
 w:CG K mg "Wait" a.w
 o:CG K mg "Breaks" a.o
 h:CG K mg "Plan" a.h
 cW:mg "CallError"=ga (.ref a.ca)
 bZ:mg "NoDeed"=ga (.ref a.M)
 R:TG K mg (rJ 1) "place_of_true" ["answers"] a.R
 ag:TG K mg (rJ 3) "end_call" ["call","word"] a.ag
 aW:TG K mg (rJ 4) "drop_phone" ["call","phone"] a.aW
 aX:TG K mg (rJ 5) "change_call" ["call","event"] a.aX
 aY:TG K mg (rJ 7) "call_picture" ["call"] a.aY
 N:TG K mg (rJ 8) "picture" ["board"] a.N
 aZ:TG K mg (rJ 14) "fitting" ["board","caller","target"] a.aZ
 a0:TG K mg (rJ 15) "rung_phones" ["board","caller","target"] a.a0
 a1:TG K mg (rJ 16) "end_without_wish" ["board","caller","target"] a.a1
 a2:TG K mg (rJ 17) "end_as_wanted" ["wanted","target"] a.a2
 a3:TG K mg (rJ 18) "route" ["board","caller","target","way"] a.a3
 ah:TG K mg (rJ 20) "word_for_idling" ["board","phone"] a.ah
 a4:TG K mg (rJ 21) "word_for_call" ["board","phone","target"] a.a4
 a5:TG K mg (rJ 22) "suits" ["word","phone","calls"] a.a5
 a6:TG K mg (rJ 23) "word_for_numbers" ["board","word","phone","numbers"] a.a6
 a7:TG K mg (rJ 24) "word_for_switch" ["board","word","number"] a.a7
 ai:TG K mg (rJ 25) "refusal" ["board","deed"] a.ai
 a8:TG K mg (rJ 26) "take_steps" ["board","number","steps"] a.a8
 a9:TG K mg (rJ 27) "start_ringing" ["board","number","target","phones"] a.a9
 ba:TG K mg (rJ 28) "break_in" ["board","number","target"] a.ba
 bb:TG K mg (rJ 29) "come_to_end" ["board","number","end"] a.bb
 aj:TG K mg (rJ 30) "go_on" ["board","number"] a.aj
 bc:TG K mg (rJ 31) "make_call" ["board","phone","target"] a.bc
 bd:TG K mg (rJ 32) "hang_up" ["board","phone","number"] a.bd
 be:TG K mg (rJ 33) "due_wishes" ["board","call"] a.be
 bf:TG K mg (rJ 34) "send_on" ["board","number","fits"] a.bf
 bg:TG K mg (rJ 35) "let_turn_pass" ["board"] a.bg
 bh:TG K mg (rJ 36) "event_of" ["board","deed"] a.bh
 bi:TG K mg (rJ 37) "act" ["board","deed"] a.bi
 F:TG K mg (rJ 38) "do" ["board","deed"] a.F
 S:TG K mg (rJ 40) "is_busy" ["board","caller","target"] a.S
 bj:TG K mg (rJ 51) "wish_of" ["told"] a.bj
 m:TG K mg (rJ 66) "need" ["holds","words"] a.m
 ak:TG K mg (rJ 67) "is_name" ["text"] a.ak
 al:TG K mg (rJ 68) "all_unlike" ["things"] a.al
 T:TG K mg (rJ 69) "is_choice" ["chosen","known","most"] a.T
 bk:TG K mg (rJ 70) "check_phones" ["phones"] a.bk
 bl:TG K mg (rJ 71) "check_groups" ["groups","phone_names"] a.bl
 bm:TG K mg (rJ 72) "part_holds" ["kind","part","phone_names","names"] a.bm
 bn:TG K mg (rJ 73) "check_wish" ["wish","phone_names","names"] a.bn
 bo:TG K mg (rJ 74) "check_wishes" ["wishes","phone_names","names"] a.bo
 bp:TG K mg (rJ 75) "check_plan" ["phones","groups","wishes"] a.bp
 bq:TG K mg (rJ 78) "turned_over" ["plan","switched"] a.bq
 am:TG K mg (rJ 79) "do_or_leave_out" ["board","deed"] a.am
 an:TG K mg (rJ 80) "what_if" ["plan","hour","deeds","switched"] a.an
 H:TG K mg (rJ 82) "_law_at" ["_law_script","_law_k"] a.H
 i:TG K mg (rJ 83) "_law_draw" ["_law_cell","_law_factor","_law_many"] a.i
 ao:TG K mg (rJ 84) "_law_word" ["_law_seed","_law_which"] a.ao
 U:TG K mg (rJ 85) "_law_some" ["_law_row","_law_cell","_law_most"] a.U
 br:TG K mg (rJ 86) "_law_phones" ["_law_seed","_law_most"] a.br
 bs:TG K mg (rJ 87) "_law_groups" ["_law_seed","_law_own"] a.bs
 bt:TG K mg (rJ 88) "_law_wish" ["_law_cell","_law_own","_law_names"] a.bt
 bu:TG K mg (rJ 89) "_law_plan" ["_law_script","_law_most"] a.bu
 bv:TG K mg (rJ 90) "_law_people" ["_law_call"] a.bv
 bw:TG K mg (rJ 91) "_law_of_state" ["_law_board","_law_states"] a.bw
 bx:TG K mg (rJ 92) "_law_on_call" ["_law_board","_law_cell","_law_word_here","_law_states"] a.bx
 bz:TG K mg (rJ 93) "_law_any" ["_law_cell","_law_own","_law_names","_law_many"] a.bz
 bA:TG K mg (rJ 94) "_law_deed" ["_law_board","_law_cell","_law_own","_law_names"] a.bA
 V:TG K mg (rJ 95) "_law_made" ["_law_parts"] a.V
 O:TG K mg (rJ 96) "_law_hour" ["_law_script"] a.O
 ap:TG K mg (rJ 97) "_law_done" ["_law_board","_law_deed_here"] a.ap
 bB:TG K mg (rJ 98) "_law_next" ["_law_board","_law_script","_law_k"] a.bB
 bC:TG K mg (rJ 100) "_law_turned" ["_law_parts","_law_switched"] a.bC
 aq:TG K mg (rJ 101) "law" ["_law_script"] a.aq
 J:MG K a.M (tm 12 0) "__init__" "NoDeed.__init__" ["self","word"] a.J
 L:MG K a.c (tm 6 0) "__init__" "Board.__init__" ["self","plan","hour"] a.L
 X:MG K a.h (tm 76 0) "__init__" "Plan.__init__" ["self","phones","groups","wishes"] a.X
 P:MG K a.h (tm 76 2) "phone_names" "Plan.phone_names" ["self"] a.P
 ar:MG K a.h (tm 76 1) "names" "Plan.names" ["self"] a.ar
 au:MG K a.t (tm 42 0) "__init__" "Bar.__init__" ["self","told"] a.au
 l:MG K a.C (tm 41 1) "told" "Wish.told" ["self"] a.l
 av:MG K a.u (tm 43 0) "__init__" "Shut.__init__" ["self","told"] a.av
 B:MG K a.ad (tm 44 0) "__init__" "Forward.__init__" ["self","told"] a.B
 aw:MG K a.n (tm 46 0) "__init__" "Night.__init__" ["self","told"] a.aw
 ax:MG K a.v (tm 48 0) "__init__" "Silent.__init__" ["self","told"] a.ax
 ay:MG K a.w (tm 49 0) "__init__" "Wait.__init__" ["self","told"] a.ay
 az:MG K a.o (tm 50 0) "__init__" "Breaks.__init__" ["self","told"] a.az
 Y:MG K a.c (tm 6 3) "talk_of" "Board.talk_of" ["self","phone"] a.Y
 k:MG K a.c (tm 6 12) "apply" "Board.apply" ["self","event"] a.k
 I:MG K a.C (tm 41 0) "__init__" "Wish.__init__" ["self","told"] a.I
 Z:MG K a.c (tm 6 2) "is_free" "Board.is_free" ["self","phone"] a.Z
 aA:MG K a.e (tm 2 0) "__init__" "Call.__init__" ["self","caller"] a.aA
 aa:MG K a.e (tm 2 2) "talks_with" "Call.talks_with" ["self","phone"] a.aa
 aB:MG K a.e (tm 2 5) "waits_with" "Call.waits_with" ["self","phone"] a.aB
 ab:MG K a.e (tm 2 4) "is_tried_by" "Call.is_tried_by" ["self","phone"] a.ab
 bD:MG K a.c (tm 6 10) "add_leg" "Board.add_leg" ["self","leg"] a.bD
 bE:MG K a.c (tm 6 11) "merge" "Board.merge" ["self","merged","kept","members"] a.bE
 bF:MG K a.c (tm 6 9) "pass_turn" "Board.pass_turn" ["self"] a.bF
 aC:MG K a.e (tm 2 8) "other_than" "Call.other_than" ["self","phone"] a.aC
 bG:MG K a.c (tm 6 4) "bound" "Board.bound" ["self","phone"] a.bG
 bH:MG K a.c (tm 6 5) "calling" "Board.calling" ["self","phone"] a.bH
 bI:MG K a.c (tm 6 1) "used" "Board.used" ["self","phone"] a.bI
 bJ:MG K a.h (tm 76 3) "lines" "Plan.lines" ["self","phone"] a.bJ
 bK:MG K a.e (tm 2 7) "can_be_left_by" "Call.can_be_left_by" ["self","phone"] a.bK
 aD:MG K a.e (tm 2 6) "pairs" "Call.pairs" ["self","phone"] a.aD
 r:MG K a.C (tm 41 4) "is_due" "Wish.is_due" ["self","call"] a.r
 aE:MG K a.v (tm 48 2) "is_due" "Silent.is_due" ["self","call"] a.aE
 bL:MG K a.e (tm 2 3) "binds" "Call.binds" ["self","phone"] a.bL
 bM:MG K a.e (tm 2 1) "has" "Call.has" ["self","phone"] a.bM
 aF:MG K a.t (tm 42 1) "wants" "Bar.wants" ["self"] a.aF
 aG:MG K a.u (tm 43 1) "wants" "Shut.wants" ["self"] a.aG
 A:MG K a.ad (tm 44 1) "wants" "Forward.wants" ["self"] a.A
 aH:MG K a.w (tm 49 1) "wants" "Wait.wants" ["self"] a.aH
 aI:MG K a.o (tm 50 1) "wants" "Breaks.wants" ["self"] a.aI
 aJ:MG K a.t (tm 42 2) "fits" "Bar.fits" ["self","board","caller","target"] a.aJ
 aK:MG K a.u (tm 43 2) "fits" "Shut.fits" ["self","board","caller","target"] a.aK
 aL:MG K a.x (tm 45 0) "fits" "Always.fits" ["self","board","caller","target"] a.aL
 aM:MG K a.n (tm 46 2) "fits" "Night.fits" ["self","board","caller","target"] a.aM
 aN:MG K a.y (tm 47 0) "fits" "Busy.fits" ["self","board","caller","target"] a.aN
 aO:MG K a.v (tm 48 1) "fits" "Silent.fits" ["self","board","caller","target"] a.aO
 aP:MG K a.w (tm 49 2) "fits" "Wait.fits" ["self","board","caller","target"] a.aP
 aQ:MG K a.o (tm 50 3) "fits" "Breaks.fits" ["self","board","caller","target"] a.aQ
 aR:MG K a.h (tm 76 6) "manner" "Plan.manner" ["self","name"] a.aR
 ac:MG K a.h (tm 76 5) "phones_of" "Plan.phones_of" ["self","name"] a.ac
 bN:MG K a.n (tm 46 1) "has_hour" "Night.has_hour" ["self","hour"] a.bN
 bO:MG K a.c (tm 6 8) "hour_now" "Board.hour_now" ["self"] a.bO
 bP:MG K a.c (tm 6 6) "waits_at" "Board.waits_at" ["self","phone"] a.bP
 bQ:MG K a.o (tm 50 2) "outranks" "Breaks.outranks" ["self","plan","members"] a.bQ
 aS:MG K a.c (tm 6 7) "ringable" "Board.ringable" ["self","caller","target"] a.aS
 aT:MG K a.h (tm 76 4) "rank" "Plan.rank" ["self","phone"] a.aT
 cb:JZ K a.M a.J.f
 cc:zC K a.M "word"
 cd:W.exmOne K (.ref a.M) (.ref a.M)=ga Db
 bR:Mk K a.c a.L.f
 b0:Mk K a.h a.X.f
 ce:Mk K a.t a.au.f
 cf:Mk K a.u a.av.f
 cg:Mk K a.x a.B.f
 ch:Mk K a.n a.aw.f
 ci:Mk K a.y a.B.f
 cj:Mk K a.v a.ax.f
 ck:Mk K a.w a.ay.f
 cl:Mk K a.o a.az.f
 cm:Mk K a.e a.aA.f
 cn:wn K a.t "told" a.l.f
 co:wn K a.u "told" a.l.f
 cp:wn K a.x "told" a.l.f
 cq:wn K a.n "told" a.l.f
 cr:wn K a.y "told" a.l.f
 cs:wn K a.v "told" a.l.f
 ct:wn K a.w "told" a.l.f
 cu:wn K a.o "told" a.l.f
 cv:wn K a.t "is_due" a.r.f
 cw:wn K a.u "is_due" a.r.f
 cx:wn K a.x "is_due" a.r.f
 cy:wn K a.n "is_due" a.r.f
 cz:wn K a.y "is_due" a.r.f
 cA:wn K a.w "is_due" a.r.f
 cB:wn K a.o "is_due" a.r.f
 cC:wn K a.x "wants" a.A.f
 cD:wn K a.n "wants" a.A.f
 cE:wn K a.y "wants" a.A.f
 cF:wn K a.v "wants" a.A.f
 aU:NC K a.C "__init__" a.I.f
 b1:NC K a.ad "__init__" a.B.f
 E:Ag K a.c ["plan","hour","turn","calls","legs","nexts","on","log"]
 ae:Ag K a.h ["phones","groups","wishes","on","phone_rows","group_rows"]
 bU:Ag K a.t ["form","phone","targets"]
 bV:Ag K a.u ["form","target","callers"]
 bW:Ag K a.x ["form","target","goal"]
 aV:Ag K a.n ["form","target","goal","first","last"]
 bX:Ag K a.y ["form","target","goal"]
 bS:Ag K a.v ["form","target","goal","turns"]
 b2:Ag K a.w ["form","phone"]
 b3:Ag K a.o ["form","phone"]
 j:Ag K a.e ["state","caller","way","at","members","holder","since","word"]
 cG:W.kitOne K (.type "list") (.type "list")=ga Db
 cH:W.kitOne K (.type "int") (.type "bool")=ga pc
 Q:mg "range"=Fa
 g:mg "len"=Fa
 b4:mg "min"=Fa
 q:mg "list"=Fa
 b5:mg "isinstance"=Fa
 b6:mg "any"=Fa
 cI:mg "bool"=Fa
 bY:mg "dict"=Fa
 af:mg "enumerate"=Fa
 z:mg "tuple"=Fa
 cJ:mg "sorted"=Fa
 b7:mg "zip"=Fa
 cK:mg "set"=Fa
 bT:mg "all"=Fa
 cL:KD K mg "MOST_PHONES" (.int 8)
 cM:KD K mg "MOST_LINES" (.int 3)
 cN:KD K mg "MOST_RANK" (.int 9)
 cO:KD K mg "MOST_GROUPS" (.int 3)
 cP:KD K mg "MANNERS" (.tup ((["all","turns"]:QQQ).map D.str))
 cQ:KD K mg "MOST_MEMBERS" (.int 4)
 cR:KD K mg "MOST_WISHES" (.int 16)
 cS:KD K mg "MOST_SIGNS" (.int 6)
 cT:KD K mg "LETTERS" (.str "abcdefghijklmnopqrstuvwxyz")
 b8:Nx K mg "FORMS" Lx
 b9:KD K mg "MOST_LISTED" (.int 6)
 cU:KD K mg "LAST_HOUR" (.int 23)
 cV:KD K mg "MOST_TURNS" (.int 9)
noncomputable def qM(c f m:Int):Int:=(c % 2147483647+5)*f % 2147483629 / 89 % m
def rL{c f m:Int}(h:0<m):0<=qM c f m:=eU _ (by lia)
def rg{c f m:Int}(h:0<m):qM c f m<m:=eP _ h
def J7:rQ:=λds M Q=>D4 λc f m=>ds=[.int c,.int f,.int m]/\0<m/\Q (.int (qM c f m)) M
noncomputable def vb:Str:="abcdefghijklmnopqrstuvwxyz"
noncomputable def uK(i:Int):Str:=⟨#[97+i.toNat]⟩
noncomputable def size(s:Int):Int:=1+s % 6
def u9(s:Int):Int:=s / 6 % size s
def ya(s v:Int):Str:=zA (uK (s / 36 % 26)) (u9 s)++uK ((s / 936+v) % 26)++zA (uK (s / 36 % 26)) (size s - 1 - u9 s)
def Qm:rQ:=λds M Q=>Cv λs v=>ds=[.int s,.int v]/\Q (.str (ya s v)) M
noncomputable def cell(ns:T0 Int)(i:Int):Int:=if 0<=i/\i<ns.length then ns.getD i.toNat 0 else 0
def VT:rQ:=λds M Q=>Cv λns i=>ds=[.rl (ns.map D.int),.int i]/\Q (.int (cell ns i)) M
def Hj(c:Int):0<size c:=by unfold size;have:=eU c (show(6:Int)≠0 by decide);lia
def KA(c:Int):size c<=6:=by unfold size;have:=eP c (show(0:Int)<6 by decide);lia
def GQ(i n:Int):(zA (uK i) n).length=n.toNat:=by show((List.replicate n.toNat (uK i).cps).foldl (·++·) #[]:Array Nat).size=n.toNat;rw[JW];show n.toNat*1=n.toNat;lia
def Bs:vb.length<=Ch:=by decide+kernel
variable {P:Pg}{w:Wo}{K:qJ}{mg:QQZ}{base:No}{a:Ad}(G:Gl K mg a)
def qW:Fq P w K mg base 1 a.i J7:=by
 refine fq G.i.toDG G4 (λr u=>⟨_,(pM (pU (qp (qp (qp (qp (qp (qp v0 pO) pO) Y1) pO) pO) Y2))),?_⟩)
 rintro ds M Q ⟨c,f,m,rfl,hm,q⟩
 refine⟨by decide,.inl ?_,by decide,⟨by decide,by decide⟩,hm,M,.refl,q⟩;have h1:0<=c % 2147483647:=eU _ (by decide);have h2:c % 2147483647<2147483647:=eP _ (by decide);exact⟨by lia,by lia⟩
def EG{i:Int}(h0:0<=i)(h1:i<26):wY vb.cps.toList i=ga (97+i.toNat):=by
 obtain⟨n,rfl⟩:=eG h0;have hn:n<26:=by lia
 have key:∀n:_root_.Fin 26,wY vb.cps.toList ((n.val:Nat):Int)=ga (97+n.val):=by decide+kernel
 exact key ⟨n,hn⟩
def Kh:Fq P w K mg base 1 a.ao Qm:=by
 refine fq G.ao.toDG uO (λr u=>⟨_,(pL (qc 2 uO pP)
 (pL (qc 3 uO (qp pO (qp v0 pO)))
 (pL (qc 4 uO (qp (qp v0 pO) Y3))
 (pL (qc 5 uO (pZ Y2 (qp (qp v0 pO) pO)))
 (pL (qc 6 uO (pZ Y2 (qp (qp (qp v0 pO) Y1) pO)))
 (pM (pU (qp (qp (qp v5 v4) v6) (qp v5 (qp (qp Y3 pO) v4)))))))))),?_⟩)
 rintro ds M Q ⟨c,v,rfl,q⟩
 have hs:=Hj c;have hs6:=KA c;have hp0:0<=u9 c:=eU _ (by lia);have Zy:u9 c<size c:=eP _ hs;have l1:=GQ (c / 36 % 26) (u9 c);have l2:=GQ (c / 36 % 26) (size c - 1 - u9 c);have hz:=dO;refine⟨by decide,⟨by decide,by decide⟩,hs,⟨by decide,by decide⟩,by decide,Bs,i' (EG (eU _ (by decide)) (eP _ (by decide))) ?_⟩;refine⟨⟨by decide,by decide⟩,by decide,Bs,i' (EG (eU _ (by decide)) (eP _ (by decide))) ?_⟩;refine⟨⟨?_,?_,?_⟩,?_,⟨?_,?_,?_⟩,?_,M,.refl,q⟩
 .show u9 c<4096;lia
 .show -4096<u9 c;lia
 .show(1:Nat)<4096;decide
 .show(zA (uK (c / 36 % 26)) (u9 c)).length+1<=Ch;lia
 .show size c - 1 - u9 c<4096;lia
 .show -4096<size c - 1 - u9 c;lia
 .show(1:Nat)<4096;decide
 .show(zA (uK (c / 36 % 26)) (u9 c)++uK ((c / 936+v) % 26)).length+(zA (uK (c / 36 % 26)) (size c - 1 - u9 c)).length<=Ch;rw[PySem.size_cat];have:(uK ((c / 936+v) % 26)).length=1:=rfl;lia
def El:Fq P w K mg base 1 a.H VT:=by
 refine fq G.H.toDG K4 (λr u=>⟨_,(pL (qh (G7 u pO Y1 (ql qR Z' G.g qO (qz v0)))
 (pM (pU (pZ v0 Y1)))
 qa)
 (pM (pU pO))),?_⟩)
 rintro ds M Q ⟨ns,i,rfl,q⟩
 refine qU (λh0=>?_) (λh0=>?_)
 .have h0:0<=i:=fQ h0;refine qU (λh1=>?_) (λh1=>?_)
  .have h1:i<((ns.map D.int).length:Int):=fQ h1;rw[cX]at h1;have hi:i.toNat<ns.length:=by lia
   have e:wY (ns.map D.int) i=ga (D.int (ns.getD i.toNat 0)):=by
    obtain⟨n,rfl⟩:=eG h0;have hn:n<ns.length:=by lia
    refine vK ?_;rw[dG,cZ hn];simp[hn]
   refine i' e ⟨M,.refl,?_⟩;have:cell ns i=ns.getD i.toNat 0:=by unfold cell;rw[dh ⟨h0,h1⟩]
   rw[<-this];exact q
  .have h1:¬i<((ns.map D.int).length:Int):=λz=>h1 (d4 z);rw[cX]at h1;refine⟨M,.refl,?_⟩;have:cell ns i=0:=by unfold cell;rw[df (λz=>h1 z.2)]
   rw[<-this];exact q
 .have h0:¬0<=i:=λz=>h0 (d4 z);refine⟨M,.refl,?_⟩;have:cell ns i=0:=by unfold cell;rw[df (λz=>h0 z.1)]
  rw[<-this];exact q
inductive Wi where
 | bar (x:Str) (ns:QQQ)|shut (x:Str) (ns:QQQ)|always (x y:Str)|night (x y:Str) (f l:Int)|busy (x y:Str)|silent (x y:Str) (n:Int)|wait (x:Str)|breaks (x:Str)
abbrev names(ns:QQQ):D:=.tup (ns.map D.str)
noncomputable def Wi.told:Wi->T0 D
 | .bar x ns=>[.str "bar",.str x,names ns]
 | .shut x ns=>[.str "shut",.str x,names ns]
 | .always x y=>[.str "always",.str x,.str y]
 | .night x y f l=>[.str "night",.str x,.str y,.int f,.int l]
 | .busy x y=>[.str "busy",.str x,.str y]
 | .silent x y n=>[.str "silent",.str x,.str y,.int n]
 | .wait x=>[.str "wait",.str x]
 | .breaks x=>[.str "breaks",.str x]
noncomputable def Wi.cls(a:Ad):Wi->Uf
 | .bar _ _=>a.t
 | .shut _ _=>a.u
 | .always _ _=>a.x
 | .night _ _ _ _=>a.n
 | .busy _ _=>a.y
 | .silent _ _ _=>a.v
 | .wait _=>a.w
 | .breaks _=>a.o
noncomputable def Wi.more:Wi->T0 (Str×D)
 | .bar x ns=>[("phone",.str x),("targets",names ns)]
 | .shut x ns=>[("target",.str x),("callers",names ns)]
 | .always x y=>[("target",.str x),("goal",.str y)]
 | .night x y f l=>[("target",.str x),("goal",.str y),("first",.int f),("last",.int l)]
 | .busy x y=>[("target",.str x),("goal",.str y)]
 | .silent x y n=>[("target",.str x),("goal",.str y),("turns",.int n)]
 | .wait x=>[("phone",.str x)]
 | .breaks x=>[("phone",.str x)]
noncomputable def Wi.nO(v:Wi):T0 (Str×D):=("form",.tup v.told)::v.more
abbrev Dz(ns:QQQ)(i:Int):Str:=ns.getD i.toNat Str.empty
def xR(row:QQQ)(c m:Int):Nat:=(1+qM c 40692 (if (row.length:Int)<m then(row.length:Int)else m)).toNat
def VB(row:QQQ)(c:Int)(j:Nat):Str:=Dz row ((qM c 69621 row.length+(0+(j:Nat))) % row.length)
def wH(row:QQQ)(c m:Int):QQQ:=(List.range (xR row c m)).map (VB row c)
def PL:rQ:=λds M Q=>B0 λr c m row=>ds=[.ref r,.int c,.int m]/\oU M r=ga (row.map D.str)/\row≠[]/\0<m/\row.length<=64/\Q (names (wH row c m)) M
def JR{row:QQQ}(h:row≠[])(x:Int):wY (row.map D.str) (x % row.length)=ga (D.str (Dz row (x % row.length))):=by
 have hl:0<row.length:=fB.mpr h;have h0:0<=x % row.length:=eU _ (by lia);have h1:x % row.length<row.length:=eP _ (by lia);obtain⟨n,hn⟩:=eG h0;rw[hn]at h1 ⊢;have hn':n<row.length:=by lia
 refine vK ?_;rw[dG,cZ hn'];simp[Dz,hn']
def yM:Fq P w K mg base 2 a.U PL:=by
 refine fq G.U.toDG yo (λr u=>⟨_,(pL (qc 3 yo (pW (qW G) r G.i (rP Y1 pO (ql qR Z' G.g qO (qz v0)))))
 (pL (qc 4 yo (qp pO (pW (qW G) r G.i (rP Y1 pO (ql (MA Z') Z' G.b4 NO (r6 Y2 (ql qR Z' G.g qO (qz v0))))))))
 (pM (pU (qr sY Z' G.z tq (qz (qT Z' (xV (ix:=[Fa,ga 0,ga 3]) (N':=["_law_j","_law_row","_law_first"])) (vO Z' G.Q (qz v4)) (qN 0) sf (pZ Y1 (qp (qp Y2 v0) (ql qR Z' G.g qO (qz Y1))))))))))),?_⟩)
 rintro ds M Q ⟨r,c,m,row,rfl,hl,YI,hm,h64,q⟩
 have Yp:0<row.length:=fB.mpr YI;have hz:=dO;have el:((row.map D.str).length:Int)=row.length:=by rw[cX]
 refine i' hl ⟨c,69621,_,Z',by rw[el];lia,?_⟩;refine i' hl ⟨c,40692,_,Z',by rw[el];split<;>lia,?_⟩;rw[el];have d0:=rL (c:=c) (f:=40692) (m:=if (row.length:Int)<m then(row.length:Int)else m) (by split<;>lia);have d1:=rg (c:=c) (f:=40692) (m:=if (row.length:Int)<m then(row.length:Int)else m) (by split<;>lia);have d2:qM c 40692 (if (row.length:Int)<m then(row.length:Int)else m)<row.length+1:=by refine Int.lt_of_lt_of_le d1 ?_;split<;>lia
 refine⟨Z',⟨?_,?_⟩,rN (f:=λd=>match d with|.int j=>D.str (Dz row ((qM c 69621 row.length+j) % row.length))|_=>.mY) trivial _ [] _ ?_ (λd hd k hk=>?_) λp hp=>?_⟩
 .show -(2 ^ 62)<=1+qM c 40692 (if (row.length:Int)<m then(row.length:Int)else m);lia
 .show 1+qM c 40692 (if (row.length:Int)<m then(row.length:Int)else m)<2 ^ 62;lia
 .rw[cX,eD];show 0+xR row c m<=Ch;unfold xR;lia
 .obtain⟨j,_,rfl⟩:=dF.mp hd;refine i' hl ⟨by rw[el];lia,i' hl ?_⟩;rw[el];exact i' (JR YI _) hk
 .refine i' (x:=(wH row c m).map D.str) ?_ ⟨M,.new hp,q⟩;unfold oU;rw[qg];show ga ([]++((List.range (xR row c m)).map λi=>D.int (0+(i:Nat))).map _)=_;rw[d9,eA];unfold wH;rw[eA];rfl
def xb(c:Int)(own all:QQQ):Wi:=
 let x:=Dz own (qM c 16807 own.length);let pl:=qM c 39373 all.length;let y:=Dz all pl;let z:=Dz all ((pl+1+qM c 742938285 ((all.length:Int) - 1)) % all.length);let k:=qM c 1226874159 12
 if k=0 then .bar x (wH all c 3)
 else if k=1 then .shut y (wH own c 3)
 else if k=2 then .always y z
 else if k<5 then .night y z (qM c 22695477 24) ((qM c 22695477 24+1+qM c 48271 23) % 24)
 else if k<7 then .busy y z
 else if k<9 then .silent y z ([1,1,2,3,9].getD (qM c 950706376 5).toNat 0)
 else if k=9 then .wait x
 else .breaks x
def Qq:rQ:=λds M Q=>GD λc o n own all=>ds=[.int c,.ref o,.ref n]/\oU M o=ga (own.map D.str)/\oU M n=ga (all.map D.str)/\own≠[]/\2<=all.length/\own.length<=64/\all.length<=64/\Q (.tup (xb c own all).told) M
def IH{row:QQQ}{x:Int}(h0:0<=x)(h1:x<row.length):wY (row.map D.str) x=ga (D.str (Dz row x)):=by
 obtain⟨n,rfl⟩:=eG h0;have hn':n<row.length:=by lia
 refine vK ?_;rw[dG,cZ hn'];simp[Dz,hn']
def Ru:Fq P w K mg base 3 a.bt Qq:=by
 refine fq G.bt.toDG ud (λr u=>⟨_,(pL (qc 3 ud (pZ Y1 (pW (qW G) r G.i (rP v0 pO (ql qR Z' G.g qO (qz Y1))))))
 (pL (qc 4 ud (pW (qW G) r G.i (rP v0 pO (ql qR Z' G.g qO (qz Y2)))))
 (pL (qc 5 ud (pZ Y2 v4))
 (pL (qc 6 ud (pZ Y2 (qp (qp (qp v4 pO) (pW (qW G) r G.i (rP v0 pO (qp (ql qR Z' G.g qO (qz Y2)) pO)))) (ql qR Z' G.g qO (qz Y2)))))
 (pL (qc 7 ud (pW (qW G) r G.i (rP v0 pO pO)))
 (pL (qh (pX u v7 pO)
 (pM (pU (qe (rP pP Y3 (pW (yM G) r G.U (rP Y2 v0 pO))))))
 qa)
 (pL (qh (pX u v7 pO)
 (pM (pU (qe (rP pP v5 (pW (yM G) r G.U (rP Y1 v0 pO))))))
 qa)
 (pL (qh (pX u v7 pO)
 (pM (pU (qe (rP pP v5 v6))))
 qa)
 (pL (qh (pX u v7 pO)
 (pL (qc 8 ud (pW (qW G) r G.i (rP v0 pO pO)))
 (pM (pU (qe (qw pP (qw v5 (rP v6 v8 (qp (qp (qp v8 pO) (pW (qW G) r G.i (rP v0 pO pO))) pO))))))))
 qa)
 (pL (qh (pX u v7 pO)
 (pM (pU (qe (rP pP v5 v6))))
 qa)
 (pL (qh (pX u v7 pO)
 (pM (pU (qe (qw pP (rP v5 v6 (pZ (qe (qw pO (qw pO (rP pO pO pO)))) (pW (qW G) r G.i (rP v0 pO pO))))))))
 qa)
 (pL (qh (pX u v7 pO)
 (pM (pU (qe (r6 pP Y3))))
 qa)
 (pM (pU (qe (r6 pP Y3)))))))))))))))),?_⟩)
 rintro ds M Q ⟨c,o,n,own,all,rfl,ho,hn,YI,h2,l1,l2,q⟩
 have Yp:0<own.length:=fB.mpr YI;have hne2:all≠[]:=λz=>by rw[z]at h2;simp at h2
 have e1:((own.map D.str).length:Int)=own.length:=by rw[cX]
 have e2:((all.map D.str).length:Int)=all.length:=by rw[cX]
 have p1:(0:Int)<own.length:=by lia
 have p2:(0:Int)<all.length:=by lia
 have p3:(0:Int)<(all.length:Int) - 1:=by lia
 refine i' ho ⟨c,_,_,Z',by rw[e1];exact p1,?_⟩;rw[e1];refine i' ho (i' (IH (rL p1) (rg p1)) ?_);refine i' hn ⟨c,_,_,Z',by rw[e2];exact p2,?_⟩;rw[e2];refine i' hn (i' (IH (rL p2) (rg p2)) ?_);refine i' hn ⟨c,_,_,Z',by rw[e2];exact p3,?_⟩;rw[e2];refine i' hn ⟨by rw[e2];exact p2,?_⟩;rw[e2];refine i' hn (i' (JR hne2 _) ?_);refine⟨c,_,_,Z',by decide,?_⟩;have Yn:∀t:T0 D,(xb c own all).told=t->∃Yo,qH Yo M/\Q (.tup t) Yo:=λt e=>⟨M,.refl,e ▸ q⟩;have k0:0<=qM c 1226874159 12:=rL (by decide);refine qU (λh=>?_) (λh=>?_)
 .have h:qM c 1226874159 12=0:=by simpa using h
  refine⟨n,c,3,all,Z',hn,hne2,by decide,l2,pJ Z',Yn _ ?_⟩;simp only[xb,dh h,Wi.told]
 have h:¬qM c 1226874159 12=0:=by simpa using h
 refine qU (λg=>?_) (λg=>?_)
 .have g:qM c 1226874159 12=1:=by simpa using g
  refine⟨o,c,3,own,Z',ho,YI,by decide,l1,pJ Z',Yn _ ?_⟩;simp only[xb,df h,dh g,Wi.told]
 have g:¬qM c 1226874159 12=1:=by simpa using g
 refine qU (λi=>?_) (λi=>?_)
 .have i:qM c 1226874159 12=2:=by simpa using i
  refine⟨pJ Z',Yn _ ?_⟩;simp only[xb,df h,df g,dh i,Wi.told]
 have i:¬qM c 1226874159 12=2:=by simpa using i
 refine qU (λj=>?_) (λj=>?_)
 .have j:qM c 1226874159 12<5:=fQ j;refine⟨c,_,_,Z',by decide,c,_,_,Z',by decide,by decide,pJ Z',Yn _ ?_⟩;simp only[xb,df h,df g,df i,dh j,Wi.told]
 have j:¬qM c 1226874159 12<5:=λz=>j (d4 z);refine qU (λl=>?_) (λl=>?_)
 .have l:qM c 1226874159 12<7:=fQ l;refine⟨pJ Z',Yn _ ?_⟩;simp only[xb,df h,df g,df i,df j,dh l,Wi.told]
 have l:¬qM c 1226874159 12<7:=λz=>l (d4 z);refine qU (λm=>?_) (λm=>?_)
 .have m:qM c 1226874159 12<9:=fQ m;have d0:0<=qM c 950706376 5:=rL (by decide);have d1:qM c 950706376 5<5:=rg (by decide);have e:wY [D.int 1,.int 1,.int 2,.int 3,.int 9] (qM c 950706376 5)=ga (D.int ([1,1,2,3,9].getD (qM c 950706376 5).toNat 0)):=by
   obtain⟨t,ht⟩:=eG d0;rw[ht]at d1 ⊢;have:t<5:=by lia
   match t,this with
   | 0,_=>rfl
   | 1,_=>rfl
   | 2,_=>rfl
   | 3,_=>rfl
   | 4,_=>rfl
  refine⟨pJ Z',c,_,_,Z',by decide,i' e ⟨pJ Z',Yn _ ?_⟩⟩;simp only[xb,df h,df g,df i,df j,df l,dh m,Wi.told]
 have m:¬qM c 1226874159 12<9:=λz=>m (d4 z);refine qU (λr=>?_) (λr=>?_)
 .have r:qM c 1226874159 12=9:=by simpa using r
  refine⟨pJ Z',Yn _ ?_⟩;simp only[xb,df h,df g,df i,df j,df l,df m,dh r,Wi.told]
 have r:¬qM c 1226874159 12=9:=by simpa using r
 refine⟨pJ Z',Yn _ ?_⟩;simp only[xb,df h,df g,df i,df j,df l,df m,df r,Wi.told]
def MT(K:qJ):rQ:=λds M Q=>D4 λp d C=>ds=[.ref p,d]/\M p=ga (.ins C [])/\uN K C "form"/\Q .mY (pT M p (.ins C [("form",d)]))
def Of(K:qJ):rQ:=λds M Q=>GD λp t x y C=>ds=[.ref p,.tup t]/\wY t 1=ga x/\wY t 2=ga y/\M p=ga (.ins C [])/\uN K C "form"/\uN K C "target"/\uN K C "goal"/\Q .mY (pT M p (.ins C [("form",.tup t),("target",x),("goal",y)]))
def yG(a:Ad)(k:Wi->Prop):rQ:=λds M Q=>Cv λp v=>ds=[.ref p,.tup (Wi.told v)]/\k v/\M p=ga (.ins (v.cls a) [])/\Q .mY (pT M p (.ins (v.cls a) v.nO))
def yA:Fq P w K mg base 1 a.I (MT K):=by
 refine fq G.I.toDG Gn (λr u=>⟨_,(pM (qA v0 Y1)),?_⟩)
 rintro ds M Q ⟨p,d,C,rfl,hp,na,q⟩
 exact pN hp ⟨na,by decide,_,.refl,q⟩
def Ac:Fq P w K mg base 2 a.B (Of K):=by
 refine fq G.B.toDG BI (λr u=>⟨_,(pL (qd (zu G.aU (yA G) r G.C G.I.toDG (r6 v0 Y1)))
 (pL (qA v0 (pZ Y1 pO))
 (pM (qA v0 (pZ Y1 pO))))),?_⟩)
 rintro ds M Q ⟨p,t,x,y,C,rfl,e1,e2,hp,n1,n2,n3,q⟩
 refine⟨p,_,C,Z',hp,n1,i' e1 (pN qg ⟨n2,by show 1<1000;decide,?_⟩)⟩;refine i' e2 (pN qg ⟨n3,by show 2<1000;decide,_,?_,q⟩);rw[sy,sy];exact .refl
def Ss:Fq P w K mg base 2 a.au (yG a λv=>∃x ns,v=.bar x ns):=by
 refine fq G.au.toDG GR (λr u=>⟨_,(pL (qd (zu G.aU (yA G) r G.C G.I.toDG (r6 v0 Y1)))
 (pL (qA v0 (pZ Y1 pO))
 (pM (qA v0 (pZ Y1 pO))))),?_⟩)
 rintro ds M Q ⟨p,v,rfl,⟨x,ns,rfl⟩,hp,q⟩
 refine⟨p,_,_,Z',hp,(G.bU "form" Z'),pN qg ⟨(G.bU "phone" Z'),by show 1<1000;decide,?_⟩⟩;refine pN qg ⟨(G.bU "targets" Z'),by show 2<1000;decide,_,?_,q⟩;rw[sy,sy];exact .refl
def QK:Fq P w K mg base 2 a.av (yG a λv=>∃x ns,v=.shut x ns):=by
 refine fq G.av.toDG Ft (λr u=>⟨_,(pL (qd (zu G.aU (yA G) r G.C G.I.toDG (r6 v0 Y1)))
 (pL (qA v0 (pZ Y1 pO))
 (pM (qA v0 (pZ Y1 pO))))),?_⟩)
 rintro ds M Q ⟨p,v,rfl,⟨x,ns,rfl⟩,hp,q⟩
 refine⟨p,_,_,Z',hp,(G.bV "form" Z'),pN qg ⟨(G.bV "target" Z'),by show 1<1000;decide,?_⟩⟩;refine pN qg ⟨(G.bV "callers" Z'),by show 2<1000;decide,_,?_,q⟩;rw[sy,sy];exact .refl
def Ny:Fq P w K mg base 3 a.aw (yG a λv=>∃x y f l,v=.night x y f l):=by
 refine fq G.aw.toDG DU (λr u=>⟨_,(pL (qd (zu G.b1 (Ac G) r G.ad G.B.toDG (r6 v0 Y1)))
 (pL (qA v0 (pZ Y1 pO))
 (pM (qA v0 (pZ Y1 pO))))),?_⟩)
 rintro ds M Q ⟨p,v,rfl,⟨x,y,f,l,rfl⟩,hp,q⟩
 refine⟨p,_,_,_,_,Z',Z',Z',hp,(G.aV "form" Z'),(G.aV "target" Z'),(G.aV "goal" Z'),pN qg ⟨(G.aV "first" Z'),by show 3<1000;decide,?_⟩⟩;refine pN qg ⟨(G.aV "last" Z'),by show 4<1000;decide,_,?_,q⟩;rw[sy,sy];exact .refl
def Lb:Fq P w K mg base 3 a.ax (yG a λv=>∃x y n,v=.silent x y n):=by
 refine fq G.ax.toDG Cw (λr u=>⟨_,(pL (qd (zu G.b1 (Ac G) r G.ad G.B.toDG (r6 v0 Y1)))
 (pM (qA v0 (pZ Y1 pO)))),?_⟩)
 rintro ds M Q ⟨p,v,rfl,⟨x,y,n,rfl⟩,hp,q⟩
 refine⟨p,_,_,_,_,Z',Z',Z',hp,(G.bS "form" Z'),(G.bS "target" Z'),(G.bS "goal" Z'),pN qg ⟨(G.bS "turns" Z'),by show 3<1000;decide,_,?_,q⟩⟩;rw[sy];exact .refl
def Qy:Fq P w K mg base 2 a.ay (yG a λv=>∃x,v=.wait x):=by
 refine fq G.ay.toDG Fj (λr u=>⟨_,(pL (qd (zu G.aU (yA G) r G.C G.I.toDG (r6 v0 Y1)))
 (pM (qA v0 (pZ Y1 pO)))),?_⟩)
 rintro ds M Q ⟨p,v,rfl,⟨x,rfl⟩,hp,q⟩
 refine⟨p,_,_,Z',hp,(G.b2 "form" Z'),pN qg ⟨(G.b2 "phone" Z'),by show 1<1000;decide,_,?_,q⟩⟩;rw[sy];exact .refl
def Li:Fq P w K mg base 2 a.az (yG a λv=>∃x,v=.breaks x):=by
 refine fq G.az.toDG CD (λr u=>⟨_,(pL (qd (zu G.aU (yA G) r G.C G.I.toDG (r6 v0 Y1)))
 (pM (qA v0 (pZ Y1 pO)))),?_⟩)
 rintro ds M Q ⟨p,v,rfl,⟨x,rfl⟩,hp,q⟩
 refine⟨p,_,_,Z',hp,(G.b3 "form" Z'),pN qg ⟨(G.b3 "phone" Z'),by show 1<1000;decide,_,?_,q⟩⟩;rw[sy];exact .refl
def IW(a:Ad):rQ:=λds M Q=>∃v:Wi,ds=[.tup v.told]/\∀p,M p=Fa->Q (.ref p) (pT M p (.ins (v.cls a) v.nO))
def KH(a:Ad):rQ:=λds M Q=>Cv λp (v:Wi)=>ds=[.ref p]/\M p=ga (.ins (v.cls a) v.nO)/\Q (.tup v.told) M
def Jc:rQ:=λds M Q=>∃p,ds=[.ref p]/\Q (.tup [.str "end"]) M
def NU:rQ:=λds M Q=>∃p,ds=[.ref p]/\Q (.tup [.str "break"]) M
def RV:rQ:=λds M Q=>B0 λp C fs y=>ds=[.ref p]/\M p=ga (.ins C fs)/\fs.lookup ("goal":Str)=ga y/\Q (.tup [.str "to",y]) M
def RI:rQ:=λds M Q=>B0 λp C fs y=>ds=[.ref p]/\M p=ga (.ins C fs)/\fs.lookup ("phone":Str)=ga y/\Q (.tup [.str "wait",y]) M
def Jg(a:Ad):Uf->rQ->Prop:=λC sp=>(∃v:Wi,C=v.cls a)/\sp=KH a
def Ko(a:Ad):Uf->rQ->Prop:=λC sp=>((C=a.t\/C=a.u)/\sp=Jc)\/((C=a.x\/C=a.n\/C=a.y\/C=a.v)/\sp=RV)\/(C=a.w/\sp=RI)\/(C=a.o/\sp=NU)
def Jn:Fq P w K mg base 5 a.bj (IW a):=by
 refine fq G.bj.toDG Ds (λr u=>⟨_,(pL (qc 1 Ds (pZ v0 pO))
 (pL (qh (pX u Y1 pP)
 (pM (pU (uL (Ss G) r G.t G.ce G.au.toDG (qz v0))))
 qa)
 (pL (qh (pX u Y1 pP)
 (pM (pU (uL (QK G) r G.u G.cf G.av.toDG (qz v0))))
 qa)
 (pL (qh (pX u Y1 pP)
 (pM (pU (uL (Ac G) r G.x G.cg G.B.toDG (qz v0))))
 qa)
 (pL (qh (pX u Y1 pP)
 (pM (pU (uL (Ny G) r G.n G.ch G.aw.toDG (qz v0))))
 qa)
 (pL (qh (pX u Y1 pP)
 (pM (pU (uL (Ac G) r G.y G.ci G.B.toDG (qz v0))))
 qa)
 (pL (qh (pX u Y1 pP)
 (pM (pU (uL (Lb G) r G.v G.cj G.ax.toDG (qz v0))))
 qa)
 (pL (qh (pX u Y1 pP)
 (pM (pU (uL (Qy G) r G.w G.ck G.ay.toDG (qz v0))))
 qa)
 (pL (qh (pX u Y1 pP)
 (pM (pU (uL (Li G) r G.o G.cl G.az.toDG (qz v0))))
 qa)
 (pM HP)))))))))),?_⟩)
 rintro ds M Q ⟨v,rfl,q⟩
 have Yn:∀(x:Uf) (c0 c1:uU) (C:Uf) (fs:T0 (Str×D)),M x=Fa->Q (.ref x) (pT M x c1)->∃Yo,qH Yo (pT (pT M x c0) x c1)/\Q (.ref x) Yo:=λx c0 c1 C fs hx q=>⟨_,by rw[sy];exact .refl,q⟩;cases v with
 | bar x ns=>exact λp hp=>⟨p,.bar x ns,Z',⟨_,_,Z'⟩,qg,Z',Yn p _ _ 0 [] hp (q p hp)⟩
 | shut x ns=>exact λp hp=>⟨p,.shut x ns,Z',⟨_,_,Z'⟩,qg,Z',Yn p _ _ 0 [] hp (q p hp)⟩
 | always x y=>exact λp hp=>⟨p,_,_,_,_,Z',Z',Z',qg,(G.bW "form" Z'),(G.bW "target" Z'),(G.bW "goal" Z'),Z',Yn p _ _ 0 [] hp (q p hp)⟩
 | night x y f l=>exact λp hp=>⟨p,.night x y f l,Z',⟨_,_,_,_,Z'⟩,qg,Z',Yn p _ _ 0 [] hp (q p hp)⟩
 | busy x y=>exact λp hp=>⟨p,_,_,_,_,Z',Z',Z',qg,(G.bX "form" Z'),(G.bX "target" Z'),(G.bX "goal" Z'),Z',Yn p _ _ 0 [] hp (q p hp)⟩
 | silent x y n=>exact λp hp=>⟨p,.silent x y n,Z',⟨_,_,_,Z'⟩,qg,Z',Yn p _ _ 0 [] hp (q p hp)⟩
 | wait x=>exact λp hp=>⟨p,.wait x,Z',⟨_,Z'⟩,qg,Z',Yn p _ _ 0 [] hp (q p hp)⟩
 | breaks x=>exact λp hp=>⟨p,.breaks x,Z',⟨_,Z'⟩,qg,Z',Yn p _ _ 0 [] hp (q p hp)⟩
def Qw:Fq P w K mg base 1 a.l (KH a):=by
 refine fq G.l.toDG FF (λr u=>⟨_,(pM (pU (pR v0))),?_⟩)
 rintro ds M Q ⟨p,v,rfl,hp,q⟩
 exact pN hp (i' Z' ⟨M,.refl,q⟩)
def QD:Fq P w K mg base 1 a.aF Jc:=by
 refine fq G.aF.toDG F9 (λr u=>⟨_,(pM (pU (qe (qz pP)))),?_⟩)
 rintro ds M Q ⟨p,rfl,q⟩
 exact⟨pJ Z',M,.refl,q⟩
def Nf:Fq P w K mg base 1 a.aG Jc:=by
 refine fq G.aG.toDG D7 (λr u=>⟨_,(pM (pU (qe (qz pP)))),?_⟩)
 rintro ds M Q ⟨p,rfl,q⟩
 exact⟨pJ Z',M,.refl,q⟩
def wG:Fq P w K mg base 1 a.A RV:=by
 refine fq G.A.toDG Be (λr u=>⟨_,(pM (pU (qe (r6 pP (pR v0))))),?_⟩)
 rintro ds M Q ⟨p,C,fs,y,rfl,hp,e,q⟩
 exact pN hp (i' e ⟨pJ Z',M,.refl,q⟩)
def Mz:Fq P w K mg base 1 a.aH RI:=by
 refine fq G.aH.toDG Ec (λr u=>⟨_,(pM (pU (qe (r6 pP (pR v0))))),?_⟩)
 rintro ds M Q ⟨p,C,fs,y,rfl,hp,e,q⟩
 exact pN hp (i' e ⟨pJ Z',M,.refl,q⟩)
def IY:Fq P w K mg base 1 a.aI NU:=by
 refine fq G.aI.toDG BF (λr u=>⟨_,(pM (pU (qe (qz pP)))),?_⟩)
 rintro ds M Q ⟨p,rfl,q⟩
 exact⟨pJ Z',M,.refl,q⟩
def OQ:∀C sp,Jg a C sp->yc P w K mg base 1 "told" C (O9 K sp):=by
 rintro C sp ⟨⟨v,rfl⟩,rfl⟩
 have F:=Qw (P:=P) (w:=w) (base:=base) G;cases v with
 | bar _ _=>exact⟨G.t.toCls,_,_,_,G.cn,F,G.l.b⟩
 | shut _ _=>exact⟨G.u.toCls,_,_,_,G.co,F,G.l.b⟩
 | always _ _=>exact⟨G.x.toCls,_,_,_,G.cp,F,G.l.b⟩
 | night _ _ _ _=>exact⟨G.n.toCls,_,_,_,G.cq,F,G.l.b⟩
 | busy _ _=>exact⟨G.y.toCls,_,_,_,G.cr,F,G.l.b⟩
 | silent _ _ _=>exact⟨G.v.toCls,_,_,_,G.cs,F,G.l.b⟩
 | wait _=>exact⟨G.w.toCls,_,_,_,G.ct,F,G.l.b⟩
 | breaks _=>exact⟨G.o.toCls,_,_,_,G.cu,F,G.l.b⟩
def PX:∀C sp,Ko a C sp->yc P w K mg base 1 "wants" C (O9 K sp):=by
 rintro C sp (⟨rfl|rfl,rfl⟩|⟨rfl|rfl|rfl|rfl,rfl⟩|⟨rfl,rfl⟩|⟨rfl,rfl⟩)
 .exact⟨G.t.toCls,_,_,_,G.aF.nF,QD G,G.aF.b⟩
 .exact⟨G.u.toCls,_,_,_,G.aG.nF,Nf G,G.aG.b⟩
 .exact⟨G.x.toCls,_,_,_,G.cC,wG G,G.A.b⟩
 .exact⟨G.n.toCls,_,_,_,G.cD,wG G,G.A.b⟩
 .exact⟨G.y.toCls,_,_,_,G.cE,wG G,G.A.b⟩
 .exact⟨G.v.toCls,_,_,_,G.cF,wG G,G.A.b⟩
 .exact⟨G.w.toCls,_,_,_,G.aH.nF,Mz G,G.aH.b⟩
 .exact⟨G.o.toCls,_,_,_,G.aI.nF,IY G,G.aI.b⟩
def uR(x:Str):Bool:=decide ((1:Int)<=x.length)&&(decide ((x.length:Int)<=6)&&x.cps.toList.all λc=>DX ⟨#[c]⟩ vb)
def IU:rQ:=λds M Q=>∃x:Str,ds=[.str x]/\x.length<=1000/\Q (.bl (uR x)) M
def J3:rQ:=λds M Q=>∃w,ds=[.bl Db,w]/\Q .mY M
noncomputable def xM(ss:QQQ):Bool:=((tS ss).length:Int)==(ss.length:Int)
def SD(M:Mp)(x:D)(ss:QQQ):Prop:=x=.tup (ss.map D.str)\/∃a,x=.ref a/\oU M a=ga (ss.map D.str)
def KQ:rQ:=λds M Q=>Cv λx ss=>ds=[x]/\SD M x ss/\ss.length<4000/\Q (.bl (xM ss)) M
def zW{α:Type}(f:α->Bool)(l:List α):(l.map f).all id=l.all f:=by rw[jc];rfl
def tF(x:Str)(ss:QQQ):inD (.str x) (ss.map D.str)=ss.any (·==x):=by unfold inD;rw[iG];rfl
theorem qP:∀ss:QQQ,(ss.map D.str).all vt=Db
 | []=>rfl
 | _::r=>by rw[d6,fv,qP r];rfl
def tD(cs ks:QQQ)(m:Int):Bool:=decide ((1:Int)<=cs.length)&&(decide ((cs.length:Int)<=m)&&(xM cs&&cs.all λc=>ks.any (·==c)))
def Lz:rQ:=λds M Q=>B0 λcs ks k m=>ds=[.tup (cs.map D.str),.ref k,.int m]/\oU M k=ga (ks.map D.str)/\cs.length<4000/\Q (.bl (tD cs ks m)) M
def CW:Fq P w K mg base 1 a.ak IU:=by
 refine fq G.ak.toDG HZ (λr u=>⟨_,(pM (pU (uc (uW u pO (ql qR Z' G.g qO (qz v0)) (tJ Z' G.cS)) (tP (ql (Fl Z') Z' G.bT FL (qz (qT Z' (xV (ix:=[Fa]) (N':=["sign"])) (ra v0) (qN 0) sf (qE u v0 (tJ Z' G.cT))))))))),?_⟩)
 rintro ds M Q ⟨x,rfl,hl,q⟩
 have hz:=dO;refine⟨by lia,qU (λh1=>?_) (λh1=>?_)⟩
 .refine qU (λh2=>?_) (λh2=>?_)
  .refine rN (f:=λd=>match d with|.str z=>D.bl (DX z vb)|_=>.mY) trivial _ [] _ ?_ (λd hd k hk=>?_) λp hp=>?_
   .rw[cX];have:x.cps.toList.length=x.length:=by simp[Str.length]
    simp only[dN];lia
   .obtain⟨c,_,rfl⟩:=dF.mp hd;exact hk
   .refine i' pS ?_;have e:([]++(x.cps.toList.map λc=>D.str ⟨#[c]⟩).map λd=>match d with|.str z=>D.bl (DX z vb)|_=>.mY)=x.cps.toList.map λc=>D.bl (DX ⟨#[c]⟩ vb):=by rw[d9,eA];rfl
    rw[e];refine i' (xF (λc=>DX ⟨#[c]⟩ vb) x.cps.toList) ⟨M,.new hp,?_⟩;rw[zW];have:uR x=x.cps.toList.all λc=>DX ⟨#[c]⟩ vb:=by unfold uR;rw[h1,h2];rfl
    rw[<-this];exact q
  .refine⟨M,.refl,?_⟩;have:uR x=pc:=by
    unfold uR;have h2:decide ((x.length:Int)<=6)=pc:=by simpa using h2
    rw[h2];simp
   rw[<-this];exact q
 .refine⟨M,.refl,?_⟩;have:uR x=pc:=by
   unfold uR;have h1:decide ((1:Int)<=x.length)=pc:=by simpa using h1
   rw[h1];rfl
  rw[<-this];exact q
def tN:Fq P w K mg base 1 a.m J3:=by
 refine fq G.m.toDG PJ (λr u=>⟨_,(pM (qh (yb (vE v0))
 (pM HP)
 qa)),?_⟩)
 rintro ds M Q ⟨x,rfl,q⟩
 exact⟨M,.refl,q⟩
def Er:Fq P w K mg base 1 a.al KQ:=by
 refine fq G.al.toDG DY (λr u=>⟨_,(pM (pU (qE u (KW Z' v0 Z' G.g Z' G.cK qO Sv) (ql qR Z' G.g qO (qz v0))))),?_⟩)
 rintro ds M Q ⟨x,ss,rfl,hx,hl,q⟩
 have key:((ss.map D.str).length:Int)=ss.length:=by rw[cX]
 rcases hx with rfl|⟨b,rfl,hb⟩
 .refine i' (L3.DE ss) ⟨hl,M,.refl,?_⟩;rw[key];exact q
 .refine i' hb (i' (L3.DE ss) ⟨hl,i' hb ⟨M,.refl,?_⟩⟩);rw[key];exact q
def Bf:Fq P w K mg base 2 a.T Lz:=by
 refine fq G.T.toDG Fg (λr u=>⟨_,(pM (pU (uc (uW u pO (ql qR Z' G.g qO (qz v0)) Y2) (uc (pW (Er G) r G.al (qz v0)) (tP (ql (Fl Z') Z' G.bT FL (qz (qT Z' (xV (ix:=[Fa,ga 1]) (N':=["name","known"])) (ra v0) (qN 0) sf (qE u v0 Y1))))))))),?_⟩)
 rintro ds M Q ⟨cs,ks,k,m,rfl,hk,hl,q⟩
 have hz:=dO;have key:((cs.map D.str).length:Int)=cs.length:=by rw[cX]
 have end_:∀b:Bool,tD cs ks m=b->∃Yo,qH Yo M/\Q (.bl b) Yo:=λb e=>⟨M,.refl,e ▸ q⟩;refine qU (λh1=>?_) (λh1=>?_)
 .have h1:decide ((1:Int)<=cs.length)=Db:=by rw[<-key];exact h1
  refine qU (λh2=>?_) (λh2=>?_)
  .have h2:decide ((cs.length:Int)<=m)=Db:=by rw[<-key];exact h2
   refine⟨_,cs,Z',.inl Z',hl,qU (λh3=>?_) (λh3=>?_)⟩
   .refine rN (f:=λd=>match d with|.str z=>D.bl (ks.any (·==z))|_=>.mY) trivial _ [] _ ?_ (λd hd k0 hk0=>?_) λp hp=>?_
    .rw[cX];simp only[dN];lia
    .obtain⟨c,_,rfl⟩:=dF.mp hd;refine i' hk ⟨Z',qP ks,?_⟩;show k0 (.bl (inD (.str c) (ks.map D.str))) M;rw[tF];exact hk0
    .refine i' pS ?_;have e:([]++(cs.map D.str).map λd=>match d with|.str z=>D.bl (ks.any (·==z))|_=>.mY)=cs.map λc=>D.bl (ks.any (·==c)):=by rw[d9,eA];rfl
     rw[e];refine i' (xF (λc=>ks.any (·==c)) cs) ⟨M,.new hp,?_⟩;rw[zW];have:tD cs ks m=cs.all λc=>ks.any (·==c):=by unfold tD;rw[h1,h2,h3];rfl
     rw[<-this];exact q
   .refine end_ _ ?_;unfold tD;have h3:xM cs=pc:=by simpa using h3
    rw[h3];simp
  .refine end_ _ ?_;unfold tD;have h2:decide ((cs.length:Int)<=m)=pc:=by
    rw[<-key]
    simpa using h2
   rw[h2];simp
 .refine end_ _ ?_;unfold tD;have h1:decide ((1:Int)<=cs.length)=pc:=by
   rw[<-key]
   simpa using h1
  rw[h1];rfl
abbrev vk:=Str×Int×Int
abbrev uY:=Str×Str×QQQ
abbrev uQ:=Bool×Wi
noncomputable def qZ(p:vk):D:=.tup [.str p.1,.int p.2.1,.int p.2.2]
noncomputable def rF(g:uY):D:=.tup [.str g.1,.str g.2.1,names g.2.2]
noncomputable def sZ(w:uQ):D:=.tup [.bl w.1,.tup w.2.told]
structure Gv(p:vk):Prop where
 len:p.1.length<=1000
 nm:uR p.1=Db
 l1:1<=p.2.1
 l2:p.2.1<=3
 r1:0<=p.2.2
 r2:p.2.2<=9
structure FV(pn:QQQ)(g:uY):Prop where
 len:g.1.length<=1000
 nm:uR g.1=Db
 man:g.2.1="all"\/g.2.1="turns"
 pJ:g.2.2.length<4000
 mem:tD g.2.2 pn 4=Db
def yt(ss:QQQ)(x:Str):Prop:=ss.any (·==x)=Db
def C8(pn nm:QQQ):Wi->Prop
 | .bar x ns=>yt pn x/\ns.length<4000/\tD ns nm 6=Db
 | .shut x ns=>yt nm x/\ns.length<4000/\tD ns pn 6=Db
 | .always x y=>yt nm x/\yt nm y/\x≠y
 | .night x y f l=>yt nm x/\yt nm y/\x≠y/\(0<=f/\f<=23)/\(0<=l/\l<=23)/\f≠l
 | .busy x y=>yt nm x/\yt nm y/\x≠y
 | .silent x y n=>yt nm x/\yt nm y/\x≠y/\1<=n/\n<=9
 | .wait x=>yt pn x
 | .breaks x=>yt pn x
inductive x9(pn nm:QQQ):Str->D->Prop
 | nA (x:Str) (h:yt pn x):x9 pn nm "phone" (.str x)
 | name (x:Str) (h:yt nm x):x9 pn nm "name" (.str x)
 | mV (cs:QQQ) (l:cs.length<4000) (h:tD cs pn 6=Db):x9 pn nm "phones" (names cs)
 | names (cs:QQQ) (l:cs.length<4000) (h:tD cs nm 6=Db):x9 pn nm "names" (names cs)
 | hour (i:Int) (h0:0<=i) (h1:i<=23):x9 pn nm "hour" (.int i)
 | turns (i:Int) (h0:1<=i) (h1:i<=9):x9 pn nm "turns" (.int i)
def JO:rQ:=λds M Q=>Kg λk d pl nl (pn nm:QQQ)=>ds=[.str k,d,.ref pl,.ref nl]/\oU M pl=ga (pn.map D.str)/\oU M nl=ga (nm.map D.str)/\x9 pn nm k d/\Q (.bl Db) M
def BL:rQ:=λds M Q=>Cv λr (ps:List vk)=>ds=[.ref r]/\oU M r=ga (ps.map qZ)/\1<=ps.length/\ps.length<=8/\(∀p∈ps,Gv p)/\Q .mY M
def BD:rQ:=λds M Q=>B0 λr (gs:List uY) pl (pn:QQQ)=>ds=[.ref r,.ref pl]/\oU M r=ga (gs.map rF)/\oU M pl=ga (pn.map D.str)/\gs.length<=3/\(∀g∈gs,FV pn g)/\Q .mY M
def Ei:rQ:=λds M Q=>GD λv pl nl (pn nm:QQQ)=>ds=[.tup (Wi.told v),.ref pl,.ref nl]/\oU M pl=ga (pn.map D.str)/\oU M nl=ga (nm.map D.str)/\C8 pn nm v/\Q .mY M
def BA:rQ:=λds M Q=>Kg λr (ws:List uQ) pl nl (pn nm:QQQ)=>ds=[.ref r,.ref pl,.ref nl]/\oU M r=ga (ws.map sZ)/\oU M pl=ga (pn.map D.str)/\oU M nl=ga (nm.map D.str)/\ws.length<=16/\(∀w∈ws,C8 pn nm w.2)/\Q .mY M
def X0(h:yt ss x):inD (.str x) (ss.map D.str)=Db:=by rw[tF];exact h
def Qf:Fq P w K mg base 3 a.bm JO:=by
 refine fq G.bm.toDG DN (λr u=>⟨_,(pL (qh (pX u v0 pP)
 (pM (pU (qE u Y1 Y2)))
 qa)
 (pL (qh (pX u v0 pP)
 (pM (pU (qE u Y1 Y3)))
 qa)
 (pL (qh (pX u v0 pP)
 (pM (pU (pW (Bf G) r G.T (rP Y1 Y2 (tJ Z' G.b9)))))
 qa)
 (pL (qh (pX u v0 pP)
 (pM (pU (pW (Bf G) r G.T (rP Y1 Y3 (tJ Z' G.b9)))))
 qa)
 (pL (qh (pX u v0 pP)
 (pM (pU (uW u pO Y1 (tJ Z' G.cU))))
 qa)
 (pM (pU (uW u pO Y1 (tJ Z' G.cV))))))))),?_⟩)
 rintro ds M Q ⟨k,d,pl,nl,pn,nm,rfl,hp,hn,ok,q⟩
 cases ok with
 | nA x h=>refine i' hp ⟨Z',qP pn,M,.refl,?_⟩;show Q (.bl (inD (.str x) (pn.map D.str))) M;rw[X0 h];exact q
 | name x h=>refine i' hn ⟨Z',qP nm,M,.refl,?_⟩;show Q (.bl (inD (.str x) (nm.map D.str))) M;rw[X0 h];exact q
 | mV cs l h=>exact⟨cs,pn,pl,6,Z',hp,l,M,.refl,by rw[h];exact q⟩
 | names cs l h=>exact⟨cs,nm,nl,6,Z',hn,l,M,.refl,by rw[h];exact q⟩
 | hour i h0 h1=>refine BG (c:=decide (0<=i)) (d4 h0) ⟨M,.refl,?_⟩;show Q (.bl (decide (i<=23))) M;rw[d4 h1];exact q
 | turns i h0 h1=>refine BG (c:=decide (1<=i)) (d4 h0) ⟨M,.refl,?_⟩;show Q (.bl (decide (i<=9))) M;rw[d4 h1];exact q
def BH:Fq P w K mg base 2 a.bk BL:=by
 refine fq G.bk.toDG uJ (λr u=>⟨_,(pL (qd (pW (tN G) r G.m (r6 (uW u pO (ql qR Z' G.g qO (qz v0)) (tJ Z' G.cL)) pP)))
 (pM (vg fi Z' (ra v0) (uV (n:=3) Z' (qK (sL 1 uJ) (qK (sL 2 uJ) (qK (sL 3 uJ) tZ))))
 (pL (qd (pW (tN G) r G.m (r6 (pW (CW G) r G.ak (qz Y1)) pP)))
 (pL (qd (pW (tN G) r G.m (r6 (uW u pO Y2 (tJ Z' G.cM)) pP)))
 (pM (qd (pW (tN G) r G.m (r6 (uW u pO Y3 (tJ Z' G.cN)) pP))))))))),?_⟩)
 rintro ds M Q ⟨r,ps,rfl,Y5,h1,h8,m9,q⟩
 have el:((ps.map qZ).length:Int)=ps.length:=by rw[cX]
 refine i' Y5 (BG (c:=decide ((1:Int)<=(ps.map qZ).length)) (d4 (by lia)) ⟨_,by rw[d4 (show((ps.map qZ).length:Int)<=8 by lia)],i' Y5 ?_⟩);refine B8 (λU M'=>M=M'/\∃x y z,U=[ga (.ref r),x,y,z]) (λU M' j=>by rw[<-j.1];exact Y5) _ _ _ ⟨Z',Fa,Fa,Fa,Z'⟩ ?_ ?_
 .rintro d hd U M' ⟨rfl,x,y,z,rfl⟩ nx Yr
  obtain⟨p,hp,rfl⟩:=dF.mp hd;have o:=m9 p hp;refine⟨Z',⟨p.1,Z',o.len,_,by rw[o.nm],?_⟩⟩;refine BG (c:=decide ((1:Int)<=p.2.1)) (d4 o.l1) ⟨_,by rw[d4 (show p.2.1<=3 from o.l2)],?_⟩;refine BG (c:=decide ((0:Int)<=p.2.2)) (d4 o.r1) ⟨_,by rw[d4 (show p.2.2<=9 from o.r2)],?_⟩;exact Yr _ _ ⟨Z',_,_,_,Z'⟩
 .rintro U M' ⟨rfl,x,y,z,rfl⟩
  exact⟨M,.refl,q⟩
def BK:Fq P w K mg base 3 a.bl BD:=by
 refine fq G.bl.toDG uG (λr u=>⟨_,(pL (qd (pW (tN G) r G.m (r6 (qE u (ql qR Z' G.g qO (qz v0)) (tJ Z' G.cO)) pP)))
 (pM (vg fi Z' (ra v0) (uV (n:=3) Z' (qK (sL 2 uG) (qK (sL 3 uG) (qK (sL 4 uG) tZ))))
 (pL (qd (pW (tN G) r G.m (r6 (pW (CW G) r G.ak (qz Y2)) pP)))
 (pL (qd (pW (tN G) r G.m (r6 (qE u Y3 (tJ Z' G.cP)) pP)))
 (pM (qd (pW (tN G) r G.m (r6 (pW (Bf G) r G.T (rP v4 Y1 (tJ Z' G.cQ))) pP))))))))),?_⟩)
 rintro ds M Q ⟨r,gs,pl,pn,rfl,Y5,hp,h3,m9,q⟩
 have el:((gs.map rF).length:Int)=gs.length:=by rw[cX]
 refine i' Y5 ⟨_,by rw[d4 (show((gs.map rF).length:Int)<=3 by lia)],i' Y5 ?_⟩;refine B8 (λU M'=>M=M'/\∃x y z,U=[ga (.ref r),ga (.ref pl),x,y,z]) (λU M' j=>by rw[<-j.1];exact Y5) _ _ _ ⟨Z',Fa,Fa,Fa,Z'⟩ ?_ ?_
 .rintro d hd U M' ⟨rfl,x,y,z,rfl⟩ nx Yr
  obtain⟨g,hg,rfl⟩:=dF.mp hd;have o:=m9 g hg;refine⟨Z',⟨g.1,Z',o.len,_,by rw[o.nm],?_⟩⟩;have hm:inD (.str g.2.1) [.str "all",.str "turns"]=Db:=by rcases o.man with e|e<;>(rw[e];rfl)
  refine⟨Z',Z',.str "a group's manner is all or turns",eR (λb=>[D.bl b,D.str "a group's manner is all or turns"]) hm,?_⟩;refine⟨g.2.2,pn,pl,4,Z',hp,o.pJ,_,by rw[o.mem],?_⟩;exact Yr _ _ ⟨Z',_,_,_,Z'⟩
 .rintro U M' ⟨rfl,x,y,z,rfl⟩
  exact⟨M,.refl,q⟩
def D9:Fq P w K mg base 4 a.bn Ei:=by
 refine fq G.bn.toDG uD (λr u=>⟨_,(pL (qd (pW (tN G) r G.m (r6 (MR G.b8 Z' (pZ v0 pO)) pP)))
 (pL (qc 3 uD (Lv G.b8 Z' (pZ v0 pO)))
 (pL (qc 4 uD (tH v0 (ur pO) uk))
 (pL (qd (pW (tN G) r G.m (r6 (qE u (ql qR Z' G.g qO (qz v4)) (ql qR Z' G.g qO (qz Y3))) pP)))
 (pL (vg fi Z' (Uj Z' G.b7 (r6 Y3 v4)) (uV (n:=2) Z' (qK (sL 5 uD) (qK (sL 6 uD) tZ)))
 (pM (qd (pW (tN G) r G.m (r6 (pW (Qf G) r G.bm (qw v5 (rP v6 Y1 Y2))) pP)))))
 (pL (qh (pX u (tH Y3 uk (ur pO)) (qe (r6 pP pP)))
 (pM (qd (pW (tN G) r G.m (r6 (qE u (pZ v4 pO) (pZ v4 pO)) pP))))
 qa)
 (pM (qh (pX u (tH Y3 (ur pO) uk) (qe (r6 pP pP)))
 (pM (qd (pW (tN G) r G.m (r6 (qE u (pZ v4 pO) (pZ v4 pO)) pP))))
 qa)))))))),?_⟩)
 rintro ds M Q ⟨v,pl,nl,pn,nm,rfl,hp,hn,ok,q⟩
 have part:∀{k:Str} {d:D} {C:DK},x9 pn nm k d->C (.bl Db) M->JO [.str k,d,.ref pl,.ref nl] M C:=λo c=>⟨_,_,pl,nl,pn,nm,Z',hp,hn,o,c⟩;have need:∀{x:D} {C:DK},C .mY M->J3 [.bl Db,x] M C:=λc=>⟨_,Z',c⟩;have ne:∀{x y:Str},x≠y->(!(x==y))=Db:=λh=>by simpa using h
 have nei:∀{x y:Int},x≠y->(!(x==y))=Db:=λh=>by simpa using h
 have Yn:∃Yo,qH Yo M/\Q .mY Yo:=⟨M,.refl,q⟩;cases v with
 | bar x ns=>obtain⟨h1,h2,h3⟩:=ok;refine⟨_,Z',_,Z',?_⟩;refine⟨Z',_,_,pl,nl,pn,nm,Z',hp,hn,.nA x h1,_,Z',trivial,⟨Z',_,_,pl,nl,pn,nm,Z',hp,hn,.names ns h2 h3,_,Z',trivial,?_⟩⟩;exact⟨pJ Z',pJ Z',Yn⟩
 | shut x ns=>obtain⟨h1,h2,h3⟩:=ok;refine⟨_,Z',_,Z',?_⟩;refine⟨Z',_,_,pl,nl,pn,nm,Z',hp,hn,.name x h1,_,Z',trivial,⟨Z',_,_,pl,nl,pn,nm,Z',hp,hn,.mV ns h2 h3,_,Z',trivial,?_⟩⟩;exact⟨pJ Z',pJ Z',Yn⟩
 | always x y=>obtain⟨h1,h2,h3⟩:=ok;refine⟨_,Z',_,Z',?_⟩;refine⟨Z',_,_,pl,nl,pn,nm,Z',hp,hn,.name x h1,_,Z',trivial,⟨Z',_,_,pl,nl,pn,nm,Z',hp,hn,.name y h2,_,Z',trivial,?_⟩⟩;refine⟨pJ Z',⟨_,by rw[ne h3],?_⟩⟩;exact⟨pJ Z',Yn⟩
 | night x y f l=>obtain⟨h1,h2,h3,h4,h5,h6⟩:=ok;refine⟨_,Z',_,Z',?_⟩;refine⟨Z',_,_,pl,nl,pn,nm,Z',hp,hn,.name x h1,_,Z',trivial,⟨Z',_,_,pl,nl,pn,nm,Z',hp,hn,.name y h2,_,Z',trivial,⟨Z',_,_,pl,nl,pn,nm,Z',hp,hn,.hour f h4.1 h4.2,_,Z',trivial,⟨Z',_,_,pl,nl,pn,nm,Z',hp,hn,.hour l h5.1 h5.2,_,Z',trivial,?_⟩⟩⟩⟩;refine⟨pJ Z',⟨_,by rw[ne h3],?_⟩⟩;refine⟨pJ Z',⟨_,by rw[nei h6],?_⟩⟩;exact Yn
 | busy x y=>obtain⟨h1,h2,h3⟩:=ok;refine⟨_,Z',_,Z',?_⟩;refine⟨Z',_,_,pl,nl,pn,nm,Z',hp,hn,.name x h1,_,Z',trivial,⟨Z',_,_,pl,nl,pn,nm,Z',hp,hn,.name y h2,_,Z',trivial,?_⟩⟩;refine⟨pJ Z',⟨_,by rw[ne h3],?_⟩⟩;exact⟨pJ Z',Yn⟩
 | silent x y n=>obtain⟨h1,h2,h3,h4,h5⟩:=ok;refine⟨_,Z',_,Z',?_⟩;refine⟨Z',_,_,pl,nl,pn,nm,Z',hp,hn,.name x h1,_,Z',trivial,⟨Z',_,_,pl,nl,pn,nm,Z',hp,hn,.name y h2,_,Z',trivial,⟨Z',_,_,pl,nl,pn,nm,Z',hp,hn,.turns n h4 h5,_,Z',trivial,?_⟩⟩⟩;refine⟨pJ Z',⟨_,by rw[ne h3],?_⟩⟩;exact⟨pJ Z',Yn⟩
 | wait x=>refine⟨_,Z',_,Z',?_⟩;refine⟨Z',_,_,pl,nl,pn,nm,Z',hp,hn,.nA x ok,_,Z',trivial,?_⟩;exact⟨pJ Z',pJ Z',Yn⟩
 | breaks x=>refine⟨_,Z',_,Z',?_⟩;refine⟨Z',_,_,pl,nl,pn,nm,Z',hp,hn,.nA x ok,_,Z',trivial,?_⟩;exact⟨pJ Z',pJ Z',Yn⟩
def BU:Fq P w K mg base 5 a.bo BA:=by
 refine fq G.bo.toDG vC (λr u=>⟨_,(pL (qd (pW (tN G) r G.m (r6 (qE u (ql qR Z' G.g qO (qz v0)) (tJ Z' G.cR)) pP)))
 (pM (vg fi Z' (ra v0) (uV (n:=2) Z' (qK (sL 3 vC) (qK (sL 4 vC) tZ)))
 (pM (qd (pW (D9 G) r G.bn (rP v4 Y1 Y2))))))),?_⟩)
 rintro ds M Q ⟨r,ws,pl,nl,pn,nm,rfl,Y5,hp,hn,h16,m9,q⟩
 have el:((ws.map sZ).length:Int)=ws.length:=by rw[cX]
 refine i' Y5 ⟨_,by rw[d4 (show((ws.map sZ).length:Int)<=16 by lia)],i' Y5 ?_⟩;refine B8 (λU M'=>M=M'/\∃x y,U=[ga (.ref r),ga (.ref pl),ga (.ref nl),x,y]) (λU M' j=>by rw[<-j.1];exact Y5) _ _ _ ⟨Z',Fa,Fa,Z'⟩ ?_ ?_
 .rintro d hd U M' ⟨rfl,x,y,rfl⟩ nx Yr
  obtain⟨v,hv,rfl⟩:=dF.mp hd;exact⟨Z',⟨v.2,pl,nl,pn,nm,Z',hp,hn,m9 v hv,Yr _ _ ⟨Z',_,_,Z'⟩⟩⟩
 .rintro U M' ⟨rfl,x,y,rfl⟩
  exact⟨M,.refl,q⟩
structure pV where
 mV:List vk
 groups:List uY
 mT:List uQ
noncomputable def pV.pn(l:pV):QQQ:=l.mV.map (·.1)
noncomputable def pV.gn(l:pV):QQQ:=l.groups.map (·.1)
noncomputable def pV.nm(l:pV):QQQ:=l.pn++l.gn
structure rb(l:pV):Prop where
 p1:1<=l.mV.length
 p8:l.mV.length<=8
 po:∀p∈l.mV,Gv p
 g3:l.groups.length<=3
 go:∀g∈l.groups,FV l.pn g
 nd:l.nm.Nodup
 oZ:l.mT.length<=16
 wo:∀w∈l.mT,C8 l.pn l.nm w.2
def En{ss:QQQ}(h:ss.Nodup):xM ss=Db:=by unfold xM;rw[Jw ss h];simp
def DQ:rQ:=λds M Q=>B0 λr1 r2 r3 (l:pV)=>ds=[.ref r1,.ref r2,.ref r3]/\oU M r1=ga (l.mV.map qZ)/\oU M r2=ga (l.groups.map rF)/\oU M r3=ga (l.mT.map sZ)/\rb l/\Q .mY M
noncomputable def BR:D->D
 | .tup (x::_)=>x
 | _=>.mY
def zg(ps:List vk):(ps.map qZ).map BR=(ps.map (·.1)).map D.str:=by rw[eA,eA];rfl
def zm(ps:List uY):(ps.map rF).map BR=(ps.map (·.1)).map D.str:=by rw[eA,eA];rfl
def DZ:Fq P w K mg base 6 a.bp DQ:=by
 refine fq G.bp.toDG wM (λr u=>⟨_,(pL (qd (pW (BH G) r G.bk (qz v0)))
 (pL (uM (i:=3) wM.nd Z' (Or.inl Z') Z' (xV (ix:=[Fa]) (N':=["phone"])) (ra v0) (qN 0) sf (pZ v0 pO))
 (pL (qd (pW (BK G) r G.bl (r6 Y1 Y3)))
 (pL (qc 4 wM (qp Y3 (qT Z' (xV (ix:=[Fa]) (N':=["group"])) (ra Y1) (qN 0) sf (pZ v0 pO))))
 (pL (qd (pW (tN G) r G.m (r6 (pW (Er G) r G.al (qz v4)) pP)))
 (pM (qd (pW (BU G) r G.bo (rP Y2 Y3 v4))))))))),?_⟩)
 rintro ds M Q ⟨r1,r2,r3,l,rfl,h1,h2,h3,ok,q⟩
 have hz:=dO;have l1:=ok.p8;have l2:=ok.g3;refine⟨r1,l.mV,Z',h1,ok.p1,ok.p8,ok.po,i' h1 ?_⟩;refine rN (f:=BR) h1 _ [] _ (by rw[cX];simp only[dN];lia) (λd hd k hk=>?_) λp hp=>?_
 .obtain⟨x,_,rfl⟩:=dF.mp hd;exact hk
 rw[d9,zg];have s1:=qH.new (c:=.lst ((l.mV.map (·.1)).map D.str)) hp;have lp:oU (pT M p (.lst ((l.mV.map (·.1)).map D.str))) p=ga (l.pn.map D.str):=pS;generalize pT M p (.lst ((l.mV.map (·.1)).map D.str))=M1 at s1 lp ⊢;refine⟨r2,l.groups,p,l.pn,Z',s1.lst h2,lp,ok.g3,ok.go,?_⟩;refine i' (s1.lst h2) (rN (f:=BR) (s1.lst h2) _ [] _ (by rw[cX];simp only[dN];lia) (λd hd k hk=>?_) λp2 Yw=>?_)
 .obtain⟨x,_,rfl⟩:=dF.mp hd;exact hk
 rw[d9,zm];have s2:=qH.new (c:=.lst ((l.groups.map (·.1)).map D.str)) Yw;refine i' (s2.lst lp) (i' pS ⟨?_,λp3 hp3=>?_⟩)
 .rw[cX,cX,cX];show(l.mV.map (·.1)).length+_<=_;rw[cX];lia
 have en:l.pn.map D.str++(l.groups.map (·.1)).map D.str=l.nm.map D.str:=by unfold pV.nm;rw[dP];rfl
 rw[en];have s3:=s2.trans (qH.new (c:=.lst (l.nm.map D.str)) hp3);have l3:=@pS (pT M1 p2 (.lst ((l.groups.map (·.1)).map D.str))) p3 (l.nm.map D.str);generalize pT (pT M1 p2 (.lst ((l.groups.map (·.1)).map D.str))) p3 (.lst (l.nm.map D.str))=M3 at s3 l3 ⊢;have ln:l.nm.length<4000:=by unfold pV.nm pV.pn pV.gn;rw[c9,cX,cX];lia
 refine⟨_,l.nm,Z',.inr ⟨p3,Z',l3⟩,ln,_,by rw[En ok.nd],?_⟩;exact⟨r3,l.mT,p,p3,l.pn,l.nm,Z',s3.lst (s1.lst h3),s3.lst lp,l3,ok.oZ,ok.wo,M,s1.trans s3,q⟩
noncomputable def RS(ph gr ws on pr gd:Uf):T0 (Str×D):=[("phones",.ref ph),("groups",.ref gr),("wishes",.ref ws),("on",.ref on),("phone_rows",.ref pr),("group_rows",.ref gd)]
def Sx(l:pV):T0 (rM×D):=l.mV.map λp=>(Sum.inr p.1,qZ p)
def I0(l:pV):T0 (rM×D):=l.groups.map λg=>(Sum.inr g.1,rF g)
def tM(a:Ad)(M:Mp)(rs:QXQ)(ws:List uQ):Prop:=rs.length=ws.length/\∀(i:Nat) (r:Uf) (v:uQ),rs[i]?=ga r->ws[i]?=ga v->M r=ga (.ins (v.2.cls a) v.2.nO)
def rT(a:Ad)(M:Mp)(p:Uf)(l:pV):Prop:=Th λph gr ws on pr gd (rs:QXQ)=>M p=ga (.ins a.h (RS ph gr ws on pr gd))/\oU M ph=ga (l.mV.map qZ)/\oU M gr=ga (l.groups.map rF)/\
 oU M ws=ga (rs.map D.ref)/\oU M on=ga (l.mT.map λw=>D.bl w.1)/\zX M pr=ga (Sx l)/\zX M gd=ga (I0 l)/\tM a M rs l.mT
def tM.keep{p:Uf}(h:tM a M rs ws)(k:sI p M M')(n:∀r∈rs,r≠p):tM a M' rs ws:=⟨h.1,λi r v e1 e2=>k r _ (n r (ft e1)) (h.2 i r v e1 e2)⟩
def tM.sub(h:tM a M rs ws)(k:qH M M'):tM a M' rs ws:=⟨h.1,λi r v e1 e2=>k r _ (h.2 i r v e1 e2)⟩
def rT.sub{p:Uf}(h:rT a M p l)(s:qH M M'):rT a M' p l:=by obtain⟨ph,gr,ws,on,pr,gd,rs,h1,h2,h3,h4,h5,h6,h7,h8⟩:=h;exact⟨ph,gr,ws,on,pr,gd,rs,s _ _ h1,s.lst h2,s.lst h3,s.lst h4,s.lst h5,s.dk h6,s.dk h7,h8.sub s⟩
def PY(a:Ad):rQ:=λds M Q=>GD λp r1 r2 r3 (l:pV)=>ds=[.ref p,.ref r1,.ref r2,.ref r3]/\M p=ga (.ins a.h [])/\oU M r1=ga (l.mV.map qZ)/\oU M r2=ga (l.groups.map rF)/\oU M r3=ga (l.mT.map sZ)/\rb l/\
 ∀M',sI p M M'->rT a M' p l->(∀Yo,(∀b c,(b=p\/M b=Fa)->M' b=ga c->Yo b=ga c)->rT a Yo p l)->Q .mY M'
def sr{p x:Uf}{c:uU}(k:sI p M N)(hp:N p=ga c)(h:N x=Fa):M x=Fa:=by
 cases e:M x with
 | none=>rfl
 | some d=>
  have n:x≠p:=λz=>by rw[z,hp]at h;cases h
  rw[k x d n e]at h;cases h
def yN{a:Uf}{es:T0 (rM×D)}(h:zX M a=ga es):M a=ga (.dk es):=by
 unfold zX at h;split at h
 .rename_i e;rw[e];cases h;rfl
 .cases h
theorem xN{α:Type}(f:α->Str)(g:α->D):∀l:List α,xE (l.map λx=>D.tup [.str (f x),g x])=ga (l.map λx=>(Sum.inr (f x),g x))
 | []=>rfl
 | x::r=>by show(xE (r.map λx=>D.tup [.str (f x),g x])).map ((Sum.inr (f x),g x)::·)=_;rw[xN f g r];rfl
def LQ{ss:QQQ}(h:ss.Nodup):(ss.map λx=>(Sum.inr x:rM)).Nodup:=by
 induction ss with
 | nil=>exact eM
 | cons x r ih=>obtain⟨h1,h2⟩:=dW.mp h;rw[d6];refine dW.mpr ⟨λz=>h1 ?_,ih h2⟩;obtain⟨y,hy,e⟩:=dF.mp z;cases e;exact hy
def zi{α:Type}{f:α->Str}{g:α->D}{l:List α}(h:(l.map f).Nodup):((l.map λx=>((Sum.inr (f x):rM),g x)).map (·.1)).Nodup:=by rw[eA];have:=LQ h;rw[eA]at this;exact this
def B7(d:D):D:=.tup [BR d,d]
noncomputable def XN:D->D
 | .tup (x::_)=>x
 | _=>.mY
def UD(ws:List uQ):(ws.map sZ).map XN=ws.map λw=>D.bl w.1:=by rw[eA];rfl
def HX(ps:List vk):(ps.map qZ).map B7=ps.map λp=>D.tup [.str p.1,qZ p]:=by rw[eA];rfl
def Hg(ps:List uY):(ps.map rF).map B7=ps.map λp=>D.tup [.str p.1,rF p]:=by rw[eA];rfl
def tM.snoc{r:Uf}{v:uQ}(h:tM a M rs ws)(n:M r=Fa):tM a (pT M r (.ins (v.2.cls a) v.2.nO)) (rs++[r]) (ws++[v]):=by
 refine⟨by rw[c9,c9,h.1];rfl,λi r' v' e1 e2=>?_⟩;by_cases hi:i<rs.length
 .rw[e9 hi]at e1;rw[e9 (by rw[<-h.1];exact hi)]at e2;have:=h.2 i r' v' e1 e2;rw[uH (Q7 this n)];exact this
 .have ZY:i=rs.length:=by have:=(de.mp e1).1;rw[c9,dI]at this;lia
  subst ZY;rw[eY (dw _)]at e1;rw[h.1,eY (dw _)]at e2;simp only[ib,iO,jA]at e1 e2;subst e1 e2;exact qg
def J2:Fq P w K mg base 7 a.X (PY a):=by
 refine fq G.X.toDG Fu (λr u=>⟨_,(pL (qd (pW (DZ G) r G.bp (rP Y1 Y2 Y3)))
 (pL (qA v0 (qr s8 Z' G.q sO (qz Y1)))
 (pL (qA v0 (qr s8 Z' G.q sO (qz Y2)))
 (pL (qA v0 (qT Z' (xV (ix:=[Fa,Fa]) (N':=["on","wish"])) (ra Y3) (uV (n:=2) Z' (qK (qN 0) (qK (qN 1) tZ))) sf (pW (Jn G) r G.bj (qz Y1))))
 (pL (qA v0 (qT Z' (xV (ix:=[Fa,Fa]) (N':=["on","wish"])) (ra Y3) (uV (n:=2) Z' (qK (qN 0) (qK (qN 1) tZ))) sf v0))
 (pL (qA v0 (qr (FI Z') Z' G.bY Gk (qz (qT Z' (xV (ix:=[Fa]) (N':=["phone"])) (ra Y1) (qN 0) sf (qe (r6 (pZ v0 pO) v0))))))
 (pM (qA v0 (qr (FI Z') Z' G.bY Gk (qz (qT Z' (xV (ix:=[Fa]) (N':=["group"])) (ra Y2) (qN 0) sf (qe (r6 (pZ v0 pO) v0))))))))))))),?_⟩)
 rintro ds M Q ⟨p,r1,r2,r3,l,rfl,hp,h1,h2,h3,ok,q⟩
 have hz:=dO;have l1:=ok.p8;have l2:=ok.g3;have l3:=ok.oZ;refine⟨r1,r2,r3,l,Z',h1,h2,h3,ok,?_⟩;refine i' h1 λph hph=>?_;obtain⟨n1,e1,k1,c1,p1⟩:=tX (fs':=[("phones",.ref ph)]) (c:=.lst (l.mV.map qZ)) hp hph;refine pN e1 ⟨(G.ae "phones" Z'),by show 0<1000;decide,?_⟩;show vc _ _ _ _ (pT (pT M ph (.lst (l.mV.map qZ))) p (.ins a.h [("phones",.ref ph)]));generalize pT (pT M ph (.lst (l.mV.map qZ))) p (.ins a.h [("phones",.ref ph)])=N1 at k1 c1 p1 ⊢;have Y4:=k1.lst (qo h1 hp) h1;have h2':=k1.lst (qo h2 hp) h2;have h3':=k1.lst (qo h3 hp) h3;have f1:oU N1 ph=ga (l.mV.map qZ):=sd c1;refine i' h2' λgr hgr=>?_;obtain⟨n2,e2,k2,c2,p2⟩:=tX (fs':=[("phones",.ref ph),("groups",.ref gr)]) (c:=.lst (l.groups.map rF)) p1 hgr;refine pN e2 ⟨(G.ae "groups" Z'),by show 1<1000;decide,?_⟩;show vc _ _ _ _ (pT (pT N1 gr (.lst (l.groups.map rF))) p (.ins a.h [("phones",.ref ph),("groups",.ref gr)]));generalize pT (pT N1 gr (.lst (l.groups.map rF))) p (.ins a.h [("phones",.ref ph),("groups",.ref gr)])=N2 at k2 c2 p2 ⊢;have g1:=k2.lst (qo Y4 p1) Y4;have g2:=k2.lst (qo h2' p1) h2';have g3:=k2.lst (qo h3' p1) h3';have f2:=k2.lst (qo f1 p1) f1;have f3:oU N2 gr=ga (l.groups.map rF):=sd c2;have kk2:=k1.trans k2;have m2:M gr=Fa:=sr k1 p1 hgr;clear Y4 h2' h3' f1 c1 c2 k1 k2 e1 e2;refine i' g3 ?_;refine yO (l.mT.map sZ) (λpre acc U Mx=>(∃x y,U=[x,y])/\qH N2 Mx/\∃rs:QXQ,acc=rs.map D.ref/\(∀r∈rs,N2 r=Fa)/\tM a Mx rs (l.mT.take pre.length)) (λpre acc U Mx j=>j.2.1.lst g3) _ [] [] _ _ Z' (by rw[cX];simp only[dN];lia) ⟨⟨Fa,Fa,Z'⟩,.refl,[],Z',λr hr=>absurd hr (dX),Z',λi r v e=>by simp at e⟩ ?_ ?_
 .rintro pre d post e acc U Mx ⟨⟨x,y,rfl⟩,sx,rs,rfl,fr,wa⟩ k hk
  obtain⟨v,hv,rfl⟩:∃v,l.mT[pre.length]?=ga v/\d=sZ v:=by
   have:(l.mT.map sZ)[pre.length]?=ga d:=by rw[<-e];simp
   rw[dG]at this;cases z:l.mT[pre.length]? with
   | none=>rw[z]at this;cases this
   | some v=>rw[z]at this;exact⟨v,Z',(dq this).symm⟩
  refine⟨Z',⟨v.2,Z',λr hr=>hk _ _ _ ⟨⟨_,_,Z'⟩,sx.trans (.new hr),rs++[r],?_,λr' hr'=>?_,?_⟩⟩⟩
  .rw[dP];rfl
  .rcases dS.mp hr' with z|z
   .exact fr r' z
   .rw[dB.mp z];exact sx.none hr
  .rw[c9,dI,fX,hv];exact wa.snoc hr
 rintro acc U Mx ⟨⟨x,y,rfl⟩,sx,rs,rfl,fr,wa⟩ ws hws
 have wa:tM a Mx rs l.mT:=by rw[cX,fh]at wa;exact wa
 obtain⟨n3,e3,k3,c3,p3⟩:=tX (fs':=[("phones",.ref ph),("groups",.ref gr),("wishes",.ref ws)]) (c:=.lst (rs.map D.ref)) (sx _ _ p2) hws;refine pN e3 ⟨(G.ae "wishes" Z'),by show 2<1000;decide,?_⟩;show vc _ _ _ _ (pT (pT Mx ws (.lst (rs.map D.ref))) p (.ins a.h [("phones",.ref ph),("groups",.ref gr),("wishes",.ref ws)]));generalize pT (pT Mx ws (.lst (rs.map D.ref))) p (.ins a.h [("phones",.ref ph),("groups",.ref gr),("wishes",.ref ws)])=N3 at k3 c3 p3 ⊢;have px:=sx _ _ p2;have i1:=k3.lst (qo (sx.lst g1) px) (sx.lst g1);have i2:=k3.lst (qo (sx.lst g2) px) (sx.lst g2);have i3:=k3.lst (qo (sx.lst g3) px) (sx.lst g3);have f4:=k3.lst (qo (sx.lst f2) px) (sx.lst f2);have f5:=k3.lst (qo (sx.lst f3) px) (sx.lst f3);have f6:oU N3 ws=ga (rs.map D.ref):=sd c3;have rp:∀r∈rs,r≠p:=λr hr z=>by have:=fr r hr;rw[z,p2]at this;cases this
 have w3:=wa.keep k3 rp;have kk3:=(kk2.trans sx.keep).trans k3;have m3:M ws=Fa:=sr (kk2.trans sx.keep) px hws;have mr:∀r∈rs,M r=Fa:=λr hr=>sr kk2 p2 (fr r hr);clear g1 g2 g3 f2 f3 c3 k3 e3 wa px kk2;refine i' i3 (Ci (f:=XN) (λU=>∃x y,U=[x,y]) i3 _ [] _ ⟨Fa,Fa,Z'⟩ (by rw[cX];simp only[dN];lia) (λd hd U hj k hk=>?_) λon hon=>?_)
 .obtain⟨x,y,rfl⟩:=hj;obtain⟨v,_,rfl⟩:=dF.mp hd;exact⟨Z',hk _ ⟨_,_,Z'⟩⟩
 rw[d9,UD];obtain⟨n4,e4,k4,c4,p4⟩:=tX (fs':=[("phones",.ref ph),("groups",.ref gr),("wishes",.ref ws),("on",.ref on)]) (c:=.lst (l.mT.map λw=>D.bl w.1)) p3 hon;refine pN e4 ⟨(G.ae "on" Z'),by show 3<1000;decide,?_⟩;show vc _ _ _ _ (pT (pT N3 on (.lst (l.mT.map λw=>D.bl w.1))) p (.ins a.h [("phones",.ref ph),("groups",.ref gr),("wishes",.ref ws),("on",.ref on)]));generalize pT (pT N3 on (.lst (l.mT.map λw=>D.bl w.1))) p (.ins a.h [("phones",.ref ph),("groups",.ref gr),("wishes",.ref ws),("on",.ref on)])=N4 at k4 c4 p4 ⊢;have j1:=k4.lst (qo i1 p3) i1;have j2:=k4.lst (qo i2 p3) i2;have f7:=k4.lst (qo f4 p3) f4;have f8:=k4.lst (qo f5 p3) f5;have f9:=k4.lst (qo f6 p3) f6;have fa:oU N4 on=ga (l.mT.map λw=>D.bl w.1):=sd c4;have w4:=w3.keep k4 rp;have kk4:=kk3.trans k4;have m4:M on=Fa:=sr kk3 p3 hon;clear i1 i2 i3 f4 f5 f6 c4 k4 e4 w3 kk3;refine i' j1 (rN (f:=B7) j1 _ [] _ (by rw[cX];simp only[dN];lia) (λd hd k hk=>?_) λq1 Zf=>?_)
 .obtain⟨v,_,rfl⟩:=dF.mp hd;exact⟨pJ Z',hk⟩
 rw[d9,HX];have sq1:=qH.new (c:=.lst (l.mV.map λp=>D.tup [.str p.1,qZ p])) Zf;refine i' pS (i' (xN (λp:vk=>p.1) qZ l.mV) ⟨zi (iH (List.sublist_append_left _ _) ok.nd),λpr hpr=>?_⟩);obtain⟨n5,e5,k5,c5,p5⟩:=tX (fs':=[("phones",.ref ph),("groups",.ref gr),("wishes",.ref ws),("on",.ref on),("phone_rows",.ref pr)]) (c:=.dk (l.mV.map λx=>(Sum.inr x.1,qZ x))) (sq1 _ _ p4) hpr;refine pN e5 ⟨(G.ae "phone_rows" Z'),by show 4<1000;decide,?_⟩;have k5:=sq1.keep.trans k5;have eput:wR "phone_rows" (.ref pr) [("phones",.ref ph),("groups",.ref gr),("wishes",.ref ws),("on",.ref on)]=([("phones",.ref ph),("groups",.ref gr),("wishes",.ref ws),("on",.ref on),("phone_rows",.ref pr)]:T0 (Str×D)):=rfl;rw[eput];generalize pT (pT (pT N4 q1 (.lst (l.mV.map λp=>D.tup [.str p.1,qZ p]))) pr (.dk (l.mV.map λx=>(Sum.inr x.1,qZ x)))) p (.ins a.h [("phones",.ref ph),("groups",.ref gr),("wishes",.ref ws),("on",.ref on),("phone_rows",.ref pr)])=N5 at k5 c5 p5 ⊢;have mm:=k5.lst (qo j2 p4) j2;have fb:=k5.lst (qo f7 p4) f7;have fc:=k5.lst (qo f8 p4) f8;have fd:=k5.lst (qo f9 p4) f9;have fe:=k5.lst (qo fa p4) fa;have ff:zX N5 pr=ga (Sx l):=CM c5;have w5:=w4.keep k5 rp;have kk5:=kk4.trans k5;have m5:M pr=Fa:=sr (kk4.trans sq1.keep) (sq1 _ _ p4) hpr;clear j1 j2 f7 f8 f9 fa c5 k5 e5 w4 kk4;refine i' mm (rN (f:=B7) mm _ [] _ (by rw[cX];simp only[dN];lia) (λd hd k hk=>?_) λq2 hq2=>?_)
 .obtain⟨v,_,rfl⟩:=dF.mp hd;exact⟨pJ Z',hk⟩
 rw[d9,Hg];have sq2:=qH.new (c:=.lst (l.groups.map λg=>D.tup [.str g.1,rF g])) hq2;refine i' pS (i' (xN (λp:uY=>p.1) rF l.groups) ⟨zi (iH (jE _ _) ok.nd),λgd hgd=>?_⟩);obtain⟨n6,e6,k6,c6,p6⟩:=tX (fs':=RS ph gr ws on pr gd) (c:=.dk (I0 l)) (sq2 _ _ p5) hgd;have k6:=sq2.keep.trans k6;refine pN e6 ⟨(G.ae "group_rows" Z'),by show 5<1000;decide,_,.refl,?_⟩;have m6:M gd=Fa:=sr (kk5.trans sq2.keep) (sq2 _ _ p5) hgd;have w6:=w5.keep k6 rp;have y1:=k6.lst (qo fb p5) fb;have y2:=k6.lst (qo fc p5) fc;have y3:=k6.lst (qo fd p5) fd;have y4:=k6.lst (qo fe p5) fe;have y5:=k6.dk (Cp ff p5) ff;refine q _ (kk5.trans k6) ⟨ph,gr,ws,on,pr,gd,rs,p6,y1,y2,y3,y4,y5,CM c6,w6⟩ λYo hs=>?_;exact⟨ph,gr,ws,on,pr,gd,rs,hs _ _ (.inl Z') p6,sd (hs _ _ (.inr hph) (qm y1)),sd (hs _ _ (.inr m2) (qm y2)),sd (hs _ _ (.inr m3) (qm y3)),sd (hs _ _ (.inr m4) (qm y4)),CM (hs _ _ (.inr m5) (yN y5)),CM (hs _ _ (.inr m6) c6),w6.1,λi r v e1 e2=>hs _ _ (.inr (mr r (ft e1))) (w6.2 i r v e1 e2)⟩
theorem yP{α:Type}(f:α->Str)(g:α->D)(k:Str):∀l:List α,wu (l.map λx=>((Sum.inr (f x):rM),g x)) (Sum.inr k)=(l.find? λx=>decide (f x=k)).map g
 | []=>rfl
 | x::r=>by
  have ih:=yP f g k r;unfold wu at ih ⊢;rw[d6,fM,fM];by_cases h:f x=k
  .have h':decide ((Sum.inr (f x):rM)=Sum.inr k)=Db:=d4 (by rw[h]);simp[h]
  .have h':¬(Sum.inr (f x):rM)=Sum.inr k:=λz=>h (j7 z);simp only[h,h',decide_false];exact ih
noncomputable def pV.nA(l:pV)(x:Str):Option vk:=l.mV.find? λp=>decide (p.1=x)
noncomputable def pV.group(l:pV)(x:Str):Option uY:=l.groups.find? λg=>decide (g.1=x)
noncomputable def pV.mS(l:pV)(x:Str):QQQ:=(l.group x).elim [x] λg=>g.2.2
noncomputable def pV.m8(l:pV)(x:Str):Str:=(l.group x).elim "one" λg=>g.2.1
def GX(l:pV)(x:Str):wu (Sx l) (Sum.inr x)=(l.nA x).map qZ:=yP (λp:vk=>p.1) qZ x l.mV
def xl(l:pV)(x:Str):wu (I0 l) (Sum.inr x)=(l.group x).map rF:=yP (λp:uY=>p.1) rF x l.groups
def zE(a:Ad):rQ:=λds M Q=>Cv λp (l:pV)=>ds=[.ref p]/\rT a M p l/\l.mV.length<=100/\∀q,M q=Fa->Q (.ref q) (pT M q (.lst (l.pn.map D.str)))
def FP(a:Ad):rQ:=λds M Q=>Cv λp (l:pV)=>ds=[.ref p]/\rT a M p l/\l.mV.length<=100/\l.groups.length<=100/\∀q,M q=Fa->Q (.ref q) (pT M q (.lst (l.nm.map D.str)))
def F8(a:Ad):rQ:=λds M Q=>B0 λp x v (l:pV)=>ds=[.ref p,.str x]/\rT a M p l/\l.nA x=ga v/\Q (.int v.2.1) M
def He(a:Ad):rQ:=λds M Q=>B0 λp x v (l:pV)=>ds=[.ref p,.str x]/\rT a M p l/\l.nA x=ga v/\Q (.int v.2.2) M
def Bb(a:Ad):rQ:=λds M Q=>D4 λp x (l:pV)=>ds=[.ref p,.str x]/\rT a M p l/\∀q,M q=Fa->Q (.ref q) (pT M q (.lst ((l.mS x).map D.str)))
def DW(a:Ad):rQ:=λds M Q=>D4 λp x (l:pV)=>ds=[.ref p,.str x]/\rT a M p l/\Q (.str (l.m8 x)) M
def tE:Fq P w K mg base 1 a.P (zE a):=by
 refine fq G.P.toDG yT (λr u=>⟨_,(pM (pU (qT Z' (xV (ix:=[Fa]) (N':=["phone"])) (ra (pR v0)) (qN 0) sf (pZ v0 pO)))),?_⟩)
 rintro ds M Q ⟨p,l,rfl,hp,hl,q⟩
 have hz:=dO;obtain⟨ph,gr,ws,on,pr,gd,rs,h1,h2,h3,h4,h5,h6,h7,h8⟩:=hp;refine pN h1 (i' Z' (i' h2 ?_));refine rN (f:=BR) h2 _ [] _ (by rw[cX];simp only[dN];lia) (λd hd k hk=>?_) λq1 Zf=>?_
 .obtain⟨x,_,rfl⟩:=dF.mp hd;exact hk
 rw[d9,zg];exact⟨_,.refl,q q1 Zf⟩
def yY:Fq P w K mg base 2 a.ar (FP a):=by
 refine fq G.ar.toDG D5 (λr u=>⟨_,(pM (pU (qp (ww v0 G.h.toCls G.P (tE G) r) (qT Z' (xV (ix:=[Fa]) (N':=["group"])) (ra (pR v0)) (qN 0) sf (pZ v0 pO))))),?_⟩)
 rintro ds M Q ⟨p,l,rfl,hp,hl,hl2,q⟩
 have hz:=dO;have YA:=hp;obtain⟨ph,gr,ws,on,pr,gd,rs,h1,h2,h3,h4,h5,h6,h7,h8⟩:=hp;refine pN h1 ⟨Z',_,⟨Z',Z'⟩,p,l,Z',YA,hl,λq1 Zf=>?_⟩;have s1:=qH.new (c:=.lst (l.pn.map D.str)) Zf;have e1:=@pS M q1 (l.pn.map D.str);generalize pT M q1 (.lst (l.pn.map D.str))=M1 at s1 e1 ⊢;have h3':=s1.lst h3;refine pN (s1 _ _ h1) (i' Z' (i' h3' ?_));refine rN (f:=BR) h3' _ [] _ (by rw[cX];simp only[dN];lia) (λd hd k hk=>?_) λq2 hq2=>?_
 .obtain⟨x,_,rfl⟩:=dF.mp hd;exact hk
 rw[d9,zm];have s2:=qH.new (c:=.lst ((l.groups.map (·.1)).map D.str)) hq2;refine i' (s2.lst e1) (i' pS ⟨?_,λq3 hq3=>?_⟩)
 .rw[cX,cX,cX];show(l.mV.map (·.1)).length+_<=_;rw[cX];lia
 have en:l.pn.map D.str++(l.groups.map (·.1)).map D.str=l.nm.map D.str:=by unfold pV.nm;rw[dP];rfl
 rw[en];exact⟨_,(s1.trans s2).upd,q q3 ((s1.trans s2).none hq3)⟩
def DS:Fq P w K mg base 1 a.bJ (F8 a):=by
 refine fq G.bJ.toDG DT (λr u=>⟨_,(pM (pU (pZ (zL u (pR v0) Y1) pO))),?_⟩)
 rintro ds M Q ⟨p,x,v,l,rfl,hp,hv,q⟩
 obtain⟨ph,gr,ws,on,pr,gd,rs,h1,h2,h3,h4,h5,h6,h7,h8⟩:=hp;exact pN h1 (i' Z' (i' Z' (i' h6 (i' (x:=qZ v) (by rw[GX,hv];rfl) ⟨M,.refl,q⟩))))
def Ab:Fq P w K mg base 1 a.aT (He a):=by
 refine fq G.aT.toDG FH (λr u=>⟨_,(pM (pU (pZ (zL u (pR v0) Y1) pO))),?_⟩)
 rintro ds M Q ⟨p,x,v,l,rfl,hp,hv,q⟩
 obtain⟨ph,gr,ws,on,pr,gd,rs,h1,h2,h3,h4,h5,h6,h7,h8⟩:=hp;exact pN h1 (i' Z' (i' Z' (i' h6 (i' (x:=qZ v) (by rw[GX,hv];rfl) ⟨M,.refl,q⟩))))
def va:Fq P w K mg base 1 a.ac (Bb a):=by
 refine fq G.ac.toDG zQ (λr u=>⟨_,(pL (qh (Ot u Y1 (pR v0))
 (pM (pU (qr s8 Z' G.q sO (qz (pZ (zL u (pR v0) Y1) pO)))))
 qa)
 (pM (pU (qX (qz Y1))))),?_⟩)
 rintro ds M Q ⟨p,x,l,rfl,hp,q⟩
 obtain⟨ph,gr,ws,on,pr,gd,rs,h1,h2,h3,h4,h5,h6,h7,h8⟩:=hp;refine pN h1 (i' Z' (i' h7 ?_));cases e:l.group x with
 | none=>refine NM (c:=(wu (I0 l) (Sum.inr x)).isSome) (by rw[xl,e];rfl) ⟨pJ Z',λq1 Zf=>⟨_,.refl,?_⟩⟩;have:=q q1 Zf;unfold pV.mS at this;rw[e]at this;exact this
 | some g=>refine BG (c:=(wu (I0 l) (Sum.inr x)).isSome) (by rw[xl,e];rfl) (pN h1 (i' Z' (i' Z' (i' h7 (i' (x:=rF g) (by rw[xl,e];rfl) λq1 Zf=>⟨_,.refl,?_⟩)))));have:=q q1 Zf;unfold pV.mS at this;rw[e]at this;exact this
def yu:Fq P w K mg base 1 a.aR (DW a):=by
 refine fq G.aR.toDG CA (λr u=>⟨_,(pL (qh (Ot u Y1 (pR v0))
 (pM (pU (pZ (zL u (pR v0) Y1) pO)))
 qa)
 (pM (pU pP))),?_⟩)
 rintro ds M Q ⟨p,x,l,rfl,hp,q⟩
 obtain⟨ph,gr,ws,on,pr,gd,rs,h1,h2,h3,h4,h5,h6,h7,h8⟩:=hp;refine pN h1 (i' Z' (i' h7 ?_));cases e:l.group x with
 | none=>refine NM (c:=(wu (I0 l) (Sum.inr x)).isSome) (by rw[xl,e];rfl) ⟨M,.refl,?_⟩;unfold pV.m8 at q;rw[e]at q;exact q
 | some g=>refine BG (c:=(wu (I0 l) (Sum.inr x)).isSome) (by rw[xl,e];rfl) (pN h1 (i' Z' (i' Z' (i' h7 (i' (x:=rF g) (by rw[xl,e];rfl) ⟨M,.refl,?_⟩)))));unfold pV.m8 at q;rw[e]at q;exact q
noncomputable def Qi:T0 Int:=[1,1,2,2,3]
noncomputable def Q0:T0 Int:=[0,1,1,2,5,9]
noncomputable def Rf:QQQ:=["all","turns"]
noncomputable def HS(t:T0 Int)(i:Int):Int:=t.getD i.toNat 0
def wN(s:Int)(i:Nat):vk:=(ya s (0+(i:Nat)),HS Qi (qM (s+17*(0+(i:Nat))*(0+(i:Nat))) 16807 5),HS Q0 (qM (s+17*(0+(i:Nat))*(0+(i:Nat))) 39373 6))
def sC(s m:Int):Nat:=(2+qM s 48271 (m - 1)).toNat
def qQ(s m:Int):List vk:=(List.range (sC s m)).map (wN s)
def AZ(s:Int)(own:QQQ)(i:Nat):uY:=(ya s (8+(0+(i:Nat))),Dz Rf (qM (s+5*(0+(i:Nat))) 742938285 2),wH own (s+11*(0+(i:Nat))) 4)
def wF(s:Int):Nat:=(qM s 69621 3).toNat
def rK(s:Int)(own:QQQ):List uY:=(List.range (wF s)).map (AZ s own)
def GC{ts:T0 Int}{i:Int}(h0:0<=i)(h1:i<ts.length):wY (ts.map D.int) i=ga (D.int (HS ts i)):=by
 obtain⟨n,rfl⟩:=eG h0;have hn':n<ts.length:=by lia
 refine vK ?_;rw[dG,cZ hn'];simp[HS,hn']
def Di{pre post:T0 D}{d:D}(e:pre++d::post=(List.range n).map λi=>D.int (0+(i:Nat))):d=.int (0+(pre.length:Nat))/\pre.length<n:=by
 have h:((List.range n).map λi=>D.int (0+(i:Nat)))[pre.length]?=ga d:=by rw[<-e];simp
 have hl:pre.length<n:=by
  have:=(de.mp h).1
  simpa using this
 rw[dG,jj hl]at h;exact⟨(dq h).symm,hl⟩
def C4{α β:Type}(f:Nat->α)(g:α->β)(n:Nat):((List.range n).map f).map g++[g (f n)]=((List.range (n+1)).map f).map g:=by rw[iq,dP,dP];rfl
def Jh:rQ:=λds M Q=>Cv λs m=>ds=[.int s,.int m]/\2<=m/\m<=100/\∀q,M q=Fa->Q (.ref q) (pT M q (.lst ((qQ s m).map qZ)))
def IZ:rQ:=λds M Q=>D4 λs o own=>ds=[.int s,.ref o]/\oU M o=ga (own.map D.str)/\own≠[]/\own.length<=64/\∀q,M q=Fa->Q (.ref q) (pT M q (.lst ((rK s own).map rF)))
def zr{s m:Int}(h2:2<=m)(h:m<=100):sC s m<=100/\2<=sC s m:=by have d0:=rL (c:=s) (f:=48271) (m:=m - 1) (by lia);have d1:=rg (c:=s) (f:=48271) (m:=m - 1) (by lia);unfold sC;lia
def xB{s:Int}:wF s<=3:=by have d0:=rL (c:=s) (f:=69621) (m:=3) (by decide);have d1:=rg (c:=s) (f:=69621) (m:=3) (by decide);unfold wF;lia
def Jt:Fq P w K mg base 2 a.br Jh:=by
 refine fq G.br.toDG vo (λr u=>⟨_,(pL (qc 2 vo (qX sT))
 (pL (vg fi Z' (vO Z' G.Q (qz (qp pO (pW (qW G) r G.i (rP v0 pO (qp Y1 pO)))))) (sL 3 vo)
 (pL (qc 4 vo (pZ (qe (qw pO (qw pO (rP pO pO pO)))) (pW (qW G) r G.i (rP (qp v0 (qp (qp pO Y3) Y3)) pO pO))))
 (pM (qd (qV Y2 (qz (qe (rP (pW (Kh G) r G.ao (r6 v0 Y3)) v4 (pZ (qe (qw pO (qw pO (qw pO (rP pO pO pO))))) (pW (qW G) r G.i (rP (qp v0 (qp (qp pO Y3) Y3)) pO pO)))))))))))
 (pM (pU Y2)))),?_⟩)
 rintro ds M Q ⟨s,m,rfl,h2,h100,q⟩
 have hz:=dO;have d0:=rL (c:=s) (f:=48271) (m:=m - 1) (by lia);have d1:=rg (c:=s) (f:=48271) (m:=m - 1) (by lia);have nl:=(zr (s:=s) h2 h100).1;refine⟨pJ Z',λr hr=>⟨s,_,_,Z',by show 0<m - 1;lia,Z',⟨?_,?_⟩,?_⟩⟩
 .show -(2 ^ 62)<=2+qM s 48271 (m - 1);lia
 .show 2+qM s 48271 (m - 1)<2 ^ 62;lia
 refine wX ((List.range (sC s m)).map λi=>D.int (0+(i:Nat))) (λpre U M'=>M'=pT M r (.lst (((List.range pre.length).map (wN s)).map qZ))/\∃x y,U=[ga (.int s),ga (.int m),ga (.ref r),x,y]) (λ_ _ _ _=>trivial) _ [] _ _ Z' ⟨Z',Fa,Fa,Z'⟩ ?_ ?_
 .rintro pre d post e U M' ⟨rfl,x,y,rfl⟩ nx Yr
  obtain⟨rfl,Yt⟩:=Di e;generalize hi:pre.length=i at Yt Yr ⊢;have cm:Ea (17*(0+(i:Int))) (0+(i:Int)):=.inr ⟨by lia,by lia⟩;have c17:Ea 17 (0+(i:Int)):=.inl ⟨by decide,by decide⟩;have t5:wY [D.int 1,.int 1,.int 2,.int 2,.int 3] (qM (s+17*(0+(i:Int))*(0+(i:Int))) 16807 5)=ga (.int (wN s i).2.1):=GC (ts:=Qi) (rL (by decide)) (rg (by decide));have t6:wY [D.int 0,.int 1,.int 1,.int 2,.int 5,.int 9] (qM (s+17*(0+(i:Int))*(0+(i:Int))) 39373 6)=ga (.int (wN s i).2.2):=GC (ts:=Q0) (rL (by decide)) (rg (by decide));refine⟨pJ Z',c17,cm,_,_,_,Z',by decide,i' t5 ?_⟩;refine⟨by show(oU _ r).isSome=Db;rw[pS];rfl,s,_,Z',pJ Z',c17,cm,_,_,_,Z',by decide,i' t6 ⟨pJ Z',i' pS ⟨?_,?_⟩⟩⟩
  .rw[cX,cX,eD];lia
  .refine Yr _ _ ⟨?_,_,_,Z'⟩;rw[sy,c9,hi];show pT M r (.lst (_++[qZ (wN s i)]))=_;rw[C4];rfl
 .rintro U M' ⟨rfl,x,y,rfl⟩
  refine⟨_,.refl,?_⟩;rw[cX,eD];exact q r hr
def Ih:Fq P w K mg base 3 a.bs IZ:=by
 refine fq G.bs.toDG vp (λr u=>⟨_,(pL (qc 2 vp (qX sT))
 (pL (vg fi Z' (vO Z' G.Q (qz (pW (qW G) r G.i (rP v0 pO pO)))) (sL 3 vp)
 (pL (qc 4 vp (pZ (qe (r6 pP pP)) (pW (qW G) r G.i (rP (qp v0 (qp pO Y3)) pO pO))))
 (pM (qd (qV Y2 (qz (qe (rP (pW (Kh G) r G.ao (r6 v0 (qp pO Y3))) v4 (pW (yM G) r G.U (rP Y1 (qp v0 (qp pO Y3)) pO))))))))))
 (pM (pU Y2)))),?_⟩)
 rintro ds M Q ⟨s,o,own,rfl,ho,YI,h64,q⟩
 have hz:=dO;have d0:=rL (c:=s) (f:=69621) (m:=3) (by decide);have d1:=rg (c:=s) (f:=69621) (m:=3) (by decide);have nl:=xB (s:=s);refine⟨pJ Z',λr hr=>⟨s,_,_,Z',by decide,Z',⟨?_,?_⟩,?_⟩⟩
 .show -(2 ^ 62)<=qM s 69621 3;lia
 .show qM s 69621 3<2 ^ 62;lia
 have nor:o≠r:=λz=>by rw[z]at ho;unfold oU at ho;rw[hr]at ho;cases ho
 refine wX ((List.range (wF s)).map λi=>D.int (0+(i:Nat))) (λpre U M'=>M'=pT M r (.lst (((List.range pre.length).map (AZ s own)).map rF))/\∃x y,U=[ga (.int s),ga (.ref o),ga (.ref r),x,y]) (λ_ _ _ _=>trivial) _ [] _ _ Z' ⟨Z',Fa,Fa,Z'⟩ ?_ ?_
 .rintro pre d post e U M' ⟨rfl,x,y,rfl⟩ nx Yr
  obtain⟨rfl,Yt⟩:=Di e;generalize hi:pre.length=i at Yt Yr ⊢;have c5:Ea 5 (0+(i:Int)):=.inl ⟨by decide,by decide⟩;have c11:Ea 11 (0+(i:Int)):=.inl ⟨by decide,by decide⟩;have tm:wY [D.str "all",.str "turns"] (qM (s+5*(0+(i:Int))) 742938285 2)=ga (.str (AZ s own i).2.1):=IH (row:=Rf) (rL (by decide)) (rg (by decide));have YY:oU (pT M r (.lst (((List.range i).map (AZ s own)).map rF))) o=ga (own.map D.str):=by unfold oU;rw[uH nor];exact ho
  refine⟨pJ Z',c5,_,_,_,Z',by decide,i' tm ?_⟩;refine⟨by show(oU _ r).isSome=Db;rw[pS];rfl,s,_,Z',c11,o,_,_,own,Z',YY,YI,by decide,h64,pJ Z',i' pS ⟨?_,?_⟩⟩
  .rw[cX,cX,eD];lia
  .refine Yr _ _ ⟨?_,_,_,Z'⟩;rw[sy,c9,hi];show pT M r (.lst (_++[rF (AZ s own i)]))=_;rw[C4];rfl
 .rintro U M' ⟨rfl,x,y,rfl⟩
  refine⟨_,.refl,?_⟩;rw[cX,eD];exact q r hr
def Ki(ns:T0 Int)(own nm:QQQ)(i:Nat):uQ:=(decide (0<qM (cell ns (1+(0+(i:Nat)))+31*(0+(i:Nat))*(0+(i:Nat))) 22695477 6),xb (cell ns (1+(0+(i:Nat)))+31*(0+(i:Nat))*(0+(i:Nat))) own nm)
def xD(s:Int):Nat:=(qM s 950706376 11).toNat
def CJ(ns:T0 Int)(m:Int):pV:=
 let s:=cell ns 0;let own:=(qQ s m).map (·.1);let gs:=rK s own
 ⟨qQ s m,gs,(List.range (xD s)).map (Ki ns own (own++gs.map (·.1)))⟩
def Mu:rQ:=λds M Q=>Cv λns m=>ds=[.rl (ns.map D.int),.int m]/\2<=m/\m<=8/\∀r1 r2 r3 M',qH M M'->oU M' r1=ga ((CJ ns m).mV.map qZ)->oU M' r2=ga ((CJ ns m).groups.map rF)->oU M' r3=ga ((CJ ns m).mT.map sZ)->Q (.tup [.ref r1,.ref r2,.ref r3]) M'
def MW:Fq P w K mg base 4 a.bu Mu:=by
 refine fq G.bu.toDG tw (λr u=>⟨_,(pL (qc 2 tw (pW (El G) r G.H (r6 v0 pO)))
 (pL (qc 3 tw (pW (Jt G) r G.br (r6 Y2 Y1)))
 (pL (uM (i:=4) tw.nd Z' (Or.inl Z') Z' (xV (ix:=[Fa]) (N':=["_law_phone"])) (ra Y3) (qN 0) sf (pZ v0 pO))
 (pL (qc 5 tw (pW (Ih G) r G.bs (r6 Y2 v4)))
 (pL (qc 6 tw (qp v4 (qT Z' (xV (ix:=[Fa]) (N':=["_law_group"])) (ra v5) (qN 0) sf (pZ v0 pO))))
 (pL (qc 7 tw (qX sT))
 (pL (vg fi Z' (vO Z' G.Q (qz (pW (qW G) r G.i (rP Y2 pO pO)))) (sL 8 tw)
 (pL (qc 9 tw (qp (pW (El G) r G.H (r6 v0 (qp pO v8))) (qp (qp pO v8) v8)))
 (pM (qd (qV v7 (qz (qe (r6 (qE u (pW (qW G) r G.i (rP v9 pO pO)) pO) (pW (Ru G) r G.bt (rP v9 v4 v6))))))))))
 (pM (pU (qe (rP Y3 v5 v7))))))))))),?_⟩)
 rintro ds M Q ⟨ns,m,rfl,h2,h8,q⟩
 have hz:=dO;have pl:=zr (s:=cell ns 0) h2 (by lia);have p8:sC (cell ns 0) m<=8:=by have d1:=rg (c:=cell ns 0) (f:=48271) (m:=m - 1) (by lia);unfold sC;lia
 have gl:=xB (s:=cell ns 0);have lp:(qQ (cell ns 0) m).length=sC (cell ns 0) m:=by unfold qQ;rw[cX,eD]
 refine⟨ns,0,Z',cell ns 0,m,Z',h2,by lia,λr1 Y5=>?_⟩;have s1:=qH.new (c:=.lst ((qQ (cell ns 0) m).map qZ)) Y5;have a1:=@pS M r1 ((qQ (cell ns 0) m).map qZ);generalize pT M r1 (.lst ((qQ (cell ns 0) m).map qZ))=M1 at s1 a1 ⊢;refine i' a1 (rN (f:=BR) a1 _ [] _ (by rw[cX];simp only[dN];lia) (λd hd k hk=>?_) λo ho=>?_)
 .obtain⟨x,_,rfl⟩:=dF.mp hd;exact hk
 rw[d9,zg];have s2:=s1.trans (qH.new (c:=.lst (((qQ (cell ns 0) m).map (·.1)).map D.str)) ho);have b1:=(qH.new (c:=.lst (((qQ (cell ns 0) m).map (·.1)).map D.str)) ho).lst a1;have bo:=@pS M1 o (((qQ (cell ns 0) m).map (·.1)).map D.str);generalize pT M1 o (.lst (((qQ (cell ns 0) m).map (·.1)).map D.str))=M2 at s2 b1 bo ⊢;have ol:((qQ (cell ns 0) m).map (·.1)).length=sC (cell ns 0) m:=by rw[cX,lp]
 have one:(qQ (cell ns 0) m).map (·.1)≠[]:=λz=>by rw[z]at ol;have:0=sC (cell ns 0) m:=ol;lia
 have YA:CJ ns m=⟨qQ (cell ns 0) m,rK (cell ns 0) ((qQ (cell ns 0) m).map (·.1)),(List.range (xD (cell ns 0))).map (Ki ns ((qQ (cell ns 0) m).map (·.1)) ((qQ (cell ns 0) m).map (·.1)++(rK (cell ns 0) ((qQ (cell ns 0) m).map (·.1))).map (·.1)))⟩:=rfl;rw[YA]at q;generalize (qQ (cell ns 0) m).map (·.1)=own at bo ol one q ⊢;refine⟨cell ns 0,o,own,Z',bo,one,by lia,λr2 hr2=>?_⟩;have t3:=qH.new (c:=.lst ((rK (cell ns 0) own).map rF)) hr2;have c2:=@pS M2 r2 ((rK (cell ns 0) own).map rF);have c1:=t3.lst b1;have co:=t3.lst bo;have s3:=s2.trans t3;generalize pT M2 r2 (.lst ((rK (cell ns 0) own).map rF))=M3 at s3 c1 c2 co ⊢;have gll:(rK (cell ns 0) own).length=wF (cell ns 0):=by unfold rK;rw[cX,eD]
 refine i' c2 (rN (f:=BR) c2 _ [] _ (by rw[cX];simp only[dN];lia) (λd hd k hk=>?_) λx4 hx4=>?_)
 .obtain⟨x,_,rfl⟩:=dF.mp hd;exact hk
 rw[d9,zm];have t4:=qH.new (c:=.lst (((rK (cell ns 0) own).map (·.1)).map D.str)) hx4;refine i' (t4.lst co) (i' pS ⟨?_,λn hn=>?_⟩)
 .rw[cX,cX,cX];lia
 have en:own.map D.str++((rK (cell ns 0) own).map (·.1)).map D.str=(own++(rK (cell ns 0) own).map (·.1)).map D.str:=by rw[dP]
 rw[en];have nl:(own++(rK (cell ns 0) own).map (·.1)).length=sC (cell ns 0) m+wF (cell ns 0):=by rw[c9,cX,ol,gll]
 have t5:=t4.trans (qH.new (c:=.lst ((own++(rK (cell ns 0) own).map (·.1)).map D.str)) hn);have en5:=@pS (pT M3 x4 (.lst (((rK (cell ns 0) own).map (·.1)).map D.str))) n ((own++(rK (cell ns 0) own).map (·.1)).map D.str);have e1:=t5.lst c1;have e2:=t5.lst c2;have eo:=t5.lst co;have s5:=s3.trans t5;generalize pT (pT M3 x4 (.lst (((rK (cell ns 0) own).map (·.1)).map D.str))) n (.lst ((own++(rK (cell ns 0) own).map (·.1)).map D.str))=M5 at s5 e1 e2 eo en5 ⊢;generalize own++(rK (cell ns 0) own).map (·.1)=nm at en5 nl q ⊢;have d0:=rL (c:=cell ns 0) (f:=950706376) (m:=11) (by decide);have d1:=rg (c:=cell ns 0) (f:=950706376) (m:=11) (by decide);refine⟨pJ Z',λr3 hr3=>⟨_,_,_,Z',by decide,Z',⟨?_,?_⟩,?_⟩⟩
 .show -(2 ^ 62)<=qM (cell ns 0) 950706376 11;lia
 .show qM (cell ns 0) 950706376 11<2 ^ 62;lia
 have t6:=qH.new (c:=.lst []) hr3;have g3:=@pS M5 r3 [];have no:o≠r3:=λz=>by have:=qm eo;rw[z,hr3]at this;cases this
 have nn:n≠r3:=λz=>by have:=qm en5;rw[z,hr3]at this;cases this
 have n1:r1≠r3:=λz=>by have:=qm e1;rw[z,hr3]at this;cases this
 have n2:r2≠r3:=λz=>by have:=qm e2;rw[z,hr3]at this;cases this
 have f1:=t6.lst e1;have f2:=t6.lst e2;have fo:=t6.lst eo;have fn:=t6.lst en5;have k6:qH M (pT M5 r3 (.lst [])):=s5.trans t6;have nr:M r3=Fa:=s5.none hr3;generalize pT M5 r3 (.lst [])=M6 at f1 f2 fo fn k6 g3 ⊢;have wl:xD (cell ns 0)<=10:=by unfold xD;lia
 refine wX ((List.range (xD (cell ns 0))).map λi=>D.int (0+(i:Nat))) (λpre U M'=>sI r3 M6 M'/\oU M' r3=ga (((List.range pre.length).map (Ki ns own nm)).map sZ)/\∃x y,U=[ga (.rl (ns.map D.int)),ga (.int m),ga (.int (cell ns 0)),ga (.ref r1),ga (.ref o),ga (.ref r2),ga (.ref n),ga (.ref r3),x,y]) (λp U M' j=>trivial) _ [] _ _ Z' ⟨λ_ _ _ h=>h,g3,Fa,Fa,Z'⟩ ?_ ?_
 .rintro pre d post e U M' ⟨kp,lr,x,y,rfl⟩ nx Yr
  obtain⟨rfl,Yt⟩:=Di e;generalize hi:pre.length=i at Yt Yr lr ⊢;have c31:Ea 31 (0+(i:Int)):=.inl ⟨by decide,by decide⟩;have cm:Ea (31*(0+(i:Int))) (0+(i:Int)):=.inr ⟨by lia,by lia⟩;refine⟨ns,_,Z',c31,cm,?_⟩;refine⟨by show(oU M' r3).isSome=Db;rw[lr];rfl,_,_,_,Z',by decide,_,o,n,own,nm,Z',kp.lst no fo,kp.lst nn fn,one,by lia,by lia,by lia,pJ Z',i' lr ⟨?_,?_⟩⟩
  .rw[cX,cX,eD];lia
  .refine Yr _ _ ⟨kp.trans .put,?_,_,_,Z'⟩;rw[pS,c9,hi];show ga (_++[sZ (Ki ns own nm i)])=_;rw[C4];rfl
 .rintro U M' ⟨kp,lr,x,y,rfl⟩
  rw[cX,eD]at lr;exact⟨pJ Z',M',.refl,q r1 r2 r3 M' (λb c h=>kp b c (λz=>by rw[z,nr]at h;cases h) (k6 b c h)) (kp.lst n1 f1) (kp.lst n2 f2) lr⟩
theorem Dk(x:Array Nat):∀(n:Nat) (acc:Array Nat),((List.replicate n x).foldl (·++·) acc).toList=acc.toList++(List.replicate n x.toList).flatten
 | 0,acc=>by simp
 | n+1,acc=>by rw[eL,fY,Dk x n (acc++x),eL,fP,jl,fm]
theorem G6(c:Nat):∀n:Nat,(List.replicate n [c]).flatten=List.replicate n c
 | 0=>rfl
 | n+1=>by rw[eL,fP,G6 c n,eL];rfl
def Eo(i n:Int):(zA (uK i) n).cps.toList=List.replicate n.toNat (97+i.toNat):=by show((List.replicate n.toNat (uK i).cps).foldl (·++·) #[]:Array Nat).toList=_;rw[Dk];show[]++(List.replicate n.toNat [97+i.toNat]).flatten=_;rw[d9,G6]
def yK(s v:Int):(ya s v).cps.toList=List.replicate (u9 s).toNat (97+(s / 36 % 26).toNat)++(97+((s / 936+v) % 26).toNat)::List.replicate (size s - 1 - u9 s).toNat (97+(s / 36 % 26).toNat):=by show((zA (uK (s / 36 % 26)) (u9 s)).cps++(uK ((s / 936+v) % 26)).cps++(zA (uK (s / 36 % 26)) (size s - 1 - u9 s)).cps).toList=_;rw[jl,jl,Eo,Eo];show _++[97+((s / 936+v) % 26).toNat]++_=_;rw[fm];rfl
def CZ(s v:Int):1<=(ya s v).length/\(ya s v).length<=6:=by
 have e:(ya s v).length=(ya s v).cps.toList.length:=by simp[Str.length]
 rw[e,yK,c9,eE,iW,iW];have h1:=Hj s;have h2:=KA s;have h3:0<=u9 s:=eU _ (by lia);have h4:u9 s<size s:=eP _ h1;lia
def MX{i:Int}(h0:0<=i)(h1:i<26):DX ⟨#[97+i.toNat]⟩ vb=Db:=by
 obtain⟨n,rfl⟩:=eG h0;have hn:n<26:=by lia
 have key:∀n:_root_.Fin 26,DX ⟨#[97+n.val]⟩ vb=Db:=by decide+kernel
 exact key ⟨n,hn⟩
def EJ(s v:Int):uR (ya s v)=Db:=by
 obtain⟨h1,h2⟩:=CZ s v;unfold uR;rw[d4 (show(1:Int)<=(ya s v).length by lia),d4 (show((ya s v).length:Int)<=6 by lia),eK,eK,eF];intro c hc;rw[yK]at hc;have k1:=MX (eU (s / 36) (show(26:Int)≠0 by decide)) (eP (s / 36) (by decide));have k2:=MX (eU (s / 936+v) (show(26:Int)≠0 by decide)) (eP (s / 936+v) (by decide));rcases dS.mp hc with z|z
 .rw[jS z];exact k1
 .rcases dz.mp z with z|z
  .rw[z];exact k2
  .rw[jS z];exact k1
def Cn{s u v:Int}(hu:0<=u)(hu':u<26)(hv:0<=v)(hv':v<26)(e:ya s u=ya s v):u=v:=by
 have e':(ya s u).cps.toList=(ya s v).cps.toList:=by rw[e]
 rw[yK,yK]at e';have:=(List.append_cancel_left e');have:=(gi this).1;have a1:=eU (s / 936+u) (show(26:Int)≠0 by decide);have a2:=eU (s / 936+v) (show(26:Int)≠0 by decide);have h:(s / 936+u) % 26=(s / 936+v) % 26:=by lia
 lia
def Fw{ss:QQQ}{x:Str}(h:x∈ss):yt ss x:=gB.mpr ⟨x,h,by simp⟩
def B6{row:QQQ}{i:Int}(h0:0<=i)(h1:i<row.length):Dz row i∈row:=by
 obtain⟨n,rfl⟩:=eG h0;have hn:n<row.length:=by lia
 have:Dz row (n:Int)=row[n]:=by simp[Dz,hn]
 rw[this];exact gO hn
def J5{row:QQQ}{i j:Int}(nd:row.Nodup)(h0:0<=i)(h1:i<row.length)(g0:0<=j)(g1:j<row.length)(e:Dz row i=Dz row j):i=j:=by
 obtain⟨n,rfl⟩:=eG h0;obtain⟨k,rfl⟩:=eG g0;have hn:n<row.length:=by lia
 have hk:k<row.length:=by lia
 have e1:Dz row (n:Int)=row[n]:=by simp[Dz,hn]
 have e2:Dz row (k:Int)=row[k]:=by simp[Dz,hk]
 rw[e1,e2]at e;have pw:=jF.mp nd;rcases Nat.lt_trichotomy n k with z|z|z
 .exact absurd e (pw n k hn hk z)
 .rw[z]
 .exact absurd e.symm (pw k n hk hn z)
def AY{α:Type}(f:Nat->α)(n:Nat)(h:∀i j,i<n->j<n->f i=f j->i=j):((List.range n).map f).Nodup:=by refine jF.mpr λi j hi hj Yt e=>?_;rw[cX,eD]at hi hj;rw[mo,mo,lz,lz]at e;have:=h i j hi hj e;lia
def C9{row:QQQ}{c m:Int}(hr:row≠[])(hm:0<m):1<=xR row c m/\(xR row c m:Int)<=m/\xR row c m<=row.length:=by
 have hl:0<row.length:=fB.mpr hr;have d0:=rL (c:=c) (f:=40692) (m:=if (row.length:Int)<m then(row.length:Int)else m) (by split<;>lia);have d1:=rg (c:=c) (f:=40692) (m:=if (row.length:Int)<m then(row.length:Int)else m) (by split<;>lia);unfold xR;by_cases h:(row.length:Int)<m
 .rw[dh h]at d0 d1 ⊢;lia
 .rw[df h]at d0 d1 ⊢;lia
def De{row:QQQ}{c:Int}(hr:row≠[])(j:Nat):0<=(qM c 69621 row.length+(0+(j:Nat))) % (row.length:Int)/\(qM c 69621 row.length+(0+(j:Nat))) % (row.length:Int)<row.length:=by have hl:0<row.length:=fB.mpr hr;exact⟨eU _ (by lia),eP _ (by lia)⟩
def Ku{d n i j:Int}(hn:0<n)(hi:0<=i)(ZY:i<n)(hj:0<=j)(hj':j<n)(e:(d+i) % n=(d+j) % n):i=j:=by
 have h1:=kr (d+i) n;have h2:=kr (d+j) n;generalize (d+i) / n=a at h1;generalize (d+j) / n=b at h2;have h3:i - j=n*(a - b):=by rw[Int.mul_sub];lia
 rcases Int.lt_trichotomy (a - b) 0 with z|z|z
 .have:n*(a - b)<=n*(-1):=ji (by lia) (by lia);lia
 .rw[z]at h3;lia
 .have:n*1<=n*(a - b):=ji (by lia) (by lia);lia
def Jf{row:QQQ}{c m:Int}(nd:row.Nodup)(hr:row≠[])(hm:0<m):(wH row c m).Nodup:=by have hl:0<row.length:=fB.mpr hr;obtain⟨_,_,l3⟩:=C9 (c:=c) hr hm;refine AY _ _ λi j hi hj e=>?_;obtain⟨a0,a1⟩:=De (c:=c) hr i;obtain⟨b0,b1⟩:=De (c:=c) hr j;have e':=J5 nd a0 a1 b0 b1 e;have:=Ku (d:=qM c 69621 row.length) (n:=row.length) (i:=0+(i:Nat)) (j:=0+(j:Nat)) (by lia) (by lia) (by lia) (by lia) (by lia) e';lia
def yB{row:QQQ}{c m k:Int}(nd:row.Nodup)(hr:row≠[])(hm:0<m)(hk:m<=k):tD (wH row c m) row k=Db:=by
 obtain⟨l1,l2,l3⟩:=C9 (c:=c) hr hm;have el:(wH row c m).length=xR row c m:=by unfold wH;rw[cX,eD]
 unfold tD;rw[el,d4 (show(1:Int)<=xR row c m by lia),d4 (show(xR row c m:Int)<=k by lia),En (Jf nd hr hm),eK,eK,eK,eF];intro x hx;unfold wH at hx;obtain⟨j,_,rfl⟩:=dF.mp hx;obtain⟨a0,a1⟩:=De (c:=c) hr j;exact Fw (B6 a0 a1)
def Ce{row:QQQ}{c m:Int}(hr:row≠[])(hm:0<m)(h:m<=100):(wH row c m).length<4000:=by
 obtain⟨l1,l2,l3⟩:=C9 (c:=c) hr hm;have el:(wH row c m).length=xR row c m:=by unfold wH;rw[cX,eD]
 lia
def Rm{c:Int}{own all:QQQ}(no:own.Nodup)(na:all.Nodup)(ho:own≠[])(ha:2<=all.length):C8 own all (xb c own all):=by
 have hl:(0:Int)<own.length:=by have:=fB.mpr ho;lia
 have ha0:all≠[]:=λz=>by rw[z]at ha;simp at ha
 have hx:=Fw (B6 (rL (c:=c) (f:=16807) hl) (rg (c:=c) (f:=16807) hl));have p0:=rL (c:=c) (f:=39373) (m:=all.length) (by lia);have p1:=rg (c:=c) (f:=39373) (m:=all.length) (by lia);have e0:=rL (c:=c) (f:=742938285) (m:=(all.length:Int) - 1) (by lia);have e1:=rg (c:=c) (f:=742938285) (m:=(all.length:Int) - 1) (by lia);have z0:=eU (qM c 39373 all.length+1+qM c 742938285 ((all.length:Int) - 1)) (show(all.length:Int)≠0 by lia);have z1:=eP (qM c 39373 all.length+1+qM c 742938285 ((all.length:Int) - 1)) (show(0:Int)<all.length by lia);have hy:=Fw (B6 p0 p1);have hzz:=Fw (B6 z0 z1);have ne:Dz all (qM c 39373 all.length)≠Dz all ((qM c 39373 all.length+1+qM c 742938285 ((all.length:Int) - 1)) % all.length):=λz=>by
  have q:=J5 na p0 p1 z0 z1 z;have q2:(qM c 39373 all.length+0) % (all.length:Int)=(qM c 39373 all.length+(1+qM c 742938285 ((all.length:Int) - 1))) % (all.length:Int):=by rw[Int.add_zero,Int.emod_eq_of_lt p0 p1,<-Int.add_assoc];exact q
  have:=Ku (by lia) (by lia) (by lia) (by lia) (by lia) q2;lia
 have f0:=rL (c:=c) (f:=22695477) (m:=24) (by decide);have f1:=rg (c:=c) (f:=22695477) (m:=24) (by decide);have g0:=rL (c:=c) (f:=48271) (m:=23) (by decide);have g1:=rg (c:=c) (f:=48271) (m:=23) (by decide);have t0:=rL (c:=c) (f:=950706376) (m:=5) (by decide);have t1:=rg (c:=c) (f:=950706376) (m:=5) (by decide);unfold xb;simp only;split
 .exact⟨hx,Ce ha0 (by decide) (by decide),yB na ha0 (by decide) (by decide)⟩
 .split
  .exact⟨hy,Ce ho (by decide) (by decide),yB no ho (by decide) (by decide)⟩
  .split
   .exact⟨hy,hzz,ne⟩
   .split
    .refine⟨hy,hzz,ne,⟨f0,by lia⟩,⟨eU _ (by decide),?_⟩,?_⟩
     .have:=eP (qM c 22695477 24+1+qM c 48271 23) (show(0:Int)<24 by decide);lia
     .omega
    .split
     .exact⟨hy,hzz,ne⟩
     .split
      .refine⟨hy,hzz,ne,?_⟩;generalize qM c 950706376 5=d at t0 t1;have:d=0\/d=1\/d=2\/d=3\/d=4:=by lia
       rcases this with z|z|z|z|z<;>(subst z;decide)
      .split
       .exact hx
       .exact hx
def L9(s:Int)(i:Nat):Gv (wN s i):=by
 have t0:=rL (c:=s+17*(0+(i:Nat))*(0+(i:Nat))) (f:=16807) (m:=5) (by decide);have t1:=rg (c:=s+17*(0+(i:Nat))*(0+(i:Nat))) (f:=16807) (m:=5) (by decide);have u0:=rL (c:=s+17*(0+(i:Nat))*(0+(i:Nat))) (f:=39373) (m:=6) (by decide);have u1:=rg (c:=s+17*(0+(i:Nat))*(0+(i:Nat))) (f:=39373) (m:=6) (by decide);have a:1<=(wN s i).2.1/\(wN s i).2.1<=3:=by
  show 1<=HS Qi (qM (s+17*(0+(i:Nat))*(0+(i:Nat))) 16807 5)/\HS Qi (qM (s+17*(0+(i:Nat))*(0+(i:Nat))) 16807 5)<=3;generalize qM (s+17*(0+(i:Nat))*(0+(i:Nat))) 16807 5=d at t0 t1;have:d=0\/d=1\/d=2\/d=3\/d=4:=by lia
  rcases this with z|z|z|z|z<;>(subst z;decide)
 have b:0<=(wN s i).2.2/\(wN s i).2.2<=9:=by
  show 0<=HS Q0 (qM (s+17*(0+(i:Nat))*(0+(i:Nat))) 39373 6)/\HS Q0 (qM (s+17*(0+(i:Nat))*(0+(i:Nat))) 39373 6)<=9;generalize qM (s+17*(0+(i:Nat))*(0+(i:Nat))) 39373 6=d at u0 u1;have:d=0\/d=1\/d=2\/d=3\/d=4\/d=5:=by lia
  rcases this with z|z|z|z|z|z<;>(subst z;decide)
 exact⟨eh (CZ s (0+(i:Nat))).2 (by decide),EJ _ _,a.1,a.2,b.1,b.2⟩
def Mb{s:Int}{own:QQQ}(nd:own.Nodup)(hr:own≠[])(i:Nat):FV own (AZ s own i):=by
 have t0:=rL (c:=s+5*(0+(i:Nat))) (f:=742938285) (m:=2) (by decide);have t1:=rg (c:=s+5*(0+(i:Nat))) (f:=742938285) (m:=2) (by decide);refine⟨eh (CZ s (8+(0+(i:Nat)))).2 (by decide),EJ _ _,?_,Ce hr (by decide) (by decide),yB nd hr (by decide) (by decide)⟩;show Dz Rf (qM (s+5*(0+(i:Nat))) 742938285 2)="all"\/Dz Rf (qM (s+5*(0+(i:Nat))) 742938285 2)="turns";generalize qM (s+5*(0+(i:Nat))) 742938285 2=d at t0 t1;have:d=0\/d=1:=by lia
 rcases this with z|z
 .subst z;exact .inl Z'
 .subst z;exact .inr Z'
def MS(s m:Int):(qQ s m).map (·.1)=(List.range (sC s m)).map λi=>ya s (0+(i:Nat)):=by unfold qQ;rw[eA];rfl
def HG{s m:Int}(h2:2<=m)(h8:m<=8):((qQ s m).map (·.1)).Nodup/\∀own,((qQ s m).map (·.1)++(rK s own).map (·.1)).Nodup:=by
 have d1:=rg (c:=s) (f:=48271) (m:=m - 1) (by lia);have d0:=rL (c:=s) (f:=48271) (m:=m - 1) (by lia);have p8:sC s m<=8:=by unfold sC;lia
 have g3:=xB (s:=s);have a:((qQ s m).map (·.1)).Nodup:=by rw[MS];refine AY _ _ λi j hi hj e=>?_;have:=Cn (by lia) (by lia) (by lia) (by lia) e;lia
 refine⟨a,λown=>?_⟩;have ge:(rK s own).map (·.1)=(List.range (wF s)).map λi=>ya s (8+(0+(i:Nat))):=by unfold rK;rw[eA];rfl
 rw[gu];refine⟨a,?_,λx hx y hy e=>?_⟩
 .rw[ge];refine AY _ _ λi j hi hj e=>?_;have:=Cn (by lia) (by lia) (by lia) (by lia) e;lia
 .rw[MS]at hx;rw[ge]at hy;obtain⟨i,hi,rfl⟩:=dF.mp hx;obtain⟨j,hj,rfl⟩:=dF.mp hy;have hi:=fU.mp hi;have hj:=fU.mp hj;have:=Cn (by lia) (by lia) (by lia) (by lia) e;lia
def Qg{m:Int}(h2:2<=m)(h8:m<=8):rb (CJ ns m):=by
 obtain⟨n1,n2⟩:=HG (s:=cell ns 0) h2 h8;have pl:=zr (s:=cell ns 0) h2 (by lia);have p8:sC (cell ns 0) m<=8:=by have d1:=rg (c:=cell ns 0) (f:=48271) (m:=m - 1) (by lia);unfold sC;lia
 have lp:(qQ (cell ns 0) m).length=sC (cell ns 0) m:=by unfold qQ;rw[cX,eD]
 have ol:((qQ (cell ns 0) m).map (·.1)).length=sC (cell ns 0) m:=by rw[cX,lp]
 have one:(qQ (cell ns 0) m).map (·.1)≠[]:=λz=>by rw[z]at ol;have:0=sC (cell ns 0) m:=ol;lia
 have gl:(rK (cell ns 0) ((qQ (cell ns 0) m).map (·.1))).length=wF (cell ns 0):=by unfold rK;rw[cX,eD]
 refine⟨?_,?_,λp hp=>?_,?_,λg hg=>?_,n2 _,?_,λv hv=>?_⟩
 .show 1<=(qQ (cell ns 0) m).length;lia
 .show(qQ (cell ns 0) m).length<=8;lia
 .obtain⟨i,_,rfl⟩:=dF.mp hp;exact L9 _ i
 .show(rK (cell ns 0) ((qQ (cell ns 0) m).map (·.1))).length<=3;rw[gl];exact xB
 .obtain⟨i,_,rfl⟩:=dF.mp hg;exact Mb n1 one i
 .show((List.range (xD (cell ns 0))).map _).length<=16;rw[cX,eD];have d1:=rg (c:=cell ns 0) (f:=950706376) (m:=11) (by decide);unfold xD;lia
 .obtain⟨i,hi,rfl⟩:=dF.mp hv;refine Rm n1 (n2 _) one ?_;show 2<=((qQ (cell ns 0) m).map (·.1)++_).length;rw[c9,ol];lia
structure pQ where
 st:Str
 cr:Str
 way:QQQ
 at_:QQQ
 ms:QQQ
 hd:Option Str
 si:Int
 wd:Option Str
structure sS where
 i:Nat
 f:Str
 g:Str
 y:Str
inductive Ev
 | new (n:Nat) (x:Str)
 | leg (v:sS)
 | asks (i:Nat) (z:Str) (ns:List Nat)
 | next (z:Str) (n:Int)
 | merge (i j:Nat) (ms:QQQ)
 | turn
 | sw (b:Bool) (i:Nat)
 | rings (i:Nat) (ps:QQQ)
 | quiet (i:Nat)
 | waits (i:Nat) (x:Str)
 | talks (i:Nat) (ms:QQQ)
 | held (i:Nat) (x:Str)
 | leaves (i:Nat) (x:Str)
 | over (i:Nat) (w:Str)
structure qG where
 p:Uf
 h:Int
 t:Int
 calls:List pQ
 nk:List sS
 ps:List (Str×Int)
 on:List Bool
 log:List Ev
 fo:QXQ
noncomputable def yr(ns:T0 Nat):D:=.tup (ns.map λn=>D.int (n:Nat))
noncomputable def sS.d(v:sS):D:=.tup [.int (v.i:Nat),.str v.f,.str v.g,.str v.y]
noncomputable def Vx(b:Bool):Str:=if b=Db then "on" else "off"
def Ev.d:Ev->D
 | .new n x=>.tup [.str "new",.int (n:Nat),.str x]
 | .leg v=>.tup [.str "leg",.int (v.i:Nat),.str v.f,.str v.g,.str v.y]
 | .asks i z ns=>.tup [.str "asks",.int (i:Nat),.str z,yr ns]
 | .next z n=>.tup [.str "next",.str z,.int n]
 | .merge i j ms=>.tup [.str "merge",.int (i:Nat),.int (j:Nat),names ms]
 | .turn=>.tup [.str "turn"]
 | .sw b i=>.tup [.str (Vx b),.int (i:Nat)]
 | .rings i ps=>.tup [.str "rings",.int (i:Nat),names ps]
 | .quiet i=>.tup [.str "quiet",.int (i:Nat)]
 | .waits i x=>.tup [.str "waits",.int (i:Nat),.str x]
 | .talks i ms=>.tup [.str "talks",.int (i:Nat),names ms]
 | .held i x=>.tup [.str "held",.int (i:Nat),.str x]
 | .leaves i x=>.tup [.str "leaves",.int (i:Nat),.str x]
 | .over i w=>.tup [.str "over",.int (i:Nat),.str w]
noncomputable def hasS(ss:QQQ)(x:Str):Bool:=ss.any (·==x)
noncomputable def so(ss:QQQ)(x:Str):QQQ:=ss.filter λy=>!(y==x)
noncomputable def Ae(x:Str):pQ:=⟨"rings",x,[],[],[],Fa,0,Fa⟩
noncomputable def pQ.over(c:pQ)(w:Str):pQ:={c with st:="over",wd:=some w,at_:=[],ms:=[],hd:=none}
def pQ.drop(c:pQ)(x:Str):pQ:={c with at_:=so c.at_ x,ms:=so c.ms x}
noncomputable def pQ.ring(c:pQ)(ps:QQQ):pQ:={c with st:="rings",at_:=ps,si:=0}
noncomputable def pQ.nP(c:pQ)(ms:QQQ):pQ:={c with st:="talks",ms:=ms,at_:=[],hd:=none}
noncomputable def pQ.wait(c:pQ)(x:Str):pQ:={c with st:="waits",at_:=[x]}
noncomputable def pQ.hold(c:pQ)(x:Str):pQ:={c with st:="held",hd:=some x}
noncomputable def pQ.nW(c:pQ):pQ:={c with at_:=[]}
noncomputable def pQ.mem(c:pQ)(ms:QQQ):pQ:={c with ms:=ms}
noncomputable def pQ.go(c:pQ)(g:Str):pQ:={c with way:=c.way++[g]}
noncomputable def pQ.tick(c:pQ):pQ:=if (c.st=="rings")=Db then{c with si:=c.si+1}else c
noncomputable def sS.to(m k:Nat)(v:sS):sS:=if v.i=m then{v with i:=k}else v
noncomputable def Dh(ps:T0 (Str×Int))(z:Str)(n:Int):T0 (Str×Int):=if ps.any (λp=>decide (p.1=z))=Db then ps.map (λp=>if p.1=z then(p.1,n)else p)else ps++[(z,n)]
noncomputable def yx(V:qG)(i:Nat)(f:pQ->pQ):qG:={V with calls:=V.calls.modify i f}
noncomputable def rm(V:qG)(e:Ev):qG:={V with log:=V.log++[e]}
def U0(V:qG):Ev->qG
 | .new _ x=>{V with calls:=V.calls++[Ae x]}
 | .leg v=>{V with nk:=V.nk++[v],calls:=V.calls.modify v.i (·.go v.g)}
 | .asks _ _ _=>V
 | .next z n=>{V with ps:=Dh V.ps z n}
 | .merge i j ms=>{V with calls:=(V.calls.modify i (·.over "merged")).modify j (·.mem ms),nk:=V.nk.map (sS.to i j)}
 | .turn=>{V with t:=V.t+1,calls:=V.calls.map pQ.tick}
 | .sw b i=>{V with on:=V.on.set i b}
 | .rings i ps=>yx V i (·.ring ps)
 | .quiet i=>yx V i pQ.nW
 | .waits i x=>yx V i (·.wait x)
 | .talks i ms=>yx V i (·.nP ms)
 | .held i x=>yx V i (·.hold x)
 | .leaves i x=>yx V i (·.drop x)
 | .over i w=>yx V i (·.over w)
def qD(V:qG)(e:Ev):qG:=U0 (rm V e) e
def qY(V:qG)(es:T0 Ev):qG:=es.foldl qD V
def Ev.ok(V:qG):Ev->Prop
 | .new _ _=>True
 | .leg v=>v.i<V.calls.length
 | .asks _ _ _=>True
 | .next _ _=>True
 | .merge i j ms=>i<V.calls.length/\j<V.calls.length/\i≠j/\ms.length<=100
 | .turn=>True
 | .sw _ i=>i<V.on.length
 | .rings i ps=>i<V.calls.length/\ps.length<=100
 | .quiet i=>i<V.calls.length
 | .waits i _=>i<V.calls.length
 | .talks i ms=>i<V.calls.length/\ms.length<=100
 | .held i _=>i<V.calls.length
 | .leaves i _=>i<V.calls.length
 | .over i _=>i<V.calls.length
def su(V:qG)(es fs:T0 Ev):qY V (es++fs)=qY (qY V es) fs:=jz ..
theorem Kc:∀(es:T0 Ev) (V:qG),(qY V es).log=V.log++es
 | [],V=>(eN _).symm
 | e::r,V=>by
  show(qY (qD V e) r).log=_;rw[Kc r];have:(qD V e).log=V.log++[e]:=by cases e<;>rfl
  rw[this,fm];rfl
def pQ.nj(c:pQ)(x:Str):Bool:=(c.st=="talks")&&hasS c.ms x
def pQ.hasB(c:pQ)(x:Str):Bool:=if (c.st=="rings")=Db then(x==c.cr)||hasS c.at_ x else if (c.st=="waits")=Db then x==c.cr else(c.st=="talks"||c.st=="held")&&hasS c.ms x
def pQ.nC(c:pQ)(x:Str):Bool:=if (c.st=="held")=Db then hasS c.ms x&&!((c.hd==ga x))else c.nj x
noncomputable def pQ.ni(c:pQ)(x:Str):Bool:=(c.st=="rings"||c.st=="waits")&&(x==c.cr)
def pQ.mZ(c:pQ)(x:Str):Bool:=(c.st=="waits")&&hasS c.at_ x
def pQ.nM(c:pQ)(x:Str):Bool:=c.ni x||(hasS c.at_ x||hasS c.ms x)
noncomputable def pQ.nq(c:pQ)(x:Str):Bool:=c.nj x&&(c.ms.length==2)
noncomputable def vI(V:qG)(x:Str):Nat:=(V.calls.filter (·.hasB x)).length
noncomputable def xt(l:pV)(x:Str):Int:=(l.nA x).elim 0 λv=>v.2.1
noncomputable def wB(l:pV)(x:Str):Int:=(l.nA x).elim 0 λv=>v.2.2
def uE(l:pV)(V:qG)(x:Str):Bool:=decide ((vI V x:Int)<xt l x)
def uS(l:pV)(V:qG)(c z:Str):QQQ:=(l.mS z).filter λx=>!(x==c)&&uE l V x
def ym(l:pV)(V:qG)(c z:Str):Bool:=(uS l V c z).isEmpty
noncomputable def wA(V:qG)(x:Str):Option Nat:=V.calls.findIdx? (·.nj x)
noncomputable def Fp(V:qG)(x:Str):Option Nat:=V.calls.findIdx? (·.nC x)
noncomputable def KJ(V:qG)(x:Str):Option Nat:=V.calls.findIdx? (·.ni x)
noncomputable def Bo(V:qG)(x:Str):Bool:=V.calls.any (·.mZ x)
noncomputable def Py:Option Nat->D
 | none=>.mY
 | some j=>.int (j:Nat)
noncomputable def Gd(f l h:Int):Bool:=if f<l then decide (f<=h)&&decide (h<l)else decide (h>=f)||decide (h<l)
def Jv(l:pV)(x:Str)(ms:QQQ):Bool:=ms.all λm=>decide (wB l m<wB l x)
def IE(l:pV)(V:qG)(x c z:Str):Bool:=if (!(c==x)||(z==x))=Db then pc else if (!(hasS l.pn z)||!(ym l V c z))=Db then pc else((wA V z).bind (V.calls[·]?)).elim pc λk=>(k.ms.length==2)&&Jv l x k.ms
def zM(l:pV)(V:qG)(c z:Str):Wi->Bool
 | .bar x ns=>(c==x)&&hasS ns z
 | .shut x ns=>(z==x)&&hasS ns c
 | .always x _=>z==x
 | .night x _ f m=>(z==x)&&Gd f m ((V.h+V.t) % 24)
 | .busy x _=>(z==x)&&ym l V c z
 | .silent _ _ _=>pc
 | .wait x=>if (!(z==x)||(c==x))=Db then pc else ym l V c z&&!(Bo V z)
 | .breaks x=>IE l V x c z
noncomputable def HH(c:pQ):Wi->Bool
 | .silent x _ n=>(c.way.getLast?==ga x)&&decide (n<=c.si)
 | _=>pc
noncomputable def Iy(l:pV)(V:qG)(f:Wi->Bool):T0 Nat:=(List.range V.on.length).filter λi=>V.on.getD i pc&&(l.mT[i]?).elim pc λw=>f w.2
def Ak(l:pV)(V:qG)(c z:Str):T0 Nat:=Iy l V (zM l V c z)
noncomputable def vG(ms:QQQ)(n:Nat):QQQ:=ms.drop n++ms.take n
noncomputable def AE(V:qG)(z:Str):Nat:=((V.ps.find? λp=>decide (p.1=z)).elim 0 λp=>p.2).toNat
def yy(l:pV)(V:qG)(c z:Str):QQQ:=if (l.m8 z=="turns")=Db then((vG (l.mS z) (AE V z)).filter λx=>hasS (uS l V c z) x).take 1 else uS l V c z
inductive wO
 | engaged (z:Str)
 | rings (z:Str) (ps:QQQ)
 | waits (z:Str)
 | breaks (z:Str)
 | barred
 | ring (ns:QQQ)
noncomputable def wO.d:wO->D
 | .engaged z=>.tup [.str "engaged",.str z]
 | .rings z ps=>.tup [.str "rings",.str z,names ps]
 | .waits z=>.tup [.str "waits",.str z]
 | .breaks z=>.tup [.str "breaks",.str z]
 | .barred=>.tup [.str "barred"]
 | .ring ns=>.tup [.str "ring",names ns]
def IA(l:pV)(V:qG)(c z:Str):wO:=match yy l V c z with
 | []=>.engaged z
 | x::r=>.rings z (x::r)
noncomputable def Kp(z:Str):Wi->Sum wO Str
 | .bar _ _=>.inl .barred
 | .shut _ _=>.inl .barred
 | .always _ y=>.inr y
 | .night _ y _ _=>.inr y
 | .busy _ y=>.inr y
 | .silent _ y _=>.inr y
 | .wait _=>.inl (.waits z)
 | .breaks _=>.inl (.breaks z)
abbrev tV:=T0 (Str×T0 Nat)
def vD(l:pV)(V:qG)(c:Str):Nat->Str->QQQ->tV->wO×tV
 | 0,_,_,st=>(.barred,st)
 | n+1,z,way,st=>if hasS way z=Db then(.ring (way.drop (way.findIdx (·==z))),st)else
  match Ak l V c z with
  | []=>(IA l V c z,st++[(z,[])])
  | i::r=>(l.mT[i]?).elim (.barred,st) λw=>match Kp z w.2 with
   | .inl e=>(e,st++[(z,i::r)])
   | .inr y=>vD l V c n y (way++[z]) (st++[(z,i::r)])
def vq(l:pV)(V:qG)(c z:Str)(way:QQQ):wO×tV:=vD l V c (l.nm.length+1) z way []
noncomputable def sv(i:Nat):Option Str->tV->T0 Ev
 | _,[]=>[]
 | none,(z,fs)::r=>.asks i z fs::sv i (ga z) r
 | some y,(z,fs)::r=>.leg ⟨i,y,z,y⟩::.asks i z fs::sv i (ga z) r
noncomputable def RU(ms:QQQ)(x:Str):Int:=((ms.findIdx (·==x):Nat)+1) % (ms.length:Int)
def tO(l:pV)(V:qG)(i:Nat):wO->T0 Ev
 | .rings z ps=>(if (l.m8 z=="turns")=Db then[.next z (RU (l.mS z) (ps.headD Str.empty))]else[])++[.rings i ps]
 | .waits z=>[.waits i z]
 | .breaks z=>match wA V z,V.calls[i]? with
  | some j,ga c=>[.merge i j ((V.calls[j]?).elim [] (·.ms)++[c.cr])]
  | _,_=>[]
 | .engaged _=>[.over i "engaged"]
 | .barred=>[.over i "barred"]
 | .ring _=>[.over i "ring"]
noncomputable def uI(i:Nat)(st:tV):wO->T0 Ev
 | .ring ns=>(st.getLast?).elim [] λs=>[.leg ⟨i,s.1,ns.headD Str.empty,s.1⟩]
 | _=>[]
def vZ(l:pV)(V:qG)(i:Nat):T0 Ev:=(V.calls[i]?).elim [] λc=>
 let r:=vq l V c.cr (c.way.getLastD Str.empty) c.way.dropLast
 sv i Fa r.2++(uI i r.2 r.1++tO l V i r.1)
def yH(l:pV)(V:qG)(y z:Str):T0 Ev:=
 let es:=[Ev.new V.calls.length y,.leg ⟨V.calls.length,y,z,y⟩]
 es++vZ l (qY V es) V.calls.length
def xI(V:qG)(x:Str)(i:Nat):T0 Ev:=(V.calls[i]?).elim [] λc=>if c.ni x=Db then[.over i "left"]else if hasS c.at_ x=Db then .leaves i x::(if so c.at_ x=[]then[.over i "refused"]else[])else if 2<c.ms.length then[.leaves i x]else[.over i "done"]
def tQ(l:pV)(V:qG)(i:Nat)(fs:T0 Nat):T0 Ev:=match fs.head?.bind (l.mT[·]?)with
 | some (_,.silent x y _)=>
  let es:=[Ev.asks i x fs,.quiet i,.leg ⟨i,x,y,x⟩]
  es++vZ l (qY V es) i
 | _=>[]
def yS(l:pV)(V:qG)(i:Nat):T0 Nat:=(V.calls[i]?).elim [] λc=>if (c.st=="rings")=Db then Iy l V (HH c)else[]
def rX(l:pV):T0 Nat->qG->T0 Ev
 | [],_=>[]
 | i::r,V=>tQ l V i (yS l V i)++rX l r (qY V (tQ l V i (yS l V i)))
def yI(l:pV)(V:qG):T0 Ev:=.turn::rX l (List.range V.calls.length) (qD V .turn)
inductive rc
 | call (y z:Str)
 | num (w x:Str) (ns:List Int)
 | turn
 | sw (b:Bool) (i:Int)
def rc.d:rc->D
 | .call y z=>.tup [.str "call",.str y,.str z]
 | .num w x ns=>.tup (.str w::.str x::ns.map D.int)
 | .turn=>.tup [.str "turn"]
 | .sw b i=>.tup [.str (Vx b),.int i]
def rc.nz:rc->Prop
 | .num w _ ns=>((w="answer"\/w="hang"\/w="hold"\/w="back")/\ns.length=1)\/((w="hand"\/w="join")/\ns.length=2)
 | _=>True
def vd(V:qG)(x:Str):Option Str:=if (Fp V x).isSome=Db then ga "bound" else if (KJ V x).isSome=Db then ga "calls" else Fa
noncomputable def zP(n:Nat)(i:Int):Bool:=decide (0<=i)&&decide (i<(n:Int))
def JF(w x:Str):List pQ->Bool
 | []=>pc
 | c::r=>if (w=="answer")=Db then hasS c.at_ x else if (w=="hang")=Db then c.nM x else if (w=="hold")=Db then c.nq x else if (w=="back")=Db then c.hd==ga x else(c.hd==ga x)&&(r.head?.elim pc λd=>d.nq x)
noncomputable def ut(V:qG)(ns:T0 Int):List pQ:=ns.filterMap λi=>V.calls[i.toNat]?
def HA(l:pV)(V:qG)(y z:Str):Option Str:=if hasS l.nm z=pc then ga "name" else if ((vd V y).isNone&&!(uE l V y))=Db then ga "full" else vd V y
def Mh(l:pV)(V:qG)(w x:Str)(ns:T0 Int):Option Str:=if ns.all (zP V.calls.length)=pc then ga "call" else if JF w x (ut V ns)=pc then ga "call" else if (w=="answer"||w=="back")=pc then Fa else
 if ((vd V x).isNone&&((ut V ns).head?.elim pc (λc=>c.mZ x)&&!(uE l V x)))=Db then ga "full" else vd V x
def Pb(V:qG)(b:Bool)(i:Int):Option Str:=if zP V.on.length i=pc then ga "wish" else if (V.on.getD i.toNat pc==b)=Db then ga "wish" else Fa
def vM(l:pV)(V:qG):rc->Option Str
 | .turn=>Fa
 | .sw b i=>Pb V b i
 | .call y z=>if hasS l.pn y=pc then ga "name" else HA l V y z
 | .num w x ns=>if hasS l.pn x=pc then ga "name" else Mh l V w x ns
def qS(c:pQ)(x:Str):Str:=(so c.ms x).headD Str.empty
noncomputable def Gr(V:qG)(w x:Str)(i:Nat):Ev:=(V.calls[i]?).elim .turn λc=>if (w=="answer")=Db then .talks i [c.cr,x]else if (w=="hold")=Db then .held i x else .talks i c.ms
def Hh(V:qG)(w x:Str)(i j:Nat):Ev:=(V.calls[i]?).elim .turn λc=>(V.calls[j]?).elim .turn λd=>.merge i j (if (w=="hand")=Db then[qS c x,qS d x]else[x,qS c x,qS d x])
def xf(l:pV)(V:qG):rc->T0 Ev
 | .call y z=>yH l V y z
 | .num w x [i]=>if (w=="hang")=Db then xI V x i.toNat else[Gr V w x i.toNat]
 | .num w x [i,j]=>[Hh V w x i.toNat j.toNat]
 | .num _ _ _=>[]
 | .turn=>yI l V
 | .sw b i=>[.sw b i.toNat]
structure rZ where
 p:Uf
 wy:Uf
structure tG where
 b:Uf
 ca:Uf
 le:Uf
 nx:Uf
 on:Uf
 lo:Uf
 cs:List rZ
noncomputable def BX:Option Str->D
 | none=>.mY
 | some x=>.str x
def rR(c:pQ)(wy ad md:Uf):T0 (Str×D):=[("state",.str c.st),("caller",.str c.cr),("way",.ref wy),("at",.ref ad),("members",.ref md),("holder",BX c.hd),("since",.int c.si),("word",BX c.wd)]
noncomputable def uz(p:D)(h t:Int)(ca le nx on lo:Uf):T0 (Str×D):=[("plan",p),("hour",.int h),("turn",.int t),("calls",.ref ca),("legs",.ref le),("nexts",.ref nx),("on",.ref on),("log",.ref lo)]
noncomputable def uj(ps:T0 (Str×Int)):T0 (rM×D):=ps.map λp=>((Sum.inr p.1:rM),D.int p.2)
noncomputable def tG.lists(A:tG):QXQ:=A.ca::A.le::A.on::A.lo::A.cs.map (·.wy)
noncomputable def tG.foot(A:tG):QXQ:=A.b::A.nx::(A.lists++A.cs.map (·.p))
def sG(a:Ad)(M:Mp)(L:QXQ)(k:rZ)(c:pQ):Prop:=Cv λad md=>M k.p=ga (.ins a.e (rR c k.wy ad md))/\oU M k.wy=ga (c.way.map D.str)/\oU M ad=ga (c.at_.map D.str)/\oU M md=ga (c.ms.map D.str)/\ad∉L/\md∉L
structure pY(a:Ad)(M:Mp)(A:tG)(V:qG):Prop where
 at_:M A.b=ga (.ins a.c (uz (.ref V.p) V.h V.t A.ca A.le A.nx A.on A.lo))
 ca:oU M A.ca=ga (A.cs.map λk=>D.ref k.p)
 le:oU M A.le=ga (V.nk.map sS.d)
 nx:zX M A.nx=ga (uj V.ps)
 on:oU M A.on=ga (V.on.map D.bl)
 lo:oU M A.lo=ga (V.log.map Ev.d)
 len:A.cs.length=V.calls.length
 cs:∀(i:Nat) k c,A.cs[i]?=ga k->V.calls[i]?=ga c->sG a M (A.lists++V.fo) k c
 nl:A.lists.Nodup
 np:(A.b::A.cs.map (·.p)).Nodup
 fo:∀x∈V.fo,∃c,M x=ga c
def xJ{F:QXQ}{M:Mp}{p:Uf}{c:uU}(h:∀x∈F,∃c,M x=ga c):∀x∈F,∃d,pT M p c x=ga d:=λx hx=>by
 by_cases z:x=p
 .exact⟨c,by rw[z];exact qg⟩
 .obtain⟨d,e⟩:=h x hx;exact⟨d,sI.put x d z e⟩
def sG.sub{k:rZ}{c:pQ}(h:sG a M L k c)(s:qH M M'):sG a M' L k c:=by obtain⟨ad,md,h1,h2,h3,h4,h5⟩:=h;exact⟨ad,md,s _ _ h1,s.lst h2,s.lst h3,s.lst h4,h5⟩
def pY.sub{A:tG}{V:qG}(h:pY a M A V)(s:qH M M'):pY a M' A V:=⟨s _ _ h.at_,s.lst h.ca,s.lst h.le,s.dk h.nx,s.lst h.on,s.lst h.lo,h.len,λi k c e1 e2=>(h.cs i k c e1 e2).sub s,h.nl,h.np,λx hx=>(h.fo x hx).imp λc e=>s x c e⟩
def sG.oi{k:rZ}{c:pQ}{x:Uf}{ds:T0 D}(h:sG a M L k c)(kp:sI x M M')(hl:oU M x=ga ds)(hx:x∈L)(hn:k.wy≠x):sG a M' L k c:=by obtain⟨ad,md,h1,h2,h3,h4,h5,h6⟩:=h;exact⟨ad,md,kp _ _ (λz=>by rw[z,qm hl]at h1;cases h1) h1,kp.lst hn h2,kp.lst (λz=>h5 (z ▸ hx)) h3,kp.lst (λz=>h6 (z ▸ hx)) h4,h5,h6⟩
def sG.ou{k:rZ}{c:pQ}{x C:Uf}{fs:T0 (Str×D)}(h:sG a M L k c)(kp:sI x M M')(hi:M x=ga (.ins C fs))(hn:k.p≠x):sG a M' L k c:=by obtain⟨ad,md,h1,h2,h3,h4,h5⟩:=h;exact⟨ad,md,kp _ _ hn h1,kp.lst (qo h2 hi) h2,kp.lst (qo h3 hi) h3,kp.lst (qo h4 hi) h4,h5⟩
def vA{a p:Uf}{ds:T0 (rM×D)}{es:T0 D}(h:zX M a=ga ds)(hp:oU M p=ga es):a≠p:=λz=>by subst z;unfold zX at h;rw[qm hp]at h;cases h
def sG.pA{k:rZ}{c:pQ}{x:Uf}{ds:T0 (rM×D)}(h:sG a M L k c)(kp:sI x M M')(hd:zX M x=ga ds):sG a M' L k c:=by obtain⟨ad,md,h1,h2,h3,h4,h5⟩:=h;exact⟨ad,md,kp _ _ (λz=>by rw[z,yN hd]at h1;cases h1) h1,kp.lst (dZ (vA hd h2)) h2,kp.lst (dZ (vA hd h3)) h3,kp.lst (dZ (vA hd h4)) h4,h5⟩
def rj{α:Type}{l:List α}{i:Nat}{x:α}(h:l[i]?=ga x):x∈l:=ft h
def pY.ne{A:tG}{V:qG}(h:pY a M A V):A.ca≠A.le/\A.ca≠A.on/\A.ca≠A.lo/\A.le≠A.on/\A.le≠A.lo/\A.on≠A.lo/\∀k∈A.cs,k.wy≠A.ca/\k.wy≠A.le/\k.wy≠A.on/\k.wy≠A.lo:=by
 have n:=h.nl;unfold tG.lists at n;obtain⟨n1,n⟩:=dW.mp n;obtain⟨n2,n⟩:=dW.mp n;obtain⟨n3,n⟩:=dW.mp n;obtain⟨n4,n⟩:=dW.mp n;have w:∀k∈A.cs,k.wy∈A.cs.map (·.wy):=λk hk=>dF.mpr ⟨k,hk,Z'⟩;refine⟨λz=>n1 (z ▸ by simp),λz=>n1 (z ▸ by simp),λz=>n1 (z ▸ by simp),λz=>n2 (z ▸ by simp),λz=>n2 (z ▸ by simp),λz=>n3 (z ▸ by simp),λk hk=>⟨λz=>n1 ?_,λz=>n2 ?_,λz=>n3 ?_,λz=>n4 ?_⟩⟩
 .rw[<-z];exact dD _ (dD _ (dD _ (w k hk)))
 .rw[<-z];exact dD _ (dD _ (w k hk))
 .rw[<-z];exact dD _ (w k hk)
 .rw[<-z];exact w k hk
def pY.oA{A:tG}{V:qG}(_:pY a M A V):A.ca∈A.lists/\A.le∈A.lists/\A.lo∈A.lists/\(∀k∈A.cs,k.wy∈A.lists)/\A.on∈A.lists:=by unfold tG.lists;refine⟨by simp,by simp,by simp,?_,by simp⟩;exact λk hk=>by simp;exact .inr (.inr (.inr (.inr ⟨k,hk,Z'⟩)))
def pY.pE{A:tG}{V:qG}(h:pY a M A V):A.ca∈A.lists++V.fo/\A.le∈A.lists++V.fo/\A.lo∈A.lists++V.fo/\(∀k∈A.cs,k.wy∈A.lists++V.fo)/\A.on∈A.lists++V.fo:=by obtain⟨h1,h2,h3,h4,h5⟩:=h.oA;exact⟨eI _ h1,eI _ h2,eI _ h3,λk hk=>eI _ (h4 k hk),eI _ h5⟩
def rB(A:tG)(M:Mp)(A':tG)(M':Mp):Prop:=(∀x c,x∉A.foot->M x=ga c->M' x=ga c)/\(∀x∈A'.foot,x∈A.foot\/M x=Fa)/\(∀(i:Nat) k,A.cs[i]?=ga k->A'.cs[i]?=ga k)/\∀x c,M x=ga c->∃d,M' x=ga d
def B9{M:Mp}{p y:Uf}{c d:uU}(h:M y=ga d):∃e,pT M p c y=ga e:=by
 by_cases z:y=p
 .exact⟨c,by rw[z];exact qg⟩
 .exact⟨d,sI.put y d z h⟩
def rB.refl{A:tG}:rB A M A M:=⟨λ_ _ _ h=>h,λ_ h=>.inl h,λ_ _ h=>h,λ_ c h=>⟨c,h⟩⟩
def rB.trans{A A1 A2:tG}{M M1 M2:Mp}(s:rB A M A1 M1)(u:rB A1 M1 A2 M2):rB A M A2 M2:=by
 refine⟨λx c n h=>u.1 x c (λz=>?_) (s.1 x c n h),λx hx=>?_,λi k h=>u.2.2.1 i k (s.2.2.1 i k h),λx c h=>(s.2.2.2 x c h).elim λd e=>u.2.2.2 x d e⟩
 .rcases s.2.1 x z with y|y
  .exact n y
  .rw[y]at h;cases h
 .rcases u.2.1 x hx with z|z
  .exact s.2.1 x z
  .by_cases y:x∈A.foot
   .exact .inl y
   .refine .inr ?_;cases e:M x with
    | none=>rfl
    | some c=>rw[s.1 x c y e]at z;cases z
def rB.keep{A:tG}{x:Uf}{c:uU}(h:x∈A.foot)(k:sI x M (pT M x c)):rB A M A (pT M x c):=⟨λy c n e=>k y c (λz=>n (z ▸ h)) e,λ_ h=>.inl h,λ_ _ h=>h,λ_ _ h=>B9 h⟩
def rB.sub{A:tG}(s:qH M M'):rB A M A M':=⟨λy c _ e=>s y c e,λ_ h=>.inl h,λ_ _ h=>h,λx c h=>⟨c,s x c h⟩⟩
def tG.ng(A:tG):A.b∈A.foot/\A.nx∈A.foot/\A.ca∈A.foot/\A.le∈A.foot/\A.lo∈A.foot/\(∀k∈A.cs,k.p∈A.foot)/\∀k∈A.cs,k.wy∈A.foot:=by unfold tG.foot tG.lists;exact⟨by simp,by simp,by simp,by simp,by simp,λk hk=>by simp;exact .inr (.inr (.inr (.inr (.inr (.inr (.inr ⟨k,hk,Z'⟩)))))),λk hk=>by simp;exact .inr (.inr (.inr (.inr (.inr (.inr (.inl ⟨k,hk,Z'⟩))))))⟩
def tG.nS(A:tG){x:Uf}(h:x∈A.lists):x∈A.foot:=by unfold tG.foot;exact dD _ (dD _ (dS.mpr (.inl h)))
variable {M M1:Mp}{A:tG}{V:qG}
def Fy{α:Type}{l:List α}{i j:Nat}{x y:α}(h:(l.set i x)[j]?=ga y):(j=i/\y=x/\i<l.length)\/(j≠i/\l[j]?=ga y):=by
 by_cases z:j=i
 .subst z;by_cases hl:j<l.length
  .rw[fF hl]at h;exact .inl ⟨Z',(dq h).symm,hl⟩
  .rw[h9 (by rw[im];lia)]at h;cases h
 .rw[fE (dZ z)]at h;exact .inr ⟨z,h⟩
def OF{α β:Type}{f:α->β}{l:List α}{i j:Nat}{x y:α}(nd:(l.map f).Nodup)(h1:l[i]?=ga x)(h2:l[j]?=ga y)(e:f x=f y):i=j:=by
 have e1:(l.map f)[i]?=ga (f x):=by rw[dG,h1];rfl
 have e2:(l.map f)[j]?=ga (f y):=by rw[dG,h2];rfl
 obtain⟨l1,q1⟩:=de.mp e1;obtain⟨l2,q2⟩:=de.mp e2;exact(lV nd).mp (q1.trans (e.trans q2.symm))
def pY.nw(h:pY a M A V):(A.cs.map (·.wy)).Nodup:=(dW.mp (dW.mp (dW.mp (dW.mp h.nl).2).2).2).2
def pY.pD(h:pY a M A V):(A.cs.map (·.p)).Nodup/\∀k∈A.cs,k.p≠A.b:=⟨(dW.mp h.np).2,λk hk z=>(dW.mp h.np).1 (z ▸ dF.mpr ⟨k,hk,Z'⟩)⟩
def pY.oK(h:pY a M A V){es:T0 Ev}:pY a (pT M A.lo (.lst (es.map Ev.d))) A {V with log:=es}/\rB A M A (pT M A.lo (.lst (es.map Ev.d))):=by have kp:sI A.lo M (pT M A.lo (.lst (es.map Ev.d))):=.put;obtain⟨n1,n2,n3,n4,n5,n6,nw⟩:=h.ne;exact⟨⟨kp _ _ (dZ (qo h.lo h.at_)) h.at_,kp.lst n3 h.ca,kp.lst n5 h.le,kp.dk (vA h.nx h.lo) h.nx,kp.lst n6 h.on,pS,h.len,λi k c e1 e2=>(h.cs i k c e1 e2).oi kp h.lo h.pE.2.2.1 (nw k (rj e1)).2.2.2,h.nl,h.np,xJ h.fo⟩,.keep A.ng.2.2.2.2.1 kp⟩
def pY.oN(h:pY a M A V){es:List sS}:pY a (pT M A.le (.lst (es.map sS.d))) A {V with nk:=es}/\rB A M A (pT M A.le (.lst (es.map sS.d))):=by have kp:sI A.le M (pT M A.le (.lst (es.map sS.d))):=.put;obtain⟨n1,n2,n3,n4,n5,n6,nw⟩:=h.ne;exact⟨⟨kp _ _ (dZ (qo h.le h.at_)) h.at_,kp.lst n1 h.ca,pS,kp.dk (vA h.nx h.le) h.nx,kp.lst (dZ n4) h.on,kp.lst (dZ n5) h.lo,h.len,λi k c e1 e2=>(h.cs i k c e1 e2).oi kp h.le h.pE.2.1 (nw k (rj e1)).2.1,h.nl,h.np,xJ h.fo⟩,.keep A.ng.2.2.2.1 kp⟩
def pY.pq(h:pY a M A V){bs:T0 Bool}:pY a (pT M A.on (.lst (bs.map D.bl))) A {V with on:=bs}/\rB A M A (pT M A.on (.lst (bs.map D.bl))):=by have kp:sI A.on M (pT M A.on (.lst (bs.map D.bl))):=.put;obtain⟨n1,n2,n3,n4,n5,n6,nw⟩:=h.ne;exact⟨⟨kp _ _ (dZ (qo h.on h.at_)) h.at_,kp.lst n2 h.ca,kp.lst n4 h.le,kp.dk (vA h.nx h.on) h.nx,pS,kp.lst (dZ n6) h.lo,h.len,λi k c e1 e2=>(h.cs i k c e1 e2).oi kp h.on h.pE.2.2.2.2 (nw k (rj e1)).2.2.1,h.nl,h.np,xJ h.fo⟩,.keep (A.nS h.oA.2.2.2.2) kp⟩
def pY.pk(h:pY a M A V){ps:T0 (Str×Int)}:pY a (pT M A.nx (.dk (uj ps))) A {V with ps:=ps}/\rB A M A (pT M A.nx (.dk (uj ps))):=by have kp:sI A.nx M (pT M A.nx (.dk (uj ps))):=.put;exact⟨⟨kp _ _ (dZ (Cp h.nx h.at_)) h.at_,kp.lst (dZ (vA h.nx h.ca)) h.ca,kp.lst (dZ (vA h.nx h.le)) h.le,CM qg,kp.lst (dZ (vA h.nx h.on)) h.on,kp.lst (dZ (vA h.nx h.lo)) h.lo,h.len,λi k c e1 e2=>(h.cs i k c e1 e2).pA kp h.nx,h.nl,h.np,xJ h.fo⟩,.keep A.ng.2.1 kp⟩
def pY.putT(h:pY a M A V){t:Int}:pY a (pT M A.b (.ins a.c (uz (.ref V.p) V.h t A.ca A.le A.nx A.on A.lo))) A {V with t:=t}/\rB A M A (pT M A.b (.ins a.c (uz (.ref V.p) V.h t A.ca A.le A.nx A.on A.lo))):=by have kp:sI A.b M (pT M A.b (.ins a.c (uz (.ref V.p) V.h t A.ca A.le A.nx A.on A.lo))):=.put;exact⟨⟨qg,kp.lst (qo h.ca h.at_) h.ca,kp.lst (qo h.le h.at_) h.le,kp.dk (Cp h.nx h.at_) h.nx,kp.lst (qo h.on h.at_) h.on,kp.lst (qo h.lo h.at_) h.lo,h.len,λi k c e1 e2=>(h.cs i k c e1 e2).ou kp h.at_ (h.pD.2 k (rj e1)),h.nl,h.np,xJ h.fo⟩,.keep A.ng.1 kp⟩
def pY.oF(h:pY a M A V){i:Nat}{k:rZ}{c c':pQ}{ad md:Uf}(e1:A.cs[i]?=ga k)(e2:V.calls[i]?=ga c)(ew:c'.way=c.way)(la:oU M ad=ga (c'.at_.map D.str))(lm:oU M md=ga (c'.ms.map D.str))(na:ad∉A.lists++V.fo)(nm:md∉A.lists++V.fo):
  pY a (pT M k.p (.ins a.e (rR c' k.wy ad md))) A {V with calls:=V.calls.set i c'}/\rB A M A (pT M k.p (.ins a.e (rR c' k.wy ad md))):=by
 have kp:sI k.p M (pT M k.p (.ins a.e (rR c' k.wy ad md))):=.put;obtain⟨_,_,h1,h2,_⟩:=h.cs i k c e1 e2;refine⟨⟨kp _ _ (dZ (h.pD.2 k (rj e1))) h.at_,kp.lst (qo h.ca h1) h.ca,kp.lst (qo h.le h1) h.le,kp.dk (Cp h.nx h1) h.nx,kp.lst (qo h.on h1) h.on,kp.lst (qo h.lo h1) h.lo,by rw[h.len,im],λj k' d f1 f2=>?_,h.nl,h.np,xJ h.fo⟩,.keep (A.ng.2.2.2.2.2.1 k (rj e1)) kp⟩;rcases Fy f2 with⟨rfl,rfl,_⟩|⟨hj,f2⟩
 .rw[e1]at f1;cases f1;exact⟨ad,md,qg,by rw[ew];exact kp.lst (qo h2 h1) h2,kp.lst (qo la h1) la,kp.lst (qo lm h1) lm,na,nm⟩
 .exact(h.cs j k' d f1 f2).ou kp h1 λz=>hj (OF h.pD.1 f1 e1 z)
def pY.oP(h:pY a M A V){i:Nat}{k:rZ}{c:pQ}{ws:QQQ}(e1:A.cs[i]?=ga k)(e2:V.calls[i]?=ga c):
  pY a (pT M k.wy (.lst (ws.map D.str))) A {V with calls:=V.calls.set i {c with way:=ws}}/\rB A M A (pT M k.wy (.lst (ws.map D.str))):=by
 have kp:sI k.wy M (pT M k.wy (.lst (ws.map D.str))):=.put;obtain⟨ad,md,h1,h2,h3,h4,h5,h6⟩:=h.cs i k c e1 e2;obtain⟨n1,n2,n3,n4,n5,n6,nw⟩:=h.ne;obtain⟨w1,w2,w3,w4⟩:=nw k (rj e1);have kL:=h.pE.2.2.2.1 k (rj e1);refine⟨⟨kp _ _ (dZ (qo h2 h.at_)) h.at_,kp.lst (dZ w1) h.ca,kp.lst (dZ w2) h.le,kp.dk (vA h.nx h2) h.nx,kp.lst (dZ w3) h.on,kp.lst (dZ w4) h.lo,by rw[h.len,im],λj k' d f1 f2=>?_,h.nl,h.np,xJ h.fo⟩,.keep (A.ng.2.2.2.2.2.2 k (rj e1)) kp⟩;rcases Fy f2 with⟨rfl,rfl,_⟩|⟨hj,f2⟩
 .rw[e1]at f1;cases f1;exact⟨ad,md,kp _ _ (dZ (qo h2 h1)) h1,pS,kp.lst (λz=>h5 (z ▸ kL)) h3,kp.lst (λz=>h6 (z ▸ kL)) h4,h5,h6⟩
 .exact(h.cs j k' d f1 f2).oi kp h2 kL λz=>hj (OF h.nw f1 e1 z)
noncomputable def tG.add(A:tG)(k:rZ):tG:={A with cs:=A.cs++[k]}
def AQ(A:tG)(k:rZ):(A.add k).lists=A.lists++[k.wy]:=by unfold tG.add tG.lists;rw[dP];rfl
def pY.oM(h:pY a M A V):(∀x∈A.lists,∃ds,oU M x=ga ds)/\∀x∈A.foot,∃c,M x=ga c:=by
 have hc:∀k∈A.cs,(∃ds,oU M k.wy=ga ds)/\∃c,M k.p=ga c:=λk hk=>by
  obtain⟨i,hi,e⟩:=gQ hk;have e1:A.cs[i]?=ga k:=by rw[cZ hi,e]
  have Ze:i<V.calls.length:=by rw[<-h.len];exact hi
  have e2:V.calls[i]?=ga V.calls[i]:=cZ Ze;obtain⟨ad,md,h1,h2,_⟩:=h.cs i k _ e1 e2;exact⟨⟨_,h2⟩,_,h1⟩
 have hl:∀x∈A.lists,∃ds,oU M x=ga ds:=λx hx=>by
  unfold tG.lists at hx;simp only[dz,dF]at hx;rcases hx with rfl|rfl|rfl|rfl|⟨k,hk,rfl⟩
  .exact⟨_,h.ca⟩
  .exact⟨_,h.le⟩
  .exact⟨_,h.on⟩
  .exact⟨_,h.lo⟩
  .exact(hc k hk).1
 refine⟨hl,λx hx=>?_⟩;unfold tG.foot at hx;simp only[dz,dS,dF]at hx;rcases hx with rfl|rfl|hx|⟨k,hk,rfl⟩
 .exact⟨_,h.at_⟩
 .exact⟨_,yN h.nx⟩
 .obtain⟨ds,e⟩:=hl x hx;exact⟨_,qm e⟩
 .exact(hc k hk).2
def pY.ow(h:pY a M A V){x:Uf}(hx:M x=Fa):x∉A.lists:=λz=>by obtain⟨ds,e⟩:=h.oM.1 x z;have:=qm e;rw[hx]at this;cases this
def pY.nG(h:pY a M A V){x:Uf}(hx:M x=Fa):x∉A.lists++V.fo:=λz=>by
 rcases dS.mp z with z|z
 .exact h.ow hx z
 .obtain⟨c,e⟩:=h.fo x z;rw[hx]at e;cases e
def pY.oa(h:pY a M A V){x:Uf}(hx:M x=Fa):x∉A.foot:=λz=>by obtain⟨ds,e⟩:=h.oM.2 x z;rw[hx]at e;cases e
def pY.oC(h:pY a M A V)(s:qH M M1){p wy ad md:Uf}{c:pQ}(hp:M p=Fa)(hw:M wy=Fa)(ha:M ad=Fa)(hm:M md=Fa)(h1:M1 p=ga (.ins a.e (rR c wy ad md)))(h2:oU M1 wy=ga (c.way.map D.str))(h3:oU M1 ad=ga (c.at_.map D.str))(h4:oU M1 md=ga (c.ms.map D.str))(n1:ad≠wy)(n2:md≠wy):
  pY a (pT M1 A.ca (.lst ((A.cs.map λk=>D.ref k.p)++[.ref p]))) (A.add ⟨p,wy⟩) {V with calls:=V.calls++[c]}/\rB A M (A.add ⟨p,wy⟩) (pT M1 A.ca (.lst ((A.cs.map λk=>D.ref k.p)++[.ref p]))):=by
 have h':=h.sub s;have kp:sI A.ca M1 (pT M1 A.ca (.lst ((A.cs.map λk=>D.ref k.p)++[.ref p]))):=.put;obtain⟨m1,m2,m3,m4,m5,m6,nw⟩:=h.ne;have wL:wy∉A.lists:=h.ow hw;have cL:=h.pE.1;have nl':∀x,x∉A.lists++V.fo->x≠wy->x∉(A.add ⟨p,wy⟩).lists++V.fo:=λx h1 h2=>by
  rw[AQ,dS,dS,dB]
  rintro ((z|z)|z)
  .exact h1 (eI _ z)
  .exact h2 z
  .exact h1 (dR _ z)
 have YR:∀x c,M x=ga c->x≠wy:=λx c e z=>by rw[z,hw]at e;cases e
 refine⟨⟨kp _ _ (dZ (qo h'.ca h'.at_)) h'.at_,?_,kp.lst (dZ m1) h'.le,kp.dk (vA h'.nx h'.ca) h'.nx,kp.lst (dZ m2) h'.on,kp.lst (dZ m3) h'.lo,?_,λi k d e1 e2=>?_,?_,?_,xJ h'.fo⟩,λx d n e=>kp x d (λz=>n (z ▸ A.ng.2.2.1)) (s x d e),λx hx=>?_,λi k e=>by show(A.cs++[(⟨p,wy⟩:rZ)])[i]?=ga k;rw[e9 (de.mp e).1];exact e,λx d e=>B9 (s x d e)⟩
 .show oU _ A.ca=ga ((A.cs++[(⟨p,wy⟩:rZ)]).map λk=>D.ref k.p);rw[dP];exact pS
 .show(A.cs++[(⟨p,wy⟩:rZ)]).length=(V.calls++[c]).length;rw[c9,c9,h.len];rfl
 .have e1:(A.cs++[(⟨p,wy⟩:rZ)])[i]?=ga k:=e1;have e2:(V.calls++[c])[i]?=ga d:=e2;by_cases hi:i<A.cs.length
  .rw[e9 hi]at e1;rw[e9 (by rw[<-h.len];exact hi)]at e2;obtain⟨ad',md',g1,g2,g3,g4,g5,g6⟩:=(h.cs i k d e1 e2);refine⟨ad',md',kp _ _ (λz=>by have:=s _ _ g1;rw[z,qm h'.ca]at this;cases this) (s _ _ g1),kp.lst (nw k (rj e1)).1 (s.lst g2),kp.lst (λz=>g5 (z ▸ cL)) (s.lst g3),kp.lst (λz=>g6 (z ▸ cL)) (s.lst g4),nl' _ g5 (YR _ _ (qm g3)),nl' _ g6 (YR _ _ (qm g4))⟩
  .have ZY:i=A.cs.length:=by have:=(de.mp e1).1;rw[c9,dI]at this;lia
   subst ZY;rw[eY (dw _)]at e1;rw[h.len,eY (dw _)]at e2;simp only[ib,iO,jA]at e1 e2;subst e1 e2;have q1:p≠A.ca:=λz=>by rw[z,qm h'.ca]at h1;cases h1
   have q2:wy≠A.ca:=λz=>wL (z ▸ h.oA.1);exact⟨ad,md,kp p _ q1 h1,kp.lst (a:=wy) q2 h2,kp.lst (λz=>h.nG ha (z ▸ cL)) h3,kp.lst (λz=>h.nG hm (z ▸ cL)) h4,nl' _ (h.nG ha) n1,nl' _ (h.nG hm) n2⟩
 .rw[AQ];refine gu.mpr ⟨h.nl,dW.mpr ⟨dX,eM⟩,λx hx y hy=>?_⟩;rw[dB]at hy;subst hy;exact λz=>wL (z ▸ hx)
 .show(A.b::(A.cs++[(⟨p,wy⟩:rZ)]).map (·.p)).Nodup;rw[dP,<-List.cons_append];refine gu.mpr ⟨h.np,dW.mpr ⟨dX,eM⟩,λx hx y hy=>?_⟩;rw[d6,ja,dB]at hy;subst hy;refine λz=>h.oa hp (z ▸ ?_);rcases dz.mp hx with y|y
  .rw[y];exact A.ng.1
  .obtain⟨k,hk,rfl⟩:=dF.mp y;exact A.ng.2.2.2.2.2.1 k hk
 .unfold tG.foot at hx;rw[AQ]at hx;have hx:x∈A.b::A.nx::(A.lists++[wy]++(A.cs++[(⟨p,wy⟩:rZ)]).map (·.p)):=hx;simp only[dz,dS,dP,d6,ja,dX,fR]at hx;unfold tG.foot;simp only[dz,dS];rcases hx with z|z|(z|z)|(z|z)
  .exact .inl (.inl z)
  .exact .inl (.inr (.inl z))
  .exact .inl (.inr (.inr (.inl z)))
  .exact .inr (by rw[z];exact hw)
  .exact .inl (.inr (.inr (.inr z)))
  .exact .inr (by rw[z];exact hp)
def pY.oS{V:qG}{p:Uf}{es:List sS}(h:pY a M A V)(hp:M p=Fa):
  pY a (pT (pT M p (.lst (es.map sS.d))) A.b (.ins a.c (uz (.ref V.p) V.h V.t A.ca p A.nx A.on A.lo))) {A with le:=p} {V with nk:=es}/\rB A M {A with le:=p} (pT (pT M p (.lst (es.map sS.d))) A.b (.ins a.c (uz (.ref V.p) V.h V.t A.ca p A.nx A.on A.lo))):=by
 have t:=qH.new (c:=.lst (es.map sS.d)) hp;have lp:=@pS M p (es.map sS.d);have h1:=h.sub t;have np:p∉A.lists:=h.ow hp;have nf:p∉A.foot:=h.oa hp;have YR:∀x c,M x=ga c->x≠p:=λx c e z=>by rw[z,hp]at e;cases e
 generalize pT M p (.lst (es.map sS.d))=M1 at t lp h1 ⊢;have kp:sI A.b M1 (pT M1 A.b (.ins a.c (uz (.ref V.p) V.h V.t A.ca p A.nx A.on A.lo))):=.put;have sub:∀x,x∉A.lists++V.fo->x≠p->x∉({A with le:=p}:tG).lists++V.fo:=λx h1 h2 z=>by
  rcases dS.mp z with z|z
  rotate_left
  .exact h1 (dR _ z)
  have h1:x∉A.lists:=λy=>h1 (eI _ y);unfold tG.lists at h1 z;simp only[dz,gN]at h1 z;rcases z with z|z|z|z|z
  .exact h1.1 z
  .exact h2 z
  .exact h1.2.2.1 z
  .exact h1.2.2.2.1 z
  .exact h1.2.2.2.2 z
 refine⟨⟨qg,kp.lst (qo h1.ca h1.at_) h1.ca,kp.lst (qo lp h1.at_) lp,kp.dk (Cp h1.nx h1.at_) h1.nx,kp.lst (qo h1.on h1.at_) h1.on,kp.lst (qo h1.lo h1.at_) h1.lo,h.len,λi k c e1 e2=>?_,?_,h.np,xJ h1.fo⟩,λx c n e=>kp x c (λz=>n (z ▸ A.ng.1)) (t x c e),λx hx=>?_,λi k e=>e,λx d e=>B9 (t x d e)⟩
 .obtain⟨ad,md,g1,g2,g3,g4,g5,g6⟩:=(h.cs i k c e1 e2);obtain⟨ad',md',f1,f2,f3,f4,f5⟩:=((h.cs i k c e1 e2).sub t).ou kp h1.at_ (h.pD.2 k (rj e1));have q1:=kp _ _ (λz=>h.pD.2 k (rj e1) z) (t _ _ g1);exact⟨ad,md,q1,f2,kp.lst (qo (t.lst g3) h1.at_) (t.lst g3),kp.lst (qo (t.lst g4) h1.at_) (t.lst g4),sub _ g5 (YR _ _ (qm g3)),sub _ g6 (YR _ _ (qm g4))⟩
 .have n:=h.nl;unfold tG.lists at n np ⊢;simp only[dz,gN]at np;simp only[dW,dz,gN]at n ⊢;exact⟨⟨λz=>np.1 z.symm,n.1.2⟩,⟨np.2.2.1,np.2.2.2.1,np.2.2.2.2⟩,n.2.2⟩
 .by_cases z:x=p
  .exact .inr (z ▸ hp)
  .refine .inl ?_;unfold tG.foot tG.lists at hx ⊢;simp only[dz,dS]at hx ⊢;rcases hx with y|y|(y|y|y|y|y)|y
   .exact .inl y
   .exact .inr (.inl y)
   .exact .inr (.inr (.inl (.inl y)))
   .exact absurd y z
   .exact .inr (.inr (.inl (.inr (.inr (.inl y)))))
   .exact .inr (.inr (.inl (.inr (.inr (.inr (.inl y))))))
   .exact .inr (.inr (.inl (.inr (.inr (.inr (.inr y))))))
   .exact .inr (.inr (.inr y))
def pY.frame{V:qG}(h:pY a M A V)(st:rB A1 M A2 M')(h1:∀x∈A1.foot,x∉A.foot)(h2:∀x∈A1.foot,x∈V.fo\/M x=Fa):pY a M' A V:=by
 have hf:∀x∈A.foot,∀c,M x=ga c->M' x=ga c:=λx hx c e=>st.1 x c (λz=>h1 x z hx) e;have hl:∀{x:Uf} {ds:T0 D},x∈A.foot->oU M x=ga ds->oU M' x=ga ds:=λhx e=>sd (hf _ hx _ (qm e));have ho:∀{x:Uf} {ds:T0 D},x∉A.lists++V.fo->oU M x=ga ds->oU M' x=ga ds:=λ{x ds} hx e=>sd (st.1 x _ (λz=>(h2 x z).elim (λy=>hx (dR _ y)) λy=>by rw[qm e]at y;cases y) (qm e));obtain⟨f1,f2,f3,f4,f5,f6,f7⟩:=A.ng;exact⟨hf _ f1 _ h.at_,hl f3 h.ca,hl f4 h.le,CM (hf _ f2 _ (yN h.nx)),hl (A.nS h.oA.2.2.2.2) h.on,hl f5 h.lo,h.len,λi k c e1 e2=>by
  obtain⟨ad,md,g1,g2,g3,g4,g5,g6⟩:=h.cs i k c e1 e2;exact⟨ad,md,hf _ (f6 k (rj e1)) _ g1,hl (f7 k (rj e1)) g2,ho g5 g3,ho g6 g4,g5,g6⟩,h.nl,h.np,λx hx=>(h.fo x hx).elim λc e=>st.2.2.2 x c e⟩
def zZ(x:D)(l:T0 D):wY (x::l) 0=ga x:=by
 unfold wY;have:Gc (x::l).length 0=ga 0:=by unfold Gc;rw[eE];simp
 rw[this];rfl
def xY(f:pQ->Str->Bool)(a:Ad):rQ:=λds M Q=>B0 λL k c x=>ds=[.ref k.p,.str x]/\sG a M L k c/\Q (.bl (f c x)) M
abbrev IT:=xY pQ.hasB
abbrev AD:=xY pQ.nj
abbrev FC:=xY pQ.nC
abbrev zy:=xY pQ.ni
abbrev wz:=xY pQ.mZ
abbrev FW:=xY pQ.nq
abbrev xT:=xY pQ.nM
noncomputable def Qs(x:Str):D->Bool
 | .str y=>!(y==x)
 | _=>pc
def Aw(a:Ad):rQ:=λds M Q=>Kg λL k c x y r=>ds=[.ref k.p,.str x]/\sG a M L k c/\c.ms.length<=100/\so c.ms x=y::r/\Q (.str y) M
def Cu(ss:QQQ)(x:Str):[]++(List.filter (Qs x) (ss.map D.str)).map id=(so ss x).map D.str:=by rw[d9,jp,gW];rfl
def EE{k:Uf}{ks:QQQ}{c:Str}{K:DK}(hk:oU M k=ga (ks.map D.str))(h:K (.bl (hasS ks c)) M):UF pc (.str c) (.ref k) M K:=by refine i' hk ⟨Z',qP ks,?_⟩;show K (.bl (inD (.str c) (ks.map D.str))) M;rw[tF];exact h
def XY(w x y:Str):inD (.str w) [.str x,.str y]=(w==x||w==y):=by rw[show[D.str x,D.str y]=[x,y].map D.str from rfl,tF,fZ];simp only[gg,List.any_nil,kG,gU,eZ];exact⟨λh=>h.imp mD mD,λh=>h.imp mD mD⟩
def SS:Fq P w K mg base 1 a.bM (IT a):=by
 refine fq G.bM.toDG GI (λr u=>⟨_,(pL (qh (pX u (pR v0) pP)
 (pM (pU (JK (qE u Y1 (pR v0)) (tP (qE u Y1 (pR v0))))))
 qa)
 (pL (qh (pX u (pR v0) pP)
 (pM (pU (qE u Y1 (pR v0))))
 qa)
 (pM (pU (uc (qE u (pR v0) (qe (r6 pP pP))) (tP (qE u Y1 (pR v0)))))))),?_⟩)
 rintro ds M Q ⟨L,k,c,x,rfl,⟨ad,md,h1,h2,h3,h4,_⟩,q⟩
 unfold pQ.hasB at q;refine pN h1 (i' Z' ?_);refine qU (c:=c.st=="rings") (λg=>?_) (λg=>?_)
 .rw[dh g]at q;refine pN h1 (i' Z' (qU (c:=x==c.cr) (λg2=>?_) (λg2=>?_)))
  .rw[g2]at q;exact⟨M,.refl,q⟩
  .rw[show(x==c.cr)=pc from dQ.mpr g2,fO]at q;exact pN h1 (i' Z' (EE h3 ⟨M,.refl,q⟩))
 .rw[df g]at q;refine pN h1 (i' Z' ?_);refine qU (c:=c.st=="waits") (λg2=>?_) (λg2=>?_)
  .rw[dh g2]at q;exact pN h1 (i' Z' ⟨M,.refl,q⟩)
  .rw[df g2]at q;refine pN h1 (i' Z' ⟨pJ Z',Z',Z',?_⟩);show if inD (.str c.st) [.str "talks",.str "held"]=Db then _ else _
   rw[XY];refine qU (λg3=>?_) (λg3=>?_)
   .rw[g3,eK]at q;exact pN h1 (i' Z' (EE h4 ⟨M,.refl,q⟩))
   .rw[show(c.st=="talks"||c.st=="held")=pc from dQ.mpr g3,eV]at q;exact⟨M,.refl,q⟩
def wU:Fq P w K mg base 1 a.aa (AD a):=by
 refine fq G.aa.toDG zK (λr u=>⟨_,(pM (pU (uc (qE u (pR v0) pP) (tP (qE u Y1 (pR v0)))))),?_⟩)
 rintro ds M Q ⟨L,k,c,x,rfl,⟨ad,md,h1,h2,h3,h4,_⟩,q⟩
 unfold pQ.nj at q;refine pN h1 (i' Z' (qU (c:=c.st=="talks") (λg=>?_) (λg=>?_)))
 .rw[g,eK]at q;exact pN h1 (i' Z' (EE h4 ⟨M,.refl,q⟩))
 .rw[show(c.st=="talks")=pc from dQ.mpr g,eV]at q;exact⟨M,.refl,q⟩
def Oi:Fq P w K mg base 2 a.bL (FC a):=by
 refine fq G.bL.toDG Ef (λr u=>⟨_,(pL (qh (pX u (pR v0) pP)
 (pM (pU (uc (qE u Y1 (pR v0)) (tP (qE u Y1 (pR v0))))))
 qa)
 (pM (pU (qu v0 G.e.toCls G.aa (wU G) r (qz Y1))))),?_⟩)
 rintro ds M Q ⟨L,k,c,x,rfl,hc,q⟩
 obtain⟨ad,md,h1,h2,h3,h4,_⟩:=id hc;unfold pQ.nC at q;refine pN h1 (i' Z' ?_);refine qU (c:=c.st=="held") (λg=>?_) (λg=>?_)
 .rw[dh g]at q;refine pN h1 (i' Z' (i' h4 ⟨Z',qP c.ms,?_⟩));show if inD (.str x) (c.ms.map D.str)=Db then _ else _
  rw[tF];refine qU (c:=hasS c.ms x) (λg2=>?_) (λg2=>?_)
  .rw[g2,eK]at q;refine pN h1 (i' Z' ?_);cases e:c.hd with
   | none=>rw[e]at q;exact⟨M,.refl,q⟩
   | some y=>
    rw[e]at q;refine⟨M,.refl,?_⟩;rw[show(!(ga y==ga x))=!(x==y)from by
     show(!(y==x))=_;rw[mE]]at q
    exact q
  .rw[show hasS c.ms x=pc from dQ.mpr g2,eV]at q;exact⟨M,.refl,q⟩
 .rw[df g]at q;exact pN h1 ⟨Z',_,⟨Z',Z'⟩,L,k,c,x,Z',hc,M,.refl,q⟩
def Dx:Fq P w K mg base 1 a.ab (zy a):=by
 refine fq G.ab.toDG yQ (λr u=>⟨_,(pM (pU (uc (qE u (pR v0) (qe (r6 pP pP))) (tP (qE u Y1 (pR v0)))))),?_⟩)
 rintro ds M Q ⟨L,k,c,x,rfl,⟨ad,md,h1,h2,h3,h4,_⟩,q⟩
 unfold pQ.ni at q;refine pN h1 (i' Z' ⟨pJ Z',Z',Z',?_⟩);show if inD (.str c.st) [.str "rings",.str "waits"]=Db then _ else _
 rw[XY];refine qU (λg3=>?_) (λg3=>?_)
 .rw[g3,eK]at q;exact pN h1 (i' Z' ⟨M,.refl,q⟩)
 .rw[show(c.st=="rings"||c.st=="waits")=pc from dQ.mpr g3,eV]at q;exact⟨M,.refl,q⟩
def HU:Fq P w K mg base 1 a.aB (wz a):=by
 refine fq G.aB.toDG zo (λr u=>⟨_,(pM (pU (uc (qE u (pR v0) pP) (tP (qE u Y1 (pR v0)))))),?_⟩)
 rintro ds M Q ⟨L,k,c,x,rfl,⟨ad,md,h1,h2,h3,h4,_⟩,q⟩
 unfold pQ.mZ at q;refine pN h1 (i' Z' (qU (c:=c.st=="waits") (λg=>?_) (λg=>?_)))
 .rw[g,eK]at q;exact pN h1 (i' Z' (EE h3 ⟨M,.refl,q⟩))
 .rw[show(c.st=="waits")=pc from dQ.mpr g,eV]at q;exact⟨M,.refl,q⟩
def OL:Fq P w K mg base 2 a.bK (xT a):=by
 refine fq G.bK.toDG xG (λr u=>⟨_,(pM (pU (JK (qu v0 G.e.toCls G.ab (Dx G) r (qz Y1)) (JK (qE u Y1 (pR v0)) (tP (qE u Y1 (pR v0))))))),?_⟩)
 rintro ds M Q ⟨L,k,c,x,rfl,hc,q⟩
 obtain⟨ad,md,h1,h2,h3,h4,_⟩:=id hc;unfold pQ.nM at q;refine pN h1 ⟨Z',_,⟨Z',Z'⟩,L,k,c,x,Z',hc,qU (c:=c.ni x) (λg=>?_) (λg=>?_)⟩
 .rw[g]at q;exact⟨M,.refl,q⟩
 .rw[show c.ni x=pc from dQ.mpr g,fO]at q;refine pN h1 (i' Z' (i' h3 ⟨Z',qP c.at_,?_⟩));show if inD (.str x) (c.at_.map D.str)=Db then _ else _
  rw[tF];refine qU (c:=hasS c.at_ x) (λg2=>?_) (λg2=>?_)
  .rw[g2]at q;exact⟨M,.refl,q⟩
  .rw[show hasS c.at_ x=pc from dQ.mpr g2,fO]at q;exact pN h1 (i' Z' (EE h4 ⟨M,.refl,q⟩))
def HD:Fq P w K mg base 2 a.aD (FW a):=by
 refine fq G.aD.toDG Eh (λr u=>⟨_,(pM (pU (uc (qu v0 G.e.toCls G.aa (wU G) r (qz Y1)) (tP (qE u (ql qR Z' G.g qO (qz (pR v0))) pO))))),?_⟩)
 rintro ds M Q ⟨L,k,c,x,rfl,hc,q⟩
 obtain⟨ad,md,h1,h2,h3,h4,_⟩:=id hc;unfold pQ.nq at q;refine pN h1 ⟨Z',_,⟨Z',Z'⟩,L,k,c,x,Z',hc,qU (c:=c.nj x) (λg=>?_) (λg=>?_)⟩
 .rw[g,eK]at q;refine pN h1 (i' Z' (i' h4 ⟨M,.refl,?_⟩));rw[cX];have:(((c.ms.length:Nat):Int)==2)=(c.ms.length==2):=by rw[fZ,eZ,eZ];lia
  show Q (.bl (((c.ms.length:Nat):Int)==2)) M;rw[this];exact q
 .rw[show c.nj x=pc from dQ.mpr g,eV]at q;exact⟨M,.refl,q⟩
def G8:Fq P w K mg base 1 a.aC (Aw a):=by
 refine fq G.aC.toDG zI (λr u=>⟨_,(pM (pU (pZ (qT Z' (xV (ix:=[Fa,ga 1]) (N':=["member","phone"])) (ra (pR v0)) (qN 0) (vS (pX u v0 Y1)) v0) pO))),?_⟩)
 rintro ds M Q ⟨L,k,c,x,y,r,rfl,hc,hl,e,q⟩
 have hz:=dO;obtain⟨ad,md,h1,h2,h3,h4,_⟩:=id hc;refine pN h1 (i' Z' (i' h4 (uo (f:=id) (t:=Qs x) h4 _ [] _ (by rw[cX];simp only[dN];lia) (λd hd k0 hk=>?_) (λd hd _ k0 hk=>?_) λp hp=>?_)))
 .obtain⟨y,hy,rfl⟩:=dF.mp hd;exact hk
 .obtain⟨y,hy,rfl⟩:=dF.mp hd;exact hk
 rw[Cu,e];exact i' pS (i' (zZ _ _) ⟨M,.new hp,q⟩)
theorem CN:∀bs:T0 Bool,BM (.bl Db) (bs.map D.bl)=bs.findIdx? id
 | []=>rfl
 | b::r=>by rw[d6,List.findIdx?_cons];unfold BM;rw[CN r];cases b<;>rfl
theorem Ow(x:D):∀ds:T0 D,(BM x ds).isSome=ds.any λd=>Q2 d x
 | []=>rfl
 | d::r=>by
  unfold BM;rw[gg];by_cases h:Q2 d x=Db
  .rw[dh h,h];rfl
  .rw[df h,iR,Ow x r,show Q2 d x=pc from dQ.mpr h,fO]
theorem Df:∀bs:T0 Bool,(bs.map D.bl).all vt=Db
 | []=>rfl
 | _::r=>by rw[d6,fv,Df r];rfl
structure Rd(a:Ad)(M:Mp)(A:tG)(V:qG)(l:pV):Prop where
 bd:pY a M A V
 k:V.calls.length<=1000000
 pl:rT a M V.p l
 ok:rb l
 on:V.on.length=l.mT.length
 ms:∀c∈V.calls,(∀x∈c.ms,x∈l.pn)/\c.ms.length<=100
def Rd.sub{V:qG}(h:Rd a M A V l)(s:qH M M'):Rd a M' A V l:=⟨h.bd.sub s,h.k,h.pl.sub s,h.ok,h.on,h.ms⟩
def Oo:rQ:=λds M Q=>Cv λr bs=>ds=[.ref r]/\oU M r=ga (List.map D.bl bs)/\Q (Py (bs.findIdx? id)) M
def LH(f:qG->Str->D)(a:Ad):rQ:=λds M Q=>D4 λA V x=>ds=[.ref A.b,.str x]/\pY a M A V/\V.calls.length<=1000000/\Q (f V x) M
def U5(V:qG)(x:Str):D:=.int (vI V x:Nat)
def Mo(V:qG)(x:Str):D:=Py (Fp V x)
def Bl(V:qG)(x:Str):D:=Py (wA V x)
def Vb(V:qG)(x:Str):D:=Py (KJ V x)
def Vj(V:qG)(x:Str):D:=.bl (Bo V x)
abbrev Fx:=LH U5
abbrev Eb:=LH Mo
abbrev BB:=LH Bl
abbrev BJ:=LH Vb
abbrev AX:=LH Vj
def xP(a:Ad):rQ:=λds M Q=>B0 λA V l x=>ds=[.ref A.b,.str x]/\Rd a M A V l/\x∈l.pn/\Q (.bl (uE l V x)) M
def Bd(a:Ad):rQ:=λds M Q=>GD λA V l c z=>ds=[.ref A.b,.str c,.str z]/\Rd a M A V l/\z∈l.nm/\∀q M',qH M M'->M q=Fa->oU M' q=ga ((uS l V c z).map D.str)->Q (.ref q) M'
def AW(a:Ad):rQ:=λds M Q=>Cv λA V=>ds=[.ref A.b]/\pY a M A V/\Q (.int ((V.h+V.t) % 24)) M
def Qx(a:Ad):rQ:=λds M Q=>GD λA V l c z=>ds=[.ref A.b,.str c,.str z]/\Rd a M A V l/\z∈l.nm/\Q (.bl (ym l V c z)) M
def Ff{V:qG}(h:pY a M A V){pre post:T0 D}{d:D}(e:pre++d::post=A.cs.map λk=>D.ref k.p):∃k c,A.cs[pre.length]?=ga k/\V.calls[pre.length]?=ga c/\d=.ref k.p/\sG a M (A.lists++V.fo) k c/\V.calls.take (pre.length+1)=V.calls.take pre.length++[c]:=by
 have h1:(A.cs.map λk=>D.ref k.p)[pre.length]?=ga d:=by rw[<-e];simp
 rw[dG]at h1;cases z:A.cs[pre.length]? with
 | none=>rw[z]at h1;cases h1
 | some k=>
  rw[z]at h1;have hi:pre.length<V.calls.length:=by rw[<-h.len];exact(de.mp z).1
  have e2:V.calls[pre.length]?=ga V.calls[pre.length]:=cZ hi;refine⟨k,_,Z',e2,(dq h1).symm,h.cs _ _ _ z e2,?_⟩;rw[fX,e2];rfl
def zh{l:pV}{x:Str}(h:x∈l.pn):∃v,l.nA x=ga v:=by
 obtain⟨p,hp,rfl⟩:=dF.mp h;unfold pV.nA;cases e:l.mV.find? λq=>decide (q.1=p.1)with
 | some v=>exact⟨v,Z'⟩
 | none=>exact absurd (gX.mp e p hp) (by simp)
def rG:hasS ss x=Db↔x∈ss:=by unfold hasS;rw[gB];exact⟨λ⟨y,hy,e⟩=>dL e ▸ hy,λh=>⟨x,h,fH _⟩⟩
def Lj(h:xM ss=Db):ss.Nodup:=by
 have h:(tS ss).length=ss.length:=by unfold xM at h;have:=eZ.mp h;lia
 suffices key:∀r:QQQ,(tS r.reverse).length=r.reverse.length->r.reverse.Nodup by have:=key ss.reverse;rw[kC]at this;exact this h
 intro r;induction r with
 | nil=>intro _;exact eM
 | cons k r ih=>
  intro h;rw[gI]at h ⊢;generalize r.reverse=l at ih h ⊢;rw[yJ]at h;split at h
  .have:=JL l;rw[c9,dI]at h;lia
  .rename_i hk;rw[c9,c9,dI]at h;have h1:=ih (by lia);rw[OZ]at hk;refine gu.mpr ⟨h1,by simp,λx hx y hy=>?_⟩;rw[dB.mp hy];exact λz=>hk (z ▸ hx)
def Jq{m:Int}(h:tD cs ks m=Db):cs≠[]/\(cs.length:Int)<=m/\cs.Nodup/\∀x∈cs,x∈ks:=by unfold tD at h;simp only[dY,eC,eF]at h;obtain⟨h1,h2,h3,h4⟩:=h;refine⟨λz=>by rw[z]at h1;exact absurd h1 (by decide),h2,Lj h3,λx hx=>rG.mp (h4 x hx)⟩
def rb.of(ok:rb l){z:Str}(hz:z∈l.nm):(l.mS z≠[]/\(l.mS z).length<=4/\(l.mS z).Nodup/\∀x∈l.mS z,x∈l.pn)/\(z∈l.pn->l.mS z=[z]/\l.m8 z="one"):=by
 have hd:=gu.mp ok.nd;have h1:z∈l.pn->l.group z=Fa:=λh=>gX.mpr λg hg e=>hd.2.2 z h g.1 (dF.mpr ⟨g,hg,Z'⟩) (by simpa using e:g.1=z).symm;refine⟨?_,λh=>by unfold pV.mS pV.m8;rw[h1 h];exact⟨Z',Z'⟩⟩;unfold pV.mS;cases e:l.group z with
 | none=>
  have hp:z∈l.pn:=by
   rcases dS.mp hz with h|h
   .exact h
   .obtain⟨g,hg,rfl⟩:=dF.mp h;exact absurd (gX.mp e g hg) (by simp)
  exact⟨fA _ _,by show 1<=4;decide,dW.mpr ⟨dX,eM⟩,λx hx=>by rw[dB.mp hx];exact hp⟩
 | some g=>obtain⟨c1,c2,c3,c4⟩:=Jq (ok.go g (gp e)).mem;exact⟨c1,by show g.2.2.length<=4;lia,c3,c4⟩
def yF{V:qG}{f:pQ->Str->Bool}{m x:Str}{Q:DK}{ok:Mp->Prop}(bd:pY a M A V)(hk:V.calls.length<=1000000)(m9:ok M)(hm:∀c wy ad md,(rR c wy ad md).lookup m=Fa)(q:∀p,M p=Fa->Q (.ref p) (pT M p (.lst ((V.calls.map λc=>f c x).map D.bl)))):
  vw (rH 0) Dn (Bt m (λC s=>C=a.e/\s=xY f a) (v3 0) (wk (v3 1) xS)) ok Q (A.cs.map λk=>D.ref k.p) [] [Fa,ga (.str x)] M:=by
 have hz:=dO;refine yO (A.cs.map λk=>D.ref k.p) (λpre acc U M'=>M=M'/\acc=((V.calls.take pre.length).map λc=>f c x).map D.bl/\∃y,U=[y,ga (.str x)]) (λ_ _ _ M' j=>by rw[<-j.1];exact m9) _ [] [] _ _ Z' ?_ ⟨Z',Z',Fa,Z'⟩ ?_ ?_
 .rw[cX,bd.len];simp only[dN];lia
 .rintro pre d post e acc U M' ⟨rfl,rfl,y,rfl⟩ k hk
  obtain⟨ka,c,e1,e2,rfl,hc,et⟩:=Ff bd e;obtain⟨_,_,g1,_⟩:=id hc;refine pN g1 ⟨hm _ _ _ _,_,⟨Z',Z'⟩,_,ka,c,x,Z',hc,hk _ _ _ ⟨Z',?_,_,Z'⟩⟩;rw[c9,dI,et,dP,dP];rfl
 .rintro acc U M' ⟨rfl,rfl,y,rfl⟩ p hp
  rw[cX,bd.len,fh];exact q p hp
def C0:Fq P w K mg base 1 a.R Oo:=by
 refine fq G.R.toDG AV (λr u=>⟨_,(pL (qh (pX u yZ v0)
 (pM (pU (yp v0 (qz yZ))))
 qa)
 (pM (pU sD))),?_⟩)
 rintro ds M Q ⟨r,bs,rfl,hr,q⟩
 have ei:inD (.bl Db) (bs.map D.bl)=(bs.findIdx? id).isSome:=by rw[<-CN];exact(Ow _ _).symm
 refine i' hr ⟨Z',Df bs,?_⟩;show if inD (.bl Db) (bs.map D.bl)=Db then _ else _
 rw[ei];cases e:bs.findIdx? id with
 | none=>rw[e]at q;exact⟨M,.refl,q⟩
 | some j=>rw[e]at q;exact PV ⟨by show(oU M r).isSome=Db;rw[hr];rfl,i' hr ⟨Z',Df bs,i' ((CN bs).trans e) ⟨M,.refl,q⟩⟩⟩
def Rr:Fq P w K mg base 2 a.bI (Fx a):=by
 refine fq G.bI.toDG Ee (λr u=>⟨_,(pM (pU (ql qR Z' G.g qO (qz (qT Z' (xV (ix:=[Fa,ga 1]) (N':=["call","phone"])) (ra (pR v0)) (qN 0) (vS (vE (qu v0 G.e.toCls G.bM (SS G) r (qz Y1)))) v0))))),?_⟩)
 rintro ds M Q ⟨A,V,x,rfl,bd,YM,q⟩
 have hz:=dO;refine pN bd.at_ (i' Z' (i' bd.ca ?_));refine xc (A.cs.map λk=>D.ref k.p) (λpre acc U M'=>M=M'/\acc.length=((V.calls.take pre.length).filter (·.hasB x)).length/\∃y,U=[y,ga (.str x)]) (λ_ _ _ M' j=>by rw[<-j.1];exact bd.ca) _ [] [] _ _ Z' ?_ ⟨Z',Z',Fa,Z'⟩ ?_ ?_
 .rw[cX,bd.len];simp only[dN];lia
 .rintro pre d post e acc U M' ⟨rfl,ha,y,rfl⟩ k k2 hk Z1
  obtain⟨ka,c,e1,e2,rfl,hc,et⟩:=Ff bd e;rw[c9,dI,et,iI]at hk Z1;obtain⟨_,_,g1,_⟩:=id hc;refine pN g1 ⟨Z',_,⟨Z',Z'⟩,_,ka,c,x,Z',hc,?_⟩;refine qU (c:=c.hasB x) (λg=>?_) (λg=>?_)
  .refine hk _ _ _ ⟨Z',?_,_,Z'⟩;rw[c9,c9,ha,iM (by exact g)];rfl
  .refine Z1 _ _ ⟨Z',?_,_,Z'⟩;rw[c9,ha,iN (by exact g)];rfl
 .rintro acc U M' ⟨rfl,ha,y,rfl⟩ p hp
  refine i' pS ⟨M,.new hp,?_⟩;rw[cX,bd.len,fh]at ha;rw[ha];exact q
def Nc:Fq P w K mg base 3 a.bG (Eb a):=by
 refine fq G.bG.toDG C6 (λr u=>⟨_,(pM (pU (pW (C0 G) r G.R (qz (qT Z' (xV (ix:=[Fa,ga 1]) (N':=["call","phone"])) (ra (pR v0)) (qN 0) sf (qu v0 G.e.toCls G.bL (Oi G) r (qz Y1))))))),?_⟩)
 rintro ds M Q ⟨A,V,x,rfl,bd,YM,q⟩
 refine pN bd.at_ (i' Z' (i' bd.ca (yF bd YM bd.ca (λ_ _ _ _=>rfl) λp hp=>⟨p,_,Z',pS,M,.new hp,?_⟩)));rw[hU];exact q
def Iq:Fq P w K mg base 3 a.bH (BJ a):=by
 refine fq G.bH.toDG AU (λr u=>⟨_,(pM (pU (pW (C0 G) r G.R (qz (qT Z' (xV (ix:=[Fa,ga 1]) (N':=["call","phone"])) (ra (pR v0)) (qN 0) sf (qu v0 G.e.toCls G.ab (Dx G) r (qz Y1))))))),?_⟩)
 rintro ds M Q ⟨A,V,x,rfl,bd,YM,q⟩
 refine pN bd.at_ (i' Z' (i' bd.ca (yF bd YM bd.ca (λ_ _ _ _=>rfl) λp hp=>⟨p,_,Z',pS,M,.new hp,?_⟩)));rw[hU];exact q
def zv:Fq P w K mg base 3 a.Y (BB a):=by
 refine fq G.Y.toDG AN (λr u=>⟨_,(pM (pU (pW (C0 G) r G.R (qz (qT Z' (xV (ix:=[Fa,ga 1]) (N':=["call","phone"])) (ra (pR v0)) (qN 0) sf (qu v0 G.e.toCls G.aa (wU G) r (qz Y1))))))),?_⟩)
 rintro ds M Q ⟨A,V,x,rfl,bd,YM,q⟩
 refine pN bd.at_ (i' Z' (i' bd.ca (yF bd YM bd.ca (λ_ _ _ _=>rfl) λp hp=>⟨p,_,Z',pS,M,.new hp,?_⟩)));rw[hU];exact q
def G':Fq P w K mg base 3 a.bP (AX a):=by
 refine fq G.bP.toDG Aj (λr u=>⟨_,(pM (pU (ql (MI Z') Z' G.b6 L' (qz (qT Z' (xV (ix:=[Fa,ga 1]) (N':=["call","phone"])) (ra (pR v0)) (qN 0) sf (qu v0 G.e.toCls G.aB (HU G) r (qz Y1))))))),?_⟩)
 rintro ds M Q ⟨A,V,x,rfl,bd,YM,q⟩
 refine pN bd.at_ (i' Z' (i' bd.ca (yF bd YM bd.ca (λ_ _ _ _=>rfl) λp hp=>i' pS ?_)));rw[eA];refine i' (xF _ _) ⟨M,.new hp,?_⟩;rw[iG];exact q
def GU:Fq P w K mg base 1 a.bO (AW a):=by
 refine fq G.bO.toDG zY (λr u=>⟨_,(pM (pU (qp (qp (pR v0) (pR v0)) pO))),?_⟩)
 rintro ds M Q ⟨A,V,rfl,bd,q⟩
 exact pN bd.at_ (i' Z' (pN bd.at_ (i' Z' ⟨by decide,M,.refl,q⟩)))
def OS{l:pV}{x:Str}{v:vk}(h:l.nA x=ga v):xt l x=v.2.1:=by unfold xt;rw[h];rfl
def zG:Fq P w K mg base 3 a.Z (xP a):=by
 refine fq G.Z.toDG A0 (λr u=>⟨_,(pM (pU (qE u (qu v0 G.c.toCls G.bI (Rr G) r (qz Y1)) (qu (pR v0) G.h.toCls G.bJ (DS G) r (qz Y1))))),?_⟩)
 rintro ds M Q ⟨A,V,l,x,rfl,rd,hx,q⟩
 obtain⟨ph,gr,ws,Zz,pr,gd,rs,i1,_⟩:=rd.pl;obtain⟨v,hv⟩:=zh hx;refine pN rd.bd.at_ ⟨Z',_,⟨Z',Z'⟩,A,V,x,Z',rd.bd,rd.k,?_⟩;refine pN rd.bd.at_ (i' Z' (pN i1 ⟨Z',_,⟨Z',Z'⟩,V.p,x,v,l,Z',rd.pl,hv,?_⟩));unfold uE at q;rw[OS hv]at q;exact⟨M,.refl,q⟩
def Bq:Fq P w K mg base 4 a.aS (Bd a):=by
 refine fq G.aS.toDG zS (λr u=>⟨_,(pM (pU (qT Z' (xV (ix:=[Fa,ga 1,ga 0]) (N':=["phone","caller","self"])) (ra (qu (pR v0) G.h.toCls G.ac (va G) r (qz Y2))) (qN 0) (vS (W3.b3 (zc (pX u v0 Y1) (yD (vE (qu Y2 G.c.toCls G.Z (zG G) r (qz v0))))))) v0))),?_⟩)
 rintro ds M Q ⟨A,V,l,c,z,rfl,rd,Zp,q⟩
 obtain⟨ph,gr,ws,Zz,pr,gd,rs,i1,_⟩:=rd.pl;obtain⟨⟨_,p4,_,pin⟩,_⟩:=rd.ok.of Zp;refine pN rd.bd.at_ (i' Z' (pN i1 ⟨Z',_,⟨Z',Z'⟩,V.p,z,l,Z',rd.pl,λq1 Zf=>i' pS ?_⟩));have s1:=qH.new (c:=.lst (List.map D.str (l.mS z))) Zf;have c1:=@pS M q1 (List.map D.str (l.mS z));generalize pT M q1 (.lst (List.map D.str (l.mS z)))=M1 at s1 c1 ⊢;have hz:=dO;have rd1:=rd.sub s1;refine uo (f:=id) (t:=λd=>match d with|.str x=>!(x==c)&&uE l V x|_=>pc) c1 _ [] _ (by rw[cX];simp only[dN];lia) (λd hd k hk=>?_) (λd hd _ k hk=>?_) λq2 hq2=>?_
 .obtain⟨x,hx,rfl⟩:=dF.mp hd;have hk:k (!(x==c)&&uE l V x) M1:=hk;cases e:x==c with
  | true=>rw[e]at hk;refine NM (c:=!(x==c)) (by rw[e];rfl) hk
  | false=>rw[e]at hk;refine BG (c:=!(x==c)) (by rw[e];rfl) (pN rd1.bd.at_ ⟨Z',_,⟨Z',Z'⟩,A,V,l,x,Z',rd1,pin x hx,hk⟩)
 .obtain⟨x,hx,rfl⟩:=dF.mp hd;exact hk
 .have ef:[]++(List.filter (λd=>match d with|.str x=>!(x==c)&&uE l V x|_=>pc) ((l.mS z).map D.str)).map id=(uS l V c z).map D.str:=by rw[d9,jp,gW];rfl
  rw[ef];have t2:=qH.new (c:=.lst ((uS l V c z).map D.str)) hq2;exact⟨_,.refl,q q2 _ (s1.trans t2) (s1.none hq2) pS⟩
def Gp:Fq P w K mg base 5 a.S (Qx a):=by
 refine fq G.S.toDG IV (λr u=>⟨_,(pM (pU (qE u (ql qR Z' G.g qO (qz (qu v0 G.c.toCls G.aS (Bq G) r (r6 Y1 Y2)))) pO))),?_⟩)
 rintro ds M Q ⟨A,V,l,c,z,rfl,rd,tg,q⟩
 refine pN rd.bd.at_ ⟨Z',_,⟨Z',Z'⟩,A,V,l,c,z,Z',rd,tg,λq1 M1 s1 Zf e1=>i' e1 ⟨M,s1,?_⟩⟩;have e:((((uS l V c z).map D.str).length:Int)==0)=ym l V c z:=by unfold ym;rw[cX,fZ,eZ,List.isEmpty_iff,<-gw];lia
 show Q (.bl ((((uS l V c z).map D.str).length:Int)==0)) M;rw[e];exact q
def xy(a:Ad)(v:Wi):rQ:=λds M Q=>Kg λp A V l c z=>ds=[.ref p,.ref A.b,.str c,.str z]/\M p=ga (.ins (v.cls a) v.nO)/\Rd a M A V l/\z∈l.nm/\C8 l.pn l.nm v/\Q (.bl (zM l V c z v)) M
def RK(a:Ad)(v:Wi):rQ:=λds M Q=>B0 λp L k c=>ds=[.ref p,.ref (rZ.p k)]/\M p=ga (.ins (v.cls a) v.nO)/\sG a M L k c/\Q (.bl (HH c v)) M
def GG:rQ:=λds M Q=>Cv λx y=>ds=[x,y]/\Q (.bl pc) M
def Nl(a:Ad):Uf->rQ->Prop:=λC sp=>∃v:Wi,C=v.cls a/\sp=xy a v
noncomputable def NA(a:Ad):Wi->rQ
 | .silent x y n=>RK a (.silent x y n)
 | _=>GG
def Hx(a:Ad):Uf->rQ->Prop:=λC sp=>∃v:Wi,C=v.cls a/\sp=NA a v
def AM(a:Ad):rQ:=λds M Q=>Kg λp x y f l h=>ds=[.ref p,.int h]/\M p=ga (.ins a.n (Wi.night x y f l).nO)/\Q (.bl (Gd f l h)) M
def Am(a:Ad):rQ:=λds M Q=>Kg λp x q l r ms=>ds=[.ref p,.ref q,.ref r]/\M p=ga (.ins a.o (Wi.breaks x).nO)/\rT a M q l/\oU M r=ga (List.map D.str ms)/\ms.length<=100/\x∈l.pn/\(∀m∈ms,m∈l.pn)/\Q (.bl (Jv l x ms)) M
def J1{l:pV}{x:Str}{v:vk}(h:l.nA x=ga v):wB l x=v.2.2:=by unfold wB;rw[h];rfl
def rS{ks:List rZ}{i:Nat}{k:rZ}(h:ks[i]?=ga k):wY (ks.map λk=>D.ref k.p) (i:Nat)=ga (.ref k.p):=vK (by rw[dG,h];rfl)
def OX(ds:T0 D):L3.vB ds (ga (-1:Int)) Fa=ds.drop (ds.length - 1):=by
 unfold L3.vB;have e:HT.ua ds.length 0 (ga (-1:Int))=ds.length - 1:=by show(if (-1:Int)<0 then((-1:Int)+(ds.length:Int)).toNat else min (-1:Int).toNat ds.length)=ds.length - 1;rw[dh (by decide)];lia
 rw[e];show(ds.drop (ds.length - 1)).take (ds.length - (ds.length - 1))=_;exact gZ (by rw[gz];exact dw _)
theorem EV{α:Type}:∀w:List α,w.drop (w.length - 1)=w.getLast?.toList
 | []=>rfl
 | [_]=>rfl
 | _::z::r=>by rw[List.getLast?_cons_cons,<-EV (z::r)];rfl
def Rh{p q:Uf}{w:QQQ}(h1:oU M p=ga ((w.map D.str).drop ((w.map D.str).length - 1)))(h2:oU M q=ga [D.str x]):wg M 9 (.ref p) (.ref q)=ga (w.getLast?==ga x):=by
 have e:(w.map D.str).drop ((w.map D.str).length - 1)=(w.getLast?.toList).map D.str:=by rw[cX,<-kK];rw[EV]
 rw[e]at h1;show(oU M p).bind (λi=>(oU M q).bind λj=>if i.length=j.length then rq (wg M 8) i j else ga pc)=_;rw[h1,h2];cases w.getLast? with
 | none=>rfl
 | some y=>show((ga (y==x)).bind λp=>(ga Db).map λq=>p&&q)=ga (ga y==ga x);show ga ((y==x)&&Db)=_;rw[Bool.and_true];rfl
def OB(G:Gl K mg a)(x:Str)(ns:QQQ):Fq P w K mg base 6 a.aJ (xy a (.bar x ns)):=by
 refine fq G.aJ.toDG Hr (λr u=>⟨_,(pM (pU (uc (qE u Y2 (pR v0)) (tP (qE u Y3 (pR v0)))))),?_⟩)
 rintro ds M Q ⟨p,A,V,l,c,z,rfl,hp,_,_,_,q⟩
 refine pN hp ?_;refine qU (c:=c==x) (λg=>pN hp ⟨Z',qP ns,M,.refl,?_⟩) (λg=>⟨M,.refl,?_⟩)
 .show Q (.bl (inD (.str z) (ns.map D.str))) M;rw[tF];dsimp only[zM]at q;rw[g,eK]at q;exact q
 .dsimp only[zM]at q;rw[show(c==x)=pc from dQ.mpr g,eV]at q;exact q
def Nz(G:Gl K mg a)(x:Str)(ns:QQQ):Fq P w K mg base 6 a.aK (xy a (.shut x ns)):=by
 refine fq G.aK.toDG FJ (λr u=>⟨_,(pM (pU (uc (qE u Y3 (pR v0)) (tP (qE u Y2 (pR v0)))))),?_⟩)
 rintro ds M Q ⟨p,A,V,l,c,z,rfl,hp,_,_,_,q⟩
 refine pN hp ?_;refine qU (c:=z==x) (λg=>pN hp ⟨Z',qP ns,M,.refl,?_⟩) (λg=>⟨M,.refl,?_⟩)
 .show Q (.bl (inD (.str c) (ns.map D.str))) M;rw[tF];dsimp only[zM]at q;rw[g,eK]at q;exact q
 .dsimp only[zM]at q;rw[show(z==x)=pc from dQ.mpr g,eV]at q;exact q
def O6(G:Gl K mg a)(x y:Str):Fq P w K mg base 6 a.aL (xy a (.always x y)):=by
 refine fq G.aL.toDG Cz (λr u=>⟨_,(pM (pU (qE u Y3 (pR v0)))),?_⟩)
 rintro ds M Q ⟨p,A,V,l,c,z,rfl,hp,_,_,_,q⟩
 exact pN hp ⟨M,.refl,q⟩
def HV:Fq P w K mg base 1 a.bN (AM a):=by
 refine fq G.bN.toDG Ay (λr u=>⟨_,(pL (qh (pX u (pR v0) (pR v0))
 (pM (pU (uW u (pR v0) Y1 (pR v0))))
 qa)
 (pM (pU (JK (qE u Y1 (pR v0)) (tP (qE u Y1 (pR v0))))))),?_⟩)
 rintro ds M Q ⟨p,x,y,f,l,h,rfl,hp,q⟩
 refine pN hp (pN hp ?_);show if (decide (f<l))=Db then _ else _
 unfold Gd at q;by_cases z:f<l
 .rw[dh z]at q;refine BG (d4 z) (pN hp ?_);refine qU (c:=decide (f<=h)) (λg=>?_) (λg=>?_)
  .rw[g,eK]at q;exact pN hp ⟨M,.refl,q⟩
  .rw[show decide (f<=h)=pc from dQ.mpr g,eV]at q;exact⟨M,.refl,q⟩
 .rw[df z]at q;refine NM (eQ z) (pN hp ?_);refine qU (c:=decide (h>=f)) (λg=>?_) (λg=>?_)
  .rw[g,hZ]at q;exact⟨M,.refl,q⟩
  .rw[show decide (h>=f)=pc from dQ.mpr g,fO]at q;exact pN hp ⟨M,.refl,q⟩
def NR(G:Gl K mg a)(x y:Str)(f m:Int):Fq P w K mg base 6 a.aM (xy a (.night x y f m)):=by
 refine fq G.aM.toDG D0 (λr u=>⟨_,(pM (pU (uc (qE u Y3 (pR v0)) (tP (qu v0 G.n.toCls G.bN (HV G) r (qz (ww Y1 G.c.toCls G.bO (GU G) r))))))),?_⟩)
 rintro ds M Q ⟨p,A,V,l,c,z,rfl,hp,rd,_,_,q⟩
 dsimp only[zM]at q;refine pN hp ?_;refine qU (c:=z==x) (λg=>?_) (λg=>?_)
 .rw[g,eK]at q;exact pN hp ⟨Z',_,⟨Z',Z'⟩,pN rd.bd.at_ ⟨Z',_,⟨Z',Z'⟩,A,V,Z',rd.bd,p,x,y,f,m,_,Z',hp,M,.refl,q⟩⟩
 .rw[show(z==x)=pc from dQ.mpr g,eV]at q;exact⟨M,.refl,q⟩
def Nb(G:Gl K mg a)(x y:Str):Fq P w K mg base 6 a.aN (xy a (.busy x y)):=by
 refine fq G.aN.toDG Gb (λr u=>⟨_,(pM (pU (uc (qE u Y3 (pR v0)) (tP (pW (Gp G) r G.S (rP Y1 Y2 Y3)))))),?_⟩)
 rintro ds M Q ⟨p,A,V,l,c,z,rfl,hp,rd,hz,_,q⟩
 dsimp only[zM]at q;refine pN hp ?_;refine qU (c:=z==x) (λg=>?_) (λg=>?_)
 .rw[g,eK]at q;exact⟨A,V,l,c,z,Z',rd,hz,M,.refl,q⟩
 .rw[show(z==x)=pc from dQ.mpr g,eV]at q;exact⟨M,.refl,q⟩
def Nw(G:Gl K mg a)(x y:Str)(n:Int):Fq P w K mg base 6 a.aO (xy a (.silent x y n)):=by
 refine fq G.aO.toDG CC (λr u=>⟨_,(pM (pU yZ)),?_⟩)
 rintro ds M Q ⟨p,A,V,l,c,z,rfl,hp,rd,hz,_,q⟩
 exact⟨M,.refl,q⟩
def Oj(G:Gl K mg a)(x:Str):Fq P w K mg base 6 a.aP (xy a (.wait x)):=by
 refine fq G.aP.toDG Gh (λr u=>⟨_,(pL (qh (W3.b3 (xQ (pX u Y3 (pR v0)) (xx (pX u Y2 (pR v0)))))
 (pM (pU yZ))
 qa)
 (pM (pU (uc (pW (Gp G) r G.S (rP Y1 Y2 Y3)) (tP (Ts (qu Y1 G.c.toCls G.bP (G' G) r (qz Y3)))))))),?_⟩)
 rintro ds M Q ⟨p,A,V,l,c,z,rfl,hp,rd,hz,_,q⟩
 dsimp only[zM]at q;refine pN hp ?_;refine qU (c:=!(z==x)) (λg=>?_) (λg=>?_)
 .rw[g,hZ]at q;exact⟨M,.refl,q⟩
 rw[show(!(z==x))=pc from dQ.mpr g,fO]at q;refine pN hp ?_;refine qU (c:=c==x) (λg=>?_) (λg=>?_)
 .rw[g]at q;exact⟨M,.refl,q⟩
 rw[df g]at q;refine⟨A,V,l,c,z,Z',rd,hz,?_⟩;refine qU (c:=ym l V c z) (λg=>?_) (λg=>?_)
 .rw[g,eK]at q;exact pN rd.bd.at_ ⟨Z',_,⟨Z',Z'⟩,A,V,z,Z',rd.bd,rd.k,M,.refl,q⟩
 .rw[show ym l V c z=pc from dQ.mpr g,eV]at q;exact⟨M,.refl,q⟩
def Hb:Fq P w K mg base 2 a.bQ (Am a):=by
 refine fq G.bQ.toDG vV (λr u=>⟨_,(pL (qc 3 vV (qu Y1 G.h.toCls G.aT (Ab G) r (qz (pR v0))))
 (pM (pU (ql (Fl Z') Z' G.bT FL (qz (qT Z' (xV (ix:=[Fa,ga 1,ga 3]) (N':=["member","plan","rank"])) (ra Y2) (qN 0) sf (qE u (qu Y1 G.h.toCls G.aT (Ab G) r (qz v0)) Y2))))))),?_⟩)
 rintro ds M Q ⟨p,x,q,l,r,ms,rfl,hp,pl,lr,h100,hx,hm,k⟩
 have hz:=dO;obtain⟨v,hv⟩:=zh hx;obtain⟨ph,gr,ws,Zz,pr,gd,rs,i1,_⟩:=id pl;refine pN i1 ⟨Z',_,⟨Z',Z'⟩,pN hp (i' Z' ⟨q,x,v,l,Z',pl,hv,?_⟩)⟩;refine i' lr (rN (f:=λd=>match d with|.str m=>.bl (decide (wB l m<wB l x))|_=>.mY) lr _ [] _ (by rw[cX];show 0+ms.length<=Ch;lia) (λd hd k0 hk=>?_) λp1 Zy=>?_)
 .obtain⟨m,hmm,rfl⟩:=dF.mp hd;obtain⟨u,hu⟩:=zh (hm m hmm);have hk:k0 (.bl (decide (wB l m<wB l x))) M:=hk;rw[J1 hu,J1 hv]at hk;exact pN i1 ⟨Z',_,⟨Z',Z'⟩,q,m,u,l,Z',pl,hu,hk⟩
 .have em:[]++(ms.map D.str).map (λd=>match d with|.str m=>.bl (decide (wB l m<wB l x))|_=>.mY)=ms.map λm=>D.bl (decide (wB l m<wB l x)):=by rw[d9,eA];rfl
  rw[em];refine i' pS (i' (xF (λm=>decide (wB l m<wB l x)) ms) ⟨M,.new Zy,?_⟩);unfold Jv at k;rw[zW];exact k
def OG(G:Gl K mg a)(x:Str):Fq P w K mg base 6 a.aQ (xy a (.breaks x)):=by
 refine fq G.aQ.toDG wc (λr u=>⟨_,(pL (qh (W3.b3 (xQ (pX u Y2 (pR v0)) (xx (pX u Y3 (pR v0)))))
 (pM (pU yZ))
 qa)
 (pL (qh (W3.b3 (xQ (pX u Y3 (ww (pR Y1) G.h.toCls G.P (tE G) r)) (xx (yb (vE (pW (Gp G) r G.S (rP Y1 Y2 Y3)))))))
 (pM (pU yZ))
 qa)
 (pL (qc 4 wc (qu Y1 G.c.toCls G.Y (zv G) r (qz Y3)))
 (pL (qh (pX u v4 sD)
 (pM (pU yZ))
 qa)
 (pL (qc 5 wc (pR (pZ (pR Y1) v4)))
 (pM (pU (uc (qE u (ql qR Z' G.g qO (qz v5)) pO) (tP (qu v0 G.o.toCls G.bQ (Hb G) r (r6 (pR Y1) v5))))))))))),?_⟩)
 rintro ds M Q ⟨p,A,V,l,c,z,rfl,hp,rd,Zp,hx,q⟩
 have hx:x∈l.pn:=rG.mp hx;obtain⟨ph,gr,ws,Zz,pr,gd,rs,i1,_⟩:=rd.pl;have p8:=rd.ok.p8;dsimp only[zM,IE]at q;refine pN hp ?_;refine qU (c:=!(c==x)) (λh1=>?_) (λh1=>?_)
 .rw[h1,hZ]at q;exact⟨M,.refl,q⟩
 rw[show(!(c==x))=pc from dQ.mpr h1,fO]at q;refine pN hp ?_;refine qU (c:=z==x) (λh2=>?_) (λh2=>?_)
 .rw[h2]at q;exact⟨M,.refl,q⟩
 rw[df h2]at q;refine pN rd.bd.at_ (i' Z' (pN i1 ⟨Z',_,⟨Z',Z'⟩,V.p,l,Z',rd.pl,by lia,λq1 Zf=>i' pS ⟨Z',qP _,?_⟩⟩));have t:=qH.new (c:=.lst (l.pn.map D.str)) Zf;have YQ:=rd.sub t;generalize pT M q1 (.lst (l.pn.map D.str))=M1 at t YQ ⊢;show if (!(inD (.str z) (l.pn.map D.str)))=Db then _ else _
 rw[tF];refine qU (c:=!(hasS l.pn z)) (λh3=>?_) (λh3=>?_)
 .rw[h3,hZ]at q;exact⟨M,t,q⟩
 rw[show(!(hasS l.pn z))=pc from dQ.mpr h3,fO]at q;refine⟨A,V,l,c,z,Z',YQ,Zp,?_⟩;refine qU (c:=!(ym l V c z)) (λh4=>?_) (λh4=>?_)
 .rw[h4]at q;exact⟨M,t,q⟩
 rw[df h4]at q;refine pN YQ.bd.at_ ⟨Z',_,⟨Z',Z'⟩,A,V,z,Z',YQ.bd,YQ.k,?_⟩;cases e:wA V z with
 | none=>rw[e]at q;rw[show Bl V z=.mY from by unfold Bl;rw[e];rfl];exact⟨M,t,q⟩
 | some j=>
  rw[show Bl V z=.int (j:Nat)from by unfold Bl;rw[e];rfl];have hj:j<V.calls.length:=(iU.mp e).1;have e2:V.calls[j]?=ga V.calls[j]:=cZ hj;rw[e]at q;generalize V.calls[j]=k at e2;have q:Q (.bl (((V.calls[j]?).elim pc λk=>(k.ms.length==2)&&Jv l x k.ms))) M:=q;rw[e2]at q;have hj:j<A.cs.length:=by rw[rd.bd.len];exact hj
  have ek:A.cs[j]?=ga A.cs[j]:=cZ hj;obtain⟨ad,md,f1,f2,f3,f4,_⟩:=YQ.bd.cs j _ k ek e2;refine pN YQ.bd.at_ (i' Z' (i' Z' (i' YQ.bd.ca (i' (rS ek) (pN f1 (i' Z' ?_))))));refine i' f4 ?_;have el:((((k.ms.map D.str).length:Nat):Int)==2)=(k.ms.length==2):=by rw[cX,fZ,eZ,eZ];lia
  show if ((((k.ms.map D.str).length:Nat):Int)==2)=Db then _ else _
  rw[el];have q:Q (.bl ((k.ms.length==2)&&Jv l x k.ms)) M:=q;refine qU (c:=k.ms.length==2) (λh5=>?_) (λh5=>?_)
  .rw[h5,eK]at q;have hm:=rd.ms k (rj e2);refine pN (t _ _ hp) ⟨Z',_,⟨Z',Z'⟩,pN YQ.bd.at_ (i' Z' ⟨p,x,V.p,l,md,k.ms,Z',t _ _ hp,YQ.pl,f4,hm.2,hx,hm.1,M,t,q⟩)⟩
  .rw[show(k.ms.length==2)=pc from dQ.mpr h5,eV]at q;exact⟨M,t,q⟩
def Mi:Fq P w K mg base 1 a.r GG:=by
 refine fq G.r.toDG CV (λr u=>⟨_,(pM (pU yZ)),?_⟩)
 rintro ds M Q ⟨x,y,rfl,q⟩
 exact⟨M,.refl,q⟩
def SB(G:Gl K mg a)(x y:Str)(n:Int):Fq P w K mg base 1 a.aE (RK a (.silent x y n)):=by
 refine fq G.aE.toDG Bh (λr u=>⟨_,(pM (pU (uc (qE u (tH (pR Y1) (ur (A5 pO)) uk) (qX (qz (pR v0)))) (tP (qE u (pR v0) (pR Y1)))))),?_⟩)
 rintro ds M Q ⟨p,L,k,c,rfl,hp,⟨ad,md,h1,h2,h3,h4,_⟩,q⟩
 refine pN h1 (i' Z' (i' h2 λp1 Zy=>?_));have t1:=qH.new (c:=.lst (L3.vB (c.way.map D.str) (ga (-1:Int)) Fa)) Zy;have l1:oU (pT M p1 (.lst (L3.vB (c.way.map D.str) (ga (-1:Int)) Fa))) p1=ga ((c.way.map D.str).drop ((c.way.map D.str).length - 1)):=by rw[pS,OX]
 show AR (pT M p1 (.lst (L3.vB (c.way.map D.str) (ga (-1:Int)) Fa)) p) _;generalize pT M p1 (.lst (L3.vB (c.way.map D.str) (ga (-1:Int)) Fa))=M1 at t1 l1 ⊢;refine pN (t1 _ _ hp) ⟨pJ Z',λp2 Yw=>?_⟩;have t2:=qH.new (c:=.lst [D.str x]) Yw;have l2:=@pS M1 p2 [D.str x];show Option.elim (wg (pT M1 p2 (.lst [D.str x])) 9 (.ref p1) (.ref p2)) False _;generalize pT M1 p2 (.lst [D.str x])=M2 at t2 l2 ⊢;have s2:=t1.trans t2;refine i' (Rh (t2.lst l1) l2) ?_;dsimp only[HH]at q;refine qU (c:=c.way.getLast?==ga x) (λg=>?_) (λg=>?_)
 .rw[g,eK]at q;exact pN (s2 _ _ hp) (pN (s2 _ _ h1) ⟨M,s2,q⟩)
 .rw[show(c.way.getLast?==ga x)=pc from dQ.mpr g,eV]at q;exact⟨M,s2,q⟩
def TV:∀C sp,Nl a C sp->yc P w K mg base 6 "fits" C (O9 K sp):=by
 rintro C sp ⟨v,rfl,rfl⟩
 cases v with
 | bar x ns=>exact⟨G.t.toCls,_,_,_,G.aJ.nF,OB G x ns,G.aJ.b⟩
 | shut x ns=>exact⟨G.u.toCls,_,_,_,G.aK.nF,Nz G x ns,G.aK.b⟩
 | always x y=>exact⟨G.x.toCls,_,_,_,G.aL.nF,O6 G x y,G.aL.b⟩
 | night x y f m=>exact⟨G.n.toCls,_,_,_,G.aM.nF,NR G x y f m,G.aM.b⟩
 | busy x y=>exact⟨G.y.toCls,_,_,_,G.aN.nF,Nb G x y,G.aN.b⟩
 | silent x y n=>exact⟨G.v.toCls,_,_,_,G.aO.nF,Nw G x y n,G.aO.b⟩
 | wait x=>exact⟨G.w.toCls,_,_,_,G.aP.nF,Oj G x,G.aP.b⟩
 | breaks x=>exact⟨G.o.toCls,_,_,_,G.aQ.nF,OG G x,G.aQ.b⟩
def UX:∀C sp,Hx a C sp->yc P w K mg base 1 "is_due" C (O9 K sp):=by
 rintro C sp ⟨v,rfl,rfl⟩
 have F:=Mi (P:=P) (w:=w) (base:=base) G;cases v with
 | silent x y n=>exact⟨G.v.toCls,_,_,_,G.aE.nF,SB G x y n,G.aE.b⟩
 | bar _ _=>exact⟨G.t.toCls,_,_,_,G.cv,F,G.r.b⟩
 | shut _ _=>exact⟨G.u.toCls,_,_,_,G.cw,F,G.r.b⟩
 | always _ _=>exact⟨G.x.toCls,_,_,_,G.cx,F,G.r.b⟩
 | night _ _ _ _=>exact⟨G.n.toCls,_,_,_,G.cy,F,G.r.b⟩
 | busy _ _=>exact⟨G.y.toCls,_,_,_,G.cz,F,G.r.b⟩
 | wait _=>exact⟨G.w.toCls,_,_,_,G.cA,F,G.r.b⟩
 | breaks _=>exact⟨G.o.toCls,_,_,_,G.cB,F,G.r.b⟩
def J8{es pre post:T0 D}{d:D}(e:pre++d::post=ug 0 es):∃x,es[pre.length]?=ga x/\d=.tup [.int (pre.length:Nat),x]:=by
 have h:(ug 0 es)[pre.length]?=ga d:=by rw[<-e];simp
 rw[xZ]at h;cases q:es[pre.length]? with
 | none=>rw[q]at h;cases h
 | some x=>rw[q]at h;refine⟨x,Z',?_⟩;have:=(dq h).symm;rw[lj]at this;exact this
def ue(n:Nat):∀es:T0 D,(ug n es).length=es.length:=λes=>by
 have h:∀i:Nat,(ug n es)[i]?=Fa↔es[i]?=Fa:=λi=>by rw[xZ];cases es[i]?<;>simp
 have a:=(h es.length).mpr (h9 (dw _));have b:=(h (ug n es).length).mp (h9 (dw _));rw[List.getElem?_eq_none_iff]at a b;lia
def KC{l:pV}{V:qG}{f:Wi->Bool}{tt:Bm}{ok:Mp->Prop}{Q:DK}{M:Mp}{rest:T0 (Option D)}(hl:V.on.length=l.mT.length)(h16:l.mT.length<=16)(m9:ok M) (ht:∀(i:Nat) (w:uQ),l.mT[i]?=ga w->∀(y:Option D) (k:Bool->Mp->Prop),k (f w.2) M->tt (ga (.int (i:Nat))::y::rest) M k) (q:∀p,M p=Fa->Q (.ref p) (pT M p (.lst ((Iy l V f).map λn=>D.int (n:Nat))))):
  vw (RP 2 (yg (rH 0) (yg (rH 1) Cj))) (QZ (b3 (v3 1)) tt) (v3 0) ok Q (ug 0 (V.on.map D.bl)) [] (Fa::Fa::rest) M:=by
 have hz:=dO;refine xc (ug 0 (V.on.map D.bl)) (λpre acc U M'=>M=M'/\acc=((List.range pre.length).filter λi=>V.on.getD i pc&&(l.mT[i]?).elim pc λw=>f w.2).map (λn=>D.int (n:Nat))/\∃y1 y2,U=y1::y2::rest) (λ_ _ _ M' j=>by rw[<-j.1];exact m9) _ [] [] _ _ Z' ?_ ⟨Z',Z',Fa,Fa,Z'⟩ ?_ ?_
 .rw[ue,cX,hl];simp only[dN];lia
 .rintro pre d post e acc U M' ⟨rfl,rfl,y1,y2,rfl⟩ k k2 hk Z1
  obtain⟨x,hx,rfl⟩:=J8 e;rw[c9,dI,iq,iI]at hk Z1;rw[dG]at hx;cases eo:V.on[pre.length]? with
  | none=>rw[eo]at hx;cases hx
  | some b=>
   rw[eo]at hx;have hx:D.bl b=x:=dq hx;subst hx;have hi:pre.length<l.mT.length:=by rw[<-hl];exact(de.mp eo).1
   have ew:l.mT[pre.length]?=ga l.mT[pre.length]:=cZ hi;generalize l.mT[pre.length]=w0 at ew;have eg:V.on.getD pre.length pc=b:=by rw[gh,eo];rfl
   have no:(b&&f w0.2)=pc->k2 (ga (.int (pre.length:Nat))::ga (.bl b)::rest) M:=λg=>by refine Z1 _ _ ⟨Z',?_,_,_,Z'⟩;rw[iN (by rw[eg,ew];show ¬(b&&f w0.2)=Db;rw[g];exact dE),ir,eN]
   refine⟨Z',?_⟩;show if b=Db then _ else _
   cases b with
   | false=>exact HE (no Z')
   | true=>
    refine PV (ht _ _ ew _ _ ?_);cases g:f w0.2 with
    | false=>exact HE (no (by rw[g];rfl))
    | true=>refine PV (hk _ _ _ ⟨Z',?_,_,_,Z'⟩);rw[iM (by rw[eg,ew];show(Db&&f w0.2)=Db;rw[g];rfl),ir,dP];rfl
 .rintro acc U M' ⟨rfl,rfl,y1,y2,rfl⟩ p hp
  rw[ue,cX];exact q p hp
def Ca(h:tM a M rs ws){i:Nat}{w:uQ}(e:ws[i]?=ga w):∃r,wY (rs.map D.ref) (i:Nat)=ga (.ref r)/\M r=ga (.ins (w.2.cls a) w.2.nO):=by
 have hi:i<rs.length:=by rw[h.1];exact(de.mp e).1
 exact⟨rs[i],vK (by rw[dG,cZ hi];rfl),h.2 i _ w (cZ hi) e⟩
def OC(ds:T0 D)(m:Nat):L3.vB ds Fa (ga (m:Int))=ds.take m:=by
 unfold L3.vB;rw[HT.Ck,HT.Kx,kq,lh];by_cases h:m<=ds.length
 .rw[iu h]
 .rw[Nat.min_eq_right (by lia),fh,gZ (by lia)]
def Jl(ds:T0 D)(m:Nat)(h:m<=ds.length):L3.vB ds (ga (m:Int)) Fa=ds.drop m:=by unfold L3.vB;rw[HT.Ck,HT.Kx,iu h];exact gZ (by rw[gz];exact dw _)
def uP(l:pV)(V:qG):Prop:=∀z∈l.nm,(l.m8 z=="turns")=Db->∃v,V.ps.find? (λp=>decide (p.1=z))=ga v/\0<=v.2/\v.2<=((l.mS z).length:Int)
def Mt{V:qG}(h:uP l V){z:Str}(hz:z∈l.nm)(e:(l.m8 z=="turns")=Db):wu (uj V.ps) (.inr z)=ga (.int (AE V z:Nat))/\AE V z<=(l.mS z).length:=by
 obtain⟨v,e1,e2,e3⟩:=h z hz e;have h1:AE V z=v.2.toNat:=by unfold AE;rw[e1];rfl
 have h2:wu (uj V.ps) (.inr z)=(V.ps.find? λp=>decide (p.1=z)).map λp=>D.int p.2:=yP (λp:Str×Int=>p.1) (λp=>D.int p.2) z V.ps;rw[h2,e1,h1];exact⟨by show ga (D.int v.2)=ga (.int (v.2.toNat:Nat));rw[Int.toNat_of_nonneg e2],by lia⟩
def IP(a:Ad):rQ:=λds M Q=>GD λA V l c z=>ds=[.ref A.b,.str c,.str z]/\Rd a M A V l/\z∈l.nm/\Q (yr (Ak l V c z)) M
def RE(a:Ad):rQ:=λds M Q=>GD λA V l c z=>ds=[.ref A.b,.str c,.str z]/\Rd a M A V l/\z∈l.nm/\uP l V/\Q (names (yy l V c z)) M
def Os(a:Ad):rQ:=λds M Q=>GD λA V l c z=>ds=[.ref A.b,.str c,.str z]/\Rd a M A V l/\z∈l.nm/\uP l V/\Q (IA l V c z).d M
def K':rQ:=λds M Q=>D4 λx r z=>ds=[.tup (.str x::r),.str z]/\Q (if (x=="wait")=Db then(wO.waits z).d else if (x=="break")=Db then(wO.breaks z).d else wO.barred.d) M
def rV(st:tV):T0 D:=st.map λs=>.tup [.str s.1,yr s.2]
def OH(a:Ad):rQ:=λds M Q=>Th λA V l c z r way=>ds=[.ref A.b,.str c,.str z,.ref r]/\Rd a M A V l/\z∈l.nm/\uP l V/\oU M r=ga (List.map D.str way)/\way.length<=8000000/\∀q M',qH M M'->M q=Fa->oU M' q=ga (rV (vq l V c z way).2)->Q (.tup [(vq l V c z way).1.d,.ref q]) M'
def FD{V:qG}{f:Wi->Bool}{i:Nat}(h:i∈Iy l V f):∃w,l.mT[i]?=ga w/\f w.2=Db:=by
 have h:=(fL.mp h).2;rw[dY]at h;cases e:l.mT[i]? with
 | none=>rw[e]at h;cases h.2
 | some w=>rw[e]at h;exact⟨w,Z',h.2⟩
def Kq(l:pV)(way:QQQ):Nat:=(l.nm.filter λx=>!(hasS way x)).length
def B5{l:pV}{z:Str}(hz:z∈l.nm)(h:hasS way z=pc):Kq l (way++[z])<Kq l way:=by
 unfold Kq;have e:(l.nm.filter λx=>!(hasS (way++[z]) x))=(l.nm.filter λx=>!(hasS way x)).filter λx=>!(x==z):=by rw[List.filter_filter];refine lN λx _=>?_;unfold hasS;rw[mz];show(!(way.any (·==x)||((z==x)||false)))=_;rw[kG,Bool.not_or,Bool.and_comm,mE]
 rw[e];refine Nat.lt_of_le_of_ne (gk _ _) λg=>?_;have:=kQ.mp (List.Sublist.eq_of_length gc g) z (fL.mpr ⟨hz,by rw[h];rfl⟩);simp at this
def CH(ok:rb l){w:uQ}(hw:w∈l.mT){z y:Str}(h:Kp z w.2=.inr y):y∈l.nm:=by
 have o:=ok.wo w hw;cases e:w.2 with
 | bar _ _=>rw[e]at h;cases h
 | shut _ _=>rw[e]at h;cases h
 | always x u=>rw[e]at h o;cases h;exact rG.mp o.2.1
 | night x u f m=>rw[e]at h o;cases h;exact rG.mp o.2.1
 | busy x u=>rw[e]at h o;cases h;exact rG.mp o.2.1
 | silent x u n=>rw[e]at h o;cases h;exact rG.mp o.2.1
 | wait _=>rw[e]at h;cases h
 | breaks _=>rw[e]at h;cases h
theorem Fk(x:Str):∀ss:QQQ,x∈ss->BM (.str x) (ss.map D.str)=ga (ss.findIdx (·==x))
 | [],h=>by cases h
 | y::r,h=>by
  rw[d6,List.findIdx_cons];unfold BM;show(if (y==x)=Db then ga 0 else(BM (.str x) (r.map D.str)).map (·+1))=_;cases e:y==x with
  | true=>rfl
  | false=>
   rw[df dE];have hr:x∈r:=by
    rcases dz.mp h with g|g
    .rw[g,fH]at e;cases e
    .exact g
   rw[Fk x r hr];rfl
def IS:Fq P w K mg base 7 a.aZ (IP a):=by
 refine fq G.aZ.toDG Dj (λr u=>⟨_,(pL (qc 3 Dj (pR (pR v0)))
 (pM (pU (qr sY Z' G.z tq (qz (qT Z' (xV (ix:=[Fa,Fa,ga 3,ga 0,ga 1,ga 2]) (N':=["i","on","wishes","board","caller","target"])) (um Z' G.af (qz (pR v0))) (uV (n:=2) Z' (qK (qN 0) (qK (qN 1) tZ))) (vS (W3.b3 (zc (vE Y1) (yD (vE (Ga (R:=Nl a) (pZ Y2 v0) (TV G) (r.mono (by first|decide|lia)) (rP Y3 v4 v5))))))) v0)))))),?_⟩)
 rintro ds M Q ⟨A,V,l,c,z,rfl,rd,hz,q⟩
 obtain⟨ph,gr,ws,Zz,pr,gd,rs,i1,i2,i3,i4,i5,i6,i7,i8⟩:=rd.pl;refine pN rd.bd.at_ (i' Z' (pN i1 (i' Z' ?_)));refine pN rd.bd.at_ (i' Z' (i' rd.bd.on ?_));refine KC (rest:=[ga (.ref ws),ga (.ref A.b),ga (.str c),ga (.str z)]) rd.on rd.ok.oZ rd.bd.on (λi w0 ew y k hk=>?_) λp hp=>i' pS ⟨M,.new hp,q⟩;obtain⟨r,e1,e2⟩:=Ca i8 ew;refine i' i4 (i' e1 (pN e2 ⟨by cases w0.2<;>rfl,_,⟨w0.2,Z',Z'⟩,r,A,V,l,c,z,Z',e2,rd,hz,rd.ok.wo w0 (rj ew),hk⟩))
def QQ:Fq P w K mg base 5 a.a0 (RE a):=by
 refine fq G.a0.toDG uh (λr u=>⟨_,(pL (qc 3 uh (qu v0 G.c.toCls G.aS (Bq G) r (r6 Y1 Y2)))
 (pL (qh (pX u (qu (pR v0) G.h.toCls G.aR (yu G) r (qz Y2)) pP)
 (pM (pU (qr sY Z' G.z tq (qz Y3))))
 qa)
 (pL (qc 4 uh (qu (pR v0) G.h.toCls G.ac (va G) r (qz Y2)))
 (pL (qc 5 uh (zL u (pR v0) Y2))
 (pL (uM (i:=6) uh.nd Z' (Or.inl Z') Z' (xV (ix:=[Fa,ga 3]) (N':=["phone","free"])) (ra (qp (tH v4 (ur v5) uk) (tH v4 uk (ur v5)))) (qN 0) (vS (pX u v0 Y1)) v0)
 (pM (pU (qr sY Z' G.z tq (qz (tH v6 uk (ur pO))))))))))),?_⟩)
 rintro ds M Q ⟨A,V,l,c,z,rfl,rd,Zp,nx,q⟩
 have hz:=dO;have bd:=rd.bd;have pl:=rd.pl;obtain⟨ph,gr,ws,Zz,pr,gd,rs,i1,_⟩:=rd.pl;obtain⟨⟨_,tf,_⟩,_⟩:=rd.ok.of Zp;refine pN bd.at_ ⟨Z',_,⟨Z',Z'⟩,A,V,l,c,z,Z',rd,Zp,λq1 M1 s1 Zf e1=>?_⟩;refine pN (s1 _ _ bd.at_) (i' Z' (pN (s1 _ _ i1) ⟨Z',_,⟨Z',Z'⟩,V.p,z,l,Z',pl.sub s1,?_⟩));unfold yy at q;cases e:l.m8 z=="turns" with
 | false=>rw[e]at q;exact BG (c:=!(l.m8 z=="turns")) (by rw[e];rfl) (i' e1 ⟨M,s1,q⟩)
 | true=>
  obtain⟨hn,nl⟩:=Mt nx Zp e;generalize AE V z=n at hn nl q;rw[e,dh Z']at q;refine NM (c:=!(l.m8 z=="turns")) (by rw[e];rfl) ?_;refine pN (s1 _ _ bd.at_) (i' Z' (pN (s1 _ _ i1) ⟨Z',_,⟨Z',Z'⟩,V.p,z,l,Z',pl.sub s1,λq2 hq2=>?_⟩));have s2:=s1.trans (qH.new (c:=.lst ((l.mS z).map D.str)) hq2);have c2:=@pS M1 q2 ((l.mS z).map D.str);have e2:=(qH.new (c:=.lst ((l.mS z).map D.str)) hq2).lst e1;generalize pT M1 q2 (.lst ((l.mS z).map D.str))=M2 at s2 c2 e2 ⊢;refine pN (s2 _ _ bd.at_) (i' Z' (i' Z' (i' (s2.dk bd.nx) (i' hn ?_))));refine i' c2 λq3 hq3=>?_;rw[Jl _ n (by rw[cX];exact nl),<-kK];have t3:=qH.new (c:=.lst (((l.mS z).drop n).map D.str)) hq3;have c3':=@pS M2 q3 (((l.mS z).drop n).map D.str);generalize pT M2 q3 (.lst (((l.mS z).drop n).map D.str))=M3 at t3 c3' ⊢;refine i' (t3.lst c2) λq4 hq4=>?_;rw[OC,<-mF];have t4:=qH.new (c:=.lst (((l.mS z).take n).map D.str)) hq4;have c4:=@pS M3 q4 (((l.mS z).take n).map D.str);generalize pT M3 q4 (.lst (((l.mS z).take n).map D.str))=M4 at t4 c4 ⊢;refine i' (t4.lst c3') (i' c4 ?_);refine⟨by rw[cX,cX,gz,fg];lia,λq5 hq5=>i' pS ?_⟩;rw[<-dP];have t5:=qH.new (c:=.lst ((vG (l.mS z) n).map D.str)) hq5;have c5:=@pS M4 q5 ((vG (l.mS z) n).map D.str);show vw _ _ _ _ _ ((vG (l.mS z) n).map D.str) _ _ (pT M4 q5 (.lst ((vG (l.mS z) n).map D.str)));generalize pT M4 q5 (.lst ((vG (l.mS z) n).map D.str))=M5 at t5 c5 ⊢;have s5:=t3.trans (t4.trans t5);have e5:=s5.lst e2;have tl:(vG (l.mS z) n).length<=200:=by unfold vG;rw[c9,gz,fg];lia
  refine uo (f:=id) (t:=λd=>inD d ((uS l V c z).map D.str)) c5 _ [] _ (by rw[cX];simp only[dN];lia) (λd hd k hk=>?_) (λd hd _ k hk=>?_) λq6 hq6=>?_
  .obtain⟨x,hx,rfl⟩:=dF.mp hd;exact i' e5 ⟨Z',qP _,hk⟩
  .obtain⟨x,hx,rfl⟩:=dF.mp hd;exact hk
  .have ef:[]++(List.filter (λd=>inD d ((uS l V c z).map D.str)) ((vG (l.mS z) n).map D.str)).map id=((vG (l.mS z) n).filter λx=>hasS (uS l V c z) x).map D.str:=by
    rw[d9,jp,gW];have:((λd=>inD d ((uS l V c z).map D.str))∘D.str)=λx=>hasS (uS l V c z) x:=by funext x;exact tF _ _
    rw[this]
   rw[ef];refine i' pS λq7 hq7=>i' pS ?_;rw[show L3.vB (((vG (l.mS z) n).filter λx=>hasS (uS l V c z) x).map D.str) Fa (ga (1:Int))=(((vG (l.mS z) n).filter λx=>hasS (uS l V c z) x).take 1).map D.str from(OC _ 1).trans (mF).symm];exact⟨M,s2.trans (s5.trans ((qH.new hq6).trans (.new hq7))),q⟩
def Ms:Fq P w K mg base 6 a.a1 (Os a):=by
 refine fq G.a1.toDG vF (λr u=>⟨_,(pL (qc 3 vF (pW (QQ G) r G.a0 (rP v0 Y1 Y2)))
 (pL (qh (pX u (ql qR Z' G.g qO (qz Y3)) pO)
 (pM (pU (qe (r6 pP Y2))))
 qa)
 (pM (pU (qe (rP pP Y2 Y3)))))),?_⟩)
 rintro ds M Q ⟨A,V,l,c,z,rfl,rd,hz,nx,q⟩
 refine⟨A,V,l,c,z,Z',rd,hz,nx,?_⟩;unfold IA at q;cases e:yy l V c z with
 | nil=>rw[e]at q;exact⟨pJ Z',M,.refl,q⟩
 | cons x r=>rw[e]at q;exact⟨pJ Z',M,.refl,q⟩
def LU:Fq P w K mg base 1 a.a2 K':=by
 refine fq G.a2.toDG AK (λr u=>⟨_,(pL (qh (pX u (pZ v0 pO) pP)
 (pM (pU (qe (r6 pP Y1))))
 qa)
 (pL (qh (pX u (pZ v0 pO) pP)
 (pM (pU (qe (r6 pP Y1))))
 qa)
 (pM (pU (qe (qz pP)))))),?_⟩)
 rintro ds M Q ⟨x,r,z,rfl,q⟩
 refine i' (zZ _ _) (qU (c:=x=="wait") (λg=>?_) (λg=>?_))
 .rw[dh g]at q;exact⟨pJ Z',M,.refl,q⟩
 rw[df g]at q;refine i' (zZ _ _) (qU (c:=x=="break") (λg=>?_) (λg=>?_))
 .rw[dh g]at q;exact⟨pJ Z',M,.refl,q⟩
 rw[df g]at q;exact⟨pJ Z',M,.refl,q⟩
def O0:Fq P w K mg base 8 a.a3 (OH a):=by
 refine fq G.a3.toDG w9 (λr u=>⟨_,(pL (qc 4 w9 (qr s8 Z' G.q sO (qz Y3)))
 (pL (qc 5 w9 (qX sT))
 (pL (Mr fi (pX u Y2 v4)
 (pL (qd (qV v4 (qz Y2)))
 (pL (qc 6 w9 (pW (IS G) r G.aZ (rP v0 Y1 Y2)))
 (pL (qd (qV v5 (qz (qe (r6 Y2 v6)))))
 (pL (qh (pX u (ql qR Z' G.g qO (qz v6)) pO)
 (pM (pU (qe (r6 (pW (Ms G) r G.a1 (rP v0 Y1 Y2)) v5))))
 qa)
 (pL (qc 7 w9 (Aq (R:=Ko a) (pZ (pR (pR v0)) (pZ v6 pO)) (PX G) (r.mono (by first|decide|lia))))
 (pL (qh (pX u (pZ v7 pO) pP)
 (pM (pU (qe (r6 (pW (LU G) r G.a2 (r6 v7 Y2)) v5))))
 qa)
 (pM (qc 2 w9 (pZ v7 pO))))))))))
 (pM (pU (qe (r6 (qe (r6 pP (qr sY Z' G.z tq (qz (tH v4 (ur (yp v4 (qz Y2))) uk))))) v5))))))),?_⟩)
 rintro ds M Q ⟨A,V,l,c,z0,r,ZL,rfl,rd,hz0,nx,hr0,hw0,q⟩
 have hz:=dO;have p8:=rd.ok.p8;have g3:=rd.ok.g3;have nl:l.nm.length<=11:=by unfold pV.nm pV.pn pV.gn;rw[c9,cX,cX];lia
 refine i' hr0 λp1 Zy=>⟨pJ Z',λp2 Yw=>?_⟩;have t1:=qH.new (c:=.lst (ZL.map D.str)) Zy;have t2:=qH.new (c:=.lst []) Yw;have c1:oU (pT (pT M p1 (.lst (ZL.map D.str))) p2 (.lst [])) p1=ga (ZL.map D.str):=t2.lst pS;have c2:=@pS (pT M p1 (.lst (ZL.map D.str))) p2 [];have n12:p2≠p1:=λy=>by rw[y,qg]at Yw;cases Yw
 have m2:M p2=Fa:=t1.none Yw;have s2:=t1.trans t2;generalize pT (pT M p1 (.lst (ZL.map D.str))) p2 (.lst [])=M2 at c1 c2 s2 ⊢;refine⟨λm U M'=>∃z way st,qH M M'/\oU M' p1=ga (List.map D.str way)/\oU M' p2=ga (rV st)/\z∈l.nm/\Kq l way<m/\way.length+m<=8000012/\st.length+m<=100/\vD l V c m z way st=vq l V c z0 ZL/\∃y6 y7,U=[ga (.ref A.b),ga (.str c),ga (.str z),ga (.ref r),ga (.ref p1),ga (.ref p2),y6,y7],⟨l.nm.length+1,z0,ZL,[],s2,c1,c2,hz0,Nat.lt_succ_of_le (gk _ _),by lia,by show 0+(l.nm.length+1)<=100;lia,Z',Fa,Fa,Z'⟩,?_⟩
 rintro m U M' ⟨z,way,st,sM,l1,l2,Zp,Yt,hwl,hsl,er,y6,y7,rfl⟩
 obtain⟨m,rfl⟩:∃k,m=k+1:=⟨m - 1,by lia⟩;have q2:∀Yo,qH M Yo->oU Yo p2=ga (rV (vD l V c (m+1) z way st).2)->Q (.tup [(vD l V c (m+1) z way st).1.d,.ref p2]) Yo:=λYo s ll=>by rw[er]at ll ⊢;exact q p2 Yo s m2 ll
 clear q;unfold vD at er q2;refine i' l1 ⟨Z',qP way,?_⟩;show if (!(inD (.str z) (way.map D.str)))=Db then _ else _
 rw[tF];refine qU (c:=!(hasS way z)) (λh1=>?_) (λh1=>?_)
 rotate_left
 .
  have h1:hasS way z=Db:=by simpa using h1
  rw[dh h1]at q2;refine⟨by show(oU M' p1).isSome=Db;rw[l1];rfl,i' l1 ⟨Z',qP _,i' (Fk z way (rG.mp h1)) (i' l1 λp3 hp3=>?_)⟩⟩;have hle:way.findIdx (·==z)<=(way.map D.str).length:=by rw[cX];exact List.findIdx_le_length
  rw[Jl _ _ hle,<-kK];refine i' pS ⟨pJ Z',pJ Z',_,.refl,q2 _ (sM.trans (.new hp3)) ((qH.new hp3).lst l2)⟩
 have h1:hasS way z=pc:=by simpa using h1
 rw[h1,df dE]at er q2;refine⟨by show(oU M' p1).isSome=Db;rw[l1];rfl,i' l1 ⟨by rw[cX];lia,?_⟩⟩;have k3:sI p1 M' (pT M' p1 (.lst (way.map D.str++[D.str z]))):=.put;have s3:qH M (pT M' p1 (.lst (way.map D.str++[D.str z]))):=λx d hx=>by rw[uH (Q7 hx Zy)];exact sM x d hx
 have c3:=k3.lst n12 l2;have l3:oU (pT M' p1 (.lst (way.map D.str++[D.str z]))) p1=ga ((way++[z]).map D.str):=by rw[pS,dP];rfl
 generalize pT M' p1 (.lst (way.map D.str++[D.str z]))=M3 at s3 c3 l3 ⊢;refine⟨A,V,l,c,z,Z',rd.sub s3,Zp,?_⟩;generalize hf:Ak l V c z=fs at er q2 ⊢;refine⟨by show(oU M3 p2).isSome=Db;rw[c3];rfl,pJ Z',i' c3 ⟨by unfold rV;rw[cX];lia,?_⟩⟩;have es:rV st++[.tup [.str z,yr fs]]=rV (st++[(z,fs)]):=by unfold rV;rw[dP];rfl
 rw[es];have s4:qH M (pT M3 p2 (.lst (rV (st++[(z,fs)])))):=λx d hx=>by rw[uH (Q7 hx m2)];exact s3 x d hx
 have c4:=@pS M3 p2 (rV (st++[(z,fs)]));have l4:oU (pT M3 p2 (.lst (rV (st++[(z,fs)])))) p1=ga ((way++[z]).map D.str):=sI.lst .put (dZ n12) l3;generalize pT M3 p2 (.lst (rV (st++[(z,fs)])))=M4 at s4 c4 l4 ⊢;cases fs with
 | nil=>exact⟨A,V,l,c,z,Z',rd.sub s4,Zp,nx,pJ Z',M4,.refl,q2 M4 s4 c4⟩
 | cons i fr=>
  obtain⟨w0,ew,_⟩:=FD (l:=l) (V:=V) (f:=zM l V c z) (i:=i) (by show i∈Ak l V c z;rw[hf];exact dH);dsimp only at er q2;rw[ew]at er q2;dsimp only[Option.elim]at er q2;obtain⟨ph,gr,ws,Zz,pr,gd,rs,i1,i2,i3,i4,i5,i6,i7,i8⟩:=(rd.sub s4).pl;obtain⟨rw0,e1,e2⟩:=Ca i8 ew;have hwo:=rd.ok.wo w0 (rj ew);have hnm:∀y,Kp z w0.2=.inr y->y∈l.nm:=λy h=>CH rd.ok (rj ew) h;refine pN (s4 _ _ rd.bd.at_) (i' Z' (pN i1 (i' Z' (i' (zZ _ _) (i' i4 (i' e1 ?_))))));cases hv:w0.2 with
  | bar x ns=>rw[hv]at q2 e2;exact pN e2 ⟨Z',_,.inl ⟨.inl Z',Z'⟩,rw0,Z',⟨"end",[],z,Z',pJ Z',M4,.refl,q2 M4 s4 c4⟩⟩
  | shut x ns=>rw[hv]at q2 e2;exact pN e2 ⟨Z',_,.inl ⟨.inr Z',Z'⟩,rw0,Z',⟨"end",[],z,Z',pJ Z',M4,.refl,q2 M4 s4 c4⟩⟩
  | wait x=>rw[hv]at q2 e2;exact pN e2 ⟨Z',_,.inr (.inr (.inl ⟨Z',Z'⟩)),rw0,_,_,_,Z',e2,Z',⟨"wait",_,z,Z',pJ Z',M4,.refl,q2 M4 s4 c4⟩⟩
  | breaks x=>rw[hv]at q2 e2;exact pN e2 ⟨Z',_,.inr (.inr (.inr ⟨Z',Z'⟩)),rw0,Z',⟨"break",_,z,Z',pJ Z',M4,.refl,q2 M4 s4 c4⟩⟩
  | always x y=>rw[hv]at er e2 hnm;exact pN e2 ⟨Z',_,.inr (.inl ⟨.inl Z',Z'⟩),rw0,_,_,_,Z',e2,Z',⟨m,fG _,y,way++[z],st++[(z,i::fr)],s4,l4,c4,hnm y Z',by have:=B5 Zp h1;lia,by rw[c9];show way.length+1+m<=_;lia,by rw[c9];show st.length+1+m<=_;lia,er,_,_,Z'⟩⟩
  | night x y f mm=>rw[hv]at er e2 hnm;exact pN e2 ⟨Z',_,.inr (.inl ⟨.inr (.inl Z'),Z'⟩),rw0,_,_,_,Z',e2,Z',⟨m,fG _,y,way++[z],st++[(z,i::fr)],s4,l4,c4,hnm y Z',by have:=B5 Zp h1;lia,by rw[c9];show way.length+1+m<=_;lia,by rw[c9];show st.length+1+m<=_;lia,er,_,_,Z'⟩⟩
  | busy x y=>rw[hv]at er e2 hnm;exact pN e2 ⟨Z',_,.inr (.inl ⟨.inr (.inr (.inl Z')),Z'⟩),rw0,_,_,_,Z',e2,Z',⟨m,fG _,y,way++[z],st++[(z,i::fr)],s4,l4,c4,hnm y Z',by have:=B5 Zp h1;lia,by rw[c9];show way.length+1+m<=_;lia,by rw[c9];show st.length+1+m<=_;lia,er,_,_,Z'⟩⟩
  | silent x y n=>rw[hv]at er e2 hnm;exact pN e2 ⟨Z',_,.inr (.inl ⟨.inr (.inr (.inr Z')),Z'⟩),rw0,_,_,_,Z',e2,Z',⟨m,fG _,y,way++[z],st++[(z,i::fr)],s4,l4,c4,hnm y Z',by have:=B5 Zp h1;lia,by rw[c9];show way.length+1+m<=_;lia,by rw[c9];show st.length+1+m<=_;lia,er,_,_,Z'⟩⟩
noncomputable def zJ(V:qG)(i:Nat)(c:pQ):qG:={V with calls:=V.calls.set i c}
def sV(V:qG)(i:Nat)(c d:pQ):zJ (zJ V i c) i d=zJ V i d:=by unfold zJ;rw[jP]
structure CI(a:Ad)(M:Mp)(A:tG)(V:qG)(i:Nat)(k:rZ)(c:pQ):Prop where
 bd:pY a M A V
 e1:A.cs[i]?=ga k
 e2:V.calls[i]?=ga c
noncomputable def cF(x:Str)(wy ad md:Uf)(k:Nat):T0 (Str×D):=List.take (α:=Str×D) k [("state",.str "rings"),("caller",.str x),("way",.ref wy),("at",.ref ad),("members",.ref md),("holder",.mY),("since",.int 0)]
variable {M':Mp}{i:Nat}{k:rZ}
section
variable {c:pQ}
def CI.cell(h:CI a M A V i k c):sG a M (A.lists++V.fo) k c:=h.bd.cs i k c h.e1 h.e2
def CI.sub(h:CI a M A V i k c)(s:qH M M'):CI a M' A V i k c:=⟨h.bd.sub s,h.e1,h.e2⟩
def CI.put(h:CI a M A V i k c)(c':pQ){ad md:Uf}(ew:c'.way=c.way)(la:oU M ad=ga (c'.at_.map D.str))(lm:oU M md=ga (c'.ms.map D.str))(na:ad∉A.lists++V.fo)(nm:md∉A.lists++V.fo):
  CI a (pT M k.p (.ins a.e (rR c' k.wy ad md))) A (zJ V i c') i k c'/\rB A M A (pT M k.p (.ins a.e (rR c' k.wy ad md))):=by
 obtain⟨b,s⟩:=h.bd.oF h.e1 h.e2 ew la lm na nm;refine⟨⟨b,h.e1,?_⟩,s⟩;show(V.calls.set i c')[i]?=ga c';rw[fF (de.mp h.e2).1]
end
inductive R6(i:Nat)(c:pQ):Ev->pQ->Prop
 | rings (ps:QQQ):R6 i c (.rings i ps) (c.ring ps)
 | quiet:R6 i c (.quiet i) c.nW
 | waits (x:Str):R6 i c (.waits i x) (c.wait x)
 | talks (ms:QQQ):R6 i c (.talks i ms) (c.nP ms)
 | held (x:Str):R6 i c (.held i x) (c.hold x)
 | leaves (x:Str):R6 i c (.leaves i x) (c.drop x)
 | over (w:Str):R6 i c (.over i w) (c.over w)
def GZ(a:Ad):rQ:=λds M Q=>Cv λp x=>ds=[.ref p,.str x]/\M p=ga (.ins a.e [])/\∀M' wy ad md,sI p M M'->M wy=Fa->M ad=Fa->M md=Fa->ad≠wy->md≠wy->M' p=ga (.ins a.e (rR (Ae x) wy ad md))->oU M' wy=ga []->oU M' ad=ga []->oU M' md=ga []->Q .mY M'
def Pn(a:Ad):rQ:=λds M Q=>Kg λA V i k c w=>ds=[.ref k.p,.str w]/\CI a M A V i k c/\∀M',rB A M A M'->pY a M' A (zJ V i (c.over w))->Q .mY M'
def Oc(a:Ad):rQ:=λds M Q=>Kg λA V i k c x=>ds=[.ref k.p,.str x]/\CI a M A V i k c/\c.at_.length<=100/\c.ms.length<=100/\∀M',rB A M A M'->pY a M' A (zJ V i (c.drop x))->Q .mY M'
def Lh(a:Ad):rQ:=λds M Q=>Th λA V i k c e c'=>ds=[.ref k.p,Ev.d e]/\CI a M A V i k c/\c.at_.length<=100/\c.ms.length<=100/\R6 i c e c'/\∀M',rB A M A M'->pY a M' A (zJ V i c')->Q .mY M'
def Rt:Fq P w K mg base 1 a.aA (GZ a):=by
 refine fq G.aA.toDG E2 (λr u=>⟨_,(pL (qA v0 pP)
 (pL (qA v0 Y1)
 (pL (qA v0 (qX sT))
 (pL (qA v0 (qX sT))
 (pL (qA v0 (qX sT))
 (pL (qA v0 sD)
 (pL (qA v0 pO)
 (pM (qA v0 sD))))))))),?_⟩)
 rintro ds M Q ⟨p,x,rfl,hb,q⟩
 refine pN hb ⟨(G.j "state" Z'),by show 0<1000;decide,?_⟩;have k1:sI p M (pT M p (.ins a.e [("state",.str "rings")])):=.put;have b1:pT M p (.ins a.e [("state",.str "rings")]) p=ga (.ins a.e [("state",.str "rings")]):=qg;show vc _ _ _ _ (pT M p (.ins a.e [("state",.str "rings")]));generalize pT M p (.ins a.e [("state",.str "rings")])=N1 at k1 b1 ⊢;refine pN b1 ⟨(G.j "caller" Z'),by show 1<1000;decide,?_⟩;have k2:=k1.trans (sI.put (p:=p) (c:=.ins a.e [("state",.str "rings"),("caller",.str x)]));have b2:pT N1 p (.ins a.e [("state",.str "rings"),("caller",.str x)]) p=ga (.ins a.e [("state",.str "rings"),("caller",.str x)]):=qg;show vc _ _ _ _ (pT N1 p (.ins a.e [("state",.str "rings"),("caller",.str x)]));generalize pT N1 p (.ins a.e [("state",.str "rings"),("caller",.str x)])=N2 at k2 b2 ⊢;refine⟨pJ Z',λwy hwy=>?_⟩;obtain⟨n3,e3,k3,c3,b3⟩:=tX (fs':=(cF x wy 0 0 3)) (c:=.lst []) b2 hwy;refine pN e3 ⟨(G.j "way" Z'),by show 2<1000;decide,?_⟩;show vc _ _ _ _ (pT (pT N2 wy (.lst [])) p (.ins a.e (cF x wy 0 0 3)));generalize pT (pT N2 wy (.lst [])) p (.ins a.e (cF x wy 0 0 3))=N3 at k3 c3 b3 ⊢;have z1:M wy=Fa:=sr k2 b2 hwy;have kk3:=k2.trans k3;have l3:oU N3 wy=ga []:=sd c3;refine⟨pJ Z',λad had=>?_⟩;obtain⟨n4,e4,k4,c4,b4⟩:=tX (fs':=(cF x wy ad 0 4)) (c:=.lst []) b3 had;refine pN e4 ⟨(G.j "at" Z'),by show 3<1000;decide,?_⟩;show vc _ _ _ _ (pT (pT N3 ad (.lst [])) p (.ins a.e (cF x wy ad 0 4)));generalize pT (pT N3 ad (.lst [])) p (.ins a.e (cF x wy ad 0 4))=N4 at k4 c4 b4 ⊢;have z2:M ad=Fa:=sr kk3 b3 had;have kk4:=kk3.trans k4;have naw:ad≠wy:=λz=>by rw[z,c3]at had;cases had
 have l4:=k4.lst (qo l3 b3) l3;have m4:oU N4 ad=ga []:=sd c4;refine⟨pJ Z',λmd hmd=>?_⟩;obtain⟨n5,e5,k5,c5,b5⟩:=tX (fs':=(cF x wy ad md 5)) (c:=.lst []) b4 hmd;refine pN e5 ⟨(G.j "members" Z'),by show 4<1000;decide,?_⟩;show vc _ _ _ _ (pT (pT N4 md (.lst [])) p (.ins a.e (cF x wy ad md 5)));generalize pT (pT N4 md (.lst [])) p (.ins a.e (cF x wy ad md 5))=N5 at k5 c5 b5 ⊢;have z3:M md=Fa:=sr kk4 b4 hmd;have kk5:=kk4.trans k5;have nmw:md≠wy:=λz=>by rw[z,qm l4]at hmd;cases hmd
 have l5:=k5.lst (qo l4 b4) l4;have m5:=k5.lst (qo m4 b4) m4;have o5:oU N5 md=ga []:=sd c5;refine pN b5 ⟨(G.j "holder" Z'),by show 5<1000;decide,?_⟩;have k6:sI p N5 (pT N5 p (.ins a.e (cF x wy ad md 6))):=.put;have b6:pT N5 p (.ins a.e (cF x wy ad md 6)) p=ga (.ins a.e (cF x wy ad md 6)):=qg;show vc _ _ _ _ (pT N5 p (.ins a.e (cF x wy ad md 6)));generalize pT N5 p (.ins a.e (cF x wy ad md 6))=N6 at k6 b6 ⊢;refine pN b6 ⟨(G.j "since" Z'),by show 6<1000;decide,?_⟩;have k7:=k6.trans (sI.put (p:=p) (c:=.ins a.e (cF x wy ad md 7)));have b7:pT N6 p (.ins a.e (cF x wy ad md 7)) p=ga (.ins a.e (cF x wy ad md 7)):=qg;rw[show wR "since" (.int 0) (cF x wy ad md 6)=(cF x wy ad md 7)from Z'];generalize pT N6 p (.ins a.e (cF x wy ad md 7))=N7 at k7 b7 ⊢;refine pN b7 ⟨(G.j "word" Z'),by show 7<1000;decide,_,.refl,?_⟩;have k8:=k7.trans (sI.put (p:=p) (c:=.ins a.e (rR (Ae x) wy ad md)));exact q _ wy ad md (kk5.trans k8) z1 z2 z3 naw nmw qg (k8.lst (qo l5 b5) l5) (k8.lst (qo m5 b5) m5) (k8.lst (qo o5 b5) o5)
def Kw:Fq P w K mg base 1 a.ag (Pn a):=by
 refine fq G.ag.toDG HQ (λr u=>⟨_,(pL (qA v0 pP)
 (pL (qA v0 Y1)
 (pL (qA v0 (qX sT))
 (pL (qA v0 (qX sT))
 (pM (qA v0 sD)))))),?_⟩)
 rintro ds M Q ⟨A,V,i,k,c,w0,rfl,h,q⟩
 obtain⟨ad,md,h1,h2,h3,h4,n1,n2⟩:=h.cell;refine pN h1 ⟨(G.j "state" Z'),by show 8<1000;decide,?_⟩;obtain⟨g1,s1⟩:=h.put {c with st:="over"} Z' h3 h4 n1 n2;show vc _ _ _ _ (pT M k.p (.ins a.e (rR {c with st:="over"} k.wy ad md)));generalize pT M k.p (.ins a.e (rR {c with st:="over"} k.wy ad md))=M1 at g1 s1 ⊢;clear h1 h2 h3 h4 n1 n2;obtain⟨ad,md,h1,h2,h3,h4,n1,n2⟩:=g1.cell;refine pN h1 ⟨(G.j "word" Z'),by show 8<1000;decide,?_⟩;obtain⟨g2,s2⟩:=g1.put {c with st:="over",wd:=some w0} Z' h3 h4 n1 n2;show vc _ _ _ _ (pT M1 k.p (.ins a.e (rR {c with st:="over",wd:=some w0} k.wy ad md)));generalize pT M1 k.p (.ins a.e (rR {c with st:="over",wd:=some w0} k.wy ad md))=M2 at g2 s2 ⊢;clear h1 h2 h3 h4 n1 n2;refine⟨pJ Z',λp hp=>?_⟩;have t3:=qH.new (c:=.lst []) hp;have lp:=@pS M2 p [];have np:=g2.bd.nG hp;have g2':=g2.sub t3;have s2':=s2.trans (.sub t3);generalize pT M2 p (.lst [])=M2' at t3 lp g2' s2' ⊢;obtain⟨ad,md,h1,h2,h3,h4,n1,n2⟩:=g2'.cell;refine pN h1 ⟨(G.j "at" Z'),by show 8<1000;decide,?_⟩;obtain⟨g3,s3⟩:=g2'.put {c with st:="over",wd:=some w0,at_:=[]} Z' lp h4 np n2;show vc _ _ _ _ (pT M2' k.p (.ins a.e (rR {c with st:="over",wd:=some w0,at_:=[]} k.wy p md)));generalize pT M2' k.p (.ins a.e (rR {c with st:="over",wd:=some w0,at_:=[]} k.wy p md))=M3 at g3 s3 ⊢;clear h1 h2 h3 h4 n1 n2 lp t3 np g2 g2';refine⟨pJ Z',λp2 Yw=>?_⟩;have t4:=qH.new (c:=.lst []) Yw;have lp:=@pS M3 p2 [];have np:=g3.bd.nG Yw;have g3':=g3.sub t4;have s3':=s3.trans (.sub t4);generalize pT M3 p2 (.lst [])=M3' at t4 lp g3' s3' ⊢;obtain⟨ad,md,h1,h2,h3,h4,n1,n2⟩:=g3'.cell;refine pN h1 ⟨(G.j "members" Z'),by show 8<1000;decide,?_⟩;obtain⟨g4,s4⟩:=g3'.put {c with st:="over",wd:=some w0,at_:=[],ms:=[]} Z' h3 lp n1 np;rw[show wR "members" (.ref p2) (rR {c with st:="over",wd:=some w0,at_:=[]} k.wy ad md)=rR {c with st:="over",wd:=some w0,at_:=[],ms:=[]} k.wy ad p2 from rfl];generalize pT M3' k.p (.ins a.e (rR {c with st:="over",wd:=some w0,at_:=[],ms:=[]} k.wy ad p2))=M4 at g4 s4 ⊢;clear h1 h2 h3 h4 n1 n2 lp t4 np g3 g3';obtain⟨ad,md,h1,h2,h3,h4,n1,n2⟩:=g4.cell;refine pN h1 ⟨(G.j "holder" Z'),by show 8<1000;decide,_,.refl,?_⟩;obtain⟨g5,s5⟩:=g4.put (c.over w0) Z' h3 h4 n1 n2;refine q _ ((s1.trans s2').trans (s3'.trans (s4.trans s5))) ?_;have:=g5.bd;rw[sV,sV,sV,sV]at this;exact this
def NW:Fq P w K mg base 1 a.aW (Oc a):=by
 refine fq G.aW.toDG D3 (λr u=>⟨_,(pL (qA v0 (qT Z' (xV (ix:=[Fa,ga 1]) (N':=["other","phone"])) (ra (pR v0)) (qN 0) (vS (pX u v0 Y1)) v0))
 (pM (qA v0 (qT Z' (xV (ix:=[Fa,ga 1]) (N':=["other","phone"])) (ra (pR v0)) (qN 0) (vS (pX u v0 Y1)) v0)))),?_⟩)
 rintro ds M Q ⟨A,V,i,k,c,x,rfl,h,la,lm,q⟩
 have hz:=dO;obtain⟨ad,md,h1,h2,h3,h4,n1,n2⟩:=h.cell;refine pN h1 (i' Z' (i' h3 (uo (f:=id) (t:=Qs x) h3 _ [] _ (by rw[cX];simp only[dN];lia) (λd hd k0 hk=>?_) (λd hd _ k0 hk=>?_) λp hp=>?_)))
 .obtain⟨y,hy,rfl⟩:=dF.mp hd;exact hk
 .obtain⟨y,hy,rfl⟩:=dF.mp hd;exact hk
 rw[Cu];have t1:=qH.new (c:=.lst ((so c.at_ x).map D.str)) hp;have lp:=@pS M p ((so c.at_ x).map D.str);have np:=h.bd.nG hp;have h':=h.sub t1;have s1:rB A M A (pT M p (.lst ((so c.at_ x).map D.str))):=.sub t1;generalize pT M p (.lst ((so c.at_ x).map D.str))=M1 at t1 lp h' s1 ⊢;clear h1 h2 h3 h4 n1 n2;obtain⟨ad,md,h1,h2,h3,h4,n1,n2⟩:=h'.cell;refine pN h1 ⟨(G.j "at" Z'),by show 8<1000;decide,?_⟩;obtain⟨g2,s2⟩:=h'.put {c with at_:=so c.at_ x} Z' lp h4 np n2;rw[show wR "at" (.ref p) (rR c k.wy ad md)=rR {c with at_:=so c.at_ x} k.wy p md from rfl];generalize pT M1 k.p (.ins a.e (rR {c with at_:=so c.at_ x} k.wy p md))=M2 at g2 s2 ⊢;clear h1 h2 h3 h4 n1 n2 lp np;obtain⟨ad,md,h1,h2,h3,h4,n1,n2⟩:=g2.cell;refine pN h1 (i' Z' (i' h4 (uo (f:=id) (t:=Qs x) h4 _ [] _ (by rw[cX];simp only[dN];show 0+c.ms.length<=Ch;lia) (λd hd k0 hk=>?_) (λd hd _ k0 hk=>?_) λp2 Yw=>?_)))
 .obtain⟨y,hy,rfl⟩:=dF.mp hd;exact hk
 .obtain⟨y,hy,rfl⟩:=dF.mp hd;exact hk
 rw[Cu];have t3:=qH.new (c:=.lst ((so c.ms x).map D.str)) Yw;have lp:=@pS M2 p2 ((so c.ms x).map D.str);have np:=g2.bd.nG Yw;have g2':=g2.sub t3;have s3:rB A M2 A (pT M2 p2 (.lst ((so c.ms x).map D.str))):=.sub t3;generalize pT M2 p2 (.lst ((so c.ms x).map D.str))=M3 at t3 lp g2' s3 ⊢;clear h1 h2 h3 h4 n1 n2;obtain⟨ad,md,h1,h2,h3,h4,n1,n2⟩:=g2'.cell;refine pN h1 ⟨(G.j "members" Z'),by show 8<1000;decide,_,.refl,?_⟩;obtain⟨g4,s4⟩:=g2'.put (c.drop x) Z' h3 lp n1 np;refine q _ ((s1.trans s2).trans (s3.trans s4)) ?_;have:=g4.bd;rw[sV]at this;exact this
def KR:Fq P w K mg base 2 a.aX (Lh a):=by
 refine fq G.aX.toDG x8 (λr u=>⟨_,(pL (qc 2 x8 (pZ Y1 pO))
 (pM (qh (pX u Y2 pP)
 (pL (qA v0 pP)
 (pL (qA v0 (qr s8 Z' G.q sO (qz (pZ Y1 pO))))
 (pM (qA v0 pO))))
 (pM (qh (pX u Y2 pP)
 (pM (qA v0 (qX sT)))
 (pM (qh (pX u Y2 pP)
 (pL (qA v0 pP)
 (pM (qA v0 (qX (qz (pZ Y1 pO))))))
 (pM (qh (pX u Y2 pP)
 (pL (qA v0 pP)
 (pL (qA v0 (qr s8 Z' G.q sO (qz (pZ Y1 pO))))
 (pL (qA v0 (qX sT))
 (pM (qA v0 sD)))))
 (pM (qh (pX u Y2 pP)
 (pL (qA v0 pP)
 (pM (qA v0 (pZ Y1 pO))))
 (pM (qh (pX u Y2 pP)
 (pM (qd (pW (NW G) r G.aW (r6 v0 (pZ Y1 pO)))))
 (pM (qh (pX u Y2 pP)
 (pM (qd (pW (Kw G) r G.ag (r6 v0 (pZ Y1 pO)))))
 qa))))))))))))))),?_⟩)
 rintro ds M Q ⟨A,V,i,k,c,e,c',rfl,h,la,lm,hc,q⟩
 cases hc with
 | over w0=>exact⟨A,V,i,k,c,w0,Z',h,λM' s b=>⟨M',.refl,q M' s b⟩⟩
 | leaves x=>exact⟨A,V,i,k,c,x,Z',h,la,lm,λM' s b=>⟨M',.refl,q M' s b⟩⟩
 | quiet=>refine⟨pJ Z',λp hp=>?_⟩;have t3:=qH.new (c:=.lst []) hp;have lp:=@pS M p [];have np:=h.bd.nG hp;have g1:=h.sub t3;generalize pT M p (.lst [])=M1 at t3 lp g1 ⊢;obtain⟨ad,md,h1,h2,h3,h4,n1,n2⟩:=g1.cell;refine pN h1 ⟨(G.j "at" Z'),by show 8<1000;decide,_,.refl,?_⟩;obtain⟨g5,s5⟩:=g1.put c.nW Z' lp h4 np n2;exact q _ ((rB.sub t3).trans s5) g5.bd
 | waits x=>obtain⟨ad,md,h1,h2,h3,h4,n1,n2⟩:=h.cell;refine pN h1 ⟨(G.j "state" Z'),by show 8<1000;decide,?_⟩;obtain⟨g1,s1⟩:=h.put {c with st:="waits"} Z' h3 h4 n1 n2;show vc _ _ _ _ (pT M k.p (.ins a.e (rR {c with st:="waits"} k.wy ad md)));generalize pT M k.p (.ins a.e (rR {c with st:="waits"} k.wy ad md))=M1 at g1 s1 ⊢;clear h1 h2 h3 h4 n1 n2;refine⟨pJ Z',λp hp=>?_⟩;have t3:=qH.new (c:=.lst [D.str x]) hp;have lp:=@pS M1 p [D.str x];have np:=g1.bd.nG hp;have g1':=g1.sub t3;generalize pT M1 p (.lst [D.str x])=M1' at t3 lp g1' ⊢;obtain⟨ad,md,h1,h2,h3,h4,n1,n2⟩:=g1'.cell;refine pN h1 ⟨(G.j "at" Z'),by show 8<1000;decide,_,.refl,?_⟩;obtain⟨g5,s5⟩:=g1'.put (c.wait x) Z' lp h4 np n2;refine q _ (s1.trans ((rB.sub t3).trans s5)) ?_;have:=g5.bd;rw[sV]at this;exact this
 | held x=>obtain⟨ad,md,h1,h2,h3,h4,n1,n2⟩:=h.cell;refine pN h1 ⟨(G.j "state" Z'),by show 8<1000;decide,?_⟩;obtain⟨g1,s1⟩:=h.put {c with st:="held"} Z' h3 h4 n1 n2;show vc _ _ _ _ (pT M k.p (.ins a.e (rR {c with st:="held"} k.wy ad md)));generalize pT M k.p (.ins a.e (rR {c with st:="held"} k.wy ad md))=M1 at g1 s1 ⊢;clear h1 h2 h3 h4 n1 n2;obtain⟨ad,md,h1,h2,h3,h4,n1,n2⟩:=g1.cell;refine pN h1 ⟨(G.j "holder" Z'),by show 8<1000;decide,_,.refl,?_⟩;obtain⟨g5,s5⟩:=g1.put (c.hold x) Z' h3 h4 n1 n2;refine q _ (s1.trans s5) ?_;have:=g5.bd;rw[sV]at this;exact this
 | rings ps=>obtain⟨ad,md,h1,h2,h3,h4,n1,n2⟩:=h.cell;refine pN h1 ⟨(G.j "state" Z'),by show 8<1000;decide,?_⟩;obtain⟨g1,s1⟩:=h.put {c with st:="rings"} Z' h3 h4 n1 n2;show vc _ _ _ _ (pT M k.p (.ins a.e (rR {c with st:="rings"} k.wy ad md)));generalize pT M k.p (.ins a.e (rR {c with st:="rings"} k.wy ad md))=M1 at g1 s1 ⊢;clear h1 h2 h3 h4 n1 n2;refine λp hp=>?_;have t3:=qH.new (c:=.lst (ps.map D.str)) hp;have lp:=@pS M1 p (ps.map D.str);have np:=g1.bd.nG hp;have g1':=g1.sub t3;have s1':=s1.trans (.sub t3);generalize pT M1 p (.lst (ps.map D.str))=M1' at t3 lp g1' s1' ⊢;obtain⟨ad,md,h1,h2,h3,h4,n1,n2⟩:=g1'.cell;refine pN h1 ⟨(G.j "at" Z'),by show 8<1000;decide,?_⟩;obtain⟨g3,s3⟩:=g1'.put {c with st:="rings",at_:=ps} Z' lp h4 np n2;rw[show wR "at" (.ref p) (rR {c with st:="rings"} k.wy ad md)=rR {c with st:="rings",at_:=ps} k.wy p md from rfl];generalize pT M1' k.p (.ins a.e (rR {c with st:="rings",at_:=ps} k.wy p md))=M3 at g3 s3 ⊢;clear h1 h2 h3 h4 n1 n2 lp t3 np;obtain⟨ad,md,h1,h2,h3,h4,n1,n2⟩:=g3.cell;refine pN h1 ⟨(G.j "since" Z'),by show 8<1000;decide,_,.refl,?_⟩;obtain⟨g5,s5⟩:=g3.put (c.ring ps) Z' h3 h4 n1 n2;refine q _ (s1'.trans (s3.trans s5)) ?_;have:=g5.bd;rw[sV,sV]at this;exact this
 | talks ms=>obtain⟨ad,md,h1,h2,h3,h4,n1,n2⟩:=h.cell;refine pN h1 ⟨(G.j "state" Z'),by show 8<1000;decide,?_⟩;obtain⟨g1,s1⟩:=h.put {c with st:="talks"} Z' h3 h4 n1 n2;show vc _ _ _ _ (pT M k.p (.ins a.e (rR {c with st:="talks"} k.wy ad md)));generalize pT M k.p (.ins a.e (rR {c with st:="talks"} k.wy ad md))=M1 at g1 s1 ⊢;clear h1 h2 h3 h4 n1 n2;refine λp hp=>?_;have t3:=qH.new (c:=.lst (ms.map D.str)) hp;have lp:=@pS M1 p (ms.map D.str);have np:=g1.bd.nG hp;have g1':=g1.sub t3;have s1':=s1.trans (.sub t3);generalize pT M1 p (.lst (ms.map D.str))=M1' at t3 lp g1' s1' ⊢;obtain⟨ad,md,h1,h2,h3,h4,n1,n2⟩:=g1'.cell;refine pN h1 ⟨(G.j "members" Z'),by show 8<1000;decide,?_⟩;obtain⟨g3,s3⟩:=g1'.put {c with st:="talks",ms:=ms} Z' h3 lp n1 np;show vc _ _ _ _ (pT M1' k.p (.ins a.e (rR {c with st:="talks",ms:=ms} k.wy ad p)));generalize pT M1' k.p (.ins a.e (rR {c with st:="talks",ms:=ms} k.wy ad p))=M3 at g3 s3 ⊢;clear h1 h2 h3 h4 n1 n2 lp t3 np;refine⟨pJ Z',λp2 Yw=>?_⟩;have t4:=qH.new (c:=.lst []) Yw;have lp:=@pS M3 p2 [];have np:=g3.bd.nG Yw;have g3':=g3.sub t4;have s3':=s3.trans (.sub t4);generalize pT M3 p2 (.lst [])=M3' at t4 lp g3' s3' ⊢;obtain⟨ad,md,h1,h2,h3,h4,n1,n2⟩:=g3'.cell;refine pN h1 ⟨(G.j "at" Z'),by show 8<1000;decide,?_⟩;obtain⟨g4,s4⟩:=g3'.put {c with st:="talks",ms:=ms,at_:=[]} Z' lp h4 np n2;rw[show wR "at" (.ref p2) (rR {c with st:="talks",ms:=ms} k.wy ad md)=rR {c with st:="talks",ms:=ms,at_:=[]} k.wy p2 md from rfl];generalize pT M3' k.p (.ins a.e (rR {c with st:="talks",ms:=ms,at_:=[]} k.wy p2 md))=M4 at g4 s4 ⊢;clear h1 h2 h3 h4 n1 n2 lp t4 np;obtain⟨ad,md,h1,h2,h3,h4,n1,n2⟩:=g4.cell;refine pN h1 ⟨(G.j "holder" Z'),by show 8<1000;decide,_,.refl,?_⟩;obtain⟨g5,s5⟩:=g4.put (c.nP ms) Z' h3 h4 n1 n2;refine q _ (s1'.trans (s3'.trans (s4.trans s5))) ?_;have:=g5.bd;rw[sV,sV,sV]at this;exact this
theorem uq{α:Type}{f:α->α}:∀{l:List α} {i:Nat} {c:α},l[i]?=ga c->l.modify i f=l.set i (f c)
 | [],_,_,h=>by simp at h
 | _::_,0,_,h=>by cases h;rfl
 | x::r,i+1,c,h=>by rw[List.modify_succ_cons,lA,uq (l:=r) (by simpa using h)]
def Js(ps:T0 (Str×Int))(z:Str)(n:Int):Dy (uj ps) (.inr z) (.int n)=uj (Dh ps z n):=by
 have ea:((uj ps).any λkv=>decide (kv.1=(Sum.inr z:rM)))=ps.any λp=>decide (p.1=z):=by unfold uj;rw[iG];congr 1;funext p;have:((Sum.inr p.1:rM)=Sum.inr z)=(p.1=z):=propext ⟨λh=>j7 h,λh=>by rw[h]⟩;simp only[Function.comp,this]
 unfold Dy Dh;rw[ea];by_cases h:(ps.any λp=>decide (p.1=z))=Db
 .rw[dh h,dh h];unfold uj;rw[eA,eA];refine gy λp _=>?_;by_cases hp:p.1=z
  .simp[hp]
  .have:¬(Sum.inr p.1:rM)=Sum.inr z:=λy=>hp (j7 y);simp[hp]
 .rw[df h,df h];unfold uj;rw[dP];rfl
def G0{α:Type}{l:List α}{i:Nat}{x:α}(h:l[i]?=ga x):l.set i x=l:=by obtain⟨hi,e⟩:=de.mp h;rw[<-e,List.set_getElem_self]
structure XU(V:qG):Prop where
 lo:V.log.length<10000000
 le:V.nk.length<10000000
 ca:V.calls.length<=1000000
 ps:V.ps.length<10000000
 cs:∀c∈V.calls,c.way.length<10000000/\c.at_.length<=100/\c.ms.length<=100
def BQ(a:Ad):rQ:=λds M Q=>GD λA V k c v=>ds=[.ref A.b,sS.d v]/\CI a M A V v.i k c/\V.nk.length<10000000/\c.way.length<10000000/\∀M',rB A M A M'->pY a M' A {zJ V v.i (c.go v.g)with nk:=V.nk++[v]}->Q .mY M'
def DV(a:Ad):rQ:=λds M Q=>Sr λA V i j ki ci cj ms=>ds=[.ref A.b,.int (i:Nat),.int (j:Nat),names ms]/\CI a M A V i ki ci/\V.calls[j]?=ga cj/\i≠j/\V.nk.length<10000000/\∀M' A',A'.b=A.b->rB A M A' M'->pY a M' A' {zJ (zJ V i (ci.over "merged")) j (cj.mem ms)with nk:=V.nk.map (sS.to i j)}->Q .mY M'
def zO(a:Ad):rQ:=λds M Q=>Cv λA V=>ds=[.ref A.b]/\pY a M A V/\∀M',rB A M A M'->pY a M' A {V with t:=V.t+1,calls:=V.calls.map pQ.tick}->Q .mY M'
def wW(a:Ad):rQ:=λds M Q=>B0 λb A V e=>ds=[.ref b,Ev.d e]/\A.b=b/\pY a M A V/\XU V/\e.ok V/\∀M' A',A'.b=A.b->rB A M A' M'->pY a M' A' (qD V e)->Q .mY M'
noncomputable def SC(m k:Nat):D->D
 | .tup (.int i::r)=>if i=(m:Int)then .tup (.int (k:Nat)::r)else .tup (.int i::r)
 | d=>d
def Sw(m k:Nat)(v:sS):SC m k v.d=(v.to m k).d:=by
 show(if ((v.i:Nat):Int)=(m:Int)then _ else _)=_;unfold sS.to;by_cases h:v.i=m
 .rw[dh h,dh (by rw[h])];rfl
 .rw[df h,df (by lia)];rfl
def IQ:Fq P w K mg base 1 a.bD (BQ a):=by
 refine fq G.bD.toDG A8 (λr u=>⟨_,(pL (qd (qV (pR v0) (qz Y1)))
 (pM (qd (qV (pR (pZ (pR v0) (pZ Y1 pO))) (qz (pZ Y1 pO)))))),?_⟩)
 rintro ds M Q ⟨A,V,k,c,v,rfl,ci,l1,l2,q⟩
 have hz:=dO;have bd:=ci.bd;refine pN bd.at_ (i' Z' ⟨by show(oU M A.le).isSome=Db;rw[bd.le];rfl,i' bd.le ⟨by rw[cX];lia,?_⟩⟩);obtain⟨b1,s1⟩:=bd.oN (es:=V.nk++[v]);rw[dP]at b1 s1;have b1:pY a (pT M A.le (.lst (V.nk.map sS.d++[v.d]))) A {V with nk:=V.nk++[v]}:=b1;have s1:rB A M A (pT M A.le (.lst (V.nk.map sS.d++[v.d]))):=s1;generalize pT M A.le (.lst (V.nk.map sS.d++[v.d]))=M1 at b1 s1 ⊢;obtain⟨ad,md,h1,h2,h3,h4,n1,n2⟩:=b1.cs v.i k c ci.e1 ci.e2;refine pN b1.at_ (i' Z' (i' b1.ca (i' (rS ci.e1) (pN h1 (i' Z' ⟨by show(oU M1 k.wy).isSome=Db;rw[h2];rfl,i' h2 ⟨by rw[cX];lia,?_⟩⟩)))));obtain⟨b2,s2⟩:=b1.oP (ws:=c.way++[v.g]) ci.e1 ci.e2;rw[dP]at b2 s2;exact⟨_,.refl,q _ (s1.trans s2) b2⟩
def OJ:Fq P w K mg base 2 a.bE (DV a):=by
 refine fq G.bE.toDG yi (λr u=>⟨_,(pL (qd (pW (Kw G) r G.ag (r6 (pZ (pR v0) Y1) pP)))
 (pL (qA v0 (qT Z' (xV (ix:=[Fa,ga 1,ga 2]) (N':=["leg","merged","kept"])) (ra (pR v0)) (qN 0) sf (RW (pX u (pZ v0 pO) Y1) (qp (qe (qz Y2)) (tH v0 (ur pO) uk)) v0)))
 (pL (qc 4 yi (pZ (pR v0) Y2))
 (pM (qA v4 (qr s8 Z' G.q sO (qz Y3))))))),?_⟩)
 rintro ds M Q ⟨A,V,i,j,ki,ci,cj,ms,rfl,hi,hj,Zj,l1,q⟩
 have hz:=dO;refine pN hi.bd.at_ (i' Z' (i' Z' (i' hi.bd.ca (i' (rS hi.e1) ⟨A,V,i,ki,ci,"merged",Z',hi,λM1 s1 b1=>?_⟩))));have hj1:(zJ V i (ci.over "merged")).calls[j]?=ga cj:=by show(V.calls.set i _)[j]?=_;rw[fE Zj];exact hj
 have le1:oU M1 A.le=ga (V.nk.map sS.d):=b1.le;refine pN b1.at_ (i' Z' (i' le1 (rN (f:=SC i j) le1 _ [] _ (by rw[cX];simp only[dN];lia) (λd hd k hk=>?_) λp hp=>?_)))
 .obtain⟨v,_,rfl⟩:=dF.mp hd;refine i' Z' ?_;have hk:k (if ((v.i:Nat):Int)=(i:Int)then .tup [.int (j:Nat),.str v.f,.str v.g,.str v.y]else .tup [.int (v.i:Nat),.str v.f,.str v.g,.str v.y]) M1:=hk;refine qU (c:=((v.i:Nat):Int)==(i:Nat)) (λz=>?_) (λz=>?_)
  .rw[dh (dL z)]at hk;exact⟨pJ Z',fA _ _,by show 1+3<=Ch;lia,hk⟩
  .rw[df (λy=>z (by rw[y];exact fH _))]at hk;exact hk
 have em:[]++(V.nk.map sS.d).map (SC i j)=(V.nk.map (sS.to i j)).map sS.d:=by rw[d9,eA,eA];exact gy λv _=>Sw i j v
 rw[em];obtain⟨b2,s2⟩:=b1.oS (es:=V.nk.map (sS.to i j)) hp;have t:=qH.new (c:=.lst ((V.nk.map (sS.to i j)).map sS.d)) hp;refine pN (t _ _ b1.at_) ⟨(G.E "legs" Z'),by show 8<1000;decide,?_⟩;show vc _ _ _ _ (pT (pT M1 p (.lst ((V.nk.map (sS.to i j)).map sS.d))) A.b (.ins a.c (uz (.ref V.p) V.h V.t A.ca p A.nx A.on A.lo)));have b2:pY a (pT (pT M1 p (.lst ((V.nk.map (sS.to i j)).map sS.d))) A.b (.ins a.c (uz (.ref V.p) V.h V.t A.ca p A.nx A.on A.lo))) {A with le:=p} {zJ V i (ci.over "merged")with nk:=V.nk.map (sS.to i j)}:=b2;have s2:rB A M1 {A with le:=p} (pT (pT M1 p (.lst ((V.nk.map (sS.to i j)).map sS.d))) A.b (.ins a.c (uz (.ref V.p) V.h V.t A.ca p A.nx A.on A.lo))):=s2;generalize pT (pT M1 p (.lst ((V.nk.map (sS.to i j)).map sS.d))) A.b (.ins a.c (uz (.ref V.p) V.h V.t A.ca p A.nx A.on A.lo))=M2 at b2 s2 ⊢;have hjk:j<A.cs.length:=by rw[hi.bd.len];exact(de.mp hj).1
 have ej:A.cs[j]?=ga A.cs[j]:=cZ hjk;generalize A.cs[j]=kj at ej;have cj2:CI a M2 {A with le:=p} _ j kj cj:=⟨b2,ej,hj1⟩;refine pN b2.at_ (i' Z' (i' Z' (i' b2.ca (i' (rS ej) ?_))));refine λr hr0=>?_;have t3:=qH.new (c:=.lst (ms.map D.str)) hr0;have lr:=@pS M2 r (ms.map D.str);have nr:=b2.nG hr0;have cj3:=cj2.sub t3;generalize pT M2 r (.lst (ms.map D.str))=M3 at t3 lr cj3 ⊢;obtain⟨ad,md,h1,h2,h3,h4,n1,n2⟩:=cj3.cell;refine pN h1 ⟨(G.j "members" Z'),by show 8<1000;decide,_,.refl,?_⟩;obtain⟨g5,s5⟩:=cj3.put (cj.mem ms) Z' h3 lr n1 nr;exact q _ {A with le:=p} Z' (s1.trans (s2.trans ((rB.sub t3).trans s5))) g5.bd
def FG:Fq P w K mg base 1 a.bF (zO a):=by
 refine fq G.bF.toDG vP (λr u=>⟨_,(pL (Ej v0 pO)
 (pM (vg fi Z' (ra (pR v0)) (sL 1 vP)
 (pM (qh (pX u (pR Y1) pP)
 (pM (Ej Y1 pO))
 qa))))),?_⟩)
 rintro ds M Q ⟨A,V,rfl,bd,q⟩
 refine pN bd.at_ ⟨(G.E "turn" Z'),i' Z' (i' Z' (pN bd.at_ ⟨Z',by show 8<1000;decide,?_⟩))⟩;obtain⟨b1,s1⟩:=bd.putT (t:=V.t+1);rw[show wR "turn" (.int (V.t+1)) (uz (.ref V.p) V.h V.t A.ca A.le A.nx A.on A.lo)=uz (.ref V.p) V.h (V.t+1) A.ca A.le A.nx A.on A.lo from rfl];generalize pT M A.b (.ins a.c (uz (.ref V.p) V.h (V.t+1) A.ca A.le A.nx A.on A.lo))=M1 at b1 s1 ⊢;refine pN b1.at_ (i' Z' (i' b1.ca ?_));refine wX (A.cs.map λk=>D.ref k.p) (λpre U M'=>pY a M' A {V with t:=V.t+1,calls:=(V.calls.take pre.length).map pQ.tick++V.calls.drop pre.length}/\rB A M A M'/\∃y,U=[ga (.ref A.b),y]) (λ_ _ M' j=>j.1.ca) _ [] _ _ Z' ⟨b1,s1,Fa,Z'⟩ ?_ ?_
 .rintro pre d post e U M' ⟨b2,s2,y,rfl⟩ nx Yr
  have hd:(A.cs.map λk=>D.ref k.p)[pre.length]?=ga d:=by rw[<-e];simp
  rw[dG]at hd;cases ek:A.cs[pre.length]? with
  | none=>rw[ek]at hd;cases hd
  | some k=>
   rw[ek]at hd;have hd:D.ref k.p=d:=dq hd;subst hd;have hi:pre.length<V.calls.length:=by rw[<-bd.len];exact(de.mp ek).1
   have ec:V.calls[pre.length]?=ga V.calls[pre.length]:=cZ hi;have ed:V.calls.drop pre.length=V.calls[pre.length]::V.calls.drop (pre.length+1):=io hi;have et:V.calls.take (pre.length+1)=V.calls.take pre.length++[V.calls[pre.length]]:=by rw[fX,ec];rfl
   generalize V.calls[pre.length]=c at ec ed et;have hl:((V.calls.take pre.length).map pQ.tick).length=pre.length:=by rw[cX,fg];lia
   have ec2:((V.calls.take pre.length).map pQ.tick++V.calls.drop pre.length)[pre.length]?=ga c:=by rw[eY (by rw[hl];exact dw _),hl,ib,ed];rfl
   rw[c9,dI,et]at Yr;have en:((V.calls.take pre.length).map pQ.tick++V.calls.drop pre.length).set pre.length c.tick=(V.calls.take pre.length++[c]).map pQ.tick++V.calls.drop (pre.length+1):=by rw[kt _ _ (by rw[hl];exact dw _),hl,ib,ed,dP,fm];rfl
   have ci:CI a M' A _ pre.length k c:=⟨b2,ek,ec2⟩;obtain⟨ad,md,h1,h2,h3,h4,n1,n2⟩:=ci.cell;refine pN h1 (i' Z' ?_);have ht:c.tick=if (c.st=="rings")=Db then{c with si:=c.si+1}else c:=rfl;refine qU (c:=c.st=="rings") (λg=>?_) (λg=>?_)
   .rw[dh g]at ht;refine pN h1 ⟨(G.j "since" Z'),i' Z' (i' Z' (pN h1 ⟨Z',by show 8<1000;decide,?_⟩))⟩;obtain⟨g5,s5⟩:=ci.put c.tick (by rw[ht]) (by rw[ht];exact h3) (by rw[ht];exact h4) n1 n2;have b5:=g5.bd;unfold zJ at b5;rw[en]at b5;rw[ht]at b5 s5;exact Yr _ _ ⟨b5,s2.trans s5,_,Z'⟩
   .rw[df g]at ht;rw[ht,G0 ec2]at en;rw[en]at b2;exact Yr _ _ ⟨b2,s2,_,Z'⟩
 .rintro U M' ⟨b2,s2,y,rfl⟩
  rw[cX,bd.len,fh,jO,eN]at b2;exact⟨M',.refl,q M' s2 b2⟩
def rO:Fq P w K mg base 3 a.k (wW a):=by
 refine fq G.k.toDG yj (λr u=>⟨_,(pL (qd (qV (pR v0) (qz Y1)))
 (pL (qc 2 yj (pZ Y1 pO))
 (pM (qh (pX u Y2 pP)
 (pM (qd (qV (pR v0) (qz (uL (Rt G) r G.e G.cm G.aA.toDG (qz (pZ Y1 pO)))))))
 (pM (qh (pX u Y2 pP)
 (pM (qd (qu v0 G.c.toCls G.bD (IQ G) r (qz (tH Y1 (ur pO) uk)))))
 (pM (qh (pX u Y2 pP)
 (pM (Rb u (pR v0) (pZ Y1 pO) (pZ Y1 pO)))
 (pM (qh (pX u Y2 pP)
 (pM (qd (qu v0 G.c.toCls G.bE (OJ G) r (rP (pZ Y1 pO) (pZ Y1 pO) (pZ Y1 pO)))))
 (pM (qh (pX u Y2 pP)
 (pM (qd (ww v0 G.c.toCls G.bF (FG G) r)))
 (pM (qh (pX u Y2 (qe (r6 pP pP)))
 (pM (Tt (qE u Y2 pP) (Tc (pR v0) (pZ Y1 pO))))
 (pM (qh (pX u Y2 pP)
 (pM (qd (pW (KR G) r G.aX (r6 (pZ (pR v0) (pZ Y1 pO)) Y1))))
 qa)))))))))))))))),?_⟩)
 rintro ds M Q ⟨_,A,V,e,rfl,rfl,bd,lim,ev,q⟩
 have hz:=dO;have ll:=lim.lo;have lc:=lim.ca;have lp:=lim.ps;refine pN bd.at_ (i' Z' ⟨by show(oU M A.lo).isSome=Db;rw[bd.lo];rfl,i' bd.lo ⟨by rw[cX];lia,?_⟩⟩);have hb:=bd.oK (es:=V.log++[e]);rw[dP]at hb;obtain⟨b1,s1⟩:pY a (pT M A.lo (.lst (V.log.map Ev.d++[e.d]))) A (rm V e)/\rB A M A (pT M A.lo (.lst (V.log.map Ev.d++[e.d]))):=hb;show vc _ _ _ _ (pT M A.lo (.lst (V.log.map Ev.d++[e.d])));generalize pT M A.lo (.lst (V.log.map Ev.d++[e.d]))=M1 at b1 s1 ⊢;have kat:∀i,i<V.calls.length->∃k c,A.cs[i]?=ga k/\V.calls[i]?=ga c/\c∈V.calls:=λi hi=>by
  have Ze:i<A.cs.length:=by rw[bd.len];exact hi
  exact⟨_,_,cZ Ze,cZ hi,gO hi⟩
 have chg:∀(i:Nat) (k:rZ) (c:pQ) (c':pQ) (f:pQ->pQ),A.cs[i]?=ga k->V.calls[i]?=ga c->f c=c'->qD V e=yx (rm V e) i f->∀(M2:Mp),rB A M1 A M2->pY a M2 A (zJ (rm V e) i c')->∃Yo,qH Yo M2/\Q .mY Yo:=λi k c c' f e1 e2 e3 e4 M2 s2 b2=>⟨M2,.refl,q M2 A Z' (s1.trans s2) (by
  rw[e4];unfold yx;rw[show(rm V e).calls=V.calls from rfl,uq e2,e3];exact b2)⟩
 cases e with
 | new n x=>refine pN b1.at_ (i' Z' ⟨by show(oU M1 A.ca).isSome=Db;rw[b1.ca];rfl,λp hp=>⟨p,x,Z',qg,λM2 wy ad md kp z1 z2 z3 n1 n2 h1 h2 h3 h4=>⟨Z',?_⟩⟩⟩);have sp:=qH.new (c:=.ins a.e []) hp;have s2:qH M1 M2:=λy d hy=>kp y d (Q7 hy hp) (sp y d hy);refine i' (s2.lst b1.ca) ⟨by rw[cX,b1.len];show V.calls.length<Ch;lia,?_⟩;obtain⟨b3,s3⟩:=b1.oC s2 (c:=Ae x) hp (sp.none z1) (sp.none z2) (sp.none z3) h1 h2 h3 h4 n1 n2;exact⟨_,.refl,q _ (A.add ⟨p,wy⟩) Z' (s1.trans s3) b3⟩
 | leg v=>obtain⟨k,c,ek,ec,hc⟩:=kat v.i ev;refine pN b1.at_ ⟨Z',_,⟨Z',Z'⟩,A,rm V (.leg v),k,c,v,Z',⟨b1,ek,ec⟩,lim.le,(lim.cs c hc).1,λM2 s2 b2=>⟨M2,.refl,q M2 A Z' (s1.trans s2) ?_⟩⟩;show pY a M2 A {rm V (.leg v)with nk:=V.nk++[v],calls:=V.calls.modify v.i (·.go v.g)};rw[uq ec];exact b2
 | next z n=>refine pN b1.at_ (i' Z' (i' b1.nx ⟨by show(uj V.ps).length<Ch;unfold uj;rw[cX];lia,?_⟩));rw[Js];obtain⟨b2,s2⟩:=b1.pk (ps:=Dh V.ps z n);exact⟨_,.refl,q _ A Z' (s1.trans s2) b2⟩
 | merge i j ms=>obtain⟨hi,hj,hij,_⟩:=ev;obtain⟨ki,ci,eki,eci,hci⟩:=kat i hi;obtain⟨kj,cj,ekj,ecj,hcj⟩:=kat j hj;refine pN b1.at_ ⟨Z',_,⟨Z',Z'⟩,A,rm V (.merge i j ms),i,j,ki,ci,cj,ms,Z',⟨b1,eki,eci⟩,ecj,hij,lim.le,λM2 A2 eb s2 b2=>⟨M2,.refl,q M2 A2 eb (s1.trans s2) ?_⟩⟩;show pY a M2 A2 {rm V (.merge i j ms)with calls:=(V.calls.modify i (·.over "merged")).modify j (·.mem ms),nk:=V.nk.map (sS.to i j)};rw[uq eci,uq (show(V.calls.set i _)[j]?=ga cj by rw[fE hij];exact ecj)];exact b2
 | asks i z ns=>exact⟨pJ Z',Z',Z',M1,.refl,q M1 A Z' s1 b1⟩
 | turn=>exact pN b1.at_ ⟨Z',_,⟨Z',Z'⟩,A,rm V .turn,Z',b1,λM2 s2 b2=>⟨M2,.refl,q M2 A Z' (s1.trans s2) b2⟩⟩
 | sw b i=>
  have hi:i<V.on.length:=ev;obtain⟨b2,s2⟩:=b1.pq (bs:=V.on.set i b);have es:(V.on.map D.bl).set i (.bl b)=(V.on.set i b).map D.bl:=(mL).symm;have ix:Gc (V.on.map D.bl).length (i:Nat)=ga i:=by rw[cX];unfold Gc;simp[hi]
  have Yn:∃Yo,qH Yo (pT M1 A.on (.lst ((V.on.map D.bl).set i (.bl b))))/\Q .mY Yo:=by rw[es];exact⟨_,.refl,q _ A Z' (s1.trans s2) b2⟩
  cases b with
  | true=>exact⟨pJ Z',Z',Z',pN b1.at_ (i' Z' (i' b1.on (i' ix Yn)))⟩
  | false=>exact⟨pJ Z',Z',Z',pN b1.at_ (i' Z' (i' b1.on (i' ix Yn)))⟩
 | rings i ps=>obtain⟨k,c,ek,ec,hc⟩:=kat i ev.1;exact⟨pJ Z',Z',Z',pN b1.at_ (i' Z' (i' b1.ca (i' (rS ek) ⟨A,rm V _,i,k,c,_,_,Z',⟨b1,ek,ec⟩,(lim.cs c hc).2.1,(lim.cs c hc).2.2,.rings ps,chg i k c _ _ ek ec Z' Z'⟩)))⟩
 | quiet i=>obtain⟨k,c,ek,ec,hc⟩:=kat i ev;exact⟨pJ Z',Z',Z',pN b1.at_ (i' Z' (i' b1.ca (i' (rS ek) ⟨A,rm V _,i,k,c,_,_,Z',⟨b1,ek,ec⟩,(lim.cs c hc).2.1,(lim.cs c hc).2.2,.quiet,chg i k c _ _ ek ec Z' Z'⟩)))⟩
 | waits i x=>obtain⟨k,c,ek,ec,hc⟩:=kat i ev;exact⟨pJ Z',Z',Z',pN b1.at_ (i' Z' (i' b1.ca (i' (rS ek) ⟨A,rm V _,i,k,c,_,_,Z',⟨b1,ek,ec⟩,(lim.cs c hc).2.1,(lim.cs c hc).2.2,.waits x,chg i k c _ _ ek ec Z' Z'⟩)))⟩
 | talks i ms=>obtain⟨k,c,ek,ec,hc⟩:=kat i ev.1;exact⟨pJ Z',Z',Z',pN b1.at_ (i' Z' (i' b1.ca (i' (rS ek) ⟨A,rm V _,i,k,c,_,_,Z',⟨b1,ek,ec⟩,(lim.cs c hc).2.1,(lim.cs c hc).2.2,.talks ms,chg i k c _ _ ek ec Z' Z'⟩)))⟩
 | held i x=>obtain⟨k,c,ek,ec,hc⟩:=kat i ev;exact⟨pJ Z',Z',Z',pN b1.at_ (i' Z' (i' b1.ca (i' (rS ek) ⟨A,rm V _,i,k,c,_,_,Z',⟨b1,ek,ec⟩,(lim.cs c hc).2.1,(lim.cs c hc).2.2,.held x,chg i k c _ _ ek ec Z' Z'⟩)))⟩
 | leaves i x=>obtain⟨k,c,ek,ec,hc⟩:=kat i ev;exact⟨pJ Z',Z',Z',pN b1.at_ (i' Z' (i' b1.ca (i' (rS ek) ⟨A,rm V _,i,k,c,_,_,Z',⟨b1,ek,ec⟩,(lim.cs c hc).2.1,(lim.cs c hc).2.2,.leaves x,chg i k c _ _ ek ec Z' Z'⟩)))⟩
 | over i w0=>obtain⟨k,c,ek,ec,hc⟩:=kat i ev;exact⟨pJ Z',Z',Z',pN b1.at_ (i' Z' (i' b1.ca (i' (rS ek) ⟨A,rm V _,i,k,c,_,_,Z',⟨b1,ek,ec⟩,(lim.cs c hc).2.1,(lim.cs c hc).2.2,.over w0,chg i k c _ _ ek ec Z' Z'⟩)))⟩
noncomputable def Mn:QQQ:=["barred","ring","engaged","left","refused","done","merged"]
def R9(o:Bool)(c:pQ):Prop:=(c.st="rings"/\c.ms=[]/\c.hd=Fa/\c.wd=Fa/\(o=Db->c.at_=[])/\(o=pc->c.at_≠[]))\/(o=pc/\((c.st="waits"/\c.ms=[]/\c.hd=Fa/\c.wd=Fa/\c.at_.length=1)\/(c.st="talks"/\(c.ms.length=2\/c.ms.length=3)/\c.hd=Fa/\c.wd=Fa/\c.at_=[])\/
 (∃x,c.st="held"/\c.ms.length=2/\c.hd=ga x/\x∈c.ms/\c.wd=Fa/\c.at_=[])\/(c.st="over"/\c.ms=[]/\c.hd=Fa/\c.at_=[]/\∃w∈Mn,c.wd=ga w)))
structure wK(l:pV)(o:Bool)(c:pQ):Prop where
 sh:R9 o c
 cr:c.cr∈l.pn
 at_:∀x∈c.at_,x∈l.pn
 ms:∀x∈c.ms,x∈l.pn
 an:c.at_.Nodup
 mn:c.ms.Nodup
 ca:c.cr∉c.at_
 wy:c.way≠[]/\∀z∈c.way,z∈l.nm
def B4(c:pQ)(x:Str):Prop:=c.nC x=Db\/c.ni x=Db
structure AH(l:pV)(V:qG)(o:Option Nat):Prop where
 ok:∀(i:Nat) c,V.calls[i]?=ga c->wK l (o==ga i) c
 un:∀(i j:Nat) ci cj x,V.calls[i]?=ga ci->V.calls[j]?=ga cj->B4 ci x->B4 cj x->i=j
 ln:∀x∈l.pn,(vI V x:Int)<=xt l x
 wt:∀(i j:Nat) ci cj x,V.calls[i]?=ga ci->V.calls[j]?=ga cj->ci.mZ x=Db->cj.mZ x=Db->i=j
 nx:uP l V
abbrev WF(l:pV)(V:qG):Prop:=AH l V Fa
structure Sz(V:qG)(c n:Nat):Prop where
 lo:V.log.length<=n
 le:V.nk.length<=n
 ca:V.calls.length<=c
 ps:V.ps.length<=n
 cs:∀k∈V.calls,k.way.length<=n/\k.at_.length<=100/\k.ms.length<=100
def Sz.mono{V:qG}{c n c' n':Nat}(h:Sz V c n)(hc:c<=c')(hn:n<=n'):Sz V c' n':=⟨eh h.lo hn,eh h.le hn,eh h.ca hc,eh h.ps hn,λk hk=>⟨eh (h.cs k hk).1 hn,(h.cs k hk).2⟩⟩
noncomputable def Ev.nw:Ev->Nat
 | .new _ _=>1
 | _=>0
def Nv(ps:T0 (Str×Int))(z:Str)(n:Int):(Dh ps z n).length<=ps.length+1:=by
 unfold Dh;split
 .rw[cX];lia
 .rw[c9];exact dw _
def JU(ss:QQQ)(x:Str):(so ss x).length<=ss.length:=gk _ _
def F7{α:Type}{f:α->α}{l:List α}{i:Nat}{x:α}(h:x∈l.modify i f):x∈l\/∃y∈l,x=f y:=by
 cases e:l[i]? with
 | none=>rw[kS (by simpa using e)]at h;exact .inl h
 | some c=>
  rw[uq e]at h;rcases List.mem_or_eq_of_mem_set h with g|g
  .exact .inl g
  .exact .inr ⟨c,ft e,g⟩
def Sz.step{V:qG}{c n:Nat}{e:Ev}(h:Sz V c n)(ok:e.ok V):Sz (qD V e) (c+e.nw) (n+1):=by
 have h1:Sz (rm V e) c (n+1):=⟨by show(V.log++[e]).length<=n+1;rw[c9];exact ie h.lo,jB h.le,h.ca,jB h.ps,λk hk=>⟨jB (h.cs k hk).1,(h.cs k hk).2⟩⟩;have md:∀(i:Nat) (f:pQ->pQ),(∀k∈V.calls,(f k).way=k.way/\(f k).at_.length<=100/\(f k).ms.length<=100)->Sz (yx (rm V e) i f) c (n+1):=λi f hf=>⟨h1.lo,h1.le,by show(V.calls.modify i f).length<=c;rw[gm];exact h.ca,h1.ps,λk hk=>by
  rcases F7 hk with g|⟨y,hy,rfl⟩
  .exact h1.cs k g
  .obtain⟨a1,a2,a3⟩:=hf y hy;exact⟨by rw[a1];exact(h1.cs y hy).1,a2,a3⟩⟩
 cases e with
 | new m x=>
  refine⟨h1.lo,h1.le,by show(V.calls++[Ae x]).length<=c+1;rw[c9];exact ie h.ca,h1.ps,λk hk=>?_⟩;rcases dS.mp hk with g|g
  .exact h1.cs k g
  .rw[dB.mp g];exact⟨eO _,eO _,eO _⟩
 | leg v=>
  refine⟨h1.lo,by show(V.nk++[v]).length<=n+1;rw[c9];exact ie h.le,by show(V.calls.modify v.i _).length<=c;rw[gm];exact h.ca,h1.ps,λk hk=>?_⟩;rcases F7 (l:=V.calls) hk with g|⟨y,hy,rfl⟩
  .exact h1.cs k g
  .exact⟨by show(y.way++[v.g]).length<=n+1;rw[c9];exact ie (h.cs y hy).1,(h.cs y hy).2⟩
 | asks i z ns=>exact h1
 | next z m=>exact⟨h1.lo,h1.le,h1.ca,eh (Nv _ _ _) (ie h.ps),h1.cs⟩
 | merge i j ms=>
  have m1:=md i (·.over "merged") λk hk=>⟨Z',eO _,eO _⟩;refine⟨h1.lo,by show(V.nk.map _).length<=n+1;rw[cX];exact h1.le,by show((V.calls.modify i _).modify j _).length<=c;rw[gm,gm];exact h.ca,h1.ps,λk hk=>?_⟩;rcases F7 (l:=V.calls.modify i (·.over "merged")) hk with g|⟨y,hy,rfl⟩
  .exact m1.cs k g
  .exact⟨(m1.cs y hy).1,(m1.cs y hy).2.1,ok.2.2.2⟩
 | turn=>
  refine⟨h1.lo,h1.le,by show(V.calls.map pQ.tick).length<=c;rw[cX];exact h.ca,h1.ps,λk hk=>?_⟩;obtain⟨y,hy,rfl⟩:=dF.mp hk;have e:y.tick.way=y.way/\y.tick.at_=y.at_/\y.tick.ms=y.ms:=by unfold pQ.tick;split<;>exact⟨Z',Z',Z'⟩
  rw[e.1,e.2.1,e.2.2];exact h1.cs y hy
 | sw b i=>exact⟨h1.lo,h1.le,h1.ca,h1.ps,h1.cs⟩
 | rings i ps=>exact md i _ λk hk=>⟨Z',ok.2,(h.cs k hk).2.2⟩
 | quiet i=>exact md i _ λk hk=>⟨Z',eO _,(h.cs k hk).2.2⟩
 | waits i x=>exact md i _ λk hk=>⟨Z',by show 1<=100;decide,(h.cs k hk).2.2⟩
 | talks i ms=>exact md i _ λk hk=>⟨Z',eO _,ok.2⟩
 | held i x=>exact md i _ λk hk=>⟨Z',(h.cs k hk).2.1,(h.cs k hk).2.2⟩
 | leaves i x=>exact md i _ λk hk=>⟨Z',eh (JU _ _) (h.cs k hk).2.1,eh (JU _ _) (h.cs k hk).2.2⟩
 | over i w=>exact md i _ λk hk=>⟨Z',eO _,eO _⟩
def Uc(V:qG)(e:Ev):(qD V e).p=V.p/\(qD V e).h=V.h/\(qD V e).on.length=V.on.length:=by cases e<;>first|exact⟨Z',Z',Z'⟩|exact⟨Z',Z',im⟩
structure uB(a:Ad)(M0 M:Mp)(b:Uf)(A:tG)(V:qG)(l:pV)(c n:Nat):Prop where
 bd:pY a M A V
 oz:rT a M0 V.p l
 s0:qH M0 M
 fr:∀x∈A.foot,M0 x=Fa
 b:A.b=b
 sz:Sz V c n
 ok:rb l
 on:V.on.length=l.mT.length
variable {M0:Mp}{b:Uf}{A':tG}{V':qG}{l:pV}{n:Nat}
section
variable {c:Nat}
def uB.at_(h:uB a M0 M b A V l c n):M b=ga (.ins a.c (uz (.ref V.p) V.h V.t A.ca A.le A.nx A.on A.lo)):=h.b ▸ h.bd.at_
def uB.sub(h:uB a M0 M b A V l c n)(s:qH M M'):uB a M0 M' b A V l c n:=⟨h.bd.sub s,h.oz,h.s0.trans s,h.fr,h.b,h.sz,h.ok,h.on⟩
def uB.pl(h:uB a M0 M b A V l c n):rT a M V.p l:=h.oz.sub h.s0
def uB.mono(h:uB a M0 M b A V l c n){c' n':Nat}(hc:c<=c')(hn:n<=n'):uB a M0 M b A V l c' n':=⟨h.bd,h.oz,h.s0,h.fr,h.b,h.sz.mono hc hn,h.ok,h.on⟩
def uB.lim(h:uB a M0 M b A V l c n)(hc:c<=1000000)(hn:n<9000000):XU V:=⟨iJ h.sz.lo (by lia),iJ h.sz.le (by lia),eh h.sz.ca hc,iJ h.sz.ps (by lia),λk hk=>⟨iJ (h.sz.cs k hk).1 (by lia),(h.sz.cs k hk).2⟩⟩
def uB.rd(h:uB a M0 M b A V l c n)(hc:c<=1000000){o:Option Nat}(wf:AH l V o):Rd a M A V l:=⟨h.bd,eh h.sz.ca hc,h.pl,h.ok,h.on,λk hk=>by
 obtain⟨i,hi,e⟩:=gQ hk;exact⟨(wf.ok i k (by rw[cZ hi,e])).ms,(h.sz.cs k hk).2.2⟩⟩
def uB.call(h:uB a M0 M b A V l c n){i:Nat}{v:pQ}(e:V.calls[i]?=ga v):∃k,CI a M A V i k v:=by
 have hi:i<A.cs.length:=by rw[h.bd.len];exact(de.mp e).1
 exact⟨A.cs[i],h.bd,cZ hi,e⟩
def uB.after(h:uB a M0 M b A V l c n){e:Ev}(ok:e.ok V)(eb:A'.b=A.b)(st:rB A M A' M')(bd:pY a M' A' (qD V e)):uB a M0 M' b A' (qD V e) l (c+e.nw) (n+1):=by
 obtain⟨p1,p2,p3⟩:=Uc V e;refine⟨bd,p1 ▸ h.oz,λx d hx=>st.1 x d (λz=>?_) (h.s0 x d hx),λx hx=>?_,eb.trans h.b,h.sz.step ok,h.ok,p3.trans h.on⟩
 .rw[h.fr x z]at hx;cases hx
 .rcases st.2.1 x hx with z|z
  .exact h.fr x z
  .exact h.s0.none z
end
def G2(l:pV)(V:qG)(c:Str):wO->Prop
 | .rings z ps=>z∈l.nm/\ps≠[]/\ps=yy l V c z
 | .breaks z=>∃x,x=c/\IE l V x c z=Db
 | .waits z=>z∈l.pn/\z≠c/\Bo V z=pc
 | .ring ns=>ns≠[]
 | _=>True
def Hs{V:qG}{c z:Str}:(∀x∈yy l V c z,x∈uS l V c z/\x∈l.mS z)/\(yy l V c z).length<=(l.mS z).length:=by
 have hr:∀x∈uS l V c z,x∈l.mS z:=λx hx=>(fL.mp hx).1;unfold yy;split
 .refine⟨λx hx=>?_,?_⟩
  .have hx:=(fL.mp (ig hx)).2;have hx:=rG.mp hx;exact⟨hx,hr x hx⟩
  .cases e:(vG (l.mS z) (AE V z)).filter λx=>hasS (uS l V c z) x with
   | nil=>exact eO _
   | cons y r=>
    have hy:y∈vG (l.mS z) (AE V z):=(fL.mp (by rw[e];exact dH)).1;have hy:y∈l.mS z:=by
     unfold vG at hy;rcases dS.mp hy with q|q
     .exact kD q
     .exact ig q
    rw[fg];have:=List.length_pos_of_mem hy;lia
 .exact⟨λx hx=>⟨hx,hr x hx⟩,gk _ _⟩
def Pq{l:pV}{V:qG}{c z:Str}(hz:z∈l.nm):G2 l V c (IA l V c z):=by
 unfold IA;split
 .trivial
 .rename_i x r e;exact⟨hz,fA _ _,e.symm⟩
structure yE(l:pV)(V:qG)(c:Str)(n:Nat)(st:tV)(r:wO×tV):Prop where
 e:G2 l V c r.1
 len:r.2.length<=st.length+n
 nm:∀s∈r.2,s∈st\/s.1∈l.nm
 wy:∀ns,r.1=.ring ns->∀z∈ns,z∈l.nm
theorem Ax{V:qG}{c:Str}(ok:rb l):∀(n:Nat) (z:Str) (way:QQQ) (st:tV),z∈l.nm->(∀x∈way,x∈l.nm)->yE l V c n st (vD l V c n z way st)
 | 0,z,way,st,_,_=>⟨trivial,dw _,λs hs=>.inl hs,λns h=>by cases h⟩
 | n+1,z,way,st,hz,hw=>by
  unfold vD;by_cases h:hasS way z=Db
  .rw[dh h];refine⟨?_,by show st.length<=_;lia,λs hs=>.inl hs,λns e y hy=>?_⟩
   .have h1:way.findIdx (·==z)<way.length:=List.findIdx_lt_length_of_exists ⟨z,rG.mp h,fH z⟩;show way.drop _≠[];intro g;have:=eR List.length g;rw[gz]at this;simp only[dN]at this;lia
   .cases e;exact hw y (kD hy)
  rw[df h];have sn:∀(fs:T0 Nat),∀s∈st++[(z,fs)],s∈st\/s.1∈l.nm:=λfs s hs=>by
   rcases dS.mp hs with g|g
   .exact .inl g
   .rw[dB.mp g];exact .inr hz
  have sl:∀fs:T0 Nat,(st++[(z,fs)]).length=st.length+1:=λfs=>by rw[c9];rfl
  cases hf:Ak l V c z with
  | nil=>refine⟨Pq hz,by show(st++[(z,[])]).length<=_;rw[sl];lia,sn [],λns e=>?_⟩;have e:IA l V c z=.ring ns:=e;unfold IA at e;split at e<;>cases e
  | cons i r=>
   obtain⟨w,ew,YT⟩:=FD (l:=l) (V:=V) (f:=zM l V c z) (i:=i) (by show i∈Ak l V c z;rw[hf];exact dH);dsimp only;rw[ew];dsimp only[Option.elim];have stop:∀e:wO,G2 l V c e->(∀ns,e≠.ring ns)->yE l V c (n+1) st (e,st++[(z,i::r)]):=λe he YI=>⟨he,by show(st++[(z,i::r)]).length<=_;rw[sl];lia,sn _,λns g=>absurd g (YI ns)⟩
   have goes:∀y,Kp z w.2=.inr y->yE l V c (n+1) st (vD l V c n y (way++[z]) (st++[(z,i::r)])):=λy hy=>by
    have hr:=Ax (V:=V) (c:=c) ok n y (way++[z]) (st++[(z,i::r)]) (CH ok (rj ew) hy) λx hx=>by
     rcases dS.mp hx with g|g
     .exact hw x g
     .rw[dB.mp g];exact hz
    refine⟨hr.e,by have:=hr.len;rw[sl]at this;lia,λs hs=>?_,hr.wy⟩;rcases hr.nm s hs with g|g
    .exact sn _ s g
    .exact .inr g
   cases hv:w.2 with
   | bar x ns=>exact stop _ trivial λns g=>by cases g
   | shut x ns=>exact stop _ trivial λns g=>by cases g
   | wait x=>
    rw[hv]at YT;have hf2:(if (!(z==x)||(c==x))=Db then pc else ym l V c z&&!(Bo V z))=Db:=YT;have hx:yt l.pn x:=by have:=ok.wo w (rj ew);rw[hv]at this;exact this
    by_cases g:(!(z==x)||(c==x))=Db
    .rw[dh g]at hf2;cases hf2
    rw[df g]at hf2;simp only[gU,gJ,gN,jC,dY]at g hf2;have ezx:=dL g.1;subst ezx;exact stop _ ⟨rG.mp hx,λy=>g.2 (by rw[y];exact fH _),hf2.2⟩ λns g=>by cases g
   | breaks x=>
    rw[hv]at YT;refine stop _ ⟨x,?_,?_⟩ λns g=>by cases g
    .have YT:IE l V x c z=Db:=YT;unfold IE at YT;by_cases g:(!(c==x)||(z==x))=Db
     .rw[dh g]at YT;cases YT
     .simp only[gU,gJ,gN,jC]at g;exact(dL g.1).symm
    .exact YT
   | always x y=>exact goes y (by rw[hv];rfl)
   | night x y f m=>exact goes y (by rw[hv];rfl)
   | busy x y=>exact goes y (by rw[hv];rfl)
   | silent x y m=>exact goes y (by rw[hv];rfl)
def Hw{V:qG}{x c z:Str}(h:IE l V x c z=Db):∃j k,wA V z=ga j/\V.calls[j]?=ga k/\k.st="talks"/\z∈k.ms/\k.ms.length=2/\z≠c:=by
 unfold IE at h;by_cases g:(!(c==x)||(z==x))=Db
 .rw[dh g]at h;cases h
 rw[df g]at h;simp only[gU,gJ,gN,jC]at g;by_cases g2:(!(hasS l.pn z)||!(ym l V c z))=Db
 .rw[dh g2]at h;cases h
 rw[df g2]at h;cases e:wA V z with
 | none=>rw[e]at h;cases h
 | some j=>obtain⟨hj,ht,_⟩:=iU.mp e;rw[e]at h;have h:((V.calls[j]?).elim pc λk=>(k.ms.length==2)&&Jv l x k.ms)=Db:=h;rw[cZ hj]at h;have h:((V.calls[j].ms.length==2)&&Jv l x V.calls[j].ms)=Db:=h;unfold pQ.nj at ht;rw[dY]at h ht;refine⟨j,V.calls[j],Z',cZ hj,dL ht.1,rG.mp ht.2,dL h.1,λy=>?_⟩;rw[y]at g;have:=dL g.1;rw[this,fH]at g;exact absurd Z' g.2
noncomputable def pQ.bare(c:pQ):pQ:={c with way:=[]}
def ux(V V':qG):Prop:=V'.calls.map pQ.bare=V.calls.map pQ.bare
def ux.at_{V V':qG}(h:ux V V'){i:Nat}{c:pQ}(e:V.calls[i]?=ga c):∃c',V'.calls[i]?=ga c'/\c'.bare=c.bare:=by
 have:=eR (·[i]?) h;simp only[dG,e]at this;cases e':V'.calls[i]? with
 | none=>rw[e']at this;cases this
 | some c'=>rw[e']at this;exact⟨c',Z',dq this⟩
def Av(f:pQ->Bool)(hf:∀c,f c.bare=f c)(cs:List pQ):(cs.map pQ.bare).findIdx? f=cs.findIdx? f:=by rw[hU];congr 1;funext c;exact hf c
def ux.nP{V V':qG}(h:ux V V')(z:Str):wA V' z=wA V z:=by unfold wA;rw[<-Av _ (λ_=>rfl) V'.calls,h,Av _ (λ_=>rfl)]
def ux.ends{V V':qG}(h:ux V V')(i:Nat)(e:wO):tO l V' i e=tO l V i e:=by
 cases e with
 | breaks z=>
  unfold tO;dsimp only;rw[h.nP];have key:∀j:Nat,(V'.calls[j]?).map pQ.bare=(V.calls[j]?).map pQ.bare:=λj=>by
   have:=eR (·[j]?) h
   simpa only [dG]using this
  have ki:=key i;cases wA V z with
  | none=>rfl
  | some j=>
   have kj:=key j;cases e1:V.calls[i]? with
   | none=>rw[e1]at ki;rw[show V'.calls[i]?=Fa by cases q:V'.calls[i]? with|none=>rfl|some _=>rw[q]at ki;cases ki]
   | some c=>
    rw[e1]at ki;cases e2:V'.calls[i]? with
    | none=>rw[e2]at ki;cases ki
    | some c'=>
     rw[e2]at ki;have k1:c'.cr=c.cr:=by have kb:c'.bare=c.bare:=dq ki;exact show c'.bare.cr=c.bare.cr by rw[kb]
     have k2:(V'.calls[j]?).elim [] pQ.ms=(V.calls[j]?).elim [] pQ.ms:=by
      cases e3:V.calls[j]? with
      | none=>rw[e3]at kj;rw[show V'.calls[j]?=Fa by cases q:V'.calls[j]? with|none=>rfl|some _=>rw[q]at kj;cases kj]
      | some d=>
       rw[e3]at kj;cases e4:V'.calls[j]? with
       | none=>rw[e4]at kj;cases kj
       | some d'=>rw[e4]at kj;exact show d'.bare.ms=d.bare.ms by rw[show d'.bare=d.bare from dq kj]
     dsimp only;rw[k1,k2]
 | _=>rfl
def ux.trans{V V1 V2:qG}(h:ux V V1)(g:ux V1 V2):ux V V2:=Eq.trans g h
def AB(V:qG)(v:sS):ux V (qD V (.leg v)):=by
 show(V.calls.modify v.i (·.go v.g)).map pQ.bare=V.calls.map pQ.bare;cases e:V.calls[v.i]? with
 | none=>rw[kS (by simpa using e)]
 | some c=>rw[uq e,mL,show(c.go v.g).bare=c.bare from rfl,G0 (by rw[dG,e];rfl)]
def ED(V:qG)(i:Nat)(z:Str)(ns:T0 Nat):ux V (qD V (.asks i z ns)):=rfl
def ux.len{V V':qG}(h:ux V V'):V'.calls.length=V.calls.length:=by
 have:=eR List.length h
 rwa [cX,cX]at this
noncomputable def Hd:Option Str->tV->Option Str
 | o,[]=>o
 | _,(z,_)::r=>Hd (ga z) r
noncomputable def VY(i:Nat)(z:Str)(fs:T0 Nat):Option Str->T0 Ev
 | none=>[.asks i z fs]
 | some y=>[.leg ⟨i,y,z,y⟩,.asks i z fs]
theorem zq(i:Nat)(z:Str)(fs:T0 Nat):∀(st:tV) (o:Option Str),sv i o (st++[(z,fs)])=sv i o st++VY i z fs (Hd o st)
 | [],none=>rfl
 | [],ga _=>rfl
 | (y,gs)::r,none=>by show .asks i y gs::sv i (ga y) (r++[(z,fs)])=_;rw[zq i z fs r];rfl
 | (y,gs)::r,ga u=>by show .leg ⟨i,u,y,u⟩::.asks i y gs::sv i (ga y) (r++[(z,fs)])=_;rw[zq i z fs r];rfl
theorem CK(z:Str)(fs:T0 Nat):∀(st:tV) (o:Option Str),Hd o (st++[(z,fs)])=ga z
 | [],_=>rfl
 | _::r,_=>CK z fs r _
theorem wb(i:Nat):∀(st:tV) (o:Option Str) (V:qG),ux V (qY V (sv i o st))
 | [],_,V=>rfl
 | (y,gs)::r,Fa,V=>(ED V i y gs).trans (wb i r (ga y) _)
 | (y,gs)::r,ga u,V=>((AB V ⟨i,u,y,u⟩).trans (ED _ i y gs)).trans (wb i r (ga y) _)
def Qa(a:Ad):rQ:=λds M Q=>NL λM0 b A V l c n i st r=>ds=[.ref b,.int ((i:Nat):Int),.ref r]/\uB a M0 M b A V l c n/\c<=1000000/\n<=8000000/\st.length<=100/\i<V.calls.length/\oU M r=ga (rV st)/\r∉A.foot/\∀M' A',uB a M0 M' b A' (qY V (sv i Fa st)) l c (n+2*st.length)->rB A M A' M'->Q .mY M'
def MP(a:Ad):rQ:=λds M Q=>NL λM0 b A V l c n i z ps=>ds=[.ref b,.int ((i:Nat):Int),.str z,names ps]/\uB a M0 M b A V l c n/\c<=1000000/\n<=8000000/\i<V.calls.length/\z∈l.nm/\ps≠[]/\(∀x∈ps,x∈l.mS z)/\ps.length<=100/\∀M' A',uB a M0 M' b A' (qY V (tO l V i (.rings z ps))) l c (n+2)->rB A M A' M'->Q .mY M'
def Ho(l:pV)(V:qG)(i:Nat):wO->Prop
 | .rings z ps=>z∈l.nm/\ps≠[]/\(∀x∈ps,x∈l.mS z)/\ps.length<=100
 | .breaks z=>∃j k,wA V z=ga j/\V.calls[j]?=ga k/\i≠j/\k.ms.length=2
 | _=>True
def NX(a:Ad):rQ:=λds M Q=>UW λM0 b A V l c n i z=>ds=[.ref b,.int ((i:Nat):Int),.str z]/\uB a M0 M b A V l c n/\c<=1000000/\n<=8000000/\i<V.calls.length/\Ho l V i (.breaks z)/\∀M' A',uB a M0 M' b A' (qY V (tO l V i (.breaks z))) l c (n+2)->rB A M A' M'->Q .mY M'
def JV(a:Ad):rQ:=λds M Q=>UW λM0 b A V l c n i e=>ds=[.ref b,.int ((i:Nat):Int),wO.d e]/\uB a M0 M b A V l c n/\c<=1000000/\n<=8000000/\i<V.calls.length/\Ho l V i e/\∀M' A',uB a M0 M' b A' (qY V (tO l V i e)) l c (n+2)->rB A M A' M'->Q .mY M'
def Qt(a:Ad):rQ:=λds M Q=>UW λM0 b A V l c n i k=>ds=[.ref b,.int ((i:Nat):Int)]/\uB a M0 M b A V l c n/\c<=1000000/\n<=7000000/\AH l V (ga i)/\V.calls[i]?=ga k/\∀M' A',uB a M0 M' b A' (qY V (vZ l V i)) l c (n+30)->rB A M A' M'->Q .mY M'
def MU(a:Ad):rQ:=λds M Q=>UW λM0 b A V l c n y z=>ds=[.ref b,.str y,.str z]/\uB a M0 M b A V l c n/\c<1000000/\n<=6000000/\AH l (qY V [.new V.calls.length y,.leg ⟨V.calls.length,y,z,y⟩]) (ga V.calls.length)/\∀M' A',uB a M0 M' b A' (qY V (yH l V y z)) l (c+1) (n+32)->rB A M A' M'->Q .mY M'
def N8{st:tV}{pre post:T0 D}{d:D}(e:pre++d::post=rV st):∃z fs,st[pre.length]?=ga (z,fs)/\d=.tup [.str z,yr fs]/\st.take (pre.length+1)=st.take pre.length++[(z,fs)]:=by
 have h:(rV st)[pre.length]?=ga d:=by rw[<-e];simp
 unfold rV at h;rw[dG]at h;cases q:st[pre.length]? with
 | none=>rw[q]at h;cases h
 | some s=>rw[q]at h;refine⟨s.1,s.2,Z',(dq h).symm,?_⟩;rw[fX,q];rfl
noncomputable def XI:Option Str->D
 | none=>.mY
 | some x=>.str x
def Q8{ss:QQQ}{x:Str}(h:ss.getLast?=ga x):wY (ss.map D.str) (-1)=ga (.str x):=by
 have hp:0<ss.length:=by cases ss with|nil=>cases h|cons _ _=>exact mM _
 unfold wY;have e:Gc (ss.map D.str).length (-1)=ga (ss.length - 1):=by
  rw[cX];unfold Gc;have:¬((-1:Int)>=0):=by decide
  simp;lia
 rw[e];show(ss.map D.str)[ss.length - 1]?=_;rw[dG,<-jG,h];rfl
def Mg(ds:T0 D):L3.vB ds Fa (ga (-1:Int))=ds.dropLast:=by
 unfold L3.vB;have e:HT.ua ds.length ds.length (ga (-1:Int))=ds.length - 1:=by show(if (-1:Int)<0 then((-1:Int)+(ds.length:Int)).toNat else min (-1:Int).toNat ds.length)=ds.length - 1;rw[dh (by decide)];lia
 rw[e,HT.Ck,kq,lh,List.dropLast_eq_take]
def PU:Fq P w K mg base 4 a.a8 (Qa a):=by
 refine fq G.a8.toDG uC (λr u=>⟨_,(pL (qc 3 uC sD)
 (pM (vg fi Z' (ra Y2) (uV (n:=2) Z' (qK (sL 4 uC) (qK (sL 5 uC) tZ)))
 (pL (qh (pX u Y3 sD)
 (pM (qd (qu v0 G.c.toCls G.k (rO G) r (qz (qe (qw pP (qw Y1 (rP Y3 v4 Y3))))))))
 qa)
 (pL (qd (qu v0 G.c.toCls G.k (rO G) r (qz (qe (qw pP (rP Y1 v4 v5))))))
 (pM (qc 3 uC v4))))))),?_⟩)
 rintro ds M Q ⟨M0,b,A,V,l,c,n,i,st,r,rfl,cu,hc,hn,YG,hi,lr,nf,q⟩
 refine i' lr (wX (rV st) (λpre U M'=>(∃A',uB a M0 M' b A' (qY V (sv i Fa (st.take pre.length))) l c (n+2*pre.length)/\rB A M A' M')/\∃y4 y5,U=[ga (.ref b),ga (.int ((i:Nat):Int)),ga (.ref r),ga (XI (Hd Fa (st.take pre.length))),y4,y5]) (λpre U M' j=>?_) _ [] _ _ Z' ⟨⟨A,cu,.refl⟩,Fa,Fa,Z'⟩ ?_ ?_)
 .obtain⟨⟨A',c1,YX⟩,_⟩:=j;exact sd (YX.1 r _ nf (qm lr))
 .rintro pre d post e U M' ⟨⟨A',c1,YX⟩,y4,y5,rfl⟩ nx Yr
  obtain⟨z,fs,es,rfl,et⟩:=N8 e;have hp:pre.length<100:=dU (de.mp es).1 YG;rw[c9,dI,et,zq,CK]at Yr;have len:∀es,ux V (qY V es)->i<(qY V es).calls.length:=λes h=>by rw[h.len];exact hi
  have ZZ:=len _ (wb i (st.take pre.length) Fa V);generalize hV:qY V (sv i Fa (st.take pre.length))=V1 at c1 ZZ;rw[su,hV]at Yr;refine⟨Z',?_⟩;dsimp only[rH,yg,Cj];have asks:∀(M2:Mp) (A2:tG) (V2:qG) (m:Nat) (y3:Option D),m<9000000->uB a M0 M2 b A2 V2 l c m->rB A M A2 M2->(∀M3 A3,uB a M0 M3 b A3 (qD V2 (.asks i z fs)) l c (m+1)->rB A M A3 M3->nx [ga (.ref b),ga (.int ((i:Nat):Int)),ga (.ref r),ga (.str z),ga (.str z),ga (yr fs)] M3)->AR (M2 b) λC fs'=>fs'.lookup ("apply":Str)=Fa/\∃sp,(C=a.c/\sp=wW a)/\4<=Ch/\sp [.ref b,.tup [.str "asks",.int ((i:Nat):Int),.str z,yr fs]] M2 λ_ M3=>nx [ga (.ref b),ga (.int ((i:Nat):Int)),ga (.ref r),ga (.str z),ga (.str z),ga (yr fs)] M3:=λM2 A2 V2 m y3 hm c2 s2 k=>pN c2.at_ ⟨Z',_,⟨Z',Z'⟩,by rw[dO];decide,b,A2,V2,.asks i z fs,Z',c2.b,c2.bd,c2.lim hc hm,trivial,λM3 A3 eb s3 bd=>k M3 A3 (c2.after trivial eb s3 bd) (s2.trans s3)⟩;cases hl:Hd Fa (st.take pre.length)with
  | none=>rw[hl]at Yr;refine asks M' A' V1 _ Fa (by lia) c1 YX λM3 A3 c3 s3=>Yr _ _ ⟨⟨A3,c3.mono (dw _) (by lia),s3⟩,_,_,Z'⟩
  | some y=>rw[hl]at Yr;refine pN c1.at_ ⟨Z',_,⟨Z',Z'⟩,pJ Z',b,A',V1,.leg ⟨i,y,z,y⟩,Z',c1.b,c1.bd,c1.lim hc (by lia),ZZ,λM2 A2 eb s2 bd=>?_⟩;have c2:=c1.after (e:=.leg ⟨i,y,z,y⟩) ZZ eb s2 bd;refine asks M2 A2 _ _ Fa (by lia) c2 (YX.trans s2) λM3 A3 c3 s3=>Yr _ _ ⟨⟨A3,c3.mono (dw _) (by lia),s3⟩,_,_,Z'⟩
 .rintro U M' ⟨⟨A',c1,YX⟩,_⟩
  have hl:(rV st).length=st.length:=by unfold rV;rw[cX]
  rw[hl,fh]at c1;exact⟨M',.refl,q M' A' c1 YX⟩
def NS:Fq P w K mg base 4 a.a9 (MP a):=by
 refine fq G.a9.toDG vh (λr u=>⟨_,(pL (qh (pX u (qu (pR v0) G.h.toCls G.aR (yu G) r (qz Y2)) pP)
 (pL (qc 4 vh (qu (pR v0) G.h.toCls G.ac (va G) r (qz Y2)))
 (pL (qc 5 vh (qp (qp (yp v4 (qz (pZ Y3 pO))) pO) (ql qR Z' G.g qO (qz v4))))
 (pM (qd (qu v0 G.c.toCls G.k (rO G) r (qz (qe (rP pP Y2 v5))))))))
 qa)
 (pM (qd (qu v0 G.c.toCls G.k (rO G) r (qz (qe (rP pP Y1 Y3))))))),?_⟩)
 rintro ds M Q ⟨M0,b,A,V,l,c,n,i,z,ps,rfl,cu,hc,hn,hi,hz,YI,hm,hps,q⟩
 obtain⟨ph,gr,ws,Zz,pr,gd,rs,i1,_⟩:=cu.pl;have pl:=cu.pl;obtain⟨x,ps',rfl⟩:=gj YI;obtain⟨⟨pne,_⟩,_⟩:=cu.ok.of hz;refine UL (t:=QA _ _ _) (λU M'=>(∃A',uB a M0 M' b A' (qY V (if (l.m8 z=="turns")=Db then[.next z (RU (l.mS z) x)]else[])) l c (n+1)/\rB A M A' M')/\∃y1 y2,U=[ga (.ref b),ga (.int ((i:Nat):Int)),ga (.str z),ga (names (x::ps')),y1,y2]) (λnx h=>?_) ?_
 .refine pN cu.at_ (i' Z' (pN i1 ⟨Z',_,⟨Z',Z'⟩,V.p,z,l,Z',pl,?_⟩));refine qU (c:=l.m8 z=="turns") (λg=>?_) (λg=>?_)
  .rw[dh g]at h;refine pN cu.at_ (i' Z' (pN i1 ⟨Z',_,⟨Z',Z'⟩,V.p,z,l,Z',pl,λp hp=>?_⟩));have t:=qH.new (c:=.lst ((l.mS z).map D.str)) hp;have lp:=@pS M p ((l.mS z).map D.str);have cu':=cu.sub t;have st0:rB A M A (pT M p (.lst ((l.mS z).map D.str))):=.sub t;generalize pT M p (.lst ((l.mS z).map D.str))=M1 at t lp cu' st0 ⊢;have ej:=Fk x (l.mS z) (hm x dH);have lpos:0<(l.mS z).length:=fB.mpr pne;have el:(((l.mS z).map D.str).length:Int)=(l.mS z).length:=by rw[cX]
   refine⟨by show(oU M1 p).isSome=Db;rw[lp];rfl,i' (zZ _ _) (i' lp ⟨Z',qP _,i' ej (i' lp ⟨by rw[el];lia,?_⟩)⟩)⟩;rw[el];refine pN cu'.at_ ⟨Z',_,⟨Z',Z'⟩,pJ Z',b,A,V,.next z (RU (l.mS z) x),Z',cu'.b,cu'.bd,cu'.lim hc (by lia),trivial,λM2 A2 eb st ZA=>?_⟩;exact h _ _ ⟨⟨A2,cu'.after (e:=.next z (RU (l.mS z) x)) trivial eb st ZA,st0.trans st⟩,_,_,Z'⟩
  .rw[df g]at h;exact h _ _ ⟨⟨A,cu.mono (dw _) (by lia),.refl⟩,_,_,Z'⟩
 rintro U M1 ⟨⟨A1,c1,YX⟩,y1,y2,rfl⟩
 have q:∀M' A',uB a M0 M' b A' (qY V ((if (l.m8 z=="turns")=Db then[.next z (RU (l.mS z) x)]else[])++[.rings i (x::ps')])) l c (n+2)->rB A M A' M'->Q .mY M':=q;rw[su]at q;have ZZ:i<(qY V (if (l.m8 z=="turns")=Db then[.next z (RU (l.mS z) x)]else[])).calls.length:=by
  split
  .exact hi
  .exact hi
 generalize qY V (if (l.m8 z=="turns")=Db then[.next z (RU (l.mS z) x)]else[])=V1 at c1 q ZZ;refine pN c1.at_ ⟨Z',_,⟨Z',Z'⟩,pJ Z',b,A1,V1,.rings i (x::ps'),Z',c1.b,c1.bd,c1.lim hc (by lia),⟨ZZ,hps⟩,λM2 A2 eb YH ZA=>?_⟩;exact⟨M2,.refl,q M2 A2 (c1.after (e:=.rings i (x::ps')) ⟨ZZ,hps⟩ eb YH ZA) (YX.trans YH)⟩
def NG:Fq P w K mg base 4 a.ba (NX a):=by
 refine fq G.ba.toDG yh (λr u=>⟨_,(pL (qc 3 yh (qu v0 G.c.toCls G.Y (zv G) r (qz Y2)))
 (pL (qc 4 yh (qp (qr sY Z' G.z tq (qz (pR (pZ (pR v0) Y3)))) (qe (qz (pR (pZ (pR v0) Y1))))))
 (pM (qd (qu v0 G.c.toCls G.k (rO G) r (qz (qe (qw pP (rP Y1 Y3 v4))))))))),?_⟩)
 rintro ds M Q ⟨M0,b,A,V,l,c,n,i,z,rfl,cu,hc,hn,hi,⟨j,k,ej,ek,Zj,Z1⟩,q⟩
 have hz:=dO;have ei:V.calls[i]?=ga V.calls[i]:=cZ hi;generalize V.calls[i]=ci at ei;obtain⟨ka,qi⟩:=cu.call ei;obtain⟨kb,qj⟩:=cu.call ek;obtain⟨ad,md,h1,h2,h3,h4,_⟩:=qi.cell;obtain⟨ad',md',g1,g2,g3,g4,_⟩:=qj.cell;have hee:tO l V i (.breaks z)=[.merge i j (k.ms++[ci.cr])]:=by unfold tO;dsimp only;rw[ej,ei];dsimp only;rw[ek];rfl
 rw[hee]at q;have ok:(Ev.merge i j (k.ms++[ci.cr])).ok V:=⟨hi,(de.mp ek).1,Zj,by rw[c9,Z1];show 3<=100;decide⟩;refine pN cu.at_ ⟨Z',_,⟨Z',Z'⟩,A,V,z,by rw[cu.b],cu.bd,eh cu.sz.ca hc,?_⟩;rw[show Bl V z=.int (j:Nat)from by unfold Bl;rw[ej];rfl];refine pN cu.at_ (i' Z' (i' Z' (i' cu.bd.ca (i' (rS qj.e1) (pN g1 (i' Z' (i' g4 ?_)))))));refine pN cu.at_ (i' Z' (i' Z' (i' cu.bd.ca (i' (rS qi.e1) (pN h1 (i' Z' ⟨pJ Z',?_⟩))))));refine⟨(by intro y;rw[List.map_eq_nil_iff]at y;rw[y]at Z1;cases Z1),(by rw[cX,Z1];show 2+1<=Ch;lia),?_⟩;rw[show k.ms.map D.str++[D.str ci.cr]=(k.ms++[ci.cr]).map D.str by rw[dP];rfl];refine pN cu.at_ ⟨Z',_,⟨Z',Z'⟩,pJ Z',b,A,V,.merge i j (k.ms++[ci.cr]),Z',cu.b,cu.bd,cu.lim hc (by lia),ok,λM2 A2 eb YH ZA=>?_⟩;exact⟨M2,.refl,q M2 A2 ((cu.after ok eb YH ZA).mono (dw _) (by lia)) YH⟩
def Ro:Fq P w K mg base 5 a.bb (JV a):=by
 refine fq G.bb.toDG yf (λr u=>⟨_,(pL (qc 3 yf (pZ Y2 pO))
 (pM (qh (pX u Y3 pP)
 (pM (qd (pW (NS G) r G.a9 (qw v0 (rP Y1 (pZ Y2 pO) (pZ Y2 pO))))))
 (pM (qh (pX u Y3 pP)
 (pM (qd (qu v0 G.c.toCls G.k (rO G) r (qz (qe (rP pP Y1 (pZ Y2 pO)))))))
 (pM (qh (pX u Y3 pP)
 (pM (qd (pW (NG G) r G.ba (rP v0 Y1 (pZ Y2 pO)))))
 (pM (qd (qu v0 G.c.toCls G.k (rO G) r (qz (qe (rP pP Y1 Y3))))))))))))),?_⟩)
 rintro ds M Q ⟨M0,b,A,V,l,c,n,i,e,rfl,cu,hc,hn,hi,he,q⟩
 have one:∀(ev:Ev) (ok:ev.ok V),ev.nw=0->tO l V i e=[ev]->∀M2 A2,A2.b=A.b->rB A M A2 M2->pY a M2 A2 (qD V ev)->∃Yo,qH Yo M2/\Q .mY Yo:=λev ok h0 h1 M2 A2 eb YH ZA=>by rw[h1]at q;have c2:=cu.after ok eb YH ZA;rw[h0]at c2;exact⟨M2,.refl,q M2 A2 (c2.mono (dw _) (by lia)) YH⟩
 cases e with
 | rings z ps=>exact⟨M0,b,A,V,l,c,n,i,z,ps,Z',cu,hc,hn,hi,he.1,he.2.1,he.2.2.1,he.2.2.2,λM' A' c1 st=>⟨M',.refl,q M' A' c1 st⟩⟩
 | waits z=>exact pN cu.at_ ⟨Z',_,⟨Z',Z'⟩,pJ Z',b,A,V,.waits i z,Z',cu.b,cu.bd,cu.lim hc (by lia),hi,one (.waits i z) hi Z' Z'⟩
 | breaks z=>exact⟨M0,b,A,V,l,c,n,i,z,Z',cu,hc,hn,hi,he,λM' A' c1 st=>⟨M',.refl,q M' A' c1 st⟩⟩
 | engaged z=>exact pN cu.at_ ⟨Z',_,⟨Z',Z'⟩,pJ Z',b,A,V,.over i "engaged",Z',cu.b,cu.bd,cu.lim hc (by lia),hi,one (.over i "engaged") hi Z' Z'⟩
 | barred=>exact pN cu.at_ ⟨Z',_,⟨Z',Z'⟩,pJ Z',b,A,V,.over i "barred",Z',cu.b,cu.bd,cu.lim hc (by lia),hi,one (.over i "barred") hi Z' Z'⟩
 | ring ns=>exact pN cu.at_ ⟨Z',_,⟨Z',Z'⟩,pJ Z',b,A,V,.over i "ring",Z',cu.b,cu.bd,cu.lim hc (by lia),hi,one (.over i "ring") hi Z' Z'⟩
def OO{V:qG}{i:Nat}{k:pQ}{e:wO}(ok:rb l)(wf:AH l V (ga i))(hk:V.calls[i]?=ga k)(h:G2 l V k.cr e):Ho l V i e:=by
 cases e with
 | rings z ps=>obtain⟨hz,YI,rfl⟩:=h;have h1:=(Hs (l:=l) (V:=V) (c:=k.cr) (z:=z));have h2:=(ok.of hz).1.2.1;exact⟨hz,YI,λx hx=>(h1.1 x hx).2,by have:=h1.2;lia⟩
 | breaks z=>
  obtain⟨x,rfl,hb⟩:=h;obtain⟨j,d,e1,e2,e3,e4,e5,_⟩:=Hw hb;refine⟨j,d,e1,e2,λy=>?_,e5⟩;subst y;rw[hk]at e2;cases e2;have sh:=(wf.ok i k hk).sh;rw[show(ga i==ga i)=Db from fH _]at sh;rcases sh with g|g
  .rw[g.1]at e3;exact absurd e3 (by decide)
  .cases g.1
 | _=>trivial
def Kl:Fq P w K mg base 9 a.aj (Qt a):=by
 refine fq G.aj.toDG xk (λr u=>⟨_,(pL (qc 2 xk (pZ (pR v0) Y1))
 (pL (qc 3 xk (pW (O0 G) r G.a3 (qw v0 (rP (pR Y2) (pZ (pR Y2) (A5 pO)) (tH (pR Y2) uk (ur (A5 pO)))))))
 (pL (qc 4 xk (pZ Y3 pO))
 (pL (qc 5 xk (pZ Y3 pO))
 (pL (qd (pW (PU G) r G.a8 (rP v0 Y1 v5)))
 (pL (qh (W3.b3 (zc (pX u (pZ v4 pO) pP) (yD (pX u (ql qR Z' G.g qO (qz v5)) pO))))
 (pL (qc 6 xk (pZ (pZ v5 (A5 pO)) pO))
 (pM (qd (qu v0 G.c.toCls G.k (rO G) r (qz (qe (qw pP (qw Y1 (rP v6 (pZ (pZ v4 pO) pO) v6)))))))))
 qa)
 (pM (qd (pW (Ro G) r G.bb (rP v0 Y1 v4)))))))))),?_⟩)
 rintro ds M Q ⟨M0,b,A,V,l,c,n,i,k,rfl,cu,hc,hn,wf,hk,q⟩
 obtain⟨ka,ci⟩:=cu.call hk;obtain⟨ad,md,h1,h2,h3,h4,n1,n2⟩:=ci.cell;have Zq:=wf.ok i k hk;have hi:=(de.mp hk).1;obtain⟨z,hz⟩:∃z,k.way.getLast?=ga z:=by
  cases e:k.way.getLast? with
  | none=>exact absurd (gL.mp e) Zq.wy.1
  | some z=>exact⟨z,Z'⟩
 have Zp:z∈l.nm:=Zq.wy.2 z (jf hz);have hdn:∀x∈k.way.dropLast,x∈l.nm:=λx hx=>Zq.wy.2 x (jg _ hx);have hwl:=(cu.sz.cs k (rj hk)).1;have hev:vZ l V i=sv i Fa (vq l V k.cr z k.way.dropLast).2++(uI i (vq l V k.cr z k.way.dropLast).2 (vq l V k.cr z k.way.dropLast).1++tO l V i (vq l V k.cr z k.way.dropLast).1):=by
  unfold vZ;rw[hk];have:k.way.getLastD Str.empty=z:=by rw[iw,hz];rfl
  dsimp only[Option.elim];rw[this]
 rw[hev]at q;have ro:yE l V k.cr (l.nm.length+1) [] (vq l V k.cr z k.way.dropLast):=Ax cu.ok _ _ _ _ Zp hdn;have rl:=ro.len;have eo:=OO cu.ok wf hk ro.e;have nl:l.nm.length<=11:=by have p8:=cu.ok.p8;have g3:=cu.ok.g3;unfold pV.nm pV.pn pV.gn;rw[c9,cX,cX];lia
 have re:=ro.e;refine UL (t:=G1 _ _) (λU M'=>M=M'/\U=[ga (.ref b),ga (.int ((i:Nat):Int)),ga (.ref ka.p),Fa,Fa,Fa,Fa]) (λnx0 h=>pN cu.at_ (i' Z' (i' Z' (i' ci.bd.ca (i' (rS ci.e1) (h _ _ ⟨Z',Z'⟩)))))) ?_
 rintro U _ ⟨rfl,rfl⟩
 refine UL (t:=G1 _ _) (λU M'=>qH M M'/\∃r,M r=Fa/\oU M' r=ga (rV (vq l V k.cr z k.way.dropLast).2)/\U=[ga (.ref b),ga (.int ((i:Nat):Int)),ga (.ref ka.p),ga (.tup [(vq l V k.cr z k.way.dropLast).1.d,.ref r]),Fa,Fa,Fa]) (λnx0 h=>?_) ?_
 .refine pN h1 (i' Z' (pN h1 (i' Z' (i' h2 (i' (Q8 hz) (pN h1 (i' Z' (i' h2 λp hp=>?_))))))));rw[show L3.vB (k.way.map D.str) Fa (ga (-1:Int))=k.way.dropLast.map D.str from(Mg _).trans (List.map_dropLast).symm];have t:=qH.new (c:=.lst (k.way.dropLast.map D.str)) hp;have lp:=@pS M p (k.way.dropLast.map D.str);refine⟨A,V,l,k.cr,z,p,k.way.dropLast,by rw[cu.b],(cu.rd hc wf).sub t,Zp,wf.nx,lp,by rw[List.length_dropLast];lia,λr M' s hr lr=>?_⟩;exact h _ _ ⟨t.trans s,r,t.none hr,lr,Z'⟩
 rintro U M1 ⟨s1,r,hr,lr,rfl⟩
 generalize vq l V k.cr z k.way.dropLast=R at lr ro rl eo re q;obtain⟨e,st⟩:=R;have cu1:=cu.sub s1;have rl:st.length<=0+(l.nm.length+1):=rl;refine⟨M0,b,A,V,l,c,n,i,st,r,Z',cu1,hc,by lia,by lia,hi,lr,cu.bd.oa hr,λM2 A2 c2 YH=>?_⟩;have same:=wb i st Fa V;have Ze:i<(qY V (sv i Fa st)).calls.length:=by rw[same.len];exact hi
 have lr2:oU M2 r=ga (rV st):=sd (YH.1 r _ (cu.bd.oa hr) (qm lr));rw[su,su]at q;have hee:=λV' (h:ux V V')=>h.ends (l:=l) i e;have hat:∀V',ux V V'->Ho l V' i e:=λV' h=>by
  cases e with
  | breaks z'=>obtain⟨j,d,a1,a2,a3,a4⟩:=eo;obtain⟨d',b1,b2⟩:=h.at_ a2;exact⟨j,d',by rw[h.nP];exact a1,b1,a3,by rw[show d'.ms=d.ms from show d'.bare.ms=d.bare.ms by rw[b2]];exact a4⟩
  | rings _ _=>exact eo
  | _=>trivial
 generalize qY V (sv i Fa st)=V2 at c2 Ze same q;have Zr:∀(M3:Mp) (A3:tG) (V3:qG),uB a M0 M3 b A3 V3 l c (n+2*st.length+1)->rB A M A3 M3->ux V V3->i<V3.calls.length->V3=qY V2 (uI i st e)->JV a [.ref b,.int ((i:Nat):Int),e.d] M3 λ_ M'=>∃Yo,qH Yo M'/\Q .mY Yo:=λM3 A3 V3 c3 s3 Zs hi3 e3=>⟨M0,b,A3,V3,l,c,_,i,e,Z',c3,hc,by lia,hi3,hat V3 Zs,λM4 A4 c4 s4=>⟨M4,.refl,q M4 A4 (by
  rw[<-e3];rw[hee V3 Zs]at c4;exact c4.mono (dw _) (by lia)) (s3.trans s4)⟩⟩
 have c2':=c2.mono (dw c) (show n+2*st.length<=n+2*st.length+1 by lia);have ZM:=(rB.sub s1 (A:=A)).trans YH;cases e with
 | ring ns=>
  obtain⟨x,ns',rfl⟩:=gj (show ns≠[]from re);refine i' lr2 ?_;cases hl:st.getLast? with
  | none=>have:st=[]:=gL.mp hl;subst this;exact Zr M2 A2 V2 c2' ZM same Ze Z'
  | some s0=>
   have hpos:0<st.length:=by cases st with|nil=>cases hl|cons _ _=>exact mM _
   have hd:decide ((0:Int)<((rV st).length:Int))=Db:=d4 (by unfold rV;rw[cX];lia);refine BG (c:=decide ((0:Int)<((rV st).length:Int))) hd ?_;have hat1:wY (rV st) (-1)=ga (.tup [.str s0.1,yr s0.2]):=by
    unfold wY;have e1:Gc (rV st).length (-1)=ga (st.length - 1):=by unfold rV;rw[cX];unfold Gc;simp;lia
    rw[e1];show(rV st)[st.length - 1]?=_;unfold rV;rw[dG,<-jG,hl];rfl
   have hrv:uI i st (.ring (x::ns'))=[.leg ⟨i,s0.1,x,s0.1⟩]:=by unfold uI;dsimp only;rw[hl];rfl
   rw[hrv]at Zr;refine i' lr2 (i' hat1 ?_);refine pN c2.at_ ⟨Z',_,⟨Z',Z'⟩,i' (zZ _ _) ⟨pJ Z',b,A2,V2,.leg ⟨i,s0.1,x,s0.1⟩,Z',c2.b,c2.bd,c2.lim hc (by lia),Ze,λM3 A3 eb Zg bd3=>?_⟩⟩;have Zs:=same.trans (AB V2 ⟨i,s0.1,x,s0.1⟩);exact Zr M3 A3 _ (c2.after (e:=.leg ⟨i,s0.1,x,s0.1⟩) Ze eb Zg bd3) (ZM.trans Zg) Zs (by rw[Zs.len];exact hi) Z'
 | rings z' ps=>exact Zr M2 A2 V2 c2' ZM same Ze Z'
 | waits z'=>exact Zr M2 A2 V2 c2' ZM same Ze Z'
 | breaks z'=>exact Zr M2 A2 V2 c2' ZM same Ze Z'
 | engaged z'=>exact Zr M2 A2 V2 c2' ZM same Ze Z'
 | barred=>exact Zr M2 A2 V2 c2' ZM same Ze Z'
def Ox:Fq P w K mg base 10 a.bc (MU a):=by
 refine fq G.bc.toDG AF (λr u=>⟨_,(pL (qc 3 AF (ql qR Z' G.g qO (qz (pR v0))))
 (pL (qd (qu v0 G.c.toCls G.k (rO G) r (qz (qe (rP pP Y3 Y1)))))
 (pL (qd (qu v0 G.c.toCls G.k (rO G) r (qz (qe (qw pP (qw Y3 (rP Y1 Y2 Y1)))))))
 (pM (qd (pW (Kl G) r G.aj (r6 v0 Y3))))))),?_⟩)
 rintro ds M Q ⟨M0,b,A,V,l,c,n,y,z,rfl,cu,hc,hn,wf,q⟩
 have lc:((A.cs.map λk=>D.ref k.p).length:Int)=(V.calls.length:Nat):=by rw[cX,cu.bd.len]
 refine pN cu.at_ (i' Z' (i' cu.bd.ca ?_));rw[lc];refine pN cu.at_ ⟨Z',_,⟨Z',Z'⟩,pJ Z',b,A,V,.new V.calls.length y,Z',cu.b,cu.bd,cu.lim (by lia) (by lia),trivial,λM1 A1 eb1 YX bd1=>?_⟩;have c1:=cu.after (e:=.new V.calls.length y) trivial eb1 YX bd1;have Zk:(Ev.leg ⟨V.calls.length,y,z,y⟩).ok (qD V (.new V.calls.length y)):=by show V.calls.length<(V.calls++[Ae y]).length;rw[c9];exact fG _
 refine pN c1.at_ ⟨Z',_,⟨Z',Z'⟩,pJ Z',b,A1,_,.leg ⟨V.calls.length,y,z,y⟩,Z',c1.b,c1.bd,c1.lim (by show c+1<=_;lia) (by lia),Zk,λM2 A2 eb2 YH ZA=>?_⟩;have c2:=c1.after Zk eb2 YH ZA;obtain⟨k,hk⟩:∃k,(qY V [.new V.calls.length y,.leg ⟨V.calls.length,y,z,y⟩]).calls[V.calls.length]?=ga k:=by
  have:V.calls.length<(qY V [.new V.calls.length y,.leg ⟨V.calls.length,y,z,y⟩]).calls.length:=by show V.calls.length<((V.calls++[Ae y]).modify _ _).length;rw[gm];exact Zk
  exact⟨_,cZ this⟩
 refine⟨M0,b,A2,_,l,c+1,n+2,V.calls.length,k,Z',c2,by lia,by lia,wf,hk,λM3 A3 c3 Zg=>⟨M3,.refl,q M3 A3 ?_ (YX.trans (YH.trans Zg))⟩⟩;unfold yH;rw[su];exact c3.mono (dw _) (by lia)
def Fd(V:qG)(x:Str):D:=BX (vd V x)
abbrev Es:=LH Fd
def MC(a:Ad):rQ:=λds M Q=>GD λA V l x z=>ds=[.ref A.b,.str x,.str z]/\Rd a M A V l/\x∈l.pn/\Q (BX (HA l V x z)) M
inductive wC(a:Ad)(M:Mp)(L:QXQ):List rZ->List pQ->Prop
 | nil:wC a M L [] []
 | cons (k:rZ) (c:pQ) (ks:List rZ) (cs:List pQ) (h:sG a M L k c) (r:wC a M L ks cs):wC a M L (k::ks) (c::cs)
def rc.nf(w:Str)(m:Nat):Prop:=((w="answer"\/w="hang"\/w="hold"\/w="back")/\m=1)\/((w="hand"\/w="join")/\m=2)
def NZ(a:Ad):rQ:=λds M Q=>Kg λwd x r L ks cs=>ds=[.str wd,.str x,.ref r]/\oU M r=ga (List.map (λk:rZ=>D.ref k.p) ks)/\wC a M L ks cs/\rc.nf wd cs.length/\Q (.bl (JF wd x cs)) M
def J6(a:Ad):rQ:=λds M Q=>Kg λA V l wd x ns=>ds=[.ref A.b,.str wd,.str x,.tup (List.map D.int ns)]/\Rd a M A V l/\x∈l.pn/\rc.nf wd ns.length/\Q (BX (Mh l V wd x ns)) M
def Ue(a:Ad):rQ:=λds M Q=>B0 λA V b i=>ds=[.ref A.b,.str (Vx b),.int i]/\pY a M A V/\Q (BX (Pb V b i)) M
def Ij(a:Ad):rQ:=λds M Q=>B0 λA V l e=>ds=[.ref A.b,rc.d e]/\Rd a M A V l/\e.nz/\Q (BX (vM l V e)) M
def X1(m:Nat):D->D
 | .int i=>.bl (zP m i)
 | _=>.bl pc
noncomputable def XX(A:tG):D->D
 | .int i=>(A.cs[i.toNat]?).elim .mY λk=>.ref k.p
 | _=>.mY
theorem RN{V:qG}(bd:pY a M A V):∀{ns:T0 Int},ns.all (zP V.calls.length)=Db->∃ks,wC a M (A.lists++V.fo) ks (ut V ns)/\(ns.map D.int).map (XX A)=ks.map (λk:rZ=>D.ref k.p)/\(ut V ns).length=ns.length/\∀i∈ns,∃k,0<=i/\A.cs[i.toNat]?=ga k
 | [],_=>⟨[],.nil,Z',Z',λi hi=>by cases hi⟩
 | i::r,h=>by
  rw[fv,dY]at h;obtain⟨ks,h1,h2,h3,h4⟩:=RN bd h.2;have hh:(decide (0<=i)&&decide (i<V.calls.length))=Db:=h.1;rw[dY,eC,eC]at hh;have hi:i.toNat<V.calls.length:=by lia
  have hk:i.toNat<A.cs.length:=by rw[bd.len];exact hi
  have e1:A.cs[i.toNat]?=ga A.cs[i.toNat]:=cZ hk;have e2:V.calls[i.toNat]?=ga V.calls[i.toNat]:=cZ hi;have ec:ut V (i::r)=V.calls[i.toNat]::ut V r:=by unfold ut;rw[List.filterMap_cons_some (f:=λi:Int=>V.calls[i.toNat]?) e2]
  rw[ec];refine⟨A.cs[i.toNat]::ks,.cons _ _ _ _ (bd.cs _ _ _ e1 e2) h1,?_,eR Nat.succ h3,λj hj=>?_⟩
  .rw[d6,d6,h2];show(A.cs[i.toNat]?).elim _ _::_=_;rw[e1];rfl
  .rcases dz.mp hj with rfl|hj
   .exact⟨_,hh.1,e1⟩
   .exact h4 j hj
def wC.sub(h:wC a M L ks cs)(s:qH M M'):wC a M' L ks cs:=by
 induction h with
 | nil=>exact .nil
 | cons k c ks cs h r ih=>exact .cons k c ks cs (h.sub s) ih
def Uv{bs:T0 Bool}{i:Int}(h:zP bs.length i=Db):wY (bs.map D.bl) i=ga (.bl (bs.getD i.toNat pc)):=by
 have hh:(decide (0<=i)&&decide (i<bs.length))=Db:=h;rw[dY,eC,eC]at hh;obtain⟨n,rfl⟩:=eG hh.1;have hn:n<bs.length:=by lia
 refine vK ?_;rw[dG,cZ hn];show ga (D.bl bs[n])=ga (.bl (bs.getD n pc));rw[gh,cZ hn];rfl
def Ek:Fq P w K mg base 4 a.ah (Es a):=by
 refine fq G.ah.toDG zH (λr u=>⟨_,(pL (qh (pX u (qu v0 G.c.toCls G.bG (Nc G) r (qz Y1)) sD)
 (pM (pU pP))
 qa)
 (pL (qh (pX u (qu v0 G.c.toCls G.bH (Iq G) r (qz Y1)) sD)
 (pM (pU pP))
 qa)
 (pM (pU sD)))),?_⟩)
 rintro ds M Q ⟨A,V,x,rfl,bd,hk,q⟩
 unfold Fd vd at q;refine pN bd.at_ ⟨Z',_,⟨Z',Z'⟩,A,V,x,Z',bd,hk,?_⟩;unfold Mo;cases e:Fp V x with
 | some j=>rw[e]at q;exact⟨M,.refl,q⟩
 | none=>
  rw[e]at q;refine pN bd.at_ ⟨Z',_,⟨Z',Z'⟩,A,V,x,Z',bd,hk,?_⟩;unfold Vb;cases e:KJ V x with
  | some j=>rw[e]at q;exact⟨M,.refl,q⟩
  | none=>rw[e]at q;exact⟨M,.refl,q⟩
def OI:Fq P w K mg base 5 a.a4 (MC a):=by
 refine fq G.a4.toDG xi (λr u=>⟨_,(pL (qh (pX u Y2 (ww (pR v0) G.h.toCls G.ar (yY G) r))
 (pM (pU pP))
 qa)
 (pL (qc 3 xi (pW (Ek G) r G.ah (r6 v0 Y1)))
 (pL (qh (W3.b3 (zc (pX u Y3 sD) (yD (yb (vE (qu v0 G.c.toCls G.Z (zG G) r (qz Y1)))))))
 (pM (pU pP))
 qa)
 (pM (pU Y3))))),?_⟩)
 rintro ds M Q ⟨A,V,l,x,z,rfl,rd,hx,q⟩
 obtain⟨ph,gr,ws,Zz,pr,gd,rs,i1,_⟩:=rd.pl;have p8:=rd.ok.p8;have g3:=rd.ok.g3;unfold HA at q;refine pN rd.bd.at_ (i' Z' (pN i1 ⟨Z',_,⟨Z',Z'⟩,V.p,l,Z',rd.pl,by lia,by lia,λp hp=>i' pS ⟨Z',qP _,?_⟩⟩));have t:=qH.new (c:=.lst (l.nm.map D.str)) hp;have YQ:=rd.sub t;generalize pT M p (.lst (l.nm.map D.str))=M1 at t YQ ⊢;show if (!(inD (.str z) (l.nm.map D.str)))=Db then _ else _
 rw[tF];refine qU (c:=!(hasS l.nm z)) (λg=>?_) (λg=>?_)
 .rw[dh (by simpa using g)]at q;exact⟨M,t,q⟩
 rw[df (by simpa using g)]at q;refine⟨A,V,x,Z',YQ.bd,YQ.k,?_⟩;unfold Fd;cases e:vd V x with
 | some w0=>rw[e]at q;exact⟨M,t,q⟩
 | none=>
  rw[e]at q;refine pN YQ.bd.at_ ⟨Z',_,⟨Z',Z'⟩,A,V,l,x,Z',YQ,hx,?_⟩;refine qU (c:=!(uE l V x)) (λg=>?_) (λg=>?_)
  .rw[g]at q;exact⟨M,t,q⟩
  .rw[show(!(uE l V x))=pc from dQ.mpr g]at q;exact⟨M,t,q⟩
def MB:Fq P w K mg base 3 a.a5 (NZ a):=by
 refine fq G.a5.toDG MZ (λr u=>⟨_,(pL (qh (pX u v0 pP)
 (pM (pU (qE u Y1 (pR (pZ Y2 pO)))))
 qa)
 (pL (qh (pX u v0 pP)
 (pM (pU (qu (pZ Y2 pO) G.e.toCls G.bK (OL G) r (qz Y1))))
 qa)
 (pL (qh (pX u v0 pP)
 (pM (pU (qu (pZ Y2 pO) G.e.toCls G.aD (HD G) r (qz Y1))))
 qa)
 (pL (qh (pX u v0 pP)
 (pM (pU (qE u (pR (pZ Y2 pO)) Y1)))
 qa)
 (pM (pU (uc (qE u (pR (pZ Y2 pO)) Y1) (tP (qu (pZ Y2 pO) G.e.toCls G.aD (HD G) r (qz Y1)))))))))),?_⟩)
 rintro ds M Q ⟨wd,x,r,L,ks,cs,rfl,lr,hcs,hw,q⟩
 cases hcs with
 | nil=>rcases hw with⟨_,h⟩|⟨_,h⟩<;>cases h
 | cons k c ks cs hc Y5=>
 obtain⟨ad,md,h1,h2,h3,h4,_⟩:=id hc;have a0:=zZ (.ref k.p) (ks.map λk:rZ=>D.ref k.p);have hold:∀K:DK,K (.bl (c.hd==ga x)) M->Option.elim (wg M 9 (BX c.hd) (.str x)) False λb=>K (.bl b) M:=λK hK=>by
  cases e:c.hd with
  | none=>rw[e]at hK;exact hK
  | some y=>rw[e]at hK;exact hK
 rcases hw with⟨rfl|rfl|rfl|rfl,h⟩|⟨hw,h⟩
 .exact i' lr (i' a0 (pN h1 (i' Z' (EE h3 ⟨M,.refl,q⟩))))
 .exact i' lr (i' a0 (pN h1 ⟨Z',_,⟨Z',Z'⟩,L,k,c,x,Z',hc,M,.refl,q⟩))
 .exact i' lr (i' a0 (pN h1 ⟨Z',_,⟨Z',Z'⟩,L,k,c,x,Z',hc,M,.refl,q⟩))
 .exact i' lr (i' a0 (pN h1 (i' Z' (hold _ ⟨M,.refl,q⟩))))
 .cases Y5 with
  | nil=>cases h
  | cons k' d ks cs hd _=>
   obtain⟨ad',md',f1,_⟩:=id hd;have a1:wY (.ref k.p::.ref k'.p::ks.map λk:rZ=>D.ref k.p) 1=ga (.ref k'.p):=vK (j:=1) Z';have qq:Q (.bl ((c.hd==ga x)&&d.nq x)) M:=by
    rcases hw with rfl|rfl
    .exact q
    .exact q
   rcases hw with rfl|rfl
   all_goals
    refine i' lr (i' a0 (pN h1 (i' Z' ?_)));cases e:c.hd with
    | none=>rw[e]at qq;exact⟨M,.refl,qq⟩
    | some y=>
     rw[e]at qq;have qq:Q (.bl ((y==x)&&d.nq x)) M:=qq;refine qU (c:=y==x) (λg=>?_) (λg=>?_)
     .rw[g,eK]at qq;exact i' lr (i' a1 (pN f1 ⟨Z',_,⟨Z',Z'⟩,L,k',d,x,Z',hd,M,.refl,qq⟩))
     .rw[show(y==x)=pc from dQ.mpr g,eV]at qq;exact⟨M,.refl,qq⟩
def Q6:Fq P w K mg base 5 a.a6 (J6 a):=by
 refine fq G.a6.toDG uy (λr u=>⟨_,(pL (qh (yb (vE (ql (Fl Z') Z' G.bT FL (qz (qT Z' (xV (ix:=[Fa,ga 0]) (N':=["number","board"])) (ra Y3) (qN 0) sf (uW u pO v0 (ql qR Z' G.g qO (qz (pR Y1)))))))))
 (pM (pU pP))
 qa)
 (pL (uM (i:=4) uy.nd Z' (Or.inl Z') Z' (xV (ix:=[Fa,ga 0]) (N':=["number","board"])) (ra Y3) (qN 0) sf (pZ (pR Y1) v0))
 (pL (qh (yb (vE (pW (MB G) r G.a5 (rP Y1 Y2 v4))))
 (pM (pU pP))
 qa)
 (pL (qh (pX u Y1 (qe (r6 pP pP)))
 (pM (pU sD))
 qa)
 (pL (qc 5 uy (pW (Ek G) r G.ah (r6 v0 Y2)))
 (pL (qh (W3.b3 (zc (pX u v5 sD) (zc (vE (qu (pZ v4 pO) G.e.toCls G.aB (HU G) r (qz Y2))) (yD (yb (vE (qu v0 G.c.toCls G.Z (zG G) r (qz Y2))))))))
 (pM (pU pP))
 qa)
 (pM (pU v5)))))))),?_⟩)
 rintro ds M Q ⟨A,V,l,wd,x,ns,rfl,rd,hx,hw,q⟩
 have hz:=dO;have hn2:ns.length<=2:=by rcases hw with⟨_,h⟩|⟨_,h⟩<;>lia
 have lca:((A.cs.map λk=>D.ref k.p).length:Int)=V.calls.length:=by rw[cX,rd.bd.len]
 unfold Mh at q;refine rN (f:=X1 V.calls.length) trivial _ [] _ (by rw[cX];simp only[dN];lia) (λd hd k hk=>?_) λp hp=>?_
 .obtain⟨i,_,rfl⟩:=dF.mp hd;have hk:k (.bl (decide (0<=i)&&decide (i<V.calls.length))) M:=hk;refine qU (c:=decide (0<=i)) (λg=>?_) (λg=>?_)
  .rw[g,eK]at hk;refine pN rd.bd.at_ (i' Z' (i' rd.bd.ca ?_));rw[lca];exact hk
  .rw[show decide (0<=i)=pc from dQ.mpr g,eV]at hk;exact hk
 have em:[]++(ns.map D.int).map (X1 V.calls.length)=ns.map λi=>D.bl (zP V.calls.length i):=by rw[d9,eA];rfl
 rw[em];have t:=qH.new (c:=.lst (ns.map λi=>D.bl (zP V.calls.length i))) hp;refine i' pS (i' (xF (zP V.calls.length) ns) ?_);have YQ:=rd.sub t;generalize pT M p (.lst (ns.map λi=>D.bl (zP V.calls.length i)))=M1 at t YQ ⊢;rw[zW];refine qU (c:=!(ns.all (zP V.calls.length))) (λg=>?_) (λZn=>?_)
 .rw[dh (by simpa using g)]at q;exact⟨M,t,q⟩
 have Zn:ns.all (zP V.calls.length)=Db:=by simpa using Zn
 rw[df (by rw[Zn];exact Bool.noConfusion)]at q;obtain⟨ks,hks,eks,lcs,hin⟩:=RN YQ.bd Zn;refine rN (f:=XX A) trivial _ [] _ (by rw[cX];simp only[dN];lia) (λd hd k0 hk=>?_) λp2 Yw=>?_
 .obtain⟨i,hi,rfl⟩:=dF.mp hd;obtain⟨k,i0,e1⟩:=hin i hi;obtain⟨n,rfl⟩:=eG i0;have e1:A.cs[n]?=ga k:=e1;have hk:k0 ((A.cs[n]?).elim .mY λk=>.ref k.p) M1:=hk;rw[e1]at hk;exact pN YQ.bd.at_ (i' Z' (i' Z' (i' YQ.bd.ca (i' (rS e1) hk))))
 rw[d9,eks];have t2:=qH.new (c:=.lst (ks.map λk:rZ=>D.ref k.p)) Yw;have l2:=@pS M1 p2 (ks.map λk:rZ=>D.ref k.p);have rd2:=YQ.sub t2;have s2:=t.trans t2;generalize pT M1 p2 (.lst (ks.map λk:rZ=>D.ref k.p))=M2 at l2 rd2 s2 t2 ⊢;have hks:=hks.sub t2;generalize ut V ns=cs at hks lcs q;refine⟨wd,x,p2,_,ks,cs,Z',l2,hks,by rw[lcs];exact hw,?_⟩;refine qU (c:=!JF wd x cs) (λg=>?_) (λg=>?_)
 .rw[dh (by simpa using g)]at q;exact⟨M,s2,q⟩
 rw[df (by simpa using g)]at q;have two:∀wd:Str,(wd=="answer"||wd=="back")=Db->Q (BX (if ((vd V x).isNone&&(cs.head?.elim pc (λc=>c.mZ x)&&!(uE l V x)))=Db then ga "full" else vd V x)) M->cs.length=1->Es a [.ref A.b,.str x] M2 λdue M3=>vc (QA (QZ (b3 (k3 .Is (v3 5) (c3 .mY))) (QZ (b3 (Bt "waits_with" (λD s=>D=a.e/\s=wz a) (i3 (v3 4) (c3 (.int 0))) (wk (v3 2) xS))) (Vw (b3 (Bt "is_free" (λD s=>D=a.c/\s=xP a) (v3 0) (wk (v3 2) xS)))))) (So (c3 (.str "full"))) WD) (So (v3 5)) {nx:=λ_ M'=>∃Yo,qH Yo M'/\Q .mY Yo,rt:=λd M'=>∃Yo,qH Yo M'/\Q d Yo} [ga (.ref A.b),ga (.str wd),ga (.str x),ga (.tup (ns.map D.int)),ga (.ref p2),ga due] M3:=λwd _ q hl=>by
  cases hks with
  | nil=>cases hl
  | cons k c ks cs hc _=>
  have q:Q (BX (if ((vd V x).isNone&&(c.mZ x&&!(uE l V x)))=Db then ga "full" else vd V x)) M:=q;obtain⟨ad,md,h1,_⟩:=id hc;refine⟨A,V,x,Z',rd2.bd,rd2.k,?_⟩;unfold Fd;cases e:vd V x with
  | some w0=>rw[e]at q;exact⟨M,s2,q⟩
  | none=>
   rw[e]at q;refine i' l2 (i' (zZ _ _) (pN h1 ⟨Z',_,⟨Z',Z'⟩,_,k,c,x,Z',hc,?_⟩));refine qU (c:=c.mZ x) (λg1=>?_) (λg1=>?_)
   .rw[g1]at q;refine pN rd2.bd.at_ ⟨Z',_,⟨Z',Z'⟩,A,V,l,x,Z',rd2,hx,?_⟩;refine qU (c:=!(uE l V x)) (λg=>?_) (λg=>?_)
    .rw[g]at q;exact⟨M,s2,q⟩
    .rw[show(!(uE l V x))=pc from dQ.mpr g]at q;exact⟨M,s2,q⟩
   .rw[show c.mZ x=pc from dQ.mpr g1]at q;exact⟨M,s2,q⟩
 rcases hw with⟨rfl|rfl|rfl|rfl,h⟩|⟨rfl|rfl,h⟩
 .exact⟨pJ Z',Z',Z',two "answer" Z' q (lcs.trans h)⟩
 .exact⟨pJ Z',Z',Z',M,s2,q⟩
 .exact⟨pJ Z',Z',Z',M,s2,q⟩
 .exact⟨pJ Z',Z',Z',two "back" Z' q (lcs.trans h)⟩
 .exact⟨pJ Z',Z',Z',M,s2,q⟩
 .exact⟨pJ Z',Z',Z',M,s2,q⟩
def SV:Fq P w K mg base 1 a.a7 (Ue a):=by
 refine fq G.a7.toDG zx (λr u=>⟨_,(pL (qh (yb (G7 u pO Y2 (ql qR Z' G.g qO (qz (pR v0)))))
 (pM (pU pP))
 qa)
 (pL (qh (pX u (pZ (pR v0) Y2) (qE u Y1 pP))
 (pM (pU pP))
 qa)
 (pM (pU sD)))),?_⟩)
 rintro ds M Q ⟨A,V,b,i,rfl,bd,q⟩
 unfold Pb at q;have hin:zP V.on.length i=(decide (0<=i)&&decide (i<V.on.length)):=rfl;have lon:((V.on.map D.bl).length:Int)=V.on.length:=by rw[cX]
 have no:zP V.on.length i=pc->Q (.str "wish") M:=λh=>by rw[dh h]at q;exact q
 have yes:zP V.on.length i=Db->Q (BX (if (V.on.getD i.toNat pc==b)=Db then ga "wish" else Fa)) M:=λh=>by rw[h,df Bool.noConfusion]at q;exact q
 refine qU (c:=decide (0<=i)) (λg0=>?_) (λg0=>⟨M,.refl,no (by rw[hin,show decide (0<=i)=pc from dQ.mpr g0];rfl)⟩);refine pN bd.at_ (i' Z' (i' bd.on ?_));rw[lon];refine qU (c:=!(decide (i<(V.on.length:Int)))) (λg1=>⟨M,.refl,no (by rw[hin,g0,show decide (i<(V.on.length:Int))=pc by simpa using g1];rfl)⟩) (λg1=>?_);have h:zP V.on.length i=Db:=by rw[hin,g0,show decide (i<(V.on.length:Int))=Db by simpa using g1];rfl
 have q:=yes h;refine pN bd.at_ (i' Z' (i' Z' (i' bd.on (i' (Uv h) ?_))));have es:(Vx b=="on")=b:=by cases b<;>rfl
 show if (V.on.getD i.toNat pc==(Vx b=="on"))=Db then _ else _
 rw[es];refine qU (λg=>?_) (λg=>?_)
 .rw[dh g]at q;exact⟨M,.refl,q⟩
 .rw[df g]at q;exact⟨M,.refl,q⟩
def CO:Fq P w K mg base 6 a.ai (Ij a):=by
 refine fq G.ai.toDG CU (λr u=>⟨_,(pL (qc 2 CU (pZ Y1 pO))
 (pL (qh (pX u Y2 pP)
 (pM (pU sD))
 qa)
 (pL (qh (pX u Y2 (qe (r6 pP pP)))
 (pM (pU (pW (SV G) r G.a7 (rP v0 Y2 (pZ Y1 pO)))))
 qa)
 (pL (qh (pX u (pZ Y1 pO) (ww (pR v0) G.h.toCls G.P (tE G) r))
 (pM (pU pP))
 qa)
 (pL (qh (pX u Y2 pP)
 (pM (pU (pW (OI G) r G.a4 (rP v0 (pZ Y1 pO) (pZ Y1 pO)))))
 qa)
 (pM (pU (pW (Q6 G) r G.a6 (qw v0 (rP Y2 (pZ Y1 pO) (tH Y1 (ur pO) uk))))))))))),?_⟩)
 rintro ds M Q ⟨A,V,l,e,rfl,rd,hf,q⟩
 obtain⟨ph,gr,ws,Zz,pr,gd,rs,i1,_⟩:=rd.pl;have p8:=rd.ok.p8;cases e with
 | turn=>exact⟨M,.refl,q⟩
 | sw b i=>
  cases b with
  | true=>exact⟨pJ Z',Z',Z',A,V,Db,i,Z',rd.bd,M,.refl,q⟩
  | false=>exact⟨pJ Z',Z',Z',A,V,pc,i,Z',rd.bd,M,.refl,q⟩
 | call x z=>
  have q:Q (BX (if hasS l.pn x=pc then ga "name" else HA l V x z)) M:=q;refine⟨pJ Z',Z',Z',?_⟩;refine pN rd.bd.at_ (i' Z' (pN i1 ⟨Z',_,⟨Z',Z'⟩,V.p,l,Z',rd.pl,by lia,λp Yw=>i' pS ⟨Z',qP _,?_⟩⟩));have t:=qH.new (c:=.lst (l.pn.map D.str)) Yw;have YQ:=rd.sub t;generalize pT M p (.lst (l.pn.map D.str))=M1 at t YQ ⊢;show if (!(inD (.str x) (l.pn.map D.str)))=Db then _ else _
  rw[tF];refine qU (c:=!(hasS l.pn x)) (λg=>?_) (λg=>?_)
  .rw[dh (by simpa using g)]at q;exact⟨M,t,q⟩
  .have g:hasS l.pn x=Db:=by simpa using g
   rw[g,df Bool.noConfusion]at q;exact⟨A,V,l,x,z,Z',YQ,rG.mp g,M,t,q⟩
 | num wd x ns=>
  have q:Q (BX (if hasS l.pn x=pc then ga "name" else Mh l V wd x ns)) M:=q;have hf:rc.nf wd ns.length:=hf;have key:∀(M1:Mp),qH M M1->if (!(inD (.str x) (l.pn.map D.str)))=Db then(∃Yo,qH Yo M1/\Q (.str "name") Yo)else J6 a [.ref A.b,.str wd,.str x,.tup (ns.map D.int)] M1 λd M'=>∃Yo,qH Yo M'/\Q d Yo:=λM1 t=>by
   rw[tF];refine qU (c:=!(hasS l.pn x)) (λg=>?_) (λg=>?_)
   .rw[dh (by simpa using g)]at q;exact⟨M,t,q⟩
   .have g:hasS l.pn x=Db:=by simpa using g
    rw[g,df Bool.noConfusion]at q;exact⟨A,V,l,wd,x,ns,Z',rd.sub t,rG.mp g,hf,M,t,q⟩
  have one:ns.length=1->∃i,ns=[i]:=List.length_eq_one_iff.mp;have two:ns.length=2->∃i j,ns=[i,j]:=λh=>by
   match ns,h with
   | [i,j],_=>exact⟨i,j,Z'⟩
  rcases id hf with⟨rfl|rfl|rfl|rfl,h⟩|⟨rfl|rfl,h⟩
  .obtain⟨i,rfl⟩:=one h;exact⟨pJ Z',Z',Z',pN rd.bd.at_ (i' Z' (pN i1 ⟨Z',_,⟨Z',Z'⟩,V.p,l,Z',rd.pl,by lia,λp Yw=>i' pS ⟨Z',qP _,key _ (.new Yw)⟩⟩))⟩
  .obtain⟨i,rfl⟩:=one h;exact⟨pJ Z',Z',Z',pN rd.bd.at_ (i' Z' (pN i1 ⟨Z',_,⟨Z',Z'⟩,V.p,l,Z',rd.pl,by lia,λp Yw=>i' pS ⟨Z',qP _,key _ (.new Yw)⟩⟩))⟩
  .obtain⟨i,rfl⟩:=one h;exact⟨pJ Z',Z',Z',pN rd.bd.at_ (i' Z' (pN i1 ⟨Z',_,⟨Z',Z'⟩,V.p,l,Z',rd.pl,by lia,λp Yw=>i' pS ⟨Z',qP _,key _ (.new Yw)⟩⟩))⟩
  .obtain⟨i,rfl⟩:=one h;exact⟨pJ Z',Z',Z',pN rd.bd.at_ (i' Z' (pN i1 ⟨Z',_,⟨Z',Z'⟩,V.p,l,Z',rd.pl,by lia,λp Yw=>i' pS ⟨Z',qP _,key _ (.new Yw)⟩⟩))⟩
  .obtain⟨i,j,rfl⟩:=two h;exact⟨pJ Z',Z',Z',pN rd.bd.at_ (i' Z' (pN i1 ⟨Z',_,⟨Z',Z'⟩,V.p,l,Z',rd.pl,by lia,λp Yw=>i' pS ⟨Z',qP _,key _ (.new Yw)⟩⟩))⟩
  .obtain⟨i,j,rfl⟩:=two h;exact⟨pJ Z',Z',Z',pN rd.bd.at_ (i' Z' (pN i1 ⟨Z',_,⟨Z',Z'⟩,V.p,l,Z',rd.pl,by lia,λp Yw=>i' pS ⟨Z',qP _,key _ (.new Yw)⟩⟩))⟩
def DP(V:qG)(x:Str):Prop:=∀c∈V.calls,¬B4 c x
def Gz{V:qG}(h:vd V x=Fa):DP V x:=by
 unfold vd at h;cases e1:Fp V x with
 | some j=>rw[e1]at h;cases h
 | none=>
  cases e2:KJ V x with
  | some j=>rw[e1,e2]at h;cases h
  | none=>
   intro c hc g;have h1:=jI.mp e1 c hc;have h2:=jI.mp e2 c hc;rcases g with g|g
   .rw[h1]at g;cases g
   .rw[h2]at g;cases g
def tI{c:pQ}(h:c.st="rings"){x:Str}:B4 c x↔x=c.cr:=by unfold B4 pQ.nC pQ.ni pQ.nj;rw[h];simp(decide:=true)
def Em{c:pQ}(h:c.st="waits"){x:Str}:B4 c x↔x=c.cr:=by unfold B4 pQ.nC pQ.ni pQ.nj;rw[h];simp(decide:=true)
def ul{c:pQ}(h:c.st="talks"){x:Str}:B4 c x↔x∈c.ms:=by unfold B4 pQ.nC pQ.ni pQ.nj;rw[h,<-rG];simp(decide:=true)
def Cy{c:pQ}(h:c.st="held"){x:Str}:B4 c x↔x∈c.ms/\c.hd≠ga x:=by unfold B4 pQ.nC pQ.ni;rw[h,<-rG];simp(decide:=true)
def GV{c:pQ}(h:c.st="over"){x:Str}:¬B4 c x:=by unfold B4 pQ.nC pQ.ni pQ.nj;rw[h];simp(decide:=true)
def tL{c:pQ}(h:c.st="rings"){x:Str}:c.hasB x=Db↔x=c.cr\/x∈c.at_:=by unfold pQ.hasB;rw[h,<-rG];simp(decide:=true)
def EH{c:pQ}(h:c.st="waits"){x:Str}:c.hasB x=Db↔x=c.cr:=by unfold pQ.hasB;rw[h];simp(decide:=true)
def tU{c:pQ}(h:c.st="talks"\/c.st="held"){x:Str}:c.hasB x=Db↔x∈c.ms:=by unfold pQ.hasB;rw[<-rG];rcases h with h|h<;>(rw[h];simp(decide:=true))
def HC{c:pQ}(h:c.st="over"){x:Str}:c.hasB x=pc:=by unfold pQ.hasB;rw[h];simp(decide:=true)
def sU{c:pQ}{x:Str}:c.mZ x=Db↔c.st="waits"/\x∈c.at_:=by unfold pQ.mZ;rw[dY,eZ,rG]
theorem Gi{α:Type}(f:α->Bool):∀{l:List α} {i:Nat} {c:α} (c':α),l[i]?=ga c->((l.set i c').filter f).length+(if f c=Db then 1 else 0)=(l.filter f).length+(if f c'=Db then 1 else 0)
 | [],_,_,_,h=>by simp at h
 | x::r,0,c,c',h=>by cases h;rw[List.set_cons_zero,gC,gC];split<;>split<;>simp
 | x::r,i+1,c,c',h=>by
  have ih:=Gi f (l:=r) (i:=i) (c:=c) c' (by simpa using h);rw[lA,gC,gC];split
  .rw[eE,eE];lia
  .exact ih
def AH.set{V V':qG}{o o':Option Nat}{i:Nat}{c c':pQ}(h:AH l V o)(e:V'.calls=V.calls.set i c')(hc:V.calls[i]?=ga c)(ho:∀j,j≠i->(o==ga j)=(o'==ga j))(ok:wK l (o'==ga i) c')(he:∀x,B4 c' x->B4 c x\/DP V x)(hu:∀x,c'.hasB x=Db->c.hasB x=Db\/(vI V x:Int)<xt l x)(hw:∀x,c'.mZ x=Db->c.mZ x=Db\/Bo V x=pc)(nx:uP l V'):AH l V' o':=by
 have si:∀{j:Nat} {d:pQ},V'.calls[j]?=ga d->(j=i/\d=c')\/(j≠i/\V.calls[j]?=ga d):=λ{j d} g=>by rw[e]at g;exact(Fy g).imp (λg=>⟨g.1,g.2.1⟩) id
 have key:∀(j:Nat) cj x,j≠i->V.calls[j]?=ga cj->B4 c' x->B4 cj x->False:=λj cj x hj e1 g1 g2=>by
  rcases he x g1 with z|z
  .exact hj (h.un j i cj c x e1 hc g2 z)
  .exact z cj (rj e1) g2
 have keyw:∀(j:Nat) cj x,j≠i->V.calls[j]?=ga cj->c'.mZ x=Db->cj.mZ x=Db->False:=λj cj x hj e1 g1 g2=>by
  rcases hw x g1 with z|z
  .exact hj (h.wt j i cj c x e1 hc g2 z)
  .unfold Bo at z;exact absurd g2 (by rw[jx.mp z cj (rj e1)|>dQ.mpr];exact Bool.noConfusion)
 refine⟨λj d g=>?_,λm n cm cn x e1 e2 g1 g2=>?_,λx hx=>?_,λm n cm cn x e1 e2 g1 g2=>?_,nx⟩
 .rcases si g with⟨rfl,rfl⟩|⟨hj,g⟩
  .exact ok
  .rw[<-ho j hj];exact h.ok j d g
 .rcases si e1 with⟨rfl,rfl⟩|⟨hm,e1⟩<;>rcases si e2 with⟨rfl,rfl⟩|⟨hn,e2⟩
  .rfl
  .exact(key n cn x hn e2 g1 g2).elim
  .exact(key m cm x hm e1 g2 g1).elim
  .exact h.un m n cm cn x e1 e2 g1 g2
 .have cs:=Gi (λk:pQ=>k.hasB x) c' hc;have hl:=h.ln x hx;unfold vI at hl ⊢;rw[e];by_cases g:c'.hasB x=Db
  .rw[dh g]at cs;rcases hu x g with z|z
   .rw[dh z]at cs;lia
   .unfold vI at z;lia
  .rw[df g]at cs;lia
 .rcases si e1 with⟨rfl,rfl⟩|⟨hm,e1⟩<;>rcases si e2 with⟨rfl,rfl⟩|⟨hn,e2⟩
  .rfl
  .exact(keyw n cn x hn e2 g1 g2).elim
  .exact(keyw m cm x hm e1 g2 g1).elim
  .exact h.wt m n cm cn x e1 e2 g1 g2
def AH.add{V V':qG}{c':pQ}(h:WF l V)(e:V'.calls=V.calls++[c'])(ok:wK l Db c')(he:∀x,B4 c' x->DP V x)(hu:∀x,c'.hasB x=Db->(vI V x:Int)<xt l x)(hw:∀x,c'.mZ x=pc)(nx:uP l V'):AH l V' (ga V.calls.length):=by
 have si:∀{j:Nat} {d:pQ},V'.calls[j]?=ga d->(j=V.calls.length/\d=c')\/(j≠V.calls.length/\V.calls[j]?=ga d):=λ{j d} g=>by
  rw[e]at g;by_cases z:j<V.calls.length
  .rw[e9 z]at g;exact .inr ⟨by lia,g⟩
  .have:=(de.mp g).1;rw[c9,dI]at this;have z:j=V.calls.length:=by lia
   subst z;rw[eY (dw _)]at g;simp only[ib,iO,jA]at g;exact .inl ⟨Z',g.symm⟩
 refine⟨λj d g=>?_,λm n cm cn x e1 e2 g1 g2=>?_,λx hx=>?_,λm n cm cn x e1 e2 g1 g2=>?_,nx⟩
 .rcases si g with⟨rfl,rfl⟩|⟨hj,g⟩
  .rw[fH];exact ok
  .rw[show(ga V.calls.length==ga j)=pc by simpa using dZ hj];exact h.ok j d g
 .rcases si e1 with⟨rfl,rfl⟩|⟨hm,e1⟩<;>rcases si e2 with⟨rfl,rfl⟩|⟨hn,e2⟩
  .rfl
  .exact(he x g1 cn (rj e2) g2).elim
  .exact(he x g2 cm (rj e1) g1).elim
  .exact h.un m n cm cn x e1 e2 g1 g2
 .have hl:=h.ln x hx;unfold vI at hl ⊢;rw[e,iI,c9,gC];split
  .rename_i g;have:=hu x g;unfold vI at this;simp only[ir,dI];lia
  .simp only[ir,dN];lia
 .rcases si e1 with⟨rfl,rfl⟩|⟨hm,e1⟩<;>rcases si e2 with⟨rfl,rfl⟩|⟨hn,e2⟩
  .rfl
  .rw[hw x]at g1;cases g1
  .rw[hw x]at g2;cases g2
  .exact h.wt m n cm cn x e1 e2 g1 g2
noncomputable def pQ.core(c:pQ):pQ:={c with way:=[],si:=0}
def AC(V V':qG):Prop:=V'.calls.map pQ.core=V.calls.map pQ.core
def AC.at_{V V':qG}(h:AC V V'){i:Nat}{c':pQ}(e:V'.calls[i]?=ga c'):∃c,V.calls[i]?=ga c/\c'.core=c.core:=by
 have:=eR (·[i]?) h;simp only[dG,e]at this;cases e':V.calls[i]? with
 | none=>rw[e']at this;cases this
 | some c=>rw[e']at this;exact⟨c,Z',dq this⟩
def AC.used{V V':qG}(h:AC V V')(x:Str):vI V' x=vI V x:=by
 have key:∀cs:List pQ,(cs.filter (·.hasB x)).length=((cs.map pQ.core).filter (·.hasB x)).length:=λcs=>by rw[gW,cX];rfl
 unfold vI;rw[key,h,<-key]
def AC.wf{V V':qG}{o:Option Nat}(h:AC V V')(wf:AH l V o)(hw:∀(i:Nat) c',V'.calls[i]?=ga c'->c'.way≠[]/\∀z∈c'.way,z∈l.nm)(nx:uP l V'):AH l V' o:=by
 refine⟨λi c' e=>?_,λi j ci cj x e1 e2 g1 g2=>?_,λx hx=>by rw[h.used];exact wf.ln x hx,λi j ci cj x e1 e2 g1 g2=>?_,nx⟩
 .obtain⟨c,ec,ee⟩:=h.at_ e;have k:=wf.ok i c ec;have k1:c'.at_=c.at_:=show c'.core.at_=c.core.at_ by rw[ee]
  have k2:c'.ms=c.ms:=show c'.core.ms=c.core.ms by rw[ee]
  have k3:c'.cr=c.cr:=show c'.core.cr=c.core.cr by rw[ee]
  exact⟨by show R9 _ c'.core;rw[ee];exact k.sh,by rw[k3];exact k.cr,by rw[k1];exact k.at_,by rw[k2];exact k.ms,by rw[k1];exact k.an,by rw[k2];exact k.mn,by rw[k1,k3];exact k.ca,hw i c' e⟩
 .obtain⟨di,a1,a2⟩:=h.at_ e1;obtain⟨dj,b1,b2⟩:=h.at_ e2;exact wf.un i j di dj x a1 b1 (by show B4 di.core x;rw[<-a2];exact g1) (by show B4 dj.core x;rw[<-b2];exact g2)
 .obtain⟨di,a1,a2⟩:=h.at_ e1;obtain⟨dj,b1,b2⟩:=h.at_ e2;exact wf.wt i j di dj x a1 b1 (by show di.core.mZ x=Db;rw[<-a2];exact g1) (by show dj.core.mZ x=Db;rw[<-b2];exact g2)
def ux.core{V V':qG}(h:ux V V'):AC V V':=by have:=eR (List.map pQ.core) h;rw[eA,eA]at this;exact this
def KZ(V:qG):AC V (qD V .turn):=by show(V.calls.map pQ.tick).map pQ.core=V.calls.map pQ.core;rw[eA];refine gy λc _=>?_;show(pQ.tick c).core=c.core;unfold pQ.tick;split<;>rfl
def Fh{V:qG}(wf:WF l V):WF l (qD V .turn):=(KZ V).wf wf (λi c' e=>by
 have e:(V.calls.map pQ.tick)[i]?=ga c':=e;rw[dG]at e;cases q:V.calls[i]? with
 | none=>rw[q]at e;cases e
 | some c=>
  rw[q]at e;have e:c.tick=c':=dq e;have hw:c.tick.way=c.way:=by unfold pQ.tick;split<;>rfl
  rw[<-e,hw];exact(wf.ok i c q).wy) wf.nx
def Vz{V:qG}{b:Bool}{i:Nat}(wf:WF l V):WF l (qD V (.sw b i)):=⟨wf.ok,wf.un,wf.ln,wf.wt,wf.nx⟩
def F1{V:qG}{o:Option Nat}{i:Nat}{z:Str}{ns:T0 Nat}(wf:AH l V o):AH l (qD V (.asks i z ns)) o:=⟨wf.ok,wf.un,wf.ln,wf.wt,wf.nx⟩
def IX{V:qG}{o:Option Nat}{v:sS}(wf:AH l V o)(hz:v.g∈l.nm):AH l (qD V (.leg v)) o:=(AB V v).core.wf wf (λi c' e=>by
 have e:(V.calls.modify v.i (·.go v.g))[i]?=ga c':=e;rw[jh]at e;cases q:V.calls[i]? with
 | none=>rw[q]at e;cases e
 | some c=>
  rw[q]at e;have k:=(wf.ok i c q).wy;have e:(if v.i=i then c.go v.g else c)=c':=dq e;by_cases g:v.i=i
  .rw[dh g]at e;rw[<-e];refine⟨by show c.way++[v.g]≠[];simp,λz hz'=>?_⟩;rcases dS.mp (show z∈c.way++[v.g]from hz')with y|y
   .exact k.2 z y
   .rw[dB.mp y];exact hz
  .rw[df g]at e;rw[<-show c=c' from e];exact k) wf.nx
theorem DC{o:Option Nat}(i:Nat):∀(st:tV) (q:Option Str) {V:qG},AH l V o->(∀s∈st,s.1∈l.nm)->AH l (qY V (sv i q st)) o
 | [],_,V,wf,_=>wf
 | (y,gs)::r,Fa,V,wf,h=>DC i r (ga y) (F1 wf) λs hs=>h s (dD _ hs)
 | (y,gs)::r,ga u,V,wf,h=>DC i r (ga y) (F1 (IX wf (h _ dH))) λs hs=>h s (dD _ hs)
def rY{V:qG}{i:Nat}{c:pQ}{f:pQ->pQ}(h:V.calls[i]?=ga c):(yx V i f).calls=V.calls.set i (f c):=by unfold yx;rw[uq h]
def B'{i:Nat}:∀j,j≠i->((ga i:Option Nat)==ga j)=((Fa:Option Nat)==ga j):=λj hj=>by rw[show((ga i:Option Nat)==ga j)=pc by simpa using dZ hj];rfl
def Xd{V:qG}{i:Nat}{c:pQ}(wf:AH l V (ga i))(hc:V.calls[i]?=ga c):c.st="rings"/\c.ms=[]/\c.hd=Fa/\c.wd=Fa/\c.at_=[]:=by
 have sh:=(wf.ok i c hc).sh;rw[fH]at sh;rcases sh with g|g
 .exact⟨g.1,g.2.1,g.2.2.1,g.2.2.2.1,g.2.2.2.2.1 Z'⟩
 .cases g.1
def Pz{c:pQ}{o:Bool}{w:Str}(k:wK l o c)(hw:w∈Mn):wK l pc (c.over w):=⟨.inr ⟨Z',.inr (.inr (.inr ⟨Z',Z',Z',Z',w,hw,Z'⟩))⟩,k.cr,(λx hx=>by cases hx),(λx hx=>by cases hx),eM,eM,(λhx=>by cases hx),k.wy⟩
def xK{V V':qG}{o:Option Nat}{i:Nat}{c:pQ}{w:Str}(wf:AH l V o)(hc:V.calls[i]?=ga c)(ho:o=Fa\/o=ga i)(hw:w∈Mn)(e:V'.calls=V.calls.set i (c.over w))(nx:uP l V'):WF l V':=
 wf.set e hc (λj hj=>by rcases ho with rfl|rfl;rfl;exact B' j hj) (Pz (wf.ok i c hc) hw) (λx g=>(GV Z' g).elim) (λx g=>by rw[HC (c:=c.over w) Z']at g;cases g) (λx g=>by have:=(sU.mp g).1;exact absurd this (show("over":Str)≠"waits" by decide)) nx
def IF{l:pV}{V:qG}{c z:Str}(h:(l.mS z).Nodup):(yy l V c z).Nodup:=by
 unfold yy;split
 .cases(vG (l.mS z) (AE V z)).filter λx=>hasS (uS l V c z) x with
  | nil=>exact eM
  | cons y r=>exact dW.mpr ⟨dX,eM⟩
 .exact h.sublist gc
def Mj(ps:T0 (Str×Int))(z:Str)(n:Int)(y:Str):(Dh ps z n).find? (λp=>decide (p.1=y))=if y=z then ga (z,n)else ps.find? λp=>decide (p.1=y):=by
 unfold Dh;by_cases h:ps.any (λp=>decide (p.1=z))=Db
 .rw[dh h];induction ps with
  | nil=>cases h
  | cons p r ih=>
   rw[d6,fM,fM];by_cases hp:p.1=z
   .rw[dh hp];by_cases hy:y=z
    .rw[dh hy,hy];simp[hp]
    .rw[df hy];have n1:decide (p.1=y)=pc:=eQ (λq=>hy (q.symm.trans hp));simp only[n1];by_cases hr:r.any (λp=>decide (p.1=z))=Db
     .have:=ih hr;rw[df hy]at this;exact this
     .have hr:∀q∈r,¬q.1=z:=λq hq g=>hr (gB.mpr ⟨q,hq,d4 g⟩);rw[show r.map (λp=>if p.1=z then(p.1,n)else p)=r from(gy λq hq=>df (hr q hq)).trans (jp _)]
   .rw[df hp];have hr:r.any (λp=>decide (p.1=z))=Db:=by
     rw[gg,gU]at h;rcases h with g|g
     .exact absurd (fQ g) hp
     .exact g
    have ih:=ih hr;by_cases hy:y=z
    .rw[dh hy]at ih ⊢;have n1:decide (p.1=y)=pc:=eQ (λq=>hp (q.trans hy));simp only[n1];exact ih
    .rw[df hy]at ih ⊢;cases decide (p.1=y)with
     | true=>rfl
     | false=>exact ih
 .rw[df h,List.find?_append];have hr:∀q∈ps,¬q.1=z:=λq hq g=>h (gB.mpr ⟨q,hq,d4 g⟩);by_cases hy:y=z
  .subst hy;rw[dh Z',gX.mpr λq hq=>by simpa using hr q hq,Option.none_or];simp
  .rw[df hy,fM,eQ (λq:z=y=>hy q.symm)];simp
def My{V:qG}{z:Str}{n:Int}(h:uP l V)(h0:0<=n)(h1:n<=((l.mS z).length:Int)):uP l (qD V (.next z n)):=λy hy ht=>by
 show ∃v,(Dh V.ps z n).find? _=ga v/\_;rw[Mj];by_cases e:y=z
 .subst e;rw[dh Z'];exact⟨_,Z',h0,h1⟩
 .rw[df e];exact h y hy ht
def Gs{V:qG}(h:uE l V x=Db):(vI V x:Int)<xt l x:=fQ h
def LA{V V':qG}{o:Option Nat}{i:Nat}{c:pQ}{w x:Str}(wf:AH l V o)(hc:V.calls[i]?=ga c)(e:V'.calls=V.calls.set i (c.over w))(hx:B4 c x):DP V' x:=λd hd g=>by
 rw[e]at hd;obtain⟨j,hj,ed⟩:=gQ hd;have ej:(V.calls.set i (c.over w))[j]?=ga d:=by rw[cZ hj,ed]
 rcases Fy ej with⟨_,rfl,_⟩|⟨YI,ej⟩
 .exact GV Z' g
 .exact YI (wf.un j i d c x ej hc g hx)
def Lm{V V':qG}{i:Nat}{c:pQ}{w x:Str}(hc:V.calls[i]?=ga c)(e:V'.calls=V.calls.set i (c.over w))(hx:c.hasB x=Db):vI V' x+1=vI V x:=by
 have:=Gi (λk:pQ=>k.hasB x) (c.over w) hc;unfold vI;rw[e];simp only[hx,jm,HC (c:=c.over w) Z']at this
 simpa using this
def Hl{V V':qG}{o:Option Nat}{i j:Nat}{c d:pQ}{ms:QQQ}(wf:AH l V o)(ho:o=Fa\/o=ga i)(hc:V.calls[i]?=ga c)(hd:V.calls[j]?=ga d)(Zj:i≠j)(e:V'.calls=(V.calls.set i (c.over "merged")).set j (d.mem ms))(nx:uP l V')(dt:d.st="talks")(m1:ms.Nodup)(m2:ms.length=2\/ms.length=3)(m3:∀x∈ms,x∈d.ms\/(B4 c x/\c.hasB x=Db))(m4:∀x∈ms,x∈l.pn):WF l V':=by
 have e1:(yx V i (·.over "merged")).calls=V.calls.set i (c.over "merged"):=rY hc;have w1:WF l (yx V i (·.over "merged")):=xK wf hc ho (by decide) e1 wf.nx;have hd1:(yx V i (·.over "merged")).calls[j]?=ga d:=by rw[e1,fE Zj];exact hd
 have kd:=w1.ok j d hd1;have kd':d.hd=Fa/\d.wd=Fa/\d.at_=[]:=by
  rcases kd.sh with g|⟨_,g|g|⟨_,g⟩|g⟩
  .rw[dt]at g;exact absurd g.1 (by decide)
  .rw[dt]at g;exact absurd g.1 (by decide)
  .exact⟨g.2.2.1,g.2.2.2.1,g.2.2.2.2⟩
  .rw[dt]at g;exact absurd g.1 (by decide)
  .rw[dt]at g;exact absurd g.1 (by decide)
 refine w1.set (c':=d.mem ms) (by rw[e,e1]) hd1 (λ_ _=>rfl) ⟨.inr ⟨Z',.inr (.inl ⟨dt,m2,kd'.1,kd'.2.1,kd'.2.2⟩)⟩,kd.cr,kd.at_,m4,kd.an,m1,kd.ca,kd.wy⟩ (λx g=>?_) (λx g=>?_) (λx g=>?_) nx
 .have g:=(ul (c:=d.mem ms) dt).mp g;rcases m3 x g with y|y
  .exact .inl ((ul dt).mpr y)
  .exact .inr (LA wf hc e1 y.1)
 .have g:=(tU (c:=d.mem ms) (.inl dt)).mp g;rcases m3 x g with y|y
  .exact .inl ((tU (.inl dt)).mpr y)
  .have:=Lm hc e1 y.2;have:=wf.ln x (m4 x g);exact .inr (by lia)
 .have:=(sU.mp g).1;rw[show(d.mem ms).st="talks" from dt]at this;exact absurd this (by decide)
def Tz{V V1:qG}{i:Nat}{c:pQ}{e:wO}(ok:rb l)(wf:AH l V1 (ga i))(same:AC V V1)(hc:V1.calls[i]?=ga c)(he:G2 l V c.cr e):WF l (qY V1 (tO l V1 i e)):=by
 obtain⟨p1,p2,p3,p4,p5⟩:=Xd wf hc;have k:=wf.ok i c hc;have hi:=(de.mp hc).1;cases e with
 | rings z ps=>
  obtain⟨hz,YI,rfl⟩:=he;obtain⟨⟨q1,q2,q3,q4⟩,_⟩:=ok.of hz;obtain⟨r1,r2⟩:=Hs (l:=l) (V:=V) (c:=c.cr) (z:=z);generalize hps:yy l V c.cr z=ps at YI r1 r2;have Yn:∀V2:qG,V2.calls=V1.calls->uP l V2->WF l (qD V2 (.rings i ps)):=λV2 e2 nx=>by
   have e3:(qD V2 (.rings i ps)).calls=V1.calls.set i (c.ring ps):=by show(yx (rm V2 _) i _).calls=_;rw[rY (c:=c) (by show V2.calls[i]?=_;rw[e2];exact hc)];show V2.calls.set i _=_;rw[e2]
   have free:∀x∈ps,uE l V x=Db/\x≠c.cr:=λx hx=>by have h:=(fL.mp (r1 x hx).1).2;simp only[dY,gJ]at h;exact⟨h.2,by simpa using h.1⟩
   refine wf.set e3 hc B' ⟨.inl ⟨Z',p2,p3,p4,(λh=>by cases h),λ_=>YI⟩,k.cr,λx hx=>q4 x (r1 x hx).2,k.ms,by rw[<-hps];exact IF q3,k.mn,λhx=>(free _ hx).2 Z',k.wy⟩ (λx g=>?_) (λx g=>?_) (λx g=>?_) nx
   .exact .inl ((tI p1).mpr ((tI (c:=c.ring ps) Z').mp g))
   .rcases(tL (c:=c.ring ps) Z').mp g with y|y
    .exact .inl ((tL p1).mpr (.inl y))
    .refine .inr ?_;rw[same.used];exact Gs (free x y).1
   .exact absurd (sU.mp g).1 (show("rings":Str)≠"waits" by decide)
  show WF l (qY V1 ((if (l.m8 z=="turns")=Db then _ else _)++[.rings i ps]));rw[su];by_cases ht:(l.m8 z=="turns")=Db
  .rw[dh ht];have lp:0<(l.mS z).length:=fB.mpr q1;refine Yn _ Z' (My wf.nx (eU _ (by lia)) (Int.le_of_lt (eP _ (by lia))))
  .rw[df ht];exact Yn V1 Z' wf.nx
 | waits z=>
  obtain⟨hz,YI,hw⟩:=he;have e3:(qD V1 (.waits i z)).calls=V1.calls.set i (c.wait z):=rY (V:=rm V1 _) hc;have hw1:Bo V1 z=pc:=by
   unfold Bo at hw ⊢;have key:∀cs:List pQ,cs.any (·.mZ z)=(cs.map pQ.core).any (·.mZ z):=λcs=>by rw[iG];rfl
   rw[key,same,<-key];exact hw
  refine wf.set e3 hc B' ⟨.inr ⟨Z',.inl ⟨Z',p2,p3,p4,Z'⟩⟩,k.cr,λx hx=>by rw[dB.mp hx];exact hz,k.ms,dW.mpr ⟨dX,eM⟩,k.mn,λhx=>YI (dB.mp hx).symm,k.wy⟩ (λx g=>?_) (λx g=>?_) (λx g=>?_) wf.nx
  .exact .inl ((tI p1).mpr ((Em (c:=c.wait z) Z').mp g))
  .exact .inl ((tL p1).mpr (.inl ((EH (c:=c.wait z) Z').mp g)))
  .have:=(sU.mp g).2;rw[dB.mp this];exact .inr hw1
 | breaks z=>
  obtain⟨x,rfl,hb⟩:=he;obtain⟨j,d0,t1,t2,t3,t4,t5,t6⟩:=Hw hb;have ht:wA V1 z=ga j:=by
   rw[<-t1];unfold wA;have key:∀cs:List pQ,cs.findIdx? (·.nj z)=(cs.map pQ.core).findIdx? (·.nj z):=λcs=>by rw[hU];rfl
   rw[key,same,<-key]
  obtain⟨d,ed,ec⟩:∃d,V1.calls[j]?=ga d/\d.core=d0.core:=by
   have:=eR (·[j]?) same;simp only[dG,t2]at this;cases q:V1.calls[j]? with
   | none=>rw[q]at this;cases this
   | some d=>rw[q]at this;exact⟨d,Z',dq this⟩
  have ds:d.st="talks":=by rw[show d.st=d0.st from show d.core.st=d0.core.st by rw[ec]];exact t3
  have dm:d.ms=d0.ms:=show d.core.ms=d0.core.ms by rw[ec]
  have Zj:i≠j:=λy=>by subst y;rw[hc]at ed;cases ed;rw[p1]at ds;exact absurd ds (by decide)
  have hee:tO l V1 i (.breaks z)=[.merge i j (d.ms++[c.cr])]:=by unfold tO;dsimp only;rw[ht,hc];dsimp only;rw[ed];rfl
  rw[hee];have ncr:c.cr∉d.ms:=λy=>Zj (wf.un i j c d c.cr hc ed ((tI p1).mpr Z') ((ul ds).mpr y));have kd:=wf.ok j d ed;refine Hl (V':=qD V1 (.merge i j (d.ms++[c.cr]))) (ms:=d.ms++[c.cr]) wf (.inr Z') hc ed Zj ?_ wf.nx ds ?_ (.inr ?_) (λx hx=>?_) (λx hx=>?_)
  .show(V1.calls.modify i _).modify j _=_;rw[uq hc,uq (show(V1.calls.set i _)[j]?=ga d by rw[fE Zj];exact ed)]
  .refine gu.mpr ⟨kd.mn,dW.mpr ⟨dX,eM⟩,λx hx y hy q=>ncr ?_⟩;rw[dB.mp hy]at q;rw[<-q];exact hx
  .rw[c9,dm,t5];rfl
  .rcases dS.mp hx with y|y
   .exact .inl y
   .rw[dB.mp y];exact .inr ⟨(tI p1).mpr Z',(tL p1).mpr (.inl Z')⟩
  .rcases dS.mp hx with y|y
   .exact kd.ms x y
   .rw[dB.mp y];exact k.cr
 | engaged z=>exact xK (V':=qD V1 (.over i "engaged")) wf hc (.inr Z') (by decide) (rY (V:=rm V1 _) hc) wf.nx
 | barred=>exact xK (V':=qD V1 (.over i "barred")) wf hc (.inr Z') (by decide) (rY (V:=rm V1 _) hc) wf.nx
 | ring ns=>exact xK (V':=qD V1 (.over i "ring")) wf hc (.inr Z') (by decide) (rY (V:=rm V1 _) hc) wf.nx
def R0{V:qG}{i:Nat}{k:pQ}(ok:rb l)(wf:AH l V (ga i))(hk:V.calls[i]?=ga k):WF l (qY V (vZ l V i)):=by
 have Zq:=wf.ok i k hk;unfold vZ;rw[hk];dsimp only[Option.elim];obtain⟨z,hz⟩:∃z,k.way.getLast?=ga z:=by
  cases e:k.way.getLast? with
  | none=>exact absurd (gL.mp e) Zq.wy.1
  | some z=>exact⟨z,Z'⟩
 rw[show k.way.getLastD Str.empty=z by rw[iw,hz];rfl];have ro:yE l V k.cr (l.nm.length+1) [] (vq l V k.cr z k.way.dropLast):=Ax ok _ _ _ _ (Zq.wy.2 z (jf hz)) λx hx=>Zq.wy.2 x (jg _ hx);generalize vq l V k.cr z k.way.dropLast=R at ro;obtain⟨e,st⟩:=R;have snm:∀s∈st,s.1∈l.nm:=λs hs=>(ro.nm s hs).elim (λh=>by cases h) id;have w1:=DC i st Fa wf snm;have YV:=wb i st Fa V;rw[su,su];dsimp only;have Yn:∀V1:qG,AH l V1 (ga i)->ux V V1->WF l (qY V1 (tO l V i e)):=λV1 w s=>by
  rw[<-s.ends];obtain⟨c',e1,e2⟩:=s.at_ hk;have hcr:c'.cr=k.cr:=show c'.bare.cr=k.bare.cr by rw[e2]
  exact Tz ok w s.core e1 (by rw[hcr];exact ro.e)
 cases e with
 | ring ns=>
  obtain⟨x,ns',rfl⟩:=gj (show ns≠[]from ro.e);cases hl:st.getLast? with
  | none=>rw[show uI i st (.ring (x::ns'))=[]by unfold uI;dsimp only;rw[hl];rfl];exact Yn _ w1 YV
  | some s0=>rw[show uI i st (.ring (x::ns'))=[.leg ⟨i,s0.1,x,s0.1⟩]by unfold uI;dsimp only;rw[hl];rfl];exact Yn _ (IX (v:=⟨i,s0.1,x,s0.1⟩) w1 (ro.wy _ Z' x dH)) (YV.trans (AB _ _))
 | rings _ _=>exact Yn _ w1 YV
 | waits _=>exact Yn _ w1 YV
 | breaks _=>exact Yn _ w1 YV
 | engaged _=>exact Yn _ w1 YV
 | barred=>exact Yn _ w1 YV
def Ja{V:qG}{y z:Str}(wf:WF l V)(hy:y∈l.pn)(hz:z∈l.nm)(hi:DP V y)(hf:uE l V y=Db):AH l (qY V [.new V.calls.length y,.leg ⟨V.calls.length,y,z,y⟩]) (ga V.calls.length):=by
 have e:(qY V [.new V.calls.length y,.leg ⟨V.calls.length,y,z,y⟩]).calls=V.calls++[(Ae y).go z]:=by show(V.calls++[Ae y]).modify V.calls.length _=_;rw[uq (c:=Ae y) (by rw[eY (dw _),ib];rfl),kt _ _ (dw _),ib];rfl
 refine wf.add e ⟨.inl ⟨Z',Z',Z',Z',λ_=>rfl,(λh=>by cases h)⟩,hy,(λx h=>by cases h),(λx h=>by cases h),eM,eM,(λh=>by cases h),fA _ _,λx h=>by rw[dB.mp h];exact hz⟩ (λx h=>?_) (λx h=>?_) (λx=>?_) wf.nx
 .rw[(tI (c:=(Ae y).go z) Z').mp h];exact hi
 .rcases(tL (c:=(Ae y).go z) Z').mp h with g|g
  .rw[g];exact Gs hf
  .cases g
 .cases q:((Ae y).go z).mZ x with
  | false=>rfl
  | true=>exact absurd (sU.mp q).1 (show("rings":Str)≠"waits" by decide)
def NK{V:qG}{y z:Str}:∃k,(qY V [.new V.calls.length y,.leg ⟨V.calls.length,y,z,y⟩]).calls[V.calls.length]?=ga k:=by
 have:V.calls.length<(qY V [.new V.calls.length y,.leg ⟨V.calls.length,y,z,y⟩]).calls.length:=by show V.calls.length<((V.calls++[Ae y]).modify _ _).length;rw[gm,c9];exact fG _
 exact⟨_,cZ this⟩
def FX{V:qG}{i:Nat}{c:pQ}{x y:Str}{fs:T0 Nat}(wf:WF l V)(hc:V.calls[i]?=ga c)(hs:c.st="rings")(hy:y∈l.nm):AH l (qY V [.asks i x fs,.quiet i,.leg ⟨i,x,y,x⟩]) (ga i):=by
 refine IX (v:=⟨i,x,y,x⟩) ?_ hy;have k:=wf.ok i c hc;have w1:WF l (qD V (.asks i x fs)):=F1 wf;have sh:c.ms=[]/\c.hd=Fa/\c.wd=Fa:=by
  rcases k.sh with g|⟨_,g|g|⟨_,g⟩|g⟩
  .exact⟨g.2.1,g.2.2.1,g.2.2.2.1⟩
  all_goals(rw[hs]at g;exact absurd g.1 (by decide))
 refine w1.set (i:=i) (c:=c) (c':=c.nW) (rY (V:=rm (qD V (.asks i x fs)) _) hc) hc (λj hj=>(B' j hj).symm) ?_ (λx g=>.inl ?_) (λx g=>.inl ?_) (λx g=>?_) wf.nx
 .rw[fH];exact⟨.inl ⟨hs,sh.1,sh.2.1,sh.2.2,λ_=>rfl,(λh=>by cases h)⟩,k.cr,(λx h=>by cases h),k.ms,eM,k.mn,(λh=>by cases h),k.wy⟩
 .exact(tI hs).mpr ((tI (c:=c.nW) hs).mp g)
 .rcases(tL (c:=c.nW) hs).mp g with y|y
  .exact(tL hs).mpr (.inl y)
  .cases y
 .have:=(sU.mp g).1;rw[show c.nW.st="rings" from hs]at this;exact absurd this (by decide)
inductive WB(l:pV)(V:qG)(i:Nat):List Nat->Prop
 | no:WB l V i []
 | on (c:pQ) (k:Nat) (r:List Nat) (b:Bool) (x y:Str) (n:Int):V.calls[i]?=ga c->c.st="rings"->l.mT[k]?=ga (b,.silent x y n)->c.way.getLast?=ga x->y∈l.nm->WB l V i (k::r)
def Iu{V:qG}(ok:rb l):WB l V i (yS l V i):=by
 unfold yS;cases e:V.calls[i]? with
 | none=>exact .no
 | some c=>
  dsimp only[Option.elim];by_cases hs:(c.st=="rings")=Db
  .rw[dh hs];cases q:Iy l V (HH c)with
   | nil=>exact .no
   | cons k r=>
    obtain⟨⟨b,w⟩,e1,e2⟩:=FD (i:=k) (by rw[q];exact dH);cases w with
    | silent x y n=>unfold HH at e2;rw[dY,eZ]at e2;exact .on c k r b x y n e (dL hs) e1 e2.1 (CH ok (ft e1) (z:=Str.empty) Z')
    | _=>cases e2
  .rw[df hs];exact .no
def AO{l:pV}{V:qG}{i k:Nat}{r:T0 Nat}{b:Bool}{x y:Str}{n:Int}(h:l.mT[k]?=ga (b,.silent x y n)):tQ l V i (k::r)=[.asks i x (k::r),.quiet i,.leg ⟨i,x,y,x⟩]++vZ l (qY V [.asks i x (k::r),.quiet i,.leg ⟨i,x,y,x⟩]) i:=by unfold tQ;simp only[List.head?_cons,mj,h]
def FK{V:qG}{i:Nat}{c:pQ}{x y:Str}{fs:T0 Nat}(h:V.calls[i]?=ga c):(qY V [.asks i x fs,.quiet i,.leg ⟨i,x,y,x⟩]).calls[i]?=ga (c.nW.go y):=by show((V.calls.modify i pQ.nW).modify i _)[i]?=_;rw[jh,jh,h];simp
def J4{V:qG}(ok:rb l)(wf:WF l V):WF l (qY V (tQ l V i (yS l V i))):=by
 have d:=Iu (V:=V) (i:=i) ok;generalize yS l V i=fs at d;cases d with
 | no=>exact wf
 | on c k r b x y n hc hs hk hw hy=>rw[AO hk,su];exact R0 ok (FX wf hc hs hy) (FK hc)
theorem F4(ok:rb l):∀(is:T0 Nat) {V:qG},WF l V->WF l (qY V (rX l is V))
 | [],_,wf=>wf
 | i::r,V,wf=>by unfold rX;rw[su];exact F4 ok r (J4 ok wf)
theorem EF(l:pV)(i:Nat):∀(is:T0 Nat) (V:qG),rX l (is++[i]) V=rX l is V++tQ l (qY V (rX l is V)) i (yS l (qY V (rX l is V)) i)
 | [],V=>by show tQ l V i _++[]=[]++_;rw[eN];rfl
 | j::r,V=>by show tQ l V j _++rX l (r++[i]) _=(tQ l V j _++rX l r _)++_;rw[EF l i r,fm,show rX l (j::r) V=tQ l V j (yS l V j)++rX l r (qY V (tQ l V j (yS l V j)))from Z',su]
def uF{x y:Str}:y∈so ss x↔y∈ss/\y≠x:=by unfold so;rw[fL,gJ,gx]
theorem yw{x:Str}:∀{ss:QQQ},ss.Nodup->x∈ss->(so ss x).length+1=ss.length
 | [],_,h=>by cases h
 | y::r,nd,h=>by
  have nd:=dW.mp nd;unfold so;rw[gC];by_cases e:y=x
  .subst e;rw[show(!(y==y))=pc by simp,df (by decide),kQ.mpr λz hz=>by
    have:z≠y:=λq=>nd.1 (q ▸ hz)
    simpa using this]
   rfl
  .have h:x∈r:=by
    rcases dz.mp h with q|q
    .exact absurd q.symm e
    .exact q
   rw[dh (by simpa using e)];have:=yw nd.2 h;unfold so at this;rw[eE,eE,this]
def Qc{V:qG}{i:Nat}{c:pQ}{x:Str}(wf:WF l V)(hc:V.calls[i]?=ga c)(hl:c.nM x=Db):WF l (qY V (xI V x i)):=by
 have k:=wf.ok i c hc;unfold xI;rw[hc];dsimp only[Option.elim];by_cases h1:c.ni x=Db
 .rw[dh h1];exact xK (V':=qD V (.over i "left")) wf hc (.inl Z') (by decide) (rY (V:=rm V _) hc) wf.nx
 .rw[df h1];have e1:(qD V (.leaves i x)).calls=V.calls.set i (c.drop x):=rY (V:=rm V _) hc;by_cases h2:hasS c.at_ x=Db
  .rw[dh h2];by_cases h3:so c.at_ x=[]
   .rw[dh h3];refine xK (V':=qD (qD V (.leaves i x)) (.over i "refused")) wf hc (.inl Z') (by decide) (w:="refused") ?_ wf.nx;have h4:(qD V (.leaves i x)).calls[i]?=ga (c.drop x):=by rw[e1,fF (de.mp hc).1]
    show(yx (rm (qD V (.leaves i x)) _) i _).calls=_;rw[rY (V:=rm (qD V (.leaves i x)) _) h4];show(qD V (.leaves i x)).calls.set i _=_;rw[e1,jP];rfl
   .rw[df h3];have hs:c.st="rings"/\c.ms=[]/\c.hd=Fa/\c.wd=Fa:=by
     rcases k.sh with g|⟨_,g|g|⟨_,g⟩|g⟩
     .exact⟨g.1,g.2.1,g.2.2.1,g.2.2.2.1⟩
     .exfalso;have:=yw k.an (rG.mp h2);rw[g.2.2.2.2]at this;exact h3 (gw.mp (by lia))
     .rw[g.2.2.2.2]at h2;cases h2
     .rw[g.2.2.2.2.2]at h2;cases h2
     .rw[g.2.2.2.1]at h2;cases h2
    refine wf.set (V':=qD V (.leaves i x)) (c':=c.drop x) e1 hc (λ_ _=>rfl) ⟨.inl ⟨hs.1,by show so c.ms x=[];rw[hs.2.1];rfl,hs.2.2.1,hs.2.2.2,(λh=>by cases h),λ_=>h3⟩,k.cr,λy hy=>k.at_ y (uF.mp hy).1,λy hy=>k.ms y (uF.mp hy).1,k.an.sublist gc,k.mn.sublist gc,λhy=>k.ca (uF.mp hy).1,k.wy⟩ (λy g=>?_) (λy g=>?_) (λy g=>?_) wf.nx
    .exact .inl ((tI hs.1).mpr ((tI (c:=c.drop x) hs.1).mp g))
    .refine .inl ((tL hs.1).mpr (((tL (c:=c.drop x) hs.1).mp g).imp id λh=>(uF.mp h).1))
    .have:=(sU.mp g).1;rw[show(c.drop x).st="rings" from hs.1]at this;exact absurd this (by decide)
  .rw[df h2];by_cases h3:2<c.ms.length
   .rw[dh h3];have hx:x∈c.ms:=by unfold pQ.nM at hl;rw[dQ.mpr h1,dQ.mpr h2,fO,fO]at hl;exact rG.mp hl
    have hs:c.st="talks"/\c.ms.length=3/\c.hd=Fa/\c.wd=Fa/\c.at_=[]:=by
     rcases k.sh with g|⟨_,g|g|⟨_,g⟩|g⟩
     .rw[g.2.1]at h3;cases h3
     .rw[g.2.1]at h3;cases h3
     .exact⟨g.1,g.2.1.elim (λq=>by lia) id,g.2.2⟩
     .omega
     .rw[g.2.1]at h3;cases h3
    have dl:=yw k.mn hx;refine wf.set (V':=qD V (.leaves i x)) (c':=c.drop x) e1 hc (λ_ _=>rfl) ⟨.inr ⟨Z',.inr (.inl ⟨hs.1,.inl (by show(so c.ms x).length=2;lia),hs.2.2.1,hs.2.2.2.1,by show so c.at_ x=[];rw[hs.2.2.2.2];rfl⟩)⟩,k.cr,λy hy=>k.at_ y (uF.mp hy).1,λy hy=>k.ms y (uF.mp hy).1,k.an.sublist gc,k.mn.sublist gc,λhy=>k.ca (uF.mp hy).1,k.wy⟩ (λy g=>?_) (λy g=>?_) (λy g=>?_) wf.nx
    .exact .inl ((ul hs.1).mpr (uF.mp ((ul (c:=c.drop x) hs.1).mp g)).1)
    .exact .inl ((tU (.inl hs.1)).mpr (uF.mp ((tU (c:=c.drop x) (.inl hs.1)).mp g)).1)
    .have:=(sU.mp g).1;rw[show(c.drop x).st="talks" from hs.1]at this;exact absurd this (by decide)
   .rw[df h3];exact xK (V':=qD V (.over i "done")) wf hc (.inl Z') (by decide) (rY (V:=rm V _) hc) wf.nx
def K3{V:qG}{i:Nat}{c:pQ}(wf:WF l V)(hc:V.calls[i]?=ga c)(hx:hasS c.at_ x=Db)(hi:DP V x)(hf:c.mZ x=Db->uE l V x=Db):WF l (qD V (.talks i [c.cr,x])):=by
 have k:=wf.ok i c hc;have hx:=rG.mp hx;have YI:c.cr≠x:=λq=>k.ca (q ▸ hx);have hs:(c.st="rings"\/c.st="waits")/\c.wd=Fa:=by
  rcases k.sh with g|⟨_,g|g|⟨_,g⟩|g⟩
  .exact⟨.inl g.1,g.2.2.2.1⟩
  .exact⟨.inr g.1,g.2.2.2.1⟩
  .rw[g.2.2.2.2]at hx;cases hx
  .rw[g.2.2.2.2.2]at hx;cases hx
  .rw[g.2.2.2.1]at hx;cases hx
 have ec:B4 c c.cr/\c.hasB c.cr=Db:=by
  rcases hs.1 with g|g
  .exact⟨(tI g).mpr Z',(tL g).mpr (.inl Z')⟩
  .exact⟨(Em g).mpr Z',(EH g).mpr Z'⟩
 refine wf.set (V':=qD V (.talks i [c.cr,x])) (c':=c.nP [c.cr,x]) (rY (V:=rm V _) hc) hc (λ_ _=>rfl) ⟨.inr ⟨Z',.inr (.inl ⟨Z',.inl Z',Z',hs.2,Z'⟩)⟩,k.cr,(λy h=>by cases h),(λy h=>?_),eM,?_,(λh=>by cases h),k.wy⟩ (λy g=>?_) (λy g=>?_) (λy g=>?_) wf.nx
 .rcases dz.mp h with g|g
  .rw[g];exact k.cr
  .rw[dB.mp g];exact k.at_ x hx
 .exact dW.mpr ⟨λh=>YI (dB.mp h),dW.mpr ⟨dX,eM⟩⟩
 .rcases dz.mp ((ul (c:=c.nP [c.cr,x]) Z').mp g)with h|h
  .rw[h];exact .inl ec.1
  .rw[dB.mp h];exact .inr hi
 .rcases dz.mp ((tU (c:=c.nP [c.cr,x]) (.inl Z')).mp g)with h|h
  .rw[h];exact .inl ec.2
  .rw[dB.mp h];rcases hs.1 with q|q
   .exact .inl ((tL q).mpr (.inr hx))
   .exact .inr (Gs (hf (sU.mpr ⟨q,hx⟩)))
 .exact absurd (sU.mp g).1 (show("talks":Str)≠"waits" by decide)
def AS{c:pQ}{x:Str}:c.nq x=Db↔c.st="talks"/\x∈c.ms/\c.ms.length=2:=by unfold pQ.nq pQ.nj;rw[dY,dY,eZ,rG,eZ,and_assoc]
def O5{c:pQ}(k:wK l pc c)(h:c.st="talks"):c.hd=Fa/\c.wd=Fa/\c.at_=[]:=by
 rcases k.sh with g|⟨_,g|g|⟨_,g⟩|g⟩
 .rw[h]at g;exact absurd g.1 (by decide)
 .rw[h]at g;exact absurd g.1 (by decide)
 .exact g.2.2
 .rw[h]at g;exact absurd g.1 (by decide)
 .rw[h]at g;exact absurd g.1 (by decide)
def F0{c:pQ}{x:Str}(k:wK l pc c)(h:c.hd=ga x):c.st="held"/\c.ms.length=2/\x∈c.ms/\c.wd=Fa/\c.at_=[]:=by
 rcases k.sh with g|⟨_,g|g|⟨y,g⟩|g⟩
 .rw[h]at g;cases g.2.2.1
 .rw[h]at g;cases g.2.2.1
 .rw[h]at g;cases g.2.2.1
 .have e:=g.2.2.1;rw[h]at e;cases e;exact⟨g.1,g.2.1,g.2.2.2⟩
 .rw[h]at g;cases g.2.2.1
def QB{V:qG}{i:Nat}{c:pQ}{x:Str}(wf:WF l V)(hc:V.calls[i]?=ga c)(hx:c.nq x=Db):WF l (qD V (.held i x)):=by
 have k:=wf.ok i c hc;obtain⟨h1,h2,h3⟩:=AS.mp hx;obtain⟨s1,s2,s3⟩:=O5 k h1;refine wf.set (V':=qD V (.held i x)) (c':=c.hold x) (rY (V:=rm V _) hc) hc (λ_ _=>rfl) ⟨.inr ⟨Z',.inr (.inr (.inl ⟨x,Z',h3,Z',h2,s2,s3⟩))⟩,k.cr,k.at_,k.ms,k.an,k.mn,k.ca,k.wy⟩ (λy g=>.inl ?_) (λy g=>.inl ?_) (λy g=>?_) wf.nx
 .exact(ul h1).mpr ((Cy (c:=c.hold x) Z').mp g).1
 .exact(tU (.inl h1)).mpr ((tU (c:=c.hold x) (.inr Z')).mp g)
 .exact absurd (sU.mp g).1 (show("held":Str)≠"waits" by decide)
def Rk{V:qG}{i:Nat}{c:pQ}{x:Str}(wf:WF l V)(hc:V.calls[i]?=ga c)(hx:c.hd=ga x)(hi:DP V x):WF l (qD V (.talks i c.ms)):=by
 have k:=wf.ok i c hc;obtain⟨h1,h2,h3,h4,h5⟩:=F0 k hx;refine wf.set (V':=qD V (.talks i c.ms)) (c':=c.nP c.ms) (rY (V:=rm V _) hc) hc (λ_ _=>rfl) ⟨.inr ⟨Z',.inr (.inl ⟨Z',.inl h2,Z',h4,Z'⟩)⟩,k.cr,(λy h=>by cases h),k.ms,eM,k.mn,(λh=>by cases h),k.wy⟩ (λy g=>?_) (λy g=>.inl ?_) (λy g=>?_) wf.nx
 .have g:=(ul (c:=c.nP c.ms) Z').mp g;by_cases e:y=x
  .rw[e];exact .inr hi
  .exact .inl ((Cy h1).mpr ⟨g,λq=>e (dq (q.symm.trans hx))⟩)
 .exact(tU (.inr h1)).mpr ((tU (c:=c.nP c.ms) (.inl Z')).mp g)
 .exact absurd (sU.mp g).1 (show("talks":Str)≠"waits" by decide)
def Ey{c:pQ}{x:Str}(nd:c.ms.Nodup)(h2:c.ms.length=2)(hx:x∈c.ms):qS c x∈c.ms/\qS c x≠x:=by
 have dl:=yw nd hx;obtain⟨y,r,e⟩:=List.exists_cons_of_length_pos (show 0<(so c.ms x).length by lia);have hm:y∈so c.ms x:=by rw[e];exact dH
 unfold qS;rw[e];exact uF.mp hm
def Kk{V:qG}{i j:Nat}{c d:pQ}{w x:Str}(wf:WF l V)(hc:V.calls[i]?=ga c)(hd:V.calls[j]?=ga d)(h1:c.hd=ga x)(h2:d.nq x=Db):i≠j/\WF l (qD V (.merge i j (if (w=="hand")=Db then[qS c x,qS d x]else[x,qS c x,qS d x]))):=by
 have k:=wf.ok i c hc;have kd:=wf.ok j d hd;obtain⟨c1,c2,c3,c4,c5⟩:=F0 k h1;obtain⟨d1,d2,d3⟩:=AS.mp h2;obtain⟨a1,a2⟩:=Ey k.mn c2 c3;obtain⟨b1,b2⟩:=Ey kd.mn d3 d2;have Zj:i≠j:=λq=>by subst q;rw[hc]at hd;cases hd;rw[c1]at d1;exact absurd d1 (by decide)
 refine⟨Zj,?_⟩;have ea:B4 c (qS c x):=(Cy c1).mpr ⟨a1,λq=>a2 (dq (q.symm.trans h1))⟩;have ab:qS c x≠qS d x:=λq=>Zj (wf.un i j c d _ hc hd ea (by rw[q];exact(ul d1).mpr b1));generalize hms:(if (w=="hand")=Db then[qS c x,qS d x]else[x,qS c x,qS d x])=ms;have mm:∀y∈ms,y=x\/y=qS c x\/y=qS d x:=λy hy=>by
  rw[<-hms]at hy;split at hy
  .rcases dz.mp hy with g|g
   .exact .inr (.inl g)
   .exact .inr (.inr (dB.mp g))
  .rcases dz.mp hy with g|g
   .exact .inl g
   .rcases dz.mp g with g|g
    .exact .inr (.inl g)
    .exact .inr (.inr (dB.mp g))
 have n2:[qS c x,qS d x].Nodup:=dW.mpr ⟨λh=>ab (dB.mp h),dW.mpr ⟨dX,eM⟩⟩;refine Hl (V':=qD V (.merge i j ms)) (ms:=ms) wf (.inl Z') hc hd Zj ?_ wf.nx d1 ?_ ?_ (λy hy=>?_) (λy hy=>?_)
 .show(V.calls.modify i _).modify j _=_;rw[uq hc,uq (show(V.calls.set i _)[j]?=ga d by rw[fE Zj];exact hd)]
 .rw[<-hms];split
  .exact n2
  .refine dW.mpr ⟨λh=>?_,n2⟩;rcases dz.mp h with g|g
   .exact a2 g.symm
   .exact b2 (dB.mp g).symm
 .rw[<-hms];split
  .exact .inl Z'
  .exact .inr Z'
 .rcases mm y hy with g|g|g
  .rw[g];exact .inl d2
  .rw[g];exact .inr ⟨ea,(tU (.inr c1)).mpr a1⟩
  .rw[g];exact .inl b1
 .rcases mm y hy with g|g|g
  .rw[g];exact k.ms x c3
  .rw[g];exact k.ms _ a1
  .rw[g];exact kd.ms _ b1
def Su{V:qG}{i:Int}(h:zP V.calls.length i=Db):∃c,V.calls[i.toNat]?=ga c:=by unfold zP at h;rw[dY,eC,eC]at h;exact⟨_,cZ (by lia)⟩
def FZ{V:qG}{b:Bool}(h:(if ((vd V x).isNone&&b)=Db then ga ("full":Str)else vd V x)=Fa):vd V x=Fa/\b=pc:=by
 cases e:vd V x with
 | some w=>rw[e]at h;cases h
 | none=>
  rw[e]at h;cases b with
  | true=>cases h
  | false=>exact⟨Z',Z'⟩
inductive ES(l:pV)(V:qG)(x:Str):Str->List Int->Prop
 | answer (i:Int) (c:pQ):0<=i->V.calls[i.toNat]?=ga c->hasS c.at_ x=Db->DP V x->(c.mZ x=Db->uE l V x=Db)->ES l V x "answer" [i]
 | hang (i:Int) (c:pQ):0<=i->V.calls[i.toNat]?=ga c->c.nM x=Db->ES l V x "hang" [i]
 | hold (i:Int) (c:pQ):0<=i->V.calls[i.toNat]?=ga c->c.nq x=Db->ES l V x "hold" [i]
 | back (i:Int) (c:pQ):0<=i->V.calls[i.toNat]?=ga c->c.hd=ga x->DP V x->ES l V x "back" [i]
 | two (w:Str) (i j:Int) (c d:pQ):0<=i->0<=j->w="hand"\/w="join"->V.calls[i.toNat]?=ga c->V.calls[j.toNat]?=ga d->c.hd=ga x->d.nq x=Db->ES l V x w [i,j]
def Io{V:qG}{w x:Str}(f:(rc.num w x ns).nz)(h:vM l V (.num w x ns)=Fa):x∈l.pn/\ES l V x w ns:=by
 have hp:hasS l.pn x=Db:=by
  cases q:hasS l.pn x with
  | true=>rfl
  | false=>unfold vM at h;dsimp only at h;rw[dh q]at h;cases h
 refine⟨rG.mp hp,?_⟩;unfold vM at h;dsimp only at h;rw[df (by rw[hp];decide)]at h;unfold Mh at h;cases q1:ns.all (zP V.calls.length)with
 | false=>rw[dh q1]at h;cases h
 | true=>
 rw[df (by rw[q1];decide)]at h;cases q2:JF w x (ut V ns)with
 | false=>rw[dh q2]at h;cases h
 | true=>
 rw[df (by rw[q2];decide)]at h;have z:∀i∈ns,0<=i/\∃c,V.calls[i.toNat]?=ga c:=λi hi=>by have g:=eF.mp q1 i hi;refine⟨?_,Su g⟩;unfold zP at g;rw[dY,eC]at g;exact g.1
 rcases f with⟨fw,fl⟩|⟨fw,fl⟩
 .match ns,fl with
  | [i],_=>
   obtain⟨hi,c,hc⟩:=z i dH;have ec:ut V [i]=[c]:=by unfold ut;rw[gb,hc];rfl
   rw[ec]at h q2;rcases fw with rfl|rfl|rfl|rfl
   .rw[df (by decide)]at h;obtain⟨h1,h2⟩:=FZ h;refine .answer i c hi hc q2 (Gz h1) λhw=>?_;have h2:(c.mZ x&&!(uE l V x))=pc:=h2;rw[hw]at h2
    simpa using h2
   .exact .hang i c hi hc q2
   .exact .hold i c hi hc q2
   .rw[df (by decide)]at h;exact .back i c hi hc (dL q2) (Gz (FZ h).1)
 .match ns,fl with
  | [i,j],_=>
   obtain⟨hi,c,hc⟩:=z i dH;obtain⟨hj,d,hd⟩:=z j (dD _ dH);have ec:ut V [i,j]=[c,d]:=by unfold ut;rw[gb,hc];dsimp only;rw[gb,hd];rfl
   rw[ec]at q2;have q3:((c.hd==ga x)&&d.nq x)=Db:=by rcases fw with rfl|rfl<;>exact q2
   rw[dY]at q3;exact .two w i j c d hi hj fw hc hd (dL q3.1) q3.2
def Fi{V:qG}{y z:Str}(h:vM l V (.call y z)=Fa):y∈l.pn/\z∈l.nm/\DP V y/\uE l V y=Db:=by
 unfold vM at h;dsimp only at h;cases q:hasS l.pn y with
 | false=>rw[dh q]at h;cases h
 | true=>
 rw[df (by rw[q];decide)]at h;unfold HA at h;cases q1:hasS l.nm z with
 | false=>rw[dh q1]at h;cases h
 | true=>
 rw[df (by rw[q1];decide)]at h;obtain⟨h1,h2⟩:=FZ h;exact⟨rG.mp q,rG.mp q1,Gz h1,by simpa using h2⟩
def Vs{V:qG}{b:Bool}{i:Int}(h:vM l V (.sw b i)=Fa):0<=i/\i.toNat<V.on.length:=by
 unfold vM Pb at h;dsimp only at h;cases q:zP V.on.length i with
 | false=>rw[dh q]at h;cases h
 | true=>unfold zP at q;rw[dY,eC,eC]at q;lia
def Au{V:qG}{w x:Str}{i:Nat}{c:pQ}(h:V.calls[i]?=ga c):Gr V w x i=if (w=="answer")=Db then .talks i [c.cr,x]else if (w=="hold")=Db then .held i x else .talks i c.ms:=by unfold Gr;rw[h];rfl
def Jb{V:qG}{w x:Str}{i j:Nat}{c d:pQ}(h:V.calls[i]?=ga c)(g:V.calls[j]?=ga d):Hh V w x i j=.merge i j (if (w=="hand")=Db then[qS c x,qS d x]else[x,qS c x,qS d x]):=by unfold Hh;rw[h,g];rfl
def Vr{V:qG}{e:rc}(ok:rb l)(wf:WF l V)(f:e.nz)(h:vM l V e=Fa):WF l (qY V (xf l V e)):=by
 cases e with
 | call y z=>obtain⟨h1,h2,h3,h4⟩:=Fi h;obtain⟨k,hk⟩:=NK (V:=V) (y:=y) (z:=z);show WF l (qY V (_++vZ l _ _));rw[su];exact R0 ok (Ja wf h1 h2 h3 h4) hk
 | turn=>exact F4 ok _ (Fh wf)
 | sw b i=>exact Vz wf
 | num w x ns=>
  obtain⟨_,n⟩:=Io f h;cases n with
  | answer i c hi hc h1 h2 h3=>show WF l (qD V (Gr V "answer" x i.toNat));rw[Au hc];exact K3 wf hc h1 h2 h3
  | hang i c hi hc h1=>exact Qc wf hc h1
  | hold i c hi hc h1=>show WF l (qD V (Gr V "hold" x i.toNat));rw[Au hc];exact QB wf hc h1
  | back i c hi hc h1 h2=>show WF l (qD V (Gr V "back" x i.toNat));rw[Au hc];exact Rk wf hc h1 h2
  | two _ i j c d hi hj hw hc hd h1 h2=>show WF l (qD V (Hh V w x i.toNat j.toNat));rw[Jb hc hd];exact(Kk wf hc hd h1 h2).2
def QE(a:Ad):rQ:=λds M Q=>NL λM0 b A V l c n x i k=>ds=[.ref b,.str x,.int ((i:Nat):Int)]/\uB a M0 M b A V l c n/\c<=1000000/\n<=7000000/\V.calls[i]?=ga k/\∀M' A',uB a M0 M' b A' (qY V (xI V x i)) l c (n+2)->rB A M A' M'->Q .mY M'
def Rj(a:Ad):rQ:=λds M Q=>Kg λA V l L k c=>ds=[.ref A.b,.ref (rZ.p k)]/\Rd a M A V l/\sG a M L k c/\Q (yr (Iy l V (HH c))) M
def QF(a:Ad):rQ:=λds M Q=>NL λM0 b A V l c n i k r=>ds=[.ref b,.int ((i:Nat):Int),yr (k::r)]/\uB a M0 M b A V l c n/\c<=1000000/\n<=6900000/\WF l V/\WB l V i (k::r)/\∀M' A',uB a M0 M' b A' (qY V (tQ l V i (k::r))) l c (n+33)->rB A M A' M'->Q .mY M'
def QT(a:Ad):rQ:=λds M Q=>Th λM0 b A V l c n=>ds=[.ref b]/\uB a M0 M b A V l c n/\c<=10000/\n<=6000000/\WF l V/\∀M' A',uB a M0 M' b A' (qY V (yI l V)) l c (n+1+33*c)->rB A M A' M'->Q .mY M'
def TK{a:Ad}{M:Mp}{c:pQ}{v:Wi}{r:Uf}{Q:DK}(h:M r=ga (.ins (v.cls a) v.nO))(hk:sG a M L k c)(q:Q (.bl (HH c v)) M):NA a v [.ref r,.ref k.p] M Q:=by
 cases v with
 | silent x y n=>exact⟨r,L,k,c,Z',h,hk,q⟩
 | _=>exact⟨_,_,Z',q⟩
def P7:Fq P w K mg base 4 a.bd (QE a):=by
 refine fq G.bd.toDG Dm (λr u=>⟨_,(pL (qc 3 Dm (pZ (pR v0) Y2))
 (pM (qh (vE (qu Y3 G.e.toCls G.ab (Dx G) r (qz Y1)))
 (pM (qd (qu v0 G.c.toCls G.k (rO G) r (qz (qe (rP pP Y2 pP))))))
 (pM (qh (pX u Y1 (pR Y3))
 (pL (qd (qu v0 G.c.toCls G.k (rO G) r (qz (qe (rP pP Y2 Y1)))))
 (pM (qh (pX u (ql qR Z' G.g qO (qz (pR Y3))) pO)
 (pM (qd (qu v0 G.c.toCls G.k (rO G) r (qz (qe (rP pP Y2 pP))))))
 qa)))
 (pM (qh (pX u (ql qR Z' G.g qO (qz (pR Y3))) pO)
 (pM (qd (qu v0 G.c.toCls G.k (rO G) r (qz (qe (rP pP Y2 Y1))))))
 (pM (qd (qu v0 G.c.toCls G.k (rO G) r (qz (qe (rP pP Y2 pP))))))))))))),?_⟩)
 rintro ds M Q ⟨M0,b,A,V,l,cc,n,x,i,c,rfl,cu,hcc,hn,hc,q⟩
 obtain⟨ka,ci⟩:=cu.call hc;obtain⟨ad,md,h1,h2,h3,h4,n1,n2⟩:=ci.cell;have hi:=(de.mp hc).1;refine pN cu.at_ (i' Z' (i' Z' (i' ci.bd.ca (i' (rS ci.e1) ?_))));refine pN h1 ⟨Z',_,⟨Z',Z'⟩,_,ka,c,x,Z',ci.cell,?_⟩;unfold xI at q;rw[hc]at q;dsimp only[Option.elim]at q;have over:∀(w0:Str),(∀M' A',uB a M0 M' b A' (qY V [.over i w0]) l cc (n+2)->rB A M A' M'->Q .mY M')->∀(M1:Mp) (A1:tG),A1.b=A.b->rB A M A1 M1->pY a M1 A1 (qD V (.over i w0))->∃Yo,qH Yo M1/\Q .mY Yo:=λw0 q M1 A1 eb st bd=>⟨M1,.refl,q M1 A1 ((cu.after (e:=.over i w0) hi eb st bd).mono (dw _) (by lia)) st⟩;refine qU (c:=c.ni x) (λg=>?_) (λg=>?_)
 .rw[dh g]at q;exact pN cu.at_ ⟨Z',_,⟨Z',Z'⟩,pJ Z',b,A,V,.over i "left",Z',cu.b,cu.bd,cu.lim hcc (by lia),hi,over "left" q⟩
 rw[df g]at q;refine pN h1 (i' Z' (i' h3 ⟨Z',qP _,?_⟩));show if inD (.str x) (c.at_.map D.str)=Db then _ else _
 rw[tF];refine qU (c:=hasS c.at_ x) (λg2=>?_) (λg2=>?_)
 .rw[dh g2]at q;refine pN cu.at_ ⟨Z',_,⟨Z',Z'⟩,pJ Z',b,A,V,.leaves i x,Z',cu.b,cu.bd,cu.lim hcc (by lia),hi,λM1 A1 eb st bd=>?_⟩;have c1:=cu.after (e:=.leaves i x) hi eb st bd;have hcs:(qD V (.leaves i x)).calls=V.calls.set i (c.drop x):=rY (V:=rm V _) hc;have hc1:(qD V (.leaves i x)).calls[i]?=ga (c.drop x):=by rw[hcs,fF hi]
  obtain⟨ad',md',g1,g2',g3,g4,_⟩:=c1.bd.cs i ka _ (st.2.2.1 i ka ci.e1) hc1;have le0:((((c.drop x).at_.map D.str).length:Int)==0)=decide (so c.at_ x=[]):=by rw[cX,fZ,eZ,eC];show((so c.at_ x).length:Int)=0↔_;rw[<-gw];lia
  refine pN g1 (i' Z' (i' g3 ?_));refine qU (c:=(((c.drop x).at_.map D.str).length:Int)==0) (λg5=>?_) (λg5=>?_)
  .rw[le0,eC]at g5;rw[dh g5]at q;have ZZ:i<(qD V (.leaves i x)).calls.length:=(de.mp hc1).1;refine pN c1.at_ ⟨Z',_,⟨Z',Z'⟩,pJ Z',b,A1,_,.over i "refused",Z',c1.b,c1.bd,c1.lim hcc (by lia),ZZ,λM2 A2 eb2 YH ZA=>?_⟩;exact⟨M2,.refl,q M2 A2 (c1.after (e:=.over i "refused") ZZ eb2 YH ZA) (st.trans YH)⟩
  .rw[le0,eC]at g5;rw[df g5]at q;exact⟨M1,.refl,q M1 A1 (c1.mono (dw _) (by lia)) st⟩
 .rw[df g2]at q;refine pN h1 (i' Z' (i' h4 ?_));have lm:decide ((2:Int)<((c.ms.map D.str).length:Int))=decide (2<c.ms.length):=by rw[cX,fZ,eC,eC];lia
  refine qU (c:=decide ((2:Int)<((c.ms.map D.str).length:Int))) (λg3=>?_) (λg3=>?_)
  .rw[lm,eC]at g3;rw[dh g3]at q;refine pN cu.at_ ⟨Z',_,⟨Z',Z'⟩,pJ Z',b,A,V,.leaves i x,Z',cu.b,cu.bd,cu.lim hcc (by lia),hi,λM1 A1 eb st bd=>?_⟩;exact⟨M1,.refl,q M1 A1 ((cu.after (e:=.leaves i x) hi eb st bd).mono (dw _) (by lia)) st⟩
  .rw[lm,eC]at g3;rw[df g3]at q;exact pN cu.at_ ⟨Z',_,⟨Z',Z'⟩,pJ Z',b,A,V,.over i "done",Z',cu.b,cu.bd,cu.lim hcc (by lia),hi,over "done" q⟩
def Ph:Fq P w K mg base 2 a.be (Rj a):=by
 refine fq G.be.toDG yW (λr u=>⟨_,(pL (qc 2 yW (pR (pR v0)))
 (pM (pU (qr sY Z' G.z tq (qz (qT Z' (xV (ix:=[Fa,Fa,ga 2,ga 1]) (N':=["i","on","wishes","call"])) (um Z' G.af (qz (pR v0))) (uV (n:=2) Z' (qK (qN 0) (qK (qN 1) tZ))) (vS (W3.b3 (zc (vE Y1) (yD (vE (Ga (R:=Hx a) (pZ Y2 v0) (UX G) (r.mono (by first|decide|lia)) (qz Y3))))))) v0)))))),?_⟩)
 rintro ds M Q ⟨A,V,l,L,k,c,rfl,rd,hk,q⟩
 obtain⟨ph,gr,ws,Zz,pr,gd,rs,i1,i2,i3,i4,i5,i6,i7,i8⟩:=rd.pl;refine pN rd.bd.at_ (i' Z' (pN i1 (i' Z' ?_)));refine pN rd.bd.at_ (i' Z' (i' rd.bd.on ?_));refine KC (rest:=[ga (.ref ws),ga (.ref k.p)]) rd.on rd.ok.oZ rd.bd.on (λi w0 ew y kk hkk=>?_) λp hp=>i' pS ⟨M,.new hp,q⟩;obtain⟨r,e1,e2⟩:=Ca i8 ew;exact i' i4 (i' e1 (pN e2 ⟨by cases w0.2<;>rfl,_,⟨w0.2,Z',Z'⟩,TK e2 hk hkk⟩))
def Pj:Fq P w K mg base 10 a.bf (QF a):=by
 refine fq G.bf.toDG Dw (λr u=>⟨_,(pL (qc 3 Dw (Aq (R:=Jg a) (pZ (pR (pR v0)) (pZ Y2 pO)) (OQ G) (r.mono (by first|decide|lia))))
 (pL (qd (qu v0 G.c.toCls G.k (rO G) r (qz (qe (qw pP (rP Y1 (pZ Y3 pO) Y2))))))
 (pL (qd (qu v0 G.c.toCls G.k (rO G) r (qz (qe (r6 pP Y1)))))
 (pL (qd (qu v0 G.c.toCls G.k (rO G) r (qz (qe (qw pP (qw Y1 (rP (pZ Y3 pO) (pZ Y3 pO) (pZ Y3 pO))))))))
 (pM (qd (pW (Kl G) r G.aj (r6 v0 Y1)))))))),?_⟩)
 rintro ds M Q ⟨M0,b,A,V,l,c,n,i,k,r,rfl,cu,hc,hn,wf,du,q⟩
 obtain⟨ph,gr,ws,Zz,pr,gd,rs,i1,i2,i3,i4,i5,i6,i7,i8⟩:=cu.pl;cases du with
 | on k0 _ _ b0 x y m hk hs hw hl hy=>
  have hi:=(de.mp hk).1;rw[AO hw]at q;rw[su]at q;obtain⟨r0,e1,e2⟩:=Ca i8 hw;refine pN cu.at_ (i' Z' (pN i1 (i' Z' (i' (zZ _ _) (i' i4 (i' e1 (pN e2 ⟨Z',_,⟨⟨.silent x y m,Z'⟩,Z'⟩,r0,.silent x y m,Z',e2,?_⟩)))))));refine pN cu.at_ ⟨Z',_,⟨Z',Z'⟩,pJ Z',b,A,V,.asks i x (k::r),Z',cu.b,cu.bd,cu.lim hc (by lia),trivial,λM1 A1 eb1 YX bd1=>?_⟩;have c1:=cu.after (e:=.asks i x (k::r)) trivial eb1 YX bd1;refine pN c1.at_ ⟨Z',_,⟨Z',Z'⟩,pJ Z',b,A1,_,.quiet i,Z',c1.b,c1.bd,c1.lim hc (by lia),hi,λM2 A2 eb2 YH ZA=>?_⟩;have c2:=c1.after (e:=.quiet i) hi eb2 YH ZA;have Ze:i<(qD (qD V (.asks i x (k::r))) (.quiet i)).calls.length:=by show i<(V.calls.modify i pQ.nW).length;rw[gm];exact hi
  refine pN c2.at_ ⟨Z',_,⟨Z',Z'⟩,pJ Z',b,A2,_,.leg ⟨i,x,y,x⟩,Z',c2.b,c2.bd,c2.lim hc (by lia),Ze,λM3 A3 eb3 Zg bd3=>?_⟩;have c3:=c2.after (e:=.leg ⟨i,x,y,x⟩) Ze eb3 Zg bd3;exact⟨M0,b,A3,_,l,c,n+3,i,_,Z',c3,hc,by lia,FX wf hk hs hy,FK hk,λM4 A4 c4 st4=>⟨M4,.refl,q M4 A4 (c4.mono (dw _) (by lia)) (YX.trans (YH.trans (Zg.trans st4)))⟩⟩
def RF:Fq P w K mg base 11 a.bg (QT a):=by
 refine fq G.bg.toDG uu (λr u=>⟨_,(pL (qd (qu v0 G.c.toCls G.k (rO G) r (qz (qe (qz pP)))))
 (pM (vg fi Z' (um Z' G.af (qz (qr s8 Z' G.q sO (qz (pR v0))))) (uV (n:=2) Z' (qK (sL 1 uu) (qK (sL 2 uu) tZ)))
 (pM (qh (pX u (pR Y2) pP)
 (pL (qc 3 uu (pW (Ph G) r G.be (r6 v0 Y2)))
 (pM (qh (pX u (ql qR Z' G.g qO (qz Y3)) pO)
 (pM (qd (pW (Pj G) r G.bf (rP v0 Y1 Y3))))
 qa)))
 qa))))),?_⟩)
 rintro ds M Q ⟨M0,b,A,V,l,c,n,rfl,cu,hc,hn,wf,q⟩
 refine pN cu.at_ ⟨Z',_,⟨Z',Z'⟩,pJ Z',b,A,V,.turn,Z',cu.b,cu.bd,cu.lim (by lia) (by lia),trivial,λM1 A1 eb st bd=>?_⟩;have c1:=cu.after (e:=.turn) trivial eb st bd;have wf1:=Fh wf;have lv:(qD V .turn).calls.length=V.calls.length:=cX ..;have ev:yI l V=.turn::rX l (List.range V.calls.length) (qD V .turn):=rfl;rw[ev,<-lv]at q;have q:∀M' A',uB a M0 M' b A' (qY (qD V .turn) (rX l (List.range (qD V .turn).calls.length) (qD V .turn))) l c (n+1+33*c)->rB A M A' M'->Q .mY M':=q;have c1:uB a M0 M1 b A1 (qD V .turn) l c (n+1):=c1;generalize qD V .turn=V1 at c1 wf1 q bd;refine pN c1.at_ (i' Z' (i' c1.bd.ca λr hr=>i' pS ?_));have t:=qH.new (c:=.lst (A1.cs.map λk=>D.ref k.p)) hr;have lr:=@pS M1 r (A1.cs.map λk=>D.ref k.p);have nf:=c1.bd.oa hr;have c2:=c1.sub t;have cl:V1.calls.length<=c:=c1.sz.ca;generalize pT M1 r (.lst (A1.cs.map λk=>D.ref k.p))=M2 at t lr c2 ⊢;refine wX (ug 0 (A1.cs.map λk=>D.ref k.p)) (λpre U M'=>(∃A',uB a M0 M' b A' (qY V1 (rX l (List.range pre.length) V1)) l c (n+1+33*pre.length)/\rB A1 M2 A' M')/\∃y1 y2 y3,U=[ga (.ref b),y1,y2,y3]) (λpre U M' j=>?_) _ [] _ _ Z' ⟨⟨A1,c2,.refl⟩,Fa,Fa,Fa,Z'⟩ ?_ ?_
 .obtain⟨⟨A',c3,Zg⟩,_⟩:=j;exact sd (Zg.1 r _ nf (qm lr))
 .rintro pre d post e U M' ⟨⟨A',c3,Zg⟩,y1,y2,y3,rfl⟩ nx Yr
  rw[c9,dI,iq,EF,su]at Yr;have wf3:=F4 cu.ok (List.range pre.length) wf1;generalize qY V1 (rX l (List.range pre.length) V1)=V3 at c3 wf3 Yr;obtain⟨x,hx,rfl⟩:=J8 e;rw[dG]at hx;cases ek:A1.cs[pre.length]? with
  | none=>rw[ek]at hx;cases hx
  | some k=>
   rw[ek]at hx;have hx:D.ref k.p=x:=dq hx;subst hx;have hp:pre.length<c:=by have:=(de.mp ek).1;rw[c1.bd.len]at this;lia
   have ek3:=Zg.2.2.1 _ k ek;have hi:pre.length<V3.calls.length:=by rw[<-c3.bd.len];exact(de.mp ek3).1
   have ec:V3.calls[pre.length]?=ga V3.calls[pre.length]:=cZ hi;generalize V3.calls[pre.length]=cv at ec;have ca:=c3.bd.cs _ k cv ek3 ec;obtain⟨ad,md,g1,_⟩:=ca;refine⟨Z',pN g1 (i' Z' ?_)⟩;have hdv:yS l V3 pre.length=if (cv.st=="rings")=Db then Iy l V3 (HH cv)else[]:=by unfold yS;rw[ec];rfl
   have mY:yS l V3 pre.length=[]->∀y1' y2' y3',nx [ga (.ref b),y1',y2',y3'] M':=λh0 y1' y2' y3'=>Yr _ _ ⟨⟨A',by rw[h0];exact c3.mono (dw _) (by lia),Zg⟩,_,_,_,Z'⟩;have du:=Iu (V:=V3) (i:=pre.length) cu.ok;refine qU (c:=cv.st=="rings") (λg=>?_) (λg=>mY (by rw[hdv,df g]) _ _ _);rw[dh g]at hdv;refine⟨A',V3,l,_,k,cv,by rw[c3.b],c3.rd (by lia) wf3,c3.bd.cs _ k cv ek3 ec,?_⟩;rw[<-hdv];cases hdq:yS l V3 pre.length with
   | nil=>exact mY hdq _ _ _
   | cons k0 r0=>rw[hdq]at du Yr;refine BG (d4 (by rw[cX];show(0:Int)<((k0::r0).length:Nat);rw[eE];lia)) ?_;exact⟨M0,b,A',V3,l,c,_,pre.length,k0,r0,Z',c3,by lia,by lia,wf3,du,λM4 A4 c4 st4=>Yr _ _ ⟨⟨A4,c4.mono (dw _) (by lia),Zg.trans st4⟩,_,_,_,Z'⟩⟩
 .rintro U M' ⟨⟨A',c3,Zg⟩,y1,y2,y3,rfl⟩
  have hl:(ug 0 (A1.cs.map λk=>D.ref k.p)).length=V1.calls.length:=by rw[ue,cX,c1.bd.len]
  rw[hl]at c3;exact⟨M',.refl,q M' A' (c3.mono (dw _) (by lia)) (st.trans ((rB.sub t).trans Zg))⟩
inductive RM(l:pV)(V:qG):rc->Ev->Prop
 | sw (b:Bool) (i:Nat):i<V.on.length->RM l V (.sw b (i:Nat)) (.sw b i)
 | answer (x:Str) (i:Nat) (c:pQ):V.calls[i]?=ga c->RM l V (.num "answer" x [(i:Nat)]) (.talks i [c.cr,x])
 | hold (x:Str) (i:Nat) (c:pQ):V.calls[i]?=ga c->RM l V (.num "hold" x [(i:Nat)]) (.held i x)
 | back (x:Str) (i:Nat) (c:pQ):V.calls[i]?=ga c->RM l V (.num "back" x [(i:Nat)]) (.talks i c.ms)
 | two (w x:Str) (i j:Nat) (c d:pQ):i≠j->w="hand"\/w="join"->V.calls[i]?=ga c->V.calls[j]?=ga d->so c.ms x≠[]->so d.ms x≠[]->RM l V (.num w x [(i:Nat),(j:Nat)]) (.merge i j (if (w=="hand")=Db then[qS c x,qS d x]else[x,qS c x,qS d x]))
def GT(a:Ad):rQ:=λds M Q=>GD λA V l e ev=>ds=[.ref A.b,rc.d e]/\Rd a M A V l/\RM l V e ev/\Q ev.d M
def Sf(a:Ad):rQ:=λds M Q=>Sr λM0 b A V l c n e=>ds=[.ref b,rc.d e]/\uB a M0 M b A V l c n/\c<10000/\n<=5000000/\WF l V/\e.nz/\vM l V e=Fa/\∀M' A',uB a M0 M' b A' (qY V (xf l V e)) l (c+1) (n+40+33*c)->rB A M A' M'->Q .mY M'
def Xg(a:Ad)(M0 M:Mp)(b:Uf)(A:tG)(V:qG)(l:pV)(c n:Nat)(e:rc)(Q:DK):Prop:=vM l V e=Fa->∀M' A' r,uB a M0 M' b A' (qY V (xf l V e)) l (c+1) (n+40+33*c)->rB A M A' M'->M' r=Fa->Q (.ref r) (pT M' r (.lst ((xf l V e).map Ev.d)))
def Vp(a:Ad):F5:=λds M Q R=>Sr λM0 b A V l c n e=>ds=[.ref b,rc.d e]/\uB a M0 M b A V l c n/\c<10000/\n<=5000000/\WF l V/\e.nz/\Xg a M0 M b A V l c n e Q/\(∀w,vM l V e=ga w->R a.M (ga ("word",.str w)) M)
def Rd.call{V:qG}(rd:Rd a M A V l){i:Nat}{c:pQ}(e:V.calls[i]?=ga c):∃k,A.cs[i]?=ga k/\sG a M (A.lists++V.fo) k c:=by
 have hi:i<A.cs.length:=by rw[rd.bd.len];exact(de.mp e).1
 exact⟨A.cs[i],cZ hi,rd.bd.cs i _ c (cZ hi) e⟩
def zj{i:Int}(h:0<=i):∃m:Nat,i=(m:Int):=eG h
def Ka{c:pQ}{x:Str}(nd:c.ms.Nodup)(h2:c.ms.length=2)(hx:x∈c.ms):so c.ms x≠[]:=λz=>by have:=yw nd hx;rw[z]at this;simp only[dN]at this;lia
def OE:Fq P w K mg base 2 a.bh (GT a):=by
 refine fq G.bh.toDG uf (λr u=>⟨_,(pL (qc 2 uf (pZ Y1 pO))
 (pL (qh (pX u Y2 (qe (r6 pP pP)))
 (pM (pU (qe (r6 Y2 (pZ Y1 pO)))))
 qa)
 (pL (qc 3 uf (pZ Y1 pO))
 (pL (qc 4 uf (pZ Y1 pO))
 (pL (qc 5 uf (pZ (pR v0) v4))
 (pL (qh (pX u Y2 pP)
 (pM (pU (qe (rP pP v4 (qe (r6 (pR v5) Y3))))))
 qa)
 (pL (qh (pX u Y2 pP)
 (pM (pU (qe (rP pP v4 Y3))))
 qa)
 (pL (qh (pX u Y2 pP)
 (pM (pU (qe (rP pP v4 (qr sY Z' G.z tq (qz (pR v5)))))))
 qa)
 (pL (qc 6 uf (pZ Y1 pO))
 (pL (qc 7 uf (qe (r6 (qu v5 G.e.toCls G.aC (G8 G) r (qz Y3)) (qu (pZ (pR v0) v6) G.e.toCls G.aC (G8 G) r (qz Y3)))))
 (pL (qh (pX u Y2 pP)
 (pM (pU (qe (qw pP (rP v4 v6 v7)))))
 qa)
 (pM (pU (qe (qw pP (rP v4 v6 (qp (qe (qz Y3)) v7))))))))))))))))),?_⟩)
 rintro ds M Q ⟨A,V,l,e,ev,rfl,rd,sg,q⟩
 cases sg with
 | sw b i hi=>
  cases b with
  | true=>exact⟨pJ Z',Z',Z',pJ Z',M,.refl,q⟩
  | false=>exact⟨pJ Z',Z',Z',pJ Z',M,.refl,q⟩
 | answer x i c hc=>obtain⟨k,ek,ca⟩:=rd.call hc;obtain⟨ad,md,h1,h2,h3,h4,n1,n2⟩:=ca;refine⟨pJ Z',Z',Z',?_⟩;refine pN rd.bd.at_ (i' Z' (i' Z' (i' rd.bd.ca (i' (rS ek) ?_))));exact pN h1 (i' Z' ⟨pJ Z',pJ Z',M,.refl,q⟩)
 | hold x i c hc=>obtain⟨k,ek,ca⟩:=rd.call hc;refine⟨pJ Z',Z',Z',?_⟩;refine pN rd.bd.at_ (i' Z' (i' Z' (i' rd.bd.ca (i' (rS ek) ?_))));exact⟨pJ Z',M,.refl,q⟩
 | back x i c hc=>obtain⟨k,ek,ca⟩:=rd.call hc;obtain⟨ad,md,h1,h2,h3,h4,n1,n2⟩:=ca;refine⟨pJ Z',Z',Z',?_⟩;refine pN rd.bd.at_ (i' Z' (i' Z' (i' rd.bd.ca (i' (rS ek) ?_))));exact pN h1 (i' Z' (i' h4 ⟨pJ Z',M,.refl,q⟩))
 | two wd x i j c d Zj hw hc hd nc nd=>
  obtain⟨k,ek,ca⟩:=rd.call hc;obtain⟨k',ek',ca'⟩:=rd.call hd;have ca0:=ca;have ca1:=ca';obtain⟨ad,md,h1,h2,h3,h4,n1,n2⟩:=ca0;obtain⟨ad',md',f1,_⟩:=ca1;obtain⟨y1,r1,e1⟩:=gj nc;obtain⟨y2,r2,e2⟩:=gj nd;have o1:qS c x=y1:=by unfold qS;rw[e1];rfl
  have o2:qS d x=y2:=by unfold qS;rw[e2];rfl
  rw[o1,o2]at q;rcases hw with rfl|rfl
  .refine⟨pJ Z',Z',Z',?_⟩;refine pN rd.bd.at_ (i' Z' (i' Z' (i' rd.bd.ca (i' (rS ek) ?_))));refine pN h1 ⟨Z',_,⟨Z',Z'⟩,_,k,c,x,y1,r1,Z',ca,(rd.ms c (rj hc)).2,e1,?_⟩;refine pN rd.bd.at_ (i' Z' (i' Z' (i' rd.bd.ca (i' (rS ek') ?_))));refine pN f1 ⟨Z',_,⟨Z',Z'⟩,_,k',d,x,y2,r2,Z',ca',(rd.ms d (rj hd)).2,e2,?_⟩;exact⟨pJ Z',pJ Z',M,.refl,q⟩
  .refine⟨pJ Z',Z',Z',?_⟩;refine pN rd.bd.at_ (i' Z' (i' Z' (i' rd.bd.ca (i' (rS ek) ?_))));refine pN h1 ⟨Z',_,⟨Z',Z'⟩,_,k,c,x,y1,r1,Z',ca,(rd.ms c (rj hc)).2,e1,?_⟩;refine pN rd.bd.at_ (i' Z' (i' Z' (i' rd.bd.ca (i' (rS ek') ?_))));refine pN f1 ⟨Z',_,⟨Z',Z'⟩,_,k',d,x,y2,r2,Z',ca',(rd.ms d (rj hd)).2,e2,?_⟩;exact⟨pJ Z',pJ Z',fA _ _,by show 1+2<=Ch;have hz:=dO;lia,pJ Z',M,.refl,q⟩
def T8:Fq P w K mg base 12 a.bi (Sf a):=by
 refine fq G.bi.toDG Me (λr u=>⟨_,(pL (qc 2 Me (pZ Y1 pO))
 (pM (qh (pX u Y2 pP)
 (pM (qd (pW (Ox G) r G.bc (rP v0 (pZ Y1 pO) (pZ Y1 pO)))))
 (pM (qh (pX u Y2 pP)
 (pM (qd (pW (P7 G) r G.bd (rP v0 (pZ Y1 pO) (pZ Y1 pO)))))
 (pM (qh (pX u Y2 pP)
 (pM (qd (pW (RF G) r G.bg (qz v0))))
 (pM (qd (qu v0 G.c.toCls G.k (rO G) r (qz (pW (OE G) r G.bh (r6 v0 Y1))))))))))))),?_⟩)
 rintro ds M Q ⟨M0,b,A,V,l,c,n,e,rfl,cu,hc,hn,wf,hf,hr,q⟩
 have rd:=cu.rd (by lia) wf;have one:∀(ev:Ev),RM l V e ev->xf l V e=[ev]->ev.ok V->ev.nw=0->AR (M b) λC fs'=>fs'.lookup ("apply":Str)=Fa/\∃sp,(C=a.c/\sp=wW a)/\GT a [.ref b,e.d] M λd M1=>sp [.ref b,d] M1 λ_ M'=>∃Yo,qH Yo M'/\Q .mY Yo:=λev sg he ok h0=>by refine pN cu.at_ ⟨Z',_,⟨Z',Z'⟩,A,V,l,e,ev,by rw[cu.b],rd,sg,b,A,V,ev,Z',cu.b,cu.bd,cu.lim (by lia) (by lia),ok,λM1 A1 eb st bd=>?_⟩;rw[he]at q;have c1:=cu.after ok eb st bd;rw[h0]at c1;exact⟨M1,.refl,q M1 A1 (c1.mono (by lia) (by lia)) st⟩
 cases e with
 | call y z=>obtain⟨h1,h2,h3,h4⟩:=Fi hr;exact⟨M0,b,A,V,l,c,n,y,z,Z',cu,by lia,by lia,Ja wf h1 h2 h3 h4,λM' A' c1 st=>⟨M',.refl,q M' A' (c1.mono (by lia) (by lia)) st⟩⟩
 | turn=>exact⟨M0,b,A,V,l,c,n,Z',cu,by lia,by lia,wf,λM' A' c1 st=>⟨M',.refl,q M' A' (c1.mono (by lia) (by lia)) st⟩⟩
 | sw b0 i=>
  obtain⟨h1,h2⟩:=Vs hr;obtain⟨i,rfl⟩:=zj h1;cases b0 with
  | true=>exact one (.sw Db i) (.sw Db i h2) Z' h2 Z'
  | false=>exact one (.sw pc i) (.sw pc i h2) Z' h2 Z'
 | num wd x ns=>
  obtain⟨hx,no⟩:=Io hf hr;cases no with
  | answer i c0 hi hc0 h1 h2 h3=>obtain⟨i,rfl⟩:=zj hi;have lt:=(de.mp hc0).1;exact one (.talks i [c0.cr,x]) (.answer x i c0 hc0) (eR (λev=>[ev]) (Au hc0)) ⟨lt,by show 2<=100;decide⟩ Z'
  | hang i c0 hi hc0 h1=>obtain⟨i,rfl⟩:=zj hi;exact⟨M0,b,A,V,l,c,n,x,i,c0,Z',cu,by lia,by lia,hc0,λM' A' c1 st=>⟨M',.refl,q M' A' (c1.mono (by lia) (by lia)) st⟩⟩
  | hold i c0 hi hc0 h1=>obtain⟨i,rfl⟩:=zj hi;have lt:=(de.mp hc0).1;exact one (.held i x) (.hold x i c0 hc0) (eR (λev=>[ev]) (Au hc0)) lt Z'
  | back i c0 hi hc0 h1 h2=>obtain⟨i,rfl⟩:=zj hi;have lt:=(de.mp hc0).1;exact one (.talks i c0.ms) (.back x i c0 hc0) (eR (λev=>[ev]) (Au hc0)) ⟨lt,(cu.sz.cs c0 (rj hc0)).2.2⟩ Z'
  | two _ i j c0 d0 hi hj hw hc0 hd0 h1 h2=>
   obtain⟨i,rfl⟩:=zj hi;obtain⟨j,rfl⟩:=zj hj;have lt:=(de.mp hc0).1;have lt':=(de.mp hd0).1;have Zj:=(Kk (w:=wd) wf hc0 hd0 h1 h2).1;have k0:=wf.ok _ c0 hc0;have k1:=wf.ok _ d0 hd0;obtain⟨_,u2,u3,_⟩:=F0 k0 h1;obtain⟨_,v2,v3⟩:=AS.mp h2;have sg:=RM.two (l:=l) wd x i j c0 d0 Zj hw hc0 hd0 (Ka k0.mn u2 u3) (Ka k1.mn v3 v2);have ok:(Ev.merge i j (if (wd=="hand")=Db then[qS c0 x,qS d0 x]else[x,qS c0 x,qS d0 x])).ok V:=⟨lt,lt',Zj,by split;exact(by decide:2<=100);exact(by decide:3<=100)⟩;have he:xf l V (.num wd x [(i:Int),(j:Int)])=[.merge i j (if (wd=="hand")=Db then[qS c0 x,qS d0 x]else[x,qS c0 x,qS d0 x])]:=eR (λev=>[ev]) (Jb hc0 hd0);rcases hw with rfl|rfl
   .exact one _ sg he ok Z'
   .exact one _ sg he ok Z'
def Lg:xU P w K mg base (BP P w) 1 a.J.f a.J.d a.J.p (xj K "word"):=
 Na G.J.toDG DB λYv A outer s H E=>KF (Pp (pv 0) (pv 1))
def RT:WL P w K mg base 13 a.F (Vp a):=by
 refine Wb G.F.toDG Jx (by walk_at "m") (λ_ _ _ _ _ _ R hr hR=>⟨_,(pL (qc 2 Jx (pW (CO G) hr G.ai (r6 v0 Y1)))
 (pL (qh (pX (XO hr) Y2 sD)
 (pM (Lf G.cb (Lg G) (hr.mono (by first|decide|lia)) G.J.b G.cc G.J.at_ Z' G.bZ hR (qz Y2)))
 qa)
 (pL (qc 3 Jx (ql qR Z' G.g qO (qz (pR v0))))
 (pL (qd (pW (T8 G) hr G.bi (r6 v0 Y1)))
 (pM (pU (tH (pR v0) (ur Y3) uk))))))),?_⟩)
 .rintro ds M Q ⟨M0,b,A,V,l,c,n,e,rfl,cu,hc,hn,wf,hf,q,rr⟩
  refine⟨A,V,l,e,by rw[cu.b],cu.rd (by lia) wf,hf,?_⟩;cases er:vM l V e with
  | some w0=>exact⟨_,Z',rr w0 er⟩
  | none=>
   refine pN cu.at_ (i' Z' (i' cu.bd.lo ?_));refine⟨M0,b,A,V,l,c,n,e,Z',cu,hc,hn,wf,hf,er,λM' A' c1 st=>?_⟩;refine pN c1.at_ (i' Z' (i' c1.bd.lo λp hp=>?_));have hcut:L3.vB ((qY V (xf l V e)).log.map Ev.d) (ga (((V.log.map Ev.d).length:Nat):Int)) Fa=(xf l V e).map Ev.d:=by rw[Kc,dP,Jl _ _ (by rw[c9];lia),List.drop_left]
   rw[hcut];exact⟨_,.refl,q er M' A' p c1 st hp⟩
def Rp(a:Ad):rQ:=λds M Q=>Sr λM0 b A V l c n e=>ds=[.ref b,rc.d e]/\uB a M0 M b A V l c n/\c<10000/\n<=5000000/\WF l V/\e.nz/\Xg a M0 M b A V l c n e Q/\(vM l V e≠Fa->Q .mY M)
def Kb:Fq P w K mg base 14 a.ap (Rp a):=by
 refine fq G.ap.toDG wx (λr u=>⟨_,(pL (qc 2 wx sD)
 (pL (P3 (ix:=2) (MV (RT G) (r.mono (by first|decide|lia)) Z' G.F.mg G.F.toDG.kp G.F.b (r6 v0 Y1)) Z' Z' Z' G.bZ wx.nd Z' Z' (λev E'=>
 (pM (qc 2 wx sD))))
 (pM (pU Y2)))),?_⟩)
 rintro ds M Q ⟨M0,b,A,V,l,c,n,e,rfl,cu,hc,hn,wf,hf,q,qf⟩
 refine⟨λC _ M'=>(C=a.M/\vM l V e≠Fa)/\M=M',?_,?_⟩
 .exact⟨M0,b,A,V,l,c,n,e,Z',cu,hc,hn,wf,hf,λh M' A' r c1 st hm=>⟨_,.refl,q h M' A' r c1 st hm⟩,λw h=>⟨⟨Z',by rw[h];exact λz=>nomatch z⟩,Z'⟩⟩
 .rintro C y M' ⟨⟨rfl,h⟩,rfl⟩
  exact⟨G.cd,M,.refl,qf h⟩
noncomputable def wD(g:uY):Bool:=g.2.1==("turns":Str)
def vJ(l:pV):T0 (Str×Int):=(l.groups.filter wD).map λg=>(g.1,0)
def V0(p:Uf)(h:Int)(l:pV)(F:QXQ):qG:=⟨p,h,0,[],[],vJ l,l.mT.map (·.1),[],F⟩
def Gq(a:Ad):rQ:=λds M Q=>GD λb p h F (l:pV)=>ds=[.ref b,.ref p,.int h]/\M b=ga (.ins a.c [])/\rT a M p l/\rb l/\p≠b/\(∀x∈F,∃c,M x=ga c)/\∀M' A,A.b=b->sI b M M'->(∀x∈A.foot,x=b\/M x=Fa)->pY a M' A (V0 p h l F)->Q .mY M'
noncomputable def L7(g:D):Bool:=match g with
 | .tup (_::.str m::_)=>m=="turns"
 | _=>pc
def RY(d:D):D:=.tup [BR d,.int 0]
def Ii(gs:List uY):((gs.map rF).filter L7).map RY=(gs.filter wD).map λg=>D.tup [.str g.1,.int 0]:=by rw[gW,eA];rfl
def Ld(l:pV):((l.groups.filter wD).map λg=>((Sum.inr g.1:rM),D.int 0))=uj (vJ l):=by unfold uj vJ;rw[eA];rfl
noncomputable def bF(p:Uf)(h:Int)(ca le nx ZV:Uf)(k:Nat):T0 (Str×D):=List.take (α:=Str×D) k [("plan",.ref p),("hour",.int h),("turn",.int 0),("calls",.ref ca),("legs",.ref le),("nexts",.ref nx),("on",.ref ZV)]
def Aa:Fq P w K mg base 1 a.L (Gq a):=by
 refine fq G.L.toDG Ed (λr u=>⟨_,(pL (qA v0 Y1)
 (pL (qA v0 Y2)
 (pL (qA v0 pO)
 (pL (qA v0 (qX sT))
 (pL (qA v0 (qX sT))
 (pL (qA v0 (qr (FI Z') Z' G.bY Gk (qz (qT Z' (xV (ix:=[Fa]) (N':=["group"])) (ra (pR Y1)) (qN 0) (vS (pX u (pZ v0 pO) pP)) (qe (r6 (pZ v0 pO) pO))))))
 (pL (qA v0 (qr s8 Z' G.q sO (qz (pR Y1))))
 (pM (qA v0 (qX sT)))))))))),?_⟩)
 rintro ds M Q ⟨b,p,h,F,l,rfl,hb,⟨ph,gr,ws,on,pr,gd,rs,i1,i2,i3,i4,i5,i6,i7,i8⟩,ok,nbp,hF,q⟩
 have hz:=dO;have l2:=ok.g3;refine pN hb ⟨(G.E "plan" Z'),by show 0<1000;decide,?_⟩;have k1:sI b M (pT M b (.ins a.c [("plan",.ref p)])):=.put;have b1:pT M b (.ins a.c [("plan",.ref p)]) b=ga (.ins a.c [("plan",.ref p)]):=qg;show vc _ _ _ _ (pT M b (.ins a.c [("plan",.ref p)]));generalize pT M b (.ins a.c [("plan",.ref p)])=N1 at k1 b1 ⊢;refine pN b1 ⟨(G.E "hour" Z'),by show 1<1000;decide,?_⟩;have k2:=k1.trans (sI.put (p:=b) (c:=.ins a.c [("plan",.ref p),("hour",.int h)]));have b2:pT N1 b (.ins a.c [("plan",.ref p),("hour",.int h)]) b=ga (.ins a.c [("plan",.ref p),("hour",.int h)]):=qg;show vc _ _ _ _ (pT N1 b (.ins a.c [("plan",.ref p),("hour",.int h)]));generalize pT N1 b (.ins a.c [("plan",.ref p),("hour",.int h)])=N2 at k2 b2 ⊢;refine pN b2 ⟨(G.E "turn" Z'),by show 2<1000;decide,?_⟩;have k3:=k2.trans (sI.put (p:=b) (c:=.ins a.c (bF p h 0 0 0 0 3)));have b3:pT N2 b (.ins a.c (bF p h 0 0 0 0 3)) b=ga (.ins a.c (bF p h 0 0 0 0 3)):=qg;show vc _ _ _ _ (pT N2 b (.ins a.c (bF p h 0 0 0 0 3)));generalize pT N2 b (.ins a.c (bF p h 0 0 0 0 3))=N3 at k3 b3 ⊢;clear k1 k2 b1 b2;refine⟨pJ Z',λca hca=>?_⟩;obtain⟨n4,e4,k4,c4,b4⟩:=tX (fs':=(bF p h ca 0 0 0 4)) (c:=.lst []) b3 hca;refine pN e4 ⟨(G.E "calls" Z'),by show 3<1000;decide,?_⟩;show vc _ _ _ _ (pT (pT N3 ca (.lst [])) b (.ins a.c (bF p h ca 0 0 0 4)));generalize pT (pT N3 ca (.lst [])) b (.ins a.c (bF p h ca 0 0 0 4))=N4 at k4 c4 b4 ⊢;have kk4:=k3.trans k4;have z1:M ca=Fa:=sr k3 b3 hca;have lc4:oU N4 ca=ga []:=sd c4;refine⟨pJ Z',λle hle=>?_⟩;obtain⟨n5,e5,k5,c5,b5⟩:=tX (fs':=(bF p h ca le 0 0 5)) (c:=.lst []) b4 hle;refine pN e5 ⟨(G.E "legs" Z'),by show 4<1000;decide,?_⟩;show vc _ _ _ _ (pT (pT N4 le (.lst [])) b (.ins a.c (bF p h ca le 0 0 5)));generalize pT (pT N4 le (.lst [])) b (.ins a.c (bF p h ca le 0 0 5))=N5 at k5 c5 b5 ⊢;have kk5:=kk4.trans k5;have z2:M le=Fa:=sr kk4 b4 hle;have le5:oU N5 le=ga []:=sd c5;have mcl:le≠ca:=λz=>by rw[z,qm lc4]at hle;cases hle
 have lc5:=k5.lst (qo lc4 b4) lc4;have p5:=kk5 _ _ nbp i1;have g5:=kk5.lst (qo i3 hb) i3;clear k3 k4 k5 kk4 lc4 c4 c5 e4 e5 b3 b4;refine pN p5 (i' Z' (i' g5 ?_));refine uo (f:=RY) (t:=L7) g5 _ [] _ (by rw[cX];simp only[dN];lia) (λd hd k hk=>?_) (λd hd _ k hk=>?_) λq1 Zf=>?_
 .obtain⟨v,_,rfl⟩:=dF.mp hd;exact hk
 .obtain⟨v,_,rfl⟩:=dF.mp hd;exact⟨pJ Z',hk⟩
 rw[d9,Ii];have sq1:=qH.new (c:=.lst ((l.groups.filter wD).map λg=>D.tup [.str g.1,.int 0])) Zf;refine i' pS (i' (xN (λg:uY=>g.1) (λ_=>D.int 0) _) ⟨zi (iH (List.Sublist.map _ gc) (iH (jE _ _) ok.nd)),λnx Yr=>?_⟩);have z3:M nx=Fa:=sr kk5 b5 (sq1.none Yr);obtain⟨n6,e6,k6,c6,b6⟩:=tX (fs':=(bF p h ca le nx 0 6)) (c:=.dk ((l.groups.filter wD).map λg=>((Sum.inr g.1:rM),D.int 0))) (sq1 _ _ b5) Yr;refine pN e6 ⟨(G.E "nexts" Z'),by show 5<1000;decide,?_⟩;have k6:=sq1.keep.trans k6;have eput:wR "nexts" (.ref nx) (bF p h ca le 0 0 5)=(bF p h ca le nx 0 6):=rfl;rw[eput];generalize pT (pT (pT N5 q1 (.lst ((l.groups.filter wD).map λg=>D.tup [.str g.1,.int 0]))) nx (.dk ((l.groups.filter wD).map λg=>((Sum.inr g.1:rM),D.int 0)))) b (.ins a.c (bF p h ca le nx 0 6))=N6 at k6 b6 c6 ⊢;have x6:zX N6 nx=ga ((l.groups.filter wD).map λg=>((Sum.inr g.1:rM),D.int 0)):=CM c6;have kk6:=kk5.trans k6;have lc6:=k6.lst (qo lc5 b5) lc5;have le6:=k6.lst (qo le5 b5) le5;have p6:=kk6 _ _ nbp i1;have o6:=kk6.lst (qo i5 hb) i5;clear kk5 k6 lc5 p5 g5 e6 c6;refine pN p6 (i' Z' (i' o6 λZV hon=>?_));have z4:M ZV=Fa:=sr kk6 b6 hon;obtain⟨n7,e7,k7,c7,b7⟩:=tX (fs':=(bF p h ca le nx ZV 7)) (c:=.lst (l.mT.map λw=>D.bl w.1)) b6 hon;refine pN e7 ⟨(G.E "on" Z'),by show 6<1000;decide,?_⟩;have eput:wR "on" (.ref ZV) (bF p h ca le nx 0 6)=(bF p h ca le nx ZV 7):=rfl;rw[eput];generalize pT (pT N6 ZV (.lst (l.mT.map λw=>D.bl w.1))) b (.ins a.c (bF p h ca le nx ZV 7))=N7 at k7 b7 c7 ⊢;have kk7:=kk6.trans k7;have lc7:=k7.lst (qo lc6 b6) lc6;have le7:=k7.lst (qo le6 b6) le6;have x7:=k7.dk (Cp x6 b6) x6;have lo7:oU N7 ZV=ga ((l.mT.map (·.1)).map D.bl):=by rw[eA];exact sd c7
 refine⟨pJ Z',λlg hlg=>?_⟩;obtain⟨n8,e8,k8,c8,b8⟩:=tX (fs':=uz (.ref p) h 0 ca le nx ZV lg) (c:=.lst []) b7 hlg;refine pN e8 ⟨(G.E "log" Z'),by show 7<1000;decide,_,.refl,?_⟩;have apart:∀{N:Mp} {x y:Uf} {ds:T0 D},N x=Fa->oU N y=ga ds->x≠y:=λ{N x y ds} h1 h2 z=>by have:=qm h2;rw[<-z,h1]at this;cases this
 have y5:=sr kk7 b7 hlg;refine q _ ⟨b,ca,le,nx,ZV,lg,[]⟩ Z' (kk7.trans k8) (λx hx=>?_) ⟨b8,k8.lst (qo lc7 b7) lc7,k8.lst (qo le7 b7) le7,?_,k8.lst (qo lo7 b7) lo7,sd c8,Z',λi k c e=>by simp at e,?_,dW.mpr ⟨dX,eM⟩,λx hx=>?_⟩
 rotate_right
 .by_cases z:x=b
  .exact⟨_,by rw[z];exact b8⟩
  .obtain⟨c,e⟩:=hF x hx;exact⟨c,(kk7.trans k8) x c z e⟩
 .have hx:x∈[b,nx,ca,le,ZV,lg]:=by
   unfold tG.foot tG.lists at hx
   simpa using hx
  simp only[dz,dX,fR]at hx;rcases hx with rfl|rfl|rfl|rfl|rfl|rfl
  .exact .inl Z'
  .exact .inr z3
  .exact .inr z1
  .exact .inr z2
  .exact .inr z4
  .exact .inr y5
 .show zX _ nx=ga (uj (vJ l));rw[<-Ld];exact k8.dk (Cp x7 b7) x7
 .have m1:=apart hlg lc7;have m2:=apart hlg le7;have m3:=apart hlg lo7;have m4:=apart hon lc6;have m5:=apart hon le6;show[ca,le,ZV,lg].Nodup;simp only[dW,dz,dX,fR,gN,not_false_eq_true,eM,and_true];exact⟨⟨dZ mcl,dZ m4,dZ m1⟩,⟨dZ m5,dZ m2⟩,dZ m3⟩
def Wa{p:Uf}{F:QXQ}(ok:rb l):WF l (V0 p h l F):=by
 refine⟨λi c e=>by simp[V0]at e,λi j ci cj x e=>by simp[V0]at e,λx hx=>?_,λi j ci cj x e=>by simp[V0]at e,λz hz ht=>?_⟩
 .show((0:Nat):Int)<=xt l x;unfold xt;cases e:l.nA x with
  | none=>exact Int.le_refl _
  | some v=>have:=(ok.po v (gp e)).l1;show(0:Int)<=v.2.1;lia
 .show ∃v,(vJ l).find? (λp=>decide (p.1=z))=ga v/\_;unfold pV.m8 at ht;cases e:l.group z with
  | none=>rw[e]at ht;exact absurd ht (by decide)
  | some g=>
   rw[e]at ht;have hg:=gp e;have hn:g.1=z:=by simpa using mB e
   have hm:((g.1,0):Str×Int)∈vJ l:=dF.mpr ⟨g,fL.mpr ⟨hg,ht⟩,Z'⟩;cases q:(vJ l).find? (λp=>decide (p.1=z))with
   | none=>exact absurd (gX.mp q _ hm) (by simp[hn])
   | some v=>refine⟨v,Z',?_⟩;obtain⟨g',_,rfl⟩:=dF.mp (gp q);exact⟨Int.le_refl _,Int.natCast_nonneg _⟩
noncomputable def qG.at_(V:qG)(p:Uf)(F:QXQ):qG:={V with p:=p,fo:=F}
def JD(V:qG)(p:Uf)(F:QXQ)(e:Ev):qD (V.at_ p F) e=(qD V e).at_ p F:=by cases e<;>rfl
theorem zR(p:Uf)(F:QXQ):∀(es:T0 Ev) (V:qG),qY (V.at_ p F) es=(qY V es).at_ p F
 | [],_=>rfl
 | e::r,V=>by show qY (qD (V.at_ p F) e) r=_;rw[JD,zR p F r];rfl
def xC(c:pQ):D:=.tup [.str c.st,.str c.cr,.tup (c.way.map D.str),.tup (c.at_.map D.str),.tup (c.ms.map D.str),BX c.hd,.int c.si,BX c.wd]
def VN(V:qG):D:=.tup [.int V.t,.tup (V.calls.map xC),.tup ((tY V.ps).map AA),.tup (V.on.map D.bl)]
def RB(a:Ad):rQ:=λds M Q=>D4 λL k c=>ds=[.ref k.p]/\sG a M L k c/\Q (xC c) M
def Ie(a:Ad):rQ:=λds M Q=>Cv λA V=>ds=[.ref A.b]/\pY a M A V/\V.calls.length<=10000/\V.ps.length<=3/\Q (VN V) M
def A9(ok:rb l):(vJ l).length<=3:=by unfold vJ;rw[cX];exact eh (gk _ _) ok.g3
def PB:Fq P w K mg base 1 a.aY (RB a):=by
 refine fq G.aY.toDG xO (λr u=>⟨_,(pL (qc 1 xO (qe (rP (qr sY Z' G.z tq (qz (pR v0))) (qr sY Z' G.z tq (qz (pR v0))) (qr sY Z' G.z tq (qz (pR v0))))))
 (pM (pU (qp (qp (qe (r6 (pR v0) (pR v0))) Y1) (qe (rP (pR v0) (pR v0) (pR v0))))))),?_⟩)
 rintro ds M Q ⟨L,k,c,rfl,⟨ad,md,h1,h2,h3,h4,_⟩,q⟩
 have hz:=dO;refine pN h1 (i' Z' (i' h2 (pN h1 (i' Z' (i' h3 (pN h1 (i' Z' (i' h4 ⟨pJ Z',?_⟩))))))));refine pN h1 (i' Z' (pN h1 (i' Z' ⟨pJ Z',fA _ _,by show 2+3<=Ch;lia,?_⟩)));exact pN h1 (i' Z' (pN h1 (i' Z' (pN h1 (i' Z' ⟨pJ Z',fA _ _,by show 5+3<=Ch;lia,M,.refl,q⟩)))))
def xo:Fq P w K mg base 2 a.N (Ie a):=by
 refine fq G.N.toDG Cg (λr u=>⟨_,(pL (qc 1 Cg (qr sY Z' G.z tq (qz (qT Z' (xV (ix:=[Fa]) (N':=["call"])) (ra (pR v0)) (qN 0) sf (pW (PB G) r G.aY (qz v0))))))
 (pM (pU (qe (qw (pR v0) (rP Y1 (qr sY Z' G.z tq (qz (E4 Z' (pR v0) Z' G.cJ))) (qr sY Z' G.z tq (qz (pR v0))))))))),?_⟩)
 rintro ds M Q ⟨A,V,rfl,bd,YM,h3,q⟩
 have hz:=dO;refine pN bd.at_ (i' Z' (i' bd.ca ?_));refine yO (A.cs.map λk=>D.ref k.p) (λpre acc U M'=>M=M'/\acc=(V.calls.take pre.length).map xC/\∃y,U=[y]) (λ_ _ _ M' j=>by rw[<-j.1];exact bd.ca) _ [] [] _ _ Z' ?_ ⟨Z',Z',Fa,Z'⟩ ?_ ?_
 .rw[cX,bd.len];simp only[dN];lia
 .rintro pre d post e acc U M' ⟨rfl,rfl,y,rfl⟩ k hk
  obtain⟨ka,c,e1,e2,rfl,hc,et⟩:=Ff bd e;refine⟨_,ka,c,Z',hc,hk _ _ _ ⟨Z',?_,_,Z'⟩⟩;rw[c9,dI,et,dP];rfl
 .rintro acc U M' ⟨rfl,rfl,y,rfl⟩ p1 Zy
  rw[cX,bd.len,fh];refine i' pS ?_;have s1:=qH.new (c:=.lst (V.calls.map xC)) Zy;generalize pT M p1 (.lst (V.calls.map xC))=M1 at s1 ⊢;refine pN (s1 _ _ bd.at_) (i' Z' (pN (s1 _ _ bd.at_) (i' Z' ⟨V.ps,s1.dk bd.nx,h3,λS hS=>i' pS ?_⟩)));have s2:=s1.trans (qH.new (c:=.lst ((tY V.ps).map AA)) hS);generalize pT M1 S (.lst ((tY V.ps).map AA))=M2 at s2 ⊢;exact pN (s2 _ _ bd.at_) (i' Z' (i' (s2.lst bd.on) ⟨pJ Z',M,s2,q⟩))
def Ev.noT:Ev->Prop
 | .turn=>False
 | .sw _ _=>False
 | _=>True
def Ev.noN:Ev->Prop
 | .next _ _=>False
 | _=>True
theorem Gx:∀{es:T0 Ev} {V:qG},(∀e∈es,e.noN)->(qY V es).ps=V.ps
 | [],_,_=>rfl
 | e::r,V,h=>(Gx (es:=r) (V:=qD V e) λx hx=>h x (dD _ hx)).trans (by have:=h e dH;cases e<;>first|rfl|cases this)
theorem Cf(i:Nat):∀(st:tV) (q:Option Str),∀e∈sv i q st,e.noT/\e.noN
 | [],_,e,h=>by unfold sv at h;cases h
 | (y,gs)::r,Fa,e,h=>by
  rcases dz.mp (show e∈Ev.asks i y gs::sv i (ga y) r from h)with rfl|h
  .exact⟨trivial,trivial⟩
  .exact Cf i r _ e h
 | (y,gs)::r,ga u,e,h=>by
  rcases dz.mp (show e∈Ev.leg ⟨i,u,y,u⟩::Ev.asks i y gs::sv i (ga y) r from h)with rfl|h
  .exact⟨trivial,trivial⟩
  rcases dz.mp h with rfl|h
  .exact⟨trivial,trivial⟩
  .exact Cf i r _ e h
def Ra{st:tV}:∀e∈uI i st en,e.noT/\e.noN:=λe h=>by
 unfold uI at h;cases en with
 | ring ns=>
  dsimp only at h;cases q:st.getLast? with
  | none=>rw[q]at h;cases h
  | some s0=>rw[q]at h;rw[dB.mp h];exact⟨trivial,trivial⟩
 | _=>cases h
def Qe{ps:T0 (Str×Int)}{z:Str}{n:Int}(h:ps.any (λp=>decide (p.1=z))=Db):(Dh ps z n).length=ps.length:=by unfold Dh;rw[dh h,cX]
def Tv{V V1:qG}(nx:uP l V1)(he:Ho l V i en):(qY V1 (tO l V i en)).ps.length=V1.ps.length:=by
 cases en with
 | rings z ps=>
  show(qY V1 ((if (l.m8 z=="turns")=Db then[Ev.next z (RU (l.mS z) (ps.headD Str.empty))]else[])++[.rings i ps])).ps.length=_;rw[su];by_cases ht:(l.m8 z=="turns")=Db
  .rw[dh ht];refine Qe ?_;obtain⟨v,e,_⟩:=nx z he.1 ht;exact gB.mpr ⟨v,gp e,by simpa using mB e⟩
  .rw[df ht];rfl
 | breaks z=>
  unfold tO;dsimp only;split
  .rfl
  .rfl
 | waits z=>rfl
 | engaged z=>rfl
 | barred=>rfl
 | ring ns=>rfl
def Sb{V:qG}{i:Nat}{k:pQ}(ok:rb l)(wf:AH l V (ga i))(hk:V.calls[i]?=ga k):(qY V (vZ l V i)).ps.length=V.ps.length:=by
 have Zq:=wf.ok i k hk;unfold vZ;rw[hk];dsimp only[Option.elim];obtain⟨z,hz⟩:∃z,k.way.getLast?=ga z:=by
  cases e:k.way.getLast? with
  | none=>exact absurd (gL.mp e) Zq.wy.1
  | some z=>exact⟨z,Z'⟩
 rw[show k.way.getLastD Str.empty=z by rw[iw,hz];rfl];have ro:yE l V k.cr (l.nm.length+1) [] (vq l V k.cr z k.way.dropLast):=Ax ok _ _ _ _ (Zq.wy.2 z (jf hz)) λx hx=>Zq.wy.2 x (jg _ hx);have eo:=OO ok wf hk ro.e;generalize vq l V k.cr z k.way.dropLast=R at eo;obtain⟨e,st⟩:=R;have e1:(qY (qY V (sv i Fa st)) (uI i st e)).ps=V.ps:=(Gx λx hx=>(Ra x hx).2).trans (Gx λx hx=>(Cf i st Fa x hx).2);rw[su,su];refine(Tv (λz hz ht=>?_) eo).trans (eR List.length e1);rw[e1];exact wf.nx z hz ht
theorem JP(ok:rb l):∀(is:T0 Nat) {V:qG},WF l V->(qY V (rX l is V)).ps.length=V.ps.length
 | [],V,_=>by unfold rX;rfl
 | i::r,V,wf=>by
  unfold rX;rw[su];refine(JP ok r (J4 ok wf)).trans ?_;have d:=Iu (V:=V) (i:=i) ok;generalize yS l V i=fs at d;cases d with
  | no=>rfl
  | on c k r b x y n hc hs hk hw hy=>rw[AO hk,su];exact Sb ok (FX wf hc hs hy) (FK hc)
def VW{V:qG}{e:rc}(ok:rb l)(wf:WF l V)(f:e.nz)(h:vM l V e=Fa):(qY V (xf l V e)).ps.length=V.ps.length:=by
 cases e with
 | call y z=>obtain⟨h1,h2,h3,h4⟩:=Fi h;obtain⟨k,hk⟩:=NK (V:=V) (y:=y) (z:=z);show(qY V (_++vZ l _ _)).ps.length=_;rw[su];exact Sb ok (Ja wf h1 h2 h3 h4) hk
 | turn=>exact JP ok _ (Fh wf)
 | sw b i=>rfl
 | num w x ns=>
  refine eR List.length (Gx λev hev=>?_);obtain⟨_,n⟩:=Io f h;cases n with
  | answer i c hi hc h1 h2 h3=>rw[dB.mp (show ev∈[Gr V "answer" x i.toNat]from hev),Au hc];trivial
  | hang i c hi hc h1=>
   have hev:ev∈xI V x i.toNat:=hev;unfold xI at hev;rw[hc]at hev;dsimp only[Option.elim]at hev;split at hev
   .rw[dB.mp hev];trivial
   split at hev
   .rcases dz.mp hev with rfl|hev
    .trivial
    split at hev
    .rw[dB.mp hev];trivial
    .cases hev
   split at hev
   .rw[dB.mp hev];trivial
   .rw[dB.mp hev];trivial
  | hold i c hi hc h1=>rw[dB.mp (show ev∈[Gr V "hold" x i.toNat]from hev),Au hc];trivial
  | back i c hi hc h1 h2=>rw[dB.mp (show ev∈[Gr V "back" x i.toNat]from hev),Au hc];trivial
  | two _ i j c d hi hj hw hc hd h1 h2=>rw[dB.mp (show ev∈[Hh V w x i.toNat j.toNat]from hev),Jb hc hd];trivial
theorem EO(n:Nat):∀ss:QQQ,(ss.map D.str).all (tR n)=Db
 | []=>rfl
 | s::r=>by rw[d6,fv,EO n r];cases n<;>rfl
theorem GY(n:Nat):∀ss:T0 Bool,(ss.map D.bl).all (tR n)=Db
 | []=>rfl
 | s::r=>by rw[d6,fv,GY n r];cases n<;>rfl
def OV{n:Nat}(V:qG):tR (n+4) (VN V)=Db:=by
 have c1:∀c∈V.calls,tR (n+2) (xC c)=Db:=λc hc=>by
  have h0:∀o:Option Str,tR (n+1) (BX o)=Db:=λo=>by cases o<;>rfl
  have t:∀ss:QQQ,tR (n+1) (.tup (ss.map D.str))=Db:=λss=>EO n ss;show([D.str c.st,.str c.cr,.tup (c.way.map D.str),.tup (c.at_.map D.str),.tup (c.ms.map D.str),BX c.hd,.int c.si,BX c.wd].all (tR (n+1)))=Db;simp only[fv,t,h0];rfl
 have c2:tR (n+3) (.tup (V.calls.map xC))=Db:=by show(V.calls.map xC).all (tR (n+2))=Db;rw[jc,eF];exact c1
 have c3:tR (n+3) (.tup ((tY V.ps).map L3.AA))=Db:=by show((tY V.ps).map L3.AA).all (tR (n+2))=Db;rw[jc,eF];exact λx _=>rfl
 have c4:tR (n+3) (.tup (V.on.map D.bl))=Db:=GY (n+2) _;show([D.int V.t,.tup (V.calls.map xC),.tup ((tY V.ps).map L3.AA),.tup (V.on.map D.bl)].all (tR (n+3)))=Db;simp only[fv,c2,c3,c4];rfl
noncomputable def BZ(c:pQ):QQQ:=if (c.st=="talks"||c.st=="held")=Db then c.ms else c.cr::c.at_
def Ly(a:Ad):rQ:=λds M Q=>D4 λL k c=>ds=[.ref (rZ.p k)]/\sG a M L k c/\c.at_.length<=100/\∀r M',qH M M'->oU M' r=ga ((BZ c).map D.str)->Q (.ref r) M'
def Ol(V:qG)(Zt:QQQ):T0 Nat:=(List.range V.calls.length).filter λi=>(V.calls[i]?).elim pc λc=>hasS Zt c.st
def Rg(a:Ad):rQ:=λds M Q=>B0 λA V l Zt=>ds=[.ref A.b,.tup (List.map D.str Zt)]/\Rd a M A V l/\∀r M',qH M M'->oU M' r=ga ((Ol V Zt).map λn=>D.int (n:Nat))->Q (.ref r) M'
def Uk(V:qG)(Zt:QQQ):D->Bool
 | .int n=>(V.calls[n.toNat]?).elim pc λc=>hasS Zt c.st
 | _=>pc
def LG:Fq P w K mg base 1 a.bv (Ly a):=by
 refine fq G.bv.toDG D8 (λr u=>⟨_,(pL (qh (W3.b3 (xQ (pX u (pR v0) pP) (xx (pX u (pR v0) pP))))
 (pM (pU (qr s8 Z' G.q sO (qz (pR v0)))))
 qa)
 (pM (pU (qp (qX (qz (pR v0))) (qr s8 Z' G.q sO (qz (pR v0))))))),?_⟩)
 rintro ds M Q ⟨L,k,c,rfl,⟨ad,md,h1,h2,h3,h4,_⟩,ha,q⟩
 have hz:=dO;unfold BZ at q;refine pN h1 (i' Z' (qU (c:=c.st=="talks") (λg=>?_) (λg=>?_)))
 .rw[g,hZ,dh Z']at q;exact pN h1 (i' Z' (i' h4 λr hr=>⟨_,.refl,q r _ (.new hr) pS⟩))
 rw[dQ.mpr g,fO]at q;refine pN h1 (i' Z' (qU (c:=c.st=="held") (λg=>?_) (λg=>?_)))
 .rw[dh g]at q;exact pN h1 (i' Z' (i' h4 λr hr=>⟨_,.refl,q r _ (.new hr) pS⟩))
 rw[df g]at q;refine pN h1 (i' Z' ⟨pJ Z',λr1 Y5=>?_⟩);have t1:=qH.new (c:=.lst [D.str c.cr]) Y5;have l1:=@pS M r1 [D.str c.cr];show AR (pT M r1 (.lst [D.str c.cr]) k.p) _;generalize pT M r1 (.lst [D.str c.cr])=M1 at t1 l1 ⊢;refine pN (t1 _ _ h1) (i' Z' (i' (t1.lst h3) λr2 hr2=>?_));have t2:=qH.new (c:=.lst (c.at_.map D.str)) hr2;refine i' (t2.lst l1) (i' pS ⟨?_,λr3 hr3=>⟨_,.refl,q r3 _ (t1.trans (t2.trans (.new hr3))) pS⟩⟩);rw[cX];show 1+c.at_.length<=Ch;lia
def Ql:Fq P w K mg base 1 a.bw (Rg a):=by
 refine fq G.bw.toDG BV (λr u=>⟨_,(pM (pU (qT Z' (xV (ix:=[Fa,ga 0,ga 1]) (N':=["_law_k","_law_board","_law_states"])) (vO Z' G.Q (qz (ql qR Z' G.g qO (qz (pR v0))))) (qN 0) (vS (pX u (pR (pZ (pR Y1) v0)) Y2)) v0))),?_⟩)
 rintro ds M Q ⟨A,V,l,Zt,rfl,rd,q⟩
 have hz:=dO;have lc:((A.cs.map λk=>D.ref k.p).length:Int)=(V.calls.length:Nat):=by rw[cX,rd.bd.len]
 have hb:=rd.k;refine pN rd.bd.at_ (i' Z' (i' rd.bd.ca ?_));rw[lc];refine⟨Z',⟨by lia,by lia⟩,?_⟩;refine uo (f:=id) (t:=Uk V Zt) trivial _ [] _ (by rw[cX,eD];simp only[dN];lia) (λd hd k hk=>?_) (λd hd _ k hk=>?_) λr hr=>?_
 .obtain⟨i,hi,rfl⟩:=dF.mp hd;rw[fU]at hi;have hi:i<V.calls.length:=by lia
  obtain⟨k',ek,⟨ad,md,h1,_⟩⟩:=rd.call (cZ hi);have ea:wY (A.cs.map λk=>D.ref k.p) (0+(i:Nat))=ga (.ref k'.p):=by rw[lB];exact rS ek
  refine pN rd.bd.at_ (i' Z' (i' Z' (i' rd.bd.ca (i' ea (pN h1 (i' Z' (i' Z' ⟨Z',qP _,?_⟩)))))));show k (inD (.str V.calls[i].st) (Zt.map D.str)) M;rw[tF];have e1:Uk V Zt (.int (0+(i:Nat)))=hasS Zt V.calls[i].st:=by show(V.calls[(0+(i:Int)).toNat]?).elim pc _=_;rw[show(0+(i:Int)).toNat=i by lia,cZ hi];rfl
  show k (hasS Zt V.calls[i].st) M;rw[<-e1];exact hk
 .exact hk
 .refine⟨_,.refl,q r _ (.new hr) (pS.trans (eR ga ?_))⟩;rw[d9,jp,gW,show(((V.calls.length:Nat):Int)).toNat=V.calls.length from rfl];unfold Ol;have e1:(Uk V Zt∘λi:Nat=>D.int (0+(i:Nat)))=λi=>(V.calls[i]?).elim pc λc=>hasS Zt c.st:=funext λi=>by show(V.calls[(0+(i:Int)).toNat]?).elim pc _=_;rw[show(0+(i:Int)).toNat=i by lia]
  rw[e1];exact gy λi _=>by rw[lB]
noncomputable def GO:Str->QQQ:=λw=>if (w=="answer")=Db then["rings","waits"]else if (w=="hold")=Db then["talks"]else if (w=="hang")=Db then["rings","waits","talks","held"]else["held"]
def Ua(w:Str):Prop:=w="answer"\/w="hang"\/w="hold"\/w="back"\/w="hand"\/w="join"
def La(a:Ad):rQ:=λds M Q=>GD λA V l c w=>ds=[.ref A.b,.int c,.str w,.tup ((GO w).map D.str)]/\Rd a M A V l/\WF l V/\(∀k∈V.calls,k.at_.length<=100)/\Ua w/\∀M',qH M M'->Q .mY M'/\∀e:rc,e.nz->Q e.d M'
def Ux{n:Nat}{a b:Uf}{ds:T0 D}(ha:oU M a=ga ds)(hb:oU M b=ga []):wg M (n+1) (.ref a) (.ref b)=ga ds.isEmpty:=by
 show(oU M a).bind (λi=>(oU M b).bind λj=>if i.length=j.length then rq (wg M n) i j else ga pc)=_;rw[ha,hb];cases ds with
 | nil=>rfl
 | cons x r=>rfl
def vm{α:Type}(f:α->D){xs:List α}(h:xs≠[])(c k:Int):(0:Int)<((xs.map f).length:Nat)/\∃x∈xs,wY (xs.map f) (qM c k ((xs.map f).length:Nat))=ga (f x):=by
 have hp:(0:Int)<((xs.map f).length:Nat):=by have:=fB.mpr h;rw[cX];lia
 have d0:=rL (c:=c) (f:=k) hp;have d1:=rg (c:=c) (f:=k) hp;obtain⟨n,e⟩:=eG d0;rw[e]at d1 ⊢;have hn:n<xs.length:=by rw[cX]at d1;lia
 exact⟨hp,xs[n],gO hn,vK (by rw[dG,cZ hn];rfl)⟩
def T9{V:qG}{i:Nat}(h:i∈Ol V Zt):∃c,V.calls[i]?=ga c/\c.st∈Zt:=by
 have h:=(fL.mp h).2;cases e:V.calls[i]? with
 | none=>rw[e]at h;cases h
 | some c=>rw[e]at h;exact⟨c,Z',rG.mp h⟩
def EM{c:pQ}(k:wK l pc c)(h:c.st≠"over"):BZ c≠[]:=by
 unfold BZ;split
 .rename_i g;rcases k.sh with z|⟨_,z|z|⟨_,z⟩|z⟩
  .rw[z.1]at g;exact absurd g (by decide)
  .rw[z.1]at g;exact absurd g (by decide)
  .intro y;rw[y]at z;rcases z.2.1 with u|u<;>cases u
  .intro y;rw[y]at z;cases z.2.1
  .exact absurd z.1 h
 .exact fA _ _
def US{c:pQ}(k:wK l pc c)(h:c.st∈GO "answer"):c.at_≠[]:=by
 have h:c.st="rings"\/c.st="waits":=by
  rcases dz.mp h with g|g
  .exact .inl g
  .exact .inr (dB.mp g)
 rcases k.sh with z|⟨_,z|z|⟨_,z⟩|z⟩
 .exact z.2.2.2.2.2 Z'
 .intro y;rw[y]at z;cases z.2.2.2.2
 all_goals(rw[z.1]at h;exact absurd h (by decide))
def KO{c:pQ}(k:wK l pc c)(h:c.st="held"):∃x,c.hd=ga x:=by
 rcases k.sh with z|⟨_,z|z|⟨x,z⟩|z⟩
 .rw[h]at z;exact absurd z.1 (by decide)
 .rw[h]at z;exact absurd z.1 (by decide)
 .rw[h]at z;exact absurd z.1 (by decide)
 .exact⟨x,z.2.2.1⟩
 .rw[h]at z;exact absurd z.1 (by decide)
def KY:Fq P w K mg base 4 a.bx (La a):=by
 refine fq G.bx.toDG se (λr u=>⟨_,(pL (qc 4 se (pW (Ql G) r G.bw (r6 v0 Y3)))
 (pL (qh (pX u v4 (qX sT))
 (pM (pU sD))
 qa)
 (pL (qc 5 se (pZ v4 (pW (qW G) r G.i (rP Y1 pO (ql qR Z' G.g qO (qz v4))))))
 (pL (qc 6 se (pW (LG G) r G.bv (qz (pZ (pR v0) v5))))
 (pL (qh (pX u Y2 pP)
 (pM (qc 6 se (qr s8 Z' G.q sO (qz (pR (pZ (pR v0) v5))))))
 qa)
 (pL (qh (W3.b3 (xQ (pX u Y2 pP) (xQ (pX u Y2 pP) (xx (pX u Y2 pP)))))
 (pM (qc 6 se (qX (qz (pR (pZ (pR v0) v5))))))
 qa)
 (pL (qc 7 se (pZ v6 (pW (qW G) r G.i (rP Y1 pO (ql qR Z' G.g qO (qz v6))))))
 (pL (qh (W3.b3 (xQ (pX u Y2 pP) (xx (pX u Y2 pP))))
 (pL (qc 8 se (qu v0 G.c.toCls G.Y (zv G) r (qz v7)))
 (pM (pU (qe (qw Y2 (rP v7 v5 (RW (pX u v8 sD) pO v8)))))))
 qa)
 (pM (pU (qe (rP Y2 v7 v5)))))))))))),?_⟩)
 rintro ds M Q ⟨A,V,l,c,wd,rfl,rd,wf,ha,ho,q⟩
 have hz:=dO;refine⟨A,V,l,GO wd,Z',rd,λr M1 s1 lr=>?_⟩;refine⟨pJ Z',λr0 hr0=>?_⟩;have t2:=qH.new (c:=.lst []) hr0;have lr2:=t2.lst lr;refine i' (Ux lr2 pS) ?_;have s2:=s1.trans t2;generalize pT M1 r0 (.lst [])=M2 at s2 lr2 ⊢;clear t2 lr hr0 s1;refine qU (c:=((Ol V (GO wd)).map λn=>D.int (n:Nat)).isEmpty) (λ_=>⟨M2,.refl,(q M2 s2).1⟩) (λg=>?_);have gne:Ol V (GO wd)≠[]:=λz=>g (by rw[z];rfl);obtain⟨hp,i,hi,ei⟩:=vm (λn:Nat=>D.int (n:Nat)) gne c 40692;obtain⟨cv,hc,hs⟩:=T9 hi;have rd2:=rd.sub s2;obtain⟨k,ek,ca⟩:=rd2.call hc;have ca0:=ca;obtain⟨ad,md,h1,h2,h3,h4,_⟩:=ca0;have Zq:=wf.ok i cv hc;refine i' lr2 ⟨c,_,_,Z',hp,i' lr2 (i' ei ?_)⟩;refine pN rd2.bd.at_ (i' Z' (i' Z' (i' rd2.bd.ca (i' (rS ek) ?_))));refine⟨_,k,cv,Z',ca,ha cv (rj hc),λr3 M3 s3 lr3=>?_⟩;have Y4:=s3 _ _ h1;have q3:=λM' (s:qH M3 M')=>q M' (s2.trans (s3.trans s));have rd3:=rd2.sub s3;have h3':=s3.lst h3;clear q lr2 s2 h1 h2 h3 h4 ca;rcases ho with rfl|rfl|rfl|rfl|rfl|rfl
 .
  refine pN rd3.bd.at_ (i' Z' (i' Z' (i' rd3.bd.ca (i' (rS ek) (pN Y4 (i' Z' (i' h3' λr4 hr4=>?_)))))));obtain⟨Yw,x,hx,ex⟩:=vm D.str (US Zq hs) c 742938285;refine i' pS ⟨c,_,_,Z',Yw,i' pS (i' ex ?_)⟩;exact⟨pJ Z',_,.refl,(q3 _ (.new hr4)).2 (.num "answer" x [(i:Nat)]) (.inl ⟨.inl Z',Z'⟩)⟩
 .
  obtain⟨Yw,x,hx,ex⟩:=vm D.str (EM Zq (λz=>by rw[z]at hs;exact absurd hs (by decide))) c 742938285;refine i' lr3 ⟨c,_,_,Z',Yw,i' lr3 (i' ex ?_)⟩;exact⟨pJ Z',_,.refl,(q3 _ .refl).2 (.num "hang" x [(i:Nat)]) (.inl ⟨.inr (.inl Z'),Z'⟩)⟩
 .
  obtain⟨Yw,x,hx,ex⟩:=vm D.str (EM Zq (λz=>by rw[z]at hs;exact absurd hs (by decide))) c 742938285;refine i' lr3 ⟨c,_,_,Z',Yw,i' lr3 (i' ex ?_)⟩;exact⟨pJ Z',_,.refl,(q3 _ .refl).2 (.num "hold" x [(i:Nat)]) (.inl ⟨.inr (.inr (.inl Z')),Z'⟩)⟩
 .
  obtain⟨y,hy⟩:=KO Zq (dB.mp hs);refine pN rd3.bd.at_ (i' Z' (i' Z' (i' rd3.bd.ca (i' (rS ek) (pN Y4 (i' Z' ⟨pJ Z',λr4 hr4=>?_⟩))))));rw[show BX cv.hd=.str y by rw[hy];rfl];obtain⟨Yw,x,hx,ex⟩:=vm D.str (fA y []) c 742938285;refine i' pS ⟨c,_,_,Z',Yw,i' pS (i' ex ?_)⟩;exact⟨pJ Z',_,.refl,(q3 _ (.new hr4)).2 (.num "back" x [(i:Nat)]) (.inl ⟨.inr (.inr (.inr Z')),Z'⟩)⟩
 all_goals
  obtain⟨y,hy⟩:=KO Zq (dB.mp hs);refine pN rd3.bd.at_ (i' Z' (i' Z' (i' rd3.bd.ca (i' (rS ek) (pN Y4 (i' Z' ⟨pJ Z',λr4 hr4=>?_⟩))))));rw[show BX cv.hd=.str y by rw[hy];rfl];obtain⟨Yw,x,hx,ex⟩:=vm D.str (fA y []) c 742938285;refine i' pS ⟨c,_,_,Z',Yw,i' pS (i' ex ?_)⟩;have t4:=qH.new (c:=.lst [D.str y]) hr4;refine pN (t4 _ _ rd3.bd.at_) ⟨Z',_,⟨Z',Z'⟩,A,V,x,Z',rd3.bd.sub t4,rd3.k,?_⟩;unfold Bl;cases wA V x with
  | none=>first|exact⟨pJ Z',_,.refl,(q3 _ t4).2 (.num "hand" x [(i:Nat),(0:Nat)]) (.inr ⟨.inl Z',Z'⟩)⟩|exact⟨pJ Z',_,.refl,(q3 _ t4).2 (.num "join" x [(i:Nat),(0:Nat)]) (.inr ⟨.inr Z',Z'⟩)⟩
  | some j=>first|exact⟨pJ Z',_,.refl,(q3 _ t4).2 (.num "hand" x [(i:Nat),(j:Nat)]) (.inr ⟨.inl Z',Z'⟩)⟩|exact⟨pJ Z',_,.refl,(q3 _ t4).2 (.num "join" x [(i:Nat),(j:Nat)]) (.inr ⟨.inr Z',Z'⟩)⟩
def KG:rQ:=λds M Q=>Kg λc o n own nm m=>ds=[.int c,.ref o,.ref n,.int ((m:Nat):Int)]/\oU M o=ga (List.map D.str own)/\oU M n=ga (List.map D.str nm)/\own.length<=100/\nm.length<=100/\m<=1000000/\∀M' (e:rc),qH M M'->e.nz->Q e.d M'
def Mq(a:Ad):rQ:=λds M Q=>Sr λA V l c o n own nm=>ds=[.ref A.b,.int c,.ref o,.ref n]/\Rd a M A V l/\WF l V/\(∀k∈V.calls,k.at_.length<=100)/\oU M o=ga (List.map D.str own)/\oU M n=ga (List.map D.str nm)/\own≠[]/\nm≠[]/\own.length<=100/\nm.length<=100/\∀M' (e:rc),qH M M'->e.nz->Q e.d M'
def J0{α:Type}(f:α->D){xs:List α}(h:xs≠[]){m:Int}(hm:m=(xs.length:Nat))(c k:Int):(0:Int)<m/\∃x∈xs,wY (xs.map f) (qM c k m)=ga (f x):=by have:=vm f h c k;rw[cX,<-hm]at this;exact this
def Pe{α:Type}(xs:List α)(x:α):xs++[x]≠[]:=by simp
noncomputable def Ia:QQQ:=["call","call","call","call","call","answer","answer","answer","answer","answer","hang","hang","hold","hold","hold","back","hand","join","turn","turn","turn"]
theorem EA(d:D):∀n:Nat,(List.replicate n [d]).flatten=List.replicate n d
 | 0=>rfl
 | n+1=>by rw[eL,fP,EA d n,eL];rfl
noncomputable def zz:Str:="zzzzzz"
noncomputable def MJ(a b:Str)(k m:Int):List rc:=[.call a b,.num "answer" a [k],.num "hang" a [k],.num "hold" a [k],.num "back" a [k],.num "hand" a [k,m],.num "join" a [k,m],.turn,.sw Db k,.sw pc k]
def Md{a b:Str}{k m:Int}{e:rc}(h:e∈MJ a b k m):e.nz:=by
 unfold MJ at h;simp only[dz,dX,fR]at h;rcases h with rfl|rfl|rfl|rfl|rfl|rfl|rfl|rfl|rfl|rfl
 .trivial
 .exact .inl ⟨.inl Z',Z'⟩
 .exact .inl ⟨.inr (.inl Z'),Z'⟩
 .exact .inl ⟨.inr (.inr (.inl Z')),Z'⟩
 .exact .inl ⟨.inr (.inr (.inr Z')),Z'⟩
 .exact .inr ⟨.inl Z',Z'⟩
 .exact .inr ⟨.inr Z',Z'⟩
 .trivial
 .trivial
 .trivial
def Qb:Fq P w K mg base 2 a.bz KG:=by
 refine fq G.bz.toDG vf (λr u=>⟨_,(pL (qc 4 vf (pZ (qp Y1 (qX (qz pP))) (pW (qW G) r G.i (rP v0 pO (qp (ql qR Z' G.g qO (qz Y1)) pO)))))
 (pL (qc 5 vf (pZ (qp Y2 (qX (qz pP))) (pW (qW G) r G.i (rP v0 pO (qp (ql qR Z' G.g qO (qz Y2)) pO)))))
 (pL (qc 6 vf (qp (pW (qW G) r G.i (rP v0 pO (qp Y3 pO))) pO))
 (pL (qc 7 vf (qp (pW (qW G) r G.i (rP v0 pO (qp Y3 pO))) pO))
 (pL (qc 8 vf (qX (qw (qe (rP pP v4 v5)) (qw (qe (rP pP v4 v6)) (qw (qe (rP pP v4 v6)) (rP (qe (rP pP v4 v6)) (qe (rP pP v4 v6)) (qe (qw pP (rP v4 v6 v7)))))))))
 (pM (pU (pZ (qp v8 (qX (qw (qe (qw pP (rP v4 v6 v7))) (rP (qe (qz pP)) (qe (r6 pP v6)) (qe (r6 pP v6)))))) (pW (qW G) r G.i (rP v0 pO pO)))))))))),?_⟩)
 rintro ds M Q ⟨c,o,n,own,nm,m,rfl,ho,hn,ol,nl,ml,q⟩
 have hz:=dO;have add:∀{M1:Mp} {p:Uf} {xs:QQQ} (f:Int) (nx:DK),qH M M1->oU M1 p=ga (xs.map D.str)->xs.length<=100->(∀x M',qH M M'->nx (.str x) M')->∀r1,M1 r1=Fa->(oU (pT M1 r1 (.lst [D.str zz])) p).elim False λi=>(oU (pT M1 r1 (.lst [D.str zz])) r1).elim False λj=>i.length+j.length<=Ch/\∀r2,pT M1 r1 (.lst [D.str zz]) r2=Fa->(oU (pT (pT M1 r1 (.lst [D.str zz])) r2 (.lst (i++j))) p).elim False λys=>J7 [.int c,.int f,.int ((ys.length:Nat)+1)] (pT (pT M1 r1 (.lst [D.str zz])) r2 (.lst (i++j))) λy M2=>match y with
  | .int n=>(oU M2 r2).elim False λzs=>(wY zs n).elim False λd=>nx d M2
  | _=>False:=λ{M1 p xs} f nx s hx lx Yr r1 Y5=>by
  have t1:=qH.new (c:=.lst [D.str zz]) Y5;refine i' (t1.lst hx) (i' pS ⟨by rw[cX];show xs.length+1<=Ch;lia,λr2 hr2=>?_⟩);have t2:=qH.new (c:=.lst (xs.map D.str++[D.str zz])) hr2;obtain⟨hp,x,_,ex⟩:=J0 D.str (Pe xs zz) (m:=((xs.map D.str).length:Nat)+1) (by rw[cX,c9];rfl) c f;rw[dP]at ex;exact i' ((t1.trans t2).lst hx) ⟨c,f,_,Z',hp,i' pS (i' ex (Yr x _ (s.trans (t1.trans t2))))⟩
 refine⟨pJ Z',add 16807 _ .refl ho ol λx M1 s1=>⟨pJ Z',add 39373 _ s1 (s1.lst hn) nl λy M2 s2=>?_⟩⟩;refine⟨c,_,_,Z',by show(0:Int)<(m:Nat)+2;lia,⟨c,_,_,Z',by show(0:Int)<(m:Nat)+2;lia,?_⟩⟩;generalize qM c 69621 ((m:Nat)+2) - 1=k0;refine⟨pJ Z',pJ Z',pJ Z',pJ Z',pJ Z',pJ Z',pJ Z',λr8 hr8=>⟨pJ Z',pJ Z',pJ Z',pJ Z',pJ Z',λr9 hr9=>?_⟩⟩;have t8:=qH.new (c:=.lst (((MJ x y k0 (qM c 22695477 ((m:Nat)+2) - 1)).take 6).map rc.d)) hr8;have t9:=qH.new (c:=.lst (((MJ x y k0 (qM c 22695477 ((m:Nat)+2) - 1)).drop 6).map rc.d)) hr9;refine i' (t9.lst pS) (i' pS ⟨by show 6+4<=Ch;lia,λr10 hr10=>?_⟩);obtain⟨hp,e,he,ee⟩:=J0 rc.d (xs:=MJ x y k0 (qM c 22695477 ((m:Nat)+2) - 1)) (fA _ _) (m:=10) Z' c 1664525;exact⟨c,_,_,Z',hp,i' pS (i' ee ⟨_,.refl,q _ e (s2.trans (t8.trans (t9.trans (.new hr10)))) (Md he)⟩)⟩
def OK:Fq P w K mg base 5 a.bA (Mq a):=by
 refine fq G.bA.toDG sj (λr u=>⟨_,(pL (qc 4 sj (qp (qp (qp (qp (qp (DF (qX (qz pP)) pO) (DF (qX (qz pP)) pO)) (DF (qX (qz pP)) pO)) (DF (qX (qz pP)) pO)) (qX (rP pP pP pP))) (DF (qX (qz pP)) pO)))
 (pL (qc 4 sj (pZ v4 (pW (qW G) r G.i (rP Y1 pO (ql qR Z' G.g qO (qz v4))))))
 (pL (qc 5 sj (qe (qw pP (rP pP pP pP))))
 (pL (qh (pX u v4 pP)
 (pM (qc 5 sj (qe (r6 pP pP))))
 qa)
 (pL (qh (pX u v4 pP)
 (pM (qc 5 sj (qe (qz pP))))
 qa)
 (pL (qh (W3.b3 (xQ (pX u v4 pP) (xQ (pX u v4 pP) (xx (pX u v4 pP)))))
 (pM (qc 5 sj (qe (qz pP))))
 qa)
 (pL (qh (pX u v4 pP)
 (pM (pU (qe (qz pP))))
 qa)
 (pL (qh (pX u (pW (qW G) r G.i (rP Y1 pO pO)) pO)
 (pM (pU (pW (Qb G) r G.bz (qw Y1 (rP Y2 Y3 (ql qR Z' G.g qO (qz (pR v0))))))))
 qa)
 (pL (qc 6 sj sD)
 (pL (qh (pX u v4 pP)
 (pM (qc 6 sj (pW (KY G) r G.bx (qw v0 (rP Y1 v4 v5)))))
 qa)
 (pL (qh (pX u v6 sD)
 (pL (qc 7 sj (pZ Y2 (pW (qW G) r G.i (rP Y1 pO (ql qR Z' G.g qO (qz Y2))))))
 (pM (qc 6 sj (qe (rP pP v7 (pZ Y3 (pW (qW G) r G.i (rP Y1 pO (ql qR Z' G.g qO (qz Y3))))))))))
 qa)
 (pM (pU v6))))))))))))),?_⟩)
 rintro ds M Q ⟨A,V,l,c,o,n,own,nm,rfl,rd,wf,ha,ho,hn,one,nne,ol,nl,q⟩
 have hz:=dO;refine UL (t:=G1 _ _) (λU M'=>qH M M'/\∃r,oU M' r=ga (Ia.map D.str)/\U=[ga (.ref A.b),ga (.int c),ga (.ref o),ga (.ref n),ga (.ref r),Fa,Fa,Fa]) (λnx h=>?_) ?_
 .have one1:∀{N:Mp} {U:vT} (w0:Str) (m:Int) (nx:DK),qH M N->(0<=m/\m<=10)->(∀r N',qH M N'->qH N N'->oU N' r=ga ((List.replicate m.toNat w0).map D.str)->nx (.ref r) N')->We (V4 (wk (L3.c3 (.str w0)) xS)) (L3.c3 (.int m)) U N nx:=λ{N U} w0 m nx sn hm Yr=>by refine⟨pJ Z',λr1 Y5=>?_⟩;refine i' pS ⟨⟨by lia,by lia,by show 1<=1000;decide⟩,λr2 hr2=>?_⟩;have t:=(qH.new (c:=.lst [D.str w0]) Y5).trans (qH.new (c:=.lst (List.replicate m.toNat [D.str w0]).flatten) hr2);refine Yr r2 _ (sn.trans t) t (pS.trans (eR ga ?_));rw[List.map_replicate];exact EA _ _
  have Zu:∀{N:Mp} {p r:Uf} {xs ys:QQQ} (nx:DK),qH M N->oU N p=ga (xs.map D.str)->oU N r=ga (ys.map D.str)->xs.length+ys.length<=100->(∀r N',qH M N'->oU N' r=ga ((xs++ys).map D.str)->nx (.ref r) N')->WA .Add (.ref p) (.ref r) N nx:=λ{N p r xs ys} nx sn hx hy hl Yr=>by refine i' hx (i' hy ⟨by rw[cX,cX];lia,λr2 hr2=>?_⟩);refine Yr r2 _ (sn.trans (.new hr2)) (pS.trans (eR ga ?_));rw[dP]
  dsimp only[G1,o3];refine one1 "call" 5 _ .refl (by decide) λp1 N1 s1 _ l1=>one1 "answer" 5 _ s1 (by decide) λq2 N2 s2 t2 l2=>Zu _ s2 (t2.lst l1) l2 (by decide) λp2 N3 s3 l3=>one1 "hang" 2 _ s3 (by decide) λq4 N4 s4 t4 l4=>Zu _ s4 (t4.lst l3) l4 (by decide) λp5 N5 s5 l5=>one1 "hold" 3 _ s5 (by decide) λq6 N6 s6 t6 l6=>Zu _ s6 (t6.lst l5) l6 (by decide) λp7 N7 s7 l7=>⟨pJ Z',λr8 hr8=>?_⟩;have t8:=qH.new (c:=.lst ((["back","hand","join"]:QQQ).map D.str)) hr8;exact Zu (ys:=["back","hand","join"]) _ (s7.trans t8) (t8.lst l7) pS (by decide) λp9 N9 s9 l9=>one1 "turn" 3 _ s9 (by decide) λq10 N10 s10 t10 l10=>Zu _ s10 (t10.lst l9) l10 (by decide) λp11 N11 s11 l11=>h _ _ ⟨s11,p11,l11,Z'⟩
 rintro U M1 ⟨s1,r,lr,rfl⟩
 have s1n:=s1.lst hn;have s1o:=s1.lst ho;obtain⟨hp,w0,hw,ew⟩:=vm D.str (show Ia≠[]from fA _ _) c 48271;refine i' lr ⟨c,_,_,Z',hp,i' lr (i' ew ?_)⟩;obtain⟨Zy,x1,hx1,ex1⟩:=vm D.str one c 16807;obtain⟨Yw,x2,hx2,ex2⟩:=vm D.str nne c 39373;have rd1:=rd.sub s1;have lc:((A.cs.map λk=>D.ref k.p).length:Int)=(V.calls.length:Nat):=by rw[cX,rd.bd.len]
 clear lr hp ew;have hw:w0="call"\/w0="turn"\/Ua w0:=by unfold Ia at hw;simp only[dz,dX,fR]at hw;unfold Ua;rcases hw with h|h|h|h|h|h|h|h|h|h|h|h|h|h|h|h|h|h|h|h|h<;>simp[h]
 have Yn:∀M' (e:rc),qH M1 M'->e.nz->∃Yo,qH Yo M'/\Q e.d Yo:=λM' e s f=>⟨M',.refl,q M' e (s1.trans s) f⟩;rcases hw with rfl|rfl|hw
 .refine⟨pJ Z',c,_,_,Z',by decide,qU (c:=qM c 950706376 9==0) (λ_=>pN rd1.bd.at_ (i' Z' (i' rd1.bd.ca ?_))) (λ_=>?_)⟩
  .rw[lc];exact⟨c,o,n,own,nm,V.calls.length,Z',s1o,s1n,ol,nl,rd.k,Yn⟩
  exact i' s1o ⟨c,_,_,Z',Zy,i' s1o (i' ex1 (i' s1n ⟨c,_,_,Z',Yw,i' s1n (i' ex2 ⟨pJ Z',Yn M1 (.call x1 x2) .refl trivial⟩)⟩))⟩
 .exact⟨pJ Z',pJ Z',Yn M1 .turn .refl trivial⟩
 have lany:KG [.int c,.ref o,.ref n,.int ((V.calls.length:Nat):Int)] M1 λd M'=>∃Yo,qH Yo M'/\Q d Yo:=⟨c,o,n,own,nm,V.calls.length,Z',s1o,s1n,ol,nl,rd.k,Yn⟩;have hw':=hw;rcases hw with rfl|rfl|rfl|rfl|rfl|rfl
 all_goals
  first
   | refine⟨pJ rfl,pJ rfl,c,_,_,rfl,by decide,qU (c:=qM c 950706376 9==0) (λ_=>pN rd1.bd.at_ (i' rfl (i' rd1.bd.ca ?_))) (λ_=>⟨A,V,l,c,_,rfl,rd1,wf,ha,hw',λM' s=>⟨?_,λe f=>?_⟩⟩)⟩
   | refine⟨pJ rfl,c,_,_,rfl,by decide,qU (c:=qM c 950706376 9==0) (λ_=>pN rd1.bd.at_ (i' rfl (i' rd1.bd.ca ?_))) (λ_=>⟨A,V,l,c,_,rfl,rd1,wf,ha,hw',λM' s=>⟨?_,λe f=>?_⟩⟩)⟩
  .rw[lc];exact lany
  .exact i' (s.lst s1o) ⟨c,_,_,Z',Zy,i' (s.lst s1o) (i' ex1 (i' (s.lst s1n) ⟨c,_,_,Z',Yw,i' (s.lst s1n) (i' ex2 ⟨pJ Z',Yn M' (.call x1 x2) s trivial⟩)⟩))⟩
  .cases e with
   | call y z=>exact Yn M' (.call y z) s f
   | num v y ns=>exact Yn M' (.num v y ns) s f
   | turn=>exact Yn M' .turn s f
   | sw b i=>exact Yn M' (.sw b i) s f
def OR(a:Ad):rQ:=λds M Q=>B0 λr1 r2 r3 (l:pV)=>ds=[.tup [.ref r1,.ref r2,.ref r3]]/\oU M r1=ga (l.mV.map qZ)/\oU M r2=ga (l.groups.map rF)/\oU M r3=ga (l.mT.map sZ)/\rb l/\∀p M',qH M M'->rT a M' p l->(∀N,(∀x c,M x=Fa->M' x=ga c->N x=ga c)->rT a N p l)->Q (.ref p) M'
def Oz:rQ:=λds M Q=>∃ns,ds=[.rl (List.map D.int ns)]/\Q (.int (qM (cell ns 0) 1664525 24)) M
def Nq(a:Ad):rQ:=λds M Q=>GD λA V l ns k=>ds=[.ref A.b,.rl (List.map D.int ns),.int k]/\Rd a M A V l/\WF l V/\(∀k∈V.calls,k.at_.length<=100)/\(0<=k/\k<=1000)/\∀M' (e:rc),qH M M'->e.nz->Q e.d M'
def K2{pre post:T0 D}{d:D}(e:pre++d::post=(List.range n).map λi=>D.int (1+(i:Nat))):d=.int (1+(pre.length:Nat))/\pre.length<n:=by
 have h:((List.range n).map λi=>D.int (1+(i:Nat)))[pre.length]?=ga d:=by rw[<-e];simp
 have hl:pre.length<n:=by
  have:=(de.mp h).1
  simpa using this
 rw[dG,jj hl]at h;exact⟨(dq h).symm,hl⟩
def C1:Fq P w K mg base 9 a.V (OR a):=by
 refine fq G.V.toDG GJ (λr u=>⟨_,(pM (pU (uL (J2 G) r G.h G.b0 G.X.toDG (rP (qr s8 Z' G.q sO (qz (pZ v0 pO))) (qr s8 Z' G.q sO (qz (pZ v0 pO))) (qr s8 Z' G.q sO (qz (pZ v0 pO))))))),?_⟩)
 rintro ds M Q ⟨r1,r2,r3,l,rfl,h1,h2,h3,ok,q⟩
 refine i' h1 λp1 Zy=>?_;have t1:=qH.new (c:=.lst (l.mV.map qZ)) Zy;have l1:=@pS M p1 (l.mV.map qZ);generalize pT M p1 (.lst (l.mV.map qZ))=M1 at t1 l1 ⊢;refine i' (t1.lst h2) λp2 Yw=>?_;have t2:=qH.new (c:=.lst (l.groups.map rF)) Yw;have l2:=@pS M1 p2 (l.groups.map rF);generalize pT M1 p2 (.lst (l.groups.map rF))=M2 at t2 l2 ⊢;refine i' ((t1.trans t2).lst h3) λp3 hp3=>?_;have t3:=qH.new (c:=.lst (l.mT.map sZ)) hp3;have l3:=@pS M2 p3 (l.mT.map sZ);generalize pT M2 p3 (.lst (l.mT.map sZ))=M3 at t3 l3 ⊢;refine λp hp=>?_;have t4:=qH.new (c:=.ins a.h []) hp;refine⟨p,p1,p2,p3,l,Z',qg,(t2.trans (t3.trans t4)).lst l1,(t3.trans t4).lst l2,t4.lst l3,ok,λM5 kp pa pf=>⟨Z',_,.refl,q p M5 ?_ pa λN H=>pf N λx c hx e=>H x c ?_ e⟩⟩
 .exact t1.trans (t2.trans (t3.trans λx c e=>kp x c (λz=>by rw[z,hp]at e;cases e) (t4 x c e)))
 .have s3:=t1.trans (t2.trans t3);rcases hx with z|z
  .rw[z];exact s3.none hp
  .exact s3.none (t4.none z)
def Ap:Fq P w K mg base 2 a.O Oz:=by
 refine fq G.O.toDG GE (λr u=>⟨_,(pM (pU (pW (qW G) r G.i (rP (pW (El G) r G.H (r6 v0 pO)) pO pO)))),?_⟩)
 rintro ds M Q ⟨ns,rfl,q⟩
 exact⟨ns,0,Z',_,_,_,Z',by decide,M,.refl,q⟩
def OT:Fq P w K mg base 6 a.bB (Nq a):=by
 refine fq G.bB.toDG GH (λr u=>⟨_,(pM (pU (pW (OK G) r G.bA (qw v0 (rP (qp (pW (El G) r G.H (r6 Y1 Y2)) (qp (qp pO Y2) Y2)) (ww (pR v0) G.h.toCls G.P (tE G) r) (ww (pR v0) G.h.toCls G.ar (yY G) r)))))),?_⟩)
 rintro ds M Q ⟨A,V,l,ns,k,rfl,rd,wf,ha,hk,q⟩
 obtain⟨ph,gr,ws,Zz,pr,gd,rs,i1,_⟩:=rd.pl;have p1:=rd.ok.p1;have p8:=rd.ok.p8;have g3:=rd.ok.g3;have pl:l.pn.length=l.mV.length:=cX ..;have nl:l.nm.length=l.mV.length+l.groups.length:=by unfold pV.nm pV.pn pV.gn;rw[c9,cX,cX]
 refine⟨ns,k,Z',?_⟩;refine⟨.inl ⟨by decide,by decide⟩,.inr ⟨by lia,by lia⟩,?_⟩;refine pN rd.bd.at_ (i' Z' (pN i1 ⟨Z',_,⟨Z',Z'⟩,V.p,l,Z',rd.pl,by lia,λq1 Zf=>?_⟩));have t1:=qH.new (c:=.lst (l.pn.map D.str)) Zf;have l1:=@pS M q1 (l.pn.map D.str);show AR (pT M q1 (.lst (l.pn.map D.str)) A.b) _;generalize pT M q1 (.lst (l.pn.map D.str))=M1 at t1 l1 ⊢;refine pN (t1 _ _ rd.bd.at_) (i' Z' (pN (t1 _ _ i1) ⟨Z',_,⟨Z',Z'⟩,V.p,l,Z',rd.pl.sub t1,by lia,by lia,λq2 hq2=>?_⟩));have t2:=qH.new (c:=.lst (l.nm.map D.str)) hq2;exact⟨A,V,l,_,q1,q2,l.pn,l.nm,Z',rd.sub (t1.trans t2),wf,ha,t2.lst l1,pS,λz=>by rw[z]at pl;simp only[dN]at pl;lia,λz=>by rw[z]at nl;simp only[dN]at nl;lia,by lia,by lia,λM' e s f=>⟨M',.refl,q M' e (t1.trans (t2.trans s)) f⟩⟩
noncomputable def vv(A:tG)(M:Mp):Mp:=λx=>if x∈A.foot then Fa else M x
def KM{A:tG}{x:Uf}{ds:T0 D}(h:oU M x=ga ds)(n:x∉A.foot):oU (vv A M) x=ga ds:=sd (by unfold vv;rw[df n];exact qm h)
structure Lp(a:Ad)(M0 N M:Mp)(b:Uf)(A:tG)(V:qG)(l:pV)(m:Nat):Prop where
 cu:uB a M0 M b A V l (1+m) (3+2200*m)
 wf:WF l V
 ps:V.ps.length<=3
 own:∀x c,N x=ga c->M x=ga c/\x∉A.foot
variable {N:Mp}{m:Nat}
def Lp.start{b p:Uf}{A:tG}(ok:rb l)(pl:rT a M0 p l)(hb:M0 b=Fa)(eb:A.b=b)(kp:sI b (pT M0 b (.ins a.c [])) M)(fr:∀x∈A.foot,x=b\/pT M0 b (.ins a.c []) x=Fa)(bd:pY a M A (V0 p h l [])):uB a M0 M b A (V0 p h l []) l 1 3/\WF l (V0 p h l [])/\(V0 p h l []).ps.length<=3:=by
 have t:=qH.new (c:=.ins a.c []) hb;refine⟨⟨bd,pl,λx c e=>kp x c (Q7 e hb) (t x c e),λx hx=>?_,eb,⟨eO _,eO _,eO _,A9 ok,λk hk=>by cases hk⟩,ok,cX ..⟩,Wa ok,A9 ok⟩;rcases fr x hx with z|z
 .rw[z];exact hb
 .exact t.none z
def Bv{V:qG}{p:Uf}{F:QXQ}(h:WF l V):WF l (V.at_ p F):=⟨h.ok,h.un,h.ln,h.wt,h.nx⟩
def Ky{x:Uf}{c:uU}(e:vv A M x=ga c):M x=ga c/\x∉A.foot:=by
 unfold vv at e;split at e
 .cases e
 .rename_i h;exact⟨e,h⟩
def ye{A:tG}{M:Mp}{x:Uf}{c:uU}(e:M x=ga c)(n:x∉A.foot):vv A M x=ga c:=(df n).trans e
def Dt{A:tG}{x:Uf}(n:x∈A.foot):vv A M x=Fa:=dh n
def Vd{p:Uf}{F F':QXQ}(bd:pY a M A (V0 p h l F))(hF:∀x∈F',∃c,M x=ga c):pY a M A (V0 p h l F'):=
 ⟨bd.at_,bd.ca,bd.le,bd.nx,bd.on,bd.lo,bd.len,λi k c e1 e2=>by simp[V0]at e2,bd.nl,bd.np,hF⟩
structure Tw(a:Ad)(N M:Mp)(b:Uf)(A:tG)(V:qG)(l:pV)(c n:Nat)(b2:Uf)(A2:tG)(V2:qG)(l2:pV)(c2 n2:Nat):Prop where
 x:uB a N M b A V l c n
 y:uB a N M b2 A2 V2 l2 c2 n2
 f:V.fo=A2.foot
 g:V2.fo=A.foot
 ne:∀x∈A.foot,x∉A2.foot
variable {b2:Uf}{A2:tG}{V2:qG}{l2:pV}{c' n' c2 n2:Nat}
section
variable {c:Nat}
end
def pY.refo{V:qG}{F:QXQ}(h:pY a M A V)(s:qH M M')(hn:∀x∈F,M x=Fa)(hF:∀x∈F,∃c,M' x=ga c):pY a M' A (V.at_ V.p F):=by
 have b:=h.sub s;refine⟨b.at_,b.ca,b.le,b.nx,b.on,b.lo,b.len,λi k c e1 e2=>?_,b.nl,b.np,hF⟩;obtain⟨ad,md,g1,g2,g3,g4,g5,g6⟩:=h.cs i k c e1 e2;have no:∀{x:Uf} {ds:T0 D},x∉A.lists++V.fo->oU M x=ga ds->x∉A.lists++F:=λ{x ds} hx e z=>by
  rcases dS.mp z with z|z
  .exact hx (eI _ z)
  .have:=hn x z;rw[qm e]at this;cases this
 exact⟨ad,md,s _ _ g1,s.lst g2,s.lst g3,s.lst g4,no g5 g3,no g6 g4⟩
def Tw.join{M01 M1 M3 M02 M4 M2 M:Mp}{V V2:qG}{c n d k:Nat}(c1:uB a M01 M1 b A V l c n)(s1:qH M1 M3)(s2:qH M3 M02)(pf:∀N,(∀x c,M3 x=Fa->M02 x=ga c->N x=ga c)->rT a N V2.p l2)(s4:qH M02 M4)(c2:uB a M4 M2 b2 A2 V2 l2 d k)(s3:qH M2 M)(hf:V2.fo=A.foot):Tw a (vv A2 (vv A M)) M b A (V.at_ V.p A2.foot) l c n b2 A2 V2 l2 d k:=by
 have d1:∀x∈A.foot,∃c,M3 x=ga c:=λx hx=>by obtain⟨c,e⟩:=c1.bd.oM.2 x hx;exact⟨c,s1 x c e⟩
 have ZQ:=s2.trans s4;have ne:∀x∈A.foot,x∉A2.foot:=λx hx z=>by obtain⟨c,e⟩:=d1 x hx;have:=c2.fr x z;rw[ZQ x c e]at this;cases this
 have s23:=c2.s0.trans s3;have s14:=s1.trans ZQ;have sM:=s14.trans s23;have k1:qH M01 (vv A2 (vv A M)):=λx c e=>by
  have e1:=c1.s0 x c e;refine ye (ye (sM x c e1) λz=>?_) λz=>?_
  .rw[c1.fr x z]at e;cases e
  .have:=c2.fr x z;rw[s14 _ _ e1]at this;cases this
 have k2:rT a (vv A2 (vv A M)) V2.p l2:=pf _ λx c e1 e2=>ye (ye (s23 x c (s4 x c e2)) λz=>by
  obtain⟨d,e⟩:=d1 x z;rw[e1]at e;cases e) λz=>by have:=c2.fr x z;rw[s4 x c e2]at this;cases this
 have k3:qH (vv A2 (vv A M)) M:=λx c e=>(Ky (Ky e).1).1;have d2:∀x∈A2.foot,∃c,M x=ga c:=λx hx=>by obtain⟨c,e⟩:=c2.bd.oM.2 x hx;exact⟨c,s3 x c e⟩
 refine⟨⟨c1.bd.refo sM (λx hx=>s14.none (c2.fr x hx)) d2,c1.oz.sub k1,k3,λx hx=>?_,c1.b,⟨c1.sz.lo,c1.sz.le,c1.sz.ca,c1.sz.ps,c1.sz.cs⟩,c1.ok,c1.on⟩,⟨c2.bd.sub s3,k2,k3,λx hx=>Dt hx,c2.b,c2.sz,c2.ok,c2.on⟩,Z',hf,ne⟩;by_cases z:x∈A2.foot
 .exact Dt z
 .exact(df z).trans (Dt hx)
def Tw.start{M01 M1 M3 M02 M2 M:Mp}{b b2 p p2:Uf}(c1:uB a M01 M1 b A (V0 p h l []) l 1 3)(s1:qH M1 M3)(s2:qH M3 M02)(pf:∀N,(∀x c,M3 x=Fa->M02 x=ga c->N x=ga c)->rT a N p2 l2)(c2:uB a M02 M2 b2 A2 (V0 p2 h l2 []) l2 1 3)(s3:qH M2 M):Tw a (vv A2 (vv A M)) M b A (V0 p h l A2.foot) l 1 3 b2 A2 (V0 p2 h l2 A.foot) l2 1 3:=
 Tw.join (V2:=V0 p2 h l2 A.foot) c1 s1 s2 pf .refl ⟨Vd c2.bd (λx hx=>by
  obtain⟨c,e⟩:=c1.bd.oM.2 x hx;exact⟨c,c2.s0 x c (s2 x c (s1 x c e))⟩),c2.oz,c2.s0,c2.fr,c2.b,⟨c2.sz.lo,c2.sz.le,c2.sz.ca,c2.sz.ps,c2.sz.cs⟩,c2.ok,c2.on⟩ s3 Z'
variable {p:Uf}{F:QXQ}
def P0{c z:Str}:Ak l (V.at_ p F) c z=Ak l V c z:=by
 have h:zM l (V.at_ p F) c z=zM l V c z:=funext λw=>by cases w<;>rfl
 unfold Ak;rw[h];rfl
theorem GK{c:Str}:∀(n:Nat) (z:Str) (way:QQQ) (st:tV),vD l (V.at_ p F) c n z way st=vD l V c n z way st
 | 0,_,_,_=>rfl
 | n+1,z,way,st=>by unfold vD;rw[P0];simp only[GK n];rfl
def R4:vZ l (V.at_ p F) i=vZ l V i:=by
 unfold vZ vq;simp only[GK];have h:∀e,tO l (V.at_ p F) i e=tO l V i e:=λe=>by cases e<;>rfl
 simp only[h];rfl
def QV:tQ l (V.at_ p F) i fs=tQ l V i fs:=by
 unfold tQ;split
 .dsimp only;rw[zR,R4]
 .rfl
def Sl:yS l (V.at_ p F) i=yS l V i:=rfl
theorem JY:∀(is:T0 Nat) (V:qG),rX l is (V.at_ p F)=rX l is V
 | [],_=>rfl
 | i::r,V=>by unfold rX;rw[Sl,QV,zR,JY r]
def VX(e:rc):xf l (V.at_ p F) e=xf l V e:=by
 cases e with
 | call y z=>show yH l (V.at_ p F) y z=yH l V y z;unfold yH;dsimp only;rw[zR,R4];rfl
 | num w x ns=>
  match ns with
  | []=>rfl
  | [_]=>rfl
  | [_,_]=>rfl
  | _::_::_::_=>rfl
 | turn=>show yI l (V.at_ p F)=yI l V;unfold yI;rw[JD,JY];rfl
 | sw b i=>rfl
def Uq(e:rc):vM l (V.at_ p F) e=vM l V e:=by cases e<;>rfl
def Ao{M M':Mp}{p:Uf}{c:uU}(hp:M p=Fa)(s:qH M M'):qH M (pT M' p c):=λx d e=>sI.put x d (Q7 e hp) (s x d e)
variable {A1:tG}{X:QXQ}
section
variable {c:Nat}
def pY.oB(h:pY a M A V)(st:rB A1 M A2 M')(h1:∀x∈A1.foot,x∉A.foot)(h2:V.fo=A1.foot++X)(h3:∀x∈A2.foot,∃c,M' x=ga c):pY a M' A (V.at_ V.p (A2.foot++X)):=by
 have b:=h.frame st h1 λx hx=>.inl (by rw[h2];exact eI _ hx);have h4:∀x∈X,∃c,M x=ga c:=λx hx=>h.fo x (by rw[h2];exact dR _ hx);refine⟨b.at_,b.ca,b.le,b.nx,b.on,b.lo,b.len,λi k c e1 e2=>?_,b.nl,b.np,λx hx=>(dS.mp hx).elim (h3 x) λz=>(h4 x z).elim λc e=>st.2.2.2 x c e⟩;obtain⟨ad,md,g1,g2,g3,g4,g5,g6⟩:=h.cs i k c e1 e2;obtain⟨f1,f2,f3,f4,f5,f6,f7⟩:=A.ng;have no:∀{x:Uf} {ds:T0 D},x∉A.lists++V.fo->oU M x=ga ds->oU M' x=ga ds/\x∉A.lists++(A2.foot++X):=λ{x ds} hx e=>by
  rw[h2]at hx;have n1:x∉A1.foot:=λz=>hx (dR _ (eI _ z));refine⟨sd (st.1 x _ n1 (qm e)),λz=>?_⟩;rcases dS.mp z with z|z
  .exact hx (eI _ z)
  rcases dS.mp z with z|z
  .rcases st.2.1 x z with y|y
   .exact n1 y
   .rw[qm e]at y;cases y
  .exact hx (dR _ (dR _ z))
 have hf:∀x∈A.foot,∀c,M x=ga c->M' x=ga c:=λx hx c e=>st.1 x c (λz=>h1 x z hx) e;exact⟨ad,md,hf _ (f6 k (rj e1)) _ g1,sd (hf _ (f7 k (rj e1)) _ (qm g2)),(no g5 g3).1,(no g6 g4).1,(no g5 g3).2,(no g6 g4).2⟩
def pY.pb{x:Uf}{d:uU}(h:pY a M A V)(hx:x∈V.fo)(nf:x∉A.foot):pY a (pT M x d) A V:=by
 have hy:∀y∈(tG.foot {b:=x,ca:=x,le:=x,nx:=x,on:=x,lo:=x,cs:=[]}),y=x:=λy hy=>by simp[tG.foot,tG.lists]at hy;exact hy
 have st:rB {b:=x,ca:=x,le:=x,nx:=x,on:=x,lo:=x,cs:=[]} M {b:=x,ca:=x,le:=x,nx:=x,on:=x,lo:=x,cs:=[]} (pT M x d):=⟨λy c n e=>sI.put y c (λz=>n (by rw[z];exact dH)) e,λ_ h=>.inl h,λ_ _ h=>h,λy c e=>B9 e⟩;exact h.frame st (λy z=>by rw[hy y z];exact nf) λy z=>.inl (by rw[hy y z];exact hx)
def pY.oH{F:QXQ}(h:pY a M A V)(s:qH M M')(hn:∀x∈F,x∈V.fo\/M x=Fa)(hF:∀x∈F,∃c,M' x=ga c):pY a M' A (V.at_ V.p F):=by
 have b:=h.sub s;refine⟨b.at_,b.ca,b.le,b.nx,b.on,b.lo,b.len,λi k c e1 e2=>?_,b.nl,b.np,hF⟩;obtain⟨ad,md,g1,g2,g3,g4,g5,g6⟩:=h.cs i k c e1 e2;have no:∀{x:Uf} {ds:T0 D},x∉A.lists++V.fo->oU M x=ga ds->x∉A.lists++F:=λ{x ds} hx e z=>by
  rcases dS.mp z with z|z
  .exact hx (eI _ z)
  .rcases hn x z with y|y
   .exact hx (dR _ y)
   .rw[qm e]at y;cases y
 exact⟨ad,md,s _ _ g1,s.lst g2,s.lst g3,s.lst g4,no g5 g3,no g6 g4⟩
end
structure Tx(a:Ad)(N M:Mp)(b:Uf)(A:tG)(V:qG)(l:pV)(b2:Uf)(A2:tG)(V2:qG)(l2:pV)(c n:Nat)(X:QXQ):Prop where
 x:uB a N M b A V l c n
 y:uB a N M b2 A2 V2 l2 c n
 f:V.fo=A2.foot++X
 g:V2.fo=A.foot++X
 ne:∀x∈A.foot,x∉A2.foot
 h:∀x∈X,N x=Fa/\x∉A.foot/\x∉A2.foot
section
variable {c:Nat}
def Tx.sub(t:Tx a N M b A V l b2 A2 V2 l2 c n X)(s:qH M M'):Tx a N M' b A V l b2 A2 V2 l2 c n X:=⟨t.x.sub s,t.y.sub s,t.f,t.g,t.ne,t.h⟩
def Tx.one(t:Tx a N M b A V l b2 A2 V2 l2 c n X)(st:rB A M A' M')(cu:uB a N M' b A' V' l c' n')(hf:V'.fo=V.fo)(hc:c<=c')(hn:n<=n'):Tx a N M' b A' V' l b2 A2 (V2.at_ V2.p (A'.foot++X)) l2 c' n' X:=by
 have dm:=cu.bd.oM.2;have y:=t.y.mono hc hn;refine⟨cu,⟨y.bd.oB st t.ne t.g dm,y.oz,cu.s0,y.fr,y.b,⟨y.sz.lo,y.sz.le,y.sz.ca,y.sz.ps,y.sz.cs⟩,y.ok,y.on⟩,hf.trans t.f,Z',λx h z=>?_,λx hx=>⟨(t.h x hx).1,λz=>?_,(t.h x hx).2.2⟩⟩
 .rcases st.2.1 x h with w|w
  .exact t.ne x w z
  .exact t.y.bd.oa w z
 .rcases st.2.1 x z with w|w
  .exact(t.h x hx).2.1 w
  .obtain⟨d,e⟩:=t.x.bd.fo x (by rw[t.f];exact dR _ hx);rw[w]at e;cases e
def Tx.swap(t:Tx a N M b A V l b2 A2 V2 l2 c n X):Tx a N M b2 A2 V2 l2 b A V l c n X:=⟨t.y,t.x,t.g,t.f,λx h z=>t.ne x z h,λx hx=>⟨(t.h x hx).1,(t.h x hx).2.2,(t.h x hx).2.1⟩⟩
def Tx.mono(t:Tx a N M b A V l b2 A2 V2 l2 c n X)(hc:c<=c')(hn:n<=n'):Tx a N M b A V l b2 A2 V2 l2 c' n' X:=⟨t.x.mono hc hn,t.y.mono hc hn,t.f,t.g,t.ne,t.h⟩
def Tx.put(t:Tx a N M b A V l b2 A2 V2 l2 c n X){x:Uf}{d:uU}(hx:x∈X):Tx a N (pT M x d) b A V l b2 A2 V2 l2 c n X:=by obtain⟨h1,h2,h3⟩:=t.h x hx;exact⟨⟨t.x.bd.pb (by rw[t.f];exact dR _ hx) h2,t.x.oz,Ao h1 t.x.s0,t.x.fr,t.x.b,t.x.sz,t.x.ok,t.x.on⟩,⟨t.y.bd.pb (by rw[t.g];exact dR _ hx) h3,t.y.oz,Ao h1 t.y.s0,t.y.fr,t.y.b,t.y.sz,t.y.ok,t.y.on⟩,t.f,t.g,t.ne,t.h⟩
def Tx.start(t:Tw a N M b A V l c n b2 A2 V2 l2 c n)(s:qH M M')(hX:∀x∈X,M x=Fa/\∃c,M' x=ga c):Tx a N M' b A (V.at_ V.p (A2.foot++X)) l b2 A2 (V2.at_ V2.p (A.foot++X)) l2 c n X:=by have k:∀{B:tG} {U:qG},pY a M B U->∀x∈B.foot++X,(∃c,M' x=ga c):=λbd x hx=>(dS.mp hx).elim (λz=>(bd.oM.2 x z).elim λc e=>⟨c,s x c e⟩) λz=>(hX x z).2;refine⟨⟨t.x.bd.oH s (λx hx=>(dS.mp hx).elim (λz=>.inl (by rw[t.f];exact z)) λz=>.inr (hX x z).1) (k t.y.bd),t.x.oz,t.x.s0.trans s,t.x.fr,t.x.b,⟨t.x.sz.lo,t.x.sz.le,t.x.sz.ca,t.x.sz.ps,t.x.sz.cs⟩,t.x.ok,t.x.on⟩,⟨t.y.bd.oH s (λx hx=>(dS.mp hx).elim (λz=>.inl (by rw[t.g];exact z)) λz=>.inr (hX x z).1) (k t.x.bd),t.y.oz,t.y.s0.trans s,t.y.fr,t.y.b,⟨t.y.sz.lo,t.y.sz.le,t.y.sz.ca,t.y.sz.ps,t.y.sz.cs⟩,t.y.ok,t.y.on⟩,Z',Z',t.ne,λx hx=>⟨t.x.s0.none (hX x hx).1,t.x.bd.oa (hX x hx).1,t.y.bd.oa (hX x hx).1⟩⟩
def Tx.keep(t:Tx a N M b A V l b2 A2 V2 l2 c n X)(st:rB A M A' M'){x:Uf}{ds:T0 D}(hx:x∈X)(e:oU M x=ga ds):oU M' x=ga ds:=sd (st.1 x _ (t.h x hx).2.1 (qm e))
end
def vW(l:pV)(V:qG)(e:rc):qG:=if (vM l V e).isNone=Db then qY V (xf l V e)else V
def tK(l:pV)(h:Int)(es:List rc):qG:=es.foldl (vW l) (V0 0 h l [])
def xm{V:qG}{p:Uf}{F:QXQ}{e:rc}:vW l (V.at_ p F) e=(vW l V e).at_ p F:=by unfold vW;rw[Uq,VX,zR];split<;>rfl
def yd{V:qG}{e:rc}(ok:rb l)(wf:WF l V)(f:e.nz):WF l (vW l V e)/\(vW l V e).ps.length=V.ps.length:=by
 unfold vW;split
 .rename_i h;have hr:=Option.isNone_iff_eq_none.mp h;exact⟨Vr ok wf f hr,VW ok wf f hr⟩
 .exact⟨wf,Z'⟩
def vN{es:List rc}{e:rc}:tK l h (es++[e])=vW l (tK l h es) e:=by unfold tK;rw[jz];rfl
def Cb(ok:rb l):∀(es:List rc),(∀e∈es,e.nz)->WF l (tK l h es)/\(tK l h es).ps.length<=3:=λes=>by
 suffices key:∀r:List rc,(∀e∈r.reverse,e.nz)->WF l (tK l h r.reverse)/\(tK l h r.reverse).ps.length<=3 by
  have:=key es.reverse
  rwa [kC]at this
 intro r;induction r with
 | nil=>exact λ_=>⟨Wa ok,A9 ok⟩
 | cons e r ih=>intro hf;rw[gI]at hf ⊢;obtain⟨h1,h2⟩:=ih λx hx=>hf x (eI _ hx);obtain⟨k1,k2⟩:=yd ok h1 (hf e (dR _ dH));rw[vN];exact⟨k1,by rw[k2];exact h2⟩
def tw1(sw:T0 Nat)(i:Nat)(w:uQ):uQ:=(!(w.1==sw.any (·==i)),w.2)
noncomputable def pV.turn(l:pV)(sw:T0 Nat):pV:=⟨l.mV,l.groups,l.mT.mapIdx (tw1 sw)⟩
def z9{sw:T0 Nat}(ok:rb l):rb (l.turn sw):=⟨ok.p1,ok.p8,ok.po,ok.g3,ok.go,ok.nd,by
 show(l.mT.mapIdx (tw1 sw)).length<=16;rw[iK];exact ok.oZ,λw hw=>by
 obtain⟨i,hi,rfl⟩:=List.mem_mapIdx.mp hw;exact ok.wo l.mT[i] (gO hi)⟩
theorem zt{f:D->D->Option Bool}:∀(a b:T0 D),(∀x∈a,∀y∈b,(f x y).isSome=Db)->(rq f a b).isSome=Db
 | [],_,_=>rfl
 | _::_,[],_=>rfl
 | x::a,y::b,h=>by obtain⟨u,hu⟩:=fJ.mp (h x dH y dH);obtain⟨v,hv⟩:=fJ.mp (zt a b λz hz w hw=>h z (dD _ hz) w (dD _ hw));show((f x y).bind λp=>(rq f a b).map λq=>p&&q).isSome=Db;rw[hu,hv];rfl
def ub{f:D->D->Option Bool}{x y:D}{a b:T0 D}(h:(f x y).isSome=Db)(h2:(rq f a b).isSome=Db):(rq f (x::a) (y::b)).isSome=Db:=by obtain⟨u,hu⟩:=fJ.mp h;obtain⟨v,hv⟩:=fJ.mp h2;show((f x y).bind λp=>(rq f a b).map λq=>p&&q).isSome=Db;rw[hu,hv];rfl
def Co{a b:T0 D}(h:(rq (wg M n) a b).isSome=Db):(wg M (n+1) (.tup a) (.tup b)).isSome=Db:=by show((rq (wg M n) a b).map λp=>p&&a.length==b.length).isSome=Db;rw[iR];exact h
def Bc{n:Nat}{ss ts:QQQ}:(wg M (n+2) (.tup (ss.map D.str)) (.tup (ts.map D.str))).isSome=Db:=Co (zt _ _ λx hx y hy=>by
 obtain⟨u,_,rfl⟩:=dF.mp hx;obtain⟨v,_,rfl⟩:=dF.mp hy;rfl)
def JT{n:Nat}{o u:Option Str}:(wg M (n+1) (BX o) (BX u)).isSome=Db:=by cases o<;>cases u<;>rfl
def O2{n:Nat}{c d:pQ}:(wg M (n+3) (xC c) (xC d)).isSome=Db:=Co (ub Z' (ub Z' (ub Bc (ub Bc (ub Bc (ub JT (ub Z' (ub JT Z'))))))))
theorem ER{f g:D->D->Option Bool}:∀(a b:T0 D),(∀x∈a,∀y∈b,f x y=g x y)->rq f a b=rq g a b
 | [],_,_=>rfl
 | _::_,[],_=>rfl
 | x::a,y::b,h=>by show((f x y).bind λp=>(rq f a b).map λq=>p&&q)=((g x y).bind λp=>(rq g a b).map λq=>p&&q);rw[h x dH y dH,ER a b λz hz w hw=>h z (dD _ hz) w (dD _ hw)]
theorem Hq:∀(n:Nat) (x y:D),tR n x=Db->tR n y=Db->wg M (n+1) x y=wg N (n+1) x y
 | 0,x,y,hx,hy=>by cases x<;>cases y<;>first|rfl|cases hx|cases hy
 | n+1,x,y,hx,hy=>by
  cases x with
  | tup a=>
   cases y with
   | tup b=>show(rq (wg M (n+1)) a b).map (λp=>p&&a.length==b.length)=(rq (wg N (n+1)) a b).map λp=>p&&a.length==b.length;rw[ER a b λx h1 y h2=>Hq n x y (eF.mp (show a.all (tR n)=Db from hx) x h1) (eF.mp (show b.all (tR n)=Db from hy) y h2)]
   | ref _=>cases hy
   | ty _=>cases hy
   | rl _=>cases hy
   | _=>rfl
  | ref _=>cases hx
  | ty _=>cases hx
  | rl _=>cases hx
  | _=>cases y<;>first|rfl|cases hy
def UM(cs ds:List pQ):Bool:=(wg (λ_=>Fa) 9 (.tup (cs.map xC)) (.tup (ds.map xC))).getD Db
def C7(V:qG):tR 8 (.tup (V.calls.map xC))=Db:=by have h:[D.int V.t,.tup (V.calls.map xC),.tup ((tY V.ps).map AA),.tup (V.on.map D.bl)].all (tR 8)=Db:=OV (n:=5) V;exact eF.mp h _ (dD _ dH)
def MK(V W:qG):wg M 9 (.tup (V.calls.map xC)) (.tup (W.calls.map xC))=ga (UM V.calls W.calls):=by
 rw[Hq (N:=λ_=>Fa) 8 _ _ (C7 V) (C7 W)];unfold UM;obtain⟨b,hb⟩:=fJ.mp (Co (M:=λ_=>Fa) (n:=8) (zt (V.calls.map xC) (W.calls.map xC) λx hx y hy=>by
  obtain⟨u,_,rfl⟩:=dF.mp hx;obtain⟨v,_,rfl⟩:=dF.mp hy;exact O2))
 rw[hb];rfl
noncomputable def tT(is:T0 Nat):T0 D:=is.map λi=>D.int (i:Nat)
def B2(l l2:pV)(h:Int)(es:List rc)(i:Nat):Bool:=!(UM (tK l h (es.take (i+1))).calls (tK l2 h (es.take (i+1))).calls)
def yq(l l2:pV)(h:Int)(es:List rc):T0 Nat:=(List.range es.length).filter (B2 l l2 h es)
def G9{es:List rc}{e:rc}:yq l l2 h (es++[e])=yq l l2 h es++(if (!(UM (tK l h (es++[e])).calls (tK l2 h (es++[e])).calls))=Db then[es.length]else[]):=by
 unfold yq;rw[c9,dI,iq,iI,gC,ir];congr 1
 .refine lN λi hi=>?_;have:=fU.mp hi;unfold B2;rw[List.take_append_of_le_length (by lia)]
 .unfold B2;rw[gZ (by rw[c9,dI];lia)]
def E1{es:List rc}:(yq l l2 h es).length<=es.length:=by have:=gk (B2 l l2 h es) (List.range es.length);rw[eD]at this;exact this
def SY{α:Type}{f:α->D}{xs:List α}{pre post:T0 D}{d:D}(e:pre++d::post=xs.map f):∃x,xs[pre.length]?=ga x/\d=f x/\xs.take (pre.length+1)=xs.take pre.length++[x]:=by
 have h:(xs.map f)[pre.length]?=ga d:=by rw[<-e];simp
 rw[dG]at h;cases hx:xs[pre.length]? with
 | none=>rw[hx]at h;cases h
 | some x=>rw[hx]at h;refine⟨x,Z',(dq h).symm,?_⟩;rw[fX,hx];rfl
def Fz{α:Type}{f:α->D}{xs:List α}{pre post:T0 D}{d:D}(e:pre++d::post=ug 0 (xs.map f)):∃x,xs[pre.length]?=ga x/\d=.tup [.int (pre.length:Nat),f x]/\xs.take (pre.length+1)=xs.take pre.length++[x]:=by
 have h:(ug 0 (xs.map f))[pre.length]?=ga d:=by rw[<-e];simp
 rw[xZ,dG]at h;cases hx:xs[pre.length]? with
 | none=>rw[hx]at h;cases h
 | some x=>rw[hx]at h;refine⟨x,Z',?_,by rw[fX,hx];rfl⟩;have h:=(dq h).symm;rw[lj]at h;exact h
theorem MF{α β:Type}{f:α->D}{g:β->D}:∀{xs:List α} {ys:List β} {pre post:T0 D} {d:D},xs.length=ys.length->pre++d::post=wQ (xs.map f) (ys.map g)->∃x y,xs[pre.length]?=ga x/\ys[pre.length]?=ga y/\d=.tup [f x,g y]
 | [],[],pre,post,d,_,e=>by cases pre<;>cases e
 | x::xs,y::ys,[],post,d,_,e=>by cases e;exact⟨x,y,Z',Z',Z'⟩
 | x::xs,y::ys,p::pre,post,d,h,e=>by have e:p::(pre++d::post)=.tup [f x,g y]::wQ (xs.map f) (ys.map g):=e;exact MF (xs:=xs) (ys:=ys) (pre:=pre) (Nat.succ.inj h) (gi e).2
theorem vL:∀(a b:T0 D),(wQ a b).length=min a.length b.length
 | [],_=>by simp[wQ]
 | _::_,[]=>by simp[wQ]
 | _::a,_::b=>by show(wQ a b).length+1=min (a.length+1) (b.length+1);rw[vL a b];lia
def Pk(w:uQ):w.2.nO.lookup ("told":Str)=Fa:=by obtain⟨_,v⟩:=w;cases v<;>rfl
def Kd(sw:T0 Nat)(i:Nat):inD (.int (i:Nat)) (tT sw)=sw.any (·==i):=by unfold inD tT;rw[iG];refine eR (λf=>sw.any f) (funext λj=>?_);show((j:Int)==(i:Int))=(j==i);rw[fZ,eZ,eZ];lia
theorem CS:∀sw:T0 Nat,(tT sw).all vt=Db
 | []=>rfl
 | _::r=>CS r
def Jm{V:qG}{e:rc}(h:vM l V e=Fa):vW l V e=qY V (xf l V e):=by unfold vW;rw[h];rfl
def I9{V:qG}{e:rc}{w:Str}(h:vM l V e=ga w):vW l V e=V:=by unfold vW;rw[h];rfl
def Se(a:Ad)(M0 M:Mp)(b:Uf)(A:tG)(V:qG)(l:pV)(c n:Nat)(e:rc)(K:Mp->Prop):Prop:=∀M' A',uB a M0 M' b A' (vW l V e) l (c+1) (n+40+33*c)->rB A M A' M'->K M'
def Do{V:qG}{c n:Nat}{e:rc}{K:Mp->Prop}(cu:uB a M0 M b A V l c n)(h:Se a M0 M b A V l c n e K):Xg a M0 M b A V l c n e (λ_ M=>K M)/\(vM l V e≠Fa->K M):=by
 refine⟨λhr M' A' r c' st hr'=>?_,λhr=>?_⟩
 .rw[<-Jm hr]at c';exact h _ A' (c'.sub (.new hr')) (st.trans (.sub (.new hr')))
 .cases e0:vM l V e with
  | none=>exact absurd e0 hr
  | some w=>exact h M A (by rw[I9 e0];exact cu.mono (by lia) (by lia)) .refl
def T4(a:Ad):rQ:=λds M Q=>Sr λM0 b A V l c n e=>ds=[.ref b,rc.d e]/\uB a M0 M b A V l c n/\c<10000/\n<=5000000/\WF l V/\e.nz/\Se a M0 M b A V l c n e (Q .mY)
def Lo(a:Ad):rQ:=λds M Q=>B0 λp r l sw=>ds=[.ref p,.ref r]/\rT a M p l/\rb l/\oU M r=ga (tT sw)/\∀p2 M',qH M M'->rT a M' p2 (l.turn sw)->(∀N,(∀x c,M x=Fa->M' x=ga c->N x=ga c)->rT a N p2 (l.turn sw))->Q (.ref p2) M'
def Il:rQ:=λds M Q=>Kg λr1 r2 r3 r (l:pV) sw=>ds=[.tup [.ref r1,.ref r2,.ref r3],.ref r]/\oU M r3=ga (l.mT.map sZ)/\l.mT.length<=16/\oU M r=ga (tT sw)/\∀q M',qH M M'->M q=Fa->oU M' q=ga ((l.turn sw).mT.map sZ)->Q (.tup [.ref r1,.ref r2,.ref q]) M'
def Rq(a:Ad):rQ:=λds M Q=>Th λp h r r2 l es sw=>ds=[.ref p,.int h,.ref r,.ref r2]/\rT a M p l/\rb l/\oU M r=ga (List.map rc.d es)/\oU M r2=ga (tT sw)/\es.length<=62/\(∀e∈es,e.nz)/\∀q M',qH M M'->M q=Fa->oU M' q=ga (tT (yq l (l.turn sw) h es))->Q (.ref q) M'
def ML:Fq P w K mg base 14 a.am (T4 a):=by
 refine fq G.am.toDG zB (λr u=>⟨_,(pM (qh (pX u (pW (CO G) r G.ai (r6 v0 Y1)) sD)
 (pM (qd (NE (RT G) (r.mono (by first|decide|lia)) Z' G.F.mg G.F.toDG.kp G.F.b Qu Xi (r6 v0 Y1))))
 qa)),?_⟩)
 rintro ds M Q ⟨M0,b,A,V,l,c,n,e,rfl,cu,hc,hn,wf,f,q⟩
 have eb:=cu.b;subst eb;refine⟨A,V,l,e,Z',cu.rd (by lia) wf,f,?_⟩;obtain⟨q1,q2⟩:=Do cu q;cases e0:vM l V e with
 | none=>exact⟨M0,A.b,A,V,l,c,n,e,Z',cu,hc,hn,wf,f,λhr M' A' r c' st hr'=>⟨_,.refl,q1 hr M' A' r c' st hr'⟩,λw hw=>by rw[e0]at hw;cases hw⟩
 | some w=>exact⟨M,.refl,q2 (by rw[e0];exact nofun)⟩
def LO:Fq P w K mg base 9 a.bq (Lo a):=by
 refine fq G.bq.toDG wj (λr u=>⟨_,(pL (uM (i:=2) wj.nd Z' (Or.inl Z') Z' (xV (ix:=[Fa,Fa,ga 1]) (N':=["i","was_on","switched"])) (um Z' G.af (qz (pR v0))) (uV (n:=2) Z' (qK (qN 0) (qK (qN 1) tZ))) sf (qE u Y1 (qE u v0 Y2)))
 (pL (uM (i:=3) wj.nd Z' (Or.inl Z') Z' (xV (ix:=[Fa,Fa]) (N':=["is_on","wish"])) (Qr Z' G.b7 (r6 Y2 (pR v0))) (uV (n:=2) Z' (qK (qN 0) (qK (qN 1) tZ))) sf (qe (r6 v0 (Aq (R:=Jg a) Y1 (OQ G) (r.mono (by first|decide|lia))))))
 (pM (pU (uL (J2 G) r G.h G.b0 G.X.toDG (rP (pR v0) (pR v0) Y3)))))),?_⟩)
 rintro ds M Q ⟨p,r,l,sw,rfl,pa,ok,lr,q⟩
 have hz:=dO;have oZ:=ok.oZ;obtain⟨ph,gr,ws,Zz,pr,gd,rs,i1,i2,i3,i4,i5,_,_,i8⟩:=pa;refine pN i1 (i' Z' (i' i5 ?_));refine yO (ug 0 (l.mT.map λw=>D.bl w.1)) (λpre acc U M'=>M=M'/\acc=((l.mT.take pre.length).mapIdx (tw1 sw)).map (λw=>D.bl w.1)/\∃y0 y1,U=[y0,y1,ga (.ref r)]) (λ_ _ _ M' j=>by rw[<-j.1];exact i5) _ [] [] _ _ Z' ?_ ⟨Z',Z',Fa,Fa,Z'⟩ ?_ ?_
 .rw[ue,cX];simp only[dN];lia
 .rintro pre d post e acc U _ ⟨rfl,ha,y0,y1,rfl⟩ k hk
  obtain⟨wv,ew,rfl,et⟩:=Fz e;have Yt:=(de.mp ew).1;rw[c9,dI,et,lC,dP,fg,iu (hW Yt)]at hk;refine⟨Z',?_⟩;dsimp only[rH,yg,Cj];refine i' lr ⟨Z',CS sw,?_⟩;show Lu CmpOp.NotEq (D.bl wv.1) (D.bl (inD (D.int (pre.length:Nat)) (tT sw))) M _;rw[Kd];exact hk _ _ _ ⟨Z',by rw[ha];rfl,_,_,Z'⟩
 rintro acc U _ ⟨rfl,ha,y0,y1,rfl⟩ p1 Zy
 rw[ue,cX,fh]at ha;subst ha;have t1:=qH.new (c:=.lst ((l.mT.mapIdx (tw1 sw)).map λw=>D.bl w.1)) Zy;have l1:=@pS M p1 ((l.mT.mapIdx (tw1 sw)).map λw=>D.bl w.1);generalize pT M p1 (.lst ((l.mT.mapIdx (tw1 sw)).map λw=>D.bl w.1))=M1 at t1 l1 ⊢;dsimp only[rH];have wl:(l.mT.mapIdx (tw1 sw)).length=rs.length:=by rw[iK,i8.1]
 refine pN (t1 _ _ i1) (i' Z' (i' l1 (i' (t1.lst i4) ?_)));refine yO (wQ ((l.mT.mapIdx (tw1 sw)).map λw=>D.bl w.1) (rs.map D.ref)) (λpre acc U M'=>M1=M'/\acc=((l.mT.mapIdx (tw1 sw)).take pre.length).map sZ/\∃y0 y1,U=[y0,y1]) (λ_ _ _ M' j=>by rw[<-j.1];exact⟨l1,t1.lst i4⟩) _ [] [] _ _ Z' ?_ ⟨Z',Z',Fa,Fa,Z'⟩ ?_ ?_
 .rw[vL,cX,cX,<-wl,iK];simp only[dN];lia
 .rintro pre d post e acc U _ ⟨rfl,ha,y0,y1,rfl⟩ k hk
  obtain⟨x,y,ex,ey,rfl⟩:=MF wl e;have hx:∃wv,l.mT[pre.length]?=ga wv/\x=tw1 sw pre.length wv:=by
   rw[List.getElem?_mapIdx]at ex;cases e0:l.mT[pre.length]? with
   | none=>rw[e0]at ex;cases ex
   | some wv=>rw[e0]at ex;exact⟨wv,Z',(dq ex).symm⟩
  obtain⟨wv,ew,rfl⟩:=hx;have hy:=t1 _ _ (i8.2 _ y wv ey ew);refine⟨Z',?_⟩;dsimp only[rH,yg,Cj];refine pN hy ⟨Pk wv,_,⟨⟨_,Z'⟩,Z'⟩,y,wv.2,Z',hy,pJ Z',hk _ _ _ ⟨Z',?_,_,_,Z'⟩⟩;rw[c9,dI,fX,ex,ha,dP];rfl
 rintro acc U _ ⟨rfl,ha,y0,y1,rfl⟩ p2 Yw
 rw[vL,cX,cX,<-wl,mK,fh]at ha;subst ha;have t2:=t1.trans (qH.new (c:=.lst ((l.mT.mapIdx (tw1 sw)).map sZ)) Yw);have l2:oU (pT M1 p2 (.lst ((l.mT.mapIdx (tw1 sw)).map sZ))) p2=ga ((l.turn sw).mT.map sZ):=pS;generalize pT M1 p2 (.lst ((l.mT.mapIdx (tw1 sw)).map sZ))=M2 at t2 l2 ⊢;dsimp only[rH];refine pN (t2 _ _ i1) (i' Z' (pN (t2 _ _ i1) (i' Z' λp3 hp3=>?_)));have t3:=qH.new (c:=.ins a.h []) hp3;have t23:=t2.trans t3;refine⟨p3,ph,gr,p2,l.turn sw,Z',qg,t23.lst i2,t23.lst i3,t3.lst l2,z9 ok,λM5 kp pa pf=>⟨Z',M5,.refl,q p3 M5 ?_ pa λN hN=>pf N λx c hx e=>hN x c ?_ e⟩⟩
 .exact t2.trans λx c e=>kp x c (Q7 e hp3) (t3 x c e)
 .rcases hx with rfl|hx
  .exact t2.none hp3
  .exact t23.none hx
def Jd:Fq P w K mg base 1 a.bC Il:=by
 refine fq G.bC.toDG vn (λr u=>⟨_,(pL (qc 2 vn (qX sT))
 (pL (vg fi Z' (um Z' G.af (qz (pZ v0 pO))) (uV (n:=2) Z' (qK (sL 3 vn) (qK (sL 4 vn) tZ)))
 (pM (qd (qV Y2 (qz (qe (r6 (qE u (pZ v4 pO) (qE u Y3 Y1)) (pZ v4 pO))))))))
 (pM (pU (qe (rP (pZ v0 pO) (pZ v0 pO) Y2)))))),?_⟩)
 rintro ds M Q ⟨r1,r2,r3,r,l,sw,rfl,l3,oZ,lr,q⟩
 have hz:=dO;refine⟨pJ Z',λpf hpf=>?_⟩;have t:=qH.new (c:=.lst []) hpf;have lp:oU (pT M pf (.lst [])) pf=ga ((([]:List uQ).mapIdx (tw1 sw)).map sZ):=pS;generalize pT M pf (.lst [])=M1 at t lp ⊢;dsimp only[rH];refine i' (t.lst l3) ?_;refine wX (ug 0 (l.mT.map sZ)) (λpre U M'=>qH M M'/\oU M' pf=ga (((l.mT.take pre.length).mapIdx (tw1 sw)).map sZ)/\∃y3 y4,U=[ga (.tup [.ref r1,.ref r2,.ref r3]),ga (.ref r),ga (.ref pf),y3,y4]) (λ_ _ M' j=>j.1.lst l3) _ [] _ _ Z' ⟨t,lp,Fa,Fa,Z'⟩ ?_ ?_
 rotate_left
 .rintro U M' ⟨s1,lp,y3,y4,rfl⟩
  rw[ue,cX,fh]at lp;exact⟨pJ Z',M',.refl,q pf M' s1 hpf lp⟩
 clear lp t
 rintro pre d post e U M2 ⟨s2,lp,y3,y4,rfl⟩ nx Yr
 obtain⟨wv,ew,rfl,et⟩:=Fz e;have Yt:=(de.mp ew).1;rw[c9,dI,et,lC,dP,fg,iu (hW Yt)]at Yr;refine⟨Z',?_⟩;dsimp only[rH,yg,Cj];refine⟨by show(oU M2 pf).isSome=Db;rw[lp];rfl,?_⟩;refine i' (s2.lst lr) ⟨Z',CS sw,?_⟩;show Lu CmpOp.NotEq (D.bl wv.1) (D.bl (inD (D.int (pre.length:Nat)) (tT sw))) M2 _;rw[Kd];refine⟨pJ Z',i' lp ⟨by rw[cX,iK,fg];lia,Yr _ _ ⟨Ao hpf s2,pS,_,_,Z'⟩⟩⟩
def JH:Fq P w K mg base 15 a.an (Rq a):=by
 refine fq G.an.toDG vj (λr u=>⟨_,(pL (qc 4 vj (uL (Aa G) r G.c G.bR G.L.toDG (r6 v0 Y1)))
 (pL (qc 5 vj (uL (Aa G) r G.c G.bR G.L.toDG (r6 (pW (LO G) r G.bq (r6 v0 Y3)) Y1)))
 (pL (qc 6 vj (qX sT))
 (pL (vg fi Z' (um Z' G.af (qz Y2)) (uV (n:=2) Z' (qK (sL 7 vj) (qK (sL 8 vj) tZ)))
 (pL (qd (pW (ML G) r G.am (r6 v4 v8)))
 (pL (qd (pW (ML G) r G.am (r6 v5 v8)))
 (pM (qh (pX u (pZ (pW (xo G) r G.N (qz v4)) pO) (pZ (pW (xo G) r G.N (qz v5)) pO))
 (pM (qd (qV v6 (qz v7))))
 qa)))))
 (pM (pU v6)))))),?_⟩)
 .rintro ds M Q ⟨p,h,r,r2,l,es,sw,rfl,pa,ok,lr,lr2,hl,hf,q⟩
  have hz:=dO;have Zk:rb (l.turn sw):=z9 ok;have npb:∀{N:Mp} {x y:Uf} {k:pV},rT a N x k->N y=Fa->x≠y:=λpa hy z=>by obtain⟨ph,gr,ws,Zz,pr,gd,rs,i1,_⟩:=pa;rw[z,hy]at i1;cases i1
  refine λb hb=>?_;have t1:=qH.new (c:=.ins a.c []) hb;refine⟨b,p,h,[],l,Z',qg,pa.sub t1,ok,npb pa hb,(λx hx=>by cases hx),λM1 A eb kp fr bd=>⟨Z',?_⟩⟩;obtain⟨cu,_⟩:=Lp.start ok pa hb eb kp fr bd;clear kp fr bd t1;dsimp only[rH];refine⟨p,r2,l,sw,Z',pa.sub cu.s0,ok,cu.s0.lst lr2,λp2 M2 s2 pa2 pf=>λb2 hb2=>?_⟩;have t2:=qH.new (c:=.ins a.c []) hb2;refine⟨b2,p2,h,[],l.turn sw,Z',qg,pa2.sub t2,Zk,npb pa2 hb2,(λx hx=>by cases hx),λM3 A2 eb2 kp2 fr2 ZA=>⟨Z',?_⟩⟩;obtain⟨cu2,_⟩:=Lp.start Zk pa2 hb2 eb2 kp2 fr2 ZA;clear kp2 fr2 ZA t2;dsimp only[rH];refine⟨pJ Z',λrp hrp=>?_⟩;have sR:=qH.new (c:=.lst []) hrp;have s03:=cu.s0.trans (s2.trans cu2.s0);have lrN:oU (vv A2 (vv A M3)) r=ga (es.map rc.d):=KM (KM (s03.lst lr) λz=>by
   have:=cu.fr r z;rw[qm lr]at this;cases this) λz=>by have:=cu2.fr r z;rw[(cu.s0.trans s2) _ _ (qm lr)]at this;cases this
  have hMN:qH M (vv A2 (vv A M3)):=λx c e=>ye (ye (s03 x c e) λz=>by rw[cu.fr x z]at e;cases e) λz=>by have:=cu2.fr x z;rw[(cu.s0.trans s2) _ _ e]at this;cases this
  have tx:=Tx.start (X:=[rp]) (Tw.start cu .refl s2 pf cu2 .refl) sR (λx hx=>by rw[dB.mp hx];exact⟨hrp,_,qg⟩);have hMp:M rp=Fa:=s03.none hrp;have lp:oU (pT M3 rp (.lst [])) rp=ga (tT (yq l (l.turn sw) h [])):=pS;generalize pT M3 rp (.lst [])=M4 at tx lp ⊢;generalize vv A2 (vv A M3)=N at tx lrN hMN;dsimp only[rH];clear cu cu2 s2 s03 sR hrp pf pa2 hb hb2 eb eb2;generalize l.turn sw=l2 at tx lp Zk q;refine i' (tx.x.s0.lst lrN) ?_;refine wX (ug 0 (es.map rc.d)) (λpre U M'=>(∃A A2 p F p2 F2,Tx a N M' b A ((tK l h (es.take pre.length)).at_ p F) l b2 A2 ((tK l2 h (es.take pre.length)).at_ p2 F2) l2 (1+2*pre.length) (3+9000*pre.length) [rp])/\oU M' rp=ga (tT (yq l l2 h (es.take pre.length)))/\∃y7 y8,U=[ga (.ref p),ga (.int h),ga (.ref r),ga (.ref r2),ga (.ref b),ga (.ref b2),ga (.ref rp),y7,y8]) (λ_ _ M' j=>by obtain⟨A,A2,p,F,p2,F2,t⟩:=j.1;exact t.x.s0.lst lrN) _ [] _ _ Z' ⟨⟨_,_,_,_,_,_,tx⟩,lp,Fa,Fa,Z'⟩ ?_ ?_
  rotate_left
  .rintro U M' ⟨⟨A,A2,p,F,p2,F2,t⟩,lp,y7,y8,rfl⟩
   rw[ue,cX,fh]at lp;exact⟨M',.refl,q rp M' (hMN.trans t.x.s0) hMp lp⟩
  clear lp tx
  rintro pre d post e U M5 ⟨⟨A,A2,p',F,p2,F2,t⟩,lp,y7,y8,rfl⟩ nx Yr
  obtain⟨ed,ee,rfl,et⟩:=Fz e;have Yt:=(de.mp ee).1;have f:=hf ed (rj ee);obtain⟨wf1,ps1⟩:=Cb (h:=h) ok (es.take pre.length) λx hx=>hf x (ig hx);obtain⟨wf2,ps2⟩:=Cb (h:=h) Zk (es.take pre.length) λx hx=>hf x (ig hx);rw[c9,dI,et,G9,fg,iu (hW Yt),vN,vN]at Yr;have Z9:=E1 (l:=l) (l2:=l2) (h:=h) (es:=es.take pre.length);rw[fg]at Z9;obtain⟨k1,k2⟩:=yd ok wf1 f;obtain⟨k3,k4⟩:=yd Zk wf2 f;generalize yq l l2 h (es.take pre.length)=dl at lp Yr Z9;generalize tK l h (es.take pre.length)=U1 at t Yr wf1 ps1 k1 k2;generalize tK l2 h (es.take pre.length)=U2 at t Yr wf2 ps2 k3 k4;generalize hm:pre.length=m at t Yr Yt Z9;refine⟨Z',?_⟩;dsimp only[rH,yg,Cj];have mem:rp∈[rp]:=dB.mpr Z';refine⟨N,b,A,_,l,_,_,ed,Z',t.x,by lia,by lia,Bv wf1,f,λM6 A6 c6 st6=>?_⟩;rw[xm]at c6;have t6:=t.one st6 c6 Z' (by lia) (by lia);have lp:=t.keep st6 mem lp;refine⟨N,b2,A2,_,l2,_,_,ed,Z',t6.y,by lia,by lia,Bv (Bv wf2),f,λM7 A7 c7 st7=>?_⟩;rw[xm,xm]at c7;have t7:=((t6.swap.one st7 c7 Z' (by lia) (by lia)).swap).mono (c':=1+2*(m+1)) (n':=3+9000*(m+1)) (by lia) (by lia);have lp:=t6.swap.keep st7 mem lp;generalize vW l U1 ed=U3 at t7 Yr k1 k2;generalize vW l2 U2 ed=U4 at t7 Yr k3 k4;have e1:=t7.x.b;have e2:=t7.y.b;have ca1:U3.calls.length<=_:=t7.x.sz.ca;have ca2:U4.calls.length<=_:=t7.y.sz.ca;refine⟨A6,_,by rw[e1],t7.x.bd,by show U3.calls.length<=10000;lia,by show U3.ps.length<=3;lia,A7,_,by rw[e2],t7.y.bd,by show U4.calls.length<=10000;lia,by show U4.ps.length<=3;lia,?_⟩;refine i' (MK U3 U4) (qU (c:=!(UM U3.calls U4.calls)) (λg=>?_) (λg=>?_))
  .rw[dh g]at Yr;refine⟨by show(oU M7 rp).isSome=Db;rw[lp];rfl,i' lp ⟨by unfold tT;rw[cX];lia,?_⟩⟩;refine Yr _ _ ⟨⟨_,_,_,_,_,_,t7.put mem⟩,?_,_,_,Z'⟩;rw[pS];unfold tT;rw[dP];rfl
  .rw[df g,eN]at Yr;exact Yr _ _ ⟨⟨_,_,_,_,_,_,t7⟩,lp,_,_,Z'⟩
seal L3.E3 L3.B3 L3.A3 L3.S3 L3.HY
def OP:rQ:=λds M Q=>∃ns:T0 Int,ds=[.rl (ns.map D.int)]/\ns.length<=63/\Q (.bl Db) M
def Us{x:Uf}{ds:T0 D}(h:oU M x=ga ds):XW M (.ref x)=ga (.type "list"):=by show Jo (M x)=_;rw[qm h];rfl
def KS(e:rc):tR 6 e.d=Db:=by
 cases e with
 | num w x ns=>show(D.str w::.str x::ns.map D.int).all (tR 5)=Db;rw[fv,fv,jc];simp only[tR,eK];exact eF.mpr λ_ _=>rfl
 | _=>rfl
def NT{x y:Uf}{es:List rc}(h1:oU M x=ga (es.map rc.d))(h2:oU M y=ga (es.map rc.d)):wg M 8 (.ref x) (.ref y)=ga Db:=Ba h1 h2 λd hd=>by obtain⟨v,_,rfl⟩:=dF.mp hd;exact Ah 6 _ (KS v)
def FU{n:Nat}{x y:Uf}(h1:oU M x=ga (tT is))(h2:oU M y=ga (tT is)):wg M (n+2) (.ref x) (.ref y)=ga Db:=Ba h1 h2 λd hd=>by obtain⟨v,_,rfl⟩:=dF.mp hd;exact Ah n _ (by cases n<;>rfl)
noncomputable def Wk(ns:T0 Int)(r1 r2 r3 rs b b2 rd ru:Uf)(ys:T0 (Option D)):T0 (Option D):=some (.rl (ns.map D.int))::ga (.tup [.ref r1,.ref r2,.ref r3])::ga (.ref rs)::ga (.ref b)::ga (.ref b2)::ga (.ref rd)::ga (.ref ru)::ys
def Ur:Fq P w K mg base 17 a.aq OP:=by
 refine fq G.aq.toDG vU (λr u=>⟨_,(pL (qc 1 vU (pW (MW G) r G.bu (r6 v0 pO)))
 (pL (uM (i:=2) vU.nd Z' (Or.inl Z') Z' (xV (ix:=[Fa,ga 0]) (N':=["_law_i","_law_script"])) (vO Z' G.Q (qz (ql qR Z' G.g qO (qz (pZ Y1 pO))))) (qN 0) (vS (pX u (pW (qW G) r G.i (rP (qp (pW (El G) r G.H (r6 Y1 v0)) (qp pO v0)) pO pO)) pO)) v0)
 (pL (qh (pX u (qp (pW (El G) r G.H (r6 v0 pO)) pO) pO)
 (pM (qd (DR Y2)))
 qa)
 (pL (qc 3 vU (uL (Aa G) r G.c G.bR G.L.toDG (r6 (pW (C1 G) r G.V (qz Y1)) (pW (Ap G) r G.O (qz v0)))))
 (pL (qc 4 vU (uL (Aa G) r G.c G.bR G.L.toDG (r6 (pW (C1 G) r G.V (qz (pW (Jd G) r G.bC (r6 Y1 Y2)))) (pW (Ap G) r G.O (qz v0)))))
 (pL (qc 5 vU (qX sT))
 (pL (qc 6 vU (qX sT))
 (pL (vg fi Z' (LC Z' G.Q (r6 pO (ql (MA Z') Z' G.b4 NO (r6 (ql qR Z' G.g qO (qz v0)) pO)))) (sL 7 vU)
 (pL (qd (qV v5 (qz (pW (OT G) r G.bB (rP Y3 v0 v7)))))
 (pL (qd (pW (Kb G) r G.ap (r6 Y3 (pZ v5 (A5 pO)))))
 (pL (qd (pW (Kb G) r G.ap (r6 v4 (pZ v5 (A5 pO)))))
 (pM (qh (pX u (pZ (pW (xo G) r G.N (qz Y3)) pO) (pZ (pW (xo G) r G.N (qz v4)) pO))
 (pM (qd (qV v6 (qz (qp v7 pO)))))
 qa))))))
 (pL (qc 8 vU (qX (r6 (qr s8 Z' G.q sO (qz v5)) (qr s8 Z' G.q sO (qz Y2)))))
 (pL (qc 9 vU (pW (C1 G) r G.V (qz Y1)))
 (pL (qc 10 vU (pW (JH G) r G.an (qw v9 (rP (pW (Ap G) r G.O (qz v0)) (pZ v8 pO) (pZ v8 pO)))))
 (pL (qh (W3.b3 (xQ (yb (vE (ql EU Z' G.b5 yX (r6 WC (RX Z' G.q sO))))) (xQ (pX u WC v6) (xx (pX u v8 (qX (r6 v5 Y2)))))))
 (pM (pU yZ))
 qa)
 (pL (qh (W3.b3 (xQ (vE (ql (MI Z') Z' G.b6 L' (qz (qT Z' (xV (ix:=[Fa]) (N':=["_law_place"])) (ra WC) (qN 0) sf (ql (IK (K:=K) Z') Z' G.b5 yX (r6 v0 (RX Z' G.cI PR))))))) (xx (pX u (pR v9) (qT Z' (xV (ix:=[Fa]) (N':=["_law_pair"])) (ra (pZ Y1 pO)) (qN 0) sf (pZ v0 pO))))))
 (pM (pU yZ))
 qa)
 (pL (qd (qV WC (qz pO)))
 (pM (pU (qE u (pW (JH G) r G.an (qw v9 (rP (pW (Ap G) r G.O (qz v0)) (pZ v8 pO) (pZ v8 pO)))) v6))))))))))))))))),?_⟩)
 rintro ds M Q ⟨ns,rfl,hns,q⟩
 have hz:=dO;have ok:rb (CJ ns 4):=Qg (by decide) (by decide);refine⟨ns,4,Z',by decide,by decide,λr1 r2 r3 M1 s1 h1 h2 h3=>?_⟩;generalize CJ ns 4=l at h1 h2 h3 ok;have oZ:=ok.oZ;dsimp only[rH];have lw:(l.mT.map sZ).length=l.mT.length:=cX ..;refine i' h3 ⟨Z',⟨by lia,by lia⟩,?_⟩;show vw _ _ _ _ _ ((List.range (((l.mT.map sZ).length:Nat):Int).toNat).map λi=>D.int (0+(i:Nat))) [] _ _;rw[iQ,cX];refine xc ((List.range l.mT.length).map λi=>D.int (0+(i:Nat))) (λpre acc U M'=>M1=M'/\(∃sw,acc=tT sw)/\∃y,U=[y,ga (.rl (ns.map D.int))]) (λ_ _ _ _ _=>trivial) _ [] [] _ _ Z' ?_ ⟨Z',⟨[],Z'⟩,Fa,Z'⟩ ?_ ?_
 .rw[cX,eD];simp only[dN];lia
 .rintro pre d post e acc U _ ⟨rfl,⟨sw,rfl⟩,y,rfl⟩ k k2 hk Z1
  obtain⟨i,ei,rfl,et⟩:=SY e;rw[lB];refine⟨ns,_,Z',.inl ⟨by decide,by decide⟩,_,_,_,Z',by decide,?_⟩;refine qU (λg=>?_) (λg=>?_)
  .exact hk _ _ _ ⟨Z',⟨sw++[i],by unfold tT;rw[dP];rfl⟩,_,Z'⟩
  .exact Z1 _ _ ⟨Z',⟨sw,Z'⟩,_,Z'⟩
 rintro acc U _ ⟨rfl,⟨sw0,rfl⟩,y,rfl⟩ rs hrs
 have t2:=qH.new (c:=.lst (tT sw0)) hrs;have lr0:=@pS M1 rs (tT sw0);generalize pT M1 rs (.lst (tT sw0))=M2 at t2 lr0 ⊢;dsimp only[rH];have Zk:rb (l.turn sw0)/\rb (l.turn sw0.reverse):=⟨z9 ok,z9 ok⟩;obtain⟨hh,ehh⟩:∃hh,qM (cell ns 0) 1664525 24=hh:=⟨_,Z'⟩;have npb:∀{N:Mp} {x y:Uf} {k:pV},rT a N x k->N y=Fa->x≠y:=λpa hy z=>by obtain⟨ph,gr,ws,Zz,pr,gd,rs,i1,_⟩:=pa;rw[z,hy]at i1;cases i1
 refine UL (t:=QA _ _ _) (λU M'=>qH M1 M'/\(∃sw,oU M' rs=ga (tT sw))/\U=[ga (.rl (ns.map D.int)),ga (.tup [.ref r1,.ref r2,.ref r3]),ga (.ref rs),Fa,Fa,Fa,Fa,Fa,Fa,Fa,Fa]) (λnx h=>?_) ?_
 .refine⟨ns,0,Z',⟨by decide,?_⟩⟩;refine qU (c:=cell ns 0 % 2==1) (λg=>?_) (λg=>h _ _ ⟨t2,⟨sw0,lr0⟩,Z'⟩);refine⟨by show(oU M2 rs).isSome=Db;rw[lr0];rfl,i' lr0 (h _ _ ⟨Ao hrs t2,⟨sw0.reverse,?_⟩,Z'⟩)⟩;rw[pS];unfold tT;rw[List.map_reverse]
 clear t2 lr0 Zk
 rintro U M2 ⟨t2,⟨sw,lrs⟩,rfl⟩
 have Zk:rb (l.turn sw):=z9 ok;have h1:=t2.lst h1;have h2:=t2.lst h2;have h3:=t2.lst h3;have s02:=s1.trans t2;clear t2 s1;refine⟨r1,r2,r3,l,Z',h1,h2,h3,ok,λp M3 s3 pa _=>⟨ns,Z',?_⟩⟩;rw[ehh];refine λb hb=>?_;have tb:=qH.new (c:=.ins a.c []) hb;refine⟨b,p,hh,[],l,Z',qg,pa.sub tb,ok,npb pa hb,(λx hx=>by cases hx),λM4 A eb kp fr bd=>⟨Z',?_⟩⟩;obtain⟨cu,_⟩:=Lp.start ok pa hb eb kp fr bd;clear kp fr bd tb;dsimp only[rH];have s4:=s3.trans cu.s0;refine⟨r1,r2,r3,rs,l,sw,Z',s4.lst h3,oZ,s4.lst lrs,λq5 M5 s5 hq5 l5=>?_⟩;refine⟨r1,r2,q5,l.turn sw,Z',(s4.trans s5).lst h1,(s4.trans s5).lst h2,l5,Zk,λp2 M6 s6 pa2 pf=>⟨ns,Z',?_⟩⟩;rw[ehh];refine λb2 hb2=>?_;have tb:=qH.new (c:=.ins a.c []) hb2;refine⟨b2,p2,hh,[],l.turn sw,Z',qg,pa2.sub tb,Zk,npb pa2 hb2,(λx hx=>by cases hx),λM7 A2 eb2 kp fr bd=>⟨Z',?_⟩⟩;obtain⟨cu2,_⟩:=Lp.start Zk pa2 hb2 eb2 kp fr bd;clear kp fr bd tb;dsimp only[rH];refine⟨pJ Z',λrd hrd=>?_⟩;have t8:=qH.new (c:=.lst []) hrd;have ld:oU (pT M7 rd (.lst [])) rd=ga (([]:List rc).map rc.d):=pS;generalize pT M7 rd (.lst [])=M8 at t8 ld ⊢;dsimp only[rH];refine⟨pJ Z',λru hru=>?_⟩;have t9:=qH.new (c:=.lst []) hru;have lu:oU (pT M8 ru (.lst [])) ru=ga (tT (yq l (l.turn sw) hh [])):=pS;have nru:ru≠rd:=λz=>by have:=qm ld;rw[<-z,hru]at this;cases this
 have ld:=t9.lst ld;generalize pT M8 ru (.lst [])=M9 at t9 ld lu ⊢;dsimp only[rH];have s36:=cu.s0.trans (s5.trans s6);have hMN:qH M2 (vv A2 (vv A M7)):=λx c e=>by have e3:=s3 x c e;have e6:=s36 x c e3;exact ye (ye (cu2.s0 x c e6) λz=>by rw[cu.fr x z]at e3;cases e3) λz=>by rw[cu2.fr x z]at e6;cases e6
 have tx:=Tx.start (X:=[rd,ru]) (Tw.start cu s5 s6 pf cu2 .refl) (t8.trans t9) (λx hx=>by
  simp only[dz,dX,fR]at hx;rcases hx with rfl|rfl
  .exact⟨hrd,_,qm ld⟩
  .exact⟨t8.none hru,_,qm lu⟩)
 generalize vv A2 (vv A M7)=N at tx hMN;clear cu cu2 s3 s4 s5 s6 s36 pf pa pa2 hb hb2 eb eb2 t8 t9 hrd hru l5 hq5;have md:rd∈[rd,ru]:=dH;have mu:ru∈[rd,ru]:=dD _ dH;generalize hl2:l.turn sw=l2 at tx lu Zk;refine UL (t:=VC _ _ _) (λU M'=>∃es:List rc,es.length<=62/\(∀e∈es,e.nz)/\qH N M'/\oU M' rd=ga (es.map rc.d)/\oU M' ru=ga (tT (yq l l2 hh es))/\∃y7,U=Wk ns r1 r2 r3 rs b b2 rd ru [y7,Fa,Fa,Fa]) (λnx0 hnx0=>?_) ?_
 .refine⟨Z',?_⟩;generalize hN:(if (41:Int)<((ns.map D.int).length:Nat)then(41:Int)else((ns.map D.int).length:Nat))=Nn;have hN0:0<=Nn/\Nn<=41:=by rw[<-hN];split<;>lia
  refine⟨⟨by decide,by decide,by lia,by lia⟩,?_⟩;refine wX ((List.range (Nn - 1).toNat).map λn=>D.int (1+(n:Nat))) (λpre U M'=>∃es:List rc,es.length=pre.length/\(∀e∈es,e.nz)/\(∃A A2 p F p2 F2,Tx a N M' b A ((tK l hh es).at_ p F) l b2 A2 ((tK l2 hh es).at_ p2 F2) l2 (1+2*pre.length) (3+9000*pre.length) [rd,ru])/\oU M' rd=ga (es.map rc.d)/\oU M' ru=ga (tT (yq l l2 hh es))/\∃y7,U=Wk ns r1 r2 r3 rs b b2 rd ru [y7,Fa,Fa,Fa]) (λ_ _ _ _=>trivial) _ [] _ _ Z' ⟨[],Z',(λe he=>by cases he),⟨_,_,_,_,_,_,tx⟩,ld,lu,Fa,Z'⟩ ?_ ?_
  rotate_left
  .rintro U M' ⟨es,hes,hf,⟨A,A2,p,F,p2,F2,t⟩,ld,lu,y7,rfl⟩
   rw[cX,eD]at hes;exact hnx0 _ _ ⟨es,by lia,hf,t.x.s0,ld,lu,y7,Z'⟩
  clear tx ld lu
  rintro pre d post e U M' ⟨es,hes,hf,⟨A,A2,p,F,p2,F2,t⟩,ld,lu,y7,rfl⟩ nx Yr
  obtain⟨rfl,Yt⟩:=K2 e;have Yt:pre.length<40:=by lia
  rw[c9,dI]at Yr;generalize pre.length=m at t Yr Yt hes;obtain⟨wf1,ps1⟩:=Cb (h:=hh) ok es hf;obtain⟨wf2,ps2⟩:=Cb (h:=hh) Zk es hf;have Z9:=E1 (l:=l) (l2:=l2) (h:=hh) (es:=es);dsimp only[rH];refine⟨by show(oU M' rd).isSome=Db;rw[ld];rfl,?_⟩;have eb:=t.x.b;refine⟨A,_,l,ns,_,by rw[eb],t.x.rd (by lia) (Bv wf1),Bv wf1,λk hk=>(t.x.sz.cs k hk).2.1,⟨by lia,by lia⟩,λM3 ed s f=>?_⟩;have t:=t.sub s;have lu:=s.lst lu;refine i' (s.lst ld) ⟨by rw[cX];lia,?_⟩;have t4:=t.put (d:=.lst (es.map rc.d++[ed.d])) md;have ld:=@pS M3 rd (es.map rc.d++[ed.d]);have lu:oU (pT M3 rd (.lst (es.map rc.d++[ed.d]))) ru=ga _:=sd (sI.put _ _ nru (qm lu));generalize pT M3 rd (.lst (es.map rc.d++[ed.d]))=M4 at t4 ld lu ⊢;obtain⟨k1,k2⟩:=yd ok wf1 f;obtain⟨k3,k4⟩:=yd Zk wf2 f;refine i' ld (i' (GP _ _) ?_);refine⟨N,b,A,_,l,_,_,ed,Z',t4.x,by lia,by lia,Bv wf1,f,Do (K:=_) t4.x λM6 A6 c6 st6=>?_⟩;rw[xm]at c6;have t6:=t4.one st6 c6 Z' (by lia) (by lia);have lu:=t4.keep st6 mu lu;have ld:=t4.keep st6 md ld;refine i' ld (i' (GP _ _) ?_);refine⟨N,b2,A2,_,l2,_,_,ed,Z',t6.y,by lia,by lia,Bv (Bv wf2),f,Do (K:=_) t6.y λM7 A7 c7 st7=>?_⟩;rw[xm,xm]at c7;have t7:=((t6.swap.one st7 c7 Z' (by lia) (by lia)).swap).mono (c':=1+2*(m+1)) (n':=3+9000*(m+1)) (by lia) (by lia);have lu:=t6.swap.keep st7 mu lu;have ld:oU M7 rd=ga ((es++[ed]).map rc.d):=by rw[dP];exact t6.swap.keep st7 md ld
  have hf':∀e∈es++[ed],e.nz:=λe he=>(dS.mp he).elim (hf e) λz=>by rw[dB.mp z];exact f
  have hes':(es++[ed]).length=m+1:=by rw[c9,dI,hes]
  have hd:=G9 (l:=l) (l2:=l2) (h:=hh) (es:=es) (e:=ed);rw[<-vN,<-vN]at t7;rw[<-vN]at k1 k2 k3 k4;generalize es++[ed]=Zv at t7 ld hf' hes' hd k1 k2 k3 k4;have e1:=t7.x.b;have e2:=t7.y.b;have ca1:(tK l hh Zv).calls.length<=_:=t7.x.sz.ca;have ca2:(tK l2 hh Zv).calls.length<=_:=t7.y.sz.ca;refine⟨A6,_,by rw[e1],t7.x.bd,by show(tK l hh Zv).calls.length<=10000;lia,by show(tK l hh Zv).ps.length<=3;lia,A7,_,by rw[e2],t7.y.bd,by show(tK l2 hh Zv).calls.length<=10000;lia,by show(tK l2 hh Zv).ps.length<=3;lia,?_⟩;refine i' (MK (tK l hh Zv) (tK l2 hh Zv)) (qU (c:=!(UM (tK l hh Zv).calls (tK l2 hh Zv).calls)) (λg=>?_) (λg=>?_))
  .rw[dh g,hes]at hd;refine⟨by show(oU M7 ru).isSome=Db;rw[lu];rfl,i' lu ⟨by unfold tT;rw[cX];lia,?_⟩⟩;refine Yr _ _ ⟨Zv,hes',hf',⟨_,_,_,_,_,_,t7.put mu⟩,sd (sI.put _ _ (dZ nru) (qm ld)),?_,_,Z'⟩;rw[pS,hd];unfold tT;rw[dP];show ga (_++[D.int (1+(m:Int) - 1)])=ga (_++[D.int (m:Int)]);rw[show(1+(m:Int) - 1)=(m:Int)by lia]
  .rw[df g,eN]at hd;exact Yr _ _ ⟨Zv,hes',hf',⟨_,_,_,_,_,_,t7⟩,ld,by rw[hd];exact lu,_,Z'⟩
 clear tx ld lu
 rintro U M9 ⟨es,hes,hf,sN,ld,lu,y7,rfl⟩
 have sM:=hMN.trans sN;have h1:=sM.lst h1;have h2:=sM.lst h2;have h3:=sM.lst h3;have lrs:=sM.lst lrs;have s02:=s02.trans sM;have Z9:=E1 (l:=l) (l2:=l2) (h:=hh) (es:=es);subst hl2;refine i' ld λx1 hx1=>?_;have t1:=qH.new (c:=.lst (es.map rc.d)) hx1;have k1:=@pS M9 x1 (es.map rc.d);generalize pT M9 x1 (.lst (es.map rc.d))=M10 at t1 k1 ⊢;refine i' (t1.lst lrs) λx2 hx2=>?_;have t2:=qH.new (c:=.lst (tT sw)) hx2;have k2:=@pS M10 x2 (tT sw);have k1:=t2.lst k1;generalize pT M10 x2 (.lst (tT sw))=M11 at t2 k1 k2 ⊢;refine⟨pJ Z',λrh hrh=>?_⟩;have t3:=qH.new (c:=.lst [D.ref x1,.ref x2]) hrh;have kh:=@pS M11 rh [D.ref x1,.ref x2];have k1:=t3.lst k1;have k2:=t3.lst k2;have s12:=t1.trans (t2.trans t3);generalize pT M11 rh (.lst [D.ref x1,.ref x2])=M12 at t3 kh k1 k2 s12 ⊢;clear t1 t2 t3 hx1 hx2 hrh;dsimp only[rH];refine⟨r1,r2,r3,l,Z',s12.lst h1,s12.lst h2,s12.lst h3,ok,λpp M13 s13 pa _=>?_⟩;dsimp only[rH];have s23:=s12.trans s13;refine⟨ns,Z',?_⟩;rw[ehh];refine i' (s13.lst kh) (i' Z' (i' (s13.lst kh) (i' Z' ?_)));refine⟨pp,hh,x1,x2,l,es,sw,Z',pa,ok,s13.lst k1,s13.lst k2,by lia,hf,λrf M14 s14 hrf lf=>?_⟩;dsimp only[rH];have ZQ:=s23.trans s14;have s34:=s13.trans s14;refine i' (Us lf) ⟨λC z=>(by cases z),i' G.cG (HE ?_)⟩;refine i' (FU (n:=7) lf (ZQ.lst lu)) (HE ?_);refine⟨pJ Z',λrn hrn=>?_⟩;have tn:=qH.new (c:=.lst [D.ref rd,.ref rs]) hrn;have eqh:wg (pT M14 rn (.lst [D.ref rd,.ref rs])) 9 (.ref rh) (.ref rn)=ga Db:=by show(oU _ rh).bind (λi=>(oU _ rn).bind λj=>if i.length=j.length then rq (wg _ 8) i j else ga pc)=_;rw[tn.lst (s34.lst kh),pS];show(wg _ 8 (.ref x1) (.ref rd)).bind (λp=>((wg _ 8 (.ref x2) (.ref rs)).bind λp=>(ga Db).map λq=>p&&q).map λq=>p&&q)=ga Db;rw[NT (tn.lst (s34.lst k1)) (tn.lst (ZQ.lst ld)),FU (n:=6) (tn.lst (s34.lst k2)) (tn.lst (ZQ.lst lrs))];rfl
 refine i' eqh (HE ?_);have lf:=tn.lst lf;have ZQ:=ZQ.trans tn;have s34:=s34.trans tn;have hrf13:=hrf;have s14n:=s14.trans tn;generalize pT M14 rn (.lst [D.ref rd,.ref rs])=M15 at lf ZQ s34 s14n ⊢;clear tn eqh hrn;dsimp only[WD];refine i' lf (rN (f:=λ_=>D.bl pc) lf _ [] _ (by unfold tT;rw[cX];simp only[dN];lia) (λd hd k hk=>?_) λp5 hp5=>?_)
 .obtain⟨v,_,rfl⟩:=dF.mp hd;exact⟨λC z=>(by cases z),i' G.cH hk⟩
 rw[d9];have t5:=qH.new (c:=.lst ((tT (yq l (l.turn sw) hh es)).map λ_=>D.bl pc)) hp5;refine i' pS (i' (xF (λ_=>pc) _) ?_);have ef:((tT (yq l (l.turn sw) hh es)).map λ_=>pc).any id=pc:=by rw[iG];exact jx.mpr λ_ _=>by simp
 show if (((tT (yq l (l.turn sw) hh es)).map λ_=>pc).any id)=Db then _ else _
 rw[ef];refine HE ?_;have lf:=t5.lst lf;have ZQ:=ZQ.trans t5;have s34:=s34.trans t5;have s14n:=s14n.trans t5;generalize pT M15 p5 (.lst ((tT (yq l (l.turn sw) hh es)).map λ_=>D.bl pc))=M16 at lf ZQ s34 s14n ⊢;clear t5 hp5 ef;have sP:qH M13 M16:=s14n;obtain⟨ph,gr,ws,Zz,pr,gd,rs',i1,i2,i3,i4,i5,_⟩:=id pa;refine pN (sP _ _ i1) (i' Z' ?_);refine i' (ZQ.lst h3) (rN (f:=BR) (ZQ.lst h3) _ [] _ (by rw[cX];simp only[dN];lia) (λd hd k hk=>?_) λp6 hp6=>?_)
 .obtain⟨v,_,rfl⟩:=dF.mp hd;exact hk
 rw[d9,show(l.mT.map sZ).map BR=l.mT.map λw=>D.bl w.1 by rw[eA];rfl];have t6:=qH.new (c:=.lst (l.mT.map λw=>D.bl w.1)) hp6;refine i' (Ba (t6.lst (sP.lst i5)) pS λd hd=>by
  obtain⟨v,_,rfl⟩:=dF.mp hd;exact Ah 7 _ Z') (HE ?_)
 have lf:=t6.lst lf;have sP:=sP.trans t6;generalize pT M16 p6 (.lst (l.mT.map λw=>D.bl w.1))=M17 at lf sP ⊢;dsimp only[WD];refine⟨by show(oU M17 rf).isSome=Db;rw[lf];rfl,i' lf ⟨by unfold tT;rw[cX];lia,?_⟩⟩;have sF:qH M13 (pT M17 rf (.lst (tT (yq l (l.turn sw) hh es)++[D.int 0]))):=Ao hrf sP;generalize pT M17 rf (.lst (tT (yq l (l.turn sw) hh es)++[D.int 0]))=M18 at sF ⊢;have s1F:=s13.trans sF;refine⟨ns,Z',?_⟩;rw[ehh];refine i' (s1F.lst kh) (i' Z' (i' (s1F.lst kh) (i' Z' ?_)));refine⟨pp,hh,x1,x2,l,es,sw,Z',pa.sub sF,ok,s1F.lst k1,s1F.lst k2,by lia,hf,λrf2 M19 s19 _ lf2=>?_⟩;exact i' Z' (i' (FU (n:=7) lf2 (s19.lst (sF.lst (s23.lst lu)))) ⟨M,s02.trans (s23.trans (sF.trans s19)),q⟩)
end
end Z
end
structure PySem.W.Fast:Prop where(tw8683167214965041927 tw7728225012363462745 tw6690438861626282028 tw6470006367960693240 tw5329891648089917596 tw5319325850997143087 tw4765116819771921239 tw4083811400484431434 tw4051718701820059169 tw2936524233851356046 tw2395499217767127513 tw2227422839860907455 tw17810487904196152369 tw17767546930642749858 tw16508137489271767408 tw16205773787998863223 tw15630313391192349943 tw15611187223172460679 tw15092384665112285594 tw15006494484797788880 tw14925331649540097599 tw14655720395512082595 tw1463714838350631191 tw14362375478827011808 tw12340045853717208103 tw12049272432604290640 tw10861625988433753863 tw10695645288754886930 tw10291559494195418634 tw1018991318793358210 tw13804004883757249716 tw9475024865022289295 tw3424529127901852504 tw16513721936120258132 tw12155150576870295181 tw10227287237272668174 tw2408845249040760831 tw15971618623556875621 tw9785509457440141073 tw12507594440771983730 tw11725263970872818171 tw11632022303140799782 tw422599249544454322 tw2746025374869745063 tw3213398438136538835 tw10458053023298603384 tw228278637695349512 tw10939775875142739316 tw17719689587313641216 tw6339749849757889810 tw2079049167179617097 tw15382999391501555792 tw17998205353436533724 tw3372914810418746192 tw7011786921718187571 tw13832444228905448847 tw9950674357238069512 tw12105298659120086798 tw11752152276157693594 tw14134978376291591121 tw9314939869848120629 tw4900585558840133974 tw7292328940762800589 tw10713901058406018026 tw11603612109820402475 tw3457501933235998201 tw1397640473133254288 tw2399597688608132001 tw17688193850786382243 tw7374368488891950304 tw5640718246435977396 tw4397927130261636892 tw12230385938822861624 tw5701656947223881991 tw6905518899241053246 tw13425195180208411959 tw10531653386969416016 tw6130240998169305388 tw922932582293804991 tw9655160865257328667 tw4045299349241136308 tw17201936315486479279 tw1931574189281609223 tw2826659907622462488 tw7050169790389884384 tw7429868005950149022 tw4176893112509149837 tw13383727925163334562 tw8513571773939683440 tw16441817442698223180 tw15358496787795158966 tw9226109060915891792 tw6719312019568546748 tw6007520249042897495 tw380687846833969961 tw2302109706606246668 tw9178173375785424545 tw601634803707983967 tw17796628552710968610 tw8066774069182320895 tw6500624697735942005 tw11921666778492355765 tw12376079934403677797 tw3879894557860773993 tw12112740591443765524 tw4154672147043527773 tw6664132498574155761 tw11864909799782104455 tw5646493383357845083 tw18111992558368134489 tw5053164315134557462 tw10402212565460359194 tw9741579783692614789 tw4540859539375362392 tw10953041400136531000 tw9741966443729447595 tw8179851931184445748 tw7065836326679143400 tw17522379622624610710 tw16856191980632764460 tw5196714885170664710 tw8793193846143569363 tw4158041858321895795 tw16234354718751750317 tw4763500326065629280 tw5024627964712126200 tw17369782248445468478 tw14956810074948517926 tw5815965855109601658 tw9311331778801983909 tw7543714656242040784 tw15998592617914297618 tw6962968206719876695 tw4062670298376866249 tw69282638199517305 tw11567045988585150261 tw14898197468123704458 tw3683841108134147220 tw2430892946423227031 tw6773741368611191617 tw6583903089491440905 tw7365948589299517137 tw16152663271266497388 tw3504982368392890368 tw13751380723234690750 tw10097595007011449938 tw8946116028567311519 tw16608262477459004897 tw17681033221765769857 tw10871769959536407662 tw10199062494449955633 tw6711500517024805403 tw17264826806300313367 tw15740141842062847930 tw2489698503548389434 tw13604659896393190519 tw168081410141191312 tw11528512493622782551 tw10109699519062310446 tw14907046281361334510 tw5516234126833360461 tw4103025109277055746 tw11171065405271150426 tw14158273581987091780 tw658230671659152705 tw3763042287521513445 tw9379561981145895029 tw14228446243922877135 tw2518002446068371239 tw13914385307991909503 tw15094542288302570732 tw9403704834838291312 tw11164177203763652160 tw9609641050549896245 tw10350565454345602415 tw9113660328839739337 tw13018054253737233733 tw8306999456223375678 tw8982082398104120581 tw8358354282168201057 tw18227809338946549440 tw5187155349900715154 tw5959738572953339628 tw1842438359265559604 tw10613567230192168753 tw4994158849145948106 tw13033652909361433505 tw12791922071768702487 tw9677196050027281816 tw15214227900472371905 tw14595697416405498655 tw10503146283794557405 tw13876046068013357676 tw12557635634353620162 tw4421000956595675413 tw3215772863305913822 tw7902033747788075984 tw1556909403250573261 tw8863197822220148188 tw16130157659998874716 tw8955041926907752175 tw7472937674152039371 tw6687099238017089506 tw4212522633669808875 tw14404474924629805985 tw12561468399526322931 tw7600608644272718330 tw18289384092489619233 tw11319138840556454660 tw484702456882918060 tw12553191699199191098 tw17533531623477567905 tw11593927963538322739 tw12868673368750220335 tw8524181366262299138 tw9466054366557487029 tw1694402877161691980 tw15451722947494892237 tw15377696730156961757 tw467479091985871693 tw9490748707979828121 tw15665515753065614166 tw14710839152993903364 tw9720499300522882067 tw17323196087371828087 tw14735674719654069956 tw5501937049712209469 tw10301608553126322510 tw9302430108017633030 tw10524622279633686925 tw12381859018058934053 tw12101817263133643333 tw3791274757491379279 tw17738110431986772515 tw592372140940917788 tw17020911051052440582 tw13400714388546991721 tw2843943957160283583 tw13305796238900575170 tw7631218308103104786 tw926776710724586899 tw3511763287949884778 tw1484950013850805969 tw17888010076445221753 tw13581743815567743591 tw6935486183551271248 tw12530570263232100152 tw14121177805411457476 tw16240865641123043720 tw8975337023891380479 tw2614839591997192018 tw10277663113558038951 tw14201160287138988535 tw12553828339718654877 tw9881427973470714935 tw3132790544674875948 tw13136189833610018581 tw5337730005215102777 tw8969906197135071767 tw3023098229807890331 tw5623813462117963351 tw5127786041000613585 tw3497735018182701368 tw16586783370186339668 tw5107454466098184637 tw9199247918864039451 tw18186954628941990069 tw3713336017834325244 tw618569883147388452 tw12589424064483158382 tw11376072972829230413 tw15463209954226021473 tw9459815943373281238 tw560528342888092577 tw12180868621613003665 tw7782975754725301145 tw16105717658145882428 tw9325613638586156747 tw2880080717115673035 tw16236746300596659693 tw5430817243561109531 tw9649661585222856882 tw2364134405866670261 tw17299654052402387439 tw14270237714048506591 tw5581151766419742712 tw14984784013214697845 tw12343622030921405872 tw244416055440811693 tw16290304111636972036 tw12018601594198121375 tw472003862513611077 tw5525119959738502861 tw16120108058895832299 tw3947900584451320774 tw10901794190213959766 tw389205428203215597 tw7673244788959419439 tw1254101980196767475 tw13624147398151793465 tw18074389148152769917 tw11497711544207510949 tw7285496863872809778 tw9151615203978865175 tw3600462678077740130 tw624876288782526973 tw6109527556930344599 tw16987443032634195646 tw11470247001762984393 tw17754163948058507246 tw10742082699536621282 tw12447191193443643937 tw2909944731752918538 tw1626213907235456933 tw10679395935162032886 tw5100192460499832067 tw4119170178070492066 tw6942409725464538330 tw15895977347398570963 tw9812046709794376334 tw4553490626427728698 tw1534205361525065921 tw9575939091500988255 tw1081026864509981340 tw13846776848311414698 tw12683717080355167836 tw10383364847393129271 tw3384334014809166356 tw9316298877474544937 tw12725082482221248880 tw17694482531931146492 tw4920179925116087750 tw5920478122364628075 tw10606182709860452157 tw17068872414249786594 tw999104691848161798 tw10448742744149625030 tw10068444929775454269 tw6144343351912420610 tw5694058827132025750 tw12133875268534874398 tw17983827798243629880 tw11132548921004958524 tw4819426586163139904 tw15191476354085025848 tw2964299681288260322 tw2203008905230529728 tw18101790358073928819 tw12806640247298470078 tw9141624499740007632 tw5187868735104995857 tw4731250046069191190 tw17680925912843387272 tw7662647222943963234 tw18177289311279795546 tw7653299379193941184 tw775875877115426458 tw1319762871658813813 tw13434881533237948689 tw1518279089140019743 tw13272551306194427164 tw4983421294143804971 tw10049024980770163123 tw6706465767686727269 tw15752076316804511301 tw10017055214308578472 tw11403584359540554287 tw17182155745637787318 tw9334274360549237691 tw7684871488405833922 tw5647577004927946318 tw7447115406902218825 tw4115017340299438063 tw13599608847805455616 tw532469439316352442 tw8337720455645719426 tw13229361651556688463 tw3342095458447229716 tw10704159850679810230 tw11230420279591019881 tw10025142893007372354 tw9853484344921238647 tw6691002199342547456 tw6449860312929253634 tw10974893627311318771 tw8835167071233421540 tw6743111771608210467 tw13953020666187922443 tw12745414611898959360 tw1710452145252631745 tw6149319706277505883 tw15726765974675502690 tw1748072937960100139 tw13739543516297816086 tw10919651623961234428 tw7703258199390024723 tw5842736293599111358 tw3911768279119154635 tw12982534033382815120 tw7240819366440187313 tw18295829567619575828 tw12925893820458505373 tw11323874756575405545 tw1018777227536229948 tw305310931356222987 tw3144683216257535430 tw10963381342552624954 tw13728761443620555582 tw6848401560550255606 tw4731105984480240756 tw16697449688242721618 tw16445755716167066511 tw12697183362773838284 tw12147712841493407330 tw9846239085321927912 tw10753791733133841141 tw7900193779223216436 tw5499004129981129865 tw16700008251003096454 tw16265516953295149581 tw14444252705511047397 tw12341243907696800928 tw9470363069186769021 tw5010076481682513766 tw2232935964139501207 tw1939106545858578088 tw8879842146402333784 tw806693461237064075 tw4420794053347732284 tw17902638109103078348 tw7084697084708847987 tw2651188767339305453 tw16173827060053146598 tw12578796261466594889 tw11763612613394565525 tw13344620449149070745 tw13181567467611229870 tw3395548723271359409 tw11696369483077592833 tw5076868629848970606 tw18206834157439033542 tw16460665098894004157 tw12150862563730233676 tw17806013199935548326 tw12072254814399433590 tw12363900109560498952 tw4405986803448758657 tw15622385364844408893 tw17082306099088118937 tw12191750675306111606 tw9564128401181089276 tw820924171757669858 tw4737365446856535806 tw18359392874677554553 tw17662762618461028053 tw15876844294907299762 tw6185257324810742311 tw14071364263290743596 tw9281133083365509095 tw3244036005779443086 tw14169042275296049380 tw7736254204265869174 tw12112382448022251888 tw7001111002412376439 tw375195744100724537 tw1657485527778826383 tw14822710383122841846 tw1471352026179680066 tw11766898517416440707 tw10762507182328158156 tw13958732117757742873 tw7123900959199050783 tw14338665123293988410 tw8075095836725491080 tw16151864672810375742 tw8319720408844975274 tw5820195218965537386 tw3525589923688977314 tw11023377758902162773 tw17763635170014522214 tw15717485787384490115 tw4755960770640585248 tw17542729078866848963 tw11073305752228286729 tw10721411564697261687 tw13358603723952473388 tw9895990259627383842 tw10717465611134176897 tw1599472512959699730 tw13367253804754402778 tw11656997645321748139 tw8536585954984778655 tw11461601098183188943 tw1096080738242332451 tw14447321930349974117 tw14266520808927757530 tw8914557954997280624 tw13848638204158093396 tw18117416805190187897 tw13464225984698647189 tw1031112123236487170 tw4600221138922816178 tw9426589785173047899 tw8465813584963605601 tw5189267928033005954 tw3465517506241900436 tw2570240058683163568 tw16154784752907508368 tw13293604166724839928 tw12224629845538086652 tw11179355903538739574 tw3190165218331712951 tw17400461682059043462 tw9143261096402927036 tw12336288459833808724 tw6831723372730913132 tw1082637750295843683 tw281680008231703421 tw1799183607901777578 tw4868293291911340776 tw3480916389067988467 tw2564351136445694544 tw322191990303993655 tw10340467145688310902 tw7565739403274488420 tw3804787094757407445 tw5751932100018691701 tw16501125496464103598:True)
open PySem PySem.W PyProof.Rows L2 L3
def xZqN:Option Obj->Option Obj
|some ⟨_,_,.freed,_⟩=>none
|o=>o
def xZqP (h:Heap):List Nat->Nat->List Obj->List (Option Obj)
|[],_,_=>[]
|a::l,i,r=>bif i.ble a then xZqN (r.drop (a-i)).head?::xZqP h l a (r.drop (a-i)) else h.get? a::xZqP h l i r
theorem xZqQ (h:Heap):∀l i r,r=h.objs.toList.drop i->xZqP h l i r=l.map h.get?
|[],_,_,_=>rfl
|a::l,i,r,e=>by
 unfold xZqP;cases z:i.ble a with
 |false=>exact congrArg (h.get? a::·) (xZqQ h l i r e)
 |true=>
  have d:r.drop (a-i)=h.objs.toList.drop a:=by have:=Nat.le_of_ble_eq_true z;rw [e,List.drop_drop];congr 1;omega
  show xZqN (r.drop (a-i)).head?::xZqP h l a (r.drop (a-i))=_;rw [xZqQ h l a _ d,d,List.head?_drop,Array.getElem?_toList];rfl
def xZqH (K:Params->Frag) (as:List Addr) (e:∀P,as=(K P).map (·.1)) (_:Unit):Hook:=⟨_,λs=>xZqP s.heap as 0 s.heap.objs.toList,λw=>(K w.params).map λp=>some p.2,InK K,λw s x=>InK.of e w s ((xZqQ s.heap as 0 s.heap.objs.toList rfl).symm.trans x),InK.keeps⟩
local macro_rules|`(tactic|o_head ($f $k $a $e))=>`(tactic|o_head (xZqH $k $a $e ()))
set_option maxRecDepth 100000 in
set_option maxHeartbeats 0 in
theorem PySem.Challenge.cw_callboard_k68_what_if_holds : PySem.Challenge.rw_callboard_k68_what_if.Holds := by
 w_on;o_law;k_head;(case hw=>w_witness2)
 k_fill
 refine L3.Nj (l:=PySem.Challenge.rw_callboard_k68_what_if) (sp:=Z.OP) (k:=17) (x:="_law_script") rfl rfl ⟨rfl,by decide,by decide⟩ (λ_ _ Y=>Y) (λns hl=>⟨ns,rfl,hl,rfl⟩) ?F;case F=>
  intro w mg fa h KX G hmg;suffices h:∃a:Z.Ad,Z.Gl _ mg a/\∀(s:Shared) (u:Value),BindsTo s a.aq.d ⟨[u],[]⟩ [("_law_script",u)]by obtain⟨a,g,hb⟩:=h;have e:=hmg.symm.trans g.aq.mg;cases e;exact⟨a.aq.d,hb,λbase _ _=>g.aq.pe ▸ Z.Ur g⟩
  refine'⟨⟨_,_,_,_,_,_,_,_,_,_,_,_,_,_,_,_,_,_,_,_,_,_,_,_,_,_,_,_,_,_,_,_,_,_,_,_,_,_,_,_,_,_,_,_,_,_,_,_,_,_,_,_,_,_,_,_,_,_,_,_,_,_,_,_,_,_,_,_,_,_,_,_,_,_,_,_,_,_,_,_,_,_,_,_,_,_,_,_,_,_,_,_,_,_,_,_,_,_,_,_,_,_,_,_,_,_,_,_,_,_,_,_,_,_,_,_,_,_,_,_,_,_,_,_,_,_,_,_,_,_,_,_,_,_,_⟩,⟨xn KX G ..,xn KX G ..,xn KX G ..,xn KX G ..,xn KX G ..,xn KX G ..,xn KX G ..,xn KX G ..,xn KX G ..,xn KX G ..,xn KX G ..,xn KX G ..,xn KX G ..,PySem.W.mg_of KX G ?_,PySem.W.mg_of KX G ?_,qI KX G ..,qI KX G ..,qI KX G ..,qI KX G ..,qI KX G ..,qI KX G ..,qI KX G ..,qI KX G ..,qI KX G ..,qI KX G ..,qI KX G ..,qI KX G ..,qI KX G ..,qI KX G ..,qI KX G ..,qI KX G ..,qI KX G ..,qI KX G ..,qI KX G ..,qI KX G ..,qI KX G ..,qI KX G ..,qI KX G ..,qI KX G ..,qI KX G ..,qI KX G ..,qI KX G ..,qI KX G ..,qI KX G ..,qI KX G ..,qI KX G ..,qI KX G ..,qI KX G ..,qI KX G ..,qI KX G ..,qI KX G ..,qI KX G ..,qI KX G ..,qI KX G ..,qI KX G ..,qI KX G ..,qI KX G ..,qI KX G ..,qI KX G ..,qI KX G ..,qI KX G ..,qI KX G ..,qI KX G ..,qI KX G ..,qI KX G ..,qI KX G ..,qI KX G ..,qI KX G ..,qI KX G ..,qI KX G ..,qI KX G ..,qI KX G ..,qI KX G ..,qI KX G ..,qI KX G ..,qI KX G ..,qI KX G ..,qI KX G ..,qI KX G ..,qy ..,qy ..,qy ..,qy ..,qy ..,qy ..,qy ..,qy ..,qy ..,qy ..,qy ..,qy ..,qy ..,qy ..,qy ..,qy ..,qy ..,qy ..,qy ..,qy ..,qy ..,qy ..,qy ..,qy ..,qy ..,qy ..,qy ..,qy ..,qy ..,qy ..,qy ..,qy ..,qy ..,qy ..,qy ..,qy ..,qy ..,qy ..,qy ..,qy ..,qy ..,qy ..,qy ..,qy ..,qy ..,qy ..,qy ..,qy ..,qy ..,qy ..,qy ..,qy ..,qy ..,qy ..,qy ..,qy ..,Ob ?_ ?_ ?_ ?_ ?_ ?_ ?_ ?_ ?_ ?_,Ll ?_ ?_ ?_,Rc ?_ ?_ ?_ ?_,⟨?_,?_,?_,?_⟩,⟨?_,?_,?_,?_⟩,⟨?_,?_,?_,?_⟩,⟨?_,?_,?_,?_⟩,⟨?_,?_,?_,?_⟩,⟨?_,?_,?_,?_⟩,⟨?_,?_,?_,?_⟩,⟨?_,?_,?_,?_⟩,⟨?_,?_,?_,?_⟩,⟨?_,?_,?_,?_⟩,⟨?_,?_,?_,?_⟩,⟨?_,?_,?_⟩,⟨?_,?_,?_⟩,⟨?_,?_,?_⟩,⟨?_,?_,?_⟩,⟨?_,?_,?_⟩,⟨?_,?_,?_⟩,⟨?_,?_,?_⟩,⟨?_,?_,?_⟩,⟨?_,?_,?_⟩,⟨?_,?_,?_⟩,⟨?_,?_,?_⟩,⟨?_,?_,?_⟩,⟨?_,?_,?_⟩,⟨?_,?_,?_⟩,⟨?_,?_,?_⟩,⟨?_,?_,?_⟩,⟨?_,?_,?_⟩,⟨?_,?_,?_⟩,⟨?_,?_,?_⟩,⟨?_,?_,?_⟩,⟨?_,?_,?_⟩,(qk ?_ (qk ?_ (qk ?_ (qk ?_ (qk ?_ (qk ?_ (qk ?_ (qk ?_ ui)))))))),(qk ?_ (qk ?_ (qk ?_ (qk ?_ (qk ?_ (qk ?_ ui)))))),(qk ?_ (qk ?_ (qk ?_ ui))),(qk ?_ (qk ?_ (qk ?_ ui))),(qk ?_ (qk ?_ (qk ?_ ui))),(qk ?_ (qk ?_ (qk ?_ (qk ?_ (qk ?_ ui))))),(qk ?_ (qk ?_ (qk ?_ ui))),(qk ?_ (qk ?_ (qk ?_ (qk ?_ ui)))),(qk ?_ (qk ?_ ui)),(qk ?_ (qk ?_ ui)),(qk ?_ (qk ?_ (qk ?_ (qk ?_ (qk ?_ (qk ?_ (qk ?_ (qk ?_ ui)))))))),Mw,S9 Qj ?_ (λ_=>rfl),PySem.W.mg_none_of KX G ?_,PySem.W.mg_none_of KX G ?_,PySem.W.mg_none_of KX G ?_,PySem.W.mg_none_of KX G ?_,PySem.W.mg_none_of KX G ?_,PySem.W.mg_none_of KX G ?_,PySem.W.mg_none_of KX G ?_,PySem.W.mg_none_of KX G ?_,PySem.W.mg_none_of KX G ?_,PySem.W.mg_none_of KX G ?_,PySem.W.mg_none_of KX G ?_,PySem.W.mg_none_of KX G ?_,PySem.W.mg_none_of KX G ?_,PySem.W.mg_none_of KX G ?_,wJ (PySem.W.mg_of KX G ?_),wJ (PySem.W.mg_of KX G ?_),wJ (PySem.W.mg_of KX G ?_),wJ (PySem.W.mg_of KX G ?_),Re (PySem.W.mg_of KX G ?_) (uT (ss:=["all","turns"]) ?_ (.cons ⟨_,rfl⟩ (.cons ⟨_,rfl⟩ .nil)) (Nat.le_of_ble_eq_true rfl)),wJ (PySem.W.mg_of KX G ?_),wJ (PySem.W.mg_of KX G ?_),wJ (PySem.W.mg_of KX G ?_),TQ (PySem.W.mg_of KX G ?_),QP (es:=[⟨_,.str "bar" _,.ref _⟩,⟨_,.str "shut" _,.ref _⟩,⟨_,.str "always" _,.ref _⟩,⟨_,.str "night" _,.ref _⟩,⟨_,.str "busy" _,.ref _⟩,⟨_,.str "silent" _,.ref _⟩,⟨_,.str "wait" _,.ref _⟩,⟨_,.str "breaks" _,.ref _⟩]) (PySem.W.mg_of KX G ?_) ?_ ?_ (.cons rfl ⟨_,rfl,(uT (ss:=["phone","names"]) ?_ (.cons ⟨_,rfl⟩ (.cons ⟨_,rfl⟩ .nil)) (Nat.le_of_ble_eq_true rfl))⟩ (.cons rfl ⟨_,rfl,(uT (ss:=["name","phones"]) ?_ (.cons ⟨_,rfl⟩ (.cons ⟨_,rfl⟩ .nil)) (Nat.le_of_ble_eq_true rfl))⟩ (.cons rfl ⟨_,rfl,(uT (ss:=["name","name"]) ?_ (.cons ⟨_,rfl⟩ (.cons ⟨_,rfl⟩ .nil)) (Nat.le_of_ble_eq_true rfl))⟩ (.cons rfl ⟨_,rfl,(uT (ss:=["name","name","hour","hour"]) ?_ (.cons ⟨_,rfl⟩ (.cons ⟨_,rfl⟩ (.cons ⟨_,rfl⟩ (.cons ⟨_,rfl⟩ .nil)))) (Nat.le_of_ble_eq_true rfl))⟩ (.cons rfl ⟨_,rfl,(uT (ss:=["name","name"]) ?_ (.cons ⟨_,rfl⟩ (.cons ⟨_,rfl⟩ .nil)) (Nat.le_of_ble_eq_true rfl))⟩ (.cons rfl ⟨_,rfl,(uT (ss:=["name","name","turns"]) ?_ (.cons ⟨_,rfl⟩ (.cons ⟨_,rfl⟩ (.cons ⟨_,rfl⟩ .nil))) (Nat.le_of_ble_eq_true rfl))⟩ (.cons rfl ⟨_,rfl,(uT (ss:=["phone"]) ?_ (.cons ⟨_,rfl⟩ .nil) (Nat.le_of_ble_eq_true rfl))⟩ (.cons rfl ⟨_,rfl,(uT (ss:=["phone"]) ?_ (.cons ⟨_,rfl⟩ .nil) (Nat.le_of_ble_eq_true rfl))⟩ .nil)))))))),wJ (PySem.W.mg_of KX G ?_),wJ (PySem.W.mg_of KX G ?_),wJ (PySem.W.mg_of KX G ?_)⟩,λs u=>.of_eq rfl⟩
  all_goals try first|k_is|(intro _ _ _ _ _ _ us hl;rcases us with _|⟨_,_|⟨_,_|⟨_,_|⟨_,_|⟨_,_|⟨_,_|⟨_,us⟩⟩⟩⟩⟩⟩⟩<;>first|rfl|(exfalso;revert hl;simp;done))|rfl
