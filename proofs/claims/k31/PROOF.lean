import PyProof.Rows.All
import Wide.All
import OpenK.AllK
import Wide.FinOn
import PyProof.EqAt
import PyProof.EqKinds
import PyProof.TupleCall
import PyProof.AttrMiss
import PyProof.IsiH_list
import PyProof.Rows.SetFrom
import KE.KDictOf
import KE.KTab
import PyProof.AutoListH
import KE.KSortTup
import KE.KItemsList
import KE.KEqDict
import KE.KIntText
import Lean
import PyProof.RulesRaise
import PyProof.RulesTry
import KE.KTryDeep
import KE.KTryMore
import KE.KTryOn
import KE.TryInHelper
import KE.TryLedger
import PyProof.ExcArgsOwn
import PyProof.ExcAttrAll.ValueError
import KE.KIsAll
import PyProof.ExcBaseAll.ValueError
import PyProof.InstStoreFacts
import PyProof.ExcInit
import PyProof.SeqI3
import PyProof.ConsumeWalk
import PySem.Challenge.RW_callboard_k31_routes_walked
set_option genInjectivity false
set_option genSizeOfSpec false
set_option genSizeOf false
set_option Elab.async false
set_option linter.all false
set_option maxRecDepth 100000
set_option maxHeartbeats 4000000
noncomputable section
open LawfulBEq renaming eq_of_beq->Ix
open List renaming length_map->cV,length_append->cX,getElem?_eq_getElem->cY,getElem?_eq_some_iff->cZ,mem_cons->dh,size_toArray->dz,mem_singleton->dA,getElem?_map->dC,mem_map->dD,mem_cons_of_mem->dE,length_nil->dF,length_singleton->dH,not_mem_nil->dJ,map_append->dN,mem_cons_self->dO,nodup_cons->dS,map_cons->dW,mem_append->dY,nil_append->dZ,map_map->eh,length_cons->eA,length_range->eC,length_take->eF,append_nil->eG,all_eq_true->eI,mem_append_right->eJ,lookup_cons->eK,replicate_succ->eM,nodup_nil->eN,all_cons->eO,getElem?_append_right->eU,append_assoc->fg,getElem?_append_left->fi,take_length->fj,mem_of_getElem?->fz,mem_filter->fA,cons_ne_nil->fB,length_pos_iff->fC,filter_cons_of_pos->fF,filter_cons_of_neg->fG,mem_append_left->fH,getElem?_set_ne->fJ,getElem?_set_self->fK,nodup_append->fL,length_filter_le->fO,find?_cons->fP,getD_eq_getElem?_getD->fS,flatten_cons->fU,filter_nil->fW,length_drop->fY,mem_range->gb,foldl_cons->gg,filterMap_cons->gi,filter_sublist->gj,any_cons->gm,exists_cons_of_ne_nil->gp,filter_append->gq,length_modify->gu,mem_of_find?_eq_some->gv,eraseIdx_eq_take_drop_succ->gw,take_add_one->gx,length_eq_zero_iff->gA,getElem_of_mem->gC,map_congr_left->gD,any_eq_true->gG,find?_eq_none->gJ,drop_eq_getElem_cons->gP,mem_of_mem_take->gQ,getLast?_eq_none_iff->gR,filter_cons->gY,filter_map->hW,findIdx?_map->ic,getElem?_eq_none->ii,getElem_mem->im,mem_of_mem_drop->io,map_drop->ir,length_set->iw,getElem?_zip_eq_some->iz,range_succ->iA,getLastD_eq_getLast?->iB,contains_cons->iH,getElem?_cons_zero->iK,find?_append->iP,take_of_length_le->iQ,findIdx?_eq_some_iff_getElem->iR,find?_cons_of_pos->iS,map_take->iT,length_replicate->iV,getElem?_toArray->iW,map_nil->jb,mem_of_getLast?->je,dropLast_subset->jf,getElem?_modify->jg,map_id->jn,sublist_append_right->jA,pairwise_iff_getElem->jB,getLast?_eq_getElem?->jC,findIdx?_eq_none_iff->jD,all_map->jN,drop_length->jO,set_set->jP,any_map->jS,eq_of_mem_replicate->jT,getElem?_replicate->jU,of_mem_zip->jX,forIn_cons->jY,findIdx_le_length->j9,find?_cons_of_neg->kc,forIn_nil->kg,drop_zero->ko,set_append_right->kr,getElem?_range->kI,filter_eq_self->kN,modify_eq_self->kO,mem_filterMap->kT,getElem_range->ls,set_cons_succ->lu,any_eq_false->lz,foldl_append->lC,filter_congr->lH,getElem_inj->lQ,zipIdx_cons->lX,getElem_map->ma,zipIdx_nil->mi,any_append->mo,find?_some->mv,map_set->mG
open PySem renaming wpAny_bind->cW,wpAny_pure->dv,sizeLine_eq->dI,wpAny_mono->eD,wpAny_holding->fh,wpAny_field->fu,wpAny_truthy_bool->fv,wpAny_callSpecial?_slot->fQ,wpAny_Call_Name_kw->fX,wpAny_call_entry->fZ,wpAny_newObj_type->gc,wpAny_seqItems->gF,wpAny_setField_rec->gI,wpAny_passesOwn->gK,codeAny_mono->gT,mem_of_lookup->gZ,wpAny_execs_nil->g9,wpAny_pyIter_list->ia,wpAny_loadPart_at->ib,wpAny_setField->ij,wpAny_standAt->ip,codeAny_builtin->iy,wpAny_pyIter_tuple->iG,plainObj_wpAny_Assign_Attribute->iX,wpAny_call->iY,call_meets->ja,wpAny_updateSeq_pair->jc,isSubtype_type->jl,tupleKind_room_in1->jo,slot_dict_contains->jq,wpAny_onRaise->ju,wpAny_sequenceKey->jw,wpAny_execs_cons->jF,wpAny_typeOf->jJ,wpAny_comprehension_free->jL,wpAny_specialOf->j3,builtinLookup_eq_fast->kh,getitemInPython_of_ne->kl,wpAny_rule->kx,codeAny_call_builtin->kz,wpAny_letTemporaryGo->kA,plainId_quiet->kF,wpAny_isSubtype_exc->kM,concat_meets->kU,seqIndex_neg->kX,wpAny_assign_Name->ly,slot_list_getitem->lB,slot_dict_getitem->lD,wpAny_pyIter_enum->lE,seqIndex_of->lL,wpAny_letGo->lM,wpAny_pyHash_str->lO,wpAny_eqBool_int->lP,wpAny_lookBehind->lR,pastItsLine_dict->lT,noFill_tuple_add->lV,wpAny_pyIter_zip->lZ,wpAny_Name->me,typeIs_int->mf,Addr->Uf,sizeLine->Ch,wpAny->pi,model->Tk,starEach->Tl,bootBuiltins->zn,Expr->Go,Heap->No,eval->wp,compareOp->Op,keywordEach->Ps,attributeBase->Rs,mainGlobals->gt,backTo->At,FuncData->wv,holding->xz,Stmt->sB,swapsWith->ZB,backToKw->TD,IsPair->dL,assignEach->xL,binaryOp->IN,NameKind->wP,behindInMarks->wS,foldedSetIterable->wT,sysModules->AT,getMethod->XV,Keyword->TW,ExcBaseFacts->o0,rawInt->u8,cLine->W',excClassObj->X',standAt->Y',Scope->XXa,getItem->XXb,sliceBounds->XXc,callWith->XXd,letOwnedTupleGo->XXe,codeAny->XXf,scanBound->XXg,IsZip->XXh,Operator->XXj
def c9:=@if_neg
def de:=@if_pos
def dX:=@decide_eq_true
def eB:=@decide_eq_true_eq
def eL:=@beq_self_eq_true
def eV:=@congrArg
def eY:=@decide_eq_false
def fm:=@or_false
def ft:=@beq_iff_eq
def fD:=@of_decide_eq_true
def fV:=@not_or
def gB:=@beq_eq_false_iff_ne
def jk:=@if_true
def ku:=@if_false
def lG:=@bne_self_eq_false
open PySem.Heap renaming get?_push_of_some->df,lt_size->dB,get?_push_size->dM,get?_update_self->fN,size_push->fT,get?_update_other->gk,get?_none_of_le->gO,get?_push_ne->iM,size_update->iU,get?_update_ne->ji
open Option.some renaming inj->dg,injEq->jy
open Nat renaming le_refl->dq,ne_of_lt->dP,lt_of_lt_of_le->dR,le_trans->d9,zero_le->eQ,lt_irrefl->fk,lt_succ_self->fR,lt_succ_of_lt->gM,le_succ->gS,succ_le_succ->gU,le_add_right->gX,ne_of_gt->ie,sub_self->ik,lt_trans->iD,lt_of_le_of_lt->iJ,le_succ_of_le->iN,le_of_lt->jE,le_of_not_lt->jK,mul_le_mul->km,sub_zero->kY,lt_succ_of_le->lJ,min_eq_left->mq,le_of_eq->mC,succ_mul->mE,zero_add->mF,succ_pos->mH
open Bool renaming false_ne_true->dw,eq_false_iff->dG,and_eq_true->dU,true_and->eP,false_and->e9,false_or->fM,eq_iff_iff->gh,not_eq_true'->gN,or_eq_true->hU,true_or->ig,not_eq_false->iO,or_false->kE,false_eq_true->k9,or_true->lj,beq_comm->my,and_true->mz,true->Db,false->pc
open Ne renaming symm->dQ
open Int renaming eq_ofNat_of_zero_le->eE,emod_lt_of_pos->eX,emod_nonneg->eZ,mul_le_mul_of_nonneg_left->jh,toNat_natCast->jv,emod_add_mul_ediv->kq,zero_add->mI
open PySem.PassesOwn renaming never->eW
open PyProof.Rows renaming slot_tuple_getitem->fE,callWith_type1->gf,callWith_builtin1->hJ,SetOf_congr->jM,subscriptTail_builtinR->j7,listUpdate_at->kG,entry_tuple_getitem->kH,args_tuple_getitem->kW,seqEpoch_at->lN,size_push'->mj,seqObj->wE,envOfC->sK,AllBare->XXi
open PySem.W renaming kia_one->gy,callWith_K->iZ,methodCall_KW->j4,plainGet_of->kC,looks_clsIn->kD,kitx_list->lK,cellsFrom_some->lU,looks_findIn->mw
open List.cons renaming inj->gz
open PyProof.Rows.F renaming plain_set_update_loop->gH,entry_set_update_loop->iF
open PySem.F renaming slot_tuple_iterator_next->gL,called_set->gW,slot_list_getattribute->iE,slot_zip_next->jd,args_tuple_iterator_next_1->jm,entry_tuple_iterator_next->jr,slot_dict_getitem->jz,args_tuple_add_2->jI,store_ValueError->jR,entry_tuple_add->jV,slot_dict_items->jW,slot_tuple_add->j6,excBase_ValueError->kB,args_zip_next_1->lF,entry_zip_next->lY,slot_int_rmul->mh
open Option renaming map_eq_some_iff->hZ,isSome_map->jx,isSome_iff_exists->jG,map_some->jZ,getD_none->lW,bind_some->l0,some->ga,none->Fa
open PySem.Around renaming under_plainId->il
open Array renaming getElem?_setIfInBounds_self_of_lt->iq,length_toList->iu,toList_append->jj,size_setIfInBounds->jQ,getElem?_toList->ke,mem_toList_iff->kt,append_assoc->kS
open PySem.Calls renaming spliced_cons->iC,spliced_nil->iL,Name_function_global->jt,callWith_builtin->j8
open List.Nodup renaming sublist->iI
open PySem.Code renaming quiet_builtin->jp
open PySem.Paired renaming length->js,snoc->mK
open Sum.inr renaming inj->j5
open PySem.Walks renaming list->ky
open PySem.Heap.SameBut renaming update->kK
open PySem.SeqAt.EqAt renaming int_str->kP,str_int->kQ
open PySem.Obj renaming data_mapFields->kZ
open PySem.Heap.Ns1 renaming of_empty->lA
open Eq renaming symm->mx
open PySem.W.Looks renaming here->mB
open Prod renaming ext->mD
open PySem.Heap.FunFrames renaming of_keeps->mJ
open PySem.Moved renaming trans->mL
open PySem.Heap.IsSliceOf renaming new->mM
open List.Pairwise renaming map->mO
abbrev qK:=PySem.W.Frag
local macro_rules | `(tactic| walk_at "l") => `(tactic| (intro _ _ _ h; repeat (first | (obtain ⟨e, _⟩ := h; subst e; rfl; done) | (cases h; rename_i h))))
local macro_rules | `(tactic| walk_at "m") => `(tactic| (intro _ _ _ _ h; repeat (first | (obtain ⟨e, _⟩ := h; subst e; rfl; done) | (cases h; rename_i h))))
abbrev Vl:=PySem.Value
abbrev Sd:=PySem.Shared
abbrev Pg:=PySem.Program
abbrev Ar:=PySem.Around
theorem Z'{α:Sort _}{a:α}:a=a:=rfl
abbrev Wo:=PySem.World
abbrev T0(α:Type _):=List α
abbrev QQQ:=List PySem.Str
abbrev QQX:=PySem.Value->PySem.Shared->Prop
abbrev QQY:=List (PySem.Addr×PySem.Obj)
abbrev QQZ:=PySem.Str->Option PySem.Value
abbrev QXQ:=List PySem.Addr
section
open PySem PySem.Spec PyProof.Rows
namespace L2
def x5{α:Sort u}{β:Sort v}{p q r:α->β->Prop}{C:Prop}(h:∃a b,p a b/\q a b/\r a b)(f:∀a b,p a b->q a b->r a b->C):C:=by obtain⟨a,b,h1,h2,h3⟩:=h;exact f a b h1 h2 h3
abbrev rF:=Sum Int Str
noncomputable def Cr:rF->Vl->Bool
 | .inl k,v=>Value.isInt k v
 | .inr x,v=>Value.isStrOf x v
noncomputable def VF(w:Wo):rF->Int
 | .inl k=>hashInt k
 | .inr x=>hashStr w x
def sG:∀{k:rF} {v:Vl},Cr k v=Db->(∃i t,k=Sum.inl i/\v=Value.int i t)\/(∃x t,k=Sum.inr x/\v=Value.str x t)
 | .inl i,v,h=>by obtain⟨t,e⟩:=Value.isInt_shape (k:=i) (v:=v) h;exact .inl ⟨i,t,Z',e⟩
 | .inr x,v,h=>by obtain⟨t,e⟩:=Value.isStrOf_shape (x:=x) (v:=v) h;exact .inr ⟨x,t,Z',e⟩
def J6(i:Int)(t:Tok):Cr (.inl i) (.int i t)=Db:=by simp[Cr,Value.isInt]
def Kg(x:Str)(t:Tok):Cr (.inr x) (.str x t)=Db:=by simp[Cr,Value.isStrOf]
def RC(a b:Int):decide ((Sum.inl a:rF)=Sum.inl b)=(a==b):=by
 by_cases e:a=b
 .subst e;simp
 .have h:¬(Sum.inl a:rF)=Sum.inl b:=λq=>e (Sum.inl.inj q);rw[eY h];exact(gB.mpr e).symm
def SY(a b:Str):decide ((Sum.inr a:rF)=Sum.inr b)=decide (a=b):=by
 by_cases e:a=b
 .subst e;simp
 .have h:¬(Sum.inr a:rF)=Sum.inr b:=λq=>e (j5 q);rw[eY h,eY e]
def Rj(a:Int)(b:Str):decide ((Sum.inl a:rF)=Sum.inr b)=pc:=eY (λq=>nomatch q)
def RH(a:Str)(b:Int):decide ((Sum.inr a:rF)=Sum.inl b)=pc:=eY (λq=>nomatch q)
noncomputable def rQ(prog:Pg)(w:Wo):PySem.KeyKind prog w rF where
 is:=Cr
 hash:=VF w
 inj:=λv a b ha hb=>by
  rcases sG ha with⟨i,t,rfl,rfl⟩|⟨x,t,rfl,rfl⟩
  .rcases sG hb with⟨j,u,rfl,e⟩|⟨y,u,rfl,e⟩
   .injection e with e1 _;rw[e1]
   .exact nomatch e
  .rcases sG hb with⟨j,u,rfl,e⟩|⟨y,u,rfl,e⟩
   .exact nomatch e
   .injection e with e1 _;rw[e1]
 byValue:=λk v h=>by rcases sG h with⟨i,t,rfl,rfl⟩|⟨x,t,rfl,rfl⟩<;>rfl
 pyHash:=λhv h=>by
  rcases sG hv with⟨i,t,rfl,rfl⟩|⟨x,t,rfl,rfl⟩
  .exact wpAny_pyHash_int h
  .exact lO h
 eqBool:=λhu hv h=>by
  rcases sG hu with⟨i,t,rfl,rfl⟩|⟨x,t,rfl,rfl⟩
  .rcases sG hv with⟨j,u,rfl,rfl⟩|⟨y,u,rfl,rfl⟩
   .rw[RC]at h;exact lP h
   .rw[Rj]at h;exact kP i t y u _ _ _ _ h
  .rcases sG hv with⟨j,u,rfl,rfl⟩|⟨y,u,rfl,rfl⟩
   .rw[RH]at h;exact kQ x t j u _ _ _ _ h
   .rw[SY]at h;exact wpAny_eqBool_str h
 «strs»:=λk x t v h=>by
  rcases sG h with⟨i,u,rfl,e⟩|⟨y,u,rfl,e⟩
  .exact nomatch e
  .injection e with e1 _
   subst e1;cases v<;>rfl
def Hg(prog:Pg)(w:Wo)(i:Int)(t:Tok):(rQ prog w).is (.inl i) (.int i t)=Db:=J6 i t
def AQ(prog:Pg)(w:Wo)(x:Str)(t:Tok):(rQ prog w).is (.inr x) (.str x t)=Db:=Kg x t
inductive V where
 | mW|bl (b:Bool)|int (i:Int)|str (x:Str)|byt (b:Array UInt8)|flt (b:UInt64)|ref (a:Uf)|ty (n:String)
 deriving DecidableEq
def rh:V->Vl->Prop
 | .mW,u=>u=Value.none
 | .bl b,u=>u=Value.bool b
 | .int i,u=>∃t,u=Value.int i t
 | .str x,u=>∃t,u=Value.str x t
 | .byt b,u=>∃t,u=Value.bytes b t
 | .flt b,u=>∃t,u=Value.float b t
 | .ref a,u=>u=Value.ref a
 | .ty n,u=>u=Value.type n
abbrev qN:T0 V->T0 Vl->Prop:=Paired rh
def qN.length(r:qN xs us):xs.length=us.length:=js r
theorem qN.get:∀{xs:T0 V} {us:T0 Vl} {i:Nat} {x:V},qN xs us->xs[i]?=ga x->∃u,us[i]?=ga u/\rh x u
 | _,_,_,_,.nil,e=>by simp at e
 | _,_,0,_,.cons r _,e=>by simp at e;subst e;exact⟨_,Z',r⟩
 | _,_,i+1,x,.cons _ t,e=>by obtain⟨u,h1,h2⟩:=qN.get (i:=i) (x:=x) t (by simpa using e);exact⟨u,by simpa using h1,h2⟩
theorem qN.set(r:rh x u):∀{xs:T0 V} {us:T0 Vl} (i:Nat),qN xs us->qN (xs.set i x) (us.set i u)
 | _,_,_,.nil=>.nil
 | _,_,0,.cons _ t=>.cons r t
 | _,_,i+1,.cons q t=>.cons q (qN.set r i t)
theorem qN.append:∀{xs ys:T0 V} {us ws:T0 Vl},qN xs us->qN ys ws->qN (xs++ys) (us++ws)
 | _,_,_,_,.nil,s=>s
 | _,_,_,_,.cons r t,s=>.cons r (qN.append t s)
theorem qN.take:∀{xs:T0 V} {us:T0 Vl} (n:Nat),qN xs us->qN (xs.take n) (us.take n)
 | _,_,0,_=>.nil
 | _,_,_+1,.nil=>.nil
 | _,_,n+1,.cons r t=>.cons r (qN.take n t)
theorem qN.drop:∀{xs:T0 V} {us:T0 Vl} (n:Nat),qN xs us->qN (xs.drop n) (us.drop n)
 | _,_,0,r=>r
 | _,_,_+1,.nil=>.nil
 | _,_,n+1,.cons _ t=>qN.drop n t
def yM:Option V->Option Vl->Prop
 | some v,ga u=>rh v u
 | none,none=>True
 | _,_=>False
def KV{κ:Type}:T0 (κ×V)->T0 (κ×Vl)->Prop:=Paired λ(p:κ×V) (q:κ×Vl)=>p.1=q.1/\rh p.2 q.2
noncomputable def kV:rF->V
 | .inl i=>.int i
 | .inr x=>.str x
inductive HO where
 | lst (xs:List V)
 | tup (xs:List V)
 | dK (kvs:List (rF×V))|dT (kvs:List (List rF×V))
 | set (S:Int->Bool) (n:Nat)
 | ins (C dx:Uf) (fs:List (Str×V))
 | own (x:Uf)
 | xd (fs:List (Str×V))
 | met (f x:Uf)
 | rng (lo hi:Int)
 | frz (o:Obj) (u:HO)
 | tbl (ps:Array Vl)
 | ext (φ:No->Prop)
abbrev Hp:=Uf->Option HO
noncomputable def upd(H:Hp)(a:Uf)(o:HO):Hp:=λb=>if b=a then ga o else H b
def qy:upd H a o a=ga o:=by unfold upd;rw[de Z']
def qo{a b:Uf}(h:b≠a):upd H a o b=H b:=by unfold upd;rw[c9 h]
def PD:upd (upd H a o) a u=upd H a u:=by funext b;unfold upd;split<;>rfl
def UZ{H:Hp}{a b:Uf}{o u:HO}(h:H a=ga o)(h':H b=ga u)(d:o≠u):a≠b:=by intro e;subst e;rw[h]at h';exact d (dg h')
def rB{H:Hp}{a b:Uf}{o:HO}(h:H a=ga o)(h':H b=Fa):a≠b:=by intro e;subst e;rw[h]at h';cases h'
section
variable (P:Pg)(w:Wo)
def FP(h:No)(a:Uf)(its:Array Vl):Prop:=∃o,h.get? a=ga o/\o.cls=.type "tuple"/\(∃n,o.data=.seq its n)/\o.dict=Fa
def sR(H:Hp)(h:No)(a:Uf):HO->Prop
 | .lst xs=>xs.length<=Ch/\∃(its:T0 Vl) (n:Nat),qN xs its/\h.get? a=ga {cls:=.type "list",data:=.seq its.toArray n}
 | .tup xs=>xs.length<=Ch/\∃its:T0 Vl,qN xs its/\FP h a its.toArray
 | .dK kvs=>kvs.length<=Ch/\(a==AT)=pc/\∃vs,KV kvs vs/\h.DictOf (rQ P w) a vs
 | .dT kvs=>kvs.length<=Ch/\(a==AT)=pc/\∃xs:T0 (List rF×Uf×Vl),Paired (λ(p:List rF×V) (q:List rF×Uf×Vl)=>p.1=q.1/\H q.2.1=ga (.tup (p.1.map kV))/\rh p.2 q.2.2) kvs xs/\
   ∃o es ep,h.get? a=ga o/\o.ExactDict/\o.data=.dict es ep/\es.toList=xs.map (entryOfKey (tupleKind (rQ P w)))/\(xs.map (·.1)).Nodup
 | .set S n=>h.SetOf (intKind P w) a S n
 | .ins C dx fs=>H dx=ga (.own a)/\fs.length<=1000/\dx≠a/\h.get? a=ga (W.instObj C dx)/\
   ∃mA,h.Ns1 dx mA/\(∀f,yM (fs.lookup f) (mA f))/\PySem.Within mA (fs.map (·.1))
 | .own _=>∃o,h.get? a=ga o
 | .xd fs=>∃mA,h.Ns1 a mA/\∀f,yM (fs.lookup f) (mA f)
 | .rng lo hi=>∃t u v,h.get? a=ga {cls:=.type "range",data:=.fields #[.int lo t,.int hi u,.int 1 v]}
 | .frz o u=>h.get? a=ga o/\sR H h a u
 | .tbl ps=>h.get? a=ga {cls:=.none,data:=.fields ps}
 | .met f x=>h.get? a=ga (W.methodObj (.ref f) (.ref x))
 | .ext φ=>φ h/\(∃o,h.get? a=ga o)/\∀h1 h2:No,φ h1->(∀o,h1.get? a=ga o->h2.get? a=ga o)->φ h2
def yO(H:Hp)(h:No):Prop:=∀a o,H a=ga o->sR P w H h a o
end
variable {H H':Hp}{h h':No}
section
variable {P:Pg}{w:Wo}{a:Uf}{o:HO}
def FP.is(x:FP h a its):IsTup h a its:=let⟨o,e,c,d,_⟩:=x;⟨o,e,c,d⟩
def FP.new(h:No)(W8:Array Vl):FP (h.push {cls:=.type "tuple",data:=.seq W8}) h.objs.size W8:=⟨_,dM _ Z',Z',⟨_,Z'⟩,Z'⟩
def sR.lt(x:sR P w H h a o):a<h.objs.size:=by
 cases o with
 | lst xs=>obtain⟨_,_,_,_,e⟩:=x;exact dB e
 | tup xs=>obtain⟨_,_,_,_,e,_⟩:=x;exact dB e
 | dK kvs=>obtain⟨_,_,_,_,o,_,_,e,_⟩:=x;exact dB e
 | dT kvs=>obtain⟨_,_,_,_,o,_,_,e,_⟩:=x;exact dB e
 | set S n=>obtain⟨o,_,_,_,e,_⟩:=x;exact dB e
 | ins C dx fs=>obtain⟨_,_,_,e,_⟩:=x;exact dB e
 | own y=>obtain⟨_,e⟩:=x;exact dB e
 | xd fs=>obtain⟨_,⟨_,_,_,e,_⟩,_⟩:=x;exact dB e
 | rng lo hi=>obtain⟨_,_,_,e⟩:=x;exact dB e
 | frz ob u=>obtain⟨e,_⟩:=x;exact dB e
 | tbl ps=>exact dB (show h.get? a=ga _ from x)
 | met f y=>exact dB (show h.get? a=ga _ from x)
 | ext φ=>obtain⟨_,⟨_,e⟩,_⟩:=x;exact dB e
theorem Paired.oK{α β:Type}{F G:α->β->Prop}:∀{l₁:List α} {l₂:List β},Paired F l₁ l₂->(∀a b,F a b->G a b)->Paired G l₁ l₂
 | _,_,.nil,_=>.nil
 | _,_,.cons r t,f=>.cons (f _ _ r) (Paired.oK t f)
def sR.nC(x:sR P w H h a o)(k:∀b u,(b=a\/H b=ga (.own a))->h.get? b=ga u->h'.get? b=ga u) (ho:∀b,H b=ga (.own a)->H' b=ga (.own a)) (ht:∀b xs,H b=ga (.tup xs)->H' b=ga (.tup xs)):sR P w H' h' a o:=by
 induction o with
 | lst xs=>obtain⟨z,its,n,r,e⟩:=x;exact⟨z,its,n,r,k _ _ (.inl Z') e⟩
 | tup xs=>obtain⟨z,its,r,ob,e,c⟩:=x;exact⟨z,its,r,ob,k _ _ (.inl Z') e,c⟩
 | dK kvs=>obtain⟨z,y,vs,r,ob,es,ep,e,c⟩:=x;exact⟨z,y,vs,r,ob,es,ep,k _ _ (.inl Z') e,c⟩
 | dT kvs=>obtain⟨z,y,xs,r,ob,es,ep,e,c⟩:=x;exact⟨z,y,xs,Paired.oK r λp q z=>⟨z.1,ht _ _ z.2.1,z.2.2⟩,ob,es,ep,k _ _ (.inl Z') e,c⟩
 | set S n=>obtain⟨ob,es,ep,t,e,c⟩:=x;exact⟨ob,es,ep,t,k _ _ (.inl Z') e,c⟩
 | ins C dx fs=>obtain⟨d,z,ne,e,mA,⟨od,es,ep,e2,c⟩,r⟩:=x;exact⟨ho _ d,z,ne,k _ _ (.inl Z') e,mA,⟨od,es,ep,k _ _ (.inr d) e2,c⟩,r⟩
 | own y=>obtain⟨ob,e⟩:=x;exact⟨ob,k _ _ (.inl Z') e⟩
 | xd fs=>obtain⟨mA,⟨od,es,ep,e,c⟩,r⟩:=x;exact⟨mA,⟨od,es,ep,k _ _ (.inl Z') e,c⟩,r⟩
 | rng lo hi=>obtain⟨t,u,v,e⟩:=x;exact⟨t,u,v,k _ _ (.inl Z') e⟩
 | frz ob u ih=>obtain⟨e,q⟩:=x;exact⟨k _ _ (.inl Z') e,ih q⟩
 | tbl ps=>have e:h.get? a=ga {cls:=.none,data:=.fields ps}:=x;show h'.get? a=ga {cls:=.none,data:=.fields ps};exact k a _ (.inl Z') e
 | met f y=>have e:h.get? a=ga (W.methodObj (.ref f) (.ref y)):=x;show h'.get? a=ga (W.methodObj (.ref f) (.ref y));exact k a _ (.inl Z') e
 | ext φ=>obtain⟨p,⟨o,e⟩,st⟩:=x;exact⟨st _ _ p λo q=>k _ _ (.inl Z') q,⟨o,k _ _ (.inl Z') e⟩,st⟩
def yO.lt(x:yO P w H h)(e:H a=ga o):a<h.objs.size:=(x a o e).lt
def yO.fresh(x:yO P w H h)(e:h.objs.size<=a):H a=Fa:=by
 cases q:H a with
 | none=>rfl
 | some u=>exact absurd (dR (x.lt q) e) (fk _)
def yO.kept(x:yO P w H h)(k:∀b u,h.get? b=ga u->h'.get? b=ga u):yO P w H h':=λa o e=>(x a o e).nC (λb u _ q=>k b u q) (λ_ q=>q) λ_ _ q=>q
def yO.laid(x:yO P w H h)(k:∀b u,h.get? b=ga u->h'.get? b=ga u)(hp:h.objs.size<=a)(new:sR P w (upd H a o) h' a o):yO P w (upd H a o) h':=λb u e=>by
 have hn:=x.fresh hp;by_cases hb:b=a
 .subst hb;rw[qy]at e;cases e;exact new
 .rw[qo hb]at e;exact(x b u e).nC (λc v _ q=>k c v q) (λc q=>by rw[qo (rB q hn)];exact q) λc xs q=>by rw[qo (rB q hn)];exact q
end
def Rd(H:Hp)(a:Uf)(u:HO):Prop:=H a=ga u\/∃o,H a=ga (.frz o u)
def Rd.ok(r:Rd H a u)(x:yO P w H h):sR P w H h a u:=by
 rcases r with r|⟨o,r⟩
 .exact x a u r
 .obtain⟨_,q⟩:=x a _ r;exact q
def TJ:Option HO->Prop
 | some (.lst _)=>True
 | some (.dK _)=>True
 | some (.dT _)=>True
 | some (.set _ _)=>True
 | some (.ins _ _ _)=>True
 | some (.ext _)=>True
 | _=>False
variable {o':HO}
section
variable {P:Pg}{w:Wo}{x e:Uf}
def yO.write(ok:yO P w H h)(mu:TJ (H x))(he:e=x\/H e=ga (.own x))(k:∀b u,b≠e->h.get? b=ga u->h'.get? b=ga u)(heo:∃u,h'.get? e=ga u) (new:sR P w (upd H x o') h' x o'):yO P w (upd H x o') h':=λb u q=>by
 have nown:∀c y,H c=ga (.own y)->c≠x:=λc y r z=>by subst z;rw[r]at mu;exact mu
 have ntup:∀c xs,H c=ga (.tup xs)->c≠x:=λc xs r z=>by subst z;rw[r]at mu;exact mu
 by_cases hb:b=x
 .subst hb;rw[qy]at q;cases q;exact new
 .rw[qo hb]at q;by_cases hbe:b=e
  .have q':H b=ga (.own x):=by
    rcases he with z|z
    .exact absurd (hbe.trans z) hb
    .rw[hbe];exact z
   rw[q]at q';cases q';obtain⟨v,hv⟩:=heo;exact⟨v,by rw[hbe];exact hv⟩
  .refine(ok b u q).nC (λc v hc r=>k c v ?_ r) (λc r=>by rw[qo (nown c b r)];exact r) λc xs r=>by rw[qo (ntup c xs r)];exact r
   rcases hc with rfl|hc
   .exact hbe
   .rintro rfl
    rcases he with z|z
    .exact nown c b hc z
    .rw[hc]at z;cases z;exact hb Z'
end
structure Un(fs ex:QXQ)(H H':Hp)(h h':No):Prop where
 keep:∀b o,h.get? b=ga o->H b=Fa->b∉fs->b∉ex->h'.get? b=ga o
 slot:∀b o,h.get? b=ga o->H b=Fa->b∈fs->b∉ex->∃sl,h'.get? b=ga {o with slots:=sl}
 free:∀b o,h.get? b=ga o->H b=Fa->b∉ex->H' b=Fa
 there:∀b o,h.get? b=ga o->b∉ex->∃o',h'.get? b=ga o'
 nM:∀b xs,H b=ga (.tup xs)->H' b=ga (.tup xs)
 nK:∀b o u,H b=ga (.frz o u)->H' b=ga (.frz o u)
 nQ:∀b ps,H b=ga (.tbl ps)->∃more,H' b=ga (.tbl (ps++more))
variable {ex ex':QXQ}{H1 H2:Hp}{h1 h2:No}
section
variable {fs fs':QXQ}{a x e:Uf}{o:HO}
def Un.any(u:Un fs ex H H1 h h1){b:Uf}{ob:Obj}(q:h.get? b=ga ob)(n:H b=Fa)(hx:b∉ex):∃sl,h1.get? b=ga {ob with slots:=sl}:=by
 by_cases hb:b∈fs
 .exact u.slot b ob q n hb hx
 .exact⟨ob.slots,u.keep b ob q n hb hx⟩
def Un.trans(a:Un fs ex H H1 h h1)(b:Un fs ex H1 H2 h1 h2):Un fs ex H H2 h h2 where
 keep:=λc ob q n hc hx=>b.keep c ob (a.keep c ob q n hc hx) (a.free c ob q n hx) hc hx
 slot:=λc ob q n hc hx=>by obtain⟨sl,e1⟩:=a.slot c ob q n hc hx;obtain⟨YD,e2⟩:=b.slot c _ e1 (a.free c ob q n hx) hc hx;exact⟨YD,e2⟩
 free:=λc ob q n hx=>by obtain⟨o',e1⟩:=a.there c ob q hx;exact b.free c o' e1 (a.free c ob q n hx) hx
 there:=λc ob q hx=>by obtain⟨o',e1⟩:=a.there c ob q hx;exact b.there c o' e1 hx
 nM:=λc xs q=>b.nM c xs (a.nM c xs q)
 nK:=λc ob xs q=>b.nK c ob xs (a.nK c ob xs q)
 nQ:=λc ps q=>by obtain⟨m1,e1⟩:=a.nQ c ps q;obtain⟨m2,e2⟩:=b.nQ c _ e1;exact⟨m1++m2,by rw[e2,kS]⟩
def Un.kept(k:∀b u,h.get? b=ga u->h'.get? b=ga u):Un fs ex H H h h':=
 ⟨λb ob q _ _ _=>k b ob q,λb ob q _ _ _=>⟨ob.slots,k b ob q⟩,λ_ _ _ n _=>n,λb ob q _=>⟨ob,k b ob q⟩,λ_ _ q=>q,λ_ _ _ q=>q,λ_ ps q=>⟨#[],by rw[q];simp⟩⟩
def Un.refl:Un fs ex H H h h:=Un.kept λ_ _ q=>q
def Un.laid(k:∀b u,h.get? b=ga u->h'.get? b=ga u)(hp:h.objs.size<=a)(hn:H a=Fa):Un fs ex H (upd H a o) h h' where
 keep:=λb u q _ _ _=>k b u q
 slot:=λb u q _ _ _=>⟨u.slots,k b u q⟩
 free:=λb u q n _=>by rw[qo (dP (dR (dB q) hp))];exact n
 there:=λb u q _=>⟨u,k b u q⟩
 nM:=λb xs q=>by rw[qo (rB q hn)];exact q
 nK:=λb u xs q=>by rw[qo (rB q hn)];exact q
 nQ:=λb ps q=>⟨#[],by rw[qo (rB q hn),q];simp⟩
def Un.write(mu:TJ (H x))(he:e=x\/H e=ga (.own x))(k:∀b u,b≠e->h.get? b=ga u->h'.get? b=ga u)(heo:∃u,h'.get? e=ga u):Un fs ex H (upd H x o) h h':=by
 have hx:∀b,H b=Fa->b≠x:=λb n z=>by subst z;rw[n]at mu;exact mu
 have hb:∀b,H b=Fa->b≠e:=λb n z=>by
  subst z;rcases he with r|r
  .exact hx b n r
  .rw[n]at r;cases r
 have hm:∀b u,H b=ga u->¬TJ (ga u)->b≠x:=λb u q nm z=>by subst z;rw[q]at mu;exact nm mu
 refine⟨λb u q n _ _=>k b u (hb b n) q,λb u q n _ _=>⟨u.slots,k b u (hb b n) q⟩,λb u q n _=>by rw[qo (hx b n)];exact n,λb u q _=>?_,λb xs q=>by rw[qo (hm b _ q λz=>z)];exact q,λb u xs q=>by rw[qo (hm b _ q λz=>z)];exact q,λb ps q=>⟨#[],by rw[qo (hm b _ q λz=>z),q];simp⟩⟩
 by_cases hbe:b=e
 .subst hbe;exact heo
 .exact⟨u,k b u hbe q⟩
end
noncomputable def Vh(h:No)(H:Hp):QXQ:=(List.range h.objs.size).filter λa=>(H a).isSome
noncomputable def ET(h:No)(H:Hp):No:=W.hideAll h (Vh h H)
def Lc(h:No)(H:Hp):(ET h H).objs.size=h.objs.size:=W.hideAll_size _ _
def Ln{h:No}{H:Hp}{b:Uf}{o:Obj}(e:h.get? b=ga o)(n:H b=Fa):(ET h H).get? b=ga o:=
 W.hideAll_get _ e λhm=>by have q:(H b).isSome=Db:=(fA.mp hm).2;rw[n]at q;simp at q
def QB{b:Uf}{o:Obj}(e:(ET h H).get? b=ga o):h.get? b=ga o/\H b=Fa:=by
 have e':h.get? b=ga o:=W.of_hideAll (Vh h H) e;refine⟨e',?_⟩;cases q:H b with
 | none=>rfl
 | some x=>have hm:b∈Vh h H:=fA.mpr ⟨gb.mpr (dB e'),by simp[q]⟩;have z:(ET h H).get? b=Fa:=W.hideAll_none (Vh h H) hm;rw[z]at e;cases e
structure Mod(K:qK)(mg:QQZ)(base:No):Prop where
 oM:K.In base
 glob:base.Ns gt mg
 blt:∃mb,base.Ns builtinsNs mb/\∀x:Str,x≠"__name__"->mb x=zn x
 nolimit:base.NoLimit
structure Cx where
 prog:Pg
 w:Wo
 K:qK
 mg:QQZ
 base:No
 A:Ar
 N:QQQ
 s₀:Sd
 H₀:Hp
 env:Env
 outer:List Env
 stack:List Env
 ex:QXQ
 fn:Str->Bool
 calm:Bool
 pn:QQY
 xe:QQX
abbrev Bm(X:Cx)(e:Go)(es:T0 Go):Prop:=Tl (e::es) X.env=(pc,wp e X.env)::Tl es X.env
abbrev Co(X:Cx)(p:Pos)(es:T0 Go):Prop:=(At p (Tl es X.env)).any (·.1)=pc
abbrev zv(x:Str):Prop:=(x==("__debug__":Str))=pc
abbrev L0(X:Cx)(x:Str):Prop:=X.fn x=Db\/X.env.scope.names.lookup x=ga .local
noncomputable def wW(l:T0 Env):QXQ:=l.filterMap (·.frame)
abbrev Cx.fs(X:Cx):QXQ:=wW X.outer
def UL(sc:XXa)(x:Str):Prop:=sc.names.lookup x=ga .local\/sc.names.lookup x=ga .cell\/sc.names.lookup x=ga .free
def Nk(sc:XXa)(x:Str):Prop:=sc.names.lookup x=ga .local\/sc.names.lookup x=ga .cell
def VJ(env:Env)(h:No)(m:QQZ)(x:Str)(u:Vl):Prop:=
 (env.kindOf x=ga .local/\m x=ga u)\/((env.kindOf x=ga .cell\/env.kindOf x=ga .free)/\∃c,env.cells.lookup x=ga c/\h.IsCell c (ga u))
structure Cx.Ok(X:Cx):Prop where
 mod:Mod X.K X.mg X.base
 kind:X.env.scope.kind=.function
 glob:X.env.globals=gt
 blt:X.env.builtins=builtinsNs
 above:X.s₀.heap.objs.size<=X.env.locals
 inj:∀x y c,X.env.cells.lookup x=ga c->X.env.cells.lookup y=ga c->x=y
 has:∀x,(X.env.kindOf x=ga .cell\/X.env.kindOf x=ga .free)->∃c,X.env.cells.lookup x=ga c
 oE:∀x c,X.fn x=Db->X.env.cells.lookup x=ga c->X.s₀.heap.objs.size<=c
 hd:X.calm=Db->X.A.handled=Fa
 frames:X.A.frames=ga X.stack
 oR:X.stack=X.outer\/(X.stack=X.env::X.outer/\X.env.frame=ga X.env.locals)
 pA:∀b∈X.ex,b≠X.env.locals/\∀x c,X.env.cells.lookup x=ga c->c≠b
 bs:∀b o,X.base.get? b=ga o->X.s₀.heap.get? b=ga o/\X.H₀ b=Fa
 ou:X.base.objs.size<=X.s₀.heap.objs.size
 nY:∀b o,X.base.get? b=ga o->b∉X.ex
 oh:∀b∈X.ex,b∉X.fs
 nH:X.s₀.heap.FunFrames X.base X.outer
 oB:∀b∈X.fs,X.H₀ b=Fa
structure Inv(X:Cx)(W7:QQY)(Y:List (Option V))(H:Hp)(s:Sd):Prop where
 ok:X.Ok
 os:s.os=X.s₀.os
 bare:XXi s.gens
 base:Un X.fs X.ex X.H₀ H X.s₀.heap s.heap
 loc:∃m,s.heap.Ns X.env.locals m/\∀(i:Nat) (x:Str) (v:V),X.N[i]?=ga x->Y[i]?=ga (ga v)->UL X.env.scope x->∃u,rh v u/\VJ X.env s.heap m x u
 cell:∀x c,X.env.cells.lookup x=ga c->∃v,s.heap.IsCell c v
 free:H X.env.locals=Fa
 nj:∀x c,X.env.cells.lookup x=ga c->H c=Fa
 pin:∀p∈X.pn++W7,s.heap.get? p.1=ga p.2/\H p.1=Fa/\p.1≠X.env.locals/\p.1∉X.fs/\∀v,p.2.data≠.cell v
 mZ:yO X.prog X.w H s.heap
 len:Y.length=X.N.length
variable {X:Cx}{W7:T0 (Uf × Obj)}{s:Sd}
section
variable {Y:T0 (Option V)}
def Cx.Ok.nofr(ok:X.Ok){b:Uf}{o:Obj}(e:X.base.get? b=ga o):b∉X.fs:=λhb=>by have:=(ok.nH.mem hb).1;rw[e]at this;cases this
def Inv.bs(I:Inv X W7 Y H s):∀b o,X.base.get? b=ga o->s.heap.get? b=ga o/\H b=Fa:=λb o e=>⟨I.base.keep b o (I.ok.bs b o e).1 (I.ok.bs b o e).2 (I.ok.nofr e) (I.ok.nY b o e),I.base.free b o (I.ok.bs b o e).1 (I.ok.bs b o e).2 (I.ok.nY b o e)⟩
def Inv.bk(I:Inv X W7 Y H s):∀b o,X.base.get? b=ga o->s.heap.get? b=ga o:=λb o e=>(I.bs b o e).1
def Inv.mod(I:Inv X W7 Y H s):Mod X.K X.mg X.base:=I.ok.mod
def Inv.ny(I:Inv X W7 Y H s):X.K.In s.heap:=I.ok.mod.oM.keeps I.bk
def Inv.lt(I:Inv X W7 Y H s):X.env.locals<s.heap.objs.size:=let⟨_,hn,_⟩:=I.loc;hn.lt
def Inv.sz(I:Inv X W7 Y H s):X.s₀.heap.objs.size<=s.heap.objs.size:=d9 I.ok.above (jE I.lt)
def Inv.oU(I:Inv X W7 Y H s){a:Uf}(h:s.heap.objs.size<=a):a∉X.fs:=λhb=>by obtain⟨_,o,ho,_⟩:=I.ok.nH.mem hb;exact absurd (dR (dB ho) (d9 I.sz h)) (fk _)
def Inv.pC(I:Inv X W7 Y H s):∀x c,X.env.cells.lookup x=ga c->c≠X.env.locals:=λx c e z=>by obtain⟨v,o,ho,hd⟩:=I.cell x c e;obtain⟨m,⟨o',es,ep,XQ,hd',_⟩,_⟩:=I.loc;rw[z,XQ]at ho;cases ho;rw[hd']at hd;cases hd
def Inv.nH(I:Inv X W7 Y H s):s.heap.FunFrames X.base X.outer:=by
 have all:∀(l:T0 Env),(∀b∈wW l,b∈X.fs)->X.s₀.heap.FunFrames X.base l->s.heap.FunFrames X.base l:=by
  intro l;induction l with
  | nil=>intro _ _;trivial
  | cons env r ih=>intro hs hl;obtain⟨hk,⟨L,o,hf,hn,ho,hd⟩,hr⟩:=hl;have hL:L∈X.fs:=hs L (by unfold wW;rw[gi,hf];exact dO);obtain⟨sl,e⟩:=I.base.slot L o ho (I.ok.oB L hL) hL λz=>I.ok.oh L z hL;exact⟨hk,⟨L,_,hf,hn,e,hd⟩,ih (λb hb=>hs b (by unfold wW;rw[gi,hf];exact dE _ hb)) hr⟩
 exact all X.outer (λ_ hb=>hb) I.ok.nH
def Inv.stack(I:Inv X W7 Y H s):s.heap.FunFrames X.base X.stack:=by
 rcases I.ok.oR with e|⟨e,hf⟩
 .rw[e];exact I.nH
 .rw[e];obtain⟨m,hn,_⟩:=I.loc;refine .cons (by rw[I.ok.kind];decide) hf hn ?_ I.nH;exact gO (d9 I.ok.ou I.ok.above)
def Inv.nJ(I:Inv X W7 Y H s):∀b∈wW X.stack,b∈X.env.locals::X.fs:=λb hb=>by
 rcases I.ok.oR with e|⟨e,hf⟩
 .rw[e]at hb;exact dE _ hb
 .rw[e]at hb;unfold wW at hb;rw[gi,hf]at hb;exact hb
def Inv.nO(I:Inv X W7 Y H s):∀b∈wW X.stack,H b=Fa:=λb hb=>by
 rcases dh.mp (I.nJ b hb)with e|hb
 .rw[e];exact I.free
 .obtain⟨_,o,ho,_⟩:=I.ok.nH.mem hb;exact I.base.free b o ho (I.ok.oB b hb) λz=>I.ok.oh b z hb
def Inv.step{g':Array GenState}{t':Nat}{d':Drawn}{ch:QXQ}(I:Inv X W7 Y H s) (Ya:∀b∈ch,(b∈X.ex\/X.s₀.heap.objs.size<=b)/\b≠X.env.locals/\(∀x c,X.env.cells.lookup x=ga c->c≠b)/\∀p∈X.pn++W7,p.1≠b) (keep:∀b o,b≠X.env.locals->b∉X.fs->b∉ch->s.heap.get? b=ga o->H b=Fa->h'.get? b=ga o) (slot:∀b o,b≠X.env.locals->b∈X.fs->b∉ch->s.heap.get? b=ga o->H b=Fa->∃sl,h'.get? b=ga {o with slots:=sl}) (free:∀b o,b∉ch->s.heap.get? b=ga o->H b=Fa->H' b=Fa)
  (there:∀b o,b∉ch->s.heap.get? b=ga o->∃o',h'.get? b=ga o')
  (nM:∀b xs,H b=ga (.tup xs)->H' b=ga (.tup xs)) (nK:∀b o u,H b=ga (.frz o u)->H' b=ga (.frz o u)) (nQ:∀b ps,H b=ga (.tbl ps)->∃more,H' b=ga (.tbl (ps++more)))
  (ns:∀m,s.heap.Ns X.env.locals m->h'.Ns X.env.locals m) (mZ:yO X.prog X.w H' h') (hg:XXi g'):
  Inv X W7 Y H' {s with heap:=h',gens:=g',drawn:=d',toks:=t'}:=by
 have neL:∀b o,X.s₀.heap.get? b=ga o->b≠X.env.locals:=λb o e=>dP (dR (dB e) I.ok.above);have neC:∀b o,X.s₀.heap.get? b=ga o->b∉X.ex->b∉ch:=λb o e hx hb=>by
  rcases(Ya b hb).1 with z|z
  .exact hx z
  .exact absurd (dR (dB e) z) (fk _)
 have Zy:∀x c,X.env.cells.lookup x=ga c->∀v,s.heap.IsCell c v->h'.IsCell c v:=λx c e v ⟨o,ho,hd⟩=>by
  have nch:c∉ch:=λz=>(Ya c z).2.2.1 x c e Z';by_cases hc:c∈X.fs
  .obtain⟨sl,q⟩:=slot c o (I.pC x c e) hc nch ho (I.nj x c e);exact⟨_,q,hd⟩
  .exact⟨o,keep c o (I.pC x c e) hc nch ho (I.nj x c e),hd⟩
 refine⟨I.ok,I.os,hg,⟨λb o e n hb hx=>?_,λb o e n hb hx=>?_,λb o e n hx=>?_,λb o e hx=>?_,λb xs e=>nM b xs (I.base.nM b xs e),λb o xs e=>nK b o xs (I.base.nK b o xs e),λb ps e=>?_⟩,?_,λx c e=>?_,?_,λx c e=>?_,λp hp=>?_,mZ,I.len⟩
 .exact keep b o (neL b o e) hb (neC b o e hx) (I.base.keep b o e n hb hx) (I.base.free b o e n hx)
 .obtain⟨sl,e1⟩:=I.base.slot b o e n hb hx;obtain⟨YD,e2⟩:=slot b _ (neL b o e) hb (neC b o e hx) e1 (I.base.free b o e n hx);exact⟨YD,e2⟩
 .obtain⟨o',e1⟩:=I.base.there b o e hx;exact free b o' (neC b o e hx) e1 (I.base.free b o e n hx)
 .obtain⟨o',e1⟩:=I.base.there b o e hx;exact there b o' (neC b o e hx) e1
 .obtain⟨m1,e1⟩:=I.base.nQ b ps e;obtain⟨m2,e2⟩:=nQ b _ e1;exact⟨m1++m2,by rw[e2,kS]⟩
 .obtain⟨m,hn,hl⟩:=I.loc;refine⟨m,ns m hn,λi x v e1 e2 e3=>?_⟩;obtain⟨u,r,l⟩:=hl i x v e1 e2 e3;refine⟨u,r,?_⟩;rcases l with l|⟨k,c,e,z⟩
  .exact .inl l
  .exact .inr ⟨k,c,e,Zy x c e _ z⟩
 .obtain⟨v,z⟩:=I.cell x c e;exact⟨v,Zy x c e v z⟩
 .obtain⟨m,⟨o,_,_,ho,_⟩,_⟩:=I.loc;exact free _ o (λz=>(Ya _ z).2.1 Z') ho I.free
 .obtain⟨v,o,ho,hd⟩:=I.cell x c e;exact free c o (λz=>(Ya c z).2.2.1 x c e Z') ho (I.nj x c e)
 .obtain⟨e,n,ne,nf,d⟩:=I.pin p hp;have nch:p.1∉ch:=λz=>(Ya p.1 z).2.2.2 p hp Z';exact⟨keep p.1 p.2 ne nf nch e n,free p.1 p.2 nch e n,ne,nf,d⟩
def Inv.un{t':Nat}(I:Inv X W7 Y H s)(u:Un X.fs [] H H' s.heap h')(mZ:yO X.prog X.w H' h'):Inv X W7 Y H' {s with heap:=h',toks:=t'}:=by
 obtain⟨m,⟨o,es,ep,ho,r⟩,_⟩:=id I.loc;obtain⟨sl,hL⟩:=u.any ho I.free (by simp);exact I.step (g':=s.gens) (d':=s.drawn) (ch:=[]) (λ_ z=>nomatch z) (λb o _ hb _ e n=>u.keep b o e n hb (by simp)) (λb o _ hb _ e n=>u.slot b o e n hb (by simp)) (λb o _ e n=>u.free b o e n (by simp)) (λb o _ e=>u.there b o e (by simp)) u.nM u.nK u.nQ (λm' hm=>by
  obtain⟨o',es',ep',XQ,r'⟩:=hm;rw[ho]at XQ;cases XQ;exact⟨_,es',ep',hL,r'⟩) mZ I.bare
def Inv.call{t':Nat}{d':Drawn}(I:Inv X W7 Y H s)(u:Un (wW X.stack) ch H H' s.heap h')(mZ:yO X.prog X.w H' h')(hg:XXi g') (Ya:∀b∈ch,(b∈X.ex\/X.s₀.heap.objs.size<=b)/\b≠X.env.locals/\(∀x c,X.env.cells.lookup x=ga c->c≠b)/\∀p∈X.pn++W7,p.1≠b):
  Inv X W7 Y H' {s with heap:=h',gens:=g',drawn:=d',toks:=t'}:=by
 obtain⟨m,⟨o,es,ep,ho,r⟩,_⟩:=id I.loc;obtain⟨sl,hL⟩:=u.any ho I.free λz=>(Ya _ z).2.1 Z';exact I.step (ch:=ch) Ya (λb o hL hb hc e n=>u.keep b o e n (λz=>(dh.mp (I.nJ b z)).elim hL hb) hc) (λb o _ _ hc e n=>u.any e n hc) (λb o hc e n=>u.free b o e n hc) (λb o hc e=>u.there b o e hc) u.nM u.nK u.nQ (λm' hm=>by
  obtain⟨o',es',ep',XQ,r'⟩:=hm;rw[ho]at XQ;cases XQ;exact⟨_,es',ep',hL,r'⟩) mZ hg
def Inv.turned{t':Nat}{it:Uf}(I:Inv X W7 Y H s)(k:∀b o,b≠it->s.heap.get? b=ga o->h'.get? b=ga o)(hn:H it=Fa)(hL:it≠X.env.locals) (h1:it∈X.ex\/X.s₀.heap.objs.size<=it) (h2:∀x c,X.env.cells.lookup x=ga c->c≠it) (h3:∀p∈X.pn++W7,p.1≠it):Inv X W7 Y H {s with heap:=h',toks:=t'}:=by
 have nit:∀b u,H b=ga u->b≠it:=λb u e z=>by rw[z,hn]at e;cases e
 refine I.step (g':=s.gens) (d':=s.drawn) (ch:=[it]) (λb hb=>?_) (λb o _ _ hc e _=>k b o (λz=>hc (by simp[z])) e) (λb o _ _ hc e _=>⟨o.slots,k b o (λz=>hc (by simp[z])) e⟩) (λ_ _ _ _ n=>n)
  (λb o hc e=>⟨o,k b o (λz=>hc (by simp[z])) e⟩) (λ_ _ e=>e) (λ_ _ _ e=>e) (λb ps e=>⟨#[],by rw[e];simp⟩) (λm hm=>?_) (λb u e=>?_) I.bare
 .have e:b=it:=by simpa using hb
  subst e;exact⟨h1,hL,h2,h3⟩
 .obtain⟨o,es,ep,ho,r⟩:=hm;exact⟨o,es,ep,k _ o (dQ hL) ho,r⟩
 .refine(I.mZ b u e).nC (λc v hc q=>k c v ?_ q) (λ_ q=>q) λ_ _ q=>q;rcases hc with z|z
  .rw[z];exact nit b u e
  .exact nit c _ z
def Inv.tok(I:Inv X W7 Y H s)(t:Nat):Inv X W7 Y H {s with toks:=t}:=I.un (h':=s.heap) (t':=t) Un.refl I.mZ
def Inv.kept{t':Nat}(I:Inv X W7 Y H s)(k:∀b u,s.heap.get? b=ga u->h'.get? b=ga u):Inv X W7 Y H {s with heap:=h',toks:=t'}:=I.un (Un.kept k) (I.mZ.kept k)
def Inv.laid{a:Uf}{t':Nat}(I:Inv X W7 Y H s)(k:∀b u,s.heap.get? b=ga u->h'.get? b=ga u)(hp:s.heap.objs.size<=a)(new:sR X.prog X.w (upd H a o) h' a o):
  Inv X W7 Y (upd H a o) {s with heap:=h',toks:=t'}:=I.un (Un.laid k hp (I.mZ.fresh hp)) (I.mZ.laid k hp new)
def Inv.write{x e:Uf}{t':Nat}(I:Inv X W7 Y H s)(mu:TJ (H x))(he:e=x\/H e=ga (.own x))(k:∀b u,b≠e->s.heap.get? b=ga u->h'.get? b=ga u)(heo:∃u,h'.get? e=ga u) (new:sR X.prog X.w (upd H x o) h' x o):Inv X W7 Y (upd H x o) {s with heap:=h',toks:=t'}:=I.un (Un.write mu he k heo) (I.mZ.write mu he k heo new)
def Inv.nU{Yb:QQY}(I:Inv X W7 Y H s)(h:∀p∈Yb,s.heap.get? p.1=ga p.2/\H p.1=Fa/\p.1≠X.env.locals/\p.1∉X.fs/\∀v,p.2.data≠.cell v):Inv X Yb Y H s:=
 ⟨I.ok,I.os,I.bare,I.base,I.loc,I.cell,I.free,I.nj,λp hp=>(dY.mp hp).elim (λz=>I.pin p (fH _ z)) (h p),I.mZ,I.len⟩
def Hj{N:QQQ}(hN:N.Nodup){i j:Nat}{x:Str}(a:N[i]?=ga x)(b:N[j]?=ga x):i=j:=by obtain⟨h1,e1⟩:=cZ.mp a;obtain⟨h2,e2⟩:=cZ.mp b;exact(lQ hN).mp (e1.trans e2.symm)
def Et{M:Model}{A:Ar}{E:QQX}{i:Nat}{x:Str}{Q:Unit->Sd->Prop}(I:Inv X W7 Y H s)(hN:X.N.Nodup)(hi:X.N[i]?=ga x)(hx:Nk X.env.scope x)(r:rh v u) (h:∀s',Inv X W7 (Y.set i (ga v)) H s'->(∃a,Heap.SameBut a s.heap s'.heap/\(a=X.env.locals\/X.env.cells.lookup x=ga a))->Q () s') (hf:L0 X x:=by first|exact .inl Z'|exact .inr Z'|assumption):pi M A (storeName X.env x u) Q E s:=by
 obtain⟨m,hn,hl⟩:=id I.loc;have hcls:(X.env.scope.kind==.class||(X.env.scope.kind==.module&&X.env.locals != X.env.globals))=pc:=by rw[I.ok.kind];rfl
 have hiσ:i<Y.length:=by rw[I.len];exact(cZ.mp hi).1
 have pC:=I.pC;have Xo:∀{a:Uf} {h':No},(∃o,s.heap.get? a=ga o/\H a=Fa)->Heap.SameBut a s.heap h'->yO X.prog X.w H h':=λ{a h'} ha hs b ob e=>by
  obtain⟨_,_,XW⟩:=ha;refine(I.mZ b ob e).nC (λc w' hc q=>(hs.2 c ?_).trans q) (λ_ q=>q) λ_ _ q=>q
  rintro rfl
  rcases hc with rfl|hc
  .rw[XW]at e;cases e
  .rw[XW]at hc;cases hc
 rcases hx with hk|hk
 .refine wpAny_storeName_local hk hn (λh' YE hs=>?_) hcls;obtain⟨oL,_,_,hoL,_⟩:=id hn;refine h _ ⟨I.ok,I.os,I.bare,⟨λb o e n hb hx=>?_,λb o e n hb hx=>?_,I.base.free,λb o e hx=>?_,I.base.nM,I.base.nK,I.base.nQ⟩,⟨_,YE,λj y v' e1 e2 e3=>?_⟩,λy c e=>?_,I.free,I.nj,λp hp=>?_,Xo ⟨oL,hoL,I.free⟩ hs,by simpa using I.len⟩ ⟨_,hs,.inl Z'⟩
  .exact(hs.2 b (dP (dR (dB e) I.ok.above))).trans (I.base.keep b o e n hb hx)
  .obtain⟨sl,e1⟩:=I.base.slot b o e n hb hx;exact⟨sl,(hs.2 b (dP (dR (dB e) I.ok.above))).trans e1⟩
  .obtain⟨o',e1⟩:=I.base.there b o e hx;exact⟨o',(hs.2 b (dP (dR (dB e) I.ok.above))).trans e1⟩
  .by_cases hj:j=i
   .subst hj;rw[hi]at e1;cases e1;rw[fK hiσ]at e2;cases e2;exact⟨u,r,.inl ⟨hk,by simp⟩⟩
   .rw[fJ (dQ hj)]at e2;obtain⟨u',r',q⟩:=hl j y v' e1 e2 e3;refine⟨u',r',?_⟩;rcases q with⟨k,e⟩|⟨k,c,e,z⟩
    .refine .inl ⟨k,?_⟩;have:y≠x:=λe=>hj (Hj hN e1 (e ▸ hi));simp[this,e]
    .exact .inr ⟨k,c,e,z.sameBut hs (pC y c e)⟩
  .obtain⟨w',z⟩:=I.cell y c e;exact⟨w',z.sameBut hs (pC y c e)⟩
  .obtain⟨e,n,ne,nf,d⟩:=I.pin p hp;exact⟨(hs.2 p.1 ne).trans e,n,ne,nf,d⟩
 .have hfn:X.fn x=Db:=by
   rcases hf with z|z
   .exact z
   .rw[z]at hk;cases hk
  obtain⟨c,hc⟩:=I.ok.has x (.inl hk);obtain⟨w',z⟩:=I.cell x c hc;refine wpAny_storeName_cell I.ok.kind hk hc z (λh' hc' hs=>?_);obtain⟨oc,hoc,hocd⟩:=id z;refine h {s with heap:=h'} ⟨I.ok,I.os,I.bare,⟨λb o e n hb hx=>?_,λb o e n hb hx=>?_,I.base.free,λb o e hx=>?_,I.base.nM,I.base.nK,I.base.nQ⟩,⟨m,hn.sameBut hs (dQ (pC x c hc)),λj y v' e1 e2 e3=>?_⟩,λy c' e=>?_,I.free,I.nj,λp hp=>?_,Xo ⟨oc,hoc,I.nj x c hc⟩ hs,by simpa using I.len⟩ ⟨c,hs,.inr hc⟩
  .exact(hs.2 b (dP (dR (dB e) (I.ok.oE x c hfn hc)))).trans (I.base.keep b o e n hb hx)
  .obtain⟨sl,e1⟩:=I.base.slot b o e n hb hx;exact⟨sl,(hs.2 b (dP (dR (dB e) (I.ok.oE x c hfn hc)))).trans e1⟩
  .obtain⟨o',e1⟩:=I.base.there b o e hx;exact⟨o',(hs.2 b (dP (dR (dB e) (I.ok.oE x c hfn hc)))).trans e1⟩
  .by_cases hj:j=i
   .subst hj;rw[hi]at e1;cases e1;rw[fK hiσ]at e2;cases e2;exact⟨u,r,.inr ⟨.inl hk,c,hc,hc'⟩⟩
   .rw[fJ (dQ hj)]at e2;obtain⟨u',r',q⟩:=hl j y v' e1 e2 e3;refine⟨u',r',?_⟩;rcases q with q|⟨k,c',e,z'⟩
    .exact .inl q
    .refine .inr ⟨k,c',e,z'.sameBut hs ?_⟩
     rintro rfl
     exact hj (Hj hN e1 (I.ok.inj _ _ _ e hc ▸ hi))
  .by_cases Zz:c'=c
   .subst Zz;exact⟨_,hc'⟩
   .obtain⟨w2,z2⟩:=I.cell y c' e;exact⟨w2,z2.sameBut hs Zz⟩
  .obtain⟨e,n,ne,nf,d⟩:=I.pin p hp;refine⟨(hs.2 p.1 ?_).trans e,n,ne,nf,d⟩;intro q;rw[q,hoc]at e;have q':oc=p.2:=dg e;exact d w' (by rw[<-q'];exact hocd)
def Hk{M:Model}{A:Ar}{E:QQX}{i:Nat}{x:Str}{Q:Unit->Sd->Prop}(I:Inv X W7 Y H s)(hN:X.N.Nodup)(hi:X.N[i]?=ga x)(hx:Nk X.env.scope x)(r:rh v u) (h:∀s',Inv X W7 (Y.set i (ga v)) H s'->Q () s') (hf:L0 X x:=by first|exact .inl Z'|exact .inr Z'|assumption):pi M A (storeName X.env x u) Q E s:=
 Et I hN hi hx r (λs' I' _=>h s' I') hf
def Inv.oY{s':Sd}(I:Inv X W7 Y H s)(ho:s'.os=s.os)(u:Un (wW X.stack) ch H H' s.heap s'.heap)(mZ:yO X.prog X.w H' s'.heap)(hg:XXi s'.gens) (Ya:∀b∈ch,(b∈X.ex\/X.s₀.heap.objs.size<=b)/\b≠X.env.locals/\(∀x c,X.env.cells.lookup x=ga c->c≠b)/\∀p∈X.pn++W7,p.1≠b):Inv X W7 Y H' s':=by
 obtain⟨h',g',d',t',o'⟩:=s';have e:o'=s.os:=ho;subst e;exact I.call (g':=g') (t':=t') (d':=d') u mZ hg Ya
end
abbrev XK:=Vl->Option Uf->Hp->Prop
abbrev St:=T0 (Option V)
abbrev VK:=V->Hp->Prop
abbrev TE:=St->Hp->VK->Prop
abbrev TT:=St->Hp->(Bool->Hp->Prop)->Prop
abbrev TA:=St->Hp->(T0 V->Hp->Prop)->Prop
structure E8 where
 nx:St->Hp->Prop
 rt:VK
 bk:St->Hp->Prop:=λ_ _=>False
 ct:St->Hp->Prop:=λ_ _=>False
abbrev TS:=E8->St->Hp->Prop
def EP(X:Cx)(W7:QQY)(Y:St)(Q:VK)(u:Vl)(s':Sd):Prop:=∃v H',Inv X W7 Y H' s'/\rh v u/\Q v H'
def TP(X:Cx)(W7:QQY)(Y:St)(Q:Bool->Hp->Prop)(b:Bool)(s':Sd):Prop:=∃H',Inv X W7 Y H' s'/\Q b H'
def AP(X:Cx)(W7:QQY)(Y:St)(Q:T0 V->Hp->Prop)(us:T0 Vl)(s':Sd):Prop:=∃vs H',Inv X W7 Y H' s'/\qN vs us/\Q vs H'
def SP(X:Cx)(W7:QQY)(D:E8)(f:Flow)(s':Sd):Prop:=
 match f with
 | .next=>∃σ' H',Inv X W7 σ' H' s'/\D.nx σ' H'
 | .brk=>∃σ' H',Inv X W7 σ' H' s'/\D.bk σ' H'
 | .cont=>∃σ' H',Inv X W7 σ' H' s'/\D.ct σ' H'
 | .ret u=>∃v σ' H',Inv X W7 σ' H' s'/\rh v u/\D.rt v H'
def PE(X:Cx)(e:Go)(t:TE):Prop:=
 ∀(W7:QQY) (s:Sd) (Y:St) (H:Hp) (Q:VK),Inv X W7 Y H s->t Y H Q->pi (Tk X.prog X.w) X.A (wp e X.env) (EP X W7 Y Q) X.xe s
def PT(X:Cx)(e:Go)(t:TT):Prop:=
 ∀(W7:QQY) (s:Sd) (Y:St) (H:Hp) (Q:Bool->Hp->Prop),Inv X W7 Y H s->t Y H Q->pi (Tk X.prog X.w) X.A (isTrue e X.env (wp e X.env)) (TP X W7 Y Q) X.xe s
def PW(X:Cx)(e:Go)(t:TT):Prop:=
 ∀(XF:Sem Vl) (W7:QQY) (s:Sd) (Y:St) (H:Hp) (Q:Bool->Hp->Prop),Inv X W7 Y H s->t Y H Q->pi (Tk X.prog X.w) X.A (isTrue e X.env XF) (TP X W7 Y Q) X.xe s
def PW.pt(h:PW X e t):PT X e t:=h _
def PA(X:Cx)(es:T0 Go)(t:TA):Prop:=
 ∀(pos:Pos) (W7:QQY) (s:Sd) (Y:St) (H:Hp) (Q:T0 V->Hp->Prop),Inv X W7 Y H s->t Y H Q->pi (Tk X.prog X.w) X.A (spliced (At pos (Tl es X.env))) (AP X W7 Y Q) X.xe s
def PS(X:Cx)(st:sB)(t:TS):Prop:=
 ∀(W7:QQY) (s:Sd) (Y:St) (H:Hp) (D:E8),Inv X W7 Y H s->t D Y H->pi (Tk X.prog X.w) X.A (exec st X.env) (SP X W7 D) X.xe s
def BY(X:Cx)(st:T0 sB)(t:TS):Prop:=
 ∀(W7:QQY) (s:Sd) (Y:St) (H:Hp) (D:E8),Inv X W7 Y H s->t D Y H->pi (Tk X.prog X.w) X.A (execs st X.env) (SP X W7 D) X.xe s
def tE{α:Type}{t:Sem α}{Q Q':α->Sd->Prop}{M:Model}{A:Ar}{E:QQX}{s:Sd}(h:pi M A t Q E s)(hQ:∀a s,Q a s->Q' a s):pi M A t Q' E s:=eD h hQ λ_ _ x=>x
variable {tA tB':TT}{ta tb:TE}{pos:Pos}
section
def HW(i:Nat):TE:=λY H Q=>∃v,Y[i]?=ga (ga v)/\Q v H
def tC(v:V):TE:=λ_ H Q=>Q v H
def Rz{i:Nat}{x:Str}(hN:X.N[i]?=ga x)(hv:UL X.env.scope x)(hd:zv x:=by decide)(Yp:(x==("__classdict__":Str))=pc:=by decide):PE X (.Name x pos) (HW i):=by
 intro W7 s Y H Q I h;obtain⟨v,e,h⟩:=h;obtain⟨m,hn,hl⟩:=I.loc;obtain⟨u,r,l⟩:=hl i x v hN e hv;have Xc:EP X W7 Y Q u s:=⟨v,H,I,r,h⟩;rcases l with⟨hk,hm⟩|⟨hk,c,hc,hcell⟩
 .exact me (wpAny_loadName_local I.ok.kind hk hn hm Xc) hd
 .rcases hk with hk|hk
  .exact me (wpAny_loadName_cell I.ok.kind hk hc hcell Xc) hd
  .exact me (wpAny_loadName_free I.ok.kind hk hc hcell Xc Yp) hd
def Rk{i j pos}:PE X (.Constant (.int i) j pos) (tC (.int i)):=λ_ _ _ H _ I h=>wpAny_Constant_int ⟨.int i,H,I.tok _,⟨_,Z'⟩,h⟩
def T1{b j pos}:PE X (.Constant (.bool b) j pos) (tC (.bl b)):=λ_ _ _ H _ I h=>Constant_bool ⟨.bl b,H,I,Z',h⟩
def S8{j pos}:PE X (.Constant .none j pos) (tC .mW):=λ_ _ _ H _ I h=>Constant_none ⟨.mW,H,I,Z',h⟩
def Tp{x j pos}:PE X (.Constant (.str x) j pos) (tC (.str x)):=λ_ _ _ H _ I h=>Calls.Constant_str ⟨.str x,H,I.tok _,⟨_,Z'⟩,h⟩
def Gl(X:Cx)(x:Str):Prop:=X.env.kindOf x=ga .globalImplicit
def xx{E:QQX}{W7:QQY}{u:Vl}{Q:QQX}(I:Inv X W7 Y H s)(hg:Gl X x)(hm:X.mg x=ga u)(h:Q u s) (hd:zv x:=by decide):pi (Tk X.prog X.w) X.A (wp (.Name x pos) X.env) Q E s:=
 jt I.ok.kind hg (Calls.loadGlobal_global (by rw[I.ok.glob];exact I.mod.glob.keeps I.bk) hm h) hd
def xN{E:QQX}{W7:QQY}{u:Vl}{Q:QQX}(I:Inv X W7 Y H s)(hg:Gl X x)(hm:X.mg x=Fa)(hv:zn x=ga u)(h:Q u s) (hn:x≠"__name__":=by decide) (hd:zv x:=by decide):pi (Tk X.prog X.w) X.A (wp (.Name x pos) X.env) Q E s:=by
 obtain⟨mb,h1,h2⟩:=I.mod.blt;exact jt I.ok.kind hg (Calls.loadGlobal_builtin (by rw[I.ok.glob];exact I.mod.glob.keeps I.bk) hm (by rw[I.ok.blt];exact h1.keeps I.bk) ((h2 x hn).trans hv) h) hd
def Fl{u:Vl}(hg:Gl X x)(hm:X.mg x=ga u)(r:rh v u)(hd:zv x:=by decide):PE X (.Name x pos) (tC v):=
 λ_ _ _ H _ I h=>xx I hg hm ⟨v,H,I,r,h⟩ hd
def Pu{u:Vl}(hg:Gl X x)(hm:X.mg x=Fa)(hv:zn x=ga u)(r:rh v u)(hn:x≠"__name__":=by decide)(hd:zv x:=by decide):PE X (.Name x pos) (tC v):=
 λ_ _ _ H _ I h=>xN I hg hm hv ⟨v,H,I,r,h⟩ hn hd
variable {a b:Go}
def tB(t:TE):TT:=λY H Q=>t Y H λx H1=>∃c,x=.bl c/\Q c H1
def RU(h:PE X e t)(he:∀XF,isTrue e X.env XF=(do let v<-XF;Y' e.pos;xz [v] (truthy v)):=by intro _;rfl):PT X e (tB t):=by intro W7 s Y H Q I hw;refine isTrue_plain (tE (h W7 s Y H _ I hw) λv s1 zz=>x5 zz λx H1 I1 r1 q1=>?_) (he _);obtain⟨d,rfl,q⟩:=q1;cases r1;exact fv ⟨H1,I1,q⟩
variable {rest:T0 Go}
def Vv(t u:TT):TT:=λY H Q=>t Y H λc H1=>if c=Db then u Y H1 Q else Q pc H1
def W2(t u:TT):TT:=λY H Q=>t Y H λc H1=>if c=Db then Q Db H1 else u Y H1 Q
def VU(t:TT):TT:=λY H Q=>t Y H λc H1=>Q (!c) H1
def Oj(ha:PT X a tA):PW X (.BoolOp .And [a] pos) tA:=by
 intro wh W7 s Y H Q I h;refine isTrue_and (tE (ha W7 s Y H Q I h) λc s1 e=>?_);cases c with
 | true=>exact isTrue_and_nil e
 | false=>exact e
def R5(ha:PT X a tA):PW X (.BoolOp .Or [a] pos) tA:=by
 intro wh W7 s Y H Q I h;refine isTrue_or (tE (ha W7 s Y H Q I h) λc s1 e=>?_);cases c with
 | false=>exact isTrue_or_nil e
 | true=>exact e
def Tf(ha:PT X a tA)(hb:PW X (.BoolOp .And (b::rest) pos) tB'):PW X (.BoolOp .And (a::b::rest) pos) (Vv tA tB'):=by
 intro wh W7 s Y H Q I h;refine isTrue_and (tE (ha W7 s Y H _ I h) λc s1 ⟨H1,I1,q1⟩=>?_);cases c with
 | true=>exact hb wh W7 s1 Y H1 Q I1 q1
 | false=>exact⟨H1,I1,q1⟩
def Uh(ha:PT X a tA)(hb:PW X (.BoolOp .Or (b::rest) pos) tB'):PW X (.BoolOp .Or (a::b::rest) pos) (W2 tA tB'):=by
 intro wh W7 s Y H Q I h;refine isTrue_or (tE (ha W7 s Y H _ I h) λc s1 ⟨H1,I1,q1⟩=>?_);cases c with
 | true=>exact⟨H1,I1,q1⟩
 | false=>exact hb wh W7 s1 Y H1 Q I1 q1
def RQ(ha:PT X a tA):PT X (.UnaryOp .Not a pos) (VU tA):=by intro W7 s Y H Q I h;exact isTrue_not (ha W7 s Y H (λc H1=>Q (!c) H1) I h)
def TN(ta tb:TE):TE:=λY H Q=>ta Y H λx H1=>∃c,x=.bl c/\if c=Db then tb Y H1 Q else Q (.bl pc) H1
def Wt(ta tb:TE):TE:=λY H Q=>ta Y H λx H1=>∃c,x=.bl c/\if c=Db then Q (.bl Db) H1 else tb Y H1 Q
def Vb(ta:TE):TE:=λY H Q=>ta Y H λx H1=>∃c,x=.bl c/\Q (.bl (!c)) H1
def Ru{op}(h:PE X a t):PE X (.BoolOp op [a] pos) t:=λW7 s Y H Q I hw=>BoolOp_one (h W7 s Y H Q I hw)
def R0(ha:PE X a ta)(hb:PE X (.BoolOp .And (b::rest) pos) tb):PE X (.BoolOp .And (a::b::rest) pos) (TN ta tb):=by
 intro W7 s Y H Q I h;refine BoolOp_and (tE (ha W7 s Y H _ I h) λv s1 zz=>x5 zz λx H1 I1 r1 q1=>?_);obtain⟨c,rfl,q1⟩:=q1;cases r1;refine fv ?_;cases c with
 | true=>exact hb W7 s1 Y H1 Q I1 q1
 | false=>exact⟨.bl pc,H1,I1,Z',q1⟩
def Ur(ha:PE X a ta)(hb:PE X (.BoolOp .Or (b::rest) pos) tb):PE X (.BoolOp .Or (a::b::rest) pos) (Wt ta tb):=by
 intro W7 s Y H Q I h;refine BoolOp_or (tE (ha W7 s Y H _ I h) λv s1 zz=>x5 zz λx H1 I1 r1 q1=>?_);obtain⟨c,rfl,q1⟩:=q1;cases r1;refine fv ?_;cases c with
 | false=>exact hb W7 s1 Y H1 Q I1 q1
 | true=>exact⟨.bl Db,H1,I1,Z',q1⟩
def Rp(ha:PE X a ta):PE X (.UnaryOp .Not a pos) (Vb ta):=by intro W7 s Y H Q I h;refine UnaryOp_ (tE (ha W7 s Y H _ I h) λv s1 zz=>x5 zz λx H1 I1 r1 q1=>?_);obtain⟨c,rfl,q1⟩:=q1;cases r1;exact not_of (fv ⟨.bl (!c),H1,I1,Z',q1⟩)
def WX(t:TT)(ta tb:TE):TE:=λY H Q=>t Y H λc H1=>if c=Db then ta Y H1 Q else tb Y H1 Q
def Nl(hc:PT X c tA)(ha:PE X a ta)(hb:PE X b tb):PE X (.IfExp c a b pos) (WX tA ta tb):=by
 intro W7 s Y H Q I h;refine wpAny_IfExp (tE (hc W7 s Y H _ I h) λd s1 ⟨H1,I1,q1⟩=>?_);cases d with
 | true=>exact ha W7 s1 Y H1 Q I1 q1
 | false=>exact hb W7 s1 Y H1 Q I1 q1
end
def zu(K:qK)(H:Hp)(a:Uf)(xs:T0 V):Prop:=
 Rd H a (.lst xs)\/
  ∃(o:Obj) (its:Array Vl) (n:Nat),K.lookup a=ga o/\o.cls=.type "list"/\o.dict=Fa/\o.data=.seq its n/\its.size<=Ch/\qN xs its.toList
def vM(K:qK)(H:Hp)(a:Uf)(xs:T0 V):Prop:=
 Rd H a (.tup xs)\/
  ∃(o:Obj) (its:Array Vl) (n:Nat),K.lookup a=ga o/\o.cls=.type "tuple"/\o.dict=Fa/\o.data=.seq its n/\its.size<=Ch/\qN xs its.toList
noncomputable def V8:Vl->Option V
 | .none=>ga .mW
 | .bool b=>ga (.bl b)
 | .int i _=>ga (.int i)
 | .str x _=>ga (.str x)
 | .bytes b _=>ga (.byt b)
 | .float b _=>ga (.flt b)
 | .ref a=>ga (.ref a)
 | .type n=>ga (.ty n)
 | _=>Fa
def rh.abs(r:rh x u):V8 u=ga x:=by
 cases x with
 | mW=>cases r;rfl
 | bl _=>cases r;rfl
 | int _=>obtain⟨t,rfl⟩:=r;rfl
 | str _=>obtain⟨t,rfl⟩:=r;rfl
 | byt _=>obtain⟨t,rfl⟩:=r;rfl
 | flt _=>obtain⟨t,rfl⟩:=r;rfl
 | ref _=>cases r;rfl
 | ty _=>cases r;rfl
def rh.inj(r:rh x u)(q:rh y u):x=y:=dg (r.abs.symm.trans q.abs)
theorem qN.inj:∀{xs ys:T0 V} {us:T0 Vl},qN xs us->qN ys us->xs=ys
 | _,_,_,.nil,.nil=>rfl
 | _,_,_,.cons r t,.cons r' t'=>by rw[r.inj r',qN.inj t t']
variable {xs ys:T0 V}
section
variable {Y:St}{a:Uf}
def vM.of{K:qK}(h:H a=ga (.tup xs)):vM K H a xs:=.inl (.inl h)
def Inv.list(I:Inv X W7 Y H s)(h:zu X.K H a xs):∃its:T0 Vl,qN xs its/\PlainL s.heap a its.toArray/\xs.length<=Ch:=by
 rcases h with h|⟨o,its,n,hk,hc,hd,hs,hz,r⟩
 .obtain⟨z,its,n,r,e⟩:=h.ok I.mZ;exact⟨its,r,⟨_,n,e,Z',Z',Z'⟩,z⟩
 .refine⟨its.toList,r,⟨o,n,I.ny a o hk,hc,hd,by simpa using hs⟩,?_⟩;have e:=r.length;simp only[iu]at e;lia
def Inv.tuple(I:Inv X W7 Y H s)(h:vM X.K H a xs):∃its:T0 Vl,qN xs its/\IsTup s.heap a its.toArray/\xs.length<=Ch:=by
 rcases h with h|⟨o,its,n,hk,hc,hd,hs,hz,r⟩
 .obtain⟨z,its,r,p⟩:=h.ok I.mZ;exact⟨its,r,p.is,z⟩
 .refine⟨its.toList,r,⟨o,I.ny a o hk,hc,n,by simpa using hs⟩,?_⟩;have e:=r.length;simp only[iu]at e;lia
def Inv.nX(I:Inv X W7 Y H s)(h:zu X.K H a xs)(h':zu X.K H a ys):xs=ys:=by
 obtain⟨its,r,⟨o,n,e,_,_,d⟩,_⟩:=I.list h;obtain⟨its',r',⟨o',n',e',_,_,d'⟩,_⟩:=I.list h';rw[e]at e';cases e';rw[d]at d';injection d' with d1 _
 have:its=its':=by simpa using eV Array.toList d1
 subst this;exact r.inj r'
def Inv.nB(I:Inv X W7 Y H s)(h:vM X.K H a xs)(h':vM X.K H a ys):xs=ys:=by
 obtain⟨its,r,⟨o,e,_,n,d⟩,_⟩:=I.tuple h;obtain⟨its',r',⟨o',e',_,n',d'⟩,_⟩:=I.tuple h';rw[e]at e';cases e';rw[d]at d';injection d' with d1 _
 have:its=its':=by simpa using eV Array.toList d1
 subst this;exact r.inj r'
end
abbrev Cx.nR(X:Cx)(E:QQX):Cx:={X with xe:=E}
abbrev Cx.oG(X:Cx):Cx:=X.nR λ_ _=>False
def Cx.Ok.nR{X:Cx}(ok:X.Ok)(E:QQX):(X.nR E).Ok:=
 ⟨ok.mod,ok.kind,ok.glob,ok.blt,ok.above,ok.inj,ok.has,ok.oE,ok.hd,ok.frames,ok.oR,ok.pA,ok.bs,ok.ou,ok.nY,ok.oh,ok.nH,ok.oB⟩
def Cx.Ok.nA{X:Cx}{E:QQX}(ok:(X.nR E).Ok):X.Ok:=
 ⟨ok.mod,ok.kind,ok.glob,ok.blt,ok.above,ok.inj,ok.has,ok.oE,ok.hd,ok.frames,ok.oR,ok.pA,ok.bs,ok.ou,ok.nY,ok.oh,ok.nH,ok.oB⟩
section
variable {Y:St}{E:QQX}
def Inv.nR(I:Inv X W7 Y H s)(E:QQX):Inv (X.nR E) W7 Y H s:=⟨I.ok.nR E,I.os,I.bare,I.base,I.loc,I.cell,I.free,I.nj,I.pin,I.mZ,I.len⟩
def Inv.nA(I:Inv (X.nR E) W7 Y H s):Inv X W7 Y H s:=⟨I.ok.nA,I.os,I.bare,I.base,I.loc,I.cell,I.free,I.nj,I.pin,I.mZ,I.len⟩
def SP.nA{D:E8}(h:SP (X.nR E) W7 D f s'):SP X W7 D f s':=by
 cases f with
 | next=>obtain⟨σ',H',I,q⟩:=h;exact⟨σ',H',I.nA,q⟩
 | brk=>obtain⟨σ',H',I,q⟩:=h;exact⟨σ',H',I.nA,q⟩
 | cont=>obtain⟨σ',H',I,q⟩:=h;exact⟨σ',H',I.nA,q⟩
 | ret u=>obtain⟨v,σ',H',I,r,q⟩:=h;exact⟨v,σ',H',I.nA,r,q⟩
def BY.oG{st:T0 sB}(h:BY X.oG st t):BY X st t:=λW7 s Y H D I hw=>eD (h W7 s Y H D (I.nR _) hw) (λ_ _ q=>q.nA) λ_ _ z=>False.elim z
end
variable {st:sB}{u:TS}{te:TE}
section
variable {rest:T0 sB}{t:TS}{e:Go}
def Uv:TS:=λD Y H=>D.nx Y H
def Wv(t u:TS):TS:=λD Y H=>t {D with nx:=u D} Y H
def OQ:BY X [] Uv:=λ_ _ Y H _ I h=>g9 ⟨Y,H,I,h⟩
def NW(h1:PS X st t)(h2:BY X rest u):BY X (st::rest) (Wv t u):=by
 intro W7 s Y H D I h;refine jF (tE (h1 W7 s Y H {D with nx:=u D} I h) λf s1 q=>?_);cases f with
 | next=>obtain⟨σ',H',I',q⟩:=q;exact h2 W7 s1 σ' H' D I' q
 | ret v=>exact q
 | brk=>exact q
 | cont=>exact q
def JH(h1:PS X st t):BY X [st] t:=by
 intro W7 s Y H D I h;refine jF (tE (h1 W7 s Y H D I h) λf s1 q=>?_);cases f with
 | next=>exact g9 q
 | ret v=>exact q
 | brk=>exact q
 | cont=>exact q
def Inv.quiet{W7:QQY}(I:Inv X W7 Y H s):interactive X.env=pc:=by simp[interactive,I.ok.kind]
def TC(te:TE):TS:=λD Y H=>te Y H λ_ H1=>D.nx Y H1
def PK(he:PE X e te)(hs:ZB e Fa pos.line X.env=pure pc:=by rfl):PS X (.Expr e pos) (TC te):=by intro W7 s Y H D I h;exact wpAny_Expr_any (tE (he W7 s Y H _ I h) λv s1 zz=>x5 zz λx H1 I1 r1 q1=>⟨Y,H1,I1,q1⟩) I.quiet hs
def Vz(te:TE):TS:=λD Y H=>te Y H D.rt
def Sf(he:PE X e te):PS X (.Return (ga e) pos) (Vz te):=by intro W7 s Y H D I h;exact wpAny_Return_some (tE (he W7 s Y H _ I h) λv s1 zz=>x5 zz λx H1 I1 r1 q1=>⟨x,Y,H1,I1,r1,q1⟩)
def Wl(c:TT)(t u:TS):TS:=λD Y H=>c Y H λb H1=>if b=Db then t D Y H1 else u D Y H1
def UH(hc:PT X c tc)(ha:BY X a t)(hb:BY X b u):PS X (.If c a b pos) (Wl tc t u):=by
 intro W7 s Y H D I h;refine wpAny_If (tE (hc W7 s Y H _ I h) λd s1 ⟨H1,I1,q1⟩=>?_);cases d with
 | true=>exact ha W7 s1 Y H1 D I1 q1
 | false=>exact hb W7 s1 Y H1 D I1 q1
def SW:TS:=λ_ _ _=>False
def Nd:PS X st SW:=λ_ _ _ _ _ _ h=>h.elim
end
abbrev TG:=V->St->Hp->(St->Hp->Prop)->Prop
abbrev OM:=T0 V->St->Hp->(St->Hp->Prop)->Prop
def PG(X:Cx)(XB:Go)(t:TG):Prop:=
 ∀(W7:QQY) (s:Sd) (Y:St) (H:Hp) (v:V) (u:Vl) (Q:St->Hp->Prop),Inv X W7 Y H s->rh v u->t v Y H Q->
  pi (Tk X.prog X.w) X.A (assign XB X.env u) (λ_ s'=>∃σ' H',Inv X W7 σ' H' s'/\Q σ' H') X.xe s
def N8(X:Cx)(ts:T0 Go)(t:OM):Prop:=
 ∀(W7:QQY) (s:Sd) (Y:St) (H:Hp) (vs:T0 V) (us:T0 Vl) (Q:St->Hp->Prop),Inv X W7 Y H s->qN vs us->t vs Y H Q->
  pi (Tk X.prog X.w) X.A (assignInOrder ((xL ts X.env).map (·.2)) us) (λ_ s'=>∃σ' H',Inv X W7 σ' H' s'/\Q σ' H') X.xe s
abbrev Tb:=V->V->V->Hp->(Hp->Prop)->Prop
def UX(X:Cx)(t:Tb):Prop:=
 ∀(W7:QQY) (s:Sd) (Y:St) (H:Hp) (o i v:V) (ov iv u:Vl) (Q:Hp->Prop),Inv X W7 Y H s->rh o ov->rh i iv->rh v u->t o i v H Q->
  pi (Tk X.prog X.w) X.A (setItem ov iv u) (λ_ s'=>∃H',Inv X W7 Y H' s'/\Q H') X.xe s
def NC(i:Nat):TG:=λv Y H Q=>Q (Y.set i (ga v)) H
def Qv{i:Nat}{x:Str}(hN:X.N.Nodup)(hi:X.N[i]?=ga x)(hx:Nk X.env.scope x)(hf:L0 X x:=by first|exact .inl Z'|exact .inr Z'|assumption):PG X (.Name x pos) (NC i):=by intro W7 s Y H v u Q I r h;exact ly (Hk I hN hi hx r (λs' I'=>⟨_,H,I',h⟩) hf)
def V9:OM:=λvs Y H Q=>vs=[]/\Q Y H
def T9(t:TG)(u:OM):OM:=λvs Y H Q=>∃v r,vs=v::r/\t v Y H λσ' H'=>u r σ' H' Q
def Os:N8 X [] V9:=by intro W7 s Y H vs us Q I r h;obtain⟨e,h⟩:=h;subst e;cases r;exact assignInOrder_nil ⟨Y,H,I,h⟩
def LC{u:OM}(h1:PG X e t)(h2:N8 X es u) (hs:(xL (e::es) X.env).map (·.2)=assign e X.env::(xL es X.env).map (·.2):=by rfl):N8 X (e::es) (T9 t u):=by
 intro W7 s Y H vs us Q I r h;obtain⟨v,vr,e1,h⟩:=h;subst e1;cases r with
 | cons r rr=>rw[hs];refine assignInOrder_cons (tE (h1 W7 s Y H _ _ _ I r h) λ_ s1 ⟨σ1,H1,I1,q1⟩=>?_);exact h2 W7 s1 σ1 H1 _ _ Q I1 rr q1
def V5(K:qK)(n:Nat)(t:OM):TG:=λv Y H Q=>∃a xs,v=.ref a/\vM K H a xs/\xs.length=n/\t xs Y H Q
def R6{n:Nat}(hc:X.calm=Db)(h:N8 X es t) (hn:(xL es X.env).length=n:=by rfl) (Xv:(xL es X.env).findIdx? (·.1)=Fa:=by rfl):PG X (.Tuple es k pos) (V5 X.K n t):=by
 intro W7 s Y H v u Q I r hw;obtain⟨a,xs,e1,hq,hl,hw⟩:=hw;subst e1;cases r;obtain⟨its,rv,ht,hz⟩:=I.tuple hq;refine assign_Tuple_tuple (I.ok.hd hc) ht (by simp[hn,<-hl,rv.length]) Xv λh' hx=>?_;have I1:Inv X W7 Y H {s with heap:=h'}:=I.kept (t':=s.toks) λb o e=>hx b o (dP (dB e)) e;exact h W7 _ Y H xs _ Q I1 (by simpa using rv) hw
def Vw(to ti:TE)(t:Tb):TG:=λv Y H Q=>to Y H λo H1=>ti Y H1 λi H2=>t o i v H2 λH3=>Q Y H3
def Ry(ho:PE X o to)(hi:PE X i ti)(hs:UX X t) (ha:∀v,assign (.Subscript o i pos) X.env v=(do
   let ov<-xz [v] (wp o X.env);let iv<-xz [v,ov] (wp i X.env)
   Y' pos
   xz [v,ov,iv] (setItem ov iv v)
   release [v,ov,iv] []):=by intro _;rfl):PG X (.Subscript o i pos) (Vw to ti t):=by
 intro W7 s Y H v u Q I r h;rw[ha];refine cW (fh (tE (ho W7 s Y H _ I h) λov s1 zz=>x5 zz λx H1 I1 r1 q1=>?_));refine cW (fh (tE (hi W7 s1 Y H1 _ I1 q1) λiv s2 zz=>x5 zz λy H2 I2 r2 q2=>?_));refine cW (ip (cW (fh (tE (hs W7 s2 Y H2 x y v ov iv u _ I2 r1 r2 r q2) λ_ s3 ⟨H3,I3,q3⟩=>?_))));exact wpAny_release ⟨Y,H3,I3,q3⟩
def Th(te:TE)(g:TG):TS:=λD Y H=>te Y H λx H1=>g x Y H1 D.nx
def Sj(he:PE X e te)(hg:PG X tg g)(hs:swapsWithSole [tg] e pos.line X.env=pure pc:=by rfl)(hw:swappedStores [tg] e X.env=pure Fa:=by rfl)
  (h1:(xL [tg] X.env).map (·.2)=[assign tg X.env]:=by rfl):PS X (.Assign [tg] e pos) (Th te g):=by
 intro W7 s Y H D I h;refine wpAny_Assign_stores (tE (he W7 s Y H _ I h) λv s1 zz=>x5 zz λx H1 I1 r1 q1=>?_) hs hw;rw[h1];exact tE (hg W7 s1 Y H1 x v _ I1 r1 q1) λ_ s2 q=>q
def SU{i:Nat}{x:Str}(hN:X.N.Nodup)(hi:X.N[i]?=ga x)(hx:Nk X.env.scope x)(he:PE X e te)(hs:ZB e (ga (.Name x Xl)) pos.line X.env=pure pc:=by rfl)(hf:L0 X x:=by first|exact .inl Z'|exact .inr Z'|assumption):
  PS X (.Assign [.Name x Xl] e pos) (Th te (NC i)):=by
 intro W7 s Y H D I h;refine wpAny_Assign_Name (tE (he W7 s Y H _ I h) λv s1 zz=>x5 zz λy H1 I1 r1 q1=>?_) hs;exact Hk I1 hN hi hx r1 (λs2 I2=>⟨_,H1,I2,q1⟩) hf
def Ri(c:TT)(tb:TS):TS:=λD Y H=>∃W:Nat->St->Hp->Prop,(∃m,W m Y H)/\∀m Y H,W m Y H->
 c Y H λb H1=>if b=Db then ∃N:St->Hp->Prop,(∀σ' H',N σ' H'->∃m',m'<m/\W m' σ' H')/\tb {D with nx:=N,ct:=N,bk:=D.nx} Y H1 else D.nx Y H1
def MI{tb:TS}(hp:PassesOwn (Tk X.prog X.w) X.A X.env X.xe)(hc:PT X c tc)(hb:BY X body tb):PS X (.While c body [] pos) (Ri tc tb):=by
 intro W7 s Y H D I h;obtain⟨W,⟨m0,w0⟩,turn⟩:=h;refine wpAny_While (codeAny_whileLoop (λn s'=>∃σ' H',Inv X W7 σ' H' s'/\W n σ' H') ?_ m0 ⟨Y,H,I,w0⟩)
 rintro n s1 ⟨σ1,H1,I1,w1⟩
 refine gK hp (tE (hc W7 s1 σ1 H1 _ I1 (turn n σ1 H1 w1)) λb s2 ⟨H2,I2,q2⟩=>?_);cases b with
 | true=>
  obtain⟨N,hN,q2⟩:=q2;rw[de Z'];refine gK hp (tE (hb W7 s2 σ1 H2 _ I2 q2) λf s3 q3=>?_);cases f with
  | next=>obtain⟨σ3,H3,I3,n3⟩:=q3;obtain⟨m',hm,w3⟩:=hN σ3 H3 n3;exact⟨m',hm,σ3,H3,I3,w3⟩
  | cont=>obtain⟨σ3,H3,I3,n3⟩:=q3;obtain⟨m',hm,w3⟩:=hN σ3 H3 n3;exact⟨m',hm,σ3,H3,I3,w3⟩
  | brk=>exact q3
  | ret v=>exact q3
 | false=>rw[c9 dw];exact g9 ⟨σ1,H2,I2,q2⟩
structure It where
 go:Nat->Hp->Prop
 pj:Nat->Hp->V->Hp->Prop
 stop:Nat->Hp->Prop
def By(X:Cx)(W7:QQY)(H:Hp)(b:Uf):Prop:=
 H b=Fa/\b≠X.env.locals/\b∉X.fs/\(b∈X.ex\/X.s₀.heap.objs.size<=b)/\(∀x c,X.env.cells.lookup x=ga c->c≠b)/\∀p∈X.pn++W7,p.1≠b
def Inv.og{W7:QQY}{H H':Hp}{b:Uf}(I:Inv X W7 Y H s)(hb:s.heap.objs.size<=b)(hn:H' b=Fa):By X W7 H' b:=by
 refine⟨hn,ie (dR I.lt hb),I.oU hb,.inr (d9 I.sz hb),λx c e z=>?_,λp hp z=>?_⟩
 .obtain⟨v,q⟩:=I.cell x c e;exact absurd (dR q.lt (by rw[z];exact hb)) (fk _)
 .exact absurd (dR (dB (I.pin p hp).1) (by rw[z];exact hb)) (fk _)
structure Gj(P:Pg)(w:Wo)(K:qK)(tg:Go)(J:It)(fp:QXQ)(it:Uf)(tn:Nat->No->Prop):Prop where
 mem:it∈fp
 obj:∀i h,tn i h->∀b∈fp,∃o,h.get? b=ga o/\∀v,o.data≠.cell v
 keep:∀i h h',tn i h->(∀b∈fp,∀o,h.get? b=ga o->h'.get? b=ga o)->tn i h'
 item:∀(X:Cx),X.prog=P->X.w=w->X.K=K->X.calm=Db->∀(i:Nat) (W7:QQY) (s:Sd) (Y:St) (H:Hp) (E:QQX),Inv X W7 Y H s->(∀b∈fp,By X W7 H b)->tn i s.heap->J.go i H->
  pi (Tk P w) X.A (pyNext (.ref it)) (λr s1=>∃u,r=ga u/\
   pi (Tk P w) X.A (XXe tg (.ref it) u) (λ_ s2=>∃x H',Inv X W7 Y H' s2/\rh x u/\J.pj i H x H'/\tn (i+1) s2.heap/\∀b∈fp,H' b=Fa) E s1) E s
 done:∀(X:Cx),X.prog=P->X.w=w->X.K=K->X.calm=Db->∀(i:Nat) (W7:QQY) (s:Sd) (Y:St) (H:Hp) (E:QQX),Inv X W7 Y H s->(∀b∈fp,By X W7 H b)->tn i s.heap->J.stop i H->
  pi (Tk P w) X.A (pyNext (.ref it)) (λr s1=>r=Fa/\Inv X W7 Y H s1) E s
 self:∀(A:Ar) (i:Nat) (s:Sd) (Q:QQX) (E:QQX),tn i s.heap->Q (.ref it) s->pi (Tk P w) A (pyIter (.ref it)) Q E s
abbrev TI:=St->Hp->(It->Hp->Prop)->Prop
def WA(X:Cx)(W7:QQY)(Y:St)(tg:Go)(R:It->Hp->Prop)(itv:Vl)(s2:Sd):Prop:=
 ∃(it:Uf) (fp:QXQ) (tn:Nat->No->Prop) (J:It) (H':Hp),itv=.ref it/\Inv X W7 Y H' s2/\Gj X.prog X.w X.K tg J fp it tn/\tn 0 s2.heap/\(∀b∈fp,By X W7 H' b)/\R J H'
def PI(X:Cx)(tg iter:Go)(wi:TI):Prop:=
 ∀(W7:QQY) (s:Sd) (Y:St) (H:Hp) (R:It->Hp->Prop),Inv X W7 Y H s->wi Y H R->
  pi (Tk X.prog X.w) X.A (wp iter X.env) (λv s1=>pi (Tk X.prog X.w) X.A (pyIter v) (WA X W7 Y tg R) X.xe s1) X.xe s
def Jc{M:Model}{A:Ar}{E:QQX}{s:Sd}{tg:Go}{it:Uf}{u:Vl}{o:Obj}{n:String}{vs:Array Vl}{Q:Unit->Sd->Prop}(ho:s.heap.get? it=ga o)(hc:o.cls=.type n)(hd:o.data=.fields vs) (hn:["enumerate","zip","dict_itemiterator","dict_reverseitemiterator","odict_iterator","itertools.zip_longest","itertools.pairwise"].contains n=pc) (hQ:Q () s):pi M A (XXe tg (.ref it) u) Q E s:=by
  unfold XXe;cases tg<;>first
    | exact dv hQ
    | (cases u<;>first
        | exact dv hQ
        | (refine cW (wpAny_load ho ?_)
           rw[hc,hd];show pi M A (if (["enumerate","zip","dict_itemiterator","dict_reverseitemiterator","odict_iterator","itertools.zip_longest","itertools.pairwise"].contains n&&vs[0]?==ga (u8 _))=Db then _ else _) Q E s;rw[c9 (by intro h;rw[hn,e9]at h;cases h)];exact dv hQ))
noncomputable def Vj(K:qK)(a:Uf):It:=
 ⟨λi H=>∃xs x,zu K H a xs/\xs[i]?=ga x,λi H x H'=>H'=H/\∀xs,zu K H a xs->xs[i]?=ga x,λi H=>∃xs,zu K H a xs/\xs.length<=i⟩
noncomputable def VC(K:qK)(a:Uf):It:=
 ⟨λi H=>∃xs x,vM K H a xs/\xs[i]?=ga x,λi H x H'=>H'=H/\∀xs,vM K H a xs->xs[i]?=ga x,λi H=>∃xs,vM K H a xs/\xs.length<=i⟩
noncomputable def Vr(lo:Int)(n:Nat):It:=⟨λi _=>i<n,λi H x H'=>H'=H/\x=.int (lo+i),λi _=>n<=i⟩
def KL{K:qK}(a it:Uf):Gj P w K tg (Vj K a) [it] it (λi h=>h.IsListIter it a i) where
 mem:=by simp
 obj:=λi h st b hb=>by
  have e:b=it:=by simpa using hb
  subst e;obtain⟨o,e,c,d⟩:=st;exact⟨o,e,λv z=>by rw[d]at z;cases z⟩
 keep:=λi h h' st k=>st.at λo e=>k it (by simp) o e
 item:=by intro X hP hw hK hc i W7 s Y H E I hf st hg;subst hP hw hK;obtain⟨xs,x,hq,hx⟩:=hg;obtain⟨its,rv,p,hz⟩:=I.list hq;obtain⟨u,hu,ru⟩:=rv.get hx;obtain⟨f0,f1,f2,f3,f4,f5⟩:=hf it (by simp);refine wpAny_pyNext_list_item st p.isList (x:=u) (by simpa using hu) λh' X1 sb=>?_;have I1:Inv X W7 Y H {s with heap:=h'}:=I.turned (t':=s.toks) (λb o hb e=>(sb.2 b hb).trans e) f0 f1 f3 f4 f5;obtain⟨o,e,c,d⟩:=id X1;exact⟨u,Z',Jc (s:={s with heap:=h'}) e c d (by decide) ⟨x,H,I1,ru,⟨Z',λys hy=>by rw[I.nX hy hq];exact hx⟩,X1,λb hb=>(hf b hb).1⟩⟩
 done:=by intro X hP hw hK hc i W7 s Y H E I hf st hg;subst hP hw hK;obtain⟨xs,hq,hx⟩:=hg;obtain⟨its,rv,p,hz⟩:=I.list hq;obtain⟨f0,f1,f2,f3,f4,f5⟩:=hf it (by simp);have hl:=rv.length;exact wpAny_pyNext_list_end (I.ok.hd hc) st p.isList (by simp;lia) λh' eb=>⟨Z',I.turned (t':=s.toks) (λb o hb e=>eb b o hb e) f0 f1 f3 f4 f5⟩
 self:=λ_ _ _ _ _ st h=>wpAny_pyIter_listiter st h
def Iu{K:qK}(a it:Uf):Gj P w K tg (VC K a) [it] it (λi h=>h.IsTupleIter it a i) where
 mem:=by simp
 obj:=λi h st b hb=>by
  have e:b=it:=by simpa using hb
  subst e;obtain⟨o,e,c,d⟩:=st;exact⟨o,e,λv z=>by rw[d]at z;cases z⟩
 keep:=λi h h' st k=>st.at λo e=>k it (by simp) o e
 item:=by intro X hP hw hK hc i W7 s Y H E I hf st hg;subst hP hw hK;obtain⟨xs,x,hq,hx⟩:=hg;obtain⟨its,rv,p,hz⟩:=I.tuple hq;obtain⟨u,hu,ru⟩:=rv.get hx;obtain⟨f0,f1,f2,f3,f4,f5⟩:=hf it (by simp);refine wpAny_pyNext_tuple_item st (show s.heap.IsTuple a its.toArray from p) (x:=u) (by simpa using hu) λh' X1 sb=>?_;have I1:Inv X W7 Y H {s with heap:=h'}:=I.turned (t':=s.toks) (λb o hb e=>(sb.2 b hb).trans e) f0 f1 f3 f4 f5;obtain⟨o,e,c,d⟩:=id X1;exact⟨u,Z',Jc (s:={s with heap:=h'}) e c d (by decide) ⟨x,H,I1,ru,⟨Z',λys hy=>by rw[I.nB hy hq];exact hx⟩,X1,λb hb=>(hf b hb).1⟩⟩
 done:=by intro X hP hw hK hc i W7 s Y H E I hf st hg;subst hP hw hK;obtain⟨xs,hq,hx⟩:=hg;obtain⟨its,rv,p,hz⟩:=I.tuple hq;obtain⟨f0,f1,f2,f3,f4,f5⟩:=hf it (by simp);have hl:=rv.length;exact wpAny_pyNext_tuple_end (I.ok.hd hc) st (show s.heap.IsTuple a its.toArray from p) (by simp;lia) λh' eb=>⟨Z',I.turned (t':=s.toks) (λb o hb e=>eb b o hb e) f0 f1 f3 f4 f5⟩
 self:=λ_ _ _ _ _ st h=>wpAny_pyIter_tupleiter st h
def HL{K:qK}(it:Uf)(lo:Int)(n:Nat):Gj P w K tg (Vr lo n) [it] it (λi h=>IsRangeIter h it (lo+(i:Nat)*1) ((n:Int) - (i:Nat)) 1) where
 mem:=by simp
 obj:=λi h st b hb=>by
  have e:b=it:=by simpa using hb
  subst e;exact⟨_,st,λv z=>by
   have z':Data.fields _=Data.cell v:=z;cases z'⟩
 keep:=λi h h' st k=>k it (by simp) _ st
 item:=by intro X hP hw hK hc i W7 s Y H E I hf st hg;subst hP hw hK;obtain⟨f0,f1,f2,f3,f4,f5⟩:=hf it (by simp);have W:=Walks.range (prog:=X.prog) (w:=X.w) (I.ok.hd hc) it lo 1 n;refine W.item i s _ _ hg st λv h' tk hv X1 kk=>?_;obtain⟨t,rfl⟩:=hv;have I1:Inv X W7 Y H {s with heap:=h',toks:=tk}:=I.turned (λb o hb e=>kk b o (by simpa using hb) e) f0 f1 f3 f4 f5;refine⟨_,Z',Jc (s:={s with heap:=h',toks:=tk}) (n:="range_iterator") X1 Z' Z' (by decide) ⟨.int (lo+i),H,I1,⟨t,?_⟩,⟨Z',Z'⟩,X1,λb hb=>(hf b hb).1⟩⟩;rw[Int.mul_one]
 done:=by intro X hP hw hK hc i W7 s Y H E I hf st hg;subst hP hw hK;obtain⟨f0,f1,f2,f3,f4,f5⟩:=hf it (by simp);exact wpAny_pyNext_range_end (I.ok.hd hc) st (by have:n<=i:=hg;lia) λh' eb=>⟨Z',I.turned (t':=s.toks) (λb o hb e=>eb b o hb e) f0 f1 f3 f4 f5⟩
 self:=λ_ _ _ _ _ st h=>wpAny_pyIter_rangeiter st h
variable {tg:Go}
def Ny{W7:QQY}{R:It->Hp->Prop}{E:QQX}{lo hi:Int}{t u v:Tok}{tk:Nat}(I:Inv X W7 Y H s)(h1:-(2 ^ 62)<=lo)(h2:lo<2 ^ 62)(h3:-(2 ^ 62)<=hi)(h4:hi<2 ^ 62) (q:R (Vr lo (hi - lo).toNat) H):pi (Tk X.prog X.w) X.A (pyIter (.ref s.heap.objs.size)) (WA X W7 Y tg R) E {s with heap:=s.heap.push {cls:=.type "range",data:=.fields #[.int lo t,.int hi u,.int 1 v]},toks:=tk}:=by
 refine wpAny_pyIter_range (IsRange.new ..) (small_one h1 h2 h3 h4) ?_;have I1:Inv X W7 Y H {s with heap:=s.heap.push {cls:=.type "range",data:=.fields #[.int lo t,.int hi u,.int 1 v]},toks:=tk}:=I.kept λb o e=>df _ e;refine⟨(s.heap.push {cls:=.type "range",data:=.fields #[.int lo t,.int hi u,.int 1 v]}).objs.size,[(s.heap.push {cls:=.type "range",data:=.fields #[.int lo t,.int hi u,.int 1 v]}).objs.size],_,_,H,Z',I1.kept (t':=tk) λb o e=>df _ e,HL _ lo (hi - lo).toNat,?_,λb hb=>?_,q⟩
 .have e1:lo+((0:Nat):Int)*1=lo:=by simp
  have e2:(((hi - lo).toNat:Nat):Int) - ((0:Nat):Int)=Builtin.Range.rangeSize lo hi 1:=by rw[rangeSize_one];split<;>lia
  show IsRangeIter _ _ (lo+((0:Nat):Int)*1) ((((hi - lo).toNat:Nat):Int) - ((0:Nat):Int)) 1;rw[e1,e2];exact dM _ Z'
 .have e:b=(s.heap.push {cls:=.type "range",data:=.fields #[.int lo t,.int hi u,.int 1 v]}).objs.size:=by simpa using hb
  subst e;exact I1.og (dq _) (I1.mZ.fresh (dq _))
def Ux(ta:TA):TI:=λY H R=>ta Y H λvs H1=>∃j:Int,vs=[.int j]/\-(2 ^ 62)<=j/\j<2 ^ 62/\R (Vr 0 j.toNat) H1
def Kr{a:Go}{ta:TA}(hg:Gl X "range")(hm:X.mg "range"=Fa)(ha:PA X [a] ta)(hs:Tl [a] X.env=[(pc,wp a X.env)]:=by rfl):PI X tg (.Call (.Name "range" p) [a] [] pos) (Ux ta):=by
 intro W7 s Y H R I h;refine Call_ (xN I hg hm boot_range (gf (tE (ha pos W7 s Y H _ I h) λus s1 zz=>x5 zz λvs H1 I1 r1 q1=>?_) hs Z'));obtain⟨j,e,q1,q2,q⟩:=q1;subst e;cases r1 with
 | cons r rr=>cases rr;obtain⟨t,rfl⟩:=r;exact call_range_1 (Ny I1 (by lia) (by lia) q1 q2 (by simpa using q))
def Wd(wi:TI)(g:TG)(tb:TS):TS:=λD Y H=>wi Y H λJ H1=>∃W:Nat->Nat->St->Hp->Prop,(∃m,W 0 m Y H1)/\∀i m Y H,W i m Y H->
 (J.stop i H/\D.nx Y H)\/(J.go i H/\∃N:St->Hp->Prop,(∀σ' H',N σ' H'->∃m',m'<m/\W (i+1) m' σ' H')/\∀x H',J.pj i H x H'->g x Y H' λσ2 H2=>tb {D with nx:=N,ct:=N,bk:=D.nx} σ2 H2)
noncomputable def BW(fp:QXQ)(h:No):QQY:=fp.filterMap λb=>(h.get? b).map λo=>(b,o)
def wc{fp:QXQ}{h:No}{b:Uf}{o:Obj}(hb:b∈fp)(e:h.get? b=ga o):(b,o)∈BW fp h:=kT.mpr ⟨b,hb,by rw[e];rfl⟩
def KR{p:Uf×Obj}(hp:p∈BW fp h):p.1∈fp/\h.get? p.1=ga p.2:=by
 obtain⟨b,hb,e⟩:=kT.mp hp;cases q:h.get? b with
 | none=>rw[q]at e;cases e
 | some o=>rw[q]at e;have e':(b,o)=p:=dg e;subst e';exact⟨hb,q⟩
def Inv.pinned{W7:QQY}{fp:QXQ}(I:Inv X W7 Y H s)(hf:∀b∈fp,By X W7 H b)(ho:∀b∈fp,∃o,s.heap.get? b=ga o/\∀v,o.data≠.cell v):Inv X (W7++BW fp s.heap) Y H s:=
 I.nU λp hp=>(dY.mp hp).elim (λz=>I.pin p (eJ _ z)) λz=>by obtain⟨hb,e⟩:=KR z;obtain⟨f0,f1,f2,_⟩:=hf p.1 hb;obtain⟨o,e',d⟩:=ho p.1 hb;rw[e]at e';cases e';exact⟨e,f0,f1,f2,d⟩
def Inv.nq{W7 pl:QQY}(I:Inv X (W7++pl) Y H s):Inv X W7 Y H s:=I.nU λp hp=>I.pin p (eJ _ (fH _ hp))
def Ta{tb:TS}(hp:PassesOwn (Tk X.prog X.w) X.A X.env X.xe)(hc:X.calm=Db)(hi:PI X tg iter wi)(hg:PG X tg g)(hb:BY X body tb) (hs:∀x,wT iter X.env x=pure x:=by intro _;rfl):PS X (.For tg iter body [] pos) (Wd wi g tb):=by
 intro W7 s Y H D I h;refine wpAny_For (tE (hi W7 s Y H _ I h) λv s1 h1=>tE h1 λitv s2 h2=>?_) hs;obtain⟨it,fp,tn,J,H2,e,I2,T,Xw,f2,W,⟨m0,w0⟩,turn⟩:=h2;subst e;have Yq:∀{H':Hp},(∀b∈fp,H' b=Fa)->∀b∈fp,By X W7 H' b:=λhn b hb=>⟨hn b hb,(f2 b hb).2⟩;refine codeAny_forLoop_any (λn s'=>∃i σ' H',Inv X W7 σ' H' s'/\tn i s'.heap/\(∀b∈fp,H' b=Fa)/\W i n σ' H') ?_ m0 ⟨0,Y,H2,I2,Xw,λb hb=>(f2 b hb).1,w0⟩
 rintro n s3 ⟨i,σ3,H3,I3,XX,fr3,w3⟩
 rcases turn i n σ3 H3 w3 with⟨stop,qn⟩|⟨go,N,hN,step⟩
 .refine gK hp (tE (T.done X Z' Z' Z' hc i W7 s3 σ3 H3 X.xe I3 (Yq fr3) XX stop) λr s4 ⟨hr,I4⟩=>?_);subst hr;exact g9 ⟨σ3,H3,I4,qn⟩
 .refine gK hp (tE (T.item X Z' Z' Z' hc i W7 s3 σ3 H3 X.xe I3 (Yq fr3) XX go) λr s4 ⟨u,hr,h4⟩=>?_);subst hr;refine gK hp (tE h4 λ_ s5 zz=>?_);obtain⟨x,H5,I5,r5,y5,ZA,fr5⟩:=zz;have I5':=I5.pinned (Yq fr5) (T.obj _ _ ZA);refine gK hp (tE (hg _ s5 σ3 H5 x u _ I5' r5 (step x H5 y5)) λ_ s6 ⟨σ6,H6,I6,q6⟩=>?_);refine gK hp (tE (hb _ s6 σ6 H6 _ I6 q6) λf s7 q7=>?_);have again:∀{σ7:St} {H7:Hp},Inv X (W7++BW fp s5.heap) σ7 H7 s7->N σ7 H7->∃m,m<n/\∃i σ' H',Inv X W7 σ' H' s7/\tn i s7.heap/\(∀b∈fp,H' b=Fa)/\W i m σ' H':=λ{σ7 H7} I7 n7=>by obtain⟨m',hm,w7⟩:=hN σ7 H7 n7;refine⟨m',hm,i+1,σ7,H7,I7.nq,T.keep _ _ _ ZA λb hb o e=>(I7.pin (b,o) (eJ _ (eJ _ (wc hb e)))).1,λb hb=>?_,w7⟩;obtain⟨o,e,d⟩:=T.obj _ _ ZA b hb;exact(I7.pin (b,o) (eJ _ (eJ _ (wc hb e)))).2.1
  cases f with
  | next=>obtain⟨σ7,H7,I7,n7⟩:=q7;exact again I7 n7
  | cont=>obtain⟨σ7,H7,I7,n7⟩:=q7;exact again I7 n7
  | brk=>obtain⟨σ7,H7,I7,q7⟩:=q7;exact⟨σ7,H7,I7.nq,q7⟩
  | ret v=>obtain⟨x7,σ7,H7,I7,r7,q7⟩:=q7;exact⟨x7,σ7,H7,I7.nq,r7,q7⟩
abbrev R2:=V->V->Hp->VK->Prop
def yo(X:Cx)(f:Vl->Vl->Sem Vl)(r:R2):Prop:=
 ∀(W7:QQY) (s:Sd) (Y:St) (H:Hp) (x y:V) (v u:Vl) (Q:VK),Inv X W7 Y H s->rh x v->rh y u->r x y H Q->
  pi (Tk X.prog X.w) X.A (f v u) (EP X W7 Y Q) X.xe s
def Wa(X:Cx)(f:Vl->Sem Vl)(r:V->Hp->VK->Prop):Prop:=
 ∀(W7:QQY) (s:Sd) (Y:St) (H:Hp) (x:V) (v:Vl) (Q:VK),Inv X W7 Y H s->rh x v->r x H Q->
  pi (Tk X.prog X.w) X.A (f v) (EP X W7 Y Q) X.xe s
def zY(X:Cx)(f:Vl)(r:T0 V->Hp->VK->Prop):Prop:=
 ∀(W7:QQY) (s:Sd) (Y:St) (H:Hp) (xs:T0 V) (us:T0 Vl) (Q:VK),Inv X W7 Y H s->qN xs us->r xs H Q->
  pi (Tk X.prog X.w) X.A (call f us) (EP X W7 Y Q) X.xe s
def UN(r:R2)(ta tb:TE):TE:=λY H Q=>ta Y H λx H1=>tb Y H1 λy H2=>r x y H2 Q
def WU(r:V->Hp->VK->Prop)(ta:TE):TE:=λY H Q=>ta Y H λx H1=>r x H1 Q
def rI(C:Int->Int->Prop)(g:Int->Int->V):R2:=λx y H Q=>∃i j,x=.int i/\y=.int j/\C i j/\Q (g i j) H
def Q8(g:Int->Int->V):R2:=λx y H Q=>∃i j,x=.int i/\y=.int j/\Q (g i j) H
def rU(g:Int->V):V->Hp->VK->Prop:=λx H Q=>∃i,x=.int i/\Q (g i) H
variable {tc:TE}
section
variable {a b c:Go}
def Rc(ha:PE X a ta)(hb:PE X b tb){W7:QQY}{s:Sd}{Y:St}{H:Hp}{R:V->V->Hp->Prop}(I:Inv X W7 Y H s) (h:ta Y H λx H1=>tb Y H1 λy H2=>R x y H2) {Q:QQX} {f:Vl->Vl->Sem Vl} (hf:∀v u s2 x y H2,Inv X W7 Y H2 s2->rh x v->rh y u->R x y H2->pi (Tk X.prog X.w) X.A (f v u) Q X.xe s2):
  pi (Tk X.prog X.w) X.A (wp a X.env) (λv s₁=>pi (Tk X.prog X.w) X.A (wp b X.env) (λu s₂=>pi (Tk X.prog X.w) X.A (f v u) Q X.xe s₂) X.xe s₁) X.xe s:=by
 refine tE (ha W7 s Y H _ I h) λv s1 zz=>x5 zz λx H1 I1 r1 q1=>?_;refine tE (hb W7 s1 Y H1 _ I1 q1) λu s2 zz=>x5 zz λy H2 I2 r2 q2=>?_;exact hf v u s2 x y H2 I2 r1 r2 q2
def Q1{op:XXj}(ho:yo X (IN op) r)(ha:PE X a ta)(hb:PE X b tb):PE X (.BinOp a op b pos) (UN r ta tb):=by intro W7 s Y H Q I h;exact wpAny_BinOp (Rc ha hb I h λv u s2 x y H2 I2 rx ry q=>ho W7 s2 Y H2 x y v u Q I2 rx ry q)
def Us{op:UnaryOp}(ho:Wa X (unaryOp op) r)(ha:PE X a ta):PE X (.UnaryOp op a pos) (WU r ta):=by intro W7 s Y H Q I h;exact UnaryOp_ (tE (ha W7 s Y H _ I h) λv s1 zz=>x5 zz λx H1 I1 r1 q1=>ho W7 s1 Y H1 x v Q I1 r1 q1)
def Ww{f:Vl->Vl->Sem Vl}{C:Int->Int->Prop}{g:Int->Int->Int} (rule:∀(i j:Int) (t u:Tok) (s:Sd) (Q:QQX) (E:QQX),C i j->Q (.int (g i j) s.toks) {s with toks:=s.toks+1}->pi (Tk X.prog X.w) X.A (f (.int i t) (.int j u)) Q E s):
  yo X f (rI C λi j=>.int (g i j)):=by
 intro W7 s Y H x y v u Q I rx ry h;obtain⟨i,j,rfl,rfl,hc,q⟩:=h;obtain⟨t,rfl⟩:=rx;obtain⟨t',rfl⟩:=ry;exact rule i j t t' s _ _ hc ⟨.int (g i j),H,I.tok _,⟨_,Z'⟩,q⟩
def TV{f:Vl->Vl->Sem Vl}{g:Int->Int->Int} (rule:∀(i j:Int) (t u:Tok) (s:Sd) (Q:QQX) (E:QQX),Q (.int (g i j) s.toks) {s with toks:=s.toks+1}->pi (Tk X.prog X.w) X.A (f (.int i t) (.int j u)) Q E s):
  yo X f (Q8 λi j=>.int (g i j)):=by
 intro W7 s Y H x y v u Q I rx ry h;obtain⟨i,j,rfl,rfl,q⟩:=h;obtain⟨t,rfl⟩:=rx;obtain⟨t',rfl⟩:=ry;exact rule i j t t' s _ _ ⟨.int (g i j),H,I.tok _,⟨_,Z'⟩,q⟩
def P0{f:Vl->Vl->Sem Vl}{g:Int->Int->Bool} (rule:∀(i j:Int) (t u:Tok) (s:Sd) (Q:QQX) (E:QQX),Q (.bool (g i j)) s->pi (Tk X.prog X.w) X.A (f (.int i t) (.int j u)) Q E s):
  yo X f (Q8 λi j=>.bl (g i j)):=by
 intro W7 s Y H x y v u Q I rx ry h;obtain⟨i,j,rfl,rfl,q⟩:=h;obtain⟨t,rfl⟩:=rx;obtain⟨t',rfl⟩:=ry;exact rule i j t t' s _ _ ⟨.bl (g i j),H,I,Z',q⟩
def UQ(i j:Int):Prop:=0<j/\j<1073741824
def Dy(i j:Int):Prop:=(-(2 ^ 64)<i/\i<2 ^ 64)\/(-(2 ^ 64)<j/\j<2 ^ 64)
def Dy.ok(h:Dy i j):IntMulOk i j:=by
 rcases h with⟨h1,h2⟩|⟨h1,h2⟩
 .exact .of_left (intBits_le_64 h1 h2)
 .exact .of_right (intBits_le_64 h1 h2)
def Ss:yo X (IN .Add) (Q8 λi j=>.int (i+j)):=TV λ_ _ _ _ _ _ _ q=>add_int q
def Sv:yo X (IN .Sub) (Q8 λi j=>.int (i - j)):=TV λ_ _ _ _ _ _ _ q=>sub_int q
def SO:yo X (IN .Mult) (rI Dy λi j=>.int (i*j)):=Ww λ_ _ _ _ _ _ _ hc q=>mul_int q hc.ok
def OH:yo X (IN .FloorDiv) (rI UQ λi j=>.int (i / j)):=Ww λi j _ _ _ _ _ hc q=>by have h1:(0:Int)<j:=hc.1;have h2:j<1073741824:=hc.2;exact floordiv_int (by lia) (by rw[Int.fdiv_eq_ediv_of_nonneg i (by lia)];exact q) (.inl (PyProof.noPylong_small (by lia)))
def Tq:yo X (IN .Mod) (rI (λ_ j=>0<j) λi j=>.int (i % j)):=Ww λi j _ _ _ _ _ hc q=>by have h1:(0:Int)<j:=hc;exact mod_int' (by lia) (by rw[Int.fmod_eq_emod_of_nonneg i (by lia)];exact q)
def WR{f:Vl->Sem Vl}{g:Int->Int} (rule:∀(i:Int) (t:Tok) (s:Sd) (Q:QQX) (E:QQX),Q (.int (g i) s.toks) {s with toks:=s.toks+1}->pi (Tk X.prog X.w) X.A (f (.int i t)) Q E s):
  Wa X f (rU λi=>.int (g i)):=by
 intro W7 s Y H x v Q I rx h;obtain⟨i,rfl,q⟩:=h;obtain⟨t,rfl⟩:=rx;exact rule i t s _ _ ⟨.int (g i),H,I.tok _,⟨_,Z'⟩,q⟩
def SA:Wa X (unaryOp .USub) (rU λi=>.int (-i)):=WR λ_ _ _ _ _ q=>neg_int q
end
section
variable {a b c:Go}
def IC{W7:QQY}{Q:VK}{k k':Bool}(I:Inv X W7 Y H s)(q:Q (.bl k) H)(e:k=k'):EP X W7 Y Q (.bool k') s:=by subst e;exact⟨.bl k,H,I,Z',q⟩
def UV:yo X (Op .Lt) (Q8 λi j=>.bl (decide (i<j))):=P0 λ_ _ _ _ _ _ _ q=>lt_int q
def TZ:yo X (Op .LtE) (Q8 λi j=>.bl (decide (i<=j))):=P0 λ_ _ _ _ _ _ _ q=>le_int q
def Uq:yo X (Op .Gt) (Q8 λi j=>.bl (decide (j<i))):=P0 λ_ _ _ _ _ _ _ q=>gt_int q
def Uk:yo X (Op .GtE) (Q8 λi j=>.bl (decide (j<=i))):=P0 λ_ _ _ _ _ _ _ q=>ge_int q
def KI:yo X (Op .In) (λx y H Q=>∃i j,x=.str i/\y=.str j/\Q (.bl (!(Builtin.Str.occurrences j i 0 j.length 1).isEmpty)) H):=by intro W7 s Y H x y v u Q I rx ry h;obtain⟨i,j,rfl,rfl,q⟩:=h;obtain⟨t,rfl⟩:=rx;obtain⟨t',rfl⟩:=ry;exact in_str (IC I q Z')
def SR:yo X (Op .Is) (λx y H Q=>y=.mW/\Q (.bl (decide (x=.mW))) H):=by
 intro W7 s Y H x y v u Q I rx ry h;obtain⟨rfl,q⟩:=h;cases ry;refine is_none_gen (IC I q ?_);cases x<;>first
  | (cases rx;rfl)
  | (obtain⟨t,rfl⟩:=rx;rfl)
def PZ:yo X (Op .IsNot) (λx y H Q=>y=.mW/\Q (.bl (!decide (x=.mW))) H):=by
 intro W7 s Y H x y v u Q I rx ry h;obtain⟨rfl,q⟩:=h;cases ry;refine isnot_none_gen (IC I q ?_);cases x<;>first
  | (cases rx;rfl)
  | (obtain⟨t,rfl⟩:=rx;rfl)
def HQ(b:Go){op:CmpOp}(h:op≠.In:=by decide)(h2:op≠.NotIn:=by decide):wS op b=pc:=by
 have e1:(op==CmpOp.In)=pc:=by cases op<;>first|rfl|exact absurd Z' h
 have e2:(op==CmpOp.NotIn)=pc:=by cases op<;>first|rfl|exact absurd Z' h2
 cases b<;>simp[wS,e1,e2]
def Jz{op:CmpOp}(ho:yo X (Op op) r)(ha:PE X a ta)(hb:PE X b tb)(hm:wS op b=pc):PE X (.Compare a [op] [b] pos) (UN r ta tb):=by intro W7 s Y H Q I h;exact wpAny_Compare1 (Rc ha hb I h λv u s2 x y H2 I2 rx ry q=>ho W7 s2 Y H2 x y v u Q I2 rx ry q) hm
def QR(t:TE):TT:=λY H Q=>t Y H λx H'=>∃k,x=.bl k/\Q k H'
def JF{op:CmpOp}(ho:yo X (Op op) r)(ha:PE X a ta)(hb:PE X b tb)(hm:wS op b=pc):PT X (.Compare a [op] [b] pos) (QR (UN r ta tb)):=by
 intro W7 s Y H Q I h;refine wpAny_isTrue_Compare1 (tE (ha W7 s Y H _ I h) λv s1 zz=>x5 zz λx H1 I1 r1 q1=>tE (hb W7 s1 Y H1 _ I1 q1) λu s2 zz=>x5 zz λy H2 I2 r2 q2=>
  tE (ho W7 s2 Y H2 x y v u _ I2 r1 r2 q2) λc s3 zz=>?_) hm
 obtain⟨z,H3,I3,r3,k,e,q3⟩:=zz;subst e;cases r3;exact fv ⟨H3,I3,q3⟩
def Lu(r r':R2)(ta tb tc:TE):TE:=λY H Q=>ta Y H λx H1=>tb Y H1 λy H2=>r x y H2 λz H3=>∃k,z=.bl k/\
 (if k=Db then tc Y H3 λw' H4=>r' y w' H4 Q else Q (.bl pc) H3)
def NK{op X2:CmpOp}(ho:yo X (Op op) r)(XQ:yo X (Op X2) r')(ha:PE X a ta)(hb:PE X b tb)(hc:PE X c tc) (hm:lastMarks [op,X2] [b,c]=pc:=by with_unfolding_all rfl):PE X (.Compare a [op,X2] [b,c] pos) (Lu r r' ta tb tc):=by
 intro W7 s Y H Q I h;refine Compare_chain (tE (ha W7 s Y H _ I h) λv s1 zz=>x5 zz λx H1 I1 r1 q1=>chain_link (tE (hb W7 s1 Y H1 _ I1 q1) λu s2 zz=>x5 zz λy H2 I2 r2 q2=>
  tE (ho W7 s2 Y H2 x y v u _ I2 r1 r2 q2) λd s3 zz=>?_)) hm
 obtain⟨z,H3,I3,r3,k,e,q3⟩:=zz;subst e;cases r3;refine fv ?_;cases k with
 | false=>exact ite_ff ⟨.bl pc,H3,I3,Z',q3⟩
 | true=>exact ite_tt (chain_last (tE (hc W7 s3 Y H3 _ I3 q3) λw' s4 zz=>x5 zz λz' H4 I4 r4 q4=>XQ W7 s4 Y H4 y z' u w' Q I4 r2 r4 q4))
def Lk{op X2:CmpOp}(ho:yo X (Op op) r)(XQ:yo X (Op X2) r')(ha:PE X a ta)(hb:PE X b tb)(hc:PE X c tc) (hm:lastMarks [op,X2] [b,c]=pc:=by with_unfolding_all rfl):PT X (.Compare a [op,X2] [b,c] pos) (QR (Lu r r' ta tb tc)):=by
 intro W7 s Y H Q I h;refine isTrue_chain (tE (ha W7 s Y H _ I h) λv s1 zz=>x5 zz λx H1 I1 r1 q1=>test_link (tE (hb W7 s1 Y H1 _ I1 q1) λu s2 zz=>x5 zz λy H2 I2 r2 q2=>
  tE (ho W7 s2 Y H2 x y v u _ I2 r1 r2 q2) λd s3 zz=>?_)) hm
 obtain⟨z,H3,I3,r3,k,e,q3⟩:=zz;subst e;cases r3;refine fv ?_;cases k with
 | false=>obtain⟨k',e',q'⟩:=q3;cases e';exact ite_ff ⟨H3,I3,q'⟩
 | true=>refine ite_tt (test_last (tE (hc W7 s3 Y H3 _ I3 q3) λw' s4 zz=>x5 zz λz' H4 I4 r4 q4=>tE (XQ W7 s4 Y H4 y z' u w' _ I4 r2 r4 q4) λd' s5 zz=>?_));obtain⟨z2,H5,I5,r5,k2,e2,q5⟩:=zz;subst e2;cases r5;exact fv ⟨H5,I5,q5⟩
def zm:(Ch:Nat)<2 ^ 63:=by rw[dI];decide
def IB:yo X (IN .Add) (λx y H Q=>∃i j,x=.str i/\y=.str j/\i.length+j.length<=Ch/\Q (.str (i++j)) H):=by intro W7 s Y H x y v u Q I rx ry h;obtain⟨i,j,rfl,rfl,hz,q⟩:=h;obtain⟨t,rfl⟩:=rx;obtain⟨t',rfl⟩:=ry;exact add_str (λt' tk=>⟨.str (i++j),H,I.tok _,⟨_,Z'⟩,q⟩) hz
def yT{x:V}(r:qN [x] us):∃u,us=[u]/\rh x u:=by
 cases r with
 | cons r1 r2=>cases r2;exact⟨_,Z',r1⟩
def LF{x y:V}(r:qN [x,y] us):∃u w',us=[u,w']/\rh x u/\rh y w':=by
 cases r with
 | cons r1 r2=>
  cases r2 with
  | cons r3 r4=>cases r4;exact⟨_,_,Z',r1,r3⟩
def KA(hc:X.calm=Db):zY X (.builtin "min") (λxs H Q=>∃i j,xs=[.int i,.int j]/\Q (.int (if j<i then j else i)) H):=by
 intro W7 s Y H xs us Q I r h;obtain⟨i,j,rfl,q⟩:=h;obtain⟨u,w',rfl,⟨t,rfl⟩,⟨t',rfl⟩⟩:=LF r;refine min_two_ints (I.ok.hd hc) λh' tk k=>⟨_,H,I.kept k,?_,q⟩;by_cases hj:j<i
 .rw[de hj,de hj];exact⟨_,Z'⟩
 .rw[c9 hj,c9 hj];exact⟨_,Z'⟩
end
structure IJ(h:No)(x dx C:Uf)(mA:QQZ):Prop where
 obj:h.get? x=ga (W.instObj C dx)
 ns:h.Ns1 dx mA
 ne:dx≠x
def KG{h:No}{dx:Uf}{mA:QQZ}(n:h.Ns1 dx mA):∃od,h.get? dx=ga od/\∀name,W.lookIn name od=ga (mA name):=by
 obtain⟨o,es,ep,ho,hd,hk,_,hm⟩:=n;refine⟨o,ho,λname=>?_⟩;have e:=hm name;unfold nsFind findBy at e;rw[<-Array.find?_toList]at e;unfold W.lookIn;rw[hd];dsimp only;split
 .rename_i y q;rw[q]at e;exact eV ga e
 .rename_i q;rw[q]at e;have a:es.toList.any (·.refKey)=pc:=by rw[lz];intro y hy;obtain⟨z,t,hkey⟩:=hk y (kt.mp hy);simp[DictEntry.refKey,hkey]
  have a':¬es.toList.any (·.refKey)=Db:=by rw[a];exact dw
  rw[c9 a'];exact eV ga e
def IJ.look(I:IJ h x dx C mA):∃od,W.InstAt h x (W.instObj C dx) C (ga od)/\∀name,W.lookIn name od=ga (mA name):=
 let⟨od,ho,hl⟩:=KG I.ns
 ⟨od,⟨I.obj,Z',Z',ho⟩,hl⟩
variable {prog:Pg}{A:Ar}{K:qK}{dx C:Uf}{mA:QQZ}{name:Str}
section
variable {w:Wo}{E:QQX}{x f:Uf}{v:Vl}
def PV{expr:Bool}{Q:QQX}(X:K.In s.heap)(I:IJ s.heap x dx C mA)(hg:W.plainGet K C name=Db)(hh:W.hasDictIn K C=Db) (ha:W.findIn K (.ref C) name=ga Fa) (hv:mA name=ga v) (hv':W.handedIn v=Db) (h:Q v {s with toks:=s.toks+1}):
  pi (Tk prog w) A (getAttr (.ref x) name expr) Q E s:=by
 obtain⟨od,J,hl⟩:=I.look;exact W.get_value X J (kC hg).1 (W.findObj_own hh ha Z' (by rw[hl,hv])) hv' h
def LZ{pl:Sem Bool}{Q:Vl×T0 Vl->Sd->Prop}(X:K.In s.heap)(I:IJ s.heap x dx C mA)(hg:W.plainGet K C name=Db) (hf:W.findIn K (.ref C) name=ga (ga (.ref f))) (ht:W.isFn K (.ref f)=Db) (hv:mA name=Fa) (h:Q (.ref f,[.ref x]) s):
  pi (Tk prog w) A (XV (.ref x) name pl) Q E s:=by
 obtain⟨od,J,hl⟩:=I.look;exact W.method_fn X J (kC hg).1 (kC hg).2 hf (ft.mp ht) (by show(W.lookIn name od).map (·.isSome)=ga pc;rw[hl,hv];rfl) h
def Pw{Q:Unit->Sd->Prop}(X:K.In s.heap)(I:IJ s.heap x dx C mA) (hs:W.findIn K (.ref C) "__setattr__"=ga (ga (.builtin "object.__setattr__"))) (hp:W.plainOver K C=Db) (ht:W.takerIn K C name=ga Fa) (hh:W.hasDictIn K C=Db) (hw:PySem.Within mA ns) (hsz:ns.length<=Ch) (h:∀h',IJ h' x dx C (λy=>if y=name then ga v else mA y)->Heap.SameBut dx s.heap h'->Q () {s with heap:=h',toks:=s.toks+2}):
  pi (Tk prog w) A (setAttr (.ref x) name v) Q E s:=by
 obtain⟨od,J,hl⟩:=I.look;refine W.set_plain X J hs (W.osa_open (s:={s with toks:=s.toks+1}) (r:=none) X J hp ht λb=>?_);obtain⟨cd,hc,hd'⟩:=W.any_some hh;have hx:s.heap.get? x=ga ⟨.ref C,ga dx,.plain,#[]⟩:=I.obj;refine cW (dv (cW (cW (wpAny_loadPart hx (cW (mB (s:={s with toks:=s.toks+1}) (kD X hc) ?_))))));rw[hd'];refine dv (a:=some dx) (cW (dv (cW ?_)));refine wpAny_nsSet1 (s:={s with toks:=s.toks+1}) I.ns λh' ZT YT=>?_;obtain⟨oD,esD,epD,hoD,Dk,hcD⟩:=ZT.count (PySem.Within.cons name v hw);refine cW (lR hoD (by rw[Dk];exact lT (d9 hcD (by rw[eA];lia))) ?_);exact dv (h _ ⟨(YT.2 _ (dQ I.ne)).trans I.obj,ZT,I.ne⟩ YT)
def LL{vs:T0 Vl}{kw:T0 (Str×Vl)}(X:K.In s.heap)(hm:W.makesIn K C=Db) (hi:W.findIn K (.ref C) "__init__"=ga (ga (.ref f))) (hf:W.typeIn K (.ref f)=ga (.type "function")) (h:XXf (Tk prog w) (A.under (.builtin "type.__call__" ⟨.ref C::vs,kw⟩)) (.call (.ref f) ⟨.ref (s.heap.objs.size+1)::vs,kw⟩) (W.InitBack (s.heap.objs.size+1) R) {s with heap:=(s.heap.push W.emptyDict).push (W.instObj C s.heap.objs.size)}):
  XXf (Tk prog w) A (.call (.ref C) ⟨vs,kw⟩) R s:=by
 obtain⟨hh,g,d,t,os⟩:=s;exact W.make_core (W.makes_of X hm) (mw X hi) (λself=>W.bind_fn X self hf) (.inl Z') h
end
noncomputable def wq(f:Str)(v:V):T0 (Str×V)->T0 (Str×V)
 | []=>[(f,v)]
 | (g,x)::r=>if g=f then(g,v)::r else(g,x)::wq f v r
theorem A7(f g:Str)(v:V):∀fs:T0 (Str×V),(wq f v fs).lookup g=if g=f then ga v else fs.lookup g
 | []=>by
  show List.lookup g [(f,v)]=_;by_cases h:g=f
  .have hb:(g==f)=Db:=ft.mpr h;simp only[List.lookup,hb,de h]
  .have hb:(g==f)=pc:=gB.mpr h;simp only[List.lookup,hb,c9 h]
 | (k,x)::r=>by
  have ih:=A7 f g v r;rw[show wq f v ((k,x)::r)=(if k=f then(k,v)::r else(k,x)::wq f v r)from Z'];by_cases hk:k=f
  .rw[de hk];by_cases h:g=k
   .have hb:(g==k)=Db:=ft.mpr h;simp only[List.lookup,hb,de (h.trans hk)]
   .have hb:(g==k)=pc:=gB.mpr h;simp only[List.lookup,hb,c9 (λe:g=f=>h (e.trans hk.symm))]
  .rw[c9 hk];by_cases h:g=k
   .have hb:(g==k)=Db:=ft.mpr h;simp only[List.lookup,hb,c9 (λe:g=f=>hk (h.symm.trans e))]
   .have hb:(g==k)=pc:=gB.mpr h;simp only[List.lookup,hb];exact ih
theorem AL(f:Str)(v:V):∀fs:T0 (Str×V),f∈(wq f v fs).map (·.1)/\∀g,g∈fs.map (·.1)->g∈(wq f v fs).map (·.1)
 | []=>⟨by simp[wq],λg h=>by simp at h⟩
 | (k,x)::r=>by
  obtain⟨i1,i2⟩:=AL f v r;rw[show wq f v ((k,x)::r)=(if k=f then(k,v)::r else(k,x)::wq f v r)from Z'];by_cases hk:k=f
  .rw[de hk];subst hk;exact⟨by simp,λg h=>by simpa using h⟩
  .rw[c9 hk];refine⟨?_,λg h=>?_⟩
   .rw[dW];exact dE _ i1
   .rw[dW]at h ⊢;rcases dh.mp h with e|e
    .exact dh.mpr (.inl e)
    .exact dE _ (i2 g e)
theorem A6(f:Str)(v:V):∀fs:T0 (Str×V),(wq f v fs).length<=fs.length+1
 | []=>by simp[wq]
 | (k,x)::r=>by
  have ih:=A6 f v r;rw[show wq f v ((k,x)::r)=(if k=f then(k,v)::r else(k,x)::wq f v r)from Z'];by_cases hk:k=f
  .rw[de hk,eA,eA];lia
  .rw[c9 hk,eA,eA];lia
def yM.some_of{v:V}(r:yM (ga v) o):∃u,o=ga u/\rh v u:=by
 cases o with
 | none=>exact(show False from r).elim
 | some u=>exact⟨u,Z',r⟩
def yM.none_of{o:Option Vl}(r:yM Fa o):o=Fa:=by
 cases o with
 | none=>rfl
 | some u=>exact(show False from r).elim
def Ko{u:Vl}(r:rh v u):W.handedIn u=Db:=by
 cases v with
 | mW=>cases(show u=Value.none from r);rfl
 | bl b=>cases(show u=Value.bool b from r);rfl
 | int i=>obtain⟨t,e⟩:=(show ∃t,u=Value.int i t from r);cases e;rfl
 | str x=>obtain⟨t,e⟩:=(show ∃t,u=Value.str x t from r);cases e;rfl
 | byt b=>obtain⟨t,e⟩:=(show ∃t,u=Value.bytes b t from r);cases e;rfl
 | flt b=>obtain⟨t,e⟩:=(show ∃t,u=Value.float b t from r);cases e;rfl
 | ref a=>cases(show u=Value.ref a from r);rfl
 | ty n=>cases(show u=Value.type n from r);rfl
section
variable {P:Pg}{w:Wo}{a:Uf}{fs fs':T0 (Str × V)}
def BH(mZ:yO P w H h)(e:H a=ga (.ins C dx fs)):∃mA,IJ h a dx C mA/\(∀f,yM (fs.lookup f) (mA f))/\PySem.Within mA (fs.map (·.1))/\fs.length<=1000/\H dx=ga (.own a):=by obtain⟨d,z,ne,ob,mA,n,r,q⟩:=(show sR P w H h a (.ins C dx fs)from mZ a _ e);exact⟨mA,⟨ob,n,ne⟩,r,q,z,d⟩
end
structure Cls(K:qK)(C:Uf):Prop where
 pg:W.plainGet K C Str.empty=Db
 hd:W.hasDictIn K C=Db
 po:W.plainOver K C=Db
 sa:W.findIn K (.ref C) "__setattr__"=ga (ga (.builtin "object.__setattr__"))
def Cls.get{K:qK}(c:Cls K C)(f:Str):W.plainGet K C f=Db:=c.pg
def uI(K:qK)(C:Uf)(f:Str):Prop:=W.findIn K (.ref C) f=ga Fa
def uI.oW{K:qK}(n:uI K C f):W.takerIn K C f=ga Fa:=by unfold W.takerIn;rw[show W.findIn K (.ref C) f=ga Fa from n];rfl
structure wu(K:qK)(C:Uf)(m:Str)(f:Uf):Prop where
 at_:W.findIn K (.ref C) m=ga (ga (.ref f))
 fn:W.isFn K (.ref f)=Db
 kp:W.keepIn K (.ref f)=Db
section
variable {Y:St}{a:Uf}{fs:T0 (Str × V)}{f:Str}{v:V}{E:QQX}
def Cf{b:Bool}{Q:QQX}(I:Inv X W7 Y H s)(e:H a=ga (.ins C dx fs))(c:Cls X.K C)(n:uI X.K C f)(l:fs.lookup f=ga v) (h:∀u s',Inv X W7 Y H s'->rh v u->Q u s'):pi (Tk X.prog X.w) A (getAttr (.ref a) f b) Q E s:=by
 obtain⟨mA,O,r,_,_,_⟩:=BH I.mZ e;obtain⟨u,hu,ru⟩:=yM.some_of (v:=v) (o:=mA f) (by rw[<-l];exact r f);exact PV I.ny O (c.get f) c.hd n hu (Ko ru) (h u _ (I.tok _) ru)
def CA{pl:Sem Bool}{Q:Vl×T0 Vl->Sd->Prop}(I:Inv X W7 Y H s)(e:H a=ga (.ins C dx fs))(c:Cls X.K C)(k:wu X.K C m g)(l:fs.lookup m=Fa) (h:Q (.ref g,[.ref a]) s):pi (Tk X.prog X.w) A (XV (.ref a) m pl) Q E s:=by
 obtain⟨mA,O,r,_,_,_⟩:=BH I.mZ e;have hn:mA m=Fa:=yM.none_of (by rw[<-l];exact r m);exact LZ I.ny O (c.get m) k.at_ k.fn hn h
def Ca{u:Vl}{Q:Unit->Sd->Prop}(I:Inv X W7 Y H s)(e:H a=ga (.ins C dx fs))(c:Cls X.K C)(n:uI X.K C f)(hl:fs.length<1000)(ry:rh y u) (h:∀s',Inv X W7 Y (upd H a (.ins C dx (wq f y fs))) s'->Q () s'):pi (Tk X.prog X.w) A (setAttr (.ref a) f u) Q E s:=by
 obtain⟨mA,O,r,wi,_,ho⟩:=BH I.mZ e;have hz:(fs.map (·.1)).length<=Ch:=by rw[cV,dI];lia
 refine Pw I.ny O c.sa c.po n.oW c.hd wi hz λh' O' sb=>h _ ?_;have hd:∃o,h'.get? dx=ga o:=let⟨o,_,_,e',_⟩:=O'.ns;⟨o,e'⟩;refine I.write (x:=a) (e:=dx) (by rw[e];exact True.intro) (.inr ho) (λb q hb z=>(sb.2 b hb).trans z) hd ?_;refine⟨by rw[qo O.ne];exact ho,?_,O.ne,O'.obj,_,O'.ns,λg=>?_,λg hg=>?_⟩
 .have:=A6 f y fs;lia
 .show yM ((wq f y fs).lookup g) (if g=f then ga u else mA g);rw[A7];by_cases q:g=f
  .rw[de q,de q];exact ry
  .rw[c9 q,c9 q];exact r g
 .by_cases q:g=f
  .rw[q];exact(AL f y fs).1
  .refine(AL f y fs).2 g (wi g λz=>hg ?_);show(if g=f then ga u else mA g)=Fa;rw[c9 q];exact z
def Inv.made(I:Inv X W7 Y H s):Inv X W7 Y (upd (upd H s.heap.objs.size (.own (s.heap.objs.size+1))) (s.heap.objs.size+1) (.ins C s.heap.objs.size [])) {s with heap:=(s.heap.push W.emptyDict).push (W.instObj C s.heap.objs.size)}:=by
 have e1:(s.heap.push W.emptyDict).get? s.heap.objs.size=ga W.emptyDict:=dM s.heap Z';have e2:((s.heap.push W.emptyDict).push (W.instObj C s.heap.objs.size)).get? (s.heap.objs.size+1)=ga (W.instObj C s.heap.objs.size):=by
  have:=dM (s.heap.push W.emptyDict) (o:=W.instObj C s.heap.objs.size) Z'
  rwa [fT]at this
 have e3:(s.heap.push W.emptyDict).Ns s.heap.objs.size (λ_=>Fa):=⟨W.emptyDict,#[],_,e1,Z',(λe he=>absurd he (by simp)),λ_=>rfl⟩;have I1:=I.laid (a:=s.heap.objs.size) (o:=.own (s.heap.objs.size+1)) (h':=s.heap.push W.emptyDict) (t':=s.toks) (λb u q=>df _ q) (dq _) ⟨_,e1⟩;refine I1.laid (a:=s.heap.objs.size+1) (o:=.ins C s.heap.objs.size []) (t':=s.toks) (λb u q=>df _ q) (mC (fT _ _)) ?_;have ne:s.heap.objs.size≠s.heap.objs.size+1:=dP (fR _);refine⟨by rw[qo ne,qy],eQ _,ne,e2,λ_=>Fa,(lA e3).at λo q=>df _ q,λ_=>True.intro,λy hy=>absurd Z' hy⟩
def Qn{prog:Pg}{w:Wo}{env:Env}{e:Go}{f:Str}{s:Sd}{Q:QQX}(hb:Rs e f env (wp e env)=wp e env) (h:pi (Tk prog w) A (wp e env) (λo s₁=>pi (Tk prog w) A (getAttr o f Db) Q E s₁) E s):pi (Tk prog w) A (wp (.Attribute e f pos) env) Q E s:=
 Attribute_any_ h (by rw[arm_eval_Attribute,hb])
end
def Ws(K:qK)(ta:TE)(f:Str):TE:=λY H Q=>ta Y H λx H1=>∃a C dx fs v,x=.ref a/\H1 a=ga (.ins C dx fs)/\Cls K C/\uI K C f/\fs.lookup f=ga v/\Q v H1
def VR(K:qK)(ta tv:TE)(f:Str):TS:=λD Y H=>tv Y H λy H1=>ta Y H1 λx H2=>∃a C dx fs,x=.ref a/\H2 a=ga (.ins C dx fs)/\Cls K C/\uI K C f/\fs.length<1000/\
 D.nx Y (upd H2 a (.ins C dx (wq f y fs)))
def PU(X:Cx)(op:XXj)(rd:V->V->Hp->VK->Prop):Prop:=
 ∀(W7:QQY) (s:Sd) (Y:St) (H:Hp) (x y:V) (u v:Vl) (Q:VK),Inv X W7 Y H s->rh x u->rh y v->rd x y H Q->pi (Tk X.prog X.w) X.A (inplaceOp op u v) (EP X W7 Y Q) X.xe s
def P8(K:qK)(ta tv:TE)(rd:V->V->Hp->VK->Prop)(f:Str):TS:=λD Y H=>ta Y H λx H1=>∃a C dx fs v,x=.ref a/\H1 a=ga (.ins C dx fs)/\Cls K C/\uI K C f/\fs.lookup f=ga v/\
 tv Y H1 λy H2=>rd v y H2 λz H3=>∃ZU fs',H3 a=ga (.ins C ZU fs')/\fs'.length<1000/\D.nx Y (upd H3 a (.ins C ZU (wq f z fs')))
variable {value:Go}{Xl Zh:Pos}{tv:TE}
section
variable {o e:Go}{f:Str}
def Rx(he:PE X e ta)(hb:Rs e f X.env (wp e X.env)=wp e X.env):PE X (.Attribute e f pos) (Ws X.K ta f):=by intro W7 s Y H Q I h;refine Qn hb (tE (he W7 s Y H _ I h) λu s1 zz=>?_);obtain⟨x,H1,I1,rx,a,C,dx,fs,v,ex,ea,c,n,l,q⟩:=zz;subst ex;obtain rfl:u=Value.ref a:=rx;exact Cf I1 ea c n l λu' s2 I2 ru=>⟨v,H1,I2,ru,q⟩
def RX(ha:PE X o ta)(hv:PE X value tv)(hs:ZB value (ga (.Attribute o f Xl)) pos.line X.env=pure pc):PS X (.Assign [.Attribute o f Xl] value pos) (VR X.K ta tv f):=by intro W7 s Y H D I h;refine iX (tE (hv W7 s Y H _ I h) λu s1 zz=>x5 zz λy H1 I1 ry q=>tE (ha W7 s1 Y H1 _ I1 q) λov s2 zz=>?_) hs;obtain⟨x,H2,I2,rx,a,C,dx,fs,ex,ea,c,n,l,q2⟩:=zz;subst ex;obtain rfl:ov=Value.ref a:=rx;exact Ca I2 ea c n l ry λs3 I3=>⟨Y,_,I3,q2⟩
def Kf(ha:PE X o ta)(hv:PE X value tv)(hop:PU X op rd):PS X (.AugAssign (.Attribute o f Zh) op value pos) (P8 X.K ta tv rd f):=by intro W7 s Y H D I h;refine wpAny_AugAssign_AttributeAny (tE (ha W7 s Y H _ I h) λov s1 zz=>?_);obtain⟨x,H1,I1,rx,a,C,dx,fs,v,ex,ea,c,n,l,q⟩:=zz;subst ex;obtain rfl:ov=Value.ref a:=rx;refine Cf I1 ea c n l λu s2 I2 ru=>tE (hv W7 s2 Y H1 _ I2 q) λw3 s3 zz=>x5 zz λy H2 I3 ry q3=>tE (hop W7 s3 Y H2 v y u w3 _ I3 ru ry q3) λw4 s4 zz=>?_;obtain⟨z,H3,I4,rz,ZU,fs',ea',l',q4⟩:=zz;exact Ca I4 ea' c n l' rz λs5 I5=>⟨Y,_,I5,q4⟩
def VN:V->V->Hp->VK->Prop:=λx y H Q=>∃i j,x=.int i/\y=.int j/\Q (.int (i+j)) H
def VA:V->V->Hp->VK->Prop:=λx y H Q=>∃i j,x=.int i/\y=.int j/\Q (.int (i - j)) H
def Sx:PU X .Add VN:=by
 rintro W7 s Y H x y u v Q I rx ry ⟨i,j,rfl,rfl,q⟩
 obtain⟨t,rfl⟩:=(show ∃t,u=Value.int i t from rx);obtain⟨t',rfl⟩:=(show ∃t',v=Value.int j t' from ry);exact PyProof.Rows.iadd_int ⟨.int (i+j),H,I.tok _,⟨_,Z'⟩,q⟩
def Rf:PU X .Sub VA:=by
 rintro W7 s Y H x y u v Q I rx ry ⟨i,j,rfl,rfl,q⟩
 obtain⟨t,rfl⟩:=(show ∃t,u=Value.int i t from rx);obtain⟨t',rfl⟩:=(show ∃t',v=Value.int j t' from ry);exact PyProof.Rows.isub_int ⟨.int (i - j),H,I.tok _,⟨_,Z'⟩,q⟩
end
variable {Q:QQX}
section
variable {Y:St}{E:QQX}{c:Vl}{b:Bool}
inductive Bv(K:qK)(H:Hp):V->Vl->Prop where
 | mW:Bv K H .mW (.type "NoneType")
 | bl (x:Bool):Bv K H (.bl x) (.type "bool")
 | int (i:Int):Bv K H (.int i) (.type "int")
 | str (x:Str):Bv K H (.str x) (.type "str")
 | flt (x:UInt64):Bv K H (.flt x) (.type "float")
 | lst {a:Uf} {xs:List V} (e:H a=ga (.lst xs)):Bv K H (.ref a) (.type "list")
 | frz {a:Uf} {o:Obj} {xs:List V} (e:H a=ga (.frz o (.lst xs))):Bv K H (.ref a) (.type "list")
 | tup {a:Uf} {xs:List V} (e:H a=ga (.tup xs)):Bv K H (.ref a) (.type "tuple")
 | dK {a:Uf} {kvs:List (rF×V)} (e:H a=ga (.dK kvs)):Bv K H (.ref a) (.type "dict")
 | dT {a:Uf} {kvs:List (List rF×V)} (e:H a=ga (.dT kvs)):Bv K H (.ref a) (.type "dict")
 | ins {a C dx:Uf} {fs:List (Str×V)} (e:H a=ga (.ins C dx fs)) (cl:Cls K C) (ha:W.findIn K (.ref C) "__class__"=ga (ga (.builtin "object.__class__")))
   (hn:W.specialIn K (.builtin "object.__class__") "__get__"=ga (ga (.builtin "getset_descriptor.__get__"))) (htk:W.takesIn K (.builtin "object.__class__")=ga Db)
   (hm:W.mroIn K C (.type "object")=ga Db):Bv K H (.ref a) (.ref C)
def ve{u t:Vl}(I:Inv X W7 Y H s)(rx:rh x u)(ty:Bv X.K H x t)(e:W.kitOne X.K t c=ga b)(h:∀tk,Q (.bool b) {s with toks:=tk}):
  pi (Tk X.prog X.w) A (call (.builtin "isinstance") [u,c]) Q E s:=by
 cases ty with
 | mW=>cases(show u=Value.none from rx);exact gy W.kitx_none I.ny True.intro e (λz=>nomatch z) h
 | bl y=>cases(show u=Value.bool y from rx);exact gy W.kitx_bool I.ny True.intro e (λz=>nomatch z) h
 | int i=>obtain⟨t,q⟩:=(show ∃t,u=Value.int i t from rx);cases q;exact gy W.kitx_int I.ny True.intro e (λz=>nomatch z) h
 | str y=>obtain⟨t,q⟩:=(show ∃t,u=Value.str y t from rx);cases q;exact gy W.kitx_str I.ny True.intro e (λz=>nomatch z) h
 | flt y=>obtain⟨t,q⟩:=(show ∃t,u=Value.float y t from rx);cases q;exact gy W.kitx_float I.ny True.intro e (λz=>nomatch z) h
 | @lst a xs ea=>cases(show u=Value.ref a from rx);obtain⟨_,_,n,_,h1⟩:=(show sR X.prog X.w H s.heap a (.lst xs)from I.mZ a _ ea);exact gy lK I.ny ⟨_,h1,Z'⟩ e (λz=>nomatch z) h
 | @frz a ob xs ea=>cases(show u=Value.ref a from rx);obtain⟨_,_,_,n,_,h1⟩:=(show sR X.prog X.w H s.heap a (.frz ob (.lst xs))from I.mZ a _ ea);exact gy lK I.ny ⟨_,h1,Z'⟩ e (λz=>nomatch z) h
 | @tup a xs ea=>cases(show u=Value.ref a from rx);obtain⟨_,_,_,p⟩:=(show sR X.prog X.w H s.heap a (.tup xs)from I.mZ a _ ea);obtain⟨o,h1,h2,_⟩:=p;exact gy W.kitx_tuple I.ny ⟨o,h1,h2⟩ e (λz=>nomatch z) h
 | @dK a kvs ea=>cases(show u=Value.ref a from rx);obtain⟨_,_,vs,_,p⟩:=(show sR X.prog X.w H s.heap a (.dK kvs)from I.mZ a _ ea);obtain⟨o,es,ep,h1,h2,_⟩:=p;exact gy W.kitx_dict I.ny ⟨o,h1,h2.1⟩ e (λz=>nomatch z) h
 | @dT a kvs ea=>cases(show u=Value.ref a from rx);obtain⟨_,_,xs,_,o,es,ep,h1,h2,_⟩:=(show sR X.prog X.w H s.heap a (.dT kvs)from I.mZ a _ ea);exact gy W.kitx_dict I.ny ⟨o,h1,h2.1⟩ e (λz=>nomatch z) h
 | @ins a C dx fs ea cl ha hn htk hm=>cases(show u=Value.ref a from rx);obtain⟨mA,O,_⟩:=BH I.mZ ea;obtain⟨od,J,_⟩:=O.look;exact gy (W.kitx_own (cl.get _) cl.hd ha hn htk hm) I.ny J e (λz=>nomatch z) h
end
structure sQ(k:Nat)(A:Ar):Prop where
 hd:A.handled=Fa
 dp:A.depth+3*k+5<recursionLimit
 un:A.units+16*k+200<W'
def sQ.mono{j k:Nat}(r:sQ k A)(h:j<=k):sQ j A:=⟨r.hd,by have:=r.dp;lia,by have:=r.un;lia⟩
def sQ.deeper{k:Nat}(r:sQ (k+1) A)(env:Env):sQ k (A.deeper env):=
 ⟨r.hd,by have:=r.dp;show A.depth+1+3*k+5<_;lia,by have:=r.un;show A.units+3+16*k+200<_;lia⟩
def IL{A:Ar}{C:Uf}{us:T0 Vl}{kw:T0 (Str×Vl)}:(A.under (.builtin "type.__call__" ⟨.ref C::us,kw⟩)).depth=A.depth+1:=by first|rfl|simp[Around.under,Code.weight,Code.isCreation,Code.isGuard,Code.isCaller,Code.frames,Code.isFrame,guardIds]
def IH{A:Ar}{C:Uf}{us:T0 Vl}{kw:T0 (Str×Vl)}:(A.under (.builtin "type.__call__" ⟨.ref C::us,kw⟩)).units=A.units+1:=by first|rfl|simp[Around.under,Code.cUnits,Code.frames,Code.isFrame]
def sQ.make{k:Nat}(r:sQ (k+1) A)(C:Uf)(us:T0 Vl)(kw:T0 (Str×Vl)):sQ k (A.under (.builtin "type.__call__" ⟨.ref C::us,kw⟩)):=
 ⟨r.hd,by have:=r.dp;rw[IL];lia,by have:=r.un;rw[IH];lia⟩
def sQ.depth(r:sQ k A):A.depth<recursionLimit:=by have:=r.dp;lia
def sQ.units(r:sQ k A):A.units+64<W':=by have:=r.un;lia
def Uu:TA:=λ_ H Q=>Q [] H
def Vd(ta:TE)(tr:TA):TA:=λY H Q=>ta Y H λx H1=>tr Y H1 λxs H2=>Q (x::xs) H2
variable {es:T0 Go}
section
variable {e:Go}{t:TA}
def SC:PA X [] Uu:=λ_ _ _ _ H Q I h=>iL ⟨[],H,I,.nil,h⟩
def Pv(ha:PE X e te)(hr:PA X es t)(hs:Bm X e es:=by rfl):PA X (e::es) (Vd te t):=by intro pos W7 s Y H Q I h;rw[hs];show pi _ _ (spliced ((pc,wp e X.env)::At pos (Tl es X.env))) _ _ s;refine iC (tE (ha W7 s Y H _ I h) λu s1 zz=>x5 zz λx H1 I1 r1 q1=>?_);exact tE (hr pos W7 s1 Y H1 _ I1 q1) λus s2 zz=>x5 zz λxs H2 I2 r2 q2=>⟨x::xs,H2,I2,.cons r1 r2,q2⟩
def Wb(t:TA):TE:=λY H Q=>t Y H λxs H1=>xs.length<=Ch/\∀p,H1 p=Fa->Q (.ref p) (upd H1 p (.tup xs))
def VX(t:TA):TE:=λY H Q=>t Y H λxs H1=>xs.length<=Ch/\∀p,H1 p=Fa->Q (.ref p) (upd H1 p (.lst xs))
def Rm{x1}(h:PA X es t):PE X (.Tuple es x1 pos) (Wb t):=by intro W7 s Y H Q I hq;refine wpAny_Tuple_spliced (tE (h pos W7 s Y H _ I hq) λus s1 ⟨xs,H1,I1,r,z,q⟩=>⟨by rw[<-r.length];exact z,?_⟩);have hf:H1 s1.heap.objs.size=Fa:=I1.mZ.fresh (dq _);refine⟨.ref s1.heap.objs.size,upd H1 s1.heap.objs.size (.tup xs),I1.laid (t':=s1.toks) (λb u e=>df _ e) (dq _) ?_,Z',q _ hf⟩;exact⟨z,us,r,⟨_,dM _ Z',Z',⟨_,Z'⟩,Z'⟩⟩
def So(h:PA X es t):PE X (.List es pos) (VX t):=by intro W7 s Y H Q I hq;refine wpAny_List_spliced (tE (h pos W7 s Y H _ I hq) λus s1 ⟨xs,H1,I1,r,z,q⟩=>⟨by rw[<-r.length];exact z,?_⟩);have hf:H1 s1.heap.objs.size=Fa:=I1.mZ.fresh (dq _);refine⟨.ref s1.heap.objs.size,upd H1 s1.heap.objs.size (.lst xs),I1.laid (t':=s1.toks) (λb u e=>df _ e) (dq _) ?_,Z',q _ hf⟩;exact⟨z,us,0,r,dM _ Z'⟩
end
abbrev Sp:=T0 V->Hp->VK->XK->Prop
abbrev Lg:=T0 Env->Hp->Sd->XK->Vl->Sd->Prop
structure HJ(P:Pg)(w:Wo)(K:qK)(mg:QQZ)(base:No)(A:Ar)(outer:List Env)(s:Sd)(H:Hp):Prop where
 frames:A.frames=ga outer
 mod:Mod K mg base
 bs:∀b o,base.get? b=ga o->s.heap.get? b=ga o/\H b=Fa
 ou:base.objs.size<=s.heap.objs.size
 nH:s.heap.FunFrames base outer
 oB:∀b∈wW outer,H b=Fa
 mZ:yO P w H s.heap
 bare:XXi s.gens
def CE(outer:T0 Env)(P:Pg)(w:Wo)(H:Hp)(s:Sd)(Q:VK)(u:Vl)(s':Sd):Prop:=
 ∃v H',s'.os=s.os/\XXi s'.gens/\Un (wW outer) [] H H' s.heap s'.heap/\yO P w H' s'.heap/\rh v u/\Q v H'
def CR(CX:Lg)(outer:T0 Env)(P:Pg)(w:Wo)(H:Hp)(s:Sd)(Q:VK)(E:XK)(r:Result)(s':Sd):Prop:=
 match r with
 | .ok (.ret u)=>CE outer P w H s Q u s'
 | .ok _=>False
 | .error e=>CX outer H s E e s'
structure xU(P:Pg)(w:Wo)(K:qK)(mg:QQZ)(base:No)(CX:Lg)(k:Nat)(f:Uf)(fd:wv)(ps:QQQ)(sp:Sp):Prop where
 len:∀vs H Q E,sp vs H Q E->vs.length=ps.length
 run:∀(A:Ar) (outer:List Env) (s:Sd) (H:Hp) (args:Args) (us:List Vl) (vs:List V) (Q:VK) (E:XK),sQ k A->HJ P w K mg base A outer s H->BindsTo s fd args (ps.zip us)->qN vs us->sp vs H Q E->
  XXf (Tk P w) A (.call (.ref f) args) (CR CX outer P w H s Q E) s
def HJ.make{K:qK}(e:HJ P w K mg base A outer s H)(C:Uf)(us:T0 Vl)(kw:T0 (Str×Vl)):
  HJ P w K mg base (A.under (.builtin "type.__call__" ⟨.ref C::us,kw⟩)) outer s H:=⟨by first|exact e.frames|(simpa [Around.under,Code.envs,Code.isFrame,pushEnvs]using e.frames),e.mod,e.bs,e.ou,e.nH,e.oB,e.mZ,e.bare⟩
variable {s':Sd}
section
variable {Y:St}
def Inv.ow(I:Inv X W7 Y H s):HJ X.prog X.w X.K X.mg X.base X.A X.stack s H:=
 ⟨I.ok.frames,I.ok.mod,I.bs,d9 I.ok.ou I.sz,I.stack,I.nO,I.mZ,I.bare⟩
def Inv.after{Q:VK}{u:Vl}(I:Inv X W7 Y H s)(h:CE X.stack X.prog X.w H s Q u s'):EP X W7 Y Q u s':=by obtain⟨v,H',os,bare,un,mZ,r,q⟩:=h;obtain⟨hh,g,d,t,os'⟩:=s';obtain rfl:os'=s.os:=os;exact⟨v,H',I.call (h':=hh) (g':=g) (d':=d) (t':=t) (ch:=[]) un mZ bare (λb z=>absurd z (by simp)),r,q⟩
end
def UP(sp:Sp)(XY:T0 V)(E:XK)(t:TA):TE:=λY H Q=>t Y H λvs H1=>sp (vs++XY) H1 Q E
def T7(C:Uf)(sp:Sp)(XY:T0 V)(E:XK)(t:TA):TE:=λY H Q=>t Y H λvs H1=>∀x dx,H1 x=Fa->H1 dx=Fa->dx≠x->
 sp (.ref x::(vs++XY)) (upd (upd H1 dx (.own x)) x (.ins C dx [])) (λv H2=>v=.mW/\Q (.ref x) H2) E
def vq(K:qK)(fd:wv)(ps:QQQ)(ds:T0 Vl):Prop:=
 ∀(s:Sd) (us:T0 Vl),K.In s.heap->(us++ds).length=ps.length->BindsTo s fd ⟨us,[]⟩ (ps.zip (us++ds))
def vq.all{K:qK}{fd:wv}{ps:QQQ}(h:∀us:T0 Vl,us.length=ps.length->bindArgs fd ⟨us,[]⟩=pure (ps.zip us)):vq K fd ps []:=λs us _ hl=>by rw[eG]at hl ⊢;exact .of_eq (h us hl)
def Di(CX:Lg)(X:Cx)(E:XK):Prop:=∀(W7:QQY) (Y:St) (H:Hp) (s:Sd) (e:Vl) (s':Sd),Inv X W7 Y H s->CX X.stack H s E e s'->X.xe e s'
variable {CX:Lg}{k:Nat}{fd:wv}{ps:QQQ}{sp:Sp}{XY:T0 V}{ds:T0 Vl}{m:Str}{p Xa:Pos}
section
variable {f:Uf}{E:XK}{x:Str}{e o:Go}{t:TA}
def EN{W7:QQY}{Q:VK}(F:xU X.prog X.w X.K X.mg X.base CX k f fd ps sp)(hr:sQ k X.A)(hb:vq X.K fd ps ds)(hd:qN XY ds)(hx:Di CX X E) (I:Inv X W7 Y H s) (r:qN vs us) (h:sp (vs++XY) H Q E):pi (Tk X.prog X.w) X.A (call (.ref f) us) (EP X W7 Y Q) X.xe s:=by
 have r2:qN (vs++XY) (us++ds):=r.append hd;have hl:(us++ds).length=ps.length:=by rw[<-r2.length];exact F.len _ _ _ _ h
 refine iY (gT (F.run X.A X.stack s H ⟨us,[]⟩ (us++ds) (vs++XY) Q E hr I.ow (hb s us I.ny hl) r2 h) λr s' hq=>?_);cases r with
 | error e=>exact hx W7 Y H s e s' I hq
 | ok fl=>
  cases fl with
  | ret u=>exact I.after hq
  | next=>exact False.elim hq
  | brk=>exact False.elim hq
  | cont=>exact False.elim hq
def O0(F:xU X.prog X.w X.K X.mg X.base CX k f fd ps sp)(hr:sQ k X.A)(hg:Gl X x)(hm:X.mg x=ga (.ref f))(hk:W.keepIn X.K (.ref f)=Db)(hb:vq X.K fd ps ds)(hd:qN XY ds)(hx:Di CX X E) (ha:PA X (e::es) t) (Xs:zv x:=by decide) (he:Bm X e es:=by rfl) (Xp:Co X pos es:=by rfl):
  PE X (.Call (.Name x p) (e::es) [] pos) (UP sp XY E t):=by
 intro W7 s Y H Q I h;refine fX (xx I hg hm ?_ Xs);refine iZ (h₀:=X.base) I.ok.mod.oM hk (tE (ha pos W7 s Y H _ I h) λus s1 zz=>x5 zz λvs H1 I1 r q=>⟨I1.ny,?_⟩) he Xp;exact EN F hr hb hd hx I1 r q
structure Mk(K:qK)(C f:Uf):Prop where
 makes:W.makesIn K C=Db
 init:W.findIn K (.ref C) "__init__"=ga (ga (.ref f))
 fn:W.isFn K (.ref f)=Db
 kp:W.keepIn K (.ref C)=Db
def Ly{W7:QQY}{Q:VK}(M:Mk X.K C f)(F:xU X.prog X.w X.K X.mg X.base CX k f fd ps sp)(hr:sQ (k+1) X.A)(hb:vq X.K fd ps ds)(hd:qN XY ds) (hx:Di CX X E) (I:Inv X W7 Y H s) (r:qN vs us) (h:∀x dx,H x=Fa->H dx=Fa->dx≠x->sp (.ref x::(vs++XY)) (upd (upd H dx (.own x)) x (.ins C dx [])) (λv H2=>v=.mW/\Q (.ref x) H2) E):
  pi (Tk X.prog X.w) X.A (call (.ref C) us) (EP X W7 Y Q) X.xe s:=by
 have hq:=h (s.heap.objs.size+1) s.heap.objs.size (I.mZ.fresh (gS _)) (I.mZ.fresh (dq _)) (dP (fR _));have I2:=Inv.made (C:=C) I;have r2:qN (V.ref (s.heap.objs.size+1)::(vs++XY)) (Value.ref (s.heap.objs.size+1)::(us++ds)):=.cons Z' (r.append hd);have hl:(Value.ref (s.heap.objs.size+1)::us++ds).length=ps.length:=by have e:=r2.length;rw[F.len _ _ _ _ hq]at e;exact e.symm
 refine iY (LL (f:=f) I.ny M.makes M.init (ft.mp M.fn) (gT (F.run _ X.stack _ _ ⟨Value.ref (s.heap.objs.size+1)::us,[]⟩ (Value.ref (s.heap.objs.size+1)::(us++ds)) _ _ E (hr.make C us [])
  (I2.ow.make C us []) (hb _ (Value.ref (s.heap.objs.size+1)::us) I2.ny hl) r2 hq) λr s' YU=>?_))
 cases r with
 | error e=>exact hx W7 Y _ _ e s' I2 YU
 | ok fl=>
  cases fl with
  | ret u=>obtain⟨v,H',I3,rv,ev,q3⟩:=I2.after YU;subst ev;exact⟨rv,⟨V.ref (s.heap.objs.size+1),H',I3,Z',q3⟩⟩
  | next=>exact False.elim YU
  | brk=>exact False.elim YU
  | cont=>exact False.elim YU
def Py(M:Mk X.K C f)(F:xU X.prog X.w X.K X.mg X.base CX k f fd ps sp)(hr:sQ (k+1) X.A)(hg:Gl X x)(hm:X.mg x=ga (.ref C))(hb:vq X.K fd ps ds)(hd:qN XY ds)(hx:Di CX X E) (ha:PA X (e::es) t) (Xs:zv x:=by decide) (he:Bm X e es:=by rfl) (Xp:Co X pos es:=by rfl):
  PE X (.Call (.Name x p) (e::es) [] pos) (T7 C sp XY E t):=by
 intro W7 s Y H Q I h;refine fX (xx I hg hm ?_ Xs);refine iZ (h₀:=X.base) I.ok.mod.oM M.kp (tE (ha pos W7 s Y H _ I h) λus s1 zz=>x5 zz λvs H1 I1 r q=>⟨I1.ny,?_⟩) he Xp;exact Ly M F hr hb hd hx I1 r q
end
variable {g:T0 Vl→T0 Vl→T0 Vl}{gV:T0 V→T0 V→T0 V}{ks:QQQ}{kpos:Pos}{kws:T0 TW}{tk:TA}{nm:Option Str}
section
variable {f:Uf}{E:XK}{x:Str}{e o:Go}{t:TA}
end
structure tQ(N P:QQQ)(sc:XXa):Prop where
 kind:sc.kind=.function
 co:sc.isCoroutine=pc
 gen:sc.isGenerator=pc
 nd:N.Nodup
 pre:N.take P.length=P
 par:∀x∈P,sc.names.lookup x=ga .local\/sc.names.lookup x=ga .cell
 pD:∀y∈sc.names,y.2≠.free
theorem Ef{kindOf:Str->Option wP}{x:Str}:∀{binds:T0 (Str×Vl)} {m:QQZ},(∀v,(x,v)∉binds)->bindL kindOf binds m x=m x
 | [],_,_=>rfl
 | (n,v)::r,m,h=>by
  unfold bindL;rw[Ef λw hw=>h w (dE _ hw)];split
  .have:x≠n:=by rintro rfl;exact h v dO
   simp[this]
  .rfl
theorem DY{kindOf:Str->Option wP}{x:Str}:∀{binds:T0 (Str×Vl)} {m:QQZ},(∀v,(x,v)∉binds)->bindC kindOf binds m x=m x
 | [],_,_=>rfl
 | (n,v)::r,m,h=>by
  unfold bindC;rw[DY λw hw=>h w (dE _ hw)];split
  .rfl
  .have:x≠n:=by rintro rfl;exact h v dO
   simp[this]
theorem D4{kindOf:Str->Option wP}{x:Str}{v:Vl}:∀{P:QQQ} {vs:T0 Vl} {i:Nat} {m:QQZ},P.Nodup->P[i]?=ga x->vs[i]?=ga v->kindOf x=ga .local->
  bindL kindOf (P.zip vs) m x=ga v
 | [],_,_,_,_,h,_,_=>by simp at h
 | _::_,[],_,_,_,_,h,_=>by simp at h
 | p::P,w::vs,0,m,nd,h1,h2,hk=>by simp at h1 h2;subst h1;subst h2;show bindL kindOf ((p,w)::P.zip vs) m p=_;unfold bindL;rw[Ef λv hv=>(dS.mp nd).1 (jX hv).1,de hk];simp
 | p::P,w::vs,i+1,m,nd,h1,h2,hk=>by show bindL kindOf ((p,w)::P.zip vs) m x=_;unfold bindL;exact D4 (i:=i) (dS.mp nd).2 (by simpa using h1) (by simpa using h2) hk
theorem D7{kindOf:Str->Option wP}{x:Str}{v:Vl}:∀{P:QQQ} {vs:T0 Vl} {i:Nat} {m:QQZ},P.Nodup->P[i]?=ga x->vs[i]?=ga v->kindOf x≠ga .local->
  bindC kindOf (P.zip vs) m x=ga v
 | [],_,_,_,_,h,_,_=>by simp at h
 | _::_,[],_,_,_,_,h,_=>by simp at h
 | p::P,w::vs,0,m,nd,h1,h2,hk=>by simp at h1 h2;subst h1;subst h2;show bindC kindOf ((p,w)::P.zip vs) m p=_;unfold bindC;rw[DY λv hv=>(dS.mp nd).1 (jX hv).1,c9 hk];simp
 | p::P,w::vs,i+1,m,nd,h1,h2,hk=>by show bindC kindOf ((p,w)::P.zip vs) m x=_;unfold bindC;exact D7 (i:=i) (dS.mp nd).2 (by simpa using h1) (by simpa using h2) hk
noncomputable def start(N:QQQ)(vs:T0 V):St:=vs.map ga++List.replicate (N.length - vs.length) Fa
noncomputable def vR(CX:Lg)(P:Pg)(w:Wo)(K:qK)(mg:QQZ)(base:No)(N:QQQ)(qual:Str)(scope:XXa)(f:Uf)(cd:Vl)(A:Ar)(outer:T0 Env)(s:Sd)(H:Hp)(E:XK):Cx where
 prog:=P
 w:=w
 K:=K
 mg:=mg
 base:=base
 A:=A.deeper (sK qual scope s.heap.objs.size f cd)
 N:=N
 s₀:=s
 H₀:=H
 env:=sK qual scope s.heap.objs.size f cd
 outer:=outer
 stack:=sK qual scope s.heap.objs.size f cd::outer
 ex:=[]
 calm:=true
 fn:=λ_=>Db
 pn:=[]
 xe:=λe s'=>pi (Tk P w) (A.deeper (sK qual scope s.heap.objs.size f cd)) (leaving (sK qual scope s.heap.objs.size f cd) e) (λ_ ZV=>CX outer H s E e ZV) (λe' ZV=>CX outer H s E e' ZV) s'
def G7{sc:XXa}{n:Nat}{x:Str}(h:sc.names.lookup x=ga .cell):∃c,(cellsFrom n sc.names []).lookup x=ga c:=by have q:=lU sc.names n [] (.inl h);exact jG.mp q
def Kz{CX:Lg}{K:qK}{qual:Str}{f:Uf}{cd:Vl}{A:Ar}{E:XK}{vs:T0 V} (S:tQ N ps scope) (hd:A.handled=Fa) (e0:HJ P w K mg base A outer s H) (hl:vs.length=ps.length) (r:qN vs us) (x:InCallC s s.heap.objs.size (bindL (sK qual scope s.heap.objs.size f cd).kindOf (ps.zip us) λ_=>Fa) (cellsFrom (s.heap.objs.size+1) scope.names []) (bindC (sK qual scope s.heap.objs.size f cd).kindOf (ps.zip us) λ_=>Fa) s1):
  Inv (vR CX P w K mg base N qual scope f cd A outer s H E) [] (start N vs) H s1:=by
 have Xp:ps.length<=N.length:=by have:=eV List.length S.pre;rw[eF]at this;lia
 obtain⟨h1,tk,rfl,hk⟩:=x.done;have noA:∀b:Uf,b∉(vR CX P w K mg base N qual scope f cd A outer s H E).ex:=λb z=>absurd (show b∈([]:QXQ)from z) (by simp);refine⟨⟨e0.mod,S.kind,Z',Z',dq _,λy z c h1 h2=>?_,λy hy=>?_,λy c _ h=>?_,λ_=>hd,Around.frames_deeper e0.frames,.inr ⟨Z',Z'⟩,λb z=>absurd z (noA b),e0.bs,e0.ou,λb _ _=>noA b,λb z=>absurd z (noA b),e0.nH,e0.oB⟩,Z',e0.bare,Un.kept hk,⟨_,x.toInCall.ns,λi y v h1 h2 h3=>?_⟩,λy c h=>⟨_,x.cell y c h⟩,e0.mZ.fresh (dq _),λy c h=>?_,λp hp=>absurd (show p∈([]:QQY)from hp) (by simp),e0.mZ.kept hk,?_⟩
 .exact name_of_addr x.apart (gZ h1) (gZ h2)
 .have hy:scope.names.lookup y=ga .cell\/scope.names.lookup y=ga .free:=hy;rcases hy with hy|hy
  .exact G7 hy
  .exact absurd Z' (S.pD _ (gZ hy))
 .exact jE (x.above y c (gZ h))
 .have hi:i<vs.length:=by
   unfold start at h2;by_cases hi:i<vs.length
   .exact hi
   .rw[eU (by simpa using hi)]at h2;rw[jU]at h2;split at h2<;>cases h2
  have ha:vs[i]?=ga v:=by
   unfold start at h2;rw[fi (by simpa using hi),dC]at h2;cases e:vs[i]? with
   | none=>rw[e]at h2;cases h2
   | some a=>rw[e]at h2;cases h2;rfl
  obtain⟨u,hu,rv⟩:=r.get ha;have hp:ps[i]?=ga y:=by rw[<-S.pre,List.getElem?_take_of_lt (by lia)];exact h1
  have ndP:ps.Nodup:=by rw[<-S.pre];exact S.nd.sublist (List.take_sublist _ _)
  refine⟨u,rv,?_⟩;rcases S.par y (fz hp)with k|k
  .exact .inl ⟨k,D4 ndP hp hu k⟩
  .obtain⟨c,e⟩:=G7 (n:=s.heap.objs.size+1) k;refine .inr ⟨.inl k,c,e,?_⟩;have q:=x.cell y c e;rw[D7 ndP hp hu (by show scope.names.lookup y≠_;rw[k];decide)]at q;exact q
 .exact e0.mZ.fresh (jE (x.above y c (gZ h)))
 .unfold start;show _=N.length;rw[cX,cV,iV];lia
def LH{CX:Lg}{P:Pg}{w:Wo}{K:qK}{mg:QQZ}{base:No}{f:Uf}{dV kV XM pm Xi ct oc:Vl}{an od:Option Uf} {X7:Array (Option Vl)} {N ps:QQQ} {sp:Sp} (lk:K.lookup f=ga ⟨oc,od,.func (W.fnOf name qual params body scope dV kV XM pm an Xi ct),X7⟩) (Yp:W.codeIn K Xi qual=Db) (S:tQ N ps scope) (len:∀vs H Q E,sp vs H Q E->vs.length=ps.length) (Xu:∀(A:Ar) (outer:T0 Env) (s:Sd) (H:Hp) (vs:T0 V) (Q:VK) (E:XK),sQ k (A.deeper (sK qual scope s.heap.objs.size f Xi))->sp vs H Q E->
   ∃t,BY (vR CX P w K mg base N qual scope f Xi A outer s H E) body t/\t {nx:=λ_ H'=>Q .mW H',rt:=Q} (start N vs) H):
  xU P w K mg base CX (k+1) f (W.fnOf name qual params body scope dV kV XM pm an Xi ct) ps sp:=by
 refine⟨len,λA outer s H args us vs Q E hr e0 hb r YF=>?_⟩;have hl:=len _ _ _ _ YF;have KX:K.In s.heap:=e0.mod.oM.keeps λb o e=>(e0.bs b o e).1;have lim:s.heap.NoLimit:=e0.mod.nolimit.keeps λb o e=>(e0.bs b o e).1;have hkind:∀y∈ps.zip us,scope.names.lookup y.1=ga .local\/(scope.names.lookup y.1=ga .cell/\((cellsFrom (s.heap.objs.size+1) scope.names []).lookup y.1).isSome=Db):=λ⟨n,v⟩ hy=>by
  rcases S.par n (jX hy).1 with q|q
  .exact .inl q
  .exact .inr ⟨q,lU _ _ _ (.inl q)⟩
 refine codeAny_call_function hr.depth (KX _ _ lk) Z' S.co S.gen Z' (W.codeRec_of KX Yp) (hb _ _ _ _ ?_);refine wpAny_newFunctionEnv_cells S.kind hkind λenv he s1 x=>?_;subst he;refine⟨lim.keeps x.toInCall.keep,codeAny_func ?_⟩;obtain⟨t,ht,hq⟩:=Xu A outer s H vs Q E (hr.deeper _) YF;have I:Inv (vR CX P w K mg base N qual scope f Xi A outer s H E) [] (start N vs) H s1:=Kz S hr.hd e0 hl r x;refine eD (ht [] s1 (start N vs) H _ I hq) (λfl s' hs=>?_) λe s' hs=>hs;have Xc:∀{σ':St} {H':Hp} {v:V} {u:Vl},Inv (vR CX P w K mg base N qual scope f Xi A outer s H E) [] σ' H' s'->rh v u->Q v H'->CE outer P w H s Q u s':=
  λ{σ' H' v u} J rv q=>⟨v,H',J.os,J.bare,J.base,J.mZ,rv,q⟩
 cases fl with
 | ret u=>obtain⟨v,σ',H',J,rv,q⟩:=hs;exact Xc J rv q
 | next=>obtain⟨σ',H',J,q⟩:=hs;exact Xc (v:=V.mW) (u:=Value.none) J Z' q
 | brk=>obtain⟨_,_,_,q⟩:=hs;exact False.elim q
 | cont=>obtain⟨_,_,_,q⟩:=hs;exact False.elim q
variable {id T:String}{r:T0 V→Hp→VK→Prop}
section
variable {x:Str}{e:Go}{t:TA}
def WO(r:T0 V->Hp->VK->Prop)(t:TA):TE:=λY H Q=>t Y H λvs H1=>r vs H1 Q
def NA(hc:zY X (.builtin id) r)(hg:Gl X x)(hm:X.mg x=Fa)(hv:zn x=ga (.builtin id))(ha:PA X (e::es) t)(hn:x≠"__name__":=by decide)(Xs:zv x:=by decide)
  (he:Bm X e es:=by rfl) (Xp:Co X pos es:=by rfl):PE X (.Call (.Name x p) (e::es) [] pos) (WO r t):=by
 intro W7 s Y H Q I h;refine fX (xN I hg hm hv ?_ hn Xs);exact hJ (tE (ha pos W7 s Y H _ I h) λus s1 zz=>x5 zz λvs H1 I1 r1 q1=>hc W7 s1 Y H1 vs us Q I1 r1 q1) he Xp
def KU(hc:zY X (.type T) r)(hg:Gl X x)(hm:X.mg x=Fa)(hv:zn x=ga (.type T))(ha:PA X (e::es) t)(hn:x≠"__name__":=by decide)(Xs:zv x:=by decide)
  (he:Bm X e es:=by rfl) (Xp:Co X pos es:=by rfl):PE X (.Call (.Name x p) (e::es) [] pos) (WO r t):=by
 intro W7 s Y H Q I h;refine fX (xN I hg hm hv ?_ hn Xs);exact gf (tE (ha pos W7 s Y H _ I h) λus s1 zz=>x5 zz λvs H1 I1 r1 q1=>hc W7 s1 Y H1 vs us Q I1 r1 q1) he Xp
end
end L2
namespace HT
open PySem PyProof.Rows
section
open PySem.SeqAt
open PySem.AutoSeq1 (wpAny_loadPart')
open PySem.MeetsSeq PySem.MeetsSeq2 PySem.MeetsSeq3
end
variable {prog:Pg}{w:Wo}{A:Ar}{E:QQX}{s:Sd}
def O1{vs ws:T0 Vl}{Q:QQX}(ht:IsTup s.heap t vs.toArray)(hb:IsTup s.heap b ws.toArray)(hv:vs≠[]) (h1:ws=[]->Q (.ref t) s) (h2:ws≠[]->Q (.ref s.heap.objs.size) {s with heap:=s.heap.push {cls:=.type "tuple",data:=.seq (vs++ws).toArray}})
  (hsz:vs.length+ws.length<=Ch):pi (Tk prog w) A (IN .Add (.ref t) (.ref b)) Q E s:=by
 obtain⟨⟨cls,dd,data,sl⟩,ho,hc,n,hd⟩:=id ht;obtain⟨⟨cls2,dd2,data2,sl2⟩,ho2,hc2,n2,hd2⟩:=id hb;simp only at hc hd hc2 hd2;subst hc hd hc2 hd2;have e:vs.toArray++ws.toArray=(vs++ws).toArray:=by simp
 by_cases hw:ws=[]
 .exact kU ⟨_,ho,Z'⟩ ⟨_,ho2,Z'⟩ lV seq_tuple_add j6 jV (jI _ _)
   (tuple_addW1 t b vs.toArray ws.toArray n n2 dd dd2 sl sl2 (by simpa using hv) (by simp[hw])) ⟨ho,ho2,h1 hw⟩
 .refine kU ⟨_,ho,Z'⟩ ⟨_,ho2,Z'⟩ lV seq_tuple_add j6 jV (jI _ _)
   (tuple_addW2 t b vs.toArray ws.toArray n n2 dd dd2 sl sl2 (by simpa using hv) (by simpa using hw) (by rw[dz,dz];exact hsz)) ⟨ho,ho2,?_⟩
  rw[e];exact h2 hw
noncomputable def tS(n d:Nat):Option Int->Nat
 | none=>d
 | some v=>if v<0 then(v+(n:Int)).toNat else min v.toNat n
def BU(n d:Nat):tS n d Fa=d:=rfl
def Jw(n d k:Nat):tS n d (ga (k:Int))=min k n:=by show(if (k:Int)<0 then((k:Int)+(n:Int)).toNat else min (k:Int).toNat n)=min k n;rw[c9 (by lia),jv]
def Ra(n d:Nat)(hd:d<=n)(o:Option Int):tS n d o<=n:=by
 cases o with
 | none=>exact hd
 | some v=>
  show(if v<0 then(v+(n:Int)).toNat else min v.toNat n)<=n;by_cases hv:v<0
  .rw[de hv];lia
  .rw[c9 hv];exact Nat.min_le_right _ _
def Jg(v:Int)(n d:Nat):(if v<0 then max (v+(n:Int)) 0 else min v (n:Int))=((tS n d (ga v):Nat):Int):=by
 show(if v<0 then max (v+(n:Int)) 0 else min v (n:Int))=(((if v<0 then(v+(n:Int)).toNat else min v.toNat n):Nat):Int);by_cases hv:v<0
 .simp only[de hv];lia
 .simp only[c9 hv];lia
def HF(lo hi:Option Int)(n:Nat):Builtin.Slice.sliceAdjust lo hi 1 (n:Int)=(((tS n 0 lo:Nat):Int),((tS n n hi:Nat):Int)):=by
 have h1:¬((1:Int)<0):=by lia
 unfold Builtin.Slice.sliceAdjust;simp only[h1,ku];refine mD ?_ ?_
 .cases lo with
  | none=>rfl
  | some v=>exact Jg v n 0
 .cases hi with
  | none=>rfl
  | some v=>exact Jg v n n
def IT(i j:Nat):Builtin.Slice.slicePlaces (i:Int) (j:Int) 1=j - i:=by
 unfold Builtin.Slice.slicePlaces;have h1:(1:Int)>0:=by lia
 simp only[h1,jk,Int.ediv_one];split<;>lia
def Cg{Q:Option Int->Sd->Prop}(p:IsPart v o)(h:Q o s):pi (Tk prog w) A (Builtin.Slice.slicePartIndex v) Q E s:=by
 cases p with
 | none=>exact slicePart_none h
 | int i t=>exact slicePart_int h
def xg{sl:Uf}{vl vu:Vl}{lo hi:Option Int}{Q:Int×Int×Nat->Sd->Prop}(hs:s.heap.IsSliceOf sl vl vu .none)(pl:IsPart vl lo)(pu:IsPart vu hi) (h:Q (((tS n 0 lo:Nat):Int),1,tS n n hi - tS n 0 lo) s):pi (Tk prog w) A (Builtin.Slice.sliceApplied (.ref sl) (pure (n:Int))) Q E s:=by
 obtain⟨os,ZW,ZC,Yr⟩:=id hs;unfold Builtin.Slice.sliceApplied Builtin.Slice.sliceFields;refine cW (cW (fu ZW Yr (x:=vl) Z' (cW (fu ZW Yr (x:=vu) Z' (cW (fu ZW Yr (x:=.none) Z' (dv ?_)))))));refine cW (slicePart_none ?_);show pi _ _ (if ((1:Int)==0)=Db then _ else _) _ _ s;rw[c9 (by decide)];refine cW (Cg pl (cW (Cg pu (cW (dv ?_)))));show pi _ _ (match Builtin.Slice.sliceAdjust lo hi 1 (n:Int)with|(lo,hi)=>pure (lo,(1:Int),Builtin.Slice.slicePlaces lo hi 1)) _ _ s;rw[HF lo hi n];show pi _ _ (pure (((tS n 0 lo:Nat):Int),(1:Int),Builtin.Slice.slicePlaces ((tS n 0 lo:Nat):Int) ((tS n n hi:Nat):Int) 1)) _ _ s;rw[IT];exact dv h
def MW(xs:Array Vl)(i k:Nat):((List.range k).filterMap λ(m:Nat)=>xs[((i:Int)+(m:Int)*1).toNat]?).toArray=((xs.toList.drop i).take k).toArray:=by
 have e:(λ(m:Nat)=>xs[((i:Int)+(m:Int)*1).toNat]?)=λm=>xs[i+m]?:=by
  funext m;have:((i:Int)+(m:Int)*1).toNat=i+m:=by lia
  rw[this]
 rw[e];have:=pick_run xs i k;rw[List.filterMap_map]at this;have e2:((λx=>xs[x]?)∘λx=>i+x)=λm=>xs[i+m]?:=rfl;rw[e2]at this;rw[this]
def Ag{t sl:Uf}{vl vu:Vl}{lo hi:Option Int}{Q:QQX}(ht:IsTup s.heap t W8)(hs:s.heap.IsSliceOf sl vl vu .none)(pl:IsPart vl lo)(pu:IsPart vu hi) (hw:¬(tS W8.size 0 lo=0/\tS W8.size W8.size hi=W8.size)) (h:Q (.ref s.heap.objs.size) {s with heap:=s.heap.push {cls:=.type "tuple",data:=.seq ((W8.toList.drop (tS W8.size 0 lo)).take (tS W8.size W8.size hi - tS W8.size 0 lo)).toArray}})
  (hsz:W8.size<=Ch):pi (Tk prog w) A (XXb (.ref t) (.ref sl)) Q E s:=by
 have Yx:sizeOk (.seq ((W8.toList.drop (tS W8.size 0 lo)).take (tS W8.size W8.size hi - tS W8.size 0 lo)).toArray):=by show((W8.toList.drop (tS W8.size 0 lo)).take (tS W8.size W8.size hi - tS W8.size 0 lo)).toArray.size<=Ch;rw[dz,eF,fY,iu];lia
 have hj:tS W8.size W8.size hi<=W8.size:=Ra _ _ (dq _) hi;obtain⟨os,ZW,ZC,Yr⟩:=id hs;have hTs:s.TypeIs (.ref sl) "slice":=⟨os,ZW,ZC⟩;unfold XXb
 try with_reducible refine fh ?_
 first|refine cW (dv ?_)|skip
 refine cW (jw ht.typeIs (by decide) ?_);refine cW (fQ (name:=Str.ofString "__getitem__") ht.typeIs fE
  (fZ fE ht.typeIs kH ?_ (kW _ _)))
 show pi _ _ (Builtin.Tuple.tupleItemsOf (.ref t)>>=_) _ _ s;refine cW (tupleItemsOf_ ht ?_);refine cW (jJ hTs ?_);rw[de (by decide)];refine cW (xg hs pl pu ?_);have hno:¬((((tS W8.size 0 lo:Nat):Int)==0&&(1:Int)==1&&(tS W8.size W8.size hi - tS W8.size 0 lo)==W8.size)=Db):=by intro q;rw[dU,dU]at q;have q1:((tS W8.size 0 lo:Nat):Int)=0:=Ix q.1.1;have q2:tS W8.size W8.size hi - tS W8.size 0 lo=W8.size:=Ix q.2;exact hw ⟨by lia,by lia⟩
 show pi _ _ (if (((tS W8.size 0 lo:Nat):Int)==0&&(1:Int)==1&&(tS W8.size W8.size hi - tS W8.size 0 lo)==W8.size)=Db then _ else _) _ _ s;rw[c9 hno,MW]
 first
  | exact cW (m:=Builtin.Tuple.tupleExact _) (gc (dv ⟨_,rfl,dv h⟩) Yx)
  | exact cW (m:=Builtin.Tuple.tupleExact _) (gc (cW (dv (dv ⟨_,rfl,dv h⟩))) Yx)
  | exact cW (cW (m:=Builtin.Tuple.tupleExact _) (gc (dv (dv ⟨_,rfl,dv h⟩)) Yx))
  | exact cW (cW (m:=Builtin.Tuple.tupleExact _) (gc (dv ⟨_,rfl,dv h⟩) Yx))
end HT
namespace L2
abbrev TO:=St->Hp->(Option Int->Hp->Prop)->Prop
def PO(X:Cx)(e:Option Go)(t:TO):Prop:=
 ∀(W7:QQY) (s:Sd) (Y:St) (H:Hp) (Q:Option Int->Hp->Prop),Inv X W7 Y H s->t Y H Q->
  pi (Tk X.prog X.w) X.A (evalPart e X.env) (λu s'=>∃o H',Inv X W7 Y H' s'/\IsPart u o/\Q o H') X.xe s
def O8:TO:=λ_ H Q=>Q Fa H
def TX(t:TE):TO:=λY H Q=>t Y H λx H1=>∃i,x=.int i/\Q (ga i) H1
variable {X:Cx}{e:Go}{te:TE}{lo hi:Option Go}{tl th:TO}{pos p2:Pos}
def Qa:PO X Fa O8:=by intro W7 s Y H Q I h;rw[evalPart_none];exact dv ⟨Fa,H,I,.none,h⟩
def Pm(h:PE X e te):PO X (ga e) (TX te):=by intro W7 s Y H Q I hw;rw[evalPart_some];refine tE (h W7 s Y H _ I hw) λu s1 zz=>x5 zz λx H1 I1 r1 q1=>?_;obtain⟨i,rfl,q⟩:=q1;obtain⟨t,rfl⟩:=r1;exact⟨ga i,H1,I1,.int i t,q⟩
def U4(X:Cx)(r:V->Option Int->Option Int->Hp->VK->Prop):Prop:=
 ∀(W7:QQY) (s:Sd) (Y:St) (H:Hp) (x:V) (v vl vu:Vl) (lo hi:Option Int) (sl:Uf) (Q:VK),Inv X W7 Y H s->rh x v->s.heap.IsSliceOf sl vl vu .none->IsPart vl lo->IsPart vu hi->r x lo hi H Q->
  ∃T id,typeLookup (.type T) "__getitem__"=pure (ga (.builtin id))/\s.TypeIs v T/\pi (Tk X.prog X.w) X.A (XXb v (.ref sl)) (EP X W7 Y Q) X.xe s
def WS(r:V->Option Int->Option Int->Hp->VK->Prop)(te:TE)(tl th:TO):TE:=λY H Q=>te Y H λx H1=>tl Y H1 λl H2=>th Y H2 λu H3=>r x l u H3 Q
def LO(hr:U4 X r)(he:PE X e te)(hl:PO X lo tl)(hu:PO X hi th):PE X (.Subscript e (.Slice lo hi Fa p2) pos) (WS r te tl th):=by intro W7 s Y H Q I h;refine Subscript_ (tE (he W7 s Y H _ I h) λv s1 zz=>x5 zz λx H1 I1 r1 q1=>?_);refine wpAny_Slice (tE (hl W7 s1 Y H1 _ I1 q1) λvl s2 zz=>x5 zz λl H2 I2 pl q2=>tE (hu W7 s2 Y H2 _ I2 q2) λvu s3 zz=>x5 zz λu H3 I3 pu q3=>?_);rw[evalPart_none];refine dv ?_;have I4:Inv X W7 Y H3 {s3 with heap:=s3.heap.push {cls:=.type "slice",data:=.fields #[vl,vu,.none]}}:=I3.kept (t':=s3.toks) λb ob q=>df _ q;obtain⟨T,id,hT,ht,hg⟩:=hr W7 {s3 with heap:=s3.heap.push {cls:=.type "slice",data:=.fields #[vl,vu,.none]}} Y H3 x v vl vu l u s3.heap.objs.size Q I4 r1 (mM ..) pl pu q3;show pi (Tk X.prog X.w) X.A (subscriptTail e (.Slice lo hi Fa p2) v (.ref s3.heap.objs.size)) (EP X W7 Y Q) X.xe {s3 with heap:=s3.heap.push {cls:=.type "slice",data:=.fields #[vl,vu,.none]}};exact tail_any (ops:=[.ref s3.heap.objs.size,v]) ht hT hg (by with_unfolding_all rfl)
noncomputable def C4(xs:T0 V)(lo hi:Option Int):T0 V:=(xs.drop (HT.tS xs.length 0 lo)).take (HT.tS xs.length xs.length hi - HT.tS xs.length 0 lo)
def AO(xs:T0 V)(lo hi:Option Int):(C4 xs lo hi).length<=xs.length:=by unfold C4;rw[eF,fY];lia
def VP(K:qK):V->Option Int->Option Int->Hp->VK->Prop:=λx lo hi H Q=>∃a xs,x=.ref a/\vM K H a xs/\
 ¬(HT.tS xs.length 0 lo=0/\HT.tS xs.length xs.length hi=xs.length)/\∀p,H p=Fa->Q (.ref p) (upd H p (.tup (C4 xs lo hi)))
def RB:U4 X (VP X.K):=by
 intro W7 s Y H x v vl vu lo hi sl Q I rx hs pl pu h;obtain⟨a,xs,rfl,hx,hw,q⟩:=h;cases rx;obtain⟨its,r,ht,hz⟩:=I.tuple hx;have Xd:its.toArray.size=xs.length:=by rw[dz];exact r.length.symm
 refine⟨"tuple",_,fE.lookup,ht.typeIs,?_⟩;refine HT.Ag ht hs pl pu (by rw[Xd];exact hw) ?_ (by rw[Xd];exact hz);rw[Xd];refine⟨.ref s.heap.objs.size,_,I.laid (t':=s.toks) (o:=.tup (C4 xs lo hi)) (λb ob q=>df _ q) (dq _) ?_,Z',q _ (I.mZ.fresh (dq _))⟩;exact⟨d9 (AO xs lo hi) hz,_,(r.drop (HT.tS xs.length 0 lo)).take (HT.tS xs.length xs.length hi - HT.tS xs.length 0 lo),FP.new _ _⟩
def TF(K:qK):R2:=λx y H Q=>∃a b xs ys,x=.ref a/\y=.ref b/\vM K H a xs/\vM K H b ys/\xs≠[]/\xs.length+ys.length<=Ch/\
 (ys=[]->Q (.ref a) H)/\(ys≠[]->∀p,H p=Fa->Q (.ref p) (upd H p (.tup (xs++ys))))
def qN.nV(r:qN xs us):us=[]↔xs=[]:=by
 cases r with
 | nil=>simp
 | cons _ _=>simp
def QF:yo X (IN .Add) (TF X.K):=by intro W7 s Y H x y v u Q I rx ry h;obtain⟨a,b,xs,ys,rfl,rfl,ha,hb,hx,hz,q1,q2⟩:=h;cases rx;cases ry;obtain⟨its,r1,p1,_⟩:=I.tuple ha;obtain⟨its2,r2,p2,_⟩:=I.tuple hb;refine HT.O1 p1 p2 (λz=>hx (r1.nV.mp z)) (λz=>⟨.ref a,H,I,Z',q1 (r2.nV.mp z)⟩) (λz=>?_) (by rw[<-r1.length,<-r2.length];exact hz);refine⟨.ref s.heap.objs.size,_,I.laid (t':=s.toks) (o:=.tup (xs++ys)) (λb ob q=>df _ q) (dq _) ?_,Z',q2 (λw=>z (r2.nV.mpr w)) _ (I.mZ.fresh (dq _))⟩;exact⟨by rw[cX];exact hz,_,r1.append r2,FP.new _ _⟩
noncomputable def Ht(n:Nat)(i:Int):Option Nat:=if 0<=i then(if i<n then ga i.toNat else Fa)else if -(n:Int)<=i then ga (i+n).toNat else Fa
noncomputable def wX{α:Type}(xs:List α)(i:Int):Option α:=(Ht xs.length i).bind λj=>xs[j]?
def Jv{j:Nat}(h:Ht n i=ga j):seqIndex? i n=ga j/\j<n/\-(n:Int)<=i/\i<n:=by
 unfold Ht at h;by_cases h0:0<=i
 .rw[de h0]at h;by_cases h1:i<n
  .rw[de h1]at h;have e:i.toNat=j:=dg h;exact⟨by rw[lL h0 h1,e],by lia,by lia,h1⟩
  .rw[c9 h1]at h;cases h
 .rw[c9 h0]at h;by_cases h1:-(n:Int)<=i
  .rw[de h1]at h;have e:(i+n).toNat=j:=dg h;exact⟨by rw[kX (by lia) h1,e],by lia,h1,by lia⟩
  .rw[c9 h1]at h;cases h
def EO{α:Type}{xs:List α}{i:Int}{v:α}(h:wX xs i=ga v):∃j,seqIndex? i xs.length=ga j/\xs[j]?=ga v/\j<xs.length/\-(xs.length:Int)<=i/\i<xs.length:=by
 unfold wX at h;cases e:Ht xs.length i with
 | none=>rw[e]at h;cases h
 | some j=>rw[e]at h;obtain⟨h1,h2,h3,h4⟩:=Jv e;exact⟨j,h1,h,h2,h3,h4⟩
def uB{α:Type}{xs:List α}{j:Nat}{v:α}(h:xs[j]?=ga v):wX xs (j:Int)=ga v:=by
 have hj:j<xs.length:=(cZ.mp h).1;have e:Ht xs.length (j:Int)=ga j:=by unfold Ht;rw[de (by lia),de (by lia)];simp
 unfold wX;rw[e];exact h
def BF(b:Go):Prop:=∀o i,subscripted b pc o i=operate [o,i] (XXb o i)
def Ts(X:Cx)(r:R2):Prop:=
 ∀(value Xk:Go) (W7:QQY) (s:Sd) (Y:St) (H:Hp) (x y:V) (v u:Vl) (Q:VK),Inv X W7 Y H s->rh x v->rh y u->r x y H Q->
  subscripted Xk pc v u=operate [v,u] (XXb v u)->pi (Tk X.prog X.w) X.A (subscriptTail value Xk v u) (EP X W7 Y Q) X.xe s
def WP(X:Cx)(id:String)(r:V->T0 V->Hp->VK->Prop):Prop:=
 ∀(W7:QQY) (s:Sd) (Y:St) (H:Hp) (x:V) (xs:T0 V) (v:Vl) (us:T0 Vl) (Q:VK),Inv X W7 Y H s->rh x v->qN xs us->r x xs H Q->
  pi (Tk X.prog X.w) X.A (call (.builtin id) (v::us)) (EP X W7 Y Q) X.xe s
variable {o:Go}{es:T0 Go}{to:TE}{t:TA}{name:Str}{Xa Xf:Pos}{T id:String}{r:V→T0 V→Hp→VK→Prop}{a:Go}{ta tb:TE}
section
variable {b:Go}
def NZ{r:R2}(hr:Ts X r)(ha:PE X a ta)(hb:PE X b tb)(hs:BF b):PE X (.Subscript a b pos) (UN r ta tb):=by intro W7 s Y H Q I h;exact Subscript_ (Rc ha hb I h λv u s2 x y H2 I2 rx ry q=>hr a b W7 s2 Y H2 x y v u Q I2 rx ry q (hs _ _))
def Wf(K:qK):R2:=λx y H Q=>∃p xs i v,x=.ref p/\y=.int i/\zu K H p xs/\wX xs i=ga v/\Q v H
def V7(K:qK):R2:=λx y H Q=>∃p xs i v,x=.ref p/\y=.int i/\vM K H p xs/\wX xs i=ga v/\Q v H
def VO:R2:=λx y H Q=>∃z i c,x=.str z/\y=.int i/\z.length<=Ch/\wX z.cps.toList i=ga c/\Q (.str ⟨#[c]⟩) H
def J1:Ts X (Wf X.K):=by
 intro value Xk W7 s Y H x y v u Q I rx ry h hs;obtain⟨p,xs,i,z,rfl,rfl,hq,he,q⟩:=h;cases rx;obtain⟨t,rfl⟩:=ry;obtain⟨its,r,pl,hz⟩:=I.list hq;obtain⟨j,h1,h2,h3,h4,h5⟩:=EO he;obtain⟨w,ew,YV⟩:=r.get h2;have hl:=r.length;have hn:=zm;have Xc:EP X W7 Y Q w s:=⟨z,H,I,YV,q⟩;by_cases h0:0<=i
 .have hj:i.toNat=j:=by rw[lL h0 h5]at h1;exact dg h1
  exact item_listR pl.isList h0 (by lia) (by rw[hj];simpa using ew) Xc hs
 .have hj:(i+(its.toArray.size:Int)).toNat=j:=by rw[kX (by lia) h4]at h1;rw[dz,<-hl];exact dg h1
  exact j7 (x:=w) pl.isList.typeIs lB.lookup
   (wpAny_getItem_list_neg (Q:=λr s'=>r=w/\EP X W7 Y Q r s') pl.isList (by lia) (by rw[dz]<;>lia) (by lia) (by rw[hj];simpa using ew) ⟨Z',Xc⟩) hs
def RI:Ts X (V7 X.K):=by
 intro value Xk W7 s Y H x y v u Q I rx ry h hs;obtain⟨p,xs,i,z,rfl,rfl,hq,he,q⟩:=h;cases rx;obtain⟨t,rfl⟩:=ry;obtain⟨its,r,pl,hz⟩:=I.tuple hq;obtain⟨j,h1,h2,h3,h4,h5⟩:=EO he;obtain⟨w,ew,YV⟩:=r.get h2;have hl:=r.length;have hn:=zm;have Xc:EP X W7 Y Q w s:=⟨z,H,I,YV,q⟩;exact j7 (x:=w) pl.typeIs slot_tuple_getitem.lookup
  (getItem_tuple (j:=j) (Q:=λr s'=>r=w/\EP X W7 Y Q r s') pl (by lia) (by lia) (by rw[dz,<-hl];exact h1) (by simpa using ew) ⟨Z',Xc⟩) hs
def SK:Ts X VO:=by
 intro value Xk W7 s Y H x y v u Q I rx ry h hs;obtain⟨z,i,c,rfl,rfl,hz,he,q⟩:=h;obtain⟨t,rfl⟩:=rx;obtain⟨t',rfl⟩:=ry;obtain⟨j,h1,h2,h3,h4,h5⟩:=EO he;have hl:z.cps.toList.length=z.length:=by simp[Str.length]
 rw[hl]at h1 h4 h5;have hn:=zm;exact tail_any (typeIs_str s z t) slot_str_getitem.lookup (getItem_str (c:=c) (by
  have e1:decide (i< -(2 ^ 63:Int))=pc:=eY (by lia);have e2:decide (i>=2 ^ 63)=pc:=eY (by lia);rw[e1,e2,kE]) (by rw[h1];simpa using h2) ⟨.str ⟨#[c]⟩,H,I.tok _,⟨_,Z'⟩,q⟩) hs
def Iy(its:T0 Vl)(n j:Nat)(u:Vl):Obj.mapSeq (·.setIfInBounds j u) {cls:=.type "list",data:=.seq its.toArray n}={cls:=.type "list",data:=.seq (its.set j u).toArray n}:=by simp[Obj.mapSeq]
def Inv.lst{p:Uf}{xs:T0 V}(I:Inv X W7 Y H s)(h:H p=ga (.lst xs)):
  ∃(its:T0 Vl) (n:Nat),qN xs its/\s.heap.get? p=ga {cls:=.type "list",data:=.seq its.toArray n}/\xs.length<=Ch:=by
 obtain⟨z,its,n,r,e⟩:=I.mZ p _ h;exact⟨its,n,r,e,z⟩
def Inv.oN{p:Uf}{xs ys:T0 V}{its its':T0 Vl}{n n':Nat}{f:Obj->Obj}(I:Inv X W7 Y H s)(h:H p=ga (.lst xs)) (ho:s.heap.get? p=ga {cls:=.type "list",data:=.seq its.toArray n}) (hf:f {cls:=.type "list",data:=.seq its.toArray n}={cls:=.type "list",data:=.seq its'.toArray n'}) (r:qN ys its') (hz:ys.length<=Ch) (t:Nat):
  Inv X W7 Y (upd H p (.lst ys)) {s with heap:=s.heap.update p f,toks:=t}:=by
 have e:(s.heap.update p f).get? p=ga {cls:=.type "list",data:=.seq its'.toArray n'}:=by rw[fN f ho (by rw[hf]<;>rfl),hf]
 refine I.write (x:=p) (e:=p) (by rw[h];trivial) (.inl Z') (λb u hb q=>(gk _ _ (dQ hb)).trans q) ⟨_,e⟩ ?_;exact⟨hz,its',n',r,e⟩
def UR:V->V->V->Hp->(Hp->Prop)->Prop:=λo i v H Q=>∃p xs k j,o=.ref p/\i=.int k/\H p=ga (.lst xs)/\Ht xs.length k=ga j/\Q (upd H p (.lst (xs.set j v)))
def Mz:UX X UR:=by
 intro W7 s Y H o i v ov iv u Q I ro ri rv h;obtain⟨p,xs,k,j,rfl,rfl,hp,hj,q⟩:=h;cases ro;obtain⟨t,rfl⟩:=ri;obtain⟨its,n,r,ho,hz⟩:=I.lst hp;obtain⟨h1,h2,h3,h4⟩:=Jv hj;have hl:=r.length;have hn:=zm;have I':Inv X W7 Y (upd H p (.lst (xs.set j v))) {s with heap:=s.heap.update p (Obj.mapSeq (·.setIfInBounds j u))}:=
  I.oN hp ho (Iy its n j u) (r.set rv j) (by rw[iw];exact hz) s.toks
 by_cases h0:0<=k
 .have hk:k.toNat=j:=by rw[lL h0 h4]at h1;exact dg h1
  exact W.ki_setAt ho h0 (by lia) (by rw[dz,<-hl];exact h4) (by rw[hk];exact⟨_,I',q⟩)
 .have hk:(k+(its.toArray.size:Int)).toNat=j:=by rw[kX (by lia) h3]at h1;rw[dz,<-hl];exact dg h1
  exact W.ki_setBack ho (by lia) (by rw[dz,<-hl];exact h3) (by lia) (by rw[hk];exact⟨_,I',q⟩)
def FK(lo hi:Option Int)(n:Nat):(XXc lo hi Fa n).1=((HT.tS n 0 lo:Nat):Int)/\(XXc lo hi Fa n).2.1=((HT.tS n n hi:Nat):Int)/\(XXc lo hi Fa n).2.2=1:=by
 refine⟨?_,?_,Z'⟩
 .cases lo with
  | none=>simp[XXc,HT.tS]
  | some i=>
   simp only[XXc,HT.tS,lW,show(1:Int)>0 by decide,jk];by_cases h:i<0
   .simp only[h,jk]<;>lia
   .simp only[h,ku]<;>lia
 .cases hi with
  | none=>simp[XXc,HT.tS]
  | some i=>
   simp only[XXc,HT.tS,lW,show(1:Int)>0 by decide,jk];by_cases h:i<0
   .simp only[h,jk]<;>lia
   .simp only[h,ku]<;>lia
def DO(its:T0 Vl)(lo hi:Option Int):slicePick its.toArray lo hi Fa=((its.drop (HT.tS its.length 0 lo)).take (HT.tS its.length its.length hi - HT.tS its.length 0 lo)).toArray:=by obtain⟨h1,h2,h3⟩:=FK lo hi its.toArray.size;unfold slicePick;rw[h1,h2,h3];simp only[sliceRange_one,pick_run,dz]<;>rfl
def VT(K:qK):V->Option Int->Option Int->Hp->VK->Prop:=λx lo hi H Q=>∃a xs,x=.ref a/\zu K H a xs/\∀p,H p=Fa->Q (.ref p) (upd H p (.lst (C4 xs lo hi)))
def JT:U4 X (VT X.K):=by intro W7 s Y H x v vl vu lo hi sl Q I rx hs pl pu h;obtain⟨a,xs,rfl,hx,q⟩:=h;cases rx;obtain⟨its,r,ht,hz⟩:=I.list hx;have Xd:=r.length;refine⟨"list",_,lB.lookup,ht.isList.typeIs,?_⟩;refine wpAny_getItem_list_slice ht.isList hs pl pu .none (by simp) ?_ (by rw[dz]<;>lia);rw[DO,<-Xd];refine⟨.ref s.heap.objs.size,_,I.laid (t':=s.toks) (o:=.lst (C4 xs lo hi)) (λb ob q=>df _ q) (dq _) ?_,Z',q _ (I.mZ.fresh (dq _))⟩;exact⟨d9 (AO xs lo hi) hz,_,0,(r.drop (HT.tS xs.length 0 lo)).take (HT.tS xs.length xs.length hi - HT.tS xs.length 0 lo),dM _ Z'⟩
noncomputable def yQ:V->Bool
 | .mW=>Db
 | .bl _=>Db
 | .int _=>Db
 | .str _=>Db
 | _=>pc
noncomputable def Ob:V->V->Bool
 | .mW,.mW=>Db
 | .bl a,.bl b=>a==b
 | .bl a,.int b=>(if a then 1 else 0)==b
 | .int a,.bl b=>a==(if b then 1 else 0)
 | .int a,.int b=>a==b
 | .str a,.str b=>a==b
 | _,_=>pc
def RE(ry:rh y u)(rx:rh x v)(fy:yQ y=Db)(fx:yQ x=Db):SeqAt.EqAt A s u v (Ob y x):=by
 cases y with
 | mW=>
  cases ry;cases x with
  | mW=>cases rx;exact SeqAt.EqAt.same _
  | bl b=>cases rx;exact SeqAt.EqAt.none_bool b
  | int b=>obtain⟨t,rfl⟩:=rx;exact SeqAt.EqAt.none_int b t
  | str b=>obtain⟨t,rfl⟩:=rx;exact SeqAt.EqAt.none_str b t
  | _=>exact absurd (show pc=Db from fx) dw
 | bl a=>
  cases ry;cases x with
  | mW=>cases rx;exact SeqAt.EqAt.bool_none a
  | bl b=>cases rx;exact SeqAt.EqAt.bool_bool a b
  | int b=>obtain⟨t,rfl⟩:=rx;exact SeqAt.EqAt.bool_int a b t
  | str b=>obtain⟨t,rfl⟩:=rx;exact SeqAt.EqAt.bool_str a b t
  | _=>exact absurd (show pc=Db from fx) dw
 | int a=>
  obtain⟨t',rfl⟩:=ry;cases x with
  | mW=>cases rx;exact SeqAt.EqAt.int_none a t'
  | bl b=>cases rx;exact SeqAt.EqAt.int_bool a t' b
  | int b=>obtain⟨t,rfl⟩:=rx;exact SeqAt.EqAt.int_int a t' b t
  | str b=>obtain⟨t,rfl⟩:=rx;exact kP a t' b t
  | _=>exact absurd (show pc=Db from fx) dw
 | str a=>
  obtain⟨t',rfl⟩:=ry;cases x with
  | mW=>cases rx;exact SeqAt.EqAt.str_none a t'
  | bl b=>cases rx;exact SeqAt.EqAt.str_bool a t' b
  | int b=>obtain⟨t,rfl⟩:=rx;exact kQ a t' b t
  | str b=>obtain⟨t,rfl⟩:=rx;exact SeqAt.EqAt.str_str a t' b t
  | _=>exact absurd (show pc=Db from fx) dw
 | _=>exact absurd (show pc=Db from fy) dw
noncomputable def FI(x:V)(u:Vl):Bool:=match u with
 | .none=>Ob .mW x
 | .bool b=>Ob (.bl b) x
 | .int i _=>Ob (.int i) x
 | .str z _=>Ob (.str z) x
 | _=>pc
def Ik(r:rh y u)(f:yQ y=Db):FI x u=Ob y x:=by
 cases y with
 | mW=>cases r;rfl
 | bl b=>cases r;rfl
 | int i=>obtain⟨t,rfl⟩:=r;rfl
 | str z=>obtain⟨t,rfl⟩:=r;rfl
 | _=>exact absurd (show pc=Db from f) dw
theorem zR:∀{xs:T0 V} {us:T0 Vl},qN xs us->xs.all yQ=Db->us.any (FI x)=xs.any λy=>Ob y x
 | _,_,.nil,_=>rfl
 | y::xs,u::us,.cons r t,f=>by rw[eO,dU]at f;rw[gm,gm,Ik r f.1,zR t f.2]
theorem w9(rx:rh x v)(fx:yQ x=Db):∀{xs:T0 V} {us:T0 Vl},qN xs us->xs.all yQ=Db->∀u∈us,SeqAt.EqAt A s u v (FI x u)
 | _,_,.nil,_=>λu hu=>by cases hu
 | y::xs,u::us,.cons r t,f=>λu' hu=>by
  rw[eO,dU]at f;rcases dh.mp hu with rfl|hu
  .rw[Ik r f.1];exact RE r rx f.1 fx
  .exact w9 rx fx t f.2 u' hu
noncomputable def inV(x:V)(xs:T0 V):Bool:=xs.any λy=>Ob y x
def Wy(K:qK)(YN:Bool):R2:=λx y H Q=>∃p xs,y=.ref p/\(zu K H p xs\/vM K H p xs)/\yQ x=Db/\xs.all yQ=Db/\Q (.bl (if YN then !inV x xs else inV x xs)) H
def K0:yo X (Op .In) (Wy X.K pc):=by
 intro W7 s Y H x y v u Q I rx ry h;obtain⟨p,xs,rfl,hq,fx,fs,q⟩:=h;cases ry;rcases hq with hq|hq
 .obtain⟨its,r,pl,hz⟩:=I.list hq;refine SeqAt.in_listAt (FI x) pl.isList (λw hw=>w9 rx fx r fs w (by simpa using hw)) ⟨.bl _,H,I,Z',?_⟩;rw[show its.toArray.any (FI x)=its.any (FI x)by simp,zR r fs];exact q
 .obtain⟨its,r,pl,hz⟩:=I.tuple hq;refine SeqAt.in_tupleAt (FI x) pl (λw hw=>w9 rx fx r fs w (by simpa using hw)) ⟨.bl _,H,I,Z',?_⟩;rw[show its.toArray.any (FI x)=its.any (FI x)by simp,zR r fs];exact q
def Fz:yo X (Op .NotIn) (Wy X.K Db):=by
 intro W7 s Y H x y v u Q I rx ry h;obtain⟨p,xs,rfl,hq,fx,fs,q⟩:=h;cases ry;rcases hq with hq|hq
 .obtain⟨its,r,pl,hz⟩:=I.list hq;refine SeqAt.notIn_listAt (FI x) pl.isList (λw hw=>w9 rx fx r fs w (by simpa using hw)) ⟨.bl _,H,I,Z',?_⟩;rw[show its.toArray.any (FI x)=its.any (FI x)by simp,zR r fs];exact q
 .obtain⟨its,r,pl,hz⟩:=I.tuple hq;refine SeqAt.notIn_tupleAt (FI x) pl (λw hw=>w9 rx fx r fs w (by simpa using hw)) ⟨.bl _,H,I,Z',?_⟩;rw[show its.toArray.any (FI x)=its.any (FI x)by simp,zR r fs];exact q
def F4:yo X (Op .NotIn) (λx y H Q=>∃i j,x=.str i/\y=.str j/\Q (.bl (!(!(Builtin.Str.occurrences j i 0 j.length 1).isEmpty))) H):=by intro W7 s Y H x y v u Q I rx ry h;obtain⟨i,j,rfl,rfl,q⟩:=h;obtain⟨t,rfl⟩:=rx;obtain⟨t',rfl⟩:=ry;exact notIn_str ⟨.bl _,H,I,Z',q⟩
def xG:zY X (.builtin "len") (λxs H Q=>∃p ys,xs=[.ref p]/\(zu X.K H p ys\/vM X.K H p ys)/\Q (.int ys.length) H):=by
 intro W7 s Y H xs us Q I r h;obtain⟨p,ys,rfl,hq,q⟩:=h;obtain⟨u,rfl,rx⟩:=yT r;cases rx;have hn:=zm;rcases hq with hq|hq
 .obtain⟨its,r',pl,hz⟩:=I.list hq;have Xd:=r'.length;exact Calls.call_len_list pl.isList (by simp only[dz]<;>lia) ⟨.int ys.length,H,I.tok _,⟨s.toks+1,by rw[dz,Xd]⟩,q⟩
 .obtain⟨its,r',pl,hz⟩:=I.tuple hq;have Xd:=r'.length;exact len_tuple pl (by simp only[dz]<;>lia) ⟨.int ys.length,H,I.tok _,⟨s.toks+1,by rw[dz,Xd]⟩,q⟩
def Fd:zY X (.builtin "len") (λxs H Q=>∃z,xs=[.str z]/\z.length<=Ch/\Q (.int z.length) H):=by intro W7 s Y H xs us Q I r h;obtain⟨z,rfl,hz,q⟩:=h;obtain⟨u,rfl,t,rfl⟩:=yT r;have hn:=zm;exact len_str (by lia) ⟨.int z.length,H,I.tok _,⟨_,Z'⟩,q⟩
def EG:zY X (.type "list") (λxs H Q=>∃p ys,xs=[.ref p]/\(zu X.K H p ys\/vM X.K H p ys)/\∀l,H l=Fa->Q (.ref l) (upd H l (.lst ys))):=by
 intro W7 s Y H xs us Q I r h;obtain⟨p,ys,rfl,hq,q⟩:=h;obtain⟨u,rfl,rx⟩:=yT r;cases rx;have Xc:∀(its:T0 Vl),qN ys its->ys.length<=Ch->∀(h':No) (c':Nat),(∀b o',s.heap.get? b=ga o'->h'.get? b=ga o')->
   h'.get? s.heap.objs.size=ga {cls:=.type "list",dict:=none,data:=.seq its.toArray c',slots:=#[]}->EP X W7 Y Q (.ref s.heap.objs.size) {s with heap:=h'}:=λits r' hz h' c' kp e=>
  ⟨.ref s.heap.objs.size,_,I.laid (t':=s.toks) kp (dq _) (show sR X.prog X.w _ h' _ (.lst ys)from⟨hz,its,c',r',e⟩),Z',q _ (I.mZ.fresh (dq _))⟩
 rcases hq with hq|hq
 .obtain⟨its,r',pl,hz⟩:=I.list hq;have Xd:=r'.length;obtain⟨o,ho,hc,n,hd⟩:=pl.isList;exact call_list_seq p (.inl Z') ho hc hd (λh' c' kp e=>Xc its r' hz h' c' kp e) (by simp only[dz]<;>lia)
 .obtain⟨its,r',pl,hz⟩:=I.tuple hq;have Xd:=r'.length;obtain⟨o,ho,hc,n,hd⟩:=pl;exact call_list_seq p (.inr Z') ho hc hd (λh' c' kp e=>Xc its r' hz h' c' kp e) (by simp only[dz]<;>lia)
def wO:zY X (.type "tuple") (λxs H Q=>∃p ys,xs=[.ref p]/\((zu X.K H p ys/\∀l,H l=Fa->Q (.ref l) (upd H l (.tup ys)))\/(vM X.K H p ys/\Q (.ref p) H))):=by
 intro W7 s Y H xs us Q I r h;obtain⟨p,ys,rfl,h⟩:=h;obtain⟨u,rfl,rx⟩:=yT r;cases rx;rcases h with⟨hq,q⟩|⟨hq,q⟩
 .obtain⟨its,r',pl,hz⟩:=I.list hq;have Xd:=r'.length;refine call_tuple_list pl.isList (λh' kp=>?_) (by simp only[dz]<;>lia);have I1:Inv X W7 Y H {s with heap:=h'}:=I.kept (t':=s.toks) kp;have I2:Inv X W7 Y (upd H h'.objs.size (.tup ys)) {s with heap:=h'.push {cls:=.type "tuple",data:=.seq its.toArray}}:=
   I1.laid (t':=s.toks) (λb o e=>df _ e) (dq _) (show sR X.prog X.w _ _ _ (.tup ys)from⟨hz,its,r',FP.new _ _⟩)
  exact⟨.ref h'.objs.size,_,I2,Z',q _ (I1.mZ.fresh (dq _))⟩
 .obtain⟨its,r',pl,hz⟩:=I.tuple hq;exact call_tuple_same pl ⟨.ref p,H,I,Z',q⟩
def Wx(K:qK)(T:String)(x:V)(H:Hp):Prop:=match x with
 | .str _=>T="str"
 | .int _=>T="int"
 | .ref p=>(T="list"/\∃xs,zu K H p xs)\/(T="tuple"/\∃o,K.lookup p=ga o/\o.cls=.type "tuple"/\o.dict=Fa)\/
   (T="dict"/\((∃kvs,H p=ga (.dK kvs))\/∃kvs,H p=ga (.dT kvs)))\/(T="set"/\∃S n,H p=ga (.set S n))
 | _=>False
def MB(I:Inv X W7 Y H s)(r:rh x v)(ty:Wx X.K T x H):
  s.TypeIs v T/\∀a,v=.ref a->∃ob,s.heap.get? a=ga ob/\ob.dict=Fa:=by
 cases x with
 | str z=>obtain⟨t,rfl⟩:=r;cases(show T="str" from ty);exact⟨typeIs_str s z t,λ_ e=>nomatch e⟩
 | int i=>obtain⟨t,rfl⟩:=r;cases(show T="int" from ty);exact⟨mf s i t,λ_ e=>nomatch e⟩
 | ref p=>
  cases r;rcases ty with⟨rfl,xs,hq⟩|⟨rfl,o,hk,hc,hd⟩|⟨rfl,hk⟩|⟨rfl,S,n,hk⟩
  .obtain⟨its,_,pl,_⟩:=I.list hq;refine⟨pl.isList.typeIs,λa e=>?_⟩;cases e;obtain⟨o,n,e,c,hd,_⟩:=pl;exact⟨o,e,hd⟩
  .refine⟨⟨o,I.ny p o hk,hc⟩,λa e=>?_⟩;cases e;exact⟨o,I.ny _ o hk,hd⟩
  .have z:∃o,s.heap.get? p=ga o/\o.ExactDict:=by
    rcases hk with⟨kvs,hk⟩|⟨kvs,hk⟩
    .obtain⟨_,_,_,_,o,_,_,e,ex,_⟩:=I.mZ p _ hk;exact⟨o,e,ex⟩
    .obtain⟨_,_,_,_,o,_,_,e,ex,_⟩:=I.mZ p _ hk;exact⟨o,e,ex⟩
   obtain⟨o,e,ex⟩:=z;refine⟨⟨o,e,ex.1⟩,λa e2=>?_⟩;cases e2;exact⟨o,e,ex.2.1⟩
  .obtain⟨o,_,_,_,e,ex,_⟩:=I.mZ p _ hk;refine⟨⟨o,e,ex.1⟩,λa e2=>?_⟩;cases e2;exact⟨o,e,ex.2.1⟩
 | _=>exact False.elim ty
def W6(K:qK)(T:String)(r:V->T0 V->Hp->VK->Prop)(to:TE)(t:TA):TE:=λY H Q=>to Y H λx H1=>Wx K T x H1/\t Y H1 λxs H2=>r x xs H2 Q
def UB(pa:PlainAttrs T)(slot:Slot T name id)(hty:typeOf (.builtin id)=pure (.type "method_descriptor"))(hm:WP X id r)(ho:PE X o to)(ha:PA X (e::es) t) (Xj:Rs o name X.env (wp o X.env)=wp o X.env:=by rfl)
  (X3:((At Xf (Tl (e::es) X.env)).all (λx=>!x.1)&&(TD Xf (Ps [] X.env)).all (λx=>x.1.isSome)
   &&decide ((e::es).length+([]:T0 TW).length+(if ([]:T0 TW).isEmpty then 0 else 1)<30))=Db:=by rfl)
  (Xq:(Xa.endLine==Xf.line)=Db:=by rfl) (hs:Bm X e es:=by rfl) (Xm:Co X Xf es:=by rfl):
  PE X (.Call (.Attribute o name Xa) (e::es) [] Xf) (W6 X.K T r to t):=by
 intro W7 s Y H Q I h;refine wpAny_Call_method_late Xj X3 Xq Z' (tE (ho W7 s Y H _ I h) λv s1 zz=>?_);obtain⟨x,H1,I1,r1,ty,q1⟩:=zz;obtain⟨h1,h2⟩:=MB I1 r1 ty;refine⟨T,id,pa,slot,hty,h1,h2,?_⟩;have hA:=ha Xf W7 s1 Y H1 _ I1 q1;rw[hs]at hA ⊢;refine j8 (by show(pc||(At Xf (Tl es X.env)).any (·.1))=pc;rw[Xm]<;>rfl) (Calls.evalArgs_plain ?_);exact tE hA λus s2 zz=>x5 zz λvs H2 I2 r2 q2=>hm W7 s2 Y H2 x vs v us Q I2 r1 r2 q2
end
def WM(X:Cx)(id:String)(r:V->T0 V->Hp->VK->Prop):Prop:=
 ∀(W7:QQY) (s:Sd) (Y:St) (H:Hp) (x:V) (xs:T0 V) (v:Vl) (us:T0 Vl) (Q:VK),Inv X W7 Y H s->rh x v->qN xs us->r x xs H Q->
  pi (Tk X.prog X.w) X.A (call (.builtin id) (v::us)) (EP X W7 Y Q) X.xe s
def qN.one:∀{x:V} {us:T0 Vl},qN [x] us->∃u,us=[u]/\rh x u
 | _,_,.cons r .nil=>⟨_,Z',r⟩
theorem qN.eraseIdx:∀{xs:T0 V} {us:T0 Vl} (i:Nat),qN xs us->qN (xs.eraseIdx i) (us.eraseIdx i)
 | _,_,_,.nil=>.nil
 | _,_,0,.cons _ t=>t
 | _,_,i+1,.cons r t=>.cons r (qN.eraseIdx i t)
theorem qN.rep(h:qN xs us):∀k:Nat,qN (List.replicate k xs).flatten (List.replicate k us).flatten
 | 0=>.nil
 | k+1=>by rw[eM,eM,fU,fU];exact qN.append h (qN.rep h k)
theorem Ez{α:Type}:∀(l:List α) (i:Nat),(l.eraseIdx i).length<=l.length
 | [],_=>dq _
 | _::_,0=>gS _
 | _::r,i+1=>gU (Ez r i)
theorem DZ(its:T0 Vl):∀(k:Nat) (acc:T0 Vl),List.foldl (λx1 x2=>x1++x2) acc.toArray (List.replicate k its.toArray)=(acc++(List.replicate k its).flatten).toArray
 | 0,acc=>by simp
 | k+1,acc=>by
  have e:acc.toArray++its.toArray=(acc++its).toArray:=by simp
  have e2:(acc++its)++(List.replicate k its).flatten=acc++(List.replicate (k+1) its).flatten:=by rw[eM,fU,fg]
  rw[<-e2,<-DZ its k (acc++its),<-e,eM,gg]
variable {W7:T0 (Uf × Obj)}{Y:St}{H:Hp}{s:Sd}{l:Uf}{xs ys zs:T0 V}
section
variable {b:Uf}
def Inv.oS{its its':T0 Vl}{n:Nat}{f:Array Vl->Array Vl}{t':Nat}(I:Inv X W7 Y H s)(hH:H l=ga (.lst xs)) (e:s.heap.get? l=ga {cls:=.type "list",data:=.seq its.toArray n}) (hf:f its.toArray=its'.toArray) (hv:qN ys its') (hz:ys.length<=Ch):
  Inv X W7 Y (upd H l (.lst ys)) {s with heap:=s.heap.update l (Obj.mapSeq f),toks:=t'}:=by
 have q:=PySem.IsL.update e f;rw[hf]at q;refine I.write (x:=l) (e:=l) (by rw[hH];exact trivial) (.inl Z') (λb' u hb hu=>(gk s.heap (Obj.mapSeq f) (dQ hb)).trans hu) ⟨_,q⟩ ?_;exact⟨hz,its',_,hv,q⟩
def Inv.pq{t':Nat}(I:Inv X W7 Y H s)(hv:qN ys its)(hz:ys.length<=Ch):
  Inv X W7 Y (upd H s.heap.objs.size (.lst ys)) {s with heap:=s.heap.push {cls:=.type "list",data:=.seq its.toArray},toks:=t'}:=
 I.laid (λ_ _ q=>df _ q) (dq _) ⟨hz,its,0,hv,dM _ Z'⟩
def Inv.fresh(I:Inv X W7 Y H s):H s.heap.objs.size=Fa:=I.mZ.fresh (dq _)
def Inv.om(I:Inv X W7 Y H s)(hH:H l=ga (.lst xs)):xs.length<=Ch/\∃(its:T0 Vl) (n:Nat),qN xs its/\xs.length=its.length/\s.heap.get? l=ga {cls:=.type "list",data:=.seq its.toArray n}:=by obtain⟨z,its,n,r,e⟩:=I.mZ l _ hH;exact⟨z,its,n,r,r.length,e⟩
def Ng{n:Nat}(h:n<=Ch):Builtin.List.listTooLong n=pc:=by unfold Builtin.List.listTooLong;exact eY (by lia)
end
def Ov:V->T0 V->Hp->VK->Prop:=λx vs H Q=>∃l xs y,x=.ref l/\vs=[y]/\H l=ga (.lst xs)/\xs.length<Ch/\Q .mW (upd H l (.lst (xs++[y])))
def Ki:WM X "list.append" Ov:=by intro W7 s Y H x vs v us Q I rx rv h;obtain⟨l,xs,y,rfl,rfl,hH,hz,q⟩:=h;cases rx;obtain⟨u,rfl,ru⟩:=rv.one;obtain⟨z,its,n,r,hl,e⟩:=I.om hH;refine ja F.slot_list_append ⟨_,e,Z'⟩ F.entry_list_append (F.args_list_append_2 _ _) (PySem.list_append l its.toArray n u (by rw[dz];lia)) ⟨e,?_⟩;refine⟨.mW,_,I.oS (its':=its++[u]) hH e (by simp) (r.append (.cons ru .nil)) ?_,Z',q⟩;rw[cX,dH];lia
def SN:V->T0 V->Hp->VK->Prop:=λx vs H Q=>∃l xs i k y,x=.ref l/\vs=[.int i]/\H l=ga (.lst xs)/\-(2 ^ 63)<=i/\i<2 ^ 63/\seqIndex? i xs.length=ga k/\xs[k]?=ga y/\Q y (upd H l (.lst (xs.eraseIdx k)))
def LU:WM X "list.pop" SN:=by
 intro W7 s Y H x vs v us Q I rx rv h;obtain⟨l,xs,i,k,y,rfl,rfl,hH,h1,h2,hk,hy,q⟩:=h;cases rx;obtain⟨u,rfl,ru⟩:=rv.one;obtain⟨t,rfl⟩:=ru;obtain⟨z,its,n,r,hl,e⟩:=I.om hH;obtain⟨w,hw,YV⟩:=r.get hy;refine ja F.slot_list_pop ⟨_,e,Z'⟩ F.entry_list_pop (F.args_list_pop_2 _ _)
  (MeetsSeq.list_pop_at l its.toArray n i t k w (fitsIndex_both h1 h2) (by rw[dz,<-hl];exact hk) (by rw[<-ke];exact hw) (by rw[dz];lia)) ⟨e,?_⟩
 refine⟨y,_,I.oS (its':=its.eraseIdx k) hH e ?_ (r.eraseIdx k) ?_,YV,q⟩
 .show its.toArray.eraseIdxIfInBounds k=(its.eraseIdx k).toArray;rw[List.eraseIdxIfInBounds_toArray]
 .have:=Ez xs k;lia
def VS:R2:=λx y H Q=>∃l k xs,x=.ref l/\y=.int k/\H l=ga (.lst xs)/\-(2 ^ 63)<=k/\k<2 ^ 63/\xs.length*k.toNat<=Ch/\
 ∀p,H p=Fa->Q (.ref p) (upd H p (.lst (List.replicate k.toNat xs).flatten))
def PL{α:Type}(xs:List α)(k:Nat):(List.replicate k xs).flatten.length=k*xs.length:=by
 induction k with
 | zero=>simp
 | succ k ih=>rw[eM,fU,cX,ih,mE,Nat.add_comm]
def SZ:yo X (IN .Mult) VS:=by
 intro W7 s Y H x y v u Q I rx ry h;obtain⟨l,k,xs,rfl,rfl,hH,h1,h2,hz,q⟩:=h;cases rx;obtain⟨t,rfl⟩:=ry;obtain⟨z,its,n,r,hl,e⟩:=I.om hH;have Xd:its.toArray.size*k.toNat<=Ch:=by rw[dz,<-hl];exact hz
 have hcap:¬its.toArray.size*k.toNat>(2 ^ 63 - 1) / 8:=by
  have:(Ch:Nat)<=(2 ^ 63 - 1) / 8:=by decide
  lia
 have XG:¬(!Builtin.List.listFitsIndex k)=Db:=by rw[fitsIndex_both h1 h2];exact dw
 have hlong:¬Builtin.List.listTooLong (its.toArray.size*k.toNat)=Db:=by rw[Ng Xd];exact dw
 have YW:List.foldl (λx1 x2=>x1++x2) #[] (List.replicate (if its.toArray.isEmpty=Db then 0 else k.toNat) its.toArray)=(List.replicate k.toNat its).flatten.toArray:=by
  have f0:∀m:Nat,List.foldl (λx1 x2=>x1++x2) #[] (List.replicate m its.toArray)=(List.replicate m its).flatten.toArray:=λm=>by have:=DZ its m [];rw[dZ]at this;exact this
  rw[f0];cases its with
  | nil=>simp
  | cons a r'=>rw[c9 (by simp)]
 refine wpAny_binaryOp_repeat_ref (T:="list") (U:="int") (by decide) ⟨_,e,Z'⟩ (λs'=>mf s' k t) noFill_list_mul F.fills_int_mul mh repeat_list F.slot_int_index.lookup
  (ja mh (mf s k t) F.entry_int_rmul (F.args_int_rmul_2 _ _) (int___rmul___int_list k t l its.toArray n)
   ⟨e,Z',⟨_,e,Z'⟩,ja F.slot_list_mul ⟨_,e,Z'⟩ F.entry_list_mul (F.args_list_mul_2 _ _) (AutoListH.list___mul___list_int_3 l its.toArray n k t XG hcap hlong) ⟨e,?_⟩⟩)
 rw[YW];exact⟨.ref _,_,I.pq (t':=s.toks) (r.rep k.toNat) (by rw[PL,Nat.mul_comm];exact hz),Z',q _ I.fresh⟩
variable {prog:Pg}{w:Wo}{A:Ar}{E:QQX}
end L2
namespace Att
open PySem PySem.W PySem.Calls PyProof.Rows
def Bd:∀(ns:T0 Int) (vs:T0 Vl),WellAll P h vs (ns.map WData.int)->IntsAre vs ns:=by
 intro ns;induction ns with
 | nil=>intro vs w;rw[jb]at w;cases w;exact .nil
 | cons n ns ih=>
  intro vs w;rw[dW]at w;cases w with
  | cons a b=>cases a;exact .cons _ _ (ih _ b)
def Le{l:OpenLaw}{n:Nat}(hn:l.most=ga n){P:Params}{h:No}{args:T0 WData}{ZX:T0 Vl} (Zi:l.row.toRowW.claim.pre args=Db) (hwl:WellAll P h ZX args):
  ∃a vs ns,ZX=[Value.ref a]/\args=[WData.list (ns.map WData.int)]/\h.get? a=ga {cls:=.type "list",data:=.seq vs.toArray}/\IntsAre vs ns/\ns.length<=n:=by
 have hsh:WShape.hasAll [] args [.list .int]=Db:=(pre_splitW Zi).1;have hc:l.pre.holds [] {args:=args}=Db:=(pre_splitW Zi).2;obtain⟨d,r,rfl,h1,h2⟩:=hasAllW_cons hsh;obtain rfl:=hasAllW_nil h2;obtain⟨xs,rfl,h3⟩:=hasW_list h1;obtain⟨ns,rfl⟩:=items_int h3;have Xd:ns.length<=n:=by
  unfold OpenLaw.pre at hc;have h4:(WTm.not (.lt (.lit (.int (n:Int))) (.len (.arg 0)))).holds [] {args:=[.list (ns.map .int)]}=Db:=by have h4:=(holds_andW hc).1;rw[hn]at h4;exact h4
  have h5:=condW_of h4 (w_not (w_lt w_lit (w_len_list (w_arg Z'))));rw[cV]at h5;refine jK λq=>?_;have q':(n:Int)<((ns.length:Nat):Int):=by lia
  first
   | (rw[dX q']at h5;exact absurd h5 (by decide))
   | (simp at h5;lia)
 cases hwl with
 | cons w1 w2=>
  cases w2;cases w1 with
  | list ho Yc=>exact⟨_,_,ns,Z',Z',ho,Bd ns _ Yc,Xd⟩
def KW(l:OpenLaw)(args:T0 WData):l.row.toRowW.claim.post args (.bool Db) args=Db:=
 postW_of (r:=l.row.toRowW) (X:=(Db==Db))
  (show WShape.has [] (.bool Db) .bool=Db by first|rfl|decide|simp[WShape.has,WShape.arms,WShape.armsAll])
  (show(WTm.eq .res (.lit (.bool Db))).value [] {args:=args,res:=some (.bool Db),after:=args}=ga (.bool (Db==Db))from w_eq_bool (w_res Z') w_lit) Z'
def attach_call{l:OpenLaw}{n:Nat}{YP:Wo->No->Prop}{d:DefRec} (hn:l.most=ga n) (ZD:d.params.defaults=[]) (call:∀(w:Wo) (s₀ s₁:Sd) (mg mb:QQZ) (fa:Uf) (o:Obj) (pm cd XM:Vl) (a:Uf) (vs:T0 Vl) (ns:T0 Int),Ground q XZ [] XP w s₀ mg mb s₁.heap->YP w s₁.heap->
   s₁.heap.get? fa=ga o->o.data=.func (docDef d.name d.params d.body d.scope pm cd XM)->s₁.heap.CodeRec cd d.name->mg d.name=ga (.ref fa)->
   s₁.heap.get? a=ga {cls:=.type "list",data:=.seq vs.toArray}->IntsAre vs ns->ns.length<=n->s₁.gens=#[]->
   XXf (Tk l.prog w) callerA (.call (.ref fa) ⟨[.ref a],[]⟩) (λr s'=>r=.ok (.ret (.bool Db))/\OldK s₁.heap s'.heap/\s'.os=s₁.os/\XXi s'.gens) s₁):
  WalkO q XZ XP YP l.row.toRowW d [] (λf vs=>PySem.call f vs):=by
 intro w s₀ s₁ mg mb G Y fa o pm cd XM dV kV ho hd Yp hD hmg hg args ZX as Zi hlay hrd hwl hlo;obtain rfl:dV=.none:=Dflts.none hD ZD;obtain rfl:kV=.none:=Dflts.noKw hD;obtain⟨a,vs,ns,rfl,rfl,ZY,YX,Xd⟩:=Le hn Zi hwl;refine enter_call (gT (call w s₀ s₁ mg mb fa o pm cd XM a vs ns G Y ho (fd_plain hd) Yp hmg ZY YX Xd hg) λr s' hq=>?_);obtain⟨rfl,h2,h3,h4⟩:=hq;exact⟨.inl ⟨.bool Db,.bool Db,[],Z',λ_=>rfl,.bool Db,KW l _,λ_=>⟨List.Pairwise.nil,λ_ hm=>(nomatch hm)⟩⟩,h2,h3,h4⟩
variable {prog:Pg}{w:Wo}{A:Ar}{E:QQX}{s:Sd}{K:Frag}
end Att
namespace L2
theorem Eb:∀{vs:T0 Vl} {ns:T0 Int},IntsAre vs ns->qN (ns.map V.int) vs
 | _,_,.nil=>.nil
 | _,_,.cons n t h=>.cons ⟨t,Z'⟩ (Eb h)
def NN(H:Hp):Prop:=∀b,H b=Fa\/∃o xs,H b=ga (.frz o (.lst xs))
def Nx{P:Pg}{w:Wo}{K:qK}{mg mb:QQZ}{CX:Lg}{fa a:Uf}{fd:wv}{x:Str}{sp:Sp}{s₁:Sd}{vs:T0 Vl} (KX:K.In s₁.heap) (hns:s₁.heap.Ns gt mg) (hb:s₁.heap.Ns builtinsNs mb) (hbb:∀x:Str,x≠"__name__"->mb x=zn x) (hlim:s₁.heap.NoLimit) (hg:s₁.gens=#[]) (ha:s₁.heap.get? a=ga {cls:=.type "list",data:=.seq vs.toArray}) (hi:IntsAre vs ns) (hl:ns.length<=Ch) (hr:sQ k callerA)
  (F:∀base:No,K.In base->base.Ns gt mg->xU P w K mg base CX k fa fd [x] sp) (hbind:∀(s:Sd) (u:Vl),BindsTo s fd ⟨[u],[]⟩ [(x,u)])
  (YF:∀H:Hp,NN H->zu K H a (ns.map V.int)->sp [.ref a] H (λv _=>v=.bl Db) λ_ _ _=>False)
  (hCX:∀H e s',CX [] H s₁ (λ_ _ _=>False) e s'->False):
  XXf (Tk P w) callerA (.call (.ref fa) ⟨[.ref a],[]⟩) (λr s'=>r=.ok (.ret (.bool Db))/\OldK s₁.heap s'.heap/\s'.os=s₁.os/\XXi s'.gens) s₁:=by
 have rv:=Eb hi;have lenV:=hi.length;have core:∀H:Hp,NN H->zu K H a (ns.map V.int)->yO P w H s₁.heap->(∀b,H b≠Fa->b=a)->(H a≠Fa->K.lookup a=Fa)->
   XXf (Tk P w) callerA (.call (.ref fa) ⟨[.ref a],[]⟩) (λr s'=>r=.ok (.ret (.bool Db))/\OldK s₁.heap s'.heap/\s'.os=s₁.os/\XXi s'.gens) s₁:=by
  intro H hO hS mZ hA hK;have Yy:∀{b:Uf} {o:Obj},s₁.heap.get? b=ga o->H b=Fa->(ET s₁.heap H).get? b=ga o:=λe n=>Ln e n;have noA:∀{b:Uf} {o:Obj} {es:Array DictEntry} {ep:Nat},s₁.heap.get? b=ga o->o.data=.dict es ep->H b=Fa:=λ{b o es ep} e d=>by
   cases q:H b with
   | none=>rfl
   | some u=>have e':b=a:=hA b (by rw[q];simp);subst e';rw[ha]at e;cases e;have d':Data.seq vs.toArray _=Data.dict es ep:=d;cases d'
  have nsK:∀{b:Uf} {m:QQZ},s₁.heap.Ns b m->(ET s₁.heap H).Ns b m:=λ{b m} ⟨o,es,ep,e,d,r⟩=>⟨o,es,ep,Yy e (noA e d),d,r⟩;have hKb:K.In (ET s₁.heap H):=λb o e=>Yy (KX b o e) (by
   cases q:H b with
   | none=>rfl
   | some u=>
    have e':b=a:=hA b (by rw[q];simp);subst e';rw[hK (by rw[q];simp)]at e;cases e)
  have hM:Mod K mg (ET s₁.heap H):=⟨hKb,nsK hns,⟨mb,nsK hb,hbb⟩,let⟨mc,h1,h2⟩:=hlim;⟨mc,nsK h1,h2⟩⟩;have e0:HJ P w K mg (ET s₁.heap H) callerA [] s₁ H:=⟨Z',hM,λb o e=>QB e,mC (Lc _ _),trivial,λb hb=>absurd (show b∈([]:QXQ)from hb) (by simp),mZ,.of_eq hg⟩;refine gT ((F _ hKb (nsK hns)).run callerA [] s₁ H ⟨[.ref a],[]⟩ [.ref a] [.ref a] _ _ hr e0 (hbind s₁ (.ref a)) (.cons Z' .nil) (YF H hO hS)) λr s' h=>?_;cases r with
  | error e=>exact(hCX H e s' h).elim
  | ok fl=>
   cases fl with
   | next=>exact False.elim h
   | brk=>exact False.elim h
   | cont=>exact False.elim h
   | ret u=>
    obtain⟨v,H',os,bare,un,ZZ,r',q⟩:=h;have q':v=.bl Db:=q;subst q';obtain rfl:u=Value.bool Db:=r';refine⟨Z',OldK.of_keep λb o e=>?_,os,bare⟩;cases q:H b with
    | none=>exact un.keep b o e q (by intro z;exact absurd (show b∈([]:QXQ)from z) (by simp)) (by simp)
    | some u=>
     rcases hO b with z|⟨ob,xs,z⟩
     .rw[q]at z;cases z
     .have z2:=un.nK b ob _ z;obtain⟨e1,_⟩:=mZ b _ z;obtain⟨e2,_⟩:=ZZ b _ z2;rw[e]at e1;cases e1;exact e2
 cases hk:K.lookup a with
 | some o=>have e:=KX a o hk;rw[ha]at e;cases e;refine core (λ_=>Fa) (λ_=>.inl Z') (.inr ⟨_,vs.toArray,_,hk,Z',Z',Z',by rw[dz,lenV];exact hl,by simpa using rv⟩) (λb u z=>by have z':(Fa:Option HO)=ga u:=z;cases z') (λb z=>absurd Z' z) λz=>absurd Z' z
 | none=>
  refine core (λb=>if b=a then ga (.frz {cls:=.type "list",data:=.seq vs.toArray} (.lst (ns.map V.int)))else Fa) (λb=>?_) (.inl (.inr ⟨{cls:=.type "list",data:=.seq vs.toArray},de Z'⟩)) (λb u z=>?_) (λb z=>?_) λ_=>hk
  .by_cases hb:b=a
   .exact .inr ⟨_,_,de hb⟩
   .exact .inl (c9 hb)
  .by_cases hb:b=a
   .have z':=(de hb).symm.trans z;cases z';subst hb;exact⟨ha,by rw[cV];exact hl,vs,_,rv,ha⟩
   .have z':=(c9 hb).symm.trans z;cases z'
  .by_cases hb:b=a
   .exact hb
   .exact absurd (c9 hb) z
def OO{l:W.OpenLaw}{n k:Nat}{q:Pg}{XZ:QQQ}{XP:(QQZ)->No->Prop}{YP:Wo->No->Prop}{d:DefRec}{K:Params->qK}{CX:Wo->Lg}{sp:Wo->Sp}{x:Str} (hn:l.most=ga n) (ZT:n<=Ch) (ZD:d.params.defaults=[]) (hr:sQ k callerA) (hY:∀(w:Wo) (h:No),YP w h->(K w.params).In h) (F:∀(w:Wo) (mg:QQZ) (fa:Uf) (h:No),(K w.params).In h->h.Ns gt mg->mg d.name=ga (.ref fa)->
   ∃fd:wv,(∀(s:Sd) (u:Vl),BindsTo s fd ⟨[u],[]⟩ [(x,u)])/\
    ∀base:No,(K w.params).In base->base.Ns gt mg->xU l.prog w (K w.params) mg base (CX w) k fa fd [x] (sp w))
  (YF:∀(w:Wo) (H:Hp) (a:Uf) (ns:T0 Int),ns.length<=n->NN H->zu (K w.params) H a (ns.map V.int)->sp w [.ref a] H (λv _=>v=.bl Db) λ_ _ _=>False)
  (hCX:∀(w:Wo) (H:Hp) (s:Sd) (e:Vl) (s':Sd),CX w [] H s (λ_ _ _=>False) e s'->False):
  W.WalkO q XZ XP YP l.row.toRowW d [] (λf vs=>PySem.call f vs):=by
 refine Att.attach_call hn ZD λw s₀ s₁ mg mb fa o pm cd XM a vs ns G Y ho hd Yp hmg ZY YX Xd hg=>?_;have KX:=hY w _ Y;obtain⟨fd,hb,hF⟩:=F w mg fa _ KX G.T.g hmg;exact Nx KX G.T.g G.T.b G.T.builtins G.T.nolimit hg ZY YX (d9 Xd ZT) hr hF hb (λH hO hS=>YF w H a ns Xd hO hS) λH e s'=>hCX w H s₁ e s'
noncomputable def QE(s:sB)(j:Nat):sB:=match s with
 | .ClassDef _ _ _ body _ _ _ _ _ _ _=>body.getD j (.Pass ⟨0,0,0,0⟩)
 | _=>.Pass ⟨0,0,0,0⟩
noncomputable def uN(s:sB):Arguments:=match s with
 | .FunctionDef _ a _ _ _ _ _ _ _ _=>a
 | _=>{posonlyargs:=[],args:=[],vararg:=none,kwonlyargs:=[],kw_defaults:=[],kwarg:=none,defaults:=[]}
noncomputable def sE(s:sB):T0 sB:=match s with
 | .FunctionDef _ _ b _ _ _ _ _ _ _=>b
 | _=>[]
noncomputable def qw(s:sB):XXa:=match s with
 | .FunctionDef _ _ _ _ _ _ sc _ _ _=>sc
 | _=>{kind:=.function,names:=[],isGenerator:=false,isCoroutine:=false}
abbrev Oa:Lg:=λ_ _ _ _ _ _=>False
abbrev E0:XK:=λ_ _ _=>False
def GI:Di Oa X E0:=λ_ _ _ _ _ _ _ h=>h.elim
structure PB(K:qK)(x qual:Str)(st:sB)(f:Uf)(fd:wv):Prop where
 ex:∃(oc:Vl) (od:Option Uf) (kV XM pm:Vl) (an:Option Uf) (Xi ct:Vl) (X7:Array (Option Vl)),
  fd=W.fnOf x qual (uN st) (sE st) (qw st) .none kV XM pm an Xi ct/\K.lookup f=ga ⟨oc,od,.func fd,X7⟩/\W.codeIn K Xi qual=Db
 kp:W.keepIn K (.ref f)=Db
variable {P:Pg}{K:qK}{mg:QQZ}{base:No}
section
variable {w:Wo}
def PB.ok{st:sB}{sp:Sp}(F:PB K x qual st f fd)(S:tQ N ps (qw st))(len:∀vs H Q E,sp vs H Q E->vs.length=ps.length) (Xu:∀(Xi:Vl) (A:Ar) (outer:T0 Env) (s:Sd) (H:Hp) (vs:T0 V) (Q:VK) (E:XK),sQ k (A.deeper (sK qual (qw st) s.heap.objs.size f Xi))->sp vs H Q E->
   ∃t,BY (vR Oa P w K mg base N qual (qw st) f Xi A outer s H E).oG (sE st) t/\t {nx:=λ_ H'=>Q .mW H',rt:=Q} (start N vs) H):xU P w K mg base Oa (k+1) f fd ps sp:=by
 obtain⟨oc,od,kV,XM,pm,an,Xi,ct,X7,rfl,lk,Yp⟩:=F.ex;refine LH lk Yp S len λA outer s H vs Q E hr YF=>?_;obtain⟨t,h,q⟩:=Xu Xi A outer s H vs Q E hr YF;exact⟨t,h.oG,q⟩
def PB.binds{st:sB}{ps:QQQ}(F:PB K x qual st f fd) (h:∀(kV XM pm:Vl) (an:Option Uf) (Xi ct:Vl) (us:T0 Vl),us.length=ps.length->bindArgs (W.fnOf x qual (uN st) (sE st) (qw st) .none kV XM pm an Xi ct) ⟨us,[]⟩=pure (ps.zip us)):vq K fd ps []:=by
 obtain⟨oc,od,kV,XM,pm,an,Xi,ct,X7,rfl,lk,Yp⟩:=F.ex;exact .all (h kV XM pm an Xi ct)
def LR{st:sB}{oc:Vl}{od an:Option Uf}{X7:Array (Option Vl)}{kV XM pm Xi ct:Vl}(l:K.lookup f=ga ⟨oc,od,.func (W.fnOf x qual (uN st) (sE st) (qw st) .none kV XM pm an Xi ct),X7⟩) (c:W.codeIn K Xi qual=Db) (k:W.keepIn K (.ref f)=Db):PB K x qual st f (W.fnOf x qual (uN st) (sE st) (qw st) .none kV XM pm an Xi ct):=⟨⟨oc,od,kV,XM,pm,an,Xi,ct,X7,Z',l,c⟩,k⟩
end
variable {X:Cx}
def pv(i:Nat){x:Str}{pos:Pos}(hN:X.N[i]?=ga x:=by rfl)(hv:UL X.env.scope x:=by first|exact Or.inl Z'|exact Or.inr (Or.inl Z')|exact Or.inr (Or.inr Z'))(hd:zv x:=by decide)
  (Yp:(x==("__classdict__":Str))=pc:=by decide):PE X (.Name x pos) (HW i):=Rz hN hv hd Yp
def yh{A B:Prop}(h:B):if pc=Db then A else B:=by rw[c9 dw];exact h
def DH{A B:Prop}(h:A):if Db=Db then A else B:=by rw[de Z'];exact h
def qD{c A B:Prop}[Decidable c](h1:c->A)(h2:¬c->B):if c then A else B:=by
 by_cases h:c
 .rw[de h];exact h1 h
 .rw[c9 h];exact h2 h
def QH(H H':Hp):Prop:=∀b o,H b=ga o->H' b=ga o
def QH.trans(a:QH H H1)(b:QH H1 H2):QH H H2:=λc o h=>b c o (a c o h)
section
variable {κ:Type}[DecidableEq κ]
noncomputable def xI(kvs:T0 (κ×V))(k:κ):Option V:=(kvs.find? λkv=>decide (kv.1=k)).map (·.2)
noncomputable def zj(kvs:T0 (κ×V))(k:κ)(v:V):T0 (κ×V):=
 if (kvs.any λkv=>decide (kv.1=k))=Db then kvs.map (λkv=>if kv.1=k then(kv.1,v)else kv)else kvs++[(k,v)]
def CM{p:κ×V}{r:T0 (κ×V)}{k:κ}(e:p.1=k):xI (p::r) k=ga p.2:=by simp[xI,fP,e]
def CH{p:κ×V}{r:T0 (κ×V)}{k:κ}(e:¬p.1=k):xI (p::r) k=xI r k:=by simp[xI,fP,e]
theorem G8(k:κ):∀kvs:T0 (κ×V),(kvs.any λkv=>decide (kv.1=k))=(xI kvs k).isSome
 | []=>rfl
 | p::r=>by
  rw[gm];by_cases e:p.1=k
  .simp only[CM e,dX e,ig,Option.isSome_some]
  .rw[CH e,eY e,fM];exact G8 k r
def AW(kvs:T0 (κ×V))(k:κ)(v:V):(zj kvs k v).length<=kvs.length+1:=by
 unfold zj;split
 .rw[cV];lia
 .rw[cX,eA,dF];lia
def yM.nI(r:yM o u):o.isSome=u.isSome:=by
 cases o with
 | none=>cases u with
  | none=>rfl
  | some _=>exact(show False from r).elim
 | some _=>cases u with
  | none=>exact(show False from r).elim
  | some _=>rfl
def KV.val(r:KV kvs vs)(k:κ):yM (xI kvs k) (valueAt vs k):=by
 unfold KV at r;induction r with
 | nil=>exact True.intro
 | @cons p q ps qs h t ih=>
  obtain⟨h1,h2⟩:=h;by_cases e:p.1=k
  .have e':q.1=k:=h1.symm.trans e;have b:valueAt (q::qs) k=ga q.2:=by simp[valueAt,fP,e']
   rw[CM e,b];exact h2
  .have e':¬q.1=k:=λz=>e (h1.trans z);have b:valueAt (q::qs) k=valueAt qs k:=by simp[valueAt,fP,e']
   rw[CH e,b];exact ih
def KV.any(r:KV kvs vs)(k:κ):(kvs.any λkv=>decide (kv.1=k))=vs.any λkv=>decide (kv.1=k):=by
 unfold KV at r;induction r with
 | nil=>rfl
 | cons h t ih=>rw[gm,gm,ih,h.1]
def KV.oJ(r:KV kvs vs)(k:κ){y:V}{u:Vl}(ry:rh y u):
  KV (kvs.map λkv=>if kv.1=k then(kv.1,y)else kv) (vs.map λkv=>if kv.1=k then(kv.1,u)else kv):=by
 unfold KV at r ⊢;induction r with
 | nil=>exact .nil
 | @cons p q ps qs h t ih=>
  rw[dW,dW];refine .cons ?_ ih;obtain⟨h1,h2⟩:=h;by_cases e:p.1=k
  .rw[de e,de (h1.symm.trans e)];exact⟨h1,ry⟩
  .rw[c9 e,c9 (λz=>e (h1.trans z))];exact⟨h1,h2⟩
def KV.put(r:KV kvs vs)(k:κ){y:V}{u:Vl}(ry:rh y u):KV (zj kvs k y) (stored vs k u):=by
 unfold zj stored;rw[r.any k];by_cases e:(vs.any λkv=>decide (kv.1=k))=Db
 .rw[de e,de e];exact r.oJ k ry
 .rw[c9 e,c9 e];exact mK r ⟨Z',ry⟩
def KV.length(r:KV kvs vs):kvs.length=vs.length:=js r
end
def G4(r:rh (kV k) u):(rQ P w).is k u=Db:=by
 cases k with
 | inl i=>obtain⟨t,e⟩:=(show ∃t,u=Value.int i t from r);subst e;exact Hg P w i t
 | inr x=>obtain⟨t,e⟩:=(show ∃t,u=Value.str x t from r);subst e;exact AQ P w x t
theorem Ej:∀{ks:List rF} {us:T0 Vl},qN (ks.map kV) us->ItemsAre (rQ P w) ks us
 | [],_,r=>by rw[jb]at r;cases r;exact .nil
 | k::ks,_,r=>by
  rw[dW]at r;cases r with
  | cons h t=>exact .cons (G4 h) (Ej t)
abbrev KT(H:Hp):T0 (List rF×V)->T0 (List rF×Uf×Vl)->Prop:=Paired λp q=>p.1=q.1/\H q.2.1=ga (.tup (p.1.map kV))/\rh p.2 q.2.2
def KT.val(r:KT H kvs xs)(k:List rF):yM (xI kvs k) ((atKey xs k).map (·.2)):=by
 induction r with
 | nil=>exact True.intro
 | @cons p q ps qs h t ih=>
  obtain⟨h1,_,h2⟩:=h;by_cases e:p.1=k
  .have e':q.1=k:=h1.symm.trans e;have b:atKey (q::qs) k=ga q.2:=by simp[atKey,fP,e']
   rw[CM e,b];exact h2
  .have e':¬q.1=k:=λz=>e (h1.trans z);have b:atKey (q::qs) k=atKey qs k:=by simp[atKey,fP,e']
   rw[CH e,b];exact ih
def KT.oJ(r:KT H kvs xs)(k:List rF){y:V}{u:Vl}(ry:rh y u):
  KT H (kvs.map λkv=>if kv.1=k then(kv.1,y)else kv) (xs.map (putAt k u)):=by
 induction r with
 | nil=>exact .nil
 | @cons p q ps qs h t ih=>
  rw[dW,dW];refine .cons ?_ ih;obtain⟨h1,h2,h3⟩:=h;unfold putAt;by_cases e:p.1=k
  .rw[de e,de (h1.symm.trans e)];exact⟨h1,h2,ry⟩
  .rw[c9 e,c9 (λz=>e (h1.trans z))];exact⟨h1,h2,h3⟩
def KT.put(r:KT H kvs xs)(k:List rF){b:Uf}{y:V}{u:Vl}(hb:H b=ga (.tup (k.map kV)))(ry:rh y u):
  KT H (zj kvs k y) (storedH xs k b u):=by
 have e:(kvs.any λkv=>decide (kv.1=k))=(atKey xs k).isSome:=by rw[G8,(r.val k).nI,jx]
 unfold zj storedH;rw[e];by_cases q:(atKey xs k).isSome=Db
 .rw[de q,de q];exact r.oJ k ry
 .rw[c9 q,c9 q];exact mK r ⟨Z',hb,ry⟩
def KT.keeps{H H':Hp}(r:KT H kvs xs)(ht:∀b ys,H b=ga (.tup ys)->H' b=ga (.tup ys)):KT H' kvs xs:=
 Paired.oK r λ_ _ z=>⟨z.1,ht _ _ z.2.1,z.2.2⟩
variable {H:Hp}{h:No}{a:Uf}
section
variable {w:Wo}
def QV(ok:yO P w H h)(e:Rd H a u):sR P w H h a u:=e.ok ok
def IY{kvs:T0 (rF×V)}(ok:yO P w H h)(e:Rd H a (.dK kvs)):kvs.length<=Ch/\(a==AT)=pc/\∃vs,KV kvs vs/\h.DictOf (rQ P w) a vs:=
 show sR P w H h a (.dK kvs)from QV ok e
def TQ{kvs:T0 (rF×V)}(ok:yO P w H h)(e:H a=ga (.dK kvs)):kvs.length<=Ch/\(a==AT)=pc/\∃vs,KV kvs vs/\h.DictOf (rQ P w) a vs:=IY ok (.inl e)
def Fb{ks:List rF}(ok:yO P w H h)(e:H a=ga (.tup (ks.map kV))):(tupleKind (rQ P w)).is h ks a:=by obtain⟨_,its,r,o,h1,h2,⟨n,h3⟩,_⟩:=(show sR P w H h a (.tup (ks.map kV))from ok a _ e);exact⟨o,its.toArray,n,h1,h2,h3,by simpa using Ej r⟩
def Jt{kvs:T0 (List rF×V)}(ok:yO P w H h)(e:Rd H a (.dT kvs)):kvs.length<=Ch/\(a==AT)=pc/\
  ∃xs,KT H kvs xs/\h.DictOfH (tupleKind (rQ P w)) a xs:=by
 obtain⟨z,y,xs,r,o,es,ep,h1,h2,h3,h4,h5⟩:=(show sR P w H h a (.dT kvs)from QV ok e);refine⟨z,y,xs,r,o,es,ep,h1,h2,h3,h4,λx hx=>?_,h5⟩;have all:∀{l:T0 (List rF×V)} {m:T0 (List rF×Uf×Vl)},KT H l m->∀x∈m,(tupleKind (rQ P w)).is h x.1 x.2.1:=by
  intro l m q;induction q with
  | nil=>intro x hx;exact nomatch hx
  | @cons p q ps qs hq t ih=>
   intro x hx;rcases dh.mp hx with e|hx
   .subst e;exact Fb ok (by rw[<-hq.1];exact hq.2.1)
   .exact ih x hx
 exact all r x hx
def U'{kvs:T0 (List rF×V)}(ok:yO P w H h)(e:H a=ga (.dT kvs)):kvs.length<=Ch/\(a==AT)=pc/\
  ∃xs,KT H kvs xs/\h.DictOfH (tupleKind (rQ P w)) a xs:=Jt ok (.inl e)
end
def Fe(H:Hp)(a:Uf)(y:V)(r:Option V):Prop:=
 (∃kvs k,Rd H a (.dK kvs)/\y=kV k/\r=xI kvs k)\/∃kvs k b,Rd H a (.dT kvs)/\y=.ref b/\H b=ga (.tup (k.map kV))/\r=xI kvs k
def MM(H:Hp)(a:Uf)(y v:V)(H':Hp):Prop:=
 (∃kvs k,H a=ga (.dK kvs)/\y=kV k/\kvs.length<Ch/\H'=upd H a (.dK (zj kvs k v)))\/
 ∃kvs k b,H a=ga (.dT kvs)/\y=.ref b/\H b=ga (.tup (k.map kV))/\kvs.length<Ch/\H'=upd H a (.dT (zj kvs k v))
def Fe.k{H:Hp}{a:Uf}{kvs:T0 (rF×V)}{k:rF}(e:H a=ga (.dK kvs)):Fe H a (kV k) (xI kvs k):=.inl ⟨kvs,k,.inl e,Z',Z'⟩
def MM.k{H:Hp}{a:Uf}{kvs:T0 (rF×V)}{k:rF}(e:H a=ga (.dK kvs))(hl:kvs.length<Ch):MM H a (kV k) v (upd H a (.dK (zj kvs k v))):=.inl ⟨kvs,k,e,Z',hl,Z'⟩
variable {W7:T0 (Uf × Obj)}{Y:St}{y v:V}{u r:Vl}
section
variable {s:Sd}{o:Option V}{A:Ar}{E:QQX}
def Inv.big(I:Inv X W7 Y H s):AT<s.heap.objs.size:=by have h:gt<s.heap.objs.size:=(I.mod.glob.keeps I.bk).lt;exact iD (by decide) h
def Kw{Q:QQX}(hu:A.units+1<W')(I:Inv X W7 Y H s)(g:Fe H a y (ga v))(ry:rh y u)(h:∀w' s',Inv X W7 Y H s'->rh v w'->Q w' s'):
  pi (Tk X.prog X.w) A (XXb (.ref a) u) Q E s:=by
 rcases g with⟨kvs,k,e,ey,l⟩|⟨kvs,k,b,e,ey,eb,l⟩
 .subst ey;obtain⟨z,hd,vs,Ys,dd⟩:=IY I.mZ e;obtain⟨w',hw,YV⟩:=yM.some_of (v:=v) (o:=valueAt vs k) (by rw[l];exact Ys.val k);exact wpAny_getItem_of (G4 ry) dd.mapOf hw (h w' _ (I.tok _) YV)
 .subst ey;cases(show u=Value.ref b from ry);obtain⟨z,hd,xs,Ys,dd⟩:=Jt I.mZ e;obtain⟨w',hw,YV⟩:=yM.some_of (v:=v) (o:=(atKey xs k).map (·.2)) (by rw[l];exact Ys.val k);obtain⟨p,hp,Xh⟩:=hZ.mp hw;refine wpAny_getItem_heap (jo hu) (Fb I.mZ eb) dd hp ?_;rw[Xh];exact h w' _ (I.tok _) YV
def Wg{Q:QQX}(hu:A.units+1<W')(I:Inv X W7 Y H s)(g:Fe H a y o)(ry:rh y u)(h:∀s',Inv X W7 Y H s'->Q (.bool o.isSome) s'):
  pi (Tk X.prog X.w) A (Op .In u (.ref a)) Q E s:=by
 rcases g with⟨kvs,k,e,ey,l⟩|⟨kvs,k,b,e,ey,eb,l⟩
 .subst ey;obtain⟨z,hd,vs,Ys,dd⟩:=IY I.mZ e;refine wpAny_in_of (G4 ry) hd dd.mapOf ?_;rw[<-(Ys.val k).nI,<-l];exact h _ (I.tok _)
 .subst ey;cases(show u=Value.ref b from ry);obtain⟨z,hd,xs,Ys,dd⟩:=Jt I.mZ e;refine wpAny_in_heap (jo hu) (Fb I.mZ eb) hd dd ?_;have q:=(Ys.val k).nI;rw[jx]at q;rw[<-q,<-l];exact h _ (I.tok _)
def JM{t':Nat}(I:Inv X W7 Y H s)(mu:TJ (H a))(hs:Heap.SameBut a s.heap h')(he:∃q,h'.get? a=ga q)(new:sR X.prog X.w (upd H a ob) h' a ob):
  Inv X W7 Y (upd H a ob) {s with heap:=h',toks:=t'}:=
 I.write (x:=a) (e:=a) mu (.inl Z') (λb q hb z=>(hs.2 b hb).trans z) he new
def Lr{H':Hp}{h':No}{kvs:T0 (rF×V)}(z:kvs.length<=Ch)(hd:(a==AT)=pc)(Ys:KV kvs vs)(dd:h'.DictOf (rQ P w) a vs):
  sR P w H' h' a (.dK kvs):=⟨z,hd,vs,Ys,dd⟩
def Ky{Q:Unit->Sd->Prop}(hu:A.units+1<W')(I:Inv X W7 Y H s)(g:MM H a y v H')(ry:rh y u)(rv:rh v r)(h:∀s',Inv X W7 Y H' s'->Q () s'):
  pi (Tk X.prog X.w) A (setItem (.ref a) u r) Q E s:=by
 rcases g with⟨kvs,k,e,ey,l,eH⟩|⟨kvs,k,b,e,ey,eb,l,eH⟩
 .subst ey eH;obtain⟨z,hd,vs,Ys,dd⟩:=TQ I.mZ e;have hz:vs.length<=Ch:=by rw[<-Ys.length];exact z
  have hl:(zj kvs k v).length<=Ch:=by have:=AW kvs k v;lia
  refine wpAny_setItem_pairs (hsz:=hz) (G4 ry) dd λh' dd' hs=>h _ ?_;have he:∃q,h'.get? a=ga q:=let⟨q,_,_,hq,_⟩:=dd';⟨q,hq⟩;exact JM I (by rw[e];exact True.intro) hs he (Lr hl hd (Ys.put k rv) dd')
 .subst ey eH;cases(show u=Value.ref b from ry);obtain⟨z,hd,xs,Ys,dd⟩:=U' I.mZ e;have hz:xs.length<=Ch:=by rw[<-js Ys];exact z
  have hl:(zj kvs k v).length<=Ch:=by have:=AW kvs k v;lia
  refine wpAny_setItem_heap (hsz:=hz) (jo hu) (Fb I.mZ eb) dd λh' dd' hs=>h _ ?_;obtain⟨q,es,ep,hq,h2,h3,h4,_,h5⟩:=dd';refine JM I (by rw[e];exact True.intro) hs ⟨q,hq⟩ ⟨hl,hd,_,(Ys.put k eb rv).keeps λc ys ec=>?_,q,es,ep,hq,h2,h3,h4,h5⟩;rw[qo (UZ ec e (λz=>nomatch z))];exact ec
end
variable {kvs:T0 (rF × V)}{k:rF}
section
variable {s:Sd}{A:Ar}{E:QQX}
end
def Hc{W7:QQY}(I:Inv X W7 Y H s)(g:Fe H a y o):s.TypeIs (.ref a) "dict":=by
 rcases g with⟨kvs,k,e,_,_⟩|⟨kvs,k,b,e,_,_,_⟩
 .obtain⟨_,_,vs,_,dd⟩:=IY I.mZ e;exact dd.typeIs
 .obtain⟨_,_,xs,_,dd⟩:=Jt I.mZ e;exact dd.typeIs
def Ub(td ty tv:TE):TS:=λD Y H=>tv Y H λv H1=>td Y H1 λx H2=>ty Y H2 λy H3=>∃a H4,x=.ref a/\MM H3 a y v H4/\D.nx Y H4
variable {i e value:Go}{pos Xl Zh:Pos}{td ty tv:TE}
section
variable {o:Go}
def Qp(hu:X.A.units+1<W')(ho:PE X o td)(hi:PE X i ty)(hv:PE X value tv)(hs:ZB value (ga (.Subscript o i Xl)) pos.line X.env=pure pc):
  PS X (.Assign [.Subscript o i Xl] value pos) (Ub td ty tv):=by
 intro W7 s Y H D I h;refine wpAny_Assign_Subscript (tE (hv W7 s Y H _ I h) λr s1 zz=>x5 zz λv H1 I1 rv q1=>tE (ho W7 s1 Y H1 _ I1 q1) λu s2 zz=>x5 zz λx H2 I2 rx q2=>tE (hi W7 s2 Y H2 _ I2 q2) λiv s3 zz=>?_) hs;obtain⟨y,H3,I3,ry,a,H4,ex,g,q3⟩:=zz;subst ex;obtain rfl:u=Value.ref a:=rx;exact Ky hu I3 g ry rv λs4 I4=>⟨Y,H4,I4,q3⟩
end
structure M1(X:Cx)(o:Go)(m:Str)(Xa:Pos)(e:Go)(Xf:Pos):Prop where
 base:Rs o m X.env (wp o X.env)=wp o X.env
 pE:((At Xf (Tl [e] X.env)).all (λx=>!x.1)&&(TD Xf (Ps [] X.env)).all (λx=>x.1.isSome)
  &&decide (([e]:List Go).length+([]:List TW).length+(if ([]:List TW).isEmpty then 0 else 1)<30))=Db
 line:(Xa.endLine==Xf.line)=Db
 trees:At Xf (Tl [e] X.env)=[(pc,wp e X.env)]
structure M2(X:Cx)(o:Go)(m:Str)(Xa:Pos)(e f:Go)(Xf:Pos):Prop where
 base:Rs o m X.env (wp o X.env)=wp o X.env
 pE:((At Xf (Tl [e,f] X.env)).all (λx=>!x.1)&&(TD Xf (Ps [] X.env)).all (λx=>x.1.isSome)
  &&decide (([e,f]:List Go).length+([]:List TW).length+(if ([]:List TW).isEmpty then 0 else 1)<30))=Db
 line:(Xa.endLine==Xf.line)=Db
 trees:At Xf (Tl [e,f] X.env)=[(pc,wp e X.env),(pc,wp f X.env)]
variable {d:V}
section
variable {s:Sd}{o:Option V}{A:Ar}{E:QQX}
end
variable {f:Go}{Xa Xf:Pos}{tx:TE}
section
variable {o:Go}
end
section
variable {s:Sd}{A:Ar}{E:QQX}
end
section
variable {s:Sd}{A:Ar}{E:QQX}
end
section
variable {κ:Type}[DecidableEq κ]
end
noncomputable def Br(env:Env):T0 (Str×wP)->T0 (Str×Uf)->T0 (Str×Uf)
 | [],acc=>acc
 | (n,k)::r,acc=>Br env r (if k==.free then(n,(env.cells.lookup n).getD 0)::acc else acc)
theorem GP{env:Env}{f:(Str×wP)->T0 (Str×Uf)->Sem (ForInStep (T0 (Str×Uf)))} (hf:∀x cs,(x.2=.free->∃c,env.cells.lookup x.1=ga c)->f x cs=pure (.yield (if x.2==.free then(x.1,(env.cells.lookup x.1).getD 0)::cs else cs))):
  ∀(l:T0 (Str×wP)) (acc:T0 (Str×Uf)),(∀x∈l,x.2=.free->∃c,env.cells.lookup x.1=ga c)->forIn l acc f=pure (Br env l acc)
 | [],acc,_=>by rw[kg];rfl
 | (n,k)::r,acc,h=>by rw[jY,hf (n,k) acc (h _ dO),pure_bind];exact GP hf r _ λx hx=>h x (dE _ hx)
def yR{scope:XXa}{env:Env}(h:∀x∈scope.names,x.2=.free->∃c,env.cells.lookup x.1=ga c):closureFor scope env=pure (Br env scope.names []):=by
 unfold closureFor;have e:=GP (env:=env) (f:=λ(x:Str×wP) (cs:T0 (Str×Uf))=>(do
   if x.2==.free then
    let a<-cellOf env x.1
    pure (ForInStep.yield ((x.1,a)::cs))
   else pure (ForInStep.yield cs))) (λx cs hx=>by
  cases hk:x.2==NameKind.free with
  | false=>simp
  | true=>
   obtain⟨c,hc⟩:=hx (by simpa using hk);simp[cellOf,hc]) scope.names [] h
 first
  | exact(eV (·>>=pure) e).trans (by simp)
  | (simp only[bind_pure];exact e)
  | (rw[<-e];rfl)
theorem Ni{env:Env}{x:Str}{c:Uf}:∀{l:T0 (Str×wP)} {acc:T0 (Str×Uf)},(∀x∈l,x.2=.free->∃c,env.cells.lookup x.1=ga c)->(∀x c,acc.lookup x=ga c->env.cells.lookup x=ga c)->(Br env l acc).lookup x=ga c->env.cells.lookup x=ga c
 | [],acc,_,ha,h=>ha x c h
 | (n,k)::r,acc,hl,ha,h=>by
  refine Ni (l:=r) (acc:=if k==.free then(n,(env.cells.lookup n).getD 0)::acc else acc) (λy hy=>hl y (dE _ hy)) (λy d hd=>?_) h;cases hk:k==NameKind.free with
  | false=>rw[hk]at hd;exact ha y d (by simpa using hd)
  | true=>
   rw[hk,de Z']at hd;obtain⟨e,he⟩:=hl (n,k) dO (by simpa using hk);rw[eK]at hd;cases hy:y==n with
   | true=>
    rw[hy]at hd;have yn:y=n:=by simpa using hy
    subst yn;have he:env.cells.lookup y=ga e:=he;rw[he]at hd ⊢;exact hd
   | false=>rw[hy]at hd;exact ha y d hd
theorem LV{x:Str}:∀{l:T0 (Str×wP)} {acc:T0 (Str×Uf)},(∃c,acc.lookup x=ga c)->∃c,(Br env l acc).lookup x=ga c
 | [],_,h=>h
 | (n,k)::r,acc,h=>by
  refine LV (l:=r) ?_;cases hk:k==NameKind.free with
  | false=>simpa using h
  | true=>
   rw[de Z',eK];cases hy:x==n with
   | true=>exact⟨_,Z'⟩
   | false=>exact h
theorem IG{x:Str}:∀{l:T0 (Str×wP)} {acc:T0 (Str×Uf)},l.lookup x=ga .free->∃c,(Br env l acc).lookup x=ga c
 | [],_,h=>by simp at h
 | (n,k)::r,acc,h=>by
  rw[eK]at h;cases hy:x==n with
  | true=>rw[hy]at h;have hk:k=.free:=dg h;subst hk;refine LV (l:=r) ⟨(env.cells.lookup n).getD 0,?_⟩;show List.lookup x (if NameKind.free==NameKind.free then(n,(env.cells.lookup n).getD 0)::acc else acc)=ga ((env.cells.lookup n).getD 0);rw[de (by rfl),eK,hy]
  | false=>rw[hy]at h;exact IG (l:=r) h
theorem uV{env:Env}{x:Str}:∀{l:T0 (Str×wP)},(l.map λ(n,k)=>if (k==NameKind.free&&env.scope.kind==.function&&env.kindOf n==ga .cell)then(n,NameKind.cell)else(n,k)).lookup x
   = (l.lookup x).map λk=>if (k==NameKind.free&&env.scope.kind==.function&&env.kindOf x==ga .cell)then NameKind.cell else k
 | []=>rfl
 | (n,k)::r=>by
  rw[dW];show List.lookup x ((if (k==NameKind.free&&env.scope.kind==.function&&env.kindOf n==ga .cell)=Db then(n,NameKind.cell)else(n,k))::_)=_;cases hy:x==n with
  | true=>
   have yn:x=n:=by simpa using hy
   subst yn;by_cases hc:(k==NameKind.free&&env.scope.kind==.function&&env.kindOf x==ga .cell)=Db
   .rw[de hc,eK,eK,hy];simp only[jZ];rw[de hc]
   .rw[c9 hc,eK,eK,hy];simp only[jZ];rw[c9 hc]
  | false=>
   by_cases hc:(k==NameKind.free&&env.scope.kind==.function&&env.kindOf n==ga .cell)=Db
   .rw[de hc,eK,eK,hy];exact uV
   .rw[c9 hc,eK,eK,hy];exact uV
noncomputable def OD(ix:T0 (Option Nat))(Y:St):St:=ix.map λo=>o.bind λi=>(Y[i]?).join
abbrev Cx.comp(X:Cx)(scope:XXa)(N':QQQ)(C:Uf)(s0:Sd)(H0:Hp)(ex:QXQ):Cx:=
 {X with N:=N',s₀:=s0,H₀:=H0,env:=compEnvC scope (Br X.env scope.names []) C X.env,outer:=X.stack,ex:=ex,fn:=λ_=>pc,pn:=[],xe:=λ_ _=>False}
structure sV(X:Cx)(scope:XXa)(ix:List (Option Nat))(N':QQQ):Prop where
 kind:scope.kind=.function
 oQ:∀y∈scope.names,y.2≠.cell
 nam:∀y∈scope.names,y.2=.local->scope.names.lookup y.1=ga .local
 fre:∀y∈scope.names,y.2=.free->X.env.scope.names.lookup y.1=ga .cell\/X.env.scope.names.lookup y.1=ga .free
 len:ix.length=N'.length
 at_:∀(j i:Nat) (x:Str),ix[j]?=ga (ga i)->N'[j]?=ga x->X.N[i]?=ga x/\scope.names.lookup x=ga .free
variable {scope:XXa}{ix:T0 (Option Nat)}{N':QQQ}{fp:QXQ}
section
variable {s:Sd}
def sV.cells(S:sV X scope ix N')(ok:X.Ok):∀x∈scope.names,x.2=.free->∃c,X.env.cells.lookup x.1=ga c:=λx hx hk=>ok.has x.1 (S.fre x hx hk)
def sV.sub(S:sV X scope ix N')(ok:X.Ok){x:Str}{c:Uf}(h:(Br X.env scope.names []).lookup x=ga c):X.env.cells.lookup x=ga c:=Ni (S.cells ok) (λ_ _ z=>by simp at z) h
theorem vV{x:Str}{k:wP}:∀{l:T0 (Str×wP)},l.lookup x=ga k->(x,k)∈l
 | [],h=>by simp at h
 | (n,j)::r,h=>by
  rw[eK]at h;cases hy:x==n with
  | true=>
   rw[hy]at h;have yn:x=n:=by simpa using hy
   subst yn;rw[dg h];exact dO
  | false=>rw[hy]at h;exact dE _ (vV h)
def Inv.comp{C:Uf}{h1:No}{tk:Nat}(I:Inv X W7 Y H s)(S:sV X scope ix N')(hf:∀b∈fp,By X W7 H b)(Xn:∀b∈fp,b<s.heap.objs.size)(hC:s.heap.objs.size<=C) (k:∀b o,s.heap.get? b=ga o->h1.get? b=ga o) (hn:h1.Ns C (λ_=>Fa)):Inv (X.comp scope N' C s H fp) (X.pn++W7) (OD ix Y) H {s with heap:=h1,toks:=tk}:=by
 have sub:∀{x:Str} {c:Uf},(Br X.env scope.names []).lookup x=ga c->X.env.cells.lookup x=ga c:=λh=>S.sub I.ok h;refine⟨⟨I.ok.mod,S.kind,I.ok.glob,I.ok.blt,hC,λx y c e1 e2=>I.ok.inj x y c (sub e1) (sub e2),λx hx=>?_,λ_ _ z=>(dw z).elim,I.ok.hd,I.ok.frames,.inl Z',λb hb=>⟨dP (dR (Xn b hb) hC),λx c e=>(hf b hb).2.2.2.2.1 x c (sub e)⟩,I.bs,d9 I.ok.ou I.sz,λb o e hb=>?_,λb hb hfs=>?_,I.stack,I.nO⟩,Z',I.bare,Un.kept k,⟨_,hn,λi x v e1 e2 e3=>?_⟩,λx c e=>?_,I.mZ.fresh hC,λx c e=>I.nj x c (sub e),λp hp=>?_,I.mZ.kept k,?_⟩
 .have hx:(relabel scope X.env).names.lookup x=ga .cell\/(relabel scope X.env).names.lookup x=ga .free:=hx;have e:(relabel scope X.env).names.lookup x=(scope.names.lookup x).map λk=>if (k==NameKind.free&&X.env.scope.kind==.function&&X.env.kindOf x==ga .cell)then NameKind.cell else k:=uV
  rw[e]at hx;cases q:scope.names.lookup x with
  | none=>rw[q]at hx;rcases hx with hx|hx<;>simp at hx
  | some kd=>
   cases kd with
   | free=>exact IG q
   | cell=>exact absurd Z' (S.oQ _ (vV q))
   | _=>rw[q]at hx;rcases hx with hx|hx<;>simp at hx
 .rcases(hf b hb).2.2.2.1 with z|z
  .exact I.ok.nY b o e z
  .exact absurd (dR (dB e) (d9 I.ok.ou z)) (fk _)
 .rcases dh.mp (I.nJ b hfs)with z|z
  .exact(hf b hb).2.1 z
  .exact(hf b hb).2.2.1 z
 .have Zj:(ix[i]?).map (λo=>o.bind λi=>(Y[i]?).join)=ga (ga v):=by have z:(OD ix Y)[i]?=ga (ga v):=e2;unfold OD at z;rw[dC]at z;exact z
  cases q:ix[i]? with
  | none=>rw[q]at Zj;cases Zj
  | some o=>
   rw[q]at Zj;cases o with
   | none=>cases Zj
   | some j=>
    have Zk:(Y[j]?).join=ga v:=dg Zj;have e4:Y[j]?=ga (ga v):=by
     cases r:Y[j]? with
     | none=>rw[r]at Zk;cases Zk
     | some w=>rw[r]at Zk;exact eV ga Zk
    obtain⟨n1,n2⟩:=S.at_ i j x q e1;obtain⟨m,hm,hl⟩:=I.loc;have hk:=S.fre _ (vV n2) Z';have hv:UL X.env.scope x:=by
     rcases hk with z|z
     .exact .inr (.inl z)
     .exact .inr (.inr z)
    obtain⟨u,ru,lk⟩:=hl j x v n1 e4 hv;refine⟨u,ru,?_⟩;have hk':X.env.kindOf x=ga .cell\/X.env.kindOf x=ga .free:=hk;rcases lk with⟨z,_⟩|⟨_,c,hc,hcell⟩
    .rcases hk' with y|y<;>(rw[y]at z;cases z)
    .obtain⟨c',hc'⟩:=IG (env:=X.env) (acc:=[]) n2;have:=sub hc';rw[hc]at this;cases this;refine .inr ⟨?_,c,hc',hcell.keeps k⟩;show(relabel scope X.env).names.lookup x=ga .cell\/(relabel scope X.env).names.lookup x=ga .free;have e:(relabel scope X.env).names.lookup x=(scope.names.lookup x).map λk=>if (k==NameKind.free&&X.env.scope.kind==.function&&X.env.kindOf x==ga .cell)then NameKind.cell else k:=uV
     rw[e,n2];simp only[jZ];split
     .exact .inl Z'
     .exact .inr Z'
 .obtain⟨v,q⟩:=I.cell x c (sub e);exact⟨v,q.keeps k⟩
 .obtain⟨e,n,ne,nf,d⟩:=I.pin p (by simpa using hp);refine⟨k _ _ e,n,dP (dR (dB e) hC),λz=>?_,d⟩;rcases dh.mp (I.nJ p.1 z)with y|y
  .exact ne y
  .exact nf y
 .show(OD ix Y).length=N'.length;unfold OD;rw[cV];exact S.len
end
section
variable {prog:Pg}{w:Wo}{A:Ar}{R:Result→Sd→Prop}{s:Sd}
def yd{X4 XB iter:Go}{XH:T0 Go}{scope:XXa}{pos:Pos}{it acc:Vl}{env:Env}(I:Nat->Sd->Prop){EX:QQX}(hEX:∀e s',EX e s'->notedBy (Tk prog w) A env (λx s'=>R (.error x) s') e s') (turn:∀n s,I n s->pi (Tk prog w) A (pyNext it) (λr s₁=>match r with
   | none=>R (.ok .next) s₁
   | some v=>pi (Tk prog w) A (XXe XB it v) (λ_ s₁=>pi (Tk prog w) A (assign XB env v) (λ_ s₂=>
     pi (Tk prog w) A (forIn XH Db λc r=>if r=Db then do let ok<-isTrue c env (wp c env);pure (ForInStep.yield ok)else pure (ForInStep.yield r)) (λok s₃=>
      if ok=Db then pi (Tk prog w) A (wp X4 env) (λx s₄=>
       pi (Tk prog w) A (call (.builtin "list.append") [acc,x]) (λ_ s₅=>∃m,m<n/\I m s₅) (λ_ _=>False) s₄) EX s₃
      else ∃m,m<n/\I m s₃) (λ_ _=>False) s₂) (λ_ _=>False) s₁) (λ_ _=>False) s₁) (λ_ _=>False) s)
  (n:Nat) (h:I n s):
  XXf (Tk prog w) A (.compLoop (.ListComp X4 [⟨XB,iter,XH,0⟩] scope pos) 0 it acc env) R s:=by
 refine codeAny_loop Z' I (λn s hI=>?_) n h;show pi _ A ((compTurn (.ListComp X4 [⟨XB,iter,XH,0⟩] scope pos) 0 it acc env).onRaise (λx=>do noteFrame x env;theTreesLotGoes x)) _ _ s;refine wpAny_noted ?_;rw[compTurn_list];refine cW (ip (cW (eD (turn n s hI) (λr s₁ h₁=>?_) λ_ _ h'=>h'.elim)));cases r with
 | none=>exact dv h₁
 | some v=>
  refine cW (eD h₁ (λ_ s₁' h₁'=>?_) λ_ _ h'=>h'.elim);refine cW (eD h₁' (λ_ s₂ h₂=>cW (eD h₂ (λok s₃ h₃=>?_) λ_ _ h'=>h'.elim)) λ_ _ h'=>h'.elim);cases ok with
  | false=>exact dv ⟨Z',h₃⟩
  | true=>exact cW (cW (eD h₃ (λx s₄ h₄=>cW (eD h₄ (λ_ s₅ h₅=>dv (dv ⟨Z',h₅⟩)) λ_ _ h'=>h'.elim)) hEX))
end
def PF(X:Cx)(XH:T0 Go)(t:TT):Prop:=
 ∀(W7:QQY) (s:Sd) (Y:St) (H:Hp) (Q:Bool->Hp->Prop),Inv X W7 Y H s->t Y H Q->
  pi (Tk X.prog X.w) X.A (forIn XH Db λc r=>if r=Db then do let ok<-isTrue c X.env (wp c X.env);pure (ForInStep.yield ok)else pure (ForInStep.yield r)) (TP X W7 Y Q) X.xe s
def TR:TT:=λ_ H Q=>Q Db H
def S6:PF X [] TR:=λ_ _ _ H _ I h=>wpAny_tests_nil ⟨H,I,h⟩
def SB(h:PT X c t):PF X [c] t:=λW7 s Y H Q I q=>wpAny_tests_one (h W7 s Y H Q I q)
def QO(ix:T0 (Option Nat))(g:TG)(tt:TT)(te:TE)(Y:St)(J:It)(Q:VK)(H:Hp):Prop:=
 ∃W:Nat->Nat->T0 V->St->Hp->Prop,(∃m,W 0 m [] (OD ix Y) H)/\∀i m ys σ' H,W i m ys σ' H->
  (J.stop i H/\ys.length<=Ch/\∀D,H D=Fa->Q (.ref D) (upd H D (.lst ys)))\/
  (J.go i H/\ys.length<Ch/\∀x H',J.pj i H x H'->g x σ' H' λσ2 H2=>tt σ2 H2 λb H3=>if b=Db then te σ2 H3 λy H4=>∃m',m'<m/\W (i+1) m' (ys++[y]) σ2 H4 else ∃m',m'<m/\W (i+1) m' ys σ2 H3)
def ND(ix:T0 (Option Nat))(wi:TI)(g:TG)(tt:TT)(te:TE):TE:=λY H Q=>wi Y H λJ H1=>QO ix g tt te Y J Q H1
variable {tg iter X4:Go}{XH:T0 Go}{g:TG}{tt:TT}{te:TE}{J:It}{it:Uf}{tn:Nat→No→Prop}{Q:VK}
section
variable {s:Sd}
def B6{XP:Uf->Sd->Hp->QXQ->QQY->St->Vl->Sd->Prop}{RR:Vl->Uf->Result->Sd->Prop}{E:QQX}(hc:X.calm=Db)(S:sV X scope ix N')(I:Inv X W7 Y H s)(T:Gj X.prog X.w X.K tg J fp it tn)(st:tn 0 s.heap)(hf:∀b∈fp,By X W7 H b) (hg:∀C s0 H0 ex,PG (X.comp scope N' C s0 H0 ex) tg g) (ht:∀C s0 H0 ex,PF (X.comp scope N' C s0 H0 ex) XH tt) (he:∀C s0 H0 ex W7 s Y H Q,Inv (X.comp scope N' C s0 H0 ex) W7 Y H s->te Y H Q->pi (Tk X.prog X.w) X.A (wp X4 (X.comp scope N' C s0 H0 ex).env) (EP (X.comp scope N' C s0 H0 ex) W7 Y Q) (XP C s0 H0 ex W7 Y) s) (hx:∀C D e s',s.heap.objs.size<=C->(∃Yb σ',(∀b∈fp,∃o,(b,o)∈Yb)/\XP C s H fp Yb σ' e s')->notedBy (Tk X.prog X.w) X.A (compEnvC scope (Br X.env scope.names []) C X.env) (λx s'=>RR D C (.error x) s') e s') (hw:QO ix g tt te Y J Q H) (Xc:∀D C s' H' m,s.heap.objs.size<=C->H' C=Fa->s'.heap.Ns C m->Inv X W7 Y H' s'->Q (.ref D) H'->RR (.ref D) C (.ok .next) s'):
  pi (Tk X.prog X.w) X.A (newList []) (λacc s₃=>pi (Tk X.prog X.w) X.A (newFunctionEnv scope X.env.globals (Br X.env scope.names []) [] X.env.qual Fa .none (ga X.env)) (λXS s₄=>
   XXf (Tk X.prog X.w) X.A (.compStart (.ListComp X4 [⟨tg,iter,XH,0⟩] scope pos) 0 (.ref it) acc {XS with scope:=relabel scope X.env}) (RR acc XS.locals) s₄) E s₃) E s:=by
 obtain⟨W,⟨m0,w0⟩,turn⟩:=hw;have Xn:∀b∈fp,b<s.heap.objs.size:=λb hb=>by obtain⟨o,e,_⟩:=T.obj _ _ st b hb;exact dB e
 refine gc (wpAny_newFunctionEnv S.oQ (by intro y hy;simp at hy) (λh₁ YY Zl=>?_) S.kind);dsimp only at YY Zl ⊢;generalize hH2:s.heap.push {cls:=.type "list",dict:=none,data:=.seq ([]:T0 Vl).toArray}=H2 at YY Zl ⊢;have hC:H2.objs.size=s.heap.objs.size+1:=by rw[<-hH2,fT]
 have hDC:s.heap.objs.size≠H2.objs.size:=by rw[hC];exact dP (fR _)
 have Zm:s.heap.objs.size<=H2.objs.size:=by rw[hC];exact gS _
 have ZE:∀b,b<s.heap.objs.size->b≠H2.objs.size/\b≠s.heap.objs.size:=λb hb=>⟨by rw[hC];exact dP (gM hb),dP hb⟩;have XD:∀b o,s.heap.get? b=ga o->h₁.get? b=ga o:=λb o e=>Zl.extBut b o (ZE b (dB e)).1 (df _ (hH2 ▸ df _ e));have hacc:h₁.get? s.heap.objs.size=ga {cls:=.type "list",data:=.seq ([]:T0 Vl).toArray 0}:=Zl.extBut _ _ hDC (df _ (hH2 ▸ dM _ Z'));have YY:h₁.Ns H2.objs.size (λ_=>Fa):=YY;have Yq:∀{H':Hp} {pl:QQY},(∀b∈fp,H' b=Fa)->(∀p∈pl,p.1∉fp)->∀b∈fp,By (X.comp scope N' H2.objs.size s H fp) (X.pn++W7++pl) H' b:=λ{H' pl} hn Xp b hb=>by
  refine⟨hn b hb,dP (dR (Xn b hb) Zm),λz=>?_,.inl hb,λx c e=>(hf b hb).2.2.2.2.1 x c (S.sub I.ok e),λp hp=>?_⟩
  .rcases dh.mp (I.nJ b z)with y|y
   .exact(hf b hb).2.1 y
   .exact(hf b hb).2.2.1 y
  .rcases dY.mp (show p∈X.pn++W7++pl by simpa using hp)with z|z
   .exact(hf b hb).2.2.2.2.2 p z
   .intro q;exact Xp p z (q ▸ hb)
 have loop:∀s₃:Sd,s₃={s with heap:=h₁,toks:=s.toks+([]:T0 (Str×Vl)).length}->
   XXf (Tk X.prog X.w) X.A (.compLoop (.ListComp X4 [⟨tg,iter,XH,0⟩] scope pos) 0 (.ref it) (.ref s.heap.objs.size) (compEnvC scope (Br X.env scope.names []) H2.objs.size X.env))
    (RR (.ref s.heap.objs.size) H2.objs.size) s₃:=by
  rintro s₃ rfl
  refine yd (hEX:=λe s' z=>hx _ _ e s' Zm z) (λn s'=>∃(i:Nat) (ys:T0 V) (us:T0 Vl) (k:Nat) (σ':St) (H':Hp),Inv (X.comp scope N' H2.objs.size s H fp) (X.pn++W7) σ' H' s'/\tn i s'.heap/\(∀b∈fp,H' b=Fa)/\H' s.heap.objs.size=Fa/\
   s'.heap.get? s.heap.objs.size=ga {cls:=.type "list",data:=.seq us.toArray k}/\qN ys us/\ys.length<=Ch/\W i n ys σ' H') ?_ m0
   ⟨0,[],[],0,OD ix Y,H,I.comp S hf Xn Zm XD YY,T.keep _ _ _ st λb _ o e=>XD b o e,λb hb=>(hf b hb).1,I.mZ.fresh (dq _),hacc,.nil,eQ _,w0⟩
  rintro n s' ⟨i,ys,us,k,σ',H',I',X1,fr',hD',XQ,rv',hz',w'⟩
  have cellD:∀x c,(X.comp scope N' H2.objs.size s H fp).env.cells.lookup x=ga c->c≠s.heap.objs.size:=λx c e=>by obtain⟨v,q⟩:=I.cell x c (S.sub I.ok e);exact dP q.lt
  have pinD:∀p∈X.pn++W7,p.1≠s.heap.objs.size:=λp hp=>dP (dB (I.pin p hp).1);have dfs:s.heap.objs.size∉(X.comp scope N' H2.objs.size s H fp).fs:=λz=>by
   rcases dh.mp (I.nJ _ z)with y|y
   .exact absurd I.lt (by rw[<-y];exact fk _)
   .exact I.oU (dq _) y
  have dfp:s.heap.objs.size∉fp:=λz=>absurd (Xn _ z) (fk _);have IpD:Inv (X.comp scope N' H2.objs.size s H fp) (X.pn++W7++[(s.heap.objs.size,{cls:=.type "list",data:=.seq us.toArray k})]) σ' H' s':=I'.nU λp hp=>by
   rcases dY.mp hp with z|z
   .exact I'.pin p (eJ _ z)
   .have e:p=(s.heap.objs.size,{cls:=.type "list",data:=.seq us.toArray k}):=by simpa using z
    subst e;exact⟨XQ,hD',hDC,dfs,λv z=>by cases z⟩
  have pfp:∀p∈[((s.heap.objs.size,{cls:=.type "list",data:=.seq us.toArray k}):Uf×Obj)],p.1∉fp:=λp hp=>by
   have e:p=(s.heap.objs.size,{cls:=.type "list",data:=.seq us.toArray k}):=by simpa using hp
   subst e;exact dfp
  rcases turn i n ys σ' H' w' with⟨stop,hz,q⟩|⟨go,hz,step⟩
  .refine eD (T.done (X.comp scope N' H2.objs.size s H fp) Z' Z' Z' hc i _ s' σ' H' (λ_ _=>False) IpD (Yq fr' pfp) X1 stop) (λr s1 ⟨hr,I1⟩=>?_) λ_ _ z=>z;subst hr;show RR _ _ _ _;have Z0:s1.heap.get? s.heap.objs.size=ga {cls:=.type "list",data:=.seq us.toArray k}:=(I1.pin (s.heap.objs.size,{cls:=.type "list",data:=.seq us.toArray k}) (by simp)).1;obtain⟨m,hnC,_⟩:=id I1.loc;refine Xc _ _ s1 (upd H' s.heap.objs.size (.lst ys)) m Zm (by rw[qo (dQ hDC)];exact I1.free) hnC ?_ (q _ hD');have nD:∀b o,s.heap.get? b=ga o->b≠s.heap.objs.size:=λb o e=>(ZE b (dB e)).2;have hD0:H s.heap.objs.size=Fa:=I.mZ.fresh (dq _);refine I.oY (s':=s1) (ch:=fp) I1.os ⟨λb o e n1 n2 n3=>?_,λb o e n1 n2 n3=>?_,λb o e n1 n2=>?_,λb o e n1=>?_,λb xs e=>?_,λb o u e=>?_,λb ps e=>?_⟩ (λb u e=>?_) I1.bare λb hb=>⟨(hf b hb).2.2.2.1,(hf b hb).2.1,(hf b hb).2.2.2.2.1,(hf b hb).2.2.2.2.2⟩
   .exact I1.base.keep b o e n1 n2 n3
   .exact I1.base.slot b o e n1 n2 n3
   .rw[qo (nD b o e)];exact I1.base.free b o e n1 n2
   .exact I1.base.there b o e n1
   .rw[qo (rB e hD0)];exact I1.base.nM b xs e
   .rw[qo (rB e hD0)];exact I1.base.nK b o u e
   .obtain⟨more,z⟩:=I1.base.nQ b ps e;exact⟨more,by rw[qo (rB e hD0)];exact z⟩
   .by_cases hb:b=s.heap.objs.size
    .subst hb;rw[qy]at e;cases e;exact⟨hz,us,k,rv',Z0⟩
    .rw[qo hb]at e;exact(I1.mZ b u e).nC (λc v _ z=>z) (λc z=>by rw[qo (rB z hD')];exact z) (λc xs z=>by rw[qo (rB z hD')];exact z)
  .refine eD (T.item (X.comp scope N' H2.objs.size s H fp) Z' Z' Z' hc i _ s' σ' H' (λ_ _=>False) IpD (Yq fr' pfp) X1 go) (λr s1 ⟨v,hr,h4⟩=>?_) λ_ _ z=>z;subst hr;show pi _ _ (XXe tg (.ref it) v) _ _ s1;refine eD h4 (λ_ s2 zz=>?_) λ_ _ z=>z;obtain⟨x,H5,I5,r5,y5,ZA,fr5⟩:=zz;have I5':=I5.pinned (Yq fr5 pfp) (T.obj _ _ ZA);refine eD (hg H2.objs.size s H fp _ s2 σ' H5 x v _ I5' r5 (step x H5 y5)) (λ_ s3 ⟨σ6,H6,I6,q6⟩=>?_) λ_ _ z=>z;refine eD (ht H2.objs.size s H fp _ s3 σ6 H6 _ I6 q6) (λok s4 ⟨H7,I7,q7⟩=>?_) λ_ _ z=>z;have ZF:∀{σ7:St} {H7:Hp} {s7:Sd},Inv (X.comp scope N' H2.objs.size s H fp) (X.pn++W7++[(s.heap.objs.size,{cls:=.type "list",data:=.seq us.toArray k})]++BW fp s2.heap) σ7 H7 s7->
     tn (i+1) s7.heap/\(∀b∈fp,H7 b=Fa)/\H7 s.heap.objs.size=Fa/\s7.heap.get? s.heap.objs.size=ga {cls:=.type "list",data:=.seq us.toArray k}:=λ{σ7 H7 s7} K7=>by
    have pd:=K7.pin (s.heap.objs.size,{cls:=.type "list",data:=.seq us.toArray k}) (by simp);refine⟨T.keep _ _ _ ZA λb hb o e=>(K7.pin (b,o) (eJ _ (eJ _ (wc hb e)))).1,λb hb=>?_,pd.2.1,pd.1⟩;obtain⟨o,e,d⟩:=T.obj _ _ ZA b hb;exact(K7.pin (b,o) (eJ _ (eJ _ (wc hb e)))).2.1
   cases ok with
   | false=>rw[c9 dw]at q7 ⊢;obtain⟨m',hm,w7⟩:=q7;obtain⟨t7,f7,d7,o7⟩:=ZF I7;exact⟨m',hm,i+1,ys,us,k,σ6,H7,I7.nq.nq,t7,f7,d7,o7,rv',hz',w7⟩
   | true=>
    rw[de Z']at q7 ⊢;refine eD (he H2.objs.size s H fp _ s4 σ6 H7 _ I7 q7) (λyv s5 ⟨y,H8,I8,r8,m',hm,w8⟩=>?_) λ_ _ z=>⟨_,_,λb hb=>(by
     obtain⟨o,e,_⟩:=T.obj _ _ ZA b hb;exact⟨o,eJ _ (wc hb e)⟩),z⟩
    obtain⟨t8,f8,d8,o8⟩:=ZF I8;have hsz:us.toArray.size<=Ch:=by rw[dz,<-rv'.length];exact hz'
    refine append_at (hsz:=hsz) o8 λh' sb od=>?_;refine⟨m',hm,i+1,ys++[y],us++[yv],k+1,σ6,H8,?_,T.keep _ _ _ t8 λb hb o e=>(sb.2 b λq=>dfp (q ▸ hb)).trans e,f8,d8,?_,rv'.append (.cons r8 .nil),?_,w8⟩
    .exact I8.nq.nq.turned (it:=s.heap.objs.size) (t':=s5.toks) (λb o hb e=>(sb.2 b hb).trans e) d8 hDC (.inr (dq _)) cellD (by simpa using pinD)
    .rw[od,List.push_toArray]
    .rw[cX,dH];exact hz
 exact codeAny_compStart_list (loop _ Z') (T.self _ 0 _ _ _ (T.keep _ _ _ st λb _ o e=>XD b o e) (loop _ Z'))
def Inv.letGo{C:Uf}(I:Inv X W7 Y H s)(I':Inv X W7 σ' H' s')(hC:s.heap.objs.size<=C)(hn:H' C=Fa)(hs:Heap.SameBut C s'.heap h'):Inv X W7 σ' H' {s' with heap:=h'}:=
 I'.turned (t':=s'.toks) (it:=C) (λb o hb e=>(hs.2 b hb).trans e) hn (λz=>absurd (dR I.lt hC) (by rw[z];exact fk _)) (.inr (d9 I.sz hC))
  (λx c e z=>by
   obtain⟨v,r⟩:=I.cell x c e;exact absurd (dR r.lt hC) (by rw[z];exact fk _))
  (λp hp z=>absurd (dR (dB (I.pin p hp).1) hC) (by rw[z];exact fk _))
def Po(hc:X.calm=Db)(S:sV X scope ix N')(hi:PI X tg iter wi)(hg:∀C s0 H0 ex,PG (X.comp scope N' C s0 H0 ex) tg g)(ht:∀C s0 H0 ex,PF (X.comp scope N' C s0 H0 ex) XH tt)(he:∀C s0 H0 ex,PE (X.comp scope N' C s0 H0 ex) X4 te) (hs:∀x,wT iter X.env x=pure x:=by intro _;rfl):PE X (.ListComp X4 [⟨tg,iter,XH,0⟩] scope pos) (ND ix wi g tt te):=by
 intro W7 s Y H Q I h;rw[eval_ListComp];refine jL (use:=none) Z' hs (yR (S.cells I.ok)) S.kind S.nam (eD (hi W7 s Y H _ I h) (λxv s₁ h₁=>eD h₁ (λitv s₂ h₂=>?_) λ_ _ e=>e) λ_ _ e=>e);obtain⟨it,fp,tn,J,H2,e,I2,T,Xw,f2,hw⟩:=h₂;subst e;refine B6 (RR:=λacc C=>compPost (Tk X.prog X.w) X.A X.xe Fa (EP X W7 Y Q) acc C) hc S I2 T Xw f2 hg ht (XP:=λ_ _ _ _ _ _ _ _=>False) he (λ_ _ _ _ _ z=>by obtain⟨_,_,_,z⟩:=z;exact z.elim) hw λD C s' H' m hCs hCn hn I3 q=>?_;exact⟨m,hn,λh' ZG=>⟨.ref D,_,I2.letGo I3 hCs hCn ZG,Z',q⟩⟩
def HP{i:Nat}{x:Str}{px YZ:Pos}(hN:X.N.Nodup)(hix:X.N[i]?=ga x)(hx:Nk X.env.scope x)(hc:X.calm=Db)(S:sV X scope ix N')(hi:PI X tg iter wi)(hg:∀C s0 H0 ex,PG (X.comp scope N' C s0 H0 ex) tg g)(ht:∀C s0 H0 ex,PF (X.comp scope N' C s0 H0 ex) XH tt) (he:∀C s0 H0 ex,PE (X.comp scope N' C s0 H0 ex) X4 te) (YG:ZB (.ListComp X4 [⟨tg,iter,XH,0⟩] scope pos) (ga (.Name x px)) YZ.line X.env=pure Db) (hf:L0 X x:=by first|exact .inl Z'|exact .inr Z'|assumption) (hs:∀x,wT iter X.env x=pure x:=by intro _;rfl):
  PS X (.Assign [.Name x px] (.ListComp X4 [⟨tg,iter,XH,0⟩] scope pos) YZ) (Th (ND ix wi g tt te) (NC i)):=by
 intro W7 s Y H D I h;rw[exec_Assign_Name_used _ _ _ _ YG];refine cW (ip (cW ?_));show pi _ X.A (do let _<-comprehension (.ListComp X4 [⟨tg,iter,XH,0⟩] scope pos) scope X.env _ (newList []) pc (wp iter X.env) (ga (assign (.Name x px) X.env))) _ _ s;refine cW (eD (jL (use:=some (assign (.Name x px) X.env)) (Q:=λ_ s'=>SP X W7 D .next s') Z' hs (yR (S.cells I.ok)) S.kind S.nam
  (eD (hi W7 s Y H _ I h) (λxv s₁ h₁=>eD h₁ (λitv s₂ h₂=>?_) λ_ _ e=>e) λ_ _ e=>e)) (λ_ s' hq=>dv (dv hq)) λ_ _ e=>e)
 obtain⟨it,fp,tn,J,H2,e,I2,T,Xw,f2,hw⟩:=h₂;subst e;refine B6 (RR:=λacc C=>compPost (Tk X.prog X.w) X.A X.xe (ga (assign (.Name x px) X.env)) (λ_ s'=>SP X W7 D .next s') acc C) hc S I2 T Xw f2 hg ht (XP:=λ_ _ _ _ _ _ _ _=>False) he (λ_ _ _ _ _ z=>by obtain⟨_,_,_,z⟩:=z;exact z.elim) hw λDa C s' H' m hCs hCn hn I3 q=>?_;show pi _ X.A (assign (.Name x px) X.env (.ref Da)) _ _ _;refine ly (Et I3 hN hix hx (v:=.ref Da) Z' (λs4 I4 ⟨a,sb,ha⟩=>?_) hf);have ca:C≠a:=λz=>by
  rcases ha with y|y
  .exact absurd (dR I2.lt hCs) (by rw[z,y];exact fk _)
  .obtain⟨v,r⟩:=I2.cell x a y;exact absurd (dR r.lt hCs) (by rw[z];exact fk _)
 exact⟨m,hn.sameBut sb ca,λh' ZG=>⟨_,H',I2.letGo I4 hCs hCn ZG,q⟩⟩
end
def Ba:typeLookup (.type "list") "__getattr__"=pure Fa:=by rw[typeLookup_type,kh];kernel_rfl
def E1:typeLookup (.type "list") "keys"=pure Fa:=by rw[typeLookup_type,kh];kernel_rfl
section
variable {prog:Pg}{w:Wo}{A:Ar}{E:QQX}
def Ml(a:Uf)(u:Tok)(its:Array Vl)(n:Nat)(sl:Array (Option Vl)):
  Meets (Builtin.«object.__getattribute__» ⟨[.ref a,.str "keys" u],[]⟩) λA R s=>s.heap.get? a=ga ⟨.type "list",Fa,.seq its n,sl⟩/\A.handled=Fa/\∀h' tk e,Heap.NewAttrErr s.heap h' e (.ref a) "keys"->R (.error (.ref e)) {s with heap:=h',toks:=tk}:=
 Meets.of_wp λprog w A R s hs=>by
  obtain⟨hp,g,d,tk,os⟩:=s;obtain⟨h1,h2,h3⟩:=hs;have hT:(⟨hp,g,d,tk,os⟩:Sd).TypeIs (.ref a) "list":=⟨_,h1,Z'⟩;have f1:=E1;unfold Builtin.«object.__getattribute__»
  repeat (any_goals(first|assumption|wp_step))
  exact wpAny_raiseAttrError h2 h3 (attrMsg_fits (by decide+kernel) (by decide))
def FG{s:Sd}{a:Uf}{its:Array Vl}{n:Nat}{sl:Array (Option Vl)}{Q:Option Vl->Sd->Prop}(ha:s.heap.get? a=ga ⟨.type "list",Fa,.seq its n,sl⟩)(hA:A.handled=Fa) (h:∀h' tk,(∀b o,s.heap.get? b=ga o->h'.get? b=ga o)->Q Fa {s with heap:=h',toks:=tk}):pi (Tk prog w) A (getAttr? (.ref a) "keys") Q E s:=by
 obtain⟨hp,g,d,tk,os⟩:=s;have hT:(⟨hp,g,d,tk,os⟩:Sd).TypeIs (.ref a) "list":=⟨_,ha,Z'⟩;have f1:=sub_AttributeError;have f3:=iE.lookup;have f4:=iE.bind (.ref a);have f5:=Ba;unfold getAttr? getAttrBy? getAttrBy
 repeat (any_goals(first|assumption|((with_reducible show pi _ _ (call (Value.builtin "list.__getattribute__") _ _) _ _ _);refine ja iE hT F.entry_list_ga (F.args_list_getattribute_2 _ _) (Ml a _ its n sl) ⟨ha,hA,λh' tk' e hx=>?_⟩)|wp_step))
 obtain⟨t',u',he⟩:=hx.there;show pi _ _ (getattributeRaised _ _ _ _ _ _ _) _ _ _;unfold getattributeRaised
 repeat (any_goals(first|assumption|wp_step))
 all_goals first|exact h _ _ hx.keeps|skip
end
def AS:entryFor table "dict.update.loop"=ga Builtin.«dict.update.loop»:=entryFor_of_tree (by kernel_rfl)
def wA:plainId "dict.update.loop"=Db:=by decide+kernel
section
variable {prog:Pg}{w:Wo}{A:Ar}{E:QQX}{R:Result→Sd→Prop}{κ:Type}[DecidableEq κ]{knd:PySem.KeyKind prog w κ}
 {I:Uf} {fp wr:QXQ} {G:Array GenState->Array GenState->Prop} {P:Nat->Vl->Prop} {St:Nat->Sd->Prop}
def Pn{s:Sd}{t:Uf}{x y:Vl}{Q:T0 Vl->Sd->Prop}(h:s.heap.IsTuple t #[x,y])(q:Q [x,y] s):pi (Tk prog w) A (Builtin.Dict.pairItems (.ref t)) Q E s:=by
 obtain⟨⟨oc,od,oda,X7⟩,h1,h2,n,h3⟩:=h;simp only at h2 h3;subst h2 h3;have hT:s.TypeIs (.ref t) "tuple":=⟨_,h1,Z'⟩;obtain⟨hp,g,d,tk,os⟩:=s;unfold Builtin.Dict.pairItems
 repeat (any_goals(first|assumption|wp_step))
def KO{all:T0 (κ×Vl)}(W:WalksS prog w A.in1 I fp wr G all.length P St)(d:Uf)(ZD:d∉fp)(kv:Nat->Vl)(tp:Nat->Uf)(hP:∀i v,P i v->v=.ref (tp i))(hw:∀j,j<all.length->tp j∉wr/\tp j≠d) (hk:∀j p,all[j]?=ga p->knd.is p.1 (kv j)=Db) (hz:all.length<=Ch):
  ∀(k i:Nat) (z:Int) (s:Sd),all.length - i=k->i<=all.length->St i s->(∀j p,all[j]?=ga p->s.heap.IsTuple (tp j) #[kv j,p.2])->s.heap.DictOf knd d (merged [] (all.take i))->
   (∀s',Moved (d::wr) G s s'->s'.heap.DictOf knd d (merged [] all)->R (.ok (.ret .none)) s')->XXf (Tk prog w) A (.builtin "dict.update.loop" ⟨[.ref d,.ref I,.int z 0,.none],[]⟩) R s:=by
 have hdw:d∉wr:=λh=>ZD (W.sub _ h);have Zn:∀b∈wr,b∈d::wr:=λb hb=>dE _ hb;intro k;induction k with
 | zero=>
  intro i z s hk0 hi Xv hT hD hR;have Y9:i=all.length:=by lia
  subst Y9;refine iy AS ?_;rw[il wA _];show pi _ A.in1 (pyNext (.ref I)>>=_) _ _ s;refine cW (W.done s _ _ Xv λs' hm=>?_);show pi _ A.in1 (Builtin.Dict.addKeywords d []>>=_) _ _ s';refine cW (dv (dv (hR s' (hm.mono Zn) ?_)));rw[fj]at hD;obtain⟨o,es,ep,ho,rest⟩:=hD;exact⟨o,es,ep,hm.heap d _ hdw ho,rest⟩
 | succ k ih=>
  intro i z s hk0 hi Xv hT hD hR;have Xn:i<all.length:=by lia
  have Yt:all[i]?=ga all[i]:=cY Xn;refine iy AS ?_;rw[il wA _];show pi _ A.in1 (pyNext (.ref I)>>=_) _ _ s;refine cW (W.item i s _ _ Xn Xv λv s' hPv Z1 hm=>?_);obtain rfl:=hP i v hPv;have hT':∀j p,all[j]?=ga p->s'.heap.IsTuple (tp j) #[kv j,p.2]:=λj p e=>by obtain⟨o,h1,h2⟩:=hT j p e;exact⟨o,hm.heap _ _ (hw j (cZ.mp e).1).1 h1,h2⟩
  have hD':s'.heap.DictOf knd d (merged [] (all.take i)):=by obtain⟨o,es,ep,ho,rest⟩:=hD;exact⟨o,es,ep,hm.heap d _ hdw ho,rest⟩
  show pi _ A.in1 (xz [Value.ref (tp i)] _>>=_) _ _ s';refine cW (fh (cW (wpAny_tryCatch (Pn (hT' i _ Yt) ?_))));show pi _ A.in1 (xz [kv i,all[i].2] (dictSet d (kv i) all[i].2)) _ _ s';refine fh ?_;unfold dictSet;refine fh (cW (knd.pyHash (hk i _ Yt) ?_));have hl:(merged [] (all.take i)).length<=Ch:=by have:=merged_length_le [] (all.take i);rw[eF]at this;simp only[dF]at this;lia
  refine wpAny_dictSetHashed_pairs (hsz:=hl) (hk i _ Yt) hD' λh' dd hs=>?_;rw[<-merged_take_succ [] all i _ Yt]at dd;refine dv ⟨kF wA _,ih (i+1) _ _ (by lia) Xn (W.frame _ s' _ _ Z1 (gS _) λb hb o e=>?_) (λj p e=>?_) dd λZV Z2 hD''=>?_⟩
  .rw[hs.2 b (λz:b=d=>ZD (z ▸ hb))];exact e
  .obtain⟨o,h1,h2⟩:=hT' j p e;refine⟨o,?_,h2⟩;show h'.get? (tp j)=ga o;rw[hs.2 _ (hw j (cZ.mp e).1).2];exact h1
  .refine hR ZV (mL W.gtrans ((hm.mono Zn).then_heap (gS _) λb o hb e=>?_) Z2) hD'';rw[hs.2 b (λz:b=d=>hb (by rw[z];exact dO))];exact e
end
section
variable {prog:Pg}{w:Wo}{A:Ar}{E:QQX}{κ:Type}[DecidableEq κ]{knd:PySem.KeyKind prog w κ}{s:Sd}
def BA{l:Uf}{its:Array Vl}{n:Nat}{sl:Array (Option Vl)}{all:T0 (κ×Vl)}{Q:QQX}(kv:Nat->Vl)(tp:Nat->Uf)(hh:A.handled=Fa)(hl:s.heap.get? l=ga ⟨.type "list",Fa,.seq its n,sl⟩) (hits:∀(j:Nat) (v:Vl),its[j]?=ga v->v=.ref (tp j)) (Xd:its.size=all.length) (hT:∀j p,all[j]?=ga p->s.heap.IsTuple (tp j) #[kv j,p.2]) (hk:∀j p,all[j]?=ga p->knd.is p.1 (kv j)=Db) (hz:all.length<=Ch) (h:∀h' tk,h'.DictOf knd s.heap.objs.size (merged [] all)->(∀b o,s.heap.get? b=ga o->h'.get? b=ga o)->Q (.ref s.heap.objs.size) {s with heap:=h',toks:=tk}):
  pi (Tk prog w) A (call (.type "dict") [.ref l]) Q E s:=by
 refine callType_codes (Q₁:=λobj s₁=>obj=Value.ref s.heap.objs.size/\s₁={s with heap:=s.heap.push {cls:=.type "dict",data:=.dict #[]}}) PySem.F.kt_called_dict (PySem.F.kt_typeCall_dict_1 _) F.entry_dict_init (kt_code_dict_new _ ⟨Z',Z'⟩) ?_
 rintro obj s₁ ⟨rfl,rfl⟩
 have YW:(s.heap.push {cls:=.type "dict",data:=.dict #[]}).DictOf knd s.heap.objs.size []:=Heap.DictOf.new s.heap;have hl':(s.heap.push {cls:=.type "dict",data:=.dict #[]}).get? l=ga ⟨.type "list",Fa,.seq its n,sl⟩:=df _ hl;have hTl:Shared.TypeIs {s with heap:=s.heap.push {cls:=.type "dict",data:=.dict #[]}} (.ref l) "list":=⟨_,hl',Z'⟩;have lsz:l<s.heap.objs.size:=dB hl;refine⟨YW.typeIs,F.args_dict_init_2 _ _,?_⟩;unfold Builtin.«dict.__init__»;refine cW ?_;unfold Builtin.Dict.selfAndRest;refine cW (wpAny_notOrdered_dict YW.typeIs ?_);show pi _ _ (pure (s.heap.objs.size,[Value.ref l])) _ _ _;refine dv ?_;show pi _ _ (Builtin.Dict.updateFrom "dict.__init__" s.heap.objs.size (.ref l) [] .none) _ _ _;unfold Builtin.Dict.updateFrom;refine cW (jJ hTl ?_);rw[de (by decide)];refine cW (FG hl' (by simpa using hh) λh' tk keep=>?_);have hl2:h'.IsList l its:=⟨_,keep _ _ hl',Z',n,Z'⟩;show pi _ _ (rule _>>=_) _ _ _;refine cW (kx (cW (ia hl2 ?_)));have nd:h'.objs.size>s.heap.objs.size:=by have z:h'.get? s.heap.objs.size=ga _:=keep _ _ (dM _ Z');exact dB z
 have hDn:h'.DictOf knd s.heap.objs.size []:=by obtain⟨o,es,ep,ho,rest⟩:=YW;exact⟨o,es,ep,keep _ _ ho,rest⟩
 have hTs:∀j p,all[j]?=ga p->h'.IsTuple (tp j) #[kv j,p.2]:=λj p e=>by obtain⟨o,h1,h2⟩:=hT j p e;exact⟨o,keep _ _ (df _ h1),h2⟩
 have Xx:l≠h'.objs.size:=dP (iD lsz nd);have W:=(ky (prog:=prog) (w:=w) (A:=A.in1.in1) (by simpa using hh) h'.objs.size l Xx its).toS;rw[Xd]at W;refine dv ⟨kF wA _,KO (A:=A.in1) W s.heap.objs.size ?_ kv tp (λi v e=>hits i v e) (λj hj=>?_) hk hz all.length 0 0 _ (by lia) (eQ _) ⟨⟨_,dM _ Z',Z',Z'⟩,hl2.push _⟩ (λj p e=>(hTs j p e).push _) ?_ λs' hm hD=>?_⟩
 .simp only[dh,dJ,fm,fV];exact⟨dP nd,ie lsz⟩
 .have hj':all[j]?=ga all[j]:=cY hj;obtain⟨o,h1,_⟩:=hT j _ hj';have tsz:=dB h1;simp only[dh,dJ,fm];exact⟨dP (iD tsz nd),dP tsz⟩
 .obtain⟨o,es,ep,ho,rest⟩:=hDn;exact⟨o,es,ep,df _ ho,rest⟩
 .obtain⟨h2,g2,d2,t2,o2⟩:=s';have eg:g2=s.gens:=hm.gens;have ed:d2=s.drawn:=hm.drawn;have eo:o2=s.os:=hm.os;subst eg ed eo;refine⟨Z',h h2 t2 hD λb o e=>?_⟩;have hb:=dB e;refine hm.heap b o ?_ (df _ (keep _ _ (df _ e)));simp only[dh,dJ,fm,fV];exact⟨dP hb,dP (iD hb nd)⟩
end
noncomputable def uf{κ:Type}[DecidableEq κ](l:List κ):List κ:=l.foldl (λacc k=>if k∈acc then acc else acc++[k]) []
def yB{κ:Type}[DecidableEq κ](l:List κ)(k:κ):uf (l++[k])=if k∈uf l then uf l else uf l++[k]:=by unfold uf;rw[lC];rfl
def JC{κ:Type}[DecidableEq κ]:∀l:List κ,(uf l).length<=l.length:=by
 have go:∀(l acc:List κ),(l.foldl (λacc k=>if k∈acc then acc else acc++[k]) acc).length<=acc.length+l.length:=by
  intro l;induction l with
  | nil=>intro acc;simp
  | cons k r ih=>
   intro acc;rw[gg];refine d9 (ih _) ?_;split
   .simp only[eA];lia
   .simp only[eA,cX,dF];lia
 intro l;have:=go l []
 simpa [uf]using this
def Lj{κ:Type}[DecidableEq κ](x:κ):∀l:List κ,x∈uf l↔x∈l:=by
 have go:∀(l acc:List κ),x∈l.foldl (λacc k=>if k∈acc then acc else acc++[k]) acc↔x∈acc\/x∈l:=by
  intro l;induction l with
  | nil=>intro acc;simp
  | cons k r ih=>
   intro acc;rw[gg,ih];by_cases h:k∈acc
   .rw[de h,dh];constructor
    .rintro (z|z)
     .exact .inl z
     .exact .inr (.inr z)
    .rintro (z|z|z)
     .exact .inl z
     .subst z;exact .inl h
     .exact .inr z
   .rw[c9 h,dY,dA,dh,or_assoc]
 intro l;have:=go l []
 simpa [uf]using this
def HN{κ:Type}[DecidableEq κ]:∀l:List κ,l.Nodup->uf l=l:=by
 have go:∀(l acc:List κ),(acc++l).Nodup->l.foldl (λacc k=>if k∈acc then acc else acc++[k]) acc=acc++l:=by
  intro l;induction l with
  | nil=>intro acc _;simp
  | cons k r ih=>
   intro acc h;have hk:k∉acc:=λz=>by rw[fL]at h;exact h.2.2 k z k dO Z'
   rw[gg,c9 hk,ih]
   .rw[fg];rfl
   .rw[fg];exact h
 intro l h;have:=go l [] (by simpa using h)
 simpa [uf]using this
section
variable {prog:Pg}{w:Wo}{A:Ar}{E:QQX}{R:Result→Sd→Prop}{κ:Type}[DecidableEq κ][BEq κ][LawfulBEq κ]{knd:PySem.KeyKind prog w κ}
 {I:Uf} {fp wr:QXQ} {G:Array GenState->Array GenState->Prop} {P:Nat->Vl->Prop} {St:Nat->Sd->Prop}
def Gi{all:List κ}(W:WalksS prog w A.in1 I fp wr G all.length P St)(S:Uf)(hSf:S∉fp)(hval:∀i v k,P i v->all[i]?=ga k->knd.is k v=Db/\v.scannable=Db)(hb:all.length+1<XXg):
  ∀(n i:Nat) (s:Sd),all.length - i=n->i<=all.length->St i s->s.heap.SetOf knd S (λx=>decide (x∈uf (all.take i))) (uf (all.take i)).length->
   (∀s',Moved (S::wr) G s s'->s'.heap.SetOf knd S (λx=>decide (x∈uf all)) (uf all).length->R (.ok (.ret .none)) s')->XXf (Tk prog w) A (.builtin "set.update.loop" ⟨[.ref S,.ref I],[]⟩) R s:=by
 have hSw:S∉wr:=λh=>hSf (W.sub _ h);have up:∀b∈wr,b∈S::wr:=λb hb=>dE _ hb;have kept:∀{s s':Sd} {T:κ->Bool} {m:Nat},Moved wr G s s'->s.heap.SetOf knd S T m->s'.heap.SetOf knd S T m:=λhm ⟨o,es,ep,t,ho,rest⟩=>⟨o,es,ep,t,hm.heap S _ hSw ho,rest⟩;intro n;induction n with
 | zero=>
  intro i s h0 hi Xv hS hR;obtain rfl:i=all.length:=by lia
  refine iy iF ?_;rw[il gH _];rw[fj]at hS;exact cW (W.done s _ _ Xv λs' hm=>dv (hR s' (hm.mono up) (kept hm hS)))
 | succ n ih=>
  intro i s h0 hi Xv hS hR;have Xn:i<all.length:=by lia
  have Yt:all[i]?=ga all[i]:=cY Xn;refine iy iF ?_;rw[il gH _];refine cW (W.item i s _ _ Xn Xv λv s' hP Z1 hm=>?_);obtain⟨k1,k2⟩:=hval i v _ hP Yt;have Z3:=kept hm hS;show pi _ A.in1 (xz [v] (setAdd S v)>>=_) _ _ s';refine cW (fh ?_);unfold setAdd;refine fh (cW (knd.pyHash k1 ?_));have room:(uf (all.take i)).length+1<XXg:=by have h1:=JC (all.take i);rw[eF]at h1;lia
  refine wpAny_setAddHashed_of (knd:=knd) (s:={s' with toks:=s'.toks+1}) k1 k2 Z3 room λh' hsb hS2=>?_;have et:all.take (i+1)=all.take i++[all[i]]:=by rw[gx,Yt];rfl
  have hSi:h'.SetOf knd S (λx=>decide (x∈uf (all.take (i+1)))) (uf (all.take (i+1))).length:=by
   refine jM hS2 (λx=>?_) ?_
   .rw[et];by_cases W9:all[i]∈uf (all.take i)
    .rw[yB,de W9];by_cases hx:x=all[i]
     .subst hx;simp[W9]
     .simp[hx]
    .rw[yB,c9 W9];by_cases hx:x=all[i]
     .subst hx;simp
     .simp[hx]
   .rw[et,yB];by_cases W9:all[i]∈uf (all.take i)
    .rw[de W9];simp[W9]
    .rw[c9 W9];simp[W9]
  refine dv ⟨kF gH _,ih (i+1) _ (by lia) Xn (W.frame _ s' _ _ Z1 (gS _) λb hb o e=>?_) hSi λZV Z2 hS''=>?_⟩
  .rw[hsb.2 b (λz:b=S=>hSf (z ▸ hb))];exact e
  .refine hR ZV (mL W.gtrans ((hm.mono up).then_heap (gS _) λb o hb e=>?_) Z2) hS'';rw[hsb.2 b (λz:b=S=>hb (by rw[z];exact dO))];exact e
end
def Dq:isSubtype (.type "tuple") (.type "set")=pure pc:=by rw[jl];kernel_rfl
def Ap:isSubtype (.type "tuple") (.type "frozenset")=pure pc:=by rw[jl];kernel_rfl
def ES:isSubtype (.type "list") (.type "set")=pure pc:=by rw[jl];kernel_rfl
def Bj:isSubtype (.type "list") (.type "frozenset")=pure pc:=by rw[jl];kernel_rfl
section
variable {prog:Pg}{w:Wo}{A:Ar}{E:QQX}{κ:Type}[DecidableEq κ][BEq κ][LawfulBEq κ]{knd:PySem.KeyKind prog w κ}{s:Sd}
set_option maxHeartbeats 4000000 in
def zD{l:Uf}{W8:Array Vl}{all:List κ}{Q:QQX}(hh:A.handled=Fa)(hl:s.heap.IsList l W8\/s.heap.IsTuple l W8)(hn:W8.size=all.length)(hi:∀(i:Nat) (v:Vl) (k:κ),W8[i]?=ga v->all[i]?=ga k->knd.is k v=Db/\v.scannable=Db)(hb:all.length+1<XXg) (h:∀(h':No) (tk:Nat),h'.SetOf knd s.heap.objs.size (λx=>decide (x∈uf all)) (uf all).length->(∀b o,s.heap.get? b=ga o->h'.get? b=ga o)->Q (.ref s.heap.objs.size) {s with heap:=h',toks:=tk}):
  pi (Tk prog w) A (call (.type "set") [.ref l]) Q E s:=by
 obtain⟨c,tl,hmro⟩:=gW.mro;have hmade:=gW.made;have Zn:=gW.sub;refine iY (codeAny_of_tree ?_);show pi _ _ (callAny (.type "set") _) _ _ _;refine dv ⟨jp _ (by decide+kernel),iy F.entry_type_call ?_⟩;rw[Around.under_plain (weight_type_call_type "set" [.ref l] []) Z'];have h1:=gW.notType;have h2:=gW.canCreate;have hct:=F.typeCall_set_1 (.ref l)
 repeat (any_goals(first|assumption|wp_step))
 have fresh:∀YH:Bool,(s.heap.push {cls:=.type "set",dict:=none,data:=.set #[] 0 (.fresh 0 0 YH)}).get? s.heap.objs.size=ga {cls:=.type "set",dict:=none,data:=.set #[] 0 (.fresh 0 0 YH)}:=λYH=>dM _ Z';refine gT (code_set_new_1 (.ref l) (E:=E) (Q₁:=λobj s₁=>∃YH:Bool,obj=Value.ref s.heap.objs.size/\s₁={s with heap:=s.heap.push {cls:=.type "set",dict:=none,data:=.set #[] 0 (.fresh 0 0 YH)}}) λYH=>⟨YH,Z',Z'⟩) λr s₁ hr=>?_;cases r with
 | error e=>exact hr
 | ok fl=>
  cases fl with
  | ret obj=>
   obtain⟨YH,rfl,rfl⟩:=hr;have hS:=fresh YH;have hT:Shared.TypeIs {s with heap:=s.heap.push {cls:=.type "set",dict:=none,data:=.set #[] 0 (.fresh 0 0 YH)}} (.ref s.heap.objs.size) "set":=⟨_,hS,Z'⟩;have hli:=gW.init.lookup;have hbi:=gW.init.bind (.ref s.heap.objs.size)
   repeat (any_goals(first|assumption|wp_step))
   refine gT (kz (R:=wants (λr s₂=>r=.none/\∃h' tk,s₂={s with heap:=h',toks:=tk}/\h'.SetOf knd s.heap.objs.size (λx=>decide (x∈uf all)) (uf all).length/\(∀b o,s.heap.get? b=ga o->h'.get? b=ga o)) E) gW.init.plain F.entry_set_init (check_set_init_1 hT ?_)) λr₂ s₂ hr₂=>?_
   .rcases hl with⟨ol,hol,hcl,nl,hdl⟩|⟨ol,hol,hcl,nl,hdl⟩
    all_goals
     obtain⟨ocls,odict,odata,oslots⟩:=ol;simp only at hcl hdl;subst hcl;subst hdl;have Zo:=df {cls:=.type "set",dict:=none,data:=.set #[] 0 (.fresh 0 0 YH)} hol;have hsls:=ES;have hslf:=Bj;have htls:=Dq;have htlf:=Ap;have hnd:(Value.type "list"==Value.type "dict")=pc:=by decide
     have hnt:(Value.type "tuple"==Value.type "dict")=pc:=by decide
     unfold Builtin.«set.__init__» noKeywords Builtin.Frozenset.updateFrom;generalize hPI:pyIter=PI
     wp_walk
     subst hPI
     first|refine ia ⟨_,Zo,Z',nl,Z'⟩ ?_|refine iG ⟨_,Zo,Z',nl,Z'⟩ ?_
     refine cW (wpAny_runValue ?_);have lS:l<s.heap.objs.size:=dB hol;have hh3:A.in1.in1.in1.handled=Fa:=by simp[hh]
     have lI:l≠(s.heap.push {cls:=.type "set",dict:=none,data:=.set #[] 0 (.fresh 0 0 YH)}).objs.size:=by rw[fT];exact dP (gM lS)
     first
     | refine Gi (hn ▸ (ky (prog:=prog) (w:=w) hh3 _ l lI W8).toS) s.heap.objs.size ?hf (λi v k e1 e2=>hi i v k e1 e2) hb all.length 0 _ (by lia) (eQ _) ⟨⟨_,dM _ rfl,rfl,rfl⟩,_,df _ Zo,rfl,nl,rfl⟩ ?h0 ?hR
     | refine Gi (hn ▸ (Walks.tuple (prog:=prog) (w:=w) hh3 _ l lI W8).toS) s.heap.objs.size ?hf (λi v k e1 e2=>hi i v k e1 e2) hb all.length 0 _ (by lia) (eQ _) ⟨⟨_,dM _ rfl,rfl,rfl⟩,_,df _ Zo,rfl,nl,rfl⟩ ?h0 ?hR
     case hf=>rw[fT];simp only[dh,dJ,fm,fV];exact⟨dP (fR _),ie lS⟩
     case h0=>exact jM ((PyProof.Rows.setObjOf_fresh (knd:=knd) YH).setOf (df _ hS) (by unfold XXg;lia)) (λ_=>rfl) Z'
     case hR=>intro s' hm Z3;obtain⟨h',g',d',tk',os'⟩:=s';have eg:g'=s.gens:=hm.gens;have ed:d'=s.drawn:=hm.drawn;have eo:os'=s.os:=hm.os;subst eg;subst ed;subst eo;refine dv ?_;show pi _ _ (ret Value.none) _ _ _;refine dv ⟨Z',h',tk',Z',Z3,λb o e=>?_⟩;have hb:=dB e;refine hm.heap b o ?_ (df _ (df _ e));rw[fT];simp only[dh,dJ,fm,fV];exact⟨dP hb,dP (gM hb)⟩
   .cases r₂ with
    | error e=>exact hr₂
    | ok fl₂=>
     cases fl₂ with
     | ret r=>
      obtain⟨rfl,h',tk,rfl,Z3,hk'⟩:=hr₂
      repeat (any_goals(first|assumption|wp_step))
      exact h _ _ Z3 hk'
     | _=>exact hr₂.elim
  | _=>exact hr.elim
end
end L2
namespace HT
open PySem PyProof.Rows
variable {prog:Pg}{w:Wo}{A:Ar}{E:QQX}{s:Sd}
def Af{t sl:Uf}{vl vu:Vl}{lo hi:Option Int}{Q:QQX}(ht:IsTup s.heap t W8)(hs:s.heap.IsSliceOf sl vl vu .none)(pl:IsPart vl lo)(pu:IsPart vu hi) (hw:tS W8.size 0 lo=0/\tS W8.size W8.size hi=W8.size) (h:Q (.ref t) s):pi (Tk prog w) A (XXb (.ref t) (.ref sl)) Q E s:=by
 obtain⟨os,ZW,ZC,Yr⟩:=id hs;have hTs:s.TypeIs (.ref sl) "slice":=⟨os,ZW,ZC⟩;unfold XXb
 try with_reducible refine fh ?_
 first|refine cW (dv ?_)|skip
 refine cW (jw ht.typeIs (by decide) ?_);refine cW (fQ (name:=Str.ofString "__getitem__") ht.typeIs fE (fZ fE ht.typeIs kH ?_ (kW _ _)));show pi _ _ (Builtin.Tuple.tupleItemsOf (.ref t)>>=_) _ _ s;refine cW (tupleItemsOf_ ht ?_);refine cW (jJ hTs ?_);rw[de (by decide)];refine cW (xg hs pl pu ?_);have yes:(((tS W8.size 0 lo:Nat):Int)==0&&(1:Int)==1&&(tS W8.size W8.size hi - tS W8.size 0 lo)==W8.size)=Db:=by rw[hw.1,hw.2];simp
 show pi _ _ (if (((tS W8.size 0 lo:Nat):Int)==0&&(1:Int)==1&&(tS W8.size W8.size hi - tS W8.size 0 lo)==W8.size)=Db then _ else _) _ _ s;rw[de yes];have hT:=ht.typeIs;obtain⟨hp,g,d,tk,o⟩:=s
 repeat (any_goals(first|assumption|wp_step))
 exact⟨_,Z',dv h⟩
end HT
namespace L2
variable {X:Cx}{p p2 pos Y0:Pos}{e:Go}{te:TE}
section
def V6(K:qK):V->Option Int->Option Int->Hp->VK->Prop:=λx lo hi H Q=>∃a xs,x=.ref a/\vM K H a xs/\(HT.tS xs.length 0 lo=0/\HT.tS xs.length xs.length hi=xs.length)/\Q (.ref a) H
def Re:U4 X (V6 X.K):=by
 intro W7 s Y H x v vl vu lo hi sl Q I rx hs pl pu h;obtain⟨a,xs,rfl,hx,hw,q⟩:=h;cases rx;obtain⟨its,r,ht,hz⟩:=I.tuple hx;have Xd:its.toArray.size=xs.length:=by rw[dz];exact r.length.symm
 exact⟨"tuple",_,fE.lookup,ht.typeIs,HT.Af ht hs pl pu (by rw[Xd];exact hw) ⟨.ref a,H,I,Z',q⟩⟩
local instance (priority:=5000) keyBEq:BEq rF:=instBEqOfDecidableEq
local instance (priority:=5000) keyLaw:LawfulBEq rF:=inferInstanceAs (LawfulBEq (Sum Int Str))
def OF(K:qK)(te:TE):TE:=λY H Q=>te Y H λx H1=>∃a,∃ss:QQQ,x=.ref a/\(zu K H1 a (ss.map V.str)\/vM K H1 a (ss.map V.str))/\ss.length+1<XXg/\Q (.int (uf ss).length) H1
def Hu{ss:QQQ}(r:qN (ss.map V.str) us):us.length=ss.length/\∀(i:Nat) (v:Vl) (k:rF),us[i]?=ga v->(ss.map λx=>(Sum.inr x:rF))[i]?=ga k->(rQ P w).is k v=Db/\v.scannable=Db:=by
 refine⟨by rw[<-r.length,cV],λi v k e1 e2=>?_⟩;rw[dC]at e2;cases q:ss[i]? with
 | none=>rw[q]at e2;cases e2
 | some x=>rw[q]at e2;cases e2;obtain⟨u,e3,t,rfl⟩:=r.get (i:=i) (x:=V.str x) (by rw[dC,q];rfl);rw[e3]at e1;cases e1;exact⟨AQ P w x t,Z'⟩
def MY{ss:QQQ}:(uf (ss.map λx=>(Sum.inr x:rF))).length=(uf ss).length:=by
 have go:∀(l acc:QQQ),(l.map λx=>(Sum.inr x:rF)).foldl (λacc k=>if k∈acc then acc else acc++[k]) (acc.map Sum.inr)=(l.foldl (λacc k=>if k∈acc then acc else acc++[k]) acc).map Sum.inr:=by
  intro l;induction l with
  | nil=>intro acc;rfl
  | cons k r ih=>
   intro acc;rw[dW,gg,gg];have hm:(Sum.inr k:rF)∈acc.map Sum.inr↔k∈acc:=by
    rw[dD];constructor
    .rintro ⟨y,h1,h2⟩;cases h2;exact h1
    .exact λh=>⟨k,h,Z'⟩
   by_cases h:k∈acc
   .rw[de h,de (hm.mpr h)];exact ih acc
   .rw[c9 h,c9 λz=>h (hm.mp z)];have:=ih (acc++[k]);rw[dN]at this;exact this
 have:=go ss [];unfold uf;rw[jb]at this;rw[this,cV]
def Ke(hc:X.calm=Db)(he:PE X e te)(hg1:Gl X "len")(W9:X.mg "len"=Fa)(hg2:Gl X "set")(Xr:X.mg "set"=Fa)(b1:zn "len"=ga (.builtin "len"))(b2:zn "set"=ga (.type "set")) (hs:Tl [e] X.env=[(pc,wp e X.env)]:=by rfl):PE X (.Call (.Name "len" p) [.Call (.Name "set" p2) [e] [] Y0] [] pos) (OF X.K te):=by
 intro W7 s Y H Q I h;refine fX (xN I hg1 W9 b1 ?_);refine hJ ?_ Z' Z';show pi _ _ (spliced ((pc,wp (.Call (.Name "set" p2) [e] [] Y0) X.env)::At pos (Tl [] X.env))) _ _ s;refine iC ?_;refine fX (xN I hg2 Xr b2 ?_);refine gf ?_ hs Z';rw[hs];show pi _ _ (spliced ((pc,wp e X.env)::At Y0 (Tl [] X.env))) _ _ s;refine iC (tE (he W7 s Y H _ I h) λu s1 ⟨x,H1,I1,r1,a,ss,ex,hq,hb,q⟩=>iL ?_);subst ex;obtain rfl:u=Value.ref a:=r1;have X5:(ss.map λx=>(Sum.inr x:rF)).length+1<XXg:=by rw[cV];exact hb
 have Xc:∀(h':No) (tk:Nat),h'.SetOf (rQ X.prog X.w) s1.heap.objs.size (λx=>decide (x∈uf (ss.map λx=>(Sum.inr x:rF)))) (uf (ss.map λx=>(Sum.inr x:rF))).length->(∀b o,s1.heap.get? b=ga o->h'.get? b=ga o)->
   pi (Tk X.prog X.w) X.A (spliced (At pos (Tl [] X.env))) (λvs s₁=>pi (Tk X.prog X.w) X.A (call (.builtin "len") (.ref s1.heap.objs.size::vs)) (EP X W7 Y Q) X.xe s₁) X.xe {s1 with heap:=h',toks:=tk}:=λh' tk hS keep=>by
  refine iL ?_;obtain⟨o,es,ep,t,ho,hex,hd,_,_,hz,hf,hn⟩:=hS;have Xn:(es.size:Int)<2 ^ 63:=by have:XXg=4096:=rfl;lia
  refine call_len_set ho hex hd hf Xn ?_;refine⟨.int es.size,H1,I1.kept keep,⟨_,Z'⟩,?_⟩;rw[hn,MY];exact q
 rcases hq with hq|hq
 .obtain⟨its,r,pl,hz⟩:=I1.list hq;obtain⟨k1,k2⟩:=Hu (P:=X.prog) (w:=X.w) r;exact L2.zD (knd:=rQ X.prog X.w) (all:=ss.map λx=>(Sum.inr x:rF)) (I1.ok.hd hc) (.inl pl.isList) (by rw[dz,k1,cV]) (λi v k e1 e2=>k2 i v k (by simpa using e1) e2) X5 Xc
 .obtain⟨its,r,pl,hz⟩:=I1.tuple hq;obtain⟨k1,k2⟩:=Hu (P:=X.prog) (w:=X.w) r;exact L2.zD (knd:=rQ X.prog X.w) (all:=ss.map λx=>(Sum.inr x:rF)) (I1.ok.hd hc) (.inr pl) (by rw[dz,k1,cV]) (λi v k e1 e2=>k2 i v k (by simpa using e1) e2) X5 Xc
end
variable {W7:T0 (Uf × Obj)}{Y:St}{H:Hp}{s:Sd}
theorem EE(I:Inv X W7 Y H s):∀(ts:QXQ) (kvs:T0 (rF×V)),ts.length=kvs.length->(∀(j:Nat) (t:Uf) (p:rF×V),ts[j]?=ga t->kvs[j]?=ga p->vM X.K H t [kV p.1,p.2])->
  ∃(us:T0 Vl) (all:T0 (rF×Vl)),us.length=kvs.length/\KV kvs all/\∀(j:Nat) (t:Uf) (p:rF×Vl),ts[j]?=ga t->all[j]?=ga p->∃u,us[j]?=ga u/\s.heap.IsTuple t #[u,p.2]/\(rQ X.prog X.w).is p.1 u=Db
 | [],[],_,_=>⟨[],[],Z',.nil,λj t p e=>by simp at e⟩
 | [],_::_,h,_=>by simp at h
 | _::_,[],h,_=>by simp at h
 | t::ts,(k,v)::kvs,h,hq=>by
  obtain⟨us,all,h1,h2,h3⟩:=EE I ts kvs (by simpa using h) (λj t p e1 e2=>hq (j+1) t p (by simpa using e1) (by simpa using e2));obtain⟨its,r,pl,_⟩:=I.tuple (hq 0 t (k,v) (by simp) (by simp));cases r with
  | cons r1 r2=>
   cases r2 with
   | cons r3 r4=>
    cases r4;rename_i u w;refine⟨u::us,(k,w)::all,by simpa using h1,.cons ⟨Z',r3⟩ h2,λj t' p e1 e2=>?_⟩;cases j with
    | zero=>
     have e1':t=t':=by simpa using e1
     have Zj:(k,w)=p:=by simpa using e2
     subst e1' Zj;exact⟨u,by simp,pl,G4 r1⟩
    | succ j=>simpa using h3 j t' p (by simpa using e1) (by simpa using e2)
theorem MU:∀{kvs:T0 (rF×V)} {all:T0 (rF×Vl)},KV kvs all->all.map (·.1)=kvs.map (·.1)
 | _,_,.nil=>rfl
 | _,_,.cons r rs=>by rw[dW,dW,MU rs,r.1]
def IK(hc:X.calm=Db):zY X (.type "dict") (λxs H Q=>∃l,∃ts:QXQ,∃kvs:T0 (rF×V),xs=[V.ref l]/\zu X.K H l (ts.map V.ref)/\ts.length=kvs.length/\
  (∀(j:Nat) (t:Uf) (p:rF×V),ts[j]?=ga t->kvs[j]?=ga p->vM X.K H t [kV p.1,p.2])/\(kvs.map (·.1)).Nodup/\∀d,H d=Fa->Q (.ref d) (upd H d (.dK kvs))):=by
 intro W7 s Y H xs us Q I r h;obtain⟨l,ts,kvs,rfl,hl,Xd,hq,hnd,q⟩:=h;obtain⟨u,rfl,ru⟩:=yT r;cases ru;obtain⟨its,rv,⟨⟨c1,d1,t1,sl1⟩,n,g1,e1,e2,e3⟩,hz⟩:=I.list hl;simp only at e1 e2 e3;subst e1 e2 e3;obtain⟨ks,all,h1,h2,h3⟩:=EE I ts kvs Xd hq;have la:all.length=kvs.length:=(js h2).symm;have li:its.length=kvs.length:=by rw[<-rv.length,cV,Xd]
 have zl:all.length<=Ch:=by rw[la,<-Xd];simpa using hz
 have at_:∀(j:Nat) (p:rF×Vl),all[j]?=ga p->∃t,ts[j]?=ga t:=λj p e=>by have:=(cZ.mp e).1;exact⟨ts[j],cY (by lia)⟩
 refine BA (knd:=rQ X.prog X.w) (all:=all) (λj=>(ks[j]?).getD .none) (λj=>(ts[j]?).getD 0) (I.ok.hd hc) g1 (λj v e=>?_) (by rw[dz,li,la]) (λj p e=>?_) (λj p e=>?_) zl λh' tk hD keep=>?_
 .have e':its[j]?=ga v:=by simpa using e
  have hj:=(cZ.mp e').1;have hj2:j<ts.length:=by lia
  obtain⟨w,e4,e5⟩:=rv.get (i:=j) (x:=V.ref ts[j]) (by rw[dC,cY hj2];rfl);rw[e']at e4;cases e4;show v=Value.ref ((ts[j]?).getD 0);rw[cY hj2];exact e5
 .obtain⟨t,et⟩:=at_ j p e;obtain⟨u,e4,e5,_⟩:=h3 j t p et e;show s.heap.IsTuple ((ts[j]?).getD 0) #[(ks[j]?).getD .none,p.2];rw[et,e4];exact e5
 .obtain⟨t,et⟩:=at_ j p e;obtain⟨u,e4,_,e6⟩:=h3 j t p et e;show(rQ X.prog X.w).is p.1 ((ks[j]?).getD .none)=Db;rw[e4];exact e6
 .rw[merged_nil_of_nodup all (by rw[MU h2];exact hnd)]at hD;have fr:=I.mZ.fresh (dq s.heap.objs.size);exact⟨.ref s.heap.objs.size,_,I.laid (t':=tk) (o:=.dK kvs) keep (dq _) (Lr (by rw[<-la];exact zl) (gB.mpr (dQ (dP I.big))) h2 hD),Z',q _ fr⟩
def Wj:R2:=λx y H Q=>∃a v,x=.ref a/\Fe H a y (ga v)/\Q v H
def Qw(hu:X.A.units+1<W'):Ts X Wj:=by
 intro value Xk W7 s Y H x y o i Q I rx ry h hs;obtain⟨a,v,rfl,g,q⟩:=h;obtain rfl:o=Value.ref a:=rx;have hT:=Hc I g;have h2:pi (Tk X.prog X.w) X.A (XXb (.ref a) i) (EP X W7 Y Q) X.xe s:=Kw hu I g ry λw' s3 I3 YV=>⟨v,H,I3,YV,q⟩;unfold subscriptTail;refine cW ?_;rw[kl hT.not_modules];refine cW (j3 hT jz.lookup ?_);have Xc:pi (Tk X.prog X.w) X.A (subscripted Xk pc (.ref a) i) (λr s₃=>pi (Tk X.prog X.w) X.A (letTemporaryGo value (.ref a) r>>=λ_=>pure r) (EP X W7 Y Q) X.xe s₃) X.xe s:=by rw[hs];exact wpAny_operating (eD h2 (λr s₃ h₃=>cW (kA (dv h₃))) λ_ _ x=>x)
 first
  | exact dv (cW Xc)
  | exact cW (dv (cW Xc))
  | exact cW Xc
def RM(hu:X.A.units+1<W'):yo X (Op .In) (λx y H Q=>∃a o,y=.ref a/\Fe H a x o/\Q (.bl o.isSome) H):=by intro W7 s Y H x y v u Q I rx ry h;obtain⟨a,o,rfl,g,q⟩:=h;obtain rfl:u=Value.ref a:=ry;exact Wg hu I g rx λs3 I3=>⟨.bl o.isSome,H,I3,Z',q⟩
variable {prog:Pg}{w:Wo}{A:Ar}{E:QQX}{a:Uf}{U:Type}{k:Str}{tk:Tok}
section
variable {R:U→Vl→Prop}{D:T0 (Str × U)}
def zg(T:KTD.TabOf R s.heap a D):s.TypeIs (.ref a) "dict":=let⟨_,o,_,_,ho,hc,_⟩:=T;⟨o,ho,hc.1⟩
def JJ{Q:Option Vl->Sd->Prop}(T:KTD.TabOf R s.heap a D)(h1:∀d v,KTD.datumAt k D=ga d->R d v->Q (ga v) {s with toks:=s.toks+1})(h2:KTD.datumAt k D=Fa->Q Fa {s with toks:=s.toks+1}):
  pi (Tk prog w) A (dictGet a (.str k tk)) Q E s:=by
 obtain⟨_,o,es,ep,ho,hc,hd,hr⟩:=T;have hq:Q (findBy (λk v=>v.isStr k) es k) {s with toks:=s.toks+1}:=by
  have hf:findBy (λk v=>v.isStr k) es k=(es.toList.find? λe=>e.key.isStr k).map (·.val):=by obtain⟨l⟩:=es;simp[findBy]
  rw[hf];cases ZH:KTD.datumAt k D with
  | none=>rw[hr.find_none ZH];exact h2 ZH
  | some d=>obtain⟨v,hv,hfl⟩:=hr.find_some ZH;rw[hv];exact h1 d v ZH hfl
 have Yc:(es.all λe=>isExactStrKey e.key)=Db:=by
  obtain⟨l⟩:=es
  simpa using hr.exact
 unfold dictGet
 try with_reducible refine fh ?_
 refine cW (lO (cW (KTD.kt_dictFind_strs (s:={s with toks:=s.toks+1}) ho hd Yc ?_)));rw[findBy_of_findIdx?]at hq;cases hi:es.findIdx? λe=>e.key.isStr k with
 | none=>rw[hi]at hq;exact dv hq
 | some i=>rw[hi]at hq;exact cW (wpAny_dictEntries (s:={s with toks:=s.toks+1}) ho hd (dv hq))
def RJ{Q:QQX}(T:KTD.TabOf R s.heap a D)(h:Q (.bool (KTD.datumAt k D).isSome) {s with toks:=s.toks+1}):pi (Tk prog w) A (Op .In (.str k tk) (.ref a)) Q E s:=by
 have hT:=zg T;show pi _ _ (do return .bool (<-contains (.ref a) (.str k tk))) Q E s;refine cW ?_;unfold contains
 try with_reducible refine fh ?_
 refine cW (j3 hT jq.lookup ?_);show pi _ _ (if (ga (Value.builtin "dict.__contains__")==ga Value.none)=Db then _ else _) _ E s;rw[c9 (by rw[beq_builtin_none];exact dw)];refine cW (wpAny_callSpecialUnlessNone?_slot (name:=Str.ofString "__contains__") hT jq (fZ jq hT entry_dict_contains ?_ (args_dict_contains _ _)));show pi _ _ (dictGet a (.str k tk)>>=_) _ _ s;refine cW (JJ T (λd v ha _=>?_) λhn=>?_)
 .rw[ha]at h;show pi _ _ (ret (.bool Db)) _ _ _;exact dv ⟨_,Z',fv (dv h)⟩
 .rw[hn]at h;show pi _ _ (Builtin.Dict.pendingKey? a (.str k tk)>>=_) _ _ _;exact cW (wpAny_pendingKey_other T.1 (dv ⟨_,Z',fv (dv h)⟩))
def NT{Q:QQX}{d:U}(T:KTD.TabOf R s.heap a D)(hd:KTD.datumAt k D=ga d)(h:∀v,R d v->Q v {s with toks:=s.toks+1}):pi (Tk prog w) A (XXb (.ref a) (.str k tk)) Q E s:=by
 have hT:=zg T;unfold XXb
 try with_reducible refine fh ?_
 refine cW (jw hT (by decide) ?_);refine cW (fQ (name:=Str.ofString "__getitem__") hT lD (fZ lD hT entry_dict_getitem ?_ (args_dict_getitem _ _)));show pi _ _ (dictGet a (.str k tk)>>=_) _ _ s;refine cW (JJ T (λd' v ha hv=>dv ⟨v,Z',dv (h v ?_)⟩) λhn=>?_)
 .rw[hd]at ha;cases ha;exact hv
 .rw[hd]at hn;cases hn
end
def MA(K:qK)(mg:QQZ)(x:Str)(F:T0 (Str×QQQ)):Prop:=∃a o es ep,mg x=ga (.ref a)/\(a==AT)=pc/\K.lookup a=ga o/\o.ExactDict/\o.data=.dict es ep/\
 KTD.Rows (λ(ss:QQQ) v=>∃t,v=Value.ref t/\vM K (λ_=>Fa) t (ss.map V.str)) es.toList F
variable {x:Str}{F:T0 (Str × QQQ)}
def I0{K:qK}(h:vM K (λ_=>Fa) t xs):vM K H t xs:=by
 rcases h with(h|⟨o,h⟩)|h
 .cases h
 .cases h
 .exact .inr h
def GQ{K:qK}(T:MA K mg x F):∃a,mg x=ga (.ref a)/\∀h:No,K.In h->KTD.TabOf (λ(ss:QQQ) v=>∃t,v=Value.ref t/\vM K (λ_=>Fa) t (ss.map V.str)) h a F:=by obtain⟨a,o,es,ep,h1,h2,h3,h4,h5,h6⟩:=T;exact⟨a,h1,λh hk=>⟨h2,o,es,ep,hk a o h3,h4,h5,h6⟩⟩
noncomputable def We(x:Str):It:=⟨λi _=>i<x.cps.size,λi H v H'=>H'=H/\∃c,x.cps[i]?=ga c/\v=.str ⟨#[c]⟩,λi _=>i=x.cps.size⟩
def GO{K:qK}{ty:String}{x:Str}{t:Tok}(it:Uf)(W:∀A':Ar,A'.handled=Fa->Walks P w A' it [it] [it] x.cps.size (SignAt x) (λi h=>h.IsStrIter it ty x t i)) (hself:∀(A:Ar) (i:Nat) (s:Sd) (Q:QQX) (E:QQX),s.heap.IsStrIter it ty x t i->Q (.ref it) s->pi (Tk P w) A (pyIter (.ref it)) Q E s) (hn:["enumerate","zip","dict_itemiterator","dict_reverseitemiterator","odict_iterator","itertools.zip_longest","itertools.pairwise"].contains ty=pc):Gj P w K tg (We x) [it] it (λi h=>h.IsStrIter it ty x t i) where
 mem:=by simp
 obj:=λi h st b hb=>by
  obtain rfl:b=it:=by simpa using hb
  obtain⟨o,e,c,d⟩:=st;exact⟨o,e,λv z=>by rw[d]at z;cases z⟩
 keep:=λi h h' st k=>by obtain⟨o,e,r⟩:=st;exact⟨o,k it (by simp) o e,r⟩
 item:=by intro X hP hw hK hc i W7 s Y H E I hf st hg;subst hP hw hK;obtain⟨f0,f1,f2,f3,f4,f5⟩:=hf it (by simp);refine(W X.A (I.ok.hd hc)).item i s _ _ hg st λv h' tk hv X1 kp=>?_;obtain⟨c,u,e1,e2⟩:=hv;have I1:Inv X W7 Y H {s with heap:=h',toks:=tk}:=I.turned (t':=tk) (λb o hb e=>kp b o (by simpa using hb) e) f0 f1 f3 f4 f5;obtain⟨o,e,cl,d⟩:=id X1;exact⟨v,Z',Jc (s:={s with heap:=h',toks:=tk}) e cl d hn ⟨.str ⟨#[c]⟩,H,I1,⟨u,e2⟩,⟨Z',c,e1,Z'⟩,X1,λb hb=>(hf b hb).1⟩⟩
 done:=by intro X hP hw hK hc i W7 s Y H E I hf st hg;subst hP hw hK;obtain⟨f0,f1,f2,f3,f4,f5⟩:=hf it (by simp);obtain rfl:i=x.cps.size:=hg;exact(W X.A (I.ok.hd hc)).done s _ _ st λh' tk kp=>⟨Z',I.turned (t':=tk) (λb o hb e=>kp b o (by simpa using hb) e) f0 f1 f3 f4 f5⟩
 self:=hself
variable {tg:Go}
def Ot(hc:X.calm=Db)(hl:PE X l tl):PI X tg l (λY H R=>tl Y H λx H1=>(∃a,x=.ref a/\(((∃xs,zu X.K H1 a xs)/\R (Vj X.K a) H1)\/((∃xs,vM X.K H1 a xs)/\R (VC X.K a) H1)))\/∃z,x=.str z/\R (We z) H1):=by
 intro W7 s Y H R I h;refine tE (hl W7 s Y H _ I h) λv s1 zz=>x5 zz λx H1 I1 r1 q1=>?_;rcases q1 with⟨a,e,q1⟩|⟨z,e,q⟩
 .subst e;cases r1;rcases q1 with⟨⟨xs,hq⟩,q⟩|⟨⟨xs,hq⟩,q⟩
  .obtain⟨its,rv,p,hz⟩:=I1.list hq;refine ia p.isList ?_;refine⟨s1.heap.objs.size,[s1.heap.objs.size],_,_,H1,Z',I1.kept (t':=s1.toks) λb o e=>df _ e,KL a _,⟨_,dM _ Z',Z',Z'⟩,λb hb=>?_,q⟩;obtain rfl:b=s1.heap.objs.size:=by simpa using hb
   exact I1.og (dq _) (I1.mZ.fresh (dq _))
  .obtain⟨its,rv,p,hz⟩:=I1.tuple hq;refine iG (show s1.heap.IsTuple a its.toArray from p) ?_;refine⟨s1.heap.objs.size,[s1.heap.objs.size],_,_,H1,Z',I1.kept (t':=s1.toks) λb o e=>df _ e,Iu a _,⟨_,dM _ Z',Z',Z'⟩,λb hb=>?_,q⟩;obtain rfl:b=s1.heap.objs.size:=by simpa using hb
   exact I1.og (dq _) (I1.mZ.fresh (dq _))
 .subst e;obtain⟨t,rfl⟩:=r1;have fp:∀b∈[s1.heap.objs.size],By X W7 H1 b:=λb hb=>by
   obtain rfl:b=s1.heap.objs.size:=by simpa using hb
   exact I1.og (dq _) (I1.mZ.fresh (dq _))
  cases ha:z.cps.all (·<128)
  .refine wpAny_pyIter_wide ha ?_;exact⟨s1.heap.objs.size,[s1.heap.objs.size],_,_,H1,Z',I1.kept (t':=s1.toks) λb o e=>df _ e,GO _ (λA' hA=>Walks.strWide hA _ z t) (λA i s Q E st h=>wpAny_pyIter_striter_wide st h) (by decide),⟨_,dM _ Z',Z',Z'⟩,fp,q⟩
  .refine wpAny_pyIter_ascii ha ?_;exact⟨s1.heap.objs.size,[s1.heap.objs.size],_,_,H1,Z',I1.kept (t':=s1.toks) λb o e=>df _ e,GO _ (λA' hA=>Walks.strAscii hA _ z t) (λA i s Q E st h=>wpAny_pyIter_striter_ascii st h) (by decide),⟨_,dM _ Z',Z',Z'⟩,fp,q⟩
end L2
namespace L2
inductive BQ{α0:Sort u}{α1:Sort v}(p:α0->α1->Prop):Prop
 | mk (a0:α0) (a1:α1) (h:p a0 a1):BQ p
inductive Dj{α0:Sort u}{α1:Sort v}{α2:Sort w}(p:α0->α1->α2->Prop):Prop
 | mk (a0:α0) (a1:α1) (a2:α2) (h:p a0 a1 a2):Dj p
def x7{α:Sort u}{β:Sort v}{γ:Sort w}{p q r s:α->β->γ->Prop}{C:Prop}(h:Dj λa b c=>p a b c/\q a b c/\r a b c/\s a b c)(f:∀a b c,p a b c->q a b c->r a b c->s a b c->C):C:=by obtain⟨a,b,c,h1,h2,h3,h4⟩:=h;exact f a b c h1 h2 h3 h4
def Lf{α:Sort u}{β:Sort v}{γ:Sort w}{p q r s s1 s2 s3:α->β->γ->Prop}{C:Prop}(h:Dj λa b c=>p a b c/\q a b c/\r a b c/\s a b c/\s1 a b c/\s2 a b c/\s3 a b c)(f:∀a b c,p a b c->q a b c->r a b c->s a b c->s1 a b c->s2 a b c->s3 a b c->C):C:=by obtain⟨a,b,c,h1,h2,h3,h4,h5,h6,h7⟩:=h;exact f a b c h1 h2 h3 h4 h5 h6 h7
inductive CO{α0:Sort u}{α1:Sort v}{α2:Sort w}{α3:Sort u1}(p:α0->α1->α2->α3->Prop):Prop
 | mk (a0:α0) (a1:α1) (a2:α2) (a3:α3) (h:p a0 a1 a2 a3):CO p
inductive Hw{α0:Sort u}{α1:Sort v}{α2:Sort w}{α3:Sort u1}{α4:Sort u2}(p:α0->α1->α2->α3->α4->Prop):Prop
 | mk (a0:α0) (a1:α1) (a2:α2) (a3:α3) (a4:α4) (h:p a0 a1 a2 a3 a4):Hw p
inductive K2{α0:Sort u}{α1:Sort v}{α2:Sort w}{α3:Sort u1}{α4:Sort u2}{α5:Sort u3}(p:α0->α1->α2->α3->α4->α5->Prop):Prop
 | mk (a0:α0) (a1:α1) (a2:α2) (a3:α3) (a4:α4) (a5:α5) (h:p a0 a1 a2 a3 a4 a5):K2 p
inductive Tv{α0:Sort u}{α1:Sort v}{α2:Sort w}{α3:Sort u1}{α4:Sort u2}{α5:Sort u3}{α6:Sort u4}(p:α0->α1->α2->α3->α4->α5->α6->Prop):Prop
 | mk (a0:α0) (a1:α1) (a2:α2) (a3:α3) (a4:α4) (a5:α5) (a6:α6) (h:p a0 a1 a2 a3 a4 a5 a6):Tv p
inductive Rw{α0:Sort u}{α1:Sort v}{α2:Sort w}{α3:Sort u1}{α4:Sort u2}{α5:Sort u3}{α6:Sort u4}{α7:Sort u5}(p:α0->α1->α2->α3->α4->α5->α6->α7->Prop):Prop
 | mk (a0:α0) (a1:α1) (a2:α2) (a3:α3) (a4:α4) (a5:α5) (a6:α6) (a7:α7) (h:p a0 a1 a2 a3 a4 a5 a6 a7):Rw p
inductive R1{α0:Sort u}{α1:Sort v}{α2:Sort w}{α3:Sort u1}{α4:Sort u2}{α5:Sort u3}{α6:Sort u4}{α7:Sort u5}{α8:Sort u6}(p:α0->α1->α2->α3->α4->α5->α6->α7->α8->Prop):Prop
 | mk (a0:α0) (a1:α1) (a2:α2) (a3:α3) (a4:α4) (a5:α5) (a6:α6) (a7:α7) (a8:α8) (h:p a0 a1 a2 a3 a4 a5 a6 a7 a8):R1 p
inductive J8{α0:Sort u}{α1:Sort v}{α2:Sort w}{α3:Sort u1}{α4:Sort u2}{α5:Sort u3}{α6:Sort u4}{α7:Sort u5}{α8:Sort u6}{α9:Sort u7}(p:α0->α1->α2->α3->α4->α5->α6->α7->α8->α9->Prop):Prop
 | mk (a0:α0) (a1:α1) (a2:α2) (a3:α3) (a4:α4) (a5:α5) (a6:α6) (a7:α7) (a8:α8) (a9:α9) (h:p a0 a1 a2 a3 a4 a5 a6 a7 a8 a9):J8 p
end L2
namespace L2
open PySem
def Uj(a C:Uf)(h:No):Prop:=BQ λoe vs=>h.get? a=ga oe/\oe.cls=.ref C/\oe.data=.fields vs/\oe.dict=Fa
end L2
namespace L3
open L2
inductive D where
 | mW|bl (b:Bool)|int (i:Int)|str (x:Str)|tup (ds:List D)|ref (a:Uf)|ty (n:String)
 | rl (ds:List D)
def Qh(K:qK)(H:Hp)(a:Uf)(xs:T0 V):Prop:=(∃o,H a=ga (.frz o (.lst xs)))\/
 ∃(o:Obj) (its:Array Vl) (n:Nat),K.lookup a=ga o/\o.cls=.type "list"/\o.dict=Fa/\o.data=.seq its n/\its.size<=Ch/\qN xs its.toList
def Qh.sq{K:qK}(h:Qh K H a xs):zu K H a xs:=by
 rcases h with⟨o,h⟩|h
 .exact .inl (.inr ⟨o,h⟩)
 .exact .inr h
mutual
def sD(K:qK)(H:Hp):D->V->Prop
 | .mW,v=>v=.mW
 | .bl b,v=>v=.bl b
 | .int i,v=>v=.int i
 | .str x,v=>v=.str x
 | .ref a,v=>v=.ref a
 | .ty n,v=>v=.ty n
 | .tup ds,v=>∃a xs,v=.ref a/\vM K H a xs/\qz K H ds xs
 | .rl ds,v=>∃a xs,v=.ref a/\Qh K H a xs/\qz K H ds xs
def qz(K:qK)(H:Hp):T0 D->T0 V->Prop
 | [],xs=>xs=[]
 | d::ds,xs=>∃x r,xs=x::r/\sD K H d x/\qz K H ds r
end
structure rA(K:qK)(H H':Hp):Prop where
 t:∀a xs,vM K H a xs->vM K H' a xs
 f:∀a o xs,H a=ga (.frz o (.lst xs))->H' a=ga (.frz o (.lst xs))
def rA.refl{K:qK}:rA K H H:=⟨λ_ _ h=>h,λ_ _ _ h=>h⟩
def rA.trans{K:qK}(a:rA K H H1)(b:rA K H1 H2):rA K H H2:=⟨λc xs h=>b.t c xs (a.t c xs h),λc o xs h=>b.f c o xs (a.f c o xs h)⟩
def rA.upd{K:qK}(h:∀xs,¬Rd H p (.tup xs))(h':∀u xs,H p≠ga (.frz u (.lst xs))):rA K H (upd H p o):=⟨λa xs q=>by
 rcases q with q|q
 .have ne:a≠p:=λz=>h xs (z ▸ q);rcases q with q|⟨u,q⟩
  .exact .inl (.inl (by rw[qo ne];exact q))
  .exact .inl (.inr ⟨u,by rw[qo ne];exact q⟩)
 .exact .inr q,λa u xs q=>by
 have ne:a≠p:=λz=>h' u xs (z ▸ q);rw[qo ne];exact q⟩
def rA.new{K:qK}{H:Hp}{p:Uf}(h:H p=Fa):rA K H (L2.upd H p o):=.upd (λxs q=>by
 rcases q with q|⟨u,q⟩<;>(rw[h]at q;cases q)) λu xs q=>by rw[h]at q;cases q
def Qh.mono{K:qK}(e:rA K H H')(h:Qh K H a xs):Qh K H' a xs:=by
 rcases h with⟨o,h⟩|h
 .exact .inl ⟨o,e.f a o xs h⟩
 .exact .inr h
mutual
theorem sD.mono{K:qK}(e:rA K H H'):∀{d:D} {v:V},sD K H d v->sD K H' d v
 | .mW,_,h=>h
 | .bl _,_,h=>h
 | .int _,_,h=>h
 | .str _,_,h=>h
 | .ref _,_,h=>h
 | .ty _,_,h=>h
 | .tup ds,v,h=>by unfold sD at h ⊢;obtain⟨a,xs,e1,e2,e3⟩:=h;exact⟨a,xs,e1,e.t _ _ e2,qz.mono e e3⟩
 | .rl ds,v,h=>by unfold sD at h ⊢;obtain⟨a,xs,e1,e2,e3⟩:=h;exact⟨a,xs,e1,e2.mono e,qz.mono e e3⟩
theorem qz.mono{K:qK}(e:rA K H H'):∀{ds:T0 D} {xs:T0 V},qz K H ds xs->qz K H' ds xs
 | [],_,h=>h
 | d::ds,xs,h=>by unfold qz at h ⊢;obtain⟨x,r,e1,e2,e3⟩:=h;exact⟨x,r,e1,sD.mono e e2,qz.mono e e3⟩
end
variable {K:qK}{H H':Hp}
def qz.nil:qz K H [] []:=by unfold qz;rfl
def qz.cons(a:sD K H d x)(b:qz K H ds xs):qz K H (d::ds) (x::xs):=by unfold qz;exact⟨x,xs,Z',a,b⟩
def qz.inv{d:D}{ds:T0 D}(h:qz K H (d::ds) xs):∃x r,xs=x::r/\sD K H d x/\qz K H ds r:=by unfold qz at h;exact h
def qz.nil_inv(h:qz K H [] xs):xs=[]:=by unfold qz at h;exact h
theorem qz.length:∀{ds:T0 D} {xs:T0 V},qz K H ds xs->ds.length=xs.length
 | [],_,h=>by rw[h.nil_inv];rfl
 | d::ds,_,h=>by obtain⟨x,r,rfl,_,e⟩:=h.inv;simp[qz.length e]
theorem qz.get:∀{ds:T0 D} {xs:T0 V} {i:Nat} {d:D},qz K H ds xs->ds[i]?=ga d->∃x,xs[i]?=ga x/\sD K H d x
 | [],_,_,_,_,e=>by simp at e
 | d::ds,_,0,_,h,e=>by obtain⟨x,r,rfl,a,_⟩:=h.inv;simp at e;subst e;exact⟨x,by simp,a⟩
 | d::ds,_,i+1,_,h,e=>by obtain⟨x,r,rfl,_,b⟩:=h.inv;obtain⟨y,e1,e2⟩:=qz.get b (by simpa using e);exact⟨y,by simpa using e1,e2⟩
theorem qz.append:∀{ds es:T0 D} {xs ys:T0 V},qz K H ds xs->qz K H es ys->qz K H (ds++es) (xs++ys)
 | [],_,_,_,h,g=>by rw[h.nil_inv];exact g
 | d::ds,_,_,_,h,g=>by obtain⟨x,r,rfl,a,b⟩:=h.inv;exact .cons a (qz.append b g)
theorem qz.take:∀{ds:T0 D} {xs:T0 V} (n:Nat),qz K H ds xs->qz K H (ds.take n) (xs.take n)
 | _,_,0,_=>by simp only[List.take_zero];exact .nil
 | [],_,n+1,h=>by rw[h.nil_inv];exact .nil
 | d::ds,_,n+1,h=>by obtain⟨x,r,rfl,a,b⟩:=h.inv;exact .cons a (qz.take n b)
theorem qz.drop:∀{ds:T0 D} {xs:T0 V} (n:Nat),qz K H ds xs->qz K H (ds.drop n) (xs.drop n)
 | _,_,0,h=>h
 | [],_,n+1,h=>by rw[h.nil_inv];exact .nil
 | d::ds,_,n+1,h=>by obtain⟨x,r,rfl,a,b⟩:=h.inv;exact qz.drop n b
def qz.snoc(h:qz K H ds xs)(a:sD K H d x):qz K H (ds++[d]) (xs++[x]):=h.append (.cons a .nil)
theorem qz.ints:∀{ns:T0 Int},qz K H (ns.map D.int) (ns.map V.int)
 | []=>.nil
 | n::r=>.cons (by unfold sD;rfl) qz.ints
def sD.tup(q:vM K H a xs)(h:qz K H ds xs):sD K H (.tup ds) (.ref a):=by unfold sD;exact⟨a,xs,Z',q,h⟩
def sD.mY{ds:T0 D}(h:sD K H (.tup ds) v):∃a xs,v=.ref a/\vM K H a xs/\qz K H ds xs:=by unfold sD at h;exact h
def sD.nv{ds:T0 D}(h:sD K H (.rl ds) v):∃a xs,v=.ref a/\Qh K H a xs/\qz K H ds xs:=by unfold sD at h;exact h
def sD.int{i:Int}:sD K H (.int i) (.int i):=by unfold sD;rfl
def sD.bl{i:Bool}:sD K H (.bl i) (.bl i):=by unfold sD;rfl
def sD.str{i:Str}:sD K H (.str i) (.str i):=by unfold sD;rfl
def sD.ref{i:Uf}:sD K H (.ref i) (.ref i):=by unfold sD;rfl
def sD.mW:sD K H .mW .mW:=by unfold sD;rfl
def sD.int_inv{i:Int}(h:sD K H (.int i) v):v=.int i:=by unfold sD at h;exact h
def sD.mV{i:Bool}(h:sD K H (.bl i) v):v=.bl i:=by unfold sD at h;exact h
def sD.str_inv{i:Str}(h:sD K H (.str i) v):v=.str i:=by unfold sD at h;exact h
def sD.mS{i:Uf}(h:sD K H (.ref i) v):v=.ref i:=by unfold sD at h;exact h
def sD.nZ{i:String}(h:sD K H (.ty i) v):v=.ty i:=by unfold sD at h;exact h
def sD.mU{v:V}(h:sD K H .mW v):v=.mW:=by unfold sD at h;exact h
inductive vE where
 | lst (ds:List D)
 | ins (C:Uf) (fs:List (Str×D))
 | dk (kvs:List (rF×D))
 | exc (C:Uf)
abbrev Mp:=Uf->Option vE
noncomputable def pQ(M:Mp)(a:Uf)(c:vE):Mp:=λb=>if b=a then ga c else M b
def qd:pQ M a c a=ga c:=by unfold pQ;rw[de Z']
def tj{a b:Uf}(h:b≠a):pQ M a c b=M b:=by unfold pQ;rw[c9 h]
def sf:pQ (pQ M a c) a d=pQ M a d:=by funext b;unfold pQ;split<;>rfl
def Jm{M:Mp}{a b:Uf}{c:vE}(h:M a=ga c)(h':M b=Fa):a≠b:=by intro e;subst e;rw[h]at h';cases h'
def B7(K:qK)(H:Hp)(fs:T0 (Str×D))(vs:T0 (Str×V)):Prop:=vs.map (·.1)=fs.map (·.1)/\qz K H (fs.map (·.2)) (vs.map (·.2))
def yg(K:qK)(H:Hp)(a:Uf):vE->Prop
 | .lst ds=>∃xs,H a=ga (.lst xs)/\qz K H ds xs
 | .ins C fs=>∃dx vs,H a=ga (.ins C dx vs)/\Cls K C/\(∀f,f∈fs.map (·.1)->uI K C f)/\B7 K H fs vs
 | .dk kvs=>∃vs,H a=ga (.dK vs)/\vs.map (·.1)=kvs.map (·.1)/\qz K H (kvs.map (·.2)) (vs.map (·.2))
 | .exc C=>H a=ga (.ext (Uj a C))
def HM(K:qK)(H:Hp)(M:Mp):Prop:=∀a c,M a=ga c->yg K H a c
variable {M:Mp}
def B7.mono(e:rA K H H')(h:B7 K H fs vs):B7 K H' fs vs:=⟨h.1,h.2.mono e⟩
def yg.keep(e:rA K H H')(k:H' a=H a)(h:yg K H a c):yg K H' a c:=by
 cases c with
 | lst ds=>obtain⟨xs,e1,e2⟩:=h;exact⟨xs,by rw[k];exact e1,e2.mono e⟩
 | ins C fs=>obtain⟨dx,vs,e1,c,n,e2⟩:=h;exact⟨dx,vs,by rw[k];exact e1,c,n,e2.mono e⟩
 | dk kvs=>obtain⟨vs,e1,e2,e3⟩:=h;exact⟨vs,by rw[k];exact e1,e2,e3.mono e⟩
 | exc C=>exact k.trans h
def yg.there(h:yg K H a c):∃o,H a=ga o/\(∀xs,¬Rd H a (.tup xs))/\∀u xs,H a≠ga (.frz u (.lst xs)):=by
 have go:∀o,H a=ga o->(∀xs,o≠.tup xs)->(∀u v,o≠.frz u v)->∃o,H a=ga o/\(∀xs,¬Rd H a (.tup xs))/\∀u xs,H a≠ga (.frz u (.lst xs)):=λo e n1 n2=>⟨o,e,λxs q=>by
  rcases q with q|⟨u,q⟩
  .rw[e]at q;exact n1 xs (dg q)
  .rw[e]at q;exact n2 u _ (dg q),λu xs q=>by rw[e]at q;exact n2 u _ (dg q)⟩
 cases c with
 | lst ds=>obtain⟨xs,e1,e2⟩:=h;exact go _ e1 (λ_ z=>by cases z) λ_ _ z=>by cases z
 | ins C fs=>obtain⟨dx,vs,e1,e2⟩:=h;exact go _ e1 (λ_ z=>by cases z) λ_ _ z=>by cases z
 | dk kvs=>obtain⟨vs,e1,e2,e3⟩:=h;exact go _ e1 (λ_ z=>by cases z) λ_ _ z=>by cases z
 | exc C=>exact go _ h (λ_ z=>by cases z) λ_ _ z=>by cases z
def HM.fresh(h:HM K H M){p:Uf}(n:H p=Fa):M p=Fa:=by
 cases e:M p with
 | none=>rfl
 | some c=>obtain⟨o,q,_⟩:=(h p c e).there;rw[n]at q;cases q
def HM.keep(h:HM K H M)(e:rA K H H')(k:∀a c,M a=ga c->H' a=H a):HM K H' M:=λa c q=>(h a c q).keep e (k a c q)
def HM.add(h:HM K H M){p:Uf}{o:HO}(n:H p=Fa):HM K (upd H p o) M:=h.keep (.new n) λa c q=>by obtain⟨u,e,_⟩:=(h a c q).there;rw[qo (rB e n)]
def HM.new(h:HM K H M){p:Uf}{o:HO}{c:vE}(n:H p=Fa)(ok:yg K (upd H p o) p c):HM K (upd H p o) (pQ M p c):=λa d q=>by
 by_cases e:a=p
 .subst e;rw[qd]at q;cases q;exact ok
 .rw[tj e]at q;exact h.add n a d q
def HM.put(h:HM K H M){p:Uf}{o:HO}{c c0:vE}(e0:M p=ga c0)(ok:rA K H (upd H p o)->yg K (upd H p o) p c):HM K (upd H p o) (pQ M p c)/\rA K H (upd H p o):=by
 obtain⟨u,eu,nt,nf⟩:=(h p c0 e0).there;have x:rA K H (upd H p o):=.upd nt nf;refine⟨λa d q=>?_,x⟩;by_cases e:a=p
 .subst e;rw[qd]at q;cases q;exact ok x
 .rw[tj e]at q;exact(h a d q).keep x (qo e)
abbrev St:=L2.St
abbrev we:=T0 (Option D)
abbrev DK:=D->Mp->Prop
abbrev T3:=we->Mp->DK->Prop
abbrev AV:=we->Mp->(Bool->Mp->Prop)->Prop
abbrev yt:=we->Mp->(T0 D->Mp->Prop)->Prop
structure Gp where
 nx:we->Mp->Prop
 rt:DK
 bk:we->Mp->Prop:=λ_ _=>False
 ct:we->Mp->Prop:=λ_ _=>False
abbrev xY:=Gp->we->Mp->Prop
def Aj(K:qK)(H:Hp)(Y:St)(U:we):Prop:=∀(i:Nat) (d:D),U[i]?=ga (ga d)->∃v,Y[i]?=ga (ga v)/\sD K H d v
def Aj.mono{K:qK}(e:rA K H H')(h:Aj K H Y U):Aj K H' Y U:=λi d q=>by obtain⟨v,e1,e2⟩:=h i d q;exact⟨v,e1,e2.mono e⟩
def Aj.set{K:qK}{i:Nat}(h:Aj K H Y U)(hv:sD K H d v)(hi:i<Y.length):Aj K H (Y.set i (ga v)) (U.set i (ga d)):=λj e q=>by
 by_cases hj:j=i
 .subst hj;rw[fK hi];by_cases hl:j<U.length
  .rw[fK hl]at q;cases q;exact⟨v,Z',hv⟩
  .rw[ii (by simpa using hl)]at q;cases q
 .rw[fJ (dQ hj)]at q ⊢;exact h j e q
def lo(K:qK)(t:T3):TE:=λY H Q'=>Dj λU M Q=>Aj K H Y U/\HM K H M/\t U M Q/\∀v H' d M',sD K H' d v->HM K H' M'->rA K H H'->Q d M'->Q' v H'
def Tr(K:qK)(t:AV):TT:=λY H Q'=>Dj λU M Q=>Aj K H Y U/\HM K H M/\t U M Q/\∀b H' M',HM K H' M'->rA K H H'->Q b M'->Q' b H'
def WH(K:qK)(t:yt):TA:=λY H Q'=>Dj λU M Q=>Aj K H Y U/\HM K H M/\t U M Q/\∀vs H' ds M',qz K H' ds vs->HM K H' M'->rA K H H'->Q ds M'->Q' vs H'
def Vk(K:qK)(t:xY):TS:=λD' Y H=>Dj λU M D=>Aj K H Y U/\HM K H M/\t D U M/\(∀σ' H' δ' M',Aj K H' σ' δ'->HM K H' M'->rA K H H'->σ'.length=Y.length->D.nx δ' M'->D'.nx σ' H')/\
 (∀v H' d M',sD K H' d v->HM K H' M'->rA K H H'->D.rt d M'->D'.rt v H')/\(∀σ' H' δ' M',Aj K H' σ' δ'->HM K H' M'->rA K H H'->σ'.length=Y.length->D.bk δ' M'->D'.bk σ' H')/\
 (∀σ' H' δ' M',Aj K H' σ' δ'->HM K H' M'->rA K H H'->σ'.length=Y.length->D.ct δ' M'->D'.ct σ' H')
def E3(X:Cx)(e:Go)(t:T3):Prop:=PE X e (lo X.K t)
def B3(X:Cx)(e:Go)(t:AV):Prop:=PT X e (Tr X.K t)
def A3(X:Cx)(es:T0 Go)(t:yt):Prop:=PA X es (WH X.K t)
def S3(X:Cx)(st:sB)(t:xY):Prop:=PS X st (Vk X.K t)
def Hx(X:Cx)(st:T0 sB)(t:xY):Prop:=BY X st (Vk X.K t)
def PE.mono{t t':TE}(h:PE X e t)(m:∀Y H Q,t' Y H Q->t Y H Q):PE X e t':=λW7 s Y H Q I q=>h W7 s Y H Q I (m Y H Q q)
def PT.mono{t t':TT}(h:PT X e t)(m:∀Y H Q,t' Y H Q->t Y H Q):PT X e t':=λW7 s Y H Q I q=>h W7 s Y H Q I (m Y H Q q)
def PA.mono{t t':TA}(h:PA X e t)(m:∀Y H Q,t' Y H Q->t Y H Q):PA X e t':=λpos W7 s Y H Q I q=>h pos W7 s Y H Q I (m Y H Q q)
def PS.mono{t t':TS}(h:PS X e t)(m:∀D Y H,t' D Y H->t D Y H):PS X e t':=λW7 s Y H D I q=>h W7 s Y H D I (m D Y H q)
def BY.mono{t t':TS}(h:BY X e t)(m:∀D Y H,t' D Y H->t D Y H):BY X e t':=λW7 s Y H D I q=>h W7 s Y H D I (m D Y H q)
def PS.nW{t t':TS}(h:PS X e t)(m:∀D Y H,Y.length=X.N.length->t' D Y H->t D Y H):PS X e t':=λW7 s Y H D I q=>h W7 s Y H D I (m D Y H I.len q)
def wJ{K:qK}{Q':VK}{Q:DK}(x:rA K H H1)(f:∀v H' d M',sD K H' d v->HM K H' M'->rA K H H'->Q d M'->Q' v H'):∀v H' d M',sD K H' d v->HM K H' M'->rA K H1 H'->Q d M'->Q' v H':=
 λv H' d M' a b c e=>f v H' d M' a b (x.trans c) e
variable {X:Cx}{pos:Pos}
def v3(i:Nat):T3:=λU M Q=>(U.getD i Fa).elim False λd=>Q d M
def Kv{U:we}{i:Nat}{P:D->Prop}(h:(U.getD i Fa).elim False P):∃d,U[i]?=ga (ga d)/\P d:=by
 cases e:U[i]? with
 | none=>rw[fS,e]at h;exact h.elim
 | some o=>
  rw[fS,e]at h;cases o with
  | none=>exact h.elim
  | some d=>exact⟨d,Z',h⟩
def SV(i:Nat){x:Str}(h:PE X (.Name x pos) (HW i)):E3 X (.Name x pos) (v3 i):=PE.mono h λY H Q' zz=>x7 zz λU M Q hs hm ht k=>by obtain⟨d,e,q⟩:=Kv ht;obtain⟨v,e1,e2⟩:=hs i d e;exact⟨v,e1,k v H d M e2 hm .refl q⟩
def c3(d:D):T3:=λ_ M Q=>Q d M
def pK{i j}:E3 X (.Constant (.int i) j pos) (c3 (.int i)):=PE.mono Rk λY H Q' zz=>x7 zz λU M Q hs hm ht k=>k _ H _ M .int hm .refl ht
def vv{i j}:E3 X (.Constant (.bool i) j pos) (c3 (.bl i)):=PE.mono T1 λY H Q' zz=>x7 zz λU M Q hs hm ht k=>k _ H _ M .bl hm .refl ht
def pL{i j}:E3 X (.Constant (.str i) j pos) (c3 (.str i)):=PE.mono Tp λY H Q' zz=>x7 zz λU M Q hs hm ht k=>k _ H _ M .str hm .refl ht
def tw{j}:E3 X (.Constant .none j pos) (c3 .mW):=PE.mono S8 λY H Q' zz=>x7 zz λU M Q hs hm ht k=>k _ H _ M .mW hm .refl ht
def F'{n:String}(hg:Gl X x)(hm:X.mg x=Fa)(hv:zn x=ga (.type n))(hn:x≠"__name__":=by decide)(hd:zv x:=by decide):E3 X (.Name x pos) (c3 (.ty n)):=
 PE.mono (Pu (v:=.ty n) hg hm hv Z' hn hd) λY H Q' zz=>x7 zz λU M Q hs hm ht k=>k _ H _ M (by unfold sD;rfl) hm .refl ht
noncomputable def om(M:Mp)(a:Uf):Option (T0 D):=match M a with
 | some (.lst ds)=>ga ds
 | _=>Fa
noncomputable def zb(x:Str)(n:Int):Str:=⟨(List.replicate n.toNat x.cps).foldl (·++·) #[]⟩
def Vm(op:XXj)(x y:D)(M:Mp)(Q:DK):Prop:=match op,x,y with
 | .Add,.int i,.int j=>Q (.int (i+j)) M
 | .Add,.str i,.str j=>i.length+j.length<=Ch/\Q (.str (i++j)) M
 | .Add,.tup i,.tup j=>i≠[]/\i.length+j.length<=Ch/\Q (.tup (i++j)) M
 | .Add,.ref a,.ref b=>(om M a).elim False λi=>(om M b).elim False λj=>i.length+j.length<=Ch/\∀p,M p=Fa->Q (.ref p) (pQ M p (.lst (i++j)))
 | .Add,.rl i,.ref b=>(om M b).elim False λj=>i.length+j.length<=Ch/\∀p,M p=Fa->Q (.ref p) (pQ M p (.lst (i++j)))
 | .Sub,.int i,.int j=>Q (.int (i - j)) M
 | .Mult,.int i,.int j=>Dy i j/\Q (.int (i*j)) M
 | .Mult,.str i,.int j=>(j<4096/\-4096<j/\i.length<4096)/\Q (.str (zb i j)) M
 | .FloorDiv,.int i,.int j=>UQ i j/\Q (.int (i / j)) M
 | .Mod,.int i,.int j=>0<j/\Q (.int (i % j)) M
 | _,_,_=>False
def o3(op:XXj)(ta tb:T3):T3:=λU M Q=>ta U M λx M1=>tb U M1 λy M2=>Vm op x y M2 Q
def Up(K:qK)(H:Hp)(Q':VK)(Q:DK):Prop:=∀v H' d M',sD K H' d v->HM K H' M'->rA K H H'->Q d M'->Q' v H'
variable {ta tb:T3}
section
def qL{K:qK}{ds:T0 D}(hm:HM K H M)(h:om M a=ga ds):∃xs,zu K H a xs/\qz K H ds xs/\Rd H a (.lst xs):=by
 unfold om at h;cases e:M a with
 | none=>rw[e]at h;cases h
 | some c=>
  rw[e]at h;have ok:=hm a c e;cases c with
  | lst es=>cases h;obtain⟨xs,e1,e2⟩:=ok;exact⟨xs,.inl (.inl e1),e2,.inl e1⟩
  | ins _ _=>cases h
  | dk _=>cases h
  | exc _=>cases h
def rD{α:Type}{o:Option α}{P:α->Prop}(h:o.elim False P):∃a,o=ga a/\P a:=by
 cases o with
 | none=>exact h.elim
 | some a=>exact⟨a,Z',h⟩
def Js:yo X (IN .Add) (λx y H Q=>∃l b xs zs,x=.ref l/\y=.ref b/\zu X.K H l xs/\zu X.K H b zs/\xs.length+zs.length<=Ch/\∀p,H p=Fa->Q (.ref p) (upd H p (.lst (xs++zs)))):=by
 intro W7 s Y H x y v u Q I rx ry h;obtain⟨l,b,xs,zs,rfl,rfl,hH,hB,hz,q⟩:=h;cases rx;cases ry;obtain⟨its,r,⟨⟨c1,d1,t1,sl1⟩,n,g1,e1,_,f1⟩,_⟩:=I.list hH;obtain⟨Za,r2,⟨⟨c2,d2,t2,sl2⟩,m,g2,e2,_,f2⟩,_⟩:=I.list hB;simp only at e1 f1 e2 f2;subst e1 f1 e2 f2;have hl:=r.length;have hl2:=r2.length;refine kU ⟨_,g1,Z'⟩ ⟨_,g2,Z'⟩ noFill_list_add seq_list_add PySem.F.slot_list_add PySem.F.entry_list_add (PySem.F.args_list_add_2 _ _) (list_addW l b its.toArray Za.toArray n m d1 d2 sl1 sl2 (by rw[dz,dz];lia)) ⟨g1,g2,?_⟩;have ea:its.toArray++Za.toArray=(its++Za).toArray:=by simp
 rw[ea];exact⟨.ref _,_,I.pq (t':=s.toks) (r.append r2) (by rw[cX];lia),Z',q _ I.fresh⟩
def JN(x:Array Nat):∀k,((List.replicate k x).foldl (·++·) #[]:Array Nat).size=k*x.size:=by
 have go:∀(k:Nat) (acc:Array Nat),((List.replicate k x).foldl (·++·) acc).size=acc.size+k*x.size:=by
  intro k;induction k with
  | zero=>intro acc;simp
  | succ k ih=>intro acc;rw[eM,gg,ih,Array.size_append,mE];lia
 intro k;rw[go];simp
def Ow:yo X (IN .Mult) (λx y H Q=>∃i j,x=.str i/\y=.int j/\(j<4096/\-4096<j/\i.length<4096)/\Q (.str (zb i j)) H):=by
 intro W7 s Y H x y v u Q I rx ry h;obtain⟨i,j,rfl,rfl,⟨h1,h2,h3⟩,q⟩:=h;obtain⟨t,rfl⟩:=rx;obtain⟨t',rfl⟩:=ry;refine PySem.P.mul_str ?_ ?_ ?_ ?_
 .rw[eY (by lia),eY (by lia)];rfl
 .intro h0 _;have:(4096:Int)<=(2 ^ 63 - 1) / j:=by
   have:(4096:Int)*j<=2 ^ 63 - 1:=by lia
   exact(Int.le_ediv_iff_mul_le (by lia)).mpr this
  lia
 .intro h0 _;have hm:i.length*j.toNat<=4096*4096:=km (by lia) (by lia);have hz:=dI;unfold Builtin.Str.tooLong;exact eY (by lia)
 .by_cases h0:j<1
  .rw[de h0];have e:zb i j=Str.empty:=by unfold zb;rw[show j.toNat=0 by lia];rfl
   rw[e]at q;exact⟨by decide,⟨.str Str.empty,H,I.tok _,⟨_,Z'⟩,q⟩⟩
  .rw[c9 h0];by_cases hj:(j==1||i.length==0)=Db
   .rw[de hj];have e:zb i j=i:=by
     have hj':j=1\/i.length=0:=by simpa using hj
     unfold zb;rcases hj' with z|z
     .subst z;show(⟨#[]++i.cps⟩:Str)=i;simp
     .have ec:i.cps=#[]:=Array.size_eq_zero_iff.mp z;have er:∀k:Nat,((List.replicate k (#[]:Array Nat)).foldl (·++·) #[]:Array Nat)=#[]:=by
       intro k;induction k with
       | zero=>rfl
       | succ k ih=>rw[eM,gg];simpa using ih
      rw[ec,er,<-ec]
    rw[e]at q;exact⟨.str i,H,I,⟨t,Z'⟩,q⟩
   .rw[c9 hj];refine⟨?_,⟨.str _,H,I.tok _,⟨_,Z'⟩,q⟩⟩;have hz:=dI;have hm:j.toNat*i.length<=4096*4096:=km (by lia) (by lia);show((List.replicate j.toNat i.cps).foldl (·++·) #[]:Array Nat).size<=_;rw[JN];have YI:j.toNat*i.cps.size<=4096*4096:=hm;lia
def R3(K:qK)(f:D->D->Mp->DK->Prop):R2:=λvx vy H Q'=>CO λx y M Q=>sD K H x vx/\sD K H y vy/\HM K H M/\f x y M Q/\Up K H Q' Q
def W0(op:XXj):yo X (IN op) (R3 X.K (Vm op)):=by
 intro W7 s Y H vx vy v u Q' I rx ry h;obtain⟨x,y,M,Q,hx,hy,hm,q,k⟩:=h;unfold Vm at q;split at q
 .cases hx.int_inv;cases hy.int_inv;exact Ss W7 s Y H _ _ v u Q' I rx ry ⟨_,_,Z',Z',k _ _ _ _ .int hm .refl q⟩
 .cases hx.str_inv;cases hy.str_inv;exact IB W7 s Y H _ _ v u Q' I rx ry ⟨_,_,Z',Z',q.1,k _ _ _ _ .str hm .refl q.2⟩
 .rename_i i j;obtain⟨q1,q2,q3⟩:=q;obtain⟨a,xs,rfl,ha,YO⟩:=hx.mY;obtain⟨b,ys,rfl,hb,X5⟩:=hy.mY;have l1:=YO.length;have l2:=X5.length;refine QF W7 s Y H _ _ v u Q' I rx ry ⟨a,b,xs,ys,Z',Z',ha,hb,λz=>q1 (by rw[z]at l1;exact gA.mp l1),by lia,λz=>?_,λz p hp=>?_⟩
  .refine k _ _ _ _ (.tup ha ?_) hm .refl q3;rw[z]at X5;have e0:j=[]:=gA.mp (by simpa using X5.length);rw[e0,eG];exact YO
  .have e:rA X.K H (upd H p (.tup (xs++ys))):=.new hp;exact k _ _ _ _ (.tup (.of qy) ((YO.append X5).mono e)) (hm.add hp) e q3
 .obtain⟨i,ei,q⟩:=rD q;obtain⟨j,ej,q1,q2⟩:=rD q;cases hx.mS;cases hy.mS;obtain⟨xs,rx',Z4,_⟩:=qL hm ei;obtain⟨ys,ry',hys,_⟩:=qL hm ej;have l1:=Z4.length;have l2:=hys.length;refine Js W7 s Y H _ _ v u Q' I rx ry ⟨_,_,xs,ys,Z',Z',rx',ry',by lia,λp hp=>?_⟩;have e:rA X.K H (upd H p (.lst (xs++ys))):=.new hp;exact k _ _ _ _ .ref (hm.new (c:=.lst (i++j)) hp ⟨_,qy,(Z4.append hys).mono e⟩) e (q2 p (hm.fresh hp))
 .obtain⟨j,ej,q1,q2⟩:=rD q;obtain⟨l,xs,rfl,rx',Z4⟩:=hx.nv;cases hy.mS;obtain⟨ys,ry',hys,_⟩:=qL hm ej;have l1:=Z4.length;have l2:=hys.length;refine Js W7 s Y H _ _ v u Q' I rx ry ⟨_,_,xs,ys,Z',Z',rx'.sq,ry',by lia,λp hp=>?_⟩;have e:rA X.K H (upd H p (.lst (xs++ys))):=.new hp;exact k _ _ _ _ .ref (hm.new (c:=.lst (_++j)) hp ⟨_,qy,(Z4.append hys).mono e⟩) e (q2 p (hm.fresh hp))
 .cases hx.int_inv;cases hy.int_inv;exact Sv W7 s Y H _ _ v u Q' I rx ry ⟨_,_,Z',Z',k _ _ _ _ .int hm .refl q⟩
 .cases hx.int_inv;cases hy.int_inv;exact SO W7 s Y H _ _ v u Q' I rx ry ⟨_,_,Z',Z',q.1,k _ _ _ _ .int hm .refl q.2⟩
 .cases hx.str_inv;cases hy.int_inv;exact Ow W7 s Y H _ _ v u Q' I rx ry ⟨_,_,Z',Z',q.1,k _ _ _ _ .str hm .refl q.2⟩
 .cases hx.int_inv;cases hy.int_inv;exact OH W7 s Y H _ _ v u Q' I rx ry ⟨_,_,Z',Z',q.1,k _ _ _ _ .int hm .refl q.2⟩
 .cases hx.int_inv;cases hy.int_inv;exact Tq W7 s Y H _ _ v u Q' I rx ry ⟨_,_,Z',Z',q.1,k _ _ _ _ .int hm .refl q.2⟩
 .exact q.elim
variable {a b:Go}
def IU{f:D->D->Mp->DK->Prop}:∀Y H Q',lo X.K (λU M Q=>ta U M λx M1=>tb U M1 λy M2=>f x y M2 Q) Y H Q'->UN (R3 X.K f) (lo X.K ta) (lo X.K tb) Y H Q':=λY H Q' zz=>x7 zz λU M Q hs hm ht k=>⟨U,M,_,hs,hm,ht,λv H1 x M1 hx W9 e1 q1=>⟨U,M1,_,hs.mono e1,W9,q1,λu H2 y M2 hy Xr e2 q2=>⟨x,y,M2,Q,hx.mono e2,hy,Xr,q2,wJ (e1.trans e2) k⟩⟩⟩
def ql(ha:E3 X a ta)(hb:E3 X b tb):E3 X (.BinOp a op b pos) (o3 op ta tb):=PE.mono (Q1 (W0 op) ha hb) IU
end
noncomputable def tq(f:D->D->Option Bool):T0 D->T0 D->Option Bool
 | x::a,y::b=>(f x y).bind λp=>(tq f a b).map λq=>p&&q
 | _,_=>ga Db
noncomputable def xj(M:Mp):Nat->D->D->Option Bool
 | 0,_,_=>Fa
 | n+1,x,y=>match x,y with
  | .mW,.mW=>ga Db
  | .bl a,.bl b=>ga (a==b)
  | .int a,.int b=>ga (a==b)
  | .str a,.str b=>ga (a==b)
  | .mW,.bl _=>ga pc
  | .mW,.int _=>ga pc
  | .mW,.str _=>ga pc
  | .bl _,.mW=>ga pc
  | .bl _,.str _=>ga pc
  | .int _,.mW=>ga pc
  | .int _,.str _=>ga pc
  | .str _,.mW=>ga pc
  | .str _,.bl _=>ga pc
  | .str _,.int _=>ga pc
  | .tup a,.tup b=>(tq (xj M n) a b).map λp=>p&&a.length==b.length
  | .ref a,.ref b=>(om M a).bind λi=>(om M b).bind λj=>if i.length=j.length then tq (xj M n) i j else ga pc
  | _,_=>Fa
variable {W7:T0 (Uf × Obj)}{Y:St}{s:Sd}
theorem y0{f:D->D->Option Bool}:∀{ds es:T0 D} {xs:T0 V} {b:Bool},qz X.K H ds xs->qz X.K H es xs->(∀x y v b,sD X.K H x v->sD X.K H y v->f x y=ga b->b=Db)->tq f ds es=ga b->b=Db
 | [],[],_,_,_,_,_,e=>(dg e).symm
 | [],_::_,_,_,h,g,_,_=>by have h1:=h.length;have h2:=g.length;rw[<-h1]at h2;simp at h2
 | _::_,[],_,_,h,g,_,_=>by have h1:=h.length;have h2:=g.length;rw[<-h1]at h2;simp at h2
 | d::ds,e::es,xs,b,h,g,k,q=>by
  obtain⟨x,r,rfl,h1,h2⟩:=h.inv;obtain⟨x',r',e',g1,g2⟩:=g.inv;cases e';unfold tq at q;cases p1:f d e with
  | none=>rw[p1]at q;cases q
  | some b1=>
   rw[p1]at q;cases p2:tq f ds es with
   | none=>rw[p2]at q;cases q
   | some b2=>rw[p2]at q;have q':(b1&&b2)=b:=dg q;rw[<-q',k _ _ _ _ h1 g1 p1,y0 h2 g2 k p2];rfl
theorem zB(I:Inv X W7 Y H s)(hm:HM X.K H M):∀(n:Nat) (x y:D) (v:V) (b:Bool),sD X.K H x v->sD X.K H y v->xj M n x y=ga b->b=Db
 | 0,_,_,_,_,_,_,e=>by cases e
 | n+1,x,y,v,b,hx,hy,e=>by
  unfold xj at e;split at e
  .exact(dg e).symm
  .rw[hx.mV]at hy;cases hy.mV;exact(dg e).symm.trans (by simp)
  .rw[hx.int_inv]at hy;cases hy.int_inv;exact(dg e).symm.trans (by simp)
  .rw[hx.str_inv]at hy;cases hy.str_inv;exact(dg e).symm.trans (by simp)
  .rw[hx.mU]at hy;cases hy.mV
  .rw[hx.mU]at hy;cases hy.int_inv
  .rw[hx.mU]at hy;cases hy.str_inv
  .rw[hx.mV]at hy;cases hy.mU
  .rw[hx.mV]at hy;cases hy.str_inv
  .rw[hx.int_inv]at hy;cases hy.mU
  .rw[hx.int_inv]at hy;cases hy.str_inv
  .rw[hx.str_inv]at hy;cases hy.mU
  .rw[hx.str_inv]at hy;cases hy.mV
  .rw[hx.str_inv]at hy;cases hy.int_inv
  .obtain⟨a,xs,rfl,h1,h2⟩:=hx.mY;obtain⟨a',ys,e',g1,g2⟩:=hy.mY;cases e';rw[I.nB g1 h1]at g2;cases p:tq (xj M n) _ _ with
   | none=>rw[p]at e;cases e
   | some b1=>rw[p]at e;have e':=dg e;rw[<-e',y0 h2 g2 (zB I hm n) p,h2.length,g2.length];simp
  .rw[hx.mS]at hy;cases hy.mS;cases p:om M _ with
   | none=>rw[p]at e;cases e
   | some i=>rw[p]at e;have e:(if i.length=i.length then tq (xj M n) i i else ga pc)=ga b:=e;rw[de Z']at e;obtain⟨xs,_,h2,_⟩:=qL hm p;exact y0 h2 h2 (zB I hm n) e
  .cases e
theorem B0{A:Ar}:∀{ds es:T0 D} {xs ys:T0 V} {us ws:T0 Vl} {b:Bool},tq f ds es=ga b->qz X.K H ds xs->qz X.K H es ys->qN xs us->qN ys ws->
  (∀x y b vx vy u w,f x y=ga b->sD X.K H x vx->sD X.K H y vy->rh vx u->rh vy w->SeqAt.EqAt A s u w b)->
  ∃e:Nat->Bool,(∀j (h1:j<us.length) (h2:j<ws.length),SeqAt.EqAt A s us[j] ws[j] (e j))/\(List.range (min us.length ws.length)).all e=b
 | [],es,xs,ys,us,ws,b,q,hx,hy,rx,ry,k=>by
  have e1:=hx.nil_inv;subst e1;cases rx;refine⟨λ_=>Db,λj h1=>absurd h1 (by simp),?_⟩;have q':ga Db=ga b:=by cases es<;>exact q
  simpa using(dg q')
 | d::ds,[],xs,ys,us,ws,b,q,hx,hy,rx,ry,k=>by
  have e1:=hy.nil_inv;subst e1;cases ry;refine⟨λ_=>Db,λj _ h2=>absurd h2 (by simp),?_⟩;have q':ga Db=ga b:=q
  simpa using(dg q')
 | d::ds,e::es,xs,ys,us,ws,b,q,hx,hy,rx,ry,k=>by
  obtain⟨x,r,rfl,h1,h2⟩:=hx.inv;obtain⟨y,r',rfl,g1,g2⟩:=hy.inv;cases rx with
  | cons r1 r2=>
   cases ry with
   | cons t1 t2=>
    unfold tq at q;cases p1:f d e with
    | none=>rw[p1]at q;cases q
    | some b1=>
     rw[p1]at q;cases p2:tq f ds es with
     | none=>rw[p2]at q;cases q
     | some b2=>
      rw[p2]at q;have q':(b1&&b2)=b:=dg q;obtain⟨e',he,ha⟩:=B0 p2 h2 g2 r2 t2 k;refine⟨λj=>match j with|0=>b1|j+1=>e' j,λj l1 l2=>?_,?_⟩
      .cases j with
       | zero=>exact k _ _ _ _ _ _ _ p1 h1 g1 r1 t1
       | succ j=>exact he j (by simpa using l1) (by simpa using l2)
      .rw[<-q',<-ha];simp only[eA];rw[Nat.succ_min_succ,List.range_succ_eq_map,eO,jN];rfl
theorem FV(I:Inv X W7 Y H s)(hm:HM X.K H M):∀(n:Nat) (A:Ar) (x y:D) (b:Bool) (vx vy:V) (u w:Vl),A.units+n<W'->xj M n x y=ga b->sD X.K H x vx->sD X.K H y vy->rh vx u->rh vy w->
  SeqAt.RcAt A s u w b/\SeqAt.EqAt A s u w b/\SeqAt.RcNeAt A s u w (!b)
 | 0,_,_,_,_,_,_,_,_,_,e,_,_,_,_=>by cases e
 | n+1,A,x,y,b,vx,vy,u,w,hu,e,hx,hy,rx,ry=>by
  have hu1:A.units<W':=by lia
  have hui:A.in1.units+n<W':=by show A.units+1+n<W';lia
  unfold xj at e;split at e
  .cases hx.mU;cases hy.mU;cases rx;cases ry;cases e;exact⟨.none_none,.same _,.none_none⟩
  .cases hx.mV;cases hy.mV;cases rx;cases ry;cases e;exact⟨.bool_bool _ _,.bool_bool _ _,.bool_bool _ _⟩
  .cases hx.int_inv;cases hy.int_inv;obtain⟨t,rfl⟩:=rx;obtain⟨t',rfl⟩:=ry;cases e;exact⟨.int_int _ _ _ _,.int_int _ _ _ _,.int_int _ _ _ _⟩
  .cases hx.str_inv;cases hy.str_inv;obtain⟨t,rfl⟩:=rx;obtain⟨t',rfl⟩:=ry;cases e;exact⟨.str_str _ _ _ _,.str_str _ _ _ _,.str_str _ _ _ _⟩
  .cases hx.mU;cases hy.mV;cases rx;cases ry;cases e;exact⟨.none_bool _,.none_bool _,.none_bool _⟩
  .cases hx.mU;cases hy.int_inv;cases rx;obtain⟨t',rfl⟩:=ry;cases e;exact⟨.none_int _ _,.none_int _ _,.none_int _ _⟩
  .cases hx.mU;cases hy.str_inv;cases rx;obtain⟨t',rfl⟩:=ry;cases e;exact⟨.none_str _ _,.none_str _ _,.none_str _ _⟩
  .cases hx.mV;cases hy.mU;cases rx;cases ry;cases e;exact⟨.bool_none _,.bool_none _,.bool_none _⟩
  .cases hx.mV;cases hy.str_inv;cases rx;obtain⟨t',rfl⟩:=ry;cases e;exact⟨.bool_str _ _ _,.bool_str _ _ _,.bool_str _ _ _⟩
  .cases hx.int_inv;cases hy.mU;obtain⟨t,rfl⟩:=rx;cases ry;cases e;exact⟨.int_none _ _,.int_none _ _,.int_none _ _⟩
  .cases hx.int_inv;cases hy.str_inv;obtain⟨t,rfl⟩:=rx;obtain⟨t',rfl⟩:=ry;cases e;exact⟨.int_str _ _ _ _,.int_str _ _ _ _,.int_str _ _ _ _⟩
  .cases hx.str_inv;cases hy.mU;obtain⟨t,rfl⟩:=rx;cases ry;cases e;exact⟨.str_none _ _,.str_none _ _,.str_none _ _⟩
  .cases hx.str_inv;cases hy.mV;obtain⟨t,rfl⟩:=rx;cases ry;cases e;exact⟨.str_bool _ _ _,.str_bool _ _ _,.str_bool _ _ _⟩
  .cases hx.str_inv;cases hy.int_inv;obtain⟨t,rfl⟩:=rx;obtain⟨t',rfl⟩:=ry;cases e;exact⟨.str_int _ _ _ _,.str_int _ _ _ _,.str_int _ _ _ _⟩
  .rename_i da db;obtain⟨a1,xs,rfl,h1,h2⟩:=hx.mY;obtain⟨a2,ys,rfl,g1,g2⟩:=hy.mY;cases rx;cases ry;obtain⟨us,r1,p1,_⟩:=I.tuple h1;obtain⟨ws,r2,p2,_⟩:=I.tuple g1;cases p:tq (xj M n) da db with
   | none=>rw[p]at e;cases e
   | some b1=>
    have e0:=e;rw[p]at e;have e':(b1&&da.length==db.length)=b:=dg e;obtain⟨f,hf,ha⟩:=B0 (A:=A.in1) (s:=s) p h2 g2 r1 r2 λx y b vx vy u w q1 q2 q3 q4 q5=>(FV I hm n A.in1 x y b vx vy u w hui q1 q2 q3 q4 q5).2.1;have hb:((List.range (min us.toArray.size ws.toArray.size)).all f&&us.toArray.size==ws.toArray.size)=b:=by rw[dz,dz,ha,<-e',<-r1.length,<-r2.length,h2.length,g2.length]
    have hf':∀j (l1:j<us.toArray.size) (l2:j<ws.toArray.size),SeqAt.EqAt A.in1 s us.toArray[j] ws.toArray[j] (f j):=λj l1 l2=>by simpa using hf j (by simpa using l1) (by simpa using l2)
    have c1:SeqAt.RcAt A s (.ref a1) (.ref a2) b:=by rw[<-hb];exact .tuples p1 p2 hu1 hf'
    have c3:SeqAt.RcNeAt A s (.ref a1) (.ref a2) (!b):=by have:=SeqAt.RcNeAt.tuples p1 p2 hu1 hf';rw[hb]at this;exact this
    refine⟨c1,?_,c3⟩;by_cases ea:a1=a2
    .subst ea;have:b=Db:=zB I hm (n+1) (.tup da) (.tup db) (.ref a1) b hx hy (by unfold xj;exact e0);rw[this];exact .same _
    .exact .of_refs ea c1
  .cases hx.mS;cases hy.mS;cases rx;cases ry;rename_i a1 a2;have e0:=e;cases p:om M a1 with
   | none=>rw[p]at e;cases e
   | some i=>
    cases p':om M a2 with
    | none=>rw[p,p']at e;cases e
    | some j=>
     rw[p,p']at e;have e:(if i.length=j.length then tq (xj M n) i j else ga pc)=ga b:=e;obtain⟨xs,q1,h2,_⟩:=qL hm p;obtain⟨ys,q2,g2,_⟩:=qL hm p';obtain⟨us,r1,p1,_⟩:=I.list q1;obtain⟨ws,r2,p2,_⟩:=I.list q2;have Xc:SeqAt.RcAt A s (.ref a1) (.ref a2) b/\SeqAt.RcNeAt A s (.ref a1) (.ref a2) (!b):=by
      by_cases hl:i.length=j.length
      .rw[de hl]at e;obtain⟨f,hf,ha⟩:=B0 (A:=A.in1) (s:=s) e h2 g2 r1 r2 λx y b vx vy u w q1 q2 q3 q4 q5=>(FV I hm n A.in1 x y b vx vy u w hui q1 q2 q3 q4 q5).2.1;have hsz:us.toArray.size=ws.toArray.size:=by rw[dz,dz,<-r1.length,<-r2.length,<-h2.length,<-g2.length];exact hl
       have hf':∀j (l1:j<us.toArray.size) (l2:j<ws.toArray.size),SeqAt.EqAt A.in1 s us.toArray[j] ws.toArray[j] (f j):=λj l1 l2=>by simpa using hf j (by simpa using l1) (by simpa using l2)
       have hb:(List.range us.toArray.size).all f=b:=by rw[<-ha];rw[dz,dz]at hsz;rw[dz,<-hsz,Nat.min_self]
       rw[<-hb];exact⟨.lists p1.isList p2.isList hsz hu1 hf',.lists p1.isList p2.isList hsz hu1 hf'⟩
      .rw[c9 hl]at e;cases e;have hsz:(us.toArray.size != ws.toArray.size)=Db:=by
        rw[dz,dz,<-r1.length,<-r2.length,<-h2.length,<-g2.length]
        simpa using hl
       exact⟨.lists_lengths p1.isList p2.isList hsz hu1,.lists_lengths p1.isList p2.isList hsz hu1⟩
     refine⟨Xc.1,?_,Xc.2⟩;by_cases ea:a1=a2
     .subst ea;have:b=Db:=zB I hm (n+1) (.ref a1) (.ref a1) (.ref a1) b .ref .ref (by unfold xj;exact e0);rw[this];exact .same _
     .exact .of_refs ea Xc.1
  .cases e
noncomputable def vI:D->Bool
 | .mW=>Db
 | .bl _=>Db
 | .int _=>Db
 | .str _=>Db
 | _=>pc
noncomputable def QC:D->D->Bool
 | .mW,.mW=>Db
 | .bl a,.bl b=>a==b
 | .bl a,.int b=>(if a then 1 else 0)==b
 | .int a,.bl b=>a==(if b then 1 else 0)
 | .int a,.int b=>a==b
 | .str a,.str b=>a==b
 | _,_=>pc
noncomputable def inD(x:D)(ds:T0 D):Bool:=ds.any λy=>QC y x
noncomputable def Lx(M:Mp):D->Option (T0 D)
 | .tup ds=>ga ds
 | .ref a=>om M a
 | .rl ds=>ga ds
 | _=>Fa
noncomputable def DV(i j:Str):Bool:=!(Builtin.Str.occurrences j i 0 j.length 1).isEmpty
def R8(YN:Bool)(x y:D)(M:Mp)(Q:DK):Prop:=match x,y with
 | .str i,.str j=>Q (.bl (if YN then !DV i j else DV i j)) M
 | _,_=>(Lx M y).elim False λds=>vI x=Db/\ds.all vI=Db/\Q (.bl (if YN then !inD x ds else inD x ds)) M
def O7(op:CmpOp)(x y:D)(M:Mp)(Q:DK):Prop:=match op with
 | .Eq=>(xj M 9 x y).elim False λb=>Q (.bl b) M
 | .NotEq=>(xj M 9 x y).elim False λb=>Q (.bl (!b)) M
 | .Lt=>match x,y with|.int i,.int j=>Q (.bl (decide (i<j))) M|_,_=>False
 | .LtE=>match x,y with|.int i,.int j=>Q (.bl (decide (i<=j))) M|_,_=>False
 | .Gt=>match x,y with|.int i,.int j=>Q (.bl (decide (j<i))) M|_,_=>False
 | .GtE=>match x,y with|.int i,.int j=>Q (.bl (decide (j<=i))) M|_,_=>False
 | .Is=>match y with|.mW=>Q (.bl (match x with|.mW=>Db|_=>pc)) M|_=>False
 | .IsNot=>match y with|.mW=>Q (.bl (match x with|.mW=>pc|_=>Db)) M|_=>False
 | .In=>R8 pc x y M Q
 | .NotIn=>R8 Db x y M Q
def k3(op:CmpOp)(ta tb:T3):T3:=λU M Q=>ta U M λx M1=>tb U M1 λy M2=>O7 op x y M2 Q
def zP(h:sD K H d v)(f:vI d=Db):yQ v=Db:=by
 cases d with
 | mW=>rw[h.mU];rfl
 | bl _=>rw[h.mV];rfl
 | int _=>rw[h.int_inv];rfl
 | str _=>rw[h.str_inv];rfl
 | _=>cases f
def Jl(h:sD K H d v)(g:sD K H e w)(f:vI d=Db)(f':vI e=Db):Ob v w=QC d e:=by
 cases d with
 | mW=>
  rw[h.mU];cases e with
  | mW=>rw[g.mU];rfl
  | bl _=>rw[g.mV];rfl
  | int _=>rw[g.int_inv];rfl
  | str _=>rw[g.str_inv];rfl
  | _=>cases f'
 | bl _=>
  rw[h.mV];cases e with
  | mW=>rw[g.mU];rfl
  | bl _=>rw[g.mV];rfl
  | int _=>rw[g.int_inv];rfl
  | str _=>rw[g.str_inv];rfl
  | _=>cases f'
 | int _=>
  rw[h.int_inv];cases e with
  | mW=>rw[g.mU];rfl
  | bl _=>rw[g.mV];rfl
  | int _=>rw[g.int_inv];rfl
  | str _=>rw[g.str_inv];rfl
  | _=>cases f'
 | str _=>
  rw[h.str_inv];cases e with
  | mW=>rw[g.mU];rfl
  | bl _=>rw[g.mV];rfl
  | int _=>rw[g.int_inv];rfl
  | str _=>rw[g.str_inv];rfl
  | _=>cases f'
 | _=>cases f
theorem EF:∀{ds:T0 D} {xs:T0 V},qz K H ds xs->ds.all vI=Db->xs.all yQ=Db
 | [],_,h,_=>by rw[h.nil_inv];rfl
 | d::ds,_,h,f=>by obtain⟨x,r,rfl,h1,h2⟩:=h.inv;rw[eO,dU]at f ⊢;exact⟨zP h1 f.1,EF h2 f.2⟩
theorem Mb(g:sD K H e w)(f':vI e=Db):∀{ds:T0 D} {xs:T0 V},qz K H ds xs->ds.all vI=Db->inV w xs=inD e ds
 | [],_,h,_=>by rw[h.nil_inv];rfl
 | d::ds,_,h,f=>by obtain⟨x,r,rfl,h1,h2⟩:=h.inv;rw[eO,dU]at f;show(Ob x w||inV w r)=(QC d e||inD e ds);rw[Jl h1 g f.1 f',Mb g f' h2 f.2]
def Fk(hm:HM K H M){y:D}{v:V}{ds:T0 D}(h:sD K H y v)(q:Lx M y=ga ds):∃p xs,v=.ref p/\(zu K H p xs\/vM K H p xs)/\qz K H ds xs:=by
 cases y with
 | tup es=>cases q;obtain⟨a,xs,rfl,h1,h2⟩:=h.mY;exact⟨a,xs,Z',.inr h1,h2⟩
 | ref a=>cases h.mS;obtain⟨xs,h1,h2,_⟩:=qL hm q;exact⟨a,xs,Z',.inl h1,h2⟩
 | rl es=>cases q;obtain⟨a,xs,rfl,h1,h2⟩:=h.nv;exact⟨a,xs,Z',.inl h1.sq,h2⟩
 | _=>cases q
variable {c:Go}{tc:T3}
section
def K'(op:CmpOp)(hu:X.A.units+9<W'):yo X (Op op) (R3 X.K (O7 op)):=by
 intro W7 s Y H vx vy v u Q' I rx ry h;obtain⟨x,y,M,Q,hx,hy,hm,q,k⟩:=h;have bk:∀b,Q (.bl b) M->EP X W7 Y Q' (.bool b) s:=λb q=>⟨.bl b,H,I,Z',k _ _ _ _ .bl hm .refl q⟩;have inn:∀YN:Bool,((Lx M y).elim False λds=>vI x=Db/\ds.all vI=Db/\Q (.bl (if YN then !inD x ds else inD x ds)) M)->Wy X.K YN vx vy H Q':=λYN q=>by obtain⟨ds,e,f1,f2,q⟩:=rD q;obtain⟨p,xs,rfl,h1,h2⟩:=Fk hm hy e;refine⟨p,xs,Z',h1,zP hx f1,EF h2 f2,?_⟩;rw[Mb hx f1 h2 f2];exact k _ _ _ _ .bl hm .refl q
 cases op with
 | Eq=>obtain⟨b,e,q⟩:=rD q;exact(FV I hm 9 X.A x y b vx vy v u hu e hx hy rx ry).1 _ _ _ _ (bk b q)
 | NotEq=>obtain⟨b,e,q⟩:=rD q;exact(FV I hm 9 X.A x y b vx vy v u hu e hx hy rx ry).2.2 _ _ _ _ (bk _ q)
 | Lt=>
  cases x<;>first|exact q.elim|skip
  cases y<;>first|exact q.elim|skip
  cases hx.int_inv;cases hy.int_inv;exact UV W7 s Y H _ _ v u Q' I rx ry ⟨_,_,Z',Z',k _ _ _ _ .bl hm .refl q⟩
 | LtE=>
  cases x<;>first|exact q.elim|skip
  cases y<;>first|exact q.elim|skip
  cases hx.int_inv;cases hy.int_inv;exact TZ W7 s Y H _ _ v u Q' I rx ry ⟨_,_,Z',Z',k _ _ _ _ .bl hm .refl q⟩
 | Gt=>
  cases x<;>first|exact q.elim|skip
  cases y<;>first|exact q.elim|skip
  cases hx.int_inv;cases hy.int_inv;exact Uq W7 s Y H _ _ v u Q' I rx ry ⟨_,_,Z',Z',k _ _ _ _ .bl hm .refl q⟩
 | GtE=>
  cases x<;>first|exact q.elim|skip
  cases y<;>first|exact q.elim|skip
  cases hx.int_inv;cases hy.int_inv;exact Uk W7 s Y H _ _ v u Q' I rx ry ⟨_,_,Z',Z',k _ _ _ _ .bl hm .refl q⟩
 | Is=>
  cases y<;>first|exact q.elim|skip
  cases hy.mU;refine SR W7 s Y H _ _ v u Q' I rx ry ⟨Z',k _ _ _ _ ?_ hm .refl q⟩;cases x with
  | mW=>rw[hx.mU];exact .bl
  | bl _=>rw[hx.mV];exact .bl
  | int _=>rw[hx.int_inv];exact .bl
  | str _=>rw[hx.str_inv];exact .bl
  | tup _=>obtain⟨a,xs,rfl,_⟩:=hx.mY;exact .bl
  | ref _=>rw[hx.mS];exact .bl
  | ty _=>rw[hx.nZ];exact .bl
  | rl _=>obtain⟨a,xs,rfl,_⟩:=hx.nv;exact .bl
 | IsNot=>
  cases y<;>first|exact q.elim|skip
  cases hy.mU;refine PZ W7 s Y H _ _ v u Q' I rx ry ⟨Z',k _ _ _ _ ?_ hm .refl q⟩;cases x with
  | mW=>rw[hx.mU];exact .bl
  | bl _=>rw[hx.mV];exact .bl
  | int _=>rw[hx.int_inv];exact .bl
  | str _=>rw[hx.str_inv];exact .bl
  | tup _=>obtain⟨a,xs,rfl,_⟩:=hx.mY;exact .bl
  | ref _=>rw[hx.mS];exact .bl
  | ty _=>rw[hx.nZ];exact .bl
  | rl _=>obtain⟨a,xs,rfl,_⟩:=hx.nv;exact .bl
 | In=>
  have q:R8 pc x y M Q:=q;unfold R8 at q;split at q
  .cases hx.str_inv;cases hy.str_inv;exact KI W7 s Y H _ _ v u Q' I rx ry ⟨_,_,Z',Z',k _ _ _ _ .bl hm .refl q⟩
  .exact K0 W7 s Y H _ _ v u Q' I rx ry (inn pc q)
 | NotIn=>
  have q:R8 Db x y M Q:=q;unfold R8 at q;split at q
  .cases hx.str_inv;cases hy.str_inv;exact F4 W7 s Y H _ _ v u Q' I rx ry ⟨_,_,Z',Z',k _ _ _ _ .bl hm .refl q⟩
  .exact Fz W7 s Y H _ _ v u Q' I rx ry (inn Db q)
variable {a b:Go}
def qr{op:CmpOp}(hu:X.A.units+9<W')(ha:E3 X a ta)(hb:E3 X b tb)(hm:wS op b=pc:=by first|exact HQ _|with_unfolding_all rfl):E3 X (.Compare a [op] [b] pos) (k3 op ta tb):=PE.mono (Jz (K' op hu) ha hb hm) IU
def b3(t:T3):AV:=λU M Q=>t U M λd M1=>match d with|.bl c=>Q c M1|_=>False
def ua(h:E3 X e t)(he:∀XF,isTrue e X.env XF=(do let v<-XF;Y' e.pos;xz [v] (truthy v)):=by intro _;rfl):B3 X e (b3 t):=PT.mono (RU h he) λY H Q' zz=>x7 zz λU M Q hs hm ht k=>
 ⟨U,M,_,hs,hm,ht,λv H1 d M1 hd W9 e1 q1=>by
  cases d with
  | bl c=>exact⟨c,hd.mV,k c H1 M1 W9 e1 q1⟩
  | _=>exact q1.elim⟩
def pP{op:CmpOp}(hu:X.A.units+9<W')(ha:E3 X a ta)(hb:E3 X b tb)(hm:wS op b=pc:=by first|exact HQ _|with_unfolding_all rfl):B3 X (.Compare a [op] [b] pos) (b3 (k3 op ta tb)):=PT.mono (JF (K' op hu) ha hb hm) λY H Q' zz=>x7 zz λU M Q hs hm ht k=>
 IU Y H _ ⟨U,M,_,hs,hm,ht,λv H1 d M1 hd W9 e1 q1=>by
  cases d with
  | bl c=>exact⟨c,hd.mV,k c H1 M1 W9 e1 q1⟩
  | _=>exact q1.elim⟩
end
variable {tA tB:AV}{rest:T0 Go}
section
variable {a b:Go}
def Ol(t u:AV):AV:=λU M Q=>t U M λc M1=>if c=Db then u U M1 Q else Q pc M1
def WW(t u:AV):AV:=λU M Q=>t U M λc M1=>if c=Db then Q Db M1 else u U M1 Q
def UG(t:AV):AV:=λU M Q=>t U M λc M1=>Q (!c) M1
def W3(X:Cx)(e:Go)(t:AV):Prop:=PW X e (Tr X.K t)
def PW.mono{t t':TT}(h:PW X e t)(m:∀Y H Q,t' Y H Q->t Y H Q):PW X e t':=λwh W7 s Y H Q I q=>h wh W7 s Y H Q I (m Y H Q q)
def W3.b3(h:W3 X e t):B3 X e t:=PW.pt h
def uE(h:B3 X a tA):W3 X (.BoolOp .And [a] pos) tA:=Oj h
def vC(h:B3 X a tA):W3 X (.BoolOp .Or [a] pos) tA:=R5 h
def vh(ha:B3 X a tA)(hb:W3 X (.BoolOp .And (b::rest) pos) tB):W3 X (.BoolOp .And (a::b::rest) pos) (Ol tA tB):=PW.mono (Tf ha hb) λY H Q' zz=>x7 zz λU M Q hs hm ht k=>
 ⟨U,M,_,hs,hm,ht,λc H1 M1 W9 e1 q1=>by
  cases c with
  | true=>exact(de Z').mpr ⟨U,M1,Q,hs.mono e1,W9,(de Z').mp q1,λb H' M' x1 x2 x3=>k b H' M' x1 (e1.trans x2) x3⟩
  | false=>exact(c9 dw).mpr (k pc H1 M1 W9 e1 ((c9 dw).mp q1))⟩
def vH(ha:B3 X a tA)(hb:W3 X (.BoolOp .Or (b::rest) pos) tB):W3 X (.BoolOp .Or (a::b::rest) pos) (WW tA tB):=PW.mono (Uh ha hb) λY H Q' zz=>x7 zz λU M Q hs hm ht k=>
 ⟨U,M,_,hs,hm,ht,λc H1 M1 W9 e1 q1=>by
  cases c with
  | true=>exact(de Z').mpr (k Db H1 M1 W9 e1 ((de Z').mp q1))
  | false=>exact(c9 dw).mpr ⟨U,M1,Q,hs.mono e1,W9,(c9 dw).mp q1,λb H' M' x1 x2 x3=>k b H' M' x1 (e1.trans x2) x3⟩⟩
def vm(ha:B3 X a tA):B3 X (.UnaryOp .Not a pos) (UG tA):=PT.mono (RQ ha) λY H Q' zz=>x7 zz λU M Q hs hm ht k=>⟨U,M,_,hs,hm,ht,λc H1 M1 W9 e1 q1=>k _ H1 M1 W9 e1 q1⟩
def UJ(ta tb:T3):T3:=λU M Q=>ta U M λd M1=>match d with|.bl c=>if c=Db then tb U M1 Q else Q (.bl pc) M1|_=>False
def Wk(ta tb:T3):T3:=λU M Q=>ta U M λd M1=>match d with|.bl c=>if c=Db then Q (.bl Db) M1 else tb U M1 Q|_=>False
def Vc(ta:T3):T3:=λU M Q=>ta U M λd M1=>match d with|.bl c=>Q (.bl (!c)) M1|_=>False
def sT{op}(h:E3 X a ta):E3 X (.BoolOp op [a] pos) ta:=Ru h
def tL(ha:E3 X a ta)(hb:E3 X (.BoolOp .And (b::rest) pos) tb):E3 X (.BoolOp .And (a::b::rest) pos) (UJ ta tb):=PE.mono (R0 ha hb) λY H Q' zz=>x7 zz λU M Q hs hm ht k=>
 ⟨U,M,_,hs,hm,ht,λv H1 d M1 hd W9 e1 q1=>by
  cases d with
  | bl c=>
   refine⟨c,hd.mV,?_⟩;cases c with
   | true=>exact(de Z').mpr ⟨U,M1,Q,hs.mono e1,W9,(de Z').mp q1,wJ e1 k⟩
   | false=>exact(c9 dw).mpr (k _ H1 _ M1 .bl W9 e1 ((c9 dw).mp q1))
  | _=>exact q1.elim⟩
def Gd(ha:E3 X a ta)(hb:E3 X (.BoolOp .Or (b::rest) pos) tb):E3 X (.BoolOp .Or (a::b::rest) pos) (Wk ta tb):=PE.mono (Ur ha hb) λY H Q' zz=>x7 zz λU M Q hs hm ht k=>
 ⟨U,M,_,hs,hm,ht,λv H1 d M1 hd W9 e1 q1=>by
  cases d with
  | bl c=>
   refine⟨c,hd.mV,?_⟩;cases c with
   | true=>exact(de Z').mpr (k _ H1 _ M1 .bl W9 e1 ((de Z').mp q1))
   | false=>exact(c9 dw).mpr ⟨U,M1,Q,hs.mono e1,W9,(c9 dw).mp q1,wJ e1 k⟩
  | _=>exact q1.elim⟩
def Sg(ha:E3 X a ta):E3 X (.UnaryOp .Not a pos) (Vc ta):=PE.mono (Rp ha) λY H Q' zz=>x7 zz λU M Q hs hm ht k=>
 ⟨U,M,_,hs,hm,ht,λv H1 d M1 hd W9 e1 q1=>by
  cases d with
  | bl c=>exact⟨c,hd.mV,k _ H1 _ M1 .bl W9 e1 q1⟩
  | _=>exact q1.elim⟩
def WZ(t:AV)(ta tb:T3):T3:=λU M Q=>t U M λc M1=>if c=Db then ta U M1 Q else tb U M1 Q
def QT(hc:B3 X c tA)(ha:E3 X a ta)(hb:E3 X b tb):E3 X (.IfExp c a b pos) (WZ tA ta tb):=PE.mono (Nl hc ha hb) λY H Q' zz=>x7 zz λU M Q hs hm ht k=>
 ⟨U,M,_,hs,hm,ht,λc H1 M1 W9 e1 q1=>by
  cases c with
  | true=>exact(de Z').mpr ⟨U,M1,Q,hs.mono e1,W9,(de Z').mp q1,wJ e1 k⟩
  | false=>exact(c9 dw).mpr ⟨U,M1,Q,hs.mono e1,W9,(c9 dw).mp q1,wJ e1 k⟩⟩
def VY(x y:D)(M:Mp)(Q:DK):Prop:=match x,y with
 | .tup ds,.int i=>(wX ds i).elim False λd=>Q d M
 | .ref a,.int i=>(om M a).elim False λds=>(wX ds i).elim False λd=>Q d M
 | .rl ds,.int i=>(wX ds i).elim False λd=>Q d M
 | .str z,.int i=>z.length<=Ch/\(wX z.cps.toList i).elim False λc=>Q (.str ⟨#[c]⟩) M
 | _,_=>False
def i3(ta tb:T3):T3:=λU M Q=>ta U M λx M1=>tb U M1 λy M2=>VY x y M2 Q
def F0{K:qK}{d:D}(h:qz K H ds xs)(e:wX ds i=ga d):∃v,wX xs i=ga v/\sD K H d v:=by
 unfold wX at e ⊢;rw[<-h.length];cases q:Ht ds.length i with
 | none=>rw[q]at e;cases e
 | some j=>rw[q]at e;exact h.get e
def WT:Ts X (R3 X.K VY):=by
 intro value Xk W7 s Y H vx vy v u Q' I rx ry h hs;obtain⟨x,y,M,Q,hx,hy,hm,q,k⟩:=h;unfold VY at q;split at q
 .obtain⟨d,e,q⟩:=rD q;obtain⟨p,xs,rfl,h1,h2⟩:=hx.mY;cases hy.int_inv;obtain⟨w,e1,e2⟩:=F0 h2 e;exact RI value Xk W7 s Y H _ _ v u Q' I rx ry ⟨p,xs,_,w,Z',Z',h1,e1,k _ _ _ _ e2 hm .refl q⟩ hs
 .obtain⟨ds,e0,q⟩:=rD q;obtain⟨d,e,q⟩:=rD q;cases hx.mS;cases hy.int_inv;obtain⟨xs,h1,h2,_⟩:=qL hm e0;obtain⟨w,e1,e2⟩:=F0 h2 e;exact J1 value Xk W7 s Y H _ _ v u Q' I rx ry ⟨_,xs,_,w,Z',Z',h1,e1,k _ _ _ _ e2 hm .refl q⟩ hs
 .obtain⟨d,e,q⟩:=rD q;obtain⟨p,xs,rfl,h1,h2⟩:=hx.nv;cases hy.int_inv;obtain⟨w,e1,e2⟩:=F0 h2 e;exact J1 value Xk W7 s Y H _ _ v u Q' I rx ry ⟨p,xs,_,w,Z',Z',h1.sq,e1,k _ _ _ _ e2 hm .refl q⟩ hs
 .obtain⟨q1,q⟩:=q;obtain⟨c,e,q⟩:=rD q;cases hx.str_inv;cases hy.int_inv;exact SK value Xk W7 s Y H _ _ v u Q' I rx ry ⟨_,_,c,Z',Z',q1,e,k _ _ _ _ .str hm .refl q⟩ hs
 .exact q.elim
def pT(ha:E3 X a ta)(hb:E3 X b tb)(hs:BF b:=by exact λ_ _=>rfl):E3 X (.Subscript a b pos) (i3 ta tb):=PE.mono (NZ WT ha hb hs) IU
noncomputable def vj(ds:T0 D)(lo hi:Option Int):T0 D:=(ds.drop (HT.tS ds.length 0 lo)).take (HT.tS ds.length ds.length hi - HT.tS ds.length 0 lo)
def E2{K:qK}(q:qz K H ds xs):qz K H (vj ds l h) (C4 xs l h):=by unfold vj C4;rw[q.length];exact(q.drop _).take _
abbrev Tx:=we->Mp->(Option Int->Mp->Prop)->Prop
def W1(K:qK)(t:Tx):TO:=λY H Q'=>Dj λU M Q=>Aj K H Y U/\HM K H M/\t U M Q/\∀o H' M',HM K H' M'->rA K H H'->Q o M'->Q' o H'
def O3(X:Cx)(e:Option Go)(t:Tx):Prop:=PO X e (W1 X.K t)
def Oo:Tx:=λ_ M Q=>Q Fa M
def UE(t:T3):Tx:=λU M Q=>t U M λd M1=>match d with|.int i=>Q (ga i) M1|_=>False
def PO.mono{t t':TO}(h:PO X e t)(m:∀Y H Q,t' Y H Q->t Y H Q):PO X e t':=λW7 s Y H Q I q=>h W7 s Y H Q I (m Y H Q q)
def sL:O3 X Fa Oo:=PO.mono Qa λY H Q' zz=>x7 zz λU M Q hs hm ht k=>k Fa H M hm .refl ht
def sO(h:E3 X e t):O3 X (ga e) (UE t):=PO.mono (Pm h) λY H Q' zz=>x7 zz λU M Q hs hm ht k=>
 ⟨U,M,_,hs,hm,ht,λv H1 d M1 hd W9 e1 q1=>by
  cases d with
  | int i=>exact⟨i,hd.int_inv,k (ga i) H1 M1 W9 e1 q1⟩
  | _=>exact q1.elim⟩
def WI(x:D)(lo hi:Option Int)(M:Mp)(Q:DK):Prop:=match x with
 | .tup ds=>Q (.tup (vj ds lo hi)) M
 | .ref a=>(om M a).elim False λds=>∀p,M p=Fa->Q (.ref p) (pQ M p (.lst (vj ds lo hi)))
 | .rl ds=>∀p,M p=Fa->Q (.ref p) (pQ M p (.lst (vj ds lo hi)))
 | _=>False
def s3(te:T3)(tl th:Tx):T3:=λU M Q=>te U M λx M1=>tl U M1 λl M2=>th U M2 λu M3=>WI x l u M3 Q
def VM(K:qK):V->Option Int->Option Int->Hp->VK->Prop:=λvx l u H Q'=>Dj λx M Q=>sD K H x vx/\HM K H M/\WI x l u M Q/\Up K H Q' Q
def QI{ds:T0 D}{lo hi:Option Int}(h:HT.tS ds.length 0 lo=0/\HT.tS ds.length ds.length hi=ds.length):vj ds lo hi=ds:=by unfold vj;rw[h.1,h.2,ko,kY,fj]
def Vy:U4 X (VM X.K):=by
 intro W7 s Y H vx v vl vu l u sl Q' I rx Zp pl pu h;obtain⟨x,M,Q,hx,hm,q,k⟩:=h;cases x with
 | tup ds=>
  have q2:Q (.tup (vj ds l u)) M:=q;obtain⟨a,xs,rfl,h1,h2⟩:=hx.mY;by_cases q1:HT.tS ds.length 0 l=0/\HT.tS ds.length ds.length u=ds.length
  .rw[QI q1]at q2;exact Re W7 s Y H _ v vl vu l u sl Q' I rx Zp pl pu ⟨a,xs,Z',h1,by rw[<-h2.length];exact q1,k _ _ _ _ hx hm .refl q2⟩
  refine RB W7 s Y H _ v vl vu l u sl Q' I rx Zp pl pu ⟨a,xs,Z',h1,by rw[<-h2.length];exact q1,λp hp=>?_⟩;have e:rA X.K H (upd H p (.tup (C4 xs l u))):=.new hp;exact k _ _ _ _ (.tup (.of qy) ((E2 h2).mono e)) (hm.add hp) e q2
 | ref a=>obtain⟨ds,e0,q⟩:=rD q;cases hx.mS;obtain⟨xs,h1,h2,_⟩:=qL hm e0;refine JT W7 s Y H _ v vl vu l u sl Q' I rx Zp pl pu ⟨a,xs,Z',h1,λp hp=>?_⟩;have e:rA X.K H (upd H p (.lst (C4 xs l u))):=.new hp;exact k _ _ _ _ .ref (hm.new (c:=.lst (vj ds l u)) hp ⟨_,qy,(E2 h2).mono e⟩) e (q p (hm.fresh hp))
 | rl ds=>obtain⟨a,xs,rfl,h1,h2⟩:=hx.nv;refine JT W7 s Y H _ v vl vu l u sl Q' I rx Zp pl pu ⟨a,xs,Z',h1.sq,λp hp=>?_⟩;have e:rA X.K H (upd H p (.lst (C4 xs l u))):=.new hp;exact k _ _ _ _ .ref (hm.new (c:=.lst (vj ds l u)) hp ⟨_,qy,(E2 h2).mono e⟩) e (q p (hm.fresh hp))
 | _=>exact q.elim
def rS{lo hi:Option Go}{p2:Pos}(he:E3 X e te)(hl:O3 X lo tl)(hu:O3 X hi th):E3 X (.Subscript e (.Slice lo hi Fa p2) pos) (s3 te tl th):=PE.mono (LO Vy he hl hu) λY H Q' zz=>x7 zz λU M Q hs hm ht k=>⟨U,M,_,hs,hm,ht,λv H1 x M1 hx W9 e1 q1=>⟨U,M1,_,hs.mono e1,W9,q1,λl H2 M2 Xr e2 q2=>⟨U,M2,_,hs.mono (e1.trans e2),Xr,q2,λu H3 M3 X8 e3 q3=>⟨x,M3,Q,hx.mono (e2.trans e3),X8,q3,wJ (e1.trans (e2.trans e3)) k⟩⟩⟩⟩
def yr:yt:=λ_ M Q=>Q [] M
def wb(ta:T3)(tr:yt):yt:=λU M Q=>ta U M λx M1=>tr U M1 λxs M2=>Q (x::xs) M2
def sH:A3 X [] yr:=PA.mono SC λY H Q' zz=>x7 zz λU M Q hs hm ht k=>k [] H [] M .nil hm .refl ht
def qh(ha:E3 X e te)(hr:A3 X es t)(hs:Bm X e es:=by rfl):A3 X (e::es) (wb te t):=PA.mono (Pv ha hr hs) λY H Q' zz=>x7 zz λU M Q hs hm ht k=>⟨U,M,_,hs,hm,ht,λv H1 x M1 hx W9 e1 q1=>⟨U,M1,_,hs.mono e1,W9,q1,λvs H2 xs M2 Z4 Xr e2 q2=>k _ H2 _ M2 (.cons (hx.mono e2) Z4) Xr (e1.trans e2) q2⟩⟩
def Wm(t:yt):T3:=λU M Q=>t U M λds M1=>ds.length<=Ch/\Q (.tup ds) M1
def UO(t:yt):T3:=λU M Q=>t U M λds M1=>ds.length<=Ch/\∀p,M1 p=Fa->Q (.ref p) (pQ M1 p (.lst ds))
def pX{x1}(h:A3 X es t):E3 X (.Tuple es x1 pos) (Wm t):=PE.mono (Rm h) λY H Q' zz=>x7 zz λU M Q hs hm ht k=>
 ⟨U,M,_,hs,hm,ht,λvs H1 ds M1 Yr W9 e1 q1=>⟨by rw[<-Yr.length];exact q1.1,λp hp=>by
  have e:rA X.K H1 (upd H1 p (.tup vs)):=.new hp;exact k _ _ _ M1 (.tup (.of qy) (Yr.mono e)) (W9.add hp) (e1.trans e) q1.2⟩⟩
def qX(h:A3 X es t):E3 X (.List es pos) (UO t):=PE.mono (So h) λY H Q' zz=>x7 zz λU M Q hs hm ht k=>
 ⟨U,M,_,hs,hm,ht,λvs H1 ds M1 Yr W9 e1 q1=>⟨by rw[<-Yr.length];exact q1.1,λp hp=>by
  have e:rA X.K H1 (upd H1 p (.lst vs)):=.new hp;exact k _ _ _ _ .ref (W9.new (c:=.lst ds) hp ⟨_,qy,Yr.mono e⟩) (e1.trans e) (q1.2 p (W9.fresh hp))⟩⟩
def va(t u:xY):xY:=λD U M=>t {D with nx:=u D} U M
def Tw:xY:=λD U M=>D.nx U M
def pU:Hx X [] Tw:=BY.mono OQ λD' Y H zz=>Lf zz λU M D hs hm ht k1 k2 k3 k4=>k1 Y H U M hs hm .refl Z' ht
def pH{st:sB}{rest:T0 sB}(h1:S3 X st t)(h2:Hx X rest u):Hx X (st::rest) (va t u):=BY.mono (NW h1 h2) λD' Y H zz=>Lf zz λU M D hs hm ht k1 k2 k3 k4=>
 ⟨U,M,{D with nx:=u D},hs,hm,ht,λσ1 H1 δ1 M1 Z5 W9 e1 l1 q1=>⟨δ1,M1,D,Z5,W9,q1,λσ' H' δ' M' x1 x2 x3 x4 x5=>k1 σ' H' δ' M' x1 x2 (e1.trans x3) (x4.trans l1) x5,λv H' d M' x1 x2 x3 x4=>k2 v H' d M' x1 x2 (e1.trans x3) x4,λσ' H' δ' M' x1 x2 x3 x4 x5=>k3 σ' H' δ' M' x1 x2 (e1.trans x3) (x4.trans l1) x5,λσ' H' δ' M' x1 x2 x3 x4 x5=>k4 σ' H' δ' M' x1 x2 (e1.trans x3) (x4.trans l1) x5⟩,k2,k3,k4⟩
def pI{st:sB}(h1:S3 X st t):Hx X [st] t:=BY.mono (JH h1) λD' Y H h=>h
def QX(te:T3):xY:=λD U M=>te U M λ_ M1=>D.nx U M1
def pY(he:E3 X e te)(YG:ZB e Fa pos.line X.env=pure pc:=by rfl):S3 X (.Expr e pos) (QX te):=PS.mono (PK he YG) λD' Y H zz=>Lf zz λU M D hs hm ht k1 k2 k3 k4=>⟨U,M,_,hs,hm,ht,λv H1 d M1 hd W9 e1 q1=>k1 Y H1 U M1 (hs.mono e1) W9 e1 Z' q1⟩
def S9(te:T3):xY:=λD U M=>te U M D.rt
def pO(he:E3 X e te):S3 X (.Return (ga e) pos) (S9 te):=PS.mono (Sf he) λD' Y H zz=>Lf zz λU M D hs hm ht k1 k2 k3 k4=>⟨U,M,_,hs,hm,ht,λv H1 d M1 hd W9 e1 q1=>k2 v H1 d M1 hd W9 e1 q1⟩
def OG(c:AV)(t u:xY):xY:=λD U M=>c U M λb M1=>if b=Db then t D U M1 else u D U M1
def qa{tc:AV}(hc:B3 X c tc)(ha:Hx X as t)(hb:Hx X bs u):S3 X (.If c as bs pos) (OG tc t u):=PS.mono (UH hc ha hb) λD' Y H zz=>Lf zz λU M D hs hm ht k1 k2 k3 k4=>
 ⟨U,M,_,hs,hm,ht,λb H1 M1 W9 e1 q1=>by
  have up:∀t:xY,t D U M1->Vk X.K t D' Y H1:=λt q=>⟨U,M1,D,hs.mono e1,W9,q,λσ' H' δ' M' x1 x2 x3 x4 x5=>k1 σ' H' δ' M' x1 x2 (e1.trans x3) x4 x5,λv H' d M' x1 x2 x3 x4=>k2 v H' d M' x1 x2 (e1.trans x3) x4,λσ' H' δ' M' x1 x2 x3 x4 x5=>k3 σ' H' δ' M' x1 x2 (e1.trans x3) x4 x5,λσ' H' δ' M' x1 x2 x3 x4 x5=>k4 σ' H' δ' M' x1 x2 (e1.trans x3) x4 x5⟩
  cases b with
  | true=>exact(de Z').mpr (up t ((de Z').mp q1))
  | false=>exact(c9 dw).mpr (up u ((c9 dw).mp q1))⟩
def Sy:xY:=λ_ _ _=>False
def G'{st:sB}:S3 X st Sy:=PS.mono Nd λD' Y H ⟨U,M,D,hs,hm,ht,_⟩=>ht
abbrev Eh:=D->we->Mp->(we->Mp->Prop)->Prop
def Vn(K:qK)(g:Eh):TG:=λv Y H Q'=>CO λd U M Q=>sD K H d v/\Aj K H Y U/\HM K H M/\g d U M Q/\∀σ' H' δ' M',Aj K H' σ' δ'->HM K H' M'->rA K H H'->σ'.length=Y.length->Q δ' M'->Q' σ' H'
def G3(X:Cx)(e:Go)(g:Eh):Prop:=PG X e (Vn X.K g)
def PG.nW{t t':TG}(h:PG X e t)(m:∀v Y H Q,Y.length=X.N.length->t' v Y H Q->t v Y H Q):PG X e t':=λW7 s Y H v u Q I r q=>h W7 s Y H v u Q I r (m v Y H Q I.len q)
def qZ(i:Nat):Eh:=λd U M Q=>Q (U.set i (ga d)) M
def JU{i:Nat}{x:Str}(hN:X.N.Nodup)(hi:X.N[i]?=ga x)(hx:Nk X.env.scope x)(hf:L0 X x:=by first|exact .inl Z'|exact .inr Z'|assumption):G3 X (.Name x pos) (qZ i):=
 PG.nW (Qv hN hi hx hf) λv Y H Q' hl ⟨d,U,M,Q,hd,hs,hm,ht,k⟩=>k _ H _ M (hs.set hd (by rw[hl];exact(cZ.mp hi).1)) hm .refl (by simp) ht
abbrev GN:=T0 D->we->Mp->(we->Mp->Prop)->Prop
def Wq(K:qK)(g:GN):OM:=λvs Y H Q'=>CO λds U M Q=>qz K H ds vs/\Aj K H Y U/\HM K H M/\g ds U M Q/\∀σ' H' δ' M',Aj K H' σ' δ'->HM K H' M'->rA K H H'->σ'.length=Y.length->Q δ' M'->Q' σ' H'
def Vi(X:Cx)(es:T0 Go)(g:GN):Prop:=N8 X es (Wq X.K g)
def N8.mono{t t':OM}(h:N8 X e t)(m:∀v Y H Q,t' v Y H Q->t v Y H Q):N8 X e t':=λW7 s Y H v u Q I r q=>h W7 s Y H v u Q I r (m v Y H Q q)
def PG.mono{t t':TG}(h:PG X e t)(m:∀v Y H Q,t' v Y H Q->t v Y H Q):PG X e t':=λW7 s Y H v u Q I r q=>h W7 s Y H v u Q I r (m v Y H Q q)
def Ek:GN:=λds U M Q=>match ds with|[]=>Q U M|_=>False
def zd(t:Eh)(u:GN):GN:=λds U M Q=>match ds with|d::r=>t d U M λδ' M'=>u r δ' M' Q|[]=>False
def ue:Vi X [] Ek:=N8.mono Os λvs Y H Q' ⟨ds,U,M,Q,hd,hs,hm,ht,k⟩=>by
 cases ds with
 | nil=>exact⟨hd.nil_inv,k Y H U M hs hm .refl Z' ht⟩
 | cons _ _=>exact ht.elim
def qI(h1:G3 X e t)(h2:Vi X es u)(hs:(xL (e::es) X.env).map (·.2)=assign e X.env::(xL es X.env).map (·.2):=by rfl):Vi X (e::es) (zd t u):=
 N8.mono (LC h1 h2 hs) λvs Y H Q' ⟨ds,U,M,Q,hd,hs,hm,ht,k⟩=>by
 cases ds with
 | nil=>exact ht.elim
 | cons d r=>obtain⟨x,xr,rfl,hx,hr⟩:=hd.inv;exact⟨x,xr,Z',d,U,M,_,hx,hs,hm,ht,λσ1 H1 δ1 M1 Z5 W9 e1 l1 q1=>⟨r,δ1,M1,Q,hr.mono e1,Z5,W9,q1,λσ' H' δ' M' x1 x2 x3 x4 x5=>k σ' H' δ' M' x1 x2 (e1.trans x3) (x4.trans l1) x5⟩⟩
def QZ(n:Nat)(t:GN):Eh:=λd U M Q=>match d with|.tup ds=>ds.length=n/\t ds U M Q|_=>False
def vg{n:Nat}(hc:X.calm=Db)(h:Vi X es t)(hn:(xL es X.env).length=n:=by rfl)(Xv:(xL es X.env).findIdx? (·.1)=Fa:=by rfl):G3 X (.Tuple es k pos) (QZ n t):=
 PG.mono (R6 hc h hn Xv) λv Y H Q' ⟨d,U,M,Q,hd,hs,hm,ht,k⟩=>by
 cases d with
 | tup ds=>obtain⟨a,xs,rfl,h1,h2⟩:=hd.mY;exact⟨a,xs,Z',h1,by rw[<-h2.length];exact ht.1,ds,U,M,Q,h2,hs,hm,ht.2,k⟩
 | _=>exact ht.elim
def B5(te:T3)(g:Eh):xY:=λD U M=>te U M λx M1=>g x U M1 D.nx
def S0(he:E3 X e te)(hg:G3 X tg g)(hs:swapsWithSole [tg] e pos.line X.env=pure pc:=by rfl)(hw:swappedStores [tg] e X.env=pure Fa:=by rfl)
  (h1:(xL [tg] X.env).map (·.2)=[assign tg X.env]:=by rfl):S3 X (.Assign [tg] e pos) (B5 te g):=PS.mono (Sj he hg hs hw h1) λD' Y H zz=>Lf zz λU M D hs hm ht k1 k2 k3 k4=>
 ⟨U,M,_,hs,hm,ht,λv H1 d M1 hd W9 e1 q1=>⟨d,U,M1,_,hd,hs.mono e1,W9,q1,λσ' H' δ' M' x1 x2 x3 x4 x5=>k1 σ' H' δ' M' x1 x2 (e1.trans x3) x4 x5⟩⟩
def Tj{i:Nat}{x:Str}(hN:X.N.Nodup)(hi:X.N[i]?=ga x)(hx:Nk X.env.scope x)(he:E3 X e te)(YG:ZB e (ga (.Name x Xl)) pos.line X.env=pure pc:=by rfl)
  (hf:L0 X x:=by first|exact .inl Z'|exact .inr Z'|assumption):S3 X (.Assign [.Name x Xl] e pos) (B5 te (qZ i)):=PS.nW (SU hN hi hx he YG hf) λD' Y H hl zz=>Lf zz λU M D hs hm ht k1 k2 k3 k4=>
 ⟨U,M,_,hs,hm,ht,λv H1 d M1 hd W9 e1 q1=>k1 _ H1 _ M1 ((hs.mono e1).set hd (by rw[hl];exact(cZ.mp hi).1)) W9 e1 (by simp) q1⟩
end
abbrev rM:=T0 D->Mp->DK->Prop
def Oc(K:qK)(sp:rM):Sp:=λvs H Q' _=>Dj λds M Q=>qz K H ds vs/\HM K H M/\sp ds M Q/\Up K H Q' Q
noncomputable def xD(N:QQQ)(ds:T0 D):we:=ds.map ga++List.replicate (N.length - ds.length) Fa
def ED{K:qK}(h:qz K H ds vs):Aj K H (L2.start N vs) (xD N ds):=λi d q=>by
 unfold xD at q;unfold L2.start;by_cases hi:i<ds.length
 .rw[fi (by simpa using hi),dC]at q;cases e:ds[i]? with
  | none=>rw[e]at q;cases q
  | some d'=>rw[e]at q;cases q;obtain⟨v,e1,e2⟩:=h.get e;refine⟨v,?_,e2⟩;rw[fi (by rw[cV,<-h.length];exact hi),dC,e1];rfl
 .rw[eU (by simpa using hi),jU]at q;split at q<;>cases q
variable {P:Pg}{w:Wo}{mg:QQZ}{base:No}
abbrev Tu(P:Pg)(w:Wo)(K:qK)(mg:QQZ)(base:No)(k:Nat)(f:Uf)(fd:wv)(ps:QQQ)(sp:rM):Prop:=xU P w K mg base Oa k f fd ps (Oc K sp)
variable {k:Nat}{f C:Uf}{fd:wv}{ps:QQQ}{sp:rM}{x m fn:Str}{p Xa:Pos}{e o:Go}{es:T0 Go}{t:yt}
def D5(sp:rM)(t:yt):T3:=λU M Q=>t U M λds M1=>sp ds M1 Q
def Ph(F:Tu X.prog X.w X.K X.mg X.base k f fd ps sp)(hr:sQ k X.A)(hg:Gl X x)(hm:X.mg x=ga (.ref f))(hk:W.keepIn X.K (.ref f)=Db)(hb:vq X.K fd ps [])(ha:A3 X (e::es) t) (Xs:zv x:=by decide) (he:Bm X e es:=by rfl) (Xp:Co X pos es:=by rfl):
  E3 X (.Call (.Name x p) (e::es) [] pos) (D5 sp t):=PE.mono (O0 F hr hg hm hk hb .nil (GI (X:=X)) ha Xs he Xp) λY H Q' zz=>x7 zz λU M Q hs hm ht k=>
 ⟨U,M,_,hs,hm,ht,λvs H1 ds M1 hd W9 e1 q1=>⟨ds,M1,Q,by rw[eG];exact hd,W9,q1,wJ e1 k⟩⟩
def C3(X:Cx)(f:Vl)(r:rM):Prop:=zY X f λvs H Q'=>∃ds M Q,qz X.K H ds vs/\HM X.K H M/\r ds M Q/\Up X.K H Q' Q
def qc{id:String}(hc:C3 X (.builtin id) r)(hg:Gl X x)(hm:X.mg x=Fa)(hv:zn x=ga (.builtin id))(ha:A3 X (e::es) t)(hn:x≠"__name__":=by decide)(Xs:zv x:=by decide)
  (he:Bm X e es:=by rfl) (Xp:Co X pos es:=by rfl):E3 X (.Call (.Name x p) (e::es) [] pos) (D5 r t):=
 PE.mono (NA hc hg hm hv ha hn Xs he Xp) λY H Q' zz=>x7 zz λU M Q hs hm ht k=>⟨U,M,_,hs,hm,ht,λvs H1 ds M1 hd W9 e1 q1=>⟨ds,M1,Q,hd,W9,q1,wJ e1 k⟩⟩
def qg{T:String}(hc:C3 X (.type T) r)(hg:Gl X x)(hm:X.mg x=Fa)(hv:zn x=ga (.type T))(ha:A3 X (e::es) t)(hn:x≠"__name__":=by decide)(Xs:zv x:=by decide)
  (he:Bm X e es:=by rfl) (Xp:Co X pos es:=by rfl):E3 X (.Call (.Name x p) (e::es) [] pos) (D5 r t):=
 PE.mono (KU hc hg hm hv ha hn Xs he Xp) λY H Q' zz=>x7 zz λU M Q hs hm ht k=>⟨U,M,_,hs,hm,ht,λvs H1 ds M1 hd W9 e1 q1=>⟨ds,M1,Q,hd,W9,q1,wJ e1 k⟩⟩
def Uc(ds:T0 D)(M:Mp)(Q:DK):Prop:=match ds with
 | [.str z]=>z.length<=Ch/\Q (.int z.length) M
 | [.tup es]=>Q (.int es.length) M
 | [.ref a]=>(om M a).elim False λes=>Q (.int es.length) M
 | [.rl es]=>Q (.int es.length) M
 | _=>False
def sN{K:qK}{d:D}(h:qz K H [d] vs):∃v,vs=[v]/\sD K H d v:=by obtain⟨x,r,rfl,a,b⟩:=h.inv;rw[b.nil_inv];exact⟨x,Z',a⟩
def FZ{K:qK}{d e:D}(h:qz K H [d,e] vs):∃v u,vs=[v,u]/\sD K H d v/\sD K H e u:=by obtain⟨x,r,rfl,a,b⟩:=h.inv;obtain⟨y,rfl,c⟩:=sN b;exact⟨x,y,Z',a,c⟩
def qC:C3 X (.builtin "len") Uc:=by
 intro W7 s Y H vs us Q' I rv h;obtain⟨ds,M,Q,hd,hm,q,k⟩:=h;unfold Uc at q;split at q
 .obtain⟨v,rfl,hv⟩:=sN hd;cases hv.str_inv;exact Fd W7 s Y H _ us Q' I rv ⟨_,Z',q.1,k _ _ _ _ .int hm .refl q.2⟩
 .obtain⟨v,rfl,hv⟩:=sN hd;obtain⟨a,xs,rfl,h1,h2⟩:=hv.mY;exact xG W7 s Y H _ us Q' I rv ⟨a,xs,Z',.inr h1,k _ _ _ _ (by rw[<-h2.length];exact .int) hm .refl q⟩
 .obtain⟨v,rfl,hv⟩:=sN hd;obtain⟨es,e0,q⟩:=rD q;cases hv.mS;obtain⟨xs,h1,h2,_⟩:=qL hm e0;exact xG W7 s Y H _ us Q' I rv ⟨_,xs,Z',.inl h1,k _ _ _ _ (by rw[<-h2.length];exact .int) hm .refl q⟩
 .obtain⟨v,rfl,hv⟩:=sN hd;obtain⟨a,xs,rfl,h1,h2⟩:=hv.nv;exact xG W7 s Y H _ us Q' I rv ⟨a,xs,Z',.inl h1.sq,k _ _ _ _ (by rw[<-h2.length];exact .int) hm .refl q⟩
 .exact q.elim
def UK(ds:T0 D)(M:Mp)(Q:DK):Prop:=match ds with
 | [.int i,.int j]=>Q (.int (if j<i then j else i)) M
 | _=>False
def Rt(hc:X.calm=Db):C3 X (.builtin "min") UK:=by
 intro W7 s Y H vs us Q' I rv h;obtain⟨ds,M,Q,hd,hm,q,k⟩:=h;unfold UK at q;split at q
 .obtain⟨v,u,rfl,hv,hw⟩:=FZ hd;cases hv.int_inv;cases hw.int_inv;exact KA hc W7 s Y H _ us Q' I rv ⟨_,_,Z',k _ _ _ _ .int hm .refl q⟩
 .exact q.elim
def Nt(ds:T0 D)(M:Mp)(Q:DK):Prop:=match ds with
 | [.tup es]=>Q (.tup es) M
 | [.ref a]=>(om M a).elim False λes=>Q (.tup es) M
 | [.rl es]=>Q (.tup es) M
 | _=>False
def rR:C3 X (.type "tuple") Nt:=by
 intro W7 s Y H vs us Q' I rv h;obtain⟨ds,M,Q,hd,hm,q,k⟩:=h;unfold Nt at q;split at q
 .obtain⟨v,rfl,hv⟩:=sN hd;obtain⟨a,xs,rfl,h1,h2⟩:=id hv.mY;exact wO W7 s Y H _ us Q' I rv ⟨a,xs,Z',.inr ⟨h1,k _ _ _ _ hv hm .refl q⟩⟩
 .obtain⟨v,rfl,hv⟩:=sN hd;obtain⟨es,e0,q⟩:=rD q;cases hv.mS;obtain⟨xs,h1,h2,_⟩:=qL hm e0;refine wO W7 s Y H _ us Q' I rv ⟨_,xs,Z',.inl ⟨h1,λl hl=>?_⟩⟩;have e:rA X.K H (upd H l (.tup xs)):=.new hl;exact k _ _ _ _ (.tup (.of qy) (h2.mono e)) (hm.add hl) e q
 .obtain⟨v,rfl,hv⟩:=sN hd;obtain⟨a,xs,rfl,h1,h2⟩:=hv.nv;refine wO W7 s Y H _ us Q' I rv ⟨_,xs,Z',.inl ⟨h1.sq,λl hl=>?_⟩⟩;have e:rA X.K H (upd H l (.tup xs)):=.new hl;exact k _ _ _ _ (.tup (.of qy) (h2.mono e)) (hm.add hl) e q
 .exact q.elim
def Q9(ds:T0 D)(M:Mp)(Q:DK):Prop:=match ds with
 | [d]=>(Lx M d).elim False λes=>∀p,M p=Fa->Q (.ref p) (pQ M p (.lst es))
 | _=>False
def sv:C3 X (.type "list") Q9:=by
 intro W7 s Y H vs us Q' I rv h;obtain⟨ds,M,Q,hd,hm,q,k⟩:=h;unfold Q9 at q;split at q
 .obtain⟨v,rfl,hv⟩:=sN hd;obtain⟨es,e0,q⟩:=rD q;obtain⟨p,xs,rfl,h1,h2⟩:=Fk hm hv e0;refine EG W7 s Y H _ us Q' I rv ⟨p,xs,Z',h1,λl hl=>?_⟩;have e:rA X.K H (upd H l (.lst xs)):=.new hl;exact k _ _ _ _ .ref (hm.new (c:=.lst es) hl ⟨_,qy,h2.mono e⟩) e (q l (hm.fresh hl))
 .exact q.elim
theorem xu{K:qK}{f:Str}:∀{fs:T0 (Str×D)} {vs:T0 (Str×V)},B7 K H fs vs->(∀d,fs.lookup f=ga d->∃v,vs.lookup f=ga v/\sD K H d v)/\(fs.lookup f=Fa->vs.lookup f=Fa)
 | [],[],_=>⟨λd e=>by simp at e,λ_=>rfl⟩
 | [],_::_,h=>by have:=h.1;simp at this
 | _::_,[],h=>by have:=h.1;simp at this
 | (g,d)::fs,(g',v)::vs,h=>by
  have h1:g'=g/\vs.map (·.1)=fs.map (·.1):=by
   have:=h.1
   simpa using this
  obtain⟨x,r,e,a,b⟩:=h.2.inv;have e':v::vs.map (·.2)=x::r:=e;cases e';obtain⟨i1,i2⟩:=xu (f:=f) (fs:=fs) (vs:=vs) ⟨h1.2,b⟩;rw[h1.1];refine⟨λd' e=>?_,λe=>?_⟩
  .rw[eK]at e ⊢;cases q:f==g with
   | true=>rw[q]at e;cases e;exact⟨v,Z',a⟩
   | false=>rw[q]at e;exact i1 d' e
  .rw[eK]at e ⊢;cases q:f==g with
   | true=>rw[q]at e;cases e
   | false=>rw[q]at e;exact i2 e
theorem JE{f:Str}{d:D}:∀{fs:T0 (Str×D)},fs.lookup f=ga d->f∈fs.map (·.1)
 | [],h=>by simp at h
 | (g,e)::r,h=>by
  rw[eK]at h;cases q:f==g with
  | true=>
   have z:f=g:=by simpa using q
   rw[z,dW];exact dO
  | false=>rw[q]at h;simp[JE h]
def Bo(o:Option vE)(F:Uf->T0 (Str×D)->Prop):Prop:=match o with
 | some (.ins C fs)=>F C fs
 | _=>False
def pJ{o:Option vE}{F:Uf->T0 (Str×D)->Prop}{C:Uf}{fs:T0 (Str×D)}(e:o=ga (.ins C fs))(h:F C fs):Bo o F:=by rw[e];exact h
def yf{o:Option vE}(h:Bo o F):∃C fs,o=ga (.ins C fs)/\F C fs:=by
 unfold Bo at h;split at h
 .exact⟨_,_,Z',h⟩
 .exact h.elim
def VI(f:Str)(ta:T3):T3:=λU M Q=>ta U M λx M1=>match x with
 | .ref a=>Bo (M1 a) λ_ fs=>(fs.lookup f).elim False λd=>Q d M1
 | _=>False
def pN{f:Str}(he:E3 X o ta)(hb:Rs o f X.env (wp o X.env)=wp o X.env:=by rfl):E3 X (.Attribute o f pos) (VI f ta):=PE.mono (Rx he hb) λY H Q' zz=>x7 zz λU M Q hs hm ht k=>
 ⟨U,M,_,hs,hm,ht,λv H1 d M1 hd W9 e1 q1=>by
  cases d with
  | ref a=>cases hd.mS;obtain⟨C,fs,e,q1⟩:=yf q1;obtain⟨d,e2,q⟩:=rD q1;obtain⟨dx,vs,h1,cl,na,fo⟩:=W9 a _ e;obtain⟨v,e3,hv⟩:=(xu fo).1 d e2;exact⟨a,C,dx,vs,v,Z',h1,cl,na f (JE e2),e3,k v H1 d M1 hv W9 e1 q⟩
  | _=>exact q1.elim⟩
noncomputable def wU(f:Str)(v:D):T0 (Str×D)->T0 (Str×D)
 | []=>[(f,v)]
 | (g,u)::r=>if g=f then(g,v)::r else(g,u)::wU f v r
theorem FB{K:qK}{f:Str}(hv:sD K H d v):∀{fs:T0 (Str×D)} {vs:T0 (Str×V)},B7 K H fs vs->B7 K H (wU f d fs) (wq f v vs)
 | [],[],_=>⟨Z',.cons hv .nil⟩
 | [],_::_,h=>by have:=h.1;simp at this
 | _::_,[],h=>by have:=h.1;simp at this
 | (g,e)::fs,(g',u)::vs,h=>by
  have h1:g'=g/\vs.map (·.1)=fs.map (·.1):=by
   have:=h.1
   simpa using this
  obtain⟨x,r,e1,a,b⟩:=h.2.inv;have e':u::vs.map (·.2)=x::r:=e1;cases e';obtain⟨hg,ht⟩:=h1;subst hg;rw[show wU f d ((g',e)::fs)=(if g'=f then(g',d)::fs else(g',e)::wU f d fs)from Z',show wq f v ((g',u)::vs)=(if g'=f then(g',v)::vs else(g',u)::wq f v vs)from Z'];by_cases q:g'=f
  .rw[de q,de q];exact⟨by simpa using ht,.cons hv b⟩
  .rw[c9 q,c9 q];obtain⟨i1,i2⟩:=FB hv (fs:=fs) (vs:=vs) ⟨ht,b⟩;exact⟨by simpa using i1,.cons a i2⟩
theorem B4{f:Str}:∀{fs:T0 (Str×D)} {g:Str},g∈(wU f d fs).map (·.1)->g=f\/g∈fs.map (·.1)
 | [],g,h=>.inl (by simpa [wU]using h)
 | (k,e)::r,g,h=>by
  rw[show wU f d ((k,e)::r)=(if k=f then(k,d)::r else(k,e)::wU f d r)from Z']at h;by_cases q:k=f
  .rw[de q]at h;exact .inr (by simpa using h)
  .rw[c9 q]at h;rw[dW,dh]at h;rcases h with h|h
   .exact .inr (by simp[h])
   .rcases B4 h with z|z
    .exact .inl z
    .exact .inr (by simp;right;simpa using z)
def TM(K:qK)(f:Str)(ta tv:T3):xY:=λD U M=>tv U M λy M1=>ta U M1 λx M2=>match x with
 | .ref a=>Bo (M2 a) λC fs=>uI K C f/\fs.length<1000/\D.nx U (pQ M2 a (.ins C (wU f y fs)))
 | _=>False
def qv{f:Str}(ha:E3 X o ta)(hv:E3 X value tv)(YG:ZB value (ga (.Attribute o f Xl)) pos.line X.env=pure pc:=by rfl):S3 X (.Assign [.Attribute o f Xl] value pos) (TM X.K f ta tv):=
 PS.mono (RX ha hv YG) λD' Y H zz=>Lf zz λU M D hs hm ht k1 k2 k3 k4=>
 ⟨U,M,_,hs,hm,ht,λy H1 dy M1 hy W9 e1 q1=>⟨U,M1,_,hs.mono e1,W9,q1,λv H2 d M2 hd Xr e2 q2=>by
  cases d with
  | ref a=>
   cases hd.mS;obtain⟨C,fs,e,q2⟩:=yf q2;obtain⟨na,hl,q⟩:=q2;obtain⟨dx,vs,h1,cl,nn,fo⟩:=Xr a _ e;have Xd:vs.length=fs.length:=by have:=eV List.length fo.1;simpa using this
   refine⟨a,C,dx,vs,Z',h1,cl,na,by lia,?_⟩;obtain⟨X8,e3⟩:=Xr.put (p:=a) (o:=.ins C dx (wq f y vs)) (c:=.ins C (wU f dy fs)) e λx=>⟨dx,_,qy,cl,λg hg=>by
    rcases B4 hg with z|z
    .rw[z];exact na
    .exact nn g z,FB ((hy.mono e2).mono x) (fo.mono x)⟩
   exact k1 Y _ U _ (hs.mono (e1.trans (e2.trans e3))) X8 (e1.trans (e2.trans e3)) Z' q
  | _=>exact q2.elim⟩⟩
def QP(C:Uf)(sp:rM)(t:yt):T3:=λU M Q=>t U M λds M1=>∀x,M1 x=Fa->sp (.ref x::ds) (pQ M1 x (.ins C [])) λd M2=>d=.mW/\Q (.ref x) M2
def NM{K:qK}{xa dx:Uf}(hm:HM K H M)(cl:Cls K C)(h1:H xa=Fa)(h2:H dx=Fa)(ne:dx≠xa):HM K (upd (upd H dx (.own xa)) xa (.ins C dx [])) (pQ M xa (.ins C []))/\rA K H (upd (upd H dx (.own xa)) xa (.ins C dx [])):=by
 have XT:upd H dx (.own xa) xa=Fa:=by rw[qo (dQ ne)];exact h1
 exact⟨(hm.add (p:=dx) (o:=.own xa) h2).new XT ⟨dx,[],qy,cl,λg hg=>by simp at hg,Z',.nil⟩,rA.trans (.new h2) (.new XT)⟩
def OL(cl:Cls X.K C)(Mk':Mk X.K C f)(F:Tu X.prog X.w X.K X.mg X.base k f fd ps sp)(hr:sQ (k+1) X.A)(hg:Gl X x)(hm:X.mg x=ga (.ref C))(hb:vq X.K fd ps [])(ha:A3 X (e::es) t) (Xs:zv x:=by decide) (he:Bm X e es:=by rfl) (Xp:Co X pos es:=by rfl):
  E3 X (.Call (.Name x p) (e::es) [] pos) (QP C sp t):=PE.mono (Py Mk' F hr hg hm hb .nil (GI (X:=X)) ha Xs he Xp) λY H Q' zz=>x7 zz λU M Q hs hm ht k=>
 ⟨U,M,_,hs,hm,ht,λvs H1 ds M1 hd W9 e1 q1=>λxa dx n1 n2 ne=>by
  obtain⟨Xr,e2⟩:=NM W9 cl n1 n2 ne;refine⟨.ref xa::ds,_,_,?_,Xr,q1 xa (W9.fresh n1),λv H3 d M3 hd3 X8 e3 q3=>?_⟩
  .rw[eG];exact .cons .ref (hd.mono e2)
  .obtain⟨z,q3⟩:=q3;subst z;exact⟨hd3.mU,k _ H3 _ M3 .ref X8 (e1.trans (e2.trans e3)) q3⟩⟩
def IA(m:Str)(R:Uf->Sp->Prop)(ta:TE)(t:TA):TE:=λY H Q=>ta Y H λx H1=>∃a C dx fs sp,x=.ref a/\H1 a=ga (.ins C dx fs)/\fs.lookup m=Fa/\R C sp/\t Y H1 λvs H2=>sp (x::vs) H2 Q E0
def yz(P:Pg)(w:Wo)(K:qK)(mg:QQZ)(base:No)(k:Nat)(m:Str)(C:Uf)(sp:Sp):Prop:=Cls K C/\∃f fd ps,wu K C m f/\xU P w K mg base Oa k f fd ps sp/\vq K fd ps []
def Mr{R:Uf->Sp->Prop}{ta:TE}{t:TA}{pl:Sem Bool}(he:PE X o ta)(hR:∀C sp,R C sp->yz X.prog X.w X.K X.mg X.base k m C sp)(hr:sQ k X.A)(ha:PA X (e::es) t) (Xv:Bm X e es:=by rfl) (Xp:Co X pos es:=by rfl)
  (ht:wp (.Call (.Attribute o m Xa) (e::es) [] pos) X.env=(do
   let ov<-wp o X.env
   Y' Xa.atName
   let(f,first)<-xz [ov] (XV ov m pl)
   XXd pos f first (At pos (Tl (e::es) X.env)) (TD pos (Ps [] X.env))):=by rfl):
  PE X (.Call (.Attribute o m Xa) (e::es) [] pos) (IA m R ta t):=by
 intro W7 s Y H Q I h;refine j4 (pl:=pl) (tE (he W7 s Y H _ I h) λu s1 zz=>?_) ht;obtain⟨x,H1,I1,rx,a,C,dx,fs,sp,ex,ea,l,hRC,q⟩:=zz;obtain⟨c,f,fd,ps,hm,F,hb⟩:=hR C sp hRC;subst ex;obtain rfl:u=Value.ref a:=rx;refine CA I1 ea c hm l ?_;refine iZ (first:=[.ref a]) (h₀:=X.base) I.ok.mod.oM hm.kp (tE (ha pos W7 s1 Y H1 _ I1 q) λus s2 zz=>x5 zz λvs H2 I2 r q2=>⟨I2.ny,?_⟩) Xv Xp;exact EN (us:=.ref a::us) (vs:=.ref a::vs) F hr hb .nil (GI (X:=X)) I2 (.cons Z' r) (by rw[eG];exact q2)
def K8{R:Uf->Sp->Prop}{ta:TE}{pl:Sem Bool}(he:PE X o ta)(hR:∀C sp,R C sp->yz X.prog X.w X.K X.mg X.base k m C sp)(hr:sQ k X.A) (ht:wp (.Call (.Attribute o m Xa) [] [] pos) X.env=(do
   let ov<-wp o X.env
   Y' Xa.atName
   let(f,first)<-xz [ov] (XV ov m pl)
   XXd pos f first (At pos (Tl [] X.env)) (TD pos (Ps [] X.env))):=by rfl):
  PE X (.Call (.Attribute o m Xa) [] [] pos) (IA m R ta Uu):=by
 intro W7 s Y H Q I h;refine j4 (pl:=pl) (tE (he W7 s Y H _ I h) λu s1 zz=>?_) ht;obtain⟨x,H1,I1,rx,a,C,dx,fs,sp,ex,ea,l,hRC,q⟩:=zz;obtain⟨c,f,fd,ps,hm,F,hb⟩:=hR C sp hRC;subst ex;obtain rfl:u=Value.ref a:=rx;refine CA I1 ea c hm l ?_;exact W.callWith_K0 (first:=[.ref a]) I1.ny hm.kp (EN (us:=[.ref a]) (vs:=[.ref a]) F hr hb .nil (GI (X:=X)) I1 (.cons Z' .nil) (by rw[eG];exact q))
def A8(m:Str)(R:Uf->rM->Prop)(ta:T3)(t:yt):T3:=λU M Q=>ta U M λx M1=>match x with
 | .ref a=>Bo (M1 a) λC fs=>fs.lookup m=Fa/\∃sp,R C sp/\t U M1 λds M2=>sp (x::ds) M2 Q
 | _=>False
def VD(K:qK)(R:Uf->rM->Prop):Uf->Sp->Prop:=λC sp'=>∃sp,R C sp/\sp'=Oc K sp
def JK:∀Y H Q',lo X.K (A8 m R ta t) Y H Q'->IA m (VD X.K R) (lo X.K ta) (WH X.K t) Y H Q':=λY H Q' zz=>x7 zz λU M Q hs hm ht k=>
 ⟨U,M,_,hs,hm,ht,λv H1 d M1 hd W9 e1 q1=>by
  cases d with
  | ref a=>cases hd.mS;obtain⟨C,fs,e,q1⟩:=yf q1;obtain⟨hn,sp,hR,q⟩:=q1;obtain⟨dx,vs,h1,cl,na,fo⟩:=W9 a _ e;exact⟨a,C,dx,vs,_,Z',h1,(xu fo).2 hn,⟨sp,hR,Z'⟩,U,M1,_,hs.mono e1,W9,q,λus H2 ds M2 Yr Xr e2 q2=>⟨.ref a::ds,M2,Q,.cons .ref Yr,Xr,q2,wJ (e1.trans e2) k⟩⟩
  | _=>exact q1.elim⟩
def BJ{R:Uf->rM->Prop}{pl:Sem Bool}(he:E3 X o ta)(hR:∀C sp,R C sp->yz X.prog X.w X.K X.mg X.base k m C (Oc X.K sp))(hr:sQ k X.A)(ha:A3 X (e::es) t) (Xv:Bm X e es:=by rfl) (Xp:Co X pos es:=by rfl)
  (ht:wp (.Call (.Attribute o m Xa) (e::es) [] pos) X.env=(do
   let ov<-wp o X.env
   Y' Xa.atName
   let(f,first)<-xz [ov] (XV ov m pl)
   XXd pos f first (At pos (Tl (e::es) X.env)) (TD pos (Ps [] X.env))):=by rfl):
  E3 X (.Call (.Attribute o m Xa) (e::es) [] pos) (A8 m R ta t):=PE.mono (Mr (R:=VD X.K R) he (λC sp' ⟨sp,h,z⟩=>by rw[z];exact hR C sp h) hr ha Xv Xp ht) JK
def CJ{R:Uf->rM->Prop}{pl:Sem Bool}(he:E3 X o ta)(hR:∀C sp,R C sp->yz X.prog X.w X.K X.mg X.base k m C (Oc X.K sp))(hr:sQ k X.A) (ht:wp (.Call (.Attribute o m Xa) [] [] pos) X.env=(do
   let ov<-wp o X.env
   Y' Xa.atName
   let(f,first)<-xz [ov] (XV ov m pl)
   XXd pos f first (At pos (Tl [] X.env)) (TD pos (Ps [] X.env))):=by rfl):
  E3 X (.Call (.Attribute o m Xa) [] [] pos) (A8 m R ta yr):=PE.mono (K8 (R:=VD X.K R) he (λC sp' ⟨sp,h,z⟩=>by rw[z];exact hR C sp h) hr ht) λY H Q' h=>by
 obtain⟨U,M,Q,hs,hm,ht,k⟩:=JK (t:=yr) Y H Q' h;refine⟨U,M,Q,hs,hm,ht,λv H' d M' x1 x2 x3 x4=>?_⟩;obtain⟨a,C,dx,fs,sp,e1,e2,e3,e4,δ',Xb,Q'',y1,y2,y3,y4⟩:=k v H' d M' x1 x2 x3 x4;exact⟨a,C,dx,fs,sp,e1,e2,e3,e4,y4 [] H' [] Xb .nil y2 .refl y3⟩
structure GL(K:qK)(H1:Hp)(J:It)(ds:List D)(ok:Mp->Prop):Prop where
 go:∀i H M,i<ds.length->HM K H M->ok M->rA K H1 H->J.go i H
 pj:∀i d H M x H',ds[i]?=ga d->HM K H M->ok M->rA K H1 H->J.pj i H x H'->sD K H' d x/\HM K H' M/\rA K H H'
 stop:∀H M,HM K H M->ok M->rA K H1 H->J.stop ds.length H
abbrev Od:=we->Mp->(T0 D->(Mp->Prop)->Mp->Prop)->Prop
def WG(K:qK)(wi:Od):TI:=λY H R'=>Dj λU M R=>Aj K H Y U/\HM K H M/\wi U M R/\∀J H1 ds ok M1,GL K H1 J ds ok->HM K H1 M1->rA K H H1->ok M1->R ds ok M1->R' J H1
def I3(X:Cx)(tg iter:Go)(wi:Od):Prop:=PI X tg iter (WG X.K wi)
def PI.mono{t t':TI}(h:PI X tg e t)(m:∀Y H Q,t' Y H Q->t Y H Q):PI X tg e t':=λW7 s Y H Q I q=>h W7 s Y H Q I (m Y H Q q)
variable {H1:Hp}
def Mc:GL K H1 (Vj K a) ds (λM=>om M a=ga ds) where
 go:=λi H M hi hm ok _=>by obtain⟨xs,h1,h2,_⟩:=qL hm ok;obtain⟨x,e,_⟩:=h2.get (cY hi);exact⟨xs,x,h1,e⟩
 pj:=λi d H M x H' hd hm ok _ y=>by obtain⟨xs,h1,h2,_⟩:=qL hm ok;obtain⟨e,y⟩:=y;subst e;obtain⟨x',e,hx⟩:=h2.get hd;have:=y xs h1;rw[e]at this;cases this;exact⟨hx,hm,.refl⟩
 stop:=λH M hm ok _=>by obtain⟨xs,h1,h2,_⟩:=qL hm ok;exact⟨xs,h1,by rw[h2.length];exact dq _⟩
def Qt(h1:vM K H1 a xs)(h2:qz K H1 ds xs):GL K H1 (VC K a) ds (λ_=>True) where
 go:=λi H M hi hm ok e1=>by obtain⟨x,e,_⟩:=h2.get (cY hi);exact⟨xs,x,e1.t _ _ h1,e⟩
 pj:=λi d H M x H' hd hm ok e1 y=>by obtain⟨e,y⟩:=y;subst e;obtain⟨x',e,hx⟩:=h2.get hd;have:=y xs (e1.t _ _ h1);rw[e]at this;cases this;exact⟨hx.mono e1,hm,.refl⟩
 stop:=λH M hm ok e1=>⟨xs,e1.t _ _ h1,by rw[h2.length];exact dq _⟩
def SS(h1:Qh K H1 a xs)(h2:qz K H1 ds xs):GL K H1 (Vj K a) ds (λ_=>True) where
 go:=λi H M hi hm ok e1=>by obtain⟨x,e,_⟩:=h2.get (cY hi);exact⟨xs,x,(h1.mono e1).sq,e⟩
 pj:=λi d H M x H' hd hm ok e1 y=>by obtain⟨e,y⟩:=y;subst e;obtain⟨x',e,hx⟩:=h2.get hd;have:=y xs (h1.mono e1).sq;rw[e]at this;cases this;exact⟨hx.mono e1,hm,.refl⟩
 stop:=λH M hm ok e1=>⟨xs,(h1.mono e1).sq,by rw[h2.length];exact dq _⟩
def Kc{lo:Int}:GL K H1 (Vr lo n) ((List.range n).map λi=>D.int (lo+(i:Nat))) (λ_=>True) where
 go:=λi H M hi hm ok e1=>by
  have z:i<n:=by simpa using hi
  exact z
 pj:=λi d H M x H' hd hm ok e1 y=>by
  obtain⟨e,y⟩:=y;subst e;subst y;have hi:i<n:=by
   have:=(cZ.mp hd).1
   simpa using this
  have hd':d=D.int (lo+(i:Nat)):=by rw[dC,kI hi]at hd;exact(dg hd).symm
  subst hd';exact⟨.int,hm,.refl⟩
 stop:=λH M hm ok e1=>by show n<=_;simp
variable {scope:XXa}{ix:T0 (Option Nat)}{N':QQQ}{iter X4:Go}{XH:T0 Go}{wi:Od}{g:Eh}{tt:AV}{te:T3}{tg:Go}
def UW(t:T3):Od:=λU M R=>t U M λx M1=>match x with
 | .tup ds=>R ds (λ_=>True) M1
 | .ref a=>(om M1 a).elim False λds=>R ds (λM=>om M a=ga ds) M1
 | .rl ds=>R ds (λ_=>True) M1
 | .str z=>R (z.cps.toList.map λc=>D.str ⟨#[c]⟩) (λ_=>True) M1
 | _=>False
def O5{K:qK}:GL K H1 (We z) (z.cps.toList.map λc=>D.str ⟨#[c]⟩) (λ_=>True) where
 go:=λi H M hi hm ok _=>by
  show i<z.cps.size
  simpa using hi
 pj:=λi d H M x H' hd hm ok _ y=>by obtain⟨e,c,e1,e2⟩:=y;subst e e2;rw[dC,ke,e1]at hd;cases hd;exact⟨.str,hm,.refl⟩
 stop:=λH M hm ok _=>by show _=z.cps.size;simp
def qP{t:T3}(h:E3 X l t)(hc:X.calm=Db:=by rfl):I3 X tg l (UW t):=PI.mono (Ot hc h) λY H R' zz=>x7 zz λU M R hs hm ht k=>
 ⟨U,M,_,hs,hm,ht,λv H1 d M1 hd W9 e1 q1=>by
  cases d with
  | tup ds=>obtain⟨a,xs,rfl,h1,h2⟩:=hd.mY;exact .inl ⟨a,Z',.inr ⟨⟨xs,h1⟩,k _ H1 ds _ M1 (Qt h1 h2) W9 e1 trivial q1⟩⟩
  | ref a=>cases hd.mS;obtain⟨ds,e0,q⟩:=rD q1;obtain⟨xs,h1,h2,_⟩:=qL W9 e0;exact .inl ⟨a,Z',.inl ⟨⟨xs,h1⟩,k _ H1 ds _ M1 Mc W9 e1 e0 q⟩⟩
  | str z=>exact .inr ⟨z,hd.str_inv,k _ H1 _ _ M1 O5 W9 e1 trivial q1⟩
  | rl ds=>obtain⟨a,xs,rfl,h1,h2⟩:=hd.nv;exact .inl ⟨a,Z',.inl ⟨⟨xs,h1.sq⟩,k _ H1 ds _ M1 (SS h1 h2) W9 e1 trivial q1⟩⟩
  | _=>exact q1.elim⟩
def Um(t:yt):Od:=λU M R=>t U M λds M1=>match ds with
 | [.int j]=>(-(2 ^ 62)<=j/\j<2 ^ 62)/\R ((List.range j.toNat).map λi=>D.int (0+(i:Nat))) (λ_=>True) M1
 | [.int i,.int j]=>(-(2 ^ 62)<=i/\i<2 ^ 62/\-(2 ^ 62)<=j/\j<2 ^ 62)/\R ((List.range (j - i).toNat).map λn=>D.int (i+(n:Nat))) (λ_=>True) M1
 | _=>False
def vP{a:Go}{ta:yt}(hg:Gl X "range")(hm:X.mg "range"=Fa)(ha:A3 X [a] ta)(hs:Tl [a] X.env=[(pc,wp a X.env)]:=by rfl):I3 X tg (.Call (.Name "range" p) [a] [] pos) (Um λU M Q=>ta U M λds M1=>ds.length=1/\Q ds M1):=
 PI.mono (Kr hg hm ha hs) λY H R' zz=>x7 zz λU M R hs hm ht k=>⟨U,M,_,hs,hm,ht,λvs H1 ds M1 hd W9 e1 q1=>by
  obtain⟨hl,q1⟩:=q1;split at q1
  .obtain⟨v,rfl,hv⟩:=sN hd;cases hv.int_inv;exact⟨_,Z',q1.1.1,q1.1.2,k _ H1 _ _ M1 Kc W9 e1 trivial q1.2⟩
  .simp at hl
  .exact q1.elim⟩
def Dm(g:Eh)(tb:xY)(ok:Mp->Prop)(E:Gp):T0 D->we->Mp->Prop
 | [],U,M=>E.nx U M
 | d::r,U,M=>g d U M λδ2 M2=>tb {E with nx:=λδ' M'=>ok M'/\Dm g tb ok E r δ' M',ct:=λδ' M'=>ok M'/\Dm g tb ok E r δ' M',bk:=E.nx} δ2 M2
def KZ(wi:Od)(g:Eh)(tb:xY):xY:=λE U M=>wi U M λds ok M1=>Dm g tb ok E ds U M1
def ut{tb:xY}(hp:PassesOwn (Tk X.prog X.w) X.A X.env X.xe)(hc:X.calm=Db)(hi:I3 X tg iter wi)(hg:G3 X tg g)(hb:Hx X body tb) (hs:∀x,wT iter X.env x=pure x:=by intro _;rfl):S3 X (.For tg iter body [] pos) (KZ wi g tb):=PS.mono (Ta hp hc hi hg hb hs) λD' Y H zz=>Lf zz λU M E hs hm ht k1 k2 k3 k4=>
 ⟨U,M,_,hs,hm,ht,λJ H1 ds ok M1 S W9 e1 ok1 q1=>by
  refine⟨λi m σ' H'=>m=ds.length - i/\i<=ds.length/\∃δ' M',Aj X.K H' σ' δ'/\HM X.K H' M'/\ok M'/\rA X.K H1 H'/\σ'.length=Y.length/\Dm g tb ok E (ds.drop i) δ' M',⟨ds.length,by simp,eQ _,U,M1,hs.mono e1,W9,ok1,.refl,Z',by simpa using q1⟩,?_⟩
  rintro i m σ' H' ⟨rfl,hi,δ',M',ZG,YI,Z6,e',l',q'⟩
  by_cases Xn:i<ds.length
  .rw[gP Xn]at q';refine .inr ⟨S.go i H' M' Xn YI Z6 e',λσ2 H2=>∃δ2 M2,Aj X.K H2 σ2 δ2/\HM X.K H2 M2/\ok M2/\rA X.K H1 H2/\σ2.length=Y.length/\Dm g tb ok E (ds.drop (i+1)) δ2 M2,λσ2 H2 z=>⟨ds.length - (i+1),by lia,Z',Xn,z⟩,λx H2 y=>?_⟩;obtain⟨hx,Xr,e2⟩:=S.pj i ds[i] H' M' x H2 (cY Xn) YI Z6 e' y;refine⟨ds[i],δ',M',_,hx,ZG.mono e2,Xr,q',λσ3 H3 δ3 M3 x1 x2 x3 x4 x5=>?_⟩;refine⟨δ3,M3,_,x1,x2,x5,λσ4 H4 δ4 M4 y1 y2 y3 y4 y5=>?_,λv H4 d M4 y1 y2 y3 y4=>?_,λσ4 H4 δ4 M4 y1 y2 y3 y4 y5=>?_,λσ4 H4 δ4 M4 y1 y2 y3 y4 y5=>?_⟩
   .exact⟨δ4,M4,y1,y2,y5.1,e'.trans (e2.trans (x3.trans y3)),by rw[y4,x4,l'],y5.2⟩
   .exact k2 v H4 d M4 y1 y2 (e1.trans (e'.trans (e2.trans (x3.trans y3)))) y4
   .exact k1 σ4 H4 δ4 M4 y1 y2 (e1.trans (e'.trans (e2.trans (x3.trans y3)))) (by rw[y4,x4,l']) y5
   .exact⟨δ4,M4,y1,y2,y5.1,e'.trans (e2.trans (x3.trans y3)),by rw[y4,x4,l'],y5.2⟩
  .have e:i=ds.length:=by lia
   subst e;rw[jO]at q';exact .inl ⟨S.stop H' M' YI Z6 e',k1 σ' H' δ' M' ZG YI (e1.trans e') l' q'⟩⟩
noncomputable def ON(ix:T0 (Option Nat))(U:we):we:=ix.map λo=>o.bind λi=>(U[i]?).join
def PM{K:qK}(h:Aj K H Y U):Aj K H (OD ix Y) (ON ix U):=λi d q=>by
 unfold ON at q;unfold OD;rw[dC]at q ⊢;cases e:ix[i]? with
 | none=>rw[e]at q;cases q
 | some o=>
  rw[e]at q;cases o with
  | none=>cases q
  | some j=>
   have q':(U[j]?).join=ga d:=dg q;have e4:U[j]?=ga (ga d):=by
    cases r:U[j]? with
    | none=>rw[r]at q';cases q'
    | some w=>rw[r]at q';exact eV ga q'
   obtain⟨v,e5,hv⟩:=h j d e4;refine⟨v,?_,hv⟩;show ga ((Y[j]?).join)=ga (ga v);rw[e5];rfl
def vJ(g:Eh)(tt:AV)(te:T3)(ok:Mp->Prop)(Q:DK):T0 D->T0 D->we->Mp->Prop
 | [],acc,_,M=>acc.length<=Ch/\∀p,M p=Fa->Q (.ref p) (pQ M p (.lst acc))
 | d::r,acc,U,M=>acc.length<Ch/\g d U M λδ2 M2=>tt δ2 M2 λb M3=>if b=Db then te δ2 M3 λy M4=>ok M4/\vJ g tt te ok Q r (acc++[y]) δ2 M4 else ok M3/\vJ g tt te ok Q r acc δ2 M3
def MD(ix:T0 (Option Nat))(wi:Od)(g:Eh)(tt:AV)(te:T3):T3:=λU M Q=>wi U M λds ok M1=>vJ g tt te ok Q ds [] (ON ix U) M1
def F3(X:Cx)(XH:T0 Go)(t:AV):Prop:=PF X XH (Tr X.K t)
def PF.mono{e:T0 Go}{t t':TT}(h:PF X e t)(m:∀Y H Q,t' Y H Q->t Y H Q):PF X e t':=λW7 s Y H Q I q=>h W7 s Y H Q I (m Y H Q q)
def De:AV:=λ_ M Q=>Q Db M
def sC:F3 X [] De:=PF.mono S6 λY H Q' zz=>x7 zz λU M Q hs hm ht k=>k Db H M hm .refl ht
def vF{t:AV}(h:B3 X c t):F3 X [c] t:=SB h
def IX:∀Y H Q',lo X.K (MD ix wi g tt te) Y H Q'->ND ix (WG X.K wi) (Vn X.K g) (Tr X.K tt) (lo X.K te) Y H Q':=λY H Q' zz=>x7 zz λU M Q hs hm ht k=>
 ⟨U,M,_,hs,hm,ht,λJ H1 ds ok M1 S W9 e1 ok1 q1=>by
  refine⟨λi m ys σ' H'=>m=ds.length - i/\i<=ds.length/\∃δ' M' acc,Aj X.K H' σ' δ'/\HM X.K H' M'/\qz X.K H' acc ys/\ok M'/\rA X.K H1 H'/\vJ g tt te ok Q (ds.drop i) acc δ' M',⟨ds.length,by simp,eQ _,ON ix U,M1,[],PM (hs.mono e1),W9,.nil,ok1,.refl,by simpa using q1⟩,?_⟩
  rintro i m ys σ' H' ⟨rfl,hi,δ',M',acc,ZG,YI,YO,Z6,e',q'⟩
  by_cases Xn:i<ds.length
  .rw[gP Xn]at q';obtain⟨hz,q'⟩:=q';refine .inr ⟨S.go i H' M' Xn YI Z6 e',by rw[<-YO.length];exact hz,λx H2 y=>?_⟩;obtain⟨hx,Xr,e2⟩:=S.pj i ds[i] H' M' x H2 (cY Xn) YI Z6 e' y;refine⟨ds[i],δ',M',_,hx,ZG.mono e2,Xr,q',λσ3 H3 δ3 M3 x1 x2 x3 x4 x5=>?_⟩;refine⟨δ3,M3,_,x1,x2,x5,λb H4 M4 y2 y3 y5=>?_⟩;cases b with
   | true=>rw[de Z']at y5 ⊢;refine⟨δ3,M4,_,x1.mono y3,y2,y5,λv H5 d M5 z1 z2 z3 z4=>⟨ds.length - (i+1),by lia,Z',Xn,δ3,M5,acc++[d],x1.mono (y3.trans z3),z2,(YO.mono (e2.trans (x3.trans (y3.trans z3)))).snoc z1,z4.1,e'.trans (e2.trans (x3.trans (y3.trans z3))),z4.2⟩⟩
   | false=>rw[c9 dw]at y5 ⊢;exact⟨ds.length - (i+1),by lia,Z',Xn,δ3,M4,acc,x1.mono y3,y2,YO.mono (e2.trans (x3.trans y3)),y5.1,e'.trans (e2.trans (x3.trans y3)),y5.2⟩
  .have e:i=ds.length:=by lia
   subst e;rw[jO]at q';refine .inl ⟨S.stop H' M' YI Z6 e',by rw[<-YO.length];exact q'.1,λp hp=>?_⟩;have e5:rA X.K H' (upd H' p (.lst ys)):=.new hp;exact k _ _ _ _ .ref (YI.new (c:=.lst acc) hp ⟨_,qy,YO.mono e5⟩) (e1.trans (e'.trans e5)) (q'.2 p (YI.fresh hp))⟩
def qT(hc:X.calm=Db)(S:sV X scope ix N')(hi:I3 X tg iter wi)(hg:∀{C s0 H0 ex},G3 (X.comp scope N' C s0 H0 ex) tg g)(ht:∀{C s0 H0 ex},F3 (X.comp scope N' C s0 H0 ex) XH tt)(he:∀{C s0 H0 ex},E3 (X.comp scope N' C s0 H0 ex) X4 te) (hs:∀x,wT iter X.env x=pure x:=by intro _;rfl):E3 X (.ListComp X4 [⟨tg,iter,XH,0⟩] scope pos) (MD ix wi g tt te):=PE.mono (Po (g:=Vn X.K g) (tt:=Tr X.K tt) (te:=lo X.K te) hc S hi (λ_ _ _ _=>hg) (λ_ _ _ _=>ht) (λ_ _ _ _=>he) hs) IX
def vf{i:Nat}{x:Str}{px YZ:Pos}(hN:X.N.Nodup)(hix:X.N[i]?=ga x)(hx:Nk X.env.scope x)(hc:X.calm=Db)(S:sV X scope ix N')(hi:I3 X tg iter wi)(hg:∀{C s0 H0 ex},G3 (X.comp scope N' C s0 H0 ex) tg g)(ht:∀{C s0 H0 ex},F3 (X.comp scope N' C s0 H0 ex) XH tt) (he:∀{C s0 H0 ex},E3 (X.comp scope N' C s0 H0 ex) X4 te) (YG:ZB (.ListComp X4 [⟨tg,iter,XH,0⟩] scope pos) (ga (.Name x px)) YZ.line X.env=pure Db:=by rfl)
  (hf:L0 X x:=by first|exact .inl Z'|exact .inr Z'|assumption) (hs:∀x,wT iter X.env x=pure x:=by intro _;rfl):
  S3 X (.Assign [.Name x px] (.ListComp X4 [⟨tg,iter,XH,0⟩] scope pos) YZ) (B5 (MD ix wi g tt te) (qZ i)):=PS.nW (HP (g:=Vn X.K g) (tt:=Tr X.K tt) (te:=lo X.K te) hN hix hx hc S hi (λ_ _ _ _=>hg) (λ_ _ _ _=>ht) (λ_ _ _ _=>he) YG hf hs) λD' Y H hl zz=>Lf zz λU M D hs hm ht k1 k2 k3 k4=>
 IX Y H _ ⟨U,M,_,hs,hm,ht,λv H1 d M1 hd W9 e1 q1=>k1 _ H1 _ M1 ((hs.mono e1).set hd (by rw[hl];exact(cZ.mp hix).1)) W9 e1 (by simp) q1⟩
def WK(hr:sQ k A):A.units+9<W':=by have:=hr.units;lia
noncomputable def Ii(sc:XXa)(N:QQQ)(scope:XXa)(ix:T0 (Option Nat))(N':QQQ):Bool:=
 (scope.kind==.function)&&(scope.names.all λy=>!(y.2==.cell))&&(scope.names.all λy=>!(y.2==.local)||(scope.names.lookup y.1==ga .local))&&
 (scope.names.all λy=>!(y.2==.free)||(sc.names.lookup y.1==ga .cell)||(sc.names.lookup y.1==ga .free))&&(ix.length==N'.length)&&
 ((ix.zip N').all λp=>match p.1 with|none=>Db|some i=>(N[i]?==ga p.2)&&(scope.names.lookup p.2==ga .free))
def T6{X:Cx}(h:Ii X.env.scope X.N scope ix N'=Db):sV X scope ix N':=by
 unfold Ii at h;simp only[dU]at h;obtain⟨⟨⟨⟨⟨h1,h2⟩,h3⟩,h4⟩,h5⟩,h6⟩:=h;refine⟨by simpa using h1,λy hy e=>?_,λy hy e=>?_,λy hy e=>?_,by simpa using h5,λj i x e1 e2=>?_⟩
 .have:=eI.mp h2 y hy;rw[e]at this;simp at this
 .have:=eI.mp h3 y hy;rw[e]at this
  simpa using this
 .have:=eI.mp h4 y hy;rw[e]at this
  simpa using this
 .have hm:(ga i,x)∈ix.zip N':=by
   have:(ix.zip N')[j]?=ga (ga i,x):=by rw[iz];exact⟨e1,e2⟩
   exact fz this
  have:=eI.mp h6 _ hm
  simpa using this
section
variable {a b:Go}
def I9(op X2:CmpOp)(ta tb tc:T3):T3:=λU M Q=>ta U M λx M1=>tb U M1 λy M2=>O7 op x y M2 λz M3=>match z with
 | .bl k=>if k=Db then tc U M3 λw M4=>O7 X2 y w M4 Q else Q (.bl pc) M3
 | _=>False
def uW{op X2:CmpOp}(hu:X.A.units+9<W')(ha:E3 X a ta)(hb:E3 X b tb)(hc:E3 X c tc)(hmk:lastMarks [op,X2] [b,c]=pc:=by rfl):
  E3 X (.Compare a [op,X2] [b,c] pos) (I9 op X2 ta tb tc):=PE.mono (NK (K' op hu) (K' X2 hu) ha hb hc hmk) λY H Q' zz=>x7 zz λU M Q hs hm ht k=>
 ⟨U,M,_,hs,hm,ht,λv H1 x M1 hx W9 e1 q1=>⟨U,M1,_,hs.mono e1,W9,q1,λu H2 y M2 hy Xr e2 q2=>⟨x,y,M2,_,hx.mono e2,hy,Xr,q2,λw H3 z M3 hz X8 e3 q3=>by
  cases z with
  | bl c=>
   refine⟨c,hz.mV,?_⟩;cases c with
   | true=>refine(de Z').mpr ⟨U,M3,_,hs.mono (e1.trans (e2.trans e3)),X8,(de Z').mp q3,λw' H4 d M4 hd hm4 e4 q4=>⟨y,d,M4,Q,hy.mono (e3.trans e4),hd,hm4,q4,wJ (e1.trans (e2.trans (e3.trans e4))) k⟩⟩
   | false=>exact(c9 dw).mpr (k _ H3 _ M3 .bl X8 (e1.trans (e2.trans e3)) ((c9 dw).mp q3))
  | _=>exact q3.elim⟩⟩⟩
def GW{op X2:CmpOp}(hu:X.A.units+9<W')(ha:E3 X a ta)(hb:E3 X b tb)(hc:E3 X c tc)(hmk:lastMarks [op,X2] [b,c]=pc:=by rfl):
  B3 X (.Compare a [op,X2] [b,c] pos) (b3 (I9 op X2 ta tb tc)):=PT.mono (Lk (K' op hu) (K' X2 hu) ha hb hc hmk) λY H Q' zz=>x7 zz λU M Q hs hm ht k=>
 ⟨U,M,_,hs,hm,ht,λv H1 x M1 hx W9 e1 q1=>⟨U,M1,_,hs.mono e1,W9,q1,λu H2 y M2 hy Xr e2 q2=>⟨x,y,M2,_,hx.mono e2,hy,Xr,q2,λw H3 z M3 hz X8 e3 q3=>by
  cases z with
  | bl c=>
   refine⟨c,hz.mV,?_⟩;cases c with
   | true=>
    refine(de Z').mpr ⟨U,M3,_,hs.mono (e1.trans (e2.trans e3)),X8,(de Z').mp q3,λw' H4 d M4 hd hm4 e4 q4=>⟨y,d,M4,_,hy.mono (e3.trans e4),hd,hm4,q4,λw5 H5 d5 M5 hd5 hm5 e5 q5=>?_⟩⟩;cases d5 with
    | bl c5=>exact⟨c5,hd5.mV,k c5 H5 M5 hm5 (e1.trans (e2.trans (e3.trans (e4.trans e5)))) q5⟩
    | _=>exact q5.elim
   | false=>exact(c9 dw).mpr ⟨pc,Z',k pc H3 M3 X8 (e1.trans (e2.trans e3)) ((c9 dw).mp q3)⟩
  | _=>exact q3.elim⟩⟩⟩
structure Wu(K:qK)(C:Uf):Prop where
 ha:W.findIn K (.ref C) "__class__"=ga (ga (.builtin "object.__class__"))
 hn:W.specialIn K (.builtin "object.__class__") "__get__"=ga (ga (.builtin "getset_descriptor.__get__"))
 htk:W.takesIn K (.builtin "object.__class__")=ga Db
 hm:W.mroIn K C (.type "object")=ga Db
noncomputable def Ih:Option vE->Option Vl
 | some (.lst _)=>ga (.type "list")
 | some (.ins C _)=>ga (.ref C)
 | some (.dk _)=>ga (.type "dict")
 | some (.exc _)=>Fa
 | none=>Fa
noncomputable def WE(M:Mp):D->Option Vl
 | .mW=>ga (.type "NoneType")
 | .bl _=>ga (.type "bool")
 | .int _=>ga (.type "int")
 | .str _=>ga (.type "str")
 | .tup _=>ga (.type "tuple")
 | .ref a=>Ih (M a)
 | .ty _=>Fa
 | .rl _=>ga (.type "list")
noncomputable def VW:D->Option Vl
 | .ref C=>ga (.ref C)
 | .ty n=>ga (.type n)
 | _=>Fa
def Q4(K:qK)(ds:T0 D)(M:Mp)(Q:DK):Prop:=match ds with
 | [x,c]=>(WE M x).elim False λt=>(VW c).elim False λcv=>(∀C,t=.ref C->Wu K C)/\(W.kitOne K t cv).elim False λb=>Q (.bl b) M
 | _=>False
def xb:C3 X (.builtin "isinstance") (Q4 X.K):=by
 intro W7 s Y H vs us Q' I rv h;obtain⟨ds,M,Q,hd,hm,q,k⟩:=h;unfold Q4 at q;split at q
 .rename_i x c;obtain⟨v,u,rfl,hv,hw⟩:=FZ hd;obtain⟨t,et,q⟩:=rD q;obtain⟨cv,ec,hC,q⟩:=rD q;obtain⟨b,eb,qb⟩:=rD q;obtain⟨uv,uw,rfl,Zq,rv2⟩:=LF rv;have ecv:uw=cv:=by
   cases c with
   | ref C=>cases hw.mS;cases ec;exact rv2
   | ty n=>cases hw.nZ;cases ec;exact rv2
   | _=>cases ec
  subst ecv;have Xc:∀tk,EP X W7 Y Q' (.bool b) {s with toks:=tk}:=λtk=>⟨.bl b,H,I.tok tk,Z',k _ _ _ _ .bl hm .refl qb⟩;cases x with
  | mW=>cases hv.mU;cases et;exact ve I Zq .mW eb Xc
  | bl y=>cases hv.mV;cases et;exact ve I Zq (.bl y) eb Xc
  | int y=>cases hv.int_inv;cases et;exact ve I Zq (.int y) eb Xc
  | str y=>cases hv.str_inv;cases et;exact ve I Zq (.str y) eb Xc
  | tup ds=>obtain⟨a,xs,rfl,h1,h2⟩:=hv.mY;cases et;cases Zq;obtain⟨its,r,p,_⟩:=I.tuple h1;obtain⟨o,g1,g2,_⟩:=p;exact gy W.kitx_tuple I.ny ⟨o,g1,g2⟩ eb (λz=>nomatch z) Xc
  | ref a=>
   cases hv.mS;have et:Ih (M a)=ga t:=et;cases e:M a with
   | none=>rw[e]at et;cases et
   | some cell=>
    rw[e]at et;have ok:=hm a cell e;cases cell with
    | lst ds=>cases et;obtain⟨xs,e1,_⟩:=ok;exact ve I Zq (.lst e1) eb Xc
    | ins C fs=>cases et;obtain⟨dx,vs,e1,cl,_⟩:=ok;obtain⟨i1,i2,i3,i4⟩:=hC C Z';exact ve I Zq (.ins e1 cl i1 i2 i3 i4) eb Xc
    | dk kvs=>cases et;obtain⟨vs,e1,_⟩:=ok;exact ve I Zq (.dK e1) eb Xc
    | exc C=>cases et
  | ty n=>cases et
  | rl ds=>obtain⟨p,xs,rfl,h1,h2⟩:=hv.nv;cases et;cases Zq;obtain⟨its,r,⟨o,n,g1,g2,_⟩,_⟩:=I.list h1.sq;exact gy lK I.ny ⟨o,g1,g2⟩ eb (λz=>nomatch z) Xc
 .exact q.elim
noncomputable def Gg:T0 D->Option (T0 Bool)
 | []=>ga []
 | .bl b::r=>(Gg r).map (b::·)
 | _::_=>Fa
theorem Ff{K:qK}:∀{ds:T0 D} {bs:T0 Bool} {xs:T0 V} {us:T0 Vl},Gg ds=ga bs->qz K H ds xs->qN xs us->us=bs.map Value.bool
 | [],bs,xs,us,e,h,r=>by cases e;have:=h.nil_inv;subst this;cases r;rfl
 | d::ds,bs,xs,us,e,h,r=>by
  cases d with
  | bl b=>
   obtain⟨y,ys,rfl,h1,h2⟩:=h.inv;cases h1.mV;unfold Gg at e;cases q:Gg ds with
   | none=>rw[q]at e;cases e
   | some cs=>
    rw[q]at e;cases e;cases r with
    | cons r1 r2=>cases r1;rw[Ff q h2 r2];rfl
  | _=>cases e
def Tz(ds:T0 D)(M:Mp)(Q:DK):Prop:=match ds with
 | [.ref a]=>(om M a).elim False λes=>(Gg es).elim False λbs=>Q (.bl (bs.all id)) M
 | _=>False
def Ft(hc:X.calm=Db):C3 X (.builtin "all") Tz:=by
 intro W7 s Y H vs us Q' I rv h;obtain⟨ds,M,Q,hd,hm,q,k⟩:=h;unfold Tz at q;split at q
 .rename_i a;obtain⟨v,rfl,hv⟩:=sN hd;obtain⟨es,e0,q⟩:=rD q;obtain⟨bs,e1,q⟩:=rD q;cases hv.mS;obtain⟨u,rfl,ru⟩:=yT rv;cases ru;obtain⟨xs,h1,h2,_⟩:=qL hm e0;obtain⟨its,r,pl,hz⟩:=I.list h1;have Z7:=Ff e1 h2 r;subst Z7;have Xx:a≠s.heap.objs.size:=by obtain⟨o,_,e,_⟩:=pl;exact dP (dB e)
  refine call_all_walk (ia pl.isList ?_);refine⟨s.heap.objs.size,_,_,_,_,_,λi=>(bs[i]?).getD Db,Z',ky (A:=X.A.in1) (I.ok.hd hc) _ a Xx (bs.map Value.bool).toArray,⟨⟨_,dM _ Z',Z',Z'⟩,?_⟩,λi v s' Q E hP hQ=>?_,λh' tk hk=>?_⟩
  .obtain⟨o,n,e,c,d,q⟩:=pl;exact⟨o,df _ e,c,n,q⟩
  .simp only[iW,dC]at hP;cases e2:bs[i]? with
   | none=>rw[e2]at hP;cases hP
   | some b=>rw[e2]at hP;cases hP;have hQ:Q ((bs[i]?).getD Db) s':=hQ;rw[e2]at hQ;exact fv hQ
  .have ea:(List.range (bs.map Value.bool).toArray.size).all (λi=>(bs[i]?).getD Db)=bs.all id:=by
    rw[dz,cV];rw[gh,eI,eI];constructor
    .intro z b hb;obtain⟨i,hi,e⟩:=gC hb;have:=z i (gb.mpr hi);rw[cY hi,e]at this;exact this
    .intro z i hi;have Yz:=gb.mp hi;rw[cY Yz];exact z _ (im Yz)
   rw[ea];refine⟨.bl (bs.all id),H,?_,Z',k _ _ _ _ .bl hm .refl q⟩;exact I.kept (h':=h') (t':=tk) λb o e=>hk b o (by simpa using dP (dB e)) (df _ e)
 .exact q.elim
noncomputable def Bs(x:D):T0 D->Option Nat
 | []=>Fa
 | d::r=>if QC d x=Db then ga 0 else(Bs x r).map (·+1)
theorem Jk{K:qK}{e:D}{w:V}(g:sD K H e w)(fe:vI e=Db):∀{ds:T0 D} {xs:T0 V} {us:T0 Vl} {j:Nat},qz K H ds xs->qN xs us->ds.all vI=Db->Bs e ds=ga j->
  ∃h:j<us.length,FI w us[j]=Db/\∀m (hm:m<us.length),m<j->FI w us[m]=pc
 | [],_,_,_,_,_,_,q=>by cases q
 | d::ds,_,us,j,h,r,fl,q=>by
  obtain⟨y,ys,rfl,h1,h2⟩:=h.inv;rw[eO,dU]at fl;cases r with
  | @cons _ u _ us' r1 r2=>
   have eu:FI w u=QC d e:=by rw[Ik r1 (zP h1 fl.1),Jl h1 g fl.1 fe]
   unfold Bs at q;by_cases hq:QC d e=Db
   .rw[de hq]at q;cases q;exact⟨by simp,by simpa [eu]using hq,λm _ hm=>absurd hm (Nat.not_lt_zero m)⟩
   .rw[c9 hq]at q;cases q2:Bs e ds with
    | none=>rw[q2]at q;cases q
    | some j'=>
     rw[q2]at q;cases q;obtain⟨hl,e1,e2⟩:=Jk g fe h2 r2 fl.2 q2;refine⟨by simpa using hl,by simpa using e1,λm hm Xn=>?_⟩;cases m with
     | zero=>simpa [eu]using hq
     | succ m=>simpa using e2 m (by simpa using hm) (by have z:m+1<j'+1:=Xn;lia)
def Sq(x:D)(ds:T0 D)(M:Mp)(Q:DK):Prop:=match x,ds with
 | .ref a,[y]=>(om M a).elim False λes=>vI y=Db/\es.all vI=Db/\(Bs y es).elim False λj=>Q (.int (j:Nat)) M
 | _,_=>False
def M3(X:Cx)(id:String)(r:D->T0 D->Mp->DK->Prop):Prop:=WP X id λvx vs H Q'=>∃x ds M Q,sD X.K H x vx/\qz X.K H ds vs/\HM X.K H M/\r x ds M Q/\Up X.K H Q' Q
def LJ:M3 X "list.index" Sq:=by
 intro W7 s Y H vx vs v us Q' I rx rv h;obtain⟨x,ds,M,Q,hx,hd,hm,q,k⟩:=h;unfold Sq at q;split at q
 .rename_i a y;obtain⟨es,e0,f1,f2,q⟩:=rD q;obtain⟨j,e1,q⟩:=rD q;cases hx.mS;cases rx;obtain⟨w,rfl,hw⟩:=sN hd;obtain⟨u,rfl,ru⟩:=yT rv;obtain⟨xs,h1,h2,rd⟩:=qL hm e0;obtain⟨hz,its,n,r,g⟩:=rd.ok I.mZ;obtain⟨hl,p1,p2⟩:=Jk hw f1 h2 r f2 e1;have hlz:its.length<=Ch:=by rw[<-r.length];exact hz
  have h63:=zm;refine ja F.slot_list_index ⟨_,g,Z'⟩ F.entry_list_index (F.args_list_index_2 _ _) (SeqAt.list_indexAt a its.toArray n Fa #[] u (FI w) j (by simpa using hl) (by lia) (by simpa using p1) λm hm Xn=>by simpa using p2 m (by simpa using hm) Xn) ⟨g,?_,?_⟩
  .intro z hz';exact w9 ru (zP hw f1) r (EF h2 f2) z (by simpa using hz')
  .exact⟨.int (j:Nat),H,I.tok _,⟨_,Z'⟩,k _ _ _ _ .int hm .refl q⟩
 .exact q.elim
def QQ(M:Mp):D->Prop
 | .ref a=>(om M a).isSome=Db
 | _=>False
def Vs(r:D->T0 D->Mp->DK->Prop)(to:T3)(t:yt):T3:=λU M Q=>to U M λx M1=>QQ M1 x/\t U M1 λds M2=>r x ds M2 Q
def RW{K:qK}{x:D}(hm:HM K H M)(h:sD K H x v)(l:QQ M x):Wx K "list" v H:=by
 cases x with
 | ref a=>cases h.mS;obtain⟨ds,e⟩:=jG.mp (show(om M a).isSome=Db from l);obtain⟨xs,h1,_⟩:=qL hm e;exact .inl ⟨Z',xs,h1⟩
 | _=>exact l.elim
def Nw{id:String}(slot:Slot "list" name id)(hty:typeOf (.builtin id)=pure (.type "method_descriptor"))(hm:M3 X id r)(ho:E3 X o ta)(ha:A3 X (e::es) t) (Xj:Rs o name X.env (wp o X.env)=wp o X.env:=by rfl)
  (X3:((At pos (Tl (e::es) X.env)).all (λx=>!x.1)&&(TD pos (Ps [] X.env)).all (λx=>x.1.isSome)
   &&decide ((e::es).length+([]:T0 TW).length+(if ([]:T0 TW).isEmpty then 0 else 1)<30))=Db:=by rfl)
  (Xq:(Xa.endLine==pos.line)=Db:=by rfl) (hs:Bm X e es:=by rfl) (Xm:Co X pos es:=by rfl):
  E3 X (.Call (.Attribute o name Xa) (e::es) [] pos) (Vs r ta t):=PE.mono (UB PySem.F.plainAttrs_list slot hty hm ho ha Xj X3 Xq hs Xm) λY H Q' zz=>x7 zz λU M Q hs hm ht k=>
 ⟨U,M,_,hs,hm,ht,λv H1 x M1 hx W9 e1 q1=>⟨RW W9 hx q1.1,U,M1,_,hs.mono e1,W9,q1.2,λvs H2 ds M2 Yr Xr e2 q2=>⟨x,ds,M2,Q,hx.mono e2,Yr,Xr,q2,wJ (e1.trans e2) k⟩⟩⟩
def wG(ho:E3 X o ta)(ha:A3 X (e::es) t) (Xj:Rs o "index" X.env (wp o X.env)=wp o X.env:=by rfl)
  (X3:((At pos (Tl (e::es) X.env)).all (λx=>!x.1)&&(TD pos (Ps [] X.env)).all (λx=>x.1.isSome)
   &&decide ((e::es).length+([]:T0 TW).length+(if ([]:T0 TW).isEmpty then 0 else 1)<30))=Db:=by rfl)
  (Xq:(Xa.endLine==pos.line)=Db:=by rfl) (hs:Bm X e es:=by rfl) (Xm:Co X pos es:=by rfl):
  E3 X (.Call (.Attribute o "index" Xa) (e::es) [] pos) (Vs Sq ta t):=Nw PySem.F.slot_list_index PySem.F.type_list_index LJ ho ha Xj X3 Xq hs Xm
structure NU(K:qK)(C:Uf)(m:Str)(f:Uf):Prop where
 hg:W.specialIn K (.ref C) "__getattribute__"=ga (ga (.builtin "type.__getattribute__"))
 rd:W.readsIn K C (.type "type")=Db
 fc:W.findCls K (.ref C) (.type "type") m=ga (.val (.ref f))
def On{sp:Sp}{t:TA}{pl:Sem Bool}(cm:NU X.K C m f)(F:xU X.prog X.w X.K X.mg X.base Oa k f fd ps sp)(hr:sQ k X.A)(hg:Gl X x)(hm:X.mg x=ga (.ref C))(hk:W.keepIn X.K (.ref f)=Db)(hb:vq X.K fd ps [])(ha:PA X (e::es) t) (Xs:zv x:=by decide) (Xv:Bm X e es:=by rfl) (Xp:Co X pos es:=by rfl)
  (ht:wp (.Call (.Attribute (.Name x p) m Xa) (e::es) [] pos) X.env=(do
   let ov<-wp (.Name x p) X.env
   Y' Xa.atName
   let(f,first)<-xz [ov] (XV ov m pl)
   XXd pos f first (At pos (Tl (e::es) X.env)) (TD pos (Ps [] X.env))):=by rfl):
  PE X (.Call (.Attribute (.Name x p) m Xa) (e::es) [] pos) (λY H Q=>t Y H λvs H1=>sp vs H1 Q E0):=by
 intro W7 s Y H Q I h;refine j4 (pl:=pl) (xx I hg hm ?_ Xs) ht;refine W.method_cls I.ny cm.hg (W.cls_value I.ny cm.rd cm.fc Z' ?_);refine iZ (first:=[]) (h₀:=X.base) I.ok.mod.oM hk (tE (ha pos W7 _ Y H _ (I.tok _) h) λus s2 zz=>x5 zz λvs H2 I2 r q2=>⟨I2.ny,?_⟩) Xv Xp;exact EN F hr hb .nil (GI (X:=X)) I2 r (by rw[eG];exact q2)
def OY{pl:Sem Bool}(cm:NU X.K C m f)(F:Tu X.prog X.w X.K X.mg X.base k f fd ps sp)(hr:sQ k X.A)(hg:Gl X x)(hm:X.mg x=ga (.ref C))(hk:W.keepIn X.K (.ref f)=Db)(hb:vq X.K fd ps [])(ha:A3 X (e::es) t) (Xs:zv x:=by decide) (Xv:Bm X e es:=by rfl) (Xp:Co X pos es:=by rfl)
  (ht:wp (.Call (.Attribute (.Name x p) m Xa) (e::es) [] pos) X.env=(do
   let ov<-wp (.Name x p) X.env
   Y' Xa.atName
   let(f,first)<-xz [ov] (XV ov m pl)
   XXd pos f first (At pos (Tl (e::es) X.env)) (TD pos (Ps [] X.env))):=by rfl):
  E3 X (.Call (.Attribute (.Name x p) m Xa) (e::es) [] pos) (D5 sp t):=PE.mono (On cm F hr hg hm hk hb ha Xs Xv Xp ht) λY H Q' zz=>x7 zz λU M Q hs hm ht k=>
 ⟨U,M,_,hs,hm,ht,λvs H1 ds M1 hd W9 e1 q1=>⟨ds,M1,Q,hd,W9,q1,wJ e1 k⟩⟩
def qB:zn "len"=ga (.builtin "len"):=by decide+kernel
def Rh:zn "min"=ga (.builtin "min"):=by decide+kernel
def ux:zn "isinstance"=ga (.builtin "isinstance"):=by decide+kernel
def FR:zn "all"=ga (.builtin "all"):=by decide+kernel
def rm:zn "tuple"=ga (.type "tuple"):=by decide+kernel
def rV:zn "list"=ga (.type "list"):=by decide+kernel
def BN:zn "dict"=ga (.type "dict"):=by decide+kernel
def FJ:zn "enumerate"=ga (.type "enumerate"):=by decide+kernel
def SG:zn "zip"=ga (.type "zip"):=by decide+kernel
end
theorem _root_.L2.Inv.drawn{ch:QXQ}{T:Uf}{xs:T0 V}{h':No}{tk:Nat}(I:Inv X W7 Y H s)(Ya:∀b∈ch,By X W7 H b)(k:∀b o,b∉ch->s.heap.get? b=ga o->h'.get? b=ga o)(hT:s.heap.objs.size<=T)(hx:xs.length<=Ch) (rv:qN xs its) (ht:FP h' T its.toArray):Inv X W7 Y (upd H T (.tup xs)) {s with heap:=h',toks:=tk}:=by
 have Zr:H T=Fa:=I.mZ.fresh hT;have nT:∀b o,s.heap.get? b=ga o->b≠T:=λb o e=>dP (dR (dB e) hT);refine I.step (g':=s.gens) (d':=s.drawn) (ch:=ch) (λb hb=>⟨(Ya b hb).2.2.2.1,(Ya b hb).2.1,(Ya b hb).2.2.2.2.1,(Ya b hb).2.2.2.2.2⟩) (λb o _ _ hc e _=>k b o hc e) (λb o _ _ hc e _=>⟨o.slots,k b o hc e⟩) (λb o _ e n=>by rw[qo (nT b o e)];exact n)
  (λb o hc e=>⟨o,k b o hc e⟩) (λb ys e=>by rw[qo (rB e Zr)];exact e) (λb o u e=>by rw[qo (rB e Zr)];exact e) (λb ps e=>⟨#[],by rw[qo (rB e Zr),e];simp⟩) (λm hm=>?_) (λb u e=>?_) I.bare
 .obtain⟨o,es,ep,ho,r⟩:=hm;exact⟨o,es,ep,k _ o (λz=>(Ya _ z).2.1 Z') ho,r⟩
 .by_cases hb:b=T
  .subst hb;rw[qy]at e;cases e;exact⟨hx,its,rv,ht⟩
  .rw[qo hb]at e;refine(I.mZ b u e).nC (λc v hc q=>k c v (λz=>?_) q) (λc q=>by rw[qo (rB q Zr)];exact q) (λc ys q=>by rw[qo (rB q Zr)];exact q);have n:=(Ya c z).1;rcases hc with y|y
   .rw[y,e]at n;cases n
   .rw[y]at n;cases n
noncomputable def VL(K:qK)(a:Uf):It:=
 ⟨λi H=>∃xs x,zu K H a xs/\xs[i]?=ga x,λi H x H'=>∃p y,x=.ref p/\H p=Fa/\H'=upd H p (.tup [.int (i:Nat),y])/\∀xs,zu K H a xs->xs[i]?=ga y,λi H=>∃xs,zu K H a xs/\xs.length<=i⟩
def K6{K:qK}(a e it:Uf)(hei:e≠it):Gj P w K (.Tuple XI n tp) (VL K a) [e,it] e (λi h=>(∃XD,IsEnum h e it (i:Nat) XD)/\h.IsListIter it a i) where
 mem:=by simp
 obj:=λi h st b hb=>by
  obtain⟨⟨XD,he⟩,o,e1,c,d⟩:=st;rcases dh.mp hb with rfl|hb
  .exact⟨_,he,λv z=>by cases z⟩
  .rw[dA.mp hb];exact⟨o,e1,λv z=>by rw[d]at z;cases z⟩
 keep:=λi h h' st k=>by obtain⟨⟨XD,he⟩,hi⟩:=st;exact⟨⟨XD,k e (by simp) _ he⟩,hi.at λo q=>k it (by simp) o q⟩
 item:=by
  intro X hP hw hK hc i W7 s Y H E I hf st hg;subst hP hw hK;obtain⟨xs,x,hq,hx⟩:=hg;obtain⟨its,rv,p,hz⟩:=I.list hq;obtain⟨u,hu,ru⟩:=rv.get hx;obtain⟨⟨XD,he⟩,hi⟩:=st;refine wpAny_pyNext_enum_item he hi p.isList (x:=u) (by simpa using hu) hei λh1 ho YQ hT hsz hk=>?_;refine⟨_,Z',wpAny_letOwnedTupleGo_enum ho λh2 he2 YT=>?_⟩;have helt:e<s.heap.objs.size:=dB he;have hilt:it<s.heap.objs.size:=by obtain⟨o,q,_⟩:=hi;exact dB q
  have kk:∀b o,b∉[e,it]->s.heap.get? b=ga o->h2.get? b=ga o:=λb o hb q=>(YT.2 b λz=>hb (by simp[z])).trans (hk b o (λz=>hb (by simp[z])) (λz=>hb (by simp[z])) q);have hT2:h2.get? s.heap.objs.size=ga {cls:=.type "tuple",data:=.seq #[.int (i:Nat) s.toks,u]}:=(YT.2 _ (ie helt)).trans hT;have Zr:H s.heap.objs.size=Fa:=I.mZ.fresh (dq _);have I2:=I.drawn (ch:=[e,it]) (T:=s.heap.objs.size) (xs:=[.int (i:Nat),x]) (its:=[.int (i:Nat) s.toks,u]) (h':=h2) (tk:=s.toks+1) hf kk (dq _) (by show 2<=Ch;decide) (.cons ⟨_,Z'⟩ (.cons ru .nil)) ⟨_,hT2,Z',⟨_,Z'⟩,Z'⟩;refine⟨.ref s.heap.objs.size,_,I2,Z',⟨_,x,Z',Zr,Z',λys hy=>by rw[I.nX hy hq];exact hx⟩,⟨⟨_,by simpa using he2⟩,YQ.extBut YT.extBut (dQ hei)⟩,λb hb=>?_⟩;have X5:b<s.heap.objs.size:=by
   rcases dh.mp hb with z|z
   .rw[z];exact helt
   .rw[dA.mp z];exact hilt
  rw[qo (dP X5)];exact(hf b hb).1
 done:=by intro X hP hw hK hc i W7 s Y H E I hf st hg;subst hP hw hK;obtain⟨xs,hq,hx⟩:=hg;obtain⟨its,rv,p,hz⟩:=I.list hq;obtain⟨⟨XD,he⟩,hi⟩:=st;have hl:=rv.length;obtain⟨f0,f1,f2,f3,f4,f5⟩:=hf it (by simp);exact wpAny_pyNext_enum_end (I.ok.hd hc) he hi p.isList (by simp;lia) λh' eb=>⟨Z',I.turned (t':=s.toks) (λb o hb q=>eb b o hb q) f0 f1 f3 f4 f5⟩
 self:=λ_ _ _ _ _ st h=>by obtain⟨⟨XD,he⟩,_⟩:=st;exact lE he h
variable {tp:Pos}{XI:T0 Go}{n:Nat}
def OK{a:Go}{ta:TA}(hg:Gl X "enumerate")(hm:X.mg "enumerate"=Fa)(ha:PA X [a] ta)(hs:Tl [a] X.env=[(pc,wp a X.env)]:=by rfl):
  PI X (.Tuple XI n tp) (.Call (.Name "enumerate" p) [a] [] pos) (λY H R=>ta Y H λvs H1=>∃l,vs=[.ref l]/\(∃xs,zu X.K H1 l xs)/\R (VL X.K l) H1):=by
 intro W7 s Y H R I h;refine Call_ (xN I hg hm FJ (gf (tE (ha pos W7 s Y H _ I h) λus s1 zz=>x5 zz λvs H1 I1 r1 q1=>?_) hs Z'));obtain⟨l,e,⟨xs,hq⟩,q⟩:=q1;subst e;obtain⟨u,rfl,ru⟩:=yT r1;cases ru;obtain⟨its,rv,pl,hz⟩:=I1.list hq;refine call_enumerate_list pl.isList λh' he hi hsz hk=>?_;refine lE he ?_;have I2:Inv X W7 Y H1 {s1 with heap:=h'}:=I1.kept (t':=s1.toks) hk;refine⟨s1.heap.objs.size+1,[s1.heap.objs.size+1,s1.heap.objs.size],_,_,H1,Z',I2,K6 l _ _ (Nat.succ_ne_self _),⟨⟨_,he⟩,hi⟩,λb hb=>?_,q⟩;have X5:s1.heap.objs.size<=b:=by
  rcases dh.mp hb with z|z
  .rw[z];exact gS _
  .rw[dA.mp z];exact dq _
 exact I1.og X5 (I1.mZ.fresh X5)
noncomputable def uL:Nat->T0 D->T0 D
 | _,[]=>[]
 | i,d::r=>.tup [.int (i:Nat),d]::uL (i+1) r
theorem zG:∀{ds:T0 D} {i j:Nat},(uL j ds)[i]?=(ds[i]?).map λd=>D.tup [.int ((j+i:Nat):Int),d]
 | [],i,j=>by simp[uL]
 | d::r,0,j=>by simp[uL]
 | d::r,i+1,j=>by show(uL (j+1) r)[i]?=_;rw[zG];simp only[List.getElem?_cons_succ];rw[show j+1+i=j+(i+1)by lia]
theorem vt:∀{ds:T0 D} {j:Nat},(uL j ds).length=ds.length
 | [],j=>rfl
 | d::r,j=>by simp[uL,vt]
def NF{K:qK}:GL K H1 (VL K a) (uL 0 ds) (λM=>om M a=ga ds) where
 go:=λi H M hi hm ok _=>by rw[vt]at hi;obtain⟨xs,h1,h2,_⟩:=qL hm ok;obtain⟨x,e,_⟩:=h2.get (cY hi);exact⟨xs,x,h1,e⟩
 pj:=λi d H M x H' hd hm ok _ y=>by
  obtain⟨xs,h1,h2,_⟩:=qL hm ok;obtain⟨p,z,rfl,hp,rfl,y⟩:=y;rw[zG]at hd;cases e:ds[i]? with
  | none=>rw[e]at hd;cases hd
  | some d'=>rw[e]at hd;cases hd;obtain⟨x',e',hx⟩:=h2.get e;have w1:=y xs h1;rw[e']at w1;have w2:x'=z:=dg w1;subst w2;have ex:rA K H (upd H p (.tup [.int (i:Nat),x'])):=.new hp;refine⟨.tup (.of qy) (.cons (by rw[mF];exact .int) (.cons (hx.mono ex) .nil)),hm.add hp,ex⟩
 stop:=λH M hm ok _=>by obtain⟨xs,h1,h2,_⟩:=qL hm ok;exact⟨xs,h1,by rw[vt,h2.length];exact dq _⟩
def Te(t:yt):Od:=λU M R=>t U M λds M1=>match ds with
 | [.ref a]=>(om M1 a).elim False λes=>R (uL 0 es) (λM=>om M a=ga es) M1
 | _=>False
def u9{a:Go}{ta:yt}(hg:Gl X "enumerate")(hm:X.mg "enumerate"=Fa)(ha:A3 X [a] ta)(hs:Tl [a] X.env=[(pc,wp a X.env)]:=by rfl):I3 X (.Tuple XI n tp) (.Call (.Name "enumerate" p) [a] [] pos) (Te ta):=
 PI.mono (OK hg hm ha hs) λY H R' zz=>x7 zz λU M R hs hm ht k=>⟨U,M,_,hs,hm,ht,λvs H1 ds M1 hd W9 e1 q1=>by
  split at q1
  .obtain⟨v,rfl,hv⟩:=sN hd;cases hv.mS;obtain⟨es,e0,q⟩:=rD q1;obtain⟨xs,h1,h2,_⟩:=qL W9 e0;exact⟨_,Z',⟨xs,h1⟩,k _ H1 _ _ M1 NF W9 e1 e0 q⟩
  .exact q1.elim⟩
variable {prog:Pg}{A:Ar}{E:QQX}
def IE{it t:Uf}{i:Nat}{its:Array Vl}{x:Vl}{Q:QQX}(hi:s.heap.IsTupleIter it t i)(ht:s.heap.IsTuple t its)(hx:its[i]?=ga x) (hQ:∀g,g.IsTupleIter it t (i+1)->Heap.SameBut it s.heap g->Q x {s with heap:=g}):pi (Tk prog w) A (Builtin.SmallTypes.nextOf (.ref it)) Q E s:=by
 obtain⟨ob,e1,e2,e3⟩:=id hi;obtain⟨ot,e4,_,nt,e5⟩:=ht;unfold Builtin.SmallTypes.nextOf;refine cW (fQ (name:=Str.ofString "__next__") hi.typeIs gL (fZ gL hi.typeIs jr ?_ (jm _)));show pi (Tk prog w) _ (field (.ref it) 0>>=_) _ _ s;refine cW (fu e1 e3 (x:=.ref t) Z' ?_);show pi (Tk prog w) _ (if (Value.ref t==Value.none)=Db then _ else _) _ _ s;rw[c9 (show ¬(Value.ref t==Value.none)=Db from dw)];show pi (Tk prog w) _ (field (.ref it) 1>>=_) _ _ s;refine cW (fu e1 e3 (x:=.int i 0) Z' ?_);show pi (Tk prog w) _ (seqItems? (.ref t)>>=_) _ _ s;refine cW (gF e4 e5 ?_);simp only[jv,hx];refine cW (ij e1 e3 (by simp) (dv ⟨x,Z',dv (hQ _ ⟨_,fN _ e1 (Obj.isFreed_of_fields (kZ e3 _)),(Obj.cls_mapFields ..).trans e2,?_⟩ (kK ..))⟩));rw[kZ e3];simp[u8]
def Dh{it t:Uf}{i:Nat}{its:Array Vl}{Q:QQX}(hh:A.handled=Fa)(hi:s.heap.IsTupleIter it t i)(ht:s.heap.IsTuple t its)(hx:its[i]?=Fa) (hE:∀g e,Heap.ExtBut it s.heap g->(∃o,g.get? e=ga o/\o.cls=.type "StopIteration")->E (.ref e) {s with heap:=g}):pi (Tk prog w) A (Builtin.SmallTypes.nextOf (.ref it)) Q E s:=by
 obtain⟨ob,e1,e2,e3⟩:=id hi;obtain⟨ot,e4,_,nt,e5⟩:=ht;unfold Builtin.SmallTypes.nextOf;refine cW (fQ (name:=Str.ofString "__next__") hi.typeIs gL (fZ gL hi.typeIs jr ?_ (jm _)));show pi (Tk prog w) _ (field (.ref it) 0>>=_) _ _ s;refine cW (fu e1 e3 (x:=.ref t) Z' ?_);show pi (Tk prog w) _ (if (Value.ref t==Value.none)=Db then _ else _) _ _ s;rw[c9 (show ¬(Value.ref t==Value.none)=Db from dw)];show pi (Tk prog w) _ (field (.ref it) 1>>=_) _ _ s;refine cW (fu e1 e3 (x:=.int i 0) Z' ?_);show pi (Tk prog w) _ (seqItems? (.ref t)>>=_) _ _ s;refine cW (gF e4 e5 ?_);simp only[jv,hx];refine cW (kx (cW (ij e1 e3 (by simp) ?_)));show pi (Tk prog w) _ (newExc (.type "StopIteration") []>>=_) _ _ _;refine cW ?_;simp only[newExc,newTuple];refine cW (gc ?_ (by size_fits));refine cW (m:=firstArgMember _ _) (wpAny_of_eq (a:=Value.none) (by first|rfl|(simp only[firstArgMember];rfl)) ?_);refine gc ?_ (by size_fits);simp only[raiseNew];refine cW (wpAny_handled ?_)
 first|rw[show A.in1.handled=Fa from hh]|rw[hh]
 refine cW (dv (wpAny_throw (hE _ _ (((kK ..).extBut.push _).push _) ⟨_,dM _ Z',Z'⟩)))
def yH{prog:Pg}{w:Wo}{A:Ar}(hh:A.handled=Fa)(it t:Uf)(Xx:t≠it)(its:Array Vl):
  Draws prog w A it [it,t] its.size (λi v=>its[i]?=ga v) (λi h=>h.IsTupleIter it t i/\h.IsTuple t its) where
 live:=λi h st=>let⟨o,ho,_⟩:=st.1;⟨o,ho⟩
 frame:=λi h g st hk=>by obtain⟨⟨o,e1,e2⟩,⟨o',e3,e4⟩⟩:=st;exact⟨⟨o,hk it (by simp) o e1,e2⟩,⟨o',hk t (by simp) o' e3,e4⟩⟩
 item:=λi s Q E hi st hQ=>IE st.1 st.2 (x:=its[i]) (by simp[hi]) λg hg hs=>hQ _ g s.toks (by simp[hi]) ⟨hg,st.2.extBut hs.extBut Xx⟩ hs
 done:=λs Q E st hE=>Dh hh st.1 st.2 (by simp) hE
structure AE(z TI TO i1 i2:Uf)(f1 f2:QXQ):Prop where
 a1:TI≠z
 a2:TO≠z
 a3:i1≠z
 a4:i2≠z
 a5:TI≠TO
 a6:TI≠i1
 a7:TI≠i2
 a8:TO≠i1
 a9:TO≠i2
 pG:i1≠i2
 b1:z∉f1
 b2:TO∉f1
 b3:i2∉f1
 c1:z∉f2
 c2:TO∉f2
 c3:i1∉f2
variable {z TI TO i1 i2:Uf}{f1 f2:QXQ}{n1 n2 k1 k2:Nat}{P1 P2:Nat→Vl→Prop}{S1 S2:Nat→No→Prop}
section
variable {a b:Vl}
def sU{St:Nat->No->Prop}(Dr:Draws prog w A it fp n Pt St){i:Nat}{h g:No}{c:Uf}(st:St i h)(hs:Heap.SameBut c h g)(hc:c∉fp):St i g:=
 Dr.frame _ _ _ st λd hd o e=>(hs.2 d λq=>hc (q ▸ hd)).trans e
def Kj{Q:QQX}(D1:Draws prog w A i1 f1 n1 P1 S1)(D2:Draws prog w A i2 f2 n2 P2 S2)(Xt:AE z TI TO i1 i2 f1 f2)(hz:XXh s.heap z TI TO .none)(hI:dL s.heap TI (.ref i1) (.ref i2))(hO:dL s.heap TO a b) (XN:S1 k1 s.heap) (Xw:S2 k2 s.heap) (l1:k1<n1) (l2:k2<n2) (hQ:∀x y g tk,P1 k1 x->P2 k2 y->XXh g z TI TO (u8 s.heap.objs.size)->dL g TO x y->S1 (k1+1) g->S2 (k2+1) g->dL g s.heap.objs.size x y->g.objs.size=s.heap.objs.size+1->
   (∀c o,c≠z->c≠TO->c≠i1->c≠i2->s.heap.get? c=ga o->g.get? c=ga o)->Q (.ref s.heap.objs.size) {s with heap:=g,toks:=tk}):
  pi (Tk prog w) A (Builtin.«zip.__next__» ⟨[.ref z],[]⟩) (λXc s'=>∃v,Xc=.done (.ret v)/\Q v s') E s:=by
 show pi (Tk prog w) A (field (.ref z) 2>>=_) _ _ _;refine cW (fu hz Z' (x:=.bool pc) Z' ?_);show pi (Tk prog w) A (field (.ref z) 3>>=_) _ _ _;refine cW (fu hz Z' (x:=.ref TI) Z' (cW (gF hI Z' ?_)));show pi (Tk prog w) A (Builtin.SmallTypes.ownedTupleIsFree (.ref z)>>=_) _ _ _;refine cW ?_;unfold Builtin.SmallTypes.ownedTupleIsFree;refine cW (fu hz Z' (x:=.none) Z' (dv ?_));simp only[jk];refine cW (kx (cW (fu hz Z' (x:=.ref TO) Z' (cW (gI hz (by simp) λg1 z1 Y1=>?_)))));replace z1:XXh g1 z TI TO .ellipsis:=z1;refine cW ?_;simp only[lX,mi,jY,kg];refine cW (cW (ju ?_));show pi (Tk prog w) A (Builtin.SmallTypes.nextOf (.ref i1)>>=_) _ _ _;have Y2:S1 k1 g1:=sU D1 XN Y1 Xt.b1;refine cW (D1.item k1 _ _ _ l1 Y2 λx g2 tk2 px st1b Yd=>dv ?_);replace Yd:Heap.SameBut i1 g1 g2:=Yd;have o2:dL g2 TO a b:=Yd.extBut _ _ Xt.a8 (Y1.extBut _ _ Xt.a2 hO);refine cW (gF o2 Z' (cW (jc o2 λg3 o3 Ym=>?_)));replace o3:dL g3 TO x b:=o3;replace Ym:Heap.SameBut TO g2 g3:=Ym;refine cW (lM (dv (cW (cW (ju ?_)))));show pi (Tk prog w) A (Builtin.SmallTypes.nextOf (.ref i2)>>=_) _ _ _;have Zs:S2 k2 g3:=sU D2 (sU D2 (sU D2 Xw Y1 Xt.c1) Yd Xt.c3) Ym Xt.c2;refine cW (D2.item k2 _ _ _ l2 Zs λy g4 tk4 py st2b Zb=>dv ?_);replace Zb:Heap.SameBut i2 g3 g4:=Zb;have o4:dL g4 TO x b:=Zb.extBut _ _ Xt.a9 o3;refine cW (gF o4 Z' (cW (jc o4 λg5 o5 Zc=>?_)));replace o5:dL g5 TO x y:=o5;replace Zc:Heap.SameBut TO g4 g5:=Zc;refine cW (lM (dv (dv (cW (gF o5 Z' (cW (wpAny_newTuple ?_)))))));have esz:g5.objs.size=s.heap.objs.size:=by rw[Zc.1,Zb.1,Ym.1,Yd.1,Y1.1]
 have z5:XXh g5 z TI TO .ellipsis:=Zc.extBut _ _ Xt.a2.symm (Zb.extBut _ _ Xt.a4.symm (Ym.extBut _ _ Xt.a2.symm (Yd.extBut _ _ Xt.a3.symm z1)));have kp:∀c o,c≠z->c≠TO->c≠i1->c≠i2->s.heap.get? c=ga o->g5.get? c=ga o:=λc o q1 q2 q3 q4 q=>Zc.extBut _ _ q2 (Zb.extBut _ _ q4 (Ym.extBut _ _ q2 (Yd.extBut _ _ q3 (Y1.extBut _ _ q1 q))));have st1c:S1 (k1+1) g5:=sU D1 (sU D1 (sU D1 st1b Ym Xt.b2) Zb Xt.b3) Zc Xt.b2;have st2c:S2 (k2+1) g5:=sU D2 st2b Zc Xt.c2;have zlt:z<g5.objs.size:=dB z5;show pi (Tk prog w) A (Builtin.SmallTypes.ownedTupleHandOut (.ref z) (.ref g5.objs.size)>>=_) _ _ _;refine cW ?_;unfold Builtin.SmallTypes.ownedTupleHandOut;have z6:XXh (g5.push {cls:=.type "tuple",data:=.seq #[x,y]}) z TI TO .ellipsis:=df _ z5;refine cW (gI z6 (by simp) λg7 z7 sb7=>?_);replace z7:XXh g7 z TI TO (u8 g5.objs.size):=z7;refine gI z7 (by simp) λg8 z8 sb8=>?_;replace z8:XXh g8 z TI TO (u8 g5.objs.size):=z8;have up:∀c o,c≠z->g5.get? c=ga o->g8.get? c=ga o:=λc o q1 q=>sb8.extBut _ _ q1 (sb7.extBut _ _ q1 (df _ q));have tu:dL g8 g5.objs.size x y:=sb8.extBut _ _ (ie zlt) (sb7.extBut _ _ (ie zlt) (dM _ Z'));have es8:g8.objs.size=g5.objs.size+1:=by rw[sb8.1,sb7.1,fT]
 rw[esz]at z8 tu es8;refine dv ⟨_,Z',?_⟩;show Q (.ref g5.objs.size) _;rw[esz];exact hQ x y g8 _ px py z8 (up _ _ Xt.a2 o5) (D1.frame _ _ _ st1c λc hc o q=>up c o (λr=>Xt.b1 (r ▸ hc)) q) (D2.frame _ _ _ st2c λc hc o q=>up c o (λr=>Xt.c1 (r ▸ hc)) q) tu es8 λc o q1 q2 q3 q4 q=>up c o q1 (kp c o q1 q2 q3 q4 q)
def Mi{Q:Fin->Sd->Prop}(D1:Draws prog w A i1 f1 n1 P1 S1)(D2:Draws prog w A i2 f2 n2 P2 S2)(Xt:AE z TI TO i1 i2 f1 f2)(hz:XXh s.heap z TI TO .none)(hI:dL s.heap TI (.ref i1) (.ref i2))(hO:dL s.heap TO a b) (XN:S1 k1 s.heap) (Xw:S2 k1 s.heap) (Z8:k1=n1\/(k1<n1/\k1=n2)) (hE:∀g e,(∀c o,c≠z->c≠TO->c≠i1->c≠i2->s.heap.get? c=ga o->g.get? c=ga o)->(∃o,g.get? e=ga o/\o.cls=.type "StopIteration")->∀tk,E (.ref e) {s with heap:=g,toks:=tk}):
  pi (Tk prog w) A (Builtin.«zip.__next__» ⟨[.ref z],[]⟩) Q E s:=by
 show pi (Tk prog w) A (field (.ref z) 2>>=_) _ _ _;refine cW (fu hz Z' (x:=.bool pc) Z' ?_);show pi (Tk prog w) A (field (.ref z) 3>>=_) _ _ _;refine cW (fu hz Z' (x:=.ref TI) Z' (cW (gF hI Z' ?_)));show pi (Tk prog w) A (Builtin.SmallTypes.ownedTupleIsFree (.ref z)>>=_) _ _ _;refine cW ?_;unfold Builtin.SmallTypes.ownedTupleIsFree;refine cW (fu hz Z' (x:=.none) Z' (dv ?_));simp only[jk];refine cW (kx (cW (fu hz Z' (x:=.ref TO) Z' (cW (gI hz (by simp) λg1 z1 Y1=>?_)))));replace z1:XXh g1 z TI TO .ellipsis:=z1;refine cW ?_;simp only[lX,mi,jY,kg];refine cW (cW (ju ?_));show pi (Tk prog w) A (Builtin.SmallTypes.nextOf (.ref i1)>>=_) _ _ _;have Y2:S1 k1 g1:=sU D1 XN Y1 Xt.b1;rcases Z8 with he|⟨Xn,he⟩
 .rw[he]at Y2;refine cW (D1.done _ _ _ Y2 λg2 e Yd hx=>?_);obtain⟨oe,g,Z9⟩:=hx;have z2:XXh g2 z TI TO .ellipsis:=Yd _ _ Xt.a3.symm z1;have hez:e≠z:=λq=>by subst q;rw[z2]at g;cases g;simp at Z9
  exact gI z2 (by simp) λg3 _ Ym=>hE g3 e (λc o q1 _ q3 _ q=>Ym.extBut _ _ q1 (Yd _ _ q3 (Y1.extBut _ _ q1 q))) ⟨oe,Ym.extBut _ _ hez g,Z9⟩ _
 .refine cW (D1.item k1 _ _ _ Xn Y2 λx g2 tk2 px st1b Yd=>dv ?_);replace Yd:Heap.SameBut i1 g1 g2:=Yd;have o2:dL g2 TO a b:=Yd.extBut _ _ Xt.a8 (Y1.extBut _ _ Xt.a2 hO);refine cW (gF o2 Z' (cW (jc o2 λg3 o3 Ym=>?_)));replace Ym:Heap.SameBut TO g2 g3:=Ym;refine cW (lM (dv (cW (cW (ju ?_)))));show pi (Tk prog w) A (Builtin.SmallTypes.nextOf (.ref i2)>>=_) _ _ _;have Zs:S2 k1 g3:=sU D2 (sU D2 (sU D2 Xw Y1 Xt.c1) Yd Xt.c3) Ym Xt.c2;rw[he]at Zs;refine cW (D2.done _ _ _ Zs λg4 e Zb hx=>?_);obtain⟨oe,g,Z9⟩:=hx;have z4:XXh g4 z TI TO .ellipsis:=Zb _ _ Xt.a4.symm (Ym.extBut _ _ Xt.a2.symm (Yd.extBut _ _ Xt.a3.symm z1));have hez:e≠z:=λq=>by subst q;rw[z4]at g;cases g;simp at Z9
  exact gI z4 (by simp) λg5 _ Zc=>hE g5 e (λc o q1 q2 q3 q4 q=>Zc.extBut _ _ q1 (Zb _ _ q4 (Ym.extBut _ _ q2 (Yd.extBut _ _ q3 (Y1.extBut _ _ q1 q))))) ⟨oe,Zc.extBut _ _ hez g,Z9⟩ _
end
abbrev Vg(h:No)(t:Uf):No:=h.push {cls:=.type "tuple_iterator",data:=.fields #[.ref t,.int 0 0]}
abbrev Ve(h:No)(t u:Uf):No:=(Vg h t).push {cls:=.type "tuple_iterator",data:=.fields #[.ref u,.int 0 0]}
abbrev Vp(h:No)(t u:Uf):No:=(Ve h t u).push {cls:=.type "tuple",data:=.seq #[.ref h.objs.size,.ref (Vg h t).objs.size]}
abbrev Vq(h:No)(t u:Uf):No:=(Vp h t u).push {cls:=.type "tuple",data:=.seq #[.none,.none]}
abbrev Tt(h:No)(t u:Uf):No:=(Vq h t u).push {cls:=.type "zip",data:=.fields #[.none,.bool pc,.bool pc,.ref (Ve h t u).objs.size,.ref (Vp h t u).objs.size]}
def DJ(t u:Uf)(xs ys:Array Vl):
  Meets (Builtin.«zip.__new__» ⟨[.type "zip",.ref t,.ref u],[]⟩) (λ_ R s=>s.heap.IsTuple t xs/\s.heap.IsTuple u ys/\R (.ok (.ret (.ref (Vq s.heap t u).objs.size))) {s with heap:=Tt s.heap t u}):=
 .of_wp λprog w A R s h=>by
  obtain⟨hp,g,d,tk,os⟩:=s;obtain⟨e1,e2,h⟩:=h;have Zn:=sub_zip;have q1:Heap.IsTuple (Shared.heap ⟨hp,g,d,tk,os⟩) t xs:=e1;have q2:Heap.IsTuple (Shared.heap ⟨hp.push {cls:=.type "tuple_iterator",data:=.fields #[.ref t,.int 0 0]},g,d,tk,os⟩) u ys:=Heap.IsTuple.push e2 _
  wp_walk using iG q1,iG q2
  exact⟨_,Z',h⟩
def E4{t u:Uf}{xs ys:Array Vl}{Q:QQX}(ht:s.heap.IsTuple t xs)(hu:s.heap.IsTuple u ys) (h:∀g,XXh g (s.heap.objs.size+4) (s.heap.objs.size+2) (s.heap.objs.size+3) .none->dL g (s.heap.objs.size+2) (.ref s.heap.objs.size) (.ref (s.heap.objs.size+1))->dL g (s.heap.objs.size+3) .none .none->
   g.IsTupleIter s.heap.objs.size t 0->g.IsTupleIter (s.heap.objs.size+1) u 0->(∀c o,s.heap.get? c=ga o->g.get? c=ga o)->Q (.ref (s.heap.objs.size+4)) {s with heap:=g}):
  pi (Tk prog w) A (call (.type "zip") [.ref t,.ref u]) Q E s:=by
 refine callType_new F.called_zip (by decide) (F.typeCall_zip_2 _ _) (F.newCall_zip_2 _ _) (λobj=>F.args_object_init_3 obj _ _) F.entry_zip_new (DJ t u xs ys) ⟨ht,hu,?_⟩;have m1:(Vg s.heap t).objs.size=s.heap.objs.size+1:=fT ..;have m2:(Ve s.heap t u).objs.size=s.heap.objs.size+2:=by rw[fT,m1]
 have m3:(Vp s.heap t u).objs.size=s.heap.objs.size+3:=by rw[fT,m2]
 have m4:(Vq s.heap t u).objs.size=s.heap.objs.size+4:=by rw[fT,m3]
 have up:∀{h:No} {c:Uf} {o p:Obj},h.get? c=ga o->(h.push p).get? c=ga o:=λq=>df _ q;have r5:(Tt s.heap t u).get? (Vq s.heap t u).objs.size=ga _:=dM _ Z';have r4:(Tt s.heap t u).get? (Vp s.heap t u).objs.size=ga _:=up (dM _ Z');have r3:(Tt s.heap t u).get? (Ve s.heap t u).objs.size=ga _:=up (up (dM _ Z'));have r2:(Tt s.heap t u).get? (Vg s.heap t).objs.size=ga _:=up (up (up (dM _ Z')));have r1:(Tt s.heap t u).get? s.heap.objs.size=ga _:=up (up (up (up (dM _ Z'))));show _/\_;rw[m2,m3,m4]at r5;rw[m1,m2]at r3;rw[m3]at r4;rw[m1]at r2;rw[m4];exact⟨⟨_,r5,Z'⟩,h _ r5 r3 r4 ⟨_,r1,Z',Z'⟩ ⟨_,r2,Z',Z'⟩ λc o q=>up (up (up (up (up q))))⟩
def Gv{z TI TO i1 i2:Uf}{n1 n2 k:Nat}{P1 P2:Nat->Vl->Prop}{S1 S2:Nat->No->Prop}{Q:Option Vl->Sd->Prop}(D1:Draws prog w A.in1 i1 f1 n1 P1 S1)(D2:Draws prog w A.in1 i2 f2 n2 P2 S2)(Xt:AE z TI TO i1 i2 f1 f2) (hz:XXh s.heap z TI TO .none) (hI:dL s.heap TI (.ref i1) (.ref i2)) (hO:dL s.heap TO a b) (XN:S1 k s.heap) (Xw:S2 k s.heap) (l1:k<n1) (l2:k<n2) (hQ:∀x y g tk,P1 k x->P2 k y->XXh g z TI TO (u8 s.heap.objs.size)->dL g TO x y->S1 (k+1) g->S2 (k+1) g->dL g s.heap.objs.size x y->g.objs.size=s.heap.objs.size+1->
   (∀c o,c≠z->c≠TO->c≠i1->c≠i2->s.heap.get? c=ga o->g.get? c=ga o)->Q (ga (.ref s.heap.objs.size)) {s with heap:=g,toks:=tk}):pi (Tk prog w) A (pyNext (.ref z)) Q E s:=by
 have hT:s.TypeIs (.ref z) "zip":=⟨_,hz,Z'⟩;unfold pyNext;refine cW (wpAny_attempt (fQ (name:=Str.ofString "__next__") hT jd (fZ jd hT lY ?_ (lF _))));exact Kj D1 D2 Xt hz hI hO XN Xw l1 l2 λx y g tk q1 q2 q3 q4 q5 q6 q7 q8 q9=>dv (hQ x y g tk q1 q2 q3 q4 q5 q6 q7 q8 q9)
def Bl{z TI TO i1 i2:Uf}{n1 n2 k:Nat}{P1 P2:Nat->Vl->Prop}{S1 S2:Nat->No->Prop}{Q:Option Vl->Sd->Prop}(D1:Draws prog w A.in1 i1 f1 n1 P1 S1)(D2:Draws prog w A.in1 i2 f2 n2 P2 S2)(Xt:AE z TI TO i1 i2 f1 f2) (hz:XXh s.heap z TI TO .none) (hI:dL s.heap TI (.ref i1) (.ref i2)) (hO:dL s.heap TO a b) (XN:S1 k s.heap) (Xw:S2 k s.heap) (Z8:k=n1\/(k<n1/\k=n2)) (hQ:∀g tk,(∀c o,c≠z->c≠TO->c≠i1->c≠i2->s.heap.get? c=ga o->g.get? c=ga o)->Q Fa {s with heap:=g,toks:=tk}):pi (Tk prog w) A (pyNext (.ref z)) Q E s:=by
 have hT:s.TypeIs (.ref z) "zip":=⟨_,hz,Z'⟩;unfold pyNext;refine cW (wpAny_attempt (fQ (name:=Str.ofString "__next__") hT jd (fZ jd hT lY (Mi D1 D2 Xt hz hI hO XN Xw Z8 λg e kp hx tk=>?_) (lF _))));obtain⟨o,e1,e2⟩:=hx;exact cW (wpAny_isInstance (T:="StopIteration") (b:=true) ⟨o,e1,e2⟩ isSubtype_stop (dv (hQ g tk kp)))
def EK(I:Inv X W7 Y H s)(f:By X W7 H b)(q:vM X.K H a xs):a≠b:=by
 rintro rfl
 rcases q with q|⟨o,its,n,hk,_⟩
 .have z:=f.1;rcases q with q|⟨u,q⟩<;>(rw[q]at z;cases z)
 .have e:=I.mod.oM a o hk;rcases f.2.2.2.1 with z|z
  .exact I.ok.nY a o e z
  .exact absurd (dR (dB e) (d9 I.ok.ou z)) (fk _)
noncomputable def VQ(K:qK)(a b:Uf):It:=
 ⟨λi H=>∃xs ys x y,vM K H a xs/\vM K H b ys/\xs[i]?=ga x/\ys[i]?=ga y,λi H v H'=>∃p x y,v=.ref p/\H p=Fa/\H'=upd H p (.tup [x,y])/\(∀xs,vM K H a xs->xs[i]?=ga x)/\(∀ys,vM K H b ys->ys[i]?=ga y),λi H=>∃xs ys,vM K H a xs/\vM K H b ys/\i=min xs.length ys.length⟩
def Nz{P:Pg}{w:Wo}{K:qK}{XI:T0 Go}{n:Nat}{tp:Pos}(a b z TI TO i1 i2:Uf)(a1:TI≠z)(a2:TO≠z)(a3:i1≠z)(a4:i2≠z)(a5:TI≠TO)(a6:TI≠i1)(a7:TI≠i2)(a8:TO≠i1)(a9:TO≠i2)(pG:i1≠i2):
  Gj P w K (.Tuple XI n tp) (VQ K a b) [z,TI,TO,i1,i2] z (λi h=>XXh h z TI TO .none/\dL h TI (.ref i1) (.ref i2)/\(∃u v,dL h TO u v)/\h.IsTupleIter i1 a i/\h.IsTupleIter i2 b i) where
 mem:=by simp
 obj:=λi h st c hc=>by
  obtain⟨h1,h2,⟨u,v,h3⟩,⟨o4,h4,_,d4⟩,⟨o5,h5,_,d5⟩⟩:=st;simp only[dh,dJ,fm]at hc;rcases hc with rfl|rfl|rfl|rfl|rfl
  .exact⟨_,h1,λv z=>by cases z⟩
  .exact⟨_,h2,λv z=>by cases z⟩
  .exact⟨_,h3,λv z=>by cases z⟩
  .exact⟨_,h4,λv z=>by rw[d4]at z;cases z⟩
  .exact⟨_,h5,λv z=>by rw[d5]at z;cases z⟩
 keep:=λi h h' st k=>by obtain⟨h1,h2,⟨u,v,h3⟩,⟨o4,h4,c4⟩,⟨o5,h5,c5⟩⟩:=st;exact⟨k z (by simp) _ h1,k TI (by simp) _ h2,⟨u,v,k TO (by simp) _ h3⟩,⟨o4,k i1 (by simp) _ h4,c4⟩,⟨o5,k i2 (by simp) _ h5,c5⟩⟩
 item:=by
  intro X hP hw hK hc i W7 s Y H E I hf st hg;subst hP hw hK;obtain⟨xs,ys,x,y,hx,hy,ex,ey⟩:=hg;obtain⟨its,rx,px,_⟩:=I.tuple hx;obtain⟨Za,ry,py,_⟩:=I.tuple hy;obtain⟨u,eu,ru⟩:=rx.get ex;obtain⟨v,ev,rv⟩:=ry.get ey;obtain⟨h1,h2,⟨p,q,h3⟩,h4,h5⟩:=st;have hh:X.A.in1.handled=Fa:=I.ok.hd hc;have fa:∀c∈[z,TI,TO,i1,i2],a≠c:=λc hc=>EK I (hf c hc) hx;have fb:∀c∈[z,TI,TO,i1,i2],b≠c:=λc hc=>EK I (hf c hc) hy;have Xt:AE z TI TO i1 i2 [i1,a] [i2,b]:=⟨a1,a2,a3,a4,a5,a6,a7,a8,a9,pG,by
   simp only[dh,dJ,fm,fV];exact⟨dQ a3,dQ (fa z (by simp))⟩,by
   simp only[dh,dJ,fm,fV];exact⟨a8,dQ (fa TO (by simp))⟩,by
   simp only[dh,dJ,fm,fV];exact⟨dQ pG,dQ (fa i2 (by simp))⟩,by
   simp only[dh,dJ,fm,fV];exact⟨dQ a4,dQ (fb z (by simp))⟩,by
   simp only[dh,dJ,fm,fV];exact⟨a9,dQ (fb TO (by simp))⟩,by
   simp only[dh,dJ,fm,fV];exact⟨pG,dQ (fb i1 (by simp))⟩⟩
  have l1:i<its.toArray.size:=by
   have:=(cZ.mp eu).1
   simpa using this
  have l2:i<Za.toArray.size:=by
   have:=(cZ.mp ev).1
   simpa using this
  refine Gv (yH hh i1 a (fa i1 (by simp)) its.toArray) (yH hh i2 b (fb i2 (by simp)) Za.toArray) Xt h1 h2 h3 ⟨h4,px⟩ ⟨h5,py⟩ l1 l2 λx' y' g tk e1 e2 z1 o1 s1 s2 t1 sz kp=>?_;have e1':x'=u:=by
   have:its[i]?=ga x':=by simpa using e1
   rw[eu]at this;exact(dg this).symm
  have Zj:y'=v:=by
   have:Za[i]?=ga y':=by simpa using e2
   rw[ev]at this;exact(dg this).symm
  subst e1' Zj;refine⟨_,Z',wpAny_letOwnedTupleGo_zip z1 λg2 z2 sb=>?_⟩;have zlt:z<s.heap.objs.size:=dB h1;have kk:∀c o,c∉[z,TI,TO,i1,i2]->s.heap.get? c=ga o->g2.get? c=ga o:=λc o hc e=>by simp only[dh,dJ,fm,fV]at hc;exact(sb.2 c hc.1).trans (kp c o hc.1 hc.2.2.1 hc.2.2.2.1 hc.2.2.2.2 e)
  have t2:g2.get? s.heap.objs.size=ga {cls:=.type "tuple",data:=.seq #[x',y']}:=(sb.2 _ (ie zlt)).trans t1;have Zr:H s.heap.objs.size=Fa:=I.mZ.fresh (dq _);have I2:=I.drawn (ch:=[z,TI,TO,i1,i2]) (T:=s.heap.objs.size) (xs:=[x,y]) (its:=[x',y']) (h':=g2) (tk:=tk) hf kk (dq _) (by show 2<=Ch;decide) (.cons ru (.cons rv .nil)) ⟨_,t2,Z',⟨_,Z'⟩,Z'⟩;refine⟨.ref s.heap.objs.size,_,I2,Z',⟨_,x,y,Z',Zr,Z',λxs' hx'=>by rw[I.nB hx' hx];exact ex,λys' hy'=>by rw[I.nB hy' hy];exact ey⟩,?_,λc hc=>?_⟩
  .obtain⟨o4,g4,c4⟩:=s1.1;obtain⟨o5,g5,c5⟩:=s2.1;exact⟨z2,(sb.2 _ a1).trans (kp _ _ a1 a5 a6 a7 h2),⟨_,_,(sb.2 _ a2).trans o1⟩,⟨o4,(sb.2 _ a3).trans g4,c4⟩,⟨o5,(sb.2 _ a4).trans g5,c5⟩⟩
  .have n0:=(hf c hc).1;obtain⟨o,eo⟩:∃o,s.heap.get? c=ga o:=by
    obtain⟨o4,g4,_⟩:=h4;obtain⟨o5,g5,_⟩:=h5;simp only[dh,dJ,fm]at hc;rcases hc with rfl|rfl|rfl|rfl|rfl
    .exact⟨_,h1⟩
    .exact⟨_,h2⟩
    .exact⟨_,h3⟩
    .exact⟨_,g4⟩
    .exact⟨_,g5⟩
   rw[qo (dP (dB eo))];exact n0
 done:=by
  intro X hP hw hK hc i W7 s Y H E I hf st hg;subst hP hw hK;obtain⟨xs,ys,hx,hy,hi⟩:=hg;obtain⟨its,rx,px,_⟩:=I.tuple hx;obtain⟨Za,ry,py,_⟩:=I.tuple hy;obtain⟨h1,h2,⟨p,q,h3⟩,h4,h5⟩:=st;have hh:X.A.in1.handled=Fa:=I.ok.hd hc;have fa:∀c∈[z,TI,TO,i1,i2],a≠c:=λc hc=>EK I (hf c hc) hx;have fb:∀c∈[z,TI,TO,i1,i2],b≠c:=λc hc=>EK I (hf c hc) hy;have Xt:AE z TI TO i1 i2 [i1,a] [i2,b]:=⟨a1,a2,a3,a4,a5,a6,a7,a8,a9,pG,by
   simp only[dh,dJ,fm,fV];exact⟨dQ a3,dQ (fa z (by simp))⟩,by
   simp only[dh,dJ,fm,fV];exact⟨a8,dQ (fa TO (by simp))⟩,by
   simp only[dh,dJ,fm,fV];exact⟨dQ pG,dQ (fa i2 (by simp))⟩,by
   simp only[dh,dJ,fm,fV];exact⟨dQ a4,dQ (fb z (by simp))⟩,by
   simp only[dh,dJ,fm,fV];exact⟨a9,dQ (fb TO (by simp))⟩,by
   simp only[dh,dJ,fm,fV];exact⟨pG,dQ (fb i1 (by simp))⟩⟩
  have e1:=rx.length;have e2:=ry.length;refine Bl (yH hh i1 a (fa i1 (by simp)) its.toArray) (yH hh i2 b (fb i2 (by simp)) Za.toArray) Xt h1 h2 h3 ⟨h4,px⟩ ⟨h5,py⟩ (by simp only[dz];lia) λg tk kp=>⟨Z',?_⟩;have kk:∀c o,c∉[z,TI,TO,i1,i2]->s.heap.get? c=ga o->g.get? c=ga o:=λc o hc e=>by simp only[dh,dJ,fm,fV]at hc;exact kp c o hc.1 hc.2.2.1 hc.2.2.2.1 hc.2.2.2.2 e
  refine I.step (g':=s.gens) (d':=s.drawn) (t':=tk) (ch:=[z,TI,TO,i1,i2]) (λc hc=>⟨(hf c hc).2.2.2.1,(hf c hc).2.1,(hf c hc).2.2.2.2.1,(hf c hc).2.2.2.2.2⟩) ?_ ?_ (λc o _ e n=>n) ?_ (λ_ _ e=>e) (λ_ _ _ e=>e) (λc ps e=>⟨#[],by rw[e];simp⟩) ?_ ?_ I.bare
  .exact λc o _ _ hc e _=>kk c o hc e
  .exact λc o _ _ hc e _=>⟨o.slots,kk c o hc e⟩
  .exact λc o hc e=>⟨o,kk c o hc e⟩
  .intro m hm;obtain⟨o,es,ep,ho,r⟩:=hm;exact⟨o,es,ep,kk _ o (λy=>(hf _ y).2.1 Z') ho,r⟩
  .intro c u e;refine(I.mZ c u e).nC (λd v hd q=>kk d v (λy=>?_) q) (λ_ q=>q) λ_ _ q=>q;have n:=(hf d y).1;rcases hd with x|x
   .rw[x,e]at n;cases n
   .rw[x]at n;cases n
 self:=λ_ _ _ _ _ st h=>lZ st.1 h
def Sh{a b:Go}{ta:TA}(hg:Gl X "zip")(hm:X.mg "zip"=Fa)(ha:PA X [a,b] ta)(hs:Tl [a,b] X.env=[(pc,wp a X.env),(pc,wp b X.env)]:=by rfl)(YT:Tl [b] X.env=[(pc,wp b X.env)]:=by rfl):
  PI X (.Tuple XI n tp) (.Call (.Name "zip" p) [a,b] [] pos) (λY H R=>ta Y H λvs H1=>∃l m,vs=[.ref l,.ref m]/\(∃xs,vM X.K H1 l xs)/\(∃xs,vM X.K H1 m xs)/\R (VQ X.K l m) H1):=by
 intro W7 s Y H R I h;refine Call_ (xN I hg hm SG (gf (tE (ha pos W7 s Y H _ I h) λus s1 zz=>x5 zz λvs H1 I1 r1 q1=>?_) (by rw[hs,YT]) (by rw[YT];rfl)));obtain⟨l,m,e,⟨xs,hx⟩,⟨ys,hy⟩,q⟩:=q1;subst e;obtain⟨u,v,rfl,ru,rv⟩:=LF r1;cases ru;cases rv;obtain⟨its,_,px,_⟩:=I1.tuple hx;obtain⟨Za,_,py,_⟩:=I1.tuple hy;refine E4 px py λg h1 h2 h3 h4 h5 hk=>lZ h1 ?_;have I2:Inv X W7 Y H1 {s1 with heap:=g}:=I1.kept (t':=s1.toks) hk;refine⟨s1.heap.objs.size+4,[s1.heap.objs.size+4,s1.heap.objs.size+2,s1.heap.objs.size+3,s1.heap.objs.size,s1.heap.objs.size+1],_,_,H1,Z',I2,Nz l m _ _ _ _ _ ?_ ?_ ?_ ?_ ?_ ?_ ?_ ?_ ?_ ?_,⟨h1,h2,⟨_,_,h3⟩,h4,h5⟩,λb hb=>?_,q⟩
 .exact λz=>by have z:s1.heap.objs.size+2=s1.heap.objs.size+4:=z;lia
 .exact λz=>by have z:s1.heap.objs.size+3=s1.heap.objs.size+4:=z;lia
 .exact λz=>by have z:s1.heap.objs.size=s1.heap.objs.size+4:=z;lia
 .exact λz=>by have z:s1.heap.objs.size+1=s1.heap.objs.size+4:=z;lia
 .exact λz=>by have z:s1.heap.objs.size+2=s1.heap.objs.size+3:=z;lia
 .exact λz=>by have z:s1.heap.objs.size+2=s1.heap.objs.size:=z;lia
 .exact λz=>by have z:s1.heap.objs.size+2=s1.heap.objs.size+1:=z;lia
 .exact λz=>by have z:s1.heap.objs.size+3=s1.heap.objs.size:=z;lia
 .exact λz=>by have z:s1.heap.objs.size+3=s1.heap.objs.size+1:=z;lia
 .exact λz=>by have z:s1.heap.objs.size=s1.heap.objs.size+1:=z;lia
 .have X5:s1.heap.objs.size<=b:=by
   simp only[dh,dJ,fm]at hb;rcases hb with rfl|rfl|rfl|rfl|rfl
   .exact gX _ _
   .exact gX _ _
   .exact gX _ _
   .exact dq _
   .exact gX _ _
  exact I1.og X5 (I1.mZ.fresh X5)
noncomputable def Bx:T0 D->T0 D->T0 D
 | x::a,y::b=>.tup [x,y]::Bx a b
 | _,_=>[]
theorem Jo:∀{ds es:T0 D} {i:Nat},(Bx ds es)[i]?=(ds[i]?).bind λd=>(es[i]?).map λe=>D.tup [d,e]
 | [],es,i=>by simp[Bx]
 | d::ds,[],i=>by simp[Bx]
 | d::ds,e::es,0=>by simp[Bx]
 | d::ds,e::es,i+1=>by show(Bx ds es)[i]?=_;rw[Jo];simp
theorem EQ:∀{ds es:T0 D},(Bx ds es).length=min ds.length es.length
 | [],es=>by simp[Bx]
 | d::ds,[]=>by simp[Bx]
 | d::ds,e::es=>by show(Bx ds es).length+1=_;rw[EQ];simp only[eA];lia
def O4{K:qK}{ds es:T0 D}(h1:vM K H1 a xs)(h2:qz K H1 ds xs)(g1:vM K H1 b ys)(g2:qz K H1 es ys):GL K H1 (VQ K a b) (Bx ds es) (λ_=>True) where
 go:=λi H M hi hm ok e1=>by rw[EQ]at hi;obtain⟨x,ex,_⟩:=h2.get (cY (show i<ds.length by lia));obtain⟨y,ey,_⟩:=g2.get (cY (show i<es.length by lia));exact⟨xs,ys,x,y,e1.t _ _ h1,e1.t _ _ g1,ex,ey⟩
 pj:=λi d H M v H' hd hm ok e1 y=>by
  obtain⟨p,x,z,rfl,hp,rfl,y1,y2⟩:=y;rw[Jo]at hd;cases e:ds[i]? with
  | none=>rw[e]at hd;cases hd
  | some d'=>
   cases e':es[i]? with
   | none=>rw[e,e']at hd;cases hd
   | some d''=>rw[e,e']at hd;cases hd;obtain⟨x',q1,hx⟩:=h2.get e;obtain⟨z',q2,hz⟩:=g2.get e';have w1:=y1 xs (e1.t _ _ h1);have w2:=y2 ys (e1.t _ _ g1);rw[q1]at w1;rw[q2]at w2;have v1:x'=x:=dg w1;have v2:z'=z:=dg w2;subst v1 v2;have ex:rA K H (upd H p (.tup [x',z'])):=.new hp;exact⟨.tup (.of qy) (.cons (hx.mono (e1.trans ex)) (.cons (hz.mono (e1.trans ex)) .nil)),hm.add hp,ex⟩
 stop:=λH M hm ok e1=>⟨xs,ys,e1.t _ _ h1,e1.t _ _ g1,by rw[EQ,h2.length,g2.length]⟩
def U6(t:yt):Od:=λU M R=>t U M λds M1=>match ds with
 | [.tup a,.tup b]=>R (Bx a b) (λ_=>True) M1
 | _=>False
def SH{a b:Go}{ta:yt}(hg:Gl X "zip")(hm:X.mg "zip"=Fa)(ha:A3 X [a,b] ta)(hs:Tl [a,b] X.env=[(pc,wp a X.env),(pc,wp b X.env)]:=by rfl)(YT:Tl [b] X.env=[(pc,wp b X.env)]:=by rfl):
  I3 X (.Tuple XI n tp) (.Call (.Name "zip" p) [a,b] [] pos) (U6 ta):=
 PI.mono (Sh hg hm ha hs YT) λY H R' zz=>x7 zz λU M R hs hm ht k=>⟨U,M,_,hs,hm,ht,λvs H1 ds M1 hd W9 e1 q1=>by
  split at q1
  .obtain⟨v,u,rfl,hv,hw⟩:=FZ hd;obtain⟨l,xs,rfl,h1,h2⟩:=hv.mY;obtain⟨m,ys,rfl,g1,g2⟩:=hw.mY;exact⟨l,m,Z',⟨xs,h1⟩,⟨ys,g1⟩,k _ H1 _ _ M1 (O4 h1 h2 g1 g2) W9 e1 trivial q1⟩
  .exact q1.elim⟩
def qO(M M':Mp):Prop:=∀a c,M a=ga c->M' a=ga c
def qO.refl:qO M M:=λ_ _ h=>h
def qO.trans{M M1 M2:Mp}(a:qO M M1)(b:qO M1 M2):qO M M2:=λx c h=>b x c (a x c h)
def qO.new{M:Mp}{p:Uf}{c:vE}(h:M p=Fa):qO M (pQ M p c):=λx d q=>by rw[tj (Jm q h)];exact q
def qO.lst{ds:T0 D}(s:qO M M')(h:om M a=ga ds):om M' a=ga ds:=by
 unfold om at h ⊢;cases e:M a with
 | none=>rw[e]at h;cases h
 | some c=>rw[s a c e];rw[e]at h;exact h
def HM.sub{K:qK}(h:HM K H M')(s:qO M M'):HM K H M:=λa c q=>h a c (s a c q)
def TB{st:sB}{sp:rM}(F:PB K x qual st f fd)(S:tQ N ps (qw st))(len:∀ds M Q,sp ds M Q->ds.length=ps.length) (Xu:∀(Xi:Vl) (A:Ar) (outer:T0 Env) (s:Sd) (H:Hp) (E:XK),sQ k (A.deeper (sK qual (qw st) s.heap.objs.size f Xi))->
   ∃t,Hx (vR Oa P w K mg base N qual (qw st) f Xi A outer s H E).oG (sE st) t/\∀ds M Q,sp ds M Q->t {nx:=λ_ M'=>∃Xb,qO Xb M'/\Q .mW Xb,rt:=λd M'=>∃Xb,qO Xb M'/\Q d Xb} (xD N ds) M):Tu P w K mg base (k+1) f fd ps sp:=by
 refine F.ok S (λvs H Q E h=>?_) (λXi A outer s H vs Q' E hr h=>?_)
 .obtain⟨ds,M,Q,hd,_,hs,_⟩:=h;rw[<-hd.length];exact len ds M Q hs
 .obtain⟨ds,M,Q,hd,hm,hs,k⟩:=h;obtain⟨t,ht,hb⟩:=Xu Xi A outer s H E hr;exact⟨_,ht,xD N ds,M,_,ED hd,hm,hb ds M Q hs,λσ' H' δ' M' _ x2 x3 _ ⟨Xb,y1,y2⟩=>k .mW H' .mW Xb .mW (x2.sub y1) x3 y2,λv H' d M' x1 x2 x3 ⟨Xb,y1,y2⟩=>k v H' d Xb x1 (x2.sub y1) x3 y2,λ_ _ _ _ _ _ _ _ z=>z,λ_ _ _ _ _ _ _ _ z=>z⟩
theorem B2{g:Eh}{te:T3}{ok:Mp->Prop}{Q:DK}{f:D->D}{M:Mp}(J:we->Prop)(mZ:ok M):∀(ds acc:T0 D) (U:we),J U->acc.length+ds.length<=Ch->
  (∀d∈ds,∀U,J U->∀k:we->DK,(∀δ',J δ'->k δ' (f d) M)->g d U M λδ2 M2=>te δ2 M2 (k δ2))->(∀p,M p=Fa->Q (.ref p) (pQ M p (.lst (acc++ds.map f))))->vJ g De te ok Q ds acc U M
 | [],acc,U,_,hl,_,hq=>⟨by simpa using hl,by simpa using hq⟩
 | d::r,acc,U,hj,hl,ht,hq=>by
  rw[eA]at hl;refine⟨by lia,?_⟩;refine ht d dO U hj (λδ2 y M4=>ok M4/\vJ g De te ok Q r (acc++[y]) δ2 M4) λδ' hj'=>⟨mZ,B2 (f:=f) J mZ r (acc++[f d]) δ' hj' ?_ (λe he=>ht e (dE _ he)) ?_⟩
  .rw[cX,dH];lia
  .simpa using hq
def rG{te:T3}{ok:Mp->Prop}{Q:DK}{f:D->D}{M:Mp}(mZ:ok M):∀(ds acc:T0 D) (U:we),acc.length+ds.length<=Ch->(∀d∈ds,∀k:DK,k (f d) M->te (U.set i (ga d)) M k)->
  (∀p,M p=Fa->Q (.ref p) (pQ M p (.lst (acc++ds.map f))))->vJ (qZ i) De te ok Q ds acc U M:=λds acc U hl ht hq=>
 B2 (f:=f) (λδ'=>∀d,δ'.set i (ga d)=U.set i (ga d)) mZ ds acc U (λ_=>rfl) hl (λd hd δ' hj k hk=>by
  show te (δ'.set i (ga d)) M (k (δ'.set i (ga d)));rw[hj d];exact ht d hd _ (hk _ λe=>by rw[jP])) hq
theorem yG{α:Type}(f:α->Bool):∀l:List α,Gg (l.map λx=>D.bl (f x))=ga (l.map f)
 | []=>rfl
 | x::r=>by show(Gg (r.map λx=>D.bl (f x))).map (f x::·)=_;rw[yG f r];rfl
def pS{p:Uf}{ds:T0 D}:om (pQ M p (.lst ds)) p=ga ds:=by unfold om;rw[qd]
def i'{α:Type}{o:Option α}{P:α->Prop}{x:α}(e:o=ga x)(h:P x):o.elim False P:=by rw[e];exact h
def pE{l:T0 D}(h:decide (l.length<=100)=Db):l.length<=Ch:=by have z:=dI;have:=fD h;lia
theorem BB{g:Eh}{tb:xY}{ok:Mp->Prop}{E:Gp}(J:we->Mp->Prop)(mZ:∀U M,J U M->ok M):∀(ds:T0 D) (U:we) (M:Mp),J U M->
  (∀d∈ds,∀U M,J U M->∀nx:we->Mp->Prop,(∀δ' M',J δ' M'->nx δ' M')->g d U M λδ2 M2=>tb {E with nx:=nx,ct:=nx,bk:=E.nx} δ2 M2)->(∀U M,J U M->E.nx U M)->Dm g tb ok E ds U M
 | [],U,M,j,_,hn=>hn U M j
 | d::r,U,M,j,ht,hn=>ht d dO U M j (λδ' M'=>ok M'/\Dm g tb ok E r δ' M') λδ' M' j'=>⟨mZ δ' M' j',BB J mZ r δ' M' j' (λe he=>ht e (dE _ he)) hn⟩
theorem vd{g:Eh}{tb:xY}{ok:Mp->Prop}{E:Gp}(all:T0 D)(J:T0 D->we->Mp->Prop)(mZ:∀p U M,J p U M->ok M):∀(ds pre:T0 D) (U:we) (M:Mp),pre++ds=all->J pre U M->
  (∀pre d post,pre++d::post=all->∀U M,J pre U M->∀nx:we->Mp->Prop,(∀δ' M',J (pre++[d]) δ' M'->nx δ' M')->g d U M λδ2 M2=>tb {E with nx:=nx,ct:=nx,bk:=E.nx} δ2 M2)->(∀U M,J all U M->E.nx U M)->Dm g tb ok E ds U M
 | [],pre,U,M,e,j,_,hn=>hn U M (by rw[<-e,eG];exact j)
 | d::r,pre,U,M,e,j,ht,hn=>ht pre d r e U M j (λδ' M'=>ok M'/\Dm g tb ok E r δ' M') λδ' M' j'=>⟨mZ _ δ' M' j',vd all J mZ r (pre++[d]) δ' M' (by rw[<-e,fg];rfl) j' ht hn⟩
def GC{K:qK}{t:Vl}:W.kitOne K t t=ga Db:=by unfold W.kitOne;rw[de (by simp)]
def Lv{c:Bool}{A B:Prop}(h:c=pc)(hb:B):if c=Db then A else B:=by subst h;exact yh hb
def Bb{c:Bool}{A B:Prop}(h:c=Db)(ha:A):if c=Db then A else B:=by subst h;exact DH ha
def Jh{t u:xY}{E:Gp}{U:we}{M:Mp}(R:we->Mp->Prop)(h2:∀nx:we->Mp->Prop,(∀δ' M',R δ' M'->nx δ' M')->t {E with nx:=nx} U M)(h1:∀δ' M',R δ' M'->u E δ' M'):va t u E U M:=h2 (u E) h1
def Ul{K:qK}{ns:T0 Int}(hO:NN H)(hS:zu K H a (ns.map V.int)):sD K H (.rl (ns.map D.int)) (.ref a):=by
 have r:Qh K H a (ns.map V.int):=by
  rcases hS with h|h
  .rcases h with h|⟨o,h⟩
   .rcases hO a with z|⟨o,xs,z⟩<;>(rw[h]at z;cases z)
   .exact .inl ⟨o,h⟩
  .exact .inr h
 unfold sD;exact⟨a,_,Z',r,.ints⟩
def SL{K:qK}{sp:rM}{ns:T0 Int}(hO:NN H)(hS:zu K H a (ns.map V.int))(h:sp [.rl (ns.map D.int)] (λ_=>Fa) λd _=>d=.bl Db):Oc K sp [.ref a] H (λv _=>v=.bl Db) λ_ _ _=>False:=
 ⟨_,λ_=>Fa,_,.cons (Ul hO hS) .nil,λ_ _ z=>(by cases z),h,λv H' d M' x1 _ _ x4=>by subst x4;exact x1.mV⟩
def L1{l:W.OpenLaw}{q:Pg}{XZ:QQQ}{XP:(QQZ)->No->Prop}{YP:Wo->No->Prop}{d:DefRec}{K:Params->qK}{x:Str}{sp:rM}(hn:l.most=ga 63)(ZD:d.params.defaults=[])(hr:sQ k callerA) (hY:∀(w:Wo) (h:No),YP w h->(K w.params).In h) (YF:∀ns:T0 Int,ns.length<=63->sp [.rl (ns.map D.int)] (λ_=>Fa) λd _=>d=.bl Db) (F:∀(w:Wo) (mg:QQZ) (fa:Uf) (h:No),(K w.params).In h->h.Ns gt mg->mg d.name=ga (.ref fa)->
   ∃fd:wv,(∀(s:Sd) (u:Vl),BindsTo s fd ⟨[u],[]⟩ [(x,u)])/\∀base:No,(K w.params).In base->base.Ns gt mg->Tu l.prog w (K w.params) mg base k fa fd [x] sp):
  W.WalkO q XZ XP YP l.row.toRowW d [] (λf vs=>PySem.call f vs):=
 L2.OO (n:=63) (k:=k) (x:=x) (CX:=λ_=>Oa) (sp:=λw=>Oc (K w.params) sp) hn (by decide) ZD hr hY F (λ_ _ a ns hl hO hS=>SL hO hS (YF ns hl)) λ_ _ _ _ _ z=>z
def KD(K:qK)(mg:QQZ)(x:Str)(d:D):Prop:=BQ λv u=>mg x=ga u/\rh v u/\∀H,sD K H d v
def Sb{K:qK}{mg:QQZ}{x y:Str}{t:Tok}(h:mg x=ga (.str y t)):KD K mg x (.str y):=⟨.str y,_,h,⟨t,Z'⟩,λ_=>.str⟩
def wV{K:qK}{mg:QQZ}{x:Str}{y:Int}{t:Tok}(h:mg x=ga (.int y t)):KD K mg x (.int y):=⟨.int y,_,h,⟨t,Z'⟩,λ_=>.int⟩
def uS{K:qK}{a:Uf}{ss:QQQ}{us:T0 Vl}{n:Nat}{sl:Array (Option Vl)}(h:K.lookup a=ga ⟨.type "tuple",Fa,.seq us.toArray n,sl⟩)(r:qN (ss.map V.str) us)(hz:us.length<=1000):vM K (λ_=>Fa) a (ss.map V.str):=
 .inr ⟨_,us.toArray,n,h,Z',Z',Z',by rw[dz,dI];lia,by simpa using r⟩
theorem Aw{K:qK}:∀{ss:QQQ},qz K H (ss.map D.str) (ss.map V.str)
 | []=>.nil
 | _::_=>.cons .str Aw
def OA{K:qK}{mg:QQZ}{x:Str}{a:Uf}{ss:QQQ}(h:mg x=ga (.ref a))(q:vM K (λ_=>Fa) a (ss.map V.str)):KD K mg x (.tup (ss.map D.str)):=
 ⟨.ref a,_,h,Z',λ_=>.tup (I0 q) Aw⟩
variable {d:D}{i:Go}{td tk:T3}{F:T0 (Str × QQQ)}
def tJ(hg:Gl X x)(h:KD X.K X.mg x d)(hd:zv x:=by decide):E3 X (.Name x pos) (c3 d):=by obtain⟨v,u,hm,r,hh⟩:=h;exact PE.mono (Fl hg hm r hd) λY H Q' zz=>x7 zz λU M Q hs hm ht k=>k _ H _ M (hh H) hm .refl ht
def VE(F:T0 (Str×QQQ))(ta:T3):T3:=λU M Q=>ta U M λx M1=>match x with|.str k=>Q (.bl (KTD.datumAt k F).isSome) M1|_=>False
def U0(F:T0 (Str×QQQ))(ta:T3):T3:=λU M Q=>ta U M λx M1=>match x with|.str k=>(KTD.datumAt k F).elim False λss=>Q (.tup (ss.map D.str)) M1|_=>False
def Mm(T:MA X.K X.mg x F)(hg:Gl X x)(he:E3 X e ta)(hd:zv x:=by decide)(hmk:wS .In (.Name x p)=pc:=by rfl):E3 X (.Compare e [.In] [.Name x p] pos) (VE F ta):=by
 obtain⟨a,hm,T⟩:=GQ T;refine PE.mono (Jz (r:=λy z H Q=>∃k,y=.str k/\z=.ref a/\Q (.bl (KTD.datumAt k F).isSome) H) (λW7 s Y H y z v u Q I ry rz ⟨k,e1,e2,q⟩=>?_) he (Fl (v:=.ref a) hg hm Z' hd) hmk) λY H Q' zz=>x7 zz λU M Q hs hm ht k=>⟨U,M,_,hs,hm,ht,λv H1 d M1 hd W9 e1 q1=>?_⟩
 .subst e1 e2;obtain⟨t,rfl⟩:=ry;obtain rfl:u=Value.ref a:=rz;exact RJ (T s.heap I.ny) ⟨.bl (KTD.datumAt k F).isSome,H,I.tok _,Z',q⟩
 .cases d with
  | str k'=>exact⟨k',hd.str_inv,Z',k _ _ _ _ .bl W9 e1 q1⟩
  | _=>exact q1.elim
def Kh(T:MA X.K X.mg x F)(hg:Gl X x)(he:E3 X e ta)(hd:zv x:=by decide)(hs:BF e:=by exact λ_ _=>rfl):E3 X (.Subscript (.Name x p) e pos) (U0 F ta):=by
 obtain⟨a,hm,T⟩:=GQ T;refine PE.mono (NZ (r:=λz y H Q=>∃k ss,y=.str k/\z=.ref a/\KTD.datumAt k F=ga ss/\∀t,vM X.K H t (ss.map V.str)->Q (.ref t) H) (λvalue Xk W7 s Y H z y o i Q I rz ry ⟨k,ss,e1,e2,e3,q⟩ hs=>?_) (Fl (v:=.ref a) hg hm Z' hd) he hs) λY H Q' zz=>x7 zz λU M Q hs hm ht k=>⟨U,M,_,hs,hm,ht,λv H1 d M1 hd W9 e1 q1=>?_⟩
 .subst e1 e2;obtain⟨t,rfl⟩:=ry;obtain rfl:o=Value.ref a:=rz;have hT:=zg (s:=s) (T s.heap I.ny);have h2:pi (Tk X.prog X.w) X.A (XXb (.ref a) (.str k t)) (EP X W7 Y Q) X.xe s:=NT (T s.heap I.ny) e3 λv ⟨t',e4,q4⟩=>⟨.ref t',H,I.tok _,e4,q t' (I0 q4)⟩;unfold subscriptTail;refine cW ?_;rw[kl hT.not_modules];refine cW (j3 hT jz.lookup ?_);have Xc:pi (Tk X.prog X.w) X.A (subscripted Xk pc (.ref a) (.str k t)) (λr s₃=>pi (Tk X.prog X.w) X.A (letTemporaryGo value (.ref a) r>>=λ_=>pure r) (EP X W7 Y Q) X.xe s₃) X.xe s:=by rw[hs];exact wpAny_operating (eD h2 (λr s₃ h₃=>cW (kA (dv h₃))) λ_ _ x=>x)
  first
   | exact dv (cW Xc)
   | exact cW (dv (cW Xc))
   | exact cW Xc
 .cases d with
  | str k'=>obtain⟨ss,e4,q2⟩:=rD q1;exact⟨k',ss,hd.str_inv,Z',e4,λt qt=>k _ _ _ _ (.tup qt Aw) W9 e1 q2⟩
  | _=>exact q1.elim
noncomputable def yW(M:Mp)(a:Uf):Option (T0 (rF×D)):=match M a with
 | some (.dk kvs)=>ga kvs
 | _=>Fa
noncomputable def vY(kvs:T0 (rF×D))(k:rF):Option D:=(kvs.find? λp=>decide (p.1=k)).map (·.2)
def zW{K:qK}{kvs:T0 (rF×D)}(hm:HM K H M)(h:yW M a=ga kvs):∃vs,H a=ga (.dK vs)/\vs.map (·.1)=kvs.map (·.1)/\qz K H (kvs.map (·.2)) (vs.map (·.2)):=by
 unfold yW at h;cases e:M a with
 | none=>rw[e]at h;cases h
 | some c=>
  rw[e]at h;have ok:=hm a c e;cases c with
  | dk es=>cases h;exact ok
  | ins _ _=>cases h
  | lst _=>cases h
  | exc _=>cases h
theorem EH{K:qK}{k:rF}:∀{kvs:T0 (rF×D)} {vs:T0 (rF×V)},vs.map (·.1)=kvs.map (·.1)->qz K H (kvs.map (·.2)) (vs.map (·.2))->(∀d,vY kvs k=ga d->∃v,xI vs k=ga v/\sD K H d v)/\(vY kvs k=Fa->xI vs k=Fa)
 | [],[],_,_=>⟨λd z=>(by cases z),λ_=>rfl⟩
 | [],_::_,e,_=>by cases e
 | _::_,[],e,_=>by cases e
 | (j,d)::kvs,(j',v)::vs,e,h=>by
  have e1:j'=j:=by simpa using(gz e).1
  subst e1;obtain⟨x,r,e2,h1,h2⟩:=h.inv;obtain⟨e3,e4⟩:=gz e2;subst e3 e4;have ih:=EH (k:=k) (kvs:=kvs) (vs:=vs) (gz e).2 h2;by_cases hk:j'=k
  .have g:vY ((j',d)::kvs) k=ga d:=by simp[vY,hk]
   have g':xI ((j',v)::vs) k=ga v:=by simp[xI,hk]
   rw[g,g'];exact⟨λd' z=>by cases z;exact⟨v,Z',h1⟩,λz=>by cases z⟩
  .have g:vY ((j',d)::kvs) k=vY kvs k:=by simp[vY,hk]
   have g':xI ((j',v)::vs) k=xI vs k:=by simp[xI,hk]
   rw[g,g'];exact ih
def Ll(x y:D)(M:Mp)(Q:DK):Prop:=match x,y with
 | .ref a,.str k=>(yW M a).elim False λkvs=>(vY kvs (.inr k)).elim False λd=>Q d M
 | _,_=>False
def U9(td tk:T3):T3:=λU M Q=>td U M λx M1=>tk U M1 λy M2=>Ll x y M2 Q
def xO(hu:X.A.units+9<W')(ho:E3 X o td)(hi:E3 X i tk)(hs:BF i:=by exact λ_ _=>rfl):E3 X (.Subscript o i pos) (U9 td tk):=by
 refine PE.mono (NZ (r:=R3 X.K Ll) (λvalue Xk W7 s Y H vx vy v u Q' I rx ry h hs=>?_) ho hi hs) IU;obtain⟨x,y,M,Q,hx,hy,hm,q,k⟩:=h;unfold Ll at q;split at q
 .rename_i a0 k0;obtain⟨kvs,e1,q⟩:=rD q;obtain⟨d,e2,q⟩:=rD q;cases hx.mS;cases hy.str_inv;obtain⟨vs,h1,h2,h3⟩:=zW hm e1;obtain⟨w,e3,hw⟩:=(EH h2 h3).1 d e2;refine Qw (by lia) value Xk W7 s Y H _ _ v u Q' I rx ry ⟨_,w,Z',?_,k _ _ _ _ hw hm .refl q⟩ hs;have g:=Fe.k (k:=Sum.inr k0) h1;rw[e3]at g;exact g
 .exact q.elim
def S5(YN:Bool)(x y:D)(M:Mp)(Q:DK):Prop:=match x,y with
 | .str k,.ref a=>(yW M a).elim False λkvs=>Q (.bl (if YN then !(vY kvs (.inr k)).isSome else(vY kvs (.inr k)).isSome)) M
 | _,_=>False
def Lm{K:qK}{k:rF}{kvs:T0 (rF×D)}{vs:T0 (rF×V)}(h2:vs.map (·.1)=kvs.map (·.1))(h3:qz K H (kvs.map (·.2)) (vs.map (·.2))):(xI vs k).isSome=(vY kvs k).isSome:=by
 obtain⟨a,b⟩:=EH (k:=k) h2 h3;cases e:vY kvs k with
 | none=>rw[b e];rfl
 | some d=>obtain⟨v,e3,_⟩:=a d e;rw[e3];rfl
def VG(YN:Bool)(tk td:T3):T3:=λU M Q=>tk U M λx M1=>td U M1 λy M2=>S5 YN x y M2 Q
def UC(hu:X.A.units+9<W'):yo X (Op .In) (R3 X.K (S5 pc)):=λW7 s Y H vx vy v u Q' I rx ry h=>by
 obtain⟨x,y,M,Q,hx,hy,hm,q,k⟩:=h;unfold S5 at q;split at q
 .obtain⟨kvs,e1,q⟩:=rD q;cases hy.mS;cases hx.str_inv;obtain⟨vs,h1,h2,h3⟩:=zW hm e1;refine RM (by lia) W7 s Y H _ _ v u Q' I rx ry ⟨_,_,Z',Fe.k (k:=Sum.inr _) h1,?_⟩;rw[Lm h2 h3];exact k _ _ _ _ .bl hm .refl q
 .exact q.elim
def Mf(hu:X.A.units+9<W')(hi:E3 X i tk)(ho:E3 X o td)(hm:wS .In o=pc:=by first|exact HQ _|with_unfolding_all rfl):B3 X (.Compare i [.In] [o] pos) (b3 (VG pc tk td)):=PT.mono (JF (UC hu) hi ho hm) λY H Q' zz=>x7 zz λU M Q hs hm ht k=>
 IU Y H _ ⟨U,M,_,hs,hm,ht,λv H1 d M1 hd W9 e1 q1=>by
  cases d with
  | bl c=>exact⟨c,hd.mV,k c H1 M1 W9 e1 q1⟩
  | _=>exact q1.elim⟩
noncomputable def vN:T0 D->Option (T0 (rF×D))
 | []=>ga []
 | .tup [.str k,d]::r=>(vN r).map ((.inr k,d)::·)
 | _::_=>Fa
theorem Es{K:qK}:∀{es:T0 D} {kvs:T0 (rF×D)} {xs:T0 V},vN es=ga kvs->qz K H es xs->∃(ts:QXQ) (vs:T0 (rF×V)),xs=ts.map V.ref/\ts.length=vs.length/\vs.map (·.1)=kvs.map (·.1)/\qz K H (kvs.map (·.2)) (vs.map (·.2))/\
  ∀(j:Nat) (t:Uf) (p:rF×V),ts[j]?=ga t->vs[j]?=ga p->vM K H t [kV p.1,p.2]
 | [],_,_,e,h=>by cases e;exact⟨[],[],h.nil_inv,Z',Z',.nil,λj t p z=>by simp at z⟩
 | d::es,kvs,xs,e,h=>by
  obtain⟨x,r,rfl,h1,h2⟩:=h.inv;unfold vN at e;split at e
  .rename_i z;cases z
  .rename_i k d' r' z;cases z;cases q:vN es with
   | none=>rw[q]at e;cases e
   | some kvs'=>
    rw[q]at e;cases e;obtain⟨ts,vs,e1,e2,e3,e4,e5⟩:=Es q h2;obtain⟨a,ys,rfl,g1,g2⟩:=h1.mY;obtain⟨y,r1,rfl,g3,g4⟩:=g2.inv;obtain⟨w,r2,rfl,g5,g6⟩:=g4.inv;cases g6.nil_inv;cases g3.str_inv;refine⟨a::ts,(.inr k,w)::vs,by rw[e1];rfl,by simpa using e2,by rw[dW,dW,e3],.cons g5 e4,λj t p z1 z2=>?_⟩;cases j with
    | zero=>
     have z1':a=t:=by simpa using z1
     have z2':(Sum.inr k,w)=p:=by simpa using z2
     subst z1' z2';exact g1
    | succ j=>exact e5 j t p (by simpa using z1) (by simpa using z2)
  .cases e
def QL(ds:T0 D)(M:Mp)(Q:DK):Prop:=match ds with
 | [.ref a]=>(om M a).elim False λes=>(vN es).elim False λkvs=>(kvs.map (·.1)).Nodup/\∀p,M p=Fa->Q (.ref p) (pQ M p (.dk kvs))
 | _=>False
def BR(hc:X.calm=Db):C3 X (.type "dict") QL:=by
 intro W7 s Y H vs us Q' I rv h;obtain⟨ds,M,Q,hd,hm,q,k⟩:=h;unfold QL at q;split at q
 .obtain⟨es,e1,q⟩:=rD q;obtain⟨kvs,e2,hnd,q⟩:=rD q;obtain⟨v,rfl,hv⟩:=sN hd;cases hv.mS;obtain⟨xs,h1,h2,_⟩:=qL hm e1;obtain⟨ts,ws,rfl,f2,f3,f4,f5⟩:=Es e2 h2;refine IK hc W7 s Y H _ us Q' I rv ⟨_,ts,ws,Z',h1,f2,f5,by rw[f3];exact hnd,λd hd=>?_⟩;have e:rA X.K H (upd H d (.dK ws)):=.new hd;exact k _ _ _ _ .ref (hm.new (c:=.dk kvs) hd ⟨_,qy,f3,f4.mono e⟩) e (q d (hm.fresh hd))
 .exact q.elim
def R7:zn "set"=ga (.type "set"):=by decide+kernel
noncomputable def B8:T0 D->Option (QQQ)
 | []=>ga []
 | .str x::r=>(B8 r).map (x::·)
 | _::_=>Fa
theorem Cb:∀ss:QQQ,B8 (ss.map D.str)=ga ss
 | []=>rfl
 | x::r=>by show(B8 (r.map D.str)).map (x::·)=_;rw[Cb r];rfl
theorem GR{K:qK}:∀{ds:T0 D} {ss:QQQ} {xs:T0 V},B8 ds=ga ss->qz K H ds xs->xs=ss.map V.str
 | [],_,_,e,h=>by cases e;exact h.nil_inv
 | d::ds,_,_,e,h=>by
  obtain⟨x,r,rfl,h1,h2⟩:=h.inv;cases d with
  | str z=>
   unfold B8 at e;cases q:B8 ds with
   | none=>rw[q]at e;cases e
   | some ss=>rw[q]at e;cases e;rw[h1.str_inv,GR q h2];rfl
  | _=>cases e
def Ui(ta:T3):T3:=λU M Q=>ta U M λx M1=>(Lx M1 x).elim False λes=>(B8 es).elim False λss=>ss.length<4000/\Q (.int (uf ss).length) M1
def K9(hc:X.calm=Db)(he:E3 X e ta)(hg1:Gl X "len")(W9:X.mg "len"=Fa)(hg2:Gl X "set")(Xr:X.mg "set"=Fa)(b1:zn "len"=ga (.builtin "len"))(b2:zn "set"=ga (.type "set")) (hs:Tl [e] X.env=[(pc,wp e X.env)]:=by rfl):E3 X (.Call (.Name "len" p) [.Call (.Name "set" p2) [e] [] Y0] [] pos) (Ui ta):=
 PE.mono (Ke hc he hg1 W9 hg2 Xr b1 b2 hs) λY H Q' zz=>x7 zz λU M Q hs hm ht k=>⟨U,M,_,hs,hm,ht,λv H1 d M1 hd W9 e1 q1=>by
  obtain⟨es,e2,q1⟩:=rD q1;obtain⟨ss,e3,hz,q1⟩:=rD q1;obtain⟨a,xs,rfl,h1,h2⟩:=Fk W9 hd e2;rw[GR e3 h2]at h1;have z:XXg=4096:=rfl;exact⟨a,ss,Z',h1,by lia,k _ _ _ _ .int W9 e1 q1⟩⟩
def SD(x:D)(ds:T0 D)(M:Mp)(Q:DK):Prop:=match x,ds with
 | .ref a,[y]=>(om M a).elim False λes=>es.length<Ch/\Q .mW (pQ M a (.lst (es++[y])))
 | _,_=>False
def qx{es:T0 D}(h:om M a=ga es):M a=ga (.lst es):=by
 unfold om at h;split at h
 .rename_i e;rw[e];cases h;rfl
 .cases h
def BD{K:qK}{es:T0 D}(hm:HM K H M)(h:om M a=ga es):∃xs,H a=ga (.lst xs)/\qz K H es xs:=hm a _ (qx h)
def Ld:M3 X "list.append" SD:=by
 intro W7 s Y H vx vs v us Q' I rx rv h;obtain⟨x,ds,M,Q,hx,hd,hm,q,k⟩:=h;unfold SD at q;split at q
 .obtain⟨es,e1,hz,q⟩:=rD q;obtain⟨w,rfl,hw⟩:=sN hd;cases hx.mS;obtain⟨xs,h1,h2⟩:=BD hm e1;refine Ki W7 s Y H _ _ v us Q' I rx rv ⟨_,xs,w,Z',Z',h1,by rw[<-h2.length];exact hz,?_⟩;obtain⟨Xr,ex⟩:=hm.put (c:=.lst (es++[_])) (qx e1) λex=>⟨_,qy,(h2.mono ex).snoc (hw.mono ex)⟩;exact k _ _ _ _ .mW Xr ex q
 .exact q.elim
def qW(ho:E3 X o ta)(ha:A3 X (e::es) t)(Xj:Rs o "append" X.env (wp o X.env)=wp o X.env:=by rfl)
  (X3:((At pos (Tl (e::es) X.env)).all (λx=>!x.1)&&(TD pos (Ps [] X.env)).all (λx=>x.1.isSome)&&decide ((e::es).length+([]:T0 TW).length+(if ([]:T0 TW).isEmpty then 0 else 1)<30))=Db:=by rfl)
  (Xq:(Xa.endLine==pos.line)=Db:=by rfl) (hs:Bm X e es:=by rfl) (Xm:Co X pos es:=by rfl):
  E3 X (.Call (.Attribute o "append" Xa) (e::es) [] pos) (Vs SD ta t):=Nw PySem.F.slot_list_append PySem.F.type_list_append Ld ho ha Xj X3 Xq hs Xm
def qO.none{M M2:Mp}{q:Uf}(s:qO M M2)(h:M2 q=Fa):M q=Fa:=by
 cases e:M q with
 | none=>rfl
 | some c=>rw[s q c e]at h;cases h
def qO.upd{M M2:Mp}{c:vE}(s:qO M M2):qO (pQ M q c) (pQ M2 q c):=λx d h=>by
 by_cases e:x=q
 .subst e;rw[qd]at h ⊢;exact h
 .rw[tj e]at h ⊢;exact s x d h
def qO.dk{ds:T0 (rF×D)}(s:qO M M')(h:yW M a=ga ds):yW M' a=ga ds:=by
 unfold yW at h ⊢;cases e:M a with
 | none=>rw[e]at h;cases h
 | some c=>rw[s a c e];rw[e]at h;exact h
def se(p:Uf)(M M':Mp):Prop:=∀b c,b≠p->M b=ga c->M' b=ga c
def qO.keep{p:Uf}(s:qO M M'):se p M M':=λb c _ h=>s b c h
def se.trans{M M1 M2:Mp}{p:Uf}(a:se p M M1)(b:se p M1 M2):se p M M2:=λx c n h=>b x c n (a x c n h)
def se.put{p:Uf}{c:vE}:se p M (pQ M p c):=λb d n h=>by rw[tj n];exact h
def se.lst{p a:Uf}{ds:T0 D}(k:se p M M')(n:a≠p)(h:om M a=ga ds):om M' a=ga ds:=by have:=k a _ n (qx h);unfold om;rw[this]
def se.dk{p a:Uf}{ds:T0 (rF×D)}(k:se p M M')(n:a≠p)(h:yW M a=ga ds):yW M' a=ga ds:=by
 unfold yW at h ⊢;cases e:M a with
 | none=>rw[e]at h;cases h
 | some c=>rw[k a c n e];rw[e]at h;exact h
def qk{a p C:Uf}{ds:T0 D}{fs:T0 (Str×D)}(h:om M a=ga ds)(hp:M p=ga (.ins C fs)):a≠p:=λz=>by subst z;rw[qx h]at hp;cases hp
def C9{a p C:Uf}{ds:T0 (rF×D)}{fs:T0 (Str×D)}(h:yW M a=ga ds)(hp:M p=ga (.ins C fs)):a≠p:=λz=>by subst z;unfold yW at h;rw[hp]at h;cases h
def tH{M:Mp}{p:Uf}{ds:T0 D}(h:M p=ga (.lst ds)):om M p=ga ds:=by unfold om;rw[h]
def A0{M:Mp}{p:Uf}{ds:T0 (rF×D)}(h:M p=ga (.dk ds)):yW M p=ga ds:=by unfold yW;rw[h]
def tR{N:Mp}{p q C:Uf}{fs fs':T0 (Str×D)}{c:vE}(hp:N p=ga (.ins C fs))(hq:N q=Fa):
  q≠p/\pQ N q c p=ga (.ins C fs)/\se p N (pQ (pQ N q c) p (.ins C fs'))/\pQ (pQ N q c) p (.ins C fs') q=ga c/\pQ (pQ N q c) p (.ins C fs') p=ga (.ins C fs'):=by
 have n:p≠q:=Jm hp hq;refine⟨dQ n,by rw[tj n];exact hp,(qO.new hq).keep.trans .put,by rw[tj (dQ n),qd],qd⟩
theorem BG{g:Eh}{te:T3}{ok:Mp->Prop}{Q:DK}(all:T0 D)(J:T0 D->T0 D->we->Mp->Prop)(mZ:∀p acc U M,J p acc U M->ok M):∀(ds pre acc:T0 D) (U:we) (M:Mp),pre++ds=all->acc.length+ds.length<=Ch->J pre acc U M->
  (∀pre d post,pre++d::post=all->∀acc U M,J pre acc U M->∀k:we->DK,(∀δ2 y M4,J (pre++[d]) (acc++[y]) δ2 M4->k δ2 y M4)->g d U M λδ2 M2=>te δ2 M2 (k δ2))->
  (∀acc U M,J all acc U M->∀p,M p=Fa->Q (.ref p) (pQ M p (.lst acc)))->vJ g De te ok Q ds acc U M
 | [],pre,acc,U,M,e,hl,j,_,hq=>⟨by simpa using hl,hq acc U M (by rw[<-e,eG];exact j)⟩
 | d::r,pre,acc,U,M,e,hl,j,ht,hq=>by rw[eA]at hl;refine⟨by lia,?_⟩;refine ht pre d r e acc U M j (λδ2 y M4=>ok M4/\vJ g De te ok Q r (acc++[y]) δ2 M4) λδ2 y M4 j'=>⟨mZ _ _ _ _ j',BG all J mZ r (pre++[d]) (acc++[y]) δ2 M4 (by rw[<-e,fg];rfl) ?_ j' ht hq⟩;rw[cX,dH];lia
noncomputable def sj:Nat->D->Bool
 | _,.mW=>Db
 | _,.bl _=>Db
 | _,.int _=>Db
 | _,.str _=>Db
 | n+1,.tup ds=>ds.all (sj n)
 | _,_=>pc
theorem zt{f:D->D->Option Bool}:∀ds:T0 D,(∀d∈ds,f d d=ga Db)->tq f ds ds=ga Db
 | [],_=>rfl
 | d::r,h=>by show(f d d).bind (λp=>(tq f r r).map λq=>p&&q)=ga Db;rw[h d dO,zt r λe he=>h e (dE _ he)];rfl
theorem vA:∀(n:Nat) (d:D),sj n d=Db->xj M (n+1) d d=ga Db
 | _,.mW,_=>rfl
 | _,.bl _,_=>by simp[xj]
 | _,.int _,_=>by simp[xj]
 | _,.str _,_=>by simp[xj]
 | n+1,.tup ds,h=>by have h:ds.all (sj n)=Db:=h;show(tq (xj M (n+1)) ds ds).map (λp=>p&&ds.length==ds.length)=ga Db;rw[zt ds λd hd=>vA n d (eI.mp h d hd)];simp
 | 0,.tup _,h=>by cases h
 | 0,.ref _,h=>by cases h
 | _+1,.ref _,h=>by cases h
 | 0,.ty _,h=>by cases h
 | _+1,.ty _,h=>by cases h
 | 0,.rl _,h=>by cases h
 | _+1,.rl _,h=>by cases h
def AB{ds:T0 D}(ha:om M a=ga ds)(hb:om M b=ga ds)(h:∀d∈ds,xj M n d d=ga Db):xj M (n+1) (.ref a) (.ref b)=ga Db:=by show(om M a).bind (λi=>(om M b).bind λj=>if i.length=j.length then tq (xj M n) i j else ga pc)=ga Db;rw[ha,hb];show(if ds.length=ds.length then tq (xj M n) ds ds else ga pc)=ga Db;rw[de Z'];exact zt ds h
def SQ(tc:AV)(tb:xY):xY:=λE U M=>∃W:Nat->we->Mp->Prop,(∃m,W m U M)/\∀m U M,W m U M->
 tc U M λb M1=>if b=Db then tb {E with nx:=λδ' M'=>∃m',m'<m/\W m' δ' M',ct:=λδ' M'=>∃m',m'<m/\W m' δ' M',bk:=E.nx} U M1 else E.nx U M1
def L4{tc:AV}{tb:xY}(hp:PassesOwn (Tk X.prog X.w) X.A X.env X.xe)(hc:B3 X c tc)(hb:Hx X body tb):S3 X (.While c body [] pos) (SQ tc tb):=
 PS.mono (MI hp hc hb) λD' Y H ⟨U,M,E,hs,hm,⟨W,⟨m0,w0⟩,turn⟩,k1,k2,k3,k4⟩=>by
 refine⟨λm σ' H'=>∃δ' M',Aj X.K H' σ' δ'/\HM X.K H' M'/\rA X.K H H'/\σ'.length=Y.length/\W m δ' M',⟨m0,U,M,hs,hm,.refl,Z',w0⟩,?_⟩
 rintro m σ1 H1 ⟨δ1,M1,Z5,W9,e1,l1,w1⟩
 refine⟨δ1,M1,_,Z5,W9,turn m δ1 M1 w1,λb H2 M2 Xr e2 q2=>?_⟩;cases b with
 | false=>rw[c9 dw]at q2 ⊢;exact k1 σ1 H2 δ1 M2 (Z5.mono e2) Xr (e1.trans e2) l1 q2
 | true=>
  rw[de Z']at q2 ⊢;refine⟨λσ' H'=>∃δ' M',Aj X.K H' σ' δ'/\HM X.K H' M'/\rA X.K H H'/\σ'.length=Y.length/\∃m',m'<m/\W m' δ' M',?_,δ1,M2,_,Z5.mono e2,Xr,q2,?_,?_,?_,?_⟩
  .rintro σ' H' ⟨δ',M',a1,a2,a3,a4,m',lt,w⟩
   exact⟨m',lt,δ',M',a1,a2,a3,a4,w⟩
  .exact λσ' H' δ' M' y1 y2 y3 y4 y5=>⟨δ',M',y1,y2,e1.trans (e2.trans y3),by rw[y4,l1],y5⟩
  .exact λv H' d M' y1 y2 y3 y4=>k2 v H' d M' y1 y2 (e1.trans (e2.trans y3)) y4
  .exact λσ' H' δ' M' y1 y2 y3 y4 y5=>k1 σ' H' δ' M' y1 y2 (e1.trans (e2.trans y3)) (by rw[y4,l1]) y5
  .exact λσ' H' δ' M' y1 y2 y3 y4 y5=>⟨δ',M',y1,y2,e1.trans (e2.trans y3),by rw[y4,l1],y5⟩
noncomputable def To(op:XXj)(x y:D):Option D:=match op,x,y with
 | .Add,.int i,.int j=>ga (.int (i+j))
 | .Sub,.int i,.int j=>ga (.int (i - j))
 | _,_,_=>Fa
def RN(op:XXj):V->V->Hp->VK->Prop:=λvx vy H Q=>match op,vx,vy with
 | .Add,.int i,.int j=>Q (.int (i+j)) H
 | .Sub,.int i,.int j=>Q (.int (i - j)) H
 | _,_,_=>False
def RS:PU X op (RN op):=by
 intro W7 s Y H x y u v Q I rx ry h;unfold RN at h;split at h
 .exact Sx W7 s Y H _ _ u v Q I rx ry ⟨_,_,Z',Z',h⟩
 .exact Rf W7 s Y H _ _ u v Q I rx ry ⟨_,_,Z',Z',h⟩
 .exact h.elim
def Pc{K:qK}{x y z:D}{Q:VK}(hx:sD K H x vx)(hy:sD K H y vy)(e:To op x y=ga z)(k:∀vz,sD K H z vz->Q vz H):RN op vx vy H Q:=by
 unfold To at e;split at e
 .cases e;cases hx.int_inv;cases hy.int_inv;exact k _ .int
 .cases e;cases hx.int_inv;cases hy.int_inv;exact k _ .int
 .cases e
def UU(K:qK)(f:Str)(op:XXj)(ta tv:T3):xY:=λE U M=>ta U M λx M1=>match x with
 | .ref a=>Bo (M1 a) λC fs=>uI K C f/\(fs.lookup f).elim False λd=>tv U M1 λy M2=>(To op d y).elim False λz=>Bo (M2 a) λC' fs'=>C'=C/\fs'.length<1000/\E.nx U (pQ M2 a (.ins C (wU f z fs')))
 | _=>False
def EA{f:Str}(ha:E3 X o ta)(hv:E3 X value tv):S3 X (.AugAssign (.Attribute o f Zh) op value pos) (UU X.K f op ta tv):=
 PS.mono (Kf ha hv RS) λD' Y H zz=>Lf zz λU M E hs hm ht k1 k2 k3 k4=>
 ⟨U,M,_,hs,hm,ht,λv H1 d M1 hd W9 e1 q1=>by
  cases d with
  | ref a=>
   cases hd.mS;obtain⟨C,fs,e,q1⟩:=yf q1;obtain⟨na,q1⟩:=q1;obtain⟨d,ed,q1⟩:=rD q1;obtain⟨dx,vs,h1,cl,nn,fo⟩:=W9 a _ e;obtain⟨w,ew,hw⟩:=(xu fo).1 d ed;refine⟨a,C,dx,vs,w,Z',h1,cl,na,ew,U,M1,_,hs.mono e1,W9,q1,λu H2 y M2 hy Xr e2 q2=>?_⟩;obtain⟨z,ez,q2⟩:=rD q2;obtain⟨C',fs',e',q2⟩:=yf q2;obtain⟨rfl,hl,q2⟩:=q2;refine Pc (hw.mono e2) hy ez λvz hz=>?_;obtain⟨ZU,vs',XT,cl',nn',fo'⟩:=Xr a _ e';have Xd:vs'.length=fs'.length:=by have:=eV List.length fo'.1;simpa using this
   refine⟨ZU,vs',XT,by lia,?_⟩;obtain⟨X8,e3⟩:=Xr.put (p:=a) (o:=.ins C' ZU (wq f vz vs')) (c:=.ins C' (wU f z fs')) e' λx=>⟨ZU,_,qy,cl',λg hg=>by
    rcases B4 hg with q|q
    .rw[q];exact na
    .exact nn' g q,FB (hz.mono x) (fo'.mono x)⟩
   exact k1 Y _ U _ (hs.mono (e1.trans (e2.trans e3))) X8 (e1.trans (e2.trans e3)) Z' q2
  | _=>exact q1.elim⟩
theorem ui{i:Nat}{tt:AV}{te:T3}{ok:Mp->Prop}{Q:DK}{f:D->D}{t:D->Bool}{M:Mp}(mZ:ok M):∀(ds acc:T0 D) (U:we),acc.length+ds.length<=Ch->
  (∀d∈ds,∀k:Bool->Mp->Prop,k (t d) M->tt (U.set i (ga d)) M k)->(∀d∈ds,t d=Db->∀k:DK,k (f d) M->te (U.set i (ga d)) M k)->
  (∀p,M p=Fa->Q (.ref p) (pQ M p (.lst (acc++(ds.filter t).map f))))->vJ (qZ i) tt te ok Q ds acc U M
 | [],acc,U,hl,_,_,hq=>⟨by simpa using hl,by simpa using hq⟩
 | d::r,acc,U,hl,ht,he,hq=>by
  rw[eA]at hl;refine⟨by lia,?_⟩;show tt (U.set i (ga d)) M _;refine ht d dO _ ?_;have z:∀e:D,(U.set i (ga d)).set i (ga e)=U.set i (ga e):=λe=>by rw[jP]
  cases q:t d with
  | true=>
   rw[de Z'];refine he d dO q _ ⟨mZ,ui (f:=f) (t:=t) mZ r (acc++[f d]) _ ?_ (λe m k h=>?_) (λe m h0 k h=>?_) ?_⟩
   .rw[cX,dH];lia
   .rw[z];exact ht e (dE _ m) k h
   .rw[z];exact he e (dE _ m) h0 k h
   .intro p hp;have:=hq p hp;rw[fF q]at this
    simpa using this
  | false=>
   rw[c9 dw];refine⟨mZ,ui (f:=f) (t:=t) mZ r acc _ (by lia) (λe m k h=>?_) (λe m h0 k h=>?_) ?_⟩
   .rw[z];exact ht e (dE _ m) k h
   .rw[z];exact he e (dE _ m) h0 k h
   .intro p hp;have:=hq p hp;rw[fG (by rw[q];exact dw)]at this;exact this
section
variable {a:Go}
def VZ(ta:T3):T3:=λU M Q=>ta U M λx M1=>match x with|.int i=>Q (.int (-i)) M1|_=>False
def FT(ha:E3 X a ta):E3 X (.UnaryOp .USub a pos) (VZ ta):=PE.mono (Us SA ha) λY H Q' zz=>x7 zz λU M Q hs hm ht k=>
 ⟨U,M,_,hs,hm,ht,λv H1 d M1 hd W9 e1 q1=>by
  cases d with
  | int i=>cases hd.int_inv;exact⟨i,Z',k _ H1 _ M1 .int W9 e1 q1⟩
  | _=>exact q1.elim⟩
end
end L3
namespace L2
open PySem.W
noncomputable def BS{α:Type}(lt:Nat->Nat->Bool):KasT α->α
 | .ret a=>a
 | .ask i j k=>BS lt (k (lt i j))
noncomputable def wg(n:Nat):KasT (Array Nat)->Bool
 | .ret p=>p.size==n&&p.toList.all λi=>decide (i<n)
 | .ask i j k=>decide (i<n)&&decide (j<n)&&wg n (k Db)&&wg n (k pc)
def GJ{n i j:Nat}{k:Bool->KasT (Array Nat)}(h:wg n (.ask i j k)=Db):i<n/\j<n/\∀b,wg n (k b)=Db:=by simp only[wg,dU,eB]at h;exact⟨h.1.1.1,h.1.1.2,λb=>by cases b;exact h.2;exact h.1.2⟩
theorem GA{cmp:Nat->Nat->(Bool->Sd->Prop)->Sd->Prop}{lt:Nat->Nat->Bool}{n:Nat}{Q:Array Nat->Sd->Prop}(hc:∀i j (C:Bool->Sd->Prop),i<n->j<n->C (lt i j) s->cmp i j C s):
  ∀t:KasT (Array Nat),wg n t=Db->Q (BS lt t) s->t.kasWp cmp Q s
 | .ret _,_,q=>q
 | .ask i j k,hb,q=>by obtain⟨h1,h2,h3⟩:=GJ hb;exact hc i j _ h1 h2 (GA hc (k (lt i j)) (h3 _) q)
theorem JG:∀t:KasT (Array Nat),wg n t=Db->(BS lt t).size=n/\∀i∈(BS lt t).toList,i<n
 | .ret p,hb=>by simp only[wg,dU,ft,eI,eB]at hb;exact hb
 | .ask i j k,hb=>JG (k (lt i j)) ((GJ hb).2.2 _)
noncomputable def uq(lt:Nat->Nat->Bool)(n:Nat):T0 Nat:=if n<2 then List.range n else(BS lt (kas_sort n)).toList
def Vu:wg 2 (kas_sort 2)=Db:=by decide+kernel
def V4:wg 3 (kas_sort 3)=Db:=by decide+kernel
def Ua{n:Nat}(h2:2<=n)(h3:n<=3):wg n (kas_sort n)=Db:=by
 have:n=2\/n=3:=by lia
 rcases this with rfl|rfl
 .exact Vu
 .exact V4
def yF{n:Nat}(h3:n<=3):(uq lt n).length=n/\∀i∈uq lt n,i<n:=by
 unfold uq;by_cases h:n<2
 .rw[de h,eC];exact⟨Z',λi hi=>gb.mp hi⟩
 .rw[c9 h];obtain⟨h1,h2⟩:=JG (lt:=lt) (kas_sort n) (Ua (by lia) h3);exact⟨by rw[iu];exact h1,h2⟩
variable {prog:Pg}{w:Wo}{A:Ar}{E:QQX}{s:Sd}
def DU{a:Uf}{vs:T0 Vl}{n:Nat}{κ:SortKind}{lt:Nat->Nat->Bool}{P:PySem.Fin->Sd->Prop}(ho:s.heap.get? a=ga (wE "list" vs.toArray n))(h3:vs.length<=3) (hk:∀h' (Q:SortKind->Sd->Prop),0<vs.length->(∀b o,b≠a->s.heap.get? b=ga o->h'.get? b=ga o)->Q κ {s with heap:=h'}->pi (Tk prog w) A (keyKind' vs.toArray) Q (λ_ _=>False) {s with heap:=h'})
  (Xn:∀h' i j (C:Bool->Sd->Prop),(∀b o,b≠a->s.heap.get? b=ga o->h'.get? b=ga o)->i<vs.length->j<vs.length->C (lt i j) {s with heap:=h'}->pi (Tk prog w) A (keyLt' κ (vs.getD i .none) (vs.getD j .none)) C (λ_ _=>False) {s with heap:=h'})
  (h:P (.done (.ret .none)) {s with heap:=sortedHeap s.heap a vs (List.toArray ((uq lt vs.length).map λi=>vs.getD i Value.none))}):
  pi (Tk prog w) A (Builtin.«list.sort» ⟨[.ref a],[]⟩) P E s:=by
 rw[list_sort_plain];have hz:=dI;have ha:a<s.heap.objs.size:=dB ho;refine cW (listItems_at ho Z' ?_);refine cW (kG ho Z' ?_ (by rw[dz];lia) (eQ _));obtain⟨e1,Z0⟩:∃e1,(s.heap.update a (Obj.mapSeq λ_=>#[])).get? a=ga (wE "list" #[] e1):=⟨_,get?_update_seq ho (λ_=>#[])⟩;refine cW (lN Z0 Z' ?_);refine cW (wpAny_newTuple ?_ (by show vs.length<=_;lia));refine cW (wpAny_newList ?_ (eQ _));refine fh ?_;have ho6:(((s.heap.update a (Obj.mapSeq λ_=>#[])).push (wE "tuple" vs.toArray 0)).push (wE "list" #[] 0)).get? a=ga (wE "list" #[] e1):=by rw[iM _ _ _ (by rw[mj,iU];exact dP (gM ha)),iM _ _ _ (by rw[iU];exact dP ha)];exact Z0
 have keep:∀b o,b≠a->s.heap.get? b=ga o->(((s.heap.update a (Obj.mapSeq λ_=>#[])).push (wE "tuple" vs.toArray 0)).push (wE "list" #[] 0)).get? b=ga o:=λb o hb q=>by have Xn:b<s.heap.objs.size:=dB q;rw[iM _ _ _ (by rw[mj,iU];exact dP (gM Xn)),iM _ _ _ (by rw[iU];exact dP Xn),ji _ _ _ _ hb];exact q
 show pi (Tk prog w) A _ P E {s with heap:=((s.heap.update a (Obj.mapSeq λ_=>#[])).push (wE "tuple" vs.toArray 0)).push (wE "list" #[] 0)};dsimp only;have hsz:vs.toArray.size=vs.length:=by simp
 by_cases h2:vs.toArray.size<2
 .rw[de h2,de h2];refine cW (dv ?_);rw[StateT.run_pure];refine cW (dv ?_);dsimp only;refine cW (lN ho6 Z' ?_);have eo:(arrOf (SortSt.mk' general' (vs.toArray.zip vs.toArray) #[] 7 Fa)).map (·.2)=List.toArray ((uq lt vs.length).map λi=>vs.getD i Value.none):=by
   unfold uq;rw[de (by lia)];show((vs.toArray.zip vs.toArray).map (·.2))=_
   match vs,hsz,h2 with
   | [],_,_=>simp
   | [_],_,_=>simp[iA]
   | _::_::_,_,h2=>simp at h2;lia
  rw[eo];refine cW (kG ho6 Z' ?_ (eQ _) (by rw[dz,cV,(yF h3).1];lia));simp only[lG,k9,ku];exact dv h
 .rw[c9 h2,c9 h2];have g2:2<=vs.length:=by lia
  refine cW (eD (hk _ (λκ' s'=>κ'=κ/\s'={s with heap:=((s.heap.update a (Obj.mapSeq λ_=>#[])).push (wE "tuple" vs.toArray 0)).push (wE "list" #[] 0)}) (by lia) keep ⟨Z',Z'⟩) ?_ λ_ _ x=>x.elim)
  rintro κ' s' ⟨rfl,rfl⟩
  refine cW (eD (kat_run (ks:=vs) (vs:=vs) (Q:=λX1 s'=>∃p:Array Nat,arrOf X1=p.map (kas_item (vs.toArray.zip vs.toArray))/\failedOf X1=Fa/\p.toList=uq lt vs.length/\s'={s with heap:=((s.heap.update a (Obj.mapSeq λ_=>#[])).push (wE "tuple" vs.toArray 0)).push (wE "list" #[] 0)})
   (G:=λp s'=>p.toList=uq lt vs.length/\s'={s with heap:=((s.heap.update a (Obj.mapSeq λ_=>#[])).push (wE "tuple" vs.toArray 0)).push (wE "list" #[] 0)})
   rfl g2 (by lia) (λp' X1 s' a1 a2 a3 a4=>⟨p',a2,a3,a4⟩) (GA (n:=vs.length) (lt:=lt) (λi j C hi hj hC=>Xn _ i j C keep hi hj hC) _ (Ua g2 h3) ⟨by unfold uq;rw[c9 (by lia)],Z'⟩)) ?_ λ_ _ e=>e)
  rintro ⟨⟨⟩,X1⟩ s' ⟨p,har,hf,hp,rfl⟩
  dsimp only;have hout:=kat_snds Z' har;rw[hp]at hout;refine cW (lN ho6 Z' ?_);rw[hout];refine cW (kG ho6 Z' ?_ (eQ _) (by rw[dz,cV,(yF h3).1];lia));rw[hf];simp only[lG,k9,ku];exact dv h
noncomputable def Vo(a b:Str×Int):Bool:=if a.1==b.1 then(if a.2==b.2 then pc else decide (a.2<b.2))else decide (a.1.cps.toList<b.1.cps.toList)
def P'{x y:Uf}{ox oy:Obj}{n k:Nat}{a b:Str×Int}{t1 t2 t3 t4:Tok}{C:Bool->Sd->Prop}(hx:s.heap.get? x=ga ox)(dx:ox.data=.seq #[.str a.1 t1,.int a.2 t2] n)(hy:s.heap.get? y=ga oy)(dy:oy.data=.seq #[.str b.1 t3,.int b.2 t4] k)(h:C (Vo a b) s):
  pi (Tk prog w) A (keyLt' (tuples' Db) (.ref x) (.ref y)) C E s:=by
 refine kat_lt hx dx hy dy ?_;show KatLex prog w A Db _ C [(Value.str a.1 t1,Value.str b.1 t3),(Value.int a.2 t2,Value.int b.2 t4)] 0 s;unfold Vo at h;refine kat_cons (eqBool_str ?_);cases e:a.1==b.1 with
 | true=>
  rw[e,de Z']at h;refine kat_yes (kat_cons (lP ?_));cases e2:a.2==b.2 with
  | true=>rw[e2,de Z']at h;exact kat_yes (kat_nil h)
  | false=>rw[e2,c9 dw]at h;exact kat_no (kat_one _ _ (PyProof.Rows.lt_int h))
 | false=>rw[e,c9 dw]at h;exact kat_no (oneLt_str h)
def DX{x:Str}(h:Cr (.inr x) v=Db):∃t,v=.str x t:=by
 rcases sG h with⟨i,t,e,_⟩|⟨y,t,e,e2⟩
 .cases e
 .cases e;exact⟨t,e2⟩
noncomputable def EJ(ps:T0 (Str×Int))(i j:Nat):Bool:=Vo (ps.getD i ("",0)) (ps.getD j ("",0))
noncomputable def tX(ps:T0 (Str×Int)):T0 (Str×Int):=(uq (EJ ps) ps.length).map λi=>ps.getD i ("",0)
def Ec{ps:T0 (Str×Int)}(h:ps.length<=3):(tX ps).length=ps.length:=by unfold tX;rw[cV];exact(yF h).1
def Pr(h:No)(a:Uf)(p:Str×Int):Prop:=BQ λt1 t2=>h.get? a=ga {cls:=.type "tuple",data:=.seq #[.str p.1 t1,.int p.2 t2]}
def Pr.inj{p q:Str×Int}(x:Pr h a p)(y:Pr h a q):p=q:=by obtain⟨t1,t2,e1⟩:=x;obtain⟨u1,u2,e2⟩:=y;rw[e1]at e2;have:=dg e2;simp only[Obj.mk.injEq,Data.seq.injEq,Array.mk.injEq,List.cons.injEq,Value.str.injEq,Value.int.injEq]at this;exact mD (by simp_all) (by simp_all)
theorem JY:∀(as:QXQ) (ps:T0 (Str×Int)),as.length=ps.length->(∀(j:Nat) (a:Uf) (p:Str×Int),as[j]?=ga a->ps[j]?=ga p->Pr h a p)->∃fs,KatTups h (as.map Value.ref) fs/\fs.length=as.length/\∀v∈fs,∃x t,v=Value.str x t
 | [],[],_,_=>⟨[],.nil,Z',λv hv=>nomatch hv⟩
 | [],_::_,e,_=>by cases e
 | _::_,[],e,_=>by cases e
 | a::as,p::ps,e,hp=>by
  obtain⟨fs,h1,h2,h3⟩:=JY as ps (by simpa using e) λj a' p' e1 e2=>hp (j+1) a' p' (by simpa using e1) (by simpa using e2);obtain⟨t1,t2,ea⟩:=hp 0 a p Z' Z';refine⟨.str p.1 t1::fs,.cons ea Z' Z' Z' h1,by simp[h2],λv hv=>?_⟩;rcases dh.mp hv with z|z
  .exact⟨_,_,z⟩
  .exact h3 v z
def GD{r d:Uf}{kvs:T0 (rF×Vl)}{ep:Nat}{ps:T0 (Str×Int)}{Q:QQX}(hh:A.handled=Fa)(hv:s.heap.IsItemsView r d)(hm:s.heap.DictAt (rQ prog w) d kvs ep)(h3:ps.length<=3) (hp:kvs.length=ps.length) (hps:∀(j:Nat) (k:rF) (x:Vl),kvs[j]?=ga (k,x)->∃p t,ps[j]?=ga p/\k=Sum.inr p.1/\x=.int p.2 t) (h:∀(h':No) (tk:Nat) (S:Uf) (ws:QXQ) (e:Nat),(∀b o,s.heap.get? b=ga o->h'.get? b=ga o)->r<S->h'.get? S=ga (wE "list" (ws.map Value.ref).toArray e)->ws.length=ps.length->
    (∀(j:Nat) (a:Uf) (p:Str×Int),ws[j]?=ga a->(tX ps)[j]?=ga p->r<a/\a≠S/\Pr h' a p)->Q (.ref S) {s with heap:=h',toks:=tk}):
  pi (Tk prog w) A (call (.builtin "sorted") [.ref r]) Q E s:=by
 have hz:=dI;have hr:r<s.heap.objs.size:=by obtain⟨o,ho,_⟩:=hv;exact dB ho
 refine Calls.call_function_entry kind_sorted plain_sorted entry_sorted (args_sorted1 _) ?_;unfold Builtin.«sorted»;refine cW (m:=checkCount "sorted" 1 1 _) (dv ?_);refine cW (kdx_collect (A:=A.in1) hh hv hm (by lia) λh1 tk as hk hl hG=>?_);refine cW (wpAny_newList ?_ (by rw[cV];lia));have hl':as.length=ps.length:=by lia
 have pr:∀(j:Nat) (a:Uf) (p:Str×Int),as[j]?=ga a->ps[j]?=ga p->Pr h1 a p:=λj a p e1 e2=>by obtain⟨key,k,x,f1,f2,f3⟩:=hG.pairs j a e1;obtain⟨p',t,g1,g2,g3⟩:=hps j k x f1;rw[e2]at g1;cases g1;subst g2 g3;obtain⟨t',rfl⟩:=DX f2;exact⟨t',t,f3⟩
 have hoL:(h1.push (wE "list" (as.map Value.ref).toArray 0)).get? h1.objs.size=ga (wE "list" (as.map Value.ref).toArray 0):=dM _ Z';have pr2:∀h',(∀b o,b≠h1.objs.size->(h1.push (wE "list" (as.map Value.ref).toArray 0)).get? b=ga o->h'.get? b=ga o)->∀(j:Nat) (a:Uf) (p:Str×Int),as[j]?=ga a->ps[j]?=ga p->Pr h' a p:=λh' kp j a p e1 e2=>by obtain⟨t1,t2,e3⟩:=pr j a p e1 e2;exact⟨t1,t2,kp _ _ (dP (dB e3)) (df _ e3)⟩
 have gd:∀i,i<as.length->∃a p,as[i]?=ga a/\ps[i]?=ga p/\(as.map Value.ref).getD i Value.none=.ref a/\ps.getD i ("",0)=p:=λi hi=>by
  have X6:i<ps.length:=by lia
  refine⟨as[i],ps[i],cY hi,cY X6,?_,?_⟩
  .simp[hi]
  .simp[X6]
 have hll:(as.map Value.ref).length=ps.length:=by rw[cV];exact hl'
 show pi _ _ _ _ _ {s with heap:=h1.push (wE "list" (as.map Value.ref).toArray 0),toks:=tk};refine cW (fh (fZ slot_list_sort ⟨_,hoL,Z'⟩ entry_list_sort (DU (κ:=tuples' Db) (lt:=EJ ps) (s:={s with heap:=h1.push (wE "list" (as.map Value.ref).toArray 0),toks:=tk}) hoL (by rw[hll];exact h3) (λh' Q' Xx kp hq=>?_) (λh' i j C kp hi hj hC=>?_) ⟨_,Z',?_⟩) (args_list_sort _)))
 .obtain⟨fs,k1,k2,k3⟩:=JY as ps hl' (pr2 h' kp);refine kat_kind (T:=Value.type "str") k1 (by rw[k2];rw[cV]at Xx;exact Xx) (λv hv=>?_) (by decide) hq;obtain⟨x,t,rfl⟩:=k3 v hv;exact Looks.now
 .rw[cV]at hi hj;obtain⟨a,p,a1,a2,a3,a4⟩:=gd i hi;obtain⟨b,q,b1,b2,b3,b4⟩:=gd j hj;rw[a3,b3];obtain⟨t1,t2,e1⟩:=pr2 h' kp i a p a1 a2;obtain⟨t3,t4,e2⟩:=pr2 h' kp j b q b1 b2;refine P' (s:={s with heap:=h',toks:=tk}) e1 Z' e2 Z' ?_;show C (Vo p q) _;rw[<-a4,<-b4];exact hC
 .obtain⟨e,he⟩:=sortedHeap_at (h:=h1.push (wE "list" (as.map Value.ref).toArray 0)) (a:=h1.objs.size) (vs:=as.map Value.ref) (out:=List.toArray ((uq (EJ ps) (as.map Value.ref).length).map λi=>(as.map Value.ref).getD i Value.none)) hoL;have XD:∀b o,h1.get? b=ga o->(sortedHeap (h1.push (wE "list" (as.map Value.ref).toArray 0)) h1.objs.size (as.map Value.ref) (List.toArray ((uq (EJ ps) (as.map Value.ref).length).map λi=>(as.map Value.ref).getD i Value.none))).get? b=ga o:=λb o q=>by have hb:=dB q;rw[sortedHeap_old (dP hb) (by rw[mj];exact gM hb)];exact df _ q
  have ix:=yF (lt:=EJ ps) h3;have eo:((uq (EJ ps) (as.map Value.ref).length).map λi=>(as.map Value.ref).getD i Value.none)=((uq (EJ ps) ps.length).map λi=>as.getD i 0).map Value.ref:=by
   rw[hll,eh];refine gD λi hi=>?_;have:=ix.2 i hi;have Yz:i<as.length:=by lia
   simp[Yz]
  refine dv ⟨_,Z',h _ tk h1.objs.size ((uq (EJ ps) ps.length).map λi=>as.getD i 0) e (λb o q=>XD b o (hk b o q)) ?_ ?_ ?_ λj a p e1 e2=>?_⟩
  .obtain⟨o,ho,_⟩:=hv;exact dB (hk _ _ ho)
  .rw[he,eo]
  .rw[cV];exact ix.1
  .unfold tX at e2;rw[dC]at e1 e2;cases ei:(uq (EJ ps) ps.length)[j]? with
   | none=>rw[ei]at e1;cases e1
   | some i=>
    rw[ei]at e1 e2;have hi:=ix.2 i (fz ei);obtain⟨a',p',a1,a2,a3,a4⟩:=gd i (by lia);have ea:a=a':=by have:as.getD i 0=a:=dg e1;rw[<-this];simp[fS,a1]
    have ep:p=p':=by have:ps.getD i ("",0)=p:=dg e2;rw[<-this,a4]
    subst ea ep;have P1:=pr i a p a1 a2;obtain⟨t1,t2,e3⟩:=P1;exact⟨iD hr (hG.above a (fz a1)),dP (dB e3),t1,t2,XD _ _ e3⟩
def Inv.many{W7:QQY}{H H':Hp}{h':No}{t':Nat}(I:Inv X W7 Y H s)(k:∀b o,s.heap.get? b=ga o->h'.get? b=ga o)(hs:∀b,b<s.heap.objs.size->H' b=H b) (new:∀b o,s.heap.objs.size<=b->H' b=ga o->sR X.prog X.w H' h' b o):Inv X W7 Y H' {s with heap:=h',toks:=t'}:=by
 have sm:∀b o,H b=ga o->H' b=ga o:=λb o e=>by rw[hs b (I.mZ.lt e)];exact e
 refine I.step (g':=s.gens) (d':=s.drawn) (ch:=[]) (λb hb=>nomatch hb) (λb o _ _ _ e _=>k b o e) (λb o _ _ _ e _=>⟨o.slots,k b o e⟩) (λb o _ e n=>by rw[hs b (dB e)];exact n)
  (λb o _ e=>⟨o,k b o e⟩) (λb xs e=>sm b _ e) (λb o u e=>sm b _ e) (λb ps e=>⟨#[],by rw[sm b _ e];simp⟩) (λm hm=>?_) (λb u e=>?_) I.bare
 .obtain⟨o,es,ep,ho,r⟩:=hm;exact⟨o,es,ep,k _ o ho,r⟩
 .by_cases hb:b<s.heap.objs.size
  .rw[hs b hb]at e;exact(I.mZ b u e).nC (λc v _ q=>k c v q) (λc q=>sm c _ q) λc xs q=>sm c _ q
  .exact new b u (jK hb) e
def SX(te:TE):TE:=λY H Q=>te Y H λv H1=>∃a kvs ps,v=.ref a/\H1 a=ga (.dK kvs)/\kvs=(ps:T0 (Str×Int)).map (λp=>((Sum.inr p.1:rF),V.int p.2))/\ps.length<=3/\
 ∀(S:Uf) (H2:Hp) (ws:QXQ),H1 S=Fa->(∀b o,H1 b=ga o->H2 b=ga o)->H2 S=ga (.lst (ws.map V.ref))->ws.length=ps.length->(∀(j:Nat) (a:Uf) (p:Str×Int),ws[j]?=ga a->(tX ps)[j]?=ga p->H2 a=ga (.tup [.str p.1,.int p.2]))->
  (∀b o,H1 b=Fa->H2 b=ga o->b=S\/∃p:Str×Int,o=.tup [.str p.1,.int p.2])->Q (.ref S) H2
def KY:zn "sorted"=ga (.builtin "sorted"):=by decide+kernel
theorem Ji:∀{ps:T0 (Str×Int)} {vs:T0 (rF×Vl)},KV (ps.map (λp=>((Sum.inr p.1:rF),V.int p.2))) vs->vs.length=ps.length/\∀(j:Nat) (k:rF) (x:Vl),vs[j]?=ga (k,x)->∃p t,ps[j]?=ga p/\k=Sum.inr p.1/\x=.int p.2 t
 | [],_,.nil=>⟨Z',λj k x e=>by simp at e⟩
 | p::ps,_,.cons r rs=>by
  obtain⟨h1,h2⟩:=Ji rs;refine⟨by simp[h1],λj k x e=>?_⟩;cases j with
  | zero=>have e:=dg e;obtain⟨r1,t,r2⟩:=r;subst e;exact⟨p,t,Z',r1.symm,r2⟩
  | succ j=>exact h2 j k x e
def Fi{X:Cx}{te:TE}{p pos Xa Xf:Pos}(hc:X.calm=Db)(he:PE X o te)(hg:Gl X "sorted")(hm:X.mg "sorted"=Fa) (Xj:Rs o "items" X.env (wp o X.env)=wp o X.env:=by rfl) (Xq:(Xa.endLine==Xf.line)=Db:=by rfl):
  PE X (.Call (.Name "sorted" p) [.Call (.Attribute o "items" Xa) [] [] Xf] [] pos) (SX te):=by
 intro W7 s Y H Q I h;refine fX (xN I hg hm KY ?_);refine hJ ?_ Z' Z';show pi _ _ (spliced ((pc,wp (.Call (.Attribute o "items" Xa) [] [] Xf) X.env)::At pos (Tl [] X.env))) _ _ s;refine iC ?_;refine wpAny_Call_method0_late Xj Xq (tE (he W7 s Y H _ I h) λv s1 zz=>?_);obtain⟨x,H1,I1,r1,a,kvs,ps,ex,ea,ek,h3,q⟩:=zz;subst ex;obtain rfl:v=Value.ref a:=r1;obtain⟨h1,h2⟩:=MB (T:="dict") (x:=.ref a) I1 Z' (.inr (.inr (.inl ⟨Z',.inl ⟨_,ea⟩⟩)));refine⟨"dict","dict.items",PySem.F.plainAttrs_dict,jW,PySem.F.type_dict_items,h1,h2,j8 Z' (PySem.evalArgs_none ?_)⟩;obtain⟨hz,hS,vs,rk,hD⟩:=I1.mZ a _ ea;refine call_meetsIn jW h1 PySem.F.entry_dict_items (PySem.F.args_dict_items_1 _) (meets_dict_items (rQ X.prog X.w) a hS) ⟨⟨vs,hD⟩,?_⟩;refine iL ?_;obtain⟨ep,ZH⟩:=hD.dictAt;subst ek;obtain⟨g1,g2⟩:=Ji rk;refine GD (ps:=ps) (s:={s1 with heap:=s1.heap.push {cls:=.type "dict_items",data:=.fields #[.ref a]}}) (I1.ok.hd hc) ⟨_,dM _ Z',Z',Z'⟩ (ZH.push _) h3 g1 g2 λh' tk S ws e k hrS Z3 hl hw=>?_;have k':∀b o,s1.heap.get? b=ga o->h'.get? b=ga o:=λb o z=>k b o (df _ z);have Zp:(tX ps).length=ws.length:=by rw[Ec h3,hl]
 let H2:Hp:=λb=>if b=S then ga (.lst (ws.map V.ref))else match (ws.zip (tX ps)).lookup b with
  | some p=>ga (.tup [.str p.1,.int p.2])
  | none=>H1 b
 have at1:∀b p,(ws.zip (tX ps)).lookup b=ga p->s1.heap.objs.size<b/\b≠S/\Pr h' b p:=λb p z=>by
  have:(b,p)∈ws.zip (tX ps):=by
   have go:∀l:T0 (Uf×(Str×Int)),l.lookup b=ga p->(b,p)∈l:=λl=>by
    induction l with
    | nil=>intro z;cases z
    | cons c r ih=>
     intro z;rw[eK]at z;cases q:b==c.1 with
     | true=>
      rw[q]at z;have hb:b=c.1:=by simpa using q
      have:c=(b,p):=mD hb.symm (dg z);rw[this];exact dO
     | false=>rw[q]at z;exact dE _ (ih z)
   exact go _ z
  obtain⟨j,hj⟩:=List.mem_iff_getElem?.mp this;obtain⟨e1,e2⟩:=iz.mp hj;exact hw j b p e1 e2
 have lowS:s1.heap.objs.size<S:=hrS;have low:∀b,b<s1.heap.objs.size->H2 b=H1 b:=λb hb=>by
  show(if b=S then _ else _)=_;rw[c9 (dP (iD hb lowS))];cases z:(ws.zip (tX ps)).lookup b with
  | none=>rfl
  | some p=>exact absurd (at1 b p z).1 (Nat.not_lt_of_lt hb)
 have eS:H2 S=ga (.lst (ws.map V.ref)):=de Z';have fr:∀b,s1.heap.objs.size<=b->H1 b=Fa:=λb hb=>I1.mZ.fresh hb;have tupAt:∀(j:Nat) (b:Uf) (p:Str×Int),ws[j]?=ga b->(tX ps)[j]?=ga p->H2 b=ga (.tup [.str p.1,.int p.2]):=λj b p e1 e2=>by
  obtain⟨_,n2,n3⟩:=hw j b p e1 e2;show(if b=S then _ else _)=_;rw[c9 n2];have mem:(b,p)∈ws.zip (tX ps):=fz (iz.mpr ⟨e1,e2⟩);cases z:(ws.zip (tX ps)).lookup b with
  | none=>
   have go:∀l:T0 (Uf×(Str×Int)),(b,p)∈l->l.lookup b≠Fa:=λl=>by
    induction l with
    | nil=>intro z;cases z
    | cons c r ih=>
     intro z;rw[eK];cases q:b==c.1 with
     | true=>simp
     | false=>
      rcases dh.mp z with y|y
      .rw[<-y]at q;simp at q
      .exact ih y
   exact absurd z (go _ mem)
  | some p'=>rw[(at1 b p' z).2.2.inj n3]
 have ZI:∀b u,s1.heap.objs.size<=b->H2 b=ga u->sR X.prog X.w H2 h' b u/\(b=S\/∃p:Str×Int,u=.tup [.str p.1,.int p.2]):=λb u hb z=>by
  by_cases eb:b=S
  .subst eb;rw[eS]at z;cases z;refine⟨⟨by rw[cV,hl,dI];lia,ws.map Value.ref,e,?_,Z3⟩,.inl Z'⟩;have go:∀l:QXQ,qN (l.map V.ref) (l.map Value.ref):=λl=>by
    induction l with
    | nil=>exact .nil
    | cons c r ih=>exact .cons Z' ih
   exact go ws
  .have z':(match (ws.zip (tX ps)).lookup b with|some p=>ga (HO.tup [.str p.1,.int p.2])|none=>H1 b)=ga u:=by have:H2 b=_:=c9 eb;rw[this]at z;exact z
   cases y:(ws.zip (tX ps)).lookup b with
   | none=>rw[y,fr b hb]at z';cases z'
   | some p=>rw[y]at z';cases z';obtain⟨_,_,t1,t2,e3⟩:=at1 b p y;exact⟨⟨by show 2<=Ch;rw[dI];decide,[.str p.1 t1,.int p.2 t2],.cons ⟨_,Z'⟩ (.cons ⟨_,Z'⟩ .nil),⟨_,e3,Z',⟨_,Z'⟩,Z'⟩⟩,.inr ⟨p,Z'⟩⟩
 refine⟨.ref S,H2,I1.many (t':=tk) k' low λb u hb z=>(ZI b u hb z).1,Z',q S H2 ws (fr S (jE lowS)) (λb u z=>by rw[low b (I1.mZ.lt z)];exact z) eS hl tupAt λb u z1 z2=>?_⟩;by_cases hb:b<s1.heap.objs.size
 .rw[low b hb,z1]at z2;cases z2
 .exact(ZI b u (jK hb) z2).2
end L2
namespace L3
open L2
noncomputable def AR(p:Str×Int):D:=.tup [.str p.1,.int p.2]
def Ro(ta:T3):T3:=λU M Q=>ta U M λx M1=>match x with
 | .ref a=>∃ps:T0 (Str×Int),yW M1 a=ga (ps.map λp=>((Sum.inr p.1:rF),D.int p.2))/\ps.length<=3/\∀S,M1 S=Fa->Q (.ref S) (pQ M1 S (.lst ((tX ps).map AR)))
 | _=>False
theorem CN{K:qK}:∀{ps:T0 (Str×Int)} {vs:T0 (rF×V)},vs.map (·.1)=(ps.map λp=>((Sum.inr p.1:rF),D.int p.2)).map (·.1)->qz K H ((ps.map λp=>((Sum.inr p.1:rF),D.int p.2)).map (·.2)) (vs.map (·.2))->vs=ps.map (λp=>((Sum.inr p.1:rF),V.int p.2))
 | [],[],_,_=>rfl
 | [],_::_,e,_=>by cases e
 | _::_,[],e,_=>by cases e
 | p::ps,(k,v)::vs,e,h=>by obtain⟨x,r,e2,h1,h2⟩:=h.inv;obtain⟨e3,e4⟩:=gz e2;obtain⟨f1,f2⟩:=gz e;subst e3 e4;have hk:k=Sum.inr p.1:=f1;have hv:v=V.int p.2:=sD.int_inv h1;rw[CN f2 h2,hk,hv];rfl
def Fo{X:Cx}{p pos Xa Xf:Pos}(hc:X.calm=Db)(he:E3 X o ta)(hg:Gl X "sorted")(hm:X.mg "sorted"=Fa) (Xj:Rs o "items" X.env (wp o X.env)=wp o X.env:=by rfl) (Xq:(Xa.endLine==Xf.line)=Db:=by rfl):
  E3 X (.Call (.Name "sorted" p) [.Call (.Attribute o "items" Xa) [] [] Xf] [] pos) (Ro ta):=PE.mono (Fi hc he hg hm Xj Xq) λY H Q' zz=>x7 zz λU M Q hs hm ht k=>
 ⟨U,M,_,hs,hm,ht,λv H1 d M1 hd W9 e1 q1=>by
  cases d with
  | ref a=>
   cases hd.mS;obtain⟨ps,f1,f2,q⟩:=q1;obtain⟨vs,h1,h2,h3⟩:=zW W9 f1;refine⟨a,vs,ps,Z',h1,CN h2 h3,f2,λS H2 ws n1 kp eS hl hw hn=>?_⟩;have ex:rA X.K H1 H2:=⟨λb xs z=>by
    rcases z with(z|⟨u,z⟩)|z
    .exact .inl (.inl (kp _ _ z))
    .exact .inl (.inr ⟨u,kp _ _ z⟩)
    .exact .inr z,λb u xs z=>kp _ _ z⟩
   have hl2:(tX ps).length=ws.length:=by rw[Ec f2,hl]
   have hasW:∀(l:T0 (Str×Int)) (us:QXQ),l.length=us.length->(∀(j:Nat) (a:Uf) (p:Str×Int),us[j]?=ga a->l[j]?=ga p->H2 a=ga (.tup [.str p.1,.int p.2]))->qz X.K H2 (l.map AR) (us.map V.ref):=λl=>by
    induction l with
    | nil=>intro us e _;cases us with
     | nil=>exact .nil
     | cons _ _=>cases e
    | cons c r ih=>intro us e hu;cases us with
     | nil=>cases e
     | cons b us=>exact .cons (.tup (.of (hu 0 b c Z' Z')) (.cons .str (.cons .int .nil))) (ih us (by simpa using e) λj a p e1 e2=>hu (j+1) a p e1 e2)
   refine k _ _ _ _ .ref (λb c z=>?_) (e1.trans ex) (q S (W9.fresh n1));by_cases eb:b=S
   .subst eb;rw[qd]at z;cases z;exact⟨_,eS,hasW _ _ hl2 hw⟩
   .rw[tj eb]at z;have ok:=W9 b c z;obtain⟨u,eu,_⟩:=ok.there;exact ok.keep ex (by rw[eu,kp _ _ eu])
  | _=>exact q1.elim⟩
variable {X:Cx}{pos:Pos}{a b o i:Go}{ta tb ti to:T3}
def Va(to ti:T3):Eh:=λd U M Q=>to U M λx M1=>ti U M1 λy M2=>match x,y with
 | .ref p,.int k=>(om M2 p).elim False λes=>(Ht es.length k).elim False λj=>Q U (pQ M2 p (.lst (es.set j d)))
 | _,_=>False
theorem qz.set{K:qK}(hv:sD K H d v):∀{ds:T0 D} {xs:T0 V} (j:Nat),qz K H ds xs->qz K H (ds.set j d) (xs.set j v)
 | [],_,j,h=>by rw[h.nil_inv];simp only[List.set_nil];exact .nil
 | e::ds,_,0,h=>by obtain⟨x,r,rfl,h1,h2⟩:=h.inv;exact .cons hv h2
 | e::ds,_,j+1,h=>by obtain⟨x,r,rfl,h1,h2⟩:=h.inv;exact .cons h1 (qz.set hv j h2)
def R4(ho:E3 X o to)(hi:E3 X i ti) (ha:∀v,assign (.Subscript o i pos) X.env v=(do
   let ov<-xz [v] (wp o X.env);let iv<-xz [v,ov] (wp i X.env)
   Y' pos
   xz [v,ov,iv] (setItem ov iv v)
   release [v,ov,iv] []):=by intro _;rfl):G3 X (.Subscript o i pos) (Va to ti):=
 PG.mono (Ry ho hi Mz ha) λv Y H Q' ⟨d,U,M,Q,hd,hs,hm,ht,k⟩=>
 ⟨U,M,_,hs,hm,ht,λvx H1 x M1 hx W9 e1 q1=>⟨U,M1,_,hs.mono e1,W9,q1,λvy H2 y M2 hy Xr e2 q2=>by
  cases x with
  | ref p=>
   cases y with
   | int j0=>obtain⟨es,f1,q2⟩:=rD q2;obtain⟨j,f2,q2⟩:=rD q2;cases(hx.mono e2).mS;cases hy.int_inv;obtain⟨xs,h1,h2⟩:=BD Xr f1;refine⟨p,xs,j0,j,Z',Z',h1,by rw[<-h2.length];exact f2,?_⟩;have hd2:=hd.mono (e1.trans e2);obtain⟨X8,e3⟩:=Xr.put (o:=.lst (xs.set j v)) (c:=.lst (es.set j d)) (qx f1) λex=>⟨_,qy,(h2.mono ex).set (hd2.mono ex) j⟩;exact k Y _ U _ (hs.mono (e1.trans (e2.trans e3))) X8 (e1.trans (e2.trans e3)) Z' q2
   | _=>exact q2.elim
  | _=>exact q2.elim⟩⟩
end L3
namespace L2
variable {prog:Pg}{w:Wo}{A:Ar}{E:QQX}{s:Sd}{X:Cx}
end L2
namespace L3
open L2
variable {X:Cx}{pos Xa p:Pos}{a b o e i value:Go}{es:T0 Go}{ta tb ti to tv td tk:T3}{t:yt}
def S4(x y:D)(M:Mp)(Q:DK):Prop:=match x,y with
 | .ref a,.int k=>(om M a).elim False λes=>(0<=k/\k<=1000/\es.length<=1000)/\∀p,M p=Fa->Q (.ref p) (pQ M p (.lst (List.replicate k.toNat es).flatten))
 | _,_=>False
theorem JI{K:qK}(h:qz K H ds xs):∀n:Nat,qz K H (List.replicate n ds).flatten (List.replicate n xs).flatten
 | 0=>.nil
 | n+1=>by rw[eM,eM,fU,fU];exact h.append (JI h n)
def RT:yo X (IN .Mult) (R3 X.K S4):=λW7 s Y H vx vy v u Q' I rx ry h=>by
 obtain⟨x,y,M,Q,hx,hy,hm,q,k⟩:=h;unfold S4 at q;split at q
 .obtain⟨es,e1,⟨q1,q2,q3⟩,q⟩:=rD q;cases hx.mS;cases hy.int_inv;obtain⟨xs,h1,h2⟩:=BD hm e1;have hz:=dI;have hl:=h2.length;refine SZ W7 s Y H _ _ v u Q' I rx ry ⟨_,_,xs,Z',Z',h1,by lia,by lia,?_,λpp hp=>?_⟩
  .exact d9 (km (show xs.length<=1000 by lia) (show Int.toNat _<=1000 by lia)) (by rw[hz];decide)
  .exact k _ _ _ _ .ref (hm.new (c:=.lst _) hp ⟨_,qy,(JI h2 _).mono (.new hp)⟩) (.new hp) (q pp (hm.fresh hp))
 .exact q.elim
def TH(ta tb:T3):T3:=λU M Q=>ta U M λx M1=>tb U M1 λy M2=>S4 x y M2 Q
def CT(ha:E3 X a ta)(hb:E3 X b tb):E3 X (.BinOp a .Mult b pos) (TH ta tb):=PE.mono (Q1 RT ha hb) IU
noncomputable def Cu(kvs:T0 (rF×D))(k:rF)(v:D):T0 (rF×D):=if (kvs.any λkv=>decide (kv.1=k))=Db then kvs.map (λkv=>if kv.1=k then(kv.1,v)else kv)else kvs++[(k,v)]
theorem Gu{κ α β:Type}{k:κ}[DecidableEq κ]:∀{xs:T0 (κ×α)} {ys:T0 (κ×β)},xs.map (·.1)=ys.map (·.1)->(xs.any λkv=>decide (kv.1=k))=ys.any λkv=>decide (kv.1=k)
 | [],[],_=>rfl
 | [],_::_,e=>by cases e
 | _::_,[],e=>by cases e
 | x::xs,y::ys,e=>by obtain⟨e1,e2⟩:=gz e;rw[gm,gm,Gu e2];have e1:x.1=y.1:=e1;rw[e1]
def Kd{K:qK}{k:rF}(hv:sD K H d v){kvs:T0 (rF×D)}{vs:T0 (rF×V)}(h1:vs.map (·.1)=kvs.map (·.1))(h2:qz K H (kvs.map (·.2)) (vs.map (·.2))):
  (zj vs k v).map (·.1)=(Cu kvs k d).map (·.1)/\qz K H ((Cu kvs k d).map (·.2)) ((zj vs k v).map (·.2)):=by
 have go:∀{kvs:T0 (rF×D)} {vs:T0 (rF×V)},vs.map (·.1)=kvs.map (·.1)->qz K H (kvs.map (·.2)) (vs.map (·.2))->
   (vs.map (λkv=>if kv.1=k then(kv.1,v)else kv)).map (·.1)=(kvs.map (λkv=>if kv.1=k then(kv.1,d)else kv)).map (·.1)/\qz K H ((kvs.map (λkv=>if kv.1=k then(kv.1,d)else kv)).map (·.2)) ((vs.map (λkv=>if kv.1=k then(kv.1,v)else kv)).map (·.2)):=λ{kvs}=>by
  induction kvs with
  | nil=>intro vs e h;cases vs with
   | nil=>exact⟨Z',.nil⟩
   | cons _ _=>cases e
  | cons c r ih=>intro vs e h;cases vs with
   | nil=>cases e
   | cons w ws=>
    obtain⟨e1,e2⟩:=gz e;obtain⟨x,xr,e3,g1,g2⟩:=h.inv;obtain⟨e4,e5⟩:=gz e3;subst e4 e5;obtain⟨i1,i2⟩:=ih e2 g2;have e1:w.1=c.1:=e1;by_cases hk:c.1=k
    .have w1:(if w.1=k then(w.1,v)else w)=(w.1,v):=de (e1.trans hk);have w2:(if c.1=k then(c.1,d)else c)=(c.1,d):=de hk;simp only[dW,w1,w2];exact⟨by rw[i1,e1],.cons hv i2⟩
    .have w1:(if w.1=k then(w.1,v)else w)=w:=c9 λz=>hk (e1.symm.trans z);have w2:(if c.1=k then(c.1,d)else c)=c:=c9 hk;simp only[dW,w1,w2];exact⟨by rw[i1,e1],.cons g1 i2⟩
 unfold zj Cu;rw[Gu (k:=k) h1];by_cases hk:(kvs.any λkv=>decide (kv.1=k))=Db
 .rw[de hk,de hk];exact go h1 h2
 .rw[c9 hk,c9 hk];exact⟨by rw[dN,dN,h1];rfl,by rw[dN,dN];exact h2.append (.cons hv .nil)⟩
def U5(td tk tv:T3):xY:=λD U M=>tv U M λv M1=>td U M1 λx M2=>tk U M2 λy M3=>match x,y with
 | .ref a,.str k=>(yW M3 a).elim False λkvs=>kvs.length<Ch/\D.nx U (pQ M3 a (.dk (Cu kvs (.inr k) v)))
 | _,_=>False
def xt{a:Uf}{kvs:T0 (rF×D)}(h:yW M a=ga kvs):M a=ga (.dk kvs):=by
 unfold yW at h;split at h
 .rename_i e;rw[e];cases h;rfl
 .cases h
def QD(hu:X.A.units+9<W')(ho:E3 X o td)(hi:E3 X i tk)(hv:E3 X value tv)(hs:ZB value (ga (.Subscript o i Xl)) pos.line X.env=pure pc:=by rfl):S3 X (.Assign [.Subscript o i Xl] value pos) (U5 td tk tv):=
 PS.mono (Qp (by lia) ho hi hv hs) λD' Y H zz=>Lf zz λU M D hs hm ht k1 k2 k3 k4=>
 ⟨U,M,_,hs,hm,ht,λv H1 d M1 hd W9 e1 q1=>⟨U,M1,_,hs.mono e1,W9,q1,λvx H2 x M2 hx Xr e2 q2=>⟨U,M2,_,hs.mono (e1.trans e2),Xr,q2,λvy H3 y M3 hy X8 e3 q3=>by
  split at q3
  .rename_i a0 k0;obtain⟨kvs,f1,f2,q3⟩:=rD q3;cases(hx.mono e3).mS;cases hy.str_inv;obtain⟨vs,h1,h2,h3⟩:=zW X8 f1;have hl:vs.length=kvs.length:=by have:=eV List.length h2;simpa using this
   refine⟨_,_,Z',MM.k (k:=Sum.inr k0) h1 (by lia),?_⟩;have hd3:=hd.mono (e2.trans e3);obtain⟨hm4,e4⟩:=X8.put (o:=.dK (zj vs (Sum.inr k0) v)) (c:=.dk (Cu kvs (.inr k0) d)) (xt f1) λex=>by obtain⟨g1,g2⟩:=Kd (k:=Sum.inr k0) (hd3.mono ex) h2 (h3.mono ex);exact⟨_,qy,g1,g2⟩
   exact k1 Y _ U _ (hs.mono (e1.trans (e2.trans (e3.trans e4)))) hm4 (e1.trans (e2.trans (e3.trans e4))) Z' q3
  .exact q3.elim⟩⟩⟩
variable {W7:T0 (Uf × Obj)}{Y:St}{H:Hp}{s:Sd}{tp:Pos}{XI:T0 Go}{n:Nat}
end L3
namespace L2
open Builtin Builtin.Str
variable {prog:Pg}{w:Wo}{A:Ar}{E:QQX}{s:Sd}{X:Cx}
end L2
namespace L3
open L2 Builtin Builtin.Str
variable {X:Cx}{pos Xa:Pos}{o e:Go}{es:T0 Go}{ta:T3}{t:yt}
@[irreducible] def SsI (X:Cx) (st:T0 sB) (t:xY):Prop:=Hx X st t
@[irreducible] def SI (X:Cx) (st:sB) (t:xY):Prop:=S3 X st t
@[irreducible] def EI (X:Cx) (e:Go) (t:T3):Prop:=E3 X e t
@[irreducible] def AI (X:Cx) (es:T0 Go) (t:yt):Prop:=A3 X es t
variable {prog:Pg}{w:Wo}{A:Ar}{E:QQX}{s:Sd}{W7:T0 (Uf × Obj)}{Y:St}{H:Hp}{p tp:Pos}{XI:T0 Go}{n:Nat}
def qz.eraseIdx{K:qK}(k:Nat)(h:qz K H ds xs):qz K H (ds.eraseIdx k) (xs.eraseIdx k):=by rw[gw,gw];exact(h.take k).append (h.drop (k+1))
def RK(x:D)(ds:T0 D)(M:Mp)(Q:DK):Prop:=match x,ds with
 | .ref a,[.int i]=>0<=i/\(om M a).elim False λes=>(es[i.toNat]?).elim False λd=>Q d (pQ M a (.lst (es.eraseIdx i.toNat)))
 | _,_=>False
def RP:M3 X "list.pop" RK:=by
 intro W7 s Y H vx vs v us Q' I rx rv h;obtain⟨x,ds,M,Q,hx,hd,hm,q,k⟩:=h;unfold RK at q;split at q
 .rename_i a i;obtain⟨h0,q⟩:=q;obtain⟨es,e1,q⟩:=rD q;obtain⟨d,e2,q⟩:=rD q;obtain⟨w,rfl,hw⟩:=sN hd;cases hx.mS;cases hw.int_inv;obtain⟨xs,h1,h2⟩:=BD hm e1;obtain⟨y,e3,hy⟩:=h2.get e2;have lt:i.toNat<xs.length:=(cZ.mp e3).1;have hz:=dI;have hz2:xs.length<=Ch:=by obtain⟨z,its,n,r,hl,e⟩:=I.om h1;lia
  refine LU W7 s Y H _ _ v us Q' I rx rv ⟨_,xs,i,i.toNat,y,Z',Z',h1,by lia,by lia,?_,e3,?_⟩
  .unfold seqIndex?;simp;lia
  .obtain⟨Xr,ex⟩:=hm.put (c:=.lst (es.eraseIdx i.toNat)) (qx e1) λex=>⟨_,qy,(h2.mono ex).eraseIdx _⟩;exact k _ _ _ _ (hy.mono ex) Xr ex q
 .exact q.elim
def Kx(ho:E3 X o ta)(ha:A3 X (e::es) t)(Xj:Rs o "pop" X.env (wp o X.env)=wp o X.env:=by rfl)
  (X3:((At pos (Tl (e::es) X.env)).all (λx=>!x.1)&&(TD pos (Ps [] X.env)).all (λx=>x.1.isSome)&&decide ((e::es).length+([]:T0 TW).length+(if ([]:T0 TW).isEmpty then 0 else 1)<30))=Db:=by rfl)
  (Xq:(Xa.endLine==pos.line)=Db:=by rfl) (hs:Bm X e es:=by rfl) (Xm:Co X pos es:=by rfl):
  E3 X (.Call (.Attribute o "pop" Xa) (e::es) [] pos) (Vs RK ta t):=Nw PySem.F.slot_list_pop PySem.F.type_list_pop RP ho ha Xj X3 Xq hs Xm
theorem vQ{g:Eh}{tt:AV}{te:T3}{ok:Mp->Prop}{Q:DK}(all:T0 D)(J:T0 D->T0 D->we->Mp->Prop)(mZ:∀p acc U M,J p acc U M->ok M):∀(ds pre acc:T0 D) (U:we) (M:Mp),pre++ds=all->acc.length+ds.length<=Ch->J pre acc U M->
  (∀pre d post,pre++d::post=all->∀acc U M,J pre acc U M->∀(k:we->DK) (k2:we->Mp->Prop),(∀δ2 y M4,J (pre++[d]) (acc++[y]) δ2 M4->k δ2 y M4)->(∀δ2 M3,J (pre++[d]) acc δ2 M3->k2 δ2 M3)->g d U M λδ2 M2=>tt δ2 M2 λb M3=>if b=Db then te δ2 M3 (k δ2)else k2 δ2 M3)->
  (∀acc U M,J all acc U M->∀p,M p=Fa->Q (.ref p) (pQ M p (.lst acc)))->vJ g tt te ok Q ds acc U M
 | [],pre,acc,U,M,e,hl,j,_,hq=>⟨by simpa using hl,hq acc U M (by rw[<-e,eG];exact j)⟩
 | d::r,pre,acc,U,M,e,hl,j,ht,hq=>by rw[eA]at hl;refine⟨by lia,?_⟩;refine ht pre d r e acc U M j (λδ2 y M4=>ok M4/\vJ g tt te ok Q r (acc++[y]) δ2 M4) (λδ2 M3=>ok M3/\vJ g tt te ok Q r acc δ2 M3) (λδ2 y M4 j'=>⟨mZ _ _ _ _ j',vQ all J mZ r (pre++[d]) (acc++[y]) δ2 M4 (by rw[<-e,fg];rfl) ?_ j' ht hq⟩) λδ2 M3 j'=>⟨mZ _ _ _ _ j',vQ all J mZ r (pre++[d]) acc δ2 M3 (by rw[<-e,fg];rfl) (by lia) j' ht hq⟩;rw[cX,dH];lia
end L3
namespace L2
noncomputable def Cx.oj(X:Cx)(E:QQX):Cx:={X with xe:=E}
def Inv.oj{E:QQX}{W7:QQY}(I:Inv X W7 Y H s):Inv (X.oj E) W7 Y H s:=
 ⟨⟨I.ok.mod,I.ok.kind,I.ok.glob,I.ok.blt,I.ok.above,I.ok.inj,I.ok.has,I.ok.oE,I.ok.hd,I.ok.frames,I.ok.oR,I.ok.pA,I.ok.bs,I.ok.ou,I.ok.nY,I.ok.oh,I.ok.nH,I.ok.oB⟩,I.os,I.bare,I.base,I.loc,I.cell,I.free,I.nj,I.pin,I.mZ,I.len⟩
def Inv.xeOf{X:Cx}{E:QQX}{W7:QQY}(I:Inv (X.oj E) W7 Y H s):Inv X W7 Y H s:=
 ⟨⟨I.ok.mod,I.ok.kind,I.ok.glob,I.ok.blt,I.ok.above,I.ok.inj,I.ok.has,I.ok.oE,I.ok.hd,I.ok.frames,I.ok.oR,I.ok.pA,I.ok.bs,I.ok.ou,I.ok.nY,I.ok.oh,I.ok.nH,I.ok.oB⟩,I.os,I.bare,I.base,I.loc,I.cell,I.free,I.nj,I.pin,I.mZ,I.len⟩
end L2
namespace L3
open L2
end L3
namespace L2
end L2
namespace L3
open L2
variable {X:Cx}{pos p tp kpos:Pos}{XI:T0 Go}{n:Nat}
end L3
namespace L2
variable {prog:Pg}{w:Wo}{A:Ar}{E:QQX}{s:Sd}{a:Uf}{U:Type}{k:Str}{tk:Tok}
section
variable {R:U→Vl→Prop}{D:T0 (Str × U)}
end
end L2
namespace L3
open L2
variable {X:Cx}{pos p:Pos}{x:Str}{d:D}{e o i:Go}{ta tb td tk:T3}{F:T0 (Str × QQQ)}
end L3
namespace L2
def Lo(h:No)(e:Uf)(cls:Vl)(dx tb:Option Uf)(F:Vl):Prop:=
 ∃oe vs,h.get? e=ga oe/\oe.cls=cls/\oe.dict=dx/\oe.data=.fields vs/\1<vs.size/\vs[1]?=ga (tb.elim Value.none Value.ref)/\∀T,tb=ga T->T≠e/\∃oT ts,h.get? T=ga oT/\oT.data=.fields ts/\3<ts.size/\ts[3]?=ga F
def Qi(h:No)(e:Uf)(cls:Vl)(dx tb:Option Uf):Prop:=Lo h e cls dx tb Value.none
theorem CS{h base:No}:∀{l:T0 Env} {b:Uf},h.FunFrames base l->b∈wW l->∃o,h.get? b=ga o/\∀vs,o.data≠.fields vs
 | [],b,_,hb=>by cases hb
 | env::r,b,hF,hb=>by
  obtain⟨_,⟨L,o,hL,_,ho,hd⟩,hr⟩:=hF;have e:wW (env::r)=L::wW r:=by unfold wW;rw[gi,hL]
  rw[e]at hb;rcases dh.mp hb with z|z
  .rw[z];exact⟨o,ho,hd⟩
  .exact CS hr z
def EC{h base:No}{l:T0 Env}{b:Uf}{o:Obj}{vs:Array Vl}(hF:h.FunFrames base l)(ho:h.get? b=ga o)(hd:o.data=.fields vs):b∉wW l:=λhb=>by obtain⟨o',XQ,hn⟩:=CS hF hb;rw[ho]at XQ;cases XQ;exact hn vs hd
variable {M:Model}{A:Ar}{s:Sd}{base:No}{env:Env}{outer:T0 Env}{L e:Uf}{cls:Vl}{dx:Option Uf}{Q:Unit→Sd→Prop}
section
variable {E:QQX}
def Qd{Yu:Vl}{Zt:Bool}{oe:Obj}{vs:Array Vl}{XS:Env}(hcf:XS.frame=ga L)(Zd:A.frames=ga (env::outer))(hF:s.heap.FunFrames base (env::outer))(hL:env.frame=ga L)(ho:s.heap.get? e=ga oe)(hd:oe.data=.fields vs)(h1:1<vs.size) (k:∀(h':No) (T:Uf),s.heap.get? T=Fa->(∀b o,s.heap.get? b=ga o->b∉wW (env::outer)->b≠e->h'.get? b=ga o)->(∀b o,s.heap.get? b=ga o->b∈wW (env::outer)->∃sl,h'.get? b=ga {o with slots:=sl})->
   (∃oe',h'.get? e=ga oe'/\oe'.cls=oe.cls/\oe'.dict=oe.dict/\oe'.data=.fields (vs.setIfInBounds 1 (.ref T)))->(∃oT ts,h'.get? T=ga oT/\oT.data=.fields ts/\3<ts.size/\ts[3]?=ga (u8 ↑L))->Q () {s with heap:=h'}):
  pi M A (do
   let a<-PySem.frameOf XS;let pl<-entryPlaceOf L Zt;let b<-EntryCells.newEntry Yu a Value.none (u8 ↑L) Value.none pl
   setField (Value.ref e) 1 b) Q E s:=by
 have ne:=EC hF ho hd;unfold PySem.frameOf;refine cW (cW (wpAny_frameEnvs Zd (cW ?_)));have ed:List.dropWhile (λx=>x.frame != XS.frame) (env::outer)=env::outer:=by rw[List.dropWhile_cons,c9 (by rw[hL,hcf];simp)]
 rw[ed];unfold frameObject;refine cW (wpAny_readyFrames_fun hF λXT hs=>?_);obtain⟨z1,z2,z3⟩:=hs;rw[hL];refine dv (dv ?_);refine cW (wpAny_entryPlaceOf λpl hp=>?_);refine cW ?_;unfold EntryCells.newEntry newFields;have Xd:([Yu,Value.ref L,Value.none,u8 ↑L,Value.none]++if pl.isEmpty=Db then List.replicate 6 Value.none else pl).length=11:=by rw[cX];rcases hp with rfl|⟨_,_,_,_,_,_,_,rfl⟩<;>rfl
 have hfl:([Yu,Value.ref L,Value.none,u8 ↑L,Value.none]++if pl.isEmpty=Db then List.replicate 6 Value.none else pl)[3]?=ga (u8 ↑L):=rfl;generalize ([Yu,Value.ref L,Value.none,u8 ↑L,Value.none]++if pl.isEmpty=Db then List.replicate 6 Value.none else pl)=fs at Xd hfl ⊢;refine gc ?_ (by
  show fs.toArray.size<=_;rw[dz,Xd];decide)
 have e1:XT.get? e=ga oe:=by rw[z2 e ne];exact ho
 have e2:(XT.push {cls:=.type "traceback",data:=.fields fs.toArray}).get? e=ga oe:=df _ e1;refine ij e2 hd h1 ?_;have tn:s.heap.get? XT.objs.size=Fa:=gO (by rw[z1];exact dq _);have te:XT.objs.size≠e:=λz=>by rw[z,ho]at tn;cases tn
 obtain⟨oc,od,odt,X7⟩:=oe;obtain rfl:odt=.fields vs:=hd;have up:∀b,e≠b->((XT.push {cls:=.type "traceback",data:=.fields fs.toArray}).update e (Obj.mapFields λx=>x.setIfInBounds 1 (.ref XT.objs.size))).get? b=(XT.push {cls:=.type "traceback",data:=.fields fs.toArray}).get? b:=λb z=>gk _ _ z;refine k _ XT.objs.size tn (λb o hb nf ne'=>?_) (λb o hb hf=>?_) ⟨_,fN _ e2 Z',Z',Z',Z'⟩ ⟨_,fs.toArray,(up _ (dQ te)).trans (dM _ Z'),Z',by rw[dz,Xd];decide,by rw[iW];exact hfl⟩
 .rw[up b (dQ ne')];exact df _ (by rw[z2 b nf];exact hb)
 .obtain⟨sl,q⟩:=z3 b o hb;refine⟨sl,?_⟩;rw[up b (λz=>ne (z ▸ hf))];exact df _ q
def Rn{E₁:QQX}{tb:Option Uf}{F:Vl}{XS:Env}(hcf:XS.frame=ga L)(Zd:A.frames=ga (env::outer))(hF:s.heap.FunFrames base (env::outer))(hL:env.frame=ga L)(hx:Lo s.heap e cls dx tb F)(hFL:(F==u8 ↑L)=pc) (k:∀(h':No) (T:Uf),s.heap.get? T=Fa->(∀b o,s.heap.get? b=ga o->b∉wW (env::outer)->b≠e->tb≠ga b->h'.get? b=ga o)->(∀b o,s.heap.get? b=ga o->b∈wW (env::outer)->∃sl,h'.get? b=ga {o with slots:=sl})->
   (∀b,h'.get? b=Fa->s.heap.get? b=Fa)->Lo h' e cls dx (ga T) (u8 ↑L)->Q () {s with heap:=h'}):pi M A (noteFrame (.ref e) XS) Q E₁ s:=by
 obtain⟨oe,vs,ho,hc,ZJ,hd,h1,hv,hT⟩:=hx;have ne:=EC hF ho hd;unfold noteFrame;rw[hcf];refine cW (fu ho hd hv ?_);have Xc:∀(s1:Sd) (oe1:Obj),s1.gens=s.gens->s1.drawn=s.drawn->s1.toks=s.toks->s1.os=s.os->s1.heap.FunFrames base (env::outer)->s1.heap.get? e=ga oe1->oe1.cls=cls->oe1.dict=dx->oe1.data=.fields vs->(∀b o,s.heap.get? b=ga o->b∉wW (env::outer)->b≠e->tb≠ga b->s1.heap.get? b=ga o)->
   (∀b o,s.heap.get? b=ga o->b∈wW (env::outer)->s1.heap.get? b=ga o)->(∀b,s1.heap.get? b=Fa↔s.heap.get? b=Fa)->∀(Yu:Vl) (Zt:Bool),pi M A (do
   let a<-PySem.frameOf XS;let pl<-entryPlaceOf L Zt;let b<-EntryCells.newEntry Yu a Value.none (u8 ↑L) Value.none pl
   setField (Value.ref e) 1 b) Q E₁ s1:=by
  intro s1 oe1 g1 g2 g3 g4 hF1 Z0 hc1 hdx1 hd1 kb kf kn Yu Zt;refine Qd hcf Zd hF1 hL Z0 hd1 h1 λh' T tn k1 k2 ⟨oe',he',Z9,hdxe,hde⟩ ⟨oT,ts,Yn,YR,h3,h3v⟩=>?_;have te:T≠e:=λz=>by rw[z,Z0]at tn;cases tn
  have:=k h' T ((kn T).mp tn) (λb o hb nf nb nt=>k1 b o (kb b o hb nf nb nt) nf nb) (λb o hb hf=>k2 b o (kf b o hb hf) hf) (λb hb=>?_) ⟨oe',vs.setIfInBounds 1 (.ref T),he',Z9.trans hc1,hdxe.trans hdx1,hde,by rw[jQ];exact h1,by rw[iq h1];rfl,λT' eT=>?_⟩
  .show Q () {heap:=_,gens:=s1.gens,drawn:=s1.drawn,toks:=s1.toks,os:=s1.os};rw[g1,g2,g3,g4];exact this
  .refine(kn b).mp ?_;cases q:s1.heap.get? b with
   | none=>rfl
   | some o=>
    by_cases z:b=e
    .rw[z,he']at hb;cases hb
    .by_cases zf:b∈wW (env::outer)
     .obtain⟨sl,q2⟩:=k2 b o q zf;rw[q2]at hb;cases hb
     .rw[k1 b o q zf z]at hb;cases hb
  .cases eT;exact⟨te,oT,ts,Yn,YR,h3,h3v⟩
 cases tb with
 | none=>rw[c9 (show ¬((Fa:Option Uf).elim Value.none Value.ref != Value.none)=Db by decide+kernel)];exact Xc s oe Z' Z' Z' Z' hF ho hc ZJ hd (λb o hb _ _ _=>hb) (λb o hb _=>hb) (λb=>.rfl) _ _
 | some T=>
  obtain⟨nTe,oT,ts,Yn,YR,h3,hn⟩:=hT T Z';rw[de (show((ga T:Option Uf).elim Value.none Value.ref != Value.none)=Db by rfl)];refine cW (fu Yn YR hn ?_);rw[c9 (by rw[hFL];exact dw)];refine cW (ij Yn YR h3 ?_);have up:∀b,T≠b->(s.heap.update T (Obj.mapFields λx=>x.setIfInBounds 3 .none)).get? b=s.heap.get? b:=λb z=>gk _ _ z;have nf:∀b o,s.heap.get? b=ga o->(∀vs,o.data≠.fields vs)->T≠b:=λb o hb hn z=>by rw[<-z,Yn]at hb;cases hb;exact hn ts YR
  have sz:∀b,(s.heap.update T (Obj.mapFields λx=>x.setIfInBounds 3 .none)).get? b=Fa↔s.heap.get? b=Fa:=λb=>by
   by_cases z:T=b
   .rw[<-z];obtain⟨oc,od,odt,X7⟩:=oT;obtain rfl:odt=.fields ts:=YR;rw[fN _ Yn Z',Yn];exact⟨(λq=>by cases q),(λq=>by cases q)⟩
   .rw[up b z]
  exact Xc {s with heap:=s.heap.update T (Obj.mapFields λx=>x.setIfInBounds 3 .none)} oe Z' Z' Z' Z' (mJ (λb o hb hn=>⟨o,(up b (nf b o hb hn)).trans hb,Z'⟩) hF) ((up e nTe).trans ho) hc ZJ hd
   (λb o hb _ _ nt=>(up b λz=>nt (by rw[z])).trans hb) (λb o hb hf=>by
    obtain⟨o',XQ,hn⟩:=CS hF hf;rw[hb]at XQ;cases XQ;exact(up b (nf b o hb hn)).trans hb) sz _ _
def MZ{T:Uf}{F:Vl}(x:Option Uf)(hx:Lo s.heap e cls dx (ga T) F)(k:∀h':No,(∀b,T≠b->h'.get? b=s.heap.get? b)->(∀b,h'.get? b=Fa↔s.heap.get? b=Fa)->Lo h' e cls dx (ga T) (x.elim .none λf=>u8 f)->Q () {s with heap:=h'}):pi M A (setFlight (.ref e) x) Q E s:=by
 obtain⟨oe,vs,ho,hc,ZJ,hd,h1,hv,hT⟩:=hx;obtain⟨nTe,oT,ts,Yn,YR,h3,hn⟩:=hT T Z';unfold setFlight;refine cW (fu ho hd hv ?_);rw[de (by rfl)];refine ij Yn YR h3 ?_;obtain⟨oc,od,odt,X7⟩:=oT;obtain rfl:odt=.fields ts:=YR;have up:∀b,T≠b->(s.heap.update T (Obj.mapFields λy=>y.setIfInBounds 3 (x.elim .none λf=>u8 f))).get? b=s.heap.get? b:=λb z=>gk _ _ z;refine k _ up (λb=>?_) ⟨oe,vs,(up e nTe).trans ho,hc,ZJ,hd,h1,hv,λT' eT=>?_⟩
 .by_cases z:T=b
  .rw[<-z,fN _ Yn Z',Yn];exact⟨(λq=>by cases q),(λq=>by cases q)⟩
  .rw[up b z]
 .cases eT;exact⟨nTe,_,ts.setIfInBounds 3 (x.elim .none λf=>u8 f),fN _ Yn Z',Z',by rw[jQ];exact h3,by rw[iq h3]⟩
def JR{E₁ E₂:QQX}{tb:Option Uf}(Zd:A.frames=ga (env::outer))(hF:s.heap.FunFrames base (env::outer))(hL:env.frame=ga L)(hx:Qi s.heap e cls dx tb) (k:∀(h':No) (T:Uf),s.heap.get? T=Fa->(∀b o,s.heap.get? b=ga o->b∉wW (env::outer)->b≠e->tb≠ga b->h'.get? b=ga o)->(∀b o,s.heap.get? b=ga o->b∈wW (env::outer)->∃sl,h'.get? b=ga {o with slots:=sl})->
   Qi h' e cls dx (ga T)->Q () {s with heap:=h'}):pi M A (noteFrame (.ref e) env) (λ_ s₂=>pi M A (setFlight (.ref e) Fa) Q E₂ s₂) E₁ s:=by
 refine Rn hL Zd hF hL hx (dG.mpr λz=>by have:=ft.mp z;cases this) λh' T tn k1 k2 _ x'=>?_;refine MZ Fa x' λh2 up _ x2=>k h2 T tn (λb o hb nf nb nt=>?_) (λb o hb hf=>?_) x2
 .have tb:T≠b:=λz=>by rw[z,hb]at tn;cases tn
  exact(up b tb).trans (k1 b o hb nf nb nt)
 .have tb:T≠b:=λz=>by rw[z,hb]at tn;cases tn
  obtain⟨sl,q⟩:=k2 b o hb hf;exact⟨sl,(up b tb).trans q⟩
def Qo{tb:Option Uf}(Zd:A.frames=ga (env::outer))(hF:s.heap.FunFrames base (env::outer))(hL:env.frame=ga L)(hx:Qi s.heap e cls dx tb) (k:∀(h':No) (T:Uf),s.heap.get? T=Fa->(∀b o,s.heap.get? b=ga o->b∉wW (env::outer)->b≠e->tb≠ga b->h'.get? b=ga o)->(∀b o,s.heap.get? b=ga o->b∈wW (env::outer)->∃sl,h'.get? b=ga {o with slots:=sl})->
   Qi h' e cls dx (ga T)->Q () {s with heap:=h'}):pi M A (leaving env (.ref e)) Q E s:=cW (JR Zd hF hL hx k)
end
def Cq(P:Pg)(w:Wo):Lg:=λouter H s E ev s'=>Hw λe C dx H' tb=>ev=.ref e/\E (.ref C) dx H'/\s'.os=s.os/\XXi s'.gens/\Un (wW outer) [] H H' s.heap s'.heap/\yO P w H' s'.heap/\
 Qi s'.heap e (.ref C) dx (ga tb)/\s.heap.get? e=Fa/\s.heap.get? tb=Fa/\H' e=Fa/\H' tb=Fa
def yI{o:HO}(x:sR P w H h a o):∃ob,h.get? a=ga ob:=by
 cases o with
 | lst xs=>obtain⟨_,_,_,_,e⟩:=x;exact⟨_,e⟩
 | tup xs=>obtain⟨_,_,_,o,e,_⟩:=x;exact⟨_,e⟩
 | dK kvs=>obtain⟨_,_,_,_,o,_,_,e,_⟩:=x;exact⟨_,e⟩
 | dT kvs=>obtain⟨_,_,_,_,o,_,_,e,_⟩:=x;exact⟨_,e⟩
 | set S n=>obtain⟨o,_,_,_,e,_⟩:=x;exact⟨_,e⟩
 | ins C dx fs=>obtain⟨_,_,_,e,_⟩:=x;exact⟨_,e⟩
 | own y=>exact x
 | xd fs=>obtain⟨_,⟨_,_,_,e,_⟩,_⟩:=x;exact⟨_,e⟩
 | rng lo hi=>obtain⟨_,_,_,e⟩:=x;exact⟨_,e⟩
 | frz ob u=>obtain⟨e,_⟩:=x;exact⟨_,e⟩
 | tbl ps=>exact⟨_,x⟩
 | met f y=>exact⟨_,x⟩
 | ext φ=>obtain⟨_,e,_⟩:=x;exact e
def zA{T:Uf}(mZ:yO P w H h)(tn:h.get? T=Fa):H T=Fa:=by
 cases z:H T with
 | none=>rfl
 | some o=>obtain⟨ob,hob⟩:=yI (mZ T o z);rw[hob]at tn;cases tn
variable {P:Pg}{w:Wo}{K:qK}{mg:QQZ}{N:QQQ}{qual:Str}{scope:XXa}{f:Uf}{cd:Vl}{s0:Sd}{H0:Hp}
section
variable {E:XK}
def Hn(u:Un fs ex H H' h h')(hex:ex=[]){b:Uf}(hb:h'.get? b=Fa):h.get? b=Fa:=by
 cases q:h.get? b with
 | none=>rfl
 | some o=>obtain⟨o',e⟩:=u.there b o q (by rw[hex];simp);rw[e]at hb;cases hb
def NB{W7:QQY}{e C T:Uf}{tb dx:Option Uf}{h':No}(I:Inv (vR (Cq P w) P w K mg base N qual scope f cd A outer s0 H0 E) W7 Y H s)(he:s0.heap.get? e=Fa)(XD:∀T,tb=ga T->s0.heap.get? T=Fa/\H T=Fa)(hn:H e=Fa)(q:E (.ref C) dx H)(hT:s0.heap.get? T=Fa/\H T=Fa) (k1:∀b o,s.heap.get? b=ga o->b∉wW (sK qual scope s0.heap.objs.size f cd::outer)->b≠e->tb≠ga b->h'.get? b=ga o) (k2:∀b o,s.heap.get? b=ga o->b∈wW (sK qual scope s0.heap.objs.size f cd::outer)->∃sl,h'.get? b=ga {o with slots:=sl}) (x':Qi h' e (.ref C) dx (ga T)):
  Cq P w outer H0 s0 E (.ref e) {s with heap:=h'}:=by
 have XW:=I.nO;have Xo:∀b o,H b=ga o->∀u,s.heap.get? b=ga u->h'.get? b=ga u:=λb o hb u hu=>k1 b u hu (λz=>by rw[XW b z]at hb;cases hb) (λz=>by rw[z,hn]at hb;cases hb) (λz=>by rw[(XD b z).2]at hb;cases hb);have oldf:∀b o,s0.heap.get? b=ga o->b∉wW [sK qual scope s0.heap.objs.size f cd]:=λb o hb z=>by
  have:b=s0.heap.objs.size:=by have hz:b∈[s0.heap.objs.size]:=z;exact dA.mp hz
  rw[this]at hb;exact absurd (dB hb) (fk _)
 have fr:∀b,b∈wW (sK qual scope s0.heap.objs.size f cd::outer)->b∈wW [sK qual scope s0.heap.objs.size f cd]\/b∈wW outer:=λb hb=>by
  have hb:b∈s0.heap.objs.size::wW outer:=hb;rcases dh.mp hb with z|z
  .exact .inl (by rw[z];exact dO)
  .exact .inr z
 have Xz:Un (wW outer) [] H0 H s0.heap s.heap:=I.base;refine⟨e,C,dx,H,T,Z',q,I.os,I.bare,⟨λb o hb h0 nf ne=>?_,λb o hb h0 hf ne=>?_,Xz.free,λb o hb ne=>?_,Xz.nM,Xz.nK,Xz.nQ⟩,λb o hb=>?_,x',he,hT.1,hn,hT.2⟩
 .have hs:=Xz.keep b o hb h0 nf ne;refine k1 b o hs (λz=>?_) (λz=>by rw[z,he]at hb;cases hb) λz=>by rw[(XD b z).1]at hb;cases hb
  rcases fr b z with z|z
  .exact oldf b o hb z
  .exact nf z
 .obtain⟨sl,hs⟩:=Xz.slot b o hb h0 hf ne;have:b∈wW (sK qual scope s0.heap.objs.size f cd::outer):=dE _ hf;obtain⟨YD,h2⟩:=k2 b _ hs this;exact⟨YD,h2⟩
 .obtain⟨o',hs⟩:=Xz.there b o hb ne;by_cases z:b∈wW (sK qual scope s0.heap.objs.size f cd::outer)
  .obtain⟨sl,h2⟩:=k2 b o' hs z;exact⟨_,h2⟩
  .exact⟨o',k1 b o' hs z (λz=>by rw[z,he]at hb;cases hb) λz=>by rw[(XD b z).1]at hb;cases hb⟩
 .refine(I.mZ b o hb).nC (λb' u X5 hu=>?_) (λ_ q=>q) λ_ _ q=>q;rcases X5 with z|z
  .subst z;exact Xo b' o hb u hu
  .exact Xo b' _ z u hu
def U8{W7:QQY}{e C:Uf}{tb dx:Option Uf}(I:Inv (vR (Cq P w) P w K mg base N qual scope f cd A outer s0 H0 E) W7 Y H s)(hx:Qi s.heap e (.ref C) dx tb)(he:s0.heap.get? e=Fa)(hT:∀T,tb=ga T->s0.heap.get? T=Fa/\H T=Fa)(hn:H e=Fa)(q:E (.ref C) dx H):
  (vR (Cq P w) P w K mg base N qual scope f cd A outer s0 H0 E).xe (.ref e) s:=
 Qo (base:=base) (outer:=outer) I.ok.frames I.stack Z' hx λh' T tn k1 k2 x'=>NB I he hT hn q ⟨Hn (show Un (wW outer) [] H0 H s0.heap s.heap from I.base) Z' tn,zA I.mZ tn⟩ k1 k2 x'
end
section
variable {E:XK}
end
def OV(d:Uf)(f:Str)(v:V)(h:No):Prop:=∃u,h.Ns1 d (λy=>if y=f then ga u else Fa)/\rh v u
end L2
namespace L3
open L2
abbrev XR:=Uf->Option (Str×D)->Mp->Prop
abbrev GK:=T0 D->Mp->DK->XR->Prop
def Ug(K:qK)(H:Hp)(dx:Option Uf)(y:Option (Str×D)):Prop:=(dx=Fa/\y=Fa)\/CO λd f z v=>dx=ga d/\y=ga (f,z)/\H d=ga (.ext (OV d f v))/\sD K H z v
def TL(K:qK)(R:XR)(E:XK):Prop:=∀C dx H M y,HM K H M->Ug K H dx y->R C y M->E (.ref C) dx H
def VB(K:qK)(sp:GK):Sp:=λvs H Q' E=>CO λds M Q R=>qz K H ds vs/\HM K H M/\sp ds M Q R/\Up K H Q' Q/\TL K R E
abbrev Sm(P:Pg)(w:Wo)(K:qK)(mg:QQZ)(base:No)(k:Nat)(f:Uf)(fd:wv)(ps:QQQ)(sp:GK):Prop:=xU P w K mg base (Cq P w) k f fd ps (VB K sp)
variable {X:Cx}{x:Str}{p pos np Xf:Pos}{e:Go}{es:T0 Go}{t:yt}{k:Nat}{f C:Uf}{fd:wv}{ps:QQQ}{sp:GK}{R:XR}{E:XK}{P:Pg}{w:Wo}{K:qK}{mg:QQZ}{base:No}{N:QQQ}{qual:Str}{scope:XXa}{cd:Vl}{A:Ar}{outer:T0 Env}{s0:Sd}{H0:Hp}{ta:yt}
def US{st:sB}{sp:GK}(F:PB K x qual st f fd)(S:tQ N ps (qw st))(len:∀ds M Q R,sp ds M Q R->ds.length=ps.length) (Xu:∀(Xi:Vl) (A:Ar) (outer:T0 Env) (s:Sd) (H:Hp) (E:XK) (R:XR),sQ k (A.deeper (sK qual (qw st) s.heap.objs.size f Xi))->TL K R E->
   ∃t,Hx (vR (Cq P w) P w K mg base N qual (qw st) f Xi A outer s H E) (sE st) t/\∀ds M Q,sp ds M Q R->t {nx:=λ_ M'=>∃Xb,qO Xb M'/\Q .mW Xb,rt:=λd M'=>∃Xb,qO Xb M'/\Q d Xb} (xD N ds) M):Sm P w K mg base (k+1) f fd ps sp:=by
 obtain⟨oc,od,kV,XM,pm,an,Xi,ct,X7,rfl,lk,Yp⟩:=F.ex;refine LH lk Yp S (λvs H Q E h=>?_) λA outer s H vs Q' E hr h=>?_
 .obtain⟨ds,M,Q,R,hd,_,hs,_⟩:=h;rw[<-hd.length];exact len ds M Q R hs
 .obtain⟨ds,M,Q,R,hd,hm,hs,k,hR⟩:=h;obtain⟨t,ht,hb⟩:=Xu Xi A outer s H E R hr hR;exact⟨_,ht,xD N ds,M,_,ED hd,hm,hb ds M Q hs,λσ' H' δ' M' _ x2 x3 _ ⟨Xb,y1,y2⟩=>k .mW H' .mW Xb .mW (x2.sub y1) x3 y2,λv H' d M' x1 x2 x3 ⟨Xb,y1,y2⟩=>k v H' d Xb x1 (x2.sub y1) x3 y2,λ_ _ _ _ _ _ _ _ z=>z,λ_ _ _ _ _ _ _ _ z=>z⟩
end L3
namespace L2
def TKept(H H':Hp):Prop:=(∀b xs,H b=ga (.tup xs)->H' b=ga (.tup xs))/\∀b o u,H b=ga (.frz o u)->H' b=ga (.frz o u)
def Wc(X:Cx)(W7:QQY)(Y:St)(J:Hp->Prop)(E:XK)(ev:Vl)(s':Sd):Prop:=BQ λH s=>J H/\Inv X W7 Y H s/\Cq X.prog X.w X.stack H s E ev s'
def U7(X:Cx)(W7:QQY)(Y:St)(J:Hp->Prop)(E:XK)(ev:Vl)(s':Sd):Prop:=Tv λa C dx H' tb H1 s1=>ev=.ref a/\E (.ref C) dx H'/\Inv X W7 Y H' s'/\Qi s'.heap a (.ref C) dx (ga tb)/\H' a=Fa/\H' tb=Fa/\J H1/\TKept H1 H'/\Inv X W7 Y H1 s1/\s1.heap.get? a=Fa
def RY{M:Model}{E₁ E₂:QQX}{W7:QQY}{E:XK}{outer:T0 Env}{L:Uf}(h:Wc X W7 Y J E ev s')(Xv:X.stack=X.env::outer)(hL:X.env.frame=ga L):
  pi M X.A (noteFrame ev X.env) (λ_ s₂=>pi M X.A (setFlight ev Fa) (λ_ s₃=>U7 X W7 Y J E ev s₃) E₂ s₂) E₁ s':=by
 obtain⟨H,s,jH,I,e,C,dx,H',tb,rfl,q,os,bare,un,mZ,x,he,ht,ne,nt⟩:=h;obtain⟨hh,g,d,t,os'⟩:=s';obtain rfl:os'=s.os:=os;have I':=I.call (h':=hh) (g':=g) (d':=d) (t':=t) (ch:=[]) un mZ bare (λb z=>absurd z (by simp));have hF:=I'.stack;have XW:=I'.nO;have Zd:=I.ok.frames;rw[Xv]at hF Zd;refine JR (base:=X.base) (outer:=outer) Zd hF hL x λh' T tn k1 k2 x'=>?_;have Xo:∀b o,H' b=ga o->∀u,hh.get? b=ga u->h'.get? b=ga u:=λb o hb u hu=>k1 b u hu (λz=>by rw[XW b (by rw[Xv];exact z)]at hb;cases hb) (λz=>by rw[z,ne]at hb;cases hb) (λz=>by cases z;rw[nt]at hb;cases hb);have un':Un (wW X.stack) [] H H' s.heap h':=by
  refine⟨λb o hb h0 nf nx=>?_,λb o hb h0 hf nx=>?_,un.free,λb o hb nx=>?_,un.nM,un.nK,un.nQ⟩
  .exact k1 b o (un.keep b o hb h0 nf nx) (λz=>nf (by rw[Xv];exact z)) (λz=>by rw[z,he]at hb;cases hb) λz=>by cases z;rw[ht]at hb;cases hb
  .obtain⟨sl,hs⟩:=un.slot b o hb h0 hf nx;obtain⟨YD,h2⟩:=k2 b _ hs (by rw[<-Xv];exact hf);exact⟨YD,h2⟩
  .obtain⟨o',hs⟩:=un.there b o hb nx;by_cases z:b∈wW (X.env::outer)
   .obtain⟨sl,h2⟩:=k2 b o' hs z;exact⟨_,h2⟩
   .exact⟨o',k1 b o' hs z (λz=>by rw[z,he]at hb;cases hb) λz=>by cases z;rw[ht]at hb;cases hb⟩
 have ZZ:yO X.prog X.w H' h':=λb o hb=>(mZ b o hb).nC (λb' u X5 hu=>by
  rcases X5 with z|z
  .subst z;exact Xo b' o hb u hu
  .exact Xo b' _ z u hu) (λ_ q=>q) λ_ _ q=>q
 have I3:Inv X W7 Y H' {heap:=h',gens:=g,drawn:=d,toks:=t,os:=s.os}:=Inv.call (s:=s) (ch:=[]) I un' ZZ bare (λb z=>absurd z (by simp));refine⟨e,C,dx,H',T,H,s,Z',q,I3,x',ne,?_,jH,⟨un.nM,un.nK⟩,I,he⟩;cases z:H' T with
 | none=>rfl
 | some o=>obtain⟨ob,hob⟩:=yI (mZ T o z);have tn:hh.get? T=Fa:=tn;rw[hob]at tn;cases tn
variable {X:Cx}{W7:T0 (Uf × Obj)}{Y σ':St}{H H1:Hp}{s s1:Sd}{ev:Vl}{E':QQX}{a:Uf}
def Inv.adopt{o:HO}(I:Inv X W7 Y H s)(I1:Inv X W7 σ' H1 s1)(n1:s1.heap.get? a=Fa)(hn:H a=Fa)(ok:sR X.prog X.w (upd H a o) s.heap a o):Inv X W7 Y (upd H a o) s:=by
 have ne:∀b ob,s1.heap.get? b=ga ob->b≠a:=λb ob e z=>by rw[z,n1]at e;cases e
 have nh:∀b ob,H b=ga ob->b≠a:=λb ob e z=>by rw[z,hn]at e;cases e
 refine⟨I.ok,I.os,I.bare,⟨I.base.keep,I.base.slot,λb o' e h0 hb=>?_,I.base.there,λb xs e=>?_,λb o' u e=>?_,λb ps e=>?_⟩,I.loc,I.cell,?_,λx c e=>?_,λp hp=>?_,λb ob e=>?_,I.len⟩
 .obtain⟨o2,e2⟩:=I1.base.there b o' e hb;rw[qo (ne b o2 e2)];exact I.base.free b o' e h0 hb
 .have:=I.base.nM b xs e;rw[qo (nh b _ this)];exact this
 .have:=I.base.nK b o' u e;rw[qo (nh b _ this)];exact this
 .obtain⟨more,this⟩:=I.base.nQ b ps e;exact⟨more,by rw[qo (nh b _ this)];exact this⟩
 .obtain⟨m,⟨o2,_,_,e2,_⟩,_⟩:=I1.loc;rw[qo (ne _ o2 e2)];exact I.free
 .obtain⟨v,o2,e2,_⟩:=I1.cell x c e;rw[qo (ne _ o2 e2)];exact I.nj x c e
 .obtain⟨e1,e2,e3,e4,e5⟩:=I.pin p hp;exact⟨e1,by rw[qo (ne _ _ (I1.pin p hp).1)];exact e2,e3,e4,e5⟩
 .by_cases z:b=a
  .subst z;rw[qy]at e;cases e;exact ok
  .rw[qo z]at e;exact(I.mZ b ob e).nC (λ_ _ _ q=>q) (λb' q=>by rw[qo (nh b' _ q)];exact q) λb' xs q=>by rw[qo (nh b' _ q)];exact q
noncomputable def Cx.marked(X:Cx)(ev:Vl)(E:QQX):Cx:={X with A:=X.A.mark (ga ev),calm:=false,xe:=E}
def Inv.mark(I:Inv X W7 Y H s):Inv (X.marked ev E') W7 Y H s:=
 ⟨⟨I.ok.mod,I.ok.kind,I.ok.glob,I.ok.blt,I.ok.above,I.ok.inj,I.ok.has,I.ok.oE,(λz=>by cases z),I.ok.frames,I.ok.oR,I.ok.pA,I.ok.bs,I.ok.ou,I.ok.nY,I.ok.oh,I.ok.nH,I.ok.oB⟩,I.os,I.bare,I.base,I.loc,I.cell,I.free,I.nj,I.pin,I.mZ,I.len⟩
def Inv.unmark(ok:X.Ok)(I:Inv (X.marked ev E') W7 Y H s):Inv X W7 Y H s:=⟨ok,I.os,I.bare,I.base,I.loc,I.cell,I.free,I.nj,I.pin,I.mZ,I.len⟩
def SP.unmark(ok:X.Ok){D:E8}{f:Flow}(h:SP (X.marked ev E') W7 D f s):SP X W7 D f s:=by
 cases f with
 | next=>obtain⟨a,b,I,q⟩:=h;exact⟨a,b,I.unmark ok,q⟩
 | brk=>obtain⟨a,b,I,q⟩:=h;exact⟨a,b,I.unmark ok,q⟩
 | cont=>obtain⟨a,b,I,q⟩:=h;exact⟨a,b,I.unmark ok,q⟩
 | ret v=>obtain⟨a,b,c,I,q⟩:=h;exact⟨a,b,c,I.unmark ok,q⟩
def HA{M:Model}{h:No}{a:Uf}{o:Obj}(ho:h.get? a=ga o):W.Looks M h (typeOf (.ref a)) o.cls:=by intro A Q E s k q;unfold typeOf;exact cW (wpAny_load (k a o ho) (dv q))
def Ge{M:Model}{A:Ar}{E:QQX}{a C T:Uf}{Q:Unit->Sd->Prop}(x:Qi s.heap a (.ref C) dx (ga T))(h:∀h':No,(∀b,h'.get? b=s.heap.get? b)->Q () {s with heap:=h'}):pi M A (setFlight (.ref a) Fa) Q E s:=by
 obtain⟨oe,vs,ho,hc,_,hd,h1,hv,hT⟩:=x;obtain⟨nTe,oT,ts,Yn,YR,h3,hn⟩:=hT T Z';unfold setFlight;refine cW (fu ho hd hv ?_);rw[de (by rfl)];refine ij Yn YR h3 (h _ λb=>?_);by_cases z:T=b
 .subst z;obtain⟨oc,od,odt,X7⟩:=oT;obtain rfl:odt=.fields ts:=YR;rw[fN _ Yn Z',Yn];show ga (Obj.mk oc od (.fields (ts.setIfInBounds 3 .none)) X7)=_;have:ts.setIfInBounds 3 .none=ts:=by
   apply Array.ext
   .simp
   .intro i h1 h2;rw[Array.getElem_setIfInBounds];split
    .rename_i e;subst e;rw[Array.getElem?_eq_getElem h3]at hn;exact(dg hn).symm
    .rfl
  rw[this]
 .exact gk _ _ z
def Sl(X:Cx)(e:Go)(t:St->Hp->VK->(Hp->Prop)->XK->Prop):Prop:=∀(W7:QQY) (s:Sd) (Y:St) (H:Hp) (Q:VK) (J:Hp->Prop) (E:XK),Inv X W7 Y H s->t Y H Q J E->pi (Tk X.prog X.w) X.A (wp e X.env) (EP X W7 Y Q) (Wc X W7 Y J E) s
def Wz(X:Cx)(st:sB)(t:E8->St->Hp->(Hp->Prop)->XK->Prop):Prop:=∀(W7:QQY) (s:Sd) (Y:St) (H:Hp) (D:E8) (J:Hp->Prop) (E:XK),Inv X W7 Y H s->t D Y H J E->pi (Tk X.prog X.w) X.A (exec st X.env) (SP X W7 D) (Wc X W7 Y J E) s
variable {k:Nat}{f C:Uf}{fd:wv}{ps:QQQ}{sp:Sp}{XY:T0 V}{ds:T0 Vl}{m:Str}{p pos Xa:Pos}{e o:Go}{es:T0 Go}{t:TA}
section
variable {x:Str}
def Nu(F:xU X.prog X.w X.K X.mg X.base (Cq X.prog X.w) k f fd ps sp)(hr:sQ k X.A)(hg:Gl X x)(hm:X.mg x=ga (.ref f))(hk:W.keepIn X.K (.ref f)=Db)(hb:vq X.K fd ps ds)(hd:qN XY ds) (ha:PA (X.oj λ_ _=>False) (e::es) t) (Xs:zv x:=by decide) (he:Bm X e es:=by rfl) (Xp:Co X pos es:=by rfl):
  Sl X (.Call (.Name x p) (e::es) [] pos) (λY H Q J E=>t Y H λvs H1=>J H1/\sp (vs++XY) H1 Q E):=by
 intro W7 s Y H Q J E I h;refine fX (xx I hg hm ?_ Xs);refine iZ (h₀:=X.base) I.ok.mod.oM hk (eD (ha pos W7 s Y H _ I.oj h) (λus s1 ⟨vs,H1,I1,r,jH,q⟩=>⟨I1.ny,?_⟩) λ_ _ z=>z.elim) he Xp;have I1:=I1.xeOf;have r2:qN (vs++XY) (us++ds):=r.append hd;have hl:(us++ds).length=ps.length:=by rw[<-r2.length];exact F.len _ _ _ _ q
 refine iY (gT (F.run X.A X.stack s1 H1 ⟨us,[]⟩ (us++ds) (vs++XY) Q E hr I1.ow (hb s1 us I1.ny hl) r2 q) λr s' hq=>?_);cases r with
 | error e=>exact⟨H1,s1,jH,I1,hq⟩
 | ok fl=>
  cases fl with
  | ret u=>exact I1.after hq
  | next=>exact False.elim hq
  | brk=>exact False.elim hq
  | cont=>exact False.elim hq
end
def P5{st b₀:sB}{X0:T0 sB}{cnp Y3 pos:Pos}{Cc L:Uf}{outer:T0 Env}{t:E8->St->Hp->(Hp->Prop)->XK->Prop}(hb:Wz X st t)(Xv:X.stack=X.env::outer)(hL:X.env.frame=ga L)(hg:Gl X cn)(hm:X.mg cn=ga (.ref Cc))(hs:∀ev E',BY (X.marked ev E') (b₀::X0) th) (Xs:zv cn:=by decide):
  PS X (.Try [st] [.ExceptHandler (ga (.Name cn cnp)) Fa (b₀::X0) Y3] [] [] pos) (λD Y H=>∃(J:Hp->Prop) (E:XK),t D Y H J E/\∀C dx H1 H',J H1->TKept H1 H'->E (.ref C) dx H'->W.exmOne X.K (.ref C) (.ref Cc)=ga Db/\th D Y H'):=by
 intro W7 s Y H D I ⟨J,E,h,hh⟩;refine wpAny_Try_except (eD (Q:=λf s'=>SP X W7 D f s') (jF (tE (hb W7 s Y H D J E I h) λf s1 q=>?_)) (λf s1 q=>?_) λev s1 x=>?_)
 .cases f with
  | next=>exact g9 q
  | brk=>exact q
  | cont=>exact q
  | ret v=>exact q
 .cases f with
  | next=>exact g9 q
  | brk=>exact q
  | cont=>exact q
  | ret v=>exact q
 .refine eD (RY x Xv hL) (λ_ s2 y=>tE y λ_ s3 z=>?_) λ_ _ z=>z;obtain⟨a,C,dx,H',tb,H1,s1,rfl,q,I3,x3,na,nt,jH,tk,I1,n1⟩:=z;obtain⟨W9,h1⟩:=hh C dx H1 H' jH tk q;refine wpAny_handleBy_cons (codeAny_handlers_test (xx (X:=X.marked (.ref a) λ_ _=>False) I3.mark hg hm ?_ Xs)) (by intro z;cases z);obtain⟨oe,vs,ho,hc,_⟩:=id x3;refine W.exm_one I3.ny (HA ho) (by rw[hc];exact W9) _ _ _ _ (λ_ _ z=>z) ?_;refine codeAny_handlers_suite (Ge x3 λh' hh'=>?_);have I4:Inv X W7 Y H' {s3 with heap:=h'}:=I3.kept (t':=s3.toks) λb u z=>by rw[hh' b];exact z
  refine eD (hs (.ref a) _ W7 _ Y H' D I4.mark h1) (λf s5 q5=>SP.unmark I.ok q5) λ_ _ z=>z
variable {prog:Pg}{w:Wo}{A:Ar}{E:QQX}{K:qK}{ox:Obj}
section
variable {x:Uf}
end
end L2
namespace L3
open L2
theorem _root_.L2.TKept.ext{K:qK}(h:TKept H H'):rA K H H':=⟨λa xs q=>by
 rcases q with(q|⟨u,q⟩)|q
 .exact .inl (.inl (h.1 a xs q))
 .exact .inl (.inr ⟨u,h.2 a u _ q⟩)
 .exact .inr q,λa o xs q=>h.2 a o _ q⟩
abbrev T8:=we->Mp->DK->XR->Prop
def W4(K:qK)(t:T8):St->Hp->VK->(Hp->Prop)->XK->Prop:=λY H Q' J E=>CO λU M Q R=>Aj K H Y U/\HM K H M/\t U M Q R/\(∀v H' d M',sD K H' d v->HM K H' M'->rA K H H'->Q d M'->Q' v H')/\(∀H1,rA K H H1->J H1)/\TL K R E
def WC(X:Cx)(e:Go)(t:T8):Prop:=Sl X e (W4 X.K t)
def Sl.mono{t t':St->Hp->VK->(Hp->Prop)->XK->Prop}(h:Sl X e t)(m:∀Y H Q J E,t' Y H Q J E->t Y H Q J E):Sl X e t':=λW7 s Y H Q J E I q=>h W7 s Y H Q J E I (m Y H Q J E q)
variable {X:Cx}{x:Str}{p pos np Xf:Pos}{e:Go}{es:T0 Go}{t:yt}{k:Nat}{f C:Uf}{fd:wv}{ps:QQQ}{sp:GK}
def LP(F:Sm X.prog X.w X.K X.mg X.base k f fd ps sp)(hr:sQ k X.A)(hg:Gl X x)(hm:X.mg x=ga (.ref f))(hk:W.keepIn X.K (.ref f)=Db)(hb:vq X.K fd ps [])(ha:A3 (X.oj λ_ _=>False) (e::es) t) (Xs:zv x:=by decide) (he:Bm X e es:=by rfl) (Xp:Co X pos es:=by rfl):
  WC X (.Call (.Name x p) (e::es) [] pos) (λU M Q R=>t U M λds M1=>sp ds M1 Q R):=Sl.mono (Nu F hr hg hm hk hb .nil ha Xs he Xp) λY H Q' J E ⟨U,M,Q,R,hs,hm,ht,k,kJ,kR⟩=>
 ⟨U,M,_,hs,hm,ht,λvs H1 ds M1 hd W9 e1 q1=>⟨kJ H1 e1,ds,M1,Q,R,by rw[eG];exact hd,W9,q1,wJ e1 k,kR⟩⟩
variable {b₀:sB}{X0:T0 sB}{cn n:Str}{cnp Y3 Xa xpos:Pos}{Cc L:Uf}{outer:T0 Env}{i ix:Nat}{te:T8}{th:xY}
end L3
namespace L2
noncomputable def Cs(es:Array DictEntry):Bool:=es.toList.all λe=>match e.key with|.str _ _=>Db|_=>pc
def Dg{es:Array DictEntry}(h:Cs es=Db):StrKeys es:=λe he=>by
 have:=eI.mp h e (kt.mpr he);cases z:e.key with
 | str n t=>exact⟨n,t,Z'⟩
 | _=>rw[z]at this;cases this
abbrev My:T0 Vl:=[.type "ValueError",.type "Exception",.type "BaseException",.type "object"]
def PX{K:qK}{t:Vl}{C:Uf}{cd:ClassData}{b:Bool}(q0:W.subIn K (.ref C) (.type "BaseException")=ga Db)(q1:W.clsIn K C=ga cd)(q2:W.typeIn K (.ref C)=ga (.type "type"))(s:W.subIn K t (.ref C)=ga b):W.exmOne K t (.ref C)=ga b:=by unfold W.exmOne;rw[q0,de (by rfl)];unfold W.kitCls;simp only;rw[q1,q2,de (by rfl)];exact s
end L2
namespace L3
open L2
end L3
namespace L2
theorem C0(self:Vl):∀own:QXQ,refuseLoop self "__setattr__" (own.map Value.ref++My)=pure ()
 | []=>jR.passes self
 | c::r=>by show refuseLoop self "__setattr__" (.ref c::(r.map Value.ref++My))=pure ();rw[refuseLoop_ref];exact C0 self r
variable {prog:Pg}{w:Wo}{A:Ar}{s:Sd}{K:qK}{x C:Uf}{ox:Obj}{own:QXQ}{name:Str}{v:Vl}
section
variable {E:QQX}{cd:ClassData}
def O9{Q:Unit->Sd->Prop}(X:K.In s.heap)(I:W.InstAt s.heap x ox C Fa)(hs:W.findIn K (.ref C) "__setattr__"=ga (ga (.builtin "object.__setattr__")))(hc:W.clsIn K C=ga cd)(hm:cd.mro=own.map Value.ref++My)(ht:W.takerIn K C name=ga Fa)(hd:cd.hasDict=Db) (h:∀h' d t,(∀b o,b≠x->s.heap.get? b=ga o->h'.get? b=ga o)->h'.get? x=ga {ox with dict:=some d}->s.heap.get? d=Fa->d≠x->h'.Ns1 d (λy=>if y=name then ga v else Fa)->Q () {s with heap:=h',toks:=t}):pi (Tk prog w) A (setAttr (.ref x) name v) Q E s:=by
 refine W.set_plain X I hs ?_;have SF:=jR;have ne:cd.mro.isEmpty=pc:=by rw[hm];cases own<;>rfl
 have has:cd.mro.contains (.type "object")=Db:=by
  rw[hm,List.contains_eq_any_beq,mo];have:My.any (Value.type "object"==·)=Db:=by decide+kernel
  rw[this,lj]
 have sub:W.Looks (Tk prog w) s.heap (isInstance (.ref x) (.type "object")) Db:=I.type.andThen (W.looks_mroIn X (by unfold W.mroIn;rw[hc,l0,c9 (by rw[ne];decide),has]));refine kz SF.slot.plain SF.entry (@PySem.W.check_slot (Tk prog w) _ _ {s with toks:=s.toks+1} "object.__setattr__" "object" "__setattr__" (.ref x) [.str name s.toks,v] [] _ SF.kind SF.split sub (SF.args (.ref x) (.str name s.toks) v) ?_);obtain⟨attr,ha,hr⟩:=Option.bind_eq_some_iff.mp ht;have hmro:W.Looks (Tk prog w) s.heap (mroOf (.ref C)) cd.mro:=(kD X hc).andThen .now;have L3':W.Looks (Tk prog w) s.heap (Builtin.ObjectAttr.storeTaker? attr) Fa:=by
  cases attr with
  | none=>exact .now
  | some a=>
   obtain⟨b,hb,hr⟩:=hZ.mp hr;refine(W.looks_takesIn X hb).andThen ?_;cases b
   .exact .now
   .cases hr
 rw[W.osa_eq,refuse_eq];refine cW (cW (I.type.here (s:={s with toks:=s.toks+1}) (cW (hmro.here (s:={s with toks:=s.toks+1}) ?_))));rw[hm,C0];refine dv (cW (I.type.here (s:={s with toks:=s.toks+1}) (cW ((mw X ha).here (s:={s with toks:=s.toks+1}) (cW (L3'.here (s:={s with toks:=s.toks+1}) ?_))))));obtain⟨hx,hcl,hn,ZJ⟩:=I;obtain⟨oc,odi,oda,X7⟩:=ox;dsimp only at hcl ZJ;subst hcl;cases odi with
 | some _=>exact ZJ.elim
 | none=>
  refine cW (dv (cW (cW (wpAny_loadPart hx (cW (mB (s:={s with toks:=s.toks+1}) (kD X hc) ?_))))));rw[hd];rw[c9 (by decide)];obtain⟨hh,g,dr,tk,os⟩:=s;dsimp only at hx h ⊢;rw[c9 (by simp[typeHasDict])];split
  .cases hn
  .have y1:(hh.push W.emptyDict).get? x=ga ⟨.ref C,Fa,oda,X7⟩:=df _ hx;have nx:x≠hh.objs.size:=λz=>fk _ (z ▸ dB hx);refine cW (wpAny_alloc' (cW (wpAny_update' y1 (dv ?_))));have e0:((hh.push W.emptyDict).update x λo=>{o with dict:=some hh.objs.size}).Ns hh.objs.size (λ_=>Fa):=⟨W.emptyDict,#[],_,(ji _ _ _ _ nx.symm).trans (dM hh Z'),Z',λe he=>absurd he (by simp),λ_=>rfl⟩;refine cW (dv (cW (wpAny_nsSet1 (lA e0) λh' n1 sb=>?_)));obtain⟨oD,esD,epD,g1,g2,g3⟩:=n1.count (Within.cons name v Within.nil);refine cW (lR g1 (g2 ▸ lT (d9 g3 (by rw[dI,dH];decide))) (dv (h h' hh.objs.size _ (λb o hb z=>?_) ?_ (gO (dq _)) nx.symm n1)))
   .exact(sb.2 b λy=>fk _ (y ▸ dB z)).trans ((ji _ _ _ _ hb).trans (df _ z))
   .refine(sb.2 x nx).trans (fN _ y1 ?_);have fr:=(Heap.get?_some_iff.mp hx).2;cases oda with
    | _=>first|rfl|exact fr
end
variable {nm q:Str}{bs bm YA:T0 Vl}{hdct:Bool}{sn:QQQ}{sub:T0 Vl}{ab:Bool}{col:Option Bool}{dd:Option Uf}{k0 k1 k2 k3 k5:Option Vl}{B Bn newId nid XC zX:String}{bmN:T0 Vl}{h:No}{g:Array GenState}{d:Drawn}{t:Nat}{os:OsState}
section
variable {E:QQX}{N:Uf}
abbrev OU(C t:Uf):Obj:={cls:=.ref C,data:=.fields #[.ref t,.none,.none,.none,.bool pc,.none]}
def Bq(Fn:o0 Bn newId zX bmN)(hBn:YA.contains (.type Bn)=Db)(F:o0 B nid XC YA)(T:OwnTail h YA bm){mN:QQZ}{us:T0 Vl}{fI:Uf}{oI:Obj}{Q:PySem.Fin->Sd->Prop} (hC:h.get? C=ga (X' nm q C N bs bm hdct sn sub ab col dd k0 k1 k2 k3 k5 newId)) (hn:h.Ns N mN) (hi:mN "__init__"=ga (.ref fI)) (hf:h.get? fI=ga oI) (hfc:oI.cls=.type "function") (Xd:us.length<=Ch) (hq:∀h' e,Heap.MadeExcOf h h' e (.ref C) us->pi (Tk prog w) A (call (.ref fI) (.ref e::us)) (λr s'=>r=.none/\Q (.done (.ret (.ref e))) s') E ⟨h',g,d,t,os⟩):
  pi (Tk prog w) A (Builtin.«type.__call__» ⟨.ref C::us,[]⟩) Q E ⟨h,g,d,t,os⟩:=by
 repeat (first|with_reducible refine ib hC ?_|with_reducible refine wpAny_madeBy_exc hC ?_|wp_step)
 refine codeAny_call_builtin_code (jp _ Fn.quiet) (wpAny_check_new_subU Fn hBn T hC (codeAny_exc_new_subU Fn hBn F T hC ?_ Xd));have kp:∀b o,h.get? b=ga o->((h.push {cls:=.type "tuple",data:=.seq us.toArray}).push (OU C h.objs.size)).get? b=ga o:=λb o z=>df _ (df _ z);have gE:((h.push {cls:=.type "tuple",data:=.seq us.toArray}).push (OU C h.objs.size)).get? (h.objs.size+1)=ga (OU C h.objs.size):=by heap_get
 have hC2:=kp _ _ hC;have ZT:((h.push {cls:=.type "tuple",data:=.seq us.toArray}).push (OU C h.objs.size)).Ns N mN:=let⟨o,es,ep,e,r⟩:=hn;⟨o,es,ep,kp _ _ e,r⟩;have cC:(Value.ref C::bm).contains (.ref C)=Db:=by rw[iH,eL,ig]
 have T2:=T.keeps kp;show pi _ _ _ _ _ _;unfold isInstance
 repeat (first|with_reducible refine ib gE ?_|(with_reducible refine kM hC2 ?_;rw[cC])|wp_step)
 show pi _ _ (typeLookup (.ref C) _) _ _ _;refine wpAny_typeLookup_tail hC2 ZT T2 F.mroIs F.init.lookup ?_;rw[hi];refine fh (cW ?_);unfold bindSpecial;refine cW (jJ (T:="function") ⟨_,kp _ _ hf,hfc⟩ ?_);rw[de (by decide)];refine dv (cW (eD (hq _ (h.objs.size+1) ⟨kp,gO (gS _),h.objs.size,gE,gO (dq _),df _ (Heap.get?_push_at Z' Z')⟩) (λr s' hr=>?_) λ_ _ z=>z));obtain⟨rfl,hQ⟩:=hr
 wp_walk
 exact hQ
def HR(Fn:o0 Bn newId zX bmN)(hBn:YA.contains (.type Bn)=Db)(F:o0 B nid XC YA)(T:OwnTail h YA bm){mN:QQZ}{us:T0 Vl}{fI:Uf}{oI:Obj}{Q:QQX} (hC:h.get? C=ga (X' nm q C N bs bm hdct sn sub ab col dd k0 k1 k2 k3 k5 newId)) (hn:h.Ns N mN) (hi:mN "__init__"=ga (.ref fI)) (hf:h.get? fI=ga oI) (hfc:oI.cls=.type "function") (Xd:us.length<=Ch) (hq:∀h' e,Heap.MadeExcOf h h' e (.ref C) us->pi (Tk prog w) (A.under (.builtin "type.__call__" ⟨.ref C::us,[]⟩)) (call (.ref fI) (.ref e::us)) (λr s'=>r=.none/\Q (.ref e) s') E ⟨h',g,d,t,os⟩):
  pi (Tk prog w) A (call (.ref C) us) Q E ⟨h,g,d,t,os⟩:=by
 have f1:=tc_lookup;have f2:=tc_bind (.ref C);have hT:(⟨h,g,d,t,os⟩:Sd).TypeIs (.ref C) "type":=⟨_,hC,Z'⟩;refine iY (codeAny_of_tree ?_);show pi _ _ (callAny (.ref C) _) _ _ _
 repeat (any_goals(first|assumption|with_reducible refine ib hC ?_|wp_step))
 exact⟨Z',codeAny_call_builtin_at (jp _ (by decide+kernel)) entry_typeCall (wpAny_check_type_call_sub hC (Bq Fn hBn F T hC hn hi hf hfc Xd hq))⟩
end
variable {M:Model}{env:Env}
section
variable {E:QQX}{N:Uf}
def JD(h:No)(e C:Uf)(dx:Option Uf):Prop:=BQ λt sl=>h.get? e=ga ⟨.ref C,dx,.fields #[.ref t,.none,.none,.none,.bool pc,.none],sl⟩
def GZ{x:Sem Vl}{Q:Flow->Sd->Prop}(Xj:bm.contains (.type "BaseException")=Db)(hh:A.handled=Fa) (h:pi M A x (λv s₁=>∃e dx,v=.ref e/\s₁.heap.get? C=ga (X' nm q C N bs bm hdct sn sub ab col dd k0 k1 k2 k3 k5 newId)/\JD s₁.heap e C dx/\E (.ref e) s₁) E s):
  pi M A (raiseStmt env (ga x) Fa) Q E s:=by
 have cB:(Value.ref C::bm).contains (.type "BaseException")=Db:=by rw[iH,Xj,lj]
 unfold raiseStmt;refine cW (eD h (λv s₁ ⟨e,dx,ev,hC,⟨t,sl,he⟩,hE⟩=>?_) λ_ _ z=>z);subst ev;obtain⟨hp,g,d,tk,os⟩:=s₁
 repeat (first|with_reducible refine ib he ?_|with_reducible refine ib hC ?_|(with_reducible refine kM hC ?_;rw[cB])|wp_step)
 exact wpAny_raiseNew_none hh hE
def G0(Fn:o0 Bn newId zX bmN)(hBn:YA.contains (.type Bn)=Db)(F:o0 B nid XC YA){mN:QQZ}{fI:Uf}{x:Str}{np Xf pos:Pos}{args:T0 Go}{Q:Flow->Sd->Prop} (Xj:bm.contains (.type "BaseException")=Db) (hh:A.handled=Fa) (Xm:(At Xf (Tl args env)).any (·.1)=pc) (hi:mN "__init__"=ga (.ref fI)) (h:pi (Tk prog w) A (wp (.Name x np) env) (λf s₁=>f=.ref C/\pi (Tk prog w) A (evalArgs (.ref C) Db (At Xf (Tl args env)) []) (λa s₂=>a.kw=[]/\a.pos.length<=Ch/\s₂.heap.get? C=ga (X' nm q C N bs bm hdct sn sub ab col dd k0 k1 k2 k3 k5 newId)/\s₂.heap.Ns N mN/\OwnTail s₂.heap YA bm/\(∃oI,s₂.heap.get? fI=ga oI/\oI.cls=.type "function")/\
    ∀h' e,Heap.MadeExcOf s₂.heap h' e (.ref C) a.pos->pi (Tk prog w) (A.under (.builtin "type.__call__" ⟨.ref C::a.pos,[]⟩)) (call (.ref fI) (.ref e::a.pos))
     (λr s'=>r=.none/\∃dx,s'.heap.get? C=ga (X' nm q C N bs bm hdct sn sub ab col dd k0 k1 k2 k3 k5 newId)/\JD s'.heap e C dx/\E (.ref e) s') E {s₂ with heap:=h'}) E s₁) E s):
  pi (Tk prog w) A (exec (.Raise (ga (.Call (.Name x np) args [] Xf)) Fa pos) env) Q E s:=by
 rw[arm_exec_Raise];refine cW (ip (GZ (C:=C) (nm:=nm) (q:=q) (N:=N) (bs:=bs) (bm:=bm) (hdct:=hdct) (sn:=sn) (sub:=sub) (ab:=ab) (col:=col) (dd:=dd) (k0:=k0) (k1:=k1) (k2:=k2) (k3:=k3) (k5:=k5) (newId:=newId) Xj hh ?_));refine cW (eD (wpAny_Call_ofName (eD h (λf s₁ ⟨ef,h₁⟩=>?_) λ_ _ z=>z)) (λv s₃ h₃=>cW (ip (dv h₃))) λ_ _ z=>z);subst ef;unfold XXd;refine cW (fh (eD h₁ (λa s₂ h₂=>cW (ip ?_)) λ_ _ z=>z));obtain⟨Xa,akw⟩:=a;obtain⟨hkw,Xd,hC,hn,T,⟨oI,hf,hfc⟩,h₂⟩:=h₂;obtain rfl:akw=[]:=hkw;obtain⟨hp,g,d,tk,os⟩:=s₂;simp only[Xm];refine cW (wpAny_keeperOf_exc hC (cW (HR Fn hBn F T hC hn hi hf hfc Xd λh' e hm=>eD (h₂ h' e hm) (λr s' ⟨z,dx,c1,c2,c3⟩=>⟨z,cW (fh (wpAny_point (dv ⟨e,dx,Z',c1,c2,c3⟩)))⟩) λ_ _ z=>z)))
end
def x0(a C:Uf)(h:No):Prop:=JD h a C Fa
def x1(a C d:Uf)(h:No):Prop:=JD h a C (ga d)
structure yV(K:qK)(C:Uf)(f:Str):Prop where
 sa:W.findIn K (.ref C) "__setattr__"=ga (ga (.builtin "object.__setattr__"))
 cd:∃cd own,W.clsIn K C=ga cd/\cd.mro=List.map Value.ref own++My/\cd.hasDict=Db
 tk:W.takerIn K C f=ga Fa
variable {X:Cx}{W7:T0 (Uf × Obj)}{Y σ':St}{H H1:Hp}{s1:Sd}{a:Uf}
section
variable {f:Str}
def Hf{A:Ar}{E:QQX}{Q:Unit->Sd->Prop}(I:Inv X W7 Y H s)(e:H a=ga (.ext (x0 a C)))(ry:rh y u)(st:yV X.K C f)(h:∀d s',H d=Fa->d≠a->Inv X W7 Y (upd (upd H a (.ext (x1 a C d))) d (.ext (OV d f y))) s'->Q () s'):pi (Tk X.prog X.w) A (setAttr (.ref a) f u) Q E s:=by obtain⟨⟨t,sl,ho⟩,_,_⟩:=I.mZ a _ e;obtain⟨cd,own,c1,c2,c3⟩:=st.cd;refine O9 I.ny ⟨ho,Z',Z',trivial⟩ st.sa c1 c2 st.tk c3 λh' d tk k1 k2 dn da n1=>h d _ (zA I.mZ dn) da ?_;have I2:=I.write (t':=tk) (x:=a) (e:=a) (o:=.ext (x1 a C d)) (by rw[e];exact True.intro) (.inl Z') k1 ⟨_,k2⟩ ⟨⟨t,sl,k2⟩,⟨_,k2⟩,λh1 h2 ⟨t',YD,z⟩ kk=>⟨t',YD,kk _ z⟩⟩;refine I2.adopt I dn (by rw[qo da];exact zA I.mZ dn) ⟨⟨u,n1,ry⟩,?_,λh1 h2 ⟨u,n,r⟩ kk=>⟨u,n.at kk,r⟩⟩;obtain⟨o,_,_,z,_⟩:=n1;exact⟨o,z⟩
def Inv.drop{φ:No->Prop}(I:Inv X W7 Y H s)(ea:H a=ga (.ext φ)):Inv X W7 Y (λb=>if b=a then Fa else H b) s:=by
 have less:∀b,H b=Fa->(if b=a then Fa else H b)=Fa:=λb e=>by split<;>first|rfl|exact e
 have keep:∀b o,H b=ga o->(∀φ,o≠.ext φ)->(if b=a then Fa else H b)=ga o:=λb o e n=>by
  rw[c9]
  .exact e
  .intro z;rw[z,ea]at e;exact n φ (dg e).symm
 refine⟨I.ok,I.os,I.bare,⟨I.base.keep,I.base.slot,λb o e h0 hb=>less b (I.base.free b o e h0 hb),I.base.there,λb xs e=>keep b _ (I.base.nM b xs e) (λ_ z=>nomatch z),λb o u e=>keep b _ (I.base.nK b o u e) (λ_ z=>nomatch z),λb ps e=>?_⟩,I.loc,I.cell,less _ I.free,λx c e=>less _ (I.nj x c e),λp hp=>⟨(I.pin p hp).1,less _ (I.pin p hp).2.1,(I.pin p hp).2.2⟩,λb ob e=>?_,I.len⟩
 .obtain⟨more,z⟩:=I.base.nQ b ps e;exact⟨more,keep b _ z (λ_ z=>nomatch z)⟩
 .have e':H b=ga ob:=by
   by_cases z:b=a
   .rw[de z]at e;cases e
   .rw[c9 z]at e;exact e
  exact(I.mZ b ob e').nC (λ_ _ _ q=>q) (λb' q=>keep b' _ q (λ_ z=>nomatch z)) λb' xs q=>keep b' _ q (λ_ z=>nomatch z)
end
def L5(K:qK)(ta tv:TE)(f:Str):TS:=λD Y H=>tv Y H λy H1=>ta Y H1 λx H2=>∃a C,x=.ref a/\H2 a=ga (.ext (x0 a C))/\yV K C f/\∀d,H2 d=Fa->d≠a->D.nx Y (upd (upd H2 a (.ext (x1 a C d))) d (.ext (OV d f y)))
def Pz{f:Str}{pos Xl:Pos}{ta tv:TE}(ha:PE X o ta)(hv:PE X value tv)(hs:ZB value (ga (.Attribute o f Xl)) pos.line X.env=pure pc:=by rfl):PS X (.Assign [.Attribute o f Xl] value pos) (L5 X.K ta tv f):=by intro W7 s Y H D I h;refine iX (tE (hv W7 s Y H _ I h) λu s1 zz=>x5 zz λy H1 I1 ry q=>tE (ha W7 s1 Y H1 _ I1 q) λov s2 zz=>?_) hs;obtain⟨x,H2,I2,rx,a,C,ex,ea,st,q2⟩:=zz;subst ex;obtain rfl:ov=Value.ref a:=rx;exact Hf I2 ea ry st λd s3 dn da I3=>⟨Y,_,I3,q2 d dn da⟩
def xi(K:qK)(f:Str):Sp:=λvs H Q _=>Dj λe C y=>vs=[.ref e,y]/\H e=ga (.ext (x0 e C))/\yV K C f/\∀d,H d=Fa->d≠e->Q .mW (upd (upd H e (.ext (x1 e C d))) d (.ext (OV d f y)))
variable {qual:Str}{scope:XXa}{outer:T0 Env}{s0:Sd}{H0:Hp}{P:Pg}{mg:QQZ}{base:No}
section
def MN{x qual y1 y2 fl:Str}{st:sB}(F:PB K x qual st f fd)(S:tQ [y1,y2] [y1,y2] (qw st)) (hb:∀(Xi:Vl) (A:Ar) (outer:T0 Env) (s:Sd) (H:Hp) (E:XK),BY (vR (Cq P w) P w K mg base [y1,y2] qual (qw st) f Xi A outer s H E) (sE st) (L5 K (HW 0) (HW 1) fl)):xU P w K mg base (Cq P w) 1 f fd [y1,y2] (xi K fl):=by
 obtain⟨oc,od,kV,XM,pm,an,Xi,ct,X7,rfl,lk,Yp⟩:=F.ex;refine LH lk Yp S (λvs H Q E h=>?_) λA outer s H vs Q' E hr h=>⟨_,hb Xi A outer s H E,?_⟩
 .obtain⟨e,C,y,rfl,_⟩:=h;rfl
 .obtain⟨e,C,y,rfl,h1,h2,q⟩:=h;exact⟨y,Z',.ref e,Z',e,C,Z',h1,h2,q⟩
def Jd(K:qK)(C fI:Uf):Prop:=
 ∃nm q N bs bm YA hdct sn sub ab col dd k0 k1 k2 k3 k5,∃B Bn newId nid XC zX:String,∃bmN,∃mN:QQZ,o0 Bn newId zX bmN/\YA.contains (Value.type Bn)=Db/\o0 B nid XC YA/\bm.contains (Value.type "BaseException")=Db/\mN "__init__"=ga (.ref fI)/\
  ∀h:No,K.In h->h.get? C=ga (X' nm q C N bs bm hdct sn sub ab col dd k0 k1 k2 k3 k5 newId)/\h.Ns N mN/\OwnTail h YA bm/\∃oI,h.get? fI=ga oI/\oI.cls=.type "function"
variable {N:QQQ}{f:Uf}{cd:Vl}{E:XK}
def K5{X:Cx}(hX:X=vR (Cq P w) P w K mg base N qual scope f cd A outer s0 H0 E){C fI:Uf}{fdI:wv}{ps:QQQ}{fl:Str}{k:Nat}{x:Str}{np Xf pos:Pos}{e:Go}{ta:TA}(hC:Jd X.K C fI)(F:xU X.prog X.w X.K X.mg X.base (Cq X.prog X.w) k fI fdI ps (xi X.K fl))(hr:sQ (k+1) X.A)(hb:vq X.K fdI ps [])(st:yV X.K C fl) (hg:Gl X x) (hm:X.mg x=ga (.ref C)) (ha:PA X [e] ta) (hs:Tl [e] X.env=[(pc,wp e X.env)]:=by rfl) (Xs:zv x:=by decide):
  PS X (.Raise (ga (.Call (.Name x np) [e] [] Xf)) Fa pos) (λ_ Y H=>ta Y H λvs H1=>∃y,vs=[y]/\∀d,H1 d=Fa->E (.ref C) (ga d) (upd H1 d (.ext (OV d fl y)))):=by
 intro W7 s Y H D I h;obtain⟨nm,q,N',bs,bm,YA,hdct,sn,sub,ab,col,dd,k0,k1,k2,k3,k5,B,Bn,newId,nid,XC,zX,bmN,mN,f1,f2,f3,f4,f5,Y9⟩:=hC;have hcalm:X.A.handled=Fa:=I.ok.hd (by rw[hX];rfl);refine G0 (nm:=nm) (q:=q) (N:=N') (bs:=bs) (hdct:=hdct) (sn:=sn) (sub:=sub) (ab:=ab) (col:=col) (dd:=dd) (k0:=k0) (k1:=k1) (k2:=k2) (k3:=k3) (k5:=k5) f1 f2 f3 f4 hcalm (by rw[hs];rfl) f5 (xx I hg hm ⟨Z',?_⟩ Xs);rw[hs];refine evalArgs_kwB Z' ?_;have YO:=ha Xf W7 s Y H _ I h;rw[hs]at YO;refine tE YO λus s1 zz=>?_;obtain⟨vs,H1,I1,r1,y,ey,q1⟩:=zz;subst ey;obtain⟨u,rfl,ru⟩:=yT r1;refine wpAny_evalAll_nil ?_;obtain⟨c1,c2,c3,c4⟩:=Y9 s1.heap I1.ny;refine⟨Z',by show 1<=Ch;rw[dI];decide,c1,c2,c3,c4,λh' e' md=>?_⟩;obtain⟨mk,mn,t,mt,_⟩:=md;have hn:H1 e'=Fa:=zA I1.mZ mn;have I2:Inv X W7 Y H1 {s1 with heap:=h'}:=I1.kept (t':=s1.toks) mk;have I3:Inv X W7 Y (upd H1 e' (.ext (x0 e' C))) {s1 with heap:=h'}:=I2.adopt I1 mn hn ⟨⟨t,_,mt⟩,⟨_,mt⟩,λh1 h2 ⟨t',YD,z⟩ kk=>⟨t',YD,kk _ z⟩⟩;have r2:qN [V.ref e',y] [Value.ref e',u]:=.cons Z' (.cons ru .nil);have YF:xi X.K fl [V.ref e',y] (upd H1 e' (.ext (x0 e' C))) (λv H2=>v=.mW/\∃d,d≠e'/\H1 d=Fa/\H2=upd (upd H1 e' (.ext (x1 e' C d))) d (.ext (OV d fl y))) (λ_ _ _=>False):=⟨e',C,y,Z',qy,st,λd dn da=>⟨Z',d,da,by rw[qo da]at dn;exact dn,by rw[PD]⟩⟩;have hl:([Value.ref e',u]:T0 Vl).length=ps.length:=by rw[<-r2.length];exact F.len _ _ _ _ YF
 refine iY (gT (F.run _ X.stack _ _ ⟨[Value.ref e',u],[]⟩ [Value.ref e',u] _ _ _ (hr.make C [u] []) (I3.ow.make C [u] []) (hb _ [Value.ref e',u] I3.ny hl) r2 YF) λr s' YU=>?_);cases r with
 | error ev=>obtain⟨_,_,_,_,_,_,z,_⟩:=YU;exact z.elim
 | ok fw=>
  cases fw with
  | ret uv=>
   obtain⟨v,H',I4,rv,ev,d,da,dn,eH⟩:=I3.after YU;subst ev eH;obtain⟨⟨t',YD,md⟩,_,_⟩:=I4.mZ e' _ (by rw[qo (dQ da)];exact qy);have I5:Inv X W7 Y (upd H1 d (.ext (OV d fl y))) _:=(funext λb=>by
    by_cases z:b=e'
    .subst z;rw[de Z',qo (dQ da),hn]
    .rw[c9 z];by_cases z2:b=d
     .subst z2;rw[qy,qy]
     .rw[qo z2,qo z2,qo z]:(λb=>if b=e' then Fa else upd (upd H1 e' (.ext (x1 e' C d))) d (.ext (OV d fl y)) b)=upd H1 d (.ext (OV d fl y))) ▸ I4.drop (a:=e') (φ:=x1 e' C d) (by rw[qo (dQ da)];exact qy)
   refine⟨rv,ga d,(Y9 s'.heap I4.ny).1,⟨t',YD,md⟩,?_⟩;subst hX;have Xz:Un (wW outer) [] H0 H1 s0.heap s1.heap:=I1.base;exact U8 I5 (tb:=none) ⟨_,_,md,Z',Z',Z',(by show 1<6;decide),Z',λT z=>by cases z⟩ (Hn Xz Z' mn) (λT z=>by cases z) (by rw[qo (dQ da)];exact hn) (q1 d dn)
  | next=>exact False.elim YU
  | brk=>exact False.elim YU
  | cont=>exact False.elim YU
end
end L2
namespace L3
open L2
variable {P:Pg}{w:Wo}{K:qK}{mg:QQZ}{base:No}{N:QQQ}{qual:Str}{scope:XXa}{f:Uf}{cd:Vl}{A:Ar}{outer:T0 Env}{s0:Sd}{H0:Hp}{E:XK}{x:Str}{np Xf pos:Pos}{e:Go}{C fI:Uf}{fdI:wv}{ps:QQQ}{fl:Str}{k:Nat}{R:XR}{ta:yt}
def Oy(C:Uf)(R:XR)(f:Str)(ta:yt):xY:=λ_ U M=>ta U M λds M1=>∃z,ds=[z]/\R C (ga (f,z)) M1
def Kk(hC:Jd K C fI)(F:xU P w K mg base (Cq P w) k fI fdI ps (xi K fl))(hr:sQ (k+1) (vR (Cq P w) P w K mg base N qual scope f cd A outer s0 H0 E).A)(hb:vq K fdI ps [])(st:yV K C fl)(_:W.findIn K (.ref C) "__init__"=ga (ga (.ref fI)))(hg:Gl (vR (Cq P w) P w K mg base N qual scope f cd A outer s0 H0 E) x)(hm:mg x=ga (.ref C))(hR:TL K R E)(ha:A3 (vR (Cq P w) P w K mg base N qual scope f cd A outer s0 H0 E) [e] ta) (hs:Tl [e] (vR (Cq P w) P w K mg base N qual scope f cd A outer s0 H0 E).env=[(pc,wp e (vR (Cq P w) P w K mg base N qual scope f cd A outer s0 H0 E).env)]:=by rfl) (Xs:zv x:=by decide):
  S3 (vR (Cq P w) P w K mg base N qual scope f cd A outer s0 H0 E) (.Raise (ga (.Call (.Name x np) [e] [] Xf)) Fa pos) (Oy C R fl ta):=
 PS.mono (K5 Z' hC F hr hb st hg hm ha hs Xs) λD' Y H ⟨U,M,D,hs,hm,ht,_⟩=>⟨U,M,_,hs,hm,ht,λvs H1 ds M1 hd W9 e1 q1=>by
  obtain⟨z,rfl,r⟩:=q1;obtain⟨v,rfl,hv⟩:=sN hd;exact⟨v,Z',λd dn=>hR C (ga d) _ M1 _ (W9.add dn) (.inr ⟨d,fl,z,v,Z',Z',qy,hv.mono (.new dn)⟩) r⟩⟩
variable {X:Cx}{b₀:sB}{X0:T0 sB}{cn:Str}{cnp Y3 Zu:Pos}{Cc L:Uf}{te:T8}{th:xY}
def LN{t:St->Hp->VK->(Hp->Prop)->XK->Prop}(he:Sl X e t)(hs:ZB e Fa Zu.line X.env=pure pc:=by rfl):Wz X (.Expr e Zu) (λD Y H J E=>t Y H (λ_ H'=>D.nx Y H') J E):=by intro W7 s Y H D J E I h;exact wpAny_Expr_any (tE (he W7 s Y H _ J E I h) λv s1 zz=>x5 zz λy H1 I1 r1 q1=>⟨Y,H1,I1,q1⟩) I.quiet hs
def T4(K:qK)(Cc:Uf)(te:T8)(th:xY):xY:=λD U M=>∃R,te U M (λ_ M1=>D.nx U M1) R/\∀C y M',R C y M'->W.exmOne K (.ref C) (.ref Cc)=ga Db/\th D U M'
def OX(he:WC X e te)(Xv:X.stack=X.env::outer)(hL:X.env.frame=ga L)(hg:Gl X cn)(hm:X.mg cn=ga (.ref Cc)) (hs:∀ev E',Hx (X.marked ev E') (b₀::X0) th) (Xs:zv cn:=by decide) (YG:ZB e Fa Zu.line X.env=pure pc:=by rfl):
  S3 X (.Try [.Expr e Zu] [.ExceptHandler (ga (.Name cn cnp)) Fa (b₀::X0) Y3] [] [] pos) (T4 X.K Cc te th):=
 PS.nW (P5 (th:=Vk X.K th) (LN he YG) Xv hL hg hm hs Xs) λD' Y H hl ⟨U,M,D,hs,hm,⟨R,ht,hh⟩,k1,k2,k3,k4⟩=>by
  refine⟨λH1=>rA X.K H H1,λcv d H'=>∃C M' y,cv=.ref C/\HM X.K H' M'/\Ug X.K H' d y/\R C y M',⟨U,M,_,R,hs,hm,ht,λv H1 d M1 hd W9 e1 q1=>?_,λ_ z=>z,λC dx H' M' y h1 h0 h2=>⟨C,M',y,Z',h1,h0,h2⟩⟩,λC dx H1 H' jH tk ⟨C',M',y,ec,YI,ZJ,r⟩=>?_⟩
  .exact k1 _ H1 _ M1 (hs.mono e1) W9 e1 Z' q1
  .cases ec;obtain⟨r1,r2⟩:=hh C y M' r;have e1:rA X.K H H':=jH.trans (L2.TKept.ext tk);refine⟨r1,U,M',D,hs.mono e1,YI,r2,λσ2 H2 δ2 M2 y1 y2 y3 y4 y5=>?_,λv H2 d M2 y1 y2 y3 y5=>?_,λσ2 H2 δ2 M2 y1 y2 y3 y4 y5=>?_,λσ2 H2 δ2 M2 y1 y2 y3 y4 y5=>?_⟩
   .exact k1 _ H2 _ M2 y1 y2 (e1.trans y3) y4 y5
   .exact k2 _ H2 _ M2 y1 y2 (e1.trans y3) y5
   .exact k3 _ H2 _ M2 y1 y2 (e1.trans y3) y4 y5
   .exact k4 _ H2 _ M2 y1 y2 (e1.trans y3) y4 y5
end L3
namespace L2
def Nr{K:qK}{C C2 N fI:Uf}{nm q:Str}{bs sub:T0 Vl}{hdct ab:Bool}{sn:QQQ}{col:Option Bool}{dd od1 od2 dd2:Option Uf}{k0 k1 k2 k3 k5:Option Vl}{oc1 oc2 c0:Vl}{es1 es2:Array DictEntry}{ep1 ep2:Nat}{sl1 sl2 Vy:Array (Option Vl)}{cd2:ClassData}{oI:Obj} (l1:K.lookup C=ga (X' nm q C N bs (.ref C2::My) hdct sn sub ab col dd k0 k1 k2 k3 k5 "ValueError.__new__")) (n1:K.lookup N=ga ⟨oc1,od1,.dict es1 ep1,sl1⟩) (s1:Cs es1=Db) (i1:nsFind es1 "__init__"=ga (.ref fI)) (l2:K.lookup C2=ga ⟨c0,dd2,.cls cd2,Vy⟩) (n2:K.lookup cd2.ns=ga ⟨oc2,od2,.dict es2 ep2,sl2⟩) (s2:Cs es2=Db) (i2:nsFind es2 "__init__"=Fa) (l3:K.lookup fI=ga oI) (hf:W.isFn K (.ref fI)=Db):Jd K C fI:=by
 have hc:oI.cls=.type "function":=by have hf:=ft.mp hf;unfold W.typeIn at hf;simp only at hf;rw[l3]at hf;exact dg hf
 refine⟨nm,q,N,bs,.ref C2::My,My,hdct,sn,sub,ab,col,dd,k0,k1,k2,k3,k5,"ValueError","ValueError","ValueError.__new__","ValueError.__new__","ValueError.__init__","ValueError.__init__",My,λn=>nsFind es1 n,kB,by decide+kernel,kB,?_,i1,λh X=>⟨X C _ l1,⟨_,es1,ep1,X N _ n1,Z',Dg s1,λ_=>rfl⟩,.own (X C2 _ l2) ⟨_,es2,ep2,X _ _ n2,Z',Dg s2,λ_=>rfl⟩ i2 .base,oI,X fI _ l3,hc⟩⟩;rw[iH];have:My.contains (.type "BaseException")=Db:=by decide+kernel
 rw[this,lj]
def J7{K:qK}{C C2 N:Uf}{nm q f:Str}{bs sub:T0 Vl}{ab:Bool}{sn:QQQ}{col:Option Bool}{dd:Option Uf}{k0 k1 k2 k3 k5:Option Vl}(l1:K.lookup C=ga (X' nm q C N bs (.ref C2::My) Db sn sub ab col dd k0 k1 k2 k3 k5 "ValueError.__new__"))(sa:W.findIn K (.ref C) "__setattr__"=ga (ga (.builtin "object.__setattr__")))(tk:W.findIn K (.ref C) f=ga Fa):yV K C f:=by refine⟨sa,⟨_,[C,C2],by unfold W.clsIn;rw[l1],Z',Z'⟩,?_⟩;unfold W.takerIn;rw[tk];rfl
end L2
namespace L3
open L2
variable {X:Cx}{pos Xa:Pos}{o e:Go}{es:T0 Go}{ta:T3}{t:yt}
structure FA where
 f:Uf
 d:wv
 p:QQQ
structure DG(K:qK)(st:sB)(py qual:Str)(ps:QQQ)(x:FA):Prop where
 pe:x.p=ps
 fn:PB K py qual st x.f x.d
 b:vq K x.d x.p []
 ty:W.isFn K (.ref x.f)=Db
structure TG(K:qK)(mg:QQZ)(st:sB)(py:Str)(ps:QQQ)(x:FA):Prop extends DG K st py py ps x where
 mg:mg py=ga (.ref x.f)
structure MG(K:qK)(C:Uf)(st:sB)(py qual:Str)(ps:QQQ)(x:FA):Prop extends DG K st py qual ps x where
 at_:W.findIn K (.ref C) py=ga (ga (.ref x.f))
structure CG(K:qK)(mg:QQZ)(nm:Str)(C:Uf):Prop extends Cls K C where
 mg:mg nm=ga (.ref C)
def DG.kp{K:qK}{st:sB}{x:FA}(h:DG K st py qual ps x):W.keepIn K (.ref x.f)=Db:=h.fn.kp
def MG.nE{K:qK}{st:sB}{x:FA}(h:MG K C st py qual ps x):wu K C py x.f:=⟨h.at_,h.ty,h.toDG.kp⟩
def zS(K:qK)(C:Uf)(fs:QQQ):Prop:=∀f,fs.contains f=Db->uI K C f
def ub{K:qK}:zS K C []:=λf h=>by simp at h
def qe{K:qK}{C:Uf}{g:Str}(h:W.findIn K (.ref C) g=ga Fa)(r:zS K C fs):zS K C (g::fs):=λf q=>by
 rw[iH,hU]at q;rcases q with q|q
 .rw[Ix q];exact h
 .exact r f q
abbrev Fq(P:Pg)(w:Wo)(K:qK)(mg:QQZ)(base:No)(k:Nat)(x:FA)(sp:rM):Prop:=Tu P w K mg base k x.f x.d x.p sp
abbrev Wr(P:Pg)(w:Wo)(K:qK)(mg:QQZ)(base:No)(k:Nat)(x:FA)(sp:GK):Prop:=Sm P w K mg base k x.f x.d x.p sp
noncomputable def RA(N P:QQQ)(sc:XXa):Bool:=sc.kind==.function&&(!sc.isCoroutine&&(!sc.isGenerator&&(decide N.Nodup&&(decide (N.take P.length=P)&&((P.all λx=>sc.names.lookup x==ga .local||sc.names.lookup x==ga .cell)&&sc.names.all λy=>!(y.2==.free))))))
def W5{N P:QQQ}(h:RA N P sc=Db):tQ N P sc:=by
 unfold RA at h;simp only[dU,gN,ft,eB]at h;obtain⟨h1,h2,h3,h4,h5,h6,h7⟩:=h;refine⟨h1,h2,h3,h4,h5,λx hx=>?_,λy hy e=>?_⟩
 .have:=eI.mp h6 x hx
  simpa using this
 .have:=eI.mp h7 y hy;rw[e]at this;simp at this
variable {P:Pg}{w:Wo}{K:qK}{mg:QQZ}{base:No}
def VV{st:sB}{sp:rM}(F:DG K st x qual ps fa)(S:tQ N ps (qw st))(len:∀ds M Q,sp ds M Q->ds.length=ps.length) (Xu:∀(Xi:Vl) (A:Ar) (outer:T0 Env) (s:Sd) (H:Hp) (E:XK),sQ k (A.deeper (sK qual (qw st) s.heap.objs.size fa.f Xi))->
   ∃t,Hx (vR Oa P w K mg base N qual (qw st) fa.f Xi A outer s H E).oG (sE st) t/\∀ds M Q,sp ds M Q->t {nx:=λ_ M'=>∃Xb,qO Xb M'/\Q .mW Xb,rt:=λd M'=>∃Xb,qO Xb M'/\Q d Xb} (xD N ds) M):Fq P w K mg base (k+1) fa sp:=by
 unfold Fq;rw[F.pe];exact TB F.fn S len Xu
def Uw{st:sB}{sp:GK}(F:DG K st x qual ps fa)(S:tQ N ps (qw st))(len:∀ds M Q R,sp ds M Q R->ds.length=ps.length) (Xu:∀(Xi:Vl) (A:Ar) (outer:T0 Env) (s:Sd) (H:Hp) (E:XK) (R:XR),sQ k (A.deeper (sK qual (qw st) s.heap.objs.size fa.f Xi))->TL K R E->
   ∃t,Hx (vR (Cq P w) P w K mg base N qual (qw st) fa.f Xi A outer s H E) (sE st) t/\∀ds M Q,sp ds M Q R->t {nx:=λ_ M'=>∃Xb,qO Xb M'/\Q .mW Xb,rt:=λd M'=>∃Xb,qO Xb M'/\Q d Xb} (xD N ds) M):Wr P w K mg base (k+1) fa sp:=by
 unfold Wr;rw[F.pe];exact US F.fn S len Xu
variable {k n:Nat}{f C:Uf}{fa:FA}{st:sB}{qual:Str}{ps:QQQ}{sp:rM}{x m:Str}{p:Pos}
def pV(F:Fq X.prog X.w X.K X.mg X.base k fa sp)(hr:sQ n X.A)(T:TG X.K X.mg st x ps fa)(ha:A3 X (e::es) t)(hn:k<=n:=by first|decide|lia)(hg:Gl X x:=by rfl)
  (Xs:zv x:=by decide) (he:Bm X e es:=by rfl) (Xp:Co X pos es:=by rfl):
  E3 X (.Call (.Name x p) (e::es) [] pos) (D5 sp t):=Ph F (hr.mono hn) hg T.mg T.toDG.kp T.b ha Xs he Xp
def vT(F:Fq X.prog X.w X.K X.mg X.base k fa sp)(hr:sQ n X.A)(c:CG X.K X.mg x C)(i:Mk X.K C fa.f)(T:DG X.K st m qual ps fa)(ha:A3 X (e::es) t)(hn:k+1<=n:=by first|decide|lia)(hg:Gl X x:=by rfl)
  (Xs:zv x:=by decide) (he:Bm X e es:=by rfl) (Xp:Co X pos es:=by rfl):
  E3 X (.Call (.Name x p) (e::es) [] pos) (QP C sp t):=OL c.toCls i F (hr.mono hn) hg c.mg T.b ha Xs he Xp
def qm{pl:Sem Bool}(he:E3 X o ta)(c:Cls X.K C)(T:MG X.K C st m qual ps fa)(F:Fq X.prog X.w X.K X.mg X.base k fa sp)(hr:sQ n X.A)(ha:A3 X (e::es) t)(hn:k<=n:=by first|decide|lia)
  (Xv:Bm X e es:=by rfl) (Xp:Co X pos es:=by rfl)
  (ht:wp (.Call (.Attribute o m Xa) (e::es) [] pos) X.env=(do
   let ov<-wp o X.env
   Y' Xa.atName
   let(f,first)<-xz [ov] (XV ov m pl)
   XXd pos f first (At pos (Tl (e::es) X.env)) (TD pos (Ps [] X.env))):=by rfl):
  E3 X (.Call (.Attribute o m Xa) (e::es) [] pos) (A8 m (λD s=>D=C/\s=sp) ta t):=
 BJ (R:=λD s=>D=C/\s=sp) he (λD s ⟨e1,e2⟩=>by subst e1 e2;exact⟨c,_,_,_,T.nE,F,T.b⟩) (hr.mono hn) ha Xv Xp ht
def yK{pl:Sem Bool}(he:E3 X o ta)(c:Cls X.K C)(T:MG X.K C st m qual ps fa)(F:Fq X.prog X.w X.K X.mg X.base k fa sp)(hr:sQ n X.A)(hn:k<=n:=by first|decide|lia)
  (ht:wp (.Call (.Attribute o m Xa) [] [] pos) X.env=(do
   let ov<-wp o X.env
   Y' Xa.atName
   let(f,first)<-xz [ov] (XV ov m pl)
   XXd pos f first (At pos (Tl [] X.env)) (TD pos (Ps [] X.env))):=by rfl):
  E3 X (.Call (.Attribute o m Xa) [] [] pos) (A8 m (λD s=>D=C/\s=sp) ta yr):=
 CJ (R:=λD s=>D=C/\s=sp) he (λD s ⟨e1,e2⟩=>by subst e1 e2;exact⟨c,_,_,_,T.nE,F,T.b⟩) (hr.mono hn) ht
def zh{pl:Sem Bool}(cm:NU X.K C m fa.f)(F:Fq X.prog X.w X.K X.mg X.base k fa sp)(hr:sQ n X.A)(c:CG X.K X.mg x C)(T:DG X.K st m qual ps fa)(ha:A3 X (e::es) t)(hn:k<=n:=by first|decide|lia)(hg:Gl X x:=by rfl)
  (Xs:zv x:=by decide) (Xv:Bm X e es:=by rfl) (Xp:Co X pos es:=by rfl)
  (ht:wp (.Call (.Attribute (.Name x p) m Xa) (e::es) [] pos) X.env=(do
   let ov<-wp (.Name x p) X.env
   Y' Xa.atName
   let(f,first)<-xz [ov] (XV ov m pl)
   XXd pos f first (At pos (Tl (e::es) X.env)) (TD pos (Ps [] X.env))):=by rfl):
  E3 X (.Call (.Attribute (.Name x p) m Xa) (e::es) [] pos) (D5 sp t):=OY cm F (hr.mono hn) hg c.mg T.kp T.b ha Xs Xv Xp ht
variable {h:No}{py:Str}{od an:Option Uf}{sl:Array (Option Vl)}{kv dc pm cd ct:Vl}
def Jb{fd:wv}{oc:Vl}(l:K.lookup f=ga ⟨oc,od,.func fd,sl⟩):W.keepIn K (.ref f)=Db:=by unfold W.keepIn;simp only;rw[l]
def Om{fd:wv}(l:K.lookup f=ga ⟨.type "function",od,.func fd,sl⟩):W.isFn K (.ref f)=Db:=by unfold W.isFn W.typeIn;simp only;rw[l];rfl
abbrev nz(py qual:Str)(st:sB)(ps:QQQ):Prop:=∀(kV XM pm:Vl) (an:Option Uf) (Xi ct:Vl) (us:T0 Vl),us.length=ps.length->bindArgs (W.fnOf py qual (uN st) (sE st) (qw st) .none kV XM pm an Xi ct) ⟨us,[]⟩=pure (ps.zip us)
def QW(l:K.lookup f=ga ⟨.type "function",od,.func (W.fnOf py qual (uN st) (sE st) (qw st) .none kv dc pm an cd ct),sl⟩)(k:W.codeIn K cd qual=Db)(hb:nz py qual st ps):
  DG K st py qual ps ⟨f,W.fnOf py qual (uN st) (sE st) (qw st) .none kv dc pm an cd ct,ps⟩:=⟨Z',LR l k (Jb l),(LR l k (Jb l)).binds hb,Om l⟩
def qF(X:K.In h)(G:h.Ns gt mg)(a:W.nsIn K gt py=ga (ga (.ref f)))(l:K.lookup f=ga ⟨.type "function",od,.func (W.fnOf py py (uN st) (sE st) (qw st) .none kv dc pm an cd ct),sl⟩)(k:W.codeIn K cd py=Db)(hb:nz py py st ps):
  TG K mg st py ps ⟨f,W.fnOf py py (uN st) (sE st) (qw st) .none kv dc pm an cd ct,ps⟩:=⟨QW l k hb,W.mg_of X G a⟩
def qu(a:W.findIn K (.ref C) py=ga (ga (.ref f)))(l:K.lookup f=ga ⟨.type "function",od,.func (W.fnOf py qual (uN st) (sE st) (qw st) .none kv dc pm an cd ct),sl⟩)(k:W.codeIn K cd qual=Db)(hb:nz py qual st ps):
  MG K C st py qual ps ⟨f,W.fnOf py qual (uN st) (sE st) (qw st) .none kv dc pm an cd ct,ps⟩:=⟨QW l k hb,a⟩
def xl(X:K.In h)(G:h.Ns gt mg)(a:W.nsIn K gt py=ga (ga (.ref C)))(h1:W.plainGet K C Str.empty=Db)(h2:W.hasDictIn K C=Db)(h3:W.plainOver K C=Db)(h4:W.findIn K (.ref C) "__setattr__"=ga (ga (.builtin "object.__setattr__"))):CG K mg py C:=⟨⟨h1,h2,h3,h4⟩,W.mg_of X G a⟩
def OC{x:Str}{a:Uf}{es:T0 DictEntry}{ep:Nat}(h:mg x=ga (.ref a))(s:(a==AT)=pc)(l:K.lookup a=ga ⟨.type "dict",Fa,.dict es.toArray ep,#[]⟩) (r:KTD.Rows (λ(ss:QQQ) v=>∃t,v=Value.ref t/\vM K (λ_=>Fa) t (ss.map V.str)) es T):MA K mg x T:=⟨a,_,_,_,h,s,l,⟨Z',Z',Z'⟩,Z',by simpa using r⟩
def Nb{x qual y1 y2 fl:Str}{st:sB}(F:DG K st x qual [y1,y2] fa)(S:tQ [y1,y2] [y1,y2] (qw st)) (hb:∀(Xi:Vl) (A:Ar) (outer:T0 Env) (s:Sd) (H:Hp) (E:XK),BY (vR (Cq P w) P w K mg base [y1,y2] qual (qw st) fa.f Xi A outer s H E) (sE st) (L5 K (HW 0) (HW 1) fl)):xU P w K mg base (Cq P w) 1 fa.f fa.d fa.p (xi K fl):=by
 rw[F.pe];exact MN F.fn S hb
def Ue(ds:T0 D)(M:Mp)(Q:DK):Prop:=match ds with
 | [.ref a]=>(om M a).elim False λes=>(Gg es).elim False λbs=>Q (.bl (bs.any id)) M
 | _=>False
def Td(hc:X.calm=Db):C3 X (.builtin "any") Ue:=by
 intro W7 s Y H vs us Q' I rv h;obtain⟨ds,M,Q,hd,hm,q,k⟩:=h;unfold Ue at q;split at q
 .rename_i a;obtain⟨v,rfl,hv⟩:=sN hd;obtain⟨es,e0,q⟩:=rD q;obtain⟨bs,e1,q⟩:=rD q;cases hv.mS;obtain⟨u,rfl,ru⟩:=yT rv;cases ru;obtain⟨xs,h1,h2,_⟩:=qL hm e0;obtain⟨its,r,pl,hz⟩:=I.list h1;have Z7:=Ff e1 h2 r;subst Z7;have Xx:a≠s.heap.objs.size:=by obtain⟨o,_,e,_⟩:=pl;exact dP (dB e)
  refine call_any_walk (ia pl.isList ?_);refine⟨s.heap.objs.size,_,_,_,_,_,λi=>(bs[i]?).getD pc,Z',ky (A:=X.A.in1) (I.ok.hd hc) _ a Xx (bs.map Value.bool).toArray,⟨⟨_,dM _ Z',Z',Z'⟩,?_⟩,λi v s' Q E hP hQ=>?_,λh' tk hk=>?_⟩
  .obtain⟨o,n,e,c,d,q⟩:=pl;exact⟨o,df _ e,c,n,q⟩
  .simp only[iW,dC]at hP;cases e2:bs[i]? with
   | none=>rw[e2]at hP;cases hP
   | some b=>rw[e2]at hP;cases hP;have hQ:Q ((bs[i]?).getD pc) s':=hQ;rw[e2]at hQ;exact fv hQ
  .have ea:(List.range (bs.map Value.bool).toArray.size).any (λi=>(bs[i]?).getD pc)=bs.any id:=by
    rw[dz,cV];rw[gh,gG,gG];constructor
    .rintro ⟨i,hi,z⟩
     have Yz:=gb.mp hi;rw[cY Yz]at z;exact⟨_,im Yz,z⟩
    .rintro ⟨b,hb,z⟩
     obtain⟨i,hi,e⟩:=gC hb;refine⟨i,gb.mpr hi,?_⟩;rw[cY hi,e];exact z
   rw[ea];refine⟨.bl (bs.any id),H,?_,Z',k _ _ _ _ .bl hm .refl q⟩;exact I.kept (h':=h') (t':=tk) λb o e=>hk b o (by simpa using dP (dB e)) (df _ e)
 .exact q.elim
def Rb:zn "any"=ga (.builtin "any"):=by decide+kernel
end L3
namespace L3
open L2
def Lh(i:Nat){X:Cx}{pos:Pos}{x:Str}(h1:X.N[i]?=ga x:=by rfl)(h2:UL X.env.scope x:=by first|exact Or.inl Z'|exact Or.inr (Or.inl Z')|exact Or.inr (Or.inr Z'))(h3:zv x:=by decide)(h4:(x==("__classdict__":Str))=pc:=by decide):E3 X (.Name x pos) (v3 i):=SV i (pv i h1 h2 h3 h4)
variable {X:Cx}{pos:Pos}
def WV{N:QQQ}(h:decide N.Nodup=Db):N.Nodup:=fD h
def pW(i:Nat){x:Str}{e:Go}{te:T3}{Xl:Pos}{ps:QQQ}{sc:XXa}(S:tQ X.N ps sc)(he:E3 X e te)(hi:X.N[i]?=ga x:=by rfl)(hx:Nk X.env.scope x:=by first|exact Or.inl Z'|exact Or.inr Z')(YG:ZB e (ga (.Name x Xl)) pos.line X.env=pure pc:=by rfl)(hf:L0 X x:=by first|exact .inl Z'|exact .inr Z'|assumption):S3 X (.Assign [.Name x Xl] e pos) (B5 te (qZ i)):=Tj S.nd hi hx he YG hf
def rP(i:Nat){x:Str}{ps:QQQ}{sc:XXa}(S:tQ X.N ps sc)(hi:X.N[i]?=ga x:=by rfl)(hx:Nk X.env.scope x:=by first|exact Or.inl Z'|exact Or.inr Z')(hf:L0 X x:=by first|exact .inl Z'|exact .inr Z'|assumption):G3 X (.Name x pos) (qZ i):=JU S.nd hi hx hf
def qQ(i:Nat){x:Str}(hN:decide X.N.Nodup=Db:=by kernel_rfl)(hi:X.N[i]?=ga x:=by rfl)(hx:Nk X.env.scope x:=by first|exact Or.inl Z'|exact Or.inr Z')(hf:L0 X x:=by first|exact .inl Z'|exact .inr Z'|assumption):G3 X (.Name x pos) (qZ i):=JU (WV hN) hi hx hf
abbrev Sc(n:Nat)(N:QQQ)(s:sB):=tQ N (N.take n) (qw s)
def sk{n:Nat}{s:sB}(h:RA N (N.take n) (qw s)=Db:=by decide+kernel):Sc n N s:=W5 h
def qp(h0:E3 X e0 t0)(g0:Tl [e0] X.env=(pc,wp e0 X.env)::Tl [] X.env:=by rfl):A3 X [e0] (wb t0 yr):=(qh h0 sH g0)
def sd(h0:E3 X e0 t0)(h1:E3 X e1 t1)(g0:Tl [e0,e1] X.env=(pc,wp e0 X.env)::Tl [e1] X.env:=by rfl)(g1:Tl [e1] X.env=(pc,wp e1 X.env)::Tl [] X.env:=by rfl):A3 X [e0,e1] (wb t0 (wb t1 yr)):=(qh h0 (qh h1 sH g1) g0)
def rJ(h0:E3 X e0 t0)(h1:E3 X e1 t1)(h2:E3 X e2 t2)(g0:Tl [e0,e1,e2] X.env=(pc,wp e0 X.env)::Tl [e1,e2] X.env:=by rfl)(g1:Tl [e1,e2] X.env=(pc,wp e1 X.env)::Tl [e2] X.env:=by rfl)(g2:Tl [e2] X.env=(pc,wp e2 X.env)::Tl [] X.env:=by rfl):A3 X [e0,e1,e2] (wb t0 (wb t1 (wb t2 yr))):=(qh h0 (qh h1 (qh h2 sH g2) g1) g0)
abbrev v0:=@Lh 0
abbrev U1:=@Lh 1
abbrev U2:=@Lh 2
abbrev U3:=@Lh 3
abbrev v5:=@Lh 5
abbrev v4:=@Lh 4
abbrev v6:=@Lh 6
abbrev v7:=@Lh 7
abbrev v8:=@Lh 8
abbrev v9:=@Lh 9
abbrev Wp:=@Lh 11
abbrev Pp:=@Lh 10
variable {P:Pg}{w:Wo}{K:qK}{mg:QQZ}{base:No}
def fq{st:sB}{sp:rM}(F:DG K st x qual ps fa)(S:tQ N ps (qw st)) (hb:∀{Xi:Vl} {A:Ar} {outer:T0 Env} {s:Sd} {H:Hp} {E:XK},sQ k (A.deeper (sK qual (qw st) s.heap.objs.size fa.f Xi))->(A.deeper (sK qual (qw st) s.heap.objs.size fa.f Xi)).units+9<W'->
   ∃t,Hx (vR Oa P w K mg base N qual (qw st) fa.f Xi A outer s H E).oG (sE st) t/\∀ds M Q,sp ds M Q->t {nx:=λ_ M'=>∃Xb,qO Xb M'/\Q .mW Xb,rt:=λd M'=>∃Xb,qO Xb M'/\Q d Xb} (xD N ds) M) (len:∀ds M Q,sp ds M Q->ds.length=ps.length:=by walk_at "l"):Fq P w K mg base (k+1) fa sp:=VV F S len λ_ _ _ _ _ _ h=>hb h (WK h)
def xV{X:Cx}(h:Ii X.env.scope X.N scope ix N'=Db:=by kernel_rfl):sV X scope ix N':=T6 h
end L3
namespace Z
section
open L2 L3
def uT{M:L3.Mp}{x:PySem.Addr}{ds:T0 L3.D}(h:M x=Fa):∃M',M'=L3.pQ M x (.lst ds)/\qO M M'/\L3.om M' x=ga ds:=⟨_,Z',qO.new h,L3.pS⟩
def rH(i:Nat):sB:=PySem.Challenge.pw_callboard_k31_routes_walked.main.body.getD i (.Pass ⟨0,0,0,0⟩)
abbrev tm(i j:Nat):sB:=QE (rH i) j
def CU:Sc 3 ["board","caller","target","wishes"] (rH 1):=sk
def tW:Sc 3 ["board","caller","target","free","members","place","in_turn"] (rH 2):=sk
def vL:Sc 3 ["board","caller","target","phones"] (rH 3):=sk
def AK:Sc 2 ["wanted","target"] (rH 4):=sk
def xm:Sc 4 ["board","caller","target","way","come_to","steps","fits","wanted"] (rH 5):=sk
def AG:Sc 1 ["answers"] (rH 7):=sk
def Hq:Sc 2 ["call","word"] (rH 9):=sk
def Dp:Sc 2 ["call","phone"] (rH 10):=sk
def ya:Sc 2 ["call","event","word"] (rH 11):=sk
def xQ:Sc 1 ["call","lists"] (rH 13):=sk
def C6:Sc 1 ["board","calls"] (rH 14):=sk
def yZ:Sc 2 ["board","phone"] (rH 20):=sk
def xc:Sc 3 ["board","phone","target","word"] (rH 21):=sk
def MQ:Sc 3 ["word","phone","calls"] (rH 22):=sk
def ul:Sc 4 ["board","word","phone","numbers","calls","due"] (rH 23):=sk
def zk:Sc 3 ["board","word","number"] (rH 24):=sk
def Cv:Sc 2 ["board","deed","word"] (rH 25):=sk
def uz:Sc 3 ["board","number","steps","last","target","fits"] (rH 26):=sk
def vi:Sc 4 ["board","number","target","phones","members","place"] (rH 27):=sk
def yc:Sc 3 ["board","number","target","talk","members"] (rH 28):=sk
def yq:Sc 3 ["board","number","end","word"] (rH 29):=sk
def wY:Sc 2 ["board","number","call","told","end","steps","last"] (rH 30):=sk
def zC:Sc 3 ["board","phone","target","number"] (rH 31):=sk
def Cd:Sc 3 ["board","phone","number","call"] (rH 32):=sk
def yS:Sc 2 ["board","call","wishes"] (rH 33):=sk
def CD:Sc 3 ["board","number","fits","wish"] (rH 34):=sk
def ud:Sc 1 ["board","number","call","fits"] (rH 35):=sk
def tY:Sc 2 ["board","deed","word","phone","number","call","kept","others"] (rH 36):=sk
def Nn:Sc 2 ["board","deed","word"] (rH 37):=sk
def IF:Sc 2 ["board","deed","word","begun"] (rH 38):=sk
def HI:Sc 3 ["board","caller","target"] (rH 40):=sk
def BZ:Sc 1 ["told","word"] (rH 51):=sk
def Pa:Sc 2 ["holds","words"] (rH 66):=sk
def Ib:Sc 1 ["text"] (rH 67):=sk
def Dl:Sc 1 ["things"] (rH 68):=sk
def Fs:Sc 3 ["chosen","known","most"] (rH 69):=sk
def uG:Sc 1 ["phones","name","lines","rank"] (rH 70):=sk
def uC:Sc 2 ["groups","phone_names","name","manner","members"] (rH 71):=sk
def DQ:Sc 4 ["kind","part","phone_names","names"] (rH 72):=sk
def uy:Sc 3 ["wish","phone_names","names","form","parts","kind","part"] (rH 73):=sk
def vD:Sc 3 ["wishes","phone_names","names","on","wish"] (rH 74):=sk
def wR:Sc 3 ["phones","groups","wishes","phone_names","names"] (rH 75):=sk
def KQ:Sc 2 ["_law_script","_law_k"] (rH 78):=sk
def G9:Sc 3 ["_law_cell","_law_factor","_law_many"] (rH 79):=sk
def uJ:Sc 2 ["_law_seed","_law_which","_law_letters","_law_size","_law_place","_law_rest","_law_sign"] (rH 80):=sk
def xZ:Sc 3 ["_law_row","_law_cell","_law_most","_law_first","_law_size"] (rH 81):=sk
def vn:Sc 2 ["_law_seed","_law_most","_law_phones_here","_law_k","_law_lines"] (rH 82):=sk
def vo:Sc 2 ["_law_seed","_law_own","_law_groups_here","_law_g","_law_manner"] (rH 83):=sk
def tZ:Sc 3 ["_law_cell","_law_own","_law_names","_law_a","_law_place","_law_b","_law_c","_law_pick","_law_first"] (rH 84):=sk
def sZ:Sc 2 ["_law_script","_law_most","_law_seed","_law_phones_here","_law_own","_law_groups_here","_law_names","_law_wishes","_law_k","_law_cell"] (rH 85):=sk
def DC:Sc 1 ["_law_call"] (rH 86):=sk
def Bz:Sc 2 ["_law_board","_law_states"] (rH 87):=sk
def rZ:Sc 4 ["_law_board","_law_cell","_law_word_here","_law_states","_law_some_here","_law_k","_law_people_here","_law_a","_law_m"] (rH 88):=sk
def vk:Sc 4 ["_law_cell","_law_own","_law_names","_law_many","_law_a","_law_b","_law_k","_law_m","_law_some_here"] (rH 89):=sk
def rY:Sc 4 ["_law_board","_law_cell","_law_own","_law_names","_law_word_here","_law_states","_law_found","_law_a"] (rH 90):=sk
def yk:Sc 2 ["_law_board","_law_deed_here","_law_fine"] (rH 91):=sk
def KP:Sc 2 ["_law_call","_law_phone"] (rH 92):=sk
def qH:Sc 4 ["_law_board","_law_made","_law_caller","_law_target","_law_members","_law_name","_law_manner","_law_some_here","_law_place","_law_lines","_law_free","_law_used"] (rH 93):=sk
def wn:Sc 5 ["_law_board","_law_made","_law_caller","_law_target","_law_fits","_law_free","_law_told"] (rH 94):=sk
def rW:Sc 6 ["_law_board","_law_made","_law_caller","_law_target","_law_way_here","_law_told","_law_come","_law_due","_law_step","_law_fits","_law_i","_law_wish_here"] (rH 95):=sk
def xM:Sc 2 ["_law_cell","_law_names","_law_left","_law_way_here","_law_k"] (rH 96):=sk
def sY:Sc 5 ["_law_board","_law_made","_law_own","_law_names","_law_cell","_law_caller","_law_target","_law_way_here","_law_before","_law_handed","_law_told","_law_kept"] (rH 97):=sk
def yu:Sc 1 ["_law_script","_law_made","_law_whole","_law_own","_law_names","_law_board","_law_k","_law_cell"] (rH 98):=sk
def CP:Sc 2 ["self","word"] (tm 18 0):=sk
def EZ:Sc 4 ["self","phones","groups","wishes"] (tm 76 0):=sk
def DL:Sc 3 ["self","plan","hour"] (tm 12 0):=sk
def Gf:Sc 2 ["self","told"] (tm 42 0):=sk
def F6:Sc 2 ["self","told"] (tm 43 0):=sk
def Bw:Sc 2 ["self","told"] (tm 44 0):=sk
def DF:Sc 2 ["self","told"] (tm 46 0):=sk
def CZ:Sc 2 ["self","told"] (tm 48 0):=sk
def FE:Sc 2 ["self","told"] (tm 49 0):=sk
def Cp:Sc 2 ["self","told"] (tm 50 0):=sk
def Am:Sc 2 ["self","phone"] (tm 12 3):=sk
def FX:Sc 1 ["self"] (tm 42 1):=sk
def DT:Sc 1 ["self"] (tm 43 1):=sk
def Av:Sc 1 ["self"] (tm 44 1):=sk
def DR:Sc 1 ["self"] (tm 49 1):=sk
def Bt:Sc 1 ["self"] (tm 50 1):=sk
def G5:Sc 4 ["self","board","caller","target"] (tm 42 2):=sk
def Fm:Sc 4 ["self","board","caller","target"] (tm 43 2):=sk
def C1:Sc 4 ["self","board","caller","target"] (tm 45 0):=sk
def DM:Sc 4 ["self","board","caller","target"] (tm 46 2):=sk
def FD:Sc 4 ["self","board","caller","target"] (tm 47 0):=sk
def Cj:Sc 4 ["self","board","caller","target"] (tm 48 1):=sk
def Fy:Sc 4 ["self","board","caller","target"] (tm 49 2):=sk
def vZ:Sc 4 ["self","board","caller","target","talk","members"] (tm 50 3):=sk
def EL:Sc 2 ["self","told"] (tm 41 0):=sk
def yN:Sc 1 ["self"] (tm 76 2):=sk
def x8:Sc 2 ["self","event","word"] (tm 12 12):=sk
def zy:Sc 2 ["self","hour"] (tm 46 1):=sk
def zE:Sc 1 ["self"] (tm 12 8):=sk
def zx:Sc 2 ["self","phone"] (tm 12 6):=sk
def vS:Sc 3 ["self","plan","members","rank"] (tm 50 2):=sk
def DE:Sc 1 ["self"] (tm 76 1):=sk
def AH:Sc 2 ["self","phone"] (tm 12 2):=sk
def FM:Sc 2 ["self","caller"] (tm 8 0):=sk
def zi:Sc 2 ["self","phone"] (tm 8 2):=sk
def zq:Sc 2 ["self","phone"] (tm 8 5):=sk
def yP:Sc 2 ["self","phone"] (tm 8 4):=sk
def Ak:Sc 2 ["self","leg"] (tm 12 10):=sk
def yx:Sc 4 ["self","merged","kept","members","call"] (tm 12 11):=sk
def vX:Sc 1 ["self","call"] (tm 12 9):=sk
def zo:Sc 2 ["self","phone"] (tm 8 8):=sk
def zH:Sc 3 ["self","caller","target"] (tm 12 7):=sk
def BX:Sc 2 ["self","name"] (tm 76 6):=sk
def zw:Sc 2 ["self","name"] (tm 76 5):=sk
def FO:Sc 2 ["self","phone"] (tm 76 4):=sk
def Df:Sc 2 ["self","phone"] (tm 12 4):=sk
def Az:Sc 2 ["self","phone"] (tm 12 5):=sk
def DW:Sc 2 ["self","phone"] (tm 12 1):=sk
def Dn:Sc 2 ["self","phone"] (tm 76 3):=sk
def xy:Sc 2 ["self","phone"] (tm 8 7):=sk
def Dt:Sc 2 ["self","phone"] (tm 8 6):=sk
def Cy:Sc 2 ["self","call"] (tm 41 4):=sk
def An:Sc 2 ["self","call"] (tm 48 2):=sk
def F7:Sc 1 ["self"] (tm 41 1):=sk
def Do:Sc 2 ["self","phone"] (tm 8 3):=sk
def Gy:Sc 2 ["self","phone"] (tm 8 1):=sk
noncomputable def J9:T0 (Str×QQQ):=[("bar",["phone","names"]),("shut",["name","phones"]),("always",["name","name"]),("night",["name","name","hour","hour"]),("busy",["name","name"]),("silent",["name","name","turns"]),("wait",["phone"]),("breaks",["phone"])]
set_option genInjectivity false in
structure Ad where
 (aR aS aT aU J L ab aV aW aX ac ad aY aZ a0 a1 a2 a3 a4 a5 a6 ae a7 a8 a9 ba bb bc bd M N be o af ag O bf bg bh bi bj bk P i ah Q bl bm bn bo bp bq br bs bt bu bv bw bx bz bA bB ai H aj ak al am B an ao ap aq R ar au A av aw ax ay az aA aB aC aD aE F S k bC bD bE bF bG T aF U aG V bH bI bJ aH aI aJ X aK bK bL bM bN bO aL t aM n bP bQ:FA)
 (e c C u v Y y q z w x r h b5 I:Uf)
structure Gl(K:qK)(mg:QQZ)(a:Ad):Prop where
 e:CG K mg "Call" a.e
 c:CG K mg "Board" a.c
 C:CG K mg "Wish" a.C
 u:CG K mg "Bar" a.u
 v:CG K mg "Shut" a.v
 Y:CG K mg "Forward" a.Y
 y:CG K mg "Always" a.y
 q:CG K mg "Night" a.q
 z:CG K mg "Busy" a.z
 w:CG K mg "Silent" a.w
 x:CG K mg "Wait" a.x
 r:CG K mg "Breaks" a.r
 h:CG K mg "Plan" a.h
 cU:mg "CallError"=ga (.ref a.b5)
 bZ:mg "NoDeed"=ga (.ref a.I)
 aR:TG K mg (rH 1) "fitting" ["board","caller","target"] a.aR
 aS:TG K mg (rH 2) "rung_phones" ["board","caller","target"] a.aS
 aT:TG K mg (rH 3) "end_without_wish" ["board","caller","target"] a.aT
 aU:TG K mg (rH 4) "end_as_wanted" ["wanted","target"] a.aU
 J:TG K mg (rH 5) "route" ["board","caller","target","way"] a.J
 L:TG K mg (rH 7) "place_of_true" ["answers"] a.L
 ab:TG K mg (rH 9) "end_call" ["call","word"] a.ab
 aV:TG K mg (rH 10) "drop_phone" ["call","phone"] a.aV
 aW:TG K mg (rH 11) "change_call" ["call","event"] a.aW
 aX:TG K mg (rH 13) "call_picture" ["call"] a.aX
 ac:TG K mg (rH 14) "picture" ["board"] a.ac
 ad:TG K mg (rH 20) "word_for_idling" ["board","phone"] a.ad
 aY:TG K mg (rH 21) "word_for_call" ["board","phone","target"] a.aY
 aZ:TG K mg (rH 22) "suits" ["word","phone","calls"] a.aZ
 a0:TG K mg (rH 23) "word_for_numbers" ["board","word","phone","numbers"] a.a0
 a1:TG K mg (rH 24) "word_for_switch" ["board","word","number"] a.a1
 a2:TG K mg (rH 25) "refusal" ["board","deed"] a.a2
 a3:TG K mg (rH 26) "take_steps" ["board","number","steps"] a.a3
 a4:TG K mg (rH 27) "start_ringing" ["board","number","target","phones"] a.a4
 a5:TG K mg (rH 28) "break_in" ["board","number","target"] a.a5
 a6:TG K mg (rH 29) "come_to_end" ["board","number","end"] a.a6
 ae:TG K mg (rH 30) "go_on" ["board","number"] a.ae
 a7:TG K mg (rH 31) "make_call" ["board","phone","target"] a.a7
 a8:TG K mg (rH 32) "hang_up" ["board","phone","number"] a.a8
 a9:TG K mg (rH 33) "due_wishes" ["board","call"] a.a9
 ba:TG K mg (rH 34) "send_on" ["board","number","fits"] a.ba
 bb:TG K mg (rH 35) "let_turn_pass" ["board"] a.bb
 bc:TG K mg (rH 36) "event_of" ["board","deed"] a.bc
 bd:TG K mg (rH 37) "act" ["board","deed"] a.bd
 M:TG K mg (rH 38) "do" ["board","deed"] a.M
 N:TG K mg (rH 40) "is_busy" ["board","caller","target"] a.N
 be:TG K mg (rH 51) "wish_of" ["told"] a.be
 o:TG K mg (rH 66) "need" ["holds","words"] a.o
 af:TG K mg (rH 67) "is_name" ["text"] a.af
 ag:TG K mg (rH 68) "all_unlike" ["things"] a.ag
 O:TG K mg (rH 69) "is_choice" ["chosen","known","most"] a.O
 bf:TG K mg (rH 70) "check_phones" ["phones"] a.bf
 bg:TG K mg (rH 71) "check_groups" ["groups","phone_names"] a.bg
 bh:TG K mg (rH 72) "part_holds" ["kind","part","phone_names","names"] a.bh
 bi:TG K mg (rH 73) "check_wish" ["wish","phone_names","names"] a.bi
 bj:TG K mg (rH 74) "check_wishes" ["wishes","phone_names","names"] a.bj
 bk:TG K mg (rH 75) "check_plan" ["phones","groups","wishes"] a.bk
 P:TG K mg (rH 78) "_law_at" ["_law_script","_law_k"] a.P
 i:TG K mg (rH 79) "_law_draw" ["_law_cell","_law_factor","_law_many"] a.i
 ah:TG K mg (rH 80) "_law_word" ["_law_seed","_law_which"] a.ah
 Q:TG K mg (rH 81) "_law_some" ["_law_row","_law_cell","_law_most"] a.Q
 bl:TG K mg (rH 82) "_law_phones" ["_law_seed","_law_most"] a.bl
 bm:TG K mg (rH 83) "_law_groups" ["_law_seed","_law_own"] a.bm
 bn:TG K mg (rH 84) "_law_wish" ["_law_cell","_law_own","_law_names"] a.bn
 bo:TG K mg (rH 85) "_law_plan" ["_law_script","_law_most"] a.bo
 bp:TG K mg (rH 86) "_law_people" ["_law_call"] a.bp
 bq:TG K mg (rH 87) "_law_of_state" ["_law_board","_law_states"] a.bq
 br:TG K mg (rH 88) "_law_on_call" ["_law_board","_law_cell","_law_word_here","_law_states"] a.br
 bs:TG K mg (rH 89) "_law_any" ["_law_cell","_law_own","_law_names","_law_many"] a.bs
 bt:TG K mg (rH 90) "_law_deed" ["_law_board","_law_cell","_law_own","_law_names"] a.bt
 bu:TG K mg (rH 91) "_law_done" ["_law_board","_law_deed_here"] a.bu
 bv:TG K mg (rH 92) "_law_in" ["_law_call","_law_phone"] a.bv
 bw:TG K mg (rH 93) "_law_free_ones" ["_law_board","_law_made","_law_caller","_law_target"] a.bw
 bx:TG K mg (rH 94) "_law_due_end" ["_law_board","_law_made","_law_caller","_law_target","_law_fits"] a.bx
 bz:TG K mg (rH 95) "_law_walked" ["_law_board","_law_made","_law_caller","_law_target","_law_way_here","_law_told"] a.bz
 bA:TG K mg (rH 96) "_law_way" ["_law_cell","_law_names"] a.bA
 bB:TG K mg (rH 97) "_law_right" ["_law_board","_law_made","_law_own","_law_names","_law_cell"] a.bB
 ai:TG K mg (rH 98) "law" ["_law_script"] a.ai
 H:MG K a.I (tm 18 0) "__init__" "NoDeed.__init__" ["self","word"] a.H
 aj:MG K a.h (tm 76 0) "__init__" "Plan.__init__" ["self","phones","groups","wishes"] a.aj
 ak:MG K a.c (tm 12 0) "__init__" "Board.__init__" ["self","plan","hour"] a.ak
 al:MG K a.u (tm 42 0) "__init__" "Bar.__init__" ["self","told"] a.al
 am:MG K a.v (tm 43 0) "__init__" "Shut.__init__" ["self","told"] a.am
 B:MG K a.Y (tm 44 0) "__init__" "Forward.__init__" ["self","told"] a.B
 an:MG K a.q (tm 46 0) "__init__" "Night.__init__" ["self","told"] a.an
 ao:MG K a.w (tm 48 0) "__init__" "Silent.__init__" ["self","told"] a.ao
 ap:MG K a.x (tm 49 0) "__init__" "Wait.__init__" ["self","told"] a.ap
 aq:MG K a.r (tm 50 0) "__init__" "Breaks.__init__" ["self","told"] a.aq
 R:MG K a.c (tm 12 3) "talk_of" "Board.talk_of" ["self","phone"] a.R
 ar:MG K a.u (tm 42 1) "wants" "Bar.wants" ["self"] a.ar
 au:MG K a.v (tm 43 1) "wants" "Shut.wants" ["self"] a.au
 A:MG K a.Y (tm 44 1) "wants" "Forward.wants" ["self"] a.A
 av:MG K a.x (tm 49 1) "wants" "Wait.wants" ["self"] a.av
 aw:MG K a.r (tm 50 1) "wants" "Breaks.wants" ["self"] a.aw
 ax:MG K a.u (tm 42 2) "fits" "Bar.fits" ["self","board","caller","target"] a.ax
 ay:MG K a.v (tm 43 2) "fits" "Shut.fits" ["self","board","caller","target"] a.ay
 az:MG K a.y (tm 45 0) "fits" "Always.fits" ["self","board","caller","target"] a.az
 aA:MG K a.q (tm 46 2) "fits" "Night.fits" ["self","board","caller","target"] a.aA
 aB:MG K a.z (tm 47 0) "fits" "Busy.fits" ["self","board","caller","target"] a.aB
 aC:MG K a.w (tm 48 1) "fits" "Silent.fits" ["self","board","caller","target"] a.aC
 aD:MG K a.x (tm 49 2) "fits" "Wait.fits" ["self","board","caller","target"] a.aD
 aE:MG K a.r (tm 50 3) "fits" "Breaks.fits" ["self","board","caller","target"] a.aE
 F:MG K a.C (tm 41 0) "__init__" "Wish.__init__" ["self","told"] a.F
 S:MG K a.h (tm 76 2) "phone_names" "Plan.phone_names" ["self"] a.S
 k:MG K a.c (tm 12 12) "apply" "Board.apply" ["self","event"] a.k
 bC:MG K a.q (tm 46 1) "has_hour" "Night.has_hour" ["self","hour"] a.bC
 bD:MG K a.c (tm 12 8) "hour_now" "Board.hour_now" ["self"] a.bD
 bE:MG K a.c (tm 12 6) "waits_at" "Board.waits_at" ["self","phone"] a.bE
 bF:MG K a.r (tm 50 2) "outranks" "Breaks.outranks" ["self","plan","members"] a.bF
 bG:MG K a.h (tm 76 1) "names" "Plan.names" ["self"] a.bG
 T:MG K a.c (tm 12 2) "is_free" "Board.is_free" ["self","phone"] a.T
 aF:MG K a.e (tm 8 0) "__init__" "Call.__init__" ["self","caller"] a.aF
 U:MG K a.e (tm 8 2) "talks_with" "Call.talks_with" ["self","phone"] a.U
 aG:MG K a.e (tm 8 5) "waits_with" "Call.waits_with" ["self","phone"] a.aG
 V:MG K a.e (tm 8 4) "is_tried_by" "Call.is_tried_by" ["self","phone"] a.V
 bH:MG K a.c (tm 12 10) "add_leg" "Board.add_leg" ["self","leg"] a.bH
 bI:MG K a.c (tm 12 11) "merge" "Board.merge" ["self","merged","kept","members"] a.bI
 bJ:MG K a.c (tm 12 9) "pass_turn" "Board.pass_turn" ["self"] a.bJ
 aH:MG K a.e (tm 8 8) "other_than" "Call.other_than" ["self","phone"] a.aH
 aI:MG K a.c (tm 12 7) "ringable" "Board.ringable" ["self","caller","target"] a.aI
 aJ:MG K a.h (tm 76 6) "manner" "Plan.manner" ["self","name"] a.aJ
 X:MG K a.h (tm 76 5) "phones_of" "Plan.phones_of" ["self","name"] a.X
 aK:MG K a.h (tm 76 4) "rank" "Plan.rank" ["self","phone"] a.aK
 bK:MG K a.c (tm 12 4) "bound" "Board.bound" ["self","phone"] a.bK
 bL:MG K a.c (tm 12 5) "calling" "Board.calling" ["self","phone"] a.bL
 bM:MG K a.c (tm 12 1) "used" "Board.used" ["self","phone"] a.bM
 bN:MG K a.h (tm 76 3) "lines" "Plan.lines" ["self","phone"] a.bN
 bO:MG K a.e (tm 8 7) "can_be_left_by" "Call.can_be_left_by" ["self","phone"] a.bO
 aL:MG K a.e (tm 8 6) "pairs" "Call.pairs" ["self","phone"] a.aL
 t:MG K a.C (tm 41 4) "is_due" "Wish.is_due" ["self","call"] a.t
 aM:MG K a.w (tm 48 2) "is_due" "Silent.is_due" ["self","call"] a.aM
 n:MG K a.C (tm 41 1) "told" "Wish.told" ["self"] a.n
 bP:MG K a.e (tm 8 3) "binds" "Call.binds" ["self","phone"] a.bP
 bQ:MG K a.e (tm 8 1) "has" "Call.has" ["self","phone"] a.bQ
 b6:Jd K a.I a.H.f
 b7:yV K a.I "word"
 b8:W.exmOne K (.ref a.I) (.ref a.I)=ga Db
 b9:Mk K a.h a.aj.f
 ca:Mk K a.c a.ak.f
 cb:Mk K a.u a.al.f
 cc:Mk K a.v a.am.f
 cd:Mk K a.y a.B.f
 ce:Mk K a.q a.an.f
 cf:Mk K a.z a.B.f
 cg:Mk K a.w a.ao.f
 ch:Mk K a.x a.ap.f
 ci:Mk K a.r a.aq.f
 cj:Mk K a.e a.aF.f
 ck:wu K a.y "wants" a.A.f
 cl:wu K a.q "wants" a.A.f
 cm:wu K a.z "wants" a.A.f
 cn:wu K a.w "wants" a.A.f
 co:wu K a.u "is_due" a.t.f
 cp:wu K a.v "is_due" a.t.f
 cq:wu K a.y "is_due" a.t.f
 cr:wu K a.q "is_due" a.t.f
 cs:wu K a.z "is_due" a.t.f
 ct:wu K a.x "is_due" a.t.f
 cu:wu K a.r "is_due" a.t.f
 cv:wu K a.u "told" a.n.f
 cw:wu K a.v "told" a.n.f
 cx:wu K a.y "told" a.n.f
 cy:wu K a.q "told" a.n.f
 cz:wu K a.z "told" a.n.f
 cA:wu K a.w "told" a.n.f
 cB:wu K a.x "told" a.n.f
 cC:wu K a.r "told" a.n.f
 aN:NU K a.C "__init__" a.F.f
 b0:NU K a.Y "__init__" a.B.f
 Z:zS K a.h ["phones","groups","wishes","on","phone_rows","group_rows"]
 E:zS K a.c ["plan","hour","turn","calls","legs","nexts","on","log"]
 bV:zS K a.u ["form","phone","targets"]
 bW:zS K a.v ["form","target","callers"]
 bX:zS K a.y ["form","target","goal"]
 aO:zS K a.q ["form","target","goal","first","last"]
 bY:zS K a.z ["form","target","goal"]
 bR:zS K a.w ["form","target","goal","turns"]
 b1:zS K a.x ["form","phone"]
 b2:zS K a.r ["form","phone"]
 j:zS K a.e ["state","caller","way","at","members","holder","since","word"]
 bS:W.kitOne K (.type "tuple") (.type "tuple")=ga Db
 cD:W.kitOne K (.type "list") (.type "list")=ga Db
 aP:mg "enumerate"=Fa
 aa:mg "range"=Fa
 m:mg "list"=Fa
 bT:mg "dict"=Fa
 g:mg "len"=Fa
 l:mg "tuple"=Fa
 cE:mg "sorted"=Fa
 aQ:mg "isinstance"=Fa
 cF:mg "min"=Fa
 cG:mg "set"=Fa
 bU:mg "all"=Fa
 cH:mg "zip"=Fa
 cI:mg "any"=Fa
 cJ:KD K mg "MOST_PHONES" (.int 8)
 cK:KD K mg "MOST_LINES" (.int 3)
 cL:KD K mg "MOST_RANK" (.int 9)
 cM:KD K mg "MOST_GROUPS" (.int 3)
 cN:KD K mg "MANNERS" (.tup ((["all","turns"]:QQQ).map D.str))
 cO:KD K mg "MOST_MEMBERS" (.int 4)
 cP:KD K mg "MOST_WISHES" (.int 16)
 cQ:KD K mg "MOST_SIGNS" (.int 6)
 cR:KD K mg "LETTERS" (.str "abcdefghijklmnopqrstuvwxyz")
 b3:MA K mg "FORMS" J9
 b4:KD K mg "MOST_LISTED" (.int 6)
 cS:KD K mg "LAST_HOUR" (.int 23)
 cT:KD K mg "MOST_TURNS" (.int 9)
noncomputable def qG(c f m:Int):Int:=(c % 2147483647+5)*f % 2147483629 / 89 % m
def qU{c f m:Int}(h:0<m):0<=qG c f m:=eZ _ (by lia)
def qR{c f m:Int}(h:0<m):qG c f m<m:=eX _ h
def JQ:rM:=λds M Q=>Dj λc f m=>ds=[.int c,.int f,.int m]/\0<m/\Q (.int (qG c f m)) M
noncomputable def uZ:Str:="abcdefghijklmnopqrstuvwxyz"
noncomputable def uH(i:Int):Str:=⟨#[97+i.toNat]⟩
noncomputable def size(s:Int):Int:=1+s % 6
def uO(s:Int):Int:=s / 6 % size s
def ym(s v:Int):Str:=zb (uH (s / 36 % 26)) (uO s)++uH ((s / 936+v) % 26)++zb (uH (s / 36 % 26)) (size s - 1 - uO s)
def PQ:rM:=λds M Q=>BQ λs v=>ds=[.int s,.int v]/\Q (.str (ym s v)) M
noncomputable def cell(ns:T0 Int)(i:Int):Int:=if 0<=i/\i<ns.length then ns.getD i.toNat 0 else 0
def UY:rM:=λds M Q=>BQ λns i=>ds=[.rl (ns.map D.int),.int i]/\Q (.int (cell ns i)) M
def Gm(c:Int):0<size c:=by unfold size;have:=eZ c (show(6:Int)≠0 by decide);lia
def Jx(c:Int):size c<=6:=by unfold size;have:=eX c (show(0:Int)<6 by decide);lia
def Hh(i n:Int):(zb (uH i) n).length=n.toNat:=by show((List.replicate n.toNat (uH i).cps).foldl (·++·) #[]:Array Nat).size=n.toNat;rw[JN];show n.toNat*1=n.toNat;lia
def AM:uZ.length<=Ch:=by decide+kernel
variable {P:Pg}{w:Wo}{K:qK}{mg:QQZ}{base:No}{a:Ad}(G:Gl K mg a)
def qV:Fq P w K mg base 1 a.i JQ:=by
 refine fq G.i.toDG G9 (λr u=>⟨_,(pI (pO (ql (ql (ql (ql (ql (ql v0 pK) pK) U1) pK) pK) U2))),?_⟩)
 rintro ds M Q ⟨c,f,m,rfl,hm,q⟩
 refine⟨by decide,.inl ?_,by decide,⟨by decide,by decide⟩,hm,M,.refl,q⟩;have h1:0<=c % 2147483647:=eZ _ (by decide);have h2:c % 2147483647<2147483647:=eX _ (by decide);exact⟨by lia,by lia⟩
def D0{i:Int}(h0:0<=i)(h1:i<26):wX uZ.cps.toList i=ga (97+i.toNat):=by
 obtain⟨n,rfl⟩:=eE h0;have hn:n<26:=by lia
 have key:∀n:_root_.Fin 26,wX uZ.cps.toList ((n.val:Nat):Int)=ga (97+n.val):=by decide+kernel
 exact key ⟨n,hn⟩
def Je:Fq P w K mg base 1 a.ah PQ:=by
 refine fq G.ah.toDG uJ (λr u=>⟨_,(pH (pW 2 uJ pL)
 (pH (pW 3 uJ (ql pK (ql v0 pK)))
 (pH (pW 4 uJ (ql (ql v0 pK) U3))
 (pH (pW 5 uJ (pT U2 (ql (ql v0 pK) pK)))
 (pH (pW 6 uJ (pT U2 (ql (ql (ql v0 pK) U1) pK)))
 (pI (pO (ql (ql (ql v5 v4) v6) (ql v5 (ql (ql U3 pK) v4)))))))))),?_⟩)
 rintro ds M Q ⟨c,v,rfl,q⟩
 have hs:=Gm c;have hs6:=Jx c;have hp0:0<=uO c:=eZ _ (by lia);have YS:uO c<size c:=eX _ hs;have l1:=Hh (c / 36 % 26) (uO c);have l2:=Hh (c / 36 % 26) (size c - 1 - uO c);have hz:=dI;refine⟨by decide,⟨by decide,by decide⟩,hs,⟨by decide,by decide⟩,by decide,AM,i' (D0 (eZ _ (by decide)) (eX _ (by decide))) ?_⟩;refine⟨⟨by decide,by decide⟩,by decide,AM,i' (D0 (eZ _ (by decide)) (eX _ (by decide))) ?_⟩;refine⟨⟨?_,?_,?_⟩,?_,⟨?_,?_,?_⟩,?_,M,.refl,q⟩
 .show uO c<4096;lia
 .show -4096<uO c;lia
 .show(1:Nat)<4096;decide
 .show(zb (uH (c / 36 % 26)) (uO c)).length+1<=Ch;lia
 .show size c - 1 - uO c<4096;lia
 .show -4096<size c - 1 - uO c;lia
 .show(1:Nat)<4096;decide
 .show(zb (uH (c / 36 % 26)) (uO c)++uH ((c / 936+v) % 26)).length+(zb (uH (c / 36 % 26)) (size c - 1 - uO c)).length<=Ch;rw[PySem.size_cat];have:(uH ((c / 936+v) % 26)).length=1:=rfl;lia
def MS:Fq P w K mg base 1 a.P UY:=by
 refine fq G.P.toDG KQ (λr u=>⟨_,(pH (qa (GW u pK U1 (qc qC Z' G.g qB (qp v0)))
 (pI (pO (pT v0 U1)))
 pU)
 (pI (pO pK))),?_⟩)
 rintro ds M Q ⟨ns,i,rfl,q⟩
 refine qD (λh0=>?_) (λh0=>?_)
 .have h0:0<=i:=fD h0;refine qD (λh1=>?_) (λh1=>?_)
  .have h1:i<((ns.map D.int).length:Int):=fD h1;rw[cV]at h1;have hi:i.toNat<ns.length:=by lia
   have e:wX (ns.map D.int) i=ga (D.int (ns.getD i.toNat 0)):=by
    obtain⟨n,rfl⟩:=eE h0;have hn:n<ns.length:=by lia
    refine uB ?_;rw[dC,cY hn];simp[hn]
   refine i' e ⟨M,.refl,?_⟩;have:cell ns i=ns.getD i.toNat 0:=by unfold cell;rw[de ⟨h0,h1⟩]
   rw[<-this];exact q
  .have h1:¬i<((ns.map D.int).length:Int):=λz=>h1 (dX z);rw[cV]at h1;refine⟨M,.refl,?_⟩;have:cell ns i=0:=by unfold cell;rw[c9 (λz=>h1 z.2)]
   rw[<-this];exact q
 .have h0:¬0<=i:=λz=>h0 (dX z);refine⟨M,.refl,?_⟩;have:cell ns i=0:=by unfold cell;rw[c9 (λz=>h0 z.1)]
  rw[<-this];exact q
inductive Wi where
 | bar (x:Str) (ns:QQQ)|shut (x:Str) (ns:QQQ)|always (x y:Str)|night (x y:Str) (f l:Int)|busy (x y:Str)|silent (x y:Str) (n:Int)|wait (x:Str)|breaks (x:Str)
abbrev names(ns:QQQ):D:=.tup (ns.map D.str)
noncomputable def Wi.told:Wi->T0 D
 | .bar x ns=>[.str "bar",.str x,names ns]
 | .shut x ns=>[.str "shut",.str x,names ns]
 | .always x y=>[.str "always",.str x,.str y]
 | .night x y f l=>[.str "night",.str x,.str y,.int f,.int l]
 | .busy x y=>[.str "busy",.str x,.str y]
 | .silent x y n=>[.str "silent",.str x,.str y,.int n]
 | .wait x=>[.str "wait",.str x]
 | .breaks x=>[.str "breaks",.str x]
noncomputable def Wi.cls(a:Ad):Wi->Uf
 | .bar _ _=>a.u
 | .shut _ _=>a.v
 | .always _ _=>a.y
 | .night _ _ _ _=>a.q
 | .busy _ _=>a.z
 | .silent _ _ _=>a.w
 | .wait _=>a.x
 | .breaks _=>a.r
noncomputable def Wi.more:Wi->T0 (Str×D)
 | .bar x ns=>[("phone",.str x),("targets",names ns)]
 | .shut x ns=>[("target",.str x),("callers",names ns)]
 | .always x y=>[("target",.str x),("goal",.str y)]
 | .night x y f l=>[("target",.str x),("goal",.str y),("first",.int f),("last",.int l)]
 | .busy x y=>[("target",.str x),("goal",.str y)]
 | .silent x y n=>[("target",.str x),("goal",.str y),("turns",.int n)]
 | .wait x=>[("phone",.str x)]
 | .breaks x=>[("phone",.str x)]
noncomputable def Wi.nP(v:Wi):T0 (Str×D):=("form",.tup v.told)::v.more
abbrev AY(ns:QQQ)(i:Int):Str:=ns.getD i.toNat Str.empty
def xS(row:QQQ)(c m:Int):Nat:=(1+qG c 40692 (if (row.length:Int)<m then(row.length:Int)else m)).toNat
def UA(row:QQQ)(c:Int)(j:Nat):Str:=AY row ((qG c 69621 row.length+(0+(j:Nat))) % row.length)
def ww(row:QQQ)(c m:Int):QQQ:=(List.range (xS row c m)).map (UA row c)
def QK:rM:=λds M Q=>CO λr c m row=>ds=[.ref r,.int c,.int m]/\om M r=ga (row.map D.str)/\row≠[]/\0<m/\row.length<=64/\Q (names (ww row c m)) M
def Jp{row:QQQ}(h:row≠[])(x:Int):wX (row.map D.str) (x % row.length)=ga (D.str (AY row (x % row.length))):=by
 have hl:0<row.length:=fC.mpr h;have h0:0<=x % row.length:=eZ _ (by lia);have h1:x % row.length<row.length:=eX _ (by lia);obtain⟨n,hn⟩:=eE h0;rw[hn]at h1 ⊢;have YE:n<row.length:=by lia
 refine uB ?_;rw[dC,cY YE];simp[AY,YE]
def yI:Fq P w K mg base 2 a.Q QK:=by
 refine fq G.Q.toDG xZ (λr u=>⟨_,(pH (pW 3 xZ (pV (qV G) r G.i (rJ U1 pK (qc qC Z' G.g qB (qp v0)))))
 (pH (pW 4 xZ (ql pK (pV (qV G) r G.i (rJ U1 pK (qc (Rt Z') Z' G.cF Rh (sd U2 (qc qC Z' G.g qB (qp v0))))))))
 (pI (pO (qg rR Z' G.l rm (qp (qT Z' (xV (ix:=[Fa,ga 0,ga 3]) (N':=["_law_j","_law_row","_law_first"])) (vP Z' G.aa (qp v4)) (qQ 0) sC (pT U1 (ql (ql U2 v0) (qc qC Z' G.g qB (qp U1))))))))))),?_⟩)
 rintro ds M Q ⟨r,c,m,row,rfl,hl,Xx,hm,h64,q⟩
 have Xd:0<row.length:=fC.mpr Xx;have hz:=dI;have el:((row.map D.str).length:Int)=row.length:=by rw[cV]
 refine i' hl ⟨c,69621,_,Z',by rw[el];lia,?_⟩;refine i' hl ⟨c,40692,_,Z',by rw[el];split<;>lia,?_⟩;rw[el];have d0:=qU (c:=c) (f:=40692) (m:=if (row.length:Int)<m then(row.length:Int)else m) (by split<;>lia);have d1:=qR (c:=c) (f:=40692) (m:=if (row.length:Int)<m then(row.length:Int)else m) (by split<;>lia);have d2:qG c 40692 (if (row.length:Int)<m then(row.length:Int)else m)<row.length+1:=by refine Int.lt_of_lt_of_le d1 ?_;split<;>lia
 refine⟨Z',⟨?_,?_⟩,rG (f:=λd=>match d with|.int j=>D.str (AY row ((qG c 69621 row.length+j) % row.length))|_=>.mW) trivial _ [] _ ?_ (λd hd k hk=>?_) λp hp=>?_⟩
 .show -(2 ^ 62)<=1+qG c 40692 (if (row.length:Int)<m then(row.length:Int)else m);lia
 .show 1+qG c 40692 (if (row.length:Int)<m then(row.length:Int)else m)<2 ^ 62;lia
 .rw[cV,eC];show 0+xS row c m<=Ch;unfold xS;lia
 .obtain⟨j,_,rfl⟩:=dD.mp hd;refine i' hl ⟨by rw[el];lia,i' hl ?_⟩;rw[el];exact i' (Jp Xx _) hk
 .refine i' (x:=(ww row c m).map D.str) ?_ ⟨M,.new hp,q⟩;unfold om;rw[qd];show ga ([]++((List.range (xS row c m)).map λi=>D.int (0+(i:Nat))).map _)=_;rw[dZ,eh];unfold ww;rw[eh];rfl
def wZ(c:Int)(own all:QQQ):Wi:=
 let x:=AY own (qG c 16807 own.length);let pl:=qG c 39373 all.length;let y:=AY all pl;let z:=AY all ((pl+1+qG c 742938285 ((all.length:Int) - 1)) % all.length);let k:=qG c 1226874159 12
 if k=0 then .bar x (ww all c 3)
 else if k=1 then .shut y (ww own c 3)
 else if k=2 then .always y z
 else if k<5 then .night y z (qG c 22695477 24) ((qG c 22695477 24+1+qG c 48271 23) % 24)
 else if k<7 then .busy y z
 else if k<9 then .silent y z ([1,1,2,3,9].getD (qG c 950706376 5).toNat 0)
 else if k=9 then .wait x
 else .breaks x
def PC:rM:=λds M Q=>Hw λc o n own all=>ds=[.int c,.ref o,.ref n]/\om M o=ga (own.map D.str)/\om M n=ga (all.map D.str)/\own≠[]/\2<=all.length/\own.length<=64/\all.length<=64/\Q (.tup (wZ c own all).told) M
def Cz{row:QQQ}{x:Int}(h0:0<=x)(h1:x<row.length):wX (row.map D.str) x=ga (D.str (AY row x)):=by
 obtain⟨n,rfl⟩:=eE h0;have YE:n<row.length:=by lia
 refine uB ?_;rw[dC,cY YE];simp[AY,YE]
def QJ:Fq P w K mg base 3 a.bn PC:=by
 refine fq G.bn.toDG tZ (λr u=>⟨_,(pH (pW 3 tZ (pT U1 (pV (qV G) r G.i (rJ v0 pK (qc qC Z' G.g qB (qp U1))))))
 (pH (pW 4 tZ (pV (qV G) r G.i (rJ v0 pK (qc qC Z' G.g qB (qp U2)))))
 (pH (pW 5 tZ (pT U2 v4))
 (pH (pW 6 tZ (pT U2 (ql (ql (ql v4 pK) (pV (qV G) r G.i (rJ v0 pK (ql (qc qC Z' G.g qB (qp U2)) pK)))) (qc qC Z' G.g qB (qp U2)))))
 (pH (pW 7 tZ (pV (qV G) r G.i (rJ v0 pK pK)))
 (pH (qa (pP u v7 pK)
 (pI (pO (pX (rJ pL U3 (pV (yI G) r G.Q (rJ U2 v0 pK))))))
 pU)
 (pH (qa (pP u v7 pK)
 (pI (pO (pX (rJ pL v5 (pV (yI G) r G.Q (rJ U1 v0 pK))))))
 pU)
 (pH (qa (pP u v7 pK)
 (pI (pO (pX (rJ pL v5 v6))))
 pU)
 (pH (qa (pP u v7 pK)
 (pH (pW 8 tZ (pV (qV G) r G.i (rJ v0 pK pK)))
 (pI (pO (pX (qh pL (qh v5 (rJ v6 v8 (ql (ql (ql v8 pK) (pV (qV G) r G.i (rJ v0 pK pK))) pK))))))))
 pU)
 (pH (qa (pP u v7 pK)
 (pI (pO (pX (rJ pL v5 v6))))
 pU)
 (pH (qa (pP u v7 pK)
 (pI (pO (pX (qh pL (rJ v5 v6 (pT (pX (qh pK (qh pK (rJ pK pK pK)))) (pV (qV G) r G.i (rJ v0 pK pK))))))))
 pU)
 (pH (qa (pP u v7 pK)
 (pI (pO (pX (sd pL U3))))
 pU)
 (pI (pO (pX (sd pL U3)))))))))))))))),?_⟩)
 rintro ds M Q ⟨c,o,n,own,all,rfl,ho,hn,Xx,h2,l1,l2,q⟩
 have Xd:0<own.length:=fC.mpr Xx;have hne2:all≠[]:=λz=>by rw[z]at h2;simp at h2
 have e1:((own.map D.str).length:Int)=own.length:=by rw[cV]
 have e2:((all.map D.str).length:Int)=all.length:=by rw[cV]
 have p1:(0:Int)<own.length:=by lia
 have p2:(0:Int)<all.length:=by lia
 have p3:(0:Int)<(all.length:Int) - 1:=by lia
 refine i' ho ⟨c,_,_,Z',by rw[e1];exact p1,?_⟩;rw[e1];refine i' ho (i' (Cz (qU p1) (qR p1)) ?_);refine i' hn ⟨c,_,_,Z',by rw[e2];exact p2,?_⟩;rw[e2];refine i' hn (i' (Cz (qU p2) (qR p2)) ?_);refine i' hn ⟨c,_,_,Z',by rw[e2];exact p3,?_⟩;rw[e2];refine i' hn ⟨by rw[e2];exact p2,?_⟩;rw[e2];refine i' hn (i' (Jp hne2 _) ?_);refine⟨c,_,_,Z',by decide,?_⟩;have Xc:∀t:T0 D,(wZ c own all).told=t->∃Xb,qO Xb M/\Q (.tup t) Xb:=λt e=>⟨M,.refl,e ▸ q⟩;have k0:0<=qG c 1226874159 12:=qU (by decide);refine qD (λh=>?_) (λh=>?_)
 .have h:qG c 1226874159 12=0:=by simpa using h
  refine⟨n,c,3,all,Z',hn,hne2,by decide,l2,pE Z',Xc _ ?_⟩;simp only[wZ,de h,Wi.told]
 have h:¬qG c 1226874159 12=0:=by simpa using h
 refine qD (λg=>?_) (λg=>?_)
 .have g:qG c 1226874159 12=1:=by simpa using g
  refine⟨o,c,3,own,Z',ho,Xx,by decide,l1,pE Z',Xc _ ?_⟩;simp only[wZ,c9 h,de g,Wi.told]
 have g:¬qG c 1226874159 12=1:=by simpa using g
 refine qD (λi=>?_) (λi=>?_)
 .have i:qG c 1226874159 12=2:=by simpa using i
  refine⟨pE Z',Xc _ ?_⟩;simp only[wZ,c9 h,c9 g,de i,Wi.told]
 have i:¬qG c 1226874159 12=2:=by simpa using i
 refine qD (λj=>?_) (λj=>?_)
 .have j:qG c 1226874159 12<5:=fD j;refine⟨c,_,_,Z',by decide,c,_,_,Z',by decide,by decide,pE Z',Xc _ ?_⟩;simp only[wZ,c9 h,c9 g,c9 i,de j,Wi.told]
 have j:¬qG c 1226874159 12<5:=λz=>j (dX z);refine qD (λl=>?_) (λl=>?_)
 .have l:qG c 1226874159 12<7:=fD l;refine⟨pE Z',Xc _ ?_⟩;simp only[wZ,c9 h,c9 g,c9 i,c9 j,de l,Wi.told]
 have l:¬qG c 1226874159 12<7:=λz=>l (dX z);refine qD (λm=>?_) (λm=>?_)
 .have m:qG c 1226874159 12<9:=fD m;have d0:0<=qG c 950706376 5:=qU (by decide);have d1:qG c 950706376 5<5:=qR (by decide);have e:wX [D.int 1,.int 1,.int 2,.int 3,.int 9] (qG c 950706376 5)=ga (D.int ([1,1,2,3,9].getD (qG c 950706376 5).toNat 0)):=by
   obtain⟨t,ht⟩:=eE d0;rw[ht]at d1 ⊢;have:t<5:=by lia
   match t,this with
   | 0,_=>rfl
   | 1,_=>rfl
   | 2,_=>rfl
   | 3,_=>rfl
   | 4,_=>rfl
  refine⟨pE Z',c,_,_,Z',by decide,i' e ⟨pE Z',Xc _ ?_⟩⟩;simp only[wZ,c9 h,c9 g,c9 i,c9 j,c9 l,de m,Wi.told]
 have m:¬qG c 1226874159 12<9:=λz=>m (dX z);refine qD (λr=>?_) (λr=>?_)
 .have r:qG c 1226874159 12=9:=by simpa using r
  refine⟨pE Z',Xc _ ?_⟩;simp only[wZ,c9 h,c9 g,c9 i,c9 j,c9 l,c9 m,de r,Wi.told]
 have r:¬qG c 1226874159 12=9:=by simpa using r
 refine⟨pE Z',Xc _ ?_⟩;simp only[wZ,c9 h,c9 g,c9 i,c9 j,c9 l,c9 m,c9 r,Wi.told]
def L8(K:qK):rM:=λds M Q=>Dj λp d C=>ds=[.ref p,d]/\M p=ga (.ins C [])/\uI K C "form"/\Q .mW (pQ M p (.ins C [("form",d)]))
def ML(K:qK):rM:=λds M Q=>Hw λp t x y C=>ds=[.ref p,.tup t]/\wX t 1=ga x/\wX t 2=ga y/\M p=ga (.ins C [])/\uI K C "form"/\uI K C "target"/\uI K C "goal"/\Q .mW (pQ M p (.ins C [("form",.tup t),("target",x),("goal",y)]))
def yJ(a:Ad)(k:Wi->Prop):rM:=λds M Q=>BQ λp v=>ds=[.ref p,.tup (Wi.told v)]/\k v/\M p=ga (.ins (v.cls a) [])/\Q .mW (pQ M p (.ins (v.cls a) v.nP))
def ye:Fq P w K mg base 1 a.F (L8 K):=by
 refine fq G.F.toDG EL (λr u=>⟨_,(pI (qv v0 U1)),?_⟩)
 rintro ds M Q ⟨p,d,C,rfl,hp,na,q⟩
 exact pJ hp ⟨na,by decide,_,.refl,q⟩
def zN:Fq P w K mg base 2 a.B (ML K):=by
 refine fq G.B.toDG Bw (λr u=>⟨_,(pH (pY (zh G.aN (ye G) r G.C G.F.toDG (sd v0 U1)))
 (pH (qv v0 (pT U1 pK))
 (pI (qv v0 (pT U1 pK))))),?_⟩)
 rintro ds M Q ⟨p,t,x,y,C,rfl,e1,e2,hp,n1,n2,n3,q⟩
 refine⟨p,_,C,Z',hp,n1,i' e1 (pJ qd ⟨n2,by show 1<1000;decide,?_⟩)⟩;refine i' e2 (pJ qd ⟨n3,by show 2<1000;decide,_,?_,q⟩);rw[sf,sf];exact .refl
def Tc:Fq P w K mg base 2 a.al (yJ a λv=>∃x ns,v=.bar x ns):=by
 refine fq G.al.toDG Gf (λr u=>⟨_,(pH (pY (zh G.aN (ye G) r G.C G.F.toDG (sd v0 U1)))
 (pH (qv v0 (pT U1 pK))
 (pI (qv v0 (pT U1 pK))))),?_⟩)
 rintro ds M Q ⟨p,v,rfl,⟨x,ns,rfl⟩,hp,q⟩
 refine⟨p,_,_,Z',hp,(G.bV "form" Z'),pJ qd ⟨(G.bV "phone" Z'),by show 1<1000;decide,?_⟩⟩;refine pJ qd ⟨(G.bV "targets" Z'),by show 2<1000;decide,_,?_,q⟩;rw[sf,sf];exact .refl
def QA:Fq P w K mg base 2 a.am (yJ a λv=>∃x ns,v=.shut x ns):=by
 refine fq G.am.toDG F6 (λr u=>⟨_,(pH (pY (zh G.aN (ye G) r G.C G.F.toDG (sd v0 U1)))
 (pH (qv v0 (pT U1 pK))
 (pI (qv v0 (pT U1 pK))))),?_⟩)
 rintro ds M Q ⟨p,v,rfl,⟨x,ns,rfl⟩,hp,q⟩
 refine⟨p,_,_,Z',hp,(G.bW "form" Z'),pJ qd ⟨(G.bW "target" Z'),by show 1<1000;decide,?_⟩⟩;refine pJ qd ⟨(G.bW "callers" Z'),by show 2<1000;decide,_,?_,q⟩;rw[sf,sf];exact .refl
def Nm:Fq P w K mg base 3 a.an (yJ a λv=>∃x y f l,v=.night x y f l):=by
 refine fq G.an.toDG DF (λr u=>⟨_,(pH (pY (zh G.b0 (zN G) r G.Y G.B.toDG (sd v0 U1)))
 (pH (qv v0 (pT U1 pK))
 (pI (qv v0 (pT U1 pK))))),?_⟩)
 rintro ds M Q ⟨p,v,rfl,⟨x,y,f,l,rfl⟩,hp,q⟩
 refine⟨p,_,_,_,_,Z',Z',Z',hp,(G.aO "form" Z'),(G.aO "target" Z'),(G.aO "goal" Z'),pJ qd ⟨(G.aO "first" Z'),by show 3<1000;decide,?_⟩⟩;refine pJ qd ⟨(G.aO "last" Z'),by show 4<1000;decide,_,?_,q⟩;rw[sf,sf];exact .refl
def KC:Fq P w K mg base 3 a.ao (yJ a λv=>∃x y n,v=.silent x y n):=by
 refine fq G.ao.toDG CZ (λr u=>⟨_,(pH (pY (zh G.b0 (zN G) r G.Y G.B.toDG (sd v0 U1)))
 (pI (qv v0 (pT U1 pK)))),?_⟩)
 rintro ds M Q ⟨p,v,rfl,⟨x,y,n,rfl⟩,hp,q⟩
 refine⟨p,_,_,_,_,Z',Z',Z',hp,(G.bR "form" Z'),(G.bR "target" Z'),(G.bR "goal" Z'),pJ qd ⟨(G.bR "turns" Z'),by show 3<1000;decide,_,?_,q⟩⟩;rw[sf];exact .refl
def PJ:Fq P w K mg base 2 a.ap (yJ a λv=>∃x,v=.wait x):=by
 refine fq G.ap.toDG FE (λr u=>⟨_,(pH (pY (zh G.aN (ye G) r G.C G.F.toDG (sd v0 U1)))
 (pI (qv v0 (pT U1 pK)))),?_⟩)
 rintro ds M Q ⟨p,v,rfl,⟨x,rfl⟩,hp,q⟩
 refine⟨p,_,_,Z',hp,(G.b1 "form" Z'),pJ qd ⟨(G.b1 "phone" Z'),by show 1<1000;decide,_,?_,q⟩⟩;rw[sf];exact .refl
def Km:Fq P w K mg base 2 a.aq (yJ a λv=>∃x,v=.breaks x):=by
 refine fq G.aq.toDG Cp (λr u=>⟨_,(pH (pY (zh G.aN (ye G) r G.C G.F.toDG (sd v0 U1)))
 (pI (qv v0 (pT U1 pK)))),?_⟩)
 rintro ds M Q ⟨p,v,rfl,⟨x,rfl⟩,hp,q⟩
 refine⟨p,_,_,Z',hp,(G.b2 "form" Z'),pJ qd ⟨(G.b2 "phone" Z'),by show 1<1000;decide,_,?_,q⟩⟩;rw[sf];exact .refl
def HX(a:Ad):rM:=λds M Q=>∃v:Wi,ds=[.tup v.told]/\∀p,M p=Fa->Q (.ref p) (pQ M p (.ins (v.cls a) v.nP))
def IZ(a:Ad):rM:=λds M Q=>BQ λp (v:Wi)=>ds=[.ref p]/\M p=ga (.ins (v.cls a) v.nP)/\Q (.tup v.told) M
def IM:rM:=λds M Q=>∃p,ds=[.ref p]/\Q (.tup [.str "end"]) M
def Mo:rM:=λds M Q=>∃p,ds=[.ref p]/\Q (.tup [.str "break"]) M
def Q5:rM:=λds M Q=>CO λp C fs y=>ds=[.ref p]/\M p=ga (.ins C fs)/\fs.lookup ("goal":Str)=ga y/\Q (.tup [.str "to",y]) M
def Q2:rM:=λds M Q=>CO λp C fs y=>ds=[.ref p]/\M p=ga (.ins C fs)/\fs.lookup ("phone":Str)=ga y/\Q (.tup [.str "wait",y]) M
def Ls(a:Ad):Uf->rM->Prop:=λC sp=>(∃v:Wi,C=v.cls a)/\sp=IZ a
def JW(a:Ad):Uf->rM->Prop:=λC sp=>((C=a.u\/C=a.v)/\sp=IM)\/((C=a.y\/C=a.q\/C=a.z\/C=a.w)/\sp=Q5)\/(C=a.x/\sp=Q2)\/(C=a.r/\sp=Mo)
def HK:Fq P w K mg base 5 a.be (HX a):=by
 refine fq G.be.toDG BZ (λr u=>⟨_,(pH (pW 1 BZ (pT v0 pK))
 (pH (qa (pP u U1 pL)
 (pI (pO (vT (Tc G) r G.u G.cb G.al.toDG (qp v0))))
 pU)
 (pH (qa (pP u U1 pL)
 (pI (pO (vT (QA G) r G.v G.cc G.am.toDG (qp v0))))
 pU)
 (pH (qa (pP u U1 pL)
 (pI (pO (vT (zN G) r G.y G.cd G.B.toDG (qp v0))))
 pU)
 (pH (qa (pP u U1 pL)
 (pI (pO (vT (Nm G) r G.q G.ce G.an.toDG (qp v0))))
 pU)
 (pH (qa (pP u U1 pL)
 (pI (pO (vT (zN G) r G.z G.cf G.B.toDG (qp v0))))
 pU)
 (pH (qa (pP u U1 pL)
 (pI (pO (vT (KC G) r G.w G.cg G.ao.toDG (qp v0))))
 pU)
 (pH (qa (pP u U1 pL)
 (pI (pO (vT (PJ G) r G.x G.ch G.ap.toDG (qp v0))))
 pU)
 (pH (qa (pP u U1 pL)
 (pI (pO (vT (Km G) r G.r G.ci G.aq.toDG (qp v0))))
 pU)
 (pI G')))))))))),?_⟩)
 rintro ds M Q ⟨v,rfl,q⟩
 have Xc:∀(x:Uf) (c0 c1:vE) (C:Uf) (fs:T0 (Str×D)),M x=Fa->Q (.ref x) (pQ M x c1)->∃Xb,qO Xb (pQ (pQ M x c0) x c1)/\Q (.ref x) Xb:=λx c0 c1 C fs hx q=>⟨_,by rw[sf];exact .refl,q⟩;cases v with
 | bar x ns=>exact λp hp=>⟨p,.bar x ns,Z',⟨_,_,Z'⟩,qd,Z',Xc p _ _ 0 [] hp (q p hp)⟩
 | shut x ns=>exact λp hp=>⟨p,.shut x ns,Z',⟨_,_,Z'⟩,qd,Z',Xc p _ _ 0 [] hp (q p hp)⟩
 | always x y=>exact λp hp=>⟨p,_,_,_,_,Z',Z',Z',qd,(G.bX "form" Z'),(G.bX "target" Z'),(G.bX "goal" Z'),Z',Xc p _ _ 0 [] hp (q p hp)⟩
 | night x y f l=>exact λp hp=>⟨p,.night x y f l,Z',⟨_,_,_,_,Z'⟩,qd,Z',Xc p _ _ 0 [] hp (q p hp)⟩
 | busy x y=>exact λp hp=>⟨p,_,_,_,_,Z',Z',Z',qd,(G.bY "form" Z'),(G.bY "target" Z'),(G.bY "goal" Z'),Z',Xc p _ _ 0 [] hp (q p hp)⟩
 | silent x y n=>exact λp hp=>⟨p,.silent x y n,Z',⟨_,_,_,Z'⟩,qd,Z',Xc p _ _ 0 [] hp (q p hp)⟩
 | wait x=>exact λp hp=>⟨p,.wait x,Z',⟨_,Z'⟩,qd,Z',Xc p _ _ 0 [] hp (q p hp)⟩
 | breaks x=>exact λp hp=>⟨p,.breaks x,Z',⟨_,Z'⟩,qd,Z',Xc p _ _ 0 [] hp (q p hp)⟩
def PN:Fq P w K mg base 1 a.n (IZ a):=by
 refine fq G.n.toDG F7 (λr u=>⟨_,(pI (pO (pN v0))),?_⟩)
 rintro ds M Q ⟨p,v,rfl,hp,q⟩
 exact pJ hp (i' Z' ⟨M,.refl,q⟩)
def P3:Fq P w K mg base 1 a.ar IM:=by
 refine fq G.ar.toDG FX (λr u=>⟨_,(pI (pO (pX (qp pL)))),?_⟩)
 rintro ds M Q ⟨p,rfl,q⟩
 exact⟨pE Z',M,.refl,q⟩
def Mw:Fq P w K mg base 1 a.au IM:=by
 refine fq G.au.toDG DT (λr u=>⟨_,(pI (pO (pX (qp pL)))),?_⟩)
 rintro ds M Q ⟨p,rfl,q⟩
 exact⟨pE Z',M,.refl,q⟩
def wD:Fq P w K mg base 1 a.A Q5:=by
 refine fq G.A.toDG Av (λr u=>⟨_,(pI (pO (pX (sd pL (pN v0))))),?_⟩)
 rintro ds M Q ⟨p,C,fs,y,rfl,hp,e,q⟩
 exact pJ hp (i' e ⟨pE Z',M,.refl,q⟩)
def NG:Fq P w K mg base 1 a.av Q2:=by
 refine fq G.av.toDG DR (λr u=>⟨_,(pI (pO (pX (sd pL (pN v0))))),?_⟩)
 rintro ds M Q ⟨p,C,fs,y,rfl,hp,e,q⟩
 exact pJ hp (i' e ⟨pE Z',M,.refl,q⟩)
def HZ:Fq P w K mg base 1 a.aw Mo:=by
 refine fq G.aw.toDG Bt (λr u=>⟨_,(pI (pO (pX (qp pL)))),?_⟩)
 rintro ds M Q ⟨p,rfl,q⟩
 exact⟨pE Z',M,.refl,q⟩
def Ti:∀C sp,Ls a C sp->yz P w K mg base 1 "told" C (Oc K sp):=by
 rintro C sp ⟨⟨v,rfl⟩,rfl⟩
 have F:=PN (P:=P) (w:=w) (base:=base) G;cases v with
 | bar _ _=>exact⟨G.u.toCls,_,_,_,G.cv,F,G.n.b⟩
 | shut _ _=>exact⟨G.v.toCls,_,_,_,G.cw,F,G.n.b⟩
 | always _ _=>exact⟨G.y.toCls,_,_,_,G.cx,F,G.n.b⟩
 | night _ _ _ _=>exact⟨G.q.toCls,_,_,_,G.cy,F,G.n.b⟩
 | busy _ _=>exact⟨G.z.toCls,_,_,_,G.cz,F,G.n.b⟩
 | silent _ _ _=>exact⟨G.w.toCls,_,_,_,G.cA,F,G.n.b⟩
 | wait _=>exact⟨G.x.toCls,_,_,_,G.cB,F,G.n.b⟩
 | breaks _=>exact⟨G.r.toCls,_,_,_,G.cC,F,G.n.b⟩
def P6:∀C sp,JW a C sp->yz P w K mg base 1 "wants" C (Oc K sp):=by
 rintro C sp (⟨rfl|rfl,rfl⟩|⟨rfl|rfl|rfl|rfl,rfl⟩|⟨rfl,rfl⟩|⟨rfl,rfl⟩)
 .exact⟨G.u.toCls,_,_,_,G.ar.nE,P3 G,G.ar.b⟩
 .exact⟨G.v.toCls,_,_,_,G.au.nE,Mw G,G.au.b⟩
 .exact⟨G.y.toCls,_,_,_,G.ck,wD G,G.A.b⟩
 .exact⟨G.q.toCls,_,_,_,G.cl,wD G,G.A.b⟩
 .exact⟨G.z.toCls,_,_,_,G.cm,wD G,G.A.b⟩
 .exact⟨G.w.toCls,_,_,_,G.cn,wD G,G.A.b⟩
 .exact⟨G.x.toCls,_,_,_,G.av.nE,NG G,G.av.b⟩
 .exact⟨G.r.toCls,_,_,_,G.aw.nE,HZ G,G.aw.b⟩
def uX(x:Str):Bool:=decide ((1:Int)<=x.length)&&(decide ((x.length:Int)<=6)&&x.cps.toList.all λc=>DV ⟨#[c]⟩ uZ)
def IP:rM:=λds M Q=>∃x:Str,ds=[.str x]/\x.length<=1000/\Q (.bl (uX x)) M
def Jq:rM:=λds M Q=>∃w,ds=[.bl Db,w]/\Q .mW M
noncomputable def xE(ss:QQQ):Bool:=((uf ss).length:Int)==(ss.length:Int)
def Rg(M:Mp)(x:D)(ss:QQQ):Prop:=x=.tup (ss.map D.str)\/∃a,x=.ref a/\om M a=ga (ss.map D.str)
def J5:rM:=λds M Q=>BQ λx ss=>ds=[x]/\Rg M x ss/\ss.length<4000/\Q (.bl (xE ss)) M
def Aa{α:Type}(f:α->Bool)(l:List α):(l.map f).all id=l.all f:=by rw[jN];rfl
def sP(x:Str)(ss:QQQ):inD (.str x) (ss.map D.str)=ss.any (·==x):=by unfold inD;rw[jS];rfl
theorem qE:∀ss:QQQ,(ss.map D.str).all vI=Db
 | []=>rfl
 | _::r=>by rw[dW,eO,qE r];rfl
def tF(cs ks:QQQ)(m:Int):Bool:=decide ((1:Int)<=cs.length)&&(decide ((cs.length:Int)<=m)&&(xE cs&&cs.all λc=>ks.any (·==c)))
def KH:rM:=λds M Q=>CO λcs ks k m=>ds=[.tup (cs.map D.str),.ref k,.int m]/\om M k=ga (ks.map D.str)/\cs.length<4000/\Q (.bl (tF cs ks m)) M
def B1:Fq P w K mg base 1 a.af IP:=by
 refine fq G.af.toDG Ib (λr u=>⟨_,(pI (pO (tL (uW u pK (qc qC Z' G.g qB (qp v0)) (tJ Z' G.cQ)) (sT (qc (Ft Z') Z' G.bU FR (qp (qT Z' (xV (ix:=[Fa]) (N':=["sign"])) (qP v0) (qQ 0) sC (qr u v0 (tJ Z' G.cR))))))))),?_⟩)
 rintro ds M Q ⟨x,rfl,hl,q⟩
 have hz:=dI;refine⟨by lia,qD (λh1=>?_) (λh1=>?_)⟩
 .refine qD (λh2=>?_) (λh2=>?_)
  .refine rG (f:=λd=>match d with|.str z=>D.bl (DV z uZ)|_=>.mW) trivial _ [] _ ?_ (λd hd k hk=>?_) λp hp=>?_
   .rw[cV];have:x.cps.toList.length=x.length:=by simp[Str.length]
    simp only[dF];lia
   .obtain⟨c,_,rfl⟩:=dD.mp hd;exact hk
   .refine i' pS ?_;have e:([]++(x.cps.toList.map λc=>D.str ⟨#[c]⟩).map λd=>match d with|.str z=>D.bl (DV z uZ)|_=>.mW)=x.cps.toList.map λc=>D.bl (DV ⟨#[c]⟩ uZ):=by rw[dZ,eh];rfl
    rw[e];refine i' (yG (λc=>DV ⟨#[c]⟩ uZ) x.cps.toList) ⟨M,.new hp,?_⟩;rw[Aa];have:uX x=x.cps.toList.all λc=>DV ⟨#[c]⟩ uZ:=by unfold uX;rw[h1,h2];rfl
    rw[<-this];exact q
  .refine⟨M,.refl,?_⟩;have:uX x=pc:=by
    unfold uX;have h2:decide ((x.length:Int)<=6)=pc:=by simpa using h2
    rw[h2];simp
   rw[<-this];exact q
 .refine⟨M,.refl,?_⟩;have:uX x=pc:=by
   unfold uX;have h1:decide ((1:Int)<=x.length)=pc:=by simpa using h1
   rw[h1];rfl
  rw[<-this];exact q
def tM:Fq P w K mg base 1 a.o Jq:=by
 refine fq G.o.toDG Pa (λr u=>⟨_,(pI (qa (vm (ua v0))
 (pI G')
 pU)),?_⟩)
 rintro ds M Q ⟨x,rfl,q⟩
 exact⟨M,.refl,q⟩
def Ew:Fq P w K mg base 1 a.ag J5:=by
 refine fq G.ag.toDG Dl (λr u=>⟨_,(pI (pO (qr u (K9 Z' v0 Z' G.g Z' G.cG qB R7) (qc qC Z' G.g qB (qp v0))))),?_⟩)
 rintro ds M Q ⟨x,ss,rfl,hx,hl,q⟩
 have key:((ss.map D.str).length:Int)=ss.length:=by rw[cV]
 rcases hx with rfl|⟨b,rfl,hb⟩
 .refine i' (L3.Cb ss) ⟨hl,M,.refl,?_⟩;rw[key];exact q
 .refine i' hb (i' (L3.Cb ss) ⟨hl,i' hb ⟨M,.refl,?_⟩⟩);rw[key];exact q
def As:Fq P w K mg base 2 a.O KH:=by
 refine fq G.O.toDG Fs (λr u=>⟨_,(pI (pO (tL (uW u pK (qc qC Z' G.g qB (qp v0)) U2) (tL (pV (Ew G) r G.ag (qp v0)) (sT (qc (Ft Z') Z' G.bU FR (qp (qT Z' (xV (ix:=[Fa,ga 1]) (N':=["name","known"])) (qP v0) (qQ 0) sC (qr u v0 U1))))))))),?_⟩)
 rintro ds M Q ⟨cs,ks,k,m,rfl,hk,hl,q⟩
 have hz:=dI;have key:((cs.map D.str).length:Int)=cs.length:=by rw[cV]
 have end_:∀b:Bool,tF cs ks m=b->∃Xb,qO Xb M/\Q (.bl b) Xb:=λb e=>⟨M,.refl,e ▸ q⟩;refine qD (λh1=>?_) (λh1=>?_)
 .have h1:decide ((1:Int)<=cs.length)=Db:=by rw[<-key];exact h1
  refine qD (λh2=>?_) (λh2=>?_)
  .have h2:decide ((cs.length:Int)<=m)=Db:=by rw[<-key];exact h2
   refine⟨_,cs,Z',.inl Z',hl,qD (λh3=>?_) (λh3=>?_)⟩
   .refine rG (f:=λd=>match d with|.str z=>D.bl (ks.any (·==z))|_=>.mW) trivial _ [] _ ?_ (λd hd k0 hk0=>?_) λp hp=>?_
    .rw[cV];simp only[dF];lia
    .obtain⟨c,_,rfl⟩:=dD.mp hd;refine i' hk ⟨Z',qE ks,?_⟩;show k0 (.bl (inD (.str c) (ks.map D.str))) M;rw[sP];exact hk0
    .refine i' pS ?_;have e:([]++(cs.map D.str).map λd=>match d with|.str z=>D.bl (ks.any (·==z))|_=>.mW)=cs.map λc=>D.bl (ks.any (·==c)):=by rw[dZ,eh];rfl
     rw[e];refine i' (yG (λc=>ks.any (·==c)) cs) ⟨M,.new hp,?_⟩;rw[Aa];have:tF cs ks m=cs.all λc=>ks.any (·==c):=by unfold tF;rw[h1,h2,h3];rfl
     rw[<-this];exact q
   .refine end_ _ ?_;unfold tF;have h3:xE cs=pc:=by simpa using h3
    rw[h3];simp
  .refine end_ _ ?_;unfold tF;have h2:decide ((cs.length:Int)<=m)=pc:=by
    rw[<-key]
    simpa using h2
   rw[h2];simp
 .refine end_ _ ?_;unfold tF;have h1:decide ((1:Int)<=cs.length)=pc:=by
   rw[<-key]
   simpa using h1
  rw[h1];rfl
abbrev tP:=Str×Int×Int
abbrev ur:=Str×Str×QQQ
abbrev wm:=Bool×Wi
noncomputable def rj(p:tP):D:=.tup [.str p.1,.int p.2.1,.int p.2.2]
noncomputable def rC(g:ur):D:=.tup [.str g.1,.str g.2.1,names g.2.2]
noncomputable def vw(w:wm):D:=.tup [.bl w.1,.tup w.2.told]
structure FW(p:tP):Prop where
 len:p.1.length<=1000
 nm:uX p.1=Db
 l1:1<=p.2.1
 l2:p.2.1<=3
 r1:0<=p.2.2
 r2:p.2.2<=9
structure F2(pn:QQQ)(g:ur):Prop where
 len:g.1.length<=1000
 nm:uX g.1=Db
 pF:g.2.1="all"\/g.2.1="turns"
 pE:g.2.2.length<4000
 mem:tF g.2.2 pn 4=Db
def yi(ss:QQQ)(x:Str):Prop:=ss.any (·==x)=Db
def CC(pn nm:QQQ):Wi->Prop
 | .bar x ns=>yi pn x/\ns.length<4000/\tF ns nm 6=Db
 | .shut x ns=>yi nm x/\ns.length<4000/\tF ns pn 6=Db
 | .always x y=>yi nm x/\yi nm y/\x≠y
 | .night x y f l=>yi nm x/\yi nm y/\x≠y/\(0<=f/\f<=23)/\(0<=l/\l<=23)/\f≠l
 | .busy x y=>yi nm x/\yi nm y/\x≠y
 | .silent x y n=>yi nm x/\yi nm y/\x≠y/\1<=n/\n<=9
 | .wait x=>yi pn x
 | .breaks x=>yi pn x
inductive yj(pn nm:QQQ):Str->D->Prop
 | nu (x:Str) (h:yi pn x):yj pn nm "phone" (.str x)
 | name (x:Str) (h:yi nm x):yj pn nm "name" (.str x)
 | mR (cs:QQQ) (l:cs.length<4000) (h:tF cs pn 6=Db):yj pn nm "phones" (names cs)
 | names (cs:QQQ) (l:cs.length<4000) (h:tF cs nm 6=Db):yj pn nm "names" (names cs)
 | hour (i:Int) (h0:0<=i) (h1:i<=23):yj pn nm "hour" (.int i)
 | turns (i:Int) (h0:1<=i) (h1:i<=9):yj pn nm "turns" (.int i)
def JV:rM:=λds M Q=>K2 λk d pl nl (pn nm:QQQ)=>ds=[.str k,d,.ref pl,.ref nl]/\om M pl=ga (pn.map D.str)/\om M nl=ga (nm.map D.str)/\yj pn nm k d/\Q (.bl Db) M
def Be:rM:=λds M Q=>BQ λr (ps:List tP)=>ds=[.ref r]/\om M r=ga (ps.map rj)/\1<=ps.length/\ps.length<=8/\(∀p∈ps,FW p)/\Q .mW M
def Bi:rM:=λds M Q=>CO λr (gs:List ur) pl (pn:QQQ)=>ds=[.ref r,.ref pl]/\om M r=ga (gs.map rC)/\om M pl=ga (pn.map D.str)/\gs.length<=3/\(∀g∈gs,F2 pn g)/\Q .mW M
def DI:rM:=λds M Q=>Hw λv pl nl (pn nm:QQQ)=>ds=[.tup (Wi.told v),.ref pl,.ref nl]/\om M pl=ga (pn.map D.str)/\om M nl=ga (nm.map D.str)/\CC pn nm v/\Q .mW M
def Bf:rM:=λds M Q=>K2 λr (ws:List wm) pl nl (pn nm:QQQ)=>ds=[.ref r,.ref pl,.ref nl]/\om M r=ga (ws.map vw)/\om M pl=ga (pn.map D.str)/\om M nl=ga (nm.map D.str)/\ws.length<=16/\(∀w∈ws,CC pn nm w.2)/\Q .mW M
def WD(h:yi ss x):inD (.str x) (ss.map D.str)=Db:=by rw[sP];exact h
def OE:Fq P w K mg base 3 a.bh JV:=by
 refine fq G.bh.toDG DQ (λr u=>⟨_,(pH (qa (pP u v0 pL)
 (pI (pO (qr u U1 U2)))
 pU)
 (pH (qa (pP u v0 pL)
 (pI (pO (qr u U1 U3)))
 pU)
 (pH (qa (pP u v0 pL)
 (pI (pO (pV (As G) r G.O (rJ U1 U2 (tJ Z' G.b4)))))
 pU)
 (pH (qa (pP u v0 pL)
 (pI (pO (pV (As G) r G.O (rJ U1 U3 (tJ Z' G.b4)))))
 pU)
 (pH (qa (pP u v0 pL)
 (pI (pO (uW u pK U1 (tJ Z' G.cS))))
 pU)
 (pI (pO (uW u pK U1 (tJ Z' G.cT))))))))),?_⟩)
 rintro ds M Q ⟨k,d,pl,nl,pn,nm,rfl,hp,hn,ok,q⟩
 cases ok with
 | nu x h=>refine i' hp ⟨Z',qE pn,M,.refl,?_⟩;show Q (.bl (inD (.str x) (pn.map D.str))) M;rw[WD h];exact q
 | name x h=>refine i' hn ⟨Z',qE nm,M,.refl,?_⟩;show Q (.bl (inD (.str x) (nm.map D.str))) M;rw[WD h];exact q
 | mR cs l h=>exact⟨cs,pn,pl,6,Z',hp,l,M,.refl,by rw[h];exact q⟩
 | names cs l h=>exact⟨cs,nm,nl,6,Z',hn,l,M,.refl,by rw[h];exact q⟩
 | hour i h0 h1=>refine Bb (c:=decide (0<=i)) (dX h0) ⟨M,.refl,?_⟩;show Q (.bl (decide (i<=23))) M;rw[dX h1];exact q
 | turns i h0 h1=>refine Bb (c:=decide (1<=i)) (dX h0) ⟨M,.refl,?_⟩;show Q (.bl (decide (i<=9))) M;rw[dX h1];exact q
def A9:Fq P w K mg base 2 a.bf Be:=by
 refine fq G.bf.toDG uG (λr u=>⟨_,(pH (pY (pV (tM G) r G.o (sd (uW u pK (qc qC Z' G.g qB (qp v0)) (tJ Z' G.cJ)) pL)))
 (pI (ut eW Z' (qP v0) (vg (n:=3) Z' (qI (rP 1 uG) (qI (rP 2 uG) (qI (rP 3 uG) ue))))
 (pH (pY (pV (tM G) r G.o (sd (pV (B1 G) r G.af (qp U1)) pL)))
 (pH (pY (pV (tM G) r G.o (sd (uW u pK U2 (tJ Z' G.cK)) pL)))
 (pI (pY (pV (tM G) r G.o (sd (uW u pK U3 (tJ Z' G.cL)) pL))))))))),?_⟩)
 rintro ds M Q ⟨r,ps,rfl,XU,h1,h8,mZ,q⟩
 have el:((ps.map rj).length:Int)=ps.length:=by rw[cV]
 refine i' XU (Bb (c:=decide ((1:Int)<=(ps.map rj).length)) (dX (by lia)) ⟨_,by rw[dX (show((ps.map rj).length:Int)<=8 by lia)],i' XU ?_⟩);refine BB (λU M'=>M=M'/\∃x y z,U=[ga (.ref r),x,y,z]) (λU M' j=>by rw[<-j.1];exact XU) _ _ _ ⟨Z',Fa,Fa,Fa,Z'⟩ ?_ ?_
 .rintro d hd U M' ⟨rfl,x,y,z,rfl⟩ nx Xg
  obtain⟨p,hp,rfl⟩:=dD.mp hd;have o:=mZ p hp;refine⟨Z',⟨p.1,Z',o.len,_,by rw[o.nm],?_⟩⟩;refine Bb (c:=decide ((1:Int)<=p.2.1)) (dX o.l1) ⟨_,by rw[dX (show p.2.1<=3 from o.l2)],?_⟩;refine Bb (c:=decide ((0:Int)<=p.2.2)) (dX o.r1) ⟨_,by rw[dX (show p.2.2<=9 from o.r2)],?_⟩;exact Xg _ _ ⟨Z',_,_,_,Z'⟩
 .rintro U M' ⟨rfl,x,y,z,rfl⟩
  exact⟨M,.refl,q⟩
def Bh:Fq P w K mg base 3 a.bg Bi:=by
 refine fq G.bg.toDG uC (λr u=>⟨_,(pH (pY (pV (tM G) r G.o (sd (qr u (qc qC Z' G.g qB (qp v0)) (tJ Z' G.cM)) pL)))
 (pI (ut eW Z' (qP v0) (vg (n:=3) Z' (qI (rP 2 uC) (qI (rP 3 uC) (qI (rP 4 uC) ue))))
 (pH (pY (pV (tM G) r G.o (sd (pV (B1 G) r G.af (qp U2)) pL)))
 (pH (pY (pV (tM G) r G.o (sd (qr u U3 (tJ Z' G.cN)) pL)))
 (pI (pY (pV (tM G) r G.o (sd (pV (As G) r G.O (rJ v4 U1 (tJ Z' G.cO))) pL))))))))),?_⟩)
 rintro ds M Q ⟨r,gs,pl,pn,rfl,XU,hp,h3,mZ,q⟩
 have el:((gs.map rC).length:Int)=gs.length:=by rw[cV]
 refine i' XU ⟨_,by rw[dX (show((gs.map rC).length:Int)<=3 by lia)],i' XU ?_⟩;refine BB (λU M'=>M=M'/\∃x y z,U=[ga (.ref r),ga (.ref pl),x,y,z]) (λU M' j=>by rw[<-j.1];exact XU) _ _ _ ⟨Z',Fa,Fa,Fa,Z'⟩ ?_ ?_
 .rintro d hd U M' ⟨rfl,x,y,z,rfl⟩ nx Xg
  obtain⟨g,hg,rfl⟩:=dD.mp hd;have o:=mZ g hg;refine⟨Z',⟨g.1,Z',o.len,_,by rw[o.nm],?_⟩⟩;have hm:inD (.str g.2.1) [.str "all",.str "turns"]=Db:=by rcases o.pF with e|e<;>(rw[e];rfl)
  refine⟨Z',Z',.str "a group's manner is all or turns",eV (λb=>[D.bl b,D.str "a group's manner is all or turns"]) hm,?_⟩;refine⟨g.2.2,pn,pl,4,Z',hp,o.pE,_,by rw[o.mem],?_⟩;exact Xg _ _ ⟨Z',_,_,_,Z'⟩
 .rintro U M' ⟨rfl,x,y,z,rfl⟩
  exact⟨M,.refl,q⟩
def DP:Fq P w K mg base 4 a.bi DI:=by
 refine fq G.bi.toDG uy (λr u=>⟨_,(pH (pY (pV (tM G) r G.o (sd (Mm G.b3 Z' (pT v0 pK)) pL)))
 (pH (pW 3 uy (Kh G.b3 Z' (pT v0 pK)))
 (pH (pW 4 uy (rS v0 (sO pK) sL))
 (pH (pY (pV (tM G) r G.o (sd (qr u (qc qC Z' G.g qB (qp v4)) (qc qC Z' G.g qB (qp U3))) pL)))
 (pH (ut eW Z' (SH Z' G.cH (sd U3 v4)) (vg (n:=2) Z' (qI (rP 5 uy) (qI (rP 6 uy) ue)))
 (pI (pY (pV (tM G) r G.o (sd (pV (OE G) r G.bh (qh v5 (rJ v6 U1 U2))) pL)))))
 (pH (qa (pP u (rS U3 sL (sO pK)) (pX (sd pL pL)))
 (pI (pY (pV (tM G) r G.o (sd (qr u (pT v4 pK) (pT v4 pK)) pL))))
 pU)
 (pI (qa (pP u (rS U3 (sO pK) sL) (pX (sd pL pL)))
 (pI (pY (pV (tM G) r G.o (sd (qr u (pT v4 pK) (pT v4 pK)) pL))))
 pU)))))))),?_⟩)
 rintro ds M Q ⟨v,pl,nl,pn,nm,rfl,hp,hn,ok,q⟩
 have part:∀{k:Str} {d:D} {C:DK},yj pn nm k d->C (.bl Db) M->JV [.str k,d,.ref pl,.ref nl] M C:=λo c=>⟨_,_,pl,nl,pn,nm,Z',hp,hn,o,c⟩;have need:∀{x:D} {C:DK},C .mW M->Jq [.bl Db,x] M C:=λc=>⟨_,Z',c⟩;have ne:∀{x y:Str},x≠y->(!(x==y))=Db:=λh=>by simpa using h
 have nei:∀{x y:Int},x≠y->(!(x==y))=Db:=λh=>by simpa using h
 have Xc:∃Xb,qO Xb M/\Q .mW Xb:=⟨M,.refl,q⟩;cases v with
 | bar x ns=>obtain⟨h1,h2,h3⟩:=ok;refine⟨_,Z',_,Z',?_⟩;refine⟨Z',_,_,pl,nl,pn,nm,Z',hp,hn,.nu x h1,_,Z',trivial,⟨Z',_,_,pl,nl,pn,nm,Z',hp,hn,.names ns h2 h3,_,Z',trivial,?_⟩⟩;exact⟨pE Z',pE Z',Xc⟩
 | shut x ns=>obtain⟨h1,h2,h3⟩:=ok;refine⟨_,Z',_,Z',?_⟩;refine⟨Z',_,_,pl,nl,pn,nm,Z',hp,hn,.name x h1,_,Z',trivial,⟨Z',_,_,pl,nl,pn,nm,Z',hp,hn,.mR ns h2 h3,_,Z',trivial,?_⟩⟩;exact⟨pE Z',pE Z',Xc⟩
 | always x y=>obtain⟨h1,h2,h3⟩:=ok;refine⟨_,Z',_,Z',?_⟩;refine⟨Z',_,_,pl,nl,pn,nm,Z',hp,hn,.name x h1,_,Z',trivial,⟨Z',_,_,pl,nl,pn,nm,Z',hp,hn,.name y h2,_,Z',trivial,?_⟩⟩;refine⟨pE Z',⟨_,by rw[ne h3],?_⟩⟩;exact⟨pE Z',Xc⟩
 | night x y f l=>obtain⟨h1,h2,h3,h4,h5,h6⟩:=ok;refine⟨_,Z',_,Z',?_⟩;refine⟨Z',_,_,pl,nl,pn,nm,Z',hp,hn,.name x h1,_,Z',trivial,⟨Z',_,_,pl,nl,pn,nm,Z',hp,hn,.name y h2,_,Z',trivial,⟨Z',_,_,pl,nl,pn,nm,Z',hp,hn,.hour f h4.1 h4.2,_,Z',trivial,⟨Z',_,_,pl,nl,pn,nm,Z',hp,hn,.hour l h5.1 h5.2,_,Z',trivial,?_⟩⟩⟩⟩;refine⟨pE Z',⟨_,by rw[ne h3],?_⟩⟩;refine⟨pE Z',⟨_,by rw[nei h6],?_⟩⟩;exact Xc
 | busy x y=>obtain⟨h1,h2,h3⟩:=ok;refine⟨_,Z',_,Z',?_⟩;refine⟨Z',_,_,pl,nl,pn,nm,Z',hp,hn,.name x h1,_,Z',trivial,⟨Z',_,_,pl,nl,pn,nm,Z',hp,hn,.name y h2,_,Z',trivial,?_⟩⟩;refine⟨pE Z',⟨_,by rw[ne h3],?_⟩⟩;exact⟨pE Z',Xc⟩
 | silent x y n=>obtain⟨h1,h2,h3,h4,h5⟩:=ok;refine⟨_,Z',_,Z',?_⟩;refine⟨Z',_,_,pl,nl,pn,nm,Z',hp,hn,.name x h1,_,Z',trivial,⟨Z',_,_,pl,nl,pn,nm,Z',hp,hn,.name y h2,_,Z',trivial,⟨Z',_,_,pl,nl,pn,nm,Z',hp,hn,.turns n h4 h5,_,Z',trivial,?_⟩⟩⟩;refine⟨pE Z',⟨_,by rw[ne h3],?_⟩⟩;exact⟨pE Z',Xc⟩
 | wait x=>refine⟨_,Z',_,Z',?_⟩;refine⟨Z',_,_,pl,nl,pn,nm,Z',hp,hn,.nu x ok,_,Z',trivial,?_⟩;exact⟨pE Z',pE Z',Xc⟩
 | breaks x=>refine⟨_,Z',_,Z',?_⟩;refine⟨Z',_,_,pl,nl,pn,nm,Z',hp,hn,.nu x ok,_,Z',trivial,?_⟩;exact⟨pE Z',pE Z',Xc⟩
def Bk:Fq P w K mg base 5 a.bj Bf:=by
 refine fq G.bj.toDG vD (λr u=>⟨_,(pH (pY (pV (tM G) r G.o (sd (qr u (qc qC Z' G.g qB (qp v0)) (tJ Z' G.cP)) pL)))
 (pI (ut eW Z' (qP v0) (vg (n:=2) Z' (qI (rP 3 vD) (qI (rP 4 vD) ue)))
 (pI (pY (pV (DP G) r G.bi (rJ v4 U1 U2))))))),?_⟩)
 rintro ds M Q ⟨r,ws,pl,nl,pn,nm,rfl,XU,hp,hn,h16,mZ,q⟩
 have el:((ws.map vw).length:Int)=ws.length:=by rw[cV]
 refine i' XU ⟨_,by rw[dX (show((ws.map vw).length:Int)<=16 by lia)],i' XU ?_⟩;refine BB (λU M'=>M=M'/\∃x y,U=[ga (.ref r),ga (.ref pl),ga (.ref nl),x,y]) (λU M' j=>by rw[<-j.1];exact XU) _ _ _ ⟨Z',Fa,Fa,Z'⟩ ?_ ?_
 .rintro d hd U M' ⟨rfl,x,y,rfl⟩ nx Xg
  obtain⟨v,hv,rfl⟩:=dD.mp hd;exact⟨Z',⟨v.2,pl,nl,pn,nm,Z',hp,hn,mZ v hv,Xg _ _ ⟨Z',_,_,Z'⟩⟩⟩
 .rintro U M' ⟨rfl,x,y,rfl⟩
  exact⟨M,.refl,q⟩
structure pR where
 mR:List tP
 groups:List ur
 mQ:List wm
noncomputable def pR.pn(l:pR):QQQ:=l.mR.map (·.1)
noncomputable def pR.gn(l:pR):QQQ:=l.groups.map (·.1)
noncomputable def pR.nm(l:pR):QQQ:=l.pn++l.gn
structure rX(l:pR):Prop where
 p1:1<=l.mR.length
 p8:l.mR.length<=8
 po:∀p∈l.mR,FW p
 g3:l.groups.length<=3
 go:∀g∈l.groups,F2 l.pn g
 nd:l.nm.Nodup
 pB:l.mQ.length<=16
 wo:∀w∈l.mQ,CC l.pn l.nm w.2
def El{ss:QQQ}(h:ss.Nodup):xE ss=Db:=by unfold xE;rw[HN ss h];simp
def Dv:rM:=λds M Q=>CO λr1 r2 r3 (l:pR)=>ds=[.ref r1,.ref r2,.ref r3]/\om M r1=ga (l.mR.map rj)/\om M r2=ga (l.groups.map rC)/\om M r3=ga (l.mQ.map vw)/\rX l/\Q .mW M
noncomputable def Bp:D->D
 | .tup (x::_)=>x
 | _=>.mW
def xJ(ps:List tP):(ps.map rj).map Bp=(ps.map (·.1)).map D.str:=by rw[eh,eh];rfl
def xC(ps:List ur):(ps.map rC).map Bp=(ps.map (·.1)).map D.str:=by rw[eh,eh];rfl
def DA:Fq P w K mg base 6 a.bk Dv:=by
 refine fq G.bk.toDG wR (λr u=>⟨_,(pH (pY (pV (A9 G) r G.bf (qp v0)))
 (pH (vf (i:=3) wR.nd Z' (Or.inl Z') Z' (xV (ix:=[Fa]) (N':=["phone"])) (qP v0) (qQ 0) sC (pT v0 pK))
 (pH (pY (pV (Bh G) r G.bg (sd U1 U3)))
 (pH (pW 4 wR (ql U3 (qT Z' (xV (ix:=[Fa]) (N':=["group"])) (qP U1) (qQ 0) sC (pT v0 pK))))
 (pH (pY (pV (tM G) r G.o (sd (pV (Ew G) r G.ag (qp v4)) pL)))
 (pI (pY (pV (Bk G) r G.bj (rJ U2 U3 v4))))))))),?_⟩)
 rintro ds M Q ⟨r1,r2,r3,l,rfl,h1,h2,h3,ok,q⟩
 have hz:=dI;have l1:=ok.p8;have l2:=ok.g3;refine⟨r1,l.mR,Z',h1,ok.p1,ok.p8,ok.po,i' h1 ?_⟩;refine rG (f:=Bp) h1 _ [] _ (by rw[cV];simp only[dF];lia) (λd hd k hk=>?_) λp hp=>?_
 .obtain⟨x,_,rfl⟩:=dD.mp hd;exact hk
 rw[dZ,xJ];obtain⟨M1,e0,s1,lp⟩:=uT (ds:=(l.mR.map (·.1)).map D.str) hp;rw[<-e0];have lp:om M1 p=ga (l.pn.map D.str):=lp;refine⟨r2,l.groups,p,l.pn,Z',s1.lst h2,lp,ok.g3,ok.go,?_⟩;refine i' (s1.lst h2) (rG (f:=Bp) (s1.lst h2) _ [] _ (by rw[cV];simp only[dF];lia) (λd hd k hk=>?_) λp2 Xh=>?_)
 .obtain⟨x,_,rfl⟩:=dD.mp hd;exact hk
 rw[dZ,xC];have s2:=qO.new (c:=.lst ((l.groups.map (·.1)).map D.str)) Xh;refine i' (s2.lst lp) (i' pS ⟨?_,λp3 YJ=>?_⟩)
 .rw[cV,cV,cV];show(l.mR.map (·.1)).length+_<=_;rw[cV];lia
 have en:l.pn.map D.str++(l.groups.map (·.1)).map D.str=l.nm.map D.str:=by unfold pR.nm;rw[dN];rfl
 rw[en];have s3:=s2.trans (qO.new (c:=.lst (l.nm.map D.str)) YJ);have l3:=@pS (pQ M1 p2 (.lst ((l.groups.map (·.1)).map D.str))) p3 (l.nm.map D.str);generalize pQ (pQ M1 p2 (.lst ((l.groups.map (·.1)).map D.str))) p3 (.lst (l.nm.map D.str))=M3 at s3 l3 ⊢;have ln:l.nm.length<4000:=by unfold pR.nm pR.pn pR.gn;rw[cX,cV,cV];lia
 refine⟨_,l.nm,Z',.inr ⟨p3,Z',l3⟩,ln,_,by rw[El ok.nd],?_⟩;exact⟨r3,l.mQ,p,p3,l.pn,l.nm,Z',s3.lst (s1.lst h3),s3.lst lp,l3,ok.pB,ok.wo,M,s1.trans s3,q⟩
noncomputable def Q3(ph gr ws on pr gd:Uf):T0 (Str×D):=[("phones",.ref ph),("groups",.ref gr),("wishes",.ref ws),("on",.ref on),("phone_rows",.ref pr),("group_rows",.ref gd)]
def Sw(l:pR):T0 (rF×D):=l.mR.map λp=>(Sum.inr p.1,rj p)
def Ij(l:pR):T0 (rF×D):=l.groups.map λg=>(Sum.inr g.1,rC g)
def tK(a:Ad)(M:Mp)(rs:QXQ)(ws:List wm):Prop:=rs.length=ws.length/\∀(i:Nat) (r:Uf) (v:wm),rs[i]?=ga r->ws[i]?=ga v->M r=ga (.ins (v.2.cls a) v.2.nP)
def tU(a:Ad)(M:Mp)(p:Uf)(l:pR):Prop:=Tv λph gr ws on pr gd (rs:QXQ)=>M p=ga (.ins a.h (Q3 ph gr ws on pr gd))/\om M ph=ga (l.mR.map rj)/\om M gr=ga (l.groups.map rC)/\
 om M ws=ga (rs.map D.ref)/\om M on=ga (l.mQ.map λw=>D.bl w.1)/\yW M pr=ga (Sw l)/\yW M gd=ga (Ij l)/\tK a M rs l.mQ
def tK.keep{p:Uf}(h:tK a M rs ws)(k:se p M M')(n:∀r∈rs,r≠p):tK a M' rs ws:=⟨h.1,λi r v e1 e2=>k r _ (n r (fz e1)) (h.2 i r v e1 e2)⟩
def tK.sub(h:tK a M rs ws)(k:qO M M'):tK a M' rs ws:=⟨h.1,λi r v e1 e2=>k r _ (h.2 i r v e1 e2)⟩
def tU.sub{p:Uf}(h:tU a M p l)(s:qO M M'):tU a M' p l:=by obtain⟨ph,gr,ws,on,pr,gd,rs,h1,h2,h3,h4,h5,h6,h7,h8⟩:=h;exact⟨ph,gr,ws,on,pr,gd,rs,s _ _ h1,s.lst h2,s.lst h3,s.lst h4,s.lst h5,s.dk h6,s.dk h7,h8.sub s⟩
def Qe(a:Ad):rM:=λds M Q=>Hw λp r1 r2 r3 (l:pR)=>ds=[.ref p,.ref r1,.ref r2,.ref r3]/\M p=ga (.ins a.h [])/\om M r1=ga (l.mR.map rj)/\om M r2=ga (l.groups.map rC)/\om M r3=ga (l.mQ.map vw)/\rX l/\
 ∀M',se p M M'->tU a M' p l->(∀Xb,(∀b c,(b=p\/M b=Fa)->M' b=ga c->Xb b=ga c)->tU a Xb p l)->Q .mW M'
def sy{p x:Uf}{c:vE}(k:se p M N)(hp:N p=ga c)(h:N x=Fa):M x=Fa:=by
 cases e:M x with
 | none=>rfl
 | some d=>
  have n:x≠p:=λz=>by rw[z,hp]at h;cases h
  rw[k x d n e]at h;cases h
def xt{a:Uf}{es:T0 (rF×D)}(h:yW M a=ga es):M a=ga (.dk es):=by
 unfold yW at h;split at h
 .rename_i e;rw[e];cases h;rfl
 .cases h
theorem xo{α:Type}(f:α->Str)(g:α->D):∀l:List α,vN (l.map λx=>D.tup [.str (f x),g x])=ga (l.map λx=>(Sum.inr (f x),g x))
 | []=>rfl
 | x::r=>by show(vN (r.map λx=>D.tup [.str (f x),g x])).map ((Sum.inr (f x),g x)::·)=_;rw[xo f g r];rfl
def La{ss:QQQ}(h:ss.Nodup):(ss.map λx=>(Sum.inr x:rF)).Nodup:=by
 induction ss with
 | nil=>exact eN
 | cons x r ih=>obtain⟨h1,h2⟩:=dS.mp h;rw[dW];refine dS.mpr ⟨λz=>h1 ?_,ih h2⟩;obtain⟨y,hy,e⟩:=dD.mp z;cases e;exact hy
def zr{α:Type}{f:α->Str}{g:α->D}{l:List α}(h:(l.map f).Nodup):((l.map λx=>((Sum.inr (f x):rF),g x)).map (·.1)).Nodup:=by rw[eh];have:=La h;rw[eh]at this;exact this
def BM(d:D):D:=.tup [Bp d,d]
noncomputable def WJ:D->D
 | .tup (x::_)=>x
 | _=>.mW
def Sn(ws:List wm):(ws.map vw).map WJ=ws.map λw=>D.bl w.1:=by rw[eh];rfl
def Gs(ps:List tP):(ps.map rj).map BM=ps.map λp=>D.tup [.str p.1,rj p]:=by rw[eh];rfl
def F8(ps:List ur):(ps.map rC).map BM=ps.map λp=>D.tup [.str p.1,rC p]:=by rw[eh];rfl
def tK.snoc{r:Uf}{v:wm}(h:tK a M rs ws)(n:M r=Fa):tK a (pQ M r (.ins (v.2.cls a) v.2.nP)) (rs++[r]) (ws++[v]):=by
 refine⟨by rw[cX,cX,h.1];rfl,λi r' v' e1 e2=>?_⟩;by_cases hi:i<rs.length
 .rw[fi hi]at e1;rw[fi (by rw[<-h.1];exact hi)]at e2;have:=h.2 i r' v' e1 e2;rw[tj (Jm this n)];exact this
 .have Yz:i=rs.length:=by have:=(cZ.mp e1).1;rw[cX,dH]at this;lia
  subst Yz;rw[eU (dq _)]at e1;rw[h.1,eU (dq _)]at e2;simp only[ik,iK,jy]at e1 e2;subst e1 e2;exact qd
def Pj:Fq P w K mg base 7 a.aj (Qe a):=by
 refine fq G.aj.toDG EZ (λr u=>⟨_,(pH (pY (pV (DA G) r G.bk (rJ U1 U2 U3)))
 (pH (qv v0 (qg sv Z' G.m rV (qp U1)))
 (pH (qv v0 (qg sv Z' G.m rV (qp U2)))
 (pH (qv v0 (qT Z' (xV (ix:=[Fa,Fa]) (N':=["on","wish"])) (qP U3) (vg (n:=2) Z' (qI (qQ 0) (qI (qQ 1) ue))) sC (pV (HK G) r G.be (qp U1))))
 (pH (qv v0 (qT Z' (xV (ix:=[Fa,Fa]) (N':=["on","wish"])) (qP U3) (vg (n:=2) Z' (qI (qQ 0) (qI (qQ 1) ue))) sC v0))
 (pH (qv v0 (qg (BR Z') Z' G.bT BN (qp (qT Z' (xV (ix:=[Fa]) (N':=["phone"])) (qP U1) (qQ 0) sC (pX (sd (pT v0 pK) v0))))))
 (pI (qv v0 (qg (BR Z') Z' G.bT BN (qp (qT Z' (xV (ix:=[Fa]) (N':=["group"])) (qP U2) (qQ 0) sC (pX (sd (pT v0 pK) v0))))))))))))),?_⟩)
 rintro ds M Q ⟨p,r1,r2,r3,l,rfl,hp,h1,h2,h3,ok,q⟩
 have hz:=dI;have l1:=ok.p8;have l2:=ok.g3;have l3:=ok.pB;refine⟨r1,r2,r3,l,Z',h1,h2,h3,ok,?_⟩;refine i' h1 λph hph=>?_;obtain⟨n1,e1,k1,c1,p1⟩:=tR (fs':=[("phones",.ref ph)]) (c:=.lst (l.mR.map rj)) hp hph;refine pJ e1 ⟨(G.Z "phones" Z'),by show 0<1000;decide,?_⟩;show va _ _ _ _ (pQ (pQ M ph (.lst (l.mR.map rj))) p (.ins a.h [("phones",.ref ph)]));generalize pQ (pQ M ph (.lst (l.mR.map rj))) p (.ins a.h [("phones",.ref ph)])=N1 at k1 c1 p1 ⊢;have XT:=k1.lst (qk h1 hp) h1;have h2':=k1.lst (qk h2 hp) h2;have ZK:=k1.lst (qk h3 hp) h3;have f1:om N1 ph=ga (l.mR.map rj):=tH c1;refine i' h2' λgr hgr=>?_;obtain⟨n2,e2,k2,c2,p2⟩:=tR (fs':=[("phones",.ref ph),("groups",.ref gr)]) (c:=.lst (l.groups.map rC)) p1 hgr;refine pJ e2 ⟨(G.Z "groups" Z'),by show 1<1000;decide,?_⟩;show va _ _ _ _ (pQ (pQ N1 gr (.lst (l.groups.map rC))) p (.ins a.h [("phones",.ref ph),("groups",.ref gr)]));generalize pQ (pQ N1 gr (.lst (l.groups.map rC))) p (.ins a.h [("phones",.ref ph),("groups",.ref gr)])=N2 at k2 c2 p2 ⊢;have g1:=k2.lst (qk XT p1) XT;have g2:=k2.lst (qk h2' p1) h2';have g3:=k2.lst (qk ZK p1) ZK;have f2:=k2.lst (qk f1 p1) f1;have f3:om N2 gr=ga (l.groups.map rC):=tH c2;have kk2:=k1.trans k2;have m2:M gr=Fa:=sy k1 p1 hgr;clear XT h2' ZK f1 c1 c2 k1 k2 e1 e2;refine i' g3 ?_;refine BG (l.mQ.map vw) (λpre acc U Mx=>(∃x y,U=[x,y])/\qO N2 Mx/\∃rs:QXQ,acc=rs.map D.ref/\(∀r∈rs,N2 r=Fa)/\tK a Mx rs (l.mQ.take pre.length)) (λpre acc U Mx j=>j.2.1.lst g3) _ [] [] _ _ Z' (by rw[cV];simp only[dF];lia) ⟨⟨Fa,Fa,Z'⟩,.refl,[],Z',λr hr=>absurd hr (dJ),Z',λi r v e=>by simp at e⟩ ?_ ?_
 .rintro pre d post e acc U Mx ⟨⟨x,y,rfl⟩,sx,rs,rfl,fr,wa⟩ k hk
  obtain⟨v,hv,rfl⟩:∃v,l.mQ[pre.length]?=ga v/\d=vw v:=by
   have:(l.mQ.map vw)[pre.length]?=ga d:=by rw[<-e];simp
   rw[dC]at this;cases z:l.mQ[pre.length]? with
   | none=>rw[z]at this;cases this
   | some v=>rw[z]at this;exact⟨v,Z',(dg this).symm⟩
  refine⟨Z',⟨v.2,Z',λr hr=>hk _ _ _ ⟨⟨_,_,Z'⟩,sx.trans (.new hr),rs++[r],?_,λr' hr'=>?_,?_⟩⟩⟩
  .rw[dN];rfl
  .rcases dY.mp hr' with z|z
   .exact fr r' z
   .rw[dA.mp z];exact sx.none hr
  .rw[cX,dH,gx,hv];exact wa.snoc hr
 rintro acc U Mx ⟨⟨x,y,rfl⟩,sx,rs,rfl,fr,wa⟩ ws hws
 have wa:tK a Mx rs l.mQ:=by rw[cV,fj]at wa;exact wa
 obtain⟨n3,e3,k3,c3,p3⟩:=tR (fs':=[("phones",.ref ph),("groups",.ref gr),("wishes",.ref ws)]) (c:=.lst (rs.map D.ref)) (sx _ _ p2) hws;refine pJ e3 ⟨(G.Z "wishes" Z'),by show 2<1000;decide,?_⟩;show va _ _ _ _ (pQ (pQ Mx ws (.lst (rs.map D.ref))) p (.ins a.h [("phones",.ref ph),("groups",.ref gr),("wishes",.ref ws)]));generalize pQ (pQ Mx ws (.lst (rs.map D.ref))) p (.ins a.h [("phones",.ref ph),("groups",.ref gr),("wishes",.ref ws)])=N3 at k3 c3 p3 ⊢;have px:=sx _ _ p2;have i1:=k3.lst (qk (sx.lst g1) px) (sx.lst g1);have i2:=k3.lst (qk (sx.lst g2) px) (sx.lst g2);have i3:=k3.lst (qk (sx.lst g3) px) (sx.lst g3);have f4:=k3.lst (qk (sx.lst f2) px) (sx.lst f2);have f5:=k3.lst (qk (sx.lst f3) px) (sx.lst f3);have f6:om N3 ws=ga (rs.map D.ref):=tH c3;have rp:∀r∈rs,r≠p:=λr hr z=>by have:=fr r hr;rw[z,p2]at this;cases this
 have w3:=wa.keep k3 rp;have kk3:=(kk2.trans sx.keep).trans k3;have m3:M ws=Fa:=sy (kk2.trans sx.keep) px hws;have mr:∀r∈rs,M r=Fa:=λr hr=>sy kk2 p2 (fr r hr);clear g1 g2 g3 f2 f3 c3 k3 e3 wa px kk2;refine i' i3 (B2 (f:=WJ) (λU=>∃x y,U=[x,y]) i3 _ [] _ ⟨Fa,Fa,Z'⟩ (by rw[cV];simp only[dF];lia) (λd hd U hj k hk=>?_) λon hon=>?_)
 .obtain⟨x,y,rfl⟩:=hj;obtain⟨v,_,rfl⟩:=dD.mp hd;exact⟨Z',hk _ ⟨_,_,Z'⟩⟩
 rw[dZ,Sn];obtain⟨n4,e4,k4,c4,p4⟩:=tR (fs':=[("phones",.ref ph),("groups",.ref gr),("wishes",.ref ws),("on",.ref on)]) (c:=.lst (l.mQ.map λw=>D.bl w.1)) p3 hon;refine pJ e4 ⟨(G.Z "on" Z'),by show 3<1000;decide,?_⟩;show va _ _ _ _ (pQ (pQ N3 on (.lst (l.mQ.map λw=>D.bl w.1))) p (.ins a.h [("phones",.ref ph),("groups",.ref gr),("wishes",.ref ws),("on",.ref on)]));generalize pQ (pQ N3 on (.lst (l.mQ.map λw=>D.bl w.1))) p (.ins a.h [("phones",.ref ph),("groups",.ref gr),("wishes",.ref ws),("on",.ref on)])=N4 at k4 c4 p4 ⊢;have j1:=k4.lst (qk i1 p3) i1;have j2:=k4.lst (qk i2 p3) i2;have f7:=k4.lst (qk f4 p3) f4;have f8:=k4.lst (qk f5 p3) f5;have f9:=k4.lst (qk f6 p3) f6;have fa:om N4 on=ga (l.mQ.map λw=>D.bl w.1):=tH c4;have w4:=w3.keep k4 rp;have Ze:=kk3.trans k4;have m4:M on=Fa:=sy kk3 p3 hon;clear i1 i2 i3 f4 f5 f6 c4 k4 e4 w3 kk3;refine i' j1 (rG (f:=BM) j1 _ [] _ (by rw[cV];simp only[dF];lia) (λd hd k hk=>?_) λq1 Ye=>?_)
 .obtain⟨v,_,rfl⟩:=dD.mp hd;exact⟨pE Z',hk⟩
 rw[dZ,Gs];have ZL:=qO.new (c:=.lst (l.mR.map λp=>D.tup [.str p.1,rj p])) Ye;refine i' pS (i' (xo (λp:tP=>p.1) rj l.mR) ⟨zr (iI (List.sublist_append_left _ _) ok.nd),λpr hpr=>?_⟩);obtain⟨n5,e5,k5,c5,p5⟩:=tR (fs':=[("phones",.ref ph),("groups",.ref gr),("wishes",.ref ws),("on",.ref on),("phone_rows",.ref pr)]) (c:=.dk (l.mR.map λx=>(Sum.inr x.1,rj x))) (ZL _ _ p4) hpr;refine pJ e5 ⟨(G.Z "phone_rows" Z'),by show 4<1000;decide,?_⟩;have k5:=ZL.keep.trans k5;have Y4:wU "phone_rows" (.ref pr) [("phones",.ref ph),("groups",.ref gr),("wishes",.ref ws),("on",.ref on)]=([("phones",.ref ph),("groups",.ref gr),("wishes",.ref ws),("on",.ref on),("phone_rows",.ref pr)]:T0 (Str×D)):=rfl;rw[Y4];generalize pQ (pQ (pQ N4 q1 (.lst (l.mR.map λp=>D.tup [.str p.1,rj p]))) pr (.dk (l.mR.map λx=>(Sum.inr x.1,rj x)))) p (.ins a.h [("phones",.ref ph),("groups",.ref gr),("wishes",.ref ws),("on",.ref on),("phone_rows",.ref pr)])=N5 at k5 c5 p5 ⊢;have mm:=k5.lst (qk j2 p4) j2;have fb:=k5.lst (qk f7 p4) f7;have fc:=k5.lst (qk f8 p4) f8;have fd:=k5.lst (qk f9 p4) f9;have fe:=k5.lst (qk fa p4) fa;have ff:yW N5 pr=ga (Sw l):=A0 c5;have w5:=w4.keep k5 rp;have Zf:=Ze.trans k5;have m5:M pr=Fa:=sy (Ze.trans ZL.keep) (ZL _ _ p4) hpr;clear j1 j2 f7 f8 f9 fa c5 k5 e5 w4 Ze;refine i' mm (rG (f:=BM) mm _ [] _ (by rw[cV];simp only[dF];lia) (λd hd k hk=>?_) λq2 Zv=>?_)
 .obtain⟨v,_,rfl⟩:=dD.mp hd;exact⟨pE Z',hk⟩
 rw[dZ,F8];have sq2:=qO.new (c:=.lst (l.groups.map λg=>D.tup [.str g.1,rC g])) Zv;refine i' pS (i' (xo (λp:ur=>p.1) rC l.groups) ⟨zr (iI (jA _ _) ok.nd),λgd hgd=>?_⟩);obtain⟨n6,e6,k6,c6,p6⟩:=tR (fs':=Q3 ph gr ws on pr gd) (c:=.dk (Ij l)) (sq2 _ _ p5) hgd;have k6:=sq2.keep.trans k6;refine pJ e6 ⟨(G.Z "group_rows" Z'),by show 5<1000;decide,_,.refl,?_⟩;have m6:M gd=Fa:=sy (Zf.trans sq2.keep) (sq2 _ _ p5) hgd;have w6:=w5.keep k6 rp;have y1:=k6.lst (qk fb p5) fb;have y2:=k6.lst (qk fc p5) fc;have y3:=k6.lst (qk fd p5) fd;have y4:=k6.lst (qk fe p5) fe;have y5:=k6.dk (C9 ff p5) ff;refine q _ (Zf.trans k6) ⟨ph,gr,ws,on,pr,gd,rs,p6,y1,y2,y3,y4,y5,A0 c6,w6⟩ λXb hs=>?_;exact⟨ph,gr,ws,on,pr,gd,rs,hs _ _ (.inl Z') p6,tH (hs _ _ (.inr hph) (qx y1)),tH (hs _ _ (.inr m2) (qx y2)),tH (hs _ _ (.inr m3) (qx y3)),tH (hs _ _ (.inr m4) (qx y4)),A0 (hs _ _ (.inr m5) (xt y5)),A0 (hs _ _ (.inr m6) c6),w6.1,λi r v e1 e2=>hs _ _ (.inr (mr r (fz e1))) (w6.2 i r v e1 e2)⟩
theorem xk{α:Type}(f:α->Str)(g:α->D)(k:Str):∀l:List α,vY (l.map λx=>((Sum.inr (f x):rF),g x)) (Sum.inr k)=(l.find? λx=>decide (f x=k)).map g
 | []=>rfl
 | x::r=>by
  have ih:=xk f g k r;unfold vY at ih ⊢;rw[dW,fP,fP];by_cases h:f x=k
  .have h':decide ((Sum.inr (f x):rF)=Sum.inr k)=Db:=dX (by rw[h]);simp[h]
  .have h':¬(Sum.inr (f x):rF)=Sum.inr k:=λz=>h (j5 z);simp only[h,h',decide_false];exact ih
noncomputable def pR.nu(l:pR)(x:Str):Option tP:=l.mR.find? λp=>decide (p.1=x)
noncomputable def pR.group(l:pR)(x:Str):Option ur:=l.groups.find? λg=>decide (g.1=x)
noncomputable def pR.mP(l:pR)(x:Str):QQQ:=(l.group x).elim [x] λg=>g.2.2
noncomputable def pR.mT(l:pR)(x:Str):Str:=(l.group x).elim "one" λg=>g.2.1
def Hb(l:pR)(x:Str):vY (Sw l) (Sum.inr x)=(l.nu x).map rj:=xk (λp:tP=>p.1) rj x l.mR
def xf(l:pR)(x:Str):vY (Ij l) (Sum.inr x)=(l.group x).map rC:=xk (λp:ur=>p.1) rC x l.groups
def zp(a:Ad):rM:=λds M Q=>BQ λp (l:pR)=>ds=[.ref p]/\tU a M p l/\l.mR.length<=100/\∀q,M q=Fa->Q (.ref q) (pQ M q (.lst (l.pn.map D.str)))
def Fg(a:Ad):rM:=λds M Q=>BQ λp (l:pR)=>ds=[.ref p]/\tU a M p l/\l.mR.length<=100/\l.groups.length<=100/\∀q,M q=Fa->Q (.ref q) (pQ M q (.lst (l.nm.map D.str)))
def Fw(a:Ad):rM:=λds M Q=>CO λp x v (l:pR)=>ds=[.ref p,.str x]/\tU a M p l/\l.nu x=ga v/\Q (.int v.2.1) M
def G2(a:Ad):rM:=λds M Q=>CO λp x v (l:pR)=>ds=[.ref p,.str x]/\tU a M p l/\l.nu x=ga v/\Q (.int v.2.2) M
def Al(a:Ad):rM:=λds M Q=>Dj λp x (l:pR)=>ds=[.ref p,.str x]/\tU a M p l/\∀q,M q=Fa->Q (.ref q) (pQ M q (.lst ((l.mP x).map D.str)))
def DN(a:Ad):rM:=λds M Q=>Dj λp x (l:pR)=>ds=[.ref p,.str x]/\tU a M p l/\Q (.str (l.mT x)) M
def uo:Fq P w K mg base 1 a.S (zp a):=by
 refine fq G.S.toDG yN (λr u=>⟨_,(pI (pO (qT Z' (xV (ix:=[Fa]) (N':=["phone"])) (qP (pN v0)) (qQ 0) sC (pT v0 pK)))),?_⟩)
 rintro ds M Q ⟨p,l,rfl,hp,hl,q⟩
 have hz:=dI;obtain⟨ph,gr,ws,on,pr,gd,rs,h1,h2,h3,h4,h5,h6,h7,h8⟩:=hp;refine pJ h1 (i' Z' (i' h2 ?_));refine rG (f:=Bp) h2 _ [] _ (by rw[cV];simp only[dF];lia) (λd hd k hk=>?_) λq1 Ye=>?_
 .obtain⟨x,_,rfl⟩:=dD.mp hd;exact hk
 rw[dZ,xJ];exact⟨_,.refl,q q1 Ye⟩
def Dz:Fq P w K mg base 2 a.bG (Fg a):=by
 refine fq G.bG.toDG DE (λr u=>⟨_,(pI (pO (ql (yK v0 G.h.toCls G.S (uo G) r) (qT Z' (xV (ix:=[Fa]) (N':=["group"])) (qP (pN v0)) (qQ 0) sC (pT v0 pK))))),?_⟩)
 rintro ds M Q ⟨p,l,rfl,hp,hl,hl2,q⟩
 have hz:=dI;have Xp:=hp;obtain⟨ph,gr,ws,on,pr,gd,rs,h1,h2,h3,h4,h5,h6,h7,h8⟩:=hp;refine pJ h1 ⟨Z',_,⟨Z',Z'⟩,p,l,Z',Xp,hl,λq1 Ye=>?_⟩;obtain⟨M1,e0,s1,e1⟩:=uT (ds:=l.pn.map D.str) Ye;rw[<-e0];have ZK:=s1.lst h3;refine pJ (s1 _ _ h1) (i' Z' (i' ZK ?_));refine rG (f:=Bp) ZK _ [] _ (by rw[cV];simp only[dF];lia) (λd hd k hk=>?_) λq2 Zv=>?_
 .obtain⟨x,_,rfl⟩:=dD.mp hd;exact hk
 rw[dZ,xC];have s2:=qO.new (c:=.lst ((l.groups.map (·.1)).map D.str)) Zv;refine i' (s2.lst e1) (i' pS ⟨?_,λq3 hq3=>?_⟩)
 .rw[cV,cV,cV];show(l.mR.map (·.1)).length+_<=_;rw[cV];lia
 have en:l.pn.map D.str++(l.groups.map (·.1)).map D.str=l.nm.map D.str:=by unfold pR.nm;rw[dN];rfl
 rw[en];exact⟨_,(s1.trans s2).upd,q q3 ((s1.trans s2).none hq3)⟩
def DB:Fq P w K mg base 1 a.bN (Fw a):=by
 refine fq G.bN.toDG Dn (λr u=>⟨_,(pI (pO (pT (xO u (pN v0) U1) pK))),?_⟩)
 rintro ds M Q ⟨p,x,v,l,rfl,hp,hv,q⟩
 obtain⟨ph,gr,ws,on,pr,gd,rs,h1,h2,h3,h4,h5,h6,h7,h8⟩:=hp;exact pJ h1 (i' Z' (i' Z' (i' h6 (i' (x:=rj v) (by rw[Hb,hv];rfl) ⟨M,.refl,q⟩))))
def zM:Fq P w K mg base 1 a.aK (G2 a):=by
 refine fq G.aK.toDG FO (λr u=>⟨_,(pI (pO (pT (xO u (pN v0) U1) pK))),?_⟩)
 rintro ds M Q ⟨p,x,v,l,rfl,hp,hv,q⟩
 obtain⟨ph,gr,ws,on,pr,gd,rs,h1,h2,h3,h4,h5,h6,h7,h8⟩:=hp;exact pJ h1 (i' Z' (i' Z' (i' h6 (i' (x:=rj v) (by rw[Hb,hv];rfl) ⟨M,.refl,q⟩))))
def uQ:Fq P w K mg base 1 a.X (Al a):=by
 refine fq G.X.toDG zw (λr u=>⟨_,(pH (qa (Mf u U1 (pN v0))
 (pI (pO (qg sv Z' G.m rV (qp (pT (xO u (pN v0) U1) pK)))))
 pU)
 (pI (pO (qX (qp U1))))),?_⟩)
 rintro ds M Q ⟨p,x,l,rfl,hp,q⟩
 obtain⟨ph,gr,ws,on,pr,gd,rs,h1,h2,h3,h4,h5,h6,h7,h8⟩:=hp;refine pJ h1 (i' Z' (i' h7 ?_));cases e:l.group x with
 | none=>refine Lv (c:=(vY (Ij l) (Sum.inr x)).isSome) (by rw[xf,e];rfl) ⟨pE Z',λq1 Ye=>⟨_,.refl,?_⟩⟩;have:=q q1 Ye;unfold pR.mP at this;rw[e]at this;exact this
 | some g=>refine Bb (c:=(vY (Ij l) (Sum.inr x)).isSome) (by rw[xf,e];rfl) (pJ h1 (i' Z' (i' Z' (i' h7 (i' (x:=rC g) (by rw[xf,e];rfl) λq1 Ye=>⟨_,.refl,?_⟩)))));have:=q q1 Ye;unfold pR.mP at this;rw[e]at this;exact this
def yw:Fq P w K mg base 1 a.aJ (DN a):=by
 refine fq G.aJ.toDG BX (λr u=>⟨_,(pH (qa (Mf u U1 (pN v0))
 (pI (pO (pT (xO u (pN v0) U1) pK)))
 pU)
 (pI (pO pL))),?_⟩)
 rintro ds M Q ⟨p,x,l,rfl,hp,q⟩
 obtain⟨ph,gr,ws,on,pr,gd,rs,h1,h2,h3,h4,h5,h6,h7,h8⟩:=hp;refine pJ h1 (i' Z' (i' h7 ?_));cases e:l.group x with
 | none=>refine Lv (c:=(vY (Ij l) (Sum.inr x)).isSome) (by rw[xf,e];rfl) ⟨M,.refl,?_⟩;unfold pR.mT at q;rw[e]at q;exact q
 | some g=>refine Bb (c:=(vY (Ij l) (Sum.inr x)).isSome) (by rw[xf,e];rfl) (pJ h1 (i' Z' (i' Z' (i' h7 (i' (x:=rC g) (by rw[xf,e];rfl) ⟨M,.refl,?_⟩)))));unfold pR.mT at q;rw[e]at q;exact q
noncomputable def Pi:T0 Int:=[1,1,2,2,3]
noncomputable def Oi:T0 Int:=[0,1,1,2,5,9]
noncomputable def OR:QQQ:=["all","turns"]
noncomputable def Hi(t:T0 Int)(i:Int):Int:=t.getD i.toNat 0
def wK(s:Int)(i:Nat):tP:=(ym s (0+(i:Nat)),Hi Pi (qG (s+17*(0+(i:Nat))*(0+(i:Nat))) 16807 5),Hi Oi (qG (s+17*(0+(i:Nat))*(0+(i:Nat))) 39373 6))
def su(s m:Int):Nat:=(2+qG s 48271 (m - 1)).toNat
def qS(s m:Int):List tP:=(List.range (su s m)).map (wK s)
def Ao(s:Int)(own:QQQ)(i:Nat):ur:=(ym s (8+(0+(i:Nat))),AY OR (qG (s+5*(0+(i:Nat))) 742938285 2),ww own (s+11*(0+(i:Nat))) 4)
def wC(s:Int):Nat:=(qG s 69621 3).toNat
def rL(s:Int)(own:QQQ):List ur:=(List.range (wC s)).map (Ao s own)
def GM{ts:T0 Int}{i:Int}(h0:0<=i)(h1:i<ts.length):wX (ts.map D.int) i=ga (D.int (Hi ts i)):=by
 obtain⟨n,rfl⟩:=eE h0;have YE:n<ts.length:=by lia
 refine uB ?_;rw[dC,cY YE];simp[Hi,YE]
def Dd{pre post:T0 D}{d:D}(e:pre++d::post=(List.range n).map λi=>D.int (0+(i:Nat))):d=.int (0+(pre.length:Nat))/\pre.length<n:=by
 have h:((List.range n).map λi=>D.int (0+(i:Nat)))[pre.length]?=ga d:=by rw[<-e];simp
 have hl:pre.length<n:=by
  have:=(cZ.mp h).1
  simpa using this
 rw[dC,kI hl]at h;exact⟨(dg h).symm,hl⟩
def CL{α β:Type}(f:Nat->α)(g:α->β)(n:Nat):((List.range n).map f).map g++[g (f n)]=((List.range (n+1)).map f).map g:=by rw[iA,dN,dN];rfl
def Iz:rM:=λds M Q=>BQ λs m=>ds=[.int s,.int m]/\2<=m/\m<=100/\∀q,M q=Fa->Q (.ref q) (pQ M q (.lst ((qS s m).map rj)))
def HB:rM:=λds M Q=>Dj λs o own=>ds=[.int s,.ref o]/\om M o=ga (own.map D.str)/\own≠[]/\own.length<=64/\∀q,M q=Fa->Q (.ref q) (pQ M q (.lst ((rL s own).map rC)))
def xq{s m:Int}(h2:2<=m)(h:m<=100):su s m<=100/\2<=su s m:=by have d0:=qU (c:=s) (f:=48271) (m:=m - 1) (by lia);have d1:=qR (c:=s) (f:=48271) (m:=m - 1) (by lia);unfold su;lia
def xF{s:Int}:wC s<=3:=by have d0:=qU (c:=s) (f:=69621) (m:=3) (by decide);have d1:=qR (c:=s) (f:=69621) (m:=3) (by decide);unfold wC;lia
def HE:Fq P w K mg base 2 a.bl Iz:=by
 refine fq G.bl.toDG vn (λr u=>⟨_,(pH (pW 2 vn (qX sH))
 (pH (ut eW Z' (vP Z' G.aa (qp (ql pK (pV (qV G) r G.i (rJ v0 pK (ql U1 pK)))))) (rP 3 vn)
 (pH (pW 4 vn (pT (pX (qh pK (qh pK (rJ pK pK pK)))) (pV (qV G) r G.i (rJ (ql v0 (ql (ql pK U3) U3)) pK pK))))
 (pI (pY (qW U2 (qp (pX (rJ (pV (Je G) r G.ah (sd v0 U3)) v4 (pT (pX (qh pK (qh pK (qh pK (rJ pK pK pK))))) (pV (qV G) r G.i (rJ (ql v0 (ql (ql pK U3) U3)) pK pK)))))))))))
 (pI (pO U2)))),?_⟩)
 rintro ds M Q ⟨s,m,rfl,h2,h100,q⟩
 have hz:=dI;have d0:=qU (c:=s) (f:=48271) (m:=m - 1) (by lia);have d1:=qR (c:=s) (f:=48271) (m:=m - 1) (by lia);have nl:=(xq (s:=s) h2 h100).1;refine⟨pE Z',λr hr=>⟨s,_,_,Z',by show 0<m - 1;lia,Z',⟨?_,?_⟩,?_⟩⟩
 .show -(2 ^ 62)<=2+qG s 48271 (m - 1);lia
 .show 2+qG s 48271 (m - 1)<2 ^ 62;lia
 refine vd ((List.range (su s m)).map λi=>D.int (0+(i:Nat))) (λpre U M'=>M'=pQ M r (.lst (((List.range pre.length).map (wK s)).map rj))/\∃x y,U=[ga (.int s),ga (.int m),ga (.ref r),x,y]) (λ_ _ _ _=>trivial) _ [] _ _ Z' ⟨Z',Fa,Fa,Z'⟩ ?_ ?_
 .rintro pre d post e U M' ⟨rfl,x,y,rfl⟩ nx Xg
  obtain⟨rfl,Xn⟩:=Dd e;generalize hi:pre.length=i at Xn Xg ⊢;have cm:Dy (17*(0+(i:Int))) (0+(i:Int)):=.inr ⟨by lia,by lia⟩;have c17:Dy 17 (0+(i:Int)):=.inl ⟨by decide,by decide⟩;have t5:wX [D.int 1,.int 1,.int 2,.int 2,.int 3] (qG (s+17*(0+(i:Int))*(0+(i:Int))) 16807 5)=ga (.int (wK s i).2.1):=GM (ts:=Pi) (qU (by decide)) (qR (by decide));have t6:wX [D.int 0,.int 1,.int 1,.int 2,.int 5,.int 9] (qG (s+17*(0+(i:Int))*(0+(i:Int))) 39373 6)=ga (.int (wK s i).2.2):=GM (ts:=Oi) (qU (by decide)) (qR (by decide));refine⟨pE Z',c17,cm,_,_,_,Z',by decide,i' t5 ?_⟩;refine⟨by show(om _ r).isSome=Db;rw[pS];rfl,s,_,Z',pE Z',c17,cm,_,_,_,Z',by decide,i' t6 ⟨pE Z',i' pS ⟨?_,?_⟩⟩⟩
  .rw[cV,cV,eC];lia
  .refine Xg _ _ ⟨?_,_,_,Z'⟩;rw[sf,cX,hi];show pQ M r (.lst (_++[rj (wK s i)]))=_;rw[CL];rfl
 .rintro U M' ⟨rfl,x,y,rfl⟩
  refine⟨_,.refl,?_⟩;rw[cV,eC];exact q r hr
def ID:Fq P w K mg base 3 a.bm HB:=by
 refine fq G.bm.toDG vo (λr u=>⟨_,(pH (pW 2 vo (qX sH))
 (pH (ut eW Z' (vP Z' G.aa (qp (pV (qV G) r G.i (rJ v0 pK pK)))) (rP 3 vo)
 (pH (pW 4 vo (pT (pX (sd pL pL)) (pV (qV G) r G.i (rJ (ql v0 (ql pK U3)) pK pK))))
 (pI (pY (qW U2 (qp (pX (rJ (pV (Je G) r G.ah (sd v0 (ql pK U3))) v4 (pV (yI G) r G.Q (rJ U1 (ql v0 (ql pK U3)) pK))))))))))
 (pI (pO U2)))),?_⟩)
 rintro ds M Q ⟨s,o,own,rfl,ho,Xx,h64,q⟩
 have hz:=dI;have d0:=qU (c:=s) (f:=69621) (m:=3) (by decide);have d1:=qR (c:=s) (f:=69621) (m:=3) (by decide);have nl:=xF (s:=s);refine⟨pE Z',λr hr=>⟨s,_,_,Z',by decide,Z',⟨?_,?_⟩,?_⟩⟩
 .show -(2 ^ 62)<=qG s 69621 3;lia
 .show qG s 69621 3<2 ^ 62;lia
 have nor:o≠r:=λz=>by rw[z]at ho;unfold om at ho;rw[hr]at ho;cases ho
 refine vd ((List.range (wC s)).map λi=>D.int (0+(i:Nat))) (λpre U M'=>M'=pQ M r (.lst (((List.range pre.length).map (Ao s own)).map rC))/\∃x y,U=[ga (.int s),ga (.ref o),ga (.ref r),x,y]) (λ_ _ _ _=>trivial) _ [] _ _ Z' ⟨Z',Fa,Fa,Z'⟩ ?_ ?_
 .rintro pre d post e U M' ⟨rfl,x,y,rfl⟩ nx Xg
  obtain⟨rfl,Xn⟩:=Dd e;generalize hi:pre.length=i at Xn Xg ⊢;have c5:Dy 5 (0+(i:Int)):=.inl ⟨by decide,by decide⟩;have c11:Dy 11 (0+(i:Int)):=.inl ⟨by decide,by decide⟩;have tm:wX [D.str "all",.str "turns"] (qG (s+5*(0+(i:Int))) 742938285 2)=ga (.str (Ao s own i).2.1):=Cz (row:=OR) (qU (by decide)) (qR (by decide));have XQ:om (pQ M r (.lst (((List.range i).map (Ao s own)).map rC))) o=ga (own.map D.str):=by unfold om;rw[tj nor];exact ho
  refine⟨pE Z',c5,_,_,_,Z',by decide,i' tm ?_⟩;refine⟨by show(om _ r).isSome=Db;rw[pS];rfl,s,_,Z',c11,o,_,_,own,Z',XQ,Xx,by decide,h64,pE Z',i' pS ⟨?_,?_⟩⟩
  .rw[cV,cV,eC];lia
  .refine Xg _ _ ⟨?_,_,_,Z'⟩;rw[sf,cX,hi];show pQ M r (.lst (_++[rC (Ao s own i)]))=_;rw[CL];rfl
 .rintro U M' ⟨rfl,x,y,rfl⟩
  refine⟨_,.refl,?_⟩;rw[cV,eC];exact q r hr
def J4(ns:T0 Int)(own nm:QQQ)(i:Nat):wm:=(decide (0<qG (cell ns (1+(0+(i:Nat)))+31*(0+(i:Nat))*(0+(i:Nat))) 22695477 6),wZ (cell ns (1+(0+(i:Nat)))+31*(0+(i:Nat))*(0+(i:Nat))) own nm)
def xK(s:Int):Nat:=(qG s 950706376 11).toNat
def zQ(ns:T0 Int)(m:Int):pR:=
 let s:=cell ns 0;let own:=(qS s m).map (·.1);let gs:=rL s own
 ⟨qS s m,gs,(List.range (xK s)).map (J4 ns own (own++gs.map (·.1)))⟩
def MP:rM:=λds M Q=>BQ λns m=>ds=[.rl (ns.map D.int),.int m]/\2<=m/\m<=8/\∀r1 r2 r3 M',qO M M'->om M' r1=ga ((zQ ns m).mR.map rj)->om M' r2=ga ((zQ ns m).groups.map rC)->om M' r3=ga ((zQ ns m).mQ.map vw)->Q (.tup [.ref r1,.ref r2,.ref r3]) M'
def MR:Fq P w K mg base 4 a.bo MP:=by
 refine fq G.bo.toDG sZ (λr u=>⟨_,(pH (pW 2 sZ (pV (MS G) r G.P (sd v0 pK)))
 (pH (pW 3 sZ (pV (HE G) r G.bl (sd U2 U1)))
 (pH (vf (i:=4) sZ.nd Z' (Or.inl Z') Z' (xV (ix:=[Fa]) (N':=["_law_phone"])) (qP U3) (qQ 0) sC (pT v0 pK))
 (pH (pW 5 sZ (pV (ID G) r G.bm (sd U2 v4)))
 (pH (pW 6 sZ (ql v4 (qT Z' (xV (ix:=[Fa]) (N':=["_law_group"])) (qP v5) (qQ 0) sC (pT v0 pK))))
 (pH (pW 7 sZ (qX sH))
 (pH (ut eW Z' (vP Z' G.aa (qp (pV (qV G) r G.i (rJ U2 pK pK)))) (rP 8 sZ)
 (pH (pW 9 sZ (ql (pV (MS G) r G.P (sd v0 (ql pK v8))) (ql (ql pK v8) v8)))
 (pI (pY (qW v7 (qp (pX (sd (qr u (pV (qV G) r G.i (rJ v9 pK pK)) pK) (pV (QJ G) r G.bn (rJ v9 v4 v6))))))))))
 (pI (pO (pX (rJ U3 v5 v7))))))))))),?_⟩)
 rintro ds M Q ⟨ns,m,rfl,h2,h8,q⟩
 have hz:=dI;have pl:=xq (s:=cell ns 0) h2 (by lia);have p8:su (cell ns 0) m<=8:=by have d1:=qR (c:=cell ns 0) (f:=48271) (m:=m - 1) (by lia);unfold su;lia
 have gl:=xF (s:=cell ns 0);have lp:(qS (cell ns 0) m).length=su (cell ns 0) m:=by unfold qS;rw[cV,eC]
 refine⟨ns,0,Z',cell ns 0,m,Z',h2,by lia,λr1 XU=>?_⟩;obtain⟨M1,e0,s1,a1⟩:=uT (ds:=(qS (cell ns 0) m).map rj) XU;rw[<-e0];refine i' a1 (rG (f:=Bp) a1 _ [] _ (by rw[cV];simp only[dF];lia) (λd hd k hk=>?_) λo ho=>?_)
 .obtain⟨x,_,rfl⟩:=dD.mp hd;exact hk
 rw[dZ,xJ];have s2:=s1.trans (qO.new (c:=.lst (((qS (cell ns 0) m).map (·.1)).map D.str)) ho);have b1:=(qO.new (c:=.lst (((qS (cell ns 0) m).map (·.1)).map D.str)) ho).lst a1;have bo:=@pS M1 o (((qS (cell ns 0) m).map (·.1)).map D.str);generalize pQ M1 o (.lst (((qS (cell ns 0) m).map (·.1)).map D.str))=M2 at s2 b1 bo ⊢;have ol:((qS (cell ns 0) m).map (·.1)).length=su (cell ns 0) m:=by rw[cV,lp]
 have one:(qS (cell ns 0) m).map (·.1)≠[]:=λz=>by rw[z]at ol;have:0=su (cell ns 0) m:=ol;lia
 have Xp:zQ ns m=⟨qS (cell ns 0) m,rL (cell ns 0) ((qS (cell ns 0) m).map (·.1)),(List.range (xK (cell ns 0))).map (J4 ns ((qS (cell ns 0) m).map (·.1)) ((qS (cell ns 0) m).map (·.1)++(rL (cell ns 0) ((qS (cell ns 0) m).map (·.1))).map (·.1)))⟩:=rfl;rw[Xp]at q;generalize (qS (cell ns 0) m).map (·.1)=own at bo ol one q ⊢;refine⟨cell ns 0,o,own,Z',bo,one,by lia,λr2 Zw=>?_⟩;obtain⟨M3,e0,t3,c2⟩:=uT (ds:=(rL (cell ns 0) own).map rC) Zw;rw[<-e0];have c1:=t3.lst b1;have co:=t3.lst bo;have s3:=s2.trans t3;have gll:(rL (cell ns 0) own).length=wC (cell ns 0):=by unfold rL;rw[cV,eC]
 refine i' c2 (rG (f:=Bp) c2 _ [] _ (by rw[cV];simp only[dF];lia) (λd hd k hk=>?_) λx4 hx4=>?_)
 .obtain⟨x,_,rfl⟩:=dD.mp hd;exact hk
 rw[dZ,xC];have t4:=qO.new (c:=.lst (((rL (cell ns 0) own).map (·.1)).map D.str)) hx4;refine i' (t4.lst co) (i' pS ⟨?_,λn hn=>?_⟩)
 .rw[cV,cV,cV];lia
 have en:own.map D.str++((rL (cell ns 0) own).map (·.1)).map D.str=(own++(rL (cell ns 0) own).map (·.1)).map D.str:=by rw[dN]
 rw[en];have nl:(own++(rL (cell ns 0) own).map (·.1)).length=su (cell ns 0) m+wC (cell ns 0):=by rw[cX,cV,ol,gll]
 have t5:=t4.trans (qO.new (c:=.lst ((own++(rL (cell ns 0) own).map (·.1)).map D.str)) hn);have en5:=@pS (pQ M3 x4 (.lst (((rL (cell ns 0) own).map (·.1)).map D.str))) n ((own++(rL (cell ns 0) own).map (·.1)).map D.str);have e1:=t5.lst c1;have e2:=t5.lst c2;have eo:=t5.lst co;have s5:=s3.trans t5;generalize pQ (pQ M3 x4 (.lst (((rL (cell ns 0) own).map (·.1)).map D.str))) n (.lst ((own++(rL (cell ns 0) own).map (·.1)).map D.str))=M5 at s5 e1 e2 eo en5 ⊢;generalize own++(rL (cell ns 0) own).map (·.1)=nm at en5 nl q ⊢;have d0:=qU (c:=cell ns 0) (f:=950706376) (m:=11) (by decide);have d1:=qR (c:=cell ns 0) (f:=950706376) (m:=11) (by decide);refine⟨pE Z',λr3 ZM=>⟨_,_,_,Z',by decide,Z',⟨?_,?_⟩,?_⟩⟩
 .show -(2 ^ 62)<=qG (cell ns 0) 950706376 11;lia
 .show qG (cell ns 0) 950706376 11<2 ^ 62;lia
 have t6:=qO.new (c:=.lst []) ZM;have g3:=@pS M5 r3 [];have no:o≠r3:=λz=>by have:=qx eo;rw[z,ZM]at this;cases this
 have nn:n≠r3:=λz=>by have:=qx en5;rw[z,ZM]at this;cases this
 have n1:r1≠r3:=λz=>by have:=qx e1;rw[z,ZM]at this;cases this
 have n2:r2≠r3:=λz=>by have:=qx e2;rw[z,ZM]at this;cases this
 have f1:=t6.lst e1;have f2:=t6.lst e2;have fo:=t6.lst eo;have fn:=t6.lst en5;have k6:qO M (pQ M5 r3 (.lst [])):=s5.trans t6;have nr:M r3=Fa:=s5.none ZM;generalize pQ M5 r3 (.lst [])=M6 at f1 f2 fo fn k6 g3 ⊢;have wl:xK (cell ns 0)<=10:=by unfold xK;lia
 refine vd ((List.range (xK (cell ns 0))).map λi=>D.int (0+(i:Nat))) (λpre U M'=>se r3 M6 M'/\om M' r3=ga (((List.range pre.length).map (J4 ns own nm)).map vw)/\∃x y,U=[ga (.rl (ns.map D.int)),ga (.int m),ga (.int (cell ns 0)),ga (.ref r1),ga (.ref o),ga (.ref r2),ga (.ref n),ga (.ref r3),x,y]) (λp U M' j=>trivial) _ [] _ _ Z' ⟨λ_ _ _ h=>h,g3,Fa,Fa,Z'⟩ ?_ ?_
 .rintro pre d post e U M' ⟨kp,lr,x,y,rfl⟩ nx Xg
  obtain⟨rfl,Xn⟩:=Dd e;generalize hi:pre.length=i at Xn Xg lr ⊢;have c31:Dy 31 (0+(i:Int)):=.inl ⟨by decide,by decide⟩;have cm:Dy (31*(0+(i:Int))) (0+(i:Int)):=.inr ⟨by lia,by lia⟩;refine⟨ns,_,Z',c31,cm,?_⟩;refine⟨by show(om M' r3).isSome=Db;rw[lr];rfl,_,_,_,Z',by decide,_,o,n,own,nm,Z',kp.lst no fo,kp.lst nn fn,one,by lia,by lia,by lia,pE Z',i' lr ⟨?_,?_⟩⟩
  .rw[cV,cV,eC];lia
  .refine Xg _ _ ⟨kp.trans .put,?_,_,_,Z'⟩;rw[pS,cX,hi];show ga (_++[vw (J4 ns own nm i)])=_;rw[CL];rfl
 .rintro U M' ⟨kp,lr,x,y,rfl⟩
  rw[cV,eC]at lr;exact⟨pE Z',M',.refl,q r1 r2 r3 M' (λb c h=>kp b c (λz=>by rw[z,nr]at h;cases h) (k6 b c h)) (kp.lst n1 f1) (kp.lst n2 f2) lr⟩
theorem Cn(x:Array Nat):∀(n:Nat) (acc:Array Nat),((List.replicate n x).foldl (·++·) acc).toList=acc.toList++(List.replicate n x.toList).flatten
 | 0,acc=>by simp
 | n+1,acc=>by rw[eM,gg,Cn x n (acc++x),eM,fU,jj,fg]
theorem Hr(c:Nat):∀n:Nat,(List.replicate n [c]).flatten=List.replicate n c
 | 0=>rfl
 | n+1=>by rw[eM,fU,Hr c n,eM];rfl
def Ep(i n:Int):(zb (uH i) n).cps.toList=List.replicate n.toNat (97+i.toNat):=by show((List.replicate n.toNat (uH i).cps).foldl (·++·) #[]:Array Nat).toList=_;rw[Cn];show[]++(List.replicate n.toNat [97+i.toNat]).flatten=_;rw[dZ,Hr]
def yD(s v:Int):(ym s v).cps.toList=List.replicate (uO s).toNat (97+(s / 36 % 26).toNat)++(97+((s / 936+v) % 26).toNat)::List.replicate (size s - 1 - uO s).toNat (97+(s / 36 % 26).toNat):=by show((zb (uH (s / 36 % 26)) (uO s)).cps++(uH ((s / 936+v) % 26)).cps++(zb (uH (s / 36 % 26)) (size s - 1 - uO s)).cps).toList=_;rw[jj,jj,Ep,Ep];show _++[97+((s / 936+v) % 26).toNat]++_=_;rw[fg];rfl
def CK(s v:Int):1<=(ym s v).length/\(ym s v).length<=6:=by
 have e:(ym s v).length=(ym s v).cps.toList.length:=by simp[Str.length]
 rw[e,yD,cX,eA,iV,iV];have h1:=Gm s;have h2:=Jx s;have h3:0<=uO s:=eZ _ (by lia);have h4:uO s<size s:=eX _ h1;lia
def MV{i:Int}(h0:0<=i)(h1:i<26):DV ⟨#[97+i.toNat]⟩ uZ=Db:=by
 obtain⟨n,rfl⟩:=eE h0;have hn:n<26:=by lia
 have key:∀n:_root_.Fin 26,DV ⟨#[97+n.val]⟩ uZ=Db:=by decide+kernel
 exact key ⟨n,hn⟩
def En(s v:Int):uX (ym s v)=Db:=by
 obtain⟨h1,h2⟩:=CK s v;unfold uX;rw[dX (show(1:Int)<=(ym s v).length by lia),dX (show((ym s v).length:Int)<=6 by lia),eP,eP,eI];intro c hc;rw[yD]at hc;have k1:=MV (eZ (s / 36) (show(26:Int)≠0 by decide)) (eX (s / 36) (by decide));have k2:=MV (eZ (s / 936+v) (show(26:Int)≠0 by decide)) (eX (s / 936+v) (by decide));rcases dY.mp hc with z|z
 .rw[jT z];exact k1
 .rcases dh.mp z with z|z
  .rw[z];exact k2
  .rw[jT z];exact k1
def CB{s u v:Int}(hu:0<=u)(hu':u<26)(hv:0<=v)(hv':v<26)(e:ym s u=ym s v):u=v:=by
 have e':(ym s u).cps.toList=(ym s v).cps.toList:=by rw[e]
 rw[yD,yD]at e';have:=(List.append_cancel_left e');have:=(gz this).1;have a1:=eZ (s / 936+u) (show(26:Int)≠0 by decide);have a2:=eZ (s / 936+v) (show(26:Int)≠0 by decide);have h:(s / 936+u) % 26=(s / 936+v) % 26:=by lia
 lia
def FQ{ss:QQQ}{x:Str}(h:x∈ss):yi ss x:=gG.mpr ⟨x,h,by simp⟩
def z9{row:QQQ}{i:Int}(h0:0<=i)(h1:i<row.length):AY row i∈row:=by
 obtain⟨n,rfl⟩:=eE h0;have hn:n<row.length:=by lia
 have:AY row (n:Int)=row[n]:=by simp[AY,hn]
 rw[this];exact im hn
def IW{row:QQQ}{i j:Int}(nd:row.Nodup)(h0:0<=i)(h1:i<row.length)(g0:0<=j)(g1:j<row.length)(e:AY row i=AY row j):i=j:=by
 obtain⟨n,rfl⟩:=eE h0;obtain⟨k,rfl⟩:=eE g0;have hn:n<row.length:=by lia
 have hk:k<row.length:=by lia
 have e1:AY row (n:Int)=row[n]:=by simp[AY,hn]
 have e2:AY row (k:Int)=row[k]:=by simp[AY,hk]
 rw[e1,e2]at e;have pw:=jB.mp nd;rcases Nat.lt_trichotomy n k with z|z|z
 .exact absurd e (pw n k hn hk z)
 .rw[z]
 .exact absurd e.symm (pw k n hk hn z)
def Aq{α:Type}(f:Nat->α)(n:Nat)(h:∀i j,i<n->j<n->f i=f j->i=j):((List.range n).map f).Nodup:=by refine jB.mpr λi j hi hj Xn e=>?_;rw[cV,eC]at hi hj;rw[ma,ma,ls,ls]at e;have:=h i j hi hj e;lia
def Ci{row:QQQ}{c m:Int}(hr:row≠[])(hm:0<m):1<=xS row c m/\(xS row c m:Int)<=m/\xS row c m<=row.length:=by
 have hl:0<row.length:=fC.mpr hr;have d0:=qU (c:=c) (f:=40692) (m:=if (row.length:Int)<m then(row.length:Int)else m) (by split<;>lia);have d1:=qR (c:=c) (f:=40692) (m:=if (row.length:Int)<m then(row.length:Int)else m) (by split<;>lia);unfold xS;by_cases h:(row.length:Int)<m
 .rw[de h]at d0 d1 ⊢;lia
 .rw[c9 h]at d0 d1 ⊢;lia
def C5{row:QQQ}{c:Int}(hr:row≠[])(j:Nat):0<=(qG c 69621 row.length+(0+(j:Nat))) % (row.length:Int)/\(qG c 69621 row.length+(0+(j:Nat))) % (row.length:Int)<row.length:=by have hl:0<row.length:=fC.mpr hr;exact⟨eZ _ (by lia),eX _ (by lia)⟩
def J2{d n i j:Int}(hn:0<n)(hi:0<=i)(Yz:i<n)(hj:0<=j)(hj':j<n)(e:(d+i) % n=(d+j) % n):i=j:=by
 have h1:=kq (d+i) n;have h2:=kq (d+j) n;generalize (d+i) / n=a at h1;generalize (d+j) / n=b at h2;have h3:i - j=n*(a - b):=by rw[Int.mul_sub];lia
 rcases Int.lt_trichotomy (a - b) 0 with z|z|z
 .have:n*(a - b)<=n*(-1):=jh (by lia) (by lia);lia
 .rw[z]at h3;lia
 .have:n*1<=n*(a - b):=jh (by lia) (by lia);lia
def IQ{row:QQQ}{c m:Int}(nd:row.Nodup)(hr:row≠[])(hm:0<m):(ww row c m).Nodup:=by have hl:0<row.length:=fC.mpr hr;obtain⟨_,_,l3⟩:=Ci (c:=c) hr hm;refine Aq _ _ λi j hi hj e=>?_;obtain⟨a0,a1⟩:=C5 (c:=c) hr i;obtain⟨b0,b1⟩:=C5 (c:=c) hr j;have e':=IW nd a0 a1 b0 b1 e;have:=J2 (d:=qG c 69621 row.length) (n:=row.length) (i:=0+(i:Nat)) (j:=0+(j:Nat)) (by lia) (by lia) (by lia) (by lia) (by lia) e';lia
def yy{row:QQQ}{c m k:Int}(nd:row.Nodup)(hr:row≠[])(hm:0<m)(hk:m<=k):tF (ww row c m) row k=Db:=by
 obtain⟨l1,l2,l3⟩:=Ci (c:=c) hr hm;have el:(ww row c m).length=xS row c m:=by unfold ww;rw[cV,eC]
 unfold tF;rw[el,dX (show(1:Int)<=xS row c m by lia),dX (show(xS row c m:Int)<=k by lia),El (IQ nd hr hm),eP,eP,eP,eI];intro x hx;unfold ww at hx;obtain⟨j,_,rfl⟩:=dD.mp hx;obtain⟨a0,a1⟩:=C5 (c:=c) hr j;exact FQ (z9 a0 a1)
def Cm{row:QQQ}{c m:Int}(hr:row≠[])(hm:0<m)(h:m<=100):(ww row c m).length<4000:=by
 obtain⟨l1,l2,l3⟩:=Ci (c:=c) hr hm;have el:(ww row c m).length=xS row c m:=by unfold ww;rw[cV,eC]
 lia
def Pd{c:Int}{own all:QQQ}(no:own.Nodup)(na:all.Nodup)(ho:own≠[])(ha:2<=all.length):CC own all (wZ c own all):=by
 have hl:(0:Int)<own.length:=by have:=fC.mpr ho;lia
 have ha0:all≠[]:=λz=>by rw[z]at ha;simp at ha
 have hx:=FQ (z9 (qU (c:=c) (f:=16807) hl) (qR (c:=c) (f:=16807) hl));have p0:=qU (c:=c) (f:=39373) (m:=all.length) (by lia);have p1:=qR (c:=c) (f:=39373) (m:=all.length) (by lia);have e0:=qU (c:=c) (f:=742938285) (m:=(all.length:Int) - 1) (by lia);have e1:=qR (c:=c) (f:=742938285) (m:=(all.length:Int) - 1) (by lia);have z0:=eZ (qG c 39373 all.length+1+qG c 742938285 ((all.length:Int) - 1)) (show(all.length:Int)≠0 by lia);have z1:=eX (qG c 39373 all.length+1+qG c 742938285 ((all.length:Int) - 1)) (show(0:Int)<all.length by lia);have hy:=FQ (z9 p0 p1);have hzz:=FQ (z9 z0 z1);have ne:AY all (qG c 39373 all.length)≠AY all ((qG c 39373 all.length+1+qG c 742938285 ((all.length:Int) - 1)) % all.length):=λz=>by
  have q:=IW na p0 p1 z0 z1 z;have q2:(qG c 39373 all.length+0) % (all.length:Int)=(qG c 39373 all.length+(1+qG c 742938285 ((all.length:Int) - 1))) % (all.length:Int):=by rw[Int.add_zero,Int.emod_eq_of_lt p0 p1,<-Int.add_assoc];exact q
  have:=J2 (by lia) (by lia) (by lia) (by lia) (by lia) q2;lia
 have f0:=qU (c:=c) (f:=22695477) (m:=24) (by decide);have f1:=qR (c:=c) (f:=22695477) (m:=24) (by decide);have g0:=qU (c:=c) (f:=48271) (m:=23) (by decide);have g1:=qR (c:=c) (f:=48271) (m:=23) (by decide);have t0:=qU (c:=c) (f:=950706376) (m:=5) (by decide);have t1:=qR (c:=c) (f:=950706376) (m:=5) (by decide);unfold wZ;simp only;split
 .exact⟨hx,Cm ha0 (by decide) (by decide),yy na ha0 (by decide) (by decide)⟩
 .split
  .exact⟨hy,Cm ho (by decide) (by decide),yy no ho (by decide) (by decide)⟩
  .split
   .exact⟨hy,hzz,ne⟩
   .split
    .refine⟨hy,hzz,ne,⟨f0,by lia⟩,⟨eZ _ (by decide),?_⟩,?_⟩
     .have:=eX (qG c 22695477 24+1+qG c 48271 23) (show(0:Int)<24 by decide);lia
     .omega
    .split
     .exact⟨hy,hzz,ne⟩
     .split
      .refine⟨hy,hzz,ne,?_⟩;generalize qG c 950706376 5=d at t0 t1;have:d=0\/d=1\/d=2\/d=3\/d=4:=by lia
       rcases this with z|z|z|z|z<;>(subst z;decide)
      .split
       .exact hx
       .exact hx
def MJ(s:Int)(i:Nat):FW (wK s i):=by
 have t0:=qU (c:=s+17*(0+(i:Nat))*(0+(i:Nat))) (f:=16807) (m:=5) (by decide);have t1:=qR (c:=s+17*(0+(i:Nat))*(0+(i:Nat))) (f:=16807) (m:=5) (by decide);have u0:=qU (c:=s+17*(0+(i:Nat))*(0+(i:Nat))) (f:=39373) (m:=6) (by decide);have u1:=qR (c:=s+17*(0+(i:Nat))*(0+(i:Nat))) (f:=39373) (m:=6) (by decide);have a:1<=(wK s i).2.1/\(wK s i).2.1<=3:=by
  show 1<=Hi Pi (qG (s+17*(0+(i:Nat))*(0+(i:Nat))) 16807 5)/\Hi Pi (qG (s+17*(0+(i:Nat))*(0+(i:Nat))) 16807 5)<=3;generalize qG (s+17*(0+(i:Nat))*(0+(i:Nat))) 16807 5=d at t0 t1;have:d=0\/d=1\/d=2\/d=3\/d=4:=by lia
  rcases this with z|z|z|z|z<;>(subst z;decide)
 have b:0<=(wK s i).2.2/\(wK s i).2.2<=9:=by
  show 0<=Hi Oi (qG (s+17*(0+(i:Nat))*(0+(i:Nat))) 39373 6)/\Hi Oi (qG (s+17*(0+(i:Nat))*(0+(i:Nat))) 39373 6)<=9;generalize qG (s+17*(0+(i:Nat))*(0+(i:Nat))) 39373 6=d at u0 u1;have:d=0\/d=1\/d=2\/d=3\/d=4\/d=5:=by lia
  rcases this with z|z|z|z|z|z<;>(subst z;decide)
 exact⟨d9 (CK s (0+(i:Nat))).2 (by decide),En _ _,a.1,a.2,b.1,b.2⟩
def MH{s:Int}{own:QQQ}(nd:own.Nodup)(hr:own≠[])(i:Nat):F2 own (Ao s own i):=by
 have t0:=qU (c:=s+5*(0+(i:Nat))) (f:=742938285) (m:=2) (by decide);have t1:=qR (c:=s+5*(0+(i:Nat))) (f:=742938285) (m:=2) (by decide);refine⟨d9 (CK s (8+(0+(i:Nat)))).2 (by decide),En _ _,?_,Cm hr (by decide) (by decide),yy nd hr (by decide) (by decide)⟩;show AY OR (qG (s+5*(0+(i:Nat))) 742938285 2)="all"\/AY OR (qG (s+5*(0+(i:Nat))) 742938285 2)="turns";generalize qG (s+5*(0+(i:Nat))) 742938285 2=d at t0 t1;have:d=0\/d=1:=by lia
 rcases this with z|z
 .subst z;exact .inl Z'
 .subst z;exact .inr Z'
def MC(s m:Int):(qS s m).map (·.1)=(List.range (su s m)).map λi=>ym s (0+(i:Nat)):=by unfold qS;rw[eh];rfl
def G1{s m:Int}(h2:2<=m)(h8:m<=8):((qS s m).map (·.1)).Nodup/\∀own,((qS s m).map (·.1)++(rL s own).map (·.1)).Nodup:=by
 have d1:=qR (c:=s) (f:=48271) (m:=m - 1) (by lia);have d0:=qU (c:=s) (f:=48271) (m:=m - 1) (by lia);have p8:su s m<=8:=by unfold su;lia
 have g3:=xF (s:=s);have a:((qS s m).map (·.1)).Nodup:=by rw[MC];refine Aq _ _ λi j hi hj e=>?_;have:=CB (by lia) (by lia) (by lia) (by lia) e;lia
 refine⟨a,λown=>?_⟩;have ge:(rL s own).map (·.1)=(List.range (wC s)).map λi=>ym s (8+(0+(i:Nat))):=by unfold rL;rw[eh];rfl
 rw[fL];refine⟨a,?_,λx hx y hy e=>?_⟩
 .rw[ge];refine Aq _ _ λi j hi hj e=>?_;have:=CB (by lia) (by lia) (by lia) (by lia) e;lia
 .rw[MC]at hx;rw[ge]at hy;obtain⟨i,hi,rfl⟩:=dD.mp hx;obtain⟨j,hj,rfl⟩:=dD.mp hy;have hi:=gb.mp hi;have hj:=gb.mp hj;have:=CB (by lia) (by lia) (by lia) (by lia) e;lia
def Pq{m:Int}(h2:2<=m)(h8:m<=8):rX (zQ ns m):=by
 obtain⟨n1,n2⟩:=G1 (s:=cell ns 0) h2 h8;have pl:=xq (s:=cell ns 0) h2 (by lia);have p8:su (cell ns 0) m<=8:=by have d1:=qR (c:=cell ns 0) (f:=48271) (m:=m - 1) (by lia);unfold su;lia
 have lp:(qS (cell ns 0) m).length=su (cell ns 0) m:=by unfold qS;rw[cV,eC]
 have ol:((qS (cell ns 0) m).map (·.1)).length=su (cell ns 0) m:=by rw[cV,lp]
 have one:(qS (cell ns 0) m).map (·.1)≠[]:=λz=>by rw[z]at ol;have:0=su (cell ns 0) m:=ol;lia
 have gl:(rL (cell ns 0) ((qS (cell ns 0) m).map (·.1))).length=wC (cell ns 0):=by unfold rL;rw[cV,eC]
 refine⟨?_,?_,λp hp=>?_,?_,λg hg=>?_,n2 _,?_,λv hv=>?_⟩
 .show 1<=(qS (cell ns 0) m).length;lia
 .show(qS (cell ns 0) m).length<=8;lia
 .obtain⟨i,_,rfl⟩:=dD.mp hp;exact MJ _ i
 .show(rL (cell ns 0) ((qS (cell ns 0) m).map (·.1))).length<=3;rw[gl];exact xF
 .obtain⟨i,_,rfl⟩:=dD.mp hg;exact MH n1 one i
 .show((List.range (xK (cell ns 0))).map _).length<=16;rw[cV,eC];have d1:=qR (c:=cell ns 0) (f:=950706376) (m:=11) (by decide);unfold xK;lia
 .obtain⟨i,hi,rfl⟩:=dD.mp hv;refine Pd n1 (n2 _) one ?_;show 2<=((qS (cell ns 0) m).map (·.1)++_).length;rw[cX,ol];lia
structure pM where
 st:Str
 cr:Str
 way:QQQ
 at_:QQQ
 ms:QQQ
 hd:Option Str
 si:Int
 wd:Option Str
structure tz where
 i:Nat
 f:Str
 g:Str
 y:Str
inductive Ev
 | new (n:Nat) (x:Str)
 | leg (v:tz)
 | asks (i:Nat) (z:Str) (ns:List Nat)
 | next (z:Str) (n:Int)
 | merge (i j:Nat) (ms:QQQ)
 | turn
 | sw (b:Bool) (i:Nat)
 | rings (i:Nat) (ps:QQQ)
 | quiet (i:Nat)
 | waits (i:Nat) (x:Str)
 | talks (i:Nat) (ms:QQQ)
 | held (i:Nat) (x:Str)
 | leaves (i:Nat) (x:Str)
 | over (i:Nat) (w:Str)
structure qJ where
 p:Uf
 h:Int
 t:Int
 calls:List pM
 ng:List tz
 ps:List (Str×Int)
 on:List Bool
 log:List Ev
 fo:QXQ
noncomputable def uK(ns:T0 Nat):D:=.tup (ns.map λn=>D.int (n:Nat))
noncomputable def tz.d(v:tz):D:=.tup [.int (v.i:Nat),.str v.f,.str v.g,.str v.y]
noncomputable def Uo(b:Bool):Str:=if b=Db then "on" else "off"
def Ev.d:Ev->D
 | .new n x=>.tup [.str "new",.int (n:Nat),.str x]
 | .leg v=>.tup [.str "leg",.int (v.i:Nat),.str v.f,.str v.g,.str v.y]
 | .asks i z ns=>.tup [.str "asks",.int (i:Nat),.str z,uK ns]
 | .next z n=>.tup [.str "next",.str z,.int n]
 | .merge i j ms=>.tup [.str "merge",.int (i:Nat),.int (j:Nat),names ms]
 | .turn=>.tup [.str "turn"]
 | .sw b i=>.tup [.str (Uo b),.int (i:Nat)]
 | .rings i ps=>.tup [.str "rings",.int (i:Nat),names ps]
 | .quiet i=>.tup [.str "quiet",.int (i:Nat)]
 | .waits i x=>.tup [.str "waits",.int (i:Nat),.str x]
 | .talks i ms=>.tup [.str "talks",.int (i:Nat),names ms]
 | .held i x=>.tup [.str "held",.int (i:Nat),.str x]
 | .leaves i x=>.tup [.str "leaves",.int (i:Nat),.str x]
 | .over i w=>.tup [.str "over",.int (i:Nat),.str w]
noncomputable def hasS(ss:QQQ)(x:Str):Bool:=ss.any (·==x)
noncomputable def tD(ss:QQQ)(x:Str):QQQ:=ss.filter λy=>!(y==x)
noncomputable def zV(x:Str):pM:=⟨"rings",x,[],[],[],Fa,0,Fa⟩
noncomputable def pM.over(c:pM)(w:Str):pM:={c with st:="over",wd:=some w,at_:=[],ms:=[],hd:=none}
def pM.drop(c:pM)(x:Str):pM:={c with at_:=tD c.at_ x,ms:=tD c.ms x}
noncomputable def pM.ring(c:pM)(ps:QQQ):pM:={c with st:="rings",at_:=ps,si:=0}
noncomputable def pM.nN(c:pM)(ms:QQQ):pM:={c with st:="talks",ms:=ms,at_:=[],hd:=none}
noncomputable def pM.wait(c:pM)(x:Str):pM:={c with st:="waits",at_:=[x]}
noncomputable def pM.hold(c:pM)(x:Str):pM:={c with st:="held",hd:=some x}
noncomputable def pM.nS(c:pM):pM:={c with at_:=[]}
noncomputable def pM.mem(c:pM)(ms:QQQ):pM:={c with ms:=ms}
noncomputable def pM.go(c:pM)(g:Str):pM:={c with way:=c.way++[g]}
noncomputable def pM.tick(c:pM):pM:=if (c.st=="rings")=Db then{c with si:=c.si+1}else c
noncomputable def tz.to(m k:Nat)(v:tz):tz:=if v.i=m then{v with i:=k}else v
noncomputable def CV(ps:T0 (Str×Int))(z:Str)(n:Int):T0 (Str×Int):=if ps.any (λp=>decide (p.1=z))=Db then ps.map (λp=>if p.1=z then(p.1,n)else p)else ps++[(z,n)]
noncomputable def yl(V:qJ)(i:Nat)(f:pM->pM):qJ:={V with calls:=V.calls.modify i f}
noncomputable def rg(V:qJ)(e:Ev):qJ:={V with log:=V.log++[e]}
def TK(V:qJ):Ev->qJ
 | .new _ x=>{V with calls:=V.calls++[zV x]}
 | .leg v=>{V with ng:=V.ng++[v],calls:=V.calls.modify v.i (·.go v.g)}
 | .asks _ _ _=>V
 | .next z n=>{V with ps:=CV V.ps z n}
 | .merge i j ms=>{V with calls:=(V.calls.modify i (·.over "merged")).modify j (·.mem ms),ng:=V.ng.map (tz.to i j)}
 | .turn=>{V with t:=V.t+1,calls:=V.calls.map pM.tick}
 | .sw b i=>{V with on:=V.on.set i b}
 | .rings i ps=>yl V i (·.ring ps)
 | .quiet i=>yl V i pM.nS
 | .waits i x=>yl V i (·.wait x)
 | .talks i ms=>yl V i (·.nN ms)
 | .held i x=>yl V i (·.hold x)
 | .leaves i x=>yl V i (·.drop x)
 | .over i w=>yl V i (·.over w)
def qA(V:qJ)(e:Ev):qJ:=TK (rg V e) e
def rc(V:qJ)(es:T0 Ev):qJ:=es.foldl qA V
def Ev.ok(V:qJ):Ev->Prop
 | .new _ _=>True
 | .leg v=>v.i<V.calls.length
 | .asks _ _ _=>True
 | .next _ _=>True
 | .merge i j ms=>i<V.calls.length/\j<V.calls.length/\i≠j/\ms.length<=100
 | .turn=>True
 | .sw _ i=>i<V.on.length
 | .rings i ps=>i<V.calls.length/\ps.length<=100
 | .quiet i=>i<V.calls.length
 | .waits i _=>i<V.calls.length
 | .talks i ms=>i<V.calls.length/\ms.length<=100
 | .held i _=>i<V.calls.length
 | .leaves i _=>i<V.calls.length
 | .over i _=>i<V.calls.length
def so(V:qJ)(es fs:T0 Ev):rc V (es++fs)=rc (rc V es) fs:=lC ..
theorem JS:∀(es:T0 Ev) (V:qJ),(rc V es).log=V.log++es
 | [],V=>(eG _).symm
 | e::r,V=>by
  show(rc (qA V e) r).log=_;rw[JS r];have:(qA V e).log=V.log++[e]:=by cases e<;>rfl
  rw[this,fg];rfl
def pM.m8(c:pM)(x:Str):Bool:=(c.st=="talks")&&hasS c.ms x
def pM.hasB(c:pM)(x:Str):Bool:=if (c.st=="rings")=Db then(x==c.cr)||hasS c.at_ x else if (c.st=="waits")=Db then x==c.cr else(c.st=="talks"||c.st=="held")&&hasS c.ms x
def pM.nz(c:pM)(x:Str):Bool:=if (c.st=="held")=Db then hasS c.ms x&&!((c.hd==ga x))else c.m8 x
noncomputable def pM.m7(c:pM)(x:Str):Bool:=(c.st=="rings"||c.st=="waits")&&(x==c.cr)
def pM.mX(c:pM)(x:Str):Bool:=(c.st=="waits")&&hasS c.at_ x
def pM.nL(c:pM)(x:Str):Bool:=c.m7 x||(hasS c.at_ x||hasS c.ms x)
noncomputable def pM.m9(c:pM)(x:Str):Bool:=c.m8 x&&(c.ms.length==2)
noncomputable def uU(V:qJ)(x:Str):Nat:=(V.calls.filter (·.hasB x)).length
noncomputable def xp(l:pR)(x:Str):Int:=(l.nu x).elim 0 λv=>v.2.1
noncomputable def wH(l:pR)(x:Str):Int:=(l.nu x).elim 0 λv=>v.2.2
def sJ(l:pR)(V:qJ)(x:Str):Bool:=decide ((uU V x:Int)<xp l x)
def uP(l:pR)(V:qJ)(c z:Str):QQQ:=(l.mP z).filter λx=>!(x==c)&&sJ l V x
def x9(l:pR)(V:qJ)(c z:Str):Bool:=(uP l V c z).isEmpty
noncomputable def wB(V:qJ)(x:Str):Option Nat:=V.calls.findIdx? (·.m8 x)
noncomputable def FL(V:qJ)(x:Str):Option Nat:=V.calls.findIdx? (·.nz x)
noncomputable def JL(V:qJ)(x:Str):Option Nat:=V.calls.findIdx? (·.m7 x)
noncomputable def AN(V:qJ)(x:Str):Bool:=V.calls.any (·.mX x)
noncomputable def OI:Option Nat->D
 | none=>.mW
 | some j=>.int (j:Nat)
noncomputable def Fp(f l h:Int):Bool:=if f<l then decide (f<=h)&&decide (h<l)else decide (h>=f)||decide (h<l)
def Hz(l:pR)(x:Str)(ms:QQQ):Bool:=ms.all λm=>decide (wH l m<wH l x)
def Ip(l:pR)(V:qJ)(x c z:Str):Bool:=if (!(c==x)||(z==x))=Db then pc else if (!(hasS l.pn z)||!(x9 l V c z))=Db then pc else((wB V z).bind (V.calls[·]?)).elim pc λk=>(k.ms.length==2)&&Hz l x k.ms
def xh(l:pR)(V:qJ)(c z:Str):Wi->Bool
 | .bar x ns=>(c==x)&&hasS ns z
 | .shut x ns=>(z==x)&&hasS ns c
 | .always x _=>z==x
 | .night x _ f m=>(z==x)&&Fp f m ((V.h+V.t) % 24)
 | .busy x _=>(z==x)&&x9 l V c z
 | .silent _ _ _=>pc
 | .wait x=>if (!(z==x)||(c==x))=Db then pc else x9 l V c z&&!(AN V z)
 | .breaks x=>Ip l V x c z
noncomputable def Hm(c:pM):Wi->Bool
 | .silent x _ n=>(c.way.getLast?==ga x)&&decide (n<=c.si)
 | _=>pc
noncomputable def HD(l:pR)(V:qJ)(f:Wi->Bool):T0 Nat:=(List.range V.on.length).filter λi=>V.on.getD i pc&&(l.mQ[i]?).elim pc λw=>f w.2
def uA(l:pR)(V:qJ)(c z:Str):T0 Nat:=HD l V (xh l V c z)
noncomputable def tN(ms:QQQ)(n:Nat):QQQ:=ms.drop n++ms.take n
noncomputable def vK(V:qJ)(z:Str):Nat:=((V.ps.find? λp=>decide (p.1=z)).elim 0 λp=>p.2).toNat
def vU(l:pR)(V:qJ)(c z:Str):QQQ:=if (l.mT z=="turns")=Db then((tN (l.mP z) (vK V z)).filter λx=>hasS (uP l V c z) x).take 1 else uP l V c z
inductive vB
 | engaged (z:Str)
 | rings (z:Str) (ps:QQQ)
 | waits (z:Str)
 | breaks (z:Str)
 | barred
 | ring (ns:QQQ)
noncomputable def vB.d:vB->D
 | .engaged z=>.tup [.str "engaged",.str z]
 | .rings z ps=>.tup [.str "rings",.str z,names ps]
 | .waits z=>.tup [.str "waits",.str z]
 | .breaks z=>.tup [.str "breaks",.str z]
 | .barred=>.tup [.str "barred"]
 | .ring ns=>.tup [.str "ring",names ns]
def DD(l:pR)(V:qJ)(c z:Str):vB:=match vU l V c z with
 | []=>.engaged z
 | x::r=>.rings z (x::r)
noncomputable def Ee(z:Str):Wi->Sum vB Str
 | .bar _ _=>.inl .barred
 | .shut _ _=>.inl .barred
 | .always _ y=>.inr y
 | .night _ y _ _=>.inr y
 | .busy _ y=>.inr y
 | .silent _ y _=>.inr y
 | .wait _=>.inl (.waits z)
 | .breaks _=>.inl (.breaks z)
abbrev sI:=T0 (Str×T0 Nat)
def sS(l:pR)(V:qJ)(c:Str):Nat->Str->QQQ->sI->vB×sI
 | 0,_,_,st=>(.barred,st)
 | n+1,z,way,st=>if hasS way z=Db then(.ring (way.drop (way.findIdx (·==z))),st)else
  match uA l V c z with
  | []=>(DD l V c z,st++[(z,[])])
  | i::r=>(l.mQ[i]?).elim (.barred,st) λw=>match Ee z w.2 with
   | .inl e=>(e,st++[(z,i::r)])
   | .inr y=>sS l V c n y (way++[z]) (st++[(z,i::r)])
def uR(l:pR)(V:qJ)(c z:Str)(way:QQQ):vB×sI:=sS l V c (l.nm.length+1) z way []
noncomputable def sr(i:Nat):Option Str->sI->T0 Ev
 | _,[]=>[]
 | none,(z,fs)::r=>.asks i z fs::sr i (ga z) r
 | some y,(z,fs)::r=>.leg ⟨i,y,z,y⟩::.asks i z fs::sr i (ga z) r
noncomputable def QN(ms:QQQ)(x:Str):Int:=((ms.findIdx (·==x):Nat)+1) % (ms.length:Int)
def tT(l:pR)(V:qJ)(i:Nat):vB->T0 Ev
 | .rings z ps=>(if (l.mT z=="turns")=Db then[.next z (QN (l.mP z) (ps.headD Str.empty))]else[])++[.rings i ps]
 | .waits z=>[.waits i z]
 | .breaks z=>match wB V z,V.calls[i]? with
  | some j,ga c=>[.merge i j ((V.calls[j]?).elim [] (·.ms)++[c.cr])]
  | _,_=>[]
 | .engaged _=>[.over i "engaged"]
 | .barred=>[.over i "barred"]
 | .ring _=>[.over i "ring"]
noncomputable def uF(i:Nat)(st:sI):vB->T0 Ev
 | .ring ns=>(st.getLast?).elim [] λs=>[.leg ⟨i,s.1,ns.headD Str.empty,s.1⟩]
 | _=>[]
def xP(l:pR)(V:qJ)(i:Nat):T0 Ev:=(V.calls[i]?).elim [] λc=>
 let r:=uR l V c.cr (c.way.getLastD Str.empty) c.way.dropLast
 sr i Fa r.2++(uF i r.2 r.1++tT l V i r.1)
def Fh(l:pR)(V:qJ)(y z:Str):T0 Ev:=
 let es:=[Ev.new V.calls.length y,.leg ⟨V.calls.length,y,z,y⟩]
 es++xP l (rc V es) V.calls.length
def xH(V:qJ)(x:Str)(i:Nat):T0 Ev:=(V.calls[i]?).elim [] λc=>if c.m7 x=Db then[.over i "left"]else if hasS c.at_ x=Db then .leaves i x::(if tD c.at_ x=[]then[.over i "refused"]else[])else if 2<c.ms.length then[.leaves i x]else[.over i "done"]
def uD(l:pR)(V:qJ)(i:Nat)(fs:T0 Nat):T0 Ev:=match fs.head?.bind (l.mQ[·]?)with
 | some (_,.silent x y _)=>
  let es:=[Ev.asks i x fs,.quiet i,.leg ⟨i,x,y,x⟩]
  es++xP l (rc V es) i
 | _=>[]
def Ae(l:pR)(V:qJ)(i:Nat):T0 Nat:=(V.calls[i]?).elim [] λc=>if (c.st=="rings")=Db then HD l V (Hm c)else[]
def sF(l:pR):T0 Nat->qJ->T0 Ev
 | [],_=>[]
 | i::r,V=>uD l V i (Ae l V i)++sF l r (rc V (uD l V i (Ae l V i)))
def FH(l:pR)(V:qJ):T0 Ev:=.turn::sF l (List.range V.calls.length) (qA V .turn)
inductive uM
 | call (y z:Str)
 | num (w x:Str) (ns:List Int)
 | turn
 | sw (b:Bool) (i:Int)
def uM.d:uM->D
 | .call y z=>.tup [.str "call",.str y,.str z]
 | .num w x ns=>.tup (.str w::.str x::ns.map D.int)
 | .turn=>.tup [.str "turn"]
 | .sw b i=>.tup [.str (Uo b),.int i]
def uM.nG:uM->Prop
 | .num w _ ns=>((w="answer"\/w="hang"\/w="hold"\/w="back")/\ns.length=1)\/((w="hand"\/w="join")/\ns.length=2)
 | _=>True
def vc(V:qJ)(x:Str):Option Str:=if (FL V x).isSome=Db then ga "bound" else if (JL V x).isSome=Db then ga "calls" else Fa
noncomputable def zX(n:Nat)(i:Int):Bool:=decide (0<=i)&&decide (i<(n:Int))
def Jf(w x:Str):List pM->Bool
 | []=>pc
 | c::r=>if (w=="answer")=Db then hasS c.at_ x else if (w=="hang")=Db then c.nL x else if (w=="hold")=Db then c.m9 x else if (w=="back")=Db then c.hd==ga x else(c.hd==ga x)&&(r.head?.elim pc λd=>d.m9 x)
noncomputable def uh(V:qJ)(ns:T0 Int):List pM:=ns.filterMap λi=>V.calls[i.toNat]?
def GY(l:pR)(V:qJ)(y z:Str):Option Str:=if hasS l.nm z=pc then ga "name" else if ((vc V y).isNone&&!(sJ l V y))=Db then ga "full" else vc V y
def Nh(l:pR)(V:qJ)(w x:Str)(ns:T0 Int):Option Str:=if ns.all (zX V.calls.length)=pc then ga "call" else if Jf w x (uh V ns)=pc then ga "call" else if (w=="answer"||w=="back")=pc then Fa else
 if ((vc V x).isNone&&((uh V ns).head?.elim pc (λc=>c.mX x)&&!(sJ l V x)))=Db then ga "full" else vc V x
def OT(V:qJ)(b:Bool)(i:Int):Option Str:=if zX V.on.length i=pc then ga "wish" else if (V.on.getD i.toNat pc==b)=Db then ga "wish" else Fa
def xW(l:pR)(V:qJ):uM->Option Str
 | .turn=>Fa
 | .sw b i=>OT V b i
 | .call y z=>if hasS l.pn y=pc then ga "name" else GY l V y z
 | .num w x ns=>if hasS l.pn x=pc then ga "name" else Nh l V w x ns
def qM(c:pM)(x:Str):Str:=(tD c.ms x).headD Str.empty
noncomputable def F1(V:qJ)(w x:Str)(i:Nat):Ev:=(V.calls[i]?).elim .turn λc=>if (w=="answer")=Db then .talks i [c.cr,x]else if (w=="hold")=Db then .held i x else .talks i c.ms
def Gk(V:qJ)(w x:Str)(i j:Nat):Ev:=(V.calls[i]?).elim .turn λc=>(V.calls[j]?).elim .turn λd=>.merge i j (if (w=="hand")=Db then[qM c x,qM d x]else[x,qM c x,qM d x])
def xT(l:pR)(V:qJ):uM->T0 Ev
 | .call y z=>Fh l V y z
 | .num w x [i]=>if (w=="hang")=Db then xH V x i.toNat else[F1 V w x i.toNat]
 | .num w x [i,j]=>[Gk V w x i.toNat j.toNat]
 | .num _ _ _=>[]
 | .turn=>FH l V
 | .sw b i=>[.sw b i.toNat]
structure r6 where
 p:Uf
 wy:Uf
structure uj where
 b:Uf
 ca:Uf
 le:Uf
 nx:Uf
 on:Uf
 lo:Uf
 cs:List r6
noncomputable def Dk:Option Str->D
 | none=>.mW
 | some x=>.str x
def rN(c:pM)(wy ad md:Uf):T0 (Str×D):=[("state",.str c.st),("caller",.str c.cr),("way",.ref wy),("at",.ref ad),("members",.ref md),("holder",Dk c.hd),("since",.int c.si),("word",Dk c.wd)]
noncomputable def um(p:D)(h t:Int)(ca le nx on lo:Uf):T0 (Str×D):=[("plan",p),("hour",.int h),("turn",.int t),("calls",.ref ca),("legs",.ref le),("nexts",.ref nx),("on",.ref on),("log",.ref lo)]
noncomputable def tV(ps:T0 (Str×Int)):T0 (rF×D):=ps.map λp=>((Sum.inr p.1:rF),D.int p.2)
noncomputable def uj.lists(A:uj):QXQ:=A.ca::A.le::A.on::A.lo::A.cs.map (·.wy)
noncomputable def uj.foot(A:uj):QXQ:=A.b::A.nx::(A.lists++A.cs.map (·.p))
def sA(a:Ad)(M:Mp)(L:QXQ)(k:r6)(c:pM):Prop:=BQ λad md=>M k.p=ga (.ins a.e (rN c k.wy ad md))/\om M k.wy=ga (c.way.map D.str)/\om M ad=ga (c.at_.map D.str)/\om M md=ga (c.ms.map D.str)/\ad∉L/\md∉L
structure pZ(a:Ad)(M:Mp)(A:uj)(V:qJ):Prop where
 at_:M A.b=ga (.ins a.c (um (.ref V.p) V.h V.t A.ca A.le A.nx A.on A.lo))
 ca:om M A.ca=ga (A.cs.map λk=>D.ref k.p)
 le:om M A.le=ga (V.ng.map tz.d)
 nx:yW M A.nx=ga (tV V.ps)
 on:om M A.on=ga (V.on.map D.bl)
 lo:om M A.lo=ga (V.log.map Ev.d)
 len:A.cs.length=V.calls.length
 cs:∀(i:Nat) k c,A.cs[i]?=ga k->V.calls[i]?=ga c->sA a M (A.lists++V.fo) k c
 nl:A.lists.Nodup
 np:(A.b::A.cs.map (·.p)).Nodup
 fo:∀x∈V.fo,∃c,M x=ga c
def xw{F:QXQ}{M:Mp}{p:Uf}{c:vE}(h:∀x∈F,∃c,M x=ga c):∀x∈F,∃d,pQ M p c x=ga d:=λx hx=>by
 by_cases z:x=p
 .exact⟨c,by rw[z];exact qd⟩
 .obtain⟨d,e⟩:=h x hx;exact⟨d,se.put x d z e⟩
def sA.sub{k:r6}{c:pM}(h:sA a M L k c)(s:qO M M'):sA a M' L k c:=by obtain⟨ad,md,h1,h2,h3,h4,h5⟩:=h;exact⟨ad,md,s _ _ h1,s.lst h2,s.lst h3,s.lst h4,h5⟩
def pZ.sub{A:uj}{V:qJ}(h:pZ a M A V)(s:qO M M'):pZ a M' A V:=⟨s _ _ h.at_,s.lst h.ca,s.lst h.le,s.dk h.nx,s.lst h.on,s.lst h.lo,h.len,λi k c e1 e2=>(h.cs i k c e1 e2).sub s,h.nl,h.np,λx hx=>(h.fo x hx).imp λc e=>s x c e⟩
def sA.oa{k:r6}{c:pM}{x:Uf}{ds:T0 D}(h:sA a M L k c)(kp:se x M M')(hl:om M x=ga ds)(hx:x∈L)(hn:k.wy≠x):sA a M' L k c:=by obtain⟨ad,md,h1,h2,h3,h4,h5,h6⟩:=h;exact⟨ad,md,kp _ _ (λz=>by rw[z,qx hl]at h1;cases h1) h1,kp.lst hn h2,kp.lst (λz=>h5 (z ▸ hx)) h3,kp.lst (λz=>h6 (z ▸ hx)) h4,h5,h6⟩
def sA.oq{k:r6}{c:pM}{x C:Uf}{fs:T0 (Str×D)}(h:sA a M L k c)(kp:se x M M')(hi:M x=ga (.ins C fs))(hn:k.p≠x):sA a M' L k c:=by obtain⟨ad,md,h1,h2,h3,h4,h5⟩:=h;exact⟨ad,md,kp _ _ hn h1,kp.lst (qk h2 hi) h2,kp.lst (qk h3 hi) h3,kp.lst (qk h4 hi) h4,h5⟩
def vG{a p:Uf}{ds:T0 (rF×D)}{es:T0 D}(h:yW M a=ga ds)(hp:om M p=ga es):a≠p:=λz=>by subst z;unfold yW at h;rw[qx hp]at h;cases h
def sA.o9{k:r6}{c:pM}{x:Uf}{ds:T0 (rF×D)}(h:sA a M L k c)(kp:se x M M')(hd:yW M x=ga ds):sA a M' L k c:=by obtain⟨ad,md,h1,h2,h3,h4,h5⟩:=h;exact⟨ad,md,kp _ _ (λz=>by rw[z,xt hd]at h1;cases h1) h1,kp.lst (dQ (vG hd h2)) h2,kp.lst (dQ (vG hd h3)) h3,kp.lst (dQ (vG hd h4)) h4,h5⟩
def rb{α:Type}{l:List α}{i:Nat}{x:α}(h:l[i]?=ga x):x∈l:=fz h
def pZ.ne{A:uj}{V:qJ}(h:pZ a M A V):A.ca≠A.le/\A.ca≠A.on/\A.ca≠A.lo/\A.le≠A.on/\A.le≠A.lo/\A.on≠A.lo/\∀k∈A.cs,k.wy≠A.ca/\k.wy≠A.le/\k.wy≠A.on/\k.wy≠A.lo:=by
 have n:=h.nl;unfold uj.lists at n;obtain⟨n1,n⟩:=dS.mp n;obtain⟨n2,n⟩:=dS.mp n;obtain⟨n3,n⟩:=dS.mp n;obtain⟨n4,n⟩:=dS.mp n;have w:∀k∈A.cs,k.wy∈A.cs.map (·.wy):=λk hk=>dD.mpr ⟨k,hk,Z'⟩;refine⟨λz=>n1 (z ▸ by simp),λz=>n1 (z ▸ by simp),λz=>n1 (z ▸ by simp),λz=>n2 (z ▸ by simp),λz=>n2 (z ▸ by simp),λz=>n3 (z ▸ by simp),λk hk=>⟨λz=>n1 ?_,λz=>n2 ?_,λz=>n3 ?_,λz=>n4 ?_⟩⟩
 .rw[<-z];exact dE _ (dE _ (dE _ (w k hk)))
 .rw[<-z];exact dE _ (dE _ (w k hk))
 .rw[<-z];exact dE _ (w k hk)
 .rw[<-z];exact w k hk
def pZ.oO{A:uj}{V:qJ}(_:pZ a M A V):A.ca∈A.lists/\A.le∈A.lists/\A.lo∈A.lists/\(∀k∈A.cs,k.wy∈A.lists)/\A.on∈A.lists:=by unfold uj.lists;refine⟨by simp,by simp,by simp,?_,by simp⟩;exact λk hk=>by simp;exact .inr (.inr (.inr (.inr ⟨k,hk,Z'⟩)))
def pZ.oZ{A:uj}{V:qJ}(h:pZ a M A V):A.ca∈A.lists++V.fo/\A.le∈A.lists++V.fo/\A.lo∈A.lists++V.fo/\(∀k∈A.cs,k.wy∈A.lists++V.fo)/\A.on∈A.lists++V.fo:=by obtain⟨h1,h2,h3,h4,h5⟩:=h.oO;exact⟨fH _ h1,fH _ h2,fH _ h3,λk hk=>fH _ (h4 k hk),fH _ h5⟩
def rE(A:uj)(M:Mp)(A':uj)(M':Mp):Prop:=(∀x c,x∉A.foot->M x=ga c->M' x=ga c)/\(∀x∈A'.foot,x∈A.foot\/M x=Fa)/\(∀(i:Nat) k,A.cs[i]?=ga k->A'.cs[i]?=ga k)/\∀x c,M x=ga c->∃d,M' x=ga d
def EW{M:Mp}{p y:Uf}{c d:vE}(h:M y=ga d):∃e,pQ M p c y=ga e:=by
 by_cases z:y=p
 .exact⟨c,by rw[z];exact qd⟩
 .exact⟨d,se.put y d z h⟩
def rE.refl{A:uj}:rE A M A M:=⟨λ_ _ _ h=>h,λ_ h=>.inl h,λ_ _ h=>h,λ_ c h=>⟨c,h⟩⟩
def rE.trans{A A1 A2:uj}{M M1 M2:Mp}(s:rE A M A1 M1)(u:rE A1 M1 A2 M2):rE A M A2 M2:=by
 refine⟨λx c n h=>u.1 x c (λz=>?_) (s.1 x c n h),λx hx=>?_,λi k h=>u.2.2.1 i k (s.2.2.1 i k h),λx c h=>(s.2.2.2 x c h).elim λd e=>u.2.2.2 x d e⟩
 .rcases s.2.1 x z with y|y
  .exact n y
  .rw[y]at h;cases h
 .rcases u.2.1 x hx with z|z
  .exact s.2.1 x z
  .by_cases y:x∈A.foot
   .exact .inl y
   .refine .inr ?_;cases e:M x with
    | none=>rfl
    | some c=>rw[s.1 x c y e]at z;cases z
def rE.keep{A:uj}{x:Uf}{c:vE}(h:x∈A.foot)(k:se x M (pQ M x c)):rE A M A (pQ M x c):=⟨λy c n e=>k y c (λz=>n (z ▸ h)) e,λ_ h=>.inl h,λ_ _ h=>h,λ_ _ h=>EW h⟩
def rE.sub{A:uj}(s:qO M M'):rE A M A M':=⟨λy c _ e=>s y c e,λ_ h=>.inl h,λ_ _ h=>h,λx c h=>⟨c,s x c h⟩⟩
def uj.ni(A:uj):A.b∈A.foot/\A.nx∈A.foot/\A.ca∈A.foot/\A.le∈A.foot/\A.lo∈A.foot/\(∀k∈A.cs,k.p∈A.foot)/\∀k∈A.cs,k.wy∈A.foot:=by unfold uj.foot uj.lists;exact⟨by simp,by simp,by simp,by simp,by simp,λk hk=>by simp;exact .inr (.inr (.inr (.inr (.inr (.inr (.inr ⟨k,hk,Z'⟩)))))),λk hk=>by simp;exact .inr (.inr (.inr (.inr (.inr (.inr (.inl ⟨k,hk,Z'⟩))))))⟩
def uj.n9(A:uj){x:Uf}(h:x∈A.lists):x∈A.foot:=by unfold uj.foot;exact dE _ (dE _ (dY.mpr (.inl h)))
variable {M M1:Mp}{A:uj}{V:qJ}
def FU{α:Type}{l:List α}{i j:Nat}{x y:α}(h:(l.set i x)[j]?=ga y):(j=i/\y=x/\i<l.length)\/(j≠i/\l[j]?=ga y):=by
 by_cases z:j=i
 .subst z;by_cases hl:j<l.length
  .rw[fK hl]at h;exact .inl ⟨Z',(dg h).symm,hl⟩
  .rw[ii (by rw[iw];lia)]at h;cases h
 .rw[fJ (dQ z)]at h;exact .inr ⟨z,h⟩
def Im{α β:Type}{f:α->β}{l:List α}{i j:Nat}{x y:α}(nd:(l.map f).Nodup)(h1:l[i]?=ga x)(h2:l[j]?=ga y)(e:f x=f y):i=j:=by
 have e1:(l.map f)[i]?=ga (f x):=by rw[dC,h1];rfl
 have e2:(l.map f)[j]?=ga (f y):=by rw[dC,h2];rfl
 obtain⟨l1,q1⟩:=cZ.mp e1;obtain⟨l2,q2⟩:=cZ.mp e2;exact(lQ nd).mp (q1.trans (e.trans q2.symm))
def pZ.nw(h:pZ a M A V):(A.cs.map (·.wy)).Nodup:=(dS.mp (dS.mp (dS.mp (dS.mp h.nl).2).2).2).2
def pZ.oX(h:pZ a M A V):(A.cs.map (·.p)).Nodup/\∀k∈A.cs,k.p≠A.b:=⟨(dS.mp h.np).2,λk hk z=>(dS.mp h.np).1 (z ▸ dD.mpr ⟨k,hk,Z'⟩)⟩
def pZ.oC(h:pZ a M A V){es:T0 Ev}:pZ a (pQ M A.lo (.lst (es.map Ev.d))) A {V with log:=es}/\rE A M A (pQ M A.lo (.lst (es.map Ev.d))):=by have kp:se A.lo M (pQ M A.lo (.lst (es.map Ev.d))):=.put;obtain⟨n1,n2,n3,n4,n5,n6,nw⟩:=h.ne;exact⟨⟨kp _ _ (dQ (qk h.lo h.at_)) h.at_,kp.lst n3 h.ca,kp.lst n5 h.le,kp.dk (vG h.nx h.lo) h.nx,kp.lst n6 h.on,pS,h.len,λi k c e1 e2=>(h.cs i k c e1 e2).oa kp h.lo h.oZ.2.2.1 (nw k (rb e1)).2.2.2,h.nl,h.np,xw h.fo⟩,.keep A.ni.2.2.2.2.1 kp⟩
def pZ.oF(h:pZ a M A V){es:List tz}:pZ a (pQ M A.le (.lst (es.map tz.d))) A {V with ng:=es}/\rE A M A (pQ M A.le (.lst (es.map tz.d))):=by have kp:se A.le M (pQ M A.le (.lst (es.map tz.d))):=.put;obtain⟨n1,n2,n3,n4,n5,n6,nw⟩:=h.ne;exact⟨⟨kp _ _ (dQ (qk h.le h.at_)) h.at_,kp.lst n1 h.ca,pS,kp.dk (vG h.nx h.le) h.nx,kp.lst (dQ n4) h.on,kp.lst (dQ n5) h.lo,h.len,λi k c e1 e2=>(h.cs i k c e1 e2).oa kp h.le h.oZ.2.1 (nw k (rb e1)).2.1,h.nl,h.np,xw h.fo⟩,.keep A.ni.2.2.2.1 kp⟩
def pZ.pz(h:pZ a M A V){bs:T0 Bool}:pZ a (pQ M A.on (.lst (bs.map D.bl))) A {V with on:=bs}/\rE A M A (pQ M A.on (.lst (bs.map D.bl))):=by have kp:se A.on M (pQ M A.on (.lst (bs.map D.bl))):=.put;obtain⟨n1,n2,n3,n4,n5,n6,nw⟩:=h.ne;exact⟨⟨kp _ _ (dQ (qk h.on h.at_)) h.at_,kp.lst n2 h.ca,kp.lst n4 h.le,kp.dk (vG h.nx h.on) h.nx,pS,kp.lst (dQ n6) h.lo,h.len,λi k c e1 e2=>(h.cs i k c e1 e2).oa kp h.on h.oZ.2.2.2.2 (nw k (rb e1)).2.2.1,h.nl,h.np,xw h.fo⟩,.keep (A.n9 h.oO.2.2.2.2) kp⟩
def pZ.oV(h:pZ a M A V){ps:T0 (Str×Int)}:pZ a (pQ M A.nx (.dk (tV ps))) A {V with ps:=ps}/\rE A M A (pQ M A.nx (.dk (tV ps))):=by have kp:se A.nx M (pQ M A.nx (.dk (tV ps))):=.put;exact⟨⟨kp _ _ (dQ (C9 h.nx h.at_)) h.at_,kp.lst (dQ (vG h.nx h.ca)) h.ca,kp.lst (dQ (vG h.nx h.le)) h.le,A0 qd,kp.lst (dQ (vG h.nx h.on)) h.on,kp.lst (dQ (vG h.nx h.lo)) h.lo,h.len,λi k c e1 e2=>(h.cs i k c e1 e2).o9 kp h.nx,h.nl,h.np,xw h.fo⟩,.keep A.ni.2.1 kp⟩
def pZ.putT(h:pZ a M A V){t:Int}:pZ a (pQ M A.b (.ins a.c (um (.ref V.p) V.h t A.ca A.le A.nx A.on A.lo))) A {V with t:=t}/\rE A M A (pQ M A.b (.ins a.c (um (.ref V.p) V.h t A.ca A.le A.nx A.on A.lo))):=by have kp:se A.b M (pQ M A.b (.ins a.c (um (.ref V.p) V.h t A.ca A.le A.nx A.on A.lo))):=.put;exact⟨⟨qd,kp.lst (qk h.ca h.at_) h.ca,kp.lst (qk h.le h.at_) h.le,kp.dk (C9 h.nx h.at_) h.nx,kp.lst (qk h.on h.at_) h.on,kp.lst (qk h.lo h.at_) h.lo,h.len,λi k c e1 e2=>(h.cs i k c e1 e2).oq kp h.at_ (h.oX.2 k (rb e1)),h.nl,h.np,xw h.fo⟩,.keep A.ni.1 kp⟩
def pZ.oA(h:pZ a M A V){i:Nat}{k:r6}{c c':pM}{ad md:Uf}(e1:A.cs[i]?=ga k)(e2:V.calls[i]?=ga c)(ew:c'.way=c.way)(la:om M ad=ga (c'.at_.map D.str))(lm:om M md=ga (c'.ms.map D.str))(na:ad∉A.lists++V.fo)(nm:md∉A.lists++V.fo):
  pZ a (pQ M k.p (.ins a.e (rN c' k.wy ad md))) A {V with calls:=V.calls.set i c'}/\rE A M A (pQ M k.p (.ins a.e (rN c' k.wy ad md))):=by
 have kp:se k.p M (pQ M k.p (.ins a.e (rN c' k.wy ad md))):=.put;obtain⟨_,_,h1,h2,_⟩:=h.cs i k c e1 e2;refine⟨⟨kp _ _ (dQ (h.oX.2 k (rb e1))) h.at_,kp.lst (qk h.ca h1) h.ca,kp.lst (qk h.le h1) h.le,kp.dk (C9 h.nx h1) h.nx,kp.lst (qk h.on h1) h.on,kp.lst (qk h.lo h1) h.lo,by rw[h.len,iw],λj k' d f1 f2=>?_,h.nl,h.np,xw h.fo⟩,.keep (A.ni.2.2.2.2.2.1 k (rb e1)) kp⟩;rcases FU f2 with⟨rfl,rfl,_⟩|⟨hj,f2⟩
 .rw[e1]at f1;cases f1;exact⟨ad,md,qd,by rw[ew];exact kp.lst (qk h2 h1) h2,kp.lst (qk la h1) la,kp.lst (qk lm h1) lm,na,nm⟩
 .exact(h.cs j k' d f1 f2).oq kp h1 λz=>hj (Im h.oX.1 f1 e1 z)
def pZ.oP(h:pZ a M A V){i:Nat}{k:r6}{c:pM}{ws:QQQ}(e1:A.cs[i]?=ga k)(e2:V.calls[i]?=ga c):
  pZ a (pQ M k.wy (.lst (ws.map D.str))) A {V with calls:=V.calls.set i {c with way:=ws}}/\rE A M A (pQ M k.wy (.lst (ws.map D.str))):=by
 have kp:se k.wy M (pQ M k.wy (.lst (ws.map D.str))):=.put;obtain⟨ad,md,h1,h2,h3,h4,h5,h6⟩:=h.cs i k c e1 e2;obtain⟨n1,n2,n3,n4,n5,n6,nw⟩:=h.ne;obtain⟨w1,w2,w3,w4⟩:=nw k (rb e1);have kL:=h.oZ.2.2.2.1 k (rb e1);refine⟨⟨kp _ _ (dQ (qk h2 h.at_)) h.at_,kp.lst (dQ w1) h.ca,kp.lst (dQ w2) h.le,kp.dk (vG h.nx h2) h.nx,kp.lst (dQ w3) h.on,kp.lst (dQ w4) h.lo,by rw[h.len,iw],λj k' d f1 f2=>?_,h.nl,h.np,xw h.fo⟩,.keep (A.ni.2.2.2.2.2.2 k (rb e1)) kp⟩;rcases FU f2 with⟨rfl,rfl,_⟩|⟨hj,f2⟩
 .rw[e1]at f1;cases f1;exact⟨ad,md,kp _ _ (dQ (qk h2 h1)) h1,pS,kp.lst (λz=>h5 (z ▸ kL)) h3,kp.lst (λz=>h6 (z ▸ kL)) h4,h5,h6⟩
 .exact(h.cs j k' d f1 f2).oa kp h2 kL λz=>hj (Im h.nw f1 e1 z)
noncomputable def uj.add(A:uj)(k:r6):uj:={A with cs:=A.cs++[k]}
def AA(A:uj)(k:r6):(A.add k).lists=A.lists++[k.wy]:=by unfold uj.add uj.lists;rw[dN];rfl
def pZ.dom(h:pZ a M A V):(∀x∈A.lists,∃ds,om M x=ga ds)/\∀x∈A.foot,∃c,M x=ga c:=by
 have hc:∀k∈A.cs,(∃ds,om M k.wy=ga ds)/\∃c,M k.p=ga c:=λk hk=>by
  obtain⟨i,hi,e⟩:=gC hk;have e1:A.cs[i]?=ga k:=by rw[cY hi,e]
  have X6:i<V.calls.length:=by rw[<-h.len];exact hi
  have e2:V.calls[i]?=ga V.calls[i]:=cY X6;obtain⟨ad,md,h1,h2,_⟩:=h.cs i k _ e1 e2;exact⟨⟨_,h2⟩,_,h1⟩
 have hl:∀x∈A.lists,∃ds,om M x=ga ds:=λx hx=>by
  unfold uj.lists at hx;simp only[dh,dD]at hx;rcases hx with rfl|rfl|rfl|rfl|⟨k,hk,rfl⟩
  .exact⟨_,h.ca⟩
  .exact⟨_,h.le⟩
  .exact⟨_,h.on⟩
  .exact⟨_,h.lo⟩
  .exact(hc k hk).1
 refine⟨hl,λx hx=>?_⟩;unfold uj.foot at hx;simp only[dh,dY,dD]at hx;rcases hx with rfl|rfl|hx|⟨k,hk,rfl⟩
 .exact⟨_,h.at_⟩
 .exact⟨_,xt h.nx⟩
 .obtain⟨ds,e⟩:=hl x hx;exact⟨_,qx e⟩
 .exact(hc k hk).2
def pZ.oo(h:pZ a M A V){x:Uf}(hx:M x=Fa):x∉A.lists:=λz=>by obtain⟨ds,e⟩:=h.dom.1 x z;have:=qx e;rw[hx]at this;cases this
def pZ.nF(h:pZ a M A V){x:Uf}(hx:M x=Fa):x∉A.lists++V.fo:=λz=>by
 rcases dY.mp z with z|z
 .exact h.oo hx z
 .obtain⟨c,e⟩:=h.fo x z;rw[hx]at e;cases e
def pZ.oi(h:pZ a M A V){x:Uf}(hx:M x=Fa):x∉A.foot:=λz=>by obtain⟨ds,e⟩:=h.dom.2 x z;rw[hx]at e;cases e
def pZ.oz(h:pZ a M A V)(s:qO M M1){p wy ad md:Uf}{c:pM}(hp:M p=Fa)(hw:M wy=Fa)(ha:M ad=Fa)(hm:M md=Fa)(h1:M1 p=ga (.ins a.e (rN c wy ad md)))(h2:om M1 wy=ga (c.way.map D.str))(h3:om M1 ad=ga (c.at_.map D.str))(h4:om M1 md=ga (c.ms.map D.str))(n1:ad≠wy)(n2:md≠wy):
  pZ a (pQ M1 A.ca (.lst ((A.cs.map λk=>D.ref k.p)++[.ref p]))) (A.add ⟨p,wy⟩) {V with calls:=V.calls++[c]}/\rE A M (A.add ⟨p,wy⟩) (pQ M1 A.ca (.lst ((A.cs.map λk=>D.ref k.p)++[.ref p]))):=by
 have h':=h.sub s;have kp:se A.ca M1 (pQ M1 A.ca (.lst ((A.cs.map λk=>D.ref k.p)++[.ref p]))):=.put;obtain⟨m1,m2,m3,m4,m5,m6,nw⟩:=h.ne;have wL:wy∉A.lists:=h.oo hw;have cL:=h.oZ.1;have nl':∀x,x∉A.lists++V.fo->x≠wy->x∉(A.add ⟨p,wy⟩).lists++V.fo:=λx h1 h2=>by
  rw[AA,dY,dY,dA]
  rintro ((z|z)|z)
  .exact h1 (fH _ z)
  .exact h2 z
  .exact h1 (eJ _ z)
 have XD:∀x c,M x=ga c->x≠wy:=λx c e z=>by rw[z,hw]at e;cases e
 refine⟨⟨kp _ _ (dQ (qk h'.ca h'.at_)) h'.at_,?_,kp.lst (dQ m1) h'.le,kp.dk (vG h'.nx h'.ca) h'.nx,kp.lst (dQ m2) h'.on,kp.lst (dQ m3) h'.lo,?_,λi k d e1 e2=>?_,?_,?_,xw h'.fo⟩,λx d n e=>kp x d (λz=>n (z ▸ A.ni.2.2.1)) (s x d e),λx hx=>?_,λi k e=>by show(A.cs++[(⟨p,wy⟩:r6)])[i]?=ga k;rw[fi (cZ.mp e).1];exact e,λx d e=>EW (s x d e)⟩
 .show om _ A.ca=ga ((A.cs++[(⟨p,wy⟩:r6)]).map λk=>D.ref k.p);rw[dN];exact pS
 .show(A.cs++[(⟨p,wy⟩:r6)]).length=(V.calls++[c]).length;rw[cX,cX,h.len];rfl
 .have e1:(A.cs++[(⟨p,wy⟩:r6)])[i]?=ga k:=e1;have e2:(V.calls++[c])[i]?=ga d:=e2;by_cases hi:i<A.cs.length
  .rw[fi hi]at e1;rw[fi (by rw[<-h.len];exact hi)]at e2;obtain⟨ad',md',g1,g2,g3,g4,g5,g6⟩:=(h.cs i k d e1 e2);refine⟨ad',md',kp _ _ (λz=>by have:=s _ _ g1;rw[z,qx h'.ca]at this;cases this) (s _ _ g1),kp.lst (nw k (rb e1)).1 (s.lst g2),kp.lst (λz=>g5 (z ▸ cL)) (s.lst g3),kp.lst (λz=>g6 (z ▸ cL)) (s.lst g4),nl' _ g5 (XD _ _ (qx g3)),nl' _ g6 (XD _ _ (qx g4))⟩
  .have Yz:i=A.cs.length:=by have:=(cZ.mp e1).1;rw[cX,dH]at this;lia
   subst Yz;rw[eU (dq _)]at e1;rw[h.len,eU (dq _)]at e2;simp only[ik,iK,jy]at e1 e2;subst e1 e2;have q1:p≠A.ca:=λz=>by rw[z,qx h'.ca]at h1;cases h1
   have q2:wy≠A.ca:=λz=>wL (z ▸ h.oO.1);exact⟨ad,md,kp p _ q1 h1,kp.lst (a:=wy) q2 h2,kp.lst (λz=>h.nF ha (z ▸ cL)) h3,kp.lst (λz=>h.nF hm (z ▸ cL)) h4,nl' _ (h.nF ha) n1,nl' _ (h.nF hm) n2⟩
 .rw[AA];refine fL.mpr ⟨h.nl,dS.mpr ⟨dJ,eN⟩,λx hx y hy=>?_⟩;rw[dA]at hy;subst hy;exact λz=>wL (z ▸ hx)
 .show(A.b::(A.cs++[(⟨p,wy⟩:r6)]).map (·.p)).Nodup;rw[dN,<-List.cons_append];refine fL.mpr ⟨h.np,dS.mpr ⟨dJ,eN⟩,λx hx y hy=>?_⟩;rw[dW,jb,dA]at hy;subst hy;refine λz=>h.oi hp (z ▸ ?_);rcases dh.mp hx with y|y
  .rw[y];exact A.ni.1
  .obtain⟨k,hk,rfl⟩:=dD.mp y;exact A.ni.2.2.2.2.2.1 k hk
 .unfold uj.foot at hx;rw[AA]at hx;have hx:x∈A.b::A.nx::(A.lists++[wy]++(A.cs++[(⟨p,wy⟩:r6)]).map (·.p)):=hx;simp only[dh,dY,dN,dW,jb,dJ,fm]at hx;unfold uj.foot;simp only[dh,dY];rcases hx with z|z|(z|z)|(z|z)
  .exact .inl (.inl z)
  .exact .inl (.inr (.inl z))
  .exact .inl (.inr (.inr (.inl z)))
  .exact .inr (by rw[z];exact hw)
  .exact .inl (.inr (.inr (.inr z)))
  .exact .inr (by rw[z];exact hp)
def pZ.oH{V:qJ}{p:Uf}{es:List tz}(h:pZ a M A V)(hp:M p=Fa):
  pZ a (pQ (pQ M p (.lst (es.map tz.d))) A.b (.ins a.c (um (.ref V.p) V.h V.t A.ca p A.nx A.on A.lo))) {A with le:=p} {V with ng:=es}/\rE A M {A with le:=p} (pQ (pQ M p (.lst (es.map tz.d))) A.b (.ins a.c (um (.ref V.p) V.h V.t A.ca p A.nx A.on A.lo))):=by
 obtain⟨M1,e0,t,lp⟩:=uT (ds:=es.map tz.d) hp;rw[<-e0];have h1:=h.sub t;have np:p∉A.lists:=h.oo hp;have nf:p∉A.foot:=h.oi hp;have XD:∀x c,M x=ga c->x≠p:=λx c e z=>by rw[z,hp]at e;cases e
 have kp:se A.b M1 (pQ M1 A.b (.ins a.c (um (.ref V.p) V.h V.t A.ca p A.nx A.on A.lo))):=.put;have sub:∀x,x∉A.lists++V.fo->x≠p->x∉({A with le:=p}:uj).lists++V.fo:=λx h1 h2 z=>by
  rcases dY.mp z with z|z
  rotate_left
  .exact h1 (eJ _ z)
  have h1:x∉A.lists:=λy=>h1 (fH _ y);unfold uj.lists at h1 z;simp only[dh,fV]at h1 z;rcases z with z|z|z|z|z
  .exact h1.1 z
  .exact h2 z
  .exact h1.2.2.1 z
  .exact h1.2.2.2.1 z
  .exact h1.2.2.2.2 z
 refine⟨⟨qd,kp.lst (qk h1.ca h1.at_) h1.ca,kp.lst (qk lp h1.at_) lp,kp.dk (C9 h1.nx h1.at_) h1.nx,kp.lst (qk h1.on h1.at_) h1.on,kp.lst (qk h1.lo h1.at_) h1.lo,h.len,λi k c e1 e2=>?_,?_,h.np,xw h1.fo⟩,λx c n e=>kp x c (λz=>n (z ▸ A.ni.1)) (t x c e),λx hx=>?_,λi k e=>e,λx d e=>EW (t x d e)⟩
 .obtain⟨ad,md,g1,g2,g3,g4,g5,g6⟩:=(h.cs i k c e1 e2);obtain⟨ad',md',f1,f2,f3,f4,f5⟩:=((h.cs i k c e1 e2).sub t).oq kp h1.at_ (h.oX.2 k (rb e1));have q1:=kp _ _ (λz=>h.oX.2 k (rb e1) z) (t _ _ g1);exact⟨ad,md,q1,f2,kp.lst (qk (t.lst g3) h1.at_) (t.lst g3),kp.lst (qk (t.lst g4) h1.at_) (t.lst g4),sub _ g5 (XD _ _ (qx g3)),sub _ g6 (XD _ _ (qx g4))⟩
 .have n:=h.nl;unfold uj.lists at n np ⊢;simp only[dh,fV]at np;simp only[dS,dh,fV]at n ⊢;exact⟨⟨λz=>np.1 z.symm,n.1.2⟩,⟨np.2.2.1,np.2.2.2.1,np.2.2.2.2⟩,n.2.2⟩
 .by_cases z:x=p
  .exact .inr (z ▸ hp)
  .refine .inl ?_;unfold uj.foot uj.lists at hx ⊢;simp only[dh,dY]at hx ⊢;rcases hx with y|y|(y|y|y|y|y)|y
   .exact .inl y
   .exact .inr (.inl y)
   .exact .inr (.inr (.inl (.inl y)))
   .exact absurd y z
   .exact .inr (.inr (.inl (.inr (.inr (.inl y)))))
   .exact .inr (.inr (.inl (.inr (.inr (.inr (.inl y))))))
   .exact .inr (.inr (.inl (.inr (.inr (.inr (.inr y))))))
   .exact .inr (.inr (.inr y))
def vW(x:D)(l:T0 D):wX (x::l) 0=ga x:=by
 unfold wX;have:Ht (x::l).length 0=ga 0:=by unfold Ht;rw[eA];simp
 rw[this];rfl
def yb(f:pM->Str->Bool)(a:Ad):rM:=λds M Q=>CO λL k c x=>ds=[.ref k.p,.str x]/\sA a M L k c/\Q (.bl (f c x)) M
abbrev IS:=yb pM.hasB
abbrev zU:=yb pM.m8
abbrev FY:=yb pM.nz
abbrev yY:=yb pM.m7
abbrev wz:=yb pM.mX
abbrev FS:=yb pM.m9
abbrev xX:=yb pM.nL
noncomputable def OB(x:Str):D->Bool
 | .str y=>!(y==x)
 | _=>pc
def zF(a:Ad):rM:=λds M Q=>K2 λL k c x y r=>ds=[.ref k.p,.str x]/\sA a M L k c/\c.ms.length<=100/\tD c.ms x=y::r/\Q (.str y) M
def B9(ss:QQQ)(x:Str):[]++(List.filter (OB x) (ss.map D.str)).map id=(tD ss x).map D.str:=by rw[dZ,jn,hW];rfl
def AU{k:Uf}{ks:QQQ}{c:Str}{K:DK}(hk:om M k=ga (ks.map D.str))(h:K (.bl (hasS ks c)) M):R8 pc (.str c) (.ref k) M K:=by refine i' hk ⟨Z',qE ks,?_⟩;show K (.bl (inD (.str c) (ks.map D.str))) M;rw[sP];exact h
def VH(w x y:Str):inD (.str w) [.str x,.str y]=(w==x||w==y):=by rw[show[D.str x,D.str y]=[x,y].map D.str from rfl,sP,gh];simp only[gm,List.any_nil,kE,hU,ft];exact⟨λh=>h.imp mx mx,λh=>h.imp mx mx⟩
def Sr:Fq P w K mg base 1 a.bQ (IS a):=by
 refine fq G.bQ.toDG Gy (λr u=>⟨_,(pH (qa (pP u (pN v0) pL)
 (pI (pO (Gd (qr u U1 (pN v0)) (sT (qr u U1 (pN v0))))))
 pU)
 (pH (qa (pP u (pN v0) pL)
 (pI (pO (qr u U1 (pN v0))))
 pU)
 (pI (pO (tL (qr u (pN v0) (pX (sd pL pL))) (sT (qr u U1 (pN v0)))))))),?_⟩)
 rintro ds M Q ⟨L,k,c,x,rfl,⟨ad,md,h1,h2,h3,h4,_⟩,q⟩
 unfold pM.hasB at q;refine pJ h1 (i' Z' ?_);refine qD (c:=c.st=="rings") (λg=>?_) (λg=>?_)
 .rw[de g]at q;refine pJ h1 (i' Z' (qD (c:=x==c.cr) (λg2=>?_) (λg2=>?_)))
  .rw[g2]at q;exact⟨M,.refl,q⟩
  .rw[show(x==c.cr)=pc from dG.mpr g2,fM]at q;exact pJ h1 (i' Z' (AU h3 ⟨M,.refl,q⟩))
 .rw[c9 g]at q;refine pJ h1 (i' Z' ?_);refine qD (c:=c.st=="waits") (λg2=>?_) (λg2=>?_)
  .rw[de g2]at q;exact pJ h1 (i' Z' ⟨M,.refl,q⟩)
  .rw[c9 g2]at q;refine pJ h1 (i' Z' ⟨pE Z',Z',Z',?_⟩);show if inD (.str c.st) [.str "talks",.str "held"]=Db then _ else _
   rw[VH];refine qD (λg3=>?_) (λg3=>?_)
   .rw[g3,eP]at q;exact pJ h1 (i' Z' (AU h4 ⟨M,.refl,q⟩))
   .rw[show(c.st=="talks"||c.st=="held")=pc from dG.mpr g3,e9]at q;exact⟨M,.refl,q⟩
def wQ:Fq P w K mg base 1 a.U (zU a):=by
 refine fq G.U.toDG zi (λr u=>⟨_,(pI (pO (tL (qr u (pN v0) pL) (sT (qr u U1 (pN v0)))))),?_⟩)
 rintro ds M Q ⟨L,k,c,x,rfl,⟨ad,md,h1,h2,h3,h4,_⟩,q⟩
 unfold pM.m8 at q;refine pJ h1 (i' Z' (qD (c:=c.st=="talks") (λg=>?_) (λg=>?_)))
 .rw[g,eP]at q;exact pJ h1 (i' Z' (AU h4 ⟨M,.refl,q⟩))
 .rw[show(c.st=="talks")=pc from dG.mpr g,e9]at q;exact⟨M,.refl,q⟩
def Mt:Fq P w K mg base 2 a.bP (FY a):=by
 refine fq G.bP.toDG Do (λr u=>⟨_,(pH (qa (pP u (pN v0) pL)
 (pI (pO (tL (qr u U1 (pN v0)) (sT (qr u U1 (pN v0))))))
 pU)
 (pI (pO (qm v0 G.e.toCls G.U (wQ G) r (qp U1))))),?_⟩)
 rintro ds M Q ⟨L,k,c,x,rfl,hc,q⟩
 obtain⟨ad,md,h1,h2,h3,h4,_⟩:=id hc;unfold pM.nz at q;refine pJ h1 (i' Z' ?_);refine qD (c:=c.st=="held") (λg=>?_) (λg=>?_)
 .rw[de g]at q;refine pJ h1 (i' Z' (i' h4 ⟨Z',qE c.ms,?_⟩));show if inD (.str x) (c.ms.map D.str)=Db then _ else _
  rw[sP];refine qD (c:=hasS c.ms x) (λg2=>?_) (λg2=>?_)
  .rw[g2,eP]at q;refine pJ h1 (i' Z' ?_);cases e:c.hd with
   | none=>rw[e]at q;exact⟨M,.refl,q⟩
   | some y=>
    rw[e]at q;refine⟨M,.refl,?_⟩;rw[show(!(ga y==ga x))=!(x==y)from by
     show(!(y==x))=_;rw[my]]at q
    exact q
  .rw[show hasS c.ms x=pc from dG.mpr g2,e9]at q;exact⟨M,.refl,q⟩
 .rw[c9 g]at q;exact pJ h1 ⟨Z',_,⟨Z',Z'⟩,L,k,c,x,Z',hc,M,.refl,q⟩
def CW:Fq P w K mg base 1 a.V (yY a):=by
 refine fq G.V.toDG yP (λr u=>⟨_,(pI (pO (tL (qr u (pN v0) (pX (sd pL pL))) (sT (qr u U1 (pN v0)))))),?_⟩)
 rintro ds M Q ⟨L,k,c,x,rfl,⟨ad,md,h1,h2,h3,h4,_⟩,q⟩
 unfold pM.m7 at q;refine pJ h1 (i' Z' ⟨pE Z',Z',Z',?_⟩);show if inD (.str c.st) [.str "rings",.str "waits"]=Db then _ else _
 rw[VH];refine qD (λg3=>?_) (λg3=>?_)
 .rw[g3,eP]at q;exact pJ h1 (i' Z' ⟨M,.refl,q⟩)
 .rw[show(c.st=="rings"||c.st=="waits")=pc from dG.mpr g3,e9]at q;exact⟨M,.refl,q⟩
def Hv:Fq P w K mg base 1 a.aG (wz a):=by
 refine fq G.aG.toDG zq (λr u=>⟨_,(pI (pO (tL (qr u (pN v0) pL) (sT (qr u U1 (pN v0)))))),?_⟩)
 rintro ds M Q ⟨L,k,c,x,rfl,⟨ad,md,h1,h2,h3,h4,_⟩,q⟩
 unfold pM.mX at q;refine pJ h1 (i' Z' (qD (c:=c.st=="waits") (λg=>?_) (λg=>?_)))
 .rw[g,eP]at q;exact pJ h1 (i' Z' (AU h3 ⟨M,.refl,q⟩))
 .rw[show(c.st=="waits")=pc from dG.mpr g,e9]at q;exact⟨M,.refl,q⟩
def L7:Fq P w K mg base 2 a.bO (xX a):=by
 refine fq G.bO.toDG xy (λr u=>⟨_,(pI (pO (Gd (qm v0 G.e.toCls G.V (CW G) r (qp U1)) (Gd (qr u U1 (pN v0)) (sT (qr u U1 (pN v0))))))),?_⟩)
 rintro ds M Q ⟨L,k,c,x,rfl,hc,q⟩
 obtain⟨ad,md,h1,h2,h3,h4,_⟩:=id hc;unfold pM.nL at q;refine pJ h1 ⟨Z',_,⟨Z',Z'⟩,L,k,c,x,Z',hc,qD (c:=c.m7 x) (λg=>?_) (λg=>?_)⟩
 .rw[g]at q;exact⟨M,.refl,q⟩
 .rw[show c.m7 x=pc from dG.mpr g,fM]at q;refine pJ h1 (i' Z' (i' h3 ⟨Z',qE c.at_,?_⟩));show if inD (.str x) (c.at_.map D.str)=Db then _ else _
  rw[sP];refine qD (c:=hasS c.at_ x) (λg2=>?_) (λg2=>?_)
  .rw[g2]at q;exact⟨M,.refl,q⟩
  .rw[show hasS c.at_ x=pc from dG.mpr g2,fM]at q;exact pJ h1 (i' Z' (AU h4 ⟨M,.refl,q⟩))
def GX:Fq P w K mg base 2 a.aL (FS a):=by
 refine fq G.aL.toDG Dt (λr u=>⟨_,(pI (pO (tL (qm v0 G.e.toCls G.U (wQ G) r (qp U1)) (sT (qr u (qc qC Z' G.g qB (qp (pN v0))) pK))))),?_⟩)
 rintro ds M Q ⟨L,k,c,x,rfl,hc,q⟩
 obtain⟨ad,md,h1,h2,h3,h4,_⟩:=id hc;unfold pM.m9 at q;refine pJ h1 ⟨Z',_,⟨Z',Z'⟩,L,k,c,x,Z',hc,qD (c:=c.m8 x) (λg=>?_) (λg=>?_)⟩
 .rw[g,eP]at q;refine pJ h1 (i' Z' (i' h4 ⟨M,.refl,?_⟩));rw[cV];have:(((c.ms.length:Nat):Int)==2)=(c.ms.length==2):=by rw[gh,ft,ft];lia
  show Q (.bl (((c.ms.length:Nat):Int)==2)) M;rw[this];exact q
 .rw[show c.m8 x=pc from dG.mpr g,e9]at q;exact⟨M,.refl,q⟩
def F9:Fq P w K mg base 1 a.aH (zF a):=by
 refine fq G.aH.toDG zo (λr u=>⟨_,(pI (pO (pT (qT Z' (xV (ix:=[Fa,ga 1]) (N':=["member","phone"])) (qP (pN v0)) (qQ 0) (vF (pP u v0 U1)) v0) pK))),?_⟩)
 rintro ds M Q ⟨L,k,c,x,y,r,rfl,hc,hl,e,q⟩
 have hz:=dI;obtain⟨ad,md,h1,h2,h3,h4,_⟩:=id hc;refine pJ h1 (i' Z' (i' h4 (ui (f:=id) (t:=OB x) h4 _ [] _ (by rw[cV];simp only[dF];lia) (λd hd k0 hk=>?_) (λd hd _ k0 hk=>?_) λp hp=>?_)))
 .obtain⟨y,hy,rfl⟩:=dD.mp hd;exact hk
 .obtain⟨y,hy,rfl⟩:=dD.mp hd;exact hk
 rw[B9,e];exact i' pS (i' (vW _ _) ⟨M,.new hp,q⟩)
theorem Dc:∀bs:T0 Bool,Bs (.bl Db) (bs.map D.bl)=bs.findIdx? id
 | []=>rfl
 | b::r=>by rw[dW,List.findIdx?_cons];unfold Bs;rw[Dc r];cases b<;>rfl
theorem L'(x:D):∀ds:T0 D,(Bs x ds).isSome=ds.any λd=>QC d x
 | []=>rfl
 | d::r=>by
  unfold Bs;rw[gm];by_cases h:QC d x=Db
  .rw[de h,h];rfl
  .rw[c9 h,jx,L' x r,show QC d x=pc from dG.mpr h,fM]
theorem C8:∀bs:T0 Bool,(bs.map D.bl).all vI=Db
 | []=>rfl
 | _::r=>by rw[dW,eO,C8 r];rfl
structure Rd(a:Ad)(M:Mp)(A:uj)(V:qJ)(l:pR):Prop where
 bd:pZ a M A V
 k:V.calls.length<=1000000
 pl:tU a M V.p l
 ok:rX l
 on:V.on.length=l.mQ.length
 ms:∀c∈V.calls,(∀x∈c.ms,x∈l.pn)/\c.ms.length<=100
def Rd.sub{V:qJ}(h:Rd a M A V l)(s:qO M M'):Rd a M' A V l:=⟨h.bd.sub s,h.k,h.pl.sub s,h.ok,h.on,h.ms⟩
def Lw:rM:=λds M Q=>BQ λr bs=>ds=[.ref r]/\om M r=ga (List.map D.bl bs)/\Q (OI (bs.findIdx? id)) M
def K1(f:qJ->Str->D)(a:Ad):rM:=λds M Q=>Dj λA V x=>ds=[.ref A.b,.str x]/\pZ a M A V/\V.calls.length<=1000000/\Q (f V x) M
def Uz(V:qJ)(x:Str):D:=.int (uU V x:Nat)
def Nf(V:qJ)(x:Str):D:=OI (FL V x)
def AZ(V:qJ)(x:Str):D:=OI (wB V x)
def TY(V:qJ)(x:Str):D:=OI (JL V x)
def UI(V:qJ)(x:Str):D:=.bl (AN V x)
abbrev E7:=K1 Uz
abbrev Dx:=K1 Nf
abbrev Bu:=K1 AZ
abbrev Bc:=K1 TY
abbrev AJ:=K1 UI
def xR(a:Ad):rM:=λds M Q=>CO λA V l x=>ds=[.ref A.b,.str x]/\Rd a M A V l/\x∈l.pn/\Q (.bl (sJ l V x)) M
def AD(a:Ad):rM:=λds M Q=>Hw λA V l c z=>ds=[.ref A.b,.str c,.str z]/\Rd a M A V l/\z∈l.nm/\∀q M',qO M M'->M q=Fa->om M' q=ga ((uP l V c z).map D.str)->Q (.ref q) M'
def Au(a:Ad):rM:=λds M Q=>BQ λA V=>ds=[.ref A.b]/\pZ a M A V/\Q (.int ((V.h+V.t) % 24)) M
def OJ(a:Ad):rM:=λds M Q=>Hw λA V l c z=>ds=[.ref A.b,.str c,.str z]/\Rd a M A V l/\z∈l.nm/\Q (.bl (x9 l V c z)) M
def BP{V:qJ}(h:pZ a M A V){pre post:T0 D}{d:D}(e:pre++d::post=A.cs.map λk=>D.ref k.p):∃k c,A.cs[pre.length]?=ga k/\V.calls[pre.length]?=ga c/\d=.ref k.p/\sA a M (A.lists++V.fo) k c/\V.calls.take (pre.length+1)=V.calls.take pre.length++[c]:=by
 have h1:(A.cs.map λk=>D.ref k.p)[pre.length]?=ga d:=by rw[<-e];simp
 rw[dC]at h1;cases z:A.cs[pre.length]? with
 | none=>rw[z]at h1;cases h1
 | some k=>
  rw[z]at h1;have hi:pre.length<V.calls.length:=by rw[<-h.len];exact(cZ.mp z).1
  have e2:V.calls[pre.length]?=ga V.calls[pre.length]:=cY hi;refine⟨k,_,Z',e2,(dg h1).symm,h.cs _ _ _ z e2,?_⟩;rw[gx,e2];rfl
def xA{l:pR}{x:Str}(h:x∈l.pn):∃v,l.nu x=ga v:=by
 obtain⟨p,hp,rfl⟩:=dD.mp h;unfold pR.nu;cases e:l.mR.find? λq=>decide (q.1=p.1)with
 | some v=>exact⟨v,Z'⟩
 | none=>exact absurd (gJ.mp e p hp) (by simp)
def ra:hasS ss x=Db↔x∈ss:=by unfold hasS;rw[gG];exact⟨λ⟨y,hy,e⟩=>Ix e ▸ hy,λh=>⟨x,h,eL _⟩⟩
def Ks(h:xE ss=Db):ss.Nodup:=by
 have h:(uf ss).length=ss.length:=by unfold xE at h;have:=ft.mp h;lia
 suffices key:∀r:QQQ,(uf r.reverse).length=r.reverse.length->r.reverse.Nodup by have:=key ss.reverse;rw[List.reverse_reverse]at this;exact this h
 intro r;induction r with
 | nil=>intro _;exact eN
 | cons k r ih=>
  intro h;rw[List.reverse_cons]at h ⊢;generalize r.reverse=l at ih h ⊢;rw[yB]at h;split at h
  .have:=JC l;rw[cX,dH]at h;lia
  .rename_i hk;rw[cX,cX,dH]at h;have h1:=ih (by lia);rw[Lj]at hk;refine fL.mpr ⟨h1,by simp,λx hx y hy=>?_⟩;rw[dA.mp hy];exact λz=>hk (z ▸ hx)
def Ie{m:Int}(h:tF cs ks m=Db):cs≠[]/\(cs.length:Int)<=m/\cs.Nodup/\∀x∈cs,x∈ks:=by unfold tF at h;simp only[dU,eB,eI]at h;obtain⟨h1,h2,h3,h4⟩:=h;refine⟨λz=>by rw[z]at h1;exact absurd h1 (by decide),h2,Ks h3,λx hx=>ra.mp (h4 x hx)⟩
def rX.of(ok:rX l){z:Str}(hz:z∈l.nm):(l.mP z≠[]/\(l.mP z).length<=4/\(l.mP z).Nodup/\∀x∈l.mP z,x∈l.pn)/\(z∈l.pn->l.mP z=[z]/\l.mT z="one"):=by
 have hd:=fL.mp ok.nd;have h1:z∈l.pn->l.group z=Fa:=λh=>gJ.mpr λg hg e=>hd.2.2 z h g.1 (dD.mpr ⟨g,hg,Z'⟩) (by simpa using e:g.1=z).symm;refine⟨?_,λh=>by unfold pR.mP pR.mT;rw[h1 h];exact⟨Z',Z'⟩⟩;unfold pR.mP;cases e:l.group z with
 | none=>
  have hp:z∈l.pn:=by
   rcases dY.mp hz with h|h
   .exact h
   .obtain⟨g,hg,rfl⟩:=dD.mp h;exact absurd (gJ.mp e g hg) (by simp)
  exact⟨fB _ _,by show 1<=4;decide,dS.mpr ⟨dJ,eN⟩,λx hx=>by rw[dA.mp hx];exact hp⟩
 | some g=>obtain⟨c1,c2,c3,c4⟩:=Ie (ok.go g (gv e)).mem;exact⟨c1,by show g.2.2.length<=4;lia,c3,c4⟩
def yL{V:qJ}{f:pM->Str->Bool}{m x:Str}{Q:DK}{ok:Mp->Prop}(bd:pZ a M A V)(hk:V.calls.length<=1000000)(mZ:ok M)(hm:∀c wy ad md,(rN c wy ad md).lookup m=Fa)(q:∀p,M p=Fa->Q (.ref p) (pQ M p (.lst ((V.calls.map λc=>f c x).map D.bl)))):
  vJ (qZ 0) De (A8 m (λC s=>C=a.e/\s=yb f a) (v3 0) (wb (v3 1) yr)) ok Q (A.cs.map λk=>D.ref k.p) [] [Fa,ga (.str x)] M:=by
 have hz:=dI;refine BG (A.cs.map λk=>D.ref k.p) (λpre acc U M'=>M=M'/\acc=((V.calls.take pre.length).map λc=>f c x).map D.bl/\∃y,U=[y,ga (.str x)]) (λ_ _ _ M' j=>by rw[<-j.1];exact mZ) _ [] [] _ _ Z' ?_ ⟨Z',Z',Fa,Z'⟩ ?_ ?_
 .rw[cV,bd.len];simp only[dF];lia
 .rintro pre d post e acc U M' ⟨rfl,rfl,y,rfl⟩ k hk
  obtain⟨ka,c,e1,e2,rfl,hc,et⟩:=BP bd e;obtain⟨_,_,g1,_⟩:=id hc;refine pJ g1 ⟨hm _ _ _ _,_,⟨Z',Z'⟩,_,ka,c,x,Z',hc,hk _ _ _ ⟨Z',?_,_,Z'⟩⟩;rw[cX,dH,et,dN,dN];rfl
 .rintro acc U M' ⟨rfl,rfl,y,rfl⟩ p hp
  rw[cV,bd.len,fj];exact q p hp
def CY:Fq P w K mg base 1 a.L Lw:=by
 refine fq G.L.toDG AG (λr u=>⟨_,(pH (qa (pP u vv v0)
 (pI (pO (wG v0 (qp vv))))
 pU)
 (pI (pO tw))),?_⟩)
 rintro ds M Q ⟨r,bs,rfl,hr,q⟩
 have ei:inD (.bl Db) (bs.map D.bl)=(bs.findIdx? id).isSome:=by rw[<-Dc];exact(L' _ _).symm
 refine i' hr ⟨Z',C8 bs,?_⟩;show if inD (.bl Db) (bs.map D.bl)=Db then _ else _
 rw[ei];cases e:bs.findIdx? id with
 | none=>rw[e]at q;exact⟨M,.refl,q⟩
 | some j=>rw[e]at q;exact DH ⟨by show(om M r).isSome=Db;rw[hr];rfl,i' hr ⟨Z',C8 bs,i' ((Dc bs).trans e) ⟨M,.refl,q⟩⟩⟩
def Qg:Fq P w K mg base 2 a.bM (E7 a):=by
 refine fq G.bM.toDG DW (λr u=>⟨_,(pI (pO (qc qC Z' G.g qB (qp (qT Z' (xV (ix:=[Fa,ga 1]) (N':=["call","phone"])) (qP (pN v0)) (qQ 0) (vF (ua (qm v0 G.e.toCls G.bQ (Sr G) r (qp U1)))) v0))))),?_⟩)
 rintro ds M Q ⟨A,V,x,rfl,bd,Xy,q⟩
 have hz:=dI;refine pJ bd.at_ (i' Z' (i' bd.ca ?_));refine vQ (A.cs.map λk=>D.ref k.p) (λpre acc U M'=>M=M'/\acc.length=((V.calls.take pre.length).filter (·.hasB x)).length/\∃y,U=[y,ga (.str x)]) (λ_ _ _ M' j=>by rw[<-j.1];exact bd.ca) _ [] [] _ _ Z' ?_ ⟨Z',Z',Fa,Z'⟩ ?_ ?_
 .rw[cV,bd.len];simp only[dF];lia
 .rintro pre d post e acc U M' ⟨rfl,ha,y,rfl⟩ k k2 hk Yf
  obtain⟨ka,c,e1,e2,rfl,hc,et⟩:=BP bd e;rw[cX,dH,et,gq]at hk Yf;obtain⟨_,_,g1,_⟩:=id hc;refine pJ g1 ⟨Z',_,⟨Z',Z'⟩,_,ka,c,x,Z',hc,?_⟩;refine qD (c:=c.hasB x) (λg=>?_) (λg=>?_)
  .refine hk _ _ _ ⟨Z',?_,_,Z'⟩;rw[cX,cX,ha,fF (by exact g)];rfl
  .refine Yf _ _ ⟨Z',?_,_,Z'⟩;rw[cX,ha,fG (by exact g)];rfl
 .rintro acc U M' ⟨rfl,ha,y,rfl⟩ p hp
  refine i' pS ⟨M,.new hp,?_⟩;rw[cV,bd.len,fj]at ha;rw[ha];exact q
def Mh:Fq P w K mg base 3 a.bK (Dx a):=by
 refine fq G.bK.toDG Df (λr u=>⟨_,(pI (pO (pV (CY G) r G.L (qp (qT Z' (xV (ix:=[Fa,ga 1]) (N':=["call","phone"])) (qP (pN v0)) (qQ 0) sC (qm v0 G.e.toCls G.bP (Mt G) r (qp U1))))))),?_⟩)
 rintro ds M Q ⟨A,V,x,rfl,bd,Xy,q⟩
 refine pJ bd.at_ (i' Z' (i' bd.ca (yL bd Xy bd.ca (λ_ _ _ _=>rfl) λp hp=>⟨p,_,Z',pS,M,.new hp,?_⟩)));rw[ic];exact q
def HY:Fq P w K mg base 3 a.bL (Bc a):=by
 refine fq G.bL.toDG Az (λr u=>⟨_,(pI (pO (pV (CY G) r G.L (qp (qT Z' (xV (ix:=[Fa,ga 1]) (N':=["call","phone"])) (qP (pN v0)) (qQ 0) sC (qm v0 G.e.toCls G.V (CW G) r (qp U1))))))),?_⟩)
 rintro ds M Q ⟨A,V,x,rfl,bd,Xy,q⟩
 refine pJ bd.at_ (i' Z' (i' bd.ca (yL bd Xy bd.ca (λ_ _ _ _=>rfl) λp hp=>⟨p,_,Z',pS,M,.new hp,?_⟩)));rw[ic];exact q
def yX:Fq P w K mg base 3 a.R (Bu a):=by
 refine fq G.R.toDG Am (λr u=>⟨_,(pI (pO (pV (CY G) r G.L (qp (qT Z' (xV (ix:=[Fa,ga 1]) (N':=["call","phone"])) (qP (pN v0)) (qQ 0) sC (qm v0 G.e.toCls G.U (wQ G) r (qp U1))))))),?_⟩)
 rintro ds M Q ⟨A,V,x,rfl,bd,Xy,q⟩
 refine pJ bd.at_ (i' Z' (i' bd.ca (yL bd Xy bd.ca (λ_ _ _ _=>rfl) λp hp=>⟨p,_,Z',pS,M,.new hp,?_⟩)));rw[ic];exact q
def GG:Fq P w K mg base 3 a.bE (AJ a):=by
 refine fq G.bE.toDG zx (λr u=>⟨_,(pI (pO (qc (Td Z') Z' G.cI Rb (qp (qT Z' (xV (ix:=[Fa,ga 1]) (N':=["call","phone"])) (qP (pN v0)) (qQ 0) sC (qm v0 G.e.toCls G.aG (Hv G) r (qp U1))))))),?_⟩)
 rintro ds M Q ⟨A,V,x,rfl,bd,Xy,q⟩
 refine pJ bd.at_ (i' Z' (i' bd.ca (yL bd Xy bd.ca (λ_ _ _ _=>rfl) λp hp=>i' pS ?_)));rw[eh];refine i' (yG _ _) ⟨M,.new hp,?_⟩;rw[jS];exact q
def He:Fq P w K mg base 1 a.bD (Au a):=by
 refine fq G.bD.toDG zE (λr u=>⟨_,(pI (pO (ql (ql (pN v0) (pN v0)) pK))),?_⟩)
 rintro ds M Q ⟨A,V,rfl,bd,q⟩
 exact pJ bd.at_ (i' Z' (pJ bd.at_ (i' Z' ⟨by decide,M,.refl,q⟩)))
def GF{l:pR}{x:Str}{v:tP}(h:l.nu x=ga v):xp l x=v.2.1:=by unfold xp;rw[h];rfl
def zc:Fq P w K mg base 3 a.T (xR a):=by
 refine fq G.T.toDG AH (λr u=>⟨_,(pI (pO (qr u (qm v0 G.c.toCls G.bM (Qg G) r (qp U1)) (qm (pN v0) G.h.toCls G.bN (DB G) r (qp U1))))),?_⟩)
 rintro ds M Q ⟨A,V,l,x,rfl,rd,hx,q⟩
 obtain⟨ph,gr,ws,YK,pr,gd,rs,i1,_⟩:=rd.pl;obtain⟨v,hv⟩:=xA hx;refine pJ rd.bd.at_ ⟨Z',_,⟨Z',Z'⟩,A,V,x,Z',rd.bd,rd.k,?_⟩;refine pJ rd.bd.at_ (i' Z' (pJ i1 ⟨Z',_,⟨Z',Z'⟩,V.p,x,v,l,Z',rd.pl,hv,?_⟩));unfold sJ at q;rw[GF hv]at q;exact⟨M,.refl,q⟩
def A5:Fq P w K mg base 4 a.aI (AD a):=by
 refine fq G.aI.toDG zH (λr u=>⟨_,(pI (pO (qT Z' (xV (ix:=[Fa,ga 1,ga 0]) (N':=["phone","caller","self"])) (qP (qm (pN v0) G.h.toCls G.X (uQ G) r (qp U2))) (qQ 0) (vF (W3.b3 (vh (pP u v0 U1) (uE (ua (qm U2 G.c.toCls G.T (zc G) r (qp v0))))))) v0))),?_⟩)
 rintro ds M Q ⟨A,V,l,c,z,rfl,rd,XA,q⟩
 obtain⟨ph,gr,ws,YK,pr,gd,rs,i1,_⟩:=rd.pl;obtain⟨⟨_,p4,_,pin⟩,_⟩:=rd.ok.of XA;refine pJ rd.bd.at_ (i' Z' (pJ i1 ⟨Z',_,⟨Z',Z'⟩,V.p,z,l,Z',rd.pl,λq1 Ye=>i' pS ?_⟩));obtain⟨M1,e0,s1,c1⟩:=uT (ds:=List.map D.str (l.mP z)) Ye;rw[<-e0];have hz:=dI;have Yo:=rd.sub s1;refine ui (f:=id) (t:=λd=>match d with|.str x=>!(x==c)&&sJ l V x|_=>pc) c1 _ [] _ (by rw[cV];simp only[dF];lia) (λd hd k hk=>?_) (λd hd _ k hk=>?_) λq2 Zv=>?_
 .obtain⟨x,hx,rfl⟩:=dD.mp hd;have hk:k (!(x==c)&&sJ l V x) M1:=hk;cases e:x==c with
  | true=>rw[e]at hk;refine Lv (c:=!(x==c)) (by rw[e];rfl) hk
  | false=>rw[e]at hk;refine Bb (c:=!(x==c)) (by rw[e];rfl) (pJ Yo.bd.at_ ⟨Z',_,⟨Z',Z'⟩,A,V,l,x,Z',Yo,pin x hx,hk⟩)
 .obtain⟨x,hx,rfl⟩:=dD.mp hd;exact hk
 .have ef:[]++(List.filter (λd=>match d with|.str x=>!(x==c)&&sJ l V x|_=>pc) ((l.mP z).map D.str)).map id=(uP l V c z).map D.str:=by rw[dZ,jn,hW];rfl
  rw[ef];have t2:=qO.new (c:=.lst ((uP l V c z).map D.str)) Zv;exact⟨_,.refl,q q2 _ (s1.trans t2) (s1.none Zv) pS⟩
def Fv:Fq P w K mg base 5 a.N (OJ a):=by
 refine fq G.N.toDG HI (λr u=>⟨_,(pI (pO (qr u (qc qC Z' G.g qB (qp (qm v0 G.c.toCls G.aI (A5 G) r (sd U1 U2)))) pK))),?_⟩)
 rintro ds M Q ⟨A,V,l,c,z,rfl,rd,tg,q⟩
 refine pJ rd.bd.at_ ⟨Z',_,⟨Z',Z'⟩,A,V,l,c,z,Z',rd,tg,λq1 M1 s1 Ye e1=>i' e1 ⟨M,s1,?_⟩⟩;have e:((((uP l V c z).map D.str).length:Int)==0)=x9 l V c z:=by unfold x9;rw[cV,gh,ft,List.isEmpty_iff,<-gA];lia
 show Q (.bl ((((uP l V c z).map D.str).length:Int)==0)) M;rw[e];exact q
def xn(a:Ad)(v:Wi):rM:=λds M Q=>K2 λp A V l c z=>ds=[.ref p,.ref A.b,.str c,.str z]/\M p=ga (.ins (v.cls a) v.nP)/\Rd a M A V l/\z∈l.nm/\CC l.pn l.nm v/\Q (.bl (xh l V c z v)) M
def QY(a:Ad)(v:Wi):rM:=λds M Q=>CO λp L k c=>ds=[.ref p,.ref (r6.p k)]/\M p=ga (.ins (v.cls a) v.nP)/\sA a M L k c/\Q (.bl (Hm c v)) M
def Gc:rM:=λds M Q=>BQ λx y=>ds=[x,y]/\Q (.bl pc) M
def HU(a:Ad):Uf->rM->Prop:=λC sp=>∃v:Wi,C=v.cls a/\sp=xn a v
noncomputable def Ma(a:Ad):Wi->rM
 | .silent x y n=>QY a (.silent x y n)
 | _=>Gc
def GE(a:Ad):Uf->rM->Prop:=λC sp=>∃v:Wi,C=v.cls a/\sp=Ma a v
def AF(a:Ad):rM:=λds M Q=>K2 λp x y f l h=>ds=[.ref p,.int h]/\M p=ga (.ins a.q (Wi.night x y f l).nP)/\Q (.bl (Fp f l h)) M
def zI(a:Ad):rM:=λds M Q=>K2 λp x q l r ms=>ds=[.ref p,.ref q,.ref r]/\M p=ga (.ins a.r (Wi.breaks x).nP)/\tU a M q l/\om M r=ga (List.map D.str ms)/\ms.length<=100/\x∈l.pn/\(∀m∈ms,m∈l.pn)/\Q (.bl (Hz l x ms)) M
def JA{l:pR}{x:Str}{v:tP}(h:l.nu x=ga v):wH l x=v.2.2:=by unfold wH;rw[h];rfl
def rO{ks:List r6}{i:Nat}{k:r6}(h:ks[i]?=ga k):wX (ks.map λk=>D.ref k.p) (i:Nat)=ga (.ref k.p):=uB (by rw[dC,h];rfl)
def NO(ds:T0 D):L3.vj ds (ga (-1:Int)) Fa=ds.drop (ds.length - 1):=by
 unfold L3.vj;have e:HT.tS ds.length 0 (ga (-1:Int))=ds.length - 1:=by show(if (-1:Int)<0 then((-1:Int)+(ds.length:Int)).toNat else min (-1:Int).toNat ds.length)=ds.length - 1;rw[de (by decide)];lia
 rw[e];show(ds.drop (ds.length - 1)).take (ds.length - (ds.length - 1))=_;exact iQ (by rw[fY];exact dq _)
theorem Ea{α:Type}:∀w:List α,w.drop (w.length - 1)=w.getLast?.toList
 | []=>rfl
 | [_]=>rfl
 | _::z::r=>by rw[List.getLast?_cons_cons,<-Ea (z::r)];rfl
def Pk{p q:Uf}{w:QQQ}(h1:om M p=ga ((w.map D.str).drop ((w.map D.str).length - 1)))(h2:om M q=ga [D.str x]):xj M 9 (.ref p) (.ref q)=ga (w.getLast?==ga x):=by
 have e:(w.map D.str).drop ((w.map D.str).length - 1)=(w.getLast?.toList).map D.str:=by rw[cV,<-ir];rw[Ea]
 rw[e]at h1;show(om M p).bind (λi=>(om M q).bind λj=>if i.length=j.length then tq (xj M 8) i j else ga pc)=_;rw[h1,h2];cases w.getLast? with
 | none=>rfl
 | some y=>show((ga (y==x)).bind λp=>(ga Db).map λq=>p&&q)=ga (ga y==ga x);show ga ((y==x)&&Db)=_;rw[mz];rfl
def NP(G:Gl K mg a)(x:Str)(ns:QQQ):Fq P w K mg base 6 a.ax (xn a (.bar x ns)):=by
 refine fq G.ax.toDG G5 (λr u=>⟨_,(pI (pO (tL (qr u U2 (pN v0)) (sT (qr u U3 (pN v0)))))),?_⟩)
 rintro ds M Q ⟨p,A,V,l,c,z,rfl,hp,_,_,_,q⟩
 refine pJ hp ?_;refine qD (c:=c==x) (λg=>pJ hp ⟨Z',qE ns,M,.refl,?_⟩) (λg=>⟨M,.refl,?_⟩)
 .show Q (.bl (inD (.str z) (ns.map D.str))) M;rw[sP];dsimp only[xh]at q;rw[g,eP]at q;exact q
 .dsimp only[xh]at q;rw[show(c==x)=pc from dG.mpr g,e9]at q;exact q
def ME(G:Gl K mg a)(x:Str)(ns:QQQ):Fq P w K mg base 6 a.ay (xn a (.shut x ns)):=by
 refine fq G.ay.toDG Fm (λr u=>⟨_,(pI (pO (tL (qr u U3 (pN v0)) (sT (qr u U2 (pN v0)))))),?_⟩)
 rintro ds M Q ⟨p,A,V,l,c,z,rfl,hp,_,_,_,q⟩
 refine pJ hp ?_;refine qD (c:=z==x) (λg=>pJ hp ⟨Z',qE ns,M,.refl,?_⟩) (λg=>⟨M,.refl,?_⟩)
 .show Q (.bl (inD (.str c) (ns.map D.str))) M;rw[sP];dsimp only[xh]at q;rw[g,eP]at q;exact q
 .dsimp only[xh]at q;rw[show(z==x)=pc from dG.mpr g,e9]at q;exact q
def MO(G:Gl K mg a)(x y:Str):Fq P w K mg base 6 a.az (xn a (.always x y)):=by
 refine fq G.az.toDG C1 (λr u=>⟨_,(pI (pO (qr u U3 (pN v0)))),?_⟩)
 rintro ds M Q ⟨p,A,V,l,c,z,rfl,hp,_,_,_,q⟩
 exact pJ hp ⟨M,.refl,q⟩
def Gq:Fq P w K mg base 1 a.bC (AF a):=by
 refine fq G.bC.toDG zy (λr u=>⟨_,(pH (qa (pP u (pN v0) (pN v0))
 (pI (pO (uW u (pN v0) U1 (pN v0))))
 pU)
 (pI (pO (Gd (qr u U1 (pN v0)) (sT (qr u U1 (pN v0))))))),?_⟩)
 rintro ds M Q ⟨p,x,y,f,l,h,rfl,hp,q⟩
 refine pJ hp (pJ hp ?_);show if (decide (f<l))=Db then _ else _
 unfold Fp at q;by_cases z:f<l
 .rw[de z]at q;refine Bb (dX z) (pJ hp ?_);refine qD (c:=decide (f<=h)) (λg=>?_) (λg=>?_)
  .rw[g,eP]at q;exact pJ hp ⟨M,.refl,q⟩
  .rw[show decide (f<=h)=pc from dG.mpr g,e9]at q;exact⟨M,.refl,q⟩
 .rw[c9 z]at q;refine Lv (eY z) (pJ hp ?_);refine qD (c:=decide (h>=f)) (λg=>?_) (λg=>?_)
  .rw[g,ig]at q;exact⟨M,.refl,q⟩
  .rw[show decide (h>=f)=pc from dG.mpr g,fM]at q;exact pJ hp ⟨M,.refl,q⟩
def Mv(G:Gl K mg a)(x y:Str)(f m:Int):Fq P w K mg base 6 a.aA (xn a (.night x y f m)):=by
 refine fq G.aA.toDG DM (λr u=>⟨_,(pI (pO (tL (qr u U3 (pN v0)) (sT (qm v0 G.q.toCls G.bC (Gq G) r (qp (yK U1 G.c.toCls G.bD (He G) r))))))),?_⟩)
 rintro ds M Q ⟨p,A,V,l,c,z,rfl,hp,rd,_,_,q⟩
 dsimp only[xh]at q;refine pJ hp ?_;refine qD (c:=z==x) (λg=>?_) (λg=>?_)
 .rw[g,eP]at q;exact pJ hp ⟨Z',_,⟨Z',Z'⟩,pJ rd.bd.at_ ⟨Z',_,⟨Z',Z'⟩,A,V,Z',rd.bd,p,x,y,f,m,_,Z',hp,M,.refl,q⟩⟩
 .rw[show(z==x)=pc from dG.mpr g,e9]at q;exact⟨M,.refl,q⟩
def Mq(G:Gl K mg a)(x y:Str):Fq P w K mg base 6 a.aB (xn a (.busy x y)):=by
 refine fq G.aB.toDG FD (λr u=>⟨_,(pI (pO (tL (qr u U3 (pN v0)) (sT (pV (Fv G) r G.N (rJ U1 U2 U3)))))),?_⟩)
 rintro ds M Q ⟨p,A,V,l,c,z,rfl,hp,rd,hz,_,q⟩
 dsimp only[xh]at q;refine pJ hp ?_;refine qD (c:=z==x) (λg=>?_) (λg=>?_)
 .rw[g,eP]at q;exact⟨A,V,l,c,z,Z',rd,hz,M,.refl,q⟩
 .rw[show(z==x)=pc from dG.mpr g,e9]at q;exact⟨M,.refl,q⟩
def Ms(G:Gl K mg a)(x y:Str)(n:Int):Fq P w K mg base 6 a.aC (xn a (.silent x y n)):=by
 refine fq G.aC.toDG Cj (λr u=>⟨_,(pI (pO vv)),?_⟩)
 rintro ds M Q ⟨p,A,V,l,c,z,rfl,hp,rd,hz,_,q⟩
 exact⟨M,.refl,q⟩
def LX(G:Gl K mg a)(x:Str):Fq P w K mg base 6 a.aD (xn a (.wait x)):=by
 refine fq G.aD.toDG Fy (λr u=>⟨_,(pH (qa (W3.b3 (vH (pP u U3 (pN v0)) (vC (pP u U2 (pN v0)))))
 (pI (pO vv))
 pU)
 (pI (pO (tL (pV (Fv G) r G.N (rJ U1 U2 U3)) (sT (Sg (qm U1 G.c.toCls G.bE (GG G) r (qp U3)))))))),?_⟩)
 rintro ds M Q ⟨p,A,V,l,c,z,rfl,hp,rd,hz,_,q⟩
 dsimp only[xh]at q;refine pJ hp ?_;refine qD (c:=!(z==x)) (λg=>?_) (λg=>?_)
 .rw[g,ig]at q;exact⟨M,.refl,q⟩
 rw[show(!(z==x))=pc from dG.mpr g,fM]at q;refine pJ hp ?_;refine qD (c:=c==x) (λg=>?_) (λg=>?_)
 .rw[g]at q;exact⟨M,.refl,q⟩
 rw[c9 g]at q;refine⟨A,V,l,c,z,Z',rd,hz,?_⟩;refine qD (c:=x9 l V c z) (λg=>?_) (λg=>?_)
 .rw[g,eP]at q;exact pJ rd.bd.at_ ⟨Z',_,⟨Z',Z'⟩,A,V,z,Z',rd.bd,rd.k,M,.refl,q⟩
 .rw[show x9 l V c z=pc from dG.mpr g,e9]at q;exact⟨M,.refl,q⟩
def GS:Fq P w K mg base 2 a.bF (zI a):=by
 refine fq G.bF.toDG vS (λr u=>⟨_,(pH (pW 3 vS (qm U1 G.h.toCls G.aK (zM G) r (qp (pN v0))))
 (pI (pO (qc (Ft Z') Z' G.bU FR (qp (qT Z' (xV (ix:=[Fa,ga 1,ga 3]) (N':=["member","plan","rank"])) (qP U2) (qQ 0) sC (qr u (qm U1 G.h.toCls G.aK (zM G) r (qp v0)) U2))))))),?_⟩)
 rintro ds M Q ⟨p,x,q,l,r,ms,rfl,hp,pl,lr,h100,hx,hm,k⟩
 have hz:=dI;obtain⟨v,hv⟩:=xA hx;obtain⟨ph,gr,ws,YK,pr,gd,rs,i1,_⟩:=id pl;refine pJ i1 ⟨Z',_,⟨Z',Z'⟩,pJ hp (i' Z' ⟨q,x,v,l,Z',pl,hv,?_⟩)⟩;refine i' lr (rG (f:=λd=>match d with|.str m=>.bl (decide (wH l m<wH l x))|_=>.mW) lr _ [] _ (by rw[cV];show 0+ms.length<=Ch;lia) (λd hd k0 hk=>?_) λp1 YS=>?_)
 .obtain⟨m,hmm,rfl⟩:=dD.mp hd;obtain⟨u,hu⟩:=xA (hm m hmm);have hk:k0 (.bl (decide (wH l m<wH l x))) M:=hk;rw[JA hu,JA hv]at hk;exact pJ i1 ⟨Z',_,⟨Z',Z'⟩,q,m,u,l,Z',pl,hu,hk⟩
 .have em:[]++(ms.map D.str).map (λd=>match d with|.str m=>.bl (decide (wH l m<wH l x))|_=>.mW)=ms.map λm=>D.bl (decide (wH l m<wH l x)):=by rw[dZ,eh];rfl
  rw[em];refine i' pS (i' (yG (λm=>decide (wH l m<wH l x)) ms) ⟨M,.new YS,?_⟩);unfold Hz at k;rw[Aa];exact k
def NS(G:Gl K mg a)(x:Str):Fq P w K mg base 6 a.aE (xn a (.breaks x)):=by
 refine fq G.aE.toDG vZ (λr u=>⟨_,(pH (qa (W3.b3 (vH (pP u U2 (pN v0)) (vC (pP u U3 (pN v0)))))
 (pI (pO vv))
 pU)
 (pH (qa (W3.b3 (vH (pP u U3 (yK (pN U1) G.h.toCls G.S (uo G) r)) (vC (vm (ua (pV (Fv G) r G.N (rJ U1 U2 U3)))))))
 (pI (pO vv))
 pU)
 (pH (pW 4 vZ (qm U1 G.c.toCls G.R (yX G) r (qp U3)))
 (pH (qa (pP u v4 tw)
 (pI (pO vv))
 pU)
 (pH (pW 5 vZ (pN (pT (pN U1) v4)))
 (pI (pO (tL (qr u (qc qC Z' G.g qB (qp v5)) pK) (sT (qm v0 G.r.toCls G.bF (GS G) r (sd (pN U1) v5))))))))))),?_⟩)
 rintro ds M Q ⟨p,A,V,l,c,z,rfl,hp,rd,XA,hx,q⟩
 have hx:x∈l.pn:=ra.mp hx;obtain⟨ph,gr,ws,YK,pr,gd,rs,i1,_⟩:=rd.pl;have p8:=rd.ok.p8;dsimp only[xh,Ip]at q;refine pJ hp ?_;refine qD (c:=!(c==x)) (λh1=>?_) (λh1=>?_)
 .rw[h1,ig]at q;exact⟨M,.refl,q⟩
 rw[show(!(c==x))=pc from dG.mpr h1,fM]at q;refine pJ hp ?_;refine qD (c:=z==x) (λh2=>?_) (λh2=>?_)
 .rw[h2]at q;exact⟨M,.refl,q⟩
 rw[c9 h2]at q;refine pJ rd.bd.at_ (i' Z' (pJ i1 ⟨Z',_,⟨Z',Z'⟩,V.p,l,Z',rd.pl,by lia,λq1 Ye=>i' pS ⟨Z',qE _,?_⟩⟩));obtain⟨M1,e0,t,_⟩:=uT (ds:=l.pn.map D.str) Ye;rw[<-e0];have XO:=rd.sub t;show if (!(inD (.str z) (l.pn.map D.str)))=Db then _ else _
 rw[sP];refine qD (c:=!(hasS l.pn z)) (λh3=>?_) (λh3=>?_)
 .rw[h3,ig]at q;exact⟨M,t,q⟩
 rw[show(!(hasS l.pn z))=pc from dG.mpr h3,fM]at q;refine⟨A,V,l,c,z,Z',XO,XA,?_⟩;refine qD (c:=!(x9 l V c z)) (λh4=>?_) (λh4=>?_)
 .rw[h4]at q;exact⟨M,t,q⟩
 rw[c9 h4]at q;refine pJ XO.bd.at_ ⟨Z',_,⟨Z',Z'⟩,A,V,z,Z',XO.bd,XO.k,?_⟩;cases e:wB V z with
 | none=>rw[e]at q;rw[show AZ V z=.mW from by unfold AZ;rw[e];rfl];exact⟨M,t,q⟩
 | some j=>
  rw[show AZ V z=.int (j:Nat)from by unfold AZ;rw[e];rfl];have hj:j<V.calls.length:=(iR.mp e).1;have e2:V.calls[j]?=ga V.calls[j]:=cY hj;rw[e]at q;generalize V.calls[j]=k at e2;have q:Q (.bl (((V.calls[j]?).elim pc λk=>(k.ms.length==2)&&Hz l x k.ms))) M:=q;rw[e2]at q;have hj:j<A.cs.length:=by rw[rd.bd.len];exact hj
  have ek:A.cs[j]?=ga A.cs[j]:=cY hj;obtain⟨ad,md,f1,f2,f3,f4,_⟩:=XO.bd.cs j _ k ek e2;refine pJ XO.bd.at_ (i' Z' (i' Z' (i' XO.bd.ca (i' (rO ek) (pJ f1 (i' Z' ?_))))));refine i' f4 ?_;have el:((((k.ms.map D.str).length:Nat):Int)==2)=(k.ms.length==2):=by rw[cV,gh,ft,ft];lia
  show if ((((k.ms.map D.str).length:Nat):Int)==2)=Db then _ else _
  rw[el];have q:Q (.bl ((k.ms.length==2)&&Hz l x k.ms)) M:=q;refine qD (c:=k.ms.length==2) (λh5=>?_) (λh5=>?_)
  .rw[h5,eP]at q;have hm:=rd.ms k (rb e2);refine pJ (t _ _ hp) ⟨Z',_,⟨Z',Z'⟩,pJ XO.bd.at_ (i' Z' ⟨p,x,V.p,l,md,k.ms,Z',t _ _ hp,XO.pl,f4,hm.2,hx,hm.1,M,t,q⟩)⟩
  .rw[show(k.ms.length==2)=pc from dG.mpr h5,e9]at q;exact⟨M,t,q⟩
def MK:Fq P w K mg base 1 a.t Gc:=by
 refine fq G.t.toDG Cy (λr u=>⟨_,(pI (pO vv)),?_⟩)
 rintro ds M Q ⟨x,y,rfl,q⟩
 exact⟨M,.refl,q⟩
def R9(G:Gl K mg a)(x y:Str)(n:Int):Fq P w K mg base 1 a.aM (QY a (.silent x y n)):=by
 refine fq G.aM.toDG An (λr u=>⟨_,(pI (pO (tL (qr u (rS (pN U1) (sO (FT pK)) sL) (qX (qp (pN v0)))) (sT (qr u (pN v0) (pN U1)))))),?_⟩)
 rintro ds M Q ⟨p,L,k,c,rfl,hp,⟨ad,md,h1,h2,h3,h4,_⟩,q⟩
 refine pJ h1 (i' Z' (i' h2 λp1 YS=>?_));have t1:=qO.new (c:=.lst (L3.vj (c.way.map D.str) (ga (-1:Int)) Fa)) YS;have l1:om (pQ M p1 (.lst (L3.vj (c.way.map D.str) (ga (-1:Int)) Fa))) p1=ga ((c.way.map D.str).drop ((c.way.map D.str).length - 1)):=by rw[pS,NO]
 show Bo (pQ M p1 (.lst (L3.vj (c.way.map D.str) (ga (-1:Int)) Fa)) p) _;generalize pQ M p1 (.lst (L3.vj (c.way.map D.str) (ga (-1:Int)) Fa))=M1 at t1 l1 ⊢;refine pJ (t1 _ _ hp) ⟨pE Z',λp2 Xh=>?_⟩;obtain⟨M2,e0,t2,l2⟩:=uT (ds:=[D.str x]) Xh;rw[<-e0];show Option.elim (xj M2 9 (.ref p1) (.ref p2)) False _;have s2:=t1.trans t2;refine i' (Pk (t2.lst l1) l2) ?_;dsimp only[Hm]at q;refine qD (c:=c.way.getLast?==ga x) (λg=>?_) (λg=>?_)
 .rw[g,eP]at q;exact pJ (s2 _ _ hp) (pJ (s2 _ _ h1) ⟨M,s2,q⟩)
 .rw[show(c.way.getLast?==ga x)=pc from dG.mpr g,e9]at q;exact⟨M,s2,q⟩
def LY:∀C sp,HU a C sp->yz P w K mg base 6 "fits" C (Oc K sp):=by
 rintro C sp ⟨v,rfl,rfl⟩
 cases v with
 | bar x ns=>exact⟨G.u.toCls,_,_,_,G.ax.nE,NP G x ns,G.ax.b⟩
 | shut x ns=>exact⟨G.v.toCls,_,_,_,G.ay.nE,ME G x ns,G.ay.b⟩
 | always x y=>exact⟨G.y.toCls,_,_,_,G.az.nE,MO G x y,G.az.b⟩
 | night x y f m=>exact⟨G.q.toCls,_,_,_,G.aA.nE,Mv G x y f m,G.aA.b⟩
 | busy x y=>exact⟨G.z.toCls,_,_,_,G.aB.nE,Mq G x y,G.aB.b⟩
 | silent x y n=>exact⟨G.w.toCls,_,_,_,G.aC.nE,Ms G x y n,G.aC.b⟩
 | wait x=>exact⟨G.x.toCls,_,_,_,G.aD.nE,LX G x,G.aD.b⟩
 | breaks x=>exact⟨G.r.toCls,_,_,_,G.aE.nE,NS G x,G.aE.b⟩
def UD:∀C sp,GE a C sp->yz P w K mg base 1 "is_due" C (Oc K sp):=by
 rintro C sp ⟨v,rfl,rfl⟩
 have F:=MK (P:=P) (w:=w) (base:=base) G;cases v with
 | silent x y n=>exact⟨G.w.toCls,_,_,_,G.aM.nE,R9 G x y n,G.aM.b⟩
 | bar _ _=>exact⟨G.u.toCls,_,_,_,G.co,F,G.t.b⟩
 | shut _ _=>exact⟨G.v.toCls,_,_,_,G.cp,F,G.t.b⟩
 | always _ _=>exact⟨G.y.toCls,_,_,_,G.cq,F,G.t.b⟩
 | night _ _ _ _=>exact⟨G.q.toCls,_,_,_,G.cr,F,G.t.b⟩
 | busy _ _=>exact⟨G.z.toCls,_,_,_,G.cs,F,G.t.b⟩
 | wait _=>exact⟨G.x.toCls,_,_,_,G.ct,F,G.t.b⟩
 | breaks _=>exact⟨G.r.toCls,_,_,_,G.cu,F,G.t.b⟩
def BO{es pre post:T0 D}{d:D}(e:pre++d::post=uL 0 es):∃x,es[pre.length]?=ga x/\d=.tup [.int (pre.length:Nat),x]:=by
 have h:(uL 0 es)[pre.length]?=ga d:=by rw[<-e];simp
 rw[zG]at h;cases q:es[pre.length]? with
 | none=>rw[q]at h;cases h
 | some x=>rw[q]at h;refine⟨x,Z',?_⟩;have:=(dg h).symm;rw[mF]at this;exact this
def vt(n:Nat):∀es:T0 D,(uL n es).length=es.length:=λes=>by
 have h:∀i:Nat,(uL n es)[i]?=Fa↔es[i]?=Fa:=λi=>by rw[zG];cases es[i]?<;>simp
 have a:=(h es.length).mpr (ii (dq _));have b:=(h (uL n es).length).mp (ii (dq _));rw[List.getElem?_eq_none_iff]at a b;lia
def JO{l:pR}{V:qJ}{f:Wi->Bool}{tt:AV}{ok:Mp->Prop}{Q:DK}{M:Mp}{rest:T0 (Option D)}(hl:V.on.length=l.mQ.length)(h16:l.mQ.length<=16)(mZ:ok M) (ht:∀(i:Nat) (w:wm),l.mQ[i]?=ga w->∀(y:Option D) (k:Bool->Mp->Prop),k (f w.2) M->tt (ga (.int (i:Nat))::y::rest) M k) (q:∀p,M p=Fa->Q (.ref p) (pQ M p (.lst ((HD l V f).map λn=>D.int (n:Nat))))):
  vJ (QZ 2 (zd (qZ 0) (zd (qZ 1) Ek))) (Ol (b3 (v3 1)) tt) (v3 0) ok Q (uL 0 (V.on.map D.bl)) [] (Fa::Fa::rest) M:=by
 have hz:=dI;refine vQ (uL 0 (V.on.map D.bl)) (λpre acc U M'=>M=M'/\acc=((List.range pre.length).filter λi=>V.on.getD i pc&&(l.mQ[i]?).elim pc λw=>f w.2).map (λn=>D.int (n:Nat))/\∃y1 y2,U=y1::y2::rest) (λ_ _ _ M' j=>by rw[<-j.1];exact mZ) _ [] [] _ _ Z' ?_ ⟨Z',Z',Fa,Fa,Z'⟩ ?_ ?_
 .rw[vt,cV,hl];simp only[dF];lia
 .rintro pre d post e acc U M' ⟨rfl,rfl,y1,y2,rfl⟩ k k2 hk Yf
  obtain⟨x,hx,rfl⟩:=BO e;rw[cX,dH,iA,gq]at hk Yf;rw[dC]at hx;cases eo:V.on[pre.length]? with
  | none=>rw[eo]at hx;cases hx
  | some b=>
   rw[eo]at hx;have hx:D.bl b=x:=dg hx;subst hx;have hi:pre.length<l.mQ.length:=by rw[<-hl];exact(cZ.mp eo).1
   have ew:l.mQ[pre.length]?=ga l.mQ[pre.length]:=cY hi;generalize l.mQ[pre.length]=w0 at ew;have eg:V.on.getD pre.length pc=b:=by rw[fS,eo];rfl
   have no:(b&&f w0.2)=pc->k2 (ga (.int (pre.length:Nat))::ga (.bl b)::rest) M:=λg=>by refine Yf _ _ ⟨Z',?_,_,_,Z'⟩;rw[fG (by rw[eg,ew];show ¬(b&&f w0.2)=Db;rw[g];exact dw),fW,eG]
   refine⟨Z',?_⟩;show if b=Db then _ else _
   cases b with
   | false=>exact yh (no Z')
   | true=>
    refine DH (ht _ _ ew _ _ ?_);cases g:f w0.2 with
    | false=>exact yh (no (by rw[g];rfl))
    | true=>refine DH (hk _ _ _ ⟨Z',?_,_,_,Z'⟩);rw[fF (by rw[eg,ew];show(Db&&f w0.2)=Db;rw[g];rfl),fW,dN];rfl
 .rintro acc U M' ⟨rfl,rfl,y1,y2,rfl⟩ p hp
  rw[vt,cV];exact q p hp
def BK(h:tK a M rs ws){i:Nat}{w:wm}(e:ws[i]?=ga w):∃r,wX (rs.map D.ref) (i:Nat)=ga (.ref r)/\M r=ga (.ins (w.2.cls a) w.2.nP):=by
 have hi:i<rs.length:=by rw[h.1];exact(cZ.mp e).1
 exact⟨rs[i],uB (by rw[dC,cY hi];rfl),h.2 i _ w (cY hi) e⟩
def B'(ds:T0 D)(m:Nat):L3.vj ds Fa (ga (m:Int))=ds.take m:=by
 unfold L3.vj;rw[HT.BU,HT.Jw,ko,kY];by_cases h:m<=ds.length
 .rw[mq h]
 .rw[Nat.min_eq_right (by lia),fj,iQ (by lia)]
def Cw(ds:T0 D)(m:Nat)(h:m<=ds.length):L3.vj ds (ga (m:Int)) Fa=ds.drop m:=by unfold L3.vj;rw[HT.BU,HT.Jw,mq h];exact iQ (by rw[fY];exact dq _)
def uY(l:pR)(V:qJ):Prop:=∀z∈l.nm,(l.mT z=="turns")=Db->∃v,V.ps.find? (λp=>decide (p.1=z))=ga v/\0<=v.2/\v.2<=((l.mP z).length:Int)
def Gw{V:qJ}(h:uY l V){z:Str}(hz:z∈l.nm)(e:(l.mT z=="turns")=Db):vY (tV V.ps) (.inr z)=ga (.int (vK V z:Nat))/\vK V z<=(l.mP z).length:=by
 obtain⟨v,e1,e2,e3⟩:=h z hz e;have h1:vK V z=v.2.toNat:=by unfold vK;rw[e1];rfl
 have h2:vY (tV V.ps) (.inr z)=(V.ps.find? λp=>decide (p.1=z)).map λp=>D.int p.2:=xk (λp:Str×Int=>p.1) (λp=>D.int p.2) z V.ps;rw[h2,e1,h1];exact⟨by show ga (D.int v.2)=ga (.int (v.2.toNat:Nat));rw[Int.toNat_of_nonneg e2],by lia⟩
def Ia(a:Ad):rM:=λds M Q=>Hw λA V l c z=>ds=[.ref A.b,.str c,.str z]/\Rd a M A V l/\z∈l.nm/\Q (uK (uA l V c z)) M
def Qu(a:Ad):rM:=λds M Q=>Hw λA V l c z=>ds=[.ref A.b,.str c,.str z]/\Rd a M A V l/\z∈l.nm/\uY l V/\Q (names (vU l V c z)) M
def N0(a:Ad):rM:=λds M Q=>Hw λA V l c z=>ds=[.ref A.b,.str c,.str z]/\Rd a M A V l/\z∈l.nm/\uY l V/\Q (DD l V c z).d M
def Kl:rM:=λds M Q=>Dj λx r z=>ds=[.tup (.str x::r),.str z]/\Q (if (x=="wait")=Db then(vB.waits z).d else if (x=="break")=Db then(vB.breaks z).d else vB.barred.d) M
def qY(st:sI):T0 D:=st.map λs=>.tup [.str s.1,uK s.2]
def LW(a:Ad):rM:=λds M Q=>Tv λA V l c z r way=>ds=[.ref A.b,.str c,.str z,.ref r]/\Rd a M A V l/\z∈l.nm/\uY l V/\om M r=ga (List.map D.str way)/\way.length<=8000000/\∀q M',qO M M'->M q=Fa->om M' q=ga (qY (uR l V c z way).2)->Q (.tup [(uR l V c z way).1.d,.ref q]) M'
def zO{V:qJ}{f:Wi->Bool}{i:Nat}(h:i∈HD l V f):∃w,l.mQ[i]?=ga w/\f w.2=Db:=by
 have h:=(fA.mp h).2;rw[dU]at h;cases e:l.mQ[i]? with
 | none=>rw[e]at h;cases h.2
 | some w=>rw[e]at h;exact⟨w,Z',h.2⟩
def Gh(l:pR)(way:QQQ):Nat:=(l.nm.filter λx=>!(hasS way x)).length
def Ah{l:pR}{z:Str}(hz:z∈l.nm)(h:hasS way z=pc):Gh l (way++[z])<Gh l way:=by
 unfold Gh;have e:(l.nm.filter λx=>!(hasS (way++[z]) x))=(l.nm.filter λx=>!(hasS way x)).filter λx=>!(x==z):=by rw[List.filter_filter];refine lH λx _=>?_;unfold hasS;rw[mo];show(!(way.any (·==x)||((z==x)||false)))=_;rw[kE,Bool.not_or,Bool.and_comm,my]
 rw[e];refine Nat.lt_of_le_of_ne (fO _ _) λg=>?_;have:=kN.mp (List.Sublist.eq_of_length gj g) z (fA.mpr ⟨hz,by rw[h];rfl⟩);simp at this
def zT(ok:rX l){w:wm}(hw:w∈l.mQ){z y:Str}(h:Ee z w.2=.inr y):y∈l.nm:=by
 have o:=ok.wo w hw;cases e:w.2 with
 | bar _ _=>rw[e]at h;cases h
 | shut _ _=>rw[e]at h;cases h
 | always x u=>rw[e]at h o;cases h;exact ra.mp o.2.1
 | night x u f m=>rw[e]at h o;cases h;exact ra.mp o.2.1
 | busy x u=>rw[e]at h o;cases h;exact ra.mp o.2.1
 | silent x u n=>rw[e]at h o;cases h;exact ra.mp o.2.1
 | wait _=>rw[e]at h;cases h
 | breaks _=>rw[e]at h;cases h
theorem BL(x:Str):∀ss:QQQ,x∈ss->Bs (.str x) (ss.map D.str)=ga (ss.findIdx (·==x))
 | [],h=>by cases h
 | y::r,h=>by
  rw[dW,List.findIdx_cons];unfold Bs;show(if (y==x)=Db then ga 0 else(Bs (.str x) (r.map D.str)).map (·+1))=_;cases e:y==x with
  | true=>rfl
  | false=>
   rw[c9 dw];have hr:x∈r:=by
    rcases dh.mp h with g|g
    .rw[g,eL]at e;cases e
    .exact g
   rw[BL x r hr];rfl
def Iq:Fq P w K mg base 7 a.aR (Ia a):=by
 refine fq G.aR.toDG CU (λr u=>⟨_,(pH (pW 3 CU (pN (pN v0)))
 (pI (pO (qg rR Z' G.l rm (qp (qT Z' (xV (ix:=[Fa,Fa,ga 3,ga 0,ga 1,ga 2]) (N':=["i","on","wishes","board","caller","target"])) (u9 Z' G.aP (qp (pN v0))) (vg (n:=2) Z' (qI (qQ 0) (qI (qQ 1) ue))) (vF (W3.b3 (vh (ua U1) (uE (ua (BJ (R:=HU a) (pT U2 v0) (LY G) (r.mono (by first|decide|lia)) (rJ U3 v4 v5))))))) v0)))))),?_⟩)
 rintro ds M Q ⟨A,V,l,c,z,rfl,rd,hz,q⟩
 obtain⟨ph,gr,ws,YK,pr,gd,rs,i1,i2,i3,i4,i5,i6,i7,i8⟩:=rd.pl;refine pJ rd.bd.at_ (i' Z' (pJ i1 (i' Z' ?_)));refine pJ rd.bd.at_ (i' Z' (i' rd.bd.on ?_));refine JO (rest:=[ga (.ref ws),ga (.ref A.b),ga (.str c),ga (.str z)]) rd.on rd.ok.pB rd.bd.on (λi w0 ew y k hk=>?_) λp hp=>i' pS ⟨M,.new hp,q⟩;obtain⟨r,e1,e2⟩:=BK i8 ew;refine i' i4 (i' e1 (pJ e2 ⟨by cases w0.2<;>rfl,_,⟨w0.2,Z',Z'⟩,r,A,V,l,c,z,Z',e2,rd,hz,rd.ok.wo w0 (rb ew),hk⟩))
def O6:Fq P w K mg base 5 a.aS (Qu a):=by
 refine fq G.aS.toDG tW (λr u=>⟨_,(pH (pW 3 tW (qm v0 G.c.toCls G.aI (A5 G) r (sd U1 U2)))
 (pH (qa (pP u (qm (pN v0) G.h.toCls G.aJ (yw G) r (qp U2)) pL)
 (pI (pO (qg rR Z' G.l rm (qp U3))))
 pU)
 (pH (pW 4 tW (qm (pN v0) G.h.toCls G.X (uQ G) r (qp U2)))
 (pH (pW 5 tW (xO u (pN v0) U2))
 (pH (vf (i:=6) tW.nd Z' (Or.inl Z') Z' (xV (ix:=[Fa,ga 3]) (N':=["phone","free"])) (qP (ql (rS v4 (sO v5) sL) (rS v4 sL (sO v5)))) (qQ 0) (vF (pP u v0 U1)) v0)
 (pI (pO (qg rR Z' G.l rm (qp (rS v6 sL (sO pK))))))))))),?_⟩)
 rintro ds M Q ⟨A,V,l,c,z,rfl,rd,XA,nx,q⟩
 have hz:=dI;have bd:=rd.bd;have pl:=rd.pl;obtain⟨ph,gr,ws,YK,pr,gd,rs,i1,_⟩:=rd.pl;obtain⟨⟨_,tf,_⟩,_⟩:=rd.ok.of XA;refine pJ bd.at_ ⟨Z',_,⟨Z',Z'⟩,A,V,l,c,z,Z',rd,XA,λq1 M1 s1 Ye e1=>?_⟩;refine pJ (s1 _ _ bd.at_) (i' Z' (pJ (s1 _ _ i1) ⟨Z',_,⟨Z',Z'⟩,V.p,z,l,Z',pl.sub s1,?_⟩));unfold vU at q;cases e:l.mT z=="turns" with
 | false=>rw[e]at q;exact Bb (c:=!(l.mT z=="turns")) (by rw[e];rfl) (i' e1 ⟨M,s1,q⟩)
 | true=>
  obtain⟨hn,nl⟩:=Gw nx XA e;generalize vK V z=n at hn nl q;rw[e,de Z']at q;refine Lv (c:=!(l.mT z=="turns")) (by rw[e];rfl) ?_;refine pJ (s1 _ _ bd.at_) (i' Z' (pJ (s1 _ _ i1) ⟨Z',_,⟨Z',Z'⟩,V.p,z,l,Z',pl.sub s1,λq2 Zv=>?_⟩));have s2:=s1.trans (qO.new (c:=.lst ((l.mP z).map D.str)) Zv);have c2:=@pS M1 q2 ((l.mP z).map D.str);have e2:=(qO.new (c:=.lst ((l.mP z).map D.str)) Zv).lst e1;generalize pQ M1 q2 (.lst ((l.mP z).map D.str))=M2 at s2 c2 e2 ⊢;refine pJ (s2 _ _ bd.at_) (i' Z' (i' Z' (i' (s2.dk bd.nx) (i' hn ?_))));refine i' c2 λq3 hq3=>?_;rw[Cw _ n (by rw[cV];exact nl),<-ir];have t3:=qO.new (c:=.lst (((l.mP z).drop n).map D.str)) hq3;have c3':=@pS M2 q3 (((l.mP z).drop n).map D.str);generalize pQ M2 q3 (.lst (((l.mP z).drop n).map D.str))=M3 at t3 c3' ⊢;refine i' (t3.lst c2) λq4 hq4=>?_;rw[B',<-iT];obtain⟨M4,e0,t4,c4⟩:=uT (ds:=((l.mP z).take n).map D.str) hq4;rw[<-e0];refine i' (t4.lst c3') (i' c4 ?_);refine⟨by rw[cV,cV,fY,eF];lia,λq5 hq5=>i' pS ?_⟩;rw[<-dN];have t5:=qO.new (c:=.lst ((tN (l.mP z) n).map D.str)) hq5;have c5:=@pS M4 q5 ((tN (l.mP z) n).map D.str);show vJ _ _ _ _ _ ((tN (l.mP z) n).map D.str) _ _ (pQ M4 q5 (.lst ((tN (l.mP z) n).map D.str)));generalize pQ M4 q5 (.lst ((tN (l.mP z) n).map D.str))=M5 at t5 c5 ⊢;have s5:=t3.trans (t4.trans t5);have e5:=s5.lst e2;have tl:(tN (l.mP z) n).length<=200:=by unfold tN;rw[cX,fY,eF];lia
  refine ui (f:=id) (t:=λd=>inD d ((uP l V c z).map D.str)) c5 _ [] _ (by rw[cV];simp only[dF];lia) (λd hd k hk=>?_) (λd hd _ k hk=>?_) λq6 hq6=>?_
  .obtain⟨x,hx,rfl⟩:=dD.mp hd;exact i' e5 ⟨Z',qE _,hk⟩
  .obtain⟨x,hx,rfl⟩:=dD.mp hd;exact hk
  .have ef:[]++(List.filter (λd=>inD d ((uP l V c z).map D.str)) ((tN (l.mP z) n).map D.str)).map id=((tN (l.mP z) n).filter λx=>hasS (uP l V c z) x).map D.str:=by
    rw[dZ,jn,hW];have:((λd=>inD d ((uP l V c z).map D.str))∘D.str)=λx=>hasS (uP l V c z) x:=by funext x;exact sP _ _
    rw[this]
   rw[ef];refine i' pS λq7 hq7=>i' pS ?_;rw[show L3.vj (((tN (l.mP z) n).filter λx=>hasS (uP l V c z) x).map D.str) Fa (ga (1:Int))=(((tN (l.mP z) n).filter λx=>hasS (uP l V c z) x).take 1).map D.str from(B' _ 1).trans (iT).symm];exact⟨M,s2.trans (s5.trans ((qO.new hq6).trans (.new hq7))),q⟩
def LG:Fq P w K mg base 6 a.aT (N0 a):=by
 refine fq G.aT.toDG vL (λr u=>⟨_,(pH (pW 3 vL (pV (O6 G) r G.aS (rJ v0 U1 U2)))
 (pH (qa (pP u (qc qC Z' G.g qB (qp U3)) pK)
 (pI (pO (pX (sd pL U2))))
 pU)
 (pI (pO (pX (rJ pL U2 U3)))))),?_⟩)
 rintro ds M Q ⟨A,V,l,c,z,rfl,rd,hz,nx,q⟩
 refine⟨A,V,l,c,z,Z',rd,hz,nx,?_⟩;unfold DD at q;cases e:vU l V c z with
 | nil=>rw[e]at q;exact⟨pE Z',M,.refl,q⟩
 | cons x r=>rw[e]at q;exact⟨pE Z',M,.refl,q⟩
def Ka:Fq P w K mg base 1 a.aU Kl:=by
 refine fq G.aU.toDG AK (λr u=>⟨_,(pH (qa (pP u (pT v0 pK) pL)
 (pI (pO (pX (sd pL U1))))
 pU)
 (pH (qa (pP u (pT v0 pK) pL)
 (pI (pO (pX (sd pL U1))))
 pU)
 (pI (pO (pX (qp pL)))))),?_⟩)
 rintro ds M Q ⟨x,r,z,rfl,q⟩
 refine i' (vW _ _) (qD (c:=x=="wait") (λg=>?_) (λg=>?_))
 .rw[de g]at q;exact⟨pE Z',M,.refl,q⟩
 rw[c9 g]at q;refine i' (vW _ _) (qD (c:=x=="break") (λg=>?_) (λg=>?_))
 .rw[de g]at q;exact⟨pE Z',M,.refl,q⟩
 rw[c9 g]at q;exact⟨pE Z',M,.refl,q⟩
def CQ:Fq P w K mg base 8 a.J (LW a):=by
 refine fq G.J.toDG xm (λr u=>⟨_,(pH (pW 4 xm (qg sv Z' G.m rV (qp U3)))
 (pH (pW 5 xm (qX sH))
 (pH (L4 eW (pP u U2 v4)
 (pH (pY (qW v4 (qp U2)))
 (pH (pW 6 xm (pV (Iq G) r G.aR (rJ v0 U1 U2)))
 (pH (pY (qW v5 (qp (pX (sd U2 v6)))))
 (pH (qa (pP u (qc qC Z' G.g qB (qp v6)) pK)
 (pI (pO (pX (sd (pV (LG G) r G.aT (rJ v0 U1 U2)) v5))))
 pU)
 (pH (pW 7 xm (CJ (R:=JW a) (pT (pN (pN v0)) (pT v6 pK)) (P6 G) (r.mono (by first|decide|lia))))
 (pH (qa (pP u (pT v7 pK) pL)
 (pI (pO (pX (sd (pV (Ka G) r G.aU (sd v7 U2)) v5))))
 pU)
 (pI (pW 2 xm (pT v7 pK))))))))))
 (pI (pO (pX (sd (pX (sd pL (qg rR Z' G.l rm (qp (rS v4 (sO (wG v4 (qp U2))) sL))))) v5))))))),?_⟩)
 rintro ds M Q ⟨A,V,l,c,z0,r,Yv,rfl,rd,hz0,nx,hr0,hw0,q⟩
 have hz:=dI;have p8:=rd.ok.p8;have g3:=rd.ok.g3;have nl:l.nm.length<=11:=by unfold pR.nm pR.pn pR.gn;rw[cX,cV,cV];lia
 refine i' hr0 λp1 YS=>⟨pE Z',λp2 Xh=>?_⟩;have t1:=qO.new (c:=.lst (Yv.map D.str)) YS;have t2:=qO.new (c:=.lst []) Xh;have c1:om (pQ (pQ M p1 (.lst (Yv.map D.str))) p2 (.lst [])) p1=ga (Yv.map D.str):=t2.lst pS;have c2:=@pS (pQ M p1 (.lst (Yv.map D.str))) p2 [];have n12:p2≠p1:=λy=>by rw[y,qd]at Xh;cases Xh
 have m2:M p2=Fa:=t1.none Xh;have s2:=t1.trans t2;generalize pQ (pQ M p1 (.lst (Yv.map D.str))) p2 (.lst [])=M2 at c1 c2 s2 ⊢;refine⟨λm U M'=>∃z way st,qO M M'/\om M' p1=ga (List.map D.str way)/\om M' p2=ga (qY st)/\z∈l.nm/\Gh l way<m/\way.length+m<=8000012/\st.length+m<=100/\sS l V c m z way st=uR l V c z0 Yv/\∃y6 y7,U=[ga (.ref A.b),ga (.str c),ga (.str z),ga (.ref r),ga (.ref p1),ga (.ref p2),y6,y7],⟨l.nm.length+1,z0,Yv,[],s2,c1,c2,hz0,lJ (fO _ _),by lia,by show 0+(l.nm.length+1)<=100;lia,Z',Fa,Fa,Z'⟩,?_⟩
 rintro m U M' ⟨z,way,st,sM,l1,l2,XA,Xn,hwl,Zp,er,y6,y7,rfl⟩
 obtain⟨m,rfl⟩:∃k,m=k+1:=⟨m - 1,by lia⟩;have q2:∀Xb,qO M Xb->om Xb p2=ga (qY (sS l V c (m+1) z way st).2)->Q (.tup [(sS l V c (m+1) z way st).1.d,.ref p2]) Xb:=λXb s ll=>by rw[er]at ll ⊢;exact q p2 Xb s m2 ll
 clear q;unfold sS at er q2;refine i' l1 ⟨Z',qE way,?_⟩;show if (!(inD (.str z) (way.map D.str)))=Db then _ else _
 rw[sP];refine qD (c:=!(hasS way z)) (λh1=>?_) (λh1=>?_)
 rotate_left
 .
  have h1:hasS way z=Db:=by simpa using h1
  rw[de h1]at q2;refine⟨by show(om M' p1).isSome=Db;rw[l1];rfl,i' l1 ⟨Z',qE _,i' (BL z way (ra.mp h1)) (i' l1 λp3 YJ=>?_)⟩⟩;have ZN:way.findIdx (·==z)<=(way.map D.str).length:=by rw[cV];exact j9
  rw[Cw _ _ ZN,<-ir];refine i' pS ⟨pE Z',pE Z',_,.refl,q2 _ (sM.trans (.new YJ)) ((qO.new YJ).lst l2)⟩
 have h1:hasS way z=pc:=by simpa using h1
 rw[h1,c9 dw]at er q2;refine⟨by show(om M' p1).isSome=Db;rw[l1];rfl,i' l1 ⟨by rw[cV];lia,?_⟩⟩;have k3:se p1 M' (pQ M' p1 (.lst (way.map D.str++[D.str z]))):=.put;have s3:qO M (pQ M' p1 (.lst (way.map D.str++[D.str z]))):=λx d hx=>by rw[tj (Jm hx YS)];exact sM x d hx
 have c3:=k3.lst n12 l2;have l3:om (pQ M' p1 (.lst (way.map D.str++[D.str z]))) p1=ga ((way++[z]).map D.str):=by rw[pS,dN];rfl
 generalize pQ M' p1 (.lst (way.map D.str++[D.str z]))=M3 at s3 c3 l3 ⊢;refine⟨A,V,l,c,z,Z',rd.sub s3,XA,?_⟩;generalize hf:uA l V c z=fs at er q2 ⊢;refine⟨by show(om M3 p2).isSome=Db;rw[c3];rfl,pE Z',i' c3 ⟨by unfold qY;rw[cV];lia,?_⟩⟩;have es:qY st++[.tup [.str z,uK fs]]=qY (st++[(z,fs)]):=by unfold qY;rw[dN];rfl
 rw[es];have s4:qO M (pQ M3 p2 (.lst (qY (st++[(z,fs)])))):=λx d hx=>by rw[tj (Jm hx m2)];exact s3 x d hx
 have c4:=@pS M3 p2 (qY (st++[(z,fs)]));have l4:om (pQ M3 p2 (.lst (qY (st++[(z,fs)])))) p1=ga ((way++[z]).map D.str):=se.lst .put (dQ n12) l3;generalize pQ M3 p2 (.lst (qY (st++[(z,fs)])))=M4 at s4 c4 l4 ⊢;cases fs with
 | nil=>exact⟨A,V,l,c,z,Z',rd.sub s4,XA,nx,pE Z',M4,.refl,q2 M4 s4 c4⟩
 | cons i fr=>
  obtain⟨w0,ew,_⟩:=zO (l:=l) (V:=V) (f:=xh l V c z) (i:=i) (by show i∈uA l V c z;rw[hf];exact dO);dsimp only at er q2;rw[ew]at er q2;dsimp only[Option.elim]at er q2;obtain⟨ph,gr,ws,YK,pr,gd,rs,i1,i2,i3,i4,i5,i6,i7,i8⟩:=(rd.sub s4).pl;obtain⟨ZO,e1,e2⟩:=BK i8 ew;have hwo:=rd.ok.wo w0 (rb ew);have ZP:∀y,Ee z w0.2=.inr y->y∈l.nm:=λy h=>zT rd.ok (rb ew) h;refine pJ (s4 _ _ rd.bd.at_) (i' Z' (pJ i1 (i' Z' (i' (vW _ _) (i' i4 (i' e1 ?_))))));cases hv:w0.2 with
  | bar x ns=>rw[hv]at q2 e2;exact pJ e2 ⟨Z',_,.inl ⟨.inl Z',Z'⟩,ZO,Z',⟨"end",[],z,Z',pE Z',M4,.refl,q2 M4 s4 c4⟩⟩
  | shut x ns=>rw[hv]at q2 e2;exact pJ e2 ⟨Z',_,.inl ⟨.inr Z',Z'⟩,ZO,Z',⟨"end",[],z,Z',pE Z',M4,.refl,q2 M4 s4 c4⟩⟩
  | wait x=>rw[hv]at q2 e2;exact pJ e2 ⟨Z',_,.inr (.inr (.inl ⟨Z',Z'⟩)),ZO,_,_,_,Z',e2,Z',⟨"wait",_,z,Z',pE Z',M4,.refl,q2 M4 s4 c4⟩⟩
  | breaks x=>rw[hv]at q2 e2;exact pJ e2 ⟨Z',_,.inr (.inr (.inr ⟨Z',Z'⟩)),ZO,Z',⟨"break",_,z,Z',pE Z',M4,.refl,q2 M4 s4 c4⟩⟩
  | always x y=>rw[hv]at er e2 ZP;exact pJ e2 ⟨Z',_,.inr (.inl ⟨.inl Z',Z'⟩),ZO,_,_,_,Z',e2,Z',⟨m,fR _,y,way++[z],st++[(z,i::fr)],s4,l4,c4,ZP y Z',by have:=Ah XA h1;lia,by rw[cX];show way.length+1+m<=_;lia,by rw[cX];show st.length+1+m<=_;lia,er,_,_,Z'⟩⟩
  | night x y f mm=>rw[hv]at er e2 ZP;exact pJ e2 ⟨Z',_,.inr (.inl ⟨.inr (.inl Z'),Z'⟩),ZO,_,_,_,Z',e2,Z',⟨m,fR _,y,way++[z],st++[(z,i::fr)],s4,l4,c4,ZP y Z',by have:=Ah XA h1;lia,by rw[cX];show way.length+1+m<=_;lia,by rw[cX];show st.length+1+m<=_;lia,er,_,_,Z'⟩⟩
  | busy x y=>rw[hv]at er e2 ZP;exact pJ e2 ⟨Z',_,.inr (.inl ⟨.inr (.inr (.inl Z')),Z'⟩),ZO,_,_,_,Z',e2,Z',⟨m,fR _,y,way++[z],st++[(z,i::fr)],s4,l4,c4,ZP y Z',by have:=Ah XA h1;lia,by rw[cX];show way.length+1+m<=_;lia,by rw[cX];show st.length+1+m<=_;lia,er,_,_,Z'⟩⟩
  | silent x y n=>rw[hv]at er e2 ZP;exact pJ e2 ⟨Z',_,.inr (.inl ⟨.inr (.inr (.inr Z')),Z'⟩),ZO,_,_,_,Z',e2,Z',⟨m,fR _,y,way++[z],st++[(z,i::fr)],s4,l4,c4,ZP y Z',by have:=Ah XA h1;lia,by rw[cX];show way.length+1+m<=_;lia,by rw[cX];show st.length+1+m<=_;lia,er,_,_,Z'⟩⟩
noncomputable def yU(V:qJ)(i:Nat)(c:pM):qJ:={V with calls:=V.calls.set i c}
def sW(V:qJ)(i:Nat)(c d:pM):yU (yU V i c) i d=yU V i d:=by unfold yU;rw[jP]
structure CI(a:Ad)(M:Mp)(A:uj)(V:qJ)(i:Nat)(k:r6)(c:pM):Prop where
 bd:pZ a M A V
 e1:A.cs[i]?=ga k
 e2:V.calls[i]?=ga c
noncomputable def cF(x:Str)(wy ad md:Uf)(k:Nat):T0 (Str×D):=List.take (α:=Str×D) k [("state",.str "rings"),("caller",.str x),("way",.ref wy),("at",.ref ad),("members",.ref md),("holder",.mW),("since",.int 0)]
variable {M':Mp}{i:Nat}{k:r6}
section
variable {c:pM}
def CI.cell(h:CI a M A V i k c):sA a M (A.lists++V.fo) k c:=h.bd.cs i k c h.e1 h.e2
def CI.sub(h:CI a M A V i k c)(s:qO M M'):CI a M' A V i k c:=⟨h.bd.sub s,h.e1,h.e2⟩
def CI.put(h:CI a M A V i k c)(c':pM){ad md:Uf}(ew:c'.way=c.way)(la:om M ad=ga (c'.at_.map D.str))(lm:om M md=ga (c'.ms.map D.str))(na:ad∉A.lists++V.fo)(nm:md∉A.lists++V.fo):
  CI a (pQ M k.p (.ins a.e (rN c' k.wy ad md))) A (yU V i c') i k c'/\rE A M A (pQ M k.p (.ins a.e (rN c' k.wy ad md))):=by
 obtain⟨b,s⟩:=h.bd.oA h.e1 h.e2 ew la lm na nm;refine⟨⟨b,h.e1,?_⟩,s⟩;show(V.calls.set i c')[i]?=ga c';rw[fK (cZ.mp h.e2).1]
end
inductive Q7(i:Nat)(c:pM):Ev->pM->Prop
 | rings (ps:QQQ):Q7 i c (.rings i ps) (c.ring ps)
 | quiet:Q7 i c (.quiet i) c.nS
 | waits (x:Str):Q7 i c (.waits i x) (c.wait x)
 | talks (ms:QQQ):Q7 i c (.talks i ms) (c.nN ms)
 | held (x:Str):Q7 i c (.held i x) (c.hold x)
 | leaves (x:Str):Q7 i c (.leaves i x) (c.drop x)
 | over (w:Str):Q7 i c (.over i w) (c.over w)
def Hd(a:Ad):rM:=λds M Q=>BQ λp x=>ds=[.ref p,.str x]/\M p=ga (.ins a.e [])/\∀M' wy ad md,se p M M'->M wy=Fa->M ad=Fa->M md=Fa->ad≠wy->md≠wy->M' p=ga (.ins a.e (rN (zV x) wy ad md))->om M' wy=ga []->om M' ad=ga []->om M' md=ga []->Q .mW M'
def Qm(a:Ad):rM:=λds M Q=>K2 λA V i k c w=>ds=[.ref k.p,.str w]/\CI a M A V i k c/\∀M',rE A M A M'->pZ a M' A (yU V i (c.over w))->Q .mW M'
def Nc(a:Ad):rM:=λds M Q=>K2 λA V i k c x=>ds=[.ref k.p,.str x]/\CI a M A V i k c/\c.at_.length<=100/\c.ms.length<=100/\∀M',rE A M A M'->pZ a M' A (yU V i (c.drop x))->Q .mW M'
def Ku(a:Ad):rM:=λds M Q=>Tv λA V i k c e c'=>ds=[.ref k.p,Ev.d e]/\CI a M A V i k c/\c.at_.length<=100/\c.ms.length<=100/\Q7 i c e c'/\∀M',rE A M A M'->pZ a M' A (yU V i c')->Q .mW M'
def Of:Fq P w K mg base 1 a.aF (Hd a):=by
 refine fq G.aF.toDG FM (λr u=>⟨_,(pH (qv v0 pL)
 (pH (qv v0 U1)
 (pH (qv v0 (qX sH))
 (pH (qv v0 (qX sH))
 (pH (qv v0 (qX sH))
 (pH (qv v0 tw)
 (pH (qv v0 pK)
 (pI (qv v0 tw))))))))),?_⟩)
 rintro ds M Q ⟨p,x,rfl,hb,q⟩
 refine pJ hb ⟨(G.j "state" Z'),by show 0<1000;decide,?_⟩;have k1:se p M (pQ M p (.ins a.e [("state",.str "rings")])):=.put;have b1:pQ M p (.ins a.e [("state",.str "rings")]) p=ga (.ins a.e [("state",.str "rings")]):=qd;show va _ _ _ _ (pQ M p (.ins a.e [("state",.str "rings")]));generalize pQ M p (.ins a.e [("state",.str "rings")])=N1 at k1 b1 ⊢;refine pJ b1 ⟨(G.j "caller" Z'),by show 1<1000;decide,?_⟩;have k2:=k1.trans (se.put (p:=p) (c:=.ins a.e [("state",.str "rings"),("caller",.str x)]));have b2:pQ N1 p (.ins a.e [("state",.str "rings"),("caller",.str x)]) p=ga (.ins a.e [("state",.str "rings"),("caller",.str x)]):=qd;show va _ _ _ _ (pQ N1 p (.ins a.e [("state",.str "rings"),("caller",.str x)]));generalize pQ N1 p (.ins a.e [("state",.str "rings"),("caller",.str x)])=N2 at k2 b2 ⊢;refine⟨pE Z',λwy hwy=>?_⟩;obtain⟨n3,e3,k3,c3,b3⟩:=tR (fs':=(cF x wy 0 0 3)) (c:=.lst []) b2 hwy;refine pJ e3 ⟨(G.j "way" Z'),by show 2<1000;decide,?_⟩;show va _ _ _ _ (pQ (pQ N2 wy (.lst [])) p (.ins a.e (cF x wy 0 0 3)));generalize pQ (pQ N2 wy (.lst [])) p (.ins a.e (cF x wy 0 0 3))=N3 at k3 c3 b3 ⊢;have z1:M wy=Fa:=sy k2 b2 hwy;have kk3:=k2.trans k3;have l3:om N3 wy=ga []:=tH c3;refine⟨pE Z',λad Zt=>?_⟩;obtain⟨n4,e4,k4,c4,b4⟩:=tR (fs':=(cF x wy ad 0 4)) (c:=.lst []) b3 Zt;refine pJ e4 ⟨(G.j "at" Z'),by show 3<1000;decide,?_⟩;show va _ _ _ _ (pQ (pQ N3 ad (.lst [])) p (.ins a.e (cF x wy ad 0 4)));generalize pQ (pQ N3 ad (.lst [])) p (.ins a.e (cF x wy ad 0 4))=N4 at k4 c4 b4 ⊢;have z2:M ad=Fa:=sy kk3 b3 Zt;have Ze:=kk3.trans k4;have naw:ad≠wy:=λz=>by rw[z,c3]at Zt;cases Zt
 have l4:=k4.lst (qk l3 b3) l3;have m4:om N4 ad=ga []:=tH c4;refine⟨pE Z',λmd hmd=>?_⟩;obtain⟨n5,e5,k5,c5,b5⟩:=tR (fs':=(cF x wy ad md 5)) (c:=.lst []) b4 hmd;refine pJ e5 ⟨(G.j "members" Z'),by show 4<1000;decide,?_⟩;show va _ _ _ _ (pQ (pQ N4 md (.lst [])) p (.ins a.e (cF x wy ad md 5)));generalize pQ (pQ N4 md (.lst [])) p (.ins a.e (cF x wy ad md 5))=N5 at k5 c5 b5 ⊢;have z3:M md=Fa:=sy Ze b4 hmd;have Zf:=Ze.trans k5;have nmw:md≠wy:=λz=>by rw[z,qx l4]at hmd;cases hmd
 have l5:=k5.lst (qk l4 b4) l4;have m5:=k5.lst (qk m4 b4) m4;have o5:om N5 md=ga []:=tH c5;refine pJ b5 ⟨(G.j "holder" Z'),by show 5<1000;decide,?_⟩;have k6:se p N5 (pQ N5 p (.ins a.e (cF x wy ad md 6))):=.put;have b6:pQ N5 p (.ins a.e (cF x wy ad md 6)) p=ga (.ins a.e (cF x wy ad md 6)):=qd;show va _ _ _ _ (pQ N5 p (.ins a.e (cF x wy ad md 6)));generalize pQ N5 p (.ins a.e (cF x wy ad md 6))=N6 at k6 b6 ⊢;refine pJ b6 ⟨(G.j "since" Z'),by show 6<1000;decide,?_⟩;have k7:=k6.trans (se.put (p:=p) (c:=.ins a.e (cF x wy ad md 7)));have b7:pQ N6 p (.ins a.e (cF x wy ad md 7)) p=ga (.ins a.e (cF x wy ad md 7)):=qd;rw[show wU "since" (.int 0) (cF x wy ad md 6)=(cF x wy ad md 7)from Z'];generalize pQ N6 p (.ins a.e (cF x wy ad md 7))=N7 at k7 b7 ⊢;refine pJ b7 ⟨(G.j "word" Z'),by show 7<1000;decide,_,.refl,?_⟩;have k8:=k7.trans (se.put (p:=p) (c:=.ins a.e (rN (zV x) wy ad md)));exact q _ wy ad md (Zf.trans k8) z1 z2 z3 naw nmw qd (k8.lst (qk l5 b5) l5) (k8.lst (qk m5 b5) m5) (k8.lst (qk o5 b5) o5)
def Ja:Fq P w K mg base 1 a.ab (Qm a):=by
 refine fq G.ab.toDG Hq (λr u=>⟨_,(pH (qv v0 pL)
 (pH (qv v0 U1)
 (pH (qv v0 (qX sH))
 (pH (qv v0 (qX sH))
 (pI (qv v0 tw)))))),?_⟩)
 rintro ds M Q ⟨A,V,i,k,c,w0,rfl,h,q⟩
 obtain⟨ad,md,h1,h2,h3,h4,n1,n2⟩:=h.cell;refine pJ h1 ⟨(G.j "state" Z'),by show 8<1000;decide,?_⟩;obtain⟨g1,s1⟩:=h.put {c with st:="over"} Z' h3 h4 n1 n2;show va _ _ _ _ (pQ M k.p (.ins a.e (rN {c with st:="over"} k.wy ad md)));generalize pQ M k.p (.ins a.e (rN {c with st:="over"} k.wy ad md))=M1 at g1 s1 ⊢;clear h1 h2 h3 h4 n1 n2;obtain⟨ad,md,h1,h2,h3,h4,n1,n2⟩:=g1.cell;refine pJ h1 ⟨(G.j "word" Z'),by show 8<1000;decide,?_⟩;obtain⟨g2,s2⟩:=g1.put {c with st:="over",wd:=some w0} Z' h3 h4 n1 n2;show va _ _ _ _ (pQ M1 k.p (.ins a.e (rN {c with st:="over",wd:=some w0} k.wy ad md)));generalize pQ M1 k.p (.ins a.e (rN {c with st:="over",wd:=some w0} k.wy ad md))=M2 at g2 s2 ⊢;clear h1 h2 h3 h4 n1 n2;refine⟨pE Z',λp hp=>?_⟩;have t3:=qO.new (c:=.lst []) hp;have lp:=@pS M2 p [];have np:=g2.bd.nF hp;have ZQ:=g2.sub t3;have s2':=s2.trans (.sub t3);generalize pQ M2 p (.lst [])=M2' at t3 lp ZQ s2' ⊢;obtain⟨ad,md,h1,h2,h3,h4,n1,n2⟩:=ZQ.cell;refine pJ h1 ⟨(G.j "at" Z'),by show 8<1000;decide,?_⟩;obtain⟨g3,s3⟩:=ZQ.put {c with st:="over",wd:=some w0,at_:=[]} Z' lp h4 np n2;show va _ _ _ _ (pQ M2' k.p (.ins a.e (rN {c with st:="over",wd:=some w0,at_:=[]} k.wy p md)));generalize pQ M2' k.p (.ins a.e (rN {c with st:="over",wd:=some w0,at_:=[]} k.wy p md))=M3 at g3 s3 ⊢;clear h1 h2 h3 h4 n1 n2 lp t3 np g2 ZQ;refine⟨pE Z',λp2 Xh=>?_⟩;have t4:=qO.new (c:=.lst []) Xh;have lp:=@pS M3 p2 [];have np:=g3.bd.nF Xh;have ZR:=g3.sub t4;have s3':=s3.trans (.sub t4);generalize pQ M3 p2 (.lst [])=M3' at t4 lp ZR s3' ⊢;obtain⟨ad,md,h1,h2,h3,h4,n1,n2⟩:=ZR.cell;refine pJ h1 ⟨(G.j "members" Z'),by show 8<1000;decide,?_⟩;obtain⟨g4,s4⟩:=ZR.put {c with st:="over",wd:=some w0,at_:=[],ms:=[]} Z' h3 lp n1 np;rw[show wU "members" (.ref p2) (rN {c with st:="over",wd:=some w0,at_:=[]} k.wy ad md)=rN {c with st:="over",wd:=some w0,at_:=[],ms:=[]} k.wy ad p2 from rfl];generalize pQ M3' k.p (.ins a.e (rN {c with st:="over",wd:=some w0,at_:=[],ms:=[]} k.wy ad p2))=M4 at g4 s4 ⊢;clear h1 h2 h3 h4 n1 n2 lp t4 np g3 ZR;obtain⟨ad,md,h1,h2,h3,h4,n1,n2⟩:=g4.cell;refine pJ h1 ⟨(G.j "holder" Z'),by show 8<1000;decide,_,.refl,?_⟩;obtain⟨g5,s5⟩:=g4.put (c.over w0) Z' h3 h4 n1 n2;refine q _ ((s1.trans s2').trans (s3'.trans (s4.trans s5))) ?_;have:=g5.bd;rw[sW,sW,sW,sW]at this;exact this
def LB:Fq P w K mg base 1 a.aV (Nc a):=by
 refine fq G.aV.toDG Dp (λr u=>⟨_,(pH (qv v0 (qT Z' (xV (ix:=[Fa,ga 1]) (N':=["other","phone"])) (qP (pN v0)) (qQ 0) (vF (pP u v0 U1)) v0))
 (pI (qv v0 (qT Z' (xV (ix:=[Fa,ga 1]) (N':=["other","phone"])) (qP (pN v0)) (qQ 0) (vF (pP u v0 U1)) v0)))),?_⟩)
 rintro ds M Q ⟨A,V,i,k,c,x,rfl,h,la,lm,q⟩
 have hz:=dI;obtain⟨ad,md,h1,h2,h3,h4,n1,n2⟩:=h.cell;refine pJ h1 (i' Z' (i' h3 (ui (f:=id) (t:=OB x) h3 _ [] _ (by rw[cV];simp only[dF];lia) (λd hd k0 hk=>?_) (λd hd _ k0 hk=>?_) λp hp=>?_)))
 .obtain⟨y,hy,rfl⟩:=dD.mp hd;exact hk
 .obtain⟨y,hy,rfl⟩:=dD.mp hd;exact hk
 rw[B9];obtain⟨M1,e0,t1,lp⟩:=uT (ds:=(tD c.at_ x).map D.str) hp;rw[<-e0];have np:=h.bd.nF hp;have h':=h.sub t1;have s1:rE A M A M1:=.sub t1;clear h1 h2 h3 h4 n1 n2;obtain⟨ad,md,h1,h2,h3,h4,n1,n2⟩:=h'.cell;refine pJ h1 ⟨(G.j "at" Z'),by show 8<1000;decide,?_⟩;obtain⟨g2,s2⟩:=h'.put {c with at_:=tD c.at_ x} Z' lp h4 np n2;rw[show wU "at" (.ref p) (rN c k.wy ad md)=rN {c with at_:=tD c.at_ x} k.wy p md from rfl];generalize pQ M1 k.p (.ins a.e (rN {c with at_:=tD c.at_ x} k.wy p md))=M2 at g2 s2 ⊢;clear h1 h2 h3 h4 n1 n2 lp np;obtain⟨ad,md,h1,h2,h3,h4,n1,n2⟩:=g2.cell;refine pJ h1 (i' Z' (i' h4 (ui (f:=id) (t:=OB x) h4 _ [] _ (by rw[cV];simp only[dF];show 0+c.ms.length<=Ch;lia) (λd hd k0 hk=>?_) (λd hd _ k0 hk=>?_) λp2 Xh=>?_)))
 .obtain⟨y,hy,rfl⟩:=dD.mp hd;exact hk
 .obtain⟨y,hy,rfl⟩:=dD.mp hd;exact hk
 rw[B9];obtain⟨M3,e0,t3,lp⟩:=uT (ds:=(tD c.ms x).map D.str) Xh;rw[<-e0];have np:=g2.bd.nF Xh;have ZQ:=g2.sub t3;have s3:rE A M2 A M3:=.sub t3;clear h1 h2 h3 h4 n1 n2;obtain⟨ad,md,h1,h2,h3,h4,n1,n2⟩:=ZQ.cell;refine pJ h1 ⟨(G.j "members" Z'),by show 8<1000;decide,_,.refl,?_⟩;obtain⟨g4,s4⟩:=ZQ.put (c.drop x) Z' h3 lp n1 np;refine q _ ((s1.trans s2).trans (s3.trans s4)) ?_;have:=g4.bd;rw[sW]at this;exact this
def KS:Fq P w K mg base 2 a.aW (Ku a):=by
 refine fq G.aW.toDG ya (λr u=>⟨_,(pH (pW 2 ya (pT U1 pK))
 (pI (qa (pP u U2 pL)
 (pH (qv v0 pL)
 (pH (qv v0 (qg sv Z' G.m rV (qp (pT U1 pK))))
 (pI (qv v0 pK))))
 (pI (qa (pP u U2 pL)
 (pI (qv v0 (qX sH)))
 (pI (qa (pP u U2 pL)
 (pH (qv v0 pL)
 (pI (qv v0 (qX (qp (pT U1 pK))))))
 (pI (qa (pP u U2 pL)
 (pH (qv v0 pL)
 (pH (qv v0 (qg sv Z' G.m rV (qp (pT U1 pK))))
 (pH (qv v0 (qX sH))
 (pI (qv v0 tw)))))
 (pI (qa (pP u U2 pL)
 (pH (qv v0 pL)
 (pI (qv v0 (pT U1 pK))))
 (pI (qa (pP u U2 pL)
 (pI (pY (pV (LB G) r G.aV (sd v0 (pT U1 pK)))))
 (pI (qa (pP u U2 pL)
 (pI (pY (pV (Ja G) r G.ab (sd v0 (pT U1 pK)))))
 pU))))))))))))))),?_⟩)
 rintro ds M Q ⟨A,V,i,k,c,e,c',rfl,h,la,lm,hc,q⟩
 cases hc with
 | over w0=>exact⟨A,V,i,k,c,w0,Z',h,λM' s b=>⟨M',.refl,q M' s b⟩⟩
 | leaves x=>exact⟨A,V,i,k,c,x,Z',h,la,lm,λM' s b=>⟨M',.refl,q M' s b⟩⟩
 | quiet=>refine⟨pE Z',λp hp=>?_⟩;obtain⟨M1,e0,t3,lp⟩:=uT (ds:=[]) hp;rw[<-e0];have np:=h.bd.nF hp;have g1:=h.sub t3;obtain⟨ad,md,h1,h2,h3,h4,n1,n2⟩:=g1.cell;refine pJ h1 ⟨(G.j "at" Z'),by show 8<1000;decide,_,.refl,?_⟩;obtain⟨g5,s5⟩:=g1.put c.nS Z' lp h4 np n2;exact q _ ((rE.sub t3).trans s5) g5.bd
 | waits x=>obtain⟨ad,md,h1,h2,h3,h4,n1,n2⟩:=h.cell;refine pJ h1 ⟨(G.j "state" Z'),by show 8<1000;decide,?_⟩;obtain⟨g1,s1⟩:=h.put {c with st:="waits"} Z' h3 h4 n1 n2;show va _ _ _ _ (pQ M k.p (.ins a.e (rN {c with st:="waits"} k.wy ad md)));generalize pQ M k.p (.ins a.e (rN {c with st:="waits"} k.wy ad md))=M1 at g1 s1 ⊢;clear h1 h2 h3 h4 n1 n2;refine⟨pE Z',λp hp=>?_⟩;have t3:=qO.new (c:=.lst [D.str x]) hp;have lp:=@pS M1 p [D.str x];have np:=g1.bd.nF hp;have Y5:=g1.sub t3;generalize pQ M1 p (.lst [D.str x])=M1' at t3 lp Y5 ⊢;obtain⟨ad,md,h1,h2,h3,h4,n1,n2⟩:=Y5.cell;refine pJ h1 ⟨(G.j "at" Z'),by show 8<1000;decide,_,.refl,?_⟩;obtain⟨g5,s5⟩:=Y5.put (c.wait x) Z' lp h4 np n2;refine q _ (s1.trans ((rE.sub t3).trans s5)) ?_;have:=g5.bd;rw[sW]at this;exact this
 | held x=>obtain⟨ad,md,h1,h2,h3,h4,n1,n2⟩:=h.cell;refine pJ h1 ⟨(G.j "state" Z'),by show 8<1000;decide,?_⟩;obtain⟨g1,s1⟩:=h.put {c with st:="held"} Z' h3 h4 n1 n2;show va _ _ _ _ (pQ M k.p (.ins a.e (rN {c with st:="held"} k.wy ad md)));generalize pQ M k.p (.ins a.e (rN {c with st:="held"} k.wy ad md))=M1 at g1 s1 ⊢;clear h1 h2 h3 h4 n1 n2;obtain⟨ad,md,h1,h2,h3,h4,n1,n2⟩:=g1.cell;refine pJ h1 ⟨(G.j "holder" Z'),by show 8<1000;decide,_,.refl,?_⟩;obtain⟨g5,s5⟩:=g1.put (c.hold x) Z' h3 h4 n1 n2;refine q _ (s1.trans s5) ?_;have:=g5.bd;rw[sW]at this;exact this
 | rings ps=>obtain⟨ad,md,h1,h2,h3,h4,n1,n2⟩:=h.cell;refine pJ h1 ⟨(G.j "state" Z'),by show 8<1000;decide,?_⟩;obtain⟨g1,s1⟩:=h.put {c with st:="rings"} Z' h3 h4 n1 n2;show va _ _ _ _ (pQ M k.p (.ins a.e (rN {c with st:="rings"} k.wy ad md)));generalize pQ M k.p (.ins a.e (rN {c with st:="rings"} k.wy ad md))=M1 at g1 s1 ⊢;clear h1 h2 h3 h4 n1 n2;refine λp hp=>?_;have t3:=qO.new (c:=.lst (ps.map D.str)) hp;have lp:=@pS M1 p (ps.map D.str);have np:=g1.bd.nF hp;have Y5:=g1.sub t3;have s1':=s1.trans (.sub t3);generalize pQ M1 p (.lst (ps.map D.str))=M1' at t3 lp Y5 s1' ⊢;obtain⟨ad,md,h1,h2,h3,h4,n1,n2⟩:=Y5.cell;refine pJ h1 ⟨(G.j "at" Z'),by show 8<1000;decide,?_⟩;obtain⟨g3,s3⟩:=Y5.put {c with st:="rings",at_:=ps} Z' lp h4 np n2;rw[show wU "at" (.ref p) (rN {c with st:="rings"} k.wy ad md)=rN {c with st:="rings",at_:=ps} k.wy p md from rfl];generalize pQ M1' k.p (.ins a.e (rN {c with st:="rings",at_:=ps} k.wy p md))=M3 at g3 s3 ⊢;clear h1 h2 h3 h4 n1 n2 lp t3 np;obtain⟨ad,md,h1,h2,h3,h4,n1,n2⟩:=g3.cell;refine pJ h1 ⟨(G.j "since" Z'),by show 8<1000;decide,_,.refl,?_⟩;obtain⟨g5,s5⟩:=g3.put (c.ring ps) Z' h3 h4 n1 n2;refine q _ (s1'.trans (s3.trans s5)) ?_;have:=g5.bd;rw[sW,sW]at this;exact this
 | talks ms=>obtain⟨ad,md,h1,h2,h3,h4,n1,n2⟩:=h.cell;refine pJ h1 ⟨(G.j "state" Z'),by show 8<1000;decide,?_⟩;obtain⟨g1,s1⟩:=h.put {c with st:="talks"} Z' h3 h4 n1 n2;show va _ _ _ _ (pQ M k.p (.ins a.e (rN {c with st:="talks"} k.wy ad md)));generalize pQ M k.p (.ins a.e (rN {c with st:="talks"} k.wy ad md))=M1 at g1 s1 ⊢;clear h1 h2 h3 h4 n1 n2;refine λp hp=>?_;have t3:=qO.new (c:=.lst (ms.map D.str)) hp;have lp:=@pS M1 p (ms.map D.str);have np:=g1.bd.nF hp;have Y5:=g1.sub t3;have s1':=s1.trans (.sub t3);generalize pQ M1 p (.lst (ms.map D.str))=M1' at t3 lp Y5 s1' ⊢;obtain⟨ad,md,h1,h2,h3,h4,n1,n2⟩:=Y5.cell;refine pJ h1 ⟨(G.j "members" Z'),by show 8<1000;decide,?_⟩;obtain⟨g3,s3⟩:=Y5.put {c with st:="talks",ms:=ms} Z' h3 lp n1 np;show va _ _ _ _ (pQ M1' k.p (.ins a.e (rN {c with st:="talks",ms:=ms} k.wy ad p)));generalize pQ M1' k.p (.ins a.e (rN {c with st:="talks",ms:=ms} k.wy ad p))=M3 at g3 s3 ⊢;clear h1 h2 h3 h4 n1 n2 lp t3 np;refine⟨pE Z',λp2 Xh=>?_⟩;have t4:=qO.new (c:=.lst []) Xh;have lp:=@pS M3 p2 [];have np:=g3.bd.nF Xh;have ZR:=g3.sub t4;have s3':=s3.trans (.sub t4);generalize pQ M3 p2 (.lst [])=M3' at t4 lp ZR s3' ⊢;obtain⟨ad,md,h1,h2,h3,h4,n1,n2⟩:=ZR.cell;refine pJ h1 ⟨(G.j "at" Z'),by show 8<1000;decide,?_⟩;obtain⟨g4,s4⟩:=ZR.put {c with st:="talks",ms:=ms,at_:=[]} Z' lp h4 np n2;rw[show wU "at" (.ref p2) (rN {c with st:="talks",ms:=ms} k.wy ad md)=rN {c with st:="talks",ms:=ms,at_:=[]} k.wy p2 md from rfl];generalize pQ M3' k.p (.ins a.e (rN {c with st:="talks",ms:=ms,at_:=[]} k.wy p2 md))=M4 at g4 s4 ⊢;clear h1 h2 h3 h4 n1 n2 lp t4 np;obtain⟨ad,md,h1,h2,h3,h4,n1,n2⟩:=g4.cell;refine pJ h1 ⟨(G.j "holder" Z'),by show 8<1000;decide,_,.refl,?_⟩;obtain⟨g5,s5⟩:=g4.put (c.nN ms) Z' h3 h4 n1 n2;refine q _ (s1'.trans (s3'.trans (s4.trans s5))) ?_;have:=g5.bd;rw[sW,sW,sW]at this;exact this
theorem ug{α:Type}{f:α->α}:∀{l:List α} {i:Nat} {c:α},l[i]?=ga c->l.modify i f=l.set i (f c)
 | [],_,_,h=>by simp at h
 | _::_,0,_,h=>by cases h;rfl
 | x::r,i+1,c,h=>by rw[List.modify_succ_cons,lu,ug (l:=r) (by simpa using h)]
def II(ps:T0 (Str×Int))(z:Str)(n:Int):Cu (tV ps) (.inr z) (.int n)=tV (CV ps z n):=by
 have ea:((tV ps).any λkv=>decide (kv.1=(Sum.inr z:rF)))=ps.any λp=>decide (p.1=z):=by unfold tV;rw[jS];congr 1;funext p;have:((Sum.inr p.1:rF)=Sum.inr z)=(p.1=z):=propext ⟨λh=>j5 h,λh=>by rw[h]⟩;simp only[Function.comp,this]
 unfold Cu CV;rw[ea];by_cases h:(ps.any λp=>decide (p.1=z))=Db
 .rw[de h,de h];unfold tV;rw[eh,eh];refine gD λp _=>?_;by_cases hp:p.1=z
  .simp[hp]
  .have:¬(Sum.inr p.1:rF)=Sum.inr z:=λy=>hp (j5 y);simp[hp]
 .rw[c9 h,c9 h];unfold tV;rw[dN];rfl
def Gx{α:Type}{l:List α}{i:Nat}{x:α}(h:l[i]?=ga x):l.set i x=l:=by obtain⟨hi,e⟩:=cZ.mp h;rw[<-e,List.set_getElem_self]
structure WQ(V:qJ):Prop where
 lo:V.log.length<10000000
 le:V.ng.length<10000000
 ca:V.calls.length<=1000000
 ps:V.ps.length<10000000
 cs:∀c∈V.calls,c.way.length<10000000/\c.at_.length<=100/\c.ms.length<=100
def Bg(a:Ad):rM:=λds M Q=>Hw λA V k c v=>ds=[.ref A.b,tz.d v]/\CI a M A V v.i k c/\V.ng.length<10000000/\c.way.length<10000000/\∀M',rE A M A M'->pZ a M' A {yU V v.i (c.go v.g)with ng:=V.ng++[v]}->Q .mW M'
def DS(a:Ad):rM:=λds M Q=>Rw λA V i j ki ci cj ms=>ds=[.ref A.b,.int (i:Nat),.int (j:Nat),names ms]/\CI a M A V i ki ci/\V.calls[j]?=ga cj/\i≠j/\V.ng.length<10000000/\∀M' A',A'.b=A.b->rE A M A' M'->pZ a M' A' {yU (yU V i (ci.over "merged")) j (cj.mem ms)with ng:=V.ng.map (tz.to i j)}->Q .mW M'
def Ab(a:Ad):rM:=λds M Q=>BQ λA V=>ds=[.ref A.b]/\pZ a M A V/\∀M',rE A M A M'->pZ a M' A {V with t:=V.t+1,calls:=V.calls.map pM.tick}->Q .mW M'
def wN(a:Ad):rM:=λds M Q=>CO λb A V e=>ds=[.ref b,Ev.d e]/\A.b=b/\pZ a M A V/\WQ V/\e.ok V/\∀M' A',A'.b=A.b->rE A M A' M'->pZ a M' A' (qA V e)->Q .mW M'
noncomputable def Tg(m k:Nat):D->D
 | .tup (.int i::r)=>if i=(m:Int)then .tup (.int (k:Nat)::r)else .tup (.int i::r)
 | d=>d
def RF(m k:Nat)(v:tz):Tg m k v.d=(v.to m k).d:=by
 show(if ((v.i:Nat):Int)=(m:Int)then _ else _)=_;unfold tz.to;by_cases h:v.i=m
 .rw[de h,de (by rw[h])];rfl
 .rw[c9 h,c9 (by lia)];rfl
def Il:Fq P w K mg base 1 a.bH (Bg a):=by
 refine fq G.bH.toDG Ak (λr u=>⟨_,(pH (pY (qW (pN v0) (qp U1)))
 (pI (pY (qW (pN (pT (pN v0) (pT U1 pK))) (qp (pT U1 pK)))))),?_⟩)
 rintro ds M Q ⟨A,V,k,c,v,rfl,ci,l1,l2,q⟩
 have hz:=dI;have bd:=ci.bd;refine pJ bd.at_ (i' Z' ⟨by show(om M A.le).isSome=Db;rw[bd.le];rfl,i' bd.le ⟨by rw[cV];lia,?_⟩⟩);obtain⟨b1,s1⟩:=bd.oF (es:=V.ng++[v]);rw[dN]at b1 s1;have b1:pZ a (pQ M A.le (.lst (V.ng.map tz.d++[v.d]))) A {V with ng:=V.ng++[v]}:=b1;have s1:rE A M A (pQ M A.le (.lst (V.ng.map tz.d++[v.d]))):=s1;generalize pQ M A.le (.lst (V.ng.map tz.d++[v.d]))=M1 at b1 s1 ⊢;obtain⟨ad,md,h1,h2,h3,h4,n1,n2⟩:=b1.cs v.i k c ci.e1 ci.e2;refine pJ b1.at_ (i' Z' (i' b1.ca (i' (rO ci.e1) (pJ h1 (i' Z' ⟨by show(om M1 k.wy).isSome=Db;rw[h2];rfl,i' h2 ⟨by rw[cV];lia,?_⟩⟩)))));obtain⟨b2,s2⟩:=b1.oP (ws:=c.way++[v.g]) ci.e1 ci.e2;rw[dN]at b2 s2;exact⟨_,.refl,q _ (s1.trans s2) b2⟩
def LI:Fq P w K mg base 2 a.bI (DS a):=by
 refine fq G.bI.toDG yx (λr u=>⟨_,(pH (pY (pV (Ja G) r G.ab (sd (pT (pN v0) U1) pL)))
 (pH (qv v0 (qT Z' (xV (ix:=[Fa,ga 1,ga 2]) (N':=["leg","merged","kept"])) (qP (pN v0)) (qQ 0) sC (QT (pP u (pT v0 pK) U1) (ql (pX (qp U2)) (rS v0 (sO pK) sL)) v0)))
 (pH (pW 4 yx (pT (pN v0) U2))
 (pI (qv v4 (qg sv Z' G.m rV (qp U3))))))),?_⟩)
 rintro ds M Q ⟨A,V,i,j,ki,ci,cj,ms,rfl,hi,hj,X9,l1,q⟩
 have hz:=dI;refine pJ hi.bd.at_ (i' Z' (i' Z' (i' hi.bd.ca (i' (rO hi.e1) ⟨A,V,i,ki,ci,"merged",Z',hi,λM1 s1 b1=>?_⟩))));have hj1:(yU V i (ci.over "merged")).calls[j]?=ga cj:=by show(V.calls.set i _)[j]?=_;rw[fJ X9];exact hj
 have le1:om M1 A.le=ga (V.ng.map tz.d):=b1.le;refine pJ b1.at_ (i' Z' (i' le1 (rG (f:=Tg i j) le1 _ [] _ (by rw[cV];simp only[dF];lia) (λd hd k hk=>?_) λp hp=>?_)))
 .obtain⟨v,_,rfl⟩:=dD.mp hd;refine i' Z' ?_;have hk:k (if ((v.i:Nat):Int)=(i:Int)then .tup [.int (j:Nat),.str v.f,.str v.g,.str v.y]else .tup [.int (v.i:Nat),.str v.f,.str v.g,.str v.y]) M1:=hk;refine qD (c:=((v.i:Nat):Int)==(i:Nat)) (λz=>?_) (λz=>?_)
  .rw[de (Ix z)]at hk;exact⟨pE Z',fB _ _,by show 1+3<=Ch;lia,hk⟩
  .rw[c9 (λy=>z (by rw[y];exact eL _))]at hk;exact hk
 have em:[]++(V.ng.map tz.d).map (Tg i j)=(V.ng.map (tz.to i j)).map tz.d:=by rw[dZ,eh,eh];exact gD λv _=>RF i j v
 rw[em];obtain⟨b2,s2⟩:=b1.oH (es:=V.ng.map (tz.to i j)) hp;have t:=qO.new (c:=.lst ((V.ng.map (tz.to i j)).map tz.d)) hp;refine pJ (t _ _ b1.at_) ⟨(G.E "legs" Z'),by show 8<1000;decide,?_⟩;show va _ _ _ _ (pQ (pQ M1 p (.lst ((V.ng.map (tz.to i j)).map tz.d))) A.b (.ins a.c (um (.ref V.p) V.h V.t A.ca p A.nx A.on A.lo)));have b2:pZ a (pQ (pQ M1 p (.lst ((V.ng.map (tz.to i j)).map tz.d))) A.b (.ins a.c (um (.ref V.p) V.h V.t A.ca p A.nx A.on A.lo))) {A with le:=p} {yU V i (ci.over "merged")with ng:=V.ng.map (tz.to i j)}:=b2;have s2:rE A M1 {A with le:=p} (pQ (pQ M1 p (.lst ((V.ng.map (tz.to i j)).map tz.d))) A.b (.ins a.c (um (.ref V.p) V.h V.t A.ca p A.nx A.on A.lo))):=s2;generalize pQ (pQ M1 p (.lst ((V.ng.map (tz.to i j)).map tz.d))) A.b (.ins a.c (um (.ref V.p) V.h V.t A.ca p A.nx A.on A.lo))=M2 at b2 s2 ⊢;have hjk:j<A.cs.length:=by rw[hi.bd.len];exact(cZ.mp hj).1
 have ej:A.cs[j]?=ga A.cs[j]:=cY hjk;generalize A.cs[j]=kj at ej;have cj2:CI a M2 {A with le:=p} _ j kj cj:=⟨b2,ej,hj1⟩;refine pJ b2.at_ (i' Z' (i' Z' (i' b2.ca (i' (rO ej) ?_))));refine λr hr0=>?_;obtain⟨M3,e0,t3,lr⟩:=uT (ds:=ms.map D.str) hr0;rw[<-e0];have nr:=b2.nF hr0;have cj3:=cj2.sub t3;obtain⟨ad,md,h1,h2,h3,h4,n1,n2⟩:=cj3.cell;refine pJ h1 ⟨(G.j "members" Z'),by show 8<1000;decide,_,.refl,?_⟩;obtain⟨g5,s5⟩:=cj3.put (cj.mem ms) Z' h3 lr n1 nr;exact q _ {A with le:=p} Z' (s1.trans (s2.trans ((rE.sub t3).trans s5))) g5.bd
def FF:Fq P w K mg base 1 a.bJ (Ab a):=by
 refine fq G.bJ.toDG vX (λr u=>⟨_,(pH (EA v0 pK)
 (pI (ut eW Z' (qP (pN v0)) (rP 1 vX)
 (pI (qa (pP u (pN U1) pL)
 (pI (EA U1 pK))
 pU))))),?_⟩)
 rintro ds M Q ⟨A,V,rfl,bd,q⟩
 refine pJ bd.at_ ⟨(G.E "turn" Z'),i' Z' (i' Z' (pJ bd.at_ ⟨Z',by show 8<1000;decide,?_⟩))⟩;obtain⟨b1,s1⟩:=bd.putT (t:=V.t+1);rw[show wU "turn" (.int (V.t+1)) (um (.ref V.p) V.h V.t A.ca A.le A.nx A.on A.lo)=um (.ref V.p) V.h (V.t+1) A.ca A.le A.nx A.on A.lo from rfl];generalize pQ M A.b (.ins a.c (um (.ref V.p) V.h (V.t+1) A.ca A.le A.nx A.on A.lo))=M1 at b1 s1 ⊢;refine pJ b1.at_ (i' Z' (i' b1.ca ?_));refine vd (A.cs.map λk=>D.ref k.p) (λpre U M'=>pZ a M' A {V with t:=V.t+1,calls:=(V.calls.take pre.length).map pM.tick++V.calls.drop pre.length}/\rE A M A M'/\∃y,U=[ga (.ref A.b),y]) (λ_ _ M' j=>j.1.ca) _ [] _ _ Z' ⟨b1,s1,Fa,Z'⟩ ?_ ?_
 .rintro pre d post e U M' ⟨b2,s2,y,rfl⟩ nx Xg
  have hd:(A.cs.map λk=>D.ref k.p)[pre.length]?=ga d:=by rw[<-e];simp
  rw[dC]at hd;cases ek:A.cs[pre.length]? with
  | none=>rw[ek]at hd;cases hd
  | some k=>
   rw[ek]at hd;have hd:D.ref k.p=d:=dg hd;subst hd;have hi:pre.length<V.calls.length:=by rw[<-bd.len];exact(cZ.mp ek).1
   have ec:V.calls[pre.length]?=ga V.calls[pre.length]:=cY hi;have ed:V.calls.drop pre.length=V.calls[pre.length]::V.calls.drop (pre.length+1):=gP hi;have et:V.calls.take (pre.length+1)=V.calls.take pre.length++[V.calls[pre.length]]:=by rw[gx,ec];rfl
   generalize V.calls[pre.length]=c at ec ed et;have hl:((V.calls.take pre.length).map pM.tick).length=pre.length:=by rw[cV,eF];lia
   have ec2:((V.calls.take pre.length).map pM.tick++V.calls.drop pre.length)[pre.length]?=ga c:=by rw[eU (by rw[hl];exact dq _),hl,ik,ed];rfl
   rw[cX,dH,et]at Xg;have en:((V.calls.take pre.length).map pM.tick++V.calls.drop pre.length).set pre.length c.tick=(V.calls.take pre.length++[c]).map pM.tick++V.calls.drop (pre.length+1):=by rw[kr _ _ (by rw[hl];exact dq _),hl,ik,ed,dN,fg];rfl
   have ci:CI a M' A _ pre.length k c:=⟨b2,ek,ec2⟩;obtain⟨ad,md,h1,h2,h3,h4,n1,n2⟩:=ci.cell;refine pJ h1 (i' Z' ?_);have ht:c.tick=if (c.st=="rings")=Db then{c with si:=c.si+1}else c:=rfl;refine qD (c:=c.st=="rings") (λg=>?_) (λg=>?_)
   .rw[de g]at ht;refine pJ h1 ⟨(G.j "since" Z'),i' Z' (i' Z' (pJ h1 ⟨Z',by show 8<1000;decide,?_⟩))⟩;obtain⟨g5,s5⟩:=ci.put c.tick (by rw[ht]) (by rw[ht];exact h3) (by rw[ht];exact h4) n1 n2;have b5:=g5.bd;unfold yU at b5;rw[en]at b5;rw[ht]at b5 s5;exact Xg _ _ ⟨b5,s2.trans s5,_,Z'⟩
   .rw[c9 g]at ht;rw[ht,Gx ec2]at en;rw[en]at b2;exact Xg _ _ ⟨b2,s2,_,Z'⟩
 .rintro U M' ⟨b2,s2,y,rfl⟩
  rw[cV,bd.len,fj,jO,eG]at b2;exact⟨M',.refl,q M' s2 b2⟩
def rK:Fq P w K mg base 3 a.k (wN a):=by
 refine fq G.k.toDG x8 (λr u=>⟨_,(pH (pY (qW (pN v0) (qp U1)))
 (pH (pW 2 x8 (pT U1 pK))
 (pI (qa (pP u U2 pL)
 (pI (pY (qW (pN v0) (qp (vT (Of G) r G.e G.cj G.aF.toDG (qp (pT U1 pK)))))))
 (pI (qa (pP u U2 pL)
 (pI (pY (qm v0 G.c.toCls G.bH (Il G) r (qp (rS U1 (sO pK) sL)))))
 (pI (qa (pP u U2 pL)
 (pI (QD u (pN v0) (pT U1 pK) (pT U1 pK)))
 (pI (qa (pP u U2 pL)
 (pI (pY (qm v0 G.c.toCls G.bI (LI G) r (rJ (pT U1 pK) (pT U1 pK) (pT U1 pK)))))
 (pI (qa (pP u U2 pL)
 (pI (pY (yK v0 G.c.toCls G.bJ (FF G) r)))
 (pI (qa (pP u U2 (pX (sd pL pL)))
 (pI (S0 (qr u U2 pL) (R4 (pN v0) (pT U1 pK))))
 (pI (qa (pP u U2 pL)
 (pI (pY (pV (KS G) r G.aW (sd (pT (pN v0) (pT U1 pK)) U1))))
 pU)))))))))))))))),?_⟩)
 rintro ds M Q ⟨_,A,V,e,rfl,rfl,bd,lim,ev,q⟩
 have hz:=dI;have ll:=lim.lo;have lc:=lim.ca;have lp:=lim.ps;refine pJ bd.at_ (i' Z' ⟨by show(om M A.lo).isSome=Db;rw[bd.lo];rfl,i' bd.lo ⟨by rw[cV];lia,?_⟩⟩);have hb:=bd.oC (es:=V.log++[e]);rw[dN]at hb;obtain⟨b1,s1⟩:pZ a (pQ M A.lo (.lst (V.log.map Ev.d++[e.d]))) A (rg V e)/\rE A M A (pQ M A.lo (.lst (V.log.map Ev.d++[e.d]))):=hb;show va _ _ _ _ (pQ M A.lo (.lst (V.log.map Ev.d++[e.d])));generalize pQ M A.lo (.lst (V.log.map Ev.d++[e.d]))=M1 at b1 s1 ⊢;have Zg:∀i,i<V.calls.length->∃k c,A.cs[i]?=ga k/\V.calls[i]?=ga c/\c∈V.calls:=λi hi=>by
  have X6:i<A.cs.length:=by rw[bd.len];exact hi
  exact⟨_,_,cY X6,cY hi,im hi⟩
 have chg:∀(i:Nat) (k:r6) (c:pM) (c':pM) (f:pM->pM),A.cs[i]?=ga k->V.calls[i]?=ga c->f c=c'->qA V e=yl (rg V e) i f->∀(M2:Mp),rE A M1 A M2->pZ a M2 A (yU (rg V e) i c')->∃Xb,qO Xb M2/\Q .mW Xb:=λi k c c' f e1 e2 e3 e4 M2 s2 b2=>⟨M2,.refl,q M2 A Z' (s1.trans s2) (by
  rw[e4];unfold yl;rw[show(rg V e).calls=V.calls from rfl,ug e2,e3];exact b2)⟩
 cases e with
 | new n x=>refine pJ b1.at_ (i' Z' ⟨by show(om M1 A.ca).isSome=Db;rw[b1.ca];rfl,λp hp=>⟨p,x,Z',qd,λM2 wy ad md kp z1 z2 z3 n1 n2 h1 h2 h3 h4=>⟨Z',?_⟩⟩⟩);have sp:=qO.new (c:=.ins a.e []) hp;have s2:qO M1 M2:=λy d hy=>kp y d (Jm hy hp) (sp y d hy);refine i' (s2.lst b1.ca) ⟨by rw[cV,b1.len];show V.calls.length<Ch;lia,?_⟩;obtain⟨b3,s3⟩:=b1.oz s2 (c:=zV x) hp (sp.none z1) (sp.none z2) (sp.none z3) h1 h2 h3 h4 n1 n2;exact⟨_,.refl,q _ (A.add ⟨p,wy⟩) Z' (s1.trans s3) b3⟩
 | leg v=>obtain⟨k,c,ek,ec,hc⟩:=Zg v.i ev;refine pJ b1.at_ ⟨Z',_,⟨Z',Z'⟩,A,rg V (.leg v),k,c,v,Z',⟨b1,ek,ec⟩,lim.le,(lim.cs c hc).1,λM2 s2 b2=>⟨M2,.refl,q M2 A Z' (s1.trans s2) ?_⟩⟩;show pZ a M2 A {rg V (.leg v)with ng:=V.ng++[v],calls:=V.calls.modify v.i (·.go v.g)};rw[ug ec];exact b2
 | next z n=>refine pJ b1.at_ (i' Z' (i' b1.nx ⟨by show(tV V.ps).length<Ch;unfold tV;rw[cV];lia,?_⟩));rw[II];obtain⟨b2,s2⟩:=b1.oV (ps:=CV V.ps z n);exact⟨_,.refl,q _ A Z' (s1.trans s2) b2⟩
 | merge i j ms=>obtain⟨hi,hj,hij,_⟩:=ev;obtain⟨ki,ci,eki,eci,hci⟩:=Zg i hi;obtain⟨kj,cj,ekj,ecj,hcj⟩:=Zg j hj;refine pJ b1.at_ ⟨Z',_,⟨Z',Z'⟩,A,rg V (.merge i j ms),i,j,ki,ci,cj,ms,Z',⟨b1,eki,eci⟩,ecj,hij,lim.le,λM2 A2 eb s2 b2=>⟨M2,.refl,q M2 A2 eb (s1.trans s2) ?_⟩⟩;show pZ a M2 A2 {rg V (.merge i j ms)with calls:=(V.calls.modify i (·.over "merged")).modify j (·.mem ms),ng:=V.ng.map (tz.to i j)};rw[ug eci,ug (show(V.calls.set i _)[j]?=ga cj by rw[fJ hij];exact ecj)];exact b2
 | asks i z ns=>exact⟨pE Z',Z',Z',M1,.refl,q M1 A Z' s1 b1⟩
 | turn=>exact pJ b1.at_ ⟨Z',_,⟨Z',Z'⟩,A,rg V .turn,Z',b1,λM2 s2 b2=>⟨M2,.refl,q M2 A Z' (s1.trans s2) b2⟩⟩
 | sw b i=>
  have hi:i<V.on.length:=ev;obtain⟨b2,s2⟩:=b1.pz (bs:=V.on.set i b);have es:(V.on.map D.bl).set i (.bl b)=(V.on.set i b).map D.bl:=(mG).symm;have ix:Ht (V.on.map D.bl).length (i:Nat)=ga i:=by rw[cV];unfold Ht;simp[hi]
  have Xc:∃Xb,qO Xb (pQ M1 A.on (.lst ((V.on.map D.bl).set i (.bl b))))/\Q .mW Xb:=by rw[es];exact⟨_,.refl,q _ A Z' (s1.trans s2) b2⟩
  cases b with
  | true=>exact⟨pE Z',Z',Z',pJ b1.at_ (i' Z' (i' b1.on (i' ix Xc)))⟩
  | false=>exact⟨pE Z',Z',Z',pJ b1.at_ (i' Z' (i' b1.on (i' ix Xc)))⟩
 | rings i ps=>obtain⟨k,c,ek,ec,hc⟩:=Zg i ev.1;exact⟨pE Z',Z',Z',pJ b1.at_ (i' Z' (i' b1.ca (i' (rO ek) ⟨A,rg V _,i,k,c,_,_,Z',⟨b1,ek,ec⟩,(lim.cs c hc).2.1,(lim.cs c hc).2.2,.rings ps,chg i k c _ _ ek ec Z' Z'⟩)))⟩
 | quiet i=>obtain⟨k,c,ek,ec,hc⟩:=Zg i ev;exact⟨pE Z',Z',Z',pJ b1.at_ (i' Z' (i' b1.ca (i' (rO ek) ⟨A,rg V _,i,k,c,_,_,Z',⟨b1,ek,ec⟩,(lim.cs c hc).2.1,(lim.cs c hc).2.2,.quiet,chg i k c _ _ ek ec Z' Z'⟩)))⟩
 | waits i x=>obtain⟨k,c,ek,ec,hc⟩:=Zg i ev;exact⟨pE Z',Z',Z',pJ b1.at_ (i' Z' (i' b1.ca (i' (rO ek) ⟨A,rg V _,i,k,c,_,_,Z',⟨b1,ek,ec⟩,(lim.cs c hc).2.1,(lim.cs c hc).2.2,.waits x,chg i k c _ _ ek ec Z' Z'⟩)))⟩
 | talks i ms=>obtain⟨k,c,ek,ec,hc⟩:=Zg i ev.1;exact⟨pE Z',Z',Z',pJ b1.at_ (i' Z' (i' b1.ca (i' (rO ek) ⟨A,rg V _,i,k,c,_,_,Z',⟨b1,ek,ec⟩,(lim.cs c hc).2.1,(lim.cs c hc).2.2,.talks ms,chg i k c _ _ ek ec Z' Z'⟩)))⟩
 | held i x=>obtain⟨k,c,ek,ec,hc⟩:=Zg i ev;exact⟨pE Z',Z',Z',pJ b1.at_ (i' Z' (i' b1.ca (i' (rO ek) ⟨A,rg V _,i,k,c,_,_,Z',⟨b1,ek,ec⟩,(lim.cs c hc).2.1,(lim.cs c hc).2.2,.held x,chg i k c _ _ ek ec Z' Z'⟩)))⟩
 | leaves i x=>obtain⟨k,c,ek,ec,hc⟩:=Zg i ev;exact⟨pE Z',Z',Z',pJ b1.at_ (i' Z' (i' b1.ca (i' (rO ek) ⟨A,rg V _,i,k,c,_,_,Z',⟨b1,ek,ec⟩,(lim.cs c hc).2.1,(lim.cs c hc).2.2,.leaves x,chg i k c _ _ ek ec Z' Z'⟩)))⟩
 | over i w0=>obtain⟨k,c,ek,ec,hc⟩:=Zg i ev;exact⟨pE Z',Z',Z',pJ b1.at_ (i' Z' (i' b1.ca (i' (rO ek) ⟨A,rg V _,i,k,c,_,_,Z',⟨b1,ek,ec⟩,(lim.cs c hc).2.1,(lim.cs c hc).2.2,.over w0,chg i k c _ _ ek ec Z' Z'⟩)))⟩
noncomputable def Nv:QQQ:=["barred","ring","engaged","left","refused","done","merged"]
def LM(o:Bool)(c:pM):Prop:=(c.st="rings"/\c.ms=[]/\c.hd=Fa/\c.wd=Fa/\(o=Db->c.at_=[])/\(o=pc->c.at_≠[]))\/(o=pc/\((c.st="waits"/\c.ms=[]/\c.hd=Fa/\c.wd=Fa/\c.at_.length=1)\/(c.st="talks"/\(c.ms.length=2\/c.ms.length=3)/\c.hd=Fa/\c.wd=Fa/\c.at_=[])\/
 (∃x,c.st="held"/\c.ms.length=2/\c.hd=ga x/\x∈c.ms/\c.wd=Fa/\c.at_=[])\/(c.st="over"/\c.ms=[]/\c.hd=Fa/\c.at_=[]/\∃w∈Nv,c.wd=ga w)))
structure wM(l:pR)(o:Bool)(c:pM):Prop where
 sh:LM o c
 cr:c.cr∈l.pn
 at_:∀x∈c.at_,x∈l.pn
 ms:∀x∈c.ms,x∈l.pn
 an:c.at_.Nodup
 mn:c.ms.Nodup
 ca:c.cr∉c.at_
 wy:c.way≠[]/\∀z∈c.way,z∈l.nm
def BE(c:pM)(x:Str):Prop:=c.nz x=Db\/c.m7 x=Db
structure Ai(l:pR)(V:qJ)(o:Option Nat):Prop where
 ok:∀(i:Nat) c,V.calls[i]?=ga c->wM l (o==ga i) c
 un:∀(i j:Nat) ci cj x,V.calls[i]?=ga ci->V.calls[j]?=ga cj->BE ci x->BE cj x->i=j
 ln:∀x∈l.pn,(uU V x:Int)<=xp l x
 wt:∀(i j:Nat) ci cj x,V.calls[i]?=ga ci->V.calls[j]?=ga cj->ci.mX x=Db->cj.mX x=Db->i=j
 nx:uY l V
abbrev WF(l:pR)(V:qJ):Prop:=Ai l V Fa
structure Sz(V:qJ)(c n:Nat):Prop where
 lo:V.log.length<=n
 le:V.ng.length<=n
 ca:V.calls.length<=c
 ps:V.ps.length<=n
 cs:∀k∈V.calls,k.way.length<=n/\k.at_.length<=100/\k.ms.length<=100
def Sz.mono{V:qJ}{c n c' n':Nat}(h:Sz V c n)(hc:c<=c')(hn:n<=n'):Sz V c' n':=⟨d9 h.lo hn,d9 h.le hn,d9 h.ca hc,d9 h.ps hn,λk hk=>⟨d9 (h.cs k hk).1 hn,(h.cs k hk).2⟩⟩
noncomputable def Ev.nw:Ev->Nat
 | .new _ _=>1
 | _=>0
def Lz(ps:T0 (Str×Int))(z:Str)(n:Int):(CV ps z n).length<=ps.length+1:=by
 unfold CV;split
 .rw[cV];lia
 .rw[cX];exact dq _
def J3(ss:QQQ)(x:Str):(tD ss x).length<=ss.length:=fO _ _
def EM{α:Type}{f:α->α}{l:List α}{i:Nat}{x:α}(h:x∈l.modify i f):x∈l\/∃y∈l,x=f y:=by
 cases e:l[i]? with
 | none=>rw[kO (by simpa using e)]at h;exact .inl h
 | some c=>
  rw[ug e]at h;rcases List.mem_or_eq_of_mem_set h with g|g
  .exact .inl g
  .exact .inr ⟨c,fz e,g⟩
def Sz.step{V:qJ}{c n:Nat}{e:Ev}(h:Sz V c n)(ok:e.ok V):Sz (qA V e) (c+e.nw) (n+1):=by
 have h1:Sz (rg V e) c (n+1):=⟨by show(V.log++[e]).length<=n+1;rw[cX];exact gU h.lo,iN h.le,h.ca,iN h.ps,λk hk=>⟨iN (h.cs k hk).1,(h.cs k hk).2⟩⟩;have md:∀(i:Nat) (f:pM->pM),(∀k∈V.calls,(f k).way=k.way/\(f k).at_.length<=100/\(f k).ms.length<=100)->Sz (yl (rg V e) i f) c (n+1):=λi f hf=>⟨h1.lo,h1.le,by show(V.calls.modify i f).length<=c;rw[gu];exact h.ca,h1.ps,λk hk=>by
  rcases EM hk with g|⟨y,hy,rfl⟩
  .exact h1.cs k g
  .obtain⟨a1,a2,a3⟩:=hf y hy;exact⟨by rw[a1];exact(h1.cs y hy).1,a2,a3⟩⟩
 cases e with
 | new m x=>
  refine⟨h1.lo,h1.le,by show(V.calls++[zV x]).length<=c+1;rw[cX];exact gU h.ca,h1.ps,λk hk=>?_⟩;rcases dY.mp hk with g|g
  .exact h1.cs k g
  .rw[dA.mp g];exact⟨eQ _,eQ _,eQ _⟩
 | leg v=>
  refine⟨h1.lo,by show(V.ng++[v]).length<=n+1;rw[cX];exact gU h.le,by show(V.calls.modify v.i _).length<=c;rw[gu];exact h.ca,h1.ps,λk hk=>?_⟩;rcases EM (l:=V.calls) hk with g|⟨y,hy,rfl⟩
  .exact h1.cs k g
  .exact⟨by show(y.way++[v.g]).length<=n+1;rw[cX];exact gU (h.cs y hy).1,(h.cs y hy).2⟩
 | asks i z ns=>exact h1
 | next z m=>exact⟨h1.lo,h1.le,h1.ca,d9 (Lz _ _ _) (gU h.ps),h1.cs⟩
 | merge i j ms=>
  have m1:=md i (·.over "merged") λk hk=>⟨Z',eQ _,eQ _⟩;refine⟨h1.lo,by show(V.ng.map _).length<=n+1;rw[cV];exact h1.le,by show((V.calls.modify i _).modify j _).length<=c;rw[gu,gu];exact h.ca,h1.ps,λk hk=>?_⟩;rcases EM (l:=V.calls.modify i (·.over "merged")) hk with g|⟨y,hy,rfl⟩
  .exact m1.cs k g
  .exact⟨(m1.cs y hy).1,(m1.cs y hy).2.1,ok.2.2.2⟩
 | turn=>
  refine⟨h1.lo,h1.le,by show(V.calls.map pM.tick).length<=c;rw[cV];exact h.ca,h1.ps,λk hk=>?_⟩;obtain⟨y,hy,rfl⟩:=dD.mp hk;have e:y.tick.way=y.way/\y.tick.at_=y.at_/\y.tick.ms=y.ms:=by unfold pM.tick;split<;>exact⟨Z',Z',Z'⟩
  rw[e.1,e.2.1,e.2.2];exact h1.cs y hy
 | sw b i=>exact⟨h1.lo,h1.le,h1.ca,h1.ps,h1.cs⟩
 | rings i ps=>exact md i _ λk hk=>⟨Z',ok.2,(h.cs k hk).2.2⟩
 | quiet i=>exact md i _ λk hk=>⟨Z',eQ _,(h.cs k hk).2.2⟩
 | waits i x=>exact md i _ λk hk=>⟨Z',by show 1<=100;decide,(h.cs k hk).2.2⟩
 | talks i ms=>exact md i _ λk hk=>⟨Z',eQ _,ok.2⟩
 | held i x=>exact md i _ λk hk=>⟨Z',(h.cs k hk).2.1,(h.cs k hk).2.2⟩
 | leaves i x=>exact md i _ λk hk=>⟨Z',d9 (J3 _ _) (h.cs k hk).2.1,d9 (J3 _ _) (h.cs k hk).2.2⟩
 | over i w=>exact md i _ λk hk=>⟨Z',eQ _,eQ _⟩
def RL(V:qJ)(e:Ev):(qA V e).p=V.p/\(qA V e).h=V.h/\(qA V e).on.length=V.on.length:=by cases e<;>first|exact⟨Z',Z',Z'⟩|exact⟨Z',Z',iw⟩
structure vb(a:Ad)(M0 M:Mp)(b:Uf)(A:uj)(V:qJ)(l:pR)(c n:Nat):Prop where
 bd:pZ a M A V
 pl0:tU a M0 V.p l
 s0:qO M0 M
 fr:∀x∈A.foot,M0 x=Fa
 b:A.b=b
 sz:Sz V c n
 ok:rX l
 on:V.on.length=l.mQ.length
variable {M0:Mp}{b:Uf}{A':uj}{V':qJ}{l:pR}{n:Nat}
section
variable {c:Nat}
def vb.at_(h:vb a M0 M b A V l c n):M b=ga (.ins a.c (um (.ref V.p) V.h V.t A.ca A.le A.nx A.on A.lo)):=h.b ▸ h.bd.at_
def vb.sub(h:vb a M0 M b A V l c n)(s:qO M M'):vb a M0 M' b A V l c n:=⟨h.bd.sub s,h.pl0,h.s0.trans s,h.fr,h.b,h.sz,h.ok,h.on⟩
def vb.pl(h:vb a M0 M b A V l c n):tU a M V.p l:=h.pl0.sub h.s0
def vb.mono(h:vb a M0 M b A V l c n){c' n':Nat}(hc:c<=c')(hn:n<=n'):vb a M0 M b A V l c' n':=⟨h.bd,h.pl0,h.s0,h.fr,h.b,h.sz.mono hc hn,h.ok,h.on⟩
def vb.lim(h:vb a M0 M b A V l c n)(hc:c<=1000000)(hn:n<9000000):WQ V:=⟨iJ h.sz.lo (by lia),iJ h.sz.le (by lia),d9 h.sz.ca hc,iJ h.sz.ps (by lia),λk hk=>⟨iJ (h.sz.cs k hk).1 (by lia),(h.sz.cs k hk).2⟩⟩
def vb.rd(h:vb a M0 M b A V l c n)(hc:c<=1000000){o:Option Nat}(wf:Ai l V o):Rd a M A V l:=⟨h.bd,d9 h.sz.ca hc,h.pl,h.ok,h.on,λk hk=>by
 obtain⟨i,hi,e⟩:=gC hk;exact⟨(wf.ok i k (by rw[cY hi,e])).ms,(h.sz.cs k hk).2.2⟩⟩
def vb.call(h:vb a M0 M b A V l c n){i:Nat}{v:pM}(e:V.calls[i]?=ga v):∃k,CI a M A V i k v:=by
 have hi:i<A.cs.length:=by rw[h.bd.len];exact(cZ.mp e).1
 exact⟨A.cs[i],h.bd,cY hi,e⟩
def vb.after(h:vb a M0 M b A V l c n){e:Ev}(ok:e.ok V)(eb:A'.b=A.b)(st:rE A M A' M')(bd:pZ a M' A' (qA V e)):vb a M0 M' b A' (qA V e) l (c+e.nw) (n+1):=by
 obtain⟨p1,p2,p3⟩:=RL V e;refine⟨bd,p1 ▸ h.pl0,λx d hx=>st.1 x d (λz=>?_) (h.s0 x d hx),λx hx=>?_,eb.trans h.b,h.sz.step ok,h.ok,p3.trans h.on⟩
 .rw[h.fr x z]at hx;cases hx
 .rcases st.2.1 x hx with z|z
  .exact h.fr x z
  .exact h.s0.none z
end
def Hl(l:pR)(V:qJ)(c:Str):vB->Prop
 | .rings z ps=>z∈l.nm/\ps≠[]/\ps=vU l V c z
 | .breaks z=>∃x,x=c/\Ip l V x c z=Db
 | .waits z=>z∈l.pn/\z≠c/\AN V z=pc
 | .ring ns=>ns≠[]
 | _=>True
def GV{V:qJ}{c z:Str}:(∀x∈vU l V c z,x∈uP l V c z/\x∈l.mP z)/\(vU l V c z).length<=(l.mP z).length:=by
 have hr:∀x∈uP l V c z,x∈l.mP z:=λx hx=>(fA.mp hx).1;unfold vU;split
 .refine⟨λx hx=>?_,?_⟩
  .have hx:=(fA.mp (gQ hx)).2;have hx:=ra.mp hx;exact⟨hx,hr x hx⟩
  .cases e:(tN (l.mP z) (vK V z)).filter λx=>hasS (uP l V c z) x with
   | nil=>exact eQ _
   | cons y r=>
    have hy:y∈tN (l.mP z) (vK V z):=(fA.mp (by rw[e];exact dO)).1;have hy:y∈l.mP z:=by
     unfold tN at hy;rcases dY.mp hy with q|q
     .exact io q
     .exact gQ q
    rw[eF];have:=List.length_pos_of_mem hy;lia
 .exact⟨λx hx=>⟨hx,hr x hx⟩,fO _ _⟩
def Px{l:pR}{V:qJ}{c z:Str}(hz:z∈l.nm):Hl l V c (DD l V c z):=by
 unfold DD;split
 .trivial
 .rename_i x r e;exact⟨hz,fB _ _,e.symm⟩
structure yE(l:pR)(V:qJ)(c:Str)(n:Nat)(st:sI)(r:vB×sI):Prop where
 e:Hl l V c r.1
 len:r.2.length<=st.length+n
 nm:∀s∈r.2,s∈st\/s.1∈l.nm
 wy:∀ns,r.1=.ring ns->∀z∈ns,z∈l.nm
theorem zZ{V:qJ}{c:Str}(ok:rX l):∀(n:Nat) (z:Str) (way:QQQ) (st:sI),z∈l.nm->(∀x∈way,x∈l.nm)->yE l V c n st (sS l V c n z way st)
 | 0,z,way,st,_,_=>⟨trivial,dq _,λs hs=>.inl hs,λns h=>by cases h⟩
 | n+1,z,way,st,hz,hw=>by
  unfold sS;by_cases h:hasS way z=Db
  .rw[de h];refine⟨?_,by show st.length<=_;lia,λs hs=>.inl hs,λns e y hy=>?_⟩
   .have h1:way.findIdx (·==z)<way.length:=List.findIdx_lt_length_of_exists ⟨z,ra.mp h,eL z⟩;show way.drop _≠[];intro g;have:=eV List.length g;rw[fY]at this;simp only[dF]at this;lia
   .cases e;exact hw y (io hy)
  rw[c9 h];have sn:∀(fs:T0 Nat),∀s∈st++[(z,fs)],s∈st\/s.1∈l.nm:=λfs s hs=>by
   rcases dY.mp hs with g|g
   .exact .inl g
   .rw[dA.mp g];exact .inr hz
  have sl:∀fs:T0 Nat,(st++[(z,fs)]).length=st.length+1:=λfs=>by rw[cX];rfl
  cases hf:uA l V c z with
  | nil=>refine⟨Px hz,by show(st++[(z,[])]).length<=_;rw[sl];lia,sn [],λns e=>?_⟩;have e:DD l V c z=.ring ns:=e;unfold DD at e;split at e<;>cases e
  | cons i r=>
   obtain⟨w,ew,XG⟩:=zO (l:=l) (V:=V) (f:=xh l V c z) (i:=i) (by show i∈uA l V c z;rw[hf];exact dO);dsimp only;rw[ew];dsimp only[Option.elim];have stop:∀e:vB,Hl l V c e->(∀ns,e≠.ring ns)->yE l V c (n+1) st (e,st++[(z,i::r)]):=λe he Xx=>⟨he,by show(st++[(z,i::r)]).length<=_;rw[sl];lia,sn _,λns g=>absurd g (Xx ns)⟩
   have Zx:∀y,Ee z w.2=.inr y->yE l V c (n+1) st (sS l V c n y (way++[z]) (st++[(z,i::r)])):=λy hy=>by
    have hr:=zZ (V:=V) (c:=c) ok n y (way++[z]) (st++[(z,i::r)]) (zT ok (rb ew) hy) λx hx=>by
     rcases dY.mp hx with g|g
     .exact hw x g
     .rw[dA.mp g];exact hz
    refine⟨hr.e,by have:=hr.len;rw[sl]at this;lia,λs hs=>?_,hr.wy⟩;rcases hr.nm s hs with g|g
    .exact sn _ s g
    .exact .inr g
   cases hv:w.2 with
   | bar x ns=>exact stop _ trivial λns g=>by cases g
   | shut x ns=>exact stop _ trivial λns g=>by cases g
   | wait x=>
    rw[hv]at XG;have hf2:(if (!(z==x)||(c==x))=Db then pc else x9 l V c z&&!(AN V z))=Db:=XG;have hx:yi l.pn x:=by have:=ok.wo w (rb ew);rw[hv]at this;exact this
    by_cases g:(!(z==x)||(c==x))=Db
    .rw[de g]at hf2;cases hf2
    rw[c9 g]at hf2;simp only[hU,gN,fV,iO,dU]at g hf2;have ezx:=Ix g.1;subst ezx;exact stop _ ⟨ra.mp hx,λy=>g.2 (by rw[y];exact eL _),hf2.2⟩ λns g=>by cases g
   | breaks x=>
    rw[hv]at XG;refine stop _ ⟨x,?_,?_⟩ λns g=>by cases g
    .have XG:Ip l V x c z=Db:=XG;unfold Ip at XG;by_cases g:(!(c==x)||(z==x))=Db
     .rw[de g]at XG;cases XG
     .simp only[hU,gN,fV,iO]at g;exact(Ix g.1).symm
    .exact XG
   | always x y=>exact Zx y (by rw[hv];rfl)
   | night x y f m=>exact Zx y (by rw[hv];rfl)
   | busy x y=>exact Zx y (by rw[hv];rfl)
   | silent x y m=>exact Zx y (by rw[hv];rfl)
def Gz{V:qJ}{x c z:Str}(h:Ip l V x c z=Db):∃j k,wB V z=ga j/\V.calls[j]?=ga k/\k.st="talks"/\z∈k.ms/\k.ms.length=2/\z≠c:=by
 unfold Ip at h;by_cases g:(!(c==x)||(z==x))=Db
 .rw[de g]at h;cases h
 rw[c9 g]at h;simp only[hU,gN,fV,iO]at g;by_cases g2:(!(hasS l.pn z)||!(x9 l V c z))=Db
 .rw[de g2]at h;cases h
 rw[c9 g2]at h;cases e:wB V z with
 | none=>rw[e]at h;cases h
 | some j=>obtain⟨hj,ht,_⟩:=iR.mp e;rw[e]at h;have h:((V.calls[j]?).elim pc λk=>(k.ms.length==2)&&Hz l x k.ms)=Db:=h;rw[cY hj]at h;have h:((V.calls[j].ms.length==2)&&Hz l x V.calls[j].ms)=Db:=h;unfold pM.m8 at ht;rw[dU]at h ht;refine⟨j,V.calls[j],Z',cY hj,Ix ht.1,ra.mp ht.2,Ix h.1,λy=>?_⟩;rw[y]at g;have:=Ix g.1;rw[this,eL]at g;exact absurd Z' g.2
noncomputable def pM.bare(c:pM):pM:={c with way:=[]}
def uk(V V':qJ):Prop:=V'.calls.map pM.bare=V.calls.map pM.bare
def uk.at_{V V':qJ}(h:uk V V'){i:Nat}{c:pM}(e:V.calls[i]?=ga c):∃c',V'.calls[i]?=ga c'/\c'.bare=c.bare:=by
 have:=eV (·[i]?) h;simp only[dC,e]at this;cases e':V'.calls[i]? with
 | none=>rw[e']at this;cases this
 | some c'=>rw[e']at this;exact⟨c',Z',dg this⟩
def zL(f:pM->Bool)(hf:∀c,f c.bare=f c)(cs:List pM):(cs.map pM.bare).findIdx? f=cs.findIdx? f:=by rw[ic];congr 1;funext c;exact hf c
def uk.nN{V V':qJ}(h:uk V V')(z:Str):wB V' z=wB V z:=by unfold wB;rw[<-zL _ (λ_=>rfl) V'.calls,h,zL _ (λ_=>rfl)]
def uk.ends{V V':qJ}(h:uk V V')(i:Nat)(e:vB):tT l V' i e=tT l V i e:=by
 cases e with
 | breaks z=>
  unfold tT;dsimp only;rw[h.nN];have key:∀j:Nat,(V'.calls[j]?).map pM.bare=(V.calls[j]?).map pM.bare:=λj=>by
   have:=eV (·[j]?) h
   simpa only [dC]using this
  have ki:=key i;cases wB V z with
  | none=>rfl
  | some j=>
   have kj:=key j;cases e1:V.calls[i]? with
   | none=>rw[e1]at ki;rw[show V'.calls[i]?=Fa by cases q:V'.calls[i]? with|none=>rfl|some _=>rw[q]at ki;cases ki]
   | some c=>
    rw[e1]at ki;cases e2:V'.calls[i]? with
    | none=>rw[e2]at ki;cases ki
    | some c'=>
     rw[e2]at ki;have k1:c'.cr=c.cr:=by have kb:c'.bare=c.bare:=dg ki;exact show c'.bare.cr=c.bare.cr by rw[kb]
     have k2:(V'.calls[j]?).elim [] pM.ms=(V.calls[j]?).elim [] pM.ms:=by
      cases e3:V.calls[j]? with
      | none=>rw[e3]at kj;rw[show V'.calls[j]?=Fa by cases q:V'.calls[j]? with|none=>rfl|some _=>rw[q]at kj;cases kj]
      | some d=>
       rw[e3]at kj;cases e4:V'.calls[j]? with
       | none=>rw[e4]at kj;cases kj
       | some d'=>rw[e4]at kj;exact show d'.bare.ms=d.bare.ms by rw[show d'.bare=d.bare from dg kj]
     dsimp only;rw[k1,k2]
 | _=>rfl
def uk.trans{V V1 V2:qJ}(h:uk V V1)(g:uk V1 V2):uk V V2:=Eq.trans g h
def Ac(V:qJ)(v:tz):uk V (qA V (.leg v)):=by
 show(V.calls.modify v.i (·.go v.g)).map pM.bare=V.calls.map pM.bare;cases e:V.calls[v.i]? with
 | none=>rw[kO (by simpa using e)]
 | some c=>rw[ug e,mG,show(c.go v.g).bare=c.bare from rfl,Gx (by rw[dC,e];rfl)]
def D6(V:qJ)(i:Nat)(z:Str)(ns:T0 Nat):uk V (qA V (.asks i z ns)):=rfl
def uk.len{V V':qJ}(h:uk V V'):V'.calls.length=V.calls.length:=by
 have:=eV List.length h
 rwa [cV,cV]at this
noncomputable def GH:Option Str->sI->Option Str
 | o,[]=>o
 | _,(z,_)::r=>GH (ga z) r
noncomputable def UM(i:Nat)(z:Str)(fs:T0 Nat):Option Str->T0 Ev
 | none=>[.asks i z fs]
 | some y=>[.leg ⟨i,y,z,y⟩,.asks i z fs]
theorem ze(i:Nat)(z:Str)(fs:T0 Nat):∀(st:sI) (o:Option Str),sr i o (st++[(z,fs)])=sr i o st++UM i z fs (GH o st)
 | [],none=>rfl
 | [],ga _=>rfl
 | (y,gs)::r,none=>by show .asks i y gs::sr i (ga y) (r++[(z,fs)])=_;rw[ze i z fs r];rfl
 | (y,gs)::r,ga u=>by show .leg ⟨i,u,y,u⟩::.asks i y gs::sr i (ga y) (r++[(z,fs)])=_;rw[ze i z fs r];rfl
theorem C7(z:Str)(fs:T0 Nat):∀(st:sI) (o:Option Str),GH o (st++[(z,fs)])=ga z
 | [],_=>rfl
 | _::r,_=>C7 z fs r _
theorem wj(i:Nat):∀(st:sI) (o:Option Str) (V:qJ),uk V (rc V (sr i o st))
 | [],_,V=>rfl
 | (y,gs)::r,Fa,V=>(D6 V i y gs).trans (wj i r (ga y) _)
 | (y,gs)::r,ga u,V=>((Ac V ⟨i,u,y,u⟩).trans (D6 _ i y gs)).trans (wj i r (ga y) _)
def Qj(a:Ad):rM:=λds M Q=>J8 λM0 b A V l c n i st r=>ds=[.ref b,.int ((i:Nat):Int),.ref r]/\vb a M0 M b A V l c n/\c<=1000000/\n<=8000000/\st.length<=100/\i<V.calls.length/\om M r=ga (qY st)/\r∉A.foot/\∀M' A',vb a M0 M' b A' (rc V (sr i Fa st)) l c (n+2*st.length)->rE A M A' M'->Q .mW M'
def Md(a:Ad):rM:=λds M Q=>J8 λM0 b A V l c n i z ps=>ds=[.ref b,.int ((i:Nat):Int),.str z,names ps]/\vb a M0 M b A V l c n/\c<=1000000/\n<=8000000/\i<V.calls.length/\z∈l.nm/\ps≠[]/\(∀x∈ps,x∈l.mP z)/\ps.length<=100/\∀M' A',vb a M0 M' b A' (rc V (tT l V i (.rings z ps))) l c (n+2)->rE A M A' M'->Q .mW M'
def Ha(l:pR)(V:qJ)(i:Nat):vB->Prop
 | .rings z ps=>z∈l.nm/\ps≠[]/\(∀x∈ps,x∈l.mP z)/\ps.length<=100
 | .breaks z=>∃j k,wB V z=ga j/\V.calls[j]?=ga k/\i≠j/\k.ms.length=2
 | _=>True
def NV(a:Ad):rM:=λds M Q=>R1 λM0 b A V l c n i z=>ds=[.ref b,.int ((i:Nat):Int),.str z]/\vb a M0 M b A V l c n/\c<=1000000/\n<=8000000/\i<V.calls.length/\Ha l V i (.breaks z)/\∀M' A',vb a M0 M' b A' (rc V (tT l V i (.breaks z))) l c (n+2)->rE A M A' M'->Q .mW M'
def Jy(a:Ad):rM:=λds M Q=>R1 λM0 b A V l c n i e=>ds=[.ref b,.int ((i:Nat):Int),vB.d e]/\vb a M0 M b A V l c n/\c<=1000000/\n<=8000000/\i<V.calls.length/\Ha l V i e/\∀M' A',vb a M0 M' b A' (rc V (tT l V i e)) l c (n+2)->rE A M A' M'->Q .mW M'
def Oh(a:Ad):rM:=λds M Q=>R1 λM0 b A V l c n i k=>ds=[.ref b,.int ((i:Nat):Int)]/\vb a M0 M b A V l c n/\c<=1000000/\n<=7000000/\Ai l V (ga i)/\V.calls[i]?=ga k/\∀M' A',vb a M0 M' b A' (rc V (xP l V i)) l c (n+30)->rE A M A' M'->Q .mW M'
def MT(a:Ad):rM:=λds M Q=>R1 λM0 b A V l c n y z=>ds=[.ref b,.str y,.str z]/\vb a M0 M b A V l c n/\c<1000000/\n<=6000000/\Ai l (rc V [.new V.calls.length y,.leg ⟨V.calls.length,y,z,y⟩]) (ga V.calls.length)/\∀M' A',vb a M0 M' b A' (rc V (Fh l V y z)) l (c+1) (n+32)->rE A M A' M'->Q .mW M'
def Lq{st:sI}{pre post:T0 D}{d:D}(e:pre++d::post=qY st):∃z fs,st[pre.length]?=ga (z,fs)/\d=.tup [.str z,uK fs]/\st.take (pre.length+1)=st.take pre.length++[(z,fs)]:=by
 have h:(qY st)[pre.length]?=ga d:=by rw[<-e];simp
 unfold qY at h;rw[dC]at h;cases q:st[pre.length]? with
 | none=>rw[q]at h;cases h
 | some s=>rw[q]at h;refine⟨s.1,s.2,Z',(dg h).symm,?_⟩;rw[gx,q];rfl
noncomputable def Vx:Option Str->D
 | none=>.mW
 | some x=>.str x
def OS{ss:QQQ}{x:Str}(h:ss.getLast?=ga x):wX (ss.map D.str) (-1)=ga (.str x):=by
 have hp:0<ss.length:=by cases ss with|nil=>cases h|cons _ _=>exact mH _
 unfold wX;have e:Ht (ss.map D.str).length (-1)=ga (ss.length - 1):=by
  rw[cV];unfold Ht;have:¬((-1:Int)>=0):=by decide
  simp;lia
 rw[e];show(ss.map D.str)[ss.length - 1]?=_;rw[dC,<-jC,h];rfl
def L9(ds:T0 D):L3.vj ds Fa (ga (-1:Int))=ds.dropLast:=by
 unfold L3.vj;have e:HT.tS ds.length ds.length (ga (-1:Int))=ds.length - 1:=by show(if (-1:Int)<0 then((-1:Int)+(ds.length:Int)).toNat else min (-1:Int).toNat ds.length)=ds.length - 1;rw[de (by decide)];lia
 rw[e,HT.BU,ko,kY,List.dropLast_eq_take]
def P4:Fq P w K mg base 4 a.a3 (Qj a):=by
 refine fq G.a3.toDG uz (λr u=>⟨_,(pH (pW 3 uz tw)
 (pI (ut eW Z' (qP U2) (vg (n:=2) Z' (qI (rP 4 uz) (qI (rP 5 uz) ue)))
 (pH (qa (pP u U3 tw)
 (pI (pY (qm v0 G.c.toCls G.k (rK G) r (qp (pX (qh pL (qh U1 (rJ U3 v4 U3))))))))
 pU)
 (pH (pY (qm v0 G.c.toCls G.k (rK G) r (qp (pX (qh pL (rJ U1 v4 v5))))))
 (pI (pW 3 uz v4))))))),?_⟩)
 rintro ds M Q ⟨M0,b,A,V,l,c,n,i,st,r,rfl,cu,hc,hn,Xv,hi,lr,nf,q⟩
 refine i' lr (vd (qY st) (λpre U M'=>(∃A',vb a M0 M' b A' (rc V (sr i Fa (st.take pre.length))) l c (n+2*pre.length)/\rE A M A' M')/\∃y4 y5,U=[ga (.ref b),ga (.int ((i:Nat):Int)),ga (.ref r),ga (Vx (GH Fa (st.take pre.length))),y4,y5]) (λpre U M' j=>?_) _ [] _ _ Z' ⟨⟨A,cu,.refl⟩,Fa,Fa,Z'⟩ ?_ ?_)
 .obtain⟨⟨A',c1,XN⟩,_⟩:=j;exact tH (XN.1 r _ nf (qx lr))
 .rintro pre d post e U M' ⟨⟨A',c1,XN⟩,y4,y5,rfl⟩ nx Xg
  obtain⟨z,fs,es,rfl,et⟩:=Lq e;have hp:pre.length<100:=dR (cZ.mp es).1 Xv;rw[cX,dH,et,ze,C7]at Xg;have len:∀es,uk V (rc V es)->i<(rc V es).calls.length:=λes h=>by rw[h.len];exact hi
  have YQ:=len _ (wj i (st.take pre.length) Fa V);generalize hV:rc V (sr i Fa (st.take pre.length))=V1 at c1 YQ;rw[so,hV]at Xg;refine⟨Z',?_⟩;dsimp only[qZ,zd,Ek];have asks:∀(M2:Mp) (A2:uj) (V2:qJ) (m:Nat) (y3:Option D),m<9000000->vb a M0 M2 b A2 V2 l c m->rE A M A2 M2->(∀M3 A3,vb a M0 M3 b A3 (qA V2 (.asks i z fs)) l c (m+1)->rE A M A3 M3->nx [ga (.ref b),ga (.int ((i:Nat):Int)),ga (.ref r),ga (.str z),ga (.str z),ga (uK fs)] M3)->Bo (M2 b) λC fs'=>fs'.lookup ("apply":Str)=Fa/\∃sp,(C=a.c/\sp=wN a)/\4<=Ch/\sp [.ref b,.tup [.str "asks",.int ((i:Nat):Int),.str z,uK fs]] M2 λ_ M3=>nx [ga (.ref b),ga (.int ((i:Nat):Int)),ga (.ref r),ga (.str z),ga (.str z),ga (uK fs)] M3:=λM2 A2 V2 m y3 hm c2 s2 k=>pJ c2.at_ ⟨Z',_,⟨Z',Z'⟩,by rw[dI];decide,b,A2,V2,.asks i z fs,Z',c2.b,c2.bd,c2.lim hc hm,trivial,λM3 A3 eb s3 bd=>k M3 A3 (c2.after trivial eb s3 bd) (s2.trans s3)⟩;cases hl:GH Fa (st.take pre.length)with
  | none=>rw[hl]at Xg;refine asks M' A' V1 _ Fa (by lia) c1 XN λM3 A3 c3 s3=>Xg _ _ ⟨⟨A3,c3.mono (dq _) (by lia),s3⟩,_,_,Z'⟩
  | some y=>rw[hl]at Xg;refine pJ c1.at_ ⟨Z',_,⟨Z',Z'⟩,pE Z',b,A',V1,.leg ⟨i,y,z,y⟩,Z',c1.b,c1.bd,c1.lim hc (by lia),YQ,λM2 A2 eb s2 bd=>?_⟩;have c2:=c1.after (e:=.leg ⟨i,y,z,y⟩) YQ eb s2 bd;refine asks M2 A2 _ _ Fa (by lia) c2 (XN.trans s2) λM3 A3 c3 s3=>Xg _ _ ⟨⟨A3,c3.mono (dq _) (by lia),s3⟩,_,_,Z'⟩
 .rintro U M' ⟨⟨A',c1,XN⟩,_⟩
  have hl:(qY st).length=st.length:=by unfold qY;rw[cV]
  rw[hl,fj]at c1;exact⟨M',.refl,q M' A' c1 XN⟩
def Li:Fq P w K mg base 4 a.a4 (Md a):=by
 refine fq G.a4.toDG vi (λr u=>⟨_,(pH (qa (pP u (qm (pN v0) G.h.toCls G.aJ (yw G) r (qp U2)) pL)
 (pH (pW 4 vi (qm (pN v0) G.h.toCls G.X (uQ G) r (qp U2)))
 (pH (pW 5 vi (ql (ql (wG v4 (qp (pT U3 pK))) pK) (qc qC Z' G.g qB (qp v4))))
 (pI (pY (qm v0 G.c.toCls G.k (rK G) r (qp (pX (rJ pL U2 v5))))))))
 pU)
 (pI (pY (qm v0 G.c.toCls G.k (rK G) r (qp (pX (rJ pL U1 U3))))))),?_⟩)
 rintro ds M Q ⟨M0,b,A,V,l,c,n,i,z,ps,rfl,cu,hc,hn,hi,hz,Xx,hm,hps,q⟩
 obtain⟨ph,gr,ws,YK,pr,gd,rs,i1,_⟩:=cu.pl;have pl:=cu.pl;obtain⟨x,ps',rfl⟩:=gp Xx;obtain⟨⟨pne,_⟩,_⟩:=cu.ok.of hz;refine Jh (t:=OG _ _ _) (λU M'=>(∃A',vb a M0 M' b A' (rc V (if (l.mT z=="turns")=Db then[.next z (QN (l.mP z) x)]else[])) l c (n+1)/\rE A M A' M')/\∃y1 y2,U=[ga (.ref b),ga (.int ((i:Nat):Int)),ga (.str z),ga (names (x::ps')),y1,y2]) (λnx h=>?_) ?_
 .refine pJ cu.at_ (i' Z' (pJ i1 ⟨Z',_,⟨Z',Z'⟩,V.p,z,l,Z',pl,?_⟩));refine qD (c:=l.mT z=="turns") (λg=>?_) (λg=>?_)
  .rw[de g]at h;refine pJ cu.at_ (i' Z' (pJ i1 ⟨Z',_,⟨Z',Z'⟩,V.p,z,l,Z',pl,λp hp=>?_⟩));obtain⟨M1,e0,t,lp⟩:=uT (ds:=(l.mP z).map D.str) hp;rw[<-e0];have cu':=cu.sub t;have st0:rE A M A M1:=.sub t;have ej:=BL x (l.mP z) (hm x dO);have lpos:0<(l.mP z).length:=fC.mpr pne;have el:(((l.mP z).map D.str).length:Int)=(l.mP z).length:=by rw[cV]
   refine⟨by show(om M1 p).isSome=Db;rw[lp];rfl,i' (vW _ _) (i' lp ⟨Z',qE _,i' ej (i' lp ⟨by rw[el];lia,?_⟩)⟩)⟩;rw[el];refine pJ cu'.at_ ⟨Z',_,⟨Z',Z'⟩,pE Z',b,A,V,.next z (QN (l.mP z) x),Z',cu'.b,cu'.bd,cu'.lim hc (by lia),trivial,λM2 A2 eb st YL=>?_⟩;exact h _ _ ⟨⟨A2,cu'.after (e:=.next z (QN (l.mP z) x)) trivial eb st YL,st0.trans st⟩,_,_,Z'⟩
  .rw[c9 g]at h;exact h _ _ ⟨⟨A,cu.mono (dq _) (by lia),.refl⟩,_,_,Z'⟩
 rintro U M1 ⟨⟨A1,c1,XN⟩,y1,y2,rfl⟩
 have q:∀M' A',vb a M0 M' b A' (rc V ((if (l.mT z=="turns")=Db then[.next z (QN (l.mP z) x)]else[])++[.rings i (x::ps')])) l c (n+2)->rE A M A' M'->Q .mW M':=q;rw[so]at q;have YQ:i<(rc V (if (l.mT z=="turns")=Db then[.next z (QN (l.mP z) x)]else[])).calls.length:=by
  split
  .exact hi
  .exact hi
 generalize rc V (if (l.mT z=="turns")=Db then[.next z (QN (l.mP z) x)]else[])=V1 at c1 q YQ;refine pJ c1.at_ ⟨Z',_,⟨Z',Z'⟩,pE Z',b,A1,V1,.rings i (x::ps'),Z',c1.b,c1.bd,c1.lim hc (by lia),⟨YQ,hps⟩,λM2 A2 eb Xw YL=>?_⟩;exact⟨M2,.refl,q M2 A2 (c1.after (e:=.rings i (x::ps')) ⟨YQ,hps⟩ eb Xw YL) (XN.trans Xw)⟩
def LD:Fq P w K mg base 4 a.a5 (NV a):=by
 refine fq G.a5.toDG yc (λr u=>⟨_,(pH (pW 3 yc (qm v0 G.c.toCls G.R (yX G) r (qp U2)))
 (pH (pW 4 yc (ql (qg rR Z' G.l rm (qp (pN (pT (pN v0) U3)))) (pX (qp (pN (pT (pN v0) U1))))))
 (pI (pY (qm v0 G.c.toCls G.k (rK G) r (qp (pX (qh pL (rJ U1 U3 v4))))))))),?_⟩)
 rintro ds M Q ⟨M0,b,A,V,l,c,n,i,z,rfl,cu,hc,hn,hi,⟨j,k,ej,ek,X9,Yf⟩,q⟩
 have hz:=dI;have ei:V.calls[i]?=ga V.calls[i]:=cY hi;generalize V.calls[i]=ci at ei;obtain⟨ka,qi⟩:=cu.call ei;obtain⟨kb,qj⟩:=cu.call ek;obtain⟨ad,md,h1,h2,h3,h4,_⟩:=qi.cell;obtain⟨ad',md',g1,g2,g3,g4,_⟩:=qj.cell;have hee:tT l V i (.breaks z)=[.merge i j (k.ms++[ci.cr])]:=by unfold tT;dsimp only;rw[ej,ei];dsimp only;rw[ek];rfl
 rw[hee]at q;have ok:(Ev.merge i j (k.ms++[ci.cr])).ok V:=⟨hi,(cZ.mp ek).1,X9,by rw[cX,Yf];show 3<=100;decide⟩;refine pJ cu.at_ ⟨Z',_,⟨Z',Z'⟩,A,V,z,by rw[cu.b],cu.bd,d9 cu.sz.ca hc,?_⟩;rw[show AZ V z=.int (j:Nat)from by unfold AZ;rw[ej];rfl];refine pJ cu.at_ (i' Z' (i' Z' (i' cu.bd.ca (i' (rO qj.e1) (pJ g1 (i' Z' (i' g4 ?_)))))));refine pJ cu.at_ (i' Z' (i' Z' (i' cu.bd.ca (i' (rO qi.e1) (pJ h1 (i' Z' ⟨pE Z',?_⟩))))));refine⟨(by intro y;rw[List.map_eq_nil_iff]at y;rw[y]at Yf;cases Yf),(by rw[cV,Yf];show 2+1<=Ch;lia),?_⟩;rw[show k.ms.map D.str++[D.str ci.cr]=(k.ms++[ci.cr]).map D.str by rw[dN];rfl];refine pJ cu.at_ ⟨Z',_,⟨Z',Z'⟩,pE Z',b,A,V,.merge i j (k.ms++[ci.cr]),Z',cu.b,cu.bd,cu.lim hc (by lia),ok,λM2 A2 eb Xw YL=>?_⟩;exact⟨M2,.refl,q M2 A2 ((cu.after ok eb Xw YL).mono (dq _) (by lia)) Xw⟩
def Og:Fq P w K mg base 5 a.a6 (Jy a):=by
 refine fq G.a6.toDG yq (λr u=>⟨_,(pH (pW 3 yq (pT U2 pK))
 (pI (qa (pP u U3 pL)
 (pI (pY (pV (Li G) r G.a4 (qh v0 (rJ U1 (pT U2 pK) (pT U2 pK))))))
 (pI (qa (pP u U3 pL)
 (pI (pY (qm v0 G.c.toCls G.k (rK G) r (qp (pX (rJ pL U1 (pT U2 pK)))))))
 (pI (qa (pP u U3 pL)
 (pI (pY (pV (LD G) r G.a5 (rJ v0 U1 (pT U2 pK)))))
 (pI (pY (qm v0 G.c.toCls G.k (rK G) r (qp (pX (rJ pL U1 U3))))))))))))),?_⟩)
 rintro ds M Q ⟨M0,b,A,V,l,c,n,i,e,rfl,cu,hc,hn,hi,he,q⟩
 have one:∀(ev:Ev) (ok:ev.ok V),ev.nw=0->tT l V i e=[ev]->∀M2 A2,A2.b=A.b->rE A M A2 M2->pZ a M2 A2 (qA V ev)->∃Xb,qO Xb M2/\Q .mW Xb:=λev ok h0 h1 M2 A2 eb Xw YL=>by rw[h1]at q;have c2:=cu.after ok eb Xw YL;rw[h0]at c2;exact⟨M2,.refl,q M2 A2 (c2.mono (dq _) (by lia)) Xw⟩
 cases e with
 | rings z ps=>exact⟨M0,b,A,V,l,c,n,i,z,ps,Z',cu,hc,hn,hi,he.1,he.2.1,he.2.2.1,he.2.2.2,λM' A' c1 st=>⟨M',.refl,q M' A' c1 st⟩⟩
 | waits z=>exact pJ cu.at_ ⟨Z',_,⟨Z',Z'⟩,pE Z',b,A,V,.waits i z,Z',cu.b,cu.bd,cu.lim hc (by lia),hi,one (.waits i z) hi Z' Z'⟩
 | breaks z=>exact⟨M0,b,A,V,l,c,n,i,z,Z',cu,hc,hn,hi,he,λM' A' c1 st=>⟨M',.refl,q M' A' c1 st⟩⟩
 | engaged z=>exact pJ cu.at_ ⟨Z',_,⟨Z',Z'⟩,pE Z',b,A,V,.over i "engaged",Z',cu.b,cu.bd,cu.lim hc (by lia),hi,one (.over i "engaged") hi Z' Z'⟩
 | barred=>exact pJ cu.at_ ⟨Z',_,⟨Z',Z'⟩,pE Z',b,A,V,.over i "barred",Z',cu.b,cu.bd,cu.lim hc (by lia),hi,one (.over i "barred") hi Z' Z'⟩
 | ring ns=>exact pJ cu.at_ ⟨Z',_,⟨Z',Z'⟩,pE Z',b,A,V,.over i "ring",Z',cu.b,cu.bd,cu.lim hc (by lia),hi,one (.over i "ring") hi Z' Z'⟩
def NH{V:qJ}{i:Nat}{k:pM}{e:vB}(ok:rX l)(wf:Ai l V (ga i))(hk:V.calls[i]?=ga k)(h:Hl l V k.cr e):Ha l V i e:=by
 cases e with
 | rings z ps=>obtain⟨hz,Xx,rfl⟩:=h;have h1:=(GV (l:=l) (V:=V) (c:=k.cr) (z:=z));have h2:=(ok.of hz).1.2.1;exact⟨hz,Xx,λx hx=>(h1.1 x hx).2,by have:=h1.2;lia⟩
 | breaks z=>
  obtain⟨x,rfl,hb⟩:=h;obtain⟨j,d,e1,e2,e3,e4,e5,_⟩:=Gz hb;refine⟨j,d,e1,e2,λy=>?_,e5⟩;subst y;rw[hk]at e2;cases e2;have sh:=(wf.ok i k hk).sh;rw[show(ga i==ga i)=Db from eL _]at sh;rcases sh with g|g
  .rw[g.1]at e3;exact absurd e3 (by decide)
  .cases g.1
 | _=>trivial
def Jj:Fq P w K mg base 9 a.ae (Oh a):=by
 refine fq G.ae.toDG wY (λr u=>⟨_,(pH (pW 2 wY (pT (pN v0) U1))
 (pH (pW 3 wY (pV (CQ G) r G.J (qh v0 (rJ (pN U2) (pT (pN U2) (FT pK)) (rS (pN U2) sL (sO (FT pK)))))))
 (pH (pW 4 wY (pT U3 pK))
 (pH (pW 5 wY (pT U3 pK))
 (pH (pY (pV (P4 G) r G.a3 (rJ v0 U1 v5)))
 (pH (qa (W3.b3 (vh (pP u (pT v4 pK) pL) (uE (pP u (qc qC Z' G.g qB (qp v5)) pK))))
 (pH (pW 6 wY (pT (pT v5 (FT pK)) pK))
 (pI (pY (qm v0 G.c.toCls G.k (rK G) r (qp (pX (qh pL (qh U1 (rJ v6 (pT (pT v4 pK) pK) v6)))))))))
 pU)
 (pI (pY (pV (Og G) r G.a6 (rJ v0 U1 v4)))))))))),?_⟩)
 rintro ds M Q ⟨M0,b,A,V,l,c,n,i,k,rfl,cu,hc,hn,wf,hk,q⟩
 obtain⟨ka,ci⟩:=cu.call hk;obtain⟨ad,md,h1,h2,h3,h4,n1,n2⟩:=ci.cell;have Yg:=wf.ok i k hk;have hi:=(cZ.mp hk).1;obtain⟨z,hz⟩:∃z,k.way.getLast?=ga z:=by
  cases e:k.way.getLast? with
  | none=>exact absurd (gR.mp e) Yg.wy.1
  | some z=>exact⟨z,Z'⟩
 have XA:z∈l.nm:=Yg.wy.2 z (je hz);have hdn:∀x∈k.way.dropLast,x∈l.nm:=λx hx=>Yg.wy.2 x (jf _ hx);have hwl:=(cu.sz.cs k (rb hk)).1;have hev:xP l V i=sr i Fa (uR l V k.cr z k.way.dropLast).2++(uF i (uR l V k.cr z k.way.dropLast).2 (uR l V k.cr z k.way.dropLast).1++tT l V i (uR l V k.cr z k.way.dropLast).1):=by
  unfold xP;rw[hk];have:k.way.getLastD Str.empty=z:=by rw[iB,hz];rfl
  dsimp only[Option.elim];rw[this]
 rw[hev]at q;have ro:yE l V k.cr (l.nm.length+1) [] (uR l V k.cr z k.way.dropLast):=zZ cu.ok _ _ _ _ XA hdn;have rl:=ro.len;have eo:=NH cu.ok wf hk ro.e;have nl:l.nm.length<=11:=by have p8:=cu.ok.p8;have g3:=cu.ok.g3;unfold pR.nm pR.pn pR.gn;rw[cX,cV,cV];lia
 have re:=ro.e;refine Jh (t:=B5 _ _) (λU M'=>M=M'/\U=[ga (.ref b),ga (.int ((i:Nat):Int)),ga (.ref ka.p),Fa,Fa,Fa,Fa]) (λnx0 h=>pJ cu.at_ (i' Z' (i' Z' (i' ci.bd.ca (i' (rO ci.e1) (h _ _ ⟨Z',Z'⟩)))))) ?_
 rintro U _ ⟨rfl,rfl⟩
 refine Jh (t:=B5 _ _) (λU M'=>qO M M'/\∃r,M r=Fa/\om M' r=ga (qY (uR l V k.cr z k.way.dropLast).2)/\U=[ga (.ref b),ga (.int ((i:Nat):Int)),ga (.ref ka.p),ga (.tup [(uR l V k.cr z k.way.dropLast).1.d,.ref r]),Fa,Fa,Fa]) (λnx0 h=>?_) ?_
 .refine pJ h1 (i' Z' (pJ h1 (i' Z' (i' h2 (i' (OS hz) (pJ h1 (i' Z' (i' h2 λp hp=>?_))))))));rw[show L3.vj (k.way.map D.str) Fa (ga (-1:Int))=k.way.dropLast.map D.str from(L9 _).trans (List.map_dropLast).symm];have t:=qO.new (c:=.lst (k.way.dropLast.map D.str)) hp;have lp:=@pS M p (k.way.dropLast.map D.str);refine⟨A,V,l,k.cr,z,p,k.way.dropLast,by rw[cu.b],(cu.rd hc wf).sub t,XA,wf.nx,lp,by rw[List.length_dropLast];lia,λr M' s hr lr=>?_⟩;exact h _ _ ⟨t.trans s,r,t.none hr,lr,Z'⟩
 rintro U M1 ⟨s1,r,hr,lr,rfl⟩
 generalize uR l V k.cr z k.way.dropLast=R at lr ro rl eo re q;obtain⟨e,st⟩:=R;have cu1:=cu.sub s1;have rl:st.length<=0+(l.nm.length+1):=rl;refine⟨M0,b,A,V,l,c,n,i,st,r,Z',cu1,hc,by lia,by lia,hi,lr,cu.bd.oi hr,λM2 A2 c2 Xw=>?_⟩;have same:=wj i st Fa V;have X6:i<(rc V (sr i Fa st)).calls.length:=by rw[same.len];exact hi
 have ZS:om M2 r=ga (qY st):=tH (Xw.1 r _ (cu.bd.oi hr) (qx lr));rw[so,so]at q;have hee:=λV' (h:uk V V')=>h.ends (l:=l) i e;have ZH:∀V',uk V V'->Ha l V' i e:=λV' h=>by
  cases e with
  | breaks z'=>obtain⟨j,d,a1,a2,a3,a4⟩:=eo;obtain⟨d',b1,b2⟩:=h.at_ a2;exact⟨j,d',by rw[h.nN];exact a1,b1,a3,by rw[show d'.ms=d.ms from show d'.bare.ms=d.bare.ms by rw[b2]];exact a4⟩
  | rings _ _=>exact eo
  | _=>trivial
 generalize rc V (sr i Fa st)=V2 at c2 X6 same q;have Yh:∀(M3:Mp) (A3:uj) (V3:qJ),vb a M0 M3 b A3 V3 l c (n+2*st.length+1)->rE A M A3 M3->uk V V3->i<V3.calls.length->V3=rc V2 (uF i st e)->Jy a [.ref b,.int ((i:Nat):Int),e.d] M3 λ_ M'=>∃Xb,qO Xb M'/\Q .mW Xb:=λM3 A3 V3 c3 s3 Yi hi3 e3=>⟨M0,b,A3,V3,l,c,_,i,e,Z',c3,hc,by lia,hi3,ZH V3 Yi,λM4 A4 c4 s4=>⟨M4,.refl,q M4 A4 (by
  rw[<-e3];rw[hee V3 Yi]at c4;exact c4.mono (dq _) (by lia)) (s3.trans s4)⟩⟩
 have c2':=c2.mono (dq c) (show n+2*st.length<=n+2*st.length+1 by lia);have Yw:=(rE.sub s1 (A:=A)).trans Xw;cases e with
 | ring ns=>
  obtain⟨x,ns',rfl⟩:=gp (show ns≠[]from re);refine i' ZS ?_;cases hl:st.getLast? with
  | none=>have:st=[]:=gR.mp hl;subst this;exact Yh M2 A2 V2 c2' Yw same X6 Z'
  | some s0=>
   have Y3:0<st.length:=by cases st with|nil=>cases hl|cons _ _=>exact mH _
   have hd:decide ((0:Int)<((qY st).length:Int))=Db:=dX (by unfold qY;rw[cV];lia);refine Bb (c:=decide ((0:Int)<((qY st).length:Int))) hd ?_;have hat1:wX (qY st) (-1)=ga (.tup [.str s0.1,uK s0.2]):=by
    unfold wX;have e1:Ht (qY st).length (-1)=ga (st.length - 1):=by unfold qY;rw[cV];unfold Ht;simp;lia
    rw[e1];show(qY st)[st.length - 1]?=_;unfold qY;rw[dC,<-jC,hl];rfl
   have hrv:uF i st (.ring (x::ns'))=[.leg ⟨i,s0.1,x,s0.1⟩]:=by unfold uF;dsimp only;rw[hl];rfl
   rw[hrv]at Yh;refine i' ZS (i' hat1 ?_);refine pJ c2.at_ ⟨Z',_,⟨Z',Z'⟩,i' (vW _ _) ⟨pE Z',b,A2,V2,.leg ⟨i,s0.1,x,s0.1⟩,Z',c2.b,c2.bd,c2.lim hc (by lia),X6,λM3 A3 eb XX bd3=>?_⟩⟩;have Yi:=same.trans (Ac V2 ⟨i,s0.1,x,s0.1⟩);exact Yh M3 A3 _ (c2.after (e:=.leg ⟨i,s0.1,x,s0.1⟩) X6 eb XX bd3) (Yw.trans XX) Yi (by rw[Yi.len];exact hi) Z'
 | rings z' ps=>exact Yh M2 A2 V2 c2' Yw same X6 Z'
 | waits z'=>exact Yh M2 A2 V2 c2' Yw same X6 Z'
 | breaks z'=>exact Yh M2 A2 V2 c2' Yw same X6 Z'
 | engaged z'=>exact Yh M2 A2 V2 c2' Yw same X6 Z'
 | barred=>exact Yh M2 A2 V2 c2' Yw same X6 Z'
def Mn:Fq P w K mg base 10 a.a7 (MT a):=by
 refine fq G.a7.toDG zC (λr u=>⟨_,(pH (pW 3 zC (qc qC Z' G.g qB (qp (pN v0))))
 (pH (pY (qm v0 G.c.toCls G.k (rK G) r (qp (pX (rJ pL U3 U1)))))
 (pH (pY (qm v0 G.c.toCls G.k (rK G) r (qp (pX (qh pL (qh U3 (rJ U1 U2 U1)))))))
 (pI (pY (pV (Jj G) r G.ae (sd v0 U3))))))),?_⟩)
 rintro ds M Q ⟨M0,b,A,V,l,c,n,y,z,rfl,cu,hc,hn,wf,q⟩
 have lc:((A.cs.map λk=>D.ref k.p).length:Int)=(V.calls.length:Nat):=by rw[cV,cu.bd.len]
 refine pJ cu.at_ (i' Z' (i' cu.bd.ca ?_));rw[lc];refine pJ cu.at_ ⟨Z',_,⟨Z',Z'⟩,pE Z',b,A,V,.new V.calls.length y,Z',cu.b,cu.bd,cu.lim (by lia) (by lia),trivial,λM1 A1 eb1 XN bd1=>?_⟩;have c1:=cu.after (e:=.new V.calls.length y) trivial eb1 XN bd1;have ok2:(Ev.leg ⟨V.calls.length,y,z,y⟩).ok (qA V (.new V.calls.length y)):=by show V.calls.length<(V.calls++[zV y]).length;rw[cX];exact fR _
 refine pJ c1.at_ ⟨Z',_,⟨Z',Z'⟩,pE Z',b,A1,_,.leg ⟨V.calls.length,y,z,y⟩,Z',c1.b,c1.bd,c1.lim (by show c+1<=_;lia) (by lia),ok2,λM2 A2 eb2 Xw YL=>?_⟩;have c2:=c1.after ok2 eb2 Xw YL;obtain⟨k,hk⟩:∃k,(rc V [.new V.calls.length y,.leg ⟨V.calls.length,y,z,y⟩]).calls[V.calls.length]?=ga k:=by
  have:V.calls.length<(rc V [.new V.calls.length y,.leg ⟨V.calls.length,y,z,y⟩]).calls.length:=by show V.calls.length<((V.calls++[zV y]).modify _ _).length;rw[gu];exact ok2
  exact⟨_,cY this⟩
 refine⟨M0,b,A2,_,l,c+1,n+2,V.calls.length,k,Z',c2,by lia,by lia,wf,hk,λM3 A3 c3 XX=>⟨M3,.refl,q M3 A3 ?_ (XN.trans (Xw.trans XX))⟩⟩;unfold Fh;rw[so];exact c3.mono (dq _) (by lia)
def EY(V:qJ)(x:Str):D:=Dk (vc V x)
abbrev Er:=K1 EY
def Me(a:Ad):rM:=λds M Q=>Hw λA V l x z=>ds=[.ref A.b,.str x,.str z]/\Rd a M A V l/\x∈l.pn/\Q (Dk (GY l V x z)) M
inductive wx(a:Ad)(M:Mp)(L:QXQ):List r6->List pM->Prop
 | nil:wx a M L [] []
 | cons (k:r6) (c:pM) (ks:List r6) (cs:List pM) (h:sA a M L k c) (r:wx a M L ks cs):wx a M L (k::ks) (c::cs)
def uM.nf(w:Str)(m:Nat):Prop:=((w="answer"\/w="hang"\/w="hold"\/w="back")/\m=1)\/((w="hand"\/w="join")/\m=2)
def Nq(a:Ad):rM:=λds M Q=>K2 λwd x r L ks cs=>ds=[.str wd,.str x,.ref r]/\om M r=ga (List.map (λk:r6=>D.ref k.p) ks)/\wx a M L ks cs/\uM.nf wd cs.length/\Q (.bl (Jf wd x cs)) M
def Jr(a:Ad):rM:=λds M Q=>K2 λA V l wd x ns=>ds=[.ref A.b,.str wd,.str x,.tup (List.map D.int ns)]/\Rd a M A V l/\x∈l.pn/\uM.nf wd ns.length/\Q (Dk (Nh l V wd x ns)) M
def Sk(a:Ad):rM:=λds M Q=>CO λA V b i=>ds=[.ref A.b,.str (Uo b),.int i]/\pZ a M A V/\Q (Dk (OT V b i)) M
def Ir(a:Ad):rM:=λds M Q=>CO λA V l e=>ds=[.ref A.b,uM.d e]/\Rd a M A V l/\e.nG/\Q (Dk (xW l V e)) M
def WB(m:Nat):D->D
 | .int i=>.bl (zX m i)
 | _=>.bl pc
noncomputable def WN(A:uj):D->D
 | .int i=>(A.cs[i.toNat]?).elim .mW λk=>.ref k.p
 | _=>.mW
theorem Q6{V:qJ}(bd:pZ a M A V):∀{ns:T0 Int},ns.all (zX V.calls.length)=Db->∃ks,wx a M (A.lists++V.fo) ks (uh V ns)/\(ns.map D.int).map (WN A)=ks.map (λk:r6=>D.ref k.p)/\(uh V ns).length=ns.length/\∀i∈ns,∃k,0<=i/\A.cs[i.toNat]?=ga k
 | [],_=>⟨[],.nil,Z',Z',λi hi=>by cases hi⟩
 | i::r,h=>by
  rw[eO,dU]at h;obtain⟨ks,h1,h2,h3,h4⟩:=Q6 bd h.2;have hh:(decide (0<=i)&&decide (i<V.calls.length))=Db:=h.1;rw[dU,eB,eB]at hh;have hi:i.toNat<V.calls.length:=by lia
  have hk:i.toNat<A.cs.length:=by rw[bd.len];exact hi
  have e1:A.cs[i.toNat]?=ga A.cs[i.toNat]:=cY hk;have e2:V.calls[i.toNat]?=ga V.calls[i.toNat]:=cY hi;have ec:uh V (i::r)=V.calls[i.toNat]::uh V r:=by unfold uh;rw[List.filterMap_cons_some (f:=λi:Int=>V.calls[i.toNat]?) e2]
  rw[ec];refine⟨A.cs[i.toNat]::ks,.cons _ _ _ _ (bd.cs _ _ _ e1 e2) h1,?_,eV Nat.succ h3,λj hj=>?_⟩
  .rw[dW,dW,h2];show(A.cs[i.toNat]?).elim _ _::_=_;rw[e1];rfl
  .rcases dh.mp hj with rfl|hj
   .exact⟨_,hh.1,e1⟩
   .exact h4 j hj
def wx.sub(h:wx a M L ks cs)(s:qO M M'):wx a M' L ks cs:=by
 induction h with
 | nil=>exact .nil
 | cons k c ks cs h r ih=>exact .cons k c ks cs (h.sub s) ih
def Rq{bs:T0 Bool}{i:Int}(h:zX bs.length i=Db):wX (bs.map D.bl) i=ga (.bl (bs.getD i.toNat pc)):=by
 have hh:(decide (0<=i)&&decide (i<bs.length))=Db:=h;rw[dU,eB,eB]at hh;obtain⟨n,rfl⟩:=eE hh.1;have hn:n<bs.length:=by lia
 refine uB ?_;rw[dC,cY hn];show ga (D.bl bs[n])=ga (.bl (bs.getD n pc));rw[fS,cY hn];rfl
def Eu:Fq P w K mg base 4 a.ad (Er a):=by
 refine fq G.ad.toDG yZ (λr u=>⟨_,(pH (qa (pP u (qm v0 G.c.toCls G.bK (Mh G) r (qp U1)) tw)
 (pI (pO pL))
 pU)
 (pH (qa (pP u (qm v0 G.c.toCls G.bL (HY G) r (qp U1)) tw)
 (pI (pO pL))
 pU)
 (pI (pO tw)))),?_⟩)
 rintro ds M Q ⟨A,V,x,rfl,bd,hk,q⟩
 unfold EY vc at q;refine pJ bd.at_ ⟨Z',_,⟨Z',Z'⟩,A,V,x,Z',bd,hk,?_⟩;unfold Nf;cases e:FL V x with
 | some j=>rw[e]at q;exact⟨M,.refl,q⟩
 | none=>
  rw[e]at q;refine pJ bd.at_ ⟨Z',_,⟨Z',Z'⟩,A,V,x,Z',bd,hk,?_⟩;unfold TY;cases e:JL V x with
  | some j=>rw[e]at q;exact⟨M,.refl,q⟩
  | none=>rw[e]at q;exact⟨M,.refl,q⟩
def Mu:Fq P w K mg base 5 a.aY (Me a):=by
 refine fq G.aY.toDG xc (λr u=>⟨_,(pH (qa (pP u U2 (yK (pN v0) G.h.toCls G.bG (Dz G) r))
 (pI (pO pL))
 pU)
 (pH (pW 3 xc (pV (Eu G) r G.ad (sd v0 U1)))
 (pH (qa (W3.b3 (vh (pP u U3 tw) (uE (vm (ua (qm v0 G.c.toCls G.T (zc G) r (qp U1)))))))
 (pI (pO pL))
 pU)
 (pI (pO U3))))),?_⟩)
 rintro ds M Q ⟨A,V,l,x,z,rfl,rd,hx,q⟩
 obtain⟨ph,gr,ws,YK,pr,gd,rs,i1,_⟩:=rd.pl;have p8:=rd.ok.p8;have g3:=rd.ok.g3;unfold GY at q;refine pJ rd.bd.at_ (i' Z' (pJ i1 ⟨Z',_,⟨Z',Z'⟩,V.p,l,Z',rd.pl,by lia,by lia,λp hp=>i' pS ⟨Z',qE _,?_⟩⟩));obtain⟨M1,e0,t,_⟩:=uT (ds:=l.nm.map D.str) hp;rw[<-e0];have XO:=rd.sub t;show if (!(inD (.str z) (l.nm.map D.str)))=Db then _ else _
 rw[sP];refine qD (c:=!(hasS l.nm z)) (λg=>?_) (λg=>?_)
 .rw[de (by simpa using g)]at q;exact⟨M,t,q⟩
 rw[c9 (by simpa using g)]at q;refine⟨A,V,x,Z',XO.bd,XO.k,?_⟩;unfold EY;cases e:vc V x with
 | some w0=>rw[e]at q;exact⟨M,t,q⟩
 | none=>
  rw[e]at q;refine pJ XO.bd.at_ ⟨Z',_,⟨Z',Z'⟩,A,V,l,x,Z',XO,hx,?_⟩;refine qD (c:=!(sJ l V x)) (λg=>?_) (λg=>?_)
  .rw[g]at q;exact⟨M,t,q⟩
  .rw[show(!(sJ l V x))=pc from dG.mpr g]at q;exact⟨M,t,q⟩
def MX:Fq P w K mg base 3 a.aZ (Nq a):=by
 refine fq G.aZ.toDG MQ (λr u=>⟨_,(pH (qa (pP u v0 pL)
 (pI (pO (qr u U1 (pN (pT U2 pK)))))
 pU)
 (pH (qa (pP u v0 pL)
 (pI (pO (qm (pT U2 pK) G.e.toCls G.bO (L7 G) r (qp U1))))
 pU)
 (pH (qa (pP u v0 pL)
 (pI (pO (qm (pT U2 pK) G.e.toCls G.aL (GX G) r (qp U1))))
 pU)
 (pH (qa (pP u v0 pL)
 (pI (pO (qr u (pN (pT U2 pK)) U1)))
 pU)
 (pI (pO (tL (qr u (pN (pT U2 pK)) U1) (sT (qm (pT U2 pK) G.e.toCls G.aL (GX G) r (qp U1)))))))))),?_⟩)
 rintro ds M Q ⟨wd,x,r,L,ks,cs,rfl,lr,ZC,hw,q⟩
 cases ZC with
 | nil=>rcases hw with⟨_,h⟩|⟨_,h⟩<;>cases h
 | cons k c ks cs hc XU=>
 obtain⟨ad,md,h1,h2,h3,h4,_⟩:=id hc;have a0:=vW (.ref k.p) (ks.map λk:r6=>D.ref k.p);have hold:∀K:DK,K (.bl (c.hd==ga x)) M->Option.elim (xj M 9 (Dk c.hd) (.str x)) False λb=>K (.bl b) M:=λK hK=>by
  cases e:c.hd with
  | none=>rw[e]at hK;exact hK
  | some y=>rw[e]at hK;exact hK
 rcases hw with⟨rfl|rfl|rfl|rfl,h⟩|⟨hw,h⟩
 .exact i' lr (i' a0 (pJ h1 (i' Z' (AU h3 ⟨M,.refl,q⟩))))
 .exact i' lr (i' a0 (pJ h1 ⟨Z',_,⟨Z',Z'⟩,L,k,c,x,Z',hc,M,.refl,q⟩))
 .exact i' lr (i' a0 (pJ h1 ⟨Z',_,⟨Z',Z'⟩,L,k,c,x,Z',hc,M,.refl,q⟩))
 .exact i' lr (i' a0 (pJ h1 (i' Z' (hold _ ⟨M,.refl,q⟩))))
 .cases XU with
  | nil=>cases h
  | cons k' d ks cs hd _=>
   obtain⟨ad',md',f1,_⟩:=id hd;have a1:wX (.ref k.p::.ref k'.p::ks.map λk:r6=>D.ref k.p) 1=ga (.ref k'.p):=uB (j:=1) Z';have qq:Q (.bl ((c.hd==ga x)&&d.m9 x)) M:=by
    rcases hw with rfl|rfl
    .exact q
    .exact q
   rcases hw with rfl|rfl
   all_goals
    refine i' lr (i' a0 (pJ h1 (i' Z' ?_)));cases e:c.hd with
    | none=>rw[e]at qq;exact⟨M,.refl,qq⟩
    | some y=>
     rw[e]at qq;have qq:Q (.bl ((y==x)&&d.m9 x)) M:=qq;refine qD (c:=y==x) (λg=>?_) (λg=>?_)
     .rw[g,eP]at qq;exact i' lr (i' a1 (pJ f1 ⟨Z',_,⟨Z',Z'⟩,L,k',d,x,Z',hd,M,.refl,qq⟩))
     .rw[show(y==x)=pc from dG.mpr g,e9]at qq;exact⟨M,.refl,qq⟩
def Pb:Fq P w K mg base 5 a.a0 (Jr a):=by
 refine fq G.a0.toDG ul (λr u=>⟨_,(pH (qa (vm (ua (qc (Ft Z') Z' G.bU FR (qp (qT Z' (xV (ix:=[Fa,ga 0]) (N':=["number","board"])) (qP U3) (qQ 0) sC (uW u pK v0 (qc qC Z' G.g qB (qp (pN U1)))))))))
 (pI (pO pL))
 pU)
 (pH (vf (i:=4) ul.nd Z' (Or.inl Z') Z' (xV (ix:=[Fa,ga 0]) (N':=["number","board"])) (qP U3) (qQ 0) sC (pT (pN U1) v0))
 (pH (qa (vm (ua (pV (MX G) r G.aZ (rJ U1 U2 v4))))
 (pI (pO pL))
 pU)
 (pH (qa (pP u U1 (pX (sd pL pL)))
 (pI (pO tw))
 pU)
 (pH (pW 5 ul (pV (Eu G) r G.ad (sd v0 U2)))
 (pH (qa (W3.b3 (vh (pP u v5 tw) (vh (ua (qm (pT v4 pK) G.e.toCls G.aG (Hv G) r (qp U2))) (uE (vm (ua (qm v0 G.c.toCls G.T (zc G) r (qp U2))))))))
 (pI (pO pL))
 pU)
 (pI (pO v5)))))))),?_⟩)
 rintro ds M Q ⟨A,V,l,wd,x,ns,rfl,rd,hx,hw,q⟩
 have hz:=dI;have ZT:ns.length<=2:=by rcases hw with⟨_,h⟩|⟨_,h⟩<;>lia
 have lca:((A.cs.map λk=>D.ref k.p).length:Int)=V.calls.length:=by rw[cV,rd.bd.len]
 unfold Nh at q;refine rG (f:=WB V.calls.length) trivial _ [] _ (by rw[cV];simp only[dF];lia) (λd hd k hk=>?_) λp hp=>?_
 .obtain⟨i,_,rfl⟩:=dD.mp hd;have hk:k (.bl (decide (0<=i)&&decide (i<V.calls.length))) M:=hk;refine qD (c:=decide (0<=i)) (λg=>?_) (λg=>?_)
  .rw[g,eP]at hk;refine pJ rd.bd.at_ (i' Z' (i' rd.bd.ca ?_));rw[lca];exact hk
  .rw[show decide (0<=i)=pc from dG.mpr g,e9]at hk;exact hk
 have em:[]++(ns.map D.int).map (WB V.calls.length)=ns.map λi=>D.bl (zX V.calls.length i):=by rw[dZ,eh];rfl
 rw[em];have t:=qO.new (c:=.lst (ns.map λi=>D.bl (zX V.calls.length i))) hp;refine i' pS (i' (yG (zX V.calls.length) ns) ?_);have XO:=rd.sub t;generalize pQ M p (.lst (ns.map λi=>D.bl (zX V.calls.length i)))=M1 at t XO ⊢;rw[Aa];refine qD (c:=!(ns.all (zX V.calls.length))) (λg=>?_) (λYc=>?_)
 .rw[de (by simpa using g)]at q;exact⟨M,t,q⟩
 have Yc:ns.all (zX V.calls.length)=Db:=by simpa using Yc
 rw[c9 (by rw[Yc];exact Bool.noConfusion)]at q;obtain⟨ks,hks,eks,lcs,Y9⟩:=Q6 XO.bd Yc;refine rG (f:=WN A) trivial _ [] _ (by rw[cV];simp only[dF];lia) (λd hd k0 hk=>?_) λp2 Xh=>?_
 .obtain⟨i,hi,rfl⟩:=dD.mp hd;obtain⟨k,i0,e1⟩:=Y9 i hi;obtain⟨n,rfl⟩:=eE i0;have e1:A.cs[n]?=ga k:=e1;have hk:k0 ((A.cs[n]?).elim .mW λk=>.ref k.p) M1:=hk;rw[e1]at hk;exact pJ XO.bd.at_ (i' Z' (i' Z' (i' XO.bd.ca (i' (rO e1) hk))))
 rw[dZ,eks];obtain⟨M2,e0,t2,l2⟩:=uT (ds:=ks.map λk:r6=>D.ref k.p) Xh;rw[<-e0];have Y6:=XO.sub t2;have s2:=t.trans t2;have hks:=hks.sub t2;generalize uh V ns=cs at hks lcs q;refine⟨wd,x,p2,_,ks,cs,Z',l2,hks,by rw[lcs];exact hw,?_⟩;refine qD (c:=!Jf wd x cs) (λg=>?_) (λg=>?_)
 .rw[de (by simpa using g)]at q;exact⟨M,s2,q⟩
 rw[c9 (by simpa using g)]at q;have two:∀wd:Str,(wd=="answer"||wd=="back")=Db->Q (Dk (if ((vc V x).isNone&&(cs.head?.elim pc (λc=>c.mX x)&&!(sJ l V x)))=Db then ga "full" else vc V x)) M->cs.length=1->Er a [.ref A.b,.str x] M2 λYB M3=>va (OG (Ol (b3 (k3 .Is (v3 5) (c3 .mW))) (Ol (b3 (A8 "waits_with" (λD s=>D=a.e/\s=wz a) (i3 (v3 4) (c3 (.int 0))) (wb (v3 2) yr))) (UG (b3 (A8 "is_free" (λD s=>D=a.c/\s=xR a) (v3 0) (wb (v3 2) yr)))))) (S9 (c3 (.str "full"))) Tw) (S9 (v3 5)) {nx:=λ_ M'=>∃Xb,qO Xb M'/\Q .mW Xb,rt:=λd M'=>∃Xb,qO Xb M'/\Q d Xb} [ga (.ref A.b),ga (.str wd),ga (.str x),ga (.tup (ns.map D.int)),ga (.ref p2),ga YB] M3:=λwd _ q hl=>by
  cases hks with
  | nil=>cases hl
  | cons k c ks cs hc _=>
  have q:Q (Dk (if ((vc V x).isNone&&(c.mX x&&!(sJ l V x)))=Db then ga "full" else vc V x)) M:=q;obtain⟨ad,md,h1,_⟩:=id hc;refine⟨A,V,x,Z',Y6.bd,Y6.k,?_⟩;unfold EY;cases e:vc V x with
  | some w0=>rw[e]at q;exact⟨M,s2,q⟩
  | none=>
   rw[e]at q;refine i' l2 (i' (vW _ _) (pJ h1 ⟨Z',_,⟨Z',Z'⟩,_,k,c,x,Z',hc,?_⟩));refine qD (c:=c.mX x) (λg1=>?_) (λg1=>?_)
   .rw[g1]at q;refine pJ Y6.bd.at_ ⟨Z',_,⟨Z',Z'⟩,A,V,l,x,Z',Y6,hx,?_⟩;refine qD (c:=!(sJ l V x)) (λg=>?_) (λg=>?_)
    .rw[g]at q;exact⟨M,s2,q⟩
    .rw[show(!(sJ l V x))=pc from dG.mpr g]at q;exact⟨M,s2,q⟩
   .rw[show c.mX x=pc from dG.mpr g1]at q;exact⟨M,s2,q⟩
 rcases hw with⟨rfl|rfl|rfl|rfl,h⟩|⟨rfl|rfl,h⟩
 .exact⟨pE Z',Z',Z',two "answer" Z' q (lcs.trans h)⟩
 .exact⟨pE Z',Z',Z',M,s2,q⟩
 .exact⟨pE Z',Z',Z',M,s2,q⟩
 .exact⟨pE Z',Z',Z',two "back" Z' q (lcs.trans h)⟩
 .exact⟨pE Z',Z',Z',M,s2,q⟩
 .exact⟨pE Z',Z',Z',M,s2,q⟩
def SJ:Fq P w K mg base 1 a.a1 (Sk a):=by
 refine fq G.a1.toDG zk (λr u=>⟨_,(pH (qa (vm (GW u pK U2 (qc qC Z' G.g qB (qp (pN v0)))))
 (pI (pO pL))
 pU)
 (pH (qa (pP u (pT (pN v0) U2) (qr u U1 pL))
 (pI (pO pL))
 pU)
 (pI (pO tw)))),?_⟩)
 rintro ds M Q ⟨A,V,b,i,rfl,bd,q⟩
 unfold OT at q;have Y9:zX V.on.length i=(decide (0<=i)&&decide (i<V.on.length)):=rfl;have lon:((V.on.map D.bl).length:Int)=V.on.length:=by rw[cV]
 have no:zX V.on.length i=pc->Q (.str "wish") M:=λh=>by rw[de h]at q;exact q
 have yes:zX V.on.length i=Db->Q (Dk (if (V.on.getD i.toNat pc==b)=Db then ga "wish" else Fa)) M:=λh=>by rw[h,c9 Bool.noConfusion]at q;exact q
 refine qD (c:=decide (0<=i)) (λg0=>?_) (λg0=>⟨M,.refl,no (by rw[Y9,show decide (0<=i)=pc from dG.mpr g0];rfl)⟩);refine pJ bd.at_ (i' Z' (i' bd.on ?_));rw[lon];refine qD (c:=!(decide (i<(V.on.length:Int)))) (λg1=>⟨M,.refl,no (by rw[Y9,g0,show decide (i<(V.on.length:Int))=pc by simpa using g1];rfl)⟩) (λg1=>?_);have h:zX V.on.length i=Db:=by rw[Y9,g0,show decide (i<(V.on.length:Int))=Db by simpa using g1];rfl
 have q:=yes h;refine pJ bd.at_ (i' Z' (i' Z' (i' bd.on (i' (Rq h) ?_))));have es:(Uo b=="on")=b:=by cases b<;>rfl
 show if (V.on.getD i.toNat pc==(Uo b=="on"))=Db then _ else _
 rw[es];refine qD (λg=>?_) (λg=>?_)
 .rw[de g]at q;exact⟨M,.refl,q⟩
 .rw[c9 g]at q;exact⟨M,.refl,q⟩
def Iw:Fq P w K mg base 6 a.a2 (Ir a):=by
 refine fq G.a2.toDG Cv (λr u=>⟨_,(pH (pW 2 Cv (pT U1 pK))
 (pH (qa (pP u U2 pL)
 (pI (pO tw))
 pU)
 (pH (qa (pP u U2 (pX (sd pL pL)))
 (pI (pO (pV (SJ G) r G.a1 (rJ v0 U2 (pT U1 pK)))))
 pU)
 (pH (qa (pP u (pT U1 pK) (yK (pN v0) G.h.toCls G.S (uo G) r))
 (pI (pO pL))
 pU)
 (pH (qa (pP u U2 pL)
 (pI (pO (pV (Mu G) r G.aY (rJ v0 (pT U1 pK) (pT U1 pK)))))
 pU)
 (pI (pO (pV (Pb G) r G.a0 (qh v0 (rJ U2 (pT U1 pK) (rS U1 (sO pK) sL))))))))))),?_⟩)
 rintro ds M Q ⟨A,V,l,e,rfl,rd,hf,q⟩
 obtain⟨ph,gr,ws,YK,pr,gd,rs,i1,_⟩:=rd.pl;have p8:=rd.ok.p8;cases e with
 | turn=>exact⟨M,.refl,q⟩
 | sw b i=>
  cases b with
  | true=>exact⟨pE Z',Z',Z',A,V,Db,i,Z',rd.bd,M,.refl,q⟩
  | false=>exact⟨pE Z',Z',Z',A,V,pc,i,Z',rd.bd,M,.refl,q⟩
 | call x z=>
  have q:Q (Dk (if hasS l.pn x=pc then ga "name" else GY l V x z)) M:=q;refine⟨pE Z',Z',Z',?_⟩;refine pJ rd.bd.at_ (i' Z' (pJ i1 ⟨Z',_,⟨Z',Z'⟩,V.p,l,Z',rd.pl,by lia,λp Xh=>i' pS ⟨Z',qE _,?_⟩⟩));obtain⟨M1,e0,t,_⟩:=uT (ds:=l.pn.map D.str) Xh;rw[<-e0];have XO:=rd.sub t;show if (!(inD (.str x) (l.pn.map D.str)))=Db then _ else _
  rw[sP];refine qD (c:=!(hasS l.pn x)) (λg=>?_) (λg=>?_)
  .rw[de (by simpa using g)]at q;exact⟨M,t,q⟩
  .have g:hasS l.pn x=Db:=by simpa using g
   rw[g,c9 Bool.noConfusion]at q;exact⟨A,V,l,x,z,Z',XO,ra.mp g,M,t,q⟩
 | num wd x ns=>
  have q:Q (Dk (if hasS l.pn x=pc then ga "name" else Nh l V wd x ns)) M:=q;have hf:uM.nf wd ns.length:=hf;have key:∀(M1:Mp),qO M M1->if (!(inD (.str x) (l.pn.map D.str)))=Db then(∃Xb,qO Xb M1/\Q (.str "name") Xb)else Jr a [.ref A.b,.str wd,.str x,.tup (ns.map D.int)] M1 λd M'=>∃Xb,qO Xb M'/\Q d Xb:=λM1 t=>by
   rw[sP];refine qD (c:=!(hasS l.pn x)) (λg=>?_) (λg=>?_)
   .rw[de (by simpa using g)]at q;exact⟨M,t,q⟩
   .have g:hasS l.pn x=Db:=by simpa using g
    rw[g,c9 Bool.noConfusion]at q;exact⟨A,V,l,wd,x,ns,Z',rd.sub t,ra.mp g,hf,M,t,q⟩
  have one:ns.length=1->∃i,ns=[i]:=List.length_eq_one_iff.mp;have two:ns.length=2->∃i j,ns=[i,j]:=λh=>by
   match ns,h with
   | [i,j],_=>exact⟨i,j,Z'⟩
  rcases id hf with⟨rfl|rfl|rfl|rfl,h⟩|⟨rfl|rfl,h⟩
  .obtain⟨i,rfl⟩:=one h;exact⟨pE Z',Z',Z',pJ rd.bd.at_ (i' Z' (pJ i1 ⟨Z',_,⟨Z',Z'⟩,V.p,l,Z',rd.pl,by lia,λp Xh=>i' pS ⟨Z',qE _,key _ (.new Xh)⟩⟩))⟩
  .obtain⟨i,rfl⟩:=one h;exact⟨pE Z',Z',Z',pJ rd.bd.at_ (i' Z' (pJ i1 ⟨Z',_,⟨Z',Z'⟩,V.p,l,Z',rd.pl,by lia,λp Xh=>i' pS ⟨Z',qE _,key _ (.new Xh)⟩⟩))⟩
  .obtain⟨i,rfl⟩:=one h;exact⟨pE Z',Z',Z',pJ rd.bd.at_ (i' Z' (pJ i1 ⟨Z',_,⟨Z',Z'⟩,V.p,l,Z',rd.pl,by lia,λp Xh=>i' pS ⟨Z',qE _,key _ (.new Xh)⟩⟩))⟩
  .obtain⟨i,rfl⟩:=one h;exact⟨pE Z',Z',Z',pJ rd.bd.at_ (i' Z' (pJ i1 ⟨Z',_,⟨Z',Z'⟩,V.p,l,Z',rd.pl,by lia,λp Xh=>i' pS ⟨Z',qE _,key _ (.new Xh)⟩⟩))⟩
  .obtain⟨i,j,rfl⟩:=two h;exact⟨pE Z',Z',Z',pJ rd.bd.at_ (i' Z' (pJ i1 ⟨Z',_,⟨Z',Z'⟩,V.p,l,Z',rd.pl,by lia,λp Xh=>i' pS ⟨Z',qE _,key _ (.new Xh)⟩⟩))⟩
  .obtain⟨i,j,rfl⟩:=two h;exact⟨pE Z',Z',Z',pJ rd.bd.at_ (i' Z' (pJ i1 ⟨Z',_,⟨Z',Z'⟩,V.p,l,Z',rd.pl,by lia,λp Xh=>i' pS ⟨Z',qE _,key _ (.new Xh)⟩⟩))⟩
def Du(V:qJ)(x:Str):Prop:=∀c∈V.calls,¬BE c x
def EV{V:qJ}(h:vc V x=Fa):Du V x:=by
 unfold vc at h;cases e1:FL V x with
 | some j=>rw[e1]at h;cases h
 | none=>
  cases e2:JL V x with
  | some j=>rw[e1,e2]at h;cases h
  | none=>
   intro c hc g;have h1:=jD.mp e1 c hc;have h2:=jD.mp e2 c hc;rcases g with g|g
   .rw[h1]at g;cases g
   .rw[h2]at g;cases g
def tI{c:pM}(h:c.st="rings"){x:Str}:BE c x↔x=c.cr:=by unfold BE pM.nz pM.m7 pM.m8;rw[h];simp(decide:=true)
def Eg{c:pM}(h:c.st="waits"){x:Str}:BE c x↔x=c.cr:=by unfold BE pM.nz pM.m7 pM.m8;rw[h];simp(decide:=true)
def uc{c:pM}(h:c.st="talks"){x:Str}:BE c x↔x∈c.ms:=by unfold BE pM.nz pM.m7 pM.m8;rw[h,<-ra];simp(decide:=true)
def Ct{c:pM}(h:c.st="held"){x:Str}:BE c x↔x∈c.ms/\c.hd≠ga x:=by unfold BE pM.nz pM.m7;rw[h,<-ra];simp(decide:=true)
def Ga{c:pM}(h:c.st="over"){x:Str}:¬BE c x:=by unfold BE pM.nz pM.m7 pM.m8;rw[h];simp(decide:=true)
def tG{c:pM}(h:c.st="rings"){x:Str}:c.hasB x=Db↔x=c.cr\/x∈c.at_:=by unfold pM.hasB;rw[h,<-ra];simp(decide:=true)
def D9{c:pM}(h:c.st="waits"){x:Str}:c.hasB x=Db↔x=c.cr:=by unfold pM.hasB;rw[h];simp(decide:=true)
def tO{c:pM}(h:c.st="talks"\/c.st="held"){x:Str}:c.hasB x=Db↔x∈c.ms:=by unfold pM.hasB;rw[<-ra];rcases h with h|h<;>(rw[h];simp(decide:=true))
def Ho{c:pM}(h:c.st="over"){x:Str}:c.hasB x=pc:=by unfold pM.hasB;rw[h];simp(decide:=true)
def sX{c:pM}{x:Str}:c.mX x=Db↔c.st="waits"/\x∈c.at_:=by unfold pM.mX;rw[dU,ft,ra]
theorem Fj{α:Type}(f:α->Bool):∀{l:List α} {i:Nat} {c:α} (c':α),l[i]?=ga c->((l.set i c').filter f).length+(if f c=Db then 1 else 0)=(l.filter f).length+(if f c'=Db then 1 else 0)
 | [],_,_,_,h=>by simp at h
 | x::r,0,c,c',h=>by cases h;rw[List.set_cons_zero,gY,gY];split<;>split<;>simp
 | x::r,i+1,c,c',h=>by
  have ih:=Fj f (l:=r) (i:=i) (c:=c) c' (by simpa using h);rw[lu,gY,gY];split
  .rw[eA,eA];lia
  .exact ih
def Ai.set{V V':qJ}{o o':Option Nat}{i:Nat}{c c':pM}(h:Ai l V o)(e:V'.calls=V.calls.set i c')(hc:V.calls[i]?=ga c)(ho:∀j,j≠i->(o==ga j)=(o'==ga j))(ok:wM l (o'==ga i) c')(he:∀x,BE c' x->BE c x\/Du V x)(hu:∀x,c'.hasB x=Db->c.hasB x=Db\/(uU V x:Int)<xp l x)(hw:∀x,c'.mX x=Db->c.mX x=Db\/AN V x=pc)(nx:uY l V'):Ai l V' o':=by
 have si:∀{j:Nat} {d:pM},V'.calls[j]?=ga d->(j=i/\d=c')\/(j≠i/\V.calls[j]?=ga d):=λ{j d} g=>by rw[e]at g;exact(FU g).imp (λg=>⟨g.1,g.2.1⟩) id
 have key:∀(j:Nat) cj x,j≠i->V.calls[j]?=ga cj->BE c' x->BE cj x->False:=λj cj x hj e1 g1 g2=>by
  rcases he x g1 with z|z
  .exact hj (h.un j i cj c x e1 hc g2 z)
  .exact z cj (rb e1) g2
 have keyw:∀(j:Nat) cj x,j≠i->V.calls[j]?=ga cj->c'.mX x=Db->cj.mX x=Db->False:=λj cj x hj e1 g1 g2=>by
  rcases hw x g1 with z|z
  .exact hj (h.wt j i cj c x e1 hc g2 z)
  .unfold AN at z;exact absurd g2 (by rw[lz.mp z cj (rb e1)|>dG.mpr];exact Bool.noConfusion)
 refine⟨λj d g=>?_,λm n cm cn x e1 e2 g1 g2=>?_,λx hx=>?_,λm n cm cn x e1 e2 g1 g2=>?_,nx⟩
 .rcases si g with⟨rfl,rfl⟩|⟨hj,g⟩
  .exact ok
  .rw[<-ho j hj];exact h.ok j d g
 .rcases si e1 with⟨rfl,rfl⟩|⟨hm,e1⟩<;>rcases si e2 with⟨rfl,rfl⟩|⟨hn,e2⟩
  .rfl
  .exact(key n cn x hn e2 g1 g2).elim
  .exact(key m cm x hm e1 g2 g1).elim
  .exact h.un m n cm cn x e1 e2 g1 g2
 .have cs:=Fj (λk:pM=>k.hasB x) c' hc;have hl:=h.ln x hx;unfold uU at hl ⊢;rw[e];by_cases g:c'.hasB x=Db
  .rw[de g]at cs;rcases hu x g with z|z
   .rw[de z]at cs;lia
   .unfold uU at z;lia
  .rw[c9 g]at cs;lia
 .rcases si e1 with⟨rfl,rfl⟩|⟨hm,e1⟩<;>rcases si e2 with⟨rfl,rfl⟩|⟨hn,e2⟩
  .rfl
  .exact(keyw n cn x hn e2 g1 g2).elim
  .exact(keyw m cm x hm e1 g2 g1).elim
  .exact h.wt m n cm cn x e1 e2 g1 g2
def Ai.add{V V':qJ}{c':pM}(h:WF l V)(e:V'.calls=V.calls++[c'])(ok:wM l Db c')(he:∀x,BE c' x->Du V x)(hu:∀x,c'.hasB x=Db->(uU V x:Int)<xp l x)(hw:∀x,c'.mX x=pc)(nx:uY l V'):Ai l V' (ga V.calls.length):=by
 have si:∀{j:Nat} {d:pM},V'.calls[j]?=ga d->(j=V.calls.length/\d=c')\/(j≠V.calls.length/\V.calls[j]?=ga d):=λ{j d} g=>by
  rw[e]at g;by_cases z:j<V.calls.length
  .rw[fi z]at g;exact .inr ⟨by lia,g⟩
  .have:=(cZ.mp g).1;rw[cX,dH]at this;have z:j=V.calls.length:=by lia
   subst z;rw[eU (dq _)]at g;simp only[ik,iK,jy]at g;exact .inl ⟨Z',g.symm⟩
 refine⟨λj d g=>?_,λm n cm cn x e1 e2 g1 g2=>?_,λx hx=>?_,λm n cm cn x e1 e2 g1 g2=>?_,nx⟩
 .rcases si g with⟨rfl,rfl⟩|⟨hj,g⟩
  .rw[eL];exact ok
  .rw[show(ga V.calls.length==ga j)=pc by simpa using dQ hj];exact h.ok j d g
 .rcases si e1 with⟨rfl,rfl⟩|⟨hm,e1⟩<;>rcases si e2 with⟨rfl,rfl⟩|⟨hn,e2⟩
  .rfl
  .exact(he x g1 cn (rb e2) g2).elim
  .exact(he x g2 cm (rb e1) g1).elim
  .exact h.un m n cm cn x e1 e2 g1 g2
 .have hl:=h.ln x hx;unfold uU at hl ⊢;rw[e,gq,cX,gY];split
  .rename_i g;have:=hu x g;unfold uU at this;simp only[fW,dH];lia
  .simp only[fW,dF];lia
 .rcases si e1 with⟨rfl,rfl⟩|⟨hm,e1⟩<;>rcases si e2 with⟨rfl,rfl⟩|⟨hn,e2⟩
  .rfl
  .rw[hw x]at g1;cases g1
  .rw[hw x]at g2;cases g2
  .exact h.wt m n cm cn x e1 e2 g1 g2
noncomputable def pM.core(c:pM):pM:={c with way:=[],si:=0}
def zK(V V':qJ):Prop:=V'.calls.map pM.core=V.calls.map pM.core
def zK.at_{V V':qJ}(h:zK V V'){i:Nat}{c':pM}(e:V'.calls[i]?=ga c'):∃c,V.calls[i]?=ga c/\c'.core=c.core:=by
 have:=eV (·[i]?) h;simp only[dC,e]at this;cases e':V.calls[i]? with
 | none=>rw[e']at this;cases this
 | some c=>rw[e']at this;exact⟨c,Z',dg this⟩
def zK.used{V V':qJ}(h:zK V V')(x:Str):uU V' x=uU V x:=by
 have key:∀cs:List pM,(cs.filter (·.hasB x)).length=((cs.map pM.core).filter (·.hasB x)).length:=λcs=>by rw[hW,cV];rfl
 unfold uU;rw[key,h,<-key]
def zK.wf{V V':qJ}{o:Option Nat}(h:zK V V')(wf:Ai l V o)(hw:∀(i:Nat) c',V'.calls[i]?=ga c'->c'.way≠[]/\∀z∈c'.way,z∈l.nm)(nx:uY l V'):Ai l V' o:=by
 refine⟨λi c' e=>?_,λi j ci cj x e1 e2 g1 g2=>?_,λx hx=>by rw[h.used];exact wf.ln x hx,λi j ci cj x e1 e2 g1 g2=>?_,nx⟩
 .obtain⟨c,ec,ee⟩:=h.at_ e;have k:=wf.ok i c ec;have k1:c'.at_=c.at_:=show c'.core.at_=c.core.at_ by rw[ee]
  have k2:c'.ms=c.ms:=show c'.core.ms=c.core.ms by rw[ee]
  have k3:c'.cr=c.cr:=show c'.core.cr=c.core.cr by rw[ee]
  exact⟨by show LM _ c'.core;rw[ee];exact k.sh,by rw[k3];exact k.cr,by rw[k1];exact k.at_,by rw[k2];exact k.ms,by rw[k1];exact k.an,by rw[k2];exact k.mn,by rw[k1,k3];exact k.ca,hw i c' e⟩
 .obtain⟨di,a1,a2⟩:=h.at_ e1;obtain⟨dj,b1,b2⟩:=h.at_ e2;exact wf.un i j di dj x a1 b1 (by show BE di.core x;rw[<-a2];exact g1) (by show BE dj.core x;rw[<-b2];exact g2)
 .obtain⟨di,a1,a2⟩:=h.at_ e1;obtain⟨dj,b1,b2⟩:=h.at_ e2;exact wf.wt i j di dj x a1 b1 (by show di.core.mX x=Db;rw[<-a2];exact g1) (by show dj.core.mX x=Db;rw[<-b2];exact g2)
def uk.core{V V':qJ}(h:uk V V'):zK V V':=by have:=eV (List.map pM.core) h;rw[eh,eh]at this;exact this
def Kn(V:qJ):zK V (qA V .turn):=by show(V.calls.map pM.tick).map pM.core=V.calls.map pM.core;rw[eh];refine gD λc _=>?_;show(pM.tick c).core=c.core;unfold pM.tick;split<;>rfl
def Fc{V:qJ}(wf:WF l V):WF l (qA V .turn):=(Kn V).wf wf (λi c' e=>by
 have e:(V.calls.map pM.tick)[i]?=ga c':=e;rw[dC]at e;cases q:V.calls[i]? with
 | none=>rw[q]at e;cases e
 | some c=>
  rw[q]at e;have e:c.tick=c':=dg e;have hw:c.tick.way=c.way:=by unfold pM.tick;split<;>rfl
  rw[<-e,hw];exact(wf.ok i c q).wy) wf.nx
def Ut{V:qJ}{b:Bool}{i:Nat}(wf:WF l V):WF l (qA V (.sw b i)):=⟨wf.ok,wf.un,wf.ln,wf.wt,wf.nx⟩
def E9{V:qJ}{o:Option Nat}{i:Nat}{z:Str}{ns:T0 Nat}(wf:Ai l V o):Ai l (qA V (.asks i z ns)) o:=⟨wf.ok,wf.un,wf.ln,wf.wt,wf.nx⟩
def H9{V:qJ}{o:Option Nat}{v:tz}(wf:Ai l V o)(hz:v.g∈l.nm):Ai l (qA V (.leg v)) o:=(Ac V v).core.wf wf (λi c' e=>by
 have e:(V.calls.modify v.i (·.go v.g))[i]?=ga c':=e;rw[jg]at e;cases q:V.calls[i]? with
 | none=>rw[q]at e;cases e
 | some c=>
  rw[q]at e;have k:=(wf.ok i c q).wy;have e:(if v.i=i then c.go v.g else c)=c':=dg e;by_cases g:v.i=i
  .rw[de g]at e;rw[<-e];refine⟨by show c.way++[v.g]≠[];simp,λz hz'=>?_⟩;rcases dY.mp (show z∈c.way++[v.g]from hz')with y|y
   .exact k.2 z y
   .rw[dA.mp y];exact hz
  .rw[c9 g]at e;rw[<-show c=c' from e];exact k) wf.nx
theorem Ce{o:Option Nat}(i:Nat):∀(st:sI) (q:Option Str) {V:qJ},Ai l V o->(∀s∈st,s.1∈l.nm)->Ai l (rc V (sr i q st)) o
 | [],_,V,wf,_=>wf
 | (y,gs)::r,Fa,V,wf,h=>Ce i r (ga y) (E9 wf) λs hs=>h s (dE _ hs)
 | (y,gs)::r,ga u,V,wf,h=>Ce i r (ga y) (E9 (H9 wf (h _ dO))) λs hs=>h s (dE _ hs)
def rT{V:qJ}{i:Nat}{c:pM}{f:pM->pM}(h:V.calls[i]?=ga c):(yl V i f).calls=V.calls.set i (f c):=by unfold yl;rw[ug h]
def BC{i:Nat}:∀j,j≠i->((ga i:Option Nat)==ga j)=((Fa:Option Nat)==ga j):=λj hj=>by rw[show((ga i:Option Nat)==ga j)=pc by simpa using dQ hj];rfl
def Wh{V:qJ}{i:Nat}{c:pM}(wf:Ai l V (ga i))(hc:V.calls[i]?=ga c):c.st="rings"/\c.ms=[]/\c.hd=Fa/\c.wd=Fa/\c.at_=[]:=by
 have sh:=(wf.ok i c hc).sh;rw[eL]at sh;rcases sh with g|g
 .exact⟨g.1,g.2.1,g.2.2.1,g.2.2.2.1,g.2.2.2.2.1 Z'⟩
 .cases g.1
def Qr{c:pM}{o:Bool}{w:Str}(k:wM l o c)(hw:w∈Nv):wM l pc (c.over w):=⟨.inr ⟨Z',.inr (.inr (.inr ⟨Z',Z',Z',Z',w,hw,Z'⟩))⟩,k.cr,(λx hx=>by cases hx),(λx hx=>by cases hx),eN,eN,(λhx=>by cases hx),k.wy⟩
def xB{V V':qJ}{o:Option Nat}{i:Nat}{c:pM}{w:Str}(wf:Ai l V o)(hc:V.calls[i]?=ga c)(ho:o=Fa\/o=ga i)(hw:w∈Nv)(e:V'.calls=V.calls.set i (c.over w))(nx:uY l V'):WF l V':=
 wf.set e hc (λj hj=>by rcases ho with rfl|rfl;rfl;exact BC j hj) (Qr (wf.ok i c hc) hw) (λx g=>(Ga Z' g).elim) (λx g=>by rw[Ho (c:=c.over w) Z']at g;cases g) (λx g=>by have:=(sX.mp g).1;exact absurd this (show("over":Str)≠"waits" by decide)) nx
def HG{l:pR}{V:qJ}{c z:Str}(h:(l.mP z).Nodup):(vU l V c z).Nodup:=by
 unfold vU;split
 .cases(tN (l.mP z) (vK V z)).filter λx=>hasS (uP l V c z) x with
  | nil=>exact eN
  | cons y r=>exact dS.mpr ⟨dJ,eN⟩
 .exact h.sublist gj
def MF(ps:T0 (Str×Int))(z:Str)(n:Int)(y:Str):(CV ps z n).find? (λp=>decide (p.1=y))=if y=z then ga (z,n)else ps.find? λp=>decide (p.1=y):=by
 unfold CV;by_cases h:ps.any (λp=>decide (p.1=z))=Db
 .rw[de h];induction ps with
  | nil=>cases h
  | cons p r ih=>
   rw[dW,fP,fP];by_cases hp:p.1=z
   .rw[de hp];by_cases hy:y=z
    .rw[de hy,hy];simp[hp]
    .rw[c9 hy];have n1:decide (p.1=y)=pc:=eY (λq=>hy (q.symm.trans hp));simp only[n1];by_cases hr:r.any (λp=>decide (p.1=z))=Db
     .have:=ih hr;rw[c9 hy]at this;exact this
     .have hr:∀q∈r,¬q.1=z:=λq hq g=>hr (gG.mpr ⟨q,hq,dX g⟩);rw[show r.map (λp=>if p.1=z then(p.1,n)else p)=r from(gD λq hq=>c9 (hr q hq)).trans (jn _)]
   .rw[c9 hp];have hr:r.any (λp=>decide (p.1=z))=Db:=by
     rw[gm,hU]at h;rcases h with g|g
     .exact absurd (fD g) hp
     .exact g
    have ih:=ih hr;by_cases hy:y=z
    .rw[de hy]at ih ⊢;have n1:decide (p.1=y)=pc:=eY (λq=>hp (q.trans hy));simp only[n1];exact ih
    .rw[c9 hy]at ih ⊢;cases decide (p.1=y)with
     | true=>rfl
     | false=>exact ih
 .rw[c9 h,iP];have hr:∀q∈ps,¬q.1=z:=λq hq g=>h (gG.mpr ⟨q,hq,dX g⟩);by_cases hy:y=z
  .subst hy;rw[de Z',gJ.mpr λq hq=>by simpa using hr q hq,Option.none_or];simp
  .rw[c9 hy,fP,eY (λq:z=y=>hy q.symm)];simp
def Mj{V:qJ}{z:Str}{n:Int}(h:uY l V)(h0:0<=n)(h1:n<=((l.mP z).length:Int)):uY l (qA V (.next z n)):=λy hy ht=>by
 show ∃v,(CV V.ps z n).find? _=ga v/\_;rw[MF];by_cases e:y=z
 .subst e;rw[de Z'];exact⟨_,Z',h0,h1⟩
 .rw[c9 e];exact h y hy ht
def E5{V:qJ}(h:sJ l V x=Db):(uU V x:Int)<xp l x:=fD h
def KM{V V':qJ}{o:Option Nat}{i:Nat}{c:pM}{w x:Str}(wf:Ai l V o)(hc:V.calls[i]?=ga c)(e:V'.calls=V.calls.set i (c.over w))(hx:BE c x):Du V' x:=λd hd g=>by
 rw[e]at hd;obtain⟨j,hj,ed⟩:=gC hd;have ej:(V.calls.set i (c.over w))[j]?=ga d:=by rw[cY hj,ed]
 rcases FU ej with⟨_,rfl,_⟩|⟨Xx,ej⟩
 .exact Ga Z' g
 .exact Xx (wf.un j i d c x ej hc g hx)
def KJ{V V':qJ}{i:Nat}{c:pM}{w x:Str}(hc:V.calls[i]?=ga c)(e:V'.calls=V.calls.set i (c.over w))(hx:c.hasB x=Db):uU V' x+1=uU V x:=by
 have:=Fj (λk:pM=>k.hasB x) (c.over w) hc;unfold uU;rw[e];simp only[hx,jk,Ho (c:=c.over w) Z']at this
 simpa using this
def Gn{V V':qJ}{o:Option Nat}{i j:Nat}{c d:pM}{ms:QQQ}(wf:Ai l V o)(ho:o=Fa\/o=ga i)(hc:V.calls[i]?=ga c)(hd:V.calls[j]?=ga d)(X9:i≠j)(e:V'.calls=(V.calls.set i (c.over "merged")).set j (d.mem ms))(nx:uY l V')(dt:d.st="talks")(m1:ms.Nodup)(m2:ms.length=2\/ms.length=3)(m3:∀x∈ms,x∈d.ms\/(BE c x/\c.hasB x=Db))(m4:∀x∈ms,x∈l.pn):WF l V':=by
 have e1:(yl V i (·.over "merged")).calls=V.calls.set i (c.over "merged"):=rT hc;have w1:WF l (yl V i (·.over "merged")):=xB wf hc ho (by decide) e1 wf.nx;have hd1:(yl V i (·.over "merged")).calls[j]?=ga d:=by rw[e1,fJ X9];exact hd
 have kd:=w1.ok j d hd1;have kd':d.hd=Fa/\d.wd=Fa/\d.at_=[]:=by
  rcases kd.sh with g|⟨_,g|g|⟨_,g⟩|g⟩
  .rw[dt]at g;exact absurd g.1 (by decide)
  .rw[dt]at g;exact absurd g.1 (by decide)
  .exact⟨g.2.2.1,g.2.2.2.1,g.2.2.2.2⟩
  .rw[dt]at g;exact absurd g.1 (by decide)
  .rw[dt]at g;exact absurd g.1 (by decide)
 refine w1.set (c':=d.mem ms) (by rw[e,e1]) hd1 (λ_ _=>rfl) ⟨.inr ⟨Z',.inr (.inl ⟨dt,m2,kd'.1,kd'.2.1,kd'.2.2⟩)⟩,kd.cr,kd.at_,m4,kd.an,m1,kd.ca,kd.wy⟩ (λx g=>?_) (λx g=>?_) (λx g=>?_) nx
 .have g:=(uc (c:=d.mem ms) dt).mp g;rcases m3 x g with y|y
  .exact .inl ((uc dt).mpr y)
  .exact .inr (KM wf hc e1 y.1)
 .have g:=(tO (c:=d.mem ms) (.inl dt)).mp g;rcases m3 x g with y|y
  .exact .inl ((tO (.inl dt)).mpr y)
  .have:=KJ hc e1 y.2;have:=wf.ln x (m4 x g);exact .inr (by lia)
 .have:=(sX.mp g).1;rw[show(d.mem ms).st="talks" from dt]at this;exact absurd this (by decide)
def Rv{V V1:qJ}{i:Nat}{c:pM}{e:vB}(ok:rX l)(wf:Ai l V1 (ga i))(same:zK V V1)(hc:V1.calls[i]?=ga c)(he:Hl l V c.cr e):WF l (rc V1 (tT l V1 i e)):=by
 obtain⟨p1,p2,p3,p4,p5⟩:=Wh wf hc;have k:=wf.ok i c hc;have hi:=(cZ.mp hc).1;cases e with
 | rings z ps=>
  obtain⟨hz,Xx,rfl⟩:=he;obtain⟨⟨q1,q2,q3,q4⟩,_⟩:=ok.of hz;obtain⟨r1,r2⟩:=GV (l:=l) (V:=V) (c:=c.cr) (z:=z);generalize hps:vU l V c.cr z=ps at Xx r1 r2;have Xc:∀V2:qJ,V2.calls=V1.calls->uY l V2->WF l (qA V2 (.rings i ps)):=λV2 e2 nx=>by
   have e3:(qA V2 (.rings i ps)).calls=V1.calls.set i (c.ring ps):=by show(yl (rg V2 _) i _).calls=_;rw[rT (c:=c) (by show V2.calls[i]?=_;rw[e2];exact hc)];show V2.calls.set i _=_;rw[e2]
   have free:∀x∈ps,sJ l V x=Db/\x≠c.cr:=λx hx=>by have h:=(fA.mp (r1 x hx).1).2;simp only[dU,gN]at h;exact⟨h.2,by simpa using h.1⟩
   refine wf.set e3 hc BC ⟨.inl ⟨Z',p2,p3,p4,(λh=>by cases h),λ_=>Xx⟩,k.cr,λx hx=>q4 x (r1 x hx).2,k.ms,by rw[<-hps];exact HG q3,k.mn,λhx=>(free _ hx).2 Z',k.wy⟩ (λx g=>?_) (λx g=>?_) (λx g=>?_) nx
   .exact .inl ((tI p1).mpr ((tI (c:=c.ring ps) Z').mp g))
   .rcases(tG (c:=c.ring ps) Z').mp g with y|y
    .exact .inl ((tG p1).mpr (.inl y))
    .refine .inr ?_;rw[same.used];exact E5 (free x y).1
   .exact absurd (sX.mp g).1 (show("rings":Str)≠"waits" by decide)
  show WF l (rc V1 ((if (l.mT z=="turns")=Db then _ else _)++[.rings i ps]));rw[so];by_cases ht:(l.mT z=="turns")=Db
  .rw[de ht];have lp:0<(l.mP z).length:=fC.mpr q1;refine Xc _ Z' (Mj wf.nx (eZ _ (by lia)) (Int.le_of_lt (eX _ (by lia))))
  .rw[c9 ht];exact Xc V1 Z' wf.nx
 | waits z=>
  obtain⟨hz,Xx,hw⟩:=he;have e3:(qA V1 (.waits i z)).calls=V1.calls.set i (c.wait z):=rT (V:=rg V1 _) hc;have hw1:AN V1 z=pc:=by
   unfold AN at hw ⊢;have key:∀cs:List pM,cs.any (·.mX z)=(cs.map pM.core).any (·.mX z):=λcs=>by rw[jS];rfl
   rw[key,same,<-key];exact hw
  refine wf.set e3 hc BC ⟨.inr ⟨Z',.inl ⟨Z',p2,p3,p4,Z'⟩⟩,k.cr,λx hx=>by rw[dA.mp hx];exact hz,k.ms,dS.mpr ⟨dJ,eN⟩,k.mn,λhx=>Xx (dA.mp hx).symm,k.wy⟩ (λx g=>?_) (λx g=>?_) (λx g=>?_) wf.nx
  .exact .inl ((tI p1).mpr ((Eg (c:=c.wait z) Z').mp g))
  .exact .inl ((tG p1).mpr (.inl ((D9 (c:=c.wait z) Z').mp g)))
  .have:=(sX.mp g).2;rw[dA.mp this];exact .inr hw1
 | breaks z=>
  obtain⟨x,rfl,hb⟩:=he;obtain⟨j,d0,t1,t2,t3,t4,t5,t6⟩:=Gz hb;have ht:wB V1 z=ga j:=by
   rw[<-t1];unfold wB;have key:∀cs:List pM,cs.findIdx? (·.m8 z)=(cs.map pM.core).findIdx? (·.m8 z):=λcs=>by rw[ic];rfl
   rw[key,same,<-key]
  obtain⟨d,ed,ec⟩:∃d,V1.calls[j]?=ga d/\d.core=d0.core:=by
   have:=eV (·[j]?) same;simp only[dC,t2]at this;cases q:V1.calls[j]? with
   | none=>rw[q]at this;cases this
   | some d=>rw[q]at this;exact⟨d,Z',dg this⟩
  have ds:d.st="talks":=by rw[show d.st=d0.st from show d.core.st=d0.core.st by rw[ec]];exact t3
  have dm:d.ms=d0.ms:=show d.core.ms=d0.core.ms by rw[ec]
  have X9:i≠j:=λy=>by subst y;rw[hc]at ed;cases ed;rw[p1]at ds;exact absurd ds (by decide)
  have hee:tT l V1 i (.breaks z)=[.merge i j (d.ms++[c.cr])]:=by unfold tT;dsimp only;rw[ht,hc];dsimp only;rw[ed];rfl
  rw[hee];have ncr:c.cr∉d.ms:=λy=>X9 (wf.un i j c d c.cr hc ed ((tI p1).mpr Z') ((uc ds).mpr y));have kd:=wf.ok j d ed;refine Gn (V':=qA V1 (.merge i j (d.ms++[c.cr]))) (ms:=d.ms++[c.cr]) wf (.inr Z') hc ed X9 ?_ wf.nx ds ?_ (.inr ?_) (λx hx=>?_) (λx hx=>?_)
  .show(V1.calls.modify i _).modify j _=_;rw[ug hc,ug (show(V1.calls.set i _)[j]?=ga d by rw[fJ X9];exact ed)]
  .refine fL.mpr ⟨kd.mn,dS.mpr ⟨dJ,eN⟩,λx hx y hy q=>ncr ?_⟩;rw[dA.mp hy]at q;rw[<-q];exact hx
  .rw[cX,dm,t5];rfl
  .rcases dY.mp hx with y|y
   .exact .inl y
   .rw[dA.mp y];exact .inr ⟨(tI p1).mpr Z',(tG p1).mpr (.inl Z')⟩
  .rcases dY.mp hx with y|y
   .exact kd.ms x y
   .rw[dA.mp y];exact k.cr
 | engaged z=>exact xB (V':=qA V1 (.over i "engaged")) wf hc (.inr Z') (by decide) (rT (V:=rg V1 _) hc) wf.nx
 | barred=>exact xB (V':=qA V1 (.over i "barred")) wf hc (.inr Z') (by decide) (rT (V:=rg V1 _) hc) wf.nx
 | ring ns=>exact xB (V':=qA V1 (.over i "ring")) wf hc (.inr Z') (by decide) (rT (V:=rg V1 _) hc) wf.nx
def QM{V:qJ}{i:Nat}{k:pM}(ok:rX l)(wf:Ai l V (ga i))(hk:V.calls[i]?=ga k):WF l (rc V (xP l V i)):=by
 have Yg:=wf.ok i k hk;unfold xP;rw[hk];dsimp only[Option.elim];obtain⟨z,hz⟩:∃z,k.way.getLast?=ga z:=by
  cases e:k.way.getLast? with
  | none=>exact absurd (gR.mp e) Yg.wy.1
  | some z=>exact⟨z,Z'⟩
 rw[show k.way.getLastD Str.empty=z by rw[iB,hz];rfl];have ro:yE l V k.cr (l.nm.length+1) [] (uR l V k.cr z k.way.dropLast):=zZ ok _ _ _ _ (Yg.wy.2 z (je hz)) λx hx=>Yg.wy.2 x (jf _ hx);generalize uR l V k.cr z k.way.dropLast=R at ro;obtain⟨e,st⟩:=R;have snm:∀s∈st,s.1∈l.nm:=λs hs=>(ro.nm s hs).elim (λh=>by cases h) id;have w1:=Ce i st Fa wf snm;have XJ:=wj i st Fa V;rw[so,so];dsimp only;have Xc:∀V1:qJ,Ai l V1 (ga i)->uk V V1->WF l (rc V1 (tT l V i e)):=λV1 w s=>by
  rw[<-s.ends];obtain⟨c',e1,e2⟩:=s.at_ hk;have hcr:c'.cr=k.cr:=show c'.bare.cr=k.bare.cr by rw[e2]
  exact Rv ok w s.core e1 (by rw[hcr];exact ro.e)
 cases e with
 | ring ns=>
  obtain⟨x,ns',rfl⟩:=gp (show ns≠[]from ro.e);cases hl:st.getLast? with
  | none=>rw[show uF i st (.ring (x::ns'))=[]by unfold uF;dsimp only;rw[hl];rfl];exact Xc _ w1 XJ
  | some s0=>rw[show uF i st (.ring (x::ns'))=[.leg ⟨i,s0.1,x,s0.1⟩]by unfold uF;dsimp only;rw[hl];rfl];exact Xc _ (H9 (v:=⟨i,s0.1,x,s0.1⟩) w1 (ro.wy _ Z' x dO)) (XJ.trans (Ac _ _))
 | rings _ _=>exact Xc _ w1 XJ
 | waits _=>exact Xc _ w1 XJ
 | breaks _=>exact Xc _ w1 XJ
 | engaged _=>exact Xc _ w1 XJ
 | barred=>exact Xc _ w1 XJ
def HH{V:qJ}{y z:Str}(wf:WF l V)(hy:y∈l.pn)(hz:z∈l.nm)(hi:Du V y)(hf:sJ l V y=Db):Ai l (rc V [.new V.calls.length y,.leg ⟨V.calls.length,y,z,y⟩]) (ga V.calls.length):=by
 have e:(rc V [.new V.calls.length y,.leg ⟨V.calls.length,y,z,y⟩]).calls=V.calls++[(zV y).go z]:=by show(V.calls++[zV y]).modify V.calls.length _=_;rw[ug (c:=zV y) (by rw[eU (dq _),ik];rfl),kr _ _ (dq _),ik];rfl
 refine wf.add e ⟨.inl ⟨Z',Z',Z',Z',λ_=>rfl,(λh=>by cases h)⟩,hy,(λx h=>by cases h),(λx h=>by cases h),eN,eN,(λh=>by cases h),fB _ _,λx h=>by rw[dA.mp h];exact hz⟩ (λx h=>?_) (λx h=>?_) (λx=>?_) wf.nx
 .rw[(tI (c:=(zV y).go z) Z').mp h];exact hi
 .rcases(tG (c:=(zV y).go z) Z').mp h with g|g
  .rw[g];exact E5 hf
  .cases g
 .cases q:((zV y).go z).mX x with
  | false=>rfl
  | true=>exact absurd (sX.mp q).1 (show("rings":Str)≠"waits" by decide)
def LA{V:qJ}{y z:Str}:∃k,(rc V [.new V.calls.length y,.leg ⟨V.calls.length,y,z,y⟩]).calls[V.calls.length]?=ga k:=by
 have:V.calls.length<(rc V [.new V.calls.length y,.leg ⟨V.calls.length,y,z,y⟩]).calls.length:=by show V.calls.length<((V.calls++[zV y]).modify _ _).length;rw[gu,cX];exact fR _
 exact⟨_,cY this⟩
def E6{V:qJ}{i:Nat}{c:pM}{x y:Str}{fs:T0 Nat}(wf:WF l V)(hc:V.calls[i]?=ga c)(hs:c.st="rings")(hy:y∈l.nm):Ai l (rc V [.asks i x fs,.quiet i,.leg ⟨i,x,y,x⟩]) (ga i):=by
 refine H9 (v:=⟨i,x,y,x⟩) ?_ hy;have k:=wf.ok i c hc;have w1:WF l (qA V (.asks i x fs)):=E9 wf;have sh:c.ms=[]/\c.hd=Fa/\c.wd=Fa:=by
  rcases k.sh with g|⟨_,g|g|⟨_,g⟩|g⟩
  .exact⟨g.2.1,g.2.2.1,g.2.2.2.1⟩
  all_goals(rw[hs]at g;exact absurd g.1 (by decide))
 refine w1.set (i:=i) (c:=c) (c':=c.nS) (rT (V:=rg (qA V (.asks i x fs)) _) hc) hc (λj hj=>(BC j hj).symm) ?_ (λx g=>.inl ?_) (λx g=>.inl ?_) (λx g=>?_) wf.nx
 .rw[eL];exact⟨.inl ⟨hs,sh.1,sh.2.1,sh.2.2,λ_=>rfl,(λh=>by cases h)⟩,k.cr,(λx h=>by cases h),k.ms,eN,k.mn,(λh=>by cases h),k.wy⟩
 .exact(tI hs).mpr ((tI (c:=c.nS) hs).mp g)
 .rcases(tG (c:=c.nS) hs).mp g with y|y
  .exact(tG hs).mpr (.inl y)
  .cases y
 .have:=(sX.mp g).1;rw[show c.nS.st="rings" from hs]at this;exact absurd this (by decide)
inductive Vt(l:pR)(V:qJ)(i:Nat):List Nat->Prop
 | no:Vt l V i []
 | on (c:pM) (k:Nat) (r:List Nat) (b:Bool) (x y:Str) (n:Int):V.calls[i]?=ga c->c.st="rings"->l.mQ[k]?=ga (b,.silent x y n)->c.way.getLast?=ga x->y∈l.nm->Vt l V i (k::r)
def Hy{V:qJ}(ok:rX l):Vt l V i (Ae l V i):=by
 unfold Ae;cases e:V.calls[i]? with
 | none=>exact .no
 | some c=>
  dsimp only[Option.elim];by_cases hs:(c.st=="rings")=Db
  .rw[de hs];cases q:HD l V (Hm c)with
   | nil=>exact .no
   | cons k r=>
    obtain⟨⟨b,w⟩,e1,e2⟩:=zO (i:=k) (by rw[q];exact dO);cases w with
    | silent x y n=>unfold Hm at e2;rw[dU,ft]at e2;exact .on c k r b x y n e (Ix hs) e1 e2.1 (zT ok (fz e1) (z:=Str.empty) Z')
    | _=>cases e2
  .rw[c9 hs];exact .no
def AC{l:pR}{V:qJ}{i k:Nat}{r:T0 Nat}{b:Bool}{x y:Str}{n:Int}(h:l.mQ[k]?=ga (b,.silent x y n)):uD l V i (k::r)=[.asks i x (k::r),.quiet i,.leg ⟨i,x,y,x⟩]++xP l (rc V [.asks i x (k::r),.quiet i,.leg ⟨i,x,y,x⟩]) i:=by unfold uD;simp only[List.head?_cons,l0,h]
def FN{V:qJ}{i:Nat}{c:pM}{x y:Str}{fs:T0 Nat}(h:V.calls[i]?=ga c):(rc V [.asks i x fs,.quiet i,.leg ⟨i,x,y,x⟩]).calls[i]?=ga (c.nS.go y):=by show((V.calls.modify i pM.nS).modify i _)[i]?=_;rw[jg,jg,h];simp
def J0{V:qJ}(ok:rX l)(wf:WF l V):WF l (rc V (uD l V i (Ae l V i))):=by
 have d:=Hy (V:=V) (i:=i) ok;generalize Ae l V i=fs at d;cases d with
 | no=>exact wf
 | on c k r b x y n hc hs hk hw hy=>rw[AC hk,so];exact QM ok (E6 wf hc hs hy) (FN hc)
theorem FC(ok:rX l):∀(is:T0 Nat) {V:qJ},WF l V->WF l (rc V (sF l is V))
 | [],_,wf=>wf
 | i::r,V,wf=>by unfold sF;rw[so];exact FC ok r (J0 ok wf)
theorem Ex(l:pR)(i:Nat):∀(is:T0 Nat) (V:qJ),sF l (is++[i]) V=sF l is V++uD l (rc V (sF l is V)) i (Ae l (rc V (sF l is V)) i)
 | [],V=>by show uD l V i _++[]=[]++_;rw[eG];rfl
 | j::r,V=>by show uD l V j _++sF l (r++[i]) _=(uD l V j _++sF l r _)++_;rw[Ex l i r,fg,show sF l (j::r) V=uD l V j (Ae l V j)++sF l r (rc V (uD l V j (Ae l V j)))from Z',so]
def uu{x y:Str}:y∈tD ss x↔y∈ss/\y≠x:=by unfold tD;rw[fA,gN,gB]
theorem yp{x:Str}:∀{ss:QQQ},ss.Nodup->x∈ss->(tD ss x).length+1=ss.length
 | [],_,h=>by cases h
 | y::r,nd,h=>by
  have nd:=dS.mp nd;unfold tD;rw[gY];by_cases e:y=x
  .subst e;rw[show(!(y==y))=pc by simp,c9 (by decide),kN.mpr λz hz=>by
    have:z≠y:=λq=>nd.1 (q ▸ hz)
    simpa using this]
   rfl
  .have h:x∈r:=by
    rcases dh.mp h with q|q
    .exact absurd q.symm e
    .exact q
   rw[de (by simpa using e)];have:=yp nd.2 h;unfold tD at this;rw[eA,eA,this]
def Ox{V:qJ}{i:Nat}{c:pM}{x:Str}(wf:WF l V)(hc:V.calls[i]?=ga c)(hl:c.nL x=Db):WF l (rc V (xH V x i)):=by
 have k:=wf.ok i c hc;unfold xH;rw[hc];dsimp only[Option.elim];by_cases h1:c.m7 x=Db
 .rw[de h1];exact xB (V':=qA V (.over i "left")) wf hc (.inl Z') (by decide) (rT (V:=rg V _) hc) wf.nx
 .rw[c9 h1];have e1:(qA V (.leaves i x)).calls=V.calls.set i (c.drop x):=rT (V:=rg V _) hc;by_cases h2:hasS c.at_ x=Db
  .rw[de h2];by_cases h3:tD c.at_ x=[]
   .rw[de h3];refine xB (V':=qA (qA V (.leaves i x)) (.over i "refused")) wf hc (.inl Z') (by decide) (w:="refused") ?_ wf.nx;have h4:(qA V (.leaves i x)).calls[i]?=ga (c.drop x):=by rw[e1,fK (cZ.mp hc).1]
    show(yl (rg (qA V (.leaves i x)) _) i _).calls=_;rw[rT (V:=rg (qA V (.leaves i x)) _) h4];show(qA V (.leaves i x)).calls.set i _=_;rw[e1,jP];rfl
   .rw[c9 h3];have hs:c.st="rings"/\c.ms=[]/\c.hd=Fa/\c.wd=Fa:=by
     rcases k.sh with g|⟨_,g|g|⟨_,g⟩|g⟩
     .exact⟨g.1,g.2.1,g.2.2.1,g.2.2.2.1⟩
     .exfalso;have:=yp k.an (ra.mp h2);rw[g.2.2.2.2]at this;exact h3 (gA.mp (by lia))
     .rw[g.2.2.2.2]at h2;cases h2
     .rw[g.2.2.2.2.2]at h2;cases h2
     .rw[g.2.2.2.1]at h2;cases h2
    refine wf.set (V':=qA V (.leaves i x)) (c':=c.drop x) e1 hc (λ_ _=>rfl) ⟨.inl ⟨hs.1,by show tD c.ms x=[];rw[hs.2.1];rfl,hs.2.2.1,hs.2.2.2,(λh=>by cases h),λ_=>h3⟩,k.cr,λy hy=>k.at_ y (uu.mp hy).1,λy hy=>k.ms y (uu.mp hy).1,k.an.sublist gj,k.mn.sublist gj,λhy=>k.ca (uu.mp hy).1,k.wy⟩ (λy g=>?_) (λy g=>?_) (λy g=>?_) wf.nx
    .exact .inl ((tI hs.1).mpr ((tI (c:=c.drop x) hs.1).mp g))
    .refine .inl ((tG hs.1).mpr (((tG (c:=c.drop x) hs.1).mp g).imp id λh=>(uu.mp h).1))
    .have:=(sX.mp g).1;rw[show(c.drop x).st="rings" from hs.1]at this;exact absurd this (by decide)
  .rw[c9 h2];by_cases h3:2<c.ms.length
   .rw[de h3];have hx:x∈c.ms:=by unfold pM.nL at hl;rw[dG.mpr h1,dG.mpr h2,fM,fM]at hl;exact ra.mp hl
    have hs:c.st="talks"/\c.ms.length=3/\c.hd=Fa/\c.wd=Fa/\c.at_=[]:=by
     rcases k.sh with g|⟨_,g|g|⟨_,g⟩|g⟩
     .rw[g.2.1]at h3;cases h3
     .rw[g.2.1]at h3;cases h3
     .exact⟨g.1,g.2.1.elim (λq=>by lia) id,g.2.2⟩
     .omega
     .rw[g.2.1]at h3;cases h3
    have dl:=yp k.mn hx;refine wf.set (V':=qA V (.leaves i x)) (c':=c.drop x) e1 hc (λ_ _=>rfl) ⟨.inr ⟨Z',.inr (.inl ⟨hs.1,.inl (by show(tD c.ms x).length=2;lia),hs.2.2.1,hs.2.2.2.1,by show tD c.at_ x=[];rw[hs.2.2.2.2];rfl⟩)⟩,k.cr,λy hy=>k.at_ y (uu.mp hy).1,λy hy=>k.ms y (uu.mp hy).1,k.an.sublist gj,k.mn.sublist gj,λhy=>k.ca (uu.mp hy).1,k.wy⟩ (λy g=>?_) (λy g=>?_) (λy g=>?_) wf.nx
    .exact .inl ((uc hs.1).mpr (uu.mp ((uc (c:=c.drop x) hs.1).mp g)).1)
    .exact .inl ((tO (.inl hs.1)).mpr (uu.mp ((tO (c:=c.drop x) (.inl hs.1)).mp g)).1)
    .have:=(sX.mp g).1;rw[show(c.drop x).st="talks" from hs.1]at this;exact absurd this (by decide)
   .rw[c9 h3];exact xB (V':=qA V (.over i "done")) wf hc (.inl Z') (by decide) (rT (V:=rg V _) hc) wf.nx
def KF{V:qJ}{i:Nat}{c:pM}(wf:WF l V)(hc:V.calls[i]?=ga c)(hx:hasS c.at_ x=Db)(hi:Du V x)(hf:c.mX x=Db->sJ l V x=Db):WF l (qA V (.talks i [c.cr,x])):=by
 have k:=wf.ok i c hc;have hx:=ra.mp hx;have Xx:c.cr≠x:=λq=>k.ca (q ▸ hx);have hs:(c.st="rings"\/c.st="waits")/\c.wd=Fa:=by
  rcases k.sh with g|⟨_,g|g|⟨_,g⟩|g⟩
  .exact⟨.inl g.1,g.2.2.2.1⟩
  .exact⟨.inr g.1,g.2.2.2.1⟩
  .rw[g.2.2.2.2]at hx;cases hx
  .rw[g.2.2.2.2.2]at hx;cases hx
  .rw[g.2.2.2.1]at hx;cases hx
 have ec:BE c c.cr/\c.hasB c.cr=Db:=by
  rcases hs.1 with g|g
  .exact⟨(tI g).mpr Z',(tG g).mpr (.inl Z')⟩
  .exact⟨(Eg g).mpr Z',(D9 g).mpr Z'⟩
 refine wf.set (V':=qA V (.talks i [c.cr,x])) (c':=c.nN [c.cr,x]) (rT (V:=rg V _) hc) hc (λ_ _=>rfl) ⟨.inr ⟨Z',.inr (.inl ⟨Z',.inl Z',Z',hs.2,Z'⟩)⟩,k.cr,(λy h=>by cases h),(λy h=>?_),eN,?_,(λh=>by cases h),k.wy⟩ (λy g=>?_) (λy g=>?_) (λy g=>?_) wf.nx
 .rcases dh.mp h with g|g
  .rw[g];exact k.cr
  .rw[dA.mp g];exact k.at_ x hx
 .exact dS.mpr ⟨λh=>Xx (dA.mp h),dS.mpr ⟨dJ,eN⟩⟩
 .rcases dh.mp ((uc (c:=c.nN [c.cr,x]) Z').mp g)with h|h
  .rw[h];exact .inl ec.1
  .rw[dA.mp h];exact .inr hi
 .rcases dh.mp ((tO (c:=c.nN [c.cr,x]) (.inl Z')).mp g)with h|h
  .rw[h];exact .inl ec.2
  .rw[dA.mp h];rcases hs.1 with q|q
   .exact .inl ((tG q).mpr (.inr hx))
   .exact .inr (E5 (hf (sX.mpr ⟨q,hx⟩)))
 .exact absurd (sX.mp g).1 (show("talks":Str)≠"waits" by decide)
def Ax{c:pM}{x:Str}:c.m9 x=Db↔c.st="talks"/\x∈c.ms/\c.ms.length=2:=by unfold pM.m9 pM.m8;rw[dU,dU,ft,ra,ft,and_assoc]
def NQ{c:pM}(k:wM l pc c)(h:c.st="talks"):c.hd=Fa/\c.wd=Fa/\c.at_=[]:=by
 rcases k.sh with g|⟨_,g|g|⟨_,g⟩|g⟩
 .rw[h]at g;exact absurd g.1 (by decide)
 .rw[h]at g;exact absurd g.1 (by decide)
 .exact g.2.2
 .rw[h]at g;exact absurd g.1 (by decide)
 .rw[h]at g;exact absurd g.1 (by decide)
def Fu{c:pM}{x:Str}(k:wM l pc c)(h:c.hd=ga x):c.st="held"/\c.ms.length=2/\x∈c.ms/\c.wd=Fa/\c.at_=[]:=by
 rcases k.sh with g|⟨_,g|g|⟨y,g⟩|g⟩
 .rw[h]at g;cases g.2.2.1
 .rw[h]at g;cases g.2.2.1
 .rw[h]at g;cases g.2.2.1
 .have e:=g.2.2.1;rw[h]at e;cases e;exact⟨g.1,g.2.1,g.2.2.2⟩
 .rw[h]at g;cases g.2.2.1
def Qf{V:qJ}{i:Nat}{c:pM}{x:Str}(wf:WF l V)(hc:V.calls[i]?=ga c)(hx:c.m9 x=Db):WF l (qA V (.held i x)):=by
 have k:=wf.ok i c hc;obtain⟨h1,h2,h3⟩:=Ax.mp hx;obtain⟨s1,s2,s3⟩:=NQ k h1;refine wf.set (V':=qA V (.held i x)) (c':=c.hold x) (rT (V:=rg V _) hc) hc (λ_ _=>rfl) ⟨.inr ⟨Z',.inr (.inr (.inl ⟨x,Z',h3,Z',h2,s2,s3⟩))⟩,k.cr,k.at_,k.ms,k.an,k.mn,k.ca,k.wy⟩ (λy g=>.inl ?_) (λy g=>.inl ?_) (λy g=>?_) wf.nx
 .exact(uc h1).mpr ((Ct (c:=c.hold x) Z').mp g).1
 .exact(tO (.inl h1)).mpr ((tO (c:=c.hold x) (.inr Z')).mp g)
 .exact absurd (sX.mp g).1 (show("held":Str)≠"waits" by decide)
def Qs{V:qJ}{i:Nat}{c:pM}{x:Str}(wf:WF l V)(hc:V.calls[i]?=ga c)(hx:c.hd=ga x)(hi:Du V x):WF l (qA V (.talks i c.ms)):=by
 have k:=wf.ok i c hc;obtain⟨h1,h2,h3,h4,h5⟩:=Fu k hx;refine wf.set (V':=qA V (.talks i c.ms)) (c':=c.nN c.ms) (rT (V:=rg V _) hc) hc (λ_ _=>rfl) ⟨.inr ⟨Z',.inr (.inl ⟨Z',.inl h2,Z',h4,Z'⟩)⟩,k.cr,(λy h=>by cases h),k.ms,eN,k.mn,(λh=>by cases h),k.wy⟩ (λy g=>?_) (λy g=>.inl ?_) (λy g=>?_) wf.nx
 .have g:=(uc (c:=c.nN c.ms) Z').mp g;by_cases e:y=x
  .rw[e];exact .inr hi
  .exact .inl ((Ct h1).mpr ⟨g,λq=>e (dg (q.symm.trans hx))⟩)
 .exact(tO (.inr h1)).mpr ((tO (c:=c.nN c.ms) (.inl Z')).mp g)
 .exact absurd (sX.mp g).1 (show("talks":Str)≠"waits" by decide)
def D8{c:pM}{x:Str}(nd:c.ms.Nodup)(h2:c.ms.length=2)(hx:x∈c.ms):qM c x∈c.ms/\qM c x≠x:=by
 have dl:=yp nd hx;obtain⟨y,r,e⟩:=List.exists_cons_of_length_pos (show 0<(tD c.ms x).length by lia);have hm:y∈tD c.ms x:=by rw[e];exact dO
 unfold qM;rw[e];exact uu.mp hm
def Jn{V:qJ}{i j:Nat}{c d:pM}{w x:Str}(wf:WF l V)(hc:V.calls[i]?=ga c)(hd:V.calls[j]?=ga d)(h1:c.hd=ga x)(h2:d.m9 x=Db):i≠j/\WF l (qA V (.merge i j (if (w=="hand")=Db then[qM c x,qM d x]else[x,qM c x,qM d x]))):=by
 have k:=wf.ok i c hc;have kd:=wf.ok j d hd;obtain⟨c1,c2,c3,c4,c5⟩:=Fu k h1;obtain⟨d1,d2,d3⟩:=Ax.mp h2;obtain⟨a1,a2⟩:=D8 k.mn c2 c3;obtain⟨b1,b2⟩:=D8 kd.mn d3 d2;have X9:i≠j:=λq=>by subst q;rw[hc]at hd;cases hd;rw[c1]at d1;exact absurd d1 (by decide)
 refine⟨X9,?_⟩;have ea:BE c (qM c x):=(Ct c1).mpr ⟨a1,λq=>a2 (dg (q.symm.trans h1))⟩;have ab:qM c x≠qM d x:=λq=>X9 (wf.un i j c d _ hc hd ea (by rw[q];exact(uc d1).mpr b1));generalize hms:(if (w=="hand")=Db then[qM c x,qM d x]else[x,qM c x,qM d x])=ms;have mm:∀y∈ms,y=x\/y=qM c x\/y=qM d x:=λy hy=>by
  rw[<-hms]at hy;split at hy
  .rcases dh.mp hy with g|g
   .exact .inr (.inl g)
   .exact .inr (.inr (dA.mp g))
  .rcases dh.mp hy with g|g
   .exact .inl g
   .rcases dh.mp g with g|g
    .exact .inr (.inl g)
    .exact .inr (.inr (dA.mp g))
 have n2:[qM c x,qM d x].Nodup:=dS.mpr ⟨λh=>ab (dA.mp h),dS.mpr ⟨dJ,eN⟩⟩;refine Gn (V':=qA V (.merge i j ms)) (ms:=ms) wf (.inl Z') hc hd X9 ?_ wf.nx d1 ?_ ?_ (λy hy=>?_) (λy hy=>?_)
 .show(V.calls.modify i _).modify j _=_;rw[ug hc,ug (show(V.calls.set i _)[j]?=ga d by rw[fJ X9];exact hd)]
 .rw[<-hms];split
  .exact n2
  .refine dS.mpr ⟨λh=>?_,n2⟩;rcases dh.mp h with g|g
   .exact a2 g.symm
   .exact b2 (dA.mp g).symm
 .rw[<-hms];split
  .exact .inl Z'
  .exact .inr Z'
 .rcases mm y hy with g|g|g
  .rw[g];exact .inl d2
  .rw[g];exact .inr ⟨ea,(tO (.inr c1)).mpr a1⟩
  .rw[g];exact .inl b1
 .rcases mm y hy with g|g|g
  .rw[g];exact k.ms x c3
  .rw[g];exact k.ms _ a1
  .rw[g];exact kd.ms _ b1
def RV{V:qJ}{i:Int}(h:zX V.calls.length i=Db):∃c,V.calls[i.toNat]?=ga c:=by unfold zX at h;rw[dU,eB,eB]at h;exact⟨_,cY (by lia)⟩
def ER{V:qJ}{b:Bool}(h:(if ((vc V x).isNone&&b)=Db then ga ("full":Str)else vc V x)=Fa):vc V x=Fa/\b=pc:=by
 cases e:vc V x with
 | some w=>rw[e]at h;cases h
 | none=>
  rw[e]at h;cases b with
  | true=>cases h
  | false=>exact⟨Z',Z'⟩
inductive Em(l:pR)(V:qJ)(x:Str):Str->List Int->Prop
 | answer (i:Int) (c:pM):0<=i->V.calls[i.toNat]?=ga c->hasS c.at_ x=Db->Du V x->(c.mX x=Db->sJ l V x=Db)->Em l V x "answer" [i]
 | hang (i:Int) (c:pM):0<=i->V.calls[i.toNat]?=ga c->c.nL x=Db->Em l V x "hang" [i]
 | hold (i:Int) (c:pM):0<=i->V.calls[i.toNat]?=ga c->c.m9 x=Db->Em l V x "hold" [i]
 | back (i:Int) (c:pM):0<=i->V.calls[i.toNat]?=ga c->c.hd=ga x->Du V x->Em l V x "back" [i]
 | two (w:Str) (i j:Int) (c d:pM):0<=i->0<=j->w="hand"\/w="join"->V.calls[i.toNat]?=ga c->V.calls[j.toNat]?=ga d->c.hd=ga x->d.m9 x=Db->Em l V x w [i,j]
def Io{V:qJ}{w x:Str}(f:(uM.num w x ns).nG)(h:xW l V (.num w x ns)=Fa):x∈l.pn/\Em l V x w ns:=by
 have hp:hasS l.pn x=Db:=by
  cases q:hasS l.pn x with
  | true=>rfl
  | false=>unfold xW at h;dsimp only at h;rw[de q]at h;cases h
 refine⟨ra.mp hp,?_⟩;unfold xW at h;dsimp only at h;rw[c9 (by rw[hp];decide)]at h;unfold Nh at h;cases q1:ns.all (zX V.calls.length)with
 | false=>rw[de q1]at h;cases h
 | true=>
 rw[c9 (by rw[q1];decide)]at h;cases q2:Jf w x (uh V ns)with
 | false=>rw[de q2]at h;cases h
 | true=>
 rw[c9 (by rw[q2];decide)]at h;have z:∀i∈ns,0<=i/\∃c,V.calls[i.toNat]?=ga c:=λi hi=>by have g:=eI.mp q1 i hi;refine⟨?_,RV g⟩;unfold zX at g;rw[dU,eB]at g;exact g.1
 rcases f with⟨fw,fl⟩|⟨fw,fl⟩
 .match ns,fl with
  | [i],_=>
   obtain⟨hi,c,hc⟩:=z i dO;have ec:uh V [i]=[c]:=by unfold uh;rw[gi,hc];rfl
   rw[ec]at h q2;rcases fw with rfl|rfl|rfl|rfl
   .rw[c9 (by decide)]at h;obtain⟨h1,h2⟩:=ER h;refine .answer i c hi hc q2 (EV h1) λhw=>?_;have h2:(c.mX x&&!(sJ l V x))=pc:=h2;rw[hw]at h2
    simpa using h2
   .exact .hang i c hi hc q2
   .exact .hold i c hi hc q2
   .rw[c9 (by decide)]at h;exact .back i c hi hc (Ix q2) (EV (ER h).1)
 .match ns,fl with
  | [i,j],_=>
   obtain⟨hi,c,hc⟩:=z i dO;obtain⟨hj,d,hd⟩:=z j (dE _ dO);have ec:uh V [i,j]=[c,d]:=by unfold uh;rw[gi,hc];dsimp only;rw[gi,hd];rfl
   rw[ec]at q2;have q3:((c.hd==ga x)&&d.m9 x)=Db:=by rcases fw with rfl|rfl<;>exact q2
   rw[dU]at q3;exact .two w i j c d hi hj fw hc hd (Ix q3.1) q3.2
def EU{V:qJ}{y z:Str}(h:xW l V (.call y z)=Fa):y∈l.pn/\z∈l.nm/\Du V y/\sJ l V y=Db:=by
 unfold xW at h;dsimp only at h;cases q:hasS l.pn y with
 | false=>rw[de q]at h;cases h
 | true=>
 rw[c9 (by rw[q];decide)]at h;unfold GY at h;cases q1:hasS l.nm z with
 | false=>rw[de q1]at h;cases h
 | true=>
 rw[c9 (by rw[q1];decide)]at h;obtain⟨h1,h2⟩:=ER h;exact⟨ra.mp q,ra.mp q1,EV h1,by simpa using h2⟩
def Uy{V:qJ}{b:Bool}{i:Int}(h:xW l V (.sw b i)=Fa):0<=i/\i.toNat<V.on.length:=by
 unfold xW OT at h;dsimp only at h;cases q:zX V.on.length i with
 | false=>rw[de q]at h;cases h
 | true=>unfold zX at q;rw[dU,eB,eB]at q;lia
def zJ{V:qJ}{w x:Str}{i:Nat}{c:pM}(h:V.calls[i]?=ga c):F1 V w x i=if (w=="answer")=Db then .talks i [c.cr,x]else if (w=="hold")=Db then .held i x else .talks i c.ms:=by unfold F1;rw[h];rfl
def Iv{V:qJ}{w x:Str}{i j:Nat}{c d:pM}(h:V.calls[i]?=ga c)(g:V.calls[j]?=ga d):Gk V w x i j=.merge i j (if (w=="hand")=Db then[qM c x,qM d x]else[x,qM c x,qM d x]):=by unfold Gk;rw[h,g];rfl
def UT{V:qJ}{e:uM}(ok:rX l)(wf:WF l V)(f:e.nG)(h:xW l V e=Fa):WF l (rc V (xT l V e)):=by
 cases e with
 | call y z=>obtain⟨h1,h2,h3,h4⟩:=EU h;obtain⟨k,hk⟩:=LA (V:=V) (y:=y) (z:=z);show WF l (rc V (_++xP l _ _));rw[so];exact QM ok (HH wf h1 h2 h3 h4) hk
 | turn=>exact FC ok _ (Fc wf)
 | sw b i=>exact Ut wf
 | num w x ns=>
  obtain⟨_,n⟩:=Io f h;cases n with
  | answer i c hi hc h1 h2 h3=>show WF l (qA V (F1 V "answer" x i.toNat));rw[zJ hc];exact KF wf hc h1 h2 h3
  | hang i c hi hc h1=>exact Ox wf hc h1
  | hold i c hi hc h1=>show WF l (qA V (F1 V "hold" x i.toNat));rw[zJ hc];exact Qf wf hc h1
  | back i c hi hc h1 h2=>show WF l (qA V (F1 V "back" x i.toNat));rw[zJ hc];exact Qs wf hc h1 h2
  | two _ i j c d hi hj hw hc hd h1 h2=>show WF l (qA V (Gk V w x i.toNat j.toNat));rw[Iv hc hd];exact(Jn wf hc hd h1 h2).2
def Ou(a:Ad):rM:=λds M Q=>J8 λM0 b A V l c n x i k=>ds=[.ref b,.str x,.int ((i:Nat):Int)]/\vb a M0 M b A V l c n/\c<=1000000/\n<=7000000/\V.calls[i]?=ga k/\∀M' A',vb a M0 M' b A' (rc V (xH V x i)) l c (n+2)->rE A M A' M'->Q .mW M'
def Oq(a:Ad):rM:=λds M Q=>K2 λA V l L k c=>ds=[.ref A.b,.ref (r6.p k)]/\Rd a M A V l/\sA a M L k c/\Q (uK (HD l V (Hm c))) M
def Pf(a:Ad):rM:=λds M Q=>J8 λM0 b A V l c n i k r=>ds=[.ref b,.int ((i:Nat):Int),uK (k::r)]/\vb a M0 M b A V l c n/\c<=1000000/\n<=6900000/\WF l V/\Vt l V i (k::r)/\∀M' A',vb a M0 M' b A' (rc V (uD l V i (k::r))) l c (n+33)->rE A M A' M'->Q .mW M'
def PY(a:Ad):rM:=λds M Q=>Tv λM0 b A V l c n=>ds=[.ref b]/\vb a M0 M b A V l c n/\c<=10000/\n<=6000000/\WF l V/\∀M' A',vb a M0 M' b A' (rc V (FH l V)) l c (n+1+33*c)->rE A M A' M'->Q .mW M'
def Si{a:Ad}{M:Mp}{c:pM}{v:Wi}{r:Uf}{Q:DK}(h:M r=ga (.ins (v.cls a) v.nP))(hk:sA a M L k c)(q:Q (.bl (Hm c v)) M):Ma a v [.ref r,.ref k.p] M Q:=by
 cases v with
 | silent x y n=>exact⟨r,L,k,c,Z',h,hk,q⟩
 | _=>exact⟨_,_,Z',q⟩
def OW:Fq P w K mg base 4 a.a8 (Ou a):=by
 refine fq G.a8.toDG Cd (λr u=>⟨_,(pH (pW 3 Cd (pT (pN v0) U2))
 (pI (qa (ua (qm U3 G.e.toCls G.V (CW G) r (qp U1)))
 (pI (pY (qm v0 G.c.toCls G.k (rK G) r (qp (pX (rJ pL U2 pL))))))
 (pI (qa (pP u U1 (pN U3))
 (pH (pY (qm v0 G.c.toCls G.k (rK G) r (qp (pX (rJ pL U2 U1)))))
 (pI (qa (pP u (qc qC Z' G.g qB (qp (pN U3))) pK)
 (pI (pY (qm v0 G.c.toCls G.k (rK G) r (qp (pX (rJ pL U2 pL))))))
 pU)))
 (pI (qa (pP u (qc qC Z' G.g qB (qp (pN U3))) pK)
 (pI (pY (qm v0 G.c.toCls G.k (rK G) r (qp (pX (rJ pL U2 U1))))))
 (pI (pY (qm v0 G.c.toCls G.k (rK G) r (qp (pX (rJ pL U2 pL))))))))))))),?_⟩)
 rintro ds M Q ⟨M0,b,A,V,l,cc,n,x,i,c,rfl,cu,Zz,hn,hc,q⟩
 obtain⟨ka,ci⟩:=cu.call hc;obtain⟨ad,md,h1,h2,h3,h4,n1,n2⟩:=ci.cell;have hi:=(cZ.mp hc).1;refine pJ cu.at_ (i' Z' (i' Z' (i' ci.bd.ca (i' (rO ci.e1) ?_))));refine pJ h1 ⟨Z',_,⟨Z',Z'⟩,_,ka,c,x,Z',ci.cell,?_⟩;unfold xH at q;rw[hc]at q;dsimp only[Option.elim]at q;have over:∀(w0:Str),(∀M' A',vb a M0 M' b A' (rc V [.over i w0]) l cc (n+2)->rE A M A' M'->Q .mW M')->∀(M1:Mp) (A1:uj),A1.b=A.b->rE A M A1 M1->pZ a M1 A1 (qA V (.over i w0))->∃Xb,qO Xb M1/\Q .mW Xb:=λw0 q M1 A1 eb st bd=>⟨M1,.refl,q M1 A1 ((cu.after (e:=.over i w0) hi eb st bd).mono (dq _) (by lia)) st⟩;refine qD (c:=c.m7 x) (λg=>?_) (λg=>?_)
 .rw[de g]at q;exact pJ cu.at_ ⟨Z',_,⟨Z',Z'⟩,pE Z',b,A,V,.over i "left",Z',cu.b,cu.bd,cu.lim Zz (by lia),hi,over "left" q⟩
 rw[c9 g]at q;refine pJ h1 (i' Z' (i' h3 ⟨Z',qE _,?_⟩));show if inD (.str x) (c.at_.map D.str)=Db then _ else _
 rw[sP];refine qD (c:=hasS c.at_ x) (λg2=>?_) (λg2=>?_)
 .rw[de g2]at q;refine pJ cu.at_ ⟨Z',_,⟨Z',Z'⟩,pE Z',b,A,V,.leaves i x,Z',cu.b,cu.bd,cu.lim Zz (by lia),hi,λM1 A1 eb st bd=>?_⟩;have c1:=cu.after (e:=.leaves i x) hi eb st bd;have ZC:(qA V (.leaves i x)).calls=V.calls.set i (c.drop x):=rT (V:=rg V _) hc;have hc1:(qA V (.leaves i x)).calls[i]?=ga (c.drop x):=by rw[ZC,fK hi]
  obtain⟨ad',md',g1,ZQ,g3,g4,_⟩:=c1.bd.cs i ka _ (st.2.2.1 i ka ci.e1) hc1;have le0:((((c.drop x).at_.map D.str).length:Int)==0)=decide (tD c.at_ x=[]):=by rw[cV,gh,ft,eB];show((tD c.at_ x).length:Int)=0↔_;rw[<-gA];lia
  refine pJ g1 (i' Z' (i' g3 ?_));refine qD (c:=(((c.drop x).at_.map D.str).length:Int)==0) (λg5=>?_) (λg5=>?_)
  .rw[le0,eB]at g5;rw[de g5]at q;have YQ:i<(qA V (.leaves i x)).calls.length:=(cZ.mp hc1).1;refine pJ c1.at_ ⟨Z',_,⟨Z',Z'⟩,pE Z',b,A1,_,.over i "refused",Z',c1.b,c1.bd,c1.lim Zz (by lia),YQ,λM2 A2 eb2 Xw YL=>?_⟩;exact⟨M2,.refl,q M2 A2 (c1.after (e:=.over i "refused") YQ eb2 Xw YL) (st.trans Xw)⟩
  .rw[le0,eB]at g5;rw[c9 g5]at q;exact⟨M1,.refl,q M1 A1 (c1.mono (dq _) (by lia)) st⟩
 .rw[c9 g2]at q;refine pJ h1 (i' Z' (i' h4 ?_));have lm:decide ((2:Int)<((c.ms.map D.str).length:Int))=decide (2<c.ms.length):=by rw[cV,gh,eB,eB];lia
  refine qD (c:=decide ((2:Int)<((c.ms.map D.str).length:Int))) (λg3=>?_) (λg3=>?_)
  .rw[lm,eB]at g3;rw[de g3]at q;refine pJ cu.at_ ⟨Z',_,⟨Z',Z'⟩,pE Z',b,A,V,.leaves i x,Z',cu.b,cu.bd,cu.lim Zz (by lia),hi,λM1 A1 eb st bd=>?_⟩;exact⟨M1,.refl,q M1 A1 ((cu.after (e:=.leaves i x) hi eb st bd).mono (dq _) (by lia)) st⟩
  .rw[lm,eB]at g3;rw[c9 g3]at q;exact pJ cu.at_ ⟨Z',_,⟨Z',Z'⟩,pE Z',b,A,V,.over i "done",Z',cu.b,cu.bd,cu.lim Zz (by lia),hi,over "done" q⟩
def PP:Fq P w K mg base 2 a.a9 (Oq a):=by
 refine fq G.a9.toDG yS (λr u=>⟨_,(pH (pW 2 yS (pN (pN v0)))
 (pI (pO (qg rR Z' G.l rm (qp (qT Z' (xV (ix:=[Fa,Fa,ga 2,ga 1]) (N':=["i","on","wishes","call"])) (u9 Z' G.aP (qp (pN v0))) (vg (n:=2) Z' (qI (qQ 0) (qI (qQ 1) ue))) (vF (W3.b3 (vh (ua U1) (uE (ua (BJ (R:=GE a) (pT U2 v0) (UD G) (r.mono (by first|decide|lia)) (qp U3))))))) v0)))))),?_⟩)
 rintro ds M Q ⟨A,V,l,L,k,c,rfl,rd,hk,q⟩
 obtain⟨ph,gr,ws,YK,pr,gd,rs,i1,i2,i3,i4,i5,i6,i7,i8⟩:=rd.pl;refine pJ rd.bd.at_ (i' Z' (pJ i1 (i' Z' ?_)));refine pJ rd.bd.at_ (i' Z' (i' rd.bd.on ?_));refine JO (rest:=[ga (.ref ws),ga (.ref k.p)]) rd.on rd.ok.pB rd.bd.on (λi w0 ew y kk hkk=>?_) λp hp=>i' pS ⟨M,.new hp,q⟩;obtain⟨r,e1,e2⟩:=BK i8 ew;exact i' i4 (i' e1 (pJ e2 ⟨by cases w0.2<;>rfl,_,⟨w0.2,Z',Z'⟩,Si e2 hk hkk⟩))
def P9:Fq P w K mg base 10 a.ba (Pf a):=by
 refine fq G.ba.toDG CD (λr u=>⟨_,(pH (pW 3 CD (CJ (R:=Ls a) (pT (pN (pN v0)) (pT U2 pK)) (Ti G) (r.mono (by first|decide|lia))))
 (pH (pY (qm v0 G.c.toCls G.k (rK G) r (qp (pX (qh pL (rJ U1 (pT U3 pK) U2))))))
 (pH (pY (qm v0 G.c.toCls G.k (rK G) r (qp (pX (sd pL U1)))))
 (pH (pY (qm v0 G.c.toCls G.k (rK G) r (qp (pX (qh pL (qh U1 (rJ (pT U3 pK) (pT U3 pK) (pT U3 pK))))))))
 (pI (pY (pV (Jj G) r G.ae (sd v0 U1)))))))),?_⟩)
 rintro ds M Q ⟨M0,b,A,V,l,c,n,i,k,r,rfl,cu,hc,hn,wf,du,q⟩
 obtain⟨ph,gr,ws,YK,pr,gd,rs,i1,i2,i3,i4,i5,i6,i7,i8⟩:=cu.pl;cases du with
 | on k0 _ _ b0 x y m hk hs hw hl hy=>
  have hi:=(cZ.mp hk).1;rw[AC hw]at q;rw[so]at q;obtain⟨r0,e1,e2⟩:=BK i8 hw;refine pJ cu.at_ (i' Z' (pJ i1 (i' Z' (i' (vW _ _) (i' i4 (i' e1 (pJ e2 ⟨Z',_,⟨⟨.silent x y m,Z'⟩,Z'⟩,r0,.silent x y m,Z',e2,?_⟩)))))));refine pJ cu.at_ ⟨Z',_,⟨Z',Z'⟩,pE Z',b,A,V,.asks i x (k::r),Z',cu.b,cu.bd,cu.lim hc (by lia),trivial,λM1 A1 eb1 XN bd1=>?_⟩;have c1:=cu.after (e:=.asks i x (k::r)) trivial eb1 XN bd1;refine pJ c1.at_ ⟨Z',_,⟨Z',Z'⟩,pE Z',b,A1,_,.quiet i,Z',c1.b,c1.bd,c1.lim hc (by lia),hi,λM2 A2 eb2 Xw YL=>?_⟩;have c2:=c1.after (e:=.quiet i) hi eb2 Xw YL;have X6:i<(qA (qA V (.asks i x (k::r))) (.quiet i)).calls.length:=by show i<(V.calls.modify i pM.nS).length;rw[gu];exact hi
  refine pJ c2.at_ ⟨Z',_,⟨Z',Z'⟩,pE Z',b,A2,_,.leg ⟨i,x,y,x⟩,Z',c2.b,c2.bd,c2.lim hc (by lia),X6,λM3 A3 eb3 XX bd3=>?_⟩;have c3:=c2.after (e:=.leg ⟨i,x,y,x⟩) X6 eb3 XX bd3;exact⟨M0,b,A3,_,l,c,n+3,i,_,Z',c3,hc,by lia,E6 wf hk hs hy,FN hk,λM4 A4 c4 st4=>⟨M4,.refl,q M4 A4 (c4.mono (dq _) (by lia)) (XN.trans (Xw.trans (XX.trans st4)))⟩⟩
def OP:Fq P w K mg base 11 a.bb (PY a):=by
 refine fq G.bb.toDG ud (λr u=>⟨_,(pH (pY (qm v0 G.c.toCls G.k (rK G) r (qp (pX (qp pL)))))
 (pI (ut eW Z' (u9 Z' G.aP (qp (qg sv Z' G.m rV (qp (pN v0))))) (vg (n:=2) Z' (qI (rP 1 ud) (qI (rP 2 ud) ue)))
 (pI (qa (pP u (pN U2) pL)
 (pH (pW 3 ud (pV (PP G) r G.a9 (sd v0 U2)))
 (pI (qa (pP u (qc qC Z' G.g qB (qp U3)) pK)
 (pI (pY (pV (P9 G) r G.ba (rJ v0 U1 U3))))
 pU)))
 pU))))),?_⟩)
 rintro ds M Q ⟨M0,b,A,V,l,c,n,rfl,cu,hc,hn,wf,q⟩
 refine pJ cu.at_ ⟨Z',_,⟨Z',Z'⟩,pE Z',b,A,V,.turn,Z',cu.b,cu.bd,cu.lim (by lia) (by lia),trivial,λM1 A1 eb st bd=>?_⟩;have c1:=cu.after (e:=.turn) trivial eb st bd;have wf1:=Fc wf;have lv:(qA V .turn).calls.length=V.calls.length:=cV ..;have ev:FH l V=.turn::sF l (List.range V.calls.length) (qA V .turn):=rfl;rw[ev,<-lv]at q;have q:∀M' A',vb a M0 M' b A' (rc (qA V .turn) (sF l (List.range (qA V .turn).calls.length) (qA V .turn))) l c (n+1+33*c)->rE A M A' M'->Q .mW M':=q;have c1:vb a M0 M1 b A1 (qA V .turn) l c (n+1):=c1;generalize qA V .turn=V1 at c1 wf1 q bd;refine pJ c1.at_ (i' Z' (i' c1.bd.ca λr hr=>i' pS ?_));obtain⟨M2,e0,t,lr⟩:=uT (ds:=A1.cs.map λk=>D.ref k.p) hr;rw[<-e0];have nf:=c1.bd.oi hr;have c2:=c1.sub t;have cl:V1.calls.length<=c:=c1.sz.ca;refine vd (uL 0 (A1.cs.map λk=>D.ref k.p)) (λpre U M'=>(∃A',vb a M0 M' b A' (rc V1 (sF l (List.range pre.length) V1)) l c (n+1+33*pre.length)/\rE A1 M2 A' M')/\∃y1 y2 y3,U=[ga (.ref b),y1,y2,y3]) (λpre U M' j=>?_) _ [] _ _ Z' ⟨⟨A1,c2,.refl⟩,Fa,Fa,Fa,Z'⟩ ?_ ?_
 .obtain⟨⟨A',c3,XX⟩,_⟩:=j;exact tH (XX.1 r _ nf (qx lr))
 .rintro pre d post e U M' ⟨⟨A',c3,XX⟩,y1,y2,y3,rfl⟩ nx Xg
  rw[cX,dH,iA,Ex,so]at Xg;have wf3:=FC cu.ok (List.range pre.length) wf1;generalize rc V1 (sF l (List.range pre.length) V1)=V3 at c3 wf3 Xg;obtain⟨x,hx,rfl⟩:=BO e;rw[dC]at hx;cases ek:A1.cs[pre.length]? with
  | none=>rw[ek]at hx;cases hx
  | some k=>
   rw[ek]at hx;have hx:D.ref k.p=x:=dg hx;subst hx;have hp:pre.length<c:=by have:=(cZ.mp ek).1;rw[c1.bd.len]at this;lia
   have ek3:=XX.2.2.1 _ k ek;have hi:pre.length<V3.calls.length:=by rw[<-c3.bd.len];exact(cZ.mp ek3).1
   have ec:V3.calls[pre.length]?=ga V3.calls[pre.length]:=cY hi;generalize V3.calls[pre.length]=cv at ec;have ca:=c3.bd.cs _ k cv ek3 ec;obtain⟨ad,md,g1,_⟩:=ca;refine⟨Z',pJ g1 (i' Z' ?_)⟩;have hdv:Ae l V3 pre.length=if (cv.st=="rings")=Db then HD l V3 (Hm cv)else[]:=by unfold Ae;rw[ec];rfl
   have mW:Ae l V3 pre.length=[]->∀y1' y2' y3',nx [ga (.ref b),y1',y2',y3'] M':=λh0 y1' y2' y3'=>Xg _ _ ⟨⟨A',by rw[h0];exact c3.mono (dq _) (by lia),XX⟩,_,_,_,Z'⟩;have du:=Hy (V:=V3) (i:=pre.length) cu.ok;refine qD (c:=cv.st=="rings") (λg=>?_) (λg=>mW (by rw[hdv,c9 g]) _ _ _);rw[de g]at hdv;refine⟨A',V3,l,_,k,cv,by rw[c3.b],c3.rd (by lia) wf3,c3.bd.cs _ k cv ek3 ec,?_⟩;rw[<-hdv];cases hdq:Ae l V3 pre.length with
   | nil=>exact mW hdq _ _ _
   | cons k0 r0=>rw[hdq]at du Xg;refine Bb (dX (by rw[cV];show(0:Int)<((k0::r0).length:Nat);rw[eA];lia)) ?_;exact⟨M0,b,A',V3,l,c,_,pre.length,k0,r0,Z',c3,by lia,by lia,wf3,du,λM4 A4 c4 st4=>Xg _ _ ⟨⟨A4,c4.mono (dq _) (by lia),XX.trans st4⟩,_,_,_,Z'⟩⟩
 .rintro U M' ⟨⟨A',c3,XX⟩,y1,y2,y3,rfl⟩
  have hl:(uL 0 (A1.cs.map λk=>D.ref k.p)).length=V1.calls.length:=by rw[vt,cV,c1.bd.len]
  rw[hl]at c3;exact⟨M',.refl,q M' A' (c3.mono (dq _) (by lia)) (st.trans ((rE.sub t).trans XX))⟩
inductive QU(l:pR)(V:qJ):uM->Ev->Prop
 | sw (b:Bool) (i:Nat):i<V.on.length->QU l V (.sw b (i:Nat)) (.sw b i)
 | answer (x:Str) (i:Nat) (c:pM):V.calls[i]?=ga c->QU l V (.num "answer" x [(i:Nat)]) (.talks i [c.cr,x])
 | hold (x:Str) (i:Nat) (c:pM):V.calls[i]?=ga c->QU l V (.num "hold" x [(i:Nat)]) (.held i x)
 | back (x:Str) (i:Nat) (c:pM):V.calls[i]?=ga c->QU l V (.num "back" x [(i:Nat)]) (.talks i c.ms)
 | two (w x:Str) (i j:Nat) (c d:pM):i≠j->w="hand"\/w="join"->V.calls[i]?=ga c->V.calls[j]?=ga d->tD c.ms x≠[]->tD d.ms x≠[]->QU l V (.num w x [(i:Nat),(j:Nat)]) (.merge i j (if (w=="hand")=Db then[qM c x,qM d x]else[x,qM c x,qM d x]))
def GU(a:Ad):rM:=λds M Q=>Hw λA V l e ev=>ds=[.ref A.b,uM.d e]/\Rd a M A V l/\QU l V e ev/\Q ev.d M
def Rl(a:Ad):rM:=λds M Q=>Rw λM0 b A V l c n e=>ds=[.ref b,uM.d e]/\vb a M0 M b A V l c n/\c<10000/\n<=5000000/\WF l V/\e.nG/\xW l V e=Fa/\∀M' A',vb a M0 M' b A' (rc V (xT l V e)) l (c+1) (n+40+33*c)->rE A M A' M'->Q .mW M'
def WY(a:Ad)(M0 M:Mp)(b:Uf)(A:uj)(V:qJ)(l:pR)(c n:Nat)(e:uM)(Q:DK):Prop:=xW l V e=Fa->∀M' A' r,vb a M0 M' b A' (rc V (xT l V e)) l (c+1) (n+40+33*c)->rE A M A' M'->M' r=Fa->Q (.ref r) (pQ M' r (.lst ((xT l V e).map Ev.d)))
def TU(a:Ad):GK:=λds M Q R=>Rw λM0 b A V l c n e=>ds=[.ref b,uM.d e]/\vb a M0 M b A V l c n/\c<10000/\n<=5000000/\WF l V/\e.nG/\WY a M0 M b A V l c n e Q/\(∀w,xW l V e=ga w->R a.I (ga ("word",.str w)) M)
def Rd.call{V:qJ}(rd:Rd a M A V l){i:Nat}{c:pM}(e:V.calls[i]?=ga c):∃k,A.cs[i]?=ga k/\sA a M (A.lists++V.fo) k c:=by
 have hi:i<A.cs.length:=by rw[rd.bd.len];exact(cZ.mp e).1
 exact⟨A.cs[i],cY hi,rd.bd.cs i _ c (cY hi) e⟩
def za{i:Int}(h:0<=i):∃m:Nat,i=(m:Int):=eE h
def IV{c:pM}{x:Str}(nd:c.ms.Nodup)(h2:c.ms.length=2)(hx:x∈c.ms):tD c.ms x≠[]:=λz=>by have:=yp nd hx;rw[z]at this;simp only[dF]at this;lia
def LQ:Fq P w K mg base 2 a.bc (GU a):=by
 refine fq G.bc.toDG tY (λr u=>⟨_,(pH (pW 2 tY (pT U1 pK))
 (pH (qa (pP u U2 (pX (sd pL pL)))
 (pI (pO (pX (sd U2 (pT U1 pK)))))
 pU)
 (pH (pW 3 tY (pT U1 pK))
 (pH (pW 4 tY (pT U1 pK))
 (pH (pW 5 tY (pT (pN v0) v4))
 (pH (qa (pP u U2 pL)
 (pI (pO (pX (rJ pL v4 (pX (sd (pN v5) U3))))))
 pU)
 (pH (qa (pP u U2 pL)
 (pI (pO (pX (rJ pL v4 U3))))
 pU)
 (pH (qa (pP u U2 pL)
 (pI (pO (pX (rJ pL v4 (qg rR Z' G.l rm (qp (pN v5)))))))
 pU)
 (pH (pW 6 tY (pT U1 pK))
 (pH (pW 7 tY (pX (sd (qm v5 G.e.toCls G.aH (F9 G) r (qp U3)) (qm (pT (pN v0) v6) G.e.toCls G.aH (F9 G) r (qp U3)))))
 (pH (qa (pP u U2 pL)
 (pI (pO (pX (qh pL (rJ v4 v6 v7)))))
 pU)
 (pI (pO (pX (qh pL (rJ v4 v6 (ql (pX (qp U3)) v7))))))))))))))))),?_⟩)
 rintro ds M Q ⟨A,V,l,e,ev,rfl,rd,sg,q⟩
 cases sg with
 | sw b i hi=>
  cases b with
  | true=>exact⟨pE Z',Z',Z',pE Z',M,.refl,q⟩
  | false=>exact⟨pE Z',Z',Z',pE Z',M,.refl,q⟩
 | answer x i c hc=>obtain⟨k,ek,ca⟩:=rd.call hc;obtain⟨ad,md,h1,h2,h3,h4,n1,n2⟩:=ca;refine⟨pE Z',Z',Z',?_⟩;refine pJ rd.bd.at_ (i' Z' (i' Z' (i' rd.bd.ca (i' (rO ek) ?_))));exact pJ h1 (i' Z' ⟨pE Z',pE Z',M,.refl,q⟩)
 | hold x i c hc=>obtain⟨k,ek,ca⟩:=rd.call hc;refine⟨pE Z',Z',Z',?_⟩;refine pJ rd.bd.at_ (i' Z' (i' Z' (i' rd.bd.ca (i' (rO ek) ?_))));exact⟨pE Z',M,.refl,q⟩
 | back x i c hc=>obtain⟨k,ek,ca⟩:=rd.call hc;obtain⟨ad,md,h1,h2,h3,h4,n1,n2⟩:=ca;refine⟨pE Z',Z',Z',?_⟩;refine pJ rd.bd.at_ (i' Z' (i' Z' (i' rd.bd.ca (i' (rO ek) ?_))));exact pJ h1 (i' Z' (i' h4 ⟨pE Z',M,.refl,q⟩))
 | two wd x i j c d X9 hw hc hd nc nd=>
  obtain⟨k,ek,ca⟩:=rd.call hc;obtain⟨k',ek',ca'⟩:=rd.call hd;have ca0:=ca;have ca1:=ca';obtain⟨ad,md,h1,h2,h3,h4,n1,n2⟩:=ca0;obtain⟨ad',md',f1,_⟩:=ca1;obtain⟨y1,r1,e1⟩:=gp nc;obtain⟨y2,r2,e2⟩:=gp nd;have o1:qM c x=y1:=by unfold qM;rw[e1];rfl
  have o2:qM d x=y2:=by unfold qM;rw[e2];rfl
  rw[o1,o2]at q;rcases hw with rfl|rfl
  .refine⟨pE Z',Z',Z',?_⟩;refine pJ rd.bd.at_ (i' Z' (i' Z' (i' rd.bd.ca (i' (rO ek) ?_))));refine pJ h1 ⟨Z',_,⟨Z',Z'⟩,_,k,c,x,y1,r1,Z',ca,(rd.ms c (rb hc)).2,e1,?_⟩;refine pJ rd.bd.at_ (i' Z' (i' Z' (i' rd.bd.ca (i' (rO ek') ?_))));refine pJ f1 ⟨Z',_,⟨Z',Z'⟩,_,k',d,x,y2,r2,Z',ca',(rd.ms d (rb hd)).2,e2,?_⟩;exact⟨pE Z',pE Z',M,.refl,q⟩
  .refine⟨pE Z',Z',Z',?_⟩;refine pJ rd.bd.at_ (i' Z' (i' Z' (i' rd.bd.ca (i' (rO ek) ?_))));refine pJ h1 ⟨Z',_,⟨Z',Z'⟩,_,k,c,x,y1,r1,Z',ca,(rd.ms c (rb hc)).2,e1,?_⟩;refine pJ rd.bd.at_ (i' Z' (i' Z' (i' rd.bd.ca (i' (rO ek') ?_))));refine pJ f1 ⟨Z',_,⟨Z',Z'⟩,_,k',d,x,y2,r2,Z',ca',(rd.ms d (rb hd)).2,e2,?_⟩;exact⟨pE Z',pE Z',fB _ _,by show 1+2<=Ch;have hz:=dI;lia,pE Z',M,.refl,q⟩
def SM:Fq P w K mg base 12 a.bd (Rl a):=by
 refine fq G.bd.toDG Nn (λr u=>⟨_,(pH (pW 2 Nn (pT U1 pK))
 (pI (qa (pP u U2 pL)
 (pI (pY (pV (Mn G) r G.a7 (rJ v0 (pT U1 pK) (pT U1 pK)))))
 (pI (qa (pP u U2 pL)
 (pI (pY (pV (OW G) r G.a8 (rJ v0 (pT U1 pK) (pT U1 pK)))))
 (pI (qa (pP u U2 pL)
 (pI (pY (pV (OP G) r G.bb (qp v0))))
 (pI (pY (qm v0 G.c.toCls G.k (rK G) r (qp (pV (LQ G) r G.bc (sd v0 U1))))))))))))),?_⟩)
 rintro ds M Q ⟨M0,b,A,V,l,c,n,e,rfl,cu,hc,hn,wf,hf,hr,q⟩
 have rd:=cu.rd (by lia) wf;have one:∀(ev:Ev),QU l V e ev->xT l V e=[ev]->ev.ok V->ev.nw=0->Bo (M b) λC fs'=>fs'.lookup ("apply":Str)=Fa/\∃sp,(C=a.c/\sp=wN a)/\GU a [.ref b,e.d] M λd M1=>sp [.ref b,d] M1 λ_ M'=>∃Xb,qO Xb M'/\Q .mW Xb:=λev sg he ok h0=>by refine pJ cu.at_ ⟨Z',_,⟨Z',Z'⟩,A,V,l,e,ev,by rw[cu.b],rd,sg,b,A,V,ev,Z',cu.b,cu.bd,cu.lim (by lia) (by lia),ok,λM1 A1 eb st bd=>?_⟩;rw[he]at q;have c1:=cu.after ok eb st bd;rw[h0]at c1;exact⟨M1,.refl,q M1 A1 (c1.mono (by lia) (by lia)) st⟩
 cases e with
 | call y z=>obtain⟨h1,h2,h3,h4⟩:=EU hr;exact⟨M0,b,A,V,l,c,n,y,z,Z',cu,by lia,by lia,HH wf h1 h2 h3 h4,λM' A' c1 st=>⟨M',.refl,q M' A' (c1.mono (by lia) (by lia)) st⟩⟩
 | turn=>exact⟨M0,b,A,V,l,c,n,Z',cu,by lia,by lia,wf,λM' A' c1 st=>⟨M',.refl,q M' A' (c1.mono (by lia) (by lia)) st⟩⟩
 | sw b0 i=>
  obtain⟨h1,h2⟩:=Uy hr;obtain⟨i,rfl⟩:=za h1;cases b0 with
  | true=>exact one (.sw Db i) (.sw Db i h2) Z' h2 Z'
  | false=>exact one (.sw pc i) (.sw pc i h2) Z' h2 Z'
 | num wd x ns=>
  obtain⟨hx,no⟩:=Io hf hr;cases no with
  | answer i c0 hi hc0 h1 h2 h3=>obtain⟨i,rfl⟩:=za hi;have lt:=(cZ.mp hc0).1;exact one (.talks i [c0.cr,x]) (.answer x i c0 hc0) (eV (λev=>[ev]) (zJ hc0)) ⟨lt,by show 2<=100;decide⟩ Z'
  | hang i c0 hi hc0 h1=>obtain⟨i,rfl⟩:=za hi;exact⟨M0,b,A,V,l,c,n,x,i,c0,Z',cu,by lia,by lia,hc0,λM' A' c1 st=>⟨M',.refl,q M' A' (c1.mono (by lia) (by lia)) st⟩⟩
  | hold i c0 hi hc0 h1=>obtain⟨i,rfl⟩:=za hi;have lt:=(cZ.mp hc0).1;exact one (.held i x) (.hold x i c0 hc0) (eV (λev=>[ev]) (zJ hc0)) lt Z'
  | back i c0 hi hc0 h1 h2=>obtain⟨i,rfl⟩:=za hi;have lt:=(cZ.mp hc0).1;exact one (.talks i c0.ms) (.back x i c0 hc0) (eV (λev=>[ev]) (zJ hc0)) ⟨lt,(cu.sz.cs c0 (rb hc0)).2.2⟩ Z'
  | two _ i j c0 d0 hi hj hw hc0 hd0 h1 h2=>
   obtain⟨i,rfl⟩:=za hi;obtain⟨j,rfl⟩:=za hj;have lt:=(cZ.mp hc0).1;have lt':=(cZ.mp hd0).1;have X9:=(Jn (w:=wd) wf hc0 hd0 h1 h2).1;have k0:=wf.ok _ c0 hc0;have k1:=wf.ok _ d0 hd0;obtain⟨_,u2,u3,_⟩:=Fu k0 h1;obtain⟨_,v2,v3⟩:=Ax.mp h2;have sg:=QU.two (l:=l) wd x i j c0 d0 X9 hw hc0 hd0 (IV k0.mn u2 u3) (IV k1.mn v3 v2);have ok:(Ev.merge i j (if (wd=="hand")=Db then[qM c0 x,qM d0 x]else[x,qM c0 x,qM d0 x])).ok V:=⟨lt,lt',X9,by split;exact(by decide:2<=100);exact(by decide:3<=100)⟩;have he:xT l V (.num wd x [(i:Int),(j:Int)])=[.merge i j (if (wd=="hand")=Db then[qM c0 x,qM d0 x]else[x,qM c0 x,qM d0 x])]:=eV (λev=>[ev]) (Iv hc0 hd0);rcases hw with rfl|rfl
   .exact one _ sg he ok Z'
   .exact one _ sg he ok Z'
def Kq:xU P w K mg base (Cq P w) 1 a.H.f a.H.d a.H.p (xi K "word"):=
 Nb G.H.toDG CP λXi A outer s H E=>JH (Pz (pv 0) (pv 1))
def T5:Wr P w K mg base 13 a.M (TU a):=by
 refine Uw G.M.toDG IF (by walk_at "m") (λ_ _ _ _ _ _ R hr hR=>⟨_,(pH (pW 2 IF (pV (Iw G) hr G.a2 (sd v0 U1)))
 (pH (qa (pP (WK hr) U2 tw)
 (pI (Kk G.b6 (Kq G) (hr.mono (by first|decide|lia)) G.H.b G.b7 G.H.at_ Z' G.bZ hR (qp U2)))
 pU)
 (pH (pW 3 IF (qc qC Z' G.g qB (qp (pN v0))))
 (pH (pY (pV (SM G) hr G.bd (sd v0 U1)))
 (pI (pO (rS (pN v0) (sO U3) sL))))))),?_⟩)
 .rintro ds M Q ⟨M0,b,A,V,l,c,n,e,rfl,cu,hc,hn,wf,hf,q,rr⟩
  refine⟨A,V,l,e,by rw[cu.b],cu.rd (by lia) wf,hf,?_⟩;cases er:xW l V e with
  | some w0=>exact⟨_,Z',rr w0 er⟩
  | none=>
   refine pJ cu.at_ (i' Z' (i' cu.bd.lo ?_));refine⟨M0,b,A,V,l,c,n,e,Z',cu,hc,hn,wf,hf,er,λM' A' c1 st=>?_⟩;refine pJ c1.at_ (i' Z' (i' c1.bd.lo λp hp=>?_));have hcut:L3.vj ((rc V (xT l V e)).log.map Ev.d) (ga (((V.log.map Ev.d).length:Nat):Int)) Fa=(xT l V e).map Ev.d:=by rw[JS,dN,Cw _ _ (by rw[cX];lia),List.drop_left]
   rw[hcut];exact⟨_,.refl,q er M' A' p c1 st hp⟩
def QG(a:Ad):rM:=λds M Q=>Rw λM0 b A V l c n e=>ds=[.ref b,uM.d e]/\vb a M0 M b A V l c n/\c<10000/\n<=5000000/\WF l V/\e.nG/\(xW l V e=Fa->∀M' A',vb a M0 M' b A' (rc V (xT l V e)) l (c+1) (n+40+33*c)->rE A M A' M'->Q (.bl Db) M')/\(xW l V e≠Fa->Q (.bl pc) M)
def Oz:Fq P w K mg base 14 a.bu (QG a):=by
 refine fq G.bu.toDG yk (λr u=>⟨_,(pH (pW 2 yk vv)
 (pH (OX (LP (T5 G) (r.mono (by first|decide|lia)) Z' G.M.mg G.M.toDG.kp G.M.b (sd v0 U1)) Z' Z' Z' G.bZ (λev E'=>
 (pI (pW 2 yk vv))))
 (pI (pO U2)))),?_⟩)
 rintro ds M Q ⟨M0,b,A,V,l,c,n,e,rfl,cu,hc,hn,wf,hf,q,qf⟩
 refine⟨λC _ M'=>(C=a.I/\xW l V e≠Fa)/\M=M',?_,?_⟩
 .exact⟨M0,b,A,V,l,c,n,e,Z',cu,hc,hn,wf,hf,λh M' A' r c1 st hm=>⟨M',.new hm,q h M' A' c1 st⟩,λw h=>⟨⟨Z',by rw[h];exact λz=>nomatch z⟩,Z'⟩⟩
 .rintro C y M' ⟨⟨rfl,h⟩,rfl⟩
  exact⟨G.b8,M,.refl,qf h⟩
noncomputable def wI(g:ur):Bool:=g.2.1==("turns":Str)
def vO(l:pR):T0 (Str×Int):=(l.groups.filter wI).map λg=>(g.1,0)
def V0(p:Uf)(h:Int)(l:pR)(F:QXQ):qJ:=⟨p,h,0,[],[],vO l,l.mQ.map (·.1),[],F⟩
def F5(a:Ad):rM:=λds M Q=>Hw λb p h F (l:pR)=>ds=[.ref b,.ref p,.int h]/\M b=ga (.ins a.c [])/\tU a M p l/\rX l/\p≠b/\(∀x∈F,∃c,M x=ga c)/\∀M' A,A.b=b->se b M M'->(∀x∈A.foot,x=b\/M x=Fa)->pZ a M' A (V0 p h l F)->Q .mW M'
noncomputable def NJ(g:D):Bool:=match g with
 | .tup (_::.str m::_)=>m=="turns"
 | _=>pc
def Q0(d:D):D:=.tup [Bp d,.int 0]
def IR(gs:List ur):((gs.map rC).filter NJ).map Q0=(gs.filter wI).map λg=>D.tup [.str g.1,.int 0]:=by rw[hW,eh];rfl
def KN(l:pR):((l.groups.filter wI).map λg=>((Sum.inr g.1:rF),D.int 0))=tV (vO l):=by unfold tV vO;rw[eh];rfl
noncomputable def bF(p:Uf)(h:Int)(ca le nx YM:Uf)(k:Nat):T0 (Str×D):=List.take (α:=Str×D) k [("plan",.ref p),("hour",.int h),("turn",.int 0),("calls",.ref ca),("legs",.ref le),("nexts",.ref nx),("on",.ref YM)]
def L6:Fq P w K mg base 1 a.ak (F5 a):=by
 refine fq G.ak.toDG DL (λr u=>⟨_,(pH (qv v0 U1)
 (pH (qv v0 U2)
 (pH (qv v0 pK)
 (pH (qv v0 (qX sH))
 (pH (qv v0 (qX sH))
 (pH (qv v0 (qg (BR Z') Z' G.bT BN (qp (qT Z' (xV (ix:=[Fa]) (N':=["group"])) (qP (pN U1)) (qQ 0) (vF (pP u (pT v0 pK) pL)) (pX (sd (pT v0 pK) pK))))))
 (pH (qv v0 (qg sv Z' G.m rV (qp (pN U1))))
 (pI (qv v0 (qX sH)))))))))),?_⟩)
 rintro ds M Q ⟨b,p,h,F,l,rfl,hb,⟨ph,gr,ws,on,pr,gd,rs,i1,i2,i3,i4,i5,i6,i7,i8⟩,ok,nbp,hF,q⟩
 have hz:=dI;have l2:=ok.g3;refine pJ hb ⟨(G.E "plan" Z'),by show 0<1000;decide,?_⟩;have k1:se b M (pQ M b (.ins a.c [("plan",.ref p)])):=.put;have b1:pQ M b (.ins a.c [("plan",.ref p)]) b=ga (.ins a.c [("plan",.ref p)]):=qd;show va _ _ _ _ (pQ M b (.ins a.c [("plan",.ref p)]));generalize pQ M b (.ins a.c [("plan",.ref p)])=N1 at k1 b1 ⊢;refine pJ b1 ⟨(G.E "hour" Z'),by show 1<1000;decide,?_⟩;have k2:=k1.trans (se.put (p:=b) (c:=.ins a.c [("plan",.ref p),("hour",.int h)]));have b2:pQ N1 b (.ins a.c [("plan",.ref p),("hour",.int h)]) b=ga (.ins a.c [("plan",.ref p),("hour",.int h)]):=qd;show va _ _ _ _ (pQ N1 b (.ins a.c [("plan",.ref p),("hour",.int h)]));generalize pQ N1 b (.ins a.c [("plan",.ref p),("hour",.int h)])=N2 at k2 b2 ⊢;refine pJ b2 ⟨(G.E "turn" Z'),by show 2<1000;decide,?_⟩;have k3:=k2.trans (se.put (p:=b) (c:=.ins a.c (bF p h 0 0 0 0 3)));have b3:pQ N2 b (.ins a.c (bF p h 0 0 0 0 3)) b=ga (.ins a.c (bF p h 0 0 0 0 3)):=qd;show va _ _ _ _ (pQ N2 b (.ins a.c (bF p h 0 0 0 0 3)));generalize pQ N2 b (.ins a.c (bF p h 0 0 0 0 3))=N3 at k3 b3 ⊢;clear k1 k2 b1 b2;refine⟨pE Z',λca hca=>?_⟩;obtain⟨n4,e4,k4,c4,b4⟩:=tR (fs':=(bF p h ca 0 0 0 4)) (c:=.lst []) b3 hca;refine pJ e4 ⟨(G.E "calls" Z'),by show 3<1000;decide,?_⟩;show va _ _ _ _ (pQ (pQ N3 ca (.lst [])) b (.ins a.c (bF p h ca 0 0 0 4)));generalize pQ (pQ N3 ca (.lst [])) b (.ins a.c (bF p h ca 0 0 0 4))=N4 at k4 c4 b4 ⊢;have Ze:=k3.trans k4;have z1:M ca=Fa:=sy k3 b3 hca;have lc4:om N4 ca=ga []:=tH c4;refine⟨pE Z',λle ZN=>?_⟩;obtain⟨n5,e5,k5,c5,b5⟩:=tR (fs':=(bF p h ca le 0 0 5)) (c:=.lst []) b4 ZN;refine pJ e5 ⟨(G.E "legs" Z'),by show 4<1000;decide,?_⟩;show va _ _ _ _ (pQ (pQ N4 le (.lst [])) b (.ins a.c (bF p h ca le 0 0 5)));generalize pQ (pQ N4 le (.lst [])) b (.ins a.c (bF p h ca le 0 0 5))=N5 at k5 c5 b5 ⊢;have Zf:=Ze.trans k5;have z2:M le=Fa:=sy Ze b4 ZN;have le5:om N5 le=ga []:=tH c5;have mcl:le≠ca:=λz=>by rw[z,qx lc4]at ZN;cases ZN
 have lc5:=k5.lst (qk lc4 b4) lc4;have p5:=Zf _ _ nbp i1;have g5:=Zf.lst (qk i3 hb) i3;clear k3 k4 k5 Ze lc4 c4 c5 e4 e5 b3 b4;refine pJ p5 (i' Z' (i' g5 ?_));refine ui (f:=Q0) (t:=NJ) g5 _ [] _ (by rw[cV];simp only[dF];lia) (λd hd k hk=>?_) (λd hd _ k hk=>?_) λq1 Ye=>?_
 .obtain⟨v,_,rfl⟩:=dD.mp hd;exact hk
 .obtain⟨v,_,rfl⟩:=dD.mp hd;exact⟨pE Z',hk⟩
 rw[dZ,IR];have ZL:=qO.new (c:=.lst ((l.groups.filter wI).map λg=>D.tup [.str g.1,.int 0])) Ye;refine i' pS (i' (xo (λg:ur=>g.1) (λ_=>D.int 0) _) ⟨zr (iI (List.Sublist.map _ gj) (iI (jA _ _) ok.nd)),λnx Xg=>?_⟩);have z3:M nx=Fa:=sy Zf b5 (ZL.none Xg);obtain⟨n6,e6,k6,c6,b6⟩:=tR (fs':=(bF p h ca le nx 0 6)) (c:=.dk ((l.groups.filter wI).map λg=>((Sum.inr g.1:rF),D.int 0))) (ZL _ _ b5) Xg;refine pJ e6 ⟨(G.E "nexts" Z'),by show 5<1000;decide,?_⟩;have k6:=ZL.keep.trans k6;have Y4:wU "nexts" (.ref nx) (bF p h ca le 0 0 5)=(bF p h ca le nx 0 6):=rfl;rw[Y4];generalize pQ (pQ (pQ N5 q1 (.lst ((l.groups.filter wI).map λg=>D.tup [.str g.1,.int 0]))) nx (.dk ((l.groups.filter wI).map λg=>((Sum.inr g.1:rF),D.int 0)))) b (.ins a.c (bF p h ca le nx 0 6))=N6 at k6 b6 c6 ⊢;have x6:yW N6 nx=ga ((l.groups.filter wI).map λg=>((Sum.inr g.1:rF),D.int 0)):=A0 c6;have kk6:=Zf.trans k6;have lc6:=k6.lst (qk lc5 b5) lc5;have le6:=k6.lst (qk le5 b5) le5;have p6:=kk6 _ _ nbp i1;have o6:=kk6.lst (qk i5 hb) i5;clear Zf k6 lc5 p5 g5 e6 c6;refine pJ p6 (i' Z' (i' o6 λYM hon=>?_));have z4:M YM=Fa:=sy kk6 b6 hon;obtain⟨n7,e7,k7,c7,b7⟩:=tR (fs':=(bF p h ca le nx YM 7)) (c:=.lst (l.mQ.map λw=>D.bl w.1)) b6 hon;refine pJ e7 ⟨(G.E "on" Z'),by show 6<1000;decide,?_⟩;have Y4:wU "on" (.ref YM) (bF p h ca le nx 0 6)=(bF p h ca le nx YM 7):=rfl;rw[Y4];generalize pQ (pQ N6 YM (.lst (l.mQ.map λw=>D.bl w.1))) b (.ins a.c (bF p h ca le nx YM 7))=N7 at k7 b7 c7 ⊢;have kk7:=kk6.trans k7;have lc7:=k7.lst (qk lc6 b6) lc6;have le7:=k7.lst (qk le6 b6) le6;have x7:=k7.dk (C9 x6 b6) x6;have lo7:om N7 YM=ga ((l.mQ.map (·.1)).map D.bl):=by rw[eh];exact tH c7
 refine⟨pE Z',λlg hlg=>?_⟩;obtain⟨n8,e8,k8,c8,b8⟩:=tR (fs':=um (.ref p) h 0 ca le nx YM lg) (c:=.lst []) b7 hlg;refine pJ e8 ⟨(G.E "log" Z'),by show 7<1000;decide,_,.refl,?_⟩;have apart:∀{N:Mp} {x y:Uf} {ds:T0 D},N x=Fa->om N y=ga ds->x≠y:=λ{N x y ds} h1 h2 z=>by have:=qx h2;rw[<-z,h1]at this;cases this
 have y5:=sy kk7 b7 hlg;refine q _ ⟨b,ca,le,nx,YM,lg,[]⟩ Z' (kk7.trans k8) (λx hx=>?_) ⟨b8,k8.lst (qk lc7 b7) lc7,k8.lst (qk le7 b7) le7,?_,k8.lst (qk lo7 b7) lo7,tH c8,Z',λi k c e=>by simp at e,?_,dS.mpr ⟨dJ,eN⟩,λx hx=>?_⟩
 rotate_right
 .by_cases z:x=b
  .exact⟨_,by rw[z];exact b8⟩
  .obtain⟨c,e⟩:=hF x hx;exact⟨c,(kk7.trans k8) x c z e⟩
 .have hx:x∈[b,nx,ca,le,YM,lg]:=by
   unfold uj.foot uj.lists at hx
   simpa using hx
  simp only[dh,dJ,fm]at hx;rcases hx with rfl|rfl|rfl|rfl|rfl|rfl
  .exact .inl Z'
  .exact .inr z3
  .exact .inr z1
  .exact .inr z2
  .exact .inr z4
  .exact .inr y5
 .show yW _ nx=ga (tV (vO l));rw[<-KN];exact k8.dk (C9 x7 b7) x7
 .have m1:=apart hlg lc7;have m2:=apart hlg le7;have m3:=apart hlg lo7;have m4:=apart hon lc6;have m5:=apart hon le6;show[ca,le,YM,lg].Nodup;simp only[dS,dh,dJ,fm,fV,not_false_eq_true,eN,and_true];exact⟨⟨dQ mcl,dQ m4,dQ m1⟩,⟨dQ m5,dQ m2⟩,dQ m3⟩
def Wn{p:Uf}{F:QXQ}(ok:rX l):WF l (V0 p h l F):=by
 refine⟨λi c e=>by simp[V0]at e,λi j ci cj x e=>by simp[V0]at e,λx hx=>?_,λi j ci cj x e=>by simp[V0]at e,λz hz ht=>?_⟩
 .show((0:Nat):Int)<=xp l x;unfold xp;cases e:l.nu x with
  | none=>exact Int.le_refl _
  | some v=>have:=(ok.po v (gv e)).l1;show(0:Int)<=v.2.1;lia
 .show ∃v,(vO l).find? (λp=>decide (p.1=z))=ga v/\_;unfold pR.mT at ht;cases e:l.group z with
  | none=>rw[e]at ht;exact absurd ht (by decide)
  | some g=>
   rw[e]at ht;have hg:=gv e;have hn:g.1=z:=by simpa using mv e
   have hm:((g.1,0):Str×Int)∈vO l:=dD.mpr ⟨g,fA.mpr ⟨hg,ht⟩,Z'⟩;cases q:(vO l).find? (λp=>decide (p.1=z))with
   | none=>exact absurd (gJ.mp q _ hm) (by simp[hn])
   | some v=>refine⟨v,Z',?_⟩;obtain⟨g',_,rfl⟩:=dD.mp (gv q);exact⟨Int.le_refl _,Int.natCast_nonneg _⟩
def GB(c:pM):D:=.tup [.str c.st,.str c.cr,.tup (c.way.map D.str),.tup (c.at_.map D.str),.tup (c.ms.map D.str),Dk c.hd,.int c.si,Dk c.wd]
def Ds(V:qJ):D:=.tup [.int V.t,.tup (V.calls.map GB),.tup ((tX V.ps).map AR),.tup (V.on.map D.bl)]
def Ql(a:Ad):rM:=λds M Q=>Dj λL k c=>ds=[.ref k.p]/\sA a M L k c/\Q (GB c) M
def HS(a:Ad):rM:=λds M Q=>BQ λA V=>ds=[.ref A.b]/\pZ a M A V/\V.calls.length<=10000/\V.ps.length<=3/\Q (Ds V) M
def EB(ok:rX l):(vO l).length<=3:=by unfold vO;rw[cV];exact d9 (fO _ _) ok.g3
def Qb:Fq P w K mg base 1 a.aX (Ql a):=by
 refine fq G.aX.toDG xQ (λr u=>⟨_,(pH (pW 1 xQ (pX (rJ (qg rR Z' G.l rm (qp (pN v0))) (qg rR Z' G.l rm (qp (pN v0))) (qg rR Z' G.l rm (qp (pN v0))))))
 (pI (pO (ql (ql (pX (sd (pN v0) (pN v0))) U1) (pX (rJ (pN v0) (pN v0) (pN v0))))))),?_⟩)
 rintro ds M Q ⟨L,k,c,rfl,⟨ad,md,h1,h2,h3,h4,_⟩,q⟩
 have hz:=dI;refine pJ h1 (i' Z' (i' h2 (pJ h1 (i' Z' (i' h3 (pJ h1 (i' Z' (i' h4 ⟨pE Z',?_⟩))))))));refine pJ h1 (i' Z' (pJ h1 (i' Z' ⟨pE Z',fB _ _,by show 2+3<=Ch;lia,?_⟩)));exact pJ h1 (i' Z' (pJ h1 (i' Z' (pJ h1 (i' Z' ⟨pE Z',fB _ _,by show 5+3<=Ch;lia,M,.refl,q⟩)))))
def CF:Fq P w K mg base 2 a.ac (HS a):=by
 refine fq G.ac.toDG C6 (λr u=>⟨_,(pH (pW 1 C6 (qg rR Z' G.l rm (qp (qT Z' (xV (ix:=[Fa]) (N':=["call"])) (qP (pN v0)) (qQ 0) sC (pV (Qb G) r G.aX (qp v0))))))
 (pI (pO (pX (qh (pN v0) (rJ U1 (qg rR Z' G.l rm (qp (Fo Z' (pN v0) Z' G.cE))) (qg rR Z' G.l rm (qp (pN v0))))))))),?_⟩)
 rintro ds M Q ⟨A,V,rfl,bd,Xy,h3,q⟩
 have hz:=dI;refine pJ bd.at_ (i' Z' (i' bd.ca ?_));refine BG (A.cs.map λk=>D.ref k.p) (λpre acc U M'=>M=M'/\acc=(V.calls.take pre.length).map GB/\∃y,U=[y]) (λ_ _ _ M' j=>by rw[<-j.1];exact bd.ca) _ [] [] _ _ Z' ?_ ⟨Z',Z',Fa,Z'⟩ ?_ ?_
 .rw[cV,bd.len];simp only[dF];lia
 .rintro pre d post e acc U M' ⟨rfl,rfl,y,rfl⟩ k hk
  obtain⟨ka,c,e1,e2,rfl,hc,et⟩:=BP bd e;refine⟨_,ka,c,Z',hc,hk _ _ _ ⟨Z',?_,_,Z'⟩⟩;rw[cX,dH,et,dN];rfl
 .rintro acc U M' ⟨rfl,rfl,y,rfl⟩ p1 YS
  rw[cV,bd.len,fj];refine i' pS ?_;obtain⟨M1,e0,s1,_⟩:=uT (ds:=V.calls.map GB) YS;rw[<-e0];refine pJ (s1 _ _ bd.at_) (i' Z' (pJ (s1 _ _ bd.at_) (i' Z' ⟨V.ps,s1.dk bd.nx,h3,λS hS=>i' pS ?_⟩)));have s2:=s1.trans (qO.new (c:=.lst ((tX V.ps).map AR)) hS);generalize pQ M1 S (.lst ((tX V.ps).map AR))=M2 at s2 ⊢;exact pJ (s2 _ _ bd.at_) (i' Z' (i' (s2.lst bd.on) ⟨pE Z',M,s2,q⟩))
def Ev.noT:Ev->Prop
 | .turn=>False
 | .sw _ _=>False
 | _=>True
def Ev.noN:Ev->Prop
 | .next _ _=>False
 | _=>True
theorem Fx:∀{es:T0 Ev} {V:qJ},(∀e∈es,e.noN)->(rc V es).ps=V.ps
 | [],_,_=>rfl
 | e::r,V,h=>(Fx (es:=r) (V:=qA V e) λx hx=>h x (dE _ hx)).trans (by have:=h e dO;cases e<;>first|rfl|cases this)
theorem Ck(i:Nat):∀(st:sI) (q:Option Str),∀e∈sr i q st,e.noT/\e.noN
 | [],_,e,h=>by unfold sr at h;cases h
 | (y,gs)::r,Fa,e,h=>by
  rcases dh.mp (show e∈Ev.asks i y gs::sr i (ga y) r from h)with rfl|h
  .exact⟨trivial,trivial⟩
  .exact Ck i r _ e h
 | (y,gs)::r,ga u,e,h=>by
  rcases dh.mp (show e∈Ev.leg ⟨i,u,y,u⟩::Ev.asks i y gs::sr i (ga y) r from h)with rfl|h
  .exact⟨trivial,trivial⟩
  rcases dh.mp h with rfl|h
  .exact⟨trivial,trivial⟩
  .exact Ck i r _ e h
def Oe{st:sI}:∀e∈uF i st en,e.noT/\e.noN:=λe h=>by
 unfold uF at h;cases en with
 | ring ns=>
  dsimp only at h;cases q:st.getLast? with
  | none=>rw[q]at h;cases h
  | some s0=>rw[q]at h;rw[dA.mp h];exact⟨trivial,trivial⟩
 | _=>cases h
def OZ{ps:T0 (Str×Int)}{z:Str}{n:Int}(h:ps.any (λp=>decide (p.1=z))=Db):(CV ps z n).length=ps.length:=by unfold CV;rw[de h,cV]
def Tn{V V1:qJ}(nx:uY l V1)(he:Ha l V i en):(rc V1 (tT l V i en)).ps.length=V1.ps.length:=by
 cases en with
 | rings z ps=>
  show(rc V1 ((if (l.mT z=="turns")=Db then[Ev.next z (QN (l.mP z) (ps.headD Str.empty))]else[])++[.rings i ps])).ps.length=_;rw[so];by_cases ht:(l.mT z=="turns")=Db
  .rw[de ht];refine OZ ?_;obtain⟨v,e,_⟩:=nx z he.1 ht;exact gG.mpr ⟨v,gv e,by simpa using mv e⟩
  .rw[c9 ht];rfl
 | breaks z=>
  unfold tT;dsimp only;split
  .rfl
  .rfl
 | waits z=>rfl
 | engaged z=>rfl
 | barred=>rfl
 | ring ns=>rfl
def QS{V:qJ}{i:Nat}{k:pM}(ok:rX l)(wf:Ai l V (ga i))(hk:V.calls[i]?=ga k):(rc V (xP l V i)).ps.length=V.ps.length:=by
 have Yg:=wf.ok i k hk;unfold xP;rw[hk];dsimp only[Option.elim];obtain⟨z,hz⟩:∃z,k.way.getLast?=ga z:=by
  cases e:k.way.getLast? with
  | none=>exact absurd (gR.mp e) Yg.wy.1
  | some z=>exact⟨z,Z'⟩
 rw[show k.way.getLastD Str.empty=z by rw[iB,hz];rfl];have ro:yE l V k.cr (l.nm.length+1) [] (uR l V k.cr z k.way.dropLast):=zZ ok _ _ _ _ (Yg.wy.2 z (je hz)) λx hx=>Yg.wy.2 x (jf _ hx);have eo:=NH ok wf hk ro.e;generalize uR l V k.cr z k.way.dropLast=R at eo;obtain⟨e,st⟩:=R;have e1:(rc (rc V (sr i Fa st)) (uF i st e)).ps=V.ps:=(Fx λx hx=>(Oe x hx).2).trans (Fx λx hx=>(Ck i st Fa x hx).2);rw[so,so];refine(Tn (λz hz ht=>?_) eo).trans (eV List.length e1);rw[e1];exact wf.nx z hz ht
theorem JP(ok:rX l):∀(is:T0 Nat) {V:qJ},WF l V->(rc V (sF l is V)).ps.length=V.ps.length
 | [],V,_=>by unfold sF;rfl
 | i::r,V,wf=>by
  unfold sF;rw[so];refine(JP ok r (J0 ok wf)).trans ?_;have d:=Hy (V:=V) (i:=i) ok;generalize Ae l V i=fs at d;cases d with
  | no=>rfl
  | on c k r b x y n hc hs hk hw hy=>rw[AC hk,so];exact QS ok (E6 wf hc hs hy) (FN hc)
def UF{V:qJ}{e:uM}(ok:rX l)(wf:WF l V)(f:e.nG)(h:xW l V e=Fa):(rc V (xT l V e)).ps.length=V.ps.length:=by
 cases e with
 | call y z=>obtain⟨h1,h2,h3,h4⟩:=EU h;obtain⟨k,hk⟩:=LA (V:=V) (y:=y) (z:=z);show(rc V (_++xP l _ _)).ps.length=_;rw[so];exact QS ok (HH wf h1 h2 h3 h4) hk
 | turn=>exact JP ok _ (Fc wf)
 | sw b i=>rfl
 | num w x ns=>
  refine eV List.length (Fx λev hev=>?_);obtain⟨_,n⟩:=Io f h;cases n with
  | answer i c hi hc h1 h2 h3=>rw[dA.mp (show ev∈[F1 V "answer" x i.toNat]from hev),zJ hc];trivial
  | hang i c hi hc h1=>
   have hev:ev∈xH V x i.toNat:=hev;unfold xH at hev;rw[hc]at hev;dsimp only[Option.elim]at hev;split at hev
   .rw[dA.mp hev];trivial
   split at hev
   .rcases dh.mp hev with rfl|hev
    .trivial
    split at hev
    .rw[dA.mp hev];trivial
    .cases hev
   split at hev
   .rw[dA.mp hev];trivial
   .rw[dA.mp hev];trivial
  | hold i c hi hc h1=>rw[dA.mp (show ev∈[F1 V "hold" x i.toNat]from hev),zJ hc];trivial
  | back i c hi hc h1 h2=>rw[dA.mp (show ev∈[F1 V "back" x i.toNat]from hev),zJ hc];trivial
  | two _ i j c d hi hj hw hc hd h1 h2=>rw[dA.mp (show ev∈[Gk V w x i.toNat j.toNat]from hev),Iv hc hd];trivial
theorem yC(n:Nat):∀ss:QQQ,(ss.map D.str).all (sj n)=Db
 | []=>rfl
 | s::r=>by rw[dW,eO,yC n r];cases n<;>rfl
theorem yA(n:Nat):∀ss:T0 Nat,(ss.map λi=>D.int (i:Nat)).all (sj n)=Db
 | []=>rfl
 | s::r=>by rw[dW,eO,yA n r];cases n<;>rfl
theorem Gb(n:Nat):∀ss:T0 Bool,(ss.map D.bl).all (sj n)=Db
 | []=>rfl
 | s::r=>by rw[dW,eO,Gb n r];cases n<;>rfl
def Qq(e:Ev):sj 6 e.d=Db:=by
 have t:∀ss:QQQ,sj 5 (names ss)=Db:=λss=>yC 4 ss;have u:∀ss:T0 Nat,sj 5 (uK ss)=Db:=λss=>yA 4 ss;cases e with
 | asks i z ns=>show([D.str "asks",.int (i:Nat),.str z,uK ns].all (sj 5))=Db;simp only[eO,u];rfl
 | merge i j ms=>show([D.str "merge",.int (i:Nat),.int (j:Nat),names ms].all (sj 5))=Db;simp only[eO,t];rfl
 | rings i ps=>show([D.str "rings",.int (i:Nat),names ps].all (sj 5))=Db;simp only[eO,t];rfl
 | talks i ps=>show([D.str "talks",.int (i:Nat),names ps].all (sj 5))=Db;simp only[eO,t];rfl
 | _=>rfl
def NY{n:Nat}(V:qJ):sj (n+4) (Ds V)=Db:=by
 have c1:∀c∈V.calls,sj (n+2) (GB c)=Db:=λc hc=>by
  have h0:∀o:Option Str,sj (n+1) (Dk o)=Db:=λo=>by cases o<;>rfl
  have t:∀ss:QQQ,sj (n+1) (.tup (ss.map D.str))=Db:=λss=>yC n ss;show([D.str c.st,.str c.cr,.tup (c.way.map D.str),.tup (c.at_.map D.str),.tup (c.ms.map D.str),Dk c.hd,.int c.si,Dk c.wd].all (sj (n+1)))=Db;simp only[eO,t,h0];rfl
 have c2:sj (n+3) (.tup (V.calls.map GB))=Db:=by show(V.calls.map GB).all (sj (n+2))=Db;rw[jN,eI];exact c1
 have c3:sj (n+3) (.tup ((tX V.ps).map L3.AR))=Db:=by show((tX V.ps).map L3.AR).all (sj (n+2))=Db;rw[jN,eI];exact λx _=>rfl
 have c4:sj (n+3) (.tup (V.on.map D.bl))=Db:=Gb (n+2) _;show([D.int V.t,.tup (V.calls.map GB),.tup ((tX V.ps).map L3.AR),.tup (V.on.map D.bl)].all (sj (n+3)))=Db;simp only[eO,c2,c3,c4];rfl
noncomputable def BI(c:pM):QQQ:=if (c.st=="talks"||c.st=="held")=Db then c.ms else c.cr::c.at_
def KB(a:Ad):rM:=λds M Q=>Dj λL k c=>ds=[.ref (r6.p k)]/\sA a M L k c/\c.at_.length<=100/\∀r M',qO M M'->om M' r=ga ((BI c).map D.str)->Q (.ref r) M'
def NE(V:qJ)(Yj:QQQ):T0 Nat:=(List.range V.calls.length).filter λi=>(V.calls[i]?).elim pc λc=>hasS Yj c.st
def P7(a:Ad):rM:=λds M Q=>CO λA V l Yj=>ds=[.ref A.b,.tup (List.map D.str Yj)]/\Rd a M A V l/\∀r M',qO M M'->om M' r=ga ((NE V Yj).map λn=>D.int (n:Nat))->Q (.ref r) M'
def Sa(V:qJ)(Yj:QQQ):D->Bool
 | .int n=>(V.calls[n.toNat]?).elim pc λc=>hasS Yj c.st
 | _=>pc
def K4:Fq P w K mg base 1 a.bp (KB a):=by
 refine fq G.bp.toDG DC (λr u=>⟨_,(pH (qa (W3.b3 (vH (pP u (pN v0) pL) (vC (pP u (pN v0) pL))))
 (pI (pO (qg sv Z' G.m rV (qp (pN v0)))))
 pU)
 (pI (pO (ql (qX (qp (pN v0))) (qg sv Z' G.m rV (qp (pN v0))))))),?_⟩)
 rintro ds M Q ⟨L,k,c,rfl,⟨ad,md,h1,h2,h3,h4,_⟩,ha,q⟩
 have hz:=dI;unfold BI at q;refine pJ h1 (i' Z' (qD (c:=c.st=="talks") (λg=>?_) (λg=>?_)))
 .rw[g,ig,de Z']at q;exact pJ h1 (i' Z' (i' h4 λr hr=>⟨_,.refl,q r _ (.new hr) pS⟩))
 rw[dG.mpr g,fM]at q;refine pJ h1 (i' Z' (qD (c:=c.st=="held") (λg=>?_) (λg=>?_)))
 .rw[de g]at q;exact pJ h1 (i' Z' (i' h4 λr hr=>⟨_,.refl,q r _ (.new hr) pS⟩))
 rw[c9 g]at q;refine pJ h1 (i' Z' ⟨pE Z',λr1 XU=>?_⟩);obtain⟨M1,e0,t1,l1⟩:=uT (ds:=[D.str c.cr]) XU;rw[<-e0];show Bo (M1 k.p) _;refine pJ (t1 _ _ h1) (i' Z' (i' (t1.lst h3) λr2 Zw=>?_));have t2:=qO.new (c:=.lst (c.at_.map D.str)) Zw;refine i' (t2.lst l1) (i' pS ⟨?_,λr3 ZM=>⟨_,.refl,q r3 _ (t1.trans (t2.trans (.new ZM))) pS⟩⟩);rw[cV];show 1+c.at_.length<=Ch;lia
def Qc:Fq P w K mg base 1 a.bq (P7 a):=by
 refine fq G.bq.toDG Bz (λr u=>⟨_,(pI (pO (qT Z' (xV (ix:=[Fa,ga 0,ga 1]) (N':=["_law_k","_law_board","_law_states"])) (vP Z' G.aa (qp (qc qC Z' G.g qB (qp (pN v0))))) (qQ 0) (vF (pP u (pN (pT (pN U1) v0)) U2)) v0))),?_⟩)
 rintro ds M Q ⟨A,V,l,Yj,rfl,rd,q⟩
 have hz:=dI;have lc:((A.cs.map λk=>D.ref k.p).length:Int)=(V.calls.length:Nat):=by rw[cV,rd.bd.len]
 have hb:=rd.k;refine pJ rd.bd.at_ (i' Z' (i' rd.bd.ca ?_));rw[lc];refine⟨Z',⟨by lia,by lia⟩,?_⟩;refine ui (f:=id) (t:=Sa V Yj) trivial _ [] _ (by rw[cV,eC];simp only[dF];lia) (λd hd k hk=>?_) (λd hd _ k hk=>?_) λr hr=>?_
 .obtain⟨i,hi,rfl⟩:=dD.mp hd;rw[gb]at hi;have hi:i<V.calls.length:=by lia
  obtain⟨k',ek,⟨ad,md,h1,_⟩⟩:=rd.call (cY hi);have ea:wX (A.cs.map λk=>D.ref k.p) (0+(i:Nat))=ga (.ref k'.p):=by rw[mI];exact rO ek
  refine pJ rd.bd.at_ (i' Z' (i' Z' (i' rd.bd.ca (i' ea (pJ h1 (i' Z' (i' Z' ⟨Z',qE _,?_⟩)))))));show k (inD (.str V.calls[i].st) (Yj.map D.str)) M;rw[sP];have e1:Sa V Yj (.int (0+(i:Nat)))=hasS Yj V.calls[i].st:=by show(V.calls[(0+(i:Int)).toNat]?).elim pc _=_;rw[show(0+(i:Int)).toNat=i by lia,cY hi];rfl
  show k (hasS Yj V.calls[i].st) M;rw[<-e1];exact hk
 .exact hk
 .refine⟨_,.refl,q r _ (.new hr) (pS.trans (eV ga ?_))⟩;rw[dZ,jn,hW,show(((V.calls.length:Nat):Int)).toNat=V.calls.length from rfl];unfold NE;have e1:(Sa V Yj∘λi:Nat=>D.int (0+(i:Nat)))=λi=>(V.calls[i]?).elim pc λc=>hasS Yj c.st:=funext λi=>by show(V.calls[(0+(i:Int)).toNat]?).elim pc _=_;rw[show(0+(i:Int)).toNat=i by lia]
  rw[e1];exact gD λi _=>by rw[mI]
noncomputable def GT:Str->QQQ:=λw=>if (w=="answer")=Db then["rings","waits"]else if (w=="hold")=Db then["talks"]else if (w=="hang")=Db then["rings","waits","talks","held"]else["held"]
def Su(w:Str):Prop:=w="answer"\/w="hang"\/w="hold"\/w="back"\/w="hand"\/w="join"
def Kp(a:Ad):rM:=λds M Q=>Hw λA V l c w=>ds=[.ref A.b,.int c,.str w,.tup ((GT w).map D.str)]/\Rd a M A V l/\WF l V/\(∀k∈V.calls,k.at_.length<=100)/\Su w/\∀M',qO M M'->Q .mW M'/\∀e:uM,e.nG->Q e.d M'
def RO{n:Nat}{a b:Uf}{ds:T0 D}(ha:om M a=ga ds)(hb:om M b=ga []):xj M (n+1) (.ref a) (.ref b)=ga ds.isEmpty:=by
 show(om M a).bind (λi=>(om M b).bind λj=>if i.length=j.length then tq (xj M n) i j else ga pc)=_;rw[ha,hb];cases ds with
 | nil=>rfl
 | cons x r=>rfl
def vp{α:Type}(f:α->D){xs:List α}(h:xs≠[])(c k:Int):(0:Int)<((xs.map f).length:Nat)/\∃x∈xs,wX (xs.map f) (qG c k ((xs.map f).length:Nat))=ga (f x):=by
 have hp:(0:Int)<((xs.map f).length:Nat):=by have:=fC.mpr h;rw[cV];lia
 have d0:=qU (c:=c) (f:=k) hp;have d1:=qR (c:=c) (f:=k) hp;obtain⟨n,e⟩:=eE d0;rw[e]at d1 ⊢;have hn:n<xs.length:=by rw[cV]at d1;lia
 exact⟨hp,xs[n],im hn,uB (by rw[dC,cY hn];rfl)⟩
def S7{V:qJ}{i:Nat}(h:i∈NE V Yj):∃c,V.calls[i]?=ga c/\c.st∈Yj:=by
 have h:=(fA.mp h).2;cases e:V.calls[i]? with
 | none=>rw[e]at h;cases h
 | some c=>rw[e]at h;exact⟨c,Z',ra.mp h⟩
def Eo{c:pM}(k:wM l pc c)(h:c.st≠"over"):BI c≠[]:=by
 unfold BI;split
 .rename_i g;rcases k.sh with z|⟨_,z|z|⟨_,z⟩|z⟩
  .rw[z.1]at g;exact absurd g (by decide)
  .rw[z.1]at g;exact absurd g (by decide)
  .intro y;rw[y]at z;rcases z.2.1 with u|u<;>cases u
  .intro y;rw[y]at z;cases z.2.1
  .exact absurd z.1 h
 .exact fB _ _
def Ud{c:pM}(k:wM l pc c)(h:c.st∈GT "answer"):c.at_≠[]:=by
 have h:c.st="rings"\/c.st="waits":=by
  rcases dh.mp h with g|g
  .exact .inl g
  .exact .inr (dA.mp g)
 rcases k.sh with z|⟨_,z|z|⟨_,z⟩|z⟩
 .exact z.2.2.2.2.2 Z'
 .intro y;rw[y]at z;cases z.2.2.2.2
 all_goals(rw[z.1]at h;exact absurd h (by decide))
def JX{c:pM}(k:wM l pc c)(h:c.st="held"):∃x,c.hd=ga x:=by
 rcases k.sh with z|⟨_,z|z|⟨x,z⟩|z⟩
 .rw[h]at z;exact absurd z.1 (by decide)
 .rw[h]at z;exact absurd z.1 (by decide)
 .rw[h]at z;exact absurd z.1 (by decide)
 .exact⟨x,z.2.2.1⟩
 .rw[h]at z;exact absurd z.1 (by decide)
def Kb:Fq P w K mg base 4 a.br (Kp a):=by
 refine fq G.br.toDG rZ (λr u=>⟨_,(pH (pW 4 rZ (pV (Qc G) r G.bq (sd v0 U3)))
 (pH (qa (pP u v4 (qX sH))
 (pI (pO tw))
 pU)
 (pH (pW 5 rZ (pT v4 (pV (qV G) r G.i (rJ U1 pK (qc qC Z' G.g qB (qp v4))))))
 (pH (pW 6 rZ (pV (K4 G) r G.bp (qp (pT (pN v0) v5))))
 (pH (qa (pP u U2 pL)
 (pI (pW 6 rZ (qg sv Z' G.m rV (qp (pN (pT (pN v0) v5))))))
 pU)
 (pH (qa (W3.b3 (vH (pP u U2 pL) (vH (pP u U2 pL) (vC (pP u U2 pL)))))
 (pI (pW 6 rZ (qX (qp (pN (pT (pN v0) v5))))))
 pU)
 (pH (pW 7 rZ (pT v6 (pV (qV G) r G.i (rJ U1 pK (qc qC Z' G.g qB (qp v6))))))
 (pH (qa (W3.b3 (vH (pP u U2 pL) (vC (pP u U2 pL))))
 (pH (pW 8 rZ (qm v0 G.c.toCls G.R (yX G) r (qp v7)))
 (pI (pO (pX (qh U2 (rJ v7 v5 (QT (pP u v8 tw) pK v8)))))))
 pU)
 (pI (pO (pX (rJ U2 v7 v5)))))))))))),?_⟩)
 rintro ds M Q ⟨A,V,l,c,wd,rfl,rd,wf,ha,ho,q⟩
 have hz:=dI;refine⟨A,V,l,GT wd,Z',rd,λr M1 s1 lr=>?_⟩;refine⟨pE Z',λr0 hr0=>?_⟩;have t2:=qO.new (c:=.lst []) hr0;have ZS:=t2.lst lr;refine i' (RO ZS pS) ?_;have s2:=s1.trans t2;generalize pQ M1 r0 (.lst [])=M2 at s2 ZS ⊢;clear t2 lr hr0 s1;refine qD (c:=((NE V (GT wd)).map λn=>D.int (n:Nat)).isEmpty) (λ_=>⟨M2,.refl,(q M2 s2).1⟩) (λg=>?_);have gne:NE V (GT wd)≠[]:=λz=>g (by rw[z];rfl);obtain⟨hp,i,hi,ei⟩:=vp (λn:Nat=>D.int (n:Nat)) gne c 40692;obtain⟨cv,hc,hs⟩:=S7 hi;have Y6:=rd.sub s2;obtain⟨k,ek,ca⟩:=Y6.call hc;have ca0:=ca;obtain⟨ad,md,h1,h2,h3,h4,_⟩:=ca0;have Yg:=wf.ok i cv hc;refine i' ZS ⟨c,_,_,Z',hp,i' ZS (i' ei ?_)⟩;refine pJ Y6.bd.at_ (i' Z' (i' Z' (i' Y6.bd.ca (i' (rO ek) ?_))));refine⟨_,k,cv,Z',ca,ha cv (rb hc),λr3 M3 s3 lr3=>?_⟩;have XT:=s3 _ _ h1;have q3:=λM' (s:qO M3 M')=>q M' (s2.trans (s3.trans s));have YC:=Y6.sub s3;have ZK:=s3.lst h3;clear q ZS s2 h1 h2 h3 h4 ca;rcases ho with rfl|rfl|rfl|rfl|rfl|rfl
 .
  refine pJ YC.bd.at_ (i' Z' (i' Z' (i' YC.bd.ca (i' (rO ek) (pJ XT (i' Z' (i' ZK λr4 hr4=>?_)))))));obtain⟨Xh,x,hx,ex⟩:=vp D.str (Ud Yg hs) c 742938285;refine i' pS ⟨c,_,_,Z',Xh,i' pS (i' ex ?_)⟩;exact⟨pE Z',_,.refl,(q3 _ (.new hr4)).2 (.num "answer" x [(i:Nat)]) (.inl ⟨.inl Z',Z'⟩)⟩
 .
  obtain⟨Xh,x,hx,ex⟩:=vp D.str (Eo Yg (λz=>by rw[z]at hs;exact absurd hs (by decide))) c 742938285;refine i' lr3 ⟨c,_,_,Z',Xh,i' lr3 (i' ex ?_)⟩;exact⟨pE Z',_,.refl,(q3 _ .refl).2 (.num "hang" x [(i:Nat)]) (.inl ⟨.inr (.inl Z'),Z'⟩)⟩
 .
  obtain⟨Xh,x,hx,ex⟩:=vp D.str (Eo Yg (λz=>by rw[z]at hs;exact absurd hs (by decide))) c 742938285;refine i' lr3 ⟨c,_,_,Z',Xh,i' lr3 (i' ex ?_)⟩;exact⟨pE Z',_,.refl,(q3 _ .refl).2 (.num "hold" x [(i:Nat)]) (.inl ⟨.inr (.inr (.inl Z')),Z'⟩)⟩
 .
  obtain⟨y,hy⟩:=JX Yg (dA.mp hs);refine pJ YC.bd.at_ (i' Z' (i' Z' (i' YC.bd.ca (i' (rO ek) (pJ XT (i' Z' ⟨pE Z',λr4 hr4=>?_⟩))))));rw[show Dk cv.hd=.str y by rw[hy];rfl];obtain⟨Xh,x,hx,ex⟩:=vp D.str (fB y []) c 742938285;refine i' pS ⟨c,_,_,Z',Xh,i' pS (i' ex ?_)⟩;exact⟨pE Z',_,.refl,(q3 _ (.new hr4)).2 (.num "back" x [(i:Nat)]) (.inl ⟨.inr (.inr (.inr Z')),Z'⟩)⟩
 all_goals
  obtain⟨y,hy⟩:=JX Yg (dA.mp hs);refine pJ YC.bd.at_ (i' Z' (i' Z' (i' YC.bd.ca (i' (rO ek) (pJ XT (i' Z' ⟨pE Z',λr4 hr4=>?_⟩))))));rw[show Dk cv.hd=.str y by rw[hy];rfl];obtain⟨Xh,x,hx,ex⟩:=vp D.str (fB y []) c 742938285;refine i' pS ⟨c,_,_,Z',Xh,i' pS (i' ex ?_)⟩;have t4:=qO.new (c:=.lst [D.str y]) hr4;refine pJ (t4 _ _ YC.bd.at_) ⟨Z',_,⟨Z',Z'⟩,A,V,x,Z',YC.bd.sub t4,YC.k,?_⟩;unfold AZ;cases wB V x with
  | none=>first|exact⟨pE Z',_,.refl,(q3 _ t4).2 (.num "hand" x [(i:Nat),(0:Nat)]) (.inr ⟨.inl Z',Z'⟩)⟩|exact⟨pE Z',_,.refl,(q3 _ t4).2 (.num "join" x [(i:Nat),(0:Nat)]) (.inr ⟨.inr Z',Z'⟩)⟩
  | some j=>first|exact⟨pE Z',_,.refl,(q3 _ t4).2 (.num "hand" x [(i:Nat),(j:Nat)]) (.inr ⟨.inl Z',Z'⟩)⟩|exact⟨pE Z',_,.refl,(q3 _ t4).2 (.num "join" x [(i:Nat),(j:Nat)]) (.inr ⟨.inr Z',Z'⟩)⟩
def JZ:rM:=λds M Q=>K2 λc o n own nm m=>ds=[.int c,.ref o,.ref n,.int ((m:Nat):Int)]/\om M o=ga (List.map D.str own)/\om M n=ga (List.map D.str nm)/\own.length<=100/\nm.length<=100/\m<=1000000/\∀M' (e:uM),qO M M'->e.nG->Q e.d M'
def LS(a:Ad):rM:=λds M Q=>Rw λA V l c o n own nm=>ds=[.ref A.b,.int c,.ref o,.ref n]/\Rd a M A V l/\WF l V/\(∀k∈V.calls,k.at_.length<=100)/\om M o=ga (List.map D.str own)/\om M n=ga (List.map D.str nm)/\own≠[]/\nm≠[]/\own.length<=100/\nm.length<=100/\∀M' (e:uM),qO M M'->e.nG->Q e.d M'
def Ju{α:Type}(f:α->D){xs:List α}(h:xs≠[]){m:Int}(hm:m=(xs.length:Nat))(c k:Int):(0:Int)<m/\∃x∈xs,wX (xs.map f) (qG c k m)=ga (f x):=by have:=vp f h c k;rw[cV,<-hm]at this;exact this
def PH{α:Type}(xs:List α)(x:α):xs++[x]≠[]:=by simp
noncomputable def HC:QQQ:=["call","call","call","call","call","answer","answer","answer","answer","answer","hang","hang","hold","hold","hold","back","hand","join","turn","turn","turn"]
theorem D3(d:D):∀n:Nat,(List.replicate n [d]).flatten=List.replicate n d
 | 0=>rfl
 | n+1=>by rw[eM,fU,D3 d n,eM];rfl
noncomputable def zz:Str:="zzzzzz"
noncomputable def Na(a b:Str)(k m:Int):List uM:=[.call a b,.num "answer" a [k],.num "hang" a [k],.num "hold" a [k],.num "back" a [k],.num "hand" a [k,m],.num "join" a [k,m],.turn,.sw Db k,.sw pc k]
def Mg{a b:Str}{k m:Int}{e:uM}(h:e∈Na a b k m):e.nG:=by
 unfold Na at h;simp only[dh,dJ,fm]at h;rcases h with rfl|rfl|rfl|rfl|rfl|rfl|rfl|rfl|rfl|rfl
 .trivial
 .exact .inl ⟨.inl Z',Z'⟩
 .exact .inl ⟨.inr (.inl Z'),Z'⟩
 .exact .inl ⟨.inr (.inr (.inl Z')),Z'⟩
 .exact .inl ⟨.inr (.inr (.inr Z')),Z'⟩
 .exact .inr ⟨.inl Z',Z'⟩
 .exact .inr ⟨.inr Z',Z'⟩
 .trivial
 .trivial
 .trivial
def Qy:Fq P w K mg base 2 a.bs JZ:=by
 refine fq G.bs.toDG vk (λr u=>⟨_,(pH (pW 4 vk (pT (ql U1 (qX (qp pL))) (pV (qV G) r G.i (rJ v0 pK (ql (qc qC Z' G.g qB (qp U1)) pK)))))
 (pH (pW 5 vk (pT (ql U2 (qX (qp pL))) (pV (qV G) r G.i (rJ v0 pK (ql (qc qC Z' G.g qB (qp U2)) pK)))))
 (pH (pW 6 vk (ql (pV (qV G) r G.i (rJ v0 pK (ql U3 pK))) pK))
 (pH (pW 7 vk (ql (pV (qV G) r G.i (rJ v0 pK (ql U3 pK))) pK))
 (pH (pW 8 vk (qX (qh (pX (rJ pL v4 v5)) (qh (pX (rJ pL v4 v6)) (qh (pX (rJ pL v4 v6)) (rJ (pX (rJ pL v4 v6)) (pX (rJ pL v4 v6)) (pX (qh pL (rJ v4 v6 v7)))))))))
 (pI (pO (pT (ql v8 (qX (qh (pX (qh pL (rJ v4 v6 v7))) (rJ (pX (qp pL)) (pX (sd pL v6)) (pX (sd pL v6)))))) (pV (qV G) r G.i (rJ v0 pK pK)))))))))),?_⟩)
 rintro ds M Q ⟨c,o,n,own,nm,m,rfl,ho,hn,ol,nl,ml,q⟩
 have hz:=dI;have add:∀{M1:Mp} {p:Uf} {xs:QQQ} (f:Int) (nx:DK),qO M M1->om M1 p=ga (xs.map D.str)->xs.length<=100->(∀x M',qO M M'->nx (.str x) M')->∀r1,M1 r1=Fa->(om (pQ M1 r1 (.lst [D.str zz])) p).elim False λi=>(om (pQ M1 r1 (.lst [D.str zz])) r1).elim False λj=>i.length+j.length<=Ch/\∀r2,pQ M1 r1 (.lst [D.str zz]) r2=Fa->(om (pQ (pQ M1 r1 (.lst [D.str zz])) r2 (.lst (i++j))) p).elim False λys=>JQ [.int c,.int f,.int ((ys.length:Nat)+1)] (pQ (pQ M1 r1 (.lst [D.str zz])) r2 (.lst (i++j))) λy M2=>match y with
  | .int n=>(om M2 r2).elim False λzs=>(wX zs n).elim False λd=>nx d M2
  | _=>False:=λ{M1 p xs} f nx s hx lx Xg r1 XU=>by
  have t1:=qO.new (c:=.lst [D.str zz]) XU;refine i' (t1.lst hx) (i' pS ⟨by rw[cV];show xs.length+1<=Ch;lia,λr2 Zw=>?_⟩);have t2:=qO.new (c:=.lst (xs.map D.str++[D.str zz])) Zw;obtain⟨hp,x,_,ex⟩:=Ju D.str (PH xs zz) (m:=((xs.map D.str).length:Nat)+1) (by rw[cV,cX];rfl) c f;rw[dN]at ex;exact i' ((t1.trans t2).lst hx) ⟨c,f,_,Z',hp,i' pS (i' ex (Xg x _ (s.trans (t1.trans t2))))⟩
 refine⟨pE Z',add 16807 _ .refl ho ol λx M1 s1=>⟨pE Z',add 39373 _ s1 (s1.lst hn) nl λy M2 s2=>?_⟩⟩;refine⟨c,_,_,Z',by show(0:Int)<(m:Nat)+2;lia,⟨c,_,_,Z',by show(0:Int)<(m:Nat)+2;lia,?_⟩⟩;generalize qG c 69621 ((m:Nat)+2) - 1=k0;refine⟨pE Z',pE Z',pE Z',pE Z',pE Z',pE Z',pE Z',λr8 hr8=>⟨pE Z',pE Z',pE Z',pE Z',pE Z',λr9 hr9=>?_⟩⟩;have t8:=qO.new (c:=.lst (((Na x y k0 (qG c 22695477 ((m:Nat)+2) - 1)).take 6).map uM.d)) hr8;have t9:=qO.new (c:=.lst (((Na x y k0 (qG c 22695477 ((m:Nat)+2) - 1)).drop 6).map uM.d)) hr9;refine i' (t9.lst pS) (i' pS ⟨by show 6+4<=Ch;lia,λr10 hr10=>?_⟩);obtain⟨hp,e,he,ee⟩:=Ju uM.d (xs:=Na x y k0 (qG c 22695477 ((m:Nat)+2) - 1)) (fB _ _) (m:=10) Z' c 1664525;exact⟨c,_,_,Z',hp,i' pS (i' ee ⟨_,.refl,q _ e (s2.trans (t8.trans (t9.trans (.new hr10)))) (Mg he)⟩)⟩
def Nj:Fq P w K mg base 5 a.bt (LS a):=by
 refine fq G.bt.toDG rY (λr u=>⟨_,(pH (pW 4 rY (ql (ql (ql (ql (ql (CT (qX (qp pL)) pK) (CT (qX (qp pL)) pK)) (CT (qX (qp pL)) pK)) (CT (qX (qp pL)) pK)) (qX (rJ pL pL pL))) (CT (qX (qp pL)) pK)))
 (pH (pW 4 rY (pT v4 (pV (qV G) r G.i (rJ U1 pK (qc qC Z' G.g qB (qp v4))))))
 (pH (pW 5 rY (pX (qh pL (rJ pL pL pL))))
 (pH (qa (pP u v4 pL)
 (pI (pW 5 rY (pX (sd pL pL))))
 pU)
 (pH (qa (pP u v4 pL)
 (pI (pW 5 rY (pX (qp pL))))
 pU)
 (pH (qa (W3.b3 (vH (pP u v4 pL) (vH (pP u v4 pL) (vC (pP u v4 pL)))))
 (pI (pW 5 rY (pX (qp pL))))
 pU)
 (pH (qa (pP u v4 pL)
 (pI (pO (pX (qp pL))))
 pU)
 (pH (qa (pP u (pV (qV G) r G.i (rJ U1 pK pK)) pK)
 (pI (pO (pV (Qy G) r G.bs (qh U1 (rJ U2 U3 (qc qC Z' G.g qB (qp (pN v0))))))))
 pU)
 (pH (pW 6 rY tw)
 (pH (qa (pP u v4 pL)
 (pI (pW 6 rY (pV (Kb G) r G.br (qh v0 (rJ U1 v4 v5)))))
 pU)
 (pH (qa (pP u v6 tw)
 (pH (pW 7 rY (pT U2 (pV (qV G) r G.i (rJ U1 pK (qc qC Z' G.g qB (qp U2))))))
 (pI (pW 6 rY (pX (rJ pL v7 (pT U3 (pV (qV G) r G.i (rJ U1 pK (qc qC Z' G.g qB (qp U3))))))))))
 pU)
 (pI (pO v6))))))))))))),?_⟩)
 rintro ds M Q ⟨A,V,l,c,o,n,own,nm,rfl,rd,wf,ha,ho,hn,one,nne,ol,nl,q⟩
 have hz:=dI;refine Jh (t:=B5 _ _) (λU M'=>qO M M'/\∃r,om M' r=ga (HC.map D.str)/\U=[ga (.ref A.b),ga (.int c),ga (.ref o),ga (.ref n),ga (.ref r),Fa,Fa,Fa]) (λnx h=>?_) ?_
 .have Y7:∀{N:Mp} {U:we} (w0:Str) (m:Int) (nx:DK),qO M N->(0<=m/\m<=10)->(∀r N',qO M N'->qO N N'->om N' r=ga ((List.replicate m.toNat w0).map D.str)->nx (.ref r) N')->TH (UO (wb (L3.c3 (.str w0)) yr)) (L3.c3 (.int m)) U N nx:=λ{N U} w0 m nx sn hm Xg=>by refine⟨pE Z',λr1 XU=>?_⟩;refine i' pS ⟨⟨by lia,by lia,by show 1<=1000;decide⟩,λr2 Zw=>?_⟩;have t:=(qO.new (c:=.lst [D.str w0]) XU).trans (qO.new (c:=.lst (List.replicate m.toNat [D.str w0]).flatten) Zw);refine Xg r2 _ (sn.trans t) t (pS.trans (eV ga ?_));rw[List.map_replicate];exact D3 _ _
  have Yk:∀{N:Mp} {p r:Uf} {xs ys:QQQ} (nx:DK),qO M N->om N p=ga (xs.map D.str)->om N r=ga (ys.map D.str)->xs.length+ys.length<=100->(∀r N',qO M N'->om N' r=ga ((xs++ys).map D.str)->nx (.ref r) N')->Vm .Add (.ref p) (.ref r) N nx:=λ{N p r xs ys} nx sn hx hy hl Xg=>by refine i' hx (i' hy ⟨by rw[cV,cV];lia,λr2 Zw=>?_⟩);refine Xg r2 _ (sn.trans (.new Zw)) (pS.trans (eV ga ?_));rw[dN]
  dsimp only[B5,o3];refine Y7 "call" 5 _ .refl (by decide) λp1 N1 s1 _ l1=>Y7 "answer" 5 _ s1 (by decide) λq2 N2 s2 t2 l2=>Yk _ s2 (t2.lst l1) l2 (by decide) λp2 N3 s3 l3=>Y7 "hang" 2 _ s3 (by decide) λq4 N4 s4 t4 l4=>Yk _ s4 (t4.lst l3) l4 (by decide) λp5 N5 s5 l5=>Y7 "hold" 3 _ s5 (by decide) λq6 N6 s6 t6 l6=>Yk _ s6 (t6.lst l5) l6 (by decide) λp7 N7 s7 l7=>⟨pE Z',λr8 hr8=>?_⟩;have t8:=qO.new (c:=.lst ((["back","hand","join"]:QQQ).map D.str)) hr8;exact Yk (ys:=["back","hand","join"]) _ (s7.trans t8) (t8.lst l7) pS (by decide) λp9 N9 s9 l9=>Y7 "turn" 3 _ s9 (by decide) λq10 N10 s10 t10 l10=>Yk _ s10 (t10.lst l9) l10 (by decide) λp11 N11 s11 l11=>h _ _ ⟨s11,p11,l11,Z'⟩
 rintro U M1 ⟨s1,r,lr,rfl⟩
 have s1n:=s1.lst hn;have s1o:=s1.lst ho;obtain⟨hp,w0,hw,ew⟩:=vp D.str (show HC≠[]from fB _ _) c 48271;refine i' lr ⟨c,_,_,Z',hp,i' lr (i' ew ?_)⟩;obtain⟨YS,x1,hx1,ex1⟩:=vp D.str one c 16807;obtain⟨Xh,x2,hx2,ex2⟩:=vp D.str nne c 39373;have Yo:=rd.sub s1;have lc:((A.cs.map λk=>D.ref k.p).length:Int)=(V.calls.length:Nat):=by rw[cV,rd.bd.len]
 clear lr hp ew;have hw:w0="call"\/w0="turn"\/Su w0:=by unfold HC at hw;simp only[dh,dJ,fm]at hw;unfold Su;rcases hw with h|h|h|h|h|h|h|h|h|h|h|h|h|h|h|h|h|h|h|h|h<;>simp[h]
 have Xc:∀M' (e:uM),qO M1 M'->e.nG->∃Xb,qO Xb M'/\Q e.d Xb:=λM' e s f=>⟨M',.refl,q M' e (s1.trans s) f⟩;rcases hw with rfl|rfl|hw
 .refine⟨pE Z',c,_,_,Z',by decide,qD (c:=qG c 950706376 9==0) (λ_=>pJ Yo.bd.at_ (i' Z' (i' Yo.bd.ca ?_))) (λ_=>?_)⟩
  .rw[lc];exact⟨c,o,n,own,nm,V.calls.length,Z',s1o,s1n,ol,nl,rd.k,Xc⟩
  exact i' s1o ⟨c,_,_,Z',YS,i' s1o (i' ex1 (i' s1n ⟨c,_,_,Z',Xh,i' s1n (i' ex2 ⟨pE Z',Xc M1 (.call x1 x2) .refl trivial⟩)⟩))⟩
 .exact⟨pE Z',pE Z',Xc M1 .turn .refl trivial⟩
 have lany:JZ [.int c,.ref o,.ref n,.int ((V.calls.length:Nat):Int)] M1 λd M'=>∃Xb,qO Xb M'/\Q d Xb:=⟨c,o,n,own,nm,V.calls.length,Z',s1o,s1n,ol,nl,rd.k,Xc⟩;have hw':=hw;rcases hw with rfl|rfl|rfl|rfl|rfl|rfl
 all_goals
  first
   | refine⟨pE rfl,pE rfl,c,_,_,rfl,by decide,qD (c:=qG c 950706376 9==0) (λ_=>pJ Yo.bd.at_ (i' rfl (i' Yo.bd.ca ?_))) (λ_=>⟨A,V,l,c,_,rfl,Yo,wf,ha,hw',λM' s=>⟨?_,λe f=>?_⟩⟩)⟩
   | refine⟨pE rfl,c,_,_,rfl,by decide,qD (c:=qG c 950706376 9==0) (λ_=>pJ Yo.bd.at_ (i' rfl (i' Yo.bd.ca ?_))) (λ_=>⟨A,V,l,c,_,rfl,Yo,wf,ha,hw',λM' s=>⟨?_,λe f=>?_⟩⟩)⟩
  .rw[lc];exact lany
  .exact i' (s.lst s1o) ⟨c,_,_,Z',YS,i' (s.lst s1o) (i' ex1 (i' (s.lst s1n) ⟨c,_,_,Z',Xh,i' (s.lst s1n) (i' ex2 ⟨pE Z',Xc M' (.call x1 x2) s trivial⟩)⟩))⟩
  .cases e with
   | call y z=>exact Xc M' (.call y z) s f
   | num v y ns=>exact Xc M' (.num v y ns) s f
   | turn=>exact Xc M' .turn s f
   | sw b i=>exact Xc M' (.sw b i) s f
def RD(a:Ad):rM:=λds M Q=>CO λL k c x=>ds=[.ref (r6.p k),.str x]/\sA a M L k c/\LM pc c/\Q (.bl (c.hasB x)) M
def BV{α:Type}{f:α->D}{xs:List α}{pre post:T0 D}{d:D}(e:pre++d::post=xs.map f):∃x,xs[pre.length]?=ga x/\d=f x/\xs.take (pre.length+1)=xs.take pre.length++[x]:=by
 have h:(xs.map f)[pre.length]?=ga d:=by rw[<-e];simp
 rw[dC]at h;cases hx:xs[pre.length]? with
 | none=>rw[hx]at h;cases h
 | some x=>rw[hx]at h;refine⟨x,Z',(dg h).symm,?_⟩;rw[gx,hx];rfl
def Rr:Fq P w K mg base 1 a.bv (RD a):=by
 refine fq G.bv.toDG KP (λr u=>⟨_,(pH (qa (pP u (pN v0) pL)
 (pI (pO (Gd (qr u U1 (pN v0)) (sT (qr u U1 (pN v0))))))
 pU)
 (pH (qa (pP u (pN v0) pL)
 (pI (pO (qr u U1 (pN v0))))
 pU)
 (pI (pO (qr u U1 (pN v0)))))),?_⟩)
 rintro ds M Q ⟨L,k,c,x,rfl,⟨ad,md,h1,h2,h3,h4,_⟩,st,q⟩
 unfold pM.hasB at q;refine pJ h1 (i' Z' ?_);refine qD (c:=c.st=="rings") (λg=>?_) (λg=>?_)
 .rw[de g]at q;refine pJ h1 (i' Z' (qD (c:=x==c.cr) (λg2=>?_) (λg2=>?_)))
  .rw[g2]at q;exact⟨M,.refl,q⟩
  .rw[show(x==c.cr)=pc from dG.mpr g2,fM]at q;exact pJ h1 (i' Z' (AU h3 ⟨M,.refl,q⟩))
 .rw[c9 g]at q;refine pJ h1 (i' Z' ?_);refine qD (c:=c.st=="waits") (λg2=>?_) (λg2=>?_)
  .rw[de g2]at q;exact pJ h1 (i' Z' ⟨M,.refl,q⟩)
  .rw[c9 g2]at q;refine pJ h1 (i' Z' (AU h4 ⟨M,.refl,?_⟩));rcases st with⟨e,_⟩|⟨_,⟨e,_⟩|⟨e,_⟩|⟨_,e,_⟩|⟨e,e2,_⟩⟩
   .exact absurd (by rw[e];rfl) g
   .exact absurd (by rw[e];rfl) g2
   .rw[e]at q;exact q
   .rw[e]at q;exact q
   .rw[e2];rw[e,e2]at q;exact q
def Kt{x:Uf}{c:vE}(st:rE A M A' M')(h:x∉A.foot)(hx:M x=ga c):x∉A'.foot:=λz=>by
 rcases st.2.1 x z with y|y
 .exact h y
 .rw[hx]at y;cases y
theorem JB:∀(n:Nat) (d:D),sj n d=Db->sj (n+1) d=Db
 | 0,d,h=>by
  cases d with
  | tup ds=>cases h
  | ref _=>cases h
  | ty _=>cases h
  | rl _=>cases h
  | _=>rfl
 | n+1,d,h=>by
  cases d with
  | tup ds=>exact eI.mpr λd hd=>JB n d (eI.mp (show ds.all (sj n)=Db from h) d hd)
  | ref _=>cases h
  | ty _=>cases h
  | rl _=>cases h
  | _=>rfl
def K3{V:qJ}{p q:Uf}(h1:om M p=ga (V.log.map Ev.d))(h2:om M q=ga (V.log.map Ev.d)):xj M 9 (.tup [Ds V,.ref p]) (.tup [Ds V,.ref q])=ga Db:=by
 have e1:xj M 8 (Ds V) (Ds V)=ga Db:=vA 7 _ (NY V);have e2:xj M 8 (.ref p) (.ref q)=ga Db:=AB h1 h2 λd hd=>by obtain⟨v,_,rfl⟩:=dD.mp hd;exact vA 6 _ (Qq v)
 show((xj M 8 (Ds V) (Ds V)).bind λp'=>((xj M 8 (.ref p) (.ref q)).bind λp=>(ga Db).map λq=>p&&q).map λq=>p'&&q).map (λp=>p&&Db)=ga Db;rw[e1,e2];rfl
noncomputable def LK(A:uj)(M:Mp):Mp:=λx=>if x∈A.foot then Fa else M x
def Qz{A:uj}{x:Uf}{ds:T0 D}(h:om M x=ga ds)(n:x∉A.foot):om (LK A M) x=ga ds:=tH (by unfold LK;rw[c9 n];exact qx h)
structure Lp(a:Ad)(M0 N M:Mp)(b:Uf)(A:uj)(V:qJ)(l:pR)(m:Nat):Prop where
 cu:vb a M0 M b A V l (1+m) (3+2200*m)
 wf:WF l V
 ps:V.ps.length<=3
 own:∀x c,N x=ga c->M x=ga c/\x∉A.foot
variable {N:Mp}{m:Nat}
def Lp.s(g:Lp a M0 N M b A V l m):qO N M:=λx c e=>(g.own x c e).1
def Lp.sub(g:Lp a M0 N M b A V l m)(s:qO M M'):Lp a M0 N M' b A V l m:=⟨g.cu.sub s,g.wf,g.ps,λx c e=>⟨s x c (g.own x c e).1,(g.own x c e).2⟩⟩
def Lp.nC(g:Lp a M0 N M b A V l m):Lp a M0 N M b A V l (m+1):=⟨g.cu.mono (by lia) (by lia),g.wf,g.ps,g.own⟩
def Lp.after{e:uM}(g:Lp a M0 N M b A V l m)(hm:m<=63)(f:e.nG)(hr:xW l V e=Fa)(cu:vb a M0 M' b A' (rc V (xT l V e)) l (1+m+1) (3+2200*m+40+33*(1+m)))(st:rE A M A' M'):Lp a M0 N M' b A' (rc V (xT l V e)) l (m+1):=⟨cu.mono (by lia) (by lia),UT g.cu.ok g.wf f hr,by rw[UF g.cu.ok g.wf f hr];exact g.ps,λx c h=>⟨st.1 x c (g.own x c h).2 (g.own x c h).1,Kt st (g.own x c h).2 (g.own x c h).1⟩⟩
def Lp.rd(g:Lp a M0 N M b A V l m)(hm:m<=64):Rd a M A V l:=g.cu.rd (by lia) g.wf
def Lp.mk0(cu:vb a M0 M b A V l 1 3)(wf:WF l V)(ps:V.ps.length<=3):Lp a M0 (LK A M) M b A V l 0:=⟨cu,wf,ps,λx c e=>by
 unfold LK at e;split at e
 .cases e
 .rename_i h;exact⟨e,h⟩⟩
def Lp.start{b p:Uf}{A:uj}(ok:rX l)(pl:tU a M0 p l)(hb:M0 b=Fa)(eb:A.b=b)(kp:se b (pQ M0 b (.ins a.c [])) M)(fr:∀x∈A.foot,x=b\/pQ M0 b (.ins a.c []) x=Fa)(bd:pZ a M A (V0 p h l [])):vb a M0 M b A (V0 p h l []) l 1 3/\WF l (V0 p h l [])/\(V0 p h l []).ps.length<=3:=by
 have t:=qO.new (c:=.ins a.c []) hb;refine⟨⟨bd,pl,λx c e=>kp x c (Jm e hb) (t x c e),λx hx=>?_,eb,⟨eQ _,eQ _,eQ _,EB ok,λk hk=>by cases hk⟩,ok,cV ..⟩,Wn ok,EB ok⟩;rcases fr x hx with z|z
 .rw[z];exact hb
 .exact t.none z
def HV{m:Int}(h2:2<=m)(h:m<=100):2<=(zQ ns m).mR.length:=by have:=(xq (s:=cell ns 0) h2 h).2;show 2<=((List.range (su (cell ns 0) m)).map _).length;rw[cV,eC];exact this
noncomputable def wF(vs:List tP):T0 (rF×D):=vs.map λv=>((Sum.inr v.1:rF),D.int v.2.1)
theorem AX:∀vs:List tP,vN (vs.map λv=>D.tup [.str v.1,.int v.2.1])=ga (wF vs)
 | []=>rfl
 | v::r=>by show(vN (r.map λv=>D.tup [.str v.1,.int v.2.1])).map ((.inr v.1,.int v.2.1)::·)=_;rw[AX r];rfl
noncomputable def WL:D->D
 | .tup (x::y::_)=>.tup [x,y]
 | d=>d
def Dw(V:qJ)(z:Str)(gs:List ur):QQQ:=(gs.find? λg=>decide (g.1=z)).elim [z] λg=>if (g.2.1=="turns")=Db then tN g.2.2 (vK V z)else g.2.2
def Qx{l:pR}{V:qJ}{z:Str}:Dw V z l.groups=if (l.mT z=="turns")=Db then tN (l.mP z) (vK V z)else l.mP z:=by
 unfold Dw pR.mT pR.mP pR.group;cases l.groups.find? λg=>decide (g.1=z)with
 | none=>rw[c9 (by decide+kernel)];rfl
 | some g=>rfl
def NL(ok:rX l)(z:Str):l.groups.filter (λg=>decide (g.1=z))=((l.groups.find? λg=>decide (g.1=z)).elim [] λg=>[g]):=by
 have nd:(l.groups.map (·.1)).Nodup:=(fL.mp ok.nd).2.1;generalize l.groups=gs at nd;induction gs with
 | nil=>rfl
 | cons g r ih=>
  rw[dW,dS]at nd;by_cases h:g.1=z
  .rw[fF (by simpa using h),iS (by simpa using h)];show g::_=[g];rw[List.filter_eq_nil_iff.mpr λu hu=>by
    rw[eB];exact λe=>nd.1 (dD.mpr ⟨u,hu,e.trans h.symm⟩)]
  .rw[fG (by simpa using h),kc (by simpa using h)];exact ih nd.2
def PR(a:Ad):rM:=λds M Q=>Rw λA V l r1 r2 r3 c z=>ds=[.ref (uj.b A),.tup [.ref r1,.ref r2,.ref r3],.str c,.str z]/\om M r1=ga (pR.mR l|>.map rj)/\om M r2=ga (l.groups.map rC)/\Rd a M A V l/\WF l V/\z∈l.nm/\Q (.tup ((vU l V c z).map D.str)) M
def Pl:Fq P w K mg base 2 a.bw (PR a):=by
 refine fq G.bw.toDG qH (λr u=>⟨_,(pH (pW 4 qH (qX (qp U3)))
 (pH (ut eW Z' (qP (pT U1 pK)) (vg (n:=3) Z' (qI (rP 5 qH) (qI (rP 6 qH) (qI (rP 7 qH) ue))))
 (pH (qa (W3.b3 (vh (pP u v5 U3) (uE (pP u v6 pL))))
 (pI (pW 4 qH (qg sv Z' G.m rV (qp v7))))
 pU)
 (pI (qa (W3.b3 (vh (pP u v5 U3) (uE (pP u v6 pL))))
 (pH (pW 8 qH (xO u (pN v0) v5))
 (pI (pW 4 qH (ql (rS (qg sv Z' G.m rV (qp v7)) (sO v8) sL) (rS (qg sv Z' G.m rV (qp v7)) sL (sO v8))))))
 pU))))
 (pH (pW 9 qH (qg (BR Z') Z' G.bT BN (qp (qT Z' (xV (ix:=[Fa]) (N':=["_law_phone"])) (qP (pT U1 pK)) (qQ 0) sC (pX (sd (pT v0 pK) (pT v0 pK)))))))
 (pH (pW 10 qH (qX sH))
 (pH (ut eW Z' (qP v4) (rP 5 qH)
 (pH (vf (i:=11) qH.nd Z' (Or.inl Z') Z' (xV (ix:=[Fa,ga 5]) (N':=["_law_call","_law_name"])) (qP (pN v0)) (qQ 0) (vF (ua (pV (Rr G) r G.bv (sd v0 U1)))) v0)
 (pI (qa (W3.b3 (vh (pP u v5 U2) (uE (pP u (qc qC Z' G.g qB (qp Wp)) (xO u v9 v5)))))
 (pI (pY (qW Pp (qp v5))))
 pU))))
 (pH (qa (pP u (qT Z' (xV (ix:=[Fa,ga 3]) (N':=["_law_group","_law_target"])) (qP (pT U1 pK)) (qQ 0) (vF (pP u (pT v0 pK) U1)) (pT v0 pK)) (qX (qp pL)))
 (pI (pO (qg rR Z' G.l rm (qp (rS Pp sL (sO pK))))))
 pU)
 (pI (pO (qg rR Z' G.l rm (qp Pp)))))))))),?_⟩)
 rintro ds M Q ⟨A,V,l,r1,r2,r3,c,z,rfl,m1,m2,rd,wf,XA,q⟩
 have hzz:=dI;have p8:=rd.ok.p8;have g3:=rd.ok.g3;refine⟨pE Z',λp0 hp0=>?_⟩;obtain⟨M1,e0,t,lp⟩:=uT (ds:=[D.str z]) hp0;rw[<-e0];have lp:om M1 p0=ga ((Dw V z (l.groups.take 0)).map D.str):=lp;dsimp only[qZ];refine Jh (t:=KZ _ _ _) (λU M'=>qO M M'/\∃p y5 y6 y7 y8,om M' p=ga ((Dw V z l.groups).map D.str)/\U=[ga (.ref A.b),ga (.tup [.ref r1,.ref r2,.ref r3]),ga (.str c),ga (.str z),ga (.ref p),y5,y6,y7,y8,Fa,Fa,Fa]) (λnx h=>?_) ?_
 .refine i' (t.lst m2) ?_;refine vd (l.groups.map rC) (λpre U M'=>qO M M'/\∃p y5 y6 y7 y8,om M' p=ga ((Dw V z (l.groups.take pre.length)).map D.str)/\U=[ga (.ref A.b),ga (.tup [.ref r1,.ref r2,.ref r3]),ga (.str c),ga (.str z),ga (.ref p),y5,y6,y7,y8,Fa,Fa,Fa]) (λ_ _ M' j=>j.1.lst m2) _ [] _ _ Z' ⟨t,p0,Fa,Fa,Fa,Fa,lp,Z'⟩ ?_ ?_
  rotate_left
  .rintro U M' ⟨s1,p,y5,y6,y7,y8,lp,rfl⟩
   rw[cV,fj]at lp;exact h _ _ ⟨s1,p,_,_,_,_,lp,Z'⟩
  clear lp t
  rintro pre d post e U M2 ⟨s2,p,y5,y6,y7,y8,lp,rfl⟩ nx2 Xg
  obtain⟨gr,eg,rfl,et⟩:=BV e;have gok:=rd.ok.go gr (rb eg);rw[cX,dH,et]at Xg;refine⟨Z',?_⟩;dsimp only[qZ,zd,Ek];by_cases hg:gr.1=z
  .have hn:(l.groups.take pre.length).find? (λg=>decide (g.1=z))=Fa:=gJ.mpr λu hu eu=>by
    obtain⟨i,hi,ei⟩:=gC hu;have Yz:i<pre.length/\i<l.groups.length:=by rw[eF]at hi;lia
    rw[List.getElem_take]at ei;have:=Im (f:=λp:ur=>p.1) (fL.mp rd.ok.nd).2.1 (by rw[cY Yz.2,ei]) eg ((fD eu).trans hg.symm);lia
   have hm:Dw V z (l.groups.take pre.length++[gr])=if (gr.2.1=="turns")=Db then tN gr.2.2 (vK V z)else gr.2.2:=by unfold Dw;rw[iP,hn,iS (by simpa using hg)];rfl
   rw[hm]at Xg;have pF:=gok.pF;have gl:gr.2.2.length<4000:=gok.pE;have hgz:l.mP z=gr.2.2/\l.mT z=gr.2.1:=by
    have:l.groups.find? (λg=>decide (g.1=z))=ga gr:=by rw[<-List.take_append_drop pre.length l.groups,gP (cZ.mp eg).1,(cZ.mp eg).2,iP,hn,iS (by simpa using hg)];rfl
    unfold pR.mP pR.mT pR.group;rw[this];exact⟨Z',Z'⟩
   generalize hmn:gr.2.1=mn at Xg pF hgz;refine qD (c:=gr.1==z) (λ_=>?_) (λg=>absurd (by rw[hg];exact eL _) g);have self:∀{X Y:Prop},X->if (gr.1==z)=Db then X else Y:=λx=>by rw[hg,de (eL _)];exact x
   rcases pF with pF|pF
   .refine qD (c:=mn=="all") (λ_=>?_) (λg=>absurd (by rw[pF];exact eL _) g);refine λp2 Xh=>?_;dsimp only[qZ];rw[c9 (by rw[pF];decide+kernel)]at Xg;refine qD (c:=gr.1==z) (λ_=>?_) (λg=>absurd (by rw[hg];exact eL _) g);refine qD (c:=mn=="turns") (λg=>absurd g (by rw[pF];decide+kernel)) (λ_=>?_);exact Xg _ _ ⟨s2.trans (.new Xh),p2,_,_,_,_,pS,Z'⟩
   .refine qD (c:=mn=="all") (λg=>absurd g (by rw[pF];decide+kernel)) (λ_=>?_);have et:(mn=="turns")=Db:=by rw[pF];exact eL _
    rw[de et]at Xg;refine qD (c:=gr.1==z) (λ_=>?_) (λg=>absurd (by rw[hg];exact eL _) g);refine qD (c:=mn=="turns") (λ_=>?_) (λg=>absurd et g);obtain⟨YE,nl⟩:=Gw wf.nx XA (by rw[hgz.2];exact et);rw[hgz.1]at nl;generalize vK V z=n at YE nl Xg;rw[hg];refine pJ (s2 _ _ rd.bd.at_) (i' Z' (i' Z' (i' (s2.dk rd.bd.nx) (i' YE ?_))));dsimp only[qZ];have sl:(names gr.2.2)=.tup (gr.2.2.map D.str):=rfl;rw[sl];refine λq3 hq3=>i' pS λq4 hq4=>?_;rw[Cw _ n (by rw[cV];exact nl),<-ir];have t4:=(qO.new (c:=.lst (gr.2.2.map D.str)) hq3).trans (qO.new (c:=.lst ((gr.2.2.drop n).map D.str)) hq4);have k4:=@pS (pQ M2 q3 (.lst (gr.2.2.map D.str))) q4 ((gr.2.2.drop n).map D.str);generalize pQ (pQ M2 q3 (.lst (gr.2.2.map D.str))) q4 (.lst ((gr.2.2.drop n).map D.str))=M4 at t4 k4 ⊢;refine λq5 hq5=>i' pS λq6 hq6=>?_;rw[B',<-iT];have t6:=(qO.new (c:=.lst (gr.2.2.map D.str)) hq5).trans (qO.new (c:=.lst ((gr.2.2.take n).map D.str)) hq6);have k6:=@pS (pQ M4 q5 (.lst (gr.2.2.map D.str))) q6 ((gr.2.2.take n).map D.str);generalize pQ (pQ M4 q5 (.lst (gr.2.2.map D.str))) q6 (.lst ((gr.2.2.take n).map D.str))=M6 at t6 k6 ⊢;refine i' (t6.lst k4) (i' k6 ⟨by rw[cV,cV,fY,eF];lia,λq7 hq7=>?_⟩);rw[<-dN];exact Xg _ _ ⟨s2.trans (t4.trans (t6.trans (.new hq7))),q7,_,_,_,_,pS,Z'⟩
  .have hm:Dw V z (l.groups.take pre.length++[gr])=Dw V z (l.groups.take pre.length):=by unfold Dw;rw[iP,kc (by simpa using hg),List.find?_nil,Option.or_none]
   rw[hm]at Xg;refine qD (c:=gr.1==z) (λg=>absurd (Ix g) hg) (λ_=>yh ?_);refine qD (c:=gr.1==z) (λg=>absurd (Ix g) hg) (λ_=>yh ?_);exact Xg _ _ ⟨s2,p,_,_,_,_,lp,Z'⟩
 clear lp t
 rintro U M2 ⟨s2,p,y5,y6,y7,y8,lp,rfl⟩
 rw[Qx]at lp;have hmem:∀x∈(if (l.mT z=="turns")=Db then tN (l.mP z) (vK V z)else l.mP z),x∈l.mP z:=λx hx=>by
  split at hx
  .unfold tN at hx;exact(dY.mp hx).elim io gQ
  .exact hx
 have Xd:(if (l.mT z=="turns")=Db then tN (l.mP z) (vK V z)else l.mP z).length<=100:=by
  have:=(rd.ok.of XA).1.2.1;split
  .unfold tN;rw[cX,fY,eF];lia
  .omega
 generalize hms:(if (l.mT z=="turns")=Db then tN (l.mP z) (vK V z)else l.mP z)=ms at lp hmem Xd;refine i' (s2.lst m1) (rG (f:=WL) (s2.lst m1) _ [] _ (by rw[cV];simp only[dF];lia) (λd hd k hk=>?_) λp3 YJ=>?_)
 .obtain⟨x,_,rfl⟩:=dD.mp hd;exact⟨pE Z',hk⟩
 rw[dZ,show(l.mR.map rj).map WL=l.mR.map λv=>D.tup [.str v.1,.int v.2.1]by rw[eh];rfl];have nd:l.pn.Nodup:=(fL.mp rd.ok.nd).1;refine i' pS (i' (AX _) ⟨?_,λpd hpd=>?_⟩)
 .unfold wF;rw[eh];have:=nd;unfold pR.pn at this;rw[show((λx:rF×D=>x.1)∘λv:tP=>((Sum.inr v.1:rF),D.int v.2.1))=(Sum.inr∘λv:tP=>v.1)from Z',<-eh];exact mO _ (λ_ _ h z=>h (by injection z)) this
 have t4:=(qO.new (c:=.lst (l.mR.map λv=>D.tup [.str v.1,.int v.2.1])) YJ).trans (qO.new (c:=.dk (wF l.mR)) hpd);have d4:yW (pQ (pQ M2 p3 (.lst (l.mR.map λv=>D.tup [.str v.1,.int v.2.1]))) pd (.dk (wF l.mR))) pd=ga (wF l.mR):=A0 qd;generalize pQ (pQ M2 p3 (.lst (l.mR.map λv=>D.tup [.str v.1,.int v.2.1]))) pd (.dk (wF l.mR))=M4 at t4 d4 ⊢;dsimp only[qZ];have lp:=t4.lst lp;have s4:=s2.trans t4;refine⟨pE Z',λpf hpf=>?_⟩;have oX:p≠pf:=λz=>by have:=qx lp;rw[z,hpf]at this;cases this
 have npd:pd≠pf:=λz=>by have:=xt d4;rw[z,hpf]at this;cases this
 obtain⟨M5,e0,t5,lf⟩:=uT (ds:=[]) hpf;rw[<-e0];have lf:om M5 pf=ga (((ms.take 0).filter λx=>!(x==c)&&sJ l V x).map D.str):=lf;have d4:=t5.dk d4;have lp:=t5.lst lp;have s5:=s4.trans t5;have npf:M pf=Fa:=s4.none hpf;dsimp only[qZ];refine Jh (t:=KZ _ _ _) (λU M'=>qO M M'/\om M' pf=ga ((ms.filter λx=>!(x==c)&&sJ l V x).map D.str)/\∃y5 y6 y7 y8 XE,U=[ga (.ref A.b),ga (.tup [.ref r1,.ref r2,.ref r3]),ga (.str c),ga (.str z),ga (.ref p),y5,y6,y7,y8,ga (.ref pd),ga (.ref pf),XE]) (λnx h=>?_) ?_
 .refine i' lp ?_;refine vd (ms.map D.str) (λpre U M'=>qO M M'/\yW M' pd=ga (wF l.mR)/\om M' p=ga (ms.map D.str)/\om M' pf=ga (((ms.take pre.length).filter λx=>!(x==c)&&sJ l V x).map D.str)/\∃y5 y6 y7 y8 XE,U=[ga (.ref A.b),ga (.tup [.ref r1,.ref r2,.ref r3]),ga (.str c),ga (.str z),ga (.ref p),y5,y6,y7,y8,ga (.ref pd),ga (.ref pf),XE]) (λ_ _ M' j=>j.2.2.1) _ [] _ _ Z' ⟨s5,d4,lp,lf,_,_,_,_,Fa,Z'⟩ ?_ ?_
  rotate_left
  .rintro U M' ⟨s6,_,_,lf,y5,y6,y7,y8,XE,rfl⟩
   rw[cV,fj]at lf;exact h _ _ ⟨s6,lf,_,_,_,_,_,Z'⟩
  clear lp lf d4
  rintro pre d post e U M6 ⟨s6,d6,lp,lf,y5,y6,y7,y8,XE,rfl⟩ nx2 Xg
  obtain⟨x,ex,rfl,et⟩:=BV e;have hx:x∈l.pn:=(rd.ok.of XA).1.2.2.2 x (hmem x (rb ex));have hk:pre.length<ms.length:=(cZ.mp ex).1;rw[cX,dH,et,gq]at Xg;have rd6:=rd.sub s6;have Xy:=rd.k;dsimp only[qZ];refine pJ rd6.bd.at_ (i' Z' (i' rd6.bd.ca ?_));refine vQ (A.cs.map λk=>D.ref k.p) (λpre acc U M2=>M6=M2/\acc.length=((V.calls.take pre.length).filter (·.hasB x)).length/\∃y,U=[y,ga (.str x)]) (λ_ _ _ M' j=>by rw[<-j.1];exact rd6.bd.ca) _ [] [] _ _ Z' ?_ ⟨Z',Z',Fa,Z'⟩ ?_ ?_
  .rw[cV,rd.bd.len];simp only[dF];lia
  .rintro pre d post e acc U _ ⟨rfl,ha,y,rfl⟩ k k2 hk Yf
   obtain⟨ka,c0,e3,e2,rfl,hc,et⟩:=BP rd6.bd e;rw[cX,dH,et,gq]at hk Yf;refine⟨_,ka,c0,x,Z',hc,(wf.ok _ c0 e2).sh,?_⟩;refine qD (c:=c0.hasB x) (λg=>?_) (λg=>?_)
   .refine hk _ _ _ ⟨Z',?_,_,Z'⟩;rw[cX,cX,ha,fF (by exact g)];rfl
   .refine Yf _ _ ⟨Z',?_,_,Z'⟩;rw[cX,ha,fG (by exact g)];rfl
  rintro acc U _ ⟨rfl,ha,y,rfl⟩ p6 hp6
  rw[cV,rd.bd.len,fj]at ha;have ha:acc.length=uU V x:=ha;obtain⟨M7,e0,t7,k7⟩:=uT (ds:=acc) hp6;rw[<-e0];have d7:=t7.dk d6;have lp:=t7.lst lp;have lf:=t7.lst lf;have s7:=s6.trans t7;dsimp only[qZ];obtain⟨v,hv⟩:=xA hx;have ef:sJ l V x=decide ((uU V x:Int)<v.2.1):=by unfold sJ;rw[GF hv]
  have skip:(!(x==c)&&sJ l V x)=pc->nx2 [ga (.ref A.b),ga (.tup [.ref r1,.ref r2,.ref r3]),ga (.str c),ga (.str z),ga (.ref p),ga (.str x),y6,y7,y8,ga (.ref pd),ga (.ref pf),ga (.ref p6)] M7:=λh=>Xg _ _ ⟨s7,d7,lp,by
   rw[fG (by rw[h];decide),fW,eG];exact lf,_,_,_,_,_,Z'⟩
  refine qD (c:=!(x==c)) (λh2=>?_) (λh2=>yh (skip (by rw[dG.mpr h2];rfl)));refine i' k7 (i' d7 (i' (by rw[show vY (wF l.mR) (.inr x)=(l.nu x).map λv=>D.int v.2.1 from xk (λp:tP=>p.1) (λp=>D.int p.2.1) x l.mR,hv];rfl) ?_));rw[ha];refine qD (c:=decide ((uU V x:Int)<v.2.1)) (λh3=>?_) (λh3=>skip (by rw[ef,dG.mpr h3,Bool.and_false]));refine⟨by show(om M7 pf).isSome=Db;rw[lf];rfl,i' lf ⟨?_,?_⟩⟩
  .have:=fO (λx=>!(x==c)&&sJ l V x) (ms.take pre.length);rw[eF]at this;rw[cV];lia
  .refine Xg _ _ ⟨λu w0 e=>se.put u w0 (Jm e npf) (s7 u w0 e),A0 (se.put _ _ npd (xt d7)),tH (se.put _ _ oX (qx lp)),?_,_,_,_,_,_,Z'⟩;rw[fF (by rw[h2,ef,h3];rfl),fW,dN];exact pS
 clear lp lf d4
 rintro U M8 ⟨s8,lf,y5,y6,y7,y8,XE,rfl⟩
 have er:vU l V c z=if (l.mT z=="turns")=Db then((ms.filter λx=>!(x==c)&&sJ l V x).take 1)else ms.filter λx=>!(x==c)&&sJ l V x:=by
  unfold vU;rw[<-hms];split
  .congr 1;refine lH λx hx=>?_;rw[gh,ra];have hx:x∈l.mP z:=by unfold tN at hx;exact(dY.mp hx).elim io gQ
   exact⟨λh=>(fA.mp h).2,λh=>fA.mpr ⟨hx,h⟩⟩
  .rfl
 rw[er]at q;clear er hms hmem;generalize ms.filter (λx=>!(x==c)&&sJ l V x)=fr at lf q;refine i' (s8.lst m2) ?_;refine vQ (l.groups.map rC) (λpre acc U M'=>M8=M'/\acc=((l.groups.take pre.length).filter λg=>decide (g.1=z)).map (λg=>D.str g.2.1)/\∃y,U=[y,ga (.str z)]) (λ_ _ _ M' j=>by rw[<-j.1];exact s8.lst m2) _ [] [] _ _ Z' ?_ ⟨Z',Z',Fa,Z'⟩ ?_ ?_
 .rw[cV];simp only[dF];lia
 .rintro pre d post e acc U _ ⟨rfl,ha,y,rfl⟩ k k2 hk Yf
  obtain⟨gr,eg,rfl,et⟩:=BV e;rw[cX,dH,et,gq]at hk Yf;refine qD (c:=gr.1==z) (λg=>hk _ _ _ ⟨Z',?_,_,Z'⟩) (λg=>Yf _ _ ⟨Z',?_,_,Z'⟩)
  .rw[ha,fF (by simpa using g),fW,dN];rfl
  .rw[ha,fG (by simpa using g),fW,eG]
 rintro acc U _ ⟨rfl,ha,y,rfl⟩ p9 hp9
 rw[cV,fj,NL rd.ok]at ha;have t9:=qO.new (c:=.lst acc) hp9;refine⟨pE Z',λp10 hp10=>?_⟩;have t10:=qO.new (c:=.lst [D.str "turns"]) hp10;have ee:xj (pQ (pQ M8 p9 (.lst acc)) p10 (.lst [D.str "turns"])) 9 (.ref p9) (.ref p10)=ga (l.mT z=="turns"):=by
  show(om _ p9).bind (λi=>(om _ p10).bind λj=>if i.length=j.length then tq (xj _ 8) i j else ga pc)=_;rw[t10.lst pS,pS,ha];unfold pR.mT pR.group;cases l.groups.find? λg=>decide (g.1=z)with
  | none=>show ga pc=ga (("one":Str)=="turns");rw[show(("one":Str)=="turns")=pc by decide+kernel]
  | some g=>show ga ((g.2.1=="turns")&&Db)=ga (g.2.1=="turns");rw[mz]
 have lf:=t10.lst (t9.lst lf);have s10:=s8.trans (t9.trans t10);refine i' ee (qD (c:=l.mT z=="turns") (λg=>?_) (λg=>?_))
 .rw[de g]at q;refine i' lf λp11 hp11=>i' pS ?_;rw[show L3.vj (fr.map D.str) Fa (ga (1:Int))=(fr.take 1).map D.str from(B' _ 1).trans (iT).symm];exact⟨M,s10.trans (.new hp11),q⟩
 .rw[c9 g]at q;exact i' lf ⟨M,s10,q⟩
def G6(z:Str)(v:Wi):D:=match Ee z v with
 | .inl e=>e.d
 | .inr y=>.tup [.str "to",.str y]
def Ic(l:pR)(V:qJ)(c z:Str):D:=match uA l V c z with
 | []=>(DD l V c z).d
 | i::_=>(l.mQ[i]?).elim .mW λw=>G6 z w.2
noncomputable def Vf(z x:Str)(r:T0 D):Option D:=if (x=="bar"||x=="shut")=Db then ga (.tup [.str "barred"])else if (x=="wait")=Db then ga (.tup [.str "waits",.str z])else if (x=="breaks")=Db then ga (.tup [.str "breaks",.str z])else(wX (.str x::r) 2).map λy=>.tup [.str "to",y]
def Qk(z:Str)(v:Wi):∃x r,v.told=.str x::r/\Vf z x r=ga (G6 z v):=by
 have t:∀(x:Str) (y u:Str) (r:T0 D),(x=="bar"||x=="shut")=pc->(x=="wait")=pc->(x=="breaks")=pc->Vf z x (.str y::.str u::r)=ga (.tup [.str "to",.str u]):=λx y u r h1 h2 h3=>by unfold Vf;rw[h1,h2,h3,c9 dw,c9 dw,c9 dw,show wX (.str x::.str y::.str u::r) 2=ga (.str u)from uB (j:=2) Z'];rfl
 cases v with
 | bar x ns=>exact⟨"bar",_,Z',de (by decide+kernel)⟩
 | shut x ns=>exact⟨"shut",_,Z',de (by decide+kernel)⟩
 | wait x=>exact⟨"wait",_,Z',(c9 (by decide+kernel)).trans (de (by decide+kernel))⟩
 | breaks x=>exact⟨"breaks",_,Z',(c9 (by decide+kernel)).trans ((c9 (by decide+kernel)).trans (de (by decide+kernel)))⟩
 | always x y=>exact⟨"always",_,Z',t _ _ _ _ (by decide+kernel) (by decide+kernel) (by decide+kernel)⟩
 | night x y f n=>exact⟨"night",_,Z',t _ _ _ _ (by decide+kernel) (by decide+kernel) (by decide+kernel)⟩
 | busy x y=>exact⟨"busy",_,Z',t _ _ _ _ (by decide+kernel) (by decide+kernel) (by decide+kernel)⟩
 | silent x y n=>exact⟨"silent",_,Z',t _ _ _ _ (by decide+kernel) (by decide+kernel) (by decide+kernel)⟩
noncomputable def Hs(is:T0 Nat):T0 D:=is.map λi=>D.int (i:Nat)
def Pe(a:Ad):rM:=λds M Q=>R1 λA V l r1 r2 r3 c z rf=>ds=[.ref (uj.b A),.tup [.ref r1,.ref r2,.ref r3],.str c,.str z,.ref rf]/\om M r1=ga (pR.mR l|>.map rj)/\om M r2=ga (l.groups.map rC)/\om M r3=ga (l.mQ.map vw)/\Rd a M A V l/\WF l V/\z∈l.nm/\om M rf=ga (Hs (uA l V c z))/\Q (Ic l V c z) M
def O2:Fq P w K mg base 3 a.bx (Pe a):=by
 refine fq G.bx.toDG wn (λr u=>⟨_,(pH (qa (pP u (qc qC Z' G.g qB (qp v4)) pK)
 (pH (pW 5 wn (pV (Pl G) r G.bw (qh v0 (rJ U1 U2 U3))))
 (pH (qa (pP u v5 (pX sH))
 (pI (pO (pX (sd pL U3))))
 pU)
 (pI (pO (pX (rJ pL U3 v5))))))
 pU)
 (pH (pW 6 wn (pT (pT (pT U1 pK) (pT v4 pK)) pK))
 (pH (qa (pP u (pT v6 pK) (pX (sd pL pL)))
 (pI (pO (pX (qp pL))))
 pU)
 (pH (qa (pP u (pT v6 pK) pL)
 (pI (pO (pX (sd pL U3))))
 pU)
 (pH (qa (pP u (pT v6 pK) pL)
 (pI (pO (pX (sd pL U3))))
 pU)
 (pI (pO (pX (sd pL (pT v6 pK)))))))))),?_⟩)
 rintro ds M Q ⟨A,V,l,r1,r2,r3,c,z,rf,rfl,m1,m2,m3,rd,wf,hz,lf,q⟩
 unfold Ic at q;cases hf:uA l V c z with
 | nil=>
  rw[hf]at q lf;refine i' lf ?_;refine⟨A,V,l,r1,r2,r3,c,z,Z',m1,m2,rd,wf,hz,?_⟩;dsimp only[qZ];have q:Q (DD l V c z).d M:=q;unfold DD at q;cases er:vU l V c z with
  | nil=>rw[er]at q;exact⟨pE Z',pE Z',M,.refl,q⟩
  | cons x r=>rw[er]at q;exact⟨pE Z',pE Z',M,.refl,q⟩
 | cons i fr=>
  have hi:i∈uA l V c z:=by rw[hf];exact dO
  obtain⟨w0,ew,_⟩:=zO hi;rw[hf]at q lf;have q:Q (((l.mQ[i]?).elim .mW λw=>G6 z w.2)) M:=q;rw[ew]at q;have q:Q (G6 z w0.2) M:=q;obtain⟨x,r,et,hw⟩:=Qk z w0.2;refine i' lf ?_;have hn:(Hs (i::fr)).length=fr.length+1:=cV ..;generalize (Hs (i::fr)).length=n at hn;refine qD (c:=((n:Nat):Int)==0) (λg=>by have:=Ix g;lia) (λ_=>?_);dsimp only[Tw];refine i' lf (i' (vW _ _) (i' m3 (i' (uB (by rw[dC,ew];rfl)) ?_)));rw[show vw w0=.tup [.bl w0.1,.tup (.str x::r)]by unfold vw;rw[et]];dsimp only[qZ];unfold Vf at hw;refine i' (vW _ _) ⟨pE Z',Z',Z',?_⟩;show if inD (.str x) [.str "bar",.str "shut"]=Db then _ else _
  rw[VH];refine qD (λg=>?_) (λg=>?_)
  .rw[de g]at hw;rw[<-dg hw]at q;exact⟨pE Z',M,.refl,q⟩
  rw[c9 g]at hw;refine i' (vW _ _) (qD (c:=x=="wait") (λg=>?_) (λg=>?_))
  .rw[de g]at hw;rw[<-dg hw]at q;exact⟨pE Z',M,.refl,q⟩
  rw[c9 g]at hw;refine i' (vW _ _) (qD (c:=x=="breaks") (λg=>?_) (λg=>?_))
  .rw[de g]at hw;rw[<-dg hw]at q;exact⟨pE Z',M,.refl,q⟩
  rw[c9 g]at hw;obtain⟨y,ey,hw⟩:=hZ.mp hw;rw[<-hw]at q;exact i' ey ⟨pE Z',M,.refl,q⟩
section
variable {c:Str}
theorem Ey:∀(n:Nat) {z:Str} {way:QQQ} {st:sI},∃r,(sS l V c n z way st).2=st++r
 | 0,_,_,st=>⟨[],(eG _).symm⟩
 | n+1,z,way,st=>by
  unfold sS;split
  .exact⟨[],(eG _).symm⟩
  split
  .exact⟨_,Z'⟩
  .rename_i i r _;cases l.mQ[i]? with
   | none=>exact⟨[],(eG _).symm⟩
   | some w=>
    dsimp only[Option.elim];split
    .exact⟨_,Z'⟩
    .obtain⟨r',h⟩:=Ey n (z:=_) (way:=way++[z]) (st:=st++[(z,i::r)]);rw[h,fg];exact⟨_,Z'⟩
def Ei{m:Nat}{z:Str}{st:sI}(h:hasS Xe z=Db):sS l V c (m+1) z Xe st=(.ring (Xe.drop (Xe.findIdx (·==z))),st):=by unfold sS;rw[de h]
def Ed(ok:rX l){m:Nat}{z:Str}{Xe:QQQ}{st:sI}{G:vB×sI}(er:sS l V c (m+1) z Xe st=G)(nh:hasS Xe z=pc):∃rest,G.2=st++(z,uA l V c z)::rest/\((rest=[]/\Ic l V c z=G.1.d)\/∃y,Ic l V c z=.tup [.str "to",.str y]/\y∈l.nm/\sS l V c m y (Xe++[z]) (st++[(z,uA l V c z)])=G):=by
 unfold sS at er;rw[nh,c9 dw]at er;unfold Ic;cases hf:uA l V c z with
 | nil=>rw[hf]at er;subst er;exact⟨[],Z',.inl ⟨Z',Z'⟩⟩
 | cons i r=>
  obtain⟨w,ew,_⟩:=zO (show i∈uA l V c z by rw[hf];exact dO);rw[hf]at er;dsimp only at er ⊢;rw[ew]at er ⊢;dsimp only[Option.elim]at er ⊢;unfold G6;cases hw:Ee z w.2 with
  | inl e=>rw[hw]at er;subst er;exact⟨[],Z',.inl ⟨Z',Z'⟩⟩
  | inr y=>rw[hw]at er;have er:sS l V c m y (Xe++[z]) (st++[(z,i::r)])=G:=er;obtain⟨r',h⟩:=Ey (l:=l) (V:=V) (c:=c) m (z:=y) (way:=Xe++[z]) (st:=st++[(z,i::r)]);rw[er,fg]at h;exact⟨r',h,.inr ⟨y,Z',zT ok (rb ew) hw,er⟩⟩
end
def NI(e:vB):∃w r,e.d=.tup (.str w::r)/\(w=="to")=pc:=by cases e<;>exact⟨_,_,Z',by decide+kernel⟩
def J'(a:Ad):rM:=λds M Q=>J8 λA V l r1 r2 r3 c z rw way=>BQ λq R=>ds=[.ref (uj.b A),.tup [.ref r1,.ref r2,.ref r3],.str c,.str z,.ref rw,.tup [(Prod.fst R).d,.ref q]]/\R=uR l V c z way/\om M r1=ga (pR.mR l|>.map rj)/\om M r2=ga (l.groups.map rC)/\om M r3=ga (l.mQ.map vw)/\Rd a M A V l/\WF l V/\z∈l.nm/\om M rw=ga (way.map D.str)/\way.length<=100/\om M q=ga (qY R.2)/\Q (.bl Db) M
def RG(l:pR)(V:qJ)(c:Str)(R:vB×sI)(k:Nat)(Xe:QQQ)(YB:D):Prop:=(∃m z,YB=.tup [.str "to",.str z]/\z∈l.nm/\Gh l Xe<m/\sS l V c m z Xe (R.2.take k)=R)\/(k=R.2.length/\YB=R.1.d)
def S'{p:Uf}{ds:T0 D}(h:om M p=ga ds):WE M (.ref p)=ga (.type "list"):=by show Ih (M p)=_;rw[qx h];rfl
def Gr(e:vB):sj 7 e.d=Db:=by
 have t:∀ss:QQQ,sj 6 (names ss)=Db:=λss=>yC 5 ss;cases e with
 | rings z ps=>show([D.str "rings",.str z,names ps].all (sj 6))=Db;simp only[eO,t];rfl
 | ring ns=>show([D.str "ring",names ns].all (sj 6))=Db;simp only[eO,t];rfl
 | _=>rfl
theorem Ay{V:qJ}{c:Str}:∀(n:Nat) {z:Str} {way:QQQ} {st:sI},(sS l V c n z way st).2.length<=st.length+n
 | 0,_,_,_=>dq _
 | n+1,z,way,st=>by
  unfold sS;have e:∀x,(st++[x]).length<=st.length+(n+1):=λx=>by rw[cX];show st.length+1<=_;lia
  split
  .exact gX _ _
  split
  .exact e _
  .rename_i i r _;cases l.mQ[i]? with
   | none=>exact gX _ _
   | some w=>
    dsimp only[Option.elim];split
    .exact e _
    .refine d9 (Ay n) ?_;rw[cX];show st.length+1+n<=_;lia
def Lb:Fq P w K mg base 8 a.bz (J' a):=by
 refine fq G.bz.toDG rW (λr u=>⟨_,(pH (qa (W3.b3 (vH (vm (ua (qc xb Z' G.aQ ux (sd v5 (F' Z' G.l rm))))) (vH (pP u (qc qC Z' G.g qB (qp v5)) pK) (vC (vm (ua (qc xb Z' G.aQ ux (sd (pT v5 pK) (F' Z' G.m rV)))))))))
 (pI (pO vv))
 pU)
 (pH (pW 6 rW (qg sv Z' G.m rV (qp v4)))
 (pH (pW 7 rW (pX (sd pL U3)))
 (pH (ut eW Z' (qP (pT v5 pK)) (rP 8 rW)
 (pH (qa (W3.b3 (vH (pP u (pT v7 pK) pL) (vH (pP u (pT v7 pK) v6) (vC (vm (ua (qc xb Z' G.aQ ux (sd v8 (F' Z' G.l rm)))))))))
 (pI (pO vv))
 pU)
 (pH (qa (W3.b3 (vH (pP u (qc qC Z' G.g qB (qp v8)) pK) (vC (pP u (pT v8 pK) (pT v7 pK)))))
 (pI (pO vv))
 pU)
 (pH (pW 9 rW (qX sH))
 (pH (ut eW Z' (u9 Z' G.aP (qp (pN (pN v0)))) (vg (n:=2) Z' (qI (rP 10 rW) (qI (rP 11 rW) ue)))
 (pI (qa (W3.b3 (vh (ua (pT (pN v0) Pp)) (uE (ua (BJ (R:=HU a) Wp (LY G) (r.mono (by first|decide|lia)) (rJ v0 U2 (pT v8 pK)))))))
 (pI (pY (qW v9 (qp Pp))))
 pU)))
 (pH (qa (W3.b3 (vH (vm (ua (qc xb Z' G.aQ ux (sd (pT v8 pK) (F' Z' G.l rm))))) (vC (pP u (pT v8 pK) (qg rR Z' G.l rm (qp v9))))))
 (pI (pO vv))
 pU)
 (pH (pY (qW v6 (qp (pT v8 pK))))
 (pI (pW 7 rW (pV (O2 G) r G.bx (qh v0 (qh U1 (rJ U2 (pT v8 pK) v9)))))))))))))
 (pH (qa (W3.b3 (vh (pP u (pT v7 pK) pL) (uE (pP u (pT v7 pK) v6))))
 (pI (pW 7 rW (pX (sd pL (qg rR Z' G.l rm (qp (rS v6 (sO (wG v6 (qp (pT v7 pK)))) sL)))))))
 pU)
 (pI (pO (tL (qr u (pT v7 pK) pL) (tL (qc xb Z' G.aQ ux (sd (pT v5 pK) (F' Z' G.l rm))) (sT (qr u (pT v5 pK) v7))))))))))),?_⟩)
 rintro ds M Q ⟨A,V,l,r1,r2,r3,c,z,rw,way,rq,R,rfl,eR,m1,m2,m3,rd,wf,XA,lw,hw,lq,q⟩
 have hzz:=dI;have p8:=rd.ok.p8;have g3:=rd.ok.g3;have nl:l.nm.length<=11:=by unfold pR.nm pR.pn pR.gn;rw[cX,cV,cV];lia
 have rl:R.2.length<=12:=by have:=Ay (l:=l) (V:=V) (c:=c) (l.nm.length+1) (z:=z) (way:=way) (st:=[]);rw[eR];show(sS l V c (l.nm.length+1) z way []).2.length<=_;simp only[dF]at this;lia
 obtain⟨ph,gr,ws,YK,pr,gd,rs,i1,i2,i3,i4,i5,i6,i7,i8⟩:=rd.pl;refine⟨λC z=>(by cases z),i' G.bS ?_⟩;refine i' (S' lq) ⟨λC z=>(by cases z),i' G.cD (yh ?_)⟩;refine i' lw λp6 hp6=>⟨pE Z',?_⟩;obtain⟨M1,e0,t,l6⟩:=uT (ds:=way.map D.str) hp6;rw[<-e0];dsimp only[qZ];refine Jh (t:=KZ _ _ _) (λU M'=>qO M M'/\∃Xe YB y8 y9 Yl XE,om M' p6=ga (Xe.map D.str)/\RG l V c R R.2.length Xe YB/\U=[ga (.ref A.b),ga (.tup [.ref r1,.ref r2,.ref r3]),ga (.str c),ga (.str z),ga (.ref rw),ga (.tup [R.1.d,.ref rq]),ga (.ref p6),ga YB,y8,y9,Yl,XE]) (λnx h=>?_) ?_
 .refine i' (t.lst lq) ?_;refine vd (qY R.2) (λpre U M'=>qO M M'/\∃Xe YB y8 y9 Yl XE,om M' p6=ga (Xe.map D.str)/\Xe.length<=100+pre.length/\RG l V c R pre.length Xe YB/\U=[ga (.ref A.b),ga (.tup [.ref r1,.ref r2,.ref r3]),ga (.str c),ga (.str z),ga (.ref rw),ga (.tup [R.1.d,.ref rq]),ga (.ref p6),ga YB,y8,y9,Yl,XE]) (λ_ _ M' j=>j.1.lst lq) _ [] _ _ Z' ⟨t,way,_,Fa,Fa,Fa,Fa,l6,hw,.inl ⟨l.nm.length+1,z,Z',XA,lJ (fO _ _),eR.symm⟩,Z'⟩ ?_ ?_
  rotate_left
  .rintro U M' ⟨s1,Xe,YB,y8,y9,Yl,XE,lp,_,wk,rfl⟩
   unfold qY at wk;rw[cV]at wk;exact h _ _ ⟨s1,Xe,YB,_,_,_,_,lp,wk,Z'⟩
  clear l6 t
  rintro pre d post e U M2 ⟨s2,Xe,YB,y8,y9,Yl,XE,l6,hc,wk,rfl⟩ nx2 Xg
  obtain⟨s0,es,rfl,et⟩:=BV e;have hk:=(cZ.mp es).1;rw[cX,dH]at Xg;rcases wk with⟨m,z1,rfl,hz1,Xn,er⟩|⟨Yf,_⟩
  rotate_left
  .omega
  obtain⟨m,rfl⟩:∃k,m=k+1:=⟨m - 1,by lia⟩;have nh:hasS Xe z1=pc:=dG.mpr λg=>by rw[Ei g]at er;have:=eV (λx=>x.2.length) er;simp only[eF]at this;lia
  obtain⟨rest,e2,nxt⟩:=Ed rd.ok er nh;have e0:s0=(z1,uA l V c z1):=by rw[e2,eU (by rw[eF];lia),eF,show pre.length - min pre.length R.2.length=0 by lia]at es;exact(dg es).symm
  subst e0;have ek:R.2.take pre.length++[(z1,uA l V c z1)]=R.2.take (pre.length+1):=by rw[gx,es];rfl
  have er2:rest=[]->pre.length+1=R.2.length:=λhr=>by have:=eV List.length e2;rw[hr,cX,eF]at this;simp only[eA,dF]at this;lia
  have wk:RG l V c R (pre.length+1) (Xe++[z1]) (Ic l V c z1):=by
   rcases nxt with⟨hr,hd⟩|⟨y,hd,hy,hr⟩
   .exact .inr ⟨er2 hr,hd⟩
   .exact .inl ⟨m,y,hd,hy,by have:=Ah hz1 nh;lia,by rw[<-ek];exact hr⟩
  have Xg:∀M' y8 y9 Yl XE,qO M M'->om M' p6=ga ((Xe++[z1]).map D.str)->nx2 [ga (.ref A.b),ga (.tup [.ref r1,.ref r2,.ref r3]),ga (.str c),ga (.str z),ga (.ref rw),ga (.tup [R.1.d,.ref rq]),ga (.ref p6),ga (Ic l V c z1),y8,y9,Yl,XE] M':=λM' y8 y9 Yl XE s' l'=>Xg _ _ ⟨s',_,_,_,_,_,_,l',by rw[cX];show Xe.length+1<=_;lia,wk,Z'⟩;clear nxt er2 ek e2 es er wk et e;dsimp only[qZ];refine i' l6 ⟨Z',qE _,?_⟩;show if inD (.str z1) (Xe.map D.str)=Db then _ else _
  rw[show inD (.str z1) (Xe.map D.str)=pc from(sP _ _).trans nh];refine yh ⟨λC z=>(by cases z),i' G.bS (yh ?_)⟩;refine qD (c:=!(z1==z1)) (λg=>absurd g (by rw[eL];decide)) (λ_=>?_);refine⟨pE Z',λp9 hp9=>?_⟩;have t3:=qO.new (c:=.lst []) hp9;have l9:om (pQ M2 p9 (.lst [])) p9=ga (Hs ((List.range 0).filter λi=>V.on.getD i pc&&(l.mQ[i]?).elim pc λw=>xh l V c z1 w.2)):=pS;have n69:p6≠p9:=λz=>by have:=qx l6;rw[z,hp9]at this;cases this
  have l6:=t3.lst l6;have s3:=s2.trans t3;have h9:M p9=Fa:=s2.none hp9;generalize pQ M2 p9 (.lst [])=M3 at s3 l6 l9 ⊢;clear t3;dsimp only[qZ];refine Jh (t:=KZ _ _ _) (λU M'=>qO M M'/\om M' p6=ga (Xe.map D.str)/\om M' p9=ga (Hs (uA l V c z1))/\∃Yl XE,U=[ga (.ref A.b),ga (.tup [.ref r1,.ref r2,.ref r3]),ga (.str c),ga (.str z),ga (.ref rw),ga (.tup [R.1.d,.ref rq]),ga (.ref p6),ga (.tup [.str "to",.str z1]),ga (.tup [.str z1,uK (uA l V c z1)]),ga (.ref p9),Yl,XE]) (λnx h=>?_) ?_
  .refine pJ (s3 _ _ rd.bd.at_) (i' Z' (pJ (s3 _ _ i1) (i' Z' (i' (s3.lst i4) ?_))));refine vd (uL 0 (rs.map D.ref)) (λpre U M'=>qO M M'/\om M' p6=ga (Xe.map D.str)/\om M' p9=ga (Hs ((List.range pre.length).filter λi=>V.on.getD i pc&&(l.mQ[i]?).elim pc λw=>xh l V c z1 w.2))/\∃Yl XE,U=[ga (.ref A.b),ga (.tup [.ref r1,.ref r2,.ref r3]),ga (.str c),ga (.str z),ga (.ref rw),ga (.tup [R.1.d,.ref rq]),ga (.ref p6),ga (.tup [.str "to",.str z1]),ga (.tup [.str z1,uK (uA l V c z1)]),ga (.ref p9),Yl,XE]) (λ_ _ M' j=>j.1.lst i4) _ [] _ _ Z' ⟨s3,l6,l9,_,_,Z'⟩ ?_ ?_
   rotate_left
   .rintro U M' ⟨s4,l6,l9,Yl,XE,rfl⟩
    rw[vt,cV,i8.1,<-rd.on]at l9;exact h _ _ ⟨s4,l6,l9,_,_,Z'⟩
   clear l6 l9 s3
   rintro pre d post e U M4 ⟨s4,l6,l9,Yl,XE,rfl⟩ Tw hnx3
   obtain⟨x,hx,rfl⟩:=BO e;rw[dC]at hx;obtain⟨r,er,rfl⟩:=hZ.mp hx;rw[cX,dH,iA,gq]at hnx3;have hi:pre.length<l.mQ.length:=by rw[<-i8.1];exact(cZ.mp er).1
   have h16:=rd.ok.pB;have ew:l.mQ[pre.length]?=ga l.mQ[pre.length]:=cY hi;generalize l.mQ[pre.length]=w0 at ew;have eo:V.on[pre.length]?=ga (V.on[pre.length]'(by rw[rd.on];exact hi)):=cY _;generalize V.on[pre.length]'(by rw[rd.on];exact hi)=b at eo;have eg:(V.on.getD pre.length pc&&(l.mQ[pre.length]?).elim pc λw=>xh l V c z1 w.2)=(b&&xh l V c z1 w0.2):=by rw[fS,eo,ew];rfl
   have e2:=s4 _ _ (i8.2 _ _ _ er ew);have no:(b&&xh l V c z1 w0.2)=pc->Tw [ga (.ref A.b),ga (.tup [.ref r1,.ref r2,.ref r3]),ga (.str c),ga (.str z),ga (.ref rw),ga (.tup [R.1.d,.ref rq]),ga (.ref p6),ga (.tup [.str "to",.str z1]),ga (.tup [.str z1,uK (uA l V c z1)]),ga (.ref p9),ga (.int (pre.length:Nat)),ga (.ref r)] M4:=λg=>by refine hnx3 _ _ ⟨s4,l6,?_,_,_,Z'⟩;rw[fG (by rw[eg,g];exact dw),fW,eG];exact l9
   refine⟨Z',?_⟩;dsimp only[qZ,zd,Ek];refine pJ (s4 _ _ rd.bd.at_) (i' Z' (i' Z' (i' (s4.lst rd.bd.on) (i' (uB (by rw[dC,eo];rfl)) ?_))));show if b=Db then _ else _
   cases b with
   | false=>exact yh (no Z')
   | true=>
    refine DH (pJ e2 ⟨by cases w0.2<;>rfl,_,⟨w0.2,Z',Z'⟩,r,A,V,l,c,z1,Z',e2,rd.sub s4,hz1,rd.ok.wo w0 (rb ew),?_⟩);show if xh l V c z1 w0.2=Db then _ else _
    cases g:xh l V c z1 w0.2 with
    | false=>exact yh (no (by rw[g];rfl))
    | true=>
     refine DH ⟨by show(om M4 p9).isSome=Db;rw[l9];rfl,i' l9 ⟨?_,?_⟩⟩
     .unfold Hs;rw[cV];have:=fO (λi=>V.on.getD i pc&&(l.mQ[i]?).elim pc λw=>xh l V c z1 w.2) (List.range pre.length);rw[eC]at this;lia
     .refine hnx3 _ _ ⟨λu v e=>by rw[tj (Jm e h9)];exact s4 u v e,se.lst .put n69 l6,?_,_,_,Z'⟩;rw[fF (by rw[eg,g];rfl),fW,pS];unfold Hs;rw[dN];rfl
  clear l6 l9 s3
  rintro U M4 ⟨s4,l6,l9,Yl,XE,rfl⟩
  refine⟨λC z=>(by cases z),i' G.bS (yh (i' l9 ?_))⟩;refine i' (vA 8 (uK (uA l V c z1)) (yA 7 _)) (yh ?_);refine⟨by show(om M4 p6).isSome=Db;rw[l6];rfl,i' l6 ⟨by rw[cV];lia,?_⟩⟩;have s5:qO M (pQ M4 p6 (.lst (Xe.map D.str++[.str z1]))):=λu v e=>by rw[tj (Jm e hp6)];exact s4 u v e
  have l6':om (pQ M4 p6 (.lst (Xe.map D.str++[.str z1]))) p6=ga ((Xe++[z1]).map D.str):=by rw[pS,dN];rfl
  have l9:om (pQ M4 p6 (.lst (Xe.map D.str++[.str z1]))) p9=_:=se.lst .put (dQ n69) l9;generalize pQ M4 p6 (.lst (Xe.map D.str++[.str z1]))=M5 at s5 l6' l9 ⊢;exact⟨A,V,l,r1,r2,r3,c,z1,p9,Z',s5.lst m1,s5.lst m2,s5.lst m3,rd.sub s5,wf,hz1,l9,Xg _ _ _ _ _ s5 l6'⟩
 rintro U M2 ⟨s2,Xe,YB,y8,y9,Yl,XE,l6,wk,rfl⟩
 obtain⟨wd,r,ed,ne⟩:=NI R.1;have pe:=JB 7 _ (Gr R.1);refine Jh (t:=OG _ _ _) (λU M'=>qO M M'/\U=[ga (.ref A.b),ga (.tup [.ref r1,.ref r2,.ref r3]),ga (.str c),ga (.str z),ga (.ref rw),ga (.tup [R.1.d,.ref rq]),ga (.ref p6),ga R.1.d,y8,y9,Yl,XE]) (λnx h=>?_) ?_
 .rcases wk with⟨m,z1,rfl,hz1,Xn,er⟩|⟨_,rfl⟩
  .obtain⟨m,rfl⟩:∃k,m=k+1:=⟨m - 1,by lia⟩;have nh:hasS Xe z1=Db:=(iO _).mp λg=>by obtain⟨rest,e2,_⟩:=Ed rd.ok er g;have:=eV List.length e2;rw[cX,eF]at this;simp only[eA]at this;lia
   rw[Ei nh]at er;have e1:R.1=.ring (Xe.drop (Xe.findIdx (·==z1))):=by rw[<-er]
   refine i' l6 ⟨Z',qE _,?_⟩;show if inD (.str z1) (Xe.map D.str)=Db then _ else _
   rw[show inD (.str z1) (Xe.map D.str)=Db from(sP _ _).trans nh];refine DH ⟨by show(om M2 p6).isSome=Db;rw[l6];rfl,i' l6 ⟨Z',qE _,i' (BL z1 Xe (ra.mp nh)) (i' l6 λp3 YJ=>?_)⟩⟩;have ZN:Xe.findIdx (·==z1)<=(Xe.map D.str).length:=by rw[cV];exact j9
   rw[Cw _ _ ZN,<-ir];refine i' pS ⟨pE Z',h _ _ ⟨s2.trans (.new YJ),?_⟩⟩;rw[e1];rfl
  .have h:=h _ _ ⟨s2,Z'⟩;rw[ed]at h ⊢;refine i' (vW _ _) ?_;refine qD (c:=wd=="to") (λg=>by rw[ne]at g;cases g) (λ_=>yh h)
 rintro U M3 ⟨s3,rfl⟩
 rw[ed]at pe ⊢;refine i' (vW _ _) ?_;show if (!(wd=="to"))=Db then _ else _
 rw[ne];refine DH ⟨λC z=>(by cases z),i' G.bS (DH ?_)⟩;exact i' (vA 8 _ pe) ⟨M,s3,q⟩
def RZ:rM:=λds M Q=>Dj λc r nm=>ds=[.int c,.ref r]/\om M r=ga (List.map D.str nm)/\∀q M' way,qO M M'->om M' q=ga (List.map D.str way)->way.length<=100->Q (.ref q) M'
def SE:Fq P w K mg base 2 a.bA RZ:=by
 refine fq G.bA.toDG xM (λr u=>⟨_,(pH (pW 2 xM (qg sv Z' G.m rV (qp U1)))
 (pH (pW 3 xM (qX sH))
 (pH (ut eW Z' (vP Z' G.aa (qp (pV (qV G) r G.i (rJ v0 pK pK)))) (rP 4 xM)
 (pI (qa (pP u (qc qC Z' G.g qB (qp U2)) pK)
 (pI (pY (qW U3 (qp (Kx U2 (qp (pV (qV G) r G.i (rJ (ql v0 (ql pK v4)) pK (qc qC Z' G.g qB (qp U2))))))))))
 pU)))
 (pI (pO U3))))),?_⟩)
 rintro ds M Q ⟨c,r,nm,rfl,lr,q⟩
 have hz:=dI;refine i' lr λp2 Xh=>⟨pE Z',λp3 YJ=>?_⟩;have t1:=qO.new (c:=.lst (nm.map D.str)) Xh;have t2:=qO.new (c:=.lst []) YJ;have l2:om (pQ (pQ M p2 (.lst (nm.map D.str))) p3 (.lst [])) p2=ga (nm.map D.str):=t2.lst pS;have l3:om (pQ (pQ M p2 (.lst (nm.map D.str))) p3 (.lst [])) p3=ga (([]:QQQ).map D.str):=pS;have n23:p3≠p2:=λy=>by rw[y,qd]at YJ;cases YJ
 have m3:M p3=Fa:=t1.none YJ;have s2:=t1.trans t2;generalize pQ (pQ M p2 (.lst (nm.map D.str))) p3 (.lst [])=M2 at l2 l3 s2 ⊢;dsimp only[qZ];have d0:=qU (c:=c) (f:=39373) (m:=4) (by decide);have d1:=qR (c:=c) (f:=39373) (m:=4) (by decide);refine⟨c,39373,4,Z',by decide,?_⟩;generalize qG c 39373 4=k at d0 d1 ⊢;refine⟨Z',⟨by lia,by lia⟩,?_⟩;show Dm _ _ _ _ ((List.range k.toNat).map λi=>D.int (0+(i:Nat))) _ _;refine vd ((List.range k.toNat).map λi=>D.int (0+(i:Nat))) (λpre U M'=>qO M M'/\∃left way y4,om M' p2=ga (List.map D.str left)/\om M' p3=ga (List.map D.str way)/\way.length<=pre.length/\U=[ga (.int c),ga (.ref r),ga (.ref p2),ga (.ref p3),y4]) (λ_ _ _ _=>trivial) _ [] _ _ Z' ⟨s2,nm,[],Fa,l2,l3,dq _,Z'⟩ ?_ ?_
 rotate_left
 .rintro U M' ⟨s3,left,way,y4,_,l3,hw,rfl⟩
  rw[cV,eC]at hw;exact⟨M',.refl,q p3 M' way s3 l3 (by lia)⟩
 clear l2 l3 s2 t1 t2
 rintro pre d post e U M3 ⟨s3,left,way,y4,l2,l3,hw,rfl⟩ nx Xg
 obtain⟨i,ei,rfl,et⟩:=BV e;have hi:=gb.mp (rb ei);rw[cX,dH]at Xg;have hp:pre.length<4:=by have:=(cZ.mp ei).1;rw[eC]at this;lia
 dsimp only[qZ];refine i' l2 ?_;rw[cV];refine qD (c:=decide ((left.length:Int)>1)) (λg=>?_) (λ_=>Xg _ _ ⟨s3,_,_,_,l2,l3,iN hw,Z'⟩);have g:(left.length:Int)>1:=fD g;refine⟨by show(om M3 p3).isSome=Db;rw[l3];rfl,by show(om M3 p2).isSome=Db;rw[l2];rfl,?_⟩;refine⟨.inl ⟨by decide,by decide⟩,i' l2 ?_⟩;rw[cV];refine⟨_,_,_,Z',by lia,qU (by lia),i' l2 ?_⟩;have d0:=qU (c:=c+7*(0+(i:Int))) (f:=48271) (m:=left.length) (by lia);have d1:=qR (c:=c+7*(0+(i:Int))) (f:=48271) (m:=left.length) (by lia);generalize qG (c+7*(0+(i:Int))) 48271 left.length=j at d0 d1 ⊢;have hj:j.toNat<left.length:=by lia
 refine i' (by rw[dC,cY hj];rfl) ?_;have s4:qO M (pQ M3 p2 (.lst ((left.map D.str).eraseIdx j.toNat))):=λu v e=>by rw[tj (Jm e Xh)];exact s3 u v e
 have l4:om (pQ M3 p2 (.lst ((left.map D.str).eraseIdx j.toNat))) p2=ga ((left.eraseIdx j.toNat).map D.str):=by rw[pS,gw,gw,dN,iT,ir]
 have l3:om (pQ M3 p2 (.lst ((left.map D.str).eraseIdx j.toNat))) p3=_:=se.lst .put n23 l3;generalize pQ M3 p2 (.lst ((left.map D.str).eraseIdx j.toNat))=M4 at s4 l4 l3 ⊢;refine i' l3 ⟨by rw[cV];lia,Xg _ _ ⟨λu v e=>by rw[tj (Jm e m3)];exact s4 u v e,_,way++[left[j.toNat]],_,se.lst .put (dQ n23) l4,by rw[pS,dN];rfl,by rw[cX];show way.length+1<=_;lia,Z'⟩⟩
def NX(a:Ad):rM:=λds M Q=>R1 λA V l r1 r2 r3 ro rn n=>ds=[.ref (uj.b A),.tup [.ref r1,.ref r2,.ref r3],.ref ro,.ref rn,.int n]/\om M r1=ga (pR.mR l|>.map rj)/\om M r2=ga (l.groups.map rC)/\om M r3=ga (l.mQ.map vw)/\om M ro=ga (l.pn.map D.str)/\om M rn=ga (l.nm.map D.str)/\Rd a M A V l/\WF l V/\V.calls.length<=10000/\V.ps.length<=3/\Q (.bl Db) M
def Ig(n:Nat)(s:Str×T0 Nat):sj (n+3) (.tup [.str s.1,uK s.2])=Db:=by have u:sj (n+2) (uK s.2)=Db:=yA (n+1) s.2;show([D.str s.1,uK s.2].all (sj (n+2)))=Db;simp only[eO,u];rfl
def Np:Fq P w K mg base 9 a.bB (NX a):=by
 refine fq G.bB.toDG sY (λr u=>⟨_,(pH (pW 5 sY (pT U2 (pV (qV G) r G.i (rJ v4 pK (qc qC Z' G.g qB (qp U2))))))
 (pH (pW 6 sY (pT U3 (pV (qV G) r G.i (rJ v4 pK (qc qC Z' G.g qB (qp U3))))))
 (pH (pW 7 sY (pV (SE G) r G.bA (sd v4 U3)))
 (pH (pW 8 sY (pX (sd (pV (CF G) r G.ac (qp v0)) (qg sv Z' G.m rV (qp (pN v0))))))
 (pH (pW 9 sY (qg sv Z' G.m rV (qp v7)))
 (pH (pW 10 sY (pV (CQ G) r G.J (qh v0 (rJ v5 v6 v9))))
 (pH (qa (W3.b3 (vH (vm (ua (pV (Lb G) r G.bz (qh v0 (qh U1 (qh v5 (rJ v6 v7 Pp))))))) (vC (pP u v9 v7))))
 (pI (pO vv))
 pU)
 (pH (pW 11 sY (pX (sd (pT Pp pK) (qg sv Z' G.m rV (qp (pT Pp pK))))))
 (pH (pY (qW (pT Pp pK) (qp (pX (sd pL (pX sH))))))
 (pI (pO (tL (qr u (pV (CQ G) r G.J (qh v0 (rJ v5 v6 v7))) Wp) (sT (qr u (pX (sd (pV (CF G) r G.ac (qp v0)) (pN v0))) v8)))))))))))))),?_⟩)
 .rintro ds M Q ⟨A,V,l,r1,r2,r3,ro,rn,n,rfl,m1,m2,m3,lo,ln,rd,wf,hk,h3,q⟩
  have hz:=dI;have p1:=rd.ok.p1;have pl:0<(l.pn.length:Int):=by have:l.pn.length=l.mR.length:=cV ..;lia
  have nl:0<(l.nm.length:Int):=by unfold pR.nm;rw[cX];lia
  refine i' lo ?_;rw[cV];refine⟨_,_,_,Z',pl,i' lo (i' (Cz (qU pl) (qR pl)) ?_)⟩;dsimp only[qZ];generalize AY l.pn (qG n 1664525 l.pn.length)=c;refine i' ln ?_;rw[cV];refine⟨_,_,_,Z',nl,i' ln (i' (Cz (qU nl) (qR nl)) ?_)⟩;dsimp only[qZ];have XA:AY l.nm (qG n 22695477 l.nm.length)∈l.nm:=z9 (qU nl) (qR nl);generalize AY l.nm (qG n 22695477 l.nm.length)=z at XA;refine⟨_,rn,l.nm,Z',ln,λrw M1 way s1 lw hw=>?_⟩;dsimp only[qZ];have Yo:=rd.sub s1;refine Jh (t:=B5 _ _) (λU M'=>qO M1 M'/\∃pb,om M' pb=ga (V.log.map Ev.d)/\U=[ga (.ref A.b),ga (.tup [.ref r1,.ref r2,.ref r3]),ga (.ref ro),ga (.ref rn),ga (.int n),ga (.str c),ga (.str z),ga (.ref rw),ga (.tup [Ds V,.ref pb]),Fa,Fa,Fa]) (λnx h=>?_) ?_
  .exact⟨A,V,Z',Yo.bd,hk,h3,pJ Yo.bd.at_ (i' Z' (i' Yo.bd.lo λpb hpb=>⟨pE Z',h _ _ ⟨.new hpb,pb,pS,Z'⟩⟩))⟩
  rintro U M2 ⟨s2,pb,lb,rfl⟩
  have Y6:=Yo.sub s2;have lw:=s2.lst lw;refine i' lw λph hph=>?_;dsimp only[qZ];obtain⟨M3,e0,t3,lh⟩:=uT (ds:=way.map D.str) hph;rw[<-e0];have lw:=t3.lst lw;have lb:=t3.lst lb;have YC:=Y6.sub t3;have s3:=s1.trans (s2.trans t3);refine⟨A,V,l,c,z,ph,way,Z',YC,XA,wf.nx,lh,by lia,λrq M4 s4 hq lq=>?_⟩;dsimp only[qZ];have rd4:=YC.sub s4;have Y8:=s3.trans s4;have lw4:=s4.lst lw;have rl:(uR l V c z way).2.length<=8000000:=by
   have:=Ay (l:=l) (V:=V) (c:=c) (l.nm.length+1) (z:=z) (way:=way) (st:=[]);have p8:=rd.ok.p8;have g3:=rd.ok.g3;have nl:l.nm.length<=11:=by unfold pR.nm pR.pn pR.gn;rw[cX,cV,cV];lia
   show(sS l V c (l.nm.length+1) z way []).2.length<=_;simp only[dF]at this;lia
  refine⟨A,V,l,r1,r2,r3,c,z,rw,way,rq,_,Z',Z',Y8.lst m1,Y8.lst m2,Y8.lst m3,rd4,wf,XA,lw4,hw,lq,?_⟩;generalize eR:uR l V c z way=R at lq rl ⊢;refine i' (AB (s4.lst lh) lw4 λd hd=>by
   obtain⟨v,_,rfl⟩:=dD.mp hd;exact vA 7 _ Z') (yh ?_)
  dsimp only[Tw];refine Jh (t:=B5 _ _) (λU M'=>qO M4 M'/\∃pk,om M' pk=ga (qY R.2)/\pk≠rq/\U=[ga (.ref A.b),ga (.tup [.ref r1,.ref r2,.ref r3]),ga (.ref ro),ga (.ref rn),ga (.int n),ga (.str c),ga (.str z),ga (.ref rw),ga (.tup [Ds V,.ref pb]),ga (.ref ph),ga (.tup [R.1.d,.ref rq]),ga (.tup [R.1.d,.ref pk])]) (λnx h=>?_) ?_
  .refine i' lq λpk hpk=>⟨pE Z',h _ _ ⟨.new hpk,pk,pS,λy=>?_,Z'⟩⟩;have:=qx lq;rw[<-y,hpk]at this;cases this
  rintro U M5 ⟨s5,pk,lk,nk,rfl⟩
  have lq:=s5.lst lq;refine⟨by show(om M5 rq).isSome=Db;rw[lq];rfl,pE Z',pE Z',i' lq ⟨by unfold qY;rw[cV];lia,?_⟩⟩;have s6:qO M3 (pQ M5 rq (.lst (qY R.2++[.tup [.str "zz",.tup []]]))):=λu v e=>by rw[tj (Jm e hq)];exact(s4.trans s5) u v e
  have lk:om (pQ M5 rq (.lst (qY R.2++[.tup [.str "zz",.tup []]]))) pk=_:=se.lst .put nk lk;generalize pQ M5 rq (.lst (qY R.2++[.tup [.str "zz",.tup []]]))=M6 at s6 lk ⊢;refine⟨A,V,l,c,z,rw,way,Z',YC.sub s6,XA,wf.nx,s6.lst lw,by lia,λq2 M7 s7 _ l7=>?_⟩;rw[eR]at l7 ⊢;have ee:xj M7 9 (.tup [R.1.d,.ref q2]) (.tup [R.1.d,.ref pk])=ga Db:=by
   have e1:xj M7 8 R.1.d R.1.d=ga Db:=vA 7 _ (Gr R.1);have e2:xj M7 8 (.ref q2) (.ref pk)=ga Db:=AB l7 (s7.lst lk) λd hd=>by obtain⟨v,_,rfl⟩:=dD.mp hd;exact vA 6 _ (Ig 3 v)
   show((xj M7 8 R.1.d R.1.d).bind λp'=>((xj M7 8 (.ref q2) (.ref pk)).bind λp=>(ga Db).map λq=>p&&q).map λq=>p'&&q).map (λp=>p&&Db)=ga Db;rw[e1,e2];rfl
  refine i' Z' (i' ee (DH ?_));have rd7:=YC.sub (s6.trans s7);have lb:=(s6.trans s7).lst lb;exact⟨A,V,Z',rd7.bd,hk,h3,pJ rd7.bd.at_ (i' Z' ⟨pE Z',i' Z' (i' (K3 rd7.bd.lo lb) ⟨M,s3.trans (s6.trans s7),q⟩)⟩)⟩
seal L3.E3 L3.B3 L3.A3 L3.S3 L3.Hx
def NR:rM:=λds M Q=>∃ns:T0 Int,ds=[.rl (ns.map D.int)]/\ns.length<=63/\Q (.bl Db) M
def Se:Fq P w K mg base 17 a.ai NR:=by
 refine fq G.ai.toDG yu (λr u=>⟨_,(pH (pW 1 yu (pV (MR G) r G.bo (sd v0 pK)))
 (pH (pW 2 yu (vT (Pj G) r G.h G.b9 G.aj.toDG (rJ (pT U1 pK) (pT U1 pK) (pT U1 pK))))
 (pH (vf (i:=3) yu.nd Z' (Or.inl Z') Z' (xV (ix:=[Fa]) (N':=["_law_phone"])) (qP (pT U1 pK)) (qQ 0) sC (pT v0 pK))
 (pH (pW 4 yu (ql U3 (qT Z' (xV (ix:=[Fa]) (N':=["_law_group"])) (qP (pT U1 pK)) (qQ 0) sC (pT v0 pK))))
 (pH (pW 5 yu (vT (L6 G) r G.c G.ca G.ak.toDG (sd U2 (ql (pV (MS G) r G.P (sd v0 pK)) pK))))
 (pH (ut eW Z' (u9 Z' G.aP (qp (ql (rS v0 sL (sO pK)) (qX (qp pK))))) (vg (n:=2) Z' (qI (rP 6 yu) (qI (rP 7 yu) ue)))
 (pH (pY (pV (Oz G) r G.bu (sd v5 (pV (Nj G) r G.bt (qh v5 (rJ (ql v7 (ql (ql pK v6) v6)) U3 v4))))))
 (pI (qa (W3.b3 (vh (pP u (ql v6 pK) pK) (uE (vm (ua (pV (Np G) r G.bB (qh v5 (qh U1 (rJ U3 v4 (ql v7 (ql pK v6)))))))))))
 (pI (pO vv))
 pU))))
 (pI (pO vv)))))))),?_⟩)
 rintro ds M Q ⟨ns,rfl,hns,q⟩
 have hz:=dI;have ok:rX (zQ ns 6):=Pq (by decide) (by decide);have p2:2<=(zQ ns 6).mR.length:=HV (by decide) (by decide);refine⟨ns,6,Z',by decide,by decide,λr1 r2 r3 M1 s1 h1 h2 h3=>?_⟩;generalize zQ ns 6=l at h1 h2 h3 ok p2;have p8:=ok.p8;have g3:=ok.g3;have pl:l.pn.length=l.mR.length:=cV ..;have nl:l.nm.length=l.mR.length+l.groups.length:=by unfold pR.nm pR.pn pR.gn;rw[cX,cV,cV]
 refine λp hp=>?_;have t2:=qO.new (c:=.ins a.h []) hp;refine⟨p,r1,r2,r3,l,Z',qd,t2.lst h1,t2.lst h2,t2.lst h3,ok,λM2 kp pa _=>⟨Z',?_⟩⟩;have s2:qO M1 M2:=λx c e=>kp x c (Jm e hp) (t2 x c e);clear kp t2 hp;have h1:=s2.lst h1;have h2:=s2.lst h2;have h3:=s2.lst h3;have s02:=s1.trans s2;refine i' h1 (rG (f:=Bp) h1 _ [] _ (by rw[cV];simp only[dF];lia) (λd hd k hk=>?_) λro hro=>?_)
 .obtain⟨x,_,rfl⟩:=dD.mp hd;exact hk
 rw[dZ,xJ];obtain⟨M3,e0,t3,lo⟩:=uT (ds:=(l.mR.map (·.1)).map D.str) hro;rw[<-e0];have lo:om M3 ro=ga (l.pn.map D.str):=lo;have pa:=pa.sub t3;have h1:=t3.lst h1;have h2:=t3.lst h2;have h3:=t3.lst h3;have s03:=s02.trans t3;clear t3 hro;dsimp only[qZ];refine Jh (t:=B5 _ _) (λU M'=>qO M3 M'/\∃rn,om M' rn=ga (l.nm.map D.str)/\U=[ga (.rl (ns.map D.int)),ga (.tup [.ref r1,.ref r2,.ref r3]),ga (.ref p),ga (.ref ro),ga (.ref rn),Fa,Fa,Fa]) (λnx h=>?_) ?_
 .refine i' h2 (rG (f:=Bp) h2 _ [] _ (by rw[cV];simp only[dF];lia) (λd hd k hk=>?_) λp hp=>?_)
  .obtain⟨x,_,rfl⟩:=dD.mp hd;exact hk
  .rw[dZ,xC];have t:=qO.new (c:=.lst ((l.groups.map (·.1)).map D.str)) hp;refine i' (t.lst lo) (i' pS ⟨by rw[cV,cV,cV];lia,λp2 Xh=>h _ _ ⟨t.trans (.new Xh),p2,?_,Z'⟩⟩);rw[pS,<-dN];rfl
 rintro U M4 ⟨s4,rn,ln,rfl⟩
 have pa:=pa.sub s4;have lo:=s4.lst lo;have h1:=s4.lst h1;have h2:=s4.lst h2;have h3:=s4.lst h3;have Y8:=s03.trans s4;clear s4 s03 s02 s2 s1;refine⟨ns,0,Z',by decide,λb hb=>?_⟩;have t5:=qO.new (c:=.ins a.c []) hb;have npb:p≠b:=λz=>by obtain⟨ph,gr,ws,YK,pr,gd,rs,i1,_⟩:=pa;rw[z,hb]at i1;cases i1
 refine⟨b,p,_,[],l,Z',qd,pa.sub t5,ok,npb,(λx hx=>by cases hx),λM5 A eb kp fr bd=>⟨Z',?_⟩⟩;obtain⟨cu,wf,ps⟩:=Lp.start ok pa hb eb kp fr bd;clear kp fr bd t5 npb pa;generalize V0 p (cell ns 0 % 24) l []=V at cu wf ps;have Xc:∀M',qO M4 M'->∃Xb,qO Xb M'/\Q (.bl Db) Xb:=λM' s=>⟨M,Y8.trans s,q⟩;dsimp only[qZ];refine Jh (t:=KZ _ _ _) (λU M'=>qO M4 M') (λnx h=>?_) λU M' s=>Xc M' s;intro sl Zp;rw[show L3.vj (ns.map D.int) Fa (ga (63:Int))=(ns.map D.int).take 63 from B' _ 63];obtain⟨M7,e0,t7,l7⟩:=uT (ds:=(ns.map D.int).take 63) Zp;rw[<-e0];refine⟨pE Z',λp8 hp8=>?_⟩;obtain⟨M8,e0,t8,l8⟩:=uT (ds:=[D.int 1]) hp8;rw[<-e0];refine i' (t8.lst l7) (i' l8 ⟨by rw[eF,cV];show min 63 ns.length+1<=Ch;lia,λr5 hr5=>i' pS ?_⟩);have hL:((ns.map D.int).take 63++[D.int 1]).length<=64:=by rw[cX,eF,cV];show min 63 ns.length+1<=64;lia
 have hLi:∀d∈(ns.map D.int).take 63++[D.int 1],∃c,d=.int c:=λd hd=>by
  rcases dY.mp hd with z|z
  .obtain⟨c,_,rfl⟩:=dD.mp (gQ z);exact⟨c,Z'⟩
  .rw[dA]at z;exact⟨1,z⟩
 generalize (ns.map D.int).take 63++[D.int 1]=L at hL hLi ⊢;obtain⟨M9,e0,t9,l9⟩:=uT (ds:=L) hr5;rw[<-e0];have s9:=t7.trans (t8.trans t9);have n5:r5∉A.foot:=(cu.sub (t7.trans t8)).bd.oi hr5;have i9:=Lp.mk0 (cu.sub s9) wf ps;have l5:=Qz l9 n5;generalize LK A M9=N at i9 l5;refine vd (uL 0 L) (λpre U M'=>(∃A V,Lp a M4 N M' b A V l pre.length)/\∃y6 y7,U=[ga (.rl (ns.map D.int)),ga (.tup [.ref r1,.ref r2,.ref r3]),ga (.ref p),ga (.ref ro),ga (.ref rn),ga (.ref b),y6,y7]) (λ_ _ M' j=>by obtain⟨A,V,g⟩:=j.1;exact g.s.lst l5) _ [] _ _ Z' ⟨⟨A,V,i9⟩,Fa,Fa,Z'⟩ ?_ ?_
 rotate_left
 .rintro U M' ⟨⟨A',V',g⟩,_⟩
  exact h _ _ g.cu.s0
 clear i9 n5 s9 l9 t9 hr5 l8 t8 hp8 l7 t7 Zp cu wf ps
 rintro pre d post e U M' ⟨⟨A,V,g⟩,y6,y7,rfl⟩ nx2 Xg
 obtain⟨dx,hx,rfl⟩:=BO e;have pl5:pre.length<64:=dR (cZ.mp hx).1 hL;obtain⟨c0,rfl⟩:=hLi dx (rb hx);rw[cX,dH]at Xg;refine⟨Z',?_⟩;dsimp only[qZ,zd,Ek];refine Jh (t:=QX _) (λU M2=>(∃A V,Lp a M4 N M2 b A V l (pre.length+1))/\U=[ga (.rl (ns.map D.int)),ga (.tup [.ref r1,.ref r2,.ref r3]),ga (.ref p),ga (.ref ro),ga (.ref rn),ga (.ref b),ga (.int (pre.length:Nat)),ga (.int c0)]) (λnx h=>?_) ?_
 .refine⟨.inl ⟨by decide,by decide⟩,.inr ⟨by lia,by lia⟩,?_⟩;have eb:=g.cu.b;subst eb;refine⟨A,V,l,_,ro,rn,l.pn,l.nm,Z',g.rd (by lia),g.wf,λk hk=>(g.cu.sz.cs k hk).2.1,g.cu.s0.lst lo,g.cu.s0.lst ln,λz=>by rw[z]at pl;simp only[dF]at pl;lia,λz=>by rw[z]at nl;simp only[dF]at nl;lia,by lia,by lia,λM2 e s f=>?_⟩;have g:=g.sub s;exact⟨M4,A.b,A,V,l,_,_,e,Z',g.cu,by lia,by lia,g.wf,f,λhr M3 A3 c3 XX=>h _ _ ⟨⟨A3,_,g.after (by lia) f hr c3 XX⟩,Z'⟩,λ_=>h _ _ ⟨⟨A,V,g.nC⟩,Z'⟩⟩
 clear g
 rintro U M2 ⟨⟨A2,V2,g⟩,rfl⟩
 have eb:=g.cu.b;subst eb;have go:nx2 [ga (.rl (ns.map D.int)),ga (.tup [.ref r1,.ref r2,.ref r3]),ga (.ref p),ga (.ref ro),ga (.ref rn),ga (.ref A2.b),ga (.int (pre.length:Nat)),ga (.int c0)] M2:=Xg _ _ ⟨⟨A2,V2,g⟩,_,_,Z'⟩;have Y8:=g.cu.s0;refine⟨by decide,?_⟩;refine qD (c:=((pre.length:Nat):Int) % 2==0) (λ_=>?_) (λ_=>yh go);exact⟨.inl ⟨by decide,by decide⟩,A2,V2,l,r1,r2,r3,ro,rn,_,Z',Y8.lst h1,Y8.lst h2,Y8.lst h3,Y8.lst lo,Y8.lst ln,g.rd (by lia),g.wf,d9 g.cu.sz.ca (by lia),g.ps,yh go⟩
end
end Z
end
structure PySem.W.Fast:Prop where(tw9207766933139279970 tw9103440094546597888 tw9022197868655422618 tw8853338096104601183 tw8014515602035055117 tw6787594911055099302 tw6538450590125076587 tw5793104919575005040 tw5732676252976466019 tw493820228598566325 tw4584658413260870253 tw440374161967270461 tw388756793076483225 tw3231140541631697206 tw2869806077851894462 tw2547695039559716756 tw2050252678633835128 tw18011759866050867997 tw16921376724939987322 tw13652750160448615739 tw12906967940781746982 tw12778610976577555295 tw12739568805917349581 tw12553786387222315553 tw12123730761936992568 tw11760897261813424194 tw10888294391015611584 tw10702136283329672364 tw10660482491500025353 tw10638016255750794884 tw1794987403710603454 tw11295362086756251781 tw2100390933689937054 tw7727797096259776377 tw17078157160410955991 tw4845616969683257671 tw17220447035014672047 tw7886897069879552091 tw18080584953307990056 tw8681293624154776049 tw5628978565488390689 tw3607239045515868444 tw8834570627847127453 tw5443221412319498697 tw250567215074909970 tw692577632515007870 tw11457252502249029962 tw12454728544683184787 tw3674050924184503073 tw7892016201870777608 tw10842915774619669146 tw18271822995547870438 tw7279098407269549988 tw3784379905505196009 tw894427592806074501 tw1520691594224351506 tw9686914759026160252 tw5803803380919939142 tw4886516186527739271 tw3786926783234268699 tw11026928835231870032 tw9100038945275227711 tw8497489036905474060 tw488209556997121942 tw14666585223366944127 tw3140244352579393722 tw9214561117618823087 tw1195683309574882356 tw8918141641515901060 tw3984491574374583014 tw2729533326926585720 tw5978223480191846635 tw15858644872298353947 tw16013127743393342665 tw15293648882657946009 tw8811267485476856194 tw10823236545836528363 tw13742714608018126087 tw3053247144548877888 tw1725220205058713833 tw9437040143112399805 tw1074104589445438395 tw5591437243411823276 tw12542309242861490074 tw12103847616356689570 tw5550315969644410045 tw1623002587339281298 tw10009467028356690110 tw10259058759721075105 tw2059224152326837164 tw2204808483539762078 tw13164870458585766356 tw12482759174008652522 tw3612446104778012075 tw1122073158775292756 tw11388716567808722135 tw16832223114612305560 tw12205666909113097370 tw5344453394818960876 tw7991268272641153174 tw4489402811017956875 tw8807068779587839238 tw4306291501932789432 tw10688374090269592845 tw4344341866942125240 tw9166459849000691691 tw9195497378640149414 tw17362387498922206453 tw12648727846234648065 tw10994919011033747959 tw14640455205945621939 tw6823754105062057566 tw2926447503794010199 tw4485773338737544187 tw2141252347064899389 tw1386553052417534225 tw1045550590834465363 tw479437390711390091 tw13201412703573865168 tw6484554909525491401 tw6822319753294413154 tw1706586590613627522 tw10157685678522636641 tw16949922806862898750 tw4505918643736531226 tw15354252939037194060 tw16372398962289242422 tw16365141302579899867 tw16470627180934071938 tw13162313607352454926 tw6984585902224008375 tw17576520262563587152 tw17001199331844882538 tw17701706304074960431 tw1397980740254136033 tw17826751596239461086 tw14053879789899843859 tw15299076482394588911 tw409943366747241355 tw15746881104496699373 tw1683276489353025805 tw15516213015087970572 tw14127658783363836611 tw6520813417354139997 tw6042994302677871723 tw16099999686268356557 tw8773502354070544337 tw3096585051734788120 tw8943707808538186571 tw8812225928379075900 tw8309929163341587561 tw16274372440407061538 tw715387475695496008 tw9303387563820111701 tw4738502934931221547 tw5072387864676942807 tw13384755861849767382 tw9895097965251818555 tw12202490572772232955 tw6856646552319300888 tw14543068713232516726 tw18268428393016947504 tw1297557516774629967 tw5307132553794316667 tw5836224974301499098 tw16658728895672323210 tw11607432674536932324 tw17126613605410730789 tw13613995977695135487 tw5187050418422137751 tw937806337116378640 tw7057901267432047057 tw8950793225544124747 tw7035708081745390963 tw771858826386604476 tw7220036255851360279 tw18326753016442856989 tw14636208542898843658 tw66660594112592380 tw15560121003724623045 tw8406831570700758335 tw16015954344020894151 tw5021306782285620648 tw3397168187738530003 tw15413024145132896135 tw8447839404629393679 tw12711338836788958379 tw7852368131829472176 tw8146930342110993516 tw3199424848269051544 tw17169637558591098884 tw14266082797865694848 tw12534231294113146087 tw1450535344272711075 tw10758862302971581387 tw9330867507359237052 tw2340584427291673548 tw18344880259297109782 tw13517828729685285125 tw627745820649790047 tw3919072442691974337 tw16834212974870080236 tw15018466119227836227 tw7803956848783961190 tw9660612020969442409 tw14152672734042924384 tw14013561302670322369 tw13162465971194109314 tw17662793087984141290 tw6944783505435740395 tw16515982029857662377 tw9509505883232676799 tw15227737182223062280 tw16905138871071824983 tw17802631017440631560 tw8720818420245456693 tw7001359943664594242 tw13439594031161008873 tw9164181115971423974 tw1825409739561056948 tw8428932313134962859 tw16114766378842023191 tw16211321387788837069 tw5431787449061426327 tw15562930072625360803 tw18356176953491449356 tw6949280304099178093 tw4496962358683710473 tw10303086877209141992 tw4578137096903560902 tw5138724036819020519 tw4916029828817292356 tw17592869653231012823 tw15410225394018247023 tw8916501958090244377 tw8043387183690255429 tw5809606736349227046 tw4417698010085665381 tw9476603602799888575 tw1843312926888789939 tw12508265465699090040 tw9676033208568779567 tw5418188721579922224 tw1160573510808330377 tw3973312068831803253 tw15089666854231700763 tw12671566928973476291 tw4193955541045558002 tw14347554086375556315 tw10323975864508845978 tw7998416219292123561 tw14466372971947917970 tw1935581917625696848 tw8515520211636350637 tw743235822065831194 tw14735869378531526045 tw9736788902720810766 tw1203654881758804781 tw1643894133452414127 tw5104765867833890614 tw4141888344823675999 tw14710936153015749396 tw13749494067702552963 tw14164343511899554385 tw12110481690504147213 tw8725280595999745307 tw6143136849901252510 tw4844172329331164034 tw12443416343480898311 tw12188516020843463633 tw8898835867826328828 tw11020811354314274589 tw13041133757050492782 tw2694391074262712983 tw8633084534109148378 tw3492001523001380394 tw2985119610117999455 tw8275620072633831659 tw11478593267095547811 tw9289805228625848198 tw7147481745585348033 tw14015227603353311960 tw6876771095274837893 tw2538357973458814687 tw16755431924885270902 tw10305565754664061119 tw17127720871660926117 tw466464475946655893 tw17146047408715946562 tw15466491672332792447 tw4967908685015111098 tw9189467904066905783 tw13084849032313345550 tw17272787914459187797 tw13554466822481927503 tw12248014861731639201 tw12139218457162483991 tw7008819312511232780 tw13599695648179996407 tw3753855492954087909 tw1273297798553723305 tw8405863705017853315 tw1511846342893675692 tw11376113765472911592 tw8476129046780303309 tw6993587977594175576 tw5610830062380508852 tw390133316072173901 tw16307255900246755027 tw12517459954590923591 tw8912685197740336548 tw7033825053216847320 tw15417922651805478726 tw7150782022490538223 tw3655091908506416320 tw12860138615384942230 tw16088224593318367631 tw15113508896296460489 tw2655155931616809749 tw8041174815354740100 tw8212037369575617072 tw1716953262359140493 tw10854575427597088203 tw5185555609120083759 tw2146356864178843296 tw5453991355092128279 tw17666016828011334246 tw6539705756823036766 tw7161756709086818622 tw11391308123117968198 tw13845990602779259004 tw15212562470700126527 tw8947185745720411324 tw7231627317831469948 tw12515490394192052871 tw2617334109152999238 tw5872991216989164876 tw17956360978595580914 tw16931170903543048578 tw1676178820936775046 tw4917147298945473069 tw17979296130119754634 tw4885835430668143064 tw14228286925318729226 tw13681739636411663913 tw12158260951185123064 tw14838539718483758517 tw2849211564900773069 tw547873105839827602 tw1097559420193486028 tw2717219255042763864 tw12114845826183552191 tw1418353760971750885 tw4534121961773399640 tw5286903522944446156 tw8799295556014817919 tw15015559260456887811 tw9859368444048352213 tw10402248416482144550 tw18174123090440150710 tw2210854877679741883 tw7770161628588295348 tw2076576998996827768 tw13435295818042827506 tw13347899413545201592 tw6523294100151098887 tw17880261526835241905 tw15355292360370916216 tw4292302312771696964 tw4159312648840505427 tw4815630675184883365 tw6052042080246737738 tw4739438231335542192 tw8474163533841619256 tw17917891142912992077 tw13370954039270385680 tw1338162483293928552 tw5946299877281735347 tw12756186647647984120 tw309439158547725240 tw17400914570199574735 tw12072521534493342794 tw8304646331984796766 tw6603050098340288943 tw4547036057047904025 tw3298918343462029537 tw17730412149949482968 tw7753964356093890432 tw4916906446714848785 tw8087463667754317505 tw15045728099409141336 tw12146554652374973166 tw1605336253611635270 tw2144803412860122121 tw8146304766423736513 tw15091581587106721754 tw15644168853441513098 tw9260248777807919238 tw2068781548167823527 tw15917878088969704798 tw11981897502133762099 tw17786617158750450966 tw15669415801171372409 tw8566010538913845372 tw7293854108574869040 tw5028454078162475938 tw14185375904159469750 tw4653945606488968792 tw14899382245916495998 tw14301909098666159061 tw13527625204974927432 tw11015201155032431237 tw6754898582981432063 tw4865048863274389298 tw82439537945760599 tw4557596584932379050 tw14849906706212436796 tw14527100421564381587 tw1303671830477126739 tw12103849719582977598 tw13103636171420287713 tw7547079289958391644 tw7029030537095164884 tw1205317801208529138 tw7222128927768480030 tw4056114170286931334 tw3218986160127100722 tw14186445830119776354 tw13943971157737093249 tw18241335720732907760 tw14993943239960565727 tw11743205006711382351 tw18216331113880443144 tw5512839859234072932 tw12530024636726144419 tw15051981872120413012 tw7032574861402968843 tw16707699241180813348 tw4149499940717603169 tw8927642988416055371 tw11938167574798825853 tw5714297840716761964 tw30164493521434386 tw18205516550721776263 tw9815954356134115194 tw12766780924782265697 tw5116140733382245280 tw8712569893806475203 tw6556886494126635453 tw1865484898178329477 tw18285582791734584984 tw176566853242563829 tw14506920345178606184 tw16561404044719288911 tw8001518450187962932 tw4524091699171027222 tw15876857061473652860 tw15100656258933076701 tw1975547640318125188 tw11049234122000080505 tw10623113574674529694 tw4297047868450609004 tw7466044238293059362 tw6823149668009500826 tw3242881943101279545 tw12586088131355264500 tw18332165043018103843 tw7044447663972105587 tw2297698511386946005 tw15530155810519488091 tw7530527211521776229 tw15324839243979470482 tw2569172682783563628 tw6196922471121741471 tw799075774756686418 tw17525091758488855757 tw10532842643866372691 tw9507051475857394014 tw3144019943210532115 tw161267549604431414 tw302790039935463641 tw15127678197695218748 tw17536264873930723954 tw15917154620332845446 tw9160062935254731349 tw4703392509797521193 tw3716494085637331789 tw12297673833154298243 tw13626072254106793616 tw12357442787481258927 tw6156645940848157824 tw15153692160813329085 tw668495945732393136 tw5781033551435049534 tw3759376715850736420 tw14024476495984885814 tw13573809273839077736 tw7644379044184669457 tw6397453797343318082 tw18224733472845250778 tw16751244899606304698 tw15180133541650727736 tw1356617088111758700 tw13423839010230724011 tw11106570398435935558 tw10602734119990957534 tw238966399148149187 tw10416451143237978541 tw17322735328373816070 tw1630283117647347875 tw16317251945855362422 tw13550722503639951193 tw8057861048875108923 tw18236030525128087968 tw9839501564871395634 tw7312329708972090537 tw6729867753308665222 tw2683599310225399377 tw10671278667066752827 tw17380946773695530926 tw4616654037174411551 tw16822589302243428223 tw11920048391119953764 tw10764016934183229976 tw9376931947701345354 tw7826288343603903291 tw258047270515663945 tw1671376697621408232 tw15627445374829978264 tw14500497078654902645 tw13535961287905532477 tw5489542643474267796 tw1107007432611736211 tw8804644477170853736 tw7881959484787678931 tw18376415685412262178 tw13229249056244611050 tw18207227376661216984 tw6719484903323810047 tw16699577903279901940 tw17138918045731741130 tw17196255151836502175 tw8586007138742818981 tw14005189746006274025 tw4575309413565058538 tw9329145865314583479 tw11481176767204647299 tw819074893616036555 tw7517313127746349949 tw7493585897381077873 tw1562668551026411871 tw6667624778511962800 tw16013215343939774407 tw2276784466274983078 tw12354219707429845753 tw3823087144113680281 tw14457289553308400545 tw12948526078017276612 tw17375428425798945315 tw12024055070720054909 tw3945622510499741988 tw18320541199497411053 tw14401284096270413 tw18083321546681565994 tw17608128019814710734 tw15688969766097085876 tw4695896523366254100 tw18012307242722073277 tw16616128248350595161 tw4453387246423870654 tw1833968614456825959 tw9305446628403643258 tw3020894137546076682 tw14882347955355239487 tw11841352361033649643 tw6038686463858780157 tw7950517528358724411 tw6033546689302045060 tw5399821621671992271 tw4823985369144550562 tw2333091999893489660 tw1858823091085187614 tw1763458612234324391 tw14700810998051150103 tw14657012719405483464 tw14016977961679715832 tw12948863314643657190 tw7478480258995532609 tw1321899655206753165 tw4489208414591598587 tw12066984449229076756 tw9140894552869721404 tw776184175816733758 tw4989813626238088877 tw3668290556708446498 tw2586793991467183661 tw2346321996133423011 tw8664880532341838556 tw6417111556766510618 tw6151343275132746932 tw4927024163432419971 tw3166897161790166928 tw2161215343896022644 tw16752834603594481024 tw15447267092060595706 tw12571473168980260744 tw10054588436097674093 tw3661919676344706313 tw26679104173762127 tw2455204134717728769 tw14693249934563659509 tw9576830464751966358 tw5462030917072990468 tw3721744798856816840 tw14174536314834178470 tw13450038588877963211 tw9332476228004337389 tw708684858529138786 tw5447400671536777470 tw4234103170957995528 tw4026173001242132923 tw18081196618457172120 tw17454541248530487822 tw15951451583378756119 tw13231016476166850070 tw1210644330569745966 tw11738252275711209682 tw11316652193009393106 tw10575993570429051658 tw1618580289297205693 tw16146998549150109383 tw13386421542369422689 tw12949469106180930965 tw4514172044393109066 tw14420005983411795750 tw1152861699023779190 tw11106665383854970032 tw5325261442107999536 tw7820391073452589880 tw5679865263079485136 tw13702547768248892510 tw15656481647282907283:True)
open PySem PySem.W PyProof.Rows L2 L3
def xZqN:Option Obj->Option Obj
|some ⟨_,_,.freed,_⟩=>none
|o=>o
def xZqP (h:Heap):List Nat->Nat->List Obj->List (Option Obj)
|[],_,_=>[]
|a::l,i,r=>bif i.ble a then xZqN (r.drop (a-i)).head?::xZqP h l a (r.drop (a-i)) else h.get? a::xZqP h l i r
theorem xZqQ (h:Heap):∀l i r,r=h.objs.toList.drop i->xZqP h l i r=l.map h.get?
|[],_,_,_=>rfl
|a::l,i,r,e=>by
 unfold xZqP;cases z:i.ble a with
 |false=>exact congrArg (h.get? a::·) (xZqQ h l i r e)
 |true=>
  have d:r.drop (a-i)=h.objs.toList.drop a:=by have:=Nat.le_of_ble_eq_true z;rw [e,List.drop_drop];congr 1;omega
  show xZqN (r.drop (a-i)).head?::xZqP h l a (r.drop (a-i))=_;rw [xZqQ h l a _ d,d,List.head?_drop,Array.getElem?_toList];rfl
def xZqH (K:Params->Frag) (as:List Addr) (e:∀P,as=(K P).map (·.1)) (_:Unit):Hook:=⟨_,λs=>xZqP s.heap as 0 s.heap.objs.toList,λw=>(K w.params).map λp=>some p.2,InK K,λw s x=>InK.of e w s ((xZqQ s.heap as 0 s.heap.objs.toList rfl).symm.trans x),InK.keeps⟩
local macro_rules|`(tactic|o_head ($f $k $a $e))=>`(tactic|o_head (xZqH $k $a $e ()))
set_option maxRecDepth 100000 in
set_option maxHeartbeats 0 in
theorem PySem.Challenge.cw_callboard_k31_routes_walked_holds : PySem.Challenge.rw_callboard_k31_routes_walked.Holds := by
 w_on;o_law;k_head;(case hw=>w_witness2)
 k_fill
 refine L3.L1 (l:=PySem.Challenge.rw_callboard_k31_routes_walked) (sp:=Z.NR) (k:=17) (x:="_law_script") rfl rfl ⟨rfl,by decide,by decide⟩ (λ_ _ Y=>Y) (λns hl=>⟨ns,rfl,hl,rfl⟩) ?F;case F=>
  intro w mg fa h KX G hmg;suffices h:∃a:Z.Ad,Z.Gl _ mg a/\∀(s:Shared) (u:Value),BindsTo s a.ai.d ⟨[u],[]⟩ [("_law_script",u)]by obtain⟨a,g,hb⟩:=h;have e:=hmg.symm.trans g.ai.mg;cases e;exact⟨a.ai.d,hb,λbase _ _=>g.ai.pe ▸ Z.Se g⟩
  refine'⟨⟨_,_,_,_,_,_,_,_,_,_,_,_,_,_,_,_,_,_,_,_,_,_,_,_,_,_,_,_,_,_,_,_,_,_,_,_,_,_,_,_,_,_,_,_,_,_,_,_,_,_,_,_,_,_,_,_,_,_,_,_,_,_,_,_,_,_,_,_,_,_,_,_,_,_,_,_,_,_,_,_,_,_,_,_,_,_,_,_,_,_,_,_,_,_,_,_,_,_,_,_,_,_,_,_,_,_,_,_,_,_,_,_,_,_,_,_,_,_,_,_,_,_,_,_,_,_,_,_,_,_,_,_,_,_⟩,⟨xl KX G ..,xl KX G ..,xl KX G ..,xl KX G ..,xl KX G ..,xl KX G ..,xl KX G ..,xl KX G ..,xl KX G ..,xl KX G ..,xl KX G ..,xl KX G ..,xl KX G ..,PySem.W.mg_of KX G ?_,PySem.W.mg_of KX G ?_,qF KX G ..,qF KX G ..,qF KX G ..,qF KX G ..,qF KX G ..,qF KX G ..,qF KX G ..,qF KX G ..,qF KX G ..,qF KX G ..,qF KX G ..,qF KX G ..,qF KX G ..,qF KX G ..,qF KX G ..,qF KX G ..,qF KX G ..,qF KX G ..,qF KX G ..,qF KX G ..,qF KX G ..,qF KX G ..,qF KX G ..,qF KX G ..,qF KX G ..,qF KX G ..,qF KX G ..,qF KX G ..,qF KX G ..,qF KX G ..,qF KX G ..,qF KX G ..,qF KX G ..,qF KX G ..,qF KX G ..,qF KX G ..,qF KX G ..,qF KX G ..,qF KX G ..,qF KX G ..,qF KX G ..,qF KX G ..,qF KX G ..,qF KX G ..,qF KX G ..,qF KX G ..,qF KX G ..,qF KX G ..,qF KX G ..,qF KX G ..,qF KX G ..,qF KX G ..,qF KX G ..,qF KX G ..,qF KX G ..,qF KX G ..,qF KX G ..,qF KX G ..,qF KX G ..,qF KX G ..,qF KX G ..,qF KX G ..,qF KX G ..,qu ..,qu ..,qu ..,qu ..,qu ..,qu ..,qu ..,qu ..,qu ..,qu ..,qu ..,qu ..,qu ..,qu ..,qu ..,qu ..,qu ..,qu ..,qu ..,qu ..,qu ..,qu ..,qu ..,qu ..,qu ..,qu ..,qu ..,qu ..,qu ..,qu ..,qu ..,qu ..,qu ..,qu ..,qu ..,qu ..,qu ..,qu ..,qu ..,qu ..,qu ..,qu ..,qu ..,qu ..,qu ..,qu ..,qu ..,qu ..,qu ..,qu ..,qu ..,qu ..,qu ..,qu ..,qu ..,qu ..,Nr ?_ ?_ ?_ ?_ ?_ ?_ ?_ ?_ ?_ ?_,J7 ?_ ?_ ?_,PX ?_ ?_ ?_ ?_,⟨?_,?_,?_,?_⟩,⟨?_,?_,?_,?_⟩,⟨?_,?_,?_,?_⟩,⟨?_,?_,?_,?_⟩,⟨?_,?_,?_,?_⟩,⟨?_,?_,?_,?_⟩,⟨?_,?_,?_,?_⟩,⟨?_,?_,?_,?_⟩,⟨?_,?_,?_,?_⟩,⟨?_,?_,?_,?_⟩,⟨?_,?_,?_,?_⟩,⟨?_,?_,?_⟩,⟨?_,?_,?_⟩,⟨?_,?_,?_⟩,⟨?_,?_,?_⟩,⟨?_,?_,?_⟩,⟨?_,?_,?_⟩,⟨?_,?_,?_⟩,⟨?_,?_,?_⟩,⟨?_,?_,?_⟩,⟨?_,?_,?_⟩,⟨?_,?_,?_⟩,⟨?_,?_,?_⟩,⟨?_,?_,?_⟩,⟨?_,?_,?_⟩,⟨?_,?_,?_⟩,⟨?_,?_,?_⟩,⟨?_,?_,?_⟩,⟨?_,?_,?_⟩,⟨?_,?_,?_⟩,⟨?_,?_,?_⟩,⟨?_,?_,?_⟩,(qe ?_ (qe ?_ (qe ?_ (qe ?_ (qe ?_ (qe ?_ ub)))))),(qe ?_ (qe ?_ (qe ?_ (qe ?_ (qe ?_ (qe ?_ (qe ?_ (qe ?_ ub)))))))),(qe ?_ (qe ?_ (qe ?_ ub))),(qe ?_ (qe ?_ (qe ?_ ub))),(qe ?_ (qe ?_ (qe ?_ ub))),(qe ?_ (qe ?_ (qe ?_ (qe ?_ (qe ?_ ub))))),(qe ?_ (qe ?_ (qe ?_ ub))),(qe ?_ (qe ?_ (qe ?_ (qe ?_ ub)))),(qe ?_ (qe ?_ ub)),(qe ?_ (qe ?_ ub)),(qe ?_ (qe ?_ (qe ?_ (qe ?_ (qe ?_ (qe ?_ (qe ?_ (qe ?_ ub)))))))),GC,GC,PySem.W.mg_none_of KX G ?_,PySem.W.mg_none_of KX G ?_,PySem.W.mg_none_of KX G ?_,PySem.W.mg_none_of KX G ?_,PySem.W.mg_none_of KX G ?_,PySem.W.mg_none_of KX G ?_,PySem.W.mg_none_of KX G ?_,PySem.W.mg_none_of KX G ?_,PySem.W.mg_none_of KX G ?_,PySem.W.mg_none_of KX G ?_,PySem.W.mg_none_of KX G ?_,PySem.W.mg_none_of KX G ?_,PySem.W.mg_none_of KX G ?_,wV (PySem.W.mg_of KX G ?_),wV (PySem.W.mg_of KX G ?_),wV (PySem.W.mg_of KX G ?_),wV (PySem.W.mg_of KX G ?_),OA (PySem.W.mg_of KX G ?_) (uS (ss:=["all","turns"]) ?_ (.cons ⟨_,rfl⟩ (.cons ⟨_,rfl⟩ .nil)) (Nat.le_of_ble_eq_true rfl)),wV (PySem.W.mg_of KX G ?_),wV (PySem.W.mg_of KX G ?_),wV (PySem.W.mg_of KX G ?_),Sb (PySem.W.mg_of KX G ?_),OC (es:=[⟨_,.str "bar" _,.ref _⟩,⟨_,.str "shut" _,.ref _⟩,⟨_,.str "always" _,.ref _⟩,⟨_,.str "night" _,.ref _⟩,⟨_,.str "busy" _,.ref _⟩,⟨_,.str "silent" _,.ref _⟩,⟨_,.str "wait" _,.ref _⟩,⟨_,.str "breaks" _,.ref _⟩]) (PySem.W.mg_of KX G ?_) ?_ ?_ (.cons rfl ⟨_,rfl,(uS (ss:=["phone","names"]) ?_ (.cons ⟨_,rfl⟩ (.cons ⟨_,rfl⟩ .nil)) (Nat.le_of_ble_eq_true rfl))⟩ (.cons rfl ⟨_,rfl,(uS (ss:=["name","phones"]) ?_ (.cons ⟨_,rfl⟩ (.cons ⟨_,rfl⟩ .nil)) (Nat.le_of_ble_eq_true rfl))⟩ (.cons rfl ⟨_,rfl,(uS (ss:=["name","name"]) ?_ (.cons ⟨_,rfl⟩ (.cons ⟨_,rfl⟩ .nil)) (Nat.le_of_ble_eq_true rfl))⟩ (.cons rfl ⟨_,rfl,(uS (ss:=["name","name","hour","hour"]) ?_ (.cons ⟨_,rfl⟩ (.cons ⟨_,rfl⟩ (.cons ⟨_,rfl⟩ (.cons ⟨_,rfl⟩ .nil)))) (Nat.le_of_ble_eq_true rfl))⟩ (.cons rfl ⟨_,rfl,(uS (ss:=["name","name"]) ?_ (.cons ⟨_,rfl⟩ (.cons ⟨_,rfl⟩ .nil)) (Nat.le_of_ble_eq_true rfl))⟩ (.cons rfl ⟨_,rfl,(uS (ss:=["name","name","turns"]) ?_ (.cons ⟨_,rfl⟩ (.cons ⟨_,rfl⟩ (.cons ⟨_,rfl⟩ .nil))) (Nat.le_of_ble_eq_true rfl))⟩ (.cons rfl ⟨_,rfl,(uS (ss:=["phone"]) ?_ (.cons ⟨_,rfl⟩ .nil) (Nat.le_of_ble_eq_true rfl))⟩ (.cons rfl ⟨_,rfl,(uS (ss:=["phone"]) ?_ (.cons ⟨_,rfl⟩ .nil) (Nat.le_of_ble_eq_true rfl))⟩ .nil)))))))),wV (PySem.W.mg_of KX G ?_),wV (PySem.W.mg_of KX G ?_),wV (PySem.W.mg_of KX G ?_)⟩,λs u=>.of_eq rfl⟩
  all_goals try first|k_is|(intro _ _ _ _ _ _ us hl;rcases us with _|⟨_,_|⟨_,_|⟨_,_|⟨_,_|⟨_,_|⟨_,_|⟨_,us⟩⟩⟩⟩⟩⟩⟩<;>first|rfl|(exfalso;revert hl;simp;done))|rfl
