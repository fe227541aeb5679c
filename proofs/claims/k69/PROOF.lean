import PyProof.Rows.All
import Wide.All
import OpenK.AllK
import Wide.FinOn
import PyProof.EqAt
import PyProof.EqKinds
import PyProof.TupleCall
import PyProof.AttrMiss
import PyProof.IsiH_list
import PyProof.Rows.SetFrom
import KE.KDictOf
import KE.KTab
import PyProof.AutoListH
import KE.KSortTup
import KE.KItemsList
import KE.KEqDict
import KE.KIntText
import Lean
import PyProof.RulesRaise
import PyProof.RulesTry
import KE.KTryDeep
import KE.KTryMore
import KE.KTryOn
import KE.TryInHelper
import KE.TryLedger
import PyProof.ExcArgsOwn
import PyProof.ExcAttrAll.ValueError
import KE.KIsAll
import PyProof.ExcBaseAll.ValueError
import PyProof.InstStoreFacts
import PyProof.ExcInit
import PyProof.SeqI3
import PyProof.ConsumeWalk
import PySem.Challenge.RW_callboard_k69_whole_what_if_both_ways
set_option genInjectivity false
set_option genSizeOfSpec false
set_option genSizeOf false
set_option Elab.async false
set_option linter.all false
set_option maxRecDepth 100000
set_option maxHeartbeats 4000000
noncomputable section
open LawfulBEq renaming eq_of_beq->xz
open List renaming length_map->cT,getElem?_eq_getElem->cV,length_append->cW,getElem?_eq_some_iff->cX,mem_singleton->cZ,mem_cons->dg,getElem?_map->dv,size_toArray->dw,mem_cons_of_mem->dz,mem_cons_self->dC,length_singleton->dD,mem_map->dE,map_append->dF,mem_append->dG,length_nil->dH,mem_append_right->dO,not_mem_nil->dQ,nodup_cons->dR,length_range->dS,map_cons->dY,length_cons->d4,map_map->d6,nil_append->d9,mem_append_left->eC,all_eq_true->eD,lookup_cons->eF,append_nil->eG,replicate_succ->eI,nodup_nil->eJ,take_length->eM,getElem?_append_right->eX,mem_filter->eY,getElem?_append_left->eZ,mem_range->e9,length_take->fg,append_assoc->fh,mem_of_getElem?->fm,find?_cons->ft,cons_ne_nil->fu,length_pos_iff->fv,getD_eq_getElem?_getD->fB,getElem?_set_ne->fD,getElem?_set_self->fE,any_eq_true->fF,all_cons->fG,getElem?_eq_none->fK,length_filter_le->fL,flatten_cons->fS,take_add_one->fX,foldl_cons->fY,filterMap_cons->fZ,filter_sublist->gb,any_cons->gf,exists_cons_of_ne_nil->gg,length_modify->gh,mem_of_find?_eq_some->gi,filter_map->gk,mem_of_mem_take->gm,getElem?_mapIdx->gp,nodup_append->gq,length_eq_zero_iff->gu,map_congr_left->gw,length_drop->gx,getElem_mem->gy,filter_cons->gA,filter_nil->gF,getLast?_eq_none_iff->gK,getElem?_range->gO,getElem_of_mem->gP,filter_cons_of_pos->gQ,filter_cons_of_neg->gR,find?_eq_none->gU,filter_append->gW,take_of_length_le->gY,findIdx?_map->hU,ext_getElem?->hW,length_set->io,drop_eq_getElem_cons->iq,getElem?_zip_eq_some->ir,range_succ->iu,getLastD_eq_getLast?->iy,contains_cons->iE,length_mapIdx->iH,getElem?_cons_zero->iI,findIdx?_eq_some_iff_getElem->iM,findIdx_lt_length_of_exists->iO,length_replicate->iP,getElem?_toArray->iQ,map_nil->iU,any_map->iX,reverse_reverse->iY,mem_of_getLast?->iZ,dropLast_subset->i9,getElem?_modify->ja,map_id->jh,foldl_append->jr,reverse_cons->jt,filter_congr->ju,sublist_append_right->jz,pairwise_iff_getElem->jA,getLast?_eq_getElem?->jB,findIdx?_eq_none_iff->jC,getElem_inj->jD,all_map->jL,drop_length->jM,set_set->jN,eq_of_mem_replicate->jR,getElem?_replicate->jT,of_mem_zip->jW,forIn_cons->jX,range_succ_eq_map->j9,forIn_nil->kc,drop_zero->kl,set_append_right->ko,mem_of_mem_drop->kA,map_drop->kG,filter_eq_self->kM,modify_eq_self->kN,mem_filterMap->kS,getElem_range->lb,filter_filter->lh,set_cons_succ->lj,mapIdx_concat->lq,any_eq_false->ly,findIdx_cons->lG,getLast?_map->lH,zipIdx_cons->lU,getElem_map->lY,zipIdx_nil->ma,any_append->mf,find?_some->mh,map_take->mo,map_set->mz
open PySem renaming wpAny_bind->cU,wpAny_pure->dh,sizeLine_eq->dM,wpAny_mono->eh,wpAny_holding->eW,wpAny_field->fj,wpAny_truthy_bool->fk,wpAny_callSpecial?_slot->fN,wpAny_Call_Name_kw->fU,wpAny_call_entry->fV,wpAny_newObj_type->fW,wpAny_seqItems->gz,wpAny_setField_rec->gC,wpAny_passesOwn->gD,codeAny_mono->gL,mem_of_lookup->gN,wpAny_execs_nil->gS,wpAny_pyIter_list->g9,wpAny_loadPart_at->hJ,wpAny_setField->ic,wpAny_standAt->ik,codeAny_builtin->ip,wpAny_pyIter_tuple->iD,plainObj_wpAny_Assign_Attribute->iR,wpAny_call->iS,wpAny_updateSeq_pair->iV,isSubtype_type->jf,tupleKind_room_in1->ji,slot_dict_contains->jk,wpAny_onRaise->jo,wpAny_sequenceKey->jq,call_meets->jx,wpAny_execs_cons->jE,wpAny_typeOf->jG,wpAny_comprehension_free->jJ,wpAny_specialOf->jZ,builtinLookup_eq_fast->ke,getitemInPython_of_ne->kg,wpAny_rule->kt,codeAny_call_builtin->kx,wpAny_letTemporaryGo->ky,plainId_quiet->kE,wpAny_isSubtype_exc->kK,concat_meets->kT,seqIndex_neg->kW,wpAny_assign_Name->ls,wpAny_Assign_Name->lu,slot_list_getitem->lB,slot_dict_getitem->lC,wpAny_pyIter_enum->lD,seqIndex_of->lJ,wpAny_letGo->lK,wpAny_pyHash_str->lM,wpAny_eqBool_int->lN,wpAny_lookBehind->lO,pastItsLine_dict->lP,noFill_tuple_add->lR,wpAny_pyIter_zip->lW,wpAny_Name->lZ,typeIs_int->l0,Addr->Uf,sizeLine->Ch,wpAny->pi,model->Tk,starEach->Tl,Expr->zn,Heap->Go,bootBuiltins->No,eval->wp,compareOp->Op,keywordEach->Ps,attributeBase->Rs,mainGlobals->At,FuncData->Ix,backTo->sB,holding->ZB,Stmt->TD,IsPair->wE,swapsWith->sK,backToKw->IN,assignEach->wP,binaryOp->wS,NameKind->wT,behindInMarks->AT,foldedSetIterable->XV,sysModules->TW,getMethod->o0,ExcBaseFacts->u8,rawInt->Y',cLine->XXa,excClassObj->XXb,standAt->XXc,Scope->XXd,Keyword->XXe,getItem->XXf,sliceBounds->XXg,callWith->XXh,letOwnedTupleGo->XXi,codeAny->XXj,scanBound->XXk,IsZip->XYa,Operator->XYc
def cY:=@if_neg
def de:=@if_pos
def dX:=@decide_eq_true
def eA:=@decide_eq_true_eq
def eE:=@congrArg
def eN:=@beq_self_eq_true
def eP:=@beq_iff_eq
def eQ:=@decide_eq_false
def fP:=@or_false
def fT:=@of_decide_eq_true
def gv:=@beq_eq_false_iff_ne
def ib:=@not_or
def je:=@if_true
def kr:=@if_false
def lF:=@bne_self_eq_false
open PySem.Heap renaming get?_push_of_some->c9,lt_size->dB,get?_push_size->dJ,get?_update_self->fJ,size_push->fR,get?_update_other->gc,get?_none_of_le->gJ,get?_push_ne->iL,size_update->iN,get?_update_ne->jc
open Option.some renaming inj->df,injEq->js
open Nat renaming le_refl->dq,ne_of_lt->dN,lt_of_lt_of_le->dP,le_trans->dZ,zero_le->eK,lt_irrefl->eV,lt_succ_self->fO,lt_succ_of_lt->gH,le_succ->gX,le_of_lt->hZ,ne_of_gt->h9,sub_self->ie,succ_le_succ->ii,min_eq_left->iw,lt_trans->iA,lt_of_le_of_lt->iG,le_succ_of_le->jv,le_of_not_lt->jI,mul_le_mul->kh,sub_zero->kX,zero_add->kY,le_of_eq->mv,succ_mul->mx,min_self->my,succ_pos->mB
open Bool renaming false_ne_true->dA,eq_false_iff->dI,and_eq_true->dU,true_and->eL,false_and->eU,eq_iff_iff->fM,false_or->fQ,or_eq_true->gj,not_eq_true'->gI,true_or->ia,beq_comm->jp,not_eq_false->jw,or_true->jQ,or_false->kD,false_eq_true->k9,true->Db,false->pc
open Ne renaming symm->dW
open Int renaming eq_ofNat_of_zero_le->eB,emod_lt_of_pos->eO,emod_nonneg->eR,toNat_natCast->gZ,mul_le_mul_of_nonneg_left->jb,zero_add->jS,emod_add_mul_ediv->km
open PySem.PassesOwn renaming never->fi
open PyProof.Rows renaming callWith_type1->fz,slot_tuple_getitem->fA,callWith_builtin1->gT,SetOf_congr->jK,subscriptTail_builtinR->j6,listUpdate_at->kF,entry_tuple_getitem->kH,args_tuple_getitem->kU,seqEpoch_at->lL,size_push'->me,seqObj->dL,envOfC->xL,AllBare->XYb
open List.cons renaming inj->fC
open Option renaming isSome_iff_exists->fH,isSome_map->iK,map_some->jY,map_eq_some_iff->j8,getD_none->lT,bind_some->lX,some->ga,none->Fa
open PyProof.Rows.F renaming plain_set_update_loop->gB,entry_set_update_loop->iC
open PySem.F renaming slot_tuple_iterator_next->gG,called_set->gM,slot_list_getattribute->iB,slot_zip_next->iW,args_tuple_iterator_next_1->jg,entry_tuple_iterator_next->jl,slot_dict_getitem->jy,args_tuple_add_2->jF,store_ValueError->jP,entry_tuple_add->jU,slot_dict_items->jV,slot_tuple_add->j5,excBase_ValueError->kz,args_zip_next_1->lE,entry_zip_next->lV,slot_int_rmul->l8
open PySem.Around renaming under_plainId->ig
open Array renaming getElem?_setIfInBounds_self_of_lt->il,length_toList->im,toList_append->jd,size_setIfInBounds->jO,mem_toList_iff->kq,append_assoc->kQ
open PySem.Calls renaming spliced_cons->iz,spliced_nil->iJ,Name_function_global->jn,callWith_builtin->j7
open List.Nodup renaming sublist->iF
open PySem.W renaming callWith_K->iT,methodCall_KW->j3,plainGet_of->kB,looks_clsIn->kC,cellsFrom_some->lQ,looks_findIn->mi
open PySem.Code renaming quiet_builtin->jj
open PySem.Paired renaming length->jm,snoc->mD
open Sum.inr renaming inj->j4
open PySem.Walks renaming list->ku
open PySem.Heap.SameBut renaming update->kI
open PySem.SeqAt.EqAt renaming int_str->kO,str_int->kP
open PySem.Obj renaming data_mapFields->kZ
open PySem.Heap.Ns1 renaming of_empty->lA
open Eq renaming symm->mj
open PySem.W.Looks renaming here->mq
open Prod renaming ext->mw
open PySem.Heap.FunFrames renaming of_keeps->mC
open PySem.Moved renaming trans->mE
open PySem.Heap.IsSliceOf renaming new->mF
abbrev qE:=PySem.W.Frag
local macro_rules | `(tactic| walk_at "l") => `(tactic| (intro _ _ _ h; repeat (first | (obtain ⟨e, _⟩ := h; subst e; rfl; done) | (cases h; rename_i h))))
local macro_rules | `(tactic| walk_at "m") => `(tactic| (intro _ _ _ _ h; repeat (first | (obtain ⟨e, _⟩ := h; subst e; rfl; done) | (cases h; rename_i h))))
abbrev Vl:=PySem.Value
abbrev Sd:=PySem.Shared
abbrev Pg:=PySem.Program
abbrev Ar:=PySem.Around
theorem Z'{α:Sort _}{a:α}:a=a:=rfl
abbrev Wo:=PySem.World
abbrev T0(α:Type _):=List α
abbrev QQQ:=List PySem.Str
abbrev QQX:=PySem.Value->PySem.Shared->Prop
abbrev QQY:=List (PySem.Addr×PySem.Obj)
abbrev QQZ:=PySem.Str->Option PySem.Value
abbrev QXQ:=List PySem.Addr
section
open PySem PySem.Spec PyProof.Rows
namespace L2
def x5{α:Sort u}{β:Sort v}{p q r:α->β->Prop}{C:Prop}(h:∃a b,p a b/\q a b/\r a b)(f:∀a b,p a b->q a b->r a b->C):C:=by obtain⟨a,b,h1,h2,h3⟩:=h;exact f a b h1 h2 h3
abbrev rD:=Sum Int Str
noncomputable def Cm:rD->Vl->Bool
 | .inl k,v=>Value.isInt k v
 | .inr x,v=>Value.isStrOf x v
noncomputable def X3(w:Wo):rD->Int
 | .inl k=>hashInt k
 | .inr x=>hashStr w x
def sD:∀{k:rD} {v:Vl},Cm k v=Db->(∃i t,k=Sum.inl i/\v=Value.int i t)\/(∃x t,k=Sum.inr x/\v=Value.str x t)
 | .inl i,v,h=>by obtain⟨t,e⟩:=Value.isInt_shape (k:=i) (v:=v) h;exact .inl ⟨i,t,Z',e⟩
 | .inr x,v,h=>by obtain⟨t,e⟩:=Value.isStrOf_shape (x:=x) (v:=v) h;exact .inr ⟨x,t,Z',e⟩
def K8(i:Int)(t:Tok):Cm (.inl i) (.int i t)=Db:=by simp[Cm,Value.isInt]
def LI(x:Str)(t:Tok):Cm (.inr x) (.str x t)=Db:=by simp[Cm,Value.isStrOf]
def TJ(a b:Int):decide ((Sum.inl a:rD)=Sum.inl b)=(a==b):=by
 by_cases e:a=b
 .subst e;simp
 .have h:¬(Sum.inl a:rD)=Sum.inl b:=λq=>e (Sum.inl.inj q);rw[eQ h];exact(gv.mpr e).symm
def Tv(a b:Str):decide ((Sum.inr a:rD)=Sum.inr b)=decide (a=b):=by
 by_cases e:a=b
 .subst e;simp
 .have h:¬(Sum.inr a:rD)=Sum.inr b:=λq=>e (j4 q);rw[eQ h,eQ e]
def Va(a:Int)(b:Str):decide ((Sum.inl a:rD)=Sum.inr b)=pc:=eQ (λq=>nomatch q)
def SY(a:Str)(b:Int):decide ((Sum.inr a:rD)=Sum.inl b)=pc:=eQ (λq=>nomatch q)
noncomputable def rQ(prog:Pg)(w:Wo):PySem.KeyKind prog w rD where
 is:=Cm
 hash:=X3 w
 inj:=λv a b ha hb=>by
  rcases sD ha with⟨i,t,rfl,rfl⟩|⟨x,t,rfl,rfl⟩
  .rcases sD hb with⟨j,u,rfl,e⟩|⟨y,u,rfl,e⟩
   .injection e with e1 _;rw[e1]
   .exact nomatch e
  .rcases sD hb with⟨j,u,rfl,e⟩|⟨y,u,rfl,e⟩
   .exact nomatch e
   .injection e with e1 _;rw[e1]
 byValue:=λk v h=>by rcases sD h with⟨i,t,rfl,rfl⟩|⟨x,t,rfl,rfl⟩<;>rfl
 pyHash:=λhv h=>by
  rcases sD hv with⟨i,t,rfl,rfl⟩|⟨x,t,rfl,rfl⟩
  .exact wpAny_pyHash_int h
  .exact lM h
 eqBool:=λhu hv h=>by
  rcases sD hu with⟨i,t,rfl,rfl⟩|⟨x,t,rfl,rfl⟩
  .rcases sD hv with⟨j,u,rfl,rfl⟩|⟨y,u,rfl,rfl⟩
   .rw[TJ]at h;exact lN h
   .rw[Va]at h;exact kO i t y u _ _ _ _ h
  .rcases sD hv with⟨j,u,rfl,rfl⟩|⟨y,u,rfl,rfl⟩
   .rw[SY]at h;exact kP x t j u _ _ _ _ h
   .rw[Tv]at h;exact wpAny_eqBool_str h
 «strs»:=λk x t v h=>by
  rcases sD h with⟨i,u,rfl,e⟩|⟨y,u,rfl,e⟩
  .exact nomatch e
  .injection e with e1 _
   subst e1;cases v<;>rfl
def Hn(prog:Pg)(w:Wo)(i:Int)(t:Tok):(rQ prog w).is (.inl i) (.int i t)=Db:=K8 i t
def Be(prog:Pg)(w:Wo)(x:Str)(t:Tok):(rQ prog w).is (.inr x) (.str x t)=Db:=LI x t
inductive V where
 | mM|bl (b:Bool)|int (i:Int)|str (x:Str)|byt (b:Array UInt8)|flt (b:UInt64)|ref (a:Uf)|ty (n:String)
 deriving DecidableEq
def rj:V->Vl->Prop
 | .mM,u=>u=Value.none
 | .bl b,u=>u=Value.bool b
 | .int i,u=>∃t,u=Value.int i t
 | .str x,u=>∃t,u=Value.str x t
 | .byt b,u=>∃t,u=Value.bytes b t
 | .flt b,u=>∃t,u=Value.float b t
 | .ref a,u=>u=Value.ref a
 | .ty n,u=>u=Value.type n
abbrev qK:T0 V->T0 Vl->Prop:=Paired rj
def qK.length(r:qK xs us):xs.length=us.length:=jm r
theorem qK.get:∀{xs:T0 V} {us:T0 Vl} {i:Nat} {x:V},qK xs us->xs[i]?=ga x->∃u,us[i]?=ga u/\rj x u
 | _,_,_,_,.nil,e=>by simp at e
 | _,_,0,_,.cons r _,e=>by simp at e;subst e;exact⟨_,Z',r⟩
 | _,_,i+1,x,.cons _ t,e=>by obtain⟨u,h1,h2⟩:=qK.get (i:=i) (x:=x) t (by simpa using e);exact⟨u,by simpa using h1,h2⟩
theorem qK.set(r:rj x u):∀{xs:T0 V} {us:T0 Vl} (i:Nat),qK xs us->qK (xs.set i x) (us.set i u)
 | _,_,_,.nil=>.nil
 | _,_,0,.cons _ t=>.cons r t
 | _,_,i+1,.cons q t=>.cons q (qK.set r i t)
theorem qK.append:∀{xs ys:T0 V} {us ws:T0 Vl},qK xs us->qK ys ws->qK (xs++ys) (us++ws)
 | _,_,_,_,.nil,s=>s
 | _,_,_,_,.cons r t,s=>.cons r (qK.append t s)
theorem qK.take:∀{xs:T0 V} {us:T0 Vl} (n:Nat),qK xs us->qK (xs.take n) (us.take n)
 | _,_,0,_=>.nil
 | _,_,_+1,.nil=>.nil
 | _,_,n+1,.cons r t=>.cons r (qK.take n t)
theorem qK.drop:∀{xs:T0 V} {us:T0 Vl} (n:Nat),qK xs us->qK (xs.drop n) (us.drop n)
 | _,_,0,r=>r
 | _,_,_+1,.nil=>.nil
 | _,_,n+1,.cons _ t=>qK.drop n t
def yQ:Option V->Option Vl->Prop
 | some v,ga u=>rj v u
 | none,none=>True
 | _,_=>False
def KV{κ:Type}:T0 (κ×V)->T0 (κ×Vl)->Prop:=Paired λ(p:κ×V) (q:κ×Vl)=>p.1=q.1/\rj p.2 q.2
noncomputable def kV:rD->V
 | .inl i=>.int i
 | .inr x=>.str x
inductive HO where
 | lst (xs:List V)
 | tup (xs:List V)
 | dK (kvs:List (rD×V))|dT (kvs:List (List rD×V))
 | set (S:Int->Bool) (n:Nat)
 | ins (C dx:Uf) (fs:List (Str×V))
 | own (x:Uf)
 | xd (fs:List (Str×V))
 | met (f x:Uf)
 | rng (lo hi:Int)
 | frz (o:Obj) (u:HO)
 | tbl (ps:Array Vl)
 | ext (φ:Go->Prop)
abbrev Hp:=Uf->Option HO
noncomputable def upd(H:Hp)(a:Uf)(o:HO):Hp:=λb=>if b=a then ga o else H b
def qz:upd H a o a=ga o:=by unfold upd;rw[de Z']
def qo{a b:Uf}(h:b≠a):upd H a o b=H b:=by unfold upd;rw[cY h]
def PL:upd (upd H a o) a u=upd H a u:=by funext b;unfold upd;split<;>rfl
def WT{H:Hp}{a b:Uf}{o u:HO}(h:H a=ga o)(h':H b=ga u)(d:o≠u):a≠b:=by intro e;subst e;rw[h]at h';exact d (df h')
def rm{H:Hp}{a b:Uf}{o:HO}(h:H a=ga o)(h':H b=Fa):a≠b:=by intro e;subst e;rw[h]at h';cases h'
section
variable (P:Pg)(w:Wo)
def FI(h:Go)(a:Uf)(its:Array Vl):Prop:=∃o,h.get? a=ga o/\o.cls=.type "tuple"/\(∃n,o.data=.seq its n)/\o.dict=Fa
def tN(H:Hp)(h:Go)(a:Uf):HO->Prop
 | .lst xs=>xs.length<=Ch/\∃(its:T0 Vl) (n:Nat),qK xs its/\h.get? a=ga {cls:=.type "list",data:=.seq its.toArray n}
 | .tup xs=>xs.length<=Ch/\∃its:T0 Vl,qK xs its/\FI h a its.toArray
 | .dK kvs=>kvs.length<=Ch/\(a==TW)=pc/\∃vs,KV kvs vs/\h.DictOf (rQ P w) a vs
 | .dT kvs=>kvs.length<=Ch/\(a==TW)=pc/\∃xs:T0 (List rD×Uf×Vl),Paired (λ(p:List rD×V) (q:List rD×Uf×Vl)=>p.1=q.1/\H q.2.1=ga (.tup (p.1.map kV))/\rj p.2 q.2.2) kvs xs/\
   ∃o es ep,h.get? a=ga o/\o.ExactDict/\o.data=.dict es ep/\es.toList=xs.map (entryOfKey (tupleKind (rQ P w)))/\(xs.map (·.1)).Nodup
 | .set S n=>h.SetOf (intKind P w) a S n
 | .ins C dx fs=>H dx=ga (.own a)/\fs.length<=1000/\dx≠a/\h.get? a=ga (W.instObj C dx)/\
   ∃mA,h.Ns1 dx mA/\(∀f,yQ (fs.lookup f) (mA f))/\PySem.Within mA (fs.map (·.1))
 | .own _=>∃o,h.get? a=ga o
 | .xd fs=>∃mA,h.Ns1 a mA/\∀f,yQ (fs.lookup f) (mA f)
 | .rng lo hi=>∃t u v,h.get? a=ga {cls:=.type "range",data:=.fields #[.int lo t,.int hi u,.int 1 v]}
 | .frz o u=>h.get? a=ga o/\tN H h a u
 | .tbl ps=>h.get? a=ga {cls:=.none,data:=.fields ps}
 | .met f x=>h.get? a=ga (W.methodObj (.ref f) (.ref x))
 | .ext φ=>φ h/\(∃o,h.get? a=ga o)/\∀h1 h2:Go,φ h1->(∀o,h1.get? a=ga o->h2.get? a=ga o)->φ h2
def yR(H:Hp)(h:Go):Prop:=∀a o,H a=ga o->tN P w H h a o
end
variable {H H':Hp}{h h':Go}
section
variable {P:Pg}{w:Wo}{a:Uf}{o:HO}
def FI.is(x:FI h a its):IsTup h a its:=let⟨o,e,c,d,_⟩:=x;⟨o,e,c,d⟩
def FI.new(h:Go)(YM:Array Vl):FI (h.push {cls:=.type "tuple",data:=.seq YM}) h.objs.size YM:=⟨_,dJ _ Z',Z',⟨_,Z'⟩,Z'⟩
def tN.lt(x:tN P w H h a o):a<h.objs.size:=by
 cases o with
 | lst xs=>obtain⟨_,_,_,_,e⟩:=x;exact dB e
 | tup xs=>obtain⟨_,_,_,_,e,_⟩:=x;exact dB e
 | dK kvs=>obtain⟨_,_,_,_,o,_,_,e,_⟩:=x;exact dB e
 | dT kvs=>obtain⟨_,_,_,_,o,_,_,e,_⟩:=x;exact dB e
 | set S n=>obtain⟨o,_,_,_,e,_⟩:=x;exact dB e
 | ins C dx fs=>obtain⟨_,_,_,e,_⟩:=x;exact dB e
 | own y=>obtain⟨_,e⟩:=x;exact dB e
 | xd fs=>obtain⟨_,⟨_,_,_,e,_⟩,_⟩:=x;exact dB e
 | rng lo hi=>obtain⟨_,_,_,e⟩:=x;exact dB e
 | frz ob u=>obtain⟨e,_⟩:=x;exact dB e
 | tbl ps=>exact dB (show h.get? a=ga _ from x)
 | met f y=>exact dB (show h.get? a=ga _ from x)
 | ext φ=>obtain⟨_,⟨_,e⟩,_⟩:=x;exact dB e
theorem Paired.oJ{α β:Type}{F G:α->β->Prop}:∀{l₁:List α} {l₂:List β},Paired F l₁ l₂->(∀a b,F a b->G a b)->Paired G l₁ l₂
 | _,_,.nil,_=>.nil
 | _,_,.cons r t,f=>.cons (f _ _ r) (Paired.oJ t f)
def tN.nu(x:tN P w H h a o)(k:∀b u,(b=a\/H b=ga (.own a))->h.get? b=ga u->h'.get? b=ga u) (ho:∀b,H b=ga (.own a)->H' b=ga (.own a)) (ht:∀b xs,H b=ga (.tup xs)->H' b=ga (.tup xs)):tN P w H' h' a o:=by
 induction o with
 | lst xs=>obtain⟨z,its,n,r,e⟩:=x;exact⟨z,its,n,r,k _ _ (.inl Z') e⟩
 | tup xs=>obtain⟨z,its,r,ob,e,c⟩:=x;exact⟨z,its,r,ob,k _ _ (.inl Z') e,c⟩
 | dK kvs=>obtain⟨z,y,vs,r,ob,es,ep,e,c⟩:=x;exact⟨z,y,vs,r,ob,es,ep,k _ _ (.inl Z') e,c⟩
 | dT kvs=>obtain⟨z,y,xs,r,ob,es,ep,e,c⟩:=x;exact⟨z,y,xs,Paired.oJ r λp q z=>⟨z.1,ht _ _ z.2.1,z.2.2⟩,ob,es,ep,k _ _ (.inl Z') e,c⟩
 | set S n=>obtain⟨ob,es,ep,t,e,c⟩:=x;exact⟨ob,es,ep,t,k _ _ (.inl Z') e,c⟩
 | ins C dx fs=>obtain⟨d,z,ne,e,mA,⟨od,es,ep,e2,c⟩,r⟩:=x;exact⟨ho _ d,z,ne,k _ _ (.inl Z') e,mA,⟨od,es,ep,k _ _ (.inr d) e2,c⟩,r⟩
 | own y=>obtain⟨ob,e⟩:=x;exact⟨ob,k _ _ (.inl Z') e⟩
 | xd fs=>obtain⟨mA,⟨od,es,ep,e,c⟩,r⟩:=x;exact⟨mA,⟨od,es,ep,k _ _ (.inl Z') e,c⟩,r⟩
 | rng lo hi=>obtain⟨t,u,v,e⟩:=x;exact⟨t,u,v,k _ _ (.inl Z') e⟩
 | frz ob u ih=>obtain⟨e,q⟩:=x;exact⟨k _ _ (.inl Z') e,ih q⟩
 | tbl ps=>have e:h.get? a=ga {cls:=.none,data:=.fields ps}:=x;show h'.get? a=ga {cls:=.none,data:=.fields ps};exact k a _ (.inl Z') e
 | met f y=>have e:h.get? a=ga (W.methodObj (.ref f) (.ref y)):=x;show h'.get? a=ga (W.methodObj (.ref f) (.ref y));exact k a _ (.inl Z') e
 | ext φ=>obtain⟨p,⟨o,e⟩,st⟩:=x;exact⟨st _ _ p λo q=>k _ _ (.inl Z') q,⟨o,k _ _ (.inl Z') e⟩,st⟩
def yR.lt(x:yR P w H h)(e:H a=ga o):a<h.objs.size:=(x a o e).lt
def yR.fresh(x:yR P w H h)(e:h.objs.size<=a):H a=Fa:=by
 cases q:H a with
 | none=>rfl
 | some u=>exact absurd (dP (x.lt q) e) (eV _)
def yR.kept(x:yR P w H h)(k:∀b u,h.get? b=ga u->h'.get? b=ga u):yR P w H h':=λa o e=>(x a o e).nu (λb u _ q=>k b u q) (λ_ q=>q) λ_ _ q=>q
def yR.laid(x:yR P w H h)(k:∀b u,h.get? b=ga u->h'.get? b=ga u)(hp:h.objs.size<=a)(new:tN P w (upd H a o) h' a o):yR P w (upd H a o) h':=λb u e=>by
 have hn:=x.fresh hp;by_cases hb:b=a
 .subst hb;rw[qz]at e;cases e;exact new
 .rw[qo hb]at e;exact(x b u e).nu (λc v _ q=>k c v q) (λc q=>by rw[qo (rm q hn)];exact q) λc xs q=>by rw[qo (rm q hn)];exact q
end
def Rd(H:Hp)(a:Uf)(u:HO):Prop:=H a=ga u\/∃o,H a=ga (.frz o u)
def Rd.ok(r:Rd H a u)(x:yR P w H h):tN P w H h a u:=by
 rcases r with r|⟨o,r⟩
 .exact x a u r
 .obtain⟨_,q⟩:=x a _ r;exact q
def VW:Option HO->Prop
 | some (.lst _)=>True
 | some (.dK _)=>True
 | some (.dT _)=>True
 | some (.set _ _)=>True
 | some (.ins _ _ _)=>True
 | some (.ext _)=>True
 | _=>False
variable {o':HO}
section
variable {P:Pg}{w:Wo}{x e:Uf}
def yR.write(ok:yR P w H h)(mu:VW (H x))(he:e=x\/H e=ga (.own x))(k:∀b u,b≠e->h.get? b=ga u->h'.get? b=ga u)(heo:∃u,h'.get? e=ga u) (new:tN P w (upd H x o') h' x o'):yR P w (upd H x o') h':=λb u q=>by
 have nown:∀c y,H c=ga (.own y)->c≠x:=λc y r z=>by subst z;rw[r]at mu;exact mu
 have ntup:∀c xs,H c=ga (.tup xs)->c≠x:=λc xs r z=>by subst z;rw[r]at mu;exact mu
 by_cases hb:b=x
 .subst hb;rw[qz]at q;cases q;exact new
 .rw[qo hb]at q;by_cases hbe:b=e
  .have q':H b=ga (.own x):=by
    rcases he with z|z
    .exact absurd (hbe.trans z) hb
    .rw[hbe];exact z
   rw[q]at q';cases q';obtain⟨v,hv⟩:=heo;exact⟨v,by rw[hbe];exact hv⟩
  .refine(ok b u q).nu (λc v hc r=>k c v ?_ r) (λc r=>by rw[qo (nown c b r)];exact r) λc xs r=>by rw[qo (ntup c xs r)];exact r
   rcases hc with rfl|hc
   .exact hbe
   .rintro rfl
    rcases he with z|z
    .exact nown c b hc z
    .rw[hc]at z;cases z;exact hb Z'
end
structure Un(fs ex:QXQ)(H H':Hp)(h h':Go):Prop where
 keep:∀b o,h.get? b=ga o->H b=Fa->b∉fs->b∉ex->h'.get? b=ga o
 slot:∀b o,h.get? b=ga o->H b=Fa->b∈fs->b∉ex->∃sl,h'.get? b=ga {o with slots:=sl}
 free:∀b o,h.get? b=ga o->H b=Fa->b∉ex->H' b=Fa
 there:∀b o,h.get? b=ga o->b∉ex->∃o',h'.get? b=ga o'
 nF:∀b xs,H b=ga (.tup xs)->H' b=ga (.tup xs)
 nB:∀b o u,H b=ga (.frz o u)->H' b=ga (.frz o u)
 nL:∀b ps,H b=ga (.tbl ps)->∃more,H' b=ga (.tbl (ps++more))
variable {ex ex':QXQ}{H1 H2:Hp}{h1 h2:Go}
section
variable {fs fs':QXQ}{a x e:Uf}{o:HO}
def Un.any(u:Un fs ex H H1 h h1){b:Uf}{ob:Obj}(q:h.get? b=ga ob)(n:H b=Fa)(hx:b∉ex):∃sl,h1.get? b=ga {ob with slots:=sl}:=by
 by_cases hb:b∈fs
 .exact u.slot b ob q n hb hx
 .exact⟨ob.slots,u.keep b ob q n hb hx⟩
def Un.trans(a:Un fs ex H H1 h h1)(b:Un fs ex H1 H2 h1 h2):Un fs ex H H2 h h2 where
 keep:=λc ob q n hc hx=>b.keep c ob (a.keep c ob q n hc hx) (a.free c ob q n hx) hc hx
 slot:=λc ob q n hc hx=>by obtain⟨sl,e1⟩:=a.slot c ob q n hc hx;obtain⟨sl',e2⟩:=b.slot c _ e1 (a.free c ob q n hx) hc hx;exact⟨sl',e2⟩
 free:=λc ob q n hx=>by obtain⟨o',e1⟩:=a.there c ob q hx;exact b.free c o' e1 (a.free c ob q n hx) hx
 there:=λc ob q hx=>by obtain⟨o',e1⟩:=a.there c ob q hx;exact b.there c o' e1 hx
 nF:=λc xs q=>b.nF c xs (a.nF c xs q)
 nB:=λc ob xs q=>b.nB c ob xs (a.nB c ob xs q)
 nL:=λc ps q=>by obtain⟨m1,e1⟩:=a.nL c ps q;obtain⟨m2,e2⟩:=b.nL c _ e1;exact⟨m1++m2,by rw[e2,kQ]⟩
def Un.kept(k:∀b u,h.get? b=ga u->h'.get? b=ga u):Un fs ex H H h h':=
 ⟨λb ob q _ _ _=>k b ob q,λb ob q _ _ _=>⟨ob.slots,k b ob q⟩,λ_ _ _ n _=>n,λb ob q _=>⟨ob,k b ob q⟩,λ_ _ q=>q,λ_ _ _ q=>q,λ_ ps q=>⟨#[],by rw[q];simp⟩⟩
def Un.refl:Un fs ex H H h h:=Un.kept λ_ _ q=>q
def Un.laid(k:∀b u,h.get? b=ga u->h'.get? b=ga u)(hp:h.objs.size<=a)(hn:H a=Fa):Un fs ex H (upd H a o) h h' where
 keep:=λb u q _ _ _=>k b u q
 slot:=λb u q _ _ _=>⟨u.slots,k b u q⟩
 free:=λb u q n _=>by rw[qo (dN (dP (dB q) hp))];exact n
 there:=λb u q _=>⟨u,k b u q⟩
 nF:=λb xs q=>by rw[qo (rm q hn)];exact q
 nB:=λb u xs q=>by rw[qo (rm q hn)];exact q
 nL:=λb ps q=>⟨#[],by rw[qo (rm q hn),q];simp⟩
def Un.write(mu:VW (H x))(he:e=x\/H e=ga (.own x))(k:∀b u,b≠e->h.get? b=ga u->h'.get? b=ga u)(heo:∃u,h'.get? e=ga u):Un fs ex H (upd H x o) h h':=by
 have hx:∀b,H b=Fa->b≠x:=λb n z=>by subst z;rw[n]at mu;exact mu
 have hb:∀b,H b=Fa->b≠e:=λb n z=>by
  subst z;rcases he with r|r
  .exact hx b n r
  .rw[n]at r;cases r
 have hm:∀b u,H b=ga u->¬VW (ga u)->b≠x:=λb u q nm z=>by subst z;rw[q]at mu;exact nm mu
 refine⟨λb u q n _ _=>k b u (hb b n) q,λb u q n _ _=>⟨u.slots,k b u (hb b n) q⟩,λb u q n _=>by rw[qo (hx b n)];exact n,λb u q _=>?_,λb xs q=>by rw[qo (hm b _ q λz=>z)];exact q,λb u xs q=>by rw[qo (hm b _ q λz=>z)];exact q,λb ps q=>⟨#[],by rw[qo (hm b _ q λz=>z),q];simp⟩⟩
 by_cases hbe:b=e
 .subst hbe;exact heo
 .exact⟨u,k b u hbe q⟩
end
noncomputable def Xa(h:Go)(H:Hp):QXQ:=(List.range h.objs.size).filter λa=>(H a).isSome
noncomputable def FM(h:Go)(H:Hp):Go:=W.hideAll h (Xa h H)
def KP(h:Go)(H:Hp):(FM h H).objs.size=h.objs.size:=W.hideAll_size _ _
def Mi{h:Go}{H:Hp}{b:Uf}{o:Obj}(e:h.get? b=ga o)(n:H b=Fa):(FM h H).get? b=ga o:=
 W.hideAll_get _ e λhm=>by have q:(H b).isSome=Db:=(eY.mp hm).2;rw[n]at q;simp at q
def Ra{b:Uf}{o:Obj}(e:(FM h H).get? b=ga o):h.get? b=ga o/\H b=Fa:=by
 have e':h.get? b=ga o:=W.of_hideAll (Xa h H) e;refine⟨e',?_⟩;cases q:H b with
 | none=>rfl
 | some x=>have hm:b∈Xa h H:=eY.mpr ⟨e9.mpr (dB e'),by simp[q]⟩;have z:(FM h H).get? b=Fa:=W.hideAll_none (Xa h H) hm;rw[z]at e;cases e
structure Mod(K:qE)(mg:QQZ)(base:Go):Prop where
 oz:K.In base
 glob:base.Ns At mg
 blt:∃mb,base.Ns builtinsNs mb/\∀x:Str,x≠"__name__"->mb x=No x
 nolimit:base.NoLimit
structure Cx where
 prog:Pg
 w:Wo
 K:qE
 mg:QQZ
 base:Go
 A:Ar
 N:QQQ
 s₀:Sd
 H₀:Hp
 env:Env
 outer:List Env
 stack:List Env
 ex:QXQ
 fn:Str->Bool
 calm:Bool
 pn:QQY
 xe:QQX
abbrev Bt(X:Cx)(e:zn)(es:T0 zn):Prop:=Tl (e::es) X.env=(pc,wp e X.env)::Tl es X.env
abbrev C5(X:Cx)(p:Pos)(es:T0 zn):Prop:=(sB p (Tl es X.env)).any (·.1)=pc
abbrev Ab(x:Str):Prop:=(x==("__debug__":Str))=pc
abbrev L9(X:Cx)(x:Str):Prop:=X.fn x=Db\/X.env.scope.names.lookup x=ga .local
noncomputable def xb(l:T0 Env):QXQ:=l.filterMap (·.frame)
abbrev Cx.fs(X:Cx):QXQ:=xb X.outer
def Wa(sc:XXd)(x:Str):Prop:=sc.names.lookup x=ga .local\/sc.names.lookup x=ga .cell\/sc.names.lookup x=ga .free
def Ma(sc:XXd)(x:Str):Prop:=sc.names.lookup x=ga .local\/sc.names.lookup x=ga .cell
def XU(env:Env)(h:Go)(m:QQZ)(x:Str)(u:Vl):Prop:=
 (env.kindOf x=ga .local/\m x=ga u)\/((env.kindOf x=ga .cell\/env.kindOf x=ga .free)/\∃c,env.cells.lookup x=ga c/\h.IsCell c (ga u))
structure Cx.Ok(X:Cx):Prop where
 mod:Mod X.K X.mg X.base
 kind:X.env.scope.kind=.function
 glob:X.env.globals=At
 blt:X.env.builtins=builtinsNs
 above:X.s₀.heap.objs.size<=X.env.locals
 inj:∀x y c,X.env.cells.lookup x=ga c->X.env.cells.lookup y=ga c->x=y
 has:∀x,(X.env.kindOf x=ga .cell\/X.env.kindOf x=ga .free)->∃c,X.env.cells.lookup x=ga c
 oE:∀x c,X.fn x=Db->X.env.cells.lookup x=ga c->X.s₀.heap.objs.size<=c
 hd:X.calm=Db->X.A.handled=Fa
 frames:X.A.frames=ga X.stack
 oV:X.stack=X.outer\/(X.stack=X.env::X.outer/\X.env.frame=ga X.env.locals)
 pA:∀b∈X.ex,b≠X.env.locals/\∀x c,X.env.cells.lookup x=ga c->c≠b
 bs:∀b o,X.base.get? b=ga o->X.s₀.heap.get? b=ga o/\X.H₀ b=Fa
 n9:X.base.objs.size<=X.s₀.heap.objs.size
 nQ:∀b o,X.base.get? b=ga o->b∉X.ex
 nY:∀b∈X.ex,b∉X.fs
 ny:X.s₀.heap.FunFrames X.base X.outer
 oB:∀b∈X.fs,X.H₀ b=Fa
structure Inv(X:Cx)(YL:QQY)(Y:List (Option V))(H:Hp)(s:Sd):Prop where
 ok:X.Ok
 os:s.os=X.s₀.os
 bare:XYb s.gens
 base:Un X.fs X.ex X.H₀ H X.s₀.heap s.heap
 loc:∃m,s.heap.Ns X.env.locals m/\∀(i:Nat) (x:Str) (v:V),X.N[i]?=ga x->Y[i]?=ga (ga v)->Wa X.env.scope x->∃u,rj v u/\XU X.env s.heap m x u
 cell:∀x c,X.env.cells.lookup x=ga c->∃v,s.heap.IsCell c v
 free:H X.env.locals=Fa
 mY:∀x c,X.env.cells.lookup x=ga c->H c=Fa
 pin:∀p∈X.pn++YL,s.heap.get? p.1=ga p.2/\H p.1=Fa/\p.1≠X.env.locals/\p.1∉X.fs/\∀v,p.2.data≠.cell v
 mR:yR X.prog X.w H s.heap
 len:Y.length=X.N.length
variable {X:Cx}{YL:T0 (Uf × Obj)}{s:Sd}
section
variable {Y:T0 (Option V)}
def Cx.Ok.nofr(ok:X.Ok){b:Uf}{o:Obj}(e:X.base.get? b=ga o):b∉X.fs:=λhb=>by have:=(ok.ny.mem hb).1;rw[e]at this;cases this
def Inv.bs(I:Inv X YL Y H s):∀b o,X.base.get? b=ga o->s.heap.get? b=ga o/\H b=Fa:=λb o e=>⟨I.base.keep b o (I.ok.bs b o e).1 (I.ok.bs b o e).2 (I.ok.nofr e) (I.ok.nQ b o e),I.base.free b o (I.ok.bs b o e).1 (I.ok.bs b o e).2 (I.ok.nQ b o e)⟩
def Inv.bk(I:Inv X YL Y H s):∀b o,X.base.get? b=ga o->s.heap.get? b=ga o:=λb o e=>(I.bs b o e).1
def Inv.mod(I:Inv X YL Y H s):Mod X.K X.mg X.base:=I.ok.mod
def Inv.nE(I:Inv X YL Y H s):X.K.In s.heap:=I.ok.mod.oz.keeps I.bk
def Inv.lt(I:Inv X YL Y H s):X.env.locals<s.heap.objs.size:=let⟨_,hn,_⟩:=I.loc;hn.lt
def Inv.sz(I:Inv X YL Y H s):X.s₀.heap.objs.size<=s.heap.objs.size:=dZ I.ok.above (hZ I.lt)
def Inv.pj(I:Inv X YL Y H s){a:Uf}(h:s.heap.objs.size<=a):a∉X.fs:=λhb=>by obtain⟨_,o,ho,_⟩:=I.ok.ny.mem hb;exact absurd (dP (dB ho) (dZ I.sz h)) (eV _)
def Inv.pC(I:Inv X YL Y H s):∀x c,X.env.cells.lookup x=ga c->c≠X.env.locals:=λx c e z=>by obtain⟨v,o,ho,hd⟩:=I.cell x c e;obtain⟨m,⟨o',es,ep,Zs,hd',_⟩,_⟩:=I.loc;rw[z,Zs]at ho;cases ho;rw[hd']at hd;cases hd
def Inv.ny(I:Inv X YL Y H s):s.heap.FunFrames X.base X.outer:=by
 have all:∀(l:T0 Env),(∀b∈xb l,b∈X.fs)->X.s₀.heap.FunFrames X.base l->s.heap.FunFrames X.base l:=by
  intro l;induction l with
  | nil=>intro _ _;trivial
  | cons env r ih=>intro hs hl;obtain⟨hk,⟨L,o,hf,hn,ho,hd⟩,hr⟩:=hl;have hL:L∈X.fs:=hs L (by unfold xb;rw[fZ,hf];exact dC);obtain⟨sl,e⟩:=I.base.slot L o ho (I.ok.oB L hL) hL λz=>I.ok.nY L z hL;exact⟨hk,⟨L,_,hf,hn,e,hd⟩,ih (λb hb=>hs b (by unfold xb;rw[fZ,hf];exact dz _ hb)) hr⟩
 exact all X.outer (λ_ hb=>hb) I.ok.ny
def Inv.stack(I:Inv X YL Y H s):s.heap.FunFrames X.base X.stack:=by
 rcases I.ok.oV with e|⟨e,hf⟩
 .rw[e];exact I.ny
 .rw[e];obtain⟨m,hn,_⟩:=I.loc;refine .cons (by rw[I.ok.kind];decide) hf hn ?_ I.ny;exact gJ (dZ I.ok.n9 I.ok.above)
def Inv.nv(I:Inv X YL Y H s):∀b∈xb X.stack,b∈X.env.locals::X.fs:=λb hb=>by
 rcases I.ok.oV with e|⟨e,hf⟩
 .rw[e]at hb;exact dz _ hb
 .rw[e]at hb;unfold xb at hb;rw[fZ,hf]at hb;exact hb
def Inv.nK(I:Inv X YL Y H s):∀b∈xb X.stack,H b=Fa:=λb hb=>by
 rcases dg.mp (I.nv b hb)with e|hb
 .rw[e];exact I.free
 .obtain⟨_,o,ho,_⟩:=I.ok.ny.mem hb;exact I.base.free b o ho (I.ok.oB b hb) λz=>I.ok.nY b z hb
def Inv.step{g':Array GenState}{t':Nat}{d':Drawn}{ch:QXQ}(I:Inv X YL Y H s) (ZO:∀b∈ch,(b∈X.ex\/X.s₀.heap.objs.size<=b)/\b≠X.env.locals/\(∀x c,X.env.cells.lookup x=ga c->c≠b)/\∀p∈X.pn++YL,p.1≠b) (keep:∀b o,b≠X.env.locals->b∉X.fs->b∉ch->s.heap.get? b=ga o->H b=Fa->h'.get? b=ga o) (slot:∀b o,b≠X.env.locals->b∈X.fs->b∉ch->s.heap.get? b=ga o->H b=Fa->∃sl,h'.get? b=ga {o with slots:=sl}) (free:∀b o,b∉ch->s.heap.get? b=ga o->H b=Fa->H' b=Fa)
  (there:∀b o,b∉ch->s.heap.get? b=ga o->∃o',h'.get? b=ga o')
  (nF:∀b xs,H b=ga (.tup xs)->H' b=ga (.tup xs)) (nB:∀b o u,H b=ga (.frz o u)->H' b=ga (.frz o u)) (nL:∀b ps,H b=ga (.tbl ps)->∃more,H' b=ga (.tbl (ps++more)))
  (ns:∀m,s.heap.Ns X.env.locals m->h'.Ns X.env.locals m) (mR:yR X.prog X.w H' h') (hg:XYb g'):
  Inv X YL Y H' {s with heap:=h',gens:=g',drawn:=d',toks:=t'}:=by
 have neL:∀b o,X.s₀.heap.get? b=ga o->b≠X.env.locals:=λb o e=>dN (dP (dB e) I.ok.above);have neC:∀b o,X.s₀.heap.get? b=ga o->b∉X.ex->b∉ch:=λb o e hx hb=>by
  rcases(ZO b hb).1 with z|z
  .exact hx z
  .exact absurd (dP (dB e) z) (eV _)
 have cellK:∀x c,X.env.cells.lookup x=ga c->∀v,s.heap.IsCell c v->h'.IsCell c v:=λx c e v ⟨o,ho,hd⟩=>by
  have nch:c∉ch:=λz=>(ZO c z).2.2.1 x c e Z';by_cases hc:c∈X.fs
  .obtain⟨sl,q⟩:=slot c o (I.pC x c e) hc nch ho (I.mY x c e);exact⟨_,q,hd⟩
  .exact⟨o,keep c o (I.pC x c e) hc nch ho (I.mY x c e),hd⟩
 refine⟨I.ok,I.os,hg,⟨λb o e n hb hx=>?_,λb o e n hb hx=>?_,λb o e n hx=>?_,λb o e hx=>?_,λb xs e=>nF b xs (I.base.nF b xs e),λb o xs e=>nB b o xs (I.base.nB b o xs e),λb ps e=>?_⟩,?_,λx c e=>?_,?_,λx c e=>?_,λp hp=>?_,mR,I.len⟩
 .exact keep b o (neL b o e) hb (neC b o e hx) (I.base.keep b o e n hb hx) (I.base.free b o e n hx)
 .obtain⟨sl,e1⟩:=I.base.slot b o e n hb hx;obtain⟨sl',e2⟩:=slot b _ (neL b o e) hb (neC b o e hx) e1 (I.base.free b o e n hx);exact⟨sl',e2⟩
 .obtain⟨o',e1⟩:=I.base.there b o e hx;exact free b o' (neC b o e hx) e1 (I.base.free b o e n hx)
 .obtain⟨o',e1⟩:=I.base.there b o e hx;exact there b o' (neC b o e hx) e1
 .obtain⟨m1,e1⟩:=I.base.nL b ps e;obtain⟨m2,e2⟩:=nL b _ e1;exact⟨m1++m2,by rw[e2,kQ]⟩
 .obtain⟨m,hn,hl⟩:=I.loc;refine⟨m,ns m hn,λi x v e1 e2 e3=>?_⟩;obtain⟨u,r,l⟩:=hl i x v e1 e2 e3;refine⟨u,r,?_⟩;rcases l with l|⟨k,c,e,z⟩
  .exact .inl l
  .exact .inr ⟨k,c,e,cellK x c e _ z⟩
 .obtain⟨v,z⟩:=I.cell x c e;exact⟨v,cellK x c e v z⟩
 .obtain⟨m,⟨o,_,_,ho,_⟩,_⟩:=I.loc;exact free _ o (λz=>(ZO _ z).2.1 Z') ho I.free
 .obtain⟨v,o,ho,hd⟩:=I.cell x c e;exact free c o (λz=>(ZO c z).2.2.1 x c e Z') ho (I.mY x c e)
 .obtain⟨e,n,ne,nf,d⟩:=I.pin p hp;have nch:p.1∉ch:=λz=>(ZO p.1 z).2.2.2 p hp Z';exact⟨keep p.1 p.2 ne nf nch e n,free p.1 p.2 nch e n,ne,nf,d⟩
def Inv.un{t':Nat}(I:Inv X YL Y H s)(u:Un X.fs [] H H' s.heap h')(mR:yR X.prog X.w H' h'):Inv X YL Y H' {s with heap:=h',toks:=t'}:=by
 obtain⟨m,⟨o,es,ep,ho,r⟩,_⟩:=id I.loc;obtain⟨sl,hL⟩:=u.any ho I.free (by simp);exact I.step (g':=s.gens) (d':=s.drawn) (ch:=[]) (λ_ z=>nomatch z) (λb o _ hb _ e n=>u.keep b o e n hb (by simp)) (λb o _ hb _ e n=>u.slot b o e n hb (by simp)) (λb o _ e n=>u.free b o e n (by simp)) (λb o _ e=>u.there b o e (by simp)) u.nF u.nB u.nL (λm' hm=>by
  obtain⟨o',es',ep',Zs,r'⟩:=hm;rw[ho]at Zs;cases Zs;exact⟨_,es',ep',hL,r'⟩) mR I.bare
def Inv.call{t':Nat}{d':Drawn}(I:Inv X YL Y H s)(u:Un (xb X.stack) ch H H' s.heap h')(mR:yR X.prog X.w H' h')(hg:XYb g') (ZO:∀b∈ch,(b∈X.ex\/X.s₀.heap.objs.size<=b)/\b≠X.env.locals/\(∀x c,X.env.cells.lookup x=ga c->c≠b)/\∀p∈X.pn++YL,p.1≠b):
  Inv X YL Y H' {s with heap:=h',gens:=g',drawn:=d',toks:=t'}:=by
 obtain⟨m,⟨o,es,ep,ho,r⟩,_⟩:=id I.loc;obtain⟨sl,hL⟩:=u.any ho I.free λz=>(ZO _ z).2.1 Z';exact I.step (ch:=ch) ZO (λb o hL hb hc e n=>u.keep b o e n (λz=>(dg.mp (I.nv b z)).elim hL hb) hc) (λb o _ _ hc e n=>u.any e n hc) (λb o hc e n=>u.free b o e n hc) (λb o hc e=>u.there b o e hc) u.nF u.nB u.nL (λm' hm=>by
  obtain⟨o',es',ep',Zs,r'⟩:=hm;rw[ho]at Zs;cases Zs;exact⟨_,es',ep',hL,r'⟩) mR hg
def Inv.turned{t':Nat}{it:Uf}(I:Inv X YL Y H s)(k:∀b o,b≠it->s.heap.get? b=ga o->h'.get? b=ga o)(hn:H it=Fa)(hL:it≠X.env.locals) (h1:it∈X.ex\/X.s₀.heap.objs.size<=it) (h2:∀x c,X.env.cells.lookup x=ga c->c≠it) (h3:∀p∈X.pn++YL,p.1≠it):Inv X YL Y H {s with heap:=h',toks:=t'}:=by
 have nit:∀b u,H b=ga u->b≠it:=λb u e z=>by rw[z,hn]at e;cases e
 refine I.step (g':=s.gens) (d':=s.drawn) (ch:=[it]) (λb hb=>?_) (λb o _ _ hc e _=>k b o (λz=>hc (by simp[z])) e) (λb o _ _ hc e _=>⟨o.slots,k b o (λz=>hc (by simp[z])) e⟩) (λ_ _ _ _ n=>n)
  (λb o hc e=>⟨o,k b o (λz=>hc (by simp[z])) e⟩) (λ_ _ e=>e) (λ_ _ _ e=>e) (λb ps e=>⟨#[],by rw[e];simp⟩) (λm hm=>?_) (λb u e=>?_) I.bare
 .have e:b=it:=by simpa using hb
  subst e;exact⟨h1,hL,h2,h3⟩
 .obtain⟨o,es,ep,ho,r⟩:=hm;exact⟨o,es,ep,k _ o (dW hL) ho,r⟩
 .refine(I.mR b u e).nu (λc v hc q=>k c v ?_ q) (λ_ q=>q) λ_ _ q=>q;rcases hc with z|z
  .rw[z];exact nit b u e
  .exact nit c _ z
def Inv.tok(I:Inv X YL Y H s)(t:Nat):Inv X YL Y H {s with toks:=t}:=I.un (h':=s.heap) (t':=t) Un.refl I.mR
def Inv.kept{t':Nat}(I:Inv X YL Y H s)(k:∀b u,s.heap.get? b=ga u->h'.get? b=ga u):Inv X YL Y H {s with heap:=h',toks:=t'}:=I.un (Un.kept k) (I.mR.kept k)
def Inv.laid{a:Uf}{t':Nat}(I:Inv X YL Y H s)(k:∀b u,s.heap.get? b=ga u->h'.get? b=ga u)(hp:s.heap.objs.size<=a)(new:tN X.prog X.w (upd H a o) h' a o):
  Inv X YL Y (upd H a o) {s with heap:=h',toks:=t'}:=I.un (Un.laid k hp (I.mR.fresh hp)) (I.mR.laid k hp new)
def Inv.write{x e:Uf}{t':Nat}(I:Inv X YL Y H s)(mu:VW (H x))(he:e=x\/H e=ga (.own x))(k:∀b u,b≠e->s.heap.get? b=ga u->h'.get? b=ga u)(heo:∃u,h'.get? e=ga u) (new:tN X.prog X.w (upd H x o) h' x o):Inv X YL Y (upd H x o) {s with heap:=h',toks:=t'}:=I.un (Un.write mu he k heo) (I.mR.write mu he k heo new)
def Inv.nR{ZP:QQY}(I:Inv X YL Y H s)(h:∀p∈ZP,s.heap.get? p.1=ga p.2/\H p.1=Fa/\p.1≠X.env.locals/\p.1∉X.fs/\∀v,p.2.data≠.cell v):Inv X ZP Y H s:=
 ⟨I.ok,I.os,I.bare,I.base,I.loc,I.cell,I.free,I.mY,λp hp=>(dG.mp hp).elim (λz=>I.pin p (eC _ z)) (h p),I.mR,I.len⟩
def GU{N:QQQ}(hN:N.Nodup){i j:Nat}{x:Str}(a:N[i]?=ga x)(b:N[j]?=ga x):i=j:=by obtain⟨h1,e1⟩:=cX.mp a;obtain⟨h2,e2⟩:=cX.mp b;exact(jD hN).mp (e1.trans e2.symm)
def Ep{M:Model}{A:Ar}{E:QQX}{i:Nat}{x:Str}{Q:Unit->Sd->Prop}(I:Inv X YL Y H s)(hN:X.N.Nodup)(hi:X.N[i]?=ga x)(hx:Ma X.env.scope x)(r:rj v u) (h:∀s',Inv X YL (Y.set i (ga v)) H s'->(∃a,Heap.SameBut a s.heap s'.heap/\(a=X.env.locals\/X.env.cells.lookup x=ga a))->Q () s') (hf:L9 X x:=by first|exact .inl Z'|exact .inr Z'|assumption):pi M A (storeName X.env x u) Q E s:=by
 obtain⟨m,hn,hl⟩:=id I.loc;have hcls:(X.env.scope.kind==.class||(X.env.scope.kind==.module&&X.env.locals != X.env.globals))=pc:=by rw[I.ok.kind];rfl
 have hiσ:i<Y.length:=by rw[I.len];exact(cX.mp hi).1
 have pC:=I.pC;have Y5:∀{a:Uf} {h':Go},(∃o,s.heap.get? a=ga o/\H a=Fa)->Heap.SameBut a s.heap h'->yR X.prog X.w H h':=λ{a h'} ha hs b ob e=>by
  obtain⟨_,_,Zx⟩:=ha;refine(I.mR b ob e).nu (λc w' hc q=>(hs.2 c ?_).trans q) (λ_ q=>q) λ_ _ q=>q
  rintro rfl
  rcases hc with rfl|hc
  .rw[Zx]at e;cases e
  .rw[Zx]at hc;cases hc
 rcases hx with hk|hk
 .refine wpAny_storeName_local hk hn (λh' hn' hs=>?_) hcls;obtain⟨oL,_,_,hoL,_⟩:=id hn;refine h _ ⟨I.ok,I.os,I.bare,⟨λb o e n hb hx=>?_,λb o e n hb hx=>?_,I.base.free,λb o e hx=>?_,I.base.nF,I.base.nB,I.base.nL⟩,⟨_,hn',λj y v' e1 e2 e3=>?_⟩,λy c e=>?_,I.free,I.mY,λp hp=>?_,Y5 ⟨oL,hoL,I.free⟩ hs,by simpa using I.len⟩ ⟨_,hs,.inl Z'⟩
  .exact(hs.2 b (dN (dP (dB e) I.ok.above))).trans (I.base.keep b o e n hb hx)
  .obtain⟨sl,e1⟩:=I.base.slot b o e n hb hx;exact⟨sl,(hs.2 b (dN (dP (dB e) I.ok.above))).trans e1⟩
  .obtain⟨o',e1⟩:=I.base.there b o e hx;exact⟨o',(hs.2 b (dN (dP (dB e) I.ok.above))).trans e1⟩
  .by_cases hj:j=i
   .subst hj;rw[hi]at e1;cases e1;rw[fE hiσ]at e2;cases e2;exact⟨u,r,.inl ⟨hk,by simp⟩⟩
   .rw[fD (dW hj)]at e2;obtain⟨u',r',q⟩:=hl j y v' e1 e2 e3;refine⟨u',r',?_⟩;rcases q with⟨k,e⟩|⟨k,c,e,z⟩
    .refine .inl ⟨k,?_⟩;have:y≠x:=λe=>hj (GU hN e1 (e ▸ hi));simp[this,e]
    .exact .inr ⟨k,c,e,z.sameBut hs (pC y c e)⟩
  .obtain⟨w',z⟩:=I.cell y c e;exact⟨w',z.sameBut hs (pC y c e)⟩
  .obtain⟨e,n,ne,nf,d⟩:=I.pin p hp;exact⟨(hs.2 p.1 ne).trans e,n,ne,nf,d⟩
 .have hfn:X.fn x=Db:=by
   rcases hf with z|z
   .exact z
   .rw[z]at hk;cases hk
  obtain⟨c,hc⟩:=I.ok.has x (.inl hk);obtain⟨w',z⟩:=I.cell x c hc;refine wpAny_storeName_cell I.ok.kind hk hc z (λh' hc' hs=>?_);obtain⟨oc,hoc,hocd⟩:=id z;refine h {s with heap:=h'} ⟨I.ok,I.os,I.bare,⟨λb o e n hb hx=>?_,λb o e n hb hx=>?_,I.base.free,λb o e hx=>?_,I.base.nF,I.base.nB,I.base.nL⟩,⟨m,hn.sameBut hs (dW (pC x c hc)),λj y v' e1 e2 e3=>?_⟩,λy c' e=>?_,I.free,I.mY,λp hp=>?_,Y5 ⟨oc,hoc,I.mY x c hc⟩ hs,by simpa using I.len⟩ ⟨c,hs,.inr hc⟩
  .exact(hs.2 b (dN (dP (dB e) (I.ok.oE x c hfn hc)))).trans (I.base.keep b o e n hb hx)
  .obtain⟨sl,e1⟩:=I.base.slot b o e n hb hx;exact⟨sl,(hs.2 b (dN (dP (dB e) (I.ok.oE x c hfn hc)))).trans e1⟩
  .obtain⟨o',e1⟩:=I.base.there b o e hx;exact⟨o',(hs.2 b (dN (dP (dB e) (I.ok.oE x c hfn hc)))).trans e1⟩
  .by_cases hj:j=i
   .subst hj;rw[hi]at e1;cases e1;rw[fE hiσ]at e2;cases e2;exact⟨u,r,.inr ⟨.inl hk,c,hc,hc'⟩⟩
   .rw[fD (dW hj)]at e2;obtain⟨u',r',q⟩:=hl j y v' e1 e2 e3;refine⟨u',r',?_⟩;rcases q with q|⟨k,c',e,z'⟩
    .exact .inl q
    .refine .inr ⟨k,c',e,z'.sameBut hs ?_⟩
     rintro rfl
     exact hj (GU hN e1 (I.ok.inj _ _ _ e hc ▸ hi))
  .by_cases hcc:c'=c
   .subst hcc;exact⟨_,hc'⟩
   .obtain⟨w2,z2⟩:=I.cell y c' e;exact⟨w2,z2.sameBut hs hcc⟩
  .obtain⟨e,n,ne,nf,d⟩:=I.pin p hp;refine⟨(hs.2 p.1 ?_).trans e,n,ne,nf,d⟩;intro q;rw[q,hoc]at e;have q':oc=p.2:=df e;exact d w' (by rw[<-q'];exact hocd)
def Df{M:Model}{A:Ar}{E:QQX}{i:Nat}{x:Str}{Q:Unit->Sd->Prop}(I:Inv X YL Y H s)(hN:X.N.Nodup)(hi:X.N[i]?=ga x)(hx:Ma X.env.scope x)(r:rj v u) (h:∀s',Inv X YL (Y.set i (ga v)) H s'->Q () s') (hf:L9 X x:=by first|exact .inl Z'|exact .inr Z'|assumption):pi M A (storeName X.env x u) Q E s:=
 Ep I hN hi hx r (λs' I' _=>h s' I') hf
def Inv.oZ{s':Sd}(I:Inv X YL Y H s)(ho:s'.os=s.os)(u:Un (xb X.stack) ch H H' s.heap s'.heap)(mR:yR X.prog X.w H' s'.heap)(hg:XYb s'.gens) (ZO:∀b∈ch,(b∈X.ex\/X.s₀.heap.objs.size<=b)/\b≠X.env.locals/\(∀x c,X.env.cells.lookup x=ga c->c≠b)/\∀p∈X.pn++YL,p.1≠b):Inv X YL Y H' s':=by
 obtain⟨h',g',d',t',o'⟩:=s';have e:o'=s.os:=ho;subst e;exact I.call (g':=g') (t':=t') (d':=d') u mR hg ZO
end
abbrev XK:=Vl->Option Uf->Hp->Prop
abbrev St:=T0 (Option V)
abbrev VK:=V->Hp->Prop
abbrev TE:=St->Hp->VK->Prop
abbrev TT:=St->Hp->(Bool->Hp->Prop)->Prop
abbrev TA:=St->Hp->(T0 V->Hp->Prop)->Prop
structure Gb where
 nx:St->Hp->Prop
 rt:VK
 bk:St->Hp->Prop:=λ_ _=>False
 ct:St->Hp->Prop:=λ_ _=>False
abbrev TS:=Gb->St->Hp->Prop
def EP(X:Cx)(YL:QQY)(Y:St)(Q:VK)(u:Vl)(s':Sd):Prop:=∃v H',Inv X YL Y H' s'/\rj v u/\Q v H'
def TP(X:Cx)(YL:QQY)(Y:St)(Q:Bool->Hp->Prop)(b:Bool)(s':Sd):Prop:=∃H',Inv X YL Y H' s'/\Q b H'
def AP(X:Cx)(YL:QQY)(Y:St)(Q:T0 V->Hp->Prop)(us:T0 Vl)(s':Sd):Prop:=∃vs H',Inv X YL Y H' s'/\qK vs us/\Q vs H'
def SP(X:Cx)(YL:QQY)(D:Gb)(f:Flow)(s':Sd):Prop:=
 match f with
 | .next=>∃σ' H',Inv X YL σ' H' s'/\D.nx σ' H'
 | .brk=>∃σ' H',Inv X YL σ' H' s'/\D.bk σ' H'
 | .cont=>∃σ' H',Inv X YL σ' H' s'/\D.ct σ' H'
 | .ret u=>∃v σ' H',Inv X YL σ' H' s'/\rj v u/\D.rt v H'
def PE(X:Cx)(e:zn)(t:TE):Prop:=
 ∀(YL:QQY) (s:Sd) (Y:St) (H:Hp) (Q:VK),Inv X YL Y H s->t Y H Q->pi (Tk X.prog X.w) X.A (wp e X.env) (EP X YL Y Q) X.xe s
def PT(X:Cx)(e:zn)(t:TT):Prop:=
 ∀(YL:QQY) (s:Sd) (Y:St) (H:Hp) (Q:Bool->Hp->Prop),Inv X YL Y H s->t Y H Q->pi (Tk X.prog X.w) X.A (isTrue e X.env (wp e X.env)) (TP X YL Y Q) X.xe s
def PW(X:Cx)(e:zn)(t:TT):Prop:=
 ∀(Zl:Sem Vl) (YL:QQY) (s:Sd) (Y:St) (H:Hp) (Q:Bool->Hp->Prop),Inv X YL Y H s->t Y H Q->pi (Tk X.prog X.w) X.A (isTrue e X.env Zl) (TP X YL Y Q) X.xe s
def PW.pt(h:PW X e t):PT X e t:=h _
def PA(X:Cx)(es:T0 zn)(t:TA):Prop:=
 ∀(pos:Pos) (YL:QQY) (s:Sd) (Y:St) (H:Hp) (Q:T0 V->Hp->Prop),Inv X YL Y H s->t Y H Q->pi (Tk X.prog X.w) X.A (spliced (sB pos (Tl es X.env))) (AP X YL Y Q) X.xe s
def PS(X:Cx)(st:TD)(t:TS):Prop:=
 ∀(YL:QQY) (s:Sd) (Y:St) (H:Hp) (D:Gb),Inv X YL Y H s->t D Y H->pi (Tk X.prog X.w) X.A (exec st X.env) (SP X YL D) X.xe s
def Dh(X:Cx)(st:T0 TD)(t:TS):Prop:=
 ∀(YL:QQY) (s:Sd) (Y:St) (H:Hp) (D:Gb),Inv X YL Y H s->t D Y H->pi (Tk X.prog X.w) X.A (execs st X.env) (SP X YL D) X.xe s
def tj{α:Type}{t:Sem α}{Q Q':α->Sd->Prop}{M:Model}{A:Ar}{E:QQX}{s:Sd}(h:pi M A t Q E s)(hQ:∀a s,Q a s->Q' a s):pi M A t Q' E s:=eh h hQ λ_ _ x=>x
variable {tA tB':TT}{ta tb:TE}{pos:Pos}
section
def Jy(i:Nat):TE:=λY H Q=>∃v,Y[i]?=ga (ga v)/\Q v H
def tC(v:V):TE:=λ_ H Q=>Q v H
def Uq{i:Nat}{x:Str}(hN:X.N[i]?=ga x)(hv:Wa X.env.scope x)(hd:Ab x:=by decide)(Z3:(x==("__classdict__":Str))=pc:=by decide):PE X (.Name x pos) (Jy i):=by
 intro YL s Y H Q I h;obtain⟨v,e,h⟩:=h;obtain⟨m,hn,hl⟩:=I.loc;obtain⟨u,r,l⟩:=hl i x v hN e hv;have YR:EP X YL Y Q u s:=⟨v,H,I,r,h⟩;rcases l with⟨hk,hm⟩|⟨hk,c,hc,hcell⟩
 .exact lZ (wpAny_loadName_local I.ok.kind hk hn hm YR) hd
 .rcases hk with hk|hk
  .exact lZ (wpAny_loadName_cell I.ok.kind hk hc hcell YR) hd
  .exact lZ (wpAny_loadName_free I.ok.kind hk hc hcell YR Z3) hd
def U'{i j pos}:PE X (.Constant (.int i) j pos) (tC (.int i)):=λ_ _ _ H _ I h=>wpAny_Constant_int ⟨.int i,H,I.tok _,⟨_,Z'⟩,h⟩
def Wd{b j pos}:PE X (.Constant (.bool b) j pos) (tC (.bl b)):=λ_ _ _ H _ I h=>Constant_bool ⟨.bl b,H,I,Z',h⟩
def T5{j pos}:PE X (.Constant .none j pos) (tC .mM):=λ_ _ _ H _ I h=>Constant_none ⟨.mM,H,I,Z',h⟩
def Tt{x j pos}:PE X (.Constant (.str x) j pos) (tC (.str x)):=λ_ _ _ H _ I h=>Calls.Constant_str ⟨.str x,H,I.tok _,⟨_,Z'⟩,h⟩
def Gl(X:Cx)(x:Str):Prop:=X.env.kindOf x=ga .globalImplicit
def xq{E:QQX}{YL:QQY}{u:Vl}{Q:QQX}(I:Inv X YL Y H s)(hg:Gl X x)(hm:X.mg x=ga u)(h:Q u s) (hd:Ab x:=by decide):pi (Tk X.prog X.w) X.A (wp (.Name x pos) X.env) Q E s:=
 jn I.ok.kind hg (Calls.loadGlobal_global (by rw[I.ok.glob];exact I.mod.glob.keeps I.bk) hm h) hd
def wM{E:QQX}{YL:QQY}{u:Vl}{Q:QQX}(I:Inv X YL Y H s)(hg:Gl X x)(hm:X.mg x=Fa)(hv:No x=ga u)(h:Q u s) (hn:x≠"__name__":=by decide) (hd:Ab x:=by decide):pi (Tk X.prog X.w) X.A (wp (.Name x pos) X.env) Q E s:=by
 obtain⟨mb,h1,h2⟩:=I.mod.blt;exact jn I.ok.kind hg (Calls.loadGlobal_builtin (by rw[I.ok.glob];exact I.mod.glob.keeps I.bk) hm (by rw[I.ok.blt];exact h1.keeps I.bk) ((h2 x hn).trans hv) h) hd
def FD{u:Vl}(hg:Gl X x)(hm:X.mg x=ga u)(r:rj v u)(hd:Ab x:=by decide):PE X (.Name x pos) (tC v):=
 λ_ _ _ H _ I h=>xq I hg hm ⟨v,H,I,r,h⟩ hd
variable {a b:zn}
def tB(t:TE):TT:=λY H Q=>t Y H λx H1=>∃c,x=.bl c/\Q c H1
def SQ(h:PE X e t)(he:∀Zl,isTrue e X.env Zl=(do let v<-Zl;XXc e.pos;ZB [v] (truthy v)):=by intro _;rfl):PT X e (tB t):=by intro YL s Y H Q I hw;refine isTrue_plain (tj (h YL s Y H _ I hw) λv s1 zz=>x5 zz λx H1 I1 r1 q1=>?_) (he _);obtain⟨d,rfl,q⟩:=q1;cases r1;exact fk ⟨H1,I1,q⟩
variable {rest:T0 zn}
def XI(t u:TT):TT:=λY H Q=>t Y H λc H1=>if c=Db then u Y H1 Q else Q pc H1
def Yr(t u:TT):TT:=λY H Q=>t Y H λc H1=>if c=Db then Q Db H1 else u Y H1 Q
def XX(t:TT):TT:=λY H Q=>t Y H λc H1=>Q (!c) H1
def Qo(ha:PT X a tA):PW X (.BoolOp .And [a] pos) tA:=by
 intro wh YL s Y H Q I h;refine isTrue_and (tj (ha YL s Y H Q I h) λc s1 e=>?_);cases c with
 | true=>exact isTrue_and_nil e
 | false=>exact e
def U6(ha:PT X a tA):PW X (.BoolOp .Or [a] pos) tA:=by
 intro wh YL s Y H Q I h;refine isTrue_or (tj (ha YL s Y H Q I h) λc s1 e=>?_);cases c with
 | false=>exact isTrue_or_nil e
 | true=>exact e
def S4(ha:PT X a tA)(hb:PW X (.BoolOp .And (b::rest) pos) tB'):PW X (.BoolOp .And (a::b::rest) pos) (XI tA tB'):=by
 intro wh YL s Y H Q I h;refine isTrue_and (tj (ha YL s Y H _ I h) λc s1 ⟨H1,I1,q1⟩=>?_);cases c with
 | true=>exact hb wh YL s1 Y H1 Q I1 q1
 | false=>exact⟨H1,I1,q1⟩
def WH(ha:PT X a tA)(hb:PW X (.BoolOp .Or (b::rest) pos) tB'):PW X (.BoolOp .Or (a::b::rest) pos) (Yr tA tB'):=by
 intro wh YL s Y H Q I h;refine isTrue_or (tj (ha YL s Y H _ I h) λc s1 ⟨H1,I1,q1⟩=>?_);cases c with
 | true=>exact⟨H1,I1,q1⟩
 | false=>exact hb wh YL s1 Y H1 Q I1 q1
def Th(ha:PT X a tA):PT X (.UnaryOp .Not a pos) (XX tA):=by intro YL s Y H Q I h;exact isTrue_not (ha YL s Y H (λc H1=>Q (!c) H1) I h)
def VF(ta tb:TE):TE:=λY H Q=>ta Y H λx H1=>∃c,x=.bl c/\if c=Db then tb Y H1 Q else Q (.bl pc) H1
def Xc(ta tb:TE):TE:=λY H Q=>ta Y H λx H1=>∃c,x=.bl c/\if c=Db then Q (.bl Db) H1 else tb Y H1 Q
def VZ(ta:TE):TE:=λY H Q=>ta Y H λx H1=>∃c,x=.bl c/\Q (.bl (!c)) H1
def Tj{op}(h:PE X a t):PE X (.BoolOp op [a] pos) t:=λYL s Y H Q I hw=>BoolOp_one (h YL s Y H Q I hw)
def UH(ha:PE X a ta)(hb:PE X (.BoolOp .And (b::rest) pos) tb):PE X (.BoolOp .And (a::b::rest) pos) (VF ta tb):=by
 intro YL s Y H Q I h;refine BoolOp_and (tj (ha YL s Y H _ I h) λv s1 zz=>x5 zz λx H1 I1 r1 q1=>?_);obtain⟨c,rfl,q1⟩:=q1;cases r1;refine fk ?_;cases c with
 | true=>exact hb YL s1 Y H1 Q I1 q1
 | false=>exact⟨.bl pc,H1,I1,Z',q1⟩
def Vw(ha:PE X a ta)(hb:PE X (.BoolOp .Or (b::rest) pos) tb):PE X (.BoolOp .Or (a::b::rest) pos) (Xc ta tb):=by
 intro YL s Y H Q I h;refine BoolOp_or (tj (ha YL s Y H _ I h) λv s1 zz=>x5 zz λx H1 I1 r1 q1=>?_);obtain⟨c,rfl,q1⟩:=q1;cases r1;refine fk ?_;cases c with
 | false=>exact hb YL s1 Y H1 Q I1 q1
 | true=>exact⟨.bl Db,H1,I1,Z',q1⟩
def S7(ha:PE X a ta):PE X (.UnaryOp .Not a pos) (VZ ta):=by intro YL s Y H Q I h;refine UnaryOp_ (tj (ha YL s Y H _ I h) λv s1 zz=>x5 zz λx H1 I1 r1 q1=>?_);obtain⟨c,rfl,q1⟩:=q1;cases r1;exact not_of (fk ⟨.bl (!c),H1,I1,Z',q1⟩)
def Yz(t:TT)(ta tb:TE):TE:=λY H Q=>t Y H λc H1=>if c=Db then ta Y H1 Q else tb Y H1 Q
def OY(hc:PT X c tA)(ha:PE X a ta)(hb:PE X b tb):PE X (.IfExp c a b pos) (Yz tA ta tb):=by
 intro YL s Y H Q I h;refine wpAny_IfExp (tj (hc YL s Y H _ I h) λd s1 ⟨H1,I1,q1⟩=>?_);cases d with
 | true=>exact ha YL s1 Y H1 Q I1 q1
 | false=>exact hb YL s1 Y H1 Q I1 q1
end
def xV(K:qE)(H:Hp)(a:Uf)(xs:T0 V):Prop:=
 Rd H a (.lst xs)\/
  ∃(o:Obj) (its:Array Vl) (n:Nat),K.lookup a=ga o/\o.cls=.type "list"/\o.dict=Fa/\o.data=.seq its n/\its.size<=Ch/\qK xs its.toList
def wg(K:qE)(H:Hp)(a:Uf)(xs:T0 V):Prop:=
 Rd H a (.tup xs)\/
  ∃(o:Obj) (its:Array Vl) (n:Nat),K.lookup a=ga o/\o.cls=.type "tuple"/\o.dict=Fa/\o.data=.seq its n/\its.size<=Ch/\qK xs its.toList
noncomputable def Xg:Vl->Option V
 | .none=>ga .mM
 | .bool b=>ga (.bl b)
 | .int i _=>ga (.int i)
 | .str x _=>ga (.str x)
 | .bytes b _=>ga (.byt b)
 | .float b _=>ga (.flt b)
 | .ref a=>ga (.ref a)
 | .type n=>ga (.ty n)
 | _=>Fa
def rj.abs(r:rj x u):Xg u=ga x:=by
 cases x with
 | mM=>cases r;rfl
 | bl _=>cases r;rfl
 | int _=>obtain⟨t,rfl⟩:=r;rfl
 | str _=>obtain⟨t,rfl⟩:=r;rfl
 | byt _=>obtain⟨t,rfl⟩:=r;rfl
 | flt _=>obtain⟨t,rfl⟩:=r;rfl
 | ref _=>cases r;rfl
 | ty _=>cases r;rfl
def rj.inj(r:rj x u)(q:rj y u):x=y:=df (r.abs.symm.trans q.abs)
theorem qK.inj:∀{xs ys:T0 V} {us:T0 Vl},qK xs us->qK ys us->xs=ys
 | _,_,_,.nil,.nil=>rfl
 | _,_,_,.cons r t,.cons r' t'=>by rw[r.inj r',qK.inj t t']
variable {xs ys:T0 V}
section
variable {Y:St}{a:Uf}
def wg.of{K:qE}(h:H a=ga (.tup xs)):wg K H a xs:=.inl (.inl h)
def Inv.list(I:Inv X YL Y H s)(h:xV X.K H a xs):∃its:T0 Vl,qK xs its/\PlainL s.heap a its.toArray/\xs.length<=Ch:=by
 rcases h with h|⟨o,its,n,hk,hc,hd,hs,hz,r⟩
 .obtain⟨z,its,n,r,e⟩:=h.ok I.mR;exact⟨its,r,⟨_,n,e,Z',Z',Z'⟩,z⟩
 .refine⟨its.toList,r,⟨o,n,I.nE a o hk,hc,hd,by simpa using hs⟩,?_⟩;have e:=r.length;simp only[im]at e;lia
def Inv.tuple(I:Inv X YL Y H s)(h:wg X.K H a xs):∃its:T0 Vl,qK xs its/\IsTup s.heap a its.toArray/\xs.length<=Ch:=by
 rcases h with h|⟨o,its,n,hk,hc,hd,hs,hz,r⟩
 .obtain⟨z,its,r,p⟩:=h.ok I.mR;exact⟨its,r,p.is,z⟩
 .refine⟨its.toList,r,⟨o,I.nE a o hk,hc,n,by simpa using hs⟩,?_⟩;have e:=r.length;simp only[im]at e;lia
def Inv.nM(I:Inv X YL Y H s)(h:xV X.K H a xs)(h':xV X.K H a ys):xs=ys:=by
 obtain⟨its,r,⟨o,n,e,_,_,d⟩,_⟩:=I.list h;obtain⟨its',r',⟨o',n',e',_,_,d'⟩,_⟩:=I.list h';rw[e]at e';cases e';rw[d]at d';injection d' with d1 _
 have:its=its':=by simpa using eE Array.toList d1
 subst this;exact r.inj r'
def Inv.nq(I:Inv X YL Y H s)(h:wg X.K H a xs)(h':wg X.K H a ys):xs=ys:=by
 obtain⟨its,r,⟨o,e,_,n,d⟩,_⟩:=I.tuple h;obtain⟨its',r',⟨o',e',_,n',d'⟩,_⟩:=I.tuple h';rw[e]at e';cases e';rw[d]at d';injection d' with d1 _
 have:its=its':=by simpa using eE Array.toList d1
 subst this;exact r.inj r'
end
abbrev Cx.nP(X:Cx)(E:QQX):Cx:={X with xe:=E}
abbrev Cx.oF(X:Cx):Cx:=X.nP λ_ _=>False
def Cx.Ok.nP{X:Cx}(ok:X.Ok)(E:QQX):(X.nP E).Ok:=
 ⟨ok.mod,ok.kind,ok.glob,ok.blt,ok.above,ok.inj,ok.has,ok.oE,ok.hd,ok.frames,ok.oV,ok.pA,ok.bs,ok.n9,ok.nQ,ok.nY,ok.ny,ok.oB⟩
def Cx.Ok.ng{X:Cx}{E:QQX}(ok:(X.nP E).Ok):X.Ok:=
 ⟨ok.mod,ok.kind,ok.glob,ok.blt,ok.above,ok.inj,ok.has,ok.oE,ok.hd,ok.frames,ok.oV,ok.pA,ok.bs,ok.n9,ok.nQ,ok.nY,ok.ny,ok.oB⟩
section
variable {Y:St}{E:QQX}
def Inv.nP(I:Inv X YL Y H s)(E:QQX):Inv (X.nP E) YL Y H s:=⟨I.ok.nP E,I.os,I.bare,I.base,I.loc,I.cell,I.free,I.mY,I.pin,I.mR,I.len⟩
def Inv.ng(I:Inv (X.nP E) YL Y H s):Inv X YL Y H s:=⟨I.ok.ng,I.os,I.bare,I.base,I.loc,I.cell,I.free,I.mY,I.pin,I.mR,I.len⟩
def SP.ng{D:Gb}(h:SP (X.nP E) YL D f s'):SP X YL D f s':=by
 cases f with
 | next=>obtain⟨σ',H',I,q⟩:=h;exact⟨σ',H',I.ng,q⟩
 | brk=>obtain⟨σ',H',I,q⟩:=h;exact⟨σ',H',I.ng,q⟩
 | cont=>obtain⟨σ',H',I,q⟩:=h;exact⟨σ',H',I.ng,q⟩
 | ret u=>obtain⟨v,σ',H',I,r,q⟩:=h;exact⟨v,σ',H',I.ng,r,q⟩
def Dh.oF{st:T0 TD}(h:Dh X.oF st t):Dh X st t:=λYL s Y H D I hw=>eh (h YL s Y H D (I.nP _) hw) (λ_ _ q=>q.ng) λ_ _ z=>False.elim z
end
variable {st:TD}{u:TS}{te:TE}
section
variable {rest:T0 TD}{t:TS}{e:zn}
def WA:TS:=λD Y H=>D.nx Y H
def XD(t u:TS):TS:=λD Y H=>t {D with nx:=u D} Y H
def Rr:Dh X [] WA:=λ_ _ Y H _ I h=>gS ⟨Y,H,I,h⟩
def Pu(h1:PS X st t)(h2:Dh X rest u):Dh X (st::rest) (XD t u):=by
 intro YL s Y H D I h;refine jE (tj (h1 YL s Y H {D with nx:=u D} I h) λf s1 q=>?_);cases f with
 | next=>obtain⟨σ',H',I',q⟩:=q;exact h2 YL s1 σ' H' D I' q
 | ret v=>exact q
 | brk=>exact q
 | cont=>exact q
def Km(h1:PS X st t):Dh X [st] t:=by
 intro YL s Y H D I h;refine jE (tj (h1 YL s Y H D I h) λf s1 q=>?_);cases f with
 | next=>exact gS q
 | ret v=>exact q
 | brk=>exact q
 | cont=>exact q
def Inv.quiet{YL:QQY}(I:Inv X YL Y H s):interactive X.env=pc:=by simp[interactive,I.ok.kind]
def VD(te:TE):TS:=λD Y H=>te Y H λ_ H1=>D.nx Y H1
def Q6(he:PE X e te)(hs:sK e Fa pos.line X.env=pure pc:=by rfl):PS X (.Expr e pos) (VD te):=by intro YL s Y H D I h;exact wpAny_Expr_any (tj (he YL s Y H _ I h) λv s1 zz=>x5 zz λx H1 I1 r1 q1=>⟨Y,H1,I1,q1⟩) I.quiet hs
def XJ(te:TE):TS:=λD Y H=>te Y H D.rt
def UT(he:PE X e te):PS X (.Return (ga e) pos) (XJ te):=by intro YL s Y H D I h;exact wpAny_Return_some (tj (he YL s Y H _ I h) λv s1 zz=>x5 zz λx H1 I1 r1 q1=>⟨x,Y,H1,I1,r1,q1⟩)
def XB(c:TT)(t u:TS):TS:=λD Y H=>c Y H λb H1=>if b=Db then t D Y H1 else u D Y H1
def WN(hc:PT X c tc)(ha:Dh X a t)(hb:Dh X b u):PS X (.If c a b pos) (XB tc t u):=by
 intro YL s Y H D I h;refine wpAny_If (tj (hc YL s Y H _ I h) λd s1 ⟨H1,I1,q1⟩=>?_);cases d with
 | true=>exact ha YL s1 Y H1 D I1 q1
 | false=>exact hb YL s1 Y H1 D I1 q1
def UX:TS:=λ_ _ _=>False
def Mz:PS X st UX:=λ_ _ _ _ _ _ h=>h.elim
end
abbrev TG:=V->St->Hp->(St->Hp->Prop)->Prop
abbrev Qz:=T0 V->St->Hp->(St->Hp->Prop)->Prop
def PG(X:Cx)(Zi:zn)(t:TG):Prop:=
 ∀(YL:QQY) (s:Sd) (Y:St) (H:Hp) (v:V) (u:Vl) (Q:St->Hp->Prop),Inv X YL Y H s->rj v u->t v Y H Q->
  pi (Tk X.prog X.w) X.A (assign Zi X.env u) (λ_ s'=>∃σ' H',Inv X YL σ' H' s'/\Q σ' H') X.xe s
def Pz(X:Cx)(ts:T0 zn)(t:Qz):Prop:=
 ∀(YL:QQY) (s:Sd) (Y:St) (H:Hp) (vs:T0 V) (us:T0 Vl) (Q:St->Hp->Prop),Inv X YL Y H s->qK vs us->t vs Y H Q->
  pi (Tk X.prog X.w) X.A (assignInOrder ((wP ts X.env).map (·.2)) us) (λ_ s'=>∃σ' H',Inv X YL σ' H' s'/\Q σ' H') X.xe s
abbrev T9:=V->V->V->Hp->(Hp->Prop)->Prop
def Ws(X:Cx)(t:T9):Prop:=
 ∀(YL:QQY) (s:Sd) (Y:St) (H:Hp) (o i v:V) (ov iv u:Vl) (Q:Hp->Prop),Inv X YL Y H s->rj o ov->rj i iv->rj v u->t o i v H Q->
  pi (Tk X.prog X.w) X.A (setItem ov iv u) (λ_ s'=>∃H',Inv X YL Y H' s'/\Q H') X.xe s
def Oe(i:Nat):TG:=λv Y H Q=>Q (Y.set i (ga v)) H
def QJ{i:Nat}{x:Str}(hN:X.N.Nodup)(hi:X.N[i]?=ga x)(hx:Ma X.env.scope x)(hf:L9 X x:=by first|exact .inl Z'|exact .inr Z'|assumption):PG X (.Name x pos) (Oe i):=by intro YL s Y H v u Q I r h;exact ls (Df I hN hi hx r (λs' I'=>⟨_,H,I',h⟩) hf)
def XW:Qz:=λvs Y H Q=>vs=[]/\Q Y H
def WE(t:TG)(u:Qz):Qz:=λvs Y H Q=>∃v r,vs=v::r/\t v Y H λσ' H'=>u r σ' H' Q
def Qd:Pz X [] XW:=by intro YL s Y H vs us Q I r h;obtain⟨e,h⟩:=h;subst e;cases r;exact assignInOrder_nil ⟨Y,H,I,h⟩
def MZ{u:Qz}(h1:PG X e t)(h2:Pz X es u) (hs:(wP (e::es) X.env).map (·.2)=assign e X.env::(wP es X.env).map (·.2):=by rfl):Pz X (e::es) (WE t u):=by
 intro YL s Y H vs us Q I r h;obtain⟨v,vr,e1,h⟩:=h;subst e1;cases r with
 | cons r rr=>rw[hs];refine assignInOrder_cons (tj (h1 YL s Y H _ _ _ I r h) λ_ s1 ⟨σ1,H1,I1,q1⟩=>?_);exact h2 YL s1 σ1 H1 _ _ Q I1 rr q1
def X8(K:qE)(n:Nat)(t:Qz):TG:=λv Y H Q=>∃a xs,v=.ref a/\wg K H a xs/\xs.length=n/\t xs Y H Q
def UW{n:Nat}(hc:X.calm=Db)(h:Pz X es t) (hn:(wP es X.env).length=n:=by rfl) (Zd:(wP es X.env).findIdx? (·.1)=Fa:=by rfl):PG X (.Tuple es k pos) (X8 X.K n t):=by
 intro YL s Y H v u Q I r hw;obtain⟨a,xs,e1,hq,hl,hw⟩:=hw;subst e1;cases r;obtain⟨its,rv,ht,hz⟩:=I.tuple hq;refine assign_Tuple_tuple (I.ok.hd hc) ht (by simp[hn,<-hl,rv.length]) Zd λh' hx=>?_;have I1:Inv X YL Y H {s with heap:=h'}:=I.kept (t':=s.toks) λb o e=>hx b o (dN (dB e)) e;exact h YL _ Y H xs _ Q I1 (by simpa using rv) hw
def XZ(to ti:TE)(t:T9):TG:=λv Y H Q=>to Y H λo H1=>ti Y H1 λi H2=>t o i v H2 λH3=>Q Y H3
def UE(ho:PE X o to)(hi:PE X i ti)(hs:Ws X t) (ha:∀v,assign (.Subscript o i pos) X.env v=(do
   let ov<-ZB [v] (wp o X.env);let iv<-ZB [v,ov] (wp i X.env)
   XXc pos
   ZB [v,ov,iv] (setItem ov iv v)
   release [v,ov,iv] []):=by intro _;rfl):PG X (.Subscript o i pos) (XZ to ti t):=by
 intro YL s Y H v u Q I r h;rw[ha];refine cU (eW (tj (ho YL s Y H _ I h) λov s1 zz=>x5 zz λx H1 I1 r1 q1=>?_));refine cU (eW (tj (hi YL s1 Y H1 _ I1 q1) λiv s2 zz=>x5 zz λy H2 I2 r2 q2=>?_));refine cU (ik (cU (eW (tj (hs YL s2 Y H2 x y v ov iv u _ I2 r1 r2 r q2) λ_ s3 ⟨H3,I3,q3⟩=>?_))));exact wpAny_release ⟨Y,H3,I3,q3⟩
def SW(te:TE)(g:TG):TS:=λD Y H=>te Y H λx H1=>g x Y H1 D.nx
def Um(he:PE X e te)(hg:PG X tg g)(hs:swapsWithSole [tg] e pos.line X.env=pure pc:=by rfl)(hw:swappedStores [tg] e X.env=pure Fa:=by rfl)
  (h1:(wP [tg] X.env).map (·.2)=[assign tg X.env]:=by rfl):PS X (.Assign [tg] e pos) (SW te g):=by
 intro YL s Y H D I h;refine wpAny_Assign_stores (tj (he YL s Y H _ I h) λv s1 zz=>x5 zz λx H1 I1 r1 q1=>?_) hs hw;rw[h1];exact tj (hg YL s1 Y H1 x v _ I1 r1 q1) λ_ s2 q=>q
def Uj{i:Nat}{x:Str}(hN:X.N.Nodup)(hi:X.N[i]?=ga x)(hx:Ma X.env.scope x)(he:PE X e te)(hs:sK e (ga (.Name x YW)) pos.line X.env=pure pc:=by rfl)(hf:L9 X x:=by first|exact .inl Z'|exact .inr Z'|assumption):
  PS X (.Assign [.Name x YW] e pos) (SW te (Oe i)):=by
 intro YL s Y H D I h;refine lu (tj (he YL s Y H _ I h) λv s1 zz=>x5 zz λy H1 I1 r1 q1=>?_) hs;exact Df I1 hN hi hx r1 (λs2 I2=>⟨_,H1,I2,q1⟩) hf
def T4(c:TT)(tb:TS):TS:=λD Y H=>∃W:Nat->St->Hp->Prop,(∃m,W m Y H)/\∀m Y H,W m Y H->
 c Y H λb H1=>if b=Db then ∃N:St->Hp->Prop,(∀σ' H',N σ' H'->∃m',m'<m/\W m' σ' H')/\tb {D with nx:=N,ct:=N,bk:=D.nx} Y H1 else D.nx Y H1
def Oc{tb:TS}(hp:PassesOwn (Tk X.prog X.w) X.A X.env X.xe)(hc:PT X c tc)(hb:Dh X body tb):PS X (.While c body [] pos) (T4 tc tb):=by
 intro YL s Y H D I h;obtain⟨W,⟨m0,w0⟩,turn⟩:=h;refine wpAny_While (codeAny_whileLoop (λn s'=>∃σ' H',Inv X YL σ' H' s'/\W n σ' H') ?_ m0 ⟨Y,H,I,w0⟩)
 rintro n s1 ⟨σ1,H1,I1,w1⟩
 refine gD hp (tj (hc YL s1 σ1 H1 _ I1 (turn n σ1 H1 w1)) λb s2 ⟨H2,I2,q2⟩=>?_);cases b with
 | true=>
  obtain⟨N,hN,q2⟩:=q2;rw[de Z'];refine gD hp (tj (hb YL s2 σ1 H2 _ I2 q2) λf s3 q3=>?_);cases f with
  | next=>obtain⟨σ3,H3,I3,n3⟩:=q3;obtain⟨m',hm,w3⟩:=hN σ3 H3 n3;exact⟨m',hm,σ3,H3,I3,w3⟩
  | cont=>obtain⟨σ3,H3,I3,n3⟩:=q3;obtain⟨m',hm,w3⟩:=hN σ3 H3 n3;exact⟨m',hm,σ3,H3,I3,w3⟩
  | brk=>exact q3
  | ret v=>exact q3
 | false=>rw[cY dA];exact gS ⟨σ1,H2,I2,q2⟩
structure It where
 go:Nat->Hp->Prop
 oY:Nat->Hp->V->Hp->Prop
 stop:Nat->Hp->Prop
def zT(X:Cx)(YL:QQY)(H:Hp)(b:Uf):Prop:=
 H b=Fa/\b≠X.env.locals/\b∉X.fs/\(b∈X.ex\/X.s₀.heap.objs.size<=b)/\(∀x c,X.env.cells.lookup x=ga c->c≠b)/\∀p∈X.pn++YL,p.1≠b
def Inv.nX{YL:QQY}{H H':Hp}{b:Uf}(I:Inv X YL Y H s)(hb:s.heap.objs.size<=b)(hn:H' b=Fa):zT X YL H' b:=by
 refine⟨hn,h9 (dP I.lt hb),I.pj hb,.inr (dZ I.sz hb),λx c e z=>?_,λp hp z=>?_⟩
 .obtain⟨v,q⟩:=I.cell x c e;exact absurd (dP q.lt (by rw[z];exact hb)) (eV _)
 .exact absurd (dP (dB (I.pin p hp).1) (by rw[z];exact hb)) (eV _)
structure Hg(P:Pg)(w:Wo)(K:qE)(tg:zn)(J:It)(fp:QXQ)(it:Uf)(tn:Nat->Go->Prop):Prop where
 mem:it∈fp
 obj:∀i h,tn i h->∀b∈fp,∃o,h.get? b=ga o/\∀v,o.data≠.cell v
 keep:∀i h h',tn i h->(∀b∈fp,∀o,h.get? b=ga o->h'.get? b=ga o)->tn i h'
 item:∀(X:Cx),X.prog=P->X.w=w->X.K=K->X.calm=Db->∀(i:Nat) (YL:QQY) (s:Sd) (Y:St) (H:Hp) (E:QQX),Inv X YL Y H s->(∀b∈fp,zT X YL H b)->tn i s.heap->J.go i H->
  pi (Tk P w) X.A (pyNext (.ref it)) (λr s1=>∃u,r=ga u/\
   pi (Tk P w) X.A (XXi tg (.ref it) u) (λ_ s2=>∃x H',Inv X YL Y H' s2/\rj x u/\J.oY i H x H'/\tn (i+1) s2.heap/\∀b∈fp,H' b=Fa) E s1) E s
 done:∀(X:Cx),X.prog=P->X.w=w->X.K=K->X.calm=Db->∀(i:Nat) (YL:QQY) (s:Sd) (Y:St) (H:Hp) (E:QQX),Inv X YL Y H s->(∀b∈fp,zT X YL H b)->tn i s.heap->J.stop i H->
  pi (Tk P w) X.A (pyNext (.ref it)) (λr s1=>r=Fa/\Inv X YL Y H s1) E s
 self:∀(A:Ar) (i:Nat) (s:Sd) (Q:QQX) (E:QQX),tn i s.heap->Q (.ref it) s->pi (Tk P w) A (pyIter (.ref it)) Q E s
abbrev TI:=St->Hp->(It->Hp->Prop)->Prop
def Xf(X:Cx)(YL:QQY)(Y:St)(tg:zn)(R:It->Hp->Prop)(itv:Vl)(s2:Sd):Prop:=
 ∃(it:Uf) (fp:QXQ) (tn:Nat->Go->Prop) (J:It) (H':Hp),itv=.ref it/\Inv X YL Y H' s2/\Hg X.prog X.w X.K tg J fp it tn/\tn 0 s2.heap/\(∀b∈fp,zT X YL H' b)/\R J H'
def PI(X:Cx)(tg iter:zn)(wi:TI):Prop:=
 ∀(YL:QQY) (s:Sd) (Y:St) (H:Hp) (R:It->Hp->Prop),Inv X YL Y H s->wi Y H R->
  pi (Tk X.prog X.w) X.A (wp iter X.env) (λv s1=>pi (Tk X.prog X.w) X.A (pyIter v) (Xf X YL Y tg R) X.xe s1) X.xe s
def Ko{M:Model}{A:Ar}{E:QQX}{s:Sd}{tg:zn}{it:Uf}{u:Vl}{o:Obj}{n:String}{vs:Array Vl}{Q:Unit->Sd->Prop}(ho:s.heap.get? it=ga o)(hc:o.cls=.type n)(hd:o.data=.fields vs) (hn:["enumerate","zip","dict_itemiterator","dict_reverseitemiterator","odict_iterator","itertools.zip_longest","itertools.pairwise"].contains n=pc) (hQ:Q () s):pi M A (XXi tg (.ref it) u) Q E s:=by
  unfold XXi;cases tg<;>first
    | exact dh hQ
    | (cases u<;>first
        | exact dh hQ
        | (refine cU (wpAny_load ho ?_)
           rw[hc,hd];show pi M A (if (["enumerate","zip","dict_itemiterator","dict_reverseitemiterator","odict_iterator","itertools.zip_longest","itertools.pairwise"].contains n&&vs[0]?==ga (Y' _))=Db then _ else _) Q E s;rw[cY (by intro h;rw[hn,eU]at h;cases h)];exact dh hQ))
noncomputable def W8(K:qE)(a:Uf):It:=
 ⟨λi H=>∃xs x,xV K H a xs/\xs[i]?=ga x,λi H x H'=>H'=H/\∀xs,xV K H a xs->xs[i]?=ga x,λi H=>∃xs,xV K H a xs/\xs.length<=i⟩
noncomputable def XT(K:qE)(a:Uf):It:=
 ⟨λi H=>∃xs x,wg K H a xs/\xs[i]?=ga x,λi H x H'=>H'=H/\∀xs,wg K H a xs->xs[i]?=ga x,λi H=>∃xs,wg K H a xs/\xs.length<=i⟩
noncomputable def VG(lo:Int)(n:Nat):It:=⟨λi _=>i<n,λi H x H'=>H'=H/\x=.int (lo+i),λi _=>n<=i⟩
def L1{K:qE}(a it:Uf):Hg P w K tg (W8 K a) [it] it (λi h=>h.IsListIter it a i) where
 mem:=by simp
 obj:=λi h st b hb=>by
  have e:b=it:=by simpa using hb
  subst e;obtain⟨o,e,c,d⟩:=st;exact⟨o,e,λv z=>by rw[d]at z;cases z⟩
 keep:=λi h h' st k=>st.at λo e=>k it (by simp) o e
 item:=by intro X hP hw hK hc i YL s Y H E I hf st hg;subst hP hw hK;obtain⟨xs,x,hq,hx⟩:=hg;obtain⟨its,rv,p,hz⟩:=I.list hq;obtain⟨u,hu,ru⟩:=rv.get hx;obtain⟨f0,f1,f2,f3,f4,f5⟩:=hf it (by simp);refine wpAny_pyNext_list_item st p.isList (x:=u) (by simpa using hu) λh' ZC sb=>?_;have I1:Inv X YL Y H {s with heap:=h'}:=I.turned (t':=s.toks) (λb o hb e=>(sb.2 b hb).trans e) f0 f1 f3 f4 f5;obtain⟨o,e,c,d⟩:=id ZC;exact⟨u,Z',Ko (s:={s with heap:=h'}) e c d (by decide) ⟨x,H,I1,ru,⟨Z',λys hy=>by rw[I.nM hy hq];exact hx⟩,ZC,λb hb=>(hf b hb).1⟩⟩
 done:=by intro X hP hw hK hc i YL s Y H E I hf st hg;subst hP hw hK;obtain⟨xs,hq,hx⟩:=hg;obtain⟨its,rv,p,hz⟩:=I.list hq;obtain⟨f0,f1,f2,f3,f4,f5⟩:=hf it (by simp);have hl:=rv.length;exact wpAny_pyNext_list_end (I.ok.hd hc) st p.isList (by simp;lia) λh' eb=>⟨Z',I.turned (t':=s.toks) (λb o hb e=>eb b o hb e) f0 f1 f3 f4 f5⟩
 self:=λ_ _ _ _ _ st h=>wpAny_pyIter_listiter st h
def IF{K:qE}(a it:Uf):Hg P w K tg (XT K a) [it] it (λi h=>h.IsTupleIter it a i) where
 mem:=by simp
 obj:=λi h st b hb=>by
  have e:b=it:=by simpa using hb
  subst e;obtain⟨o,e,c,d⟩:=st;exact⟨o,e,λv z=>by rw[d]at z;cases z⟩
 keep:=λi h h' st k=>st.at λo e=>k it (by simp) o e
 item:=by intro X hP hw hK hc i YL s Y H E I hf st hg;subst hP hw hK;obtain⟨xs,x,hq,hx⟩:=hg;obtain⟨its,rv,p,hz⟩:=I.tuple hq;obtain⟨u,hu,ru⟩:=rv.get hx;obtain⟨f0,f1,f2,f3,f4,f5⟩:=hf it (by simp);refine wpAny_pyNext_tuple_item st (show s.heap.IsTuple a its.toArray from p) (x:=u) (by simpa using hu) λh' ZC sb=>?_;have I1:Inv X YL Y H {s with heap:=h'}:=I.turned (t':=s.toks) (λb o hb e=>(sb.2 b hb).trans e) f0 f1 f3 f4 f5;obtain⟨o,e,c,d⟩:=id ZC;exact⟨u,Z',Ko (s:={s with heap:=h'}) e c d (by decide) ⟨x,H,I1,ru,⟨Z',λys hy=>by rw[I.nq hy hq];exact hx⟩,ZC,λb hb=>(hf b hb).1⟩⟩
 done:=by intro X hP hw hK hc i YL s Y H E I hf st hg;subst hP hw hK;obtain⟨xs,hq,hx⟩:=hg;obtain⟨its,rv,p,hz⟩:=I.tuple hq;obtain⟨f0,f1,f2,f3,f4,f5⟩:=hf it (by simp);have hl:=rv.length;exact wpAny_pyNext_tuple_end (I.ok.hd hc) st (show s.heap.IsTuple a its.toArray from p) (by simp;lia) λh' eb=>⟨Z',I.turned (t':=s.toks) (λb o hb e=>eb b o hb e) f0 f1 f3 f4 f5⟩
 self:=λ_ _ _ _ _ st h=>wpAny_pyIter_tupleiter st h
def IJ{K:qE}(it:Uf)(lo:Int)(n:Nat):Hg P w K tg (VG lo n) [it] it (λi h=>IsRangeIter h it (lo+(i:Nat)*1) ((n:Int) - (i:Nat)) 1) where
 mem:=by simp
 obj:=λi h st b hb=>by
  have e:b=it:=by simpa using hb
  subst e;exact⟨_,st,λv z=>by
   have z':Data.fields _=Data.cell v:=z;cases z'⟩
 keep:=λi h h' st k=>k it (by simp) _ st
 item:=by intro X hP hw hK hc i YL s Y H E I hf st hg;subst hP hw hK;obtain⟨f0,f1,f2,f3,f4,f5⟩:=hf it (by simp);have W:=Walks.range (prog:=X.prog) (w:=X.w) (I.ok.hd hc) it lo 1 n;refine W.item i s _ _ hg st λv h' tk hv ZC kk=>?_;obtain⟨t,rfl⟩:=hv;have I1:Inv X YL Y H {s with heap:=h',toks:=tk}:=I.turned (λb o hb e=>kk b o (by simpa using hb) e) f0 f1 f3 f4 f5;refine⟨_,Z',Ko (s:={s with heap:=h',toks:=tk}) (n:="range_iterator") ZC Z' Z' (by decide) ⟨.int (lo+i),H,I1,⟨t,?_⟩,⟨Z',Z'⟩,ZC,λb hb=>(hf b hb).1⟩⟩;rw[Int.mul_one]
 done:=by intro X hP hw hK hc i YL s Y H E I hf st hg;subst hP hw hK;obtain⟨f0,f1,f2,f3,f4,f5⟩:=hf it (by simp);exact wpAny_pyNext_range_end (I.ok.hd hc) st (by have:n<=i:=hg;lia) λh' eb=>⟨Z',I.turned (t':=s.toks) (λb o hb e=>eb b o hb e) f0 f1 f3 f4 f5⟩
 self:=λ_ _ _ _ _ st h=>wpAny_pyIter_rangeiter st h
variable {tg:zn}
def GV{YL:QQY}{R:It->Hp->Prop}{E:QQX}{lo hi:Int}{t u v:Tok}{tk:Nat}(I:Inv X YL Y H s)(h1:-(2 ^ 62)<=lo)(h2:lo<2 ^ 62)(h3:-(2 ^ 62)<=hi)(h4:hi<2 ^ 62) (q:R (VG lo (hi - lo).toNat) H):pi (Tk X.prog X.w) X.A (pyIter (.ref s.heap.objs.size)) (Xf X YL Y tg R) E {s with heap:=s.heap.push {cls:=.type "range",data:=.fields #[.int lo t,.int hi u,.int 1 v]},toks:=tk}:=by
 refine wpAny_pyIter_range (IsRange.new ..) (small_one h1 h2 h3 h4) ?_;have I1:Inv X YL Y H {s with heap:=s.heap.push {cls:=.type "range",data:=.fields #[.int lo t,.int hi u,.int 1 v]},toks:=tk}:=I.kept λb o e=>c9 _ e;refine⟨(s.heap.push {cls:=.type "range",data:=.fields #[.int lo t,.int hi u,.int 1 v]}).objs.size,[(s.heap.push {cls:=.type "range",data:=.fields #[.int lo t,.int hi u,.int 1 v]}).objs.size],_,_,H,Z',I1.kept (t':=tk) λb o e=>c9 _ e,IJ _ lo (hi - lo).toNat,?_,λb hb=>?_,q⟩
 .have e1:lo+((0:Nat):Int)*1=lo:=by simp
  have e2:(((hi - lo).toNat:Nat):Int) - ((0:Nat):Int)=Builtin.Range.rangeSize lo hi 1:=by rw[rangeSize_one];split<;>lia
  show IsRangeIter _ _ (lo+((0:Nat):Int)*1) ((((hi - lo).toNat:Nat):Int) - ((0:Nat):Int)) 1;rw[e1,e2];exact dJ _ Z'
 .have e:b=(s.heap.push {cls:=.type "range",data:=.fields #[.int lo t,.int hi u,.int 1 v]}).objs.size:=by simpa using hb
  subst e;exact I1.nX (dq _) (I1.mR.fresh (dq _))
def Wh(ta:TA):TI:=λY H R=>ta Y H λvs H1=>∃j:Int,vs=[.int j]/\-(2 ^ 62)<=j/\j<2 ^ 62/\R (VG 0 j.toNat) H1
def Vm(ta:TA):TI:=λY H R=>ta Y H λvs H1=>∃i j:Int,vs=[.int i,.int j]/\(-(2 ^ 62)<=i/\i<2 ^ 62/\-(2 ^ 62)<=j/\j<2 ^ 62)/\R (VG i (j - i).toNat) H1
def KW{a:zn}{ta:TA}(hg:Gl X "range")(hm:X.mg "range"=Fa)(ha:PA X [a] ta)(hs:Tl [a] X.env=[(pc,wp a X.env)]:=by rfl):PI X tg (.Call (.Name "range" p) [a] [] pos) (Wh ta):=by
 intro YL s Y H R I h;refine Call_ (wM I hg hm boot_range (fz (tj (ha pos YL s Y H _ I h) λus s1 zz=>x5 zz λvs H1 I1 r1 q1=>?_) hs Z'));obtain⟨j,e,q1,q2,q⟩:=q1;subst e;cases r1 with
 | cons r rr=>cases rr;obtain⟨t,rfl⟩:=r;exact call_range_1 (GV I1 (by lia) (by lia) q1 q2 (by simpa using q))
def Lm{a b:zn}{ta:TA}{p pos:Pos}(hg:Gl X "range")(hm:X.mg "range"=Fa)(ha:PA X [a,b] ta)(hs:Tl [a,b] X.env=[(pc,wp a X.env),(pc,wp b X.env)]:=by rfl)(Zt:Tl [b] X.env=[(pc,wp b X.env)]:=by rfl):
  PI X tg (.Call (.Name "range" p) [a,b] [] pos) (Vm ta):=by
 intro YL s Y H R I h;refine Call_ (wM I hg hm boot_range (fz (tj (ha pos YL s Y H _ I h) λus s1 zz=>x5 zz λvs H1 I1 r1 q1=>?_) (by rw[hs,Zt]) (by rw[Zt];rfl)));obtain⟨i,j,e,⟨q1,q2,q3,q4⟩,q⟩:=q1;subst e;cases r1 with
 | cons r rr=>
  cases rr with
  | cons r' rr=>cases rr;obtain⟨t,rfl⟩:=r;obtain⟨t',rfl⟩:=r';exact call_range_2 (GV I1 q1 q2 q3 q4 q)
def X4(wi:TI)(g:TG)(tb:TS):TS:=λD Y H=>wi Y H λJ H1=>∃W:Nat->Nat->St->Hp->Prop,(∃m,W 0 m Y H1)/\∀i m Y H,W i m Y H->
 (J.stop i H/\D.nx Y H)\/(J.go i H/\∃N:St->Hp->Prop,(∀σ' H',N σ' H'->∃m',m'<m/\W (i+1) m' σ' H')/\∀x H',J.oY i H x H'->g x Y H' λσ2 H2=>tb {D with nx:=N,ct:=N,bk:=D.nx} σ2 H2)
noncomputable def Cf(fp:QXQ)(h:Go):QQY:=fp.filterMap λb=>(h.get? b).map λo=>(b,o)
def vP{fp:QXQ}{h:Go}{b:Uf}{o:Obj}(hb:b∈fp)(e:h.get? b=ga o):(b,o)∈Cf fp h:=kS.mpr ⟨b,hb,by rw[e];rfl⟩
def K0{p:Uf×Obj}(hp:p∈Cf fp h):p.1∈fp/\h.get? p.1=ga p.2:=by
 obtain⟨b,hb,e⟩:=kS.mp hp;cases q:h.get? b with
 | none=>rw[q]at e;cases e
 | some o=>rw[q]at e;have e':(b,o)=p:=df e;subst e';exact⟨hb,q⟩
def Inv.pinned{YL:QQY}{fp:QXQ}(I:Inv X YL Y H s)(hf:∀b∈fp,zT X YL H b)(ho:∀b∈fp,∃o,s.heap.get? b=ga o/\∀v,o.data≠.cell v):Inv X (YL++Cf fp s.heap) Y H s:=
 I.nR λp hp=>(dG.mp hp).elim (λz=>I.pin p (dO _ z)) λz=>by obtain⟨hb,e⟩:=K0 z;obtain⟨f0,f1,f2,_⟩:=hf p.1 hb;obtain⟨o,e',d⟩:=ho p.1 hb;rw[e]at e';cases e';exact⟨e,f0,f1,f2,d⟩
def Inv.mX{YL pl:QQY}(I:Inv X (YL++pl) Y H s):Inv X YL Y H s:=I.nR λp hp=>I.pin p (dO _ (eC _ hp))
def Ti{tb:TS}(hp:PassesOwn (Tk X.prog X.w) X.A X.env X.xe)(hc:X.calm=Db)(hi:PI X tg iter wi)(hg:PG X tg g)(hb:Dh X body tb) (hs:∀x,XV iter X.env x=pure x:=by intro _;rfl):PS X (.For tg iter body [] pos) (X4 wi g tb):=by
 intro YL s Y H D I h;refine wpAny_For (tj (hi YL s Y H _ I h) λv s1 h1=>tj h1 λitv s2 h2=>?_) hs;obtain⟨it,fp,tn,J,H2,e,I2,T,Y4,f2,W,⟨m0,w0⟩,turn⟩:=h2;subst e;have Z4:∀{H':Hp},(∀b∈fp,H' b=Fa)->∀b∈fp,zT X YL H' b:=λhn b hb=>⟨hn b hb,(f2 b hb).2⟩;refine codeAny_forLoop_any (λn s'=>∃i σ' H',Inv X YL σ' H' s'/\tn i s'.heap/\(∀b∈fp,H' b=Fa)/\W i n σ' H') ?_ m0 ⟨0,Y,H2,I2,Y4,λb hb=>(f2 b hb).1,w0⟩
 rintro n s3 ⟨i,σ3,H3,I3,ZJ,fr3,w3⟩
 rcases turn i n σ3 H3 w3 with⟨stop,qn⟩|⟨go,N,hN,step⟩
 .refine gD hp (tj (T.done X Z' Z' Z' hc i YL s3 σ3 H3 X.xe I3 (Z4 fr3) ZJ stop) λr s4 ⟨hr,I4⟩=>?_);subst hr;exact gS ⟨σ3,H3,I4,qn⟩
 .refine gD hp (tj (T.item X Z' Z' Z' hc i YL s3 σ3 H3 X.xe I3 (Z4 fr3) ZJ go) λr s4 ⟨u,hr,h4⟩=>?_);subst hr;refine gD hp (tj h4 λ_ s5 zz=>?_);obtain⟨x,H5,I5,r5,y5,st5,fr5⟩:=zz;have I5':=I5.pinned (Z4 fr5) (T.obj _ _ st5);refine gD hp (tj (hg _ s5 σ3 H5 x u _ I5' r5 (step x H5 y5)) λ_ s6 ⟨σ6,H6,I6,q6⟩=>?_);refine gD hp (tj (hb _ s6 σ6 H6 _ I6 q6) λf s7 q7=>?_);have again:∀{σ7:St} {H7:Hp},Inv X (YL++Cf fp s5.heap) σ7 H7 s7->N σ7 H7->∃m,m<n/\∃i σ' H',Inv X YL σ' H' s7/\tn i s7.heap/\(∀b∈fp,H' b=Fa)/\W i m σ' H':=λ{σ7 H7} I7 n7=>by obtain⟨m',hm,w7⟩:=hN σ7 H7 n7;refine⟨m',hm,i+1,σ7,H7,I7.mX,T.keep _ _ _ st5 λb hb o e=>(I7.pin (b,o) (dO _ (dO _ (vP hb e)))).1,λb hb=>?_,w7⟩;obtain⟨o,e,d⟩:=T.obj _ _ st5 b hb;exact(I7.pin (b,o) (dO _ (dO _ (vP hb e)))).2.1
  cases f with
  | next=>obtain⟨σ7,H7,I7,n7⟩:=q7;exact again I7 n7
  | cont=>obtain⟨σ7,H7,I7,n7⟩:=q7;exact again I7 n7
  | brk=>obtain⟨σ7,H7,I7,q7⟩:=q7;exact⟨σ7,H7,I7.mX,q7⟩
  | ret v=>obtain⟨x7,σ7,H7,I7,r7,q7⟩:=q7;exact⟨x7,σ7,H7,I7.mX,r7,q7⟩
abbrev R2:=V->V->Hp->VK->Prop
def xX(X:Cx)(f:Vl->Vl->Sem Vl)(r:R2):Prop:=
 ∀(YL:QQY) (s:Sd) (Y:St) (H:Hp) (x y:V) (v u:Vl) (Q:VK),Inv X YL Y H s->rj x v->rj y u->r x y H Q->
  pi (Tk X.prog X.w) X.A (f v u) (EP X YL Y Q) X.xe s
def X2(X:Cx)(f:Vl->Sem Vl)(r:V->Hp->VK->Prop):Prop:=
 ∀(YL:QQY) (s:Sd) (Y:St) (H:Hp) (x:V) (v:Vl) (Q:VK),Inv X YL Y H s->rj x v->r x H Q->
  pi (Tk X.prog X.w) X.A (f v) (EP X YL Y Q) X.xe s
def Ap(X:Cx)(f:Vl)(r:T0 V->Hp->VK->Prop):Prop:=
 ∀(YL:QQY) (s:Sd) (Y:St) (H:Hp) (xs:T0 V) (us:T0 Vl) (Q:VK),Inv X YL Y H s->qK xs us->r xs H Q->
  pi (Tk X.prog X.w) X.A (call f us) (EP X YL Y Q) X.xe s
def VI(r:R2)(ta tb:TE):TE:=λY H Q=>ta Y H λx H1=>tb Y H1 λy H2=>r x y H2 Q
def YF(r:V->Hp->VK->Prop)(ta:TE):TE:=λY H Q=>ta Y H λx H1=>r x H1 Q
def rI(C:Int->Int->Prop)(g:Int->Int->V):R2:=λx y H Q=>∃i j,x=.int i/\y=.int j/\C i j/\Q (g i j) H
def SD(g:Int->Int->V):R2:=λx y H Q=>∃i j,x=.int i/\y=.int j/\Q (g i j) H
def rU(g:Int->V):V->Hp->VK->Prop:=λx H Q=>∃i,x=.int i/\Q (g i) H
variable {tc:TE}
section
variable {a b c:zn}
def Uw(ha:PE X a ta)(hb:PE X b tb){YL:QQY}{s:Sd}{Y:St}{H:Hp}{R:V->V->Hp->Prop}(I:Inv X YL Y H s) (h:ta Y H λx H1=>tb Y H1 λy H2=>R x y H2) {Q:QQX} {f:Vl->Vl->Sem Vl} (hf:∀v u s2 x y H2,Inv X YL Y H2 s2->rj x v->rj y u->R x y H2->pi (Tk X.prog X.w) X.A (f v u) Q X.xe s2):
  pi (Tk X.prog X.w) X.A (wp a X.env) (λv s₁=>pi (Tk X.prog X.w) X.A (wp b X.env) (λu s₂=>pi (Tk X.prog X.w) X.A (f v u) Q X.xe s₂) X.xe s₁) X.xe s:=by
 refine tj (ha YL s Y H _ I h) λv s1 zz=>x5 zz λx H1 I1 r1 q1=>?_;refine tj (hb YL s1 Y H1 _ I1 q1) λu s2 zz=>x5 zz λy H2 I2 r2 q2=>?_;exact hf v u s2 x y H2 I2 r1 r2 q2
def Sf{op:XYc}(ho:xX X (wS op) r)(ha:PE X a ta)(hb:PE X b tb):PE X (.BinOp a op b pos) (VI r ta tb):=by intro YL s Y H Q I h;exact wpAny_BinOp (Uw ha hb I h λv u s2 x y H2 I2 rx ry q=>ho YL s2 Y H2 x y v u Q I2 rx ry q)
def VY{op:UnaryOp}(ho:X2 X (unaryOp op) r)(ha:PE X a ta):PE X (.UnaryOp op a pos) (YF r ta):=by intro YL s Y H Q I h;exact UnaryOp_ (tj (ha YL s Y H _ I h) λv s1 zz=>x5 zz λx H1 I1 r1 q1=>ho YL s1 Y H1 x v Q I1 r1 q1)
def XM{f:Vl->Vl->Sem Vl}{C:Int->Int->Prop}{g:Int->Int->Int} (rule:∀(i j:Int) (t u:Tok) (s:Sd) (Q:QQX) (E:QQX),C i j->Q (.int (g i j) s.toks) {s with toks:=s.toks+1}->pi (Tk X.prog X.w) X.A (f (.int i t) (.int j u)) Q E s):
  xX X f (rI C λi j=>.int (g i j)):=by
 intro YL s Y H x y v u Q I rx ry h;obtain⟨i,j,rfl,rfl,hc,q⟩:=h;obtain⟨t,rfl⟩:=rx;obtain⟨t',rfl⟩:=ry;exact rule i j t t' s _ _ hc ⟨.int (g i j),H,I.tok _,⟨_,Z'⟩,q⟩
def VU{f:Vl->Vl->Sem Vl}{g:Int->Int->Int} (rule:∀(i j:Int) (t u:Tok) (s:Sd) (Q:QQX) (E:QQX),Q (.int (g i j) s.toks) {s with toks:=s.toks+1}->pi (Tk X.prog X.w) X.A (f (.int i t) (.int j u)) Q E s):
  xX X f (SD λi j=>.int (g i j)):=by
 intro YL s Y H x y v u Q I rx ry h;obtain⟨i,j,rfl,rfl,q⟩:=h;obtain⟨t,rfl⟩:=rx;obtain⟨t',rfl⟩:=ry;exact rule i j t t' s _ _ ⟨.int (g i j),H,I.tok _,⟨_,Z'⟩,q⟩
def Rj{f:Vl->Vl->Sem Vl}{g:Int->Int->Bool} (rule:∀(i j:Int) (t u:Tok) (s:Sd) (Q:QQX) (E:QQX),Q (.bool (g i j)) s->pi (Tk X.prog X.w) X.A (f (.int i t) (.int j u)) Q E s):
  xX X f (SD λi j=>.bl (g i j)):=by
 intro YL s Y H x y v u Q I rx ry h;obtain⟨i,j,rfl,rfl,q⟩:=h;obtain⟨t,rfl⟩:=rx;obtain⟨t',rfl⟩:=ry;exact rule i j t t' s _ _ ⟨.bl (g i j),H,I,Z',q⟩
def Wl(i j:Int):Prop:=0<j/\j<1073741824
def D4(i j:Int):Prop:=(-(2 ^ 64)<i/\i<2 ^ 64)\/(-(2 ^ 64)<j/\j<2 ^ 64)
def D4.ok(h:D4 i j):IntMulOk i j:=by
 rcases h with⟨h1,h2⟩|⟨h1,h2⟩
 .exact .of_left (intBits_le_64 h1 h2)
 .exact .of_right (intBits_le_64 h1 h2)
def SS:xX X (wS .Add) (SD λi j=>.int (i+j)):=VU λ_ _ _ _ _ _ _ q=>add_int q
def SZ:xX X (wS .Sub) (SD λi j=>.int (i - j)):=VU λ_ _ _ _ _ _ _ q=>sub_int q
def S0:xX X (wS .Mult) (rI D4 λi j=>.int (i*j)):=XM λ_ _ _ _ _ _ _ hc q=>mul_int q hc.ok
def PJ:xX X (wS .FloorDiv) (rI Wl λi j=>.int (i / j)):=XM λi j _ _ _ _ _ hc q=>by have h1:(0:Int)<j:=hc.1;have h2:j<1073741824:=hc.2;exact floordiv_int (by lia) (by rw[Int.fdiv_eq_ediv_of_nonneg i (by lia)];exact q) (.inl (PyProof.noPylong_small (by lia)))
def TN:xX X (wS .Mod) (rI (λ_ j=>0<j) λi j=>.int (i % j)):=XM λi j _ _ _ _ _ hc q=>by have h1:(0:Int)<j:=hc;exact mod_int' (by lia) (by rw[Int.fmod_eq_emod_of_nonneg i (by lia)];exact q)
def Yv{f:Vl->Sem Vl}{g:Int->Int} (rule:∀(i:Int) (t:Tok) (s:Sd) (Q:QQX) (E:QQX),Q (.int (g i) s.toks) {s with toks:=s.toks+1}->pi (Tk X.prog X.w) X.A (f (.int i t)) Q E s):
  X2 X f (rU λi=>.int (g i)):=by
 intro YL s Y H x v Q I rx h;obtain⟨i,rfl,q⟩:=h;obtain⟨t,rfl⟩:=rx;exact rule i t s _ _ ⟨.int (g i),H,I.tok _,⟨_,Z'⟩,q⟩
def UM:X2 X (unaryOp .USub) (rU λi=>.int (-i)):=Yv λ_ _ _ _ _ q=>neg_int q
end
section
variable {a b c:zn}
def Jh{YL:QQY}{Q:VK}{k k':Bool}(I:Inv X YL Y H s)(q:Q (.bl k) H)(e:k=k'):EP X YL Y Q (.bool k') s:=by subst e;exact⟨.bl k,H,I,Z',q⟩
def Vr:xX X (Op .Lt) (SD λi j=>.bl (decide (i<j))):=Rj λ_ _ _ _ _ _ _ q=>lt_int q
def WI:xX X (Op .LtE) (SD λi j=>.bl (decide (i<=j))):=Rj λ_ _ _ _ _ _ _ q=>le_int q
def WR:xX X (Op .Gt) (SD λi j=>.bl (decide (j<i))):=Rj λ_ _ _ _ _ _ _ q=>gt_int q
def VH:xX X (Op .GtE) (SD λi j=>.bl (decide (j<=i))):=Rj λ_ _ _ _ _ _ _ q=>ge_int q
def LS:xX X (Op .In) (λx y H Q=>∃i j,x=.str i/\y=.str j/\Q (.bl (!(Builtin.Str.occurrences j i 0 j.length 1).isEmpty)) H):=by intro YL s Y H x y v u Q I rx ry h;obtain⟨i,j,rfl,rfl,q⟩:=h;obtain⟨t,rfl⟩:=rx;obtain⟨t',rfl⟩:=ry;exact in_str (Jh I q Z')
def Td:xX X (Op .Is) (λx y H Q=>y=.mM/\Q (.bl (decide (x=.mM))) H):=by
 intro YL s Y H x y v u Q I rx ry h;obtain⟨rfl,q⟩:=h;cases ry;refine is_none_gen (Jh I q ?_);cases x<;>first
  | (cases rx;rfl)
  | (obtain⟨t,rfl⟩:=rx;rfl)
def QV:xX X (Op .IsNot) (λx y H Q=>y=.mM/\Q (.bl (!decide (x=.mM))) H):=by
 intro YL s Y H x y v u Q I rx ry h;obtain⟨rfl,q⟩:=h;cases ry;refine isnot_none_gen (Jh I q ?_);cases x<;>first
  | (cases rx;rfl)
  | (obtain⟨t,rfl⟩:=rx;rfl)
def IV(b:zn){op:CmpOp}(h:op≠.In:=by decide)(h2:op≠.NotIn:=by decide):AT op b=pc:=by
 have e1:(op==CmpOp.In)=pc:=by cases op<;>first|rfl|exact absurd Z' h
 have e2:(op==CmpOp.NotIn)=pc:=by cases op<;>first|rfl|exact absurd Z' h2
 cases b<;>simp[AT,e1,e2]
def JU{op:CmpOp}(ho:xX X (Op op) r)(ha:PE X a ta)(hb:PE X b tb)(hm:AT op b=pc):PE X (.Compare a [op] [b] pos) (VI r ta tb):=by intro YL s Y H Q I h;exact wpAny_Compare1 (Uw ha hb I h λv u s2 x y H2 I2 rx ry q=>ho YL s2 Y H2 x y v u Q I2 rx ry q) hm
def SJ(t:TE):TT:=λY H Q=>t Y H λx H'=>∃k,x=.bl k/\Q k H'
def Kh{op:CmpOp}(ho:xX X (Op op) r)(ha:PE X a ta)(hb:PE X b tb)(hm:AT op b=pc):PT X (.Compare a [op] [b] pos) (SJ (VI r ta tb)):=by
 intro YL s Y H Q I h;refine wpAny_isTrue_Compare1 (tj (ha YL s Y H _ I h) λv s1 zz=>x5 zz λx H1 I1 r1 q1=>tj (hb YL s1 Y H1 _ I1 q1) λu s2 zz=>x5 zz λy H2 I2 r2 q2=>
  tj (ho YL s2 Y H2 x y v u _ I2 r1 r2 q2) λc s3 zz=>?_) hm
 obtain⟨z,H3,I3,r3,k,e,q3⟩:=zz;subst e;cases r3;exact fk ⟨H3,I3,q3⟩
def Ov(r r':R2)(ta tb tc:TE):TE:=λY H Q=>ta Y H λx H1=>tb Y H1 λy H2=>r x y H2 λz H3=>∃k,z=.bl k/\
 (if k=Db then tc Y H3 λw' H4=>r' y w' H4 Q else Q (.bl pc) H3)
def ON{op ZD:CmpOp}(ho:xX X (Op op) r)(Zs:xX X (Op ZD) r')(ha:PE X a ta)(hb:PE X b tb)(hc:PE X c tc) (hm:lastMarks [op,ZD] [b,c]=pc:=by with_unfolding_all rfl):PE X (.Compare a [op,ZD] [b,c] pos) (Ov r r' ta tb tc):=by
 intro YL s Y H Q I h;refine Compare_chain (tj (ha YL s Y H _ I h) λv s1 zz=>x5 zz λx H1 I1 r1 q1=>chain_link (tj (hb YL s1 Y H1 _ I1 q1) λu s2 zz=>x5 zz λy H2 I2 r2 q2=>
  tj (ho YL s2 Y H2 x y v u _ I2 r1 r2 q2) λd s3 zz=>?_)) hm
 obtain⟨z,H3,I3,r3,k,e,q3⟩:=zz;subst e;cases r3;refine fk ?_;cases k with
 | false=>exact ite_ff ⟨.bl pc,H3,I3,Z',q3⟩
 | true=>exact ite_tt (chain_last (tj (hc YL s3 Y H3 _ I3 q3) λw' s4 zz=>x5 zz λz' H4 I4 r4 q4=>Zs YL s4 Y H4 y z' u w' Q I4 r2 r4 q4))
def Nl{op ZD:CmpOp}(ho:xX X (Op op) r)(Zs:xX X (Op ZD) r')(ha:PE X a ta)(hb:PE X b tb)(hc:PE X c tc) (hm:lastMarks [op,ZD] [b,c]=pc:=by with_unfolding_all rfl):PT X (.Compare a [op,ZD] [b,c] pos) (SJ (Ov r r' ta tb tc)):=by
 intro YL s Y H Q I h;refine isTrue_chain (tj (ha YL s Y H _ I h) λv s1 zz=>x5 zz λx H1 I1 r1 q1=>test_link (tj (hb YL s1 Y H1 _ I1 q1) λu s2 zz=>x5 zz λy H2 I2 r2 q2=>
  tj (ho YL s2 Y H2 x y v u _ I2 r1 r2 q2) λd s3 zz=>?_)) hm
 obtain⟨z,H3,I3,r3,k,e,q3⟩:=zz;subst e;cases r3;refine fk ?_;cases k with
 | false=>obtain⟨k',e',q'⟩:=q3;cases e';exact ite_ff ⟨H3,I3,q'⟩
 | true=>refine ite_tt (test_last (tj (hc YL s3 Y H3 _ I3 q3) λw' s4 zz=>x5 zz λz' H4 I4 r4 q4=>tj (Zs YL s4 Y H4 y z' u w' _ I4 r2 r4 q4) λd' s5 zz=>?_));obtain⟨z2,H5,I5,r5,k2,e2,q5⟩:=zz;subst e2;cases r5;exact fk ⟨H5,I5,q5⟩
def zg:(Ch:Nat)<2 ^ 63:=by rw[dM];decide
def IE:xX X (wS .Add) (λx y H Q=>∃i j,x=.str i/\y=.str j/\i.length+j.length<=Ch/\Q (.str (i++j)) H):=by intro YL s Y H x y v u Q I rx ry h;obtain⟨i,j,rfl,rfl,hz,q⟩:=h;obtain⟨t,rfl⟩:=rx;obtain⟨t',rfl⟩:=ry;exact add_str (λt' tk=>⟨.str (i++j),H,I.tok _,⟨_,Z'⟩,q⟩) hz
def yZ{x:V}(r:qK [x] us):∃u,us=[u]/\rj x u:=by
 cases r with
 | cons r1 r2=>cases r2;exact⟨_,Z',r1⟩
def On{x y:V}(r:qK [x,y] us):∃u w',us=[u,w']/\rj x u/\rj y w':=by
 cases r with
 | cons r1 r2=>
  cases r2 with
  | cons r3 r4=>cases r4;exact⟨_,_,Z',r1,r3⟩
def Lh(hc:X.calm=Db):Ap X (.builtin "min") (λxs H Q=>∃i j,xs=[.int i,.int j]/\Q (.int (if j<i then j else i)) H):=by
 intro YL s Y H xs us Q I r h;obtain⟨i,j,rfl,q⟩:=h;obtain⟨u,w',rfl,⟨t,rfl⟩,⟨t',rfl⟩⟩:=On r;refine min_two_ints (I.ok.hd hc) λh' tk k=>⟨_,H,I.kept k,?_,q⟩;by_cases hj:j<i
 .rw[de hj,de hj];exact⟨_,Z'⟩
 .rw[cY hj,cY hj];exact⟨_,Z'⟩
end
structure IS(h:Go)(x dx C:Uf)(mA:QQZ):Prop where
 obj:h.get? x=ga (W.instObj C dx)
 ns:h.Ns1 dx mA
 ne:dx≠x
def Lo{h:Go}{dx:Uf}{mA:QQZ}(n:h.Ns1 dx mA):∃od,h.get? dx=ga od/\∀name,W.lookIn name od=ga (mA name):=by
 obtain⟨o,es,ep,ho,hd,hk,_,hm⟩:=n;refine⟨o,ho,λname=>?_⟩;have e:=hm name;unfold nsFind findBy at e;rw[<-Array.find?_toList]at e;unfold W.lookIn;rw[hd];dsimp only;split
 .rename_i y q;rw[q]at e;exact eE ga e
 .rename_i q;rw[q]at e;have a:es.toList.any (·.refKey)=pc:=by rw[ly];intro y hy;obtain⟨z,t,hkey⟩:=hk y (kq.mp hy);simp[DictEntry.refKey,hkey]
  have a':¬es.toList.any (·.refKey)=Db:=by rw[a];exact dA
  rw[cY a'];exact eE ga e
def IS.look(I:IS h x dx C mA):∃od,W.InstAt h x (W.instObj C dx) C (ga od)/\∀name,W.lookIn name od=ga (mA name):=
 let⟨od,ho,hl⟩:=Lo I.ns
 ⟨od,⟨I.obj,Z',Z',ho⟩,hl⟩
variable {prog:Pg}{A:Ar}{K:qE}{dx C:Uf}{mA:QQZ}{name:Str}
section
variable {w:Wo}{E:QQX}{x f:Uf}{v:Vl}
def Rg{expr:Bool}{Q:QQX}(X:K.In s.heap)(I:IS s.heap x dx C mA)(hg:W.plainGet K C name=Db)(hh:W.hasDictIn K C=Db) (ha:W.findIn K (.ref C) name=ga Fa) (hv:mA name=ga v) (hv':W.handedIn v=Db) (h:Q v {s with toks:=s.toks+1}):
  pi (Tk prog w) A (getAttr (.ref x) name expr) Q E s:=by
 obtain⟨od,J,hl⟩:=I.look;exact W.get_value X J (kB hg).1 (W.findObj_own hh ha Z' (by rw[hl,hv])) hv' h
def Mv{pl:Sem Bool}{Q:Vl×T0 Vl->Sd->Prop}(X:K.In s.heap)(I:IS s.heap x dx C mA)(hg:W.plainGet K C name=Db) (hf:W.findIn K (.ref C) name=ga (ga (.ref f))) (ht:W.isFn K (.ref f)=Db) (hv:mA name=Fa) (h:Q (.ref f,[.ref x]) s):
  pi (Tk prog w) A (o0 (.ref x) name pl) Q E s:=by
 obtain⟨od,J,hl⟩:=I.look;exact W.method_fn X J (kB hg).1 (kB hg).2 hf (eP.mp ht) (by show(W.lookIn name od).map (·.isSome)=ga pc;rw[hl,hv];rfl) h
def Qh{Q:Unit->Sd->Prop}(X:K.In s.heap)(I:IS s.heap x dx C mA) (hs:W.findIn K (.ref C) "__setattr__"=ga (ga (.builtin "object.__setattr__"))) (hp:W.plainOver K C=Db) (ht:W.takerIn K C name=ga Fa) (hh:W.hasDictIn K C=Db) (hw:PySem.Within mA ns) (hsz:ns.length<=Ch) (h:∀h',IS h' x dx C (λy=>if y=name then ga v else mA y)->Heap.SameBut dx s.heap h'->Q () {s with heap:=h',toks:=s.toks+2}):
  pi (Tk prog w) A (setAttr (.ref x) name v) Q E s:=by
 obtain⟨od,J,hl⟩:=I.look;refine W.set_plain X J hs (W.osa_open (s:={s with toks:=s.toks+1}) (r:=none) X J hp ht λb=>?_);obtain⟨cd,hc,hd'⟩:=W.any_some hh;have hx:s.heap.get? x=ga ⟨.ref C,ga dx,.plain,#[]⟩:=I.obj;refine cU (dh (cU (cU (wpAny_loadPart hx (cU (mq (s:={s with toks:=s.toks+1}) (kC X hc) ?_))))));rw[hd'];refine dh (a:=some dx) (cU (dh (cU ?_)));refine wpAny_nsSet1 (s:={s with toks:=s.toks+1}) I.ns λh' hn2 Zt=>?_;obtain⟨oD,esD,epD,hoD,BV,hcD⟩:=hn2.count (PySem.Within.cons name v hw);refine cU (lO hoD (by rw[BV];exact lP (dZ hcD (by rw[d4];lia))) ?_);exact dh (h _ ⟨(Zt.2 _ (dW I.ne)).trans I.obj,hn2,I.ne⟩ Zt)
def Os{vs:T0 Vl}{kw:T0 (Str×Vl)}(X:K.In s.heap)(hm:W.makesIn K C=Db) (hi:W.findIn K (.ref C) "__init__"=ga (ga (.ref f))) (hf:W.typeIn K (.ref f)=ga (.type "function")) (h:XXj (Tk prog w) (A.under (.builtin "type.__call__" ⟨.ref C::vs,kw⟩)) (.call (.ref f) ⟨.ref (s.heap.objs.size+1)::vs,kw⟩) (W.InitBack (s.heap.objs.size+1) R) {s with heap:=(s.heap.push W.emptyDict).push (W.instObj C s.heap.objs.size)}):
  XXj (Tk prog w) A (.call (.ref C) ⟨vs,kw⟩) R s:=by
 obtain⟨hh,g,d,t,os⟩:=s;exact W.make_core (W.makes_of X hm) (mi X hi) (λself=>W.bind_fn X self hf) (.inl Z') h
end
noncomputable def wq(f:Str)(v:V):T0 (Str×V)->T0 (Str×V)
 | []=>[(f,v)]
 | (g,x)::r=>if g=f then(g,v)::r else(g,x)::wq f v r
theorem Bh(f g:Str)(v:V):∀fs:T0 (Str×V),(wq f v fs).lookup g=if g=f then ga v else fs.lookup g
 | []=>by
  show List.lookup g [(f,v)]=_;by_cases h:g=f
  .have hb:(g==f)=Db:=eP.mpr h;simp only[List.lookup,hb,de h]
  .have hb:(g==f)=pc:=gv.mpr h;simp only[List.lookup,hb,cY h]
 | (k,x)::r=>by
  have ih:=Bh f g v r;rw[show wq f v ((k,x)::r)=(if k=f then(k,v)::r else(k,x)::wq f v r)from Z'];by_cases hk:k=f
  .rw[de hk];by_cases h:g=k
   .have hb:(g==k)=Db:=eP.mpr h;simp only[List.lookup,hb,de (h.trans hk)]
   .have hb:(g==k)=pc:=gv.mpr h;simp only[List.lookup,hb,cY (λe:g=f=>h (e.trans hk.symm))]
  .rw[cY hk];by_cases h:g=k
   .have hb:(g==k)=Db:=eP.mpr h;simp only[List.lookup,hb,cY (λe:g=f=>hk (h.symm.trans e))]
   .have hb:(g==k)=pc:=gv.mpr h;simp only[List.lookup,hb];exact ih
theorem A5(f:Str)(v:V):∀fs:T0 (Str×V),f∈(wq f v fs).map (·.1)/\∀g,g∈fs.map (·.1)->g∈(wq f v fs).map (·.1)
 | []=>⟨by simp[wq],λg h=>by simp at h⟩
 | (k,x)::r=>by
  obtain⟨i1,i2⟩:=A5 f v r;rw[show wq f v ((k,x)::r)=(if k=f then(k,v)::r else(k,x)::wq f v r)from Z'];by_cases hk:k=f
  .rw[de hk];subst hk;exact⟨by simp,λg h=>by simpa using h⟩
  .rw[cY hk];refine⟨?_,λg h=>?_⟩
   .rw[dY];exact dz _ i1
   .rw[dY]at h ⊢;rcases dg.mp h with e|e
    .exact dg.mpr (.inl e)
    .exact dz _ (i2 g e)
theorem Bg(f:Str)(v:V):∀fs:T0 (Str×V),(wq f v fs).length<=fs.length+1
 | []=>by simp[wq]
 | (k,x)::r=>by
  have ih:=Bg f v r;rw[show wq f v ((k,x)::r)=(if k=f then(k,v)::r else(k,x)::wq f v r)from Z'];by_cases hk:k=f
  .rw[de hk,d4,d4];lia
  .rw[cY hk,d4,d4];lia
def yQ.some_of{v:V}(r:yQ (ga v) o):∃u,o=ga u/\rj v u:=by
 cases o with
 | none=>exact(show False from r).elim
 | some u=>exact⟨u,Z',r⟩
def yQ.none_of{o:Option Vl}(r:yQ Fa o):o=Fa:=by
 cases o with
 | none=>rfl
 | some u=>exact(show False from r).elim
def K'{u:Vl}(r:rj v u):W.handedIn u=Db:=by
 cases v with
 | mM=>cases(show u=Value.none from r);rfl
 | bl b=>cases(show u=Value.bool b from r);rfl
 | int i=>obtain⟨t,e⟩:=(show ∃t,u=Value.int i t from r);cases e;rfl
 | str x=>obtain⟨t,e⟩:=(show ∃t,u=Value.str x t from r);cases e;rfl
 | byt b=>obtain⟨t,e⟩:=(show ∃t,u=Value.bytes b t from r);cases e;rfl
 | flt b=>obtain⟨t,e⟩:=(show ∃t,u=Value.float b t from r);cases e;rfl
 | ref a=>cases(show u=Value.ref a from r);rfl
 | ty n=>cases(show u=Value.type n from r);rfl
section
variable {P:Pg}{w:Wo}{a:Uf}{fs fs':T0 (Str × V)}
def Ga(mR:yR P w H h)(e:H a=ga (.ins C dx fs)):∃mA,IS h a dx C mA/\(∀f,yQ (fs.lookup f) (mA f))/\PySem.Within mA (fs.map (·.1))/\fs.length<=1000/\H dx=ga (.own a):=by obtain⟨d,z,ne,ob,mA,n,r,q⟩:=(show tN P w H h a (.ins C dx fs)from mR a _ e);exact⟨mA,⟨ob,n,ne⟩,r,q,z,d⟩
end
structure Cls(K:qE)(C:Uf):Prop where
 pg:W.plainGet K C Str.empty=Db
 hd:W.hasDictIn K C=Db
 po:W.plainOver K C=Db
 sa:W.findIn K (.ref C) "__setattr__"=ga (ga (.builtin "object.__setattr__"))
def Cls.get{K:qE}(c:Cls K C)(f:Str):W.plainGet K C f=Db:=c.pg
def uL(K:qE)(C:Uf)(f:Str):Prop:=W.findIn K (.ref C) f=ga Fa
def uL.pq{K:qE}(n:uL K C f):W.takerIn K C f=ga Fa:=by unfold W.takerIn;rw[show W.findIn K (.ref C) f=ga Fa from n];rfl
structure wj(K:qE)(C:Uf)(m:Str)(f:Uf):Prop where
 at_:W.findIn K (.ref C) m=ga (ga (.ref f))
 fn:W.isFn K (.ref f)=Db
 kp:W.keepIn K (.ref f)=Db
section
variable {Y:St}{a:Uf}{fs:T0 (Str × V)}{f:Str}{v:V}{E:QQX}
def Ct{b:Bool}{Q:QQX}(I:Inv X YL Y H s)(e:H a=ga (.ins C dx fs))(c:Cls X.K C)(n:uL X.K C f)(l:fs.lookup f=ga v) (h:∀u s',Inv X YL Y H s'->rj v u->Q u s'):pi (Tk X.prog X.w) A (getAttr (.ref a) f b) Q E s:=by
 obtain⟨mA,O,r,_,_,_⟩:=Ga I.mR e;obtain⟨u,hu,ru⟩:=yQ.some_of (v:=v) (o:=mA f) (by rw[<-l];exact r f);exact Rg I.nE O (c.get f) c.hd n hu (K' ru) (h u _ (I.tok _) ru)
def C6{pl:Sem Bool}{Q:Vl×T0 Vl->Sd->Prop}(I:Inv X YL Y H s)(e:H a=ga (.ins C dx fs))(c:Cls X.K C)(k:wj X.K C m g)(l:fs.lookup m=Fa) (h:Q (.ref g,[.ref a]) s):pi (Tk X.prog X.w) A (o0 (.ref a) m pl) Q E s:=by
 obtain⟨mA,O,r,_,_,_⟩:=Ga I.mR e;have hn:mA m=Fa:=yQ.none_of (by rw[<-l];exact r m);exact Mv I.nE O (c.get m) k.at_ k.fn hn h
def Cw{u:Vl}{Q:Unit->Sd->Prop}(I:Inv X YL Y H s)(e:H a=ga (.ins C dx fs))(c:Cls X.K C)(n:uL X.K C f)(hl:fs.length<1000)(ry:rj y u) (h:∀s',Inv X YL Y (upd H a (.ins C dx (wq f y fs))) s'->Q () s'):pi (Tk X.prog X.w) A (setAttr (.ref a) f u) Q E s:=by
 obtain⟨mA,O,r,wi,_,ho⟩:=Ga I.mR e;have hz:(fs.map (·.1)).length<=Ch:=by rw[cT,dM];lia
 refine Qh I.nE O c.sa c.po n.pq c.hd wi hz λh' O' sb=>h _ ?_;have hd:∃o,h'.get? dx=ga o:=let⟨o,_,_,e',_⟩:=O'.ns;⟨o,e'⟩;refine I.write (x:=a) (e:=dx) (by rw[e];exact True.intro) (.inr ho) (λb q hb z=>(sb.2 b hb).trans z) hd ?_;refine⟨by rw[qo O.ne];exact ho,?_,O.ne,O'.obj,_,O'.ns,λg=>?_,λg hg=>?_⟩
 .have:=Bg f y fs;lia
 .show yQ ((wq f y fs).lookup g) (if g=f then ga u else mA g);rw[Bh];by_cases q:g=f
  .rw[de q,de q];exact ry
  .rw[cY q,cY q];exact r g
 .by_cases q:g=f
  .rw[q];exact(A5 f y fs).1
  .refine(A5 f y fs).2 g (wi g λz=>hg ?_);show(if g=f then ga u else mA g)=Fa;rw[cY q];exact z
def Inv.made(I:Inv X YL Y H s):Inv X YL Y (upd (upd H s.heap.objs.size (.own (s.heap.objs.size+1))) (s.heap.objs.size+1) (.ins C s.heap.objs.size [])) {s with heap:=(s.heap.push W.emptyDict).push (W.instObj C s.heap.objs.size)}:=by
 have e1:(s.heap.push W.emptyDict).get? s.heap.objs.size=ga W.emptyDict:=dJ s.heap Z';have e2:((s.heap.push W.emptyDict).push (W.instObj C s.heap.objs.size)).get? (s.heap.objs.size+1)=ga (W.instObj C s.heap.objs.size):=by
  have:=dJ (s.heap.push W.emptyDict) (o:=W.instObj C s.heap.objs.size) Z'
  rwa [fR]at this
 have e3:(s.heap.push W.emptyDict).Ns s.heap.objs.size (λ_=>Fa):=⟨W.emptyDict,#[],_,e1,Z',(λe he=>absurd he (by simp)),λ_=>rfl⟩;have I1:=I.laid (a:=s.heap.objs.size) (o:=.own (s.heap.objs.size+1)) (h':=s.heap.push W.emptyDict) (t':=s.toks) (λb u q=>c9 _ q) (dq _) ⟨_,e1⟩;refine I1.laid (a:=s.heap.objs.size+1) (o:=.ins C s.heap.objs.size []) (t':=s.toks) (λb u q=>c9 _ q) (mv (fR _ _)) ?_;have ne:s.heap.objs.size≠s.heap.objs.size+1:=dN (fO _);refine⟨by rw[qo ne,qz],eK _,ne,e2,λ_=>Fa,(lA e3).at λo q=>c9 _ q,λ_=>True.intro,λy hy=>absurd Z' hy⟩
def R8{prog:Pg}{w:Wo}{env:Env}{e:zn}{f:Str}{s:Sd}{Q:QQX}(hb:Rs e f env (wp e env)=wp e env) (h:pi (Tk prog w) A (wp e env) (λo s₁=>pi (Tk prog w) A (getAttr o f Db) Q E s₁) E s):pi (Tk prog w) A (wp (.Attribute e f pos) env) Q E s:=
 Attribute_any_ h (by rw[arm_eval_Attribute,hb])
end
def Xi(K:qE)(ta:TE)(f:Str):TE:=λY H Q=>ta Y H λx H1=>∃a C dx fs v,x=.ref a/\H1 a=ga (.ins C dx fs)/\Cls K C/\uL K C f/\fs.lookup f=ga v/\Q v H1
def XF(K:qE)(ta tv:TE)(f:Str):TS:=λD Y H=>tv Y H λy H1=>ta Y H1 λx H2=>∃a C dx fs,x=.ref a/\H2 a=ga (.ins C dx fs)/\Cls K C/\uL K C f/\fs.length<1000/\
 D.nx Y (upd H2 a (.ins C dx (wq f y fs)))
def PK(X:Cx)(op:XYc)(rd:V->V->Hp->VK->Prop):Prop:=
 ∀(YL:QQY) (s:Sd) (Y:St) (H:Hp) (x y:V) (u v:Vl) (Q:VK),Inv X YL Y H s->rj x u->rj y v->rd x y H Q->pi (Tk X.prog X.w) X.A (inplaceOp op u v) (EP X YL Y Q) X.xe s
def RH(K:qE)(ta tv:TE)(rd:V->V->Hp->VK->Prop)(f:Str):TS:=λD Y H=>ta Y H λx H1=>∃a C dx fs v,x=.ref a/\H1 a=ga (.ins C dx fs)/\Cls K C/\uL K C f/\fs.lookup f=ga v/\
 tv Y H1 λy H2=>rd v y H2 λz H3=>∃dx' fs',H3 a=ga (.ins C dx' fs')/\fs'.length<1000/\D.nx Y (upd H3 a (.ins C dx' (wq f z fs')))
variable {value:zn}{YW tpos:Pos}{tv:TE}
section
variable {o e:zn}{f:Str}
def UZ(he:PE X e ta)(hb:Rs e f X.env (wp e X.env)=wp e X.env):PE X (.Attribute e f pos) (Xi X.K ta f):=by intro YL s Y H Q I h;refine R8 hb (tj (he YL s Y H _ I h) λu s1 zz=>?_);obtain⟨x,H1,I1,rx,a,C,dx,fs,v,ex,ea,c,n,l,q⟩:=zz;subst ex;obtain rfl:u=Value.ref a:=rx;exact Ct I1 ea c n l λu' s2 I2 ru=>⟨v,H1,I2,ru,q⟩
def UY(ha:PE X o ta)(hv:PE X value tv)(hs:sK value (ga (.Attribute o f YW)) pos.line X.env=pure pc):PS X (.Assign [.Attribute o f YW] value pos) (XF X.K ta tv f):=by intro YL s Y H D I h;refine iR (tj (hv YL s Y H _ I h) λu s1 zz=>x5 zz λy H1 I1 ry q=>tj (ha YL s1 Y H1 _ I1 q) λov s2 zz=>?_) hs;obtain⟨x,H2,I2,rx,a,C,dx,fs,ex,ea,c,n,l,q2⟩:=zz;subst ex;obtain rfl:ov=Value.ref a:=rx;exact Cw I2 ea c n l ry λs3 I3=>⟨Y,_,I3,q2⟩
def Lk(ha:PE X o ta)(hv:PE X value tv)(hop:PK X op rd):PS X (.AugAssign (.Attribute o f tpos) op value pos) (RH X.K ta tv rd f):=by intro YL s Y H D I h;refine wpAny_AugAssign_AttributeAny (tj (ha YL s Y H _ I h) λov s1 zz=>?_);obtain⟨x,H1,I1,rx,a,C,dx,fs,v,ex,ea,c,n,l,q⟩:=zz;subst ex;obtain rfl:ov=Value.ref a:=rx;refine Ct I1 ea c n l λu s2 I2 ru=>tj (hv YL s2 Y H1 _ I2 q) λw3 s3 zz=>x5 zz λy H2 I3 ry q3=>tj (hop YL s3 Y H2 v y u w3 _ I3 ru ry q3) λw4 s4 zz=>?_;obtain⟨z,H3,I4,rz,dx',fs',ea',l',q4⟩:=zz;exact Cw I4 ea' c n l' rz λs5 I5=>⟨Y,_,I5,q4⟩
def Xz:V->V->Hp->VK->Prop:=λx y H Q=>∃i j,x=.int i/\y=.int j/\Q (.int (i+j)) H
def X1:V->V->Hp->VK->Prop:=λx y H Q=>∃i j,x=.int i/\y=.int j/\Q (.int (i - j)) H
def Vd:PK X .Add Xz:=by
 rintro YL s Y H x y u v Q I rx ry ⟨i,j,rfl,rfl,q⟩
 obtain⟨t,rfl⟩:=(show ∃t,u=Value.int i t from rx);obtain⟨t',rfl⟩:=(show ∃t',v=Value.int j t' from ry);exact PyProof.Rows.iadd_int ⟨.int (i+j),H,I.tok _,⟨_,Z'⟩,q⟩
def T7:PK X .Sub X1:=by
 rintro YL s Y H x y u v Q I rx ry ⟨i,j,rfl,rfl,q⟩
 obtain⟨t,rfl⟩:=(show ∃t,u=Value.int i t from rx);obtain⟨t',rfl⟩:=(show ∃t',v=Value.int j t' from ry);exact PyProof.Rows.isub_int ⟨.int (i - j),H,I.tok _,⟨_,Z'⟩,q⟩
end
variable {Q:QQX}
section
variable {Y:St}{E:QQX}{c:Vl}{b:Bool}
end
structure sG(k:Nat)(A:Ar):Prop where
 hd:A.handled=Fa
 dp:A.depth+3*k+5<recursionLimit
 un:A.units+16*k+200<XXa
def sG.mono{j k:Nat}(r:sG k A)(h:j<=k):sG j A:=⟨r.hd,by have:=r.dp;lia,by have:=r.un;lia⟩
def sG.deeper{k:Nat}(r:sG (k+1) A)(env:Env):sG k (A.deeper env):=
 ⟨r.hd,by have:=r.dp;show A.depth+1+3*k+5<_;lia,by have:=r.un;show A.units+3+16*k+200<_;lia⟩
def IL{A:Ar}{C:Uf}{us:T0 Vl}{kw:T0 (Str×Vl)}:(A.under (.builtin "type.__call__" ⟨.ref C::us,kw⟩)).depth=A.depth+1:=by first|rfl|simp[Around.under,Code.weight,Code.isCreation,Code.isGuard,Code.isCaller,Code.frames,Code.isFrame,guardIds]
def IB{A:Ar}{C:Uf}{us:T0 Vl}{kw:T0 (Str×Vl)}:(A.under (.builtin "type.__call__" ⟨.ref C::us,kw⟩)).units=A.units+1:=by first|rfl|simp[Around.under,Code.cUnits,Code.frames,Code.isFrame]
def sG.make{k:Nat}(r:sG (k+1) A)(C:Uf)(us:T0 Vl)(kw:T0 (Str×Vl)):sG k (A.under (.builtin "type.__call__" ⟨.ref C::us,kw⟩)):=
 ⟨r.hd,by have:=r.dp;rw[IL];lia,by have:=r.un;rw[IB];lia⟩
def sG.depth(r:sG k A):A.depth<recursionLimit:=by have:=r.dp;lia
def sG.units(r:sG k A):A.units+64<XXa:=by have:=r.un;lia
def Vt:TA:=λ_ H Q=>Q [] H
def WQ(ta:TE)(tr:TA):TA:=λY H Q=>ta Y H λx H1=>tr Y H1 λxs H2=>Q (x::xs) H2
variable {es:T0 zn}
section
variable {e:zn}{t:TA}
def Ux:PA X [] Vt:=λ_ _ _ _ H Q I h=>iJ ⟨[],H,I,.nil,h⟩
def RV(ha:PE X e te)(hr:PA X es t)(hs:Bt X e es:=by rfl):PA X (e::es) (WQ te t):=by intro pos YL s Y H Q I h;rw[hs];show pi _ _ (spliced ((pc,wp e X.env)::sB pos (Tl es X.env))) _ _ s;refine iz (tj (ha YL s Y H _ I h) λu s1 zz=>x5 zz λx H1 I1 r1 q1=>?_);exact tj (hr pos YL s1 Y H1 _ I1 q1) λus s2 zz=>x5 zz λxs H2 I2 r2 q2=>⟨x::xs,H2,I2,.cons r1 r2,q2⟩
def Xt(t:TA):TE:=λY H Q=>t Y H λxs H1=>xs.length<=Ch/\∀p,H1 p=Fa->Q (.ref p) (upd H1 p (.tup xs))
def Xm(t:TA):TE:=λY H Q=>t Y H λxs H1=>xs.length<=Ch/\∀p,H1 p=Fa->Q (.ref p) (upd H1 p (.lst xs))
def Ut{x1}(h:PA X es t):PE X (.Tuple es x1 pos) (Xt t):=by intro YL s Y H Q I hq;refine wpAny_Tuple_spliced (tj (h pos YL s Y H _ I hq) λus s1 ⟨xs,H1,I1,r,z,q⟩=>⟨by rw[<-r.length];exact z,?_⟩);have hf:H1 s1.heap.objs.size=Fa:=I1.mR.fresh (dq _);refine⟨.ref s1.heap.objs.size,upd H1 s1.heap.objs.size (.tup xs),I1.laid (t':=s1.toks) (λb u e=>c9 _ e) (dq _) ?_,Z',q _ hf⟩;exact⟨z,us,r,⟨_,dJ _ Z',Z',⟨_,Z'⟩,Z'⟩⟩
def Te(h:PA X es t):PE X (.List es pos) (Xm t):=by intro YL s Y H Q I hq;refine wpAny_List_spliced (tj (h pos YL s Y H _ I hq) λus s1 ⟨xs,H1,I1,r,z,q⟩=>⟨by rw[<-r.length];exact z,?_⟩);have hf:H1 s1.heap.objs.size=Fa:=I1.mR.fresh (dq _);refine⟨.ref s1.heap.objs.size,upd H1 s1.heap.objs.size (.lst xs),I1.laid (t':=s1.toks) (λb u e=>c9 _ e) (dq _) ?_,Z',q _ hf⟩;exact⟨z,us,0,r,dJ _ Z'⟩
end
abbrev Sp:=T0 V->Hp->VK->XK->Prop
abbrev Mb:=T0 Env->Hp->Sd->XK->Vl->Sd->Prop
structure Im(P:Pg)(w:Wo)(K:qE)(mg:QQZ)(base:Go)(A:Ar)(outer:List Env)(s:Sd)(H:Hp):Prop where
 frames:A.frames=ga outer
 mod:Mod K mg base
 bs:∀b o,base.get? b=ga o->s.heap.get? b=ga o/\H b=Fa
 n9:base.objs.size<=s.heap.objs.size
 ny:s.heap.FunFrames base outer
 oB:∀b∈xb outer,H b=Fa
 mR:yR P w H s.heap
 bare:XYb s.gens
def CE(outer:T0 Env)(P:Pg)(w:Wo)(H:Hp)(s:Sd)(Q:VK)(u:Vl)(s':Sd):Prop:=
 ∃v H',s'.os=s.os/\XYb s'.gens/\Un (xb outer) [] H H' s.heap s'.heap/\yR P w H' s'.heap/\rj v u/\Q v H'
def CR(CX:Mb)(outer:T0 Env)(P:Pg)(w:Wo)(H:Hp)(s:Sd)(Q:VK)(E:XK)(r:Result)(s':Sd):Prop:=
 match r with
 | .ok (.ret u)=>CE outer P w H s Q u s'
 | .ok _=>False
 | .error e=>CX outer H s E e s'
structure xS(P:Pg)(w:Wo)(K:qE)(mg:QQZ)(base:Go)(CX:Mb)(k:Nat)(f:Uf)(fd:Ix)(ps:QQQ)(sp:Sp):Prop where
 len:∀vs H Q E,sp vs H Q E->vs.length=ps.length
 run:∀(A:Ar) (outer:List Env) (s:Sd) (H:Hp) (args:Args) (us:List Vl) (vs:List V) (Q:VK) (E:XK),sG k A->Im P w K mg base A outer s H->BindsTo s fd args (ps.zip us)->qK vs us->sp vs H Q E->
  XXj (Tk P w) A (.call (.ref f) args) (CR CX outer P w H s Q E) s
def Im.make{K:qE}(e:Im P w K mg base A outer s H)(C:Uf)(us:T0 Vl)(kw:T0 (Str×Vl)):
  Im P w K mg base (A.under (.builtin "type.__call__" ⟨.ref C::us,kw⟩)) outer s H:=⟨by first|exact e.frames|(simpa [Around.under,Code.envs,Code.isFrame,pushEnvs]using e.frames),e.mod,e.bs,e.n9,e.ny,e.oB,e.mR,e.bare⟩
variable {s':Sd}
section
variable {Y:St}
def Inv.oo(I:Inv X YL Y H s):Im X.prog X.w X.K X.mg X.base X.A X.stack s H:=
 ⟨I.ok.frames,I.ok.mod,I.bs,dZ I.ok.n9 I.sz,I.stack,I.nK,I.mR,I.bare⟩
def Inv.after{Q:VK}{u:Vl}(I:Inv X YL Y H s)(h:CE X.stack X.prog X.w H s Q u s'):EP X YL Y Q u s':=by obtain⟨v,H',os,bare,un,mR,r,q⟩:=h;obtain⟨hh,g,d,t,os'⟩:=s';obtain rfl:os'=s.os:=os;exact⟨v,H',I.call (h':=hh) (g':=g) (d':=d) (t':=t) (ch:=[]) un mR bare (λb z=>absurd z (by simp)),r,q⟩
end
def V4(sp:Sp)(Zy:T0 V)(E:XK)(t:TA):TE:=λY H Q=>t Y H λvs H1=>sp (vs++Zy) H1 Q E
def VJ(C:Uf)(sp:Sp)(Zy:T0 V)(E:XK)(t:TA):TE:=λY H Q=>t Y H λvs H1=>∀x dx,H1 x=Fa->H1 dx=Fa->dx≠x->
 sp (.ref x::(vs++Zy)) (upd (upd H1 dx (.own x)) x (.ins C dx [])) (λv H2=>v=.mM/\Q (.ref x) H2) E
def vc(K:qE)(fd:Ix)(ps:QQQ)(ds:T0 Vl):Prop:=
 ∀(s:Sd) (us:T0 Vl),K.In s.heap->(us++ds).length=ps.length->BindsTo s fd ⟨us,[]⟩ (ps.zip (us++ds))
def vc.all{K:qE}{fd:Ix}{ps:QQQ}(h:∀us:T0 Vl,us.length=ps.length->bindArgs fd ⟨us,[]⟩=pure (ps.zip us)):vc K fd ps []:=λs us _ hl=>by rw[eG]at hl ⊢;exact .of_eq (h us hl)
def zo(CX:Mb)(X:Cx)(E:XK):Prop:=∀(YL:QQY) (Y:St) (H:Hp) (s:Sd) (e:Vl) (s':Sd),Inv X YL Y H s->CX X.stack H s E e s'->X.xe e s'
variable {CX:Mb}{k:Nat}{fd:Ix}{ps:QQQ}{sp:Sp}{Zy:T0 V}{ds:T0 Vl}{m:Str}{p YO:Pos}
section
variable {f:Uf}{E:XK}{x:Str}{e o:zn}{t:TA}
def EZ{YL:QQY}{Q:VK}(F:xS X.prog X.w X.K X.mg X.base CX k f fd ps sp)(hr:sG k X.A)(hb:vc X.K fd ps ds)(hd:qK Zy ds)(hx:zo CX X E) (I:Inv X YL Y H s) (r:qK vs us) (h:sp (vs++Zy) H Q E):pi (Tk X.prog X.w) X.A (call (.ref f) us) (EP X YL Y Q) X.xe s:=by
 have r2:qK (vs++Zy) (us++ds):=r.append hd;have hl:(us++ds).length=ps.length:=by rw[<-r2.length];exact F.len _ _ _ _ h
 refine iS (gL (F.run X.A X.stack s H ⟨us,[]⟩ (us++ds) (vs++Zy) Q E hr I.oo (hb s us I.nE hl) r2 h) λr s' hq=>?_);cases r with
 | error e=>exact hx YL Y H s e s' I hq
 | ok fl=>
  cases fl with
  | ret u=>exact I.after hq
  | next=>exact False.elim hq
  | brk=>exact False.elim hq
  | cont=>exact False.elim hq
def Kv(F:xS X.prog X.w X.K X.mg X.base CX k f fd ps sp)(hr:sG k X.A)(hg:Gl X x)(hm:X.mg x=ga (.ref f))(hk:W.keepIn X.K (.ref f)=Db)(hb:vc X.K fd ps ds)(hd:qK Zy ds)(hx:zo CX X E) (ha:PA X (e::es) t) (Y7:Ab x:=by decide) (he:Bt X e es:=by rfl) (Y6:C5 X pos es:=by rfl):
  PE X (.Call (.Name x p) (e::es) [] pos) (V4 sp Zy E t):=by
 intro YL s Y H Q I h;refine fU (xq I hg hm ?_ Y7);refine iT (h₀:=X.base) I.ok.mod.oz hk (tj (ha pos YL s Y H _ I h) λus s1 zz=>x5 zz λvs H1 I1 r q=>⟨I1.nE,?_⟩) he Y6;exact EZ F hr hb hd hx I1 r q
structure Mk(K:qE)(C f:Uf):Prop where
 makes:W.makesIn K C=Db
 init:W.findIn K (.ref C) "__init__"=ga (ga (.ref f))
 fn:W.isFn K (.ref f)=Db
 kp:W.keepIn K (.ref C)=Db
def OP{YL:QQY}{Q:VK}(M:Mk X.K C f)(F:xS X.prog X.w X.K X.mg X.base CX k f fd ps sp)(hr:sG (k+1) X.A)(hb:vc X.K fd ps ds)(hd:qK Zy ds) (hx:zo CX X E) (I:Inv X YL Y H s) (r:qK vs us) (h:∀x dx,H x=Fa->H dx=Fa->dx≠x->sp (.ref x::(vs++Zy)) (upd (upd H dx (.own x)) x (.ins C dx [])) (λv H2=>v=.mM/\Q (.ref x) H2) E):
  pi (Tk X.prog X.w) X.A (call (.ref C) us) (EP X YL Y Q) X.xe s:=by
 have hq:=h (s.heap.objs.size+1) s.heap.objs.size (I.mR.fresh (gX _)) (I.mR.fresh (dq _)) (dN (fO _));have I2:=Inv.made (C:=C) I;have r2:qK (V.ref (s.heap.objs.size+1)::(vs++Zy)) (Value.ref (s.heap.objs.size+1)::(us++ds)):=.cons Z' (r.append hd);have hl:(Value.ref (s.heap.objs.size+1)::us++ds).length=ps.length:=by have e:=r2.length;rw[F.len _ _ _ _ hq]at e;exact e.symm
 refine iS (Os (f:=f) I.nE M.makes M.init (eP.mp M.fn) (gL (F.run _ X.stack _ _ ⟨Value.ref (s.heap.objs.size+1)::us,[]⟩ (Value.ref (s.heap.objs.size+1)::(us++ds)) _ _ E (hr.make C us [])
  (I2.oo.make C us []) (hb _ (Value.ref (s.heap.objs.size+1)::us) I2.nE hl) r2 hq) λr s' hq'=>?_))
 cases r with
 | error e=>exact hx YL Y _ _ e s' I2 hq'
 | ok fl=>
  cases fl with
  | ret u=>obtain⟨v,H',I3,rv,ev,q3⟩:=I2.after hq';subst ev;exact⟨rv,⟨V.ref (s.heap.objs.size+1),H',I3,Z',q3⟩⟩
  | next=>exact False.elim hq'
  | brk=>exact False.elim hq'
  | cont=>exact False.elim hq'
def Q2(M:Mk X.K C f)(F:xS X.prog X.w X.K X.mg X.base CX k f fd ps sp)(hr:sG (k+1) X.A)(hg:Gl X x)(hm:X.mg x=ga (.ref C))(hb:vc X.K fd ps ds)(hd:qK Zy ds)(hx:zo CX X E) (ha:PA X (e::es) t) (Y7:Ab x:=by decide) (he:Bt X e es:=by rfl) (Y6:C5 X pos es:=by rfl):
  PE X (.Call (.Name x p) (e::es) [] pos) (VJ C sp Zy E t):=by
 intro YL s Y H Q I h;refine fU (xq I hg hm ?_ Y7);refine iT (h₀:=X.base) I.ok.mod.oz M.kp (tj (ha pos YL s Y H _ I h) λus s1 zz=>x5 zz λvs H1 I1 r q=>⟨I1.nE,?_⟩) he Y6;exact OP M F hr hb hd hx I1 r q
end
variable {g:T0 Vl→T0 Vl→T0 Vl}{gV:T0 V→T0 V→T0 V}{ks:QQQ}{kpos:Pos}{kws:T0 XXe}{tk:TA}{nm:Option Str}
section
variable {f:Uf}{E:XK}{x:Str}{e o:zn}{t:TA}
end
structure tS(N P:QQQ)(sc:XXd):Prop where
 kind:sc.kind=.function
 co:sc.isCoroutine=pc
 gen:sc.isGenerator=pc
 nd:N.Nodup
 pre:N.take P.length=P
 par:∀x∈P,sc.names.lookup x=ga .local\/sc.names.lookup x=ga .cell
 pB:∀y∈sc.names,y.2≠.free
theorem EL{kindOf:Str->Option wT}{x:Str}:∀{binds:T0 (Str×Vl)} {m:QQZ},(∀v,(x,v)∉binds)->bindL kindOf binds m x=m x
 | [],_,_=>rfl
 | (n,v)::r,m,h=>by
  unfold bindL;rw[EL λw hw=>h w (dz _ hw)];split
  .have:x≠n:=by rintro rfl;exact h v dC
   simp[this]
  .rfl
theorem EQ{kindOf:Str->Option wT}{x:Str}:∀{binds:T0 (Str×Vl)} {m:QQZ},(∀v,(x,v)∉binds)->bindC kindOf binds m x=m x
 | [],_,_=>rfl
 | (n,v)::r,m,h=>by
  unfold bindC;rw[EQ λw hw=>h w (dz _ hw)];split
  .rfl
  .have:x≠n:=by rintro rfl;exact h v dC
   simp[this]
theorem Eg{kindOf:Str->Option wT}{x:Str}{v:Vl}:∀{P:QQQ} {vs:T0 Vl} {i:Nat} {m:QQZ},P.Nodup->P[i]?=ga x->vs[i]?=ga v->kindOf x=ga .local->
  bindL kindOf (P.zip vs) m x=ga v
 | [],_,_,_,_,h,_,_=>by simp at h
 | _::_,[],_,_,_,_,h,_=>by simp at h
 | p::P,w::vs,0,m,nd,h1,h2,hk=>by simp at h1 h2;subst h1;subst h2;show bindL kindOf ((p,w)::P.zip vs) m p=_;unfold bindL;rw[EL λv hv=>(dR.mp nd).1 (jW hv).1,de hk];simp
 | p::P,w::vs,i+1,m,nd,h1,h2,hk=>by show bindL kindOf ((p,w)::P.zip vs) m x=_;unfold bindL;exact Eg (i:=i) (dR.mp nd).2 (by simpa using h1) (by simpa using h2) hk
theorem Ei{kindOf:Str->Option wT}{x:Str}{v:Vl}:∀{P:QQQ} {vs:T0 Vl} {i:Nat} {m:QQZ},P.Nodup->P[i]?=ga x->vs[i]?=ga v->kindOf x≠ga .local->
  bindC kindOf (P.zip vs) m x=ga v
 | [],_,_,_,_,h,_,_=>by simp at h
 | _::_,[],_,_,_,_,h,_=>by simp at h
 | p::P,w::vs,0,m,nd,h1,h2,hk=>by simp at h1 h2;subst h1;subst h2;show bindC kindOf ((p,w)::P.zip vs) m p=_;unfold bindC;rw[EQ λv hv=>(dR.mp nd).1 (jW hv).1,cY hk];simp
 | p::P,w::vs,i+1,m,nd,h1,h2,hk=>by show bindC kindOf ((p,w)::P.zip vs) m x=_;unfold bindC;exact Ei (i:=i) (dR.mp nd).2 (by simpa using h1) (by simpa using h2) hk
noncomputable def start(N:QQQ)(vs:T0 V):St:=vs.map ga++List.replicate (N.length - vs.length) Fa
noncomputable def vS(CX:Mb)(P:Pg)(w:Wo)(K:qE)(mg:QQZ)(base:Go)(N:QQQ)(qual:Str)(scope:XXd)(f:Uf)(cd:Vl)(A:Ar)(outer:T0 Env)(s:Sd)(H:Hp)(E:XK):Cx where
 prog:=P
 w:=w
 K:=K
 mg:=mg
 base:=base
 A:=A.deeper (xL qual scope s.heap.objs.size f cd)
 N:=N
 s₀:=s
 H₀:=H
 env:=xL qual scope s.heap.objs.size f cd
 outer:=outer
 stack:=xL qual scope s.heap.objs.size f cd::outer
 ex:=[]
 calm:=true
 fn:=λ_=>Db
 pn:=[]
 xe:=λe s'=>pi (Tk P w) (A.deeper (xL qual scope s.heap.objs.size f cd)) (leaving (xL qual scope s.heap.objs.size f cd) e) (λ_ s''=>CX outer H s E e s'') (λe' s''=>CX outer H s E e' s'') s'
def G4{sc:XXd}{n:Nat}{x:Str}(h:sc.names.lookup x=ga .cell):∃c,(cellsFrom n sc.names []).lookup x=ga c:=by have q:=lQ sc.names n [] (.inl h);exact fH.mp q
def K2{CX:Mb}{K:qE}{qual:Str}{f:Uf}{cd:Vl}{A:Ar}{E:XK}{vs:T0 V} (S:tS N ps scope) (hd:A.handled=Fa) (e0:Im P w K mg base A outer s H) (hl:vs.length=ps.length) (r:qK vs us) (x:InCallC s s.heap.objs.size (bindL (xL qual scope s.heap.objs.size f cd).kindOf (ps.zip us) λ_=>Fa) (cellsFrom (s.heap.objs.size+1) scope.names []) (bindC (xL qual scope s.heap.objs.size f cd).kindOf (ps.zip us) λ_=>Fa) s1):
  Inv (vS CX P w K mg base N qual scope f cd A outer s H E) [] (start N vs) H s1:=by
 have Y6:ps.length<=N.length:=by have:=eE List.length S.pre;rw[fg]at this;lia
 obtain⟨h1,tk,rfl,hk⟩:=x.done;have noA:∀b:Uf,b∉(vS CX P w K mg base N qual scope f cd A outer s H E).ex:=λb z=>absurd (show b∈([]:QXQ)from z) (by simp);refine⟨⟨e0.mod,S.kind,Z',Z',dq _,λy z c h1 h2=>?_,λy hy=>?_,λy c _ h=>?_,λ_=>hd,Around.frames_deeper e0.frames,.inr ⟨Z',Z'⟩,λb z=>absurd z (noA b),e0.bs,e0.n9,λb _ _=>noA b,λb z=>absurd z (noA b),e0.ny,e0.oB⟩,Z',e0.bare,Un.kept hk,⟨_,x.toInCall.ns,λi y v h1 h2 h3=>?_⟩,λy c h=>⟨_,x.cell y c h⟩,e0.mR.fresh (dq _),λy c h=>?_,λp hp=>absurd (show p∈([]:QQY)from hp) (by simp),e0.mR.kept hk,?_⟩
 .exact name_of_addr x.apart (gN h1) (gN h2)
 .have hy:scope.names.lookup y=ga .cell\/scope.names.lookup y=ga .free:=hy;rcases hy with hy|hy
  .exact G4 hy
  .exact absurd Z' (S.pB _ (gN hy))
 .exact hZ (x.above y c (gN h))
 .have hi:i<vs.length:=by
   unfold start at h2;by_cases hi:i<vs.length
   .exact hi
   .rw[eX (by simpa using hi)]at h2;rw[jT]at h2;split at h2<;>cases h2
  have ha:vs[i]?=ga v:=by
   unfold start at h2;rw[eZ (by simpa using hi),dv]at h2;cases e:vs[i]? with
   | none=>rw[e]at h2;cases h2
   | some a=>rw[e]at h2;cases h2;rfl
  obtain⟨u,hu,rv⟩:=r.get ha;have hp:ps[i]?=ga y:=by rw[<-S.pre,List.getElem?_take_of_lt (by lia)];exact h1
  have ndP:ps.Nodup:=by rw[<-S.pre];exact S.nd.sublist (List.take_sublist _ _)
  refine⟨u,rv,?_⟩;rcases S.par y (fm hp)with k|k
  .exact .inl ⟨k,Eg ndP hp hu k⟩
  .obtain⟨c,e⟩:=G4 (n:=s.heap.objs.size+1) k;refine .inr ⟨.inl k,c,e,?_⟩;have q:=x.cell y c e;rw[Ei ndP hp hu (by show scope.names.lookup y≠_;rw[k];decide)]at q;exact q
 .exact e0.mR.fresh (hZ (x.above y c (gN h)))
 .unfold start;show _=N.length;rw[cW,cT,iP];lia
def Ng{CX:Mb}{P:Pg}{w:Wo}{K:qE}{mg:QQZ}{base:Go}{f:Uf}{dV kV Zp pm YX ct oc:Vl}{an od:Option Uf} {ZL:Array (Option Vl)} {N ps:QQQ} {sp:Sp} (lk:K.lookup f=ga ⟨oc,od,.func (W.fnOf name qual params body scope dV kV Zp pm an YX ct),ZL⟩) (Z3:W.codeIn K YX qual=Db) (S:tS N ps scope) (len:∀vs H Q E,sp vs H Q E->vs.length=ps.length) (Zb:∀(A:Ar) (outer:T0 Env) (s:Sd) (H:Hp) (vs:T0 V) (Q:VK) (E:XK),sG k (A.deeper (xL qual scope s.heap.objs.size f YX))->sp vs H Q E->
   ∃t,Dh (vS CX P w K mg base N qual scope f YX A outer s H E) body t/\t {nx:=λ_ H'=>Q .mM H',rt:=Q} (start N vs) H):
  xS P w K mg base CX (k+1) f (W.fnOf name qual params body scope dV kV Zp pm an YX ct) ps sp:=by
 refine⟨len,λA outer s H args us vs Q E hr e0 hb r hsp=>?_⟩;have hl:=len _ _ _ _ hsp;have KX:K.In s.heap:=e0.mod.oz.keeps λb o e=>(e0.bs b o e).1;have lim:s.heap.NoLimit:=e0.mod.nolimit.keeps λb o e=>(e0.bs b o e).1;have hkind:∀y∈ps.zip us,scope.names.lookup y.1=ga .local\/(scope.names.lookup y.1=ga .cell/\((cellsFrom (s.heap.objs.size+1) scope.names []).lookup y.1).isSome=Db):=λ⟨n,v⟩ hy=>by
  rcases S.par n (jW hy).1 with q|q
  .exact .inl q
  .exact .inr ⟨q,lQ _ _ _ (.inl q)⟩
 refine codeAny_call_function hr.depth (KX _ _ lk) Z' S.co S.gen Z' (W.codeRec_of KX Z3) (hb _ _ _ _ ?_);refine wpAny_newFunctionEnv_cells S.kind hkind λenv he s1 x=>?_;subst he;refine⟨lim.keeps x.toInCall.keep,codeAny_func ?_⟩;obtain⟨t,ht,hq⟩:=Zb A outer s H vs Q E (hr.deeper _) hsp;have I:Inv (vS CX P w K mg base N qual scope f YX A outer s H E) [] (start N vs) H s1:=K2 S hr.hd e0 hl r x;refine eh (ht [] s1 (start N vs) H _ I hq) (λfl s' hs=>?_) λe s' hs=>hs;have YR:∀{σ':St} {H':Hp} {v:V} {u:Vl},Inv (vS CX P w K mg base N qual scope f YX A outer s H E) [] σ' H' s'->rj v u->Q v H'->CE outer P w H s Q u s':=
  λ{σ' H' v u} J rv q=>⟨v,H',J.os,J.bare,J.base,J.mR,rv,q⟩
 cases fl with
 | ret u=>obtain⟨v,σ',H',J,rv,q⟩:=hs;exact YR J rv q
 | next=>obtain⟨σ',H',J,q⟩:=hs;exact YR (v:=V.mM) (u:=Value.none) J Z' q
 | brk=>obtain⟨_,_,_,q⟩:=hs;exact False.elim q
 | cont=>obtain⟨_,_,_,q⟩:=hs;exact False.elim q
variable {id T:String}{r:T0 V→Hp→VK→Prop}
section
variable {x:Str}{e:zn}{t:TA}
def Yq(r:T0 V->Hp->VK->Prop)(t:TA):TE:=λY H Q=>t Y H λvs H1=>r vs H1 Q
def Ot(hc:Ap X (.builtin id) r)(hg:Gl X x)(hm:X.mg x=Fa)(hv:No x=ga (.builtin id))(ha:PA X (e::es) t)(hn:x≠"__name__":=by decide)(Y7:Ab x:=by decide)
  (he:Bt X e es:=by rfl) (Y6:C5 X pos es:=by rfl):PE X (.Call (.Name x p) (e::es) [] pos) (Yq r t):=by
 intro YL s Y H Q I h;refine fU (wM I hg hm hv ?_ hn Y7);exact gT (tj (ha pos YL s Y H _ I h) λus s1 zz=>x5 zz λvs H1 I1 r1 q1=>hc YL s1 Y H1 vs us Q I1 r1 q1) he Y6
def LY(hc:Ap X (.type T) r)(hg:Gl X x)(hm:X.mg x=Fa)(hv:No x=ga (.type T))(ha:PA X (e::es) t)(hn:x≠"__name__":=by decide)(Y7:Ab x:=by decide)
  (he:Bt X e es:=by rfl) (Y6:C5 X pos es:=by rfl):PE X (.Call (.Name x p) (e::es) [] pos) (Yq r t):=by
 intro YL s Y H Q I h;refine fU (wM I hg hm hv ?_ hn Y7);exact fz (tj (ha pos YL s Y H _ I h) λus s1 zz=>x5 zz λvs H1 I1 r1 q1=>hc YL s1 Y H1 vs us Q I1 r1 q1) he Y6
end
end L2
namespace HT
open PySem PyProof.Rows
section
open PySem.SeqAt
open PySem.AutoSeq1 (wpAny_loadPart')
open PySem.MeetsSeq PySem.MeetsSeq2 PySem.MeetsSeq3
end
variable {prog:Pg}{w:Wo}{A:Ar}{E:QQX}{s:Sd}
def QZ{vs ws:T0 Vl}{Q:QQX}(ht:IsTup s.heap t vs.toArray)(hb:IsTup s.heap b ws.toArray)(hv:vs≠[]) (h1:ws=[]->Q (.ref t) s) (h2:ws≠[]->Q (.ref s.heap.objs.size) {s with heap:=s.heap.push {cls:=.type "tuple",data:=.seq (vs++ws).toArray}})
  (hsz:vs.length+ws.length<=Ch):pi (Tk prog w) A (wS .Add (.ref t) (.ref b)) Q E s:=by
 obtain⟨⟨cls,dd,data,sl⟩,ho,hc,n,hd⟩:=id ht;obtain⟨⟨cls2,dd2,data2,sl2⟩,ho2,hc2,n2,hd2⟩:=id hb;simp only at hc hd hc2 hd2;subst hc hd hc2 hd2;have e:vs.toArray++ws.toArray=(vs++ws).toArray:=by simp
 by_cases hw:ws=[]
 .exact kT ⟨_,ho,Z'⟩ ⟨_,ho2,Z'⟩ lR seq_tuple_add j5 jU (jF _ _)
   (tuple_addW1 t b vs.toArray ws.toArray n n2 dd dd2 sl sl2 (by simpa using hv) (by simp[hw])) ⟨ho,ho2,h1 hw⟩
 .refine kT ⟨_,ho,Z'⟩ ⟨_,ho2,Z'⟩ lR seq_tuple_add j5 jU (jF _ _)
   (tuple_addW2 t b vs.toArray ws.toArray n n2 dd dd2 sl sl2 (by simpa using hv) (by simpa using hw) (by rw[dw,dw];exact hsz)) ⟨ho,ho2,?_⟩
  rw[e];exact h2 hw
noncomputable def tT(n d:Nat):Option Int->Nat
 | none=>d
 | some v=>if v<0 then(v+(n:Int)).toNat else min v.toNat n
def C7(n d:Nat):tT n d Fa=d:=rfl
def Kb(n d k:Nat):tT n d (ga (k:Int))=min k n:=by show(if (k:Int)<0 then((k:Int)+(n:Int)).toNat else min (k:Int).toNat n)=min k n;rw[cY (by lia),gZ]
def U0(n d:Nat)(hd:d<=n)(o:Option Int):tT n d o<=n:=by
 cases o with
 | none=>exact hd
 | some v=>
  show(if v<0 then(v+(n:Int)).toNat else min v.toNat n)<=n;by_cases hv:v<0
  .rw[de hv];lia
  .rw[cY hv];exact Nat.min_le_right _ _
def J1(v:Int)(n d:Nat):(if v<0 then max (v+(n:Int)) 0 else min v (n:Int))=((tT n d (ga v):Nat):Int):=by
 show(if v<0 then max (v+(n:Int)) 0 else min v (n:Int))=(((if v<0 then(v+(n:Int)).toNat else min v.toNat n):Nat):Int);by_cases hv:v<0
 .simp only[de hv];lia
 .simp only[cY hv];lia
def Ik(lo hi:Option Int)(n:Nat):Builtin.Slice.sliceAdjust lo hi 1 (n:Int)=(((tT n 0 lo:Nat):Int),((tT n n hi:Nat):Int)):=by
 have h1:¬((1:Int)<0):=by lia
 unfold Builtin.Slice.sliceAdjust;simp only[h1,kr];refine mw ?_ ?_
 .cases lo with
  | none=>rfl
  | some v=>exact J1 v n 0
 .cases hi with
  | none=>rfl
  | some v=>exact J1 v n n
def Iu(i j:Nat):Builtin.Slice.slicePlaces (i:Int) (j:Int) 1=j - i:=by
 unfold Builtin.Slice.slicePlaces;have h1:(1:Int)>0:=by lia
 simp only[h1,je,Int.ediv_one];split<;>lia
def CH{Q:Option Int->Sd->Prop}(p:IsPart v o)(h:Q o s):pi (Tk prog w) A (Builtin.Slice.slicePartIndex v) Q E s:=by
 cases p with
 | none=>exact slicePart_none h
 | int i t=>exact slicePart_int h
def xm{sl:Uf}{vl vu:Vl}{lo hi:Option Int}{Q:Int×Int×Nat->Sd->Prop}(hs:s.heap.IsSliceOf sl vl vu .none)(pl:IsPart vl lo)(pu:IsPart vu hi) (h:Q (((tT n 0 lo:Nat):Int),1,tT n n hi - tT n 0 lo) s):pi (Tk prog w) A (Builtin.Slice.sliceApplied (.ref sl) (pure (n:Int))) Q E s:=by
 obtain⟨os,hos,hcs,Z5⟩:=id hs;unfold Builtin.Slice.sliceApplied Builtin.Slice.sliceFields;refine cU (cU (fj hos Z5 (x:=vl) Z' (cU (fj hos Z5 (x:=vu) Z' (cU (fj hos Z5 (x:=.none) Z' (dh ?_)))))));refine cU (slicePart_none ?_);show pi _ _ (if ((1:Int)==0)=Db then _ else _) _ _ s;rw[cY (by decide)];refine cU (CH pl (cU (CH pu (cU (dh ?_)))));show pi _ _ (match Builtin.Slice.sliceAdjust lo hi 1 (n:Int)with|(lo,hi)=>pure (lo,(1:Int),Builtin.Slice.slicePlaces lo hi 1)) _ _ s;rw[Ik lo hi n];show pi _ _ (pure (((tT n 0 lo:Nat):Int),(1:Int),Builtin.Slice.slicePlaces ((tT n 0 lo:Nat):Int) ((tT n n hi:Nat):Int) 1)) _ _ s;rw[Iu];exact dh h
def Nj(xs:Array Vl)(i k:Nat):((List.range k).filterMap λ(m:Nat)=>xs[((i:Int)+(m:Int)*1).toNat]?).toArray=((xs.toList.drop i).take k).toArray:=by
 have e:(λ(m:Nat)=>xs[((i:Int)+(m:Int)*1).toNat]?)=λm=>xs[i+m]?:=by
  funext m;have:((i:Int)+(m:Int)*1).toNat=i+m:=by lia
  rw[this]
 rw[e];have:=pick_run xs i k;rw[List.filterMap_map]at this;have e2:((λx=>xs[x]?)∘λx=>i+x)=λm=>xs[i+m]?:=rfl;rw[e2]at this;rw[this]
def zW{t sl:Uf}{vl vu:Vl}{lo hi:Option Int}{Q:QQX}(ht:IsTup s.heap t YM)(hs:s.heap.IsSliceOf sl vl vu .none)(pl:IsPart vl lo)(pu:IsPart vu hi) (hw:¬(tT YM.size 0 lo=0/\tT YM.size YM.size hi=YM.size)) (h:Q (.ref s.heap.objs.size) {s with heap:=s.heap.push {cls:=.type "tuple",data:=.seq ((YM.toList.drop (tT YM.size 0 lo)).take (tT YM.size YM.size hi - tT YM.size 0 lo)).toArray}})
  (hsz:YM.size<=Ch):pi (Tk prog w) A (XXf (.ref t) (.ref sl)) Q E s:=by
 have htake:sizeOk (.seq ((YM.toList.drop (tT YM.size 0 lo)).take (tT YM.size YM.size hi - tT YM.size 0 lo)).toArray):=by show((YM.toList.drop (tT YM.size 0 lo)).take (tT YM.size YM.size hi - tT YM.size 0 lo)).toArray.size<=Ch;rw[dw,fg,gx,im];lia
 have hj:tT YM.size YM.size hi<=YM.size:=U0 _ _ (dq _) hi;obtain⟨os,hos,hcs,Z5⟩:=id hs;have hTs:s.TypeIs (.ref sl) "slice":=⟨os,hos,hcs⟩;unfold XXf
 try with_reducible refine eW ?_
 first|refine cU (dh ?_)|skip
 refine cU (jq ht.typeIs (by decide) ?_);refine cU (fN (name:=Str.ofString "__getitem__") ht.typeIs fA
  (fV fA ht.typeIs kH ?_ (kU _ _)))
 show pi _ _ (Builtin.Tuple.tupleItemsOf (.ref t)>>=_) _ _ s;refine cU (tupleItemsOf_ ht ?_);refine cU (jG hTs ?_);rw[de (by decide)];refine cU (xm hs pl pu ?_);have hno:¬((((tT YM.size 0 lo:Nat):Int)==0&&(1:Int)==1&&(tT YM.size YM.size hi - tT YM.size 0 lo)==YM.size)=Db):=by intro q;rw[dU,dU]at q;have q1:((tT YM.size 0 lo:Nat):Int)=0:=xz q.1.1;have q2:tT YM.size YM.size hi - tT YM.size 0 lo=YM.size:=xz q.2;exact hw ⟨by lia,by lia⟩
 show pi _ _ (if (((tT YM.size 0 lo:Nat):Int)==0&&(1:Int)==1&&(tT YM.size YM.size hi - tT YM.size 0 lo)==YM.size)=Db then _ else _) _ _ s;rw[cY hno,Nj]
 first
  | exact cU (m:=Builtin.Tuple.tupleExact _) (fW (dh ⟨_,rfl,dh h⟩) htake)
  | exact cU (m:=Builtin.Tuple.tupleExact _) (fW (cU (dh (dh ⟨_,rfl,dh h⟩))) htake)
  | exact cU (cU (m:=Builtin.Tuple.tupleExact _) (fW (dh (dh ⟨_,rfl,dh h⟩)) htake))
  | exact cU (cU (m:=Builtin.Tuple.tupleExact _) (fW (dh ⟨_,rfl,dh h⟩) htake))
end HT
namespace L2
abbrev TO:=St->Hp->(Option Int->Hp->Prop)->Prop
def PO(X:Cx)(e:Option zn)(t:TO):Prop:=
 ∀(YL:QQY) (s:Sd) (Y:St) (H:Hp) (Q:Option Int->Hp->Prop),Inv X YL Y H s->t Y H Q->
  pi (Tk X.prog X.w) X.A (evalPart e X.env) (λu s'=>∃o H',Inv X YL Y H' s'/\IsPart u o/\Q o H') X.xe s
def P7:TO:=λ_ H Q=>Q Fa H
def V5(t:TE):TO:=λY H Q=>t Y H λx H1=>∃i,x=.int i/\Q (ga i) H1
variable {X:Cx}{e:zn}{te:TE}{lo hi:Option zn}{tl th:TO}{pos p2:Pos}
def PR:PO X Fa P7:=by intro YL s Y H Q I h;rw[evalPart_none];exact dh ⟨Fa,H,I,.none,h⟩
def QX(h:PE X e te):PO X (ga e) (V5 te):=by intro YL s Y H Q I hw;rw[evalPart_some];refine tj (h YL s Y H _ I hw) λu s1 zz=>x5 zz λx H1 I1 r1 q1=>?_;obtain⟨i,rfl,q⟩:=q1;obtain⟨t,rfl⟩:=r1;exact⟨ga i,H1,I1,.int i t,q⟩
def Wy(X:Cx)(r:V->Option Int->Option Int->Hp->VK->Prop):Prop:=
 ∀(YL:QQY) (s:Sd) (Y:St) (H:Hp) (x:V) (v vl vu:Vl) (lo hi:Option Int) (sl:Uf) (Q:VK),Inv X YL Y H s->rj x v->s.heap.IsSliceOf sl vl vu .none->IsPart vl lo->IsPart vu hi->r x lo hi H Q->
  ∃T id,typeLookup (.type T) "__getitem__"=pure (ga (.builtin id))/\s.TypeIs v T/\pi (Tk X.prog X.w) X.A (XXf v (.ref sl)) (EP X YL Y Q) X.xe s
def YD(r:V->Option Int->Option Int->Hp->VK->Prop)(te:TE)(tl th:TO):TE:=λY H Q=>te Y H λx H1=>tl Y H1 λl H2=>th Y H2 λu H3=>r x l u H3 Q
def NC(hr:Wy X r)(he:PE X e te)(hl:PO X lo tl)(hu:PO X hi th):PE X (.Subscript e (.Slice lo hi Fa p2) pos) (YD r te tl th):=by intro YL s Y H Q I h;refine Subscript_ (tj (he YL s Y H _ I h) λv s1 zz=>x5 zz λx H1 I1 r1 q1=>?_);refine wpAny_Slice (tj (hl YL s1 Y H1 _ I1 q1) λvl s2 zz=>x5 zz λl H2 I2 pl q2=>tj (hu YL s2 Y H2 _ I2 q2) λvu s3 zz=>x5 zz λu H3 I3 pu q3=>?_);rw[evalPart_none];refine dh ?_;have I4:Inv X YL Y H3 {s3 with heap:=s3.heap.push {cls:=.type "slice",data:=.fields #[vl,vu,.none]}}:=I3.kept (t':=s3.toks) λb ob q=>c9 _ q;obtain⟨T,id,hT,ht,hg⟩:=hr YL {s3 with heap:=s3.heap.push {cls:=.type "slice",data:=.fields #[vl,vu,.none]}} Y H3 x v vl vu l u s3.heap.objs.size Q I4 r1 (mF ..) pl pu q3;show pi (Tk X.prog X.w) X.A (subscriptTail e (.Slice lo hi Fa p2) v (.ref s3.heap.objs.size)) (EP X YL Y Q) X.xe {s3 with heap:=s3.heap.push {cls:=.type "slice",data:=.fields #[vl,vu,.none]}};exact tail_any (ops:=[.ref s3.heap.objs.size,v]) ht hT hg (by with_unfolding_all rfl)
noncomputable def DB(xs:T0 V)(lo hi:Option Int):T0 V:=(xs.drop (HT.tT xs.length 0 lo)).take (HT.tT xs.length xs.length hi - HT.tT xs.length 0 lo)
def Bo(xs:T0 V)(lo hi:Option Int):(DB xs lo hi).length<=xs.length:=by unfold DB;rw[fg,gx];lia
def X6(K:qE):V->Option Int->Option Int->Hp->VK->Prop:=λx lo hi H Q=>∃a xs,x=.ref a/\wg K H a xs/\
 ¬(HT.tT xs.length 0 lo=0/\HT.tT xs.length xs.length hi=xs.length)/\∀p,H p=Fa->Q (.ref p) (upd H p (.tup (DB xs lo hi)))
def Uy:Wy X (X6 X.K):=by
 intro YL s Y H x v vl vu lo hi sl Q I rx hs pl pu h;obtain⟨a,xs,rfl,hx,hw,q⟩:=h;cases rx;obtain⟨its,r,ht,hz⟩:=I.tuple hx;have YS:its.toArray.size=xs.length:=by rw[dw];exact r.length.symm
 refine⟨"tuple",_,fA.lookup,ht.typeIs,?_⟩;refine HT.zW ht hs pl pu (by rw[YS];exact hw) ?_ (by rw[YS];exact hz);rw[YS];refine⟨.ref s.heap.objs.size,_,I.laid (t':=s.toks) (o:=.tup (DB xs lo hi)) (λb ob q=>c9 _ q) (dq _) ?_,Z',q _ (I.mR.fresh (dq _))⟩;exact⟨dZ (Bo xs lo hi) hz,_,(r.drop (HT.tT xs.length 0 lo)).take (HT.tT xs.length xs.length hi - HT.tT xs.length 0 lo),FI.new _ _⟩
def V8(K:qE):R2:=λx y H Q=>∃a b xs ys,x=.ref a/\y=.ref b/\wg K H a xs/\wg K H b ys/\xs≠[]/\xs.length+ys.length<=Ch/\
 (ys=[]->Q (.ref a) H)/\(ys≠[]->∀p,H p=Fa->Q (.ref p) (upd H p (.tup (xs++ys))))
def qK.nS(r:qK xs us):us=[]↔xs=[]:=by
 cases r with
 | nil=>simp
 | cons _ _=>simp
def QN:xX X (wS .Add) (V8 X.K):=by intro YL s Y H x y v u Q I rx ry h;obtain⟨a,b,xs,ys,rfl,rfl,ha,hb,hx,hz,q1,q2⟩:=h;cases rx;cases ry;obtain⟨its,r1,p1,_⟩:=I.tuple ha;obtain⟨its2,r2,p2,_⟩:=I.tuple hb;refine HT.QZ p1 p2 (λz=>hx (r1.nS.mp z)) (λz=>⟨.ref a,H,I,Z',q1 (r2.nS.mp z)⟩) (λz=>?_) (by rw[<-r1.length,<-r2.length];exact hz);refine⟨.ref s.heap.objs.size,_,I.laid (t':=s.toks) (o:=.tup (xs++ys)) (λb ob q=>c9 _ q) (dq _) ?_,Z',q2 (λw=>z (r2.nS.mpr w)) _ (I.mR.fresh (dq _))⟩;exact⟨by rw[cW];exact hz,_,r1.append r2,FI.new _ _⟩
noncomputable def HV(n:Nat)(i:Int):Option Nat:=if 0<=i then(if i<n then ga i.toNat else Fa)else if -(n:Int)<=i then ga (i+n).toNat else Fa
noncomputable def xn{α:Type}(xs:List α)(i:Int):Option α:=(HV xs.length i).bind λj=>xs[j]?
def Kd{j:Nat}(h:HV n i=ga j):seqIndex? i n=ga j/\j<n/\-(n:Int)<=i/\i<n:=by
 unfold HV at h;by_cases h0:0<=i
 .rw[de h0]at h;by_cases h1:i<n
  .rw[de h1]at h;have e:i.toNat=j:=df h;exact⟨by rw[lJ h0 h1,e],by lia,by lia,h1⟩
  .rw[cY h1]at h;cases h
 .rw[cY h0]at h;by_cases h1:-(n:Int)<=i
  .rw[de h1]at h;have e:(i+n).toNat=j:=df h;exact⟨by rw[kW (by lia) h1,e],by lia,h1,by lia⟩
  .rw[cY h1]at h;cases h
def E9{α:Type}{xs:List α}{i:Int}{v:α}(h:xn xs i=ga v):∃j,seqIndex? i xs.length=ga j/\xs[j]?=ga v/\j<xs.length/\-(xs.length:Int)<=i/\i<xs.length:=by
 unfold xn at h;cases e:HV xs.length i with
 | none=>rw[e]at h;cases h
 | some j=>rw[e]at h;obtain⟨h1,h2,h3,h4⟩:=Kd e;exact⟨j,h1,h,h2,h3,h4⟩
def vo{α:Type}{xs:List α}{j:Nat}{v:α}(h:xs[j]?=ga v):xn xs (j:Int)=ga v:=by
 have hj:j<xs.length:=(cX.mp h).1;have e:HV xs.length (j:Int)=ga j:=by unfold HV;rw[de (by lia),de (by lia)];simp
 unfold xn;rw[e];exact h
def B6(b:zn):Prop:=∀o i,subscripted b pc o i=operate [o,i] (XXf o i)
def Vj(X:Cx)(r:R2):Prop:=
 ∀(value YZ:zn) (YL:QQY) (s:Sd) (Y:St) (H:Hp) (x y:V) (v u:Vl) (Q:VK),Inv X YL Y H s->rj x v->rj y u->r x y H Q->
  subscripted YZ pc v u=operate [v,u] (XXf v u)->pi (Tk X.prog X.w) X.A (subscriptTail value YZ v u) (EP X YL Y Q) X.xe s
def Ym(X:Cx)(id:String)(r:V->T0 V->Hp->VK->Prop):Prop:=
 ∀(YL:QQY) (s:Sd) (Y:St) (H:Hp) (x:V) (xs:T0 V) (v:Vl) (us:T0 Vl) (Q:VK),Inv X YL Y H s->rj x v->qK xs us->r x xs H Q->
  pi (Tk X.prog X.w) X.A (call (.builtin id) (v::us)) (EP X YL Y Q) X.xe s
variable {o:zn}{es:T0 zn}{to:TE}{t:TA}{name:Str}{YO YT:Pos}{T id:String}{r:V→T0 V→Hp→VK→Prop}{a:zn}{ta tb:TE}
section
variable {b:zn}
def Oi{r:R2}(hr:Vj X r)(ha:PE X a ta)(hb:PE X b tb)(hs:B6 b):PE X (.Subscript a b pos) (VI r ta tb):=by intro YL s Y H Q I h;exact Subscript_ (Uw ha hb I h λv u s2 x y H2 I2 rx ry q=>hr a b YL s2 Y H2 x y v u Q I2 rx ry q (hs _ _))
def Ya(K:qE):R2:=λx y H Q=>∃p xs i v,x=.ref p/\y=.int i/\xV K H p xs/\xn xs i=ga v/\Q v H
def Xu(K:qE):R2:=λx y H Q=>∃p xs i v,x=.ref p/\y=.int i/\wg K H p xs/\xn xs i=ga v/\Q v H
def Xd:R2:=λx y H Q=>∃z i c,x=.str z/\y=.int i/\z.length<=Ch/\xn z.cps.toList i=ga c/\Q (.str ⟨#[c]⟩) H
def JO:Vj X (Ya X.K):=by
 intro value YZ YL s Y H x y v u Q I rx ry h hs;obtain⟨p,xs,i,z,rfl,rfl,hq,he,q⟩:=h;cases rx;obtain⟨t,rfl⟩:=ry;obtain⟨its,r,pl,hz⟩:=I.list hq;obtain⟨j,h1,h2,h3,h4,h5⟩:=E9 he;obtain⟨w,ew,rw'⟩:=r.get h2;have hl:=r.length;have hn:=zg;have YR:EP X YL Y Q w s:=⟨z,H,I,rw',q⟩;by_cases h0:0<=i
 .have hj:i.toNat=j:=by rw[lJ h0 h5]at h1;exact df h1
  exact item_listR pl.isList h0 (by lia) (by rw[hj];simpa using ew) YR hs
 .have hj:(i+(its.toArray.size:Int)).toNat=j:=by rw[kW (by lia) h4]at h1;rw[dw,<-hl];exact df h1
  exact j6 (x:=w) pl.isList.typeIs lB.lookup
   (wpAny_getItem_list_neg (Q:=λr s'=>r=w/\EP X YL Y Q r s') pl.isList (by lia) (by rw[dw]<;>lia) (by lia) (by rw[hj];simpa using ew) ⟨Z',YR⟩) hs
def Vb:Vj X (Xu X.K):=by
 intro value YZ YL s Y H x y v u Q I rx ry h hs;obtain⟨p,xs,i,z,rfl,rfl,hq,he,q⟩:=h;cases rx;obtain⟨t,rfl⟩:=ry;obtain⟨its,r,pl,hz⟩:=I.tuple hq;obtain⟨j,h1,h2,h3,h4,h5⟩:=E9 he;obtain⟨w,ew,rw'⟩:=r.get h2;have hl:=r.length;have hn:=zg;have YR:EP X YL Y Q w s:=⟨z,H,I,rw',q⟩;exact j6 (x:=w) pl.typeIs slot_tuple_getitem.lookup
  (getItem_tuple (j:=j) (Q:=λr s'=>r=w/\EP X YL Y Q r s') pl (by lia) (by lia) (by rw[dw,<-hl];exact h1) (by simpa using ew) ⟨Z',YR⟩) hs
def UV:Vj X Xd:=by
 intro value YZ YL s Y H x y v u Q I rx ry h hs;obtain⟨z,i,c,rfl,rfl,hz,he,q⟩:=h;obtain⟨t,rfl⟩:=rx;obtain⟨t',rfl⟩:=ry;obtain⟨j,h1,h2,h3,h4,h5⟩:=E9 he;have hl:z.cps.toList.length=z.length:=by simp[Str.length]
 rw[hl]at h1 h4 h5;have hn:=zg;exact tail_any (typeIs_str s z t) slot_str_getitem.lookup (getItem_str (c:=c) (by
  have e1:decide (i< -(2 ^ 63:Int))=pc:=eQ (by lia);have e2:decide (i>=2 ^ 63)=pc:=eQ (by lia);rw[e1,e2,kD]) (by rw[h1];simpa using h2) ⟨.str ⟨#[c]⟩,H,I.tok _,⟨_,Z'⟩,q⟩) hs
def ID(its:T0 Vl)(n j:Nat)(u:Vl):Obj.mapSeq (·.setIfInBounds j u) {cls:=.type "list",data:=.seq its.toArray n}={cls:=.type "list",data:=.seq (its.set j u).toArray n}:=by simp[Obj.mapSeq]
def Inv.lst{p:Uf}{xs:T0 V}(I:Inv X YL Y H s)(h:H p=ga (.lst xs)):
  ∃(its:T0 Vl) (n:Nat),qK xs its/\s.heap.get? p=ga {cls:=.type "list",data:=.seq its.toArray n}/\xs.length<=Ch:=by
 obtain⟨z,its,n,r,e⟩:=I.mR p _ h;exact⟨its,n,r,e,z⟩
def Inv.oQ{p:Uf}{xs ys:T0 V}{its its':T0 Vl}{n n':Nat}{f:Obj->Obj}(I:Inv X YL Y H s)(h:H p=ga (.lst xs)) (ho:s.heap.get? p=ga {cls:=.type "list",data:=.seq its.toArray n}) (hf:f {cls:=.type "list",data:=.seq its.toArray n}={cls:=.type "list",data:=.seq its'.toArray n'}) (r:qK ys its') (hz:ys.length<=Ch) (t:Nat):
  Inv X YL Y (upd H p (.lst ys)) {s with heap:=s.heap.update p f,toks:=t}:=by
 have e:(s.heap.update p f).get? p=ga {cls:=.type "list",data:=.seq its'.toArray n'}:=by rw[fJ f ho (by rw[hf]<;>rfl),hf]
 refine I.write (x:=p) (e:=p) (by rw[h];trivial) (.inl Z') (λb u hb q=>(gc _ _ (dW hb)).trans q) ⟨_,e⟩ ?_;exact⟨hz,its',n',r,e⟩
def VR:V->V->V->Hp->(Hp->Prop)->Prop:=λo i v H Q=>∃p xs k j,o=.ref p/\i=.int k/\H p=ga (.lst xs)/\HV xs.length k=ga j/\Q (upd H p (.lst (xs.set j v)))
def O1:Ws X VR:=by
 intro YL s Y H o i v ov iv u Q I ro ri rv h;obtain⟨p,xs,k,j,rfl,rfl,hp,hj,q⟩:=h;cases ro;obtain⟨t,rfl⟩:=ri;obtain⟨its,n,r,ho,hz⟩:=I.lst hp;obtain⟨h1,h2,h3,h4⟩:=Kd hj;have hl:=r.length;have hn:=zg;have I':Inv X YL Y (upd H p (.lst (xs.set j v))) {s with heap:=s.heap.update p (Obj.mapSeq (·.setIfInBounds j u))}:=
  I.oQ hp ho (ID its n j u) (r.set rv j) (by rw[io];exact hz) s.toks
 by_cases h0:0<=k
 .have hk:k.toNat=j:=by rw[lJ h0 h4]at h1;exact df h1
  exact W.ki_setAt ho h0 (by lia) (by rw[dw,<-hl];exact h4) (by rw[hk];exact⟨_,I',q⟩)
 .have hk:(k+(its.toArray.size:Int)).toNat=j:=by rw[kW (by lia) h3]at h1;rw[dw,<-hl];exact df h1
  exact W.ki_setBack ho (by lia) (by rw[dw,<-hl];exact h3) (by lia) (by rw[hk];exact⟨_,I',q⟩)
def Fv(lo hi:Option Int)(n:Nat):(XXg lo hi Fa n).1=((HT.tT n 0 lo:Nat):Int)/\(XXg lo hi Fa n).2.1=((HT.tT n n hi:Nat):Int)/\(XXg lo hi Fa n).2.2=1:=by
 refine⟨?_,?_,Z'⟩
 .cases lo with
  | none=>simp[XXg,HT.tT]
  | some i=>
   simp only[XXg,HT.tT,lT,show(1:Int)>0 by decide,je];by_cases h:i<0
   .simp only[h,je]<;>lia
   .simp only[h,kr]<;>lia
 .cases hi with
  | none=>simp[XXg,HT.tT]
  | some i=>
   simp only[XXg,HT.tT,lT,show(1:Int)>0 by decide,je];by_cases h:i<0
   .simp only[h,je]<;>lia
   .simp only[h,kr]<;>lia
def DI(its:T0 Vl)(lo hi:Option Int):slicePick its.toArray lo hi Fa=((its.drop (HT.tT its.length 0 lo)).take (HT.tT its.length its.length hi - HT.tT its.length 0 lo)).toArray:=by obtain⟨h1,h2,h3⟩:=Fv lo hi its.toArray.size;unfold slicePick;rw[h1,h2,h3];simp only[sliceRange_one,pick_run,dw]<;>rfl
def XH(K:qE):V->Option Int->Option Int->Hp->VK->Prop:=λx lo hi H Q=>∃a xs,x=.ref a/\xV K H a xs/\∀p,H p=Fa->Q (.ref p) (upd H p (.lst (DB xs lo hi)))
def KH:Wy X (XH X.K):=by intro YL s Y H x v vl vu lo hi sl Q I rx hs pl pu h;obtain⟨a,xs,rfl,hx,q⟩:=h;cases rx;obtain⟨its,r,ht,hz⟩:=I.list hx;have YS:=r.length;refine⟨"list",_,lB.lookup,ht.isList.typeIs,?_⟩;refine wpAny_getItem_list_slice ht.isList hs pl pu .none (by simp) ?_ (by rw[dw]<;>lia);rw[DI,<-YS];refine⟨.ref s.heap.objs.size,_,I.laid (t':=s.toks) (o:=.lst (DB xs lo hi)) (λb ob q=>c9 _ q) (dq _) ?_,Z',q _ (I.mR.fresh (dq _))⟩;exact⟨dZ (Bo xs lo hi) hz,_,0,(r.drop (HT.tT xs.length 0 lo)).take (HT.tT xs.length xs.length hi - HT.tT xs.length 0 lo),dJ _ Z'⟩
noncomputable def yV:V->Bool
 | .mM=>Db
 | .bl _=>Db
 | .int _=>Db
 | .str _=>Db
 | _=>pc
noncomputable def Pw:V->V->Bool
 | .mM,.mM=>Db
 | .bl a,.bl b=>a==b
 | .bl a,.int b=>(if a then 1 else 0)==b
 | .int a,.bl b=>a==(if b then 1 else 0)
 | .int a,.int b=>a==b
 | .str a,.str b=>a==b
 | _,_=>pc
def Tn(ry:rj y u)(rx:rj x v)(fy:yV y=Db)(fx:yV x=Db):SeqAt.EqAt A s u v (Pw y x):=by
 cases y with
 | mM=>
  cases ry;cases x with
  | mM=>cases rx;exact SeqAt.EqAt.same _
  | bl b=>cases rx;exact SeqAt.EqAt.none_bool b
  | int b=>obtain⟨t,rfl⟩:=rx;exact SeqAt.EqAt.none_int b t
  | str b=>obtain⟨t,rfl⟩:=rx;exact SeqAt.EqAt.none_str b t
  | _=>exact absurd (show pc=Db from fx) dA
 | bl a=>
  cases ry;cases x with
  | mM=>cases rx;exact SeqAt.EqAt.bool_none a
  | bl b=>cases rx;exact SeqAt.EqAt.bool_bool a b
  | int b=>obtain⟨t,rfl⟩:=rx;exact SeqAt.EqAt.bool_int a b t
  | str b=>obtain⟨t,rfl⟩:=rx;exact SeqAt.EqAt.bool_str a b t
  | _=>exact absurd (show pc=Db from fx) dA
 | int a=>
  obtain⟨t',rfl⟩:=ry;cases x with
  | mM=>cases rx;exact SeqAt.EqAt.int_none a t'
  | bl b=>cases rx;exact SeqAt.EqAt.int_bool a t' b
  | int b=>obtain⟨t,rfl⟩:=rx;exact SeqAt.EqAt.int_int a t' b t
  | str b=>obtain⟨t,rfl⟩:=rx;exact kO a t' b t
  | _=>exact absurd (show pc=Db from fx) dA
 | str a=>
  obtain⟨t',rfl⟩:=ry;cases x with
  | mM=>cases rx;exact SeqAt.EqAt.str_none a t'
  | bl b=>cases rx;exact SeqAt.EqAt.str_bool a t' b
  | int b=>obtain⟨t,rfl⟩:=rx;exact kP a t' b t
  | str b=>obtain⟨t,rfl⟩:=rx;exact SeqAt.EqAt.str_str a t' b t
  | _=>exact absurd (show pc=Db from fx) dA
 | _=>exact absurd (show pc=Db from fy) dA
noncomputable def FS(x:V)(u:Vl):Bool:=match u with
 | .none=>Pw .mM x
 | .bool b=>Pw (.bl b) x
 | .int i _=>Pw (.int i) x
 | .str z _=>Pw (.str z) x
 | _=>pc
def Ju(r:rj y u)(f:yV y=Db):FS x u=Pw y x:=by
 cases y with
 | mM=>cases r;rfl
 | bl b=>cases r;rfl
 | int i=>obtain⟨t,rfl⟩:=r;rfl
 | str z=>obtain⟨t,rfl⟩:=r;rfl
 | _=>exact absurd (show pc=Db from f) dA
theorem Az:∀{xs:T0 V} {us:T0 Vl},qK xs us->xs.all yV=Db->us.any (FS x)=xs.any λy=>Pw y x
 | _,_,.nil,_=>rfl
 | y::xs,u::us,.cons r t,f=>by rw[fG,dU]at f;rw[gf,gf,Ju r f.1,Az t f.2]
theorem xg(rx:rj x v)(fx:yV x=Db):∀{xs:T0 V} {us:T0 Vl},qK xs us->xs.all yV=Db->∀u∈us,SeqAt.EqAt A s u v (FS x u)
 | _,_,.nil,_=>λu hu=>by cases hu
 | y::xs,u::us,.cons r t,f=>λu' hu=>by
  rw[fG,dU]at f;rcases dg.mp hu with rfl|hu
  .rw[Ju r f.1];exact Tn r rx f.1 fx
  .exact xg rx fx t f.2 u' hu
noncomputable def inV(x:V)(xs:T0 V):Bool:=xs.any λy=>Pw y x
def Yc(K:qE)(neg:Bool):R2:=λx y H Q=>∃p xs,y=.ref p/\(xV K H p xs\/wg K H p xs)/\yV x=Db/\xs.all yV=Db/\Q (.bl (if neg then !inV x xs else inV x xs)) H
def K9:xX X (Op .In) (Yc X.K pc):=by
 intro YL s Y H x y v u Q I rx ry h;obtain⟨p,xs,rfl,hq,fx,fs,q⟩:=h;cases ry;rcases hq with hq|hq
 .obtain⟨its,r,pl,hz⟩:=I.list hq;refine SeqAt.in_listAt (FS x) pl.isList (λw hw=>xg rx fx r fs w (by simpa using hw)) ⟨.bl _,H,I,Z',?_⟩;rw[show its.toArray.any (FS x)=its.any (FS x)by simp,Az r fs];exact q
 .obtain⟨its,r,pl,hz⟩:=I.tuple hq;refine SeqAt.in_tupleAt (FS x) pl (λw hw=>xg rx fx r fs w (by simpa using hw)) ⟨.bl _,H,I,Z',?_⟩;rw[show its.toArray.any (FS x)=its.any (FS x)by simp,Az r fs];exact q
def F8:xX X (Op .NotIn) (Yc X.K Db):=by
 intro YL s Y H x y v u Q I rx ry h;obtain⟨p,xs,rfl,hq,fx,fs,q⟩:=h;cases ry;rcases hq with hq|hq
 .obtain⟨its,r,pl,hz⟩:=I.list hq;refine SeqAt.notIn_listAt (FS x) pl.isList (λw hw=>xg rx fx r fs w (by simpa using hw)) ⟨.bl _,H,I,Z',?_⟩;rw[show its.toArray.any (FS x)=its.any (FS x)by simp,Az r fs];exact q
 .obtain⟨its,r,pl,hz⟩:=I.tuple hq;refine SeqAt.notIn_tupleAt (FS x) pl (λw hw=>xg rx fx r fs w (by simpa using hw)) ⟨.bl _,H,I,Z',?_⟩;rw[show its.toArray.any (FS x)=its.any (FS x)by simp,Az r fs];exact q
def FG:xX X (Op .NotIn) (λx y H Q=>∃i j,x=.str i/\y=.str j/\Q (.bl (!(!(Builtin.Str.occurrences j i 0 j.length 1).isEmpty))) H):=by intro YL s Y H x y v u Q I rx ry h;obtain⟨i,j,rfl,rfl,q⟩:=h;obtain⟨t,rfl⟩:=rx;obtain⟨t',rfl⟩:=ry;exact notIn_str ⟨.bl _,H,I,Z',q⟩
def xF:Ap X (.builtin "len") (λxs H Q=>∃p ys,xs=[.ref p]/\(xV X.K H p ys\/wg X.K H p ys)/\Q (.int ys.length) H):=by
 intro YL s Y H xs us Q I r h;obtain⟨p,ys,rfl,hq,q⟩:=h;obtain⟨u,rfl,rx⟩:=yZ r;cases rx;have hn:=zg;rcases hq with hq|hq
 .obtain⟨its,r',pl,hz⟩:=I.list hq;have YS:=r'.length;exact Calls.call_len_list pl.isList (by simp only[dw]<;>lia) ⟨.int ys.length,H,I.tok _,⟨s.toks+1,by rw[dw,YS]⟩,q⟩
 .obtain⟨its,r',pl,hz⟩:=I.tuple hq;have YS:=r'.length;exact len_tuple pl (by simp only[dw]<;>lia) ⟨.int ys.length,H,I.tok _,⟨s.toks+1,by rw[dw,YS]⟩,q⟩
def E2:Ap X (.builtin "len") (λxs H Q=>∃z,xs=[.str z]/\z.length<=Ch/\Q (.int z.length) H):=by intro YL s Y H xs us Q I r h;obtain⟨z,rfl,hz,q⟩:=h;obtain⟨u,rfl,t,rfl⟩:=yZ r;have hn:=zg;exact len_str (by lia) ⟨.int z.length,H,I.tok _,⟨_,Z'⟩,q⟩
def EV:Ap X (.type "list") (λxs H Q=>∃p ys,xs=[.ref p]/\(xV X.K H p ys\/wg X.K H p ys)/\∀l,H l=Fa->Q (.ref l) (upd H l (.lst ys))):=by
 intro YL s Y H xs us Q I r h;obtain⟨p,ys,rfl,hq,q⟩:=h;obtain⟨u,rfl,rx⟩:=yZ r;cases rx;have YR:∀(its:T0 Vl),qK ys its->ys.length<=Ch->∀(h':Go) (c':Nat),(∀b o',s.heap.get? b=ga o'->h'.get? b=ga o')->
   h'.get? s.heap.objs.size=ga {cls:=.type "list",dict:=none,data:=.seq its.toArray c',slots:=#[]}->EP X YL Y Q (.ref s.heap.objs.size) {s with heap:=h'}:=λits r' hz h' c' kp e=>
  ⟨.ref s.heap.objs.size,_,I.laid (t':=s.toks) kp (dq _) (show tN X.prog X.w _ h' _ (.lst ys)from⟨hz,its,c',r',e⟩),Z',q _ (I.mR.fresh (dq _))⟩
 rcases hq with hq|hq
 .obtain⟨its,r',pl,hz⟩:=I.list hq;have YS:=r'.length;obtain⟨o,ho,hc,n,hd⟩:=pl.isList;exact call_list_seq p (.inl Z') ho hc hd (λh' c' kp e=>YR its r' hz h' c' kp e) (by simp only[dw]<;>lia)
 .obtain⟨its,r',pl,hz⟩:=I.tuple hq;have YS:=r'.length;obtain⟨o,ho,hc,n,hd⟩:=pl;exact call_list_seq p (.inr Z') ho hc hd (λh' c' kp e=>YR its r' hz h' c' kp e) (by simp only[dw]<;>lia)
def wO:Ap X (.type "tuple") (λxs H Q=>∃p ys,xs=[.ref p]/\((xV X.K H p ys/\∀l,H l=Fa->Q (.ref l) (upd H l (.tup ys)))\/(wg X.K H p ys/\Q (.ref p) H))):=by
 intro YL s Y H xs us Q I r h;obtain⟨p,ys,rfl,h⟩:=h;obtain⟨u,rfl,rx⟩:=yZ r;cases rx;rcases h with⟨hq,q⟩|⟨hq,q⟩
 .obtain⟨its,r',pl,hz⟩:=I.list hq;have YS:=r'.length;refine call_tuple_list pl.isList (λh' kp=>?_) (by simp only[dw]<;>lia);have I1:Inv X YL Y H {s with heap:=h'}:=I.kept (t':=s.toks) kp;have I2:Inv X YL Y (upd H h'.objs.size (.tup ys)) {s with heap:=h'.push {cls:=.type "tuple",data:=.seq its.toArray}}:=
   I1.laid (t':=s.toks) (λb o e=>c9 _ e) (dq _) (show tN X.prog X.w _ _ _ (.tup ys)from⟨hz,its,r',FI.new _ _⟩)
  exact⟨.ref h'.objs.size,_,I2,Z',q _ (I1.mR.fresh (dq _))⟩
 .obtain⟨its,r',pl,hz⟩:=I.tuple hq;exact call_tuple_same pl ⟨.ref p,H,I,Z',q⟩
def Yd(K:qE)(T:String)(x:V)(H:Hp):Prop:=match x with
 | .str _=>T="str"
 | .int _=>T="int"
 | .ref p=>(T="list"/\∃xs,xV K H p xs)\/(T="tuple"/\∃o,K.lookup p=ga o/\o.cls=.type "tuple"/\o.dict=Fa)\/
   (T="dict"/\((∃kvs,H p=ga (.dK kvs))\/∃kvs,H p=ga (.dT kvs)))\/(T="set"/\∃S n,H p=ga (.set S n))
 | _=>False
def OS(I:Inv X YL Y H s)(r:rj x v)(ty:Yd X.K T x H):
  s.TypeIs v T/\∀a,v=.ref a->∃ob,s.heap.get? a=ga ob/\ob.dict=Fa:=by
 cases x with
 | str z=>obtain⟨t,rfl⟩:=r;cases(show T="str" from ty);exact⟨typeIs_str s z t,λ_ e=>nomatch e⟩
 | int i=>obtain⟨t,rfl⟩:=r;cases(show T="int" from ty);exact⟨l0 s i t,λ_ e=>nomatch e⟩
 | ref p=>
  cases r;rcases ty with⟨rfl,xs,hq⟩|⟨rfl,o,hk,hc,hd⟩|⟨rfl,hk⟩|⟨rfl,S,n,hk⟩
  .obtain⟨its,_,pl,_⟩:=I.list hq;refine⟨pl.isList.typeIs,λa e=>?_⟩;cases e;obtain⟨o,n,e,c,hd,_⟩:=pl;exact⟨o,e,hd⟩
  .refine⟨⟨o,I.nE p o hk,hc⟩,λa e=>?_⟩;cases e;exact⟨o,I.nE _ o hk,hd⟩
  .have z:∃o,s.heap.get? p=ga o/\o.ExactDict:=by
    rcases hk with⟨kvs,hk⟩|⟨kvs,hk⟩
    .obtain⟨_,_,_,_,o,_,_,e,ex,_⟩:=I.mR p _ hk;exact⟨o,e,ex⟩
    .obtain⟨_,_,_,_,o,_,_,e,ex,_⟩:=I.mR p _ hk;exact⟨o,e,ex⟩
   obtain⟨o,e,ex⟩:=z;refine⟨⟨o,e,ex.1⟩,λa e2=>?_⟩;cases e2;exact⟨o,e,ex.2.1⟩
  .obtain⟨o,_,_,_,e,ex,_⟩:=I.mR p _ hk;refine⟨⟨o,e,ex.1⟩,λa e2=>?_⟩;cases e2;exact⟨o,e,ex.2.1⟩
 | _=>exact False.elim ty
def YB(K:qE)(T:String)(r:V->T0 V->Hp->VK->Prop)(to:TE)(t:TA):TE:=λY H Q=>to Y H λx H1=>Yd K T x H1/\t Y H1 λxs H2=>r x xs H2 Q
def WO(pa:PlainAttrs T)(slot:Slot T name id)(hty:typeOf (.builtin id)=pure (.type "method_descriptor"))(hm:Ym X id r)(ho:PE X o to)(ha:PA X (e::es) t) (Y0:Rs o name X.env (wp o X.env)=wp o X.env:=by rfl)
  (Z6:((sB YT (Tl (e::es) X.env)).all (λx=>!x.1)&&(IN YT (Ps [] X.env)).all (λx=>x.1.isSome)
   &&decide ((e::es).length+([]:T0 XXe).length+(if ([]:T0 XXe).isEmpty then 0 else 1)<30))=Db:=by rfl)
  (Zc:(YO.endLine==YT.line)=Db:=by rfl) (hs:Bt X e es:=by rfl) (Y8:C5 X YT es:=by rfl):
  PE X (.Call (.Attribute o name YO) (e::es) [] YT) (YB X.K T r to t):=by
 intro YL s Y H Q I h;refine wpAny_Call_method_late Y0 Z6 Zc Z' (tj (ho YL s Y H _ I h) λv s1 zz=>?_);obtain⟨x,H1,I1,r1,ty,q1⟩:=zz;obtain⟨h1,h2⟩:=OS I1 r1 ty;refine⟨T,id,pa,slot,hty,h1,h2,?_⟩;have hA:=ha YT YL s1 Y H1 _ I1 q1;rw[hs]at hA ⊢;refine j7 (by show(pc||(sB YT (Tl es X.env)).any (·.1))=pc;rw[Y8]<;>rfl) (Calls.evalArgs_plain ?_);exact tj hA λus s2 zz=>x5 zz λvs H2 I2 r2 q2=>hm YL s2 Y H2 x vs v us Q I2 r1 r2 q2
end
def Yw(X:Cx)(id:String)(r:V->T0 V->Hp->VK->Prop):Prop:=
 ∀(YL:QQY) (s:Sd) (Y:St) (H:Hp) (x:V) (xs:T0 V) (v:Vl) (us:T0 Vl) (Q:VK),Inv X YL Y H s->rj x v->qK xs us->r x xs H Q->
  pi (Tk X.prog X.w) X.A (call (.builtin id) (v::us)) (EP X YL Y Q) X.xe s
def qK.one:∀{x:V} {us:T0 Vl},qK [x] us->∃u,us=[u]/\rj x u
 | _,_,.cons r .nil=>⟨_,Z',r⟩
theorem qK.rep(h:qK xs us):∀k:Nat,qK (List.replicate k xs).flatten (List.replicate k us).flatten
 | 0=>.nil
 | k+1=>by rw[eI,eI,fS,fS];exact qK.append h (qK.rep h k)
theorem ED(its:T0 Vl):∀(k:Nat) (acc:T0 Vl),List.foldl (λx1 x2=>x1++x2) acc.toArray (List.replicate k its.toArray)=(acc++(List.replicate k its).flatten).toArray
 | 0,acc=>by simp
 | k+1,acc=>by
  have e:acc.toArray++its.toArray=(acc++its).toArray:=by simp
  have e2:(acc++its)++(List.replicate k its).flatten=acc++(List.replicate (k+1) its).flatten:=by rw[eI,fS,fh]
  rw[<-e2,<-ED its k (acc++its),<-e,eI,fY]
variable {YL:T0 (Uf × Obj)}{Y:St}{H:Hp}{s:Sd}{l:Uf}{xs ys zs:T0 V}
section
variable {b:Uf}
def Inv.lset{its its':T0 Vl}{n:Nat}{f:Array Vl->Array Vl}{t':Nat}(I:Inv X YL Y H s)(hH:H l=ga (.lst xs)) (e:s.heap.get? l=ga {cls:=.type "list",data:=.seq its.toArray n}) (hf:f its.toArray=its'.toArray) (hv:qK ys its') (hz:ys.length<=Ch):
  Inv X YL Y (upd H l (.lst ys)) {s with heap:=s.heap.update l (Obj.mapSeq f),toks:=t'}:=by
 have q:=PySem.IsL.update e f;rw[hf]at q;refine I.write (x:=l) (e:=l) (by rw[hH];exact trivial) (.inl Z') (λb' u hb hu=>(gc s.heap (Obj.mapSeq f) (dW hb)).trans hu) ⟨_,q⟩ ?_;exact⟨hz,its',_,hv,q⟩
def Inv.oX{t':Nat}(I:Inv X YL Y H s)(hv:qK ys its)(hz:ys.length<=Ch):
  Inv X YL Y (upd H s.heap.objs.size (.lst ys)) {s with heap:=s.heap.push {cls:=.type "list",data:=.seq its.toArray},toks:=t'}:=
 I.laid (λ_ _ q=>c9 _ q) (dq _) ⟨hz,its,0,hv,dJ _ Z'⟩
def Inv.fresh(I:Inv X YL Y H s):H s.heap.objs.size=Fa:=I.mR.fresh (dq _)
def Inv.oP(I:Inv X YL Y H s)(hH:H l=ga (.lst xs)):xs.length<=Ch/\∃(its:T0 Vl) (n:Nat),qK xs its/\xs.length=its.length/\s.heap.get? l=ga {cls:=.type "list",data:=.seq its.toArray n}:=by obtain⟨z,its,n,r,e⟩:=I.mR l _ hH;exact⟨z,its,n,r,r.length,e⟩
def NJ{n:Nat}(h:n<=Ch):Builtin.List.listTooLong n=pc:=by unfold Builtin.List.listTooLong;exact eQ (by lia)
end
def Rb:V->T0 V->Hp->VK->Prop:=λx vs H Q=>∃l xs y,x=.ref l/\vs=[y]/\H l=ga (.lst xs)/\xs.length<Ch/\Q .mM (upd H l (.lst (xs++[y])))
def LU:Yw X "list.append" Rb:=by intro YL s Y H x vs v us Q I rx rv h;obtain⟨l,xs,y,rfl,rfl,hH,hz,q⟩:=h;cases rx;obtain⟨u,rfl,ru⟩:=rv.one;obtain⟨z,its,n,r,hl,e⟩:=I.oP hH;refine jx F.slot_list_append ⟨_,e,Z'⟩ F.entry_list_append (F.args_list_append_2 _ _) (PySem.list_append l its.toArray n u (by rw[dw];lia)) ⟨e,?_⟩;refine⟨.mM,_,I.lset (its':=its++[u]) hH e (by simp) (r.append (.cons ru .nil)) ?_,Z',q⟩;rw[cW,dD];lia
def X7:R2:=λx y H Q=>∃l k xs,x=.ref l/\y=.int k/\H l=ga (.lst xs)/\-(2 ^ 63)<=k/\k<2 ^ 63/\xs.length*k.toNat<=Ch/\
 ∀p,H p=Fa->Q (.ref p) (upd H p (.lst (List.replicate k.toNat xs).flatten))
def Q4{α:Type}(xs:List α)(k:Nat):(List.replicate k xs).flatten.length=k*xs.length:=by
 induction k with
 | zero=>simp
 | succ k ih=>rw[eI,fS,cW,ih,mx,Nat.add_comm]
def Uk:xX X (wS .Mult) X7:=by
 intro YL s Y H x y v u Q I rx ry h;obtain⟨l,k,xs,rfl,rfl,hH,h1,h2,hz,q⟩:=h;cases rx;obtain⟨t,rfl⟩:=ry;obtain⟨z,its,n,r,hl,e⟩:=I.oP hH;have YS:its.toArray.size*k.toNat<=Ch:=by rw[dw,<-hl];exact hz
 have hcap:¬its.toArray.size*k.toNat>(2 ^ 63 - 1) / 8:=by
  have:(Ch:Nat)<=(2 ^ 63 - 1) / 8:=by decide
  lia
 have Zm:¬(!Builtin.List.listFitsIndex k)=Db:=by rw[fitsIndex_both h1 h2];exact dA
 have hlong:¬Builtin.List.listTooLong (its.toArray.size*k.toNat)=Db:=by rw[NJ YS];exact dA
 have hnew:List.foldl (λx1 x2=>x1++x2) #[] (List.replicate (if its.toArray.isEmpty=Db then 0 else k.toNat) its.toArray)=(List.replicate k.toNat its).flatten.toArray:=by
  have f0:∀m:Nat,List.foldl (λx1 x2=>x1++x2) #[] (List.replicate m its.toArray)=(List.replicate m its).flatten.toArray:=λm=>by have:=ED its m [];rw[d9]at this;exact this
  rw[f0];cases its with
  | nil=>simp
  | cons a r'=>rw[cY (by simp)]
 refine wpAny_binaryOp_repeat_ref (T:="list") (U:="int") (by decide) ⟨_,e,Z'⟩ (λs'=>l0 s' k t) noFill_list_mul F.fills_int_mul l8 repeat_list F.slot_int_index.lookup
  (jx l8 (l0 s k t) F.entry_int_rmul (F.args_int_rmul_2 _ _) (int___rmul___int_list k t l its.toArray n)
   ⟨e,Z',⟨_,e,Z'⟩,jx F.slot_list_mul ⟨_,e,Z'⟩ F.entry_list_mul (F.args_list_mul_2 _ _) (AutoListH.list___mul___list_int_3 l its.toArray n k t Zm hcap hlong) ⟨e,?_⟩⟩)
 rw[hnew];exact⟨.ref _,_,I.oX (t':=s.toks) (r.rep k.toNat) (by rw[Q4,Nat.mul_comm];exact hz),Z',q _ I.fresh⟩
variable {prog:Pg}{w:Wo}{A:Ar}{E:QQX}
end L2
namespace Att
open PySem PySem.W PySem.Calls PyProof.Rows
def BD:∀(ns:T0 Int) (vs:T0 Vl),WellAll P h vs (ns.map WData.int)->IntsAre vs ns:=by
 intro ns;induction ns with
 | nil=>intro vs w;rw[iU]at w;cases w;exact .nil
 | cons n ns ih=>
  intro vs w;rw[dY]at w;cases w with
  | cons a b=>cases a;exact .cons _ _ (ih _ b)
def LG{l:OpenLaw}{n:Nat}(hn:l.most=ga n){P:Params}{h:Go}{args:T0 WData}{vals:T0 Vl} (hpre:l.row.toRowW.claim.pre args=Db) (hwl:WellAll P h vals args):
  ∃a vs ns,vals=[Value.ref a]/\args=[WData.list (ns.map WData.int)]/\h.get? a=ga {cls:=.type "list",data:=.seq vs.toArray}/\IntsAre vs ns/\ns.length<=n:=by
 have hsh:WShape.hasAll [] args [.list .int]=Db:=(pre_splitW hpre).1;have hc:l.pre.holds [] {args:=args}=Db:=(pre_splitW hpre).2;obtain⟨d,r,rfl,h1,h2⟩:=hasAllW_cons hsh;obtain rfl:=hasAllW_nil h2;obtain⟨xs,rfl,h3⟩:=hasW_list h1;obtain⟨ns,rfl⟩:=items_int h3;have YS:ns.length<=n:=by
  unfold OpenLaw.pre at hc;have h4:(WTm.not (.lt (.lit (.int (n:Int))) (.len (.arg 0)))).holds [] {args:=[.list (ns.map .int)]}=Db:=by have h4:=(holds_andW hc).1;rw[hn]at h4;exact h4
  have h5:=condW_of h4 (w_not (w_lt w_lit (w_len_list (w_arg Z'))));rw[cT]at h5;refine jI λq=>?_;have q':(n:Int)<((ns.length:Nat):Int):=by lia
  first
   | (rw[dX q']at h5;exact absurd h5 (by decide))
   | (simp at h5;lia)
 cases hwl with
 | cons w1 w2=>
  cases w2;cases w1 with
  | list ho ZQ=>exact⟨_,_,ns,Z',Z',ho,BD ns _ ZQ,YS⟩
def Ll(l:OpenLaw)(args:T0 WData):l.row.toRowW.claim.post args (.bool Db) args=Db:=
 postW_of (r:=l.row.toRowW) (X:=(Db==Db))
  (show WShape.has [] (.bool Db) .bool=Db by first|rfl|decide|simp[WShape.has,WShape.arms,WShape.armsAll])
  (show(WTm.eq .res (.lit (.bool Db))).value [] {args:=args,res:=some (.bool Db),after:=args}=ga (.bool (Db==Db))from w_eq_bool (w_res Z') w_lit) Z'
def attach_call{l:OpenLaw}{n:Nat}{YP:Wo->Go->Prop}{d:DefRec} (hn:l.most=ga n) (hdf:d.params.defaults=[]) (call:∀(w:Wo) (s₀ s₁:Sd) (mg mb:QQZ) (fa:Uf) (o:Obj) (pm cd Zp:Vl) (a:Uf) (vs:T0 Vl) (ns:T0 Int),Ground q Zz [] XP w s₀ mg mb s₁.heap->YP w s₁.heap->
   s₁.heap.get? fa=ga o->o.data=.func (docDef d.name d.params d.body d.scope pm cd Zp)->s₁.heap.CodeRec cd d.name->mg d.name=ga (.ref fa)->
   s₁.heap.get? a=ga {cls:=.type "list",data:=.seq vs.toArray}->IntsAre vs ns->ns.length<=n->s₁.gens=#[]->
   XXj (Tk l.prog w) callerA (.call (.ref fa) ⟨[.ref a],[]⟩) (λr s'=>r=.ok (.ret (.bool Db))/\OldK s₁.heap s'.heap/\s'.os=s₁.os/\XYb s'.gens) s₁):
  WalkO q Zz XP YP l.row.toRowW d [] (λf vs=>PySem.call f vs):=by
 intro w s₀ s₁ mg mb G Y fa o pm cd Zp dV kV ho hd Z3 hD hmg hg args vals as hpre hlay hrd hwl hlo;obtain rfl:dV=.none:=Dflts.none hD hdf;obtain rfl:kV=.none:=Dflts.noKw hD;obtain⟨a,vs,ns,rfl,rfl,hobj,hints,YS⟩:=LG hn hpre hwl;refine enter_call (gL (call w s₀ s₁ mg mb fa o pm cd Zp a vs ns G Y ho (fd_plain hd) Z3 hmg hobj hints YS hg) λr s' hq=>?_);obtain⟨rfl,h2,h3,h4⟩:=hq;exact⟨.inl ⟨.bool Db,.bool Db,[],Z',λ_=>rfl,.bool Db,Ll l _,λ_=>⟨List.Pairwise.nil,λ_ hm=>(nomatch hm)⟩⟩,h2,h3,h4⟩
variable {prog:Pg}{w:Wo}{A:Ar}{E:QQX}{s:Sd}{K:Frag}
end Att
namespace L2
theorem Ew:∀{vs:T0 Vl} {ns:T0 Int},IntsAre vs ns->qK (ns.map V.int) vs
 | _,_,.nil=>.nil
 | _,_,.cons n t h=>.cons ⟨t,Z'⟩ (Ew h)
def Ny(H:Hp):Prop:=∀b,H b=Fa\/∃o xs,H b=ga (.frz o (.lst xs))
def NX{P:Pg}{w:Wo}{K:qE}{mg mb:QQZ}{CX:Mb}{fa a:Uf}{fd:Ix}{x:Str}{sp:Sp}{s₁:Sd}{vs:T0 Vl} (KX:K.In s₁.heap) (hns:s₁.heap.Ns At mg) (hb:s₁.heap.Ns builtinsNs mb) (hbb:∀x:Str,x≠"__name__"->mb x=No x) (hlim:s₁.heap.NoLimit) (hg:s₁.gens=#[]) (ha:s₁.heap.get? a=ga {cls:=.type "list",data:=.seq vs.toArray}) (hi:IntsAre vs ns) (hl:ns.length<=Ch) (hr:sG k callerA)
  (F:∀base:Go,K.In base->base.Ns At mg->xS P w K mg base CX k fa fd [x] sp) (hbind:∀(s:Sd) (u:Vl),BindsTo s fd ⟨[u],[]⟩ [(x,u)])
  (hsp:∀H:Hp,Ny H->xV K H a (ns.map V.int)->sp [.ref a] H (λv _=>v=.bl Db) λ_ _ _=>False)
  (hCX:∀H e s',CX [] H s₁ (λ_ _ _=>False) e s'->False):
  XXj (Tk P w) callerA (.call (.ref fa) ⟨[.ref a],[]⟩) (λr s'=>r=.ok (.ret (.bool Db))/\OldK s₁.heap s'.heap/\s'.os=s₁.os/\XYb s'.gens) s₁:=by
 have rv:=Ew hi;have lenV:=hi.length;have core:∀H:Hp,Ny H->xV K H a (ns.map V.int)->yR P w H s₁.heap->(∀b,H b≠Fa->b=a)->(H a≠Fa->K.lookup a=Fa)->
   XXj (Tk P w) callerA (.call (.ref fa) ⟨[.ref a],[]⟩) (λr s'=>r=.ok (.ret (.bool Db))/\OldK s₁.heap s'.heap/\s'.os=s₁.os/\XYb s'.gens) s₁:=by
  intro H hO hS mR hA hK;have base_of:∀{b:Uf} {o:Obj},s₁.heap.get? b=ga o->H b=Fa->(FM s₁.heap H).get? b=ga o:=λe n=>Mi e n;have noA:∀{b:Uf} {o:Obj} {es:Array DictEntry} {ep:Nat},s₁.heap.get? b=ga o->o.data=.dict es ep->H b=Fa:=λ{b o es ep} e d=>by
   cases q:H b with
   | none=>rfl
   | some u=>have e':b=a:=hA b (by rw[q];simp);subst e';rw[ha]at e;cases e;have d':Data.seq vs.toArray _=Data.dict es ep:=d;cases d'
  have nsK:∀{b:Uf} {m:QQZ},s₁.heap.Ns b m->(FM s₁.heap H).Ns b m:=λ{b m} ⟨o,es,ep,e,d,r⟩=>⟨o,es,ep,base_of e (noA e d),d,r⟩;have hKb:K.In (FM s₁.heap H):=λb o e=>base_of (KX b o e) (by
   cases q:H b with
   | none=>rfl
   | some u=>
    have e':b=a:=hA b (by rw[q];simp);subst e';rw[hK (by rw[q];simp)]at e;cases e)
  have hM:Mod K mg (FM s₁.heap H):=⟨hKb,nsK hns,⟨mb,nsK hb,hbb⟩,let⟨mc,h1,h2⟩:=hlim;⟨mc,nsK h1,h2⟩⟩;have e0:Im P w K mg (FM s₁.heap H) callerA [] s₁ H:=⟨Z',hM,λb o e=>Ra e,mv (KP _ _),trivial,λb hb=>absurd (show b∈([]:QXQ)from hb) (by simp),mR,.of_eq hg⟩;refine gL ((F _ hKb (nsK hns)).run callerA [] s₁ H ⟨[.ref a],[]⟩ [.ref a] [.ref a] _ _ hr e0 (hbind s₁ (.ref a)) (.cons Z' .nil) (hsp H hO hS)) λr s' h=>?_;cases r with
  | error e=>exact(hCX H e s' h).elim
  | ok fl=>
   cases fl with
   | next=>exact False.elim h
   | brk=>exact False.elim h
   | cont=>exact False.elim h
   | ret u=>
    obtain⟨v,H',os,bare,un,hok',r',q⟩:=h;have q':v=.bl Db:=q;subst q';obtain rfl:u=Value.bool Db:=r';refine⟨Z',OldK.of_keep λb o e=>?_,os,bare⟩;cases q:H b with
    | none=>exact un.keep b o e q (by intro z;exact absurd (show b∈([]:QXQ)from z) (by simp)) (by simp)
    | some u=>
     rcases hO b with z|⟨ob,xs,z⟩
     .rw[q]at z;cases z
     .have z2:=un.nB b ob _ z;obtain⟨e1,_⟩:=mR b _ z;obtain⟨e2,_⟩:=hok' b _ z2;rw[e]at e1;cases e1;exact e2
 cases hk:K.lookup a with
 | some o=>have e:=KX a o hk;rw[ha]at e;cases e;refine core (λ_=>Fa) (λ_=>.inl Z') (.inr ⟨_,vs.toArray,_,hk,Z',Z',Z',by rw[dw,lenV];exact hl,by simpa using rv⟩) (λb u z=>by have z':(Fa:Option HO)=ga u:=z;cases z') (λb z=>absurd Z' z) λz=>absurd Z' z
 | none=>
  refine core (λb=>if b=a then ga (.frz {cls:=.type "list",data:=.seq vs.toArray} (.lst (ns.map V.int)))else Fa) (λb=>?_) (.inl (.inr ⟨{cls:=.type "list",data:=.seq vs.toArray},de Z'⟩)) (λb u z=>?_) (λb z=>?_) λ_=>hk
  .by_cases hb:b=a
   .exact .inr ⟨_,_,de hb⟩
   .exact .inl (cY hb)
  .by_cases hb:b=a
   .have z':=(de hb).symm.trans z;cases z';subst hb;exact⟨ha,by rw[cT];exact hl,vs,_,rv,ha⟩
   .have z':=(cY hb).symm.trans z;cases z'
  .by_cases hb:b=a
   .exact hb
   .exact absurd (cY hb) z
def Qt{l:W.OpenLaw}{n k:Nat}{q:Pg}{Zz:QQQ}{XP:(QQZ)->Go->Prop}{YP:Wo->Go->Prop}{d:DefRec}{K:Params->qE}{CX:Wo->Mb}{sp:Wo->Sp}{x:Str} (hn:l.most=ga n) (hn2:n<=Ch) (hdf:d.params.defaults=[]) (hr:sG k callerA) (hY:∀(w:Wo) (h:Go),YP w h->(K w.params).In h) (F:∀(w:Wo) (mg:QQZ) (fa:Uf) (h:Go),(K w.params).In h->h.Ns At mg->mg d.name=ga (.ref fa)->
   ∃fd:Ix,(∀(s:Sd) (u:Vl),BindsTo s fd ⟨[u],[]⟩ [(x,u)])/\
    ∀base:Go,(K w.params).In base->base.Ns At mg->xS l.prog w (K w.params) mg base (CX w) k fa fd [x] (sp w))
  (hsp:∀(w:Wo) (H:Hp) (a:Uf) (ns:T0 Int),ns.length<=n->Ny H->xV (K w.params) H a (ns.map V.int)->sp w [.ref a] H (λv _=>v=.bl Db) λ_ _ _=>False)
  (hCX:∀(w:Wo) (H:Hp) (s:Sd) (e:Vl) (s':Sd),CX w [] H s (λ_ _ _=>False) e s'->False):
  W.WalkO q Zz XP YP l.row.toRowW d [] (λf vs=>PySem.call f vs):=by
 refine Att.attach_call hn hdf λw s₀ s₁ mg mb fa o pm cd Zp a vs ns G Y ho hd Z3 hmg hobj hints YS hg=>?_;have KX:=hY w _ Y;obtain⟨fd,hb,hF⟩:=F w mg fa _ KX G.T.g hmg;exact NX KX G.T.g G.T.b G.T.builtins G.T.nolimit hg hobj hints (dZ YS hn2) hr hF hb (λH hO hS=>hsp w H a ns YS hO hS) λH e s'=>hCX w H s₁ e s'
noncomputable def Qj(s:TD)(j:Nat):TD:=match s with
 | .ClassDef _ _ _ body _ _ _ _ _ _ _=>body.getD j (.Pass ⟨0,0,0,0⟩)
 | _=>.Pass ⟨0,0,0,0⟩
noncomputable def uU(s:TD):Arguments:=match s with
 | .FunctionDef _ a _ _ _ _ _ _ _ _=>a
 | _=>{posonlyargs:=[],args:=[],vararg:=none,kwonlyargs:=[],kw_defaults:=[],kwarg:=none,defaults:=[]}
noncomputable def sy(s:TD):T0 TD:=match s with
 | .FunctionDef _ _ b _ _ _ _ _ _ _=>b
 | _=>[]
noncomputable def qx(s:TD):XXd:=match s with
 | .FunctionDef _ _ _ _ _ _ sc _ _ _=>sc
 | _=>{kind:=.function,names:=[],isGenerator:=false,isCoroutine:=false}
abbrev Py:Mb:=λ_ _ _ _ _ _=>False
abbrev E0:XK:=λ_ _ _=>False
def GI:zo Py X E0:=λ_ _ _ _ _ _ _ h=>h.elim
structure QL(K:qE)(x qual:Str)(st:TD)(f:Uf)(fd:Ix):Prop where
 ex:∃(oc:Vl) (od:Option Uf) (kV Zp pm:Vl) (an:Option Uf) (YX ct:Vl) (ZL:Array (Option Vl)),
  fd=W.fnOf x qual (uU st) (sy st) (qx st) .none kV Zp pm an YX ct/\K.lookup f=ga ⟨oc,od,.func fd,ZL⟩/\W.codeIn K YX qual=Db
 kp:W.keepIn K (.ref f)=Db
variable {P:Pg}{K:qE}{mg:QQZ}{base:Go}
section
variable {w:Wo}
def QL.ok{st:TD}{sp:Sp}(F:QL K x qual st f fd)(S:tS N ps (qx st))(len:∀vs H Q E,sp vs H Q E->vs.length=ps.length) (Zb:∀(YX:Vl) (A:Ar) (outer:T0 Env) (s:Sd) (H:Hp) (vs:T0 V) (Q:VK) (E:XK),sG k (A.deeper (xL qual (qx st) s.heap.objs.size f YX))->sp vs H Q E->
   ∃t,Dh (vS Py P w K mg base N qual (qx st) f YX A outer s H E).oF (sy st) t/\t {nx:=λ_ H'=>Q .mM H',rt:=Q} (start N vs) H):xS P w K mg base Py (k+1) f fd ps sp:=by
 obtain⟨oc,od,kV,Zp,pm,an,YX,ct,ZL,rfl,lk,Z3⟩:=F.ex;refine Ng lk Z3 S len λA outer s H vs Q E hr hsp=>?_;obtain⟨t,h,q⟩:=Zb YX A outer s H vs Q E hr hsp;exact⟨t,h.oF,q⟩
def QL.binds{st:TD}{ps:QQQ}(F:QL K x qual st f fd) (h:∀(kV Zp pm:Vl) (an:Option Uf) (YX ct:Vl) (us:T0 Vl),us.length=ps.length->bindArgs (W.fnOf x qual (uU st) (sy st) (qx st) .none kV Zp pm an YX ct) ⟨us,[]⟩=pure (ps.zip us)):vc K fd ps []:=by
 obtain⟨oc,od,kV,Zp,pm,an,YX,ct,ZL,rfl,lk,Z3⟩:=F.ex;exact .all (h kV Zp pm an YX ct)
def MW{st:TD}{oc:Vl}{od an:Option Uf}{ZL:Array (Option Vl)}{kV Zp pm YX ct:Vl}(l:K.lookup f=ga ⟨oc,od,.func (W.fnOf x qual (uU st) (sy st) (qx st) .none kV Zp pm an YX ct),ZL⟩) (c:W.codeIn K YX qual=Db) (k:W.keepIn K (.ref f)=Db):QL K x qual st f (W.fnOf x qual (uU st) (sy st) (qx st) .none kV Zp pm an YX ct):=⟨⟨oc,od,kV,Zp,pm,an,YX,ct,ZL,Z',l,c⟩,k⟩
end
variable {X:Cx}
def pv(i:Nat){x:Str}{pos:Pos}(hN:X.N[i]?=ga x:=by rfl)(hv:Wa X.env.scope x:=by first|exact Or.inl Z'|exact Or.inr (Or.inl Z')|exact Or.inr (Or.inr Z'))(hd:Ab x:=by decide)
  (Z3:(x==("__classdict__":Str))=pc:=by decide):PE X (.Name x pos) (Jy i):=Uq hN hv hd Z3
def Og{A B:Prop}(h:B):if pc=Db then A else B:=by rw[cY dA];exact h
def KU{A B:Prop}(h:A):if Db=Db then A else B:=by rw[de Z'];exact h
def qT{c A B:Prop}[Decidable c](h1:c->A)(h2:¬c->B):if c then A else B:=by
 by_cases h:c
 .rw[de h];exact h1 h
 .rw[cY h];exact h2 h
def RT(H H':Hp):Prop:=∀b o,H b=ga o->H' b=ga o
def RT.trans(a:RT H H1)(b:RT H1 H2):RT H H2:=λc o h=>b c o (a c o h)
section
variable {κ:Type}[DecidableEq κ]
noncomputable def xI(kvs:T0 (κ×V))(k:κ):Option V:=(kvs.find? λkv=>decide (kv.1=k)).map (·.2)
noncomputable def zv(kvs:T0 (κ×V))(k:κ)(v:V):T0 (κ×V):=
 if (kvs.any λkv=>decide (kv.1=k))=Db then kvs.map (λkv=>if kv.1=k then(kv.1,v)else kv)else kvs++[(k,v)]
def Cd{p:κ×V}{r:T0 (κ×V)}{k:κ}(e:p.1=k):xI (p::r) k=ga p.2:=by simp[xI,ft,e]
def Cr{p:κ×V}{r:T0 (κ×V)}{k:κ}(e:¬p.1=k):xI (p::r) k=xI r k:=by simp[xI,ft,e]
theorem Hw(k:κ):∀kvs:T0 (κ×V),(kvs.any λkv=>decide (kv.1=k))=(xI kvs k).isSome
 | []=>rfl
 | p::r=>by
  rw[gf];by_cases e:p.1=k
  .simp only[Cd e,dX e,ia,Option.isSome_some]
  .rw[Cr e,eQ e,fQ];exact Hw k r
def Bj(kvs:T0 (κ×V))(k:κ)(v:V):(zv kvs k v).length<=kvs.length+1:=by
 unfold zv;split
 .rw[cT];lia
 .rw[cW,d4,dH];lia
def yQ.nC(r:yQ o u):o.isSome=u.isSome:=by
 cases o with
 | none=>cases u with
  | none=>rfl
  | some _=>exact(show False from r).elim
 | some _=>cases u with
  | none=>exact(show False from r).elim
  | some _=>rfl
def KV.val(r:KV kvs vs)(k:κ):yQ (xI kvs k) (valueAt vs k):=by
 unfold KV at r;induction r with
 | nil=>exact True.intro
 | @cons p q ps qs h t ih=>
  obtain⟨h1,h2⟩:=h;by_cases e:p.1=k
  .have e':q.1=k:=h1.symm.trans e;have b:valueAt (q::qs) k=ga q.2:=by simp[valueAt,ft,e']
   rw[Cd e,b];exact h2
  .have e':¬q.1=k:=λz=>e (h1.trans z);have b:valueAt (q::qs) k=valueAt qs k:=by simp[valueAt,ft,e']
   rw[Cr e,b];exact ih
def KV.any(r:KV kvs vs)(k:κ):(kvs.any λkv=>decide (kv.1=k))=vs.any λkv=>decide (kv.1=k):=by
 unfold KV at r;induction r with
 | nil=>rfl
 | cons h t ih=>rw[gf,gf,ih,h.1]
def KV.oC(r:KV kvs vs)(k:κ){y:V}{u:Vl}(ry:rj y u):
  KV (kvs.map λkv=>if kv.1=k then(kv.1,y)else kv) (vs.map λkv=>if kv.1=k then(kv.1,u)else kv):=by
 unfold KV at r ⊢;induction r with
 | nil=>exact .nil
 | @cons p q ps qs h t ih=>
  rw[dY,dY];refine .cons ?_ ih;obtain⟨h1,h2⟩:=h;by_cases e:p.1=k
  .rw[de e,de (h1.symm.trans e)];exact⟨h1,ry⟩
  .rw[cY e,cY (λz=>e (h1.trans z))];exact⟨h1,h2⟩
def KV.put(r:KV kvs vs)(k:κ){y:V}{u:Vl}(ry:rj y u):KV (zv kvs k y) (stored vs k u):=by
 unfold zv stored;rw[r.any k];by_cases e:(vs.any λkv=>decide (kv.1=k))=Db
 .rw[de e,de e];exact r.oC k ry
 .rw[cY e,cY e];exact mD r ⟨Z',ry⟩
def KV.length(r:KV kvs vs):kvs.length=vs.length:=jm r
end
def HK(r:rj (kV k) u):(rQ P w).is k u=Db:=by
 cases k with
 | inl i=>obtain⟨t,e⟩:=(show ∃t,u=Value.int i t from r);subst e;exact Hn P w i t
 | inr x=>obtain⟨t,e⟩:=(show ∃t,u=Value.str x t from r);subst e;exact Be P w x t
theorem EA:∀{ks:List rD} {us:T0 Vl},qK (ks.map kV) us->ItemsAre (rQ P w) ks us
 | [],_,r=>by rw[iU]at r;cases r;exact .nil
 | k::ks,_,r=>by
  rw[dY]at r;cases r with
  | cons h t=>exact .cons (HK h) (EA t)
abbrev KT(H:Hp):T0 (List rD×V)->T0 (List rD×Uf×Vl)->Prop:=Paired λp q=>p.1=q.1/\H q.2.1=ga (.tup (p.1.map kV))/\rj p.2 q.2.2
def KT.val(r:KT H kvs xs)(k:List rD):yQ (xI kvs k) ((atKey xs k).map (·.2)):=by
 induction r with
 | nil=>exact True.intro
 | @cons p q ps qs h t ih=>
  obtain⟨h1,_,h2⟩:=h;by_cases e:p.1=k
  .have e':q.1=k:=h1.symm.trans e;have b:atKey (q::qs) k=ga q.2:=by simp[atKey,ft,e']
   rw[Cd e,b];exact h2
  .have e':¬q.1=k:=λz=>e (h1.trans z);have b:atKey (q::qs) k=atKey qs k:=by simp[atKey,ft,e']
   rw[Cr e,b];exact ih
def KT.oC(r:KT H kvs xs)(k:List rD){y:V}{u:Vl}(ry:rj y u):
  KT H (kvs.map λkv=>if kv.1=k then(kv.1,y)else kv) (xs.map (putAt k u)):=by
 induction r with
 | nil=>exact .nil
 | @cons p q ps qs h t ih=>
  rw[dY,dY];refine .cons ?_ ih;obtain⟨h1,h2,h3⟩:=h;unfold putAt;by_cases e:p.1=k
  .rw[de e,de (h1.symm.trans e)];exact⟨h1,h2,ry⟩
  .rw[cY e,cY (λz=>e (h1.trans z))];exact⟨h1,h2,h3⟩
def KT.put(r:KT H kvs xs)(k:List rD){b:Uf}{y:V}{u:Vl}(hb:H b=ga (.tup (k.map kV)))(ry:rj y u):
  KT H (zv kvs k y) (storedH xs k b u):=by
 have e:(kvs.any λkv=>decide (kv.1=k))=(atKey xs k).isSome:=by rw[Hw,(r.val k).nC,iK]
 unfold zv storedH;rw[e];by_cases q:(atKey xs k).isSome=Db
 .rw[de q,de q];exact r.oC k ry
 .rw[cY q,cY q];exact mD r ⟨Z',hb,ry⟩
def KT.keeps{H H':Hp}(r:KT H kvs xs)(ht:∀b ys,H b=ga (.tup ys)->H' b=ga (.tup ys)):KT H' kvs xs:=
 Paired.oJ r λ_ _ z=>⟨z.1,ht _ _ z.2.1,z.2.2⟩
variable {H:Hp}{h:Go}{a:Uf}
section
variable {w:Wo}
def Sr(ok:yR P w H h)(e:Rd H a u):tN P w H h a u:=e.ok ok
def Jz{kvs:T0 (rD×V)}(ok:yR P w H h)(e:Rd H a (.dK kvs)):kvs.length<=Ch/\(a==TW)=pc/\∃vs,KV kvs vs/\h.DictOf (rQ P w) a vs:=
 show tN P w H h a (.dK kvs)from Sr ok e
def Vu{kvs:T0 (rD×V)}(ok:yR P w H h)(e:H a=ga (.dK kvs)):kvs.length<=Ch/\(a==TW)=pc/\∃vs,KV kvs vs/\h.DictOf (rQ P w) a vs:=Jz ok (.inl e)
def Gk{ks:List rD}(ok:yR P w H h)(e:H a=ga (.tup (ks.map kV))):(tupleKind (rQ P w)).is h ks a:=by obtain⟨_,its,r,o,h1,h2,⟨n,h3⟩,_⟩:=(show tN P w H h a (.tup (ks.map kV))from ok a _ e);exact⟨o,its.toArray,n,h1,h2,h3,by simpa using EA r⟩
def KG{kvs:T0 (List rD×V)}(ok:yR P w H h)(e:Rd H a (.dT kvs)):kvs.length<=Ch/\(a==TW)=pc/\
  ∃xs,KT H kvs xs/\h.DictOfH (tupleKind (rQ P w)) a xs:=by
 obtain⟨z,y,xs,r,o,es,ep,h1,h2,h3,h4,h5⟩:=(show tN P w H h a (.dT kvs)from Sr ok e);refine⟨z,y,xs,r,o,es,ep,h1,h2,h3,h4,λx hx=>?_,h5⟩;have all:∀{l:T0 (List rD×V)} {m:T0 (List rD×Uf×Vl)},KT H l m->∀x∈m,(tupleKind (rQ P w)).is h x.1 x.2.1:=by
  intro l m q;induction q with
  | nil=>intro x hx;exact nomatch hx
  | @cons p q ps qs hq t ih=>
   intro x hx;rcases dg.mp hx with e|hx
   .subst e;exact Gk ok (by rw[<-hq.1];exact hq.2.1)
   .exact ih x hx
 exact all r x hx
def Wc{kvs:T0 (List rD×V)}(ok:yR P w H h)(e:H a=ga (.dT kvs)):kvs.length<=Ch/\(a==TW)=pc/\
  ∃xs,KT H kvs xs/\h.DictOfH (tupleKind (rQ P w)) a xs:=KG ok (.inl e)
end
def Fw(H:Hp)(a:Uf)(y:V)(r:Option V):Prop:=
 (∃kvs k,Rd H a (.dK kvs)/\y=kV k/\r=xI kvs k)\/∃kvs k b,Rd H a (.dT kvs)/\y=.ref b/\H b=ga (.tup (k.map kV))/\r=xI kvs k
def OZ(H:Hp)(a:Uf)(y v:V)(H':Hp):Prop:=
 (∃kvs k,H a=ga (.dK kvs)/\y=kV k/\kvs.length<Ch/\H'=upd H a (.dK (zv kvs k v)))\/
 ∃kvs k b,H a=ga (.dT kvs)/\y=.ref b/\H b=ga (.tup (k.map kV))/\kvs.length<Ch/\H'=upd H a (.dT (zv kvs k v))
def Fw.k{H:Hp}{a:Uf}{kvs:T0 (rD×V)}{k:rD}(e:H a=ga (.dK kvs)):Fw H a (kV k) (xI kvs k):=.inl ⟨kvs,k,.inl e,Z',Z'⟩
def OZ.k{H:Hp}{a:Uf}{kvs:T0 (rD×V)}{k:rD}(e:H a=ga (.dK kvs))(hl:kvs.length<Ch):OZ H a (kV k) v (upd H a (.dK (zv kvs k v))):=.inl ⟨kvs,k,e,Z',hl,Z'⟩
variable {YL:T0 (Uf × Obj)}{Y:St}{y v:V}{u r:Vl}
section
variable {s:Sd}{o:Option V}{A:Ar}{E:QQX}
def Inv.big(I:Inv X YL Y H s):TW<s.heap.objs.size:=by have h:At<s.heap.objs.size:=(I.mod.glob.keeps I.bk).lt;exact iA (by decide) h
def LW{Q:QQX}(hu:A.units+1<XXa)(I:Inv X YL Y H s)(g:Fw H a y (ga v))(ry:rj y u)(h:∀w' s',Inv X YL Y H s'->rj v w'->Q w' s'):
  pi (Tk X.prog X.w) A (XXf (.ref a) u) Q E s:=by
 rcases g with⟨kvs,k,e,ey,l⟩|⟨kvs,k,b,e,ey,eb,l⟩
 .subst ey;obtain⟨z,hd,vs,Z7,dd⟩:=Jz I.mR e;obtain⟨w',hw,rw'⟩:=yQ.some_of (v:=v) (o:=valueAt vs k) (by rw[l];exact Z7.val k);exact wpAny_getItem_of (HK ry) dd.mapOf hw (h w' _ (I.tok _) rw')
 .subst ey;cases(show u=Value.ref b from ry);obtain⟨z,hd,xs,Z7,dd⟩:=KG I.mR e;obtain⟨w',hw,rw'⟩:=yQ.some_of (v:=v) (o:=(atKey xs k).map (·.2)) (by rw[l];exact Z7.val k);obtain⟨p,hp,YY⟩:=j8.mp hw;refine wpAny_getItem_heap (ji hu) (Gk I.mR eb) dd hp ?_;rw[YY];exact h w' _ (I.tok _) rw'
def Yb{Q:QQX}(hu:A.units+1<XXa)(I:Inv X YL Y H s)(g:Fw H a y o)(ry:rj y u)(h:∀s',Inv X YL Y H s'->Q (.bool o.isSome) s'):
  pi (Tk X.prog X.w) A (Op .In u (.ref a)) Q E s:=by
 rcases g with⟨kvs,k,e,ey,l⟩|⟨kvs,k,b,e,ey,eb,l⟩
 .subst ey;obtain⟨z,hd,vs,Z7,dd⟩:=Jz I.mR e;refine wpAny_in_of (HK ry) hd dd.mapOf ?_;rw[<-(Z7.val k).nC,<-l];exact h _ (I.tok _)
 .subst ey;cases(show u=Value.ref b from ry);obtain⟨z,hd,xs,Z7,dd⟩:=KG I.mR e;refine wpAny_in_heap (ji hu) (Gk I.mR eb) hd dd ?_;have q:=(Z7.val k).nC;rw[iK]at q;rw[<-q,<-l];exact h _ (I.tok _)
def Kn{t':Nat}(I:Inv X YL Y H s)(mu:VW (H a))(hs:Heap.SameBut a s.heap h')(he:∃q,h'.get? a=ga q)(new:tN X.prog X.w (upd H a ob) h' a ob):
  Inv X YL Y (upd H a ob) {s with heap:=h',toks:=t'}:=
 I.write (x:=a) (e:=a) mu (.inl Z') (λb q hb z=>(hs.2 b hb).trans z) he new
def Nz{H':Hp}{h':Go}{kvs:T0 (rD×V)}(z:kvs.length<=Ch)(hd:(a==TW)=pc)(Z7:KV kvs vs)(dd:h'.DictOf (rQ P w) a vs):
  tN P w H' h' a (.dK kvs):=⟨z,hd,vs,Z7,dd⟩
def LM{Q:Unit->Sd->Prop}(hu:A.units+1<XXa)(I:Inv X YL Y H s)(g:OZ H a y v H')(ry:rj y u)(rv:rj v r)(h:∀s',Inv X YL Y H' s'->Q () s'):
  pi (Tk X.prog X.w) A (setItem (.ref a) u r) Q E s:=by
 rcases g with⟨kvs,k,e,ey,l,eH⟩|⟨kvs,k,b,e,ey,eb,l,eH⟩
 .subst ey eH;obtain⟨z,hd,vs,Z7,dd⟩:=Vu I.mR e;have hz:vs.length<=Ch:=by rw[<-Z7.length];exact z
  have hl:(zv kvs k v).length<=Ch:=by have:=Bj kvs k v;lia
  refine wpAny_setItem_pairs (hsz:=hz) (HK ry) dd λh' dd' hs=>h _ ?_;have he:∃q,h'.get? a=ga q:=let⟨q,_,_,hq,_⟩:=dd';⟨q,hq⟩;exact Kn I (by rw[e];exact True.intro) hs he (Nz hl hd (Z7.put k rv) dd')
 .subst ey eH;cases(show u=Value.ref b from ry);obtain⟨z,hd,xs,Z7,dd⟩:=Wc I.mR e;have hz:xs.length<=Ch:=by rw[<-jm Z7];exact z
  have hl:(zv kvs k v).length<=Ch:=by have:=Bj kvs k v;lia
  refine wpAny_setItem_heap (hsz:=hz) (ji hu) (Gk I.mR eb) dd λh' dd' hs=>h _ ?_;obtain⟨q,es,ep,hq,h2,h3,h4,_,h5⟩:=dd';refine Kn I (by rw[e];exact True.intro) hs ⟨q,hq⟩ ⟨hl,hd,_,(Z7.put k eb rv).keeps λc ys ec=>?_,q,es,ep,hq,h2,h3,h4,h5⟩;rw[qo (WT ec e (λz=>nomatch z))];exact ec
end
variable {kvs:T0 (rD × V)}{k:rD}
section
variable {s:Sd}{A:Ar}{E:QQX}
end
def Hh{YL:QQY}(I:Inv X YL Y H s)(g:Fw H a y o):s.TypeIs (.ref a) "dict":=by
 rcases g with⟨kvs,k,e,_,_⟩|⟨kvs,k,b,e,_,_,_⟩
 .obtain⟨_,_,vs,_,dd⟩:=Jz I.mR e;exact dd.typeIs
 .obtain⟨_,_,xs,_,dd⟩:=KG I.mR e;exact dd.typeIs
def Wq(td ty tv:TE):TS:=λD Y H=>tv Y H λv H1=>td Y H1 λx H2=>ty Y H2 λy H3=>∃a H4,x=.ref a/\OZ H3 a y v H4/\D.nx Y H4
variable {i e value:zn}{pos YW tpos:Pos}{td ty tv:TE}
section
variable {o:zn}
def RU(hu:X.A.units+1<XXa)(ho:PE X o td)(hi:PE X i ty)(hv:PE X value tv)(hs:sK value (ga (.Subscript o i YW)) pos.line X.env=pure pc):
  PS X (.Assign [.Subscript o i YW] value pos) (Wq td ty tv):=by
 intro YL s Y H D I h;refine wpAny_Assign_Subscript (tj (hv YL s Y H _ I h) λr s1 zz=>x5 zz λv H1 I1 rv q1=>tj (ho YL s1 Y H1 _ I1 q1) λu s2 zz=>x5 zz λx H2 I2 rx q2=>tj (hi YL s2 Y H2 _ I2 q2) λiv s3 zz=>?_) hs;obtain⟨y,H3,I3,ry,a,H4,ex,g,q3⟩:=zz;subst ex;obtain rfl:u=Value.ref a:=rx;exact LM hu I3 g ry rv λs4 I4=>⟨Y,H4,I4,q3⟩
end
structure M1(X:Cx)(o:zn)(m:Str)(YO:Pos)(e:zn)(YT:Pos):Prop where
 base:Rs o m X.env (wp o X.env)=wp o X.env
 pD:((sB YT (Tl [e] X.env)).all (λx=>!x.1)&&(IN YT (Ps [] X.env)).all (λx=>x.1.isSome)
  &&decide (([e]:List zn).length+([]:List XXe).length+(if ([]:List XXe).isEmpty then 0 else 1)<30))=Db
 line:(YO.endLine==YT.line)=Db
 trees:sB YT (Tl [e] X.env)=[(pc,wp e X.env)]
structure M2(X:Cx)(o:zn)(m:Str)(YO:Pos)(e f:zn)(YT:Pos):Prop where
 base:Rs o m X.env (wp o X.env)=wp o X.env
 pD:((sB YT (Tl [e,f] X.env)).all (λx=>!x.1)&&(IN YT (Ps [] X.env)).all (λx=>x.1.isSome)
  &&decide (([e,f]:List zn).length+([]:List XXe).length+(if ([]:List XXe).isEmpty then 0 else 1)<30))=Db
 line:(YO.endLine==YT.line)=Db
 trees:sB YT (Tl [e,f] X.env)=[(pc,wp e X.env),(pc,wp f X.env)]
variable {d:V}
section
variable {s:Sd}{o:Option V}{A:Ar}{E:QQX}
end
variable {f:zn}{YO YT:Pos}{tx:TE}
section
variable {o:zn}
end
section
variable {s:Sd}{A:Ar}{E:QQX}
end
section
variable {s:Sd}{A:Ar}{E:QQX}
end
section
variable {κ:Type}[DecidableEq κ]
end
noncomputable def BJ(env:Env):T0 (Str×wT)->T0 (Str×Uf)->T0 (Str×Uf)
 | [],acc=>acc
 | (n,k)::r,acc=>BJ env r (if k==.free then(n,(env.cells.lookup n).getD 0)::acc else acc)
theorem GR{env:Env}{f:(Str×wT)->T0 (Str×Uf)->Sem (ForInStep (T0 (Str×Uf)))} (hf:∀x cs,(x.2=.free->∃c,env.cells.lookup x.1=ga c)->f x cs=pure (.yield (if x.2==.free then(x.1,(env.cells.lookup x.1).getD 0)::cs else cs))):
  ∀(l:T0 (Str×wT)) (acc:T0 (Str×Uf)),(∀x∈l,x.2=.free->∃c,env.cells.lookup x.1=ga c)->forIn l acc f=pure (BJ env l acc)
 | [],acc,_=>by rw[kc];rfl
 | (n,k)::r,acc,h=>by rw[jX,hf (n,k) acc (h _ dC),pure_bind];exact GR hf r _ λx hx=>h x (dz _ hx)
def yU{scope:XXd}{env:Env}(h:∀x∈scope.names,x.2=.free->∃c,env.cells.lookup x.1=ga c):closureFor scope env=pure (BJ env scope.names []):=by
 unfold closureFor;have e:=GR (env:=env) (f:=λ(x:Str×wT) (cs:T0 (Str×Uf))=>(do
   if x.2==.free then
    let a<-cellOf env x.1
    pure (ForInStep.yield ((x.1,a)::cs))
   else pure (ForInStep.yield cs))) (λx cs hx=>by
  cases hk:x.2==NameKind.free with
  | false=>simp
  | true=>
   obtain⟨c,hc⟩:=hx (by simpa using hk);simp[cellOf,hc]) scope.names [] h
 first
  | exact(eE (·>>=pure) e).trans (by simp)
  | (simp only[bind_pure];exact e)
  | (rw[<-e];rfl)
theorem NL{env:Env}{x:Str}{c:Uf}:∀{l:T0 (Str×wT)} {acc:T0 (Str×Uf)},(∀x∈l,x.2=.free->∃c,env.cells.lookup x.1=ga c)->(∀x c,acc.lookup x=ga c->env.cells.lookup x=ga c)->(BJ env l acc).lookup x=ga c->env.cells.lookup x=ga c
 | [],acc,_,ha,h=>ha x c h
 | (n,k)::r,acc,hl,ha,h=>by
  refine NL (l:=r) (acc:=if k==.free then(n,(env.cells.lookup n).getD 0)::acc else acc) (λy hy=>hl y (dz _ hy)) (λy d hd=>?_) h;cases hk:k==NameKind.free with
  | false=>rw[hk]at hd;exact ha y d (by simpa using hd)
  | true=>
   rw[hk,de Z']at hd;obtain⟨e,he⟩:=hl (n,k) dC (by simpa using hk);rw[eF]at hd;cases hy:y==n with
   | true=>
    rw[hy]at hd;have yn:y=n:=by simpa using hy
    subst yn;have he:env.cells.lookup y=ga e:=he;rw[he]at hd ⊢;exact hd
   | false=>rw[hy]at hd;exact ha y d hd
theorem NS{x:Str}:∀{l:T0 (Str×wT)} {acc:T0 (Str×Uf)},(∃c,acc.lookup x=ga c)->∃c,(BJ env l acc).lookup x=ga c
 | [],_,h=>h
 | (n,k)::r,acc,h=>by
  refine NS (l:=r) ?_;cases hk:k==NameKind.free with
  | false=>simpa using h
  | true=>
   rw[de Z',eF];cases hy:x==n with
   | true=>exact⟨_,Z'⟩
   | false=>exact h
theorem Jb{x:Str}:∀{l:T0 (Str×wT)} {acc:T0 (Str×Uf)},l.lookup x=ga .free->∃c,(BJ env l acc).lookup x=ga c
 | [],_,h=>by simp at h
 | (n,k)::r,acc,h=>by
  rw[eF]at h;cases hy:x==n with
  | true=>rw[hy]at h;have hk:k=.free:=df h;subst hk;refine NS (l:=r) ⟨(env.cells.lookup n).getD 0,?_⟩;show List.lookup x (if NameKind.free==NameKind.free then(n,(env.cells.lookup n).getD 0)::acc else acc)=ga ((env.cells.lookup n).getD 0);rw[de (by rfl),eF,hy]
  | false=>rw[hy]at h;exact Jb (l:=r) h
theorem uX{env:Env}{x:Str}:∀{l:T0 (Str×wT)},(l.map λ(n,k)=>if (k==NameKind.free&&env.scope.kind==.function&&env.kindOf n==ga .cell)then(n,NameKind.cell)else(n,k)).lookup x
   = (l.lookup x).map λk=>if (k==NameKind.free&&env.scope.kind==.function&&env.kindOf x==ga .cell)then NameKind.cell else k
 | []=>rfl
 | (n,k)::r=>by
  rw[dY];show List.lookup x ((if (k==NameKind.free&&env.scope.kind==.function&&env.kindOf n==ga .cell)=Db then(n,NameKind.cell)else(n,k))::_)=_;cases hy:x==n with
  | true=>
   have yn:x=n:=by simpa using hy
   subst yn;by_cases hc:(k==NameKind.free&&env.scope.kind==.function&&env.kindOf x==ga .cell)=Db
   .rw[de hc,eF,eF,hy];simp only[jY];rw[de hc]
   .rw[cY hc,eF,eF,hy];simp only[jY];rw[cY hc]
  | false=>
   by_cases hc:(k==NameKind.free&&env.scope.kind==.function&&env.kindOf n==ga .cell)=Db
   .rw[de hc,eF,eF,hy];exact uX
   .rw[cY hc,eF,eF,hy];exact uX
noncomputable def PY(ix:T0 (Option Nat))(Y:St):St:=ix.map λo=>o.bind λi=>(Y[i]?).join
abbrev Cx.comp(X:Cx)(scope:XXd)(N':QQQ)(C:Uf)(s0:Sd)(H0:Hp)(ex:QXQ):Cx:=
 {X with N:=N',s₀:=s0,H₀:=H0,env:=compEnvC scope (BJ X.env scope.names []) C X.env,outer:=X.stack,ex:=ex,fn:=λ_=>pc,pn:=[],xe:=λ_ _=>False}
structure sO(X:Cx)(scope:XXd)(ix:List (Option Nat))(N':QQQ):Prop where
 kind:scope.kind=.function
 oR:∀y∈scope.names,y.2≠.cell
 nam:∀y∈scope.names,y.2=.local->scope.names.lookup y.1=ga .local
 fre:∀y∈scope.names,y.2=.free->X.env.scope.names.lookup y.1=ga .cell\/X.env.scope.names.lookup y.1=ga .free
 len:ix.length=N'.length
 at_:∀(j i:Nat) (x:Str),ix[j]?=ga (ga i)->N'[j]?=ga x->X.N[i]?=ga x/\scope.names.lookup x=ga .free
variable {scope:XXd}{ix:T0 (Option Nat)}{N':QQQ}{fp:QXQ}
section
variable {s:Sd}
def sO.cells(S:sO X scope ix N')(ok:X.Ok):∀x∈scope.names,x.2=.free->∃c,X.env.cells.lookup x.1=ga c:=λx hx hk=>ok.has x.1 (S.fre x hx hk)
def sO.sub(S:sO X scope ix N')(ok:X.Ok){x:Str}{c:Uf}(h:(BJ X.env scope.names []).lookup x=ga c):X.env.cells.lookup x=ga c:=NL (S.cells ok) (λ_ _ z=>by simp at z) h
theorem vX{x:Str}{k:wT}:∀{l:T0 (Str×wT)},l.lookup x=ga k->(x,k)∈l
 | [],h=>by simp at h
 | (n,j)::r,h=>by
  rw[eF]at h;cases hy:x==n with
  | true=>
   rw[hy]at h;have yn:x=n:=by simpa using hy
   subst yn;rw[df h];exact dC
  | false=>rw[hy]at h;exact dz _ (vX h)
def Inv.comp{C:Uf}{h1:Go}{tk:Nat}(I:Inv X YL Y H s)(S:sO X scope ix N')(hf:∀b∈fp,zT X YL H b)(YV:∀b∈fp,b<s.heap.objs.size)(hC:s.heap.objs.size<=C) (k:∀b o,s.heap.get? b=ga o->h1.get? b=ga o) (hn:h1.Ns C (λ_=>Fa)):Inv (X.comp scope N' C s H fp) (X.pn++YL) (PY ix Y) H {s with heap:=h1,toks:=tk}:=by
 have sub:∀{x:Str} {c:Uf},(BJ X.env scope.names []).lookup x=ga c->X.env.cells.lookup x=ga c:=λh=>S.sub I.ok h;refine⟨⟨I.ok.mod,S.kind,I.ok.glob,I.ok.blt,hC,λx y c e1 e2=>I.ok.inj x y c (sub e1) (sub e2),λx hx=>?_,λ_ _ z=>(dA z).elim,I.ok.hd,I.ok.frames,.inl Z',λb hb=>⟨dN (dP (YV b hb) hC),λx c e=>(hf b hb).2.2.2.2.1 x c (sub e)⟩,I.bs,dZ I.ok.n9 I.sz,λb o e hb=>?_,λb hb hfs=>?_,I.stack,I.nK⟩,Z',I.bare,Un.kept k,⟨_,hn,λi x v e1 e2 e3=>?_⟩,λx c e=>?_,I.mR.fresh hC,λx c e=>I.mY x c (sub e),λp hp=>?_,I.mR.kept k,?_⟩
 .have hx:(relabel scope X.env).names.lookup x=ga .cell\/(relabel scope X.env).names.lookup x=ga .free:=hx;have e:(relabel scope X.env).names.lookup x=(scope.names.lookup x).map λk=>if (k==NameKind.free&&X.env.scope.kind==.function&&X.env.kindOf x==ga .cell)then NameKind.cell else k:=uX
  rw[e]at hx;cases q:scope.names.lookup x with
  | none=>rw[q]at hx;rcases hx with hx|hx<;>simp at hx
  | some kd=>
   cases kd with
   | free=>exact Jb q
   | cell=>exact absurd Z' (S.oR _ (vX q))
   | _=>rw[q]at hx;rcases hx with hx|hx<;>simp at hx
 .rcases(hf b hb).2.2.2.1 with z|z
  .exact I.ok.nQ b o e z
  .exact absurd (dP (dB e) (dZ I.ok.n9 z)) (eV _)
 .rcases dg.mp (I.nv b hfs)with z|z
  .exact(hf b hb).2.1 z
  .exact(hf b hb).2.2.1 z
 .have e2':(ix[i]?).map (λo=>o.bind λi=>(Y[i]?).join)=ga (ga v):=by have z:(PY ix Y)[i]?=ga (ga v):=e2;unfold PY at z;rw[dv]at z;exact z
  cases q:ix[i]? with
  | none=>rw[q]at e2';cases e2'
  | some o=>
   rw[q]at e2';cases o with
   | none=>cases e2'
   | some j=>
    have e2'':(Y[j]?).join=ga v:=df e2';have e4:Y[j]?=ga (ga v):=by
     cases r:Y[j]? with
     | none=>rw[r]at e2'';cases e2''
     | some w=>rw[r]at e2'';exact eE ga e2''
    obtain⟨n1,n2⟩:=S.at_ i j x q e1;obtain⟨m,hm,hl⟩:=I.loc;have hk:=S.fre _ (vX n2) Z';have hv:Wa X.env.scope x:=by
     rcases hk with z|z
     .exact .inr (.inl z)
     .exact .inr (.inr z)
    obtain⟨u,ru,lk⟩:=hl j x v n1 e4 hv;refine⟨u,ru,?_⟩;have hk':X.env.kindOf x=ga .cell\/X.env.kindOf x=ga .free:=hk;rcases lk with⟨z,_⟩|⟨_,c,hc,hcell⟩
    .rcases hk' with y|y<;>(rw[y]at z;cases z)
    .obtain⟨c',hc'⟩:=Jb (env:=X.env) (acc:=[]) n2;have:=sub hc';rw[hc]at this;cases this;refine .inr ⟨?_,c,hc',hcell.keeps k⟩;show(relabel scope X.env).names.lookup x=ga .cell\/(relabel scope X.env).names.lookup x=ga .free;have e:(relabel scope X.env).names.lookup x=(scope.names.lookup x).map λk=>if (k==NameKind.free&&X.env.scope.kind==.function&&X.env.kindOf x==ga .cell)then NameKind.cell else k:=uX
     rw[e,n2];simp only[jY];split
     .exact .inl Z'
     .exact .inr Z'
 .obtain⟨v,q⟩:=I.cell x c (sub e);exact⟨v,q.keeps k⟩
 .obtain⟨e,n,ne,nf,d⟩:=I.pin p (by simpa using hp);refine⟨k _ _ e,n,dN (dP (dB e) hC),λz=>?_,d⟩;rcases dg.mp (I.nv p.1 z)with y|y
  .exact ne y
  .exact nf y
 .show(PY ix Y).length=N'.length;unfold PY;rw[cT];exact S.len
end
section
variable {prog:Pg}{w:Wo}{A:Ar}{R:Result→Sd→Prop}{s:Sd}
def yx{ZE Zi iter:zn}{Zn:T0 zn}{scope:XXd}{pos:Pos}{it acc:Vl}{env:Env}(I:Nat->Sd->Prop){EX:QQX}(hEX:∀e s',EX e s'->notedBy (Tk prog w) A env (λx s'=>R (.error x) s') e s') (turn:∀n s,I n s->pi (Tk prog w) A (pyNext it) (λr s₁=>match r with
   | none=>R (.ok .next) s₁
   | some v=>pi (Tk prog w) A (XXi Zi it v) (λ_ s₁=>pi (Tk prog w) A (assign Zi env v) (λ_ s₂=>
     pi (Tk prog w) A (forIn Zn Db λc r=>if r=Db then do let ok<-isTrue c env (wp c env);pure (ForInStep.yield ok)else pure (ForInStep.yield r)) (λok s₃=>
      if ok=Db then pi (Tk prog w) A (wp ZE env) (λx s₄=>
       pi (Tk prog w) A (call (.builtin "list.append") [acc,x]) (λ_ s₅=>∃m,m<n/\I m s₅) (λ_ _=>False) s₄) EX s₃
      else ∃m,m<n/\I m s₃) (λ_ _=>False) s₂) (λ_ _=>False) s₁) (λ_ _=>False) s₁) (λ_ _=>False) s)
  (n:Nat) (h:I n s):
  XXj (Tk prog w) A (.compLoop (.ListComp ZE [⟨Zi,iter,Zn,0⟩] scope pos) 0 it acc env) R s:=by
 refine codeAny_loop Z' I (λn s hI=>?_) n h;show pi _ A ((compTurn (.ListComp ZE [⟨Zi,iter,Zn,0⟩] scope pos) 0 it acc env).onRaise (λx=>do noteFrame x env;theTreesLotGoes x)) _ _ s;refine wpAny_noted ?_;rw[compTurn_list];refine cU (ik (cU (eh (turn n s hI) (λr s₁ h₁=>?_) λ_ _ h'=>h'.elim)));cases r with
 | none=>exact dh h₁
 | some v=>
  refine cU (eh h₁ (λ_ s₁' h₁'=>?_) λ_ _ h'=>h'.elim);refine cU (eh h₁' (λ_ s₂ h₂=>cU (eh h₂ (λok s₃ h₃=>?_) λ_ _ h'=>h'.elim)) λ_ _ h'=>h'.elim);cases ok with
  | false=>exact dh ⟨Z',h₃⟩
  | true=>exact cU (cU (eh h₃ (λx s₄ h₄=>cU (eh h₄ (λ_ s₅ h₅=>dh (dh ⟨Z',h₅⟩)) λ_ _ h'=>h'.elim)) hEX))
end
def PF(X:Cx)(Zn:T0 zn)(t:TT):Prop:=
 ∀(YL:QQY) (s:Sd) (Y:St) (H:Hp) (Q:Bool->Hp->Prop),Inv X YL Y H s->t Y H Q->
  pi (Tk X.prog X.w) X.A (forIn Zn Db λc r=>if r=Db then do let ok<-isTrue c X.env (wp c X.env);pure (ForInStep.yield ok)else pure (ForInStep.yield r)) (TP X YL Y Q) X.xe s
def WS:TT:=λ_ H Q=>Q Db H
def Tc:PF X [] WS:=λ_ _ _ H _ I h=>wpAny_tests_nil ⟨H,I,h⟩
def Us(h:PT X c t):PF X [c] t:=λYL s Y H Q I q=>wpAny_tests_one (h YL s Y H Q I q)
def SG(ix:T0 (Option Nat))(g:TG)(tt:TT)(te:TE)(Y:St)(J:It)(Q:VK)(H:Hp):Prop:=
 ∃W:Nat->Nat->T0 V->St->Hp->Prop,(∃m,W 0 m [] (PY ix Y) H)/\∀i m ys σ' H,W i m ys σ' H->
  (J.stop i H/\ys.length<=Ch/\∀D,H D=Fa->Q (.ref D) (upd H D (.lst ys)))\/
  (J.go i H/\ys.length<Ch/\∀x H',J.oY i H x H'->g x σ' H' λσ2 H2=>tt σ2 H2 λb H3=>if b=Db then te σ2 H3 λy H4=>∃m',m'<m/\W (i+1) m' (ys++[y]) σ2 H4 else ∃m',m'<m/\W (i+1) m' ys σ2 H3)
def NI(ix:T0 (Option Nat))(wi:TI)(g:TG)(tt:TT)(te:TE):TE:=λY H Q=>wi Y H λJ H1=>SG ix g tt te Y J Q H1
variable {tg iter ZE:zn}{Zn:T0 zn}{g:TG}{tt:TT}{te:TE}{J:It}{it:Uf}{tn:Nat→Go→Prop}{Q:VK}
section
variable {s:Sd}
def DC{XP:Uf->Sd->Hp->QXQ->QQY->St->Vl->Sd->Prop}{RR:Vl->Uf->Result->Sd->Prop}{E:QQX}(hc:X.calm=Db)(S:sO X scope ix N')(I:Inv X YL Y H s)(T:Hg X.prog X.w X.K tg J fp it tn)(st:tn 0 s.heap)(hf:∀b∈fp,zT X YL H b) (hg:∀C s0 H0 ex,PG (X.comp scope N' C s0 H0 ex) tg g) (ht:∀C s0 H0 ex,PF (X.comp scope N' C s0 H0 ex) Zn tt) (he:∀C s0 H0 ex YL s Y H Q,Inv (X.comp scope N' C s0 H0 ex) YL Y H s->te Y H Q->pi (Tk X.prog X.w) X.A (wp ZE (X.comp scope N' C s0 H0 ex).env) (EP (X.comp scope N' C s0 H0 ex) YL Y Q) (XP C s0 H0 ex YL Y) s) (hx:∀C D e s',s.heap.objs.size<=C->(∃ZP σ',(∀b∈fp,∃o,(b,o)∈ZP)/\XP C s H fp ZP σ' e s')->notedBy (Tk X.prog X.w) X.A (compEnvC scope (BJ X.env scope.names []) C X.env) (λx s'=>RR D C (.error x) s') e s') (hw:SG ix g tt te Y J Q H) (YR:∀D C s' H' m,s.heap.objs.size<=C->H' C=Fa->s'.heap.Ns C m->Inv X YL Y H' s'->Q (.ref D) H'->RR (.ref D) C (.ok .next) s'):
  pi (Tk X.prog X.w) X.A (newList []) (λacc s₃=>pi (Tk X.prog X.w) X.A (newFunctionEnv scope X.env.globals (BJ X.env scope.names []) [] X.env.qual Fa .none (ga X.env)) (λZu s₄=>
   XXj (Tk X.prog X.w) X.A (.compStart (.ListComp ZE [⟨tg,iter,Zn,0⟩] scope pos) 0 (.ref it) acc {Zu with scope:=relabel scope X.env}) (RR acc Zu.locals) s₄) E s₃) E s:=by
 obtain⟨W,⟨m0,w0⟩,turn⟩:=hw;have YV:∀b∈fp,b<s.heap.objs.size:=λb hb=>by obtain⟨o,e,_⟩:=T.obj _ _ st b hb;exact dB e
 refine fW (wpAny_newFunctionEnv S.oR (by intro y hy;simp at hy) (λh₁ hns₁ hsb₁=>?_) S.kind);dsimp only at hns₁ hsb₁ ⊢;generalize hH2:s.heap.push {cls:=.type "list",dict:=none,data:=.seq ([]:T0 Vl).toArray}=H2 at hns₁ hsb₁ ⊢;have hC:H2.objs.size=s.heap.objs.size+1:=by rw[<-hH2,fR]
 have hDC:s.heap.objs.size≠H2.objs.size:=by rw[hC];exact dN (fO _)
 have hCle:s.heap.objs.size<=H2.objs.size:=by rw[hC];exact gX _
 have below:∀b,b<s.heap.objs.size->b≠H2.objs.size/\b≠s.heap.objs.size:=λb hb=>⟨by rw[hC];exact dN (gH hb),dN hb⟩;have Zk:∀b o,s.heap.get? b=ga o->h₁.get? b=ga o:=λb o e=>hsb₁.extBut b o (below b (dB e)).1 (c9 _ (hH2 ▸ c9 _ e));have hacc:h₁.get? s.heap.objs.size=ga {cls:=.type "list",data:=.seq ([]:T0 Vl).toArray 0}:=hsb₁.extBut _ _ hDC (c9 _ (hH2 ▸ dJ _ Z'));have hns₁:h₁.Ns H2.objs.size (λ_=>Fa):=hns₁;have Z4:∀{H':Hp} {pl:QQY},(∀b∈fp,H' b=Fa)->(∀p∈pl,p.1∉fp)->∀b∈fp,zT (X.comp scope N' H2.objs.size s H fp) (X.pn++YL++pl) H' b:=λ{H' pl} hn Y6 b hb=>by
  refine⟨hn b hb,dN (dP (YV b hb) hCle),λz=>?_,.inl hb,λx c e=>(hf b hb).2.2.2.2.1 x c (S.sub I.ok e),λp hp=>?_⟩
  .rcases dg.mp (I.nv b z)with y|y
   .exact(hf b hb).2.1 y
   .exact(hf b hb).2.2.1 y
  .rcases dG.mp (show p∈X.pn++YL++pl by simpa using hp)with z|z
   .exact(hf b hb).2.2.2.2.2 p z
   .intro q;exact Y6 p z (q ▸ hb)
 have loop:∀s₃:Sd,s₃={s with heap:=h₁,toks:=s.toks+([]:T0 (Str×Vl)).length}->
   XXj (Tk X.prog X.w) X.A (.compLoop (.ListComp ZE [⟨tg,iter,Zn,0⟩] scope pos) 0 (.ref it) (.ref s.heap.objs.size) (compEnvC scope (BJ X.env scope.names []) H2.objs.size X.env))
    (RR (.ref s.heap.objs.size) H2.objs.size) s₃:=by
  rintro s₃ rfl
  refine yx (hEX:=λe s' z=>hx _ _ e s' hCle z) (λn s'=>∃(i:Nat) (ys:T0 V) (us:T0 Vl) (k:Nat) (σ':St) (H':Hp),Inv (X.comp scope N' H2.objs.size s H fp) (X.pn++YL) σ' H' s'/\tn i s'.heap/\(∀b∈fp,H' b=Fa)/\H' s.heap.objs.size=Fa/\
   s'.heap.get? s.heap.objs.size=ga {cls:=.type "list",data:=.seq us.toArray k}/\qK ys us/\ys.length<=Ch/\W i n ys σ' H') ?_ m0
   ⟨0,[],[],0,PY ix Y,H,I.comp S hf YV hCle Zk hns₁,T.keep _ _ _ st λb _ o e=>Zk b o e,λb hb=>(hf b hb).1,I.mR.fresh (dq _),hacc,.nil,eK _,w0⟩
  rintro n s' ⟨i,ys,us,k,σ',H',I',ZC,fr',hD',Zs,rv',hz',w'⟩
  have cellD:∀x c,(X.comp scope N' H2.objs.size s H fp).env.cells.lookup x=ga c->c≠s.heap.objs.size:=λx c e=>by obtain⟨v,q⟩:=I.cell x c (S.sub I.ok e);exact dN q.lt
  have pinD:∀p∈X.pn++YL,p.1≠s.heap.objs.size:=λp hp=>dN (dB (I.pin p hp).1);have dfs:s.heap.objs.size∉(X.comp scope N' H2.objs.size s H fp).fs:=λz=>by
   rcases dg.mp (I.nv _ z)with y|y
   .exact absurd I.lt (by rw[<-y];exact eV _)
   .exact I.pj (dq _) y
  have dfp:s.heap.objs.size∉fp:=λz=>absurd (YV _ z) (eV _);have IpD:Inv (X.comp scope N' H2.objs.size s H fp) (X.pn++YL++[(s.heap.objs.size,{cls:=.type "list",data:=.seq us.toArray k})]) σ' H' s':=I'.nR λp hp=>by
   rcases dG.mp hp with z|z
   .exact I'.pin p (dO _ z)
   .have e:p=(s.heap.objs.size,{cls:=.type "list",data:=.seq us.toArray k}):=by simpa using z
    subst e;exact⟨Zs,hD',hDC,dfs,λv z=>by cases z⟩
  have pfp:∀p∈[((s.heap.objs.size,{cls:=.type "list",data:=.seq us.toArray k}):Uf×Obj)],p.1∉fp:=λp hp=>by
   have e:p=(s.heap.objs.size,{cls:=.type "list",data:=.seq us.toArray k}):=by simpa using hp
   subst e;exact dfp
  rcases turn i n ys σ' H' w' with⟨stop,hz,q⟩|⟨go,hz,step⟩
  .refine eh (T.done (X.comp scope N' H2.objs.size s H fp) Z' Z' Z' hc i _ s' σ' H' (λ_ _=>False) IpD (Z4 fr' pfp) ZC stop) (λr s1 ⟨hr,I1⟩=>?_) λ_ _ z=>z;subst hr;show RR _ _ _ _;have ho1:s1.heap.get? s.heap.objs.size=ga {cls:=.type "list",data:=.seq us.toArray k}:=(I1.pin (s.heap.objs.size,{cls:=.type "list",data:=.seq us.toArray k}) (by simp)).1;obtain⟨m,hnC,_⟩:=id I1.loc;refine YR _ _ s1 (upd H' s.heap.objs.size (.lst ys)) m hCle (by rw[qo (dW hDC)];exact I1.free) hnC ?_ (q _ hD');have nD:∀b o,s.heap.get? b=ga o->b≠s.heap.objs.size:=λb o e=>(below b (dB e)).2;have hD0:H s.heap.objs.size=Fa:=I.mR.fresh (dq _);refine I.oZ (s':=s1) (ch:=fp) I1.os ⟨λb o e n1 n2 n3=>?_,λb o e n1 n2 n3=>?_,λb o e n1 n2=>?_,λb o e n1=>?_,λb xs e=>?_,λb o u e=>?_,λb ps e=>?_⟩ (λb u e=>?_) I1.bare λb hb=>⟨(hf b hb).2.2.2.1,(hf b hb).2.1,(hf b hb).2.2.2.2.1,(hf b hb).2.2.2.2.2⟩
   .exact I1.base.keep b o e n1 n2 n3
   .exact I1.base.slot b o e n1 n2 n3
   .rw[qo (nD b o e)];exact I1.base.free b o e n1 n2
   .exact I1.base.there b o e n1
   .rw[qo (rm e hD0)];exact I1.base.nF b xs e
   .rw[qo (rm e hD0)];exact I1.base.nB b o u e
   .obtain⟨more,z⟩:=I1.base.nL b ps e;exact⟨more,by rw[qo (rm e hD0)];exact z⟩
   .by_cases hb:b=s.heap.objs.size
    .subst hb;rw[qz]at e;cases e;exact⟨hz,us,k,rv',ho1⟩
    .rw[qo hb]at e;exact(I1.mR b u e).nu (λc v _ z=>z) (λc z=>by rw[qo (rm z hD')];exact z) (λc xs z=>by rw[qo (rm z hD')];exact z)
  .refine eh (T.item (X.comp scope N' H2.objs.size s H fp) Z' Z' Z' hc i _ s' σ' H' (λ_ _=>False) IpD (Z4 fr' pfp) ZC go) (λr s1 ⟨v,hr,h4⟩=>?_) λ_ _ z=>z;subst hr;show pi _ _ (XXi tg (.ref it) v) _ _ s1;refine eh h4 (λ_ s2 zz=>?_) λ_ _ z=>z;obtain⟨x,H5,I5,r5,y5,st5,fr5⟩:=zz;have I5':=I5.pinned (Z4 fr5 pfp) (T.obj _ _ st5);refine eh (hg H2.objs.size s H fp _ s2 σ' H5 x v _ I5' r5 (step x H5 y5)) (λ_ s3 ⟨σ6,H6,I6,q6⟩=>?_) λ_ _ z=>z;refine eh (ht H2.objs.size s H fp _ s3 σ6 H6 _ I6 q6) (λok s4 ⟨H7,I7,q7⟩=>?_) λ_ _ z=>z;have facts:∀{σ7:St} {H7:Hp} {s7:Sd},Inv (X.comp scope N' H2.objs.size s H fp) (X.pn++YL++[(s.heap.objs.size,{cls:=.type "list",data:=.seq us.toArray k})]++Cf fp s2.heap) σ7 H7 s7->
     tn (i+1) s7.heap/\(∀b∈fp,H7 b=Fa)/\H7 s.heap.objs.size=Fa/\s7.heap.get? s.heap.objs.size=ga {cls:=.type "list",data:=.seq us.toArray k}:=λ{σ7 H7 s7} K7=>by
    have pd:=K7.pin (s.heap.objs.size,{cls:=.type "list",data:=.seq us.toArray k}) (by simp);refine⟨T.keep _ _ _ st5 λb hb o e=>(K7.pin (b,o) (dO _ (dO _ (vP hb e)))).1,λb hb=>?_,pd.2.1,pd.1⟩;obtain⟨o,e,d⟩:=T.obj _ _ st5 b hb;exact(K7.pin (b,o) (dO _ (dO _ (vP hb e)))).2.1
   cases ok with
   | false=>rw[cY dA]at q7 ⊢;obtain⟨m',hm,w7⟩:=q7;obtain⟨t7,f7,d7,o7⟩:=facts I7;exact⟨m',hm,i+1,ys,us,k,σ6,H7,I7.mX.mX,t7,f7,d7,o7,rv',hz',w7⟩
   | true=>
    rw[de Z']at q7 ⊢;refine eh (he H2.objs.size s H fp _ s4 σ6 H7 _ I7 q7) (λyv s5 ⟨y,H8,I8,r8,m',hm,w8⟩=>?_) λ_ _ z=>⟨_,_,λb hb=>(by
     obtain⟨o,e,_⟩:=T.obj _ _ st5 b hb;exact⟨o,dO _ (vP hb e)⟩),z⟩
    obtain⟨t8,f8,d8,o8⟩:=facts I8;have hsz:us.toArray.size<=Ch:=by rw[dw,<-rv'.length];exact hz'
    refine append_at (hsz:=hsz) o8 λh' sb od=>?_;refine⟨m',hm,i+1,ys++[y],us++[yv],k+1,σ6,H8,?_,T.keep _ _ _ t8 λb hb o e=>(sb.2 b λq=>dfp (q ▸ hb)).trans e,f8,d8,?_,rv'.append (.cons r8 .nil),?_,w8⟩
    .exact I8.mX.mX.turned (it:=s.heap.objs.size) (t':=s5.toks) (λb o hb e=>(sb.2 b hb).trans e) d8 hDC (.inr (dq _)) cellD (by simpa using pinD)
    .rw[od,List.push_toArray]
    .rw[cW,dD];exact hz
 exact codeAny_compStart_list (loop _ Z') (T.self _ 0 _ _ _ (T.keep _ _ _ st λb _ o e=>Zk b o e) (loop _ Z'))
def Inv.letGo{C:Uf}(I:Inv X YL Y H s)(I':Inv X YL σ' H' s')(hC:s.heap.objs.size<=C)(hn:H' C=Fa)(hs:Heap.SameBut C s'.heap h'):Inv X YL σ' H' {s' with heap:=h'}:=
 I'.turned (t':=s'.toks) (it:=C) (λb o hb e=>(hs.2 b hb).trans e) hn (λz=>absurd (dP I.lt hC) (by rw[z];exact eV _)) (.inr (dZ I.sz hC))
  (λx c e z=>by
   obtain⟨v,r⟩:=I.cell x c e;exact absurd (dP r.lt hC) (by rw[z];exact eV _))
  (λp hp z=>absurd (dP (dB (I.pin p hp).1) hC) (by rw[z];exact eV _))
def PP(hc:X.calm=Db)(S:sO X scope ix N')(hi:PI X tg iter wi)(hg:∀C s0 H0 ex,PG (X.comp scope N' C s0 H0 ex) tg g)(ht:∀C s0 H0 ex,PF (X.comp scope N' C s0 H0 ex) Zn tt)(he:∀C s0 H0 ex,PE (X.comp scope N' C s0 H0 ex) ZE te) (hs:∀x,XV iter X.env x=pure x:=by intro _;rfl):PE X (.ListComp ZE [⟨tg,iter,Zn,0⟩] scope pos) (NI ix wi g tt te):=by
 intro YL s Y H Q I h;rw[eval_ListComp];refine jJ (use:=none) Z' hs (yU (S.cells I.ok)) S.kind S.nam (eh (hi YL s Y H _ I h) (λxv s₁ h₁=>eh h₁ (λitv s₂ h₂=>?_) λ_ _ e=>e) λ_ _ e=>e);obtain⟨it,fp,tn,J,H2,e,I2,T,Y4,f2,hw⟩:=h₂;subst e;refine DC (RR:=λacc C=>compPost (Tk X.prog X.w) X.A X.xe Fa (EP X YL Y Q) acc C) hc S I2 T Y4 f2 hg ht (XP:=λ_ _ _ _ _ _ _ _=>False) he (λ_ _ _ _ _ z=>by obtain⟨_,_,_,z⟩:=z;exact z.elim) hw λD C s' H' m hCs hCn hn I3 q=>?_;exact⟨m,hn,λh' hs'=>⟨.ref D,_,I2.letGo I3 hCs hCn hs',Z',q⟩⟩
def IR{i:Nat}{x:Str}{px spos:Pos}(hN:X.N.Nodup)(hix:X.N[i]?=ga x)(hx:Ma X.env.scope x)(hc:X.calm=Db)(S:sO X scope ix N')(hi:PI X tg iter wi)(hg:∀C s0 H0 ex,PG (X.comp scope N' C s0 H0 ex) tg g)(ht:∀C s0 H0 ex,PF (X.comp scope N' C s0 H0 ex) Zn tt) (he:∀C s0 H0 ex,PE (X.comp scope N' C s0 H0 ex) ZE te) (ZF:sK (.ListComp ZE [⟨tg,iter,Zn,0⟩] scope pos) (ga (.Name x px)) spos.line X.env=pure Db) (hf:L9 X x:=by first|exact .inl Z'|exact .inr Z'|assumption) (hs:∀x,XV iter X.env x=pure x:=by intro _;rfl):
  PS X (.Assign [.Name x px] (.ListComp ZE [⟨tg,iter,Zn,0⟩] scope pos) spos) (SW (NI ix wi g tt te) (Oe i)):=by
 intro YL s Y H D I h;rw[exec_Assign_Name_used _ _ _ _ ZF];refine cU (ik (cU ?_));show pi _ X.A (do let _<-comprehension (.ListComp ZE [⟨tg,iter,Zn,0⟩] scope pos) scope X.env _ (newList []) pc (wp iter X.env) (ga (assign (.Name x px) X.env))) _ _ s;refine cU (eh (jJ (use:=some (assign (.Name x px) X.env)) (Q:=λ_ s'=>SP X YL D .next s') Z' hs (yU (S.cells I.ok)) S.kind S.nam
  (eh (hi YL s Y H _ I h) (λxv s₁ h₁=>eh h₁ (λitv s₂ h₂=>?_) λ_ _ e=>e) λ_ _ e=>e)) (λ_ s' hq=>dh (dh hq)) λ_ _ e=>e)
 obtain⟨it,fp,tn,J,H2,e,I2,T,Y4,f2,hw⟩:=h₂;subst e;refine DC (RR:=λacc C=>compPost (Tk X.prog X.w) X.A X.xe (ga (assign (.Name x px) X.env)) (λ_ s'=>SP X YL D .next s') acc C) hc S I2 T Y4 f2 hg ht (XP:=λ_ _ _ _ _ _ _ _=>False) he (λ_ _ _ _ _ z=>by obtain⟨_,_,_,z⟩:=z;exact z.elim) hw λDa C s' H' m hCs hCn hn I3 q=>?_;show pi _ X.A (assign (.Name x px) X.env (.ref Da)) _ _ _;refine ls (Ep I3 hN hix hx (v:=.ref Da) Z' (λs4 I4 ⟨a,sb,ha⟩=>?_) hf);have ca:C≠a:=λz=>by
  rcases ha with y|y
  .exact absurd (dP I2.lt hCs) (by rw[z,y];exact eV _)
  .obtain⟨v,r⟩:=I2.cell x a y;exact absurd (dP r.lt hCs) (by rw[z];exact eV _)
 exact⟨m,hn.sameBut sb ca,λh' hs'=>⟨_,H',I2.letGo I4 hCs hCn hs',q⟩⟩
end
def BB:typeLookup (.type "list") "__getattr__"=pure Fa:=by rw[typeLookup_type,ke];kernel_rfl
def Gc:typeLookup (.type "list") "keys"=pure Fa:=by rw[typeLookup_type,ke];kernel_rfl
section
variable {prog:Pg}{w:Wo}{A:Ar}{E:QQX}
def Pn(a:Uf)(u:Tok)(its:Array Vl)(n:Nat)(sl:Array (Option Vl)):
  Meets (Builtin.«object.__getattribute__» ⟨[.ref a,.str "keys" u],[]⟩) λA R s=>s.heap.get? a=ga ⟨.type "list",Fa,.seq its n,sl⟩/\A.handled=Fa/\∀h' tk e,Heap.NewAttrErr s.heap h' e (.ref a) "keys"->R (.error (.ref e)) {s with heap:=h',toks:=tk}:=
 Meets.of_wp λprog w A R s hs=>by
  obtain⟨hp,g,d,tk,os⟩:=s;obtain⟨h1,h2,h3⟩:=hs;have hT:(⟨hp,g,d,tk,os⟩:Sd).TypeIs (.ref a) "list":=⟨_,h1,Z'⟩;have f1:=Gc;unfold Builtin.«object.__getattribute__»
  repeat (any_goals(first|assumption|wp_step))
  exact wpAny_raiseAttrError h2 h3 (attrMsg_fits (by decide+kernel) (by decide))
def F5{s:Sd}{a:Uf}{its:Array Vl}{n:Nat}{sl:Array (Option Vl)}{Q:Option Vl->Sd->Prop}(ha:s.heap.get? a=ga ⟨.type "list",Fa,.seq its n,sl⟩)(hA:A.handled=Fa) (h:∀h' tk,(∀b o,s.heap.get? b=ga o->h'.get? b=ga o)->Q Fa {s with heap:=h',toks:=tk}):pi (Tk prog w) A (getAttr? (.ref a) "keys") Q E s:=by
 obtain⟨hp,g,d,tk,os⟩:=s;have hT:(⟨hp,g,d,tk,os⟩:Sd).TypeIs (.ref a) "list":=⟨_,ha,Z'⟩;have f1:=sub_AttributeError;have f3:=iB.lookup;have f4:=iB.bind (.ref a);have f5:=BB;unfold getAttr? getAttrBy? getAttrBy
 repeat (any_goals(first|assumption|((with_reducible show pi _ _ (call (Value.builtin "list.__getattribute__") _ _) _ _ _);refine jx iB hT F.entry_list_ga (F.args_list_getattribute_2 _ _) (Pn a _ its n sl) ⟨ha,hA,λh' tk' e hx=>?_⟩)|wp_step))
 obtain⟨t',u',he⟩:=hx.there;show pi _ _ (getattributeRaised _ _ _ _ _ _ _) _ _ _;unfold getattributeRaised
 repeat (any_goals(first|assumption|wp_step))
 all_goals first|exact h _ _ hx.keeps|skip
end
def Bq:entryFor table "dict.update.loop"=ga Builtin.«dict.update.loop»:=entryFor_of_tree (by kernel_rfl)
def wA:plainId "dict.update.loop"=Db:=by decide+kernel
section
variable {prog:Pg}{w:Wo}{A:Ar}{E:QQX}{R:Result→Sd→Prop}{κ:Type}[DecidableEq κ]{knd:PySem.KeyKind prog w κ}
 {I:Uf} {fp wr:QXQ} {G:Array GenState->Array GenState->Prop} {P:Nat->Vl->Prop} {St:Nat->Sd->Prop}
def R0{s:Sd}{t:Uf}{x y:Vl}{Q:T0 Vl->Sd->Prop}(h:s.heap.IsTuple t #[x,y])(q:Q [x,y] s):pi (Tk prog w) A (Builtin.Dict.pairItems (.ref t)) Q E s:=by
 obtain⟨⟨oc,od,oda,ZL⟩,h1,h2,n,h3⟩:=h;simp only at h2 h3;subst h2 h3;have hT:s.TypeIs (.ref t) "tuple":=⟨_,h1,Z'⟩;obtain⟨hp,g,d,tk,os⟩:=s;unfold Builtin.Dict.pairItems
 repeat (any_goals(first|assumption|wp_step))
def Ln{all:T0 (κ×Vl)}(W:WalksS prog w A.in1 I fp wr G all.length P St)(d:Uf)(hdf:d∉fp)(kv:Nat->Vl)(tp:Nat->Uf)(hP:∀i v,P i v->v=.ref (tp i))(hw:∀j,j<all.length->tp j∉wr/\tp j≠d) (hk:∀j p,all[j]?=ga p->knd.is p.1 (kv j)=Db) (hz:all.length<=Ch):
  ∀(k i:Nat) (z:Int) (s:Sd),all.length - i=k->i<=all.length->St i s->(∀j p,all[j]?=ga p->s.heap.IsTuple (tp j) #[kv j,p.2])->s.heap.DictOf knd d (merged [] (all.take i))->
   (∀s',Moved (d::wr) G s s'->s'.heap.DictOf knd d (merged [] all)->R (.ok (.ret .none)) s')->XXj (Tk prog w) A (.builtin "dict.update.loop" ⟨[.ref d,.ref I,.int z 0,.none],[]⟩) R s:=by
 have hdw:d∉wr:=λh=>hdf (W.sub _ h);have hsub:∀b∈wr,b∈d::wr:=λb hb=>dz _ hb;intro k;induction k with
 | zero=>
  intro i z s hk0 hi Zd hT hD hR;have hin:i=all.length:=by lia
  subst hin;refine ip Bq ?_;rw[ig wA _];show pi _ A.in1 (pyNext (.ref I)>>=_) _ _ s;refine cU (W.done s _ _ Zd λs' hm=>?_);show pi _ A.in1 (Builtin.Dict.addKeywords d []>>=_) _ _ s';refine cU (dh (dh (hR s' (hm.mono hsub) ?_)));rw[eM]at hD;obtain⟨o,es,ep,ho,rest⟩:=hD;exact⟨o,es,ep,hm.heap d _ hdw ho,rest⟩
 | succ k ih=>
  intro i z s hk0 hi Zd hT hD hR;have YV:i<all.length:=by lia
  have Z8:all[i]?=ga all[i]:=cV YV;refine ip Bq ?_;rw[ig wA _];show pi _ A.in1 (pyNext (.ref I)>>=_) _ _ s;refine cU (W.item i s _ _ YV Zd λv s' hPv hst' hm=>?_);obtain rfl:=hP i v hPv;have hT':∀j p,all[j]?=ga p->s'.heap.IsTuple (tp j) #[kv j,p.2]:=λj p e=>by obtain⟨o,h1,h2⟩:=hT j p e;exact⟨o,hm.heap _ _ (hw j (cX.mp e).1).1 h1,h2⟩
  have hD':s'.heap.DictOf knd d (merged [] (all.take i)):=by obtain⟨o,es,ep,ho,rest⟩:=hD;exact⟨o,es,ep,hm.heap d _ hdw ho,rest⟩
  show pi _ A.in1 (ZB [Value.ref (tp i)] _>>=_) _ _ s';refine cU (eW (cU (wpAny_tryCatch (R0 (hT' i _ Z8) ?_))));show pi _ A.in1 (ZB [kv i,all[i].2] (dictSet d (kv i) all[i].2)) _ _ s';refine eW ?_;unfold dictSet;refine eW (cU (knd.pyHash (hk i _ Z8) ?_));have hl:(merged [] (all.take i)).length<=Ch:=by have:=merged_length_le [] (all.take i);rw[fg]at this;simp only[dH]at this;lia
  refine wpAny_dictSetHashed_pairs (hsz:=hl) (hk i _ Z8) hD' λh' dd hs=>?_;rw[<-merged_take_succ [] all i _ Z8]at dd;refine dh ⟨kE wA _,ih (i+1) _ _ (by lia) YV (W.frame _ s' _ _ hst' (gX _) λb hb o e=>?_) (λj p e=>?_) dd λs'' hm'' hD''=>?_⟩
  .rw[hs.2 b (λz:b=d=>hdf (z ▸ hb))];exact e
  .obtain⟨o,h1,h2⟩:=hT' j p e;refine⟨o,?_,h2⟩;show h'.get? (tp j)=ga o;rw[hs.2 _ (hw j (cX.mp e).1).2];exact h1
  .refine hR s'' (mE W.gtrans ((hm.mono hsub).then_heap (gX _) λb o hb e=>?_) hm'') hD'';rw[hs.2 b (λz:b=d=>hb (by rw[z];exact dC))];exact e
end
section
variable {prog:Pg}{w:Wo}{A:Ar}{E:QQX}{κ:Type}[DecidableEq κ]{knd:PySem.KeyKind prog w κ}{s:Sd}
def By{l:Uf}{its:Array Vl}{n:Nat}{sl:Array (Option Vl)}{all:T0 (κ×Vl)}{Q:QQX}(kv:Nat->Vl)(tp:Nat->Uf)(hh:A.handled=Fa)(hl:s.heap.get? l=ga ⟨.type "list",Fa,.seq its n,sl⟩) (hits:∀(j:Nat) (v:Vl),its[j]?=ga v->v=.ref (tp j)) (YS:its.size=all.length) (hT:∀j p,all[j]?=ga p->s.heap.IsTuple (tp j) #[kv j,p.2]) (hk:∀j p,all[j]?=ga p->knd.is p.1 (kv j)=Db) (hz:all.length<=Ch) (h:∀h' tk,h'.DictOf knd s.heap.objs.size (merged [] all)->(∀b o,s.heap.get? b=ga o->h'.get? b=ga o)->Q (.ref s.heap.objs.size) {s with heap:=h',toks:=tk}):
  pi (Tk prog w) A (call (.type "dict") [.ref l]) Q E s:=by
 refine callType_codes (Q₁:=λobj s₁=>obj=Value.ref s.heap.objs.size/\s₁={s with heap:=s.heap.push {cls:=.type "dict",data:=.dict #[]}}) PySem.F.kt_called_dict (PySem.F.kt_typeCall_dict_1 _) F.entry_dict_init (kt_code_dict_new _ ⟨Z',Z'⟩) ?_
 rintro obj s₁ ⟨rfl,rfl⟩
 have hnew:(s.heap.push {cls:=.type "dict",data:=.dict #[]}).DictOf knd s.heap.objs.size []:=Heap.DictOf.new s.heap;have hl':(s.heap.push {cls:=.type "dict",data:=.dict #[]}).get? l=ga ⟨.type "list",Fa,.seq its n,sl⟩:=c9 _ hl;have hTl:Shared.TypeIs {s with heap:=s.heap.push {cls:=.type "dict",data:=.dict #[]}} (.ref l) "list":=⟨_,hl',Z'⟩;have lsz:l<s.heap.objs.size:=dB hl;refine⟨hnew.typeIs,F.args_dict_init_2 _ _,?_⟩;unfold Builtin.«dict.__init__»;refine cU ?_;unfold Builtin.Dict.selfAndRest;refine cU (wpAny_notOrdered_dict hnew.typeIs ?_);show pi _ _ (pure (s.heap.objs.size,[Value.ref l])) _ _ _;refine dh ?_;show pi _ _ (Builtin.Dict.updateFrom "dict.__init__" s.heap.objs.size (.ref l) [] .none) _ _ _;unfold Builtin.Dict.updateFrom;refine cU (jG hTl ?_);rw[de (by decide)];refine cU (F5 hl' (by simpa using hh) λh' tk keep=>?_);have hl2:h'.IsList l its:=⟨_,keep _ _ hl',Z',n,Z'⟩;show pi _ _ (rule _>>=_) _ _ _;refine cU (kt (cU (g9 hl2 ?_)));have nd:h'.objs.size>s.heap.objs.size:=by have z:h'.get? s.heap.objs.size=ga _:=keep _ _ (dJ _ Z');exact dB z
 have hDn:h'.DictOf knd s.heap.objs.size []:=by obtain⟨o,es,ep,ho,rest⟩:=hnew;exact⟨o,es,ep,keep _ _ ho,rest⟩
 have hTs:∀j p,all[j]?=ga p->h'.IsTuple (tp j) #[kv j,p.2]:=λj p e=>by obtain⟨o,h1,h2⟩:=hT j p e;exact⟨o,keep _ _ (c9 _ h1),h2⟩
 have Ze:l≠h'.objs.size:=dN (iA lsz nd);have W:=(ku (prog:=prog) (w:=w) (A:=A.in1.in1) (by simpa using hh) h'.objs.size l Ze its).toS;rw[YS]at W;refine dh ⟨kE wA _,Ln (A:=A.in1) W s.heap.objs.size ?_ kv tp (λi v e=>hits i v e) (λj hj=>?_) hk hz all.length 0 0 _ (by lia) (eK _) ⟨⟨_,dJ _ Z',Z',Z'⟩,hl2.push _⟩ (λj p e=>(hTs j p e).push _) ?_ λs' hm hD=>?_⟩
 .simp only[dg,dQ,fP,ib];exact⟨dN nd,h9 lsz⟩
 .have hj':all[j]?=ga all[j]:=cV hj;obtain⟨o,h1,_⟩:=hT j _ hj';have tsz:=dB h1;simp only[dg,dQ,fP];exact⟨dN (iA tsz nd),dN tsz⟩
 .obtain⟨o,es,ep,ho,rest⟩:=hDn;exact⟨o,es,ep,c9 _ ho,rest⟩
 .obtain⟨h2,g2,d2,t2,o2⟩:=s';have eg:g2=s.gens:=hm.gens;have ed:d2=s.drawn:=hm.drawn;have eo:o2=s.os:=hm.os;subst eg ed eo;refine⟨Z',h h2 t2 hD λb o e=>?_⟩;have hb:=dB e;refine hm.heap b o ?_ (c9 _ (keep _ _ (c9 _ e)));simp only[dg,dQ,fP,ib];exact⟨dN hb,dN (iA hb nd)⟩
end
noncomputable def uk{κ:Type}[DecidableEq κ](l:List κ):List κ:=l.foldl (λacc k=>if k∈acc then acc else acc++[k]) []
def yL{κ:Type}[DecidableEq κ](l:List κ)(k:κ):uk (l++[k])=if k∈uk l then uk l else uk l++[k]:=by unfold uk;rw[jr];rfl
def KB{κ:Type}[DecidableEq κ]:∀l:List κ,(uk l).length<=l.length:=by
 have go:∀(l acc:List κ),(l.foldl (λacc k=>if k∈acc then acc else acc++[k]) acc).length<=acc.length+l.length:=by
  intro l;induction l with
  | nil=>intro acc;simp
  | cons k r ih=>
   intro acc;rw[fY];refine dZ (ih _) ?_;split
   .simp only[d4];lia
   .simp only[d4,cW,dH];lia
 intro l;have:=go l []
 simpa [uk]using this
def OR{κ:Type}[DecidableEq κ](x:κ):∀l:List κ,x∈uk l↔x∈l:=by
 have go:∀(l acc:List κ),x∈l.foldl (λacc k=>if k∈acc then acc else acc++[k]) acc↔x∈acc\/x∈l:=by
  intro l;induction l with
  | nil=>intro acc;simp
  | cons k r ih=>
   intro acc;rw[fY,ih];by_cases h:k∈acc
   .rw[de h,dg];constructor
    .rintro (z|z)
     .exact .inl z
     .exact .inr (.inr z)
    .rintro (z|z|z)
     .exact .inl z
     .subst z;exact .inl h
     .exact .inr z
   .rw[cY h,dG,cZ,dg,or_assoc]
 intro l;have:=go l []
 simpa [uk]using this
def IZ{κ:Type}[DecidableEq κ]:∀l:List κ,l.Nodup->uk l=l:=by
 have go:∀(l acc:List κ),(acc++l).Nodup->l.foldl (λacc k=>if k∈acc then acc else acc++[k]) acc=acc++l:=by
  intro l;induction l with
  | nil=>intro acc _;simp
  | cons k r ih=>
   intro acc h;have hk:k∉acc:=λz=>by rw[gq]at h;exact h.2.2 k z k dC Z'
   rw[fY,cY hk,ih]
   .rw[fh];rfl
   .rw[fh];exact h
 intro l h;have:=go l [] (by simpa using h)
 simpa [uk]using this
section
variable {prog:Pg}{w:Wo}{A:Ar}{E:QQX}{R:Result→Sd→Prop}{κ:Type}[DecidableEq κ][BEq κ][LawfulBEq κ]{knd:PySem.KeyKind prog w κ}
 {I:Uf} {fp wr:QXQ} {G:Array GenState->Array GenState->Prop} {P:Nat->Vl->Prop} {St:Nat->Sd->Prop}
def Hu{all:List κ}(W:WalksS prog w A.in1 I fp wr G all.length P St)(S:Uf)(hSf:S∉fp)(hval:∀i v k,P i v->all[i]?=ga k->knd.is k v=Db/\v.scannable=Db)(hb:all.length+1<XXk):
  ∀(n i:Nat) (s:Sd),all.length - i=n->i<=all.length->St i s->s.heap.SetOf knd S (λx=>decide (x∈uk (all.take i))) (uk (all.take i)).length->
   (∀s',Moved (S::wr) G s s'->s'.heap.SetOf knd S (λx=>decide (x∈uk all)) (uk all).length->R (.ok (.ret .none)) s')->XXj (Tk prog w) A (.builtin "set.update.loop" ⟨[.ref S,.ref I],[]⟩) R s:=by
 have hSw:S∉wr:=λh=>hSf (W.sub _ h);have up:∀b∈wr,b∈S::wr:=λb hb=>dz _ hb;have kept:∀{s s':Sd} {T:κ->Bool} {m:Nat},Moved wr G s s'->s.heap.SetOf knd S T m->s'.heap.SetOf knd S T m:=λhm ⟨o,es,ep,t,ho,rest⟩=>⟨o,es,ep,t,hm.heap S _ hSw ho,rest⟩;intro n;induction n with
 | zero=>
  intro i s h0 hi Zd hS hR;obtain rfl:i=all.length:=by lia
  refine ip iC ?_;rw[ig gB _];rw[eM]at hS;exact cU (W.done s _ _ Zd λs' hm=>dh (hR s' (hm.mono up) (kept hm hS)))
 | succ n ih=>
  intro i s h0 hi Zd hS hR;have YV:i<all.length:=by lia
  have Z8:all[i]?=ga all[i]:=cV YV;refine ip iC ?_;rw[ig gB _];refine cU (W.item i s _ _ YV Zd λv s' hP hst' hm=>?_);obtain⟨k1,k2⟩:=hval i v _ hP Z8;have hS':=kept hm hS;show pi _ A.in1 (ZB [v] (setAdd S v)>>=_) _ _ s';refine cU (eW ?_);unfold setAdd;refine eW (cU (knd.pyHash k1 ?_));have room:(uk (all.take i)).length+1<XXk:=by have h1:=KB (all.take i);rw[fg]at h1;lia
  refine wpAny_setAddHashed_of (knd:=knd) (s:={s' with toks:=s'.toks+1}) k1 k2 hS' room λh' hsb hS2=>?_;have et:all.take (i+1)=all.take i++[all[i]]:=by rw[fX,Z8];rfl
  have hSi:h'.SetOf knd S (λx=>decide (x∈uk (all.take (i+1)))) (uk (all.take (i+1))).length:=by
   refine jK hS2 (λx=>?_) ?_
   .rw[et];by_cases YN:all[i]∈uk (all.take i)
    .rw[yL,de YN];by_cases hx:x=all[i]
     .subst hx;simp[YN]
     .simp[hx]
    .rw[yL,cY YN];by_cases hx:x=all[i]
     .subst hx;simp
     .simp[hx]
   .rw[et,yL];by_cases YN:all[i]∈uk (all.take i)
    .rw[de YN];simp[YN]
    .rw[cY YN];simp[YN]
  refine dh ⟨kE gB _,ih (i+1) _ (by lia) YV (W.frame _ s' _ _ hst' (gX _) λb hb o e=>?_) hSi λs'' hm'' hS''=>?_⟩
  .rw[hsb.2 b (λz:b=S=>hSf (z ▸ hb))];exact e
  .refine hR s'' (mE W.gtrans ((hm.mono up).then_heap (gX _) λb o hb e=>?_) hm'') hS'';rw[hsb.2 b (λz:b=S=>hb (by rw[z];exact dC))];exact e
end
def DM:isSubtype (.type "tuple") (.type "set")=pure pc:=by rw[jf];kernel_rfl
def AL:isSubtype (.type "tuple") (.type "frozenset")=pure pc:=by rw[jf];kernel_rfl
def EU:isSubtype (.type "list") (.type "set")=pure pc:=by rw[jf];kernel_rfl
def Bw:isSubtype (.type "list") (.type "frozenset")=pure pc:=by rw[jf];kernel_rfl
section
variable {prog:Pg}{w:Wo}{A:Ar}{E:QQX}{κ:Type}[DecidableEq κ][BEq κ][LawfulBEq κ]{knd:PySem.KeyKind prog w κ}{s:Sd}
set_option maxHeartbeats 4000000 in
def zQ{l:Uf}{YM:Array Vl}{all:List κ}{Q:QQX}(hh:A.handled=Fa)(hl:s.heap.IsList l YM\/s.heap.IsTuple l YM)(hn:YM.size=all.length)(hi:∀(i:Nat) (v:Vl) (k:κ),YM[i]?=ga v->all[i]?=ga k->knd.is k v=Db/\v.scannable=Db)(hb:all.length+1<XXk) (h:∀(h':Go) (tk:Nat),h'.SetOf knd s.heap.objs.size (λx=>decide (x∈uk all)) (uk all).length->(∀b o,s.heap.get? b=ga o->h'.get? b=ga o)->Q (.ref s.heap.objs.size) {s with heap:=h',toks:=tk}):
  pi (Tk prog w) A (call (.type "set") [.ref l]) Q E s:=by
 obtain⟨c,tl,hmro⟩:=gM.mro;have hmade:=gM.made;have hsub:=gM.sub;refine iS (codeAny_of_tree ?_);show pi _ _ (callAny (.type "set") _) _ _ _;refine dh ⟨jj _ (by decide+kernel),ip F.entry_type_call ?_⟩;rw[Around.under_plain (weight_type_call_type "set" [.ref l] []) Z'];have h1:=gM.notType;have h2:=gM.canCreate;have hct:=F.typeCall_set_1 (.ref l)
 repeat (any_goals(first|assumption|wp_step))
 have fresh:∀led:Bool,(s.heap.push {cls:=.type "set",dict:=none,data:=.set #[] 0 (.fresh 0 0 led)}).get? s.heap.objs.size=ga {cls:=.type "set",dict:=none,data:=.set #[] 0 (.fresh 0 0 led)}:=λled=>dJ _ Z';refine gL (code_set_new_1 (.ref l) (E:=E) (Q₁:=λobj s₁=>∃led:Bool,obj=Value.ref s.heap.objs.size/\s₁={s with heap:=s.heap.push {cls:=.type "set",dict:=none,data:=.set #[] 0 (.fresh 0 0 led)}}) λled=>⟨led,Z',Z'⟩) λr s₁ hr=>?_;cases r with
 | error e=>exact hr
 | ok fl=>
  cases fl with
  | ret obj=>
   obtain⟨led,rfl,rfl⟩:=hr;have hS:=fresh led;have hT:Shared.TypeIs {s with heap:=s.heap.push {cls:=.type "set",dict:=none,data:=.set #[] 0 (.fresh 0 0 led)}} (.ref s.heap.objs.size) "set":=⟨_,hS,Z'⟩;have hli:=gM.init.lookup;have hbi:=gM.init.bind (.ref s.heap.objs.size)
   repeat (any_goals(first|assumption|wp_step))
   refine gL (kx (R:=wants (λr s₂=>r=.none/\∃h' tk,s₂={s with heap:=h',toks:=tk}/\h'.SetOf knd s.heap.objs.size (λx=>decide (x∈uk all)) (uk all).length/\(∀b o,s.heap.get? b=ga o->h'.get? b=ga o)) E) gM.init.plain F.entry_set_init (check_set_init_1 hT ?_)) λr₂ s₂ hr₂=>?_
   .rcases hl with⟨ol,hol,hcl,nl,hdl⟩|⟨ol,hol,hcl,nl,hdl⟩
    all_goals
     obtain⟨ocls,odict,odata,oslots⟩:=ol;simp only at hcl hdl;subst hcl;subst hdl;have hol':=c9 {cls:=.type "set",dict:=none,data:=.set #[] 0 (.fresh 0 0 led)} hol;have hsls:=EU;have hslf:=Bw;have htls:=DM;have htlf:=AL;have hnd:(Value.type "list"==Value.type "dict")=pc:=by decide
     have hnt:(Value.type "tuple"==Value.type "dict")=pc:=by decide
     unfold Builtin.«set.__init__» noKeywords Builtin.Frozenset.updateFrom;generalize hPI:pyIter=PI
     wp_walk
     subst hPI
     first|refine g9 ⟨_,hol',Z',nl,Z'⟩ ?_|refine iD ⟨_,hol',Z',nl,Z'⟩ ?_
     refine cU (wpAny_runValue ?_);have lS:l<s.heap.objs.size:=dB hol;have hh3:A.in1.in1.in1.handled=Fa:=by simp[hh]
     have lI:l≠(s.heap.push {cls:=.type "set",dict:=none,data:=.set #[] 0 (.fresh 0 0 led)}).objs.size:=by rw[fR];exact dN (gH lS)
     first
     | refine Hu (hn ▸ (ku (prog:=prog) (w:=w) hh3 _ l lI YM).toS) s.heap.objs.size ?hf (λi v k e1 e2=>hi i v k e1 e2) hb all.length 0 _ (by lia) (eK _) ⟨⟨_,dJ _ rfl,rfl,rfl⟩,_,c9 _ hol',rfl,nl,rfl⟩ ?h0 ?hR
     | refine Hu (hn ▸ (Walks.tuple (prog:=prog) (w:=w) hh3 _ l lI YM).toS) s.heap.objs.size ?hf (λi v k e1 e2=>hi i v k e1 e2) hb all.length 0 _ (by lia) (eK _) ⟨⟨_,dJ _ rfl,rfl,rfl⟩,_,c9 _ hol',rfl,nl,rfl⟩ ?h0 ?hR
     case hf=>rw[fR];simp only[dg,dQ,fP,ib];exact⟨dN (fO _),h9 lS⟩
     case h0=>exact jK ((PyProof.Rows.setObjOf_fresh (knd:=knd) led).setOf (c9 _ hS) (by unfold XXk;lia)) (λ_=>rfl) Z'
     case hR=>intro s' hm hS';obtain⟨h',g',d',tk',os'⟩:=s';have eg:g'=s.gens:=hm.gens;have ed:d'=s.drawn:=hm.drawn;have eo:os'=s.os:=hm.os;subst eg;subst ed;subst eo;refine dh ?_;show pi _ _ (ret Value.none) _ _ _;refine dh ⟨Z',h',tk',Z',hS',λb o e=>?_⟩;have hb:=dB e;refine hm.heap b o ?_ (c9 _ (c9 _ e));rw[fR];simp only[dg,dQ,fP,ib];exact⟨dN hb,dN (gH hb)⟩
   .cases r₂ with
    | error e=>exact hr₂
    | ok fl₂=>
     cases fl₂ with
     | ret r=>
      obtain⟨rfl,h',tk,rfl,hS',hk'⟩:=hr₂
      repeat (any_goals(first|assumption|wp_step))
      exact h _ _ hS' hk'
     | _=>exact hr₂.elim
  | _=>exact hr.elim
end
end L2
namespace HT
open PySem PyProof.Rows
variable {prog:Pg}{w:Wo}{A:Ar}{E:QQX}{s:Sd}
def Au{t sl:Uf}{vl vu:Vl}{lo hi:Option Int}{Q:QQX}(ht:IsTup s.heap t YM)(hs:s.heap.IsSliceOf sl vl vu .none)(pl:IsPart vl lo)(pu:IsPart vu hi) (hw:tT YM.size 0 lo=0/\tT YM.size YM.size hi=YM.size) (h:Q (.ref t) s):pi (Tk prog w) A (XXf (.ref t) (.ref sl)) Q E s:=by
 obtain⟨os,hos,hcs,Z5⟩:=id hs;have hTs:s.TypeIs (.ref sl) "slice":=⟨os,hos,hcs⟩;unfold XXf
 try with_reducible refine eW ?_
 first|refine cU (dh ?_)|skip
 refine cU (jq ht.typeIs (by decide) ?_);refine cU (fN (name:=Str.ofString "__getitem__") ht.typeIs fA (fV fA ht.typeIs kH ?_ (kU _ _)));show pi _ _ (Builtin.Tuple.tupleItemsOf (.ref t)>>=_) _ _ s;refine cU (tupleItemsOf_ ht ?_);refine cU (jG hTs ?_);rw[de (by decide)];refine cU (xm hs pl pu ?_);have yes:(((tT YM.size 0 lo:Nat):Int)==0&&(1:Int)==1&&(tT YM.size YM.size hi - tT YM.size 0 lo)==YM.size)=Db:=by rw[hw.1,hw.2];simp
 show pi _ _ (if (((tT YM.size 0 lo:Nat):Int)==0&&(1:Int)==1&&(tT YM.size YM.size hi - tT YM.size 0 lo)==YM.size)=Db then _ else _) _ _ s;rw[de yes];have hT:=ht.typeIs;obtain⟨hp,g,d,tk,o⟩:=s
 repeat (any_goals(first|assumption|wp_step))
 exact⟨_,Z',dh h⟩
end HT
namespace L2
variable {X:Cx}{p p2 pos pos2:Pos}{e:zn}{te:TE}
section
def Xv(K:qE):V->Option Int->Option Int->Hp->VK->Prop:=λx lo hi H Q=>∃a xs,x=.ref a/\wg K H a xs/\(HT.tT xs.length 0 lo=0/\HT.tT xs.length xs.length hi=xs.length)/\Q (.ref a) H
def U8:Wy X (Xv X.K):=by
 intro YL s Y H x v vl vu lo hi sl Q I rx hs pl pu h;obtain⟨a,xs,rfl,hx,hw,q⟩:=h;cases rx;obtain⟨its,r,ht,hz⟩:=I.tuple hx;have YS:its.toArray.size=xs.length:=by rw[dw];exact r.length.symm
 exact⟨"tuple",_,fA.lookup,ht.typeIs,HT.Au ht hs pl pu (by rw[YS];exact hw) ⟨.ref a,H,I,Z',q⟩⟩
local instance (priority:=5000) keyBEq:BEq rD:=instBEqOfDecidableEq
local instance (priority:=5000) keyLaw:LawfulBEq rD:=inferInstanceAs (LawfulBEq (Sum Int Str))
def Qp(K:qE)(te:TE):TE:=λY H Q=>te Y H λx H1=>∃a,∃ss:QQQ,x=.ref a/\(xV K H1 a (ss.map V.str)\/wg K H1 a (ss.map V.str))/\ss.length+1<XXk/\Q (.int (uk ss).length) H1
def HE{ss:QQQ}(r:qK (ss.map V.str) us):us.length=ss.length/\∀(i:Nat) (v:Vl) (k:rD),us[i]?=ga v->(ss.map λx=>(Sum.inr x:rD))[i]?=ga k->(rQ P w).is k v=Db/\v.scannable=Db:=by
 refine⟨by rw[<-r.length,cT],λi v k e1 e2=>?_⟩;rw[dv]at e2;cases q:ss[i]? with
 | none=>rw[q]at e2;cases e2
 | some x=>rw[q]at e2;cases e2;obtain⟨u,e3,t,rfl⟩:=r.get (i:=i) (x:=V.str x) (by rw[dv,q];rfl);rw[e3]at e1;cases e1;exact⟨Be P w x t,Z'⟩
def MT{ss:QQQ}:(uk (ss.map λx=>(Sum.inr x:rD))).length=(uk ss).length:=by
 have go:∀(l acc:QQQ),(l.map λx=>(Sum.inr x:rD)).foldl (λacc k=>if k∈acc then acc else acc++[k]) (acc.map Sum.inr)=(l.foldl (λacc k=>if k∈acc then acc else acc++[k]) acc).map Sum.inr:=by
  intro l;induction l with
  | nil=>intro acc;rfl
  | cons k r ih=>
   intro acc;rw[dY,fY,fY];have hm:(Sum.inr k:rD)∈acc.map Sum.inr↔k∈acc:=by
    rw[dE];constructor
    .rintro ⟨y,h1,h2⟩;cases h2;exact h1
    .exact λh=>⟨k,h,Z'⟩
   by_cases h:k∈acc
   .rw[de h,de (hm.mpr h)];exact ih acc
   .rw[cY h,cY λz=>h (hm.mp z)];have:=ih (acc++[k]);rw[dF]at this;exact this
 have:=go ss [];unfold uk;rw[iU]at this;rw[this,cT]
def KS(hc:X.calm=Db)(he:PE X e te)(hg1:Gl X "len")(YN:X.mg "len"=Fa)(hg2:Gl X "set")(Y9:X.mg "set"=Fa)(b1:No "len"=ga (.builtin "len"))(b2:No "set"=ga (.type "set")) (hs:Tl [e] X.env=[(pc,wp e X.env)]:=by rfl):PE X (.Call (.Name "len" p) [.Call (.Name "set" p2) [e] [] pos2] [] pos) (Qp X.K te):=by
 intro YL s Y H Q I h;refine fU (wM I hg1 YN b1 ?_);refine gT ?_ Z' Z';show pi _ _ (spliced ((pc,wp (.Call (.Name "set" p2) [e] [] pos2) X.env)::sB pos (Tl [] X.env))) _ _ s;refine iz ?_;refine fU (wM I hg2 Y9 b2 ?_);refine fz ?_ hs Z';rw[hs];show pi _ _ (spliced ((pc,wp e X.env)::sB pos2 (Tl [] X.env))) _ _ s;refine iz (tj (he YL s Y H _ I h) λu s1 ⟨x,H1,I1,r1,a,ss,ex,hq,hb,q⟩=>iJ ?_);subst ex;obtain rfl:u=Value.ref a:=r1;have ZG:(ss.map λx=>(Sum.inr x:rD)).length+1<XXk:=by rw[cT];exact hb
 have YR:∀(h':Go) (tk:Nat),h'.SetOf (rQ X.prog X.w) s1.heap.objs.size (λx=>decide (x∈uk (ss.map λx=>(Sum.inr x:rD)))) (uk (ss.map λx=>(Sum.inr x:rD))).length->(∀b o,s1.heap.get? b=ga o->h'.get? b=ga o)->
   pi (Tk X.prog X.w) X.A (spliced (sB pos (Tl [] X.env))) (λvs s₁=>pi (Tk X.prog X.w) X.A (call (.builtin "len") (.ref s1.heap.objs.size::vs)) (EP X YL Y Q) X.xe s₁) X.xe {s1 with heap:=h',toks:=tk}:=λh' tk hS keep=>by
  refine iJ ?_;obtain⟨o,es,ep,t,ho,hex,hd,_,_,hz,hf,hn⟩:=hS;have YV:(es.size:Int)<2 ^ 63:=by have:XXk=4096:=rfl;lia
  refine call_len_set ho hex hd hf YV ?_;refine⟨.int es.size,H1,I1.kept keep,⟨_,Z'⟩,?_⟩;rw[hn,MT];exact q
 rcases hq with hq|hq
 .obtain⟨its,r,pl,hz⟩:=I1.list hq;obtain⟨k1,k2⟩:=HE (P:=X.prog) (w:=X.w) r;exact L2.zQ (knd:=rQ X.prog X.w) (all:=ss.map λx=>(Sum.inr x:rD)) (I1.ok.hd hc) (.inl pl.isList) (by rw[dw,k1,cT]) (λi v k e1 e2=>k2 i v k (by simpa using e1) e2) ZG YR
 .obtain⟨its,r,pl,hz⟩:=I1.tuple hq;obtain⟨k1,k2⟩:=HE (P:=X.prog) (w:=X.w) r;exact L2.zQ (knd:=rQ X.prog X.w) (all:=ss.map λx=>(Sum.inr x:rD)) (I1.ok.hd hc) (.inr pl) (by rw[dw,k1,cT]) (λi v k e1 e2=>k2 i v k (by simpa using e1) e2) ZG YR
end
variable {YL:T0 (Uf × Obj)}{Y:St}{H:Hp}{s:Sd}
theorem Ee(I:Inv X YL Y H s):∀(ts:QXQ) (kvs:T0 (rD×V)),ts.length=kvs.length->(∀(j:Nat) (t:Uf) (p:rD×V),ts[j]?=ga t->kvs[j]?=ga p->wg X.K H t [kV p.1,p.2])->
  ∃(us:T0 Vl) (all:T0 (rD×Vl)),us.length=kvs.length/\KV kvs all/\∀(j:Nat) (t:Uf) (p:rD×Vl),ts[j]?=ga t->all[j]?=ga p->∃u,us[j]?=ga u/\s.heap.IsTuple t #[u,p.2]/\(rQ X.prog X.w).is p.1 u=Db
 | [],[],_,_=>⟨[],[],Z',.nil,λj t p e=>by simp at e⟩
 | [],_::_,h,_=>by simp at h
 | _::_,[],h,_=>by simp at h
 | t::ts,(k,v)::kvs,h,hq=>by
  obtain⟨us,all,h1,h2,h3⟩:=Ee I ts kvs (by simpa using h) (λj t p e1 e2=>hq (j+1) t p (by simpa using e1) (by simpa using e2));obtain⟨its,r,pl,_⟩:=I.tuple (hq 0 t (k,v) (by simp) (by simp));cases r with
  | cons r1 r2=>
   cases r2 with
   | cons r3 r4=>
    cases r4;rename_i u w;refine⟨u::us,(k,w)::all,by simpa using h1,.cons ⟨Z',r3⟩ h2,λj t' p e1 e2=>?_⟩;cases j with
    | zero=>
     have e1':t=t':=by simpa using e1
     have e2':(k,w)=p:=by simpa using e2
     subst e1' e2';exact⟨u,by simp,pl,HK r1⟩
    | succ j=>simpa using h3 j t' p (by simpa using e1) (by simpa using e2)
theorem Nw:∀{kvs:T0 (rD×V)} {all:T0 (rD×Vl)},KV kvs all->all.map (·.1)=kvs.map (·.1)
 | _,_,.nil=>rfl
 | _,_,.cons r rs=>by rw[dY,dY,Nw rs,r.1]
def Iz(hc:X.calm=Db):Ap X (.type "dict") (λxs H Q=>∃l,∃ts:QXQ,∃kvs:T0 (rD×V),xs=[V.ref l]/\xV X.K H l (ts.map V.ref)/\ts.length=kvs.length/\
  (∀(j:Nat) (t:Uf) (p:rD×V),ts[j]?=ga t->kvs[j]?=ga p->wg X.K H t [kV p.1,p.2])/\(kvs.map (·.1)).Nodup/\∀d,H d=Fa->Q (.ref d) (upd H d (.dK kvs))):=by
 intro YL s Y H xs us Q I r h;obtain⟨l,ts,kvs,rfl,hl,YS,hq,hnd,q⟩:=h;obtain⟨u,rfl,ru⟩:=yZ r;cases ru;obtain⟨its,rv,⟨⟨c1,d1,t1,sl1⟩,n,g1,e1,e2,e3⟩,hz⟩:=I.list hl;simp only at e1 e2 e3;subst e1 e2 e3;obtain⟨ks,all,h1,h2,h3⟩:=Ee I ts kvs YS hq;have la:all.length=kvs.length:=(jm h2).symm;have li:its.length=kvs.length:=by rw[<-rv.length,cT,YS]
 have zl:all.length<=Ch:=by rw[la,<-YS];simpa using hz
 have at_:∀(j:Nat) (p:rD×Vl),all[j]?=ga p->∃t,ts[j]?=ga t:=λj p e=>by have:=(cX.mp e).1;exact⟨ts[j],cV (by lia)⟩
 refine By (knd:=rQ X.prog X.w) (all:=all) (λj=>(ks[j]?).getD .none) (λj=>(ts[j]?).getD 0) (I.ok.hd hc) g1 (λj v e=>?_) (by rw[dw,li,la]) (λj p e=>?_) (λj p e=>?_) zl λh' tk hD keep=>?_
 .have e':its[j]?=ga v:=by simpa using e
  have hj:=(cX.mp e').1;have hj2:j<ts.length:=by lia
  obtain⟨w,e4,e5⟩:=rv.get (i:=j) (x:=V.ref ts[j]) (by rw[dv,cV hj2];rfl);rw[e']at e4;cases e4;show v=Value.ref ((ts[j]?).getD 0);rw[cV hj2];exact e5
 .obtain⟨t,et⟩:=at_ j p e;obtain⟨u,e4,e5,_⟩:=h3 j t p et e;show s.heap.IsTuple ((ts[j]?).getD 0) #[(ks[j]?).getD .none,p.2];rw[et,e4];exact e5
 .obtain⟨t,et⟩:=at_ j p e;obtain⟨u,e4,_,e6⟩:=h3 j t p et e;show(rQ X.prog X.w).is p.1 ((ks[j]?).getD .none)=Db;rw[e4];exact e6
 .rw[merged_nil_of_nodup all (by rw[Nw h2];exact hnd)]at hD;have fr:=I.mR.fresh (dq s.heap.objs.size);exact⟨.ref s.heap.objs.size,_,I.laid (t':=tk) (o:=.dK kvs) keep (dq _) (Nz (by rw[<-la];exact zl) (gv.mpr (dW (dN I.big))) h2 hD),Z',q _ fr⟩
def Xs:R2:=λx y H Q=>∃a v,x=.ref a/\Fw H a y (ga v)/\Q v H
def PQ(hu:X.A.units+1<XXa):Vj X Xs:=by
 intro value YZ YL s Y H x y o i Q I rx ry h hs;obtain⟨a,v,rfl,g,q⟩:=h;obtain rfl:o=Value.ref a:=rx;have hT:=Hh I g;have h2:pi (Tk X.prog X.w) X.A (XXf (.ref a) i) (EP X YL Y Q) X.xe s:=LW hu I g ry λw' s3 I3 rw'=>⟨v,H,I3,rw',q⟩;unfold subscriptTail;refine cU ?_;rw[kg hT.not_modules];refine cU (jZ hT jy.lookup ?_);have YR:pi (Tk X.prog X.w) X.A (subscripted YZ pc (.ref a) i) (λr s₃=>pi (Tk X.prog X.w) X.A (letTemporaryGo value (.ref a) r>>=λ_=>pure r) (EP X YL Y Q) X.xe s₃) X.xe s:=by rw[hs];exact wpAny_operating (eh h2 (λr s₃ h₃=>cU (ky (dh h₃))) λ_ _ x=>x)
 first
  | exact dh (cU YR)
  | exact cU (dh (cU YR))
  | exact cU YR
def Uh(hu:X.A.units+1<XXa):xX X (Op .In) (λx y H Q=>∃a o,y=.ref a/\Fw H a x o/\Q (.bl o.isSome) H):=by intro YL s Y H x y v u Q I rx ry h;obtain⟨a,o,rfl,g,q⟩:=h;obtain rfl:u=Value.ref a:=ry;exact Yb hu I g rx λs3 I3=>⟨.bl o.isSome,H,I3,Z',q⟩
variable {prog:Pg}{w:Wo}{A:Ar}{E:QQX}{a:Uf}{U:Type}{k:Str}{tk:Tok}
section
variable {R:U→Vl→Prop}{D:T0 (Str × U)}
def zy(T:KTD.TabOf R s.heap a D):s.TypeIs (.ref a) "dict":=let⟨_,o,_,_,ho,hc,_⟩:=T;⟨o,ho,hc.1⟩
def JB{Q:Option Vl->Sd->Prop}(T:KTD.TabOf R s.heap a D)(h1:∀d v,KTD.datumAt k D=ga d->R d v->Q (ga v) {s with toks:=s.toks+1})(h2:KTD.datumAt k D=Fa->Q Fa {s with toks:=s.toks+1}):
  pi (Tk prog w) A (dictGet a (.str k tk)) Q E s:=by
 obtain⟨_,o,es,ep,ho,hc,hd,hr⟩:=T;have hq:Q (findBy (λk v=>v.isStr k) es k) {s with toks:=s.toks+1}:=by
  have hf:findBy (λk v=>v.isStr k) es k=(es.toList.find? λe=>e.key.isStr k).map (·.val):=by obtain⟨l⟩:=es;simp[findBy]
  rw[hf];cases hat:KTD.datumAt k D with
  | none=>rw[hr.find_none hat];exact h2 hat
  | some d=>obtain⟨v,hv,hfl⟩:=hr.find_some hat;rw[hv];exact h1 d v hat hfl
 have ZQ:(es.all λe=>isExactStrKey e.key)=Db:=by
  obtain⟨l⟩:=es
  simpa using hr.exact
 unfold dictGet
 try with_reducible refine eW ?_
 refine cU (lM (cU (KTD.kt_dictFind_strs (s:={s with toks:=s.toks+1}) ho hd ZQ ?_)));rw[findBy_of_findIdx?]at hq;cases hi:es.findIdx? λe=>e.key.isStr k with
 | none=>rw[hi]at hq;exact dh hq
 | some i=>rw[hi]at hq;exact cU (wpAny_dictEntries (s:={s with toks:=s.toks+1}) ho hd (dh hq))
def Ve{Q:QQX}(T:KTD.TabOf R s.heap a D)(h:Q (.bool (KTD.datumAt k D).isSome) {s with toks:=s.toks+1}):pi (Tk prog w) A (Op .In (.str k tk) (.ref a)) Q E s:=by
 have hT:=zy T;show pi _ _ (do return .bool (<-contains (.ref a) (.str k tk))) Q E s;refine cU ?_;unfold contains
 try with_reducible refine eW ?_
 refine cU (jZ hT jk.lookup ?_);show pi _ _ (if (ga (Value.builtin "dict.__contains__")==ga Value.none)=Db then _ else _) _ E s;rw[cY (by rw[beq_builtin_none];exact dA)];refine cU (wpAny_callSpecialUnlessNone?_slot (name:=Str.ofString "__contains__") hT jk (fV jk hT entry_dict_contains ?_ (args_dict_contains _ _)));show pi _ _ (dictGet a (.str k tk)>>=_) _ _ s;refine cU (JB T (λd v ha _=>?_) λhn=>?_)
 .rw[ha]at h;show pi _ _ (ret (.bool Db)) _ _ _;exact dh ⟨_,Z',fk (dh h)⟩
 .rw[hn]at h;show pi _ _ (Builtin.Dict.pendingKey? a (.str k tk)>>=_) _ _ _;exact cU (wpAny_pendingKey_other T.1 (dh ⟨_,Z',fk (dh h)⟩))
def Pd{Q:QQX}{d:U}(T:KTD.TabOf R s.heap a D)(hd:KTD.datumAt k D=ga d)(h:∀v,R d v->Q v {s with toks:=s.toks+1}):pi (Tk prog w) A (XXf (.ref a) (.str k tk)) Q E s:=by
 have hT:=zy T;unfold XXf
 try with_reducible refine eW ?_
 refine cU (jq hT (by decide) ?_);refine cU (fN (name:=Str.ofString "__getitem__") hT lC (fV lC hT entry_dict_getitem ?_ (args_dict_getitem _ _)));show pi _ _ (dictGet a (.str k tk)>>=_) _ _ s;refine cU (JB T (λd' v ha hv=>dh ⟨v,Z',dh (h v ?_)⟩) λhn=>?_)
 .rw[hd]at ha;cases ha;exact hv
 .rw[hd]at hn;cases hn
end
def Pe(K:qE)(mg:QQZ)(x:Str)(F:T0 (Str×QQQ)):Prop:=∃a o es ep,mg x=ga (.ref a)/\(a==TW)=pc/\K.lookup a=ga o/\o.ExactDict/\o.data=.dict es ep/\
 KTD.Rows (λ(ss:QQQ) v=>∃t,v=Value.ref t/\wg K (λ_=>Fa) t (ss.map V.str)) es.toList F
variable {x:Str}{F:T0 (Str × QQQ)}
def JZ{K:qE}(h:wg K (λ_=>Fa) t xs):wg K H t xs:=by
 rcases h with(h|⟨o,h⟩)|h
 .cases h
 .cases h
 .exact .inr h
def HR{K:qE}(T:Pe K mg x F):∃a,mg x=ga (.ref a)/\∀h:Go,K.In h->KTD.TabOf (λ(ss:QQQ) v=>∃t,v=Value.ref t/\wg K (λ_=>Fa) t (ss.map V.str)) h a F:=by obtain⟨a,o,es,ep,h1,h2,h3,h4,h5,h6⟩:=T;exact⟨a,h1,λh hk=>⟨h2,o,es,ep,hk a o h3,h4,h5,h6⟩⟩
noncomputable def Xp(x:Str):It:=⟨λi _=>i<x.cps.size,λi H v H'=>H'=H/\∃c,x.cps[i]?=ga c/\v=.str ⟨#[c]⟩,λi _=>i=x.cps.size⟩
def Hj{K:qE}{ty:String}{x:Str}{t:Tok}(it:Uf)(W:∀A':Ar,A'.handled=Fa->Walks P w A' it [it] [it] x.cps.size (SignAt x) (λi h=>h.IsStrIter it ty x t i)) (hself:∀(A:Ar) (i:Nat) (s:Sd) (Q:QQX) (E:QQX),s.heap.IsStrIter it ty x t i->Q (.ref it) s->pi (Tk P w) A (pyIter (.ref it)) Q E s) (hn:["enumerate","zip","dict_itemiterator","dict_reverseitemiterator","odict_iterator","itertools.zip_longest","itertools.pairwise"].contains ty=pc):Hg P w K tg (Xp x) [it] it (λi h=>h.IsStrIter it ty x t i) where
 mem:=by simp
 obj:=λi h st b hb=>by
  obtain rfl:b=it:=by simpa using hb
  obtain⟨o,e,c,d⟩:=st;exact⟨o,e,λv z=>by rw[d]at z;cases z⟩
 keep:=λi h h' st k=>by obtain⟨o,e,r⟩:=st;exact⟨o,k it (by simp) o e,r⟩
 item:=by intro X hP hw hK hc i YL s Y H E I hf st hg;subst hP hw hK;obtain⟨f0,f1,f2,f3,f4,f5⟩:=hf it (by simp);refine(W X.A (I.ok.hd hc)).item i s _ _ hg st λv h' tk hv ZC kp=>?_;obtain⟨c,u,e1,e2⟩:=hv;have I1:Inv X YL Y H {s with heap:=h',toks:=tk}:=I.turned (t':=tk) (λb o hb e=>kp b o (by simpa using hb) e) f0 f1 f3 f4 f5;obtain⟨o,e,cl,d⟩:=id ZC;exact⟨v,Z',Ko (s:={s with heap:=h',toks:=tk}) e cl d hn ⟨.str ⟨#[c]⟩,H,I1,⟨u,e2⟩,⟨Z',c,e1,Z'⟩,ZC,λb hb=>(hf b hb).1⟩⟩
 done:=by intro X hP hw hK hc i YL s Y H E I hf st hg;subst hP hw hK;obtain⟨f0,f1,f2,f3,f4,f5⟩:=hf it (by simp);obtain rfl:i=x.cps.size:=hg;exact(W X.A (I.ok.hd hc)).done s _ _ st λh' tk kp=>⟨Z',I.turned (t':=tk) (λb o hb e=>kp b o (by simpa using hb) e) f0 f1 f3 f4 f5⟩
 self:=hself
variable {tg:zn}
def QO(hc:X.calm=Db)(hl:PE X l tl):PI X tg l (λY H R=>tl Y H λx H1=>(∃a,x=.ref a/\(((∃xs,xV X.K H1 a xs)/\R (W8 X.K a) H1)\/((∃xs,wg X.K H1 a xs)/\R (XT X.K a) H1)))\/∃z,x=.str z/\R (Xp z) H1):=by
 intro YL s Y H R I h;refine tj (hl YL s Y H _ I h) λv s1 zz=>x5 zz λx H1 I1 r1 q1=>?_;rcases q1 with⟨a,e,q1⟩|⟨z,e,q⟩
 .subst e;cases r1;rcases q1 with⟨⟨xs,hq⟩,q⟩|⟨⟨xs,hq⟩,q⟩
  .obtain⟨its,rv,p,hz⟩:=I1.list hq;refine g9 p.isList ?_;refine⟨s1.heap.objs.size,[s1.heap.objs.size],_,_,H1,Z',I1.kept (t':=s1.toks) λb o e=>c9 _ e,L1 a _,⟨_,dJ _ Z',Z',Z'⟩,λb hb=>?_,q⟩;obtain rfl:b=s1.heap.objs.size:=by simpa using hb
   exact I1.nX (dq _) (I1.mR.fresh (dq _))
  .obtain⟨its,rv,p,hz⟩:=I1.tuple hq;refine iD (show s1.heap.IsTuple a its.toArray from p) ?_;refine⟨s1.heap.objs.size,[s1.heap.objs.size],_,_,H1,Z',I1.kept (t':=s1.toks) λb o e=>c9 _ e,IF a _,⟨_,dJ _ Z',Z',Z'⟩,λb hb=>?_,q⟩;obtain rfl:b=s1.heap.objs.size:=by simpa using hb
   exact I1.nX (dq _) (I1.mR.fresh (dq _))
 .subst e;obtain⟨t,rfl⟩:=r1;have fp:∀b∈[s1.heap.objs.size],zT X YL H1 b:=λb hb=>by
   obtain rfl:b=s1.heap.objs.size:=by simpa using hb
   exact I1.nX (dq _) (I1.mR.fresh (dq _))
  cases ha:z.cps.all (·<128)
  .refine wpAny_pyIter_wide ha ?_;exact⟨s1.heap.objs.size,[s1.heap.objs.size],_,_,H1,Z',I1.kept (t':=s1.toks) λb o e=>c9 _ e,Hj _ (λA' hA=>Walks.strWide hA _ z t) (λA i s Q E st h=>wpAny_pyIter_striter_wide st h) (by decide),⟨_,dJ _ Z',Z',Z'⟩,fp,q⟩
  .refine wpAny_pyIter_ascii ha ?_;exact⟨s1.heap.objs.size,[s1.heap.objs.size],_,_,H1,Z',I1.kept (t':=s1.toks) λb o e=>c9 _ e,Hj _ (λA' hA=>Walks.strAscii hA _ z t) (λA i s Q E st h=>wpAny_pyIter_striter_ascii st h) (by decide),⟨_,dJ _ Z',Z',Z'⟩,fp,q⟩
end L2
namespace L2
inductive Dn{α0:Sort u}{α1:Sort v}(p:α0->α1->Prop):Prop
 | mk (a0:α0) (a1:α1) (h:p a0 a1):Dn p
inductive Ed{α0:Sort u}{α1:Sort v}{α2:Sort w}(p:α0->α1->α2->Prop):Prop
 | mk (a0:α0) (a1:α1) (a2:α2) (h:p a0 a1 a2):Ed p
def x7{α:Sort u}{β:Sort v}{γ:Sort w}{p q r s:α->β->γ->Prop}{C:Prop}(h:Ed λa b c=>p a b c/\q a b c/\r a b c/\s a b c)(f:∀a b c,p a b c->q a b c->r a b c->s a b c->C):C:=by obtain⟨a,b,c,h1,h2,h3,h4⟩:=h;exact f a b c h1 h2 h3 h4
def L'{α:Sort u}{β:Sort v}{γ:Sort w}{p q r s s1 s2 s3:α->β->γ->Prop}{C:Prop}(h:Ed λa b c=>p a b c/\q a b c/\r a b c/\s a b c/\s1 a b c/\s2 a b c/\s3 a b c)(f:∀a b c,p a b c->q a b c->r a b c->s a b c->s1 a b c->s2 a b c->s3 a b c->C):C:=by obtain⟨a,b,c,h1,h2,h3,h4,h5,h6,h7⟩:=h;exact f a b c h1 h2 h3 h4 h5 h6 h7
inductive BO{α0:Sort u}{α1:Sort v}{α2:Sort w}{α3:Sort u1}(p:α0->α1->α2->α3->Prop):Prop
 | mk (a0:α0) (a1:α1) (a2:α2) (a3:α3) (h:p a0 a1 a2 a3):BO p
inductive HX{α0:Sort u}{α1:Sort v}{α2:Sort w}{α3:Sort u1}{α4:Sort u2}(p:α0->α1->α2->α3->α4->Prop):Prop
 | mk (a0:α0) (a1:α1) (a2:α2) (a3:α3) (a4:α4) (h:p a0 a1 a2 a3 a4):HX p
inductive JT{α0:Sort u}{α1:Sort v}{α2:Sort w}{α3:Sort u1}{α4:Sort u2}{α5:Sort u3}(p:α0->α1->α2->α3->α4->α5->Prop):Prop
 | mk (a0:α0) (a1:α1) (a2:α2) (a3:α3) (a4:α4) (a5:α5) (h:p a0 a1 a2 a3 a4 a5):JT p
inductive U5{α0:Sort u}{α1:Sort v}{α2:Sort w}{α3:Sort u1}{α4:Sort u2}{α5:Sort u3}{α6:Sort u4}(p:α0->α1->α2->α3->α4->α5->α6->Prop):Prop
 | mk (a0:α0) (a1:α1) (a2:α2) (a3:α3) (a4:α4) (a5:α5) (a6:α6) (h:p a0 a1 a2 a3 a4 a5 a6):U5 p
inductive S5{α0:Sort u}{α1:Sort v}{α2:Sort w}{α3:Sort u1}{α4:Sort u2}{α5:Sort u3}{α6:Sort u4}{α7:Sort u5}(p:α0->α1->α2->α3->α4->α5->α6->α7->Prop):Prop
 | mk (a0:α0) (a1:α1) (a2:α2) (a3:α3) (a4:α4) (a5:α5) (a6:α6) (a7:α7) (h:p a0 a1 a2 a3 a4 a5 a6 a7):S5 p
inductive WP{α0:Sort u}{α1:Sort v}{α2:Sort w}{α3:Sort u1}{α4:Sort u2}{α5:Sort u3}{α6:Sort u4}{α7:Sort u5}{α8:Sort u6}(p:α0->α1->α2->α3->α4->α5->α6->α7->α8->Prop):Prop
 | mk (a0:α0) (a1:α1) (a2:α2) (a3:α3) (a4:α4) (a5:α5) (a6:α6) (a7:α7) (a8:α8) (h:p a0 a1 a2 a3 a4 a5 a6 a7 a8):WP p
inductive Nu{α0:Sort u}{α1:Sort v}{α2:Sort w}{α3:Sort u1}{α4:Sort u2}{α5:Sort u3}{α6:Sort u4}{α7:Sort u5}{α8:Sort u6}{α9:Sort u7}(p:α0->α1->α2->α3->α4->α5->α6->α7->α8->α9->Prop):Prop
 | mk (a0:α0) (a1:α1) (a2:α2) (a3:α3) (a4:α4) (a5:α5) (a6:α6) (a7:α7) (a8:α8) (a9:α9) (h:p a0 a1 a2 a3 a4 a5 a6 a7 a8 a9):Nu p
end L2
namespace L2
open PySem
def VT(a C:Uf)(h:Go):Prop:=Dn λoe vs=>h.get? a=ga oe/\oe.cls=.ref C/\oe.data=.fields vs/\oe.dict=Fa
end L2
namespace L3
open L2
inductive D where
 | mM|bl (b:Bool)|int (i:Int)|str (x:Str)|tup (ds:List D)|ref (a:Uf)|ty (n:String)
 | rl (ds:List D)
def Rl(K:qE)(H:Hp)(a:Uf)(xs:T0 V):Prop:=(∃o,H a=ga (.frz o (.lst xs)))\/
 ∃(o:Obj) (its:Array Vl) (n:Nat),K.lookup a=ga o/\o.cls=.type "list"/\o.dict=Fa/\o.data=.seq its n/\its.size<=Ch/\qK xs its.toList
def Rl.sq{K:qE}(h:Rl K H a xs):xV K H a xs:=by
 rcases h with⟨o,h⟩|h
 .exact .inl (.inr ⟨o,h⟩)
 .exact .inr h
mutual
def sr(K:qE)(H:Hp):D->V->Prop
 | .mM,v=>v=.mM
 | .bl b,v=>v=.bl b
 | .int i,v=>v=.int i
 | .str x,v=>v=.str x
 | .ref a,v=>v=.ref a
 | .ty n,v=>v=.ty n
 | .tup ds,v=>∃a xs,v=.ref a/\wg K H a xs/\qA K H ds xs
 | .rl ds,v=>∃a xs,v=.ref a/\Rl K H a xs/\qA K H ds xs
def qA(K:qE)(H:Hp):T0 D->T0 V->Prop
 | [],xs=>xs=[]
 | d::ds,xs=>∃x r,xs=x::r/\sr K H d x/\qA K H ds r
end
structure rc(K:qE)(H H':Hp):Prop where
 t:∀a xs,wg K H a xs->wg K H' a xs
 f:∀a o xs,H a=ga (.frz o (.lst xs))->H' a=ga (.frz o (.lst xs))
def rc.refl{K:qE}:rc K H H:=⟨λ_ _ h=>h,λ_ _ _ h=>h⟩
def rc.trans{K:qE}(a:rc K H H1)(b:rc K H1 H2):rc K H H2:=⟨λc xs h=>b.t c xs (a.t c xs h),λc o xs h=>b.f c o xs (a.f c o xs h)⟩
def rc.upd{K:qE}(h:∀xs,¬Rd H p (.tup xs))(h':∀u xs,H p≠ga (.frz u (.lst xs))):rc K H (upd H p o):=⟨λa xs q=>by
 rcases q with q|q
 .have ne:a≠p:=λz=>h xs (z ▸ q);rcases q with q|⟨u,q⟩
  .exact .inl (.inl (by rw[qo ne];exact q))
  .exact .inl (.inr ⟨u,by rw[qo ne];exact q⟩)
 .exact .inr q,λa u xs q=>by
 have ne:a≠p:=λz=>h' u xs (z ▸ q);rw[qo ne];exact q⟩
def rc.new{K:qE}{H:Hp}{p:Uf}(h:H p=Fa):rc K H (L2.upd H p o):=.upd (λxs q=>by
 rcases q with q|⟨u,q⟩<;>(rw[h]at q;cases q)) λu xs q=>by rw[h]at q;cases q
def Rl.mono{K:qE}(e:rc K H H')(h:Rl K H a xs):Rl K H' a xs:=by
 rcases h with⟨o,h⟩|h
 .exact .inl ⟨o,e.f a o xs h⟩
 .exact .inr h
mutual
theorem sr.mono{K:qE}(e:rc K H H'):∀{d:D} {v:V},sr K H d v->sr K H' d v
 | .mM,_,h=>h
 | .bl _,_,h=>h
 | .int _,_,h=>h
 | .str _,_,h=>h
 | .ref _,_,h=>h
 | .ty _,_,h=>h
 | .tup ds,v,h=>by unfold sr at h ⊢;obtain⟨a,xs,e1,e2,e3⟩:=h;exact⟨a,xs,e1,e.t _ _ e2,qA.mono e e3⟩
 | .rl ds,v,h=>by unfold sr at h ⊢;obtain⟨a,xs,e1,e2,e3⟩:=h;exact⟨a,xs,e1,e2.mono e,qA.mono e e3⟩
theorem qA.mono{K:qE}(e:rc K H H'):∀{ds:T0 D} {xs:T0 V},qA K H ds xs->qA K H' ds xs
 | [],_,h=>h
 | d::ds,xs,h=>by unfold qA at h ⊢;obtain⟨x,r,e1,e2,e3⟩:=h;exact⟨x,r,e1,sr.mono e e2,qA.mono e e3⟩
end
variable {K:qE}{H H':Hp}
def qA.nil:qA K H [] []:=by unfold qA;rfl
def qA.cons(a:sr K H d x)(b:qA K H ds xs):qA K H (d::ds) (x::xs):=by unfold qA;exact⟨x,xs,Z',a,b⟩
def qA.inv{d:D}{ds:T0 D}(h:qA K H (d::ds) xs):∃x r,xs=x::r/\sr K H d x/\qA K H ds r:=by unfold qA at h;exact h
def qA.nil_inv(h:qA K H [] xs):xs=[]:=by unfold qA at h;exact h
theorem qA.length:∀{ds:T0 D} {xs:T0 V},qA K H ds xs->ds.length=xs.length
 | [],_,h=>by rw[h.nil_inv];rfl
 | d::ds,_,h=>by obtain⟨x,r,rfl,_,e⟩:=h.inv;simp[qA.length e]
theorem qA.get:∀{ds:T0 D} {xs:T0 V} {i:Nat} {d:D},qA K H ds xs->ds[i]?=ga d->∃x,xs[i]?=ga x/\sr K H d x
 | [],_,_,_,_,e=>by simp at e
 | d::ds,_,0,_,h,e=>by obtain⟨x,r,rfl,a,_⟩:=h.inv;simp at e;subst e;exact⟨x,by simp,a⟩
 | d::ds,_,i+1,_,h,e=>by obtain⟨x,r,rfl,_,b⟩:=h.inv;obtain⟨y,e1,e2⟩:=qA.get b (by simpa using e);exact⟨y,by simpa using e1,e2⟩
theorem qA.append:∀{ds es:T0 D} {xs ys:T0 V},qA K H ds xs->qA K H es ys->qA K H (ds++es) (xs++ys)
 | [],_,_,_,h,g=>by rw[h.nil_inv];exact g
 | d::ds,_,_,_,h,g=>by obtain⟨x,r,rfl,a,b⟩:=h.inv;exact .cons a (qA.append b g)
theorem qA.take:∀{ds:T0 D} {xs:T0 V} (n:Nat),qA K H ds xs->qA K H (ds.take n) (xs.take n)
 | _,_,0,_=>by simp only[List.take_zero];exact .nil
 | [],_,n+1,h=>by rw[h.nil_inv];exact .nil
 | d::ds,_,n+1,h=>by obtain⟨x,r,rfl,a,b⟩:=h.inv;exact .cons a (qA.take n b)
theorem qA.drop:∀{ds:T0 D} {xs:T0 V} (n:Nat),qA K H ds xs->qA K H (ds.drop n) (xs.drop n)
 | _,_,0,h=>h
 | [],_,n+1,h=>by rw[h.nil_inv];exact .nil
 | d::ds,_,n+1,h=>by obtain⟨x,r,rfl,a,b⟩:=h.inv;exact qA.drop n b
def qA.snoc(h:qA K H ds xs)(a:sr K H d x):qA K H (ds++[d]) (xs++[x]):=h.append (.cons a .nil)
theorem qA.ints:∀{ns:T0 Int},qA K H (ns.map D.int) (ns.map V.int)
 | []=>.nil
 | n::r=>.cons (by unfold sr;rfl) qA.ints
def sr.tup(q:wg K H a xs)(h:qA K H ds xs):sr K H (.tup ds) (.ref a):=by unfold sr;exact⟨a,xs,Z',q,h⟩
def sr.mQ{ds:T0 D}(h:sr K H (.tup ds) v):∃a xs,v=.ref a/\wg K H a xs/\qA K H ds xs:=by unfold sr at h;exact h
def sr.m8{ds:T0 D}(h:sr K H (.rl ds) v):∃a xs,v=.ref a/\Rl K H a xs/\qA K H ds xs:=by unfold sr at h;exact h
def sr.int{i:Int}:sr K H (.int i) (.int i):=by unfold sr;rfl
def sr.bl{i:Bool}:sr K H (.bl i) (.bl i):=by unfold sr;rfl
def sr.str{i:Str}:sr K H (.str i) (.str i):=by unfold sr;rfl
def sr.ref{i:Uf}:sr K H (.ref i) (.ref i):=by unfold sr;rfl
def sr.mM:sr K H .mM .mM:=by unfold sr;rfl
def sr.int_inv{i:Int}(h:sr K H (.int i) v):v=.int i:=by unfold sr at h;exact h
def sr.mL{i:Bool}(h:sr K H (.bl i) v):v=.bl i:=by unfold sr at h;exact h
def sr.str_inv{i:Str}(h:sr K H (.str i) v):v=.str i:=by unfold sr at h;exact h
def sr.mI{i:Uf}(h:sr K H (.ref i) v):v=.ref i:=by unfold sr at h;exact h
def sr.oi{i:String}(h:sr K H (.ty i) v):v=.ty i:=by unfold sr at h;exact h
def sr.mK{v:V}(h:sr K H .mM v):v=.mM:=by unfold sr at h;exact h
inductive uR where
 | lst (ds:List D)
 | ins (C:Uf) (fs:List (Str×D))
 | dk (kvs:List (rD×D))
 | exc (C:Uf)
abbrev Mp:=Uf->Option uR
noncomputable def pQ(M:Mp)(a:Uf)(c:uR):Mp:=λb=>if b=a then ga c else M b
def pZ:pQ M a c a=ga c:=by unfold pQ;rw[de Z']
def uG{a b:Uf}(h:b≠a):pQ M a c b=M b:=by unfold pQ;rw[cY h]
def se:pQ (pQ M a c) a d=pQ M a d:=by funext b;unfold pQ;split<;>rfl
def RW{M:Mp}{a b:Uf}{c:uR}(h:M a=ga c)(h':M b=Fa):a≠b:=by intro e;subst e;rw[h]at h';cases h'
def Dv(K:qE)(H:Hp)(fs:T0 (Str×D))(vs:T0 (Str×V)):Prop:=vs.map (·.1)=fs.map (·.1)/\qA K H (fs.map (·.2)) (vs.map (·.2))
def yB(K:qE)(H:Hp)(a:Uf):uR->Prop
 | .lst ds=>∃xs,H a=ga (.lst xs)/\qA K H ds xs
 | .ins C fs=>∃dx vs,H a=ga (.ins C dx vs)/\Cls K C/\(∀f,f∈fs.map (·.1)->uL K C f)/\Dv K H fs vs
 | .dk kvs=>∃vs,H a=ga (.dK vs)/\vs.map (·.1)=kvs.map (·.1)/\qA K H (kvs.map (·.2)) (vs.map (·.2))
 | .exc C=>H a=ga (.ext (VT a C))
def HM(K:qE)(H:Hp)(M:Mp):Prop:=∀a c,M a=ga c->yB K H a c
variable {M:Mp}
def Dv.mono(e:rc K H H')(h:Dv K H fs vs):Dv K H' fs vs:=⟨h.1,h.2.mono e⟩
def yB.keep(e:rc K H H')(k:H' a=H a)(h:yB K H a c):yB K H' a c:=by
 cases c with
 | lst ds=>obtain⟨xs,e1,e2⟩:=h;exact⟨xs,by rw[k];exact e1,e2.mono e⟩
 | ins C fs=>obtain⟨dx,vs,e1,c,n,e2⟩:=h;exact⟨dx,vs,by rw[k];exact e1,c,n,e2.mono e⟩
 | dk kvs=>obtain⟨vs,e1,e2,e3⟩:=h;exact⟨vs,by rw[k];exact e1,e2,e3.mono e⟩
 | exc C=>exact k.trans h
def yB.there(h:yB K H a c):∃o,H a=ga o/\(∀xs,¬Rd H a (.tup xs))/\∀u xs,H a≠ga (.frz u (.lst xs)):=by
 have go:∀o,H a=ga o->(∀xs,o≠.tup xs)->(∀u v,o≠.frz u v)->∃o,H a=ga o/\(∀xs,¬Rd H a (.tup xs))/\∀u xs,H a≠ga (.frz u (.lst xs)):=λo e n1 n2=>⟨o,e,λxs q=>by
  rcases q with q|⟨u,q⟩
  .rw[e]at q;exact n1 xs (df q)
  .rw[e]at q;exact n2 u _ (df q),λu xs q=>by rw[e]at q;exact n2 u _ (df q)⟩
 cases c with
 | lst ds=>obtain⟨xs,e1,e2⟩:=h;exact go _ e1 (λ_ z=>by cases z) λ_ _ z=>by cases z
 | ins C fs=>obtain⟨dx,vs,e1,e2⟩:=h;exact go _ e1 (λ_ z=>by cases z) λ_ _ z=>by cases z
 | dk kvs=>obtain⟨vs,e1,e2,e3⟩:=h;exact go _ e1 (λ_ z=>by cases z) λ_ _ z=>by cases z
 | exc C=>exact go _ h (λ_ z=>by cases z) λ_ _ z=>by cases z
def HM.fresh(h:HM K H M){p:Uf}(n:H p=Fa):M p=Fa:=by
 cases e:M p with
 | none=>rfl
 | some c=>obtain⟨o,q,_⟩:=(h p c e).there;rw[n]at q;cases q
def HM.keep(h:HM K H M)(e:rc K H H')(k:∀a c,M a=ga c->H' a=H a):HM K H' M:=λa c q=>(h a c q).keep e (k a c q)
def HM.add(h:HM K H M){p:Uf}{o:HO}(n:H p=Fa):HM K (upd H p o) M:=h.keep (.new n) λa c q=>by obtain⟨u,e,_⟩:=(h a c q).there;rw[qo (rm e n)]
def HM.new(h:HM K H M){p:Uf}{o:HO}{c:uR}(n:H p=Fa)(ok:yB K (upd H p o) p c):HM K (upd H p o) (pQ M p c):=λa d q=>by
 by_cases e:a=p
 .subst e;rw[pZ]at q;cases q;exact ok
 .rw[uG e]at q;exact h.add n a d q
def HM.put(h:HM K H M){p:Uf}{o:HO}{c c0:uR}(e0:M p=ga c0)(ok:rc K H (upd H p o)->yB K (upd H p o) p c):HM K (upd H p o) (pQ M p c)/\rc K H (upd H p o):=by
 obtain⟨u,eu,nt,nf⟩:=(h p c0 e0).there;have x:rc K H (upd H p o):=.upd nt nf;refine⟨λa d q=>?_,x⟩;by_cases e:a=p
 .subst e;rw[pZ]at q;cases q;exact ok x
 .rw[uG e]at q;exact(h a d q).keep x (qo e)
abbrev St:=L2.St
abbrev vV:=T0 (Option D)
abbrev DK:=D->Mp->Prop
abbrev T3:=vV->Mp->DK->Prop
abbrev Bf:=vV->Mp->(Bool->Mp->Prop)->Prop
abbrev xt:=vV->Mp->(T0 D->Mp->Prop)->Prop
structure Hl where
 nx:vV->Mp->Prop
 rt:DK
 bk:vV->Mp->Prop:=λ_ _=>False
 ct:vV->Mp->Prop:=λ_ _=>False
abbrev xU:=Hl->vV->Mp->Prop
def AC(K:qE)(H:Hp)(Y:St)(U:vV):Prop:=∀(i:Nat) (d:D),U[i]?=ga (ga d)->∃v,Y[i]?=ga (ga v)/\sr K H d v
def AC.mono{K:qE}(e:rc K H H')(h:AC K H Y U):AC K H' Y U:=λi d q=>by obtain⟨v,e1,e2⟩:=h i d q;exact⟨v,e1,e2.mono e⟩
def AC.set{K:qE}{i:Nat}(h:AC K H Y U)(hv:sr K H d v)(hi:i<Y.length):AC K H (Y.set i (ga v)) (U.set i (ga d)):=λj e q=>by
 by_cases hj:j=i
 .subst hj;rw[fE hi];by_cases hl:j<U.length
  .rw[fE hl]at q;cases q;exact⟨v,Z',hv⟩
  .rw[fK (by simpa using hl)]at q;cases q
 .rw[fD (dW hj)]at q ⊢;exact h j e q
def lo(K:qE)(t:T3):TE:=λY H Q'=>Ed λU M Q=>AC K H Y U/\HM K H M/\t U M Q/\∀v H' d M',sr K H' d v->HM K H' M'->rc K H H'->Q d M'->Q' v H'
def Vk(K:qE)(t:Bf):TT:=λY H Q'=>Ed λU M Q=>AC K H Y U/\HM K H M/\t U M Q/\∀b H' M',HM K H' M'->rc K H H'->Q b M'->Q' b H'
def Yo(K:qE)(t:xt):TA:=λY H Q'=>Ed λU M Q=>AC K H Y U/\HM K H M/\t U M Q/\∀vs H' ds M',qA K H' ds vs->HM K H' M'->rc K H H'->Q ds M'->Q' vs H'
def W4(K:qE)(t:xU):TS:=λD' Y H=>Ed λU M D=>AC K H Y U/\HM K H M/\t D U M/\(∀σ' H' δ' M',AC K H' σ' δ'->HM K H' M'->rc K H H'->σ'.length=Y.length->D.nx δ' M'->D'.nx σ' H')/\
 (∀v H' d M',sr K H' d v->HM K H' M'->rc K H H'->D.rt d M'->D'.rt v H')/\(∀σ' H' δ' M',AC K H' σ' δ'->HM K H' M'->rc K H H'->σ'.length=Y.length->D.bk δ' M'->D'.bk σ' H')/\
 (∀σ' H' δ' M',AC K H' σ' δ'->HM K H' M'->rc K H H'->σ'.length=Y.length->D.ct δ' M'->D'.ct σ' H')
def E3(X:Cx)(e:zn)(t:T3):Prop:=PE X e (lo X.K t)
def B3(X:Cx)(e:zn)(t:Bf):Prop:=PT X e (Vk X.K t)
def A3(X:Cx)(es:T0 zn)(t:xt):Prop:=PA X es (Yo X.K t)
def S3(X:Cx)(st:TD)(t:xU):Prop:=PS X st (W4 X.K t)
def Ig(X:Cx)(st:T0 TD)(t:xU):Prop:=Dh X st (W4 X.K t)
def PE.mono{t t':TE}(h:PE X e t)(m:∀Y H Q,t' Y H Q->t Y H Q):PE X e t':=λYL s Y H Q I q=>h YL s Y H Q I (m Y H Q q)
def PT.mono{t t':TT}(h:PT X e t)(m:∀Y H Q,t' Y H Q->t Y H Q):PT X e t':=λYL s Y H Q I q=>h YL s Y H Q I (m Y H Q q)
def PA.mono{t t':TA}(h:PA X e t)(m:∀Y H Q,t' Y H Q->t Y H Q):PA X e t':=λpos YL s Y H Q I q=>h pos YL s Y H Q I (m Y H Q q)
def PS.mono{t t':TS}(h:PS X e t)(m:∀D Y H,t' D Y H->t D Y H):PS X e t':=λYL s Y H D I q=>h YL s Y H D I (m D Y H q)
def Dh.mono{t t':TS}(h:Dh X e t)(m:∀D Y H,t' D Y H->t D Y H):Dh X e t':=λYL s Y H D I q=>h YL s Y H D I (m D Y H q)
def PS.nV{t t':TS}(h:PS X e t)(m:∀D Y H,Y.length=X.N.length->t' D Y H->t D Y H):PS X e t':=λYL s Y H D I q=>h YL s Y H D I (m D Y H I.len q)
def wc{K:qE}{Q':VK}{Q:DK}(x:rc K H H1)(f:∀v H' d M',sr K H' d v->HM K H' M'->rc K H H'->Q d M'->Q' v H'):∀v H' d M',sr K H' d v->HM K H' M'->rc K H1 H'->Q d M'->Q' v H':=
 λv H' d M' a b c e=>f v H' d M' a b (x.trans c) e
variable {X:Cx}{pos:Pos}
def v3(i:Nat):T3:=λU M Q=>(U.getD i Fa).elim False λd=>Q d M
def KY{U:vV}{i:Nat}{P:D->Prop}(h:(U.getD i Fa).elim False P):∃d,U[i]?=ga (ga d)/\P d:=by
 cases e:U[i]? with
 | none=>rw[fB,e]at h;exact h.elim
 | some o=>
  rw[fB,e]at h;cases o with
  | none=>exact h.elim
  | some d=>exact⟨d,Z',h⟩
def SX(i:Nat){x:Str}(h:PE X (.Name x pos) (Jy i)):E3 X (.Name x pos) (v3 i):=PE.mono h λY H Q' zz=>x7 zz λU M Q hs hm ht k=>by obtain⟨d,e,q⟩:=KY ht;obtain⟨v,e1,e2⟩:=hs i d e;exact⟨v,e1,k v H d M e2 hm .refl q⟩
def c3(d:D):T3:=λ_ M Q=>Q d M
def pJ{i j}:E3 X (.Constant (.int i) j pos) (c3 (.int i)):=PE.mono U' λY H Q' zz=>x7 zz λU M Q hs hm ht k=>k _ H _ M .int hm .refl ht
def yW{i j}:E3 X (.Constant (.bool i) j pos) (c3 (.bl i)):=PE.mono Wd λY H Q' zz=>x7 zz λU M Q hs hm ht k=>k _ H _ M .bl hm .refl ht
def pK{i j}:E3 X (.Constant (.str i) j pos) (c3 (.str i)):=PE.mono Tt λY H Q' zz=>x7 zz λU M Q hs hm ht k=>k _ H _ M .str hm .refl ht
def sv{j}:E3 X (.Constant .none j pos) (c3 .mM):=PE.mono T5 λY H Q' zz=>x7 zz λU M Q hs hm ht k=>k _ H _ M .mM hm .refl ht
noncomputable def oP(M:Mp)(a:Uf):Option (T0 D):=match M a with
 | some (.lst ds)=>ga ds
 | _=>Fa
noncomputable def zF(x:Str)(n:Int):Str:=⟨(List.replicate n.toNat x.cps).foldl (·++·) #[]⟩
def W7(op:XYc)(x y:D)(M:Mp)(Q:DK):Prop:=match op,x,y with
 | .Add,.int i,.int j=>Q (.int (i+j)) M
 | .Add,.str i,.str j=>i.length+j.length<=Ch/\Q (.str (i++j)) M
 | .Add,.tup i,.tup j=>i≠[]/\i.length+j.length<=Ch/\Q (.tup (i++j)) M
 | .Add,.ref a,.ref b=>(oP M a).elim False λi=>(oP M b).elim False λj=>i.length+j.length<=Ch/\∀p,M p=Fa->Q (.ref p) (pQ M p (.lst (i++j)))
 | .Add,.rl i,.ref b=>(oP M b).elim False λj=>i.length+j.length<=Ch/\∀p,M p=Fa->Q (.ref p) (pQ M p (.lst (i++j)))
 | .Sub,.int i,.int j=>Q (.int (i - j)) M
 | .Mult,.int i,.int j=>D4 i j/\Q (.int (i*j)) M
 | .Mult,.str i,.int j=>(j<4096/\-4096<j/\i.length<4096)/\Q (.str (zF i j)) M
 | .FloorDiv,.int i,.int j=>Wl i j/\Q (.int (i / j)) M
 | .Mod,.int i,.int j=>0<j/\Q (.int (i % j)) M
 | _,_,_=>False
def o3(op:XYc)(ta tb:T3):T3:=λU M Q=>ta U M λx M1=>tb U M1 λy M2=>W7 op x y M2 Q
def Up(K:qE)(H:Hp)(Q':VK)(Q:DK):Prop:=∀v H' d M',sr K H' d v->HM K H' M'->rc K H H'->Q d M'->Q' v H'
variable {ta tb:T3}
section
def qp{K:qE}{ds:T0 D}(hm:HM K H M)(h:oP M a=ga ds):∃xs,xV K H a xs/\qA K H ds xs/\Rd H a (.lst xs):=by
 unfold oP at h;cases e:M a with
 | none=>rw[e]at h;cases h
 | some c=>
  rw[e]at h;have ok:=hm a c e;cases c with
  | lst es=>cases h;obtain⟨xs,e1,e2⟩:=ok;exact⟨xs,.inl (.inl e1),e2,.inl e1⟩
  | ins _ _=>cases h
  | dk _=>cases h
  | exc _=>cases h
def rE{α:Type}{o:Option α}{P:α->Prop}(h:o.elim False P):∃a,o=ga a/\P a:=by
 cases o with
 | none=>exact h.elim
 | some a=>exact⟨a,Z',h⟩
def JC:xX X (wS .Add) (λx y H Q=>∃l b xs zs,x=.ref l/\y=.ref b/\xV X.K H l xs/\xV X.K H b zs/\xs.length+zs.length<=Ch/\∀p,H p=Fa->Q (.ref p) (upd H p (.lst (xs++zs)))):=by
 intro YL s Y H x y v u Q I rx ry h;obtain⟨l,b,xs,zs,rfl,rfl,hH,hB,hz,q⟩:=h;cases rx;cases ry;obtain⟨its,r,⟨⟨c1,d1,t1,sl1⟩,n,g1,e1,_,f1⟩,_⟩:=I.list hH;obtain⟨jts,r2,⟨⟨c2,d2,t2,sl2⟩,m,g2,e2,_,f2⟩,_⟩:=I.list hB;simp only at e1 f1 e2 f2;subst e1 f1 e2 f2;have hl:=r.length;have hl2:=r2.length;refine kT ⟨_,g1,Z'⟩ ⟨_,g2,Z'⟩ noFill_list_add seq_list_add PySem.F.slot_list_add PySem.F.entry_list_add (PySem.F.args_list_add_2 _ _) (list_addW l b its.toArray jts.toArray n m d1 d2 sl1 sl2 (by rw[dw,dw];lia)) ⟨g1,g2,?_⟩;have ea:its.toArray++jts.toArray=(its++jts).toArray:=by simp
 rw[ea];exact⟨.ref _,_,I.oX (t':=s.toks) (r.append r2) (by rw[cW];lia),Z',q _ I.fresh⟩
def Kq(x:Array Nat):∀k,((List.replicate k x).foldl (·++·) #[]:Array Nat).size=k*x.size:=by
 have go:∀(k:Nat) (acc:Array Nat),((List.replicate k x).foldl (·++·) acc).size=acc.size+k*x.size:=by
  intro k;induction k with
  | zero=>intro acc;simp
  | succ k ih=>intro acc;rw[eI,fY,ih,Array.size_append,mx];lia
 intro k;rw[go];simp
def PC:xX X (wS .Mult) (λx y H Q=>∃i j,x=.str i/\y=.int j/\(j<4096/\-4096<j/\i.length<4096)/\Q (.str (zF i j)) H):=by
 intro YL s Y H x y v u Q I rx ry h;obtain⟨i,j,rfl,rfl,⟨h1,h2,h3⟩,q⟩:=h;obtain⟨t,rfl⟩:=rx;obtain⟨t',rfl⟩:=ry;refine PySem.P.mul_str ?_ ?_ ?_ ?_
 .rw[eQ (by lia),eQ (by lia)];rfl
 .intro h0 _;have:(4096:Int)<=(2 ^ 63 - 1) / j:=by
   have:(4096:Int)*j<=2 ^ 63 - 1:=by lia
   exact(Int.le_ediv_iff_mul_le (by lia)).mpr this
  lia
 .intro h0 _;have hm:i.length*j.toNat<=4096*4096:=kh (by lia) (by lia);have hz:=dM;unfold Builtin.Str.tooLong;exact eQ (by lia)
 .by_cases h0:j<1
  .rw[de h0];have e:zF i j=Str.empty:=by unfold zF;rw[show j.toNat=0 by lia];rfl
   rw[e]at q;exact⟨by decide,⟨.str Str.empty,H,I.tok _,⟨_,Z'⟩,q⟩⟩
  .rw[cY h0];by_cases hj:(j==1||i.length==0)=Db
   .rw[de hj];have e:zF i j=i:=by
     have hj':j=1\/i.length=0:=by simpa using hj
     unfold zF;rcases hj' with z|z
     .subst z;show(⟨#[]++i.cps⟩:Str)=i;simp
     .have ec:i.cps=#[]:=Array.size_eq_zero_iff.mp z;have er:∀k:Nat,((List.replicate k (#[]:Array Nat)).foldl (·++·) #[]:Array Nat)=#[]:=by
       intro k;induction k with
       | zero=>rfl
       | succ k ih=>rw[eI,fY];simpa using ih
      rw[ec,er,<-ec]
    rw[e]at q;exact⟨.str i,H,I,⟨t,Z'⟩,q⟩
   .rw[cY hj];refine⟨?_,⟨.str _,H,I.tok _,⟨_,Z'⟩,q⟩⟩;have hz:=dM;have hm:j.toNat*i.length<=4096*4096:=kh (by lia) (by lia);show((List.replicate j.toNat i.cps).foldl (·++·) #[]:Array Nat).size<=_;rw[Kq];have hm':j.toNat*i.cps.size<=4096*4096:=hm;lia
def R3(K:qE)(f:D->D->Mp->DK->Prop):R2:=λvx vy H Q'=>BO λx y M Q=>sr K H x vx/\sr K H y vy/\HM K H M/\f x y M Q/\Up K H Q' Q
def YA(op:XYc):xX X (wS op) (R3 X.K (W7 op)):=by
 intro YL s Y H vx vy v u Q' I rx ry h;obtain⟨x,y,M,Q,hx,hy,hm,q,k⟩:=h;unfold W7 at q;split at q
 .cases hx.int_inv;cases hy.int_inv;exact SS YL s Y H _ _ v u Q' I rx ry ⟨_,_,Z',Z',k _ _ _ _ .int hm .refl q⟩
 .cases hx.str_inv;cases hy.str_inv;exact IE YL s Y H _ _ v u Q' I rx ry ⟨_,_,Z',Z',q.1,k _ _ _ _ .str hm .refl q.2⟩
 .rename_i i j;obtain⟨q1,q2,q3⟩:=q;obtain⟨a,xs,rfl,ha,ha'⟩:=hx.mQ;obtain⟨b,ys,rfl,hb,ZG⟩:=hy.mQ;have l1:=ha'.length;have l2:=ZG.length;refine QN YL s Y H _ _ v u Q' I rx ry ⟨a,b,xs,ys,Z',Z',ha,hb,λz=>q1 (by rw[z]at l1;exact gu.mp l1),by lia,λz=>?_,λz p hp=>?_⟩
  .refine k _ _ _ _ (.tup ha ?_) hm .refl q3;rw[z]at ZG;have e0:j=[]:=gu.mp (by simpa using ZG.length);rw[e0,eG];exact ha'
  .have e:rc X.K H (upd H p (.tup (xs++ys))):=.new hp;exact k _ _ _ _ (.tup (.of qz) ((ha'.append ZG).mono e)) (hm.add hp) e q3
 .obtain⟨i,ei,q⟩:=rE q;obtain⟨j,ej,q1,q2⟩:=rE q;cases hx.mI;cases hy.mI;obtain⟨xs,rx',hxs,_⟩:=qp hm ei;obtain⟨ys,ry',hys,_⟩:=qp hm ej;have l1:=hxs.length;have l2:=hys.length;refine JC YL s Y H _ _ v u Q' I rx ry ⟨_,_,xs,ys,Z',Z',rx',ry',by lia,λp hp=>?_⟩;have e:rc X.K H (upd H p (.lst (xs++ys))):=.new hp;exact k _ _ _ _ .ref (hm.new (c:=.lst (i++j)) hp ⟨_,qz,(hxs.append hys).mono e⟩) e (q2 p (hm.fresh hp))
 .obtain⟨j,ej,q1,q2⟩:=rE q;obtain⟨l,xs,rfl,rx',hxs⟩:=hx.m8;cases hy.mI;obtain⟨ys,ry',hys,_⟩:=qp hm ej;have l1:=hxs.length;have l2:=hys.length;refine JC YL s Y H _ _ v u Q' I rx ry ⟨_,_,xs,ys,Z',Z',rx'.sq,ry',by lia,λp hp=>?_⟩;have e:rc X.K H (upd H p (.lst (xs++ys))):=.new hp;exact k _ _ _ _ .ref (hm.new (c:=.lst (_++j)) hp ⟨_,qz,(hxs.append hys).mono e⟩) e (q2 p (hm.fresh hp))
 .cases hx.int_inv;cases hy.int_inv;exact SZ YL s Y H _ _ v u Q' I rx ry ⟨_,_,Z',Z',k _ _ _ _ .int hm .refl q⟩
 .cases hx.int_inv;cases hy.int_inv;exact S0 YL s Y H _ _ v u Q' I rx ry ⟨_,_,Z',Z',q.1,k _ _ _ _ .int hm .refl q.2⟩
 .cases hx.str_inv;cases hy.int_inv;exact PC YL s Y H _ _ v u Q' I rx ry ⟨_,_,Z',Z',q.1,k _ _ _ _ .str hm .refl q.2⟩
 .cases hx.int_inv;cases hy.int_inv;exact PJ YL s Y H _ _ v u Q' I rx ry ⟨_,_,Z',Z',q.1,k _ _ _ _ .int hm .refl q.2⟩
 .cases hx.int_inv;cases hy.int_inv;exact TN YL s Y H _ _ v u Q' I rx ry ⟨_,_,Z',Z',q.1,k _ _ _ _ .int hm .refl q.2⟩
 .exact q.elim
variable {a b:zn}
def IX{f:D->D->Mp->DK->Prop}:∀Y H Q',lo X.K (λU M Q=>ta U M λx M1=>tb U M1 λy M2=>f x y M2 Q) Y H Q'->VI (R3 X.K f) (lo X.K ta) (lo X.K tb) Y H Q':=λY H Q' zz=>x7 zz λU M Q hs hm ht k=>⟨U,M,_,hs,hm,ht,λv H1 x M1 hx YN e1 q1=>⟨U,M1,_,hs.mono e1,YN,q1,λu H2 y M2 hy Y9 e2 q2=>⟨x,y,M2,Q,hx.mono e2,hy,Y9,q2,wc (e1.trans e2) k⟩⟩⟩
def qk(ha:E3 X a ta)(hb:E3 X b tb):E3 X (.BinOp a op b pos) (o3 op ta tb):=PE.mono (Sf (YA op) ha hb) IX
end
noncomputable def qQ(f:D->D->Option Bool):T0 D->T0 D->Option Bool
 | x::a,y::b=>(f x y).bind λp=>(qQ f a b).map λq=>p&&q
 | _,_=>ga Db
noncomputable def we(M:Mp):Nat->D->D->Option Bool
 | 0,_,_=>Fa
 | n+1,x,y=>match x,y with
  | .mM,.mM=>ga Db
  | .bl a,.bl b=>ga (a==b)
  | .int a,.int b=>ga (a==b)
  | .str a,.str b=>ga (a==b)
  | .mM,.bl _=>ga pc
  | .mM,.int _=>ga pc
  | .mM,.str _=>ga pc
  | .bl _,.mM=>ga pc
  | .bl _,.str _=>ga pc
  | .int _,.mM=>ga pc
  | .int _,.str _=>ga pc
  | .str _,.mM=>ga pc
  | .str _,.bl _=>ga pc
  | .str _,.int _=>ga pc
  | .tup a,.tup b=>(qQ (we M n) a b).map λp=>p&&a.length==b.length
  | .ref a,.ref b=>(oP M a).bind λi=>(oP M b).bind λj=>if i.length=j.length then qQ (we M n) i j else ga pc
  | _,_=>Fa
variable {YL:T0 (Uf × Obj)}{Y:St}{s:Sd}
theorem zw{f:D->D->Option Bool}:∀{ds es:T0 D} {xs:T0 V} {b:Bool},qA X.K H ds xs->qA X.K H es xs->(∀x y v b,sr X.K H x v->sr X.K H y v->f x y=ga b->b=Db)->qQ f ds es=ga b->b=Db
 | [],[],_,_,_,_,_,e=>(df e).symm
 | [],_::_,_,_,h,g,_,_=>by have h1:=h.length;have h2:=g.length;rw[<-h1]at h2;simp at h2
 | _::_,[],_,_,h,g,_,_=>by have h1:=h.length;have h2:=g.length;rw[<-h1]at h2;simp at h2
 | d::ds,e::es,xs,b,h,g,k,q=>by
  obtain⟨x,r,rfl,h1,h2⟩:=h.inv;obtain⟨x',r',e',g1,g2⟩:=g.inv;cases e';unfold qQ at q;cases p1:f d e with
  | none=>rw[p1]at q;cases q
  | some b1=>
   rw[p1]at q;cases p2:qQ f ds es with
   | none=>rw[p2]at q;cases q
   | some b2=>rw[p2]at q;have q':(b1&&b2)=b:=df q;rw[<-q',k _ _ _ _ h1 g1 p1,zw h2 g2 k p2];rfl
theorem zN(I:Inv X YL Y H s)(hm:HM X.K H M):∀(n:Nat) (x y:D) (v:V) (b:Bool),sr X.K H x v->sr X.K H y v->we M n x y=ga b->b=Db
 | 0,_,_,_,_,_,_,e=>by cases e
 | n+1,x,y,v,b,hx,hy,e=>by
  unfold we at e;split at e
  .exact(df e).symm
  .rw[hx.mL]at hy;cases hy.mL;exact(df e).symm.trans (by simp)
  .rw[hx.int_inv]at hy;cases hy.int_inv;exact(df e).symm.trans (by simp)
  .rw[hx.str_inv]at hy;cases hy.str_inv;exact(df e).symm.trans (by simp)
  .rw[hx.mK]at hy;cases hy.mL
  .rw[hx.mK]at hy;cases hy.int_inv
  .rw[hx.mK]at hy;cases hy.str_inv
  .rw[hx.mL]at hy;cases hy.mK
  .rw[hx.mL]at hy;cases hy.str_inv
  .rw[hx.int_inv]at hy;cases hy.mK
  .rw[hx.int_inv]at hy;cases hy.str_inv
  .rw[hx.str_inv]at hy;cases hy.mK
  .rw[hx.str_inv]at hy;cases hy.mL
  .rw[hx.str_inv]at hy;cases hy.int_inv
  .obtain⟨a,xs,rfl,h1,h2⟩:=hx.mQ;obtain⟨a',ys,e',g1,g2⟩:=hy.mQ;cases e';rw[I.nq g1 h1]at g2;cases p:qQ (we M n) _ _ with
   | none=>rw[p]at e;cases e
   | some b1=>rw[p]at e;have e':=df e;rw[<-e',zw h2 g2 (zN I hm n) p,h2.length,g2.length];simp
  .rw[hx.mI]at hy;cases hy.mI;cases p:oP M _ with
   | none=>rw[p]at e;cases e
   | some i=>rw[p]at e;have e:(if i.length=i.length then qQ (we M n) i i else ga pc)=ga b:=e;rw[de Z']at e;obtain⟨xs,_,h2,_⟩:=qp hm p;exact zw h2 h2 (zN I hm n) e
  .cases e
theorem CW{A:Ar}:∀{ds es:T0 D} {xs ys:T0 V} {us ws:T0 Vl} {b:Bool},qQ f ds es=ga b->qA X.K H ds xs->qA X.K H es ys->qK xs us->qK ys ws->
  (∀x y b vx vy u w,f x y=ga b->sr X.K H x vx->sr X.K H y vy->rj vx u->rj vy w->SeqAt.EqAt A s u w b)->
  ∃e:Nat->Bool,(∀j (h1:j<us.length) (h2:j<ws.length),SeqAt.EqAt A s us[j] ws[j] (e j))/\(List.range (min us.length ws.length)).all e=b
 | [],es,xs,ys,us,ws,b,q,hx,hy,rx,ry,k=>by
  have e1:=hx.nil_inv;subst e1;cases rx;refine⟨λ_=>Db,λj h1=>absurd h1 (by simp),?_⟩;have q':ga Db=ga b:=by cases es<;>exact q
  simpa using(df q')
 | d::ds,[],xs,ys,us,ws,b,q,hx,hy,rx,ry,k=>by
  have e1:=hy.nil_inv;subst e1;cases ry;refine⟨λ_=>Db,λj _ h2=>absurd h2 (by simp),?_⟩;have q':ga Db=ga b:=q
  simpa using(df q')
 | d::ds,e::es,xs,ys,us,ws,b,q,hx,hy,rx,ry,k=>by
  obtain⟨x,r,rfl,h1,h2⟩:=hx.inv;obtain⟨y,r',rfl,g1,g2⟩:=hy.inv;cases rx with
  | cons r1 r2=>
   cases ry with
   | cons t1 t2=>
    unfold qQ at q;cases p1:f d e with
    | none=>rw[p1]at q;cases q
    | some b1=>
     rw[p1]at q;cases p2:qQ f ds es with
     | none=>rw[p2]at q;cases q
     | some b2=>
      rw[p2]at q;have q':(b1&&b2)=b:=df q;obtain⟨e',he,ha⟩:=CW p2 h2 g2 r2 t2 k;refine⟨λj=>match j with|0=>b1|j+1=>e' j,λj l1 l2=>?_,?_⟩
      .cases j with
       | zero=>exact k _ _ _ _ _ _ _ p1 h1 g1 r1 t1
       | succ j=>exact he j (by simpa using l1) (by simpa using l2)
      .rw[<-q',<-ha];simp only[d4];rw[Nat.succ_min_succ,j9,fG,jL];rfl
theorem Gp(I:Inv X YL Y H s)(hm:HM X.K H M):∀(n:Nat) (A:Ar) (x y:D) (b:Bool) (vx vy:V) (u w:Vl),A.units+n<XXa->we M n x y=ga b->sr X.K H x vx->sr X.K H y vy->rj vx u->rj vy w->
  SeqAt.RcAt A s u w b/\SeqAt.EqAt A s u w b/\SeqAt.RcNeAt A s u w (!b)
 | 0,_,_,_,_,_,_,_,_,_,e,_,_,_,_=>by cases e
 | n+1,A,x,y,b,vx,vy,u,w,hu,e,hx,hy,rx,ry=>by
  have hu1:A.units<XXa:=by lia
  have hui:A.in1.units+n<XXa:=by show A.units+1+n<XXa;lia
  unfold we at e;split at e
  .cases hx.mK;cases hy.mK;cases rx;cases ry;cases e;exact⟨.none_none,.same _,.none_none⟩
  .cases hx.mL;cases hy.mL;cases rx;cases ry;cases e;exact⟨.bool_bool _ _,.bool_bool _ _,.bool_bool _ _⟩
  .cases hx.int_inv;cases hy.int_inv;obtain⟨t,rfl⟩:=rx;obtain⟨t',rfl⟩:=ry;cases e;exact⟨.int_int _ _ _ _,.int_int _ _ _ _,.int_int _ _ _ _⟩
  .cases hx.str_inv;cases hy.str_inv;obtain⟨t,rfl⟩:=rx;obtain⟨t',rfl⟩:=ry;cases e;exact⟨.str_str _ _ _ _,.str_str _ _ _ _,.str_str _ _ _ _⟩
  .cases hx.mK;cases hy.mL;cases rx;cases ry;cases e;exact⟨.none_bool _,.none_bool _,.none_bool _⟩
  .cases hx.mK;cases hy.int_inv;cases rx;obtain⟨t',rfl⟩:=ry;cases e;exact⟨.none_int _ _,.none_int _ _,.none_int _ _⟩
  .cases hx.mK;cases hy.str_inv;cases rx;obtain⟨t',rfl⟩:=ry;cases e;exact⟨.none_str _ _,.none_str _ _,.none_str _ _⟩
  .cases hx.mL;cases hy.mK;cases rx;cases ry;cases e;exact⟨.bool_none _,.bool_none _,.bool_none _⟩
  .cases hx.mL;cases hy.str_inv;cases rx;obtain⟨t',rfl⟩:=ry;cases e;exact⟨.bool_str _ _ _,.bool_str _ _ _,.bool_str _ _ _⟩
  .cases hx.int_inv;cases hy.mK;obtain⟨t,rfl⟩:=rx;cases ry;cases e;exact⟨.int_none _ _,.int_none _ _,.int_none _ _⟩
  .cases hx.int_inv;cases hy.str_inv;obtain⟨t,rfl⟩:=rx;obtain⟨t',rfl⟩:=ry;cases e;exact⟨.int_str _ _ _ _,.int_str _ _ _ _,.int_str _ _ _ _⟩
  .cases hx.str_inv;cases hy.mK;obtain⟨t,rfl⟩:=rx;cases ry;cases e;exact⟨.str_none _ _,.str_none _ _,.str_none _ _⟩
  .cases hx.str_inv;cases hy.mL;obtain⟨t,rfl⟩:=rx;cases ry;cases e;exact⟨.str_bool _ _ _,.str_bool _ _ _,.str_bool _ _ _⟩
  .cases hx.str_inv;cases hy.int_inv;obtain⟨t,rfl⟩:=rx;obtain⟨t',rfl⟩:=ry;cases e;exact⟨.str_int _ _ _ _,.str_int _ _ _ _,.str_int _ _ _ _⟩
  .rename_i da db;obtain⟨a1,xs,rfl,h1,h2⟩:=hx.mQ;obtain⟨a2,ys,rfl,g1,g2⟩:=hy.mQ;cases rx;cases ry;obtain⟨us,r1,p1,_⟩:=I.tuple h1;obtain⟨ws,r2,p2,_⟩:=I.tuple g1;cases p:qQ (we M n) da db with
   | none=>rw[p]at e;cases e
   | some b1=>
    have e0:=e;rw[p]at e;have e':(b1&&da.length==db.length)=b:=df e;obtain⟨f,hf,ha⟩:=CW (A:=A.in1) (s:=s) p h2 g2 r1 r2 λx y b vx vy u w q1 q2 q3 q4 q5=>(Gp I hm n A.in1 x y b vx vy u w hui q1 q2 q3 q4 q5).2.1;have hb:((List.range (min us.toArray.size ws.toArray.size)).all f&&us.toArray.size==ws.toArray.size)=b:=by rw[dw,dw,ha,<-e',<-r1.length,<-r2.length,h2.length,g2.length]
    have hf':∀j (l1:j<us.toArray.size) (l2:j<ws.toArray.size),SeqAt.EqAt A.in1 s us.toArray[j] ws.toArray[j] (f j):=λj l1 l2=>by simpa using hf j (by simpa using l1) (by simpa using l2)
    have c1:SeqAt.RcAt A s (.ref a1) (.ref a2) b:=by rw[<-hb];exact .tuples p1 p2 hu1 hf'
    have c3:SeqAt.RcNeAt A s (.ref a1) (.ref a2) (!b):=by have:=SeqAt.RcNeAt.tuples p1 p2 hu1 hf';rw[hb]at this;exact this
    refine⟨c1,?_,c3⟩;by_cases ea:a1=a2
    .subst ea;have:b=Db:=zN I hm (n+1) (.tup da) (.tup db) (.ref a1) b hx hy (by unfold we;exact e0);rw[this];exact .same _
    .exact .of_refs ea c1
  .cases hx.mI;cases hy.mI;cases rx;cases ry;rename_i a1 a2;have e0:=e;cases p:oP M a1 with
   | none=>rw[p]at e;cases e
   | some i=>
    cases p':oP M a2 with
    | none=>rw[p,p']at e;cases e
    | some j=>
     rw[p,p']at e;have e:(if i.length=j.length then qQ (we M n) i j else ga pc)=ga b:=e;obtain⟨xs,q1,h2,_⟩:=qp hm p;obtain⟨ys,q2,g2,_⟩:=qp hm p';obtain⟨us,r1,p1,_⟩:=I.list q1;obtain⟨ws,r2,p2,_⟩:=I.list q2;have YR:SeqAt.RcAt A s (.ref a1) (.ref a2) b/\SeqAt.RcNeAt A s (.ref a1) (.ref a2) (!b):=by
      by_cases hl:i.length=j.length
      .rw[de hl]at e;obtain⟨f,hf,ha⟩:=CW (A:=A.in1) (s:=s) e h2 g2 r1 r2 λx y b vx vy u w q1 q2 q3 q4 q5=>(Gp I hm n A.in1 x y b vx vy u w hui q1 q2 q3 q4 q5).2.1;have hsz:us.toArray.size=ws.toArray.size:=by rw[dw,dw,<-r1.length,<-r2.length,<-h2.length,<-g2.length];exact hl
       have hf':∀j (l1:j<us.toArray.size) (l2:j<ws.toArray.size),SeqAt.EqAt A.in1 s us.toArray[j] ws.toArray[j] (f j):=λj l1 l2=>by simpa using hf j (by simpa using l1) (by simpa using l2)
       have hb:(List.range us.toArray.size).all f=b:=by rw[<-ha];rw[dw,dw]at hsz;rw[dw,<-hsz,my]
       rw[<-hb];exact⟨.lists p1.isList p2.isList hsz hu1 hf',.lists p1.isList p2.isList hsz hu1 hf'⟩
      .rw[cY hl]at e;cases e;have hsz:(us.toArray.size != ws.toArray.size)=Db:=by
        rw[dw,dw,<-r1.length,<-r2.length,<-h2.length,<-g2.length]
        simpa using hl
       exact⟨.lists_lengths p1.isList p2.isList hsz hu1,.lists_lengths p1.isList p2.isList hsz hu1⟩
     refine⟨YR.1,?_,YR.2⟩;by_cases ea:a1=a2
     .subst ea;have:b=Db:=zN I hm (n+1) (.ref a1) (.ref a1) (.ref a1) b .ref .ref (by unfold we;exact e0);rw[this];exact .same _
     .exact .of_refs ea YR.1
  .cases e
noncomputable def vw:D->Bool
 | .mM=>Db
 | .bl _=>Db
 | .int _=>Db
 | .str _=>Db
 | _=>pc
noncomputable def Qb:D->D->Bool
 | .mM,.mM=>Db
 | .bl a,.bl b=>a==b
 | .bl a,.int b=>(if a then 1 else 0)==b
 | .int a,.bl b=>a==(if b then 1 else 0)
 | .int a,.int b=>a==b
 | .str a,.str b=>a==b
 | _,_=>pc
noncomputable def inD(x:D)(ds:T0 D):Bool:=ds.any λy=>Qb y x
noncomputable def NY(M:Mp):D->Option (T0 D)
 | .tup ds=>ga ds
 | .ref a=>oP M a
 | .rl ds=>ga ds
 | _=>Fa
noncomputable def DY(i j:Str):Bool:=!(Builtin.Str.occurrences j i 0 j.length 1).isEmpty
def TC(neg:Bool)(x y:D)(M:Mp)(Q:DK):Prop:=match x,y with
 | .str i,.str j=>Q (.bl (if neg then !DY i j else DY i j)) M
 | _,_=>(NY M y).elim False λds=>vw x=Db/\ds.all vw=Db/\Q (.bl (if neg then !inD x ds else inD x ds)) M
def KZ(op:CmpOp)(x y:D)(M:Mp)(Q:DK):Prop:=match op with
 | .Eq=>(we M 9 x y).elim False λb=>Q (.bl b) M
 | .NotEq=>(we M 9 x y).elim False λb=>Q (.bl (!b)) M
 | .Lt=>match x,y with|.int i,.int j=>Q (.bl (decide (i<j))) M|_,_=>False
 | .LtE=>match x,y with|.int i,.int j=>Q (.bl (decide (i<=j))) M|_,_=>False
 | .Gt=>match x,y with|.int i,.int j=>Q (.bl (decide (j<i))) M|_,_=>False
 | .GtE=>match x,y with|.int i,.int j=>Q (.bl (decide (j<=i))) M|_,_=>False
 | .Is=>match y with|.mM=>Q (.bl (match x with|.mM=>Db|_=>pc)) M|_=>False
 | .IsNot=>match y with|.mM=>Q (.bl (match x with|.mM=>pc|_=>Db)) M|_=>False
 | .In=>TC pc x y M Q
 | .NotIn=>TC Db x y M Q
def k3(op:CmpOp)(ta tb:T3):T3:=λU M Q=>ta U M λx M1=>tb U M1 λy M2=>KZ op x y M2 Q
def Ah(h:sr K H d v)(f:vw d=Db):yV v=Db:=by
 cases d with
 | mM=>rw[h.mK];rfl
 | bl _=>rw[h.mL];rfl
 | int _=>rw[h.int_inv];rfl
 | str _=>rw[h.str_inv];rfl
 | _=>cases f
def JQ(h:sr K H d v)(g:sr K H e w)(f:vw d=Db)(f':vw e=Db):Pw v w=Qb d e:=by
 cases d with
 | mM=>
  rw[h.mK];cases e with
  | mM=>rw[g.mK];rfl
  | bl _=>rw[g.mL];rfl
  | int _=>rw[g.int_inv];rfl
  | str _=>rw[g.str_inv];rfl
  | _=>cases f'
 | bl _=>
  rw[h.mL];cases e with
  | mM=>rw[g.mK];rfl
  | bl _=>rw[g.mL];rfl
  | int _=>rw[g.int_inv];rfl
  | str _=>rw[g.str_inv];rfl
  | _=>cases f'
 | int _=>
  rw[h.int_inv];cases e with
  | mM=>rw[g.mK];rfl
  | bl _=>rw[g.mL];rfl
  | int _=>rw[g.int_inv];rfl
  | str _=>rw[g.str_inv];rfl
  | _=>cases f'
 | str _=>
  rw[h.str_inv];cases e with
  | mM=>rw[g.mK];rfl
  | bl _=>rw[g.mL];rfl
  | int _=>rw[g.int_inv];rfl
  | str _=>rw[g.str_inv];rfl
  | _=>cases f'
 | _=>cases f
theorem Gg:∀{ds:T0 D} {xs:T0 V},qA K H ds xs->ds.all vw=Db->xs.all yV=Db
 | [],_,h,_=>by rw[h.nil_inv];rfl
 | d::ds,_,h,f=>by obtain⟨x,r,rfl,h1,h2⟩:=h.inv;rw[fG,dU]at f ⊢;exact⟨Ah h1 f.1,Gg h2 f.2⟩
theorem N8(g:sr K H e w)(f':vw e=Db):∀{ds:T0 D} {xs:T0 V},qA K H ds xs->ds.all vw=Db->inV w xs=inD e ds
 | [],_,h,_=>by rw[h.nil_inv];rfl
 | d::ds,_,h,f=>by obtain⟨x,r,rfl,h1,h2⟩:=h.inv;rw[fG,dU]at f;show(Pw x w||inV w r)=(Qb d e||inD e ds);rw[JQ h1 g f.1 f',N8 g f' h2 f.2]
def FP(hm:HM K H M){y:D}{v:V}{ds:T0 D}(h:sr K H y v)(q:NY M y=ga ds):∃p xs,v=.ref p/\(xV K H p xs\/wg K H p xs)/\qA K H ds xs:=by
 cases y with
 | tup es=>cases q;obtain⟨a,xs,rfl,h1,h2⟩:=h.mQ;exact⟨a,xs,Z',.inr h1,h2⟩
 | ref a=>cases h.mI;obtain⟨xs,h1,h2,_⟩:=qp hm q;exact⟨a,xs,Z',.inl h1,h2⟩
 | rl es=>cases q;obtain⟨a,xs,rfl,h1,h2⟩:=h.m8;exact⟨a,xs,Z',.inl h1.sq,h2⟩
 | _=>cases q
variable {c:zn}{tc:T3}
section
def Le(op:CmpOp)(hu:X.A.units+9<XXa):xX X (Op op) (R3 X.K (KZ op)):=by
 intro YL s Y H vx vy v u Q' I rx ry h;obtain⟨x,y,M,Q,hx,hy,hm,q,k⟩:=h;have bk:∀b,Q (.bl b) M->EP X YL Y Q' (.bool b) s:=λb q=>⟨.bl b,H,I,Z',k _ _ _ _ .bl hm .refl q⟩;have inn:∀neg:Bool,((NY M y).elim False λds=>vw x=Db/\ds.all vw=Db/\Q (.bl (if neg then !inD x ds else inD x ds)) M)->Yc X.K neg vx vy H Q':=λneg q=>by obtain⟨ds,e,f1,f2,q⟩:=rE q;obtain⟨p,xs,rfl,h1,h2⟩:=FP hm hy e;refine⟨p,xs,Z',h1,Ah hx f1,Gg h2 f2,?_⟩;rw[N8 hx f1 h2 f2];exact k _ _ _ _ .bl hm .refl q
 cases op with
 | Eq=>obtain⟨b,e,q⟩:=rE q;exact(Gp I hm 9 X.A x y b vx vy v u hu e hx hy rx ry).1 _ _ _ _ (bk b q)
 | NotEq=>obtain⟨b,e,q⟩:=rE q;exact(Gp I hm 9 X.A x y b vx vy v u hu e hx hy rx ry).2.2 _ _ _ _ (bk _ q)
 | Lt=>
  cases x<;>first|exact q.elim|skip
  cases y<;>first|exact q.elim|skip
  cases hx.int_inv;cases hy.int_inv;exact Vr YL s Y H _ _ v u Q' I rx ry ⟨_,_,Z',Z',k _ _ _ _ .bl hm .refl q⟩
 | LtE=>
  cases x<;>first|exact q.elim|skip
  cases y<;>first|exact q.elim|skip
  cases hx.int_inv;cases hy.int_inv;exact WI YL s Y H _ _ v u Q' I rx ry ⟨_,_,Z',Z',k _ _ _ _ .bl hm .refl q⟩
 | Gt=>
  cases x<;>first|exact q.elim|skip
  cases y<;>first|exact q.elim|skip
  cases hx.int_inv;cases hy.int_inv;exact WR YL s Y H _ _ v u Q' I rx ry ⟨_,_,Z',Z',k _ _ _ _ .bl hm .refl q⟩
 | GtE=>
  cases x<;>first|exact q.elim|skip
  cases y<;>first|exact q.elim|skip
  cases hx.int_inv;cases hy.int_inv;exact VH YL s Y H _ _ v u Q' I rx ry ⟨_,_,Z',Z',k _ _ _ _ .bl hm .refl q⟩
 | Is=>
  cases y<;>first|exact q.elim|skip
  cases hy.mK;refine Td YL s Y H _ _ v u Q' I rx ry ⟨Z',k _ _ _ _ ?_ hm .refl q⟩;cases x with
  | mM=>rw[hx.mK];exact .bl
  | bl _=>rw[hx.mL];exact .bl
  | int _=>rw[hx.int_inv];exact .bl
  | str _=>rw[hx.str_inv];exact .bl
  | tup _=>obtain⟨a,xs,rfl,_⟩:=hx.mQ;exact .bl
  | ref _=>rw[hx.mI];exact .bl
  | ty _=>rw[hx.oi];exact .bl
  | rl _=>obtain⟨a,xs,rfl,_⟩:=hx.m8;exact .bl
 | IsNot=>
  cases y<;>first|exact q.elim|skip
  cases hy.mK;refine QV YL s Y H _ _ v u Q' I rx ry ⟨Z',k _ _ _ _ ?_ hm .refl q⟩;cases x with
  | mM=>rw[hx.mK];exact .bl
  | bl _=>rw[hx.mL];exact .bl
  | int _=>rw[hx.int_inv];exact .bl
  | str _=>rw[hx.str_inv];exact .bl
  | tup _=>obtain⟨a,xs,rfl,_⟩:=hx.mQ;exact .bl
  | ref _=>rw[hx.mI];exact .bl
  | ty _=>rw[hx.oi];exact .bl
  | rl _=>obtain⟨a,xs,rfl,_⟩:=hx.m8;exact .bl
 | In=>
  have q:TC pc x y M Q:=q;unfold TC at q;split at q
  .cases hx.str_inv;cases hy.str_inv;exact LS YL s Y H _ _ v u Q' I rx ry ⟨_,_,Z',Z',k _ _ _ _ .bl hm .refl q⟩
  .exact K9 YL s Y H _ _ v u Q' I rx ry (inn pc q)
 | NotIn=>
  have q:TC Db x y M Q:=q;unfold TC at q;split at q
  .cases hx.str_inv;cases hy.str_inv;exact FG YL s Y H _ _ v u Q' I rx ry ⟨_,_,Z',Z',k _ _ _ _ .bl hm .refl q⟩
  .exact F8 YL s Y H _ _ v u Q' I rx ry (inn Db q)
variable {a b:zn}
def qy{op:CmpOp}(hu:X.A.units+9<XXa)(ha:E3 X a ta)(hb:E3 X b tb)(hm:AT op b=pc:=by first|exact IV _|with_unfolding_all rfl):E3 X (.Compare a [op] [b] pos) (k3 op ta tb):=PE.mono (JU (Le op hu) ha hb hm) IX
def b3(t:T3):Bf:=λU M Q=>t U M λd M1=>match d with|.bl c=>Q c M1|_=>False
def wb(h:E3 X e t)(he:∀Zl,isTrue e X.env Zl=(do let v<-Zl;XXc e.pos;ZB [v] (truthy v)):=by intro _;rfl):B3 X e (b3 t):=PT.mono (SQ h he) λY H Q' zz=>x7 zz λU M Q hs hm ht k=>
 ⟨U,M,_,hs,hm,ht,λv H1 d M1 hd YN e1 q1=>by
  cases d with
  | bl c=>exact⟨c,hd.mL,k c H1 M1 YN e1 q1⟩
  | _=>exact q1.elim⟩
def pR{op:CmpOp}(hu:X.A.units+9<XXa)(ha:E3 X a ta)(hb:E3 X b tb)(hm:AT op b=pc:=by first|exact IV _|with_unfolding_all rfl):B3 X (.Compare a [op] [b] pos) (b3 (k3 op ta tb)):=PT.mono (Kh (Le op hu) ha hb hm) λY H Q' zz=>x7 zz λU M Q hs hm ht k=>
 IX Y H _ ⟨U,M,_,hs,hm,ht,λv H1 d M1 hd YN e1 q1=>by
  cases d with
  | bl c=>exact⟨c,hd.mL,k c H1 M1 YN e1 q1⟩
  | _=>exact q1.elim⟩
end
variable {tA tB:Bf}{rest:T0 zn}
section
variable {a b:zn}
def QD(t u:Bf):Bf:=λU M Q=>t U M λc M1=>if c=Db then u U M1 Q else Q pc M1
def YK(t u:Bf):Bf:=λU M Q=>t U M λc M1=>if c=Db then Q Db M1 else u U M1 Q
def Vo(t:Bf):Bf:=λU M Q=>t U M λc M1=>Q (!c) M1
def W3(X:Cx)(e:zn)(t:Bf):Prop:=PW X e (Vk X.K t)
def PW.mono{t t':TT}(h:PW X e t)(m:∀Y H Q,t' Y H Q->t Y H Q):PW X e t':=λwh YL s Y H Q I q=>h wh YL s Y H Q I (m Y H Q q)
def W3.b3(h:W3 X e t):B3 X e t:=PW.pt h
def yG(h:B3 X a tA):W3 X (.BoolOp .And [a] pos) tA:=Qo h
def yy(h:B3 X a tA):W3 X (.BoolOp .Or [a] pos) tA:=U6 h
def zb(ha:B3 X a tA)(hb:W3 X (.BoolOp .And (b::rest) pos) tB):W3 X (.BoolOp .And (a::b::rest) pos) (QD tA tB):=PW.mono (S4 ha hb) λY H Q' zz=>x7 zz λU M Q hs hm ht k=>
 ⟨U,M,_,hs,hm,ht,λc H1 M1 YN e1 q1=>by
  cases c with
  | true=>exact(de Z').mpr ⟨U,M1,Q,hs.mono e1,YN,(de Z').mp q1,λb H' M' x1 x2 x3=>k b H' M' x1 (e1.trans x2) x3⟩
  | false=>exact(cY dA).mpr (k pc H1 M1 YN e1 ((cY dA).mp q1))⟩
def y9(ha:B3 X a tA)(hb:W3 X (.BoolOp .Or (b::rest) pos) tB):W3 X (.BoolOp .Or (a::b::rest) pos) (YK tA tB):=PW.mono (WH ha hb) λY H Q' zz=>x7 zz λU M Q hs hm ht k=>
 ⟨U,M,_,hs,hm,ht,λc H1 M1 YN e1 q1=>by
  cases c with
  | true=>exact(de Z').mpr (k Db H1 M1 YN e1 ((de Z').mp q1))
  | false=>exact(cY dA).mpr ⟨U,M1,Q,hs.mono e1,YN,(cY dA).mp q1,λb H' M' x1 x2 x3=>k b H' M' x1 (e1.trans x2) x3⟩⟩
def zc(ha:B3 X a tA):B3 X (.UnaryOp .Not a pos) (Vo tA):=PT.mono (Th ha) λY H Q' zz=>x7 zz λU M Q hs hm ht k=>⟨U,M,_,hs,hm,ht,λc H1 M1 YN e1 q1=>k _ H1 M1 YN e1 q1⟩
def WC(ta tb:T3):T3:=λU M Q=>ta U M λd M1=>match d with|.bl c=>if c=Db then tb U M1 Q else Q (.bl pc) M1|_=>False
def Xh(ta tb:T3):T3:=λU M Q=>ta U M λd M1=>match d with|.bl c=>if c=Db then Q (.bl Db) M1 else tb U M1 Q|_=>False
def Vy(ta:T3):T3:=λU M Q=>ta U M λd M1=>match d with|.bl c=>Q (.bl (!c)) M1|_=>False
def tM{op}(h:E3 X a ta):E3 X (.BoolOp op [a] pos) ta:=Tj h
def ue(ha:E3 X a ta)(hb:E3 X (.BoolOp .And (b::rest) pos) tb):E3 X (.BoolOp .And (a::b::rest) pos) (WC ta tb):=PE.mono (UH ha hb) λY H Q' zz=>x7 zz λU M Q hs hm ht k=>
 ⟨U,M,_,hs,hm,ht,λv H1 d M1 hd YN e1 q1=>by
  cases d with
  | bl c=>
   refine⟨c,hd.mL,?_⟩;cases c with
   | true=>exact(de Z').mpr ⟨U,M1,Q,hs.mono e1,YN,(de Z').mp q1,wc e1 k⟩
   | false=>exact(cY dA).mpr (k _ H1 _ M1 .bl YN e1 ((cY dA).mp q1))
  | _=>exact q1.elim⟩
def Ki(ha:E3 X a ta)(hb:E3 X (.BoolOp .Or (b::rest) pos) tb):E3 X (.BoolOp .Or (a::b::rest) pos) (Xh ta tb):=PE.mono (Vw ha hb) λY H Q' zz=>x7 zz λU M Q hs hm ht k=>
 ⟨U,M,_,hs,hm,ht,λv H1 d M1 hd YN e1 q1=>by
  cases d with
  | bl c=>
   refine⟨c,hd.mL,?_⟩;cases c with
   | true=>exact(de Z').mpr (k _ H1 _ M1 .bl YN e1 ((de Z').mp q1))
   | false=>exact(cY dA).mpr ⟨U,M1,Q,hs.mono e1,YN,(cY dA).mp q1,wc e1 k⟩
  | _=>exact q1.elim⟩
def UO(ha:E3 X a ta):E3 X (.UnaryOp .Not a pos) (Vy ta):=PE.mono (S7 ha) λY H Q' zz=>x7 zz λU M Q hs hm ht k=>
 ⟨U,M,_,hs,hm,ht,λv H1 d M1 hd YN e1 q1=>by
  cases d with
  | bl c=>exact⟨c,hd.mL,k _ H1 _ M1 .bl YN e1 q1⟩
  | _=>exact q1.elim⟩
def Ys(t:Bf)(ta tb:T3):T3:=λU M Q=>t U M λc M1=>if c=Db then ta U M1 Q else tb U M1 Q
def So(hc:B3 X c tA)(ha:E3 X a ta)(hb:E3 X b tb):E3 X (.IfExp c a b pos) (Ys tA ta tb):=PE.mono (OY hc ha hb) λY H Q' zz=>x7 zz λU M Q hs hm ht k=>
 ⟨U,M,_,hs,hm,ht,λc H1 M1 YN e1 q1=>by
  cases c with
  | true=>exact(de Z').mpr ⟨U,M1,Q,hs.mono e1,YN,(de Z').mp q1,wc e1 k⟩
  | false=>exact(cY dA).mpr ⟨U,M1,Q,hs.mono e1,YN,(cY dA).mp q1,wc e1 k⟩⟩
def XO(x y:D)(M:Mp)(Q:DK):Prop:=match x,y with
 | .tup ds,.int i=>(xn ds i).elim False λd=>Q d M
 | .ref a,.int i=>(oP M a).elim False λds=>(xn ds i).elim False λd=>Q d M
 | .rl ds,.int i=>(xn ds i).elim False λd=>Q d M
 | .str z,.int i=>z.length<=Ch/\(xn z.cps.toList i).elim False λc=>Q (.str ⟨#[c]⟩) M
 | _,_=>False
def i3(ta tb:T3):T3:=λU M Q=>ta U M λx M1=>tb U M1 λy M2=>XO x y M2 Q
def FQ{K:qE}{d:D}(h:qA K H ds xs)(e:xn ds i=ga d):∃v,xn xs i=ga v/\sr K H d v:=by
 unfold xn at e ⊢;rw[<-h.length];cases q:HV ds.length i with
 | none=>rw[q]at e;cases e
 | some j=>rw[q]at e;exact h.get e
def YE:Vj X (R3 X.K XO):=by
 intro value YZ YL s Y H vx vy v u Q' I rx ry h hs;obtain⟨x,y,M,Q,hx,hy,hm,q,k⟩:=h;unfold XO at q;split at q
 .obtain⟨d,e,q⟩:=rE q;obtain⟨p,xs,rfl,h1,h2⟩:=hx.mQ;cases hy.int_inv;obtain⟨w,e1,e2⟩:=FQ h2 e;exact Vb value YZ YL s Y H _ _ v u Q' I rx ry ⟨p,xs,_,w,Z',Z',h1,e1,k _ _ _ _ e2 hm .refl q⟩ hs
 .obtain⟨ds,e0,q⟩:=rE q;obtain⟨d,e,q⟩:=rE q;cases hx.mI;cases hy.int_inv;obtain⟨xs,h1,h2,_⟩:=qp hm e0;obtain⟨w,e1,e2⟩:=FQ h2 e;exact JO value YZ YL s Y H _ _ v u Q' I rx ry ⟨_,xs,_,w,Z',Z',h1,e1,k _ _ _ _ e2 hm .refl q⟩ hs
 .obtain⟨d,e,q⟩:=rE q;obtain⟨p,xs,rfl,h1,h2⟩:=hx.m8;cases hy.int_inv;obtain⟨w,e1,e2⟩:=FQ h2 e;exact JO value YZ YL s Y H _ _ v u Q' I rx ry ⟨p,xs,_,w,Z',Z',h1.sq,e1,k _ _ _ _ e2 hm .refl q⟩ hs
 .obtain⟨q1,q⟩:=q;obtain⟨c,e,q⟩:=rE q;cases hx.str_inv;cases hy.int_inv;exact UV value YZ YL s Y H _ _ v u Q' I rx ry ⟨_,_,c,Z',Z',q1,e,k _ _ _ _ .str hm .refl q⟩ hs
 .exact q.elim
def pT(ha:E3 X a ta)(hb:E3 X b tb)(hs:B6 b:=by exact λ_ _=>rfl):E3 X (.Subscript a b pos) (i3 ta tb):=PE.mono (Oi YE ha hb hs) IX
noncomputable def vD(ds:T0 D)(lo hi:Option Int):T0 D:=(ds.drop (HT.tT ds.length 0 lo)).take (HT.tT ds.length ds.length hi - HT.tT ds.length 0 lo)
def Gi{K:qE}(q:qA K H ds xs):qA K H (vD ds l h) (DB xs l h):=by unfold vD DB;rw[q.length];exact(q.drop _).take _
abbrev Vi:=vV->Mp->(Option Int->Mp->Prop)->Prop
def Yt(K:qE)(t:Vi):TO:=λY H Q'=>Ed λU M Q=>AC K H Y U/\HM K H M/\t U M Q/\∀o H' M',HM K H' M'->rc K H H'->Q o M'->Q' o H'
def O3(X:Cx)(e:Option zn)(t:Vi):Prop:=PO X e (Yt X.K t)
def RA:Vi:=λ_ M Q=>Q Fa M
def WY(t:T3):Vi:=λU M Q=>t U M λd M1=>match d with|.int i=>Q (ga i) M1|_=>False
def PO.mono{t t':TO}(h:PO X e t)(m:∀Y H Q,t' Y H Q->t Y H Q):PO X e t':=λYL s Y H Q I q=>h YL s Y H Q I (m Y H Q q)
def uq:O3 X Fa RA:=PO.mono PR λY H Q' zz=>x7 zz λU M Q hs hm ht k=>k Fa H M hm .refl ht
def uo(h:E3 X e t):O3 X (ga e) (WY t):=PO.mono (QX h) λY H Q' zz=>x7 zz λU M Q hs hm ht k=>
 ⟨U,M,_,hs,hm,ht,λv H1 d M1 hd YN e1 q1=>by
  cases d with
  | int i=>exact⟨i,hd.int_inv,k (ga i) H1 M1 YN e1 q1⟩
  | _=>exact q1.elim⟩
def Yl(x:D)(lo hi:Option Int)(M:Mp)(Q:DK):Prop:=match x with
 | .tup ds=>Q (.tup (vD ds lo hi)) M
 | .ref a=>(oP M a).elim False λds=>∀p,M p=Fa->Q (.ref p) (pQ M p (.lst (vD ds lo hi)))
 | .rl ds=>∀p,M p=Fa->Q (.ref p) (pQ M p (.lst (vD ds lo hi)))
 | _=>False
def s3(te:T3)(tl th:Vi):T3:=λU M Q=>te U M λx M1=>tl U M1 λl M2=>th U M2 λu M3=>Yl x l u M3 Q
def XQ(K:qE):V->Option Int->Option Int->Hp->VK->Prop:=λvx l u H Q'=>Ed λx M Q=>sr K H x vx/\HM K H M/\Yl x l u M Q/\Up K H Q' Q
def RO{ds:T0 D}{lo hi:Option Int}(h:HT.tT ds.length 0 lo=0/\HT.tT ds.length ds.length hi=ds.length):vD ds lo hi=ds:=by unfold vD;rw[h.1,h.2,kl,kX,eM]
def XY:Wy X (XQ X.K):=by
 intro YL s Y H vx v vl vu l u sl Q' I rx hsl pl pu h;obtain⟨x,M,Q,hx,hm,q,k⟩:=h;cases x with
 | tup ds=>
  have q2:Q (.tup (vD ds l u)) M:=q;obtain⟨a,xs,rfl,h1,h2⟩:=hx.mQ;by_cases q1:HT.tT ds.length 0 l=0/\HT.tT ds.length ds.length u=ds.length
  .rw[RO q1]at q2;exact U8 YL s Y H _ v vl vu l u sl Q' I rx hsl pl pu ⟨a,xs,Z',h1,by rw[<-h2.length];exact q1,k _ _ _ _ hx hm .refl q2⟩
  refine Uy YL s Y H _ v vl vu l u sl Q' I rx hsl pl pu ⟨a,xs,Z',h1,by rw[<-h2.length];exact q1,λp hp=>?_⟩;have e:rc X.K H (upd H p (.tup (DB xs l u))):=.new hp;exact k _ _ _ _ (.tup (.of qz) ((Gi h2).mono e)) (hm.add hp) e q2
 | ref a=>obtain⟨ds,e0,q⟩:=rE q;cases hx.mI;obtain⟨xs,h1,h2,_⟩:=qp hm e0;refine KH YL s Y H _ v vl vu l u sl Q' I rx hsl pl pu ⟨a,xs,Z',h1,λp hp=>?_⟩;have e:rc X.K H (upd H p (.lst (DB xs l u))):=.new hp;exact k _ _ _ _ .ref (hm.new (c:=.lst (vD ds l u)) hp ⟨_,qz,(Gi h2).mono e⟩) e (q p (hm.fresh hp))
 | rl ds=>obtain⟨a,xs,rfl,h1,h2⟩:=hx.m8;refine KH YL s Y H _ v vl vu l u sl Q' I rx hsl pl pu ⟨a,xs,Z',h1.sq,λp hp=>?_⟩;have e:rc X.K H (upd H p (.lst (DB xs l u))):=.new hp;exact k _ _ _ _ .ref (hm.new (c:=.lst (vD ds l u)) hp ⟨_,qz,(Gi h2).mono e⟩) e (q p (hm.fresh hp))
 | _=>exact q.elim
def tI{lo hi:Option zn}{p2:Pos}(he:E3 X e te)(hl:O3 X lo tl)(hu:O3 X hi th):E3 X (.Subscript e (.Slice lo hi Fa p2) pos) (s3 te tl th):=PE.mono (NC XY he hl hu) λY H Q' zz=>x7 zz λU M Q hs hm ht k=>⟨U,M,_,hs,hm,ht,λv H1 x M1 hx YN e1 q1=>⟨U,M1,_,hs.mono e1,YN,q1,λl H2 M2 Y9 e2 q2=>⟨U,M2,_,hs.mono (e1.trans e2),Y9,q2,λu H3 M3 ZM e3 q3=>⟨x,M3,Q,hx.mono (e2.trans e3),ZM,q3,wc (e1.trans (e2.trans e3)) k⟩⟩⟩⟩
def ya:xt:=λ_ M Q=>Q [] M
def vT(ta:T3)(tr:xt):xt:=λU M Q=>ta U M λx M1=>tr U M1 λxs M2=>Q (x::xs) M2
def sE:A3 X [] ya:=PA.mono Ux λY H Q' zz=>x7 zz λU M Q hs hm ht k=>k [] H [] M .nil hm .refl ht
def qh(ha:E3 X e te)(hr:A3 X es t)(hs:Bt X e es:=by rfl):A3 X (e::es) (vT te t):=PA.mono (RV ha hr hs) λY H Q' zz=>x7 zz λU M Q hs hm ht k=>⟨U,M,_,hs,hm,ht,λv H1 x M1 hx YN e1 q1=>⟨U,M1,_,hs.mono e1,YN,q1,λvs H2 xs M2 hxs Y9 e2 q2=>k _ H2 _ M2 (.cons (hx.mono e2) hxs) Y9 (e1.trans e2) q2⟩⟩
def X5(t:xt):T3:=λU M Q=>t U M λds M1=>ds.length<=Ch/\Q (.tup ds) M1
def Vx(t:xt):T3:=λU M Q=>t U M λds M1=>ds.length<=Ch/\∀p,M1 p=Fa->Q (.ref p) (pQ M1 p (.lst ds))
def pY{x1}(h:A3 X es t):E3 X (.Tuple es x1 pos) (X5 t):=PE.mono (Ut h) λY H Q' zz=>x7 zz λU M Q hs hm ht k=>
 ⟨U,M,_,hs,hm,ht,λvs H1 ds M1 Z5 YN e1 q1=>⟨by rw[<-Z5.length];exact q1.1,λp hp=>by
  have e:rc X.K H1 (upd H1 p (.tup vs)):=.new hp;exact k _ _ _ M1 (.tup (.of qz) (Z5.mono e)) (YN.add hp) (e1.trans e) q1.2⟩⟩
def qW(h:A3 X es t):E3 X (.List es pos) (Vx t):=PE.mono (Te h) λY H Q' zz=>x7 zz λU M Q hs hm ht k=>
 ⟨U,M,_,hs,hm,ht,λvs H1 ds M1 Z5 YN e1 q1=>⟨by rw[<-Z5.length];exact q1.1,λp hp=>by
  have e:rc X.K H1 (upd H1 p (.lst vs)):=.new hp;exact k _ _ _ _ .ref (YN.new (c:=.lst ds) hp ⟨_,qz,Z5.mono e⟩) (e1.trans e) (q1.2 p (YN.fresh hp))⟩⟩
def vb(t u:xU):xU:=λD U M=>t {D with nx:=u D} U M
def W9:xU:=λD U M=>D.nx U M
def pV:Ig X [] W9:=Dh.mono Rr λD' Y H zz=>L' zz λU M D hs hm ht k1 k2 k3 k4=>k1 Y H U M hs hm .refl Z' ht
def pG{st:TD}{rest:T0 TD}(h1:S3 X st t)(h2:Ig X rest u):Ig X (st::rest) (vb t u):=Dh.mono (Pu h1 h2) λD' Y H zz=>L' zz λU M D hs hm ht k1 k2 k3 k4=>
 ⟨U,M,{D with nx:=u D},hs,hm,ht,λσ1 H1 δ1 M1 hs1 YN e1 l1 q1=>⟨δ1,M1,D,hs1,YN,q1,λσ' H' δ' M' x1 x2 x3 x4 x5=>k1 σ' H' δ' M' x1 x2 (e1.trans x3) (x4.trans l1) x5,λv H' d M' x1 x2 x3 x4=>k2 v H' d M' x1 x2 (e1.trans x3) x4,λσ' H' δ' M' x1 x2 x3 x4 x5=>k3 σ' H' δ' M' x1 x2 (e1.trans x3) (x4.trans l1) x5,λσ' H' δ' M' x1 x2 x3 x4 x5=>k4 σ' H' δ' M' x1 x2 (e1.trans x3) (x4.trans l1) x5⟩,k2,k3,k4⟩
def pH{st:TD}(h1:S3 X st t):Ig X [st] t:=Dh.mono (Km h1) λD' Y H h=>h
def V6(te:T3):xU:=λD U M=>te U M λ_ M1=>D.nx U M1
def pX(he:E3 X e te)(ZF:sK e Fa pos.line X.env=pure pc:=by rfl):S3 X (.Expr e pos) (V6 te):=PS.mono (Q6 he ZF) λD' Y H zz=>L' zz λU M D hs hm ht k1 k2 k3 k4=>⟨U,M,_,hs,hm,ht,λv H1 d M1 hd YN e1 q1=>k1 Y H1 U M1 (hs.mono e1) YN e1 Z' q1⟩
def TL(te:T3):xU:=λD U M=>te U M D.rt
def pO(he:E3 X e te):S3 X (.Return (ga e) pos) (TL te):=PS.mono (UT he) λD' Y H zz=>L' zz λU M D hs hm ht k1 k2 k3 k4=>⟨U,M,_,hs,hm,ht,λv H1 d M1 hd YN e1 q1=>k2 v H1 d M1 hd YN e1 q1⟩
def SR(c:Bf)(t u:xU):xU:=λD U M=>c U M λb M1=>if b=Db then t D U M1 else u D U M1
def qa{tc:Bf}(hc:B3 X c tc)(ha:Ig X as t)(hb:Ig X bs u):S3 X (.If c as bs pos) (SR tc t u):=PS.mono (WN hc ha hb) λD' Y H zz=>L' zz λU M D hs hm ht k1 k2 k3 k4=>
 ⟨U,M,_,hs,hm,ht,λb H1 M1 YN e1 q1=>by
  have up:∀t:xU,t D U M1->W4 X.K t D' Y H1:=λt q=>⟨U,M1,D,hs.mono e1,YN,q,λσ' H' δ' M' x1 x2 x3 x4 x5=>k1 σ' H' δ' M' x1 x2 (e1.trans x3) x4 x5,λv H' d M' x1 x2 x3 x4=>k2 v H' d M' x1 x2 (e1.trans x3) x4,λσ' H' δ' M' x1 x2 x3 x4 x5=>k3 σ' H' δ' M' x1 x2 (e1.trans x3) x4 x5,λσ' H' δ' M' x1 x2 x3 x4 x5=>k4 σ' H' δ' M' x1 x2 (e1.trans x3) x4 x5⟩
  cases b with
  | true=>exact(de Z').mpr (up t ((de Z').mp q1))
  | false=>exact(cY dA).mpr (up u ((cY dA).mp q1))⟩
def TY:xU:=λ_ _ _=>False
def G9{st:TD}:S3 X st TY:=PS.mono Mz λD' Y H ⟨U,M,D,hs,hm,ht,_⟩=>ht
abbrev Ey:=D->vV->Mp->(vV->Mp->Prop)->Prop
def W1(K:qE)(g:Ey):TG:=λv Y H Q'=>BO λd U M Q=>sr K H d v/\AC K H Y U/\HM K H M/\g d U M Q/\∀σ' H' δ' M',AC K H' σ' δ'->HM K H' M'->rc K H H'->σ'.length=Y.length->Q δ' M'->Q' σ' H'
def G3(X:Cx)(e:zn)(g:Ey):Prop:=PG X e (W1 X.K g)
def PG.nV{t t':TG}(h:PG X e t)(m:∀v Y H Q,Y.length=X.N.length->t' v Y H Q->t v Y H Q):PG X e t':=λYL s Y H v u Q I r q=>h YL s Y H v u Q I r (m v Y H Q I.len q)
def rh(i:Nat):Ey:=λd U M Q=>Q (U.set i (ga d)) M
def Kz{i:Nat}{x:Str}(hN:X.N.Nodup)(hi:X.N[i]?=ga x)(hx:Ma X.env.scope x)(hf:L9 X x:=by first|exact .inl Z'|exact .inr Z'|assumption):G3 X (.Name x pos) (rh i):=
 PG.nV (QJ hN hi hx hf) λv Y H Q' hl ⟨d,U,M,Q,hd,hs,hm,ht,k⟩=>k _ H _ M (hs.set hd (by rw[hl];exact(cX.mp hi).1)) hm .refl (by simp) ht
abbrev Hs:=T0 D->vV->Mp->(vV->Mp->Prop)->Prop
def Xy(K:qE)(g:Hs):Qz:=λvs Y H Q'=>BO λds U M Q=>qA K H ds vs/\AC K H Y U/\HM K H M/\g ds U M Q/\∀σ' H' δ' M',AC K H' σ' δ'->HM K H' M'->rc K H H'->σ'.length=Y.length->Q δ' M'->Q' σ' H'
def W0(X:Cx)(es:T0 zn)(g:Hs):Prop:=Pz X es (Xy X.K g)
def Pz.mono{t t':Qz}(h:Pz X e t)(m:∀v Y H Q,t' v Y H Q->t v Y H Q):Pz X e t':=λYL s Y H v u Q I r q=>h YL s Y H v u Q I r (m v Y H Q q)
def PG.mono{t t':TG}(h:PG X e t)(m:∀v Y H Q,t' v Y H Q->t v Y H Q):PG X e t':=λYL s Y H v u Q I r q=>h YL s Y H v u Q I r (m v Y H Q q)
def Ck:Hs:=λds U M Q=>match ds with|[]=>Q U M|_=>False
def ye(t:Ey)(u:Hs):Hs:=λds U M Q=>match ds with|d::r=>t d U M λδ' M'=>u r δ' M' Q|[]=>False
def tR:W0 X [] Ck:=Pz.mono Qd λvs Y H Q' ⟨ds,U,M,Q,hd,hs,hm,ht,k⟩=>by
 cases ds with
 | nil=>exact⟨hd.nil_inv,k Y H U M hs hm .refl Z' ht⟩
 | cons _ _=>exact ht.elim
def qC(h1:G3 X e t)(h2:W0 X es u)(hs:(wP (e::es) X.env).map (·.2)=assign e X.env::(wP es X.env).map (·.2):=by rfl):W0 X (e::es) (ye t u):=
 Pz.mono (MZ h1 h2 hs) λvs Y H Q' ⟨ds,U,M,Q,hd,hs,hm,ht,k⟩=>by
 cases ds with
 | nil=>exact ht.elim
 | cons d r=>obtain⟨x,xr,rfl,hx,hr⟩:=hd.inv;exact⟨x,xr,Z',d,U,M,_,hx,hs,hm,ht,λσ1 H1 δ1 M1 hs1 YN e1 l1 q1=>⟨r,δ1,M1,Q,hr.mono e1,hs1,YN,q1,λσ' H' δ' M' x1 x2 x3 x4 x5=>k σ' H' δ' M' x1 x2 (e1.trans x3) (x4.trans l1) x5⟩⟩
def Sk(n:Nat)(t:Hs):Ey:=λd U M Q=>match d with|.tup ds=>ds.length=n/\t ds U M Q|_=>False
def uQ{n:Nat}(hc:X.calm=Db)(h:W0 X es t)(hn:(wP es X.env).length=n:=by rfl)(Zd:(wP es X.env).findIdx? (·.1)=Fa:=by rfl):G3 X (.Tuple es k pos) (Sk n t):=
 PG.mono (UW hc h hn Zd) λv Y H Q' ⟨d,U,M,Q,hd,hs,hm,ht,k⟩=>by
 cases d with
 | tup ds=>obtain⟨a,xs,rfl,h1,h2⟩:=hd.mQ;exact⟨a,xs,Z',h1,by rw[<-h2.length];exact ht.1,ds,U,M,Q,h2,hs,hm,ht.2,k⟩
 | _=>exact ht.elim
def HD(te:T3)(g:Ey):xU:=λD U M=>te U M λx M1=>g x U M1 D.nx
def UJ(he:E3 X e te)(hg:G3 X tg g)(hs:swapsWithSole [tg] e pos.line X.env=pure pc:=by rfl)(hw:swappedStores [tg] e X.env=pure Fa:=by rfl)
  (h1:(wP [tg] X.env).map (·.2)=[assign tg X.env]:=by rfl):S3 X (.Assign [tg] e pos) (HD te g):=PS.mono (Um he hg hs hw h1) λD' Y H zz=>L' zz λU M D hs hm ht k1 k2 k3 k4=>
 ⟨U,M,_,hs,hm,ht,λv H1 d M1 hd YN e1 q1=>⟨d,U,M1,_,hd,hs.mono e1,YN,q1,λσ' H' δ' M' x1 x2 x3 x4 x5=>k1 σ' H' δ' M' x1 x2 (e1.trans x3) x4 x5⟩⟩
def TM{i:Nat}{x:Str}(hN:X.N.Nodup)(hi:X.N[i]?=ga x)(hx:Ma X.env.scope x)(he:E3 X e te)(ZF:sK e (ga (.Name x YW)) pos.line X.env=pure pc:=by rfl)
  (hf:L9 X x:=by first|exact .inl Z'|exact .inr Z'|assumption):S3 X (.Assign [.Name x YW] e pos) (HD te (rh i)):=PS.nV (Uj hN hi hx he ZF hf) λD' Y H hl zz=>L' zz λU M D hs hm ht k1 k2 k3 k4=>
 ⟨U,M,_,hs,hm,ht,λv H1 d M1 hd YN e1 q1=>k1 _ H1 _ M1 ((hs.mono e1).set hd (by rw[hl];exact(cX.mp hi).1)) YN e1 (by simp) q1⟩
end
abbrev rH:=T0 D->Mp->DK->Prop
def Px(K:qE)(sp:rH):Sp:=λvs H Q' _=>Ed λds M Q=>qA K H ds vs/\HM K H M/\sp ds M Q/\Up K H Q' Q
noncomputable def xA(N:QQQ)(ds:T0 D):vV:=ds.map ga++List.replicate (N.length - ds.length) Fa
def Ez{K:qE}(h:qA K H ds vs):AC K H (L2.start N vs) (xA N ds):=λi d q=>by
 unfold xA at q;unfold L2.start;by_cases hi:i<ds.length
 .rw[eZ (by simpa using hi),dv]at q;cases e:ds[i]? with
  | none=>rw[e]at q;cases q
  | some d'=>rw[e]at q;cases q;obtain⟨v,e1,e2⟩:=h.get e;refine⟨v,?_,e2⟩;rw[eZ (by rw[cT,<-h.length];exact hi),dv,e1];rfl
 .rw[eX (by simpa using hi),jT]at q;split at q<;>cases q
variable {P:Pg}{w:Wo}{mg:QQZ}{base:Go}
abbrev Vh(P:Pg)(w:Wo)(K:qE)(mg:QQZ)(base:Go)(k:Nat)(f:Uf)(fd:Ix)(ps:QQQ)(sp:rH):Prop:=xS P w K mg base Py k f fd ps (Px K sp)
variable {k:Nat}{f C:Uf}{fd:Ix}{ps:QQQ}{sp:rH}{x m fn:Str}{p YO:Pos}{e o:zn}{es:T0 zn}{t:xt}
def EB(sp:rH)(t:xt):T3:=λU M Q=>t U M λds M1=>sp ds M1 Q
def QG(F:Vh X.prog X.w X.K X.mg X.base k f fd ps sp)(hr:sG k X.A)(hg:Gl X x)(hm:X.mg x=ga (.ref f))(hk:W.keepIn X.K (.ref f)=Db)(hb:vc X.K fd ps [])(ha:A3 X (e::es) t) (Y7:Ab x:=by decide) (he:Bt X e es:=by rfl) (Y6:C5 X pos es:=by rfl):
  E3 X (.Call (.Name x p) (e::es) [] pos) (EB sp t):=PE.mono (Kv F hr hg hm hk hb .nil (GI (X:=X)) ha Y7 he Y6) λY H Q' zz=>x7 zz λU M Q hs hm ht k=>
 ⟨U,M,_,hs,hm,ht,λvs H1 ds M1 hd YN e1 q1=>⟨ds,M1,Q,by rw[eG];exact hd,YN,q1,wc e1 k⟩⟩
def C3(X:Cx)(f:Vl)(r:rH):Prop:=Ap X f λvs H Q'=>∃ds M Q,qA X.K H ds vs/\HM X.K H M/\r ds M Q/\Up X.K H Q' Q
def qc{id:String}(hc:C3 X (.builtin id) r)(hg:Gl X x)(hm:X.mg x=Fa)(hv:No x=ga (.builtin id))(ha:A3 X (e::es) t)(hn:x≠"__name__":=by decide)(Y7:Ab x:=by decide)
  (he:Bt X e es:=by rfl) (Y6:C5 X pos es:=by rfl):E3 X (.Call (.Name x p) (e::es) [] pos) (EB r t):=
 PE.mono (Ot hc hg hm hv ha hn Y7 he Y6) λY H Q' zz=>x7 zz λU M Q hs hm ht k=>⟨U,M,_,hs,hm,ht,λvs H1 ds M1 hd YN e1 q1=>⟨ds,M1,Q,hd,YN,q1,wc e1 k⟩⟩
def qe{T:String}(hc:C3 X (.type T) r)(hg:Gl X x)(hm:X.mg x=Fa)(hv:No x=ga (.type T))(ha:A3 X (e::es) t)(hn:x≠"__name__":=by decide)(Y7:Ab x:=by decide)
  (he:Bt X e es:=by rfl) (Y6:C5 X pos es:=by rfl):E3 X (.Call (.Name x p) (e::es) [] pos) (EB r t):=
 PE.mono (LY hc hg hm hv ha hn Y7 he Y6) λY H Q' zz=>x7 zz λU M Q hs hm ht k=>⟨U,M,_,hs,hm,ht,λvs H1 ds M1 hd YN e1 q1=>⟨ds,M1,Q,hd,YN,q1,wc e1 k⟩⟩
def V7(ds:T0 D)(M:Mp)(Q:DK):Prop:=match ds with
 | [.str z]=>z.length<=Ch/\Q (.int z.length) M
 | [.tup es]=>Q (.int es.length) M
 | [.ref a]=>(oP M a).elim False λes=>Q (.int es.length) M
 | [.rl es]=>Q (.int es.length) M
 | _=>False
def sU{K:qE}{d:D}(h:qA K H [d] vs):∃v,vs=[v]/\sr K H d v:=by obtain⟨x,r,rfl,a,b⟩:=h.inv;rw[b.nil_inv];exact⟨x,Z',a⟩
def B4{K:qE}{d e:D}(h:qA K H [d,e] vs):∃v u,vs=[v,u]/\sr K H d v/\sr K H e u:=by obtain⟨x,r,rfl,a,b⟩:=h.inv;obtain⟨y,rfl,c⟩:=sU b;exact⟨x,y,Z',a,c⟩
def qJ:C3 X (.builtin "len") V7:=by
 intro YL s Y H vs us Q' I rv h;obtain⟨ds,M,Q,hd,hm,q,k⟩:=h;unfold V7 at q;split at q
 .obtain⟨v,rfl,hv⟩:=sU hd;cases hv.str_inv;exact E2 YL s Y H _ us Q' I rv ⟨_,Z',q.1,k _ _ _ _ .int hm .refl q.2⟩
 .obtain⟨v,rfl,hv⟩:=sU hd;obtain⟨a,xs,rfl,h1,h2⟩:=hv.mQ;exact xF YL s Y H _ us Q' I rv ⟨a,xs,Z',.inr h1,k _ _ _ _ (by rw[<-h2.length];exact .int) hm .refl q⟩
 .obtain⟨v,rfl,hv⟩:=sU hd;obtain⟨es,e0,q⟩:=rE q;cases hv.mI;obtain⟨xs,h1,h2,_⟩:=qp hm e0;exact xF YL s Y H _ us Q' I rv ⟨_,xs,Z',.inl h1,k _ _ _ _ (by rw[<-h2.length];exact .int) hm .refl q⟩
 .obtain⟨v,rfl,hv⟩:=sU hd;obtain⟨a,xs,rfl,h1,h2⟩:=hv.m8;exact xF YL s Y H _ us Q' I rv ⟨a,xs,Z',.inl h1.sq,k _ _ _ _ (by rw[<-h2.length];exact .int) hm .refl q⟩
 .exact q.elim
def Ww(ds:T0 D)(M:Mp)(Q:DK):Prop:=match ds with
 | [.int i,.int j]=>Q (.int (if j<i then j else i)) M
 | _=>False
def Pa(hc:X.calm=Db):C3 X (.builtin "min") Ww:=by
 intro YL s Y H vs us Q' I rv h;obtain⟨ds,M,Q,hd,hm,q,k⟩:=h;unfold Ww at q;split at q
 .obtain⟨v,u,rfl,hv,hw⟩:=B4 hd;cases hv.int_inv;cases hw.int_inv;exact Lh hc YL s Y H _ us Q' I rv ⟨_,_,Z',k _ _ _ _ .int hm .refl q⟩
 .exact q.elim
def MX(ds:T0 D)(M:Mp)(Q:DK):Prop:=match ds with
 | [.tup es]=>Q (.tup es) M
 | [.ref a]=>(oP M a).elim False λes=>Q (.tup es) M
 | [.rl es]=>Q (.tup es) M
 | _=>False
def sT:C3 X (.type "tuple") MX:=by
 intro YL s Y H vs us Q' I rv h;obtain⟨ds,M,Q,hd,hm,q,k⟩:=h;unfold MX at q;split at q
 .obtain⟨v,rfl,hv⟩:=sU hd;obtain⟨a,xs,rfl,h1,h2⟩:=id hv.mQ;exact wO YL s Y H _ us Q' I rv ⟨a,xs,Z',.inr ⟨h1,k _ _ _ _ hv hm .refl q⟩⟩
 .obtain⟨v,rfl,hv⟩:=sU hd;obtain⟨es,e0,q⟩:=rE q;cases hv.mI;obtain⟨xs,h1,h2,_⟩:=qp hm e0;refine wO YL s Y H _ us Q' I rv ⟨_,xs,Z',.inl ⟨h1,λl hl=>?_⟩⟩;have e:rc X.K H (upd H l (.tup xs)):=.new hl;exact k _ _ _ _ (.tup (.of qz) (h2.mono e)) (hm.add hl) e q
 .obtain⟨v,rfl,hv⟩:=sU hd;obtain⟨a,xs,rfl,h1,h2⟩:=hv.m8;refine wO YL s Y H _ us Q' I rv ⟨_,xs,Z',.inl ⟨h1.sq,λl hl=>?_⟩⟩;have e:rc X.K H (upd H l (.tup xs)):=.new hl;exact k _ _ _ _ (.tup (.of qz) (h2.mono e)) (hm.add hl) e q
 .exact q.elim
def Sm(ds:T0 D)(M:Mp)(Q:DK):Prop:=match ds with
 | [d]=>(NY M d).elim False λes=>∀p,M p=Fa->Q (.ref p) (pQ M p (.lst es))
 | _=>False
def rW:C3 X (.type "list") Sm:=by
 intro YL s Y H vs us Q' I rv h;obtain⟨ds,M,Q,hd,hm,q,k⟩:=h;unfold Sm at q;split at q
 .obtain⟨v,rfl,hv⟩:=sU hd;obtain⟨es,e0,q⟩:=rE q;obtain⟨p,xs,rfl,h1,h2⟩:=FP hm hv e0;refine EV YL s Y H _ us Q' I rv ⟨p,xs,Z',h1,λl hl=>?_⟩;have e:rc X.K H (upd H l (.lst xs)):=.new hl;exact k _ _ _ _ .ref (hm.new (c:=.lst es) hl ⟨_,qz,h2.mono e⟩) e (q l (hm.fresh hl))
 .exact q.elim
theorem xH{K:qE}{f:Str}:∀{fs:T0 (Str×D)} {vs:T0 (Str×V)},Dv K H fs vs->(∀d,fs.lookup f=ga d->∃v,vs.lookup f=ga v/\sr K H d v)/\(fs.lookup f=Fa->vs.lookup f=Fa)
 | [],[],_=>⟨λd e=>by simp at e,λ_=>rfl⟩
 | [],_::_,h=>by have:=h.1;simp at this
 | _::_,[],h=>by have:=h.1;simp at this
 | (g,d)::fs,(g',v)::vs,h=>by
  have h1:g'=g/\vs.map (·.1)=fs.map (·.1):=by
   have:=h.1
   simpa using this
  obtain⟨x,r,e,a,b⟩:=h.2.inv;have e':v::vs.map (·.2)=x::r:=e;cases e';obtain⟨i1,i2⟩:=xH (f:=f) (fs:=fs) (vs:=vs) ⟨h1.2,b⟩;rw[h1.1];refine⟨λd' e=>?_,λe=>?_⟩
  .rw[eF]at e ⊢;cases q:f==g with
   | true=>rw[q]at e;cases e;exact⟨v,Z',a⟩
   | false=>rw[q]at e;exact i1 d' e
  .rw[eF]at e ⊢;cases q:f==g with
   | true=>rw[q]at e;cases e
   | false=>rw[q]at e;exact i2 e
theorem Kc{f:Str}{d:D}:∀{fs:T0 (Str×D)},fs.lookup f=ga d->f∈fs.map (·.1)
 | [],h=>by simp at h
 | (g,e)::r,h=>by
  rw[eF]at h;cases q:f==g with
  | true=>
   have z:f=g:=by simpa using q
   rw[z,dY];exact dC
  | false=>rw[q]at h;simp[Kc h]
def AO(o:Option uR)(F:Uf->T0 (Str×D)->Prop):Prop:=match o with
 | some (.ins C fs)=>F C fs
 | _=>False
def pI{o:Option uR}{F:Uf->T0 (Str×D)->Prop}{C:Uf}{fs:T0 (Str×D)}(e:o=ga (.ins C fs))(h:F C fs):AO o F:=by rw[e];exact h
def yg{o:Option uR}(h:AO o F):∃C fs,o=ga (.ins C fs)/\F C fs:=by
 unfold AO at h;split at h
 .exact⟨_,_,Z',h⟩
 .exact h.elim
def Xk(f:Str)(ta:T3):T3:=λU M Q=>ta U M λx M1=>match x with
 | .ref a=>AO (M1 a) λ_ fs=>(fs.lookup f).elim False λd=>Q d M1
 | _=>False
def pN{f:Str}(he:E3 X o ta)(hb:Rs o f X.env (wp o X.env)=wp o X.env:=by rfl):E3 X (.Attribute o f pos) (Xk f ta):=PE.mono (UZ he hb) λY H Q' zz=>x7 zz λU M Q hs hm ht k=>
 ⟨U,M,_,hs,hm,ht,λv H1 d M1 hd YN e1 q1=>by
  cases d with
  | ref a=>cases hd.mI;obtain⟨C,fs,e,q1⟩:=yg q1;obtain⟨d,e2,q⟩:=rE q1;obtain⟨dx,vs,h1,cl,na,fo⟩:=YN a _ e;obtain⟨v,e3,hv⟩:=(xH fo).1 d e2;exact⟨a,C,dx,vs,v,Z',h1,cl,na f (Kc e2),e3,k v H1 d M1 hv YN e1 q⟩
  | _=>exact q1.elim⟩
noncomputable def wW(f:Str)(v:D):T0 (Str×D)->T0 (Str×D)
 | []=>[(f,v)]
 | (g,u)::r=>if g=f then(g,v)::r else(g,u)::wW f v r
theorem Fz{K:qE}{f:Str}(hv:sr K H d v):∀{fs:T0 (Str×D)} {vs:T0 (Str×V)},Dv K H fs vs->Dv K H (wW f d fs) (wq f v vs)
 | [],[],_=>⟨Z',.cons hv .nil⟩
 | [],_::_,h=>by have:=h.1;simp at this
 | _::_,[],h=>by have:=h.1;simp at this
 | (g,e)::fs,(g',u)::vs,h=>by
  have h1:g'=g/\vs.map (·.1)=fs.map (·.1):=by
   have:=h.1
   simpa using this
  obtain⟨x,r,e1,a,b⟩:=h.2.inv;have e':u::vs.map (·.2)=x::r:=e1;cases e';obtain⟨hg,ht⟩:=h1;subst hg;rw[show wW f d ((g',e)::fs)=(if g'=f then(g',d)::fs else(g',e)::wW f d fs)from Z',show wq f v ((g',u)::vs)=(if g'=f then(g',v)::vs else(g',u)::wq f v vs)from Z'];by_cases q:g'=f
  .rw[de q,de q];exact⟨by simpa using ht,.cons hv b⟩
  .rw[cY q,cY q];obtain⟨i1,i2⟩:=Fz hv (fs:=fs) (vs:=vs) ⟨ht,b⟩;exact⟨by simpa using i1,.cons a i2⟩
theorem Cy{f:Str}:∀{fs:T0 (Str×D)} {g:Str},g∈(wW f d fs).map (·.1)->g=f\/g∈fs.map (·.1)
 | [],g,h=>.inl (by simpa [wW]using h)
 | (k,e)::r,g,h=>by
  rw[show wW f d ((k,e)::r)=(if k=f then(k,d)::r else(k,e)::wW f d r)from Z']at h;by_cases q:k=f
  .rw[de q]at h;exact .inr (by simpa using h)
  .rw[cY q]at h;rw[dY,dg]at h;rcases h with h|h
   .exact .inr (by simp[h])
   .rcases Cy h with z|z
    .exact .inl z
    .exact .inr (by simp;right;simpa using z)
def Wp(K:qE)(f:Str)(ta tv:T3):xU:=λD U M=>tv U M λy M1=>ta U M1 λx M2=>match x with
 | .ref a=>AO (M2 a) λC fs=>uL K C f/\fs.length<1000/\D.nx U (pQ M2 a (.ins C (wW f y fs)))
 | _=>False
def qw{f:Str}(ha:E3 X o ta)(hv:E3 X value tv)(ZF:sK value (ga (.Attribute o f YW)) pos.line X.env=pure pc:=by rfl):S3 X (.Assign [.Attribute o f YW] value pos) (Wp X.K f ta tv):=
 PS.mono (UY ha hv ZF) λD' Y H zz=>L' zz λU M D hs hm ht k1 k2 k3 k4=>
 ⟨U,M,_,hs,hm,ht,λy H1 dy M1 hy YN e1 q1=>⟨U,M1,_,hs.mono e1,YN,q1,λv H2 d M2 hd Y9 e2 q2=>by
  cases d with
  | ref a=>
   cases hd.mI;obtain⟨C,fs,e,q2⟩:=yg q2;obtain⟨na,hl,q⟩:=q2;obtain⟨dx,vs,h1,cl,nn,fo⟩:=Y9 a _ e;have YS:vs.length=fs.length:=by have:=eE List.length fo.1;simpa using this
   refine⟨a,C,dx,vs,Z',h1,cl,na,by lia,?_⟩;obtain⟨ZM,e3⟩:=Y9.put (p:=a) (o:=.ins C dx (wq f y vs)) (c:=.ins C (wW f dy fs)) e λx=>⟨dx,_,qz,cl,λg hg=>by
    rcases Cy hg with z|z
    .rw[z];exact na
    .exact nn g z,Fz ((hy.mono e2).mono x) (fo.mono x)⟩
   exact k1 Y _ U _ (hs.mono (e1.trans (e2.trans e3))) ZM (e1.trans (e2.trans e3)) Z' q
  | _=>exact q2.elim⟩⟩
def Si(C:Uf)(sp:rH)(t:xt):T3:=λU M Q=>t U M λds M1=>∀x,M1 x=Fa->sp (.ref x::ds) (pQ M1 x (.ins C [])) λd M2=>d=.mM/\Q (.ref x) M2
def Nk{K:qE}{xa dx:Uf}(hm:HM K H M)(cl:Cls K C)(h1:H xa=Fa)(h2:H dx=Fa)(ne:dx≠xa):HM K (upd (upd H dx (.own xa)) xa (.ins C dx [])) (pQ M xa (.ins C []))/\rc K H (upd (upd H dx (.own xa)) xa (.ins C dx [])):=by
 have Zv:upd H dx (.own xa) xa=Fa:=by rw[qo (dW ne)];exact h1
 exact⟨(hm.add (p:=dx) (o:=.own xa) h2).new Zv ⟨dx,[],qz,cl,λg hg=>by simp at hg,Z',.nil⟩,rc.trans (.new h2) (.new Zv)⟩
def PX(cl:Cls X.K C)(Mk':Mk X.K C f)(F:Vh X.prog X.w X.K X.mg X.base k f fd ps sp)(hr:sG (k+1) X.A)(hg:Gl X x)(hm:X.mg x=ga (.ref C))(hb:vc X.K fd ps [])(ha:A3 X (e::es) t) (Y7:Ab x:=by decide) (he:Bt X e es:=by rfl) (Y6:C5 X pos es:=by rfl):
  E3 X (.Call (.Name x p) (e::es) [] pos) (Si C sp t):=PE.mono (Q2 Mk' F hr hg hm hb .nil (GI (X:=X)) ha Y7 he Y6) λY H Q' zz=>x7 zz λU M Q hs hm ht k=>
 ⟨U,M,_,hs,hm,ht,λvs H1 ds M1 hd YN e1 q1=>λxa dx n1 n2 ne=>by
  obtain⟨Y9,e2⟩:=Nk YN cl n1 n2 ne;refine⟨.ref xa::ds,_,_,?_,Y9,q1 xa (YN.fresh n1),λv H3 d M3 hd3 ZM e3 q3=>?_⟩
  .rw[eG];exact .cons .ref (hd.mono e2)
  .obtain⟨z,q3⟩:=q3;subst z;exact⟨hd3.mK,k _ H3 _ M3 .ref ZM (e1.trans (e2.trans e3)) q3⟩⟩
def Jp(m:Str)(R:Uf->Sp->Prop)(ta:TE)(t:TA):TE:=λY H Q=>ta Y H λx H1=>∃a C dx fs sp,x=.ref a/\H1 a=ga (.ins C dx fs)/\fs.lookup m=Fa/\R C sp/\t Y H1 λvs H2=>sp (x::vs) H2 Q E0
def xW(P:Pg)(w:Wo)(K:qE)(mg:QQZ)(base:Go)(k:Nat)(m:Str)(C:Uf)(sp:Sp):Prop:=Cls K C/\∃f fd ps,wj K C m f/\xS P w K mg base Py k f fd ps sp/\vc K fd ps []
def O2{R:Uf->Sp->Prop}{ta:TE}{t:TA}{pl:Sem Bool}(he:PE X o ta)(hR:∀C sp,R C sp->xW X.prog X.w X.K X.mg X.base k m C sp)(hr:sG k X.A)(ha:PA X (e::es) t) (Zd:Bt X e es:=by rfl) (Y6:C5 X pos es:=by rfl)
  (ht:wp (.Call (.Attribute o m YO) (e::es) [] pos) X.env=(do
   let ov<-wp o X.env
   XXc YO.atName
   let(f,first)<-ZB [ov] (o0 ov m pl)
   XXh pos f first (sB pos (Tl (e::es) X.env)) (IN pos (Ps [] X.env))):=by rfl):
  PE X (.Call (.Attribute o m YO) (e::es) [] pos) (Jp m R ta t):=by
 intro YL s Y H Q I h;refine j3 (pl:=pl) (tj (he YL s Y H _ I h) λu s1 zz=>?_) ht;obtain⟨x,H1,I1,rx,a,C,dx,fs,sp,ex,ea,l,hRC,q⟩:=zz;obtain⟨c,f,fd,ps,hm,F,hb⟩:=hR C sp hRC;subst ex;obtain rfl:u=Value.ref a:=rx;refine C6 I1 ea c hm l ?_;refine iT (first:=[.ref a]) (h₀:=X.base) I.ok.mod.oz hm.kp (tj (ha pos YL s1 Y H1 _ I1 q) λus s2 zz=>x5 zz λvs H2 I2 r q2=>⟨I2.nE,?_⟩) Zd Y6;exact EZ (us:=.ref a::us) (vs:=.ref a::vs) F hr hb .nil (GI (X:=X)) I2 (.cons Z' r) (by rw[eG];exact q2)
def LV{R:Uf->Sp->Prop}{ta:TE}{pl:Sem Bool}(he:PE X o ta)(hR:∀C sp,R C sp->xW X.prog X.w X.K X.mg X.base k m C sp)(hr:sG k X.A) (ht:wp (.Call (.Attribute o m YO) [] [] pos) X.env=(do
   let ov<-wp o X.env
   XXc YO.atName
   let(f,first)<-ZB [ov] (o0 ov m pl)
   XXh pos f first (sB pos (Tl [] X.env)) (IN pos (Ps [] X.env))):=by rfl):
  PE X (.Call (.Attribute o m YO) [] [] pos) (Jp m R ta Vt):=by
 intro YL s Y H Q I h;refine j3 (pl:=pl) (tj (he YL s Y H _ I h) λu s1 zz=>?_) ht;obtain⟨x,H1,I1,rx,a,C,dx,fs,sp,ex,ea,l,hRC,q⟩:=zz;obtain⟨c,f,fd,ps,hm,F,hb⟩:=hR C sp hRC;subst ex;obtain rfl:u=Value.ref a:=rx;refine C6 I1 ea c hm l ?_;exact W.callWith_K0 (first:=[.ref a]) I1.nE hm.kp (EZ (us:=[.ref a]) (vs:=[.ref a]) F hr hb .nil (GI (X:=X)) I1 (.cons Z' .nil) (by rw[eG];exact q))
def Bk(m:Str)(R:Uf->rH->Prop)(ta:T3)(t:xt):T3:=λU M Q=>ta U M λx M1=>match x with
 | .ref a=>AO (M1 a) λC fs=>fs.lookup m=Fa/\∃sp,R C sp/\t U M1 λds M2=>sp (x::ds) M2 Q
 | _=>False
def XC(K:qE)(R:Uf->rH->Prop):Uf->Sp->Prop:=λC sp'=>∃sp,R C sp/\sp'=Px K sp
def Kt:∀Y H Q',lo X.K (Bk m R ta t) Y H Q'->Jp m (XC X.K R) (lo X.K ta) (Yo X.K t) Y H Q':=λY H Q' zz=>x7 zz λU M Q hs hm ht k=>
 ⟨U,M,_,hs,hm,ht,λv H1 d M1 hd YN e1 q1=>by
  cases d with
  | ref a=>cases hd.mI;obtain⟨C,fs,e,q1⟩:=yg q1;obtain⟨hn,sp,hR,q⟩:=q1;obtain⟨dx,vs,h1,cl,na,fo⟩:=YN a _ e;exact⟨a,C,dx,vs,_,Z',h1,(xH fo).2 hn,⟨sp,hR,Z'⟩,U,M1,_,hs.mono e1,YN,q,λus H2 ds M2 Z5 Y9 e2 q2=>⟨.ref a::ds,M2,Q,.cons .ref Z5,Y9,q2,wc (e1.trans e2) k⟩⟩
  | _=>exact q1.elim⟩
def FW{R:Uf->rH->Prop}{pl:Sem Bool}(he:E3 X o ta)(hR:∀C sp,R C sp->xW X.prog X.w X.K X.mg X.base k m C (Px X.K sp))(hr:sG k X.A)(ha:A3 X (e::es) t) (Zd:Bt X e es:=by rfl) (Y6:C5 X pos es:=by rfl)
  (ht:wp (.Call (.Attribute o m YO) (e::es) [] pos) X.env=(do
   let ov<-wp o X.env
   XXc YO.atName
   let(f,first)<-ZB [ov] (o0 ov m pl)
   XXh pos f first (sB pos (Tl (e::es) X.env)) (IN pos (Ps [] X.env))):=by rfl):
  E3 X (.Call (.Attribute o m YO) (e::es) [] pos) (Bk m R ta t):=PE.mono (O2 (R:=XC X.K R) he (λC sp' ⟨sp,h,z⟩=>by rw[z];exact hR C sp h) hr ha Zd Y6 ht) Kt
def Aq{R:Uf->rH->Prop}{pl:Sem Bool}(he:E3 X o ta)(hR:∀C sp,R C sp->xW X.prog X.w X.K X.mg X.base k m C (Px X.K sp))(hr:sG k X.A) (ht:wp (.Call (.Attribute o m YO) [] [] pos) X.env=(do
   let ov<-wp o X.env
   XXc YO.atName
   let(f,first)<-ZB [ov] (o0 ov m pl)
   XXh pos f first (sB pos (Tl [] X.env)) (IN pos (Ps [] X.env))):=by rfl):
  E3 X (.Call (.Attribute o m YO) [] [] pos) (Bk m R ta ya):=PE.mono (LV (R:=XC X.K R) he (λC sp' ⟨sp,h,z⟩=>by rw[z];exact hR C sp h) hr ht) λY H Q' h=>by
 obtain⟨U,M,Q,hs,hm,ht,k⟩:=Kt (t:=ya) Y H Q' h;refine⟨U,M,Q,hs,hm,ht,λv H' d M' x1 x2 x3 x4=>?_⟩;obtain⟨a,C,dx,fs,sp,e1,e2,e3,e4,δ',YQ,Q'',y1,y2,y3,y4⟩:=k v H' d M' x1 x2 x3 x4;exact⟨a,C,dx,fs,sp,e1,e2,e3,e4,y4 [] H' [] YQ .nil y2 .refl y3⟩
structure F7(K:qE)(H1:Hp)(J:It)(ds:List D)(ok:Mp->Prop):Prop where
 go:∀i H M,i<ds.length->HM K H M->ok M->rc K H1 H->J.go i H
 oY:∀i d H M x H',ds[i]?=ga d->HM K H M->ok M->rc K H1 H->J.oY i H x H'->sr K H' d x/\HM K H' M/\rc K H H'
 stop:∀H M,HM K H M->ok M->rc K H1 H->J.stop ds.length H
abbrev MY:=vV->Mp->(T0 D->(Mp->Prop)->Mp->Prop)->Prop
def Yf(K:qE)(wi:MY):TI:=λY H R'=>Ed λU M R=>AC K H Y U/\HM K H M/\wi U M R/\∀J H1 ds ok M1,F7 K H1 J ds ok->HM K H1 M1->rc K H H1->ok M1->R ds ok M1->R' J H1
def I3(X:Cx)(tg iter:zn)(wi:MY):Prop:=PI X tg iter (Yf X.K wi)
def PI.mono{t t':TI}(h:PI X tg e t)(m:∀Y H Q,t' Y H Q->t Y H Q):PI X tg e t':=λYL s Y H Q I q=>h YL s Y H Q I (m Y H Q q)
variable {H1:Hp}
def Np:F7 K H1 (W8 K a) ds (λM=>oP M a=ga ds) where
 go:=λi H M hi hm ok _=>by obtain⟨xs,h1,h2,_⟩:=qp hm ok;obtain⟨x,e,_⟩:=h2.get (cV hi);exact⟨xs,x,h1,e⟩
 oY:=λi d H M x H' hd hm ok _ y=>by obtain⟨xs,h1,h2,_⟩:=qp hm ok;obtain⟨e,y⟩:=y;subst e;obtain⟨x',e,hx⟩:=h2.get hd;have:=y xs h1;rw[e]at this;cases this;exact⟨hx,hm,.refl⟩
 stop:=λH M hm ok _=>by obtain⟨xs,h1,h2,_⟩:=qp hm ok;exact⟨xs,h1,by rw[h2.length];exact dq _⟩
def R7(h1:wg K H1 a xs)(h2:qA K H1 ds xs):F7 K H1 (XT K a) ds (λ_=>True) where
 go:=λi H M hi hm ok e1=>by obtain⟨x,e,_⟩:=h2.get (cV hi);exact⟨xs,x,e1.t _ _ h1,e⟩
 oY:=λi d H M x H' hd hm ok e1 y=>by obtain⟨e,y⟩:=y;subst e;obtain⟨x',e,hx⟩:=h2.get hd;have:=y xs (e1.t _ _ h1);rw[e]at this;cases this;exact⟨hx.mono e1,hm,.refl⟩
 stop:=λH M hm ok e1=>⟨xs,e1.t _ _ h1,by rw[h2.length];exact dq _⟩
def UB(h1:Rl K H1 a xs)(h2:qA K H1 ds xs):F7 K H1 (W8 K a) ds (λ_=>True) where
 go:=λi H M hi hm ok e1=>by obtain⟨x,e,_⟩:=h2.get (cV hi);exact⟨xs,x,(h1.mono e1).sq,e⟩
 oY:=λi d H M x H' hd hm ok e1 y=>by obtain⟨e,y⟩:=y;subst e;obtain⟨x',e,hx⟩:=h2.get hd;have:=y xs (h1.mono e1).sq;rw[e]at this;cases this;exact⟨hx.mono e1,hm,.refl⟩
 stop:=λH M hm ok e1=>⟨xs,(h1.mono e1).sq,by rw[h2.length];exact dq _⟩
def EJ{lo:Int}:F7 K H1 (VG lo n) ((List.range n).map λi=>D.int (lo+(i:Nat))) (λ_=>True) where
 go:=λi H M hi hm ok e1=>by
  have z:i<n:=by simpa using hi
  exact z
 oY:=λi d H M x H' hd hm ok e1 y=>by
  obtain⟨e,y⟩:=y;subst e;subst y;have hi:i<n:=by
   have:=(cX.mp hd).1
   simpa using this
  have hd':d=D.int (lo+(i:Nat)):=by rw[dv,gO hi]at hd;exact(df hd).symm
  subst hd';exact⟨.int,hm,.refl⟩
 stop:=λH M hm ok e1=>by show n<=_;simp
variable {scope:XXd}{ix:T0 (Option Nat)}{N':QQQ}{iter ZE:zn}{Zn:T0 zn}{wi:MY}{g:Ey}{tt:Bf}{te:T3}{tg:zn}
def WD(t:T3):MY:=λU M R=>t U M λx M1=>match x with
 | .tup ds=>R ds (λ_=>True) M1
 | .ref a=>(oP M1 a).elim False λds=>R ds (λM=>oP M a=ga ds) M1
 | .rl ds=>R ds (λ_=>True) M1
 | .str z=>R (z.cps.toList.map λc=>D.str ⟨#[c]⟩) (λ_=>True) M1
 | _=>False
def P'{K:qE}:F7 K H1 (Xp z) (z.cps.toList.map λc=>D.str ⟨#[c]⟩) (λ_=>True) where
 go:=λi H M hi hm ok _=>by
  show i<z.cps.size
  simpa using hi
 oY:=λi d H M x H' hd hm ok _ y=>by obtain⟨e,c,e1,e2⟩:=y;subst e e2;rw[dv,Array.getElem?_toList,e1]at hd;cases hd;exact⟨.str,hm,.refl⟩
 stop:=λH M hm ok _=>by show _=z.cps.size;simp
def qV{t:T3}(h:E3 X l t)(hc:X.calm=Db:=by rfl):I3 X tg l (WD t):=PI.mono (QO hc h) λY H R' zz=>x7 zz λU M R hs hm ht k=>
 ⟨U,M,_,hs,hm,ht,λv H1 d M1 hd YN e1 q1=>by
  cases d with
  | tup ds=>obtain⟨a,xs,rfl,h1,h2⟩:=hd.mQ;exact .inl ⟨a,Z',.inr ⟨⟨xs,h1⟩,k _ H1 ds _ M1 (R7 h1 h2) YN e1 trivial q1⟩⟩
  | ref a=>cases hd.mI;obtain⟨ds,e0,q⟩:=rE q1;obtain⟨xs,h1,h2,_⟩:=qp YN e0;exact .inl ⟨a,Z',.inl ⟨⟨xs,h1⟩,k _ H1 ds _ M1 Np YN e1 e0 q⟩⟩
  | str z=>exact .inr ⟨z,hd.str_inv,k _ H1 _ _ M1 P' YN e1 trivial q1⟩
  | rl ds=>obtain⟨a,xs,rfl,h1,h2⟩:=hd.m8;exact .inl ⟨a,Z',.inl ⟨⟨xs,h1.sq⟩,k _ H1 ds _ M1 (UB h1 h2) YN e1 trivial q1⟩⟩
  | _=>exact q1.elim⟩
def SC(t:xt):MY:=λU M R=>t U M λds M1=>match ds with
 | [.int j]=>(-(2 ^ 62)<=j/\j<2 ^ 62)/\R ((List.range j.toNat).map λi=>D.int (0+(i:Nat))) (λ_=>True) M1
 | [.int i,.int j]=>(-(2 ^ 62)<=i/\i<2 ^ 62/\-(2 ^ 62)<=j/\j<2 ^ 62)/\R ((List.range (j - i).toNat).map λn=>D.int (i+(n:Nat))) (λ_=>True) M1
 | _=>False
def vi{a:zn}{ta:xt}(hg:Gl X "range")(hm:X.mg "range"=Fa)(ha:A3 X [a] ta)(hs:Tl [a] X.env=[(pc,wp a X.env)]:=by rfl):I3 X tg (.Call (.Name "range" p) [a] [] pos) (SC λU M Q=>ta U M λds M1=>ds.length=1/\Q ds M1):=
 PI.mono (KW hg hm ha hs) λY H R' zz=>x7 zz λU M R hs hm ht k=>⟨U,M,_,hs,hm,ht,λvs H1 ds M1 hd YN e1 q1=>by
  obtain⟨hl,q1⟩:=q1;split at q1
  .obtain⟨v,rfl,hv⟩:=sU hd;cases hv.int_inv;exact⟨_,Z',q1.1.1,q1.1.2,k _ H1 _ _ M1 EJ YN e1 trivial q1.2⟩
  .simp at hl
  .exact q1.elim⟩
def K3{a b:zn}{ta:xt}(hg:Gl X "range")(hm:X.mg "range"=Fa)(ha:A3 X [a,b] ta)(hs:Tl [a,b] X.env=[(pc,wp a X.env),(pc,wp b X.env)]:=by rfl)(Zt:Tl [b] X.env=[(pc,wp b X.env)]:=by rfl):
  I3 X tg (.Call (.Name "range" p) [a,b] [] pos) (SC λU M Q=>ta U M λds M1=>ds.length=2/\Q ds M1):=
 PI.mono (Lm hg hm ha hs Zt) λY H R' zz=>x7 zz λU M R hs hm ht k=>⟨U,M,_,hs,hm,ht,λvs H1 ds M1 hd YN e1 q1=>by
  obtain⟨hl,q1⟩:=q1;split at q1
  .simp at hl
  .obtain⟨v,u,rfl,hv,hw⟩:=B4 hd;cases hv.int_inv;cases hw.int_inv;exact⟨_,_,Z',q1.1,k _ H1 _ _ M1 EJ YN e1 trivial q1.2⟩
  .exact q1.elim⟩
def Fb(g:Ey)(tb:xU)(ok:Mp->Prop)(E:Hl):T0 D->vV->Mp->Prop
 | [],U,M=>E.nx U M
 | d::r,U,M=>g d U M λδ2 M2=>tb {E with nx:=λδ' M'=>ok M'/\Fb g tb ok E r δ' M',ct:=λδ' M'=>ok M'/\Fb g tb ok E r δ' M',bk:=E.nx} δ2 M2
def VA(wi:MY)(g:Ey)(tb:xU):xU:=λE U M=>wi U M λds ok M1=>Fb g tb ok E ds U M1
def vg{tb:xU}(hp:PassesOwn (Tk X.prog X.w) X.A X.env X.xe)(hc:X.calm=Db)(hi:I3 X tg iter wi)(hg:G3 X tg g)(hb:Ig X body tb) (hs:∀x,XV iter X.env x=pure x:=by intro _;rfl):S3 X (.For tg iter body [] pos) (VA wi g tb):=PS.mono (Ti hp hc hi hg hb hs) λD' Y H zz=>L' zz λU M E hs hm ht k1 k2 k3 k4=>
 ⟨U,M,_,hs,hm,ht,λJ H1 ds ok M1 S YN e1 ok1 q1=>by
  refine⟨λi m σ' H'=>m=ds.length - i/\i<=ds.length/\∃δ' M',AC X.K H' σ' δ'/\HM X.K H' M'/\ok M'/\rc X.K H1 H'/\σ'.length=Y.length/\Fb g tb ok E (ds.drop i) δ' M',⟨ds.length,by simp,eK _,U,M1,hs.mono e1,YN,ok1,.refl,Z',by simpa using q1⟩,?_⟩
  rintro i m σ' H' ⟨rfl,hi,δ',M',hs',hm',ok',e',l',q'⟩
  by_cases YV:i<ds.length
  .rw[iq YV]at q';refine .inr ⟨S.go i H' M' YV hm' ok' e',λσ2 H2=>∃δ2 M2,AC X.K H2 σ2 δ2/\HM X.K H2 M2/\ok M2/\rc X.K H1 H2/\σ2.length=Y.length/\Fb g tb ok E (ds.drop (i+1)) δ2 M2,λσ2 H2 z=>⟨ds.length - (i+1),by lia,Z',YV,z⟩,λx H2 y=>?_⟩;obtain⟨hx,Y9,e2⟩:=S.oY i ds[i] H' M' x H2 (cV YV) hm' ok' e' y;refine⟨ds[i],δ',M',_,hx,hs'.mono e2,Y9,q',λσ3 H3 δ3 M3 x1 x2 x3 x4 x5=>?_⟩;refine⟨δ3,M3,_,x1,x2,x5,λσ4 H4 δ4 M4 y1 y2 y3 y4 y5=>?_,λv H4 d M4 y1 y2 y3 y4=>?_,λσ4 H4 δ4 M4 y1 y2 y3 y4 y5=>?_,λσ4 H4 δ4 M4 y1 y2 y3 y4 y5=>?_⟩
   .exact⟨δ4,M4,y1,y2,y5.1,e'.trans (e2.trans (x3.trans y3)),by rw[y4,x4,l'],y5.2⟩
   .exact k2 v H4 d M4 y1 y2 (e1.trans (e'.trans (e2.trans (x3.trans y3)))) y4
   .exact k1 σ4 H4 δ4 M4 y1 y2 (e1.trans (e'.trans (e2.trans (x3.trans y3)))) (by rw[y4,x4,l']) y5
   .exact⟨δ4,M4,y1,y2,y5.1,e'.trans (e2.trans (x3.trans y3)),by rw[y4,x4,l'],y5.2⟩
  .have e:i=ds.length:=by lia
   subst e;rw[jM]at q';exact .inl ⟨S.stop H' M' hm' ok' e',k1 σ' H' δ' M' hs' hm' (e1.trans e') l' q'⟩⟩
noncomputable def RS(ix:T0 (Option Nat))(U:vV):vV:=ix.map λo=>o.bind λi=>(U[i]?).join
def RN{K:qE}(h:AC K H Y U):AC K H (PY ix Y) (RS ix U):=λi d q=>by
 unfold RS at q;unfold PY;rw[dv]at q ⊢;cases e:ix[i]? with
 | none=>rw[e]at q;cases q
 | some o=>
  rw[e]at q;cases o with
  | none=>cases q
  | some j=>
   have q':(U[j]?).join=ga d:=df q;have e4:U[j]?=ga (ga d):=by
    cases r:U[j]? with
    | none=>rw[r]at q';cases q'
    | some w=>rw[r]at q';exact eE ga q'
   obtain⟨v,e5,hv⟩:=h j d e4;refine⟨v,?_,hv⟩;show ga ((Y[j]?).join)=ga (ga v);rw[e5];rfl
def ve(g:Ey)(tt:Bf)(te:T3)(ok:Mp->Prop)(Q:DK):T0 D->T0 D->vV->Mp->Prop
 | [],acc,_,M=>acc.length<=Ch/\∀p,M p=Fa->Q (.ref p) (pQ M p (.lst acc))
 | d::r,acc,U,M=>acc.length<Ch/\g d U M λδ2 M2=>tt δ2 M2 λb M3=>if b=Db then te δ2 M3 λy M4=>ok M4/\ve g tt te ok Q r (acc++[y]) δ2 M4 else ok M3/\ve g tt te ok Q r acc δ2 M3
def OK(ix:T0 (Option Nat))(wi:MY)(g:Ey)(tt:Bf)(te:T3):T3:=λU M Q=>wi U M λds ok M1=>ve g tt te ok Q ds [] (RS ix U) M1
def F3(X:Cx)(Zn:T0 zn)(t:Bf):Prop:=PF X Zn (Vk X.K t)
def PF.mono{e:T0 zn}{t t':TT}(h:PF X e t)(m:∀Y H Q,t' Y H Q->t Y H Q):PF X e t':=λYL s Y H Q I q=>h YL s Y H Q I (m Y H Q q)
def CA:Bf:=λ_ M Q=>Q Db M
def rX:F3 X [] CA:=PF.mono Tc λY H Q' zz=>x7 zz λU M Q hs hm ht k=>k Db H M hm .refl ht
def vE{t:Bf}(h:B3 X c t):F3 X [c] t:=Us h
def JM:∀Y H Q',lo X.K (OK ix wi g tt te) Y H Q'->NI ix (Yf X.K wi) (W1 X.K g) (Vk X.K tt) (lo X.K te) Y H Q':=λY H Q' zz=>x7 zz λU M Q hs hm ht k=>
 ⟨U,M,_,hs,hm,ht,λJ H1 ds ok M1 S YN e1 ok1 q1=>by
  refine⟨λi m ys σ' H'=>m=ds.length - i/\i<=ds.length/\∃δ' M' acc,AC X.K H' σ' δ'/\HM X.K H' M'/\qA X.K H' acc ys/\ok M'/\rc X.K H1 H'/\ve g tt te ok Q (ds.drop i) acc δ' M',⟨ds.length,by simp,eK _,RS ix U,M1,[],RN (hs.mono e1),YN,.nil,ok1,.refl,by simpa using q1⟩,?_⟩
  rintro i m ys σ' H' ⟨rfl,hi,δ',M',acc,hs',hm',ha',ok',e',q'⟩
  by_cases YV:i<ds.length
  .rw[iq YV]at q';obtain⟨hz,q'⟩:=q';refine .inr ⟨S.go i H' M' YV hm' ok' e',by rw[<-ha'.length];exact hz,λx H2 y=>?_⟩;obtain⟨hx,Y9,e2⟩:=S.oY i ds[i] H' M' x H2 (cV YV) hm' ok' e' y;refine⟨ds[i],δ',M',_,hx,hs'.mono e2,Y9,q',λσ3 H3 δ3 M3 x1 x2 x3 x4 x5=>?_⟩;refine⟨δ3,M3,_,x1,x2,x5,λb H4 M4 y2 y3 y5=>?_⟩;cases b with
   | true=>rw[de Z']at y5 ⊢;refine⟨δ3,M4,_,x1.mono y3,y2,y5,λv H5 d M5 z1 z2 z3 z4=>⟨ds.length - (i+1),by lia,Z',YV,δ3,M5,acc++[d],x1.mono (y3.trans z3),z2,(ha'.mono (e2.trans (x3.trans (y3.trans z3)))).snoc z1,z4.1,e'.trans (e2.trans (x3.trans (y3.trans z3))),z4.2⟩⟩
   | false=>rw[cY dA]at y5 ⊢;exact⟨ds.length - (i+1),by lia,Z',YV,δ3,M4,acc,x1.mono y3,y2,ha'.mono (e2.trans (x3.trans y3)),y5.1,e'.trans (e2.trans (x3.trans y3)),y5.2⟩
  .have e:i=ds.length:=by lia
   subst e;rw[jM]at q';refine .inl ⟨S.stop H' M' hm' ok' e',by rw[<-ha'.length];exact q'.1,λp hp=>?_⟩;have e5:rc X.K H' (upd H' p (.lst ys)):=.new hp;exact k _ _ _ _ .ref (hm'.new (c:=.lst acc) hp ⟨_,qz,ha'.mono e5⟩) (e1.trans (e'.trans e5)) (q'.2 p (hm'.fresh hp))⟩
def qP(hc:X.calm=Db)(S:sO X scope ix N')(hi:I3 X tg iter wi)(hg:∀{C s0 H0 ex},G3 (X.comp scope N' C s0 H0 ex) tg g)(ht:∀{C s0 H0 ex},F3 (X.comp scope N' C s0 H0 ex) Zn tt)(he:∀{C s0 H0 ex},E3 (X.comp scope N' C s0 H0 ex) ZE te) (hs:∀x,XV iter X.env x=pure x:=by intro _;rfl):E3 X (.ListComp ZE [⟨tg,iter,Zn,0⟩] scope pos) (OK ix wi g tt te):=PE.mono (PP (g:=W1 X.K g) (tt:=Vk X.K tt) (te:=lo X.K te) hc S hi (λ_ _ _ _=>hg) (λ_ _ _ _=>ht) (λ_ _ _ _=>he) hs) JM
def uM{i:Nat}{x:Str}{px spos:Pos}(hN:X.N.Nodup)(hix:X.N[i]?=ga x)(hx:Ma X.env.scope x)(hc:X.calm=Db)(S:sO X scope ix N')(hi:I3 X tg iter wi)(hg:∀{C s0 H0 ex},G3 (X.comp scope N' C s0 H0 ex) tg g)(ht:∀{C s0 H0 ex},F3 (X.comp scope N' C s0 H0 ex) Zn tt) (he:∀{C s0 H0 ex},E3 (X.comp scope N' C s0 H0 ex) ZE te) (ZF:sK (.ListComp ZE [⟨tg,iter,Zn,0⟩] scope pos) (ga (.Name x px)) spos.line X.env=pure Db:=by rfl)
  (hf:L9 X x:=by first|exact .inl Z'|exact .inr Z'|assumption) (hs:∀x,XV iter X.env x=pure x:=by intro _;rfl):
  S3 X (.Assign [.Name x px] (.ListComp ZE [⟨tg,iter,Zn,0⟩] scope pos) spos) (HD (OK ix wi g tt te) (rh i)):=PS.nV (IR (g:=W1 X.K g) (tt:=Vk X.K tt) (te:=lo X.K te) hN hix hx hc S hi (λ_ _ _ _=>hg) (λ_ _ _ _=>ht) (λ_ _ _ _=>he) ZF hf hs) λD' Y H hl zz=>L' zz λU M D hs hm ht k1 k2 k3 k4=>
 JM Y H _ ⟨U,M,_,hs,hm,ht,λv H1 d M1 hd YN e1 q1=>k1 _ H1 _ M1 ((hs.mono e1).set hd (by rw[hl];exact(cX.mp hix).1)) YN e1 (by simp) q1⟩
def Yn(hr:sG k A):A.units+9<XXa:=by have:=hr.units;lia
noncomputable def Ja(sc:XXd)(N:QQQ)(scope:XXd)(ix:T0 (Option Nat))(N':QQQ):Bool:=
 (scope.kind==.function)&&(scope.names.all λy=>!(y.2==.cell))&&(scope.names.all λy=>!(y.2==.local)||(scope.names.lookup y.1==ga .local))&&
 (scope.names.all λy=>!(y.2==.free)||(sc.names.lookup y.1==ga .cell)||(sc.names.lookup y.1==ga .free))&&(ix.length==N'.length)&&
 ((ix.zip N').all λp=>match p.1 with|none=>Db|some i=>(N[i]?==ga p.2)&&(scope.names.lookup p.2==ga .free))
def Wu{X:Cx}(h:Ja X.env.scope X.N scope ix N'=Db):sO X scope ix N':=by
 unfold Ja at h;simp only[dU]at h;obtain⟨⟨⟨⟨⟨h1,h2⟩,h3⟩,h4⟩,h5⟩,h6⟩:=h;refine⟨by simpa using h1,λy hy e=>?_,λy hy e=>?_,λy hy e=>?_,by simpa using h5,λj i x e1 e2=>?_⟩
 .have:=eD.mp h2 y hy;rw[e]at this;simp at this
 .have:=eD.mp h3 y hy;rw[e]at this
  simpa using this
 .have:=eD.mp h4 y hy;rw[e]at this
  simpa using this
 .have hm:(ga i,x)∈ix.zip N':=by
   have:(ix.zip N')[j]?=ga (ga i,x):=by rw[ir];exact⟨e1,e2⟩
   exact fm this
  have:=eD.mp h6 _ hm
  simpa using this
section
variable {a b:zn}
def Kp(op ZD:CmpOp)(ta tb tc:T3):T3:=λU M Q=>ta U M λx M1=>tb U M1 λy M2=>KZ op x y M2 λz M3=>match z with
 | .bl k=>if k=Db then tc U M3 λw M4=>KZ ZD y w M4 Q else Q (.bl pc) M3
 | _=>False
def uT{op ZD:CmpOp}(hu:X.A.units+9<XXa)(ha:E3 X a ta)(hb:E3 X b tb)(hc:E3 X c tc)(hmk:lastMarks [op,ZD] [b,c]=pc:=by rfl):
  E3 X (.Compare a [op,ZD] [b,c] pos) (Kp op ZD ta tb tc):=PE.mono (ON (Le op hu) (Le ZD hu) ha hb hc hmk) λY H Q' zz=>x7 zz λU M Q hs hm ht k=>
 ⟨U,M,_,hs,hm,ht,λv H1 x M1 hx YN e1 q1=>⟨U,M1,_,hs.mono e1,YN,q1,λu H2 y M2 hy Y9 e2 q2=>⟨x,y,M2,_,hx.mono e2,hy,Y9,q2,λw H3 z M3 hz ZM e3 q3=>by
  cases z with
  | bl c=>
   refine⟨c,hz.mL,?_⟩;cases c with
   | true=>refine(de Z').mpr ⟨U,M3,_,hs.mono (e1.trans (e2.trans e3)),ZM,(de Z').mp q3,λw' H4 d M4 hd hm4 e4 q4=>⟨y,d,M4,Q,hy.mono (e3.trans e4),hd,hm4,q4,wc (e1.trans (e2.trans (e3.trans e4))) k⟩⟩
   | false=>exact(cY dA).mpr (k _ H3 _ M3 .bl ZM (e1.trans (e2.trans e3)) ((cY dA).mp q3))
  | _=>exact q3.elim⟩⟩⟩
def G7{op ZD:CmpOp}(hu:X.A.units+9<XXa)(ha:E3 X a ta)(hb:E3 X b tb)(hc:E3 X c tc)(hmk:lastMarks [op,ZD] [b,c]=pc:=by rfl):
  B3 X (.Compare a [op,ZD] [b,c] pos) (b3 (Kp op ZD ta tb tc)):=PT.mono (Nl (Le op hu) (Le ZD hu) ha hb hc hmk) λY H Q' zz=>x7 zz λU M Q hs hm ht k=>
 ⟨U,M,_,hs,hm,ht,λv H1 x M1 hx YN e1 q1=>⟨U,M1,_,hs.mono e1,YN,q1,λu H2 y M2 hy Y9 e2 q2=>⟨x,y,M2,_,hx.mono e2,hy,Y9,q2,λw H3 z M3 hz ZM e3 q3=>by
  cases z with
  | bl c=>
   refine⟨c,hz.mL,?_⟩;cases c with
   | true=>
    refine(de Z').mpr ⟨U,M3,_,hs.mono (e1.trans (e2.trans e3)),ZM,(de Z').mp q3,λw' H4 d M4 hd hm4 e4 q4=>⟨y,d,M4,_,hy.mono (e3.trans e4),hd,hm4,q4,λw5 H5 d5 M5 hd5 hm5 e5 q5=>?_⟩⟩;cases d5 with
    | bl c5=>exact⟨c5,hd5.mL,k c5 H5 M5 hm5 (e1.trans (e2.trans (e3.trans (e4.trans e5)))) q5⟩
    | _=>exact q5.elim
   | false=>exact(cY dA).mpr ⟨pc,Z',k pc H3 M3 ZM (e1.trans (e2.trans e3)) ((cY dA).mp q3)⟩
  | _=>exact q3.elim⟩⟩⟩
noncomputable def G2:T0 D->Option (T0 Bool)
 | []=>ga []
 | .bl b::r=>(G2 r).map (b::·)
 | _::_=>Fa
theorem Gn{K:qE}:∀{ds:T0 D} {bs:T0 Bool} {xs:T0 V} {us:T0 Vl},G2 ds=ga bs->qA K H ds xs->qK xs us->us=bs.map Value.bool
 | [],bs,xs,us,e,h,r=>by cases e;have:=h.nil_inv;subst this;cases r;rfl
 | d::ds,bs,xs,us,e,h,r=>by
  cases d with
  | bl b=>
   obtain⟨y,ys,rfl,h1,h2⟩:=h.inv;cases h1.mL;unfold G2 at e;cases q:G2 ds with
   | none=>rw[q]at e;cases e
   | some cs=>
    rw[q]at e;cases e;cases r with
    | cons r1 r2=>cases r1;rw[Gn q h2 r2];rfl
  | _=>cases e
def VE(ds:T0 D)(M:Mp)(Q:DK):Prop:=match ds with
 | [.ref a]=>(oP M a).elim False λes=>(G2 es).elim False λbs=>Q (.bl (bs.all id)) M
 | _=>False
def FR(hc:X.calm=Db):C3 X (.builtin "all") VE:=by
 intro YL s Y H vs us Q' I rv h;obtain⟨ds,M,Q,hd,hm,q,k⟩:=h;unfold VE at q;split at q
 .rename_i a;obtain⟨v,rfl,hv⟩:=sU hd;obtain⟨es,e0,q⟩:=rE q;obtain⟨bs,e1,q⟩:=rE q;cases hv.mI;obtain⟨u,rfl,ru⟩:=yZ rv;cases ru;obtain⟨xs,h1,h2,_⟩:=qp hm e0;obtain⟨its,r,pl,hz⟩:=I.list h1;have eits:=Gn e1 h2 r;subst eits;have Ze:a≠s.heap.objs.size:=by obtain⟨o,_,e,_⟩:=pl;exact dN (dB e)
  refine call_all_walk (g9 pl.isList ?_);refine⟨s.heap.objs.size,_,_,_,_,_,λi=>(bs[i]?).getD Db,Z',ku (A:=X.A.in1) (I.ok.hd hc) _ a Ze (bs.map Value.bool).toArray,⟨⟨_,dJ _ Z',Z',Z'⟩,?_⟩,λi v s' Q E hP hQ=>?_,λh' tk hk=>?_⟩
  .obtain⟨o,n,e,c,d,q⟩:=pl;exact⟨o,c9 _ e,c,n,q⟩
  .simp only[iQ,dv]at hP;cases e2:bs[i]? with
   | none=>rw[e2]at hP;cases hP
   | some b=>rw[e2]at hP;cases hP;have hQ:Q ((bs[i]?).getD Db) s':=hQ;rw[e2]at hQ;exact fk hQ
  .have ea:(List.range (bs.map Value.bool).toArray.size).all (λi=>(bs[i]?).getD Db)=bs.all id:=by
    rw[dw,cT];rw[fM,eD,eD];constructor
    .intro z b hb;obtain⟨i,hi,e⟩:=gP hb;have:=z i (e9.mpr hi);rw[cV hi,e]at this;exact this
    .intro z i hi;have hi':=e9.mp hi;rw[cV hi'];exact z _ (gy hi')
   rw[ea];refine⟨.bl (bs.all id),H,?_,Z',k _ _ _ _ .bl hm .refl q⟩;exact I.kept (h':=h') (t':=tk) λb o e=>hk b o (by simpa using dN (dB e)) (c9 _ e)
 .exact q.elim
noncomputable def yO(x:D):T0 D->Option Nat
 | []=>Fa
 | d::r=>if Qb d x=Db then ga 0 else(yO x r).map (·+1)
theorem JR{K:qE}{e:D}{w:V}(g:sr K H e w)(fe:vw e=Db):∀{ds:T0 D} {xs:T0 V} {us:T0 Vl} {j:Nat},qA K H ds xs->qK xs us->ds.all vw=Db->yO e ds=ga j->
  ∃h:j<us.length,FS w us[j]=Db/\∀m (hm:m<us.length),m<j->FS w us[m]=pc
 | [],_,_,_,_,_,_,q=>by cases q
 | d::ds,_,us,j,h,r,fl,q=>by
  obtain⟨y,ys,rfl,h1,h2⟩:=h.inv;rw[fG,dU]at fl;cases r with
  | @cons _ u _ us' r1 r2=>
   have eu:FS w u=Qb d e:=by rw[Ju r1 (Ah h1 fl.1),JQ h1 g fl.1 fe]
   unfold yO at q;by_cases hq:Qb d e=Db
   .rw[de hq]at q;cases q;exact⟨by simp,by simpa [eu]using hq,λm _ hm=>absurd hm (Nat.not_lt_zero m)⟩
   .rw[cY hq]at q;cases q2:yO e ds with
    | none=>rw[q2]at q;cases q
    | some j'=>
     rw[q2]at q;cases q;obtain⟨hl,e1,e2⟩:=JR g fe h2 r2 fl.2 q2;refine⟨by simpa using hl,by simpa using e1,λm hm YV=>?_⟩;cases m with
     | zero=>simpa [eu]using hq
     | succ m=>simpa using e2 m (by simpa using hm) (by have z:m+1<j'+1:=YV;lia)
def UK(x:D)(ds:T0 D)(M:Mp)(Q:DK):Prop:=match x,ds with
 | .ref a,[y]=>(oP M a).elim False λes=>vw y=Db/\es.all vw=Db/\(yO y es).elim False λj=>Q (.int (j:Nat)) M
 | _,_=>False
def M3(X:Cx)(id:String)(r:D->T0 D->Mp->DK->Prop):Prop:=Ym X id λvx vs H Q'=>∃x ds M Q,sr X.K H x vx/\qA X.K H ds vs/\HM X.K H M/\r x ds M Q/\Up X.K H Q' Q
def Nm:M3 X "list.index" UK:=by
 intro YL s Y H vx vs v us Q' I rx rv h;obtain⟨x,ds,M,Q,hx,hd,hm,q,k⟩:=h;unfold UK at q;split at q
 .rename_i a y;obtain⟨es,e0,f1,f2,q⟩:=rE q;obtain⟨j,e1,q⟩:=rE q;cases hx.mI;cases rx;obtain⟨w,rfl,hw⟩:=sU hd;obtain⟨u,rfl,ru⟩:=yZ rv;obtain⟨xs,h1,h2,rd⟩:=qp hm e0;obtain⟨hz,its,n,r,g⟩:=rd.ok I.mR;obtain⟨hl,p1,p2⟩:=JR hw f1 h2 r f2 e1;have hlz:its.length<=Ch:=by rw[<-r.length];exact hz
  have h63:=zg;refine jx F.slot_list_index ⟨_,g,Z'⟩ F.entry_list_index (F.args_list_index_2 _ _) (SeqAt.list_indexAt a its.toArray n Fa #[] u (FS w) j (by simpa using hl) (by lia) (by simpa using p1) λm hm YV=>by simpa using p2 m (by simpa using hm) YV) ⟨g,?_,?_⟩
  .intro z hz';exact xg ru (Ah hw f1) r (Gg h2 f2) z (by simpa using hz')
  .exact⟨.int (j:Nat),H,I.tok _,⟨_,Z'⟩,k _ _ _ _ .int hm .refl q⟩
 .exact q.elim
def Sa(M:Mp):D->Prop
 | .ref a=>(oP M a).isSome=Db
 | _=>False
def Xj(r:D->T0 D->Mp->DK->Prop)(to:T3)(t:xt):T3:=λU M Q=>to U M λx M1=>Sa M1 x/\t U M1 λds M2=>r x ds M2 Q
def Ul{K:qE}{x:D}(hm:HM K H M)(h:sr K H x v)(l:Sa M x):Yd K "list" v H:=by
 cases x with
 | ref a=>cases h.mI;obtain⟨ds,e⟩:=fH.mp (show(oP M a).isSome=Db from l);obtain⟨xs,h1,_⟩:=qp hm e;exact .inl ⟨Z',xs,h1⟩
 | _=>exact l.elim
def Sn{id:String}(slot:Slot "list" name id)(hty:typeOf (.builtin id)=pure (.type "method_descriptor"))(hm:M3 X id r)(ho:E3 X o ta)(ha:A3 X (e::es) t) (Y0:Rs o name X.env (wp o X.env)=wp o X.env:=by rfl)
  (Z6:((sB pos (Tl (e::es) X.env)).all (λx=>!x.1)&&(IN pos (Ps [] X.env)).all (λx=>x.1.isSome)
   &&decide ((e::es).length+([]:T0 XXe).length+(if ([]:T0 XXe).isEmpty then 0 else 1)<30))=Db:=by rfl)
  (Zc:(YO.endLine==pos.line)=Db:=by rfl) (hs:Bt X e es:=by rfl) (Y8:C5 X pos es:=by rfl):
  E3 X (.Call (.Attribute o name YO) (e::es) [] pos) (Xj r ta t):=PE.mono (WO PySem.F.plainAttrs_list slot hty hm ho ha Y0 Z6 Zc hs Y8) λY H Q' zz=>x7 zz λU M Q hs hm ht k=>
 ⟨U,M,_,hs,hm,ht,λv H1 x M1 hx YN e1 q1=>⟨Ul YN hx q1.1,U,M1,_,hs.mono e1,YN,q1.2,λvs H2 ds M2 Z5 Y9 e2 q2=>⟨x,ds,M2,Q,hx.mono e2,Z5,Y9,q2,wc (e1.trans e2) k⟩⟩⟩
def wG(ho:E3 X o ta)(ha:A3 X (e::es) t) (Y0:Rs o "index" X.env (wp o X.env)=wp o X.env:=by rfl)
  (Z6:((sB pos (Tl (e::es) X.env)).all (λx=>!x.1)&&(IN pos (Ps [] X.env)).all (λx=>x.1.isSome)
   &&decide ((e::es).length+([]:T0 XXe).length+(if ([]:T0 XXe).isEmpty then 0 else 1)<30))=Db:=by rfl)
  (Zc:(YO.endLine==pos.line)=Db:=by rfl) (hs:Bt X e es:=by rfl) (Y8:C5 X pos es:=by rfl):
  E3 X (.Call (.Attribute o "index" YO) (e::es) [] pos) (Xj UK ta t):=Sn PySem.F.slot_list_index PySem.F.type_list_index Nm ho ha Y0 Z6 Zc hs Y8
structure Nv(K:qE)(C:Uf)(m:Str)(f:Uf):Prop where
 hg:W.specialIn K (.ref C) "__getattribute__"=ga (ga (.builtin "type.__getattribute__"))
 rd:W.readsIn K C (.type "type")=Db
 fc:W.findCls K (.ref C) (.type "type") m=ga (.val (.ref f))
def Q8{sp:Sp}{t:TA}{pl:Sem Bool}(cm:Nv X.K C m f)(F:xS X.prog X.w X.K X.mg X.base Py k f fd ps sp)(hr:sG k X.A)(hg:Gl X x)(hm:X.mg x=ga (.ref C))(hk:W.keepIn X.K (.ref f)=Db)(hb:vc X.K fd ps [])(ha:PA X (e::es) t) (Y7:Ab x:=by decide) (Zd:Bt X e es:=by rfl) (Y6:C5 X pos es:=by rfl)
  (ht:wp (.Call (.Attribute (.Name x p) m YO) (e::es) [] pos) X.env=(do
   let ov<-wp (.Name x p) X.env
   XXc YO.atName
   let(f,first)<-ZB [ov] (o0 ov m pl)
   XXh pos f first (sB pos (Tl (e::es) X.env)) (IN pos (Ps [] X.env))):=by rfl):
  PE X (.Call (.Attribute (.Name x p) m YO) (e::es) [] pos) (λY H Q=>t Y H λvs H1=>sp vs H1 Q E0):=by
 intro YL s Y H Q I h;refine j3 (pl:=pl) (xq I hg hm ?_ Y7) ht;refine W.method_cls I.nE cm.hg (W.cls_value I.nE cm.rd cm.fc Z' ?_);refine iT (first:=[]) (h₀:=X.base) I.ok.mod.oz hk (tj (ha pos YL _ Y H _ (I.tok _) h) λus s2 zz=>x5 zz λvs H2 I2 r q2=>⟨I2.nE,?_⟩) Zd Y6;exact EZ F hr hb .nil (GI (X:=X)) I2 r (by rw[eG];exact q2)
def Ri{pl:Sem Bool}(cm:Nv X.K C m f)(F:Vh X.prog X.w X.K X.mg X.base k f fd ps sp)(hr:sG k X.A)(hg:Gl X x)(hm:X.mg x=ga (.ref C))(hk:W.keepIn X.K (.ref f)=Db)(hb:vc X.K fd ps [])(ha:A3 X (e::es) t) (Y7:Ab x:=by decide) (Zd:Bt X e es:=by rfl) (Y6:C5 X pos es:=by rfl)
  (ht:wp (.Call (.Attribute (.Name x p) m YO) (e::es) [] pos) X.env=(do
   let ov<-wp (.Name x p) X.env
   XXc YO.atName
   let(f,first)<-ZB [ov] (o0 ov m pl)
   XXh pos f first (sB pos (Tl (e::es) X.env)) (IN pos (Ps [] X.env))):=by rfl):
  E3 X (.Call (.Attribute (.Name x p) m YO) (e::es) [] pos) (EB sp t):=PE.mono (Q8 cm F hr hg hm hk hb ha Y7 Zd Y6 ht) λY H Q' zz=>x7 zz λU M Q hs hm ht k=>
 ⟨U,M,_,hs,hm,ht,λvs H1 ds M1 hd YN e1 q1=>⟨ds,M1,Q,hd,YN,q1,wc e1 k⟩⟩
def qG:No "len"=ga (.builtin "len"):=by decide+kernel
def Mh:No "min"=ga (.builtin "min"):=by decide+kernel
def Fs:No "all"=ga (.builtin "all"):=by decide+kernel
def sS:No "tuple"=ga (.type "tuple"):=by decide+kernel
def rT:No "list"=ga (.type "list"):=by decide+kernel
def FE:No "dict"=ga (.type "dict"):=by decide+kernel
def Gr:No "enumerate"=ga (.type "enumerate"):=by decide+kernel
def NA:No "zip"=ga (.type "zip"):=by decide+kernel
end
theorem _root_.L2.Inv.drawn{ch:QXQ}{T:Uf}{xs:T0 V}{h':Go}{tk:Nat}(I:Inv X YL Y H s)(ZO:∀b∈ch,zT X YL H b)(k:∀b o,b∉ch->s.heap.get? b=ga o->h'.get? b=ga o)(hT:s.heap.objs.size<=T)(hx:xs.length<=Ch) (rv:qK xs its) (ht:FI h' T its.toArray):Inv X YL Y (upd H T (.tup xs)) {s with heap:=h',toks:=tk}:=by
 have hT0:H T=Fa:=I.mR.fresh hT;have nT:∀b o,s.heap.get? b=ga o->b≠T:=λb o e=>dN (dP (dB e) hT);refine I.step (g':=s.gens) (d':=s.drawn) (ch:=ch) (λb hb=>⟨(ZO b hb).2.2.2.1,(ZO b hb).2.1,(ZO b hb).2.2.2.2.1,(ZO b hb).2.2.2.2.2⟩) (λb o _ _ hc e _=>k b o hc e) (λb o _ _ hc e _=>⟨o.slots,k b o hc e⟩) (λb o _ e n=>by rw[qo (nT b o e)];exact n)
  (λb o hc e=>⟨o,k b o hc e⟩) (λb ys e=>by rw[qo (rm e hT0)];exact e) (λb o u e=>by rw[qo (rm e hT0)];exact e) (λb ps e=>⟨#[],by rw[qo (rm e hT0),e];simp⟩) (λm hm=>?_) (λb u e=>?_) I.bare
 .obtain⟨o,es,ep,ho,r⟩:=hm;exact⟨o,es,ep,k _ o (λz=>(ZO _ z).2.1 Z') ho,r⟩
 .by_cases hb:b=T
  .subst hb;rw[qz]at e;cases e;exact⟨hx,its,rv,ht⟩
  .rw[qo hb]at e;refine(I.mR b u e).nu (λc v hc q=>k c v (λz=>?_) q) (λc q=>by rw[qo (rm q hT0)];exact q) (λc ys q=>by rw[qo (rm q hT0)];exact q);have n:=(ZO c z).1;rcases hc with y|y
   .rw[y,e]at n;cases n
   .rw[y]at n;cases n
noncomputable def Xx(K:qE)(a:Uf):It:=
 ⟨λi H=>∃xs x,xV K H a xs/\xs[i]?=ga x,λi H x H'=>∃p y,x=.ref p/\H p=Fa/\H'=upd H p (.tup [.int (i:Nat),y])/\∀xs,xV K H a xs->xs[i]?=ga y,λi H=>∃xs,xV K H a xs/\xs.length<=i⟩
def LK{K:qE}(a e it:Uf)(hei:e≠it):Hg P w K (.Tuple Zf n tp) (Xx K a) [e,it] e (λi h=>(∃Zk,IsEnum h e it (i:Nat) Zk)/\h.IsListIter it a i) where
 mem:=by simp
 obj:=λi h st b hb=>by
  obtain⟨⟨Zk,he⟩,o,e1,c,d⟩:=st;rcases dg.mp hb with rfl|hb
  .exact⟨_,he,λv z=>by cases z⟩
  .rw[cZ.mp hb];exact⟨o,e1,λv z=>by rw[d]at z;cases z⟩
 keep:=λi h h' st k=>by obtain⟨⟨Zk,he⟩,hi⟩:=st;exact⟨⟨Zk,k e (by simp) _ he⟩,hi.at λo q=>k it (by simp) o q⟩
 item:=by
  intro X hP hw hK hc i YL s Y H E I hf st hg;subst hP hw hK;obtain⟨xs,x,hq,hx⟩:=hg;obtain⟨its,rv,p,hz⟩:=I.list hq;obtain⟨u,hu,ru⟩:=rv.get hx;obtain⟨⟨Zk,he⟩,hi⟩:=st;refine wpAny_pyNext_enum_item he hi p.isList (x:=u) (by simpa using hu) hei λh1 ho hi1 hT hsz hk=>?_;refine⟨_,Z',wpAny_letOwnedTupleGo_enum ho λh2 he2 Zt=>?_⟩;have helt:e<s.heap.objs.size:=dB he;have hilt:it<s.heap.objs.size:=by obtain⟨o,q,_⟩:=hi;exact dB q
  have kk:∀b o,b∉[e,it]->s.heap.get? b=ga o->h2.get? b=ga o:=λb o hb q=>(Zt.2 b λz=>hb (by simp[z])).trans (hk b o (λz=>hb (by simp[z])) (λz=>hb (by simp[z])) q);have hT2:h2.get? s.heap.objs.size=ga {cls:=.type "tuple",data:=.seq #[.int (i:Nat) s.toks,u]}:=(Zt.2 _ (h9 helt)).trans hT;have hT0:H s.heap.objs.size=Fa:=I.mR.fresh (dq _);have I2:=I.drawn (ch:=[e,it]) (T:=s.heap.objs.size) (xs:=[.int (i:Nat),x]) (its:=[.int (i:Nat) s.toks,u]) (h':=h2) (tk:=s.toks+1) hf kk (dq _) (by show 2<=Ch;decide) (.cons ⟨_,Z'⟩ (.cons ru .nil)) ⟨_,hT2,Z',⟨_,Z'⟩,Z'⟩;refine⟨.ref s.heap.objs.size,_,I2,Z',⟨_,x,Z',hT0,Z',λys hy=>by rw[I.nM hy hq];exact hx⟩,⟨⟨_,by simpa using he2⟩,hi1.extBut Zt.extBut (dW hei)⟩,λb hb=>?_⟩;have ZG:b<s.heap.objs.size:=by
   rcases dg.mp hb with z|z
   .rw[z];exact helt
   .rw[cZ.mp z];exact hilt
  rw[qo (dN ZG)];exact(hf b hb).1
 done:=by intro X hP hw hK hc i YL s Y H E I hf st hg;subst hP hw hK;obtain⟨xs,hq,hx⟩:=hg;obtain⟨its,rv,p,hz⟩:=I.list hq;obtain⟨⟨Zk,he⟩,hi⟩:=st;have hl:=rv.length;obtain⟨f0,f1,f2,f3,f4,f5⟩:=hf it (by simp);exact wpAny_pyNext_enum_end (I.ok.hd hc) he hi p.isList (by simp;lia) λh' eb=>⟨Z',I.turned (t':=s.toks) (λb o hb q=>eb b o hb q) f0 f1 f3 f4 f5⟩
 self:=λ_ _ _ _ _ st h=>by obtain⟨⟨Zk,he⟩,_⟩:=st;exact lD he h
variable {tp:Pos}{Zf:T0 zn}{n:Nat}
def R6{a:zn}{ta:TA}(hg:Gl X "enumerate")(hm:X.mg "enumerate"=Fa)(ha:PA X [a] ta)(hs:Tl [a] X.env=[(pc,wp a X.env)]:=by rfl):
  PI X (.Tuple Zf n tp) (.Call (.Name "enumerate" p) [a] [] pos) (λY H R=>ta Y H λvs H1=>∃l,vs=[.ref l]/\(∃xs,xV X.K H1 l xs)/\R (Xx X.K l) H1):=by
 intro YL s Y H R I h;refine Call_ (wM I hg hm Gr (fz (tj (ha pos YL s Y H _ I h) λus s1 zz=>x5 zz λvs H1 I1 r1 q1=>?_) hs Z'));obtain⟨l,e,⟨xs,hq⟩,q⟩:=q1;subst e;obtain⟨u,rfl,ru⟩:=yZ r1;cases ru;obtain⟨its,rv,pl,hz⟩:=I1.list hq;refine call_enumerate_list pl.isList λh' he hi hsz hk=>?_;refine lD he ?_;have I2:Inv X YL Y H1 {s1 with heap:=h'}:=I1.kept (t':=s1.toks) hk;refine⟨s1.heap.objs.size+1,[s1.heap.objs.size+1,s1.heap.objs.size],_,_,H1,Z',I2,LK l _ _ (Nat.succ_ne_self _),⟨⟨_,he⟩,hi⟩,λb hb=>?_,q⟩;have ZG:s1.heap.objs.size<=b:=by
  rcases dg.mp hb with z|z
  .rw[z];exact gX _
  .rw[cZ.mp z];exact dq _
 exact I1.nX ZG (I1.mR.fresh ZG)
noncomputable def ub:Nat->T0 D->T0 D
 | _,[]=>[]
 | i,d::r=>.tup [.int (i:Nat),d]::ub (i+1) r
theorem xY:∀{ds:T0 D} {i j:Nat},(ub j ds)[i]?=(ds[i]?).map λd=>D.tup [.int ((j+i:Nat):Int),d]
 | [],i,j=>by simp[ub]
 | d::r,0,j=>by simp[ub]
 | d::r,i+1,j=>by show(ub (j+1) r)[i]?=_;rw[xY];simp only[List.getElem?_cons_succ];rw[show j+1+i=j+(i+1)by lia]
theorem uf:∀{ds:T0 D} {j:Nat},(ub j ds).length=ds.length
 | [],j=>rfl
 | d::r,j=>by simp[ub,uf]
def Pi{K:qE}:F7 K H1 (Xx K a) (ub 0 ds) (λM=>oP M a=ga ds) where
 go:=λi H M hi hm ok _=>by rw[uf]at hi;obtain⟨xs,h1,h2,_⟩:=qp hm ok;obtain⟨x,e,_⟩:=h2.get (cV hi);exact⟨xs,x,h1,e⟩
 oY:=λi d H M x H' hd hm ok _ y=>by
  obtain⟨xs,h1,h2,_⟩:=qp hm ok;obtain⟨p,z,rfl,hp,rfl,y⟩:=y;rw[xY]at hd;cases e:ds[i]? with
  | none=>rw[e]at hd;cases hd
  | some d'=>rw[e]at hd;cases hd;obtain⟨x',e',hx⟩:=h2.get e;have w1:=y xs h1;rw[e']at w1;have w2:x'=z:=df w1;subst w2;have ex:rc K H (upd H p (.tup [.int (i:Nat),x'])):=.new hp;refine⟨.tup (.of qz) (.cons (by rw[kY];exact .int) (.cons (hx.mono ex) .nil)),hm.add hp,ex⟩
 stop:=λH M hm ok _=>by obtain⟨xs,h1,h2,_⟩:=qp hm ok;exact⟨xs,h1,by rw[uf,h2.length];exact dq _⟩
def Ug(t:xt):MY:=λU M R=>t U M λds M1=>match ds with
 | [.ref a]=>(oP M1 a).elim False λes=>R (ub 0 es) (λM=>oP M a=ga es) M1
 | _=>False
def ul{a:zn}{ta:xt}(hg:Gl X "enumerate")(hm:X.mg "enumerate"=Fa)(ha:A3 X [a] ta)(hs:Tl [a] X.env=[(pc,wp a X.env)]:=by rfl):I3 X (.Tuple Zf n tp) (.Call (.Name "enumerate" p) [a] [] pos) (Ug ta):=
 PI.mono (R6 hg hm ha hs) λY H R' zz=>x7 zz λU M R hs hm ht k=>⟨U,M,_,hs,hm,ht,λvs H1 ds M1 hd YN e1 q1=>by
  split at q1
  .obtain⟨v,rfl,hv⟩:=sU hd;cases hv.mI;obtain⟨es,e0,q⟩:=rE q1;obtain⟨xs,h1,h2,_⟩:=qp YN e0;exact⟨_,Z',⟨xs,h1⟩,k _ H1 _ _ M1 Pi YN e1 e0 q⟩
  .exact q1.elim⟩
variable {prog:Pg}{A:Ar}{E:QQX}
def Jd{it t:Uf}{i:Nat}{its:Array Vl}{x:Vl}{Q:QQX}(hi:s.heap.IsTupleIter it t i)(ht:s.heap.IsTuple t its)(hx:its[i]?=ga x) (hQ:∀g,g.IsTupleIter it t (i+1)->Heap.SameBut it s.heap g->Q x {s with heap:=g}):pi (Tk prog w) A (Builtin.SmallTypes.nextOf (.ref it)) Q E s:=by
 obtain⟨ob,e1,e2,e3⟩:=id hi;obtain⟨ot,e4,_,nt,e5⟩:=ht;unfold Builtin.SmallTypes.nextOf;refine cU (fN (name:=Str.ofString "__next__") hi.typeIs gG (fV gG hi.typeIs jl ?_ (jg _)));show pi (Tk prog w) _ (field (.ref it) 0>>=_) _ _ s;refine cU (fj e1 e3 (x:=.ref t) Z' ?_);show pi (Tk prog w) _ (if (Value.ref t==Value.none)=Db then _ else _) _ _ s;rw[cY (show ¬(Value.ref t==Value.none)=Db from dA)];show pi (Tk prog w) _ (field (.ref it) 1>>=_) _ _ s;refine cU (fj e1 e3 (x:=.int i 0) Z' ?_);show pi (Tk prog w) _ (seqItems? (.ref t)>>=_) _ _ s;refine cU (gz e4 e5 ?_);simp only[gZ,hx];refine cU (ic e1 e3 (by simp) (dh ⟨x,Z',dh (hQ _ ⟨_,fJ _ e1 (Obj.isFreed_of_fields (kZ e3 _)),(Obj.cls_mapFields ..).trans e2,?_⟩ (kI ..))⟩));rw[kZ e3];simp[Y']
def CV{it t:Uf}{i:Nat}{its:Array Vl}{Q:QQX}(hh:A.handled=Fa)(hi:s.heap.IsTupleIter it t i)(ht:s.heap.IsTuple t its)(hx:its[i]?=Fa) (hE:∀g e,Heap.ExtBut it s.heap g->(∃o,g.get? e=ga o/\o.cls=.type "StopIteration")->E (.ref e) {s with heap:=g}):pi (Tk prog w) A (Builtin.SmallTypes.nextOf (.ref it)) Q E s:=by
 obtain⟨ob,e1,e2,e3⟩:=id hi;obtain⟨ot,e4,_,nt,e5⟩:=ht;unfold Builtin.SmallTypes.nextOf;refine cU (fN (name:=Str.ofString "__next__") hi.typeIs gG (fV gG hi.typeIs jl ?_ (jg _)));show pi (Tk prog w) _ (field (.ref it) 0>>=_) _ _ s;refine cU (fj e1 e3 (x:=.ref t) Z' ?_);show pi (Tk prog w) _ (if (Value.ref t==Value.none)=Db then _ else _) _ _ s;rw[cY (show ¬(Value.ref t==Value.none)=Db from dA)];show pi (Tk prog w) _ (field (.ref it) 1>>=_) _ _ s;refine cU (fj e1 e3 (x:=.int i 0) Z' ?_);show pi (Tk prog w) _ (seqItems? (.ref t)>>=_) _ _ s;refine cU (gz e4 e5 ?_);simp only[gZ,hx];refine cU (kt (cU (ic e1 e3 (by simp) ?_)));show pi (Tk prog w) _ (newExc (.type "StopIteration") []>>=_) _ _ _;refine cU ?_;simp only[newExc,newTuple];refine cU (fW ?_ (by size_fits));refine cU (m:=firstArgMember _ _) (wpAny_of_eq (a:=Value.none) (by first|rfl|(simp only[firstArgMember];rfl)) ?_);refine fW ?_ (by size_fits);simp only[raiseNew];refine cU (wpAny_handled ?_)
 first|rw[show A.in1.handled=Fa from hh]|rw[hh]
 refine cU (dh (wpAny_throw (hE _ _ (((kI ..).extBut.push _).push _) ⟨_,dJ _ Z',Z'⟩)))
def Lv{prog:Pg}{w:Wo}{A:Ar}(hh:A.handled=Fa)(it t:Uf)(Ze:t≠it)(its:Array Vl):
  Draws prog w A it [it,t] its.size (λi v=>its[i]?=ga v) (λi h=>h.IsTupleIter it t i/\h.IsTuple t its) where
 live:=λi h st=>let⟨o,ho,_⟩:=st.1;⟨o,ho⟩
 frame:=λi h g st hk=>by obtain⟨⟨o,e1,e2⟩,⟨o',e3,e4⟩⟩:=st;exact⟨⟨o,hk it (by simp) o e1,e2⟩,⟨o',hk t (by simp) o' e3,e4⟩⟩
 item:=λi s Q E hi st hQ=>Jd st.1 st.2 (x:=its[i]) (by simp[hi]) λg hg hs=>hQ _ g s.toks (by simp[hi]) ⟨hg,st.2.extBut hs.extBut Ze⟩ hs
 done:=λs Q E st hE=>CV hh st.1 st.2 (by simp) hE
structure Dw(z TI TO i1 i2:Uf)(f1 f2:QXQ):Prop where
 a1:TI≠z
 a2:TO≠z
 a3:i1≠z
 a4:i2≠z
 a5:TI≠TO
 a6:TI≠i1
 a7:TI≠i2
 a8:TO≠i1
 a9:TO≠i2
 pE:i1≠i2
 b1:z∉f1
 b2:TO∉f1
 b3:i2∉f1
 c1:z∉f2
 c2:TO∉f2
 c3:i1∉f2
variable {z TI TO i1 i2:Uf}{f1 f2:QXQ}{n1 n2 k1 k2:Nat}{P1 P2:Nat→Vl→Prop}{S1 S2:Nat→Go→Prop}
section
variable {a b:Vl}
def sL{St:Nat->Go->Prop}(Dr:Draws prog w A it fp n Pt St){i:Nat}{h g:Go}{c:Uf}(st:St i h)(hs:Heap.SameBut c h g)(hc:c∉fp):St i g:=
 Dr.frame _ _ _ st λd hd o e=>(hs.2 d λq=>hc (q ▸ hd)).trans e
def Lc{Q:QQX}(D1:Draws prog w A i1 f1 n1 P1 S1)(D2:Draws prog w A i2 f2 n2 P2 S2)(Za:Dw z TI TO i1 i2 f1 f2)(hz:XYa s.heap z TI TO .none)(hI:wE s.heap TI (.ref i1) (.ref i2))(hO:wE s.heap TO a b) (Zq:S1 k1 s.heap) (Y4:S2 k2 s.heap) (l1:k1<n1) (l2:k2<n2) (hQ:∀x y g tk,P1 k1 x->P2 k2 y->XYa g z TI TO (Y' s.heap.objs.size)->wE g TO x y->S1 (k1+1) g->S2 (k2+1) g->wE g s.heap.objs.size x y->g.objs.size=s.heap.objs.size+1->
   (∀c o,c≠z->c≠TO->c≠i1->c≠i2->s.heap.get? c=ga o->g.get? c=ga o)->Q (.ref s.heap.objs.size) {s with heap:=g,toks:=tk}):
  pi (Tk prog w) A (Builtin.«zip.__next__» ⟨[.ref z],[]⟩) (λYR s'=>∃v,YR=.done (.ret v)/\Q v s') E s:=by
 show pi (Tk prog w) A (field (.ref z) 2>>=_) _ _ _;refine cU (fj hz Z' (x:=.bool pc) Z' ?_);show pi (Tk prog w) A (field (.ref z) 3>>=_) _ _ _;refine cU (fj hz Z' (x:=.ref TI) Z' (cU (gz hI Z' ?_)));show pi (Tk prog w) A (Builtin.SmallTypes.ownedTupleIsFree (.ref z)>>=_) _ _ _;refine cU ?_;unfold Builtin.SmallTypes.ownedTupleIsFree;refine cU (fj hz Z' (x:=.none) Z' (dh ?_));simp only[je];refine cU (kt (cU (fj hz Z' (x:=.ref TO) Z' (cU (gC hz (by simp) λg1 z1 sb1=>?_)))));replace z1:XYa g1 z TI TO .ellipsis:=z1;refine cU ?_;simp only[lU,ma,jX,kc];refine cU (cU (jo ?_));show pi (Tk prog w) A (Builtin.SmallTypes.nextOf (.ref i1)>>=_) _ _ _;have st1a:S1 k1 g1:=sL D1 Zq sb1 Za.b1;refine cU (D1.item k1 _ _ _ l1 st1a λx g2 tk2 px st1b ZR=>dh ?_);replace ZR:Heap.SameBut i1 g1 g2:=ZR;have o2:wE g2 TO a b:=ZR.extBut _ _ Za.a8 (sb1.extBut _ _ Za.a2 hO);refine cU (gz o2 Z' (cU (iV o2 λg3 o3 ZY=>?_)));replace o3:wE g3 TO x b:=o3;replace ZY:Heap.SameBut TO g2 g3:=ZY;refine cU (lK (dh (cU (cU (jo ?_)))));show pi (Tk prog w) A (Builtin.SmallTypes.nextOf (.ref i2)>>=_) _ _ _;have st2a:S2 k2 g3:=sL D2 (sL D2 (sL D2 Y4 sb1 Za.c1) ZR Za.c3) ZY Za.c2;refine cU (D2.item k2 _ _ _ l2 st2a λy g4 tk4 py st2b sb4=>dh ?_);replace sb4:Heap.SameBut i2 g3 g4:=sb4;have o4:wE g4 TO x b:=sb4.extBut _ _ Za.a9 o3;refine cU (gz o4 Z' (cU (iV o4 λg5 o5 sb5=>?_)));replace o5:wE g5 TO x y:=o5;replace sb5:Heap.SameBut TO g4 g5:=sb5;refine cU (lK (dh (dh (cU (gz o5 Z' (cU (wpAny_newTuple ?_)))))));have esz:g5.objs.size=s.heap.objs.size:=by rw[sb5.1,sb4.1,ZY.1,ZR.1,sb1.1]
 have z5:XYa g5 z TI TO .ellipsis:=sb5.extBut _ _ Za.a2.symm (sb4.extBut _ _ Za.a4.symm (ZY.extBut _ _ Za.a2.symm (ZR.extBut _ _ Za.a3.symm z1)));have kp:∀c o,c≠z->c≠TO->c≠i1->c≠i2->s.heap.get? c=ga o->g5.get? c=ga o:=λc o q1 q2 q3 q4 q=>sb5.extBut _ _ q2 (sb4.extBut _ _ q4 (ZY.extBut _ _ q2 (ZR.extBut _ _ q3 (sb1.extBut _ _ q1 q))));have st1c:S1 (k1+1) g5:=sL D1 (sL D1 (sL D1 st1b ZY Za.b2) sb4 Za.b3) sb5 Za.b2;have st2c:S2 (k2+1) g5:=sL D2 st2b sb5 Za.c2;have zlt:z<g5.objs.size:=dB z5;show pi (Tk prog w) A (Builtin.SmallTypes.ownedTupleHandOut (.ref z) (.ref g5.objs.size)>>=_) _ _ _;refine cU ?_;unfold Builtin.SmallTypes.ownedTupleHandOut;have z6:XYa (g5.push {cls:=.type "tuple",data:=.seq #[x,y]}) z TI TO .ellipsis:=c9 _ z5;refine cU (gC z6 (by simp) λg7 z7 sb7=>?_);replace z7:XYa g7 z TI TO (Y' g5.objs.size):=z7;refine gC z7 (by simp) λg8 z8 sb8=>?_;replace z8:XYa g8 z TI TO (Y' g5.objs.size):=z8;have up:∀c o,c≠z->g5.get? c=ga o->g8.get? c=ga o:=λc o q1 q=>sb8.extBut _ _ q1 (sb7.extBut _ _ q1 (c9 _ q));have tu:wE g8 g5.objs.size x y:=sb8.extBut _ _ (h9 zlt) (sb7.extBut _ _ (h9 zlt) (dJ _ Z'));have es8:g8.objs.size=g5.objs.size+1:=by rw[sb8.1,sb7.1,fR]
 rw[esz]at z8 tu es8;refine dh ⟨_,Z',?_⟩;show Q (.ref g5.objs.size) _;rw[esz];exact hQ x y g8 _ px py z8 (up _ _ Za.a2 o5) (D1.frame _ _ _ st1c λc hc o q=>up c o (λr=>Za.b1 (r ▸ hc)) q) (D2.frame _ _ _ st2c λc hc o q=>up c o (λr=>Za.c1 (r ▸ hc)) q) tu es8 λc o q1 q2 q3 q4 q=>up c o q1 (kp c o q1 q2 q3 q4 q)
def NH{Q:Fin->Sd->Prop}(D1:Draws prog w A i1 f1 n1 P1 S1)(D2:Draws prog w A i2 f2 n2 P2 S2)(Za:Dw z TI TO i1 i2 f1 f2)(hz:XYa s.heap z TI TO .none)(hI:wE s.heap TI (.ref i1) (.ref i2))(hO:wE s.heap TO a b) (Zq:S1 k1 s.heap) (Y4:S2 k1 s.heap) (hend:k1=n1\/(k1<n1/\k1=n2)) (hE:∀g e,(∀c o,c≠z->c≠TO->c≠i1->c≠i2->s.heap.get? c=ga o->g.get? c=ga o)->(∃o,g.get? e=ga o/\o.cls=.type "StopIteration")->∀tk,E (.ref e) {s with heap:=g,toks:=tk}):
  pi (Tk prog w) A (Builtin.«zip.__next__» ⟨[.ref z],[]⟩) Q E s:=by
 show pi (Tk prog w) A (field (.ref z) 2>>=_) _ _ _;refine cU (fj hz Z' (x:=.bool pc) Z' ?_);show pi (Tk prog w) A (field (.ref z) 3>>=_) _ _ _;refine cU (fj hz Z' (x:=.ref TI) Z' (cU (gz hI Z' ?_)));show pi (Tk prog w) A (Builtin.SmallTypes.ownedTupleIsFree (.ref z)>>=_) _ _ _;refine cU ?_;unfold Builtin.SmallTypes.ownedTupleIsFree;refine cU (fj hz Z' (x:=.none) Z' (dh ?_));simp only[je];refine cU (kt (cU (fj hz Z' (x:=.ref TO) Z' (cU (gC hz (by simp) λg1 z1 sb1=>?_)))));replace z1:XYa g1 z TI TO .ellipsis:=z1;refine cU ?_;simp only[lU,ma,jX,kc];refine cU (cU (jo ?_));show pi (Tk prog w) A (Builtin.SmallTypes.nextOf (.ref i1)>>=_) _ _ _;have st1a:S1 k1 g1:=sL D1 Zq sb1 Za.b1;rcases hend with he|⟨YV,he⟩
 .rw[he]at st1a;refine cU (D1.done _ _ _ st1a λg2 e ZR hx=>?_);obtain⟨oe,g,hce⟩:=hx;have z2:XYa g2 z TI TO .ellipsis:=ZR _ _ Za.a3.symm z1;have hez:e≠z:=λq=>by subst q;rw[z2]at g;cases g;simp at hce
  exact gC z2 (by simp) λg3 _ ZY=>hE g3 e (λc o q1 _ q3 _ q=>ZY.extBut _ _ q1 (ZR _ _ q3 (sb1.extBut _ _ q1 q))) ⟨oe,ZY.extBut _ _ hez g,hce⟩ _
 .refine cU (D1.item k1 _ _ _ YV st1a λx g2 tk2 px st1b ZR=>dh ?_);replace ZR:Heap.SameBut i1 g1 g2:=ZR;have o2:wE g2 TO a b:=ZR.extBut _ _ Za.a8 (sb1.extBut _ _ Za.a2 hO);refine cU (gz o2 Z' (cU (iV o2 λg3 o3 ZY=>?_)));replace ZY:Heap.SameBut TO g2 g3:=ZY;refine cU (lK (dh (cU (cU (jo ?_)))));show pi (Tk prog w) A (Builtin.SmallTypes.nextOf (.ref i2)>>=_) _ _ _;have st2a:S2 k1 g3:=sL D2 (sL D2 (sL D2 Y4 sb1 Za.c1) ZR Za.c3) ZY Za.c2;rw[he]at st2a;refine cU (D2.done _ _ _ st2a λg4 e sb4 hx=>?_);obtain⟨oe,g,hce⟩:=hx;have z4:XYa g4 z TI TO .ellipsis:=sb4 _ _ Za.a4.symm (ZY.extBut _ _ Za.a2.symm (ZR.extBut _ _ Za.a3.symm z1));have hez:e≠z:=λq=>by subst q;rw[z4]at g;cases g;simp at hce
  exact gC z4 (by simp) λg5 _ sb5=>hE g5 e (λc o q1 q2 q3 q4 q=>sb5.extBut _ _ q1 (sb4 _ _ q4 (ZY.extBut _ _ q2 (ZR.extBut _ _ q3 (sb1.extBut _ _ q1 q))))) ⟨oe,sb5.extBut _ _ hez g,hce⟩ _
end
abbrev W'(h:Go)(t:Uf):Go:=h.push {cls:=.type "tuple_iterator",data:=.fields #[.ref t,.int 0 0]}
abbrev W2(h:Go)(t u:Uf):Go:=(W' h t).push {cls:=.type "tuple_iterator",data:=.fields #[.ref u,.int 0 0]}
abbrev W5(h:Go)(t u:Uf):Go:=(W2 h t u).push {cls:=.type "tuple",data:=.seq #[.ref h.objs.size,.ref (W' h t).objs.size]}
abbrev W6(h:Go)(t u:Uf):Go:=(W5 h t u).push {cls:=.type "tuple",data:=.seq #[.none,.none]}
abbrev Vg(h:Go)(t u:Uf):Go:=(W6 h t u).push {cls:=.type "zip",data:=.fields #[.none,.bool pc,.bool pc,.ref (W2 h t u).objs.size,.ref (W5 h t u).objs.size]}
def DF(t u:Uf)(xs ys:Array Vl):
  Meets (Builtin.«zip.__new__» ⟨[.type "zip",.ref t,.ref u],[]⟩) (λ_ R s=>s.heap.IsTuple t xs/\s.heap.IsTuple u ys/\R (.ok (.ret (.ref (W6 s.heap t u).objs.size))) {s with heap:=Vg s.heap t u}):=
 .of_wp λprog w A R s h=>by
  obtain⟨hp,g,d,tk,os⟩:=s;obtain⟨e1,e2,h⟩:=h;have hsub:=sub_zip;have q1:Heap.IsTuple (Shared.heap ⟨hp,g,d,tk,os⟩) t xs:=e1;have q2:Heap.IsTuple (Shared.heap ⟨hp.push {cls:=.type "tuple_iterator",data:=.fields #[.ref t,.int 0 0]},g,d,tk,os⟩) u ys:=Heap.IsTuple.push e2 _
  wp_walk using iD q1,iD q2
  exact⟨_,Z',h⟩
def Gv{t u:Uf}{xs ys:Array Vl}{Q:QQX}(ht:s.heap.IsTuple t xs)(hu:s.heap.IsTuple u ys) (h:∀g,XYa g (s.heap.objs.size+4) (s.heap.objs.size+2) (s.heap.objs.size+3) .none->wE g (s.heap.objs.size+2) (.ref s.heap.objs.size) (.ref (s.heap.objs.size+1))->wE g (s.heap.objs.size+3) .none .none->
   g.IsTupleIter s.heap.objs.size t 0->g.IsTupleIter (s.heap.objs.size+1) u 0->(∀c o,s.heap.get? c=ga o->g.get? c=ga o)->Q (.ref (s.heap.objs.size+4)) {s with heap:=g}):
  pi (Tk prog w) A (call (.type "zip") [.ref t,.ref u]) Q E s:=by
 refine callType_new F.called_zip (by decide) (F.typeCall_zip_2 _ _) (F.newCall_zip_2 _ _) (λobj=>F.args_object_init_3 obj _ _) F.entry_zip_new (DF t u xs ys) ⟨ht,hu,?_⟩;have m1:(W' s.heap t).objs.size=s.heap.objs.size+1:=fR ..;have m2:(W2 s.heap t u).objs.size=s.heap.objs.size+2:=by rw[fR,m1]
 have m3:(W5 s.heap t u).objs.size=s.heap.objs.size+3:=by rw[fR,m2]
 have m4:(W6 s.heap t u).objs.size=s.heap.objs.size+4:=by rw[fR,m3]
 have up:∀{h:Go} {c:Uf} {o p:Obj},h.get? c=ga o->(h.push p).get? c=ga o:=λq=>c9 _ q;have r5:(Vg s.heap t u).get? (W6 s.heap t u).objs.size=ga _:=dJ _ Z';have r4:(Vg s.heap t u).get? (W5 s.heap t u).objs.size=ga _:=up (dJ _ Z');have r3:(Vg s.heap t u).get? (W2 s.heap t u).objs.size=ga _:=up (up (dJ _ Z'));have r2:(Vg s.heap t u).get? (W' s.heap t).objs.size=ga _:=up (up (up (dJ _ Z')));have r1:(Vg s.heap t u).get? s.heap.objs.size=ga _:=up (up (up (up (dJ _ Z'))));show _/\_;rw[m2,m3,m4]at r5;rw[m1,m2]at r3;rw[m3]at r4;rw[m1]at r2;rw[m4];exact⟨⟨_,r5,Z'⟩,h _ r5 r3 r4 ⟨_,r1,Z',Z'⟩ ⟨_,r2,Z',Z'⟩ λc o q=>up (up (up (up (up q))))⟩
def Ht{z TI TO i1 i2:Uf}{n1 n2 k:Nat}{P1 P2:Nat->Vl->Prop}{S1 S2:Nat->Go->Prop}{Q:Option Vl->Sd->Prop}(D1:Draws prog w A.in1 i1 f1 n1 P1 S1)(D2:Draws prog w A.in1 i2 f2 n2 P2 S2)(Za:Dw z TI TO i1 i2 f1 f2) (hz:XYa s.heap z TI TO .none) (hI:wE s.heap TI (.ref i1) (.ref i2)) (hO:wE s.heap TO a b) (Zq:S1 k s.heap) (Y4:S2 k s.heap) (l1:k<n1) (l2:k<n2) (hQ:∀x y g tk,P1 k x->P2 k y->XYa g z TI TO (Y' s.heap.objs.size)->wE g TO x y->S1 (k+1) g->S2 (k+1) g->wE g s.heap.objs.size x y->g.objs.size=s.heap.objs.size+1->
   (∀c o,c≠z->c≠TO->c≠i1->c≠i2->s.heap.get? c=ga o->g.get? c=ga o)->Q (ga (.ref s.heap.objs.size)) {s with heap:=g,toks:=tk}):pi (Tk prog w) A (pyNext (.ref z)) Q E s:=by
 have hT:s.TypeIs (.ref z) "zip":=⟨_,hz,Z'⟩;unfold pyNext;refine cU (wpAny_attempt (fN (name:=Str.ofString "__next__") hT iW (fV iW hT lV ?_ (lE _))));exact Lc D1 D2 Za hz hI hO Zq Y4 l1 l2 λx y g tk q1 q2 q3 q4 q5 q6 q7 q8 q9=>dh (hQ x y g tk q1 q2 q3 q4 q5 q6 q7 q8 q9)
def BK{z TI TO i1 i2:Uf}{n1 n2 k:Nat}{P1 P2:Nat->Vl->Prop}{S1 S2:Nat->Go->Prop}{Q:Option Vl->Sd->Prop}(D1:Draws prog w A.in1 i1 f1 n1 P1 S1)(D2:Draws prog w A.in1 i2 f2 n2 P2 S2)(Za:Dw z TI TO i1 i2 f1 f2) (hz:XYa s.heap z TI TO .none) (hI:wE s.heap TI (.ref i1) (.ref i2)) (hO:wE s.heap TO a b) (Zq:S1 k s.heap) (Y4:S2 k s.heap) (hend:k=n1\/(k<n1/\k=n2)) (hQ:∀g tk,(∀c o,c≠z->c≠TO->c≠i1->c≠i2->s.heap.get? c=ga o->g.get? c=ga o)->Q Fa {s with heap:=g,toks:=tk}):pi (Tk prog w) A (pyNext (.ref z)) Q E s:=by
 have hT:s.TypeIs (.ref z) "zip":=⟨_,hz,Z'⟩;unfold pyNext;refine cU (wpAny_attempt (fN (name:=Str.ofString "__next__") hT iW (fV iW hT lV (NH D1 D2 Za hz hI hO Zq Y4 hend λg e kp hx tk=>?_) (lE _))));obtain⟨o,e1,e2⟩:=hx;exact cU (wpAny_isInstance (T:="StopIteration") (b:=true) ⟨o,e1,e2⟩ isSubtype_stop (dh (hQ g tk kp)))
def UQ(I:Inv X YL Y H s)(f:zT X YL H b)(q:wg X.K H a xs):a≠b:=by
 rintro rfl
 rcases q with q|⟨o,its,n,hk,_⟩
 .have z:=f.1;rcases q with q|⟨u,q⟩<;>(rw[q]at z;cases z)
 .have e:=I.mod.oz a o hk;rcases f.2.2.2.1 with z|z
  .exact I.ok.nQ a o e z
  .exact absurd (dP (dB e) (dZ I.ok.n9 z)) (eV _)
noncomputable def Vf(Sq:qE->Hp->Uf->T0 V->Prop)(K:qE)(a b:Uf):It:=
 ⟨λi H=>∃xs ys x y,Sq K H a xs/\Sq K H b ys/\xs[i]?=ga x/\ys[i]?=ga y,λi H v H'=>∃p x y,v=.ref p/\H p=Fa/\H'=upd H p (.tup [x,y])/\(∀xs,Sq K H a xs->xs[i]?=ga x)/\(∀ys,Sq K H b ys->ys[i]?=ga y),λi H=>∃xs ys,Sq K H a xs/\Sq K H b ys/\i=min xs.length ys.length⟩
structure ZK(Sq:qE->Hp->Uf->List V->Prop)(Ir:Go->Uf->Uf->Nat->Prop)(C:Go->Uf->Array Vl->Prop):Prop where
 gt:∀{X:Cx} {YL:QQY} {Y:St} {H:Hp} {s:Sd} {a:Uf} {xs:List V},Inv X YL Y H s->Sq X.K H a xs->∃its:List Vl,qK xs its/\C s.heap a its.toArray
 ij:∀{X:Cx} {YL:QQY} {Y:St} {H:Hp} {s:Sd} {a:Uf} {xs ys:List V},Inv X YL Y H s->Sq X.K H a xs->Sq X.K H a ys->xs=ys
 ne:∀{X:Cx} {YL:QQY} {Y:St} {H:Hp} {s:Sd} {a b:Uf} {xs:List V},Inv X YL Y H s->zT X YL H b->Sq X.K H a xs->a≠b
 dr:∀{prog:Pg} {w:Wo} {A:Ar},A.handled=Fa->∀(it l:Uf),l≠it->∀its:Array Vl,Draws prog w A it [it,l] its.size (λi v=>its[i]?=ga v) (λi h=>Ir h it l i/\C h l its)
 ob:∀{h:Go} {it a:Uf} {i:Nat},Ir h it a i->∃o,h.get? it=ga o/\∀v,o.data≠.cell v
 kp:∀{h h':Go} {it a:Uf} {i:Nat},Ir h it a i->(∀o,h.get? it=ga o->h'.get? it=ga o)->Ir h' it a i
def YI:ZK wg Heap.IsTupleIter Heap.IsTuple where
 gt:=λI h=>(I.tuple h).imp λ_ z=>⟨z.1,z.2.1⟩
 ij:=λI h g=>I.nq h g
 ne:=UQ
 dr:=Lv
 ob:=λ⟨o,h,_,d⟩=>⟨o,h,λv z=>by rw[d]at z;cases z⟩
 kp:=λ⟨o,h,c⟩ k=>⟨o,k o h,c⟩
def WU{z TI TO i1 i2 a b:Uf}(a1:TI≠z)(a2:TO≠z)(a3:i1≠z)(a4:i2≠z)(a5:TI≠TO)(a6:TI≠i1)(a7:TI≠i2)(a8:TO≠i1)(a9:TO≠i2)(pE:i1≠i2)(fa:∀c∈[z,TI,TO,i1,i2],a≠c)(fb:∀c∈[z,TI,TO,i1,i2],b≠c):Dw z TI TO i1 i2 [i1,a] [i2,b]:=by
 have n:∀{x y w:Uf},x≠y->w≠x->x∉[y,w]:=λh g=>by simp only[dg,dQ,fP,ib];exact⟨h,dW g⟩
 exact⟨a1,a2,a3,a4,a5,a6,a7,a8,a9,pE,n (dW a3) (fa z (by simp)),n a8 (fa TO (by simp)),n (dW pE) (fa i2 (by simp)),n (dW a4) (fb z (by simp)),n a9 (fb TO (by simp)),n pE (fb i1 (by simp))⟩
def Mu{C:Go->Uf->Array Vl->Prop}(zk:ZK Sq Ir C){P:Pg}{w:Wo}{K:qE}{Zf:T0 zn}{n:Nat}{tp:Pos}(a b z TI TO i1 i2:Uf)(a1:TI≠z)(a2:TO≠z)(a3:i1≠z)(a4:i2≠z)(a5:TI≠TO)(a6:TI≠i1)(a7:TI≠i2)(a8:TO≠i1)(a9:TO≠i2)(pE:i1≠i2):
  Hg P w K (.Tuple Zf n tp) (Vf Sq K a b) [z,TI,TO,i1,i2] z (λi h=>XYa h z TI TO .none/\wE h TI (.ref i1) (.ref i2)/\(∃u v,wE h TO u v)/\Ir h i1 a i/\Ir h i2 b i) where
 mem:=by simp
 obj:=λi h st c hc=>by
  obtain⟨h1,h2,⟨u,v,h3⟩,h4,h5⟩:=st;simp only[dg,dQ,fP]at hc;rcases hc with rfl|rfl|rfl|rfl|rfl
  .exact⟨_,h1,λv z=>by cases z⟩
  .exact⟨_,h2,λv z=>by cases z⟩
  .exact⟨_,h3,λv z=>by cases z⟩
  .exact zk.ob h4
  .exact zk.ob h5
 keep:=λi h h' st k=>by obtain⟨h1,h2,⟨u,v,h3⟩,h4,h5⟩:=st;exact⟨k z (by simp) _ h1,k TI (by simp) _ h2,⟨u,v,k TO (by simp) _ h3⟩,zk.kp h4 (k i1 (by simp)),zk.kp h5 (k i2 (by simp))⟩
 item:=by
  intro X hP hw hK hc i YL s Y H E I hf st hg;subst hP hw hK;obtain⟨xs,ys,x,y,hx,hy,ex,ey⟩:=hg;obtain⟨its,rx,px⟩:=zk.gt I hx;obtain⟨jts,ry,py⟩:=zk.gt I hy;obtain⟨u,eu,ru⟩:=rx.get ex;obtain⟨v,ev,rv⟩:=ry.get ey;obtain⟨h1,h2,⟨p,q,h3⟩,h4,h5⟩:=st;have hh:X.A.in1.handled=Fa:=I.ok.hd hc;have fa:∀c∈[z,TI,TO,i1,i2],a≠c:=λc hc=>zk.ne I (hf c hc) hx;have fb:∀c∈[z,TI,TO,i1,i2],b≠c:=λc hc=>zk.ne I (hf c hc) hy;have Za:=WU a1 a2 a3 a4 a5 a6 a7 a8 a9 pE fa fb;have l1:i<its.toArray.size:=by
   have:=(cX.mp eu).1
   simpa using this
  have l2:i<jts.toArray.size:=by
   have:=(cX.mp ev).1
   simpa using this
  refine Ht (zk.dr hh i1 a (fa i1 (by simp)) its.toArray) (zk.dr hh i2 b (fb i2 (by simp)) jts.toArray) Za h1 h2 h3 ⟨h4,px⟩ ⟨h5,py⟩ l1 l2 λx' y' g tk e1 e2 z1 o1 s1 s2 t1 sz kp=>?_;have e1':x'=u:=by
   have:its[i]?=ga x':=by simpa using e1
   rw[eu]at this;exact(df this).symm
  have e2':y'=v:=by
   have:jts[i]?=ga y':=by simpa using e2
   rw[ev]at this;exact(df this).symm
  subst e1' e2';refine⟨_,Z',wpAny_letOwnedTupleGo_zip z1 λg2 z2 sb=>?_⟩;have zlt:z<s.heap.objs.size:=dB h1;have kk:∀c o,c∉[z,TI,TO,i1,i2]->s.heap.get? c=ga o->g2.get? c=ga o:=λc o hc e=>by simp only[dg,dQ,fP,ib]at hc;exact(sb.2 c hc.1).trans (kp c o hc.1 hc.2.2.1 hc.2.2.2.1 hc.2.2.2.2 e)
  have t2:g2.get? s.heap.objs.size=ga {cls:=.type "tuple",data:=.seq #[x',y']}:=(sb.2 _ (h9 zlt)).trans t1;have hT0:H s.heap.objs.size=Fa:=I.mR.fresh (dq _);have I2:=I.drawn (ch:=[z,TI,TO,i1,i2]) (T:=s.heap.objs.size) (xs:=[x,y]) (its:=[x',y']) (h':=g2) (tk:=tk) hf kk (dq _) (by show 2<=Ch;decide) (.cons ru (.cons rv .nil)) ⟨_,t2,Z',⟨_,Z'⟩,Z'⟩;refine⟨.ref s.heap.objs.size,_,I2,Z',⟨_,x,y,Z',hT0,Z',λxs' hx'=>by rw[zk.ij I hx' hx];exact ex,λys' hy'=>by rw[zk.ij I hy' hy];exact ey⟩,?_,λc hc=>?_⟩
  .exact⟨z2,(sb.2 _ a1).trans (kp _ _ a1 a5 a6 a7 h2),⟨_,_,(sb.2 _ a2).trans o1⟩,zk.kp s1.1 λ_ e=>(sb.2 _ a3).trans e,zk.kp s2.1 λ_ e=>(sb.2 _ a4).trans e⟩
  .have n0:=(hf c hc).1;obtain⟨o,eo⟩:∃o,s.heap.get? c=ga o:=by
    obtain⟨o4,g4,_⟩:=zk.ob h4;obtain⟨o5,g5,_⟩:=zk.ob h5;simp only[dg,dQ,fP]at hc;rcases hc with rfl|rfl|rfl|rfl|rfl
    .exact⟨_,h1⟩
    .exact⟨_,h2⟩
    .exact⟨_,h3⟩
    .exact⟨_,g4⟩
    .exact⟨_,g5⟩
   rw[qo (dN (dB eo))];exact n0
 done:=by
  intro X hP hw hK hc i YL s Y H E I hf st hg;subst hP hw hK;obtain⟨xs,ys,hx,hy,hi⟩:=hg;obtain⟨its,rx,px⟩:=zk.gt I hx;obtain⟨jts,ry,py⟩:=zk.gt I hy;obtain⟨h1,h2,⟨p,q,h3⟩,h4,h5⟩:=st;have hh:X.A.in1.handled=Fa:=I.ok.hd hc;have fa:∀c∈[z,TI,TO,i1,i2],a≠c:=λc hc=>zk.ne I (hf c hc) hx;have fb:∀c∈[z,TI,TO,i1,i2],b≠c:=λc hc=>zk.ne I (hf c hc) hy;have Za:=WU a1 a2 a3 a4 a5 a6 a7 a8 a9 pE fa fb;have e1:=rx.length;have e2:=ry.length;refine BK (zk.dr hh i1 a (fa i1 (by simp)) its.toArray) (zk.dr hh i2 b (fb i2 (by simp)) jts.toArray) Za h1 h2 h3 ⟨h4,px⟩ ⟨h5,py⟩ (by simp only[dw];lia) λg tk kp=>⟨Z',?_⟩;have kk:∀c o,c∉[z,TI,TO,i1,i2]->s.heap.get? c=ga o->g.get? c=ga o:=λc o hc e=>by simp only[dg,dQ,fP,ib]at hc;exact kp c o hc.1 hc.2.2.1 hc.2.2.2.1 hc.2.2.2.2 e
  refine I.step (g':=s.gens) (d':=s.drawn) (t':=tk) (ch:=[z,TI,TO,i1,i2]) (λc hc=>⟨(hf c hc).2.2.2.1,(hf c hc).2.1,(hf c hc).2.2.2.2.1,(hf c hc).2.2.2.2.2⟩) ?_ ?_ (λc o _ e n=>n) ?_ (λ_ _ e=>e) (λ_ _ _ e=>e) (λc ps e=>⟨#[],by rw[e];simp⟩) ?_ ?_ I.bare
  .exact λc o _ _ hc e _=>kk c o hc e
  .exact λc o _ _ hc e _=>⟨o.slots,kk c o hc e⟩
  .exact λc o hc e=>⟨o,kk c o hc e⟩
  .intro m hm;obtain⟨o,es,ep,ho,r⟩:=hm;exact⟨o,es,ep,kk _ o (λy=>(hf _ y).2.1 Z') ho,r⟩
  .intro c u e;refine(I.mR c u e).nu (λd v hd q=>kk d v (λy=>?_) q) (λ_ q=>q) λ_ _ q=>q;have n:=(hf d y).1;rcases hd with x|x
   .rw[x,e]at n;cases n
   .rw[x]at n;cases n
 self:=λ_ _ _ _ _ st h=>lW st.1 h
def HQ{C:Go->Uf->Array Vl->Prop}(zk:ZK Sq Ir C){YL:QQY}{Y:St}{H:Hp}{s:Sd}{E:QQX}{R:It->Hp->Prop}{g:Go}{l m:Uf}{u v:Vl}(I:Inv X YL Y H s)(h1:XYa g (s.heap.objs.size+4) (s.heap.objs.size+2) (s.heap.objs.size+3) .none)(h2:wE g (s.heap.objs.size+2) (.ref s.heap.objs.size) (.ref (s.heap.objs.size+1)))(h3:wE g (s.heap.objs.size+3) u v)(h4:Ir g s.heap.objs.size l 0)(h5:Ir g (s.heap.objs.size+1) m 0)(hk:∀b o,s.heap.get? b=ga o->g.get? b=ga o)(q:R (Vf Sq X.K l m) H):pi (Tk X.prog X.w) X.A (pyIter (.ref (s.heap.objs.size+4))) (Xf X YL Y (.Tuple Zf n tp) R) E {s with heap:=g}:=by
 refine lW h1 ?_;have I2:Inv X YL Y H {s with heap:=g}:=I.kept (t':=s.toks) hk;have ne:∀{i j:Nat},i≠j->(s.heap.objs.size+i:Nat)≠s.heap.objs.size+j:=λh z=>h (Nat.add_left_cancel z);refine⟨s.heap.objs.size+4,[s.heap.objs.size+4,s.heap.objs.size+2,s.heap.objs.size+3,s.heap.objs.size,s.heap.objs.size+1],_,_,H,Z',I2,Mu zk l m _ _ _ _ _ (ne (by decide)) (ne (by decide)) (ne (i:=0) (by decide)) (ne (by decide)) (ne (by decide)) (ne (j:=0) (by decide)) (ne (by decide)) (ne (j:=0) (by decide)) (ne (by decide)) (ne (i:=0) (by decide)),⟨h1,h2,⟨_,_,h3⟩,h4,h5⟩,λb hb=>?_,q⟩;have ZG:s.heap.objs.size<=b:=by simp only[dg,dQ,fP]at hb;rcases hb with rfl|rfl|rfl|rfl|rfl<;>first|exact dq _|exact Nat.le_add_right _ _
 exact I.nX ZG (I.mR.fresh ZG)
def TU{a b:zn}{ta:TA}(hg:Gl X "zip")(hm:X.mg "zip"=Fa)(ha:PA X [a,b] ta)(hs:Tl [a,b] X.env=[(pc,wp a X.env),(pc,wp b X.env)]:=by rfl)(Zt:Tl [b] X.env=[(pc,wp b X.env)]:=by rfl):
  PI X (.Tuple Zf n tp) (.Call (.Name "zip" p) [a,b] [] pos) (λY H R=>ta Y H λvs H1=>∃l m,vs=[.ref l,.ref m]/\(∃xs,wg X.K H1 l xs)/\(∃xs,wg X.K H1 m xs)/\R (Vf wg X.K l m) H1):=by
 intro YL s Y H R I h;refine Call_ (wM I hg hm NA (fz (tj (ha pos YL s Y H _ I h) λus s1 zz=>x5 zz λvs H1 I1 r1 q1=>?_) (by rw[hs,Zt]) (by rw[Zt];rfl)));obtain⟨l,m,e,⟨xs,hx⟩,⟨ys,hy⟩,q⟩:=q1;subst e;obtain⟨u,v,rfl,ru,rv⟩:=On r1;cases ru;cases rv;obtain⟨its,_,px,_⟩:=I1.tuple hx;obtain⟨jts,_,py,_⟩:=I1.tuple hy;exact Gv px py λg h1 h2 h3 h4 h5 hk=>HQ YI I1 h1 h2 h3 h4 h5 hk q
noncomputable def wU:T0 D->T0 D->T0 D
 | x::a,y::b=>.tup [x,y]::wU a b
 | _,_=>[]
theorem Fe:∀{ds es:T0 D} {i:Nat},(wU ds es)[i]?=(ds[i]?).bind λd=>(es[i]?).map λe=>D.tup [d,e]
 | [],es,i=>by simp[wU]
 | d::ds,[],i=>by simp[wU]
 | d::ds,e::es,0=>by simp[wU]
 | d::ds,e::es,i+1=>by show(wU ds es)[i]?=_;rw[Fe];simp
theorem vM:∀{ds es:T0 D},(wU ds es).length=min ds.length es.length
 | [],es=>by simp[wU]
 | d::ds,[]=>by simp[wU]
 | d::ds,e::es=>by show(wU ds es).length+1=_;rw[vM];simp only[d4];lia
def P6{K:qE}{ds es:T0 D}(h1:wg K H1 a xs)(h2:qA K H1 ds xs)(g1:wg K H1 b ys)(g2:qA K H1 es ys):F7 K H1 (Vf wg K a b) (wU ds es) (λ_=>True) where
 go:=λi H M hi hm ok e1=>by rw[vM]at hi;obtain⟨x,ex,_⟩:=h2.get (cV (show i<ds.length by lia));obtain⟨y,ey,_⟩:=g2.get (cV (show i<es.length by lia));exact⟨xs,ys,x,y,e1.t _ _ h1,e1.t _ _ g1,ex,ey⟩
 oY:=λi d H M v H' hd hm ok e1 y=>by
  obtain⟨p,x,z,rfl,hp,rfl,y1,y2⟩:=y;rw[Fe]at hd;cases e:ds[i]? with
  | none=>rw[e]at hd;cases hd
  | some d'=>
   cases e':es[i]? with
   | none=>rw[e,e']at hd;cases hd
   | some d''=>rw[e,e']at hd;cases hd;obtain⟨x',q1,hx⟩:=h2.get e;obtain⟨z',q2,hz⟩:=g2.get e';have w1:=y1 xs (e1.t _ _ h1);have w2:=y2 ys (e1.t _ _ g1);rw[q1]at w1;rw[q2]at w2;have v1:x'=x:=df w1;have v2:z'=z:=df w2;subst v1 v2;have ex:rc K H (upd H p (.tup [x',z'])):=.new hp;exact⟨.tup (.of qz) (.cons (hx.mono (e1.trans ex)) (.cons (hz.mono (e1.trans ex)) .nil)),hm.add hp,ex⟩
 stop:=λH M hm ok e1=>⟨xs,ys,e1.t _ _ h1,e1.t _ _ g1,by rw[vM,h2.length,g2.length]⟩
def WJ(t:xt):MY:=λU M R=>t U M λds M1=>match ds with
 | [.tup a,.tup b]=>R (wU a b) (λ_=>True) M1
 | _=>False
def UR{a b:zn}{ta:xt}(hg:Gl X "zip")(hm:X.mg "zip"=Fa)(ha:A3 X [a,b] ta)(hs:Tl [a,b] X.env=[(pc,wp a X.env),(pc,wp b X.env)]:=by rfl)(Zt:Tl [b] X.env=[(pc,wp b X.env)]:=by rfl):
  I3 X (.Tuple Zf n tp) (.Call (.Name "zip" p) [a,b] [] pos) (WJ ta):=
 PI.mono (TU hg hm ha hs Zt) λY H R' zz=>x7 zz λU M R hs hm ht k=>⟨U,M,_,hs,hm,ht,λvs H1 ds M1 hd YN e1 q1=>by
  split at q1
  .obtain⟨v,u,rfl,hv,hw⟩:=B4 hd;obtain⟨l,xs,rfl,h1,h2⟩:=hv.mQ;obtain⟨m,ys,rfl,g1,g2⟩:=hw.mQ;exact⟨l,m,Z',⟨xs,h1⟩,⟨ys,g1⟩,k _ H1 _ _ M1 (P6 h1 h2 g1 g2) YN e1 trivial q1⟩
  .exact q1.elim⟩
def qN(M M':Mp):Prop:=∀a c,M a=ga c->M' a=ga c
def qN.refl:qN M M:=λ_ _ h=>h
def qN.trans{M M1 M2:Mp}(a:qN M M1)(b:qN M1 M2):qN M M2:=λx c h=>b x c (a x c h)
def qN.new{M:Mp}{p:Uf}{c:uR}(h:M p=Fa):qN M (pQ M p c):=λx d q=>by rw[uG (RW q h)];exact q
def qN.lst{ds:T0 D}(s:qN M M')(h:oP M a=ga ds):oP M' a=ga ds:=by
 unfold oP at h ⊢;cases e:M a with
 | none=>rw[e]at h;cases h
 | some c=>rw[s a c e];rw[e]at h;exact h
def HM.sub{K:qE}(h:HM K H M')(s:qN M M'):HM K H M:=λa c q=>h a c (s a c q)
def Wn{st:TD}{sp:rH}(F:QL K x qual st f fd)(S:tS N ps (qx st))(len:∀ds M Q,sp ds M Q->ds.length=ps.length) (Zb:∀(YX:Vl) (A:Ar) (outer:T0 Env) (s:Sd) (H:Hp) (E:XK),sG k (A.deeper (xL qual (qx st) s.heap.objs.size f YX))->
   ∃t,Ig (vS Py P w K mg base N qual (qx st) f YX A outer s H E).oF (sy st) t/\∀ds M Q,sp ds M Q->t {nx:=λ_ M'=>∃YQ,qN YQ M'/\Q .mM YQ,rt:=λd M'=>∃YQ,qN YQ M'/\Q d YQ} (xA N ds) M):Vh P w K mg base (k+1) f fd ps sp:=by
 refine F.ok S (λvs H Q E h=>?_) (λYX A outer s H vs Q' E hr h=>?_)
 .obtain⟨ds,M,Q,hd,_,hs,_⟩:=h;rw[<-hd.length];exact len ds M Q hs
 .obtain⟨ds,M,Q,hd,hm,hs,k⟩:=h;obtain⟨t,ht,hb⟩:=Zb YX A outer s H E hr;exact⟨_,ht,xA N ds,M,_,Ez hd,hm,hb ds M Q hs,λσ' H' δ' M' _ x2 x3 _ ⟨YQ,y1,y2⟩=>k .mM H' .mM YQ .mM (x2.sub y1) x3 y2,λv H' d M' x1 x2 x3 ⟨YQ,y1,y2⟩=>k v H' d YQ x1 (x2.sub y1) x3 y2,λ_ _ _ _ _ _ _ _ z=>z,λ_ _ _ _ _ _ _ _ z=>z⟩
theorem C9{g:Ey}{te:T3}{ok:Mp->Prop}{Q:DK}{f:D->D}{M:Mp}(J:vV->Prop)(mR:ok M):∀(ds acc:T0 D) (U:vV),J U->acc.length+ds.length<=Ch->
  (∀d∈ds,∀U,J U->∀k:vV->DK,(∀δ',J δ'->k δ' (f d) M)->g d U M λδ2 M2=>te δ2 M2 (k δ2))->(∀p,M p=Fa->Q (.ref p) (pQ M p (.lst (acc++ds.map f))))->ve g CA te ok Q ds acc U M
 | [],acc,U,_,hl,_,hq=>⟨by simpa using hl,by simpa using hq⟩
 | d::r,acc,U,hj,hl,ht,hq=>by
  rw[d4]at hl;refine⟨by lia,?_⟩;refine ht d dC U hj (λδ2 y M4=>ok M4/\ve g CA te ok Q r (acc++[y]) δ2 M4) λδ' hj'=>⟨mR,C9 (f:=f) J mR r (acc++[f d]) δ' hj' ?_ (λe he=>ht e (dz _ he)) ?_⟩
  .rw[cW,dD];lia
  .simpa using hq
def rS{te:T3}{ok:Mp->Prop}{Q:DK}{f:D->D}{M:Mp}(mR:ok M):∀(ds acc:T0 D) (U:vV),acc.length+ds.length<=Ch->(∀d∈ds,∀k:DK,k (f d) M->te (U.set i (ga d)) M k)->
  (∀p,M p=Fa->Q (.ref p) (pQ M p (.lst (acc++ds.map f))))->ve (rh i) CA te ok Q ds acc U M:=λds acc U hl ht hq=>
 C9 (f:=f) (λδ'=>∀d,δ'.set i (ga d)=U.set i (ga d)) mR ds acc U (λ_=>rfl) hl (λd hd δ' hj k hk=>by
  show te (δ'.set i (ga d)) M (k (δ'.set i (ga d)));rw[hj d];exact ht d hd _ (hk _ λe=>by rw[jN])) hq
theorem yK{α:Type}(f:α->Bool):∀l:List α,G2 (l.map λx=>D.bl (f x))=ga (l.map f)
 | []=>rfl
 | x::r=>by show(G2 (r.map λx=>D.bl (f x))).map (f x::·)=_;rw[yK f r];rfl
def pU{p:Uf}{ds:T0 D}:oP (pQ M p (.lst ds)) p=ga ds:=by unfold oP;rw[pZ]
def pF{α:Type}{o:Option α}{P:α->Prop}{x:α}(e:o=ga x)(h:P x):o.elim False P:=by rw[e];exact h
def pD{l:T0 D}(h:decide (l.length<=100)=Db):l.length<=Ch:=by have z:=dM;have:=fT h;lia
theorem BS{g:Ey}{tb:xU}{ok:Mp->Prop}{E:Hl}(J:vV->Mp->Prop)(mR:∀U M,J U M->ok M):∀(ds:T0 D) (U:vV) (M:Mp),J U M->
  (∀d∈ds,∀U M,J U M->∀nx:vV->Mp->Prop,(∀δ' M',J δ' M'->nx δ' M')->g d U M λδ2 M2=>tb {E with nx:=nx,ct:=nx,bk:=E.nx} δ2 M2)->(∀U M,J U M->E.nx U M)->Fb g tb ok E ds U M
 | [],U,M,j,_,hn=>hn U M j
 | d::r,U,M,j,ht,hn=>ht d dC U M j (λδ' M'=>ok M'/\Fb g tb ok E r δ' M') λδ' M' j'=>⟨mR δ' M' j',BS J mR r δ' M' j' (λe he=>ht e (dz _ he)) hn⟩
theorem wY{g:Ey}{tb:xU}{ok:Mp->Prop}{E:Hl}(all:T0 D)(J:T0 D->vV->Mp->Prop)(mR:∀p U M,J p U M->ok M):∀(ds pre:T0 D) (U:vV) (M:Mp),pre++ds=all->J pre U M->
  (∀pre d post,pre++d::post=all->∀U M,J pre U M->∀nx:vV->Mp->Prop,(∀δ' M',J (pre++[d]) δ' M'->nx δ' M')->g d U M λδ2 M2=>tb {E with nx:=nx,ct:=nx,bk:=E.nx} δ2 M2)->(∀U M,J all U M->E.nx U M)->Fb g tb ok E ds U M
 | [],pre,U,M,e,j,_,hn=>hn U M (by rw[<-e,eG];exact j)
 | d::r,pre,U,M,e,j,ht,hn=>ht pre d r e U M j (λδ' M'=>ok M'/\Fb g tb ok E r δ' M') λδ' M' j'=>⟨mR _ δ' M' j',wY all J mR r (pre++[d]) δ' M' (by rw[<-e,fh];rfl) j' ht hn⟩
def Oh{c:Bool}{A B:Prop}(h:c=pc)(hb:B):if c=Db then A else B:=by subst h;exact Og hb
def BA{c:Bool}{A B:Prop}(h:c=Db)(ha:A):if c=Db then A else B:=by subst h;exact KU ha
def WG{t u:xU}{E:Hl}{U:vV}{M:Mp}(R:vV->Mp->Prop)(h2:∀nx:vV->Mp->Prop,(∀δ' M',R δ' M'->nx δ' M')->t {E with nx:=nx} U M)(h1:∀δ' M',R δ' M'->u E δ' M'):vb t u E U M:=h2 (u E) h1
def WB{K:qE}{ns:T0 Int}(hO:Ny H)(hS:xV K H a (ns.map V.int)):sr K H (.rl (ns.map D.int)) (.ref a):=by
 have r:Rl K H a (ns.map V.int):=by
  rcases hS with h|h
  .rcases h with h|⟨o,h⟩
   .rcases hO a with z|⟨o,xs,z⟩<;>(rw[h]at z;cases z)
   .exact .inl ⟨o,h⟩
  .exact .inr h
 unfold sr;exact⟨a,_,Z',r,.ints⟩
def U9{K:qE}{sp:rH}{ns:T0 Int}(hO:Ny H)(hS:xV K H a (ns.map V.int))(h:sp [.rl (ns.map D.int)] (λ_=>Fa) λd _=>d=.bl Db):Px K sp [.ref a] H (λv _=>v=.bl Db) λ_ _ _=>False:=
 ⟨_,λ_=>Fa,_,.cons (WB hO hS) .nil,λ_ _ z=>(by cases z),h,λv H' d M' x1 _ _ x4=>by subst x4;exact x1.mL⟩
def NQ{l:W.OpenLaw}{q:Pg}{Zz:QQQ}{XP:(QQZ)->Go->Prop}{YP:Wo->Go->Prop}{d:DefRec}{K:Params->qE}{x:Str}{sp:rH}(hn:l.most=ga 63)(hdf:d.params.defaults=[])(hr:sG k callerA) (hY:∀(w:Wo) (h:Go),YP w h->(K w.params).In h) (hsp:∀ns:T0 Int,ns.length<=63->sp [.rl (ns.map D.int)] (λ_=>Fa) λd _=>d=.bl Db) (F:∀(w:Wo) (mg:QQZ) (fa:Uf) (h:Go),(K w.params).In h->h.Ns At mg->mg d.name=ga (.ref fa)->
   ∃fd:Ix,(∀(s:Sd) (u:Vl),BindsTo s fd ⟨[u],[]⟩ [(x,u)])/\∀base:Go,(K w.params).In base->base.Ns At mg->Vh l.prog w (K w.params) mg base k fa fd [x] sp):
  W.WalkO q Zz XP YP l.row.toRowW d [] (λf vs=>PySem.call f vs):=
 L2.Qt (n:=63) (k:=k) (x:=x) (CX:=λ_=>Py) (sp:=λw=>Px (K w.params) sp) hn (by decide) hdf hr hY F (λ_ _ a ns hl hO hS=>U9 hO hS (hsp ns hl)) λ_ _ _ _ _ z=>z
def KD(K:qE)(mg:QQZ)(x:Str)(d:D):Prop:=Dn λv u=>mg x=ga u/\rj v u/\∀H,sr K H d v
def Uz{K:qE}{mg:QQZ}{x y:Str}{t:Tok}(h:mg x=ga (.str y t)):KD K mg x (.str y):=⟨.str y,_,h,⟨t,Z'⟩,λ_=>.str⟩
def wK{K:qE}{mg:QQZ}{x:Str}{y:Int}{t:Tok}(h:mg x=ga (.int y t)):KD K mg x (.int y):=⟨.int y,_,h,⟨t,Z'⟩,λ_=>.int⟩
def va{K:qE}{a:Uf}{ss:QQQ}{us:T0 Vl}{n:Nat}{sl:Array (Option Vl)}(h:K.lookup a=ga ⟨.type "tuple",Fa,.seq us.toArray n,sl⟩)(r:qK (ss.map V.str) us)(hz:us.length<=1000):wg K (λ_=>Fa) a (ss.map V.str):=
 .inr ⟨_,us.toArray,n,h,Z',Z',Z',by rw[dw,dM];lia,by simpa using r⟩
theorem AG{K:qE}:∀{ss:QQQ},qA K H (ss.map D.str) (ss.map V.str)
 | []=>.nil
 | _::_=>.cons .str AG
def RY{K:qE}{mg:QQZ}{x:Str}{a:Uf}{ss:QQQ}(h:mg x=ga (.ref a))(q:wg K (λ_=>Fa) a (ss.map V.str)):KD K mg x (.tup (ss.map D.str)):=
 ⟨.ref a,_,h,Z',λ_=>.tup (JZ q) AG⟩
variable {d:D}{i:zn}{td tk:T3}{F:T0 (Str × QQQ)}
def tG(hg:Gl X x)(h:KD X.K X.mg x d)(hd:Ab x:=by decide):E3 X (.Name x pos) (c3 d):=by obtain⟨v,u,hm,r,hh⟩:=h;exact PE.mono (FD hg hm r hd) λY H Q' zz=>x7 zz λU M Q hs hm ht k=>k _ H _ M (hh H) hm .refl ht
def X0(F:T0 (Str×QQQ))(ta:T3):T3:=λU M Q=>ta U M λx M1=>match x with|.str k=>Q (.bl (KTD.datumAt k F).isSome) M1|_=>False
def Vs(F:T0 (Str×QQQ))(ta:T3):T3:=λU M Q=>ta U M λx M1=>match x with|.str k=>(KTD.datumAt k F).elim False λss=>Q (.tup (ss.map D.str)) M1|_=>False
def Ni(T:Pe X.K X.mg x F)(hg:Gl X x)(he:E3 X e ta)(hd:Ab x:=by decide)(hmk:AT .In (.Name x p)=pc:=by rfl):E3 X (.Compare e [.In] [.Name x p] pos) (X0 F ta):=by
 obtain⟨a,hm,T⟩:=HR T;refine PE.mono (JU (r:=λy z H Q=>∃k,y=.str k/\z=.ref a/\Q (.bl (KTD.datumAt k F).isSome) H) (λYL s Y H y z v u Q I ry rz ⟨k,e1,e2,q⟩=>?_) he (FD (v:=.ref a) hg hm Z' hd) hmk) λY H Q' zz=>x7 zz λU M Q hs hm ht k=>⟨U,M,_,hs,hm,ht,λv H1 d M1 hd YN e1 q1=>?_⟩
 .subst e1 e2;obtain⟨t,rfl⟩:=ry;obtain rfl:u=Value.ref a:=rz;exact Ve (T s.heap I.nE) ⟨.bl (KTD.datumAt k F).isSome,H,I.tok _,Z',q⟩
 .cases d with
  | str k'=>exact⟨k',hd.str_inv,Z',k _ _ _ _ .bl YN e1 q1⟩
  | _=>exact q1.elim
def L4(T:Pe X.K X.mg x F)(hg:Gl X x)(he:E3 X e ta)(hd:Ab x:=by decide)(hs:B6 e:=by exact λ_ _=>rfl):E3 X (.Subscript (.Name x p) e pos) (Vs F ta):=by
 obtain⟨a,hm,T⟩:=HR T;refine PE.mono (Oi (r:=λz y H Q=>∃k ss,y=.str k/\z=.ref a/\KTD.datumAt k F=ga ss/\∀t,wg X.K H t (ss.map V.str)->Q (.ref t) H) (λvalue YZ YL s Y H z y o i Q I rz ry ⟨k,ss,e1,e2,e3,q⟩ hs=>?_) (FD (v:=.ref a) hg hm Z' hd) he hs) λY H Q' zz=>x7 zz λU M Q hs hm ht k=>⟨U,M,_,hs,hm,ht,λv H1 d M1 hd YN e1 q1=>?_⟩
 .subst e1 e2;obtain⟨t,rfl⟩:=ry;obtain rfl:o=Value.ref a:=rz;have hT:=zy (s:=s) (T s.heap I.nE);have h2:pi (Tk X.prog X.w) X.A (XXf (.ref a) (.str k t)) (EP X YL Y Q) X.xe s:=Pd (T s.heap I.nE) e3 λv ⟨t',e4,q4⟩=>⟨.ref t',H,I.tok _,e4,q t' (JZ q4)⟩;unfold subscriptTail;refine cU ?_;rw[kg hT.not_modules];refine cU (jZ hT jy.lookup ?_);have YR:pi (Tk X.prog X.w) X.A (subscripted YZ pc (.ref a) (.str k t)) (λr s₃=>pi (Tk X.prog X.w) X.A (letTemporaryGo value (.ref a) r>>=λ_=>pure r) (EP X YL Y Q) X.xe s₃) X.xe s:=by rw[hs];exact wpAny_operating (eh h2 (λr s₃ h₃=>cU (ky (dh h₃))) λ_ _ x=>x)
  first
   | exact dh (cU YR)
   | exact cU (dh (cU YR))
   | exact cU YR
 .cases d with
  | str k'=>obtain⟨ss,e4,q2⟩:=rE q1;exact⟨k',ss,hd.str_inv,Z',e4,λt qt=>k _ _ _ _ (.tup qt AG) YN e1 q2⟩
  | _=>exact q1.elim
noncomputable def zY(M:Mp)(a:Uf):Option (T0 (rD×D)):=match M a with
 | some (.dk kvs)=>ga kvs
 | _=>Fa
noncomputable def wm(kvs:T0 (rD×D))(k:rD):Option D:=(kvs.find? λp=>decide (p.1=k)).map (·.2)
def Ak{K:qE}{kvs:T0 (rD×D)}(hm:HM K H M)(h:zY M a=ga kvs):∃vs,H a=ga (.dK vs)/\vs.map (·.1)=kvs.map (·.1)/\qA K H (kvs.map (·.2)) (vs.map (·.2)):=by
 unfold zY at h;cases e:M a with
 | none=>rw[e]at h;cases h
 | some c=>
  rw[e]at h;have ok:=hm a c e;cases c with
  | dk es=>cases h;exact ok
  | ins _ _=>cases h
  | lst _=>cases h
  | exc _=>cases h
theorem Gh{K:qE}{k:rD}:∀{kvs:T0 (rD×D)} {vs:T0 (rD×V)},vs.map (·.1)=kvs.map (·.1)->qA K H (kvs.map (·.2)) (vs.map (·.2))->(∀d,wm kvs k=ga d->∃v,xI vs k=ga v/\sr K H d v)/\(wm kvs k=Fa->xI vs k=Fa)
 | [],[],_,_=>⟨λd z=>(by cases z),λ_=>rfl⟩
 | [],_::_,e,_=>by cases e
 | _::_,[],e,_=>by cases e
 | (j,d)::kvs,(j',v)::vs,e,h=>by
  have e1:j'=j:=by simpa using(fC e).1
  subst e1;obtain⟨x,r,e2,h1,h2⟩:=h.inv;obtain⟨e3,e4⟩:=fC e2;subst e3 e4;have ih:=Gh (k:=k) (kvs:=kvs) (vs:=vs) (fC e).2 h2;by_cases hk:j'=k
  .have g:wm ((j',d)::kvs) k=ga d:=by simp[wm,hk]
   have g':xI ((j',v)::vs) k=ga v:=by simp[xI,hk]
   rw[g,g'];exact⟨λd' z=>by cases z;exact⟨v,Z',h1⟩,λz=>by cases z⟩
  .have g:wm ((j',d)::kvs) k=wm kvs k:=by simp[wm,hk]
   have g':xI ((j',v)::vs) k=xI vs k:=by simp[xI,hk]
   rw[g,g'];exact ih
def NF(x y:D)(M:Mp)(Q:DK):Prop:=match x,y with
 | .ref a,.str k=>(zY M a).elim False λkvs=>(wm kvs (.inr k)).elim False λd=>Q d M
 | _,_=>False
def VM(td tk:T3):T3:=λU M Q=>td U M λx M1=>tk U M1 λy M2=>NF x y M2 Q
def zZ(hu:X.A.units+9<XXa)(ho:E3 X o td)(hi:E3 X i tk)(hs:B6 i:=by exact λ_ _=>rfl):E3 X (.Subscript o i pos) (VM td tk):=by
 refine PE.mono (Oi (r:=R3 X.K NF) (λvalue YZ YL s Y H vx vy v u Q' I rx ry h hs=>?_) ho hi hs) IX;obtain⟨x,y,M,Q,hx,hy,hm,q,k⟩:=h;unfold NF at q;split at q
 .rename_i a0 k0;obtain⟨kvs,e1,q⟩:=rE q;obtain⟨d,e2,q⟩:=rE q;cases hx.mI;cases hy.str_inv;obtain⟨vs,h1,h2,h3⟩:=Ak hm e1;obtain⟨w,e3,hw⟩:=(Gh h2 h3).1 d e2;refine PQ (by lia) value YZ YL s Y H _ _ v u Q' I rx ry ⟨_,w,Z',?_,k _ _ _ _ hw hm .refl q⟩ hs;have g:=Fw.k (k:=Sum.inr k0) h1;rw[e3]at g;exact g
 .exact q.elim
def SU(neg:Bool)(x y:D)(M:Mp)(Q:DK):Prop:=match x,y with
 | .str k,.ref a=>(zY M a).elim False λkvs=>Q (.bl (if neg then !(wm kvs (.inr k)).isSome else(wm kvs (.inr k)).isSome)) M
 | _,_=>False
def Po{K:qE}{k:rD}{kvs:T0 (rD×D)}{vs:T0 (rD×V)}(h2:vs.map (·.1)=kvs.map (·.1))(h3:qA K H (kvs.map (·.2)) (vs.map (·.2))):(xI vs k).isSome=(wm kvs k).isSome:=by
 obtain⟨a,b⟩:=Gh (k:=k) h2 h3;cases e:wm kvs k with
 | none=>rw[b e];rfl
 | some d=>obtain⟨v,e3,_⟩:=a d e;rw[e3];rfl
def XA(neg:Bool)(tk td:T3):T3:=λU M Q=>tk U M λx M1=>td U M1 λy M2=>SU neg x y M2 Q
def V9(hu:X.A.units+9<XXa):xX X (Op .In) (R3 X.K (SU pc)):=λYL s Y H vx vy v u Q' I rx ry h=>by
 obtain⟨x,y,M,Q,hx,hy,hm,q,k⟩:=h;unfold SU at q;split at q
 .obtain⟨kvs,e1,q⟩:=rE q;cases hy.mI;cases hx.str_inv;obtain⟨vs,h1,h2,h3⟩:=Ak hm e1;refine Uh (by lia) YL s Y H _ _ v u Q' I rx ry ⟨_,_,Z',Fw.k (k:=Sum.inr _) h1,?_⟩;rw[Po h2 h3];exact k _ _ _ _ .bl hm .refl q
 .exact q.elim
def MR(hu:X.A.units+9<XXa)(hi:E3 X i tk)(ho:E3 X o td)(hm:AT .In o=pc:=by first|exact IV _|with_unfolding_all rfl):B3 X (.Compare i [.In] [o] pos) (b3 (XA pc tk td)):=PT.mono (Kh (V9 hu) hi ho hm) λY H Q' zz=>x7 zz λU M Q hs hm ht k=>
 IX Y H _ ⟨U,M,_,hs,hm,ht,λv H1 d M1 hd YN e1 q1=>by
  cases d with
  | bl c=>exact⟨c,hd.mL,k c H1 M1 YN e1 q1⟩
  | _=>exact q1.elim⟩
noncomputable def xK:T0 D->Option (T0 (rD×D))
 | []=>ga []
 | .tup [.str k,d]::r=>(xK r).map ((.inr k,d)::·)
 | _::_=>Fa
theorem Eu{K:qE}:∀{es:T0 D} {kvs:T0 (rD×D)} {xs:T0 V},xK es=ga kvs->qA K H es xs->∃(ts:QXQ) (vs:T0 (rD×V)),xs=ts.map V.ref/\ts.length=vs.length/\vs.map (·.1)=kvs.map (·.1)/\qA K H (kvs.map (·.2)) (vs.map (·.2))/\
  ∀(j:Nat) (t:Uf) (p:rD×V),ts[j]?=ga t->vs[j]?=ga p->wg K H t [kV p.1,p.2]
 | [],_,_,e,h=>by cases e;exact⟨[],[],h.nil_inv,Z',Z',.nil,λj t p z=>by simp at z⟩
 | d::es,kvs,xs,e,h=>by
  obtain⟨x,r,rfl,h1,h2⟩:=h.inv;unfold xK at e;split at e
  .rename_i z;cases z
  .rename_i k d' r' z;cases z;cases q:xK es with
   | none=>rw[q]at e;cases e
   | some kvs'=>
    rw[q]at e;cases e;obtain⟨ts,vs,e1,e2,e3,e4,e5⟩:=Eu q h2;obtain⟨a,ys,rfl,g1,g2⟩:=h1.mQ;obtain⟨y,r1,rfl,g3,g4⟩:=g2.inv;obtain⟨w,r2,rfl,g5,g6⟩:=g4.inv;cases g6.nil_inv;cases g3.str_inv;refine⟨a::ts,(.inr k,w)::vs,by rw[e1];rfl,by simpa using e2,by rw[dY,dY,e3],.cons g5 e4,λj t p z1 z2=>?_⟩;cases j with
    | zero=>
     have z1':a=t:=by simpa using z1
     have z2':(Sum.inr k,w)=p:=by simpa using z2
     subst z1' z2';exact g1
    | succ j=>exact e5 j t p (by simpa using z1) (by simpa using z2)
  .cases e
def Sj(ds:T0 D)(M:Mp)(Q:DK):Prop:=match ds with
 | [.ref a]=>(oP M a).elim False λes=>(xK es).elim False λkvs=>(kvs.map (·.1)).Nodup/\∀p,M p=Fa->Q (.ref p) (pQ M p (.dk kvs))
 | _=>False
def EY(hc:X.calm=Db):C3 X (.type "dict") Sj:=by
 intro YL s Y H vs us Q' I rv h;obtain⟨ds,M,Q,hd,hm,q,k⟩:=h;unfold Sj at q;split at q
 .obtain⟨es,e1,q⟩:=rE q;obtain⟨kvs,e2,hnd,q⟩:=rE q;obtain⟨v,rfl,hv⟩:=sU hd;cases hv.mI;obtain⟨xs,h1,h2,_⟩:=qp hm e1;obtain⟨ts,ws,rfl,f2,f3,f4,f5⟩:=Eu e2 h2;refine Iz hc YL s Y H _ us Q' I rv ⟨_,ts,ws,Z',h1,f2,f5,by rw[f3];exact hnd,λd hd=>?_⟩;have e:rc X.K H (upd H d (.dK ws)):=.new hd;exact k _ _ _ _ .ref (hm.new (c:=.dk kvs) hd ⟨_,qz,f3,f4.mono e⟩) e (q d (hm.fresh hd))
 .exact q.elim
def Tp:No "set"=ga (.type "set"):=by decide+kernel
noncomputable def Cp:T0 D->Option (QQQ)
 | []=>ga []
 | .str x::r=>(Cp r).map (x::·)
 | _::_=>Fa
theorem Dz:∀ss:QQQ,Cp (ss.map D.str)=ga ss
 | []=>rfl
 | x::r=>by show(Cp (r.map D.str)).map (x::·)=_;rw[Dz r];rfl
theorem G6{K:qE}:∀{ds:T0 D} {ss:QQQ} {xs:T0 V},Cp ds=ga ss->qA K H ds xs->xs=ss.map V.str
 | [],_,_,e,h=>by cases e;exact h.nil_inv
 | d::ds,_,_,e,h=>by
  obtain⟨x,r,rfl,h1,h2⟩:=h.inv;cases d with
  | str z=>
   unfold Cp at e;cases q:Cp ds with
   | none=>rw[q]at e;cases e
   | some ss=>rw[q]at e;cases e;rw[h1.str_inv,G6 q h2];rfl
  | _=>cases e
def VO(ta:T3):T3:=λU M Q=>ta U M λx M1=>(NY M1 x).elim False λes=>(Cp es).elim False λss=>ss.length<4000/\Q (.int (uk ss).length) M1
def LQ(hc:X.calm=Db)(he:E3 X e ta)(hg1:Gl X "len")(YN:X.mg "len"=Fa)(hg2:Gl X "set")(Y9:X.mg "set"=Fa)(b1:No "len"=ga (.builtin "len"))(b2:No "set"=ga (.type "set")) (hs:Tl [e] X.env=[(pc,wp e X.env)]:=by rfl):E3 X (.Call (.Name "len" p) [.Call (.Name "set" p2) [e] [] pos2] [] pos) (VO ta):=
 PE.mono (KS hc he hg1 YN hg2 Y9 b1 b2 hs) λY H Q' zz=>x7 zz λU M Q hs hm ht k=>⟨U,M,_,hs,hm,ht,λv H1 d M1 hd YN e1 q1=>by
  obtain⟨es,e2,q1⟩:=rE q1;obtain⟨ss,e3,hz,q1⟩:=rE q1;obtain⟨a,xs,rfl,h1,h2⟩:=FP YN hd e2;rw[G6 e3 h2]at h1;have z:XXk=4096:=rfl;exact⟨a,ss,Z',h1,by lia,k _ _ _ _ .int YN e1 q1⟩⟩
def UP(x:D)(ds:T0 D)(M:Mp)(Q:DK):Prop:=match x,ds with
 | .ref a,[y]=>(oP M a).elim False λes=>es.length<Ch/\Q .mM (pQ M a (.lst (es++[y])))
 | _,_=>False
def qg{es:T0 D}(h:oP M a=ga es):M a=ga (.lst es):=by
 unfold oP at h;split at h
 .rename_i e;rw[e];cases h;rfl
 .cases h
def FK{K:qE}{es:T0 D}(hm:HM K H M)(h:oP M a=ga es):∃xs,H a=ga (.lst xs)/\qA K H es xs:=hm a _ (qg h)
def Lj:M3 X "list.append" UP:=by
 intro YL s Y H vx vs v us Q' I rx rv h;obtain⟨x,ds,M,Q,hx,hd,hm,q,k⟩:=h;unfold UP at q;split at q
 .obtain⟨es,e1,hz,q⟩:=rE q;obtain⟨w,rfl,hw⟩:=sU hd;cases hx.mI;obtain⟨xs,h1,h2⟩:=FK hm e1;refine LU YL s Y H _ _ v us Q' I rx rv ⟨_,xs,w,Z',Z',h1,by rw[<-h2.length];exact hz,?_⟩;obtain⟨Y9,ex⟩:=hm.put (c:=.lst (es++[_])) (qg e1) λex=>⟨_,qz,(h2.mono ex).snoc (hw.mono ex)⟩;exact k _ _ _ _ .mM Y9 ex q
 .exact q.elim
def rB(ho:E3 X o ta)(ha:A3 X (e::es) t)(Y0:Rs o "append" X.env (wp o X.env)=wp o X.env:=by rfl)
  (Z6:((sB pos (Tl (e::es) X.env)).all (λx=>!x.1)&&(IN pos (Ps [] X.env)).all (λx=>x.1.isSome)&&decide ((e::es).length+([]:T0 XXe).length+(if ([]:T0 XXe).isEmpty then 0 else 1)<30))=Db:=by rfl)
  (Zc:(YO.endLine==pos.line)=Db:=by rfl) (hs:Bt X e es:=by rfl) (Y8:C5 X pos es:=by rfl):
  E3 X (.Call (.Attribute o "append" YO) (e::es) [] pos) (Xj UP ta t):=Sn PySem.F.slot_list_append PySem.F.type_list_append Lj ho ha Y0 Z6 Zc hs Y8
def qN.none{M M2:Mp}{q:Uf}(s:qN M M2)(h:M2 q=Fa):M q=Fa:=by
 cases e:M q with
 | none=>rfl
 | some c=>rw[s q c e]at h;cases h
def qN.upd{M M2:Mp}{c:uR}(s:qN M M2):qN (pQ M q c) (pQ M2 q c):=λx d h=>by
 by_cases e:x=q
 .subst e;rw[pZ]at h ⊢;exact h
 .rw[uG e]at h ⊢;exact s x d h
def qN.dk{ds:T0 (rD×D)}(s:qN M M')(h:zY M a=ga ds):zY M' a=ga ds:=by
 unfold zY at h ⊢;cases e:M a with
 | none=>rw[e]at h;cases h
 | some c=>rw[s a c e];rw[e]at h;exact h
def sH(p:Uf)(M M':Mp):Prop:=∀b c,b≠p->M b=ga c->M' b=ga c
def qN.keep{p:Uf}(s:qN M M'):sH p M M':=λb c _ h=>s b c h
def sH.trans{M M1 M2:Mp}{p:Uf}(a:sH p M M1)(b:sH p M1 M2):sH p M M2:=λx c n h=>b x c n (a x c n h)
def sH.put{p:Uf}{c:uR}:sH p M (pQ M p c):=λb d n h=>by rw[uG n];exact h
def sH.lst{p a:Uf}{ds:T0 D}(k:sH p M M')(n:a≠p)(h:oP M a=ga ds):oP M' a=ga ds:=by have:=k a _ n (qg h);unfold oP;rw[this]
def sH.dk{p a:Uf}{ds:T0 (rD×D)}(k:sH p M M')(n:a≠p)(h:zY M a=ga ds):zY M' a=ga ds:=by
 unfold zY at h ⊢;cases e:M a with
 | none=>rw[e]at h;cases h
 | some c=>rw[k a c n e];rw[e]at h;exact h
def qd{a p C:Uf}{ds:T0 D}{fs:T0 (Str×D)}(h:oP M a=ga ds)(hp:M p=ga (.ins C fs)):a≠p:=λz=>by subst z;rw[qg h]at hp;cases hp
def Dy{a p C:Uf}{ds:T0 (rD×D)}{fs:T0 (Str×D)}(h:zY M a=ga ds)(hp:M p=ga (.ins C fs)):a≠p:=λz=>by subst z;unfold zY at h;rw[hp]at h;cases h
def sj{M:Mp}{p:Uf}{ds:T0 D}(h:M p=ga (.lst ds)):oP M p=ga ds:=by unfold oP;rw[h]
def CY{M:Mp}{p:Uf}{ds:T0 (rD×D)}(h:M p=ga (.dk ds)):zY M p=ga ds:=by unfold zY;rw[h]
def tQ{N:Mp}{p q C:Uf}{fs fs':T0 (Str×D)}{c:uR}(hp:N p=ga (.ins C fs))(hq:N q=Fa):
  q≠p/\pQ N q c p=ga (.ins C fs)/\sH p N (pQ (pQ N q c) p (.ins C fs'))/\pQ (pQ N q c) p (.ins C fs') q=ga c/\pQ (pQ N q c) p (.ins C fs') p=ga (.ins C fs'):=by
 have n:p≠q:=RW hp hq;refine⟨dW n,by rw[uG n];exact hp,(qN.new hq).keep.trans .put,by rw[uG (dW n),pZ],pZ⟩
theorem wx{g:Ey}{te:T3}{ok:Mp->Prop}{Q:DK}(all:T0 D)(J:T0 D->T0 D->vV->Mp->Prop)(mR:∀p acc U M,J p acc U M->ok M):∀(ds pre acc:T0 D) (U:vV) (M:Mp),pre++ds=all->acc.length+ds.length<=Ch->J pre acc U M->
  (∀pre d post,pre++d::post=all->∀acc U M,J pre acc U M->∀k:vV->DK,(∀δ2 y M4,J (pre++[d]) (acc++[y]) δ2 M4->k δ2 y M4)->g d U M λδ2 M2=>te δ2 M2 (k δ2))->
  (∀acc U M,J all acc U M->∀p,M p=Fa->Q (.ref p) (pQ M p (.lst acc)))->ve g CA te ok Q ds acc U M
 | [],pre,acc,U,M,e,hl,j,_,hq=>⟨by simpa using hl,hq acc U M (by rw[<-e,eG];exact j)⟩
 | d::r,pre,acc,U,M,e,hl,j,ht,hq=>by rw[d4]at hl;refine⟨by lia,?_⟩;refine ht pre d r e acc U M j (λδ2 y M4=>ok M4/\ve g CA te ok Q r (acc++[y]) δ2 M4) λδ2 y M4 j'=>⟨mR _ _ _ _ j',wx all J mR r (pre++[d]) (acc++[y]) δ2 M4 (by rw[<-e,fh];rfl) ?_ j' ht hq⟩;rw[cW,dD];lia
noncomputable def uw:Nat->D->Bool
 | _,.mM=>Db
 | _,.bl _=>Db
 | _,.int _=>Db
 | _,.str _=>Db
 | n+1,.tup ds=>ds.all (uw n)
 | _,_=>pc
theorem zj{f:D->D->Option Bool}:∀ds:T0 D,(∀d∈ds,f d d=ga Db)->qQ f ds ds=ga Db
 | [],_=>rfl
 | d::r,h=>by show(f d d).bind (λp=>(qQ f r r).map λq=>p&&q)=ga Db;rw[h d dC,zj r λe he=>h e (dz _ he)];rfl
theorem Cs:∀(n:Nat) (d:D),uw n d=Db->we M (n+1) d d=ga Db
 | _,.mM,_=>rfl
 | _,.bl _,_=>by simp[we]
 | _,.int _,_=>by simp[we]
 | _,.str _,_=>by simp[we]
 | n+1,.tup ds,h=>by have h:ds.all (uw n)=Db:=h;show(qQ (we M (n+1)) ds ds).map (λp=>p&&ds.length==ds.length)=ga Db;rw[zj ds λd hd=>Cs n d (eD.mp h d hd)];simp
 | 0,.tup _,h=>by cases h
 | 0,.ref _,h=>by cases h
 | _+1,.ref _,h=>by cases h
 | 0,.ty _,h=>by cases h
 | _+1,.ty _,h=>by cases h
 | 0,.rl _,h=>by cases h
 | _+1,.rl _,h=>by cases h
def LL{ds:T0 D}(ha:oP M a=ga ds)(hb:oP M b=ga ds)(h:∀d∈ds,we M n d d=ga Db):we M (n+1) (.ref a) (.ref b)=ga Db:=by show(oP M a).bind (λi=>(oP M b).bind λj=>if i.length=j.length then qQ (we M n) i j else ga pc)=ga Db;rw[ha,hb];show(if ds.length=ds.length then qQ (we M n) ds ds else ga pc)=ga Db;rw[de Z'];exact zj ds h
def U7(tc:Bf)(tb:xU):xU:=λE U M=>∃W:Nat->vV->Mp->Prop,(∃m,W m U M)/\∀m U M,W m U M->
 tc U M λb M1=>if b=Db then tb {E with nx:=λδ' M'=>∃m',m'<m/\W m' δ' M',ct:=λδ' M'=>∃m',m'<m/\W m' δ' M',bk:=E.nx} U M1 else E.nx U M1
def My{tc:Bf}{tb:xU}(hp:PassesOwn (Tk X.prog X.w) X.A X.env X.xe)(hc:B3 X c tc)(hb:Ig X body tb):S3 X (.While c body [] pos) (U7 tc tb):=
 PS.mono (Oc hp hc hb) λD' Y H ⟨U,M,E,hs,hm,⟨W,⟨m0,w0⟩,turn⟩,k1,k2,k3,k4⟩=>by
 refine⟨λm σ' H'=>∃δ' M',AC X.K H' σ' δ'/\HM X.K H' M'/\rc X.K H H'/\σ'.length=Y.length/\W m δ' M',⟨m0,U,M,hs,hm,.refl,Z',w0⟩,?_⟩
 rintro m σ1 H1 ⟨δ1,M1,hs1,YN,e1,l1,w1⟩
 refine⟨δ1,M1,_,hs1,YN,turn m δ1 M1 w1,λb H2 M2 Y9 e2 q2=>?_⟩;cases b with
 | false=>rw[cY dA]at q2 ⊢;exact k1 σ1 H2 δ1 M2 (hs1.mono e2) Y9 (e1.trans e2) l1 q2
 | true=>
  rw[de Z']at q2 ⊢;refine⟨λσ' H'=>∃δ' M',AC X.K H' σ' δ'/\HM X.K H' M'/\rc X.K H H'/\σ'.length=Y.length/\∃m',m'<m/\W m' δ' M',?_,δ1,M2,_,hs1.mono e2,Y9,q2,?_,?_,?_,?_⟩
  .rintro σ' H' ⟨δ',M',a1,a2,a3,a4,m',lt,w⟩
   exact⟨m',lt,δ',M',a1,a2,a3,a4,w⟩
  .exact λσ' H' δ' M' y1 y2 y3 y4 y5=>⟨δ',M',y1,y2,e1.trans (e2.trans y3),by rw[y4,l1],y5⟩
  .exact λv H' d M' y1 y2 y3 y4=>k2 v H' d M' y1 y2 (e1.trans (e2.trans y3)) y4
  .exact λσ' H' δ' M' y1 y2 y3 y4 y5=>k1 σ' H' δ' M' y1 y2 (e1.trans (e2.trans y3)) (by rw[y4,l1]) y5
  .exact λσ' H' δ' M' y1 y2 y3 y4 y5=>⟨δ',M',y1,y2,e1.trans (e2.trans y3),by rw[y4,l1],y5⟩
noncomputable def Uv(op:XYc)(x y:D):Option D:=match op,x,y with
 | .Add,.int i,.int j=>ga (.int (i+j))
 | .Sub,.int i,.int j=>ga (.int (i - j))
 | _,_,_=>Fa
def UF(op:XYc):V->V->Hp->VK->Prop:=λvx vy H Q=>match op,vx,vy with
 | .Add,.int i,.int j=>Q (.int (i+j)) H
 | .Sub,.int i,.int j=>Q (.int (i - j)) H
 | _,_,_=>False
def To:PK X op (UF op):=by
 intro YL s Y H x y u v Q I rx ry h;unfold UF at h;split at h
 .exact Vd YL s Y H _ _ u v Q I rx ry ⟨_,_,Z',Z',h⟩
 .exact T7 YL s Y H _ _ u v Q I rx ry ⟨_,_,Z',Z',h⟩
 .exact h.elim
def RL{K:qE}{x y z:D}{Q:VK}(hx:sr K H x vx)(hy:sr K H y vy)(e:Uv op x y=ga z)(k:∀vz,sr K H z vz->Q vz H):UF op vx vy H Q:=by
 unfold Uv at e;split at e
 .cases e;cases hx.int_inv;cases hy.int_inv;exact k _ .int
 .cases e;cases hx.int_inv;cases hy.int_inv;exact k _ .int
 .cases e
def Wm(K:qE)(f:Str)(op:XYc)(ta tv:T3):xU:=λE U M=>ta U M λx M1=>match x with
 | .ref a=>AO (M1 a) λC fs=>uL K C f/\(fs.lookup f).elim False λd=>tv U M1 λy M2=>(Uv op d y).elim False λz=>AO (M2 a) λC' fs'=>C'=C/\fs'.length<1000/\E.nx U (pQ M2 a (.ins C (wW f z fs')))
 | _=>False
def Es{f:Str}(ha:E3 X o ta)(hv:E3 X value tv):S3 X (.AugAssign (.Attribute o f tpos) op value pos) (Wm X.K f op ta tv):=
 PS.mono (Lk ha hv To) λD' Y H zz=>L' zz λU M E hs hm ht k1 k2 k3 k4=>
 ⟨U,M,_,hs,hm,ht,λv H1 d M1 hd YN e1 q1=>by
  cases d with
  | ref a=>
   cases hd.mI;obtain⟨C,fs,e,q1⟩:=yg q1;obtain⟨na,q1⟩:=q1;obtain⟨d,ed,q1⟩:=rE q1;obtain⟨dx,vs,h1,cl,nn,fo⟩:=YN a _ e;obtain⟨w,ew,hw⟩:=(xH fo).1 d ed;refine⟨a,C,dx,vs,w,Z',h1,cl,na,ew,U,M1,_,hs.mono e1,YN,q1,λu H2 y M2 hy Y9 e2 q2=>?_⟩;obtain⟨z,ez,q2⟩:=rE q2;obtain⟨C',fs',e',q2⟩:=yg q2;obtain⟨rfl,hl,q2⟩:=q2;refine RL (hw.mono e2) hy ez λvz hz=>?_;obtain⟨dx',vs',Zv,cl',nn',fo'⟩:=Y9 a _ e';have YS:vs'.length=fs'.length:=by have:=eE List.length fo'.1;simpa using this
   refine⟨dx',vs',Zv,by lia,?_⟩;obtain⟨ZM,e3⟩:=Y9.put (p:=a) (o:=.ins C' dx' (wq f vz vs')) (c:=.ins C' (wW f z fs')) e' λx=>⟨dx',_,qz,cl',λg hg=>by
    rcases Cy hg with q|q
    .rw[q];exact na
    .exact nn' g q,Fz (hz.mono x) (fo'.mono x)⟩
   exact k1 Y _ U _ (hs.mono (e1.trans (e2.trans e3))) ZM (e1.trans (e2.trans e3)) Z' q2
  | _=>exact q1.elim⟩
theorem uj{i:Nat}{tt:Bf}{te:T3}{ok:Mp->Prop}{Q:DK}{f:D->D}{t:D->Bool}{M:Mp}(mR:ok M):∀(ds acc:T0 D) (U:vV),acc.length+ds.length<=Ch->
  (∀d∈ds,∀k:Bool->Mp->Prop,k (t d) M->tt (U.set i (ga d)) M k)->(∀d∈ds,t d=Db->∀k:DK,k (f d) M->te (U.set i (ga d)) M k)->
  (∀p,M p=Fa->Q (.ref p) (pQ M p (.lst (acc++(ds.filter t).map f))))->ve (rh i) tt te ok Q ds acc U M
 | [],acc,U,hl,_,_,hq=>⟨by simpa using hl,by simpa using hq⟩
 | d::r,acc,U,hl,ht,he,hq=>by
  rw[d4]at hl;refine⟨by lia,?_⟩;show tt (U.set i (ga d)) M _;refine ht d dC _ ?_;have z:∀e:D,(U.set i (ga d)).set i (ga e)=U.set i (ga e):=λe=>by rw[jN]
  cases q:t d with
  | true=>
   rw[de Z'];refine he d dC q _ ⟨mR,uj (f:=f) (t:=t) mR r (acc++[f d]) _ ?_ (λe m k h=>?_) (λe m h0 k h=>?_) ?_⟩
   .rw[cW,dD];lia
   .rw[z];exact ht e (dz _ m) k h
   .rw[z];exact he e (dz _ m) h0 k h
   .intro p hp;have:=hq p hp;rw[gQ q]at this
    simpa using this
  | false=>
   rw[cY dA];refine⟨mR,uj (f:=f) (t:=t) mR r acc _ (by lia) (λe m k h=>?_) (λe m h0 k h=>?_) ?_⟩
   .rw[z];exact ht e (dz _ m) k h
   .rw[z];exact he e (dz _ m) h0 k h
   .intro p hp;have:=hq p hp;rw[gR (by rw[q];exact dA)]at this;exact this
section
variable {a:zn}
def XE(ta:T3):T3:=λU M Q=>ta U M λx M1=>match x with|.int i=>Q (.int (-i)) M1|_=>False
def F0(ha:E3 X a ta):E3 X (.UnaryOp .USub a pos) (XE ta):=PE.mono (VY UM ha) λY H Q' zz=>x7 zz λU M Q hs hm ht k=>
 ⟨U,M,_,hs,hm,ht,λv H1 d M1 hd YN e1 q1=>by
  cases d with
  | int i=>cases hd.int_inv;exact⟨i,Z',k _ H1 _ M1 .int YN e1 q1⟩
  | _=>exact q1.elim⟩
end
end L3
namespace L2
open PySem.W
noncomputable def Dt{α:Type}(lt:Nat->Nat->Bool):KasT α->α
 | .ret a=>a
 | .ask i j k=>Dt lt (k (lt i j))
noncomputable def vU(n:Nat):KasT (Array Nat)->Bool
 | .ret p=>p.size==n&&p.toList.all λi=>decide (i<n)
 | .ask i j k=>decide (i<n)&&decide (j<n)&&vU n (k Db)&&vU n (k pc)
def G8{n i j:Nat}{k:Bool->KasT (Array Nat)}(h:vU n (.ask i j k)=Db):i<n/\j<n/\∀b,vU n (k b)=Db:=by simp only[vU,dU,eA]at h;exact⟨h.1.1.1,h.1.1.2,λb=>by cases b;exact h.2;exact h.1.2⟩
theorem HN{cmp:Nat->Nat->(Bool->Sd->Prop)->Sd->Prop}{lt:Nat->Nat->Bool}{n:Nat}{Q:Array Nat->Sd->Prop}(hc:∀i j (C:Bool->Sd->Prop),i<n->j<n->C (lt i j) s->cmp i j C s):
  ∀t:KasT (Array Nat),vU n t=Db->Q (Dt lt t) s->t.kasWp cmp Q s
 | .ret _,_,q=>q
 | .ask i j k,hb,q=>by obtain⟨h1,h2,h3⟩:=G8 hb;exact hc i j _ h1 h2 (HN hc (k (lt i j)) (h3 _) q)
theorem JL:∀t:KasT (Array Nat),vU n t=Db->(Dt lt t).size=n/\∀i∈(Dt lt t).toList,i<n
 | .ret p,hb=>by simp only[vU,dU,eP,eD,eA]at hb;exact hb
 | .ask i j k,hb=>JL (k (lt i j)) ((G8 hb).2.2 _)
noncomputable def uy(lt:Nat->Nat->Bool)(n:Nat):T0 Nat:=if n<2 then List.range n else(Dt lt (kas_sort n)).toList
def XG:vU 2 (kas_sort 2)=Db:=by decide+kernel
def XN:vU 3 (kas_sort 3)=Db:=by decide+kernel
def WV{n:Nat}(h2:2<=n)(h3:n<=3):vU n (kas_sort n)=Db:=by
 have:n=2\/n=3:=by lia
 rcases this with rfl|rfl
 .exact XG
 .exact XN
def yI{n:Nat}(h3:n<=3):(uy lt n).length=n/\∀i∈uy lt n,i<n:=by
 unfold uy;by_cases h:n<2
 .rw[de h,dS];exact⟨Z',λi hi=>e9.mp hi⟩
 .rw[cY h];obtain⟨h1,h2⟩:=JL (lt:=lt) (kas_sort n) (WV (by lia) h3);exact⟨by rw[im];exact h1,h2⟩
variable {prog:Pg}{w:Wo}{A:Ar}{E:QQX}{s:Sd}
def DP{a:Uf}{vs:T0 Vl}{n:Nat}{κ:SortKind}{lt:Nat->Nat->Bool}{P:PySem.Fin->Sd->Prop}(ho:s.heap.get? a=ga (dL "list" vs.toArray n))(h3:vs.length<=3) (hk:∀h' (Q:SortKind->Sd->Prop),0<vs.length->(∀b o,b≠a->s.heap.get? b=ga o->h'.get? b=ga o)->Q κ {s with heap:=h'}->pi (Tk prog w) A (keyKind' vs.toArray) Q (λ_ _=>False) {s with heap:=h'})
  (YV:∀h' i j (C:Bool->Sd->Prop),(∀b o,b≠a->s.heap.get? b=ga o->h'.get? b=ga o)->i<vs.length->j<vs.length->C (lt i j) {s with heap:=h'}->pi (Tk prog w) A (keyLt' κ (vs.getD i .none) (vs.getD j .none)) C (λ_ _=>False) {s with heap:=h'})
  (h:P (.done (.ret .none)) {s with heap:=sortedHeap s.heap a vs (List.toArray ((uy lt vs.length).map λi=>vs.getD i Value.none))}):
  pi (Tk prog w) A (Builtin.«list.sort» ⟨[.ref a],[]⟩) P E s:=by
 rw[list_sort_plain];have hz:=dM;have ha:a<s.heap.objs.size:=dB ho;refine cU (listItems_at ho Z' ?_);refine cU (kF ho Z' ?_ (by rw[dw];lia) (eK _));obtain⟨e1,ho1⟩:∃e1,(s.heap.update a (Obj.mapSeq λ_=>#[])).get? a=ga (dL "list" #[] e1):=⟨_,get?_update_seq ho (λ_=>#[])⟩;refine cU (lL ho1 Z' ?_);refine cU (wpAny_newTuple ?_ (by show vs.length<=_;lia));refine cU (wpAny_newList ?_ (eK _));refine eW ?_;have ho6:(((s.heap.update a (Obj.mapSeq λ_=>#[])).push (dL "tuple" vs.toArray 0)).push (dL "list" #[] 0)).get? a=ga (dL "list" #[] e1):=by rw[iL _ _ _ (by rw[me,iN];exact dN (gH ha)),iL _ _ _ (by rw[iN];exact dN ha)];exact ho1
 have keep:∀b o,b≠a->s.heap.get? b=ga o->(((s.heap.update a (Obj.mapSeq λ_=>#[])).push (dL "tuple" vs.toArray 0)).push (dL "list" #[] 0)).get? b=ga o:=λb o hb q=>by have YV:b<s.heap.objs.size:=dB q;rw[iL _ _ _ (by rw[me,iN];exact dN (gH YV)),iL _ _ _ (by rw[iN];exact dN YV),jc _ _ _ _ hb];exact q
 show pi (Tk prog w) A _ P E {s with heap:=((s.heap.update a (Obj.mapSeq λ_=>#[])).push (dL "tuple" vs.toArray 0)).push (dL "list" #[] 0)};dsimp only;have hsz:vs.toArray.size=vs.length:=by simp
 by_cases h2:vs.toArray.size<2
 .rw[de h2,de h2];refine cU (dh ?_);rw[StateT.run_pure];refine cU (dh ?_);dsimp only;refine cU (lL ho6 Z' ?_);have eo:(arrOf (SortSt.mk' general' (vs.toArray.zip vs.toArray) #[] 7 Fa)).map (·.2)=List.toArray ((uy lt vs.length).map λi=>vs.getD i Value.none):=by
   unfold uy;rw[de (by lia)];show((vs.toArray.zip vs.toArray).map (·.2))=_
   match vs,hsz,h2 with
   | [],_,_=>simp
   | [_],_,_=>simp[iu]
   | _::_::_,_,h2=>simp at h2;lia
  rw[eo];refine cU (kF ho6 Z' ?_ (eK _) (by rw[dw,cT,(yI h3).1];lia));simp only[lF,k9,kr];exact dh h
 .rw[cY h2,cY h2];have g2:2<=vs.length:=by lia
  refine cU (eh (hk _ (λκ' s'=>κ'=κ/\s'={s with heap:=((s.heap.update a (Obj.mapSeq λ_=>#[])).push (dL "tuple" vs.toArray 0)).push (dL "list" #[] 0)}) (by lia) keep ⟨Z',Z'⟩) ?_ λ_ _ x=>x.elim)
  rintro κ' s' ⟨rfl,rfl⟩
  refine cU (eh (kat_run (ks:=vs) (vs:=vs) (Q:=λZC s'=>∃p:Array Nat,arrOf ZC=p.map (kas_item (vs.toArray.zip vs.toArray))/\failedOf ZC=Fa/\p.toList=uy lt vs.length/\s'={s with heap:=((s.heap.update a (Obj.mapSeq λ_=>#[])).push (dL "tuple" vs.toArray 0)).push (dL "list" #[] 0)})
   (G:=λp s'=>p.toList=uy lt vs.length/\s'={s with heap:=((s.heap.update a (Obj.mapSeq λ_=>#[])).push (dL "tuple" vs.toArray 0)).push (dL "list" #[] 0)})
   rfl g2 (by lia) (λp' ZC s' a1 a2 a3 a4=>⟨p',a2,a3,a4⟩) (HN (n:=vs.length) (lt:=lt) (λi j C hi hj hC=>YV _ i j C keep hi hj hC) _ (WV g2 h3) ⟨by unfold uy;rw[cY (by lia)],Z'⟩)) ?_ λ_ _ e=>e)
  rintro ⟨⟨⟩,ZC⟩ s' ⟨p,har,hf,hp,rfl⟩
  dsimp only;have hout:=kat_snds Z' har;rw[hp]at hout;refine cU (lL ho6 Z' ?_);rw[hout];refine cU (kF ho6 Z' ?_ (eK _) (by rw[dw,cT,(yI h3).1];lia));rw[hf];simp only[lF,k9,kr];exact dh h
noncomputable def WZ(a b:Str×Int):Bool:=if a.1==b.1 then(if a.2==b.2 then pc else decide (a.2<b.2))else decide (a.1.cps.toList<b.1.cps.toList)
def QB{x y:Uf}{ox oy:Obj}{n k:Nat}{a b:Str×Int}{t1 t2 t3 t4:Tok}{C:Bool->Sd->Prop}(hx:s.heap.get? x=ga ox)(dx:ox.data=.seq #[.str a.1 t1,.int a.2 t2] n)(hy:s.heap.get? y=ga oy)(dy:oy.data=.seq #[.str b.1 t3,.int b.2 t4] k)(h:C (WZ a b) s):
  pi (Tk prog w) A (keyLt' (tuples' Db) (.ref x) (.ref y)) C E s:=by
 refine kat_lt hx dx hy dy ?_;show KatLex prog w A Db _ C [(Value.str a.1 t1,Value.str b.1 t3),(Value.int a.2 t2,Value.int b.2 t4)] 0 s;unfold WZ at h;refine kat_cons (eqBool_str ?_);cases e:a.1==b.1 with
 | true=>
  rw[e,de Z']at h;refine kat_yes (kat_cons (lN ?_));cases e2:a.2==b.2 with
  | true=>rw[e2,de Z']at h;exact kat_yes (kat_nil h)
  | false=>rw[e2,cY dA]at h;exact kat_no (kat_one _ _ (PyProof.Rows.lt_int h))
 | false=>rw[e,cY dA]at h;exact kat_no (oneLt_str h)
def DE{x:Str}(h:Cm (.inr x) v=Db):∃t,v=.str x t:=by
 rcases sD h with⟨i,t,e,_⟩|⟨y,t,e,e2⟩
 .cases e
 .cases e;exact⟨t,e2⟩
noncomputable def FU(ps:T0 (Str×Int))(i j:Nat):Bool:=WZ (ps.getD i ("",0)) (ps.getD j ("",0))
noncomputable def tP(ps:T0 (Str×Int)):T0 (Str×Int):=(uy (FU ps) ps.length).map λi=>ps.getD i ("",0)
def EE{ps:T0 (Str×Int)}(h:ps.length<=3):(tP ps).length=ps.length:=by unfold tP;rw[cT];exact(yI h).1
def Pr(h:Go)(a:Uf)(p:Str×Int):Prop:=Dn λt1 t2=>h.get? a=ga {cls:=.type "tuple",data:=.seq #[.str p.1 t1,.int p.2 t2]}
def Pr.inj{p q:Str×Int}(x:Pr h a p)(y:Pr h a q):p=q:=by obtain⟨t1,t2,e1⟩:=x;obtain⟨u1,u2,e2⟩:=y;rw[e1]at e2;have:=df e2;simp only[Obj.mk.injEq,Data.seq.injEq,Array.mk.injEq,List.cons.injEq,Value.str.injEq,Value.int.injEq]at this;exact mw (by simp_all) (by simp_all)
theorem JD:∀(as:QXQ) (ps:T0 (Str×Int)),as.length=ps.length->(∀(j:Nat) (a:Uf) (p:Str×Int),as[j]?=ga a->ps[j]?=ga p->Pr h a p)->∃fs,KatTups h (as.map Value.ref) fs/\fs.length=as.length/\∀v∈fs,∃x t,v=Value.str x t
 | [],[],_,_=>⟨[],.nil,Z',λv hv=>nomatch hv⟩
 | [],_::_,e,_=>by cases e
 | _::_,[],e,_=>by cases e
 | a::as,p::ps,e,hp=>by
  obtain⟨fs,h1,h2,h3⟩:=JD as ps (by simpa using e) λj a' p' e1 e2=>hp (j+1) a' p' (by simpa using e1) (by simpa using e2);obtain⟨t1,t2,ea⟩:=hp 0 a p Z' Z';refine⟨.str p.1 t1::fs,.cons ea Z' Z' Z' h1,by simp[h2],λv hv=>?_⟩;rcases dg.mp hv with z|z
  .exact⟨_,_,z⟩
  .exact h3 v z
def HJ{r d:Uf}{kvs:T0 (rD×Vl)}{ep:Nat}{ps:T0 (Str×Int)}{Q:QQX}(hh:A.handled=Fa)(hv:s.heap.IsItemsView r d)(hm:s.heap.DictAt (rQ prog w) d kvs ep)(h3:ps.length<=3) (hp:kvs.length=ps.length) (hps:∀(j:Nat) (k:rD) (x:Vl),kvs[j]?=ga (k,x)->∃p t,ps[j]?=ga p/\k=Sum.inr p.1/\x=.int p.2 t) (h:∀(h':Go) (tk:Nat) (S:Uf) (ws:QXQ) (e:Nat),(∀b o,s.heap.get? b=ga o->h'.get? b=ga o)->r<S->h'.get? S=ga (dL "list" (ws.map Value.ref).toArray e)->ws.length=ps.length->
    (∀(j:Nat) (a:Uf) (p:Str×Int),ws[j]?=ga a->(tP ps)[j]?=ga p->r<a/\a≠S/\Pr h' a p)->Q (.ref S) {s with heap:=h',toks:=tk}):
  pi (Tk prog w) A (call (.builtin "sorted") [.ref r]) Q E s:=by
 have hz:=dM;have hr:r<s.heap.objs.size:=by obtain⟨o,ho,_⟩:=hv;exact dB ho
 refine Calls.call_function_entry kind_sorted plain_sorted entry_sorted (args_sorted1 _) ?_;unfold Builtin.«sorted»;refine cU (m:=checkCount "sorted" 1 1 _) (dh ?_);refine cU (kdx_collect (A:=A.in1) hh hv hm (by lia) λh1 tk as hk hl hG=>?_);refine cU (wpAny_newList ?_ (by rw[cT];lia));have hl':as.length=ps.length:=by lia
 have pr:∀(j:Nat) (a:Uf) (p:Str×Int),as[j]?=ga a->ps[j]?=ga p->Pr h1 a p:=λj a p e1 e2=>by obtain⟨key,k,x,f1,f2,f3⟩:=hG.pairs j a e1;obtain⟨p',t,g1,g2,g3⟩:=hps j k x f1;rw[e2]at g1;cases g1;subst g2 g3;obtain⟨t',rfl⟩:=DE f2;exact⟨t',t,f3⟩
 have hoL:(h1.push (dL "list" (as.map Value.ref).toArray 0)).get? h1.objs.size=ga (dL "list" (as.map Value.ref).toArray 0):=dJ _ Z';have pr2:∀h',(∀b o,b≠h1.objs.size->(h1.push (dL "list" (as.map Value.ref).toArray 0)).get? b=ga o->h'.get? b=ga o)->∀(j:Nat) (a:Uf) (p:Str×Int),as[j]?=ga a->ps[j]?=ga p->Pr h' a p:=λh' kp j a p e1 e2=>by obtain⟨t1,t2,e3⟩:=pr j a p e1 e2;exact⟨t1,t2,kp _ _ (dN (dB e3)) (c9 _ e3)⟩
 have gd:∀i,i<as.length->∃a p,as[i]?=ga a/\ps[i]?=ga p/\(as.map Value.ref).getD i Value.none=.ref a/\ps.getD i ("",0)=p:=λi hi=>by
  have ZH:i<ps.length:=by lia
  refine⟨as[i],ps[i],cV hi,cV ZH,?_,?_⟩
  .simp[hi]
  .simp[ZH]
 have hll:(as.map Value.ref).length=ps.length:=by rw[cT];exact hl'
 show pi _ _ _ _ _ {s with heap:=h1.push (dL "list" (as.map Value.ref).toArray 0),toks:=tk};refine cU (eW (fV slot_list_sort ⟨_,hoL,Z'⟩ entry_list_sort (DP (κ:=tuples' Db) (lt:=FU ps) (s:={s with heap:=h1.push (dL "list" (as.map Value.ref).toArray 0),toks:=tk}) hoL (by rw[hll];exact h3) (λh' Q' Ze kp hq=>?_) (λh' i j C kp hi hj hC=>?_) ⟨_,Z',?_⟩) (args_list_sort _)))
 .obtain⟨fs,k1,k2,k3⟩:=JD as ps hl' (pr2 h' kp);refine kat_kind (T:=Value.type "str") k1 (by rw[k2];rw[cT]at Ze;exact Ze) (λv hv=>?_) (by decide) hq;obtain⟨x,t,rfl⟩:=k3 v hv;exact Looks.now
 .rw[cT]at hi hj;obtain⟨a,p,a1,a2,a3,a4⟩:=gd i hi;obtain⟨b,q,b1,b2,b3,b4⟩:=gd j hj;rw[a3,b3];obtain⟨t1,t2,e1⟩:=pr2 h' kp i a p a1 a2;obtain⟨t3,t4,e2⟩:=pr2 h' kp j b q b1 b2;refine QB (s:={s with heap:=h',toks:=tk}) e1 Z' e2 Z' ?_;show C (WZ p q) _;rw[<-a4,<-b4];exact hC
 .obtain⟨e,he⟩:=sortedHeap_at (h:=h1.push (dL "list" (as.map Value.ref).toArray 0)) (a:=h1.objs.size) (vs:=as.map Value.ref) (out:=List.toArray ((uy (FU ps) (as.map Value.ref).length).map λi=>(as.map Value.ref).getD i Value.none)) hoL;have Zk:∀b o,h1.get? b=ga o->(sortedHeap (h1.push (dL "list" (as.map Value.ref).toArray 0)) h1.objs.size (as.map Value.ref) (List.toArray ((uy (FU ps) (as.map Value.ref).length).map λi=>(as.map Value.ref).getD i Value.none))).get? b=ga o:=λb o q=>by have hb:=dB q;rw[sortedHeap_old (dN hb) (by rw[me];exact gH hb)];exact c9 _ q
  have ix:=yI (lt:=FU ps) h3;have eo:((uy (FU ps) (as.map Value.ref).length).map λi=>(as.map Value.ref).getD i Value.none)=((uy (FU ps) ps.length).map λi=>as.getD i 0).map Value.ref:=by
   rw[hll,d6];refine gw λi hi=>?_;have:=ix.2 i hi;have hi':i<as.length:=by lia
   simp[hi']
  refine dh ⟨_,Z',h _ tk h1.objs.size ((uy (FU ps) ps.length).map λi=>as.getD i 0) e (λb o q=>Zk b o (hk b o q)) ?_ ?_ ?_ λj a p e1 e2=>?_⟩
  .obtain⟨o,ho,_⟩:=hv;exact dB (hk _ _ ho)
  .rw[he,eo]
  .rw[cT];exact ix.1
  .unfold tP at e2;rw[dv]at e1 e2;cases ei:(uy (FU ps) ps.length)[j]? with
   | none=>rw[ei]at e1;cases e1
   | some i=>
    rw[ei]at e1 e2;have hi:=ix.2 i (fm ei);obtain⟨a',p',a1,a2,a3,a4⟩:=gd i (by lia);have ea:a=a':=by have:as.getD i 0=a:=df e1;rw[<-this];simp[fB,a1]
    have ep:p=p':=by have:ps.getD i ("",0)=p:=df e2;rw[<-this,a4]
    subst ea ep;have P1:=pr i a p a1 a2;obtain⟨t1,t2,e3⟩:=P1;exact⟨iA hr (hG.above a (fm a1)),dN (dB e3),t1,t2,Zk _ _ e3⟩
def Inv.many{YL:QQY}{H H':Hp}{h':Go}{t':Nat}(I:Inv X YL Y H s)(k:∀b o,s.heap.get? b=ga o->h'.get? b=ga o)(hs:∀b,b<s.heap.objs.size->H' b=H b) (new:∀b o,s.heap.objs.size<=b->H' b=ga o->tN X.prog X.w H' h' b o):Inv X YL Y H' {s with heap:=h',toks:=t'}:=by
 have sm:∀b o,H b=ga o->H' b=ga o:=λb o e=>by rw[hs b (I.mR.lt e)];exact e
 refine I.step (g':=s.gens) (d':=s.drawn) (ch:=[]) (λb hb=>nomatch hb) (λb o _ _ _ e _=>k b o e) (λb o _ _ _ e _=>⟨o.slots,k b o e⟩) (λb o _ e n=>by rw[hs b (dB e)];exact n)
  (λb o _ e=>⟨o,k b o e⟩) (λb xs e=>sm b _ e) (λb o u e=>sm b _ e) (λb ps e=>⟨#[],by rw[sm b _ e];simp⟩) (λm hm=>?_) (λb u e=>?_) I.bare
 .obtain⟨o,es,ep,ho,r⟩:=hm;exact⟨o,es,ep,k _ o ho,r⟩
 .by_cases hb:b<s.heap.objs.size
  .rw[hs b hb]at e;exact(I.mR b u e).nu (λc v _ q=>k c v q) (λc q=>sm c _ q) λc xs q=>sm c _ q
  .exact new b u (jI hb) e
def Ud(te:TE):TE:=λY H Q=>te Y H λv H1=>∃a kvs ps,v=.ref a/\H1 a=ga (.dK kvs)/\kvs=(ps:T0 (Str×Int)).map (λp=>((Sum.inr p.1:rD),V.int p.2))/\ps.length<=3/\
 ∀(S:Uf) (H2:Hp) (ws:QXQ),H1 S=Fa->(∀b o,H1 b=ga o->H2 b=ga o)->H2 S=ga (.lst (ws.map V.ref))->ws.length=ps.length->(∀(j:Nat) (a:Uf) (p:Str×Int),ws[j]?=ga a->(tP ps)[j]?=ga p->H2 a=ga (.tup [.str p.1,.int p.2]))->
  (∀b o,H1 b=Fa->H2 b=ga o->b=S\/∃p:Str×Int,o=.tup [.str p.1,.int p.2])->Q (.ref S) H2
def LN:No "sorted"=ga (.builtin "sorted"):=by decide+kernel
theorem JP:∀{ps:T0 (Str×Int)} {vs:T0 (rD×Vl)},KV (ps.map (λp=>((Sum.inr p.1:rD),V.int p.2))) vs->vs.length=ps.length/\∀(j:Nat) (k:rD) (x:Vl),vs[j]?=ga (k,x)->∃p t,ps[j]?=ga p/\k=Sum.inr p.1/\x=.int p.2 t
 | [],_,.nil=>⟨Z',λj k x e=>by simp at e⟩
 | p::ps,_,.cons r rs=>by
  obtain⟨h1,h2⟩:=JP rs;refine⟨by simp[h1],λj k x e=>?_⟩;cases j with
  | zero=>have e:=df e;obtain⟨r1,t,r2⟩:=r;subst e;exact⟨p,t,Z',r1.symm,r2⟩
  | succ j=>exact h2 j k x e
def Fc{X:Cx}{te:TE}{p pos YO YT:Pos}(hc:X.calm=Db)(he:PE X o te)(hg:Gl X "sorted")(hm:X.mg "sorted"=Fa) (Y0:Rs o "items" X.env (wp o X.env)=wp o X.env:=by rfl) (Zc:(YO.endLine==YT.line)=Db:=by rfl):
  PE X (.Call (.Name "sorted" p) [.Call (.Attribute o "items" YO) [] [] YT] [] pos) (Ud te):=by
 intro YL s Y H Q I h;refine fU (wM I hg hm LN ?_);refine gT ?_ Z' Z';show pi _ _ (spliced ((pc,wp (.Call (.Attribute o "items" YO) [] [] YT) X.env)::sB pos (Tl [] X.env))) _ _ s;refine iz ?_;refine wpAny_Call_method0_late Y0 Zc (tj (he YL s Y H _ I h) λv s1 zz=>?_);obtain⟨x,H1,I1,r1,a,kvs,ps,ex,ea,ek,h3,q⟩:=zz;subst ex;obtain rfl:v=Value.ref a:=r1;obtain⟨h1,h2⟩:=OS (T:="dict") (x:=.ref a) I1 Z' (.inr (.inr (.inl ⟨Z',.inl ⟨_,ea⟩⟩)));refine⟨"dict","dict.items",PySem.F.plainAttrs_dict,jV,PySem.F.type_dict_items,h1,h2,j7 Z' (PySem.evalArgs_none ?_)⟩;obtain⟨hz,hS,vs,rk,hD⟩:=I1.mR a _ ea;refine call_meetsIn jV h1 PySem.F.entry_dict_items (PySem.F.args_dict_items_1 _) (meets_dict_items (rQ X.prog X.w) a hS) ⟨⟨vs,hD⟩,?_⟩;refine iJ ?_;obtain⟨ep,hat⟩:=hD.dictAt;subst ek;obtain⟨g1,g2⟩:=JP rk;refine HJ (ps:=ps) (s:={s1 with heap:=s1.heap.push {cls:=.type "dict_items",data:=.fields #[.ref a]}}) (I1.ok.hd hc) ⟨_,dJ _ Z',Z',Z'⟩ (hat.push _) h3 g1 g2 λh' tk S ws e k hrS hS' hl hw=>?_;have k':∀b o,s1.heap.get? b=ga o->h'.get? b=ga o:=λb o z=>k b o (c9 _ z);have hsl:(tP ps).length=ws.length:=by rw[EE h3,hl]
 let H2:Hp:=λb=>if b=S then ga (.lst (ws.map V.ref))else match (ws.zip (tP ps)).lookup b with
  | some p=>ga (.tup [.str p.1,.int p.2])
  | none=>H1 b
 have at1:∀b p,(ws.zip (tP ps)).lookup b=ga p->s1.heap.objs.size<b/\b≠S/\Pr h' b p:=λb p z=>by
  have:(b,p)∈ws.zip (tP ps):=by
   have go:∀l:T0 (Uf×(Str×Int)),l.lookup b=ga p->(b,p)∈l:=λl=>by
    induction l with
    | nil=>intro z;cases z
    | cons c r ih=>
     intro z;rw[eF]at z;cases q:b==c.1 with
     | true=>
      rw[q]at z;have hb:b=c.1:=by simpa using q
      have:c=(b,p):=mw hb.symm (df z);rw[this];exact dC
     | false=>rw[q]at z;exact dz _ (ih z)
   exact go _ z
  obtain⟨j,hj⟩:=List.mem_iff_getElem?.mp this;obtain⟨e1,e2⟩:=ir.mp hj;exact hw j b p e1 e2
 have lowS:s1.heap.objs.size<S:=hrS;have low:∀b,b<s1.heap.objs.size->H2 b=H1 b:=λb hb=>by
  show(if b=S then _ else _)=_;rw[cY (dN (iA hb lowS))];cases z:(ws.zip (tP ps)).lookup b with
  | none=>rfl
  | some p=>exact absurd (at1 b p z).1 (Nat.not_lt_of_lt hb)
 have eS:H2 S=ga (.lst (ws.map V.ref)):=de Z';have fr:∀b,s1.heap.objs.size<=b->H1 b=Fa:=λb hb=>I1.mR.fresh hb;have tupAt:∀(j:Nat) (b:Uf) (p:Str×Int),ws[j]?=ga b->(tP ps)[j]?=ga p->H2 b=ga (.tup [.str p.1,.int p.2]):=λj b p e1 e2=>by
  obtain⟨_,n2,n3⟩:=hw j b p e1 e2;show(if b=S then _ else _)=_;rw[cY n2];have mem:(b,p)∈ws.zip (tP ps):=fm (ir.mpr ⟨e1,e2⟩);cases z:(ws.zip (tP ps)).lookup b with
  | none=>
   have go:∀l:T0 (Uf×(Str×Int)),(b,p)∈l->l.lookup b≠Fa:=λl=>by
    induction l with
    | nil=>intro z;cases z
    | cons c r ih=>
     intro z;rw[eF];cases q:b==c.1 with
     | true=>simp
     | false=>
      rcases dg.mp z with y|y
      .rw[<-y]at q;simp at q
      .exact ih y
   exact absurd z (go _ mem)
  | some p'=>rw[(at1 b p' z).2.2.inj n3]
 have newOk:∀b u,s1.heap.objs.size<=b->H2 b=ga u->tN X.prog X.w H2 h' b u/\(b=S\/∃p:Str×Int,u=.tup [.str p.1,.int p.2]):=λb u hb z=>by
  by_cases eb:b=S
  .subst eb;rw[eS]at z;cases z;refine⟨⟨by rw[cT,hl,dM];lia,ws.map Value.ref,e,?_,hS'⟩,.inl Z'⟩;have go:∀l:QXQ,qK (l.map V.ref) (l.map Value.ref):=λl=>by
    induction l with
    | nil=>exact .nil
    | cons c r ih=>exact .cons Z' ih
   exact go ws
  .have z':(match (ws.zip (tP ps)).lookup b with|some p=>ga (HO.tup [.str p.1,.int p.2])|none=>H1 b)=ga u:=by have:H2 b=_:=cY eb;rw[this]at z;exact z
   cases y:(ws.zip (tP ps)).lookup b with
   | none=>rw[y,fr b hb]at z';cases z'
   | some p=>rw[y]at z';cases z';obtain⟨_,_,t1,t2,e3⟩:=at1 b p y;exact⟨⟨by show 2<=Ch;rw[dM];decide,[.str p.1 t1,.int p.2 t2],.cons ⟨_,Z'⟩ (.cons ⟨_,Z'⟩ .nil),⟨_,e3,Z',⟨_,Z'⟩,Z'⟩⟩,.inr ⟨p,Z'⟩⟩
 refine⟨.ref S,H2,I1.many (t':=tk) k' low λb u hb z=>(newOk b u hb z).1,Z',q S H2 ws (fr S (hZ lowS)) (λb u z=>by rw[low b (I1.mR.lt z)];exact z) eS hl tupAt λb u z1 z2=>?_⟩;by_cases hb:b<s1.heap.objs.size
 .rw[low b hb,z1]at z2;cases z2
 .exact(newOk b u (jI hb) z2).2
end L2
namespace L3
open L2
noncomputable def zV(p:Str×Int):D:=.tup [.str p.1,.int p.2]
def Ur(ta:T3):T3:=λU M Q=>ta U M λx M1=>match x with
 | .ref a=>∃ps:T0 (Str×Int),zY M1 a=ga (ps.map λp=>((Sum.inr p.1:rD),D.int p.2))/\ps.length<=3/\∀S,M1 S=Fa->Q (.ref S) (pQ M1 S (.lst ((tP ps).map zV)))
 | _=>False
theorem CJ{K:qE}:∀{ps:T0 (Str×Int)} {vs:T0 (rD×V)},vs.map (·.1)=(ps.map λp=>((Sum.inr p.1:rD),D.int p.2)).map (·.1)->qA K H ((ps.map λp=>((Sum.inr p.1:rD),D.int p.2)).map (·.2)) (vs.map (·.2))->vs=ps.map (λp=>((Sum.inr p.1:rD),V.int p.2))
 | [],[],_,_=>rfl
 | [],_::_,e,_=>by cases e
 | _::_,[],e,_=>by cases e
 | p::ps,(k,v)::vs,e,h=>by obtain⟨x,r,e2,h1,h2⟩:=h.inv;obtain⟨e3,e4⟩:=fC e2;obtain⟨f1,f2⟩:=fC e;subst e3 e4;have hk:k=Sum.inr p.1:=f1;have hv:v=V.int p.2:=sr.int_inv h1;rw[CJ f2 h2,hk,hv];rfl
def FH{X:Cx}{p pos YO YT:Pos}(hc:X.calm=Db)(he:E3 X o ta)(hg:Gl X "sorted")(hm:X.mg "sorted"=Fa) (Y0:Rs o "items" X.env (wp o X.env)=wp o X.env:=by rfl) (Zc:(YO.endLine==YT.line)=Db:=by rfl):
  E3 X (.Call (.Name "sorted" p) [.Call (.Attribute o "items" YO) [] [] YT] [] pos) (Ur ta):=PE.mono (Fc hc he hg hm Y0 Zc) λY H Q' zz=>x7 zz λU M Q hs hm ht k=>
 ⟨U,M,_,hs,hm,ht,λv H1 d M1 hd YN e1 q1=>by
  cases d with
  | ref a=>
   cases hd.mI;obtain⟨ps,f1,f2,q⟩:=q1;obtain⟨vs,h1,h2,h3⟩:=Ak YN f1;refine⟨a,vs,ps,Z',h1,CJ h2 h3,f2,λS H2 ws n1 kp eS hl hw hn=>?_⟩;have ex:rc X.K H1 H2:=⟨λb xs z=>by
    rcases z with(z|⟨u,z⟩)|z
    .exact .inl (.inl (kp _ _ z))
    .exact .inl (.inr ⟨u,kp _ _ z⟩)
    .exact .inr z,λb u xs z=>kp _ _ z⟩
   have hl2:(tP ps).length=ws.length:=by rw[EE f2,hl]
   have hasW:∀(l:T0 (Str×Int)) (us:QXQ),l.length=us.length->(∀(j:Nat) (a:Uf) (p:Str×Int),us[j]?=ga a->l[j]?=ga p->H2 a=ga (.tup [.str p.1,.int p.2]))->qA X.K H2 (l.map zV) (us.map V.ref):=λl=>by
    induction l with
    | nil=>intro us e _;cases us with
     | nil=>exact .nil
     | cons _ _=>cases e
    | cons c r ih=>intro us e hu;cases us with
     | nil=>cases e
     | cons b us=>exact .cons (.tup (.of (hu 0 b c Z' Z')) (.cons .str (.cons .int .nil))) (ih us (by simpa using e) λj a p e1 e2=>hu (j+1) a p e1 e2)
   refine k _ _ _ _ .ref (λb c z=>?_) (e1.trans ex) (q S (YN.fresh n1));by_cases eb:b=S
   .subst eb;rw[pZ]at z;cases z;exact⟨_,eS,hasW _ _ hl2 hw⟩
   .rw[uG eb]at z;have ok:=YN b c z;obtain⟨u,eu,_⟩:=ok.there;exact ok.keep ex (by rw[eu,kp _ _ eu])
  | _=>exact q1.elim⟩
variable {X:Cx}{pos:Pos}{a b o i:zn}{ta tb ti to:T3}
def Wb(to ti:T3):Ey:=λd U M Q=>to U M λx M1=>ti U M1 λy M2=>match x,y with
 | .ref p,.int k=>(oP M2 p).elim False λes=>(HV es.length k).elim False λj=>Q U (pQ M2 p (.lst (es.set j d)))
 | _,_=>False
theorem qA.set{K:qE}(hv:sr K H d v):∀{ds:T0 D} {xs:T0 V} (j:Nat),qA K H ds xs->qA K H (ds.set j d) (xs.set j v)
 | [],_,j,h=>by rw[h.nil_inv];simp only[List.set_nil];exact .nil
 | e::ds,_,0,h=>by obtain⟨x,r,rfl,h1,h2⟩:=h.inv;exact .cons hv h2
 | e::ds,_,j+1,h=>by obtain⟨x,r,rfl,h1,h2⟩:=h.inv;exact .cons h1 (qA.set hv j h2)
def Tb(ho:E3 X o to)(hi:E3 X i ti) (ha:∀v,assign (.Subscript o i pos) X.env v=(do
   let ov<-ZB [v] (wp o X.env);let iv<-ZB [v,ov] (wp i X.env)
   XXc pos
   ZB [v,ov,iv] (setItem ov iv v)
   release [v,ov,iv] []):=by intro _;rfl):G3 X (.Subscript o i pos) (Wb to ti):=
 PG.mono (UE ho hi O1 ha) λv Y H Q' ⟨d,U,M,Q,hd,hs,hm,ht,k⟩=>
 ⟨U,M,_,hs,hm,ht,λvx H1 x M1 hx YN e1 q1=>⟨U,M1,_,hs.mono e1,YN,q1,λvy H2 y M2 hy Y9 e2 q2=>by
  cases x with
  | ref p=>
   cases y with
   | int j0=>obtain⟨es,f1,q2⟩:=rE q2;obtain⟨j,f2,q2⟩:=rE q2;cases(hx.mono e2).mI;cases hy.int_inv;obtain⟨xs,h1,h2⟩:=FK Y9 f1;refine⟨p,xs,j0,j,Z',Z',h1,by rw[<-h2.length];exact f2,?_⟩;have hd2:=hd.mono (e1.trans e2);obtain⟨ZM,e3⟩:=Y9.put (o:=.lst (xs.set j v)) (c:=.lst (es.set j d)) (qg f1) λex=>⟨_,qz,(h2.mono ex).set (hd2.mono ex) j⟩;exact k Y _ U _ (hs.mono (e1.trans (e2.trans e3))) ZM (e1.trans (e2.trans e3)) Z' q2
   | _=>exact q2.elim
  | _=>exact q2.elim⟩⟩
end L3
namespace L2
variable {prog:Pg}{w:Wo}{A:Ar}{E:QQX}{s:Sd}{X:Cx}
end L2
namespace L3
open L2
variable {X:Cx}{pos YO p:Pos}{a b o e i value:zn}{es:T0 zn}{ta tb ti to tv td tk:T3}{t:xt}
def Ub(x y:D)(M:Mp)(Q:DK):Prop:=match x,y with
 | .ref a,.int k=>(oP M a).elim False λes=>(0<=k/\k<=1000/\es.length<=1000)/\∀p,M p=Fa->Q (.ref p) (pQ M p (.lst (List.replicate k.toNat es).flatten))
 | _,_=>False
theorem Kk{K:qE}(h:qA K H ds xs):∀n:Nat,qA K H (List.replicate n ds).flatten (List.replicate n xs).flatten
 | 0=>.nil
 | n+1=>by rw[eI,eI,fS,fS];exact h.append (Kk h n)
def UI:xX X (wS .Mult) (R3 X.K Ub):=λYL s Y H vx vy v u Q' I rx ry h=>by
 obtain⟨x,y,M,Q,hx,hy,hm,q,k⟩:=h;unfold Ub at q;split at q
 .obtain⟨es,e1,⟨q1,q2,q3⟩,q⟩:=rE q;cases hx.mI;cases hy.int_inv;obtain⟨xs,h1,h2⟩:=FK hm e1;have hz:=dM;have hl:=h2.length;refine Uk YL s Y H _ _ v u Q' I rx ry ⟨_,_,xs,Z',Z',h1,by lia,by lia,?_,λpp hp=>?_⟩
  .exact dZ (kh (show xs.length<=1000 by lia) (show Int.toNat _<=1000 by lia)) (by rw[hz];decide)
  .exact k _ _ _ _ .ref (hm.new (c:=.lst _) hp ⟨_,qz,(Kk h2 _).mono (.new hp)⟩) (.new hp) (q pp (hm.fresh hp))
 .exact q.elim
def Vv(ta tb:T3):T3:=λU M Q=>ta U M λx M1=>tb U M1 λy M2=>Ub x y M2 Q
def CU(ha:E3 X a ta)(hb:E3 X b tb):E3 X (.BinOp a .Mult b pos) (Vv ta tb):=PE.mono (Sf UI ha hb) IX
noncomputable def DA(kvs:T0 (rD×D))(k:rD)(v:D):T0 (rD×D):=if (kvs.any λkv=>decide (kv.1=k))=Db then kvs.map (λkv=>if kv.1=k then(kv.1,v)else kv)else kvs++[(k,v)]
theorem Hb{κ α β:Type}{k:κ}[DecidableEq κ]:∀{xs:T0 (κ×α)} {ys:T0 (κ×β)},xs.map (·.1)=ys.map (·.1)->(xs.any λkv=>decide (kv.1=k))=ys.any λkv=>decide (kv.1=k)
 | [],[],_=>rfl
 | [],_::_,e=>by cases e
 | _::_,[],e=>by cases e
 | x::xs,y::ys,e=>by obtain⟨e1,e2⟩:=fC e;rw[gf,gf,Hb e2];have e1:x.1=y.1:=e1;rw[e1]
def L5{K:qE}{k:rD}(hv:sr K H d v){kvs:T0 (rD×D)}{vs:T0 (rD×V)}(h1:vs.map (·.1)=kvs.map (·.1))(h2:qA K H (kvs.map (·.2)) (vs.map (·.2))):
  (zv vs k v).map (·.1)=(DA kvs k d).map (·.1)/\qA K H ((DA kvs k d).map (·.2)) ((zv vs k v).map (·.2)):=by
 have go:∀{kvs:T0 (rD×D)} {vs:T0 (rD×V)},vs.map (·.1)=kvs.map (·.1)->qA K H (kvs.map (·.2)) (vs.map (·.2))->
   (vs.map (λkv=>if kv.1=k then(kv.1,v)else kv)).map (·.1)=(kvs.map (λkv=>if kv.1=k then(kv.1,d)else kv)).map (·.1)/\qA K H ((kvs.map (λkv=>if kv.1=k then(kv.1,d)else kv)).map (·.2)) ((vs.map (λkv=>if kv.1=k then(kv.1,v)else kv)).map (·.2)):=λ{kvs}=>by
  induction kvs with
  | nil=>intro vs e h;cases vs with
   | nil=>exact⟨Z',.nil⟩
   | cons _ _=>cases e
  | cons c r ih=>intro vs e h;cases vs with
   | nil=>cases e
   | cons w ws=>
    obtain⟨e1,e2⟩:=fC e;obtain⟨x,xr,e3,g1,g2⟩:=h.inv;obtain⟨e4,e5⟩:=fC e3;subst e4 e5;obtain⟨i1,i2⟩:=ih e2 g2;have e1:w.1=c.1:=e1;by_cases hk:c.1=k
    .have w1:(if w.1=k then(w.1,v)else w)=(w.1,v):=de (e1.trans hk);have w2:(if c.1=k then(c.1,d)else c)=(c.1,d):=de hk;simp only[dY,w1,w2];exact⟨by rw[i1,e1],.cons hv i2⟩
    .have w1:(if w.1=k then(w.1,v)else w)=w:=cY λz=>hk (e1.symm.trans z);have w2:(if c.1=k then(c.1,d)else c)=c:=cY hk;simp only[dY,w1,w2];exact⟨by rw[i1,e1],.cons g1 i2⟩
 unfold zv DA;rw[Hb (k:=k) h1];by_cases hk:(kvs.any λkv=>decide (kv.1=k))=Db
 .rw[de hk,de hk];exact go h1 h2
 .rw[cY hk,cY hk];exact⟨by rw[dF,dF,h1];rfl,by rw[dF,dF];exact h2.append (.cons hv .nil)⟩
def WM(td tk tv:T3):xU:=λD U M=>tv U M λv M1=>td U M1 λx M2=>tk U M2 λy M3=>match x,y with
 | .ref a,.str k=>(zY M3 a).elim False λkvs=>kvs.length<Ch/\D.nx U (pQ M3 a (.dk (DA kvs (.inr k) v)))
 | _,_=>False
def yM{a:Uf}{kvs:T0 (rD×D)}(h:zY M a=ga kvs):M a=ga (.dk kvs):=by
 unfold zY at h;split at h
 .rename_i e;rw[e];cases h;rfl
 .cases h
def PV(hu:X.A.units+9<XXa)(ho:E3 X o td)(hi:E3 X i tk)(hv:E3 X value tv)(hs:sK value (ga (.Subscript o i YW)) pos.line X.env=pure pc:=by rfl):S3 X (.Assign [.Subscript o i YW] value pos) (WM td tk tv):=
 PS.mono (RU (by lia) ho hi hv hs) λD' Y H zz=>L' zz λU M D hs hm ht k1 k2 k3 k4=>
 ⟨U,M,_,hs,hm,ht,λv H1 d M1 hd YN e1 q1=>⟨U,M1,_,hs.mono e1,YN,q1,λvx H2 x M2 hx Y9 e2 q2=>⟨U,M2,_,hs.mono (e1.trans e2),Y9,q2,λvy H3 y M3 hy ZM e3 q3=>by
  split at q3
  .rename_i a0 k0;obtain⟨kvs,f1,f2,q3⟩:=rE q3;cases(hx.mono e3).mI;cases hy.str_inv;obtain⟨vs,h1,h2,h3⟩:=Ak ZM f1;have hl:vs.length=kvs.length:=by have:=eE List.length h2;simpa using this
   refine⟨_,_,Z',OZ.k (k:=Sum.inr k0) h1 (by lia),?_⟩;have hd3:=hd.mono (e2.trans e3);obtain⟨hm4,e4⟩:=ZM.put (o:=.dK (zv vs (Sum.inr k0) v)) (c:=.dk (DA kvs (.inr k0) d)) (yM f1) λex=>by obtain⟨g1,g2⟩:=L5 (k:=Sum.inr k0) (hd3.mono ex) h2 (h3.mono ex);exact⟨_,qz,g1,g2⟩
   exact k1 Y _ U _ (hs.mono (e1.trans (e2.trans (e3.trans e4)))) hm4 (e1.trans (e2.trans (e3.trans e4))) Z' q3
  .exact q3.elim⟩⟩⟩
variable {YL:T0 (Uf × Obj)}{Y:St}{H:Hp}{s:Sd}
def S6{a b:Uf}(I:Inv X YL Y H s)(f:zT X YL H b)(q:xV X.K H a xs):a≠b:=by
 rintro rfl
 rcases q with q|⟨o,its,n,hk,_⟩
 .have z:=f.1;rcases q with q|⟨u,q⟩<;>(rw[q]at z;cases z)
 .have e:=I.mod.oz a o hk;rcases f.2.2.2.1 with z|z
  .exact I.ok.nQ a o e z
  .exact absurd (dP (dB e) (dZ I.ok.n9 z)) (eV _)
def YJ:ZK xV Heap.IsListIter Heap.IsList where
 gt:=λI h=>(I.list h).imp λ_ z=>⟨z.1,z.2.1.isList⟩
 ij:=λI h g=>I.nM h g
 ne:=S6
 dr:=Draws.list
 ob:=λ⟨o,h,_,d⟩=>⟨o,h,λv z=>by rw[d]at z;cases z⟩
 kp:=λ⟨o,h,c⟩ k=>⟨o,k o h,c⟩
variable {tp:Pos}{Zf:T0 zn}{n:Nat}
def Qy{a b:zn}{ta:TA}(hg:Gl X "zip")(hm:X.mg "zip"=Fa)(ha:PA X [a,b] ta)(hs:Tl [a,b] X.env=[(pc,wp a X.env),(pc,wp b X.env)]:=by rfl)(Zt:Tl [b] X.env=[(pc,wp b X.env)]:=by rfl):
  PI X (.Tuple Zf n tp) (.Call (.Name "zip" p) [a,b] [] pos) (λY H R=>ta Y H λvs H1=>∃l m,vs=[.ref l,.ref m]/\(∃xs,xV X.K H1 l xs)/\(∃xs,xV X.K H1 m xs)/\R (Vf xV X.K l m) H1):=by
 intro YL s Y H R I h;refine Call_ (wM I hg hm NA (fz (tj (ha pos YL s Y H _ I h) λus s1 zz=>x5 zz λvs H1 I1 r1 q1=>?_) (by rw[hs,Zt]) (by rw[Zt];rfl)));obtain⟨l,m,e,⟨xs,hx⟩,⟨ys,hy⟩,q⟩:=q1;subst e;obtain⟨u,v,rfl,ru,rv⟩:=On r1;cases ru;cases rv;obtain⟨its,_,px,_⟩:=I1.list hx;obtain⟨jts,_,py,_⟩:=I1.list hy;exact call_zip_2 px.isList py.isList λg h1 h2 h3 h4 h5 _ hk=>HQ YJ I1 h1 h2 h3 h4 h5 hk q
def O7{K:qE}{a b:Uf}{ds es:T0 D}:F7 K H1 (Vf xV K a b) (wU ds es) (λM=>oP M a=ga ds/\oP M b=ga es) where
 go:=λi H M hi hm ok _=>by rw[vM]at hi;obtain⟨xs,h1,h2,_⟩:=qp hm ok.1;obtain⟨ys,g1,g2,_⟩:=qp hm ok.2;obtain⟨x,e1,_⟩:=h2.get (cV (show i<ds.length by lia));obtain⟨y,e2,_⟩:=g2.get (cV (show i<es.length by lia));exact⟨xs,ys,x,y,h1,g1,e1,e2⟩
 oY:=λi d H M x H' hd hm ok _ y=>by
  obtain⟨xs,h1,h2,_⟩:=qp hm ok.1;obtain⟨ys,g1,g2,_⟩:=qp hm ok.2;obtain⟨p,u,v,rfl,hp,rfl,y1,y2⟩:=y;rw[L3.Fe]at hd;cases e:ds[i]? with
  | none=>rw[e]at hd;cases hd
  | some d'=>
   cases e':es[i]? with
   | none=>rw[e,e']at hd;cases hd
   | some c'=>rw[e,e']at hd;cases hd;obtain⟨x',q1,hx⟩:=h2.get e;obtain⟨z',q2,hz⟩:=g2.get e';have w1:=y1 xs h1;have w2:=y2 ys g1;rw[q1]at w1;rw[q2]at w2;have v1:x'=u:=df w1;have v2:z'=v:=df w2;subst v1 v2;have ex:rc K H (upd H p (.tup [x',z'])):=.new hp;exact⟨.tup (.of qz) (.cons (hx.mono ex) (.cons (hz.mono ex) .nil)),hm.add hp,ex⟩
 stop:=λH M hm ok _=>by obtain⟨xs,h1,h2,_⟩:=qp hm ok.1;obtain⟨ys,g1,g2,_⟩:=qp hm ok.2;exact⟨xs,ys,h1,g1,by rw[vM,h2.length,g2.length]⟩
def Uc(t:xt):MY:=λU M R=>t U M λds M1=>match ds with
 | [.ref a,.ref b]=>(oP M1 a).elim False λxs=>(oP M1 b).elim False λys=>R (wU xs ys) (λM=>oP M a=ga xs/\oP M b=ga ys) M1
 | _=>False
def P5{a b:zn}{ta:xt}(hg:Gl X "zip")(hm:X.mg "zip"=Fa)(ha:A3 X [a,b] ta)(hs:Tl [a,b] X.env=[(pc,wp a X.env),(pc,wp b X.env)]:=by rfl)(Zt:Tl [b] X.env=[(pc,wp b X.env)]:=by rfl):
  I3 X (.Tuple Zf n tp) (.Call (.Name "zip" p) [a,b] [] pos) (Uc ta):=
 PI.mono (Qy hg hm ha hs Zt) λY H R' zz=>x7 zz λU M R hs hm ht k=>⟨U,M,_,hs,hm,ht,λvs H1 ds M1 hd YN e1 q1=>by
  split at q1
  .obtain⟨xs,f1,q1⟩:=rE q1;obtain⟨ys,f2,q1⟩:=rE q1;obtain⟨v,u,rfl,hv,hw⟩:=B4 hd;cases hv.mI;cases hw.mI;obtain⟨us,h1,_⟩:=qp YN f1;obtain⟨ws,g1,_⟩:=qp YN f2;exact⟨_,_,Z',⟨us,h1⟩,⟨ws,g1⟩,k _ H1 _ _ M1 O7 YN e1 ⟨f1,f2⟩ q1⟩
  .exact q1.elim⟩
end L3
namespace L2
open Builtin Builtin.Str
variable {prog:Pg}{w:Wo}{A:Ar}{E:QQX}{s:Sd}{X:Cx}
end L2
namespace L3
open L2 Builtin Builtin.Str
variable {X:Cx}{pos YO:Pos}{o e:zn}{es:T0 zn}{ta:T3}{t:xt}
@[irreducible] def SsI (X:Cx) (st:T0 TD) (t:xU):Prop:=Ig X st t
@[irreducible] def SI (X:Cx) (st:TD) (t:xU):Prop:=S3 X st t
@[irreducible] def EI (X:Cx) (e:zn) (t:T3):Prop:=E3 X e t
@[irreducible] def AI (X:Cx) (es:T0 zn) (t:xt):Prop:=A3 X es t
variable {prog:Pg}{w:Wo}{A:Ar}{E:QQX}{s:Sd}{YL:T0 (Uf × Obj)}{Y:St}{H:Hp}{p tp:Pos}{Zf:T0 zn}{n:Nat}
theorem vN{g:Ey}{tt:Bf}{te:T3}{ok:Mp->Prop}{Q:DK}(all:T0 D)(J:T0 D->T0 D->vV->Mp->Prop)(mR:∀p acc U M,J p acc U M->ok M):∀(ds pre acc:T0 D) (U:vV) (M:Mp),pre++ds=all->acc.length+ds.length<=Ch->J pre acc U M->
  (∀pre d post,pre++d::post=all->∀acc U M,J pre acc U M->∀(k:vV->DK) (k2:vV->Mp->Prop),(∀δ2 y M4,J (pre++[d]) (acc++[y]) δ2 M4->k δ2 y M4)->(∀δ2 M3,J (pre++[d]) acc δ2 M3->k2 δ2 M3)->g d U M λδ2 M2=>tt δ2 M2 λb M3=>if b=Db then te δ2 M3 (k δ2)else k2 δ2 M3)->
  (∀acc U M,J all acc U M->∀p,M p=Fa->Q (.ref p) (pQ M p (.lst acc)))->ve g tt te ok Q ds acc U M
 | [],pre,acc,U,M,e,hl,j,_,hq=>⟨by simpa using hl,hq acc U M (by rw[<-e,eG];exact j)⟩
 | d::r,pre,acc,U,M,e,hl,j,ht,hq=>by rw[d4]at hl;refine⟨by lia,?_⟩;refine ht pre d r e acc U M j (λδ2 y M4=>ok M4/\ve g tt te ok Q r (acc++[y]) δ2 M4) (λδ2 M3=>ok M3/\ve g tt te ok Q r acc δ2 M3) (λδ2 y M4 j'=>⟨mR _ _ _ _ j',vN all J mR r (pre++[d]) (acc++[y]) δ2 M4 (by rw[<-e,fh];rfl) ?_ j' ht hq⟩) λδ2 M3 j'=>⟨mR _ _ _ _ j',vN all J mR r (pre++[d]) acc δ2 M3 (by rw[<-e,fh];rfl) (by lia) j' ht hq⟩;rw[cW,dD];lia
end L3
namespace L2
noncomputable def Cx.nZ(X:Cx)(E:QQX):Cx:={X with xe:=E}
def Inv.nZ{E:QQX}{YL:QQY}(I:Inv X YL Y H s):Inv (X.nZ E) YL Y H s:=
 ⟨⟨I.ok.mod,I.ok.kind,I.ok.glob,I.ok.blt,I.ok.above,I.ok.inj,I.ok.has,I.ok.oE,I.ok.hd,I.ok.frames,I.ok.oV,I.ok.pA,I.ok.bs,I.ok.n9,I.ok.nQ,I.ok.nY,I.ok.ny,I.ok.oB⟩,I.os,I.bare,I.base,I.loc,I.cell,I.free,I.mY,I.pin,I.mR,I.len⟩
def Inv.xeOf{X:Cx}{E:QQX}{YL:QQY}(I:Inv (X.nZ E) YL Y H s):Inv X YL Y H s:=
 ⟨⟨I.ok.mod,I.ok.kind,I.ok.glob,I.ok.blt,I.ok.above,I.ok.inj,I.ok.has,I.ok.oE,I.ok.hd,I.ok.frames,I.ok.oV,I.ok.pA,I.ok.bs,I.ok.n9,I.ok.nQ,I.ok.nY,I.ok.ny,I.ok.oB⟩,I.os,I.bare,I.base,I.loc,I.cell,I.free,I.mY,I.pin,I.mR,I.len⟩
end L2
namespace L3
open L2
end L3
namespace L2
end L2
namespace L3
open L2
variable {X:Cx}{pos p tp kpos:Pos}{Zf:T0 zn}{n:Nat}
end L3
namespace L2
variable {prog:Pg}{w:Wo}{A:Ar}{E:QQX}{s:Sd}{a:Uf}{U:Type}{k:Str}{tk:Tok}
section
variable {R:U→Vl→Prop}{D:T0 (Str × U)}
end
end L2
namespace L3
open L2
variable {X:Cx}{pos p:Pos}{x:Str}{d:D}{e o i:zn}{ta tb td tk:T3}{F:T0 (Str × QQQ)}
end L3
namespace L2
def OO(h:Go)(e:Uf)(cls:Vl)(dx tb:Option Uf)(F:Vl):Prop:=
 ∃oe vs,h.get? e=ga oe/\oe.cls=cls/\oe.dict=dx/\oe.data=.fields vs/\1<vs.size/\vs[1]?=ga (tb.elim Value.none Value.ref)/\∀T,tb=ga T->T≠e/\∃oT ts,h.get? T=ga oT/\oT.data=.fields ts/\3<ts.size/\ts[3]?=ga F
def QC(h:Go)(e:Uf)(cls:Vl)(dx tb:Option Uf):Prop:=OO h e cls dx tb Value.none
theorem Dm{h base:Go}:∀{l:T0 Env} {b:Uf},h.FunFrames base l->b∈xb l->∃o,h.get? b=ga o/\∀vs,o.data≠.fields vs
 | [],b,_,hb=>by cases hb
 | env::r,b,hF,hb=>by
  obtain⟨_,⟨L,o,hL,_,ho,hd⟩,hr⟩:=hF;have e:xb (env::r)=L::xb r:=by unfold xb;rw[fZ,hL]
  rw[e]at hb;rcases dg.mp hb with z|z
  .rw[z];exact⟨o,ho,hd⟩
  .exact Dm hr z
def Ej{h base:Go}{l:T0 Env}{b:Uf}{o:Obj}{vs:Array Vl}(hF:h.FunFrames base l)(ho:h.get? b=ga o)(hd:o.data=.fields vs):b∉xb l:=λhb=>by obtain⟨o',Zs,hn⟩:=Dm hF hb;rw[ho]at Zs;cases Zs;exact hn vs hd
variable {M:Model}{A:Ar}{s:Sd}{base:Go}{env:Env}{outer:T0 Env}{L e:Uf}{cls:Vl}{dx:Option Uf}{Q:Unit→Sd→Prop}
section
variable {E:QQX}
def PH{Z9:Vl}{had:Bool}{oe:Obj}{vs:Array Vl}{Zu:Env}(hcf:Zu.frame=ga L)(hfr:A.frames=ga (env::outer))(hF:s.heap.FunFrames base (env::outer))(hL:env.frame=ga L)(ho:s.heap.get? e=ga oe)(hd:oe.data=.fields vs)(h1:1<vs.size) (k:∀(h':Go) (T:Uf),s.heap.get? T=Fa->(∀b o,s.heap.get? b=ga o->b∉xb (env::outer)->b≠e->h'.get? b=ga o)->(∀b o,s.heap.get? b=ga o->b∈xb (env::outer)->∃sl,h'.get? b=ga {o with slots:=sl})->
   (∃oe',h'.get? e=ga oe'/\oe'.cls=oe.cls/\oe'.dict=oe.dict/\oe'.data=.fields (vs.setIfInBounds 1 (.ref T)))->(∃oT ts,h'.get? T=ga oT/\oT.data=.fields ts/\3<ts.size/\ts[3]?=ga (Y' ↑L))->Q () {s with heap:=h'}):
  pi M A (do
   let a<-PySem.frameOf Zu;let pl<-entryPlaceOf L had;let b<-EntryCells.newEntry Z9 a Value.none (Y' ↑L) Value.none pl
   setField (Value.ref e) 1 b) Q E s:=by
 have ne:=Ej hF ho hd;unfold PySem.frameOf;refine cU (cU (wpAny_frameEnvs hfr (cU ?_)));have ed:List.dropWhile (λx=>x.frame != Zu.frame) (env::outer)=env::outer:=by rw[List.dropWhile_cons,cY (by rw[hL,hcf];simp)]
 rw[ed];unfold frameObject;refine cU (wpAny_readyFrames_fun hF λZv hs=>?_);obtain⟨z1,z2,z3⟩:=hs;rw[hL];refine dh (dh ?_);refine cU (wpAny_entryPlaceOf λpl hp=>?_);refine cU ?_;unfold EntryCells.newEntry newFields;have YS:([Z9,Value.ref L,Value.none,Y' ↑L,Value.none]++if pl.isEmpty=Db then List.replicate 6 Value.none else pl).length=11:=by rw[cW];rcases hp with rfl|⟨_,_,_,_,_,_,_,rfl⟩<;>rfl
 have hfl:([Z9,Value.ref L,Value.none,Y' ↑L,Value.none]++if pl.isEmpty=Db then List.replicate 6 Value.none else pl)[3]?=ga (Y' ↑L):=rfl;generalize ([Z9,Value.ref L,Value.none,Y' ↑L,Value.none]++if pl.isEmpty=Db then List.replicate 6 Value.none else pl)=fs at YS hfl ⊢;refine fW ?_ (by
  show fs.toArray.size<=_;rw[dw,YS];decide)
 have e1:Zv.get? e=ga oe:=by rw[z2 e ne];exact ho
 have e2:(Zv.push {cls:=.type "traceback",data:=.fields fs.toArray}).get? e=ga oe:=c9 _ e1;refine ic e2 hd h1 ?_;have tn:s.heap.get? Zv.objs.size=Fa:=gJ (by rw[z1];exact dq _);have te:Zv.objs.size≠e:=λz=>by rw[z,ho]at tn;cases tn
 obtain⟨oc,od,odt,ZL⟩:=oe;obtain rfl:odt=.fields vs:=hd;have up:∀b,e≠b->((Zv.push {cls:=.type "traceback",data:=.fields fs.toArray}).update e (Obj.mapFields λx=>x.setIfInBounds 1 (.ref Zv.objs.size))).get? b=(Zv.push {cls:=.type "traceback",data:=.fields fs.toArray}).get? b:=λb z=>gc _ _ z;refine k _ Zv.objs.size tn (λb o hb nf ne'=>?_) (λb o hb hf=>?_) ⟨_,fJ _ e2 Z',Z',Z',Z'⟩ ⟨_,fs.toArray,(up _ (dW te)).trans (dJ _ Z'),Z',by rw[dw,YS];decide,by rw[iQ];exact hfl⟩
 .rw[up b (dW ne')];exact c9 _ (by rw[z2 b nf];exact hb)
 .obtain⟨sl,q⟩:=z3 b o hb;refine⟨sl,?_⟩;rw[up b (λz=>ne (z ▸ hf))];exact c9 _ q
def UL{E₁:QQX}{tb:Option Uf}{F:Vl}{Zu:Env}(hcf:Zu.frame=ga L)(hfr:A.frames=ga (env::outer))(hF:s.heap.FunFrames base (env::outer))(hL:env.frame=ga L)(hx:OO s.heap e cls dx tb F)(hFL:(F==Y' ↑L)=pc) (k:∀(h':Go) (T:Uf),s.heap.get? T=Fa->(∀b o,s.heap.get? b=ga o->b∉xb (env::outer)->b≠e->tb≠ga b->h'.get? b=ga o)->(∀b o,s.heap.get? b=ga o->b∈xb (env::outer)->∃sl,h'.get? b=ga {o with slots:=sl})->
   (∀b,h'.get? b=Fa->s.heap.get? b=Fa)->OO h' e cls dx (ga T) (Y' ↑L)->Q () {s with heap:=h'}):pi M A (noteFrame (.ref e) Zu) Q E₁ s:=by
 obtain⟨oe,vs,ho,hc,hdx,hd,h1,hv,hT⟩:=hx;have ne:=Ej hF ho hd;unfold noteFrame;rw[hcf];refine cU (fj ho hd hv ?_);have YR:∀(s1:Sd) (oe1:Obj),s1.gens=s.gens->s1.drawn=s.drawn->s1.toks=s.toks->s1.os=s.os->s1.heap.FunFrames base (env::outer)->s1.heap.get? e=ga oe1->oe1.cls=cls->oe1.dict=dx->oe1.data=.fields vs->(∀b o,s.heap.get? b=ga o->b∉xb (env::outer)->b≠e->tb≠ga b->s1.heap.get? b=ga o)->
   (∀b o,s.heap.get? b=ga o->b∈xb (env::outer)->s1.heap.get? b=ga o)->(∀b,s1.heap.get? b=Fa↔s.heap.get? b=Fa)->∀(Z9:Vl) (had:Bool),pi M A (do
   let a<-PySem.frameOf Zu;let pl<-entryPlaceOf L had;let b<-EntryCells.newEntry Z9 a Value.none (Y' ↑L) Value.none pl
   setField (Value.ref e) 1 b) Q E₁ s1:=by
  intro s1 oe1 g1 g2 g3 g4 hF1 ho1 hc1 hdx1 hd1 kb kf kn Z9 had;refine PH hcf hfr hF1 hL ho1 hd1 h1 λh' T tn k1 k2 ⟨oe',he',hce,hdxe,hde⟩ ⟨oT,ts,ZZ,hdT,h3,h3v⟩=>?_;have te:T≠e:=λz=>by rw[z,ho1]at tn;cases tn
  have:=k h' T ((kn T).mp tn) (λb o hb nf nb nt=>k1 b o (kb b o hb nf nb nt) nf nb) (λb o hb hf=>k2 b o (kf b o hb hf) hf) (λb hb=>?_) ⟨oe',vs.setIfInBounds 1 (.ref T),he',hce.trans hc1,hdxe.trans hdx1,hde,by rw[jO];exact h1,by rw[il h1];rfl,λT' eT=>?_⟩
  .show Q () {heap:=_,gens:=s1.gens,drawn:=s1.drawn,toks:=s1.toks,os:=s1.os};rw[g1,g2,g3,g4];exact this
  .refine(kn b).mp ?_;cases q:s1.heap.get? b with
   | none=>rfl
   | some o=>
    by_cases z:b=e
    .rw[z,he']at hb;cases hb
    .by_cases zf:b∈xb (env::outer)
     .obtain⟨sl,q2⟩:=k2 b o q zf;rw[q2]at hb;cases hb
     .rw[k1 b o q zf z]at hb;cases hb
  .cases eT;exact⟨te,oT,ts,ZZ,hdT,h3,h3v⟩
 cases tb with
 | none=>rw[cY (show ¬((Fa:Option Uf).elim Value.none Value.ref != Value.none)=Db by decide+kernel)];exact YR s oe Z' Z' Z' Z' hF ho hc hdx hd (λb o hb _ _ _=>hb) (λb o hb _=>hb) (λb=>.rfl) _ _
 | some T=>
  obtain⟨nTe,oT,ts,ZZ,hdT,h3,hn⟩:=hT T Z';rw[de (show((ga T:Option Uf).elim Value.none Value.ref != Value.none)=Db by rfl)];refine cU (fj ZZ hdT hn ?_);rw[cY (by rw[hFL];exact dA)];refine cU (ic ZZ hdT h3 ?_);have up:∀b,T≠b->(s.heap.update T (Obj.mapFields λx=>x.setIfInBounds 3 .none)).get? b=s.heap.get? b:=λb z=>gc _ _ z;have nf:∀b o,s.heap.get? b=ga o->(∀vs,o.data≠.fields vs)->T≠b:=λb o hb hn z=>by rw[<-z,ZZ]at hb;cases hb;exact hn ts hdT
  have sz:∀b,(s.heap.update T (Obj.mapFields λx=>x.setIfInBounds 3 .none)).get? b=Fa↔s.heap.get? b=Fa:=λb=>by
   by_cases z:T=b
   .rw[<-z];obtain⟨oc,od,odt,ZL⟩:=oT;obtain rfl:odt=.fields ts:=hdT;rw[fJ _ ZZ Z',ZZ];exact⟨(λq=>by cases q),(λq=>by cases q)⟩
   .rw[up b z]
  exact YR {s with heap:=s.heap.update T (Obj.mapFields λx=>x.setIfInBounds 3 .none)} oe Z' Z' Z' Z' (mC (λb o hb hn=>⟨o,(up b (nf b o hb hn)).trans hb,Z'⟩) hF) ((up e nTe).trans ho) hc hdx hd
   (λb o hb _ _ nt=>(up b λz=>nt (by rw[z])).trans hb) (λb o hb hf=>by
    obtain⟨o',Zs,hn⟩:=Dm hF hf;rw[hb]at Zs;cases Zs;exact(up b (nf b o hb hn)).trans hb) sz _ _
def NT{T:Uf}{F:Vl}(x:Option Uf)(hx:OO s.heap e cls dx (ga T) F)(k:∀h':Go,(∀b,T≠b->h'.get? b=s.heap.get? b)->(∀b,h'.get? b=Fa↔s.heap.get? b=Fa)->OO h' e cls dx (ga T) (x.elim .none λf=>Y' f)->Q () {s with heap:=h'}):pi M A (setFlight (.ref e) x) Q E s:=by
 obtain⟨oe,vs,ho,hc,hdx,hd,h1,hv,hT⟩:=hx;obtain⟨nTe,oT,ts,ZZ,hdT,h3,hn⟩:=hT T Z';unfold setFlight;refine cU (fj ho hd hv ?_);rw[de (by rfl)];refine ic ZZ hdT h3 ?_;obtain⟨oc,od,odt,ZL⟩:=oT;obtain rfl:odt=.fields ts:=hdT;have up:∀b,T≠b->(s.heap.update T (Obj.mapFields λy=>y.setIfInBounds 3 (x.elim .none λf=>Y' f))).get? b=s.heap.get? b:=λb z=>gc _ _ z;refine k _ up (λb=>?_) ⟨oe,vs,(up e nTe).trans ho,hc,hdx,hd,h1,hv,λT' eT=>?_⟩
 .by_cases z:T=b
  .rw[<-z,fJ _ ZZ Z',ZZ];exact⟨(λq=>by cases q),(λq=>by cases q)⟩
  .rw[up b z]
 .cases eT;exact⟨nTe,_,ts.setIfInBounds 3 (x.elim .none λf=>Y' f),fJ _ ZZ Z',Z',by rw[jO];exact h3,by rw[il h3]⟩
def KC{E₁ E₂:QQX}{tb:Option Uf}(hfr:A.frames=ga (env::outer))(hF:s.heap.FunFrames base (env::outer))(hL:env.frame=ga L)(hx:QC s.heap e cls dx tb) (k:∀(h':Go) (T:Uf),s.heap.get? T=Fa->(∀b o,s.heap.get? b=ga o->b∉xb (env::outer)->b≠e->tb≠ga b->h'.get? b=ga o)->(∀b o,s.heap.get? b=ga o->b∈xb (env::outer)->∃sl,h'.get? b=ga {o with slots:=sl})->
   QC h' e cls dx (ga T)->Q () {s with heap:=h'}):pi M A (noteFrame (.ref e) env) (λ_ s₂=>pi M A (setFlight (.ref e) Fa) Q E₂ s₂) E₁ s:=by
 refine UL hL hfr hF hL hx (dI.mpr λz=>by have:=eP.mp z;cases this) λh' T tn k1 k2 _ x'=>?_;refine NT Fa x' λh2 up _ x2=>k h2 T tn (λb o hb nf nb nt=>?_) (λb o hb hf=>?_) x2
 .have tb:T≠b:=λz=>by rw[z,hb]at tn;cases tn
  exact(up b tb).trans (k1 b o hb nf nb nt)
 .have tb:T≠b:=λz=>by rw[z,hb]at tn;cases tn
  obtain⟨sl,q⟩:=k2 b o hb hf;exact⟨sl,(up b tb).trans q⟩
def QH{tb:Option Uf}(hfr:A.frames=ga (env::outer))(hF:s.heap.FunFrames base (env::outer))(hL:env.frame=ga L)(hx:QC s.heap e cls dx tb) (k:∀(h':Go) (T:Uf),s.heap.get? T=Fa->(∀b o,s.heap.get? b=ga o->b∉xb (env::outer)->b≠e->tb≠ga b->h'.get? b=ga o)->(∀b o,s.heap.get? b=ga o->b∈xb (env::outer)->∃sl,h'.get? b=ga {o with slots:=sl})->
   QC h' e cls dx (ga T)->Q () {s with heap:=h'}):pi M A (leaving env (.ref e)) Q E s:=cU (KC hfr hF hL hx k)
end
def BE(P:Pg)(w:Wo):Mb:=λouter H s E ev s'=>HX λe C dx H' tb=>ev=.ref e/\E (.ref C) dx H'/\s'.os=s.os/\XYb s'.gens/\Un (xb outer) [] H H' s.heap s'.heap/\yR P w H' s'.heap/\
 QC s'.heap e (.ref C) dx (ga tb)/\s.heap.get? e=Fa/\s.heap.get? tb=Fa/\H' e=Fa/\H' tb=Fa
def yJ{o:HO}(x:tN P w H h a o):∃ob,h.get? a=ga ob:=by
 cases o with
 | lst xs=>obtain⟨_,_,_,_,e⟩:=x;exact⟨_,e⟩
 | tup xs=>obtain⟨_,_,_,o,e,_⟩:=x;exact⟨_,e⟩
 | dK kvs=>obtain⟨_,_,_,_,o,_,_,e,_⟩:=x;exact⟨_,e⟩
 | dT kvs=>obtain⟨_,_,_,_,o,_,_,e,_⟩:=x;exact⟨_,e⟩
 | set S n=>obtain⟨o,_,_,_,e,_⟩:=x;exact⟨_,e⟩
 | ins C dx fs=>obtain⟨_,_,_,e,_⟩:=x;exact⟨_,e⟩
 | own y=>exact x
 | xd fs=>obtain⟨_,⟨_,_,_,e,_⟩,_⟩:=x;exact⟨_,e⟩
 | rng lo hi=>obtain⟨_,_,_,e⟩:=x;exact⟨_,e⟩
 | frz ob u=>obtain⟨e,_⟩:=x;exact⟨_,e⟩
 | tbl ps=>exact⟨_,x⟩
 | met f y=>exact⟨_,x⟩
 | ext φ=>obtain⟨_,e,_⟩:=x;exact e
def Al{T:Uf}(mR:yR P w H h)(tn:h.get? T=Fa):H T=Fa:=by
 cases z:H T with
 | none=>rfl
 | some o=>obtain⟨ob,hob⟩:=yJ (mR T o z);rw[hob]at tn;cases tn
variable {P:Pg}{w:Wo}{K:qE}{mg:QQZ}{N:QQQ}{qual:Str}{scope:XXd}{f:Uf}{cd:Vl}{s0:Sd}{H0:Hp}
section
variable {E:XK}
def Ia(u:Un fs ex H H' h h')(hex:ex=[]){b:Uf}(hb:h'.get? b=Fa):h.get? b=Fa:=by
 cases q:h.get? b with
 | none=>rfl
 | some o=>obtain⟨o',e⟩:=u.there b o q (by rw[hex];simp);rw[e]at hb;cases hb
def OQ{YL:QQY}{e C T:Uf}{tb dx:Option Uf}{h':Go}(I:Inv (vS (BE P w) P w K mg base N qual scope f cd A outer s0 H0 E) YL Y H s)(he:s0.heap.get? e=Fa)(Zk:∀T,tb=ga T->s0.heap.get? T=Fa/\H T=Fa)(hn:H e=Fa)(q:E (.ref C) dx H)(hT:s0.heap.get? T=Fa/\H T=Fa) (k1:∀b o,s.heap.get? b=ga o->b∉xb (xL qual scope s0.heap.objs.size f cd::outer)->b≠e->tb≠ga b->h'.get? b=ga o) (k2:∀b o,s.heap.get? b=ga o->b∈xb (xL qual scope s0.heap.objs.size f cd::outer)->∃sl,h'.get? b=ga {o with slots:=sl}) (x':QC h' e (.ref C) dx (ga T)):
  BE P w outer H0 s0 E (.ref e) {s with heap:=h'}:=by
 have Zx:=I.nK;have Y5:∀b o,H b=ga o->∀u,s.heap.get? b=ga u->h'.get? b=ga u:=λb o hb u hu=>k1 b u hu (λz=>by rw[Zx b z]at hb;cases hb) (λz=>by rw[z,hn]at hb;cases hb) (λz=>by rw[(Zk b z).2]at hb;cases hb);have oldf:∀b o,s0.heap.get? b=ga o->b∉xb [xL qual scope s0.heap.objs.size f cd]:=λb o hb z=>by
  have:b=s0.heap.objs.size:=by have hz:b∈[s0.heap.objs.size]:=z;exact cZ.mp hz
  rw[this]at hb;exact absurd (dB hb) (eV _)
 have fr:∀b,b∈xb (xL qual scope s0.heap.objs.size f cd::outer)->b∈xb [xL qual scope s0.heap.objs.size f cd]\/b∈xb outer:=λb hb=>by
  have hb:b∈s0.heap.objs.size::xb outer:=hb;rcases dg.mp hb with z|z
  .exact .inl (by rw[z];exact dC)
  .exact .inr z
 have Zg:Un (xb outer) [] H0 H s0.heap s.heap:=I.base;refine⟨e,C,dx,H,T,Z',q,I.os,I.bare,⟨λb o hb h0 nf ne=>?_,λb o hb h0 hf ne=>?_,Zg.free,λb o hb ne=>?_,Zg.nF,Zg.nB,Zg.nL⟩,λb o hb=>?_,x',he,hT.1,hn,hT.2⟩
 .have hs:=Zg.keep b o hb h0 nf ne;refine k1 b o hs (λz=>?_) (λz=>by rw[z,he]at hb;cases hb) λz=>by rw[(Zk b z).1]at hb;cases hb
  rcases fr b z with z|z
  .exact oldf b o hb z
  .exact nf z
 .obtain⟨sl,hs⟩:=Zg.slot b o hb h0 hf ne;have:b∈xb (xL qual scope s0.heap.objs.size f cd::outer):=dz _ hf;obtain⟨sl',h2⟩:=k2 b _ hs this;exact⟨sl',h2⟩
 .obtain⟨o',hs⟩:=Zg.there b o hb ne;by_cases z:b∈xb (xL qual scope s0.heap.objs.size f cd::outer)
  .obtain⟨sl,h2⟩:=k2 b o' hs z;exact⟨_,h2⟩
  .exact⟨o',k1 b o' hs z (λz=>by rw[z,he]at hb;cases hb) λz=>by rw[(Zk b z).1]at hb;cases hb⟩
 .refine(I.mR b o hb).nu (λb' u ZG hu=>?_) (λ_ q=>q) λ_ _ q=>q;rcases ZG with z|z
  .subst z;exact Y5 b' o hb u hu
  .exact Y5 b' _ z u hu
def VB{YL:QQY}{e C:Uf}{tb dx:Option Uf}(I:Inv (vS (BE P w) P w K mg base N qual scope f cd A outer s0 H0 E) YL Y H s)(hx:QC s.heap e (.ref C) dx tb)(he:s0.heap.get? e=Fa)(hT:∀T,tb=ga T->s0.heap.get? T=Fa/\H T=Fa)(hn:H e=Fa)(q:E (.ref C) dx H):
  (vS (BE P w) P w K mg base N qual scope f cd A outer s0 H0 E).xe (.ref e) s:=
 QH (base:=base) (outer:=outer) I.ok.frames I.stack Z' hx λh' T tn k1 k2 x'=>OQ I he hT hn q ⟨Ia (show Un (xb outer) [] H0 H s0.heap s.heap from I.base) Z' tn,Al I.mR tn⟩ k1 k2 x'
end
section
variable {E:XK}
end
def Re(d:Uf)(f:Str)(v:V)(h:Go):Prop:=∃u,h.Ns1 d (λy=>if y=f then ga u else Fa)/\rj v u
end L2
namespace L3
open L2
abbrev XR:=Uf->Option (Str×D)->Mp->Prop
abbrev ET:=T0 D->Mp->DK->XR->Prop
def WX(K:qE)(H:Hp)(dx:Option Uf)(y:Option (Str×D)):Prop:=(dx=Fa/\y=Fa)\/BO λd f z v=>dx=ga d/\y=ga (f,z)/\H d=ga (.ext (Re d f v))/\sr K H z v
def SO(K:qE)(R:XR)(E:XK):Prop:=∀C dx H M y,HM K H M->WX K H dx y->R C y M->E (.ref C) dx H
def Xl(K:qE)(sp:ET):Sp:=λvs H Q' E=>BO λds M Q R=>qA K H ds vs/\HM K H M/\sp ds M Q R/\Up K H Q' Q/\SO K R E
abbrev QM(P:Pg)(w:Wo)(K:qE)(mg:QQZ)(base:Go)(k:Nat)(f:Uf)(fd:Ix)(ps:QQQ)(sp:ET):Prop:=xS P w K mg base (BE P w) k f fd ps (Xl K sp)
variable {X:Cx}{x:Str}{p pos np YT:Pos}{e:zn}{es:T0 zn}{t:xt}{k:Nat}{f C:Uf}{fd:Ix}{ps:QQQ}{sp:ET}{R:XR}{E:XK}
def UC(sp:ET)(R:XR)(t:xt):T3:=λU M Q=>t U M λds M1=>sp ds M1 Q R
def Mt(F:QM X.prog X.w X.K X.mg X.base k f fd ps sp)(hr:sG k X.A)(hg:Gl X x)(hm:X.mg x=ga (.ref f))(hk:W.keepIn X.K (.ref f)=Db)(hb:vc X.K fd ps [])(hx:zo (BE X.prog X.w) X E)(hR:SO X.K R E)(ha:A3 X (e::es) t) (Y7:Ab x:=by decide) (he:Bt X e es:=by rfl) (Y6:C5 X pos es:=by rfl):
  E3 X (.Call (.Name x p) (e::es) [] pos) (UC sp R t):=PE.mono (Kv F hr hg hm hk hb .nil hx ha Y7 he Y6) λY H Q' zz=>x7 zz λU M Q hs hm ht k=>
 ⟨U,M,_,hs,hm,ht,λvs H1 ds M1 hd YN e1 q1=>⟨ds,M1,Q,R,by rw[eG];exact hd,YN,q1,wc e1 k,hR⟩⟩
variable {P:Pg}{w:Wo}{K:qE}{mg:QQZ}{base:Go}{N:QQQ}{qual:Str}{scope:XXd}{cd:Vl}{A:Ar}{outer:T0 Env}{s0:Sd}{H0:Hp}{ta:xt}
def Vz{st:TD}{sp:ET}(F:QL K x qual st f fd)(S:tS N ps (qx st))(len:∀ds M Q R,sp ds M Q R->ds.length=ps.length) (Zb:∀(YX:Vl) (A:Ar) (outer:T0 Env) (s:Sd) (H:Hp) (E:XK) (R:XR),sG k (A.deeper (xL qual (qx st) s.heap.objs.size f YX))->SO K R E->
   ∃t,Ig (vS (BE P w) P w K mg base N qual (qx st) f YX A outer s H E) (sy st) t/\∀ds M Q,sp ds M Q R->t {nx:=λ_ M'=>∃YQ,qN YQ M'/\Q .mM YQ,rt:=λd M'=>∃YQ,qN YQ M'/\Q d YQ} (xA N ds) M):QM P w K mg base (k+1) f fd ps sp:=by
 obtain⟨oc,od,kV,Zp,pm,an,YX,ct,ZL,rfl,lk,Z3⟩:=F.ex;refine Ng lk Z3 S (λvs H Q E h=>?_) λA outer s H vs Q' E hr h=>?_
 .obtain⟨ds,M,Q,R,hd,_,hs,_⟩:=h;rw[<-hd.length];exact len ds M Q R hs
 .obtain⟨ds,M,Q,R,hd,hm,hs,k,hR⟩:=h;obtain⟨t,ht,hb⟩:=Zb YX A outer s H E R hr hR;exact⟨_,ht,xA N ds,M,_,Ez hd,hm,hb ds M Q hs,λσ' H' δ' M' _ x2 x3 _ ⟨YQ,y1,y2⟩=>k .mM H' .mM YQ .mM (x2.sub y1) x3 y2,λv H' d M' x1 x2 x3 ⟨YQ,y1,y2⟩=>k v H' d YQ x1 (x2.sub y1) x3 y2,λ_ _ _ _ _ _ _ _ z=>z,λ_ _ _ _ _ _ _ _ z=>z⟩
end L3
namespace L2
def TKept(H H':Hp):Prop:=(∀b xs,H b=ga (.tup xs)->H' b=ga (.tup xs))/\∀b o u,H b=ga (.frz o u)->H' b=ga (.frz o u)
def X9(X:Cx)(YL:QQY)(Y:St)(J:Hp->Prop)(E:XK)(ev:Vl)(s':Sd):Prop:=Dn λH s=>J H/\Inv X YL Y H s/\BE X.prog X.w X.stack H s E ev s'
def Wg(X:Cx)(YL:QQY)(Y:St)(J:Hp->Prop)(E:XK)(ev:Vl)(s':Sd):Prop:=U5 λa C dx H' tb H1 s1=>ev=.ref a/\E (.ref C) dx H'/\Inv X YL Y H' s'/\QC s'.heap a (.ref C) dx (ga tb)/\H' a=Fa/\H' tb=Fa/\J H1/\TKept H1 H'/\Inv X YL Y H1 s1/\s1.heap.get? a=Fa
def Tz{M:Model}{E₁ E₂:QQX}{YL:QQY}{E:XK}{outer:T0 Env}{L:Uf}(h:X9 X YL Y J E ev s')(Zd:X.stack=X.env::outer)(hL:X.env.frame=ga L):
  pi M X.A (noteFrame ev X.env) (λ_ s₂=>pi M X.A (setFlight ev Fa) (λ_ s₃=>Wg X YL Y J E ev s₃) E₂ s₂) E₁ s':=by
 obtain⟨H,s,jH,I,e,C,dx,H',tb,rfl,q,os,bare,un,mR,x,he,ht,ne,nt⟩:=h;obtain⟨hh,g,d,t,os'⟩:=s';obtain rfl:os'=s.os:=os;have I':=I.call (h':=hh) (g':=g) (d':=d) (t':=t) (ch:=[]) un mR bare (λb z=>absurd z (by simp));have hF:=I'.stack;have Zx:=I'.nK;have hfr:=I.ok.frames;rw[Zd]at hF hfr;refine KC (base:=X.base) (outer:=outer) hfr hF hL x λh' T tn k1 k2 x'=>?_;have Y5:∀b o,H' b=ga o->∀u,hh.get? b=ga u->h'.get? b=ga u:=λb o hb u hu=>k1 b u hu (λz=>by rw[Zx b (by rw[Zd];exact z)]at hb;cases hb) (λz=>by rw[z,ne]at hb;cases hb) (λz=>by cases z;rw[nt]at hb;cases hb);have un':Un (xb X.stack) [] H H' s.heap h':=by
  refine⟨λb o hb h0 nf nx=>?_,λb o hb h0 hf nx=>?_,un.free,λb o hb nx=>?_,un.nF,un.nB,un.nL⟩
  .exact k1 b o (un.keep b o hb h0 nf nx) (λz=>nf (by rw[Zd];exact z)) (λz=>by rw[z,he]at hb;cases hb) λz=>by cases z;rw[ht]at hb;cases hb
  .obtain⟨sl,hs⟩:=un.slot b o hb h0 hf nx;obtain⟨sl',h2⟩:=k2 b _ hs (by rw[<-Zd];exact hf);exact⟨sl',h2⟩
  .obtain⟨o',hs⟩:=un.there b o hb nx;by_cases z:b∈xb (X.env::outer)
   .obtain⟨sl,h2⟩:=k2 b o' hs z;exact⟨_,h2⟩
   .exact⟨o',k1 b o' hs z (λz=>by rw[z,he]at hb;cases hb) λz=>by cases z;rw[ht]at hb;cases hb⟩
 have hok':yR X.prog X.w H' h':=λb o hb=>(mR b o hb).nu (λb' u ZG hu=>by
  rcases ZG with z|z
  .subst z;exact Y5 b' o hb u hu
  .exact Y5 b' _ z u hu) (λ_ q=>q) λ_ _ q=>q
 have I3:Inv X YL Y H' {heap:=h',gens:=g,drawn:=d,toks:=t,os:=s.os}:=Inv.call (s:=s) (ch:=[]) I un' hok' bare (λb z=>absurd z (by simp));refine⟨e,C,dx,H',T,H,s,Z',q,I3,x',ne,?_,jH,⟨un.nF,un.nB⟩,I,he⟩;cases z:H' T with
 | none=>rfl
 | some o=>obtain⟨ob,hob⟩:=yJ (mR T o z);have tn:hh.get? T=Fa:=tn;rw[hob]at tn;cases tn
variable {X:Cx}{YL:T0 (Uf × Obj)}{Y σ':St}{H H1:Hp}{s s1:Sd}{ev:Vl}{E':QQX}{a:Uf}
def Inv.adopt{o:HO}(I:Inv X YL Y H s)(I1:Inv X YL σ' H1 s1)(n1:s1.heap.get? a=Fa)(hn:H a=Fa)(ok:tN X.prog X.w (upd H a o) s.heap a o):Inv X YL Y (upd H a o) s:=by
 have ne:∀b ob,s1.heap.get? b=ga ob->b≠a:=λb ob e z=>by rw[z,n1]at e;cases e
 have nh:∀b ob,H b=ga ob->b≠a:=λb ob e z=>by rw[z,hn]at e;cases e
 refine⟨I.ok,I.os,I.bare,⟨I.base.keep,I.base.slot,λb o' e h0 hb=>?_,I.base.there,λb xs e=>?_,λb o' u e=>?_,λb ps e=>?_⟩,I.loc,I.cell,?_,λx c e=>?_,λp hp=>?_,λb ob e=>?_,I.len⟩
 .obtain⟨o2,e2⟩:=I1.base.there b o' e hb;rw[qo (ne b o2 e2)];exact I.base.free b o' e h0 hb
 .have:=I.base.nF b xs e;rw[qo (nh b _ this)];exact this
 .have:=I.base.nB b o' u e;rw[qo (nh b _ this)];exact this
 .obtain⟨more,this⟩:=I.base.nL b ps e;exact⟨more,by rw[qo (nh b _ this)];exact this⟩
 .obtain⟨m,⟨o2,_,_,e2,_⟩,_⟩:=I1.loc;rw[qo (ne _ o2 e2)];exact I.free
 .obtain⟨v,o2,e2,_⟩:=I1.cell x c e;rw[qo (ne _ o2 e2)];exact I.mY x c e
 .obtain⟨e1,e2,e3,e4,e5⟩:=I.pin p hp;exact⟨e1,by rw[qo (ne _ _ (I1.pin p hp).1)];exact e2,e3,e4,e5⟩
 .by_cases z:b=a
  .subst z;rw[qz]at e;cases e;exact ok
  .rw[qo z]at e;exact(I.mR b ob e).nu (λ_ _ _ q=>q) (λb' q=>by rw[qo (nh b' _ q)];exact q) λb' xs q=>by rw[qo (nh b' _ q)];exact q
noncomputable def Cx.marked(X:Cx)(ev:Vl)(E:QQX):Cx:={X with A:=X.A.mark (ga ev),calm:=false,xe:=E}
def Inv.mark(I:Inv X YL Y H s):Inv (X.marked ev E') YL Y H s:=
 ⟨⟨I.ok.mod,I.ok.kind,I.ok.glob,I.ok.blt,I.ok.above,I.ok.inj,I.ok.has,I.ok.oE,(λz=>by cases z),I.ok.frames,I.ok.oV,I.ok.pA,I.ok.bs,I.ok.n9,I.ok.nQ,I.ok.nY,I.ok.ny,I.ok.oB⟩,I.os,I.bare,I.base,I.loc,I.cell,I.free,I.mY,I.pin,I.mR,I.len⟩
def Inv.unmark(ok:X.Ok)(I:Inv (X.marked ev E') YL Y H s):Inv X YL Y H s:=⟨ok,I.os,I.bare,I.base,I.loc,I.cell,I.free,I.mY,I.pin,I.mR,I.len⟩
def SP.unmark(ok:X.Ok){D:Gb}{f:Flow}(h:SP (X.marked ev E') YL D f s):SP X YL D f s:=by
 cases f with
 | next=>obtain⟨a,b,I,q⟩:=h;exact⟨a,b,I.unmark ok,q⟩
 | brk=>obtain⟨a,b,I,q⟩:=h;exact⟨a,b,I.unmark ok,q⟩
 | cont=>obtain⟨a,b,I,q⟩:=h;exact⟨a,b,I.unmark ok,q⟩
 | ret v=>obtain⟨a,b,c,I,q⟩:=h;exact⟨a,b,c,I.unmark ok,q⟩
def Ji{M:Model}{h:Go}{a:Uf}{o:Obj}(ho:h.get? a=ga o):W.Looks M h (typeOf (.ref a)) o.cls:=by intro A Q E s k q;unfold typeOf;exact cU (wpAny_load (k a o ho) (dh q))
def GN{M:Model}{A:Ar}{E:QQX}{a C T:Uf}{Q:Unit->Sd->Prop}(x:QC s.heap a (.ref C) dx (ga T))(h:∀h':Go,(∀b,h'.get? b=s.heap.get? b)->Q () {s with heap:=h'}):pi M A (setFlight (.ref a) Fa) Q E s:=by
 obtain⟨oe,vs,ho,hc,_,hd,h1,hv,hT⟩:=x;obtain⟨nTe,oT,ts,ZZ,hdT,h3,hn⟩:=hT T Z';unfold setFlight;refine cU (fj ho hd hv ?_);rw[de (by rfl)];refine ic ZZ hdT h3 (h _ λb=>?_);by_cases z:T=b
 .subst z;obtain⟨oc,od,odt,ZL⟩:=oT;obtain rfl:odt=.fields ts:=hdT;rw[fJ _ ZZ Z',ZZ];show ga (Obj.mk oc od (.fields (ts.setIfInBounds 3 .none)) ZL)=_;have:ts.setIfInBounds 3 .none=ts:=by
   apply Array.ext
   .simp
   .intro i h1 h2;rw[Array.getElem_setIfInBounds];split
    .rename_i e;subst e;rw[Array.getElem?_eq_getElem h3]at hn;exact(df hn).symm
    .rfl
  rw[this]
 .exact gc _ _ z
def Tr(X:Cx)(e:zn)(t:St->Hp->VK->(Hp->Prop)->XK->Prop):Prop:=∀(YL:QQY) (s:Sd) (Y:St) (H:Hp) (Q:VK) (J:Hp->Prop) (E:XK),Inv X YL Y H s->t Y H Q J E->pi (Tk X.prog X.w) X.A (wp e X.env) (EP X YL Y Q) (X9 X YL Y J E) s
def Yg(X:Cx)(st:TD)(t:Gb->St->Hp->(Hp->Prop)->XK->Prop):Prop:=∀(YL:QQY) (s:Sd) (Y:St) (H:Hp) (D:Gb) (J:Hp->Prop) (E:XK),Inv X YL Y H s->t D Y H J E->pi (Tk X.prog X.w) X.A (exec st X.env) (SP X YL D) (X9 X YL Y J E) s
def QI{X:Cx}{i:Nat}{x:Str}{te:St->Hp->VK->(Hp->Prop)->XK->Prop}{pos YW:Pos}(hN:X.N.Nodup)(hi:X.N[i]?=ga x)(hx:Ma X.env.scope x)(he:Tr X e te)(hs:sK e (ga (.Name x YW)) pos.line X.env=pure pc:=by rfl)(hf:L9 X x:=by first|exact .inl Z'|exact .inr Z'|assumption):
  Yg X (.Assign [.Name x YW] e pos) (λD Y H J E=>te Y H (λv H'=>D.nx (Y.set i (ga v)) H') J E):=by
 intro YL s Y H D J E I h;refine lu (tj (he YL s Y H _ J E I h) λv s1 zz=>x5 zz λy H1 I1 r1 q1=>?_) hs;exact Df I1 hN hi hx r1 (λs2 I2=>⟨_,H1,I2,q1⟩) hf
variable {k:Nat}{f C:Uf}{fd:Ix}{ps:QQQ}{sp:Sp}{Zy:T0 V}{ds:T0 Vl}{m:Str}{p pos YO:Pos}{e o:zn}{es:T0 zn}{t:TA}
section
variable {x:Str}
def Pq(F:xS X.prog X.w X.K X.mg X.base (BE X.prog X.w) k f fd ps sp)(hr:sG k X.A)(hg:Gl X x)(hm:X.mg x=ga (.ref f))(hk:W.keepIn X.K (.ref f)=Db)(hb:vc X.K fd ps ds)(hd:qK Zy ds) (ha:PA (X.nZ λ_ _=>False) (e::es) t) (Y7:Ab x:=by decide) (he:Bt X e es:=by rfl) (Y6:C5 X pos es:=by rfl):
  Tr X (.Call (.Name x p) (e::es) [] pos) (λY H Q J E=>t Y H λvs H1=>J H1/\sp (vs++Zy) H1 Q E):=by
 intro YL s Y H Q J E I h;refine fU (xq I hg hm ?_ Y7);refine iT (h₀:=X.base) I.ok.mod.oz hk (eh (ha pos YL s Y H _ I.nZ h) (λus s1 ⟨vs,H1,I1,r,jH,q⟩=>⟨I1.nE,?_⟩) λ_ _ z=>z.elim) he Y6;have I1:=I1.xeOf;have r2:qK (vs++Zy) (us++ds):=r.append hd;have hl:(us++ds).length=ps.length:=by rw[<-r2.length];exact F.len _ _ _ _ q
 refine iS (gL (F.run X.A X.stack s1 H1 ⟨us,[]⟩ (us++ds) (vs++Zy) Q E hr I1.oo (hb s1 us I1.nE hl) r2 q) λr s' hq=>?_);cases r with
 | error e=>exact⟨H1,s1,jH,I1,hq⟩
 | ok fl=>
  cases fl with
  | ret u=>exact I1.after hq
  | next=>exact False.elim hq
  | brk=>exact False.elim hq
  | cont=>exact False.elim hq
end
def Qf{st b₀:TD}{ZA:T0 TD}{cnp hpos pos:Pos}{Cc L:Uf}{outer:T0 Env}{t:Gb->St->Hp->(Hp->Prop)->XK->Prop}(hb:Yg X st t)(Zd:X.stack=X.env::outer)(hL:X.env.frame=ga L)(hg:Gl X cn)(hm:X.mg cn=ga (.ref Cc))(hs:∀ev E',Dh (X.marked ev E') (b₀::ZA) th) (Y7:Ab cn:=by decide):
  PS X (.Try [st] [.ExceptHandler (ga (.Name cn cnp)) Fa (b₀::ZA) hpos] [] [] pos) (λD Y H=>∃(J:Hp->Prop) (E:XK),t D Y H J E/\∀C dx H1 H',J H1->TKept H1 H'->E (.ref C) dx H'->W.exmOne X.K (.ref C) (.ref Cc)=ga Db/\th D Y H'):=by
 intro YL s Y H D I ⟨J,E,h,hh⟩;refine wpAny_Try_except (eh (Q:=λf s'=>SP X YL D f s') (jE (tj (hb YL s Y H D J E I h) λf s1 q=>?_)) (λf s1 q=>?_) λev s1 x=>?_)
 .cases f with
  | next=>exact gS q
  | brk=>exact q
  | cont=>exact q
  | ret v=>exact q
 .cases f with
  | next=>exact gS q
  | brk=>exact q
  | cont=>exact q
  | ret v=>exact q
 .refine eh (Tz x Zd hL) (λ_ s2 y=>tj y λ_ s3 z=>?_) λ_ _ z=>z;obtain⟨a,C,dx,H',tb,H1,s1,rfl,q,I3,x3,na,nt,jH,tk,I1,n1⟩:=z;obtain⟨YN,h1⟩:=hh C dx H1 H' jH tk q;refine wpAny_handleBy_cons (codeAny_handlers_test (xq (X:=X.marked (.ref a) λ_ _=>False) I3.mark hg hm ?_ Y7)) (by intro z;cases z);obtain⟨oe,vs,ho,hc,_⟩:=id x3;refine W.exm_one I3.nE (Ji ho) (by rw[hc];exact YN) _ _ _ _ (λ_ _ z=>z) ?_;refine codeAny_handlers_suite (GN x3 λh' hh'=>?_);have I4:Inv X YL Y H' {s3 with heap:=h'}:=I3.kept (t':=s3.toks) λb u z=>by rw[hh' b];exact z
  refine eh (hs (.ref a) _ YL _ Y H' D I4.mark h1) (λf s5 q5=>SP.unmark I.ok q5) λ_ _ z=>z
variable {prog:Pg}{w:Wo}{A:Ar}{E:QQX}{K:qE}{ox:Obj}
section
variable {x:Uf}
end
end L2
namespace L3
open L2
theorem _root_.L2.TKept.ext{K:qE}(h:TKept H H'):rc K H H':=⟨λa xs q=>by
 rcases q with(q|⟨u,q⟩)|q
 .exact .inl (.inl (h.1 a xs q))
 .exact .inl (.inr ⟨u,h.2 a u _ q⟩)
 .exact .inr q,λa o xs q=>h.2 a o _ q⟩
abbrev Wk:=vV->Mp->DK->XR->Prop
def YC(K:qE)(t:Wk):St->Hp->VK->(Hp->Prop)->XK->Prop:=λY H Q' J E=>BO λU M Q R=>AC K H Y U/\HM K H M/\t U M Q R/\(∀v H' d M',sr K H' d v->HM K H' M'->rc K H H'->Q d M'->Q' v H')/\(∀H1,rc K H H1->J H1)/\SO K R E
def Yp(X:Cx)(e:zn)(t:Wk):Prop:=Tr X e (YC X.K t)
def Tr.mono{t t':St->Hp->VK->(Hp->Prop)->XK->Prop}(h:Tr X e t)(m:∀Y H Q J E,t' Y H Q J E->t Y H Q J E):Tr X e t':=λYL s Y H Q J E I q=>h YL s Y H Q J E I (m Y H Q J E q)
variable {X:Cx}{x:Str}{p pos np YT:Pos}{e:zn}{es:T0 zn}{t:xt}{k:Nat}{f C:Uf}{fd:Ix}{ps:QQQ}{sp:ET}
def MQ(F:QM X.prog X.w X.K X.mg X.base k f fd ps sp)(hr:sG k X.A)(hg:Gl X x)(hm:X.mg x=ga (.ref f))(hk:W.keepIn X.K (.ref f)=Db)(hb:vc X.K fd ps [])(ha:A3 (X.nZ λ_ _=>False) (e::es) t) (Y7:Ab x:=by decide) (he:Bt X e es:=by rfl) (Y6:C5 X pos es:=by rfl):
  Yp X (.Call (.Name x p) (e::es) [] pos) (λU M Q R=>t U M λds M1=>sp ds M1 Q R):=Tr.mono (Pq F hr hg hm hk hb .nil ha Y7 he Y6) λY H Q' J E ⟨U,M,Q,R,hs,hm,ht,k,kJ,kR⟩=>
 ⟨U,M,_,hs,hm,ht,λvs H1 ds M1 hd YN e1 q1=>⟨kJ H1 e1,ds,M1,Q,R,by rw[eG];exact hd,YN,q1,wc e1 k,kR⟩⟩
variable {b₀:TD}{ZA:T0 TD}{cn n:Str}{cnp hpos YO xpos:Pos}{Cc L:Uf}{outer:T0 Env}{i ix:Nat}{te:Wk}{th:xU}
def X'(K:qE)(ix:Nat)(Cc:Uf)(te:Wk)(th:xU):xU:=λD U M=>∃R,te U M (λd M1=>D.nx (U.set ix (ga d)) M1) R/\∀C y M',R C y M'->W.exmOne K (.ref C) (.ref Cc)=ga Db/\th D U M'
def PN(he:Yp X e te)(Zd:X.stack=X.env::outer)(hL:X.env.frame=ga L)(hg:Gl X cn)(hm:X.mg cn=ga (.ref Cc))(hN:X.N.Nodup)(hix:X.N[ix]?=ga x)(hx:X.env.scope.names.lookup x=ga .local) (hs:∀ev E',Ig (X.marked ev E') (b₀::ZA) th) (Y7:Ab cn:=by decide) (ZF:sK e (ga (.Name x xpos)) YO.line X.env=pure pc:=by rfl):
  S3 X (.Try [.Assign [.Name x xpos] e YO] [.ExceptHandler (ga (.Name cn cnp)) Fa (b₀::ZA) hpos] [] [] pos) (X' X.K ix Cc te th):=
 PS.nV (Qf (th:=W4 X.K th) (QI hN hix (.inl hx) he ZF (.inr hx)) Zd hL hg hm hs Y7) λD' Y H hl ⟨U,M,D,hs,hm,⟨R,ht,hh⟩,k1,k2,k3,k4⟩=>by
  refine⟨λH1=>rc X.K H H1,λcv d H'=>∃C M' y,cv=.ref C/\HM X.K H' M'/\WX X.K H' d y/\R C y M',⟨U,M,_,R,hs,hm,ht,λv H1 d M1 hd YN e1 q1=>?_,λ_ z=>z,λC dx H' M' y h1 h0 h2=>⟨C,M',y,Z',h1,h0,h2⟩⟩,λC dx H1 H' jH tk ⟨C',M',y,ec,hm',hdx,r⟩=>?_⟩
  .exact k1 _ H1 _ M1 ((hs.mono e1).set hd (by rw[hl];exact(cX.mp hix).1)) YN e1 (by simp) q1
  .cases ec;obtain⟨r1,r2⟩:=hh C y M' r;have e1:rc X.K H H':=jH.trans (L2.TKept.ext tk);refine⟨r1,U,M',D,hs.mono e1,hm',r2,λσ2 H2 δ2 M2 y1 y2 y3 y4 y5=>?_,λv H2 d M2 y1 y2 y3 y5=>?_,λσ2 H2 δ2 M2 y1 y2 y3 y4 y5=>?_,λσ2 H2 δ2 M2 y1 y2 y3 y4 y5=>?_⟩
   .exact k1 _ H2 _ M2 y1 y2 (e1.trans y3) y4 y5
   .exact k2 _ H2 _ M2 y1 y2 (e1.trans y3) y5
   .exact k3 _ H2 _ M2 y1 y2 (e1.trans y3) y4 y5
   .exact k4 _ H2 _ M2 y1 y2 (e1.trans y3) y4 y5
end L3
namespace L2
noncomputable def Cq(es:Array DictEntry):Bool:=es.toList.all λe=>match e.key with|.str _ _=>Db|_=>pc
def Do{es:Array DictEntry}(h:Cq es=Db):StrKeys es:=λe he=>by
 have:=eD.mp h e (kq.mpr he);cases z:e.key with
 | str n t=>exact⟨n,t,Z'⟩
 | _=>rw[z]at this;cases this
abbrev Mq:T0 Vl:=[.type "ValueError",.type "Exception",.type "BaseException",.type "object"]
def Rw{X:Cx}:zo (BE X.prog X.w) X (λ_ _ _=>False):=λ_ _ _ _ _ _ _ ⟨_,_,_,_,_,_,z,_⟩=>z.elim
def QP{K:qE}{t:Vl}{C:Uf}{cd:ClassData}{b:Bool}(q0:W.subIn K (.ref C) (.type "BaseException")=ga Db)(q1:W.clsIn K C=ga cd)(q2:W.typeIn K (.ref C)=ga (.type "type"))(s:W.subIn K t (.ref C)=ga b):W.exmOne K t (.ref C)=ga b:=by unfold W.exmOne;rw[q0,de (by rfl)];unfold W.kitCls;simp only;rw[q1,q2,de (by rfl)];exact s
end L2
namespace L3
open L2
def Xo{K:qE}:SO K (λ_ _ _=>False) (λ_ _ _=>False):=λ_ _ _ _ _ _ _ z=>z
end L3
namespace L2
theorem Dl(self:Vl):∀own:QXQ,refuseLoop self "__setattr__" (own.map Value.ref++Mq)=pure ()
 | []=>jP.passes self
 | c::r=>by show refuseLoop self "__setattr__" (.ref c::(r.map Value.ref++Mq))=pure ();rw[refuseLoop_ref];exact Dl self r
variable {prog:Pg}{w:Wo}{A:Ar}{s:Sd}{K:qE}{x C:Uf}{ox:Obj}{own:QXQ}{name:Str}{v:Vl}
section
variable {E:QQX}{cd:ClassData}
def Ro{Q:Unit->Sd->Prop}(X:K.In s.heap)(I:W.InstAt s.heap x ox C Fa)(hs:W.findIn K (.ref C) "__setattr__"=ga (ga (.builtin "object.__setattr__")))(hc:W.clsIn K C=ga cd)(hm:cd.mro=own.map Value.ref++Mq)(ht:W.takerIn K C name=ga Fa)(hd:cd.hasDict=Db) (h:∀h' d t,(∀b o,b≠x->s.heap.get? b=ga o->h'.get? b=ga o)->h'.get? x=ga {ox with dict:=some d}->s.heap.get? d=Fa->d≠x->h'.Ns1 d (λy=>if y=name then ga v else Fa)->Q () {s with heap:=h',toks:=t}):pi (Tk prog w) A (setAttr (.ref x) name v) Q E s:=by
 refine W.set_plain X I hs ?_;have SF:=jP;have ne:cd.mro.isEmpty=pc:=by rw[hm];cases own<;>rfl
 have has:cd.mro.contains (.type "object")=Db:=by
  rw[hm,List.contains_eq_any_beq,mf];have:Mq.any (Value.type "object"==·)=Db:=by decide+kernel
  rw[this,jQ]
 have sub:W.Looks (Tk prog w) s.heap (isInstance (.ref x) (.type "object")) Db:=I.type.andThen (W.looks_mroIn X (by unfold W.mroIn;rw[hc,lX,cY (by rw[ne];decide),has]));refine kx SF.slot.plain SF.entry (@PySem.W.check_slot (Tk prog w) _ _ {s with toks:=s.toks+1} "object.__setattr__" "object" "__setattr__" (.ref x) [.str name s.toks,v] [] _ SF.kind SF.split sub (SF.args (.ref x) (.str name s.toks) v) ?_);obtain⟨attr,ha,hr⟩:=Option.bind_eq_some_iff.mp ht;have hmro:W.Looks (Tk prog w) s.heap (mroOf (.ref C)) cd.mro:=(kC X hc).andThen .now;have L3':W.Looks (Tk prog w) s.heap (Builtin.ObjectAttr.storeTaker? attr) Fa:=by
  cases attr with
  | none=>exact .now
  | some a=>
   obtain⟨b,hb,hr⟩:=j8.mp hr;refine(W.looks_takesIn X hb).andThen ?_;cases b
   .exact .now
   .cases hr
 rw[W.osa_eq,refuse_eq];refine cU (cU (I.type.here (s:={s with toks:=s.toks+1}) (cU (hmro.here (s:={s with toks:=s.toks+1}) ?_))));rw[hm,Dl];refine dh (cU (I.type.here (s:={s with toks:=s.toks+1}) (cU ((mi X ha).here (s:={s with toks:=s.toks+1}) (cU (L3'.here (s:={s with toks:=s.toks+1}) ?_))))));obtain⟨hx,hcl,hn,hdx⟩:=I;obtain⟨oc,odi,oda,ZL⟩:=ox;dsimp only at hcl hdx;subst hcl;cases odi with
 | some _=>exact hdx.elim
 | none=>
  refine cU (dh (cU (cU (wpAny_loadPart hx (cU (mq (s:={s with toks:=s.toks+1}) (kC X hc) ?_))))));rw[hd];rw[cY (by decide)];obtain⟨hh,g,dr,tk,os⟩:=s;dsimp only at hx h ⊢;rw[cY (by simp[typeHasDict])];split
  .cases hn
  .have y1:(hh.push W.emptyDict).get? x=ga ⟨.ref C,Fa,oda,ZL⟩:=c9 _ hx;have nx:x≠hh.objs.size:=λz=>eV _ (z ▸ dB hx);refine cU (wpAny_alloc' (cU (wpAny_update' y1 (dh ?_))));have e0:((hh.push W.emptyDict).update x λo=>{o with dict:=some hh.objs.size}).Ns hh.objs.size (λ_=>Fa):=⟨W.emptyDict,#[],_,(jc _ _ _ _ nx.symm).trans (dJ hh Z'),Z',λe he=>absurd he (by simp),λ_=>rfl⟩;refine cU (dh (cU (wpAny_nsSet1 (lA e0) λh' n1 sb=>?_)));obtain⟨oD,esD,epD,g1,g2,g3⟩:=n1.count (Within.cons name v Within.nil);refine cU (lO g1 (g2 ▸ lP (dZ g3 (by rw[dM,dD];decide))) (dh (h h' hh.objs.size _ (λb o hb z=>?_) ?_ (gJ (dq _)) nx.symm n1)))
   .exact(sb.2 b λy=>eV _ (y ▸ dB z)).trans ((jc _ _ _ _ hb).trans (c9 _ z))
   .refine(sb.2 x nx).trans (fJ _ y1 ?_);have fr:=(Heap.get?_some_iff.mp hx).2;cases oda with
    | _=>first|rfl|exact fr
end
variable {nm q:Str}{bs bm bmB:T0 Vl}{hdct:Bool}{sn:QQQ}{sub:T0 Vl}{ab:Bool}{col:Option Bool}{dd:Option Uf}{k0 k1 k2 k3 k5:Option Vl}{B Bn newId nid Zj z9:String}{bmN:T0 Vl}{h:Go}{g:Array GenState}{d:Drawn}{t:Nat}{os:OsState}
section
variable {E:QQX}{N:Uf}
abbrev P8(C t:Uf):Obj:={cls:=.ref C,data:=.fields #[.ref t,.none,.none,.none,.bool pc,.none]}
def BM(Fn:u8 Bn newId z9 bmN)(hBn:bmB.contains (.type Bn)=Db)(F:u8 B nid Zj bmB)(T:OwnTail h bmB bm){mN:QQZ}{us:T0 Vl}{fI:Uf}{oI:Obj}{Q:PySem.Fin->Sd->Prop} (hC:h.get? C=ga (XXb nm q C N bs bm hdct sn sub ab col dd k0 k1 k2 k3 k5 newId)) (hn:h.Ns N mN) (hi:mN "__init__"=ga (.ref fI)) (hf:h.get? fI=ga oI) (hfc:oI.cls=.type "function") (YS:us.length<=Ch) (hq:∀h' e,Heap.MadeExcOf h h' e (.ref C) us->pi (Tk prog w) A (call (.ref fI) (.ref e::us)) (λr s'=>r=.none/\Q (.done (.ret (.ref e))) s') E ⟨h',g,d,t,os⟩):
  pi (Tk prog w) A (Builtin.«type.__call__» ⟨.ref C::us,[]⟩) Q E ⟨h,g,d,t,os⟩:=by
 repeat (first|with_reducible refine hJ hC ?_|with_reducible refine wpAny_madeBy_exc hC ?_|wp_step)
 refine codeAny_call_builtin_code (jj _ Fn.quiet) (wpAny_check_new_subU Fn hBn T hC (codeAny_exc_new_subU Fn hBn F T hC ?_ YS));have kp:∀b o,h.get? b=ga o->((h.push {cls:=.type "tuple",data:=.seq us.toArray}).push (P8 C h.objs.size)).get? b=ga o:=λb o z=>c9 _ (c9 _ z);have gE:((h.push {cls:=.type "tuple",data:=.seq us.toArray}).push (P8 C h.objs.size)).get? (h.objs.size+1)=ga (P8 C h.objs.size):=by heap_get
 have hC2:=kp _ _ hC;have hn2:((h.push {cls:=.type "tuple",data:=.seq us.toArray}).push (P8 C h.objs.size)).Ns N mN:=let⟨o,es,ep,e,r⟩:=hn;⟨o,es,ep,kp _ _ e,r⟩;have cC:(Value.ref C::bm).contains (.ref C)=Db:=by rw[iE,eN,ia]
 have T2:=T.keeps kp;show pi _ _ _ _ _ _;unfold isInstance
 repeat (first|with_reducible refine hJ gE ?_|(with_reducible refine kK hC2 ?_;rw[cC])|wp_step)
 show pi _ _ (typeLookup (.ref C) _) _ _ _;refine wpAny_typeLookup_tail hC2 hn2 T2 F.mroIs F.init.lookup ?_;rw[hi];refine eW (cU ?_);unfold bindSpecial;refine cU (jG (T:="function") ⟨_,kp _ _ hf,hfc⟩ ?_);rw[de (by decide)];refine dh (cU (eh (hq _ (h.objs.size+1) ⟨kp,gJ (gX _),h.objs.size,gE,gJ (dq _),c9 _ (Heap.get?_push_at Z' Z')⟩) (λr s' hr=>?_) λ_ _ z=>z));obtain⟨rfl,hQ⟩:=hr
 wp_walk
 exact hQ
def II(Fn:u8 Bn newId z9 bmN)(hBn:bmB.contains (.type Bn)=Db)(F:u8 B nid Zj bmB)(T:OwnTail h bmB bm){mN:QQZ}{us:T0 Vl}{fI:Uf}{oI:Obj}{Q:QQX} (hC:h.get? C=ga (XXb nm q C N bs bm hdct sn sub ab col dd k0 k1 k2 k3 k5 newId)) (hn:h.Ns N mN) (hi:mN "__init__"=ga (.ref fI)) (hf:h.get? fI=ga oI) (hfc:oI.cls=.type "function") (YS:us.length<=Ch) (hq:∀h' e,Heap.MadeExcOf h h' e (.ref C) us->pi (Tk prog w) (A.under (.builtin "type.__call__" ⟨.ref C::us,[]⟩)) (call (.ref fI) (.ref e::us)) (λr s'=>r=.none/\Q (.ref e) s') E ⟨h',g,d,t,os⟩):
  pi (Tk prog w) A (call (.ref C) us) Q E ⟨h,g,d,t,os⟩:=by
 have f1:=tc_lookup;have f2:=tc_bind (.ref C);have hT:(⟨h,g,d,t,os⟩:Sd).TypeIs (.ref C) "type":=⟨_,hC,Z'⟩;refine iS (codeAny_of_tree ?_);show pi _ _ (callAny (.ref C) _) _ _ _
 repeat (any_goals(first|assumption|with_reducible refine hJ hC ?_|wp_step))
 exact⟨Z',codeAny_call_builtin_at (jj _ (by decide+kernel)) entry_typeCall (wpAny_check_type_call_sub hC (BM Fn hBn F T hC hn hi hf hfc YS hq))⟩
end
variable {M:Model}{env:Env}
section
variable {E:QQX}{N:Uf}
def J4(h:Go)(e C:Uf)(dx:Option Uf):Prop:=Dn λt sl=>h.get? e=ga ⟨.ref C,dx,.fields #[.ref t,.none,.none,.none,.bool pc,.none],sl⟩
def GE{x:Sem Vl}{Q:Flow->Sd->Prop}(Y0:bm.contains (.type "BaseException")=Db)(hh:A.handled=Fa) (h:pi M A x (λv s₁=>∃e dx,v=.ref e/\s₁.heap.get? C=ga (XXb nm q C N bs bm hdct sn sub ab col dd k0 k1 k2 k3 k5 newId)/\J4 s₁.heap e C dx/\E (.ref e) s₁) E s):
  pi M A (raiseStmt env (ga x) Fa) Q E s:=by
 have cB:(Value.ref C::bm).contains (.type "BaseException")=Db:=by rw[iE,Y0,jQ]
 unfold raiseStmt;refine cU (eh h (λv s₁ ⟨e,dx,ev,hC,⟨t,sl,he⟩,hE⟩=>?_) λ_ _ z=>z);subst ev;obtain⟨hp,g,d,tk,os⟩:=s₁
 repeat (first|with_reducible refine hJ he ?_|with_reducible refine hJ hC ?_|(with_reducible refine kK hC ?_;rw[cB])|wp_step)
 exact wpAny_raiseNew_none hh hE
def GD(Fn:u8 Bn newId z9 bmN)(hBn:bmB.contains (.type Bn)=Db)(F:u8 B nid Zj bmB){mN:QQZ}{fI:Uf}{x:Str}{np YT pos:Pos}{args:T0 zn}{Q:Flow->Sd->Prop} (Y0:bm.contains (.type "BaseException")=Db) (hh:A.handled=Fa) (Y8:(sB YT (Tl args env)).any (·.1)=pc) (hi:mN "__init__"=ga (.ref fI)) (h:pi (Tk prog w) A (wp (.Name x np) env) (λf s₁=>f=.ref C/\pi (Tk prog w) A (evalArgs (.ref C) Db (sB YT (Tl args env)) []) (λa s₂=>a.kw=[]/\a.pos.length<=Ch/\s₂.heap.get? C=ga (XXb nm q C N bs bm hdct sn sub ab col dd k0 k1 k2 k3 k5 newId)/\s₂.heap.Ns N mN/\OwnTail s₂.heap bmB bm/\(∃oI,s₂.heap.get? fI=ga oI/\oI.cls=.type "function")/\
    ∀h' e,Heap.MadeExcOf s₂.heap h' e (.ref C) a.pos->pi (Tk prog w) (A.under (.builtin "type.__call__" ⟨.ref C::a.pos,[]⟩)) (call (.ref fI) (.ref e::a.pos))
     (λr s'=>r=.none/\∃dx,s'.heap.get? C=ga (XXb nm q C N bs bm hdct sn sub ab col dd k0 k1 k2 k3 k5 newId)/\J4 s'.heap e C dx/\E (.ref e) s') E {s₂ with heap:=h'}) E s₁) E s):
  pi (Tk prog w) A (exec (.Raise (ga (.Call (.Name x np) args [] YT)) Fa pos) env) Q E s:=by
 rw[arm_exec_Raise];refine cU (ik (GE (C:=C) (nm:=nm) (q:=q) (N:=N) (bs:=bs) (bm:=bm) (hdct:=hdct) (sn:=sn) (sub:=sub) (ab:=ab) (col:=col) (dd:=dd) (k0:=k0) (k1:=k1) (k2:=k2) (k3:=k3) (k5:=k5) (newId:=newId) Y0 hh ?_));refine cU (eh (wpAny_Call_ofName (eh h (λf s₁ ⟨ef,h₁⟩=>?_) λ_ _ z=>z)) (λv s₃ h₃=>cU (ik (dh h₃))) λ_ _ z=>z);subst ef;unfold XXh;refine cU (eW (eh h₁ (λa s₂ h₂=>cU (ik ?_)) λ_ _ z=>z));obtain⟨YO,akw⟩:=a;obtain⟨hkw,YS,hC,hn,T,⟨oI,hf,hfc⟩,h₂⟩:=h₂;obtain rfl:akw=[]:=hkw;obtain⟨hp,g,d,tk,os⟩:=s₂;simp only[Y8];refine cU (wpAny_keeperOf_exc hC (cU (II Fn hBn F T hC hn hi hf hfc YS λh' e hm=>eh (h₂ h' e hm) (λr s' ⟨z,dx,c1,c2,c3⟩=>⟨z,cU (eW (wpAny_point (dh ⟨e,dx,Z',c1,c2,c3⟩)))⟩) λ_ _ z=>z)))
end
def x0(a C:Uf)(h:Go):Prop:=J4 h a C Fa
def x1(a C d:Uf)(h:Go):Prop:=J4 h a C (ga d)
structure zi(K:qE)(C:Uf)(f:Str):Prop where
 sa:W.findIn K (.ref C) "__setattr__"=ga (ga (.builtin "object.__setattr__"))
 cd:∃cd own,W.clsIn K C=ga cd/\cd.mro=List.map Value.ref own++Mq/\cd.hasDict=Db
 tk:W.takerIn K C f=ga Fa
variable {X:Cx}{YL:T0 (Uf × Obj)}{Y σ':St}{H H1:Hp}{s1:Sd}{a:Uf}
section
variable {f:Str}
def Ha{A:Ar}{E:QQX}{Q:Unit->Sd->Prop}(I:Inv X YL Y H s)(e:H a=ga (.ext (x0 a C)))(ry:rj y u)(st:zi X.K C f)(h:∀d s',H d=Fa->d≠a->Inv X YL Y (upd (upd H a (.ext (x1 a C d))) d (.ext (Re d f y))) s'->Q () s'):pi (Tk X.prog X.w) A (setAttr (.ref a) f u) Q E s:=by obtain⟨⟨t,sl,ho⟩,_,_⟩:=I.mR a _ e;obtain⟨cd,own,c1,c2,c3⟩:=st.cd;refine Ro I.nE ⟨ho,Z',Z',trivial⟩ st.sa c1 c2 st.tk c3 λh' d tk k1 k2 dn da n1=>h d _ (Al I.mR dn) da ?_;have I2:=I.write (t':=tk) (x:=a) (e:=a) (o:=.ext (x1 a C d)) (by rw[e];exact True.intro) (.inl Z') k1 ⟨_,k2⟩ ⟨⟨t,sl,k2⟩,⟨_,k2⟩,λh1 h2 ⟨t',sl',z⟩ kk=>⟨t',sl',kk _ z⟩⟩;refine I2.adopt I dn (by rw[qo da];exact Al I.mR dn) ⟨⟨u,n1,ry⟩,?_,λh1 h2 ⟨u,n,r⟩ kk=>⟨u,n.at kk,r⟩⟩;obtain⟨o,_,_,z,_⟩:=n1;exact⟨o,z⟩
def Inv.drop{φ:Go->Prop}(I:Inv X YL Y H s)(ea:H a=ga (.ext φ)):Inv X YL Y (λb=>if b=a then Fa else H b) s:=by
 have less:∀b,H b=Fa->(if b=a then Fa else H b)=Fa:=λb e=>by split<;>first|rfl|exact e
 have keep:∀b o,H b=ga o->(∀φ,o≠.ext φ)->(if b=a then Fa else H b)=ga o:=λb o e n=>by
  rw[cY]
  .exact e
  .intro z;rw[z,ea]at e;exact n φ (df e).symm
 refine⟨I.ok,I.os,I.bare,⟨I.base.keep,I.base.slot,λb o e h0 hb=>less b (I.base.free b o e h0 hb),I.base.there,λb xs e=>keep b _ (I.base.nF b xs e) (λ_ z=>nomatch z),λb o u e=>keep b _ (I.base.nB b o u e) (λ_ z=>nomatch z),λb ps e=>?_⟩,I.loc,I.cell,less _ I.free,λx c e=>less _ (I.mY x c e),λp hp=>⟨(I.pin p hp).1,less _ (I.pin p hp).2.1,(I.pin p hp).2.2⟩,λb ob e=>?_,I.len⟩
 .obtain⟨more,z⟩:=I.base.nL b ps e;exact⟨more,keep b _ z (λ_ z=>nomatch z)⟩
 .have e':H b=ga ob:=by
   by_cases z:b=a
   .rw[de z]at e;cases e
   .rw[cY z]at e;exact e
  exact(I.mR b ob e').nu (λ_ _ _ q=>q) (λb' q=>keep b' _ q (λ_ z=>nomatch z)) λb' xs q=>keep b' _ q (λ_ z=>nomatch z)
end
def Ol(K:qE)(ta tv:TE)(f:Str):TS:=λD Y H=>tv Y H λy H1=>ta Y H1 λx H2=>∃a C,x=.ref a/\H2 a=ga (.ext (x0 a C))/\zi K C f/\∀d,H2 d=Fa->d≠a->D.nx Y (upd (upd H2 a (.ext (x1 a C d))) d (.ext (Re d f y)))
def Qv{f:Str}{pos YW:Pos}{ta tv:TE}(ha:PE X o ta)(hv:PE X value tv)(hs:sK value (ga (.Attribute o f YW)) pos.line X.env=pure pc:=by rfl):PS X (.Assign [.Attribute o f YW] value pos) (Ol X.K ta tv f):=by intro YL s Y H D I h;refine iR (tj (hv YL s Y H _ I h) λu s1 zz=>x5 zz λy H1 I1 ry q=>tj (ha YL s1 Y H1 _ I1 q) λov s2 zz=>?_) hs;obtain⟨x,H2,I2,rx,a,C,ex,ea,st,q2⟩:=zz;subst ex;obtain rfl:ov=Value.ref a:=rx;exact Ha I2 ea ry st λd s3 dn da I3=>⟨Y,_,I3,q2 d dn da⟩
def xc(K:qE)(f:Str):Sp:=λvs H Q _=>Ed λe C y=>vs=[.ref e,y]/\H e=ga (.ext (x0 e C))/\zi K C f/\∀d,H d=Fa->d≠e->Q .mM (upd (upd H e (.ext (x1 e C d))) d (.ext (Re d f y)))
variable {qual:Str}{scope:XXd}{outer:T0 Env}{s0:Sd}{H0:Hp}{P:Pg}{mg:QQZ}{base:Go}
section
def MK{x qual y1 y2 fl:Str}{st:TD}(F:QL K x qual st f fd)(S:tS [y1,y2] [y1,y2] (qx st)) (hb:∀(YX:Vl) (A:Ar) (outer:T0 Env) (s:Sd) (H:Hp) (E:XK),Dh (vS (BE P w) P w K mg base [y1,y2] qual (qx st) f YX A outer s H E) (sy st) (Ol K (Jy 0) (Jy 1) fl)):xS P w K mg base (BE P w) 1 f fd [y1,y2] (xc K fl):=by
 obtain⟨oc,od,kV,Zp,pm,an,YX,ct,ZL,rfl,lk,Z3⟩:=F.ex;refine Ng lk Z3 S (λvs H Q E h=>?_) λA outer s H vs Q' E hr h=>⟨_,hb YX A outer s H E,?_⟩
 .obtain⟨e,C,y,rfl,_⟩:=h;rfl
 .obtain⟨e,C,y,rfl,h1,h2,q⟩:=h;exact⟨y,Z',.ref e,Z',e,C,Z',h1,h2,q⟩
def J6(K:qE)(C fI:Uf):Prop:=
 ∃nm q N bs bm bmB hdct sn sub ab col dd k0 k1 k2 k3 k5,∃B Bn newId nid Zj z9:String,∃bmN,∃mN:QQZ,u8 Bn newId z9 bmN/\bmB.contains (Value.type Bn)=Db/\u8 B nid Zj bmB/\bm.contains (Value.type "BaseException")=Db/\mN "__init__"=ga (.ref fI)/\
  ∀h:Go,K.In h->h.get? C=ga (XXb nm q C N bs bm hdct sn sub ab col dd k0 k1 k2 k3 k5 newId)/\h.Ns N mN/\OwnTail h bmB bm/\∃oI,h.get? fI=ga oI/\oI.cls=.type "function"
variable {N:QQQ}{f:Uf}{cd:Vl}{E:XK}
def L7{X:Cx}(hX:X=vS (BE P w) P w K mg base N qual scope f cd A outer s0 H0 E){C fI:Uf}{fdI:Ix}{ps:QQQ}{fl:Str}{k:Nat}{x:Str}{np YT pos:Pos}{e:zn}{ta:TA}(hC:J6 X.K C fI)(F:xS X.prog X.w X.K X.mg X.base (BE X.prog X.w) k fI fdI ps (xc X.K fl))(hr:sG (k+1) X.A)(hb:vc X.K fdI ps [])(st:zi X.K C fl) (hg:Gl X x) (hm:X.mg x=ga (.ref C)) (ha:PA X [e] ta) (hs:Tl [e] X.env=[(pc,wp e X.env)]:=by rfl) (Y7:Ab x:=by decide):
  PS X (.Raise (ga (.Call (.Name x np) [e] [] YT)) Fa pos) (λ_ Y H=>ta Y H λvs H1=>∃y,vs=[y]/\∀d,H1 d=Fa->E (.ref C) (ga d) (upd H1 d (.ext (Re d fl y)))):=by
 intro YL s Y H D I h;obtain⟨nm,q,N',bs,bm,bmB,hdct,sn,sub,ab,col,dd,k0,k1,k2,k3,k5,B,Bn,newId,nid,Zj,z9,bmN,mN,f1,f2,f3,f4,f5,hin⟩:=hC;have hcalm:X.A.handled=Fa:=I.ok.hd (by rw[hX];rfl);refine GD (nm:=nm) (q:=q) (N:=N') (bs:=bs) (hdct:=hdct) (sn:=sn) (sub:=sub) (ab:=ab) (col:=col) (dd:=dd) (k0:=k0) (k1:=k1) (k2:=k2) (k3:=k3) (k5:=k5) f1 f2 f3 f4 hcalm (by rw[hs];rfl) f5 (xq I hg hm ⟨Z',?_⟩ Y7);rw[hs];refine evalArgs_kwB Z' ?_;have ha':=ha YT YL s Y H _ I h;rw[hs]at ha';refine tj ha' λus s1 zz=>?_;obtain⟨vs,H1,I1,r1,y,ey,q1⟩:=zz;subst ey;obtain⟨u,rfl,ru⟩:=yZ r1;refine wpAny_evalAll_nil ?_;obtain⟨c1,c2,c3,c4⟩:=hin s1.heap I1.nE;refine⟨Z',by show 1<=Ch;rw[dM];decide,c1,c2,c3,c4,λh' e' md=>?_⟩;obtain⟨mk,mn,t,mt,_⟩:=md;have hn:H1 e'=Fa:=Al I1.mR mn;have I2:Inv X YL Y H1 {s1 with heap:=h'}:=I1.kept (t':=s1.toks) mk;have I3:Inv X YL Y (upd H1 e' (.ext (x0 e' C))) {s1 with heap:=h'}:=I2.adopt I1 mn hn ⟨⟨t,_,mt⟩,⟨_,mt⟩,λh1 h2 ⟨t',sl',z⟩ kk=>⟨t',sl',kk _ z⟩⟩;have r2:qK [V.ref e',y] [Value.ref e',u]:=.cons Z' (.cons ru .nil);have hsp:xc X.K fl [V.ref e',y] (upd H1 e' (.ext (x0 e' C))) (λv H2=>v=.mM/\∃d,d≠e'/\H1 d=Fa/\H2=upd (upd H1 e' (.ext (x1 e' C d))) d (.ext (Re d fl y))) (λ_ _ _=>False):=⟨e',C,y,Z',qz,st,λd dn da=>⟨Z',d,da,by rw[qo da]at dn;exact dn,by rw[PL]⟩⟩;have hl:([Value.ref e',u]:T0 Vl).length=ps.length:=by rw[<-r2.length];exact F.len _ _ _ _ hsp
 refine iS (gL (F.run _ X.stack _ _ ⟨[Value.ref e',u],[]⟩ [Value.ref e',u] _ _ _ (hr.make C [u] []) (I3.oo.make C [u] []) (hb _ [Value.ref e',u] I3.nE hl) r2 hsp) λr s' hq'=>?_);cases r with
 | error ev=>obtain⟨_,_,_,_,_,_,z,_⟩:=hq';exact z.elim
 | ok fw=>
  cases fw with
  | ret uv=>
   obtain⟨v,H',I4,rv,ev,d,da,dn,eH⟩:=I3.after hq';subst ev eH;obtain⟨⟨t',sl',md⟩,_,_⟩:=I4.mR e' _ (by rw[qo (dW da)];exact qz);have I5:Inv X YL Y (upd H1 d (.ext (Re d fl y))) _:=(funext λb=>by
    by_cases z:b=e'
    .subst z;rw[de Z',qo (dW da),hn]
    .rw[cY z];by_cases z2:b=d
     .subst z2;rw[qz,qz]
     .rw[qo z2,qo z2,qo z]:(λb=>if b=e' then Fa else upd (upd H1 e' (.ext (x1 e' C d))) d (.ext (Re d fl y)) b)=upd H1 d (.ext (Re d fl y))) ▸ I4.drop (a:=e') (φ:=x1 e' C d) (by rw[qo (dW da)];exact qz)
   refine⟨rv,ga d,(hin s'.heap I4.nE).1,⟨t',sl',md⟩,?_⟩;subst hX;have Zg:Un (xb outer) [] H0 H1 s0.heap s1.heap:=I1.base;exact VB I5 (tb:=none) ⟨_,_,md,Z',Z',Z',(by show 1<6;decide),Z',λT z=>by cases z⟩ (Ia Zg Z' mn) (λT z=>by cases z) (by rw[qo (dW da)];exact hn) (q1 d dn)
  | next=>exact False.elim hq'
  | brk=>exact False.elim hq'
  | cont=>exact False.elim hq'
end
end L2
namespace L3
open L2
variable {P:Pg}{w:Wo}{K:qE}{mg:QQZ}{base:Go}{N:QQQ}{qual:Str}{scope:XXd}{f:Uf}{cd:Vl}{A:Ar}{outer:T0 Env}{s0:Sd}{H0:Hp}{E:XK}{x:Str}{np YT pos:Pos}{e:zn}{C fI:Uf}{fdI:Ix}{ps:QQQ}{fl:Str}{k:Nat}{R:XR}{ta:xt}
def RP(C:Uf)(R:XR)(f:Str)(ta:xt):xU:=λ_ U M=>ta U M λds M1=>∃z,ds=[z]/\R C (ga (f,z)) M1
def Ls(hC:J6 K C fI)(F:xS P w K mg base (BE P w) k fI fdI ps (xc K fl))(hr:sG (k+1) (vS (BE P w) P w K mg base N qual scope f cd A outer s0 H0 E).A)(hb:vc K fdI ps [])(st:zi K C fl)(_:W.findIn K (.ref C) "__init__"=ga (ga (.ref fI)))(hg:Gl (vS (BE P w) P w K mg base N qual scope f cd A outer s0 H0 E) x)(hm:mg x=ga (.ref C))(hR:SO K R E)(ha:A3 (vS (BE P w) P w K mg base N qual scope f cd A outer s0 H0 E) [e] ta) (hs:Tl [e] (vS (BE P w) P w K mg base N qual scope f cd A outer s0 H0 E).env=[(pc,wp e (vS (BE P w) P w K mg base N qual scope f cd A outer s0 H0 E).env)]:=by rfl) (Y7:Ab x:=by decide):
  S3 (vS (BE P w) P w K mg base N qual scope f cd A outer s0 H0 E) (.Raise (ga (.Call (.Name x np) [e] [] YT)) Fa pos) (RP C R fl ta):=
 PS.mono (L7 Z' hC F hr hb st hg hm ha hs Y7) λD' Y H ⟨U,M,D,hs,hm,ht,_⟩=>⟨U,M,_,hs,hm,ht,λvs H1 ds M1 hd YN e1 q1=>by
  obtain⟨z,rfl,r⟩:=q1;obtain⟨v,rfl,hv⟩:=sU hd;exact⟨v,Z',λd dn=>hR C (ga d) _ M1 _ (YN.add dn) (.inr ⟨d,fl,z,v,Z',Z',qz,hv.mono (.new dn)⟩) r⟩⟩
variable {X:Cx}{b₀:TD}{ZA:T0 TD}{cn:Str}{cnp hpos epos:Pos}{Cc L:Uf}{te:Wk}{th:xU}
end L3
namespace L2
def Pf{K:qE}{C C2 N fI:Uf}{nm q:Str}{bs sub:T0 Vl}{hdct ab:Bool}{sn:QQQ}{col:Option Bool}{dd od1 od2 dd2:Option Uf}{k0 k1 k2 k3 k5:Option Vl}{oc1 oc2 c0:Vl}{es1 es2:Array DictEntry}{ep1 ep2:Nat}{sl1 sl2 XY:Array (Option Vl)}{cd2:ClassData}{oI:Obj} (l1:K.lookup C=ga (XXb nm q C N bs (.ref C2::Mq) hdct sn sub ab col dd k0 k1 k2 k3 k5 "ValueError.__new__")) (n1:K.lookup N=ga ⟨oc1,od1,.dict es1 ep1,sl1⟩) (s1:Cq es1=Db) (i1:nsFind es1 "__init__"=ga (.ref fI)) (l2:K.lookup C2=ga ⟨c0,dd2,.cls cd2,XY⟩) (n2:K.lookup cd2.ns=ga ⟨oc2,od2,.dict es2 ep2,sl2⟩) (s2:Cq es2=Db) (i2:nsFind es2 "__init__"=Fa) (l3:K.lookup fI=ga oI) (hf:W.isFn K (.ref fI)=Db):J6 K C fI:=by
 have hc:oI.cls=.type "function":=by have hf:=eP.mp hf;unfold W.typeIn at hf;simp only at hf;rw[l3]at hf;exact df hf
 refine⟨nm,q,N,bs,.ref C2::Mq,Mq,hdct,sn,sub,ab,col,dd,k0,k1,k2,k3,k5,"ValueError","ValueError","ValueError.__new__","ValueError.__new__","ValueError.__init__","ValueError.__init__",Mq,λn=>nsFind es1 n,kz,by decide+kernel,kz,?_,i1,λh X=>⟨X C _ l1,⟨_,es1,ep1,X N _ n1,Z',Do s1,λ_=>rfl⟩,.own (X C2 _ l2) ⟨_,es2,ep2,X _ _ n2,Z',Do s2,λ_=>rfl⟩ i2 .base,oI,X fI _ l3,hc⟩⟩;rw[iE];have:Mq.contains (.type "BaseException")=Db:=by decide+kernel
 rw[this,jQ]
def LJ{K:qE}{C C2 N:Uf}{nm q f:Str}{bs sub:T0 Vl}{ab:Bool}{sn:QQQ}{col:Option Bool}{dd:Option Uf}{k0 k1 k2 k3 k5:Option Vl}(l1:K.lookup C=ga (XXb nm q C N bs (.ref C2::Mq) Db sn sub ab col dd k0 k1 k2 k3 k5 "ValueError.__new__"))(sa:W.findIn K (.ref C) "__setattr__"=ga (ga (.builtin "object.__setattr__")))(tk:W.findIn K (.ref C) f=ga Fa):zi K C f:=by refine⟨sa,⟨_,[C,C2],by unfold W.clsIn;rw[l1],Z',Z'⟩,?_⟩;unfold W.takerIn;rw[tk];rfl
end L2
namespace L3
open L2
variable {X:Cx}{pos YO:Pos}{o e:zn}{es:T0 zn}{ta:T3}{t:xt}
structure FA where
 f:Uf
 d:Ix
 p:QQQ
structure DG(K:qE)(st:TD)(py qual:Str)(ps:QQQ)(x:FA):Prop where
 pe:x.p=ps
 fn:QL K py qual st x.f x.d
 b:vc K x.d x.p []
 ty:W.isFn K (.ref x.f)=Db
structure TG(K:qE)(mg:QQZ)(st:TD)(py:Str)(ps:QQQ)(x:FA):Prop extends DG K st py py ps x where
 mg:mg py=ga (.ref x.f)
structure MG(K:qE)(C:Uf)(st:TD)(py qual:Str)(ps:QQQ)(x:FA):Prop extends DG K st py qual ps x where
 at_:W.findIn K (.ref C) py=ga (ga (.ref x.f))
structure CG(K:qE)(mg:QQZ)(nm:Str)(C:Uf):Prop extends Cls K C where
 mg:mg nm=ga (.ref C)
def DG.kp{K:qE}{st:TD}{x:FA}(h:DG K st py qual ps x):W.keepIn K (.ref x.f)=Db:=h.fn.kp
def MG.ni{K:qE}{st:TD}{x:FA}(h:MG K C st py qual ps x):wj K C py x.f:=⟨h.at_,h.ty,h.toDG.kp⟩
def zM(K:qE)(C:Uf)(fs:QQQ):Prop:=∀f,fs.contains f=Db->uL K C f
def ud{K:qE}:zM K C []:=λf h=>by simp at h
def qb{K:qE}{C:Uf}{g:Str}(h:W.findIn K (.ref C) g=ga Fa)(r:zM K C fs):zM K C (g::fs):=λf q=>by
 rw[iE,gj]at q;rcases q with q|q
 .rw[xz q];exact h
 .exact r f q
abbrev Fq(P:Pg)(w:Wo)(K:qE)(mg:QQZ)(base:Go)(k:Nat)(x:FA)(sp:rH):Prop:=Vh P w K mg base k x.f x.d x.p sp
abbrev Xr(P:Pg)(w:Wo)(K:qE)(mg:QQZ)(base:Go)(k:Nat)(x:FA)(sp:ET):Prop:=QM P w K mg base k x.f x.d x.p sp
noncomputable def T6(N P:QQQ)(sc:XXd):Bool:=sc.kind==.function&&(!sc.isCoroutine&&(!sc.isGenerator&&(decide N.Nodup&&(decide (N.take P.length=P)&&((P.all λx=>sc.names.lookup x==ga .local||sc.names.lookup x==ga .cell)&&sc.names.all λy=>!(y.2==.free))))))
def Yy{N P:QQQ}(h:T6 N P sc=Db):tS N P sc:=by
 unfold T6 at h;simp only[dU,gI,eP,eA]at h;obtain⟨h1,h2,h3,h4,h5,h6,h7⟩:=h;refine⟨h1,h2,h3,h4,h5,λx hx=>?_,λy hy e=>?_⟩
 .have:=eD.mp h6 x hx
  simpa using this
 .have:=eD.mp h7 y hy;rw[e]at this;simp at this
variable {P:Pg}{w:Wo}{K:qE}{mg:QQZ}{base:Go}
def XS{st:TD}{sp:rH}(F:DG K st x qual ps fa)(S:tS N ps (qx st))(len:∀ds M Q,sp ds M Q->ds.length=ps.length) (Zb:∀(YX:Vl) (A:Ar) (outer:T0 Env) (s:Sd) (H:Hp) (E:XK),sG k (A.deeper (xL qual (qx st) s.heap.objs.size fa.f YX))->
   ∃t,Ig (vS Py P w K mg base N qual (qx st) fa.f YX A outer s H E).oF (sy st) t/\∀ds M Q,sp ds M Q->t {nx:=λ_ M'=>∃YQ,qN YQ M'/\Q .mM YQ,rt:=λd M'=>∃YQ,qN YQ M'/\Q d YQ} (xA N ds) M):Fq P w K mg base (k+1) fa sp:=by
 unfold Fq;rw[F.pe];exact Wn F.fn S len Zb
def VX{st:TD}{sp:ET}(F:DG K st x qual ps fa)(S:tS N ps (qx st))(len:∀ds M Q R,sp ds M Q R->ds.length=ps.length) (Zb:∀(YX:Vl) (A:Ar) (outer:T0 Env) (s:Sd) (H:Hp) (E:XK) (R:XR),sG k (A.deeper (xL qual (qx st) s.heap.objs.size fa.f YX))->SO K R E->
   ∃t,Ig (vS (BE P w) P w K mg base N qual (qx st) fa.f YX A outer s H E) (sy st) t/\∀ds M Q,sp ds M Q R->t {nx:=λ_ M'=>∃YQ,qN YQ M'/\Q .mM YQ,rt:=λd M'=>∃YQ,qN YQ M'/\Q d YQ} (xA N ds) M):Xr P w K mg base (k+1) fa sp:=by
 unfold Xr;rw[F.pe];exact Vz F.fn S len Zb
variable {k n:Nat}{f C:Uf}{fa:FA}{st:TD}{qual:Str}{ps:QQQ}{sp:rH}{x m:Str}{p:Pos}
def pP(F:Fq X.prog X.w X.K X.mg X.base k fa sp)(hr:sG n X.A)(T:TG X.K X.mg st x ps fa)(ha:A3 X (e::es) t)(hn:k<=n:=by first|decide|lia)(hg:Gl X x:=by rfl)
  (Y7:Ab x:=by decide) (he:Bt X e es:=by rfl) (Y6:C5 X pos es:=by rfl):
  E3 X (.Call (.Name x p) (e::es) [] pos) (EB sp t):=QG F (hr.mono hn) hg T.mg T.toDG.kp T.b ha Y7 he Y6
def uY(F:Fq X.prog X.w X.K X.mg X.base k fa sp)(hr:sG n X.A)(c:CG X.K X.mg x C)(i:Mk X.K C fa.f)(T:DG X.K st m qual ps fa)(ha:A3 X (e::es) t)(hn:k+1<=n:=by first|decide|lia)(hg:Gl X x:=by rfl)
  (Y7:Ab x:=by decide) (he:Bt X e es:=by rfl) (Y6:C5 X pos es:=by rfl):
  E3 X (.Call (.Name x p) (e::es) [] pos) (Si C sp t):=PX c.toCls i F (hr.mono hn) hg c.mg T.b ha Y7 he Y6
def qm{pl:Sem Bool}(he:E3 X o ta)(c:Cls X.K C)(T:MG X.K C st m qual ps fa)(F:Fq X.prog X.w X.K X.mg X.base k fa sp)(hr:sG n X.A)(ha:A3 X (e::es) t)(hn:k<=n:=by first|decide|lia)
  (Zd:Bt X e es:=by rfl) (Y6:C5 X pos es:=by rfl)
  (ht:wp (.Call (.Attribute o m YO) (e::es) [] pos) X.env=(do
   let ov<-wp o X.env
   XXc YO.atName
   let(f,first)<-ZB [ov] (o0 ov m pl)
   XXh pos f first (sB pos (Tl (e::es) X.env)) (IN pos (Ps [] X.env))):=by rfl):
  E3 X (.Call (.Attribute o m YO) (e::es) [] pos) (Bk m (λD s=>D=C/\s=sp) ta t):=
 FW (R:=λD s=>D=C/\s=sp) he (λD s ⟨e1,e2⟩=>by subst e1 e2;exact⟨c,_,_,_,T.ni,F,T.b⟩) (hr.mono hn) ha Zd Y6 ht
def wz{pl:Sem Bool}(he:E3 X o ta)(c:Cls X.K C)(T:MG X.K C st m qual ps fa)(F:Fq X.prog X.w X.K X.mg X.base k fa sp)(hr:sG n X.A)(hn:k<=n:=by first|decide|lia)
  (ht:wp (.Call (.Attribute o m YO) [] [] pos) X.env=(do
   let ov<-wp o X.env
   XXc YO.atName
   let(f,first)<-ZB [ov] (o0 ov m pl)
   XXh pos f first (sB pos (Tl [] X.env)) (IN pos (Ps [] X.env))):=by rfl):
  E3 X (.Call (.Attribute o m YO) [] [] pos) (Bk m (λD s=>D=C/\s=sp) ta ya):=
 Aq (R:=λD s=>D=C/\s=sp) he (λD s ⟨e1,e2⟩=>by subst e1 e2;exact⟨c,_,_,_,T.ni,F,T.b⟩) (hr.mono hn) ht
def zD{pl:Sem Bool}(cm:Nv X.K C m fa.f)(F:Fq X.prog X.w X.K X.mg X.base k fa sp)(hr:sG n X.A)(c:CG X.K X.mg x C)(T:DG X.K st m qual ps fa)(ha:A3 X (e::es) t)(hn:k<=n:=by first|decide|lia)(hg:Gl X x:=by rfl)
  (Y7:Ab x:=by decide) (Zd:Bt X e es:=by rfl) (Y6:C5 X pos es:=by rfl)
  (ht:wp (.Call (.Attribute (.Name x p) m YO) (e::es) [] pos) X.env=(do
   let ov<-wp (.Name x p) X.env
   XXc YO.atName
   let(f,first)<-ZB [ov] (o0 ov m pl)
   XXh pos f first (sB pos (Tl (e::es) X.env)) (IN pos (Ps [] X.env))):=by rfl):
  E3 X (.Call (.Attribute (.Name x p) m YO) (e::es) [] pos) (EB sp t):=Ri cm F (hr.mono hn) hg c.mg T.kp T.b ha Y7 Zd Y6 ht
variable {h:Go}{py:Str}{od an:Option Uf}{sl:Array (Option Vl)}{kv dc pm cd ct:Vl}
def KL{fd:Ix}{oc:Vl}(l:K.lookup f=ga ⟨oc,od,.func fd,sl⟩):W.keepIn K (.ref f)=Db:=by unfold W.keepIn;simp only;rw[l]
def PZ{fd:Ix}(l:K.lookup f=ga ⟨.type "function",od,.func fd,sl⟩):W.isFn K (.ref f)=Db:=by unfold W.isFn W.typeIn;simp only;rw[l];rfl
abbrev m9(py qual:Str)(st:TD)(ps:QQQ):Prop:=∀(kV Zp pm:Vl) (an:Option Uf) (YX ct:Vl) (us:T0 Vl),us.length=ps.length->bindArgs (W.fnOf py qual (uU st) (sy st) (qx st) .none kV Zp pm an YX ct) ⟨us,[]⟩=pure (ps.zip us)
def SB(l:K.lookup f=ga ⟨.type "function",od,.func (W.fnOf py qual (uU st) (sy st) (qx st) .none kv dc pm an cd ct),sl⟩)(k:W.codeIn K cd qual=Db)(hb:m9 py qual st ps):
  DG K st py qual ps ⟨f,W.fnOf py qual (uU st) (sy st) (qx st) .none kv dc pm an cd ct,ps⟩:=⟨Z',MW l k (KL l),(MW l k (KL l)).binds hb,PZ l⟩
def qB(X:K.In h)(G:h.Ns At mg)(a:W.nsIn K At py=ga (ga (.ref f)))(l:K.lookup f=ga ⟨.type "function",od,.func (W.fnOf py py (uU st) (sy st) (qx st) .none kv dc pm an cd ct),sl⟩)(k:W.codeIn K cd py=Db)(hb:m9 py py st ps):
  TG K mg st py ps ⟨f,W.fnOf py py (uU st) (sy st) (qx st) .none kv dc pm an cd ct,ps⟩:=⟨SB l k hb,W.mg_of X G a⟩
def qr(a:W.findIn K (.ref C) py=ga (ga (.ref f)))(l:K.lookup f=ga ⟨.type "function",od,.func (W.fnOf py qual (uU st) (sy st) (qx st) .none kv dc pm an cd ct),sl⟩)(k:W.codeIn K cd qual=Db)(hb:m9 py qual st ps):
  MG K C st py qual ps ⟨f,W.fnOf py qual (uU st) (sy st) (qx st) .none kv dc pm an cd ct,ps⟩:=⟨SB l k hb,a⟩
def xf(X:K.In h)(G:h.Ns At mg)(a:W.nsIn K At py=ga (ga (.ref C)))(h1:W.plainGet K C Str.empty=Db)(h2:W.hasDictIn K C=Db)(h3:W.plainOver K C=Db)(h4:W.findIn K (.ref C) "__setattr__"=ga (ga (.builtin "object.__setattr__"))):CG K mg py C:=⟨⟨h1,h2,h3,h4⟩,W.mg_of X G a⟩
def R1{x:Str}{a:Uf}{es:T0 DictEntry}{ep:Nat}(h:mg x=ga (.ref a))(s:(a==TW)=pc)(l:K.lookup a=ga ⟨.type "dict",Fa,.dict es.toArray ep,#[]⟩) (r:KTD.Rows (λ(ss:QQQ) v=>∃t,v=Value.ref t/\wg K (λ_=>Fa) t (ss.map V.str)) es T):Pe K mg x T:=⟨a,_,_,_,h,s,l,⟨Z',Z',Z'⟩,Z',by simpa using r⟩
def Nc{x qual y1 y2 fl:Str}{st:TD}(F:DG K st x qual [y1,y2] fa)(S:tS [y1,y2] [y1,y2] (qx st)) (hb:∀(YX:Vl) (A:Ar) (outer:T0 Env) (s:Sd) (H:Hp) (E:XK),Dh (vS (BE P w) P w K mg base [y1,y2] qual (qx st) fa.f YX A outer s H E) (sy st) (Ol K (Jy 0) (Jy 1) fl)):xS P w K mg base (BE P w) 1 fa.f fa.d fa.p (xc K fl):=by
 rw[F.pe];exact MK F.fn S hb
def Wz(ds:T0 D)(M:Mp)(Q:DK):Prop:=match ds with
 | [.ref a]=>(oP M a).elim False λes=>(G2 es).elim False λbs=>Q (.bl (bs.any id)) M
 | _=>False
def TV(hc:X.calm=Db):C3 X (.builtin "any") Wz:=by
 intro YL s Y H vs us Q' I rv h;obtain⟨ds,M,Q,hd,hm,q,k⟩:=h;unfold Wz at q;split at q
 .rename_i a;obtain⟨v,rfl,hv⟩:=sU hd;obtain⟨es,e0,q⟩:=rE q;obtain⟨bs,e1,q⟩:=rE q;cases hv.mI;obtain⟨u,rfl,ru⟩:=yZ rv;cases ru;obtain⟨xs,h1,h2,_⟩:=qp hm e0;obtain⟨its,r,pl,hz⟩:=I.list h1;have eits:=Gn e1 h2 r;subst eits;have Ze:a≠s.heap.objs.size:=by obtain⟨o,_,e,_⟩:=pl;exact dN (dB e)
  refine call_any_walk (g9 pl.isList ?_);refine⟨s.heap.objs.size,_,_,_,_,_,λi=>(bs[i]?).getD pc,Z',ku (A:=X.A.in1) (I.ok.hd hc) _ a Ze (bs.map Value.bool).toArray,⟨⟨_,dJ _ Z',Z',Z'⟩,?_⟩,λi v s' Q E hP hQ=>?_,λh' tk hk=>?_⟩
  .obtain⟨o,n,e,c,d,q⟩:=pl;exact⟨o,c9 _ e,c,n,q⟩
  .simp only[iQ,dv]at hP;cases e2:bs[i]? with
   | none=>rw[e2]at hP;cases hP
   | some b=>rw[e2]at hP;cases hP;have hQ:Q ((bs[i]?).getD pc) s':=hQ;rw[e2]at hQ;exact fk hQ
  .have ea:(List.range (bs.map Value.bool).toArray.size).any (λi=>(bs[i]?).getD pc)=bs.any id:=by
    rw[dw,cT];rw[fM,fF,fF];constructor
    .rintro ⟨i,hi,z⟩
     have hi':=e9.mp hi;rw[cV hi']at z;exact⟨_,gy hi',z⟩
    .rintro ⟨b,hb,z⟩
     obtain⟨i,hi,e⟩:=gP hb;refine⟨i,e9.mpr hi,?_⟩;rw[cV hi,e];exact z
   rw[ea];refine⟨.bl (bs.any id),H,?_,Z',k _ _ _ _ .bl hm .refl q⟩;exact I.kept (h':=h') (t':=tk) λb o e=>hk b o (by simpa using dN (dB e)) (c9 _ e)
 .exact q.elim
def TH:No "any"=ga (.builtin "any"):=by decide+kernel
end L3
namespace L3
open L2
def Ld(i:Nat){X:Cx}{pos:Pos}{x:Str}(h1:X.N[i]?=ga x:=by rfl)(h2:Wa X.env.scope x:=by first|exact Or.inl Z'|exact Or.inr (Or.inl Z')|exact Or.inr (Or.inr Z'))(h3:Ab x:=by decide)(h4:(x==("__classdict__":Str))=pc:=by decide):E3 X (.Name x pos) (v3 i):=SX i (pv i h1 h2 h3 h4)
variable {X:Cx}{pos:Pos}
def Yu{N:QQQ}(h:decide N.Nodup=Db):N.Nodup:=fT h
def pW(i:Nat){x:Str}{e:zn}{te:T3}{YW:Pos}{ps:QQQ}{sc:XXd}(S:tS X.N ps sc)(he:E3 X e te)(hi:X.N[i]?=ga x:=by rfl)(hx:Ma X.env.scope x:=by first|exact Or.inl Z'|exact Or.inr Z')(ZF:sK e (ga (.Name x YW)) pos.line X.env=pure pc:=by rfl)(hf:L9 X x:=by first|exact .inl Z'|exact .inr Z'|assumption):S3 X (.Assign [.Name x YW] e pos) (HD te (rh i)):=TM S.nd hi hx he ZF hf
def sF(i:Nat){x:Str}{ps:QQQ}{sc:XXd}(S:tS X.N ps sc)(hi:X.N[i]?=ga x:=by rfl)(hx:Ma X.env.scope x:=by first|exact Or.inl Z'|exact Or.inr Z')(hf:L9 X x:=by first|exact .inl Z'|exact .inr Z'|assumption):G3 X (.Name x pos) (rh i):=Kz S.nd hi hx hf
def qD(i:Nat){x:Str}(hN:decide X.N.Nodup=Db:=by kernel_rfl)(hi:X.N[i]?=ga x:=by rfl)(hx:Ma X.env.scope x:=by first|exact Or.inl Z'|exact Or.inr Z')(hf:L9 X x:=by first|exact .inl Z'|exact .inr Z'|assumption):G3 X (.Name x pos) (rh i):=Kz (Yu hN) hi hx hf
abbrev Sc(n:Nat)(N:QQQ)(s:TD):=tS N (N.take n) (qx s)
def sk{n:Nat}{s:TD}(h:T6 N (N.take n) (qx s)=Db:=by decide+kernel):Sc n N s:=Yy h
def qv(h0:E3 X e0 t0)(g0:Tl [e0] X.env=(pc,wp e0 X.env)::Tl [] X.env:=by rfl):A3 X [e0] (vT t0 ya):=(qh h0 sE g0)
def so(h0:E3 X e0 t0)(h1:E3 X e1 t1)(g0:Tl [e0,e1] X.env=(pc,wp e0 X.env)::Tl [e1] X.env:=by rfl)(g1:Tl [e1] X.env=(pc,wp e1 X.env)::Tl [] X.env:=by rfl):A3 X [e0,e1] (vT t0 (vT t1 ya)):=(qh h0 (qh h1 sE g1) g0)
def rG(h0:E3 X e0 t0)(h1:E3 X e1 t1)(h2:E3 X e2 t2)(g0:Tl [e0,e1,e2] X.env=(pc,wp e0 X.env)::Tl [e1,e2] X.env:=by rfl)(g1:Tl [e1,e2] X.env=(pc,wp e1 X.env)::Tl [e2] X.env:=by rfl)(g2:Tl [e2] X.env=(pc,wp e2 X.env)::Tl [] X.env:=by rfl):A3 X [e0,e1,e2] (vT t0 (vT t1 (vT t2 ya))):=(qh h0 (qh h1 (qh h2 sE g2) g1) g0)
abbrev v0:=@Ld 0
abbrev Y1:=@Ld 1
abbrev Y2:=@Ld 2
abbrev Y3:=@Ld 3
abbrev v5:=@Ld 5
abbrev v4:=@Ld 4
abbrev v6:=@Ld 6
abbrev v7:=@Ld 7
abbrev v8:=@Ld 8
abbrev v9:=@Ld 9
abbrev YH:=@Ld 10
abbrev YG:=@Ld 11
abbrev Yx:=@Ld 12
variable {P:Pg}{w:Wo}{K:qE}{mg:QQZ}{base:Go}
def fq{st:TD}{sp:rH}(F:DG K st x qual ps fa)(S:tS N ps (qx st)) (hb:∀{YX:Vl} {A:Ar} {outer:T0 Env} {s:Sd} {H:Hp} {E:XK},sG k (A.deeper (xL qual (qx st) s.heap.objs.size fa.f YX))->(A.deeper (xL qual (qx st) s.heap.objs.size fa.f YX)).units+9<XXa->
   ∃t,Ig (vS Py P w K mg base N qual (qx st) fa.f YX A outer s H E).oF (sy st) t/\∀ds M Q,sp ds M Q->t {nx:=λ_ M'=>∃YQ,qN YQ M'/\Q .mM YQ,rt:=λd M'=>∃YQ,qN YQ M'/\Q d YQ} (xA N ds) M) (len:∀ds M Q,sp ds M Q->ds.length=ps.length:=by walk_at "l"):Fq P w K mg base (k+1) fa sp:=XS F S len λ_ _ _ _ _ _ h=>hb h (Yn h)
def xN{X:Cx}(h:Ja X.env.scope X.N scope ix N'=Db:=by kernel_rfl):sO X scope ix N':=Wu h
end L3
namespace Z
section
open L2 L3
def tL{M:L3.Mp}{x:PySem.Addr}{ds:T0 L3.D}(h:M x=Fa):∃M',M'=L3.pQ M x (.lst ds)/\qN M M'/\L3.oP M' x=ga ds:=⟨_,Z',qN.new h,L3.pU⟩
def rA(i:Nat):TD:=PySem.Challenge.pw_callboard_k69_whole_what_if_both_ways.main.body.getD i (.Pass ⟨0,0,0,0⟩)
abbrev tm(i j:Nat):TD:=Qj (rA i) j
def AV:Sc 1 ["answers"] (rA 1):=sk
def G0:Sc 2 ["call","word"] (rA 3):=sk
def DW:Sc 2 ["call","phone"] (rA 4):=sk
def yb:Sc 2 ["call","event","word"] (rA 5):=sk
def xM:Sc 1 ["call","lists"] (rA 7):=sk
def Cz:Sc 1 ["board","calls"] (rA 8):=sk
def B7:Sc 3 ["board","caller","target","wishes"] (rA 14):=sk
def ua:Sc 3 ["board","caller","target","free","members","place","in_turn"] (rA 15):=sk
def vG:Sc 3 ["board","caller","target","phones"] (rA 16):=sk
def AX:Sc 2 ["wanted","target"] (rA 17):=sk
def xk:Sc 4 ["board","caller","target","way","come_to","steps","fits","wanted"] (rA 18):=sk
def zJ:Sc 2 ["board","phone"] (rA 20):=sk
def xl:Sc 3 ["board","phone","target","word"] (rA 21):=sk
def Nf:Sc 3 ["word","phone","calls"] (rA 22):=sk
def ux:Sc 4 ["board","word","phone","numbers","calls","due"] (rA 23):=sk
def zI:Sc 3 ["board","word","number"] (rA 24):=sk
def Dp:Sc 2 ["board","deed","word"] (rA 25):=sk
def uD:Sc 3 ["board","number","steps","last","target","fits"] (rA 26):=sk
def vm:Sc 4 ["board","number","target","phones","members","place"] (rA 27):=sk
def ym:Sc 3 ["board","number","target","talk","members"] (rA 28):=sk
def yk:Sc 3 ["board","number","end","word"] (rA 29):=sk
def xi:Sc 2 ["board","number","call","told","end","steps","last"] (rA 30):=sk
def An:Sc 3 ["board","phone","target","number"] (rA 31):=sk
def Du:Sc 3 ["board","phone","number","call"] (rA 32):=sk
def yT:Sc 2 ["board","call","wishes"] (rA 33):=sk
def CO:Sc 3 ["board","number","fits","wish"] (rA 34):=sk
def ut:Sc 1 ["board","number","call","fits"] (rA 35):=sk
def uc:Sc 2 ["board","deed","word","phone","number","call","kept","others"] (rA 36):=sk
def NO:Sc 2 ["board","deed","word"] (rA 37):=sk
def IH:Sc 2 ["board","deed","word","begun"] (rA 38):=sk
def Jc:Sc 3 ["board","caller","target"] (rA 40):=sk
def Dg:Sc 1 ["told","word"] (rA 51):=sk
def Rx:Sc 2 ["holds","words"] (rA 66):=sk
def Jm:Sc 1 ["text"] (rA 67):=sk
def DS:Sc 1 ["things"] (rA 68):=sk
def Ge:Sc 3 ["chosen","known","most"] (rA 69):=sk
def uJ:Sc 1 ["phones","name","lines","rank"] (rA 70):=sk
def uH:Sc 2 ["groups","phone_names","name","manner","members"] (rA 71):=sk
def DO:Sc 4 ["kind","part","phone_names","names"] (rA 72):=sk
def uE:Sc 3 ["wish","phone_names","names","form","parts","kind","part"] (rA 73):=sk
def vB:Sc 3 ["wishes","phone_names","names","on","wish"] (rA 74):=sk
def wN:Sc 3 ["phones","groups","wishes","phone_names","names"] (rA 75):=sk
def vY:Sc 2 ["plan","switched","on","wishes"] (rA 78):=sk
def zA:Sc 2 ["board","deed"] (rA 79):=sk
def vj:Sc 4 ["plan","hour","deeds","switched","board","other","places","place","deed"] (rA 80):=sk
def Ly:Sc 2 ["_law_script","_law_k"] (rA 82):=sk
def HL:Sc 3 ["_law_cell","_law_factor","_law_many"] (rA 83):=sk
def uN:Sc 2 ["_law_seed","_law_which","_law_letters","_law_size","_law_place","_law_rest","_law_sign"] (rA 84):=sk
def yw:Sc 3 ["_law_row","_law_cell","_law_most","_law_first","_law_size"] (rA 85):=sk
def vn:Sc 2 ["_law_seed","_law_most","_law_phones_here","_law_k","_law_lines"] (rA 86):=sk
def vp:Sc 2 ["_law_seed","_law_own","_law_groups_here","_law_g","_law_manner"] (rA 87):=sk
def tW:Sc 3 ["_law_cell","_law_own","_law_names","_law_a","_law_place","_law_b","_law_c","_law_pick","_law_first"] (rA 88):=sk
def sW:Sc 2 ["_law_script","_law_most","_law_seed","_law_phones_here","_law_own","_law_groups_here","_law_names","_law_wishes","_law_k","_law_cell"] (rA 89):=sk
def D3:Sc 1 ["_law_call"] (rA 90):=sk
def Bv:Sc 2 ["_law_board","_law_states"] (rA 91):=sk
def rY:Sc 4 ["_law_board","_law_cell","_law_word_here","_law_states","_law_some_here","_law_k","_law_people_here","_law_a","_law_m"] (rA 92):=sk
def vh:Sc 4 ["_law_cell","_law_own","_law_names","_law_many","_law_a","_law_b","_law_k","_law_m","_law_some_here"] (rA 93):=sk
def rZ:Sc 4 ["_law_board","_law_cell","_law_own","_law_names","_law_word_here","_law_states","_law_found","_law_a"] (rA 94):=sk
def Hi:Sc 1 ["_law_parts"] (rA 95):=sk
def GO:Sc 1 ["_law_script"] (rA 96):=sk
def wD:Sc 2 ["_law_board","_law_deed_here","_law_events"] (rA 97):=sk
def Hc:Sc 3 ["_law_board","_law_script","_law_k"] (rA 98):=sk
def vq:Sc 2 ["_law_parts","_law_switched","_law_wishes","_law_i","_law_pair"] (rA 100):=sk
def vf:Sc 1 ["_law_script","_law_parts","_law_hour_here","_law_many","_law_switched","_law_board","_law_deeds","_law_k","_law_deed_here","_law_found","_law_left","_law_fewer","_law_again"] (rA 101):=sk
def Cu:Sc 2 ["self","word"] (tm 12 0):=sk
def D7:Sc 3 ["self","plan","hour"] (tm 6 0):=sk
def Gm:Sc 4 ["self","phones","groups","wishes"] (tm 76 0):=sk
def yP:Sc 1 ["self"] (tm 76 2):=sk
def Ea:Sc 1 ["self"] (tm 76 1):=sk
def H9:Sc 2 ["self","told"] (tm 42 0):=sk
def Gy:Sc 1 ["self"] (tm 41 1):=sk
def Ff:Sc 2 ["self","told"] (tm 43 0):=sk
def BH:Sc 2 ["self","told"] (tm 44 0):=sk
def D5:Sc 2 ["self","told"] (tm 46 0):=sk
def CL:Sc 2 ["self","told"] (tm 48 0):=sk
def Fx:Sc 2 ["self","told"] (tm 49 0):=sk
def Ci:Sc 2 ["self","told"] (tm 50 0):=sk
def A0:Sc 2 ["self","phone"] (tm 6 3):=sk
def yj:Sc 2 ["self","event","word"] (tm 6 12):=sk
def E4:Sc 2 ["self","told"] (tm 41 0):=sk
def AK:Sc 2 ["self","phone"] (tm 6 2):=sk
def FO:Sc 2 ["self","caller"] (tm 2 0):=sk
def ze:Sc 2 ["self","phone"] (tm 2 2):=sk
def zu:Sc 2 ["self","phone"] (tm 2 5):=sk
def yS:Sc 2 ["self","phone"] (tm 2 4):=sk
def AS:Sc 2 ["self","leg"] (tm 6 10):=sk
def yu:Sc 4 ["self","merged","kept","members","call"] (tm 6 11):=sk
def vQ:Sc 1 ["self","call"] (tm 6 9):=sk
def zx:Sc 2 ["self","phone"] (tm 2 8):=sk
def CZ:Sc 2 ["self","phone"] (tm 6 4):=sk
def Ba:Sc 2 ["self","phone"] (tm 6 5):=sk
def D6:Sc 2 ["self","phone"] (tm 6 1):=sk
def DQ:Sc 2 ["self","phone"] (tm 76 3):=sk
def xC:Sc 2 ["self","phone"] (tm 2 7):=sk
def DV:Sc 2 ["self","phone"] (tm 2 6):=sk
def C1:Sc 2 ["self","call"] (tm 41 4):=sk
def AR:Sc 2 ["self","call"] (tm 48 2):=sk
def DN:Sc 2 ["self","phone"] (tm 2 3):=sk
def GT:Sc 2 ["self","phone"] (tm 2 1):=sk
def F6:Sc 1 ["self"] (tm 42 1):=sk
def D9:Sc 1 ["self"] (tm 43 1):=sk
def Bb:Sc 1 ["self"] (tm 44 1):=sk
def DL:Sc 1 ["self"] (tm 49 1):=sk
def BL:Sc 1 ["self"] (tm 50 1):=sk
def HB:Sc 4 ["self","board","caller","target"] (tm 42 2):=sk
def FJ:Sc 4 ["self","board","caller","target"] (tm 43 2):=sk
def CB:Sc 4 ["self","board","caller","target"] (tm 45 0):=sk
def DZ:Sc 4 ["self","board","caller","target"] (tm 46 2):=sk
def Fm:Sc 4 ["self","board","caller","target"] (tm 47 0):=sk
def Cn:Sc 4 ["self","board","caller","target"] (tm 48 1):=sk
def E7:Sc 4 ["self","board","caller","target"] (tm 49 2):=sk
def vZ:Sc 4 ["self","board","caller","target","talk","members"] (tm 50 3):=sk
def B':Sc 2 ["self","name"] (tm 76 6):=sk
def Ax:Sc 2 ["self","name"] (tm 76 5):=sk
def zO:Sc 2 ["self","hour"] (tm 46 1):=sk
def Ag:Sc 1 ["self"] (tm 6 8):=sk
def Af:Sc 2 ["self","phone"] (tm 6 6):=sk
def vW:Sc 3 ["self","plan","members","rank"] (tm 50 2):=sk
def AA:Sc 3 ["self","caller","target"] (tm 6 7):=sk
def Fy:Sc 2 ["self","phone"] (tm 76 4):=sk
noncomputable def La:T0 (Str×QQQ):=[("bar",["phone","names"]),("shut",["name","phones"]),("always",["name","name"]),("night",["name","name","hour","hour"]),("busy",["name","name"]),("silent",["name","name","turns"]),("wait",["phone"]),("breaks",["phone"])]
set_option genInjectivity false in
structure Ad where
 (R af aU aV aW ag aX aY aZ a0 a1 ah a2 a3 a4 a5 ai a6 a7 a8 a9 aj ba bb bc bd be bf bg F S bh n ak al T bi bj bk bl bm bn bo am O I i an U bp bq br bs bt bu bv bw bx J bz bA bB bC ao L P V Q ap aq m ar B au av aw ax X k H Y ay Z az aa bD bE bF aA bG bH bI bJ bK aB r aC bL bM aD aE A aF aG aH aI aJ aK aL aM aN aO aP ab bN bO bP bQ aQ aR:FA)
 (e c C t u ac x o y v w q h b8 M:Uf)
structure Gl(K:qE)(mg:QQZ)(a:Ad):Prop where
 e:CG K mg "Call" a.e
 c:CG K mg "Board" a.c
 C:CG K mg "Wish" a.C
 t:CG K mg "Bar" a.t
 u:CG K mg "Shut" a.u
 ac:CG K mg "Forward" a.ac
 x:CG K mg "Always" a.x
 o:CG K mg "Night" a.o
 y:CG K mg "Busy" a.y
 v:CG K mg "Silent" a.v
 w:CG K mg "Wait" a.w
 q:CG K mg "Breaks" a.q
 h:CG K mg "Plan" a.h
 cS:mg "CallError"=ga (.ref a.b8)
 bZ:mg "NoDeed"=ga (.ref a.M)
 R:TG K mg (rA 1) "place_of_true" ["answers"] a.R
 af:TG K mg (rA 3) "end_call" ["call","word"] a.af
 aU:TG K mg (rA 4) "drop_phone" ["call","phone"] a.aU
 aV:TG K mg (rA 5) "change_call" ["call","event"] a.aV
 aW:TG K mg (rA 7) "call_picture" ["call"] a.aW
 ag:TG K mg (rA 8) "picture" ["board"] a.ag
 aX:TG K mg (rA 14) "fitting" ["board","caller","target"] a.aX
 aY:TG K mg (rA 15) "rung_phones" ["board","caller","target"] a.aY
 aZ:TG K mg (rA 16) "end_without_wish" ["board","caller","target"] a.aZ
 a0:TG K mg (rA 17) "end_as_wanted" ["wanted","target"] a.a0
 a1:TG K mg (rA 18) "route" ["board","caller","target","way"] a.a1
 ah:TG K mg (rA 20) "word_for_idling" ["board","phone"] a.ah
 a2:TG K mg (rA 21) "word_for_call" ["board","phone","target"] a.a2
 a3:TG K mg (rA 22) "suits" ["word","phone","calls"] a.a3
 a4:TG K mg (rA 23) "word_for_numbers" ["board","word","phone","numbers"] a.a4
 a5:TG K mg (rA 24) "word_for_switch" ["board","word","number"] a.a5
 ai:TG K mg (rA 25) "refusal" ["board","deed"] a.ai
 a6:TG K mg (rA 26) "take_steps" ["board","number","steps"] a.a6
 a7:TG K mg (rA 27) "start_ringing" ["board","number","target","phones"] a.a7
 a8:TG K mg (rA 28) "break_in" ["board","number","target"] a.a8
 a9:TG K mg (rA 29) "come_to_end" ["board","number","end"] a.a9
 aj:TG K mg (rA 30) "go_on" ["board","number"] a.aj
 ba:TG K mg (rA 31) "make_call" ["board","phone","target"] a.ba
 bb:TG K mg (rA 32) "hang_up" ["board","phone","number"] a.bb
 bc:TG K mg (rA 33) "due_wishes" ["board","call"] a.bc
 bd:TG K mg (rA 34) "send_on" ["board","number","fits"] a.bd
 be:TG K mg (rA 35) "let_turn_pass" ["board"] a.be
 bf:TG K mg (rA 36) "event_of" ["board","deed"] a.bf
 bg:TG K mg (rA 37) "act" ["board","deed"] a.bg
 F:TG K mg (rA 38) "do" ["board","deed"] a.F
 S:TG K mg (rA 40) "is_busy" ["board","caller","target"] a.S
 bh:TG K mg (rA 51) "wish_of" ["told"] a.bh
 n:TG K mg (rA 66) "need" ["holds","words"] a.n
 ak:TG K mg (rA 67) "is_name" ["text"] a.ak
 al:TG K mg (rA 68) "all_unlike" ["things"] a.al
 T:TG K mg (rA 69) "is_choice" ["chosen","known","most"] a.T
 bi:TG K mg (rA 70) "check_phones" ["phones"] a.bi
 bj:TG K mg (rA 71) "check_groups" ["groups","phone_names"] a.bj
 bk:TG K mg (rA 72) "part_holds" ["kind","part","phone_names","names"] a.bk
 bl:TG K mg (rA 73) "check_wish" ["wish","phone_names","names"] a.bl
 bm:TG K mg (rA 74) "check_wishes" ["wishes","phone_names","names"] a.bm
 bn:TG K mg (rA 75) "check_plan" ["phones","groups","wishes"] a.bn
 bo:TG K mg (rA 78) "turned_over" ["plan","switched"] a.bo
 am:TG K mg (rA 79) "do_or_leave_out" ["board","deed"] a.am
 O:TG K mg (rA 80) "what_if" ["plan","hour","deeds","switched"] a.O
 I:TG K mg (rA 82) "_law_at" ["_law_script","_law_k"] a.I
 i:TG K mg (rA 83) "_law_draw" ["_law_cell","_law_factor","_law_many"] a.i
 an:TG K mg (rA 84) "_law_word" ["_law_seed","_law_which"] a.an
 U:TG K mg (rA 85) "_law_some" ["_law_row","_law_cell","_law_most"] a.U
 bp:TG K mg (rA 86) "_law_phones" ["_law_seed","_law_most"] a.bp
 bq:TG K mg (rA 87) "_law_groups" ["_law_seed","_law_own"] a.bq
 br:TG K mg (rA 88) "_law_wish" ["_law_cell","_law_own","_law_names"] a.br
 bs:TG K mg (rA 89) "_law_plan" ["_law_script","_law_most"] a.bs
 bt:TG K mg (rA 90) "_law_people" ["_law_call"] a.bt
 bu:TG K mg (rA 91) "_law_of_state" ["_law_board","_law_states"] a.bu
 bv:TG K mg (rA 92) "_law_on_call" ["_law_board","_law_cell","_law_word_here","_law_states"] a.bv
 bw:TG K mg (rA 93) "_law_any" ["_law_cell","_law_own","_law_names","_law_many"] a.bw
 bx:TG K mg (rA 94) "_law_deed" ["_law_board","_law_cell","_law_own","_law_names"] a.bx
 J:TG K mg (rA 95) "_law_made" ["_law_parts"] a.J
 bz:TG K mg (rA 96) "_law_hour" ["_law_script"] a.bz
 bA:TG K mg (rA 97) "_law_done" ["_law_board","_law_deed_here"] a.bA
 bB:TG K mg (rA 98) "_law_next" ["_law_board","_law_script","_law_k"] a.bB
 bC:TG K mg (rA 100) "_law_turned" ["_law_parts","_law_switched"] a.bC
 ao:TG K mg (rA 101) "law" ["_law_script"] a.ao
 L:MG K a.M (tm 12 0) "__init__" "NoDeed.__init__" ["self","word"] a.L
 P:MG K a.c (tm 6 0) "__init__" "Board.__init__" ["self","plan","hour"] a.P
 V:MG K a.h (tm 76 0) "__init__" "Plan.__init__" ["self","phones","groups","wishes"] a.V
 Q:MG K a.h (tm 76 2) "phone_names" "Plan.phone_names" ["self"] a.Q
 ap:MG K a.h (tm 76 1) "names" "Plan.names" ["self"] a.ap
 aq:MG K a.t (tm 42 0) "__init__" "Bar.__init__" ["self","told"] a.aq
 m:MG K a.C (tm 41 1) "told" "Wish.told" ["self"] a.m
 ar:MG K a.u (tm 43 0) "__init__" "Shut.__init__" ["self","told"] a.ar
 B:MG K a.ac (tm 44 0) "__init__" "Forward.__init__" ["self","told"] a.B
 au:MG K a.o (tm 46 0) "__init__" "Night.__init__" ["self","told"] a.au
 av:MG K a.v (tm 48 0) "__init__" "Silent.__init__" ["self","told"] a.av
 aw:MG K a.w (tm 49 0) "__init__" "Wait.__init__" ["self","told"] a.aw
 ax:MG K a.q (tm 50 0) "__init__" "Breaks.__init__" ["self","told"] a.ax
 X:MG K a.c (tm 6 3) "talk_of" "Board.talk_of" ["self","phone"] a.X
 k:MG K a.c (tm 6 12) "apply" "Board.apply" ["self","event"] a.k
 H:MG K a.C (tm 41 0) "__init__" "Wish.__init__" ["self","told"] a.H
 Y:MG K a.c (tm 6 2) "is_free" "Board.is_free" ["self","phone"] a.Y
 ay:MG K a.e (tm 2 0) "__init__" "Call.__init__" ["self","caller"] a.ay
 Z:MG K a.e (tm 2 2) "talks_with" "Call.talks_with" ["self","phone"] a.Z
 az:MG K a.e (tm 2 5) "waits_with" "Call.waits_with" ["self","phone"] a.az
 aa:MG K a.e (tm 2 4) "is_tried_by" "Call.is_tried_by" ["self","phone"] a.aa
 bD:MG K a.c (tm 6 10) "add_leg" "Board.add_leg" ["self","leg"] a.bD
 bE:MG K a.c (tm 6 11) "merge" "Board.merge" ["self","merged","kept","members"] a.bE
 bF:MG K a.c (tm 6 9) "pass_turn" "Board.pass_turn" ["self"] a.bF
 aA:MG K a.e (tm 2 8) "other_than" "Call.other_than" ["self","phone"] a.aA
 bG:MG K a.c (tm 6 4) "bound" "Board.bound" ["self","phone"] a.bG
 bH:MG K a.c (tm 6 5) "calling" "Board.calling" ["self","phone"] a.bH
 bI:MG K a.c (tm 6 1) "used" "Board.used" ["self","phone"] a.bI
 bJ:MG K a.h (tm 76 3) "lines" "Plan.lines" ["self","phone"] a.bJ
 bK:MG K a.e (tm 2 7) "can_be_left_by" "Call.can_be_left_by" ["self","phone"] a.bK
 aB:MG K a.e (tm 2 6) "pairs" "Call.pairs" ["self","phone"] a.aB
 r:MG K a.C (tm 41 4) "is_due" "Wish.is_due" ["self","call"] a.r
 aC:MG K a.v (tm 48 2) "is_due" "Silent.is_due" ["self","call"] a.aC
 bL:MG K a.e (tm 2 3) "binds" "Call.binds" ["self","phone"] a.bL
 bM:MG K a.e (tm 2 1) "has" "Call.has" ["self","phone"] a.bM
 aD:MG K a.t (tm 42 1) "wants" "Bar.wants" ["self"] a.aD
 aE:MG K a.u (tm 43 1) "wants" "Shut.wants" ["self"] a.aE
 A:MG K a.ac (tm 44 1) "wants" "Forward.wants" ["self"] a.A
 aF:MG K a.w (tm 49 1) "wants" "Wait.wants" ["self"] a.aF
 aG:MG K a.q (tm 50 1) "wants" "Breaks.wants" ["self"] a.aG
 aH:MG K a.t (tm 42 2) "fits" "Bar.fits" ["self","board","caller","target"] a.aH
 aI:MG K a.u (tm 43 2) "fits" "Shut.fits" ["self","board","caller","target"] a.aI
 aJ:MG K a.x (tm 45 0) "fits" "Always.fits" ["self","board","caller","target"] a.aJ
 aK:MG K a.o (tm 46 2) "fits" "Night.fits" ["self","board","caller","target"] a.aK
 aL:MG K a.y (tm 47 0) "fits" "Busy.fits" ["self","board","caller","target"] a.aL
 aM:MG K a.v (tm 48 1) "fits" "Silent.fits" ["self","board","caller","target"] a.aM
 aN:MG K a.w (tm 49 2) "fits" "Wait.fits" ["self","board","caller","target"] a.aN
 aO:MG K a.q (tm 50 3) "fits" "Breaks.fits" ["self","board","caller","target"] a.aO
 aP:MG K a.h (tm 76 6) "manner" "Plan.manner" ["self","name"] a.aP
 ab:MG K a.h (tm 76 5) "phones_of" "Plan.phones_of" ["self","name"] a.ab
 bN:MG K a.o (tm 46 1) "has_hour" "Night.has_hour" ["self","hour"] a.bN
 bO:MG K a.c (tm 6 8) "hour_now" "Board.hour_now" ["self"] a.bO
 bP:MG K a.c (tm 6 6) "waits_at" "Board.waits_at" ["self","phone"] a.bP
 bQ:MG K a.q (tm 50 2) "outranks" "Breaks.outranks" ["self","plan","members"] a.bQ
 aQ:MG K a.c (tm 6 7) "ringable" "Board.ringable" ["self","caller","target"] a.aQ
 aR:MG K a.h (tm 76 4) "rank" "Plan.rank" ["self","phone"] a.aR
 b9:J6 K a.M a.L.f
 ca:zi K a.M "word"
 cb:W.exmOne K (.ref a.M) (.ref a.M)=ga Db
 bT:Mk K a.c a.P.f
 b0:Mk K a.h a.V.f
 cc:Mk K a.t a.aq.f
 cd:Mk K a.u a.ar.f
 ce:Mk K a.x a.B.f
 cf:Mk K a.o a.au.f
 cg:Mk K a.y a.B.f
 ch:Mk K a.v a.av.f
 ci:Mk K a.w a.aw.f
 cj:Mk K a.q a.ax.f
 ck:Mk K a.e a.ay.f
 cl:wj K a.t "told" a.m.f
 cm:wj K a.u "told" a.m.f
 cn:wj K a.x "told" a.m.f
 co:wj K a.o "told" a.m.f
 cp:wj K a.y "told" a.m.f
 cq:wj K a.v "told" a.m.f
 cr:wj K a.w "told" a.m.f
 cs:wj K a.q "told" a.m.f
 ct:wj K a.t "is_due" a.r.f
 cu:wj K a.u "is_due" a.r.f
 cv:wj K a.x "is_due" a.r.f
 cw:wj K a.o "is_due" a.r.f
 cx:wj K a.y "is_due" a.r.f
 cy:wj K a.w "is_due" a.r.f
 cz:wj K a.q "is_due" a.r.f
 cA:wj K a.x "wants" a.A.f
 cB:wj K a.o "wants" a.A.f
 cC:wj K a.y "wants" a.A.f
 cD:wj K a.v "wants" a.A.f
 aS:Nv K a.C "__init__" a.H.f
 b1:Nv K a.ac "__init__" a.B.f
 E:zM K a.c ["plan","hour","turn","calls","legs","nexts","on","log"]
 ad:zM K a.h ["phones","groups","wishes","on","phone_rows","group_rows"]
 bU:zM K a.t ["form","phone","targets"]
 bV:zM K a.u ["form","target","callers"]
 bW:zM K a.x ["form","target","goal"]
 aT:zM K a.o ["form","target","goal","first","last"]
 bX:zM K a.y ["form","target","goal"]
 bR:zM K a.v ["form","target","goal","turns"]
 b2:zM K a.w ["form","phone"]
 b3:zM K a.q ["form","phone"]
 j:zM K a.e ["state","caller","way","at","members","holder","since","word"]
 g:mg "len"=Fa
 N:mg "range"=Fa
 b4:mg "min"=Fa
 l:mg "list"=Fa
 bY:mg "dict"=Fa
 ae:mg "enumerate"=Fa
 b5:mg "zip"=Fa
 z:mg "tuple"=Fa
 cE:mg "sorted"=Fa
 cF:mg "set"=Fa
 bS:mg "all"=Fa
 cG:mg "any"=Fa
 cH:KD K mg "MOST_PHONES" (.int 8)
 cI:KD K mg "MOST_LINES" (.int 3)
 cJ:KD K mg "MOST_RANK" (.int 9)
 cK:KD K mg "MOST_GROUPS" (.int 3)
 cL:KD K mg "MANNERS" (.tup ((["all","turns"]:QQQ).map D.str))
 cM:KD K mg "MOST_MEMBERS" (.int 4)
 cN:KD K mg "MOST_WISHES" (.int 16)
 cO:KD K mg "MOST_SIGNS" (.int 6)
 cP:KD K mg "LETTERS" (.str "abcdefghijklmnopqrstuvwxyz")
 b6:Pe K mg "FORMS" La
 b7:KD K mg "MOST_LISTED" (.int 6)
 cQ:KD K mg "LAST_HOUR" (.int 23)
 cR:KD K mg "MOST_TURNS" (.int 9)
noncomputable def qF(c f m:Int):Int:=(c % 2147483647+5)*f % 2147483629 / 89 % m
def rq{c f m:Int}(h:0<m):0<=qF c f m:=eR _ (by lia)
def qY{c f m:Int}(h:0<m):qF c f m<m:=eO _ h
def J8:rH:=λds M Q=>Ed λc f m=>ds=[.int c,.int f,.int m]/\0<m/\Q (.int (qF c f m)) M
noncomputable def uO:Str:="abcdefghijklmnopqrstuvwxyz"
noncomputable def uK(i:Int):Str:=⟨#[97+i.toNat]⟩
noncomputable def size(s:Int):Int:=1+s % 6
def u9(s:Int):Int:=s / 6 % size s
def yz(s v:Int):Str:=zF (uK (s / 36 % 26)) (u9 s)++uK ((s / 936+v) % 26)++zF (uK (s / 36 % 26)) (size s - 1 - u9 s)
def Qe:rH:=λds M Q=>Dn λs v=>ds=[.int s,.int v]/\Q (.str (yz s v)) M
noncomputable def cell(ns:T0 Int)(i:Int):Int:=if 0<=i/\i<ns.length then ns.getD i.toNat 0 else 0
def Vq:rH:=λds M Q=>Dn λns i=>ds=[.rl (ns.map D.int),.int i]/\Q (.int (cell ns i)) M
def GH(c:Int):0<size c:=by unfold size;have:=eR c (show(6:Int)≠0 by decide);lia
def JA(c:Int):size c<=6:=by unfold size;have:=eO c (show(0:Int)<6 by decide);lia
def GS(i n:Int):(zF (uK i) n).length=n.toNat:=by show((List.replicate n.toNat (uK i).cps).foldl (·++·) #[]:Array Nat).size=n.toNat;rw[Kq];show n.toNat*1=n.toNat;lia
def Bi:uO.length<=Ch:=by decide+kernel
variable {P:Pg}{w:Wo}{K:qE}{mg:QQZ}{base:Go}{a:Ad}(G:Gl K mg a)
def qU:Fq P w K mg base 1 a.i J8:=by
 refine fq G.i.toDG HL (λr u=>⟨_,(pH (pO (qk (qk (qk (qk (qk (qk v0 pJ) pJ) Y1) pJ) pJ) Y2))),?_⟩)
 rintro ds M Q ⟨c,f,m,rfl,hm,q⟩
 refine⟨by decide,.inl ?_,by decide,⟨by decide,by decide⟩,hm,M,.refl,q⟩;have h1:0<=c % 2147483647:=eR _ (by decide);have h2:c % 2147483647<2147483647:=eO _ (by decide);exact⟨by lia,by lia⟩
def Er{i:Int}(h0:0<=i)(h1:i<26):xn uO.cps.toList i=ga (97+i.toNat):=by
 obtain⟨n,rfl⟩:=eB h0;have hn:n<26:=by lia
 have key:∀n:_root_.Fin 26,xn uO.cps.toList ((n.val:Nat):Int)=ga (97+n.val):=by decide+kernel
 exact key ⟨n,hn⟩
def Kr:Fq P w K mg base 1 a.an Qe:=by
 refine fq G.an.toDG uN (λr u=>⟨_,(pG (pW 2 uN pK)
 (pG (pW 3 uN (qk pJ (qk v0 pJ)))
 (pG (pW 4 uN (qk (qk v0 pJ) Y3))
 (pG (pW 5 uN (pT Y2 (qk (qk v0 pJ) pJ)))
 (pG (pW 6 uN (pT Y2 (qk (qk (qk v0 pJ) Y1) pJ)))
 (pH (pO (qk (qk (qk v5 v4) v6) (qk v5 (qk (qk Y3 pJ) v4)))))))))),?_⟩)
 rintro ds M Q ⟨c,v,rfl,q⟩
 have hs:=GH c;have hs6:=JA c;have hp0:0<=u9 c:=eR _ (by lia);have Z0:u9 c<size c:=eO _ hs;have l1:=GS (c / 36 % 26) (u9 c);have l2:=GS (c / 36 % 26) (size c - 1 - u9 c);have hz:=dM;refine⟨by decide,⟨by decide,by decide⟩,hs,⟨by decide,by decide⟩,by decide,Bi,pF (Er (eR _ (by decide)) (eO _ (by decide))) ?_⟩;refine⟨⟨by decide,by decide⟩,by decide,Bi,pF (Er (eR _ (by decide)) (eO _ (by decide))) ?_⟩;refine⟨⟨?_,?_,?_⟩,?_,⟨?_,?_,?_⟩,?_,M,.refl,q⟩
 .show u9 c<4096;lia
 .show -4096<u9 c;lia
 .show(1:Nat)<4096;decide
 .show(zF (uK (c / 36 % 26)) (u9 c)).length+1<=Ch;lia
 .show size c - 1 - u9 c<4096;lia
 .show -4096<size c - 1 - u9 c;lia
 .show(1:Nat)<4096;decide
 .show(zF (uK (c / 36 % 26)) (u9 c)++uK ((c / 936+v) % 26)).length+(zF (uK (c / 36 % 26)) (size c - 1 - u9 c)).length<=Ch;rw[PySem.size_cat];have:(uK ((c / 936+v) % 26)).length=1:=rfl;lia
def HY:Fq P w K mg base 1 a.I Vq:=by
 refine fq G.I.toDG Ly (λr u=>⟨_,(pG (qa (G7 u pJ Y1 (qc qJ Z' G.g qG (qv v0)))
 (pH (pO (pT v0 Y1)))
 pV)
 (pH (pO pJ))),?_⟩)
 rintro ds M Q ⟨ns,i,rfl,q⟩
 refine qT (λh0=>?_) (λh0=>?_)
 .have h0:0<=i:=fT h0;refine qT (λh1=>?_) (λh1=>?_)
  .have h1:i<((ns.map D.int).length:Int):=fT h1;rw[cT]at h1;have hi:i.toNat<ns.length:=by lia
   have e:xn (ns.map D.int) i=ga (D.int (ns.getD i.toNat 0)):=by
    obtain⟨n,rfl⟩:=eB h0;have hn:n<ns.length:=by lia
    refine vo ?_;rw[dv,cV hn];simp[hn]
   refine pF e ⟨M,.refl,?_⟩;have:cell ns i=ns.getD i.toNat 0:=by unfold cell;rw[de ⟨h0,h1⟩]
   rw[<-this];exact q
  .have h1:¬i<((ns.map D.int).length:Int):=λz=>h1 (dX z);rw[cT]at h1;refine⟨M,.refl,?_⟩;have:cell ns i=0:=by unfold cell;rw[cY (λz=>h1 z.2)]
   rw[<-this];exact q
 .have h0:¬0<=i:=λz=>h0 (dX z);refine⟨M,.refl,?_⟩;have:cell ns i=0:=by unfold cell;rw[cY (λz=>h0 z.1)]
  rw[<-this];exact q
inductive Wi where
 | bar (x:Str) (ns:QQQ)|shut (x:Str) (ns:QQQ)|always (x y:Str)|night (x y:Str) (f l:Int)|busy (x y:Str)|silent (x y:Str) (n:Int)|wait (x:Str)|breaks (x:Str)
abbrev names(ns:QQQ):D:=.tup (ns.map D.str)
noncomputable def Wi.told:Wi->T0 D
 | .bar x ns=>[.str "bar",.str x,names ns]
 | .shut x ns=>[.str "shut",.str x,names ns]
 | .always x y=>[.str "always",.str x,.str y]
 | .night x y f l=>[.str "night",.str x,.str y,.int f,.int l]
 | .busy x y=>[.str "busy",.str x,.str y]
 | .silent x y n=>[.str "silent",.str x,.str y,.int n]
 | .wait x=>[.str "wait",.str x]
 | .breaks x=>[.str "breaks",.str x]
noncomputable def Wi.cls(a:Ad):Wi->Uf
 | .bar _ _=>a.t
 | .shut _ _=>a.u
 | .always _ _=>a.x
 | .night _ _ _ _=>a.o
 | .busy _ _=>a.y
 | .silent _ _ _=>a.v
 | .wait _=>a.w
 | .breaks _=>a.q
noncomputable def Wi.more:Wi->T0 (Str×D)
 | .bar x ns=>[("phone",.str x),("targets",names ns)]
 | .shut x ns=>[("target",.str x),("callers",names ns)]
 | .always x y=>[("target",.str x),("goal",.str y)]
 | .night x y f l=>[("target",.str x),("goal",.str y),("first",.int f),("last",.int l)]
 | .busy x y=>[("target",.str x),("goal",.str y)]
 | .silent x y n=>[("target",.str x),("goal",.str y),("turns",.int n)]
 | .wait x=>[("phone",.str x)]
 | .breaks x=>[("phone",.str x)]
noncomputable def Wi.nH(v:Wi):T0 (Str×D):=("form",.tup v.told)::v.more
abbrev Cv(ns:QQQ)(i:Int):Str:=ns.getD i.toNat Str.empty
def xO(row:QQQ)(c m:Int):Nat:=(1+qF c 40692 (if (row.length:Int)<m then(row.length:Int)else m)).toNat
def Wj(row:QQQ)(c:Int)(j:Nat):Str:=Cv row ((qF c 69621 row.length+(0+(j:Nat))) % row.length)
def wB(row:QQQ)(c m:Int):QQQ:=(List.range (xO row c m)).map (Wj row c)
def Qc:rH:=λds M Q=>BO λr c m row=>ds=[.ref r,.int c,.int m]/\oP M r=ga (row.map D.str)/\row≠[]/\0<m/\row.length<=64/\Q (names (wB row c m)) M
def J2{row:QQQ}(h:row≠[])(x:Int):xn (row.map D.str) (x % row.length)=ga (D.str (Cv row (x % row.length))):=by
 have hl:0<row.length:=fv.mpr h;have h0:0<=x % row.length:=eR _ (by lia);have h1:x % row.length<row.length:=eO _ (by lia);obtain⟨n,hn⟩:=eB h0;rw[hn]at h1 ⊢;have hn':n<row.length:=by lia
 refine vo ?_;rw[dv,cV hn'];simp[Cv,hn']
def yJ:Fq P w K mg base 2 a.U Qc:=by
 refine fq G.U.toDG yw (λr u=>⟨_,(pG (pW 3 yw (pP (qU G) r G.i (rG Y1 pJ (qc qJ Z' G.g qG (qv v0)))))
 (pG (pW 4 yw (qk pJ (pP (qU G) r G.i (rG Y1 pJ (qc (Pa Z') Z' G.b4 Mh (so Y2 (qc qJ Z' G.g qG (qv v0))))))))
 (pH (pO (qe sT Z' G.z sS (qv (qP Z' (xN (ix:=[Fa,ga 0,ga 3]) (N':=["_law_j","_law_row","_law_first"])) (vi Z' G.N (qv v4)) (qD 0) rX (pT Y1 (qk (qk Y2 v0) (qc qJ Z' G.g qG (qv Y1))))))))))),?_⟩)
 rintro ds M Q ⟨r,c,m,row,rfl,hl,Ze,hm,h64,q⟩
 have YS:0<row.length:=fv.mpr Ze;have hz:=dM;have el:((row.map D.str).length:Int)=row.length:=by rw[cT]
 refine pF hl ⟨c,69621,_,Z',by rw[el];lia,?_⟩;refine pF hl ⟨c,40692,_,Z',by rw[el];split<;>lia,?_⟩;rw[el];have d0:=rq (c:=c) (f:=40692) (m:=if (row.length:Int)<m then(row.length:Int)else m) (by split<;>lia);have d1:=qY (c:=c) (f:=40692) (m:=if (row.length:Int)<m then(row.length:Int)else m) (by split<;>lia);have d2:qF c 40692 (if (row.length:Int)<m then(row.length:Int)else m)<row.length+1:=by refine Int.lt_of_lt_of_le d1 ?_;split<;>lia
 refine⟨Z',⟨?_,?_⟩,rS (f:=λd=>match d with|.int j=>D.str (Cv row ((qF c 69621 row.length+j) % row.length))|_=>.mM) trivial _ [] _ ?_ (λd hd k hk=>?_) λp hp=>?_⟩
 .show -(2 ^ 62)<=1+qF c 40692 (if (row.length:Int)<m then(row.length:Int)else m);lia
 .show 1+qF c 40692 (if (row.length:Int)<m then(row.length:Int)else m)<2 ^ 62;lia
 .rw[cT,dS];show 0+xO row c m<=Ch;unfold xO;lia
 .obtain⟨j,_,rfl⟩:=dE.mp hd;refine pF hl ⟨by rw[el];lia,pF hl ?_⟩;rw[el];exact pF (J2 Ze _) hk
 .refine pF (x:=(wB row c m).map D.str) ?_ ⟨M,.new hp,q⟩;unfold oP;rw[pZ];show ga ([]++((List.range (xO row c m)).map λi=>D.int (0+(i:Nat))).map _)=_;rw[d9,d6];unfold wB;rw[d6];rfl
def xp(c:Int)(own all:QQQ):Wi:=
 let x:=Cv own (qF c 16807 own.length);let pl:=qF c 39373 all.length;let y:=Cv all pl;let z:=Cv all ((pl+1+qF c 742938285 ((all.length:Int) - 1)) % all.length);let k:=qF c 1226874159 12
 if k=0 then .bar x (wB all c 3)
 else if k=1 then .shut y (wB own c 3)
 else if k=2 then .always y z
 else if k<5 then .night y z (qF c 22695477 24) ((qF c 22695477 24+1+qF c 48271 23) % 24)
 else if k<7 then .busy y z
 else if k<9 then .silent y z ([1,1,2,3,9].getD (qF c 950706376 5).toNat 0)
 else if k=9 then .wait x
 else .breaks x
def RE:rH:=λds M Q=>HX λc o n own all=>ds=[.int c,.ref o,.ref n]/\oP M o=ga (own.map D.str)/\oP M n=ga (all.map D.str)/\own≠[]/\2<=all.length/\own.length<=64/\all.length<=64/\Q (.tup (xp c own all).told) M
def Jl{row:QQQ}{x:Int}(h0:0<=x)(h1:x<row.length):xn (row.map D.str) x=ga (D.str (Cv row x)):=by
 obtain⟨n,rfl⟩:=eB h0;have hn':n<row.length:=by lia
 refine vo ?_;rw[dv,cV hn'];simp[Cv,hn']
def Rf:Fq P w K mg base 3 a.br RE:=by
 refine fq G.br.toDG tW (λr u=>⟨_,(pG (pW 3 tW (pT Y1 (pP (qU G) r G.i (rG v0 pJ (qc qJ Z' G.g qG (qv Y1))))))
 (pG (pW 4 tW (pP (qU G) r G.i (rG v0 pJ (qc qJ Z' G.g qG (qv Y2)))))
 (pG (pW 5 tW (pT Y2 v4))
 (pG (pW 6 tW (pT Y2 (qk (qk (qk v4 pJ) (pP (qU G) r G.i (rG v0 pJ (qk (qc qJ Z' G.g qG (qv Y2)) pJ)))) (qc qJ Z' G.g qG (qv Y2)))))
 (pG (pW 7 tW (pP (qU G) r G.i (rG v0 pJ pJ)))
 (pG (qa (pR u v7 pJ)
 (pH (pO (pY (rG pK Y3 (pP (yJ G) r G.U (rG Y2 v0 pJ))))))
 pV)
 (pG (qa (pR u v7 pJ)
 (pH (pO (pY (rG pK v5 (pP (yJ G) r G.U (rG Y1 v0 pJ))))))
 pV)
 (pG (qa (pR u v7 pJ)
 (pH (pO (pY (rG pK v5 v6))))
 pV)
 (pG (qa (pR u v7 pJ)
 (pG (pW 8 tW (pP (qU G) r G.i (rG v0 pJ pJ)))
 (pH (pO (pY (qh pK (qh v5 (rG v6 v8 (qk (qk (qk v8 pJ) (pP (qU G) r G.i (rG v0 pJ pJ))) pJ))))))))
 pV)
 (pG (qa (pR u v7 pJ)
 (pH (pO (pY (rG pK v5 v6))))
 pV)
 (pG (qa (pR u v7 pJ)
 (pH (pO (pY (qh pK (rG v5 v6 (pT (pY (qh pJ (qh pJ (rG pJ pJ pJ)))) (pP (qU G) r G.i (rG v0 pJ pJ))))))))
 pV)
 (pG (qa (pR u v7 pJ)
 (pH (pO (pY (so pK Y3))))
 pV)
 (pH (pO (pY (so pK Y3)))))))))))))))),?_⟩)
 rintro ds M Q ⟨c,o,n,own,all,rfl,ho,hn,Ze,h2,l1,l2,q⟩
 have YS:0<own.length:=fv.mpr Ze;have hne2:all≠[]:=λz=>by rw[z]at h2;simp at h2
 have e1:((own.map D.str).length:Int)=own.length:=by rw[cT]
 have e2:((all.map D.str).length:Int)=all.length:=by rw[cT]
 have p1:(0:Int)<own.length:=by lia
 have p2:(0:Int)<all.length:=by lia
 have p3:(0:Int)<(all.length:Int) - 1:=by lia
 refine pF ho ⟨c,_,_,Z',by rw[e1];exact p1,?_⟩;rw[e1];refine pF ho (pF (Jl (rq p1) (qY p1)) ?_);refine pF hn ⟨c,_,_,Z',by rw[e2];exact p2,?_⟩;rw[e2];refine pF hn (pF (Jl (rq p2) (qY p2)) ?_);refine pF hn ⟨c,_,_,Z',by rw[e2];exact p3,?_⟩;rw[e2];refine pF hn ⟨by rw[e2];exact p2,?_⟩;rw[e2];refine pF hn (pF (J2 hne2 _) ?_);refine⟨c,_,_,Z',by decide,?_⟩;have YR:∀t:T0 D,(xp c own all).told=t->∃YQ,qN YQ M/\Q (.tup t) YQ:=λt e=>⟨M,.refl,e ▸ q⟩;have k0:0<=qF c 1226874159 12:=rq (by decide);refine qT (λh=>?_) (λh=>?_)
 .have h:qF c 1226874159 12=0:=by simpa using h
  refine⟨n,c,3,all,Z',hn,hne2,by decide,l2,pD Z',YR _ ?_⟩;simp only[xp,de h,Wi.told]
 have h:¬qF c 1226874159 12=0:=by simpa using h
 refine qT (λg=>?_) (λg=>?_)
 .have g:qF c 1226874159 12=1:=by simpa using g
  refine⟨o,c,3,own,Z',ho,Ze,by decide,l1,pD Z',YR _ ?_⟩;simp only[xp,cY h,de g,Wi.told]
 have g:¬qF c 1226874159 12=1:=by simpa using g
 refine qT (λi=>?_) (λi=>?_)
 .have i:qF c 1226874159 12=2:=by simpa using i
  refine⟨pD Z',YR _ ?_⟩;simp only[xp,cY h,cY g,de i,Wi.told]
 have i:¬qF c 1226874159 12=2:=by simpa using i
 refine qT (λj=>?_) (λj=>?_)
 .have j:qF c 1226874159 12<5:=fT j;refine⟨c,_,_,Z',by decide,c,_,_,Z',by decide,by decide,pD Z',YR _ ?_⟩;simp only[xp,cY h,cY g,cY i,de j,Wi.told]
 have j:¬qF c 1226874159 12<5:=λz=>j (dX z);refine qT (λl=>?_) (λl=>?_)
 .have l:qF c 1226874159 12<7:=fT l;refine⟨pD Z',YR _ ?_⟩;simp only[xp,cY h,cY g,cY i,cY j,de l,Wi.told]
 have l:¬qF c 1226874159 12<7:=λz=>l (dX z);refine qT (λm=>?_) (λm=>?_)
 .have m:qF c 1226874159 12<9:=fT m;have d0:0<=qF c 950706376 5:=rq (by decide);have d1:qF c 950706376 5<5:=qY (by decide);have e:xn [D.int 1,.int 1,.int 2,.int 3,.int 9] (qF c 950706376 5)=ga (D.int ([1,1,2,3,9].getD (qF c 950706376 5).toNat 0)):=by
   obtain⟨t,ht⟩:=eB d0;rw[ht]at d1 ⊢;have:t<5:=by lia
   match t,this with
   | 0,_=>rfl
   | 1,_=>rfl
   | 2,_=>rfl
   | 3,_=>rfl
   | 4,_=>rfl
  refine⟨pD Z',c,_,_,Z',by decide,pF e ⟨pD Z',YR _ ?_⟩⟩;simp only[xp,cY h,cY g,cY i,cY j,cY l,de m,Wi.told]
 have m:¬qF c 1226874159 12<9:=λz=>m (dX z);refine qT (λr=>?_) (λr=>?_)
 .have r:qF c 1226874159 12=9:=by simpa using r
  refine⟨pD Z',YR _ ?_⟩;simp only[xp,cY h,cY g,cY i,cY j,cY l,cY m,de r,Wi.told]
 have r:¬qF c 1226874159 12=9:=by simpa using r
 refine⟨pD Z',YR _ ?_⟩;simp only[xp,cY h,cY g,cY i,cY j,cY l,cY m,cY r,Wi.told]
def Me(K:qE):rH:=λds M Q=>Ed λp d C=>ds=[.ref p,d]/\M p=ga (.ins C [])/\uL K C "form"/\Q .mM (pQ M p (.ins C [("form",d)]))
def MH(K:qE):rH:=λds M Q=>HX λp t x y C=>ds=[.ref p,.tup t]/\xn t 1=ga x/\xn t 2=ga y/\M p=ga (.ins C [])/\uL K C "form"/\uL K C "target"/\uL K C "goal"/\Q .mM (pQ M p (.ins C [("form",.tup t),("target",x),("goal",y)]))
def yH(a:Ad)(k:Wi->Prop):rH:=λds M Q=>Dn λp v=>ds=[.ref p,.tup (Wi.told v)]/\k v/\M p=ga (.ins (v.cls a) [])/\Q .mM (pQ M p (.ins (v.cls a) v.nH))
def yo:Fq P w K mg base 1 a.H (Me K):=by
 refine fq G.H.toDG E4 (λr u=>⟨_,(pH (qw v0 Y1)),?_⟩)
 rintro ds M Q ⟨p,d,C,rfl,hp,na,q⟩
 exact pI hp ⟨na,by decide,_,.refl,q⟩
def zP:Fq P w K mg base 2 a.B (MH K):=by
 refine fq G.B.toDG BH (λr u=>⟨_,(pG (pX (zD G.aS (yo G) r G.C G.H.toDG (so v0 Y1)))
 (pG (qw v0 (pT Y1 pJ))
 (pH (qw v0 (pT Y1 pJ))))),?_⟩)
 rintro ds M Q ⟨p,t,x,y,C,rfl,e1,e2,hp,n1,n2,n3,q⟩
 refine⟨p,_,C,Z',hp,n1,pF e1 (pI pZ ⟨n2,by show 1<1000;decide,?_⟩)⟩;refine pF e2 (pI pZ ⟨n3,by show 2<1000;decide,_,?_,q⟩);rw[se,se];exact .refl
def S9:Fq P w K mg base 2 a.aq (yH a λv=>∃x ns,v=.bar x ns):=by
 refine fq G.aq.toDG H9 (λr u=>⟨_,(pG (pX (zD G.aS (yo G) r G.C G.H.toDG (so v0 Y1)))
 (pG (qw v0 (pT Y1 pJ))
 (pH (qw v0 (pT Y1 pJ))))),?_⟩)
 rintro ds M Q ⟨p,v,rfl,⟨x,ns,rfl⟩,hp,q⟩
 refine⟨p,_,_,Z',hp,(G.bU "form" Z'),pI pZ ⟨(G.bU "phone" Z'),by show 1<1000;decide,?_⟩⟩;refine pI pZ ⟨(G.bU "targets" Z'),by show 2<1000;decide,_,?_,q⟩;rw[se,se];exact .refl
def QS:Fq P w K mg base 2 a.ar (yH a λv=>∃x ns,v=.shut x ns):=by
 refine fq G.ar.toDG Ff (λr u=>⟨_,(pG (pX (zD G.aS (yo G) r G.C G.H.toDG (so v0 Y1)))
 (pG (qw v0 (pT Y1 pJ))
 (pH (qw v0 (pT Y1 pJ))))),?_⟩)
 rintro ds M Q ⟨p,v,rfl,⟨x,ns,rfl⟩,hp,q⟩
 refine⟨p,_,_,Z',hp,(G.bV "form" Z'),pI pZ ⟨(G.bV "target" Z'),by show 1<1000;decide,?_⟩⟩;refine pI pZ ⟨(G.bV "callers" Z'),by show 2<1000;decide,_,?_,q⟩;rw[se,se];exact .refl
def OF:Fq P w K mg base 3 a.au (yH a λv=>∃x y f l,v=.night x y f l):=by
 refine fq G.au.toDG D5 (λr u=>⟨_,(pG (pX (zD G.b1 (zP G) r G.ac G.B.toDG (so v0 Y1)))
 (pG (qw v0 (pT Y1 pJ))
 (pH (qw v0 (pT Y1 pJ))))),?_⟩)
 rintro ds M Q ⟨p,v,rfl,⟨x,y,f,l,rfl⟩,hp,q⟩
 refine⟨p,_,_,_,_,Z',Z',Z',hp,(G.aT "form" Z'),(G.aT "target" Z'),(G.aT "goal" Z'),pI pZ ⟨(G.aT "first" Z'),by show 3<1000;decide,?_⟩⟩;refine pI pZ ⟨(G.aT "last" Z'),by show 4<1000;decide,_,?_,q⟩;rw[se,se];exact .refl
def Lb:Fq P w K mg base 3 a.av (yH a λv=>∃x y n,v=.silent x y n):=by
 refine fq G.av.toDG CL (λr u=>⟨_,(pG (pX (zD G.b1 (zP G) r G.ac G.B.toDG (so v0 Y1)))
 (pH (qw v0 (pT Y1 pJ)))),?_⟩)
 rintro ds M Q ⟨p,v,rfl,⟨x,y,n,rfl⟩,hp,q⟩
 refine⟨p,_,_,_,_,Z',Z',Z',hp,(G.bR "form" Z'),(G.bR "target" Z'),(G.bR "goal" Z'),pI pZ ⟨(G.bR "turns" Z'),by show 3<1000;decide,_,?_,q⟩⟩;rw[se];exact .refl
def P9:Fq P w K mg base 2 a.aw (yH a λv=>∃x,v=.wait x):=by
 refine fq G.aw.toDG Fx (λr u=>⟨_,(pG (pX (zD G.aS (yo G) r G.C G.H.toDG (so v0 Y1)))
 (pH (qw v0 (pT Y1 pJ)))),?_⟩)
 rintro ds M Q ⟨p,v,rfl,⟨x,rfl⟩,hp,q⟩
 refine⟨p,_,_,Z',hp,(G.b2 "form" Z'),pI pZ ⟨(G.b2 "phone" Z'),by show 1<1000;decide,_,?_,q⟩⟩;rw[se];exact .refl
def Li:Fq P w K mg base 2 a.ax (yH a λv=>∃x,v=.breaks x):=by
 refine fq G.ax.toDG Ci (λr u=>⟨_,(pG (pX (zD G.aS (yo G) r G.C G.H.toDG (so v0 Y1)))
 (pH (qw v0 (pT Y1 pJ)))),?_⟩)
 rintro ds M Q ⟨p,v,rfl,⟨x,rfl⟩,hp,q⟩
 refine⟨p,_,_,Z',hp,(G.b3 "form" Z'),pI pZ ⟨(G.b3 "phone" Z'),by show 1<1000;decide,_,?_,q⟩⟩;rw[se];exact .refl
def IU(a:Ad):rH:=λds M Q=>∃v:Wi,ds=[.tup v.told]/\∀p,M p=Fa->Q (.ref p) (pQ M p (.ins (v.cls a) v.nH))
def Ku(a:Ad):rH:=λds M Q=>Dn λp (v:Wi)=>ds=[.ref p]/\M p=ga (.ins (v.cls a) v.nH)/\Q (.tup v.told) M
def Jt:rH:=λds M Q=>∃p,ds=[.ref p]/\Q (.tup [.str "end"]) M
def Mf:rH:=λds M Q=>∃p,ds=[.ref p]/\Q (.tup [.str "break"]) M
def Ss:rH:=λds M Q=>BO λp C fs y=>ds=[.ref p]/\M p=ga (.ins C fs)/\fs.lookup ("goal":Str)=ga y/\Q (.tup [.str "to",y]) M
def Sx:rH:=λds M Q=>BO λp C fs y=>ds=[.ref p]/\M p=ga (.ins C fs)/\fs.lookup ("phone":Str)=ga y/\Q (.tup [.str "wait",y]) M
def Iv(a:Ad):Uf->rH->Prop:=λC sp=>(∃v:Wi,C=v.cls a)/\sp=Ku a
def KM(a:Ad):Uf->rH->Prop:=λC sp=>((C=a.t\/C=a.u)/\sp=Jt)\/((C=a.x\/C=a.o\/C=a.y\/C=a.v)/\sp=Ss)\/(C=a.w/\sp=Sx)\/(C=a.q/\sp=Mf)
def IW:Fq P w K mg base 5 a.bh (IU a):=by
 refine fq G.bh.toDG Dg (λr u=>⟨_,(pG (pW 1 Dg (pT v0 pJ))
 (pG (qa (pR u Y1 pK)
 (pH (pO (uY (S9 G) r G.t G.cc G.aq.toDG (qv v0))))
 pV)
 (pG (qa (pR u Y1 pK)
 (pH (pO (uY (QS G) r G.u G.cd G.ar.toDG (qv v0))))
 pV)
 (pG (qa (pR u Y1 pK)
 (pH (pO (uY (zP G) r G.x G.ce G.B.toDG (qv v0))))
 pV)
 (pG (qa (pR u Y1 pK)
 (pH (pO (uY (OF G) r G.o G.cf G.au.toDG (qv v0))))
 pV)
 (pG (qa (pR u Y1 pK)
 (pH (pO (uY (zP G) r G.y G.cg G.B.toDG (qv v0))))
 pV)
 (pG (qa (pR u Y1 pK)
 (pH (pO (uY (Lb G) r G.v G.ch G.av.toDG (qv v0))))
 pV)
 (pG (qa (pR u Y1 pK)
 (pH (pO (uY (P9 G) r G.w G.ci G.aw.toDG (qv v0))))
 pV)
 (pG (qa (pR u Y1 pK)
 (pH (pO (uY (Li G) r G.q G.cj G.ax.toDG (qv v0))))
 pV)
 (pH G9)))))))))),?_⟩)
 rintro ds M Q ⟨v,rfl,q⟩
 have YR:∀(x:Uf) (c0 c1:uR) (C:Uf) (fs:T0 (Str×D)),M x=Fa->Q (.ref x) (pQ M x c1)->∃YQ,qN YQ (pQ (pQ M x c0) x c1)/\Q (.ref x) YQ:=λx c0 c1 C fs hx q=>⟨_,by rw[se];exact .refl,q⟩;cases v with
 | bar x ns=>exact λp hp=>⟨p,.bar x ns,Z',⟨_,_,Z'⟩,pZ,Z',YR p _ _ 0 [] hp (q p hp)⟩
 | shut x ns=>exact λp hp=>⟨p,.shut x ns,Z',⟨_,_,Z'⟩,pZ,Z',YR p _ _ 0 [] hp (q p hp)⟩
 | always x y=>exact λp hp=>⟨p,_,_,_,_,Z',Z',Z',pZ,(G.bW "form" Z'),(G.bW "target" Z'),(G.bW "goal" Z'),Z',YR p _ _ 0 [] hp (q p hp)⟩
 | night x y f l=>exact λp hp=>⟨p,.night x y f l,Z',⟨_,_,_,_,Z'⟩,pZ,Z',YR p _ _ 0 [] hp (q p hp)⟩
 | busy x y=>exact λp hp=>⟨p,_,_,_,_,Z',Z',Z',pZ,(G.bX "form" Z'),(G.bX "target" Z'),(G.bX "goal" Z'),Z',YR p _ _ 0 [] hp (q p hp)⟩
 | silent x y n=>exact λp hp=>⟨p,.silent x y n,Z',⟨_,_,_,Z'⟩,pZ,Z',YR p _ _ 0 [] hp (q p hp)⟩
 | wait x=>exact λp hp=>⟨p,.wait x,Z',⟨_,Z'⟩,pZ,Z',YR p _ _ 0 [] hp (q p hp)⟩
 | breaks x=>exact λp hp=>⟨p,.breaks x,Z',⟨_,Z'⟩,pZ,Z',YR p _ _ 0 [] hp (q p hp)⟩
def Q1:Fq P w K mg base 1 a.m (Ku a):=by
 refine fq G.m.toDG Gy (λr u=>⟨_,(pH (pO (pN v0))),?_⟩)
 rintro ds M Q ⟨p,v,rfl,hp,q⟩
 exact pI hp (pF Z' ⟨M,.refl,q⟩)
def Qk:Fq P w K mg base 1 a.aD Jt:=by
 refine fq G.aD.toDG F6 (λr u=>⟨_,(pH (pO (pY (qv pK)))),?_⟩)
 rintro ds M Q ⟨p,rfl,q⟩
 exact⟨pD Z',M,.refl,q⟩
def Nq:Fq P w K mg base 1 a.aE Jt:=by
 refine fq G.aE.toDG D9 (λr u=>⟨_,(pH (pO (pY (qv pK)))),?_⟩)
 rintro ds M Q ⟨p,rfl,q⟩
 exact⟨pD Z',M,.refl,q⟩
def wI:Fq P w K mg base 1 a.A Ss:=by
 refine fq G.A.toDG Bb (λr u=>⟨_,(pH (pO (pY (so pK (pN v0))))),?_⟩)
 rintro ds M Q ⟨p,C,fs,y,rfl,hp,e,q⟩
 exact pI hp (pF e ⟨pD Z',M,.refl,q⟩)
def NK:Fq P w K mg base 1 a.aF Sx:=by
 refine fq G.aF.toDG DL (λr u=>⟨_,(pH (pO (pY (so pK (pN v0))))),?_⟩)
 rintro ds M Q ⟨p,C,fs,y,rfl,hp,e,q⟩
 exact pI hp (pF e ⟨pD Z',M,.refl,q⟩)
def Iq:Fq P w K mg base 1 a.aG Mf:=by
 refine fq G.aG.toDG BL (λr u=>⟨_,(pH (pO (pY (qv pK)))),?_⟩)
 rintro ds M Q ⟨p,rfl,q⟩
 exact⟨pD Z',M,.refl,q⟩
def Ml:∀C sp,Iv a C sp->xW P w K mg base 1 "told" C (Px K sp):=by
 rintro C sp ⟨⟨v,rfl⟩,rfl⟩
 have F:=Q1 (P:=P) (w:=w) (base:=base) G;cases v with
 | bar _ _=>exact⟨G.t.toCls,_,_,_,G.cl,F,G.m.b⟩
 | shut _ _=>exact⟨G.u.toCls,_,_,_,G.cm,F,G.m.b⟩
 | always _ _=>exact⟨G.x.toCls,_,_,_,G.cn,F,G.m.b⟩
 | night _ _ _ _=>exact⟨G.o.toCls,_,_,_,G.co,F,G.m.b⟩
 | busy _ _=>exact⟨G.y.toCls,_,_,_,G.cp,F,G.m.b⟩
 | silent _ _ _=>exact⟨G.v.toCls,_,_,_,G.cq,F,G.m.b⟩
 | wait _=>exact⟨G.w.toCls,_,_,_,G.cr,F,G.m.b⟩
 | breaks _=>exact⟨G.q.toCls,_,_,_,G.cs,F,G.m.b⟩
def RX:∀C sp,KM a C sp->xW P w K mg base 1 "wants" C (Px K sp):=by
 rintro C sp (⟨rfl|rfl,rfl⟩|⟨rfl|rfl|rfl|rfl,rfl⟩|⟨rfl,rfl⟩|⟨rfl,rfl⟩)
 .exact⟨G.t.toCls,_,_,_,G.aD.ni,Qk G,G.aD.b⟩
 .exact⟨G.u.toCls,_,_,_,G.aE.ni,Nq G,G.aE.b⟩
 .exact⟨G.x.toCls,_,_,_,G.cA,wI G,G.A.b⟩
 .exact⟨G.o.toCls,_,_,_,G.cB,wI G,G.A.b⟩
 .exact⟨G.y.toCls,_,_,_,G.cC,wI G,G.A.b⟩
 .exact⟨G.v.toCls,_,_,_,G.cD,wI G,G.A.b⟩
 .exact⟨G.w.toCls,_,_,_,G.aF.ni,NK G,G.aF.b⟩
 .exact⟨G.q.toCls,_,_,_,G.aG.ni,Iq G,G.aG.b⟩
def uZ(x:Str):Bool:=decide ((1:Int)<=x.length)&&(decide ((x.length:Int)<=6)&&x.cps.toList.all λc=>DY ⟨#[c]⟩ uO)
def Iw:rH:=λds M Q=>∃x:Str,ds=[.str x]/\x.length<=1000/\Q (.bl (uZ x)) M
def Kg:rH:=λds M Q=>∃w,ds=[.bl Db,w]/\Q .mM M
noncomputable def xu(ss:QQQ):Bool:=((uk ss).length:Int)==(ss.length:Int)
def SN(M:Mp)(x:D)(ss:QQQ):Prop:=x=.tup (ss.map D.str)\/∃a,x=.ref a/\oP M a=ga (ss.map D.str)
def Lx:rH:=λds M Q=>Dn λx ss=>ds=[x]/\SN M x ss/\ss.length<4000/\Q (.bl (xu ss)) M
def As{α:Type}(f:α->Bool)(l:List α):(l.map f).all id=l.all f:=by rw[jL];rfl
def tD(x:Str)(ss:QQQ):inD (.str x) (ss.map D.str)=ss.any (·==x):=by unfold inD;rw[iX];rfl
theorem qH:∀ss:QQQ,(ss.map D.str).all vw=Db
 | []=>rfl
 | _::r=>by rw[dY,fG,qH r];rfl
def tw(cs ks:QQQ)(m:Int):Bool:=decide ((1:Int)<=cs.length)&&(decide ((cs.length:Int)<=m)&&(xu cs&&cs.all λc=>ks.any (·==c)))
def Lu:rH:=λds M Q=>BO λcs ks k m=>ds=[.tup (cs.map D.str),.ref k,.int m]/\oP M k=ga (ks.map D.str)/\cs.length<4000/\Q (.bl (tw cs ks m)) M
def CC:Fq P w K mg base 1 a.ak Iw:=by
 refine fq G.ak.toDG Jm (λr u=>⟨_,(pH (pO (ue (uT u pJ (qc qJ Z' G.g qG (qv v0)) (tG Z' G.cO)) (tM (qc (FR Z') Z' G.bS Fs (qv (qP Z' (xN (ix:=[Fa]) (N':=["sign"])) (qV v0) (qD 0) rX (qy u v0 (tG Z' G.cP))))))))),?_⟩)
 rintro ds M Q ⟨x,rfl,hl,q⟩
 have hz:=dM;refine⟨by lia,qT (λh1=>?_) (λh1=>?_)⟩
 .refine qT (λh2=>?_) (λh2=>?_)
  .refine rS (f:=λd=>match d with|.str z=>D.bl (DY z uO)|_=>.mM) trivial _ [] _ ?_ (λd hd k hk=>?_) λp hp=>?_
   .rw[cT];have:x.cps.toList.length=x.length:=by simp[Str.length]
    simp only[dH];lia
   .obtain⟨c,_,rfl⟩:=dE.mp hd;exact hk
   .refine pF pU ?_;have e:([]++(x.cps.toList.map λc=>D.str ⟨#[c]⟩).map λd=>match d with|.str z=>D.bl (DY z uO)|_=>.mM)=x.cps.toList.map λc=>D.bl (DY ⟨#[c]⟩ uO):=by rw[d9,d6];rfl
    rw[e];refine pF (yK (λc=>DY ⟨#[c]⟩ uO) x.cps.toList) ⟨M,.new hp,?_⟩;rw[As];have:uZ x=x.cps.toList.all λc=>DY ⟨#[c]⟩ uO:=by unfold uZ;rw[h1,h2];rfl
    rw[<-this];exact q
  .refine⟨M,.refl,?_⟩;have:uZ x=pc:=by
    unfold uZ;have h2:decide ((x.length:Int)<=6)=pc:=by simpa using h2
    rw[h2];simp
   rw[<-this];exact q
 .refine⟨M,.refl,?_⟩;have:uZ x=pc:=by
   unfold uZ;have h1:decide ((1:Int)<=x.length)=pc:=by simpa using h1
   rw[h1];rfl
  rw[<-this];exact q
def tK:Fq P w K mg base 1 a.n Kg:=by
 refine fq G.n.toDG Rx (λr u=>⟨_,(pH (qa (zc (wb v0))
 (pH G9)
 pV)),?_⟩)
 rintro ds M Q ⟨x,rfl,q⟩
 exact⟨M,.refl,q⟩
def EH:Fq P w K mg base 1 a.al Lx:=by
 refine fq G.al.toDG DS (λr u=>⟨_,(pH (pO (qy u (LQ Z' v0 Z' G.g Z' G.cF qG Tp) (qc qJ Z' G.g qG (qv v0))))),?_⟩)
 rintro ds M Q ⟨x,ss,rfl,hx,hl,q⟩
 have key:((ss.map D.str).length:Int)=ss.length:=by rw[cT]
 rcases hx with rfl|⟨b,rfl,hb⟩
 .refine pF (L3.Dz ss) ⟨hl,M,.refl,?_⟩;rw[key];exact q
 .refine pF hb (pF (L3.Dz ss) ⟨hl,pF hb ⟨M,.refl,?_⟩⟩);rw[key];exact q
def AE:Fq P w K mg base 2 a.T Lu:=by
 refine fq G.T.toDG Ge (λr u=>⟨_,(pH (pO (ue (uT u pJ (qc qJ Z' G.g qG (qv v0)) Y2) (ue (pP (EH G) r G.al (qv v0)) (tM (qc (FR Z') Z' G.bS Fs (qv (qP Z' (xN (ix:=[Fa,ga 1]) (N':=["name","known"])) (qV v0) (qD 0) rX (qy u v0 Y1))))))))),?_⟩)
 rintro ds M Q ⟨cs,ks,k,m,rfl,hk,hl,q⟩
 have hz:=dM;have key:((cs.map D.str).length:Int)=cs.length:=by rw[cT]
 have end_:∀b:Bool,tw cs ks m=b->∃YQ,qN YQ M/\Q (.bl b) YQ:=λb e=>⟨M,.refl,e ▸ q⟩;refine qT (λh1=>?_) (λh1=>?_)
 .have h1:decide ((1:Int)<=cs.length)=Db:=by rw[<-key];exact h1
  refine qT (λh2=>?_) (λh2=>?_)
  .have h2:decide ((cs.length:Int)<=m)=Db:=by rw[<-key];exact h2
   refine⟨_,cs,Z',.inl Z',hl,qT (λh3=>?_) (λh3=>?_)⟩
   .refine rS (f:=λd=>match d with|.str z=>D.bl (ks.any (·==z))|_=>.mM) trivial _ [] _ ?_ (λd hd k0 hk0=>?_) λp hp=>?_
    .rw[cT];simp only[dH];lia
    .obtain⟨c,_,rfl⟩:=dE.mp hd;refine pF hk ⟨Z',qH ks,?_⟩;show k0 (.bl (inD (.str c) (ks.map D.str))) M;rw[tD];exact hk0
    .refine pF pU ?_;have e:([]++(cs.map D.str).map λd=>match d with|.str z=>D.bl (ks.any (·==z))|_=>.mM)=cs.map λc=>D.bl (ks.any (·==c)):=by rw[d9,d6];rfl
     rw[e];refine pF (yK (λc=>ks.any (·==c)) cs) ⟨M,.new hp,?_⟩;rw[As];have:tw cs ks m=cs.all λc=>ks.any (·==c):=by unfold tw;rw[h1,h2,h3];rfl
     rw[<-this];exact q
   .refine end_ _ ?_;unfold tw;have h3:xu cs=pc:=by simpa using h3
    rw[h3];simp
  .refine end_ _ ?_;unfold tw;have h2:decide ((cs.length:Int)<=m)=pc:=by
    rw[<-key]
    simpa using h2
   rw[h2];simp
 .refine end_ _ ?_;unfold tw;have h1:decide ((1:Int)<=cs.length)=pc:=by
   rw[<-key]
   simpa using h1
  rw[h1];rfl
abbrev vk:=Str×Int×Int
abbrev uP:=Str×Str×QQQ
abbrev uA:=Bool×Wi
noncomputable def rC(p:vk):D:=.tup [.str p.1,.int p.2.1,.int p.2.2]
noncomputable def rK(g:uP):D:=.tup [.str g.1,.str g.2.1,names g.2.2]
noncomputable def sI(w:uA):D:=.tup [.bl w.1,.tup w.2.told]
structure Fd(p:vk):Prop where
 len:p.1.length<=1000
 nm:uZ p.1=Db
 l1:1<=p.2.1
 l2:p.2.1<=3
 r1:0<=p.2.2
 r2:p.2.2<=9
structure FZ(pn:QQQ)(g:uP):Prop where
 len:g.1.length<=1000
 nm:uZ g.1=Db
 man:g.2.1="all"\/g.2.1="turns"
 pD:g.2.2.length<4000
 mem:tw g.2.2 pn 4=Db
def xZ(ss:QQQ)(x:Str):Prop:=ss.any (·==x)=Db
def AQ(pn nm:QQQ):Wi->Prop
 | .bar x ns=>xZ pn x/\ns.length<4000/\tw ns nm 6=Db
 | .shut x ns=>xZ nm x/\ns.length<4000/\tw ns pn 6=Db
 | .always x y=>xZ nm x/\xZ nm y/\x≠y
 | .night x y f l=>xZ nm x/\xZ nm y/\x≠y/\(0<=f/\f<=23)/\(0<=l/\l<=23)/\f≠l
 | .busy x y=>xZ nm x/\xZ nm y/\x≠y
 | .silent x y n=>xZ nm x/\xZ nm y/\x≠y/\1<=n/\n<=9
 | .wait x=>xZ pn x
 | .breaks x=>xZ pn x
inductive yl(pn nm:QQQ):Str->D->Prop
 | m7 (x:Str) (h:xZ pn x):yl pn nm "phone" (.str x)
 | name (x:Str) (h:xZ nm x):yl pn nm "name" (.str x)
 | mJ (cs:QQQ) (l:cs.length<4000) (h:tw cs pn 6=Db):yl pn nm "phones" (names cs)
 | names (cs:QQQ) (l:cs.length<4000) (h:tw cs nm 6=Db):yl pn nm "names" (names cs)
 | hour (i:Int) (h0:0<=i) (h1:i<=23):yl pn nm "hour" (.int i)
 | turns (i:Int) (h0:1<=i) (h1:i<=9):yl pn nm "turns" (.int i)
def JW:rH:=λds M Q=>JT λk d pl nl (pn nm:QQQ)=>ds=[.str k,d,.ref pl,.ref nl]/\oP M pl=ga (pn.map D.str)/\oP M nl=ga (nm.map D.str)/\yl pn nm k d/\Q (.bl Db) M
def Bs:rH:=λds M Q=>Dn λr (ps:List vk)=>ds=[.ref r]/\oP M r=ga (ps.map rC)/\1<=ps.length/\ps.length<=8/\(∀p∈ps,Fd p)/\Q .mM M
def BC:rH:=λds M Q=>BO λr (gs:List uP) pl (pn:QQQ)=>ds=[.ref r,.ref pl]/\oP M r=ga (gs.map rK)/\oP M pl=ga (pn.map D.str)/\gs.length<=3/\(∀g∈gs,FZ pn g)/\Q .mM M
def DJ:rH:=λds M Q=>HX λv pl nl (pn nm:QQQ)=>ds=[.tup (Wi.told v),.ref pl,.ref nl]/\oP M pl=ga (pn.map D.str)/\oP M nl=ga (nm.map D.str)/\AQ pn nm v/\Q .mM M
def BF:rH:=λds M Q=>JT λr (ws:List uA) pl nl (pn nm:QQQ)=>ds=[.ref r,.ref pl,.ref nl]/\oP M r=ga (ws.map sI)/\oP M pl=ga (pn.map D.str)/\oP M nl=ga (nm.map D.str)/\ws.length<=16/\(∀w∈ws,AQ pn nm w.2)/\Q .mM M
def Yh(h:xZ ss x):inD (.str x) (ss.map D.str)=Db:=by rw[tD];exact h
def R4:Fq P w K mg base 3 a.bk JW:=by
 refine fq G.bk.toDG DO (λr u=>⟨_,(pG (qa (pR u v0 pK)
 (pH (pO (qy u Y1 Y2)))
 pV)
 (pG (qa (pR u v0 pK)
 (pH (pO (qy u Y1 Y3)))
 pV)
 (pG (qa (pR u v0 pK)
 (pH (pO (pP (AE G) r G.T (rG Y1 Y2 (tG Z' G.b7)))))
 pV)
 (pG (qa (pR u v0 pK)
 (pH (pO (pP (AE G) r G.T (rG Y1 Y3 (tG Z' G.b7)))))
 pV)
 (pG (qa (pR u v0 pK)
 (pH (pO (uT u pJ Y1 (tG Z' G.cQ))))
 pV)
 (pH (pO (uT u pJ Y1 (tG Z' G.cR))))))))),?_⟩)
 rintro ds M Q ⟨k,d,pl,nl,pn,nm,rfl,hp,hn,ok,q⟩
 cases ok with
 | m7 x h=>refine pF hp ⟨Z',qH pn,M,.refl,?_⟩;show Q (.bl (inD (.str x) (pn.map D.str))) M;rw[Yh h];exact q
 | name x h=>refine pF hn ⟨Z',qH nm,M,.refl,?_⟩;show Q (.bl (inD (.str x) (nm.map D.str))) M;rw[Yh h];exact q
 | mJ cs l h=>exact⟨cs,pn,pl,6,Z',hp,l,M,.refl,by rw[h];exact q⟩
 | names cs l h=>exact⟨cs,nm,nl,6,Z',hn,l,M,.refl,by rw[h];exact q⟩
 | hour i h0 h1=>refine BA (c:=decide (0<=i)) (dX h0) ⟨M,.refl,?_⟩;show Q (.bl (decide (i<=23))) M;rw[dX h1];exact q
 | turns i h0 h1=>refine BA (c:=decide (1<=i)) (dX h0) ⟨M,.refl,?_⟩;show Q (.bl (decide (i<=9))) M;rw[dX h1];exact q
def Bu:Fq P w K mg base 2 a.bi Bs:=by
 refine fq G.bi.toDG uJ (λr u=>⟨_,(pG (pX (pP (tK G) r G.n (so (uT u pJ (qc qJ Z' G.g qG (qv v0)) (tG Z' G.cH)) pK)))
 (pH (vg fi Z' (qV v0) (uQ (n:=3) Z' (qC (sF 1 uJ) (qC (sF 2 uJ) (qC (sF 3 uJ) tR))))
 (pG (pX (pP (tK G) r G.n (so (pP (CC G) r G.ak (qv Y1)) pK)))
 (pG (pX (pP (tK G) r G.n (so (uT u pJ Y2 (tG Z' G.cI)) pK)))
 (pH (pX (pP (tK G) r G.n (so (uT u pJ Y3 (tG Z' G.cJ)) pK))))))))),?_⟩)
 rintro ds M Q ⟨r,ps,rfl,Zw,h1,h8,mR,q⟩
 have el:((ps.map rC).length:Int)=ps.length:=by rw[cT]
 refine pF Zw (BA (c:=decide ((1:Int)<=(ps.map rC).length)) (dX (by lia)) ⟨_,by rw[dX (show((ps.map rC).length:Int)<=8 by lia)],pF Zw ?_⟩);refine BS (λU M'=>M=M'/\∃x y z,U=[ga (.ref r),x,y,z]) (λU M' j=>by rw[<-j.1];exact Zw) _ _ _ ⟨Z',Fa,Fa,Fa,Z'⟩ ?_ ?_
 .rintro d hd U M' ⟨rfl,x,y,z,rfl⟩ nx YU
  obtain⟨p,hp,rfl⟩:=dE.mp hd;have o:=mR p hp;refine⟨Z',⟨p.1,Z',o.len,_,by rw[o.nm],?_⟩⟩;refine BA (c:=decide ((1:Int)<=p.2.1)) (dX o.l1) ⟨_,by rw[dX (show p.2.1<=3 from o.l2)],?_⟩;refine BA (c:=decide ((0:Int)<=p.2.2)) (dX o.r1) ⟨_,by rw[dX (show p.2.2<=9 from o.r2)],?_⟩;exact YU _ _ ⟨Z',_,_,_,Z'⟩
 .rintro U M' ⟨rfl,x,y,z,rfl⟩
  exact⟨M,.refl,q⟩
def Br:Fq P w K mg base 3 a.bj BC:=by
 refine fq G.bj.toDG uH (λr u=>⟨_,(pG (pX (pP (tK G) r G.n (so (qy u (qc qJ Z' G.g qG (qv v0)) (tG Z' G.cK)) pK)))
 (pH (vg fi Z' (qV v0) (uQ (n:=3) Z' (qC (sF 2 uH) (qC (sF 3 uH) (qC (sF 4 uH) tR))))
 (pG (pX (pP (tK G) r G.n (so (pP (CC G) r G.ak (qv Y2)) pK)))
 (pG (pX (pP (tK G) r G.n (so (qy u Y3 (tG Z' G.cL)) pK)))
 (pH (pX (pP (tK G) r G.n (so (pP (AE G) r G.T (rG v4 Y1 (tG Z' G.cM))) pK))))))))),?_⟩)
 rintro ds M Q ⟨r,gs,pl,pn,rfl,Zw,hp,h3,mR,q⟩
 have el:((gs.map rK).length:Int)=gs.length:=by rw[cT]
 refine pF Zw ⟨_,by rw[dX (show((gs.map rK).length:Int)<=3 by lia)],pF Zw ?_⟩;refine BS (λU M'=>M=M'/\∃x y z,U=[ga (.ref r),ga (.ref pl),x,y,z]) (λU M' j=>by rw[<-j.1];exact Zw) _ _ _ ⟨Z',Fa,Fa,Fa,Z'⟩ ?_ ?_
 .rintro d hd U M' ⟨rfl,x,y,z,rfl⟩ nx YU
  obtain⟨g,hg,rfl⟩:=dE.mp hd;have o:=mR g hg;refine⟨Z',⟨g.1,Z',o.len,_,by rw[o.nm],?_⟩⟩;have hm:inD (.str g.2.1) [.str "all",.str "turns"]=Db:=by rcases o.man with e|e<;>(rw[e];rfl)
  refine⟨Z',Z',.str "a group's manner is all or turns",eE (λb=>[D.bl b,D.str "a group's manner is all or turns"]) hm,?_⟩;refine⟨g.2.2,pn,pl,4,Z',hp,o.pD,_,by rw[o.mem],?_⟩;exact YU _ _ ⟨Z',_,_,_,Z'⟩
 .rintro U M' ⟨rfl,x,y,z,rfl⟩
  exact⟨M,.refl,q⟩
def DD:Fq P w K mg base 4 a.bl DJ:=by
 refine fq G.bl.toDG uE (λr u=>⟨_,(pG (pX (pP (tK G) r G.n (so (Ni G.b6 Z' (pT v0 pJ)) pK)))
 (pG (pW 3 uE (L4 G.b6 Z' (pT v0 pJ)))
 (pG (pW 4 uE (tI v0 (uo pJ) uq))
 (pG (pX (pP (tK G) r G.n (so (qy u (qc qJ Z' G.g qG (qv v4)) (qc qJ Z' G.g qG (qv Y3))) pK)))
 (pG (vg fi Z' (UR Z' G.b5 (so Y3 v4)) (uQ (n:=2) Z' (qC (sF 5 uE) (qC (sF 6 uE) tR)))
 (pH (pX (pP (tK G) r G.n (so (pP (R4 G) r G.bk (qh v5 (rG v6 Y1 Y2))) pK)))))
 (pG (qa (pR u (tI Y3 uq (uo pJ)) (pY (so pK pK)))
 (pH (pX (pP (tK G) r G.n (so (qy u (pT v4 pJ) (pT v4 pJ)) pK))))
 pV)
 (pH (qa (pR u (tI Y3 (uo pJ) uq) (pY (so pK pK)))
 (pH (pX (pP (tK G) r G.n (so (qy u (pT v4 pJ) (pT v4 pJ)) pK))))
 pV)))))))),?_⟩)
 rintro ds M Q ⟨v,pl,nl,pn,nm,rfl,hp,hn,ok,q⟩
 have part:∀{k:Str} {d:D} {C:DK},yl pn nm k d->C (.bl Db) M->JW [.str k,d,.ref pl,.ref nl] M C:=λo c=>⟨_,_,pl,nl,pn,nm,Z',hp,hn,o,c⟩;have need:∀{x:D} {C:DK},C .mM M->Kg [.bl Db,x] M C:=λc=>⟨_,Z',c⟩;have ne:∀{x y:Str},x≠y->(!(x==y))=Db:=λh=>by simpa using h
 have nei:∀{x y:Int},x≠y->(!(x==y))=Db:=λh=>by simpa using h
 have YR:∃YQ,qN YQ M/\Q .mM YQ:=⟨M,.refl,q⟩;cases v with
 | bar x ns=>obtain⟨h1,h2,h3⟩:=ok;refine⟨_,Z',_,Z',?_⟩;refine⟨Z',_,_,pl,nl,pn,nm,Z',hp,hn,.m7 x h1,_,Z',trivial,⟨Z',_,_,pl,nl,pn,nm,Z',hp,hn,.names ns h2 h3,_,Z',trivial,?_⟩⟩;exact⟨pD Z',pD Z',YR⟩
 | shut x ns=>obtain⟨h1,h2,h3⟩:=ok;refine⟨_,Z',_,Z',?_⟩;refine⟨Z',_,_,pl,nl,pn,nm,Z',hp,hn,.name x h1,_,Z',trivial,⟨Z',_,_,pl,nl,pn,nm,Z',hp,hn,.mJ ns h2 h3,_,Z',trivial,?_⟩⟩;exact⟨pD Z',pD Z',YR⟩
 | always x y=>obtain⟨h1,h2,h3⟩:=ok;refine⟨_,Z',_,Z',?_⟩;refine⟨Z',_,_,pl,nl,pn,nm,Z',hp,hn,.name x h1,_,Z',trivial,⟨Z',_,_,pl,nl,pn,nm,Z',hp,hn,.name y h2,_,Z',trivial,?_⟩⟩;refine⟨pD Z',⟨_,by rw[ne h3],?_⟩⟩;exact⟨pD Z',YR⟩
 | night x y f l=>obtain⟨h1,h2,h3,h4,h5,h6⟩:=ok;refine⟨_,Z',_,Z',?_⟩;refine⟨Z',_,_,pl,nl,pn,nm,Z',hp,hn,.name x h1,_,Z',trivial,⟨Z',_,_,pl,nl,pn,nm,Z',hp,hn,.name y h2,_,Z',trivial,⟨Z',_,_,pl,nl,pn,nm,Z',hp,hn,.hour f h4.1 h4.2,_,Z',trivial,⟨Z',_,_,pl,nl,pn,nm,Z',hp,hn,.hour l h5.1 h5.2,_,Z',trivial,?_⟩⟩⟩⟩;refine⟨pD Z',⟨_,by rw[ne h3],?_⟩⟩;refine⟨pD Z',⟨_,by rw[nei h6],?_⟩⟩;exact YR
 | busy x y=>obtain⟨h1,h2,h3⟩:=ok;refine⟨_,Z',_,Z',?_⟩;refine⟨Z',_,_,pl,nl,pn,nm,Z',hp,hn,.name x h1,_,Z',trivial,⟨Z',_,_,pl,nl,pn,nm,Z',hp,hn,.name y h2,_,Z',trivial,?_⟩⟩;refine⟨pD Z',⟨_,by rw[ne h3],?_⟩⟩;exact⟨pD Z',YR⟩
 | silent x y n=>obtain⟨h1,h2,h3,h4,h5⟩:=ok;refine⟨_,Z',_,Z',?_⟩;refine⟨Z',_,_,pl,nl,pn,nm,Z',hp,hn,.name x h1,_,Z',trivial,⟨Z',_,_,pl,nl,pn,nm,Z',hp,hn,.name y h2,_,Z',trivial,⟨Z',_,_,pl,nl,pn,nm,Z',hp,hn,.turns n h4 h5,_,Z',trivial,?_⟩⟩⟩;refine⟨pD Z',⟨_,by rw[ne h3],?_⟩⟩;exact⟨pD Z',YR⟩
 | wait x=>refine⟨_,Z',_,Z',?_⟩;refine⟨Z',_,_,pl,nl,pn,nm,Z',hp,hn,.m7 x ok,_,Z',trivial,?_⟩;exact⟨pD Z',pD Z',YR⟩
 | breaks x=>refine⟨_,Z',_,Z',?_⟩;refine⟨Z',_,_,pl,nl,pn,nm,Z',hp,hn,.m7 x ok,_,Z',trivial,?_⟩;exact⟨pD Z',pD Z',YR⟩
def Bz:Fq P w K mg base 5 a.bm BF:=by
 refine fq G.bm.toDG vB (λr u=>⟨_,(pG (pX (pP (tK G) r G.n (so (qy u (qc qJ Z' G.g qG (qv v0)) (tG Z' G.cN)) pK)))
 (pH (vg fi Z' (qV v0) (uQ (n:=2) Z' (qC (sF 3 vB) (qC (sF 4 vB) tR)))
 (pH (pX (pP (DD G) r G.bl (rG v4 Y1 Y2))))))),?_⟩)
 rintro ds M Q ⟨r,ws,pl,nl,pn,nm,rfl,Zw,hp,hn,h16,mR,q⟩
 have el:((ws.map sI).length:Int)=ws.length:=by rw[cT]
 refine pF Zw ⟨_,by rw[dX (show((ws.map sI).length:Int)<=16 by lia)],pF Zw ?_⟩;refine BS (λU M'=>M=M'/\∃x y,U=[ga (.ref r),ga (.ref pl),ga (.ref nl),x,y]) (λU M' j=>by rw[<-j.1];exact Zw) _ _ _ ⟨Z',Fa,Fa,Z'⟩ ?_ ?_
 .rintro d hd U M' ⟨rfl,x,y,rfl⟩ nx YU
  obtain⟨v,hv,rfl⟩:=dE.mp hd;exact⟨Z',⟨v.2,pl,nl,pn,nm,Z',hp,hn,mR v hv,YU _ _ ⟨Z',_,_,Z'⟩⟩⟩
 .rintro U M' ⟨rfl,x,y,rfl⟩
  exact⟨M,.refl,q⟩
structure pM where
 mJ:List vk
 groups:List uP
 mG:List uA
noncomputable def pM.pn(l:pM):QQQ:=l.mJ.map (·.1)
noncomputable def pM.gn(l:pM):QQQ:=l.groups.map (·.1)
noncomputable def pM.nm(l:pM):QQQ:=l.pn++l.gn
structure rb(l:pM):Prop where
 p1:1<=l.mJ.length
 p8:l.mJ.length<=8
 po:∀p∈l.mJ,Fd p
 g3:l.groups.length<=3
 go:∀g∈l.groups,FZ l.pn g
 nd:l.nm.Nodup
 oH:l.mG.length<=16
 wo:∀w∈l.mG,AQ l.pn l.nm w.2
def Ef{ss:QQQ}(h:ss.Nodup):xu ss=Db:=by unfold xu;rw[IZ ss h];simp
def DT:rH:=λds M Q=>BO λr1 r2 r3 (l:pM)=>ds=[.ref r1,.ref r2,.ref r3]/\oP M r1=ga (l.mJ.map rC)/\oP M r2=ga (l.groups.map rK)/\oP M r3=ga (l.mG.map sI)/\rb l/\Q .mM M
noncomputable def Eb:D->D
 | .tup (x::_)=>x
 | _=>.mM
def zm(ps:List vk):(ps.map rC).map Eb=(ps.map (·.1)).map D.str:=by rw[d6,d6];rfl
def zt(ps:List uP):(ps.map rK).map Eb=(ps.map (·.1)).map D.str:=by rw[d6,d6];rfl
def D8:Fq P w K mg base 6 a.bn DT:=by
 refine fq G.bn.toDG wN (λr u=>⟨_,(pG (pX (pP (Bu G) r G.bi (qv v0)))
 (pG (uM (i:=3) wN.nd Z' (Or.inl Z') Z' (xN (ix:=[Fa]) (N':=["phone"])) (qV v0) (qD 0) rX (pT v0 pJ))
 (pG (pX (pP (Br G) r G.bj (so Y1 Y3)))
 (pG (pW 4 wN (qk Y3 (qP Z' (xN (ix:=[Fa]) (N':=["group"])) (qV Y1) (qD 0) rX (pT v0 pJ))))
 (pG (pX (pP (tK G) r G.n (so (pP (EH G) r G.al (qv v4)) pK)))
 (pH (pX (pP (Bz G) r G.bm (rG Y2 Y3 v4))))))))),?_⟩)
 rintro ds M Q ⟨r1,r2,r3,l,rfl,h1,h2,h3,ok,q⟩
 have hz:=dM;have l1:=ok.p8;have l2:=ok.g3;refine⟨r1,l.mJ,Z',h1,ok.p1,ok.p8,ok.po,pF h1 ?_⟩;refine rS (f:=Eb) h1 _ [] _ (by rw[cT];simp only[dH];lia) (λd hd k hk=>?_) λp hp=>?_
 .obtain⟨x,_,rfl⟩:=dE.mp hd;exact hk
 rw[d9,zm];obtain⟨M1,e0,s1,lp⟩:=tL (ds:=(l.mJ.map (·.1)).map D.str) hp;rw[<-e0];have lp:oP M1 p=ga (l.pn.map D.str):=lp;refine⟨r2,l.groups,p,l.pn,Z',s1.lst h2,lp,ok.g3,ok.go,?_⟩;refine pF (s1.lst h2) (rS (f:=Eb) (s1.lst h2) _ [] _ (by rw[cT];simp only[dH];lia) (λd hd k hk=>?_) λp2 YY=>?_)
 .obtain⟨x,_,rfl⟩:=dE.mp hd;exact hk
 rw[d9,zt];have s2:=qN.new (c:=.lst ((l.groups.map (·.1)).map D.str)) YY;refine pF (s2.lst lp) (pF pU ⟨?_,λp3 hp3=>?_⟩)
 .rw[cT,cT,cT];show(l.mJ.map (·.1)).length+_<=_;rw[cT];lia
 have en:l.pn.map D.str++(l.groups.map (·.1)).map D.str=l.nm.map D.str:=by unfold pM.nm;rw[dF];rfl
 rw[en];have s3:=s2.trans (qN.new (c:=.lst (l.nm.map D.str)) hp3);have l3:=@pU (pQ M1 p2 (.lst ((l.groups.map (·.1)).map D.str))) p3 (l.nm.map D.str);generalize pQ (pQ M1 p2 (.lst ((l.groups.map (·.1)).map D.str))) p3 (.lst (l.nm.map D.str))=M3 at s3 l3 ⊢;have ln:l.nm.length<4000:=by unfold pM.nm pM.pn pM.gn;rw[cW,cT,cT];lia
 refine⟨_,l.nm,Z',.inr ⟨p3,Z',l3⟩,ln,_,by rw[Ef ok.nd],?_⟩;exact⟨r3,l.mG,p,p3,l.pn,l.nm,Z',s3.lst (s1.lst h3),s3.lst lp,l3,ok.oH,ok.wo,M,s1.trans s3,q⟩
noncomputable def Sg(ph gr ws on pr gd:Uf):T0 (Str×D):=[("phones",.ref ph),("groups",.ref gr),("wishes",.ref ws),("on",.ref on),("phone_rows",.ref pr),("group_rows",.ref gd)]
def TZ(l:pM):T0 (rD×D):=l.mJ.map λp=>(Sum.inr p.1,rC p)
def IP(l:pM):T0 (rD×D):=l.groups.map λg=>(Sum.inr g.1,rK g)
def tE(a:Ad)(M:Mp)(rs:QXQ)(ws:List uA):Prop:=rs.length=ws.length/\∀(i:Nat) (r:Uf) (v:uA),rs[i]?=ga r->ws[i]?=ga v->M r=ga (.ins (v.2.cls a) v.2.nH)
def rM(a:Ad)(M:Mp)(p:Uf)(l:pM):Prop:=U5 λph gr ws on pr gd (rs:QXQ)=>M p=ga (.ins a.h (Sg ph gr ws on pr gd))/\oP M ph=ga (l.mJ.map rC)/\oP M gr=ga (l.groups.map rK)/\
 oP M ws=ga (rs.map D.ref)/\oP M on=ga (l.mG.map λw=>D.bl w.1)/\zY M pr=ga (TZ l)/\zY M gd=ga (IP l)/\tE a M rs l.mG
def tE.keep{p:Uf}(h:tE a M rs ws)(k:sH p M M')(n:∀r∈rs,r≠p):tE a M' rs ws:=⟨h.1,λi r v e1 e2=>k r _ (n r (fm e1)) (h.2 i r v e1 e2)⟩
def tE.sub(h:tE a M rs ws)(k:qN M M'):tE a M' rs ws:=⟨h.1,λi r v e1 e2=>k r _ (h.2 i r v e1 e2)⟩
def rM.sub{p:Uf}(h:rM a M p l)(s:qN M M'):rM a M' p l:=by obtain⟨ph,gr,ws,on,pr,gd,rs,h1,h2,h3,h4,h5,h6,h7,h8⟩:=h;exact⟨ph,gr,ws,on,pr,gd,rs,s _ _ h1,s.lst h2,s.lst h3,s.lst h4,s.lst h5,s.dk h6,s.dk h7,h8.sub s⟩
def QR(a:Ad):rH:=λds M Q=>HX λp r1 r2 r3 (l:pM)=>ds=[.ref p,.ref r1,.ref r2,.ref r3]/\M p=ga (.ins a.h [])/\oP M r1=ga (l.mJ.map rC)/\oP M r2=ga (l.groups.map rK)/\oP M r3=ga (l.mG.map sI)/\rb l/\
 ∀M',sH p M M'->rM a M' p l->(∀YQ,(∀b c,(b=p\/M b=Fa)->M' b=ga c->YQ b=ga c)->rM a YQ p l)->Q .mM M'
def sd{p x:Uf}{c:uR}(k:sH p M N)(hp:N p=ga c)(h:N x=Fa):M x=Fa:=by
 cases e:M x with
 | none=>rfl
 | some d=>
  have n:x≠p:=λz=>by rw[z,hp]at h;cases h
  rw[k x d n e]at h;cases h
def yM{a:Uf}{es:T0 (rD×D)}(h:zY M a=ga es):M a=ga (.dk es):=by
 unfold zY at h;split at h
 .rename_i e;rw[e];cases h;rfl
 .cases h
theorem xy{α:Type}(f:α->Str)(g:α->D):∀l:List α,xK (l.map λx=>D.tup [.str (f x),g x])=ga (l.map λx=>(Sum.inr (f x),g x))
 | []=>rfl
 | x::r=>by show(xK (r.map λx=>D.tup [.str (f x),g x])).map ((Sum.inr (f x),g x)::·)=_;rw[xy f g r];rfl
def LB{ss:QQQ}(h:ss.Nodup):(ss.map λx=>(Sum.inr x:rD)).Nodup:=by
 induction ss with
 | nil=>exact eJ
 | cons x r ih=>obtain⟨h1,h2⟩:=dR.mp h;rw[dY];refine dR.mpr ⟨λz=>h1 ?_,ih h2⟩;obtain⟨y,hy,e⟩:=dE.mp z;cases e;exact hy
def zh{α:Type}{f:α->Str}{g:α->D}{l:List α}(h:(l.map f).Nodup):((l.map λx=>((Sum.inr (f x):rD),g x)).map (·.1)).Nodup:=by rw[d6];have:=LB h;rw[d6]at this;exact this
def BP(d:D):D:=.tup [Eb d,d]
noncomputable def Yk:D->D
 | .tup (x::_)=>x
 | _=>.mM
def UG(ws:List uA):(ws.map sI).map Yk=ws.map λw=>D.bl w.1:=by rw[d6];rfl
def GL(ps:List vk):(ps.map rC).map BP=ps.map λp=>D.tup [.str p.1,rC p]:=by rw[d6];rfl
def GX(ps:List uP):(ps.map rK).map BP=ps.map λp=>D.tup [.str p.1,rK p]:=by rw[d6];rfl
def tE.snoc{r:Uf}{v:uA}(h:tE a M rs ws)(n:M r=Fa):tE a (pQ M r (.ins (v.2.cls a) v.2.nH)) (rs++[r]) (ws++[v]):=by
 refine⟨by rw[cW,cW,h.1];rfl,λi r' v' e1 e2=>?_⟩;by_cases hi:i<rs.length
 .rw[eZ hi]at e1;rw[eZ (by rw[<-h.1];exact hi)]at e2;have:=h.2 i r' v' e1 e2;rw[uG (RW this n)];exact this
 .have hi':i=rs.length:=by have:=(cX.mp e1).1;rw[cW,dD]at this;lia
  subst hi';rw[eX (dq _)]at e1;rw[h.1,eX (dq _)]at e2;simp only[ie,iI,js]at e1 e2;subst e1 e2;exact pZ
def Kj:Fq P w K mg base 7 a.V (QR a):=by
 refine fq G.V.toDG Gm (λr u=>⟨_,(pG (pX (pP (D8 G) r G.bn (rG Y1 Y2 Y3)))
 (pG (qw v0 (qe rW Z' G.l rT (qv Y1)))
 (pG (qw v0 (qe rW Z' G.l rT (qv Y2)))
 (pG (qw v0 (qP Z' (xN (ix:=[Fa,Fa]) (N':=["on","wish"])) (qV Y3) (uQ (n:=2) Z' (qC (qD 0) (qC (qD 1) tR))) rX (pP (IW G) r G.bh (qv Y1))))
 (pG (qw v0 (qP Z' (xN (ix:=[Fa,Fa]) (N':=["on","wish"])) (qV Y3) (uQ (n:=2) Z' (qC (qD 0) (qC (qD 1) tR))) rX v0))
 (pG (qw v0 (qe (EY Z') Z' G.bY FE (qv (qP Z' (xN (ix:=[Fa]) (N':=["phone"])) (qV Y1) (qD 0) rX (pY (so (pT v0 pJ) v0))))))
 (pH (qw v0 (qe (EY Z') Z' G.bY FE (qv (qP Z' (xN (ix:=[Fa]) (N':=["group"])) (qV Y2) (qD 0) rX (pY (so (pT v0 pJ) v0))))))))))))),?_⟩)
 rintro ds M Q ⟨p,r1,r2,r3,l,rfl,hp,h1,h2,h3,ok,q⟩
 have hz:=dM;have l1:=ok.p8;have l2:=ok.g3;have l3:=ok.oH;refine⟨r1,r2,r3,l,Z',h1,h2,h3,ok,?_⟩;refine pF h1 λph hph=>?_;obtain⟨n1,e1,k1,c1,p1⟩:=tQ (fs':=[("phones",.ref ph)]) (c:=.lst (l.mJ.map rC)) hp hph;refine pI e1 ⟨(G.ad "phones" Z'),by show 0<1000;decide,?_⟩;show vb _ _ _ _ (pQ (pQ M ph (.lst (l.mJ.map rC))) p (.ins a.h [("phones",.ref ph)]));generalize pQ (pQ M ph (.lst (l.mJ.map rC))) p (.ins a.h [("phones",.ref ph)])=N1 at k1 c1 p1 ⊢;have Zv:=k1.lst (qd h1 hp) h1;have h2':=k1.lst (qd h2 hp) h2;have h3':=k1.lst (qd h3 hp) h3;have f1:oP N1 ph=ga (l.mJ.map rC):=sj c1;refine pF h2' λgr hgr=>?_;obtain⟨n2,e2,k2,c2,p2⟩:=tQ (fs':=[("phones",.ref ph),("groups",.ref gr)]) (c:=.lst (l.groups.map rK)) p1 hgr;refine pI e2 ⟨(G.ad "groups" Z'),by show 1<1000;decide,?_⟩;show vb _ _ _ _ (pQ (pQ N1 gr (.lst (l.groups.map rK))) p (.ins a.h [("phones",.ref ph),("groups",.ref gr)]));generalize pQ (pQ N1 gr (.lst (l.groups.map rK))) p (.ins a.h [("phones",.ref ph),("groups",.ref gr)])=N2 at k2 c2 p2 ⊢;have g1:=k2.lst (qd Zv p1) Zv;have g2:=k2.lst (qd h2' p1) h2';have g3:=k2.lst (qd h3' p1) h3';have f2:=k2.lst (qd f1 p1) f1;have f3:oP N2 gr=ga (l.groups.map rK):=sj c2;have kk2:=k1.trans k2;have m2:M gr=Fa:=sd k1 p1 hgr;clear Zv h2' h3' f1 c1 c2 k1 k2 e1 e2;refine pF g3 ?_;refine wx (l.mG.map sI) (λpre acc U Mx=>(∃x y,U=[x,y])/\qN N2 Mx/\∃rs:QXQ,acc=rs.map D.ref/\(∀r∈rs,N2 r=Fa)/\tE a Mx rs (l.mG.take pre.length)) (λpre acc U Mx j=>j.2.1.lst g3) _ [] [] _ _ Z' (by rw[cT];simp only[dH];lia) ⟨⟨Fa,Fa,Z'⟩,.refl,[],Z',λr hr=>absurd hr (dQ),Z',λi r v e=>by simp at e⟩ ?_ ?_
 .rintro pre d post e acc U Mx ⟨⟨x,y,rfl⟩,sx,rs,rfl,fr,wa⟩ k hk
  obtain⟨v,hv,rfl⟩:∃v,l.mG[pre.length]?=ga v/\d=sI v:=by
   have:(l.mG.map sI)[pre.length]?=ga d:=by rw[<-e];simp
   rw[dv]at this;cases z:l.mG[pre.length]? with
   | none=>rw[z]at this;cases this
   | some v=>rw[z]at this;exact⟨v,Z',(df this).symm⟩
  refine⟨Z',⟨v.2,Z',λr hr=>hk _ _ _ ⟨⟨_,_,Z'⟩,sx.trans (.new hr),rs++[r],?_,λr' hr'=>?_,?_⟩⟩⟩
  .rw[dF];rfl
  .rcases dG.mp hr' with z|z
   .exact fr r' z
   .rw[cZ.mp z];exact sx.none hr
  .rw[cW,dD,fX,hv];exact wa.snoc hr
 rintro acc U Mx ⟨⟨x,y,rfl⟩,sx,rs,rfl,fr,wa⟩ ws hws
 have wa:tE a Mx rs l.mG:=by rw[cT,eM]at wa;exact wa
 obtain⟨n3,e3,k3,c3,p3⟩:=tQ (fs':=[("phones",.ref ph),("groups",.ref gr),("wishes",.ref ws)]) (c:=.lst (rs.map D.ref)) (sx _ _ p2) hws;refine pI e3 ⟨(G.ad "wishes" Z'),by show 2<1000;decide,?_⟩;show vb _ _ _ _ (pQ (pQ Mx ws (.lst (rs.map D.ref))) p (.ins a.h [("phones",.ref ph),("groups",.ref gr),("wishes",.ref ws)]));generalize pQ (pQ Mx ws (.lst (rs.map D.ref))) p (.ins a.h [("phones",.ref ph),("groups",.ref gr),("wishes",.ref ws)])=N3 at k3 c3 p3 ⊢;have px:=sx _ _ p2;have i1:=k3.lst (qd (sx.lst g1) px) (sx.lst g1);have i2:=k3.lst (qd (sx.lst g2) px) (sx.lst g2);have i3:=k3.lst (qd (sx.lst g3) px) (sx.lst g3);have f4:=k3.lst (qd (sx.lst f2) px) (sx.lst f2);have f5:=k3.lst (qd (sx.lst f3) px) (sx.lst f3);have f6:oP N3 ws=ga (rs.map D.ref):=sj c3;have rp:∀r∈rs,r≠p:=λr hr z=>by have:=fr r hr;rw[z,p2]at this;cases this
 have w3:=wa.keep k3 rp;have kk3:=(kk2.trans sx.keep).trans k3;have m3:M ws=Fa:=sd (kk2.trans sx.keep) px hws;have mr:∀r∈rs,M r=Fa:=λr hr=>sd kk2 p2 (fr r hr);clear g1 g2 g3 f2 f3 c3 k3 e3 wa px kk2;refine pF i3 (C9 (f:=Yk) (λU=>∃x y,U=[x,y]) i3 _ [] _ ⟨Fa,Fa,Z'⟩ (by rw[cT];simp only[dH];lia) (λd hd U hj k hk=>?_) λon hon=>?_)
 .obtain⟨x,y,rfl⟩:=hj;obtain⟨v,_,rfl⟩:=dE.mp hd;exact⟨Z',hk _ ⟨_,_,Z'⟩⟩
 rw[d9,UG];obtain⟨n4,e4,k4,c4,p4⟩:=tQ (fs':=[("phones",.ref ph),("groups",.ref gr),("wishes",.ref ws),("on",.ref on)]) (c:=.lst (l.mG.map λw=>D.bl w.1)) p3 hon;refine pI e4 ⟨(G.ad "on" Z'),by show 3<1000;decide,?_⟩;show vb _ _ _ _ (pQ (pQ N3 on (.lst (l.mG.map λw=>D.bl w.1))) p (.ins a.h [("phones",.ref ph),("groups",.ref gr),("wishes",.ref ws),("on",.ref on)]));generalize pQ (pQ N3 on (.lst (l.mG.map λw=>D.bl w.1))) p (.ins a.h [("phones",.ref ph),("groups",.ref gr),("wishes",.ref ws),("on",.ref on)])=N4 at k4 c4 p4 ⊢;have j1:=k4.lst (qd i1 p3) i1;have j2:=k4.lst (qd i2 p3) i2;have f7:=k4.lst (qd f4 p3) f4;have f8:=k4.lst (qd f5 p3) f5;have f9:=k4.lst (qd f6 p3) f6;have fa:oP N4 on=ga (l.mG.map λw=>D.bl w.1):=sj c4;have w4:=w3.keep k4 rp;have kk4:=kk3.trans k4;have m4:M on=Fa:=sd kk3 p3 hon;clear i1 i2 i3 f4 f5 f6 c4 k4 e4 w3 kk3;refine pF j1 (rS (f:=BP) j1 _ [] _ (by rw[cT];simp only[dH];lia) (λd hd k hk=>?_) λq1 ZI=>?_)
 .obtain⟨v,_,rfl⟩:=dE.mp hd;exact⟨pD Z',hk⟩
 rw[d9,GL];have sq1:=qN.new (c:=.lst (l.mJ.map λp=>D.tup [.str p.1,rC p])) ZI;refine pF pU (pF (xy (λp:vk=>p.1) rC l.mJ) ⟨zh (iF (List.sublist_append_left _ _) ok.nd),λpr hpr=>?_⟩);obtain⟨n5,e5,k5,c5,p5⟩:=tQ (fs':=[("phones",.ref ph),("groups",.ref gr),("wishes",.ref ws),("on",.ref on),("phone_rows",.ref pr)]) (c:=.dk (l.mJ.map λx=>(Sum.inr x.1,rC x))) (sq1 _ _ p4) hpr;refine pI e5 ⟨(G.ad "phone_rows" Z'),by show 4<1000;decide,?_⟩;have k5:=sq1.keep.trans k5;have eput:wW "phone_rows" (.ref pr) [("phones",.ref ph),("groups",.ref gr),("wishes",.ref ws),("on",.ref on)]=([("phones",.ref ph),("groups",.ref gr),("wishes",.ref ws),("on",.ref on),("phone_rows",.ref pr)]:T0 (Str×D)):=rfl;rw[eput];generalize pQ (pQ (pQ N4 q1 (.lst (l.mJ.map λp=>D.tup [.str p.1,rC p]))) pr (.dk (l.mJ.map λx=>(Sum.inr x.1,rC x)))) p (.ins a.h [("phones",.ref ph),("groups",.ref gr),("wishes",.ref ws),("on",.ref on),("phone_rows",.ref pr)])=N5 at k5 c5 p5 ⊢;have mm:=k5.lst (qd j2 p4) j2;have fb:=k5.lst (qd f7 p4) f7;have fc:=k5.lst (qd f8 p4) f8;have fd:=k5.lst (qd f9 p4) f9;have fe:=k5.lst (qd fa p4) fa;have ff:zY N5 pr=ga (TZ l):=CY c5;have w5:=w4.keep k5 rp;have kk5:=kk4.trans k5;have m5:M pr=Fa:=sd (kk4.trans sq1.keep) (sq1 _ _ p4) hpr;clear j1 j2 f7 f8 f9 fa c5 k5 e5 w4 kk4;refine pF mm (rS (f:=BP) mm _ [] _ (by rw[cT];simp only[dH];lia) (λd hd k hk=>?_) λq2 hq2=>?_)
 .obtain⟨v,_,rfl⟩:=dE.mp hd;exact⟨pD Z',hk⟩
 rw[d9,GX];have sq2:=qN.new (c:=.lst (l.groups.map λg=>D.tup [.str g.1,rK g])) hq2;refine pF pU (pF (xy (λp:uP=>p.1) rK l.groups) ⟨zh (iF (jz _ _) ok.nd),λgd hgd=>?_⟩);obtain⟨n6,e6,k6,c6,p6⟩:=tQ (fs':=Sg ph gr ws on pr gd) (c:=.dk (IP l)) (sq2 _ _ p5) hgd;have k6:=sq2.keep.trans k6;refine pI e6 ⟨(G.ad "group_rows" Z'),by show 5<1000;decide,_,.refl,?_⟩;have m6:M gd=Fa:=sd (kk5.trans sq2.keep) (sq2 _ _ p5) hgd;have w6:=w5.keep k6 rp;have y1:=k6.lst (qd fb p5) fb;have y2:=k6.lst (qd fc p5) fc;have y3:=k6.lst (qd fd p5) fd;have y4:=k6.lst (qd fe p5) fe;have y5:=k6.dk (Dy ff p5) ff;refine q _ (kk5.trans k6) ⟨ph,gr,ws,on,pr,gd,rs,p6,y1,y2,y3,y4,y5,CY c6,w6⟩ λYQ hs=>?_;exact⟨ph,gr,ws,on,pr,gd,rs,hs _ _ (.inl Z') p6,sj (hs _ _ (.inr hph) (qg y1)),sj (hs _ _ (.inr m2) (qg y2)),sj (hs _ _ (.inr m3) (qg y3)),sj (hs _ _ (.inr m4) (qg y4)),CY (hs _ _ (.inr m5) (yM y5)),CY (hs _ _ (.inr m6) c6),w6.1,λi r v e1 e2=>hs _ _ (.inr (mr r (fm e1))) (w6.2 i r v e1 e2)⟩
theorem yN{α:Type}(f:α->Str)(g:α->D)(k:Str):∀l:List α,wm (l.map λx=>((Sum.inr (f x):rD),g x)) (Sum.inr k)=(l.find? λx=>decide (f x=k)).map g
 | []=>rfl
 | x::r=>by
  have ih:=yN f g k r;unfold wm at ih ⊢;rw[dY,ft,ft];by_cases h:f x=k
  .have h':decide ((Sum.inr (f x):rD)=Sum.inr k)=Db:=dX (by rw[h]);simp[h]
  .have h':¬(Sum.inr (f x):rD)=Sum.inr k:=λz=>h (j4 z);simp only[h,h',decide_false];exact ih
noncomputable def pM.m7(l:pM)(x:Str):Option vk:=l.mJ.find? λp=>decide (p.1=x)
noncomputable def pM.group(l:pM)(x:Str):Option uP:=l.groups.find? λg=>decide (g.1=x)
noncomputable def pM.mH(l:pM)(x:Str):QQQ:=(l.group x).elim [x] λg=>g.2.2
noncomputable def pM.mP(l:pM)(x:Str):Str:=(l.group x).elim "one" λg=>g.2.1
def Ie(l:pM)(x:Str):wm (TZ l) (Sum.inr x)=(l.m7 x).map rC:=yN (λp:vk=>p.1) rC x l.mJ
def xh(l:pM)(x:Str):wm (IP l) (Sum.inr x)=(l.group x).map rK:=yN (λp:uP=>p.1) rK x l.groups
def zC(a:Ad):rH:=λds M Q=>Dn λp (l:pM)=>ds=[.ref p]/\rM a M p l/\l.mJ.length<=100/\∀q,M q=Fa->Q (.ref q) (pQ M q (.lst (l.pn.map D.str)))
def Fl(a:Ad):rH:=λds M Q=>Dn λp (l:pM)=>ds=[.ref p]/\rM a M p l/\l.mJ.length<=100/\l.groups.length<=100/\∀q,M q=Fa->Q (.ref q) (pQ M q (.lst (l.nm.map D.str)))
def Fk(a:Ad):rH:=λds M Q=>BO λp x v (l:pM)=>ds=[.ref p,.str x]/\rM a M p l/\l.m7 x=ga v/\Q (.int v.2.1) M
def HH(a:Ad):rH:=λds M Q=>BO λp x v (l:pM)=>ds=[.ref p,.str x]/\rM a M p l/\l.m7 x=ga v/\Q (.int v.2.2) M
def AJ(a:Ad):rH:=λds M Q=>Ed λp x (l:pM)=>ds=[.ref p,.str x]/\rM a M p l/\∀q,M q=Fa->Q (.ref q) (pQ M q (.lst ((l.mH x).map D.str)))
def Ec(a:Ad):rH:=λds M Q=>Ed λp x (l:pM)=>ds=[.ref p,.str x]/\rM a M p l/\Q (.str (l.mP x)) M
def tz:Fq P w K mg base 1 a.Q (zC a):=by
 refine fq G.Q.toDG yP (λr u=>⟨_,(pH (pO (qP Z' (xN (ix:=[Fa]) (N':=["phone"])) (qV (pN v0)) (qD 0) rX (pT v0 pJ)))),?_⟩)
 rintro ds M Q ⟨p,l,rfl,hp,hl,q⟩
 have hz:=dM;obtain⟨ph,gr,ws,on,pr,gd,rs,h1,h2,h3,h4,h5,h6,h7,h8⟩:=hp;refine pI h1 (pF Z' (pF h2 ?_));refine rS (f:=Eb) h2 _ [] _ (by rw[cT];simp only[dH];lia) (λd hd k hk=>?_) λq1 ZI=>?_
 .obtain⟨x,_,rfl⟩:=dE.mp hd;exact hk
 rw[d9,zm];exact⟨_,.refl,q q1 ZI⟩
def yY:Fq P w K mg base 2 a.ap (Fl a):=by
 refine fq G.ap.toDG Ea (λr u=>⟨_,(pH (pO (qk (wz v0 G.h.toCls G.Q (tz G) r) (qP Z' (xN (ix:=[Fa]) (N':=["group"])) (qV (pN v0)) (qD 0) rX (pT v0 pJ))))),?_⟩)
 rintro ds M Q ⟨p,l,rfl,hp,hl,hl2,q⟩
 have hz:=dM;have Y6:=hp;obtain⟨ph,gr,ws,on,pr,gd,rs,h1,h2,h3,h4,h5,h6,h7,h8⟩:=hp;refine pI h1 ⟨Z',_,⟨Z',Z'⟩,p,l,Z',Y6,hl,λq1 ZI=>?_⟩;obtain⟨M1,e0,s1,e1⟩:=tL (ds:=l.pn.map D.str) ZI;rw[<-e0];have h3':=s1.lst h3;refine pI (s1 _ _ h1) (pF Z' (pF h3' ?_));refine rS (f:=Eb) h3' _ [] _ (by rw[cT];simp only[dH];lia) (λd hd k hk=>?_) λq2 hq2=>?_
 .obtain⟨x,_,rfl⟩:=dE.mp hd;exact hk
 rw[d9,zt];have s2:=qN.new (c:=.lst ((l.groups.map (·.1)).map D.str)) hq2;refine pF (s2.lst e1) (pF pU ⟨?_,λq3 hq3=>?_⟩)
 .rw[cT,cT,cT];show(l.mJ.map (·.1)).length+_<=_;rw[cT];lia
 have en:l.pn.map D.str++(l.groups.map (·.1)).map D.str=l.nm.map D.str:=by unfold pM.nm;rw[dF];rfl
 rw[en];exact⟨_,(s1.trans s2).upd,q q3 ((s1.trans s2).none hq3)⟩
def DX:Fq P w K mg base 1 a.bJ (Fk a):=by
 refine fq G.bJ.toDG DQ (λr u=>⟨_,(pH (pO (pT (zZ u (pN v0) Y1) pJ))),?_⟩)
 rintro ds M Q ⟨p,x,v,l,rfl,hp,hv,q⟩
 obtain⟨ph,gr,ws,on,pr,gd,rs,h1,h2,h3,h4,h5,h6,h7,h8⟩:=hp;exact pI h1 (pF Z' (pF Z' (pF h6 (pF (x:=rC v) (by rw[Ie,hv];rfl) ⟨M,.refl,q⟩))))
def Aj:Fq P w K mg base 1 a.aR (HH a):=by
 refine fq G.aR.toDG Fy (λr u=>⟨_,(pH (pO (pT (zZ u (pN v0) Y1) pJ))),?_⟩)
 rintro ds M Q ⟨p,x,v,l,rfl,hp,hv,q⟩
 obtain⟨ph,gr,ws,on,pr,gd,rs,h1,h2,h3,h4,h5,h6,h7,h8⟩:=hp;exact pI h1 (pF Z' (pF Z' (pF h6 (pF (x:=rC v) (by rw[Ie,hv];rfl) ⟨M,.refl,q⟩))))
def uS:Fq P w K mg base 1 a.ab (AJ a):=by
 refine fq G.ab.toDG Ax (λr u=>⟨_,(pG (qa (MR u Y1 (pN v0))
 (pH (pO (qe rW Z' G.l rT (qv (pT (zZ u (pN v0) Y1) pJ)))))
 pV)
 (pH (pO (qW (qv Y1))))),?_⟩)
 rintro ds M Q ⟨p,x,l,rfl,hp,q⟩
 obtain⟨ph,gr,ws,on,pr,gd,rs,h1,h2,h3,h4,h5,h6,h7,h8⟩:=hp;refine pI h1 (pF Z' (pF h7 ?_));cases e:l.group x with
 | none=>refine Oh (c:=(wm (IP l) (Sum.inr x)).isSome) (by rw[xh,e];rfl) ⟨pD Z',λq1 ZI=>⟨_,.refl,?_⟩⟩;have:=q q1 ZI;unfold pM.mH at this;rw[e]at this;exact this
 | some g=>refine BA (c:=(wm (IP l) (Sum.inr x)).isSome) (by rw[xh,e];rfl) (pI h1 (pF Z' (pF Z' (pF h7 (pF (x:=rK g) (by rw[xh,e];rfl) λq1 ZI=>⟨_,.refl,?_⟩)))));have:=q q1 ZI;unfold pM.mH at this;rw[e]at this;exact this
def yt:Fq P w K mg base 1 a.aP (Ec a):=by
 refine fq G.aP.toDG B' (λr u=>⟨_,(pG (qa (MR u Y1 (pN v0))
 (pH (pO (pT (zZ u (pN v0) Y1) pJ)))
 pV)
 (pH (pO pK))),?_⟩)
 rintro ds M Q ⟨p,x,l,rfl,hp,q⟩
 obtain⟨ph,gr,ws,on,pr,gd,rs,h1,h2,h3,h4,h5,h6,h7,h8⟩:=hp;refine pI h1 (pF Z' (pF h7 ?_));cases e:l.group x with
 | none=>refine Oh (c:=(wm (IP l) (Sum.inr x)).isSome) (by rw[xh,e];rfl) ⟨M,.refl,?_⟩;unfold pM.mP at q;rw[e]at q;exact q
 | some g=>refine BA (c:=(wm (IP l) (Sum.inr x)).isSome) (by rw[xh,e];rfl) (pI h1 (pF Z' (pF Z' (pF h7 (pF (x:=rK g) (by rw[xh,e];rfl) ⟨M,.refl,?_⟩)))));unfold pM.mP at q;rw[e]at q;exact q
noncomputable def Qa:T0 Int:=[1,1,2,2,3]
noncomputable def RZ:T0 Int:=[0,1,1,2,5,9]
noncomputable def RB:QQQ:=["all","turns"]
noncomputable def Hx(t:T0 Int)(i:Int):Int:=t.getD i.toNat 0
def wR(s:Int)(i:Nat):vk:=(yz s (0+(i:Nat)),Hx Qa (qF (s+17*(0+(i:Nat))*(0+(i:Nat))) 16807 5),Hx RZ (qF (s+17*(0+(i:Nat))*(0+(i:Nat))) 39373 6))
def su(s m:Int):Nat:=(2+qF s 48271 (m - 1)).toNat
def qM(s m:Int):List vk:=(List.range (su s m)).map (wR s)
def AY(s:Int)(own:QQQ)(i:Nat):uP:=(yz s (8+(0+(i:Nat))),Cv RB (qF (s+5*(0+(i:Nat))) 742938285 2),wB own (s+11*(0+(i:Nat))) 4)
def ww(s:Int):Nat:=(qF s 69621 3).toNat
def rJ(s:Int)(own:QQQ):List uP:=(List.range (ww s)).map (AY s own)
def Gz{ts:T0 Int}{i:Int}(h0:0<=i)(h1:i<ts.length):xn (ts.map D.int) i=ga (D.int (Hx ts i)):=by
 obtain⟨n,rfl⟩:=eB h0;have hn':n<ts.length:=by lia
 refine vo ?_;rw[dv,cV hn'];simp[Hx,hn']
def Cg{pre post:T0 D}{d:D}(e:pre++d::post=(List.range n).map λi=>D.int (0+(i:Nat))):d=.int (0+(pre.length:Nat))/\pre.length<n:=by
 have h:((List.range n).map λi=>D.int (0+(i:Nat)))[pre.length]?=ga d:=by rw[<-e];simp
 have hl:pre.length<n:=by
  have:=(cX.mp h).1
  simpa using this
 rw[dv,gO hl]at h;exact⟨(df h).symm,hl⟩
def B8{α β:Type}(f:Nat->α)(g:α->β)(n:Nat):((List.range n).map f).map g++[g (f n)]=((List.range (n+1)).map f).map g:=by rw[iu,dF,dF];rfl
def Jw:rH:=λds M Q=>Dn λs m=>ds=[.int s,.int m]/\2<=m/\m<=100/\∀q,M q=Fa->Q (.ref q) (pQ M q (.lst ((qM s m).map rC)))
def Jk:rH:=λds M Q=>Ed λs o own=>ds=[.int s,.ref o]/\oP M o=ga (own.map D.str)/\own≠[]/\own.length<=64/\∀q,M q=Fa->Q (.ref q) (pQ M q (.lst ((rJ s own).map rK)))
def zH{s m:Int}(h2:2<=m)(h:m<=100):su s m<=100/\2<=su s m:=by have d0:=rq (c:=s) (f:=48271) (m:=m - 1) (by lia);have d1:=qY (c:=s) (f:=48271) (m:=m - 1) (by lia);unfold su;lia
def xw{s:Int}:ww s<=3:=by have d0:=rq (c:=s) (f:=69621) (m:=3) (by decide);have d1:=qY (c:=s) (f:=69621) (m:=3) (by decide);unfold ww;lia
def Jf:Fq P w K mg base 2 a.bp Jw:=by
 refine fq G.bp.toDG vn (λr u=>⟨_,(pG (pW 2 vn (qW sE))
 (pG (vg fi Z' (vi Z' G.N (qv (qk pJ (pP (qU G) r G.i (rG v0 pJ (qk Y1 pJ)))))) (sF 3 vn)
 (pG (pW 4 vn (pT (pY (qh pJ (qh pJ (rG pJ pJ pJ)))) (pP (qU G) r G.i (rG (qk v0 (qk (qk pJ Y3) Y3)) pJ pJ))))
 (pH (pX (rB Y2 (qv (pY (rG (pP (Kr G) r G.an (so v0 Y3)) v4 (pT (pY (qh pJ (qh pJ (qh pJ (rG pJ pJ pJ))))) (pP (qU G) r G.i (rG (qk v0 (qk (qk pJ Y3) Y3)) pJ pJ)))))))))))
 (pH (pO Y2)))),?_⟩)
 rintro ds M Q ⟨s,m,rfl,h2,h100,q⟩
 have hz:=dM;have d0:=rq (c:=s) (f:=48271) (m:=m - 1) (by lia);have d1:=qY (c:=s) (f:=48271) (m:=m - 1) (by lia);have nl:=(zH (s:=s) h2 h100).1;refine⟨pD Z',λr hr=>⟨s,_,_,Z',by show 0<m - 1;lia,Z',⟨?_,?_⟩,?_⟩⟩
 .show -(2 ^ 62)<=2+qF s 48271 (m - 1);lia
 .show 2+qF s 48271 (m - 1)<2 ^ 62;lia
 refine wY ((List.range (su s m)).map λi=>D.int (0+(i:Nat))) (λpre U M'=>M'=pQ M r (.lst (((List.range pre.length).map (wR s)).map rC))/\∃x y,U=[ga (.int s),ga (.int m),ga (.ref r),x,y]) (λ_ _ _ _=>trivial) _ [] _ _ Z' ⟨Z',Fa,Fa,Z'⟩ ?_ ?_
 .rintro pre d post e U M' ⟨rfl,x,y,rfl⟩ nx YU
  obtain⟨rfl,YV⟩:=Cg e;generalize hi:pre.length=i at YV YU ⊢;have cm:D4 (17*(0+(i:Int))) (0+(i:Int)):=.inr ⟨by lia,by lia⟩;have c17:D4 17 (0+(i:Int)):=.inl ⟨by decide,by decide⟩;have t5:xn [D.int 1,.int 1,.int 2,.int 2,.int 3] (qF (s+17*(0+(i:Int))*(0+(i:Int))) 16807 5)=ga (.int (wR s i).2.1):=Gz (ts:=Qa) (rq (by decide)) (qY (by decide));have t6:xn [D.int 0,.int 1,.int 1,.int 2,.int 5,.int 9] (qF (s+17*(0+(i:Int))*(0+(i:Int))) 39373 6)=ga (.int (wR s i).2.2):=Gz (ts:=RZ) (rq (by decide)) (qY (by decide));refine⟨pD Z',c17,cm,_,_,_,Z',by decide,pF t5 ?_⟩;refine⟨by show(oP _ r).isSome=Db;rw[pU];rfl,s,_,Z',pD Z',c17,cm,_,_,_,Z',by decide,pF t6 ⟨pD Z',pF pU ⟨?_,?_⟩⟩⟩
  .rw[cT,cT,dS];lia
  .refine YU _ _ ⟨?_,_,_,Z'⟩;rw[se,cW,hi];show pQ M r (.lst (_++[rC (wR s i)]))=_;rw[B8];rfl
 .rintro U M' ⟨rfl,x,y,rfl⟩
  refine⟨_,.refl,?_⟩;rw[cT,dS];exact q r hr
def Jr:Fq P w K mg base 3 a.bq Jk:=by
 refine fq G.bq.toDG vp (λr u=>⟨_,(pG (pW 2 vp (qW sE))
 (pG (vg fi Z' (vi Z' G.N (qv (pP (qU G) r G.i (rG v0 pJ pJ)))) (sF 3 vp)
 (pG (pW 4 vp (pT (pY (so pK pK)) (pP (qU G) r G.i (rG (qk v0 (qk pJ Y3)) pJ pJ))))
 (pH (pX (rB Y2 (qv (pY (rG (pP (Kr G) r G.an (so v0 (qk pJ Y3))) v4 (pP (yJ G) r G.U (rG Y1 (qk v0 (qk pJ Y3)) pJ))))))))))
 (pH (pO Y2)))),?_⟩)
 rintro ds M Q ⟨s,o,own,rfl,ho,Ze,h64,q⟩
 have hz:=dM;have d0:=rq (c:=s) (f:=69621) (m:=3) (by decide);have d1:=qY (c:=s) (f:=69621) (m:=3) (by decide);have nl:=xw (s:=s);refine⟨pD Z',λr hr=>⟨s,_,_,Z',by decide,Z',⟨?_,?_⟩,?_⟩⟩
 .show -(2 ^ 62)<=qF s 69621 3;lia
 .show qF s 69621 3<2 ^ 62;lia
 have nor:o≠r:=λz=>by rw[z]at ho;unfold oP at ho;rw[hr]at ho;cases ho
 refine wY ((List.range (ww s)).map λi=>D.int (0+(i:Nat))) (λpre U M'=>M'=pQ M r (.lst (((List.range pre.length).map (AY s own)).map rK))/\∃x y,U=[ga (.int s),ga (.ref o),ga (.ref r),x,y]) (λ_ _ _ _=>trivial) _ [] _ _ Z' ⟨Z',Fa,Fa,Z'⟩ ?_ ?_
 .rintro pre d post e U M' ⟨rfl,x,y,rfl⟩ nx YU
  obtain⟨rfl,YV⟩:=Cg e;generalize hi:pre.length=i at YV YU ⊢;have c5:D4 5 (0+(i:Int)):=.inl ⟨by decide,by decide⟩;have c11:D4 11 (0+(i:Int)):=.inl ⟨by decide,by decide⟩;have tm:xn [D.str "all",.str "turns"] (qF (s+5*(0+(i:Int))) 742938285 2)=ga (.str (AY s own i).2.1):=Jl (row:=RB) (rq (by decide)) (qY (by decide));have Zs:oP (pQ M r (.lst (((List.range i).map (AY s own)).map rK))) o=ga (own.map D.str):=by unfold oP;rw[uG nor];exact ho
  refine⟨pD Z',c5,_,_,_,Z',by decide,pF tm ?_⟩;refine⟨by show(oP _ r).isSome=Db;rw[pU];rfl,s,_,Z',c11,o,_,_,own,Z',Zs,Ze,by decide,h64,pD Z',pF pU ⟨?_,?_⟩⟩
  .rw[cT,cT,dS];lia
  .refine YU _ _ ⟨?_,_,_,Z'⟩;rw[se,cW,hi];show pQ M r (.lst (_++[rK (AY s own i)]))=_;rw[B8];rfl
 .rintro U M' ⟨rfl,x,y,rfl⟩
  refine⟨_,.refl,?_⟩;rw[cT,dS];exact q r hr
def Kl(ns:T0 Int)(own nm:QQQ)(i:Nat):uA:=(decide (0<qF (cell ns (1+(0+(i:Nat)))+31*(0+(i:Nat))*(0+(i:Nat))) 22695477 6),xp (cell ns (1+(0+(i:Nat)))+31*(0+(i:Nat))*(0+(i:Nat))) own nm)
def xx(s:Int):Nat:=(qF s 950706376 11).toNat
def CD(ns:T0 Int)(m:Int):pM:=
 let s:=cell ns 0;let own:=(qM s m).map (·.1);let gs:=rJ s own
 ⟨qM s m,gs,(List.range (xx s)).map (Kl ns own (own++gs.map (·.1)))⟩
def ND:rH:=λds M Q=>Dn λns m=>ds=[.rl (ns.map D.int),.int m]/\2<=m/\m<=8/\∀r1 r2 r3 M',qN M M'->oP M' r1=ga ((CD ns m).mJ.map rC)->oP M' r2=ga ((CD ns m).groups.map rK)->oP M' r3=ga ((CD ns m).mG.map sI)->Q (.tup [.ref r1,.ref r2,.ref r3]) M'
def Mr:Fq P w K mg base 4 a.bs ND:=by
 refine fq G.bs.toDG sW (λr u=>⟨_,(pG (pW 2 sW (pP (HY G) r G.I (so v0 pJ)))
 (pG (pW 3 sW (pP (Jf G) r G.bp (so Y2 Y1)))
 (pG (uM (i:=4) sW.nd Z' (Or.inl Z') Z' (xN (ix:=[Fa]) (N':=["_law_phone"])) (qV Y3) (qD 0) rX (pT v0 pJ))
 (pG (pW 5 sW (pP (Jr G) r G.bq (so Y2 v4)))
 (pG (pW 6 sW (qk v4 (qP Z' (xN (ix:=[Fa]) (N':=["_law_group"])) (qV v5) (qD 0) rX (pT v0 pJ))))
 (pG (pW 7 sW (qW sE))
 (pG (vg fi Z' (vi Z' G.N (qv (pP (qU G) r G.i (rG Y2 pJ pJ)))) (sF 8 sW)
 (pG (pW 9 sW (qk (pP (HY G) r G.I (so v0 (qk pJ v8))) (qk (qk pJ v8) v8)))
 (pH (pX (rB v7 (qv (pY (so (qy u (pP (qU G) r G.i (rG v9 pJ pJ)) pJ) (pP (Rf G) r G.br (rG v9 v4 v6))))))))))
 (pH (pO (pY (rG Y3 v5 v7))))))))))),?_⟩)
 rintro ds M Q ⟨ns,m,rfl,h2,h8,q⟩
 have hz:=dM;have pl:=zH (s:=cell ns 0) h2 (by lia);have p8:su (cell ns 0) m<=8:=by have d1:=qY (c:=cell ns 0) (f:=48271) (m:=m - 1) (by lia);unfold su;lia
 have gl:=xw (s:=cell ns 0);have lp:(qM (cell ns 0) m).length=su (cell ns 0) m:=by unfold qM;rw[cT,dS]
 refine⟨ns,0,Z',cell ns 0,m,Z',h2,by lia,λr1 Zw=>?_⟩;obtain⟨M1,e0,s1,a1⟩:=tL (ds:=(qM (cell ns 0) m).map rC) Zw;rw[<-e0];refine pF a1 (rS (f:=Eb) a1 _ [] _ (by rw[cT];simp only[dH];lia) (λd hd k hk=>?_) λo ho=>?_)
 .obtain⟨x,_,rfl⟩:=dE.mp hd;exact hk
 rw[d9,zm];have s2:=s1.trans (qN.new (c:=.lst (((qM (cell ns 0) m).map (·.1)).map D.str)) ho);have b1:=(qN.new (c:=.lst (((qM (cell ns 0) m).map (·.1)).map D.str)) ho).lst a1;have bo:=@pU M1 o (((qM (cell ns 0) m).map (·.1)).map D.str);generalize pQ M1 o (.lst (((qM (cell ns 0) m).map (·.1)).map D.str))=M2 at s2 b1 bo ⊢;have ol:((qM (cell ns 0) m).map (·.1)).length=su (cell ns 0) m:=by rw[cT,lp]
 have one:(qM (cell ns 0) m).map (·.1)≠[]:=λz=>by rw[z]at ol;have:0=su (cell ns 0) m:=ol;lia
 have Y6:CD ns m=⟨qM (cell ns 0) m,rJ (cell ns 0) ((qM (cell ns 0) m).map (·.1)),(List.range (xx (cell ns 0))).map (Kl ns ((qM (cell ns 0) m).map (·.1)) ((qM (cell ns 0) m).map (·.1)++(rJ (cell ns 0) ((qM (cell ns 0) m).map (·.1))).map (·.1)))⟩:=rfl;rw[Y6]at q;generalize (qM (cell ns 0) m).map (·.1)=own at bo ol one q ⊢;refine⟨cell ns 0,o,own,Z',bo,one,by lia,λr2 hr2=>?_⟩;obtain⟨M3,e0,t3,c2⟩:=tL (ds:=(rJ (cell ns 0) own).map rK) hr2;rw[<-e0];have c1:=t3.lst b1;have co:=t3.lst bo;have s3:=s2.trans t3;have gll:(rJ (cell ns 0) own).length=ww (cell ns 0):=by unfold rJ;rw[cT,dS]
 refine pF c2 (rS (f:=Eb) c2 _ [] _ (by rw[cT];simp only[dH];lia) (λd hd k hk=>?_) λx4 hx4=>?_)
 .obtain⟨x,_,rfl⟩:=dE.mp hd;exact hk
 rw[d9,zt];have t4:=qN.new (c:=.lst (((rJ (cell ns 0) own).map (·.1)).map D.str)) hx4;refine pF (t4.lst co) (pF pU ⟨?_,λn hn=>?_⟩)
 .rw[cT,cT,cT];lia
 have en:own.map D.str++((rJ (cell ns 0) own).map (·.1)).map D.str=(own++(rJ (cell ns 0) own).map (·.1)).map D.str:=by rw[dF]
 rw[en];have nl:(own++(rJ (cell ns 0) own).map (·.1)).length=su (cell ns 0) m+ww (cell ns 0):=by rw[cW,cT,ol,gll]
 have t5:=t4.trans (qN.new (c:=.lst ((own++(rJ (cell ns 0) own).map (·.1)).map D.str)) hn);have en5:=@pU (pQ M3 x4 (.lst (((rJ (cell ns 0) own).map (·.1)).map D.str))) n ((own++(rJ (cell ns 0) own).map (·.1)).map D.str);have e1:=t5.lst c1;have e2:=t5.lst c2;have eo:=t5.lst co;have s5:=s3.trans t5;generalize pQ (pQ M3 x4 (.lst (((rJ (cell ns 0) own).map (·.1)).map D.str))) n (.lst ((own++(rJ (cell ns 0) own).map (·.1)).map D.str))=M5 at s5 e1 e2 eo en5 ⊢;generalize own++(rJ (cell ns 0) own).map (·.1)=nm at en5 nl q ⊢;have d0:=rq (c:=cell ns 0) (f:=950706376) (m:=11) (by decide);have d1:=qY (c:=cell ns 0) (f:=950706376) (m:=11) (by decide);refine⟨pD Z',λr3 hr3=>⟨_,_,_,Z',by decide,Z',⟨?_,?_⟩,?_⟩⟩
 .show -(2 ^ 62)<=qF (cell ns 0) 950706376 11;lia
 .show qF (cell ns 0) 950706376 11<2 ^ 62;lia
 have t6:=qN.new (c:=.lst []) hr3;have g3:=@pU M5 r3 [];have no:o≠r3:=λz=>by have:=qg eo;rw[z,hr3]at this;cases this
 have nn:n≠r3:=λz=>by have:=qg en5;rw[z,hr3]at this;cases this
 have n1:r1≠r3:=λz=>by have:=qg e1;rw[z,hr3]at this;cases this
 have n2:r2≠r3:=λz=>by have:=qg e2;rw[z,hr3]at this;cases this
 have f1:=t6.lst e1;have f2:=t6.lst e2;have fo:=t6.lst eo;have fn:=t6.lst en5;have k6:qN M (pQ M5 r3 (.lst [])):=s5.trans t6;have nr:M r3=Fa:=s5.none hr3;generalize pQ M5 r3 (.lst [])=M6 at f1 f2 fo fn k6 g3 ⊢;have wl:xx (cell ns 0)<=10:=by unfold xx;lia
 refine wY ((List.range (xx (cell ns 0))).map λi=>D.int (0+(i:Nat))) (λpre U M'=>sH r3 M6 M'/\oP M' r3=ga (((List.range pre.length).map (Kl ns own nm)).map sI)/\∃x y,U=[ga (.rl (ns.map D.int)),ga (.int m),ga (.int (cell ns 0)),ga (.ref r1),ga (.ref o),ga (.ref r2),ga (.ref n),ga (.ref r3),x,y]) (λp U M' j=>trivial) _ [] _ _ Z' ⟨λ_ _ _ h=>h,g3,Fa,Fa,Z'⟩ ?_ ?_
 .rintro pre d post e U M' ⟨kp,lr,x,y,rfl⟩ nx YU
  obtain⟨rfl,YV⟩:=Cg e;generalize hi:pre.length=i at YV YU lr ⊢;have c31:D4 31 (0+(i:Int)):=.inl ⟨by decide,by decide⟩;have cm:D4 (31*(0+(i:Int))) (0+(i:Int)):=.inr ⟨by lia,by lia⟩;refine⟨ns,_,Z',c31,cm,?_⟩;refine⟨by show(oP M' r3).isSome=Db;rw[lr];rfl,_,_,_,Z',by decide,_,o,n,own,nm,Z',kp.lst no fo,kp.lst nn fn,one,by lia,by lia,by lia,pD Z',pF lr ⟨?_,?_⟩⟩
  .rw[cT,cT,dS];lia
  .refine YU _ _ ⟨kp.trans .put,?_,_,_,Z'⟩;rw[pU,cW,hi];show ga (_++[sI (Kl ns own nm i)])=_;rw[B8];rfl
 .rintro U M' ⟨kp,lr,x,y,rfl⟩
  rw[cT,dS]at lr;exact⟨pD Z',M',.refl,q r1 r2 r3 M' (λb c h=>kp b c (λz=>by rw[z,nr]at h;cases h) (k6 b c h)) (kp.lst n1 f1) (kp.lst n2 f2) lr⟩
theorem Dj(x:Array Nat):∀(n:Nat) (acc:Array Nat),((List.replicate n x).foldl (·++·) acc).toList=acc.toList++(List.replicate n x.toList).flatten
 | 0,acc=>by simp
 | n+1,acc=>by rw[eI,fY,Dj x n (acc++x),eI,fS,jd,fh]
theorem Ic(c:Nat):∀n:Nat,(List.replicate n [c]).flatten=List.replicate n c
 | 0=>rfl
 | n+1=>by rw[eI,fS,Ic c n,eI];rfl
def ES(i n:Int):(zF (uK i) n).cps.toList=List.replicate n.toNat (97+i.toNat):=by show((List.replicate n.toNat (uK i).cps).foldl (·++·) #[]:Array Nat).toList=_;rw[Dj];show[]++(List.replicate n.toNat [97+i.toNat]).flatten=_;rw[d9,Ic]
def yE(s v:Int):(yz s v).cps.toList=List.replicate (u9 s).toNat (97+(s / 36 % 26).toNat)++(97+((s / 936+v) % 26).toNat)::List.replicate (size s - 1 - u9 s).toNat (97+(s / 36 % 26).toNat):=by show((zF (uK (s / 36 % 26)) (u9 s)).cps++(uK ((s / 936+v) % 26)).cps++(zF (uK (s / 36 % 26)) (size s - 1 - u9 s)).cps).toList=_;rw[jd,jd,ES,ES];show _++[97+((s / 936+v) % 26).toNat]++_=_;rw[fh];rfl
def Cj(s v:Int):1<=(yz s v).length/\(yz s v).length<=6:=by
 have e:(yz s v).length=(yz s v).cps.toList.length:=by simp[Str.length]
 rw[e,yE,cW,d4,iP,iP];have h1:=GH s;have h2:=JA s;have h3:0<=u9 s:=eR _ (by lia);have h4:u9 s<size s:=eO _ h1;lia
def NV{i:Int}(h0:0<=i)(h1:i<26):DY ⟨#[97+i.toNat]⟩ uO=Db:=by
 obtain⟨n,rfl⟩:=eB h0;have hn:n<26:=by lia
 have key:∀n:_root_.Fin 26,DY ⟨#[97+n.val]⟩ uO=Db:=by decide+kernel
 exact key ⟨n,hn⟩
def EF(s v:Int):uZ (yz s v)=Db:=by
 obtain⟨h1,h2⟩:=Cj s v;unfold uZ;rw[dX (show(1:Int)<=(yz s v).length by lia),dX (show((yz s v).length:Int)<=6 by lia),eL,eL,eD];intro c hc;rw[yE]at hc;have k1:=NV (eR (s / 36) (show(26:Int)≠0 by decide)) (eO (s / 36) (by decide));have k2:=NV (eR (s / 936+v) (show(26:Int)≠0 by decide)) (eO (s / 936+v) (by decide));rcases dG.mp hc with z|z
 .rw[jR z];exact k1
 .rcases dg.mp z with z|z
  .rw[z];exact k2
  .rw[jR z];exact k1
def C4{s u v:Int}(hu:0<=u)(hu':u<26)(hv:0<=v)(hv':v<26)(e:yz s u=yz s v):u=v:=by
 have e':(yz s u).cps.toList=(yz s v).cps.toList:=by rw[e]
 rw[yE,yE]at e';have:=(List.append_cancel_left e');have:=(fC this).1;have a1:=eR (s / 936+u) (show(26:Int)≠0 by decide);have a2:=eR (s / 936+v) (show(26:Int)≠0 by decide);have h:(s / 936+u) % 26=(s / 936+v) % 26:=by lia
 lia
def Gw{ss:QQQ}{x:Str}(h:x∈ss):xZ ss x:=fF.mpr ⟨x,h,by simp⟩
def B1{row:QQQ}{i:Int}(h0:0<=i)(h1:i<row.length):Cv row i∈row:=by
 obtain⟨n,rfl⟩:=eB h0;have hn:n<row.length:=by lia
 have:Cv row (n:Int)=row[n]:=by simp[Cv,hn]
 rw[this];exact gy hn
def J9{row:QQQ}{i j:Int}(nd:row.Nodup)(h0:0<=i)(h1:i<row.length)(g0:0<=j)(g1:j<row.length)(e:Cv row i=Cv row j):i=j:=by
 obtain⟨n,rfl⟩:=eB h0;obtain⟨k,rfl⟩:=eB g0;have hn:n<row.length:=by lia
 have hk:k<row.length:=by lia
 have e1:Cv row (n:Int)=row[n]:=by simp[Cv,hn]
 have e2:Cv row (k:Int)=row[k]:=by simp[Cv,hk]
 rw[e1,e2]at e;have pw:=jA.mp nd;rcases Nat.lt_trichotomy n k with z|z|z
 .exact absurd e (pw n k hn hk z)
 .rw[z]
 .exact absurd e.symm (pw k n hk hn z)
def AW{α:Type}(f:Nat->α)(n:Nat)(h:∀i j,i<n->j<n->f i=f j->i=j):((List.range n).map f).Nodup:=by refine jA.mpr λi j hi hj YV e=>?_;rw[cT,dS]at hi hj;rw[lY,lY,lb,lb]at e;have:=h i j hi hj e;lia
def Cb{row:QQQ}{c m:Int}(hr:row≠[])(hm:0<m):1<=xO row c m/\(xO row c m:Int)<=m/\xO row c m<=row.length:=by
 have hl:0<row.length:=fv.mpr hr;have d0:=rq (c:=c) (f:=40692) (m:=if (row.length:Int)<m then(row.length:Int)else m) (by split<;>lia);have d1:=qY (c:=c) (f:=40692) (m:=if (row.length:Int)<m then(row.length:Int)else m) (by split<;>lia);unfold xO;by_cases h:(row.length:Int)<m
 .rw[de h]at d0 d1 ⊢;lia
 .rw[cY h]at d0 d1 ⊢;lia
def Co{row:QQQ}{c:Int}(hr:row≠[])(j:Nat):0<=(qF c 69621 row.length+(0+(j:Nat))) % (row.length:Int)/\(qF c 69621 row.length+(0+(j:Nat))) % (row.length:Int)<row.length:=by have hl:0<row.length:=fv.mpr hr;exact⟨eR _ (by lia),eO _ (by lia)⟩
def JF{d n i j:Int}(hn:0<n)(hi:0<=i)(hi':i<n)(hj:0<=j)(hj':j<n)(e:(d+i) % n=(d+j) % n):i=j:=by
 have h1:=km (d+i) n;have h2:=km (d+j) n;generalize (d+i) / n=a at h1;generalize (d+j) / n=b at h2;have h3:i - j=n*(a - b):=by rw[Int.mul_sub];lia
 rcases Int.lt_trichotomy (a - b) 0 with z|z|z
 .have:n*(a - b)<=n*(-1):=jb (by lia) (by lia);lia
 .rw[z]at h3;lia
 .have:n*1<=n*(a - b):=jb (by lia) (by lia);lia
def Jq{row:QQQ}{c m:Int}(nd:row.Nodup)(hr:row≠[])(hm:0<m):(wB row c m).Nodup:=by have hl:0<row.length:=fv.mpr hr;obtain⟨_,_,l3⟩:=Cb (c:=c) hr hm;refine AW _ _ λi j hi hj e=>?_;obtain⟨a0,a1⟩:=Co (c:=c) hr i;obtain⟨b0,b1⟩:=Co (c:=c) hr j;have e':=J9 nd a0 a1 b0 b1 e;have:=JF (d:=qF c 69621 row.length) (n:=row.length) (i:=0+(i:Nat)) (j:=0+(j:Nat)) (by lia) (by lia) (by lia) (by lia) (by lia) e';lia
def x9{row:QQQ}{c m k:Int}(nd:row.Nodup)(hr:row≠[])(hm:0<m)(hk:m<=k):tw (wB row c m) row k=Db:=by
 obtain⟨l1,l2,l3⟩:=Cb (c:=c) hr hm;have el:(wB row c m).length=xO row c m:=by unfold wB;rw[cT,dS]
 unfold tw;rw[el,dX (show(1:Int)<=xO row c m by lia),dX (show(xO row c m:Int)<=k by lia),Ef (Jq nd hr hm),eL,eL,eL,eD];intro x hx;unfold wB at hx;obtain⟨j,_,rfl⟩:=dE.mp hx;obtain⟨a0,a1⟩:=Co (c:=c) hr j;exact Gw (B1 a0 a1)
def B9{row:QQQ}{c m:Int}(hr:row≠[])(hm:0<m)(h:m<=100):(wB row c m).length<4000:=by
 obtain⟨l1,l2,l3⟩:=Cb (c:=c) hr hm;have el:(wB row c m).length=xO row c m:=by unfold wB;rw[cT,dS]
 lia
def PB{c:Int}{own all:QQQ}(no:own.Nodup)(na:all.Nodup)(ho:own≠[])(ha:2<=all.length):AQ own all (xp c own all):=by
 have hl:(0:Int)<own.length:=by have:=fv.mpr ho;lia
 have ha0:all≠[]:=λz=>by rw[z]at ha;simp at ha
 have hx:=Gw (B1 (rq (c:=c) (f:=16807) hl) (qY (c:=c) (f:=16807) hl));have p0:=rq (c:=c) (f:=39373) (m:=all.length) (by lia);have p1:=qY (c:=c) (f:=39373) (m:=all.length) (by lia);have e0:=rq (c:=c) (f:=742938285) (m:=(all.length:Int) - 1) (by lia);have e1:=qY (c:=c) (f:=742938285) (m:=(all.length:Int) - 1) (by lia);have z0:=eR (qF c 39373 all.length+1+qF c 742938285 ((all.length:Int) - 1)) (show(all.length:Int)≠0 by lia);have z1:=eO (qF c 39373 all.length+1+qF c 742938285 ((all.length:Int) - 1)) (show(0:Int)<all.length by lia);have hy:=Gw (B1 p0 p1);have hzz:=Gw (B1 z0 z1);have ne:Cv all (qF c 39373 all.length)≠Cv all ((qF c 39373 all.length+1+qF c 742938285 ((all.length:Int) - 1)) % all.length):=λz=>by
  have q:=J9 na p0 p1 z0 z1 z;have q2:(qF c 39373 all.length+0) % (all.length:Int)=(qF c 39373 all.length+(1+qF c 742938285 ((all.length:Int) - 1))) % (all.length:Int):=by rw[Int.add_zero,Int.emod_eq_of_lt p0 p1,<-Int.add_assoc];exact q
  have:=JF (by lia) (by lia) (by lia) (by lia) (by lia) q2;lia
 have f0:=rq (c:=c) (f:=22695477) (m:=24) (by decide);have f1:=qY (c:=c) (f:=22695477) (m:=24) (by decide);have g0:=rq (c:=c) (f:=48271) (m:=23) (by decide);have g1:=qY (c:=c) (f:=48271) (m:=23) (by decide);have t0:=rq (c:=c) (f:=950706376) (m:=5) (by decide);have t1:=qY (c:=c) (f:=950706376) (m:=5) (by decide);unfold xp;simp only;split
 .exact⟨hx,B9 ha0 (by decide) (by decide),x9 na ha0 (by decide) (by decide)⟩
 .split
  .exact⟨hy,B9 ho (by decide) (by decide),x9 no ho (by decide) (by decide)⟩
  .split
   .exact⟨hy,hzz,ne⟩
   .split
    .refine⟨hy,hzz,ne,⟨f0,by lia⟩,⟨eR _ (by decide),?_⟩,?_⟩
     .have:=eO (qF c 22695477 24+1+qF c 48271 23) (show(0:Int)<24 by decide);lia
     .omega
    .split
     .exact⟨hy,hzz,ne⟩
     .split
      .refine⟨hy,hzz,ne,?_⟩;generalize qF c 950706376 5=d at t0 t1;have:d=0\/d=1\/d=2\/d=3\/d=4:=by lia
       rcases this with z|z|z|z|z<;>(subst z;decide)
      .split
       .exact hx
       .exact hx
def Nb(s:Int)(i:Nat):Fd (wR s i):=by
 have t0:=rq (c:=s+17*(0+(i:Nat))*(0+(i:Nat))) (f:=16807) (m:=5) (by decide);have t1:=qY (c:=s+17*(0+(i:Nat))*(0+(i:Nat))) (f:=16807) (m:=5) (by decide);have u0:=rq (c:=s+17*(0+(i:Nat))*(0+(i:Nat))) (f:=39373) (m:=6) (by decide);have u1:=qY (c:=s+17*(0+(i:Nat))*(0+(i:Nat))) (f:=39373) (m:=6) (by decide);have a:1<=(wR s i).2.1/\(wR s i).2.1<=3:=by
  show 1<=Hx Qa (qF (s+17*(0+(i:Nat))*(0+(i:Nat))) 16807 5)/\Hx Qa (qF (s+17*(0+(i:Nat))*(0+(i:Nat))) 16807 5)<=3;generalize qF (s+17*(0+(i:Nat))*(0+(i:Nat))) 16807 5=d at t0 t1;have:d=0\/d=1\/d=2\/d=3\/d=4:=by lia
  rcases this with z|z|z|z|z<;>(subst z;decide)
 have b:0<=(wR s i).2.2/\(wR s i).2.2<=9:=by
  show 0<=Hx RZ (qF (s+17*(0+(i:Nat))*(0+(i:Nat))) 39373 6)/\Hx RZ (qF (s+17*(0+(i:Nat))*(0+(i:Nat))) 39373 6)<=9;generalize qF (s+17*(0+(i:Nat))*(0+(i:Nat))) 39373 6=d at u0 u1;have:d=0\/d=1\/d=2\/d=3\/d=4\/d=5:=by lia
  rcases this with z|z|z|z|z|z<;>(subst z;decide)
 exact⟨dZ (Cj s (0+(i:Nat))).2 (by decide),EF _ _,a.1,a.2,b.1,b.2⟩
def OC{s:Int}{own:QQQ}(nd:own.Nodup)(hr:own≠[])(i:Nat):FZ own (AY s own i):=by
 have t0:=rq (c:=s+5*(0+(i:Nat))) (f:=742938285) (m:=2) (by decide);have t1:=qY (c:=s+5*(0+(i:Nat))) (f:=742938285) (m:=2) (by decide);refine⟨dZ (Cj s (8+(0+(i:Nat)))).2 (by decide),EF _ _,?_,B9 hr (by decide) (by decide),x9 nd hr (by decide) (by decide)⟩;show Cv RB (qF (s+5*(0+(i:Nat))) 742938285 2)="all"\/Cv RB (qF (s+5*(0+(i:Nat))) 742938285 2)="turns";generalize qF (s+5*(0+(i:Nat))) 742938285 2=d at t0 t1;have:d=0\/d=1:=by lia
 rcases this with z|z
 .subst z;exact .inl Z'
 .subst z;exact .inr Z'
def OM(s m:Int):(qM s m).map (·.1)=(List.range (su s m)).map λi=>yz s (0+(i:Nat)):=by unfold qM;rw[d6];rfl
def GA{s m:Int}(h2:2<=m)(h8:m<=8):((qM s m).map (·.1)).Nodup/\∀own,((qM s m).map (·.1)++(rJ s own).map (·.1)).Nodup:=by
 have d1:=qY (c:=s) (f:=48271) (m:=m - 1) (by lia);have d0:=rq (c:=s) (f:=48271) (m:=m - 1) (by lia);have p8:su s m<=8:=by unfold su;lia
 have g3:=xw (s:=s);have a:((qM s m).map (·.1)).Nodup:=by rw[OM];refine AW _ _ λi j hi hj e=>?_;have:=C4 (by lia) (by lia) (by lia) (by lia) e;lia
 refine⟨a,λown=>?_⟩;have ge:(rJ s own).map (·.1)=(List.range (ww s)).map λi=>yz s (8+(0+(i:Nat))):=by unfold rJ;rw[d6];rfl
 rw[gq];refine⟨a,?_,λx hx y hy e=>?_⟩
 .rw[ge];refine AW _ _ λi j hi hj e=>?_;have:=C4 (by lia) (by lia) (by lia) (by lia) e;lia
 .rw[OM]at hx;rw[ge]at hy;obtain⟨i,hi,rfl⟩:=dE.mp hx;obtain⟨j,hj,rfl⟩:=dE.mp hy;have hi:=e9.mp hi;have hj:=e9.mp hj;have:=C4 (by lia) (by lia) (by lia) (by lia) e;lia
def RC{m:Int}(h2:2<=m)(h8:m<=8):rb (CD ns m):=by
 obtain⟨n1,n2⟩:=GA (s:=cell ns 0) h2 h8;have pl:=zH (s:=cell ns 0) h2 (by lia);have p8:su (cell ns 0) m<=8:=by have d1:=qY (c:=cell ns 0) (f:=48271) (m:=m - 1) (by lia);unfold su;lia
 have lp:(qM (cell ns 0) m).length=su (cell ns 0) m:=by unfold qM;rw[cT,dS]
 have ol:((qM (cell ns 0) m).map (·.1)).length=su (cell ns 0) m:=by rw[cT,lp]
 have one:(qM (cell ns 0) m).map (·.1)≠[]:=λz=>by rw[z]at ol;have:0=su (cell ns 0) m:=ol;lia
 have gl:(rJ (cell ns 0) ((qM (cell ns 0) m).map (·.1))).length=ww (cell ns 0):=by unfold rJ;rw[cT,dS]
 refine⟨?_,?_,λp hp=>?_,?_,λg hg=>?_,n2 _,?_,λv hv=>?_⟩
 .show 1<=(qM (cell ns 0) m).length;lia
 .show(qM (cell ns 0) m).length<=8;lia
 .obtain⟨i,_,rfl⟩:=dE.mp hp;exact Nb _ i
 .show(rJ (cell ns 0) ((qM (cell ns 0) m).map (·.1))).length<=3;rw[gl];exact xw
 .obtain⟨i,_,rfl⟩:=dE.mp hg;exact OC n1 one i
 .show((List.range (xx (cell ns 0))).map _).length<=16;rw[cT,dS];have d1:=qY (c:=cell ns 0) (f:=950706376) (m:=11) (by decide);unfold xx;lia
 .obtain⟨i,hi,rfl⟩:=dE.mp hv;refine PB n1 (n2 _) one ?_;show 2<=((qM (cell ns 0) m).map (·.1)++_).length;rw[cW,ol];lia
structure pL where
 st:Str
 cr:Str
 way:QQQ
 at_:QQQ
 ms:QQQ
 hd:Option Str
 si:Int
 wd:Option Str
structure sX where
 i:Nat
 f:Str
 g:Str
 y:Str
inductive Ev
 | new (n:Nat) (x:Str)
 | leg (v:sX)
 | asks (i:Nat) (z:Str) (ns:List Nat)
 | next (z:Str) (n:Int)
 | merge (i j:Nat) (ms:QQQ)
 | turn
 | sw (b:Bool) (i:Nat)
 | rings (i:Nat) (ps:QQQ)
 | quiet (i:Nat)
 | waits (i:Nat) (x:Str)
 | talks (i:Nat) (ms:QQQ)
 | held (i:Nat) (x:Str)
 | leaves (i:Nat) (x:Str)
 | over (i:Nat) (w:Str)
structure qu where
 p:Uf
 h:Int
 t:Int
 calls:List pL
 mW:List sX
 ps:List (Str×Int)
 on:List Bool
 log:List Ev
 fo:QXQ
noncomputable def yr(ns:T0 Nat):D:=.tup (ns.map λn=>D.int (n:Nat))
noncomputable def sX.d(v:sX):D:=.tup [.int (v.i:Nat),.str v.f,.str v.g,.str v.y]
noncomputable def Vp(b:Bool):Str:=if b=Db then "on" else "off"
def Ev.d:Ev->D
 | .new n x=>.tup [.str "new",.int (n:Nat),.str x]
 | .leg v=>.tup [.str "leg",.int (v.i:Nat),.str v.f,.str v.g,.str v.y]
 | .asks i z ns=>.tup [.str "asks",.int (i:Nat),.str z,yr ns]
 | .next z n=>.tup [.str "next",.str z,.int n]
 | .merge i j ms=>.tup [.str "merge",.int (i:Nat),.int (j:Nat),names ms]
 | .turn=>.tup [.str "turn"]
 | .sw b i=>.tup [.str (Vp b),.int (i:Nat)]
 | .rings i ps=>.tup [.str "rings",.int (i:Nat),names ps]
 | .quiet i=>.tup [.str "quiet",.int (i:Nat)]
 | .waits i x=>.tup [.str "waits",.int (i:Nat),.str x]
 | .talks i ms=>.tup [.str "talks",.int (i:Nat),names ms]
 | .held i x=>.tup [.str "held",.int (i:Nat),.str x]
 | .leaves i x=>.tup [.str "leaves",.int (i:Nat),.str x]
 | .over i w=>.tup [.str "over",.int (i:Nat),.str w]
noncomputable def hasS(ss:QQQ)(x:Str):Bool:=ss.any (·==x)
noncomputable def s8(ss:QQQ)(x:Str):QQQ:=ss.filter λy=>!(y==x)
noncomputable def Am(x:Str):pL:=⟨"rings",x,[],[],[],Fa,0,Fa⟩
noncomputable def pL.over(c:pL)(w:Str):pL:={c with st:="over",wd:=some w,at_:=[],ms:=[],hd:=none}
def pL.drop(c:pL)(x:Str):pL:={c with at_:=s8 c.at_ x,ms:=s8 c.ms x}
noncomputable def pL.ring(c:pL)(ps:QQQ):pL:={c with st:="rings",at_:=ps,si:=0}
noncomputable def pL.nI(c:pL)(ms:QQQ):pL:={c with st:="talks",ms:=ms,at_:=[],hd:=none}
noncomputable def pL.wait(c:pL)(x:Str):pL:={c with st:="waits",at_:=[x]}
noncomputable def pL.hold(c:pL)(x:Str):pL:={c with st:="held",hd:=some x}
noncomputable def pL.nO(c:pL):pL:={c with at_:=[]}
noncomputable def pL.mem(c:pL)(ms:QQQ):pL:={c with ms:=ms}
noncomputable def pL.go(c:pL)(g:Str):pL:={c with way:=c.way++[g]}
noncomputable def pL.tick(c:pL):pL:=if (c.st=="rings")=Db then{c with si:=c.si+1}else c
noncomputable def sX.to(m k:Nat)(v:sX):sX:=if v.i=m then{v with i:=k}else v
noncomputable def Dq(ps:T0 (Str×Int))(z:Str)(n:Int):T0 (Str×Int):=if ps.any (λp=>decide (p.1=z))=Db then ps.map (λp=>if p.1=z then(p.1,n)else p)else ps++[(z,n)]
noncomputable def yi(V:qu)(i:Nat)(f:pL->pL):qu:={V with calls:=V.calls.modify i f}
noncomputable def qZ(V:qu)(e:Ev):qu:={V with log:=V.log++[e]}
def VL(V:qu):Ev->qu
 | .new _ x=>{V with calls:=V.calls++[Am x]}
 | .leg v=>{V with mW:=V.mW++[v],calls:=V.calls.modify v.i (·.go v.g)}
 | .asks _ _ _=>V
 | .next z n=>{V with ps:=Dq V.ps z n}
 | .merge i j ms=>{V with calls:=(V.calls.modify i (·.over "merged")).modify j (·.mem ms),mW:=V.mW.map (sX.to i j)}
 | .turn=>{V with t:=V.t+1,calls:=V.calls.map pL.tick}
 | .sw b i=>{V with on:=V.on.set i b}
 | .rings i ps=>yi V i (·.ring ps)
 | .quiet i=>yi V i pL.nO
 | .waits i x=>yi V i (·.wait x)
 | .talks i ms=>yi V i (·.nI ms)
 | .held i x=>yi V i (·.hold x)
 | .leaves i x=>yi V i (·.drop x)
 | .over i w=>yi V i (·.over w)
def ql(V:qu)(e:Ev):qu:=VL (qZ V e) e
def qO(V:qu)(es:T0 Ev):qu:=es.foldl ql V
def Ev.ok(V:qu):Ev->Prop
 | .new _ _=>True
 | .leg v=>v.i<V.calls.length
 | .asks _ _ _=>True
 | .next _ _=>True
 | .merge i j ms=>i<V.calls.length/\j<V.calls.length/\i≠j/\ms.length<=100
 | .turn=>True
 | .sw _ i=>i<V.on.length
 | .rings i ps=>i<V.calls.length/\ps.length<=100
 | .quiet i=>i<V.calls.length
 | .waits i _=>i<V.calls.length
 | .talks i ms=>i<V.calls.length/\ms.length<=100
 | .held i _=>i<V.calls.length
 | .leaves i _=>i<V.calls.length
 | .over i _=>i<V.calls.length
def r6(V:qu)(es fs:T0 Ev):qO V (es++fs)=qO (qO V es) fs:=jr ..
theorem JK:∀(es:T0 Ev) (V:qu),(qO V es).log=V.log++es
 | [],V=>(eG _).symm
 | e::r,V=>by
  show(qO (ql V e) r).log=_;rw[JK r];have:(ql V e).log=V.log++[e]:=by cases e<;>rfl
  rw[this,fh];rfl
def pL.mU(c:pL)(x:Str):Bool:=(c.st=="talks")&&hasS c.ms x
def pL.hasB(c:pL)(x:Str):Bool:=if (c.st=="rings")=Db then(x==c.cr)||hasS c.at_ x else if (c.st=="waits")=Db then x==c.cr else(c.st=="talks"||c.st=="held")&&hasS c.ms x
def pL.m9(c:pL)(x:Str):Bool:=if (c.st=="held")=Db then hasS c.ms x&&!((c.hd==ga x))else c.mU x
noncomputable def pL.mT(c:pL)(x:Str):Bool:=(c.st=="rings"||c.st=="waits")&&(x==c.cr)
def pL.mO(c:pL)(x:Str):Bool:=(c.st=="waits")&&hasS c.at_ x
def pL.nz(c:pL)(x:Str):Bool:=c.mT x||(hasS c.at_ x||hasS c.ms x)
noncomputable def pL.mV(c:pL)(x:Str):Bool:=c.mU x&&(c.ms.length==2)
noncomputable def vH(V:qu)(x:Str):Nat:=(V.calls.filter (·.hasB x)).length
noncomputable def xG(l:pM)(x:Str):Int:=(l.m7 x).elim 0 λv=>v.2.1
noncomputable def wF(l:pM)(x:Str):Int:=(l.m7 x).elim 0 λv=>v.2.2
def uF(l:pM)(V:qu)(x:Str):Bool:=decide ((vH V x:Int)<xG l x)
def uV(l:pM)(V:qu)(c z:Str):QQQ:=(l.mH z).filter λx=>!(x==c)&&uF l V x
def yf(l:pM)(V:qu)(c z:Str):Bool:=(uV l V c z).isEmpty
noncomputable def wJ(V:qu)(x:Str):Option Nat:=V.calls.findIdx? (·.mU x)
noncomputable def Fg(V:qu)(x:Str):Option Nat:=V.calls.findIdx? (·.m9 x)
noncomputable def JX(V:qu)(x:Str):Option Nat:=V.calls.findIdx? (·.mT x)
noncomputable def Bm(V:qu)(x:Str):Bool:=V.calls.any (·.mO x)
noncomputable def PM:Option Nat->D
 | none=>.mM
 | some j=>.int (j:Nat)
noncomputable def FB(f l h:Int):Bool:=if f<l then decide (f<=h)&&decide (h<l)else decide (h>=f)||decide (h<l)
def Il(l:pM)(x:Str)(ms:QQQ):Bool:=ms.all λm=>decide (wF l m<wF l x)
def Jo(l:pM)(V:qu)(x c z:Str):Bool:=if (!(c==x)||(z==x))=Db then pc else if (!(hasS l.pn z)||!(yf l V c z))=Db then pc else((wJ V z).bind (V.calls[·]?)).elim pc λk=>(k.ms.length==2)&&Il l x k.ms
def wQ(l:pM)(V:qu)(c z:Str):Wi->Bool
 | .bar x ns=>(c==x)&&hasS ns z
 | .shut x ns=>(z==x)&&hasS ns c
 | .always x _=>z==x
 | .night x _ f m=>(z==x)&&FB f m ((V.h+V.t) % 24)
 | .busy x _=>(z==x)&&yf l V c z
 | .silent _ _ _=>pc
 | .wait x=>if (!(z==x)||(c==x))=Db then pc else yf l V c z&&!(Bm V z)
 | .breaks x=>Jo l V x c z
noncomputable def FV(c:pL):Wi->Bool
 | .silent x _ n=>(c.way.getLast?==ga x)&&decide (n<=c.si)
 | _=>pc
noncomputable def yc(l:pM)(V:qu)(f:Wi->Bool):T0 Nat:=(List.range V.on.length).filter λi=>V.on.getD i pc&&(l.mG[i]?).elim pc λw=>f w.2
def xP(l:pM)(V:qu)(c z:Str):T0 Nat:=yc l V (wQ l V c z)
noncomputable def vI(ms:QQQ)(n:Nat):QQQ:=ms.drop n++ms.take n
noncomputable def zR(V:qu)(z:Str):Nat:=((V.ps.find? λp=>decide (p.1=z)).elim 0 λp=>p.2).toNat
def yq(l:pM)(V:qu)(c z:Str):QQQ:=if (l.mP z=="turns")=Db then((vI (l.mH z) (zR V z)).filter λx=>hasS (uV l V c z) x).take 1 else uV l V c z
inductive wn
 | engaged (z:Str)
 | rings (z:Str) (ps:QQQ)
 | waits (z:Str)
 | breaks (z:Str)
 | barred
 | ring (ns:QQQ)
noncomputable def wn.d:wn->D
 | .engaged z=>.tup [.str "engaged",.str z]
 | .rings z ps=>.tup [.str "rings",.str z,names ps]
 | .waits z=>.tup [.str "waits",.str z]
 | .breaks z=>.tup [.str "breaks",.str z]
 | .barred=>.tup [.str "barred"]
 | .ring ns=>.tup [.str "ring",names ns]
def IG(l:pM)(V:qu)(c z:Str):wn:=match yq l V c z with
 | []=>.engaged z
 | x::r=>.rings z (x::r)
noncomputable def GP(z:Str):Wi->Sum wn Str
 | .bar _ _=>.inl .barred
 | .shut _ _=>.inl .barred
 | .always _ y=>.inr y
 | .night _ y _ _=>.inr y
 | .busy _ y=>.inr y
 | .silent _ y _=>.inr y
 | .wait _=>.inl (.waits z)
 | .breaks _=>.inl (.breaks z)
abbrev sZ:=T0 (Str×T0 Nat)
def ug(l:pM)(V:qu)(c:Str):Nat->Str->QQQ->sZ->wn×sZ
 | 0,_,_,st=>(.barred,st)
 | n+1,z,way,st=>if hasS way z=Db then(.ring (way.drop (way.findIdx (·==z))),st)else
  match xP l V c z with
  | []=>(IG l V c z,st++[(z,[])])
  | i::r=>(l.mG[i]?).elim (.barred,st) λw=>match GP z w.2 with
   | .inl e=>(e,st++[(z,i::r)])
   | .inr y=>ug l V c n y (way++[z]) (st++[(z,i::r)])
def tX(l:pM)(V:qu)(c z:Str)(way:QQQ):wn×sZ:=ug l V c (l.nm.length+1) z way []
noncomputable def rP(i:Nat):Option Str->sZ->T0 Ev
 | _,[]=>[]
 | none,(z,fs)::r=>.asks i z fs::rP i (ga z) r
 | some y,(z,fs)::r=>.leg ⟨i,y,z,y⟩::.asks i z fs::rP i (ga z) r
noncomputable def RI(ms:QQQ)(x:Str):Int:=((ms.findIdx (·==x):Nat)+1) % (ms.length:Int)
def sY(l:pM)(V:qu)(i:Nat):wn->T0 Ev
 | .rings z ps=>(if (l.mP z=="turns")=Db then[.next z (RI (l.mH z) (ps.headD Str.empty))]else[])++[.rings i ps]
 | .waits z=>[.waits i z]
 | .breaks z=>match wJ V z,V.calls[i]? with
  | some j,ga c=>[.merge i j ((V.calls[j]?).elim [] (·.ms)++[c.cr])]
  | _,_=>[]
 | .engaged _=>[.over i "engaged"]
 | .barred=>[.over i "barred"]
 | .ring _=>[.over i "ring"]
noncomputable def uI(i:Nat)(st:sZ):wn->T0 Ev
 | .ring ns=>(st.getLast?).elim [] λs=>[.leg ⟨i,s.1,ns.headD Str.empty,s.1⟩]
 | _=>[]
def tV(l:pM)(V:qu)(i:Nat):T0 Ev:=(V.calls[i]?).elim [] λc=>
 let r:=tX l V c.cr (c.way.getLastD Str.empty) c.way.dropLast
 rP i Fa r.2++(uI i r.2 r.1++sY l V i r.1)
def yD(l:pM)(V:qu)(y z:Str):T0 Ev:=
 let es:=[Ev.new V.calls.length y,.leg ⟨V.calls.length,y,z,y⟩]
 es++tV l (qO V es) V.calls.length
def vK(V:qu)(x:Str)(i:Nat):T0 Ev:=(V.calls[i]?).elim [] λc=>if c.mT x=Db then[.over i "left"]else if hasS c.at_ x=Db then .leaves i x::(if s8 c.at_ x=[]then[.over i "refused"]else[])else if 2<c.ms.length then[.leaves i x]else[.over i "done"]
def rV(l:pM)(V:qu)(i:Nat)(fs:T0 Nat):T0 Ev:=match fs.head?.bind (l.mG[·]?)with
 | some (_,.silent x y _)=>
  let es:=[Ev.asks i x fs,.quiet i,.leg ⟨i,x,y,x⟩]
  es++tV l (qO V es) i
 | _=>[]
def vR(l:pM)(V:qu)(i:Nat):T0 Nat:=(V.calls[i]?).elim [] λc=>if (c.st=="rings")=Db then yc l V (FV c)else[]
def qS(l:pM):T0 Nat->qu->T0 Ev
 | [],_=>[]
 | i::r,V=>rV l V i (vR l V i)++qS l r (qO V (rV l V i (vR l V i)))
def vL(l:pM)(V:qu):T0 Ev:=.turn::qS l (List.range V.calls.length) (ql V .turn)
inductive qL
 | call (y z:Str)
 | num (w x:Str) (ns:List Int)
 | turn
 | sw (b:Bool) (i:Int)
def qL.d:qL->D
 | .call y z=>.tup [.str "call",.str y,.str z]
 | .num w x ns=>.tup (.str w::.str x::ns.map D.int)
 | .turn=>.tup [.str "turn"]
 | .sw b i=>.tup [.str (Vp b),.int i]
def qL.mZ:qL->Prop
 | .num w _ ns=>((w="answer"\/w="hang"\/w="hold"\/w="back")/\ns.length=1)\/((w="hand"\/w="join")/\ns.length=2)
 | _=>True
def vd(V:qu)(x:Str):Option Str:=if (Fg V x).isSome=Db then ga "bound" else if (JX V x).isSome=Db then ga "calls" else Fa
noncomputable def z9(n:Nat)(i:Int):Bool:=decide (0<=i)&&decide (i<(n:Int))
def Ky(w x:Str):List pL->Bool
 | []=>pc
 | c::r=>if (w=="answer")=Db then hasS c.at_ x else if (w=="hang")=Db then c.nz x else if (w=="hold")=Db then c.mV x else if (w=="back")=Db then c.hd==ga x else(c.hd==ga x)&&(r.head?.elim pc λd=>d.mV x)
noncomputable def uh(V:qu)(ns:T0 Int):List pL:=ns.filterMap λi=>V.calls[i.toNat]?
def Ho(l:pM)(V:qu)(y z:Str):Option Str:=if hasS l.nm z=pc then ga "name" else if ((vd V y).isNone&&!(uF l V y))=Db then ga "full" else vd V y
def NU(l:pM)(V:qu)(w x:Str)(ns:T0 Int):Option Str:=if ns.all (z9 V.calls.length)=pc then ga "call" else if Ky w x (uh V ns)=pc then ga "call" else if (w=="answer"||w=="back")=pc then Fa else
 if ((vd V x).isNone&&((uh V ns).head?.elim pc (λc=>c.mO x)&&!(uF l V x)))=Db then ga "full" else vd V x
def Rq(V:qu)(b:Bool)(i:Int):Option Str:=if z9 V.on.length i=pc then ga "wish" else if (V.on.getD i.toNat pc==b)=Db then ga "wish" else Fa
def vv(l:pM)(V:qu):qL->Option Str
 | .turn=>Fa
 | .sw b i=>Rq V b i
 | .call y z=>if hasS l.pn y=pc then ga "name" else Ho l V y z
 | .num w x ns=>if hasS l.pn x=pc then ga "name" else NU l V w x ns
def qI(c:pL)(x:Str):Str:=(s8 c.ms x).headD Str.empty
noncomputable def DH(V:qu)(w x:Str)(i:Nat):Ev:=(V.calls[i]?).elim .turn λc=>if (w=="answer")=Db then .talks i [c.cr,x]else if (w=="hold")=Db then .held i x else .talks i c.ms
def CT(V:qu)(w x:Str)(i j:Nat):Ev:=(V.calls[i]?).elim .turn λc=>(V.calls[j]?).elim .turn λd=>.merge i j (if (w=="hand")=Db then[qI c x,qI d x]else[x,qI c x,qI d x])
def vA(l:pM)(V:qu):qL->T0 Ev
 | .call y z=>yD l V y z
 | .num w x [i]=>if (w=="hang")=Db then vK V x i.toNat else[DH V w x i.toNat]
 | .num w x [i,j]=>[CT V w x i.toNat j.toNat]
 | .num _ _ _=>[]
 | .turn=>vL l V
 | .sw b i=>[.sw b i.toNat]
structure sf where
 p:Uf
 wy:Uf
structure tq where
 b:Uf
 ca:Uf
 le:Uf
 nx:Uf
 on:Uf
 lo:Uf
 cs:List sf
noncomputable def BV:Option Str->D
 | none=>.mM
 | some x=>.str x
def rL(c:pL)(wy ad md:Uf):T0 (Str×D):=[("state",.str c.st),("caller",.str c.cr),("way",.ref wy),("at",.ref ad),("members",.ref md),("holder",BV c.hd),("since",.int c.si),("word",BV c.wd)]
noncomputable def uz(p:D)(h t:Int)(ca le nx on lo:Uf):T0 (Str×D):=[("plan",p),("hour",.int h),("turn",.int t),("calls",.ref ca),("legs",.ref le),("nexts",.ref nx),("on",.ref on),("log",.ref lo)]
noncomputable def tZ(ps:T0 (Str×Int)):T0 (rD×D):=ps.map λp=>((Sum.inr p.1:rD),D.int p.2)
noncomputable def tq.lists(A:tq):QXQ:=A.ca::A.le::A.on::A.lo::A.cs.map (·.wy)
noncomputable def tq.foot(A:tq):QXQ:=A.b::A.nx::(A.lists++A.cs.map (·.p))
def sC(a:Ad)(M:Mp)(L:QXQ)(k:sf)(c:pL):Prop:=Dn λad md=>M k.p=ga (.ins a.e (rL c k.wy ad md))/\oP M k.wy=ga (c.way.map D.str)/\oP M ad=ga (c.at_.map D.str)/\oP M md=ga (c.ms.map D.str)/\ad∉L/\md∉L
structure pS(a:Ad)(M:Mp)(A:tq)(V:qu):Prop where
 at_:M A.b=ga (.ins a.c (uz (.ref V.p) V.h V.t A.ca A.le A.nx A.on A.lo))
 ca:oP M A.ca=ga (A.cs.map λk=>D.ref k.p)
 le:oP M A.le=ga (V.mW.map sX.d)
 nx:zY M A.nx=ga (tZ V.ps)
 on:oP M A.on=ga (V.on.map D.bl)
 lo:oP M A.lo=ga (V.log.map Ev.d)
 len:A.cs.length=V.calls.length
 cs:∀(i:Nat) k c,A.cs[i]?=ga k->V.calls[i]?=ga c->sC a M (A.lists++V.fo) k c
 nl:A.lists.Nodup
 np:(A.b::A.cs.map (·.p)).Nodup
 fo:∀x∈V.fo,∃c,M x=ga c
def xD{F:QXQ}{M:Mp}{p:Uf}{c:uR}(h:∀x∈F,∃c,M x=ga c):∀x∈F,∃d,pQ M p c x=ga d:=λx hx=>by
 by_cases z:x=p
 .exact⟨c,by rw[z];exact pZ⟩
 .obtain⟨d,e⟩:=h x hx;exact⟨d,sH.put x d z e⟩
def sC.sub{k:sf}{c:pL}(h:sC a M L k c)(s:qN M M'):sC a M' L k c:=by obtain⟨ad,md,h1,h2,h3,h4,h5⟩:=h;exact⟨ad,md,s _ _ h1,s.lst h2,s.lst h3,s.lst h4,h5⟩
def pS.sub{A:tq}{V:qu}(h:pS a M A V)(s:qN M M'):pS a M' A V:=⟨s _ _ h.at_,s.lst h.ca,s.lst h.le,s.dk h.nx,s.lst h.on,s.lst h.lo,h.len,λi k c e1 e2=>(h.cs i k c e1 e2).sub s,h.nl,h.np,λx hx=>(h.fo x hx).imp λc e=>s x c e⟩
def sC.nW{k:sf}{c:pL}{x:Uf}{ds:T0 D}(h:sC a M L k c)(kp:sH x M M')(hl:oP M x=ga ds)(hx:x∈L)(hn:k.wy≠x):sC a M' L k c:=by obtain⟨ad,md,h1,h2,h3,h4,h5,h6⟩:=h;exact⟨ad,md,kp _ _ (λz=>by rw[z,qg hl]at h1;cases h1) h1,kp.lst hn h2,kp.lst (λz=>h5 (z ▸ hx)) h3,kp.lst (λz=>h6 (z ▸ hx)) h4,h5,h6⟩
def sC.oj{k:sf}{c:pL}{x C:Uf}{fs:T0 (Str×D)}(h:sC a M L k c)(kp:sH x M M')(hi:M x=ga (.ins C fs))(hn:k.p≠x):sC a M' L k c:=by obtain⟨ad,md,h1,h2,h3,h4,h5⟩:=h;exact⟨ad,md,kp _ _ hn h1,kp.lst (qd h2 hi) h2,kp.lst (qd h3 hi) h3,kp.lst (qd h4 hi) h4,h5⟩
def vC{a p:Uf}{ds:T0 (rD×D)}{es:T0 D}(h:zY M a=ga ds)(hp:oP M p=ga es):a≠p:=λz=>by subst z;unfold zY at h;rw[qg hp]at h;cases h
def sC.pz{k:sf}{c:pL}{x:Uf}{ds:T0 (rD×D)}(h:sC a M L k c)(kp:sH x M M')(hd:zY M x=ga ds):sC a M' L k c:=by obtain⟨ad,md,h1,h2,h3,h4,h5⟩:=h;exact⟨ad,md,kp _ _ (λz=>by rw[z,yM hd]at h1;cases h1) h1,kp.lst (dW (vC hd h2)) h2,kp.lst (dW (vC hd h3)) h3,kp.lst (dW (vC hd h4)) h4,h5⟩
def qR{α:Type}{l:List α}{i:Nat}{x:α}(h:l[i]?=ga x):x∈l:=fm h
def pS.ne{A:tq}{V:qu}(h:pS a M A V):A.ca≠A.le/\A.ca≠A.on/\A.ca≠A.lo/\A.le≠A.on/\A.le≠A.lo/\A.on≠A.lo/\∀k∈A.cs,k.wy≠A.ca/\k.wy≠A.le/\k.wy≠A.on/\k.wy≠A.lo:=by
 have n:=h.nl;unfold tq.lists at n;obtain⟨n1,n⟩:=dR.mp n;obtain⟨n2,n⟩:=dR.mp n;obtain⟨n3,n⟩:=dR.mp n;obtain⟨n4,n⟩:=dR.mp n;have w:∀k∈A.cs,k.wy∈A.cs.map (·.wy):=λk hk=>dE.mpr ⟨k,hk,Z'⟩;refine⟨λz=>n1 (z ▸ by simp),λz=>n1 (z ▸ by simp),λz=>n1 (z ▸ by simp),λz=>n2 (z ▸ by simp),λz=>n2 (z ▸ by simp),λz=>n3 (z ▸ by simp),λk hk=>⟨λz=>n1 ?_,λz=>n2 ?_,λz=>n3 ?_,λz=>n4 ?_⟩⟩
 .rw[<-z];exact dz _ (dz _ (dz _ (w k hk)))
 .rw[<-z];exact dz _ (dz _ (w k hk))
 .rw[<-z];exact dz _ (w k hk)
 .rw[<-z];exact w k hk
def pS.oq{A:tq}{V:qu}(_:pS a M A V):A.ca∈A.lists/\A.le∈A.lists/\A.lo∈A.lists/\(∀k∈A.cs,k.wy∈A.lists)/\A.on∈A.lists:=by unfold tq.lists;refine⟨by simp,by simp,by simp,?_,by simp⟩;exact λk hk=>by simp;exact .inr (.inr (.inr (.inr ⟨k,hk,Z'⟩)))
def pS.o9{A:tq}{V:qu}(h:pS a M A V):A.ca∈A.lists++V.fo/\A.le∈A.lists++V.fo/\A.lo∈A.lists++V.fo/\(∀k∈A.cs,k.wy∈A.lists++V.fo)/\A.on∈A.lists++V.fo:=by obtain⟨h1,h2,h3,h4,h5⟩:=h.oq;exact⟨eC _ h1,eC _ h2,eC _ h3,λk hk=>eC _ (h4 k hk),eC _ h5⟩
def qX(A:tq)(M:Mp)(A':tq)(M':Mp):Prop:=(∀x c,x∉A.foot->M x=ga c->M' x=ga c)/\(∀x∈A'.foot,x∈A.foot\/M x=Fa)/\(∀(i:Nat) k,A.cs[i]?=ga k->A'.cs[i]?=ga k)/\∀x c,M x=ga c->∃d,M' x=ga d
def BW{M:Mp}{p y:Uf}{c d:uR}(h:M y=ga d):∃e,pQ M p c y=ga e:=by
 by_cases z:y=p
 .exact⟨c,by rw[z];exact pZ⟩
 .exact⟨d,sH.put y d z h⟩
def qX.refl{A:tq}:qX A M A M:=⟨λ_ _ _ h=>h,λ_ h=>.inl h,λ_ _ h=>h,λ_ c h=>⟨c,h⟩⟩
def qX.trans{A A1 A2:tq}{M M1 M2:Mp}(s:qX A M A1 M1)(u:qX A1 M1 A2 M2):qX A M A2 M2:=by
 refine⟨λx c n h=>u.1 x c (λz=>?_) (s.1 x c n h),λx hx=>?_,λi k h=>u.2.2.1 i k (s.2.2.1 i k h),λx c h=>(s.2.2.2 x c h).elim λd e=>u.2.2.2 x d e⟩
 .rcases s.2.1 x z with y|y
  .exact n y
  .rw[y]at h;cases h
 .rcases u.2.1 x hx with z|z
  .exact s.2.1 x z
  .by_cases y:x∈A.foot
   .exact .inl y
   .refine .inr ?_;cases e:M x with
    | none=>rfl
    | some c=>rw[s.1 x c y e]at z;cases z
def qX.keep{A:tq}{x:Uf}{c:uR}(h:x∈A.foot)(k:sH x M (pQ M x c)):qX A M A (pQ M x c):=⟨λy c n e=>k y c (λz=>n (z ▸ h)) e,λ_ h=>.inl h,λ_ _ h=>h,λ_ _ h=>BW h⟩
def qX.sub{A:tq}(s:qN M M'):qX A M A M':=⟨λy c _ e=>s y c e,λ_ h=>.inl h,λ_ _ h=>h,λx c h=>⟨c,s x c h⟩⟩
def tq.mS(A:tq):A.b∈A.foot/\A.nx∈A.foot/\A.ca∈A.foot/\A.le∈A.foot/\A.lo∈A.foot/\(∀k∈A.cs,k.p∈A.foot)/\∀k∈A.cs,k.wy∈A.foot:=by unfold tq.foot tq.lists;exact⟨by simp,by simp,by simp,by simp,by simp,λk hk=>by simp;exact .inr (.inr (.inr (.inr (.inr (.inr (.inr ⟨k,hk,Z'⟩)))))),λk hk=>by simp;exact .inr (.inr (.inr (.inr (.inr (.inr (.inl ⟨k,hk,Z'⟩))))))⟩
def tq.nN(A:tq){x:Uf}(h:x∈A.lists):x∈A.foot:=by unfold tq.foot;exact dz _ (dz _ (dG.mpr (.inl h)))
variable {M M1:Mp}{A:tq}{V:qu}
def FN{α:Type}{l:List α}{i j:Nat}{x y:α}(h:(l.set i x)[j]?=ga y):(j=i/\y=x/\i<l.length)\/(j≠i/\l[j]?=ga y):=by
 by_cases z:j=i
 .subst z;by_cases hl:j<l.length
  .rw[fE hl]at h;exact .inl ⟨Z',(df h).symm,hl⟩
  .rw[fK (by rw[io];lia)]at h;cases h
 .rw[fD (dW z)]at h;exact .inr ⟨z,h⟩
def ML{α β:Type}{f:α->β}{l:List α}{i j:Nat}{x y:α}(nd:(l.map f).Nodup)(h1:l[i]?=ga x)(h2:l[j]?=ga y)(e:f x=f y):i=j:=by
 have e1:(l.map f)[i]?=ga (f x):=by rw[dv,h1];rfl
 have e2:(l.map f)[j]?=ga (f y):=by rw[dv,h2];rfl
 obtain⟨l1,q1⟩:=cX.mp e1;obtain⟨l2,q2⟩:=cX.mp e2;exact(jD nd).mp (q1.trans (e.trans q2.symm))
def pS.nw(h:pS a M A V):(A.cs.map (·.wy)).Nodup:=(dR.mp (dR.mp (dR.mp (dR.mp h.nl).2).2).2).2
def pS.oW(h:pS a M A V):(A.cs.map (·.p)).Nodup/\∀k∈A.cs,k.p≠A.b:=⟨(dR.mp h.np).2,λk hk z=>(dR.mp h.np).1 (z ▸ dE.mpr ⟨k,hk,Z'⟩)⟩
def pS.oM(h:pS a M A V){es:T0 Ev}:pS a (pQ M A.lo (.lst (es.map Ev.d))) A {V with log:=es}/\qX A M A (pQ M A.lo (.lst (es.map Ev.d))):=by have kp:sH A.lo M (pQ M A.lo (.lst (es.map Ev.d))):=.put;obtain⟨n1,n2,n3,n4,n5,n6,nw⟩:=h.ne;exact⟨⟨kp _ _ (dW (qd h.lo h.at_)) h.at_,kp.lst n3 h.ca,kp.lst n5 h.le,kp.dk (vC h.nx h.lo) h.nx,kp.lst n6 h.on,pU,h.len,λi k c e1 e2=>(h.cs i k c e1 e2).nW kp h.lo h.o9.2.2.1 (nw k (qR e1)).2.2.2,h.nl,h.np,xD h.fo⟩,.keep A.mS.2.2.2.2.1 kp⟩
def pS.oO(h:pS a M A V){es:List sX}:pS a (pQ M A.le (.lst (es.map sX.d))) A {V with mW:=es}/\qX A M A (pQ M A.le (.lst (es.map sX.d))):=by have kp:sH A.le M (pQ M A.le (.lst (es.map sX.d))):=.put;obtain⟨n1,n2,n3,n4,n5,n6,nw⟩:=h.ne;exact⟨⟨kp _ _ (dW (qd h.le h.at_)) h.at_,kp.lst n1 h.ca,pU,kp.dk (vC h.nx h.le) h.nx,kp.lst (dW n4) h.on,kp.lst (dW n5) h.lo,h.len,λi k c e1 e2=>(h.cs i k c e1 e2).nW kp h.le h.o9.2.1 (nw k (qR e1)).2.1,h.nl,h.np,xD h.fo⟩,.keep A.mS.2.2.2.1 kp⟩
def pS.pk(h:pS a M A V){bs:T0 Bool}:pS a (pQ M A.on (.lst (bs.map D.bl))) A {V with on:=bs}/\qX A M A (pQ M A.on (.lst (bs.map D.bl))):=by have kp:sH A.on M (pQ M A.on (.lst (bs.map D.bl))):=.put;obtain⟨n1,n2,n3,n4,n5,n6,nw⟩:=h.ne;exact⟨⟨kp _ _ (dW (qd h.on h.at_)) h.at_,kp.lst n2 h.ca,kp.lst n4 h.le,kp.dk (vC h.nx h.on) h.nx,pU,kp.lst (dW n6) h.lo,h.len,λi k c e1 e2=>(h.cs i k c e1 e2).nW kp h.on h.o9.2.2.2.2 (nw k (qR e1)).2.2.1,h.nl,h.np,xD h.fo⟩,.keep (A.nN h.oq.2.2.2.2) kp⟩
def pS.pb(h:pS a M A V){ps:T0 (Str×Int)}:pS a (pQ M A.nx (.dk (tZ ps))) A {V with ps:=ps}/\qX A M A (pQ M A.nx (.dk (tZ ps))):=by have kp:sH A.nx M (pQ M A.nx (.dk (tZ ps))):=.put;exact⟨⟨kp _ _ (dW (Dy h.nx h.at_)) h.at_,kp.lst (dW (vC h.nx h.ca)) h.ca,kp.lst (dW (vC h.nx h.le)) h.le,CY pZ,kp.lst (dW (vC h.nx h.on)) h.on,kp.lst (dW (vC h.nx h.lo)) h.lo,h.len,λi k c e1 e2=>(h.cs i k c e1 e2).pz kp h.nx,h.nl,h.np,xD h.fo⟩,.keep A.mS.2.1 kp⟩
def pS.putT(h:pS a M A V){t:Int}:pS a (pQ M A.b (.ins a.c (uz (.ref V.p) V.h t A.ca A.le A.nx A.on A.lo))) A {V with t:=t}/\qX A M A (pQ M A.b (.ins a.c (uz (.ref V.p) V.h t A.ca A.le A.nx A.on A.lo))):=by have kp:sH A.b M (pQ M A.b (.ins a.c (uz (.ref V.p) V.h t A.ca A.le A.nx A.on A.lo))):=.put;exact⟨⟨pZ,kp.lst (qd h.ca h.at_) h.ca,kp.lst (qd h.le h.at_) h.le,kp.dk (Dy h.nx h.at_) h.nx,kp.lst (qd h.on h.at_) h.on,kp.lst (qd h.lo h.at_) h.lo,h.len,λi k c e1 e2=>(h.cs i k c e1 e2).oj kp h.at_ (h.oW.2 k (qR e1)),h.nl,h.np,xD h.fo⟩,.keep A.mS.1 kp⟩
def pS.om(h:pS a M A V){i:Nat}{k:sf}{c c':pL}{ad md:Uf}(e1:A.cs[i]?=ga k)(e2:V.calls[i]?=ga c)(ew:c'.way=c.way)(la:oP M ad=ga (c'.at_.map D.str))(lm:oP M md=ga (c'.ms.map D.str))(na:ad∉A.lists++V.fo)(nm:md∉A.lists++V.fo):
  pS a (pQ M k.p (.ins a.e (rL c' k.wy ad md))) A {V with calls:=V.calls.set i c'}/\qX A M A (pQ M k.p (.ins a.e (rL c' k.wy ad md))):=by
 have kp:sH k.p M (pQ M k.p (.ins a.e (rL c' k.wy ad md))):=.put;obtain⟨_,_,h1,h2,_⟩:=h.cs i k c e1 e2;refine⟨⟨kp _ _ (dW (h.oW.2 k (qR e1))) h.at_,kp.lst (qd h.ca h1) h.ca,kp.lst (qd h.le h1) h.le,kp.dk (Dy h.nx h1) h.nx,kp.lst (qd h.on h1) h.on,kp.lst (qd h.lo h1) h.lo,by rw[h.len,io],λj k' d f1 f2=>?_,h.nl,h.np,xD h.fo⟩,.keep (A.mS.2.2.2.2.2.1 k (qR e1)) kp⟩;rcases FN f2 with⟨rfl,rfl,_⟩|⟨hj,f2⟩
 .rw[e1]at f1;cases f1;exact⟨ad,md,pZ,by rw[ew];exact kp.lst (qd h2 h1) h2,kp.lst (qd la h1) la,kp.lst (qd lm h1) lm,na,nm⟩
 .exact(h.cs j k' d f1 f2).oj kp h1 λz=>hj (ML h.oW.1 f1 e1 z)
def pS.oN(h:pS a M A V){i:Nat}{k:sf}{c:pL}{ws:QQQ}(e1:A.cs[i]?=ga k)(e2:V.calls[i]?=ga c):
  pS a (pQ M k.wy (.lst (ws.map D.str))) A {V with calls:=V.calls.set i {c with way:=ws}}/\qX A M A (pQ M k.wy (.lst (ws.map D.str))):=by
 have kp:sH k.wy M (pQ M k.wy (.lst (ws.map D.str))):=.put;obtain⟨ad,md,h1,h2,h3,h4,h5,h6⟩:=h.cs i k c e1 e2;obtain⟨n1,n2,n3,n4,n5,n6,nw⟩:=h.ne;obtain⟨w1,w2,w3,w4⟩:=nw k (qR e1);have kL:=h.o9.2.2.2.1 k (qR e1);refine⟨⟨kp _ _ (dW (qd h2 h.at_)) h.at_,kp.lst (dW w1) h.ca,kp.lst (dW w2) h.le,kp.dk (vC h.nx h2) h.nx,kp.lst (dW w3) h.on,kp.lst (dW w4) h.lo,by rw[h.len,io],λj k' d f1 f2=>?_,h.nl,h.np,xD h.fo⟩,.keep (A.mS.2.2.2.2.2.2 k (qR e1)) kp⟩;rcases FN f2 with⟨rfl,rfl,_⟩|⟨hj,f2⟩
 .rw[e1]at f1;cases f1;exact⟨ad,md,kp _ _ (dW (qd h2 h1)) h1,pU,kp.lst (λz=>h5 (z ▸ kL)) h3,kp.lst (λz=>h6 (z ▸ kL)) h4,h5,h6⟩
 .exact(h.cs j k' d f1 f2).nW kp h2 kL λz=>hj (ML h.nw f1 e1 z)
noncomputable def tq.add(A:tq)(k:sf):tq:={A with cs:=A.cs++[k]}
def AD(A:tq)(k:sf):(A.add k).lists=A.lists++[k.wy]:=by unfold tq.add tq.lists;rw[dF];rfl
def pS.oK(h:pS a M A V):(∀x∈A.lists,∃ds,oP M x=ga ds)/\∀x∈A.foot,∃c,M x=ga c:=by
 have hc:∀k∈A.cs,(∃ds,oP M k.wy=ga ds)/\∃c,M k.p=ga c:=λk hk=>by
  obtain⟨i,hi,e⟩:=gP hk;have e1:A.cs[i]?=ga k:=by rw[cV hi,e]
  have ZH:i<V.calls.length:=by rw[<-h.len];exact hi
  have e2:V.calls[i]?=ga V.calls[i]:=cV ZH;obtain⟨ad,md,h1,h2,_⟩:=h.cs i k _ e1 e2;exact⟨⟨_,h2⟩,_,h1⟩
 have hl:∀x∈A.lists,∃ds,oP M x=ga ds:=λx hx=>by
  unfold tq.lists at hx;simp only[dg,dE]at hx;rcases hx with rfl|rfl|rfl|rfl|⟨k,hk,rfl⟩
  .exact⟨_,h.ca⟩
  .exact⟨_,h.le⟩
  .exact⟨_,h.on⟩
  .exact⟨_,h.lo⟩
  .exact(hc k hk).1
 refine⟨hl,λx hx=>?_⟩;unfold tq.foot at hx;simp only[dg,dG,dE]at hx;rcases hx with rfl|rfl|hx|⟨k,hk,rfl⟩
 .exact⟨_,h.at_⟩
 .exact⟨_,yM h.nx⟩
 .obtain⟨ds,e⟩:=hl x hx;exact⟨_,qg e⟩
 .exact(hc k hk).2
def pS.oh(h:pS a M A V){x:Uf}(hx:M x=Fa):x∉A.lists:=λz=>by obtain⟨ds,e⟩:=h.oK.1 x z;have:=qg e;rw[hx]at this;cases this
def pS.nj(h:pS a M A V){x:Uf}(hx:M x=Fa):x∉A.lists++V.fo:=λz=>by
 rcases dG.mp z with z|z
 .exact h.oh hx z
 .obtain⟨c,e⟩:=h.fo x z;rw[hx]at e;cases e
def pS.nU(h:pS a M A V){x:Uf}(hx:M x=Fa):x∉A.foot:=λz=>by obtain⟨ds,e⟩:=h.oK.2 x z;rw[hx]at e;cases e
def pS.ow(h:pS a M A V)(s:qN M M1){p wy ad md:Uf}{c:pL}(hp:M p=Fa)(hw:M wy=Fa)(ha:M ad=Fa)(hm:M md=Fa)(h1:M1 p=ga (.ins a.e (rL c wy ad md)))(h2:oP M1 wy=ga (c.way.map D.str))(h3:oP M1 ad=ga (c.at_.map D.str))(h4:oP M1 md=ga (c.ms.map D.str))(n1:ad≠wy)(n2:md≠wy):
  pS a (pQ M1 A.ca (.lst ((A.cs.map λk=>D.ref k.p)++[.ref p]))) (A.add ⟨p,wy⟩) {V with calls:=V.calls++[c]}/\qX A M (A.add ⟨p,wy⟩) (pQ M1 A.ca (.lst ((A.cs.map λk=>D.ref k.p)++[.ref p]))):=by
 have h':=h.sub s;have kp:sH A.ca M1 (pQ M1 A.ca (.lst ((A.cs.map λk=>D.ref k.p)++[.ref p]))):=.put;obtain⟨m1,m2,m3,m4,m5,m6,nw⟩:=h.ne;have wL:wy∉A.lists:=h.oh hw;have cL:=h.o9.1;have nl':∀x,x∉A.lists++V.fo->x≠wy->x∉(A.add ⟨p,wy⟩).lists++V.fo:=λx h1 h2=>by
  rw[AD,dG,dG,cZ]
  rintro ((z|z)|z)
  .exact h1 (eC _ z)
  .exact h2 z
  .exact h1 (dO _ z)
 have Zk:∀x c,M x=ga c->x≠wy:=λx c e z=>by rw[z,hw]at e;cases e
 refine⟨⟨kp _ _ (dW (qd h'.ca h'.at_)) h'.at_,?_,kp.lst (dW m1) h'.le,kp.dk (vC h'.nx h'.ca) h'.nx,kp.lst (dW m2) h'.on,kp.lst (dW m3) h'.lo,?_,λi k d e1 e2=>?_,?_,?_,xD h'.fo⟩,λx d n e=>kp x d (λz=>n (z ▸ A.mS.2.2.1)) (s x d e),λx hx=>?_,λi k e=>by show(A.cs++[(⟨p,wy⟩:sf)])[i]?=ga k;rw[eZ (cX.mp e).1];exact e,λx d e=>BW (s x d e)⟩
 .show oP _ A.ca=ga ((A.cs++[(⟨p,wy⟩:sf)]).map λk=>D.ref k.p);rw[dF];exact pU
 .show(A.cs++[(⟨p,wy⟩:sf)]).length=(V.calls++[c]).length;rw[cW,cW,h.len];rfl
 .have e1:(A.cs++[(⟨p,wy⟩:sf)])[i]?=ga k:=e1;have e2:(V.calls++[c])[i]?=ga d:=e2;by_cases hi:i<A.cs.length
  .rw[eZ hi]at e1;rw[eZ (by rw[<-h.len];exact hi)]at e2;obtain⟨ad',md',g1,g2,g3,g4,g5,g6⟩:=(h.cs i k d e1 e2);refine⟨ad',md',kp _ _ (λz=>by have:=s _ _ g1;rw[z,qg h'.ca]at this;cases this) (s _ _ g1),kp.lst (nw k (qR e1)).1 (s.lst g2),kp.lst (λz=>g5 (z ▸ cL)) (s.lst g3),kp.lst (λz=>g6 (z ▸ cL)) (s.lst g4),nl' _ g5 (Zk _ _ (qg g3)),nl' _ g6 (Zk _ _ (qg g4))⟩
  .have hi':i=A.cs.length:=by have:=(cX.mp e1).1;rw[cW,dD]at this;lia
   subst hi';rw[eX (dq _)]at e1;rw[h.len,eX (dq _)]at e2;simp only[ie,iI,js]at e1 e2;subst e1 e2;have q1:p≠A.ca:=λz=>by rw[z,qg h'.ca]at h1;cases h1
   have q2:wy≠A.ca:=λz=>wL (z ▸ h.oq.1);exact⟨ad,md,kp p _ q1 h1,kp.lst (a:=wy) q2 h2,kp.lst (λz=>h.nj ha (z ▸ cL)) h3,kp.lst (λz=>h.nj hm (z ▸ cL)) h4,nl' _ (h.nj ha) n1,nl' _ (h.nj hm) n2⟩
 .rw[AD];refine gq.mpr ⟨h.nl,dR.mpr ⟨dQ,eJ⟩,λx hx y hy=>?_⟩;rw[cZ]at hy;subst hy;exact λz=>wL (z ▸ hx)
 .show(A.b::(A.cs++[(⟨p,wy⟩:sf)]).map (·.p)).Nodup;rw[dF,<-List.cons_append];refine gq.mpr ⟨h.np,dR.mpr ⟨dQ,eJ⟩,λx hx y hy=>?_⟩;rw[dY,iU,cZ]at hy;subst hy;refine λz=>h.nU hp (z ▸ ?_);rcases dg.mp hx with y|y
  .rw[y];exact A.mS.1
  .obtain⟨k,hk,rfl⟩:=dE.mp y;exact A.mS.2.2.2.2.2.1 k hk
 .unfold tq.foot at hx;rw[AD]at hx;have hx:x∈A.b::A.nx::(A.lists++[wy]++(A.cs++[(⟨p,wy⟩:sf)]).map (·.p)):=hx;simp only[dg,dG,dF,dY,iU,dQ,fP]at hx;unfold tq.foot;simp only[dg,dG];rcases hx with z|z|(z|z)|(z|z)
  .exact .inl (.inl z)
  .exact .inl (.inr (.inl z))
  .exact .inl (.inr (.inr (.inl z)))
  .exact .inr (by rw[z];exact hw)
  .exact .inl (.inr (.inr (.inr z)))
  .exact .inr (by rw[z];exact hp)
def pS.oU{V:qu}{p:Uf}{es:List sX}(h:pS a M A V)(hp:M p=Fa):
  pS a (pQ (pQ M p (.lst (es.map sX.d))) A.b (.ins a.c (uz (.ref V.p) V.h V.t A.ca p A.nx A.on A.lo))) {A with le:=p} {V with mW:=es}/\qX A M {A with le:=p} (pQ (pQ M p (.lst (es.map sX.d))) A.b (.ins a.c (uz (.ref V.p) V.h V.t A.ca p A.nx A.on A.lo))):=by
 obtain⟨M1,e0,t,lp⟩:=tL (ds:=es.map sX.d) hp;rw[<-e0];have h1:=h.sub t;have np:p∉A.lists:=h.oh hp;have nf:p∉A.foot:=h.nU hp;have Zk:∀x c,M x=ga c->x≠p:=λx c e z=>by rw[z,hp]at e;cases e
 have kp:sH A.b M1 (pQ M1 A.b (.ins a.c (uz (.ref V.p) V.h V.t A.ca p A.nx A.on A.lo))):=.put;have sub:∀x,x∉A.lists++V.fo->x≠p->x∉({A with le:=p}:tq).lists++V.fo:=λx h1 h2 z=>by
  rcases dG.mp z with z|z
  rotate_left
  .exact h1 (dO _ z)
  have h1:x∉A.lists:=λy=>h1 (eC _ y);unfold tq.lists at h1 z;simp only[dg,ib]at h1 z;rcases z with z|z|z|z|z
  .exact h1.1 z
  .exact h2 z
  .exact h1.2.2.1 z
  .exact h1.2.2.2.1 z
  .exact h1.2.2.2.2 z
 refine⟨⟨pZ,kp.lst (qd h1.ca h1.at_) h1.ca,kp.lst (qd lp h1.at_) lp,kp.dk (Dy h1.nx h1.at_) h1.nx,kp.lst (qd h1.on h1.at_) h1.on,kp.lst (qd h1.lo h1.at_) h1.lo,h.len,λi k c e1 e2=>?_,?_,h.np,xD h1.fo⟩,λx c n e=>kp x c (λz=>n (z ▸ A.mS.1)) (t x c e),λx hx=>?_,λi k e=>e,λx d e=>BW (t x d e)⟩
 .obtain⟨ad,md,g1,g2,g3,g4,g5,g6⟩:=(h.cs i k c e1 e2);obtain⟨ad',md',f1,f2,f3,f4,f5⟩:=((h.cs i k c e1 e2).sub t).oj kp h1.at_ (h.oW.2 k (qR e1));have q1:=kp _ _ (λz=>h.oW.2 k (qR e1) z) (t _ _ g1);exact⟨ad,md,q1,f2,kp.lst (qd (t.lst g3) h1.at_) (t.lst g3),kp.lst (qd (t.lst g4) h1.at_) (t.lst g4),sub _ g5 (Zk _ _ (qg g3)),sub _ g6 (Zk _ _ (qg g4))⟩
 .have n:=h.nl;unfold tq.lists at n np ⊢;simp only[dg,ib]at np;simp only[dR,dg,ib]at n ⊢;exact⟨⟨λz=>np.1 z.symm,n.1.2⟩,⟨np.2.2.1,np.2.2.2.1,np.2.2.2.2⟩,n.2.2⟩
 .by_cases z:x=p
  .exact .inr (z ▸ hp)
  .refine .inl ?_;unfold tq.foot tq.lists at hx ⊢;simp only[dg,dG]at hx ⊢;rcases hx with y|y|(y|y|y|y|y)|y
   .exact .inl y
   .exact .inr (.inl y)
   .exact .inr (.inr (.inl (.inl y)))
   .exact absurd y z
   .exact .inr (.inr (.inl (.inr (.inr (.inl y)))))
   .exact .inr (.inr (.inl (.inr (.inr (.inr (.inl y))))))
   .exact .inr (.inr (.inl (.inr (.inr (.inr (.inr y))))))
   .exact .inr (.inr (.inr y))
def pS.frame{V:qu}(h:pS a M A V)(st:qX A1 M A2 M')(h1:∀x∈A1.foot,x∉A.foot)(h2:∀x∈A1.foot,x∈V.fo\/M x=Fa):pS a M' A V:=by
 have hf:∀x∈A.foot,∀c,M x=ga c->M' x=ga c:=λx hx c e=>st.1 x c (λz=>h1 x z hx) e;have hl:∀{x:Uf} {ds:T0 D},x∈A.foot->oP M x=ga ds->oP M' x=ga ds:=λhx e=>sj (hf _ hx _ (qg e));have ho:∀{x:Uf} {ds:T0 D},x∉A.lists++V.fo->oP M x=ga ds->oP M' x=ga ds:=λ{x ds} hx e=>sj (st.1 x _ (λz=>(h2 x z).elim (λy=>hx (dO _ y)) λy=>by rw[qg e]at y;cases y) (qg e));obtain⟨f1,f2,f3,f4,f5,f6,f7⟩:=A.mS;exact⟨hf _ f1 _ h.at_,hl f3 h.ca,hl f4 h.le,CY (hf _ f2 _ (yM h.nx)),hl (A.nN h.oq.2.2.2.2) h.on,hl f5 h.lo,h.len,λi k c e1 e2=>by
  obtain⟨ad,md,g1,g2,g3,g4,g5,g6⟩:=h.cs i k c e1 e2;exact⟨ad,md,hf _ (f6 k (qR e1)) _ g1,hl (f7 k (qR e1)) g2,ho g5 g3,ho g6 g4,g5,g6⟩,h.nl,h.np,λx hx=>(h.fo x hx).elim λc e=>st.2.2.2 x c e⟩
def yX(x:D)(l:T0 D):xn (x::l) 0=ga x:=by
 unfold xn;have:HV (x::l).length 0=ga 0:=by unfold HV;rw[d4];simp
 rw[this];rfl
def yA(f:pL->Str->Bool)(a:Ad):rH:=λds M Q=>BO λL k c x=>ds=[.ref k.p,.str x]/\sC a M L k c/\Q (.bl (f c x)) M
abbrev IC:=yA pL.hasB
abbrev zS:=yA pL.mU
abbrev Fj:=yA pL.m9
abbrev zK:=yA pL.mT
abbrev wu:=yA pL.mO
abbrev Fh:=yA pL.mV
abbrev xR:=yA pL.nz
noncomputable def QW(x:Str):D->Bool
 | .str y=>!(y==x)
 | _=>pc
def Av(a:Ad):rH:=λds M Q=>JT λL k c x y r=>ds=[.ref k.p,.str x]/\sC a M L k c/\c.ms.length<=100/\s8 c.ms x=y::r/\Q (.str y) M
def Dd(ss:QQQ)(x:Str):[]++(List.filter (QW x) (ss.map D.str)).map id=(s8 ss x).map D.str:=by rw[d9,jh,gk];rfl
def Eo{k:Uf}{ks:QQQ}{c:Str}{K:DK}(hk:oP M k=ga (ks.map D.str))(h:K (.bl (hasS ks c)) M):TC pc (.str c) (.ref k) M K:=by refine pF hk ⟨Z',qH ks,?_⟩;show K (.bl (inD (.str c) (ks.map D.str))) M;rw[tD];exact h
def Xq(w x y:Str):inD (.str w) [.str x,.str y]=(w==x||w==y):=by rw[show[D.str x,D.str y]=[x,y].map D.str from rfl,tD,fM];simp only[gf,List.any_nil,kD,gj,eP];exact⟨λh=>h.imp mj mj,λh=>h.imp mj mj⟩
def S':Fq P w K mg base 1 a.bM (IC a):=by
 refine fq G.bM.toDG GT (λr u=>⟨_,(pG (qa (pR u (pN v0) pK)
 (pH (pO (Ki (qy u Y1 (pN v0)) (tM (qy u Y1 (pN v0))))))
 pV)
 (pG (qa (pR u (pN v0) pK)
 (pH (pO (qy u Y1 (pN v0))))
 pV)
 (pH (pO (ue (qy u (pN v0) (pY (so pK pK))) (tM (qy u Y1 (pN v0)))))))),?_⟩)
 rintro ds M Q ⟨L,k,c,x,rfl,⟨ad,md,h1,h2,h3,h4,_⟩,q⟩
 unfold pL.hasB at q;refine pI h1 (pF Z' ?_);refine qT (c:=c.st=="rings") (λg=>?_) (λg=>?_)
 .rw[de g]at q;refine pI h1 (pF Z' (qT (c:=x==c.cr) (λg2=>?_) (λg2=>?_)))
  .rw[g2]at q;exact⟨M,.refl,q⟩
  .rw[show(x==c.cr)=pc from dI.mpr g2,fQ]at q;exact pI h1 (pF Z' (Eo h3 ⟨M,.refl,q⟩))
 .rw[cY g]at q;refine pI h1 (pF Z' ?_);refine qT (c:=c.st=="waits") (λg2=>?_) (λg2=>?_)
  .rw[de g2]at q;exact pI h1 (pF Z' ⟨M,.refl,q⟩)
  .rw[cY g2]at q;refine pI h1 (pF Z' ⟨pD Z',Z',Z',?_⟩);show if inD (.str c.st) [.str "talks",.str "held"]=Db then _ else _
   rw[Xq];refine qT (λg3=>?_) (λg3=>?_)
   .rw[g3,eL]at q;exact pI h1 (pF Z' (Eo h4 ⟨M,.refl,q⟩))
   .rw[show(c.st=="talks"||c.st=="held")=pc from dI.mpr g3,eU]at q;exact⟨M,.refl,q⟩
def w9:Fq P w K mg base 1 a.Z (zS a):=by
 refine fq G.Z.toDG ze (λr u=>⟨_,(pH (pO (ue (qy u (pN v0) pK) (tM (qy u Y1 (pN v0)))))),?_⟩)
 rintro ds M Q ⟨L,k,c,x,rfl,⟨ad,md,h1,h2,h3,h4,_⟩,q⟩
 unfold pL.mU at q;refine pI h1 (pF Z' (qT (c:=c.st=="talks") (λg=>?_) (λg=>?_)))
 .rw[g,eL]at q;exact pI h1 (pF Z' (Eo h4 ⟨M,.refl,q⟩))
 .rw[show(c.st=="talks")=pc from dI.mpr g,eU]at q;exact⟨M,.refl,q⟩
def Oy:Fq P w K mg base 2 a.bL (Fj a):=by
 refine fq G.bL.toDG DN (λr u=>⟨_,(pG (qa (pR u (pN v0) pK)
 (pH (pO (ue (qy u Y1 (pN v0)) (tM (qy u Y1 (pN v0))))))
 pV)
 (pH (pO (qm v0 G.e.toCls G.Z (w9 G) r (qv Y1))))),?_⟩)
 rintro ds M Q ⟨L,k,c,x,rfl,hc,q⟩
 obtain⟨ad,md,h1,h2,h3,h4,_⟩:=id hc;unfold pL.m9 at q;refine pI h1 (pF Z' ?_);refine qT (c:=c.st=="held") (λg=>?_) (λg=>?_)
 .rw[de g]at q;refine pI h1 (pF Z' (pF h4 ⟨Z',qH c.ms,?_⟩));show if inD (.str x) (c.ms.map D.str)=Db then _ else _
  rw[tD];refine qT (c:=hasS c.ms x) (λg2=>?_) (λg2=>?_)
  .rw[g2,eL]at q;refine pI h1 (pF Z' ?_);cases e:c.hd with
   | none=>rw[e]at q;exact⟨M,.refl,q⟩
   | some y=>
    rw[e]at q;refine⟨M,.refl,?_⟩;rw[show(!(ga y==ga x))=!(x==y)from by
     show(!(y==x))=_;rw[jp]]at q
    exact q
  .rw[show hasS c.ms x=pc from dI.mpr g2,eU]at q;exact⟨M,.refl,q⟩
 .rw[cY g]at q;exact pI h1 ⟨Z',_,⟨Z',Z'⟩,L,k,c,x,Z',hc,M,.refl,q⟩
def C8:Fq P w K mg base 1 a.aa (zK a):=by
 refine fq G.aa.toDG yS (λr u=>⟨_,(pH (pO (ue (qy u (pN v0) (pY (so pK pK))) (tM (qy u Y1 (pN v0)))))),?_⟩)
 rintro ds M Q ⟨L,k,c,x,rfl,⟨ad,md,h1,h2,h3,h4,_⟩,q⟩
 unfold pL.mT at q;refine pI h1 (pF Z' ⟨pD Z',Z',Z',?_⟩);show if inD (.str c.st) [.str "rings",.str "waits"]=Db then _ else _
 rw[Xq];refine qT (λg3=>?_) (λg3=>?_)
 .rw[g3,eL]at q;exact pI h1 (pF Z' ⟨M,.refl,q⟩)
 .rw[show(c.st=="rings"||c.st=="waits")=pc from dI.mpr g3,eU]at q;exact⟨M,.refl,q⟩
def GJ:Fq P w K mg base 1 a.az (wu a):=by
 refine fq G.az.toDG zu (λr u=>⟨_,(pH (pO (ue (qy u (pN v0) pK) (tM (qy u Y1 (pN v0)))))),?_⟩)
 rintro ds M Q ⟨L,k,c,x,rfl,⟨ad,md,h1,h2,h3,h4,_⟩,q⟩
 unfold pL.mO at q;refine pI h1 (pF Z' (qT (c:=c.st=="waits") (λg=>?_) (λg=>?_)))
 .rw[g,eL]at q;exact pI h1 (pF Z' (Eo h3 ⟨M,.refl,q⟩))
 .rw[show(c.st=="waits")=pc from dI.mpr g,eU]at q;exact⟨M,.refl,q⟩
def NM:Fq P w K mg base 2 a.bK (xR a):=by
 refine fq G.bK.toDG xC (λr u=>⟨_,(pH (pO (Ki (qm v0 G.e.toCls G.aa (C8 G) r (qv Y1)) (Ki (qy u Y1 (pN v0)) (tM (qy u Y1 (pN v0))))))),?_⟩)
 rintro ds M Q ⟨L,k,c,x,rfl,hc,q⟩
 obtain⟨ad,md,h1,h2,h3,h4,_⟩:=id hc;unfold pL.nz at q;refine pI h1 ⟨Z',_,⟨Z',Z'⟩,L,k,c,x,Z',hc,qT (c:=c.mT x) (λg=>?_) (λg=>?_)⟩
 .rw[g]at q;exact⟨M,.refl,q⟩
 .rw[show c.mT x=pc from dI.mpr g,fQ]at q;refine pI h1 (pF Z' (pF h3 ⟨Z',qH c.at_,?_⟩));show if inD (.str x) (c.at_.map D.str)=Db then _ else _
  rw[tD];refine qT (c:=hasS c.at_ x) (λg2=>?_) (λg2=>?_)
  .rw[g2]at q;exact⟨M,.refl,q⟩
  .rw[show hasS c.at_ x=pc from dI.mpr g2,fQ]at q;exact pI h1 (pF Z' (Eo h4 ⟨M,.refl,q⟩))
def GW:Fq P w K mg base 2 a.aB (Fh a):=by
 refine fq G.aB.toDG DV (λr u=>⟨_,(pH (pO (ue (qm v0 G.e.toCls G.Z (w9 G) r (qv Y1)) (tM (qy u (qc qJ Z' G.g qG (qv (pN v0))) pJ))))),?_⟩)
 rintro ds M Q ⟨L,k,c,x,rfl,hc,q⟩
 obtain⟨ad,md,h1,h2,h3,h4,_⟩:=id hc;unfold pL.mV at q;refine pI h1 ⟨Z',_,⟨Z',Z'⟩,L,k,c,x,Z',hc,qT (c:=c.mU x) (λg=>?_) (λg=>?_)⟩
 .rw[g,eL]at q;refine pI h1 (pF Z' (pF h4 ⟨M,.refl,?_⟩));rw[cT];have:(((c.ms.length:Nat):Int)==2)=(c.ms.length==2):=by rw[fM,eP,eP];lia
  show Q (.bl (((c.ms.length:Nat):Int)==2)) M;rw[this];exact q
 .rw[show c.mU x=pc from dI.mpr g,eU]at q;exact⟨M,.refl,q⟩
def Hf:Fq P w K mg base 1 a.aA (Av a):=by
 refine fq G.aA.toDG zx (λr u=>⟨_,(pH (pO (pT (qP Z' (xN (ix:=[Fa,ga 1]) (N':=["member","phone"])) (qV (pN v0)) (qD 0) (vE (pR u v0 Y1)) v0) pJ))),?_⟩)
 rintro ds M Q ⟨L,k,c,x,y,r,rfl,hc,hl,e,q⟩
 have hz:=dM;obtain⟨ad,md,h1,h2,h3,h4,_⟩:=id hc;refine pI h1 (pF Z' (pF h4 (uj (f:=id) (t:=QW x) h4 _ [] _ (by rw[cT];simp only[dH];lia) (λd hd k0 hk=>?_) (λd hd _ k0 hk=>?_) λp hp=>?_)))
 .obtain⟨y,hy,rfl⟩:=dE.mp hd;exact hk
 .obtain⟨y,hy,rfl⟩:=dE.mp hd;exact hk
 rw[Dd,e];exact pF pU (pF (yX _ _) ⟨M,.new hp,q⟩)
theorem C0:∀bs:T0 Bool,yO (.bl Db) (bs.map D.bl)=bs.findIdx? id
 | []=>rfl
 | b::r=>by rw[dY,List.findIdx?_cons];unfold yO;rw[C0 r];cases b<;>rfl
theorem MB(x:D):∀ds:T0 D,(yO x ds).isSome=ds.any λd=>Qb d x
 | []=>rfl
 | d::r=>by
  unfold yO;rw[gf];by_cases h:Qb d x=Db
  .rw[de h,h];rfl
  .rw[cY h,iK,MB x r,show Qb d x=pc from dI.mpr h,fQ]
theorem CK:∀bs:T0 Bool,(bs.map D.bl).all vw=Db
 | []=>rfl
 | _::r=>by rw[dY,fG,CK r];rfl
structure Rd(a:Ad)(M:Mp)(A:tq)(V:qu)(l:pM):Prop where
 bd:pS a M A V
 k:V.calls.length<=1000000
 pl:rM a M V.p l
 ok:rb l
 on:V.on.length=l.mG.length
 ms:∀c∈V.calls,(∀x∈c.ms,x∈l.pn)/\c.ms.length<=100
def Rd.sub{V:qu}(h:Rd a M A V l)(s:qN M M'):Rd a M' A V l:=⟨h.bd.sub s,h.k,h.pl.sub s,h.ok,h.on,h.ms⟩
def Nx:rH:=λds M Q=>Dn λr bs=>ds=[.ref r]/\oP M r=ga (List.map D.bl bs)/\Q (PM (bs.findIdx? id)) M
def LO(f:qu->Str->D)(a:Ad):rH:=λds M Q=>Ed λA V x=>ds=[.ref A.b,.str x]/\pS a M A V/\V.calls.length<=1000000/\Q (f V x) M
def VQ(V:qu)(x:Str):D:=.int (vH V x:Nat)
def O8(V:qu)(x:Str):D:=PM (Fg V x)
def Bp(V:qu)(x:Str):D:=PM (wJ V x)
def Wt(V:qu)(x:Str):D:=PM (JX V x)
def VC(V:qu)(x:Str):D:=.bl (Bm V x)
abbrev Fo:=LO VQ
abbrev DU:=LO O8
abbrev BG:=LO Bp
abbrev BN:=LO Wt
abbrev AU:=LO VC
def xQ(a:Ad):rH:=λds M Q=>BO λA V l x=>ds=[.ref A.b,.str x]/\Rd a M A V l/\x∈l.pn/\Q (.bl (uF l V x)) M
def Bd(a:Ad):rH:=λds M Q=>HX λA V l c z=>ds=[.ref A.b,.str c,.str z]/\Rd a M A V l/\z∈l.nm/\∀q M',qN M M'->M q=Fa->oP M' q=ga ((uV l V c z).map D.str)->Q (.ref q) M'
def AM(a:Ad):rH:=λds M Q=>Dn λA V=>ds=[.ref A.b]/\pS a M A V/\Q (.int ((V.h+V.t) % 24)) M
def RK(a:Ad):rH:=λds M Q=>HX λA V l c z=>ds=[.ref A.b,.str c,.str z]/\Rd a M A V l/\z∈l.nm/\Q (.bl (yf l V c z)) M
def E8{V:qu}(h:pS a M A V){pre post:T0 D}{d:D}(e:pre++d::post=A.cs.map λk=>D.ref k.p):∃k c,A.cs[pre.length]?=ga k/\V.calls[pre.length]?=ga c/\d=.ref k.p/\sC a M (A.lists++V.fo) k c/\V.calls.take (pre.length+1)=V.calls.take pre.length++[c]:=by
 have h1:(A.cs.map λk=>D.ref k.p)[pre.length]?=ga d:=by rw[<-e];simp
 rw[dv]at h1;cases z:A.cs[pre.length]? with
 | none=>rw[z]at h1;cases h1
 | some k=>
  rw[z]at h1;have hi:pre.length<V.calls.length:=by rw[<-h.len];exact(cX.mp z).1
  have e2:V.calls[pre.length]?=ga V.calls[pre.length]:=cV hi;refine⟨k,_,Z',e2,(df h1).symm,h.cs _ _ _ z e2,?_⟩;rw[fX,e2];rfl
def za{l:pM}{x:Str}(h:x∈l.pn):∃v,l.m7 x=ga v:=by
 obtain⟨p,hp,rfl⟩:=dE.mp h;unfold pM.m7;cases e:l.mJ.find? λq=>decide (q.1=p.1)with
 | some v=>exact⟨v,Z'⟩
 | none=>exact absurd (gU.mp e p hp) (by simp)
def rn:hasS ss x=Db↔x∈ss:=by unfold hasS;rw[fF];exact⟨λ⟨y,hy,e⟩=>xz e ▸ hy,λh=>⟨x,h,eN _⟩⟩
def LD(h:xu ss=Db):ss.Nodup:=by
 have h:(uk ss).length=ss.length:=by unfold xu at h;have:=eP.mp h;lia
 suffices key:∀r:QQQ,(uk r.reverse).length=r.reverse.length->r.reverse.Nodup by have:=key ss.reverse;rw[iY]at this;exact this h
 intro r;induction r with
 | nil=>intro _;exact eJ
 | cons k r ih=>
  intro h;rw[jt]at h ⊢;generalize r.reverse=l at ih h ⊢;rw[yL]at h;split at h
  .have:=KB l;rw[cW,dD]at h;lia
  .rename_i hk;rw[cW,cW,dD]at h;have h1:=ih (by lia);rw[OR]at hk;refine gq.mpr ⟨h1,by simp,λx hx y hy=>?_⟩;rw[cZ.mp hy];exact λz=>hk (z ▸ hx)
def I0{m:Int}(h:tw cs ks m=Db):cs≠[]/\(cs.length:Int)<=m/\cs.Nodup/\∀x∈cs,x∈ks:=by unfold tw at h;simp only[dU,eA,eD]at h;obtain⟨h1,h2,h3,h4⟩:=h;refine⟨λz=>by rw[z]at h1;exact absurd h1 (by decide),h2,LD h3,λx hx=>rn.mp (h4 x hx)⟩
def rb.of(ok:rb l){z:Str}(hz:z∈l.nm):(l.mH z≠[]/\(l.mH z).length<=4/\(l.mH z).Nodup/\∀x∈l.mH z,x∈l.pn)/\(z∈l.pn->l.mH z=[z]/\l.mP z="one"):=by
 have hd:=gq.mp ok.nd;have h1:z∈l.pn->l.group z=Fa:=λh=>gU.mpr λg hg e=>hd.2.2 z h g.1 (dE.mpr ⟨g,hg,Z'⟩) (by simpa using e:g.1=z).symm;refine⟨?_,λh=>by unfold pM.mH pM.mP;rw[h1 h];exact⟨Z',Z'⟩⟩;unfold pM.mH;cases e:l.group z with
 | none=>
  have hp:z∈l.pn:=by
   rcases dG.mp hz with h|h
   .exact h
   .obtain⟨g,hg,rfl⟩:=dE.mp h;exact absurd (gU.mp e g hg) (by simp)
  exact⟨fu _ _,by show 1<=4;decide,dR.mpr ⟨dQ,eJ⟩,λx hx=>by rw[cZ.mp hx];exact hp⟩
 | some g=>obtain⟨c1,c2,c3,c4⟩:=I0 (ok.go g (gi e)).mem;exact⟨c1,by show g.2.2.length<=4;lia,c3,c4⟩
def yF{V:qu}{f:pL->Str->Bool}{m x:Str}{Q:DK}{ok:Mp->Prop}(bd:pS a M A V)(hk:V.calls.length<=1000000)(mR:ok M)(hm:∀c wy ad md,(rL c wy ad md).lookup m=Fa)(q:∀p,M p=Fa->Q (.ref p) (pQ M p (.lst ((V.calls.map λc=>f c x).map D.bl)))):
  ve (rh 0) CA (Bk m (λC s=>C=a.e/\s=yA f a) (v3 0) (vT (v3 1) ya)) ok Q (A.cs.map λk=>D.ref k.p) [] [Fa,ga (.str x)] M:=by
 have hz:=dM;refine wx (A.cs.map λk=>D.ref k.p) (λpre acc U M'=>M=M'/\acc=((V.calls.take pre.length).map λc=>f c x).map D.bl/\∃y,U=[y,ga (.str x)]) (λ_ _ _ M' j=>by rw[<-j.1];exact mR) _ [] [] _ _ Z' ?_ ⟨Z',Z',Fa,Z'⟩ ?_ ?_
 .rw[cT,bd.len];simp only[dH];lia
 .rintro pre d post e acc U M' ⟨rfl,rfl,y,rfl⟩ k hk
  obtain⟨ka,c,e1,e2,rfl,hc,et⟩:=E8 bd e;obtain⟨_,_,g1,_⟩:=id hc;refine pI g1 ⟨hm _ _ _ _,_,⟨Z',Z'⟩,_,ka,c,x,Z',hc,hk _ _ _ ⟨Z',?_,_,Z'⟩⟩;rw[cW,dD,et,dF,dF];rfl
 .rintro acc U M' ⟨rfl,rfl,y,rfl⟩ p hp
  rw[cT,bd.len,eM];exact q p hp
def CS:Fq P w K mg base 1 a.R Nx:=by
 refine fq G.R.toDG AV (λr u=>⟨_,(pG (qa (pR u yW v0)
 (pH (pO (wG v0 (qv yW))))
 pV)
 (pH (pO sv))),?_⟩)
 rintro ds M Q ⟨r,bs,rfl,hr,q⟩
 have ei:inD (.bl Db) (bs.map D.bl)=(bs.findIdx? id).isSome:=by rw[<-C0];exact(MB _ _).symm
 refine pF hr ⟨Z',CK bs,?_⟩;show if inD (.bl Db) (bs.map D.bl)=Db then _ else _
 rw[ei];cases e:bs.findIdx? id with
 | none=>rw[e]at q;exact⟨M,.refl,q⟩
 | some j=>rw[e]at q;exact KU ⟨by show(oP M r).isSome=Db;rw[hr];rfl,pF hr ⟨Z',CK bs,pF ((C0 bs).trans e) ⟨M,.refl,q⟩⟩⟩
def Qs:Fq P w K mg base 2 a.bI (Fo a):=by
 refine fq G.bI.toDG D6 (λr u=>⟨_,(pH (pO (qc qJ Z' G.g qG (qv (qP Z' (xN (ix:=[Fa,ga 1]) (N':=["call","phone"])) (qV (pN v0)) (qD 0) (vE (wb (qm v0 G.e.toCls G.bM (S' G) r (qv Y1)))) v0))))),?_⟩)
 rintro ds M Q ⟨A,V,x,rfl,bd,Zh,q⟩
 have hz:=dM;refine pI bd.at_ (pF Z' (pF bd.ca ?_));refine vN (A.cs.map λk=>D.ref k.p) (λpre acc U M'=>M=M'/\acc.length=((V.calls.take pre.length).filter (·.hasB x)).length/\∃y,U=[y,ga (.str x)]) (λ_ _ _ M' j=>by rw[<-j.1];exact bd.ca) _ [] [] _ _ Z' ?_ ⟨Z',Z',Fa,Z'⟩ ?_ ?_
 .rw[cT,bd.len];simp only[dH];lia
 .rintro pre d post e acc U M' ⟨rfl,ha,y,rfl⟩ k k2 hk Z1
  obtain⟨ka,c,e1,e2,rfl,hc,et⟩:=E8 bd e;rw[cW,dD,et,gW]at hk Z1;obtain⟨_,_,g1,_⟩:=id hc;refine pI g1 ⟨Z',_,⟨Z',Z'⟩,_,ka,c,x,Z',hc,?_⟩;refine qT (c:=c.hasB x) (λg=>?_) (λg=>?_)
  .refine hk _ _ _ ⟨Z',?_,_,Z'⟩;rw[cW,cW,ha,gQ (by exact g)];rfl
  .refine Z1 _ _ ⟨Z',?_,_,Z'⟩;rw[cW,ha,gR (by exact g)];rfl
 .rintro acc U M' ⟨rfl,ha,y,rfl⟩ p hp
  refine pF pU ⟨M,.new hp,?_⟩;rw[cT,bd.len,eM]at ha;rw[ha];exact q
def Mm:Fq P w K mg base 3 a.bG (DU a):=by
 refine fq G.bG.toDG CZ (λr u=>⟨_,(pH (pO (pP (CS G) r G.R (qv (qP Z' (xN (ix:=[Fa,ga 1]) (N':=["call","phone"])) (qV (pN v0)) (qD 0) rX (qm v0 G.e.toCls G.bL (Oy G) r (qv Y1))))))),?_⟩)
 rintro ds M Q ⟨A,V,x,rfl,bd,Zh,q⟩
 refine pI bd.at_ (pF Z' (pF bd.ca (yF bd Zh bd.ca (λ_ _ _ _=>rfl) λp hp=>⟨p,_,Z',pU,M,.new hp,?_⟩)));rw[hU];exact q
def Jx:Fq P w K mg base 3 a.bH (BN a):=by
 refine fq G.bH.toDG Ba (λr u=>⟨_,(pH (pO (pP (CS G) r G.R (qv (qP Z' (xN (ix:=[Fa,ga 1]) (N':=["call","phone"])) (qV (pN v0)) (qD 0) rX (qm v0 G.e.toCls G.aa (C8 G) r (qv Y1))))))),?_⟩)
 rintro ds M Q ⟨A,V,x,rfl,bd,Zh,q⟩
 refine pI bd.at_ (pF Z' (pF bd.ca (yF bd Zh bd.ca (λ_ _ _ _=>rfl) λp hp=>⟨p,_,Z',pU,M,.new hp,?_⟩)));rw[hU];exact q
def zB:Fq P w K mg base 3 a.X (BG a):=by
 refine fq G.X.toDG A0 (λr u=>⟨_,(pH (pO (pP (CS G) r G.R (qv (qP Z' (xN (ix:=[Fa,ga 1]) (N':=["call","phone"])) (qV (pN v0)) (qD 0) rX (qm v0 G.e.toCls G.Z (w9 G) r (qv Y1))))))),?_⟩)
 rintro ds M Q ⟨A,V,x,rfl,bd,Zh,q⟩
 refine pI bd.at_ (pF Z' (pF bd.ca (yF bd Zh bd.ca (λ_ _ _ _=>rfl) λp hp=>⟨p,_,Z',pU,M,.new hp,?_⟩)));rw[hU];exact q
def Hr:Fq P w K mg base 3 a.bP (AU a):=by
 refine fq G.bP.toDG Af (λr u=>⟨_,(pH (pO (qc (TV Z') Z' G.cG TH (qv (qP Z' (xN (ix:=[Fa,ga 1]) (N':=["call","phone"])) (qV (pN v0)) (qD 0) rX (qm v0 G.e.toCls G.az (GJ G) r (qv Y1))))))),?_⟩)
 rintro ds M Q ⟨A,V,x,rfl,bd,Zh,q⟩
 refine pI bd.at_ (pF Z' (pF bd.ca (yF bd Zh bd.ca (λ_ _ _ _=>rfl) λp hp=>pF pU ?_)));rw[d6];refine pF (yK _ _) ⟨M,.new hp,?_⟩;rw[iX];exact q
def HG:Fq P w K mg base 1 a.bO (AM a):=by
 refine fq G.bO.toDG Ag (λr u=>⟨_,(pH (pO (qk (qk (pN v0) (pN v0)) pJ))),?_⟩)
 rintro ds M Q ⟨A,V,rfl,bd,q⟩
 exact pI bd.at_ (pF Z' (pI bd.at_ (pF Z' ⟨by decide,M,.refl,q⟩)))
def Nh{l:pM}{x:Str}{v:vk}(h:l.m7 x=ga v):xG l x=v.2.1:=by unfold xG;rw[h];rfl
def zq:Fq P w K mg base 3 a.Y (xQ a):=by
 refine fq G.Y.toDG AK (λr u=>⟨_,(pH (pO (qy u (qm v0 G.c.toCls G.bI (Qs G) r (qv Y1)) (qm (pN v0) G.h.toCls G.bJ (DX G) r (qv Y1))))),?_⟩)
 rintro ds M Q ⟨A,V,l,x,rfl,rd,hx,q⟩
 obtain⟨ph,gr,ws,pon,pr,gd,rs,i1,_⟩:=rd.pl;obtain⟨v,hv⟩:=za hx;refine pI rd.bd.at_ ⟨Z',_,⟨Z',Z'⟩,A,V,x,Z',rd.bd,rd.k,?_⟩;refine pI rd.bd.at_ (pF Z' (pI i1 ⟨Z',_,⟨Z',Z'⟩,V.p,x,v,l,Z',rd.pl,hv,?_⟩));unfold uF at q;rw[Nh hv]at q;exact⟨M,.refl,q⟩
def Bl:Fq P w K mg base 4 a.aQ (Bd a):=by
 refine fq G.aQ.toDG AA (λr u=>⟨_,(pH (pO (qP Z' (xN (ix:=[Fa,ga 1,ga 0]) (N':=["phone","caller","self"])) (qV (qm (pN v0) G.h.toCls G.ab (uS G) r (qv Y2))) (qD 0) (vE (W3.b3 (zb (pR u v0 Y1) (yG (wb (qm Y2 G.c.toCls G.Y (zq G) r (qv v0))))))) v0))),?_⟩)
 rintro ds M Q ⟨A,V,l,c,z,rfl,rd,ZS,q⟩
 obtain⟨ph,gr,ws,pon,pr,gd,rs,i1,_⟩:=rd.pl;obtain⟨⟨_,p4,_,pin⟩,_⟩:=rd.ok.of ZS;refine pI rd.bd.at_ (pF Z' (pI i1 ⟨Z',_,⟨Z',Z'⟩,V.p,z,l,Z',rd.pl,λq1 ZI=>pF pU ?_⟩));obtain⟨M1,e0,s1,c1⟩:=tL (ds:=List.map D.str (l.mH z)) ZI;rw[<-e0];have hz:=dM;have rd1:=rd.sub s1;refine uj (f:=id) (t:=λd=>match d with|.str x=>!(x==c)&&uF l V x|_=>pc) c1 _ [] _ (by rw[cT];simp only[dH];lia) (λd hd k hk=>?_) (λd hd _ k hk=>?_) λq2 hq2=>?_
 .obtain⟨x,hx,rfl⟩:=dE.mp hd;have hk:k (!(x==c)&&uF l V x) M1:=hk;cases e:x==c with
  | true=>rw[e]at hk;refine Oh (c:=!(x==c)) (by rw[e];rfl) hk
  | false=>rw[e]at hk;refine BA (c:=!(x==c)) (by rw[e];rfl) (pI rd1.bd.at_ ⟨Z',_,⟨Z',Z'⟩,A,V,l,x,Z',rd1,pin x hx,hk⟩)
 .obtain⟨x,hx,rfl⟩:=dE.mp hd;exact hk
 .have ef:[]++(List.filter (λd=>match d with|.str x=>!(x==c)&&uF l V x|_=>pc) ((l.mH z).map D.str)).map id=(uV l V c z).map D.str:=by rw[d9,jh,gk];rfl
  rw[ef];have t2:=qN.new (c:=.lst ((uV l V c z).map D.str)) hq2;exact⟨_,.refl,q q2 _ (s1.trans t2) (s1.none hq2) pU⟩
def E6:Fq P w K mg base 5 a.S (RK a):=by
 refine fq G.S.toDG Jc (λr u=>⟨_,(pH (pO (qy u (qc qJ Z' G.g qG (qv (qm v0 G.c.toCls G.aQ (Bl G) r (so Y1 Y2)))) pJ))),?_⟩)
 rintro ds M Q ⟨A,V,l,c,z,rfl,rd,tg,q⟩
 refine pI rd.bd.at_ ⟨Z',_,⟨Z',Z'⟩,A,V,l,c,z,Z',rd,tg,λq1 M1 s1 ZI e1=>pF e1 ⟨M,s1,?_⟩⟩;have e:((((uV l V c z).map D.str).length:Int)==0)=yf l V c z:=by unfold yf;rw[cT,fM,eP,List.isEmpty_iff,<-gu];lia
 show Q (.bl ((((uV l V c z).map D.str).length:Int)==0)) M;rw[e];exact q
def xB(a:Ad)(v:Wi):rH:=λds M Q=>JT λp A V l c z=>ds=[.ref p,.ref A.b,.str c,.str z]/\M p=ga (.ins (v.cls a) v.nH)/\Rd a M A V l/\z∈l.nm/\AQ l.pn l.nm v/\Q (.bl (wQ l V c z v)) M
def SL(a:Ad)(v:Wi):rH:=λds M Q=>BO λp L k c=>ds=[.ref p,.ref (sf.p k)]/\M p=ga (.ins (v.cls a) v.nH)/\sC a M L k c/\Q (.bl (FV c v)) M
def HW:rH:=λds M Q=>Dn λx y=>ds=[x,y]/\Q (.bl pc) M
def OX(a:Ad):Uf->rH->Prop:=λC sp=>∃v:Wi,C=v.cls a/\sp=xB a v
noncomputable def Pl(a:Ad):Wi->rH
 | .silent x y n=>SL a (.silent x y n)
 | _=>HW
def G'(a:Ad):Uf->rH->Prop:=λC sp=>∃v:Wi,C=v.cls a/\sp=Pl a v
def A9(a:Ad):rH:=λds M Q=>JT λp x y f l h=>ds=[.ref p,.int h]/\M p=ga (.ins a.o (Wi.night x y f l).nH)/\Q (.bl (FB f l h)) M
def Ae(a:Ad):rH:=λds M Q=>JT λp x q l r ms=>ds=[.ref p,.ref q,.ref r]/\M p=ga (.ins a.q (Wi.breaks x).nH)/\rM a M q l/\oP M r=ga (List.map D.str ms)/\ms.length<=100/\x∈l.pn/\(∀m∈ms,m∈l.pn)/\Q (.bl (Il l x ms)) M
def J7{l:pM}{x:Str}{v:vk}(h:l.m7 x=ga v):wF l x=v.2.2:=by unfold wF;rw[h];rfl
def rO{ks:List sf}{i:Nat}{k:sf}(h:ks[i]?=ga k):xn (ks.map λk=>D.ref k.p) (i:Nat)=ga (.ref k.p):=vo (by rw[dv,h];rfl)
def Of(ds:T0 D):L3.vD ds (ga (-1:Int)) Fa=ds.drop (ds.length - 1):=by
 unfold L3.vD;have e:HT.tT ds.length 0 (ga (-1:Int))=ds.length - 1:=by show(if (-1:Int)<0 then((-1:Int)+(ds.length:Int)).toNat else min (-1:Int).toNat ds.length)=ds.length - 1;rw[de (by decide)];lia
 rw[e];show(ds.drop (ds.length - 1)).take (ds.length - (ds.length - 1))=_;exact gY (by rw[gx];exact dq _)
theorem EK{α:Type}:∀w:List α,w.drop (w.length - 1)=w.getLast?.toList
 | []=>rfl
 | [_]=>rfl
 | _::z::r=>by rw[List.getLast?_cons_cons,<-EK (z::r)];rfl
def QU{p q:Uf}{w:QQQ}(h1:oP M p=ga ((w.map D.str).drop ((w.map D.str).length - 1)))(h2:oP M q=ga [D.str x]):we M 9 (.ref p) (.ref q)=ga (w.getLast?==ga x):=by
 have e:(w.map D.str).drop ((w.map D.str).length - 1)=(w.getLast?.toList).map D.str:=by rw[cT,<-kG];rw[EK]
 rw[e]at h1;show(oP M p).bind (λi=>(oP M q).bind λj=>if i.length=j.length then qQ (we M 8) i j else ga pc)=_;rw[h1,h2];cases w.getLast? with
 | none=>rfl
 | some y=>show((ga (y==x)).bind λp=>(ga Db).map λq=>p&&q)=ga (ga y==ga x);show ga ((y==x)&&Db)=_;rw[Bool.and_true];rfl
def NP(G:Gl K mg a)(x:Str)(ns:QQQ):Fq P w K mg base 6 a.aH (xB a (.bar x ns)):=by
 refine fq G.aH.toDG HB (λr u=>⟨_,(pH (pO (ue (qy u Y2 (pN v0)) (tM (qy u Y3 (pN v0)))))),?_⟩)
 rintro ds M Q ⟨p,A,V,l,c,z,rfl,hp,_,_,_,q⟩
 refine pI hp ?_;refine qT (c:=c==x) (λg=>pI hp ⟨Z',qH ns,M,.refl,?_⟩) (λg=>⟨M,.refl,?_⟩)
 .show Q (.bl (inD (.str z) (ns.map D.str))) M;rw[tD];dsimp only[wQ]at q;rw[g,eL]at q;exact q
 .dsimp only[wQ]at q;rw[show(c==x)=pc from dI.mpr g,eU]at q;exact q
def Pc(G:Gl K mg a)(x:Str)(ns:QQQ):Fq P w K mg base 6 a.aI (xB a (.shut x ns)):=by
 refine fq G.aI.toDG FJ (λr u=>⟨_,(pH (pO (ue (qy u Y3 (pN v0)) (tM (qy u Y2 (pN v0)))))),?_⟩)
 rintro ds M Q ⟨p,A,V,l,c,z,rfl,hp,_,_,_,q⟩
 refine pI hp ?_;refine qT (c:=z==x) (λg=>pI hp ⟨Z',qH ns,M,.refl,?_⟩) (λg=>⟨M,.refl,?_⟩)
 .show Q (.bl (inD (.str c) (ns.map D.str))) M;rw[tD];dsimp only[wQ]at q;rw[g,eL]at q;exact q
 .dsimp only[wQ]at q;rw[show(z==x)=pc from dI.mpr g,eU]at q;exact q
def Mg(G:Gl K mg a)(x y:Str):Fq P w K mg base 6 a.aJ (xB a (.always x y)):=by
 refine fq G.aJ.toDG CB (λr u=>⟨_,(pH (pO (qy u Y3 (pN v0)))),?_⟩)
 rintro ds M Q ⟨p,A,V,l,c,z,rfl,hp,_,_,_,q⟩
 exact pI hp ⟨M,.refl,q⟩
def GY:Fq P w K mg base 1 a.bN (A9 a):=by
 refine fq G.bN.toDG zO (λr u=>⟨_,(pG (qa (pR u (pN v0) (pN v0))
 (pH (pO (uT u (pN v0) Y1 (pN v0))))
 pV)
 (pH (pO (Ki (qy u Y1 (pN v0)) (tM (qy u Y1 (pN v0))))))),?_⟩)
 rintro ds M Q ⟨p,x,y,f,l,h,rfl,hp,q⟩
 refine pI hp (pI hp ?_);show if (decide (f<l))=Db then _ else _
 unfold FB at q;by_cases z:f<l
 .rw[de z]at q;refine BA (dX z) (pI hp ?_);refine qT (c:=decide (f<=h)) (λg=>?_) (λg=>?_)
  .rw[g,eL]at q;exact pI hp ⟨M,.refl,q⟩
  .rw[show decide (f<=h)=pc from dI.mpr g,eU]at q;exact⟨M,.refl,q⟩
 .rw[cY z]at q;refine Oh (eQ z) (pI hp ?_);refine qT (c:=decide (h>=f)) (λg=>?_) (λg=>?_)
  .rw[g,ia]at q;exact⟨M,.refl,q⟩
  .rw[show decide (h>=f)=pc from dI.mpr g,fQ]at q;exact pI hp ⟨M,.refl,q⟩
def MA(G:Gl K mg a)(x y:Str)(f m:Int):Fq P w K mg base 6 a.aK (xB a (.night x y f m)):=by
 refine fq G.aK.toDG DZ (λr u=>⟨_,(pH (pO (ue (qy u Y3 (pN v0)) (tM (qm v0 G.o.toCls G.bN (GY G) r (qv (wz Y1 G.c.toCls G.bO (HG G) r))))))),?_⟩)
 rintro ds M Q ⟨p,A,V,l,c,z,rfl,hp,rd,_,_,q⟩
 dsimp only[wQ]at q;refine pI hp ?_;refine qT (c:=z==x) (λg=>?_) (λg=>?_)
 .rw[g,eL]at q;exact pI hp ⟨Z',_,⟨Z',Z'⟩,pI rd.bd.at_ ⟨Z',_,⟨Z',Z'⟩,A,V,Z',rd.bd,p,x,y,f,m,_,Z',hp,M,.refl,q⟩⟩
 .rw[show(z==x)=pc from dI.mpr g,eU]at q;exact⟨M,.refl,q⟩
def Ms(G:Gl K mg a)(x y:Str):Fq P w K mg base 6 a.aL (xB a (.busy x y)):=by
 refine fq G.aL.toDG Fm (λr u=>⟨_,(pH (pO (ue (qy u Y3 (pN v0)) (tM (pP (E6 G) r G.S (rG Y1 Y2 Y3)))))),?_⟩)
 rintro ds M Q ⟨p,A,V,l,c,z,rfl,hp,rd,hz,_,q⟩
 dsimp only[wQ]at q;refine pI hp ?_;refine qT (c:=z==x) (λg=>?_) (λg=>?_)
 .rw[g,eL]at q;exact⟨A,V,l,c,z,Z',rd,hz,M,.refl,q⟩
 .rw[show(z==x)=pc from dI.mpr g,eU]at q;exact⟨M,.refl,q⟩
def Od(G:Gl K mg a)(x y:Str)(n:Int):Fq P w K mg base 6 a.aM (xB a (.silent x y n)):=by
 refine fq G.aM.toDG Cn (λr u=>⟨_,(pH (pO yW)),?_⟩)
 rintro ds M Q ⟨p,A,V,l,c,z,rfl,hp,rd,hz,_,q⟩
 exact⟨M,.refl,q⟩
def MC(G:Gl K mg a)(x:Str):Fq P w K mg base 6 a.aN (xB a (.wait x)):=by
 refine fq G.aN.toDG E7 (λr u=>⟨_,(pG (qa (W3.b3 (y9 (pR u Y3 (pN v0)) (yy (pR u Y2 (pN v0)))))
 (pH (pO yW))
 pV)
 (pH (pO (ue (pP (E6 G) r G.S (rG Y1 Y2 Y3)) (tM (UO (qm Y1 G.c.toCls G.bP (Hr G) r (qv Y3)))))))),?_⟩)
 rintro ds M Q ⟨p,A,V,l,c,z,rfl,hp,rd,hz,_,q⟩
 dsimp only[wQ]at q;refine pI hp ?_;refine qT (c:=!(z==x)) (λg=>?_) (λg=>?_)
 .rw[g,ia]at q;exact⟨M,.refl,q⟩
 rw[show(!(z==x))=pc from dI.mpr g,fQ]at q;refine pI hp ?_;refine qT (c:=c==x) (λg=>?_) (λg=>?_)
 .rw[g]at q;exact⟨M,.refl,q⟩
 rw[cY g]at q;refine⟨A,V,l,c,z,Z',rd,hz,?_⟩;refine qT (c:=yf l V c z) (λg=>?_) (λg=>?_)
 .rw[g,eL]at q;exact pI rd.bd.at_ ⟨Z',_,⟨Z',Z'⟩,A,V,z,Z',rd.bd,rd.k,M,.refl,q⟩
 .rw[show yf l V c z=pc from dI.mpr g,eU]at q;exact⟨M,.refl,q⟩
def G5:Fq P w K mg base 2 a.bQ (Ae a):=by
 refine fq G.bQ.toDG vW (λr u=>⟨_,(pG (pW 3 vW (qm Y1 G.h.toCls G.aR (Aj G) r (qv (pN v0))))
 (pH (pO (qc (FR Z') Z' G.bS Fs (qv (qP Z' (xN (ix:=[Fa,ga 1,ga 3]) (N':=["member","plan","rank"])) (qV Y2) (qD 0) rX (qy u (qm Y1 G.h.toCls G.aR (Aj G) r (qv v0)) Y2))))))),?_⟩)
 rintro ds M Q ⟨p,x,q,l,r,ms,rfl,hp,pl,lr,h100,hx,hm,k⟩
 have hz:=dM;obtain⟨v,hv⟩:=za hx;obtain⟨ph,gr,ws,pon,pr,gd,rs,i1,_⟩:=id pl;refine pI i1 ⟨Z',_,⟨Z',Z'⟩,pI hp (pF Z' ⟨q,x,v,l,Z',pl,hv,?_⟩)⟩;refine pF lr (rS (f:=λd=>match d with|.str m=>.bl (decide (wF l m<wF l x))|_=>.mM) lr _ [] _ (by rw[cT];show 0+ms.length<=Ch;lia) (λd hd k0 hk=>?_) λp1 Z0=>?_)
 .obtain⟨m,hmm,rfl⟩:=dE.mp hd;obtain⟨u,hu⟩:=za (hm m hmm);have hk:k0 (.bl (decide (wF l m<wF l x))) M:=hk;rw[J7 hu,J7 hv]at hk;exact pI i1 ⟨Z',_,⟨Z',Z'⟩,q,m,u,l,Z',pl,hu,hk⟩
 .have em:[]++(ms.map D.str).map (λd=>match d with|.str m=>.bl (decide (wF l m<wF l x))|_=>.mM)=ms.map λm=>D.bl (decide (wF l m<wF l x)):=by rw[d9,d6];rfl
  rw[em];refine pF pU (pF (yK (λm=>decide (wF l m<wF l x)) ms) ⟨M,.new Z0,?_⟩);unfold Il at k;rw[As];exact k
def Pv(G:Gl K mg a)(x:Str):Fq P w K mg base 6 a.aO (xB a (.breaks x)):=by
 refine fq G.aO.toDG vZ (λr u=>⟨_,(pG (qa (W3.b3 (y9 (pR u Y2 (pN v0)) (yy (pR u Y3 (pN v0)))))
 (pH (pO yW))
 pV)
 (pG (qa (W3.b3 (y9 (pR u Y3 (wz (pN Y1) G.h.toCls G.Q (tz G) r)) (yy (zc (wb (pP (E6 G) r G.S (rG Y1 Y2 Y3)))))))
 (pH (pO yW))
 pV)
 (pG (pW 4 vZ (qm Y1 G.c.toCls G.X (zB G) r (qv Y3)))
 (pG (qa (pR u v4 sv)
 (pH (pO yW))
 pV)
 (pG (pW 5 vZ (pN (pT (pN Y1) v4)))
 (pH (pO (ue (qy u (qc qJ Z' G.g qG (qv v5)) pJ) (tM (qm v0 G.q.toCls G.bQ (G5 G) r (so (pN Y1) v5))))))))))),?_⟩)
 rintro ds M Q ⟨p,A,V,l,c,z,rfl,hp,rd,ZS,hx,q⟩
 have hx:x∈l.pn:=rn.mp hx;obtain⟨ph,gr,ws,pon,pr,gd,rs,i1,_⟩:=rd.pl;have p8:=rd.ok.p8;dsimp only[wQ,Jo]at q;refine pI hp ?_;refine qT (c:=!(c==x)) (λh1=>?_) (λh1=>?_)
 .rw[h1,ia]at q;exact⟨M,.refl,q⟩
 rw[show(!(c==x))=pc from dI.mpr h1,fQ]at q;refine pI hp ?_;refine qT (c:=z==x) (λh2=>?_) (λh2=>?_)
 .rw[h2]at q;exact⟨M,.refl,q⟩
 rw[cY h2]at q;refine pI rd.bd.at_ (pF Z' (pI i1 ⟨Z',_,⟨Z',Z'⟩,V.p,l,Z',rd.pl,by lia,λq1 ZI=>pF pU ⟨Z',qH _,?_⟩⟩));obtain⟨M1,e0,t,_⟩:=tL (ds:=l.pn.map D.str) ZI;rw[<-e0];have Zr:=rd.sub t;show if (!(inD (.str z) (l.pn.map D.str)))=Db then _ else _
 rw[tD];refine qT (c:=!(hasS l.pn z)) (λh3=>?_) (λh3=>?_)
 .rw[h3,ia]at q;exact⟨M,t,q⟩
 rw[show(!(hasS l.pn z))=pc from dI.mpr h3,fQ]at q;refine⟨A,V,l,c,z,Z',Zr,ZS,?_⟩;refine qT (c:=!(yf l V c z)) (λh4=>?_) (λh4=>?_)
 .rw[h4]at q;exact⟨M,t,q⟩
 rw[cY h4]at q;refine pI Zr.bd.at_ ⟨Z',_,⟨Z',Z'⟩,A,V,z,Z',Zr.bd,Zr.k,?_⟩;cases e:wJ V z with
 | none=>rw[e]at q;rw[show Bp V z=.mM from by unfold Bp;rw[e];rfl];exact⟨M,t,q⟩
 | some j=>
  rw[show Bp V z=.int (j:Nat)from by unfold Bp;rw[e];rfl];have hj:j<V.calls.length:=(iM.mp e).1;have e2:V.calls[j]?=ga V.calls[j]:=cV hj;rw[e]at q;generalize V.calls[j]=k at e2;have q:Q (.bl (((V.calls[j]?).elim pc λk=>(k.ms.length==2)&&Il l x k.ms))) M:=q;rw[e2]at q;have hj:j<A.cs.length:=by rw[rd.bd.len];exact hj
  have ek:A.cs[j]?=ga A.cs[j]:=cV hj;obtain⟨ad,md,f1,f2,f3,f4,_⟩:=Zr.bd.cs j _ k ek e2;refine pI Zr.bd.at_ (pF Z' (pF Z' (pF Zr.bd.ca (pF (rO ek) (pI f1 (pF Z' ?_))))));refine pF f4 ?_;have el:((((k.ms.map D.str).length:Nat):Int)==2)=(k.ms.length==2):=by rw[cT,fM,eP,eP];lia
  show if ((((k.ms.map D.str).length:Nat):Int)==2)=Db then _ else _
  rw[el];have q:Q (.bl ((k.ms.length==2)&&Il l x k.ms)) M:=q;refine qT (c:=k.ms.length==2) (λh5=>?_) (λh5=>?_)
  .rw[h5,eL]at q;have hm:=rd.ms k (qR e2);refine pI (t _ _ hp) ⟨Z',_,⟨Z',Z'⟩,pI Zr.bd.at_ (pF Z' ⟨p,x,V.p,l,md,k.ms,Z',t _ _ hp,Zr.pl,f4,hm.2,hx,hm.1,M,t,q⟩)⟩
  .rw[show(k.ms.length==2)=pc from dI.mpr h5,eU]at q;exact⟨M,t,q⟩
def NG:Fq P w K mg base 1 a.r HW:=by
 refine fq G.r.toDG C1 (λr u=>⟨_,(pH (pO yW)),?_⟩)
 rintro ds M Q ⟨x,y,rfl,q⟩
 exact⟨M,.refl,q⟩
def Ue(G:Gl K mg a)(x y:Str)(n:Int):Fq P w K mg base 1 a.aC (SL a (.silent x y n)):=by
 refine fq G.aC.toDG AR (λr u=>⟨_,(pH (pO (ue (qy u (tI (pN Y1) (uo (F0 pJ)) uq) (qW (qv (pN v0)))) (tM (qy u (pN v0) (pN Y1)))))),?_⟩)
 rintro ds M Q ⟨p,L,k,c,rfl,hp,⟨ad,md,h1,h2,h3,h4,_⟩,q⟩
 refine pI h1 (pF Z' (pF h2 λp1 Z0=>?_));have t1:=qN.new (c:=.lst (L3.vD (c.way.map D.str) (ga (-1:Int)) Fa)) Z0;have l1:oP (pQ M p1 (.lst (L3.vD (c.way.map D.str) (ga (-1:Int)) Fa))) p1=ga ((c.way.map D.str).drop ((c.way.map D.str).length - 1)):=by rw[pU,Of]
 show AO (pQ M p1 (.lst (L3.vD (c.way.map D.str) (ga (-1:Int)) Fa)) p) _;generalize pQ M p1 (.lst (L3.vD (c.way.map D.str) (ga (-1:Int)) Fa))=M1 at t1 l1 ⊢;refine pI (t1 _ _ hp) ⟨pD Z',λp2 YY=>?_⟩;obtain⟨M2,e0,t2,l2⟩:=tL (ds:=[D.str x]) YY;rw[<-e0];show Option.elim (we M2 9 (.ref p1) (.ref p2)) False _;have s2:=t1.trans t2;refine pF (QU (t2.lst l1) l2) ?_;dsimp only[FV]at q;refine qT (c:=c.way.getLast?==ga x) (λg=>?_) (λg=>?_)
 .rw[g,eL]at q;exact pI (s2 _ _ hp) (pI (s2 _ _ h1) ⟨M,s2,q⟩)
 .rw[show(c.way.getLast?==ga x)=pc from dI.mpr g,eU]at q;exact⟨M,s2,q⟩
def S8:∀C sp,OX a C sp->xW P w K mg base 6 "fits" C (Px K sp):=by
 rintro C sp ⟨v,rfl,rfl⟩
 cases v with
 | bar x ns=>exact⟨G.t.toCls,_,_,_,G.aH.ni,NP G x ns,G.aH.b⟩
 | shut x ns=>exact⟨G.u.toCls,_,_,_,G.aI.ni,Pc G x ns,G.aI.b⟩
 | always x y=>exact⟨G.x.toCls,_,_,_,G.aJ.ni,Mg G x y,G.aJ.b⟩
 | night x y f m=>exact⟨G.o.toCls,_,_,_,G.aK.ni,MA G x y f m,G.aK.b⟩
 | busy x y=>exact⟨G.y.toCls,_,_,_,G.aL.ni,Ms G x y,G.aL.b⟩
 | silent x y n=>exact⟨G.v.toCls,_,_,_,G.aM.ni,Od G x y n,G.aM.b⟩
 | wait x=>exact⟨G.w.toCls,_,_,_,G.aN.ni,MC G x,G.aN.b⟩
 | breaks x=>exact⟨G.q.toCls,_,_,_,G.aO.ni,Pv G x,G.aO.b⟩
def Wv:∀C sp,G' a C sp->xW P w K mg base 1 "is_due" C (Px K sp):=by
 rintro C sp ⟨v,rfl,rfl⟩
 have F:=NG (P:=P) (w:=w) (base:=base) G;cases v with
 | silent x y n=>exact⟨G.v.toCls,_,_,_,G.aC.ni,Ue G x y n,G.aC.b⟩
 | bar _ _=>exact⟨G.t.toCls,_,_,_,G.ct,F,G.r.b⟩
 | shut _ _=>exact⟨G.u.toCls,_,_,_,G.cu,F,G.r.b⟩
 | always _ _=>exact⟨G.x.toCls,_,_,_,G.cv,F,G.r.b⟩
 | night _ _ _ _=>exact⟨G.o.toCls,_,_,_,G.cw,F,G.r.b⟩
 | busy _ _=>exact⟨G.y.toCls,_,_,_,G.cx,F,G.r.b⟩
 | wait _=>exact⟨G.w.toCls,_,_,_,G.cy,F,G.r.b⟩
 | breaks _=>exact⟨G.q.toCls,_,_,_,G.cz,F,G.r.b⟩
def KJ{es pre post:T0 D}{d:D}(e:pre++d::post=ub 0 es):∃x,es[pre.length]?=ga x/\d=.tup [.int (pre.length:Nat),x]:=by
 have h:(ub 0 es)[pre.length]?=ga d:=by rw[<-e];simp
 rw[xY]at h;cases q:es[pre.length]? with
 | none=>rw[q]at h;cases h
 | some x=>rw[q]at h;refine⟨x,Z',?_⟩;have:=(df h).symm;rw[kY]at this;exact this
def uf(n:Nat):∀es:T0 D,(ub n es).length=es.length:=λes=>by
 have h:∀i:Nat,(ub n es)[i]?=Fa↔es[i]?=Fa:=λi=>by rw[xY];cases es[i]?<;>simp
 have a:=(h es.length).mpr (fK (dq _));have b:=(h (ub n es).length).mp (fK (dq _));rw[List.getElem?_eq_none_iff]at a b;lia
def JG{l:pM}{V:qu}{f:Wi->Bool}{tt:Bf}{ok:Mp->Prop}{Q:DK}{M:Mp}{rest:T0 (Option D)}(hl:V.on.length=l.mG.length)(h16:l.mG.length<=16)(mR:ok M) (ht:∀(i:Nat) (w:uA),l.mG[i]?=ga w->∀(y:Option D) (k:Bool->Mp->Prop),k (f w.2) M->tt (ga (.int (i:Nat))::y::rest) M k) (q:∀p,M p=Fa->Q (.ref p) (pQ M p (.lst ((yc l V f).map λn=>D.int (n:Nat))))):
  ve (Sk 2 (ye (rh 0) (ye (rh 1) Ck))) (QD (b3 (v3 1)) tt) (v3 0) ok Q (ub 0 (V.on.map D.bl)) [] (Fa::Fa::rest) M:=by
 have hz:=dM;refine vN (ub 0 (V.on.map D.bl)) (λpre acc U M'=>M=M'/\acc=((List.range pre.length).filter λi=>V.on.getD i pc&&(l.mG[i]?).elim pc λw=>f w.2).map (λn=>D.int (n:Nat))/\∃y1 y2,U=y1::y2::rest) (λ_ _ _ M' j=>by rw[<-j.1];exact mR) _ [] [] _ _ Z' ?_ ⟨Z',Z',Fa,Fa,Z'⟩ ?_ ?_
 .rw[uf,cT,hl];simp only[dH];lia
 .rintro pre d post e acc U M' ⟨rfl,rfl,y1,y2,rfl⟩ k k2 hk Z1
  obtain⟨x,hx,rfl⟩:=KJ e;rw[cW,dD,iu,gW]at hk Z1;rw[dv]at hx;cases eo:V.on[pre.length]? with
  | none=>rw[eo]at hx;cases hx
  | some b=>
   rw[eo]at hx;have hx:D.bl b=x:=df hx;subst hx;have hi:pre.length<l.mG.length:=by rw[<-hl];exact(cX.mp eo).1
   have ew:l.mG[pre.length]?=ga l.mG[pre.length]:=cV hi;generalize l.mG[pre.length]=w0 at ew;have eg:V.on.getD pre.length pc=b:=by rw[fB,eo];rfl
   have no:(b&&f w0.2)=pc->k2 (ga (.int (pre.length:Nat))::ga (.bl b)::rest) M:=λg=>by refine Z1 _ _ ⟨Z',?_,_,_,Z'⟩;rw[gR (by rw[eg,ew];show ¬(b&&f w0.2)=Db;rw[g];exact dA),gF,eG]
   refine⟨Z',?_⟩;show if b=Db then _ else _
   cases b with
   | false=>exact Og (no Z')
   | true=>
    refine KU (ht _ _ ew _ _ ?_);cases g:f w0.2 with
    | false=>exact Og (no (by rw[g];rfl))
    | true=>refine KU (hk _ _ _ ⟨Z',?_,_,_,Z'⟩);rw[gQ (by rw[eg,ew];show(Db&&f w0.2)=Db;rw[g];rfl),gF,dF];rfl
 .rintro acc U M' ⟨rfl,rfl,y1,y2,rfl⟩ p hp
  rw[uf,cT];exact q p hp
def BR(h:tE a M rs ws){i:Nat}{w:uA}(e:ws[i]?=ga w):∃r,xn (rs.map D.ref) (i:Nat)=ga (.ref r)/\M r=ga (.ins (w.2.cls a) w.2.nH):=by
 have hi:i<rs.length:=by rw[h.1];exact(cX.mp e).1
 exact⟨rs[i],vo (by rw[dv,cV hi];rfl),h.2 i _ w (cV hi) e⟩
def Na(ds:T0 D)(m:Nat):L3.vD ds Fa (ga (m:Int))=ds.take m:=by
 unfold L3.vD;rw[HT.C7,HT.Kb,kl,kX];by_cases h:m<=ds.length
 .rw[iw h]
 .rw[Nat.min_eq_right (by lia),eM,gY (by lia)]
def Jv(ds:T0 D)(m:Nat)(h:m<=ds.length):L3.vD ds (ga (m:Int)) Fa=ds.drop m:=by unfold L3.vD;rw[HT.C7,HT.Kb,iw h];exact gY (by rw[gx];exact dq _)
def uW(l:pM)(V:qu):Prop:=∀z∈l.nm,(l.mP z=="turns")=Db->∃v,V.ps.find? (λp=>decide (p.1=z))=ga v/\0<=v.2/\v.2<=((l.mH z).length:Int)
def MD{V:qu}(h:uW l V){z:Str}(hz:z∈l.nm)(e:(l.mP z=="turns")=Db):wm (tZ V.ps) (.inr z)=ga (.int (zR V z:Nat))/\zR V z<=(l.mH z).length:=by
 obtain⟨v,e1,e2,e3⟩:=h z hz e;have h1:zR V z=v.2.toNat:=by unfold zR;rw[e1];rfl
 have h2:wm (tZ V.ps) (.inr z)=(V.ps.find? λp=>decide (p.1=z)).map λp=>D.int p.2:=yN (λp:Str×Int=>p.1) (λp=>D.int p.2) z V.ps;rw[h2,e1,h1];exact⟨by show ga (D.int v.2)=ga (.int (v.2.toNat:Nat));rw[Int.toNat_of_nonneg e2],by lia⟩
def IY(a:Ad):rH:=λds M Q=>HX λA V l c z=>ds=[.ref A.b,.str c,.str z]/\Rd a M A V l/\z∈l.nm/\Q (yr (xP l V c z)) M
def Rc(a:Ad):rH:=λds M Q=>HX λA V l c z=>ds=[.ref A.b,.str c,.str z]/\Rd a M A V l/\z∈l.nm/\uW l V/\Q (names (yq l V c z)) M
def OA(a:Ad):rH:=λds M Q=>HX λA V l c z=>ds=[.ref A.b,.str c,.str z]/\Rd a M A V l/\z∈l.nm/\uW l V/\Q (IG l V c z).d M
def K6:rH:=λds M Q=>Ed λx r z=>ds=[.tup (.str x::r),.str z]/\Q (if (x=="wait")=Db then(wn.waits z).d else if (x=="break")=Db then(wn.breaks z).d else wn.barred.d) M
def rN(st:sZ):T0 D:=st.map λs=>.tup [.str s.1,yr s.2]
def Ox(a:Ad):rH:=λds M Q=>U5 λA V l c z r way=>ds=[.ref A.b,.str c,.str z,.ref r]/\Rd a M A V l/\z∈l.nm/\uW l V/\oP M r=ga (List.map D.str way)/\way.length<=8000000/\∀q M',qN M M'->M q=Fa->oP M' q=ga (rN (tX l V c z way).2)->Q (.tup [(tX l V c z way).1.d,.ref q]) M'
def BY{V:qu}{f:Wi->Bool}{i:Nat}(h:i∈yc l V f):∃w,l.mG[i]?=ga w/\f w.2=Db:=by
 have h:=(eY.mp h).2;rw[dU]at h;cases e:l.mG[i]? with
 | none=>rw[e]at h;cases h.2
 | some w=>rw[e]at h;exact⟨w,Z',h.2⟩
def KA(l:pM)(way:QQQ):Nat:=(l.nm.filter λx=>!(hasS way x)).length
def B0{l:pM}{z:Str}(hz:z∈l.nm)(h:hasS way z=pc):KA l (way++[z])<KA l way:=by
 unfold KA;have e:(l.nm.filter λx=>!(hasS (way++[z]) x))=(l.nm.filter λx=>!(hasS way x)).filter λx=>!(x==z):=by rw[lh];refine ju λx _=>?_;unfold hasS;rw[mf];show(!(way.any (·==x)||((z==x)||false)))=_;rw[kD,Bool.not_or,Bool.and_comm,jp]
 rw[e];refine Nat.lt_of_le_of_ne (fL _ _) λg=>?_;have:=kM.mp (List.Sublist.eq_of_length gb g) z (eY.mpr ⟨hz,by rw[h];rfl⟩);simp at this
def CQ(ok:rb l){w:uA}(hw:w∈l.mG){z y:Str}(h:GP z w.2=.inr y):y∈l.nm:=by
 have o:=ok.wo w hw;cases e:w.2 with
 | bar _ _=>rw[e]at h;cases h
 | shut _ _=>rw[e]at h;cases h
 | always x u=>rw[e]at h o;cases h;exact rn.mp o.2.1
 | night x u f m=>rw[e]at h o;cases h;exact rn.mp o.2.1
 | busy x u=>rw[e]at h o;cases h;exact rn.mp o.2.1
 | silent x u n=>rw[e]at h o;cases h;exact rn.mp o.2.1
 | wait _=>rw[e]at h;cases h
 | breaks _=>rw[e]at h;cases h
theorem Gq(x:Str):∀ss:QQQ,x∈ss->yO (.str x) (ss.map D.str)=ga (ss.findIdx (·==x))
 | [],h=>by cases h
 | y::r,h=>by
  rw[dY,lG];unfold yO;show(if (y==x)=Db then ga 0 else(yO (.str x) (r.map D.str)).map (·+1))=_;cases e:y==x with
  | true=>rfl
  | false=>
   rw[cY dA];have hr:x∈r:=by
    rcases dg.mp h with g|g
    .rw[g,eN]at e;cases e
    .exact g
   rw[Gq x r hr];rfl
def IK:Fq P w K mg base 7 a.aX (IY a):=by
 refine fq G.aX.toDG B7 (λr u=>⟨_,(pG (pW 3 B7 (pN (pN v0)))
 (pH (pO (qe sT Z' G.z sS (qv (qP Z' (xN (ix:=[Fa,Fa,ga 3,ga 0,ga 1,ga 2]) (N':=["i","on","wishes","board","caller","target"])) (ul Z' G.ae (qv (pN v0))) (uQ (n:=2) Z' (qC (qD 0) (qC (qD 1) tR))) (vE (W3.b3 (zb (wb Y1) (yG (wb (FW (R:=OX a) (pT Y2 v0) (S8 G) (r.mono (by first|decide|lia)) (rG Y3 v4 v5))))))) v0)))))),?_⟩)
 rintro ds M Q ⟨A,V,l,c,z,rfl,rd,hz,q⟩
 obtain⟨ph,gr,ws,pon,pr,gd,rs,i1,i2,i3,i4,i5,i6,i7,i8⟩:=rd.pl;refine pI rd.bd.at_ (pF Z' (pI i1 (pF Z' ?_)));refine pI rd.bd.at_ (pF Z' (pF rd.bd.on ?_));refine JG (rest:=[ga (.ref ws),ga (.ref A.b),ga (.str c),ga (.str z)]) rd.on rd.ok.oH rd.bd.on (λi w0 ew y k hk=>?_) λp hp=>pF pU ⟨M,.new hp,q⟩;obtain⟨r,e1,e2⟩:=BR i8 ew;refine pF i4 (pF e1 (pI e2 ⟨by cases w0.2<;>rfl,_,⟨w0.2,Z',Z'⟩,r,A,V,l,c,z,Z',e2,rd,hz,rd.ok.wo w0 (qR ew),hk⟩))
def Q0:Fq P w K mg base 5 a.aY (Rc a):=by
 refine fq G.aY.toDG ua (λr u=>⟨_,(pG (pW 3 ua (qm v0 G.c.toCls G.aQ (Bl G) r (so Y1 Y2)))
 (pG (qa (pR u (qm (pN v0) G.h.toCls G.aP (yt G) r (qv Y2)) pK)
 (pH (pO (qe sT Z' G.z sS (qv Y3))))
 pV)
 (pG (pW 4 ua (qm (pN v0) G.h.toCls G.ab (uS G) r (qv Y2)))
 (pG (pW 5 ua (zZ u (pN v0) Y2))
 (pG (uM (i:=6) ua.nd Z' (Or.inl Z') Z' (xN (ix:=[Fa,ga 3]) (N':=["phone","free"])) (qV (qk (tI v4 (uo v5) uq) (tI v4 uq (uo v5)))) (qD 0) (vE (pR u v0 Y1)) v0)
 (pH (pO (qe sT Z' G.z sS (qv (tI v6 uq (uo pJ))))))))))),?_⟩)
 rintro ds M Q ⟨A,V,l,c,z,rfl,rd,ZS,nx,q⟩
 have hz:=dM;have bd:=rd.bd;have pl:=rd.pl;obtain⟨ph,gr,ws,pon,pr,gd,rs,i1,_⟩:=rd.pl;obtain⟨⟨_,tf,_⟩,_⟩:=rd.ok.of ZS;refine pI bd.at_ ⟨Z',_,⟨Z',Z'⟩,A,V,l,c,z,Z',rd,ZS,λq1 M1 s1 ZI e1=>?_⟩;refine pI (s1 _ _ bd.at_) (pF Z' (pI (s1 _ _ i1) ⟨Z',_,⟨Z',Z'⟩,V.p,z,l,Z',pl.sub s1,?_⟩));unfold yq at q;cases e:l.mP z=="turns" with
 | false=>rw[e]at q;exact BA (c:=!(l.mP z=="turns")) (by rw[e];rfl) (pF e1 ⟨M,s1,q⟩)
 | true=>
  obtain⟨hn,nl⟩:=MD nx ZS e;generalize zR V z=n at hn nl q;rw[e,de Z']at q;refine Oh (c:=!(l.mP z=="turns")) (by rw[e];rfl) ?_;refine pI (s1 _ _ bd.at_) (pF Z' (pI (s1 _ _ i1) ⟨Z',_,⟨Z',Z'⟩,V.p,z,l,Z',pl.sub s1,λq2 hq2=>?_⟩));have s2:=s1.trans (qN.new (c:=.lst ((l.mH z).map D.str)) hq2);have c2:=@pU M1 q2 ((l.mH z).map D.str);have e2:=(qN.new (c:=.lst ((l.mH z).map D.str)) hq2).lst e1;generalize pQ M1 q2 (.lst ((l.mH z).map D.str))=M2 at s2 c2 e2 ⊢;refine pI (s2 _ _ bd.at_) (pF Z' (pF Z' (pF (s2.dk bd.nx) (pF hn ?_))));refine pF c2 λq3 hq3=>?_;rw[Jv _ n (by rw[cT];exact nl),<-kG];have t3:=qN.new (c:=.lst (((l.mH z).drop n).map D.str)) hq3;have c3':=@pU M2 q3 (((l.mH z).drop n).map D.str);generalize pQ M2 q3 (.lst (((l.mH z).drop n).map D.str))=M3 at t3 c3' ⊢;refine pF (t3.lst c2) λq4 hq4=>?_;rw[Na,<-mo];obtain⟨M4,e0,t4,c4⟩:=tL (ds:=((l.mH z).take n).map D.str) hq4;rw[<-e0];refine pF (t4.lst c3') (pF c4 ?_);refine⟨by rw[cT,cT,gx,fg];lia,λq5 hq5=>pF pU ?_⟩;rw[<-dF];have t5:=qN.new (c:=.lst ((vI (l.mH z) n).map D.str)) hq5;have c5:=@pU M4 q5 ((vI (l.mH z) n).map D.str);show ve _ _ _ _ _ ((vI (l.mH z) n).map D.str) _ _ (pQ M4 q5 (.lst ((vI (l.mH z) n).map D.str)));generalize pQ M4 q5 (.lst ((vI (l.mH z) n).map D.str))=M5 at t5 c5 ⊢;have s5:=t3.trans (t4.trans t5);have e5:=s5.lst e2;have tl:(vI (l.mH z) n).length<=200:=by unfold vI;rw[cW,gx,fg];lia
  refine uj (f:=id) (t:=λd=>inD d ((uV l V c z).map D.str)) c5 _ [] _ (by rw[cT];simp only[dH];lia) (λd hd k hk=>?_) (λd hd _ k hk=>?_) λq6 hq6=>?_
  .obtain⟨x,hx,rfl⟩:=dE.mp hd;exact pF e5 ⟨Z',qH _,hk⟩
  .obtain⟨x,hx,rfl⟩:=dE.mp hd;exact hk
  .have ef:[]++(List.filter (λd=>inD d ((uV l V c z).map D.str)) ((vI (l.mH z) n).map D.str)).map id=((vI (l.mH z) n).filter λx=>hasS (uV l V c z) x).map D.str:=by
    rw[d9,jh,gk];have:((λd=>inD d ((uV l V c z).map D.str))∘D.str)=λx=>hasS (uV l V c z) x:=by funext x;exact tD _ _
    rw[this]
   rw[ef];refine pF pU λq7 hq7=>pF pU ?_;rw[show L3.vD (((vI (l.mH z) n).filter λx=>hasS (uV l V c z) x).map D.str) Fa (ga (1:Int))=(((vI (l.mH z) n).filter λx=>hasS (uV l V c z) x).take 1).map D.str from(Na _ 1).trans (mo).symm];exact⟨M,s2.trans (s5.trans ((qN.new hq6).trans (.new hq7))),q⟩
def MV:Fq P w K mg base 6 a.aZ (OA a):=by
 refine fq G.aZ.toDG vG (λr u=>⟨_,(pG (pW 3 vG (pP (Q0 G) r G.aY (rG v0 Y1 Y2)))
 (pG (qa (pR u (qc qJ Z' G.g qG (qv Y3)) pJ)
 (pH (pO (pY (so pK Y2))))
 pV)
 (pH (pO (pY (rG pK Y2 Y3)))))),?_⟩)
 rintro ds M Q ⟨A,V,l,c,z,rfl,rd,hz,nx,q⟩
 refine⟨A,V,l,c,z,Z',rd,hz,nx,?_⟩;unfold IG at q;cases e:yq l V c z with
 | nil=>rw[e]at q;exact⟨pD Z',M,.refl,q⟩
 | cons x r=>rw[e]at q;exact⟨pD Z',M,.refl,q⟩
def LF:Fq P w K mg base 1 a.a0 K6:=by
 refine fq G.a0.toDG AX (λr u=>⟨_,(pG (qa (pR u (pT v0 pJ) pK)
 (pH (pO (pY (so pK Y1))))
 pV)
 (pG (qa (pR u (pT v0 pJ) pK)
 (pH (pO (pY (so pK Y1))))
 pV)
 (pH (pO (pY (qv pK)))))),?_⟩)
 rintro ds M Q ⟨x,r,z,rfl,q⟩
 refine pF (yX _ _) (qT (c:=x=="wait") (λg=>?_) (λg=>?_))
 .rw[de g]at q;exact⟨pD Z',M,.refl,q⟩
 rw[cY g]at q;refine pF (yX _ _) (qT (c:=x=="break") (λg=>?_) (λg=>?_))
 .rw[de g]at q;exact⟨pD Z',M,.refl,q⟩
 rw[cY g]at q;exact⟨pD Z',M,.refl,q⟩
def MF:Fq P w K mg base 8 a.a1 (Ox a):=by
 refine fq G.a1.toDG xk (λr u=>⟨_,(pG (pW 4 xk (qe rW Z' G.l rT (qv Y3)))
 (pG (pW 5 xk (qW sE))
 (pG (My fi (pR u Y2 v4)
 (pG (pX (rB v4 (qv Y2)))
 (pG (pW 6 xk (pP (IK G) r G.aX (rG v0 Y1 Y2)))
 (pG (pX (rB v5 (qv (pY (so Y2 v6)))))
 (pG (qa (pR u (qc qJ Z' G.g qG (qv v6)) pJ)
 (pH (pO (pY (so (pP (MV G) r G.aZ (rG v0 Y1 Y2)) v5))))
 pV)
 (pG (pW 7 xk (Aq (R:=KM a) (pT (pN (pN v0)) (pT v6 pJ)) (RX G) (r.mono (by first|decide|lia))))
 (pG (qa (pR u (pT v7 pJ) pK)
 (pH (pO (pY (so (pP (LF G) r G.a0 (so v7 Y2)) v5))))
 pV)
 (pH (pW 2 xk (pT v7 pJ))))))))))
 (pH (pO (pY (so (pY (so pK (qe sT Z' G.z sS (qv (tI v4 (uo (wG v4 (qv Y2))) uq))))) v5))))))),?_⟩)
 rintro ds M Q ⟨A,V,l,c,z0,r,way0,rfl,rd,hz0,nx,hr0,hw0,q⟩
 have hz:=dM;have p8:=rd.ok.p8;have g3:=rd.ok.g3;have nl:l.nm.length<=11:=by unfold pM.nm pM.pn pM.gn;rw[cW,cT,cT];lia
 refine pF hr0 λp1 Z0=>⟨pD Z',λp2 YY=>?_⟩;have t1:=qN.new (c:=.lst (way0.map D.str)) Z0;have t2:=qN.new (c:=.lst []) YY;have c1:oP (pQ (pQ M p1 (.lst (way0.map D.str))) p2 (.lst [])) p1=ga (way0.map D.str):=t2.lst pU;have c2:=@pU (pQ M p1 (.lst (way0.map D.str))) p2 [];have n12:p2≠p1:=λy=>by rw[y,pZ]at YY;cases YY
 have m2:M p2=Fa:=t1.none YY;have s2:=t1.trans t2;generalize pQ (pQ M p1 (.lst (way0.map D.str))) p2 (.lst [])=M2 at c1 c2 s2 ⊢;refine⟨λm U M'=>∃z way st,qN M M'/\oP M' p1=ga (List.map D.str way)/\oP M' p2=ga (rN st)/\z∈l.nm/\KA l way<m/\way.length+m<=8000012/\st.length+m<=100/\ug l V c m z way st=tX l V c z0 way0/\∃y6 y7,U=[ga (.ref A.b),ga (.str c),ga (.str z),ga (.ref r),ga (.ref p1),ga (.ref p2),y6,y7],⟨l.nm.length+1,z0,way0,[],s2,c1,c2,hz0,Nat.lt_succ_of_le (fL _ _),by lia,by show 0+(l.nm.length+1)<=100;lia,Z',Fa,Fa,Z'⟩,?_⟩
 rintro m U M' ⟨z,way,st,sM,l1,l2,ZS,YV,hwl,hsl,er,y6,y7,rfl⟩
 obtain⟨m,rfl⟩:∃k,m=k+1:=⟨m - 1,by lia⟩;have q2:∀YQ,qN M YQ->oP YQ p2=ga (rN (ug l V c (m+1) z way st).2)->Q (.tup [(ug l V c (m+1) z way st).1.d,.ref p2]) YQ:=λYQ s ll=>by rw[er]at ll ⊢;exact q p2 YQ s m2 ll
 clear q;unfold ug at er q2;refine pF l1 ⟨Z',qH way,?_⟩;show if (!(inD (.str z) (way.map D.str)))=Db then _ else _
 rw[tD];refine qT (c:=!(hasS way z)) (λh1=>?_) (λh1=>?_)
 rotate_left
 .
  have h1:hasS way z=Db:=by simpa using h1
  rw[de h1]at q2;refine⟨by show(oP M' p1).isSome=Db;rw[l1];rfl,pF l1 ⟨Z',qH _,pF (Gq z way (rn.mp h1)) (pF l1 λp3 hp3=>?_)⟩⟩;have hle:way.findIdx (·==z)<=(way.map D.str).length:=by rw[cT];exact List.findIdx_le_length
  rw[Jv _ _ hle,<-kG];refine pF pU ⟨pD Z',pD Z',_,.refl,q2 _ (sM.trans (.new hp3)) ((qN.new hp3).lst l2)⟩
 have h1:hasS way z=pc:=by simpa using h1
 rw[h1,cY dA]at er q2;refine⟨by show(oP M' p1).isSome=Db;rw[l1];rfl,pF l1 ⟨by rw[cT];lia,?_⟩⟩;have k3:sH p1 M' (pQ M' p1 (.lst (way.map D.str++[D.str z]))):=.put;have s3:qN M (pQ M' p1 (.lst (way.map D.str++[D.str z]))):=λx d hx=>by rw[uG (RW hx Z0)];exact sM x d hx
 have c3:=k3.lst n12 l2;have l3:oP (pQ M' p1 (.lst (way.map D.str++[D.str z]))) p1=ga ((way++[z]).map D.str):=by rw[pU,dF];rfl
 generalize pQ M' p1 (.lst (way.map D.str++[D.str z]))=M3 at s3 c3 l3 ⊢;refine⟨A,V,l,c,z,Z',rd.sub s3,ZS,?_⟩;generalize hf:xP l V c z=fs at er q2 ⊢;refine⟨by show(oP M3 p2).isSome=Db;rw[c3];rfl,pD Z',pF c3 ⟨by unfold rN;rw[cT];lia,?_⟩⟩;have es:rN st++[.tup [.str z,yr fs]]=rN (st++[(z,fs)]):=by unfold rN;rw[dF];rfl
 rw[es];have s4:qN M (pQ M3 p2 (.lst (rN (st++[(z,fs)])))):=λx d hx=>by rw[uG (RW hx m2)];exact s3 x d hx
 have c4:=@pU M3 p2 (rN (st++[(z,fs)]));have l4:oP (pQ M3 p2 (.lst (rN (st++[(z,fs)])))) p1=ga ((way++[z]).map D.str):=sH.lst .put (dW n12) l3;generalize pQ M3 p2 (.lst (rN (st++[(z,fs)])))=M4 at s4 c4 l4 ⊢;cases fs with
 | nil=>exact⟨A,V,l,c,z,Z',rd.sub s4,ZS,nx,pD Z',M4,.refl,q2 M4 s4 c4⟩
 | cons i fr=>
  obtain⟨w0,ew,_⟩:=BY (l:=l) (V:=V) (f:=wQ l V c z) (i:=i) (by show i∈xP l V c z;rw[hf];exact dC);dsimp only at er q2;rw[ew]at er q2;dsimp only[Option.elim]at er q2;obtain⟨ph,gr,ws,pon,pr,gd,rs,i1,i2,i3,i4,i5,i6,i7,i8⟩:=(rd.sub s4).pl;obtain⟨rw0,e1,e2⟩:=BR i8 ew;have hwo:=rd.ok.wo w0 (qR ew);have hnm:∀y,GP z w0.2=.inr y->y∈l.nm:=λy h=>CQ rd.ok (qR ew) h;refine pI (s4 _ _ rd.bd.at_) (pF Z' (pI i1 (pF Z' (pF (yX _ _) (pF i4 (pF e1 ?_))))));cases hv:w0.2 with
  | bar x ns=>rw[hv]at q2 e2;exact pI e2 ⟨Z',_,.inl ⟨.inl Z',Z'⟩,rw0,Z',⟨"end",[],z,Z',pD Z',M4,.refl,q2 M4 s4 c4⟩⟩
  | shut x ns=>rw[hv]at q2 e2;exact pI e2 ⟨Z',_,.inl ⟨.inr Z',Z'⟩,rw0,Z',⟨"end",[],z,Z',pD Z',M4,.refl,q2 M4 s4 c4⟩⟩
  | wait x=>rw[hv]at q2 e2;exact pI e2 ⟨Z',_,.inr (.inr (.inl ⟨Z',Z'⟩)),rw0,_,_,_,Z',e2,Z',⟨"wait",_,z,Z',pD Z',M4,.refl,q2 M4 s4 c4⟩⟩
  | breaks x=>rw[hv]at q2 e2;exact pI e2 ⟨Z',_,.inr (.inr (.inr ⟨Z',Z'⟩)),rw0,Z',⟨"break",_,z,Z',pD Z',M4,.refl,q2 M4 s4 c4⟩⟩
  | always x y=>rw[hv]at er e2 hnm;exact pI e2 ⟨Z',_,.inr (.inl ⟨.inl Z',Z'⟩),rw0,_,_,_,Z',e2,Z',⟨m,fO _,y,way++[z],st++[(z,i::fr)],s4,l4,c4,hnm y Z',by have:=B0 ZS h1;lia,by rw[cW];show way.length+1+m<=_;lia,by rw[cW];show st.length+1+m<=_;lia,er,_,_,Z'⟩⟩
  | night x y f mm=>rw[hv]at er e2 hnm;exact pI e2 ⟨Z',_,.inr (.inl ⟨.inr (.inl Z'),Z'⟩),rw0,_,_,_,Z',e2,Z',⟨m,fO _,y,way++[z],st++[(z,i::fr)],s4,l4,c4,hnm y Z',by have:=B0 ZS h1;lia,by rw[cW];show way.length+1+m<=_;lia,by rw[cW];show st.length+1+m<=_;lia,er,_,_,Z'⟩⟩
  | busy x y=>rw[hv]at er e2 hnm;exact pI e2 ⟨Z',_,.inr (.inl ⟨.inr (.inr (.inl Z')),Z'⟩),rw0,_,_,_,Z',e2,Z',⟨m,fO _,y,way++[z],st++[(z,i::fr)],s4,l4,c4,hnm y Z',by have:=B0 ZS h1;lia,by rw[cW];show way.length+1+m<=_;lia,by rw[cW];show st.length+1+m<=_;lia,er,_,_,Z'⟩⟩
  | silent x y n=>rw[hv]at er e2 hnm;exact pI e2 ⟨Z',_,.inr (.inl ⟨.inr (.inr (.inr Z')),Z'⟩),rw0,_,_,_,Z',e2,Z',⟨m,fO _,y,way++[z],st++[(z,i::fr)],s4,l4,c4,hnm y Z',by have:=B0 ZS h1;lia,by rw[cW];show way.length+1+m<=_;lia,by rw[cW];show st.length+1+m<=_;lia,er,_,_,Z'⟩⟩
noncomputable def zE(V:qu)(i:Nat)(c:pL):qu:={V with calls:=V.calls.set i c}
def sQ(V:qu)(i:Nat)(c d:pL):zE (zE V i c) i d=zE V i d:=by unfold zE;rw[jN]
structure CI(a:Ad)(M:Mp)(A:tq)(V:qu)(i:Nat)(k:sf)(c:pL):Prop where
 bd:pS a M A V
 e1:A.cs[i]?=ga k
 e2:V.calls[i]?=ga c
noncomputable def cF(x:Str)(wy ad md:Uf)(k:Nat):T0 (Str×D):=List.take (α:=Str×D) k [("state",.str "rings"),("caller",.str x),("way",.ref wy),("at",.ref ad),("members",.ref md),("holder",.mM),("since",.int 0)]
variable {M':Mp}{i:Nat}{k:sf}
section
variable {c:pL}
def CI.cell(h:CI a M A V i k c):sC a M (A.lists++V.fo) k c:=h.bd.cs i k c h.e1 h.e2
def CI.sub(h:CI a M A V i k c)(s:qN M M'):CI a M' A V i k c:=⟨h.bd.sub s,h.e1,h.e2⟩
def CI.put(h:CI a M A V i k c)(c':pL){ad md:Uf}(ew:c'.way=c.way)(la:oP M ad=ga (c'.at_.map D.str))(lm:oP M md=ga (c'.ms.map D.str))(na:ad∉A.lists++V.fo)(nm:md∉A.lists++V.fo):
  CI a (pQ M k.p (.ins a.e (rL c' k.wy ad md))) A (zE V i c') i k c'/\qX A M A (pQ M k.p (.ins a.e (rL c' k.wy ad md))):=by
 obtain⟨b,s⟩:=h.bd.om h.e1 h.e2 ew la lm na nm;refine⟨⟨b,h.e1,?_⟩,s⟩;show(V.calls.set i c')[i]?=ga c';rw[fE (cX.mp h.e2).1]
end
inductive SK(i:Nat)(c:pL):Ev->pL->Prop
 | rings (ps:QQQ):SK i c (.rings i ps) (c.ring ps)
 | quiet:SK i c (.quiet i) c.nO
 | waits (x:Str):SK i c (.waits i x) (c.wait x)
 | talks (ms:QQQ):SK i c (.talks i ms) (c.nI ms)
 | held (x:Str):SK i c (.held i x) (c.hold x)
 | leaves (x:Str):SK i c (.leaves i x) (c.drop x)
 | over (w:Str):SK i c (.over i w) (c.over w)
def He(a:Ad):rH:=λds M Q=>Dn λp x=>ds=[.ref p,.str x]/\M p=ga (.ins a.e [])/\∀M' wy ad md,sH p M M'->M wy=Fa->M ad=Fa->M md=Fa->ad≠wy->md≠wy->M' p=ga (.ins a.e (rL (Am x) wy ad md))->oP M' wy=ga []->oP M' ad=ga []->oP M' md=ga []->Q .mM M'
def R5(a:Ad):rH:=λds M Q=>JT λA V i k c w=>ds=[.ref k.p,.str w]/\CI a M A V i k c/\∀M',qX A M A M'->pS a M' A (zE V i (c.over w))->Q .mM M'
def OU(a:Ad):rH:=λds M Q=>JT λA V i k c x=>ds=[.ref k.p,.str x]/\CI a M A V i k c/\c.at_.length<=100/\c.ms.length<=100/\∀M',qX A M A M'->pS a M' A (zE V i (c.drop x))->Q .mM M'
def LR(a:Ad):rH:=λds M Q=>U5 λA V i k c e c'=>ds=[.ref k.p,Ev.d e]/\CI a M A V i k c/\c.at_.length<=100/\c.ms.length<=100/\SK i c e c'/\∀M',qX A M A M'->pS a M' A (zE V i c')->Q .mM M'
def Qg:Fq P w K mg base 1 a.ay (He a):=by
 refine fq G.ay.toDG FO (λr u=>⟨_,(pG (qw v0 pK)
 (pG (qw v0 Y1)
 (pG (qw v0 (qW sE))
 (pG (qw v0 (qW sE))
 (pG (qw v0 (qW sE))
 (pG (qw v0 sv)
 (pG (qw v0 pJ)
 (pH (qw v0 sv))))))))),?_⟩)
 rintro ds M Q ⟨p,x,rfl,hb,q⟩
 refine pI hb ⟨(G.j "state" Z'),by show 0<1000;decide,?_⟩;have k1:sH p M (pQ M p (.ins a.e [("state",.str "rings")])):=.put;have b1:pQ M p (.ins a.e [("state",.str "rings")]) p=ga (.ins a.e [("state",.str "rings")]):=pZ;show vb _ _ _ _ (pQ M p (.ins a.e [("state",.str "rings")]));generalize pQ M p (.ins a.e [("state",.str "rings")])=N1 at k1 b1 ⊢;refine pI b1 ⟨(G.j "caller" Z'),by show 1<1000;decide,?_⟩;have k2:=k1.trans (sH.put (p:=p) (c:=.ins a.e [("state",.str "rings"),("caller",.str x)]));have b2:pQ N1 p (.ins a.e [("state",.str "rings"),("caller",.str x)]) p=ga (.ins a.e [("state",.str "rings"),("caller",.str x)]):=pZ;show vb _ _ _ _ (pQ N1 p (.ins a.e [("state",.str "rings"),("caller",.str x)]));generalize pQ N1 p (.ins a.e [("state",.str "rings"),("caller",.str x)])=N2 at k2 b2 ⊢;refine⟨pD Z',λwy hwy=>?_⟩;obtain⟨n3,e3,k3,c3,b3⟩:=tQ (fs':=(cF x wy 0 0 3)) (c:=.lst []) b2 hwy;refine pI e3 ⟨(G.j "way" Z'),by show 2<1000;decide,?_⟩;show vb _ _ _ _ (pQ (pQ N2 wy (.lst [])) p (.ins a.e (cF x wy 0 0 3)));generalize pQ (pQ N2 wy (.lst [])) p (.ins a.e (cF x wy 0 0 3))=N3 at k3 c3 b3 ⊢;have z1:M wy=Fa:=sd k2 b2 hwy;have kk3:=k2.trans k3;have l3:oP N3 wy=ga []:=sj c3;refine⟨pD Z',λad had=>?_⟩;obtain⟨n4,e4,k4,c4,b4⟩:=tQ (fs':=(cF x wy ad 0 4)) (c:=.lst []) b3 had;refine pI e4 ⟨(G.j "at" Z'),by show 3<1000;decide,?_⟩;show vb _ _ _ _ (pQ (pQ N3 ad (.lst [])) p (.ins a.e (cF x wy ad 0 4)));generalize pQ (pQ N3 ad (.lst [])) p (.ins a.e (cF x wy ad 0 4))=N4 at k4 c4 b4 ⊢;have z2:M ad=Fa:=sd kk3 b3 had;have kk4:=kk3.trans k4;have naw:ad≠wy:=λz=>by rw[z,c3]at had;cases had
 have l4:=k4.lst (qd l3 b3) l3;have m4:oP N4 ad=ga []:=sj c4;refine⟨pD Z',λmd hmd=>?_⟩;obtain⟨n5,e5,k5,c5,b5⟩:=tQ (fs':=(cF x wy ad md 5)) (c:=.lst []) b4 hmd;refine pI e5 ⟨(G.j "members" Z'),by show 4<1000;decide,?_⟩;show vb _ _ _ _ (pQ (pQ N4 md (.lst [])) p (.ins a.e (cF x wy ad md 5)));generalize pQ (pQ N4 md (.lst [])) p (.ins a.e (cF x wy ad md 5))=N5 at k5 c5 b5 ⊢;have z3:M md=Fa:=sd kk4 b4 hmd;have kk5:=kk4.trans k5;have nmw:md≠wy:=λz=>by rw[z,qg l4]at hmd;cases hmd
 have l5:=k5.lst (qd l4 b4) l4;have m5:=k5.lst (qd m4 b4) m4;have o5:oP N5 md=ga []:=sj c5;refine pI b5 ⟨(G.j "holder" Z'),by show 5<1000;decide,?_⟩;have k6:sH p N5 (pQ N5 p (.ins a.e (cF x wy ad md 6))):=.put;have b6:pQ N5 p (.ins a.e (cF x wy ad md 6)) p=ga (.ins a.e (cF x wy ad md 6)):=pZ;show vb _ _ _ _ (pQ N5 p (.ins a.e (cF x wy ad md 6)));generalize pQ N5 p (.ins a.e (cF x wy ad md 6))=N6 at k6 b6 ⊢;refine pI b6 ⟨(G.j "since" Z'),by show 6<1000;decide,?_⟩;have k7:=k6.trans (sH.put (p:=p) (c:=.ins a.e (cF x wy ad md 7)));have b7:pQ N6 p (.ins a.e (cF x wy ad md 7)) p=ga (.ins a.e (cF x wy ad md 7)):=pZ;rw[show wW "since" (.int 0) (cF x wy ad md 6)=(cF x wy ad md 7)from Z'];generalize pQ N6 p (.ins a.e (cF x wy ad md 7))=N7 at k7 b7 ⊢;refine pI b7 ⟨(G.j "word" Z'),by show 7<1000;decide,_,.refl,?_⟩;have k8:=k7.trans (sH.put (p:=p) (c:=.ins a.e (rL (Am x) wy ad md)));exact q _ wy ad md (kk5.trans k8) z1 z2 z3 naw nmw pZ (k8.lst (qd l5 b5) l5) (k8.lst (qd m5 b5) m5) (k8.lst (qd o5 b5) o5)
def JV:Fq P w K mg base 1 a.af (R5 a):=by
 refine fq G.af.toDG G0 (λr u=>⟨_,(pG (qw v0 pK)
 (pG (qw v0 Y1)
 (pG (qw v0 (qW sE))
 (pG (qw v0 (qW sE))
 (pH (qw v0 sv)))))),?_⟩)
 rintro ds M Q ⟨A,V,i,k,c,w0,rfl,h,q⟩
 obtain⟨ad,md,h1,h2,h3,h4,n1,n2⟩:=h.cell;refine pI h1 ⟨(G.j "state" Z'),by show 8<1000;decide,?_⟩;obtain⟨g1,s1⟩:=h.put {c with st:="over"} Z' h3 h4 n1 n2;show vb _ _ _ _ (pQ M k.p (.ins a.e (rL {c with st:="over"} k.wy ad md)));generalize pQ M k.p (.ins a.e (rL {c with st:="over"} k.wy ad md))=M1 at g1 s1 ⊢;clear h1 h2 h3 h4 n1 n2;obtain⟨ad,md,h1,h2,h3,h4,n1,n2⟩:=g1.cell;refine pI h1 ⟨(G.j "word" Z'),by show 8<1000;decide,?_⟩;obtain⟨g2,s2⟩:=g1.put {c with st:="over",wd:=some w0} Z' h3 h4 n1 n2;show vb _ _ _ _ (pQ M1 k.p (.ins a.e (rL {c with st:="over",wd:=some w0} k.wy ad md)));generalize pQ M1 k.p (.ins a.e (rL {c with st:="over",wd:=some w0} k.wy ad md))=M2 at g2 s2 ⊢;clear h1 h2 h3 h4 n1 n2;refine⟨pD Z',λp hp=>?_⟩;have t3:=qN.new (c:=.lst []) hp;have lp:=@pU M2 p [];have np:=g2.bd.nj hp;have g2':=g2.sub t3;have s2':=s2.trans (.sub t3);generalize pQ M2 p (.lst [])=M2' at t3 lp g2' s2' ⊢;obtain⟨ad,md,h1,h2,h3,h4,n1,n2⟩:=g2'.cell;refine pI h1 ⟨(G.j "at" Z'),by show 8<1000;decide,?_⟩;obtain⟨g3,s3⟩:=g2'.put {c with st:="over",wd:=some w0,at_:=[]} Z' lp h4 np n2;show vb _ _ _ _ (pQ M2' k.p (.ins a.e (rL {c with st:="over",wd:=some w0,at_:=[]} k.wy p md)));generalize pQ M2' k.p (.ins a.e (rL {c with st:="over",wd:=some w0,at_:=[]} k.wy p md))=M3 at g3 s3 ⊢;clear h1 h2 h3 h4 n1 n2 lp t3 np g2 g2';refine⟨pD Z',λp2 YY=>?_⟩;have t4:=qN.new (c:=.lst []) YY;have lp:=@pU M3 p2 [];have np:=g3.bd.nj YY;have g3':=g3.sub t4;have s3':=s3.trans (.sub t4);generalize pQ M3 p2 (.lst [])=M3' at t4 lp g3' s3' ⊢;obtain⟨ad,md,h1,h2,h3,h4,n1,n2⟩:=g3'.cell;refine pI h1 ⟨(G.j "members" Z'),by show 8<1000;decide,?_⟩;obtain⟨g4,s4⟩:=g3'.put {c with st:="over",wd:=some w0,at_:=[],ms:=[]} Z' h3 lp n1 np;rw[show wW "members" (.ref p2) (rL {c with st:="over",wd:=some w0,at_:=[]} k.wy ad md)=rL {c with st:="over",wd:=some w0,at_:=[],ms:=[]} k.wy ad p2 from rfl];generalize pQ M3' k.p (.ins a.e (rL {c with st:="over",wd:=some w0,at_:=[],ms:=[]} k.wy ad p2))=M4 at g4 s4 ⊢;clear h1 h2 h3 h4 n1 n2 lp t4 np g3 g3';obtain⟨ad,md,h1,h2,h3,h4,n1,n2⟩:=g4.cell;refine pI h1 ⟨(G.j "holder" Z'),by show 8<1000;decide,_,.refl,?_⟩;obtain⟨g5,s5⟩:=g4.put (c.over w0) Z' h3 h4 n1 n2;refine q _ ((s1.trans s2').trans (s3'.trans (s4.trans s5))) ?_;have:=g5.bd;rw[sQ,sQ,sQ,sQ]at this;exact this
def MU:Fq P w K mg base 1 a.aU (OU a):=by
 refine fq G.aU.toDG DW (λr u=>⟨_,(pG (qw v0 (qP Z' (xN (ix:=[Fa,ga 1]) (N':=["other","phone"])) (qV (pN v0)) (qD 0) (vE (pR u v0 Y1)) v0))
 (pH (qw v0 (qP Z' (xN (ix:=[Fa,ga 1]) (N':=["other","phone"])) (qV (pN v0)) (qD 0) (vE (pR u v0 Y1)) v0)))),?_⟩)
 rintro ds M Q ⟨A,V,i,k,c,x,rfl,h,la,lm,q⟩
 have hz:=dM;obtain⟨ad,md,h1,h2,h3,h4,n1,n2⟩:=h.cell;refine pI h1 (pF Z' (pF h3 (uj (f:=id) (t:=QW x) h3 _ [] _ (by rw[cT];simp only[dH];lia) (λd hd k0 hk=>?_) (λd hd _ k0 hk=>?_) λp hp=>?_)))
 .obtain⟨y,hy,rfl⟩:=dE.mp hd;exact hk
 .obtain⟨y,hy,rfl⟩:=dE.mp hd;exact hk
 rw[Dd];obtain⟨M1,e0,t1,lp⟩:=tL (ds:=(s8 c.at_ x).map D.str) hp;rw[<-e0];have np:=h.bd.nj hp;have h':=h.sub t1;have s1:qX A M A M1:=.sub t1;clear h1 h2 h3 h4 n1 n2;obtain⟨ad,md,h1,h2,h3,h4,n1,n2⟩:=h'.cell;refine pI h1 ⟨(G.j "at" Z'),by show 8<1000;decide,?_⟩;obtain⟨g2,s2⟩:=h'.put {c with at_:=s8 c.at_ x} Z' lp h4 np n2;rw[show wW "at" (.ref p) (rL c k.wy ad md)=rL {c with at_:=s8 c.at_ x} k.wy p md from rfl];generalize pQ M1 k.p (.ins a.e (rL {c with at_:=s8 c.at_ x} k.wy p md))=M2 at g2 s2 ⊢;clear h1 h2 h3 h4 n1 n2 lp np;obtain⟨ad,md,h1,h2,h3,h4,n1,n2⟩:=g2.cell;refine pI h1 (pF Z' (pF h4 (uj (f:=id) (t:=QW x) h4 _ [] _ (by rw[cT];simp only[dH];show 0+c.ms.length<=Ch;lia) (λd hd k0 hk=>?_) (λd hd _ k0 hk=>?_) λp2 YY=>?_)))
 .obtain⟨y,hy,rfl⟩:=dE.mp hd;exact hk
 .obtain⟨y,hy,rfl⟩:=dE.mp hd;exact hk
 rw[Dd];obtain⟨M3,e0,t3,lp⟩:=tL (ds:=(s8 c.ms x).map D.str) YY;rw[<-e0];have np:=g2.bd.nj YY;have g2':=g2.sub t3;have s3:qX A M2 A M3:=.sub t3;clear h1 h2 h3 h4 n1 n2;obtain⟨ad,md,h1,h2,h3,h4,n1,n2⟩:=g2'.cell;refine pI h1 ⟨(G.j "members" Z'),by show 8<1000;decide,_,.refl,?_⟩;obtain⟨g4,s4⟩:=g2'.put (c.drop x) Z' h3 lp n1 np;refine q _ ((s1.trans s2).trans (s3.trans s4)) ?_;have:=g4.bd;rw[sQ]at this;exact this
def LC:Fq P w K mg base 2 a.aV (LR a):=by
 refine fq G.aV.toDG yb (λr u=>⟨_,(pG (pW 2 yb (pT Y1 pJ))
 (pH (qa (pR u Y2 pK)
 (pG (qw v0 pK)
 (pG (qw v0 (qe rW Z' G.l rT (qv (pT Y1 pJ))))
 (pH (qw v0 pJ))))
 (pH (qa (pR u Y2 pK)
 (pH (qw v0 (qW sE)))
 (pH (qa (pR u Y2 pK)
 (pG (qw v0 pK)
 (pH (qw v0 (qW (qv (pT Y1 pJ))))))
 (pH (qa (pR u Y2 pK)
 (pG (qw v0 pK)
 (pG (qw v0 (qe rW Z' G.l rT (qv (pT Y1 pJ))))
 (pG (qw v0 (qW sE))
 (pH (qw v0 sv)))))
 (pH (qa (pR u Y2 pK)
 (pG (qw v0 pK)
 (pH (qw v0 (pT Y1 pJ))))
 (pH (qa (pR u Y2 pK)
 (pH (pX (pP (MU G) r G.aU (so v0 (pT Y1 pJ)))))
 (pH (qa (pR u Y2 pK)
 (pH (pX (pP (JV G) r G.af (so v0 (pT Y1 pJ)))))
 pV))))))))))))))),?_⟩)
 rintro ds M Q ⟨A,V,i,k,c,e,c',rfl,h,la,lm,hc,q⟩
 cases hc with
 | over w0=>exact⟨A,V,i,k,c,w0,Z',h,λM' s b=>⟨M',.refl,q M' s b⟩⟩
 | leaves x=>exact⟨A,V,i,k,c,x,Z',h,la,lm,λM' s b=>⟨M',.refl,q M' s b⟩⟩
 | quiet=>refine⟨pD Z',λp hp=>?_⟩;obtain⟨M1,e0,t3,lp⟩:=tL (ds:=[]) hp;rw[<-e0];have np:=h.bd.nj hp;have g1:=h.sub t3;obtain⟨ad,md,h1,h2,h3,h4,n1,n2⟩:=g1.cell;refine pI h1 ⟨(G.j "at" Z'),by show 8<1000;decide,_,.refl,?_⟩;obtain⟨g5,s5⟩:=g1.put c.nO Z' lp h4 np n2;exact q _ ((qX.sub t3).trans s5) g5.bd
 | waits x=>obtain⟨ad,md,h1,h2,h3,h4,n1,n2⟩:=h.cell;refine pI h1 ⟨(G.j "state" Z'),by show 8<1000;decide,?_⟩;obtain⟨g1,s1⟩:=h.put {c with st:="waits"} Z' h3 h4 n1 n2;show vb _ _ _ _ (pQ M k.p (.ins a.e (rL {c with st:="waits"} k.wy ad md)));generalize pQ M k.p (.ins a.e (rL {c with st:="waits"} k.wy ad md))=M1 at g1 s1 ⊢;clear h1 h2 h3 h4 n1 n2;refine⟨pD Z',λp hp=>?_⟩;have t3:=qN.new (c:=.lst [D.str x]) hp;have lp:=@pU M1 p [D.str x];have np:=g1.bd.nj hp;have g1':=g1.sub t3;generalize pQ M1 p (.lst [D.str x])=M1' at t3 lp g1' ⊢;obtain⟨ad,md,h1,h2,h3,h4,n1,n2⟩:=g1'.cell;refine pI h1 ⟨(G.j "at" Z'),by show 8<1000;decide,_,.refl,?_⟩;obtain⟨g5,s5⟩:=g1'.put (c.wait x) Z' lp h4 np n2;refine q _ (s1.trans ((qX.sub t3).trans s5)) ?_;have:=g5.bd;rw[sQ]at this;exact this
 | held x=>obtain⟨ad,md,h1,h2,h3,h4,n1,n2⟩:=h.cell;refine pI h1 ⟨(G.j "state" Z'),by show 8<1000;decide,?_⟩;obtain⟨g1,s1⟩:=h.put {c with st:="held"} Z' h3 h4 n1 n2;show vb _ _ _ _ (pQ M k.p (.ins a.e (rL {c with st:="held"} k.wy ad md)));generalize pQ M k.p (.ins a.e (rL {c with st:="held"} k.wy ad md))=M1 at g1 s1 ⊢;clear h1 h2 h3 h4 n1 n2;obtain⟨ad,md,h1,h2,h3,h4,n1,n2⟩:=g1.cell;refine pI h1 ⟨(G.j "holder" Z'),by show 8<1000;decide,_,.refl,?_⟩;obtain⟨g5,s5⟩:=g1.put (c.hold x) Z' h3 h4 n1 n2;refine q _ (s1.trans s5) ?_;have:=g5.bd;rw[sQ]at this;exact this
 | rings ps=>obtain⟨ad,md,h1,h2,h3,h4,n1,n2⟩:=h.cell;refine pI h1 ⟨(G.j "state" Z'),by show 8<1000;decide,?_⟩;obtain⟨g1,s1⟩:=h.put {c with st:="rings"} Z' h3 h4 n1 n2;show vb _ _ _ _ (pQ M k.p (.ins a.e (rL {c with st:="rings"} k.wy ad md)));generalize pQ M k.p (.ins a.e (rL {c with st:="rings"} k.wy ad md))=M1 at g1 s1 ⊢;clear h1 h2 h3 h4 n1 n2;refine λp hp=>?_;have t3:=qN.new (c:=.lst (ps.map D.str)) hp;have lp:=@pU M1 p (ps.map D.str);have np:=g1.bd.nj hp;have g1':=g1.sub t3;have s1':=s1.trans (.sub t3);generalize pQ M1 p (.lst (ps.map D.str))=M1' at t3 lp g1' s1' ⊢;obtain⟨ad,md,h1,h2,h3,h4,n1,n2⟩:=g1'.cell;refine pI h1 ⟨(G.j "at" Z'),by show 8<1000;decide,?_⟩;obtain⟨g3,s3⟩:=g1'.put {c with st:="rings",at_:=ps} Z' lp h4 np n2;rw[show wW "at" (.ref p) (rL {c with st:="rings"} k.wy ad md)=rL {c with st:="rings",at_:=ps} k.wy p md from rfl];generalize pQ M1' k.p (.ins a.e (rL {c with st:="rings",at_:=ps} k.wy p md))=M3 at g3 s3 ⊢;clear h1 h2 h3 h4 n1 n2 lp t3 np;obtain⟨ad,md,h1,h2,h3,h4,n1,n2⟩:=g3.cell;refine pI h1 ⟨(G.j "since" Z'),by show 8<1000;decide,_,.refl,?_⟩;obtain⟨g5,s5⟩:=g3.put (c.ring ps) Z' h3 h4 n1 n2;refine q _ (s1'.trans (s3.trans s5)) ?_;have:=g5.bd;rw[sQ,sQ]at this;exact this
 | talks ms=>obtain⟨ad,md,h1,h2,h3,h4,n1,n2⟩:=h.cell;refine pI h1 ⟨(G.j "state" Z'),by show 8<1000;decide,?_⟩;obtain⟨g1,s1⟩:=h.put {c with st:="talks"} Z' h3 h4 n1 n2;show vb _ _ _ _ (pQ M k.p (.ins a.e (rL {c with st:="talks"} k.wy ad md)));generalize pQ M k.p (.ins a.e (rL {c with st:="talks"} k.wy ad md))=M1 at g1 s1 ⊢;clear h1 h2 h3 h4 n1 n2;refine λp hp=>?_;have t3:=qN.new (c:=.lst (ms.map D.str)) hp;have lp:=@pU M1 p (ms.map D.str);have np:=g1.bd.nj hp;have g1':=g1.sub t3;have s1':=s1.trans (.sub t3);generalize pQ M1 p (.lst (ms.map D.str))=M1' at t3 lp g1' s1' ⊢;obtain⟨ad,md,h1,h2,h3,h4,n1,n2⟩:=g1'.cell;refine pI h1 ⟨(G.j "members" Z'),by show 8<1000;decide,?_⟩;obtain⟨g3,s3⟩:=g1'.put {c with st:="talks",ms:=ms} Z' h3 lp n1 np;show vb _ _ _ _ (pQ M1' k.p (.ins a.e (rL {c with st:="talks",ms:=ms} k.wy ad p)));generalize pQ M1' k.p (.ins a.e (rL {c with st:="talks",ms:=ms} k.wy ad p))=M3 at g3 s3 ⊢;clear h1 h2 h3 h4 n1 n2 lp t3 np;refine⟨pD Z',λp2 YY=>?_⟩;have t4:=qN.new (c:=.lst []) YY;have lp:=@pU M3 p2 [];have np:=g3.bd.nj YY;have g3':=g3.sub t4;have s3':=s3.trans (.sub t4);generalize pQ M3 p2 (.lst [])=M3' at t4 lp g3' s3' ⊢;obtain⟨ad,md,h1,h2,h3,h4,n1,n2⟩:=g3'.cell;refine pI h1 ⟨(G.j "at" Z'),by show 8<1000;decide,?_⟩;obtain⟨g4,s4⟩:=g3'.put {c with st:="talks",ms:=ms,at_:=[]} Z' lp h4 np n2;rw[show wW "at" (.ref p2) (rL {c with st:="talks",ms:=ms} k.wy ad md)=rL {c with st:="talks",ms:=ms,at_:=[]} k.wy p2 md from rfl];generalize pQ M3' k.p (.ins a.e (rL {c with st:="talks",ms:=ms,at_:=[]} k.wy p2 md))=M4 at g4 s4 ⊢;clear h1 h2 h3 h4 n1 n2 lp t4 np;obtain⟨ad,md,h1,h2,h3,h4,n1,n2⟩:=g4.cell;refine pI h1 ⟨(G.j "holder" Z'),by show 8<1000;decide,_,.refl,?_⟩;obtain⟨g5,s5⟩:=g4.put (c.nI ms) Z' h3 h4 n1 n2;refine q _ (s1'.trans (s3'.trans (s4.trans s5))) ?_;have:=g5.bd;rw[sQ,sQ,sQ]at this;exact this
theorem um{α:Type}{f:α->α}:∀{l:List α} {i:Nat} {c:α},l[i]?=ga c->l.modify i f=l.set i (f c)
 | [],_,_,h=>by simp at h
 | _::_,0,_,h=>by cases h;rfl
 | x::r,i+1,c,h=>by rw[List.modify_succ_cons,lj,um (l:=r) (by simpa using h)]
def IQ(ps:T0 (Str×Int))(z:Str)(n:Int):DA (tZ ps) (.inr z) (.int n)=tZ (Dq ps z n):=by
 have ea:((tZ ps).any λkv=>decide (kv.1=(Sum.inr z:rD)))=ps.any λp=>decide (p.1=z):=by unfold tZ;rw[iX];congr 1;funext p;have:((Sum.inr p.1:rD)=Sum.inr z)=(p.1=z):=propext ⟨λh=>j4 h,λh=>by rw[h]⟩;simp only[Function.comp,this]
 unfold DA Dq;rw[ea];by_cases h:(ps.any λp=>decide (p.1=z))=Db
 .rw[de h,de h];unfold tZ;rw[d6,d6];refine gw λp _=>?_;by_cases hp:p.1=z
  .simp[hp]
  .have:¬(Sum.inr p.1:rD)=Sum.inr z:=λy=>hp (j4 y);simp[hp]
 .rw[cY h,cY h];unfold tZ;rw[dF];rfl
def HS{α:Type}{l:List α}{i:Nat}{x:α}(h:l[i]?=ga x):l.set i x=l:=by obtain⟨hi,e⟩:=cX.mp h;rw[<-e,List.set_getElem_self]
structure Yj(V:qu):Prop where
 lo:V.log.length<10000000
 le:V.mW.length<10000000
 ca:V.calls.length<=1000000
 ps:V.ps.length<10000000
 cs:∀c∈V.calls,c.way.length<10000000/\c.at_.length<=100/\c.ms.length<=100
def Bx(a:Ad):rH:=λds M Q=>HX λA V k c v=>ds=[.ref A.b,sX.d v]/\CI a M A V v.i k c/\V.mW.length<10000000/\c.way.length<10000000/\∀M',qX A M A M'->pS a M' A {zE V v.i (c.go v.g)with mW:=V.mW++[v]}->Q .mM M'
def D0(a:Ad):rH:=λds M Q=>S5 λA V i j ki ci cj ms=>ds=[.ref A.b,.int (i:Nat),.int (j:Nat),names ms]/\CI a M A V i ki ci/\V.calls[j]?=ga cj/\i≠j/\V.mW.length<10000000/\∀M' A',A'.b=A.b->qX A M A' M'->pS a M' A' {zE (zE V i (ci.over "merged")) j (cj.mem ms)with mW:=V.mW.map (sX.to i j)}->Q .mM M'
def Aa(a:Ad):rH:=λds M Q=>Dn λA V=>ds=[.ref A.b]/\pS a M A V/\∀M',qX A M A M'->pS a M' A {V with t:=V.t+1,calls:=V.calls.map pL.tick}->Q .mM M'
def wZ(a:Ad):rH:=λds M Q=>BO λb A V e=>ds=[.ref b,Ev.d e]/\A.b=b/\pS a M A V/\Yj V/\e.ok V/\∀M' A',A'.b=A.b->qX A M A' M'->pS a M' A' (ql V e)->Q .mM M'
noncomputable def UD(m k:Nat):D->D
 | .tup (.int i::r)=>if i=(m:Int)then .tup (.int (k:Nat)::r)else .tup (.int i::r)
 | d=>d
def Ts(m k:Nat)(v:sX):UD m k v.d=(v.to m k).d:=by
 show(if ((v.i:Nat):Int)=(m:Int)then _ else _)=_;unfold sX.to;by_cases h:v.i=m
 .rw[de h,de (by rw[h])];rfl
 .rw[cY h,cY (by lia)];rfl
def IT:Fq P w K mg base 1 a.bD (Bx a):=by
 refine fq G.bD.toDG AS (λr u=>⟨_,(pG (pX (rB (pN v0) (qv Y1)))
 (pH (pX (rB (pN (pT (pN v0) (pT Y1 pJ))) (qv (pT Y1 pJ)))))),?_⟩)
 rintro ds M Q ⟨A,V,k,c,v,rfl,ci,l1,l2,q⟩
 have hz:=dM;have bd:=ci.bd;refine pI bd.at_ (pF Z' ⟨by show(oP M A.le).isSome=Db;rw[bd.le];rfl,pF bd.le ⟨by rw[cT];lia,?_⟩⟩);obtain⟨b1,s1⟩:=bd.oO (es:=V.mW++[v]);rw[dF]at b1 s1;have b1:pS a (pQ M A.le (.lst (V.mW.map sX.d++[v.d]))) A {V with mW:=V.mW++[v]}:=b1;have s1:qX A M A (pQ M A.le (.lst (V.mW.map sX.d++[v.d]))):=s1;generalize pQ M A.le (.lst (V.mW.map sX.d++[v.d]))=M1 at b1 s1 ⊢;obtain⟨ad,md,h1,h2,h3,h4,n1,n2⟩:=b1.cs v.i k c ci.e1 ci.e2;refine pI b1.at_ (pF Z' (pF b1.ca (pF (rO ci.e1) (pI h1 (pF Z' ⟨by show(oP M1 k.wy).isSome=Db;rw[h2];rfl,pF h2 ⟨by rw[cT];lia,?_⟩⟩)))));obtain⟨b2,s2⟩:=b1.oN (ws:=c.way++[v.g]) ci.e1 ci.e2;rw[dF]at b2 s2;exact⟨_,.refl,q _ (s1.trans s2) b2⟩
def Pk:Fq P w K mg base 2 a.bE (D0 a):=by
 refine fq G.bE.toDG yu (λr u=>⟨_,(pG (pX (pP (JV G) r G.af (so (pT (pN v0) Y1) pK)))
 (pG (qw v0 (qP Z' (xN (ix:=[Fa,ga 1,ga 2]) (N':=["leg","merged","kept"])) (qV (pN v0)) (qD 0) rX (So (pR u (pT v0 pJ) Y1) (qk (pY (qv Y2)) (tI v0 (uo pJ) uq)) v0)))
 (pG (pW 4 yu (pT (pN v0) Y2))
 (pH (qw v4 (qe rW Z' G.l rT (qv Y3))))))),?_⟩)
 rintro ds M Q ⟨A,V,i,j,ki,ci,cj,ms,rfl,hi,hj,ZN,l1,q⟩
 have hz:=dM;refine pI hi.bd.at_ (pF Z' (pF Z' (pF hi.bd.ca (pF (rO hi.e1) ⟨A,V,i,ki,ci,"merged",Z',hi,λM1 s1 b1=>?_⟩))));have hj1:(zE V i (ci.over "merged")).calls[j]?=ga cj:=by show(V.calls.set i _)[j]?=_;rw[fD ZN];exact hj
 have le1:oP M1 A.le=ga (V.mW.map sX.d):=b1.le;refine pI b1.at_ (pF Z' (pF le1 (rS (f:=UD i j) le1 _ [] _ (by rw[cT];simp only[dH];lia) (λd hd k hk=>?_) λp hp=>?_)))
 .obtain⟨v,_,rfl⟩:=dE.mp hd;refine pF Z' ?_;have hk:k (if ((v.i:Nat):Int)=(i:Int)then .tup [.int (j:Nat),.str v.f,.str v.g,.str v.y]else .tup [.int (v.i:Nat),.str v.f,.str v.g,.str v.y]) M1:=hk;refine qT (c:=((v.i:Nat):Int)==(i:Nat)) (λz=>?_) (λz=>?_)
  .rw[de (xz z)]at hk;exact⟨pD Z',fu _ _,by show 1+3<=Ch;lia,hk⟩
  .rw[cY (λy=>z (by rw[y];exact eN _))]at hk;exact hk
 have em:[]++(V.mW.map sX.d).map (UD i j)=(V.mW.map (sX.to i j)).map sX.d:=by rw[d9,d6,d6];exact gw λv _=>Ts i j v
 rw[em];obtain⟨b2,s2⟩:=b1.oU (es:=V.mW.map (sX.to i j)) hp;have t:=qN.new (c:=.lst ((V.mW.map (sX.to i j)).map sX.d)) hp;refine pI (t _ _ b1.at_) ⟨(G.E "legs" Z'),by show 8<1000;decide,?_⟩;show vb _ _ _ _ (pQ (pQ M1 p (.lst ((V.mW.map (sX.to i j)).map sX.d))) A.b (.ins a.c (uz (.ref V.p) V.h V.t A.ca p A.nx A.on A.lo)));have b2:pS a (pQ (pQ M1 p (.lst ((V.mW.map (sX.to i j)).map sX.d))) A.b (.ins a.c (uz (.ref V.p) V.h V.t A.ca p A.nx A.on A.lo))) {A with le:=p} {zE V i (ci.over "merged")with mW:=V.mW.map (sX.to i j)}:=b2;have s2:qX A M1 {A with le:=p} (pQ (pQ M1 p (.lst ((V.mW.map (sX.to i j)).map sX.d))) A.b (.ins a.c (uz (.ref V.p) V.h V.t A.ca p A.nx A.on A.lo))):=s2;generalize pQ (pQ M1 p (.lst ((V.mW.map (sX.to i j)).map sX.d))) A.b (.ins a.c (uz (.ref V.p) V.h V.t A.ca p A.nx A.on A.lo))=M2 at b2 s2 ⊢;have hjk:j<A.cs.length:=by rw[hi.bd.len];exact(cX.mp hj).1
 have ej:A.cs[j]?=ga A.cs[j]:=cV hjk;generalize A.cs[j]=kj at ej;have cj2:CI a M2 {A with le:=p} _ j kj cj:=⟨b2,ej,hj1⟩;refine pI b2.at_ (pF Z' (pF Z' (pF b2.ca (pF (rO ej) ?_))));refine λr hr0=>?_;obtain⟨M3,e0,t3,lr⟩:=tL (ds:=ms.map D.str) hr0;rw[<-e0];have nr:=b2.nj hr0;have cj3:=cj2.sub t3;obtain⟨ad,md,h1,h2,h3,h4,n1,n2⟩:=cj3.cell;refine pI h1 ⟨(G.j "members" Z'),by show 8<1000;decide,_,.refl,?_⟩;obtain⟨g5,s5⟩:=cj3.put (cj.mem ms) Z' h3 lr n1 nr;exact q _ {A with le:=p} Z' (s1.trans (s2.trans ((qX.sub t3).trans s5))) g5.bd
def EW:Fq P w K mg base 1 a.bF (Aa a):=by
 refine fq G.bF.toDG vQ (λr u=>⟨_,(pG (Es v0 pJ)
 (pH (vg fi Z' (qV (pN v0)) (sF 1 vQ)
 (pH (qa (pR u (pN Y1) pK)
 (pH (Es Y1 pJ))
 pV))))),?_⟩)
 rintro ds M Q ⟨A,V,rfl,bd,q⟩
 refine pI bd.at_ ⟨(G.E "turn" Z'),pF Z' (pF Z' (pI bd.at_ ⟨Z',by show 8<1000;decide,?_⟩))⟩;obtain⟨b1,s1⟩:=bd.putT (t:=V.t+1);rw[show wW "turn" (.int (V.t+1)) (uz (.ref V.p) V.h V.t A.ca A.le A.nx A.on A.lo)=uz (.ref V.p) V.h (V.t+1) A.ca A.le A.nx A.on A.lo from rfl];generalize pQ M A.b (.ins a.c (uz (.ref V.p) V.h (V.t+1) A.ca A.le A.nx A.on A.lo))=M1 at b1 s1 ⊢;refine pI b1.at_ (pF Z' (pF b1.ca ?_));refine wY (A.cs.map λk=>D.ref k.p) (λpre U M'=>pS a M' A {V with t:=V.t+1,calls:=(V.calls.take pre.length).map pL.tick++V.calls.drop pre.length}/\qX A M A M'/\∃y,U=[ga (.ref A.b),y]) (λ_ _ M' j=>j.1.ca) _ [] _ _ Z' ⟨b1,s1,Fa,Z'⟩ ?_ ?_
 .rintro pre d post e U M' ⟨b2,s2,y,rfl⟩ nx YU
  have hd:(A.cs.map λk=>D.ref k.p)[pre.length]?=ga d:=by rw[<-e];simp
  rw[dv]at hd;cases ek:A.cs[pre.length]? with
  | none=>rw[ek]at hd;cases hd
  | some k=>
   rw[ek]at hd;have hd:D.ref k.p=d:=df hd;subst hd;have hi:pre.length<V.calls.length:=by rw[<-bd.len];exact(cX.mp ek).1
   have ec:V.calls[pre.length]?=ga V.calls[pre.length]:=cV hi;have ed:V.calls.drop pre.length=V.calls[pre.length]::V.calls.drop (pre.length+1):=iq hi;have et:V.calls.take (pre.length+1)=V.calls.take pre.length++[V.calls[pre.length]]:=by rw[fX,ec];rfl
   generalize V.calls[pre.length]=c at ec ed et;have hl:((V.calls.take pre.length).map pL.tick).length=pre.length:=by rw[cT,fg];lia
   have ec2:((V.calls.take pre.length).map pL.tick++V.calls.drop pre.length)[pre.length]?=ga c:=by rw[eX (by rw[hl];exact dq _),hl,ie,ed];rfl
   rw[cW,dD,et]at YU;have en:((V.calls.take pre.length).map pL.tick++V.calls.drop pre.length).set pre.length c.tick=(V.calls.take pre.length++[c]).map pL.tick++V.calls.drop (pre.length+1):=by rw[ko _ _ (by rw[hl];exact dq _),hl,ie,ed,dF,fh];rfl
   have ci:CI a M' A _ pre.length k c:=⟨b2,ek,ec2⟩;obtain⟨ad,md,h1,h2,h3,h4,n1,n2⟩:=ci.cell;refine pI h1 (pF Z' ?_);have ht:c.tick=if (c.st=="rings")=Db then{c with si:=c.si+1}else c:=rfl;refine qT (c:=c.st=="rings") (λg=>?_) (λg=>?_)
   .rw[de g]at ht;refine pI h1 ⟨(G.j "since" Z'),pF Z' (pF Z' (pI h1 ⟨Z',by show 8<1000;decide,?_⟩))⟩;obtain⟨g5,s5⟩:=ci.put c.tick (by rw[ht]) (by rw[ht];exact h3) (by rw[ht];exact h4) n1 n2;have b5:=g5.bd;unfold zE at b5;rw[en]at b5;rw[ht]at b5 s5;exact YU _ _ ⟨b5,s2.trans s5,_,Z'⟩
   .rw[cY g]at ht;rw[ht,HS ec2]at en;rw[en]at b2;exact YU _ _ ⟨b2,s2,_,Z'⟩
 .rintro U M' ⟨b2,s2,y,rfl⟩
  rw[cT,bd.len,eM,jM,eG]at b2;exact⟨M',.refl,q M' s2 b2⟩
def rF:Fq P w K mg base 3 a.k (wZ a):=by
 refine fq G.k.toDG yj (λr u=>⟨_,(pG (pX (rB (pN v0) (qv Y1)))
 (pG (pW 2 yj (pT Y1 pJ))
 (pH (qa (pR u Y2 pK)
 (pH (pX (rB (pN v0) (qv (uY (Qg G) r G.e G.ck G.ay.toDG (qv (pT Y1 pJ)))))))
 (pH (qa (pR u Y2 pK)
 (pH (pX (qm v0 G.c.toCls G.bD (IT G) r (qv (tI Y1 (uo pJ) uq)))))
 (pH (qa (pR u Y2 pK)
 (pH (PV u (pN v0) (pT Y1 pJ) (pT Y1 pJ)))
 (pH (qa (pR u Y2 pK)
 (pH (pX (qm v0 G.c.toCls G.bE (Pk G) r (rG (pT Y1 pJ) (pT Y1 pJ) (pT Y1 pJ)))))
 (pH (qa (pR u Y2 pK)
 (pH (pX (wz v0 G.c.toCls G.bF (EW G) r)))
 (pH (qa (pR u Y2 (pY (so pK pK)))
 (pH (UJ (qy u Y2 pK) (Tb (pN v0) (pT Y1 pJ))))
 (pH (qa (pR u Y2 pK)
 (pH (pX (pP (LC G) r G.aV (so (pT (pN v0) (pT Y1 pJ)) Y1))))
 pV)))))))))))))))),?_⟩)
 rintro ds M Q ⟨_,A,V,e,rfl,rfl,bd,lim,ev,q⟩
 have hz:=dM;have ll:=lim.lo;have lc:=lim.ca;have lp:=lim.ps;refine pI bd.at_ (pF Z' ⟨by show(oP M A.lo).isSome=Db;rw[bd.lo];rfl,pF bd.lo ⟨by rw[cT];lia,?_⟩⟩);have hb:=bd.oM (es:=V.log++[e]);rw[dF]at hb;obtain⟨b1,s1⟩:pS a (pQ M A.lo (.lst (V.log.map Ev.d++[e.d]))) A (qZ V e)/\qX A M A (pQ M A.lo (.lst (V.log.map Ev.d++[e.d]))):=hb;show vb _ _ _ _ (pQ M A.lo (.lst (V.log.map Ev.d++[e.d])));generalize pQ M A.lo (.lst (V.log.map Ev.d++[e.d]))=M1 at b1 s1 ⊢;have kat:∀i,i<V.calls.length->∃k c,A.cs[i]?=ga k/\V.calls[i]?=ga c/\c∈V.calls:=λi hi=>by
  have ZH:i<A.cs.length:=by rw[bd.len];exact hi
  exact⟨_,_,cV ZH,cV hi,gy hi⟩
 have chg:∀(i:Nat) (k:sf) (c:pL) (c':pL) (f:pL->pL),A.cs[i]?=ga k->V.calls[i]?=ga c->f c=c'->ql V e=yi (qZ V e) i f->∀(M2:Mp),qX A M1 A M2->pS a M2 A (zE (qZ V e) i c')->∃YQ,qN YQ M2/\Q .mM YQ:=λi k c c' f e1 e2 e3 e4 M2 s2 b2=>⟨M2,.refl,q M2 A Z' (s1.trans s2) (by
  rw[e4];unfold yi;rw[show(qZ V e).calls=V.calls from rfl,um e2,e3];exact b2)⟩
 cases e with
 | new n x=>refine pI b1.at_ (pF Z' ⟨by show(oP M1 A.ca).isSome=Db;rw[b1.ca];rfl,λp hp=>⟨p,x,Z',pZ,λM2 wy ad md kp z1 z2 z3 n1 n2 h1 h2 h3 h4=>⟨Z',?_⟩⟩⟩);have sp:=qN.new (c:=.ins a.e []) hp;have s2:qN M1 M2:=λy d hy=>kp y d (RW hy hp) (sp y d hy);refine pF (s2.lst b1.ca) ⟨by rw[cT,b1.len];show V.calls.length<Ch;lia,?_⟩;obtain⟨b3,s3⟩:=b1.ow s2 (c:=Am x) hp (sp.none z1) (sp.none z2) (sp.none z3) h1 h2 h3 h4 n1 n2;exact⟨_,.refl,q _ (A.add ⟨p,wy⟩) Z' (s1.trans s3) b3⟩
 | leg v=>obtain⟨k,c,ek,ec,hc⟩:=kat v.i ev;refine pI b1.at_ ⟨Z',_,⟨Z',Z'⟩,A,qZ V (.leg v),k,c,v,Z',⟨b1,ek,ec⟩,lim.le,(lim.cs c hc).1,λM2 s2 b2=>⟨M2,.refl,q M2 A Z' (s1.trans s2) ?_⟩⟩;show pS a M2 A {qZ V (.leg v)with mW:=V.mW++[v],calls:=V.calls.modify v.i (·.go v.g)};rw[um ec];exact b2
 | next z n=>refine pI b1.at_ (pF Z' (pF b1.nx ⟨by show(tZ V.ps).length<Ch;unfold tZ;rw[cT];lia,?_⟩));rw[IQ];obtain⟨b2,s2⟩:=b1.pb (ps:=Dq V.ps z n);exact⟨_,.refl,q _ A Z' (s1.trans s2) b2⟩
 | merge i j ms=>obtain⟨hi,hj,hij,_⟩:=ev;obtain⟨ki,ci,eki,eci,hci⟩:=kat i hi;obtain⟨kj,cj,ekj,ecj,hcj⟩:=kat j hj;refine pI b1.at_ ⟨Z',_,⟨Z',Z'⟩,A,qZ V (.merge i j ms),i,j,ki,ci,cj,ms,Z',⟨b1,eki,eci⟩,ecj,hij,lim.le,λM2 A2 eb s2 b2=>⟨M2,.refl,q M2 A2 eb (s1.trans s2) ?_⟩⟩;show pS a M2 A2 {qZ V (.merge i j ms)with calls:=(V.calls.modify i (·.over "merged")).modify j (·.mem ms),mW:=V.mW.map (sX.to i j)};rw[um eci,um (show(V.calls.set i _)[j]?=ga cj by rw[fD hij];exact ecj)];exact b2
 | asks i z ns=>exact⟨pD Z',Z',Z',M1,.refl,q M1 A Z' s1 b1⟩
 | turn=>exact pI b1.at_ ⟨Z',_,⟨Z',Z'⟩,A,qZ V .turn,Z',b1,λM2 s2 b2=>⟨M2,.refl,q M2 A Z' (s1.trans s2) b2⟩⟩
 | sw b i=>
  have hi:i<V.on.length:=ev;obtain⟨b2,s2⟩:=b1.pk (bs:=V.on.set i b);have es:(V.on.map D.bl).set i (.bl b)=(V.on.set i b).map D.bl:=(mz).symm;have ix:HV (V.on.map D.bl).length (i:Nat)=ga i:=by rw[cT];unfold HV;simp[hi]
  have YR:∃YQ,qN YQ (pQ M1 A.on (.lst ((V.on.map D.bl).set i (.bl b))))/\Q .mM YQ:=by rw[es];exact⟨_,.refl,q _ A Z' (s1.trans s2) b2⟩
  cases b with
  | true=>exact⟨pD Z',Z',Z',pI b1.at_ (pF Z' (pF b1.on (pF ix YR)))⟩
  | false=>exact⟨pD Z',Z',Z',pI b1.at_ (pF Z' (pF b1.on (pF ix YR)))⟩
 | rings i ps=>obtain⟨k,c,ek,ec,hc⟩:=kat i ev.1;exact⟨pD Z',Z',Z',pI b1.at_ (pF Z' (pF b1.ca (pF (rO ek) ⟨A,qZ V _,i,k,c,_,_,Z',⟨b1,ek,ec⟩,(lim.cs c hc).2.1,(lim.cs c hc).2.2,.rings ps,chg i k c _ _ ek ec Z' Z'⟩)))⟩
 | quiet i=>obtain⟨k,c,ek,ec,hc⟩:=kat i ev;exact⟨pD Z',Z',Z',pI b1.at_ (pF Z' (pF b1.ca (pF (rO ek) ⟨A,qZ V _,i,k,c,_,_,Z',⟨b1,ek,ec⟩,(lim.cs c hc).2.1,(lim.cs c hc).2.2,.quiet,chg i k c _ _ ek ec Z' Z'⟩)))⟩
 | waits i x=>obtain⟨k,c,ek,ec,hc⟩:=kat i ev;exact⟨pD Z',Z',Z',pI b1.at_ (pF Z' (pF b1.ca (pF (rO ek) ⟨A,qZ V _,i,k,c,_,_,Z',⟨b1,ek,ec⟩,(lim.cs c hc).2.1,(lim.cs c hc).2.2,.waits x,chg i k c _ _ ek ec Z' Z'⟩)))⟩
 | talks i ms=>obtain⟨k,c,ek,ec,hc⟩:=kat i ev.1;exact⟨pD Z',Z',Z',pI b1.at_ (pF Z' (pF b1.ca (pF (rO ek) ⟨A,qZ V _,i,k,c,_,_,Z',⟨b1,ek,ec⟩,(lim.cs c hc).2.1,(lim.cs c hc).2.2,.talks ms,chg i k c _ _ ek ec Z' Z'⟩)))⟩
 | held i x=>obtain⟨k,c,ek,ec,hc⟩:=kat i ev;exact⟨pD Z',Z',Z',pI b1.at_ (pF Z' (pF b1.ca (pF (rO ek) ⟨A,qZ V _,i,k,c,_,_,Z',⟨b1,ek,ec⟩,(lim.cs c hc).2.1,(lim.cs c hc).2.2,.held x,chg i k c _ _ ek ec Z' Z'⟩)))⟩
 | leaves i x=>obtain⟨k,c,ek,ec,hc⟩:=kat i ev;exact⟨pD Z',Z',Z',pI b1.at_ (pF Z' (pF b1.ca (pF (rO ek) ⟨A,qZ V _,i,k,c,_,_,Z',⟨b1,ek,ec⟩,(lim.cs c hc).2.1,(lim.cs c hc).2.2,.leaves x,chg i k c _ _ ek ec Z' Z'⟩)))⟩
 | over i w0=>obtain⟨k,c,ek,ec,hc⟩:=kat i ev;exact⟨pD Z',Z',Z',pI b1.at_ (pF Z' (pF b1.ca (pF (rO ek) ⟨A,qZ V _,i,k,c,_,_,Z',⟨b1,ek,ec⟩,(lim.cs c hc).2.1,(lim.cs c hc).2.2,.over w0,chg i k c _ _ ek ec Z' Z'⟩)))⟩
noncomputable def MM:QQQ:=["barred","ring","engaged","left","refused","done","merged"]
def Su(o:Bool)(c:pL):Prop:=(c.st="rings"/\c.ms=[]/\c.hd=Fa/\c.wd=Fa/\(o=Db->c.at_=[])/\(o=pc->c.at_≠[]))\/(o=pc/\((c.st="waits"/\c.ms=[]/\c.hd=Fa/\c.wd=Fa/\c.at_.length=1)\/(c.st="talks"/\(c.ms.length=2\/c.ms.length=3)/\c.hd=Fa/\c.wd=Fa/\c.at_=[])\/
 (∃x,c.st="held"/\c.ms.length=2/\c.hd=ga x/\x∈c.ms/\c.wd=Fa/\c.at_=[])\/(c.st="over"/\c.ms=[]/\c.hd=Fa/\c.at_=[]/\∃w∈MM,c.wd=ga w)))
structure wV(l:pM)(o:Bool)(c:pL):Prop where
 sh:Su o c
 cr:c.cr∈l.pn
 at_:∀x∈c.at_,x∈l.pn
 ms:∀x∈c.ms,x∈l.pn
 an:c.at_.Nodup
 mn:c.ms.Nodup
 ca:c.cr∉c.at_
 wy:c.way≠[]/\∀z∈c.way,z∈l.nm
def B5(c:pL)(x:Str):Prop:=c.m9 x=Db\/c.mT x=Db
structure AB(l:pM)(V:qu)(o:Option Nat):Prop where
 ok:∀(i:Nat) c,V.calls[i]?=ga c->wV l (o==ga i) c
 un:∀(i j:Nat) ci cj x,V.calls[i]?=ga ci->V.calls[j]?=ga cj->B5 ci x->B5 cj x->i=j
 ln:∀x∈l.pn,(vH V x:Int)<=xG l x
 wt:∀(i j:Nat) ci cj x,V.calls[i]?=ga ci->V.calls[j]?=ga cj->ci.mO x=Db->cj.mO x=Db->i=j
 nx:uW l V
abbrev WF(l:pM)(V:qu):Prop:=AB l V Fa
structure Sz(V:qu)(c n:Nat):Prop where
 lo:V.log.length<=n
 le:V.mW.length<=n
 ca:V.calls.length<=c
 ps:V.ps.length<=n
 cs:∀k∈V.calls,k.way.length<=n/\k.at_.length<=100/\k.ms.length<=100
def Sz.mono{V:qu}{c n c' n':Nat}(h:Sz V c n)(hc:c<=c')(hn:n<=n'):Sz V c' n':=⟨dZ h.lo hn,dZ h.le hn,dZ h.ca hc,dZ h.ps hn,λk hk=>⟨dZ (h.cs k hk).1 hn,(h.cs k hk).2⟩⟩
noncomputable def Ev.nw:Ev->Nat
 | .new _ _=>1
 | _=>0
def Om(ps:T0 (Str×Int))(z:Str)(n:Int):(Dq ps z n).length<=ps.length+1:=by
 unfold Dq;split
 .rw[cT];lia
 .rw[cW];exact dq _
def JE(ss:QQQ)(x:Str):(s8 ss x).length<=ss.length:=fL _ _
def FY{α:Type}{f:α->α}{l:List α}{i:Nat}{x:α}(h:x∈l.modify i f):x∈l\/∃y∈l,x=f y:=by
 cases e:l[i]? with
 | none=>rw[kN (by simpa using e)]at h;exact .inl h
 | some c=>
  rw[um e]at h;rcases List.mem_or_eq_of_mem_set h with g|g
  .exact .inl g
  .exact .inr ⟨c,fm e,g⟩
def Sz.step{V:qu}{c n:Nat}{e:Ev}(h:Sz V c n)(ok:e.ok V):Sz (ql V e) (c+e.nw) (n+1):=by
 have h1:Sz (qZ V e) c (n+1):=⟨by show(V.log++[e]).length<=n+1;rw[cW];exact ii h.lo,jv h.le,h.ca,jv h.ps,λk hk=>⟨jv (h.cs k hk).1,(h.cs k hk).2⟩⟩;have md:∀(i:Nat) (f:pL->pL),(∀k∈V.calls,(f k).way=k.way/\(f k).at_.length<=100/\(f k).ms.length<=100)->Sz (yi (qZ V e) i f) c (n+1):=λi f hf=>⟨h1.lo,h1.le,by show(V.calls.modify i f).length<=c;rw[gh];exact h.ca,h1.ps,λk hk=>by
  rcases FY hk with g|⟨y,hy,rfl⟩
  .exact h1.cs k g
  .obtain⟨a1,a2,a3⟩:=hf y hy;exact⟨by rw[a1];exact(h1.cs y hy).1,a2,a3⟩⟩
 cases e with
 | new m x=>
  refine⟨h1.lo,h1.le,by show(V.calls++[Am x]).length<=c+1;rw[cW];exact ii h.ca,h1.ps,λk hk=>?_⟩;rcases dG.mp hk with g|g
  .exact h1.cs k g
  .rw[cZ.mp g];exact⟨eK _,eK _,eK _⟩
 | leg v=>
  refine⟨h1.lo,by show(V.mW++[v]).length<=n+1;rw[cW];exact ii h.le,by show(V.calls.modify v.i _).length<=c;rw[gh];exact h.ca,h1.ps,λk hk=>?_⟩;rcases FY (l:=V.calls) hk with g|⟨y,hy,rfl⟩
  .exact h1.cs k g
  .exact⟨by show(y.way++[v.g]).length<=n+1;rw[cW];exact ii (h.cs y hy).1,(h.cs y hy).2⟩
 | asks i z ns=>exact h1
 | next z m=>exact⟨h1.lo,h1.le,h1.ca,dZ (Om _ _ _) (ii h.ps),h1.cs⟩
 | merge i j ms=>
  have m1:=md i (·.over "merged") λk hk=>⟨Z',eK _,eK _⟩;refine⟨h1.lo,by show(V.mW.map _).length<=n+1;rw[cT];exact h1.le,by show((V.calls.modify i _).modify j _).length<=c;rw[gh,gh];exact h.ca,h1.ps,λk hk=>?_⟩;rcases FY (l:=V.calls.modify i (·.over "merged")) hk with g|⟨y,hy,rfl⟩
  .exact m1.cs k g
  .exact⟨(m1.cs y hy).1,(m1.cs y hy).2.1,ok.2.2.2⟩
 | turn=>
  refine⟨h1.lo,h1.le,by show(V.calls.map pL.tick).length<=c;rw[cT];exact h.ca,h1.ps,λk hk=>?_⟩;obtain⟨y,hy,rfl⟩:=dE.mp hk;have e:y.tick.way=y.way/\y.tick.at_=y.at_/\y.tick.ms=y.ms:=by unfold pL.tick;split<;>exact⟨Z',Z',Z'⟩
  rw[e.1,e.2.1,e.2.2];exact h1.cs y hy
 | sw b i=>exact⟨h1.lo,h1.le,h1.ca,h1.ps,h1.cs⟩
 | rings i ps=>exact md i _ λk hk=>⟨Z',ok.2,(h.cs k hk).2.2⟩
 | quiet i=>exact md i _ λk hk=>⟨Z',eK _,(h.cs k hk).2.2⟩
 | waits i x=>exact md i _ λk hk=>⟨Z',by show 1<=100;decide,(h.cs k hk).2.2⟩
 | talks i ms=>exact md i _ λk hk=>⟨Z',eK _,ok.2⟩
 | held i x=>exact md i _ λk hk=>⟨Z',(h.cs k hk).2.1,(h.cs k hk).2.2⟩
 | leaves i x=>exact md i _ λk hk=>⟨Z',dZ (JE _ _) (h.cs k hk).2.1,dZ (JE _ _) (h.cs k hk).2.2⟩
 | over i w=>exact md i _ λk hk=>⟨Z',eK _,eK _⟩
def PD(V:qu)(e:Ev):(ql V e).fo=V.fo:=by cases e<;>rfl
def Tg(V:qu)(e:Ev):(ql V e).p=V.p/\(ql V e).h=V.h/\(ql V e).on.length=V.on.length:=by cases e<;>first|exact⟨Z',Z',Z'⟩|exact⟨Z',Z',io⟩
structure ui(a:Ad)(M0 M:Mp)(b:Uf)(A:tq)(V:qu)(l:pM)(c n:Nat):Prop where
 bd:pS a M A V
 og:rM a M0 V.p l
 s0:qN M0 M
 fr:∀x∈A.foot,M0 x=Fa
 b:A.b=b
 sz:Sz V c n
 ok:rb l
 on:V.on.length=l.mG.length
variable {M0:Mp}{b:Uf}{A':tq}{V':qu}{l:pM}{n:Nat}
section
variable {c:Nat}
def ui.at_(h:ui a M0 M b A V l c n):M b=ga (.ins a.c (uz (.ref V.p) V.h V.t A.ca A.le A.nx A.on A.lo)):=h.b ▸ h.bd.at_
def ui.sub(h:ui a M0 M b A V l c n)(s:qN M M'):ui a M0 M' b A V l c n:=⟨h.bd.sub s,h.og,h.s0.trans s,h.fr,h.b,h.sz,h.ok,h.on⟩
def ui.pl(h:ui a M0 M b A V l c n):rM a M V.p l:=h.og.sub h.s0
def ui.mono(h:ui a M0 M b A V l c n){c' n':Nat}(hc:c<=c')(hn:n<=n'):ui a M0 M b A V l c' n':=⟨h.bd,h.og,h.s0,h.fr,h.b,h.sz.mono hc hn,h.ok,h.on⟩
def ui.lim(h:ui a M0 M b A V l c n)(hc:c<=1000000)(hn:n<9000000):Yj V:=⟨iG h.sz.lo (by lia),iG h.sz.le (by lia),dZ h.sz.ca hc,iG h.sz.ps (by lia),λk hk=>⟨iG (h.sz.cs k hk).1 (by lia),(h.sz.cs k hk).2⟩⟩
def ui.rd(h:ui a M0 M b A V l c n)(hc:c<=1000000){o:Option Nat}(wf:AB l V o):Rd a M A V l:=⟨h.bd,dZ h.sz.ca hc,h.pl,h.ok,h.on,λk hk=>by
 obtain⟨i,hi,e⟩:=gP hk;exact⟨(wf.ok i k (by rw[cV hi,e])).ms,(h.sz.cs k hk).2.2⟩⟩
def ui.call(h:ui a M0 M b A V l c n){i:Nat}{v:pL}(e:V.calls[i]?=ga v):∃k,CI a M A V i k v:=by
 have hi:i<A.cs.length:=by rw[h.bd.len];exact(cX.mp e).1
 exact⟨A.cs[i],h.bd,cV hi,e⟩
def ui.after(h:ui a M0 M b A V l c n){e:Ev}(ok:e.ok V)(eb:A'.b=A.b)(st:qX A M A' M')(bd:pS a M' A' (ql V e)):ui a M0 M' b A' (ql V e) l (c+e.nw) (n+1):=by
 obtain⟨p1,p2,p3⟩:=Tg V e;refine⟨bd,p1 ▸ h.og,λx d hx=>st.1 x d (λz=>?_) (h.s0 x d hx),λx hx=>?_,eb.trans h.b,h.sz.step ok,h.ok,p3.trans h.on⟩
 .rw[h.fr x z]at hx;cases hx
 .rcases st.2.1 x hx with z|z
  .exact h.fr x z
  .exact h.s0.none z
end
def HU(l:pM)(V:qu)(c:Str):wn->Prop
 | .rings z ps=>z∈l.nm/\ps≠[]/\ps=yq l V c z
 | .breaks z=>∃x,x=c/\Jo l V x c z=Db
 | .waits z=>z∈l.pn/\z≠c/\Bm V z=pc
 | .ring ns=>ns≠[]
 | _=>True
def GB{V:qu}{c z:Str}:(∀x∈yq l V c z,x∈uV l V c z/\x∈l.mH z)/\(yq l V c z).length<=(l.mH z).length:=by
 have hr:∀x∈uV l V c z,x∈l.mH z:=λx hx=>(eY.mp hx).1;unfold yq;split
 .refine⟨λx hx=>?_,?_⟩
  .have hx:=(eY.mp (gm hx)).2;have hx:=rn.mp hx;exact⟨hx,hr x hx⟩
  .cases e:(vI (l.mH z) (zR V z)).filter λx=>hasS (uV l V c z) x with
   | nil=>exact eK _
   | cons y r=>
    have hy:y∈vI (l.mH z) (zR V z):=(eY.mp (by rw[e];exact dC)).1;have hy:y∈l.mH z:=by
     unfold vI at hy;rcases dG.mp hy with q|q
     .exact kA q
     .exact gm q
    rw[fg];have:=List.length_pos_of_mem hy;lia
 .exact⟨λx hx=>⟨hx,hr x hx⟩,fL _ _⟩
def RG{l:pM}{V:qu}{c z:Str}(hz:z∈l.nm):HU l V c (IG l V c z):=by
 unfold IG;split
 .trivial
 .rename_i x r e;exact⟨hz,fu _ _,e.symm⟩
structure yC(l:pM)(V:qu)(c:Str)(n:Nat)(st:sZ)(r:wn×sZ):Prop where
 e:HU l V c r.1
 len:r.2.length<=st.length+n
 nm:∀s∈r.2,s∈st\/s.1∈l.nm
 wy:∀ns,r.1=.ring ns->∀z∈ns,z∈l.nm
theorem Ac{V:qu}{c:Str}(ok:rb l):∀(n:Nat) (z:Str) (way:QQQ) (st:sZ),z∈l.nm->(∀x∈way,x∈l.nm)->yC l V c n st (ug l V c n z way st)
 | 0,z,way,st,_,_=>⟨trivial,dq _,λs hs=>.inl hs,λns h=>by cases h⟩
 | n+1,z,way,st,hz,hw=>by
  unfold ug;by_cases h:hasS way z=Db
  .rw[de h];refine⟨?_,by show st.length<=_;lia,λs hs=>.inl hs,λns e y hy=>?_⟩
   .have h1:way.findIdx (·==z)<way.length:=iO ⟨z,rn.mp h,eN z⟩;show way.drop _≠[];intro g;have:=eE List.length g;rw[gx]at this;simp only[dH]at this;lia
   .cases e;exact hw y (kA hy)
  rw[cY h];have sn:∀(fs:T0 Nat),∀s∈st++[(z,fs)],s∈st\/s.1∈l.nm:=λfs s hs=>by
   rcases dG.mp hs with g|g
   .exact .inl g
   .rw[cZ.mp g];exact .inr hz
  have sl:∀fs:T0 Nat,(st++[(z,fs)]).length=st.length+1:=λfs=>by rw[cW];rfl
  cases hf:xP l V c z with
  | nil=>refine⟨RG hz,by show(st++[(z,[])]).length<=_;rw[sl];lia,sn [],λns e=>?_⟩;have e:IG l V c z=.ring ns:=e;unfold IG at e;split at e<;>cases e
  | cons i r=>
   obtain⟨w,ew,Zm⟩:=BY (l:=l) (V:=V) (f:=wQ l V c z) (i:=i) (by show i∈xP l V c z;rw[hf];exact dC);dsimp only;rw[ew];dsimp only[Option.elim];have stop:∀e:wn,HU l V c e->(∀ns,e≠.ring ns)->yC l V c (n+1) st (e,st++[(z,i::r)]):=λe he Ze=>⟨he,by show(st++[(z,i::r)]).length<=_;rw[sl];lia,sn _,λns g=>absurd g (Ze ns)⟩
   have goes:∀y,GP z w.2=.inr y->yC l V c (n+1) st (ug l V c n y (way++[z]) (st++[(z,i::r)])):=λy hy=>by
    have hr:=Ac (V:=V) (c:=c) ok n y (way++[z]) (st++[(z,i::r)]) (CQ ok (qR ew) hy) λx hx=>by
     rcases dG.mp hx with g|g
     .exact hw x g
     .rw[cZ.mp g];exact hz
    refine⟨hr.e,by have:=hr.len;rw[sl]at this;lia,λs hs=>?_,hr.wy⟩;rcases hr.nm s hs with g|g
    .exact sn _ s g
    .exact .inr g
   cases hv:w.2 with
   | bar x ns=>exact stop _ trivial λns g=>by cases g
   | shut x ns=>exact stop _ trivial λns g=>by cases g
   | wait x=>
    rw[hv]at Zm;have hf2:(if (!(z==x)||(c==x))=Db then pc else yf l V c z&&!(Bm V z))=Db:=Zm;have hx:xZ l.pn x:=by have:=ok.wo w (qR ew);rw[hv]at this;exact this
    by_cases g:(!(z==x)||(c==x))=Db
    .rw[de g]at hf2;cases hf2
    rw[cY g]at hf2;simp only[gj,gI,ib,jw,dU]at g hf2;have ezx:=xz g.1;subst ezx;exact stop _ ⟨rn.mp hx,λy=>g.2 (by rw[y];exact eN _),hf2.2⟩ λns g=>by cases g
   | breaks x=>
    rw[hv]at Zm;refine stop _ ⟨x,?_,?_⟩ λns g=>by cases g
    .have Zm:Jo l V x c z=Db:=Zm;unfold Jo at Zm;by_cases g:(!(c==x)||(z==x))=Db
     .rw[de g]at Zm;cases Zm
     .simp only[gj,gI,ib,jw]at g;exact(xz g.1).symm
    .exact Zm
   | always x y=>exact goes y (by rw[hv];rfl)
   | night x y f m=>exact goes y (by rw[hv];rfl)
   | busy x y=>exact goes y (by rw[hv];rfl)
   | silent x y m=>exact goes y (by rw[hv];rfl)
def GC{V:qu}{x c z:Str}(h:Jo l V x c z=Db):∃j k,wJ V z=ga j/\V.calls[j]?=ga k/\k.st="talks"/\z∈k.ms/\k.ms.length=2/\z≠c:=by
 unfold Jo at h;by_cases g:(!(c==x)||(z==x))=Db
 .rw[de g]at h;cases h
 rw[cY g]at h;simp only[gj,gI,ib,jw]at g;by_cases g2:(!(hasS l.pn z)||!(yf l V c z))=Db
 .rw[de g2]at h;cases h
 rw[cY g2]at h;cases e:wJ V z with
 | none=>rw[e]at h;cases h
 | some j=>obtain⟨hj,ht,_⟩:=iM.mp e;rw[e]at h;have h:((V.calls[j]?).elim pc λk=>(k.ms.length==2)&&Il l x k.ms)=Db:=h;rw[cV hj]at h;have h:((V.calls[j].ms.length==2)&&Il l x V.calls[j].ms)=Db:=h;unfold pL.mU at ht;rw[dU]at h ht;refine⟨j,V.calls[j],Z',cV hj,xz ht.1,rn.mp ht.2,xz h.1,λy=>?_⟩;rw[y]at g;have:=xz g.1;rw[this,eN]at g;exact absurd Z' g.2
noncomputable def pL.bare(c:pL):pL:={c with way:=[]}
def uu(V V':qu):Prop:=V'.calls.map pL.bare=V.calls.map pL.bare
def uu.at_{V V':qu}(h:uu V V'){i:Nat}{c:pL}(e:V.calls[i]?=ga c):∃c',V'.calls[i]?=ga c'/\c'.bare=c.bare:=by
 have:=eE (·[i]?) h;simp only[dv,e]at this;cases e':V'.calls[i]? with
 | none=>rw[e']at this;cases this
 | some c'=>rw[e']at this;exact⟨c',Z',df this⟩
def Ao(f:pL->Bool)(hf:∀c,f c.bare=f c)(cs:List pL):(cs.map pL.bare).findIdx? f=cs.findIdx? f:=by rw[hU];congr 1;funext c;exact hf c
def uu.nI{V V':qu}(h:uu V V')(z:Str):wJ V' z=wJ V z:=by unfold wJ;rw[<-Ao _ (λ_=>rfl) V'.calls,h,Ao _ (λ_=>rfl)]
def uu.ends{V V':qu}(h:uu V V')(i:Nat)(e:wn):sY l V' i e=sY l V i e:=by
 cases e with
 | breaks z=>
  unfold sY;dsimp only;rw[h.nI];have key:∀j:Nat,(V'.calls[j]?).map pL.bare=(V.calls[j]?).map pL.bare:=λj=>by
   have:=eE (·[j]?) h
   simpa only [dv]using this
  have ki:=key i;cases wJ V z with
  | none=>rfl
  | some j=>
   have kj:=key j;cases e1:V.calls[i]? with
   | none=>rw[e1]at ki;rw[show V'.calls[i]?=Fa by cases q:V'.calls[i]? with|none=>rfl|some _=>rw[q]at ki;cases ki]
   | some c=>
    rw[e1]at ki;cases e2:V'.calls[i]? with
    | none=>rw[e2]at ki;cases ki
    | some c'=>
     rw[e2]at ki;have k1:c'.cr=c.cr:=by have kb:c'.bare=c.bare:=df ki;exact show c'.bare.cr=c.bare.cr by rw[kb]
     have k2:(V'.calls[j]?).elim [] pL.ms=(V.calls[j]?).elim [] pL.ms:=by
      cases e3:V.calls[j]? with
      | none=>rw[e3]at kj;rw[show V'.calls[j]?=Fa by cases q:V'.calls[j]? with|none=>rfl|some _=>rw[q]at kj;cases kj]
      | some d=>
       rw[e3]at kj;cases e4:V'.calls[j]? with
       | none=>rw[e4]at kj;cases kj
       | some d'=>rw[e4]at kj;exact show d'.bare.ms=d.bare.ms by rw[show d'.bare=d.bare from df kj]
     dsimp only;rw[k1,k2]
 | _=>rfl
def uu.trans{V V1 V2:qu}(h:uu V V1)(g:uu V1 V2):uu V V2:=Eq.trans g h
def zL(V:qu)(v:sX):uu V (ql V (.leg v)):=by
 show(V.calls.modify v.i (·.go v.g)).map pL.bare=V.calls.map pL.bare;cases e:V.calls[v.i]? with
 | none=>rw[kN (by simpa using e)]
 | some c=>rw[um e,mz,show(c.go v.g).bare=c.bare from rfl,HS (by rw[dv,e];rfl)]
def ER(V:qu)(i:Nat)(z:Str)(ns:T0 Nat):uu V (ql V (.asks i z ns)):=rfl
def uu.len{V V':qu}(h:uu V V'):V'.calls.length=V.calls.length:=by
 have:=eE List.length h
 rwa [cT,cT]at this
noncomputable def Hz:Option Str->sZ->Option Str
 | o,[]=>o
 | _,(z,_)::r=>Hz (ga z) r
noncomputable def Wf(i:Nat)(z:Str)(fs:T0 Nat):Option Str->T0 Ev
 | none=>[.asks i z fs]
 | some y=>[.leg ⟨i,y,z,y⟩,.asks i z fs]
theorem zd(i:Nat)(z:Str)(fs:T0 Nat):∀(st:sZ) (o:Option Str),rP i o (st++[(z,fs)])=rP i o st++Wf i z fs (Hz o st)
 | [],none=>rfl
 | [],ga _=>rfl
 | (y,gs)::r,none=>by show .asks i y gs::rP i (ga y) (r++[(z,fs)])=_;rw[zd i z fs r];rfl
 | (y,gs)::r,ga u=>by show .leg ⟨i,u,y,u⟩::.asks i y gs::rP i (ga y) (r++[(z,fs)])=_;rw[zd i z fs r];rfl
theorem De(z:Str)(fs:T0 Nat):∀(st:sZ) (o:Option Str),Hz o (st++[(z,fs)])=ga z
 | [],_=>rfl
 | _::r,_=>De z fs r _
theorem vO(i:Nat):∀(st:sZ) (o:Option Str) (V:qu),uu V (qO V (rP i o st))
 | [],_,V=>rfl
 | (y,gs)::r,Fa,V=>(ER V i y gs).trans (vO i r (ga y) _)
 | (y,gs)::r,ga u,V=>((zL V ⟨i,u,y,u⟩).trans (ER _ i y gs)).trans (vO i r (ga y) _)
def QF(a:Ad):rH:=λds M Q=>Nu λM0 b A V l c n i st r=>ds=[.ref b,.int ((i:Nat):Int),.ref r]/\ui a M0 M b A V l c n/\c<=1000000/\n<=8000000/\st.length<=100/\i<V.calls.length/\oP M r=ga (rN st)/\r∉A.foot/\∀M' A',ui a M0 M' b A' (qO V (rP i Fa st)) l c (n+2*st.length)->qX A M A' M'->Q .mM M'
def O5(a:Ad):rH:=λds M Q=>Nu λM0 b A V l c n i z ps=>ds=[.ref b,.int ((i:Nat):Int),.str z,names ps]/\ui a M0 M b A V l c n/\c<=1000000/\n<=8000000/\i<V.calls.length/\z∈l.nm/\ps≠[]/\(∀x∈ps,x∈l.mH z)/\ps.length<=100/\∀M' A',ui a M0 M' b A' (qO V (sY l V i (.rings z ps))) l c (n+2)->qX A M A' M'->Q .mM M'
def GM(l:pM)(V:qu)(i:Nat):wn->Prop
 | .rings z ps=>z∈l.nm/\ps≠[]/\(∀x∈ps,x∈l.mH z)/\ps.length<=100
 | .breaks z=>∃j k,wJ V z=ga j/\V.calls[j]?=ga k/\i≠j/\k.ms.length=2
 | _=>True
def NB(a:Ad):rH:=λds M Q=>WP λM0 b A V l c n i z=>ds=[.ref b,.int ((i:Nat):Int),.str z]/\ui a M0 M b A V l c n/\c<=1000000/\n<=8000000/\i<V.calls.length/\GM l V i (.breaks z)/\∀M' A',ui a M0 M' b A' (qO V (sY l V i (.breaks z))) l c (n+2)->qX A M A' M'->Q .mM M'
def JY(a:Ad):rH:=λds M Q=>WP λM0 b A V l c n i e=>ds=[.ref b,.int ((i:Nat):Int),wn.d e]/\ui a M0 M b A V l c n/\c<=1000000/\n<=8000000/\i<V.calls.length/\GM l V i e/\∀M' A',ui a M0 M' b A' (qO V (sY l V i e)) l c (n+2)->qX A M A' M'->Q .mM M'
def Rh(a:Ad):rH:=λds M Q=>WP λM0 b A V l c n i k=>ds=[.ref b,.int ((i:Nat):Int)]/\ui a M0 M b A V l c n/\c<=1000000/\n<=7000000/\AB l V (ga i)/\V.calls[i]?=ga k/\∀M' A',ui a M0 M' b A' (qO V (tV l V i)) l c (n+30)->qX A M A' M'->Q .mM M'
def Ob(a:Ad):rH:=λds M Q=>WP λM0 b A V l c n y z=>ds=[.ref b,.str y,.str z]/\ui a M0 M b A V l c n/\c<1000000/\n<=6000000/\AB l (qO V [.new V.calls.length y,.leg ⟨V.calls.length,y,z,y⟩]) (ga V.calls.length)/\∀M' A',ui a M0 M' b A' (qO V (yD l V y z)) l (c+1) (n+32)->qX A M A' M'->Q .mM M'
def Nd{st:sZ}{pre post:T0 D}{d:D}(e:pre++d::post=rN st):∃z fs,st[pre.length]?=ga (z,fs)/\d=.tup [.str z,yr fs]/\st.take (pre.length+1)=st.take pre.length++[(z,fs)]:=by
 have h:(rN st)[pre.length]?=ga d:=by rw[<-e];simp
 unfold rN at h;rw[dv]at h;cases q:st[pre.length]? with
 | none=>rw[q]at h;cases h
 | some s=>rw[q]at h;refine⟨s.1,s.2,Z',(df h).symm,?_⟩;rw[fX,q];rfl
noncomputable def Xn:Option Str->D
 | none=>.mM
 | some x=>.str x
def RM{ss:QQQ}{x:Str}(h:ss.getLast?=ga x):xn (ss.map D.str) (-1)=ga (.str x):=by
 have hp:0<ss.length:=by cases ss with|nil=>cases h|cons _ _=>exact mB _
 unfold xn;have e:HV (ss.map D.str).length (-1)=ga (ss.length - 1):=by
  rw[cT];unfold HV;have:¬((-1:Int)>=0):=by decide
  simp;lia
 rw[e];show(ss.map D.str)[ss.length - 1]?=_;rw[dv,<-jB,h];rfl
def MN(ds:T0 D):L3.vD ds Fa (ga (-1:Int))=ds.dropLast:=by
 unfold L3.vD;have e:HT.tT ds.length ds.length (ga (-1:Int))=ds.length - 1:=by show(if (-1:Int)<0 then((-1:Int)+(ds.length:Int)).toNat else min (-1:Int).toNat ds.length)=ds.length - 1;rw[de (by decide)];lia
 rw[e,HT.C7,kl,kX,List.dropLast_eq_take]
def Qi:Fq P w K mg base 4 a.a6 (QF a):=by
 refine fq G.a6.toDG uD (λr u=>⟨_,(pG (pW 3 uD sv)
 (pH (vg fi Z' (qV Y2) (uQ (n:=2) Z' (qC (sF 4 uD) (qC (sF 5 uD) tR)))
 (pG (qa (pR u Y3 sv)
 (pH (pX (qm v0 G.c.toCls G.k (rF G) r (qv (pY (qh pK (qh Y1 (rG Y3 v4 Y3))))))))
 pV)
 (pG (pX (qm v0 G.c.toCls G.k (rF G) r (qv (pY (qh pK (rG Y1 v4 v5))))))
 (pH (pW 3 uD v4))))))),?_⟩)
 rintro ds M Q ⟨M0,b,A,V,l,c,n,i,st,r,rfl,cu,hc,hn,Zd,hi,lr,nf,q⟩
 refine pF lr (wY (rN st) (λpre U M'=>(∃A',ui a M0 M' b A' (qO V (rP i Fa (st.take pre.length))) l c (n+2*pre.length)/\qX A M A' M')/\∃y4 y5,U=[ga (.ref b),ga (.int ((i:Nat):Int)),ga (.ref r),ga (Xn (Hz Fa (st.take pre.length))),y4,y5]) (λpre U M' j=>?_) _ [] _ _ Z' ⟨⟨A,cu,.refl⟩,Fa,Fa,Z'⟩ ?_ ?_)
 .obtain⟨⟨A',c1,Zq⟩,_⟩:=j;exact sj (Zq.1 r _ nf (qg lr))
 .rintro pre d post e U M' ⟨⟨A',c1,Zq⟩,y4,y5,rfl⟩ nx YU
  obtain⟨z,fs,es,rfl,et⟩:=Nd e;have hp:pre.length<100:=dP (cX.mp es).1 Zd;rw[cW,dD,et,zd,De]at YU;have len:∀es,uu V (qO V es)->i<(qO V es).calls.length:=λes h=>by rw[h.len];exact hi
  have hi1:=len _ (vO i (st.take pre.length) Fa V);generalize hV:qO V (rP i Fa (st.take pre.length))=V1 at c1 hi1;rw[r6,hV]at YU;refine⟨Z',?_⟩;dsimp only[rh,ye,Ck];have asks:∀(M2:Mp) (A2:tq) (V2:qu) (m:Nat) (y3:Option D),m<9000000->ui a M0 M2 b A2 V2 l c m->qX A M A2 M2->(∀M3 A3,ui a M0 M3 b A3 (ql V2 (.asks i z fs)) l c (m+1)->qX A M A3 M3->nx [ga (.ref b),ga (.int ((i:Nat):Int)),ga (.ref r),ga (.str z),ga (.str z),ga (yr fs)] M3)->AO (M2 b) λC fs'=>fs'.lookup ("apply":Str)=Fa/\∃sp,(C=a.c/\sp=wZ a)/\4<=Ch/\sp [.ref b,.tup [.str "asks",.int ((i:Nat):Int),.str z,yr fs]] M2 λ_ M3=>nx [ga (.ref b),ga (.int ((i:Nat):Int)),ga (.ref r),ga (.str z),ga (.str z),ga (yr fs)] M3:=λM2 A2 V2 m y3 hm c2 s2 k=>pI c2.at_ ⟨Z',_,⟨Z',Z'⟩,by rw[dM];decide,b,A2,V2,.asks i z fs,Z',c2.b,c2.bd,c2.lim hc hm,trivial,λM3 A3 eb s3 bd=>k M3 A3 (c2.after trivial eb s3 bd) (s2.trans s3)⟩;cases hl:Hz Fa (st.take pre.length)with
  | none=>rw[hl]at YU;refine asks M' A' V1 _ Fa (by lia) c1 Zq λM3 A3 c3 s3=>YU _ _ ⟨⟨A3,c3.mono (dq _) (by lia),s3⟩,_,_,Z'⟩
  | some y=>rw[hl]at YU;refine pI c1.at_ ⟨Z',_,⟨Z',Z'⟩,pD Z',b,A',V1,.leg ⟨i,y,z,y⟩,Z',c1.b,c1.bd,c1.lim hc (by lia),hi1,λM2 A2 eb s2 bd=>?_⟩;have c2:=c1.after (e:=.leg ⟨i,y,z,y⟩) hi1 eb s2 bd;refine asks M2 A2 _ _ Fa (by lia) c2 (Zq.trans s2) λM3 A3 c3 s3=>YU _ _ ⟨⟨A3,c3.mono (dq _) (by lia),s3⟩,_,_,Z'⟩
 .rintro U M' ⟨⟨A',c1,Zq⟩,_⟩
  have hl:(rN st).length=st.length:=by unfold rN;rw[cT]
  rw[hl,eM]at c1;exact⟨M',.refl,q M' A' c1 Zq⟩
def OH:Fq P w K mg base 4 a.a7 (O5 a):=by
 refine fq G.a7.toDG vm (λr u=>⟨_,(pG (qa (pR u (qm (pN v0) G.h.toCls G.aP (yt G) r (qv Y2)) pK)
 (pG (pW 4 vm (qm (pN v0) G.h.toCls G.ab (uS G) r (qv Y2)))
 (pG (pW 5 vm (qk (qk (wG v4 (qv (pT Y3 pJ))) pJ) (qc qJ Z' G.g qG (qv v4))))
 (pH (pX (qm v0 G.c.toCls G.k (rF G) r (qv (pY (rG pK Y2 v5))))))))
 pV)
 (pH (pX (qm v0 G.c.toCls G.k (rF G) r (qv (pY (rG pK Y1 Y3))))))),?_⟩)
 rintro ds M Q ⟨M0,b,A,V,l,c,n,i,z,ps,rfl,cu,hc,hn,hi,hz,Ze,hm,hps,q⟩
 obtain⟨ph,gr,ws,pon,pr,gd,rs,i1,_⟩:=cu.pl;have pl:=cu.pl;obtain⟨x,ps',rfl⟩:=gg Ze;obtain⟨⟨pne,_⟩,_⟩:=cu.ok.of hz;refine WG (t:=SR _ _ _) (λU M'=>(∃A',ui a M0 M' b A' (qO V (if (l.mP z=="turns")=Db then[.next z (RI (l.mH z) x)]else[])) l c (n+1)/\qX A M A' M')/\∃y1 y2,U=[ga (.ref b),ga (.int ((i:Nat):Int)),ga (.str z),ga (names (x::ps')),y1,y2]) (λnx h=>?_) ?_
 .refine pI cu.at_ (pF Z' (pI i1 ⟨Z',_,⟨Z',Z'⟩,V.p,z,l,Z',pl,?_⟩));refine qT (c:=l.mP z=="turns") (λg=>?_) (λg=>?_)
  .rw[de g]at h;refine pI cu.at_ (pF Z' (pI i1 ⟨Z',_,⟨Z',Z'⟩,V.p,z,l,Z',pl,λp hp=>?_⟩));obtain⟨M1,e0,t,lp⟩:=tL (ds:=(l.mH z).map D.str) hp;rw[<-e0];have cu':=cu.sub t;have st0:qX A M A M1:=.sub t;have ej:=Gq x (l.mH z) (hm x dC);have lpos:0<(l.mH z).length:=fv.mpr pne;have el:(((l.mH z).map D.str).length:Int)=(l.mH z).length:=by rw[cT]
   refine⟨by show(oP M1 p).isSome=Db;rw[lp];rfl,pF (yX _ _) (pF lp ⟨Z',qH _,pF ej (pF lp ⟨by rw[el];lia,?_⟩)⟩)⟩;rw[el];refine pI cu'.at_ ⟨Z',_,⟨Z',Z'⟩,pD Z',b,A,V,.next z (RI (l.mH z) x),Z',cu'.b,cu'.bd,cu'.lim hc (by lia),trivial,λM2 A2 eb st Z2=>?_⟩;exact h _ _ ⟨⟨A2,cu'.after (e:=.next z (RI (l.mH z) x)) trivial eb st Z2,st0.trans st⟩,_,_,Z'⟩
  .rw[cY g]at h;exact h _ _ ⟨⟨A,cu.mono (dq _) (by lia),.refl⟩,_,_,Z'⟩
 rintro U M1 ⟨⟨A1,c1,Zq⟩,y1,y2,rfl⟩
 have q:∀M' A',ui a M0 M' b A' (qO V ((if (l.mP z=="turns")=Db then[.next z (RI (l.mH z) x)]else[])++[.rings i (x::ps')])) l c (n+2)->qX A M A' M'->Q .mM M':=q;rw[r6]at q;have hi1:i<(qO V (if (l.mP z=="turns")=Db then[.next z (RI (l.mH z) x)]else[])).calls.length:=by
  split
  .exact hi
  .exact hi
 generalize qO V (if (l.mP z=="turns")=Db then[.next z (RI (l.mH z) x)]else[])=V1 at c1 q hi1;refine pI c1.at_ ⟨Z',_,⟨Z',Z'⟩,pD Z',b,A1,V1,.rings i (x::ps'),Z',c1.b,c1.bd,c1.lim hc (by lia),⟨hi1,hps⟩,λM2 A2 eb Y4 Z2=>?_⟩;exact⟨M2,.refl,q M2 A2 (c1.after (e:=.rings i (x::ps')) ⟨hi1,hps⟩ eb Y4 Z2) (Zq.trans Y4)⟩
def NZ:Fq P w K mg base 4 a.a8 (NB a):=by
 refine fq G.a8.toDG ym (λr u=>⟨_,(pG (pW 3 ym (qm v0 G.c.toCls G.X (zB G) r (qv Y2)))
 (pG (pW 4 ym (qk (qe sT Z' G.z sS (qv (pN (pT (pN v0) Y3)))) (pY (qv (pN (pT (pN v0) Y1))))))
 (pH (pX (qm v0 G.c.toCls G.k (rF G) r (qv (pY (qh pK (rG Y1 Y3 v4))))))))),?_⟩)
 rintro ds M Q ⟨M0,b,A,V,l,c,n,i,z,rfl,cu,hc,hn,hi,⟨j,k,ej,ek,ZN,Z1⟩,q⟩
 have hz:=dM;have ei:V.calls[i]?=ga V.calls[i]:=cV hi;generalize V.calls[i]=ci at ei;obtain⟨ka,qi⟩:=cu.call ei;obtain⟨kb,qj⟩:=cu.call ek;obtain⟨ad,md,h1,h2,h3,h4,_⟩:=qi.cell;obtain⟨ad',md',g1,g2,g3,g4,_⟩:=qj.cell;have hee:sY l V i (.breaks z)=[.merge i j (k.ms++[ci.cr])]:=by unfold sY;dsimp only;rw[ej,ei];dsimp only;rw[ek];rfl
 rw[hee]at q;have ok:(Ev.merge i j (k.ms++[ci.cr])).ok V:=⟨hi,(cX.mp ek).1,ZN,by rw[cW,Z1];show 3<=100;decide⟩;refine pI cu.at_ ⟨Z',_,⟨Z',Z'⟩,A,V,z,by rw[cu.b],cu.bd,dZ cu.sz.ca hc,?_⟩;rw[show Bp V z=.int (j:Nat)from by unfold Bp;rw[ej];rfl];refine pI cu.at_ (pF Z' (pF Z' (pF cu.bd.ca (pF (rO qj.e1) (pI g1 (pF Z' (pF g4 ?_)))))));refine pI cu.at_ (pF Z' (pF Z' (pF cu.bd.ca (pF (rO qi.e1) (pI h1 (pF Z' ⟨pD Z',?_⟩))))));refine⟨(by intro y;rw[List.map_eq_nil_iff]at y;rw[y]at Z1;cases Z1),(by rw[cT,Z1];show 2+1<=Ch;lia),?_⟩;rw[show k.ms.map D.str++[D.str ci.cr]=(k.ms++[ci.cr]).map D.str by rw[dF];rfl];refine pI cu.at_ ⟨Z',_,⟨Z',Z'⟩,pD Z',b,A,V,.merge i j (k.ms++[ci.cr]),Z',cu.b,cu.bd,cu.lim hc (by lia),ok,λM2 A2 eb Y4 Z2=>?_⟩;exact⟨M2,.refl,q M2 A2 ((cu.after ok eb Y4 Z2).mono (dq _) (by lia)) Y4⟩
def Qm:Fq P w K mg base 5 a.a9 (JY a):=by
 refine fq G.a9.toDG yk (λr u=>⟨_,(pG (pW 3 yk (pT Y2 pJ))
 (pH (qa (pR u Y3 pK)
 (pH (pX (pP (OH G) r G.a7 (qh v0 (rG Y1 (pT Y2 pJ) (pT Y2 pJ))))))
 (pH (qa (pR u Y3 pK)
 (pH (pX (qm v0 G.c.toCls G.k (rF G) r (qv (pY (rG pK Y1 (pT Y2 pJ)))))))
 (pH (qa (pR u Y3 pK)
 (pH (pX (pP (NZ G) r G.a8 (rG v0 Y1 (pT Y2 pJ)))))
 (pH (pX (qm v0 G.c.toCls G.k (rF G) r (qv (pY (rG pK Y1 Y3))))))))))))),?_⟩)
 rintro ds M Q ⟨M0,b,A,V,l,c,n,i,e,rfl,cu,hc,hn,hi,he,q⟩
 have one:∀(ev:Ev) (ok:ev.ok V),ev.nw=0->sY l V i e=[ev]->∀M2 A2,A2.b=A.b->qX A M A2 M2->pS a M2 A2 (ql V ev)->∃YQ,qN YQ M2/\Q .mM YQ:=λev ok h0 h1 M2 A2 eb Y4 Z2=>by rw[h1]at q;have c2:=cu.after ok eb Y4 Z2;rw[h0]at c2;exact⟨M2,.refl,q M2 A2 (c2.mono (dq _) (by lia)) Y4⟩
 cases e with
 | rings z ps=>exact⟨M0,b,A,V,l,c,n,i,z,ps,Z',cu,hc,hn,hi,he.1,he.2.1,he.2.2.1,he.2.2.2,λM' A' c1 st=>⟨M',.refl,q M' A' c1 st⟩⟩
 | waits z=>exact pI cu.at_ ⟨Z',_,⟨Z',Z'⟩,pD Z',b,A,V,.waits i z,Z',cu.b,cu.bd,cu.lim hc (by lia),hi,one (.waits i z) hi Z' Z'⟩
 | breaks z=>exact⟨M0,b,A,V,l,c,n,i,z,Z',cu,hc,hn,hi,he,λM' A' c1 st=>⟨M',.refl,q M' A' c1 st⟩⟩
 | engaged z=>exact pI cu.at_ ⟨Z',_,⟨Z',Z'⟩,pD Z',b,A,V,.over i "engaged",Z',cu.b,cu.bd,cu.lim hc (by lia),hi,one (.over i "engaged") hi Z' Z'⟩
 | barred=>exact pI cu.at_ ⟨Z',_,⟨Z',Z'⟩,pD Z',b,A,V,.over i "barred",Z',cu.b,cu.bd,cu.lim hc (by lia),hi,one (.over i "barred") hi Z' Z'⟩
 | ring ns=>exact pI cu.at_ ⟨Z',_,⟨Z',Z'⟩,pD Z',b,A,V,.over i "ring",Z',cu.b,cu.bd,cu.lim hc (by lia),hi,one (.over i "ring") hi Z' Z'⟩
def Ou{V:qu}{i:Nat}{k:pL}{e:wn}(ok:rb l)(wf:AB l V (ga i))(hk:V.calls[i]?=ga k)(h:HU l V k.cr e):GM l V i e:=by
 cases e with
 | rings z ps=>obtain⟨hz,Ze,rfl⟩:=h;have h1:=(GB (l:=l) (V:=V) (c:=k.cr) (z:=z));have h2:=(ok.of hz).1.2.1;exact⟨hz,Ze,λx hx=>(h1.1 x hx).2,by have:=h1.2;lia⟩
 | breaks z=>
  obtain⟨x,rfl,hb⟩:=h;obtain⟨j,d,e1,e2,e3,e4,e5,_⟩:=GC hb;refine⟨j,d,e1,e2,λy=>?_,e5⟩;subst y;rw[hk]at e2;cases e2;have sh:=(wf.ok i k hk).sh;rw[show(ga i==ga i)=Db from eN _]at sh;rcases sh with g|g
  .rw[g.1]at e3;exact absurd e3 (by decide)
  .cases g.1
 | _=>trivial
def J0:Fq P w K mg base 9 a.aj (Rh a):=by
 refine fq G.aj.toDG xi (λr u=>⟨_,(pG (pW 2 xi (pT (pN v0) Y1))
 (pG (pW 3 xi (pP (MF G) r G.a1 (qh v0 (rG (pN Y2) (pT (pN Y2) (F0 pJ)) (tI (pN Y2) uq (uo (F0 pJ)))))))
 (pG (pW 4 xi (pT Y3 pJ))
 (pG (pW 5 xi (pT Y3 pJ))
 (pG (pX (pP (Qi G) r G.a6 (rG v0 Y1 v5)))
 (pG (qa (W3.b3 (zb (pR u (pT v4 pJ) pK) (yG (pR u (qc qJ Z' G.g qG (qv v5)) pJ))))
 (pG (pW 6 xi (pT (pT v5 (F0 pJ)) pJ))
 (pH (pX (qm v0 G.c.toCls G.k (rF G) r (qv (pY (qh pK (qh Y1 (rG v6 (pT (pT v4 pJ) pJ) v6)))))))))
 pV)
 (pH (pX (pP (Qm G) r G.a9 (rG v0 Y1 v4)))))))))),?_⟩)
 rintro ds M Q ⟨M0,b,A,V,l,c,n,i,k,rfl,cu,hc,hn,wf,hk,q⟩
 obtain⟨ka,ci⟩:=cu.call hk;obtain⟨ad,md,h1,h2,h3,h4,n1,n2⟩:=ci.cell;have ZT:=wf.ok i k hk;have hi:=(cX.mp hk).1;obtain⟨z,hz⟩:∃z,k.way.getLast?=ga z:=by
  cases e:k.way.getLast? with
  | none=>exact absurd (gK.mp e) ZT.wy.1
  | some z=>exact⟨z,Z'⟩
 have ZS:z∈l.nm:=ZT.wy.2 z (iZ hz);have hdn:∀x∈k.way.dropLast,x∈l.nm:=λx hx=>ZT.wy.2 x (i9 _ hx);have hwl:=(cu.sz.cs k (qR hk)).1;have hev:tV l V i=rP i Fa (tX l V k.cr z k.way.dropLast).2++(uI i (tX l V k.cr z k.way.dropLast).2 (tX l V k.cr z k.way.dropLast).1++sY l V i (tX l V k.cr z k.way.dropLast).1):=by
  unfold tV;rw[hk];have:k.way.getLastD Str.empty=z:=by rw[iy,hz];rfl
  dsimp only[Option.elim];rw[this]
 rw[hev]at q;have ro:yC l V k.cr (l.nm.length+1) [] (tX l V k.cr z k.way.dropLast):=Ac cu.ok _ _ _ _ ZS hdn;have rl:=ro.len;have eo:=Ou cu.ok wf hk ro.e;have nl:l.nm.length<=11:=by have p8:=cu.ok.p8;have g3:=cu.ok.g3;unfold pM.nm pM.pn pM.gn;rw[cW,cT,cT];lia
 have re:=ro.e;refine WG (t:=HD _ _) (λU M'=>M=M'/\U=[ga (.ref b),ga (.int ((i:Nat):Int)),ga (.ref ka.p),Fa,Fa,Fa,Fa]) (λnx0 h=>pI cu.at_ (pF Z' (pF Z' (pF ci.bd.ca (pF (rO ci.e1) (h _ _ ⟨Z',Z'⟩)))))) ?_
 rintro U _ ⟨rfl,rfl⟩
 refine WG (t:=HD _ _) (λU M'=>qN M M'/\∃r,M r=Fa/\oP M' r=ga (rN (tX l V k.cr z k.way.dropLast).2)/\U=[ga (.ref b),ga (.int ((i:Nat):Int)),ga (.ref ka.p),ga (.tup [(tX l V k.cr z k.way.dropLast).1.d,.ref r]),Fa,Fa,Fa]) (λnx0 h=>?_) ?_
 .refine pI h1 (pF Z' (pI h1 (pF Z' (pF h2 (pF (RM hz) (pI h1 (pF Z' (pF h2 λp hp=>?_))))))));rw[show L3.vD (k.way.map D.str) Fa (ga (-1:Int))=k.way.dropLast.map D.str from(MN _).trans (List.map_dropLast).symm];have t:=qN.new (c:=.lst (k.way.dropLast.map D.str)) hp;have lp:=@pU M p (k.way.dropLast.map D.str);refine⟨A,V,l,k.cr,z,p,k.way.dropLast,by rw[cu.b],(cu.rd hc wf).sub t,ZS,wf.nx,lp,by rw[List.length_dropLast];lia,λr M' s hr lr=>?_⟩;exact h _ _ ⟨t.trans s,r,t.none hr,lr,Z'⟩
 rintro U M1 ⟨s1,r,hr,lr,rfl⟩
 generalize tX l V k.cr z k.way.dropLast=R at lr ro rl eo re q;obtain⟨e,st⟩:=R;have cu1:=cu.sub s1;have rl:st.length<=0+(l.nm.length+1):=rl;refine⟨M0,b,A,V,l,c,n,i,st,r,Z',cu1,hc,by lia,by lia,hi,lr,cu.bd.nU hr,λM2 A2 c2 Y4=>?_⟩;have same:=vO i st Fa V;have ZH:i<(qO V (rP i Fa st)).calls.length:=by rw[same.len];exact hi
 have lr2:oP M2 r=ga (rN st):=sj (Y4.1 r _ (cu.bd.nU hr) (qg lr));rw[r6,r6]at q;have hee:=λV' (h:uu V V')=>h.ends (l:=l) i e;have hat:∀V',uu V V'->GM l V' i e:=λV' h=>by
  cases e with
  | breaks z'=>obtain⟨j,d,a1,a2,a3,a4⟩:=eo;obtain⟨d',b1,b2⟩:=h.at_ a2;exact⟨j,d',by rw[h.nI];exact a1,b1,a3,by rw[show d'.ms=d.ms from show d'.bare.ms=d.bare.ms by rw[b2]];exact a4⟩
  | rings _ _=>exact eo
  | _=>trivial
 generalize qO V (rP i Fa st)=V2 at c2 ZH same q;have ZU:∀(M3:Mp) (A3:tq) (V3:qu),ui a M0 M3 b A3 V3 l c (n+2*st.length+1)->qX A M A3 M3->uu V V3->i<V3.calls.length->V3=qO V2 (uI i st e)->JY a [.ref b,.int ((i:Nat):Int),e.d] M3 λ_ M'=>∃YQ,qN YQ M'/\Q .mM YQ:=λM3 A3 V3 c3 s3 ZV hi3 e3=>⟨M0,b,A3,V3,l,c,_,i,e,Z',c3,hc,by lia,hi3,hat V3 ZV,λM4 A4 c4 s4=>⟨M4,.refl,q M4 A4 (by
  rw[<-e3];rw[hee V3 ZV]at c4;exact c4.mono (dq _) (by lia)) (s3.trans s4)⟩⟩
 have c2':=c2.mono (dq c) (show n+2*st.length<=n+2*st.length+1 by lia);have st02:=(qX.sub s1 (A:=A)).trans Y4;cases e with
 | ring ns=>
  obtain⟨x,ns',rfl⟩:=gg (show ns≠[]from re);refine pF lr2 ?_;cases hl:st.getLast? with
  | none=>have:st=[]:=gK.mp hl;subst this;exact ZU M2 A2 V2 c2' st02 same ZH Z'
  | some s0=>
   have hpos:0<st.length:=by cases st with|nil=>cases hl|cons _ _=>exact mB _
   have hd:decide ((0:Int)<((rN st).length:Int))=Db:=dX (by unfold rN;rw[cT];lia);refine BA (c:=decide ((0:Int)<((rN st).length:Int))) hd ?_;have hat1:xn (rN st) (-1)=ga (.tup [.str s0.1,yr s0.2]):=by
    unfold xn;have e1:HV (rN st).length (-1)=ga (st.length - 1):=by unfold rN;rw[cT];unfold HV;simp;lia
    rw[e1];show(rN st)[st.length - 1]?=_;unfold rN;rw[dv,<-jB,hl];rfl
   have hrv:uI i st (.ring (x::ns'))=[.leg ⟨i,s0.1,x,s0.1⟩]:=by unfold uI;dsimp only;rw[hl];rfl
   rw[hrv]at ZU;refine pF lr2 (pF hat1 ?_);refine pI c2.at_ ⟨Z',_,⟨Z',Z'⟩,pF (yX _ _) ⟨pD Z',b,A2,V2,.leg ⟨i,s0.1,x,s0.1⟩,Z',c2.b,c2.bd,c2.lim hc (by lia),ZH,λM3 A3 eb ZJ bd3=>?_⟩⟩;have ZV:=same.trans (zL V2 ⟨i,s0.1,x,s0.1⟩);exact ZU M3 A3 _ (c2.after (e:=.leg ⟨i,s0.1,x,s0.1⟩) ZH eb ZJ bd3) (st02.trans ZJ) ZV (by rw[ZV.len];exact hi) Z'
 | rings z' ps=>exact ZU M2 A2 V2 c2' st02 same ZH Z'
 | waits z'=>exact ZU M2 A2 V2 c2' st02 same ZH Z'
 | breaks z'=>exact ZU M2 A2 V2 c2' st02 same ZH Z'
 | engaged z'=>exact ZU M2 A2 V2 c2' st02 same ZH Z'
 | barred=>exact ZU M2 A2 V2 c2' st02 same ZH Z'
def Ph:Fq P w K mg base 10 a.ba (Ob a):=by
 refine fq G.ba.toDG An (λr u=>⟨_,(pG (pW 3 An (qc qJ Z' G.g qG (qv (pN v0))))
 (pG (pX (qm v0 G.c.toCls G.k (rF G) r (qv (pY (rG pK Y3 Y1)))))
 (pG (pX (qm v0 G.c.toCls G.k (rF G) r (qv (pY (qh pK (qh Y3 (rG Y1 Y2 Y1)))))))
 (pH (pX (pP (J0 G) r G.aj (so v0 Y3))))))),?_⟩)
 rintro ds M Q ⟨M0,b,A,V,l,c,n,y,z,rfl,cu,hc,hn,wf,q⟩
 have lc:((A.cs.map λk=>D.ref k.p).length:Int)=(V.calls.length:Nat):=by rw[cT,cu.bd.len]
 refine pI cu.at_ (pF Z' (pF cu.bd.ca ?_));rw[lc];refine pI cu.at_ ⟨Z',_,⟨Z',Z'⟩,pD Z',b,A,V,.new V.calls.length y,Z',cu.b,cu.bd,cu.lim (by lia) (by lia),trivial,λM1 A1 eb1 Zq bd1=>?_⟩;have c1:=cu.after (e:=.new V.calls.length y) trivial eb1 Zq bd1;have ok2:(Ev.leg ⟨V.calls.length,y,z,y⟩).ok (ql V (.new V.calls.length y)):=by show V.calls.length<(V.calls++[Am y]).length;rw[cW];exact fO _
 refine pI c1.at_ ⟨Z',_,⟨Z',Z'⟩,pD Z',b,A1,_,.leg ⟨V.calls.length,y,z,y⟩,Z',c1.b,c1.bd,c1.lim (by show c+1<=_;lia) (by lia),ok2,λM2 A2 eb2 Y4 Z2=>?_⟩;have c2:=c1.after ok2 eb2 Y4 Z2;obtain⟨k,hk⟩:∃k,(qO V [.new V.calls.length y,.leg ⟨V.calls.length,y,z,y⟩]).calls[V.calls.length]?=ga k:=by
  have:V.calls.length<(qO V [.new V.calls.length y,.leg ⟨V.calls.length,y,z,y⟩]).calls.length:=by show V.calls.length<((V.calls++[Am y]).modify _ _).length;rw[gh];exact ok2
  exact⟨_,cV this⟩
 refine⟨M0,b,A2,_,l,c+1,n+2,V.calls.length,k,Z',c2,by lia,by lia,wf,hk,λM3 A3 c3 ZJ=>⟨M3,.refl,q M3 A3 ?_ (Zq.trans (Y4.trans ZJ))⟩⟩;unfold yD;rw[r6];exact c3.mono (dq _) (by lia)
def Fi(V:qu)(x:Str):D:=BV (vd V x)
abbrev Ek:=LO Fi
def Oq(a:Ad):rH:=λds M Q=>HX λA V l x z=>ds=[.ref A.b,.str x,.str z]/\Rd a M A V l/\x∈l.pn/\Q (BV (Ho l V x z)) M
inductive wH(a:Ad)(M:Mp)(L:QXQ):List sf->List pL->Prop
 | nil:wH a M L [] []
 | cons (k:sf) (c:pL) (ks:List sf) (cs:List pL) (h:sC a M L k c) (r:wH a M L ks cs):wH a M L (k::ks) (c::cs)
def qL.nf(w:Str)(m:Nat):Prop:=((w="answer"\/w="hang"\/w="hold"\/w="back")/\m=1)\/((w="hand"\/w="join")/\m=2)
def NN(a:Ad):rH:=λds M Q=>JT λwd x r L ks cs=>ds=[.str wd,.str x,.ref r]/\oP M r=ga (List.map (λk:sf=>D.ref k.p) ks)/\wH a M L ks cs/\qL.nf wd cs.length/\Q (.bl (Ky wd x cs)) M
def Kw(a:Ad):rH:=λds M Q=>JT λA V l wd x ns=>ds=[.ref A.b,.str wd,.str x,.tup (List.map D.int ns)]/\Rd a M A V l/\x∈l.pn/\qL.nf wd ns.length/\Q (BV (NU l V wd x ns)) M
def Ui(a:Ad):rH:=λds M Q=>BO λA V b i=>ds=[.ref A.b,.str (Vp b),.int i]/\pS a M A V/\Q (BV (Rq V b i)) M
def Jn(a:Ad):rH:=λds M Q=>BO λA V l e=>ds=[.ref A.b,qL.d e]/\Rd a M A V l/\e.mZ/\Q (BV (vv l V e)) M
def Ye(m:Nat):D->D
 | .int i=>.bl (z9 m i)
 | _=>.bl pc
noncomputable def Yi(A:tq):D->D
 | .int i=>(A.cs[i.toNat]?).elim .mM λk=>.ref k.p
 | _=>.mM
theorem Sy{V:qu}(bd:pS a M A V):∀{ns:T0 Int},ns.all (z9 V.calls.length)=Db->∃ks,wH a M (A.lists++V.fo) ks (uh V ns)/\(ns.map D.int).map (Yi A)=ks.map (λk:sf=>D.ref k.p)/\(uh V ns).length=ns.length/\∀i∈ns,∃k,0<=i/\A.cs[i.toNat]?=ga k
 | [],_=>⟨[],.nil,Z',Z',λi hi=>by cases hi⟩
 | i::r,h=>by
  rw[fG,dU]at h;obtain⟨ks,h1,h2,h3,h4⟩:=Sy bd h.2;have hh:(decide (0<=i)&&decide (i<V.calls.length))=Db:=h.1;rw[dU,eA,eA]at hh;have hi:i.toNat<V.calls.length:=by lia
  have hk:i.toNat<A.cs.length:=by rw[bd.len];exact hi
  have e1:A.cs[i.toNat]?=ga A.cs[i.toNat]:=cV hk;have e2:V.calls[i.toNat]?=ga V.calls[i.toNat]:=cV hi;have ec:uh V (i::r)=V.calls[i.toNat]::uh V r:=by unfold uh;rw[List.filterMap_cons_some (f:=λi:Int=>V.calls[i.toNat]?) e2]
  rw[ec];refine⟨A.cs[i.toNat]::ks,.cons _ _ _ _ (bd.cs _ _ _ e1 e2) h1,?_,eE Nat.succ h3,λj hj=>?_⟩
  .rw[dY,dY,h2];show(A.cs[i.toNat]?).elim _ _::_=_;rw[e1];rfl
  .rcases dg.mp hj with rfl|hj
   .exact⟨_,hh.1,e1⟩
   .exact h4 j hj
def wH.sub(h:wH a M L ks cs)(s:qN M M'):wH a M' L ks cs:=by
 induction h with
 | nil=>exact .nil
 | cons k c ks cs h r ih=>exact .cons k c ks cs (h.sub s) ih
def US{bs:T0 Bool}{i:Int}(h:z9 bs.length i=Db):xn (bs.map D.bl) i=ga (.bl (bs.getD i.toNat pc)):=by
 have hh:(decide (0<=i)&&decide (i<bs.length))=Db:=h;rw[dU,eA,eA]at hh;obtain⟨n,rfl⟩:=eB hh.1;have hn:n<bs.length:=by lia
 refine vo ?_;rw[dv,cV hn];show ga (D.bl bs[n])=ga (.bl (bs.getD n pc));rw[fB,cV hn];rfl
def Eh:Fq P w K mg base 4 a.ah (Ek a):=by
 refine fq G.ah.toDG zJ (λr u=>⟨_,(pG (qa (pR u (qm v0 G.c.toCls G.bG (Mm G) r (qv Y1)) sv)
 (pH (pO pK))
 pV)
 (pG (qa (pR u (qm v0 G.c.toCls G.bH (Jx G) r (qv Y1)) sv)
 (pH (pO pK))
 pV)
 (pH (pO sv)))),?_⟩)
 rintro ds M Q ⟨A,V,x,rfl,bd,hk,q⟩
 unfold Fi vd at q;refine pI bd.at_ ⟨Z',_,⟨Z',Z'⟩,A,V,x,Z',bd,hk,?_⟩;unfold O8;cases e:Fg V x with
 | some j=>rw[e]at q;exact⟨M,.refl,q⟩
 | none=>
  rw[e]at q;refine pI bd.at_ ⟨Z',_,⟨Z',Z'⟩,A,V,x,Z',bd,hk,?_⟩;unfold Wt;cases e:JX V x with
  | some j=>rw[e]at q;exact⟨M,.refl,q⟩
  | none=>rw[e]at q;exact⟨M,.refl,q⟩
def Oa:Fq P w K mg base 5 a.a2 (Oq a):=by
 refine fq G.a2.toDG xl (λr u=>⟨_,(pG (qa (pR u Y2 (wz (pN v0) G.h.toCls G.ap (yY G) r))
 (pH (pO pK))
 pV)
 (pG (pW 3 xl (pP (Eh G) r G.ah (so v0 Y1)))
 (pG (qa (W3.b3 (zb (pR u Y3 sv) (yG (zc (wb (qm v0 G.c.toCls G.Y (zq G) r (qv Y1)))))))
 (pH (pO pK))
 pV)
 (pH (pO Y3))))),?_⟩)
 rintro ds M Q ⟨A,V,l,x,z,rfl,rd,hx,q⟩
 obtain⟨ph,gr,ws,pon,pr,gd,rs,i1,_⟩:=rd.pl;have p8:=rd.ok.p8;have g3:=rd.ok.g3;unfold Ho at q;refine pI rd.bd.at_ (pF Z' (pI i1 ⟨Z',_,⟨Z',Z'⟩,V.p,l,Z',rd.pl,by lia,by lia,λp hp=>pF pU ⟨Z',qH _,?_⟩⟩));obtain⟨M1,e0,t,_⟩:=tL (ds:=l.nm.map D.str) hp;rw[<-e0];have Zr:=rd.sub t;show if (!(inD (.str z) (l.nm.map D.str)))=Db then _ else _
 rw[tD];refine qT (c:=!(hasS l.nm z)) (λg=>?_) (λg=>?_)
 .rw[de (by simpa using g)]at q;exact⟨M,t,q⟩
 rw[cY (by simpa using g)]at q;refine⟨A,V,x,Z',Zr.bd,Zr.k,?_⟩;unfold Fi;cases e:vd V x with
 | some w0=>rw[e]at q;exact⟨M,t,q⟩
 | none=>
  rw[e]at q;refine pI Zr.bd.at_ ⟨Z',_,⟨Z',Z'⟩,A,V,l,x,Z',Zr,hx,?_⟩;refine qT (c:=!(uF l V x)) (λg=>?_) (λg=>?_)
  .rw[g]at q;exact⟨M,t,q⟩
  .rw[show(!(uF l V x))=pc from dI.mpr g]at q;exact⟨M,t,q⟩
def Mj:Fq P w K mg base 3 a.a3 (NN a):=by
 refine fq G.a3.toDG Nf (λr u=>⟨_,(pG (qa (pR u v0 pK)
 (pH (pO (qy u Y1 (pN (pT Y2 pJ)))))
 pV)
 (pG (qa (pR u v0 pK)
 (pH (pO (qm (pT Y2 pJ) G.e.toCls G.bK (NM G) r (qv Y1))))
 pV)
 (pG (qa (pR u v0 pK)
 (pH (pO (qm (pT Y2 pJ) G.e.toCls G.aB (GW G) r (qv Y1))))
 pV)
 (pG (qa (pR u v0 pK)
 (pH (pO (qy u (pN (pT Y2 pJ)) Y1)))
 pV)
 (pH (pO (ue (qy u (pN (pT Y2 pJ)) Y1) (tM (qm (pT Y2 pJ) G.e.toCls G.aB (GW G) r (qv Y1)))))))))),?_⟩)
 rintro ds M Q ⟨wd,x,r,L,ks,cs,rfl,lr,hcs,hw,q⟩
 cases hcs with
 | nil=>rcases hw with⟨_,h⟩|⟨_,h⟩<;>cases h
 | cons k c ks cs hc Zw=>
 obtain⟨ad,md,h1,h2,h3,h4,_⟩:=id hc;have a0:=yX (.ref k.p) (ks.map λk:sf=>D.ref k.p);have hold:∀K:DK,K (.bl (c.hd==ga x)) M->Option.elim (we M 9 (BV c.hd) (.str x)) False λb=>K (.bl b) M:=λK hK=>by
  cases e:c.hd with
  | none=>rw[e]at hK;exact hK
  | some y=>rw[e]at hK;exact hK
 rcases hw with⟨rfl|rfl|rfl|rfl,h⟩|⟨hw,h⟩
 .exact pF lr (pF a0 (pI h1 (pF Z' (Eo h3 ⟨M,.refl,q⟩))))
 .exact pF lr (pF a0 (pI h1 ⟨Z',_,⟨Z',Z'⟩,L,k,c,x,Z',hc,M,.refl,q⟩))
 .exact pF lr (pF a0 (pI h1 ⟨Z',_,⟨Z',Z'⟩,L,k,c,x,Z',hc,M,.refl,q⟩))
 .exact pF lr (pF a0 (pI h1 (pF Z' (hold _ ⟨M,.refl,q⟩))))
 .cases Zw with
  | nil=>cases h
  | cons k' d ks cs hd _=>
   obtain⟨ad',md',f1,_⟩:=id hd;have a1:xn (.ref k.p::.ref k'.p::ks.map λk:sf=>D.ref k.p) 1=ga (.ref k'.p):=vo (j:=1) Z';have qq:Q (.bl ((c.hd==ga x)&&d.mV x)) M:=by
    rcases hw with rfl|rfl
    .exact q
    .exact q
   rcases hw with rfl|rfl
   all_goals
    refine pF lr (pF a0 (pI h1 (pF Z' ?_)));cases e:c.hd with
    | none=>rw[e]at qq;exact⟨M,.refl,qq⟩
    | some y=>
     rw[e]at qq;have qq:Q (.bl ((y==x)&&d.mV x)) M:=qq;refine qT (c:=y==x) (λg=>?_) (λg=>?_)
     .rw[g,eL]at qq;exact pF lr (pF a1 (pI f1 ⟨Z',_,⟨Z',Z'⟩,L,k',d,x,Z',hd,M,.refl,qq⟩))
     .rw[show(y==x)=pc from dI.mpr g,eU]at qq;exact⟨M,.refl,qq⟩
def Q3:Fq P w K mg base 5 a.a4 (Kw a):=by
 refine fq G.a4.toDG ux (λr u=>⟨_,(pG (qa (zc (wb (qc (FR Z') Z' G.bS Fs (qv (qP Z' (xN (ix:=[Fa,ga 0]) (N':=["number","board"])) (qV Y3) (qD 0) rX (uT u pJ v0 (qc qJ Z' G.g qG (qv (pN Y1)))))))))
 (pH (pO pK))
 pV)
 (pG (uM (i:=4) ux.nd Z' (Or.inl Z') Z' (xN (ix:=[Fa,ga 0]) (N':=["number","board"])) (qV Y3) (qD 0) rX (pT (pN Y1) v0))
 (pG (qa (zc (wb (pP (Mj G) r G.a3 (rG Y1 Y2 v4))))
 (pH (pO pK))
 pV)
 (pG (qa (pR u Y1 (pY (so pK pK)))
 (pH (pO sv))
 pV)
 (pG (pW 5 ux (pP (Eh G) r G.ah (so v0 Y2)))
 (pG (qa (W3.b3 (zb (pR u v5 sv) (zb (wb (qm (pT v4 pJ) G.e.toCls G.az (GJ G) r (qv Y2))) (yG (zc (wb (qm v0 G.c.toCls G.Y (zq G) r (qv Y2))))))))
 (pH (pO pK))
 pV)
 (pH (pO v5)))))))),?_⟩)
 rintro ds M Q ⟨A,V,l,wd,x,ns,rfl,rd,hx,hw,q⟩
 have hz:=dM;have hn2:ns.length<=2:=by rcases hw with⟨_,h⟩|⟨_,h⟩<;>lia
 have lca:((A.cs.map λk=>D.ref k.p).length:Int)=V.calls.length:=by rw[cT,rd.bd.len]
 unfold NU at q;refine rS (f:=Ye V.calls.length) trivial _ [] _ (by rw[cT];simp only[dH];lia) (λd hd k hk=>?_) λp hp=>?_
 .obtain⟨i,_,rfl⟩:=dE.mp hd;have hk:k (.bl (decide (0<=i)&&decide (i<V.calls.length))) M:=hk;refine qT (c:=decide (0<=i)) (λg=>?_) (λg=>?_)
  .rw[g,eL]at hk;refine pI rd.bd.at_ (pF Z' (pF rd.bd.ca ?_));rw[lca];exact hk
  .rw[show decide (0<=i)=pc from dI.mpr g,eU]at hk;exact hk
 have em:[]++(ns.map D.int).map (Ye V.calls.length)=ns.map λi=>D.bl (z9 V.calls.length i):=by rw[d9,d6];rfl
 rw[em];have t:=qN.new (c:=.lst (ns.map λi=>D.bl (z9 V.calls.length i))) hp;refine pF pU (pF (yK (z9 V.calls.length) ns) ?_);have Zr:=rd.sub t;generalize pQ M p (.lst (ns.map λi=>D.bl (z9 V.calls.length i)))=M1 at t Zr ⊢;rw[As];refine qT (c:=!(ns.all (z9 V.calls.length))) (λg=>?_) (λZQ=>?_)
 .rw[de (by simpa using g)]at q;exact⟨M,t,q⟩
 have ZQ:ns.all (z9 V.calls.length)=Db:=by simpa using ZQ
 rw[cY (by rw[ZQ];exact Bool.noConfusion)]at q;obtain⟨ks,hks,eks,lcs,hin⟩:=Sy Zr.bd ZQ;refine rS (f:=Yi A) trivial _ [] _ (by rw[cT];simp only[dH];lia) (λd hd k0 hk=>?_) λp2 YY=>?_
 .obtain⟨i,hi,rfl⟩:=dE.mp hd;obtain⟨k,i0,e1⟩:=hin i hi;obtain⟨n,rfl⟩:=eB i0;have e1:A.cs[n]?=ga k:=e1;have hk:k0 ((A.cs[n]?).elim .mM λk=>.ref k.p) M1:=hk;rw[e1]at hk;exact pI Zr.bd.at_ (pF Z' (pF Z' (pF Zr.bd.ca (pF (rO e1) hk))))
 rw[d9,eks];obtain⟨M2,e0,t2,l2⟩:=tL (ds:=ks.map λk:sf=>D.ref k.p) YY;rw[<-e0];have rd2:=Zr.sub t2;have s2:=t.trans t2;have hks:=hks.sub t2;generalize uh V ns=cs at hks lcs q;refine⟨wd,x,p2,_,ks,cs,Z',l2,hks,by rw[lcs];exact hw,?_⟩;refine qT (c:=!Ky wd x cs) (λg=>?_) (λg=>?_)
 .rw[de (by simpa using g)]at q;exact⟨M,s2,q⟩
 rw[cY (by simpa using g)]at q;have two:∀wd:Str,(wd=="answer"||wd=="back")=Db->Q (BV (if ((vd V x).isNone&&(cs.head?.elim pc (λc=>c.mO x)&&!(uF l V x)))=Db then ga "full" else vd V x)) M->cs.length=1->Ek a [.ref A.b,.str x] M2 λdue M3=>vb (SR (QD (b3 (k3 .Is (v3 5) (c3 .mM))) (QD (b3 (Bk "waits_with" (λD s=>D=a.e/\s=wu a) (i3 (v3 4) (c3 (.int 0))) (vT (v3 2) ya))) (Vo (b3 (Bk "is_free" (λD s=>D=a.c/\s=xQ a) (v3 0) (vT (v3 2) ya)))))) (TL (c3 (.str "full"))) W9) (TL (v3 5)) {nx:=λ_ M'=>∃YQ,qN YQ M'/\Q .mM YQ,rt:=λd M'=>∃YQ,qN YQ M'/\Q d YQ} [ga (.ref A.b),ga (.str wd),ga (.str x),ga (.tup (ns.map D.int)),ga (.ref p2),ga due] M3:=λwd _ q hl=>by
  cases hks with
  | nil=>cases hl
  | cons k c ks cs hc _=>
  have q:Q (BV (if ((vd V x).isNone&&(c.mO x&&!(uF l V x)))=Db then ga "full" else vd V x)) M:=q;obtain⟨ad,md,h1,_⟩:=id hc;refine⟨A,V,x,Z',rd2.bd,rd2.k,?_⟩;unfold Fi;cases e:vd V x with
  | some w0=>rw[e]at q;exact⟨M,s2,q⟩
  | none=>
   rw[e]at q;refine pF l2 (pF (yX _ _) (pI h1 ⟨Z',_,⟨Z',Z'⟩,_,k,c,x,Z',hc,?_⟩));refine qT (c:=c.mO x) (λg1=>?_) (λg1=>?_)
   .rw[g1]at q;refine pI rd2.bd.at_ ⟨Z',_,⟨Z',Z'⟩,A,V,l,x,Z',rd2,hx,?_⟩;refine qT (c:=!(uF l V x)) (λg=>?_) (λg=>?_)
    .rw[g]at q;exact⟨M,s2,q⟩
    .rw[show(!(uF l V x))=pc from dI.mpr g]at q;exact⟨M,s2,q⟩
   .rw[show c.mO x=pc from dI.mpr g1]at q;exact⟨M,s2,q⟩
 rcases hw with⟨rfl|rfl|rfl|rfl,h⟩|⟨rfl|rfl,h⟩
 .exact⟨pD Z',Z',Z',two "answer" Z' q (lcs.trans h)⟩
 .exact⟨pD Z',Z',Z',M,s2,q⟩
 .exact⟨pD Z',Z',Z',M,s2,q⟩
 .exact⟨pD Z',Z',Z',two "back" Z' q (lcs.trans h)⟩
 .exact⟨pD Z',Z',Z',M,s2,q⟩
 .exact⟨pD Z',Z',Z',M,s2,q⟩
def TF:Fq P w K mg base 1 a.a5 (Ui a):=by
 refine fq G.a5.toDG zI (λr u=>⟨_,(pG (qa (zc (G7 u pJ Y2 (qc qJ Z' G.g qG (qv (pN v0)))))
 (pH (pO pK))
 pV)
 (pG (qa (pR u (pT (pN v0) Y2) (qy u Y1 pK))
 (pH (pO pK))
 pV)
 (pH (pO sv)))),?_⟩)
 rintro ds M Q ⟨A,V,b,i,rfl,bd,q⟩
 unfold Rq at q;have hin:z9 V.on.length i=(decide (0<=i)&&decide (i<V.on.length)):=rfl;have lon:((V.on.map D.bl).length:Int)=V.on.length:=by rw[cT]
 have no:z9 V.on.length i=pc->Q (.str "wish") M:=λh=>by rw[de h]at q;exact q
 have yes:z9 V.on.length i=Db->Q (BV (if (V.on.getD i.toNat pc==b)=Db then ga "wish" else Fa)) M:=λh=>by rw[h,cY Bool.noConfusion]at q;exact q
 refine qT (c:=decide (0<=i)) (λg0=>?_) (λg0=>⟨M,.refl,no (by rw[hin,show decide (0<=i)=pc from dI.mpr g0];rfl)⟩);refine pI bd.at_ (pF Z' (pF bd.on ?_));rw[lon];refine qT (c:=!(decide (i<(V.on.length:Int)))) (λg1=>⟨M,.refl,no (by rw[hin,g0,show decide (i<(V.on.length:Int))=pc by simpa using g1];rfl)⟩) (λg1=>?_);have h:z9 V.on.length i=Db:=by rw[hin,g0,show decide (i<(V.on.length:Int))=Db by simpa using g1];rfl
 have q:=yes h;refine pI bd.at_ (pF Z' (pF Z' (pF bd.on (pF (US h) ?_))));have es:(Vp b=="on")=b:=by cases b<;>rfl
 show if (V.on.getD i.toNat pc==(Vp b=="on"))=Db then _ else _
 rw[es];refine qT (λg=>?_) (λg=>?_)
 .rw[de g]at q;exact⟨M,.refl,q⟩
 .rw[cY g]at q;exact⟨M,.refl,q⟩
def Dk:Fq P w K mg base 6 a.ai (Jn a):=by
 refine fq G.ai.toDG Dp (λr u=>⟨_,(pG (pW 2 Dp (pT Y1 pJ))
 (pG (qa (pR u Y2 pK)
 (pH (pO sv))
 pV)
 (pG (qa (pR u Y2 (pY (so pK pK)))
 (pH (pO (pP (TF G) r G.a5 (rG v0 Y2 (pT Y1 pJ)))))
 pV)
 (pG (qa (pR u (pT Y1 pJ) (wz (pN v0) G.h.toCls G.Q (tz G) r))
 (pH (pO pK))
 pV)
 (pG (qa (pR u Y2 pK)
 (pH (pO (pP (Oa G) r G.a2 (rG v0 (pT Y1 pJ) (pT Y1 pJ)))))
 pV)
 (pH (pO (pP (Q3 G) r G.a4 (qh v0 (rG Y2 (pT Y1 pJ) (tI Y1 (uo pJ) uq))))))))))),?_⟩)
 rintro ds M Q ⟨A,V,l,e,rfl,rd,hf,q⟩
 obtain⟨ph,gr,ws,pon,pr,gd,rs,i1,_⟩:=rd.pl;have p8:=rd.ok.p8;cases e with
 | turn=>exact⟨M,.refl,q⟩
 | sw b i=>
  cases b with
  | true=>exact⟨pD Z',Z',Z',A,V,Db,i,Z',rd.bd,M,.refl,q⟩
  | false=>exact⟨pD Z',Z',Z',A,V,pc,i,Z',rd.bd,M,.refl,q⟩
 | call x z=>
  have q:Q (BV (if hasS l.pn x=pc then ga "name" else Ho l V x z)) M:=q;refine⟨pD Z',Z',Z',?_⟩;refine pI rd.bd.at_ (pF Z' (pI i1 ⟨Z',_,⟨Z',Z'⟩,V.p,l,Z',rd.pl,by lia,λp YY=>pF pU ⟨Z',qH _,?_⟩⟩));obtain⟨M1,e0,t,_⟩:=tL (ds:=l.pn.map D.str) YY;rw[<-e0];have Zr:=rd.sub t;show if (!(inD (.str x) (l.pn.map D.str)))=Db then _ else _
  rw[tD];refine qT (c:=!(hasS l.pn x)) (λg=>?_) (λg=>?_)
  .rw[de (by simpa using g)]at q;exact⟨M,t,q⟩
  .have g:hasS l.pn x=Db:=by simpa using g
   rw[g,cY Bool.noConfusion]at q;exact⟨A,V,l,x,z,Z',Zr,rn.mp g,M,t,q⟩
 | num wd x ns=>
  have q:Q (BV (if hasS l.pn x=pc then ga "name" else NU l V wd x ns)) M:=q;have hf:qL.nf wd ns.length:=hf;have key:∀(M1:Mp),qN M M1->if (!(inD (.str x) (l.pn.map D.str)))=Db then(∃YQ,qN YQ M1/\Q (.str "name") YQ)else Kw a [.ref A.b,.str wd,.str x,.tup (ns.map D.int)] M1 λd M'=>∃YQ,qN YQ M'/\Q d YQ:=λM1 t=>by
   rw[tD];refine qT (c:=!(hasS l.pn x)) (λg=>?_) (λg=>?_)
   .rw[de (by simpa using g)]at q;exact⟨M,t,q⟩
   .have g:hasS l.pn x=Db:=by simpa using g
    rw[g,cY Bool.noConfusion]at q;exact⟨A,V,l,wd,x,ns,Z',rd.sub t,rn.mp g,hf,M,t,q⟩
  have one:ns.length=1->∃i,ns=[i]:=List.length_eq_one_iff.mp;have two:ns.length=2->∃i j,ns=[i,j]:=λh=>by
   match ns,h with
   | [i,j],_=>exact⟨i,j,Z'⟩
  rcases id hf with⟨rfl|rfl|rfl|rfl,h⟩|⟨rfl|rfl,h⟩
  .obtain⟨i,rfl⟩:=one h;exact⟨pD Z',Z',Z',pI rd.bd.at_ (pF Z' (pI i1 ⟨Z',_,⟨Z',Z'⟩,V.p,l,Z',rd.pl,by lia,λp YY=>pF pU ⟨Z',qH _,key _ (.new YY)⟩⟩))⟩
  .obtain⟨i,rfl⟩:=one h;exact⟨pD Z',Z',Z',pI rd.bd.at_ (pF Z' (pI i1 ⟨Z',_,⟨Z',Z'⟩,V.p,l,Z',rd.pl,by lia,λp YY=>pF pU ⟨Z',qH _,key _ (.new YY)⟩⟩))⟩
  .obtain⟨i,rfl⟩:=one h;exact⟨pD Z',Z',Z',pI rd.bd.at_ (pF Z' (pI i1 ⟨Z',_,⟨Z',Z'⟩,V.p,l,Z',rd.pl,by lia,λp YY=>pF pU ⟨Z',qH _,key _ (.new YY)⟩⟩))⟩
  .obtain⟨i,rfl⟩:=one h;exact⟨pD Z',Z',Z',pI rd.bd.at_ (pF Z' (pI i1 ⟨Z',_,⟨Z',Z'⟩,V.p,l,Z',rd.pl,by lia,λp YY=>pF pU ⟨Z',qH _,key _ (.new YY)⟩⟩))⟩
  .obtain⟨i,j,rfl⟩:=two h;exact⟨pD Z',Z',Z',pI rd.bd.at_ (pF Z' (pI i1 ⟨Z',_,⟨Z',Z'⟩,V.p,l,Z',rd.pl,by lia,λp YY=>pF pU ⟨Z',qH _,key _ (.new YY)⟩⟩))⟩
  .obtain⟨i,j,rfl⟩:=two h;exact⟨pD Z',Z',Z',pI rd.bd.at_ (pF Z' (pI i1 ⟨Z',_,⟨Z',Z'⟩,V.p,l,Z',rd.pl,by lia,λp YY=>pF pU ⟨Z',qH _,key _ (.new YY)⟩⟩))⟩
def DR(V:qu)(x:Str):Prop:=∀c∈V.calls,¬B5 c x
def FX{V:qu}(h:vd V x=Fa):DR V x:=by
 unfold vd at h;cases e1:Fg V x with
 | some j=>rw[e1]at h;cases h
 | none=>
  cases e2:JX V x with
  | some j=>rw[e1,e2]at h;cases h
  | none=>
   intro c hc g;have h1:=jC.mp e1 c hc;have h2:=jC.mp e2 c hc;rcases g with g|g
   .rw[h1]at g;cases g
   .rw[h2]at g;cases g
def tH{c:pL}(h:c.st="rings"){x:Str}:B5 c x↔x=c.cr:=by unfold B5 pL.m9 pL.mT pL.mU;rw[h];simp(decide:=true)
def EG{c:pL}(h:c.st="waits"){x:Str}:B5 c x↔x=c.cr:=by unfold B5 pL.m9 pL.mT pL.mU;rw[h];simp(decide:=true)
def ur{c:pL}(h:c.st="talks"){x:Str}:B5 c x↔x∈c.ms:=by unfold B5 pL.m9 pL.mT pL.mU;rw[h,<-rn];simp(decide:=true)
def CF{c:pL}(h:c.st="held"){x:Str}:B5 c x↔x∈c.ms/\c.hd≠ga x:=by unfold B5 pL.m9 pL.mT;rw[h,<-rn];simp(decide:=true)
def Hq{c:pL}(h:c.st="over"){x:Str}:¬B5 c x:=by unfold B5 pL.m9 pL.mT pL.mU;rw[h];simp(decide:=true)
def tF{c:pL}(h:c.st="rings"){x:Str}:c.hasB x=Db↔x=c.cr\/x∈c.at_:=by unfold pL.hasB;rw[h,<-rn];simp(decide:=true)
def Et{c:pL}(h:c.st="waits"){x:Str}:c.hasB x=Db↔x=c.cr:=by unfold pL.hasB;rw[h];simp(decide:=true)
def tO{c:pL}(h:c.st="talks"\/c.st="held"){x:Str}:c.hasB x=Db↔x∈c.ms:=by unfold pL.hasB;rw[<-rn];rcases h with h|h<;>(rw[h];simp(decide:=true))
def Hm{c:pL}(h:c.st="over"){x:Str}:c.hasB x=pc:=by unfold pL.hasB;rw[h];simp(decide:=true)
def sJ{c:pL}{x:Str}:c.mO x=Db↔c.st="waits"/\x∈c.at_:=by unfold pL.mO;rw[dU,eP,rn]
theorem E5{α:Type}(f:α->Bool):∀{l:List α} {i:Nat} {c:α} (c':α),l[i]?=ga c->((l.set i c').filter f).length+(if f c=Db then 1 else 0)=(l.filter f).length+(if f c'=Db then 1 else 0)
 | [],_,_,_,h=>by simp at h
 | x::r,0,c,c',h=>by cases h;rw[List.set_cons_zero,gA,gA];split<;>split<;>simp
 | x::r,i+1,c,c',h=>by
  have ih:=E5 f (l:=r) (i:=i) (c:=c) c' (by simpa using h);rw[lj,gA,gA];split
  .rw[d4,d4];lia
  .exact ih
def AB.set{V V':qu}{o o':Option Nat}{i:Nat}{c c':pL}(h:AB l V o)(e:V'.calls=V.calls.set i c')(hc:V.calls[i]?=ga c)(ho:∀j,j≠i->(o==ga j)=(o'==ga j))(ok:wV l (o'==ga i) c')(he:∀x,B5 c' x->B5 c x\/DR V x)(hu:∀x,c'.hasB x=Db->c.hasB x=Db\/(vH V x:Int)<xG l x)(hw:∀x,c'.mO x=Db->c.mO x=Db\/Bm V x=pc)(nx:uW l V'):AB l V' o':=by
 have si:∀{j:Nat} {d:pL},V'.calls[j]?=ga d->(j=i/\d=c')\/(j≠i/\V.calls[j]?=ga d):=λ{j d} g=>by rw[e]at g;exact(FN g).imp (λg=>⟨g.1,g.2.1⟩) id
 have key:∀(j:Nat) cj x,j≠i->V.calls[j]?=ga cj->B5 c' x->B5 cj x->False:=λj cj x hj e1 g1 g2=>by
  rcases he x g1 with z|z
  .exact hj (h.un j i cj c x e1 hc g2 z)
  .exact z cj (qR e1) g2
 have keyw:∀(j:Nat) cj x,j≠i->V.calls[j]?=ga cj->c'.mO x=Db->cj.mO x=Db->False:=λj cj x hj e1 g1 g2=>by
  rcases hw x g1 with z|z
  .exact hj (h.wt j i cj c x e1 hc g2 z)
  .unfold Bm at z;exact absurd g2 (by rw[ly.mp z cj (qR e1)|>dI.mpr];exact Bool.noConfusion)
 refine⟨λj d g=>?_,λm n cm cn x e1 e2 g1 g2=>?_,λx hx=>?_,λm n cm cn x e1 e2 g1 g2=>?_,nx⟩
 .rcases si g with⟨rfl,rfl⟩|⟨hj,g⟩
  .exact ok
  .rw[<-ho j hj];exact h.ok j d g
 .rcases si e1 with⟨rfl,rfl⟩|⟨hm,e1⟩<;>rcases si e2 with⟨rfl,rfl⟩|⟨hn,e2⟩
  .rfl
  .exact(key n cn x hn e2 g1 g2).elim
  .exact(key m cm x hm e1 g2 g1).elim
  .exact h.un m n cm cn x e1 e2 g1 g2
 .have cs:=E5 (λk:pL=>k.hasB x) c' hc;have hl:=h.ln x hx;unfold vH at hl ⊢;rw[e];by_cases g:c'.hasB x=Db
  .rw[de g]at cs;rcases hu x g with z|z
   .rw[de z]at cs;lia
   .unfold vH at z;lia
  .rw[cY g]at cs;lia
 .rcases si e1 with⟨rfl,rfl⟩|⟨hm,e1⟩<;>rcases si e2 with⟨rfl,rfl⟩|⟨hn,e2⟩
  .rfl
  .exact(keyw n cn x hn e2 g1 g2).elim
  .exact(keyw m cm x hm e1 g2 g1).elim
  .exact h.wt m n cm cn x e1 e2 g1 g2
def AB.add{V V':qu}{c':pL}(h:WF l V)(e:V'.calls=V.calls++[c'])(ok:wV l Db c')(he:∀x,B5 c' x->DR V x)(hu:∀x,c'.hasB x=Db->(vH V x:Int)<xG l x)(hw:∀x,c'.mO x=pc)(nx:uW l V'):AB l V' (ga V.calls.length):=by
 have si:∀{j:Nat} {d:pL},V'.calls[j]?=ga d->(j=V.calls.length/\d=c')\/(j≠V.calls.length/\V.calls[j]?=ga d):=λ{j d} g=>by
  rw[e]at g;by_cases z:j<V.calls.length
  .rw[eZ z]at g;exact .inr ⟨by lia,g⟩
  .have:=(cX.mp g).1;rw[cW,dD]at this;have z:j=V.calls.length:=by lia
   subst z;rw[eX (dq _)]at g;simp only[ie,iI,js]at g;exact .inl ⟨Z',g.symm⟩
 refine⟨λj d g=>?_,λm n cm cn x e1 e2 g1 g2=>?_,λx hx=>?_,λm n cm cn x e1 e2 g1 g2=>?_,nx⟩
 .rcases si g with⟨rfl,rfl⟩|⟨hj,g⟩
  .rw[eN];exact ok
  .rw[show(ga V.calls.length==ga j)=pc by simpa using dW hj];exact h.ok j d g
 .rcases si e1 with⟨rfl,rfl⟩|⟨hm,e1⟩<;>rcases si e2 with⟨rfl,rfl⟩|⟨hn,e2⟩
  .rfl
  .exact(he x g1 cn (qR e2) g2).elim
  .exact(he x g2 cm (qR e1) g1).elim
  .exact h.un m n cm cn x e1 e2 g1 g2
 .have hl:=h.ln x hx;unfold vH at hl ⊢;rw[e,gW,cW,gA];split
  .rename_i g;have:=hu x g;unfold vH at this;simp only[gF,dD];lia
  .simp only[gF,dH];lia
 .rcases si e1 with⟨rfl,rfl⟩|⟨hm,e1⟩<;>rcases si e2 with⟨rfl,rfl⟩|⟨hn,e2⟩
  .rfl
  .rw[hw x]at g1;cases g1
  .rw[hw x]at g2;cases g2
  .exact h.wt m n cm cn x e1 e2 g1 g2
noncomputable def pL.core(c:pL):pL:={c with way:=[],si:=0}
def zX(V V':qu):Prop:=V'.calls.map pL.core=V.calls.map pL.core
def zX.at_{V V':qu}(h:zX V V'){i:Nat}{c':pL}(e:V'.calls[i]?=ga c'):∃c,V.calls[i]?=ga c/\c'.core=c.core:=by
 have:=eE (·[i]?) h;simp only[dv,e]at this;cases e':V.calls[i]? with
 | none=>rw[e']at this;cases this
 | some c=>rw[e']at this;exact⟨c,Z',df this⟩
def zX.used{V V':qu}(h:zX V V')(x:Str):vH V' x=vH V x:=by
 have key:∀cs:List pL,(cs.filter (·.hasB x)).length=((cs.map pL.core).filter (·.hasB x)).length:=λcs=>by rw[gk,cT];rfl
 unfold vH;rw[key,h,<-key]
def zX.wf{V V':qu}{o:Option Nat}(h:zX V V')(wf:AB l V o)(hw:∀(i:Nat) c',V'.calls[i]?=ga c'->c'.way≠[]/\∀z∈c'.way,z∈l.nm)(nx:uW l V'):AB l V' o:=by
 refine⟨λi c' e=>?_,λi j ci cj x e1 e2 g1 g2=>?_,λx hx=>by rw[h.used];exact wf.ln x hx,λi j ci cj x e1 e2 g1 g2=>?_,nx⟩
 .obtain⟨c,ec,ee⟩:=h.at_ e;have k:=wf.ok i c ec;have k1:c'.at_=c.at_:=show c'.core.at_=c.core.at_ by rw[ee]
  have k2:c'.ms=c.ms:=show c'.core.ms=c.core.ms by rw[ee]
  have k3:c'.cr=c.cr:=show c'.core.cr=c.core.cr by rw[ee]
  exact⟨by show Su _ c'.core;rw[ee];exact k.sh,by rw[k3];exact k.cr,by rw[k1];exact k.at_,by rw[k2];exact k.ms,by rw[k1];exact k.an,by rw[k2];exact k.mn,by rw[k1,k3];exact k.ca,hw i c' e⟩
 .obtain⟨di,a1,a2⟩:=h.at_ e1;obtain⟨dj,b1,b2⟩:=h.at_ e2;exact wf.un i j di dj x a1 b1 (by show B5 di.core x;rw[<-a2];exact g1) (by show B5 dj.core x;rw[<-b2];exact g2)
 .obtain⟨di,a1,a2⟩:=h.at_ e1;obtain⟨dj,b1,b2⟩:=h.at_ e2;exact wf.wt i j di dj x a1 b1 (by show di.core.mO x=Db;rw[<-a2];exact g1) (by show dj.core.mO x=Db;rw[<-b2];exact g2)
def uu.core{V V':qu}(h:uu V V'):zX V V':=by have:=eE (List.map pL.core) h;rw[d6,d6]at this;exact this
def K5(V:qu):zX V (ql V .turn):=by show(V.calls.map pL.tick).map pL.core=V.calls.map pL.core;rw[d6];refine gw λc _=>?_;show(pL.tick c).core=c.core;unfold pL.tick;split<;>rfl
def Fu{V:qu}(wf:WF l V):WF l (ql V .turn):=(K5 V).wf wf (λi c' e=>by
 have e:(V.calls.map pL.tick)[i]?=ga c':=e;rw[dv]at e;cases q:V.calls[i]? with
 | none=>rw[q]at e;cases e
 | some c=>
  rw[q]at e;have e:c.tick=c':=df e;have hw:c.tick.way=c.way:=by unfold pL.tick;split<;>rfl
  rw[<-e,hw];exact(wf.ok i c q).wy) wf.nx
def Wx{V:qu}{b:Bool}{i:Nat}(wf:WF l V):WF l (ql V (.sw b i)):=⟨wf.ok,wf.un,wf.ln,wf.wt,wf.nx⟩
def FL{V:qu}{o:Option Nat}{i:Nat}{z:Str}{ns:T0 Nat}(wf:AB l V o):AB l (ql V (.asks i z ns)) o:=⟨wf.ok,wf.un,wf.ln,wf.wt,wf.nx⟩
def Jg{V:qu}{o:Option Nat}{v:sX}(wf:AB l V o)(hz:v.g∈l.nm):AB l (ql V (.leg v)) o:=(zL V v).core.wf wf (λi c' e=>by
 have e:(V.calls.modify v.i (·.go v.g))[i]?=ga c':=e;rw[ja]at e;cases q:V.calls[i]? with
 | none=>rw[q]at e;cases e
 | some c=>
  rw[q]at e;have k:=(wf.ok i c q).wy;have e:(if v.i=i then c.go v.g else c)=c':=df e;by_cases g:v.i=i
  .rw[de g]at e;rw[<-e];refine⟨by show c.way++[v.g]≠[];simp,λz hz'=>?_⟩;rcases dG.mp (show z∈c.way++[v.g]from hz')with y|y
   .exact k.2 z y
   .rw[cZ.mp y];exact hz
  .rw[cY g]at e;rw[<-show c=c' from e];exact k) wf.nx
theorem Ca{o:Option Nat}(i:Nat):∀(st:sZ) (q:Option Str) {V:qu},AB l V o->(∀s∈st,s.1∈l.nm)->AB l (qO V (rP i q st)) o
 | [],_,V,wf,_=>wf
 | (y,gs)::r,Fa,V,wf,h=>Ca i r (ga y) (FL wf) λs hs=>h s (dz _ hs)
 | (y,gs)::r,ga u,V,wf,h=>Ca i r (ga y) (FL (Jg wf (h _ dC))) λs hs=>h s (dz _ hs)
def rR{V:qu}{i:Nat}{c:pL}{f:pL->pL}(h:V.calls[i]?=ga c):(yi V i f).calls=V.calls.set i (f c):=by unfold yi;rw[um h]
def BX{i:Nat}:∀j,j≠i->((ga i:Option Nat)==ga j)=((Fa:Option Nat)==ga j):=λj hj=>by rw[show((ga i:Option Nat)==ga j)=pc by simpa using dW hj];rfl
def Xw{V:qu}{i:Nat}{c:pL}(wf:AB l V (ga i))(hc:V.calls[i]?=ga c):c.st="rings"/\c.ms=[]/\c.hd=Fa/\c.wd=Fa/\c.at_=[]:=by
 have sh:=(wf.ok i c hc).sh;rw[eN]at sh;rcases sh with g|g
 .exact⟨g.1,g.2.1,g.2.2.1,g.2.2.2.1,g.2.2.2.2.1 Z'⟩
 .cases g.1
def Q5{c:pL}{o:Bool}{w:Str}(k:wV l o c)(hw:w∈MM):wV l pc (c.over w):=⟨.inr ⟨Z',.inr (.inr (.inr ⟨Z',Z',Z',Z',w,hw,Z'⟩))⟩,k.cr,(λx hx=>by cases hx),(λx hx=>by cases hx),eJ,eJ,(λhx=>by cases hx),k.wy⟩
def xE{V V':qu}{o:Option Nat}{i:Nat}{c:pL}{w:Str}(wf:AB l V o)(hc:V.calls[i]?=ga c)(ho:o=Fa\/o=ga i)(hw:w∈MM)(e:V'.calls=V.calls.set i (c.over w))(nx:uW l V'):WF l V':=
 wf.set e hc (λj hj=>by rcases ho with rfl|rfl;rfl;exact BX j hj) (Q5 (wf.ok i c hc) hw) (λx g=>(Hq Z' g).elim) (λx g=>by rw[Hm (c:=c.over w) Z']at g;cases g) (λx g=>by have:=(sJ.mp g).1;exact absurd this (show("over":Str)≠"waits" by decide)) nx
def Js{l:pM}{V:qu}{c z:Str}(h:(l.mH z).Nodup):(yq l V c z).Nodup:=by
 unfold yq;split
 .cases(vI (l.mH z) (zR V z)).filter λx=>hasS (uV l V c z) x with
  | nil=>exact eJ
  | cons y r=>exact dR.mpr ⟨dQ,eJ⟩
 .exact h.sublist gb
def OD(ps:T0 (Str×Int))(z:Str)(n:Int)(y:Str):(Dq ps z n).find? (λp=>decide (p.1=y))=if y=z then ga (z,n)else ps.find? λp=>decide (p.1=y):=by
 unfold Dq;by_cases h:ps.any (λp=>decide (p.1=z))=Db
 .rw[de h];induction ps with
  | nil=>cases h
  | cons p r ih=>
   rw[dY,ft,ft];by_cases hp:p.1=z
   .rw[de hp];by_cases hy:y=z
    .rw[de hy,hy];simp[hp]
    .rw[cY hy];have n1:decide (p.1=y)=pc:=eQ (λq=>hy (q.symm.trans hp));simp only[n1];by_cases hr:r.any (λp=>decide (p.1=z))=Db
     .have:=ih hr;rw[cY hy]at this;exact this
     .have hr:∀q∈r,¬q.1=z:=λq hq g=>hr (fF.mpr ⟨q,hq,dX g⟩);rw[show r.map (λp=>if p.1=z then(p.1,n)else p)=r from(gw λq hq=>cY (hr q hq)).trans (jh _)]
   .rw[cY hp];have hr:r.any (λp=>decide (p.1=z))=Db:=by
     rw[gf,gj]at h;rcases h with g|g
     .exact absurd (fT g) hp
     .exact g
    have ih:=ih hr;by_cases hy:y=z
    .rw[de hy]at ih ⊢;have n1:decide (p.1=y)=pc:=eQ (λq=>hp (q.trans hy));simp only[n1];exact ih
    .rw[cY hy]at ih ⊢;cases decide (p.1=y)with
     | true=>rfl
     | false=>exact ih
 .rw[cY h,List.find?_append];have hr:∀q∈ps,¬q.1=z:=λq hq g=>h (fF.mpr ⟨q,hq,dX g⟩);by_cases hy:y=z
  .subst hy;rw[de Z',gU.mpr λq hq=>by simpa using hr q hq,Option.none_or];simp
  .rw[cY hy,ft,eQ (λq:z=y=>hy q.symm)];simp
def Pj{V:qu}{z:Str}{n:Int}(h:uW l V)(h0:0<=n)(h1:n<=((l.mH z).length:Int)):uW l (ql V (.next z n)):=λy hy ht=>by
 show ∃v,(Dq V.ps z n).find? _=ga v/\_;rw[OD];by_cases e:y=z
 .subst e;rw[de Z'];exact⟨_,Z',h0,h1⟩
 .rw[cY e];exact h y hy ht
def Fp{V:qu}(h:uF l V x=Db):(vH V x:Int)<xG l x:=fT h
def L0{V V':qu}{o:Option Nat}{i:Nat}{c:pL}{w x:Str}(wf:AB l V o)(hc:V.calls[i]?=ga c)(e:V'.calls=V.calls.set i (c.over w))(hx:B5 c x):DR V' x:=λd hd g=>by
 rw[e]at hd;obtain⟨j,hj,ed⟩:=gP hd;have ej:(V.calls.set i (c.over w))[j]?=ga d:=by rw[cV hj,ed]
 rcases FN ej with⟨_,rfl,_⟩|⟨Ze,ej⟩
 .exact Hq Z' g
 .exact Ze (wf.un j i d c x ej hc g hx)
def KR{V V':qu}{i:Nat}{c:pL}{w x:Str}(hc:V.calls[i]?=ga c)(e:V'.calls=V.calls.set i (c.over w))(hx:c.hasB x=Db):vH V' x+1=vH V x:=by
 have:=E5 (λk:pL=>k.hasB x) (c.over w) hc;unfold vH;rw[e];simp only[hx,je,Hm (c:=c.over w) Z']at this
 simpa using this
def HF{V V':qu}{o:Option Nat}{i j:Nat}{c d:pL}{ms:QQQ}(wf:AB l V o)(ho:o=Fa\/o=ga i)(hc:V.calls[i]?=ga c)(hd:V.calls[j]?=ga d)(ZN:i≠j)(e:V'.calls=(V.calls.set i (c.over "merged")).set j (d.mem ms))(nx:uW l V')(dt:d.st="talks")(m1:ms.Nodup)(m2:ms.length=2\/ms.length=3)(m3:∀x∈ms,x∈d.ms\/(B5 c x/\c.hasB x=Db))(m4:∀x∈ms,x∈l.pn):WF l V':=by
 have e1:(yi V i (·.over "merged")).calls=V.calls.set i (c.over "merged"):=rR hc;have w1:WF l (yi V i (·.over "merged")):=xE wf hc ho (by decide) e1 wf.nx;have hd1:(yi V i (·.over "merged")).calls[j]?=ga d:=by rw[e1,fD ZN];exact hd
 have kd:=w1.ok j d hd1;have kd':d.hd=Fa/\d.wd=Fa/\d.at_=[]:=by
  rcases kd.sh with g|⟨_,g|g|⟨_,g⟩|g⟩
  .rw[dt]at g;exact absurd g.1 (by decide)
  .rw[dt]at g;exact absurd g.1 (by decide)
  .exact⟨g.2.2.1,g.2.2.2.1,g.2.2.2.2⟩
  .rw[dt]at g;exact absurd g.1 (by decide)
  .rw[dt]at g;exact absurd g.1 (by decide)
 refine w1.set (c':=d.mem ms) (by rw[e,e1]) hd1 (λ_ _=>rfl) ⟨.inr ⟨Z',.inr (.inl ⟨dt,m2,kd'.1,kd'.2.1,kd'.2.2⟩)⟩,kd.cr,kd.at_,m4,kd.an,m1,kd.ca,kd.wy⟩ (λx g=>?_) (λx g=>?_) (λx g=>?_) nx
 .have g:=(ur (c:=d.mem ms) dt).mp g;rcases m3 x g with y|y
  .exact .inl ((ur dt).mpr y)
  .exact .inr (L0 wf hc e1 y.1)
 .have g:=(tO (c:=d.mem ms) (.inl dt)).mp g;rcases m3 x g with y|y
  .exact .inl ((tO (.inl dt)).mpr y)
  .have:=KR hc e1 y.2;have:=wf.ln x (m4 x g);exact .inr (by lia)
 .have:=(sJ.mp g).1;rw[show(d.mem ms).st="talks" from dt]at this;exact absurd this (by decide)
def Tq{V V1:qu}{i:Nat}{c:pL}{e:wn}(ok:rb l)(wf:AB l V1 (ga i))(same:zX V V1)(hc:V1.calls[i]?=ga c)(he:HU l V c.cr e):WF l (qO V1 (sY l V1 i e)):=by
 obtain⟨p1,p2,p3,p4,p5⟩:=Xw wf hc;have k:=wf.ok i c hc;have hi:=(cX.mp hc).1;cases e with
 | rings z ps=>
  obtain⟨hz,Ze,rfl⟩:=he;obtain⟨⟨q1,q2,q3,q4⟩,_⟩:=ok.of hz;obtain⟨r1,r2⟩:=GB (l:=l) (V:=V) (c:=c.cr) (z:=z);generalize hps:yq l V c.cr z=ps at Ze r1 r2;have YR:∀V2:qu,V2.calls=V1.calls->uW l V2->WF l (ql V2 (.rings i ps)):=λV2 e2 nx=>by
   have e3:(ql V2 (.rings i ps)).calls=V1.calls.set i (c.ring ps):=by show(yi (qZ V2 _) i _).calls=_;rw[rR (c:=c) (by show V2.calls[i]?=_;rw[e2];exact hc)];show V2.calls.set i _=_;rw[e2]
   have free:∀x∈ps,uF l V x=Db/\x≠c.cr:=λx hx=>by have h:=(eY.mp (r1 x hx).1).2;simp only[dU,gI]at h;exact⟨h.2,by simpa using h.1⟩
   refine wf.set e3 hc BX ⟨.inl ⟨Z',p2,p3,p4,(λh=>by cases h),λ_=>Ze⟩,k.cr,λx hx=>q4 x (r1 x hx).2,k.ms,by rw[<-hps];exact Js q3,k.mn,λhx=>(free _ hx).2 Z',k.wy⟩ (λx g=>?_) (λx g=>?_) (λx g=>?_) nx
   .exact .inl ((tH p1).mpr ((tH (c:=c.ring ps) Z').mp g))
   .rcases(tF (c:=c.ring ps) Z').mp g with y|y
    .exact .inl ((tF p1).mpr (.inl y))
    .refine .inr ?_;rw[same.used];exact Fp (free x y).1
   .exact absurd (sJ.mp g).1 (show("rings":Str)≠"waits" by decide)
  show WF l (qO V1 ((if (l.mP z=="turns")=Db then _ else _)++[.rings i ps]));rw[r6];by_cases ht:(l.mP z=="turns")=Db
  .rw[de ht];have lp:0<(l.mH z).length:=fv.mpr q1;refine YR _ Z' (Pj wf.nx (eR _ (by lia)) (Int.le_of_lt (eO _ (by lia))))
  .rw[cY ht];exact YR V1 Z' wf.nx
 | waits z=>
  obtain⟨hz,Ze,hw⟩:=he;have e3:(ql V1 (.waits i z)).calls=V1.calls.set i (c.wait z):=rR (V:=qZ V1 _) hc;have hw1:Bm V1 z=pc:=by
   unfold Bm at hw ⊢;have key:∀cs:List pL,cs.any (·.mO z)=(cs.map pL.core).any (·.mO z):=λcs=>by rw[iX];rfl
   rw[key,same,<-key];exact hw
  refine wf.set e3 hc BX ⟨.inr ⟨Z',.inl ⟨Z',p2,p3,p4,Z'⟩⟩,k.cr,λx hx=>by rw[cZ.mp hx];exact hz,k.ms,dR.mpr ⟨dQ,eJ⟩,k.mn,λhx=>Ze (cZ.mp hx).symm,k.wy⟩ (λx g=>?_) (λx g=>?_) (λx g=>?_) wf.nx
  .exact .inl ((tH p1).mpr ((EG (c:=c.wait z) Z').mp g))
  .exact .inl ((tF p1).mpr (.inl ((Et (c:=c.wait z) Z').mp g)))
  .have:=(sJ.mp g).2;rw[cZ.mp this];exact .inr hw1
 | breaks z=>
  obtain⟨x,rfl,hb⟩:=he;obtain⟨j,d0,t1,t2,t3,t4,t5,t6⟩:=GC hb;have ht:wJ V1 z=ga j:=by
   rw[<-t1];unfold wJ;have key:∀cs:List pL,cs.findIdx? (·.mU z)=(cs.map pL.core).findIdx? (·.mU z):=λcs=>by rw[hU];rfl
   rw[key,same,<-key]
  obtain⟨d,ed,ec⟩:∃d,V1.calls[j]?=ga d/\d.core=d0.core:=by
   have:=eE (·[j]?) same;simp only[dv,t2]at this;cases q:V1.calls[j]? with
   | none=>rw[q]at this;cases this
   | some d=>rw[q]at this;exact⟨d,Z',df this⟩
  have ds:d.st="talks":=by rw[show d.st=d0.st from show d.core.st=d0.core.st by rw[ec]];exact t3
  have dm:d.ms=d0.ms:=show d.core.ms=d0.core.ms by rw[ec]
  have ZN:i≠j:=λy=>by subst y;rw[hc]at ed;cases ed;rw[p1]at ds;exact absurd ds (by decide)
  have hee:sY l V1 i (.breaks z)=[.merge i j (d.ms++[c.cr])]:=by unfold sY;dsimp only;rw[ht,hc];dsimp only;rw[ed];rfl
  rw[hee];have ncr:c.cr∉d.ms:=λy=>ZN (wf.un i j c d c.cr hc ed ((tH p1).mpr Z') ((ur ds).mpr y));have kd:=wf.ok j d ed;refine HF (V':=ql V1 (.merge i j (d.ms++[c.cr]))) (ms:=d.ms++[c.cr]) wf (.inr Z') hc ed ZN ?_ wf.nx ds ?_ (.inr ?_) (λx hx=>?_) (λx hx=>?_)
  .show(V1.calls.modify i _).modify j _=_;rw[um hc,um (show(V1.calls.set i _)[j]?=ga d by rw[fD ZN];exact ed)]
  .refine gq.mpr ⟨kd.mn,dR.mpr ⟨dQ,eJ⟩,λx hx y hy q=>ncr ?_⟩;rw[cZ.mp hy]at q;rw[<-q];exact hx
  .rw[cW,dm,t5];rfl
  .rcases dG.mp hx with y|y
   .exact .inl y
   .rw[cZ.mp y];exact .inr ⟨(tH p1).mpr Z',(tF p1).mpr (.inl Z')⟩
  .rcases dG.mp hx with y|y
   .exact kd.ms x y
   .rw[cZ.mp y];exact k.cr
 | engaged z=>exact xE (V':=ql V1 (.over i "engaged")) wf hc (.inr Z') (by decide) (rR (V:=qZ V1 _) hc) wf.nx
 | barred=>exact xE (V':=ql V1 (.over i "barred")) wf hc (.inr Z') (by decide) (rR (V:=qZ V1 _) hc) wf.nx
 | ring ns=>exact xE (V':=ql V1 (.over i "ring")) wf hc (.inr Z') (by decide) (rR (V:=qZ V1 _) hc) wf.nx
def Sb{V:qu}{i:Nat}{k:pL}(ok:rb l)(wf:AB l V (ga i))(hk:V.calls[i]?=ga k):WF l (qO V (tV l V i)):=by
 have ZT:=wf.ok i k hk;unfold tV;rw[hk];dsimp only[Option.elim];obtain⟨z,hz⟩:∃z,k.way.getLast?=ga z:=by
  cases e:k.way.getLast? with
  | none=>exact absurd (gK.mp e) ZT.wy.1
  | some z=>exact⟨z,Z'⟩
 rw[show k.way.getLastD Str.empty=z by rw[iy,hz];rfl];have ro:yC l V k.cr (l.nm.length+1) [] (tX l V k.cr z k.way.dropLast):=Ac ok _ _ _ _ (ZT.wy.2 z (iZ hz)) λx hx=>ZT.wy.2 x (i9 _ hx);generalize tX l V k.cr z k.way.dropLast=R at ro;obtain⟨e,st⟩:=R;have snm:∀s∈st,s.1∈l.nm:=λs hs=>(ro.nm s hs).elim (λh=>by cases h) id;have w1:=Ca i st Fa wf snm;have Zo:=vO i st Fa V;rw[r6,r6];dsimp only;have YR:∀V1:qu,AB l V1 (ga i)->uu V V1->WF l (qO V1 (sY l V i e)):=λV1 w s=>by
  rw[<-s.ends];obtain⟨c',e1,e2⟩:=s.at_ hk;have hcr:c'.cr=k.cr:=show c'.bare.cr=k.bare.cr by rw[e2]
  exact Tq ok w s.core e1 (by rw[hcr];exact ro.e)
 cases e with
 | ring ns=>
  obtain⟨x,ns',rfl⟩:=gg (show ns≠[]from ro.e);cases hl:st.getLast? with
  | none=>rw[show uI i st (.ring (x::ns'))=[]by unfold uI;dsimp only;rw[hl];rfl];exact YR _ w1 Zo
  | some s0=>rw[show uI i st (.ring (x::ns'))=[.leg ⟨i,s0.1,x,s0.1⟩]by unfold uI;dsimp only;rw[hl];rfl];exact YR _ (Jg (v:=⟨i,s0.1,x,s0.1⟩) w1 (ro.wy _ Z' x dC)) (Zo.trans (zL _ _))
 | rings _ _=>exact YR _ w1 Zo
 | waits _=>exact YR _ w1 Zo
 | breaks _=>exact YR _ w1 Zo
 | engaged _=>exact YR _ w1 Zo
 | barred=>exact YR _ w1 Zo
def IM{V:qu}{y z:Str}(wf:WF l V)(hy:y∈l.pn)(hz:z∈l.nm)(hi:DR V y)(hf:uF l V y=Db):AB l (qO V [.new V.calls.length y,.leg ⟨V.calls.length,y,z,y⟩]) (ga V.calls.length):=by
 have e:(qO V [.new V.calls.length y,.leg ⟨V.calls.length,y,z,y⟩]).calls=V.calls++[(Am y).go z]:=by show(V.calls++[Am y]).modify V.calls.length _=_;rw[um (c:=Am y) (by rw[eX (dq _),ie];rfl),ko _ _ (dq _),ie];rfl
 refine wf.add e ⟨.inl ⟨Z',Z',Z',Z',λ_=>rfl,(λh=>by cases h)⟩,hy,(λx h=>by cases h),(λx h=>by cases h),eJ,eJ,(λh=>by cases h),fu _ _,λx h=>by rw[cZ.mp h];exact hz⟩ (λx h=>?_) (λx h=>?_) (λx=>?_) wf.nx
 .rw[(tH (c:=(Am y).go z) Z').mp h];exact hi
 .rcases(tF (c:=(Am y).go z) Z').mp h with g|g
  .rw[g];exact Fp hf
  .cases g
 .cases q:((Am y).go z).mO x with
  | false=>rfl
  | true=>exact absurd (sJ.mp q).1 (show("rings":Str)≠"waits" by decide)
def NR{V:qu}{y z:Str}:∃k,(qO V [.new V.calls.length y,.leg ⟨V.calls.length,y,z,y⟩]).calls[V.calls.length]?=ga k:=by
 have:V.calls.length<(qO V [.new V.calls.length y,.leg ⟨V.calls.length,y,z,y⟩]).calls.length:=by show V.calls.length<((V.calls++[Am y]).modify _ _).length;rw[gh,cW];exact fO _
 exact⟨_,cV this⟩
def F4{V:qu}{i:Nat}{c:pL}{x y:Str}{fs:T0 Nat}(wf:WF l V)(hc:V.calls[i]?=ga c)(hs:c.st="rings")(hy:y∈l.nm):AB l (qO V [.asks i x fs,.quiet i,.leg ⟨i,x,y,x⟩]) (ga i):=by
 refine Jg (v:=⟨i,x,y,x⟩) ?_ hy;have k:=wf.ok i c hc;have w1:WF l (ql V (.asks i x fs)):=FL wf;have sh:c.ms=[]/\c.hd=Fa/\c.wd=Fa:=by
  rcases k.sh with g|⟨_,g|g|⟨_,g⟩|g⟩
  .exact⟨g.2.1,g.2.2.1,g.2.2.2.1⟩
  all_goals(rw[hs]at g;exact absurd g.1 (by decide))
 refine w1.set (i:=i) (c:=c) (c':=c.nO) (rR (V:=qZ (ql V (.asks i x fs)) _) hc) hc (λj hj=>(BX j hj).symm) ?_ (λx g=>.inl ?_) (λx g=>.inl ?_) (λx g=>?_) wf.nx
 .rw[eN];exact⟨.inl ⟨hs,sh.1,sh.2.1,sh.2.2,λ_=>rfl,(λh=>by cases h)⟩,k.cr,(λx h=>by cases h),k.ms,eJ,k.mn,(λh=>by cases h),k.wy⟩
 .exact(tH hs).mpr ((tH (c:=c.nO) hs).mp g)
 .rcases(tF (c:=c.nO) hs).mp g with y|y
  .exact(tF hs).mpr (.inl y)
  .cases y
 .have:=(sJ.mp g).1;rw[show c.nO.st="rings" from hs]at this;exact absurd this (by decide)
inductive Xb(l:pM)(V:qu)(i:Nat):List Nat->Prop
 | no:Xb l V i []
 | on (c:pL) (k:Nat) (r:List Nat) (b:Bool) (x y:Str) (n:Int):V.calls[i]?=ga c->c.st="rings"->l.mG[k]?=ga (b,.silent x y n)->c.way.getLast?=ga x->y∈l.nm->Xb l V i (k::r)
def Io{V:qu}(ok:rb l):Xb l V i (vR l V i):=by
 unfold vR;cases e:V.calls[i]? with
 | none=>exact .no
 | some c=>
  dsimp only[Option.elim];by_cases hs:(c.st=="rings")=Db
  .rw[de hs];cases q:yc l V (FV c)with
   | nil=>exact .no
   | cons k r=>
    obtain⟨⟨b,w⟩,e1,e2⟩:=BY (i:=k) (by rw[q];exact dC);cases w with
    | silent x y n=>unfold FV at e2;rw[dU,eP]at e2;exact .on c k r b x y n e (xz hs) e1 e2.1 (CQ ok (fm e1) (z:=Str.empty) Z')
    | _=>cases e2
  .rw[cY hs];exact .no
def AH{l:pM}{V:qu}{i k:Nat}{r:T0 Nat}{b:Bool}{x y:Str}{n:Int}(h:l.mG[k]?=ga (b,.silent x y n)):rV l V i (k::r)=[.asks i x (k::r),.quiet i,.leg ⟨i,x,y,x⟩]++tV l (qO V [.asks i x (k::r),.quiet i,.leg ⟨i,x,y,x⟩]) i:=by unfold rV;simp only[List.head?_cons,lX,h]
def Gx{V:qu}{i:Nat}{c:pL}{x y:Str}{fs:T0 Nat}(h:V.calls[i]?=ga c):(qO V [.asks i x fs,.quiet i,.leg ⟨i,x,y,x⟩]).calls[i]?=ga (c.nO.go y):=by show((V.calls.modify i pL.nO).modify i _)[i]?=_;rw[ja,ja,h];simp
def KI{V:qu}(ok:rb l)(wf:WF l V):WF l (qO V (rV l V i (vR l V i))):=by
 have d:=Io (V:=V) (i:=i) ok;generalize vR l V i=fs at d;cases d with
 | no=>exact wf
 | on c k r b x y n hc hs hk hw hy=>rw[AH hk,r6];exact Sb ok (F4 wf hc hs hy) (Gx hc)
theorem FC(ok:rb l):∀(is:T0 Nat) {V:qu},WF l V->WF l (qO V (qS l is V))
 | [],_,wf=>wf
 | i::r,V,wf=>by unfold qS;rw[r6];exact FC ok r (KI ok wf)
theorem EC(l:pM)(i:Nat):∀(is:T0 Nat) (V:qu),qS l (is++[i]) V=qS l is V++rV l (qO V (qS l is V)) i (vR l (qO V (qS l is V)) i)
 | [],V=>by show rV l V i _++[]=[]++_;rw[eG];rfl
 | j::r,V=>by show rV l V j _++qS l (r++[i]) _=(rV l V j _++qS l r _)++_;rw[EC l i r,fh,show qS l (j::r) V=rV l V j (vR l V j)++qS l r (qO V (rV l V j (vR l V j)))from Z',r6]
def uC{x y:Str}:y∈s8 ss x↔y∈ss/\y≠x:=by unfold s8;rw[eY,gI,gv]
theorem yd{x:Str}:∀{ss:QQQ},ss.Nodup->x∈ss->(s8 ss x).length+1=ss.length
 | [],_,h=>by cases h
 | y::r,nd,h=>by
  have nd:=dR.mp nd;unfold s8;rw[gA];by_cases e:y=x
  .subst e;rw[show(!(y==y))=pc by simp,cY (by decide),kM.mpr λz hz=>by
    have:z≠y:=λq=>nd.1 (q ▸ hz)
    simpa using this]
   rfl
  .have h:x∈r:=by
    rcases dg.mp h with q|q
    .exact absurd q.symm e
    .exact q
   rw[de (by simpa using e)];have:=yd nd.2 h;unfold s8 at this;rw[d4,d4,this]
def PU{V:qu}{i:Nat}{c:pL}{x:Str}(wf:WF l V)(hc:V.calls[i]?=ga c)(hl:c.nz x=Db):WF l (qO V (vK V x i)):=by
 have k:=wf.ok i c hc;unfold vK;rw[hc];dsimp only[Option.elim];by_cases h1:c.mT x=Db
 .rw[de h1];exact xE (V':=ql V (.over i "left")) wf hc (.inl Z') (by decide) (rR (V:=qZ V _) hc) wf.nx
 .rw[cY h1];have e1:(ql V (.leaves i x)).calls=V.calls.set i (c.drop x):=rR (V:=qZ V _) hc;by_cases h2:hasS c.at_ x=Db
  .rw[de h2];by_cases h3:s8 c.at_ x=[]
   .rw[de h3];refine xE (V':=ql (ql V (.leaves i x)) (.over i "refused")) wf hc (.inl Z') (by decide) (w:="refused") ?_ wf.nx;have h4:(ql V (.leaves i x)).calls[i]?=ga (c.drop x):=by rw[e1,fE (cX.mp hc).1]
    show(yi (qZ (ql V (.leaves i x)) _) i _).calls=_;rw[rR (V:=qZ (ql V (.leaves i x)) _) h4];show(ql V (.leaves i x)).calls.set i _=_;rw[e1,jN];rfl
   .rw[cY h3];have hs:c.st="rings"/\c.ms=[]/\c.hd=Fa/\c.wd=Fa:=by
     rcases k.sh with g|⟨_,g|g|⟨_,g⟩|g⟩
     .exact⟨g.1,g.2.1,g.2.2.1,g.2.2.2.1⟩
     .exfalso;have:=yd k.an (rn.mp h2);rw[g.2.2.2.2]at this;exact h3 (gu.mp (by lia))
     .rw[g.2.2.2.2]at h2;cases h2
     .rw[g.2.2.2.2.2]at h2;cases h2
     .rw[g.2.2.2.1]at h2;cases h2
    refine wf.set (V':=ql V (.leaves i x)) (c':=c.drop x) e1 hc (λ_ _=>rfl) ⟨.inl ⟨hs.1,by show s8 c.ms x=[];rw[hs.2.1];rfl,hs.2.2.1,hs.2.2.2,(λh=>by cases h),λ_=>h3⟩,k.cr,λy hy=>k.at_ y (uC.mp hy).1,λy hy=>k.ms y (uC.mp hy).1,k.an.sublist gb,k.mn.sublist gb,λhy=>k.ca (uC.mp hy).1,k.wy⟩ (λy g=>?_) (λy g=>?_) (λy g=>?_) wf.nx
    .exact .inl ((tH hs.1).mpr ((tH (c:=c.drop x) hs.1).mp g))
    .refine .inl ((tF hs.1).mpr (((tF (c:=c.drop x) hs.1).mp g).imp id λh=>(uC.mp h).1))
    .have:=(sJ.mp g).1;rw[show(c.drop x).st="rings" from hs.1]at this;exact absurd this (by decide)
  .rw[cY h2];by_cases h3:2<c.ms.length
   .rw[de h3];have hx:x∈c.ms:=by unfold pL.nz at hl;rw[dI.mpr h1,dI.mpr h2,fQ,fQ]at hl;exact rn.mp hl
    have hs:c.st="talks"/\c.ms.length=3/\c.hd=Fa/\c.wd=Fa/\c.at_=[]:=by
     rcases k.sh with g|⟨_,g|g|⟨_,g⟩|g⟩
     .rw[g.2.1]at h3;cases h3
     .rw[g.2.1]at h3;cases h3
     .exact⟨g.1,g.2.1.elim (λq=>by lia) id,g.2.2⟩
     .omega
     .rw[g.2.1]at h3;cases h3
    have dl:=yd k.mn hx;refine wf.set (V':=ql V (.leaves i x)) (c':=c.drop x) e1 hc (λ_ _=>rfl) ⟨.inr ⟨Z',.inr (.inl ⟨hs.1,.inl (by show(s8 c.ms x).length=2;lia),hs.2.2.1,hs.2.2.2.1,by show s8 c.at_ x=[];rw[hs.2.2.2.2];rfl⟩)⟩,k.cr,λy hy=>k.at_ y (uC.mp hy).1,λy hy=>k.ms y (uC.mp hy).1,k.an.sublist gb,k.mn.sublist gb,λhy=>k.ca (uC.mp hy).1,k.wy⟩ (λy g=>?_) (λy g=>?_) (λy g=>?_) wf.nx
    .exact .inl ((ur hs.1).mpr (uC.mp ((ur (c:=c.drop x) hs.1).mp g)).1)
    .exact .inl ((tO (.inl hs.1)).mpr (uC.mp ((tO (c:=c.drop x) (.inl hs.1)).mp g)).1)
    .have:=(sJ.mp g).1;rw[show(c.drop x).st="talks" from hs.1]at this;exact absurd this (by decide)
   .rw[cY h3];exact xE (V':=ql V (.over i "done")) wf hc (.inl Z') (by decide) (rR (V:=qZ V _) hc) wf.nx
def LX{V:qu}{i:Nat}{c:pL}(wf:WF l V)(hc:V.calls[i]?=ga c)(hx:hasS c.at_ x=Db)(hi:DR V x)(hf:c.mO x=Db->uF l V x=Db):WF l (ql V (.talks i [c.cr,x])):=by
 have k:=wf.ok i c hc;have hx:=rn.mp hx;have Ze:c.cr≠x:=λq=>k.ca (q ▸ hx);have hs:(c.st="rings"\/c.st="waits")/\c.wd=Fa:=by
  rcases k.sh with g|⟨_,g|g|⟨_,g⟩|g⟩
  .exact⟨.inl g.1,g.2.2.2.1⟩
  .exact⟨.inr g.1,g.2.2.2.1⟩
  .rw[g.2.2.2.2]at hx;cases hx
  .rw[g.2.2.2.2.2]at hx;cases hx
  .rw[g.2.2.2.1]at hx;cases hx
 have ec:B5 c c.cr/\c.hasB c.cr=Db:=by
  rcases hs.1 with g|g
  .exact⟨(tH g).mpr Z',(tF g).mpr (.inl Z')⟩
  .exact⟨(EG g).mpr Z',(Et g).mpr Z'⟩
 refine wf.set (V':=ql V (.talks i [c.cr,x])) (c':=c.nI [c.cr,x]) (rR (V:=qZ V _) hc) hc (λ_ _=>rfl) ⟨.inr ⟨Z',.inr (.inl ⟨Z',.inl Z',Z',hs.2,Z'⟩)⟩,k.cr,(λy h=>by cases h),(λy h=>?_),eJ,?_,(λh=>by cases h),k.wy⟩ (λy g=>?_) (λy g=>?_) (λy g=>?_) wf.nx
 .rcases dg.mp h with g|g
  .rw[g];exact k.cr
  .rw[cZ.mp g];exact k.at_ x hx
 .exact dR.mpr ⟨λh=>Ze (cZ.mp h),dR.mpr ⟨dQ,eJ⟩⟩
 .rcases dg.mp ((ur (c:=c.nI [c.cr,x]) Z').mp g)with h|h
  .rw[h];exact .inl ec.1
  .rw[cZ.mp h];exact .inr hi
 .rcases dg.mp ((tO (c:=c.nI [c.cr,x]) (.inl Z')).mp g)with h|h
  .rw[h];exact .inl ec.2
  .rw[cZ.mp h];rcases hs.1 with q|q
   .exact .inl ((tF q).mpr (.inr hx))
   .exact .inr (Fp (hf (sJ.mpr ⟨q,hx⟩)))
 .exact absurd (sJ.mp g).1 (show("talks":Str)≠"waits" by decide)
def AN{c:pL}{x:Str}:c.mV x=Db↔c.st="talks"/\x∈c.ms/\c.ms.length=2:=by unfold pL.mV pL.mU;rw[dU,dU,eP,rn,eP,and_assoc]
def NW{c:pL}(k:wV l pc c)(h:c.st="talks"):c.hd=Fa/\c.wd=Fa/\c.at_=[]:=by
 rcases k.sh with g|⟨_,g|g|⟨_,g⟩|g⟩
 .rw[h]at g;exact absurd g.1 (by decide)
 .rw[h]at g;exact absurd g.1 (by decide)
 .exact g.2.2
 .rw[h]at g;exact absurd g.1 (by decide)
 .rw[h]at g;exact absurd g.1 (by decide)
def E1{c:pL}{x:Str}(k:wV l pc c)(h:c.hd=ga x):c.st="held"/\c.ms.length=2/\x∈c.ms/\c.wd=Fa/\c.at_=[]:=by
 rcases k.sh with g|⟨_,g|g|⟨y,g⟩|g⟩
 .rw[h]at g;cases g.2.2.1
 .rw[h]at g;cases g.2.2.1
 .rw[h]at g;cases g.2.2.1
 .have e:=g.2.2.1;rw[h]at e;cases e;exact⟨g.1,g.2.1,g.2.2.2⟩
 .rw[h]at g;cases g.2.2.1
def Qw{V:qu}{i:Nat}{c:pL}{x:Str}(wf:WF l V)(hc:V.calls[i]?=ga c)(hx:c.mV x=Db):WF l (ql V (.held i x)):=by
 have k:=wf.ok i c hc;obtain⟨h1,h2,h3⟩:=AN.mp hx;obtain⟨s1,s2,s3⟩:=NW k h1;refine wf.set (V':=ql V (.held i x)) (c':=c.hold x) (rR (V:=qZ V _) hc) hc (λ_ _=>rfl) ⟨.inr ⟨Z',.inr (.inr (.inl ⟨x,Z',h3,Z',h2,s2,s3⟩))⟩,k.cr,k.at_,k.ms,k.an,k.mn,k.ca,k.wy⟩ (λy g=>.inl ?_) (λy g=>.inl ?_) (λy g=>?_) wf.nx
 .exact(ur h1).mpr ((CF (c:=c.hold x) Z').mp g).1
 .exact(tO (.inl h1)).mpr ((tO (c:=c.hold x) (.inr Z')).mp g)
 .exact absurd (sJ.mp g).1 (show("held":Str)≠"waits" by decide)
def QY{V:qu}{i:Nat}{c:pL}{x:Str}(wf:WF l V)(hc:V.calls[i]?=ga c)(hx:c.hd=ga x)(hi:DR V x):WF l (ql V (.talks i c.ms)):=by
 have k:=wf.ok i c hc;obtain⟨h1,h2,h3,h4,h5⟩:=E1 k hx;refine wf.set (V':=ql V (.talks i c.ms)) (c':=c.nI c.ms) (rR (V:=qZ V _) hc) hc (λ_ _=>rfl) ⟨.inr ⟨Z',.inr (.inl ⟨Z',.inl h2,Z',h4,Z'⟩)⟩,k.cr,(λy h=>by cases h),k.ms,eJ,k.mn,(λh=>by cases h),k.wy⟩ (λy g=>?_) (λy g=>.inl ?_) (λy g=>?_) wf.nx
 .have g:=(ur (c:=c.nI c.ms) Z').mp g;by_cases e:y=x
  .rw[e];exact .inr hi
  .exact .inl ((CF h1).mpr ⟨g,λq=>e (df (q.symm.trans hx))⟩)
 .exact(tO (.inr h1)).mpr ((tO (c:=c.nI c.ms) (.inl Z')).mp g)
 .exact absurd (sJ.mp g).1 (show("talks":Str)≠"waits" by decide)
def Em{c:pL}{x:Str}(nd:c.ms.Nodup)(h2:c.ms.length=2)(hx:x∈c.ms):qI c x∈c.ms/\qI c x≠x:=by
 have dl:=yd nd hx;obtain⟨y,r,e⟩:=List.exists_cons_of_length_pos (show 0<(s8 c.ms x).length by lia);have hm:y∈s8 c.ms x:=by rw[e];exact dC
 unfold qI;rw[e];exact uC.mp hm
def JI{V:qu}{i j:Nat}{c d:pL}{w x:Str}(wf:WF l V)(hc:V.calls[i]?=ga c)(hd:V.calls[j]?=ga d)(h1:c.hd=ga x)(h2:d.mV x=Db):i≠j/\WF l (ql V (.merge i j (if (w=="hand")=Db then[qI c x,qI d x]else[x,qI c x,qI d x]))):=by
 have k:=wf.ok i c hc;have kd:=wf.ok j d hd;obtain⟨c1,c2,c3,c4,c5⟩:=E1 k h1;obtain⟨d1,d2,d3⟩:=AN.mp h2;obtain⟨a1,a2⟩:=Em k.mn c2 c3;obtain⟨b1,b2⟩:=Em kd.mn d3 d2;have ZN:i≠j:=λq=>by subst q;rw[hc]at hd;cases hd;rw[c1]at d1;exact absurd d1 (by decide)
 refine⟨ZN,?_⟩;have ea:B5 c (qI c x):=(CF c1).mpr ⟨a1,λq=>a2 (df (q.symm.trans h1))⟩;have ab:qI c x≠qI d x:=λq=>ZN (wf.un i j c d _ hc hd ea (by rw[q];exact(ur d1).mpr b1));generalize hms:(if (w=="hand")=Db then[qI c x,qI d x]else[x,qI c x,qI d x])=ms;have mm:∀y∈ms,y=x\/y=qI c x\/y=qI d x:=λy hy=>by
  rw[<-hms]at hy;split at hy
  .rcases dg.mp hy with g|g
   .exact .inr (.inl g)
   .exact .inr (.inr (cZ.mp g))
  .rcases dg.mp hy with g|g
   .exact .inl g
   .rcases dg.mp g with g|g
    .exact .inr (.inl g)
    .exact .inr (.inr (cZ.mp g))
 have n2:[qI c x,qI d x].Nodup:=dR.mpr ⟨λh=>ab (cZ.mp h),dR.mpr ⟨dQ,eJ⟩⟩;refine HF (V':=ql V (.merge i j ms)) (ms:=ms) wf (.inl Z') hc hd ZN ?_ wf.nx d1 ?_ ?_ (λy hy=>?_) (λy hy=>?_)
 .show(V.calls.modify i _).modify j _=_;rw[um hc,um (show(V.calls.set i _)[j]?=ga d by rw[fD ZN];exact hd)]
 .rw[<-hms];split
  .exact n2
  .refine dR.mpr ⟨λh=>?_,n2⟩;rcases dg.mp h with g|g
   .exact a2 g.symm
   .exact b2 (cZ.mp g).symm
 .rw[<-hms];split
  .exact .inl Z'
  .exact .inr Z'
 .rcases mm y hy with g|g|g
  .rw[g];exact .inl d2
  .rw[g];exact .inr ⟨ea,(tO (.inr c1)).mpr a1⟩
  .rw[g];exact .inl b1
 .rcases mm y hy with g|g|g
  .rw[g];exact k.ms x c3
  .rw[g];exact k.ms _ a1
  .rw[g];exact kd.ms _ b1
def TB{V:qu}{i:Int}(h:z9 V.calls.length i=Db):∃c,V.calls[i.toNat]?=ga c:=by unfold z9 at h;rw[dU,eA,eA]at h;exact⟨_,cV (by lia)⟩
def Gj{V:qu}{b:Bool}(h:(if ((vd V x).isNone&&b)=Db then ga ("full":Str)else vd V x)=Fa):vd V x=Fa/\b=pc:=by
 cases e:vd V x with
 | some w=>rw[e]at h;cases h
 | none=>
  rw[e]at h;cases b with
  | true=>cases h
  | false=>exact⟨Z',Z'⟩
inductive EN(l:pM)(V:qu)(x:Str):Str->List Int->Prop
 | answer (i:Int) (c:pL):0<=i->V.calls[i.toNat]?=ga c->hasS c.at_ x=Db->DR V x->(c.mO x=Db->uF l V x=Db)->EN l V x "answer" [i]
 | hang (i:Int) (c:pL):0<=i->V.calls[i.toNat]?=ga c->c.nz x=Db->EN l V x "hang" [i]
 | hold (i:Int) (c:pL):0<=i->V.calls[i.toNat]?=ga c->c.mV x=Db->EN l V x "hold" [i]
 | back (i:Int) (c:pL):0<=i->V.calls[i.toNat]?=ga c->c.hd=ga x->DR V x->EN l V x "back" [i]
 | two (w:Str) (i j:Int) (c d:pL):0<=i->0<=j->w="hand"\/w="join"->V.calls[i.toNat]?=ga c->V.calls[j.toNat]?=ga d->c.hd=ga x->d.mV x=Db->EN l V x w [i,j]
def Jj{V:qu}{w x:Str}(f:(qL.num w x ns).mZ)(h:vv l V (.num w x ns)=Fa):x∈l.pn/\EN l V x w ns:=by
 have hp:hasS l.pn x=Db:=by
  cases q:hasS l.pn x with
  | true=>rfl
  | false=>unfold vv at h;dsimp only at h;rw[de q]at h;cases h
 refine⟨rn.mp hp,?_⟩;unfold vv at h;dsimp only at h;rw[cY (by rw[hp];decide)]at h;unfold NU at h;cases q1:ns.all (z9 V.calls.length)with
 | false=>rw[de q1]at h;cases h
 | true=>
 rw[cY (by rw[q1];decide)]at h;cases q2:Ky w x (uh V ns)with
 | false=>rw[de q2]at h;cases h
 | true=>
 rw[cY (by rw[q2];decide)]at h;have z:∀i∈ns,0<=i/\∃c,V.calls[i.toNat]?=ga c:=λi hi=>by have g:=eD.mp q1 i hi;refine⟨?_,TB g⟩;unfold z9 at g;rw[dU,eA]at g;exact g.1
 rcases f with⟨fw,fl⟩|⟨fw,fl⟩
 .match ns,fl with
  | [i],_=>
   obtain⟨hi,c,hc⟩:=z i dC;have ec:uh V [i]=[c]:=by unfold uh;rw[fZ,hc];rfl
   rw[ec]at h q2;rcases fw with rfl|rfl|rfl|rfl
   .rw[cY (by decide)]at h;obtain⟨h1,h2⟩:=Gj h;refine .answer i c hi hc q2 (FX h1) λhw=>?_;have h2:(c.mO x&&!(uF l V x))=pc:=h2;rw[hw]at h2
    simpa using h2
   .exact .hang i c hi hc q2
   .exact .hold i c hi hc q2
   .rw[cY (by decide)]at h;exact .back i c hi hc (xz q2) (FX (Gj h).1)
 .match ns,fl with
  | [i,j],_=>
   obtain⟨hi,c,hc⟩:=z i dC;obtain⟨hj,d,hd⟩:=z j (dz _ dC);have ec:uh V [i,j]=[c,d]:=by unfold uh;rw[fZ,hc];dsimp only;rw[fZ,hd];rfl
   rw[ec]at q2;have q3:((c.hd==ga x)&&d.mV x)=Db:=by rcases fw with rfl|rfl<;>exact q2
   rw[dU]at q3;exact .two w i j c d hi hj fw hc hd (xz q3.1) q3.2
def Gf{V:qu}{y z:Str}(h:vv l V (.call y z)=Fa):y∈l.pn/\z∈l.nm/\DR V y/\uF l V y=Db:=by
 unfold vv at h;dsimp only at h;cases q:hasS l.pn y with
 | false=>rw[de q]at h;cases h
 | true=>
 rw[cY (by rw[q];decide)]at h;unfold Ho at h;cases q1:hasS l.nm z with
 | false=>rw[de q1]at h;cases h
 | true=>
 rw[cY (by rw[q1];decide)]at h;obtain⟨h1,h2⟩:=Gj h;exact⟨rn.mp q,rn.mp q1,FX h1,by simpa using h2⟩
def WW{V:qu}{b:Bool}{i:Int}(h:vv l V (.sw b i)=Fa):0<=i/\i.toNat<V.on.length:=by
 unfold vv Rq at h;dsimp only at h;cases q:z9 V.on.length i with
 | false=>rw[de q]at h;cases h
 | true=>unfold z9 at q;rw[dU,eA,eA]at q;lia
def Ai{V:qu}{w x:Str}{i:Nat}{c:pL}(h:V.calls[i]?=ga c):DH V w x i=if (w=="answer")=Db then .talks i [c.cr,x]else if (w=="hold")=Db then .held i x else .talks i c.ms:=by unfold DH;rw[h];rfl
def IA{V:qu}{w x:Str}{i j:Nat}{c d:pL}(h:V.calls[i]?=ga c)(g:V.calls[j]?=ga d):CT V w x i j=.merge i j (if (w=="hand")=Db then[qI c x,qI d x]else[x,qI c x,qI d x]):=by unfold CT;rw[h,g];rfl
def WK{V:qu}{e:qL}(ok:rb l)(wf:WF l V)(f:e.mZ)(h:vv l V e=Fa):WF l (qO V (vA l V e)):=by
 cases e with
 | call y z=>obtain⟨h1,h2,h3,h4⟩:=Gf h;obtain⟨k,hk⟩:=NR (V:=V) (y:=y) (z:=z);show WF l (qO V (_++tV l _ _));rw[r6];exact Sb ok (IM wf h1 h2 h3 h4) hk
 | turn=>exact FC ok _ (Fu wf)
 | sw b i=>exact Wx wf
 | num w x ns=>
  obtain⟨_,n⟩:=Jj f h;cases n with
  | answer i c hi hc h1 h2 h3=>show WF l (ql V (DH V "answer" x i.toNat));rw[Ai hc];exact LX wf hc h1 h2 h3
  | hang i c hi hc h1=>exact PU wf hc h1
  | hold i c hi hc h1=>show WF l (ql V (DH V "hold" x i.toNat));rw[Ai hc];exact Qw wf hc h1
  | back i c hi hc h1 h2=>show WF l (ql V (DH V "back" x i.toNat));rw[Ai hc];exact QY wf hc h1 h2
  | two _ i j c d hi hj hw hc hd h1 h2=>show WF l (ql V (CT V w x i.toNat j.toNat));rw[IA hc hd];exact(JI wf hc hd h1 h2).2
def Qu(a:Ad):rH:=λds M Q=>Nu λM0 b A V l c n x i k=>ds=[.ref b,.str x,.int ((i:Nat):Int)]/\ui a M0 M b A V l c n/\c<=1000000/\n<=7000000/\V.calls[i]?=ga k/\∀M' A',ui a M0 M' b A' (qO V (vK V x i)) l c (n+2)->qX A M A' M'->Q .mM M'
def Q9(a:Ad):rH:=λds M Q=>JT λA V l L k c=>ds=[.ref A.b,.ref (sf.p k)]/\Rd a M A V l/\sC a M L k c/\Q (yr (yc l V (FV c))) M
def QE(a:Ad):rH:=λds M Q=>Nu λM0 b A V l c n i k r=>ds=[.ref b,.int ((i:Nat):Int),yr (k::r)]/\ui a M0 M b A V l c n/\c<=1000000/\n<=6900000/\WF l V/\Xb l V i (k::r)/\∀M' A',ui a M0 M' b A' (qO V (rV l V i (k::r))) l c (n+33)->qX A M A' M'->Q .mM M'
def QK(a:Ad):rH:=λds M Q=>U5 λM0 b A V l c n=>ds=[.ref b]/\ui a M0 M b A V l c n/\c<=10000/\n<=6000000/\WF l V/\∀M' A',ui a M0 M' b A' (qO V (vL l V)) l c (n+1+33*c)->qX A M A' M'->Q .mM M'
def Uo{a:Ad}{M:Mp}{c:pL}{v:Wi}{r:Uf}{Q:DK}(h:M r=ga (.ins (v.cls a) v.nH))(hk:sC a M L k c)(q:Q (.bl (FV c v)) M):Pl a v [.ref r,.ref k.p] M Q:=by
 cases v with
 | silent x y n=>exact⟨r,L,k,c,Z',h,hk,q⟩
 | _=>exact⟨_,_,Z',q⟩
def P3:Fq P w K mg base 4 a.bb (Qu a):=by
 refine fq G.bb.toDG Du (λr u=>⟨_,(pG (pW 3 Du (pT (pN v0) Y2))
 (pH (qa (wb (qm Y3 G.e.toCls G.aa (C8 G) r (qv Y1)))
 (pH (pX (qm v0 G.c.toCls G.k (rF G) r (qv (pY (rG pK Y2 pK))))))
 (pH (qa (pR u Y1 (pN Y3))
 (pG (pX (qm v0 G.c.toCls G.k (rF G) r (qv (pY (rG pK Y2 Y1)))))
 (pH (qa (pR u (qc qJ Z' G.g qG (qv (pN Y3))) pJ)
 (pH (pX (qm v0 G.c.toCls G.k (rF G) r (qv (pY (rG pK Y2 pK))))))
 pV)))
 (pH (qa (pR u (qc qJ Z' G.g qG (qv (pN Y3))) pJ)
 (pH (pX (qm v0 G.c.toCls G.k (rF G) r (qv (pY (rG pK Y2 Y1))))))
 (pH (pX (qm v0 G.c.toCls G.k (rF G) r (qv (pY (rG pK Y2 pK))))))))))))),?_⟩)
 rintro ds M Q ⟨M0,b,A,V,l,cc,n,x,i,c,rfl,cu,hcc,hn,hc,q⟩
 obtain⟨ka,ci⟩:=cu.call hc;obtain⟨ad,md,h1,h2,h3,h4,n1,n2⟩:=ci.cell;have hi:=(cX.mp hc).1;refine pI cu.at_ (pF Z' (pF Z' (pF ci.bd.ca (pF (rO ci.e1) ?_))));refine pI h1 ⟨Z',_,⟨Z',Z'⟩,_,ka,c,x,Z',ci.cell,?_⟩;unfold vK at q;rw[hc]at q;dsimp only[Option.elim]at q;have over:∀(w0:Str),(∀M' A',ui a M0 M' b A' (qO V [.over i w0]) l cc (n+2)->qX A M A' M'->Q .mM M')->∀(M1:Mp) (A1:tq),A1.b=A.b->qX A M A1 M1->pS a M1 A1 (ql V (.over i w0))->∃YQ,qN YQ M1/\Q .mM YQ:=λw0 q M1 A1 eb st bd=>⟨M1,.refl,q M1 A1 ((cu.after (e:=.over i w0) hi eb st bd).mono (dq _) (by lia)) st⟩;refine qT (c:=c.mT x) (λg=>?_) (λg=>?_)
 .rw[de g]at q;exact pI cu.at_ ⟨Z',_,⟨Z',Z'⟩,pD Z',b,A,V,.over i "left",Z',cu.b,cu.bd,cu.lim hcc (by lia),hi,over "left" q⟩
 rw[cY g]at q;refine pI h1 (pF Z' (pF h3 ⟨Z',qH _,?_⟩));show if inD (.str x) (c.at_.map D.str)=Db then _ else _
 rw[tD];refine qT (c:=hasS c.at_ x) (λg2=>?_) (λg2=>?_)
 .rw[de g2]at q;refine pI cu.at_ ⟨Z',_,⟨Z',Z'⟩,pD Z',b,A,V,.leaves i x,Z',cu.b,cu.bd,cu.lim hcc (by lia),hi,λM1 A1 eb st bd=>?_⟩;have c1:=cu.after (e:=.leaves i x) hi eb st bd;have hcs:(ql V (.leaves i x)).calls=V.calls.set i (c.drop x):=rR (V:=qZ V _) hc;have hc1:(ql V (.leaves i x)).calls[i]?=ga (c.drop x):=by rw[hcs,fE hi]
  obtain⟨ad',md',g1,g2',g3,g4,_⟩:=c1.bd.cs i ka _ (st.2.2.1 i ka ci.e1) hc1;have le0:((((c.drop x).at_.map D.str).length:Int)==0)=decide (s8 c.at_ x=[]):=by rw[cT,fM,eP,eA];show((s8 c.at_ x).length:Int)=0↔_;rw[<-gu];lia
  refine pI g1 (pF Z' (pF g3 ?_));refine qT (c:=(((c.drop x).at_.map D.str).length:Int)==0) (λg5=>?_) (λg5=>?_)
  .rw[le0,eA]at g5;rw[de g5]at q;have hi1:i<(ql V (.leaves i x)).calls.length:=(cX.mp hc1).1;refine pI c1.at_ ⟨Z',_,⟨Z',Z'⟩,pD Z',b,A1,_,.over i "refused",Z',c1.b,c1.bd,c1.lim hcc (by lia),hi1,λM2 A2 eb2 Y4 Z2=>?_⟩;exact⟨M2,.refl,q M2 A2 (c1.after (e:=.over i "refused") hi1 eb2 Y4 Z2) (st.trans Y4)⟩
  .rw[le0,eA]at g5;rw[cY g5]at q;exact⟨M1,.refl,q M1 A1 (c1.mono (dq _) (by lia)) st⟩
 .rw[cY g2]at q;refine pI h1 (pF Z' (pF h4 ?_));have lm:decide ((2:Int)<((c.ms.map D.str).length:Int))=decide (2<c.ms.length):=by rw[cT,fM,eA,eA];lia
  refine qT (c:=decide ((2:Int)<((c.ms.map D.str).length:Int))) (λg3=>?_) (λg3=>?_)
  .rw[lm,eA]at g3;rw[de g3]at q;refine pI cu.at_ ⟨Z',_,⟨Z',Z'⟩,pD Z',b,A,V,.leaves i x,Z',cu.b,cu.bd,cu.lim hcc (by lia),hi,λM1 A1 eb st bd=>?_⟩;exact⟨M1,.refl,q M1 A1 ((cu.after (e:=.leaves i x) hi eb st bd).mono (dq _) (by lia)) st⟩
  .rw[lm,eA]at g3;rw[cY g3]at q;exact pI cu.at_ ⟨Z',_,⟨Z',Z'⟩,pD Z',b,A,V,.over i "done",Z',cu.b,cu.bd,cu.lim hcc (by lia),hi,over "done" q⟩
def Ql:Fq P w K mg base 2 a.bc (Q9 a):=by
 refine fq G.bc.toDG yT (λr u=>⟨_,(pG (pW 2 yT (pN (pN v0)))
 (pH (pO (qe sT Z' G.z sS (qv (qP Z' (xN (ix:=[Fa,Fa,ga 2,ga 1]) (N':=["i","on","wishes","call"])) (ul Z' G.ae (qv (pN v0))) (uQ (n:=2) Z' (qC (qD 0) (qC (qD 1) tR))) (vE (W3.b3 (zb (wb Y1) (yG (wb (FW (R:=G' a) (pT Y2 v0) (Wv G) (r.mono (by first|decide|lia)) (qv Y3))))))) v0)))))),?_⟩)
 rintro ds M Q ⟨A,V,l,L,k,c,rfl,rd,hk,q⟩
 obtain⟨ph,gr,ws,pon,pr,gd,rs,i1,i2,i3,i4,i5,i6,i7,i8⟩:=rd.pl;refine pI rd.bd.at_ (pF Z' (pI i1 (pF Z' ?_)));refine pI rd.bd.at_ (pF Z' (pF rd.bd.on ?_));refine JG (rest:=[ga (.ref ws),ga (.ref k.p)]) rd.on rd.ok.oH rd.bd.on (λi w0 ew y kk hkk=>?_) λp hp=>pF pU ⟨M,.new hp,q⟩;obtain⟨r,e1,e2⟩:=BR i8 ew;exact pF i4 (pF e1 (pI e2 ⟨by cases w0.2<;>rfl,_,⟨w0.2,Z',Z'⟩,Uo e2 hk hkk⟩))
def Rv:Fq P w K mg base 10 a.bd (QE a):=by
 refine fq G.bd.toDG CO (λr u=>⟨_,(pG (pW 3 CO (Aq (R:=Iv a) (pT (pN (pN v0)) (pT Y2 pJ)) (Ml G) (r.mono (by first|decide|lia))))
 (pG (pX (qm v0 G.c.toCls G.k (rF G) r (qv (pY (qh pK (rG Y1 (pT Y3 pJ) Y2))))))
 (pG (pX (qm v0 G.c.toCls G.k (rF G) r (qv (pY (so pK Y1)))))
 (pG (pX (qm v0 G.c.toCls G.k (rF G) r (qv (pY (qh pK (qh Y1 (rG (pT Y3 pJ) (pT Y3 pJ) (pT Y3 pJ))))))))
 (pH (pX (pP (J0 G) r G.aj (so v0 Y1)))))))),?_⟩)
 rintro ds M Q ⟨M0,b,A,V,l,c,n,i,k,r,rfl,cu,hc,hn,wf,du,q⟩
 obtain⟨ph,gr,ws,pon,pr,gd,rs,i1,i2,i3,i4,i5,i6,i7,i8⟩:=cu.pl;cases du with
 | on k0 _ _ b0 x y m hk hs hw hl hy=>
  have hi:=(cX.mp hk).1;rw[AH hw]at q;rw[r6]at q;obtain⟨r0,e1,e2⟩:=BR i8 hw;refine pI cu.at_ (pF Z' (pI i1 (pF Z' (pF (yX _ _) (pF i4 (pF e1 (pI e2 ⟨Z',_,⟨⟨.silent x y m,Z'⟩,Z'⟩,r0,.silent x y m,Z',e2,?_⟩)))))));refine pI cu.at_ ⟨Z',_,⟨Z',Z'⟩,pD Z',b,A,V,.asks i x (k::r),Z',cu.b,cu.bd,cu.lim hc (by lia),trivial,λM1 A1 eb1 Zq bd1=>?_⟩;have c1:=cu.after (e:=.asks i x (k::r)) trivial eb1 Zq bd1;refine pI c1.at_ ⟨Z',_,⟨Z',Z'⟩,pD Z',b,A1,_,.quiet i,Z',c1.b,c1.bd,c1.lim hc (by lia),hi,λM2 A2 eb2 Y4 Z2=>?_⟩;have c2:=c1.after (e:=.quiet i) hi eb2 Y4 Z2;have ZH:i<(ql (ql V (.asks i x (k::r))) (.quiet i)).calls.length:=by show i<(V.calls.modify i pL.nO).length;rw[gh];exact hi
  refine pI c2.at_ ⟨Z',_,⟨Z',Z'⟩,pD Z',b,A2,_,.leg ⟨i,x,y,x⟩,Z',c2.b,c2.bd,c2.lim hc (by lia),ZH,λM3 A3 eb3 ZJ bd3=>?_⟩;have c3:=c2.after (e:=.leg ⟨i,x,y,x⟩) ZH eb3 ZJ bd3;exact⟨M0,b,A3,_,l,c,n+3,i,_,Z',c3,hc,by lia,F4 wf hk hs hy,Gx hk,λM4 A4 c4 st4=>⟨M4,.refl,q M4 A4 (c4.mono (dq _) (by lia)) (Zq.trans (Y4.trans (ZJ.trans st4)))⟩⟩
def Qr:Fq P w K mg base 11 a.be (QK a):=by
 refine fq G.be.toDG ut (λr u=>⟨_,(pG (pX (qm v0 G.c.toCls G.k (rF G) r (qv (pY (qv pK)))))
 (pH (vg fi Z' (ul Z' G.ae (qv (qe rW Z' G.l rT (qv (pN v0))))) (uQ (n:=2) Z' (qC (sF 1 ut) (qC (sF 2 ut) tR)))
 (pH (qa (pR u (pN Y2) pK)
 (pG (pW 3 ut (pP (Ql G) r G.bc (so v0 Y2)))
 (pH (qa (pR u (qc qJ Z' G.g qG (qv Y3)) pJ)
 (pH (pX (pP (Rv G) r G.bd (rG v0 Y1 Y3))))
 pV)))
 pV))))),?_⟩)
 rintro ds M Q ⟨M0,b,A,V,l,c,n,rfl,cu,hc,hn,wf,q⟩
 refine pI cu.at_ ⟨Z',_,⟨Z',Z'⟩,pD Z',b,A,V,.turn,Z',cu.b,cu.bd,cu.lim (by lia) (by lia),trivial,λM1 A1 eb st bd=>?_⟩;have c1:=cu.after (e:=.turn) trivial eb st bd;have wf1:=Fu wf;have lv:(ql V .turn).calls.length=V.calls.length:=cT ..;have ev:vL l V=.turn::qS l (List.range V.calls.length) (ql V .turn):=rfl;rw[ev,<-lv]at q;have q:∀M' A',ui a M0 M' b A' (qO (ql V .turn) (qS l (List.range (ql V .turn).calls.length) (ql V .turn))) l c (n+1+33*c)->qX A M A' M'->Q .mM M':=q;have c1:ui a M0 M1 b A1 (ql V .turn) l c (n+1):=c1;generalize ql V .turn=V1 at c1 wf1 q bd;refine pI c1.at_ (pF Z' (pF c1.bd.ca λr hr=>pF pU ?_));obtain⟨M2,e0,t,lr⟩:=tL (ds:=A1.cs.map λk=>D.ref k.p) hr;rw[<-e0];have nf:=c1.bd.nU hr;have c2:=c1.sub t;have cl:V1.calls.length<=c:=c1.sz.ca;refine wY (ub 0 (A1.cs.map λk=>D.ref k.p)) (λpre U M'=>(∃A',ui a M0 M' b A' (qO V1 (qS l (List.range pre.length) V1)) l c (n+1+33*pre.length)/\qX A1 M2 A' M')/\∃y1 y2 y3,U=[ga (.ref b),y1,y2,y3]) (λpre U M' j=>?_) _ [] _ _ Z' ⟨⟨A1,c2,.refl⟩,Fa,Fa,Fa,Z'⟩ ?_ ?_
 .obtain⟨⟨A',c3,ZJ⟩,_⟩:=j;exact sj (ZJ.1 r _ nf (qg lr))
 .rintro pre d post e U M' ⟨⟨A',c3,ZJ⟩,y1,y2,y3,rfl⟩ nx YU
  rw[cW,dD,iu,EC,r6]at YU;have wf3:=FC cu.ok (List.range pre.length) wf1;generalize qO V1 (qS l (List.range pre.length) V1)=V3 at c3 wf3 YU;obtain⟨x,hx,rfl⟩:=KJ e;rw[dv]at hx;cases ek:A1.cs[pre.length]? with
  | none=>rw[ek]at hx;cases hx
  | some k=>
   rw[ek]at hx;have hx:D.ref k.p=x:=df hx;subst hx;have hp:pre.length<c:=by have:=(cX.mp ek).1;rw[c1.bd.len]at this;lia
   have ek3:=ZJ.2.2.1 _ k ek;have hi:pre.length<V3.calls.length:=by rw[<-c3.bd.len];exact(cX.mp ek3).1
   have ec:V3.calls[pre.length]?=ga V3.calls[pre.length]:=cV hi;generalize V3.calls[pre.length]=cv at ec;have ca:=c3.bd.cs _ k cv ek3 ec;obtain⟨ad,md,g1,_⟩:=ca;refine⟨Z',pI g1 (pF Z' ?_)⟩;have hdv:vR l V3 pre.length=if (cv.st=="rings")=Db then yc l V3 (FV cv)else[]:=by unfold vR;rw[ec];rfl
   have mM:vR l V3 pre.length=[]->∀y1' y2' y3',nx [ga (.ref b),y1',y2',y3'] M':=λh0 y1' y2' y3'=>YU _ _ ⟨⟨A',by rw[h0];exact c3.mono (dq _) (by lia),ZJ⟩,_,_,_,Z'⟩;have du:=Io (V:=V3) (i:=pre.length) cu.ok;refine qT (c:=cv.st=="rings") (λg=>?_) (λg=>mM (by rw[hdv,cY g]) _ _ _);rw[de g]at hdv;refine⟨A',V3,l,_,k,cv,by rw[c3.b],c3.rd (by lia) wf3,c3.bd.cs _ k cv ek3 ec,?_⟩;rw[<-hdv];cases hdq:vR l V3 pre.length with
   | nil=>exact mM hdq _ _ _
   | cons k0 r0=>rw[hdq]at du YU;refine BA (dX (by rw[cT];show(0:Int)<((k0::r0).length:Nat);rw[d4];lia)) ?_;exact⟨M0,b,A',V3,l,c,_,pre.length,k0,r0,Z',c3,by lia,by lia,wf3,du,λM4 A4 c4 st4=>YU _ _ ⟨⟨A4,c4.mono (dq _) (by lia),ZJ.trans st4⟩,_,_,_,Z'⟩⟩
 .rintro U M' ⟨⟨A',c3,ZJ⟩,y1,y2,y3,rfl⟩
  have hl:(ub 0 (A1.cs.map λk=>D.ref k.p)).length=V1.calls.length:=by rw[uf,cT,c1.bd.len]
  rw[hl]at c3;exact⟨M',.refl,q M' A' (c3.mono (dq _) (by lia)) (st.trans ((qX.sub t).trans ZJ))⟩
inductive Se(l:pM)(V:qu):qL->Ev->Prop
 | sw (b:Bool) (i:Nat):i<V.on.length->Se l V (.sw b (i:Nat)) (.sw b i)
 | answer (x:Str) (i:Nat) (c:pL):V.calls[i]?=ga c->Se l V (.num "answer" x [(i:Nat)]) (.talks i [c.cr,x])
 | hold (x:Str) (i:Nat) (c:pL):V.calls[i]?=ga c->Se l V (.num "hold" x [(i:Nat)]) (.held i x)
 | back (x:Str) (i:Nat) (c:pL):V.calls[i]?=ga c->Se l V (.num "back" x [(i:Nat)]) (.talks i c.ms)
 | two (w x:Str) (i j:Nat) (c d:pL):i≠j->w="hand"\/w="join"->V.calls[i]?=ga c->V.calls[j]?=ga d->s8 c.ms x≠[]->s8 d.ms x≠[]->Se l V (.num w x [(i:Nat),(j:Nat)]) (.merge i j (if (w=="hand")=Db then[qI c x,qI d x]else[x,qI c x,qI d x]))
def G1(a:Ad):rH:=λds M Q=>HX λA V l e ev=>ds=[.ref A.b,qL.d e]/\Rd a M A V l/\Se l V e ev/\Q ev.d M
def SV(a:Ad):rH:=λds M Q=>S5 λM0 b A V l c n e=>ds=[.ref b,qL.d e]/\ui a M0 M b A V l c n/\c<10000/\n<=5000000/\WF l V/\e.mZ/\vv l V e=Fa/\∀M' A',ui a M0 M' b A' (qO V (vA l V e)) l (c+1) (n+40+33*c)->qX A M A' M'->Q .mM M'
def Xe(a:Ad)(M0 M:Mp)(b:Uf)(A:tq)(V:qu)(l:pM)(c n:Nat)(e:qL)(Q:DK):Prop:=vv l V e=Fa->∀M' A' r,ui a M0 M' b A' (qO V (vA l V e)) l (c+1) (n+40+33*c)->qX A M A' M'->M' r=Fa->Q (.ref r) (pQ M' r (.lst ((vA l V e).map Ev.d)))
def Wr(a:Ad):ET:=λds M Q R=>S5 λM0 b A V l c n e=>ds=[.ref b,qL.d e]/\ui a M0 M b A V l c n/\c<10000/\n<=5000000/\WF l V/\e.mZ/\Xe a M0 M b A V l c n e Q/\(∀w,vv l V e=ga w->R a.M (ga ("word",.str w)) M)
def Rd.call{V:qu}(rd:Rd a M A V l){i:Nat}{c:pL}(e:V.calls[i]?=ga c):∃k,A.cs[i]?=ga k/\sC a M (A.lists++V.fo) k c:=by
 have hi:i<A.cs.length:=by rw[rd.bd.len];exact(cX.mp e).1
 exact⟨A.cs[i],cV hi,rd.bd.cs i _ c (cV hi) e⟩
def zG{i:Int}(h:0<=i):∃m:Nat,i=(m:Int):=eB h
def JS{c:pL}{x:Str}(nd:c.ms.Nodup)(h2:c.ms.length=2)(hx:x∈c.ms):s8 c.ms x≠[]:=λz=>by have:=yd nd hx;rw[z]at this;simp only[dH]at this;lia
def O6:Fq P w K mg base 2 a.bf (G1 a):=by
 refine fq G.bf.toDG uc (λr u=>⟨_,(pG (pW 2 uc (pT Y1 pJ))
 (pG (qa (pR u Y2 (pY (so pK pK)))
 (pH (pO (pY (so Y2 (pT Y1 pJ)))))
 pV)
 (pG (pW 3 uc (pT Y1 pJ))
 (pG (pW 4 uc (pT Y1 pJ))
 (pG (pW 5 uc (pT (pN v0) v4))
 (pG (qa (pR u Y2 pK)
 (pH (pO (pY (rG pK v4 (pY (so (pN v5) Y3))))))
 pV)
 (pG (qa (pR u Y2 pK)
 (pH (pO (pY (rG pK v4 Y3))))
 pV)
 (pG (qa (pR u Y2 pK)
 (pH (pO (pY (rG pK v4 (qe sT Z' G.z sS (qv (pN v5)))))))
 pV)
 (pG (pW 6 uc (pT Y1 pJ))
 (pG (pW 7 uc (pY (so (qm v5 G.e.toCls G.aA (Hf G) r (qv Y3)) (qm (pT (pN v0) v6) G.e.toCls G.aA (Hf G) r (qv Y3)))))
 (pG (qa (pR u Y2 pK)
 (pH (pO (pY (qh pK (rG v4 v6 v7)))))
 pV)
 (pH (pO (pY (qh pK (rG v4 v6 (qk (pY (qv Y3)) v7))))))))))))))))),?_⟩)
 rintro ds M Q ⟨A,V,l,e,ev,rfl,rd,sg,q⟩
 cases sg with
 | sw b i hi=>
  cases b with
  | true=>exact⟨pD Z',Z',Z',pD Z',M,.refl,q⟩
  | false=>exact⟨pD Z',Z',Z',pD Z',M,.refl,q⟩
 | answer x i c hc=>obtain⟨k,ek,ca⟩:=rd.call hc;obtain⟨ad,md,h1,h2,h3,h4,n1,n2⟩:=ca;refine⟨pD Z',Z',Z',?_⟩;refine pI rd.bd.at_ (pF Z' (pF Z' (pF rd.bd.ca (pF (rO ek) ?_))));exact pI h1 (pF Z' ⟨pD Z',pD Z',M,.refl,q⟩)
 | hold x i c hc=>obtain⟨k,ek,ca⟩:=rd.call hc;refine⟨pD Z',Z',Z',?_⟩;refine pI rd.bd.at_ (pF Z' (pF Z' (pF rd.bd.ca (pF (rO ek) ?_))));exact⟨pD Z',M,.refl,q⟩
 | back x i c hc=>obtain⟨k,ek,ca⟩:=rd.call hc;obtain⟨ad,md,h1,h2,h3,h4,n1,n2⟩:=ca;refine⟨pD Z',Z',Z',?_⟩;refine pI rd.bd.at_ (pF Z' (pF Z' (pF rd.bd.ca (pF (rO ek) ?_))));exact pI h1 (pF Z' (pF h4 ⟨pD Z',M,.refl,q⟩))
 | two wd x i j c d ZN hw hc hd nc nd=>
  obtain⟨k,ek,ca⟩:=rd.call hc;obtain⟨k',ek',ca'⟩:=rd.call hd;have ca0:=ca;have ca1:=ca';obtain⟨ad,md,h1,h2,h3,h4,n1,n2⟩:=ca0;obtain⟨ad',md',f1,_⟩:=ca1;obtain⟨y1,r1,e1⟩:=gg nc;obtain⟨y2,r2,e2⟩:=gg nd;have o1:qI c x=y1:=by unfold qI;rw[e1];rfl
  have o2:qI d x=y2:=by unfold qI;rw[e2];rfl
  rw[o1,o2]at q;rcases hw with rfl|rfl
  .refine⟨pD Z',Z',Z',?_⟩;refine pI rd.bd.at_ (pF Z' (pF Z' (pF rd.bd.ca (pF (rO ek) ?_))));refine pI h1 ⟨Z',_,⟨Z',Z'⟩,_,k,c,x,y1,r1,Z',ca,(rd.ms c (qR hc)).2,e1,?_⟩;refine pI rd.bd.at_ (pF Z' (pF Z' (pF rd.bd.ca (pF (rO ek') ?_))));refine pI f1 ⟨Z',_,⟨Z',Z'⟩,_,k',d,x,y2,r2,Z',ca',(rd.ms d (qR hd)).2,e2,?_⟩;exact⟨pD Z',pD Z',M,.refl,q⟩
  .refine⟨pD Z',Z',Z',?_⟩;refine pI rd.bd.at_ (pF Z' (pF Z' (pF rd.bd.ca (pF (rO ek) ?_))));refine pI h1 ⟨Z',_,⟨Z',Z'⟩,_,k,c,x,y1,r1,Z',ca,(rd.ms c (qR hc)).2,e1,?_⟩;refine pI rd.bd.at_ (pF Z' (pF Z' (pF rd.bd.ca (pF (rO ek') ?_))));refine pI f1 ⟨Z',_,⟨Z',Z'⟩,_,k',d,x,y2,r2,Z',ca',(rd.ms d (qR hd)).2,e2,?_⟩;exact⟨pD Z',pD Z',fu _ _,by show 1+2<=Ch;have hz:=dM;lia,pD Z',M,.refl,q⟩
def UN:Fq P w K mg base 12 a.bg (SV a):=by
 refine fq G.bg.toDG NO (λr u=>⟨_,(pG (pW 2 NO (pT Y1 pJ))
 (pH (qa (pR u Y2 pK)
 (pH (pX (pP (Ph G) r G.ba (rG v0 (pT Y1 pJ) (pT Y1 pJ)))))
 (pH (qa (pR u Y2 pK)
 (pH (pX (pP (P3 G) r G.bb (rG v0 (pT Y1 pJ) (pT Y1 pJ)))))
 (pH (qa (pR u Y2 pK)
 (pH (pX (pP (Qr G) r G.be (qv v0))))
 (pH (pX (qm v0 G.c.toCls G.k (rF G) r (qv (pP (O6 G) r G.bf (so v0 Y1))))))))))))),?_⟩)
 rintro ds M Q ⟨M0,b,A,V,l,c,n,e,rfl,cu,hc,hn,wf,hf,hr,q⟩
 have rd:=cu.rd (by lia) wf;have one:∀(ev:Ev),Se l V e ev->vA l V e=[ev]->ev.ok V->ev.nw=0->AO (M b) λC fs'=>fs'.lookup ("apply":Str)=Fa/\∃sp,(C=a.c/\sp=wZ a)/\G1 a [.ref b,e.d] M λd M1=>sp [.ref b,d] M1 λ_ M'=>∃YQ,qN YQ M'/\Q .mM YQ:=λev sg he ok h0=>by refine pI cu.at_ ⟨Z',_,⟨Z',Z'⟩,A,V,l,e,ev,by rw[cu.b],rd,sg,b,A,V,ev,Z',cu.b,cu.bd,cu.lim (by lia) (by lia),ok,λM1 A1 eb st bd=>?_⟩;rw[he]at q;have c1:=cu.after ok eb st bd;rw[h0]at c1;exact⟨M1,.refl,q M1 A1 (c1.mono (by lia) (by lia)) st⟩
 cases e with
 | call y z=>obtain⟨h1,h2,h3,h4⟩:=Gf hr;exact⟨M0,b,A,V,l,c,n,y,z,Z',cu,by lia,by lia,IM wf h1 h2 h3 h4,λM' A' c1 st=>⟨M',.refl,q M' A' (c1.mono (by lia) (by lia)) st⟩⟩
 | turn=>exact⟨M0,b,A,V,l,c,n,Z',cu,by lia,by lia,wf,λM' A' c1 st=>⟨M',.refl,q M' A' (c1.mono (by lia) (by lia)) st⟩⟩
 | sw b0 i=>
  obtain⟨h1,h2⟩:=WW hr;obtain⟨i,rfl⟩:=zG h1;cases b0 with
  | true=>exact one (.sw Db i) (.sw Db i h2) Z' h2 Z'
  | false=>exact one (.sw pc i) (.sw pc i h2) Z' h2 Z'
 | num wd x ns=>
  obtain⟨hx,no⟩:=Jj hf hr;cases no with
  | answer i c0 hi hc0 h1 h2 h3=>obtain⟨i,rfl⟩:=zG hi;have lt:=(cX.mp hc0).1;exact one (.talks i [c0.cr,x]) (.answer x i c0 hc0) (eE (λev=>[ev]) (Ai hc0)) ⟨lt,by show 2<=100;decide⟩ Z'
  | hang i c0 hi hc0 h1=>obtain⟨i,rfl⟩:=zG hi;exact⟨M0,b,A,V,l,c,n,x,i,c0,Z',cu,by lia,by lia,hc0,λM' A' c1 st=>⟨M',.refl,q M' A' (c1.mono (by lia) (by lia)) st⟩⟩
  | hold i c0 hi hc0 h1=>obtain⟨i,rfl⟩:=zG hi;have lt:=(cX.mp hc0).1;exact one (.held i x) (.hold x i c0 hc0) (eE (λev=>[ev]) (Ai hc0)) lt Z'
  | back i c0 hi hc0 h1 h2=>obtain⟨i,rfl⟩:=zG hi;have lt:=(cX.mp hc0).1;exact one (.talks i c0.ms) (.back x i c0 hc0) (eE (λev=>[ev]) (Ai hc0)) ⟨lt,(cu.sz.cs c0 (qR hc0)).2.2⟩ Z'
  | two _ i j c0 d0 hi hj hw hc0 hd0 h1 h2=>
   obtain⟨i,rfl⟩:=zG hi;obtain⟨j,rfl⟩:=zG hj;have lt:=(cX.mp hc0).1;have lt':=(cX.mp hd0).1;have ZN:=(JI (w:=wd) wf hc0 hd0 h1 h2).1;have k0:=wf.ok _ c0 hc0;have k1:=wf.ok _ d0 hd0;obtain⟨_,u2,u3,_⟩:=E1 k0 h1;obtain⟨_,v2,v3⟩:=AN.mp h2;have sg:=Se.two (l:=l) wd x i j c0 d0 ZN hw hc0 hd0 (JS k0.mn u2 u3) (JS k1.mn v3 v2);have ok:(Ev.merge i j (if (wd=="hand")=Db then[qI c0 x,qI d0 x]else[x,qI c0 x,qI d0 x])).ok V:=⟨lt,lt',ZN,by split;exact(by decide:2<=100);exact(by decide:3<=100)⟩;have he:vA l V (.num wd x [(i:Int),(j:Int)])=[.merge i j (if (wd=="hand")=Db then[qI c0 x,qI d0 x]else[x,qI c0 x,qI d0 x])]:=eE (λev=>[ev]) (IA hc0 hd0);rcases hw with rfl|rfl
   .exact one _ sg he ok Z'
   .exact one _ sg he ok Z'
def Lw:xS P w K mg base (BE P w) 1 a.L.f a.L.d a.L.p (xc K "word"):=
 Nc G.L.toDG Cu λYX A outer s H E=>Km (Qv (pv 0) (pv 1))
def Sh:Xr P w K mg base 13 a.F (Wr a):=by
 refine VX G.F.toDG IH (by walk_at "m") (λ_ _ _ _ _ _ R hr hR=>⟨_,(pG (pW 2 IH (pP (Dk G) hr G.ai (so v0 Y1)))
 (pG (qa (pR (Yn hr) Y2 sv)
 (pH (Ls G.b9 (Lw G) (hr.mono (by first|decide|lia)) G.L.b G.ca G.L.at_ Z' G.bZ hR (qv Y2)))
 pV)
 (pG (pW 3 IH (qc qJ Z' G.g qG (qv (pN v0))))
 (pG (pX (pP (UN G) hr G.bg (so v0 Y1)))
 (pH (pO (tI (pN v0) (uo Y3) uq))))))),?_⟩)
 .rintro ds M Q ⟨M0,b,A,V,l,c,n,e,rfl,cu,hc,hn,wf,hf,q,rr⟩
  refine⟨A,V,l,e,by rw[cu.b],cu.rd (by lia) wf,hf,?_⟩;cases er:vv l V e with
  | some w0=>exact⟨_,Z',rr w0 er⟩
  | none=>
   refine pI cu.at_ (pF Z' (pF cu.bd.lo ?_));refine⟨M0,b,A,V,l,c,n,e,Z',cu,hc,hn,wf,hf,er,λM' A' c1 st=>?_⟩;refine pI c1.at_ (pF Z' (pF c1.bd.lo λp hp=>?_));have hcut:L3.vD ((qO V (vA l V e)).log.map Ev.d) (ga (((V.log.map Ev.d).length:Nat):Int)) Fa=(vA l V e).map Ev.d:=by rw[JK,dF,Jv _ _ (by rw[cW];lia),List.drop_left]
   rw[hcut];exact⟨_,.refl,q er M' A' p c1 st hp⟩
def Ru(a:Ad):rH:=λds M Q=>S5 λM0 b A V l c n e=>ds=[.ref b,qL.d e]/\ui a M0 M b A V l c n/\c<10000/\n<=5000000/\WF l V/\e.mZ/\Xe a M0 M b A V l c n e Q/\(vv l V e≠Fa->Q .mM M)
def P4:Fq P w K mg base 14 a.bA (Ru a):=by
 refine fq G.bA.toDG wD (λr u=>⟨_,(pG (pW 2 wD sv)
 (pG (PN (ix:=2) (MQ (Sh G) (r.mono (by first|decide|lia)) Z' G.F.mg G.F.toDG.kp G.F.b (so v0 Y1)) Z' Z' Z' G.bZ wD.nd Z' Z' (λev E'=>
 (pH (pW 2 wD sv))))
 (pH (pO Y2)))),?_⟩)
 rintro ds M Q ⟨M0,b,A,V,l,c,n,e,rfl,cu,hc,hn,wf,hf,q,qf⟩
 refine⟨λC _ M'=>(C=a.M/\vv l V e≠Fa)/\M=M',?_,?_⟩
 .exact⟨M0,b,A,V,l,c,n,e,Z',cu,hc,hn,wf,hf,λh M' A' r c1 st hm=>⟨_,.refl,q h M' A' r c1 st hm⟩,λw h=>⟨⟨Z',by rw[h];exact λz=>nomatch z⟩,Z'⟩⟩
 .rintro C y M' ⟨⟨rfl,h⟩,rfl⟩
  exact⟨G.cb,M,.refl,qf h⟩
noncomputable def wC(g:uP):Bool:=g.2.1==("turns":Str)
def vJ(l:pM):T0 (Str×Int):=(l.groups.filter wC).map λg=>(g.1,0)
def V0(p:Uf)(h:Int)(l:pM)(F:QXQ):qu:=⟨p,h,0,[],[],vJ l,l.mG.map (·.1),[],F⟩
def Ft(a:Ad):rH:=λds M Q=>HX λb p h F (l:pM)=>ds=[.ref b,.ref p,.int h]/\M b=ga (.ins a.c [])/\rM a M p l/\rb l/\p≠b/\(∀x∈F,∃c,M x=ga c)/\∀M' A,A.b=b->sH b M M'->(∀x∈A.foot,x=b\/M x=Fa)->pS a M' A (V0 p h l F)->Q .mM M'
noncomputable def O0(g:D):Bool:=match g with
 | .tup (_::.str m::_)=>m=="turns"
 | _=>pc
def SE(d:D):D:=.tup [Eb d,.int 0]
def I9(gs:List uP):((gs.map rK).filter O0).map SE=(gs.filter wC).map λg=>D.tup [.str g.1,.int 0]:=by rw[gk,d6];rfl
def Lr(l:pM):((l.groups.filter wC).map λg=>((Sum.inr g.1:rD),D.int 0))=tZ (vJ l):=by unfold tZ vJ;rw[d6];rfl
noncomputable def bF(p:Uf)(h:Int)(ca le nx on2:Uf)(k:Nat):T0 (Str×D):=List.take (α:=Str×D) k [("plan",.ref p),("hour",.int h),("turn",.int 0),("calls",.ref ca),("legs",.ref le),("nexts",.ref nx),("on",.ref on2)]
def Dc:Fq P w K mg base 1 a.P (Ft a):=by
 refine fq G.P.toDG D7 (λr u=>⟨_,(pG (qw v0 Y1)
 (pG (qw v0 Y2)
 (pG (qw v0 pJ)
 (pG (qw v0 (qW sE))
 (pG (qw v0 (qW sE))
 (pG (qw v0 (qe (EY Z') Z' G.bY FE (qv (qP Z' (xN (ix:=[Fa]) (N':=["group"])) (qV (pN Y1)) (qD 0) (vE (pR u (pT v0 pJ) pK)) (pY (so (pT v0 pJ) pJ))))))
 (pG (qw v0 (qe rW Z' G.l rT (qv (pN Y1))))
 (pH (qw v0 (qW sE)))))))))),?_⟩)
 rintro ds M Q ⟨b,p,h,F,l,rfl,hb,⟨ph,gr,ws,on,pr,gd,rs,i1,i2,i3,i4,i5,i6,i7,i8⟩,ok,nbp,hF,q⟩
 have hz:=dM;have l2:=ok.g3;refine pI hb ⟨(G.E "plan" Z'),by show 0<1000;decide,?_⟩;have k1:sH b M (pQ M b (.ins a.c [("plan",.ref p)])):=.put;have b1:pQ M b (.ins a.c [("plan",.ref p)]) b=ga (.ins a.c [("plan",.ref p)]):=pZ;show vb _ _ _ _ (pQ M b (.ins a.c [("plan",.ref p)]));generalize pQ M b (.ins a.c [("plan",.ref p)])=N1 at k1 b1 ⊢;refine pI b1 ⟨(G.E "hour" Z'),by show 1<1000;decide,?_⟩;have k2:=k1.trans (sH.put (p:=b) (c:=.ins a.c [("plan",.ref p),("hour",.int h)]));have b2:pQ N1 b (.ins a.c [("plan",.ref p),("hour",.int h)]) b=ga (.ins a.c [("plan",.ref p),("hour",.int h)]):=pZ;show vb _ _ _ _ (pQ N1 b (.ins a.c [("plan",.ref p),("hour",.int h)]));generalize pQ N1 b (.ins a.c [("plan",.ref p),("hour",.int h)])=N2 at k2 b2 ⊢;refine pI b2 ⟨(G.E "turn" Z'),by show 2<1000;decide,?_⟩;have k3:=k2.trans (sH.put (p:=b) (c:=.ins a.c (bF p h 0 0 0 0 3)));have b3:pQ N2 b (.ins a.c (bF p h 0 0 0 0 3)) b=ga (.ins a.c (bF p h 0 0 0 0 3)):=pZ;show vb _ _ _ _ (pQ N2 b (.ins a.c (bF p h 0 0 0 0 3)));generalize pQ N2 b (.ins a.c (bF p h 0 0 0 0 3))=N3 at k3 b3 ⊢;clear k1 k2 b1 b2;refine⟨pD Z',λca hca=>?_⟩;obtain⟨n4,e4,k4,c4,b4⟩:=tQ (fs':=(bF p h ca 0 0 0 4)) (c:=.lst []) b3 hca;refine pI e4 ⟨(G.E "calls" Z'),by show 3<1000;decide,?_⟩;show vb _ _ _ _ (pQ (pQ N3 ca (.lst [])) b (.ins a.c (bF p h ca 0 0 0 4)));generalize pQ (pQ N3 ca (.lst [])) b (.ins a.c (bF p h ca 0 0 0 4))=N4 at k4 c4 b4 ⊢;have kk4:=k3.trans k4;have z1:M ca=Fa:=sd k3 b3 hca;have lc4:oP N4 ca=ga []:=sj c4;refine⟨pD Z',λle hle=>?_⟩;obtain⟨n5,e5,k5,c5,b5⟩:=tQ (fs':=(bF p h ca le 0 0 5)) (c:=.lst []) b4 hle;refine pI e5 ⟨(G.E "legs" Z'),by show 4<1000;decide,?_⟩;show vb _ _ _ _ (pQ (pQ N4 le (.lst [])) b (.ins a.c (bF p h ca le 0 0 5)));generalize pQ (pQ N4 le (.lst [])) b (.ins a.c (bF p h ca le 0 0 5))=N5 at k5 c5 b5 ⊢;have kk5:=kk4.trans k5;have z2:M le=Fa:=sd kk4 b4 hle;have le5:oP N5 le=ga []:=sj c5;have mcl:le≠ca:=λz=>by rw[z,qg lc4]at hle;cases hle
 have lc5:=k5.lst (qd lc4 b4) lc4;have p5:=kk5 _ _ nbp i1;have g5:=kk5.lst (qd i3 hb) i3;clear k3 k4 k5 kk4 lc4 c4 c5 e4 e5 b3 b4;refine pI p5 (pF Z' (pF g5 ?_));refine uj (f:=SE) (t:=O0) g5 _ [] _ (by rw[cT];simp only[dH];lia) (λd hd k hk=>?_) (λd hd _ k hk=>?_) λq1 ZI=>?_
 .obtain⟨v,_,rfl⟩:=dE.mp hd;exact hk
 .obtain⟨v,_,rfl⟩:=dE.mp hd;exact⟨pD Z',hk⟩
 rw[d9,I9];have sq1:=qN.new (c:=.lst ((l.groups.filter wC).map λg=>D.tup [.str g.1,.int 0])) ZI;refine pF pU (pF (xy (λg:uP=>g.1) (λ_=>D.int 0) _) ⟨zh (iF (List.Sublist.map _ gb) (iF (jz _ _) ok.nd)),λnx YU=>?_⟩);have z3:M nx=Fa:=sd kk5 b5 (sq1.none YU);obtain⟨n6,e6,k6,c6,b6⟩:=tQ (fs':=(bF p h ca le nx 0 6)) (c:=.dk ((l.groups.filter wC).map λg=>((Sum.inr g.1:rD),D.int 0))) (sq1 _ _ b5) YU;refine pI e6 ⟨(G.E "nexts" Z'),by show 5<1000;decide,?_⟩;have k6:=sq1.keep.trans k6;have eput:wW "nexts" (.ref nx) (bF p h ca le 0 0 5)=(bF p h ca le nx 0 6):=rfl;rw[eput];generalize pQ (pQ (pQ N5 q1 (.lst ((l.groups.filter wC).map λg=>D.tup [.str g.1,.int 0]))) nx (.dk ((l.groups.filter wC).map λg=>((Sum.inr g.1:rD),D.int 0)))) b (.ins a.c (bF p h ca le nx 0 6))=N6 at k6 b6 c6 ⊢;have x6:zY N6 nx=ga ((l.groups.filter wC).map λg=>((Sum.inr g.1:rD),D.int 0)):=CY c6;have kk6:=kk5.trans k6;have lc6:=k6.lst (qd lc5 b5) lc5;have le6:=k6.lst (qd le5 b5) le5;have p6:=kk6 _ _ nbp i1;have o6:=kk6.lst (qd i5 hb) i5;clear kk5 k6 lc5 p5 g5 e6 c6;refine pI p6 (pF Z' (pF o6 λon2 hon=>?_));have z4:M on2=Fa:=sd kk6 b6 hon;obtain⟨n7,e7,k7,c7,b7⟩:=tQ (fs':=(bF p h ca le nx on2 7)) (c:=.lst (l.mG.map λw=>D.bl w.1)) b6 hon;refine pI e7 ⟨(G.E "on" Z'),by show 6<1000;decide,?_⟩;have eput:wW "on" (.ref on2) (bF p h ca le nx 0 6)=(bF p h ca le nx on2 7):=rfl;rw[eput];generalize pQ (pQ N6 on2 (.lst (l.mG.map λw=>D.bl w.1))) b (.ins a.c (bF p h ca le nx on2 7))=N7 at k7 b7 c7 ⊢;have kk7:=kk6.trans k7;have lc7:=k7.lst (qd lc6 b6) lc6;have le7:=k7.lst (qd le6 b6) le6;have x7:=k7.dk (Dy x6 b6) x6;have lo7:oP N7 on2=ga ((l.mG.map (·.1)).map D.bl):=by rw[d6];exact sj c7
 refine⟨pD Z',λlg hlg=>?_⟩;obtain⟨n8,e8,k8,c8,b8⟩:=tQ (fs':=uz (.ref p) h 0 ca le nx on2 lg) (c:=.lst []) b7 hlg;refine pI e8 ⟨(G.E "log" Z'),by show 7<1000;decide,_,.refl,?_⟩;have apart:∀{N:Mp} {x y:Uf} {ds:T0 D},N x=Fa->oP N y=ga ds->x≠y:=λ{N x y ds} h1 h2 z=>by have:=qg h2;rw[<-z,h1]at this;cases this
 have y5:=sd kk7 b7 hlg;refine q _ ⟨b,ca,le,nx,on2,lg,[]⟩ Z' (kk7.trans k8) (λx hx=>?_) ⟨b8,k8.lst (qd lc7 b7) lc7,k8.lst (qd le7 b7) le7,?_,k8.lst (qd lo7 b7) lo7,sj c8,Z',λi k c e=>by simp at e,?_,dR.mpr ⟨dQ,eJ⟩,λx hx=>?_⟩
 rotate_right
 .by_cases z:x=b
  .exact⟨_,by rw[z];exact b8⟩
  .obtain⟨c,e⟩:=hF x hx;exact⟨c,(kk7.trans k8) x c z e⟩
 .have hx:x∈[b,nx,ca,le,on2,lg]:=by
   unfold tq.foot tq.lists at hx
   simpa using hx
  simp only[dg,dQ,fP]at hx;rcases hx with rfl|rfl|rfl|rfl|rfl|rfl
  .exact .inl Z'
  .exact .inr z3
  .exact .inr z1
  .exact .inr z2
  .exact .inr z4
  .exact .inr y5
 .show zY _ nx=ga (tZ (vJ l));rw[<-Lr];exact k8.dk (Dy x7 b7) x7
 .have m1:=apart hlg lc7;have m2:=apart hlg le7;have m3:=apart hlg lo7;have m4:=apart hon lc6;have m5:=apart hon le6;show[ca,le,on2,lg].Nodup;simp only[dR,dg,dQ,fP,ib,not_false_eq_true,eJ,and_true];exact⟨⟨dW mcl,dW m4,dW m1⟩,⟨dW m5,dW m2⟩,dW m3⟩
def SM{p:Uf}{F:QXQ}(ok:rb l):WF l (V0 p h l F):=by
 refine⟨λi c e=>by simp[V0]at e,λi j ci cj x e=>by simp[V0]at e,λx hx=>?_,λi j ci cj x e=>by simp[V0]at e,λz hz ht=>?_⟩
 .show((0:Nat):Int)<=xG l x;unfold xG;cases e:l.m7 x with
  | none=>exact Int.le_refl _
  | some v=>have:=(ok.po v (gi e)).l1;show(0:Int)<=v.2.1;lia
 .show ∃v,(vJ l).find? (λp=>decide (p.1=z))=ga v/\_;unfold pM.mP at ht;cases e:l.group z with
  | none=>rw[e]at ht;exact absurd ht (by decide)
  | some g=>
   rw[e]at ht;have hg:=gi e;have hn:g.1=z:=by simpa using mh e
   have hm:((g.1,0):Str×Int)∈vJ l:=dE.mpr ⟨g,eY.mpr ⟨hg,ht⟩,Z'⟩;cases q:(vJ l).find? (λp=>decide (p.1=z))with
   | none=>exact absurd (gU.mp q _ hm) (by simp[hn])
   | some v=>refine⟨v,Z',?_⟩;obtain⟨g',_,rfl⟩:=dE.mp (gi q);exact⟨Int.le_refl _,Int.natCast_nonneg _⟩
noncomputable def qu.at_(V:qu)(p:Uf)(F:QXQ):qu:={V with p:=p,fo:=F}
def J3(V:qu)(p:Uf)(F:QXQ)(e:Ev):ql (V.at_ p F) e=(ql V e).at_ p F:=by cases e<;>rfl
theorem Aw(p:Uf)(F:QXQ):∀(es:T0 Ev) (V:qu),qO (V.at_ p F) es=(qO V es).at_ p F
 | [],_=>rfl
 | e::r,V=>by show qO (ql (V.at_ p F) e) r=_;rw[J3,Aw p F r];rfl
def xT(c:pL):D:=.tup [.str c.st,.str c.cr,.tup (c.way.map D.str),.tup (c.at_.map D.str),.tup (c.ms.map D.str),BV c.hd,.int c.si,BV c.wd]
def VN(V:qu):D:=.tup [.int V.t,.tup (V.calls.map xT),.tup ((tP V.ps).map zV),.tup (V.on.map D.bl)]
def QT(a:Ad):rH:=λds M Q=>Ed λL k c=>ds=[.ref k.p]/\sC a M L k c/\Q (xT c) M
def Ij(a:Ad):rH:=λds M Q=>Dn λA V=>ds=[.ref A.b]/\pS a M A V/\V.calls.length<=10000/\V.ps.length<=3/\Q (VN V) M
def AF(ok:rb l):(vJ l).length<=3:=by unfold vJ;rw[cT];exact dZ (fL _ _) ok.g3
def RJ:Fq P w K mg base 1 a.aW (QT a):=by
 refine fq G.aW.toDG xM (λr u=>⟨_,(pG (pW 1 xM (pY (rG (qe sT Z' G.z sS (qv (pN v0))) (qe sT Z' G.z sS (qv (pN v0))) (qe sT Z' G.z sS (qv (pN v0))))))
 (pH (pO (qk (qk (pY (so (pN v0) (pN v0))) Y1) (pY (rG (pN v0) (pN v0) (pN v0))))))),?_⟩)
 rintro ds M Q ⟨L,k,c,rfl,⟨ad,md,h1,h2,h3,h4,_⟩,q⟩
 have hz:=dM;refine pI h1 (pF Z' (pF h2 (pI h1 (pF Z' (pF h3 (pI h1 (pF Z' (pF h4 ⟨pD Z',?_⟩))))))));refine pI h1 (pF Z' (pI h1 (pF Z' ⟨pD Z',fu _ _,by show 2+3<=Ch;lia,?_⟩)));exact pI h1 (pF Z' (pI h1 (pF Z' (pI h1 (pF Z' ⟨pD Z',fu _ _,by show 5+3<=Ch;lia,M,.refl,q⟩)))))
def Ds:Fq P w K mg base 2 a.ag (Ij a):=by
 refine fq G.ag.toDG Cz (λr u=>⟨_,(pG (pW 1 Cz (qe sT Z' G.z sS (qv (qP Z' (xN (ix:=[Fa]) (N':=["call"])) (qV (pN v0)) (qD 0) rX (pP (RJ G) r G.aW (qv v0))))))
 (pH (pO (pY (qh (pN v0) (rG Y1 (qe sT Z' G.z sS (qv (FH Z' (pN v0) Z' G.cE))) (qe sT Z' G.z sS (qv (pN v0))))))))),?_⟩)
 rintro ds M Q ⟨A,V,rfl,bd,Zh,h3,q⟩
 have hz:=dM;refine pI bd.at_ (pF Z' (pF bd.ca ?_));refine wx (A.cs.map λk=>D.ref k.p) (λpre acc U M'=>M=M'/\acc=(V.calls.take pre.length).map xT/\∃y,U=[y]) (λ_ _ _ M' j=>by rw[<-j.1];exact bd.ca) _ [] [] _ _ Z' ?_ ⟨Z',Z',Fa,Z'⟩ ?_ ?_
 .rw[cT,bd.len];simp only[dH];lia
 .rintro pre d post e acc U M' ⟨rfl,rfl,y,rfl⟩ k hk
  obtain⟨ka,c,e1,e2,rfl,hc,et⟩:=E8 bd e;refine⟨_,ka,c,Z',hc,hk _ _ _ ⟨Z',?_,_,Z'⟩⟩;rw[cW,dD,et,dF];rfl
 .rintro acc U M' ⟨rfl,rfl,y,rfl⟩ p1 Z0
  rw[cT,bd.len,eM];refine pF pU ?_;obtain⟨M1,e0,s1,_⟩:=tL (ds:=V.calls.map xT) Z0;rw[<-e0];refine pI (s1 _ _ bd.at_) (pF Z' (pI (s1 _ _ bd.at_) (pF Z' ⟨V.ps,s1.dk bd.nx,h3,λS hS=>pF pU ?_⟩)));have s2:=s1.trans (qN.new (c:=.lst ((tP V.ps).map zV)) hS);generalize pQ M1 S (.lst ((tP V.ps).map zV))=M2 at s2 ⊢;exact pI (s2 _ _ bd.at_) (pF Z' (pF (s2.lst bd.on) ⟨pD Z',M,s2,q⟩))
def Ev.oG:Ev->Prop
 | .turn=>False
 | .sw _ _=>False
 | _=>True
def Ev.noN:Ev->Prop
 | .next _ _=>False
 | _=>True
theorem FF:∀{es:T0 Ev} {V:qu},(∀e∈es,e.noN)->(qO V es).ps=V.ps
 | [],_,_=>rfl
 | e::r,V,h=>(FF (es:=r) (V:=ql V e) λx hx=>h x (dz _ hx)).trans (by have:=h e dC;cases e<;>first|rfl|cases this)
theorem zU(i:Nat):∀(st:sZ) (q:Option Str),∀e∈rP i q st,e.oG/\e.noN
 | [],_,e,h=>by unfold rP at h;cases h
 | (y,gs)::r,Fa,e,h=>by
  rcases dg.mp (show e∈Ev.asks i y gs::rP i (ga y) r from h)with rfl|h
  .exact⟨trivial,trivial⟩
  .exact zU i r _ e h
 | (y,gs)::r,ga u,e,h=>by
  rcases dg.mp (show e∈Ev.leg ⟨i,u,y,u⟩::Ev.asks i y gs::rP i (ga y) r from h)with rfl|h
  .exact⟨trivial,trivial⟩
  rcases dg.mp h with rfl|h
  .exact⟨trivial,trivial⟩
  .exact zU i r _ e h
def J'{st:sZ}:∀e∈uI i st en,e.oG/\e.noN:=λe h=>by
 unfold uI at h;cases en with
 | ring ns=>
  dsimp only at h;cases q:st.getLast? with
  | none=>rw[q]at h;cases h
  | some s0=>rw[q]at h;rw[cZ.mp h];exact⟨trivial,trivial⟩
 | _=>cases h
def Q7{V:qu}:∀e∈sY l V i en,e.oG:=λe h=>by
 cases en with
 | rings z ps=>
  rcases dG.mp (show e∈(if (l.mP z=="turns")=Db then[Ev.next z (RI (l.mH z) (ps.headD Str.empty))]else[])++[.rings i ps]from h)with g|g
  .split at g
   .rw[cZ.mp g];trivial
   .cases g
  .rw[cZ.mp g];trivial
 | breaks z=>
  unfold sY at h;dsimp only at h;split at h
  .rw[cZ.mp h];trivial
  .cases h
 | waits z=>rw[cZ.mp h];trivial
 | engaged z=>rw[cZ.mp h];trivial
 | barred=>rw[cZ.mp h];trivial
 | ring ns=>rw[cZ.mp h];trivial
def Ow{V:qu}:∀e∈tV l V i,e.oG:=λe h=>by
 unfold tV at h;cases q:V.calls[i]? with
 | none=>rw[q]at h;cases h
 | some c=>
  rw[q]at h;dsimp only[Option.elim]at h;rcases dG.mp h with h|h
  .exact(zU i _ _ e h).1
  rcases dG.mp h with h|h
  .exact(J' e h).1
  .exact Q7 e h
def GQ{V:qu}:∀e∈rV l V i fs,e.oG:=λe h=>by
 unfold rV at h;split at h
 .rename_i x y n _;dsimp only at h;rcases dG.mp h with h|h
  .simp only[dg,dQ,fP]at h;rcases h with rfl|rfl|rfl<;>trivial
  .exact Ow e h
 .cases h
theorem Hy:∀(is:T0 Nat) (V:qu),∀e∈qS l is V,e.oG
 | [],_,e,h=>by unfold qS at h;cases h
 | i::r,V,e,h=>by
  unfold qS at h;rcases dG.mp h with h|h
  .exact GQ e h
  .exact Hy r _ e h
def QQ{ps:T0 (Str×Int)}{z:Str}{n:Int}(h:ps.any (λp=>decide (p.1=z))=Db):(Dq ps z n).length=ps.length:=by unfold Dq;rw[de h,cT]
def Tu{V V1:qu}(nx:uW l V1)(he:GM l V i en):(qO V1 (sY l V i en)).ps.length=V1.ps.length:=by
 cases en with
 | rings z ps=>
  show(qO V1 ((if (l.mP z=="turns")=Db then[Ev.next z (RI (l.mH z) (ps.headD Str.empty))]else[])++[.rings i ps])).ps.length=_;rw[r6];by_cases ht:(l.mP z=="turns")=Db
  .rw[de ht];refine QQ ?_;obtain⟨v,e,_⟩:=nx z he.1 ht;exact fF.mpr ⟨v,gi e,by simpa using mh e⟩
  .rw[cY ht];rfl
 | breaks z=>
  unfold sY;dsimp only;split
  .rfl
  .rfl
 | waits z=>rfl
 | engaged z=>rfl
 | barred=>rfl
 | ring ns=>rfl
def SA{V:qu}{i:Nat}{k:pL}(ok:rb l)(wf:AB l V (ga i))(hk:V.calls[i]?=ga k):(qO V (tV l V i)).ps.length=V.ps.length:=by
 have ZT:=wf.ok i k hk;unfold tV;rw[hk];dsimp only[Option.elim];obtain⟨z,hz⟩:∃z,k.way.getLast?=ga z:=by
  cases e:k.way.getLast? with
  | none=>exact absurd (gK.mp e) ZT.wy.1
  | some z=>exact⟨z,Z'⟩
 rw[show k.way.getLastD Str.empty=z by rw[iy,hz];rfl];have ro:yC l V k.cr (l.nm.length+1) [] (tX l V k.cr z k.way.dropLast):=Ac ok _ _ _ _ (ZT.wy.2 z (iZ hz)) λx hx=>ZT.wy.2 x (i9 _ hx);have eo:=Ou ok wf hk ro.e;generalize tX l V k.cr z k.way.dropLast=R at eo;obtain⟨e,st⟩:=R;have e1:(qO (qO V (rP i Fa st)) (uI i st e)).ps=V.ps:=(FF λx hx=>(J' x hx).2).trans (FF λx hx=>(zU i st Fa x hx).2);rw[r6,r6];refine(Tu (λz hz ht=>?_) eo).trans (eE List.length e1);rw[e1];exact wf.nx z hz ht
theorem JH(ok:rb l):∀(is:T0 Nat) {V:qu},WF l V->(qO V (qS l is V)).ps.length=V.ps.length
 | [],V,_=>by unfold qS;rfl
 | i::r,V,wf=>by
  unfold qS;rw[r6];refine(JH ok r (KI ok wf)).trans ?_;have d:=Io (V:=V) (i:=i) ok;generalize vR l V i=fs at d;cases d with
  | no=>rfl
  | on c k r b x y n hc hs hk hw hy=>rw[AH hk,r6];exact SA ok (F4 wf hc hs hy) (Gx hc)
def WL{V:qu}{e:qL}(ok:rb l)(wf:WF l V)(f:e.mZ)(h:vv l V e=Fa):(qO V (vA l V e)).ps.length=V.ps.length:=by
 cases e with
 | call y z=>obtain⟨h1,h2,h3,h4⟩:=Gf h;obtain⟨k,hk⟩:=NR (V:=V) (y:=y) (z:=z);show(qO V (_++tV l _ _)).ps.length=_;rw[r6];exact SA ok (IM wf h1 h2 h3 h4) hk
 | turn=>exact JH ok _ (Fu wf)
 | sw b i=>rfl
 | num w x ns=>
  refine eE List.length (FF λev hev=>?_);obtain⟨_,n⟩:=Jj f h;cases n with
  | answer i c hi hc h1 h2 h3=>rw[cZ.mp (show ev∈[DH V "answer" x i.toNat]from hev),Ai hc];trivial
  | hang i c hi hc h1=>
   have hev:ev∈vK V x i.toNat:=hev;unfold vK at hev;rw[hc]at hev;dsimp only[Option.elim]at hev;split at hev
   .rw[cZ.mp hev];trivial
   split at hev
   .rcases dg.mp hev with rfl|hev
    .trivial
    split at hev
    .rw[cZ.mp hev];trivial
    .cases hev
   split at hev
   .rw[cZ.mp hev];trivial
   .rw[cZ.mp hev];trivial
  | hold i c hi hc h1=>rw[cZ.mp (show ev∈[DH V "hold" x i.toNat]from hev),Ai hc];trivial
  | back i c hi hc h1 h2=>rw[cZ.mp (show ev∈[DH V "back" x i.toNat]from hev),Ai hc];trivial
  | two _ i j c d hi hj hw hc hd h1 h2=>rw[cZ.mp (show ev∈[CT V w x i.toNat j.toNat]from hev),IA hc hd];trivial
theorem En(n:Nat):∀ss:QQQ,(ss.map D.str).all (uw n)=Db
 | []=>rfl
 | s::r=>by rw[dY,fG,En n r];cases n<;>rfl
theorem Hd(n:Nat):∀ss:T0 Bool,(ss.map D.bl).all (uw n)=Db
 | []=>rfl
 | s::r=>by rw[dY,fG,Hd n r];cases n<;>rfl
def Nt{n:Nat}(V:qu):uw (n+4) (VN V)=Db:=by
 have c1:∀c∈V.calls,uw (n+2) (xT c)=Db:=λc hc=>by
  have h0:∀o:Option Str,uw (n+1) (BV o)=Db:=λo=>by cases o<;>rfl
  have t:∀ss:QQQ,uw (n+1) (.tup (ss.map D.str))=Db:=λss=>En n ss;show([D.str c.st,.str c.cr,.tup (c.way.map D.str),.tup (c.at_.map D.str),.tup (c.ms.map D.str),BV c.hd,.int c.si,BV c.wd].all (uw (n+1)))=Db;simp only[fG,t,h0];rfl
 have c2:uw (n+3) (.tup (V.calls.map xT))=Db:=by show(V.calls.map xT).all (uw (n+2))=Db;rw[jL,eD];exact c1
 have c3:uw (n+3) (.tup ((tP V.ps).map L3.zV))=Db:=by show((tP V.ps).map L3.zV).all (uw (n+2))=Db;rw[jL,eD];exact λx _=>rfl
 have c4:uw (n+3) (.tup (V.on.map D.bl))=Db:=Hd (n+2) _;show([D.int V.t,.tup (V.calls.map xT),.tup ((tP V.ps).map L3.zV),.tup (V.on.map D.bl)].all (uw (n+3)))=Db;simp only[fG,c2,c3,c4];rfl
noncomputable def BQ(c:pL):QQQ:=if (c.st=="talks"||c.st=="held")=Db then c.ms else c.cr::c.at_
def Lz(a:Ad):rH:=λds M Q=>Ed λL k c=>ds=[.ref (sf.p k)]/\sC a M L k c/\c.at_.length<=100/\∀r M',qN M M'->oP M' r=ga ((BQ c).map D.str)->Q (.ref r) M'
def O9(V:qu)(ZW:QQQ):T0 Nat:=(List.range V.calls.length).filter λi=>(V.calls[i]?).elim pc λc=>hasS ZW c.st
def Rm(a:Ad):rH:=λds M Q=>BO λA V l ZW=>ds=[.ref A.b,.tup (List.map D.str ZW)]/\Rd a M A V l/\∀r M',qN M M'->oP M' r=ga ((O9 V ZW).map λn=>D.int (n:Nat))->Q (.ref r) M'
def TX(V:qu)(ZW:QQQ):D->Bool
 | .int n=>(V.calls[n.toNat]?).elim pc λc=>hasS ZW c.st
 | _=>pc
def KQ:Fq P w K mg base 1 a.bt (Lz a):=by
 refine fq G.bt.toDG D3 (λr u=>⟨_,(pG (qa (W3.b3 (y9 (pR u (pN v0) pK) (yy (pR u (pN v0) pK))))
 (pH (pO (qe rW Z' G.l rT (qv (pN v0)))))
 pV)
 (pH (pO (qk (qW (qv (pN v0))) (qe rW Z' G.l rT (qv (pN v0))))))),?_⟩)
 rintro ds M Q ⟨L,k,c,rfl,⟨ad,md,h1,h2,h3,h4,_⟩,ha,q⟩
 have hz:=dM;unfold BQ at q;refine pI h1 (pF Z' (qT (c:=c.st=="talks") (λg=>?_) (λg=>?_)))
 .rw[g,ia,de Z']at q;exact pI h1 (pF Z' (pF h4 λr hr=>⟨_,.refl,q r _ (.new hr) pU⟩))
 rw[dI.mpr g,fQ]at q;refine pI h1 (pF Z' (qT (c:=c.st=="held") (λg=>?_) (λg=>?_)))
 .rw[de g]at q;exact pI h1 (pF Z' (pF h4 λr hr=>⟨_,.refl,q r _ (.new hr) pU⟩))
 rw[cY g]at q;refine pI h1 (pF Z' ⟨pD Z',λr1 Zw=>?_⟩);obtain⟨M1,e0,t1,l1⟩:=tL (ds:=[D.str c.cr]) Zw;rw[<-e0];show AO (M1 k.p) _;refine pI (t1 _ _ h1) (pF Z' (pF (t1.lst h3) λr2 hr2=>?_));have t2:=qN.new (c:=.lst (c.at_.map D.str)) hr2;refine pF (t2.lst l1) (pF pU ⟨?_,λr3 hr3=>⟨_,.refl,q r3 _ (t1.trans (t2.trans (.new hr3))) pU⟩⟩);rw[cT];show 1+c.at_.length<=Ch;lia
def RD:Fq P w K mg base 1 a.bu (Rm a):=by
 refine fq G.bu.toDG Bv (λr u=>⟨_,(pH (pO (qP Z' (xN (ix:=[Fa,ga 0,ga 1]) (N':=["_law_k","_law_board","_law_states"])) (vi Z' G.N (qv (qc qJ Z' G.g qG (qv (pN v0))))) (qD 0) (vE (pR u (pN (pT (pN Y1) v0)) Y2)) v0))),?_⟩)
 rintro ds M Q ⟨A,V,l,ZW,rfl,rd,q⟩
 have hz:=dM;have lc:((A.cs.map λk=>D.ref k.p).length:Int)=(V.calls.length:Nat):=by rw[cT,rd.bd.len]
 have hb:=rd.k;refine pI rd.bd.at_ (pF Z' (pF rd.bd.ca ?_));rw[lc];refine⟨Z',⟨by lia,by lia⟩,?_⟩;refine uj (f:=id) (t:=TX V ZW) trivial _ [] _ (by rw[cT,dS];simp only[dH];lia) (λd hd k hk=>?_) (λd hd _ k hk=>?_) λr hr=>?_
 .obtain⟨i,hi,rfl⟩:=dE.mp hd;rw[e9]at hi;have hi:i<V.calls.length:=by lia
  obtain⟨k',ek,⟨ad,md,h1,_⟩⟩:=rd.call (cV hi);have ea:xn (A.cs.map λk=>D.ref k.p) (0+(i:Nat))=ga (.ref k'.p):=by rw[jS];exact rO ek
  refine pI rd.bd.at_ (pF Z' (pF Z' (pF rd.bd.ca (pF ea (pI h1 (pF Z' (pF Z' ⟨Z',qH _,?_⟩)))))));show k (inD (.str V.calls[i].st) (ZW.map D.str)) M;rw[tD];have e1:TX V ZW (.int (0+(i:Nat)))=hasS ZW V.calls[i].st:=by show(V.calls[(0+(i:Int)).toNat]?).elim pc _=_;rw[show(0+(i:Int)).toNat=i by lia,cV hi];rfl
  show k (hasS ZW V.calls[i].st) M;rw[<-e1];exact hk
 .exact hk
 .refine⟨_,.refl,q r _ (.new hr) (pU.trans (eE ga ?_))⟩;rw[d9,jh,gk,show(((V.calls.length:Nat):Int)).toNat=V.calls.length from rfl];unfold O9;have e1:(TX V ZW∘λi:Nat=>D.int (0+(i:Nat)))=λi=>(V.calls[i]?).elim pc λc=>hasS ZW c.st:=funext λi=>by show(V.calls[(0+(i:Int)).toNat]?).elim pc _=_;rw[show(0+(i:Int)).toNat=i by lia]
  rw[e1];exact gw λi _=>by rw[jS]
noncomputable def Ib:Str->QQQ:=λw=>if (w=="answer")=Db then["rings","waits"]else if (w=="hold")=Db then["talks"]else if (w=="hang")=Db then["rings","waits","talks","held"]else["held"]
def TK(w:Str):Prop:=w="answer"\/w="hang"\/w="hold"\/w="back"\/w="hand"\/w="join"
def LZ(a:Ad):rH:=λds M Q=>HX λA V l c w=>ds=[.ref A.b,.int c,.str w,.tup ((Ib w).map D.str)]/\Rd a M A V l/\WF l V/\(∀k∈V.calls,k.at_.length<=100)/\TK w/\∀M',qN M M'->Q .mM M'/\∀e:qL,e.mZ->Q e.d M'
def T8{n:Nat}{a b:Uf}{ds:T0 D}(ha:oP M a=ga ds)(hb:oP M b=ga []):we M (n+1) (.ref a) (.ref b)=ga ds.isEmpty:=by
 show(oP M a).bind (λi=>(oP M b).bind λj=>if i.length=j.length then qQ (we M n) i j else ga pc)=_;rw[ha,hb];cases ds with
 | nil=>rfl
 | cons x r=>rfl
def vt{α:Type}(f:α->D){xs:List α}(h:xs≠[])(c k:Int):(0:Int)<((xs.map f).length:Nat)/\∃x∈xs,xn (xs.map f) (qF c k ((xs.map f).length:Nat))=ga (f x):=by
 have hp:(0:Int)<((xs.map f).length:Nat):=by have:=fv.mpr h;rw[cT];lia
 have d0:=rq (c:=c) (f:=k) hp;have d1:=qY (c:=c) (f:=k) hp;obtain⟨n,e⟩:=eB d0;rw[e]at d1 ⊢;have hn:n<xs.length:=by rw[cT]at d1;lia
 exact⟨hp,xs[n],gy hn,vo (by rw[dv,cV hn];rfl)⟩
def T1{V:qu}{i:Nat}(h:i∈O9 V ZW):∃c,V.calls[i]?=ga c/\c.st∈ZW:=by
 have h:=(eY.mp h).2;cases e:V.calls[i]? with
 | none=>rw[e]at h;cases h
 | some c=>rw[e]at h;exact⟨c,Z',rn.mp h⟩
def EM{c:pL}(k:wV l pc c)(h:c.st≠"over"):BQ c≠[]:=by
 unfold BQ;split
 .rename_i g;rcases k.sh with z|⟨_,z|z|⟨_,z⟩|z⟩
  .rw[z.1]at g;exact absurd g (by decide)
  .rw[z.1]at g;exact absurd g (by decide)
  .intro y;rw[y]at z;rcases z.2.1 with u|u<;>cases u
  .intro y;rw[y]at z;cases z.2.1
  .exact absurd z.1 h
 .exact fu _ _
def We{c:pL}(k:wV l pc c)(h:c.st∈Ib "answer"):c.at_≠[]:=by
 have h:c.st="rings"\/c.st="waits":=by
  rcases dg.mp h with g|g
  .exact .inl g
  .exact .inr (cZ.mp g)
 rcases k.sh with z|⟨_,z|z|⟨_,z⟩|z⟩
 .exact z.2.2.2.2.2 Z'
 .intro y;rw[y]at z;cases z.2.2.2.2
 all_goals(rw[z.1]at h;exact absurd h (by decide))
def JN{c:pL}(k:wV l pc c)(h:c.st="held"):∃x,c.hd=ga x:=by
 rcases k.sh with z|⟨_,z|z|⟨x,z⟩|z⟩
 .rw[h]at z;exact absurd z.1 (by decide)
 .rw[h]at z;exact absurd z.1 (by decide)
 .rw[h]at z;exact absurd z.1 (by decide)
 .exact⟨x,z.2.2.1⟩
 .rw[h]at z;exact absurd z.1 (by decide)
def Lq:Fq P w K mg base 4 a.bv (LZ a):=by
 refine fq G.bv.toDG rY (λr u=>⟨_,(pG (pW 4 rY (pP (RD G) r G.bu (so v0 Y3)))
 (pG (qa (pR u v4 (qW sE))
 (pH (pO sv))
 pV)
 (pG (pW 5 rY (pT v4 (pP (qU G) r G.i (rG Y1 pJ (qc qJ Z' G.g qG (qv v4))))))
 (pG (pW 6 rY (pP (KQ G) r G.bt (qv (pT (pN v0) v5))))
 (pG (qa (pR u Y2 pK)
 (pH (pW 6 rY (qe rW Z' G.l rT (qv (pN (pT (pN v0) v5))))))
 pV)
 (pG (qa (W3.b3 (y9 (pR u Y2 pK) (y9 (pR u Y2 pK) (yy (pR u Y2 pK)))))
 (pH (pW 6 rY (qW (qv (pN (pT (pN v0) v5))))))
 pV)
 (pG (pW 7 rY (pT v6 (pP (qU G) r G.i (rG Y1 pJ (qc qJ Z' G.g qG (qv v6))))))
 (pG (qa (W3.b3 (y9 (pR u Y2 pK) (yy (pR u Y2 pK))))
 (pG (pW 8 rY (qm v0 G.c.toCls G.X (zB G) r (qv v7)))
 (pH (pO (pY (qh Y2 (rG v7 v5 (So (pR u v8 sv) pJ v8)))))))
 pV)
 (pH (pO (pY (rG Y2 v7 v5)))))))))))),?_⟩)
 rintro ds M Q ⟨A,V,l,c,wd,rfl,rd,wf,ha,ho,q⟩
 have hz:=dM;refine⟨A,V,l,Ib wd,Z',rd,λr M1 s1 lr=>?_⟩;refine⟨pD Z',λr0 hr0=>?_⟩;have t2:=qN.new (c:=.lst []) hr0;have lr2:=t2.lst lr;refine pF (T8 lr2 pU) ?_;have s2:=s1.trans t2;generalize pQ M1 r0 (.lst [])=M2 at s2 lr2 ⊢;clear t2 lr hr0 s1;refine qT (c:=((O9 V (Ib wd)).map λn=>D.int (n:Nat)).isEmpty) (λ_=>⟨M2,.refl,(q M2 s2).1⟩) (λg=>?_);have gne:O9 V (Ib wd)≠[]:=λz=>g (by rw[z];rfl);obtain⟨hp,i,hi,ei⟩:=vt (λn:Nat=>D.int (n:Nat)) gne c 40692;obtain⟨cv,hc,hs⟩:=T1 hi;have rd2:=rd.sub s2;obtain⟨k,ek,ca⟩:=rd2.call hc;have ca0:=ca;obtain⟨ad,md,h1,h2,h3,h4,_⟩:=ca0;have ZT:=wf.ok i cv hc;refine pF lr2 ⟨c,_,_,Z',hp,pF lr2 (pF ei ?_)⟩;refine pI rd2.bd.at_ (pF Z' (pF Z' (pF rd2.bd.ca (pF (rO ek) ?_))));refine⟨_,k,cv,Z',ca,ha cv (qR hc),λr3 M3 s3 lr3=>?_⟩;have Zv:=s3 _ _ h1;have q3:=λM' (s:qN M3 M')=>q M' (s2.trans (s3.trans s));have rd3:=rd2.sub s3;have h3':=s3.lst h3;clear q lr2 s2 h1 h2 h3 h4 ca;rcases ho with rfl|rfl|rfl|rfl|rfl|rfl
 .
  refine pI rd3.bd.at_ (pF Z' (pF Z' (pF rd3.bd.ca (pF (rO ek) (pI Zv (pF Z' (pF h3' λr4 hr4=>?_)))))));obtain⟨YY,x,hx,ex⟩:=vt D.str (We ZT hs) c 742938285;refine pF pU ⟨c,_,_,Z',YY,pF pU (pF ex ?_)⟩;exact⟨pD Z',_,.refl,(q3 _ (.new hr4)).2 (.num "answer" x [(i:Nat)]) (.inl ⟨.inl Z',Z'⟩)⟩
 .
  obtain⟨YY,x,hx,ex⟩:=vt D.str (EM ZT (λz=>by rw[z]at hs;exact absurd hs (by decide))) c 742938285;refine pF lr3 ⟨c,_,_,Z',YY,pF lr3 (pF ex ?_)⟩;exact⟨pD Z',_,.refl,(q3 _ .refl).2 (.num "hang" x [(i:Nat)]) (.inl ⟨.inr (.inl Z'),Z'⟩)⟩
 .
  obtain⟨YY,x,hx,ex⟩:=vt D.str (EM ZT (λz=>by rw[z]at hs;exact absurd hs (by decide))) c 742938285;refine pF lr3 ⟨c,_,_,Z',YY,pF lr3 (pF ex ?_)⟩;exact⟨pD Z',_,.refl,(q3 _ .refl).2 (.num "hold" x [(i:Nat)]) (.inl ⟨.inr (.inr (.inl Z')),Z'⟩)⟩
 .
  obtain⟨y,hy⟩:=JN ZT (cZ.mp hs);refine pI rd3.bd.at_ (pF Z' (pF Z' (pF rd3.bd.ca (pF (rO ek) (pI Zv (pF Z' ⟨pD Z',λr4 hr4=>?_⟩))))));rw[show BV cv.hd=.str y by rw[hy];rfl];obtain⟨YY,x,hx,ex⟩:=vt D.str (fu y []) c 742938285;refine pF pU ⟨c,_,_,Z',YY,pF pU (pF ex ?_)⟩;exact⟨pD Z',_,.refl,(q3 _ (.new hr4)).2 (.num "back" x [(i:Nat)]) (.inl ⟨.inr (.inr (.inr Z')),Z'⟩)⟩
 all_goals
  obtain⟨y,hy⟩:=JN ZT (cZ.mp hs);refine pI rd3.bd.at_ (pF Z' (pF Z' (pF rd3.bd.ca (pF (rO ek) (pI Zv (pF Z' ⟨pD Z',λr4 hr4=>?_⟩))))));rw[show BV cv.hd=.str y by rw[hy];rfl];obtain⟨YY,x,hx,ex⟩:=vt D.str (fu y []) c 742938285;refine pF pU ⟨c,_,_,Z',YY,pF pU (pF ex ?_)⟩;have t4:=qN.new (c:=.lst [D.str y]) hr4;refine pI (t4 _ _ rd3.bd.at_) ⟨Z',_,⟨Z',Z'⟩,A,V,x,Z',rd3.bd.sub t4,rd3.k,?_⟩;unfold Bp;cases wJ V x with
  | none=>first|exact⟨pD Z',_,.refl,(q3 _ t4).2 (.num "hand" x [(i:Nat),(0:Nat)]) (.inr ⟨.inl Z',Z'⟩)⟩|exact⟨pD Z',_,.refl,(q3 _ t4).2 (.num "join" x [(i:Nat),(0:Nat)]) (.inr ⟨.inr Z',Z'⟩)⟩
  | some j=>first|exact⟨pD Z',_,.refl,(q3 _ t4).2 (.num "hand" x [(i:Nat),(j:Nat)]) (.inr ⟨.inl Z',Z'⟩)⟩|exact⟨pD Z',_,.refl,(q3 _ t4).2 (.num "join" x [(i:Nat),(j:Nat)]) (.inr ⟨.inr Z',Z'⟩)⟩
def Ka:rH:=λds M Q=>JT λc o n own nm m=>ds=[.int c,.ref o,.ref n,.int ((m:Nat):Int)]/\oP M o=ga (List.map D.str own)/\oP M n=ga (List.map D.str nm)/\own.length<=100/\nm.length<=100/\m<=1000000/\∀M' (e:qL),qN M M'->e.mZ->Q e.d M'
def Oz(a:Ad):rH:=λds M Q=>S5 λA V l c o n own nm=>ds=[.ref A.b,.int c,.ref o,.ref n]/\Rd a M A V l/\WF l V/\(∀k∈V.calls,k.at_.length<=100)/\oP M o=ga (List.map D.str own)/\oP M n=ga (List.map D.str nm)/\own≠[]/\nm≠[]/\own.length<=100/\nm.length<=100/\∀M' (e:qL),qN M M'->e.mZ->Q e.d M'
def KN{α:Type}(f:α->D){xs:List α}(h:xs≠[]){m:Int}(hm:m=(xs.length:Nat))(c k:Int):(0:Int)<m/\∃x∈xs,xn (xs.map f) (qF c k m)=ga (f x):=by have:=vt f h c k;rw[cT,<-hm]at this;exact this
def Rp{α:Type}(xs:List α)(x:α):xs++[x]≠[]:=by simp
noncomputable def Iy:QQQ:=["call","call","call","call","call","answer","answer","answer","answer","answer","hang","hang","hold","hold","hold","back","hand","join","turn","turn","turn"]
theorem EO(d:D):∀n:Nat,(List.replicate n [d]).flatten=List.replicate n d
 | 0=>rfl
 | n+1=>by rw[eI,fS,EO d n,eI];rfl
noncomputable def zz:Str:="zzzzzz"
noncomputable def ME(a b:Str)(k m:Int):List qL:=[.call a b,.num "answer" a [k],.num "hang" a [k],.num "hold" a [k],.num "back" a [k],.num "hand" a [k,m],.num "join" a [k,m],.turn,.sw Db k,.sw pc k]
def MI{a b:Str}{k m:Int}{e:qL}(h:e∈ME a b k m):e.mZ:=by
 unfold ME at h;simp only[dg,dQ,fP]at h;rcases h with rfl|rfl|rfl|rfl|rfl|rfl|rfl|rfl|rfl|rfl
 .trivial
 .exact .inl ⟨.inl Z',Z'⟩
 .exact .inl ⟨.inr (.inl Z'),Z'⟩
 .exact .inl ⟨.inr (.inr (.inl Z')),Z'⟩
 .exact .inl ⟨.inr (.inr (.inr Z')),Z'⟩
 .exact .inr ⟨.inl Z',Z'⟩
 .exact .inr ⟨.inr Z',Z'⟩
 .trivial
 .trivial
 .trivial
def Qn:Fq P w K mg base 2 a.bw Ka:=by
 refine fq G.bw.toDG vh (λr u=>⟨_,(pG (pW 4 vh (pT (qk Y1 (qW (qv pK))) (pP (qU G) r G.i (rG v0 pJ (qk (qc qJ Z' G.g qG (qv Y1)) pJ)))))
 (pG (pW 5 vh (pT (qk Y2 (qW (qv pK))) (pP (qU G) r G.i (rG v0 pJ (qk (qc qJ Z' G.g qG (qv Y2)) pJ)))))
 (pG (pW 6 vh (qk (pP (qU G) r G.i (rG v0 pJ (qk Y3 pJ))) pJ))
 (pG (pW 7 vh (qk (pP (qU G) r G.i (rG v0 pJ (qk Y3 pJ))) pJ))
 (pG (pW 8 vh (qW (qh (pY (rG pK v4 v5)) (qh (pY (rG pK v4 v6)) (qh (pY (rG pK v4 v6)) (rG (pY (rG pK v4 v6)) (pY (rG pK v4 v6)) (pY (qh pK (rG v4 v6 v7)))))))))
 (pH (pO (pT (qk v8 (qW (qh (pY (qh pK (rG v4 v6 v7))) (rG (pY (qv pK)) (pY (so pK v6)) (pY (so pK v6)))))) (pP (qU G) r G.i (rG v0 pJ pJ)))))))))),?_⟩)
 rintro ds M Q ⟨c,o,n,own,nm,m,rfl,ho,hn,ol,nl,ml,q⟩
 have hz:=dM;have add:∀{M1:Mp} {p:Uf} {xs:QQQ} (f:Int) (nx:DK),qN M M1->oP M1 p=ga (xs.map D.str)->xs.length<=100->(∀x M',qN M M'->nx (.str x) M')->∀r1,M1 r1=Fa->(oP (pQ M1 r1 (.lst [D.str zz])) p).elim False λi=>(oP (pQ M1 r1 (.lst [D.str zz])) r1).elim False λj=>i.length+j.length<=Ch/\∀r2,pQ M1 r1 (.lst [D.str zz]) r2=Fa->(oP (pQ (pQ M1 r1 (.lst [D.str zz])) r2 (.lst (i++j))) p).elim False λys=>J8 [.int c,.int f,.int ((ys.length:Nat)+1)] (pQ (pQ M1 r1 (.lst [D.str zz])) r2 (.lst (i++j))) λy M2=>match y with
  | .int n=>(oP M2 r2).elim False λzs=>(xn zs n).elim False λd=>nx d M2
  | _=>False:=λ{M1 p xs} f nx s hx lx YU r1 Zw=>by
  have t1:=qN.new (c:=.lst [D.str zz]) Zw;refine pF (t1.lst hx) (pF pU ⟨by rw[cT];show xs.length+1<=Ch;lia,λr2 hr2=>?_⟩);have t2:=qN.new (c:=.lst (xs.map D.str++[D.str zz])) hr2;obtain⟨hp,x,_,ex⟩:=KN D.str (Rp xs zz) (m:=((xs.map D.str).length:Nat)+1) (by rw[cT,cW];rfl) c f;rw[dF]at ex;exact pF ((t1.trans t2).lst hx) ⟨c,f,_,Z',hp,pF pU (pF ex (YU x _ (s.trans (t1.trans t2))))⟩
 refine⟨pD Z',add 16807 _ .refl ho ol λx M1 s1=>⟨pD Z',add 39373 _ s1 (s1.lst hn) nl λy M2 s2=>?_⟩⟩;refine⟨c,_,_,Z',by show(0:Int)<(m:Nat)+2;lia,⟨c,_,_,Z',by show(0:Int)<(m:Nat)+2;lia,?_⟩⟩;generalize qF c 69621 ((m:Nat)+2) - 1=k0;refine⟨pD Z',pD Z',pD Z',pD Z',pD Z',pD Z',pD Z',λr8 hr8=>⟨pD Z',pD Z',pD Z',pD Z',pD Z',λr9 hr9=>?_⟩⟩;have t8:=qN.new (c:=.lst (((ME x y k0 (qF c 22695477 ((m:Nat)+2) - 1)).take 6).map qL.d)) hr8;have t9:=qN.new (c:=.lst (((ME x y k0 (qF c 22695477 ((m:Nat)+2) - 1)).drop 6).map qL.d)) hr9;refine pF (t9.lst pU) (pF pU ⟨by show 6+4<=Ch;lia,λr10 hr10=>?_⟩);obtain⟨hp,e,he,ee⟩:=KN qL.d (xs:=ME x y k0 (qF c 22695477 ((m:Nat)+2) - 1)) (fu _ _) (m:=10) Z' c 1664525;exact⟨c,_,_,Z',hp,pF pU (pF ee ⟨_,.refl,q _ e (s2.trans (t8.trans (t9.trans (.new hr10)))) (MI he)⟩)⟩
def Pb:Fq P w K mg base 5 a.bx (Oz a):=by
 refine fq G.bx.toDG rZ (λr u=>⟨_,(pG (pW 4 rZ (qk (qk (qk (qk (qk (CU (qW (qv pK)) pJ) (CU (qW (qv pK)) pJ)) (CU (qW (qv pK)) pJ)) (CU (qW (qv pK)) pJ)) (qW (rG pK pK pK))) (CU (qW (qv pK)) pJ)))
 (pG (pW 4 rZ (pT v4 (pP (qU G) r G.i (rG Y1 pJ (qc qJ Z' G.g qG (qv v4))))))
 (pG (pW 5 rZ (pY (qh pK (rG pK pK pK))))
 (pG (qa (pR u v4 pK)
 (pH (pW 5 rZ (pY (so pK pK))))
 pV)
 (pG (qa (pR u v4 pK)
 (pH (pW 5 rZ (pY (qv pK))))
 pV)
 (pG (qa (W3.b3 (y9 (pR u v4 pK) (y9 (pR u v4 pK) (yy (pR u v4 pK)))))
 (pH (pW 5 rZ (pY (qv pK))))
 pV)
 (pG (qa (pR u v4 pK)
 (pH (pO (pY (qv pK))))
 pV)
 (pG (qa (pR u (pP (qU G) r G.i (rG Y1 pJ pJ)) pJ)
 (pH (pO (pP (Qn G) r G.bw (qh Y1 (rG Y2 Y3 (qc qJ Z' G.g qG (qv (pN v0))))))))
 pV)
 (pG (pW 6 rZ sv)
 (pG (qa (pR u v4 pK)
 (pH (pW 6 rZ (pP (Lq G) r G.bv (qh v0 (rG Y1 v4 v5)))))
 pV)
 (pG (qa (pR u v6 sv)
 (pG (pW 7 rZ (pT Y2 (pP (qU G) r G.i (rG Y1 pJ (qc qJ Z' G.g qG (qv Y2))))))
 (pH (pW 6 rZ (pY (rG pK v7 (pT Y3 (pP (qU G) r G.i (rG Y1 pJ (qc qJ Z' G.g qG (qv Y3))))))))))
 pV)
 (pH (pO v6))))))))))))),?_⟩)
 rintro ds M Q ⟨A,V,l,c,o,n,own,nm,rfl,rd,wf,ha,ho,hn,one,nne,ol,nl,q⟩
 have hz:=dM;refine WG (t:=HD _ _) (λU M'=>qN M M'/\∃r,oP M' r=ga (Iy.map D.str)/\U=[ga (.ref A.b),ga (.int c),ga (.ref o),ga (.ref n),ga (.ref r),Fa,Fa,Fa]) (λnx h=>?_) ?_
 .have one1:∀{N:Mp} {U:vV} (w0:Str) (m:Int) (nx:DK),qN M N->(0<=m/\m<=10)->(∀r N',qN M N'->qN N N'->oP N' r=ga ((List.replicate m.toNat w0).map D.str)->nx (.ref r) N')->Vv (Vx (vT (L3.c3 (.str w0)) ya)) (L3.c3 (.int m)) U N nx:=λ{N U} w0 m nx sn hm YU=>by refine⟨pD Z',λr1 Zw=>?_⟩;refine pF pU ⟨⟨by lia,by lia,by show 1<=1000;decide⟩,λr2 hr2=>?_⟩;have t:=(qN.new (c:=.lst [D.str w0]) Zw).trans (qN.new (c:=.lst (List.replicate m.toNat [D.str w0]).flatten) hr2);refine YU r2 _ (sn.trans t) t (pU.trans (eE ga ?_));rw[List.map_replicate];exact EO _ _
  have ZX:∀{N:Mp} {p r:Uf} {xs ys:QQQ} (nx:DK),qN M N->oP N p=ga (xs.map D.str)->oP N r=ga (ys.map D.str)->xs.length+ys.length<=100->(∀r N',qN M N'->oP N' r=ga ((xs++ys).map D.str)->nx (.ref r) N')->W7 .Add (.ref p) (.ref r) N nx:=λ{N p r xs ys} nx sn hx hy hl YU=>by refine pF hx (pF hy ⟨by rw[cT,cT];lia,λr2 hr2=>?_⟩);refine YU r2 _ (sn.trans (.new hr2)) (pU.trans (eE ga ?_));rw[dF]
  dsimp only[HD,o3];refine one1 "call" 5 _ .refl (by decide) λp1 N1 s1 _ l1=>one1 "answer" 5 _ s1 (by decide) λq2 N2 s2 t2 l2=>ZX _ s2 (t2.lst l1) l2 (by decide) λp2 N3 s3 l3=>one1 "hang" 2 _ s3 (by decide) λq4 N4 s4 t4 l4=>ZX _ s4 (t4.lst l3) l4 (by decide) λp5 N5 s5 l5=>one1 "hold" 3 _ s5 (by decide) λq6 N6 s6 t6 l6=>ZX _ s6 (t6.lst l5) l6 (by decide) λp7 N7 s7 l7=>⟨pD Z',λr8 hr8=>?_⟩;have t8:=qN.new (c:=.lst ((["back","hand","join"]:QQQ).map D.str)) hr8;exact ZX (ys:=["back","hand","join"]) _ (s7.trans t8) (t8.lst l7) pU (by decide) λp9 N9 s9 l9=>one1 "turn" 3 _ s9 (by decide) λq10 N10 s10 t10 l10=>ZX _ s10 (t10.lst l9) l10 (by decide) λp11 N11 s11 l11=>h _ _ ⟨s11,p11,l11,Z'⟩
 rintro U M1 ⟨s1,r,lr,rfl⟩
 have s1n:=s1.lst hn;have s1o:=s1.lst ho;obtain⟨hp,w0,hw,ew⟩:=vt D.str (show Iy≠[]from fu _ _) c 48271;refine pF lr ⟨c,_,_,Z',hp,pF lr (pF ew ?_)⟩;obtain⟨Z0,x1,hx1,ex1⟩:=vt D.str one c 16807;obtain⟨YY,x2,hx2,ex2⟩:=vt D.str nne c 39373;have rd1:=rd.sub s1;have lc:((A.cs.map λk=>D.ref k.p).length:Int)=(V.calls.length:Nat):=by rw[cT,rd.bd.len]
 clear lr hp ew;have hw:w0="call"\/w0="turn"\/TK w0:=by unfold Iy at hw;simp only[dg,dQ,fP]at hw;unfold TK;rcases hw with h|h|h|h|h|h|h|h|h|h|h|h|h|h|h|h|h|h|h|h|h<;>simp[h]
 have YR:∀M' (e:qL),qN M1 M'->e.mZ->∃YQ,qN YQ M'/\Q e.d YQ:=λM' e s f=>⟨M',.refl,q M' e (s1.trans s) f⟩;rcases hw with rfl|rfl|hw
 .refine⟨pD Z',c,_,_,Z',by decide,qT (c:=qF c 950706376 9==0) (λ_=>pI rd1.bd.at_ (pF Z' (pF rd1.bd.ca ?_))) (λ_=>?_)⟩
  .rw[lc];exact⟨c,o,n,own,nm,V.calls.length,Z',s1o,s1n,ol,nl,rd.k,YR⟩
  exact pF s1o ⟨c,_,_,Z',Z0,pF s1o (pF ex1 (pF s1n ⟨c,_,_,Z',YY,pF s1n (pF ex2 ⟨pD Z',YR M1 (.call x1 x2) .refl trivial⟩)⟩))⟩
 .exact⟨pD Z',pD Z',YR M1 .turn .refl trivial⟩
 have lany:Ka [.int c,.ref o,.ref n,.int ((V.calls.length:Nat):Int)] M1 λd M'=>∃YQ,qN YQ M'/\Q d YQ:=⟨c,o,n,own,nm,V.calls.length,Z',s1o,s1n,ol,nl,rd.k,YR⟩;have hw':=hw;rcases hw with rfl|rfl|rfl|rfl|rfl|rfl
 all_goals
  first
   | refine⟨pD rfl,pD rfl,c,_,_,rfl,by decide,qT (c:=qF c 950706376 9==0) (λ_=>pI rd1.bd.at_ (pF rfl (pF rd1.bd.ca ?_))) (λ_=>⟨A,V,l,c,_,rfl,rd1,wf,ha,hw',λM' s=>⟨?_,λe f=>?_⟩⟩)⟩
   | refine⟨pD rfl,c,_,_,rfl,by decide,qT (c:=qF c 950706376 9==0) (λ_=>pI rd1.bd.at_ (pF rfl (pF rd1.bd.ca ?_))) (λ_=>⟨A,V,l,c,_,rfl,rd1,wf,ha,hw',λM' s=>⟨?_,λe f=>?_⟩⟩)⟩
  .rw[lc];exact lany
  .exact pF (s.lst s1o) ⟨c,_,_,Z',Z0,pF (s.lst s1o) (pF ex1 (pF (s.lst s1n) ⟨c,_,_,Z',YY,pF (s.lst s1n) (pF ex2 ⟨pD Z',YR M' (.call x1 x2) s trivial⟩)⟩))⟩
  .cases e with
   | call y z=>exact YR M' (.call y z) s f
   | num v y ns=>exact YR M' (.num v y ns) s f
   | turn=>exact YR M' .turn s f
   | sw b i=>exact YR M' (.sw b i) s f
def OB(a:Ad):rH:=λds M Q=>BO λr1 r2 r3 (l:pM)=>ds=[.tup [.ref r1,.ref r2,.ref r3]]/\oP M r1=ga (l.mJ.map rC)/\oP M r2=ga (l.groups.map rK)/\oP M r3=ga (l.mG.map sI)/\rb l/\∀p M',qN M M'->rM a M' p l->(∀N,(∀x c,M x=Fa->M' x=ga c->N x=ga c)->rM a N p l)->Q (.ref p) M'
def MS:rH:=λds M Q=>∃ns,ds=[.rl (List.map D.int ns)]/\Q (.int (qF (cell ns 0) 1664525 24)) M
def OL(a:Ad):rH:=λds M Q=>HX λA V l ns k=>ds=[.ref A.b,.rl (List.map D.int ns),.int k]/\Rd a M A V l/\WF l V/\(∀k∈V.calls,k.at_.length<=100)/\(0<=k/\k<=1000)/\∀M' (e:qL),qN M M'->e.mZ->Q e.d M'
def LA{pre post:T0 D}{d:D}(e:pre++d::post=(List.range n).map λi=>D.int (1+(i:Nat))):d=.int (1+(pre.length:Nat))/\pre.length<n:=by
 have h:((List.range n).map λi=>D.int (1+(i:Nat)))[pre.length]?=ga d:=by rw[<-e];simp
 have hl:pre.length<n:=by
  have:=(cX.mp h).1
  simpa using this
 rw[dv,gO hl]at h;exact⟨(df h).symm,hl⟩
def x8:Fq P w K mg base 9 a.J (OB a):=by
 refine fq G.J.toDG Hi (λr u=>⟨_,(pH (pO (uY (Kj G) r G.h G.b0 G.V.toDG (rG (qe rW Z' G.l rT (qv (pT v0 pJ))) (qe rW Z' G.l rT (qv (pT v0 pJ))) (qe rW Z' G.l rT (qv (pT v0 pJ))))))),?_⟩)
 rintro ds M Q ⟨r1,r2,r3,l,rfl,h1,h2,h3,ok,q⟩
 refine pF h1 λp1 Z0=>?_;obtain⟨M1,e0,t1,l1⟩:=tL (ds:=l.mJ.map rC) Z0;rw[<-e0];refine pF (t1.lst h2) λp2 YY=>?_;obtain⟨M2,e0,t2,l2⟩:=tL (ds:=l.groups.map rK) YY;rw[<-e0];refine pF ((t1.trans t2).lst h3) λp3 hp3=>?_;obtain⟨M3,e0,t3,l3⟩:=tL (ds:=l.mG.map sI) hp3;rw[<-e0];refine λp hp=>?_;have t4:=qN.new (c:=.ins a.h []) hp;refine⟨p,p1,p2,p3,l,Z',pZ,(t2.trans (t3.trans t4)).lst l1,(t3.trans t4).lst l2,t4.lst l3,ok,λM5 kp pa pf=>⟨Z',_,.refl,q p M5 ?_ pa λN H=>pf N λx c hx e=>H x c ?_ e⟩⟩
 .exact t1.trans (t2.trans (t3.trans λx c e=>kp x c (λz=>by rw[z,hp]at e;cases e) (t4 x c e)))
 .have s3:=t1.trans (t2.trans t3);rcases hx with z|z
  .rw[z];exact s3.none hp
  .exact s3.none (t4.none z)
def OJ:Fq P w K mg base 2 a.bz MS:=by
 refine fq G.bz.toDG GO (λr u=>⟨_,(pH (pO (pP (qU G) r G.i (rG (pP (HY G) r G.I (so v0 pJ)) pJ pJ)))),?_⟩)
 rintro ds M Q ⟨ns,rfl,q⟩
 exact⟨ns,0,Z',_,_,_,Z',by decide,M,.refl,q⟩
def OW:Fq P w K mg base 6 a.bB (OL a):=by
 refine fq G.bB.toDG Hc (λr u=>⟨_,(pH (pO (pP (Pb G) r G.bx (qh v0 (rG (qk (pP (HY G) r G.I (so Y1 Y2)) (qk (qk pJ Y2) Y2)) (wz (pN v0) G.h.toCls G.Q (tz G) r) (wz (pN v0) G.h.toCls G.ap (yY G) r)))))),?_⟩)
 rintro ds M Q ⟨A,V,l,ns,k,rfl,rd,wf,ha,hk,q⟩
 obtain⟨ph,gr,ws,pon,pr,gd,rs,i1,_⟩:=rd.pl;have p1:=rd.ok.p1;have p8:=rd.ok.p8;have g3:=rd.ok.g3;have pl:l.pn.length=l.mJ.length:=cT ..;have nl:l.nm.length=l.mJ.length+l.groups.length:=by unfold pM.nm pM.pn pM.gn;rw[cW,cT,cT]
 refine⟨ns,k,Z',?_⟩;refine⟨.inl ⟨by decide,by decide⟩,.inr ⟨by lia,by lia⟩,?_⟩;refine pI rd.bd.at_ (pF Z' (pI i1 ⟨Z',_,⟨Z',Z'⟩,V.p,l,Z',rd.pl,by lia,λq1 ZI=>?_⟩));obtain⟨M1,e0,t1,l1⟩:=tL (ds:=l.pn.map D.str) ZI;rw[<-e0];show AO (M1 A.b) _;refine pI (t1 _ _ rd.bd.at_) (pF Z' (pI (t1 _ _ i1) ⟨Z',_,⟨Z',Z'⟩,V.p,l,Z',rd.pl.sub t1,by lia,by lia,λq2 hq2=>?_⟩));have t2:=qN.new (c:=.lst (l.nm.map D.str)) hq2;exact⟨A,V,l,_,q1,q2,l.pn,l.nm,Z',rd.sub (t1.trans t2),wf,ha,t2.lst l1,pU,λz=>by rw[z]at pl;simp only[dH]at pl;lia,λz=>by rw[z]at nl;simp only[dH]at nl;lia,by lia,by lia,λM' e s f=>⟨M',.refl,q M' e (t1.trans (t2.trans s)) f⟩⟩
def KO{x:Uf}{c:uR}(st:qX A M A' M')(h:x∉A.foot)(hx:M x=ga c):x∉A'.foot:=λz=>by
 rcases st.2.1 x z with y|y
 .exact h y
 .rw[hx]at y;cases y
noncomputable def wk(A:tq)(M:Mp):Mp:=λx=>if x∈A.foot then Fa else M x
def J5{A:tq}{x:Uf}{ds:T0 D}(h:oP M x=ga ds)(n:x∉A.foot):oP (wk A M) x=ga ds:=sj (by unfold wk;rw[cY n];exact qg h)
structure Lp(a:Ad)(M0 N M:Mp)(b:Uf)(A:tq)(V:qu)(l:pM)(m:Nat):Prop where
 cu:ui a M0 M b A V l (1+m) (3+2200*m)
 wf:WF l V
 ps:V.ps.length<=3
 own:∀x c,N x=ga c->M x=ga c/\x∉A.foot
variable {N:Mp}{m:Nat}
def Lp.start{b p:Uf}{A:tq}(ok:rb l)(pl:rM a M0 p l)(hb:M0 b=Fa)(eb:A.b=b)(kp:sH b (pQ M0 b (.ins a.c [])) M)(fr:∀x∈A.foot,x=b\/pQ M0 b (.ins a.c []) x=Fa)(bd:pS a M A (V0 p h l [])):ui a M0 M b A (V0 p h l []) l 1 3/\WF l (V0 p h l [])/\(V0 p h l []).ps.length<=3:=by
 have t:=qN.new (c:=.ins a.c []) hb;refine⟨⟨bd,pl,λx c e=>kp x c (RW e hb) (t x c e),λx hx=>?_,eb,⟨eK _,eK _,eK _,AF ok,λk hk=>by cases hk⟩,ok,cT ..⟩,SM ok,AF ok⟩;rcases fr x hx with z|z
 .rw[z];exact hb
 .exact t.none z
def Md{V:qu}{p:Uf}{F:QXQ}(h:WF l V):WF l (V.at_ p F):=⟨h.ok,h.un,h.ln,h.wt,h.nx⟩
theorem NE:∀(es:T0 Ev) (V:qu),(qO V es).fo=V.fo
 | [],_=>rfl
 | e::r,V=>(NE r _).trans (PD V e)
def Ks{x:Uf}{c:uR}(e:wk A M x=ga c):M x=ga c/\x∉A.foot:=by
 unfold wk at e;split at e
 .cases e
 .rename_i h;exact⟨e,h⟩
def AZ{A:tq}{M:Mp}{x:Uf}{c:uR}(e:M x=ga c)(n:x∉A.foot):wk A M x=ga c:=(cY n).trans e
def CN{A:tq}{x:Uf}(n:x∈A.foot):wk A M x=Fa:=de n
def Sw{p:Uf}{F F':QXQ}(bd:pS a M A (V0 p h l F))(hF:∀x∈F',∃c,M x=ga c):pS a M A (V0 p h l F'):=
 ⟨bd.at_,bd.ca,bd.le,bd.nx,bd.on,bd.lo,bd.len,λi k c e1 e2=>by simp[V0]at e2,bd.nl,bd.np,hF⟩
structure Tw(a:Ad)(N M:Mp)(b:Uf)(A:tq)(V:qu)(l:pM)(c n:Nat)(b2:Uf)(A2:tq)(V2:qu)(l2:pM)(c2 n2:Nat):Prop where
 x:ui a N M b A V l c n
 y:ui a N M b2 A2 V2 l2 c2 n2
 f:V.fo=A2.foot
 g:V2.fo=A.foot
 ne:∀x∈A.foot,x∉A2.foot
variable {b2:Uf}{A2:tq}{V2:qu}{l2:pM}{c' n' c2 n2:Nat}
section
variable {c:Nat}
end
def pS.refo{V:qu}{F:QXQ}(h:pS a M A V)(s:qN M M')(hn:∀x∈F,M x=Fa)(hF:∀x∈F,∃c,M' x=ga c):pS a M' A (V.at_ V.p F):=by
 have b:=h.sub s;refine⟨b.at_,b.ca,b.le,b.nx,b.on,b.lo,b.len,λi k c e1 e2=>?_,b.nl,b.np,hF⟩;obtain⟨ad,md,g1,g2,g3,g4,g5,g6⟩:=h.cs i k c e1 e2;have no:∀{x:Uf} {ds:T0 D},x∉A.lists++V.fo->oP M x=ga ds->x∉A.lists++F:=λ{x ds} hx e z=>by
  rcases dG.mp z with z|z
  .exact hx (eC _ z)
  .have:=hn x z;rw[qg e]at this;cases this
 exact⟨ad,md,s _ _ g1,s.lst g2,s.lst g3,s.lst g4,no g5 g3,no g6 g4⟩
def Tw.join{M01 M1 M3 M02 M4 M2 M:Mp}{V V2:qu}{c n d k:Nat}(c1:ui a M01 M1 b A V l c n)(s1:qN M1 M3)(s2:qN M3 M02)(pf:∀N,(∀x c,M3 x=Fa->M02 x=ga c->N x=ga c)->rM a N V2.p l2)(s4:qN M02 M4)(c2:ui a M4 M2 b2 A2 V2 l2 d k)(s3:qN M2 M)(hf:V2.fo=A.foot):Tw a (wk A2 (wk A M)) M b A (V.at_ V.p A2.foot) l c n b2 A2 V2 l2 d k:=by
 have d1:∀x∈A.foot,∃c,M3 x=ga c:=λx hx=>by obtain⟨c,e⟩:=c1.bd.oK.2 x hx;exact⟨c,s1 x c e⟩
 have s24:=s2.trans s4;have ne:∀x∈A.foot,x∉A2.foot:=λx hx z=>by obtain⟨c,e⟩:=d1 x hx;have:=c2.fr x z;rw[s24 x c e]at this;cases this
 have s23:=c2.s0.trans s3;have s14:=s1.trans s24;have sM:=s14.trans s23;have k1:qN M01 (wk A2 (wk A M)):=λx c e=>by
  have e1:=c1.s0 x c e;refine AZ (AZ (sM x c e1) λz=>?_) λz=>?_
  .rw[c1.fr x z]at e;cases e
  .have:=c2.fr x z;rw[s14 _ _ e1]at this;cases this
 have k2:rM a (wk A2 (wk A M)) V2.p l2:=pf _ λx c e1 e2=>AZ (AZ (s23 x c (s4 x c e2)) λz=>by
  obtain⟨d,e⟩:=d1 x z;rw[e1]at e;cases e) λz=>by have:=c2.fr x z;rw[s4 x c e2]at this;cases this
 have k3:qN (wk A2 (wk A M)) M:=λx c e=>(Ks (Ks e).1).1;have d2:∀x∈A2.foot,∃c,M x=ga c:=λx hx=>by obtain⟨c,e⟩:=c2.bd.oK.2 x hx;exact⟨c,s3 x c e⟩
 refine⟨⟨c1.bd.refo sM (λx hx=>s14.none (c2.fr x hx)) d2,c1.og.sub k1,k3,λx hx=>?_,c1.b,⟨c1.sz.lo,c1.sz.le,c1.sz.ca,c1.sz.ps,c1.sz.cs⟩,c1.ok,c1.on⟩,⟨c2.bd.sub s3,k2,k3,λx hx=>CN hx,c2.b,c2.sz,c2.ok,c2.on⟩,Z',hf,ne⟩;by_cases z:x∈A2.foot
 .exact CN z
 .exact(cY z).trans (CN hx)
def Tw.start{M01 M1 M3 M02 M2 M:Mp}{b b2 p p2:Uf}(c1:ui a M01 M1 b A (V0 p h l []) l 1 3)(s1:qN M1 M3)(s2:qN M3 M02)(pf:∀N,(∀x c,M3 x=Fa->M02 x=ga c->N x=ga c)->rM a N p2 l2)(c2:ui a M02 M2 b2 A2 (V0 p2 h l2 []) l2 1 3)(s3:qN M2 M):Tw a (wk A2 (wk A M)) M b A (V0 p h l A2.foot) l 1 3 b2 A2 (V0 p2 h l2 A.foot) l2 1 3:=
 Tw.join (V2:=V0 p2 h l2 A.foot) c1 s1 s2 pf .refl ⟨Sw c2.bd (λx hx=>by
  obtain⟨c,e⟩:=c1.bd.oK.2 x hx;exact⟨c,c2.s0 x c (s2 x c (s1 x c e))⟩),c2.og,c2.s0,c2.fr,c2.b,⟨c2.sz.lo,c2.sz.le,c2.sz.ca,c2.sz.ps,c2.sz.cs⟩,c2.ok,c2.on⟩ s3 Z'
variable {p:Uf}{F:QXQ}
def Rt{c z:Str}:xP l (V.at_ p F) c z=xP l V c z:=by
 have h:wQ l (V.at_ p F) c z=wQ l V c z:=funext λw=>by cases w<;>rfl
 unfold xP;rw[h];rfl
theorem Hk{c:Str}:∀(n:Nat) (z:Str) (way:QQQ) (st:sZ),ug l (V.at_ p F) c n z way st=ug l V c n z way st
 | 0,_,_,_=>rfl
 | n+1,z,way,st=>by unfold ug;rw[Rt];simp only[Hk n];rfl
def Sv:tV l (V.at_ p F) i=tV l V i:=by
 unfold tV tX;simp only[Hk];have h:∀e,sY l (V.at_ p F) i e=sY l V i e:=λe=>by cases e<;>rfl
 simp only[h];rfl
def Rk:rV l (V.at_ p F) i fs=rV l V i fs:=by
 unfold rV;split
 .dsimp only;rw[Aw,Sv]
 .rfl
def UA:vR l (V.at_ p F) i=vR l V i:=rfl
theorem Kf:∀(is:T0 Nat) (V:qu),qS l is (V.at_ p F)=qS l is V
 | [],_=>rfl
 | i::r,V=>by unfold qS;rw[UA,Rk,Aw,Kf r]
def VS(e:qL):vA l (V.at_ p F) e=vA l V e:=by
 cases e with
 | call y z=>show yD l (V.at_ p F) y z=yD l V y z;unfold yD;dsimp only;rw[Aw,Sv];rfl
 | num w x ns=>
  match ns with
  | []=>rfl
  | [_]=>rfl
  | [_,_]=>rfl
  | _::_::_::_=>rfl
 | turn=>show vL l (V.at_ p F)=vL l V;unfold vL;rw[J3,Kf];rfl
 | sw b i=>rfl
def Uu(e:qL):vv l (V.at_ p F) e=vv l V e:=by cases e<;>rfl
noncomputable def pM.less(l:pM):pM:={l with mG:=l.mG.filter (·.1)}
noncomputable def Ev.less:Ev->Ev
 | .asks i z _=>.asks i z []
 | e=>e
def Ev.nG:Ev->Prop
 | .sw _ _=>False
 | _=>True
abbrev vF(es fs:T0 Ev):Prop:=es.map Ev.less=fs.map Ev.less
noncomputable def qu.re(V:qu)(p:Uf)(F:QXQ)(on:T0 Bool)(lg:T0 Ev):qu:={V with p:=p,fo:=F,on:=on,log:=lg}
def RQ{V:qu}{p:Uf}{F:QXQ}{on:T0 Bool}{lg:T0 Ev}{e f:Ev}(h:e.less=f.less)(ns:e.nG):ql (V.re p F on lg) f=(ql V e).re p F on (lg++[f]):=by
 cases e<;>cases f<;>first
  | (exact ns.elim)
  | (cases h;done)
  | rfl
  | (cases h;rfl)
theorem Dx:∀{es fs:T0 Ev} {V:qu} {lg:T0 Ev},vF es fs->(∀e∈es,e.nG)->qO (V.re p F on lg) fs=(qO V es).re p F on (lg++fs)
 | [],[],V,lg,_,_=>by rw[eG];rfl
 | [],_::_,_,_,h,_=>by cases h
 | _::_,[],_,_,h,_=>by cases h
 | e::es,f::fs,V,lg,h,ns=>by have h1:e.less=f.less:=(fC h).1;have h2:vF es fs:=(fC h).2;show qO (ql (V.re p F on lg) f) fs=(qO (ql V e) es).re p F on (lg++f::fs);rw[RQ h1 (ns e dC),Dx h2 λx hx=>ns x (dz _ hx),fh];rfl
theorem GK{α:Type}(q:α->Bool):∀ws:List α,((List.range ws.length).find? λi=>(ws[i]?).elim pc q).bind (ws[·]?)=ws.find? q
 | []=>rfl
 | w::r=>by
  rw[d4,j9,ft,ft];show(match q w with|true=>ga 0|false=>_).bind _=_;cases hq:q w with
  | true=>rfl
  | false=>
   rw[<-GK q r];dsimp only;rw[List.find?_map];cases e:(List.range r.length).find? λi=>(r[i]?).elim pc q with
   | none=>have:(List.range r.length).find? ((λi=>((w::r)[i]?).elim pc q)∘Nat.succ)=Fa:=e;rw[this];rfl
   | some i=>have:(List.range r.length).find? ((λi=>((w::r)[i]?).elim pc q)∘Nat.succ)=ga i:=e;rw[this];rfl
abbrev BI(l:pM)(V:qu):Prop:=V.on=l.mG.map (·.1)
def El(h:BI l V)(f:Wi->Bool):(yc l V f).head?.bind (l.mG[·]?)=l.mG.find? λw=>w.1&&f w.2:=by
 rw[<-GK];unfold yc;rw[h,cT,List.head?_filter];congr 2;funext i;rw[fB,dv];cases l.mG[i]? with
 | none=>rfl
 | some w=>rfl
def P0{α:Type}(p q:α->Bool)(ws:List α):(ws.filter p).find? (λw=>p w&&q w)=ws.find? λw=>p w&&q w:=by rw[List.find?_filter];congr 1;funext w;cases p w<;>simp
noncomputable abbrev qu.nJ(V:qu)(l:pM)(p:Uf)(F:QXQ)(lg:T0 Ev):qu:=V.re p F (l.less.mG.map (·.1)) lg
variable {lg:T0 Ev}
def TQ(c z:Str)(on:T0 Bool):wQ l.less (V.re p F on lg) c z=wQ l V c z:=funext λw=>by cases w<;>rfl
def HP(h:BI l V)(f:Wi->Bool):(yc l.less (V.nJ l p F lg) f).head?.bind (l.less.mG[·]?)=(yc l V f).head?.bind (l.mG[·]?):=by rw[El (l:=l.less) Z',El h];exact P0 (λw=>w.1) (λw=>f w.2) l.mG
def Gs{V:qu}{f:Wi->Bool}:yc l V f=[]/\(yc l V f).head?.bind (l.mG[·]?)=Fa\/∃i r w,yc l V f=i::r/\l.mG[i]?=ga w/\(yc l V f).head?.bind (l.mG[·]?)=ga w:=by
 cases e:yc l V f with
 | nil=>exact .inl ⟨Z',Z'⟩
 | cons i r=>obtain⟨w,hw,_⟩:=BY (l:=l) (V:=V) (f:=f) (i:=i) (by rw[e];exact dC);exact .inr ⟨i,r,w,Z',hw,hw⟩
theorem GZ(h:BI l V){c:Str}:∀(n:Nat) (z:Str) (way:QQQ) (st Y4:sZ),Y4.map (·.1)=st.map (·.1)->(ug l.less (V.nJ l p F lg) c n z way Y4).1=(ug l V c n z way st).1/\(ug l.less (V.nJ l p F lg) c n z way Y4).2.map (·.1)=(ug l V c n z way st).2.map (·.1)
 | 0,_,_,_,_,e=>⟨Z',e⟩
 | n+1,z,way,st,Y4,e=>by
  unfold ug;by_cases hw:hasS way z=Db
  .rw[de hw,de hw];exact⟨Z',e⟩
  rw[cY hw,cY hw];have ef:xP l.less (V.nJ l p F lg) c z=yc l.less (V.nJ l p F lg) (wQ l V c z):=by unfold xP;rw[TQ]
  rw[ef];have hd:=HP (p:=p) (F:=F) (lg:=lg) h (wQ l V c z);unfold xP;have snoc:∀(fs fs2:T0 Nat),(Y4++[(z,fs2)]).map (·.1)=(st++[(z,fs)]).map (·.1):=λfs fs2=>by rw[dF,dF,e];rfl
  rcases Gs (l:=l) (V:=V) (f:=wQ l V c z)with⟨e1,e2⟩|⟨i,r,w,e1,e2,e3⟩
  .rcases Gs (l:=l.less) (V:=V.nJ l p F lg) (f:=wQ l V c z)with⟨g1,g2⟩|⟨i',r',w',g1,g2,g3⟩
   .rw[e1,g1];exact⟨Z',snoc _ _⟩
   .rw[g3,e2]at hd;cases hd
  .rcases Gs (l:=l.less) (V:=V.nJ l p F lg) (f:=wQ l V c z)with⟨g1,g2⟩|⟨i',r',w',g1,g2,g3⟩
   .rw[g2,e3]at hd;cases hd
   .rw[g3,e3]at hd;cases hd;rw[e1,g1];dsimp only;rw[e2,g2];dsimp only[Option.elim];cases GP z w.2 with
    | inl en=>exact⟨Z',snoc _ _⟩
    | inr y=>exact GZ h n y _ _ _ (snoc _ _)
theorem HC(i:Nat):∀(o:Option Str) (st Y4:sZ),Y4.map (·.1)=st.map (·.1)->vF (rP i o st) (rP i o Y4)
 | _,[],[],_=>by cases ‹Option Str›<;>rfl
 | _,[],_::_,h=>by cases h
 | _,_::_,[],h=>by cases h
 | o,(z,fs)::r,(z2,fs2)::r2,h=>by
  have h1:z2=z:=(fC h).1;have h2:r2.map (·.1)=r.map (·.1):=(fC h).2;subst h1;have ih:=HC i (ga z2) r r2 h2;cases o with
  | none=>exact eE (Ev.asks i z2 []::·) ih
  | some y=>exact eE (λx=>Ev.leg ⟨i,y,z2,y⟩::Ev.asks i z2 []::x) ih
def Rz{st Y4:sZ}(h:Y4.map (·.1)=st.map (·.1)):(Y4.getLast?).map (·.1)=(st.getLast?).map (·.1):=by rw[<-lH,h,lH]
def xo{a b c d:T0 Ev}(h:vF a b)(g:vF c d):vF (a++c) (b++d):=by show(a++c).map _=(b++d).map _;rw[dF,dF,h,g]
def SH(h:BI l V){i:Nat}:vF (tV l V i) (tV l.less (V.nJ l p F lg) i):=by
 unfold tV;show vF ((V.calls[i]?).elim [] _) ((V.calls[i]?).elim [] _);cases V.calls[i]? with
 | none=>rfl
 | some c=>
  dsimp only[Option.elim];have r:=GZ (p:=p) (F:=F) (lg:=lg) h (c:=c.cr) (l.nm.length+1) (c.way.getLastD Str.empty) c.way.dropLast [] [] Z';have r:(tX l.less (V.nJ l p F lg) c.cr (c.way.getLastD Str.empty) c.way.dropLast).1=(tX l V c.cr (c.way.getLastD Str.empty) c.way.dropLast).1/\(tX l.less (V.nJ l p F lg) c.cr (c.way.getLastD Str.empty) c.way.dropLast).2.map (·.1)=(tX l V c.cr (c.way.getLastD Str.empty) c.way.dropLast).2.map (·.1):=r;generalize tX l.less (V.nJ l p F lg) c.cr (c.way.getLastD Str.empty) c.way.dropLast=g2 at r ⊢;generalize tX l V c.cr (c.way.getLastD Str.empty) c.way.dropLast=g1 at r ⊢;obtain⟨e1,s1⟩:=g1;obtain⟨e2,s2⟩:=g2;obtain⟨r1,r2⟩:=r;dsimp only at r1 r2 ⊢;subst r1;refine xo (HC i Fa _ _ r2) (xo ?_ ?_)
  .cases e2 with
   | ring ns=>
    show vF ((s1.getLast?).elim [] _) ((s2.getLast?).elim [] _);have:=Rz r2;cases h1:s1.getLast?<;>cases h2:s2.getLast?<;>rw[h1,h2]at this
    .cases this
    .cases this
    .have:=df this;dsimp only[Option.elim]at this ⊢;rw[this]
   | _=>rfl
  .cases e2<;>rfl
def Vc(h:BI l V){i:Nat}:(vR l.less (V.nJ l p F lg) i).head?.bind (l.less.mG[·]?)=(vR l V i).head?.bind (l.mG[·]?):=by
 unfold vR;show((V.calls[i]?).elim [] _).head?.bind _=((V.calls[i]?).elim [] _).head?.bind _;cases V.calls[i]? with
 | none=>rfl
 | some c=>
  dsimp only[Option.elim];by_cases hs:(c.st=="rings")=Db
  .rw[de hs,de hs];exact HP h (FV c)
  .rw[cY hs,cY hs];rfl
def OG{e:Ev}(h:e.oG):e.nG:=by cases e<;>first|exact h.elim|trivial
def Ua:∀e∈tV l V i,e.nG:=λe h=>OG (Ow e h)
def HZ:∀e∈rV l V i fs,e.nG:=λe h=>OG (GQ e h)
def FT{es:T0 Ev}{V:qu}(h:∀e∈es,e.nG):(qO V es).on=V.on:=by
 induction es generalizing V with
 | nil=>rfl
 | cons e r ih=>show(qO (ql V e) r).on=V.on;rw[ih λx hx=>h x (dz _ hx)];have:=h e dC;cases e<;>first|exact this.elim|rfl
def Rn(h:BI l V){i:Nat}:vF (rV l V i (vR l V i)) (rV l.less (V.nJ l p F lg) i (vR l.less (V.nJ l p F lg) i)):=by
 have hd:=Vc (p:=p) (F:=F) (lg:=lg) h (i:=i);generalize vR l.less (V.nJ l p F lg) i=f2 at hd ⊢;generalize vR l V i=f1 at hd ⊢;unfold rV;rw[hd];split
 .rename_i x y _ _;dsimp only;have al:vF [Ev.asks i x f1,.quiet i,.leg ⟨i,x,y,x⟩] [Ev.asks i x f2,.quiet i,.leg ⟨i,x,y,x⟩]:=rfl;have ns:∀e∈[Ev.asks i x f1,.quiet i,.leg ⟨i,x,y,x⟩],e.nG:=λe he=>by simp only[dg,dQ,fP]at he;rcases he with rfl|rfl|rfl<;>trivial
  refine xo al ?_;rw[Dx al ns];exact SH ((FT ns).trans h)
 .rfl
theorem Kx:∀(is:T0 Nat) (V:qu) (lg:T0 Ev),BI l V->vF (qS l is V) (qS l.less is (V.nJ l p F lg))
 | [],_,_,_=>rfl
 | i::r,V,lg,h=>by have al:=Rn (p:=p) (F:=F) (lg:=lg) h (i:=i);unfold qS;refine xo al ?_;rw[Dx al HZ];exact Kx r _ _ ((FT HZ).trans h)
def MJ(is:T0 Nat)(V:qu):∀e∈qS l is V,e.nG:=λe h=>OG (Hy is V e h)
def qL.nG:qL->Prop
 | .sw _ _=>False
 | _=>True
def Vn(h:BI l V){e:qL}(hs:e.nG):vF (vA l V e) (vA l.less (V.nJ l p F lg) e):=by
 cases e with
 | call y z=>
  show vF (_++_) (_++_);have ns:∀e∈[Ev.new V.calls.length y,.leg ⟨V.calls.length,y,z,y⟩],e.nG:=λe he=>by simp only[dg,dQ,fP]at he;rcases he with rfl|rfl<;>trivial
  refine xo Z' ?_;show vF _ (tV l.less (qO (V.nJ l p F lg) [Ev.new V.calls.length y,.leg ⟨V.calls.length,y,z,y⟩]) V.calls.length);rw[Dx (es:=[Ev.new V.calls.length y,.leg ⟨V.calls.length,y,z,y⟩]) Z' ns];exact SH ((FT ns).trans h)
 | num w x ms=>
  match ms with
  | []=>rfl
  | [_]=>rfl
  | [_,_]=>rfl
  | _::_::_::_=>rfl
 | turn=>show vF (vL l V) (vL l.less (V.nJ l p F lg));unfold vL;refine eE (Ev.turn::·) ?_;have:=Kx (l:=l) (p:=p) (F:=F) (List.range V.calls.length) (ql V .turn) (lg++[.turn]) h;exact this
 | sw b i=>exact hs.elim
def Mo:∀e∈vK V x i,e.nG:=λe h=>by
 unfold vK at h;cases hc:V.calls[i]? with
 | none=>rw[hc]at h;cases h
 | some c=>
  rw[hc]at h;dsimp only[Option.elim]at h;split at h
  .rw[cZ.mp h];trivial
  split at h
  .rcases dg.mp h with rfl|h
   .trivial
   .split at h
    .rw[cZ.mp h];trivial
    .cases h
  split at h
  .rw[cZ.mp h];trivial
  .rw[cZ.mp h];trivial
def OE{e:qL}(hs:e.nG):∀v∈vA l V e,v.nG:=λv h=>by
 cases e with
 | call y z=>
  rcases dG.mp (show v∈[Ev.new V.calls.length y,.leg ⟨V.calls.length,y,z,y⟩]++tV l _ _ from h)with h|h
  .simp only[dg,dQ,fP]at h;rcases h with rfl|rfl<;>trivial
  .exact Ua v h
 | turn=>
  rcases dg.mp (show v∈Ev.turn::qS l _ _ from h)with rfl|h
  .trivial
  .exact MJ _ _ v h
 | sw b i=>exact hs.elim
 | num w x ms=>
  match ms with
  | []=>cases h
  | [i]=>
   unfold vA at h;dsimp only at h;split at h
   .exact Mo v h
   .rw[cZ.mp h];unfold DH;cases V.calls[i.toNat]? with
    | none=>trivial
    | some c=>
     dsimp only[Option.elim];split
     .trivial
     .split<;>trivial
  | [i,j]=>
   rw[cZ.mp (show v∈[CT V w x i.toNat j.toNat]from h)];unfold CT;cases V.calls[i.toNat]? with
   | none=>trivial
   | some c=>
    cases V.calls[j.toNat]? with
    | none=>trivial
    | some d=>trivial
  | _::_::_::_=>cases h
def Tf{e:qL}(hs:e.nG):vv l.less (V.nJ l p F lg) e=vv l V e:=by
 cases e with
 | sw b i=>exact hs.elim
 | _=>rfl
def B2{M M':Mp}{p:Uf}{c:uR}(hp:M p=Fa)(s:qN M M'):qN M (pQ M' p c):=λx d e=>sH.put x d (RW e hp) (s x d e)
variable {A1:tq}{X:QXQ}
section
variable {c:Nat}
def pS.ou(h:pS a M A V)(st:qX A1 M A2 M')(h1:∀x∈A1.foot,x∉A.foot)(h2:V.fo=A1.foot++X)(h3:∀x∈A2.foot,∃c,M' x=ga c):pS a M' A (V.at_ V.p (A2.foot++X)):=by
 have b:=h.frame st h1 λx hx=>.inl (by rw[h2];exact eC _ hx);have h4:∀x∈X,∃c,M x=ga c:=λx hx=>h.fo x (by rw[h2];exact dO _ hx);refine⟨b.at_,b.ca,b.le,b.nx,b.on,b.lo,b.len,λi k c e1 e2=>?_,b.nl,b.np,λx hx=>(dG.mp hx).elim (h3 x) λz=>(h4 x z).elim λc e=>st.2.2.2 x c e⟩;obtain⟨ad,md,g1,g2,g3,g4,g5,g6⟩:=h.cs i k c e1 e2;obtain⟨f1,f2,f3,f4,f5,f6,f7⟩:=A.mS;have no:∀{x:Uf} {ds:T0 D},x∉A.lists++V.fo->oP M x=ga ds->oP M' x=ga ds/\x∉A.lists++(A2.foot++X):=λ{x ds} hx e=>by
  rw[h2]at hx;have n1:x∉A1.foot:=λz=>hx (dO _ (eC _ z));refine⟨sj (st.1 x _ n1 (qg e)),λz=>?_⟩;rcases dG.mp z with z|z
  .exact hx (eC _ z)
  rcases dG.mp z with z|z
  .rcases st.2.1 x z with y|y
   .exact n1 y
   .rw[qg e]at y;cases y
  .exact hx (dO _ (dO _ z))
 have hf:∀x∈A.foot,∀c,M x=ga c->M' x=ga c:=λx hx c e=>st.1 x c (λz=>h1 x z hx) e;exact⟨ad,md,hf _ (f6 k (qR e1)) _ g1,sj (hf _ (f7 k (qR e1)) _ (qg g2)),(no g5 g3).1,(no g6 g4).1,(no g5 g3).2,(no g6 g4).2⟩
def pS.oS{x:Uf}{d:uR}(h:pS a M A V)(hx:x∈V.fo)(nf:x∉A.foot):pS a (pQ M x d) A V:=by
 have hy:∀y∈(tq.foot {b:=x,ca:=x,le:=x,nx:=x,on:=x,lo:=x,cs:=[]}),y=x:=λy hy=>by simp[tq.foot,tq.lists]at hy;exact hy
 have st:qX {b:=x,ca:=x,le:=x,nx:=x,on:=x,lo:=x,cs:=[]} M {b:=x,ca:=x,le:=x,nx:=x,on:=x,lo:=x,cs:=[]} (pQ M x d):=⟨λy c n e=>sH.put y c (λz=>n (by rw[z];exact dC)) e,λ_ h=>.inl h,λ_ _ h=>h,λy c e=>BW e⟩;exact h.frame st (λy z=>by rw[hy y z];exact nf) λy z=>.inl (by rw[hy y z];exact hx)
def pS.oA{F:QXQ}(h:pS a M A V)(s:qN M M')(hn:∀x∈F,x∈V.fo\/M x=Fa)(hF:∀x∈F,∃c,M' x=ga c):pS a M' A (V.at_ V.p F):=by
 have b:=h.sub s;refine⟨b.at_,b.ca,b.le,b.nx,b.on,b.lo,b.len,λi k c e1 e2=>?_,b.nl,b.np,hF⟩;obtain⟨ad,md,g1,g2,g3,g4,g5,g6⟩:=h.cs i k c e1 e2;have no:∀{x:Uf} {ds:T0 D},x∉A.lists++V.fo->oP M x=ga ds->x∉A.lists++F:=λ{x ds} hx e z=>by
  rcases dG.mp z with z|z
  .exact hx (eC _ z)
  .rcases hn x z with y|y
   .exact hx (dO _ y)
   .rw[qg e]at y;cases y
 exact⟨ad,md,s _ _ g1,s.lst g2,s.lst g3,s.lst g4,no g5 g3,no g6 g4⟩
end
structure Tx(a:Ad)(N M:Mp)(b:Uf)(A:tq)(V:qu)(l:pM)(b2:Uf)(A2:tq)(V2:qu)(l2:pM)(c n:Nat)(X:QXQ):Prop where
 x:ui a N M b A V l c n
 y:ui a N M b2 A2 V2 l2 c n
 f:V.fo=A2.foot++X
 g:V2.fo=A.foot++X
 ne:∀x∈A.foot,x∉A2.foot
 h:∀x∈X,N x=Fa/\x∉A.foot/\x∉A2.foot
section
variable {c:Nat}
def Tx.one(t:Tx a N M b A V l b2 A2 V2 l2 c n X)(st:qX A M A' M')(cu:ui a N M' b A' V' l c' n')(hf:V'.fo=V.fo)(hc:c<=c')(hn:n<=n'):Tx a N M' b A' V' l b2 A2 (V2.at_ V2.p (A'.foot++X)) l2 c' n' X:=by
 have dm:=cu.bd.oK.2;have y:=t.y.mono hc hn;refine⟨cu,⟨y.bd.ou st t.ne t.g dm,y.og,cu.s0,y.fr,y.b,⟨y.sz.lo,y.sz.le,y.sz.ca,y.sz.ps,y.sz.cs⟩,y.ok,y.on⟩,hf.trans t.f,Z',λx h z=>?_,λx hx=>⟨(t.h x hx).1,λz=>?_,(t.h x hx).2.2⟩⟩
 .rcases st.2.1 x h with w|w
  .exact t.ne x w z
  .exact t.y.bd.nU w z
 .rcases st.2.1 x z with w|w
  .exact(t.h x hx).2.1 w
  .obtain⟨d,e⟩:=t.x.bd.fo x (by rw[t.f];exact dO _ hx);rw[w]at e;cases e
def Tx.swap(t:Tx a N M b A V l b2 A2 V2 l2 c n X):Tx a N M b2 A2 V2 l2 b A V l c n X:=⟨t.y,t.x,t.g,t.f,λx h z=>t.ne x z h,λx hx=>⟨(t.h x hx).1,(t.h x hx).2.2,(t.h x hx).2.1⟩⟩
def Tx.mono(t:Tx a N M b A V l b2 A2 V2 l2 c n X)(hc:c<=c')(hn:n<=n'):Tx a N M b A V l b2 A2 V2 l2 c' n' X:=⟨t.x.mono hc hn,t.y.mono hc hn,t.f,t.g,t.ne,t.h⟩
def Tx.put(t:Tx a N M b A V l b2 A2 V2 l2 c n X){x:Uf}{d:uR}(hx:x∈X):Tx a N (pQ M x d) b A V l b2 A2 V2 l2 c n X:=by obtain⟨h1,h2,h3⟩:=t.h x hx;exact⟨⟨t.x.bd.oS (by rw[t.f];exact dO _ hx) h2,t.x.og,B2 h1 t.x.s0,t.x.fr,t.x.b,t.x.sz,t.x.ok,t.x.on⟩,⟨t.y.bd.oS (by rw[t.g];exact dO _ hx) h3,t.y.og,B2 h1 t.y.s0,t.y.fr,t.y.b,t.y.sz,t.y.ok,t.y.on⟩,t.f,t.g,t.ne,t.h⟩
def Tx.start(t:Tw a N M b A V l c n b2 A2 V2 l2 c n)(s:qN M M')(hX:∀x∈X,M x=Fa/\∃c,M' x=ga c):Tx a N M' b A (V.at_ V.p (A2.foot++X)) l b2 A2 (V2.at_ V2.p (A.foot++X)) l2 c n X:=by have k:∀{B:tq} {U:qu},pS a M B U->∀x∈B.foot++X,(∃c,M' x=ga c):=λbd x hx=>(dG.mp hx).elim (λz=>(bd.oK.2 x z).elim λc e=>⟨c,s x c e⟩) λz=>(hX x z).2;refine⟨⟨t.x.bd.oA s (λx hx=>(dG.mp hx).elim (λz=>.inl (by rw[t.f];exact z)) λz=>.inr (hX x z).1) (k t.y.bd),t.x.og,t.x.s0.trans s,t.x.fr,t.x.b,⟨t.x.sz.lo,t.x.sz.le,t.x.sz.ca,t.x.sz.ps,t.x.sz.cs⟩,t.x.ok,t.x.on⟩,⟨t.y.bd.oA s (λx hx=>(dG.mp hx).elim (λz=>.inl (by rw[t.g];exact z)) λz=>.inr (hX x z).1) (k t.x.bd),t.y.og,t.y.s0.trans s,t.y.fr,t.y.b,⟨t.y.sz.lo,t.y.sz.le,t.y.sz.ca,t.y.sz.ps,t.y.sz.cs⟩,t.y.ok,t.y.on⟩,Z',Z',t.ne,λx hx=>⟨t.x.s0.none (hX x hx).1,t.x.bd.nU (hX x hx).1,t.y.bd.nU (hX x hx).1⟩⟩
def Tx.keep(t:Tx a N M b A V l b2 A2 V2 l2 c n X)(st:qX A M A' M'){x:Uf}{ds:T0 D}(hx:x∈X)(e:oP M x=ga ds):oP M' x=ga ds:=sj (st.1 x _ (t.h x hx).2.1 (qg e))
end
def uB(l:pM)(V:qu)(e:qL):qu:=if (vv l V e).isNone=Db then qO V (vA l V e)else V
def tU(l:pM)(h:Int)(es:List qL):qu:=es.foldl (uB l) (V0 0 h l [])
def CP{V:qu}{p:Uf}{F:QXQ}{e:qL}:uB l (V.at_ p F) e=(uB l V e).at_ p F:=by unfold uB;rw[Uu,VS,Aw];split<;>rfl
def OI{V:qu}{e:qL}:(uB l V e).fo=V.fo:=by
 unfold uB;split
 .exact NE _ _
 .rfl
def Ay{V:qu}{e:qL}(ok:rb l)(wf:WF l V)(f:e.mZ):WF l (uB l V e)/\(uB l V e).ps.length=V.ps.length:=by
 unfold uB;split
 .rename_i h;have hr:=Option.isNone_iff_eq_none.mp h;exact⟨WK ok wf f hr,WL ok wf f hr⟩
 .exact⟨wf,Z'⟩
def xj{es:List qL}{e:qL}:tU l h (es++[e])=uB l (tU l h es) e:=by unfold tU;rw[jr];rfl
def KF(ok:rb l):∀(es:List qL),(∀e∈es,e.mZ)->WF l (tU l h es)/\(tU l h es).ps.length<=3:=λes=>by
 suffices key:∀r:List qL,(∀e∈r.reverse,e.mZ)->WF l (tU l h r.reverse)/\(tU l h r.reverse).ps.length<=3 by
  have:=key es.reverse
  rwa [iY]at this
 intro r;induction r with
 | nil=>exact λ_=>⟨SM ok,AF ok⟩
 | cons e r ih=>intro hf;rw[jt]at hf ⊢;obtain⟨h1,h2⟩:=ih λx hx=>hf x (eC _ hx);obtain⟨k1,k2⟩:=Ay ok h1 (hf e (dO _ dC));rw[xj];exact⟨k1,by rw[k2];exact h2⟩
def tw1(sw:T0 Nat)(i:Nat)(w:uA):uA:=(!(w.1==sw.any (·==i)),w.2)
noncomputable def pM.turn(l:pM)(sw:T0 Nat):pM:=⟨l.mJ,l.groups,l.mG.mapIdx (tw1 sw)⟩
def BZ{sw:T0 Nat}(ok:rb l):rb (l.turn sw):=⟨ok.p1,ok.p8,ok.po,ok.g3,ok.go,ok.nd,by
 show(l.mG.mapIdx (tw1 sw)).length<=16;rw[iH];exact ok.oH,λw hw=>by
 obtain⟨i,hi,rfl⟩:=List.mem_mapIdx.mp hw;exact ok.wo l.mG[i] (gy hi)⟩
theorem zp{f:D->D->Option Bool}:∀(a b:T0 D),(∀x∈a,∀y∈b,(f x y).isSome=Db)->(qQ f a b).isSome=Db
 | [],_,_=>rfl
 | _::_,[],_=>rfl
 | x::a,y::b,h=>by obtain⟨u,hu⟩:=fH.mp (h x dC y dC);obtain⟨v,hv⟩:=fH.mp (zp a b λz hz w hw=>h z (dz _ hz) w (dz _ hw));show((f x y).bind λp=>(qQ f a b).map λq=>p&&q).isSome=Db;rw[hu,hv];rfl
def tY{f:D->D->Option Bool}{x y:D}{a b:T0 D}(h:(f x y).isSome=Db)(h2:(qQ f a b).isSome=Db):(qQ f (x::a) (y::b)).isSome=Db:=by obtain⟨u,hu⟩:=fH.mp h;obtain⟨v,hv⟩:=fH.mp h2;show((f x y).bind λp=>(qQ f a b).map λq=>p&&q).isSome=Db;rw[hu,hv];rfl
def Di{a b:T0 D}(h:(qQ (we M n) a b).isSome=Db):(we M (n+1) (.tup a) (.tup b)).isSome=Db:=by show((qQ (we M n) a b).map λp=>p&&a.length==b.length).isSome=Db;rw[iK];exact h
def Bc{n:Nat}{ss ts:QQQ}:(we M (n+2) (.tup (ss.map D.str)) (.tup (ts.map D.str))).isSome=Db:=Di (zp _ _ λx hx y hy=>by
 obtain⟨u,_,rfl⟩:=dE.mp hx;obtain⟨v,_,rfl⟩:=dE.mp hy;rfl)
def Ke{n:Nat}{o u:Option Str}:(we M (n+1) (BV o) (BV u)).isSome=Db:=by cases o<;>cases u<;>rfl
def MO{n:Nat}{c d:pL}:(we M (n+3) (xT c) (xT d)).isSome=Db:=Di (tY Z' (tY Z' (tY Bc (tY Bc (tY Bc (tY Ke (tY Z' (tY Ke Z'))))))))
theorem Ex{f g:D->D->Option Bool}:∀(a b:T0 D),(∀x∈a,∀y∈b,f x y=g x y)->qQ f a b=qQ g a b
 | [],_,_=>rfl
 | _::_,[],_=>rfl
 | x::a,y::b,h=>by show((f x y).bind λp=>(qQ f a b).map λq=>p&&q)=((g x y).bind λp=>(qQ g a b).map λq=>p&&q);rw[h x dC y dC,Ex a b λz hz w hw=>h z (dz _ hz) w (dz _ hw)]
theorem Hv:∀(n:Nat) (x y:D),uw n x=Db->uw n y=Db->we M (n+1) x y=we N (n+1) x y
 | 0,x,y,hx,hy=>by cases x<;>cases y<;>first|rfl|cases hx|cases hy
 | n+1,x,y,hx,hy=>by
  cases x with
  | tup a=>
   cases y with
   | tup b=>show(qQ (we M (n+1)) a b).map (λp=>p&&a.length==b.length)=(qQ (we N (n+1)) a b).map λp=>p&&a.length==b.length;rw[Ex a b λx h1 y h2=>Hv n x y (eD.mp (show a.all (uw n)=Db from hx) x h1) (eD.mp (show b.all (uw n)=Db from hy) y h2)]
   | ref _=>cases hy
   | ty _=>cases hy
   | rl _=>cases hy
   | _=>rfl
  | ref _=>cases hx
  | ty _=>cases hx
  | rl _=>cases hx
  | _=>cases y<;>first|rfl|cases hy
def R9(cs ds:List pL):Bool:=(we (λ_=>Fa) 9 (.tup (cs.map xT)) (.tup (ds.map xT))).getD Db
def zr(V:qu):uw 8 (.tup (V.calls.map xT))=Db:=by have h:[D.int V.t,.tup (V.calls.map xT),.tup ((tP V.ps).map zV),.tup (V.on.map D.bl)].all (uw 8)=Db:=Nt (n:=5) V;exact eD.mp h _ (dz _ dC)
def TR(V W:qu):we M 9 (.tup (V.calls.map xT)) (.tup (W.calls.map xT))=ga (R9 V.calls W.calls):=by
 rw[Hv (N:=λ_=>Fa) 8 _ _ (zr V) (zr W)];unfold R9;obtain⟨b,hb⟩:=fH.mp (Di (M:=λ_=>Fa) (n:=8) (zp (V.calls.map xT) (W.calls.map xT) λx hx y hy=>by
  obtain⟨u,_,rfl⟩:=dE.mp hx;obtain⟨v,_,rfl⟩:=dE.mp hy;exact MO))
 rw[hb];rfl
noncomputable def tJ(is:T0 Nat):T0 D:=is.map λi=>D.int (i:Nat)
def xJ(l l2:pM)(h:Int)(es:List qL)(i:Nat):Bool:=!(R9 (tU l h (es.take (i+1))).calls (tU l2 h (es.take (i+1))).calls)
def yh(l l2:pM)(h:Int)(es:List qL):T0 Nat:=(List.range es.length).filter (xJ l l2 h es)
def O4{es:List qL}{e:qL}:yh l l2 h (es++[e])=yh l l2 h es++(if (!(R9 (tU l h (es++[e])).calls (tU l2 h (es++[e])).calls))=Db then[es.length]else[]):=by
 unfold yh;rw[cW,dD,iu,gW,gA,gF];congr 1
 .refine ju λi hi=>?_;have:=e9.mp hi;unfold xJ;rw[List.take_append_of_le_length (by lia)]
 .unfold xJ;rw[gY (by rw[cW,dD];lia)]
def QA{es:List qL}:(yh l l2 h es).length<=es.length:=by have:=fL (xJ l l2 h es) (List.range es.length);rw[dS]at this;exact this
variable {h:Int}
def LP{V:qu}{e:qL}{p:Uf}{F:QXQ}{lg:T0 Ev}(oa:BI l V)(hs:e.nG):(∃lg',uB l.less (V.nJ l p F lg) e=(uB l V e).nJ l p F lg')/\BI l (uB l V e):=by
 unfold uB;rw[Tf hs];split
 .exact⟨⟨_,Dx (Vn oa hs) (OE hs)⟩,(FT (OE hs)).trans oa⟩
 .exact⟨⟨lg,Z'⟩,oa⟩
def L6(es:List qL)(hs:∀e∈es,e.nG):(∃lg,tU l.less h es=(tU l h es).nJ l 0 [] lg)/\BI l (tU l h es):=by
 suffices key:∀r:List qL,(∀e∈r.reverse,e.nG)->(∃lg,tU l.less h r.reverse=(tU l h r.reverse).nJ l 0 [] lg)/\BI l (tU l h r.reverse)by have:=key es.reverse;rw[iY]at this;exact this hs
 intro r;induction r with
 | nil=>exact λ_=>⟨⟨[],Z'⟩,Z'⟩
 | cons e r ih=>intro hf;rw[jt]at hf ⊢;obtain⟨⟨lg,h1⟩,h2⟩:=ih λx hx=>hf x (eC _ hx);rw[xj,xj,h1];exact LP h2 (hf e (dO _ dC))
def CM{es:List qL}(hs:∀e∈es,e.nG):(tU l.less h es).calls=(tU l h es).calls:=by obtain⟨⟨lg,e⟩,_⟩:=L6 (l:=l) (h:=h) es hs;rw[e];rfl
def GG{l2:pM}{es:List qL}(hs:∀e∈es,e.nG):yh l.less l2.less h es=yh l l2 h es:=by unfold yh;refine eE (λf=>(List.range es.length).filter f) (funext λi=>?_);unfold xJ;rw[CM λe he=>hs e (gm he),CM λe he=>hs e (gm he)]
def Mn{l2 k k2:pM}{es:List qL}(h1:l.less=k.less)(h2:l2.less=k2.less)(hs:∀e∈es,e.nG):yh l l2 h es=yh k k2 h es:=by rw[<-GG hs,h1,h2,GG hs]
def Pm:l.turn []=l:=by
 unfold pM.turn;have:l.mG.mapIdx (tw1 [])=l.mG:=hW λi=>by
  rw[gp];cases l.mG[i]? with
  | none=>rfl
  | some w=>obtain⟨b,v⟩:=w;cases b<;>rfl
 rw[this]
def K1{sw:T0 Nat}:(l.turn sw).turn sw=l:=by
 have:(l.mG.mapIdx (tw1 sw)).mapIdx (tw1 sw)=l.mG:=hW λi=>by
  rw[gp,gp];cases l.mG[i]? with
  | none=>rfl
  | some w=>obtain⟨b,v⟩:=w;show ga (tw1 sw i (tw1 sw i (b,v)))=ga (b,v);unfold tw1;dsimp only;cases b<;>cases sw.any (·==i)<;>rfl
 show(⟨l.mJ,l.groups,(l.mG.mapIdx (tw1 sw)).mapIdx (tw1 sw)⟩:pM)=l;rw[this]
def Nr(V:qu):R9 V.calls V.calls=Db:=by unfold R9;rw[Cs 8 _ (zr V)];rfl
theorem Ce{f:D->D->Option Bool}(h:∀x y,f x y=f y x):∀a b:T0 D,qQ f a b=qQ f b a
 | [],[]=>rfl
 | [],_::_=>rfl
 | _::_,[]=>rfl
 | x::a,y::b=>by show((f x y).bind λp=>(qQ f a b).map λq=>p&&q)=((f y x).bind λp=>(qQ f b a).map λq=>p&&q);rw[h x y,Ce h a b]
theorem GF:∀(n:Nat) (x y:D),we (λ_=>Fa) n x y=we (λ_=>Fa) n y x
 | 0,_,_=>rfl
 | n+1,x,y=>by
  cases x<;>cases y<;>first
   | rfl
   | exact eE ga (jp ..)
   | skip
  rename_i a b;show(qQ (we (λ_=>Fa) n) a b).map (λp=>p&&a.length==b.length)=(qQ (we (λ_=>Fa) n) b a).map λp=>p&&b.length==a.length;rw[Ce (GF n) a b,show(a.length==b.length)=(b.length==a.length)from jp ..]
def MP{es:List qL}:yh l l h es=[]:=List.filter_eq_nil_iff.mpr λi _=>by unfold xJ;rw[Nr];decide
def Oj{es:List qL}:yh l l2 h es=yh l2 l h es:=by unfold yh;refine eE (λf=>(List.range es.length).filter f) (funext λi=>?_);unfold xJ R9;rw[GF]
noncomputable def d0:uA:=(pc,.wait "")
def pM.nk(l:pM)(i:Nat):uA:=l.mG.getD i d0
noncomputable def sV(l:pM)(sw:T0 Nat):T0 Nat:=(List.range l.mG.length).filter λi=>(l.nk i).1||sw.any (·==i)
def Lf(l:pM)(sw:T0 Nat):pM:=⟨l.mJ,l.groups,(sV l sw).map l.nk⟩
def wX(l:pM)(sw:T0 Nat):T0 Nat:=sw.map λi=>(sV l sw).findIdx (·==i)
variable {sw:T0 Nat}
def Ry{i:Nat}(hi:i<l.mG.length):l.nk i=l.mG[i]:=by unfold pM.nk;rw[fB,cV hi];rfl
def VP:(List.range l.mG.length).map l.nk=l.mG:=hW λi=>by
 rw[dv];by_cases hi:i<l.mG.length
 .rw[gO hi,cV hi];show ga (l.nk i)=_;rw[Ry hi]
 .rw[fK (by rw[dS];lia),fK (by lia)];rfl
def HI{α:Type}{q:Nat->Bool}{f:Nat->α}{on:α->Bool}{R:T0 Nat}(h:∀i∈R,on (f i)=Db->q i=Db):((R.filter q).map f).filter on=(R.map f).filter on:=by
 rw[gk,gk,lh];congr 1;refine ju λi hi=>?_;show(on (f i)&&q i)=on (f i);cases e:on (f i)with
 | false=>rfl
 | true=>rw[h i hi e];rfl
def Mw:(Lf l sw).less=l.less:=by
 have:((sV l sw).map l.nk).filter (·.1)=l.mG.filter (·.1):=by unfold sV;rw[HI λi _ e=>by rw[e];rfl,VP]
 show(⟨l.mJ,l.groups,((sV l sw).map l.nk).filter (·.1)⟩:pM)=⟨l.mJ,l.groups,l.mG.filter (·.1)⟩;rw[this]
def Qq:(sV l sw).Nodup:=List.nodup_range.filter _
def LH(hs:∀i∈sw,i<l.mG.length){j i:Nat}(e:(sV l sw)[j]?=ga i):(wX l sw).any (·==j)=sw.any (·==i):=by
 obtain⟨hj,ej⟩:=cX.mp e;have key:∀x∈sw,((sV l sw).findIdx (·==x)=j↔x=i):=λx hx=>by
  have hm:x∈sV l sw:=eY.mpr ⟨e9.mpr (hs x hx),by rw[gj];exact .inr (fF.mpr ⟨x,hx,eN _⟩)⟩;have YV:(sV l sw).findIdx (·==x)<(sV l sw).length:=iO ⟨x,hm,eN _⟩;have hat:(sV l sw)[(sV l sw).findIdx (·==x)]=x:=xz (List.findIdx_getElem (w:=YV));constructor
  .intro z;subst z;rw[<-hat,<-ej]
  .rintro rfl
   exact(jD Qq).mp (hat.trans ej.symm)
 rw[fM,fF,fF];constructor
 .rintro ⟨y,hy,ey⟩
  obtain⟨x,hx,rfl⟩:=dE.mp hy;exact⟨x,hx,by rw[(key x hx).mp (xz ey)];exact eN _⟩
 .rintro ⟨x,hx,ex⟩
  exact⟨_,dE.mpr ⟨x,hx,Z'⟩,by rw[(key x hx).mpr (xz ex)];exact eN _⟩
def OV(hs:∀i∈sw,i<l.mG.length):((Lf l sw).turn (wX l sw)).less=(l.turn sw).less:=by
 have h1:((sV l sw).map l.nk).mapIdx (tw1 (wX l sw))=(sV l sw).map λi=>tw1 sw i (l.nk i):=hW λj=>by
  rw[gp,dv,dv];cases e:(sV l sw)[j]? with
  | none=>rfl
  | some i=>show ga (tw1 (wX l sw) j (l.nk i))=ga (tw1 sw i (l.nk i));unfold tw1;rw[LH hs e]
 have h2:l.mG.mapIdx (tw1 sw)=(List.range l.mG.length).map λi=>tw1 sw i (l.nk i):=hW λi=>by
  rw[gp,dv];by_cases hi:i<l.mG.length
  .rw[gO hi,cV hi];show ga (tw1 sw i l.mG[i])=ga (tw1 sw i (l.nk i));rw[Ry hi]
  .rw[fK (l:=l.mG) (by lia),fK (l:=List.range _) (by rw[dS];lia)];rfl
 have h3:(((sV l sw).map l.nk).mapIdx (tw1 (wX l sw))).filter (·.1)=(l.mG.mapIdx (tw1 sw)).filter (·.1):=by
  rw[h1,h2];unfold sV;refine HI λi _ e=>?_;have e:(!((l.nk i).1==sw.any (·==i)))=Db:=e;cases h1:(l.nk i).1 with
  | true=>rfl
  | false=>
   rw[h1]at e;cases h2:sw.any (·==i)with
   | true=>rfl
   | false=>rw[h2]at e;cases e
 show(⟨l.mJ,l.groups,(((sV l sw).map l.nk).mapIdx (tw1 (wX l sw))).filter (·.1)⟩:pM)=⟨l.mJ,l.groups,(l.mG.mapIdx (tw1 sw)).filter (·.1)⟩;rw[h3]
def Oo(ok:rb l):rb (Lf l sw):=⟨ok.p1,ok.p8,ok.po,ok.g3,ok.go,ok.nd,by
 show((sV l sw).map l.nk).length<=16;have:=fL (λi=>(l.nk i).1||sw.any (·==i)) (List.range l.mG.length);rw[dS]at this;rw[cT];exact dZ this ok.oH,λw hw=>by
 obtain⟨i,hi,rfl⟩:=dE.mp hw;have hi:=e9.mp (eY.mp hi).1;show AQ l.pn l.nm (l.nk i).2;rw[Ry hi];exact ok.wo _ (gy hi)⟩
def F1{α:Type}{f:α->D}{xs:List α}{pre post:T0 D}{d:D}(e:pre++d::post=xs.map f):∃x,xs[pre.length]?=ga x/\d=f x/\xs.take (pre.length+1)=xs.take pre.length++[x]:=by
 have h:(xs.map f)[pre.length]?=ga d:=by rw[<-e];simp
 rw[dv]at h;cases hx:xs[pre.length]? with
 | none=>rw[hx]at h;cases h
 | some x=>rw[hx]at h;refine⟨x,Z',(df h).symm,?_⟩;rw[fX,hx];rfl
def Gu{α:Type}{f:α->D}{xs:List α}{pre post:T0 D}{d:D}(e:pre++d::post=ub 0 (xs.map f)):∃x,xs[pre.length]?=ga x/\d=.tup [.int (pre.length:Nat),f x]/\xs.take (pre.length+1)=xs.take pre.length++[x]:=by
 have h:(ub 0 (xs.map f))[pre.length]?=ga d:=by rw[<-e];simp
 rw[xY,dv]at h;cases hx:xs[pre.length]? with
 | none=>rw[hx]at h;cases h
 | some x=>rw[hx]at h;refine⟨x,Z',?_,by rw[fX,hx];rfl⟩;have h:=(df h).symm;rw[kY]at h;exact h
theorem Pp{α β:Type}{f:α->D}{g:β->D}:∀{xs:List α} {ys:List β} {pre post:T0 D} {d:D},xs.length=ys.length->pre++d::post=wU (xs.map f) (ys.map g)->∃x y,xs[pre.length]?=ga x/\ys[pre.length]?=ga y/\d=.tup [f x,g y]
 | [],[],pre,post,d,_,e=>by cases pre<;>cases e
 | x::xs,y::ys,[],post,d,_,e=>by cases e;exact⟨x,y,Z',Z',Z'⟩
 | x::xs,y::ys,p::pre,post,d,h,e=>by have e:p::(pre++d::post)=.tup [f x,g y]::wU (xs.map f) (ys.map g):=e;exact Pp (xs:=xs) (ys:=ys) (pre:=pre) (Nat.succ.inj h) (fC e).2
theorem vM:∀(a b:T0 D),(wU a b).length=min a.length b.length
 | [],_=>by simp[wU]
 | _::_,[]=>by simp[wU]
 | _::a,_::b=>by show(wU a b).length+1=min (a.length+1) (b.length+1);rw[vM a b];lia
def RF(w:uA):w.2.nH.lookup ("told":Str)=Fa:=by obtain⟨_,v⟩:=w;cases v<;>rfl
def F9(sw:T0 Nat)(i:Nat):inD (.int (i:Nat)) (tJ sw)=sw.any (·==i):=by unfold inD tJ;rw[iX];refine eE (λf=>sw.any f) (funext λj=>?_);show((j:Int)==(i:Int))=(j==i);rw[fM,eP,eP];lia
theorem yp:∀sw:T0 Nat,(tJ sw).all vw=Db
 | []=>rfl
 | _::r=>yp r
def Je{V:qu}{e:qL}(h:vv l V e=Fa):uB l V e=qO V (vA l V e):=by unfold uB;rw[h];rfl
def Ih{V:qu}{e:qL}{w:Str}(h:vv l V e=ga w):uB l V e=V:=by unfold uB;rw[h];rfl
def Sl(a:Ad)(M0 M:Mp)(b:Uf)(A:tq)(V:qu)(l:pM)(c n:Nat)(e:qL)(K:Mp->Prop):Prop:=∀M' A',ui a M0 M' b A' (uB l V e) l (c+1) (n+40+33*c)->qX A M A' M'->K M'
def HA{V:qu}{c n:Nat}{e:qL}{K:Mp->Prop}(cu:ui a M0 M b A V l c n)(h:Sl a M0 M b A V l c n e K):Xe a M0 M b A V l c n e (λ_ M=>K M)/\(vv l V e≠Fa->K M):=by
 refine⟨λhr M' A' r c' st hr'=>?_,λhr=>?_⟩
 .rw[<-Je hr]at c';exact h _ A' (c'.sub (.new hr')) (st.trans (.sub (.new hr')))
 .cases e0:vv l V e with
  | none=>exact absurd e0 hr
  | some w=>exact h M A (by rw[Ih e0];exact cu.mono (by lia) (by lia)) .refl
def UU(a:Ad):rH:=λds M Q=>S5 λM0 b A V l c n e=>ds=[.ref b,qL.d e]/\ui a M0 M b A V l c n/\c<10000/\n<=5000000/\WF l V/\e.mZ/\Sl a M0 M b A V l c n e (Q .mM)
def K4(a:Ad):rH:=λds M Q=>BO λp r l sw=>ds=[.ref p,.ref r]/\rM a M p l/\rb l/\oP M r=ga (tJ sw)/\∀p2 M',qN M M'->rM a M' p2 (l.turn sw)->(∀N,(∀x c,M x=Fa->M' x=ga c->N x=ga c)->rM a N p2 (l.turn sw))->Q (.ref p2) M'
def Ip:rH:=λds M Q=>JT λr1 r2 r3 r (l:pM) sw=>ds=[.tup [.ref r1,.ref r2,.ref r3],.ref r]/\oP M r3=ga (l.mG.map sI)/\l.mG.length<=16/\oP M r=ga (tJ sw)/\∀q M',qN M M'->M q=Fa->oP M' q=ga ((l.turn sw).mG.map sI)->Q (.tup [.ref r1,.ref r2,.ref q]) M'
def Qx(a:Ad):rH:=λds M Q=>U5 λp h r r2 l es sw=>ds=[.ref p,.int h,.ref r,.ref r2]/\rM a M p l/\rb l/\oP M r=ga (List.map qL.d es)/\oP M r2=ga (tJ sw)/\es.length<=62/\(∀e∈es,e.mZ)/\∀q M',qN M M'->M q=Fa->oP M' q=ga (tJ (yh l (l.turn sw) h es))->Q (.ref q) M'
def OT:Fq P w K mg base 14 a.am (UU a):=by
 refine fq G.am.toDG zA (λr u=>⟨_,(pH (qa (pR u (pP (Dk G) r G.ai (so v0 Y1)) sv)
 (pH (pX (Mt (Sh G) (r.mono (by first|decide|lia)) Z' G.F.mg G.F.toDG.kp G.F.b Rw Xo (so v0 Y1))))
 pV)),?_⟩)
 rintro ds M Q ⟨M0,b,A,V,l,c,n,e,rfl,cu,hc,hn,wf,f,q⟩
 have eb:=cu.b;subst eb;refine⟨A,V,l,e,Z',cu.rd (by lia) wf,f,?_⟩;obtain⟨q1,q2⟩:=HA cu q;cases e0:vv l V e with
 | none=>exact⟨M0,A.b,A,V,l,c,n,e,Z',cu,hc,hn,wf,f,λhr M' A' r c' st hr'=>⟨_,.refl,q1 hr M' A' r c' st hr'⟩,λw hw=>by rw[e0]at hw;cases hw⟩
 | some w=>exact⟨M,.refl,q2 (by rw[e0];exact nofun)⟩
def L8:Fq P w K mg base 9 a.bo (K4 a):=by
 refine fq G.bo.toDG vY (λr u=>⟨_,(pG (uM (i:=2) vY.nd Z' (Or.inl Z') Z' (xN (ix:=[Fa,Fa,ga 1]) (N':=["i","was_on","switched"])) (ul Z' G.ae (qv (pN v0))) (uQ (n:=2) Z' (qC (qD 0) (qC (qD 1) tR))) rX (qy u Y1 (qy u v0 Y2)))
 (pG (uM (i:=3) vY.nd Z' (Or.inl Z') Z' (xN (ix:=[Fa,Fa]) (N':=["is_on","wish"])) (P5 Z' G.b5 (so Y2 (pN v0))) (uQ (n:=2) Z' (qC (qD 0) (qC (qD 1) tR))) rX (pY (so v0 (Aq (R:=Iv a) Y1 (Ml G) (r.mono (by first|decide|lia))))))
 (pH (pO (uY (Kj G) r G.h G.b0 G.V.toDG (rG (pN v0) (pN v0) Y3)))))),?_⟩)
 rintro ds M Q ⟨p,r,l,sw,rfl,pa,ok,lr,q⟩
 have hz:=dM;have oH:=ok.oH;obtain⟨ph,gr,ws,pon,pr,gd,rs,i1,i2,i3,i4,i5,_,_,i8⟩:=pa;refine pI i1 (pF Z' (pF i5 ?_));refine wx (ub 0 (l.mG.map λw=>D.bl w.1)) (λpre acc U M'=>M=M'/\acc=((l.mG.take pre.length).mapIdx (tw1 sw)).map (λw=>D.bl w.1)/\∃y0 y1,U=[y0,y1,ga (.ref r)]) (λ_ _ _ M' j=>by rw[<-j.1];exact i5) _ [] [] _ _ Z' ?_ ⟨Z',Z',Fa,Fa,Z'⟩ ?_ ?_
 .rw[uf,cT];simp only[dH];lia
 .rintro pre d post e acc U _ ⟨rfl,ha,y0,y1,rfl⟩ k hk
  obtain⟨wv,ew,rfl,et⟩:=Gu e;have YV:=(cX.mp ew).1;rw[cW,dD,et,lq,dF,fg,iw (hZ YV)]at hk;refine⟨Z',?_⟩;dsimp only[rh,ye,Ck];refine pF lr ⟨Z',yp sw,?_⟩;show KZ CmpOp.NotEq (D.bl wv.1) (D.bl (inD (D.int (pre.length:Nat)) (tJ sw))) M _;rw[F9];exact hk _ _ _ ⟨Z',by rw[ha];rfl,_,_,Z'⟩
 rintro acc U _ ⟨rfl,ha,y0,y1,rfl⟩ p1 Z0
 rw[uf,cT,eM]at ha;subst ha;obtain⟨M1,e0,t1,l1⟩:=tL (ds:=(l.mG.mapIdx (tw1 sw)).map λw=>D.bl w.1) Z0;rw[<-e0];dsimp only[rh];have wl:(l.mG.mapIdx (tw1 sw)).length=rs.length:=by rw[iH,i8.1]
 refine pI (t1 _ _ i1) (pF Z' (pF l1 (pF (t1.lst i4) ?_)));refine wx (wU ((l.mG.mapIdx (tw1 sw)).map λw=>D.bl w.1) (rs.map D.ref)) (λpre acc U M'=>M1=M'/\acc=((l.mG.mapIdx (tw1 sw)).take pre.length).map sI/\∃y0 y1,U=[y0,y1]) (λ_ _ _ M' j=>by rw[<-j.1];exact⟨l1,t1.lst i4⟩) _ [] [] _ _ Z' ?_ ⟨Z',Z',Fa,Fa,Z'⟩ ?_ ?_
 .rw[vM,cT,cT,<-wl,iH];simp only[dH];lia
 .rintro pre d post e acc U _ ⟨rfl,ha,y0,y1,rfl⟩ k hk
  obtain⟨x,y,ex,ey,rfl⟩:=Pp wl e;have hx:∃wv,l.mG[pre.length]?=ga wv/\x=tw1 sw pre.length wv:=by
   rw[gp]at ex;cases e0:l.mG[pre.length]? with
   | none=>rw[e0]at ex;cases ex
   | some wv=>rw[e0]at ex;exact⟨wv,Z',(df ex).symm⟩
  obtain⟨wv,ew,rfl⟩:=hx;have hy:=t1 _ _ (i8.2 _ y wv ey ew);refine⟨Z',?_⟩;dsimp only[rh,ye,Ck];refine pI hy ⟨RF wv,_,⟨⟨_,Z'⟩,Z'⟩,y,wv.2,Z',hy,pD Z',hk _ _ _ ⟨Z',?_,_,_,Z'⟩⟩;rw[cW,dD,fX,ex,ha,dF];rfl
 rintro acc U _ ⟨rfl,ha,y0,y1,rfl⟩ p2 YY
 rw[vM,cT,cT,<-wl,my,eM]at ha;subst ha;have t2:=t1.trans (qN.new (c:=.lst ((l.mG.mapIdx (tw1 sw)).map sI)) YY);have l2:oP (pQ M1 p2 (.lst ((l.mG.mapIdx (tw1 sw)).map sI))) p2=ga ((l.turn sw).mG.map sI):=pU;generalize pQ M1 p2 (.lst ((l.mG.mapIdx (tw1 sw)).map sI))=M2 at t2 l2 ⊢;dsimp only[rh];refine pI (t2 _ _ i1) (pF Z' (pI (t2 _ _ i1) (pF Z' λp3 hp3=>?_)));have t3:=qN.new (c:=.ins a.h []) hp3;have t23:=t2.trans t3;refine⟨p3,ph,gr,p2,l.turn sw,Z',pZ,t23.lst i2,t23.lst i3,t3.lst l2,BZ ok,λM5 kp pa pf=>⟨Z',M5,.refl,q p3 M5 ?_ pa λN hN=>pf N λx c hx e=>hN x c ?_ e⟩⟩
 .exact t2.trans λx c e=>kp x c (RW e hp3) (t3 x c e)
 .rcases hx with rfl|hx
  .exact t2.none hp3
  .exact t23.none hx
def Ii:Fq P w K mg base 1 a.bC Ip:=by
 refine fq G.bC.toDG vq (λr u=>⟨_,(pG (pW 2 vq (qW sE))
 (pG (vg fi Z' (ul Z' G.ae (qv (pT v0 pJ))) (uQ (n:=2) Z' (qC (sF 3 vq) (qC (sF 4 vq) tR)))
 (pH (pX (rB Y2 (qv (pY (so (qy u (pT v4 pJ) (qy u Y3 Y1)) (pT v4 pJ))))))))
 (pH (pO (pY (rG (pT v0 pJ) (pT v0 pJ) Y2)))))),?_⟩)
 rintro ds M Q ⟨r1,r2,r3,r,l,sw,rfl,l3,oH,lr,q⟩
 have hz:=dM;refine⟨pD Z',λpf hpf=>?_⟩;obtain⟨M1,e0,t,lp⟩:=tL (ds:=[]) hpf;rw[<-e0];have lp:oP M1 pf=ga ((([]:List uA).mapIdx (tw1 sw)).map sI):=lp;dsimp only[rh];refine pF (t.lst l3) ?_;refine wY (ub 0 (l.mG.map sI)) (λpre U M'=>qN M M'/\oP M' pf=ga (((l.mG.take pre.length).mapIdx (tw1 sw)).map sI)/\∃y3 y4,U=[ga (.tup [.ref r1,.ref r2,.ref r3]),ga (.ref r),ga (.ref pf),y3,y4]) (λ_ _ M' j=>j.1.lst l3) _ [] _ _ Z' ⟨t,lp,Fa,Fa,Z'⟩ ?_ ?_
 rotate_left
 .rintro U M' ⟨s1,lp,y3,y4,rfl⟩
  rw[uf,cT,eM]at lp;exact⟨pD Z',M',.refl,q pf M' s1 hpf lp⟩
 clear lp t
 rintro pre d post e U M2 ⟨s2,lp,y3,y4,rfl⟩ nx YU
 obtain⟨wv,ew,rfl,et⟩:=Gu e;have YV:=(cX.mp ew).1;rw[cW,dD,et,lq,dF,fg,iw (hZ YV)]at YU;refine⟨Z',?_⟩;dsimp only[rh,ye,Ck];refine⟨by show(oP M2 pf).isSome=Db;rw[lp];rfl,?_⟩;refine pF (s2.lst lr) ⟨Z',yp sw,?_⟩;show KZ CmpOp.NotEq (D.bl wv.1) (D.bl (inD (D.int (pre.length:Nat)) (tJ sw))) M2 _;rw[F9];refine⟨pD Z',pF lp ⟨by rw[cT,iH,fg];lia,YU _ _ ⟨B2 hpf s2,pU,_,_,Z'⟩⟩⟩
def BU:Fq P w K mg base 15 a.O (Qx a):=by
 refine fq G.O.toDG vj (λr u=>⟨_,(pG (pW 4 vj (uY (Dc G) r G.c G.bT G.P.toDG (so v0 Y1)))
 (pG (pW 5 vj (uY (Dc G) r G.c G.bT G.P.toDG (so (pP (L8 G) r G.bo (so v0 Y3)) Y1)))
 (pG (pW 6 vj (qW sE))
 (pG (vg fi Z' (ul Z' G.ae (qv Y2)) (uQ (n:=2) Z' (qC (sF 7 vj) (qC (sF 8 vj) tR)))
 (pG (pX (pP (OT G) r G.am (so v4 v8)))
 (pG (pX (pP (OT G) r G.am (so v5 v8)))
 (pH (qa (pR u (pT (pP (Ds G) r G.ag (qv v4)) pJ) (pT (pP (Ds G) r G.ag (qv v5)) pJ))
 (pH (pX (rB v6 (qv v7))))
 pV)))))
 (pH (pO v6)))))),?_⟩)
 .rintro ds M Q ⟨p,h,r,r2,l,es,sw,rfl,pa,ok,lr,lr2,hl,hf,q⟩
  have hz:=dM;have ok2:rb (l.turn sw):=BZ ok;have npb:∀{N:Mp} {x y:Uf} {k:pM},rM a N x k->N y=Fa->x≠y:=λpa hy z=>by obtain⟨ph,gr,ws,pon,pr,gd,rs,i1,_⟩:=pa;rw[z,hy]at i1;cases i1
  refine λb hb=>?_;have t1:=qN.new (c:=.ins a.c []) hb;refine⟨b,p,h,[],l,Z',pZ,pa.sub t1,ok,npb pa hb,(λx hx=>by cases hx),λM1 A eb kp fr bd=>⟨Z',?_⟩⟩;obtain⟨cu,_⟩:=Lp.start ok pa hb eb kp fr bd;clear kp fr bd t1;dsimp only[rh];refine⟨p,r2,l,sw,Z',pa.sub cu.s0,ok,cu.s0.lst lr2,λp2 M2 s2 pa2 pf=>λb2 hb2=>?_⟩;have t2:=qN.new (c:=.ins a.c []) hb2;refine⟨b2,p2,h,[],l.turn sw,Z',pZ,pa2.sub t2,ok2,npb pa2 hb2,(λx hx=>by cases hx),λM3 A2 eb2 kp2 fr2 Z2=>⟨Z',?_⟩⟩;obtain⟨cu2,_⟩:=Lp.start ok2 pa2 hb2 eb2 kp2 fr2 Z2;clear kp2 fr2 Z2 t2;dsimp only[rh];refine⟨pD Z',λrp hrp=>?_⟩;have sR:=qN.new (c:=.lst []) hrp;have s03:=cu.s0.trans (s2.trans cu2.s0);have lrN:oP (wk A2 (wk A M3)) r=ga (es.map qL.d):=J5 (J5 (s03.lst lr) λz=>by
   have:=cu.fr r z;rw[qg lr]at this;cases this) λz=>by have:=cu2.fr r z;rw[(cu.s0.trans s2) _ _ (qg lr)]at this;cases this
  have hMN:qN M (wk A2 (wk A M3)):=λx c e=>AZ (AZ (s03 x c e) λz=>by rw[cu.fr x z]at e;cases e) λz=>by have:=cu2.fr x z;rw[(cu.s0.trans s2) _ _ e]at this;cases this
  have tx:=Tx.start (X:=[rp]) (Tw.start cu .refl s2 pf cu2 .refl) sR (λx hx=>by rw[cZ.mp hx];exact⟨hrp,_,pZ⟩);have hMp:M rp=Fa:=s03.none hrp;have lp:oP (pQ M3 rp (.lst [])) rp=ga (tJ (yh l (l.turn sw) h [])):=pU;generalize pQ M3 rp (.lst [])=M4 at tx lp ⊢;generalize wk A2 (wk A M3)=N at tx lrN hMN;dsimp only[rh];clear cu cu2 s2 s03 sR hrp pf pa2 hb hb2 eb eb2;generalize l.turn sw=l2 at tx lp ok2 q;refine pF (tx.x.s0.lst lrN) ?_;refine wY (ub 0 (es.map qL.d)) (λpre U M'=>(∃A A2 p F p2 F2,Tx a N M' b A ((tU l h (es.take pre.length)).at_ p F) l b2 A2 ((tU l2 h (es.take pre.length)).at_ p2 F2) l2 (1+2*pre.length) (3+9000*pre.length) [rp])/\oP M' rp=ga (tJ (yh l l2 h (es.take pre.length)))/\∃y7 y8,U=[ga (.ref p),ga (.int h),ga (.ref r),ga (.ref r2),ga (.ref b),ga (.ref b2),ga (.ref rp),y7,y8]) (λ_ _ M' j=>by obtain⟨A,A2,p,F,p2,F2,t⟩:=j.1;exact t.x.s0.lst lrN) _ [] _ _ Z' ⟨⟨_,_,_,_,_,_,tx⟩,lp,Fa,Fa,Z'⟩ ?_ ?_
  rotate_left
  .rintro U M' ⟨⟨A,A2,p,F,p2,F2,t⟩,lp,y7,y8,rfl⟩
   rw[uf,cT,eM]at lp;exact⟨M',.refl,q rp M' (hMN.trans t.x.s0) hMp lp⟩
  clear lp tx
  rintro pre d post e U M5 ⟨⟨A,A2,p',F,p2,F2,t⟩,lp,y7,y8,rfl⟩ nx YU
  obtain⟨ed,ee,rfl,et⟩:=Gu e;have YV:=(cX.mp ee).1;have f:=hf ed (qR ee);obtain⟨wf1,ps1⟩:=KF (h:=h) ok (es.take pre.length) λx hx=>hf x (gm hx);obtain⟨wf2,ps2⟩:=KF (h:=h) ok2 (es.take pre.length) λx hx=>hf x (gm hx);rw[cW,dD,et,O4,fg,iw (hZ YV),xj,xj]at YU;have hdl:=QA (l:=l) (l2:=l2) (h:=h) (es:=es.take pre.length);rw[fg]at hdl;obtain⟨k1,k2⟩:=Ay ok wf1 f;obtain⟨k3,k4⟩:=Ay ok2 wf2 f;generalize yh l l2 h (es.take pre.length)=dl at lp YU hdl;generalize tU l h (es.take pre.length)=U1 at t YU wf1 ps1 k1 k2;generalize tU l2 h (es.take pre.length)=U2 at t YU wf2 ps2 k3 k4;generalize hm:pre.length=m at t YU YV hdl;refine⟨Z',?_⟩;dsimp only[rh,ye,Ck];have mem:rp∈[rp]:=cZ.mpr Z';refine⟨N,b,A,_,l,_,_,ed,Z',t.x,by lia,by lia,Md wf1,f,λM6 A6 c6 st6=>?_⟩;rw[CP]at c6;have t6:=t.one st6 c6 Z' (by lia) (by lia);have lp:=t.keep st6 mem lp;refine⟨N,b2,A2,_,l2,_,_,ed,Z',t6.y,by lia,by lia,Md (Md wf2),f,λM7 A7 c7 st7=>?_⟩;rw[CP,CP]at c7;have t7:=((t6.swap.one st7 c7 Z' (by lia) (by lia)).swap).mono (c':=1+2*(m+1)) (n':=3+9000*(m+1)) (by lia) (by lia);have lp:=t6.swap.keep st7 mem lp;generalize uB l U1 ed=U3 at t7 YU k1 k2;generalize uB l2 U2 ed=U4 at t7 YU k3 k4;have e1:=t7.x.b;have e2:=t7.y.b;have ca1:U3.calls.length<=_:=t7.x.sz.ca;have ca2:U4.calls.length<=_:=t7.y.sz.ca;refine⟨A6,_,by rw[e1],t7.x.bd,by show U3.calls.length<=10000;lia,by show U3.ps.length<=3;lia,A7,_,by rw[e2],t7.y.bd,by show U4.calls.length<=10000;lia,by show U4.ps.length<=3;lia,?_⟩;refine pF (TR U3 U4) (qT (c:=!(R9 U3.calls U4.calls)) (λg=>?_) (λg=>?_))
  .rw[de g]at YU;refine⟨by show(oP M7 rp).isSome=Db;rw[lp];rfl,pF lp ⟨by unfold tJ;rw[cT];lia,?_⟩⟩;refine YU _ _ ⟨⟨_,_,_,_,_,_,t7.put mem⟩,?_,_,_,Z'⟩;rw[pU];unfold tJ;rw[dF];rfl
  .rw[cY g,eG]at YU;exact YU _ _ ⟨⟨_,_,_,_,_,_,t7⟩,lp,_,_,Z'⟩
seal L3.E3 L3.B3 L3.A3 L3.S3 L3.Ig
def Mc:rH:=λds M Q=>∃ns:T0 Int,ds=[.rl (ns.map D.int)]/\ns.length<=63/\Q (.bl Db) M
def Gd{n:Nat}{x y:Uf}(h1:oP M x=ga (tJ is))(h2:oP M y=ga (tJ is)):we M (n+2) (.ref x) (.ref y)=ga Db:=LL h1 h2 λd hd=>by obtain⟨v,_,rfl⟩:=dE.mp hd;exact Cs n _ (by cases n<;>rfl)
theorem JJ(x:Nat):∀ss:T0 Nat,x∈ss->yO (.int (x:Nat)) (tJ ss)=ga (ss.findIdx (·==x))
 | [],h=>by cases h
 | y::r,h=>by
  rw[lG];show yO _ (D.int (y:Nat)::tJ r)=_;unfold yO;show(if (((y:Nat):Int)==(x:Nat))=Db then ga 0 else(yO (.int (x:Nat)) (tJ r)).map (·+1))=_;rw[show(((y:Nat):Int)==(x:Nat))=(y==x)by rw[fM,eP,eP];lia];cases e:y==x with
  | true=>rfl
  | false=>
   rw[cY dA];have hr:x∈r:=by
    rcases dg.mp h with g|g
    .rw[g,eN]at e;cases e
    .exact g
   rw[JJ x r hr];rfl
def Lg(e:qL)(f:e.mZ):∃w r,e.d=.tup (.str w::r)/\((w=="on"||w=="off")=pc/\e.nG\/(w=="on"||w=="off")=Db):=by
 cases e with
 | call y z=>exact⟨_,_,Z',.inl ⟨by decide+kernel,trivial⟩⟩
 | turn=>exact⟨_,_,Z',.inl ⟨by decide+kernel,trivial⟩⟩
 | sw b i=>cases b<;>exact⟨_,_,Z',.inr (by decide+kernel)⟩
 | num w x ms=>rcases f with⟨rfl|rfl|rfl|rfl,_⟩|⟨rfl|rfl,_⟩<;>exact⟨_,_,Z',.inl ⟨by decide+kernel,trivial⟩⟩
noncomputable def VV(ns:T0 Int)(r1 r2 r3:Uf)(hh m:Int)(rs b rd:Uf)(ys:T0 (Option D)):T0 (Option D):=some (.rl (ns.map D.int))::ga (.tup [.ref r1,.ref r2,.ref r3])::ga (.int hh)::ga (.int m)::ga (.ref rs)::ga (.ref b)::ga (.ref rd)::ys
def Ta:Fq P w K mg base 17 a.ao Mc:=by
 refine fq G.ao.toDG vf (λr u=>⟨_,(pG (pW 1 vf (pP (Mr G) r G.bs (so v0 pJ)))
 (pG (pW 2 vf (pP (OJ G) r G.bz (qv v0)))
 (pG (pW 3 vf (qc qJ Z' G.g qG (qv (pT Y1 pJ))))
 (pG (pW 4 vf (qP Z' (xN (ix:=[Fa,ga 0]) (N':=["_law_i","_law_script"])) (vi Z' G.N (qv Y3)) (qD 0) (vE (pR u (pP (qU G) r G.i (rG (qk (pP (HY G) r G.I (so Y1 v0)) (qk pJ v0)) pJ pJ)) pJ)) v0))
 (pG (pW 5 vf (uY (Dc G) r G.c G.bT G.P.toDG (so (pP (x8 G) r G.J (qv Y1)) Y2)))
 (pG (pW 6 vf (qW sE))
 (pG (vg fi Z' (K3 Z' G.N (so pJ (qc (Pa Z') Z' G.b4 Mh (so (qc qJ Z' G.g qG (qv v0)) pJ)))) (sF 7 vf)
 (pG (pW 8 vf (pP (OW G) r G.bB (rG v5 v0 v7)))
 (pH (qa (pR u (pT v8 pJ) (pY (so pK pK)))
 (pG (pX (rB v6 (qv v8)))
 (pH (pX (pP (P4 G) r G.bA (so v5 v8)))))
 pV))))
 (pG (qa (pR u (pP (BU G) r G.O (qh (pP (x8 G) r G.J (qv Y1)) (rG Y2 (qe rW Z' G.l rT (qv v6)) (qW sE)))) (qW sE))
 (pH (pO yW))
 pV)
 (pG (pW 9 vf (pP (BU G) r G.O (qh (pP (x8 G) r G.J (qv Y1)) (rG Y2 (qe rW Z' G.l rT (qv v6)) (qe rW Z' G.l rT (qv v4))))))
 (pG (qa (pR u (pP (BU G) r G.O (qh (pP (x8 G) r G.J (qv (pP (Ii G) r G.bC (so Y1 v4)))) (rG Y2 (qe rW Z' G.l rT (qv v6)) (qe rW Z' G.l rT (qv v4))))) v9)
 (pH (pO yW))
 pV)
 (pG (pW 10 vf (qP Z' (xN (ix:=[Fa,ga 1,ga 4]) (N':=["_law_i","_law_parts","_law_switched"])) (vi Z' G.N (qv Y3)) (qD 0) (vE (W3.b3 (y9 (wb (pT (pT (pT Y1 pJ) v0) pJ)) (yy (pR u v0 Y2))))) v0))
 (pG (pW 11 vf (pY (rG (pT Y1 pJ) (pT Y1 pJ) (qP Z' (xN (ix:=[Fa,ga 1]) (N':=["_law_i","_law_parts"])) (qV YH) (qD 0) rX (pT (pT Y1 pJ) v0)))))
 (pG (uM (i:=12) vf.nd Z' (Or.inl Z') Z' (xN (ix:=[Fa,ga 10]) (N':=["_law_i","_law_left"])) (qV v4) (qD 0) rX (wG Y1 (qv v0)))
 (pH (pO (qy u (pP (BU G) r G.O (qh (pP (x8 G) r G.J (qv YG)) (rG Y2 (qe rW Z' G.l rT (qv v6)) Yx))) v9)))))))))))))))),?_⟩)
 rintro ds M Q ⟨ns,rfl,hns,q⟩
 have hz:=dM;have ok:rb (CD ns 4):=RC (by decide) (by decide);refine⟨ns,4,Z',by decide,by decide,λr1 r2 r3 M1 s1 h1 h2 h3=>?_⟩;generalize CD ns 4=l at h1 h2 h3 ok;have oH:=ok.oH;dsimp only[rh];refine⟨ns,Z',?_⟩;generalize qF (cell ns 0) 1664525 24=hh;have npb:∀{N:Mp} {x y:Uf} {k:pM},rM a N x k->N y=Fa->x≠y:=λpa hy z=>by obtain⟨ph,gr,ws,pon,pr,gd,rs,i1,_⟩:=pa;rw[z,hy]at i1;cases i1
 have lw:(l.mG.map sI).length=l.mG.length:=cT ..;refine pF h3 ?_;rw[lw];dsimp only[rh];refine⟨Z',⟨by lia,by lia⟩,?_⟩;show ve _ _ _ _ _ ((List.range ((l.mG.length:Nat):Int).toNat).map λi=>D.int (0+(i:Nat))) [] _ _;rw[gZ];refine vN ((List.range l.mG.length).map λi=>D.int (0+(i:Nat))) (λpre acc U M'=>M1=M'/\(∃sw,acc=tJ sw/\sw.length<=pre.length/\∀i∈sw,i<l.mG.length)/\∃y,U=[y,ga (.rl (ns.map D.int))]) (λ_ _ _ _ _=>trivial) _ [] [] _ _ Z' ?_ ⟨Z',⟨[],Z',eK _,λi hi=>by cases hi⟩,Fa,Z'⟩ ?_ ?_
 .rw[cT,dS];simp only[dH];lia
 .rintro pre d post e acc U _ ⟨rfl,⟨sw,rfl,hsl,ZF⟩,y,rfl⟩ k k2 hk Z1
  obtain⟨i,ei,rfl,et⟩:=F1 e;rw[cW,dD]at hk Z1;have hi:i<l.mG.length:=e9.mp (qR ei);rw[jS];refine⟨ns,_,Z',.inl ⟨by decide,by decide⟩,_,_,_,Z',by decide,?_⟩;refine qT (λg=>?_) (λg=>?_)
  .exact hk _ _ _ ⟨Z',⟨sw++[i],by unfold tJ;rw[dF];rfl,by rw[cW,dD];lia,λj hj=>(dG.mp hj).elim (ZF j) λz=>by rw[cZ.mp z];exact hi⟩,_,Z'⟩
  .exact Z1 _ _ ⟨Z',⟨sw,Z',by lia,ZF⟩,_,Z'⟩
 rintro acc U _ ⟨rfl,⟨sw,rfl,hsl,ZF⟩,y,rfl⟩ rs hrs
 rw[cT,dS]at hsl;obtain⟨M2,e0,t2,lrs⟩:=tL (ds:=tJ sw) hrs;rw[<-e0];dsimp only[rh];have h1:=t2.lst h1;have h2:=t2.lst h2;have h3:=t2.lst h3;have s02:=s1.trans t2;clear t2 s1 hrs;refine⟨r1,r2,r3,l,Z',h1,h2,h3,ok,λp M3 s3 pa _=>λb hb=>?_⟩;have tb:=qN.new (c:=.ins a.c []) hb;refine⟨b,p,hh,[],l,Z',pZ,pa.sub tb,ok,npb pa hb,(λx hx=>by cases hx),λM4 A eb kp fr bd=>⟨Z',?_⟩⟩;obtain⟨cu,_⟩:=Lp.start ok pa hb eb kp fr bd;clear kp fr bd tb;dsimp only[rh];refine⟨pD Z',λrd hrd=>?_⟩;obtain⟨M5,e0,t5,ld⟩:=tL (ds:=[]) hrd;rw[<-e0];have ld:oP M5 rd=ga (([]:List qL).map qL.d):=ld;have nd3:M3 rd=Fa:=cu.s0.none hrd;have ndA:rd∉A.foot:=cu.bd.nU hrd;dsimp only[rh];have cu5:ui a M3 M5 b A (V0 p hh l [rd]) l 1 3:=by have c:=cu.sub t5;exact⟨Sw c.bd λx hx=>by rw[cZ.mp hx];exact⟨_,qg ld⟩,c.og,c.s0,c.fr,c.b,⟨c.sz.lo,c.sz.le,c.sz.ca,c.sz.ps,c.sz.cs⟩,c.ok,c.on⟩
 have h1:=s3.lst h1;have h2:=s3.lst h2;have h3:=s3.lst h3;have lrs:=s3.lst lrs;have s02:=s02.trans s3;clear s3 cu hrd hb eb t5 pa;refine WG (t:=VA _ _ _) (λU M'=>∃es:List qL,es.length<=62/\(∀e∈es,e.mZ/\e.nG)/\qN M3 M'/\oP M' rd=ga (es.map qL.d)/\∃y7 y8,U=VV ns r1 r2 r3 hh (l.mG.length:Nat) rs b rd [y7,y8,Fa,Fa,Fa,Fa]) (λnx0 hnx0=>?_) ?_
 .refine⟨Z',?_⟩;generalize hN:(if (41:Int)<((ns.map D.int).length:Nat)then(41:Int)else((ns.map D.int).length:Nat))=Nn;have hN0:0<=Nn/\Nn<=41:=by rw[<-hN];split<;>lia
  refine⟨⟨by decide,by decide,by lia,by lia⟩,?_⟩;refine wY ((List.range (Nn - 1).toNat).map λn=>D.int (1+(n:Nat))) (λpre U M'=>∃es:List qL,es.length<=pre.length/\(∀e∈es,e.mZ/\e.nG)/\oP M' rd=ga (es.map qL.d)/\(∃A V,ui a M3 M' b A V l (1+pre.length) (3+2200*pre.length)/\V.fo=[rd]/\rd∉A.foot/\WF l V)/\∃y7 y8,U=VV ns r1 r2 r3 hh (l.mG.length:Nat) rs b rd [y7,y8,Fa,Fa,Fa,Fa]) (λ_ _ _ _=>trivial) _ [] _ _ Z' ⟨[],dq _,(λe he=>by cases he),ld,⟨A,_,cu5,Z',ndA,SM ok⟩,Fa,Fa,Z'⟩ ?_ ?_
  rotate_left
  .rintro U M' ⟨es,hes,hf,ld,⟨A,V,c,_⟩,y7,y8,rfl⟩
   rw[cT,dS]at hes;exact hnx0 _ _ ⟨es,by lia,hf,c.s0,ld,y7,y8,Z'⟩
  clear cu5 ld ndA
  rintro pre d post e U M' ⟨es,hes,hf,ld,⟨A,V,c,fo,nA,wf⟩,y7,y8,rfl⟩ nx YU
  obtain⟨rfl,YV⟩:=LA e;have YV:pre.length<40:=by lia
  rw[cW,dD]at YU;generalize pre.length=m at c YU YV hes;dsimp only[rh];have eb:=c.b;refine⟨A,V,l,ns,_,by rw[eb],c.rd (by lia) wf,wf,λk hk=>(c.sz.cs k hk).2.1,⟨by lia,by lia⟩,λM6 ed s f=>?_⟩;have c:=c.sub s;have ld:=s.lst ld;dsimp only[rh];obtain⟨w,r,ew,hw⟩:=Lg ed f;rw[ew];refine pF (yX _ _) ⟨pD Z',Z',Z',?_⟩;show if (!(inD (.str w) [.str "on",.str "off"]))=Db then _ else _
  rw[Xq];rcases hw with⟨hw,hs⟩|hw
  rotate_left
  .rw[hw];exact YU _ _ ⟨es,by lia,hf,ld,⟨A,V,c.mono (by lia) (by lia),fo,nA,wf⟩,_,_,Z'⟩
  rw[hw];refine KU ?_;refine⟨by show(oP M6 rd).isSome=Db;rw[ld];rfl,pF ld ⟨by rw[cT];lia,?_⟩⟩;have c7:ui a M3 (pQ M6 rd (.lst (es.map qL.d++[.tup (.str w::r)]))) b A V l (1+m) (3+2200*m):=⟨c.bd.oS (by rw[fo];exact cZ.mpr Z') nA,c.og,B2 nd3 c.s0,c.fr,c.b,c.sz,c.ok,c.on⟩;have ld7:oP (pQ M6 rd (.lst (es.map qL.d++[.tup (.str w::r)]))) rd=ga ((es++[ed]).map qL.d):=by rw[pU,dF,<-ew];rfl
  generalize pQ M6 rd (.lst (es.map qL.d++[.tup (.str w::r)]))=M7 at c7 ld7 ⊢;refine⟨M3,b,A,V,l,_,_,ed,by rw[ew],c7,by lia,by lia,wf,f,HA (K:=_) c7 λM8 A8 c8 st8=>?_⟩;obtain⟨wf8,_⟩:=Ay ok wf f;exact YU _ _ ⟨es++[ed],by rw[cW,dD];lia,λe he=>(dG.mp he).elim (hf e) λz=>by rw[cZ.mp z];exact⟨f,hs⟩,sj (st8.1 rd _ nA (qg ld7)),⟨A8,_,c8.mono (by lia) (by lia),OI.trans fo,KO st8 nA (qg ld7),wf8⟩,_,_,Z'⟩
 clear cu5 ld ndA nd3
 rintro U N0 ⟨es,hes,hf,sN,ld,y7,y8,rfl⟩
 have hfm:∀e∈es,e.mZ:=λe he=>(hf e he).1;have hns:∀e∈es,e.nG:=λe he=>(hf e he).2;have h1:=sN.lst h1;have h2:=sN.lst h2;have h3:=sN.lst h3;have lrs:=sN.lst lrs;have s02:=s02.trans sN;clear hf sN;refine⟨r1,r2,r3,l,Z',h1,h2,h3,ok,λp6 M6 sA pa _=>?_⟩;refine pF (sA.lst ld) λx1 hx1=>?_;have sP:=qN.refl (M:=M6);obtain⟨M7,e0,t,k1⟩:=tL (ds:=es.map qL.d) hx1;rw[<-e0];have sA:=sA.trans t;have sP:=sP.trans t;clear t hx1;refine⟨pD Z',λx2 hx2=>?_⟩;obtain⟨M8,e0,t,k2⟩:=tL (ds:=[]) hx2;rw[<-e0];have k2:oP M8 x2=ga (tJ []):=k2;have k1:=t.lst k1;have sA:=sA.trans t;have sP:=sP.trans t;clear t hx2;refine⟨p6,hh,x1,x2,l,es,[],Z',pa.sub sP,ok,k1,k2,by lia,hfm,λrf M9 s9 hrf lf=>?_⟩;rw[Pm,MP]at lf;have sA:=sA.trans s9;refine⟨pD Z',λx3 hx3=>?_⟩;obtain⟨M10,e0,t,k3⟩:=tL (ds:=[]) hx3;rw[<-e0];have k3:oP M10 x3=ga (tJ []):=k3;have lf:=t.lst lf;have sA:=sA.trans t;clear t hx3;refine pF (Gd (n:=7) lf k3) (Og ?_);clear k1 k2 k3 lf hrf s9 sP pa;dsimp only[W9];refine⟨r1,r2,r3,l,Z',sA.lst h1,sA.lst h2,sA.lst h3,ok,λp7 M11 s11 pa _=>?_⟩;have sA:=sA.trans s11;have sP:=qN.refl (M:=M11);refine pF (sA.lst ld) λx1 hx1=>?_;obtain⟨M12,e0,t,k1⟩:=tL (ds:=es.map qL.d) hx1;rw[<-e0];have sA:=sA.trans t;have sP:=sP.trans t;clear t hx1;refine pF (sA.lst lrs) λx2 hx2=>?_;obtain⟨M13,e0,t,k2⟩:=tL (ds:=tJ sw) hx2;rw[<-e0];have k1:=t.lst k1;have sA:=sA.trans t;have sP:=sP.trans t;clear t hx2;refine⟨p7,hh,x1,x2,l,es,sw,Z',pa.sub sP,ok,k1,k2,by lia,hfm,λrf M14 s14 hrf lf=>?_⟩;have sA:=sA.trans s14;clear k1 k2 hrf s14 sP pa s11;dsimp only[rh];refine⟨r1,r2,r3,rs,l,sw,Z',sA.lst h3,oH,sA.lst lrs,λq5 M15 s15 hq5 l5=>?_⟩;have sA:=sA.trans s15;have lf:=s15.lst lf;refine⟨r1,r2,q5,l.turn sw,Z',sA.lst h1,sA.lst h2,l5,BZ ok,λp8 M16 s16 pa _=>?_⟩;have sA:=sA.trans s16;have lf:=s16.lst lf;have sP:=qN.refl (M:=M16);refine pF (sA.lst ld) λx1 hx1=>?_;obtain⟨M17,e0,t,k1⟩:=tL (ds:=es.map qL.d) hx1;rw[<-e0];have lf:=t.lst lf;have sA:=sA.trans t;have sP:=sP.trans t;clear t hx1;refine pF (sA.lst lrs) λx2 hx2=>?_;obtain⟨M18,e0,t,k2⟩:=tL (ds:=tJ sw) hx2;rw[<-e0];have k1:=t.lst k1;have lf:=t.lst lf;have sA:=sA.trans t;have sP:=sP.trans t;clear t hx2;refine⟨p8,hh,x1,x2,l.turn sw,es,sw,Z',pa.sub sP,BZ ok,k1,k2,by lia,hfm,λrg M19 s19 hrg lg=>?_⟩;rw[K1,Oj]at lg;have sA:=sA.trans s19;have lf:=s19.lst lf;refine pF Z' (pF (Gd (n:=7) lg lf) (Og ?_));clear k1 k2 lg hrg s19 sP pa s15 s16 hq5 l5;dsimp only[W9];refine⟨Z',⟨by lia,by lia⟩,?_⟩;show ve _ _ _ _ _ ((List.range ((l.mG.length:Nat):Int).toNat).map λi=>D.int (0+(i:Nat))) [] _ _;rw[gZ];have wi:∀{i:Nat},i<l.mG.length->xn (l.mG.map sI) (i:Nat)=ga (sI (l.nk i)):=λhi=>vo (by rw[dv,cV hi,Ry hi];rfl);refine vN ((List.range l.mG.length).map λi=>D.int (0+(i:Nat))) (λpre acc U M'=>M19=M'/\acc=tJ (((List.range l.mG.length).take pre.length).filter λi=>(l.nk i).1||sw.any (·==i))/\∃y,U=[y,ga (.tup [.ref r1,.ref r2,.ref r3]),ga (.ref rs)]) (λ_ _ _ _ _=>trivial) _ [] [] _ _ Z' ?_ ⟨Z',Z',Fa,Z'⟩ ?_ ?_
 .rw[cT,dS];simp only[dH];lia
 .rintro pre d post e acc U _ ⟨rfl,ha,y,rfl⟩ k k2 hk Z1
  obtain⟨i,ei,rfl,et⟩:=F1 e;have hi:i<l.mG.length:=e9.mp (qR ei);rw[cW,dD,et,gW]at hk Z1;rw[jS];have yes:((l.nk i).1||sw.any (·==i))=Db->k [ga (.int (i:Nat)),ga (.tup [.ref r1,.ref r2,.ref r3]),ga (.ref rs)] (.int (i:Nat)) M19:=λg=>hk _ _ _ ⟨Z',by rw[ha,gQ (by exact g),gF];unfold tJ;rw[dF];rfl,_,Z'⟩;refine pF (sA.lst h3) (pF (wi hi) (qT (c:=(l.nk i).1) (λg=>KU (yes (by rw[g];rfl))) (λg=>?_)));refine pF (sA.lst lrs) ⟨Z',yp sw,?_⟩;show if inD (.int (i:Nat)) (tJ sw)=Db then _ else _
  rw[F9];refine qT (c:=sw.any (·==i)) (λg2=>yes (by rw[g2,jQ])) (λg2=>Z1 _ _ ⟨Z',?_,_,Z'⟩);rw[ha,gR (by rw[dI.mpr g,dI.mpr g2];decide),gF,eG]
 rintro acc U _ ⟨rfl,ha,y,rfl⟩ rl hrl
 rw[cT,eM]at ha;have ha:acc=tJ (sV l sw):=ha;subst ha;obtain⟨M20,e0,t,ll⟩:=tL (ds:=tJ (sV l sw)) hrl;rw[<-e0];have lf:=t.lst lf;have sA:=sA.trans t;clear t hrl;dsimp only[rh];have l16:(sV l sw).length<=16:=by have:=fL (λi=>(l.nk i).1||sw.any (·==i)) (List.range l.mG.length);rw[dS]at this;exact dZ this oH
 have lin:∀i∈sV l sw,i<l.mG.length:=λi hi=>e9.mp (eY.mp hi).1;have inl:∀i∈sw,i∈sV l sw:=λi hi=>eY.mpr ⟨e9.mpr (ZF i hi),by rw[gj];exact .inr (fF.mpr ⟨i,hi,eN _⟩)⟩;refine pF ll ?_;refine wx (tJ (sV l sw)) (λpre acc U M'=>M20=M'/\acc=(((sV l sw).take pre.length).map l.nk).map sI/\∃y,U=[y,ga (.tup [.ref r1,.ref r2,.ref r3])]) (λ_ _ _ M' j=>by rw[<-j.1];exact ll) _ [] [] _ _ Z' ?_ ⟨Z',Z',Fa,Z'⟩ ?_ ?_
 .unfold tJ;rw[cT];simp only[dH];lia
 .rintro pre d post e acc U _ ⟨rfl,ha,y,rfl⟩ k hk
  obtain⟨i,ei,rfl,et⟩:=F1 e;rw[cW,dD,et,dF,dF]at hk;exact pF (sA.lst h3) (pF (wi (lin i (qR ei))) (hk _ _ _ ⟨Z',by rw[ha];rfl,_,Z'⟩))
 rintro acc U _ ⟨rfl,ha,y,rfl⟩ rw0 hrw
 unfold tJ at ha;rw[cT,eM]at ha;subst ha;obtain⟨M21,e0,t,lw0⟩:=tL (ds:=((sV l sw).map l.nk).map sI) hrw;rw[<-e0];have lw0:oP M21 rw0=ga ((Lf l sw).mG.map sI):=lw0;have lf:=t.lst lf;have ll:=t.lst ll;have sA:=sA.trans t;clear t hrw;refine⟨pD Z',?_⟩;dsimp only[rh];refine pF (sA.lst lrs) ?_;refine wx (tJ sw) (λpre acc U M'=>M21=M'/\acc=tJ ((sw.take pre.length).map λi=>(sV l sw).findIdx (·==i))/\∃y,U=[y,ga (.ref rl)]) (λ_ _ _ M' j=>by rw[<-j.1];exact sA.lst lrs) _ [] [] _ _ Z' ?_ ⟨Z',Z',Fa,Z'⟩ ?_ ?_
 .unfold tJ;rw[cT];simp only[dH];lia
 .rintro pre d post e acc U _ ⟨rfl,ha,y,rfl⟩ k hk
  obtain⟨i,ei,rfl,et⟩:=F1 e;rw[cW,dD,et,dF]at hk;refine⟨by show(oP M21 rl).isSome=Db;rw[ll];rfl,pF ll ⟨Z',yp _,pF (JJ i _ (inl i (qR ei))) (hk _ _ _ ⟨Z',?_,_,Z'⟩)⟩⟩;rw[ha];unfold tJ;rw[dF];rfl
 rintro acc U _ ⟨rfl,ha,y,rfl⟩ ra hra
 have ha:acc=tJ (wX l sw):=by rw[ha];unfold tJ wX;rw[cT,eM]
 subst ha;obtain⟨M22,e0,t,la⟩:=tL (ds:=tJ (wX l sw)) hra;rw[<-e0];have lf:=t.lst lf;have lw0:=t.lst lw0;have sA:=sA.trans t;clear t hra;dsimp only[rh];refine⟨r1,r2,rw0,Lf l sw,Z',sA.lst h1,sA.lst h2,lw0,Oo ok,λp9 M23 s23 pa _=>?_⟩;have sA:=sA.trans s23;have lf:=s23.lst lf;have la:=s23.lst la;refine pF (sA.lst ld) λx1 hx1=>?_;have sP:=qN.refl (M:=M23);obtain⟨M24,e0,t,k1⟩:=tL (ds:=es.map qL.d) hx1;rw[<-e0];have lf:=t.lst lf;have la:=t.lst la;have sA:=sA.trans t;have sP:=sP.trans t;clear t hx1;refine⟨p9,hh,x1,ra,Lf l sw,es,wX l sw,Z',pa.sub sP,Oo ok,k1,la,by lia,hfm,λrz M25 s25 hrz lz=>?_⟩;rw[Mn Mw (OV ZF) hns]at lz;exact pF Z' (pF (Gd (n:=7) lz (s25.lst lf)) ⟨M,s02.trans (sA.trans s25),q⟩)
end
end Z
end
structure PySem.W.Fast:Prop where(tw9462059292817226889 tw8186938448263732230 tw8108450823612551897 tw8052945281954077389 tw7025426117204660996 tw6592135265788144405 tw5959684471435292662 tw5517838296627378468 tw4105526865388499671 tw3947478467075805609 tw3346902820823982233 tw2434778731185114908 tw2019878773208091897 tw18407709477221185882 tw18329443545321554540 tw17862979942521040207 tw17476657691801824401 tw17235989362896873110 tw1709875191411906569 tw16823800996339987896 tw16439501281396544732 tw15836652229130388 tw15251532041821772409 tw14978612637203561334 tw14462777575241237761 tw13994890526396189783 tw13942543556023115726 tw13036972541961754570 tw12305775174937856137 tw11795222783682745183 tw14552471693138517089 tw7504092436012627762 tw549484977164500782 tw15778854517113456850 tw10155789082621246051 tw12321360876579789880 tw7407792455258249425 tw2727639589860953227 tw720762327415742527 tw11710293469008316148 tw2400667539522112213 tw6386253573859235328 tw16090205801016929065 tw5994657395784250109 tw4454537434734409268 tw17240054877504890190 tw15431370931776059614 tw392121192843628530 tw18325170977380152358 tw17402456854840573076 tw16146651967436860359 tw9986721012904596854 tw12208140314161922826 tw10412801074788424310 tw7321317531911963229 tw6949916328696450145 tw9248073847918266078 tw13417984678691387704 tw17099788055625160044 tw4949128230939194623 tw31582294135353947 tw1105521579857744944 tw17587754368280335779 tw1218968651315813052 tw11987879193601510405 tw46449749454634615 tw895427186205285814 tw15911307431482283215 tw11743845729770845645 tw18198589369916371462 tw12129270897219089202 tw8133549694630620746 tw16624884687951810830 tw11475683350881777289 tw3277565082701114984 tw5052832219714219193 tw11944198475741878390 tw14970388865670391898 tw16257659153745147537 tw11810119962492076789 tw10560597900364375858 tw3799623296226984577 tw2203358066205126025 tw10661745428623339502 tw8240333002106934534 tw15520335115972862920 tw8727391400152518243 tw5430764746296955684 tw305850204885850006 tw13295212038115086202 tw5563260914093052048 tw759358471961113322 tw18344806701053709174 tw13321857373508487129 tw5351633812339965351 tw10768625465043980858 tw1906268802856711631 tw380109984520070961 tw9370544448917193892 tw2159650051560507345 tw14493090388136391563 tw2525253790066405019 tw353991965177463771 tw15528248246939460327 tw12606841441789768082 tw5657148035521759283 tw10497642893374594847 tw8906036767540480777 tw11477574017863635253 tw2999405753682351600 tw13796449424062719447 tw15399075907942950636 tw5064578649047050667 tw564720462514998574 tw5885690271832467470 tw3475991092888877957 tw6923689409007645106 tw13869486092038021566 tw9795134350922041968 tw9384306652815843325 tw15102284635571460442 tw14583870116517058016 tw16952303745851092381 tw4211819945623154307 tw13119481409708063592 tw4287613770769766278 tw1356801866101248718 tw15542328286470519552 tw4366920490133995596 tw10204741686526820043 tw8023450884136742646 tw6885791114703078548 tw5437417757761672153 tw11975983039906051143 tw12271203527179852535 tw15117604906186513499 tw2490968965542515548 tw5715446927894297874 tw15507053832108128793 tw14429241090921892463 tw18349686776909135751 tw8333770050101034495 tw4747396912585340058 tw18165162732965469990 tw18146798420379998952 tw17205181847902970836 tw14048556519486772593 tw11944718524589505455 tw18209532429303025423 tw13924440969129238168 tw13507011882777865311 tw7927697191400000757 tw14483540862672076441 tw8609952800493111436 tw12154438826435096844 tw18078533218627130361 tw13644043884323797942 tw14779648313598617561 tw1504245965002465368 tw3097036443261874968 tw6711597597202514467 tw2122422263545594500 tw5898372535069625900 tw17882436343922441666 tw16600515492148083823 tw7017547918668229899 tw12071280007640952219 tw8734631757228241313 tw16915586424807628457 tw5274949429661840721 tw11891860698936055322 tw8751920066918903958 tw16354354491696319334 tw14835693587741743963 tw5639137495372196929 tw2282849898431583592 tw1710339809723068999 tw10708548868853900395 tw12677587593622485547 tw2372904968584636047 tw5842929519528453094 tw3263051252695736852 tw4542945144783452186 tw14207253828572882610 tw7101797071026221151 tw6033380074635843740 tw447486911939951172 tw3148109478517560527 tw10682490859552150425 tw2465239183370383855 tw13532390531299721582 tw12025542917271634929 tw15177163908515509683 tw12809532126398511514 tw10893481244492803643 tw16186806754548492808 tw11264189771468413686 tw4086614207329700771 tw6113121873295019274 tw6824243716792062858 tw11584741312191540673 tw18258536956696153253 tw7681752361407384932 tw11167408799980346821 tw8218902570587886799 tw5913087814250137373 tw4027996596682154063 tw3569632696674205900 tw3223376535016528770 tw7037643323993320410 tw313098322581180684 tw971273834544507599 tw17672162987234819933 tw16144197359357707009 tw6337104879265124228 tw4871171071735887067 tw16860196204165878394 tw16206595827400620195 tw5800911065997360002 tw4790515174965289907 tw7113307536123812131 tw8528924492142958103 tw3402478807155179056 tw8541530450596202045 tw14361090173988634873 tw7573107913634783554 tw9767287331907456019 tw4234129881673026936 tw9014971112897081312 tw4806421359400480611 tw6874054240435494763 tw5856124871106765899 tw17413364209373148749 tw15908374884218809121 tw15282057307202200906 tw7348479477318195431 tw2843288633360305888 tw273622009485339793 tw2264855795919192900 tw11178382526326933652 tw14607372734648533437 tw16696148962810262588 tw9531777015344848383 tw3967037949333492727 tw2412058822748233705 tw2649873363889117302 tw13264175892027223310 tw9779640288969554498 tw12696367887042035038 tw6309340966381486033 tw2481289960388560084 tw4490987893654798121 tw2720431473254959481 tw8042978749529048947 tw5424230378097023417 tw14445883830898209626 tw16600585787168990267 tw3624762277965658551 tw5335977479003761269 tw1483629034100807577 tw15518237014552640473 tw1864205005788454287 tw17081848239608163839 tw1882427220160005586 tw17514387206157338382 tw4758814767431814547 tw3455325988549886197 tw3592202641713299419 tw15339358504941755071 tw338872299210311210 tw1624108099642742168 tw12713996552121526434 tw627593453700291363 tw305644693871909552 tw1075651350280768719 tw11962405607925995031 tw17380200268155521987 tw9004946078521520234 tw1964985961320094117 tw13680440860131836581 tw16500121537513204469 tw6321715172895811124 tw17644715050716430299 tw3102409327413150401 tw10682798603049736625 tw15921685488750267854 tw2682700348331565211 tw10101648086717461664 tw5135929495722499286 tw11261879269721445507 tw5804168219251203202 tw10963272454811542129 tw8509818795925602411 tw8678838633978808261 tw6477880882070273187 tw10205073105277253936 tw440013311396615875 tw13615105035834903297 tw4258995964624053021 tw4195119118530762167 tw6197328741949303635 tw3700963293007123147 tw4955889572860555444 tw16229811553040065508 tw15292620148068059033 tw5527349767755892249 tw17240680808663166931 tw15407130506616124136 tw1180849314051247175 tw13627376405897632792 tw16614273783467847268 tw13314264021641582927 tw4879509070227260619 tw17885096720260889820 tw14462706023124700112 tw8033222886837901613 tw3456036907554962212 tw9993658977887602092 tw12872184335727134205 tw9951832140365950648 tw12466361220939880972 tw7121363671283607535 tw18259581207457769521 tw17096920586452679114 tw16427690031094308988 tw11646363894681488778 tw10771650776974037689 tw5994124351817790610 tw7314932633547548583 tw9836106141129340566 tw17585105753931805226 tw7486284121045163680 tw16015836227817784645 tw5118672395131040531 tw18101221002685340772 tw3665286483606613216 tw143896053276017568 tw15284250924345984531 tw10496344717628732548 tw14892495576874855536 tw8608726259154623304 tw16667577377997768974 tw13761262309124448874 tw8776142861999791206 tw15274844373240048654 tw1741889747884835428 tw4638932491731898854 tw15364629957511063197 tw10275674596805743848 tw13578559421876212214 tw1283952289935184191 tw14510714117350430046 tw1269862756236545264 tw7587373380375617508 tw7480837761625848876 tw14950161067724290534 tw15777803232281255276 tw13557711291502022811 tw5053072870067352127 tw935770395366351089 tw2607709165312754762 tw8801674039662317829 tw3579305426024142301 tw15044100777086098315 tw7111371194582766206 tw10252249337253034859 tw8434151128737513729 tw16618658819821441424 tw14492212412466394692 tw10646226275552679573 tw11070208891528650872 tw7778310439620936391 tw9929107840313280705 tw7227633978763266598 tw6763515309728351884 tw5960981582626894596 tw14278753338017491233 tw15653179696101049234 tw12429733525344824208 tw9016332638048828903 tw11204044301175154628 tw9868259754492442918 tw9251937684014560249 tw15115163720156762244 tw16423394722591671069 tw5436671757198521186 tw15978337496421643558 tw12141246548741326053 tw11581555434108448845 tw15028102802687142895 tw2860324572373988405 tw4143623929994685924 tw9346657731669678890 tw385181587033238021 tw17993022085506034416 tw2573269827420456509 tw9162959269135490280 tw5765150223609578166 tw13412576926073339557 tw9663028720133635807 tw6910162591117109906 tw16653474862705633383 tw15703018516418092906 tw131348069831846515 tw9373169888139192037 tw11326278815968378528 tw10790967694773566988 tw833099006500982632 tw6831013475783212274 tw3249035673232124116 tw2946500343581858042 tw2134169866646680161 tw12920635082683022820 tw10138192201239320272 tw5705567895743348763 tw4364982668520753342 tw8434991652090587570 tw2417087732329218059 tw18267796620230289379 tw17645686266510561031 tw16519193902152228448 tw12805144410196765638 tw1015073289721168979 tw7353767135084442750 tw139109842962425369 tw13572410655045980736 tw9828927857456591973 tw15152287929351137838 tw12579941904021477994 tw11800113157500089082 tw3406651352371084701 tw15521406269993686979:True)
open PySem PySem.W PyProof.Rows L2 L3
def xZqN:Option Obj->Option Obj
|some ⟨_,_,.freed,_⟩=>none
|o=>o
def xZqP (h:Heap):List Nat->Nat->List Obj->List (Option Obj)
|[],_,_=>[]
|a::l,i,r=>bif i.ble a then xZqN (r.drop (a-i)).head?::xZqP h l a (r.drop (a-i)) else h.get? a::xZqP h l i r
theorem xZqQ (h:Heap):∀l i r,r=h.objs.toList.drop i->xZqP h l i r=l.map h.get?
|[],_,_,_=>rfl
|a::l,i,r,e=>by
 unfold xZqP;cases z:i.ble a with
 |false=>exact congrArg (h.get? a::·) (xZqQ h l i r e)
 |true=>
  have d:r.drop (a-i)=h.objs.toList.drop a:=by have:=Nat.le_of_ble_eq_true z;rw [e,List.drop_drop];congr 1;omega
  show xZqN (r.drop (a-i)).head?::xZqP h l a (r.drop (a-i))=_;rw [xZqQ h l a _ d,d,List.head?_drop,Array.getElem?_toList];rfl
def xZqH (K:Params->Frag) (as:List Addr) (e:∀P,as=(K P).map (·.1)) (_:Unit):Hook:=⟨_,λs=>xZqP s.heap as 0 s.heap.objs.toList,λw=>(K w.params).map λp=>some p.2,InK K,λw s x=>InK.of e w s ((xZqQ s.heap as 0 s.heap.objs.toList rfl).symm.trans x),InK.keeps⟩
local macro_rules|`(tactic|o_head ($f $k $a $e))=>`(tactic|o_head (xZqH $k $a $e ()))
set_option maxRecDepth 100000 in
set_option maxHeartbeats 0 in
theorem PySem.Challenge.cw_callboard_k69_whole_what_if_both_ways_holds : PySem.Challenge.rw_callboard_k69_whole_what_if_both_ways.Holds := by
 w_on;o_law;k_head;(case hw=>w_witness2)
 k_fill
 refine L3.NQ (l:=PySem.Challenge.rw_callboard_k69_whole_what_if_both_ways) (sp:=Z.Mc) (k:=17) (x:="_law_script") rfl rfl ⟨rfl,by decide,by decide⟩ (λ_ _ Y=>Y) (λns hl=>⟨ns,rfl,hl,rfl⟩) ?F;case F=>
  intro w mg fa h KX G hmg;suffices h:∃a:Z.Ad,Z.Gl _ mg a/\∀(s:Shared) (u:Value),BindsTo s a.ao.d ⟨[u],[]⟩ [("_law_script",u)]by obtain⟨a,g,hb⟩:=h;have e:=hmg.symm.trans g.ao.mg;cases e;exact⟨a.ao.d,hb,λbase _ _=>g.ao.pe ▸ Z.Ta g⟩
  refine'⟨⟨_,_,_,_,_,_,_,_,_,_,_,_,_,_,_,_,_,_,_,_,_,_,_,_,_,_,_,_,_,_,_,_,_,_,_,_,_,_,_,_,_,_,_,_,_,_,_,_,_,_,_,_,_,_,_,_,_,_,_,_,_,_,_,_,_,_,_,_,_,_,_,_,_,_,_,_,_,_,_,_,_,_,_,_,_,_,_,_,_,_,_,_,_,_,_,_,_,_,_,_,_,_,_,_,_,_,_,_,_,_,_,_,_,_,_,_,_,_,_,_,_,_,_,_,_,_,_,_,_,_,_,_,_,_,_⟩,⟨xf KX G ..,xf KX G ..,xf KX G ..,xf KX G ..,xf KX G ..,xf KX G ..,xf KX G ..,xf KX G ..,xf KX G ..,xf KX G ..,xf KX G ..,xf KX G ..,xf KX G ..,PySem.W.mg_of KX G ?_,PySem.W.mg_of KX G ?_,qB KX G ..,qB KX G ..,qB KX G ..,qB KX G ..,qB KX G ..,qB KX G ..,qB KX G ..,qB KX G ..,qB KX G ..,qB KX G ..,qB KX G ..,qB KX G ..,qB KX G ..,qB KX G ..,qB KX G ..,qB KX G ..,qB KX G ..,qB KX G ..,qB KX G ..,qB KX G ..,qB KX G ..,qB KX G ..,qB KX G ..,qB KX G ..,qB KX G ..,qB KX G ..,qB KX G ..,qB KX G ..,qB KX G ..,qB KX G ..,qB KX G ..,qB KX G ..,qB KX G ..,qB KX G ..,qB KX G ..,qB KX G ..,qB KX G ..,qB KX G ..,qB KX G ..,qB KX G ..,qB KX G ..,qB KX G ..,qB KX G ..,qB KX G ..,qB KX G ..,qB KX G ..,qB KX G ..,qB KX G ..,qB KX G ..,qB KX G ..,qB KX G ..,qB KX G ..,qB KX G ..,qB KX G ..,qB KX G ..,qB KX G ..,qB KX G ..,qB KX G ..,qB KX G ..,qB KX G ..,qB KX G ..,qB KX G ..,qB KX G ..,qB KX G ..,qr ..,qr ..,qr ..,qr ..,qr ..,qr ..,qr ..,qr ..,qr ..,qr ..,qr ..,qr ..,qr ..,qr ..,qr ..,qr ..,qr ..,qr ..,qr ..,qr ..,qr ..,qr ..,qr ..,qr ..,qr ..,qr ..,qr ..,qr ..,qr ..,qr ..,qr ..,qr ..,qr ..,qr ..,qr ..,qr ..,qr ..,qr ..,qr ..,qr ..,qr ..,qr ..,qr ..,qr ..,qr ..,qr ..,qr ..,qr ..,qr ..,qr ..,qr ..,qr ..,qr ..,qr ..,qr ..,qr ..,Pf ?_ ?_ ?_ ?_ ?_ ?_ ?_ ?_ ?_ ?_,LJ ?_ ?_ ?_,QP ?_ ?_ ?_ ?_,⟨?_,?_,?_,?_⟩,⟨?_,?_,?_,?_⟩,⟨?_,?_,?_,?_⟩,⟨?_,?_,?_,?_⟩,⟨?_,?_,?_,?_⟩,⟨?_,?_,?_,?_⟩,⟨?_,?_,?_,?_⟩,⟨?_,?_,?_,?_⟩,⟨?_,?_,?_,?_⟩,⟨?_,?_,?_,?_⟩,⟨?_,?_,?_,?_⟩,⟨?_,?_,?_⟩,⟨?_,?_,?_⟩,⟨?_,?_,?_⟩,⟨?_,?_,?_⟩,⟨?_,?_,?_⟩,⟨?_,?_,?_⟩,⟨?_,?_,?_⟩,⟨?_,?_,?_⟩,⟨?_,?_,?_⟩,⟨?_,?_,?_⟩,⟨?_,?_,?_⟩,⟨?_,?_,?_⟩,⟨?_,?_,?_⟩,⟨?_,?_,?_⟩,⟨?_,?_,?_⟩,⟨?_,?_,?_⟩,⟨?_,?_,?_⟩,⟨?_,?_,?_⟩,⟨?_,?_,?_⟩,⟨?_,?_,?_⟩,⟨?_,?_,?_⟩,(qb ?_ (qb ?_ (qb ?_ (qb ?_ (qb ?_ (qb ?_ (qb ?_ (qb ?_ ud)))))))),(qb ?_ (qb ?_ (qb ?_ (qb ?_ (qb ?_ (qb ?_ ud)))))),(qb ?_ (qb ?_ (qb ?_ ud))),(qb ?_ (qb ?_ (qb ?_ ud))),(qb ?_ (qb ?_ (qb ?_ ud))),(qb ?_ (qb ?_ (qb ?_ (qb ?_ (qb ?_ ud))))),(qb ?_ (qb ?_ (qb ?_ ud))),(qb ?_ (qb ?_ (qb ?_ (qb ?_ ud)))),(qb ?_ (qb ?_ ud)),(qb ?_ (qb ?_ ud)),(qb ?_ (qb ?_ (qb ?_ (qb ?_ (qb ?_ (qb ?_ (qb ?_ (qb ?_ ud)))))))),PySem.W.mg_none_of KX G ?_,PySem.W.mg_none_of KX G ?_,PySem.W.mg_none_of KX G ?_,PySem.W.mg_none_of KX G ?_,PySem.W.mg_none_of KX G ?_,PySem.W.mg_none_of KX G ?_,PySem.W.mg_none_of KX G ?_,PySem.W.mg_none_of KX G ?_,PySem.W.mg_none_of KX G ?_,PySem.W.mg_none_of KX G ?_,PySem.W.mg_none_of KX G ?_,PySem.W.mg_none_of KX G ?_,wK (PySem.W.mg_of KX G ?_),wK (PySem.W.mg_of KX G ?_),wK (PySem.W.mg_of KX G ?_),wK (PySem.W.mg_of KX G ?_),RY (PySem.W.mg_of KX G ?_) (va (ss:=["all","turns"]) ?_ (.cons ⟨_,rfl⟩ (.cons ⟨_,rfl⟩ .nil)) (Nat.le_of_ble_eq_true rfl)),wK (PySem.W.mg_of KX G ?_),wK (PySem.W.mg_of KX G ?_),wK (PySem.W.mg_of KX G ?_),Uz (PySem.W.mg_of KX G ?_),R1 (es:=[⟨_,.str "bar" _,.ref _⟩,⟨_,.str "shut" _,.ref _⟩,⟨_,.str "always" _,.ref _⟩,⟨_,.str "night" _,.ref _⟩,⟨_,.str "busy" _,.ref _⟩,⟨_,.str "silent" _,.ref _⟩,⟨_,.str "wait" _,.ref _⟩,⟨_,.str "breaks" _,.ref _⟩]) (PySem.W.mg_of KX G ?_) ?_ ?_ (.cons rfl ⟨_,rfl,(va (ss:=["phone","names"]) ?_ (.cons ⟨_,rfl⟩ (.cons ⟨_,rfl⟩ .nil)) (Nat.le_of_ble_eq_true rfl))⟩ (.cons rfl ⟨_,rfl,(va (ss:=["name","phones"]) ?_ (.cons ⟨_,rfl⟩ (.cons ⟨_,rfl⟩ .nil)) (Nat.le_of_ble_eq_true rfl))⟩ (.cons rfl ⟨_,rfl,(va (ss:=["name","name"]) ?_ (.cons ⟨_,rfl⟩ (.cons ⟨_,rfl⟩ .nil)) (Nat.le_of_ble_eq_true rfl))⟩ (.cons rfl ⟨_,rfl,(va (ss:=["name","name","hour","hour"]) ?_ (.cons ⟨_,rfl⟩ (.cons ⟨_,rfl⟩ (.cons ⟨_,rfl⟩ (.cons ⟨_,rfl⟩ .nil)))) (Nat.le_of_ble_eq_true rfl))⟩ (.cons rfl ⟨_,rfl,(va (ss:=["name","name"]) ?_ (.cons ⟨_,rfl⟩ (.cons ⟨_,rfl⟩ .nil)) (Nat.le_of_ble_eq_true rfl))⟩ (.cons rfl ⟨_,rfl,(va (ss:=["name","name","turns"]) ?_ (.cons ⟨_,rfl⟩ (.cons ⟨_,rfl⟩ (.cons ⟨_,rfl⟩ .nil))) (Nat.le_of_ble_eq_true rfl))⟩ (.cons rfl ⟨_,rfl,(va (ss:=["phone"]) ?_ (.cons ⟨_,rfl⟩ .nil) (Nat.le_of_ble_eq_true rfl))⟩ (.cons rfl ⟨_,rfl,(va (ss:=["phone"]) ?_ (.cons ⟨_,rfl⟩ .nil) (Nat.le_of_ble_eq_true rfl))⟩ .nil)))))))),wK (PySem.W.mg_of KX G ?_),wK (PySem.W.mg_of KX G ?_),wK (PySem.W.mg_of KX G ?_)⟩,λs u=>.of_eq rfl⟩
  all_goals try first|k_is|(intro _ _ _ _ _ _ us hl;rcases us with _|⟨_,_|⟨_,_|⟨_,_|⟨_,_|⟨_,_|⟨_,_|⟨_,us⟩⟩⟩⟩⟩⟩⟩<;>first|rfl|(exfalso;revert hl;simp;done))|rfl
