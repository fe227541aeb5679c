import PyProof.Rows.All
import Wide.All
import OpenK.AllK
import Wide.FinOn
import PyProof.EqAt
import PyProof.EqKinds
import PyProof.TupleCall
import PyProof.AttrMiss
import PyProof.IsiH_list
import PyProof.Rows.SetFrom
import KE.KDictOf
import KE.KTab
import PyProof.AutoListH
import KE.KSortTup
import KE.KItemsList
import KE.KEqDict
import KE.KIntText
import Lean
import PyProof.RulesRaise
import PyProof.RulesTry
import KE.KTryDeep
import KE.KTryMore
import KE.KTryOn
import KE.TryInHelper
import KE.TryLedger
import PyProof.ExcArgsOwn
import PyProof.ExcAttrAll.ValueError
import KE.KIsAll
import PyProof.ExcBaseAll.ValueError
import PyProof.InstStoreFacts
import PyProof.ExcInit
import PyProof.SeqI3
import PyProof.ConsumeWalk
import PySem.Challenge.RW_callboard_k54_bills_walked
set_option genInjectivity false
set_option genSizeOfSpec false
set_option genSizeOf false
set_option Elab.async false
set_option linter.all false
set_option maxRecDepth 100000
set_option maxHeartbeats 4000000
noncomputable section
open LawfulBEq renaming eq_of_beq->ZB
open List renaming length_map->cY,getElem?_eq_some_iff->c9,length_append->de,getElem?_eq_getElem->df,mem_singleton->dz,size_toArray->dB,mem_cons->dC,getElem?_map->dE,mem_map->dF,mem_cons_of_mem->dH,length_singleton->dI,map_append->dJ,length_nil->dN,mem_cons_self->dP,nodup_cons->dS,mem_append->dX,not_mem_nil->dY,map_cons->d4,map_map->eh,nil_append->eA,length_cons->eB,mem_append_right->eG,nodup_nil->eI,take_of_length_le->eJ,length_range->eL,replicate_succ->eM,append_nil->eO,getElem?_append_right->eP,lookup_cons->eQ,all_eq_true->eR,getElem?_append_left->eV,find?_cons->fh,mem_of_getElem?->fj,getElem?_eq_none->fk,length_take->fu,append_assoc->fA,getElem?_set_ne->fB,getElem?_set_self->fC,all_cons->fD,length_pos_iff->fE,mem_filter->fH,mem_append_left->fJ,take_length->fK,take_add_one->fL,any_eq_true->fP,cons_ne_nil->fQ,flatten_cons->fT,map_congr_left->fV,length_drop->fX,length_modify->fZ,nodup_append->gc,foldl_cons->gf,filterMap_cons->gh,filter_sublist->gi,length_zipWith->gj,any_cons->gm,exists_cons_of_ne_nil->gp,find?_eq_none->gx,length_filter_le->gy,mem_of_find?_eq_some->gz,getLast?_eq_none_iff->gA,length_eq_zero_iff->gD,mem_range->gF,getD_eq_getElem?_getD->gL,drop_eq_getElem_cons->gQ,getLastD_eq_getLast?->gR,getElem?_modify->gS,findIdx?_eq_some_iff_getElem->gT,filter_cons->gX,getElem_of_mem->gZ,filter_cons_of_pos->g9,filter_cons_of_neg->hG,filter_map->hZ,filter_nil->h9,reverse_cons->ib,findIdx?_map->ig,getElem_mem->ip,mem_of_getLast?->iq,dropLast_subset->ir,length_set->iy,contains_cons->iF,filter_append->iH,getElem?_cons_zero->iJ,foldl_append->iL,length_replicate->iN,getElem?_toArray->iP,set_append_right->iQ,getElem?_zipWith->iR,mem_iff_getElem?->iS,map_nil->iY,any_map->ja,getElem?_append->jb,getElem?_range->jf,map_id->jk,sublist_append_right->jy,pairwise_iff_getElem->jz,getElem?_eq_none_iff->jA,getLast?_eq_getElem?->jB,findIdx?_eq_none_iff->jC,drop_length->jL,set_set->jM,eq_of_mem_replicate->jP,getElem?_replicate->jQ,of_mem_zip->jU,forIn_cons->jV,range_succ->jZ,drop_of_length_le->j8,forIn_nil->j9,drop_zero->kh,set_getElem_self->km,mem_of_mem_take->kz,mem_of_mem_drop->kA,map_drop->kF,filter_eq_self->kM,modify_eq_self->kN,mem_filterMap->kT,getElem_range->lb,set_cons_succ->lh,any_eq_false->ls,find?_append->lC,getElem_inj->lH,zipIdx_cons->lP,getElem_map->lU,zipIdx_nil->lZ,any_append->l0,find?_some->ma,map_take->mi,all_map->mq,map_set->mx
open PySem renaming wpAny_bind->cZ,wpAny_pure->dA,sizeLine_eq->dQ,wpAny_mono->eE,wpAny_field->fm,wpAny_holding->ft,wpAny_truthy_bool->fz,wpAny_callSpecial?_slot->fN,wpAny_newObj_type->gb,wpAny_call_entry->gq,wpAny_Call_Name_kw->gw,wpAny_seqItems->gG,wpAny_setField_rec->gJ,wpAny_passesOwn->gK,codeAny_mono->gU,mem_of_lookup->gY,wpAny_execs_nil->hJ,wpAny_pyIter_list->ic,wpAny_loadPart_at->ie,wpAny_setField->im,wpAny_standAt->iu,codeAny_builtin->iz,tupleKind_room_in1->iB,wpAny_pyIter_tuple->iE,plainObj_wpAny_Assign_Attribute->iT,wpAny_call->iU,call_meets->iX,wpAny_updateSeq_pair->iZ,isSubtype_type->ji,slot_dict_contains->jm,wpAny_onRaise->jq,wpAny_sequenceKey->js,wpAny_execs_cons->jD,wpAny_typeOf->jG,wpAny_comprehension_free->jJ,wpAny_specialOf->jX,builtinLookup_eq_fast->kc,getitemInPython_of_ne->ke,wpAny_rule->kr,codeAny_call_builtin->ku,wpAny_letTemporaryGo->kx,plainId_quiet->kE,wpAny_isSubtype_exc->kK,concat_meets->kU,seqIndex_neg->kX,wpAny_assign_Name->lj,wpAny_Assign_Name->lq,slot_list_getitem->ly,slot_dict_getitem->lz,wpAny_pyIter_enum->lA,seqIndex_of->lE,wpAny_letGo->lF,wpAny_pyHash_str->lG,wpAny_lookBehind->lJ,pastItsLine_dict->lK,noFill_tuple_add->lM,wpAny_pyIter_zip->lR,wpAny_Name->lV,typeIs_int->lW,Addr->Uf,sizeLine->Ch,wpAny->pi,model->Tk,starEach->Tl,bootBuiltins->zn,Expr->Go,Heap->No,eval->wp,compareOp->Op,keywordEach->Ps,attributeBase->Rs,mainGlobals->At,FuncData->wv,holding->Ix,backTo->xz,swapsWith->sB,Stmt->TD,IsPair->wE,sysModules->sK,backToKw->xL,assignEach->IN,cLine->wP,binaryOp->wS,NameKind->wT,behindInMarks->AT,foldedSetIterable->XV,getMethod->TW,ExcBaseFacts->o0,rawInt->u8,excClassObj->X',standAt->Y',getItem->XXa,Scope->XXb,Keyword->XXc,sliceBounds->XXd,callWith->XXe,Operator->XXf,letOwnedTupleGo->XXg,codeAny->XXh,scanBound->XXi,IsZip->XXj
def dg:=@if_neg
def dh:=@if_pos
def dU:=@decide_eq_true
def eC:=@congrArg
def eF:=@decide_eq_false
def eK:=@decide_eq_true_eq
def eW:=@beq_self_eq_true
def fg:=@beq_iff_eq
def fU:=@of_decide_eq_true
def gg:=@beq_eq_false_iff_ne
def gu:=@or_false
def il:=@not_or
def jc:=@beq_false_of_ne
def jh:=@if_true
def lN:=@if_false
open PySem.Heap renaming get?_push_of_some->dq,lt_size->dG,get?_push_size->dO,get?_update_self->fM,size_push->fS,get?_update_other->gk,get?_none_of_le->gP,get?_update_ne->kI
open Nat renaming le_refl->dv,lt_of_lt_of_le->dR,ne_of_lt->dW,le_trans->d9,lt_irrefl->eZ,zero_le->e9,lt_succ_self->fO,sub_self->fY,succ_le_succ->gv,le_succ_of_le->gB,min_self->gI,le_succ->ia,ne_of_gt->ii,lt_of_le_of_lt->iI,lt_succ_of_lt->ju,le_of_eq->jE,lt_trans->jI,mul_le_mul->kg,le_of_lt->kS,sub_zero->kY,min_eq_left->l8,succ_mul->mo,zero_add->mv,succ_pos->my
open Option.some renaming inj->dw,injEq->jv
open Bool renaming false_ne_true->dD,eq_false_iff->dM,and_eq_true->d6,true_and->eN,false_and->eY,false_or->fR,eq_iff_iff->fW,not_eq_true'->gO,or_eq_true->hW,true_or->ik,not_eq_false->jw,or_false->kD,or_true->k9,beq_comm->mh,true->Db,false->pc
open Ne renaming symm->dZ
open Int renaming eq_ofNat_of_zero_le->eD,emod_lt_of_pos->eU,emod_nonneg->eX,mul_le_mul_of_nonneg_left->jd,toNat_natCast->jr,emod_add_mul_ediv->kl,add_zero->mw,zero_add->mz
open PySem.PassesOwn renaming never->eS
open PyProof.Rows renaming callWith_type1->fF,slot_tuple_getitem->fG,callWith_builtin1->iW,SetOf_congr->jK,subscriptTail_builtinR->j5,entry_tuple_getitem->kG,args_tuple_getitem->kW,envOfC->dL,AllBare->XXk
open PySem.W renaming kia_one->gC,callWith_K->iV,methodCall_KW->jY,plainGet_of->kB,looks_clsIn->kC,kitx_list->lD,cellsFrom_some->lL,looks_findIn->me
open PyProof.Rows.F renaming plain_set_update_loop->gH,entry_set_update_loop->iD
open PySem.F renaming slot_tuple_iterator_next->gM,called_set->gW,slot_list_getattribute->iC,slot_dict_get->iO,slot_zip_next->i9,args_tuple_iterator_next_1->jj,entry_tuple_iterator_next->jn,slot_dict_getitem->jx,args_tuple_add_2->jF,store_ValueError->jO,entry_tuple_add->jR,args_dict_get_3->jS,plainAttrs_list->jT,slot_tuple_add->j4,entry_dict_get->j7,excBase_ValueError->ky,args_zip_next_1->lB,entry_zip_next->lQ,slot_int_rmul->lX
open List.cons renaming inj->gN
open PySem.Calls renaming spliced_cons->hU,spliced_nil->iK,callWith_builtin->iM,Name_function_global->jp,evalArgs_plain->kq
open PySem.Around renaming under_plainId->io
open Array renaming getElem?_setIfInBounds_self_of_lt->iw,length_toList->je,toList_append->jg,size_setIfInBounds->jN,mem_toList_iff->ko,append_assoc->kQ
open Option renaming isSome_iff_exists->iA,isSome_map->jt,map_some->jW,map_eq_some_iff->j6,getD_none->lO,bind_some->lT,some->ga,none->Fa
open List.Nodup renaming sublist->iG
open PySem.Code renaming quiet_builtin->jl
open PySem.Paired renaming length->jo,snoc->mC
open Sum.inr renaming inj->j3
open PySem.Walks renaming list->kt
open PySem.Heap.SameBut renaming update->kH
open PySem.SeqAt.EqAt renaming int_str->kO,str_int->kP
open PySem.Obj renaming data_mapFields->kZ
open PySem.Heap.Ns1 renaming of_empty->lw
open PySem.Heap.DictOf renaming new->lY
open Eq renaming symm->mf
open PySem.W.Looks renaming here->mj
open PySem.Heap.FunFrames renaming of_keeps->mB
open PySem.Moved renaming trans->mD
open PySem.Heap.IsSliceOf renaming new->mE
abbrev qy:=PySem.W.Frag
local macro_rules | `(tactic| walk_at "l") => `(tactic| (intro _ _ _ h; repeat (first | (obtain ⟨e, _⟩ := h; subst e; rfl; done) | (cases h; rename_i h))))
local macro_rules | `(tactic| walk_at "m") => `(tactic| (intro _ _ _ _ h; repeat (first | (obtain ⟨e, _⟩ := h; subst e; rfl; done) | (cases h; rename_i h))))
abbrev Vl:=PySem.Value
abbrev Sd:=PySem.Shared
abbrev Pg:=PySem.Program
abbrev Ar:=PySem.Around
theorem Z'{α:Sort _}{a:α}:a=a:=rfl
abbrev Wo:=PySem.World
abbrev T0(α:Type _):=List α
abbrev QQQ:=List PySem.Str
abbrev QQX:=PySem.Value->PySem.Shared->Prop
abbrev QQY:=List (PySem.Addr×PySem.Obj)
abbrev QQZ:=PySem.Str->Option PySem.Value
abbrev QXQ:=List PySem.Addr
section
open PySem PySem.Spec PyProof.Rows
namespace L2
def x5{α:Sort u}{β:Sort v}{p q r:α->β->Prop}{C:Prop}(h:∃a b,p a b/\q a b/\r a b)(f:∀a b,p a b->q a b->r a b->C):C:=by obtain⟨a,b,h1,h2,h3⟩:=h;exact f a b h1 h2 h3
abbrev qW:=Sum Int Str
noncomputable def Ea:qW->Vl->Bool
 | .inl k,v=>Value.isInt k v
 | .inr x,v=>Value.isStrOf x v
noncomputable def W1(w:Wo):qW->Int
 | .inl k=>hashInt k
 | .inr x=>hashStr w x
def sy:∀{k:qW} {v:Vl},Ea k v=Db->(∃i t,k=Sum.inl i/\v=Value.int i t)\/(∃x t,k=Sum.inr x/\v=Value.str x t)
 | .inl i,v,h=>by obtain⟨t,e⟩:=Value.isInt_shape (k:=i) (v:=v) h;exact .inl ⟨i,t,Z',e⟩
 | .inr x,v,h=>by obtain⟨t,e⟩:=Value.isStrOf_shape (x:=x) (v:=v) h;exact .inr ⟨x,t,Z',e⟩
def K8(i:Int)(t:Tok):Ea (.inl i) (.int i t)=Db:=by simp[Ea,Value.isInt]
def KB(x:Str)(t:Tok):Ea (.inr x) (.str x t)=Db:=by simp[Ea,Value.isStrOf]
def SK(a b:Int):decide ((Sum.inl a:qW)=Sum.inl b)=(a==b):=by
 by_cases e:a=b
 .subst e;simp
 .have h:¬(Sum.inl a:qW)=Sum.inl b:=λq=>e (Sum.inl.inj q);rw[eF h];exact(gg.mpr e).symm
def R7(a b:Str):decide ((Sum.inr a:qW)=Sum.inr b)=decide (a=b):=by
 by_cases e:a=b
 .subst e;simp
 .have h:¬(Sum.inr a:qW)=Sum.inr b:=λq=>e (j3 q);rw[eF h,eF e]
def TC(a:Int)(b:Str):decide ((Sum.inl a:qW)=Sum.inr b)=pc:=eF (λq=>nomatch q)
def TM(a:Str)(b:Int):decide ((Sum.inr a:qW)=Sum.inl b)=pc:=eF (λq=>nomatch q)
noncomputable def rF(prog:Pg)(w:Wo):PySem.KeyKind prog w qW where
 is:=Ea
 hash:=W1 w
 inj:=λv a b ha hb=>by
  rcases sy ha with⟨i,t,rfl,rfl⟩|⟨x,t,rfl,rfl⟩
  .rcases sy hb with⟨j,u,rfl,e⟩|⟨y,u,rfl,e⟩
   .injection e with e1 _;rw[e1]
   .exact nomatch e
  .rcases sy hb with⟨j,u,rfl,e⟩|⟨y,u,rfl,e⟩
   .exact nomatch e
   .injection e with e1 _;rw[e1]
 byValue:=λk v h=>by rcases sy h with⟨i,t,rfl,rfl⟩|⟨x,t,rfl,rfl⟩<;>rfl
 pyHash:=λhv h=>by
  rcases sy hv with⟨i,t,rfl,rfl⟩|⟨x,t,rfl,rfl⟩
  .exact wpAny_pyHash_int h
  .exact lG h
 eqBool:=λhu hv h=>by
  rcases sy hu with⟨i,t,rfl,rfl⟩|⟨x,t,rfl,rfl⟩
  .rcases sy hv with⟨j,u,rfl,rfl⟩|⟨y,u,rfl,rfl⟩
   .rw[SK]at h;exact wpAny_eqBool_int h
   .rw[TC]at h;exact kO i t y u _ _ _ _ h
  .rcases sy hv with⟨j,u,rfl,rfl⟩|⟨y,u,rfl,rfl⟩
   .rw[TM]at h;exact kP x t j u _ _ _ _ h
   .rw[R7]at h;exact wpAny_eqBool_str h
 «strs»:=λk x t v h=>by
  rcases sy h with⟨i,u,rfl,e⟩|⟨y,u,rfl,e⟩
  .exact nomatch e
  .injection e with e1 _
   subst e1;cases v<;>rfl
def Hs(prog:Pg)(w:Wo)(i:Int)(t:Tok):(rF prog w).is (.inl i) (.int i t)=Db:=K8 i t
def AN(prog:Pg)(w:Wo)(x:Str)(t:Tok):(rF prog w).is (.inr x) (.str x t)=Db:=KB x t
inductive V where
 | mK|bl (b:Bool)|int (i:Int)|str (x:Str)|byt (b:Array UInt8)|flt (b:UInt64)|ref (a:Uf)|ty (n:String)
 deriving DecidableEq
def qM:V->Vl->Prop
 | .mK,u=>u=Value.none
 | .bl b,u=>u=Value.bool b
 | .int i,u=>∃t,u=Value.int i t
 | .str x,u=>∃t,u=Value.str x t
 | .byt b,u=>∃t,u=Value.bytes b t
 | .flt b,u=>∃t,u=Value.float b t
 | .ref a,u=>u=Value.ref a
 | .ty n,u=>u=Value.type n
abbrev qA:T0 V->T0 Vl->Prop:=Paired qM
def qA.length(r:qA xs us):xs.length=us.length:=jo r
theorem qA.get:∀{xs:T0 V} {us:T0 Vl} {i:Nat} {x:V},qA xs us->xs[i]?=ga x->∃u,us[i]?=ga u/\qM x u
 | _,_,_,_,.nil,e=>by simp at e
 | _,_,0,_,.cons r _,e=>by simp at e;subst e;exact⟨_,Z',r⟩
 | _,_,i+1,x,.cons _ t,e=>by obtain⟨u,h1,h2⟩:=qA.get (i:=i) (x:=x) t (by simpa using e);exact⟨u,by simpa using h1,h2⟩
theorem qA.set(r:qM x u):∀{xs:T0 V} {us:T0 Vl} (i:Nat),qA xs us->qA (xs.set i x) (us.set i u)
 | _,_,_,.nil=>.nil
 | _,_,0,.cons _ t=>.cons r t
 | _,_,i+1,.cons q t=>.cons q (qA.set r i t)
theorem qA.append:∀{xs ys:T0 V} {us ws:T0 Vl},qA xs us->qA ys ws->qA (xs++ys) (us++ws)
 | _,_,_,_,.nil,s=>s
 | _,_,_,_,.cons r t,s=>.cons r (qA.append t s)
theorem qA.take:∀{xs:T0 V} {us:T0 Vl} (n:Nat),qA xs us->qA (xs.take n) (us.take n)
 | _,_,0,_=>.nil
 | _,_,_+1,.nil=>.nil
 | _,_,n+1,.cons r t=>.cons r (qA.take n t)
theorem qA.drop:∀{xs:T0 V} {us:T0 Vl} (n:Nat),qA xs us->qA (xs.drop n) (us.drop n)
 | _,_,0,r=>r
 | _,_,_+1,.nil=>.nil
 | _,_,n+1,.cons _ t=>qA.drop n t
def xM:Option V->Option Vl->Prop
 | some v,ga u=>qM v u
 | none,none=>True
 | _,_=>False
def KV{κ:Type}:T0 (κ×V)->T0 (κ×Vl)->Prop:=Paired λ(p:κ×V) (q:κ×Vl)=>p.1=q.1/\qM p.2 q.2
noncomputable def kV:qW->V
 | .inl i=>.int i
 | .inr x=>.str x
inductive HO where
 | lst (xs:List V)
 | tup (xs:List V)
 | dK (kvs:List (qW×V))|dT (kvs:List (List qW×V))
 | set (S:Int->Bool) (n:Nat)
 | ins (C dx:Uf) (fs:List (Str×V))
 | own (x:Uf)
 | xd (fs:List (Str×V))
 | met (f x:Uf)
 | rng (lo hi:Int)
 | frz (o:Obj) (u:HO)
 | tbl (ps:Array Vl)
 | ext (φ:No->Prop)
abbrev Hp:=Uf->Option HO
noncomputable def upd(H:Hp)(a:Uf)(o:HO):Hp:=λb=>if b=a then ga o else H b
def qg:upd H a o a=ga o:=by unfold upd;rw[dh Z']
def qd{a b:Uf}(h:b≠a):upd H a o b=H b:=by unfold upd;rw[dg h]
def Qp:upd (upd H a o) a u=upd H a u:=by funext b;unfold upd;split<;>rfl
def UH{H:Hp}{a b:Uf}{o u:HO}(h:H a=ga o)(h':H b=ga u)(d:o≠u):a≠b:=by intro e;subst e;rw[h]at h';exact d (dw h')
def qX{H:Hp}{a b:Uf}{o:HO}(h:H a=ga o)(h':H b=Fa):a≠b:=by intro e;subst e;rw[h]at h';cases h'
section
variable (P:Pg)(w:Wo)
def EK(h:No)(a:Uf)(its:Array Vl):Prop:=∃o,h.get? a=ga o/\o.cls=.type "tuple"/\(∃n,o.data=.seq its n)/\o.dict=Fa
def sC(H:Hp)(h:No)(a:Uf):HO->Prop
 | .lst xs=>xs.length<=Ch/\∃(its:T0 Vl) (n:Nat),qA xs its/\h.get? a=ga {cls:=.type "list",data:=.seq its.toArray n}
 | .tup xs=>xs.length<=Ch/\∃its:T0 Vl,qA xs its/\EK h a its.toArray
 | .dK kvs=>kvs.length<=Ch/\(a==sK)=pc/\∃vs,KV kvs vs/\h.DictOf (rF P w) a vs
 | .dT kvs=>kvs.length<=Ch/\(a==sK)=pc/\∃xs:T0 (List qW×Uf×Vl),Paired (λ(p:List qW×V) (q:List qW×Uf×Vl)=>p.1=q.1/\H q.2.1=ga (.tup (p.1.map kV))/\qM p.2 q.2.2) kvs xs/\
   ∃o es ep,h.get? a=ga o/\o.ExactDict/\o.data=.dict es ep/\es.toList=xs.map (entryOfKey (tupleKind (rF P w)))/\(xs.map (·.1)).Nodup
 | .set S n=>h.SetOf (intKind P w) a S n
 | .ins C dx fs=>H dx=ga (.own a)/\fs.length<=1000/\dx≠a/\h.get? a=ga (W.instObj C dx)/\
   ∃mA,h.Ns1 dx mA/\(∀f,xM (fs.lookup f) (mA f))/\PySem.Within mA (fs.map (·.1))
 | .own _=>∃o,h.get? a=ga o
 | .xd fs=>∃mA,h.Ns1 a mA/\∀f,xM (fs.lookup f) (mA f)
 | .rng lo hi=>∃t u v,h.get? a=ga {cls:=.type "range",data:=.fields #[.int lo t,.int hi u,.int 1 v]}
 | .frz o u=>h.get? a=ga o/\sC H h a u
 | .tbl ps=>h.get? a=ga {cls:=.none,data:=.fields ps}
 | .met f x=>h.get? a=ga (W.methodObj (.ref f) (.ref x))
 | .ext φ=>φ h/\(∃o,h.get? a=ga o)/\∀h1 h2:No,φ h1->(∀o,h1.get? a=ga o->h2.get? a=ga o)->φ h2
def yL(H:Hp)(h:No):Prop:=∀a o,H a=ga o->sC P w H h a o
end
variable {H H':Hp}{h h':No}
section
variable {P:Pg}{w:Wo}{a:Uf}{o:HO}
def EK.is(x:EK h a its):IsTup h a its:=let⟨o,e,c,d,_⟩:=x;⟨o,e,c,d⟩
def EK.new(h:No)(XW:Array Vl):EK (h.push {cls:=.type "tuple",data:=.seq XW}) h.objs.size XW:=⟨_,dO _ Z',Z',⟨_,Z'⟩,Z'⟩
def sC.lt(x:sC P w H h a o):a<h.objs.size:=by
 cases o with
 | lst xs=>obtain⟨_,_,_,_,e⟩:=x;exact dG e
 | tup xs=>obtain⟨_,_,_,_,e,_⟩:=x;exact dG e
 | dK kvs=>obtain⟨_,_,_,_,o,_,_,e,_⟩:=x;exact dG e
 | dT kvs=>obtain⟨_,_,_,_,o,_,_,e,_⟩:=x;exact dG e
 | set S n=>obtain⟨o,_,_,_,e,_⟩:=x;exact dG e
 | ins C dx fs=>obtain⟨_,_,_,e,_⟩:=x;exact dG e
 | own y=>obtain⟨_,e⟩:=x;exact dG e
 | xd fs=>obtain⟨_,⟨_,_,_,e,_⟩,_⟩:=x;exact dG e
 | rng lo hi=>obtain⟨_,_,_,e⟩:=x;exact dG e
 | frz ob u=>obtain⟨e,_⟩:=x;exact dG e
 | tbl ps=>exact dG (show h.get? a=ga _ from x)
 | met f y=>exact dG (show h.get? a=ga _ from x)
 | ext φ=>obtain⟨_,⟨_,e⟩,_⟩:=x;exact dG e
theorem Paired.oH{α β:Type}{F G:α->β->Prop}:∀{l₁:List α} {l₂:List β},Paired F l₁ l₂->(∀a b,F a b->G a b)->Paired G l₁ l₂
 | _,_,.nil,_=>.nil
 | _,_,.cons r t,f=>.cons (f _ _ r) (Paired.oH t f)
def sC.nF(x:sC P w H h a o)(k:∀b u,(b=a\/H b=ga (.own a))->h.get? b=ga u->h'.get? b=ga u) (ho:∀b,H b=ga (.own a)->H' b=ga (.own a)) (ht:∀b xs,H b=ga (.tup xs)->H' b=ga (.tup xs)):sC P w H' h' a o:=by
 induction o with
 | lst xs=>obtain⟨z,its,n,r,e⟩:=x;exact⟨z,its,n,r,k _ _ (.inl Z') e⟩
 | tup xs=>obtain⟨z,its,r,ob,e,c⟩:=x;exact⟨z,its,r,ob,k _ _ (.inl Z') e,c⟩
 | dK kvs=>obtain⟨z,y,vs,r,ob,es,ep,e,c⟩:=x;exact⟨z,y,vs,r,ob,es,ep,k _ _ (.inl Z') e,c⟩
 | dT kvs=>obtain⟨z,y,xs,r,ob,es,ep,e,c⟩:=x;exact⟨z,y,xs,Paired.oH r λp q z=>⟨z.1,ht _ _ z.2.1,z.2.2⟩,ob,es,ep,k _ _ (.inl Z') e,c⟩
 | set S n=>obtain⟨ob,es,ep,t,e,c⟩:=x;exact⟨ob,es,ep,t,k _ _ (.inl Z') e,c⟩
 | ins C dx fs=>obtain⟨d,z,ne,e,mA,⟨od,es,ep,e2,c⟩,r⟩:=x;exact⟨ho _ d,z,ne,k _ _ (.inl Z') e,mA,⟨od,es,ep,k _ _ (.inr d) e2,c⟩,r⟩
 | own y=>obtain⟨ob,e⟩:=x;exact⟨ob,k _ _ (.inl Z') e⟩
 | xd fs=>obtain⟨mA,⟨od,es,ep,e,c⟩,r⟩:=x;exact⟨mA,⟨od,es,ep,k _ _ (.inl Z') e,c⟩,r⟩
 | rng lo hi=>obtain⟨t,u,v,e⟩:=x;exact⟨t,u,v,k _ _ (.inl Z') e⟩
 | frz ob u ih=>obtain⟨e,q⟩:=x;exact⟨k _ _ (.inl Z') e,ih q⟩
 | tbl ps=>have e:h.get? a=ga {cls:=.none,data:=.fields ps}:=x;show h'.get? a=ga {cls:=.none,data:=.fields ps};exact k a _ (.inl Z') e
 | met f y=>have e:h.get? a=ga (W.methodObj (.ref f) (.ref y)):=x;show h'.get? a=ga (W.methodObj (.ref f) (.ref y));exact k a _ (.inl Z') e
 | ext φ=>obtain⟨p,⟨o,e⟩,st⟩:=x;exact⟨st _ _ p λo q=>k _ _ (.inl Z') q,⟨o,k _ _ (.inl Z') e⟩,st⟩
def yL.lt(x:yL P w H h)(e:H a=ga o):a<h.objs.size:=(x a o e).lt
def yL.fresh(x:yL P w H h)(e:h.objs.size<=a):H a=Fa:=by
 cases q:H a with
 | none=>rfl
 | some u=>exact absurd (dR (x.lt q) e) (eZ _)
def yL.kept(x:yL P w H h)(k:∀b u,h.get? b=ga u->h'.get? b=ga u):yL P w H h':=λa o e=>(x a o e).nF (λb u _ q=>k b u q) (λ_ q=>q) λ_ _ q=>q
def yL.laid(x:yL P w H h)(k:∀b u,h.get? b=ga u->h'.get? b=ga u)(hp:h.objs.size<=a)(new:sC P w (upd H a o) h' a o):yL P w (upd H a o) h':=λb u e=>by
 have hn:=x.fresh hp;by_cases hb:b=a
 .subst hb;rw[qg]at e;cases e;exact new
 .rw[qd hb]at e;exact(x b u e).nF (λc v _ q=>k c v q) (λc q=>by rw[qd (qX q hn)];exact q) λc xs q=>by rw[qd (qX q hn)];exact q
end
def Rd(H:Hp)(a:Uf)(u:HO):Prop:=H a=ga u\/∃o,H a=ga (.frz o u)
def Rd.ok(r:Rd H a u)(x:yL P w H h):sC P w H h a u:=by
 rcases r with r|⟨o,r⟩
 .exact x a u r
 .obtain⟨_,q⟩:=x a _ r;exact q
def VS:Option HO->Prop
 | some (.lst _)=>True
 | some (.dK _)=>True
 | some (.dT _)=>True
 | some (.set _ _)=>True
 | some (.ins _ _ _)=>True
 | some (.ext _)=>True
 | _=>False
variable {o':HO}
section
variable {P:Pg}{w:Wo}{x e:Uf}
def yL.write(ok:yL P w H h)(mu:VS (H x))(he:e=x\/H e=ga (.own x))(k:∀b u,b≠e->h.get? b=ga u->h'.get? b=ga u)(heo:∃u,h'.get? e=ga u) (new:sC P w (upd H x o') h' x o'):yL P w (upd H x o') h':=λb u q=>by
 have nown:∀c y,H c=ga (.own y)->c≠x:=λc y r z=>by subst z;rw[r]at mu;exact mu
 have ntup:∀c xs,H c=ga (.tup xs)->c≠x:=λc xs r z=>by subst z;rw[r]at mu;exact mu
 by_cases hb:b=x
 .subst hb;rw[qg]at q;cases q;exact new
 .rw[qd hb]at q;by_cases hbe:b=e
  .have q':H b=ga (.own x):=by
    rcases he with z|z
    .exact absurd (hbe.trans z) hb
    .rw[hbe];exact z
   rw[q]at q';cases q';obtain⟨v,hv⟩:=heo;exact⟨v,by rw[hbe];exact hv⟩
  .refine(ok b u q).nF (λc v hc r=>k c v ?_ r) (λc r=>by rw[qd (nown c b r)];exact r) λc xs r=>by rw[qd (ntup c xs r)];exact r
   rcases hc with rfl|hc
   .exact hbe
   .rintro rfl
    rcases he with z|z
    .exact nown c b hc z
    .rw[hc]at z;cases z;exact hb Z'
end
structure Un(fs ex:QXQ)(H H':Hp)(h h':No):Prop where
 keep:∀b o,h.get? b=ga o->H b=Fa->b∉fs->b∉ex->h'.get? b=ga o
 slot:∀b o,h.get? b=ga o->H b=Fa->b∈fs->b∉ex->∃sl,h'.get? b=ga {o with slots:=sl}
 free:∀b o,h.get? b=ga o->H b=Fa->b∉ex->H' b=Fa
 there:∀b o,h.get? b=ga o->b∉ex->∃o',h'.get? b=ga o'
 nE:∀b xs,H b=ga (.tup xs)->H' b=ga (.tup xs)
 ny:∀b o u,H b=ga (.frz o u)->H' b=ga (.frz o u)
 nJ:∀b ps,H b=ga (.tbl ps)->∃more,H' b=ga (.tbl (ps++more))
variable {ex ex':QXQ}{H1 H2:Hp}{h1 h2:No}
section
variable {fs fs':QXQ}{a x e:Uf}{o:HO}
def Un.any(u:Un fs ex H H1 h h1){b:Uf}{ob:Obj}(q:h.get? b=ga ob)(n:H b=Fa)(hx:b∉ex):∃sl,h1.get? b=ga {ob with slots:=sl}:=by
 by_cases hb:b∈fs
 .exact u.slot b ob q n hb hx
 .exact⟨ob.slots,u.keep b ob q n hb hx⟩
def Un.trans(a:Un fs ex H H1 h h1)(b:Un fs ex H1 H2 h1 h2):Un fs ex H H2 h h2 where
 keep:=λc ob q n hc hx=>b.keep c ob (a.keep c ob q n hc hx) (a.free c ob q n hx) hc hx
 slot:=λc ob q n hc hx=>by obtain⟨sl,e1⟩:=a.slot c ob q n hc hx;obtain⟨Zk,e2⟩:=b.slot c _ e1 (a.free c ob q n hx) hc hx;exact⟨Zk,e2⟩
 free:=λc ob q n hx=>by obtain⟨o',e1⟩:=a.there c ob q hx;exact b.free c o' e1 (a.free c ob q n hx) hx
 there:=λc ob q hx=>by obtain⟨o',e1⟩:=a.there c ob q hx;exact b.there c o' e1 hx
 nE:=λc xs q=>b.nE c xs (a.nE c xs q)
 ny:=λc ob xs q=>b.ny c ob xs (a.ny c ob xs q)
 nJ:=λc ps q=>by obtain⟨m1,e1⟩:=a.nJ c ps q;obtain⟨m2,e2⟩:=b.nJ c _ e1;exact⟨m1++m2,by rw[e2,kQ]⟩
def Un.kept(k:∀b u,h.get? b=ga u->h'.get? b=ga u):Un fs ex H H h h':=
 ⟨λb ob q _ _ _=>k b ob q,λb ob q _ _ _=>⟨ob.slots,k b ob q⟩,λ_ _ _ n _=>n,λb ob q _=>⟨ob,k b ob q⟩,λ_ _ q=>q,λ_ _ _ q=>q,λ_ ps q=>⟨#[],by rw[q];simp⟩⟩
def Un.refl:Un fs ex H H h h:=Un.kept λ_ _ q=>q
def Un.laid(k:∀b u,h.get? b=ga u->h'.get? b=ga u)(hp:h.objs.size<=a)(hn:H a=Fa):Un fs ex H (upd H a o) h h' where
 keep:=λb u q _ _ _=>k b u q
 slot:=λb u q _ _ _=>⟨u.slots,k b u q⟩
 free:=λb u q n _=>by rw[qd (dW (dR (dG q) hp))];exact n
 there:=λb u q _=>⟨u,k b u q⟩
 nE:=λb xs q=>by rw[qd (qX q hn)];exact q
 ny:=λb u xs q=>by rw[qd (qX q hn)];exact q
 nJ:=λb ps q=>⟨#[],by rw[qd (qX q hn),q];simp⟩
def Un.write(mu:VS (H x))(he:e=x\/H e=ga (.own x))(k:∀b u,b≠e->h.get? b=ga u->h'.get? b=ga u)(heo:∃u,h'.get? e=ga u):Un fs ex H (upd H x o) h h':=by
 have hx:∀b,H b=Fa->b≠x:=λb n z=>by subst z;rw[n]at mu;exact mu
 have hb:∀b,H b=Fa->b≠e:=λb n z=>by
  subst z;rcases he with r|r
  .exact hx b n r
  .rw[n]at r;cases r
 have hm:∀b u,H b=ga u->¬VS (ga u)->b≠x:=λb u q nm z=>by subst z;rw[q]at mu;exact nm mu
 refine⟨λb u q n _ _=>k b u (hb b n) q,λb u q n _ _=>⟨u.slots,k b u (hb b n) q⟩,λb u q n _=>by rw[qd (hx b n)];exact n,λb u q _=>?_,λb xs q=>by rw[qd (hm b _ q λz=>z)];exact q,λb u xs q=>by rw[qd (hm b _ q λz=>z)];exact q,λb ps q=>⟨#[],by rw[qd (hm b _ q λz=>z),q];simp⟩⟩
 by_cases hbe:b=e
 .subst hbe;exact heo
 .exact⟨u,k b u hbe q⟩
end
noncomputable def Wc(h:No)(H:Hp):QXQ:=(List.range h.objs.size).filter λa=>(H a).isSome
noncomputable def EF(h:No)(H:Hp):No:=W.hideAll h (Wc h H)
def Ku(h:No)(H:Hp):(EF h H).objs.size=h.objs.size:=W.hideAll_size _ _
def Ly{h:No}{H:Hp}{b:Uf}{o:Obj}(e:h.get? b=ga o)(n:H b=Fa):(EF h H).get? b=ga o:=
 W.hideAll_get _ e λhm=>by have q:(H b).isSome=Db:=(fH.mp hm).2;rw[n]at q;simp at q
def Pn{b:Uf}{o:Obj}(e:(EF h H).get? b=ga o):h.get? b=ga o/\H b=Fa:=by
 have e':h.get? b=ga o:=W.of_hideAll (Wc h H) e;refine⟨e',?_⟩;cases q:H b with
 | none=>rfl
 | some x=>have hm:b∈Wc h H:=fH.mpr ⟨gF.mpr (dG e'),by simp[q]⟩;have z:(EF h H).get? b=Fa:=W.hideAll_none (Wc h H) hm;rw[z]at e;cases e
structure Mod(K:qy)(mg:QQZ)(base:No):Prop where
 oo:K.In base
 glob:base.Ns At mg
 blt:∃mb,base.Ns builtinsNs mb/\∀x:Str,x≠"__name__"->mb x=zn x
 nolimit:base.NoLimit
structure Cx where
 prog:Pg
 w:Wo
 K:qy
 mg:QQZ
 base:No
 A:Ar
 N:QQQ
 s₀:Sd
 H₀:Hp
 env:Env
 outer:List Env
 stack:List Env
 ex:QXQ
 fn:Str->Bool
 calm:Bool
 pn:QQY
 xe:QQX
abbrev By(X:Cx)(e:Go)(es:T0 Go):Prop:=Tl (e::es) X.env=(pc,wp e X.env)::Tl es X.env
abbrev C6(X:Cx)(p:Pos)(es:T0 Go):Prop:=(xz p (Tl es X.env)).any (·.1)=pc
abbrev zu(x:Str):Prop:=(x==("__debug__":Str))=pc
abbrev Lk(X:Cx)(x:Str):Prop:=X.fn x=Db\/X.env.scope.names.lookup x=ga .local
noncomputable def ww(l:T0 Env):QXQ:=l.filterMap (·.frame)
abbrev Cx.fs(X:Cx):QXQ:=ww X.outer
def U7(sc:XXb)(x:Str):Prop:=sc.names.lookup x=ga .local\/sc.names.lookup x=ga .cell\/sc.names.lookup x=ga .free
def Ll(sc:XXb)(x:Str):Prop:=sc.names.lookup x=ga .local\/sc.names.lookup x=ga .cell
def Xb(env:Env)(h:No)(m:QQZ)(x:Str)(u:Vl):Prop:=
 (env.kindOf x=ga .local/\m x=ga u)\/((env.kindOf x=ga .cell\/env.kindOf x=ga .free)/\∃c,env.cells.lookup x=ga c/\h.IsCell c (ga u))
structure Cx.Ok(X:Cx):Prop where
 mod:Mod X.K X.mg X.base
 kind:X.env.scope.kind=.function
 glob:X.env.globals=At
 blt:X.env.builtins=builtinsNs
 above:X.s₀.heap.objs.size<=X.env.locals
 inj:∀x y c,X.env.cells.lookup x=ga c->X.env.cells.lookup y=ga c->x=y
 has:∀x,(X.env.kindOf x=ga .cell\/X.env.kindOf x=ga .free)->∃c,X.env.cells.lookup x=ga c
 oz:∀x c,X.fn x=Db->X.env.cells.lookup x=ga c->X.s₀.heap.objs.size<=c
 hd:X.calm=Db->X.A.handled=Fa
 frames:X.A.frames=ga X.stack
 oM:X.stack=X.outer\/(X.stack=X.env::X.outer/\X.env.frame=ga X.env.locals)
 pb:∀b∈X.ex,b≠X.env.locals/\∀x c,X.env.cells.lookup x=ga c->c≠b
 bs:∀b o,X.base.get? b=ga o->X.s₀.heap.get? b=ga o/\X.H₀ b=Fa
 nY:X.base.objs.size<=X.s₀.heap.objs.size
 nL:∀b o,X.base.get? b=ga o->b∉X.ex
 nU:∀b∈X.ex,b∉X.fs
 nA:X.s₀.heap.FunFrames X.base X.outer
 oq:∀b∈X.fs,X.H₀ b=Fa
structure Inv(X:Cx)(XU:QQY)(Y:List (Option V))(H:Hp)(s:Sd):Prop where
 ok:X.Ok
 os:s.os=X.s₀.os
 bare:XXk s.gens
 base:Un X.fs X.ex X.H₀ H X.s₀.heap s.heap
 loc:∃m,s.heap.Ns X.env.locals m/\∀(i:Nat) (x:Str) (v:V),X.N[i]?=ga x->Y[i]?=ga (ga v)->U7 X.env.scope x->∃u,qM v u/\Xb X.env s.heap m x u
 cell:∀x c,X.env.cells.lookup x=ga c->∃v,s.heap.IsCell c v
 free:H X.env.locals=Fa
 mW:∀x c,X.env.cells.lookup x=ga c->H c=Fa
 pin:∀p∈X.pn++XU,s.heap.get? p.1=ga p.2/\H p.1=Fa/\p.1≠X.env.locals/\p.1∉X.fs/\∀v,p.2.data≠.cell v
 mR:yL X.prog X.w H s.heap
 len:Y.length=X.N.length
variable {X:Cx}{XU:T0 (Uf × Obj)}{s:Sd}
section
variable {Y:T0 (Option V)}
def Cx.Ok.nofr(ok:X.Ok){b:Uf}{o:Obj}(e:X.base.get? b=ga o):b∉X.fs:=λhb=>by have:=(ok.nA.mem hb).1;rw[e]at this;cases this
def Inv.bs(I:Inv X XU Y H s):∀b o,X.base.get? b=ga o->s.heap.get? b=ga o/\H b=Fa:=λb o e=>⟨I.base.keep b o (I.ok.bs b o e).1 (I.ok.bs b o e).2 (I.ok.nofr e) (I.ok.nL b o e),I.base.free b o (I.ok.bs b o e).1 (I.ok.bs b o e).2 (I.ok.nL b o e)⟩
def Inv.bk(I:Inv X XU Y H s):∀b o,X.base.get? b=ga o->s.heap.get? b=ga o:=λb o e=>(I.bs b o e).1
def Inv.mod(I:Inv X XU Y H s):Mod X.K X.mg X.base:=I.ok.mod
def Inv.m7(I:Inv X XU Y H s):X.K.In s.heap:=I.ok.mod.oo.keeps I.bk
def Inv.lt(I:Inv X XU Y H s):X.env.locals<s.heap.objs.size:=let⟨_,hn,_⟩:=I.loc;hn.lt
def Inv.sz(I:Inv X XU Y H s):X.s₀.heap.objs.size<=s.heap.objs.size:=d9 I.ok.above (kS I.lt)
def Inv.oY(I:Inv X XU Y H s){a:Uf}(h:s.heap.objs.size<=a):a∉X.fs:=λhb=>by obtain⟨_,o,ho,_⟩:=I.ok.nA.mem hb;exact absurd (dR (dG ho) (d9 I.sz h)) (eZ _)
def Inv.pk(I:Inv X XU Y H s):∀x c,X.env.cells.lookup x=ga c->c≠X.env.locals:=λx c e z=>by obtain⟨v,o,ho,hd⟩:=I.cell x c e;obtain⟨m,⟨o',es,ep,Yz,hd',_⟩,_⟩:=I.loc;rw[z,Yz]at ho;cases ho;rw[hd']at hd;cases hd
def Inv.nA(I:Inv X XU Y H s):s.heap.FunFrames X.base X.outer:=by
 have all:∀(l:T0 Env),(∀b∈ww l,b∈X.fs)->X.s₀.heap.FunFrames X.base l->s.heap.FunFrames X.base l:=by
  intro l;induction l with
  | nil=>intro _ _;trivial
  | cons env r ih=>intro hs hl;obtain⟨hk,⟨L,o,hf,hn,ho,hd⟩,hr⟩:=hl;have hL:L∈X.fs:=hs L (by unfold ww;rw[gh,hf];exact dP);obtain⟨sl,e⟩:=I.base.slot L o ho (I.ok.oq L hL) hL λz=>I.ok.nU L z hL;exact⟨hk,⟨L,_,hf,hn,e,hd⟩,ih (λb hb=>hs b (by unfold ww;rw[gh,hf];exact dH _ hb)) hr⟩
 exact all X.outer (λ_ hb=>hb) I.ok.nA
def Inv.stack(I:Inv X XU Y H s):s.heap.FunFrames X.base X.stack:=by
 rcases I.ok.oM with e|⟨e,hf⟩
 .rw[e];exact I.nA
 .rw[e];obtain⟨m,hn,_⟩:=I.loc;refine .cons (by rw[I.ok.kind];decide) hf hn ?_ I.nA;exact gP (d9 I.ok.nY I.ok.above)
def Inv.nz(I:Inv X XU Y H s):∀b∈ww X.stack,b∈X.env.locals::X.fs:=λb hb=>by
 rcases I.ok.oM with e|⟨e,hf⟩
 .rw[e]at hb;exact dH _ hb
 .rw[e]at hb;unfold ww at hb;rw[gh,hf]at hb;exact hb
def Inv.nG(I:Inv X XU Y H s):∀b∈ww X.stack,H b=Fa:=λb hb=>by
 rcases dC.mp (I.nz b hb)with e|hb
 .rw[e];exact I.free
 .obtain⟨_,o,ho,_⟩:=I.ok.nA.mem hb;exact I.base.free b o ho (I.ok.oq b hb) λz=>I.ok.nU b z hb
def Inv.step{g':Array GenState}{t':Nat}{d':Drawn}{ch:QXQ}(I:Inv X XU Y H s) (YT:∀b∈ch,(b∈X.ex\/X.s₀.heap.objs.size<=b)/\b≠X.env.locals/\(∀x c,X.env.cells.lookup x=ga c->c≠b)/\∀p∈X.pn++XU,p.1≠b) (keep:∀b o,b≠X.env.locals->b∉X.fs->b∉ch->s.heap.get? b=ga o->H b=Fa->h'.get? b=ga o) (slot:∀b o,b≠X.env.locals->b∈X.fs->b∉ch->s.heap.get? b=ga o->H b=Fa->∃sl,h'.get? b=ga {o with slots:=sl}) (free:∀b o,b∉ch->s.heap.get? b=ga o->H b=Fa->H' b=Fa)
  (there:∀b o,b∉ch->s.heap.get? b=ga o->∃o',h'.get? b=ga o')
  (nE:∀b xs,H b=ga (.tup xs)->H' b=ga (.tup xs)) (ny:∀b o u,H b=ga (.frz o u)->H' b=ga (.frz o u)) (nJ:∀b ps,H b=ga (.tbl ps)->∃more,H' b=ga (.tbl (ps++more)))
  (ns:∀m,s.heap.Ns X.env.locals m->h'.Ns X.env.locals m) (mR:yL X.prog X.w H' h') (hg:XXk g'):
  Inv X XU Y H' {s with heap:=h',gens:=g',drawn:=d',toks:=t'}:=by
 have neL:∀b o,X.s₀.heap.get? b=ga o->b≠X.env.locals:=λb o e=>dW (dR (dG e) I.ok.above);have neC:∀b o,X.s₀.heap.get? b=ga o->b∉X.ex->b∉ch:=λb o e hx hb=>by
  rcases(YT b hb).1 with z|z
  .exact hx z
  .exact absurd (dR (dG e) z) (eZ _)
 have cellK:∀x c,X.env.cells.lookup x=ga c->∀v,s.heap.IsCell c v->h'.IsCell c v:=λx c e v ⟨o,ho,hd⟩=>by
  have nch:c∉ch:=λz=>(YT c z).2.2.1 x c e Z';by_cases hc:c∈X.fs
  .obtain⟨sl,q⟩:=slot c o (I.pk x c e) hc nch ho (I.mW x c e);exact⟨_,q,hd⟩
  .exact⟨o,keep c o (I.pk x c e) hc nch ho (I.mW x c e),hd⟩
 refine⟨I.ok,I.os,hg,⟨λb o e n hb hx=>?_,λb o e n hb hx=>?_,λb o e n hx=>?_,λb o e hx=>?_,λb xs e=>nE b xs (I.base.nE b xs e),λb o xs e=>ny b o xs (I.base.ny b o xs e),λb ps e=>?_⟩,?_,λx c e=>?_,?_,λx c e=>?_,λp hp=>?_,mR,I.len⟩
 .exact keep b o (neL b o e) hb (neC b o e hx) (I.base.keep b o e n hb hx) (I.base.free b o e n hx)
 .obtain⟨sl,e1⟩:=I.base.slot b o e n hb hx;obtain⟨Zk,e2⟩:=slot b _ (neL b o e) hb (neC b o e hx) e1 (I.base.free b o e n hx);exact⟨Zk,e2⟩
 .obtain⟨o',e1⟩:=I.base.there b o e hx;exact free b o' (neC b o e hx) e1 (I.base.free b o e n hx)
 .obtain⟨o',e1⟩:=I.base.there b o e hx;exact there b o' (neC b o e hx) e1
 .obtain⟨m1,e1⟩:=I.base.nJ b ps e;obtain⟨m2,e2⟩:=nJ b _ e1;exact⟨m1++m2,by rw[e2,kQ]⟩
 .obtain⟨m,hn,hl⟩:=I.loc;refine⟨m,ns m hn,λi x v e1 e2 e3=>?_⟩;obtain⟨u,r,l⟩:=hl i x v e1 e2 e3;refine⟨u,r,?_⟩;rcases l with l|⟨k,c,e,z⟩
  .exact .inl l
  .exact .inr ⟨k,c,e,cellK x c e _ z⟩
 .obtain⟨v,z⟩:=I.cell x c e;exact⟨v,cellK x c e v z⟩
 .obtain⟨m,⟨o,_,_,ho,_⟩,_⟩:=I.loc;exact free _ o (λz=>(YT _ z).2.1 Z') ho I.free
 .obtain⟨v,o,ho,hd⟩:=I.cell x c e;exact free c o (λz=>(YT c z).2.2.1 x c e Z') ho (I.mW x c e)
 .obtain⟨e,n,ne,nf,d⟩:=I.pin p hp;have nch:p.1∉ch:=λz=>(YT p.1 z).2.2.2 p hp Z';exact⟨keep p.1 p.2 ne nf nch e n,free p.1 p.2 nch e n,ne,nf,d⟩
def Inv.un{t':Nat}(I:Inv X XU Y H s)(u:Un X.fs [] H H' s.heap h')(mR:yL X.prog X.w H' h'):Inv X XU Y H' {s with heap:=h',toks:=t'}:=by
 obtain⟨m,⟨o,es,ep,ho,r⟩,_⟩:=id I.loc;obtain⟨sl,hL⟩:=u.any ho I.free (by simp);exact I.step (g':=s.gens) (d':=s.drawn) (ch:=[]) (λ_ z=>nomatch z) (λb o _ hb _ e n=>u.keep b o e n hb (by simp)) (λb o _ hb _ e n=>u.slot b o e n hb (by simp)) (λb o _ e n=>u.free b o e n (by simp)) (λb o _ e=>u.there b o e (by simp)) u.nE u.ny u.nJ (λm' hm=>by
  obtain⟨o',es',ep',Yz,r'⟩:=hm;rw[ho]at Yz;cases Yz;exact⟨_,es',ep',hL,r'⟩) mR I.bare
def Inv.call{t':Nat}{d':Drawn}(I:Inv X XU Y H s)(u:Un (ww X.stack) ch H H' s.heap h')(mR:yL X.prog X.w H' h')(hg:XXk g') (YT:∀b∈ch,(b∈X.ex\/X.s₀.heap.objs.size<=b)/\b≠X.env.locals/\(∀x c,X.env.cells.lookup x=ga c->c≠b)/\∀p∈X.pn++XU,p.1≠b):
  Inv X XU Y H' {s with heap:=h',gens:=g',drawn:=d',toks:=t'}:=by
 obtain⟨m,⟨o,es,ep,ho,r⟩,_⟩:=id I.loc;obtain⟨sl,hL⟩:=u.any ho I.free λz=>(YT _ z).2.1 Z';exact I.step (ch:=ch) YT (λb o hL hb hc e n=>u.keep b o e n (λz=>(dC.mp (I.nz b z)).elim hL hb) hc) (λb o _ _ hc e n=>u.any e n hc) (λb o hc e n=>u.free b o e n hc) (λb o hc e=>u.there b o e hc) u.nE u.ny u.nJ (λm' hm=>by
  obtain⟨o',es',ep',Yz,r'⟩:=hm;rw[ho]at Yz;cases Yz;exact⟨_,es',ep',hL,r'⟩) mR hg
def Inv.turned{t':Nat}{it:Uf}(I:Inv X XU Y H s)(k:∀b o,b≠it->s.heap.get? b=ga o->h'.get? b=ga o)(hn:H it=Fa)(hL:it≠X.env.locals) (h1:it∈X.ex\/X.s₀.heap.objs.size<=it) (h2:∀x c,X.env.cells.lookup x=ga c->c≠it) (h3:∀p∈X.pn++XU,p.1≠it):Inv X XU Y H {s with heap:=h',toks:=t'}:=by
 have nit:∀b u,H b=ga u->b≠it:=λb u e z=>by rw[z,hn]at e;cases e
 refine I.step (g':=s.gens) (d':=s.drawn) (ch:=[it]) (λb hb=>?_) (λb o _ _ hc e _=>k b o (λz=>hc (by simp[z])) e) (λb o _ _ hc e _=>⟨o.slots,k b o (λz=>hc (by simp[z])) e⟩) (λ_ _ _ _ n=>n)
  (λb o hc e=>⟨o,k b o (λz=>hc (by simp[z])) e⟩) (λ_ _ e=>e) (λ_ _ _ e=>e) (λb ps e=>⟨#[],by rw[e];simp⟩) (λm hm=>?_) (λb u e=>?_) I.bare
 .have e:b=it:=by simpa using hb
  subst e;exact⟨h1,hL,h2,h3⟩
 .obtain⟨o,es,ep,ho,r⟩:=hm;exact⟨o,es,ep,k _ o (dZ hL) ho,r⟩
 .refine(I.mR b u e).nF (λc v hc q=>k c v ?_ q) (λ_ q=>q) λ_ _ q=>q;rcases hc with z|z
  .rw[z];exact nit b u e
  .exact nit c _ z
def Inv.tok(I:Inv X XU Y H s)(t:Nat):Inv X XU Y H {s with toks:=t}:=I.un (h':=s.heap) (t':=t) Un.refl I.mR
def Inv.kept{t':Nat}(I:Inv X XU Y H s)(k:∀b u,s.heap.get? b=ga u->h'.get? b=ga u):Inv X XU Y H {s with heap:=h',toks:=t'}:=I.un (Un.kept k) (I.mR.kept k)
def Inv.laid{a:Uf}{t':Nat}(I:Inv X XU Y H s)(k:∀b u,s.heap.get? b=ga u->h'.get? b=ga u)(hp:s.heap.objs.size<=a)(new:sC X.prog X.w (upd H a o) h' a o):
  Inv X XU Y (upd H a o) {s with heap:=h',toks:=t'}:=I.un (Un.laid k hp (I.mR.fresh hp)) (I.mR.laid k hp new)
def Inv.write{x e:Uf}{t':Nat}(I:Inv X XU Y H s)(mu:VS (H x))(he:e=x\/H e=ga (.own x))(k:∀b u,b≠e->s.heap.get? b=ga u->h'.get? b=ga u)(heo:∃u,h'.get? e=ga u) (new:sC X.prog X.w (upd H x o) h' x o):Inv X XU Y (upd H x o) {s with heap:=h',toks:=t'}:=I.un (Un.write mu he k heo) (I.mR.write mu he k heo new)
def Inv.nM{YU:QQY}(I:Inv X XU Y H s)(h:∀p∈YU,s.heap.get? p.1=ga p.2/\H p.1=Fa/\p.1≠X.env.locals/\p.1∉X.fs/\∀v,p.2.data≠.cell v):Inv X YU Y H s:=
 ⟨I.ok,I.os,I.bare,I.base,I.loc,I.cell,I.free,I.mW,λp hp=>(dX.mp hp).elim (λz=>I.pin p (fJ _ z)) (h p),I.mR,I.len⟩
def Hq{N:QQQ}(hN:N.Nodup){i j:Nat}{x:Str}(a:N[i]?=ga x)(b:N[j]?=ga x):i=j:=by obtain⟨h1,e1⟩:=c9.mp a;obtain⟨h2,e2⟩:=c9.mp b;exact(lH hN).mp (e1.trans e2.symm)
def Ew{M:Model}{A:Ar}{E:QQX}{i:Nat}{x:Str}{Q:Unit->Sd->Prop}(I:Inv X XU Y H s)(hN:X.N.Nodup)(hi:X.N[i]?=ga x)(hx:Ll X.env.scope x)(r:qM v u) (h:∀s',Inv X XU (Y.set i (ga v)) H s'->(∃a,Heap.SameBut a s.heap s'.heap/\(a=X.env.locals\/X.env.cells.lookup x=ga a))->Q () s') (hf:Lk X x:=by first|exact .inl Z'|exact .inr Z'|assumption):pi M A (storeName X.env x u) Q E s:=by
 obtain⟨m,hn,hl⟩:=id I.loc;have hcls:(X.env.scope.kind==.class||(X.env.scope.kind==.module&&X.env.locals != X.env.globals))=pc:=by rw[I.ok.kind];rfl
 have hiσ:i<Y.length:=by rw[I.len];exact(c9.mp hi).1
 have pk:=I.pk;have Ya:∀{a:Uf} {h':No},(∃o,s.heap.get? a=ga o/\H a=Fa)->Heap.SameBut a s.heap h'->yL X.prog X.w H h':=λ{a h'} ha hs b ob e=>by
  obtain⟨_,_,YF⟩:=ha;refine(I.mR b ob e).nF (λc w' hc q=>(hs.2 c ?_).trans q) (λ_ q=>q) λ_ _ q=>q
  rintro rfl
  rcases hc with rfl|hc
  .rw[YF]at e;cases e
  .rw[YF]at hc;cases hc
 rcases hx with hk|hk
 .refine wpAny_storeName_local hk hn (λh' ZQ hs=>?_) hcls;obtain⟨oL,_,_,hoL,_⟩:=id hn;refine h _ ⟨I.ok,I.os,I.bare,⟨λb o e n hb hx=>?_,λb o e n hb hx=>?_,I.base.free,λb o e hx=>?_,I.base.nE,I.base.ny,I.base.nJ⟩,⟨_,ZQ,λj y v' e1 e2 e3=>?_⟩,λy c e=>?_,I.free,I.mW,λp hp=>?_,Ya ⟨oL,hoL,I.free⟩ hs,by simpa using I.len⟩ ⟨_,hs,.inl Z'⟩
  .exact(hs.2 b (dW (dR (dG e) I.ok.above))).trans (I.base.keep b o e n hb hx)
  .obtain⟨sl,e1⟩:=I.base.slot b o e n hb hx;exact⟨sl,(hs.2 b (dW (dR (dG e) I.ok.above))).trans e1⟩
  .obtain⟨o',e1⟩:=I.base.there b o e hx;exact⟨o',(hs.2 b (dW (dR (dG e) I.ok.above))).trans e1⟩
  .by_cases hj:j=i
   .subst hj;rw[hi]at e1;cases e1;rw[fC hiσ]at e2;cases e2;exact⟨u,r,.inl ⟨hk,by simp⟩⟩
   .rw[fB (dZ hj)]at e2;obtain⟨u',r',q⟩:=hl j y v' e1 e2 e3;refine⟨u',r',?_⟩;rcases q with⟨k,e⟩|⟨k,c,e,z⟩
    .refine .inl ⟨k,?_⟩;have:y≠x:=λe=>hj (Hq hN e1 (e ▸ hi));simp[this,e]
    .exact .inr ⟨k,c,e,z.sameBut hs (pk y c e)⟩
  .obtain⟨w',z⟩:=I.cell y c e;exact⟨w',z.sameBut hs (pk y c e)⟩
  .obtain⟨e,n,ne,nf,d⟩:=I.pin p hp;exact⟨(hs.2 p.1 ne).trans e,n,ne,nf,d⟩
 .have hfn:X.fn x=Db:=by
   rcases hf with z|z
   .exact z
   .rw[z]at hk;cases hk
  obtain⟨c,hc⟩:=I.ok.has x (.inl hk);obtain⟨w',z⟩:=I.cell x c hc;refine wpAny_storeName_cell I.ok.kind hk hc z (λh' hc' hs=>?_);obtain⟨oc,hoc,hocd⟩:=id z;refine h {s with heap:=h'} ⟨I.ok,I.os,I.bare,⟨λb o e n hb hx=>?_,λb o e n hb hx=>?_,I.base.free,λb o e hx=>?_,I.base.nE,I.base.ny,I.base.nJ⟩,⟨m,hn.sameBut hs (dZ (pk x c hc)),λj y v' e1 e2 e3=>?_⟩,λy c' e=>?_,I.free,I.mW,λp hp=>?_,Ya ⟨oc,hoc,I.mW x c hc⟩ hs,by simpa using I.len⟩ ⟨c,hs,.inr hc⟩
  .exact(hs.2 b (dW (dR (dG e) (I.ok.oz x c hfn hc)))).trans (I.base.keep b o e n hb hx)
  .obtain⟨sl,e1⟩:=I.base.slot b o e n hb hx;exact⟨sl,(hs.2 b (dW (dR (dG e) (I.ok.oz x c hfn hc)))).trans e1⟩
  .obtain⟨o',e1⟩:=I.base.there b o e hx;exact⟨o',(hs.2 b (dW (dR (dG e) (I.ok.oz x c hfn hc)))).trans e1⟩
  .by_cases hj:j=i
   .subst hj;rw[hi]at e1;cases e1;rw[fC hiσ]at e2;cases e2;exact⟨u,r,.inr ⟨.inl hk,c,hc,hc'⟩⟩
   .rw[fB (dZ hj)]at e2;obtain⟨u',r',q⟩:=hl j y v' e1 e2 e3;refine⟨u',r',?_⟩;rcases q with q|⟨k,c',e,z'⟩
    .exact .inl q
    .refine .inr ⟨k,c',e,z'.sameBut hs ?_⟩
     rintro rfl
     exact hj (Hq hN e1 (I.ok.inj _ _ _ e hc ▸ hi))
  .by_cases hcc:c'=c
   .subst hcc;exact⟨_,hc'⟩
   .obtain⟨w2,z2⟩:=I.cell y c' e;exact⟨w2,z2.sameBut hs hcc⟩
  .obtain⟨e,n,ne,nf,d⟩:=I.pin p hp;refine⟨(hs.2 p.1 ?_).trans e,n,ne,nf,d⟩;intro q;rw[q,hoc]at e;have q':oc=p.2:=dw e;exact d w' (by rw[<-q'];exact hocd)
def Ck{M:Model}{A:Ar}{E:QQX}{i:Nat}{x:Str}{Q:Unit->Sd->Prop}(I:Inv X XU Y H s)(hN:X.N.Nodup)(hi:X.N[i]?=ga x)(hx:Ll X.env.scope x)(r:qM v u) (h:∀s',Inv X XU (Y.set i (ga v)) H s'->Q () s') (hf:Lk X x:=by first|exact .inl Z'|exact .inr Z'|assumption):pi M A (storeName X.env x u) Q E s:=
 Ew I hN hi hx r (λs' I' _=>h s' I') hf
def Inv.oS{s':Sd}(I:Inv X XU Y H s)(ho:s'.os=s.os)(u:Un (ww X.stack) ch H H' s.heap s'.heap)(mR:yL X.prog X.w H' s'.heap)(hg:XXk s'.gens) (YT:∀b∈ch,(b∈X.ex\/X.s₀.heap.objs.size<=b)/\b≠X.env.locals/\(∀x c,X.env.cells.lookup x=ga c->c≠b)/\∀p∈X.pn++XU,p.1≠b):Inv X XU Y H' s':=by
 obtain⟨h',g',d',t',o'⟩:=s';have e:o'=s.os:=ho;subst e;exact I.call (g':=g') (t':=t') (d':=d') u mR hg YT
end
abbrev XK:=Vl->Option Uf->Hp->Prop
abbrev St:=T0 (Option V)
abbrev VK:=V->Hp->Prop
abbrev TE:=St->Hp->VK->Prop
abbrev TT:=St->Hp->(Bool->Hp->Prop)->Prop
abbrev TA:=St->Hp->(T0 V->Hp->Prop)->Prop
structure Fc where
 nx:St->Hp->Prop
 rt:VK
 bk:St->Hp->Prop:=λ_ _=>False
 ct:St->Hp->Prop:=λ_ _=>False
abbrev TS:=Fc->St->Hp->Prop
def EP(X:Cx)(XU:QQY)(Y:St)(Q:VK)(u:Vl)(s':Sd):Prop:=∃v H',Inv X XU Y H' s'/\qM v u/\Q v H'
def TP(X:Cx)(XU:QQY)(Y:St)(Q:Bool->Hp->Prop)(b:Bool)(s':Sd):Prop:=∃H',Inv X XU Y H' s'/\Q b H'
def AP(X:Cx)(XU:QQY)(Y:St)(Q:T0 V->Hp->Prop)(us:T0 Vl)(s':Sd):Prop:=∃vs H',Inv X XU Y H' s'/\qA vs us/\Q vs H'
def SP(X:Cx)(XU:QQY)(D:Fc)(f:Flow)(s':Sd):Prop:=
 match f with
 | .next=>∃σ' H',Inv X XU σ' H' s'/\D.nx σ' H'
 | .brk=>∃σ' H',Inv X XU σ' H' s'/\D.bk σ' H'
 | .cont=>∃σ' H',Inv X XU σ' H' s'/\D.ct σ' H'
 | .ret u=>∃v σ' H',Inv X XU σ' H' s'/\qM v u/\D.rt v H'
def PE(X:Cx)(e:Go)(t:TE):Prop:=
 ∀(XU:QQY) (s:Sd) (Y:St) (H:Hp) (Q:VK),Inv X XU Y H s->t Y H Q->pi (Tk X.prog X.w) X.A (wp e X.env) (EP X XU Y Q) X.xe s
def PT(X:Cx)(e:Go)(t:TT):Prop:=
 ∀(XU:QQY) (s:Sd) (Y:St) (H:Hp) (Q:Bool->Hp->Prop),Inv X XU Y H s->t Y H Q->pi (Tk X.prog X.w) X.A (isTrue e X.env (wp e X.env)) (TP X XU Y Q) X.xe s
def PW(X:Cx)(e:Go)(t:TT):Prop:=
 ∀(Ys:Sem Vl) (XU:QQY) (s:Sd) (Y:St) (H:Hp) (Q:Bool->Hp->Prop),Inv X XU Y H s->t Y H Q->pi (Tk X.prog X.w) X.A (isTrue e X.env Ys) (TP X XU Y Q) X.xe s
def PW.pt(h:PW X e t):PT X e t:=h _
def PA(X:Cx)(es:T0 Go)(t:TA):Prop:=
 ∀(pos:Pos) (XU:QQY) (s:Sd) (Y:St) (H:Hp) (Q:T0 V->Hp->Prop),Inv X XU Y H s->t Y H Q->pi (Tk X.prog X.w) X.A (spliced (xz pos (Tl es X.env))) (AP X XU Y Q) X.xe s
def PS(X:Cx)(st:TD)(t:TS):Prop:=
 ∀(XU:QQY) (s:Sd) (Y:St) (H:Hp) (D:Fc),Inv X XU Y H s->t D Y H->pi (Tk X.prog X.w) X.A (exec st X.env) (SP X XU D) X.xe s
def Cb(X:Cx)(st:T0 TD)(t:TS):Prop:=
 ∀(XU:QQY) (s:Sd) (Y:St) (H:Hp) (D:Fc),Inv X XU Y H s->t D Y H->pi (Tk X.prog X.w) X.A (execs st X.env) (SP X XU D) X.xe s
def sf{α:Type}{t:Sem α}{Q Q':α->Sd->Prop}{M:Model}{A:Ar}{E:QQX}{s:Sd}(h:pi M A t Q E s)(hQ:∀a s,Q a s->Q' a s):pi M A t Q' E s:=eE h hQ λ_ _ x=>x
variable {tA tB':TT}{ta tb:TE}{pos:Pos}
section
def Ik(i:Nat):TE:=λY H Q=>∃v,Y[i]?=ga (ga v)/\Q v H
def tC(v:V):TE:=λ_ H Q=>Q v H
def SC{i:Nat}{x:Str}(hN:X.N[i]?=ga x)(hv:U7 X.env.scope x)(hd:zu x:=by decide)(Y8:(x==("__classdict__":Str))=pc:=by decide):PE X (.Name x pos) (Ik i):=by
 intro XU s Y H Q I h;obtain⟨v,e,h⟩:=h;obtain⟨m,hn,hl⟩:=I.loc;obtain⟨u,r,l⟩:=hl i x v hN e hv;have X0:EP X XU Y Q u s:=⟨v,H,I,r,h⟩;rcases l with⟨hk,hm⟩|⟨hk,c,hc,hcell⟩
 .exact lV (wpAny_loadName_local I.ok.kind hk hn hm X0) hd
 .rcases hk with hk|hk
  .exact lV (wpAny_loadName_cell I.ok.kind hk hc hcell X0) hd
  .exact lV (wpAny_loadName_free I.ok.kind hk hc hcell X0 Y8) hd
def To{i j pos}:PE X (.Constant (.int i) j pos) (tC (.int i)):=λ_ _ _ H _ I h=>wpAny_Constant_int ⟨.int i,H,I.tok _,⟨_,Z'⟩,h⟩
def Vk{b j pos}:PE X (.Constant (.bool b) j pos) (tC (.bl b)):=λ_ _ _ H _ I h=>Constant_bool ⟨.bl b,H,I,Z',h⟩
def Sg{j pos}:PE X (.Constant .none j pos) (tC .mK):=λ_ _ _ H _ I h=>Constant_none ⟨.mK,H,I,Z',h⟩
def RN{x j pos}:PE X (.Constant (.str x) j pos) (tC (.str x)):=λ_ _ _ H _ I h=>Calls.Constant_str ⟨.str x,H,I.tok _,⟨_,Z'⟩,h⟩
def Gl(X:Cx)(x:Str):Prop:=X.env.kindOf x=ga .globalImplicit
def xk{E:QQX}{XU:QQY}{u:Vl}{Q:QQX}(I:Inv X XU Y H s)(hg:Gl X x)(hm:X.mg x=ga u)(h:Q u s) (hd:zu x:=by decide):pi (Tk X.prog X.w) X.A (wp (.Name x pos) X.env) Q E s:=
 jp I.ok.kind hg (Calls.loadGlobal_global (by rw[I.ok.glob];exact I.mod.glob.keeps I.bk) hm h) hd
def wk{E:QQX}{XU:QQY}{u:Vl}{Q:QQX}(I:Inv X XU Y H s)(hg:Gl X x)(hm:X.mg x=Fa)(hv:zn x=ga u)(h:Q u s) (hn:x≠"__name__":=by decide) (hd:zu x:=by decide):pi (Tk X.prog X.w) X.A (wp (.Name x pos) X.env) Q E s:=by
 obtain⟨mb,h1,h2⟩:=I.mod.blt;exact jp I.ok.kind hg (Calls.loadGlobal_builtin (by rw[I.ok.glob];exact I.mod.glob.keeps I.bk) hm (by rw[I.ok.blt];exact h1.keeps I.bk) ((h2 x hn).trans hv) h) hd
def Fp{u:Vl}(hg:Gl X x)(hm:X.mg x=ga u)(r:qM v u)(hd:zu x:=by decide):PE X (.Name x pos) (tC v):=
 λ_ _ _ H _ I h=>xk I hg hm ⟨v,H,I,r,h⟩ hd
def QB{u:Vl}(hg:Gl X x)(hm:X.mg x=Fa)(hv:zn x=ga u)(r:qM v u)(hn:x≠"__name__":=by decide)(hd:zu x:=by decide):PE X (.Name x pos) (tC v):=
 λ_ _ _ H _ I h=>wk I hg hm hv ⟨v,H,I,r,h⟩ hn hd
variable {a b:Go}
def tB(t:TE):TT:=λY H Q=>t Y H λx H1=>∃c,x=.bl c/\Q c H1
def RS(h:PE X e t)(he:∀Ys,isTrue e X.env Ys=(do let v<-Ys;Y' e.pos;Ix [v] (truthy v)):=by intro _;rfl):PT X e (tB t):=by intro XU s Y H Q I hw;refine isTrue_plain (sf (h XU s Y H _ I hw) λv s1 zz=>x5 zz λx H1 I1 r1 q1=>?_) (he _);obtain⟨d,rfl,q⟩:=q1;cases r1;exact fz ⟨H1,I1,q⟩
variable {rest:T0 Go}
def Wl(t u:TT):TT:=λY H Q=>t Y H λc H1=>if c=Db then u Y H1 Q else Q pc H1
def XB(t u:TT):TT:=λY H Q=>t Y H λc H1=>if c=Db then Q Db H1 else u Y H1 Q
def WC(t:TT):TT:=λY H Q=>t Y H λc H1=>Q (!c) H1
def Q1(ha:PT X a tA):PW X (.BoolOp .And [a] pos) tA:=by
 intro wh XU s Y H Q I h;refine isTrue_and (sf (ha XU s Y H Q I h) λc s1 e=>?_);cases c with
 | true=>exact isTrue_and_nil e
 | false=>exact e
def Sb(ha:PT X a tA):PW X (.BoolOp .Or [a] pos) tA:=by
 intro wh XU s Y H Q I h;refine isTrue_or (sf (ha XU s Y H Q I h) λc s1 e=>?_);cases c with
 | false=>exact isTrue_or_nil e
 | true=>exact e
def RV(ha:PT X a tA)(hb:PW X (.BoolOp .And (b::rest) pos) tB'):PW X (.BoolOp .And (a::b::rest) pos) (Wl tA tB'):=by
 intro wh XU s Y H Q I h;refine isTrue_and (sf (ha XU s Y H _ I h) λc s1 ⟨H1,I1,q1⟩=>?_);cases c with
 | true=>exact hb wh XU s1 Y H1 Q I1 q1
 | false=>exact⟨H1,I1,q1⟩
def Vg(ha:PT X a tA)(hb:PW X (.BoolOp .Or (b::rest) pos) tB'):PW X (.BoolOp .Or (a::b::rest) pos) (XB tA tB'):=by
 intro wh XU s Y H Q I h;refine isTrue_or (sf (ha XU s Y H _ I h) λc s1 ⟨H1,I1,q1⟩=>?_);cases c with
 | true=>exact⟨H1,I1,q1⟩
 | false=>exact hb wh XU s1 Y H1 Q I1 q1
def Tt(ha:PT X a tA):PT X (.UnaryOp .Not a pos) (WC tA):=by intro XU s Y H Q I h;exact isTrue_not (ha XU s Y H (λc H1=>Q (!c) H1) I h)
def U4(ta tb:TE):TE:=λY H Q=>ta Y H λx H1=>∃c,x=.bl c/\if c=Db then tb Y H1 Q else Q (.bl pc) H1
def Ws(ta tb:TE):TE:=λY H Q=>ta Y H λx H1=>∃c,x=.bl c/\if c=Db then Q (.bl Db) H1 else tb Y H1 Q
def UA(ta:TE):TE:=λY H Q=>ta Y H λx H1=>∃c,x=.bl c/\Q (.bl (!c)) H1
def SW{op}(h:PE X a t):PE X (.BoolOp op [a] pos) t:=λXU s Y H Q I hw=>BoolOp_one (h XU s Y H Q I hw)
def Tc(ha:PE X a ta)(hb:PE X (.BoolOp .And (b::rest) pos) tb):PE X (.BoolOp .And (a::b::rest) pos) (U4 ta tb):=by
 intro XU s Y H Q I h;refine BoolOp_and (sf (ha XU s Y H _ I h) λv s1 zz=>x5 zz λx H1 I1 r1 q1=>?_);obtain⟨c,rfl,q1⟩:=q1;cases r1;refine fz ?_;cases c with
 | true=>exact hb XU s1 Y H1 Q I1 q1
 | false=>exact⟨.bl pc,H1,I1,Z',q1⟩
def Vt(ha:PE X a ta)(hb:PE X (.BoolOp .Or (b::rest) pos) tb):PE X (.BoolOp .Or (a::b::rest) pos) (Ws ta tb):=by
 intro XU s Y H Q I h;refine BoolOp_or (sf (ha XU s Y H _ I h) λv s1 zz=>x5 zz λx H1 I1 r1 q1=>?_);obtain⟨c,rfl,q1⟩:=q1;cases r1;refine fz ?_;cases c with
 | false=>exact hb XU s1 Y H1 Q I1 q1
 | true=>exact⟨.bl Db,H1,I1,Z',q1⟩
def Tu(ha:PE X a ta):PE X (.UnaryOp .Not a pos) (UA ta):=by intro XU s Y H Q I h;refine UnaryOp_ (sf (ha XU s Y H _ I h) λv s1 zz=>x5 zz λx H1 I1 r1 q1=>?_);obtain⟨c,rfl,q1⟩:=q1;cases r1;exact not_of (fz ⟨.bl (!c),H1,I1,Z',q1⟩)
def XN(t:TT)(ta tb:TE):TE:=λY H Q=>t Y H λc H1=>if c=Db then ta Y H1 Q else tb Y H1 Q
def LY(hc:PT X c tA)(ha:PE X a ta)(hb:PE X b tb):PE X (.IfExp c a b pos) (XN tA ta tb):=by
 intro XU s Y H Q I h;refine wpAny_IfExp (sf (hc XU s Y H _ I h) λd s1 ⟨H1,I1,q1⟩=>?_);cases d with
 | true=>exact ha XU s1 Y H1 Q I1 q1
 | false=>exact hb XU s1 Y H1 Q I1 q1
end
def xR(K:qy)(H:Hp)(a:Uf)(xs:T0 V):Prop:=
 Rd H a (.lst xs)\/
  ∃(o:Obj) (its:Array Vl) (n:Nat),K.lookup a=ga o/\o.cls=.type "list"/\o.dict=Fa/\o.data=.seq its n/\its.size<=Ch/\qA xs its.toList
def vH(K:qy)(H:Hp)(a:Uf)(xs:T0 V):Prop:=
 Rd H a (.tup xs)\/
  ∃(o:Obj) (its:Array Vl) (n:Nat),K.lookup a=ga o/\o.cls=.type "tuple"/\o.dict=Fa/\o.data=.seq its n/\its.size<=Ch/\qA xs its.toList
noncomputable def W8:Vl->Option V
 | .none=>ga .mK
 | .bool b=>ga (.bl b)
 | .int i _=>ga (.int i)
 | .str x _=>ga (.str x)
 | .bytes b _=>ga (.byt b)
 | .float b _=>ga (.flt b)
 | .ref a=>ga (.ref a)
 | .type n=>ga (.ty n)
 | _=>Fa
def qM.abs(r:qM x u):W8 u=ga x:=by
 cases x with
 | mK=>cases r;rfl
 | bl _=>cases r;rfl
 | int _=>obtain⟨t,rfl⟩:=r;rfl
 | str _=>obtain⟨t,rfl⟩:=r;rfl
 | byt _=>obtain⟨t,rfl⟩:=r;rfl
 | flt _=>obtain⟨t,rfl⟩:=r;rfl
 | ref _=>cases r;rfl
 | ty _=>cases r;rfl
def qM.inj(r:qM x u)(q:qM y u):x=y:=dw (r.abs.symm.trans q.abs)
theorem qA.inj:∀{xs ys:T0 V} {us:T0 Vl},qA xs us->qA ys us->xs=ys
 | _,_,_,.nil,.nil=>rfl
 | _,_,_,.cons r t,.cons r' t'=>by rw[r.inj r',qA.inj t t']
variable {xs ys:T0 V}
section
variable {Y:St}{a:Uf}
def vH.of{K:qy}(h:H a=ga (.tup xs)):vH K H a xs:=.inl (.inl h)
def Inv.list(I:Inv X XU Y H s)(h:xR X.K H a xs):∃its:T0 Vl,qA xs its/\PlainL s.heap a its.toArray/\xs.length<=Ch:=by
 rcases h with h|⟨o,its,n,hk,hc,hd,hs,hz,r⟩
 .obtain⟨z,its,n,r,e⟩:=h.ok I.mR;exact⟨its,r,⟨_,n,e,Z',Z',Z'⟩,z⟩
 .refine⟨its.toList,r,⟨o,n,I.m7 a o hk,hc,hd,by simpa using hs⟩,?_⟩;have e:=r.length;simp only[je]at e;lia
def Inv.tuple(I:Inv X XU Y H s)(h:vH X.K H a xs):∃its:T0 Vl,qA xs its/\IsTup s.heap a its.toArray/\xs.length<=Ch:=by
 rcases h with h|⟨o,its,n,hk,hc,hd,hs,hz,r⟩
 .obtain⟨z,its,r,p⟩:=h.ok I.mR;exact⟨its,r,p.is,z⟩
 .refine⟨its.toList,r,⟨o,I.m7 a o hk,hc,n,by simpa using hs⟩,?_⟩;have e:=r.length;simp only[je]at e;lia
def Inv.nI(I:Inv X XU Y H s)(h:xR X.K H a xs)(h':xR X.K H a ys):xs=ys:=by
 obtain⟨its,r,⟨o,n,e,_,_,d⟩,_⟩:=I.list h;obtain⟨its',r',⟨o',n',e',_,_,d'⟩,_⟩:=I.list h';rw[e]at e';cases e';rw[d]at d';injection d' with d1 _
 have:its=its':=by simpa using eC Array.toList d1
 subst this;exact r.inj r'
def Inv.nC(I:Inv X XU Y H s)(h:vH X.K H a xs)(h':vH X.K H a ys):xs=ys:=by
 obtain⟨its,r,⟨o,e,_,n,d⟩,_⟩:=I.tuple h;obtain⟨its',r',⟨o',e',_,n',d'⟩,_⟩:=I.tuple h';rw[e]at e';cases e';rw[d]at d';injection d' with d1 _
 have:its=its':=by simpa using eC Array.toList d1
 subst this;exact r.inj r'
end
abbrev Cx.nK(X:Cx)(E:QQX):Cx:={X with xe:=E}
abbrev Cx.oF(X:Cx):Cx:=X.nK λ_ _=>False
def Cx.Ok.nK{X:Cx}(ok:X.Ok)(E:QQX):(X.nK E).Ok:=
 ⟨ok.mod,ok.kind,ok.glob,ok.blt,ok.above,ok.inj,ok.has,ok.oz,ok.hd,ok.frames,ok.oM,ok.pb,ok.bs,ok.nY,ok.nL,ok.nU,ok.nA,ok.oq⟩
def Cx.Ok.m9{X:Cx}{E:QQX}(ok:(X.nK E).Ok):X.Ok:=
 ⟨ok.mod,ok.kind,ok.glob,ok.blt,ok.above,ok.inj,ok.has,ok.oz,ok.hd,ok.frames,ok.oM,ok.pb,ok.bs,ok.nY,ok.nL,ok.nU,ok.nA,ok.oq⟩
section
variable {Y:St}{E:QQX}
def Inv.nK(I:Inv X XU Y H s)(E:QQX):Inv (X.nK E) XU Y H s:=⟨I.ok.nK E,I.os,I.bare,I.base,I.loc,I.cell,I.free,I.mW,I.pin,I.mR,I.len⟩
def Inv.m9(I:Inv (X.nK E) XU Y H s):Inv X XU Y H s:=⟨I.ok.m9,I.os,I.bare,I.base,I.loc,I.cell,I.free,I.mW,I.pin,I.mR,I.len⟩
def SP.m9{D:Fc}(h:SP (X.nK E) XU D f s'):SP X XU D f s':=by
 cases f with
 | next=>obtain⟨σ',H',I,q⟩:=h;exact⟨σ',H',I.m9,q⟩
 | brk=>obtain⟨σ',H',I,q⟩:=h;exact⟨σ',H',I.m9,q⟩
 | cont=>obtain⟨σ',H',I,q⟩:=h;exact⟨σ',H',I.m9,q⟩
 | ret u=>obtain⟨v,σ',H',I,r,q⟩:=h;exact⟨v,σ',H',I.m9,r,q⟩
def Cb.oF{st:T0 TD}(h:Cb X.oF st t):Cb X st t:=λXU s Y H D I hw=>eE (h XU s Y H D (I.nK _) hw) (λ_ _ q=>q.m9) λ_ _ z=>False.elim z
end
variable {st:TD}{u:TS}{te:TE}
section
variable {rest:T0 TD}{t:TS}{e:Go}
def UF:TS:=λD Y H=>D.nx Y H
def Wv(t u:TS):TS:=λD Y H=>t {D with nx:=u D} Y H
def OJ:Cb X [] UF:=λ_ _ Y H _ I h=>hJ ⟨Y,H,I,h⟩
def NL(h1:PS X st t)(h2:Cb X rest u):Cb X (st::rest) (Wv t u):=by
 intro XU s Y H D I h;refine jD (sf (h1 XU s Y H {D with nx:=u D} I h) λf s1 q=>?_);cases f with
 | next=>obtain⟨σ',H',I',q⟩:=q;exact h2 XU s1 σ' H' D I' q
 | ret v=>exact q
 | brk=>exact q
 | cont=>exact q
def Ju(h1:PS X st t):Cb X [st] t:=by
 intro XU s Y H D I h;refine jD (sf (h1 XU s Y H D I h) λf s1 q=>?_);cases f with
 | next=>exact hJ q
 | ret v=>exact q
 | brk=>exact q
 | cont=>exact q
def Inv.quiet{XU:QQY}(I:Inv X XU Y H s):interactive X.env=pc:=by simp[interactive,I.ok.kind]
def VV(te:TE):TS:=λD Y H=>te Y H λ_ H1=>D.nx Y H1
def QE(he:PE X e te)(hs:sB e Fa pos.line X.env=pure pc:=by rfl):PS X (.Expr e pos) (VV te):=by intro XU s Y H D I h;exact wpAny_Expr_any (sf (he XU s Y H _ I h) λv s1 zz=>x5 zz λx H1 I1 r1 q1=>⟨Y,H1,I1,q1⟩) I.quiet hs
def W'(te:TE):TS:=λD Y H=>te Y H D.rt
def S9(he:PE X e te):PS X (.Return (ga e) pos) (W' te):=by intro XU s Y H D I h;exact wpAny_Return_some (sf (he XU s Y H _ I h) λv s1 zz=>x5 zz λx H1 I1 r1 q1=>⟨x,Y,H1,I1,r1,q1⟩)
def W6(c:TT)(t u:TS):TS:=λD Y H=>c Y H λb H1=>if b=Db then t D Y H1 else u D Y H1
def UE(hc:PT X c tc)(ha:Cb X a t)(hb:Cb X b u):PS X (.If c a b pos) (W6 tc t u):=by
 intro XU s Y H D I h;refine wpAny_If (sf (hc XU s Y H _ I h) λd s1 ⟨H1,I1,q1⟩=>?_);cases d with
 | true=>exact ha XU s1 Y H1 D I1 q1
 | false=>exact hb XU s1 Y H1 D I1 q1
def Sw:TS:=λ_ _ _=>False
def NG:PS X st Sw:=λ_ _ _ _ _ _ h=>h.elim
end
abbrev TG:=V->St->Hp->(St->Hp->Prop)->Prop
abbrev OY:=T0 V->St->Hp->(St->Hp->Prop)->Prop
def PG(X:Cx)(Yn:Go)(t:TG):Prop:=
 ∀(XU:QQY) (s:Sd) (Y:St) (H:Hp) (v:V) (u:Vl) (Q:St->Hp->Prop),Inv X XU Y H s->qM v u->t v Y H Q->
  pi (Tk X.prog X.w) X.A (assign Yn X.env u) (λ_ s'=>∃σ' H',Inv X XU σ' H' s'/\Q σ' H') X.xe s
def OG(X:Cx)(ts:T0 Go)(t:OY):Prop:=
 ∀(XU:QQY) (s:Sd) (Y:St) (H:Hp) (vs:T0 V) (us:T0 Vl) (Q:St->Hp->Prop),Inv X XU Y H s->qA vs us->t vs Y H Q->
  pi (Tk X.prog X.w) X.A (assignInOrder ((IN ts X.env).map (·.2)) us) (λ_ s'=>∃σ' H',Inv X XU σ' H' s'/\Q σ' H') X.xe s
abbrev LI:=V->V->V->Hp->(Hp->Prop)->Prop
def R5(X:Cx)(t:LI):Prop:=
 ∀(XU:QQY) (s:Sd) (Y:St) (H:Hp) (o i v:V) (ov iv u:Vl) (Q:Hp->Prop),Inv X XU Y H s->qM o ov->qM i iv->qM v u->t o i v H Q->
  pi (Tk X.prog X.w) X.A (setItem ov iv u) (λ_ s'=>∃H',Inv X XU Y H' s'/\Q H') X.xe s
abbrev WB:=V->V->Hp->VK->Prop
def XA(X:Cx)(op:XXf)(t:WB):Prop:=
 ∀(XU:QQY) (s:Sd) (Y:St) (H:Hp) (x y:V) (v u:Vl) (Q:VK),Inv X XU Y H s->qM x v->qM y u->t x y H Q->
  pi (Tk X.prog X.w) X.A (inplaceOp op v u) (EP X XU Y Q) X.xe s
def Ov(i:Nat):TG:=λv Y H Q=>Q (Y.set i (ga v)) H
def QZ{i:Nat}{x:Str}(hN:X.N.Nodup)(hi:X.N[i]?=ga x)(hx:Ll X.env.scope x)(hf:Lk X x:=by first|exact .inl Z'|exact .inr Z'|assumption):PG X (.Name x pos) (Ov i):=by intro XU s Y H v u Q I r h;exact lj (Ck I hN hi hx r (λs' I'=>⟨_,H,I',h⟩) hf)
def Wf:OY:=λvs Y H Q=>vs=[]/\Q Y H
def VB(t:TG)(u:OY):OY:=λvs Y H Q=>∃v r,vs=v::r/\t v Y H λσ' H'=>u r σ' H' Q
def PJ:OG X [] Wf:=by intro XU s Y H vs us Q I r h;obtain⟨e,h⟩:=h;subst e;cases r;exact assignInOrder_nil ⟨Y,H,I,h⟩
def LR{u:OY}(h1:PG X e t)(h2:OG X es u) (hs:(IN (e::es) X.env).map (·.2)=assign e X.env::(IN es X.env).map (·.2):=by rfl):OG X (e::es) (VB t u):=by
 intro XU s Y H vs us Q I r h;obtain⟨v,vr,e1,h⟩:=h;subst e1;cases r with
 | cons r rr=>rw[hs];refine assignInOrder_cons (sf (h1 XU s Y H _ _ _ I r h) λ_ s1 ⟨σ1,H1,I1,q1⟩=>?_);exact h2 XU s1 σ1 H1 _ _ Q I1 rr q1
def WR(K:qy)(n:Nat)(t:OY):TG:=λv Y H Q=>∃a xs,v=.ref a/\vH K H a xs/\xs.length=n/\t xs Y H Q
def Tp{n:Nat}(hc:X.calm=Db)(h:OG X es t) (hn:(IN es X.env).length=n:=by rfl) (Yi:(IN es X.env).findIdx? (·.1)=Fa:=by rfl):PG X (.Tuple es k pos) (WR X.K n t):=by
 intro XU s Y H v u Q I r hw;obtain⟨a,xs,e1,hq,hl,hw⟩:=hw;subst e1;cases r;obtain⟨its,rv,ht,hz⟩:=I.tuple hq;refine assign_Tuple_tuple (I.ok.hd hc) ht (by simp[hn,<-hl,rv.length]) Yi λh' hx=>?_;have I1:Inv X XU Y H {s with heap:=h'}:=I.kept (t':=s.toks) λb o e=>hx b o (dW (dG e)) e;exact h XU _ Y H xs _ Q I1 (by simpa using rv) hw
def W4(to ti:TE)(t:LI):TG:=λv Y H Q=>to Y H λo H1=>ti Y H1 λi H2=>t o i v H2 λH3=>Q Y H3
def SG(ho:PE X o to)(hi:PE X i ti)(hs:R5 X t) (ha:∀v,assign (.Subscript o i pos) X.env v=(do
   let ov<-Ix [v] (wp o X.env);let iv<-Ix [v,ov] (wp i X.env)
   Y' pos
   Ix [v,ov,iv] (setItem ov iv v)
   release [v,ov,iv] []):=by intro _;rfl):PG X (.Subscript o i pos) (W4 to ti t):=by
 intro XU s Y H v u Q I r h;rw[ha];refine cZ (ft (sf (ho XU s Y H _ I h) λov s1 zz=>x5 zz λx H1 I1 r1 q1=>?_));refine cZ (ft (sf (hi XU s1 Y H1 _ I1 q1) λiv s2 zz=>x5 zz λy H2 I2 r2 q2=>?_));refine cZ (iu (cZ (ft (sf (hs XU s2 Y H2 x y v ov iv u _ I2 r1 r2 r q2) λ_ s3 ⟨H3,I3,q3⟩=>?_))));exact wpAny_release ⟨Y,H3,I3,q3⟩
def S6(te:TE)(g:TG):TS:=λD Y H=>te Y H λx H1=>g x Y H1 D.nx
def TF(he:PE X e te)(hg:PG X tg g)(hs:swapsWithSole [tg] e pos.line X.env=pure pc:=by rfl)(hw:swappedStores [tg] e X.env=pure Fa:=by rfl)
  (h1:(IN [tg] X.env).map (·.2)=[assign tg X.env]:=by rfl):PS X (.Assign [tg] e pos) (S6 te g):=by
 intro XU s Y H D I h;refine wpAny_Assign_stores (sf (he XU s Y H _ I h) λv s1 zz=>x5 zz λx H1 I1 r1 q1=>?_) hs hw;rw[h1];exact sf (hg XU s1 Y H1 x v _ I1 r1 q1) λ_ s2 q=>q
def RW{i:Nat}{x:Str}(hN:X.N.Nodup)(hi:X.N[i]?=ga x)(hx:Ll X.env.scope x)(he:PE X e te)(hs:sB e (ga (.Name x X5)) pos.line X.env=pure pc:=by rfl)(hf:Lk X x:=by first|exact .inl Z'|exact .inr Z'|assumption):
  PS X (.Assign [.Name x X5] e pos) (S6 te (Ov i)):=by
 intro XU s Y H D I h;refine lq (sf (he XU s Y H _ I h) λv s1 zz=>x5 zz λy H1 I1 r1 q1=>?_) hs;exact Ck I1 hN hi hx r1 (λs2 I2=>⟨_,H1,I2,q1⟩) hf
def VN(to ti te:TE)(Z1:V->V->Hp->VK->Prop)(tip:WB)(Z2:LI):TS:=λD Y H=>to Y H λo H1=>ti Y H1 λi H2=>Z1 o i H2 λx H3=>te Y H3 λy H4=>tip x y H4 λz H5=>Z2 o i z H5 λH6=>D.nx Y H6
def UV(X:Cx)(t:V->V->Hp->VK->Prop):Prop:=
 ∀(XU:QQY) (s:Sd) (Y:St) (H:Hp) (o i:V) (ov iv:Vl) (Q:VK),Inv X XU Y H s->qM o ov->qM i iv->t o i H Q->
  pi (Tk X.prog X.w) X.A (XXa ov iv) (EP X XU Y Q) X.xe s
def PD(ho:PE X o to)(hi:PE X i ti)(hg:UV X Z1)(he:PE X e te)(hp:XA X op tip)(hs:R5 X Z2) (ha:∀ov iv new,augStore i ov iv new=(do Ix [new,ov,iv] (setItem ov iv new);release [new,ov,iv] [];pure .next):=by intros;rfl):PS X (.AugAssign (.Subscript o i YV) op e pos) (VN to ti te Z1 tip Z2):=by
 intro XU s Y H D I h;refine wpAny_AugAssign_SubscriptAny (sf (ho XU s Y H _ I h) λov s1 zz=>x5 zz λx1 H1 I1 r1 q1=>?_) ha;refine sf (hi XU s1 Y H1 _ I1 q1) λiv s2 zz=>x5 zz λx2 H2 I2 r2 q2=>?_;refine sf (hg XU s2 Y H2 x1 x2 ov iv _ I2 r1 r2 q2) λYt s3 zz=>x5 zz λx3 H3 I3 r3 q3=>?_;refine sf (he XU s3 Y H3 _ I3 q3) λv s4 zz=>x5 zz λx4 H4 I4 r4 q4=>?_;refine sf (hp XU s4 Y H4 x3 x4 Yt v _ I4 r3 r4 q4) λnew s5 zz=>x5 zz λx5 H5 I5 r5 q5=>?_;exact sf (hs XU s5 Y H5 x1 x2 x5 ov iv new _ I5 r1 r2 r5 q5) λ_ s6 ⟨H6,I6,q6⟩=>⟨Y,H6,I6,q6⟩
def Tg(c:TT)(tb:TS):TS:=λD Y H=>∃W:Nat->St->Hp->Prop,(∃m,W m Y H)/\∀m Y H,W m Y H->
 c Y H λb H1=>if b=Db then ∃N:St->Hp->Prop,(∀σ' H',N σ' H'->∃m',m'<m/\W m' σ' H')/\tb {D with nx:=N,ct:=N,bk:=D.nx} Y H1 else D.nx Y H1
def Oz{tb:TS}(hp:PassesOwn (Tk X.prog X.w) X.A X.env X.xe)(hc:PT X c tc)(hb:Cb X body tb):PS X (.While c body [] pos) (Tg tc tb):=by
 intro XU s Y H D I h;obtain⟨W,⟨m0,w0⟩,turn⟩:=h;refine wpAny_While (codeAny_whileLoop (λn s'=>∃σ' H',Inv X XU σ' H' s'/\W n σ' H') ?_ m0 ⟨Y,H,I,w0⟩)
 rintro n s1 ⟨σ1,H1,I1,w1⟩
 refine gK hp (sf (hc XU s1 σ1 H1 _ I1 (turn n σ1 H1 w1)) λb s2 ⟨H2,I2,q2⟩=>?_);cases b with
 | true=>
  obtain⟨N,hN,q2⟩:=q2;rw[dh Z'];refine gK hp (sf (hb XU s2 σ1 H2 _ I2 q2) λf s3 q3=>?_);cases f with
  | next=>obtain⟨σ3,H3,I3,n3⟩:=q3;obtain⟨m',hm,w3⟩:=hN σ3 H3 n3;exact⟨m',hm,σ3,H3,I3,w3⟩
  | cont=>obtain⟨σ3,H3,I3,n3⟩:=q3;obtain⟨m',hm,w3⟩:=hN σ3 H3 n3;exact⟨m',hm,σ3,H3,I3,w3⟩
  | brk=>exact q3
  | ret v=>exact q3
 | false=>rw[dg dD];exact hJ ⟨σ1,H2,I2,q2⟩
structure It where
 go:Nat->Hp->Prop
 oV:Nat->Hp->V->Hp->Prop
 stop:Nat->Hp->Prop
def zC(X:Cx)(XU:QQY)(H:Hp)(b:Uf):Prop:=
 H b=Fa/\b≠X.env.locals/\b∉X.fs/\(b∈X.ex\/X.s₀.heap.objs.size<=b)/\(∀x c,X.env.cells.lookup x=ga c->c≠b)/\∀p∈X.pn++XU,p.1≠b
def Inv.nV{XU:QQY}{H H':Hp}{b:Uf}(I:Inv X XU Y H s)(hb:s.heap.objs.size<=b)(hn:H' b=Fa):zC X XU H' b:=by
 refine⟨hn,ii (dR I.lt hb),I.oY hb,.inr (d9 I.sz hb),λx c e z=>?_,λp hp z=>?_⟩
 .obtain⟨v,q⟩:=I.cell x c e;exact absurd (dR q.lt (by rw[z];exact hb)) (eZ _)
 .exact absurd (dR (dG (I.pin p hp).1) (by rw[z];exact hb)) (eZ _)
structure GB(P:Pg)(w:Wo)(K:qy)(tg:Go)(J:It)(fp:QXQ)(it:Uf)(tn:Nat->No->Prop):Prop where
 mem:it∈fp
 obj:∀i h,tn i h->∀b∈fp,∃o,h.get? b=ga o/\∀v,o.data≠.cell v
 keep:∀i h h',tn i h->(∀b∈fp,∀o,h.get? b=ga o->h'.get? b=ga o)->tn i h'
 item:∀(X:Cx),X.prog=P->X.w=w->X.K=K->X.calm=Db->∀(i:Nat) (XU:QQY) (s:Sd) (Y:St) (H:Hp) (E:QQX),Inv X XU Y H s->(∀b∈fp,zC X XU H b)->tn i s.heap->J.go i H->
  pi (Tk P w) X.A (pyNext (.ref it)) (λr s1=>∃u,r=ga u/\
   pi (Tk P w) X.A (XXg tg (.ref it) u) (λ_ s2=>∃x H',Inv X XU Y H' s2/\qM x u/\J.oV i H x H'/\tn (i+1) s2.heap/\∀b∈fp,H' b=Fa) E s1) E s
 done:∀(X:Cx),X.prog=P->X.w=w->X.K=K->X.calm=Db->∀(i:Nat) (XU:QQY) (s:Sd) (Y:St) (H:Hp) (E:QQX),Inv X XU Y H s->(∀b∈fp,zC X XU H b)->tn i s.heap->J.stop i H->
  pi (Tk P w) X.A (pyNext (.ref it)) (λr s1=>r=Fa/\Inv X XU Y H s1) E s
 self:∀(A:Ar) (i:Nat) (s:Sd) (Q:QQX) (E:QQX),tn i s.heap->Q (.ref it) s->pi (Tk P w) A (pyIter (.ref it)) Q E s
abbrev TI:=St->Hp->(It->Hp->Prop)->Prop
def Xf(X:Cx)(XU:QQY)(Y:St)(tg:Go)(R:It->Hp->Prop)(itv:Vl)(s2:Sd):Prop:=
 ∃(it:Uf) (fp:QXQ) (tn:Nat->No->Prop) (J:It) (H':Hp),itv=.ref it/\Inv X XU Y H' s2/\GB X.prog X.w X.K tg J fp it tn/\tn 0 s2.heap/\(∀b∈fp,zC X XU H' b)/\R J H'
def PI(X:Cx)(tg iter:Go)(wi:TI):Prop:=
 ∀(XU:QQY) (s:Sd) (Y:St) (H:Hp) (R:It->Hp->Prop),Inv X XU Y H s->wi Y H R->
  pi (Tk X.prog X.w) X.A (wp iter X.env) (λv s1=>pi (Tk X.prog X.w) X.A (pyIter v) (Xf X XU Y tg R) X.xe s1) X.xe s
def J6{M:Model}{A:Ar}{E:QQX}{s:Sd}{tg:Go}{it:Uf}{u:Vl}{o:Obj}{n:String}{vs:Array Vl}{Q:Unit->Sd->Prop}(ho:s.heap.get? it=ga o)(hc:o.cls=.type n)(hd:o.data=.fields vs) (hn:["enumerate","zip","dict_itemiterator","dict_reverseitemiterator","odict_iterator","itertools.zip_longest","itertools.pairwise"].contains n=pc) (hQ:Q () s):pi M A (XXg tg (.ref it) u) Q E s:=by
  unfold XXg;cases tg<;>first
    | exact dA hQ
    | (cases u<;>first
        | exact dA hQ
        | (refine cZ (wpAny_load ho ?_)
           rw[hc,hd];show pi M A (if (["enumerate","zip","dict_itemiterator","dict_reverseitemiterator","odict_iterator","itertools.zip_longest","itertools.pairwise"].contains n&&vs[0]?==ga (u8 _))=Db then _ else _) Q E s;rw[dg (by intro h;rw[hn,eY]at h;cases h)];exact dA hQ))
noncomputable def V9(K:qy)(a:Uf):It:=
 ⟨λi H=>∃xs x,xR K H a xs/\xs[i]?=ga x,λi H x H'=>H'=H/\∀xs,xR K H a xs->xs[i]?=ga x,λi H=>∃xs,xR K H a xs/\xs.length<=i⟩
noncomputable def WD(K:qy)(a:Uf):It:=
 ⟨λi H=>∃xs x,vH K H a xs/\xs[i]?=ga x,λi H x H'=>H'=H/\∀xs,vH K H a xs->xs[i]?=ga x,λi H=>∃xs,vH K H a xs/\xs.length<=i⟩
noncomputable def VU(lo:Int)(n:Nat):It:=⟨λi _=>i<n,λi H x H'=>H'=H/\x=.int (lo+i),λi _=>n<=i⟩
def K2{K:qy}(a it:Uf):GB P w K tg (V9 K a) [it] it (λi h=>h.IsListIter it a i) where
 mem:=by simp
 obj:=λi h st b hb=>by
  have e:b=it:=by simpa using hb
  subst e;obtain⟨o,e,c,d⟩:=st;exact⟨o,e,λv z=>by rw[d]at z;cases z⟩
 keep:=λi h h' st k=>st.at λo e=>k it (by simp) o e
 item:=by intro X hP hw hK hc i XU s Y H E I hf st hg;subst hP hw hK;obtain⟨xs,x,hq,hx⟩:=hg;obtain⟨its,rv,p,hz⟩:=I.list hq;obtain⟨u,hu,ru⟩:=rv.get hx;obtain⟨f0,f1,f2,f3,f4,f5⟩:=hf it (by simp);refine wpAny_pyNext_list_item st p.isList (x:=u) (by simpa using hu) λh' Zg sb=>?_;have I1:Inv X XU Y H {s with heap:=h'}:=I.turned (t':=s.toks) (λb o hb e=>(sb.2 b hb).trans e) f0 f1 f3 f4 f5;obtain⟨o,e,c,d⟩:=id Zg;exact⟨u,Z',J6 (s:={s with heap:=h'}) e c d (by decide) ⟨x,H,I1,ru,⟨Z',λys hy=>by rw[I.nI hy hq];exact hx⟩,Zg,λb hb=>(hf b hb).1⟩⟩
 done:=by intro X hP hw hK hc i XU s Y H E I hf st hg;subst hP hw hK;obtain⟨xs,hq,hx⟩:=hg;obtain⟨its,rv,p,hz⟩:=I.list hq;obtain⟨f0,f1,f2,f3,f4,f5⟩:=hf it (by simp);have hl:=rv.length;exact wpAny_pyNext_list_end (I.ok.hd hc) st p.isList (by simp;lia) λh' eb=>⟨Z',I.turned (t':=s.toks) (λb o hb e=>eb b o hb e) f0 f1 f3 f4 f5⟩
 self:=λ_ _ _ _ _ st h=>wpAny_pyIter_listiter st h
def HJ{K:qy}(a it:Uf):GB P w K tg (WD K a) [it] it (λi h=>h.IsTupleIter it a i) where
 mem:=by simp
 obj:=λi h st b hb=>by
  have e:b=it:=by simpa using hb
  subst e;obtain⟨o,e,c,d⟩:=st;exact⟨o,e,λv z=>by rw[d]at z;cases z⟩
 keep:=λi h h' st k=>st.at λo e=>k it (by simp) o e
 item:=by intro X hP hw hK hc i XU s Y H E I hf st hg;subst hP hw hK;obtain⟨xs,x,hq,hx⟩:=hg;obtain⟨its,rv,p,hz⟩:=I.tuple hq;obtain⟨u,hu,ru⟩:=rv.get hx;obtain⟨f0,f1,f2,f3,f4,f5⟩:=hf it (by simp);refine wpAny_pyNext_tuple_item st (show s.heap.IsTuple a its.toArray from p) (x:=u) (by simpa using hu) λh' Zg sb=>?_;have I1:Inv X XU Y H {s with heap:=h'}:=I.turned (t':=s.toks) (λb o hb e=>(sb.2 b hb).trans e) f0 f1 f3 f4 f5;obtain⟨o,e,c,d⟩:=id Zg;exact⟨u,Z',J6 (s:={s with heap:=h'}) e c d (by decide) ⟨x,H,I1,ru,⟨Z',λys hy=>by rw[I.nC hy hq];exact hx⟩,Zg,λb hb=>(hf b hb).1⟩⟩
 done:=by intro X hP hw hK hc i XU s Y H E I hf st hg;subst hP hw hK;obtain⟨xs,hq,hx⟩:=hg;obtain⟨its,rv,p,hz⟩:=I.tuple hq;obtain⟨f0,f1,f2,f3,f4,f5⟩:=hf it (by simp);have hl:=rv.length;exact wpAny_pyNext_tuple_end (I.ok.hd hc) st (show s.heap.IsTuple a its.toArray from p) (by simp;lia) λh' eb=>⟨Z',I.turned (t':=s.toks) (λb o hb e=>eb b o hb e) f0 f1 f3 f4 f5⟩
 self:=λ_ _ _ _ _ st h=>wpAny_pyIter_tupleiter st h
def IS{K:qy}(it:Uf)(lo:Int)(n:Nat):GB P w K tg (VU lo n) [it] it (λi h=>IsRangeIter h it (lo+(i:Nat)*1) ((n:Int) - (i:Nat)) 1) where
 mem:=by simp
 obj:=λi h st b hb=>by
  have e:b=it:=by simpa using hb
  subst e;exact⟨_,st,λv z=>by
   have z':Data.fields _=Data.cell v:=z;cases z'⟩
 keep:=λi h h' st k=>k it (by simp) _ st
 item:=by intro X hP hw hK hc i XU s Y H E I hf st hg;subst hP hw hK;obtain⟨f0,f1,f2,f3,f4,f5⟩:=hf it (by simp);have W:=Walks.range (prog:=X.prog) (w:=X.w) (I.ok.hd hc) it lo 1 n;refine W.item i s _ _ hg st λv h' tk hv Zg kk=>?_;obtain⟨t,rfl⟩:=hv;have I1:Inv X XU Y H {s with heap:=h',toks:=tk}:=I.turned (λb o hb e=>kk b o (by simpa using hb) e) f0 f1 f3 f4 f5;refine⟨_,Z',J6 (s:={s with heap:=h',toks:=tk}) (n:="range_iterator") Zg Z' Z' (by decide) ⟨.int (lo+i),H,I1,⟨t,?_⟩,⟨Z',Z'⟩,Zg,λb hb=>(hf b hb).1⟩⟩;rw[Int.mul_one]
 done:=by intro X hP hw hK hc i XU s Y H E I hf st hg;subst hP hw hK;obtain⟨f0,f1,f2,f3,f4,f5⟩:=hf it (by simp);exact wpAny_pyNext_range_end (I.ok.hd hc) st (by have:n<=i:=hg;lia) λh' eb=>⟨Z',I.turned (t':=s.toks) (λb o hb e=>eb b o hb e) f0 f1 f3 f4 f5⟩
 self:=λ_ _ _ _ _ st h=>wpAny_pyIter_rangeiter st h
variable {tg:Go}
def GQ{XU:QQY}{R:It->Hp->Prop}{E:QQX}{lo hi:Int}{t u v:Tok}{tk:Nat}(I:Inv X XU Y H s)(h1:-(2 ^ 62)<=lo)(h2:lo<2 ^ 62)(h3:-(2 ^ 62)<=hi)(h4:hi<2 ^ 62) (q:R (VU lo (hi - lo).toNat) H):pi (Tk X.prog X.w) X.A (pyIter (.ref s.heap.objs.size)) (Xf X XU Y tg R) E {s with heap:=s.heap.push {cls:=.type "range",data:=.fields #[.int lo t,.int hi u,.int 1 v]},toks:=tk}:=by
 refine wpAny_pyIter_range (IsRange.new ..) (small_one h1 h2 h3 h4) ?_;have I1:Inv X XU Y H {s with heap:=s.heap.push {cls:=.type "range",data:=.fields #[.int lo t,.int hi u,.int 1 v]},toks:=tk}:=I.kept λb o e=>dq _ e;refine⟨(s.heap.push {cls:=.type "range",data:=.fields #[.int lo t,.int hi u,.int 1 v]}).objs.size,[(s.heap.push {cls:=.type "range",data:=.fields #[.int lo t,.int hi u,.int 1 v]}).objs.size],_,_,H,Z',I1.kept (t':=tk) λb o e=>dq _ e,IS _ lo (hi - lo).toNat,?_,λb hb=>?_,q⟩
 .have e1:lo+((0:Nat):Int)*1=lo:=by simp
  have e2:(((hi - lo).toNat:Nat):Int) - ((0:Nat):Int)=Builtin.Range.rangeSize lo hi 1:=by rw[rangeSize_one];split<;>lia
  show IsRangeIter _ _ (lo+((0:Nat):Int)*1) ((((hi - lo).toNat:Nat):Int) - ((0:Nat):Int)) 1;rw[e1,e2];exact dO _ Z'
 .have e:b=(s.heap.push {cls:=.type "range",data:=.fields #[.int lo t,.int hi u,.int 1 v]}).objs.size:=by simpa using hb
  subst e;exact I1.nV (dv _) (I1.mR.fresh (dv _))
def Vm(ta:TA):TI:=λY H R=>ta Y H λvs H1=>∃j:Int,vs=[.int j]/\-(2 ^ 62)<=j/\j<2 ^ 62/\R (VU 0 j.toNat) H1
def Vb(ta:TA):TI:=λY H R=>ta Y H λvs H1=>∃i j:Int,vs=[.int i,.int j]/\(-(2 ^ 62)<=i/\i<2 ^ 62/\-(2 ^ 62)<=j/\j<2 ^ 62)/\R (VU i (j - i).toNat) H1
def Ko{a:Go}{ta:TA}(hg:Gl X "range")(hm:X.mg "range"=Fa)(ha:PA X [a] ta)(hs:Tl [a] X.env=[(pc,wp a X.env)]:=by rfl):PI X tg (.Call (.Name "range" p) [a] [] pos) (Vm ta):=by
 intro XU s Y H R I h;refine Call_ (wk I hg hm boot_range (fF (sf (ha pos XU s Y H _ I h) λus s1 zz=>x5 zz λvs H1 I1 r1 q1=>?_) hs Z'));obtain⟨j,e,q1,q2,q⟩:=q1;subst e;cases r1 with
 | cons r rr=>cases rr;obtain⟨t,rfl⟩:=r;exact call_range_1 (GQ I1 (by lia) (by lia) q1 q2 (by simpa using q))
def Kf{a b:Go}{ta:TA}{p pos:Pos}(hg:Gl X "range")(hm:X.mg "range"=Fa)(ha:PA X [a,b] ta)(hs:Tl [a,b] X.env=[(pc,wp a X.env),(pc,wp b X.env)]:=by rfl)(YA:Tl [b] X.env=[(pc,wp b X.env)]:=by rfl):
  PI X tg (.Call (.Name "range" p) [a,b] [] pos) (Vb ta):=by
 intro XU s Y H R I h;refine Call_ (wk I hg hm boot_range (fF (sf (ha pos XU s Y H _ I h) λus s1 zz=>x5 zz λvs H1 I1 r1 q1=>?_) (by rw[hs,YA]) (by rw[YA];rfl)));obtain⟨i,j,e,⟨q1,q2,q3,q4⟩,q⟩:=q1;subst e;cases r1 with
 | cons r rr=>
  cases rr with
  | cons r' rr=>cases rr;obtain⟨t,rfl⟩:=r;obtain⟨t',rfl⟩:=r';exact call_range_2 (GQ I1 q1 q2 q3 q4 q)
def Ww(wi:TI)(g:TG)(tb:TS):TS:=λD Y H=>wi Y H λJ H1=>∃W:Nat->Nat->St->Hp->Prop,(∃m,W 0 m Y H1)/\∀i m Y H,W i m Y H->
 (J.stop i H/\D.nx Y H)\/(J.go i H/\∃N:St->Hp->Prop,(∀σ' H',N σ' H'->∃m',m'<m/\W (i+1) m' σ' H')/\∀x H',J.oV i H x H'->g x Y H' λσ2 H2=>tb {D with nx:=N,ct:=N,bk:=D.nx} σ2 H2)
noncomputable def BS(fp:QXQ)(h:No):QQY:=fp.filterMap λb=>(h.get? b).map λo=>(b,o)
def vB{fp:QXQ}{h:No}{b:Uf}{o:Obj}(hb:b∈fp)(e:h.get? b=ga o):(b,o)∈BS fp h:=kT.mpr ⟨b,hb,by rw[e];rfl⟩
def KN{p:Uf×Obj}(hp:p∈BS fp h):p.1∈fp/\h.get? p.1=ga p.2:=by
 obtain⟨b,hb,e⟩:=kT.mp hp;cases q:h.get? b with
 | none=>rw[q]at e;cases e
 | some o=>rw[q]at e;have e':(b,o)=p:=dw e;subst e';exact⟨hb,q⟩
def Inv.pinned{XU:QQY}{fp:QXQ}(I:Inv X XU Y H s)(hf:∀b∈fp,zC X XU H b)(ho:∀b∈fp,∃o,s.heap.get? b=ga o/\∀v,o.data≠.cell v):Inv X (XU++BS fp s.heap) Y H s:=
 I.nM λp hp=>(dX.mp hp).elim (λz=>I.pin p (eG _ z)) λz=>by obtain⟨hb,e⟩:=KN z;obtain⟨f0,f1,f2,_⟩:=hf p.1 hb;obtain⟨o,e',d⟩:=ho p.1 hb;rw[e]at e';cases e';exact⟨e,f0,f1,f2,d⟩
def Inv.mX{XU pl:QQY}(I:Inv X (XU++pl) Y H s):Inv X XU Y H s:=I.nM λp hp=>I.pin p (eG _ (fJ _ hp))
def Sh{tb:TS}(hp:PassesOwn (Tk X.prog X.w) X.A X.env X.xe)(hc:X.calm=Db)(hi:PI X tg iter wi)(hg:PG X tg g)(hb:Cb X body tb) (hs:∀x,XV iter X.env x=pure x:=by intro _;rfl):PS X (.For tg iter body [] pos) (Ww wi g tb):=by
 intro XU s Y H D I h;refine wpAny_For (sf (hi XU s Y H _ I h) λv s1 h1=>sf h1 λitv s2 h2=>?_) hs;obtain⟨it,fp,tn,J,H2,e,I2,T,Yj,f2,W,⟨m0,w0⟩,turn⟩:=h2;subst e;have Y9:∀{H':Hp},(∀b∈fp,H' b=Fa)->∀b∈fp,zC X XU H' b:=λhn b hb=>⟨hn b hb,(f2 b hb).2⟩;refine codeAny_forLoop_any (λn s'=>∃i σ' H',Inv X XU σ' H' s'/\tn i s'.heap/\(∀b∈fp,H' b=Fa)/\W i n σ' H') ?_ m0 ⟨0,Y,H2,I2,Yj,λb hb=>(f2 b hb).1,w0⟩
 rintro n s3 ⟨i,σ3,H3,I3,YK,fr3,w3⟩
 rcases turn i n σ3 H3 w3 with⟨stop,qn⟩|⟨go,N,hN,step⟩
 .refine gK hp (sf (T.done X Z' Z' Z' hc i XU s3 σ3 H3 X.xe I3 (Y9 fr3) YK stop) λr s4 ⟨hr,I4⟩=>?_);subst hr;exact hJ ⟨σ3,H3,I4,qn⟩
 .refine gK hp (sf (T.item X Z' Z' Z' hc i XU s3 σ3 H3 X.xe I3 (Y9 fr3) YK go) λr s4 ⟨u,hr,h4⟩=>?_);subst hr;refine gK hp (sf h4 λ_ s5 zz=>?_);obtain⟨x,H5,I5,r5,y5,st5,fr5⟩:=zz;have I5':=I5.pinned (Y9 fr5) (T.obj _ _ st5);refine gK hp (sf (hg _ s5 σ3 H5 x u _ I5' r5 (step x H5 y5)) λ_ s6 ⟨σ6,H6,I6,q6⟩=>?_);refine gK hp (sf (hb _ s6 σ6 H6 _ I6 q6) λf s7 q7=>?_);have again:∀{σ7:St} {H7:Hp},Inv X (XU++BS fp s5.heap) σ7 H7 s7->N σ7 H7->∃m,m<n/\∃i σ' H',Inv X XU σ' H' s7/\tn i s7.heap/\(∀b∈fp,H' b=Fa)/\W i m σ' H':=λ{σ7 H7} I7 n7=>by obtain⟨m',hm,w7⟩:=hN σ7 H7 n7;refine⟨m',hm,i+1,σ7,H7,I7.mX,T.keep _ _ _ st5 λb hb o e=>(I7.pin (b,o) (eG _ (eG _ (vB hb e)))).1,λb hb=>?_,w7⟩;obtain⟨o,e,d⟩:=T.obj _ _ st5 b hb;exact(I7.pin (b,o) (eG _ (eG _ (vB hb e)))).2.1
  cases f with
  | next=>obtain⟨σ7,H7,I7,n7⟩:=q7;exact again I7 n7
  | cont=>obtain⟨σ7,H7,I7,n7⟩:=q7;exact again I7 n7
  | brk=>obtain⟨σ7,H7,I7,q7⟩:=q7;exact⟨σ7,H7,I7.mX,q7⟩
  | ret v=>obtain⟨x7,σ7,H7,I7,r7,q7⟩:=q7;exact⟨x7,σ7,H7,I7.mX,r7,q7⟩
abbrev R2:=V->V->Hp->VK->Prop
def x8(X:Cx)(f:Vl->Vl->Sem Vl)(r:R2):Prop:=
 ∀(XU:QQY) (s:Sd) (Y:St) (H:Hp) (x y:V) (v u:Vl) (Q:VK),Inv X XU Y H s->qM x v->qM y u->r x y H Q->
  pi (Tk X.prog X.w) X.A (f v u) (EP X XU Y Q) X.xe s
def WP(X:Cx)(f:Vl->Sem Vl)(r:V->Hp->VK->Prop):Prop:=
 ∀(XU:QQY) (s:Sd) (Y:St) (H:Hp) (x:V) (v:Vl) (Q:VK),Inv X XU Y H s->qM x v->r x H Q->
  pi (Tk X.prog X.w) X.A (f v) (EP X XU Y Q) X.xe s
def yO(X:Cx)(f:Vl)(r:T0 V->Hp->VK->Prop):Prop:=
 ∀(XU:QQY) (s:Sd) (Y:St) (H:Hp) (xs:T0 V) (us:T0 Vl) (Q:VK),Inv X XU Y H s->qA xs us->r xs H Q->
  pi (Tk X.prog X.w) X.A (call f us) (EP X XU Y Q) X.xe s
def Uu(r:R2)(ta tb:TE):TE:=λY H Q=>ta Y H λx H1=>tb Y H1 λy H2=>r x y H2 Q
def XI(r:V->Hp->VK->Prop)(ta:TE):TE:=λY H Q=>ta Y H λx H1=>r x H1 Q
def rI(C:Int->Int->Prop)(g:Int->Int->V):R2:=λx y H Q=>∃i j,x=.int i/\y=.int j/\C i j/\Q (g i j) H
def Rj(g:Int->Int->V):R2:=λx y H Q=>∃i j,x=.int i/\y=.int j/\Q (g i j) H
def rU(g:Int->V):V->Hp->VK->Prop:=λx H Q=>∃i,x=.int i/\Q (g i) H
variable {tc:TE}
section
variable {a b c:Go}
def Tz(ha:PE X a ta)(hb:PE X b tb){XU:QQY}{s:Sd}{Y:St}{H:Hp}{R:V->V->Hp->Prop}(I:Inv X XU Y H s) (h:ta Y H λx H1=>tb Y H1 λy H2=>R x y H2) {Q:QQX} {f:Vl->Vl->Sem Vl} (hf:∀v u s2 x y H2,Inv X XU Y H2 s2->qM x v->qM y u->R x y H2->pi (Tk X.prog X.w) X.A (f v u) Q X.xe s2):
  pi (Tk X.prog X.w) X.A (wp a X.env) (λv s₁=>pi (Tk X.prog X.w) X.A (wp b X.env) (λu s₂=>pi (Tk X.prog X.w) X.A (f v u) Q X.xe s₂) X.xe s₁) X.xe s:=by
 refine sf (ha XU s Y H _ I h) λv s1 zz=>x5 zz λx H1 I1 r1 q1=>?_;refine sf (hb XU s1 Y H1 _ I1 q1) λu s2 zz=>x5 zz λy H2 I2 r2 q2=>?_;exact hf v u s2 x y H2 I2 r1 r2 q2
def Rm{op:XXf}(ho:x8 X (wS op) r)(ha:PE X a ta)(hb:PE X b tb):PE X (.BinOp a op b pos) (Uu r ta tb):=by intro XU s Y H Q I h;exact wpAny_BinOp (Tz ha hb I h λv u s2 x y H2 I2 rx ry q=>ho XU s2 Y H2 x y v u Q I2 rx ry q)
def Uo{op:UnaryOp}(ho:WP X (unaryOp op) r)(ha:PE X a ta):PE X (.UnaryOp op a pos) (XI r ta):=by intro XU s Y H Q I h;exact UnaryOp_ (sf (ha XU s Y H _ I h) λv s1 zz=>x5 zz λx H1 I1 r1 q1=>ho XU s1 Y H1 x v Q I1 r1 q1)
def W0{f:Vl->Vl->Sem Vl}{C:Int->Int->Prop}{g:Int->Int->Int} (rule:∀(i j:Int) (t u:Tok) (s:Sd) (Q:QQX) (E:QQX),C i j->Q (.int (g i j) s.toks) {s with toks:=s.toks+1}->pi (Tk X.prog X.w) X.A (f (.int i t) (.int j u)) Q E s):
  x8 X f (rI C λi j=>.int (g i j)):=by
 intro XU s Y H x y v u Q I rx ry h;obtain⟨i,j,rfl,rfl,hc,q⟩:=h;obtain⟨t,rfl⟩:=rx;obtain⟨t',rfl⟩:=ry;exact rule i j t t' s _ _ hc ⟨.int (g i j),H,I.tok _,⟨_,Z'⟩,q⟩
def Vd{f:Vl->Vl->Sem Vl}{g:Int->Int->Int} (rule:∀(i j:Int) (t u:Tok) (s:Sd) (Q:QQX) (E:QQX),Q (.int (g i j) s.toks) {s with toks:=s.toks+1}->pi (Tk X.prog X.w) X.A (f (.int i t) (.int j u)) Q E s):
  x8 X f (Rj λi j=>.int (g i j)):=by
 intro XU s Y H x y v u Q I rx ry h;obtain⟨i,j,rfl,rfl,q⟩:=h;obtain⟨t,rfl⟩:=rx;obtain⟨t',rfl⟩:=ry;exact rule i j t t' s _ _ ⟨.int (g i j),H,I.tok _,⟨_,Z'⟩,q⟩
def Q9{f:Vl->Vl->Sem Vl}{g:Int->Int->Bool} (rule:∀(i j:Int) (t u:Tok) (s:Sd) (Q:QQX) (E:QQX),Q (.bool (g i j)) s->pi (Tk X.prog X.w) X.A (f (.int i t) (.int j u)) Q E s):
  x8 X f (Rj λi j=>.bl (g i j)):=by
 intro XU s Y H x y v u Q I rx ry h;obtain⟨i,j,rfl,rfl,q⟩:=h;obtain⟨t,rfl⟩:=rx;obtain⟨t',rfl⟩:=ry;exact rule i j t t' s _ _ ⟨.bl (g i j),H,I,Z',q⟩
def VG(i j:Int):Prop:=0<j/\j<1073741824
def C7(i j:Int):Prop:=(-(2 ^ 64)<i/\i<2 ^ 64)\/(-(2 ^ 64)<j/\j<2 ^ 64)
def C7.ok(h:C7 i j):IntMulOk i j:=by
 rcases h with⟨h1,h2⟩|⟨h1,h2⟩
 .exact .of_left (intBits_le_64 h1 h2)
 .exact .of_right (intBits_le_64 h1 h2)
def TX:x8 X (wS .Add) (Rj λi j=>.int (i+j)):=Vd λ_ _ _ _ _ _ _ q=>add_int q
def S':x8 X (wS .Sub) (Rj λi j=>.int (i - j)):=Vd λ_ _ _ _ _ _ _ q=>sub_int q
def SS:x8 X (wS .Mult) (rI C7 λi j=>.int (i*j)):=W0 λ_ _ _ _ _ _ _ hc q=>mul_int q hc.ok
def P3:x8 X (wS .FloorDiv) (rI VG λi j=>.int (i / j)):=W0 λi j _ _ _ _ _ hc q=>by have h1:(0:Int)<j:=hc.1;have h2:j<1073741824:=hc.2;exact floordiv_int (by lia) (by rw[Int.fdiv_eq_ediv_of_nonneg i (by lia)];exact q) (.inl (PyProof.noPylong_small (by lia)))
def Sf:x8 X (wS .Mod) (rI (λ_ j=>0<j) λi j=>.int (i % j)):=W0 λi j _ _ _ _ _ hc q=>by have h1:(0:Int)<j:=hc;exact mod_int' (by lia) (by rw[Int.fmod_eq_emod_of_nonneg i (by lia)];exact q)
def XJ{f:Vl->Sem Vl}{g:Int->Int} (rule:∀(i:Int) (t:Tok) (s:Sd) (Q:QQX) (E:QQX),Q (.int (g i) s.toks) {s with toks:=s.toks+1}->pi (Tk X.prog X.w) X.A (f (.int i t)) Q E s):
  WP X f (rU λi=>.int (g i)):=by
 intro XU s Y H x v Q I rx h;obtain⟨i,rfl,q⟩:=h;obtain⟨t,rfl⟩:=rx;exact rule i t s _ _ ⟨.int (g i),H,I.tok _,⟨_,Z'⟩,q⟩
def Ss:WP X (unaryOp .USub) (rU λi=>.int (-i)):=XJ λ_ _ _ _ _ q=>neg_int q
end
section
variable {a b c:Go}
def Io{XU:QQY}{Q:VK}{k k':Bool}(I:Inv X XU Y H s)(q:Q (.bl k) H)(e:k=k'):EP X XU Y Q (.bool k') s:=by subst e;exact⟨.bl k,H,I,Z',q⟩
def Vx:x8 X (Op .Lt) (Rj λi j=>.bl (decide (i<j))):=Q9 λ_ _ _ _ _ _ _ q=>lt_int q
def UW:x8 X (Op .LtE) (Rj λi j=>.bl (decide (i<=j))):=Q9 λ_ _ _ _ _ _ _ q=>le_int q
def VL:x8 X (Op .Gt) (Rj λi j=>.bl (decide (j<i))):=Q9 λ_ _ _ _ _ _ _ q=>gt_int q
def VF:x8 X (Op .GtE) (Rj λi j=>.bl (decide (j<=i))):=Q9 λ_ _ _ _ _ _ _ q=>ge_int q
def Kt:x8 X (Op .In) (λx y H Q=>∃i j,x=.str i/\y=.str j/\Q (.bl (!(Builtin.Str.occurrences j i 0 j.length 1).isEmpty)) H):=by intro XU s Y H x y v u Q I rx ry h;obtain⟨i,j,rfl,rfl,q⟩:=h;obtain⟨t,rfl⟩:=rx;obtain⟨t',rfl⟩:=ry;exact in_str (Io I q Z')
def R9:x8 X (Op .Is) (λx y H Q=>y=.mK/\Q (.bl (decide (x=.mK))) H):=by
 intro XU s Y H x y v u Q I rx ry h;obtain⟨rfl,q⟩:=h;cases ry;refine is_none_gen (Io I q ?_);cases x<;>first
  | (cases rx;rfl)
  | (obtain⟨t,rfl⟩:=rx;rfl)
def P6:x8 X (Op .IsNot) (λx y H Q=>y=.mK/\Q (.bl (!decide (x=.mK))) H):=by
 intro XU s Y H x y v u Q I rx ry h;obtain⟨rfl,q⟩:=h;cases ry;refine isnot_none_gen (Io I q ?_);cases x<;>first
  | (cases rx;rfl)
  | (obtain⟨t,rfl⟩:=rx;rfl)
def IJ(b:Go){op:CmpOp}(h:op≠.In:=by decide)(h2:op≠.NotIn:=by decide):AT op b=pc:=by
 have e1:(op==CmpOp.In)=pc:=by cases op<;>first|rfl|exact absurd Z' h
 have e2:(op==CmpOp.NotIn)=pc:=by cases op<;>first|rfl|exact absurd Z' h2
 cases b<;>simp[AT,e1,e2]
def IY{op:CmpOp}(ho:x8 X (Op op) r)(ha:PE X a ta)(hb:PE X b tb)(hm:AT op b=pc):PE X (.Compare a [op] [b] pos) (Uu r ta tb):=by intro XU s Y H Q I h;exact wpAny_Compare1 (Tz ha hb I h λv u s2 x y H2 I2 rx ry q=>ho XU s2 Y H2 x y v u Q I2 rx ry q) hm
def Rv(t:TE):TT:=λY H Q=>t Y H λx H'=>∃k,x=.bl k/\Q k H'
def JE{op:CmpOp}(ho:x8 X (Op op) r)(ha:PE X a ta)(hb:PE X b tb)(hm:AT op b=pc):PT X (.Compare a [op] [b] pos) (Rv (Uu r ta tb)):=by
 intro XU s Y H Q I h;refine wpAny_isTrue_Compare1 (sf (ha XU s Y H _ I h) λv s1 zz=>x5 zz λx H1 I1 r1 q1=>sf (hb XU s1 Y H1 _ I1 q1) λu s2 zz=>x5 zz λy H2 I2 r2 q2=>
  sf (ho XU s2 Y H2 x y v u _ I2 r1 r2 q2) λc s3 zz=>?_) hm
 obtain⟨z,H3,I3,r3,k,e,q3⟩:=zz;subst e;cases r3;exact fz ⟨H3,I3,q3⟩
def LL(r r':R2)(ta tb tc:TE):TE:=λY H Q=>ta Y H λx H1=>tb Y H1 λy H2=>r x y H2 λz H3=>∃k,z=.bl k/\
 (if k=Db then tc Y H3 λw' H4=>r' y w' H4 Q else Q (.bl pc) H3)
def Oq{op YL:CmpOp}(ho:x8 X (Op op) r)(Yz:x8 X (Op YL) r')(ha:PE X a ta)(hb:PE X b tb)(hc:PE X c tc) (hm:lastMarks [op,YL] [b,c]=pc:=by with_unfolding_all rfl):PE X (.Compare a [op,YL] [b,c] pos) (LL r r' ta tb tc):=by
 intro XU s Y H Q I h;refine Compare_chain (sf (ha XU s Y H _ I h) λv s1 zz=>x5 zz λx H1 I1 r1 q1=>chain_link (sf (hb XU s1 Y H1 _ I1 q1) λu s2 zz=>x5 zz λy H2 I2 r2 q2=>
  sf (ho XU s2 Y H2 x y v u _ I2 r1 r2 q2) λd s3 zz=>?_)) hm
 obtain⟨z,H3,I3,r3,k,e,q3⟩:=zz;subst e;cases r3;refine fz ?_;cases k with
 | false=>exact ite_ff ⟨.bl pc,H3,I3,Z',q3⟩
 | true=>exact ite_tt (chain_last (sf (hc XU s3 Y H3 _ I3 q3) λw' s4 zz=>x5 zz λz' H4 I4 r4 q4=>Yz XU s4 Y H4 y z' u w' Q I4 r2 r4 q4))
def NE{op YL:CmpOp}(ho:x8 X (Op op) r)(Yz:x8 X (Op YL) r')(ha:PE X a ta)(hb:PE X b tb)(hc:PE X c tc) (hm:lastMarks [op,YL] [b,c]=pc:=by with_unfolding_all rfl):PT X (.Compare a [op,YL] [b,c] pos) (Rv (LL r r' ta tb tc)):=by
 intro XU s Y H Q I h;refine isTrue_chain (sf (ha XU s Y H _ I h) λv s1 zz=>x5 zz λx H1 I1 r1 q1=>test_link (sf (hb XU s1 Y H1 _ I1 q1) λu s2 zz=>x5 zz λy H2 I2 r2 q2=>
  sf (ho XU s2 Y H2 x y v u _ I2 r1 r2 q2) λd s3 zz=>?_)) hm
 obtain⟨z,H3,I3,r3,k,e,q3⟩:=zz;subst e;cases r3;refine fz ?_;cases k with
 | false=>obtain⟨k',e',q'⟩:=q3;cases e';exact ite_ff ⟨H3,I3,q'⟩
 | true=>refine ite_tt (test_last (sf (hc XU s3 Y H3 _ I3 q3) λw' s4 zz=>x5 zz λz' H4 I4 r4 q4=>sf (Yz XU s4 Y H4 y z' u w' _ I4 r2 r4 q4) λd' s5 zz=>?_));obtain⟨z2,H5,I5,r5,k2,e2,q5⟩:=zz;subst e2;cases r5;exact fz ⟨H5,I5,q5⟩
def ym:(Ch:Nat)<2 ^ 63:=by rw[dQ];decide
def HX:x8 X (wS .Add) (λx y H Q=>∃i j,x=.str i/\y=.str j/\i.length+j.length<=Ch/\Q (.str (i++j)) H):=by intro XU s Y H x y v u Q I rx ry h;obtain⟨i,j,rfl,rfl,hz,q⟩:=h;obtain⟨t,rfl⟩:=rx;obtain⟨t',rfl⟩:=ry;exact add_str (λt' tk=>⟨.str (i++j),H,I.tok _,⟨_,Z'⟩,q⟩) hz
def xB{x:V}(r:qA [x] us):∃u,us=[u]/\qM x u:=by
 cases r with
 | cons r1 r2=>cases r2;exact⟨_,Z',r1⟩
def Ji{x y:V}(r:qA [x,y] us):∃u w',us=[u,w']/\qM x u/\qM y w':=by
 cases r with
 | cons r1 r2=>
  cases r2 with
  | cons r3 r4=>cases r4;exact⟨_,_,Z',r1,r3⟩
def Kn(hc:X.calm=Db):yO X (.builtin "min") (λxs H Q=>∃i j,xs=[.int i,.int j]/\Q (.int (if j<i then j else i)) H):=by
 intro XU s Y H xs us Q I r h;obtain⟨i,j,rfl,q⟩:=h;obtain⟨u,w',rfl,⟨t,rfl⟩,⟨t',rfl⟩⟩:=Ji r;refine min_two_ints (I.ok.hd hc) λh' tk k=>⟨_,H,I.kept k,?_,q⟩;by_cases hj:j<i
 .rw[dh hj,dh hj];exact⟨_,Z'⟩
 .rw[dg hj,dg hj];exact⟨_,Z'⟩
def DQ:yO X (.type "int") (λxs H Q=>(∃i,xs=[.int i]/\Q (.int i) H)\/∃k,xs=[.bl k]/\Q (.int (if k then 1 else 0)) H):=by
 intro XU s Y H xs us Q I r h;rcases h with⟨i,rfl,q⟩|⟨k,rfl,q⟩
 .obtain⟨u,rfl,t,rfl⟩:=xB r;exact call_int_int ⟨.int i,H,I,⟨_,Z'⟩,q⟩
 .obtain⟨u,rfl,r1⟩:=xB r;cases r1;exact call_int_bool ⟨.int (if k then 1 else 0),H,I.tok _,⟨_,Z'⟩,q⟩
end
structure Ih(h:No)(x dx C:Uf)(mA:QQZ):Prop where
 obj:h.get? x=ga (W.instObj C dx)
 ns:h.Ns1 dx mA
 ne:dx≠x
def KO{h:No}{dx:Uf}{mA:QQZ}(n:h.Ns1 dx mA):∃od,h.get? dx=ga od/\∀name,W.lookIn name od=ga (mA name):=by
 obtain⟨o,es,ep,ho,hd,hk,_,hm⟩:=n;refine⟨o,ho,λname=>?_⟩;have e:=hm name;unfold nsFind findBy at e;rw[<-Array.find?_toList]at e;unfold W.lookIn;rw[hd];dsimp only;split
 .rename_i y q;rw[q]at e;exact eC ga e
 .rename_i q;rw[q]at e;have a:es.toList.any (·.refKey)=pc:=by rw[ls];intro y hy;obtain⟨z,t,hkey⟩:=hk y (ko.mp hy);simp[DictEntry.refKey,hkey]
  have a':¬es.toList.any (·.refKey)=Db:=by rw[a];exact dD
  rw[dg a'];exact eC ga e
def Ih.look(I:Ih h x dx C mA):∃od,W.InstAt h x (W.instObj C dx) C (ga od)/\∀name,W.lookIn name od=ga (mA name):=
 let⟨od,ho,hl⟩:=KO I.ns
 ⟨od,⟨I.obj,Z',Z',ho⟩,hl⟩
variable {prog:Pg}{A:Ar}{K:qy}{dx C:Uf}{mA:QQZ}{name:Str}
section
variable {w:Wo}{E:QQX}{x f:Uf}{v:Vl}
def Pd{expr:Bool}{Q:QQX}(X:K.In s.heap)(I:Ih s.heap x dx C mA)(hg:W.plainGet K C name=Db)(hh:W.hasDictIn K C=Db) (ha:W.findIn K (.ref C) name=ga Fa) (hv:mA name=ga v) (hv':W.handedIn v=Db) (h:Q v {s with toks:=s.toks+1}):
  pi (Tk prog w) A (getAttr (.ref x) name expr) Q E s:=by
 obtain⟨od,J,hl⟩:=I.look;exact W.get_value X J (kB hg).1 (W.findObj_own hh ha Z' (by rw[hl,hv])) hv' h
def N8{pl:Sem Bool}{Q:Vl×T0 Vl->Sd->Prop}(X:K.In s.heap)(I:Ih s.heap x dx C mA)(hg:W.plainGet K C name=Db) (hf:W.findIn K (.ref C) name=ga (ga (.ref f))) (ht:W.isFn K (.ref f)=Db) (hv:mA name=Fa) (h:Q (.ref f,[.ref x]) s):
  pi (Tk prog w) A (TW (.ref x) name pl) Q E s:=by
 obtain⟨od,J,hl⟩:=I.look;exact W.method_fn X J (kB hg).1 (kB hg).2 hf (fg.mp ht) (by show(W.lookIn name od).map (·.isSome)=ga pc;rw[hl,hv];rfl) h
def PL{Q:Unit->Sd->Prop}(X:K.In s.heap)(I:Ih s.heap x dx C mA) (hs:W.findIn K (.ref C) "__setattr__"=ga (ga (.builtin "object.__setattr__"))) (hp:W.plainOver K C=Db) (ht:W.takerIn K C name=ga Fa) (hh:W.hasDictIn K C=Db) (hw:PySem.Within mA ns) (hsz:ns.length<=Ch) (h:∀h',Ih h' x dx C (λy=>if y=name then ga v else mA y)->Heap.SameBut dx s.heap h'->Q () {s with heap:=h',toks:=s.toks+2}):
  pi (Tk prog w) A (setAttr (.ref x) name v) Q E s:=by
 obtain⟨od,J,hl⟩:=I.look;refine W.set_plain X J hs (W.osa_open (s:={s with toks:=s.toks+1}) (r:=none) X J hp ht λb=>?_);obtain⟨cd,hc,hd'⟩:=W.any_some hh;have hx:s.heap.get? x=ga ⟨.ref C,ga dx,.plain,#[]⟩:=I.obj;refine cZ (dA (cZ (cZ (wpAny_loadPart hx (cZ (mj (s:={s with toks:=s.toks+1}) (kC X hc) ?_))))));rw[hd'];refine dA (a:=some dx) (cZ (dA (cZ ?_)));refine wpAny_nsSet1 (s:={s with toks:=s.toks+1}) I.ns λh' hn2 YA=>?_;obtain⟨oD,esD,epD,hoD,GC,hcD⟩:=hn2.count (PySem.Within.cons name v hw);refine cZ (lJ hoD (by rw[GC];exact lK (d9 hcD (by rw[eB];lia))) ?_);exact dA (h _ ⟨(YA.2 _ (dZ I.ne)).trans I.obj,hn2,I.ne⟩ YA)
def LO{vs:T0 Vl}{kw:T0 (Str×Vl)}(X:K.In s.heap)(hm:W.makesIn K C=Db) (hi:W.findIn K (.ref C) "__init__"=ga (ga (.ref f))) (hf:W.typeIn K (.ref f)=ga (.type "function")) (h:XXh (Tk prog w) (A.under (.builtin "type.__call__" ⟨.ref C::vs,kw⟩)) (.call (.ref f) ⟨.ref (s.heap.objs.size+1)::vs,kw⟩) (W.InitBack (s.heap.objs.size+1) R) {s with heap:=(s.heap.push W.emptyDict).push (W.instObj C s.heap.objs.size)}):
  XXh (Tk prog w) A (.call (.ref C) ⟨vs,kw⟩) R s:=by
 obtain⟨hh,g,d,t,os⟩:=s;exact W.make_core (W.makes_of X hm) (me X hi) (λself=>W.bind_fn X self hf) (.inl Z') h
end
noncomputable def vL(f:Str)(v:V):T0 (Str×V)->T0 (Str×V)
 | []=>[(f,v)]
 | (g,x)::r=>if g=f then(g,v)::r else(g,x)::vL f v r
theorem AE(f g:Str)(v:V):∀fs:T0 (Str×V),(vL f v fs).lookup g=if g=f then ga v else fs.lookup g
 | []=>by
  show List.lookup g [(f,v)]=_;by_cases h:g=f
  .have hb:(g==f)=Db:=fg.mpr h;simp only[List.lookup,hb,dh h]
  .have hb:(g==f)=pc:=gg.mpr h;simp only[List.lookup,hb,dg h]
 | (k,x)::r=>by
  have ih:=AE f g v r;rw[show vL f v ((k,x)::r)=(if k=f then(k,v)::r else(k,x)::vL f v r)from Z'];by_cases hk:k=f
  .rw[dh hk];by_cases h:g=k
   .have hb:(g==k)=Db:=fg.mpr h;simp only[List.lookup,hb,dh (h.trans hk)]
   .have hb:(g==k)=pc:=gg.mpr h;simp only[List.lookup,hb,dg (λe:g=f=>h (e.trans hk.symm))]
  .rw[dg hk];by_cases h:g=k
   .have hb:(g==k)=Db:=fg.mpr h;simp only[List.lookup,hb,dg (λe:g=f=>hk (h.symm.trans e))]
   .have hb:(g==k)=pc:=gg.mpr h;simp only[List.lookup,hb];exact ih
theorem Ap(f:Str)(v:V):∀fs:T0 (Str×V),f∈(vL f v fs).map (·.1)/\∀g,g∈fs.map (·.1)->g∈(vL f v fs).map (·.1)
 | []=>⟨by simp[vL],λg h=>by simp at h⟩
 | (k,x)::r=>by
  obtain⟨i1,i2⟩:=Ap f v r;rw[show vL f v ((k,x)::r)=(if k=f then(k,v)::r else(k,x)::vL f v r)from Z'];by_cases hk:k=f
  .rw[dh hk];subst hk;exact⟨by simp,λg h=>by simpa using h⟩
  .rw[dg hk];refine⟨?_,λg h=>?_⟩
   .rw[d4];exact dH _ i1
   .rw[d4]at h ⊢;rcases dC.mp h with e|e
    .exact dC.mpr (.inl e)
    .exact dH _ (i2 g e)
theorem AF(f:Str)(v:V):∀fs:T0 (Str×V),(vL f v fs).length<=fs.length+1
 | []=>by simp[vL]
 | (k,x)::r=>by
  have ih:=AF f v r;rw[show vL f v ((k,x)::r)=(if k=f then(k,v)::r else(k,x)::vL f v r)from Z'];by_cases hk:k=f
  .rw[dh hk,eB,eB];lia
  .rw[dg hk,eB,eB];lia
def xM.some_of{v:V}(r:xM (ga v) o):∃u,o=ga u/\qM v u:=by
 cases o with
 | none=>exact(show False from r).elim
 | some u=>exact⟨u,Z',r⟩
def xM.none_of{o:Option Vl}(r:xM Fa o):o=Fa:=by
 cases o with
 | none=>rfl
 | some u=>exact(show False from r).elim
def Lg{u:Vl}(r:qM v u):W.handedIn u=Db:=by
 cases v with
 | mK=>cases(show u=Value.none from r);rfl
 | bl b=>cases(show u=Value.bool b from r);rfl
 | int i=>obtain⟨t,e⟩:=(show ∃t,u=Value.int i t from r);cases e;rfl
 | str x=>obtain⟨t,e⟩:=(show ∃t,u=Value.str x t from r);cases e;rfl
 | byt b=>obtain⟨t,e⟩:=(show ∃t,u=Value.bytes b t from r);cases e;rfl
 | flt b=>obtain⟨t,e⟩:=(show ∃t,u=Value.float b t from r);cases e;rfl
 | ref a=>cases(show u=Value.ref a from r);rfl
 | ty n=>cases(show u=Value.type n from r);rfl
section
variable {P:Pg}{w:Wo}{a:Uf}{fs fs':T0 (Str × V)}
def BF(mR:yL P w H h)(e:H a=ga (.ins C dx fs)):∃mA,Ih h a dx C mA/\(∀f,xM (fs.lookup f) (mA f))/\PySem.Within mA (fs.map (·.1))/\fs.length<=1000/\H dx=ga (.own a):=by obtain⟨d,z,ne,ob,mA,n,r,q⟩:=(show sC P w H h a (.ins C dx fs)from mR a _ e);exact⟨mA,⟨ob,n,ne⟩,r,q,z,d⟩
end
structure Cls(K:qy)(C:Uf):Prop where
 pg:W.plainGet K C Str.empty=Db
 hd:W.hasDictIn K C=Db
 po:W.plainOver K C=Db
 sa:W.findIn K (.ref C) "__setattr__"=ga (ga (.builtin "object.__setattr__"))
def Cls.get{K:qy}(c:Cls K C)(f:Str):W.plainGet K C f=Db:=c.pg
def uf(K:qy)(C:Uf)(f:Str):Prop:=W.findIn K (.ref C) f=ga Fa
def uf.oU{K:qy}(n:uf K C f):W.takerIn K C f=ga Fa:=by unfold W.takerIn;rw[show W.findIn K (.ref C) f=ga Fa from n];rfl
structure vK(K:qy)(C:Uf)(m:Str)(f:Uf):Prop where
 at_:W.findIn K (.ref C) m=ga (ga (.ref f))
 fn:W.isFn K (.ref f)=Db
 kp:W.keepIn K (.ref f)=Db
section
variable {Y:St}{a:Uf}{fs:T0 (Str × V)}{f:Str}{v:V}{E:QQX}
def B7{b:Bool}{Q:QQX}(I:Inv X XU Y H s)(e:H a=ga (.ins C dx fs))(c:Cls X.K C)(n:uf X.K C f)(l:fs.lookup f=ga v) (h:∀u s',Inv X XU Y H s'->qM v u->Q u s'):pi (Tk X.prog X.w) A (getAttr (.ref a) f b) Q E s:=by
 obtain⟨mA,O,r,_,_,_⟩:=BF I.mR e;obtain⟨u,hu,ru⟩:=xM.some_of (v:=v) (o:=mA f) (by rw[<-l];exact r f);exact Pd I.m7 O (c.get f) c.hd n hu (Lg ru) (h u _ (I.tok _) ru)
def BH{pl:Sem Bool}{Q:Vl×T0 Vl->Sd->Prop}(I:Inv X XU Y H s)(e:H a=ga (.ins C dx fs))(c:Cls X.K C)(k:vK X.K C m g)(l:fs.lookup m=Fa) (h:Q (.ref g,[.ref a]) s):pi (Tk X.prog X.w) A (TW (.ref a) m pl) Q E s:=by
 obtain⟨mA,O,r,_,_,_⟩:=BF I.mR e;have hn:mA m=Fa:=xM.none_of (by rw[<-l];exact r m);exact N8 I.m7 O (c.get m) k.at_ k.fn hn h
def BV{u:Vl}{Q:Unit->Sd->Prop}(I:Inv X XU Y H s)(e:H a=ga (.ins C dx fs))(c:Cls X.K C)(n:uf X.K C f)(hl:fs.length<1000)(ry:qM y u) (h:∀s',Inv X XU Y (upd H a (.ins C dx (vL f y fs))) s'->Q () s'):pi (Tk X.prog X.w) A (setAttr (.ref a) f u) Q E s:=by
 obtain⟨mA,O,r,wi,_,ho⟩:=BF I.mR e;have hz:(fs.map (·.1)).length<=Ch:=by rw[cY,dQ];lia
 refine PL I.m7 O c.sa c.po n.oU c.hd wi hz λh' O' sb=>h _ ?_;have hd:∃o,h'.get? dx=ga o:=let⟨o,_,_,e',_⟩:=O'.ns;⟨o,e'⟩;refine I.write (x:=a) (e:=dx) (by rw[e];exact True.intro) (.inr ho) (λb q hb z=>(sb.2 b hb).trans z) hd ?_;refine⟨by rw[qd O.ne];exact ho,?_,O.ne,O'.obj,_,O'.ns,λg=>?_,λg hg=>?_⟩
 .have:=AF f y fs;lia
 .show xM ((vL f y fs).lookup g) (if g=f then ga u else mA g);rw[AE];by_cases q:g=f
  .rw[dh q,dh q];exact ry
  .rw[dg q,dg q];exact r g
 .by_cases q:g=f
  .rw[q];exact(Ap f y fs).1
  .refine(Ap f y fs).2 g (wi g λz=>hg ?_);show(if g=f then ga u else mA g)=Fa;rw[dg q];exact z
def Inv.made(I:Inv X XU Y H s):Inv X XU Y (upd (upd H s.heap.objs.size (.own (s.heap.objs.size+1))) (s.heap.objs.size+1) (.ins C s.heap.objs.size [])) {s with heap:=(s.heap.push W.emptyDict).push (W.instObj C s.heap.objs.size)}:=by
 have e1:(s.heap.push W.emptyDict).get? s.heap.objs.size=ga W.emptyDict:=dO s.heap Z';have e2:((s.heap.push W.emptyDict).push (W.instObj C s.heap.objs.size)).get? (s.heap.objs.size+1)=ga (W.instObj C s.heap.objs.size):=by
  have:=dO (s.heap.push W.emptyDict) (o:=W.instObj C s.heap.objs.size) Z'
  rwa [fS]at this
 have e3:(s.heap.push W.emptyDict).Ns s.heap.objs.size (λ_=>Fa):=⟨W.emptyDict,#[],_,e1,Z',(λe he=>absurd he (by simp)),λ_=>rfl⟩;have I1:=I.laid (a:=s.heap.objs.size) (o:=.own (s.heap.objs.size+1)) (h':=s.heap.push W.emptyDict) (t':=s.toks) (λb u q=>dq _ q) (dv _) ⟨_,e1⟩;refine I1.laid (a:=s.heap.objs.size+1) (o:=.ins C s.heap.objs.size []) (t':=s.toks) (λb u q=>dq _ q) (jE (fS _ _)) ?_;have ne:s.heap.objs.size≠s.heap.objs.size+1:=dW (fO _);refine⟨by rw[qd ne,qg],e9 _,ne,e2,λ_=>Fa,(lw e3).at λo q=>dq _ q,λ_=>True.intro,λy hy=>absurd Z' hy⟩
def QS{prog:Pg}{w:Wo}{env:Env}{e:Go}{f:Str}{s:Sd}{Q:QQX}(hb:Rs e f env (wp e env)=wp e env) (h:pi (Tk prog w) A (wp e env) (λo s₁=>pi (Tk prog w) A (getAttr o f Db) Q E s₁) E s):pi (Tk prog w) A (wp (.Attribute e f pos) env) Q E s:=
 Attribute_any_ h (by rw[arm_eval_Attribute,hb])
end
def WX(K:qy)(ta:TE)(f:Str):TE:=λY H Q=>ta Y H λx H1=>∃a C dx fs v,x=.ref a/\H1 a=ga (.ins C dx fs)/\Cls K C/\uf K C f/\fs.lookup f=ga v/\Q v H1
def WY(K:qy)(ta tv:TE)(f:Str):TS:=λD Y H=>tv Y H λy H1=>ta Y H1 λx H2=>∃a C dx fs,x=.ref a/\H2 a=ga (.ins C dx fs)/\Cls K C/\uf K C f/\fs.length<1000/\
 D.nx Y (upd H2 a (.ins C dx (vL f y fs)))
def PR(X:Cx)(op:XXf)(rd:V->V->Hp->VK->Prop):Prop:=
 ∀(XU:QQY) (s:Sd) (Y:St) (H:Hp) (x y:V) (u v:Vl) (Q:VK),Inv X XU Y H s->qM x u->qM y v->rd x y H Q->pi (Tk X.prog X.w) X.A (inplaceOp op u v) (EP X XU Y Q) X.xe s
def Qf(K:qy)(ta tv:TE)(rd:V->V->Hp->VK->Prop)(f:Str):TS:=λD Y H=>ta Y H λx H1=>∃a C dx fs v,x=.ref a/\H1 a=ga (.ins C dx fs)/\Cls K C/\uf K C f/\fs.lookup f=ga v/\
 tv Y H1 λy H2=>rd v y H2 λz H3=>∃dx' fs',H3 a=ga (.ins C dx' fs')/\fs'.length<1000/\D.nx Y (upd H3 a (.ins C dx' (vL f z fs')))
variable {value:Go}{X5 YV:Pos}{tv:TE}
section
variable {o e:Go}{f:Str}
def Si(he:PE X e ta)(hb:Rs e f X.env (wp e X.env)=wp e X.env):PE X (.Attribute e f pos) (WX X.K ta f):=by intro XU s Y H Q I h;refine QS hb (sf (he XU s Y H _ I h) λu s1 zz=>?_);obtain⟨x,H1,I1,rx,a,C,dx,fs,v,ex,ea,c,n,l,q⟩:=zz;subst ex;obtain rfl:u=Value.ref a:=rx;exact B7 I1 ea c n l λu' s2 I2 ru=>⟨v,H1,I2,ru,q⟩
def SM(ha:PE X o ta)(hv:PE X value tv)(hs:sB value (ga (.Attribute o f X5)) pos.line X.env=pure pc):PS X (.Assign [.Attribute o f X5] value pos) (WY X.K ta tv f):=by intro XU s Y H D I h;refine iT (sf (hv XU s Y H _ I h) λu s1 zz=>x5 zz λy H1 I1 ry q=>sf (ha XU s1 Y H1 _ I1 q) λov s2 zz=>?_) hs;obtain⟨x,H2,I2,rx,a,C,dx,fs,ex,ea,c,n,l,q2⟩:=zz;subst ex;obtain rfl:ov=Value.ref a:=rx;exact BV I2 ea c n l ry λs3 I3=>⟨Y,_,I3,q2⟩
def Kw(ha:PE X o ta)(hv:PE X value tv)(hop:PR X op rd):PS X (.AugAssign (.Attribute o f YV) op value pos) (Qf X.K ta tv rd f):=by intro XU s Y H D I h;refine wpAny_AugAssign_AttributeAny (sf (ha XU s Y H _ I h) λov s1 zz=>?_);obtain⟨x,H1,I1,rx,a,C,dx,fs,v,ex,ea,c,n,l,q⟩:=zz;subst ex;obtain rfl:ov=Value.ref a:=rx;refine B7 I1 ea c n l λu s2 I2 ru=>sf (hv XU s2 Y H1 _ I2 q) λw3 s3 zz=>x5 zz λy H2 I3 ry q3=>sf (hop XU s3 Y H2 v y u w3 _ I3 ru ry q3) λw4 s4 zz=>?_;obtain⟨z,H3,I4,rz,dx',fs',ea',l',q4⟩:=zz;exact BV I4 ea' c n l' rz λs5 I5=>⟨Y,_,I5,q4⟩
def WE:V->V->Hp->VK->Prop:=λx y H Q=>∃i j,x=.int i/\y=.int j/\Q (.int (i+j)) H
def Wu:V->V->Hp->VK->Prop:=λx y H Q=>∃i j,x=.int i/\y=.int j/\Q (.int (i - j)) H
def SU:PR X .Add WE:=by
 rintro XU s Y H x y u v Q I rx ry ⟨i,j,rfl,rfl,q⟩
 obtain⟨t,rfl⟩:=(show ∃t,u=Value.int i t from rx);obtain⟨t',rfl⟩:=(show ∃t',v=Value.int j t' from ry);exact PyProof.Rows.iadd_int ⟨.int (i+j),H,I.tok _,⟨_,Z'⟩,q⟩
def T4:PR X .Sub Wu:=by
 rintro XU s Y H x y u v Q I rx ry ⟨i,j,rfl,rfl,q⟩
 obtain⟨t,rfl⟩:=(show ∃t,u=Value.int i t from rx);obtain⟨t',rfl⟩:=(show ∃t',v=Value.int j t' from ry);exact PyProof.Rows.isub_int ⟨.int (i - j),H,I.tok _,⟨_,Z'⟩,q⟩
end
variable {Q:QQX}
section
variable {Y:St}{E:QQX}{c:Vl}{b:Bool}
inductive AV(K:qy)(H:Hp):V->Vl->Prop where
 | mK:AV K H .mK (.type "NoneType")
 | bl (x:Bool):AV K H (.bl x) (.type "bool")
 | int (i:Int):AV K H (.int i) (.type "int")
 | str (x:Str):AV K H (.str x) (.type "str")
 | flt (x:UInt64):AV K H (.flt x) (.type "float")
 | lst {a:Uf} {xs:List V} (e:H a=ga (.lst xs)):AV K H (.ref a) (.type "list")
 | frz {a:Uf} {o:Obj} {xs:List V} (e:H a=ga (.frz o (.lst xs))):AV K H (.ref a) (.type "list")
 | tup {a:Uf} {xs:List V} (e:H a=ga (.tup xs)):AV K H (.ref a) (.type "tuple")
 | dK {a:Uf} {kvs:List (qW×V)} (e:H a=ga (.dK kvs)):AV K H (.ref a) (.type "dict")
 | dT {a:Uf} {kvs:List (List qW×V)} (e:H a=ga (.dT kvs)):AV K H (.ref a) (.type "dict")
 | ins {a C dx:Uf} {fs:List (Str×V)} (e:H a=ga (.ins C dx fs)) (cl:Cls K C) (ha:W.findIn K (.ref C) "__class__"=ga (ga (.builtin "object.__class__")))
   (hn:W.specialIn K (.builtin "object.__class__") "__get__"=ga (ga (.builtin "getset_descriptor.__get__"))) (htk:W.takesIn K (.builtin "object.__class__")=ga Db)
   (hm:W.mroIn K C (.type "object")=ga Db):AV K H (.ref a) (.ref C)
def uI{u t:Vl}(I:Inv X XU Y H s)(rx:qM x u)(ty:AV X.K H x t)(e:W.kitOne X.K t c=ga b)(h:∀tk,Q (.bool b) {s with toks:=tk}):
  pi (Tk X.prog X.w) A (call (.builtin "isinstance") [u,c]) Q E s:=by
 cases ty with
 | mK=>cases(show u=Value.none from rx);exact gC W.kitx_none I.m7 True.intro e (λz=>nomatch z) h
 | bl y=>cases(show u=Value.bool y from rx);exact gC W.kitx_bool I.m7 True.intro e (λz=>nomatch z) h
 | int i=>obtain⟨t,q⟩:=(show ∃t,u=Value.int i t from rx);cases q;exact gC W.kitx_int I.m7 True.intro e (λz=>nomatch z) h
 | str y=>obtain⟨t,q⟩:=(show ∃t,u=Value.str y t from rx);cases q;exact gC W.kitx_str I.m7 True.intro e (λz=>nomatch z) h
 | flt y=>obtain⟨t,q⟩:=(show ∃t,u=Value.float y t from rx);cases q;exact gC W.kitx_float I.m7 True.intro e (λz=>nomatch z) h
 | @lst a xs ea=>cases(show u=Value.ref a from rx);obtain⟨_,_,n,_,h1⟩:=(show sC X.prog X.w H s.heap a (.lst xs)from I.mR a _ ea);exact gC lD I.m7 ⟨_,h1,Z'⟩ e (λz=>nomatch z) h
 | @frz a ob xs ea=>cases(show u=Value.ref a from rx);obtain⟨_,_,_,n,_,h1⟩:=(show sC X.prog X.w H s.heap a (.frz ob (.lst xs))from I.mR a _ ea);exact gC lD I.m7 ⟨_,h1,Z'⟩ e (λz=>nomatch z) h
 | @tup a xs ea=>cases(show u=Value.ref a from rx);obtain⟨_,_,_,p⟩:=(show sC X.prog X.w H s.heap a (.tup xs)from I.mR a _ ea);obtain⟨o,h1,h2,_⟩:=p;exact gC W.kitx_tuple I.m7 ⟨o,h1,h2⟩ e (λz=>nomatch z) h
 | @dK a kvs ea=>cases(show u=Value.ref a from rx);obtain⟨_,_,vs,_,p⟩:=(show sC X.prog X.w H s.heap a (.dK kvs)from I.mR a _ ea);obtain⟨o,es,ep,h1,h2,_⟩:=p;exact gC W.kitx_dict I.m7 ⟨o,h1,h2.1⟩ e (λz=>nomatch z) h
 | @dT a kvs ea=>cases(show u=Value.ref a from rx);obtain⟨_,_,xs,_,o,es,ep,h1,h2,_⟩:=(show sC X.prog X.w H s.heap a (.dT kvs)from I.mR a _ ea);exact gC W.kitx_dict I.m7 ⟨o,h1,h2.1⟩ e (λz=>nomatch z) h
 | @ins a C dx fs ea cl ha hn htk hm=>cases(show u=Value.ref a from rx);obtain⟨mA,O,_⟩:=BF I.mR ea;obtain⟨od,J,_⟩:=O.look;exact gC (W.kitx_own (cl.get _) cl.hd ha hn htk hm) I.m7 J e (λz=>nomatch z) h
end
structure sj(k:Nat)(A:Ar):Prop where
 hd:A.handled=Fa
 dp:A.depth+3*k+5<recursionLimit
 un:A.units+16*k+200<wP
def sj.mono{j k:Nat}(r:sj k A)(h:j<=k):sj j A:=⟨r.hd,by have:=r.dp;lia,by have:=r.un;lia⟩
def sj.deeper{k:Nat}(r:sj (k+1) A)(env:Env):sj k (A.deeper env):=
 ⟨r.hd,by have:=r.dp;show A.depth+1+3*k+5<_;lia,by have:=r.un;show A.units+3+16*k+200<_;lia⟩
def IC{A:Ar}{C:Uf}{us:T0 Vl}{kw:T0 (Str×Vl)}:(A.under (.builtin "type.__call__" ⟨.ref C::us,kw⟩)).depth=A.depth+1:=by first|rfl|simp[Around.under,Code.weight,Code.isCreation,Code.isGuard,Code.isCaller,Code.frames,Code.isFrame,guardIds]
def HI{A:Ar}{C:Uf}{us:T0 Vl}{kw:T0 (Str×Vl)}:(A.under (.builtin "type.__call__" ⟨.ref C::us,kw⟩)).units=A.units+1:=by first|rfl|simp[Around.under,Code.cUnits,Code.frames,Code.isFrame]
def sj.make{k:Nat}(r:sj (k+1) A)(C:Uf)(us:T0 Vl)(kw:T0 (Str×Vl)):sj k (A.under (.builtin "type.__call__" ⟨.ref C::us,kw⟩)):=
 ⟨r.hd,by have:=r.dp;rw[IC];lia,by have:=r.un;rw[HI];lia⟩
def sj.depth(r:sj k A):A.depth<recursionLimit:=by have:=r.dp;lia
def sj.units(r:sj k A):A.units+64<wP:=by have:=r.un;lia
def VR:TA:=λ_ H Q=>Q [] H
def UN(ta:TE)(tr:TA):TA:=λY H Q=>ta Y H λx H1=>tr Y H1 λxs H2=>Q (x::xs) H2
variable {es:T0 Go}
section
variable {e:Go}{t:TA}
def SV:PA X [] VR:=λ_ _ _ _ H Q I h=>iK ⟨[],H,I,.nil,h⟩
def OR(ha:PE X e te)(hr:PA X es t)(hs:By X e es:=by rfl):PA X (e::es) (UN te t):=by intro pos XU s Y H Q I h;rw[hs];show pi _ _ (spliced ((pc,wp e X.env)::xz pos (Tl es X.env))) _ _ s;refine hU (sf (ha XU s Y H _ I h) λu s1 zz=>x5 zz λx H1 I1 r1 q1=>?_);exact sf (hr pos XU s1 Y H1 _ I1 q1) λus s2 zz=>x5 zz λxs H2 I2 r2 q2=>⟨x::xs,H2,I2,.cons r1 r2,q2⟩
def Wp(t:TA):TE:=λY H Q=>t Y H λxs H1=>xs.length<=Ch/\∀p,H1 p=Fa->Q (.ref p) (upd H1 p (.tup xs))
def Wh(t:TA):TE:=λY H Q=>t Y H λxs H1=>xs.length<=Ch/\∀p,H1 p=Fa->Q (.ref p) (upd H1 p (.lst xs))
def RP{x1}(h:PA X es t):PE X (.Tuple es x1 pos) (Wp t):=by intro XU s Y H Q I hq;refine wpAny_Tuple_spliced (sf (h pos XU s Y H _ I hq) λus s1 ⟨xs,H1,I1,r,z,q⟩=>⟨by rw[<-r.length];exact z,?_⟩);have hf:H1 s1.heap.objs.size=Fa:=I1.mR.fresh (dv _);refine⟨.ref s1.heap.objs.size,upd H1 s1.heap.objs.size (.tup xs),I1.laid (t':=s1.toks) (λb u e=>dq _ e) (dv _) ?_,Z',q _ hf⟩;exact⟨z,us,r,⟨_,dO _ Z',Z',⟨_,Z'⟩,Z'⟩⟩
def SQ(h:PA X es t):PE X (.List es pos) (Wh t):=by intro XU s Y H Q I hq;refine wpAny_List_spliced (sf (h pos XU s Y H _ I hq) λus s1 ⟨xs,H1,I1,r,z,q⟩=>⟨by rw[<-r.length];exact z,?_⟩);have hf:H1 s1.heap.objs.size=Fa:=I1.mR.fresh (dv _);refine⟨.ref s1.heap.objs.size,upd H1 s1.heap.objs.size (.lst xs),I1.laid (t':=s1.toks) (λb u e=>dq _ e) (dv _) ?_,Z',q _ hf⟩;exact⟨z,us,0,r,dO _ Z'⟩
end
abbrev Sp:=T0 V->Hp->VK->XK->Prop
abbrev Lm:=T0 Env->Hp->Sd->XK->Vl->Sd->Prop
structure HG(P:Pg)(w:Wo)(K:qy)(mg:QQZ)(base:No)(A:Ar)(outer:List Env)(s:Sd)(H:Hp):Prop where
 frames:A.frames=ga outer
 mod:Mod K mg base
 bs:∀b o,base.get? b=ga o->s.heap.get? b=ga o/\H b=Fa
 nY:base.objs.size<=s.heap.objs.size
 nA:s.heap.FunFrames base outer
 oq:∀b∈ww outer,H b=Fa
 mR:yL P w H s.heap
 bare:XXk s.gens
def CE(outer:T0 Env)(P:Pg)(w:Wo)(H:Hp)(s:Sd)(Q:VK)(u:Vl)(s':Sd):Prop:=
 ∃v H',s'.os=s.os/\XXk s'.gens/\Un (ww outer) [] H H' s.heap s'.heap/\yL P w H' s'.heap/\qM v u/\Q v H'
def CR(CX:Lm)(outer:T0 Env)(P:Pg)(w:Wo)(H:Hp)(s:Sd)(Q:VK)(E:XK)(r:Result)(s':Sd):Prop:=
 match r with
 | .ok (.ret u)=>CE outer P w H s Q u s'
 | .ok _=>False
 | .error e=>CX outer H s E e s'
structure xN(P:Pg)(w:Wo)(K:qy)(mg:QQZ)(base:No)(CX:Lm)(k:Nat)(f:Uf)(fd:wv)(ps:QQQ)(sp:Sp):Prop where
 len:∀vs H Q E,sp vs H Q E->vs.length=ps.length
 run:∀(A:Ar) (outer:List Env) (s:Sd) (H:Hp) (args:Args) (us:List Vl) (vs:List V) (Q:VK) (E:XK),sj k A->HG P w K mg base A outer s H->BindsTo s fd args (ps.zip us)->qA vs us->sp vs H Q E->
  XXh (Tk P w) A (.call (.ref f) args) (CR CX outer P w H s Q E) s
def HG.make{K:qy}(e:HG P w K mg base A outer s H)(C:Uf)(us:T0 Vl)(kw:T0 (Str×Vl)):
  HG P w K mg base (A.under (.builtin "type.__call__" ⟨.ref C::us,kw⟩)) outer s H:=⟨by first|exact e.frames|(simpa [Around.under,Code.envs,Code.isFrame,pushEnvs]using e.frames),e.mod,e.bs,e.nY,e.nA,e.oq,e.mR,e.bare⟩
variable {s':Sd}
section
variable {Y:St}
def Inv.om(I:Inv X XU Y H s):HG X.prog X.w X.K X.mg X.base X.A X.stack s H:=
 ⟨I.ok.frames,I.ok.mod,I.bs,d9 I.ok.nY I.sz,I.stack,I.nG,I.mR,I.bare⟩
def Inv.after{Q:VK}{u:Vl}(I:Inv X XU Y H s)(h:CE X.stack X.prog X.w H s Q u s'):EP X XU Y Q u s':=by obtain⟨v,H',os,bare,un,mR,r,q⟩:=h;obtain⟨hh,g,d,t,os'⟩:=s';obtain rfl:os'=s.os:=os;exact⟨v,H',I.call (h':=hh) (g':=g) (d':=d) (t':=t) (ch:=[]) un mR bare (λb z=>absurd z (by simp)),r,q⟩
end
def U8(sp:Sp)(YG:T0 V)(E:XK)(t:TA):TE:=λY H Q=>t Y H λvs H1=>sp (vs++YG) H1 Q E
def Vo(C:Uf)(sp:Sp)(YG:T0 V)(E:XK)(t:TA):TE:=λY H Q=>t Y H λvs H1=>∀x dx,H1 x=Fa->H1 dx=Fa->dx≠x->
 sp (.ref x::(vs++YG)) (upd (upd H1 dx (.own x)) x (.ins C dx [])) (λv H2=>v=.mK/\Q (.ref x) H2) E
def uY(K:qy)(fd:wv)(ps:QQQ)(ds:T0 Vl):Prop:=
 ∀(s:Sd) (us:T0 Vl),K.In s.heap->(us++ds).length=ps.length->BindsTo s fd ⟨us,[]⟩ (ps.zip (us++ds))
def uY.all{K:qy}{fd:wv}{ps:QQQ}(h:∀us:T0 Vl,us.length=ps.length->bindArgs fd ⟨us,[]⟩=pure (ps.zip us)):uY K fd ps []:=λs us _ hl=>by rw[eO]at hl ⊢;exact .of_eq (h us hl)
def CV(CX:Lm)(X:Cx)(E:XK):Prop:=∀(XU:QQY) (Y:St) (H:Hp) (s:Sd) (e:Vl) (s':Sd),Inv X XU Y H s->CX X.stack H s E e s'->X.xe e s'
variable {CX:Lm}{k:Nat}{fd:wv}{ps:QQQ}{sp:Sp}{YG:T0 V}{ds:T0 Vl}{m:Str}{p XY:Pos}
section
variable {f:Uf}{E:XK}{x:Str}{e o:Go}{t:TA}
def FS{XU:QQY}{Q:VK}(F:xN X.prog X.w X.K X.mg X.base CX k f fd ps sp)(hr:sj k X.A)(hb:uY X.K fd ps ds)(hd:qA YG ds)(hx:CV CX X E) (I:Inv X XU Y H s) (r:qA vs us) (h:sp (vs++YG) H Q E):pi (Tk X.prog X.w) X.A (call (.ref f) us) (EP X XU Y Q) X.xe s:=by
 have r2:qA (vs++YG) (us++ds):=r.append hd;have hl:(us++ds).length=ps.length:=by rw[<-r2.length];exact F.len _ _ _ _ h
 refine iU (gU (F.run X.A X.stack s H ⟨us,[]⟩ (us++ds) (vs++YG) Q E hr I.om (hb s us I.m7 hl) r2 h) λr s' hq=>?_);cases r with
 | error e=>exact hx XU Y H s e s' I hq
 | ok fl=>
  cases fl with
  | ret u=>exact I.after hq
  | next=>exact False.elim hq
  | brk=>exact False.elim hq
  | cont=>exact False.elim hq
def Pr(F:xN X.prog X.w X.K X.mg X.base CX k f fd ps sp)(hr:sj k X.A)(hg:Gl X x)(hm:X.mg x=ga (.ref f))(hk:W.keepIn X.K (.ref f)=Db)(hb:uY X.K fd ps ds)(hd:qA YG ds)(hx:CV CX X E) (ha:PA X (e::es) t) (Ye:zu x:=by decide) (he:By X e es:=by rfl) (Yb:C6 X pos es:=by rfl):
  PE X (.Call (.Name x p) (e::es) [] pos) (U8 sp YG E t):=by
 intro XU s Y H Q I h;refine gw (xk I hg hm ?_ Ye);refine iV (h₀:=X.base) I.ok.mod.oo hk (sf (ha pos XU s Y H _ I h) λus s1 zz=>x5 zz λvs H1 I1 r q=>⟨I1.m7,?_⟩) he Yb;exact FS F hr hb hd hx I1 r q
structure Mk(K:qy)(C f:Uf):Prop where
 makes:W.makesIn K C=Db
 init:W.findIn K (.ref C) "__init__"=ga (ga (.ref f))
 fn:W.isFn K (.ref f)=Db
 kp:W.keepIn K (.ref C)=Db
def Nw{XU:QQY}{Q:VK}(M:Mk X.K C f)(F:xN X.prog X.w X.K X.mg X.base CX k f fd ps sp)(hr:sj (k+1) X.A)(hb:uY X.K fd ps ds)(hd:qA YG ds) (hx:CV CX X E) (I:Inv X XU Y H s) (r:qA vs us) (h:∀x dx,H x=Fa->H dx=Fa->dx≠x->sp (.ref x::(vs++YG)) (upd (upd H dx (.own x)) x (.ins C dx [])) (λv H2=>v=.mK/\Q (.ref x) H2) E):
  pi (Tk X.prog X.w) X.A (call (.ref C) us) (EP X XU Y Q) X.xe s:=by
 have hq:=h (s.heap.objs.size+1) s.heap.objs.size (I.mR.fresh (ia _)) (I.mR.fresh (dv _)) (dW (fO _));have I2:=Inv.made (C:=C) I;have r2:qA (V.ref (s.heap.objs.size+1)::(vs++YG)) (Value.ref (s.heap.objs.size+1)::(us++ds)):=.cons Z' (r.append hd);have hl:(Value.ref (s.heap.objs.size+1)::us++ds).length=ps.length:=by have e:=r2.length;rw[F.len _ _ _ _ hq]at e;exact e.symm
 refine iU (LO (f:=f) I.m7 M.makes M.init (fg.mp M.fn) (gU (F.run _ X.stack _ _ ⟨Value.ref (s.heap.objs.size+1)::us,[]⟩ (Value.ref (s.heap.objs.size+1)::(us++ds)) _ _ E (hr.make C us [])
  (I2.om.make C us []) (hb _ (Value.ref (s.heap.objs.size+1)::us) I2.m7 hl) r2 hq) λr s' Zz=>?_))
 cases r with
 | error e=>exact hx XU Y _ _ e s' I2 Zz
 | ok fl=>
  cases fl with
  | ret u=>obtain⟨v,H',I3,rv,ev,q3⟩:=I2.after Zz;subst ev;exact⟨rv,⟨V.ref (s.heap.objs.size+1),H',I3,Z',q3⟩⟩
  | next=>exact False.elim Zz
  | brk=>exact False.elim Zz
  | cont=>exact False.elim Zz
def Qv(M:Mk X.K C f)(F:xN X.prog X.w X.K X.mg X.base CX k f fd ps sp)(hr:sj (k+1) X.A)(hg:Gl X x)(hm:X.mg x=ga (.ref C))(hb:uY X.K fd ps ds)(hd:qA YG ds)(hx:CV CX X E) (ha:PA X (e::es) t) (Ye:zu x:=by decide) (he:By X e es:=by rfl) (Yb:C6 X pos es:=by rfl):
  PE X (.Call (.Name x p) (e::es) [] pos) (Vo C sp YG E t):=by
 intro XU s Y H Q I h;refine gw (xk I hg hm ?_ Ye);refine iV (h₀:=X.base) I.ok.mod.oo M.kp (sf (ha pos XU s Y H _ I h) λus s1 zz=>x5 zz λvs H1 I1 r q=>⟨I1.m7,?_⟩) he Yb;exact Nw M F hr hb hd hx I1 r q
end
variable {g:T0 Vl→T0 Vl→T0 Vl}{gV:T0 V→T0 V→T0 V}{ks:QQQ}{kpos:Pos}{kws:T0 XXc}{tk:TA}{nm:Option Str}
section
variable {f:Uf}{E:XK}{x:Str}{e o:Go}{t:TA}
end
structure tw(N P:QQQ)(sc:XXb):Prop where
 kind:sc.kind=.function
 co:sc.isCoroutine=pc
 gen:sc.isGenerator=pc
 nd:N.Nodup
 pre:N.take P.length=P
 par:∀x∈P,sc.names.lookup x=ga .local\/sc.names.lookup x=ga .cell
 pq:∀y∈sc.names,y.2≠.free
theorem D4{kindOf:Str->Option wT}{x:Str}:∀{binds:T0 (Str×Vl)} {m:QQZ},(∀v,(x,v)∉binds)->bindL kindOf binds m x=m x
 | [],_,_=>rfl
 | (n,v)::r,m,h=>by
  unfold bindL;rw[D4 λw hw=>h w (dH _ hw)];split
  .have:x≠n:=by rintro rfl;exact h v dP
   simp[this]
  .rfl
theorem DE{kindOf:Str->Option wT}{x:Str}:∀{binds:T0 (Str×Vl)} {m:QQZ},(∀v,(x,v)∉binds)->bindC kindOf binds m x=m x
 | [],_,_=>rfl
 | (n,v)::r,m,h=>by
  unfold bindC;rw[DE λw hw=>h w (dH _ hw)];split
  .rfl
  .have:x≠n:=by rintro rfl;exact h v dP
   simp[this]
theorem En{kindOf:Str->Option wT}{x:Str}{v:Vl}:∀{P:QQQ} {vs:T0 Vl} {i:Nat} {m:QQZ},P.Nodup->P[i]?=ga x->vs[i]?=ga v->kindOf x=ga .local->
  bindL kindOf (P.zip vs) m x=ga v
 | [],_,_,_,_,h,_,_=>by simp at h
 | _::_,[],_,_,_,_,h,_=>by simp at h
 | p::P,w::vs,0,m,nd,h1,h2,hk=>by simp at h1 h2;subst h1;subst h2;show bindL kindOf ((p,w)::P.zip vs) m p=_;unfold bindL;rw[D4 λv hv=>(dS.mp nd).1 (jU hv).1,dh hk];simp
 | p::P,w::vs,i+1,m,nd,h1,h2,hk=>by show bindL kindOf ((p,w)::P.zip vs) m x=_;unfold bindL;exact En (i:=i) (dS.mp nd).2 (by simpa using h1) (by simpa using h2) hk
theorem DF{kindOf:Str->Option wT}{x:Str}{v:Vl}:∀{P:QQQ} {vs:T0 Vl} {i:Nat} {m:QQZ},P.Nodup->P[i]?=ga x->vs[i]?=ga v->kindOf x≠ga .local->
  bindC kindOf (P.zip vs) m x=ga v
 | [],_,_,_,_,h,_,_=>by simp at h
 | _::_,[],_,_,_,_,h,_=>by simp at h
 | p::P,w::vs,0,m,nd,h1,h2,hk=>by simp at h1 h2;subst h1;subst h2;show bindC kindOf ((p,w)::P.zip vs) m p=_;unfold bindC;rw[DE λv hv=>(dS.mp nd).1 (jU hv).1,dg hk];simp
 | p::P,w::vs,i+1,m,nd,h1,h2,hk=>by show bindC kindOf ((p,w)::P.zip vs) m x=_;unfold bindC;exact DF (i:=i) (dS.mp nd).2 (by simpa using h1) (by simpa using h2) hk
noncomputable def start(N:QQQ)(vs:T0 V):St:=vs.map ga++List.replicate (N.length - vs.length) Fa
noncomputable def vk(CX:Lm)(P:Pg)(w:Wo)(K:qy)(mg:QQZ)(base:No)(N:QQQ)(qual:Str)(scope:XXb)(f:Uf)(cd:Vl)(A:Ar)(outer:T0 Env)(s:Sd)(H:Hp)(E:XK):Cx where
 prog:=P
 w:=w
 K:=K
 mg:=mg
 base:=base
 A:=A.deeper (dL qual scope s.heap.objs.size f cd)
 N:=N
 s₀:=s
 H₀:=H
 env:=dL qual scope s.heap.objs.size f cd
 outer:=outer
 stack:=dL qual scope s.heap.objs.size f cd::outer
 ex:=[]
 calm:=true
 fn:=λ_=>Db
 pn:=[]
 xe:=λe s'=>pi (Tk P w) (A.deeper (dL qual scope s.heap.objs.size f cd)) (leaving (dL qual scope s.heap.objs.size f cd) e) (λ_ s''=>CX outer H s E e s'') (λe' s''=>CX outer H s E e' s'') s'
def Gj{sc:XXb}{n:Nat}{x:Str}(h:sc.names.lookup x=ga .cell):∃c,(cellsFrom n sc.names []).lookup x=ga c:=by have q:=lL sc.names n [] (.inl h);exact iA.mp q
def KL{CX:Lm}{K:qy}{qual:Str}{f:Uf}{cd:Vl}{A:Ar}{E:XK}{vs:T0 V} (S:tw N ps scope) (hd:A.handled=Fa) (e0:HG P w K mg base A outer s H) (hl:vs.length=ps.length) (r:qA vs us) (x:InCallC s s.heap.objs.size (bindL (dL qual scope s.heap.objs.size f cd).kindOf (ps.zip us) λ_=>Fa) (cellsFrom (s.heap.objs.size+1) scope.names []) (bindC (dL qual scope s.heap.objs.size f cd).kindOf (ps.zip us) λ_=>Fa) s1):
  Inv (vk CX P w K mg base N qual scope f cd A outer s H E) [] (start N vs) H s1:=by
 have Yb:ps.length<=N.length:=by have:=eC List.length S.pre;rw[fu]at this;lia
 obtain⟨h1,tk,rfl,hk⟩:=x.done;have noA:∀b:Uf,b∉(vk CX P w K mg base N qual scope f cd A outer s H E).ex:=λb z=>absurd (show b∈([]:QXQ)from z) (by simp);refine⟨⟨e0.mod,S.kind,Z',Z',dv _,λy z c h1 h2=>?_,λy hy=>?_,λy c _ h=>?_,λ_=>hd,Around.frames_deeper e0.frames,.inr ⟨Z',Z'⟩,λb z=>absurd z (noA b),e0.bs,e0.nY,λb _ _=>noA b,λb z=>absurd z (noA b),e0.nA,e0.oq⟩,Z',e0.bare,Un.kept hk,⟨_,x.toInCall.ns,λi y v h1 h2 h3=>?_⟩,λy c h=>⟨_,x.cell y c h⟩,e0.mR.fresh (dv _),λy c h=>?_,λp hp=>absurd (show p∈([]:QQY)from hp) (by simp),e0.mR.kept hk,?_⟩
 .exact name_of_addr x.apart (gY h1) (gY h2)
 .have hy:scope.names.lookup y=ga .cell\/scope.names.lookup y=ga .free:=hy;rcases hy with hy|hy
  .exact Gj hy
  .exact absurd Z' (S.pq _ (gY hy))
 .exact kS (x.above y c (gY h))
 .have hi:i<vs.length:=by
   unfold start at h2;by_cases hi:i<vs.length
   .exact hi
   .rw[eP (by simpa using hi)]at h2;rw[jQ]at h2;split at h2<;>cases h2
  have ha:vs[i]?=ga v:=by
   unfold start at h2;rw[eV (by simpa using hi),dE]at h2;cases e:vs[i]? with
   | none=>rw[e]at h2;cases h2
   | some a=>rw[e]at h2;cases h2;rfl
  obtain⟨u,hu,rv⟩:=r.get ha;have hp:ps[i]?=ga y:=by rw[<-S.pre,List.getElem?_take_of_lt (by lia)];exact h1
  have ndP:ps.Nodup:=by rw[<-S.pre];exact S.nd.sublist (List.take_sublist _ _)
  refine⟨u,rv,?_⟩;rcases S.par y (fj hp)with k|k
  .exact .inl ⟨k,En ndP hp hu k⟩
  .obtain⟨c,e⟩:=Gj (n:=s.heap.objs.size+1) k;refine .inr ⟨.inl k,c,e,?_⟩;have q:=x.cell y c e;rw[DF ndP hp hu (by show scope.names.lookup y≠_;rw[k];decide)]at q;exact q
 .exact e0.mR.fresh (kS (x.above y c (gY h)))
 .unfold start;show _=N.length;rw[de,cY,iN];lia
def NP{CX:Lm}{P:Pg}{w:Wo}{K:qy}{mg:QQZ}{base:No}{f:Uf}{dV kV Yx pm X6 ct oc:Vl}{an od:Option Uf} {YR:Array (Option Vl)} {N ps:QQQ} {sp:Sp} (lk:K.lookup f=ga ⟨oc,od,.func (W.fnOf name qual params body scope dV kV Yx pm an X6 ct),YR⟩) (Y8:W.codeIn K X6 qual=Db) (S:tw N ps scope) (len:∀vs H Q E,sp vs H Q E->vs.length=ps.length) (Yg:∀(A:Ar) (outer:T0 Env) (s:Sd) (H:Hp) (vs:T0 V) (Q:VK) (E:XK),sj k (A.deeper (dL qual scope s.heap.objs.size f X6))->sp vs H Q E->
   ∃t,Cb (vk CX P w K mg base N qual scope f X6 A outer s H E) body t/\t {nx:=λ_ H'=>Q .mK H',rt:=Q} (start N vs) H):
  xN P w K mg base CX (k+1) f (W.fnOf name qual params body scope dV kV Yx pm an X6 ct) ps sp:=by
 refine⟨len,λA outer s H args us vs Q E hr e0 hb r Zl=>?_⟩;have hl:=len _ _ _ _ Zl;have KX:K.In s.heap:=e0.mod.oo.keeps λb o e=>(e0.bs b o e).1;have lim:s.heap.NoLimit:=e0.mod.nolimit.keeps λb o e=>(e0.bs b o e).1;have hkind:∀y∈ps.zip us,scope.names.lookup y.1=ga .local\/(scope.names.lookup y.1=ga .cell/\((cellsFrom (s.heap.objs.size+1) scope.names []).lookup y.1).isSome=Db):=λ⟨n,v⟩ hy=>by
  rcases S.par n (jU hy).1 with q|q
  .exact .inl q
  .exact .inr ⟨q,lL _ _ _ (.inl q)⟩
 refine codeAny_call_function hr.depth (KX _ _ lk) Z' S.co S.gen Z' (W.codeRec_of KX Y8) (hb _ _ _ _ ?_);refine wpAny_newFunctionEnv_cells S.kind hkind λenv he s1 x=>?_;subst he;refine⟨lim.keeps x.toInCall.keep,codeAny_func ?_⟩;obtain⟨t,ht,hq⟩:=Yg A outer s H vs Q E (hr.deeper _) Zl;have I:Inv (vk CX P w K mg base N qual scope f X6 A outer s H E) [] (start N vs) H s1:=KL S hr.hd e0 hl r x;refine eE (ht [] s1 (start N vs) H _ I hq) (λfl s' hs=>?_) λe s' hs=>hs;have X0:∀{σ':St} {H':Hp} {v:V} {u:Vl},Inv (vk CX P w K mg base N qual scope f X6 A outer s H E) [] σ' H' s'->qM v u->Q v H'->CE outer P w H s Q u s':=
  λ{σ' H' v u} J rv q=>⟨v,H',J.os,J.bare,J.base,J.mR,rv,q⟩
 cases fl with
 | ret u=>obtain⟨v,σ',H',J,rv,q⟩:=hs;exact X0 J rv q
 | next=>obtain⟨σ',H',J,q⟩:=hs;exact X0 (v:=V.mK) (u:=Value.none) J Z' q
 | brk=>obtain⟨_,_,_,q⟩:=hs;exact False.elim q
 | cont=>obtain⟨_,_,_,q⟩:=hs;exact False.elim q
variable {id T:String}{r:T0 V→Hp→VK→Prop}
section
variable {x:Str}{e:Go}{t:TA}
def Xy(r:T0 V->Hp->VK->Prop)(t:TA):TE:=λY H Q=>t Y H λvs H1=>r vs H1 Q
def Ng(hc:yO X (.builtin id) r)(hg:Gl X x)(hm:X.mg x=Fa)(hv:zn x=ga (.builtin id))(ha:PA X (e::es) t)(hn:x≠"__name__":=by decide)(Ye:zu x:=by decide)
  (he:By X e es:=by rfl) (Yb:C6 X pos es:=by rfl):PE X (.Call (.Name x p) (e::es) [] pos) (Xy r t):=by
 intro XU s Y H Q I h;refine gw (wk I hg hm hv ?_ hn Ye);exact iW (sf (ha pos XU s Y H _ I h) λus s1 zz=>x5 zz λvs H1 I1 r1 q1=>hc XU s1 Y H1 vs us Q I1 r1 q1) he Yb
def KR(hc:yO X (.type T) r)(hg:Gl X x)(hm:X.mg x=Fa)(hv:zn x=ga (.type T))(ha:PA X (e::es) t)(hn:x≠"__name__":=by decide)(Ye:zu x:=by decide)
  (he:By X e es:=by rfl) (Yb:C6 X pos es:=by rfl):PE X (.Call (.Name x p) (e::es) [] pos) (Xy r t):=by
 intro XU s Y H Q I h;refine gw (wk I hg hm hv ?_ hn Ye);exact fF (sf (ha pos XU s Y H _ I h) λus s1 zz=>x5 zz λvs H1 I1 r1 q1=>hc XU s1 Y H1 vs us Q I1 r1 q1) he Yb
end
end L2
namespace HT
open PySem PyProof.Rows
section
open PySem.SeqAt
open PySem.AutoSeq1 (wpAny_loadPart')
open PySem.MeetsSeq PySem.MeetsSeq2 PySem.MeetsSeq3
end
variable {prog:Pg}{w:Wo}{A:Ar}{E:QQX}{s:Sd}
def Rc{vs ws:T0 Vl}{Q:QQX}(ht:IsTup s.heap t vs.toArray)(hb:IsTup s.heap b ws.toArray)(hv:vs≠[]) (h1:ws=[]->Q (.ref t) s) (h2:ws≠[]->Q (.ref s.heap.objs.size) {s with heap:=s.heap.push {cls:=.type "tuple",data:=.seq (vs++ws).toArray}})
  (hsz:vs.length+ws.length<=Ch):pi (Tk prog w) A (wS .Add (.ref t) (.ref b)) Q E s:=by
 obtain⟨⟨cls,dd,data,sl⟩,ho,hc,n,hd⟩:=id ht;obtain⟨⟨cls2,dd2,data2,sl2⟩,ho2,hc2,n2,hd2⟩:=id hb;simp only at hc hd hc2 hd2;subst hc hd hc2 hd2;have e:vs.toArray++ws.toArray=(vs++ws).toArray:=by simp
 by_cases hw:ws=[]
 .exact kU ⟨_,ho,Z'⟩ ⟨_,ho2,Z'⟩ lM seq_tuple_add j4 jR (jF _ _)
   (tuple_addW1 t b vs.toArray ws.toArray n n2 dd dd2 sl sl2 (by simpa using hv) (by simp[hw])) ⟨ho,ho2,h1 hw⟩
 .refine kU ⟨_,ho,Z'⟩ ⟨_,ho2,Z'⟩ lM seq_tuple_add j4 jR (jF _ _)
   (tuple_addW2 t b vs.toArray ws.toArray n n2 dd dd2 sl sl2 (by simpa using hv) (by simpa using hw) (by rw[dB,dB];exact hsz)) ⟨ho,ho2,?_⟩
  rw[e];exact h2 hw
noncomputable def tE(n d:Nat):Option Int->Nat
 | none=>d
 | some v=>if v<0 then(v+(n:Int)).toNat else min v.toNat n
def Cj(n d:Nat):tE n d Fa=d:=rfl
def JI(n d k:Nat):tE n d (ga (k:Int))=min k n:=by show(if (k:Int)<0 then((k:Int)+(n:Int)).toNat else min (k:Int).toNat n)=min k n;rw[dg (by lia),jr]
def Tv(n d:Nat)(hd:d<=n)(o:Option Int):tE n d o<=n:=by
 cases o with
 | none=>exact hd
 | some v=>
  show(if v<0 then(v+(n:Int)).toNat else min v.toNat n)<=n;by_cases hv:v<0
  .rw[dh hv];lia
  .rw[dg hv];exact Nat.min_le_right _ _
def Jw(v:Int)(n d:Nat):(if v<0 then max (v+(n:Int)) 0 else min v (n:Int))=((tE n d (ga v):Nat):Int):=by
 show(if v<0 then max (v+(n:Int)) 0 else min v (n:Int))=(((if v<0 then(v+(n:Int)).toNat else min v.toNat n):Nat):Int);by_cases hv:v<0
 .simp only[dh hv];lia
 .simp only[dg hv];lia
def HC(lo hi:Option Int)(n:Nat):Builtin.Slice.sliceAdjust lo hi 1 (n:Int)=(((tE n 0 lo:Nat):Int),((tE n n hi:Nat):Int)):=by
 have h1:¬((1:Int)<0):=by lia
 unfold Builtin.Slice.sliceAdjust;simp only[h1,lN];refine Prod.ext ?_ ?_
 .cases lo with
  | none=>rfl
  | some v=>exact Jw v n 0
 .cases hi with
  | none=>rfl
  | some v=>exact Jw v n n
def HL(i j:Nat):Builtin.Slice.slicePlaces (i:Int) (j:Int) 1=j - i:=by
 unfold Builtin.Slice.slicePlaces;have h1:(1:Int)>0:=by lia
 simp only[h1,jh,Int.ediv_one];split<;>lia
def B8{Q:Option Int->Sd->Prop}(p:IsPart v o)(h:Q o s):pi (Tk prog w) A (Builtin.Slice.slicePartIndex v) Q E s:=by
 cases p with
 | none=>exact slicePart_none h
 | int i t=>exact slicePart_int h
def wO{sl:Uf}{vl vu:Vl}{lo hi:Option Int}{Q:Int×Int×Nat->Sd->Prop}(hs:s.heap.IsSliceOf sl vl vu .none)(pl:IsPart vl lo)(pu:IsPart vu hi) (h:Q (((tE n 0 lo:Nat):Int),1,tE n n hi - tE n 0 lo) s):pi (Tk prog w) A (Builtin.Slice.sliceApplied (.ref sl) (pure (n:Int))) Q E s:=by
 obtain⟨os,hos,hcs,Za⟩:=id hs;unfold Builtin.Slice.sliceApplied Builtin.Slice.sliceFields;refine cZ (cZ (fm hos Za (x:=vl) Z' (cZ (fm hos Za (x:=vu) Z' (cZ (fm hos Za (x:=.none) Z' (dA ?_)))))));refine cZ (slicePart_none ?_);show pi _ _ (if ((1:Int)==0)=Db then _ else _) _ _ s;rw[dg (by decide)];refine cZ (B8 pl (cZ (B8 pu (cZ (dA ?_)))));show pi _ _ (match Builtin.Slice.sliceAdjust lo hi 1 (n:Int)with|(lo,hi)=>pure (lo,(1:Int),Builtin.Slice.slicePlaces lo hi 1)) _ _ s;rw[HC lo hi n];show pi _ _ (pure (((tE n 0 lo:Nat):Int),(1:Int),Builtin.Slice.slicePlaces ((tE n 0 lo:Nat):Int) ((tE n n hi:Nat):Int) 1)) _ _ s;rw[HL];exact dA h
def Ny(xs:Array Vl)(i k:Nat):((List.range k).filterMap λ(m:Nat)=>xs[((i:Int)+(m:Int)*1).toNat]?).toArray=((xs.toList.drop i).take k).toArray:=by
 have e:(λ(m:Nat)=>xs[((i:Int)+(m:Int)*1).toNat]?)=λm=>xs[i+m]?:=by
  funext m;have:((i:Int)+(m:Int)*1).toNat=i+m:=by lia
  rw[this]
 rw[e];have:=pick_run xs i k;rw[List.filterMap_map]at this;have e2:((λx=>xs[x]?)∘λx=>i+x)=λm=>xs[i+m]?:=rfl;rw[e2]at this;rw[this]
def zG{t sl:Uf}{vl vu:Vl}{lo hi:Option Int}{Q:QQX}(ht:IsTup s.heap t XW)(hs:s.heap.IsSliceOf sl vl vu .none)(pl:IsPart vl lo)(pu:IsPart vu hi) (hw:¬(tE XW.size 0 lo=0/\tE XW.size XW.size hi=XW.size)) (h:Q (.ref s.heap.objs.size) {s with heap:=s.heap.push {cls:=.type "tuple",data:=.seq ((XW.toList.drop (tE XW.size 0 lo)).take (tE XW.size XW.size hi - tE XW.size 0 lo)).toArray}})
  (hsz:XW.size<=Ch):pi (Tk prog w) A (XXa (.ref t) (.ref sl)) Q E s:=by
 have Zh:sizeOk (.seq ((XW.toList.drop (tE XW.size 0 lo)).take (tE XW.size XW.size hi - tE XW.size 0 lo)).toArray):=by show((XW.toList.drop (tE XW.size 0 lo)).take (tE XW.size XW.size hi - tE XW.size 0 lo)).toArray.size<=Ch;rw[dB,fu,fX,je];lia
 have hj:tE XW.size XW.size hi<=XW.size:=Tv _ _ (dv _) hi;obtain⟨os,hos,hcs,Za⟩:=id hs;have hTs:s.TypeIs (.ref sl) "slice":=⟨os,hos,hcs⟩;unfold XXa
 try with_reducible refine ft ?_
 first|refine cZ (dA ?_)|skip
 refine cZ (js ht.typeIs (by decide) ?_);refine cZ (fN (name:=Str.ofString "__getitem__") ht.typeIs fG
  (gq fG ht.typeIs kG ?_ (kW _ _)))
 show pi _ _ (Builtin.Tuple.tupleItemsOf (.ref t)>>=_) _ _ s;refine cZ (tupleItemsOf_ ht ?_);refine cZ (jG hTs ?_);rw[dh (by decide)];refine cZ (wO hs pl pu ?_);have hno:¬((((tE XW.size 0 lo:Nat):Int)==0&&(1:Int)==1&&(tE XW.size XW.size hi - tE XW.size 0 lo)==XW.size)=Db):=by intro q;rw[d6,d6]at q;have q1:((tE XW.size 0 lo:Nat):Int)=0:=ZB q.1.1;have q2:tE XW.size XW.size hi - tE XW.size 0 lo=XW.size:=ZB q.2;exact hw ⟨by lia,by lia⟩
 show pi _ _ (if (((tE XW.size 0 lo:Nat):Int)==0&&(1:Int)==1&&(tE XW.size XW.size hi - tE XW.size 0 lo)==XW.size)=Db then _ else _) _ _ s;rw[dg hno,Ny]
 first
  | exact cZ (m:=Builtin.Tuple.tupleExact _) (gb (dA ⟨_,rfl,dA h⟩) Zh)
  | exact cZ (m:=Builtin.Tuple.tupleExact _) (gb (cZ (dA (dA ⟨_,rfl,dA h⟩))) Zh)
  | exact cZ (cZ (m:=Builtin.Tuple.tupleExact _) (gb (dA (dA ⟨_,rfl,dA h⟩)) Zh))
  | exact cZ (cZ (m:=Builtin.Tuple.tupleExact _) (gb (dA ⟨_,rfl,dA h⟩) Zh))
end HT
namespace L2
abbrev TO:=St->Hp->(Option Int->Hp->Prop)->Prop
def PO(X:Cx)(e:Option Go)(t:TO):Prop:=
 ∀(XU:QQY) (s:Sd) (Y:St) (H:Hp) (Q:Option Int->Hp->Prop),Inv X XU Y H s->t Y H Q->
  pi (Tk X.prog X.w) X.A (evalPart e X.env) (λu s'=>∃o H',Inv X XU Y H' s'/\IsPart u o/\Q o H') X.xe s
def OM:TO:=λ_ H Q=>Q Fa H
def UG(t:TE):TO:=λY H Q=>t Y H λx H1=>∃i,x=.int i/\Q (ga i) H1
variable {X:Cx}{e:Go}{te:TE}{lo hi:Option Go}{tl th:TO}{pos p2:Pos}
def Qz:PO X Fa OM:=by intro XU s Y H Q I h;rw[evalPart_none];exact dA ⟨Fa,H,I,.none,h⟩
def Ph(h:PE X e te):PO X (ga e) (UG te):=by intro XU s Y H Q I hw;rw[evalPart_some];refine sf (h XU s Y H _ I hw) λu s1 zz=>x5 zz λx H1 I1 r1 q1=>?_;obtain⟨i,rfl,q⟩:=q1;obtain⟨t,rfl⟩:=r1;exact⟨ga i,H1,I1,.int i t,q⟩
def Va(X:Cx)(r:V->Option Int->Option Int->Hp->VK->Prop):Prop:=
 ∀(XU:QQY) (s:Sd) (Y:St) (H:Hp) (x:V) (v vl vu:Vl) (lo hi:Option Int) (sl:Uf) (Q:VK),Inv X XU Y H s->qM x v->s.heap.IsSliceOf sl vl vu .none->IsPart vl lo->IsPart vu hi->r x lo hi H Q->
  ∃T id,typeLookup (.type T) "__getitem__"=pure (ga (.builtin id))/\s.TypeIs v T/\pi (Tk X.prog X.w) X.A (XXa v (.ref sl)) (EP X XU Y Q) X.xe s
def XO(r:V->Option Int->Option Int->Hp->VK->Prop)(te:TE)(tl th:TO):TE:=λY H Q=>te Y H λx H1=>tl Y H1 λl H2=>th Y H2 λu H3=>r x l u H3 Q
def MK(hr:Va X r)(he:PE X e te)(hl:PO X lo tl)(hu:PO X hi th):PE X (.Subscript e (.Slice lo hi Fa p2) pos) (XO r te tl th):=by intro XU s Y H Q I h;refine Subscript_ (sf (he XU s Y H _ I h) λv s1 zz=>x5 zz λx H1 I1 r1 q1=>?_);refine wpAny_Slice (sf (hl XU s1 Y H1 _ I1 q1) λvl s2 zz=>x5 zz λl H2 I2 pl q2=>sf (hu XU s2 Y H2 _ I2 q2) λvu s3 zz=>x5 zz λu H3 I3 pu q3=>?_);rw[evalPart_none];refine dA ?_;have I4:Inv X XU Y H3 {s3 with heap:=s3.heap.push {cls:=.type "slice",data:=.fields #[vl,vu,.none]}}:=I3.kept (t':=s3.toks) λb ob q=>dq _ q;obtain⟨T,id,hT,ht,hg⟩:=hr XU {s3 with heap:=s3.heap.push {cls:=.type "slice",data:=.fields #[vl,vu,.none]}} Y H3 x v vl vu l u s3.heap.objs.size Q I4 r1 (mE ..) pl pu q3;show pi (Tk X.prog X.w) X.A (subscriptTail e (.Slice lo hi Fa p2) v (.ref s3.heap.objs.size)) (EP X XU Y Q) X.xe {s3 with heap:=s3.heap.push {cls:=.type "slice",data:=.fields #[vl,vu,.none]}};exact tail_any (ops:=[.ref s3.heap.objs.size,v]) ht hT hg (by with_unfolding_all rfl)
noncomputable def Cq(xs:T0 V)(lo hi:Option Int):T0 V:=(xs.drop (HT.tE xs.length 0 lo)).take (HT.tE xs.length xs.length hi - HT.tE xs.length 0 lo)
def AR(xs:T0 V)(lo hi:Option Int):(Cq xs lo hi).length<=xs.length:=by unfold Cq;rw[fu,fX];lia
def WJ(K:qy):V->Option Int->Option Int->Hp->VK->Prop:=λx lo hi H Q=>∃a xs,x=.ref a/\vH K H a xs/\
 ¬(HT.tE xs.length 0 lo=0/\HT.tE xs.length xs.length hi=xs.length)/\∀p,H p=Fa->Q (.ref p) (upd H p (.tup (Cq xs lo hi)))
def RU:Va X (WJ X.K):=by
 intro XU s Y H x v vl vu lo hi sl Q I rx hs pl pu h;obtain⟨a,xs,rfl,hx,hw,q⟩:=h;cases rx;obtain⟨its,r,ht,hz⟩:=I.tuple hx;have X1:its.toArray.size=xs.length:=by rw[dB];exact r.length.symm
 refine⟨"tuple",_,fG.lookup,ht.typeIs,?_⟩;refine HT.zG ht hs pl pu (by rw[X1];exact hw) ?_ (by rw[X1];exact hz);rw[X1];refine⟨.ref s.heap.objs.size,_,I.laid (t':=s.toks) (o:=.tup (Cq xs lo hi)) (λb ob q=>dq _ q) (dv _) ?_,Z',q _ (I.mR.fresh (dv _))⟩;exact⟨d9 (AR xs lo hi) hz,_,(r.drop (HT.tE xs.length 0 lo)).take (HT.tE xs.length xs.length hi - HT.tE xs.length 0 lo),EK.new _ _⟩
def VD(K:qy):R2:=λx y H Q=>∃a b xs ys,x=.ref a/\y=.ref b/\vH K H a xs/\vH K H b ys/\xs≠[]/\xs.length+ys.length<=Ch/\
 (ys=[]->Q (.ref a) H)/\(ys≠[]->∀p,H p=Fa->Q (.ref p) (upd H p (.tup (xs++ys))))
def qA.nN(r:qA xs us):us=[]↔xs=[]:=by
 cases r with
 | nil=>simp
 | cons _ _=>simp
def Qa:x8 X (wS .Add) (VD X.K):=by intro XU s Y H x y v u Q I rx ry h;obtain⟨a,b,xs,ys,rfl,rfl,ha,hb,hx,hz,q1,q2⟩:=h;cases rx;cases ry;obtain⟨its,r1,p1,_⟩:=I.tuple ha;obtain⟨its2,r2,p2,_⟩:=I.tuple hb;refine HT.Rc p1 p2 (λz=>hx (r1.nN.mp z)) (λz=>⟨.ref a,H,I,Z',q1 (r2.nN.mp z)⟩) (λz=>?_) (by rw[<-r1.length,<-r2.length];exact hz);refine⟨.ref s.heap.objs.size,_,I.laid (t':=s.toks) (o:=.tup (xs++ys)) (λb ob q=>dq _ q) (dv _) ?_,Z',q2 (λw=>z (r2.nN.mpr w)) _ (I.mR.fresh (dv _))⟩;exact⟨by rw[de];exact hz,_,r1.append r2,EK.new _ _⟩
noncomputable def F8(n:Nat)(i:Int):Option Nat:=if 0<=i then(if i<n then ga i.toNat else Fa)else if -(n:Int)<=i then ga (i+n).toNat else Fa
noncomputable def wu{α:Type}(xs:List α)(i:Int):Option α:=(F8 xs.length i).bind λj=>xs[j]?
def JP{j:Nat}(h:F8 n i=ga j):seqIndex? i n=ga j/\j<n/\-(n:Int)<=i/\i<n:=by
 unfold F8 at h;by_cases h0:0<=i
 .rw[dh h0]at h;by_cases h1:i<n
  .rw[dh h1]at h;have e:i.toNat=j:=dw h;exact⟨by rw[lE h0 h1,e],by lia,by lia,h1⟩
  .rw[dg h1]at h;cases h
 .rw[dg h0]at h;by_cases h1:-(n:Int)<=i
  .rw[dh h1]at h;have e:(i+n).toNat=j:=dw h;exact⟨by rw[kX (by lia) h1,e],by lia,h1,by lia⟩
  .rw[dg h1]at h;cases h
def ER{α:Type}{xs:List α}{i:Int}{v:α}(h:wu xs i=ga v):∃j,seqIndex? i xs.length=ga j/\xs[j]?=ga v/\j<xs.length/\-(xs.length:Int)<=i/\i<xs.length:=by
 unfold wu at h;cases e:F8 xs.length i with
 | none=>rw[e]at h;cases h
 | some j=>rw[e]at h;obtain⟨h1,h2,h3,h4⟩:=JP e;exact⟨j,h1,h,h2,h3,h4⟩
def uT{α:Type}{xs:List α}{j:Nat}{v:α}(h:xs[j]?=ga v):wu xs (j:Int)=ga v:=by
 have hj:j<xs.length:=(c9.mp h).1;have e:F8 xs.length (j:Int)=ga j:=by unfold F8;rw[dh (by lia),dh (by lia)];simp
 unfold wu;rw[e];exact h
def BA(b:Go):Prop:=∀o i,subscripted b pc o i=operate [o,i] (XXa o i)
def Uc(X:Cx)(r:R2):Prop:=
 ∀(value X7:Go) (XU:QQY) (s:Sd) (Y:St) (H:Hp) (x y:V) (v u:Vl) (Q:VK),Inv X XU Y H s->qM x v->qM y u->r x y H Q->
  subscripted X7 pc v u=operate [v,u] (XXa v u)->pi (Tk X.prog X.w) X.A (subscriptTail value X7 v u) (EP X XU Y Q) X.xe s
def WO(X:Cx)(id:String)(r:V->T0 V->Hp->VK->Prop):Prop:=
 ∀(XU:QQY) (s:Sd) (Y:St) (H:Hp) (x:V) (xs:T0 V) (v:Vl) (us:T0 Vl) (Q:VK),Inv X XU Y H s->qM x v->qA xs us->r x xs H Q->
  pi (Tk X.prog X.w) X.A (call (.builtin id) (v::us)) (EP X XU Y Q) X.xe s
variable {o:Go}{es:T0 Go}{to:TE}{t:TA}{name:Str}{XY X3:Pos}{T id:String}{r:V→T0 V→Hp→VK→Prop}{a:Go}{ta tb:TE}
section
variable {b:Go}
def Ox{r:R2}(hr:Uc X r)(ha:PE X a ta)(hb:PE X b tb)(hs:BA b):PE X (.Subscript a b pos) (Uu r ta tb):=by intro XU s Y H Q I h;exact Subscript_ (Tz ha hb I h λv u s2 x y H2 I2 rx ry q=>hr a b XU s2 Y H2 x y v u Q I2 rx ry q (hs _ _))
def Wr(K:qy):R2:=λx y H Q=>∃p xs i v,x=.ref p/\y=.int i/\xR K H p xs/\wu xs i=ga v/\Q v H
def Xd(K:qy):R2:=λx y H Q=>∃p xs i v,x=.ref p/\y=.int i/\vH K H p xs/\wu xs i=ga v/\Q v H
def Xc:R2:=λx y H Q=>∃z i c,x=.str z/\y=.int i/\z.length<=Ch/\wu z.cps.toList i=ga c/\Q (.str ⟨#[c]⟩) H
def Jl:Uc X (Wr X.K):=by
 intro value X7 XU s Y H x y v u Q I rx ry h hs;obtain⟨p,xs,i,z,rfl,rfl,hq,he,q⟩:=h;cases rx;obtain⟨t,rfl⟩:=ry;obtain⟨its,r,pl,hz⟩:=I.list hq;obtain⟨j,h1,h2,h3,h4,h5⟩:=ER he;obtain⟨w,ew,Zm⟩:=r.get h2;have hl:=r.length;have hn:=ym;have X0:EP X XU Y Q w s:=⟨z,H,I,Zm,q⟩;by_cases h0:0<=i
 .have hj:i.toNat=j:=by rw[lE h0 h5]at h1;exact dw h1
  exact item_listR pl.isList h0 (by lia) (by rw[hj];simpa using ew) X0 hs
 .have hj:(i+(its.toArray.size:Int)).toNat=j:=by rw[kX (by lia) h4]at h1;rw[dB,<-hl];exact dw h1
  exact j5 (x:=w) pl.isList.typeIs ly.lookup
   (wpAny_getItem_list_neg (Q:=λr s'=>r=w/\EP X XU Y Q r s') pl.isList (by lia) (by rw[dB]<;>lia) (by lia) (by rw[hj];simpa using ew) ⟨Z',X0⟩) hs
def SX:Uc X (Xd X.K):=by
 intro value X7 XU s Y H x y v u Q I rx ry h hs;obtain⟨p,xs,i,z,rfl,rfl,hq,he,q⟩:=h;cases rx;obtain⟨t,rfl⟩:=ry;obtain⟨its,r,pl,hz⟩:=I.tuple hq;obtain⟨j,h1,h2,h3,h4,h5⟩:=ER he;obtain⟨w,ew,Zm⟩:=r.get h2;have hl:=r.length;have hn:=ym;have X0:EP X XU Y Q w s:=⟨z,H,I,Zm,q⟩;exact j5 (x:=w) pl.typeIs slot_tuple_getitem.lookup
  (getItem_tuple (j:=j) (Q:=λr s'=>r=w/\EP X XU Y Q r s') pl (by lia) (by lia) (by rw[dB,<-hl];exact h1) (by simpa using ew) ⟨Z',X0⟩) hs
def Sm:Uc X Xc:=by
 intro value X7 XU s Y H x y v u Q I rx ry h hs;obtain⟨z,i,c,rfl,rfl,hz,he,q⟩:=h;obtain⟨t,rfl⟩:=rx;obtain⟨t',rfl⟩:=ry;obtain⟨j,h1,h2,h3,h4,h5⟩:=ER he;have hl:z.cps.toList.length=z.length:=by simp[Str.length]
 rw[hl]at h1 h4 h5;have hn:=ym;exact tail_any (typeIs_str s z t) slot_str_getitem.lookup (getItem_str (c:=c) (by
  have e1:decide (i< -(2 ^ 63:Int))=pc:=eF (by lia);have e2:decide (i>=2 ^ 63)=pc:=eF (by lia);rw[e1,e2,kD]) (by rw[h1];simpa using h2) ⟨.str ⟨#[c]⟩,H,I.tok _,⟨_,Z'⟩,q⟩) hs
def HY(its:T0 Vl)(n j:Nat)(u:Vl):Obj.mapSeq (·.setIfInBounds j u) {cls:=.type "list",data:=.seq its.toArray n}={cls:=.type "list",data:=.seq (its.set j u).toArray n}:=by simp[Obj.mapSeq]
def Inv.lst{p:Uf}{xs:T0 V}(I:Inv X XU Y H s)(h:H p=ga (.lst xs)):
  ∃(its:T0 Vl) (n:Nat),qA xs its/\s.heap.get? p=ga {cls:=.type "list",data:=.seq its.toArray n}/\xs.length<=Ch:=by
 obtain⟨z,its,n,r,e⟩:=I.mR p _ h;exact⟨its,n,r,e,z⟩
def Inv.oE{p:Uf}{xs ys:T0 V}{its its':T0 Vl}{n n':Nat}{f:Obj->Obj}(I:Inv X XU Y H s)(h:H p=ga (.lst xs)) (ho:s.heap.get? p=ga {cls:=.type "list",data:=.seq its.toArray n}) (hf:f {cls:=.type "list",data:=.seq its.toArray n}={cls:=.type "list",data:=.seq its'.toArray n'}) (r:qA ys its') (hz:ys.length<=Ch) (t:Nat):
  Inv X XU Y (upd H p (.lst ys)) {s with heap:=s.heap.update p f,toks:=t}:=by
 have e:(s.heap.update p f).get? p=ga {cls:=.type "list",data:=.seq its'.toArray n'}:=by rw[fM f ho (by rw[hf]<;>rfl),hf]
 refine I.write (x:=p) (e:=p) (by rw[h];trivial) (.inl Z') (λb u hb q=>(gk _ _ (dZ hb)).trans q) ⟨_,e⟩ ?_;exact⟨hz,its',n',r,e⟩
def Ux:V->V->V->Hp->(Hp->Prop)->Prop:=λo i v H Q=>∃p xs k j,o=.ref p/\i=.int k/\H p=ga (.lst xs)/\F8 xs.length k=ga j/\Q (upd H p (.lst (xs.set j v)))
def Gq:R5 X Ux:=by
 intro XU s Y H o i v ov iv u Q I ro ri rv h;obtain⟨p,xs,k,j,rfl,rfl,hp,hj,q⟩:=h;cases ro;obtain⟨t,rfl⟩:=ri;obtain⟨its,n,r,ho,hz⟩:=I.lst hp;obtain⟨h1,h2,h3,h4⟩:=JP hj;have hl:=r.length;have hn:=ym;have I':Inv X XU Y (upd H p (.lst (xs.set j v))) {s with heap:=s.heap.update p (Obj.mapSeq (·.setIfInBounds j u))}:=
  I.oE hp ho (HY its n j u) (r.set rv j) (by rw[iy];exact hz) s.toks
 by_cases h0:0<=k
 .have hk:k.toNat=j:=by rw[lE h0 h4]at h1;exact dw h1
  exact W.ki_setAt ho h0 (by lia) (by rw[dB,<-hl];exact h4) (by rw[hk];exact⟨_,I',q⟩)
 .have hk:(k+(its.toArray.size:Int)).toNat=j:=by rw[kX (by lia) h3]at h1;rw[dB,<-hl];exact dw h1
  exact W.ki_setBack ho (by lia) (by rw[dB,<-hl];exact h3) (by lia) (by rw[hk];exact⟨_,I',q⟩)
def EB(lo hi:Option Int)(n:Nat):(XXd lo hi Fa n).1=((HT.tE n 0 lo:Nat):Int)/\(XXd lo hi Fa n).2.1=((HT.tE n n hi:Nat):Int)/\(XXd lo hi Fa n).2.2=1:=by
 refine⟨?_,?_,Z'⟩
 .cases lo with
  | none=>simp[XXd,HT.tE]
  | some i=>
   simp only[XXd,HT.tE,lO,show(1:Int)>0 by decide,jh];by_cases h:i<0
   .simp only[h,jh]<;>lia
   .simp only[h,lN]<;>lia
 .cases hi with
  | none=>simp[XXd,HT.tE]
  | some i=>
   simp only[XXd,HT.tE,lO,show(1:Int)>0 by decide,jh];by_cases h:i<0
   .simp only[h,jh]<;>lia
   .simp only[h,lN]<;>lia
def DD(its:T0 Vl)(lo hi:Option Int):slicePick its.toArray lo hi Fa=((its.drop (HT.tE its.length 0 lo)).take (HT.tE its.length its.length hi - HT.tE its.length 0 lo)).toArray:=by obtain⟨h1,h2,h3⟩:=EB lo hi its.toArray.size;unfold slicePick;rw[h1,h2,h3];simp only[sliceRange_one,pick_run,dB]<;>rfl
def WK(K:qy):V->Option Int->Option Int->Hp->VK->Prop:=λx lo hi H Q=>∃a xs,x=.ref a/\xR K H a xs/\∀p,H p=Fa->Q (.ref p) (upd H p (.lst (Cq xs lo hi)))
def JB:Va X (WK X.K):=by intro XU s Y H x v vl vu lo hi sl Q I rx hs pl pu h;obtain⟨a,xs,rfl,hx,q⟩:=h;cases rx;obtain⟨its,r,ht,hz⟩:=I.list hx;have X1:=r.length;refine⟨"list",_,ly.lookup,ht.isList.typeIs,?_⟩;refine wpAny_getItem_list_slice ht.isList hs pl pu .none (by simp) ?_ (by rw[dB]<;>lia);rw[DD,<-X1];refine⟨.ref s.heap.objs.size,_,I.laid (t':=s.toks) (o:=.lst (Cq xs lo hi)) (λb ob q=>dq _ q) (dv _) ?_,Z',q _ (I.mR.fresh (dv _))⟩;exact⟨d9 (AR xs lo hi) hz,_,0,(r.drop (HT.tE xs.length 0 lo)).take (HT.tE xs.length xs.length hi - HT.tE xs.length 0 lo),dO _ Z'⟩
noncomputable def yR:V->Bool
 | .mK=>Db
 | .bl _=>Db
 | .int _=>Db
 | .str _=>Db
 | _=>pc
noncomputable def OF:V->V->Bool
 | .mK,.mK=>Db
 | .bl a,.bl b=>a==b
 | .bl a,.int b=>(if a then 1 else 0)==b
 | .int a,.bl b=>a==(if b then 1 else 0)
 | .int a,.int b=>a==b
 | .str a,.str b=>a==b
 | _,_=>pc
def S8(ry:qM y u)(rx:qM x v)(fy:yR y=Db)(fx:yR x=Db):SeqAt.EqAt A s u v (OF y x):=by
 cases y with
 | mK=>
  cases ry;cases x with
  | mK=>cases rx;exact SeqAt.EqAt.same _
  | bl b=>cases rx;exact SeqAt.EqAt.none_bool b
  | int b=>obtain⟨t,rfl⟩:=rx;exact SeqAt.EqAt.none_int b t
  | str b=>obtain⟨t,rfl⟩:=rx;exact SeqAt.EqAt.none_str b t
  | _=>exact absurd (show pc=Db from fx) dD
 | bl a=>
  cases ry;cases x with
  | mK=>cases rx;exact SeqAt.EqAt.bool_none a
  | bl b=>cases rx;exact SeqAt.EqAt.bool_bool a b
  | int b=>obtain⟨t,rfl⟩:=rx;exact SeqAt.EqAt.bool_int a b t
  | str b=>obtain⟨t,rfl⟩:=rx;exact SeqAt.EqAt.bool_str a b t
  | _=>exact absurd (show pc=Db from fx) dD
 | int a=>
  obtain⟨t',rfl⟩:=ry;cases x with
  | mK=>cases rx;exact SeqAt.EqAt.int_none a t'
  | bl b=>cases rx;exact SeqAt.EqAt.int_bool a t' b
  | int b=>obtain⟨t,rfl⟩:=rx;exact SeqAt.EqAt.int_int a t' b t
  | str b=>obtain⟨t,rfl⟩:=rx;exact kO a t' b t
  | _=>exact absurd (show pc=Db from fx) dD
 | str a=>
  obtain⟨t',rfl⟩:=ry;cases x with
  | mK=>cases rx;exact SeqAt.EqAt.str_none a t'
  | bl b=>cases rx;exact SeqAt.EqAt.str_bool a t' b
  | int b=>obtain⟨t,rfl⟩:=rx;exact kP a t' b t
  | str b=>obtain⟨t,rfl⟩:=rx;exact SeqAt.EqAt.str_str a t' b t
  | _=>exact absurd (show pc=Db from fx) dD
 | _=>exact absurd (show pc=Db from fy) dD
noncomputable def FW(x:V)(u:Vl):Bool:=match u with
 | .none=>OF .mK x
 | .bool b=>OF (.bl b) x
 | .int i _=>OF (.int i) x
 | .str z _=>OF (.str z) x
 | _=>pc
def Hv(r:qM y u)(f:yR y=Db):FW x u=OF y x:=by
 cases y with
 | mK=>cases r;rfl
 | bl b=>cases r;rfl
 | int i=>obtain⟨t,rfl⟩:=r;rfl
 | str z=>obtain⟨t,rfl⟩:=r;rfl
 | _=>exact absurd (show pc=Db from f) dD
theorem zw:∀{xs:T0 V} {us:T0 Vl},qA xs us->xs.all yR=Db->us.any (FW x)=xs.any λy=>OF y x
 | _,_,.nil,_=>rfl
 | y::xs,u::us,.cons r t,f=>by rw[fD,d6]at f;rw[gm,gm,Hv r f.1,zw t f.2]
theorem wH(rx:qM x v)(fx:yR x=Db):∀{xs:T0 V} {us:T0 Vl},qA xs us->xs.all yR=Db->∀u∈us,SeqAt.EqAt A s u v (FW x u)
 | _,_,.nil,_=>λu hu=>by cases hu
 | y::xs,u::us,.cons r t,f=>λu' hu=>by
  rw[fD,d6]at f;rcases dC.mp hu with rfl|hu
  .rw[Hv r f.1];exact S8 r rx f.1 fx
  .exact wH rx fx t f.2 u' hu
noncomputable def inV(x:V)(xs:T0 V):Bool:=xs.any λy=>OF y x
def Xg(K:qy)(Zv:Bool):R2:=λx y H Q=>∃p xs,y=.ref p/\(xR K H p xs\/vH K H p xs)/\yR x=Db/\xs.all yR=Db/\Q (.bl (if Zv then !inV x xs else inV x xs)) H
def Lh:x8 X (Op .In) (Xg X.K pc):=by
 intro XU s Y H x y v u Q I rx ry h;obtain⟨p,xs,rfl,hq,fx,fs,q⟩:=h;cases ry;rcases hq with hq|hq
 .obtain⟨its,r,pl,hz⟩:=I.list hq;refine SeqAt.in_listAt (FW x) pl.isList (λw hw=>wH rx fx r fs w (by simpa using hw)) ⟨.bl _,H,I,Z',?_⟩;rw[show its.toArray.any (FW x)=its.any (FW x)by simp,zw r fs];exact q
 .obtain⟨its,r,pl,hz⟩:=I.tuple hq;refine SeqAt.in_tupleAt (FW x) pl (λw hw=>wH rx fx r fs w (by simpa using hw)) ⟨.bl _,H,I,Z',?_⟩;rw[show its.toArray.any (FW x)=its.any (FW x)by simp,zw r fs];exact q
def Fg:x8 X (Op .NotIn) (Xg X.K Db):=by
 intro XU s Y H x y v u Q I rx ry h;obtain⟨p,xs,rfl,hq,fx,fs,q⟩:=h;cases ry;rcases hq with hq|hq
 .obtain⟨its,r,pl,hz⟩:=I.list hq;refine SeqAt.notIn_listAt (FW x) pl.isList (λw hw=>wH rx fx r fs w (by simpa using hw)) ⟨.bl _,H,I,Z',?_⟩;rw[show its.toArray.any (FW x)=its.any (FW x)by simp,zw r fs];exact q
 .obtain⟨its,r,pl,hz⟩:=I.tuple hq;refine SeqAt.notIn_tupleAt (FW x) pl (λw hw=>wH rx fx r fs w (by simpa using hw)) ⟨.bl _,H,I,Z',?_⟩;rw[show its.toArray.any (FW x)=its.any (FW x)by simp,zw r fs];exact q
def EE:x8 X (Op .NotIn) (λx y H Q=>∃i j,x=.str i/\y=.str j/\Q (.bl (!(!(Builtin.Str.occurrences j i 0 j.length 1).isEmpty))) H):=by intro XU s Y H x y v u Q I rx ry h;obtain⟨i,j,rfl,rfl,q⟩:=h;obtain⟨t,rfl⟩:=rx;obtain⟨t',rfl⟩:=ry;exact notIn_str ⟨.bl _,H,I,Z',q⟩
def xp:yO X (.builtin "len") (λxs H Q=>∃p ys,xs=[.ref p]/\(xR X.K H p ys\/vH X.K H p ys)/\Q (.int ys.length) H):=by
 intro XU s Y H xs us Q I r h;obtain⟨p,ys,rfl,hq,q⟩:=h;obtain⟨u,rfl,rx⟩:=xB r;cases rx;have hn:=ym;rcases hq with hq|hq
 .obtain⟨its,r',pl,hz⟩:=I.list hq;have X1:=r'.length;exact Calls.call_len_list pl.isList (by simp only[dB]<;>lia) ⟨.int ys.length,H,I.tok _,⟨s.toks+1,by rw[dB,X1]⟩,q⟩
 .obtain⟨its,r',pl,hz⟩:=I.tuple hq;have X1:=r'.length;exact len_tuple pl (by simp only[dB]<;>lia) ⟨.int ys.length,H,I.tok _,⟨s.toks+1,by rw[dB,X1]⟩,q⟩
def Ff:yO X (.builtin "len") (λxs H Q=>∃z,xs=[.str z]/\z.length<=Ch/\Q (.int z.length) H):=by intro XU s Y H xs us Q I r h;obtain⟨z,rfl,hz,q⟩:=h;obtain⟨u,rfl,t,rfl⟩:=xB r;have hn:=ym;exact len_str (by lia) ⟨.int z.length,H,I.tok _,⟨_,Z'⟩,q⟩
def Fd:yO X (.type "list") (λxs H Q=>∃p ys,xs=[.ref p]/\(xR X.K H p ys\/vH X.K H p ys)/\∀l,H l=Fa->Q (.ref l) (upd H l (.lst ys))):=by
 intro XU s Y H xs us Q I r h;obtain⟨p,ys,rfl,hq,q⟩:=h;obtain⟨u,rfl,rx⟩:=xB r;cases rx;have X0:∀(its:T0 Vl),qA ys its->ys.length<=Ch->∀(h':No) (c':Nat),(∀b o',s.heap.get? b=ga o'->h'.get? b=ga o')->
   h'.get? s.heap.objs.size=ga {cls:=.type "list",dict:=none,data:=.seq its.toArray c',slots:=#[]}->EP X XU Y Q (.ref s.heap.objs.size) {s with heap:=h'}:=λits r' hz h' c' kp e=>
  ⟨.ref s.heap.objs.size,_,I.laid (t':=s.toks) kp (dv _) (show sC X.prog X.w _ h' _ (.lst ys)from⟨hz,its,c',r',e⟩),Z',q _ (I.mR.fresh (dv _))⟩
 rcases hq with hq|hq
 .obtain⟨its,r',pl,hz⟩:=I.list hq;have X1:=r'.length;obtain⟨o,ho,hc,n,hd⟩:=pl.isList;exact call_list_seq p (.inl Z') ho hc hd (λh' c' kp e=>X0 its r' hz h' c' kp e) (by simp only[dB]<;>lia)
 .obtain⟨its,r',pl,hz⟩:=I.tuple hq;have X1:=r'.length;obtain⟨o,ho,hc,n,hd⟩:=pl;exact call_list_seq p (.inr Z') ho hc hd (λh' c' kp e=>X0 its r' hz h' c' kp e) (by simp only[dB]<;>lia)
def wm:yO X (.type "tuple") (λxs H Q=>∃p ys,xs=[.ref p]/\((xR X.K H p ys/\∀l,H l=Fa->Q (.ref l) (upd H l (.tup ys)))\/(vH X.K H p ys/\Q (.ref p) H))):=by
 intro XU s Y H xs us Q I r h;obtain⟨p,ys,rfl,h⟩:=h;obtain⟨u,rfl,rx⟩:=xB r;cases rx;rcases h with⟨hq,q⟩|⟨hq,q⟩
 .obtain⟨its,r',pl,hz⟩:=I.list hq;have X1:=r'.length;refine call_tuple_list pl.isList (λh' kp=>?_) (by simp only[dB]<;>lia);have I1:Inv X XU Y H {s with heap:=h'}:=I.kept (t':=s.toks) kp;have I2:Inv X XU Y (upd H h'.objs.size (.tup ys)) {s with heap:=h'.push {cls:=.type "tuple",data:=.seq its.toArray}}:=
   I1.laid (t':=s.toks) (λb o e=>dq _ e) (dv _) (show sC X.prog X.w _ _ _ (.tup ys)from⟨hz,its,r',EK.new _ _⟩)
  exact⟨.ref h'.objs.size,_,I2,Z',q _ (I1.mR.fresh (dv _))⟩
 .obtain⟨its,r',pl,hz⟩:=I.tuple hq;exact call_tuple_same pl ⟨.ref p,H,I,Z',q⟩
def VZ(K:qy)(T:String)(x:V)(H:Hp):Prop:=match x with
 | .str _=>T="str"
 | .int _=>T="int"
 | .ref p=>(T="list"/\∃xs,xR K H p xs)\/(T="tuple"/\∃o,K.lookup p=ga o/\o.cls=.type "tuple"/\o.dict=Fa)\/
   (T="dict"/\((∃kvs,H p=ga (.dK kvs))\/∃kvs,H p=ga (.dT kvs)))\/(T="set"/\∃S n,H p=ga (.set S n))
 | _=>False
def Of(I:Inv X XU Y H s)(r:qM x v)(ty:VZ X.K T x H):
  s.TypeIs v T/\∀a,v=.ref a->∃ob,s.heap.get? a=ga ob/\ob.dict=Fa:=by
 cases x with
 | str z=>obtain⟨t,rfl⟩:=r;cases(show T="str" from ty);exact⟨typeIs_str s z t,λ_ e=>nomatch e⟩
 | int i=>obtain⟨t,rfl⟩:=r;cases(show T="int" from ty);exact⟨lW s i t,λ_ e=>nomatch e⟩
 | ref p=>
  cases r;rcases ty with⟨rfl,xs,hq⟩|⟨rfl,o,hk,hc,hd⟩|⟨rfl,hk⟩|⟨rfl,S,n,hk⟩
  .obtain⟨its,_,pl,_⟩:=I.list hq;refine⟨pl.isList.typeIs,λa e=>?_⟩;cases e;obtain⟨o,n,e,c,hd,_⟩:=pl;exact⟨o,e,hd⟩
  .refine⟨⟨o,I.m7 p o hk,hc⟩,λa e=>?_⟩;cases e;exact⟨o,I.m7 _ o hk,hd⟩
  .have z:∃o,s.heap.get? p=ga o/\o.ExactDict:=by
    rcases hk with⟨kvs,hk⟩|⟨kvs,hk⟩
    .obtain⟨_,_,_,_,o,_,_,e,ex,_⟩:=I.mR p _ hk;exact⟨o,e,ex⟩
    .obtain⟨_,_,_,_,o,_,_,e,ex,_⟩:=I.mR p _ hk;exact⟨o,e,ex⟩
   obtain⟨o,e,ex⟩:=z;refine⟨⟨o,e,ex.1⟩,λa e2=>?_⟩;cases e2;exact⟨o,e,ex.2.1⟩
  .obtain⟨o,_,_,_,e,ex,_⟩:=I.mR p _ hk;refine⟨⟨o,e,ex.1⟩,λa e2=>?_⟩;cases e2;exact⟨o,e,ex.2.1⟩
 | _=>exact False.elim ty
def Wg(K:qy)(T:String)(r:V->T0 V->Hp->VK->Prop)(to:TE):TE:=λY H Q=>to Y H λx H1=>VZ K T x H1/\r x [] H1 Q
def XC(K:qy)(T:String)(r:V->T0 V->Hp->VK->Prop)(to:TE)(t:TA):TE:=λY H Q=>to Y H λx H1=>VZ K T x H1/\t Y H1 λxs H2=>r x xs H2 Q
def Sj(pa:PlainAttrs T)(slot:Slot T name id)(hty:typeOf (.builtin id)=pure (.type "method_descriptor"))(hm:WO X id r)(ho:PE X o to) (X9:Rs o name X.env (wp o X.env)=wp o X.env:=by rfl) (Yh:(XY.endLine==X3.line)=Db:=by rfl):PE X (.Call (.Attribute o name XY) [] [] X3) (Wg X.K T r to):=by
 intro XU s Y H Q I h;refine wpAny_Call_method0_late X9 Yh (sf (ho XU s Y H _ I h) λv s1 zz=>?_);obtain⟨x,H1,I1,r1,ty,q1⟩:=zz;obtain⟨h1,h2⟩:=Of I1 r1 ty;exact⟨T,id,pa,slot,hty,h1,h2,iM Z' (PySem.evalArgs_none (hm XU s1 Y H1 x [] v [] Q I1 r1 .nil q1))⟩
def Um(pa:PlainAttrs T)(slot:Slot T name id)(hty:typeOf (.builtin id)=pure (.type "method_descriptor"))(hm:WO X id r)(ho:PE X o to)(ha:PA X (e::es) t) (X9:Rs o name X.env (wp o X.env)=wp o X.env:=by rfl)
  (Zb:((xz X3 (Tl (e::es) X.env)).all (λx=>!x.1)&&(xL X3 (Ps [] X.env)).all (λx=>x.1.isSome)
   &&decide ((e::es).length+([]:T0 XXc).length+(if ([]:T0 XXc).isEmpty then 0 else 1)<30))=Db:=by rfl)
  (Yh:(XY.endLine==X3.line)=Db:=by rfl) (hs:By X e es:=by rfl) (Yd:C6 X X3 es:=by rfl):
  PE X (.Call (.Attribute o name XY) (e::es) [] X3) (XC X.K T r to t):=by
 intro XU s Y H Q I h;refine wpAny_Call_method_late X9 Zb Yh Z' (sf (ho XU s Y H _ I h) λv s1 zz=>?_);obtain⟨x,H1,I1,r1,ty,q1⟩:=zz;obtain⟨h1,h2⟩:=Of I1 r1 ty;refine⟨T,id,pa,slot,hty,h1,h2,?_⟩;have hA:=ha X3 XU s1 Y H1 _ I1 q1;rw[hs]at hA ⊢;refine iM (by show(pc||(xz X3 (Tl es X.env)).any (·.1))=pc;rw[Yd]<;>rfl) (kq ?_);exact sf hA λus s2 zz=>x5 zz λvs H2 I2 r2 q2=>hm XU s2 Y H2 x vs v us Q I2 r1 r2 q2
end
def Xu(X:Cx)(id:String)(r:V->T0 V->Hp->VK->Prop):Prop:=
 ∀(XU:QQY) (s:Sd) (Y:St) (H:Hp) (x:V) (xs:T0 V) (v:Vl) (us:T0 Vl) (Q:VK),Inv X XU Y H s->qM x v->qA xs us->r x xs H Q->
  pi (Tk X.prog X.w) X.A (call (.builtin id) (v::us)) (EP X XU Y Q) X.xe s
def qA.one:∀{x:V} {us:T0 Vl},qA [x] us->∃u,us=[u]/\qM x u
 | _,_,.cons r .nil=>⟨_,Z',r⟩
def qA.zero:∀{us:T0 Vl},qA [] us->us=[]
 | _,.nil=>rfl
def qA.reverse(h:qA xs us):qA xs.reverse us.reverse:=by
 induction h with
 | nil=>exact .nil
 | cons r t ih=>rw[ib,ib];exact qA.append ih (.cons r .nil)
theorem qA.rep(h:qA xs us):∀k:Nat,qA (List.replicate k xs).flatten (List.replicate k us).flatten
 | 0=>.nil
 | k+1=>by rw[eM,eM,fT,fT];exact qA.append h (qA.rep h k)
theorem Ex(its:T0 Vl):∀(k:Nat) (acc:T0 Vl),List.foldl (λx1 x2=>x1++x2) acc.toArray (List.replicate k its.toArray)=(acc++(List.replicate k its).flatten).toArray
 | 0,acc=>by simp
 | k+1,acc=>by
  have e:acc.toArray++its.toArray=(acc++its).toArray:=by simp
  have e2:(acc++its)++(List.replicate k its).flatten=acc++(List.replicate (k+1) its).flatten:=by rw[eM,fT,fA]
  rw[<-e2,<-Ex its k (acc++its),<-e,eM,gf]
variable {XU:T0 (Uf × Obj)}{Y:St}{H:Hp}{s:Sd}{l:Uf}{xs ys zs:T0 V}
section
variable {b:Uf}
def Inv.o9{its its':T0 Vl}{n:Nat}{f:Array Vl->Array Vl}{t':Nat}(I:Inv X XU Y H s)(hH:H l=ga (.lst xs)) (e:s.heap.get? l=ga {cls:=.type "list",data:=.seq its.toArray n}) (hf:f its.toArray=its'.toArray) (hv:qA ys its') (hz:ys.length<=Ch):
  Inv X XU Y (upd H l (.lst ys)) {s with heap:=s.heap.update l (Obj.mapSeq f),toks:=t'}:=by
 have q:=PySem.IsL.update e f;rw[hf]at q;refine I.write (x:=l) (e:=l) (by rw[hH];exact trivial) (.inl Z') (λb' u hb hu=>(gk s.heap (Obj.mapSeq f) (dZ hb)).trans hu) ⟨_,q⟩ ?_;exact⟨hz,its',_,hv,q⟩
def Inv.oR{t':Nat}(I:Inv X XU Y H s)(hv:qA ys its)(hz:ys.length<=Ch):
  Inv X XU Y (upd H s.heap.objs.size (.lst ys)) {s with heap:=s.heap.push {cls:=.type "list",data:=.seq its.toArray},toks:=t'}:=
 I.laid (λ_ _ q=>dq _ q) (dv _) ⟨hz,its,0,hv,dO _ Z'⟩
def Inv.fresh(I:Inv X XU Y H s):H s.heap.objs.size=Fa:=I.mR.fresh (dv _)
def Inv.og(I:Inv X XU Y H s)(hH:H l=ga (.lst xs)):xs.length<=Ch/\∃(its:T0 Vl) (n:Nat),qA xs its/\xs.length=its.length/\s.heap.get? l=ga {cls:=.type "list",data:=.seq its.toArray n}:=by obtain⟨z,its,n,r,e⟩:=I.mR l _ hH;exact⟨z,its,n,r,r.length,e⟩
def Lp{n:Nat}(h:n<=Ch):Builtin.List.listTooLong n=pc:=by unfold Builtin.List.listTooLong;exact eF (by lia)
end
def QY:V->T0 V->Hp->VK->Prop:=λx vs H Q=>∃l xs y,x=.ref l/\vs=[y]/\H l=ga (.lst xs)/\xs.length<Ch/\Q .mK (upd H l (.lst (xs++[y])))
def Km:Xu X "list.append" QY:=by intro XU s Y H x vs v us Q I rx rv h;obtain⟨l,xs,y,rfl,rfl,hH,hz,q⟩:=h;cases rx;obtain⟨u,rfl,ru⟩:=rv.one;obtain⟨z,its,n,r,hl,e⟩:=I.og hH;refine iX F.slot_list_append ⟨_,e,Z'⟩ F.entry_list_append (F.args_list_append_2 _ _) (PySem.list_append l its.toArray n u (by rw[dB];lia)) ⟨e,?_⟩;refine⟨.mK,_,I.o9 (its':=its++[u]) hH e (by simp) (r.append (.cons ru .nil)) ?_,Z',q⟩;rw[de,dI];lia
def Oj:V->T0 V->Hp->VK->Prop:=λx vs H Q=>∃l xs,x=.ref l/\vs=[]/\H l=ga (.lst xs)/\Q .mK (upd H l (.lst xs.reverse))
def IP:Xu X "list.reverse" Oj:=by intro XU s Y H x vs v us Q I rx rv h;obtain⟨l,xs,rfl,rfl,hH,q⟩:=h;cases rx;have hus:=rv.zero;subst hus;obtain⟨z,its,n,r,hl,e⟩:=I.og hH;refine iX F.slot_list_reverse ⟨_,e,Z'⟩ F.entry_list_reverse (F.args_list_reverse_1 _) (AutoSeq1.list_reverse_list_0 l its.toArray n (by rw[dB];lia)) ⟨e,?_⟩;refine⟨.mK,_,I.o9 (its':=its.reverse) hH e (by simp) r.reverse ?_,Z',q⟩;rw[List.length_reverse];lia
def WM:R2:=λx y H Q=>∃l k xs,x=.ref l/\y=.int k/\H l=ga (.lst xs)/\-(2 ^ 63)<=k/\k<2 ^ 63/\xs.length*k.toNat<=Ch/\
 ∀p,H p=Fa->Q (.ref p) (upd H p (.lst (List.replicate k.toNat xs).flatten))
def PK{α:Type}(xs:List α)(k:Nat):(List.replicate k xs).flatten.length=k*xs.length:=by
 induction k with
 | zero=>simp
 | succ k ih=>rw[eM,fT,de,ih,mo,Nat.add_comm]
def R8:x8 X (wS .Mult) WM:=by
 intro XU s Y H x y v u Q I rx ry h;obtain⟨l,k,xs,rfl,rfl,hH,h1,h2,hz,q⟩:=h;cases rx;obtain⟨t,rfl⟩:=ry;obtain⟨z,its,n,r,hl,e⟩:=I.og hH;have X1:its.toArray.size*k.toNat<=Ch:=by rw[dB,<-hl];exact hz
 have hcap:¬its.toArray.size*k.toNat>(2 ^ 63 - 1) / 8:=by
  have:(Ch:Nat)<=(2 ^ 63 - 1) / 8:=by decide
  lia
 have Yu:¬(!Builtin.List.listFitsIndex k)=Db:=by rw[fitsIndex_both h1 h2];exact dD
 have hlong:¬Builtin.List.listTooLong (its.toArray.size*k.toNat)=Db:=by rw[Lp X1];exact dD
 have ZA:List.foldl (λx1 x2=>x1++x2) #[] (List.replicate (if its.toArray.isEmpty=Db then 0 else k.toNat) its.toArray)=(List.replicate k.toNat its).flatten.toArray:=by
  have f0:∀m:Nat,List.foldl (λx1 x2=>x1++x2) #[] (List.replicate m its.toArray)=(List.replicate m its).flatten.toArray:=λm=>by have:=Ex its m [];rw[eA]at this;exact this
  rw[f0];cases its with
  | nil=>simp
  | cons a r'=>rw[dg (by simp)]
 refine wpAny_binaryOp_repeat_ref (T:="list") (U:="int") (by decide) ⟨_,e,Z'⟩ (λs'=>lW s' k t) noFill_list_mul F.fills_int_mul lX repeat_list F.slot_int_index.lookup
  (iX lX (lW s k t) F.entry_int_rmul (F.args_int_rmul_2 _ _) (int___rmul___int_list k t l its.toArray n)
   ⟨e,Z',⟨_,e,Z'⟩,iX F.slot_list_mul ⟨_,e,Z'⟩ F.entry_list_mul (F.args_list_mul_2 _ _) (AutoListH.list___mul___list_int_3 l its.toArray n k t Yu hcap hlong) ⟨e,?_⟩⟩)
 rw[ZA];exact⟨.ref _,_,I.oR (t':=s.toks) (r.rep k.toNat) (by rw[PK,Nat.mul_comm];exact hz),Z',q _ I.fresh⟩
variable {prog:Pg}{w:Wo}{A:Ar}{E:QQX}
end L2
namespace Att
open PySem PySem.W PySem.Calls PyProof.Rows
def A9:∀(ns:T0 Int) (vs:T0 Vl),WellAll P h vs (ns.map WData.int)->IntsAre vs ns:=by
 intro ns;induction ns with
 | nil=>intro vs w;rw[iY]at w;cases w;exact .nil
 | cons n ns ih=>
  intro vs w;rw[d4]at w;cases w with
  | cons a b=>cases a;exact .cons _ _ (ih _ b)
def KZ{l:OpenLaw}{n:Nat}(hn:l.most=ga n){P:Params}{h:No}{args:T0 WData}{vals:T0 Vl} (Z3:l.row.toRowW.claim.pre args=Db) (hwl:WellAll P h vals args):
  ∃a vs ns,vals=[Value.ref a]/\args=[WData.list (ns.map WData.int)]/\h.get? a=ga {cls:=.type "list",data:=.seq vs.toArray}/\IntsAre vs ns/\ns.length<=n:=by
 have hsh:WShape.hasAll [] args [.list .int]=Db:=(pre_splitW Z3).1;have hc:l.pre.holds [] {args:=args}=Db:=(pre_splitW Z3).2;obtain⟨d,r,rfl,h1,h2⟩:=hasAllW_cons hsh;obtain rfl:=hasAllW_nil h2;obtain⟨xs,rfl,h3⟩:=hasW_list h1;obtain⟨ns,rfl⟩:=items_int h3;have X1:ns.length<=n:=by
  unfold OpenLaw.pre at hc;have h4:(WTm.not (.lt (.lit (.int (n:Int))) (.len (.arg 0)))).holds [] {args:=[.list (ns.map .int)]}=Db:=by have h4:=(holds_andW hc).1;rw[hn]at h4;exact h4
  have h5:=condW_of h4 (w_not (w_lt w_lit (w_len_list (w_arg Z'))));rw[cY]at h5;refine Nat.le_of_not_lt λq=>?_;have q':(n:Int)<((ns.length:Nat):Int):=by lia
  first
   | (rw[dU q']at h5;exact absurd h5 (by decide))
   | (simp at h5;lia)
 cases hwl with
 | cons w1 w2=>
  cases w2;cases w1 with
  | list ho YW=>exact⟨_,_,ns,Z',Z',ho,A9 ns _ YW,X1⟩
def Kl(l:OpenLaw)(args:T0 WData):l.row.toRowW.claim.post args (.bool Db) args=Db:=
 postW_of (r:=l.row.toRowW) (X:=(Db==Db))
  (show WShape.has [] (.bool Db) .bool=Db by first|rfl|decide|simp[WShape.has,WShape.arms,WShape.armsAll])
  (show(WTm.eq .res (.lit (.bool Db))).value [] {args:=args,res:=some (.bool Db),after:=args}=ga (.bool (Db==Db))from w_eq_bool (w_res Z') w_lit) Z'
def attach_call{l:OpenLaw}{n:Nat}{YP:Wo->No->Prop}{d:DefRec} (hn:l.most=ga n) (hdf:d.params.defaults=[]) (call:∀(w:Wo) (s₀ s₁:Sd) (mg mb:QQZ) (fa:Uf) (o:Obj) (pm cd Yx:Vl) (a:Uf) (vs:T0 Vl) (ns:T0 Int),Ground q YH [] XP w s₀ mg mb s₁.heap->YP w s₁.heap->
   s₁.heap.get? fa=ga o->o.data=.func (docDef d.name d.params d.body d.scope pm cd Yx)->s₁.heap.CodeRec cd d.name->mg d.name=ga (.ref fa)->
   s₁.heap.get? a=ga {cls:=.type "list",data:=.seq vs.toArray}->IntsAre vs ns->ns.length<=n->s₁.gens=#[]->
   XXh (Tk l.prog w) callerA (.call (.ref fa) ⟨[.ref a],[]⟩) (λr s'=>r=.ok (.ret (.bool Db))/\OldK s₁.heap s'.heap/\s'.os=s₁.os/\XXk s'.gens) s₁):
  WalkO q YH XP YP l.row.toRowW d [] (λf vs=>PySem.call f vs):=by
 intro w s₀ s₁ mg mb G Y fa o pm cd Yx dV kV ho hd Y8 hD hmg hg args vals as Z3 hlay hrd hwl hlo;obtain rfl:dV=.none:=Dflts.none hD hdf;obtain rfl:kV=.none:=Dflts.noKw hD;obtain⟨a,vs,ns,rfl,rfl,hobj,ZC,X1⟩:=KZ hn Z3 hwl;refine enter_call (gU (call w s₀ s₁ mg mb fa o pm cd Yx a vs ns G Y ho (fd_plain hd) Y8 hmg hobj ZC X1 hg) λr s' hq=>?_);obtain⟨rfl,h2,h3,h4⟩:=hq;exact⟨.inl ⟨.bool Db,.bool Db,[],Z',λ_=>rfl,.bool Db,Kl l _,λ_=>⟨List.Pairwise.nil,λ_ hm=>(nomatch hm)⟩⟩,h2,h3,h4⟩
variable {prog:Pg}{w:Wo}{A:Ar}{E:QQX}{s:Sd}{K:Frag}
end Att
namespace L2
theorem DU:∀{vs:T0 Vl} {ns:T0 Int},IntsAre vs ns->qA (ns.map V.int) vs
 | _,_,.nil=>.nil
 | _,_,.cons n t h=>.cons ⟨t,Z'⟩ (DU h)
def Mr(H:Hp):Prop:=∀b,H b=Fa\/∃o xs,H b=ga (.frz o (.lst xs))
def Oa{P:Pg}{w:Wo}{K:qy}{mg mb:QQZ}{CX:Lm}{fa a:Uf}{fd:wv}{x:Str}{sp:Sp}{s₁:Sd}{vs:T0 Vl} (KX:K.In s₁.heap) (hns:s₁.heap.Ns At mg) (hb:s₁.heap.Ns builtinsNs mb) (hbb:∀x:Str,x≠"__name__"->mb x=zn x) (hlim:s₁.heap.NoLimit) (hg:s₁.gens=#[]) (ha:s₁.heap.get? a=ga {cls:=.type "list",data:=.seq vs.toArray}) (hi:IntsAre vs ns) (hl:ns.length<=Ch) (hr:sj k callerA)
  (F:∀base:No,K.In base->base.Ns At mg->xN P w K mg base CX k fa fd [x] sp) (hbind:∀(s:Sd) (u:Vl),BindsTo s fd ⟨[u],[]⟩ [(x,u)])
  (Zl:∀H:Hp,Mr H->xR K H a (ns.map V.int)->sp [.ref a] H (λv _=>v=.bl Db) λ_ _ _=>False)
  (hCX:∀H e s',CX [] H s₁ (λ_ _ _=>False) e s'->False):
  XXh (Tk P w) callerA (.call (.ref fa) ⟨[.ref a],[]⟩) (λr s'=>r=.ok (.ret (.bool Db))/\OldK s₁.heap s'.heap/\s'.os=s₁.os/\XXk s'.gens) s₁:=by
 have rv:=DU hi;have lenV:=hi.length;have core:∀H:Hp,Mr H->xR K H a (ns.map V.int)->yL P w H s₁.heap->(∀b,H b≠Fa->b=a)->(H a≠Fa->K.lookup a=Fa)->
   XXh (Tk P w) callerA (.call (.ref fa) ⟨[.ref a],[]⟩) (λr s'=>r=.ok (.ret (.bool Db))/\OldK s₁.heap s'.heap/\s'.os=s₁.os/\XXk s'.gens) s₁:=by
  intro H hO hS mR hA hK;have Zi:∀{b:Uf} {o:Obj},s₁.heap.get? b=ga o->H b=Fa->(EF s₁.heap H).get? b=ga o:=λe n=>Ly e n;have noA:∀{b:Uf} {o:Obj} {es:Array DictEntry} {ep:Nat},s₁.heap.get? b=ga o->o.data=.dict es ep->H b=Fa:=λ{b o es ep} e d=>by
   cases q:H b with
   | none=>rfl
   | some u=>have e':b=a:=hA b (by rw[q];simp);subst e';rw[ha]at e;cases e;have d':Data.seq vs.toArray _=Data.dict es ep:=d;cases d'
  have nsK:∀{b:Uf} {m:QQZ},s₁.heap.Ns b m->(EF s₁.heap H).Ns b m:=λ{b m} ⟨o,es,ep,e,d,r⟩=>⟨o,es,ep,Zi e (noA e d),d,r⟩;have hKb:K.In (EF s₁.heap H):=λb o e=>Zi (KX b o e) (by
   cases q:H b with
   | none=>rfl
   | some u=>
    have e':b=a:=hA b (by rw[q];simp);subst e';rw[hK (by rw[q];simp)]at e;cases e)
  have hM:Mod K mg (EF s₁.heap H):=⟨hKb,nsK hns,⟨mb,nsK hb,hbb⟩,let⟨mc,h1,h2⟩:=hlim;⟨mc,nsK h1,h2⟩⟩;have e0:HG P w K mg (EF s₁.heap H) callerA [] s₁ H:=⟨Z',hM,λb o e=>Pn e,jE (Ku _ _),trivial,λb hb=>absurd (show b∈([]:QXQ)from hb) (by simp),mR,.of_eq hg⟩;refine gU ((F _ hKb (nsK hns)).run callerA [] s₁ H ⟨[.ref a],[]⟩ [.ref a] [.ref a] _ _ hr e0 (hbind s₁ (.ref a)) (.cons Z' .nil) (Zl H hO hS)) λr s' h=>?_;cases r with
  | error e=>exact(hCX H e s' h).elim
  | ok fl=>
   cases fl with
   | next=>exact False.elim h
   | brk=>exact False.elim h
   | cont=>exact False.elim h
   | ret u=>
    obtain⟨v,H',os,bare,un,hok',r',q⟩:=h;have q':v=.bl Db:=q;subst q';obtain rfl:u=Value.bool Db:=r';refine⟨Z',OldK.of_keep λb o e=>?_,os,bare⟩;cases q:H b with
    | none=>exact un.keep b o e q (by intro z;exact absurd (show b∈([]:QXQ)from z) (by simp)) (by simp)
    | some u=>
     rcases hO b with z|⟨ob,xs,z⟩
     .rw[q]at z;cases z
     .have z2:=un.ny b ob _ z;obtain⟨e1,_⟩:=mR b _ z;obtain⟨e2,_⟩:=hok' b _ z2;rw[e]at e1;cases e1;exact e2
 cases hk:K.lookup a with
 | some o=>have e:=KX a o hk;rw[ha]at e;cases e;refine core (λ_=>Fa) (λ_=>.inl Z') (.inr ⟨_,vs.toArray,_,hk,Z',Z',Z',by rw[dB,lenV];exact hl,by simpa using rv⟩) (λb u z=>by have z':(Fa:Option HO)=ga u:=z;cases z') (λb z=>absurd Z' z) λz=>absurd Z' z
 | none=>
  refine core (λb=>if b=a then ga (.frz {cls:=.type "list",data:=.seq vs.toArray} (.lst (ns.map V.int)))else Fa) (λb=>?_) (.inl (.inr ⟨{cls:=.type "list",data:=.seq vs.toArray},dh Z'⟩)) (λb u z=>?_) (λb z=>?_) λ_=>hk
  .by_cases hb:b=a
   .exact .inr ⟨_,_,dh hb⟩
   .exact .inl (dg hb)
  .by_cases hb:b=a
   .have z':=(dh hb).symm.trans z;cases z';subst hb;exact⟨ha,by rw[cY];exact hl,vs,_,rv,ha⟩
   .have z':=(dg hb).symm.trans z;cases z'
  .by_cases hb:b=a
   .exact hb
   .exact absurd (dg hb) z
def Ra{l:W.OpenLaw}{n k:Nat}{q:Pg}{YH:QQQ}{XP:(QQZ)->No->Prop}{YP:Wo->No->Prop}{d:DefRec}{K:Params->qy}{CX:Wo->Lm}{sp:Wo->Sp}{x:Str} (hn:l.most=ga n) (hn2:n<=Ch) (hdf:d.params.defaults=[]) (hr:sj k callerA) (hY:∀(w:Wo) (h:No),YP w h->(K w.params).In h) (F:∀(w:Wo) (mg:QQZ) (fa:Uf) (h:No),(K w.params).In h->h.Ns At mg->mg d.name=ga (.ref fa)->
   ∃fd:wv,(∀(s:Sd) (u:Vl),BindsTo s fd ⟨[u],[]⟩ [(x,u)])/\
    ∀base:No,(K w.params).In base->base.Ns At mg->xN l.prog w (K w.params) mg base (CX w) k fa fd [x] (sp w))
  (Zl:∀(w:Wo) (H:Hp) (a:Uf) (ns:T0 Int),ns.length<=n->Mr H->xR (K w.params) H a (ns.map V.int)->sp w [.ref a] H (λv _=>v=.bl Db) λ_ _ _=>False)
  (hCX:∀(w:Wo) (H:Hp) (s:Sd) (e:Vl) (s':Sd),CX w [] H s (λ_ _ _=>False) e s'->False):
  W.WalkO q YH XP YP l.row.toRowW d [] (λf vs=>PySem.call f vs):=by
 refine Att.attach_call hn hdf λw s₀ s₁ mg mb fa o pm cd Yx a vs ns G Y ho hd Y8 hmg hobj ZC X1 hg=>?_;have KX:=hY w _ Y;obtain⟨fd,hb,hF⟩:=F w mg fa _ KX G.T.g hmg;exact Oa KX G.T.g G.T.b G.T.builtins G.T.nolimit hg hobj ZC (d9 X1 hn2) hr hF hb (λH hO hS=>Zl w H a ns X1 hO hS) λH e s'=>hCX w H s₁ e s'
noncomputable def OX(s:TD)(j:Nat):TD:=match s with
 | .ClassDef _ _ _ body _ _ _ _ _ _ _=>body.getD j (.Pass ⟨0,0,0,0⟩)
 | _=>.Pass ⟨0,0,0,0⟩
noncomputable def uz(s:TD):Arguments:=match s with
 | .FunctionDef _ a _ _ _ _ _ _ _ _=>a
 | _=>{posonlyargs:=[],args:=[],vararg:=none,kwonlyargs:=[],kw_defaults:=[],kwarg:=none,defaults:=[]}
noncomputable def rV(s:TD):T0 TD:=match s with
 | .FunctionDef _ _ b _ _ _ _ _ _ _=>b
 | _=>[]
noncomputable def qo(s:TD):XXb:=match s with
 | .FunctionDef _ _ _ _ _ _ sc _ _ _=>sc
 | _=>{kind:=.function,names:=[],isGenerator:=false,isCoroutine:=false}
abbrev OC:Lm:=λ_ _ _ _ _ _=>False
abbrev E0:XK:=λ_ _ _=>False
def Ge:CV OC X E0:=λ_ _ _ _ _ _ _ h=>h.elim
structure Pf(K:qy)(x qual:Str)(st:TD)(f:Uf)(fd:wv):Prop where
 ex:∃(oc:Vl) (od:Option Uf) (kV Yx pm:Vl) (an:Option Uf) (X6 ct:Vl) (YR:Array (Option Vl)),
  fd=W.fnOf x qual (uz st) (rV st) (qo st) .none kV Yx pm an X6 ct/\K.lookup f=ga ⟨oc,od,.func fd,YR⟩/\W.codeIn K X6 qual=Db
 kp:W.keepIn K (.ref f)=Db
variable {P:Pg}{K:qy}{mg:QQZ}{base:No}
section
variable {w:Wo}
def Pf.ok{st:TD}{sp:Sp}(F:Pf K x qual st f fd)(S:tw N ps (qo st))(len:∀vs H Q E,sp vs H Q E->vs.length=ps.length) (Yg:∀(X6:Vl) (A:Ar) (outer:T0 Env) (s:Sd) (H:Hp) (vs:T0 V) (Q:VK) (E:XK),sj k (A.deeper (dL qual (qo st) s.heap.objs.size f X6))->sp vs H Q E->
   ∃t,Cb (vk OC P w K mg base N qual (qo st) f X6 A outer s H E).oF (rV st) t/\t {nx:=λ_ H'=>Q .mK H',rt:=Q} (start N vs) H):xN P w K mg base OC (k+1) f fd ps sp:=by
 obtain⟨oc,od,kV,Yx,pm,an,X6,ct,YR,rfl,lk,Y8⟩:=F.ex;refine NP lk Y8 S len λA outer s H vs Q E hr Zl=>?_;obtain⟨t,h,q⟩:=Yg X6 A outer s H vs Q E hr Zl;exact⟨t,h.oF,q⟩
def Pf.binds{st:TD}{ps:QQQ}(F:Pf K x qual st f fd) (h:∀(kV Yx pm:Vl) (an:Option Uf) (X6 ct:Vl) (us:T0 Vl),us.length=ps.length->bindArgs (W.fnOf x qual (uz st) (rV st) (qo st) .none kV Yx pm an X6 ct) ⟨us,[]⟩=pure (ps.zip us)):uY K fd ps []:=by
 obtain⟨oc,od,kV,Yx,pm,an,X6,ct,YR,rfl,lk,Y8⟩:=F.ex;exact .all (h kV Yx pm an X6 ct)
def MP{st:TD}{oc:Vl}{od an:Option Uf}{YR:Array (Option Vl)}{kV Yx pm X6 ct:Vl}(l:K.lookup f=ga ⟨oc,od,.func (W.fnOf x qual (uz st) (rV st) (qo st) .none kV Yx pm an X6 ct),YR⟩) (c:W.codeIn K X6 qual=Db) (k:W.keepIn K (.ref f)=Db):Pf K x qual st f (W.fnOf x qual (uz st) (rV st) (qo st) .none kV Yx pm an X6 ct):=⟨⟨oc,od,kV,Yx,pm,an,X6,ct,YR,Z',l,c⟩,k⟩
end
variable {X:Cx}
def pv(i:Nat){x:Str}{pos:Pos}(hN:X.N[i]?=ga x:=by rfl)(hv:U7 X.env.scope x:=by first|exact Or.inl Z'|exact Or.inr (Or.inl Z')|exact Or.inr (Or.inr Z'))(hd:zu x:=by decide)
  (Y8:(x==("__classdict__":Str))=pc:=by decide):PE X (.Name x pos) (Ik i):=SC hN hv hd Y8
def G6{A B:Prop}(h:B):if pc=Db then A else B:=by rw[dg dD];exact h
def Qr{A B:Prop}(h:A):if Db=Db then A else B:=by rw[dh Z'];exact h
def qQ{c A B:Prop}[Decidable c](h1:c->A)(h2:¬c->B):if c then A else B:=by
 by_cases h:c
 .rw[dh h];exact h1 h
 .rw[dg h];exact h2 h
def P9(H H':Hp):Prop:=∀b o,H b=ga o->H' b=ga o
def P9.trans(a:P9 H H1)(b:P9 H1 H2):P9 H H2:=λc o h=>b c o (a c o h)
section
variable {κ:Type}[DecidableEq κ]
noncomputable def xb(kvs:T0 (κ×V))(k:κ):Option V:=(kvs.find? λkv=>decide (kv.1=k)).map (·.2)
noncomputable def yJ(kvs:T0 (κ×V))(k:κ)(v:V):T0 (κ×V):=
 if (kvs.any λkv=>decide (kv.1=k))=Db then kvs.map (λkv=>if kv.1=k then(kv.1,v)else kv)else kvs++[(k,v)]
def BP{p:κ×V}{r:T0 (κ×V)}{k:κ}(e:p.1=k):xb (p::r) k=ga p.2:=by simp[xb,fh,e]
def BN{p:κ×V}{r:T0 (κ×V)}{k:κ}(e:¬p.1=k):xb (p::r) k=xb r k:=by simp[xb,fh,e]
theorem G5(k:κ):∀kvs:T0 (κ×V),(kvs.any λkv=>decide (kv.1=k))=(xb kvs k).isSome
 | []=>rfl
 | p::r=>by
  rw[gm];by_cases e:p.1=k
  .simp only[BP e,dU e,ik,Option.isSome_some]
  .rw[BN e,eF e,fR];exact G5 k r
def AO(kvs:T0 (κ×V))(k:κ)(v:V):(yJ kvs k v).length<=kvs.length+1:=by
 unfold yJ;split
 .rw[cY];lia
 .rw[de,eB,dN];lia
def xM.nB(r:xM o u):o.isSome=u.isSome:=by
 cases o with
 | none=>cases u with
  | none=>rfl
  | some _=>exact(show False from r).elim
 | some _=>cases u with
  | none=>exact(show False from r).elim
  | some _=>rfl
def xM.getD(r:xM o u)(rd:qM d d'):qM (o.getD d) (u.getD d'):=by
 cases o with
 | none=>cases u with
  | none=>exact rd
  | some _=>exact(show False from r).elim
 | some _=>cases u with
  | none=>exact(show False from r).elim
  | some _=>exact r
def KV.val(r:KV kvs vs)(k:κ):xM (xb kvs k) (valueAt vs k):=by
 unfold KV at r;induction r with
 | nil=>exact True.intro
 | @cons p q ps qs h t ih=>
  obtain⟨h1,h2⟩:=h;by_cases e:p.1=k
  .have e':q.1=k:=h1.symm.trans e;have b:valueAt (q::qs) k=ga q.2:=by simp[valueAt,fh,e']
   rw[BP e,b];exact h2
  .have e':¬q.1=k:=λz=>e (h1.trans z);have b:valueAt (q::qs) k=valueAt qs k:=by simp[valueAt,fh,e']
   rw[BN e,b];exact ih
def KV.any(r:KV kvs vs)(k:κ):(kvs.any λkv=>decide (kv.1=k))=vs.any λkv=>decide (kv.1=k):=by
 unfold KV at r;induction r with
 | nil=>rfl
 | cons h t ih=>rw[gm,gm,ih,h.1]
def KV.oy(r:KV kvs vs)(k:κ){y:V}{u:Vl}(ry:qM y u):
  KV (kvs.map λkv=>if kv.1=k then(kv.1,y)else kv) (vs.map λkv=>if kv.1=k then(kv.1,u)else kv):=by
 unfold KV at r ⊢;induction r with
 | nil=>exact .nil
 | @cons p q ps qs h t ih=>
  rw[d4,d4];refine .cons ?_ ih;obtain⟨h1,h2⟩:=h;by_cases e:p.1=k
  .rw[dh e,dh (h1.symm.trans e)];exact⟨h1,ry⟩
  .rw[dg e,dg (λz=>e (h1.trans z))];exact⟨h1,h2⟩
def KV.put(r:KV kvs vs)(k:κ){y:V}{u:Vl}(ry:qM y u):KV (yJ kvs k y) (stored vs k u):=by
 unfold yJ stored;rw[r.any k];by_cases e:(vs.any λkv=>decide (kv.1=k))=Db
 .rw[dh e,dh e];exact r.oy k ry
 .rw[dg e,dg e];exact mC r ⟨Z',ry⟩
def KV.length(r:KV kvs vs):kvs.length=vs.length:=jo r
end
def Et(r:qM (kV k) u):(rF P w).is k u=Db:=by
 cases k with
 | inl i=>obtain⟨t,e⟩:=(show ∃t,u=Value.int i t from r);subst e;exact Hs P w i t
 | inr x=>obtain⟨t,e⟩:=(show ∃t,u=Value.str x t from r);subst e;exact AN P w x t
theorem DR:∀{ks:List qW} {us:T0 Vl},qA (ks.map kV) us->ItemsAre (rF P w) ks us
 | [],_,r=>by rw[iY]at r;cases r;exact .nil
 | k::ks,_,r=>by
  rw[d4]at r;cases r with
  | cons h t=>exact .cons (Et h) (DR t)
abbrev KT(H:Hp):T0 (List qW×V)->T0 (List qW×Uf×Vl)->Prop:=Paired λp q=>p.1=q.1/\H q.2.1=ga (.tup (p.1.map kV))/\qM p.2 q.2.2
def KT.val(r:KT H kvs xs)(k:List qW):xM (xb kvs k) ((atKey xs k).map (·.2)):=by
 induction r with
 | nil=>exact True.intro
 | @cons p q ps qs h t ih=>
  obtain⟨h1,_,h2⟩:=h;by_cases e:p.1=k
  .have e':q.1=k:=h1.symm.trans e;have b:atKey (q::qs) k=ga q.2:=by simp[atKey,fh,e']
   rw[BP e,b];exact h2
  .have e':¬q.1=k:=λz=>e (h1.trans z);have b:atKey (q::qs) k=atKey qs k:=by simp[atKey,fh,e']
   rw[BN e,b];exact ih
def KT.oy(r:KT H kvs xs)(k:List qW){y:V}{u:Vl}(ry:qM y u):
  KT H (kvs.map λkv=>if kv.1=k then(kv.1,y)else kv) (xs.map (putAt k u)):=by
 induction r with
 | nil=>exact .nil
 | @cons p q ps qs h t ih=>
  rw[d4,d4];refine .cons ?_ ih;obtain⟨h1,h2,h3⟩:=h;unfold putAt;by_cases e:p.1=k
  .rw[dh e,dh (h1.symm.trans e)];exact⟨h1,h2,ry⟩
  .rw[dg e,dg (λz=>e (h1.trans z))];exact⟨h1,h2,h3⟩
def KT.put(r:KT H kvs xs)(k:List qW){b:Uf}{y:V}{u:Vl}(hb:H b=ga (.tup (k.map kV)))(ry:qM y u):
  KT H (yJ kvs k y) (storedH xs k b u):=by
 have e:(kvs.any λkv=>decide (kv.1=k))=(atKey xs k).isSome:=by rw[G5,(r.val k).nB,jt]
 unfold yJ storedH;rw[e];by_cases q:(atKey xs k).isSome=Db
 .rw[dh q,dh q];exact r.oy k ry
 .rw[dg q,dg q];exact mC r ⟨Z',hb,ry⟩
def KT.keeps{H H':Hp}(r:KT H kvs xs)(ht:∀b ys,H b=ga (.tup ys)->H' b=ga (.tup ys)):KT H' kvs xs:=
 Paired.oH r λ_ _ z=>⟨z.1,ht _ _ z.2.1,z.2.2⟩
variable {H:Hp}{h:No}{a:Uf}
section
variable {w:Wo}
def RA(ok:yL P w H h)(e:Rd H a u):sC P w H h a u:=e.ok ok
def Eo{kvs:T0 (qW×V)}(ok:yL P w H h)(e:Rd H a (.dK kvs)):kvs.length<=Ch/\(a==sK)=pc/\∃vs,KV kvs vs/\h.DictOf (rF P w) a vs:=
 show sC P w H h a (.dK kvs)from RA ok e
def UM{kvs:T0 (qW×V)}(ok:yL P w H h)(e:H a=ga (.dK kvs)):kvs.length<=Ch/\(a==sK)=pc/\∃vs,KV kvs vs/\h.DictOf (rF P w) a vs:=Eo ok (.inl e)
def BZ{ks:List qW}(ok:yL P w H h)(e:H a=ga (.tup (ks.map kV))):(tupleKind (rF P w)).is h ks a:=by obtain⟨_,its,r,o,h1,h2,⟨n,h3⟩,_⟩:=(show sC P w H h a (.tup (ks.map kV))from ok a _ e);exact⟨o,its.toArray,n,h1,h2,h3,by simpa using DR r⟩
def DH{kvs:T0 (List qW×V)}(ok:yL P w H h)(e:Rd H a (.dT kvs)):kvs.length<=Ch/\(a==sK)=pc/\
  ∃xs,KT H kvs xs/\h.DictOfH (tupleKind (rF P w)) a xs:=by
 obtain⟨z,y,xs,r,o,es,ep,h1,h2,h3,h4,h5⟩:=(show sC P w H h a (.dT kvs)from RA ok e);refine⟨z,y,xs,r,o,es,ep,h1,h2,h3,h4,λx hx=>?_,h5⟩;have all:∀{l:T0 (List qW×V)} {m:T0 (List qW×Uf×Vl)},KT H l m->∀x∈m,(tupleKind (rF P w)).is h x.1 x.2.1:=by
  intro l m q;induction q with
  | nil=>intro x hx;exact nomatch hx
  | @cons p q ps qs hq t ih=>
   intro x hx;rcases dC.mp hx with e|hx
   .subst e;exact BZ ok (by rw[<-hq.1];exact hq.2.1)
   .exact ih x hx
 exact all r x hx
def U5{kvs:T0 (List qW×V)}(ok:yL P w H h)(e:H a=ga (.dT kvs)):kvs.length<=Ch/\(a==sK)=pc/\
  ∃xs,KT H kvs xs/\h.DictOfH (tupleKind (rF P w)) a xs:=DH ok (.inl e)
end
def A5(H:Hp)(a:Uf)(y:V)(r:Option V):Prop:=
 (∃kvs k,Rd H a (.dK kvs)/\y=kV k/\r=xb kvs k)\/∃kvs k b,Rd H a (.dT kvs)/\y=.ref b/\H b=ga (.tup (k.map kV))/\r=xb kvs k
def K9(H:Hp)(a:Uf)(y v:V)(H':Hp):Prop:=
 (∃kvs k,H a=ga (.dK kvs)/\y=kV k/\kvs.length<Ch/\H'=upd H a (.dK (yJ kvs k v)))\/
 ∃kvs k b,H a=ga (.dT kvs)/\y=.ref b/\H b=ga (.tup (k.map kV))/\kvs.length<Ch/\H'=upd H a (.dT (yJ kvs k v))
def A5.k{H:Hp}{a:Uf}{kvs:T0 (qW×V)}{k:qW}(e:H a=ga (.dK kvs)):A5 H a (kV k) (xb kvs k):=.inl ⟨kvs,k,.inl e,Z',Z'⟩
def K9.k{H:Hp}{a:Uf}{kvs:T0 (qW×V)}{k:qW}(e:H a=ga (.dK kvs))(hl:kvs.length<Ch):K9 H a (kV k) v (upd H a (.dK (yJ kvs k v))):=.inl ⟨kvs,k,e,Z',hl,Z'⟩
variable {XU:T0 (Uf × Obj)}{Y:St}{y v:V}{u r:Vl}
section
variable {s:Sd}{o:Option V}{A:Ar}{E:QQX}
def Inv.big(I:Inv X XU Y H s):sK<s.heap.objs.size:=by have h:At<s.heap.objs.size:=(I.mod.glob.keeps I.bk).lt;exact jI (by decide) h
def Ky{Q:QQX}(hu:A.units+1<wP)(I:Inv X XU Y H s)(g:A5 H a y (ga v))(ry:qM y u)(h:∀w' s',Inv X XU Y H s'->qM v w'->Q w' s'):
  pi (Tk X.prog X.w) A (XXa (.ref a) u) Q E s:=by
 rcases g with⟨kvs,k,e,ey,l⟩|⟨kvs,k,b,e,ey,eb,l⟩
 .subst ey;obtain⟨z,hd,vs,YM,dd⟩:=Eo I.mR e;obtain⟨w',hw,Zm⟩:=xM.some_of (v:=v) (o:=valueAt vs k) (by rw[l];exact YM.val k);exact wpAny_getItem_of (Et ry) dd.mapOf hw (h w' _ (I.tok _) Zm)
 .subst ey;cases(show u=Value.ref b from ry);obtain⟨z,hd,xs,YM,dd⟩:=DH I.mR e;obtain⟨w',hw,Zm⟩:=xM.some_of (v:=v) (o:=(atKey xs k).map (·.2)) (by rw[l];exact YM.val k);obtain⟨p,hp,X4⟩:=j6.mp hw;refine wpAny_getItem_heap (iB hu) (BZ I.mR eb) dd hp ?_;rw[X4];exact h w' _ (I.tok _) Zm
def WS{Q:QQX}(hu:A.units+1<wP)(I:Inv X XU Y H s)(g:A5 H a y o)(ry:qM y u)(h:∀s',Inv X XU Y H s'->Q (.bool o.isSome) s'):
  pi (Tk X.prog X.w) A (Op .In u (.ref a)) Q E s:=by
 rcases g with⟨kvs,k,e,ey,l⟩|⟨kvs,k,b,e,ey,eb,l⟩
 .subst ey;obtain⟨z,hd,vs,YM,dd⟩:=Eo I.mR e;refine wpAny_in_of (Et ry) hd dd.mapOf ?_;rw[<-(YM.val k).nB,<-l];exact h _ (I.tok _)
 .subst ey;cases(show u=Value.ref b from ry);obtain⟨z,hd,xs,YM,dd⟩:=DH I.mR e;refine wpAny_in_heap (iB hu) (BZ I.mR eb) hd dd ?_;have q:=(YM.val k).nB;rw[jt]at q;rw[<-q,<-l];exact h _ (I.tok _)
def Jb{t':Nat}(I:Inv X XU Y H s)(mu:VS (H a))(hs:Heap.SameBut a s.heap h')(he:∃q,h'.get? a=ga q)(new:sC X.prog X.w (upd H a ob) h' a ob):
  Inv X XU Y (upd H a ob) {s with heap:=h',toks:=t'}:=
 I.write (x:=a) (e:=a) mu (.inl Z') (λb q hb z=>(hs.2 b hb).trans z) he new
def CB{H':Hp}{h':No}{kvs:T0 (qW×V)}(z:kvs.length<=Ch)(hd:(a==sK)=pc)(YM:KV kvs vs)(dd:h'.DictOf (rF P w) a vs):
  sC P w H' h' a (.dK kvs):=⟨z,hd,vs,YM,dd⟩
def Le{Q:Unit->Sd->Prop}(hu:A.units+1<wP)(I:Inv X XU Y H s)(g:K9 H a y v H')(ry:qM y u)(rv:qM v r)(h:∀s',Inv X XU Y H' s'->Q () s'):
  pi (Tk X.prog X.w) A (setItem (.ref a) u r) Q E s:=by
 rcases g with⟨kvs,k,e,ey,l,eH⟩|⟨kvs,k,b,e,ey,eb,l,eH⟩
 .subst ey eH;obtain⟨z,hd,vs,YM,dd⟩:=UM I.mR e;have hz:vs.length<=Ch:=by rw[<-YM.length];exact z
  have hl:(yJ kvs k v).length<=Ch:=by have:=AO kvs k v;lia
  refine wpAny_setItem_pairs (hsz:=hz) (Et ry) dd λh' dd' hs=>h _ ?_;have he:∃q,h'.get? a=ga q:=let⟨q,_,_,hq,_⟩:=dd';⟨q,hq⟩;exact Jb I (by rw[e];exact True.intro) hs he (CB hl hd (YM.put k rv) dd')
 .subst ey eH;cases(show u=Value.ref b from ry);obtain⟨z,hd,xs,YM,dd⟩:=U5 I.mR e;have hz:xs.length<=Ch:=by rw[<-jo YM];exact z
  have hl:(yJ kvs k v).length<=Ch:=by have:=AO kvs k v;lia
  refine wpAny_setItem_heap (hsz:=hz) (iB hu) (BZ I.mR eb) dd λh' dd' hs=>h _ ?_;obtain⟨q,es,ep,hq,h2,h3,h4,_,h5⟩:=dd';refine Jb I (by rw[e];exact True.intro) hs ⟨q,hq⟩ ⟨hl,hd,_,(YM.put k eb rv).keeps λc ys ec=>?_,q,es,ep,hq,h2,h3,h4,h5⟩;rw[qd (UH ec e (λz=>nomatch z))];exact ec
end
variable {kvs:T0 (qW × V)}{k:qW}
section
variable {s:Sd}{A:Ar}{E:QQX}
end
def GL{XU:QQY}(I:Inv X XU Y H s)(g:A5 H a y o):s.TypeIs (.ref a) "dict":=by
 rcases g with⟨kvs,k,e,_,_⟩|⟨kvs,k,b,e,_,_,_⟩
 .obtain⟨_,_,vs,_,dd⟩:=Eo I.mR e;exact dd.typeIs
 .obtain⟨_,_,xs,_,dd⟩:=DH I.mR e;exact dd.typeIs
def Uv(td ty tv:TE):TS:=λD Y H=>tv Y H λv H1=>td Y H1 λx H2=>ty Y H2 λy H3=>∃a H4,x=.ref a/\K9 H3 a y v H4/\D.nx Y H4
variable {i e value:Go}{pos X5 YV:Pos}{td ty tv:TE}
section
variable {o:Go}
def J1(hu:X.A.units+1<wP)(ho:PE X o td)(hi:PE X i ty)(hv:PE X value tv)(hs:sB value (ga (.Subscript o i X5)) pos.line X.env=pure pc):
  PS X (.Assign [.Subscript o i X5] value pos) (Uv td ty tv):=by
 intro XU s Y H D I h;refine wpAny_Assign_Subscript (sf (hv XU s Y H _ I h) λr s1 zz=>x5 zz λv H1 I1 rv q1=>sf (ho XU s1 Y H1 _ I1 q1) λu s2 zz=>x5 zz λx H2 I2 rx q2=>sf (hi XU s2 Y H2 _ I2 q2) λiv s3 zz=>?_) hs;obtain⟨y,H3,I3,ry,a,H4,ex,g,q3⟩:=zz;subst ex;obtain rfl:u=Value.ref a:=rx;exact Le hu I3 g ry rv λs4 I4=>⟨Y,H4,I4,q3⟩
end
def Lq(h:No)(hb:sK<h.objs.size):sC P w H (h.push {cls:=.type "dict",data:=.dict #[]}) h.objs.size (.dK []):=
 ⟨e9 _,gg.mpr (dZ (dW hb)),[],.nil,lY h⟩
def RQ:TE:=λ_ H Q=>∀p,H p=Fa->Q (.ref p) (upd H p (.dK []))
def Nj:PE X (.Dict [] [] pos) RQ:=λXU s Y H Q I h=>wpAny_Dict_empty ⟨.ref s.heap.objs.size,_,I.laid (a:=s.heap.objs.size) (o:=.dK []) (t':=s.toks) (λ_ _ q=>dq _ q) (dv _) (Lq s.heap I.big),Z',h _ (I.mR.fresh (dv _))⟩
structure M1(X:Cx)(o:Go)(m:Str)(XY:Pos)(e:Go)(X3:Pos):Prop where
 base:Rs o m X.env (wp o X.env)=wp o X.env
 pz:((xz X3 (Tl [e] X.env)).all (λx=>!x.1)&&(xL X3 (Ps [] X.env)).all (λx=>x.1.isSome)
  &&decide (([e]:List Go).length+([]:List XXc).length+(if ([]:List XXc).isEmpty then 0 else 1)<30))=Db
 line:(XY.endLine==X3.line)=Db
 trees:xz X3 (Tl [e] X.env)=[(pc,wp e X.env)]
structure M2(X:Cx)(o:Go)(m:Str)(XY:Pos)(e f:Go)(X3:Pos):Prop where
 base:Rs o m X.env (wp o X.env)=wp o X.env
 pz:((xz X3 (Tl [e,f] X.env)).all (λx=>!x.1)&&(xL X3 (Ps [] X.env)).all (λx=>x.1.isSome)
  &&decide (([e,f]:List Go).length+([]:List XXc).length+(if ([]:List XXc).isEmpty then 0 else 1)<30))=Db
 line:(XY.endLine==X3.line)=Db
 trees:xz X3 (Tl [e,f] X.env)=[(pc,wp e X.env),(pc,wp f X.env)]
def Xq(H:Hp)(a:Uf):Prop:=(∃kvs,Rd H a (.dK kvs))\/∃kvs,Rd H a (.dT kvs)
def R6{XU:QQY}(I:Inv X XU Y H s)(d:Xq H a):
  s.TypeIs (.ref a) "dict"/\(∀b,Value.ref a=.ref b->∃ob,s.heap.get? b=ga ob/\ob.dict=Fa)/\(a==sK)=pc:=by
 rcases d with⟨kvs,e⟩|⟨kvs,e⟩
 .obtain⟨_,hd,vs,_,dd⟩:=Eo I.mR e;refine⟨dd.typeIs,λb q=>?_,hd⟩;cases q;obtain⟨ob,_,_,h1,h2,_⟩:=dd;exact⟨ob,h1,h2.2.1⟩
 .obtain⟨_,hd,xs,_,dd⟩:=DH I.mR e;refine⟨dd.typeIs,λb q=>?_,hd⟩;cases q;obtain⟨ob,_,_,h1,h2,_⟩:=dd;exact⟨ob,h1,h2.2.1⟩
variable {d:V}
section
variable {s:Sd}{o:Option V}{A:Ar}{E:QQX}
def SY{Q:QQX}(hu:A.units+1<wP)(I:Inv X XU Y H s)(g:A5 H a y o)(ry:qM y u)(rd:qM d r)(h:∀w' s',Inv X XU Y H s'->qM (o.getD d) w'->Q w' s'):
  pi (Tk X.prog X.w) A (call (.builtin "dict.get") [.ref a,u,r]) Q E s:=by
 rcases g with⟨kvs,k,e,ey,l⟩|⟨kvs,k,b,e,ey,eb,l⟩
 .subst ey;obtain⟨z,hd,vs,YM,dd⟩:=Eo I.mR e;refine call_meetsIn iO dd.typeIs j7 (jS _ _ _) (meets_dict_get_default (rF X.prog X.w) a (Et ry) hd r) ⟨_,dd.mapOf,h _ _ (I.tok _) ?_⟩;rw[l];exact(YM.val k).getD rd
 .subst ey;cases(show u=Value.ref b from ry);obtain⟨z,hd,xs,YM,dd⟩:=DH I.mR e;refine call_meetsIn iO dd.typeIs j7 (jS _ _ _) (meetsH_dict_get_default (tupleKind (rF X.prog X.w)) a b hd r) ⟨iB hu,k,xs,BZ I.mR eb,dd,h _ _ (I.tok _) ?_⟩;rw[l];exact(YM.val k).getD rd
end
def TZ(td ty tx:TE):TE:=λY H Q=>td Y H λx H1=>∃a,x=.ref a/\Xq H1 a/\ty Y H1 λy H2=>tx Y H2 λz H3=>∃o,A5 H3 a y o/\Q (o.getD z) H3
variable {f:Go}{XY X3:Pos}{tx:TE}
section
variable {o:Go}
def MM(hu:X.A.units+1<wP)(ho:PE X o td)(he:PE X e ty)(hf:PE X f tx)(m:M2 X o "get" XY e f X3):PE X (.Call (.Attribute o "get" XY) [e,f] [] X3) (TZ td ty tx):=by
 intro XU s Y H Q I h;refine wpAny_Call_method m.base m.pz m.line PySem.F.plainAttrs_dict iO PySem.F.type_dict_get (sf (ho XU s Y H _ I h) λu s1 zz=>?_);obtain⟨x,H1,I1,rx,a,ex,d,q1⟩:=zz;subst ex;obtain rfl:u=Value.ref a:=rx;obtain⟨t1,t2,_⟩:=R6 I1 d;refine⟨t1,t2,?_⟩;rw[m.trees];refine iM Z' (kq (hU (sf (he XU s1 Y H1 _ I1 q1) λiv s2 zz=>x5 zz λy H2 I2 ry q2=>
  hU (sf (hf XU s2 Y H2 _ I2 q2) λfv s3 ⟨z,H3,I3,rz,ov,g,q3⟩=>iK ?_))))
 exact SY hu I3 g ry rz λw' s4 I4 Zm=>⟨_,H3,I4,Zm,q3⟩
end
section
variable {s:Sd}{A:Ar}{E:QQX}
end
section
variable {s:Sd}{A:Ar}{E:QQX}
end
section
variable {κ:Type}[DecidableEq κ]
end
noncomputable def A8(env:Env):T0 (Str×wT)->T0 (Str×Uf)->T0 (Str×Uf)
 | [],acc=>acc
 | (n,k)::r,acc=>A8 env r (if k==.free then(n,(env.cells.lookup n).getD 0)::acc else acc)
theorem Hh{env:Env}{f:(Str×wT)->T0 (Str×Uf)->Sem (ForInStep (T0 (Str×Uf)))} (hf:∀x cs,(x.2=.free->∃c,env.cells.lookup x.1=ga c)->f x cs=pure (.yield (if x.2==.free then(x.1,(env.cells.lookup x.1).getD 0)::cs else cs))):
  ∀(l:T0 (Str×wT)) (acc:T0 (Str×Uf)),(∀x∈l,x.2=.free->∃c,env.cells.lookup x.1=ga c)->forIn l acc f=pure (A8 env l acc)
 | [],acc,_=>by rw[j9];rfl
 | (n,k)::r,acc,h=>by rw[jV,hf (n,k) acc (h _ dP),pure_bind];exact Hh hf r _ λx hx=>h x (dH _ hx)
def yN{scope:XXb}{env:Env}(h:∀x∈scope.names,x.2=.free->∃c,env.cells.lookup x.1=ga c):closureFor scope env=pure (A8 env scope.names []):=by
 unfold closureFor;have e:=Hh (env:=env) (f:=λ(x:Str×wT) (cs:T0 (Str×Uf))=>(do
   if x.2==.free then
    let a<-cellOf env x.1
    pure (ForInStep.yield ((x.1,a)::cs))
   else pure (ForInStep.yield cs))) (λx cs hx=>by
  cases hk:x.2==NameKind.free with
  | false=>simp
  | true=>
   obtain⟨c,hc⟩:=hx (by simpa using hk);simp[cellOf,hc]) scope.names [] h
 first
  | exact(eC (·>>=pure) e).trans (by simp)
  | (simp only[bind_pure];exact e)
  | (rw[<-e];rfl)
theorem Od{env:Env}{x:Str}{c:Uf}:∀{l:T0 (Str×wT)} {acc:T0 (Str×Uf)},(∀x∈l,x.2=.free->∃c,env.cells.lookup x.1=ga c)->(∀x c,acc.lookup x=ga c->env.cells.lookup x=ga c)->(A8 env l acc).lookup x=ga c->env.cells.lookup x=ga c
 | [],acc,_,ha,h=>ha x c h
 | (n,k)::r,acc,hl,ha,h=>by
  refine Od (l:=r) (acc:=if k==.free then(n,(env.cells.lookup n).getD 0)::acc else acc) (λy hy=>hl y (dH _ hy)) (λy d hd=>?_) h;cases hk:k==NameKind.free with
  | false=>rw[hk]at hd;exact ha y d (by simpa using hd)
  | true=>
   rw[hk,dh Z']at hd;obtain⟨e,he⟩:=hl (n,k) dP (by simpa using hk);rw[eQ]at hd;cases hy:y==n with
   | true=>
    rw[hy]at hd;have yn:y=n:=by simpa using hy
    subst yn;have he:env.cells.lookup y=ga e:=he;rw[he]at hd ⊢;exact hd
   | false=>rw[hy]at hd;exact ha y d hd
theorem NQ{x:Str}:∀{l:T0 (Str×wT)} {acc:T0 (Str×Uf)},(∃c,acc.lookup x=ga c)->∃c,(A8 env l acc).lookup x=ga c
 | [],_,h=>h
 | (n,k)::r,acc,h=>by
  refine NQ (l:=r) ?_;cases hk:k==NameKind.free with
  | false=>simpa using h
  | true=>
   rw[dh Z',eQ];cases hy:x==n with
   | true=>exact⟨_,Z'⟩
   | false=>exact h
theorem HD{x:Str}:∀{l:T0 (Str×wT)} {acc:T0 (Str×Uf)},l.lookup x=ga .free->∃c,(A8 env l acc).lookup x=ga c
 | [],_,h=>by simp at h
 | (n,k)::r,acc,h=>by
  rw[eQ]at h;cases hy:x==n with
  | true=>rw[hy]at h;have hk:k=.free:=dw h;subst hk;refine NQ (l:=r) ⟨(env.cells.lookup n).getD 0,?_⟩;show List.lookup x (if NameKind.free==NameKind.free then(n,(env.cells.lookup n).getD 0)::acc else acc)=ga ((env.cells.lookup n).getD 0);rw[dh (by rfl),eQ,hy]
  | false=>rw[hy]at h;exact HD (l:=r) h
theorem uk{env:Env}{x:Str}:∀{l:T0 (Str×wT)},(l.map λ(n,k)=>if (k==NameKind.free&&env.scope.kind==.function&&env.kindOf n==ga .cell)then(n,NameKind.cell)else(n,k)).lookup x
   = (l.lookup x).map λk=>if (k==NameKind.free&&env.scope.kind==.function&&env.kindOf x==ga .cell)then NameKind.cell else k
 | []=>rfl
 | (n,k)::r=>by
  rw[d4];show List.lookup x ((if (k==NameKind.free&&env.scope.kind==.function&&env.kindOf n==ga .cell)=Db then(n,NameKind.cell)else(n,k))::_)=_;cases hy:x==n with
  | true=>
   have yn:x=n:=by simpa using hy
   subst yn;by_cases hc:(k==NameKind.free&&env.scope.kind==.function&&env.kindOf x==ga .cell)=Db
   .rw[dh hc,eQ,eQ,hy];simp only[jW];rw[dh hc]
   .rw[dg hc,eQ,eQ,hy];simp only[jW];rw[dg hc]
  | false=>
   by_cases hc:(k==NameKind.free&&env.scope.kind==.function&&env.kindOf n==ga .cell)=Db
   .rw[dh hc,eQ,eQ,hy];exact uk
   .rw[dg hc,eQ,eQ,hy];exact uk
noncomputable def P5(ix:T0 (Option Nat))(Y:St):St:=ix.map λo=>o.bind λi=>(Y[i]?).join
abbrev Cx.comp(X:Cx)(scope:XXb)(N':QQQ)(C:Uf)(s0:Sd)(H0:Hp)(ex:QXQ):Cx:=
 {X with N:=N',s₀:=s0,H₀:=H0,env:=compEnvC scope (A8 X.env scope.names []) C X.env,outer:=X.stack,ex:=ex,fn:=λ_=>pc,pn:=[],xe:=λ_ _=>False}
structure sv(X:Cx)(scope:XXb)(ix:List (Option Nat))(N':QQQ):Prop where
 kind:scope.kind=.function
 oG:∀y∈scope.names,y.2≠.cell
 nam:∀y∈scope.names,y.2=.local->scope.names.lookup y.1=ga .local
 fre:∀y∈scope.names,y.2=.free->X.env.scope.names.lookup y.1=ga .cell\/X.env.scope.names.lookup y.1=ga .free
 len:ix.length=N'.length
 at_:∀(j i:Nat) (x:Str),ix[j]?=ga (ga i)->N'[j]?=ga x->X.N[i]?=ga x/\scope.names.lookup x=ga .free
variable {scope:XXb}{ix:T0 (Option Nat)}{N':QQQ}{fp:QXQ}
section
variable {s:Sd}
def sv.cells(S:sv X scope ix N')(ok:X.Ok):∀x∈scope.names,x.2=.free->∃c,X.env.cells.lookup x.1=ga c:=λx hx hk=>ok.has x.1 (S.fre x hx hk)
def sv.sub(S:sv X scope ix N')(ok:X.Ok){x:Str}{c:Uf}(h:(A8 X.env scope.names []).lookup x=ga c):X.env.cells.lookup x=ga c:=Od (S.cells ok) (λ_ _ z=>by simp at z) h
theorem vv{x:Str}{k:wT}:∀{l:T0 (Str×wT)},l.lookup x=ga k->(x,k)∈l
 | [],h=>by simp at h
 | (n,j)::r,h=>by
  rw[eQ]at h;cases hy:x==n with
  | true=>
   rw[hy]at h;have yn:x=n:=by simpa using hy
   subst yn;rw[dw h];exact dP
  | false=>rw[hy]at h;exact dH _ (vv h)
def Inv.comp{C:Uf}{h1:No}{tk:Nat}(I:Inv X XU Y H s)(S:sv X scope ix N')(hf:∀b∈fp,zC X XU H b)(Yc:∀b∈fp,b<s.heap.objs.size)(hC:s.heap.objs.size<=C) (k:∀b o,s.heap.get? b=ga o->h1.get? b=ga o) (hn:h1.Ns C (λ_=>Fa)):Inv (X.comp scope N' C s H fp) (X.pn++XU) (P5 ix Y) H {s with heap:=h1,toks:=tk}:=by
 have sub:∀{x:Str} {c:Uf},(A8 X.env scope.names []).lookup x=ga c->X.env.cells.lookup x=ga c:=λh=>S.sub I.ok h;refine⟨⟨I.ok.mod,S.kind,I.ok.glob,I.ok.blt,hC,λx y c e1 e2=>I.ok.inj x y c (sub e1) (sub e2),λx hx=>?_,λ_ _ z=>(dD z).elim,I.ok.hd,I.ok.frames,.inl Z',λb hb=>⟨dW (dR (Yc b hb) hC),λx c e=>(hf b hb).2.2.2.2.1 x c (sub e)⟩,I.bs,d9 I.ok.nY I.sz,λb o e hb=>?_,λb hb hfs=>?_,I.stack,I.nG⟩,Z',I.bare,Un.kept k,⟨_,hn,λi x v e1 e2 e3=>?_⟩,λx c e=>?_,I.mR.fresh hC,λx c e=>I.mW x c (sub e),λp hp=>?_,I.mR.kept k,?_⟩
 .have hx:(relabel scope X.env).names.lookup x=ga .cell\/(relabel scope X.env).names.lookup x=ga .free:=hx;have e:(relabel scope X.env).names.lookup x=(scope.names.lookup x).map λk=>if (k==NameKind.free&&X.env.scope.kind==.function&&X.env.kindOf x==ga .cell)then NameKind.cell else k:=uk
  rw[e]at hx;cases q:scope.names.lookup x with
  | none=>rw[q]at hx;rcases hx with hx|hx<;>simp at hx
  | some kd=>
   cases kd with
   | free=>exact HD q
   | cell=>exact absurd Z' (S.oG _ (vv q))
   | _=>rw[q]at hx;rcases hx with hx|hx<;>simp at hx
 .rcases(hf b hb).2.2.2.1 with z|z
  .exact I.ok.nL b o e z
  .exact absurd (dR (dG e) (d9 I.ok.nY z)) (eZ _)
 .rcases dC.mp (I.nz b hfs)with z|z
  .exact(hf b hb).2.1 z
  .exact(hf b hb).2.2.1 z
 .have Z4:(ix[i]?).map (λo=>o.bind λi=>(Y[i]?).join)=ga (ga v):=by have z:(P5 ix Y)[i]?=ga (ga v):=e2;unfold P5 at z;rw[dE]at z;exact z
  cases q:ix[i]? with
  | none=>rw[q]at Z4;cases Z4
  | some o=>
   rw[q]at Z4;cases o with
   | none=>cases Z4
   | some j=>
    have Z5:(Y[j]?).join=ga v:=dw Z4;have e4:Y[j]?=ga (ga v):=by
     cases r:Y[j]? with
     | none=>rw[r]at Z5;cases Z5
     | some w=>rw[r]at Z5;exact eC ga Z5
    obtain⟨n1,n2⟩:=S.at_ i j x q e1;obtain⟨m,hm,hl⟩:=I.loc;have hk:=S.fre _ (vv n2) Z';have hv:U7 X.env.scope x:=by
     rcases hk with z|z
     .exact .inr (.inl z)
     .exact .inr (.inr z)
    obtain⟨u,ru,lk⟩:=hl j x v n1 e4 hv;refine⟨u,ru,?_⟩;have Z6:X.env.kindOf x=ga .cell\/X.env.kindOf x=ga .free:=hk;rcases lk with⟨z,_⟩|⟨_,c,hc,hcell⟩
    .rcases Z6 with y|y<;>(rw[y]at z;cases z)
    .obtain⟨c',hc'⟩:=HD (env:=X.env) (acc:=[]) n2;have:=sub hc';rw[hc]at this;cases this;refine .inr ⟨?_,c,hc',hcell.keeps k⟩;show(relabel scope X.env).names.lookup x=ga .cell\/(relabel scope X.env).names.lookup x=ga .free;have e:(relabel scope X.env).names.lookup x=(scope.names.lookup x).map λk=>if (k==NameKind.free&&X.env.scope.kind==.function&&X.env.kindOf x==ga .cell)then NameKind.cell else k:=uk
     rw[e,n2];simp only[jW];split
     .exact .inl Z'
     .exact .inr Z'
 .obtain⟨v,q⟩:=I.cell x c (sub e);exact⟨v,q.keeps k⟩
 .obtain⟨e,n,ne,nf,d⟩:=I.pin p (by simpa using hp);refine⟨k _ _ e,n,dW (dR (dG e) hC),λz=>?_,d⟩;rcases dC.mp (I.nz p.1 z)with y|y
  .exact ne y
  .exact nf y
 .show(P5 ix Y).length=N'.length;unfold P5;rw[cY];exact S.len
end
section
variable {prog:Pg}{w:Wo}{A:Ar}{R:Result→Sd→Prop}{s:Sd}
def yi{YN Yn iter:Go}{Yv:T0 Go}{scope:XXb}{pos:Pos}{it acc:Vl}{env:Env}(I:Nat->Sd->Prop){EX:QQX}(hEX:∀e s',EX e s'->notedBy (Tk prog w) A env (λx s'=>R (.error x) s') e s') (turn:∀n s,I n s->pi (Tk prog w) A (pyNext it) (λr s₁=>match r with
   | none=>R (.ok .next) s₁
   | some v=>pi (Tk prog w) A (XXg Yn it v) (λ_ s₁=>pi (Tk prog w) A (assign Yn env v) (λ_ s₂=>
     pi (Tk prog w) A (forIn Yv Db λc r=>if r=Db then do let ok<-isTrue c env (wp c env);pure (ForInStep.yield ok)else pure (ForInStep.yield r)) (λok s₃=>
      if ok=Db then pi (Tk prog w) A (wp YN env) (λx s₄=>
       pi (Tk prog w) A (call (.builtin "list.append") [acc,x]) (λ_ s₅=>∃m,m<n/\I m s₅) (λ_ _=>False) s₄) EX s₃
      else ∃m,m<n/\I m s₃) (λ_ _=>False) s₂) (λ_ _=>False) s₁) (λ_ _=>False) s₁) (λ_ _=>False) s)
  (n:Nat) (h:I n s):
  XXh (Tk prog w) A (.compLoop (.ListComp YN [⟨Yn,iter,Yv,0⟩] scope pos) 0 it acc env) R s:=by
 refine codeAny_loop Z' I (λn s hI=>?_) n h;show pi _ A ((compTurn (.ListComp YN [⟨Yn,iter,Yv,0⟩] scope pos) 0 it acc env).onRaise (λx=>do noteFrame x env;theTreesLotGoes x)) _ _ s;refine wpAny_noted ?_;rw[compTurn_list];refine cZ (iu (cZ (eE (turn n s hI) (λr s₁ h₁=>?_) λ_ _ h'=>h'.elim)));cases r with
 | none=>exact dA h₁
 | some v=>
  refine cZ (eE h₁ (λ_ s₁' h₁'=>?_) λ_ _ h'=>h'.elim);refine cZ (eE h₁' (λ_ s₂ h₂=>cZ (eE h₂ (λok s₃ h₃=>?_) λ_ _ h'=>h'.elim)) λ_ _ h'=>h'.elim);cases ok with
  | false=>exact dA ⟨Z',h₃⟩
  | true=>exact cZ (cZ (eE h₃ (λx s₄ h₄=>cZ (eE h₄ (λ_ s₅ h₅=>dA (dA ⟨Z',h₅⟩)) λ_ _ h'=>h'.elim)) hEX))
end
def PF(X:Cx)(Yv:T0 Go)(t:TT):Prop:=
 ∀(XU:QQY) (s:Sd) (Y:St) (H:Hp) (Q:Bool->Hp->Prop),Inv X XU Y H s->t Y H Q->
  pi (Tk X.prog X.w) X.A (forIn Yv Db λc r=>if r=Db then do let ok<-isTrue c X.env (wp c X.env);pure (ForInStep.yield ok)else pure (ForInStep.yield r)) (TP X XU Y Q) X.xe s
def Vj:TT:=λ_ H Q=>Q Db H
def RY:PF X [] Vj:=λ_ _ _ H _ I h=>wpAny_tests_nil ⟨H,I,h⟩
def T6(h:PT X c t):PF X [c] t:=λXU s Y H Q I q=>wpAny_tests_one (h XU s Y H Q I q)
def Rl(ix:T0 (Option Nat))(g:TG)(tt:TT)(te:TE)(Y:St)(J:It)(Q:VK)(H:Hp):Prop:=
 ∃W:Nat->Nat->T0 V->St->Hp->Prop,(∃m,W 0 m [] (P5 ix Y) H)/\∀i m ys σ' H,W i m ys σ' H->
  (J.stop i H/\ys.length<=Ch/\∀D,H D=Fa->Q (.ref D) (upd H D (.lst ys)))\/
  (J.go i H/\ys.length<Ch/\∀x H',J.oV i H x H'->g x σ' H' λσ2 H2=>tt σ2 H2 λb H3=>if b=Db then te σ2 H3 λy H4=>∃m',m'<m/\W (i+1) m' (ys++[y]) σ2 H4 else ∃m',m'<m/\W (i+1) m' ys σ2 H3)
def Ou(ix:T0 (Option Nat))(wi:TI)(g:TG)(tt:TT)(te:TE):TE:=λY H Q=>wi Y H λJ H1=>Rl ix g tt te Y J Q H1
variable {tg iter YN:Go}{Yv:T0 Go}{g:TG}{tt:TT}{te:TE}{J:It}{it:Uf}{tn:Nat→No→Prop}{Q:VK}
section
variable {s:Sd}
def CW{XP:Uf->Sd->Hp->QXQ->QQY->St->Vl->Sd->Prop}{RR:Vl->Uf->Result->Sd->Prop}{E:QQX}(hc:X.calm=Db)(S:sv X scope ix N')(I:Inv X XU Y H s)(T:GB X.prog X.w X.K tg J fp it tn)(st:tn 0 s.heap)(hf:∀b∈fp,zC X XU H b) (hg:∀C s0 H0 ex,PG (X.comp scope N' C s0 H0 ex) tg g) (ht:∀C s0 H0 ex,PF (X.comp scope N' C s0 H0 ex) Yv tt) (he:∀C s0 H0 ex XU s Y H Q,Inv (X.comp scope N' C s0 H0 ex) XU Y H s->te Y H Q->pi (Tk X.prog X.w) X.A (wp YN (X.comp scope N' C s0 H0 ex).env) (EP (X.comp scope N' C s0 H0 ex) XU Y Q) (XP C s0 H0 ex XU Y) s) (hx:∀C D e s',s.heap.objs.size<=C->(∃YU σ',(∀b∈fp,∃o,(b,o)∈YU)/\XP C s H fp YU σ' e s')->notedBy (Tk X.prog X.w) X.A (compEnvC scope (A8 X.env scope.names []) C X.env) (λx s'=>RR D C (.error x) s') e s') (hw:Rl ix g tt te Y J Q H) (X0:∀D C s' H' m,s.heap.objs.size<=C->H' C=Fa->s'.heap.Ns C m->Inv X XU Y H' s'->Q (.ref D) H'->RR (.ref D) C (.ok .next) s'):
  pi (Tk X.prog X.w) X.A (newList []) (λacc s₃=>pi (Tk X.prog X.w) X.A (newFunctionEnv scope X.env.globals (A8 X.env scope.names []) [] X.env.qual Fa .none (ga X.env)) (λYB s₄=>
   XXh (Tk X.prog X.w) X.A (.compStart (.ListComp YN [⟨tg,iter,Yv,0⟩] scope pos) 0 (.ref it) acc {YB with scope:=relabel scope X.env}) (RR acc YB.locals) s₄) E s₃) E s:=by
 obtain⟨W,⟨m0,w0⟩,turn⟩:=hw;have Yc:∀b∈fp,b<s.heap.objs.size:=λb hb=>by obtain⟨o,e,_⟩:=T.obj _ _ st b hb;exact dG e
 refine gb (wpAny_newFunctionEnv S.oG (by intro y hy;simp at hy) (λh₁ ZD Z7=>?_) S.kind);dsimp only at ZD Z7 ⊢;generalize hH2:s.heap.push {cls:=.type "list",dict:=none,data:=.seq ([]:T0 Vl).toArray}=H2 at ZD Z7 ⊢;have hC:H2.objs.size=s.heap.objs.size+1:=by rw[<-hH2,fS]
 have hDC:s.heap.objs.size≠H2.objs.size:=by rw[hC];exact dW (fO _)
 have Z8:s.heap.objs.size<=H2.objs.size:=by rw[hC];exact ia _
 have below:∀b,b<s.heap.objs.size->b≠H2.objs.size/\b≠s.heap.objs.size:=λb hb=>⟨by rw[hC];exact dW (ju hb),dW hb⟩;have Yt:∀b o,s.heap.get? b=ga o->h₁.get? b=ga o:=λb o e=>Z7.extBut b o (below b (dG e)).1 (dq _ (hH2 ▸ dq _ e));have hacc:h₁.get? s.heap.objs.size=ga {cls:=.type "list",data:=.seq ([]:T0 Vl).toArray 0}:=Z7.extBut _ _ hDC (dq _ (hH2 ▸ dO _ Z'));have ZD:h₁.Ns H2.objs.size (λ_=>Fa):=ZD;have Y9:∀{H':Hp} {pl:QQY},(∀b∈fp,H' b=Fa)->(∀p∈pl,p.1∉fp)->∀b∈fp,zC (X.comp scope N' H2.objs.size s H fp) (X.pn++XU++pl) H' b:=λ{H' pl} hn Yb b hb=>by
  refine⟨hn b hb,dW (dR (Yc b hb) Z8),λz=>?_,.inl hb,λx c e=>(hf b hb).2.2.2.2.1 x c (S.sub I.ok e),λp hp=>?_⟩
  .rcases dC.mp (I.nz b z)with y|y
   .exact(hf b hb).2.1 y
   .exact(hf b hb).2.2.1 y
  .rcases dX.mp (show p∈X.pn++XU++pl by simpa using hp)with z|z
   .exact(hf b hb).2.2.2.2.2 p z
   .intro q;exact Yb p z (q ▸ hb)
 have loop:∀s₃:Sd,s₃={s with heap:=h₁,toks:=s.toks+([]:T0 (Str×Vl)).length}->
   XXh (Tk X.prog X.w) X.A (.compLoop (.ListComp YN [⟨tg,iter,Yv,0⟩] scope pos) 0 (.ref it) (.ref s.heap.objs.size) (compEnvC scope (A8 X.env scope.names []) H2.objs.size X.env))
    (RR (.ref s.heap.objs.size) H2.objs.size) s₃:=by
  rintro s₃ rfl
  refine yi (hEX:=λe s' z=>hx _ _ e s' Z8 z) (λn s'=>∃(i:Nat) (ys:T0 V) (us:T0 Vl) (k:Nat) (σ':St) (H':Hp),Inv (X.comp scope N' H2.objs.size s H fp) (X.pn++XU) σ' H' s'/\tn i s'.heap/\(∀b∈fp,H' b=Fa)/\H' s.heap.objs.size=Fa/\
   s'.heap.get? s.heap.objs.size=ga {cls:=.type "list",data:=.seq us.toArray k}/\qA ys us/\ys.length<=Ch/\W i n ys σ' H') ?_ m0
   ⟨0,[],[],0,P5 ix Y,H,I.comp S hf Yc Z8 Yt ZD,T.keep _ _ _ st λb _ o e=>Yt b o e,λb hb=>(hf b hb).1,I.mR.fresh (dv _),hacc,.nil,e9 _,w0⟩
  rintro n s' ⟨i,ys,us,k,σ',H',I',Zg,fr',hD',Yz,rv',hz',w'⟩
  have cellD:∀x c,(X.comp scope N' H2.objs.size s H fp).env.cells.lookup x=ga c->c≠s.heap.objs.size:=λx c e=>by obtain⟨v,q⟩:=I.cell x c (S.sub I.ok e);exact dW q.lt
  have pinD:∀p∈X.pn++XU,p.1≠s.heap.objs.size:=λp hp=>dW (dG (I.pin p hp).1);have dfs:s.heap.objs.size∉(X.comp scope N' H2.objs.size s H fp).fs:=λz=>by
   rcases dC.mp (I.nz _ z)with y|y
   .exact absurd I.lt (by rw[<-y];exact eZ _)
   .exact I.oY (dv _) y
  have dfp:s.heap.objs.size∉fp:=λz=>absurd (Yc _ z) (eZ _);have IpD:Inv (X.comp scope N' H2.objs.size s H fp) (X.pn++XU++[(s.heap.objs.size,{cls:=.type "list",data:=.seq us.toArray k})]) σ' H' s':=I'.nM λp hp=>by
   rcases dX.mp hp with z|z
   .exact I'.pin p (eG _ z)
   .have e:p=(s.heap.objs.size,{cls:=.type "list",data:=.seq us.toArray k}):=by simpa using z
    subst e;exact⟨Yz,hD',hDC,dfs,λv z=>by cases z⟩
  have pfp:∀p∈[((s.heap.objs.size,{cls:=.type "list",data:=.seq us.toArray k}):Uf×Obj)],p.1∉fp:=λp hp=>by
   have e:p=(s.heap.objs.size,{cls:=.type "list",data:=.seq us.toArray k}):=by simpa using hp
   subst e;exact dfp
  rcases turn i n ys σ' H' w' with⟨stop,hz,q⟩|⟨go,hz,step⟩
  .refine eE (T.done (X.comp scope N' H2.objs.size s H fp) Z' Z' Z' hc i _ s' σ' H' (λ_ _=>False) IpD (Y9 fr' pfp) Zg stop) (λr s1 ⟨hr,I1⟩=>?_) λ_ _ z=>z;subst hr;show RR _ _ _ _;have ho1:s1.heap.get? s.heap.objs.size=ga {cls:=.type "list",data:=.seq us.toArray k}:=(I1.pin (s.heap.objs.size,{cls:=.type "list",data:=.seq us.toArray k}) (by simp)).1;obtain⟨m,hnC,_⟩:=id I1.loc;refine X0 _ _ s1 (upd H' s.heap.objs.size (.lst ys)) m Z8 (by rw[qd (dZ hDC)];exact I1.free) hnC ?_ (q _ hD');have nD:∀b o,s.heap.get? b=ga o->b≠s.heap.objs.size:=λb o e=>(below b (dG e)).2;have hD0:H s.heap.objs.size=Fa:=I.mR.fresh (dv _);refine I.oS (s':=s1) (ch:=fp) I1.os ⟨λb o e n1 n2 n3=>?_,λb o e n1 n2 n3=>?_,λb o e n1 n2=>?_,λb o e n1=>?_,λb xs e=>?_,λb o u e=>?_,λb ps e=>?_⟩ (λb u e=>?_) I1.bare λb hb=>⟨(hf b hb).2.2.2.1,(hf b hb).2.1,(hf b hb).2.2.2.2.1,(hf b hb).2.2.2.2.2⟩
   .exact I1.base.keep b o e n1 n2 n3
   .exact I1.base.slot b o e n1 n2 n3
   .rw[qd (nD b o e)];exact I1.base.free b o e n1 n2
   .exact I1.base.there b o e n1
   .rw[qd (qX e hD0)];exact I1.base.nE b xs e
   .rw[qd (qX e hD0)];exact I1.base.ny b o u e
   .obtain⟨more,z⟩:=I1.base.nJ b ps e;exact⟨more,by rw[qd (qX e hD0)];exact z⟩
   .by_cases hb:b=s.heap.objs.size
    .subst hb;rw[qg]at e;cases e;exact⟨hz,us,k,rv',ho1⟩
    .rw[qd hb]at e;exact(I1.mR b u e).nF (λc v _ z=>z) (λc z=>by rw[qd (qX z hD')];exact z) (λc xs z=>by rw[qd (qX z hD')];exact z)
  .refine eE (T.item (X.comp scope N' H2.objs.size s H fp) Z' Z' Z' hc i _ s' σ' H' (λ_ _=>False) IpD (Y9 fr' pfp) Zg go) (λr s1 ⟨v,hr,h4⟩=>?_) λ_ _ z=>z;subst hr;show pi _ _ (XXg tg (.ref it) v) _ _ s1;refine eE h4 (λ_ s2 zz=>?_) λ_ _ z=>z;obtain⟨x,H5,I5,r5,y5,st5,fr5⟩:=zz;have I5':=I5.pinned (Y9 fr5 pfp) (T.obj _ _ st5);refine eE (hg H2.objs.size s H fp _ s2 σ' H5 x v _ I5' r5 (step x H5 y5)) (λ_ s3 ⟨σ6,H6,I6,q6⟩=>?_) λ_ _ z=>z;refine eE (ht H2.objs.size s H fp _ s3 σ6 H6 _ I6 q6) (λok s4 ⟨H7,I7,q7⟩=>?_) λ_ _ z=>z;have facts:∀{σ7:St} {H7:Hp} {s7:Sd},Inv (X.comp scope N' H2.objs.size s H fp) (X.pn++XU++[(s.heap.objs.size,{cls:=.type "list",data:=.seq us.toArray k})]++BS fp s2.heap) σ7 H7 s7->
     tn (i+1) s7.heap/\(∀b∈fp,H7 b=Fa)/\H7 s.heap.objs.size=Fa/\s7.heap.get? s.heap.objs.size=ga {cls:=.type "list",data:=.seq us.toArray k}:=λ{σ7 H7 s7} K7=>by
    have pd:=K7.pin (s.heap.objs.size,{cls:=.type "list",data:=.seq us.toArray k}) (by simp);refine⟨T.keep _ _ _ st5 λb hb o e=>(K7.pin (b,o) (eG _ (eG _ (vB hb e)))).1,λb hb=>?_,pd.2.1,pd.1⟩;obtain⟨o,e,d⟩:=T.obj _ _ st5 b hb;exact(K7.pin (b,o) (eG _ (eG _ (vB hb e)))).2.1
   cases ok with
   | false=>rw[dg dD]at q7 ⊢;obtain⟨m',hm,w7⟩:=q7;obtain⟨t7,f7,d7,o7⟩:=facts I7;exact⟨m',hm,i+1,ys,us,k,σ6,H7,I7.mX.mX,t7,f7,d7,o7,rv',hz',w7⟩
   | true=>
    rw[dh Z']at q7 ⊢;refine eE (he H2.objs.size s H fp _ s4 σ6 H7 _ I7 q7) (λyv s5 ⟨y,H8,I8,r8,m',hm,w8⟩=>?_) λ_ _ z=>⟨_,_,λb hb=>(by
     obtain⟨o,e,_⟩:=T.obj _ _ st5 b hb;exact⟨o,eG _ (vB hb e)⟩),z⟩
    obtain⟨t8,f8,d8,o8⟩:=facts I8;have hsz:us.toArray.size<=Ch:=by rw[dB,<-rv'.length];exact hz'
    refine append_at (hsz:=hsz) o8 λh' sb od=>?_;refine⟨m',hm,i+1,ys++[y],us++[yv],k+1,σ6,H8,?_,T.keep _ _ _ t8 λb hb o e=>(sb.2 b λq=>dfp (q ▸ hb)).trans e,f8,d8,?_,rv'.append (.cons r8 .nil),?_,w8⟩
    .exact I8.mX.mX.turned (it:=s.heap.objs.size) (t':=s5.toks) (λb o hb e=>(sb.2 b hb).trans e) d8 hDC (.inr (dv _)) cellD (by simpa using pinD)
    .rw[od,List.push_toArray]
    .rw[de,dI];exact hz
 exact codeAny_compStart_list (loop _ Z') (T.self _ 0 _ _ _ (T.keep _ _ _ st λb _ o e=>Yt b o e) (loop _ Z'))
def Inv.letGo{C:Uf}(I:Inv X XU Y H s)(I':Inv X XU σ' H' s')(hC:s.heap.objs.size<=C)(hn:H' C=Fa)(hs:Heap.SameBut C s'.heap h'):Inv X XU σ' H' {s' with heap:=h'}:=
 I'.turned (t':=s'.toks) (it:=C) (λb o hb e=>(hs.2 b hb).trans e) hn (λz=>absurd (dR I.lt hC) (by rw[z];exact eZ _)) (.inr (d9 I.sz hC))
  (λx c e z=>by
   obtain⟨v,r⟩:=I.cell x c e;exact absurd (dR r.lt hC) (by rw[z];exact eZ _))
  (λp hp z=>absurd (dR (dG (I.pin p hp).1) hC) (by rw[z];exact eZ _))
def Pw(hc:X.calm=Db)(S:sv X scope ix N')(hi:PI X tg iter wi)(hg:∀C s0 H0 ex,PG (X.comp scope N' C s0 H0 ex) tg g)(ht:∀C s0 H0 ex,PF (X.comp scope N' C s0 H0 ex) Yv tt)(he:∀C s0 H0 ex,PE (X.comp scope N' C s0 H0 ex) YN te) (hs:∀x,XV iter X.env x=pure x:=by intro _;rfl):PE X (.ListComp YN [⟨tg,iter,Yv,0⟩] scope pos) (Ou ix wi g tt te):=by
 intro XU s Y H Q I h;rw[eval_ListComp];refine jJ (use:=none) Z' hs (yN (S.cells I.ok)) S.kind S.nam (eE (hi XU s Y H _ I h) (λxv s₁ h₁=>eE h₁ (λitv s₂ h₂=>?_) λ_ _ e=>e) λ_ _ e=>e);obtain⟨it,fp,tn,J,H2,e,I2,T,Yj,f2,hw⟩:=h₂;subst e;refine CW (RR:=λacc C=>compPost (Tk X.prog X.w) X.A X.xe Fa (EP X XU Y Q) acc C) hc S I2 T Yj f2 hg ht (XP:=λ_ _ _ _ _ _ _ _=>False) he (λ_ _ _ _ _ z=>by obtain⟨_,_,_,z⟩:=z;exact z.elim) hw λD C s' H' m hCs hCn hn I3 q=>?_;exact⟨m,hn,λh' hs'=>⟨.ref D,_,I2.letGo I3 hCs hCn hs',Z',q⟩⟩
def HE{i:Nat}{x:Str}{px ZE:Pos}(hN:X.N.Nodup)(hix:X.N[i]?=ga x)(hx:Ll X.env.scope x)(hc:X.calm=Db)(S:sv X scope ix N')(hi:PI X tg iter wi)(hg:∀C s0 H0 ex,PG (X.comp scope N' C s0 H0 ex) tg g)(ht:∀C s0 H0 ex,PF (X.comp scope N' C s0 H0 ex) Yv tt) (he:∀C s0 H0 ex,PE (X.comp scope N' C s0 H0 ex) YN te) (Zn:sB (.ListComp YN [⟨tg,iter,Yv,0⟩] scope pos) (ga (.Name x px)) ZE.line X.env=pure Db) (hf:Lk X x:=by first|exact .inl Z'|exact .inr Z'|assumption) (hs:∀x,XV iter X.env x=pure x:=by intro _;rfl):
  PS X (.Assign [.Name x px] (.ListComp YN [⟨tg,iter,Yv,0⟩] scope pos) ZE) (S6 (Ou ix wi g tt te) (Ov i)):=by
 intro XU s Y H D I h;rw[exec_Assign_Name_used _ _ _ _ Zn];refine cZ (iu (cZ ?_));show pi _ X.A (do let _<-comprehension (.ListComp YN [⟨tg,iter,Yv,0⟩] scope pos) scope X.env _ (newList []) pc (wp iter X.env) (ga (assign (.Name x px) X.env))) _ _ s;refine cZ (eE (jJ (use:=some (assign (.Name x px) X.env)) (Q:=λ_ s'=>SP X XU D .next s') Z' hs (yN (S.cells I.ok)) S.kind S.nam
  (eE (hi XU s Y H _ I h) (λxv s₁ h₁=>eE h₁ (λitv s₂ h₂=>?_) λ_ _ e=>e) λ_ _ e=>e)) (λ_ s' hq=>dA (dA hq)) λ_ _ e=>e)
 obtain⟨it,fp,tn,J,H2,e,I2,T,Yj,f2,hw⟩:=h₂;subst e;refine CW (RR:=λacc C=>compPost (Tk X.prog X.w) X.A X.xe (ga (assign (.Name x px) X.env)) (λ_ s'=>SP X XU D .next s') acc C) hc S I2 T Yj f2 hg ht (XP:=λ_ _ _ _ _ _ _ _=>False) he (λ_ _ _ _ _ z=>by obtain⟨_,_,_,z⟩:=z;exact z.elim) hw λDa C s' H' m hCs hCn hn I3 q=>?_;show pi _ X.A (assign (.Name x px) X.env (.ref Da)) _ _ _;refine lj (Ew I3 hN hix hx (v:=.ref Da) Z' (λs4 I4 ⟨a,sb,ha⟩=>?_) hf);have ca:C≠a:=λz=>by
  rcases ha with y|y
  .exact absurd (dR I2.lt hCs) (by rw[z,y];exact eZ _)
  .obtain⟨v,r⟩:=I2.cell x a y;exact absurd (dR r.lt hCs) (by rw[z];exact eZ _)
 exact⟨m,hn.sameBut sb ca,λh' hs'=>⟨_,H',I2.letGo I4 hCs hCn hs',q⟩⟩
end
def Bf:typeLookup (.type "list") "__getattr__"=pure Fa:=by rw[typeLookup_type,kc];kernel_rfl
def Fz:typeLookup (.type "list") "keys"=pure Fa:=by rw[typeLookup_type,kc];kernel_rfl
section
variable {prog:Pg}{w:Wo}{A:Ar}{E:QQX}
def My(a:Uf)(u:Tok)(its:Array Vl)(n:Nat)(sl:Array (Option Vl)):
  Meets (Builtin.«object.__getattribute__» ⟨[.ref a,.str "keys" u],[]⟩) λA R s=>s.heap.get? a=ga ⟨.type "list",Fa,.seq its n,sl⟩/\A.handled=Fa/\∀h' tk e,Heap.NewAttrErr s.heap h' e (.ref a) "keys"->R (.error (.ref e)) {s with heap:=h',toks:=tk}:=
 Meets.of_wp λprog w A R s hs=>by
  obtain⟨hp,g,d,tk,os⟩:=s;obtain⟨h1,h2,h3⟩:=hs;have hT:(⟨hp,g,d,tk,os⟩:Sd).TypeIs (.ref a) "list":=⟨_,h1,Z'⟩;have f1:=Fz;unfold Builtin.«object.__getattribute__»
  repeat (any_goals(first|assumption|wp_step))
  exact wpAny_raiseAttrError h2 h3 (attrMsg_fits (by decide+kernel) (by decide))
def EO{s:Sd}{a:Uf}{its:Array Vl}{n:Nat}{sl:Array (Option Vl)}{Q:Option Vl->Sd->Prop}(ha:s.heap.get? a=ga ⟨.type "list",Fa,.seq its n,sl⟩)(hA:A.handled=Fa) (h:∀h' tk,(∀b o,s.heap.get? b=ga o->h'.get? b=ga o)->Q Fa {s with heap:=h',toks:=tk}):pi (Tk prog w) A (getAttr? (.ref a) "keys") Q E s:=by
 obtain⟨hp,g,d,tk,os⟩:=s;have hT:(⟨hp,g,d,tk,os⟩:Sd).TypeIs (.ref a) "list":=⟨_,ha,Z'⟩;have f1:=sub_AttributeError;have f3:=iC.lookup;have f4:=iC.bind (.ref a);have f5:=Bf;unfold getAttr? getAttrBy? getAttrBy
 repeat (any_goals(first|assumption|((with_reducible show pi _ _ (call (Value.builtin "list.__getattribute__") _ _) _ _ _);refine iX iC hT F.entry_list_ga (F.args_list_getattribute_2 _ _) (My a _ its n sl) ⟨ha,hA,λh' tk' e hx=>?_⟩)|wp_step))
 obtain⟨t',u',he⟩:=hx.there;show pi _ _ (getattributeRaised _ _ _ _ _ _ _) _ _ _;unfold getattributeRaised
 repeat (any_goals(first|assumption|wp_step))
 all_goals first|exact h _ _ hx.keeps|skip
end
def AL:entryFor table "dict.update.loop"=ga Builtin.«dict.update.loop»:=entryFor_of_tree (by kernel_rfl)
def vT:plainId "dict.update.loop"=Db:=by decide+kernel
section
variable {prog:Pg}{w:Wo}{A:Ar}{E:QQX}{R:Result→Sd→Prop}{κ:Type}[DecidableEq κ]{knd:PySem.KeyKind prog w κ}
 {I:Uf} {fp wr:QXQ} {G:Array GenState->Array GenState->Prop} {P:Nat->Vl->Prop} {St:Nat->Sd->Prop}
def OK{s:Sd}{t:Uf}{x y:Vl}{Q:T0 Vl->Sd->Prop}(h:s.heap.IsTuple t #[x,y])(q:Q [x,y] s):pi (Tk prog w) A (Builtin.Dict.pairItems (.ref t)) Q E s:=by
 obtain⟨⟨oc,od,oda,YR⟩,h1,h2,n,h3⟩:=h;simp only at h2 h3;subst h2 h3;have hT:s.TypeIs (.ref t) "tuple":=⟨_,h1,Z'⟩;obtain⟨hp,g,d,tk,os⟩:=s;unfold Builtin.Dict.pairItems
 repeat (any_goals(first|assumption|wp_step))
def K5{all:T0 (κ×Vl)}(W:WalksS prog w A.in1 I fp wr G all.length P St)(d:Uf)(hdf:d∉fp)(kv:Nat->Vl)(tp:Nat->Uf)(hP:∀i v,P i v->v=.ref (tp i))(hw:∀j,j<all.length->tp j∉wr/\tp j≠d) (hk:∀j p,all[j]?=ga p->knd.is p.1 (kv j)=Db) (hz:all.length<=Ch):
  ∀(k i:Nat) (z:Int) (s:Sd),all.length - i=k->i<=all.length->St i s->(∀j p,all[j]?=ga p->s.heap.IsTuple (tp j) #[kv j,p.2])->s.heap.DictOf knd d (merged [] (all.take i))->
   (∀s',Moved (d::wr) G s s'->s'.heap.DictOf knd d (merged [] all)->R (.ok (.ret .none)) s')->XXh (Tk prog w) A (.builtin "dict.update.loop" ⟨[.ref d,.ref I,.int z 0,.none],[]⟩) R s:=by
 have hdw:d∉wr:=λh=>hdf (W.sub _ h);have Z9:∀b∈wr,b∈d::wr:=λb hb=>dH _ hb;intro k;induction k with
 | zero=>
  intro i z s hk0 hi Yi hT hD hR;have ZR:i=all.length:=by lia
  subst ZR;refine iz AL ?_;rw[io vT _];show pi _ A.in1 (pyNext (.ref I)>>=_) _ _ s;refine cZ (W.done s _ _ Yi λs' hm=>?_);show pi _ A.in1 (Builtin.Dict.addKeywords d []>>=_) _ _ s';refine cZ (dA (dA (hR s' (hm.mono Z9) ?_)));rw[fK]at hD;obtain⟨o,es,ep,ho,rest⟩:=hD;exact⟨o,es,ep,hm.heap d _ hdw ho,rest⟩
 | succ k ih=>
  intro i z s hk0 hi Yi hT hD hR;have Yc:i<all.length:=by lia
  have Zc:all[i]?=ga all[i]:=df Yc;refine iz AL ?_;rw[io vT _];show pi _ A.in1 (pyNext (.ref I)>>=_) _ _ s;refine cZ (W.item i s _ _ Yc Yi λv s' hPv hst' hm=>?_);obtain rfl:=hP i v hPv;have hT':∀j p,all[j]?=ga p->s'.heap.IsTuple (tp j) #[kv j,p.2]:=λj p e=>by obtain⟨o,h1,h2⟩:=hT j p e;exact⟨o,hm.heap _ _ (hw j (c9.mp e).1).1 h1,h2⟩
  have hD':s'.heap.DictOf knd d (merged [] (all.take i)):=by obtain⟨o,es,ep,ho,rest⟩:=hD;exact⟨o,es,ep,hm.heap d _ hdw ho,rest⟩
  show pi _ A.in1 (Ix [Value.ref (tp i)] _>>=_) _ _ s';refine cZ (ft (cZ (wpAny_tryCatch (OK (hT' i _ Zc) ?_))));show pi _ A.in1 (Ix [kv i,all[i].2] (dictSet d (kv i) all[i].2)) _ _ s';refine ft ?_;unfold dictSet;refine ft (cZ (knd.pyHash (hk i _ Zc) ?_));have hl:(merged [] (all.take i)).length<=Ch:=by have:=merged_length_le [] (all.take i);rw[fu]at this;simp only[dN]at this;lia
  refine wpAny_dictSetHashed_pairs (hsz:=hl) (hk i _ Zc) hD' λh' dd hs=>?_;rw[<-merged_take_succ [] all i _ Zc]at dd;refine dA ⟨kE vT _,ih (i+1) _ _ (by lia) Yc (W.frame _ s' _ _ hst' (ia _) λb hb o e=>?_) (λj p e=>?_) dd λs'' hm'' hD''=>?_⟩
  .rw[hs.2 b (λz:b=d=>hdf (z ▸ hb))];exact e
  .obtain⟨o,h1,h2⟩:=hT' j p e;refine⟨o,?_,h2⟩;show h'.get? (tp j)=ga o;rw[hs.2 _ (hw j (c9.mp e).1).2];exact h1
  .refine hR s'' (mD W.gtrans ((hm.mono Z9).then_heap (ia _) λb o hb e=>?_) hm'') hD'';rw[hs.2 b (λz:b=d=>hb (by rw[z];exact dP))];exact e
end
section
variable {prog:Pg}{w:Wo}{A:Ar}{E:QQX}{κ:Type}[DecidableEq κ]{knd:PySem.KeyKind prog w κ}{s:Sd}
def AU{l:Uf}{its:Array Vl}{n:Nat}{sl:Array (Option Vl)}{all:T0 (κ×Vl)}{Q:QQX}(kv:Nat->Vl)(tp:Nat->Uf)(hh:A.handled=Fa)(hl:s.heap.get? l=ga ⟨.type "list",Fa,.seq its n,sl⟩) (hits:∀(j:Nat) (v:Vl),its[j]?=ga v->v=.ref (tp j)) (X1:its.size=all.length) (hT:∀j p,all[j]?=ga p->s.heap.IsTuple (tp j) #[kv j,p.2]) (hk:∀j p,all[j]?=ga p->knd.is p.1 (kv j)=Db) (hz:all.length<=Ch) (h:∀h' tk,h'.DictOf knd s.heap.objs.size (merged [] all)->(∀b o,s.heap.get? b=ga o->h'.get? b=ga o)->Q (.ref s.heap.objs.size) {s with heap:=h',toks:=tk}):
  pi (Tk prog w) A (call (.type "dict") [.ref l]) Q E s:=by
 refine callType_codes (Q₁:=λobj s₁=>obj=Value.ref s.heap.objs.size/\s₁={s with heap:=s.heap.push {cls:=.type "dict",data:=.dict #[]}}) PySem.F.kt_called_dict (PySem.F.kt_typeCall_dict_1 _) F.entry_dict_init (kt_code_dict_new _ ⟨Z',Z'⟩) ?_
 rintro obj s₁ ⟨rfl,rfl⟩
 have ZA:(s.heap.push {cls:=.type "dict",data:=.dict #[]}).DictOf knd s.heap.objs.size []:=lY s.heap;have hl':(s.heap.push {cls:=.type "dict",data:=.dict #[]}).get? l=ga ⟨.type "list",Fa,.seq its n,sl⟩:=dq _ hl;have hTl:Shared.TypeIs {s with heap:=s.heap.push {cls:=.type "dict",data:=.dict #[]}} (.ref l) "list":=⟨_,hl',Z'⟩;have lsz:l<s.heap.objs.size:=dG hl;refine⟨ZA.typeIs,F.args_dict_init_2 _ _,?_⟩;unfold Builtin.«dict.__init__»;refine cZ ?_;unfold Builtin.Dict.selfAndRest;refine cZ (wpAny_notOrdered_dict ZA.typeIs ?_);show pi _ _ (pure (s.heap.objs.size,[Value.ref l])) _ _ _;refine dA ?_;show pi _ _ (Builtin.Dict.updateFrom "dict.__init__" s.heap.objs.size (.ref l) [] .none) _ _ _;unfold Builtin.Dict.updateFrom;refine cZ (jG hTl ?_);rw[dh (by decide)];refine cZ (EO hl' (by simpa using hh) λh' tk keep=>?_);have hl2:h'.IsList l its:=⟨_,keep _ _ hl',Z',n,Z'⟩;show pi _ _ (rule _>>=_) _ _ _;refine cZ (kr (cZ (ic hl2 ?_)));have nd:h'.objs.size>s.heap.objs.size:=by have z:h'.get? s.heap.objs.size=ga _:=keep _ _ (dO _ Z');exact dG z
 have hDn:h'.DictOf knd s.heap.objs.size []:=by obtain⟨o,es,ep,ho,rest⟩:=ZA;exact⟨o,es,ep,keep _ _ ho,rest⟩
 have hTs:∀j p,all[j]?=ga p->h'.IsTuple (tp j) #[kv j,p.2]:=λj p e=>by obtain⟨o,h1,h2⟩:=hT j p e;exact⟨o,keep _ _ (dq _ h1),h2⟩
 have Yk:l≠h'.objs.size:=dW (jI lsz nd);have W:=(kt (prog:=prog) (w:=w) (A:=A.in1.in1) (by simpa using hh) h'.objs.size l Yk its).toS;rw[X1]at W;refine dA ⟨kE vT _,K5 (A:=A.in1) W s.heap.objs.size ?_ kv tp (λi v e=>hits i v e) (λj hj=>?_) hk hz all.length 0 0 _ (by lia) (e9 _) ⟨⟨_,dO _ Z',Z',Z'⟩,hl2.push _⟩ (λj p e=>(hTs j p e).push _) ?_ λs' hm hD=>?_⟩
 .simp only[dC,dY,gu,il];exact⟨dW nd,ii lsz⟩
 .have hj':all[j]?=ga all[j]:=df hj;obtain⟨o,h1,_⟩:=hT j _ hj';have tsz:=dG h1;simp only[dC,dY,gu];exact⟨dW (jI tsz nd),dW tsz⟩
 .obtain⟨o,es,ep,ho,rest⟩:=hDn;exact⟨o,es,ep,dq _ ho,rest⟩
 .obtain⟨h2,g2,d2,t2,o2⟩:=s';have eg:g2=s.gens:=hm.gens;have ed:d2=s.drawn:=hm.drawn;have eo:o2=s.os:=hm.os;subst eg ed eo;refine⟨Z',h h2 t2 hD λb o e=>?_⟩;have hb:=dG e;refine hm.heap b o ?_ (dq _ (keep _ _ (dq _ e)));simp only[dC,dY,gu,il];exact⟨dW hb,dW (jI hb nd)⟩
end
noncomputable def tP{κ:Type}[DecidableEq κ](l:List κ):List κ:=l.foldl (λacc k=>if k∈acc then acc else acc++[k]) []
def yB{κ:Type}[DecidableEq κ](l:List κ)(k:κ):tP (l++[k])=if k∈tP l then tP l else tP l++[k]:=by unfold tP;rw[iL];rfl
def J7{κ:Type}[DecidableEq κ]:∀l:List κ,(tP l).length<=l.length:=by
 have go:∀(l acc:List κ),(l.foldl (λacc k=>if k∈acc then acc else acc++[k]) acc).length<=acc.length+l.length:=by
  intro l;induction l with
  | nil=>intro acc;simp
  | cons k r ih=>
   intro acc;rw[gf];refine d9 (ih _) ?_;split
   .simp only[eB];lia
   .simp only[eB,de,dN];lia
 intro l;have:=go l []
 simpa [tP]using this
def N0{κ:Type}[DecidableEq κ](x:κ):∀l:List κ,x∈tP l↔x∈l:=by
 have go:∀(l acc:List κ),x∈l.foldl (λacc k=>if k∈acc then acc else acc++[k]) acc↔x∈acc\/x∈l:=by
  intro l;induction l with
  | nil=>intro acc;simp
  | cons k r ih=>
   intro acc;rw[gf,ih];by_cases h:k∈acc
   .rw[dh h,dC];constructor
    .rintro (z|z)
     .exact .inl z
     .exact .inr (.inr z)
    .rintro (z|z|z)
     .exact .inl z
     .subst z;exact .inl h
     .exact .inr z
   .rw[dg h,dX,dz,dC,or_assoc]
 intro l;have:=go l []
 simpa [tP]using this
def IA{κ:Type}[DecidableEq κ]:∀l:List κ,l.Nodup->tP l=l:=by
 have go:∀(l acc:List κ),(acc++l).Nodup->l.foldl (λacc k=>if k∈acc then acc else acc++[k]) acc=acc++l:=by
  intro l;induction l with
  | nil=>intro acc _;simp
  | cons k r ih=>
   intro acc h;have hk:k∉acc:=λz=>by rw[gc]at h;exact h.2.2 k z k dP Z'
   rw[gf,dg hk,ih]
   .rw[fA];rfl
   .rw[fA];exact h
 intro l h;have:=go l [] (by simpa using h)
 simpa [tP]using this
section
variable {prog:Pg}{w:Wo}{A:Ar}{E:QQX}{R:Result→Sd→Prop}{κ:Type}[DecidableEq κ][BEq κ][LawfulBEq κ]{knd:PySem.KeyKind prog w κ}
 {I:Uf} {fp wr:QXQ} {G:Array GenState->Array GenState->Prop} {P:Nat->Vl->Prop} {St:Nat->Sd->Prop}
def GG{all:List κ}(W:WalksS prog w A.in1 I fp wr G all.length P St)(S:Uf)(hSf:S∉fp)(hval:∀i v k,P i v->all[i]?=ga k->knd.is k v=Db/\v.scannable=Db)(hb:all.length+1<XXi):
  ∀(n i:Nat) (s:Sd),all.length - i=n->i<=all.length->St i s->s.heap.SetOf knd S (λx=>decide (x∈tP (all.take i))) (tP (all.take i)).length->
   (∀s',Moved (S::wr) G s s'->s'.heap.SetOf knd S (λx=>decide (x∈tP all)) (tP all).length->R (.ok (.ret .none)) s')->XXh (Tk prog w) A (.builtin "set.update.loop" ⟨[.ref S,.ref I],[]⟩) R s:=by
 have hSw:S∉wr:=λh=>hSf (W.sub _ h);have up:∀b∈wr,b∈S::wr:=λb hb=>dH _ hb;have kept:∀{s s':Sd} {T:κ->Bool} {m:Nat},Moved wr G s s'->s.heap.SetOf knd S T m->s'.heap.SetOf knd S T m:=λhm ⟨o,es,ep,t,ho,rest⟩=>⟨o,es,ep,t,hm.heap S _ hSw ho,rest⟩;intro n;induction n with
 | zero=>
  intro i s h0 hi Yi hS hR;obtain rfl:i=all.length:=by lia
  refine iz iD ?_;rw[io gH _];rw[fK]at hS;exact cZ (W.done s _ _ Yi λs' hm=>dA (hR s' (hm.mono up) (kept hm hS)))
 | succ n ih=>
  intro i s h0 hi Yi hS hR;have Yc:i<all.length:=by lia
  have Zc:all[i]?=ga all[i]:=df Yc;refine iz iD ?_;rw[io gH _];refine cZ (W.item i s _ _ Yc Yi λv s' hP hst' hm=>?_);obtain⟨k1,k2⟩:=hval i v _ hP Zc;have hS':=kept hm hS;show pi _ A.in1 (Ix [v] (setAdd S v)>>=_) _ _ s';refine cZ (ft ?_);unfold setAdd;refine ft (cZ (knd.pyHash k1 ?_));have room:(tP (all.take i)).length+1<XXi:=by have h1:=J7 (all.take i);rw[fu]at h1;lia
  refine wpAny_setAddHashed_of (knd:=knd) (s:={s' with toks:=s'.toks+1}) k1 k2 hS' room λh' hsb hS2=>?_;have et:all.take (i+1)=all.take i++[all[i]]:=by rw[fL,Zc];rfl
  have hSi:h'.SetOf knd S (λx=>decide (x∈tP (all.take (i+1)))) (tP (all.take (i+1))).length:=by
   refine jK hS2 (λx=>?_) ?_
   .rw[et];by_cases XX:all[i]∈tP (all.take i)
    .rw[yB,dh XX];by_cases hx:x=all[i]
     .subst hx;simp[XX]
     .simp[hx]
    .rw[yB,dg XX];by_cases hx:x=all[i]
     .subst hx;simp
     .simp[hx]
   .rw[et,yB];by_cases XX:all[i]∈tP (all.take i)
    .rw[dh XX];simp[XX]
    .rw[dg XX];simp[XX]
  refine dA ⟨kE gH _,ih (i+1) _ (by lia) Yc (W.frame _ s' _ _ hst' (ia _) λb hb o e=>?_) hSi λs'' hm'' hS''=>?_⟩
  .rw[hsb.2 b (λz:b=S=>hSf (z ▸ hb))];exact e
  .refine hR s'' (mD W.gtrans ((hm.mono up).then_heap (ia _) λb o hb e=>?_) hm'') hS'';rw[hsb.2 b (λz:b=S=>hb (by rw[z];exact dP))];exact e
end
def Ds:isSubtype (.type "tuple") (.type "set")=pure pc:=by rw[ji];kernel_rfl
def Aq:isSubtype (.type "tuple") (.type "frozenset")=pure pc:=by rw[ji];kernel_rfl
def FG:isSubtype (.type "list") (.type "set")=pure pc:=by rw[ji];kernel_rfl
def Bh:isSubtype (.type "list") (.type "frozenset")=pure pc:=by rw[ji];kernel_rfl
section
variable {prog:Pg}{w:Wo}{A:Ar}{E:QQX}{κ:Type}[DecidableEq κ][BEq κ][LawfulBEq κ]{knd:PySem.KeyKind prog w κ}{s:Sd}
set_option maxHeartbeats 4000000 in
def z9{l:Uf}{XW:Array Vl}{all:List κ}{Q:QQX}(hh:A.handled=Fa)(hl:s.heap.IsList l XW\/s.heap.IsTuple l XW)(hn:XW.size=all.length)(hi:∀(i:Nat) (v:Vl) (k:κ),XW[i]?=ga v->all[i]?=ga k->knd.is k v=Db/\v.scannable=Db)(hb:all.length+1<XXi) (h:∀(h':No) (tk:Nat),h'.SetOf knd s.heap.objs.size (λx=>decide (x∈tP all)) (tP all).length->(∀b o,s.heap.get? b=ga o->h'.get? b=ga o)->Q (.ref s.heap.objs.size) {s with heap:=h',toks:=tk}):
  pi (Tk prog w) A (call (.type "set") [.ref l]) Q E s:=by
 obtain⟨c,tl,hmro⟩:=gW.mro;have hmade:=gW.made;have Z9:=gW.sub;refine iU (codeAny_of_tree ?_);show pi _ _ (callAny (.type "set") _) _ _ _;refine dA ⟨jl _ (by decide+kernel),iz F.entry_type_call ?_⟩;rw[Around.under_plain (weight_type_call_type "set" [.ref l] []) Z'];have h1:=gW.notType;have h2:=gW.canCreate;have hct:=F.typeCall_set_1 (.ref l)
 repeat (any_goals(first|assumption|wp_step))
 have fresh:∀Zo:Bool,(s.heap.push {cls:=.type "set",dict:=none,data:=.set #[] 0 (.fresh 0 0 Zo)}).get? s.heap.objs.size=ga {cls:=.type "set",dict:=none,data:=.set #[] 0 (.fresh 0 0 Zo)}:=λZo=>dO _ Z';refine gU (code_set_new_1 (.ref l) (E:=E) (Q₁:=λobj s₁=>∃Zo:Bool,obj=Value.ref s.heap.objs.size/\s₁={s with heap:=s.heap.push {cls:=.type "set",dict:=none,data:=.set #[] 0 (.fresh 0 0 Zo)}}) λZo=>⟨Zo,Z',Z'⟩) λr s₁ hr=>?_;cases r with
 | error e=>exact hr
 | ok fl=>
  cases fl with
  | ret obj=>
   obtain⟨Zo,rfl,rfl⟩:=hr;have hS:=fresh Zo;have hT:Shared.TypeIs {s with heap:=s.heap.push {cls:=.type "set",dict:=none,data:=.set #[] 0 (.fresh 0 0 Zo)}} (.ref s.heap.objs.size) "set":=⟨_,hS,Z'⟩;have hli:=gW.init.lookup;have hbi:=gW.init.bind (.ref s.heap.objs.size)
   repeat (any_goals(first|assumption|wp_step))
   refine gU (ku (R:=wants (λr s₂=>r=.none/\∃h' tk,s₂={s with heap:=h',toks:=tk}/\h'.SetOf knd s.heap.objs.size (λx=>decide (x∈tP all)) (tP all).length/\(∀b o,s.heap.get? b=ga o->h'.get? b=ga o)) E) gW.init.plain F.entry_set_init (check_set_init_1 hT ?_)) λr₂ s₂ hr₂=>?_
   .rcases hl with⟨ol,hol,hcl,nl,hdl⟩|⟨ol,hol,hcl,nl,hdl⟩
    all_goals
     obtain⟨ocls,odict,odata,oslots⟩:=ol;simp only at hcl hdl;subst hcl;subst hdl;have hol':=dq {cls:=.type "set",dict:=none,data:=.set #[] 0 (.fresh 0 0 Zo)} hol;have hsls:=FG;have hslf:=Bh;have htls:=Ds;have htlf:=Aq;have hnd:(Value.type "list"==Value.type "dict")=pc:=by decide
     have hnt:(Value.type "tuple"==Value.type "dict")=pc:=by decide
     unfold Builtin.«set.__init__» noKeywords Builtin.Frozenset.updateFrom;generalize hPI:pyIter=PI
     wp_walk
     subst hPI
     first|refine ic ⟨_,hol',Z',nl,Z'⟩ ?_|refine iE ⟨_,hol',Z',nl,Z'⟩ ?_
     refine cZ (wpAny_runValue ?_);have lS:l<s.heap.objs.size:=dG hol;have hh3:A.in1.in1.in1.handled=Fa:=by simp[hh]
     have lI:l≠(s.heap.push {cls:=.type "set",dict:=none,data:=.set #[] 0 (.fresh 0 0 Zo)}).objs.size:=by rw[fS];exact dW (ju lS)
     first
     | refine GG (hn ▸ (kt (prog:=prog) (w:=w) hh3 _ l lI XW).toS) s.heap.objs.size ?hf (λi v k e1 e2=>hi i v k e1 e2) hb all.length 0 _ (by lia) (e9 _) ⟨⟨_,dO _ rfl,rfl,rfl⟩,_,dq _ hol',rfl,nl,rfl⟩ ?h0 ?hR
     | refine GG (hn ▸ (Walks.tuple (prog:=prog) (w:=w) hh3 _ l lI XW).toS) s.heap.objs.size ?hf (λi v k e1 e2=>hi i v k e1 e2) hb all.length 0 _ (by lia) (e9 _) ⟨⟨_,dO _ rfl,rfl,rfl⟩,_,dq _ hol',rfl,nl,rfl⟩ ?h0 ?hR
     case hf=>rw[fS];simp only[dC,dY,gu,il];exact⟨dW (fO _),ii lS⟩
     case h0=>exact jK ((PyProof.Rows.setObjOf_fresh (knd:=knd) Zo).setOf (dq _ hS) (by unfold XXi;lia)) (λ_=>rfl) Z'
     case hR=>intro s' hm hS';obtain⟨h',g',d',tk',os'⟩:=s';have eg:g'=s.gens:=hm.gens;have ed:d'=s.drawn:=hm.drawn;have eo:os'=s.os:=hm.os;subst eg;subst ed;subst eo;refine dA ?_;show pi _ _ (ret Value.none) _ _ _;refine dA ⟨Z',h',tk',Z',hS',λb o e=>?_⟩;have hb:=dG e;refine hm.heap b o ?_ (dq _ (dq _ e));rw[fS];simp only[dC,dY,gu,il];exact⟨dW hb,dW (ju hb)⟩
   .cases r₂ with
    | error e=>exact hr₂
    | ok fl₂=>
     cases fl₂ with
     | ret r=>
      obtain⟨rfl,h',tk,rfl,hS',Z6⟩:=hr₂
      repeat (any_goals(first|assumption|wp_step))
      exact h _ _ hS' Z6
     | _=>exact hr₂.elim
  | _=>exact hr.elim
end
end L2
namespace HT
open PySem PyProof.Rows
variable {prog:Pg}{w:Wo}{A:Ar}{E:QQX}{s:Sd}
def zK{t sl:Uf}{vl vu:Vl}{lo hi:Option Int}{Q:QQX}(ht:IsTup s.heap t XW)(hs:s.heap.IsSliceOf sl vl vu .none)(pl:IsPart vl lo)(pu:IsPart vu hi) (hw:tE XW.size 0 lo=0/\tE XW.size XW.size hi=XW.size) (h:Q (.ref t) s):pi (Tk prog w) A (XXa (.ref t) (.ref sl)) Q E s:=by
 obtain⟨os,hos,hcs,Za⟩:=id hs;have hTs:s.TypeIs (.ref sl) "slice":=⟨os,hos,hcs⟩;unfold XXa
 try with_reducible refine ft ?_
 first|refine cZ (dA ?_)|skip
 refine cZ (js ht.typeIs (by decide) ?_);refine cZ (fN (name:=Str.ofString "__getitem__") ht.typeIs fG (gq fG ht.typeIs kG ?_ (kW _ _)));show pi _ _ (Builtin.Tuple.tupleItemsOf (.ref t)>>=_) _ _ s;refine cZ (tupleItemsOf_ ht ?_);refine cZ (jG hTs ?_);rw[dh (by decide)];refine cZ (wO hs pl pu ?_);have yes:(((tE XW.size 0 lo:Nat):Int)==0&&(1:Int)==1&&(tE XW.size XW.size hi - tE XW.size 0 lo)==XW.size)=Db:=by rw[hw.1,hw.2];simp
 show pi _ _ (if (((tE XW.size 0 lo:Nat):Int)==0&&(1:Int)==1&&(tE XW.size XW.size hi - tE XW.size 0 lo)==XW.size)=Db then _ else _) _ _ s;rw[dh yes];have hT:=ht.typeIs;obtain⟨hp,g,d,tk,o⟩:=s
 repeat (any_goals(first|assumption|wp_step))
 exact⟨_,Z',dA h⟩
end HT
namespace L2
variable {X:Cx}{p p2 pos ZF:Pos}{e:Go}{te:TE}
section
def W7(K:qy):V->Option Int->Option Int->Hp->VK->Prop:=λx lo hi H Q=>∃a xs,x=.ref a/\vH K H a xs/\(HT.tE xs.length 0 lo=0/\HT.tE xs.length xs.length hi=xs.length)/\Q (.ref a) H
def Tn:Va X (W7 X.K):=by
 intro XU s Y H x v vl vu lo hi sl Q I rx hs pl pu h;obtain⟨a,xs,rfl,hx,hw,q⟩:=h;cases rx;obtain⟨its,r,ht,hz⟩:=I.tuple hx;have X1:its.toArray.size=xs.length:=by rw[dB];exact r.length.symm
 exact⟨"tuple",_,fG.lookup,ht.typeIs,HT.zK ht hs pl pu (by rw[X1];exact hw) ⟨.ref a,H,I,Z',q⟩⟩
local instance (priority:=5000) keyBEq:BEq qW:=instBEqOfDecidableEq
local instance (priority:=5000) keyLaw:LawfulBEq qW:=inferInstanceAs (LawfulBEq (Sum Int Str))
def PM(K:qy)(te:TE):TE:=λY H Q=>te Y H λx H1=>∃a,∃ss:QQQ,x=.ref a/\(xR K H1 a (ss.map V.str)\/vH K H1 a (ss.map V.str))/\ss.length+1<XXi/\Q (.int (tP ss).length) H1
def G2{ss:QQQ}(r:qA (ss.map V.str) us):us.length=ss.length/\∀(i:Nat) (v:Vl) (k:qW),us[i]?=ga v->(ss.map λx=>(Sum.inr x:qW))[i]?=ga k->(rF P w).is k v=Db/\v.scannable=Db:=by
 refine⟨by rw[<-r.length,cY],λi v k e1 e2=>?_⟩;rw[dE]at e2;cases q:ss[i]? with
 | none=>rw[q]at e2;cases e2
 | some x=>rw[q]at e2;cases e2;obtain⟨u,e3,t,rfl⟩:=r.get (i:=i) (x:=V.str x) (by rw[dE,q];rfl);rw[e3]at e1;cases e1;exact⟨AN P w x t,Z'⟩
def Ol{ss:QQQ}:(tP (ss.map λx=>(Sum.inr x:qW))).length=(tP ss).length:=by
 have go:∀(l acc:QQQ),(l.map λx=>(Sum.inr x:qW)).foldl (λacc k=>if k∈acc then acc else acc++[k]) (acc.map Sum.inr)=(l.foldl (λacc k=>if k∈acc then acc else acc++[k]) acc).map Sum.inr:=by
  intro l;induction l with
  | nil=>intro acc;rfl
  | cons k r ih=>
   intro acc;rw[d4,gf,gf];have hm:(Sum.inr k:qW)∈acc.map Sum.inr↔k∈acc:=by
    rw[dF];constructor
    .rintro ⟨y,h1,h2⟩;cases h2;exact h1
    .exact λh=>⟨k,h,Z'⟩
   by_cases h:k∈acc
   .rw[dh h,dh (hm.mpr h)];exact ih acc
   .rw[dg h,dg λz=>h (hm.mp z)];have:=ih (acc++[k]);rw[dJ]at this;exact this
 have:=go ss [];unfold tP;rw[iY]at this;rw[this,cY]
def Kr(hc:X.calm=Db)(he:PE X e te)(hg1:Gl X "len")(XX:X.mg "len"=Fa)(hg2:Gl X "set")(X8:X.mg "set"=Fa)(b1:zn "len"=ga (.builtin "len"))(b2:zn "set"=ga (.type "set")) (hs:Tl [e] X.env=[(pc,wp e X.env)]:=by rfl):PE X (.Call (.Name "len" p) [.Call (.Name "set" p2) [e] [] ZF] [] pos) (PM X.K te):=by
 intro XU s Y H Q I h;refine gw (wk I hg1 XX b1 ?_);refine iW ?_ Z' Z';show pi _ _ (spliced ((pc,wp (.Call (.Name "set" p2) [e] [] ZF) X.env)::xz pos (Tl [] X.env))) _ _ s;refine hU ?_;refine gw (wk I hg2 X8 b2 ?_);refine fF ?_ hs Z';rw[hs];show pi _ _ (spliced ((pc,wp e X.env)::xz ZF (Tl [] X.env))) _ _ s;refine hU (sf (he XU s Y H _ I h) λu s1 ⟨x,H1,I1,r1,a,ss,ex,hq,hb,q⟩=>iK ?_);subst ex;obtain rfl:u=Value.ref a:=r1;have YO:(ss.map λx=>(Sum.inr x:qW)).length+1<XXi:=by rw[cY];exact hb
 have X0:∀(h':No) (tk:Nat),h'.SetOf (rF X.prog X.w) s1.heap.objs.size (λx=>decide (x∈tP (ss.map λx=>(Sum.inr x:qW)))) (tP (ss.map λx=>(Sum.inr x:qW))).length->(∀b o,s1.heap.get? b=ga o->h'.get? b=ga o)->
   pi (Tk X.prog X.w) X.A (spliced (xz pos (Tl [] X.env))) (λvs s₁=>pi (Tk X.prog X.w) X.A (call (.builtin "len") (.ref s1.heap.objs.size::vs)) (EP X XU Y Q) X.xe s₁) X.xe {s1 with heap:=h',toks:=tk}:=λh' tk hS keep=>by
  refine iK ?_;obtain⟨o,es,ep,t,ho,hex,hd,_,_,hz,hf,hn⟩:=hS;have Yc:(es.size:Int)<2 ^ 63:=by have:XXi=4096:=rfl;lia
  refine call_len_set ho hex hd hf Yc ?_;refine⟨.int es.size,H1,I1.kept keep,⟨_,Z'⟩,?_⟩;rw[hn,Ol];exact q
 rcases hq with hq|hq
 .obtain⟨its,r,pl,hz⟩:=I1.list hq;obtain⟨k1,k2⟩:=G2 (P:=X.prog) (w:=X.w) r;exact L2.z9 (knd:=rF X.prog X.w) (all:=ss.map λx=>(Sum.inr x:qW)) (I1.ok.hd hc) (.inl pl.isList) (by rw[dB,k1,cY]) (λi v k e1 e2=>k2 i v k (by simpa using e1) e2) YO X0
 .obtain⟨its,r,pl,hz⟩:=I1.tuple hq;obtain⟨k1,k2⟩:=G2 (P:=X.prog) (w:=X.w) r;exact L2.z9 (knd:=rF X.prog X.w) (all:=ss.map λx=>(Sum.inr x:qW)) (I1.ok.hd hc) (.inr pl) (by rw[dB,k1,cY]) (λi v k e1 e2=>k2 i v k (by simpa using e1) e2) YO X0
end
variable {XU:T0 (Uf × Obj)}{Y:St}{H:Hp}{s:Sd}
theorem Eb(I:Inv X XU Y H s):∀(ts:QXQ) (kvs:T0 (qW×V)),ts.length=kvs.length->(∀(j:Nat) (t:Uf) (p:qW×V),ts[j]?=ga t->kvs[j]?=ga p->vH X.K H t [kV p.1,p.2])->
  ∃(us:T0 Vl) (all:T0 (qW×Vl)),us.length=kvs.length/\KV kvs all/\∀(j:Nat) (t:Uf) (p:qW×Vl),ts[j]?=ga t->all[j]?=ga p->∃u,us[j]?=ga u/\s.heap.IsTuple t #[u,p.2]/\(rF X.prog X.w).is p.1 u=Db
 | [],[],_,_=>⟨[],[],Z',.nil,λj t p e=>by simp at e⟩
 | [],_::_,h,_=>by simp at h
 | _::_,[],h,_=>by simp at h
 | t::ts,(k,v)::kvs,h,hq=>by
  obtain⟨us,all,h1,h2,h3⟩:=Eb I ts kvs (by simpa using h) (λj t p e1 e2=>hq (j+1) t p (by simpa using e1) (by simpa using e2));obtain⟨its,r,pl,_⟩:=I.tuple (hq 0 t (k,v) (by simp) (by simp));cases r with
  | cons r1 r2=>
   cases r2 with
   | cons r3 r4=>
    cases r4;rename_i u w;refine⟨u::us,(k,w)::all,by simpa using h1,.cons ⟨Z',r3⟩ h2,λj t' p e1 e2=>?_⟩;cases j with
    | zero=>
     have e1':t=t':=by simpa using e1
     have Z4:(k,w)=p:=by simpa using e2
     subst e1' Z4;exact⟨u,by simp,pl,Et r1⟩
    | succ j=>simpa using h3 j t' p (by simpa using e1) (by simpa using e2)
theorem Nc:∀{kvs:T0 (qW×V)} {all:T0 (qW×Vl)},KV kvs all->all.map (·.1)=kvs.map (·.1)
 | _,_,.nil=>rfl
 | _,_,.cons r rs=>by rw[d4,d4,Nc rs,r.1]
def IG(hc:X.calm=Db):yO X (.type "dict") (λxs H Q=>∃l,∃ts:QXQ,∃kvs:T0 (qW×V),xs=[V.ref l]/\xR X.K H l (ts.map V.ref)/\ts.length=kvs.length/\
  (∀(j:Nat) (t:Uf) (p:qW×V),ts[j]?=ga t->kvs[j]?=ga p->vH X.K H t [kV p.1,p.2])/\(kvs.map (·.1)).Nodup/\∀d,H d=Fa->Q (.ref d) (upd H d (.dK kvs))):=by
 intro XU s Y H xs us Q I r h;obtain⟨l,ts,kvs,rfl,hl,X1,hq,hnd,q⟩:=h;obtain⟨u,rfl,ru⟩:=xB r;cases ru;obtain⟨its,rv,⟨⟨c1,d1,t1,sl1⟩,n,g1,e1,e2,e3⟩,hz⟩:=I.list hl;simp only at e1 e2 e3;subst e1 e2 e3;obtain⟨ks,all,h1,h2,h3⟩:=Eb I ts kvs X1 hq;have la:all.length=kvs.length:=(jo h2).symm;have li:its.length=kvs.length:=by rw[<-rv.length,cY,X1]
 have zl:all.length<=Ch:=by rw[la,<-X1];simpa using hz
 have at_:∀(j:Nat) (p:qW×Vl),all[j]?=ga p->∃t,ts[j]?=ga t:=λj p e=>by have:=(c9.mp e).1;exact⟨ts[j],df (by lia)⟩
 refine AU (knd:=rF X.prog X.w) (all:=all) (λj=>(ks[j]?).getD .none) (λj=>(ts[j]?).getD 0) (I.ok.hd hc) g1 (λj v e=>?_) (by rw[dB,li,la]) (λj p e=>?_) (λj p e=>?_) zl λh' tk hD keep=>?_
 .have e':its[j]?=ga v:=by simpa using e
  have hj:=(c9.mp e').1;have hj2:j<ts.length:=by lia
  obtain⟨w,e4,e5⟩:=rv.get (i:=j) (x:=V.ref ts[j]) (by rw[dE,df hj2];rfl);rw[e']at e4;cases e4;show v=Value.ref ((ts[j]?).getD 0);rw[df hj2];exact e5
 .obtain⟨t,et⟩:=at_ j p e;obtain⟨u,e4,e5,_⟩:=h3 j t p et e;show s.heap.IsTuple ((ts[j]?).getD 0) #[(ks[j]?).getD .none,p.2];rw[et,e4];exact e5
 .obtain⟨t,et⟩:=at_ j p e;obtain⟨u,e4,_,e6⟩:=h3 j t p et e;show(rF X.prog X.w).is p.1 ((ks[j]?).getD .none)=Db;rw[e4];exact e6
 .rw[merged_nil_of_nodup all (by rw[Nc h2];exact hnd)]at hD;have fr:=I.mR.fresh (dv s.heap.objs.size);exact⟨.ref s.heap.objs.size,_,I.laid (t':=tk) (o:=.dK kvs) keep (dv _) (CB (by rw[<-la];exact zl) (gg.mpr (dZ (dW I.big))) h2 hD),Z',q _ fr⟩
def Wq:R2:=λx y H Q=>∃a v,x=.ref a/\A5 H a y (ga v)/\Q v H
def QM(hu:X.A.units+1<wP):Uc X Wq:=by
 intro value X7 XU s Y H x y o i Q I rx ry h hs;obtain⟨a,v,rfl,g,q⟩:=h;obtain rfl:o=Value.ref a:=rx;have hT:=GL I g;have h2:pi (Tk X.prog X.w) X.A (XXa (.ref a) i) (EP X XU Y Q) X.xe s:=Ky hu I g ry λw' s3 I3 Zm=>⟨v,H,I3,Zm,q⟩;unfold subscriptTail;refine cZ ?_;rw[ke hT.not_modules];refine cZ (jX hT jx.lookup ?_);have X0:pi (Tk X.prog X.w) X.A (subscripted X7 pc (.ref a) i) (λr s₃=>pi (Tk X.prog X.w) X.A (letTemporaryGo value (.ref a) r>>=λ_=>pure r) (EP X XU Y Q) X.xe s₃) X.xe s:=by rw[hs];exact wpAny_operating (eE h2 (λr s₃ h₃=>cZ (kx (dA h₃))) λ_ _ x=>x)
 first
  | exact dA (cZ X0)
  | exact cZ (dA (cZ X0))
  | exact cZ X0
def R0(hu:X.A.units+1<wP):x8 X (Op .In) (λx y H Q=>∃a o,y=.ref a/\A5 H a x o/\Q (.bl o.isSome) H):=by intro XU s Y H x y v u Q I rx ry h;obtain⟨a,o,rfl,g,q⟩:=h;obtain rfl:u=Value.ref a:=ry;exact WS hu I g rx λs3 I3=>⟨.bl o.isSome,H,I3,Z',q⟩
variable {prog:Pg}{w:Wo}{A:Ar}{E:QQX}{a:Uf}{U:Type}{k:Str}{tk:Tok}
section
variable {R:U→Vl→Prop}{D:T0 (Str × U)}
def zh(T:KTD.TabOf R s.heap a D):s.TypeIs (.ref a) "dict":=let⟨_,o,_,_,ho,hc,_⟩:=T;⟨o,ho,hc.1⟩
def IW{Q:Option Vl->Sd->Prop}(T:KTD.TabOf R s.heap a D)(h1:∀d v,KTD.datumAt k D=ga d->R d v->Q (ga v) {s with toks:=s.toks+1})(h2:KTD.datumAt k D=Fa->Q Fa {s with toks:=s.toks+1}):
  pi (Tk prog w) A (dictGet a (.str k tk)) Q E s:=by
 obtain⟨_,o,es,ep,ho,hc,hd,hr⟩:=T;have hq:Q (findBy (λk v=>v.isStr k) es k) {s with toks:=s.toks+1}:=by
  have hf:findBy (λk v=>v.isStr k) es k=(es.toList.find? λe=>e.key.isStr k).map (·.val):=by obtain⟨l⟩:=es;simp[findBy]
  rw[hf];cases hat:KTD.datumAt k D with
  | none=>rw[hr.find_none hat];exact h2 hat
  | some d=>obtain⟨v,hv,hfl⟩:=hr.find_some hat;rw[hv];exact h1 d v hat hfl
 have YW:(es.all λe=>isExactStrKey e.key)=Db:=by
  obtain⟨l⟩:=es
  simpa using hr.exact
 unfold dictGet
 try with_reducible refine ft ?_
 refine cZ (lG (cZ (KTD.kt_dictFind_strs (s:={s with toks:=s.toks+1}) ho hd YW ?_)));rw[findBy_of_findIdx?]at hq;cases hi:es.findIdx? λe=>e.key.isStr k with
 | none=>rw[hi]at hq;exact dA hq
 | some i=>rw[hi]at hq;exact cZ (wpAny_dictEntries (s:={s with toks:=s.toks+1}) ho hd (dA hq))
def Sx{Q:QQX}(T:KTD.TabOf R s.heap a D)(h:Q (.bool (KTD.datumAt k D).isSome) {s with toks:=s.toks+1}):pi (Tk prog w) A (Op .In (.str k tk) (.ref a)) Q E s:=by
 have hT:=zh T;show pi _ _ (do return .bool (<-contains (.ref a) (.str k tk))) Q E s;refine cZ ?_;unfold contains
 try with_reducible refine ft ?_
 refine cZ (jX hT jm.lookup ?_);show pi _ _ (if (ga (Value.builtin "dict.__contains__")==ga Value.none)=Db then _ else _) _ E s;rw[dg (by rw[beq_builtin_none];exact dD)];refine cZ (wpAny_callSpecialUnlessNone?_slot (name:=Str.ofString "__contains__") hT jm (gq jm hT entry_dict_contains ?_ (args_dict_contains _ _)));show pi _ _ (dictGet a (.str k tk)>>=_) _ _ s;refine cZ (IW T (λd v ha _=>?_) λhn=>?_)
 .rw[ha]at h;show pi _ _ (ret (.bool Db)) _ _ _;exact dA ⟨_,Z',fz (dA h)⟩
 .rw[hn]at h;show pi _ _ (Builtin.Dict.pendingKey? a (.str k tk)>>=_) _ _ _;exact cZ (wpAny_pendingKey_other T.1 (dA ⟨_,Z',fz (dA h)⟩))
def Ob{Q:QQX}{d:U}(T:KTD.TabOf R s.heap a D)(hd:KTD.datumAt k D=ga d)(h:∀v,R d v->Q v {s with toks:=s.toks+1}):pi (Tk prog w) A (XXa (.ref a) (.str k tk)) Q E s:=by
 have hT:=zh T;unfold XXa
 try with_reducible refine ft ?_
 refine cZ (js hT (by decide) ?_);refine cZ (fN (name:=Str.ofString "__getitem__") hT lz (gq lz hT entry_dict_getitem ?_ (args_dict_getitem _ _)));show pi _ _ (dictGet a (.str k tk)>>=_) _ _ s;refine cZ (IW T (λd' v ha hv=>dA ⟨v,Z',dA (h v ?_)⟩) λhn=>?_)
 .rw[hd]at ha;cases ha;exact hv
 .rw[hd]at hn;cases hn
end
def Ni(K:qy)(mg:QQZ)(x:Str)(F:T0 (Str×QQQ)):Prop:=∃a o es ep,mg x=ga (.ref a)/\(a==sK)=pc/\K.lookup a=ga o/\o.ExactDict/\o.data=.dict es ep/\
 KTD.Rows (λ(ss:QQQ) v=>∃t,v=Value.ref t/\vH K (λ_=>Fa) t (ss.map V.str)) es.toList F
variable {x:Str}{F:T0 (Str × QQQ)}
def JA{K:qy}(h:vH K (λ_=>Fa) t xs):vH K H t xs:=by
 rcases h with(h|⟨o,h⟩)|h
 .cases h
 .cases h
 .exact .inr h
def GF{K:qy}(T:Ni K mg x F):∃a,mg x=ga (.ref a)/\∀h:No,K.In h->KTD.TabOf (λ(ss:QQQ) v=>∃t,v=Value.ref t/\vH K (λ_=>Fa) t (ss.map V.str)) h a F:=by obtain⟨a,o,es,ep,h1,h2,h3,h4,h5,h6⟩:=T;exact⟨a,h1,λh hk=>⟨h2,o,es,ep,hk a o h3,h4,h5,h6⟩⟩
noncomputable def Wn(x:Str):It:=⟨λi _=>i<x.cps.size,λi H v H'=>H'=H/\∃c,x.cps[i]?=ga c/\v=.str ⟨#[c]⟩,λi _=>i=x.cps.size⟩
def Ho{K:qy}{ty:String}{x:Str}{t:Tok}(it:Uf)(W:∀A':Ar,A'.handled=Fa->Walks P w A' it [it] [it] x.cps.size (SignAt x) (λi h=>h.IsStrIter it ty x t i)) (hself:∀(A:Ar) (i:Nat) (s:Sd) (Q:QQX) (E:QQX),s.heap.IsStrIter it ty x t i->Q (.ref it) s->pi (Tk P w) A (pyIter (.ref it)) Q E s) (hn:["enumerate","zip","dict_itemiterator","dict_reverseitemiterator","odict_iterator","itertools.zip_longest","itertools.pairwise"].contains ty=pc):GB P w K tg (Wn x) [it] it (λi h=>h.IsStrIter it ty x t i) where
 mem:=by simp
 obj:=λi h st b hb=>by
  obtain rfl:b=it:=by simpa using hb
  obtain⟨o,e,c,d⟩:=st;exact⟨o,e,λv z=>by rw[d]at z;cases z⟩
 keep:=λi h h' st k=>by obtain⟨o,e,r⟩:=st;exact⟨o,k it (by simp) o e,r⟩
 item:=by intro X hP hw hK hc i XU s Y H E I hf st hg;subst hP hw hK;obtain⟨f0,f1,f2,f3,f4,f5⟩:=hf it (by simp);refine(W X.A (I.ok.hd hc)).item i s _ _ hg st λv h' tk hv Zg kp=>?_;obtain⟨c,u,e1,e2⟩:=hv;have I1:Inv X XU Y H {s with heap:=h',toks:=tk}:=I.turned (t':=tk) (λb o hb e=>kp b o (by simpa using hb) e) f0 f1 f3 f4 f5;obtain⟨o,e,cl,d⟩:=id Zg;exact⟨v,Z',J6 (s:={s with heap:=h',toks:=tk}) e cl d hn ⟨.str ⟨#[c]⟩,H,I1,⟨u,e2⟩,⟨Z',c,e1,Z'⟩,Zg,λb hb=>(hf b hb).1⟩⟩
 done:=by intro X hP hw hK hc i XU s Y H E I hf st hg;subst hP hw hK;obtain⟨f0,f1,f2,f3,f4,f5⟩:=hf it (by simp);obtain rfl:i=x.cps.size:=hg;exact(W X.A (I.ok.hd hc)).done s _ _ st λh' tk kp=>⟨Z',I.turned (t':=tk) (λb o hb e=>kp b o (by simpa using hb) e) f0 f1 f3 f4 f5⟩
 self:=hself
variable {tg:Go}
def Q5(hc:X.calm=Db)(hl:PE X l tl):PI X tg l (λY H R=>tl Y H λx H1=>(∃a,x=.ref a/\(((∃xs,xR X.K H1 a xs)/\R (V9 X.K a) H1)\/((∃xs,vH X.K H1 a xs)/\R (WD X.K a) H1)))\/∃z,x=.str z/\R (Wn z) H1):=by
 intro XU s Y H R I h;refine sf (hl XU s Y H _ I h) λv s1 zz=>x5 zz λx H1 I1 r1 q1=>?_;rcases q1 with⟨a,e,q1⟩|⟨z,e,q⟩
 .subst e;cases r1;rcases q1 with⟨⟨xs,hq⟩,q⟩|⟨⟨xs,hq⟩,q⟩
  .obtain⟨its,rv,p,hz⟩:=I1.list hq;refine ic p.isList ?_;refine⟨s1.heap.objs.size,[s1.heap.objs.size],_,_,H1,Z',I1.kept (t':=s1.toks) λb o e=>dq _ e,K2 a _,⟨_,dO _ Z',Z',Z'⟩,λb hb=>?_,q⟩;obtain rfl:b=s1.heap.objs.size:=by simpa using hb
   exact I1.nV (dv _) (I1.mR.fresh (dv _))
  .obtain⟨its,rv,p,hz⟩:=I1.tuple hq;refine iE (show s1.heap.IsTuple a its.toArray from p) ?_;refine⟨s1.heap.objs.size,[s1.heap.objs.size],_,_,H1,Z',I1.kept (t':=s1.toks) λb o e=>dq _ e,HJ a _,⟨_,dO _ Z',Z',Z'⟩,λb hb=>?_,q⟩;obtain rfl:b=s1.heap.objs.size:=by simpa using hb
   exact I1.nV (dv _) (I1.mR.fresh (dv _))
 .subst e;obtain⟨t,rfl⟩:=r1;have fp:∀b∈[s1.heap.objs.size],zC X XU H1 b:=λb hb=>by
   obtain rfl:b=s1.heap.objs.size:=by simpa using hb
   exact I1.nV (dv _) (I1.mR.fresh (dv _))
  cases ha:z.cps.all (·<128)
  .refine wpAny_pyIter_wide ha ?_;exact⟨s1.heap.objs.size,[s1.heap.objs.size],_,_,H1,Z',I1.kept (t':=s1.toks) λb o e=>dq _ e,Ho _ (λA' hA=>Walks.strWide hA _ z t) (λA i s Q E st h=>wpAny_pyIter_striter_wide st h) (by decide),⟨_,dO _ Z',Z',Z'⟩,fp,q⟩
  .refine wpAny_pyIter_ascii ha ?_;exact⟨s1.heap.objs.size,[s1.heap.objs.size],_,_,H1,Z',I1.kept (t':=s1.toks) λb o e=>dq _ e,Ho _ (λA' hA=>Walks.strAscii hA _ z t) (λA i s Q E st h=>wpAny_pyIter_striter_ascii st h) (by decide),⟨_,dO _ Z',Z',Z'⟩,fp,q⟩
end L2
namespace L2
inductive CP{α0:Sort u}{α1:Sort v}(p:α0->α1->Prop):Prop
 | mk (a0:α0) (a1:α1) (h:p a0 a1):CP p
inductive C5{α0:Sort u}{α1:Sort v}{α2:Sort w}(p:α0->α1->α2->Prop):Prop
 | mk (a0:α0) (a1:α1) (a2:α2) (h:p a0 a1 a2):C5 p
def x7{α:Sort u}{β:Sort v}{γ:Sort w}{p q r s:α->β->γ->Prop}{C:Prop}(h:C5 λa b c=>p a b c/\q a b c/\r a b c/\s a b c)(f:∀a b c,p a b c->q a b c->r a b c->s a b c->C):C:=by obtain⟨a,b,c,h1,h2,h3,h4⟩:=h;exact f a b c h1 h2 h3 h4
def J0{α:Sort u}{β:Sort v}{γ:Sort w}{p q r s s1 s2 s3:α->β->γ->Prop}{C:Prop}(h:C5 λa b c=>p a b c/\q a b c/\r a b c/\s a b c/\s1 a b c/\s2 a b c/\s3 a b c)(f:∀a b c,p a b c->q a b c->r a b c->s a b c->s1 a b c->s2 a b c->s3 a b c->C):C:=by obtain⟨a,b,c,h1,h2,h3,h4,h5,h6,h7⟩:=h;exact f a b c h1 h2 h3 h4 h5 h6 h7
inductive Br{α0:Sort u}{α1:Sort v}{α2:Sort w}{α3:Sort u1}(p:α0->α1->α2->α3->Prop):Prop
 | mk (a0:α0) (a1:α1) (a2:α2) (a3:α3) (h:p a0 a1 a2 a3):Br p
inductive F9{α0:Sort u}{α1:Sort v}{α2:Sort w}{α3:Sort u1}{α4:Sort u2}(p:α0->α1->α2->α3->α4->Prop):Prop
 | mk (a0:α0) (a1:α1) (a2:α2) (a3:α3) (a4:α4) (h:p a0 a1 a2 a3 a4):F9 p
inductive Ki{α0:Sort u}{α1:Sort v}{α2:Sort w}{α3:Sort u1}{α4:Sort u2}{α5:Sort u3}(p:α0->α1->α2->α3->α4->α5->Prop):Prop
 | mk (a0:α0) (a1:α1) (a2:α2) (a3:α3) (a4:α4) (a5:α5) (h:p a0 a1 a2 a3 a4 a5):Ki p
inductive Ui{α0:Sort u}{α1:Sort v}{α2:Sort w}{α3:Sort u1}{α4:Sort u2}{α5:Sort u3}{α6:Sort u4}(p:α0->α1->α2->α3->α4->α5->α6->Prop):Prop
 | mk (a0:α0) (a1:α1) (a2:α2) (a3:α3) (a4:α4) (a5:α5) (a6:α6) (h:p a0 a1 a2 a3 a4 a5 a6):Ui p
inductive T9{α0:Sort u}{α1:Sort v}{α2:Sort w}{α3:Sort u1}{α4:Sort u2}{α5:Sort u3}{α6:Sort u4}{α7:Sort u5}(p:α0->α1->α2->α3->α4->α5->α6->α7->Prop):Prop
 | mk (a0:α0) (a1:α1) (a2:α2) (a3:α3) (a4:α4) (a5:α5) (a6:α6) (a7:α7) (h:p a0 a1 a2 a3 a4 a5 a6 a7):T9 p
inductive VO{α0:Sort u}{α1:Sort v}{α2:Sort w}{α3:Sort u1}{α4:Sort u2}{α5:Sort u3}{α6:Sort u4}{α7:Sort u5}{α8:Sort u6}(p:α0->α1->α2->α3->α4->α5->α6->α7->α8->Prop):Prop
 | mk (a0:α0) (a1:α1) (a2:α2) (a3:α3) (a4:α4) (a5:α5) (a6:α6) (a7:α7) (a8:α8) (h:p a0 a1 a2 a3 a4 a5 a6 a7 a8):VO p
inductive Md{α0:Sort u}{α1:Sort v}{α2:Sort w}{α3:Sort u1}{α4:Sort u2}{α5:Sort u3}{α6:Sort u4}{α7:Sort u5}{α8:Sort u6}{α9:Sort u7}(p:α0->α1->α2->α3->α4->α5->α6->α7->α8->α9->Prop):Prop
 | mk (a0:α0) (a1:α1) (a2:α2) (a3:α3) (a4:α4) (a5:α5) (a6:α6) (a7:α7) (a8:α8) (a9:α9) (h:p a0 a1 a2 a3 a4 a5 a6 a7 a8 a9):Md p
end L2
namespace L2
open PySem
def Vw(a C:Uf)(h:No):Prop:=CP λoe vs=>h.get? a=ga oe/\oe.cls=.ref C/\oe.data=.fields vs/\oe.dict=Fa
end L2
namespace L3
open L2
inductive D where
 | mK|bl (b:Bool)|int (i:Int)|str (x:Str)|tup (ds:List D)|ref (a:Uf)|ty (n:String)
 | rl (ds:List D)
def Pk(K:qy)(H:Hp)(a:Uf)(xs:T0 V):Prop:=(∃o,H a=ga (.frz o (.lst xs)))\/
 ∃(o:Obj) (its:Array Vl) (n:Nat),K.lookup a=ga o/\o.cls=.type "list"/\o.dict=Fa/\o.data=.seq its n/\its.size<=Ch/\qA xs its.toList
def Pk.sq{K:qy}(h:Pk K H a xs):xR K H a xs:=by
 rcases h with⟨o,h⟩|h
 .exact .inl (.inr ⟨o,h⟩)
 .exact .inr h
mutual
def rT(K:qy)(H:Hp):D->V->Prop
 | .mK,v=>v=.mK
 | .bl b,v=>v=.bl b
 | .int i,v=>v=.int i
 | .str x,v=>v=.str x
 | .ref a,v=>v=.ref a
 | .ty n,v=>v=.ty n
 | .tup ds,v=>∃a xs,v=.ref a/\vH K H a xs/\qr K H ds xs
 | .rl ds,v=>∃a xs,v=.ref a/\Pk K H a xs/\qr K H ds xs
def qr(K:qy)(H:Hp):T0 D->T0 V->Prop
 | [],xs=>xs=[]
 | d::ds,xs=>∃x r,xs=x::r/\rT K H d x/\qr K H ds r
end
structure qV(K:qy)(H H':Hp):Prop where
 t:∀a xs,vH K H a xs->vH K H' a xs
 f:∀a o xs,H a=ga (.frz o (.lst xs))->H' a=ga (.frz o (.lst xs))
def qV.refl{K:qy}:qV K H H:=⟨λ_ _ h=>h,λ_ _ _ h=>h⟩
def qV.trans{K:qy}(a:qV K H H1)(b:qV K H1 H2):qV K H H2:=⟨λc xs h=>b.t c xs (a.t c xs h),λc o xs h=>b.f c o xs (a.f c o xs h)⟩
def qV.upd{K:qy}(h:∀xs,¬Rd H p (.tup xs))(h':∀u xs,H p≠ga (.frz u (.lst xs))):qV K H (upd H p o):=⟨λa xs q=>by
 rcases q with q|q
 .have ne:a≠p:=λz=>h xs (z ▸ q);rcases q with q|⟨u,q⟩
  .exact .inl (.inl (by rw[qd ne];exact q))
  .exact .inl (.inr ⟨u,by rw[qd ne];exact q⟩)
 .exact .inr q,λa u xs q=>by
 have ne:a≠p:=λz=>h' u xs (z ▸ q);rw[qd ne];exact q⟩
def qV.new{K:qy}{H:Hp}{p:Uf}(h:H p=Fa):qV K H (L2.upd H p o):=.upd (λxs q=>by
 rcases q with q|⟨u,q⟩<;>(rw[h]at q;cases q)) λu xs q=>by rw[h]at q;cases q
def Pk.mono{K:qy}(e:qV K H H')(h:Pk K H a xs):Pk K H' a xs:=by
 rcases h with⟨o,h⟩|h
 .exact .inl ⟨o,e.f a o xs h⟩
 .exact .inr h
mutual
theorem rT.mono{K:qy}(e:qV K H H'):∀{d:D} {v:V},rT K H d v->rT K H' d v
 | .mK,_,h=>h
 | .bl _,_,h=>h
 | .int _,_,h=>h
 | .str _,_,h=>h
 | .ref _,_,h=>h
 | .ty _,_,h=>h
 | .tup ds,v,h=>by unfold rT at h ⊢;obtain⟨a,xs,e1,e2,e3⟩:=h;exact⟨a,xs,e1,e.t _ _ e2,qr.mono e e3⟩
 | .rl ds,v,h=>by unfold rT at h ⊢;obtain⟨a,xs,e1,e2,e3⟩:=h;exact⟨a,xs,e1,e2.mono e,qr.mono e e3⟩
theorem qr.mono{K:qy}(e:qV K H H'):∀{ds:T0 D} {xs:T0 V},qr K H ds xs->qr K H' ds xs
 | [],_,h=>h
 | d::ds,xs,h=>by unfold qr at h ⊢;obtain⟨x,r,e1,e2,e3⟩:=h;exact⟨x,r,e1,rT.mono e e2,qr.mono e e3⟩
end
variable {K:qy}{H H':Hp}
def qr.nil:qr K H [] []:=by unfold qr;rfl
def qr.cons(a:rT K H d x)(b:qr K H ds xs):qr K H (d::ds) (x::xs):=by unfold qr;exact⟨x,xs,Z',a,b⟩
def qr.inv{d:D}{ds:T0 D}(h:qr K H (d::ds) xs):∃x r,xs=x::r/\rT K H d x/\qr K H ds r:=by unfold qr at h;exact h
def qr.nil_inv(h:qr K H [] xs):xs=[]:=by unfold qr at h;exact h
theorem qr.length:∀{ds:T0 D} {xs:T0 V},qr K H ds xs->ds.length=xs.length
 | [],_,h=>by rw[h.nil_inv];rfl
 | d::ds,_,h=>by obtain⟨x,r,rfl,_,e⟩:=h.inv;simp[qr.length e]
theorem qr.get:∀{ds:T0 D} {xs:T0 V} {i:Nat} {d:D},qr K H ds xs->ds[i]?=ga d->∃x,xs[i]?=ga x/\rT K H d x
 | [],_,_,_,_,e=>by simp at e
 | d::ds,_,0,_,h,e=>by obtain⟨x,r,rfl,a,_⟩:=h.inv;simp at e;subst e;exact⟨x,by simp,a⟩
 | d::ds,_,i+1,_,h,e=>by obtain⟨x,r,rfl,_,b⟩:=h.inv;obtain⟨y,e1,e2⟩:=qr.get b (by simpa using e);exact⟨y,by simpa using e1,e2⟩
theorem qr.append:∀{ds es:T0 D} {xs ys:T0 V},qr K H ds xs->qr K H es ys->qr K H (ds++es) (xs++ys)
 | [],_,_,_,h,g=>by rw[h.nil_inv];exact g
 | d::ds,_,_,_,h,g=>by obtain⟨x,r,rfl,a,b⟩:=h.inv;exact .cons a (qr.append b g)
theorem qr.take:∀{ds:T0 D} {xs:T0 V} (n:Nat),qr K H ds xs->qr K H (ds.take n) (xs.take n)
 | _,_,0,_=>by simp only[List.take_zero];exact .nil
 | [],_,n+1,h=>by rw[h.nil_inv];exact .nil
 | d::ds,_,n+1,h=>by obtain⟨x,r,rfl,a,b⟩:=h.inv;exact .cons a (qr.take n b)
theorem qr.drop:∀{ds:T0 D} {xs:T0 V} (n:Nat),qr K H ds xs->qr K H (ds.drop n) (xs.drop n)
 | _,_,0,h=>h
 | [],_,n+1,h=>by rw[h.nil_inv];exact .nil
 | d::ds,_,n+1,h=>by obtain⟨x,r,rfl,a,b⟩:=h.inv;exact qr.drop n b
def qr.snoc(h:qr K H ds xs)(a:rT K H d x):qr K H (ds++[d]) (xs++[x]):=h.append (.cons a .nil)
theorem qr.ints:∀{ns:T0 Int},qr K H (ns.map D.int) (ns.map V.int)
 | []=>.nil
 | n::r=>.cons (by unfold rT;rfl) qr.ints
def rT.tup(q:vH K H a xs)(h:qr K H ds xs):rT K H (.tup ds) (.ref a):=by unfold rT;exact⟨a,xs,Z',q,h⟩
def rT.mO{ds:T0 D}(h:rT K H (.tup ds) v):∃a xs,v=.ref a/\vH K H a xs/\qr K H ds xs:=by unfold rT at h;exact h
def rT.mY{ds:T0 D}(h:rT K H (.rl ds) v):∃a xs,v=.ref a/\Pk K H a xs/\qr K H ds xs:=by unfold rT at h;exact h
def rT.int{i:Int}:rT K H (.int i) (.int i):=by unfold rT;rfl
def rT.bl{i:Bool}:rT K H (.bl i) (.bl i):=by unfold rT;rfl
def rT.str{i:Str}:rT K H (.str i) (.str i):=by unfold rT;rfl
def rT.ref{i:Uf}:rT K H (.ref i) (.ref i):=by unfold rT;rfl
def rT.mK:rT K H .mK .mK:=by unfold rT;rfl
def rT.int_inv{i:Int}(h:rT K H (.int i) v):v=.int i:=by unfold rT at h;exact h
def rT.mI{i:Bool}(h:rT K H (.bl i) v):v=.bl i:=by unfold rT at h;exact h
def rT.str_inv{i:Str}(h:rT K H (.str i) v):v=.str i:=by unfold rT at h;exact h
def rT.mG{i:Uf}(h:rT K H (.ref i) v):v=.ref i:=by unfold rT at h;exact h
def rT.nQ{i:String}(h:rT K H (.ty i) v):v=.ty i:=by unfold rT at h;exact h
def rT.mJ{v:V}(h:rT K H .mK v):v=.mK:=by unfold rT at h;exact h
inductive vc where
 | lst (ds:List D)
 | ins (C:Uf) (fs:List (Str×D))
 | dk (kvs:List (qW×D))
 | exc (C:Uf)
abbrev Mp:=Uf->Option vc
noncomputable def pI(M:Mp)(a:Uf)(c:vc):Mp:=λb=>if b=a then ga c else M b
def pW:pI M a c a=ga c:=by unfold pI;rw[dh Z']
def ud{a b:Uf}(h:b≠a):pI M a c b=M b:=by unfold pI;rw[dg h]
def rQ:pI (pI M a c) a d=pI M a d:=by funext b;unfold pI;split<;>rfl
def BX{M:Mp}{a b:Uf}{c:vc}(h:M a=ga c)(h':M b=Fa):a≠b:=by intro e;subst e;rw[h]at h';cases h'
def CL(K:qy)(H:Hp)(fs:T0 (Str×D))(vs:T0 (Str×V)):Prop:=vs.map (·.1)=fs.map (·.1)/\qr K H (fs.map (·.2)) (vs.map (·.2))
def yc(K:qy)(H:Hp)(a:Uf):vc->Prop
 | .lst ds=>∃xs,H a=ga (.lst xs)/\qr K H ds xs
 | .ins C fs=>∃dx vs,H a=ga (.ins C dx vs)/\Cls K C/\(∀f,f∈fs.map (·.1)->uf K C f)/\CL K H fs vs
 | .dk kvs=>∃vs,H a=ga (.dK vs)/\vs.map (·.1)=kvs.map (·.1)/\qr K H (kvs.map (·.2)) (vs.map (·.2))
 | .exc C=>H a=ga (.ext (Vw a C))
def HM(K:qy)(H:Hp)(M:Mp):Prop:=∀a c,M a=ga c->yc K H a c
variable {M:Mp}
def CL.mono(e:qV K H H')(h:CL K H fs vs):CL K H' fs vs:=⟨h.1,h.2.mono e⟩
def yc.keep(e:qV K H H')(k:H' a=H a)(h:yc K H a c):yc K H' a c:=by
 cases c with
 | lst ds=>obtain⟨xs,e1,e2⟩:=h;exact⟨xs,by rw[k];exact e1,e2.mono e⟩
 | ins C fs=>obtain⟨dx,vs,e1,c,n,e2⟩:=h;exact⟨dx,vs,by rw[k];exact e1,c,n,e2.mono e⟩
 | dk kvs=>obtain⟨vs,e1,e2,e3⟩:=h;exact⟨vs,by rw[k];exact e1,e2,e3.mono e⟩
 | exc C=>exact k.trans h
def yc.there(h:yc K H a c):∃o,H a=ga o/\(∀xs,¬Rd H a (.tup xs))/\∀u xs,H a≠ga (.frz u (.lst xs)):=by
 have go:∀o,H a=ga o->(∀xs,o≠.tup xs)->(∀u v,o≠.frz u v)->∃o,H a=ga o/\(∀xs,¬Rd H a (.tup xs))/\∀u xs,H a≠ga (.frz u (.lst xs)):=λo e n1 n2=>⟨o,e,λxs q=>by
  rcases q with q|⟨u,q⟩
  .rw[e]at q;exact n1 xs (dw q)
  .rw[e]at q;exact n2 u _ (dw q),λu xs q=>by rw[e]at q;exact n2 u _ (dw q)⟩
 cases c with
 | lst ds=>obtain⟨xs,e1,e2⟩:=h;exact go _ e1 (λ_ z=>by cases z) λ_ _ z=>by cases z
 | ins C fs=>obtain⟨dx,vs,e1,e2⟩:=h;exact go _ e1 (λ_ z=>by cases z) λ_ _ z=>by cases z
 | dk kvs=>obtain⟨vs,e1,e2,e3⟩:=h;exact go _ e1 (λ_ z=>by cases z) λ_ _ z=>by cases z
 | exc C=>exact go _ h (λ_ z=>by cases z) λ_ _ z=>by cases z
def HM.fresh(h:HM K H M){p:Uf}(n:H p=Fa):M p=Fa:=by
 cases e:M p with
 | none=>rfl
 | some c=>obtain⟨o,q,_⟩:=(h p c e).there;rw[n]at q;cases q
def HM.keep(h:HM K H M)(e:qV K H H')(k:∀a c,M a=ga c->H' a=H a):HM K H' M:=λa c q=>(h a c q).keep e (k a c q)
def HM.add(h:HM K H M){p:Uf}{o:HO}(n:H p=Fa):HM K (upd H p o) M:=h.keep (.new n) λa c q=>by obtain⟨u,e,_⟩:=(h a c q).there;rw[qd (qX e n)]
def HM.new(h:HM K H M){p:Uf}{o:HO}{c:vc}(n:H p=Fa)(ok:yc K (upd H p o) p c):HM K (upd H p o) (pI M p c):=λa d q=>by
 by_cases e:a=p
 .subst e;rw[pW]at q;cases q;exact ok
 .rw[ud e]at q;exact h.add n a d q
def HM.put(h:HM K H M){p:Uf}{o:HO}{c c0:vc}(e0:M p=ga c0)(ok:qV K H (upd H p o)->yc K (upd H p o) p c):HM K (upd H p o) (pI M p c)/\qV K H (upd H p o):=by
 obtain⟨u,eu,nt,nf⟩:=(h p c0 e0).there;have x:qV K H (upd H p o):=.upd nt nf;refine⟨λa d q=>?_,x⟩;by_cases e:a=p
 .subst e;rw[pW]at q;cases q;exact ok x
 .rw[ud e]at q;exact(h a d q).keep x (qd e)
abbrev St:=L2.St
abbrev vp:=T0 (Option D)
abbrev DK:=D->Mp->Prop
abbrev T3:=vp->Mp->DK->Prop
abbrev AK:=vp->Mp->(Bool->Mp->Prop)->Prop
abbrev xE:=vp->Mp->(T0 D->Mp->Prop)->Prop
structure GJ where
 nx:vp->Mp->Prop
 rt:DK
 bk:vp->Mp->Prop:=λ_ _=>False
 ct:vp->Mp->Prop:=λ_ _=>False
abbrev xG:=GJ->vp->Mp->Prop
def Ac(K:qy)(H:Hp)(Y:St)(U:vp):Prop:=∀(i:Nat) (d:D),U[i]?=ga (ga d)->∃v,Y[i]?=ga (ga v)/\rT K H d v
def Ac.mono{K:qy}(e:qV K H H')(h:Ac K H Y U):Ac K H' Y U:=λi d q=>by obtain⟨v,e1,e2⟩:=h i d q;exact⟨v,e1,e2.mono e⟩
def Ac.set{K:qy}{i:Nat}(h:Ac K H Y U)(hv:rT K H d v)(hi:i<Y.length):Ac K H (Y.set i (ga v)) (U.set i (ga d)):=λj e q=>by
 by_cases hj:j=i
 .subst hj;rw[fC hi];by_cases hl:j<U.length
  .rw[fC hl]at q;cases q;exact⟨v,Z',hv⟩
  .rw[fk (by simpa using hl)]at q;cases q
 .rw[fB (dZ hj)]at q ⊢;exact h j e q
def lo(K:qy)(t:T3):TE:=λY H Q'=>C5 λU M Q=>Ac K H Y U/\HM K H M/\t U M Q/\∀v H' d M',rT K H' d v->HM K H' M'->qV K H H'->Q d M'->Q' v H'
def Ub(K:qy)(t:AK):TT:=λY H Q'=>C5 λU M Q=>Ac K H Y U/\HM K H M/\t U M Q/\∀b H' M',HM K H' M'->qV K H H'->Q b M'->Q' b H'
def Xi(K:qy)(t:xE):TA:=λY H Q'=>C5 λU M Q=>Ac K H Y U/\HM K H M/\t U M Q/\∀vs H' ds M',qr K H' ds vs->HM K H' M'->qV K H H'->Q ds M'->Q' vs H'
def V7(K:qy)(t:xG):TS:=λD' Y H=>C5 λU M D=>Ac K H Y U/\HM K H M/\t D U M/\(∀σ' H' δ' M',Ac K H' σ' δ'->HM K H' M'->qV K H H'->σ'.length=Y.length->D.nx δ' M'->D'.nx σ' H')/\
 (∀v H' d M',rT K H' d v->HM K H' M'->qV K H H'->D.rt d M'->D'.rt v H')/\(∀σ' H' δ' M',Ac K H' σ' δ'->HM K H' M'->qV K H H'->σ'.length=Y.length->D.bk δ' M'->D'.bk σ' H')/\
 (∀σ' H' δ' M',Ac K H' σ' δ'->HM K H' M'->qV K H H'->σ'.length=Y.length->D.ct δ' M'->D'.ct σ' H')
def E3(X:Cx)(e:Go)(t:T3):Prop:=PE X e (lo X.K t)
def B3(X:Cx)(e:Go)(t:AK):Prop:=PT X e (Ub X.K t)
def A3(X:Cx)(es:T0 Go)(t:xE):Prop:=PA X es (Xi X.K t)
def S3(X:Cx)(st:TD)(t:xG):Prop:=PS X st (V7 X.K t)
def Hu(X:Cx)(st:T0 TD)(t:xG):Prop:=Cb X st (V7 X.K t)
def PE.mono{t t':TE}(h:PE X e t)(m:∀Y H Q,t' Y H Q->t Y H Q):PE X e t':=λXU s Y H Q I q=>h XU s Y H Q I (m Y H Q q)
def PT.mono{t t':TT}(h:PT X e t)(m:∀Y H Q,t' Y H Q->t Y H Q):PT X e t':=λXU s Y H Q I q=>h XU s Y H Q I (m Y H Q q)
def PA.mono{t t':TA}(h:PA X e t)(m:∀Y H Q,t' Y H Q->t Y H Q):PA X e t':=λpos XU s Y H Q I q=>h pos XU s Y H Q I (m Y H Q q)
def PS.mono{t t':TS}(h:PS X e t)(m:∀D Y H,t' D Y H->t D Y H):PS X e t':=λXU s Y H D I q=>h XU s Y H D I (m D Y H q)
def Cb.mono{t t':TS}(h:Cb X e t)(m:∀D Y H,t' D Y H->t D Y H):Cb X e t':=λXU s Y H D I q=>h XU s Y H D I (m D Y H q)
def PS.nO{t t':TS}(h:PS X e t)(m:∀D Y H,Y.length=X.N.length->t' D Y H->t D Y H):PS X e t':=λXU s Y H D I q=>h XU s Y H D I (m D Y H I.len q)
def vm{K:qy}{Q':VK}{Q:DK}(x:qV K H H1)(f:∀v H' d M',rT K H' d v->HM K H' M'->qV K H H'->Q d M'->Q' v H'):∀v H' d M',rT K H' d v->HM K H' M'->qV K H1 H'->Q d M'->Q' v H':=
 λv H' d M' a b c e=>f v H' d M' a b (x.trans c) e
variable {X:Cx}{pos:Pos}
def v3(i:Nat):T3:=λU M Q=>(U.getD i Fa).elim False λd=>Q d M
def K'{U:vp}{i:Nat}{P:D->Prop}(h:(U.getD i Fa).elim False P):∃d,U[i]?=ga (ga d)/\P d:=by
 cases e:U[i]? with
 | none=>rw[gL,e]at h;exact h.elim
 | some o=>
  rw[gL,e]at h;cases o with
  | none=>exact h.elim
  | some d=>exact⟨d,Z',h⟩
def TV(i:Nat){x:Str}(h:PE X (.Name x pos) (Ik i)):E3 X (.Name x pos) (v3 i):=PE.mono h λY H Q' zz=>x7 zz λU M Q hs hm ht k=>by obtain⟨d,e,q⟩:=K' ht;obtain⟨v,e1,e2⟩:=hs i d e;exact⟨v,e1,k v H d M e2 hm .refl q⟩
def c3(d:D):T3:=λ_ M Q=>Q d M
def pE{i j}:E3 X (.Constant (.int i) j pos) (c3 (.int i)):=PE.mono To λY H Q' zz=>x7 zz λU M Q hs hm ht k=>k _ H _ M .int hm .refl ht
def wI{i j}:E3 X (.Constant (.bool i) j pos) (c3 (.bl i)):=PE.mono Vk λY H Q' zz=>x7 zz λU M Q hs hm ht k=>k _ H _ M .bl hm .refl ht
def pF{i j}:E3 X (.Constant (.str i) j pos) (c3 (.str i)):=PE.mono RN λY H Q' zz=>x7 zz λU M Q hs hm ht k=>k _ H _ M .str hm .refl ht
def rW{j}:E3 X (.Constant .none j pos) (c3 .mK):=PE.mono Sg λY H Q' zz=>x7 zz λU M Q hs hm ht k=>k _ H _ M .mK hm .refl ht
def J3{n:String}(hg:Gl X x)(hm:X.mg x=Fa)(hv:zn x=ga (.type n))(hn:x≠"__name__":=by decide)(hd:zu x:=by decide):E3 X (.Name x pos) (c3 (.ty n)):=
 PE.mono (QB (v:=.ty n) hg hm hv Z' hn hd) λY H Q' zz=>x7 zz λU M Q hs hm ht k=>k _ H _ M (by unfold rT;rfl) hm .refl ht
noncomputable def og(M:Mp)(a:Uf):Option (T0 D):=match M a with
 | some (.lst ds)=>ga ds
 | _=>Fa
noncomputable def zc(x:Str)(n:Int):Str:=⟨(List.replicate n.toNat x.cps).foldl (·++·) #[]⟩
def VW(op:XXf)(x y:D)(M:Mp)(Q:DK):Prop:=match op,x,y with
 | .Add,.int i,.int j=>Q (.int (i+j)) M
 | .Add,.str i,.str j=>i.length+j.length<=Ch/\Q (.str (i++j)) M
 | .Add,.tup i,.tup j=>i≠[]/\i.length+j.length<=Ch/\Q (.tup (i++j)) M
 | .Add,.ref a,.ref b=>(og M a).elim False λi=>(og M b).elim False λj=>i.length+j.length<=Ch/\∀p,M p=Fa->Q (.ref p) (pI M p (.lst (i++j)))
 | .Add,.rl i,.ref b=>(og M b).elim False λj=>i.length+j.length<=Ch/\∀p,M p=Fa->Q (.ref p) (pI M p (.lst (i++j)))
 | .Sub,.int i,.int j=>Q (.int (i - j)) M
 | .Mult,.int i,.int j=>C7 i j/\Q (.int (i*j)) M
 | .Mult,.str i,.int j=>(j<4096/\-4096<j/\i.length<4096)/\Q (.str (zc i j)) M
 | .FloorDiv,.int i,.int j=>VG i j/\Q (.int (i / j)) M
 | .Mod,.int i,.int j=>0<j/\Q (.int (i % j)) M
 | _,_,_=>False
def o3(op:XXf)(ta tb:T3):T3:=λU M Q=>ta U M λx M1=>tb U M1 λy M2=>VW op x y M2 Q
def Up(K:qy)(H:Hp)(Q':VK)(Q:DK):Prop:=∀v H' d M',rT K H' d v->HM K H' M'->qV K H H'->Q d M'->Q' v H'
variable {ta tb:T3}
section
def qk{K:qy}{ds:T0 D}(hm:HM K H M)(h:og M a=ga ds):∃xs,xR K H a xs/\qr K H ds xs/\Rd H a (.lst xs):=by
 unfold og at h;cases e:M a with
 | none=>rw[e]at h;cases h
 | some c=>
  rw[e]at h;have ok:=hm a c e;cases c with
  | lst es=>cases h;obtain⟨xs,e1,e2⟩:=ok;exact⟨xs,.inl (.inl e1),e2,.inl e1⟩
  | ins _ _=>cases h
  | dk _=>cases h
  | exc _=>cases h
def qJ{α:Type}{o:Option α}{P:α->Prop}(h:o.elim False P):∃a,o=ga a/\P a:=by
 cases o with
 | none=>exact h.elim
 | some a=>exact⟨a,Z',h⟩
def JK:x8 X (wS .Add) (λx y H Q=>∃l b xs zs,x=.ref l/\y=.ref b/\xR X.K H l xs/\xR X.K H b zs/\xs.length+zs.length<=Ch/\∀p,H p=Fa->Q (.ref p) (upd H p (.lst (xs++zs)))):=by
 intro XU s Y H x y v u Q I rx ry h;obtain⟨l,b,xs,zs,rfl,rfl,hH,hB,hz,q⟩:=h;cases rx;cases ry;obtain⟨its,r,⟨⟨c1,d1,t1,sl1⟩,n,g1,e1,_,f1⟩,_⟩:=I.list hH;obtain⟨ZG,r2,⟨⟨c2,d2,t2,sl2⟩,m,g2,e2,_,f2⟩,_⟩:=I.list hB;simp only at e1 f1 e2 f2;subst e1 f1 e2 f2;have hl:=r.length;have hl2:=r2.length;refine kU ⟨_,g1,Z'⟩ ⟨_,g2,Z'⟩ noFill_list_add seq_list_add PySem.F.slot_list_add PySem.F.entry_list_add (PySem.F.args_list_add_2 _ _) (list_addW l b its.toArray ZG.toArray n m d1 d2 sl1 sl2 (by rw[dB,dB];lia)) ⟨g1,g2,?_⟩;have ea:its.toArray++ZG.toArray=(its++ZG).toArray:=by simp
 rw[ea];exact⟨.ref _,_,I.oR (t':=s.toks) (r.append r2) (by rw[de];lia),Z',q _ I.fresh⟩
def Kc(x:Array Nat):∀k,((List.replicate k x).foldl (·++·) #[]:Array Nat).size=k*x.size:=by
 have go:∀(k:Nat) (acc:Array Nat),((List.replicate k x).foldl (·++·) acc).size=acc.size+k*x.size:=by
  intro k;induction k with
  | zero=>intro acc;simp
  | succ k ih=>intro acc;rw[eM,gf,ih,Array.size_append,mo];lia
 intro k;rw[go];simp
def P0:x8 X (wS .Mult) (λx y H Q=>∃i j,x=.str i/\y=.int j/\(j<4096/\-4096<j/\i.length<4096)/\Q (.str (zc i j)) H):=by
 intro XU s Y H x y v u Q I rx ry h;obtain⟨i,j,rfl,rfl,⟨h1,h2,h3⟩,q⟩:=h;obtain⟨t,rfl⟩:=rx;obtain⟨t',rfl⟩:=ry;refine PySem.P.mul_str ?_ ?_ ?_ ?_
 .rw[eF (by lia),eF (by lia)];rfl
 .intro h0 _;have:(4096:Int)<=(2 ^ 63 - 1) / j:=by
   have:(4096:Int)*j<=2 ^ 63 - 1:=by lia
   exact(Int.le_ediv_iff_mul_le (by lia)).mpr this
  lia
 .intro h0 _;have hm:i.length*j.toNat<=4096*4096:=kg (by lia) (by lia);have hz:=dQ;unfold Builtin.Str.tooLong;exact eF (by lia)
 .by_cases h0:j<1
  .rw[dh h0];have e:zc i j=Str.empty:=by unfold zc;rw[show j.toNat=0 by lia];rfl
   rw[e]at q;exact⟨by decide,⟨.str Str.empty,H,I.tok _,⟨_,Z'⟩,q⟩⟩
  .rw[dg h0];by_cases hj:(j==1||i.length==0)=Db
   .rw[dh hj];have e:zc i j=i:=by
     have hj':j=1\/i.length=0:=by simpa using hj
     unfold zc;rcases hj' with z|z
     .subst z;show(⟨#[]++i.cps⟩:Str)=i;simp
     .have ec:i.cps=#[]:=Array.size_eq_zero_iff.mp z;have er:∀k:Nat,((List.replicate k (#[]:Array Nat)).foldl (·++·) #[]:Array Nat)=#[]:=by
       intro k;induction k with
       | zero=>rfl
       | succ k ih=>rw[eM,gf];simpa using ih
      rw[ec,er,<-ec]
    rw[e]at q;exact⟨.str i,H,I,⟨t,Z'⟩,q⟩
   .rw[dg hj];refine⟨?_,⟨.str _,H,I.tok _,⟨_,Z'⟩,q⟩⟩;have hz:=dQ;have hm:j.toNat*i.length<=4096*4096:=kg (by lia) (by lia);show((List.replicate j.toNat i.cps).foldl (·++·) #[]:Array Nat).size<=_;rw[Kc];have Zp:j.toNat*i.cps.size<=4096*4096:=hm;lia
def R3(K:qy)(f:D->D->Mp->DK->Prop):R2:=λvx vy H Q'=>Br λx y M Q=>rT K H x vx/\rT K H y vy/\HM K H M/\f x y M Q/\Up K H Q' Q
def Xz(op:XXf):x8 X (wS op) (R3 X.K (VW op)):=by
 intro XU s Y H vx vy v u Q' I rx ry h;obtain⟨x,y,M,Q,hx,hy,hm,q,k⟩:=h;unfold VW at q;split at q
 .cases hx.int_inv;cases hy.int_inv;exact TX XU s Y H _ _ v u Q' I rx ry ⟨_,_,Z',Z',k _ _ _ _ .int hm .refl q⟩
 .cases hx.str_inv;cases hy.str_inv;exact HX XU s Y H _ _ v u Q' I rx ry ⟨_,_,Z',Z',q.1,k _ _ _ _ .str hm .refl q.2⟩
 .rename_i i j;obtain⟨q1,q2,q3⟩:=q;obtain⟨a,xs,rfl,ha,Zw⟩:=hx.mO;obtain⟨b,ys,rfl,hb,YO⟩:=hy.mO;have l1:=Zw.length;have l2:=YO.length;refine Qa XU s Y H _ _ v u Q' I rx ry ⟨a,b,xs,ys,Z',Z',ha,hb,λz=>q1 (by rw[z]at l1;exact gD.mp l1),by lia,λz=>?_,λz p hp=>?_⟩
  .refine k _ _ _ _ (.tup ha ?_) hm .refl q3;rw[z]at YO;have e0:j=[]:=gD.mp (by simpa using YO.length);rw[e0,eO];exact Zw
  .have e:qV X.K H (upd H p (.tup (xs++ys))):=.new hp;exact k _ _ _ _ (.tup (.of qg) ((Zw.append YO).mono e)) (hm.add hp) e q3
 .obtain⟨i,ei,q⟩:=qJ q;obtain⟨j,ej,q1,q2⟩:=qJ q;cases hx.mG;cases hy.mG;obtain⟨xs,rx',hxs,_⟩:=qk hm ei;obtain⟨ys,ry',hys,_⟩:=qk hm ej;have l1:=hxs.length;have l2:=hys.length;refine JK XU s Y H _ _ v u Q' I rx ry ⟨_,_,xs,ys,Z',Z',rx',ry',by lia,λp hp=>?_⟩;have e:qV X.K H (upd H p (.lst (xs++ys))):=.new hp;exact k _ _ _ _ .ref (hm.new (c:=.lst (i++j)) hp ⟨_,qg,(hxs.append hys).mono e⟩) e (q2 p (hm.fresh hp))
 .obtain⟨j,ej,q1,q2⟩:=qJ q;obtain⟨l,xs,rfl,rx',hxs⟩:=hx.mY;cases hy.mG;obtain⟨ys,ry',hys,_⟩:=qk hm ej;have l1:=hxs.length;have l2:=hys.length;refine JK XU s Y H _ _ v u Q' I rx ry ⟨_,_,xs,ys,Z',Z',rx'.sq,ry',by lia,λp hp=>?_⟩;have e:qV X.K H (upd H p (.lst (xs++ys))):=.new hp;exact k _ _ _ _ .ref (hm.new (c:=.lst (_++j)) hp ⟨_,qg,(hxs.append hys).mono e⟩) e (q2 p (hm.fresh hp))
 .cases hx.int_inv;cases hy.int_inv;exact S' XU s Y H _ _ v u Q' I rx ry ⟨_,_,Z',Z',k _ _ _ _ .int hm .refl q⟩
 .cases hx.int_inv;cases hy.int_inv;exact SS XU s Y H _ _ v u Q' I rx ry ⟨_,_,Z',Z',q.1,k _ _ _ _ .int hm .refl q.2⟩
 .cases hx.str_inv;cases hy.int_inv;exact P0 XU s Y H _ _ v u Q' I rx ry ⟨_,_,Z',Z',q.1,k _ _ _ _ .str hm .refl q.2⟩
 .cases hx.int_inv;cases hy.int_inv;exact P3 XU s Y H _ _ v u Q' I rx ry ⟨_,_,Z',Z',q.1,k _ _ _ _ .int hm .refl q.2⟩
 .cases hx.int_inv;cases hy.int_inv;exact Sf XU s Y H _ _ v u Q' I rx ry ⟨_,_,Z',Z',q.1,k _ _ _ _ .int hm .refl q.2⟩
 .exact q.elim
variable {a b:Go}
def Ip{f:D->D->Mp->DK->Prop}:∀Y H Q',lo X.K (λU M Q=>ta U M λx M1=>tb U M1 λy M2=>f x y M2 Q) Y H Q'->Uu (R3 X.K f) (lo X.K ta) (lo X.K tb) Y H Q':=λY H Q' zz=>x7 zz λU M Q hs hm ht k=>⟨U,M,_,hs,hm,ht,λv H1 x M1 hx XX e1 q1=>⟨U,M1,_,hs.mono e1,XX,q1,λu H2 y M2 hy X8 e2 q2=>⟨x,y,M2,Q,hx.mono e2,hy,X8,q2,vm (e1.trans e2) k⟩⟩⟩
def qh(ha:E3 X a ta)(hb:E3 X b tb):E3 X (.BinOp a op b pos) (o3 op ta tb):=PE.mono (Rm (Xz op) ha hb) Ip
end
noncomputable def sR(f:D->D->Option Bool):T0 D->T0 D->Option Bool
 | x::a,y::b=>(f x y).bind λp=>(sR f a b).map λq=>p&&q
 | _,_=>ga Db
noncomputable def zA(M:Mp):Nat->D->D->Option Bool
 | 0,_,_=>Fa
 | n+1,x,y=>match x,y with
  | .mK,.mK=>ga Db
  | .bl a,.bl b=>ga (a==b)
  | .int a,.int b=>ga (a==b)
  | .str a,.str b=>ga (a==b)
  | .mK,.bl _=>ga pc
  | .mK,.int _=>ga pc
  | .mK,.str _=>ga pc
  | .bl _,.mK=>ga pc
  | .bl _,.str _=>ga pc
  | .int _,.mK=>ga pc
  | .int _,.str _=>ga pc
  | .str _,.mK=>ga pc
  | .str _,.bl _=>ga pc
  | .str _,.int _=>ga pc
  | .tup a,.tup b=>(sR (zA M n) a b).map λp=>p&&a.length==b.length
  | .ref a,.ref b=>(og M a).bind λi=>(og M b).bind λj=>if i.length=j.length then sR (zA M n) i j else ga pc
  | _,_=>Fa
variable {XU:T0 (Uf × Obj)}{Y:St}{s:Sd}
theorem yY{f:D->D->Option Bool}:∀{ds es:T0 D} {xs:T0 V} {b:Bool},qr X.K H ds xs->qr X.K H es xs->(∀x y v b,rT X.K H x v->rT X.K H y v->f x y=ga b->b=Db)->sR f ds es=ga b->b=Db
 | [],[],_,_,_,_,_,e=>(dw e).symm
 | [],_::_,_,_,h,g,_,_=>by have h1:=h.length;have h2:=g.length;rw[<-h1]at h2;simp at h2
 | _::_,[],_,_,h,g,_,_=>by have h1:=h.length;have h2:=g.length;rw[<-h1]at h2;simp at h2
 | d::ds,e::es,xs,b,h,g,k,q=>by
  obtain⟨x,r,rfl,h1,h2⟩:=h.inv;obtain⟨x',r',e',g1,g2⟩:=g.inv;cases e';unfold sR at q;cases p1:f d e with
  | none=>rw[p1]at q;cases q
  | some b1=>
   rw[p1]at q;cases p2:sR f ds es with
   | none=>rw[p2]at q;cases q
   | some b2=>rw[p2]at q;have q':(b1&&b2)=b:=dw q;rw[<-q',k _ _ _ _ h1 g1 p1,yY h2 g2 k p2];rfl
theorem zQ(I:Inv X XU Y H s)(hm:HM X.K H M):∀(n:Nat) (x y:D) (v:V) (b:Bool),rT X.K H x v->rT X.K H y v->zA M n x y=ga b->b=Db
 | 0,_,_,_,_,_,_,e=>by cases e
 | n+1,x,y,v,b,hx,hy,e=>by
  unfold zA at e;split at e
  .exact(dw e).symm
  .rw[hx.mI]at hy;cases hy.mI;exact(dw e).symm.trans (by simp)
  .rw[hx.int_inv]at hy;cases hy.int_inv;exact(dw e).symm.trans (by simp)
  .rw[hx.str_inv]at hy;cases hy.str_inv;exact(dw e).symm.trans (by simp)
  .rw[hx.mJ]at hy;cases hy.mI
  .rw[hx.mJ]at hy;cases hy.int_inv
  .rw[hx.mJ]at hy;cases hy.str_inv
  .rw[hx.mI]at hy;cases hy.mJ
  .rw[hx.mI]at hy;cases hy.str_inv
  .rw[hx.int_inv]at hy;cases hy.mJ
  .rw[hx.int_inv]at hy;cases hy.str_inv
  .rw[hx.str_inv]at hy;cases hy.mJ
  .rw[hx.str_inv]at hy;cases hy.mI
  .rw[hx.str_inv]at hy;cases hy.int_inv
  .obtain⟨a,xs,rfl,h1,h2⟩:=hx.mO;obtain⟨a',ys,e',g1,g2⟩:=hy.mO;cases e';rw[I.nC g1 h1]at g2;cases p:sR (zA M n) _ _ with
   | none=>rw[p]at e;cases e
   | some b1=>rw[p]at e;have e':=dw e;rw[<-e',yY h2 g2 (zQ I hm n) p,h2.length,g2.length];simp
  .rw[hx.mG]at hy;cases hy.mG;cases p:og M _ with
   | none=>rw[p]at e;cases e
   | some i=>rw[p]at e;have e:(if i.length=i.length then sR (zA M n) i i else ga pc)=ga b:=e;rw[dh Z']at e;obtain⟨xs,_,h2,_⟩:=qk hm p;exact yY h2 h2 (zQ I hm n) e
  .cases e
theorem Ce{A:Ar}:∀{ds es:T0 D} {xs ys:T0 V} {us ws:T0 Vl} {b:Bool},sR f ds es=ga b->qr X.K H ds xs->qr X.K H es ys->qA xs us->qA ys ws->
  (∀x y b vx vy u w,f x y=ga b->rT X.K H x vx->rT X.K H y vy->qM vx u->qM vy w->SeqAt.EqAt A s u w b)->
  ∃e:Nat->Bool,(∀j (h1:j<us.length) (h2:j<ws.length),SeqAt.EqAt A s us[j] ws[j] (e j))/\(List.range (min us.length ws.length)).all e=b
 | [],es,xs,ys,us,ws,b,q,hx,hy,rx,ry,k=>by
  have e1:=hx.nil_inv;subst e1;cases rx;refine⟨λ_=>Db,λj h1=>absurd h1 (by simp),?_⟩;have q':ga Db=ga b:=by cases es<;>exact q
  simpa using(dw q')
 | d::ds,[],xs,ys,us,ws,b,q,hx,hy,rx,ry,k=>by
  have e1:=hy.nil_inv;subst e1;cases ry;refine⟨λ_=>Db,λj _ h2=>absurd h2 (by simp),?_⟩;have q':ga Db=ga b:=q
  simpa using(dw q')
 | d::ds,e::es,xs,ys,us,ws,b,q,hx,hy,rx,ry,k=>by
  obtain⟨x,r,rfl,h1,h2⟩:=hx.inv;obtain⟨y,r',rfl,g1,g2⟩:=hy.inv;cases rx with
  | cons r1 r2=>
   cases ry with
   | cons t1 t2=>
    unfold sR at q;cases p1:f d e with
    | none=>rw[p1]at q;cases q
    | some b1=>
     rw[p1]at q;cases p2:sR f ds es with
     | none=>rw[p2]at q;cases q
     | some b2=>
      rw[p2]at q;have q':(b1&&b2)=b:=dw q;obtain⟨e',he,ha⟩:=Ce p2 h2 g2 r2 t2 k;refine⟨λj=>match j with|0=>b1|j+1=>e' j,λj l1 l2=>?_,?_⟩
      .cases j with
       | zero=>exact k _ _ _ _ _ _ _ p1 h1 g1 r1 t1
       | succ j=>exact he j (by simpa using l1) (by simpa using l2)
      .rw[<-q',<-ha];simp only[eB];rw[Nat.succ_min_succ,List.range_succ_eq_map,fD,mq];rfl
theorem Fe(I:Inv X XU Y H s)(hm:HM X.K H M):∀(n:Nat) (A:Ar) (x y:D) (b:Bool) (vx vy:V) (u w:Vl),A.units+n<wP->zA M n x y=ga b->rT X.K H x vx->rT X.K H y vy->qM vx u->qM vy w->
  SeqAt.RcAt A s u w b/\SeqAt.EqAt A s u w b/\SeqAt.RcNeAt A s u w (!b)
 | 0,_,_,_,_,_,_,_,_,_,e,_,_,_,_=>by cases e
 | n+1,A,x,y,b,vx,vy,u,w,hu,e,hx,hy,rx,ry=>by
  have hu1:A.units<wP:=by lia
  have hui:A.in1.units+n<wP:=by show A.units+1+n<wP;lia
  unfold zA at e;split at e
  .cases hx.mJ;cases hy.mJ;cases rx;cases ry;cases e;exact⟨.none_none,.same _,.none_none⟩
  .cases hx.mI;cases hy.mI;cases rx;cases ry;cases e;exact⟨.bool_bool _ _,.bool_bool _ _,.bool_bool _ _⟩
  .cases hx.int_inv;cases hy.int_inv;obtain⟨t,rfl⟩:=rx;obtain⟨t',rfl⟩:=ry;cases e;exact⟨.int_int _ _ _ _,.int_int _ _ _ _,.int_int _ _ _ _⟩
  .cases hx.str_inv;cases hy.str_inv;obtain⟨t,rfl⟩:=rx;obtain⟨t',rfl⟩:=ry;cases e;exact⟨.str_str _ _ _ _,.str_str _ _ _ _,.str_str _ _ _ _⟩
  .cases hx.mJ;cases hy.mI;cases rx;cases ry;cases e;exact⟨.none_bool _,.none_bool _,.none_bool _⟩
  .cases hx.mJ;cases hy.int_inv;cases rx;obtain⟨t',rfl⟩:=ry;cases e;exact⟨.none_int _ _,.none_int _ _,.none_int _ _⟩
  .cases hx.mJ;cases hy.str_inv;cases rx;obtain⟨t',rfl⟩:=ry;cases e;exact⟨.none_str _ _,.none_str _ _,.none_str _ _⟩
  .cases hx.mI;cases hy.mJ;cases rx;cases ry;cases e;exact⟨.bool_none _,.bool_none _,.bool_none _⟩
  .cases hx.mI;cases hy.str_inv;cases rx;obtain⟨t',rfl⟩:=ry;cases e;exact⟨.bool_str _ _ _,.bool_str _ _ _,.bool_str _ _ _⟩
  .cases hx.int_inv;cases hy.mJ;obtain⟨t,rfl⟩:=rx;cases ry;cases e;exact⟨.int_none _ _,.int_none _ _,.int_none _ _⟩
  .cases hx.int_inv;cases hy.str_inv;obtain⟨t,rfl⟩:=rx;obtain⟨t',rfl⟩:=ry;cases e;exact⟨.int_str _ _ _ _,.int_str _ _ _ _,.int_str _ _ _ _⟩
  .cases hx.str_inv;cases hy.mJ;obtain⟨t,rfl⟩:=rx;cases ry;cases e;exact⟨.str_none _ _,.str_none _ _,.str_none _ _⟩
  .cases hx.str_inv;cases hy.mI;obtain⟨t,rfl⟩:=rx;cases ry;cases e;exact⟨.str_bool _ _ _,.str_bool _ _ _,.str_bool _ _ _⟩
  .cases hx.str_inv;cases hy.int_inv;obtain⟨t,rfl⟩:=rx;obtain⟨t',rfl⟩:=ry;cases e;exact⟨.str_int _ _ _ _,.str_int _ _ _ _,.str_int _ _ _ _⟩
  .rename_i da db;obtain⟨a1,xs,rfl,h1,h2⟩:=hx.mO;obtain⟨a2,ys,rfl,g1,g2⟩:=hy.mO;cases rx;cases ry;obtain⟨us,r1,p1,_⟩:=I.tuple h1;obtain⟨ws,r2,p2,_⟩:=I.tuple g1;cases p:sR (zA M n) da db with
   | none=>rw[p]at e;cases e
   | some b1=>
    have e0:=e;rw[p]at e;have e':(b1&&da.length==db.length)=b:=dw e;obtain⟨f,hf,ha⟩:=Ce (A:=A.in1) (s:=s) p h2 g2 r1 r2 λx y b vx vy u w q1 q2 q3 q4 q5=>(Fe I hm n A.in1 x y b vx vy u w hui q1 q2 q3 q4 q5).2.1;have hb:((List.range (min us.toArray.size ws.toArray.size)).all f&&us.toArray.size==ws.toArray.size)=b:=by rw[dB,dB,ha,<-e',<-r1.length,<-r2.length,h2.length,g2.length]
    have hf':∀j (l1:j<us.toArray.size) (l2:j<ws.toArray.size),SeqAt.EqAt A.in1 s us.toArray[j] ws.toArray[j] (f j):=λj l1 l2=>by simpa using hf j (by simpa using l1) (by simpa using l2)
    have c1:SeqAt.RcAt A s (.ref a1) (.ref a2) b:=by rw[<-hb];exact .tuples p1 p2 hu1 hf'
    have c3:SeqAt.RcNeAt A s (.ref a1) (.ref a2) (!b):=by have:=SeqAt.RcNeAt.tuples p1 p2 hu1 hf';rw[hb]at this;exact this
    refine⟨c1,?_,c3⟩;by_cases ea:a1=a2
    .subst ea;have:b=Db:=zQ I hm (n+1) (.tup da) (.tup db) (.ref a1) b hx hy (by unfold zA;exact e0);rw[this];exact .same _
    .exact .of_refs ea c1
  .cases hx.mG;cases hy.mG;cases rx;cases ry;rename_i a1 a2;have e0:=e;cases p:og M a1 with
   | none=>rw[p]at e;cases e
   | some i=>
    cases p':og M a2 with
    | none=>rw[p,p']at e;cases e
    | some j=>
     rw[p,p']at e;have e:(if i.length=j.length then sR (zA M n) i j else ga pc)=ga b:=e;obtain⟨xs,q1,h2,_⟩:=qk hm p;obtain⟨ys,q2,g2,_⟩:=qk hm p';obtain⟨us,r1,p1,_⟩:=I.list q1;obtain⟨ws,r2,p2,_⟩:=I.list q2;have X0:SeqAt.RcAt A s (.ref a1) (.ref a2) b/\SeqAt.RcNeAt A s (.ref a1) (.ref a2) (!b):=by
      by_cases hl:i.length=j.length
      .rw[dh hl]at e;obtain⟨f,hf,ha⟩:=Ce (A:=A.in1) (s:=s) e h2 g2 r1 r2 λx y b vx vy u w q1 q2 q3 q4 q5=>(Fe I hm n A.in1 x y b vx vy u w hui q1 q2 q3 q4 q5).2.1;have hsz:us.toArray.size=ws.toArray.size:=by rw[dB,dB,<-r1.length,<-r2.length,<-h2.length,<-g2.length];exact hl
       have hf':∀j (l1:j<us.toArray.size) (l2:j<ws.toArray.size),SeqAt.EqAt A.in1 s us.toArray[j] ws.toArray[j] (f j):=λj l1 l2=>by simpa using hf j (by simpa using l1) (by simpa using l2)
       have hb:(List.range us.toArray.size).all f=b:=by rw[<-ha];rw[dB,dB]at hsz;rw[dB,<-hsz,gI]
       rw[<-hb];exact⟨.lists p1.isList p2.isList hsz hu1 hf',.lists p1.isList p2.isList hsz hu1 hf'⟩
      .rw[dg hl]at e;cases e;have hsz:(us.toArray.size != ws.toArray.size)=Db:=by
        rw[dB,dB,<-r1.length,<-r2.length,<-h2.length,<-g2.length]
        simpa using hl
       exact⟨.lists_lengths p1.isList p2.isList hsz hu1,.lists_lengths p1.isList p2.isList hsz hu1⟩
     refine⟨X0.1,?_,X0.2⟩;by_cases ea:a1=a2
     .subst ea;have:b=Db:=zQ I hm (n+1) (.ref a1) (.ref a1) (.ref a1) b .ref .ref (by unfold zA;exact e0);rw[this];exact .same _
     .exact .of_refs ea X0.1
  .cases e
noncomputable def uX:D->Bool
 | .mK=>Db
 | .bl _=>Db
 | .int _=>Db
 | .str _=>Db
 | _=>pc
noncomputable def Px:D->D->Bool
 | .mK,.mK=>Db
 | .bl a,.bl b=>a==b
 | .bl a,.int b=>(if a then 1 else 0)==b
 | .int a,.bl b=>a==(if b then 1 else 0)
 | .int a,.int b=>a==b
 | .str a,.str b=>a==b
 | _,_=>pc
noncomputable def inD(x:D)(ds:T0 D):Bool:=ds.any λy=>Px y x
noncomputable def Os(M:Mp):D->Option (T0 D)
 | .tup ds=>ga ds
 | .ref a=>og M a
 | .rl ds=>ga ds
 | _=>Fa
noncomputable def Dq(i j:Str):Bool:=!(Builtin.Str.occurrences j i 0 j.length 1).isEmpty
def TK(Zv:Bool)(x y:D)(M:Mp)(Q:DK):Prop:=match x,y with
 | .str i,.str j=>Q (.bl (if Zv then !Dq i j else Dq i j)) M
 | _,_=>(Os M y).elim False λds=>uX x=Db/\ds.all uX=Db/\Q (.bl (if Zv then !inD x ds else inD x ds)) M
def Qn(op:CmpOp)(x y:D)(M:Mp)(Q:DK):Prop:=match op with
 | .Eq=>(zA M 9 x y).elim False λb=>Q (.bl b) M
 | .NotEq=>(zA M 9 x y).elim False λb=>Q (.bl (!b)) M
 | .Lt=>match x,y with|.int i,.int j=>Q (.bl (decide (i<j))) M|_,_=>False
 | .LtE=>match x,y with|.int i,.int j=>Q (.bl (decide (i<=j))) M|_,_=>False
 | .Gt=>match x,y with|.int i,.int j=>Q (.bl (decide (j<i))) M|_,_=>False
 | .GtE=>match x,y with|.int i,.int j=>Q (.bl (decide (j<=i))) M|_,_=>False
 | .Is=>match y with|.mK=>Q (.bl (match x with|.mK=>Db|_=>pc)) M|_=>False
 | .IsNot=>match y with|.mK=>Q (.bl (match x with|.mK=>pc|_=>Db)) M|_=>False
 | .In=>TK pc x y M Q
 | .NotIn=>TK Db x y M Q
def k3(op:CmpOp)(ta tb:T3):T3:=λU M Q=>ta U M λx M1=>tb U M1 λy M2=>Qn op x y M2 Q
def zT(h:rT K H d v)(f:uX d=Db):yR v=Db:=by
 cases d with
 | mK=>rw[h.mJ];rfl
 | bl _=>rw[h.mI];rfl
 | int _=>rw[h.int_inv];rfl
 | str _=>rw[h.str_inv];rfl
 | _=>cases f
def JD(h:rT K H d v)(g:rT K H e w)(f:uX d=Db)(f':uX e=Db):OF v w=Px d e:=by
 cases d with
 | mK=>
  rw[h.mJ];cases e with
  | mK=>rw[g.mJ];rfl
  | bl _=>rw[g.mI];rfl
  | int _=>rw[g.int_inv];rfl
  | str _=>rw[g.str_inv];rfl
  | _=>cases f'
 | bl _=>
  rw[h.mI];cases e with
  | mK=>rw[g.mJ];rfl
  | bl _=>rw[g.mI];rfl
  | int _=>rw[g.int_inv];rfl
  | str _=>rw[g.str_inv];rfl
  | _=>cases f'
 | int _=>
  rw[h.int_inv];cases e with
  | mK=>rw[g.mJ];rfl
  | bl _=>rw[g.mI];rfl
  | int _=>rw[g.int_inv];rfl
  | str _=>rw[g.str_inv];rfl
  | _=>cases f'
 | str _=>
  rw[h.str_inv];cases e with
  | mK=>rw[g.mJ];rfl
  | bl _=>rw[g.mI];rfl
  | int _=>rw[g.int_inv];rfl
  | str _=>rw[g.str_inv];rfl
  | _=>cases f'
 | _=>cases f
theorem E9:∀{ds:T0 D} {xs:T0 V},qr K H ds xs->ds.all uX=Db->xs.all yR=Db
 | [],_,h,_=>by rw[h.nil_inv];rfl
 | d::ds,_,h,f=>by obtain⟨x,r,rfl,h1,h2⟩:=h.inv;rw[fD,d6]at f ⊢;exact⟨zT h1 f.1,E9 h2 f.2⟩
theorem Oo(g:rT K H e w)(f':uX e=Db):∀{ds:T0 D} {xs:T0 V},qr K H ds xs->ds.all uX=Db->inV w xs=inD e ds
 | [],_,h,_=>by rw[h.nil_inv];rfl
 | d::ds,_,h,f=>by obtain⟨x,r,rfl,h1,h2⟩:=h.inv;rw[fD,d6]at f;show(OF x w||inV w r)=(Px d e||inD e ds);rw[JD h1 g f.1 f',Oo g f' h2 f.2]
def FV(hm:HM K H M){y:D}{v:V}{ds:T0 D}(h:rT K H y v)(q:Os M y=ga ds):∃p xs,v=.ref p/\(xR K H p xs\/vH K H p xs)/\qr K H ds xs:=by
 cases y with
 | tup es=>cases q;obtain⟨a,xs,rfl,h1,h2⟩:=h.mO;exact⟨a,xs,Z',.inr h1,h2⟩
 | ref a=>cases h.mG;obtain⟨xs,h1,h2,_⟩:=qk hm q;exact⟨a,xs,Z',.inl h1,h2⟩
 | rl es=>cases q;obtain⟨a,xs,rfl,h1,h2⟩:=h.mY;exact⟨a,xs,Z',.inl h1.sq,h2⟩
 | _=>cases q
variable {c:Go}{tc:T3}
section
def KA(op:CmpOp)(hu:X.A.units+9<wP):x8 X (Op op) (R3 X.K (Qn op)):=by
 intro XU s Y H vx vy v u Q' I rx ry h;obtain⟨x,y,M,Q,hx,hy,hm,q,k⟩:=h;have bk:∀b,Q (.bl b) M->EP X XU Y Q' (.bool b) s:=λb q=>⟨.bl b,H,I,Z',k _ _ _ _ .bl hm .refl q⟩;have inn:∀Zv:Bool,((Os M y).elim False λds=>uX x=Db/\ds.all uX=Db/\Q (.bl (if Zv then !inD x ds else inD x ds)) M)->Xg X.K Zv vx vy H Q':=λZv q=>by obtain⟨ds,e,f1,f2,q⟩:=qJ q;obtain⟨p,xs,rfl,h1,h2⟩:=FV hm hy e;refine⟨p,xs,Z',h1,zT hx f1,E9 h2 f2,?_⟩;rw[Oo hx f1 h2 f2];exact k _ _ _ _ .bl hm .refl q
 cases op with
 | Eq=>obtain⟨b,e,q⟩:=qJ q;exact(Fe I hm 9 X.A x y b vx vy v u hu e hx hy rx ry).1 _ _ _ _ (bk b q)
 | NotEq=>obtain⟨b,e,q⟩:=qJ q;exact(Fe I hm 9 X.A x y b vx vy v u hu e hx hy rx ry).2.2 _ _ _ _ (bk _ q)
 | Lt=>
  cases x<;>first|exact q.elim|skip
  cases y<;>first|exact q.elim|skip
  cases hx.int_inv;cases hy.int_inv;exact Vx XU s Y H _ _ v u Q' I rx ry ⟨_,_,Z',Z',k _ _ _ _ .bl hm .refl q⟩
 | LtE=>
  cases x<;>first|exact q.elim|skip
  cases y<;>first|exact q.elim|skip
  cases hx.int_inv;cases hy.int_inv;exact UW XU s Y H _ _ v u Q' I rx ry ⟨_,_,Z',Z',k _ _ _ _ .bl hm .refl q⟩
 | Gt=>
  cases x<;>first|exact q.elim|skip
  cases y<;>first|exact q.elim|skip
  cases hx.int_inv;cases hy.int_inv;exact VL XU s Y H _ _ v u Q' I rx ry ⟨_,_,Z',Z',k _ _ _ _ .bl hm .refl q⟩
 | GtE=>
  cases x<;>first|exact q.elim|skip
  cases y<;>first|exact q.elim|skip
  cases hx.int_inv;cases hy.int_inv;exact VF XU s Y H _ _ v u Q' I rx ry ⟨_,_,Z',Z',k _ _ _ _ .bl hm .refl q⟩
 | Is=>
  cases y<;>first|exact q.elim|skip
  cases hy.mJ;refine R9 XU s Y H _ _ v u Q' I rx ry ⟨Z',k _ _ _ _ ?_ hm .refl q⟩;cases x with
  | mK=>rw[hx.mJ];exact .bl
  | bl _=>rw[hx.mI];exact .bl
  | int _=>rw[hx.int_inv];exact .bl
  | str _=>rw[hx.str_inv];exact .bl
  | tup _=>obtain⟨a,xs,rfl,_⟩:=hx.mO;exact .bl
  | ref _=>rw[hx.mG];exact .bl
  | ty _=>rw[hx.nQ];exact .bl
  | rl _=>obtain⟨a,xs,rfl,_⟩:=hx.mY;exact .bl
 | IsNot=>
  cases y<;>first|exact q.elim|skip
  cases hy.mJ;refine P6 XU s Y H _ _ v u Q' I rx ry ⟨Z',k _ _ _ _ ?_ hm .refl q⟩;cases x with
  | mK=>rw[hx.mJ];exact .bl
  | bl _=>rw[hx.mI];exact .bl
  | int _=>rw[hx.int_inv];exact .bl
  | str _=>rw[hx.str_inv];exact .bl
  | tup _=>obtain⟨a,xs,rfl,_⟩:=hx.mO;exact .bl
  | ref _=>rw[hx.mG];exact .bl
  | ty _=>rw[hx.nQ];exact .bl
  | rl _=>obtain⟨a,xs,rfl,_⟩:=hx.mY;exact .bl
 | In=>
  have q:TK pc x y M Q:=q;unfold TK at q;split at q
  .cases hx.str_inv;cases hy.str_inv;exact Kt XU s Y H _ _ v u Q' I rx ry ⟨_,_,Z',Z',k _ _ _ _ .bl hm .refl q⟩
  .exact Lh XU s Y H _ _ v u Q' I rx ry (inn pc q)
 | NotIn=>
  have q:TK Db x y M Q:=q;unfold TK at q;split at q
  .cases hx.str_inv;cases hy.str_inv;exact EE XU s Y H _ _ v u Q' I rx ry ⟨_,_,Z',Z',k _ _ _ _ .bl hm .refl q⟩
  .exact Fg XU s Y H _ _ v u Q' I rx ry (inn Db q)
variable {a b:Go}
def qv{op:CmpOp}(hu:X.A.units+9<wP)(ha:E3 X a ta)(hb:E3 X b tb)(hm:AT op b=pc:=by first|exact IJ _|with_unfolding_all rfl):E3 X (.Compare a [op] [b] pos) (k3 op ta tb):=PE.mono (IY (KA op hu) ha hb hm) Ip
def b3(t:T3):AK:=λU M Q=>t U M λd M1=>match d with|.bl c=>Q c M1|_=>False
def uB(h:E3 X e t)(he:∀Ys,isTrue e X.env Ys=(do let v<-Ys;Y' e.pos;Ix [v] (truthy v)):=by intro _;rfl):B3 X e (b3 t):=PT.mono (RS h he) λY H Q' zz=>x7 zz λU M Q hs hm ht k=>
 ⟨U,M,_,hs,hm,ht,λv H1 d M1 hd XX e1 q1=>by
  cases d with
  | bl c=>exact⟨c,hd.mI,k c H1 M1 XX e1 q1⟩
  | _=>exact q1.elim⟩
def pL{op:CmpOp}(hu:X.A.units+9<wP)(ha:E3 X a ta)(hb:E3 X b tb)(hm:AT op b=pc:=by first|exact IJ _|with_unfolding_all rfl):B3 X (.Compare a [op] [b] pos) (b3 (k3 op ta tb)):=PT.mono (JE (KA op hu) ha hb hm) λY H Q' zz=>x7 zz λU M Q hs hm ht k=>
 Ip Y H _ ⟨U,M,_,hs,hm,ht,λv H1 d M1 hd XX e1 q1=>by
  cases d with
  | bl c=>exact⟨c,hd.mI,k c H1 M1 XX e1 q1⟩
  | _=>exact q1.elim⟩
end
variable {tA tB:AK}{rest:T0 Go}
section
variable {a b:Go}
def Pp(t u:AK):AK:=λU M Q=>t U M λc M1=>if c=Db then u U M1 Q else Q pc M1
def XD(t u:AK):AK:=λU M Q=>t U M λc M1=>if c=Db then Q Db M1 else u U M1 Q
def Uy(t:AK):AK:=λU M Q=>t U M λc M1=>Q (!c) M1
def W3(X:Cx)(e:Go)(t:AK):Prop:=PW X e (Ub X.K t)
def PW.mono{t t':TT}(h:PW X e t)(m:∀Y H Q,t' Y H Q->t Y H Q):PW X e t':=λwh XU s Y H Q I q=>h wh XU s Y H Q I (m Y H Q q)
def W3.b3(h:W3 X e t):B3 X e t:=PW.pt h
def yA(h:B3 X a tA):W3 X (.BoolOp .And [a] pos) tA:=Q1 h
def wb(h:B3 X a tA):W3 X (.BoolOp .Or [a] pos) tA:=Sb h
def yT(ha:B3 X a tA)(hb:W3 X (.BoolOp .And (b::rest) pos) tB):W3 X (.BoolOp .And (a::b::rest) pos) (Pp tA tB):=PW.mono (RV ha hb) λY H Q' zz=>x7 zz λU M Q hs hm ht k=>
 ⟨U,M,_,hs,hm,ht,λc H1 M1 XX e1 q1=>by
  cases c with
  | true=>exact(dh Z').mpr ⟨U,M1,Q,hs.mono e1,XX,(dh Z').mp q1,λb H' M' x1 x2 x3=>k b H' M' x1 (e1.trans x2) x3⟩
  | false=>exact(dg dD).mpr (k pc H1 M1 XX e1 ((dg dD).mp q1))⟩
def xF(ha:B3 X a tA)(hb:W3 X (.BoolOp .Or (b::rest) pos) tB):W3 X (.BoolOp .Or (a::b::rest) pos) (XD tA tB):=PW.mono (Vg ha hb) λY H Q' zz=>x7 zz λU M Q hs hm ht k=>
 ⟨U,M,_,hs,hm,ht,λc H1 M1 XX e1 q1=>by
  cases c with
  | true=>exact(dh Z').mpr (k Db H1 M1 XX e1 ((dh Z').mp q1))
  | false=>exact(dg dD).mpr ⟨U,M1,Q,hs.mono e1,XX,(dg dD).mp q1,λb H' M' x1 x2 x3=>k b H' M' x1 (e1.trans x2) x3⟩⟩
def vF(ha:B3 X a tA):B3 X (.UnaryOp .Not a pos) (Uy tA):=PT.mono (Tt ha) λY H Q' zz=>x7 zz λU M Q hs hm ht k=>⟨U,M,_,hs,hm,ht,λc H1 M1 XX e1 q1=>k _ H1 M1 XX e1 q1⟩
def UD(ta tb:T3):T3:=λU M Q=>ta U M λd M1=>match d with|.bl c=>if c=Db then tb U M1 Q else Q (.bl pc) M1|_=>False
def Wj(ta tb:T3):T3:=λU M Q=>ta U M λd M1=>match d with|.bl c=>if c=Db then Q (.bl Db) M1 else tb U M1 Q|_=>False
def UJ(ta:T3):T3:=λU M Q=>ta U M λd M1=>match d with|.bl c=>Q (.bl (!c)) M1|_=>False
def sL{op}(h:E3 X a ta):E3 X (.BoolOp op [a] pos) ta:=SW h
def sW(ha:E3 X a ta)(hb:E3 X (.BoolOp .And (b::rest) pos) tb):E3 X (.BoolOp .And (a::b::rest) pos) (UD ta tb):=PE.mono (Tc ha hb) λY H Q' zz=>x7 zz λU M Q hs hm ht k=>
 ⟨U,M,_,hs,hm,ht,λv H1 d M1 hd XX e1 q1=>by
  cases d with
  | bl c=>
   refine⟨c,hd.mI,?_⟩;cases c with
   | true=>exact(dh Z').mpr ⟨U,M1,Q,hs.mono e1,XX,(dh Z').mp q1,vm e1 k⟩
   | false=>exact(dg dD).mpr (k _ H1 _ M1 .bl XX e1 ((dg dD).mp q1))
  | _=>exact q1.elim⟩
def IT(ha:E3 X a ta)(hb:E3 X (.BoolOp .Or (b::rest) pos) tb):E3 X (.BoolOp .Or (a::b::rest) pos) (Wj ta tb):=PE.mono (Vt ha hb) λY H Q' zz=>x7 zz λU M Q hs hm ht k=>
 ⟨U,M,_,hs,hm,ht,λv H1 d M1 hd XX e1 q1=>by
  cases d with
  | bl c=>
   refine⟨c,hd.mI,?_⟩;cases c with
   | true=>exact(dh Z').mpr (k _ H1 _ M1 .bl XX e1 ((dh Z').mp q1))
   | false=>exact(dg dD).mpr ⟨U,M1,Q,hs.mono e1,XX,(dg dD).mp q1,vm e1 k⟩
  | _=>exact q1.elim⟩
def MT(ha:E3 X a ta):E3 X (.UnaryOp .Not a pos) (UJ ta):=PE.mono (Tu ha) λY H Q' zz=>x7 zz λU M Q hs hm ht k=>
 ⟨U,M,_,hs,hm,ht,λv H1 d M1 hd XX e1 q1=>by
  cases d with
  | bl c=>exact⟨c,hd.mI,k _ H1 _ M1 .bl XX e1 q1⟩
  | _=>exact q1.elim⟩
def XH(t:AK)(ta tb:T3):T3:=λU M Q=>t U M λc M1=>if c=Db then ta U M1 Q else tb U M1 Q
def J9(hc:B3 X c tA)(ha:E3 X a ta)(hb:E3 X b tb):E3 X (.IfExp c a b pos) (XH tA ta tb):=PE.mono (LY hc ha hb) λY H Q' zz=>x7 zz λU M Q hs hm ht k=>
 ⟨U,M,_,hs,hm,ht,λc H1 M1 XX e1 q1=>by
  cases c with
  | true=>exact(dh Z').mpr ⟨U,M1,Q,hs.mono e1,XX,(dh Z').mp q1,vm e1 k⟩
  | false=>exact(dg dD).mpr ⟨U,M1,Q,hs.mono e1,XX,(dg dD).mp q1,vm e1 k⟩⟩
def WQ(x y:D)(M:Mp)(Q:DK):Prop:=match x,y with
 | .tup ds,.int i=>(wu ds i).elim False λd=>Q d M
 | .ref a,.int i=>(og M a).elim False λds=>(wu ds i).elim False λd=>Q d M
 | .rl ds,.int i=>(wu ds i).elim False λd=>Q d M
 | .str z,.int i=>z.length<=Ch/\(wu z.cps.toList i).elim False λc=>Q (.str ⟨#[c]⟩) M
 | _,_=>False
def i3(ta tb:T3):T3:=λU M Q=>ta U M λx M1=>tb U M1 λy M2=>WQ x y M2 Q
def EH{K:qy}{d:D}(h:qr K H ds xs)(e:wu ds i=ga d):∃v,wu xs i=ga v/\rT K H d v:=by
 unfold wu at e ⊢;rw[<-h.length];cases q:F8 ds.length i with
 | none=>rw[q]at e;cases e
 | some j=>rw[q]at e;exact h.get e
def XT:Uc X (R3 X.K WQ):=by
 intro value X7 XU s Y H vx vy v u Q' I rx ry h hs;obtain⟨x,y,M,Q,hx,hy,hm,q,k⟩:=h;unfold WQ at q;split at q
 .obtain⟨d,e,q⟩:=qJ q;obtain⟨p,xs,rfl,h1,h2⟩:=hx.mO;cases hy.int_inv;obtain⟨w,e1,e2⟩:=EH h2 e;exact SX value X7 XU s Y H _ _ v u Q' I rx ry ⟨p,xs,_,w,Z',Z',h1,e1,k _ _ _ _ e2 hm .refl q⟩ hs
 .obtain⟨ds,e0,q⟩:=qJ q;obtain⟨d,e,q⟩:=qJ q;cases hx.mG;cases hy.int_inv;obtain⟨xs,h1,h2,_⟩:=qk hm e0;obtain⟨w,e1,e2⟩:=EH h2 e;exact Jl value X7 XU s Y H _ _ v u Q' I rx ry ⟨_,xs,_,w,Z',Z',h1,e1,k _ _ _ _ e2 hm .refl q⟩ hs
 .obtain⟨d,e,q⟩:=qJ q;obtain⟨p,xs,rfl,h1,h2⟩:=hx.mY;cases hy.int_inv;obtain⟨w,e1,e2⟩:=EH h2 e;exact Jl value X7 XU s Y H _ _ v u Q' I rx ry ⟨p,xs,_,w,Z',Z',h1.sq,e1,k _ _ _ _ e2 hm .refl q⟩ hs
 .obtain⟨q1,q⟩:=q;obtain⟨c,e,q⟩:=qJ q;cases hx.str_inv;cases hy.int_inv;exact Sm value X7 XU s Y H _ _ v u Q' I rx ry ⟨_,_,c,Z',Z',q1,e,k _ _ _ _ .str hm .refl q⟩ hs
 .exact q.elim
def pN(ha:E3 X a ta)(hb:E3 X b tb)(hs:BA b:=by exact λ_ _=>rfl):E3 X (.Subscript a b pos) (i3 ta tb):=PE.mono (Ox XT ha hb hs) Ip
noncomputable def uZ(ds:T0 D)(lo hi:Option Int):T0 D:=(ds.drop (HT.tE ds.length 0 lo)).take (HT.tE ds.length ds.length hi - HT.tE ds.length 0 lo)
def FM{K:qy}(q:qr K H ds xs):qr K H (uZ ds l h) (Cq xs l h):=by unfold uZ Cq;rw[q.length];exact(q.drop _).take _
abbrev Ug:=vp->Mp->(Option Int->Mp->Prop)->Prop
def XS(K:qy)(t:Ug):TO:=λY H Q'=>C5 λU M Q=>Ac K H Y U/\HM K H M/\t U M Q/\∀o H' M',HM K H' M'->qV K H H'->Q o M'->Q' o H'
def O3(X:Cx)(e:Option Go)(t:Ug):Prop:=PO X e (XS X.K t)
def O5:Ug:=λ_ M Q=>Q Fa M
def Uk(t:T3):Ug:=λU M Q=>t U M λd M1=>match d with|.int i=>Q (ga i) M1|_=>False
def PO.mono{t t':TO}(h:PO X e t)(m:∀Y H Q,t' Y H Q->t Y H Q):PO X e t':=λXU s Y H Q I q=>h XU s Y H Q I (m Y H Q q)
def tz:O3 X Fa O5:=PO.mono Qz λY H Q' zz=>x7 zz λU M Q hs hm ht k=>k Fa H M hm .refl ht
def tj(h:E3 X e t):O3 X (ga e) (Uk t):=PO.mono (Ph h) λY H Q' zz=>x7 zz λU M Q hs hm ht k=>
 ⟨U,M,_,hs,hm,ht,λv H1 d M1 hd XX e1 q1=>by
  cases d with
  | int i=>exact⟨i,hd.int_inv,k (ga i) H1 M1 XX e1 q1⟩
  | _=>exact q1.elim⟩
def Xh(x:D)(lo hi:Option Int)(M:Mp)(Q:DK):Prop:=match x with
 | .tup ds=>Q (.tup (uZ ds lo hi)) M
 | .ref a=>(og M a).elim False λds=>∀p,M p=Fa->Q (.ref p) (pI M p (.lst (uZ ds lo hi)))
 | .rl ds=>∀p,M p=Fa->Q (.ref p) (pI M p (.lst (uZ ds lo hi)))
 | _=>False
def s3(te:T3)(tl th:Ug):T3:=λU M Q=>te U M λx M1=>tl U M1 λl M2=>th U M2 λu M3=>Xh x l u M3 Q
def WG(K:qy):V->Option Int->Option Int->Hp->VK->Prop:=λvx l u H Q'=>C5 λx M Q=>rT K H x vx/\HM K H M/\Xh x l u M Q/\Up K H Q' Q
def Py{ds:T0 D}{lo hi:Option Int}(h:HT.tE ds.length 0 lo=0/\HT.tE ds.length ds.length hi=ds.length):uZ ds lo hi=ds:=by unfold uZ;rw[h.1,h.2,kh,kY,fK]
def W9:Va X (WG X.K):=by
 intro XU s Y H vx v vl vu l u sl Q' I rx hsl pl pu h;obtain⟨x,M,Q,hx,hm,q,k⟩:=h;cases x with
 | tup ds=>
  have q2:Q (.tup (uZ ds l u)) M:=q;obtain⟨a,xs,rfl,h1,h2⟩:=hx.mO;by_cases q1:HT.tE ds.length 0 l=0/\HT.tE ds.length ds.length u=ds.length
  .rw[Py q1]at q2;exact Tn XU s Y H _ v vl vu l u sl Q' I rx hsl pl pu ⟨a,xs,Z',h1,by rw[<-h2.length];exact q1,k _ _ _ _ hx hm .refl q2⟩
  refine RU XU s Y H _ v vl vu l u sl Q' I rx hsl pl pu ⟨a,xs,Z',h1,by rw[<-h2.length];exact q1,λp hp=>?_⟩;have e:qV X.K H (upd H p (.tup (Cq xs l u))):=.new hp;exact k _ _ _ _ (.tup (.of qg) ((FM h2).mono e)) (hm.add hp) e q2
 | ref a=>obtain⟨ds,e0,q⟩:=qJ q;cases hx.mG;obtain⟨xs,h1,h2,_⟩:=qk hm e0;refine JB XU s Y H _ v vl vu l u sl Q' I rx hsl pl pu ⟨a,xs,Z',h1,λp hp=>?_⟩;have e:qV X.K H (upd H p (.lst (Cq xs l u))):=.new hp;exact k _ _ _ _ .ref (hm.new (c:=.lst (uZ ds l u)) hp ⟨_,qg,(FM h2).mono e⟩) e (q p (hm.fresh hp))
 | rl ds=>obtain⟨a,xs,rfl,h1,h2⟩:=hx.mY;refine JB XU s Y H _ v vl vu l u sl Q' I rx hsl pl pu ⟨a,xs,Z',h1.sq,λp hp=>?_⟩;have e:qV X.K H (upd H p (.lst (Cq xs l u))):=.new hp;exact k _ _ _ _ .ref (hm.new (c:=.lst (uZ ds l u)) hp ⟨_,qg,(FM h2).mono e⟩) e (q p (hm.fresh hp))
 | _=>exact q.elim
def sE{lo hi:Option Go}{p2:Pos}(he:E3 X e te)(hl:O3 X lo tl)(hu:O3 X hi th):E3 X (.Subscript e (.Slice lo hi Fa p2) pos) (s3 te tl th):=PE.mono (MK W9 he hl hu) λY H Q' zz=>x7 zz λU M Q hs hm ht k=>⟨U,M,_,hs,hm,ht,λv H1 x M1 hx XX e1 q1=>⟨U,M1,_,hs.mono e1,XX,q1,λl H2 M2 X8 e2 q2=>⟨U,M2,_,hs.mono (e1.trans e2),X8,q2,λu H3 M3 Yq e3 q3=>⟨x,M3,Q,hx.mono (e2.trans e3),Yq,q3,vm (e1.trans (e2.trans e3)) k⟩⟩⟩⟩
def xA:xE:=λ_ M Q=>Q [] M
def vw(ta:T3)(tr:xE):xE:=λU M Q=>ta U M λx M1=>tr U M1 λxs M2=>Q (x::xs) M2
def sd:A3 X [] xA:=PA.mono SV λY H Q' zz=>x7 zz λU M Q hs hm ht k=>k [] H [] M .nil hm .refl ht
def qc(ha:E3 X e te)(hr:A3 X es t)(hs:By X e es:=by rfl):A3 X (e::es) (vw te t):=PA.mono (OR ha hr hs) λY H Q' zz=>x7 zz λU M Q hs hm ht k=>⟨U,M,_,hs,hm,ht,λv H1 x M1 hx XX e1 q1=>⟨U,M1,_,hs.mono e1,XX,q1,λvs H2 xs M2 hxs X8 e2 q2=>k _ H2 _ M2 (.cons (hx.mono e2) hxs) X8 (e1.trans e2) q2⟩⟩
def Wt(t:xE):T3:=λU M Q=>t U M λds M1=>ds.length<=Ch/\Q (.tup ds) M1
def UO(t:xE):T3:=λU M Q=>t U M λds M1=>ds.length<=Ch/\∀p,M1 p=Fa->Q (.ref p) (pI M1 p (.lst ds))
def pT{x1}(h:A3 X es t):E3 X (.Tuple es x1 pos) (Wt t):=PE.mono (RP h) λY H Q' zz=>x7 zz λU M Q hs hm ht k=>
 ⟨U,M,_,hs,hm,ht,λvs H1 ds M1 Za XX e1 q1=>⟨by rw[<-Za.length];exact q1.1,λp hp=>by
  have e:qV X.K H1 (upd H1 p (.tup vs)):=.new hp;exact k _ _ _ M1 (.tup (.of qg) (Za.mono e)) (XX.add hp) (e1.trans e) q1.2⟩⟩
def qP(h:A3 X es t):E3 X (.List es pos) (UO t):=PE.mono (SQ h) λY H Q' zz=>x7 zz λU M Q hs hm ht k=>
 ⟨U,M,_,hs,hm,ht,λvs H1 ds M1 Za XX e1 q1=>⟨by rw[<-Za.length];exact q1.1,λp hp=>by
  have e:qV X.K H1 (upd H1 p (.lst vs)):=.new hp;exact k _ _ _ _ .ref (XX.new (c:=.lst ds) hp ⟨_,qg,Za.mono e⟩) (e1.trans e) (q1.2 p (XX.fresh hp))⟩⟩
def uE(t u:xG):xG:=λD U M=>t {D with nx:=u D} U M
def Xr:xG:=λD U M=>D.nx U M
def pP:Hu X [] Xr:=Cb.mono OJ λD' Y H zz=>J0 zz λU M D hs hm ht k1 k2 k3 k4=>k1 Y H U M hs hm .refl Z' ht
def pB{st:TD}{rest:T0 TD}(h1:S3 X st t)(h2:Hu X rest u):Hu X (st::rest) (uE t u):=Cb.mono (NL h1 h2) λD' Y H zz=>J0 zz λU M D hs hm ht k1 k2 k3 k4=>
 ⟨U,M,{D with nx:=u D},hs,hm,ht,λσ1 H1 δ1 M1 hs1 XX e1 l1 q1=>⟨δ1,M1,D,hs1,XX,q1,λσ' H' δ' M' x1 x2 x3 x4 x5=>k1 σ' H' δ' M' x1 x2 (e1.trans x3) (x4.trans l1) x5,λv H' d M' x1 x2 x3 x4=>k2 v H' d M' x1 x2 (e1.trans x3) x4,λσ' H' δ' M' x1 x2 x3 x4 x5=>k3 σ' H' δ' M' x1 x2 (e1.trans x3) (x4.trans l1) x5,λσ' H' δ' M' x1 x2 x3 x4 x5=>k4 σ' H' δ' M' x1 x2 (e1.trans x3) (x4.trans l1) x5⟩,k2,k3,k4⟩
def pC{st:TD}(h1:S3 X st t):Hu X [st] t:=Cb.mono (Ju h1) λD' Y H h=>h
def U'(te:T3):xG:=λD U M=>te U M λ_ M1=>D.nx U M1
def pR(he:E3 X e te)(Zn:sB e Fa pos.line X.env=pure pc:=by rfl):S3 X (.Expr e pos) (U' te):=PS.mono (QE he Zn) λD' Y H zz=>J0 zz λU M D hs hm ht k1 k2 k3 k4=>⟨U,M,_,hs,hm,ht,λv H1 d M1 hd XX e1 q1=>k1 Y H1 U M1 (hs.mono e1) XX e1 Z' q1⟩
def S4(te:T3):xG:=λD U M=>te U M D.rt
def pH(he:E3 X e te):S3 X (.Return (ga e) pos) (S4 te):=PS.mono (S9 he) λD' Y H zz=>J0 zz λU M D hs hm ht k1 k2 k3 k4=>⟨U,M,_,hs,hm,ht,λv H1 d M1 hd XX e1 q1=>k2 v H1 d M1 hd XX e1 q1⟩
def SE(c:AK)(t u:xG):xG:=λD U M=>c U M λb M1=>if b=Db then t D U M1 else u D U M1
def pU{tc:AK}(hc:B3 X c tc)(ha:Hu X as t)(hb:Hu X bs u):S3 X (.If c as bs pos) (SE tc t u):=PS.mono (UE hc ha hb) λD' Y H zz=>J0 zz λU M D hs hm ht k1 k2 k3 k4=>
 ⟨U,M,_,hs,hm,ht,λb H1 M1 XX e1 q1=>by
  have up:∀t:xG,t D U M1->V7 X.K t D' Y H1:=λt q=>⟨U,M1,D,hs.mono e1,XX,q,λσ' H' δ' M' x1 x2 x3 x4 x5=>k1 σ' H' δ' M' x1 x2 (e1.trans x3) x4 x5,λv H' d M' x1 x2 x3 x4=>k2 v H' d M' x1 x2 (e1.trans x3) x4,λσ' H' δ' M' x1 x2 x3 x4 x5=>k3 σ' H' δ' M' x1 x2 (e1.trans x3) x4 x5,λσ' H' δ' M' x1 x2 x3 x4 x5=>k4 σ' H' δ' M' x1 x2 (e1.trans x3) x4 x5⟩
  cases b with
  | true=>exact(dh Z').mpr (up t ((dh Z').mp q1))
  | false=>exact(dg dD).mpr (up u ((dg dD).mp q1))⟩
def SO:xG:=λ_ _ _=>False
def Gr{st:TD}:S3 X st SO:=PS.mono NG λD' Y H ⟨U,M,D,hs,hm,ht,_⟩=>ht
abbrev Es:=D->vp->Mp->(vp->Mp->Prop)->Prop
def V5(K:qy)(g:Es):TG:=λv Y H Q'=>Br λd U M Q=>rT K H d v/\Ac K H Y U/\HM K H M/\g d U M Q/\∀σ' H' δ' M',Ac K H' σ' δ'->HM K H' M'->qV K H H'->σ'.length=Y.length->Q δ' M'->Q' σ' H'
def G3(X:Cx)(e:Go)(g:Es):Prop:=PG X e (V5 X.K g)
def PG.nO{t t':TG}(h:PG X e t)(m:∀v Y H Q,Y.length=X.N.length->t' v Y H Q->t v Y H Q):PG X e t':=λXU s Y H v u Q I r q=>h XU s Y H v u Q I r (m v Y H Q I.len q)
def rR(i:Nat):Es:=λd U M Q=>Q (U.set i (ga d)) M
def Jp{i:Nat}{x:Str}(hN:X.N.Nodup)(hi:X.N[i]?=ga x)(hx:Ll X.env.scope x)(hf:Lk X x:=by first|exact .inl Z'|exact .inr Z'|assumption):G3 X (.Name x pos) (rR i):=
 PG.nO (QZ hN hi hx hf) λv Y H Q' hl ⟨d,U,M,Q,hd,hs,hm,ht,k⟩=>k _ H _ M (hs.set hd (by rw[hl];exact(c9.mp hi).1)) hm .refl (by simp) ht
abbrev GX:=T0 D->vp->Mp->(vp->Mp->Prop)->Prop
def Wz(K:qy)(g:GX):OY:=λvs Y H Q'=>Br λds U M Q=>qr K H ds vs/\Ac K H Y U/\HM K H M/\g ds U M Q/\∀σ' H' δ' M',Ac K H' σ' δ'->HM K H' M'->qV K H H'->σ'.length=Y.length->Q δ' M'->Q' σ' H'
def Wd(X:Cx)(es:T0 Go)(g:GX):Prop:=OG X es (Wz X.K g)
def OG.mono{t t':OY}(h:OG X e t)(m:∀v Y H Q,t' v Y H Q->t v Y H Q):OG X e t':=λXU s Y H v u Q I r q=>h XU s Y H v u Q I r (m v Y H Q q)
def PG.mono{t t':TG}(h:PG X e t)(m:∀v Y H Q,t' v Y H Q->t v Y H Q):PG X e t':=λXU s Y H v u Q I r q=>h XU s Y H v u Q I r (m v Y H Q q)
def F':GX:=λds U M Q=>match ds with|[]=>Q U M|_=>False
def Av(t:Es)(u:GX):GX:=λds U M Q=>match ds with|d::r=>t d U M λδ' M'=>u r δ' M' Q|[]=>False
def uc:Wd X [] F':=OG.mono PJ λvs Y H Q' ⟨ds,U,M,Q,hd,hs,hm,ht,k⟩=>by
 cases ds with
 | nil=>exact⟨hd.nil_inv,k Y H U M hs hm .refl Z' ht⟩
 | cons _ _=>exact ht.elim
def qK(h1:G3 X e t)(h2:Wd X es u)(hs:(IN (e::es) X.env).map (·.2)=assign e X.env::(IN es X.env).map (·.2):=by rfl):Wd X (e::es) (Av t u):=
 OG.mono (LR h1 h2 hs) λvs Y H Q' ⟨ds,U,M,Q,hd,hs,hm,ht,k⟩=>by
 cases ds with
 | nil=>exact ht.elim
 | cons d r=>obtain⟨x,xr,rfl,hx,hr⟩:=hd.inv;exact⟨x,xr,Z',d,U,M,_,hx,hs,hm,ht,λσ1 H1 δ1 M1 hs1 XX e1 l1 q1=>⟨r,δ1,M1,Q,hr.mono e1,hs1,XX,q1,λσ' H' δ' M' x1 x2 x3 x4 x5=>k σ' H' δ' M' x1 x2 (e1.trans x3) (x4.trans l1) x5⟩⟩
def Rp(n:Nat)(t:GX):Es:=λd U M Q=>match d with|.tup ds=>ds.length=n/\t ds U M Q|_=>False
def vb{n:Nat}(hc:X.calm=Db)(h:Wd X es t)(hn:(IN es X.env).length=n:=by rfl)(Yi:(IN es X.env).findIdx? (·.1)=Fa:=by rfl):G3 X (.Tuple es k pos) (Rp n t):=
 PG.mono (Tp hc h hn Yi) λv Y H Q' ⟨d,U,M,Q,hd,hs,hm,ht,k⟩=>by
 cases d with
 | tup ds=>obtain⟨a,xs,rfl,h1,h2⟩:=hd.mO;exact⟨a,xs,Z',h1,by rw[<-h2.length];exact ht.1,ds,U,M,Q,h2,hs,hm,ht.2,k⟩
 | _=>exact ht.elim
def Gd(te:T3)(g:Es):xG:=λD U M=>te U M λx M1=>g x U M1 D.nx
def NK(he:E3 X e te)(hg:G3 X tg g)(hs:swapsWithSole [tg] e pos.line X.env=pure pc:=by rfl)(hw:swappedStores [tg] e X.env=pure Fa:=by rfl)
  (h1:(IN [tg] X.env).map (·.2)=[assign tg X.env]:=by rfl):S3 X (.Assign [tg] e pos) (Gd te g):=PS.mono (TF he hg hs hw h1) λD' Y H zz=>J0 zz λU M D hs hm ht k1 k2 k3 k4=>
 ⟨U,M,_,hs,hm,ht,λv H1 d M1 hd XX e1 q1=>⟨d,U,M1,_,hd,hs.mono e1,XX,q1,λσ' H' δ' M' x1 x2 x3 x4 x5=>k1 σ' H' δ' M' x1 x2 (e1.trans x3) x4 x5⟩⟩
def Sr{i:Nat}{x:Str}(hN:X.N.Nodup)(hi:X.N[i]?=ga x)(hx:Ll X.env.scope x)(he:E3 X e te)(Zn:sB e (ga (.Name x X5)) pos.line X.env=pure pc:=by rfl)
  (hf:Lk X x:=by first|exact .inl Z'|exact .inr Z'|assumption):S3 X (.Assign [.Name x X5] e pos) (Gd te (rR i)):=PS.nO (RW hN hi hx he Zn hf) λD' Y H hl zz=>J0 zz λU M D hs hm ht k1 k2 k3 k4=>
 ⟨U,M,_,hs,hm,ht,λv H1 d M1 hd XX e1 q1=>k1 _ H1 _ M1 ((hs.mono e1).set hd (by rw[hl];exact(c9.mp hi).1)) XX e1 (by simp) q1⟩
end
abbrev rq:=T0 D->Mp->DK->Prop
def OD(K:qy)(sp:rq):Sp:=λvs H Q' _=>C5 λds M Q=>qr K H ds vs/\HM K H M/\sp ds M Q/\Up K H Q' Q
noncomputable def xy(N:QQQ)(ds:T0 D):vp:=ds.map ga++List.replicate (N.length - ds.length) Fa
def D8{K:qy}(h:qr K H ds vs):Ac K H (L2.start N vs) (xy N ds):=λi d q=>by
 unfold xy at q;unfold L2.start;by_cases hi:i<ds.length
 .rw[eV (by simpa using hi),dE]at q;cases e:ds[i]? with
  | none=>rw[e]at q;cases q
  | some d'=>rw[e]at q;cases q;obtain⟨v,e1,e2⟩:=h.get e;refine⟨v,?_,e2⟩;rw[eV (by rw[cY,<-h.length];exact hi),dE,e1];rfl
 .rw[eP (by simpa using hi),jQ]at q;split at q<;>cases q
variable {P:Pg}{w:Wo}{mg:QQZ}{base:No}
abbrev Ua(P:Pg)(w:Wo)(K:qy)(mg:QQZ)(base:No)(k:Nat)(f:Uf)(fd:wv)(ps:QQQ)(sp:rq):Prop:=xN P w K mg base OC k f fd ps (OD K sp)
variable {k:Nat}{f C:Uf}{fd:wv}{ps:QQQ}{sp:rq}{x m fn:Str}{p XY:Pos}{e o:Go}{es:T0 Go}{t:xE}
def D3(sp:rq)(t:xE):T3:=λU M Q=>t U M λds M1=>sp ds M1 Q
def QP(F:Ua X.prog X.w X.K X.mg X.base k f fd ps sp)(hr:sj k X.A)(hg:Gl X x)(hm:X.mg x=ga (.ref f))(hk:W.keepIn X.K (.ref f)=Db)(hb:uY X.K fd ps [])(ha:A3 X (e::es) t) (Ye:zu x:=by decide) (he:By X e es:=by rfl) (Yb:C6 X pos es:=by rfl):
  E3 X (.Call (.Name x p) (e::es) [] pos) (D3 sp t):=PE.mono (Pr F hr hg hm hk hb .nil (Ge (X:=X)) ha Ye he Yb) λY H Q' zz=>x7 zz λU M Q hs hm ht k=>
 ⟨U,M,_,hs,hm,ht,λvs H1 ds M1 hd XX e1 q1=>⟨ds,M1,Q,by rw[eO];exact hd,XX,q1,vm e1 k⟩⟩
def C3(X:Cx)(f:Vl)(r:rq):Prop:=yO X f λvs H Q'=>∃ds M Q,qr X.K H ds vs/\HM X.K H M/\r ds M Q/\Up X.K H Q' Q
def pX{id:String}(hc:C3 X (.builtin id) r)(hg:Gl X x)(hm:X.mg x=Fa)(hv:zn x=ga (.builtin id))(ha:A3 X (e::es) t)(hn:x≠"__name__":=by decide)(Ye:zu x:=by decide)
  (he:By X e es:=by rfl) (Yb:C6 X pos es:=by rfl):E3 X (.Call (.Name x p) (e::es) [] pos) (D3 r t):=
 PE.mono (Ng hc hg hm hv ha hn Ye he Yb) λY H Q' zz=>x7 zz λU M Q hs hm ht k=>⟨U,M,_,hs,hm,ht,λvs H1 ds M1 hd XX e1 q1=>⟨ds,M1,Q,hd,XX,q1,vm e1 k⟩⟩
def qw{T:String}(hc:C3 X (.type T) r)(hg:Gl X x)(hm:X.mg x=Fa)(hv:zn x=ga (.type T))(ha:A3 X (e::es) t)(hn:x≠"__name__":=by decide)(Ye:zu x:=by decide)
  (he:By X e es:=by rfl) (Yb:C6 X pos es:=by rfl):E3 X (.Call (.Name x p) (e::es) [] pos) (D3 r t):=
 PE.mono (KR hc hg hm hv ha hn Ye he Yb) λY H Q' zz=>x7 zz λU M Q hs hm ht k=>⟨U,M,_,hs,hm,ht,λvs H1 ds M1 hd XX e1 q1=>⟨ds,M1,Q,hd,XX,q1,vm e1 k⟩⟩
def Vr(ds:T0 D)(M:Mp)(Q:DK):Prop:=match ds with
 | [.str z]=>z.length<=Ch/\Q (.int z.length) M
 | [.tup es]=>Q (.int es.length) M
 | [.ref a]=>(og M a).elim False λes=>Q (.int es.length) M
 | [.rl es]=>Q (.int es.length) M
 | _=>False
def rX{K:qy}{d:D}(h:qr K H [d] vs):∃v,vs=[v]/\rT K H d v:=by obtain⟨x,r,rfl,a,b⟩:=h.inv;rw[b.nil_inv];exact⟨x,Z',a⟩
def zH{K:qy}{d e:D}(h:qr K H [d,e] vs):∃v u,vs=[v,u]/\rT K H d v/\rT K H e u:=by obtain⟨x,r,rfl,a,b⟩:=h.inv;obtain⟨y,rfl,c⟩:=rX b;exact⟨x,y,Z',a,c⟩
def qF:C3 X (.builtin "len") Vr:=by
 intro XU s Y H vs us Q' I rv h;obtain⟨ds,M,Q,hd,hm,q,k⟩:=h;unfold Vr at q;split at q
 .obtain⟨v,rfl,hv⟩:=rX hd;cases hv.str_inv;exact Ff XU s Y H _ us Q' I rv ⟨_,Z',q.1,k _ _ _ _ .int hm .refl q.2⟩
 .obtain⟨v,rfl,hv⟩:=rX hd;obtain⟨a,xs,rfl,h1,h2⟩:=hv.mO;exact xp XU s Y H _ us Q' I rv ⟨a,xs,Z',.inr h1,k _ _ _ _ (by rw[<-h2.length];exact .int) hm .refl q⟩
 .obtain⟨v,rfl,hv⟩:=rX hd;obtain⟨es,e0,q⟩:=qJ q;cases hv.mG;obtain⟨xs,h1,h2,_⟩:=qk hm e0;exact xp XU s Y H _ us Q' I rv ⟨_,xs,Z',.inl h1,k _ _ _ _ (by rw[<-h2.length];exact .int) hm .refl q⟩
 .obtain⟨v,rfl,hv⟩:=rX hd;obtain⟨a,xs,rfl,h1,h2⟩:=hv.mY;exact xp XU s Y H _ us Q' I rv ⟨a,xs,Z',.inl h1.sq,k _ _ _ _ (by rw[<-h2.length];exact .int) hm .refl q⟩
 .exact q.elim
def VA(ds:T0 D)(M:Mp)(Q:DK):Prop:=match ds with
 | [.int i,.int j]=>Q (.int (if j<i then j else i)) M
 | _=>False
def NB(hc:X.calm=Db):C3 X (.builtin "min") VA:=by
 intro XU s Y H vs us Q' I rv h;obtain⟨ds,M,Q,hd,hm,q,k⟩:=h;unfold VA at q;split at q
 .obtain⟨v,u,rfl,hv,hw⟩:=zH hd;cases hv.int_inv;cases hw.int_inv;exact Kn hc XU s Y H _ us Q' I rv ⟨_,_,Z',k _ _ _ _ .int hm .refl q⟩
 .exact q.elim
def Nq(ds:T0 D)(M:Mp)(Q:DK):Prop:=match ds with
 | [.tup es]=>Q (.tup es) M
 | [.ref a]=>(og M a).elim False λes=>Q (.tup es) M
 | [.rl es]=>Q (.tup es) M
 | _=>False
def uV:C3 X (.type "tuple") Nq:=by
 intro XU s Y H vs us Q' I rv h;obtain⟨ds,M,Q,hd,hm,q,k⟩:=h;unfold Nq at q;split at q
 .obtain⟨v,rfl,hv⟩:=rX hd;obtain⟨a,xs,rfl,h1,h2⟩:=id hv.mO;exact wm XU s Y H _ us Q' I rv ⟨a,xs,Z',.inr ⟨h1,k _ _ _ _ hv hm .refl q⟩⟩
 .obtain⟨v,rfl,hv⟩:=rX hd;obtain⟨es,e0,q⟩:=qJ q;cases hv.mG;obtain⟨xs,h1,h2,_⟩:=qk hm e0;refine wm XU s Y H _ us Q' I rv ⟨_,xs,Z',.inl ⟨h1,λl hl=>?_⟩⟩;have e:qV X.K H (upd H l (.tup xs)):=.new hl;exact k _ _ _ _ (.tup (.of qg) (h2.mono e)) (hm.add hl) e q
 .obtain⟨v,rfl,hv⟩:=rX hd;obtain⟨a,xs,rfl,h1,h2⟩:=hv.mY;refine wm XU s Y H _ us Q' I rv ⟨_,xs,Z',.inl ⟨h1.sq,λl hl=>?_⟩⟩;have e:qV X.K H (upd H l (.tup xs)):=.new hl;exact k _ _ _ _ (.tup (.of qg) (h2.mono e)) (hm.add hl) e q
 .exact q.elim
def Ry(ds:T0 D)(M:Mp)(Q:DK):Prop:=match ds with
 | [d]=>(Os M d).elim False λes=>∀p,M p=Fa->Q (.ref p) (pI M p (.lst es))
 | _=>False
def sJ:C3 X (.type "list") Ry:=by
 intro XU s Y H vs us Q' I rv h;obtain⟨ds,M,Q,hd,hm,q,k⟩:=h;unfold Ry at q;split at q
 .obtain⟨v,rfl,hv⟩:=rX hd;obtain⟨es,e0,q⟩:=qJ q;obtain⟨p,xs,rfl,h1,h2⟩:=FV hm hv e0;refine Fd XU s Y H _ us Q' I rv ⟨p,xs,Z',h1,λl hl=>?_⟩;have e:qV X.K H (upd H l (.lst xs)):=.new hl;exact k _ _ _ _ .ref (hm.new (c:=.lst es) hl ⟨_,qg,h2.mono e⟩) e (q l (hm.fresh hl))
 .exact q.elim
theorem xi{K:qy}{f:Str}:∀{fs:T0 (Str×D)} {vs:T0 (Str×V)},CL K H fs vs->(∀d,fs.lookup f=ga d->∃v,vs.lookup f=ga v/\rT K H d v)/\(fs.lookup f=Fa->vs.lookup f=Fa)
 | [],[],_=>⟨λd e=>by simp at e,λ_=>rfl⟩
 | [],_::_,h=>by have:=h.1;simp at this
 | _::_,[],h=>by have:=h.1;simp at this
 | (g,d)::fs,(g',v)::vs,h=>by
  have h1:g'=g/\vs.map (·.1)=fs.map (·.1):=by
   have:=h.1
   simpa using this
  obtain⟨x,r,e,a,b⟩:=h.2.inv;have e':v::vs.map (·.2)=x::r:=e;cases e';obtain⟨i1,i2⟩:=xi (f:=f) (fs:=fs) (vs:=vs) ⟨h1.2,b⟩;rw[h1.1];refine⟨λd' e=>?_,λe=>?_⟩
  .rw[eQ]at e ⊢;cases q:f==g with
   | true=>rw[q]at e;cases e;exact⟨v,Z',a⟩
   | false=>rw[q]at e;exact i1 d' e
  .rw[eQ]at e ⊢;cases q:f==g with
   | true=>rw[q]at e;cases e
   | false=>rw[q]at e;exact i2 e
theorem Ka{f:Str}{d:D}:∀{fs:T0 (Str×D)},fs.lookup f=ga d->f∈fs.map (·.1)
 | [],h=>by simp at h
 | (g,e)::r,h=>by
  rw[eQ]at h;cases q:f==g with
  | true=>
   have z:f=g:=by simpa using q
   rw[z,d4];exact dP
  | false=>rw[q]at h;simp[Ka h]
def Ak(o:Option vc)(F:Uf->T0 (Str×D)->Prop):Prop:=match o with
 | some (.ins C fs)=>F C fs
 | _=>False
def pD{o:Option vc}{F:Uf->T0 (Str×D)->Prop}{C:Uf}{fs:T0 (Str×D)}(e:o=ga (.ins C fs))(h:F C fs):Ak o F:=by rw[e];exact h
def yk{o:Option vc}(h:Ak o F):∃C fs,o=ga (.ins C fs)/\F C fs:=by
 unfold Ak at h;split at h
 .exact⟨_,_,Z',h⟩
 .exact h.elim
def Xa(f:Str)(ta:T3):T3:=λU M Q=>ta U M λx M1=>match x with
 | .ref a=>Ak (M1 a) λ_ fs=>(fs.lookup f).elim False λd=>Q d M1
 | _=>False
def pJ{f:Str}(he:E3 X o ta)(hb:Rs o f X.env (wp o X.env)=wp o X.env:=by rfl):E3 X (.Attribute o f pos) (Xa f ta):=PE.mono (Si he hb) λY H Q' zz=>x7 zz λU M Q hs hm ht k=>
 ⟨U,M,_,hs,hm,ht,λv H1 d M1 hd XX e1 q1=>by
  cases d with
  | ref a=>cases hd.mG;obtain⟨C,fs,e,q1⟩:=yk q1;obtain⟨d,e2,q⟩:=qJ q1;obtain⟨dx,vs,h1,cl,na,fo⟩:=XX a _ e;obtain⟨v,e3,hv⟩:=(xi fo).1 d e2;exact⟨a,C,dx,vs,v,Z',h1,cl,na f (Ka e2),e3,k v H1 d M1 hv XX e1 q⟩
  | _=>exact q1.elim⟩
noncomputable def wj(f:Str)(v:D):T0 (Str×D)->T0 (Str×D)
 | []=>[(f,v)]
 | (g,u)::r=>if g=f then(g,v)::r else(g,u)::wj f v r
theorem Fj{K:qy}{f:Str}(hv:rT K H d v):∀{fs:T0 (Str×D)} {vs:T0 (Str×V)},CL K H fs vs->CL K H (wj f d fs) (vL f v vs)
 | [],[],_=>⟨Z',.cons hv .nil⟩
 | [],_::_,h=>by have:=h.1;simp at this
 | _::_,[],h=>by have:=h.1;simp at this
 | (g,e)::fs,(g',u)::vs,h=>by
  have h1:g'=g/\vs.map (·.1)=fs.map (·.1):=by
   have:=h.1
   simpa using this
  obtain⟨x,r,e1,a,b⟩:=h.2.inv;have e':u::vs.map (·.2)=x::r:=e1;cases e';obtain⟨hg,ht⟩:=h1;subst hg;rw[show wj f d ((g',e)::fs)=(if g'=f then(g',d)::fs else(g',e)::wj f d fs)from Z',show vL f v ((g',u)::vs)=(if g'=f then(g',v)::vs else(g',u)::vL f v vs)from Z'];by_cases q:g'=f
  .rw[dh q,dh q];exact⟨by simpa using ht,.cons hv b⟩
  .rw[dg q,dg q];obtain⟨i1,i2⟩:=Fj hv (fs:=fs) (vs:=vs) ⟨ht,b⟩;exact⟨by simpa using i1,.cons a i2⟩
theorem Cw{f:Str}:∀{fs:T0 (Str×D)} {g:Str},g∈(wj f d fs).map (·.1)->g=f\/g∈fs.map (·.1)
 | [],g,h=>.inl (by simpa [wj]using h)
 | (k,e)::r,g,h=>by
  rw[show wj f d ((k,e)::r)=(if k=f then(k,d)::r else(k,e)::wj f d r)from Z']at h;by_cases q:k=f
  .rw[dh q]at h;exact .inr (by simpa using h)
  .rw[dg q]at h;rw[d4,dC]at h;rcases h with h|h
   .exact .inr (by simp[h])
   .rcases Cw h with z|z
    .exact .inl z
    .exact .inr (by simp;right;simpa using z)
def Ur(K:qy)(f:Str)(ta tv:T3):xG:=λD U M=>tv U M λy M1=>ta U M1 λx M2=>match x with
 | .ref a=>Ak (M2 a) λC fs=>uf K C f/\fs.length<1000/\D.nx U (pI M2 a (.ins C (wj f y fs)))
 | _=>False
def qm{f:Str}(ha:E3 X o ta)(hv:E3 X value tv)(Zn:sB value (ga (.Attribute o f X5)) pos.line X.env=pure pc:=by rfl):S3 X (.Assign [.Attribute o f X5] value pos) (Ur X.K f ta tv):=
 PS.mono (SM ha hv Zn) λD' Y H zz=>J0 zz λU M D hs hm ht k1 k2 k3 k4=>
 ⟨U,M,_,hs,hm,ht,λy H1 dy M1 hy XX e1 q1=>⟨U,M1,_,hs.mono e1,XX,q1,λv H2 d M2 hd X8 e2 q2=>by
  cases d with
  | ref a=>
   cases hd.mG;obtain⟨C,fs,e,q2⟩:=yk q2;obtain⟨na,hl,q⟩:=q2;obtain⟨dx,vs,h1,cl,nn,fo⟩:=X8 a _ e;have X1:vs.length=fs.length:=by have:=eC List.length fo.1;simpa using this
   refine⟨a,C,dx,vs,Z',h1,cl,na,by lia,?_⟩;obtain⟨Yq,e3⟩:=X8.put (p:=a) (o:=.ins C dx (vL f y vs)) (c:=.ins C (wj f dy fs)) e λx=>⟨dx,_,qg,cl,λg hg=>by
    rcases Cw hg with z|z
    .rw[z];exact na
    .exact nn g z,Fj ((hy.mono e2).mono x) (fo.mono x)⟩
   exact k1 Y _ U _ (hs.mono (e1.trans (e2.trans e3))) Yq (e1.trans (e2.trans e3)) Z' q
  | _=>exact q2.elim⟩⟩
def RC(C:Uf)(sp:rq)(t:xE):T3:=λU M Q=>t U M λds M1=>∀x,M1 x=Fa->sp (.ref x::ds) (pI M1 x (.ins C [])) λd M2=>d=.mK/\Q (.ref x) M2
def Mo{K:qy}{xa dx:Uf}(hm:HM K H M)(cl:Cls K C)(h1:H xa=Fa)(h2:H dx=Fa)(ne:dx≠xa):HM K (upd (upd H dx (.own xa)) xa (.ins C dx [])) (pI M xa (.ins C []))/\qV K H (upd (upd H dx (.own xa)) xa (.ins C dx [])):=by
 have YC:upd H dx (.own xa) xa=Fa:=by rw[qd (dZ ne)];exact h1
 exact⟨(hm.add (p:=dx) (o:=.own xa) h2).new YC ⟨dx,[],qg,cl,λg hg=>by simp at hg,Z',.nil⟩,qV.trans (.new h2) (.new YC)⟩
def O1(cl:Cls X.K C)(Mk':Mk X.K C f)(F:Ua X.prog X.w X.K X.mg X.base k f fd ps sp)(hr:sj (k+1) X.A)(hg:Gl X x)(hm:X.mg x=ga (.ref C))(hb:uY X.K fd ps [])(ha:A3 X (e::es) t) (Ye:zu x:=by decide) (he:By X e es:=by rfl) (Yb:C6 X pos es:=by rfl):
  E3 X (.Call (.Name x p) (e::es) [] pos) (RC C sp t):=PE.mono (Qv Mk' F hr hg hm hb .nil (Ge (X:=X)) ha Ye he Yb) λY H Q' zz=>x7 zz λU M Q hs hm ht k=>
 ⟨U,M,_,hs,hm,ht,λvs H1 ds M1 hd XX e1 q1=>λxa dx n1 n2 ne=>by
  obtain⟨X8,e2⟩:=Mo XX cl n1 n2 ne;refine⟨.ref xa::ds,_,_,?_,X8,q1 xa (XX.fresh n1),λv H3 d M3 hd3 Yq e3 q3=>?_⟩
  .rw[eO];exact .cons .ref (hd.mono e2)
  .obtain⟨z,q3⟩:=q3;subst z;exact⟨hd3.mJ,k _ H3 _ M3 .ref Yq (e1.trans (e2.trans e3)) q3⟩⟩
def IL(m:Str)(R:Uf->Sp->Prop)(ta:TE)(t:TA):TE:=λY H Q=>ta Y H λx H1=>∃a C dx fs sp,x=.ref a/\H1 a=ga (.ins C dx fs)/\fs.lookup m=Fa/\R C sp/\t Y H1 λvs H2=>sp (x::vs) H2 Q E0
def yr(P:Pg)(w:Wo)(K:qy)(mg:QQZ)(base:No)(k:Nat)(m:Str)(C:Uf)(sp:Sp):Prop:=Cls K C/\∃f fd ps,vK K C m f/\xN P w K mg base OC k f fd ps sp/\uY K fd ps []
def LS{R:Uf->Sp->Prop}{ta:TE}{t:TA}{pl:Sem Bool}(he:PE X o ta)(hR:∀C sp,R C sp->yr X.prog X.w X.K X.mg X.base k m C sp)(hr:sj k X.A)(ha:PA X (e::es) t) (Yi:By X e es:=by rfl) (Yb:C6 X pos es:=by rfl)
  (ht:wp (.Call (.Attribute o m XY) (e::es) [] pos) X.env=(do
   let ov<-wp o X.env
   Y' XY.atName
   let(f,first)<-Ix [ov] (TW ov m pl)
   XXe pos f first (xz pos (Tl (e::es) X.env)) (xL pos (Ps [] X.env))):=by rfl):
  PE X (.Call (.Attribute o m XY) (e::es) [] pos) (IL m R ta t):=by
 intro XU s Y H Q I h;refine jY (pl:=pl) (sf (he XU s Y H _ I h) λu s1 zz=>?_) ht;obtain⟨x,H1,I1,rx,a,C,dx,fs,sp,ex,ea,l,hRC,q⟩:=zz;obtain⟨c,f,fd,ps,hm,F,hb⟩:=hR C sp hRC;subst ex;obtain rfl:u=Value.ref a:=rx;refine BH I1 ea c hm l ?_;refine iV (first:=[.ref a]) (h₀:=X.base) I.ok.mod.oo hm.kp (sf (ha pos XU s1 Y H1 _ I1 q) λus s2 zz=>x5 zz λvs H2 I2 r q2=>⟨I2.m7,?_⟩) Yi Yb;exact FS (us:=.ref a::us) (vs:=.ref a::vs) F hr hb .nil (Ge (X:=X)) I2 (.cons Z' r) (by rw[eO];exact q2)
def Ks{R:Uf->Sp->Prop}{ta:TE}{pl:Sem Bool}(he:PE X o ta)(hR:∀C sp,R C sp->yr X.prog X.w X.K X.mg X.base k m C sp)(hr:sj k X.A) (ht:wp (.Call (.Attribute o m XY) [] [] pos) X.env=(do
   let ov<-wp o X.env
   Y' XY.atName
   let(f,first)<-Ix [ov] (TW ov m pl)
   XXe pos f first (xz pos (Tl [] X.env)) (xL pos (Ps [] X.env))):=by rfl):
  PE X (.Call (.Attribute o m XY) [] [] pos) (IL m R ta VR):=by
 intro XU s Y H Q I h;refine jY (pl:=pl) (sf (he XU s Y H _ I h) λu s1 zz=>?_) ht;obtain⟨x,H1,I1,rx,a,C,dx,fs,sp,ex,ea,l,hRC,q⟩:=zz;obtain⟨c,f,fd,ps,hm,F,hb⟩:=hR C sp hRC;subst ex;obtain rfl:u=Value.ref a:=rx;refine BH I1 ea c hm l ?_;exact W.callWith_K0 (first:=[.ref a]) I1.m7 hm.kp (FS (us:=[.ref a]) (vs:=[.ref a]) F hr hb .nil (Ge (X:=X)) I1 (.cons Z' .nil) (by rw[eO];exact q))
def AQ(m:Str)(R:Uf->rq->Prop)(ta:T3)(t:xE):T3:=λU M Q=>ta U M λx M1=>match x with
 | .ref a=>Ak (M1 a) λC fs=>fs.lookup m=Fa/\∃sp,R C sp/\t U M1 λds M2=>sp (x::ds) M2 Q
 | _=>False
def WN(K:qy)(R:Uf->rq->Prop):Uf->Sp->Prop:=λC sp'=>∃sp,R C sp/\sp'=OD K sp
def Jq:∀Y H Q',lo X.K (AQ m R ta t) Y H Q'->IL m (WN X.K R) (lo X.K ta) (Xi X.K t) Y H Q':=λY H Q' zz=>x7 zz λU M Q hs hm ht k=>
 ⟨U,M,_,hs,hm,ht,λv H1 d M1 hd XX e1 q1=>by
  cases d with
  | ref a=>cases hd.mG;obtain⟨C,fs,e,q1⟩:=yk q1;obtain⟨hn,sp,hR,q⟩:=q1;obtain⟨dx,vs,h1,cl,na,fo⟩:=XX a _ e;exact⟨a,C,dx,vs,_,Z',h1,(xi fo).2 hn,⟨sp,hR,Z'⟩,U,M1,_,hs.mono e1,XX,q,λus H2 ds M2 Za X8 e2 q2=>⟨.ref a::ds,M2,Q,.cons .ref Za,X8,q2,vm (e1.trans e2) k⟩⟩
  | _=>exact q1.elim⟩
def FE{R:Uf->rq->Prop}{pl:Sem Bool}(he:E3 X o ta)(hR:∀C sp,R C sp->yr X.prog X.w X.K X.mg X.base k m C (OD X.K sp))(hr:sj k X.A)(ha:A3 X (e::es) t) (Yi:By X e es:=by rfl) (Yb:C6 X pos es:=by rfl)
  (ht:wp (.Call (.Attribute o m XY) (e::es) [] pos) X.env=(do
   let ov<-wp o X.env
   Y' XY.atName
   let(f,first)<-Ix [ov] (TW ov m pl)
   XXe pos f first (xz pos (Tl (e::es) X.env)) (xL pos (Ps [] X.env))):=by rfl):
  E3 X (.Call (.Attribute o m XY) (e::es) [] pos) (AQ m R ta t):=PE.mono (LS (R:=WN X.K R) he (λC sp' ⟨sp,h,z⟩=>by rw[z];exact hR C sp h) hr ha Yi Yb ht) Jq
def Cu{R:Uf->rq->Prop}{pl:Sem Bool}(he:E3 X o ta)(hR:∀C sp,R C sp->yr X.prog X.w X.K X.mg X.base k m C (OD X.K sp))(hr:sj k X.A) (ht:wp (.Call (.Attribute o m XY) [] [] pos) X.env=(do
   let ov<-wp o X.env
   Y' XY.atName
   let(f,first)<-Ix [ov] (TW ov m pl)
   XXe pos f first (xz pos (Tl [] X.env)) (xL pos (Ps [] X.env))):=by rfl):
  E3 X (.Call (.Attribute o m XY) [] [] pos) (AQ m R ta xA):=PE.mono (Ks (R:=WN X.K R) he (λC sp' ⟨sp,h,z⟩=>by rw[z];exact hR C sp h) hr ht) λY H Q' h=>by
 obtain⟨U,M,Q,hs,hm,ht,k⟩:=Jq (t:=xA) Y H Q' h;refine⟨U,M,Q,hs,hm,ht,λv H' d M' x1 x2 x3 x4=>?_⟩;obtain⟨a,C,dx,fs,sp,e1,e2,e3,e4,δ',XZ,Q'',y1,y2,y3,y4⟩:=k v H' d M' x1 x2 x3 x4;exact⟨a,C,dx,fs,sp,e1,e2,e3,e4,y4 [] H' [] XZ .nil y2 .refl y3⟩
structure FI(K:qy)(H1:Hp)(J:It)(ds:List D)(ok:Mp->Prop):Prop where
 go:∀i H M,i<ds.length->HM K H M->ok M->qV K H1 H->J.go i H
 oV:∀i d H M x H',ds[i]?=ga d->HM K H M->ok M->qV K H1 H->J.oV i H x H'->rT K H' d x/\HM K H' M/\qV K H H'
 stop:∀H M,HM K H M->ok M->qV K H1 H->J.stop ds.length H
abbrev LM:=vp->Mp->(T0 D->(Mp->Prop)->Mp->Prop)->Prop
def Xw(K:qy)(wi:LM):TI:=λY H R'=>C5 λU M R=>Ac K H Y U/\HM K H M/\wi U M R/\∀J H1 ds ok M1,FI K H1 J ds ok->HM K H1 M1->qV K H H1->ok M1->R ds ok M1->R' J H1
def I3(X:Cx)(tg iter:Go)(wi:LM):Prop:=PI X tg iter (Xw X.K wi)
def PI.mono{t t':TI}(h:PI X tg e t)(m:∀Y H Q,t' Y H Q->t Y H Q):PI X tg e t':=λXU s Y H Q I q=>h XU s Y H Q I (m Y H Q q)
variable {H1:Hp}
def Mt:FI K H1 (V9 K a) ds (λM=>og M a=ga ds) where
 go:=λi H M hi hm ok _=>by obtain⟨xs,h1,h2,_⟩:=qk hm ok;obtain⟨x,e,_⟩:=h2.get (df hi);exact⟨xs,x,h1,e⟩
 oV:=λi d H M x H' hd hm ok _ y=>by obtain⟨xs,h1,h2,_⟩:=qk hm ok;obtain⟨e,y⟩:=y;subst e;obtain⟨x',e,hx⟩:=h2.get hd;have:=y xs h1;rw[e]at this;cases this;exact⟨hx,hm,.refl⟩
 stop:=λH M hm ok _=>by obtain⟨xs,h1,h2,_⟩:=qk hm ok;exact⟨xs,h1,by rw[h2.length];exact dv _⟩
def QF(h1:vH K H1 a xs)(h2:qr K H1 ds xs):FI K H1 (WD K a) ds (λ_=>True) where
 go:=λi H M hi hm ok e1=>by obtain⟨x,e,_⟩:=h2.get (df hi);exact⟨xs,x,e1.t _ _ h1,e⟩
 oV:=λi d H M x H' hd hm ok e1 y=>by obtain⟨e,y⟩:=y;subst e;obtain⟨x',e,hx⟩:=h2.get hd;have:=y xs (e1.t _ _ h1);rw[e]at this;cases this;exact⟨hx.mono e1,hm,.refl⟩
 stop:=λH M hm ok e1=>⟨xs,e1.t _ _ h1,by rw[h2.length];exact dv _⟩
def TB(h1:Pk K H1 a xs)(h2:qr K H1 ds xs):FI K H1 (V9 K a) ds (λ_=>True) where
 go:=λi H M hi hm ok e1=>by obtain⟨x,e,_⟩:=h2.get (df hi);exact⟨xs,x,(h1.mono e1).sq,e⟩
 oV:=λi d H M x H' hd hm ok e1 y=>by obtain⟨e,y⟩:=y;subst e;obtain⟨x',e,hx⟩:=h2.get hd;have:=y xs (h1.mono e1).sq;rw[e]at this;cases this;exact⟨hx.mono e1,hm,.refl⟩
 stop:=λH M hm ok e1=>⟨xs,(h1.mono e1).sq,by rw[h2.length];exact dv _⟩
def D7{lo:Int}:FI K H1 (VU lo n) ((List.range n).map λi=>D.int (lo+(i:Nat))) (λ_=>True) where
 go:=λi H M hi hm ok e1=>by
  have z:i<n:=by simpa using hi
  exact z
 oV:=λi d H M x H' hd hm ok e1 y=>by
  obtain⟨e,y⟩:=y;subst e;subst y;have hi:i<n:=by
   have:=(c9.mp hd).1
   simpa using this
  have hd':d=D.int (lo+(i:Nat)):=by rw[dE,jf hi]at hd;exact(dw hd).symm
  subst hd';exact⟨.int,hm,.refl⟩
 stop:=λH M hm ok e1=>by show n<=_;simp
variable {scope:XXb}{ix:T0 (Option Nat)}{N':QQQ}{iter YN:Go}{Yv:T0 Go}{wi:LM}{g:Es}{tt:AK}{te:T3}{tg:Go}
def Vq(t:T3):LM:=λU M R=>t U M λx M1=>match x with
 | .tup ds=>R ds (λ_=>True) M1
 | .ref a=>(og M1 a).elim False λds=>R ds (λM=>og M a=ga ds) M1
 | .rl ds=>R ds (λ_=>True) M1
 | .str z=>R (z.cps.toList.map λc=>D.str ⟨#[c]⟩) (λ_=>True) M1
 | _=>False
def OZ{K:qy}:FI K H1 (Wn z) (z.cps.toList.map λc=>D.str ⟨#[c]⟩) (λ_=>True) where
 go:=λi H M hi hm ok _=>by
  show i<z.cps.size
  simpa using hi
 oV:=λi d H M x H' hd hm ok _ y=>by obtain⟨e,c,e1,e2⟩:=y;subst e e2;rw[dE,Array.getElem?_toList,e1]at hd;cases hd;exact⟨.str,hm,.refl⟩
 stop:=λH M hm ok _=>by show _=z.cps.size;simp
def qI{t:T3}(h:E3 X l t)(hc:X.calm=Db:=by rfl):I3 X tg l (Vq t):=PI.mono (Q5 hc h) λY H R' zz=>x7 zz λU M R hs hm ht k=>
 ⟨U,M,_,hs,hm,ht,λv H1 d M1 hd XX e1 q1=>by
  cases d with
  | tup ds=>obtain⟨a,xs,rfl,h1,h2⟩:=hd.mO;exact .inl ⟨a,Z',.inr ⟨⟨xs,h1⟩,k _ H1 ds _ M1 (QF h1 h2) XX e1 trivial q1⟩⟩
  | ref a=>cases hd.mG;obtain⟨ds,e0,q⟩:=qJ q1;obtain⟨xs,h1,h2,_⟩:=qk XX e0;exact .inl ⟨a,Z',.inl ⟨⟨xs,h1⟩,k _ H1 ds _ M1 Mt XX e1 e0 q⟩⟩
  | str z=>exact .inr ⟨z,hd.str_inv,k _ H1 _ _ M1 OZ XX e1 trivial q1⟩
  | rl ds=>obtain⟨a,xs,rfl,h1,h2⟩:=hd.mY;exact .inl ⟨a,Z',.inl ⟨⟨xs,h1.sq⟩,k _ H1 ds _ M1 (TB h1 h2) XX e1 trivial q1⟩⟩
  | _=>exact q1.elim⟩
def Rh(t:xE):LM:=λU M R=>t U M λds M1=>match ds with
 | [.int j]=>(-(2 ^ 62)<=j/\j<2 ^ 62)/\R ((List.range j.toNat).map λi=>D.int (0+(i:Nat))) (λ_=>True) M1
 | [.int i,.int j]=>(-(2 ^ 62)<=i/\i<2 ^ 62/\-(2 ^ 62)<=j/\j<2 ^ 62)/\R ((List.range (j - i).toNat).map λn=>D.int (i+(n:Nat))) (λ_=>True) M1
 | _=>False
def wA{a:Go}{ta:xE}(hg:Gl X "range")(hm:X.mg "range"=Fa)(ha:A3 X [a] ta)(hs:Tl [a] X.env=[(pc,wp a X.env)]:=by rfl):I3 X tg (.Call (.Name "range" p) [a] [] pos) (Rh λU M Q=>ta U M λds M1=>ds.length=1/\Q ds M1):=
 PI.mono (Ko hg hm ha hs) λY H R' zz=>x7 zz λU M R hs hm ht k=>⟨U,M,_,hs,hm,ht,λvs H1 ds M1 hd XX e1 q1=>by
  obtain⟨hl,q1⟩:=q1;split at q1
  .obtain⟨v,rfl,hv⟩:=rX hd;cases hv.int_inv;exact⟨_,Z',q1.1.1,q1.1.2,k _ H1 _ _ M1 D7 XX e1 trivial q1.2⟩
  .simp at hl
  .exact q1.elim⟩
def KQ{a b:Go}{ta:xE}(hg:Gl X "range")(hm:X.mg "range"=Fa)(ha:A3 X [a,b] ta)(hs:Tl [a,b] X.env=[(pc,wp a X.env),(pc,wp b X.env)]:=by rfl)(YA:Tl [b] X.env=[(pc,wp b X.env)]:=by rfl):
  I3 X tg (.Call (.Name "range" p) [a,b] [] pos) (Rh λU M Q=>ta U M λds M1=>ds.length=2/\Q ds M1):=
 PI.mono (Kf hg hm ha hs YA) λY H R' zz=>x7 zz λU M R hs hm ht k=>⟨U,M,_,hs,hm,ht,λvs H1 ds M1 hd XX e1 q1=>by
  obtain⟨hl,q1⟩:=q1;split at q1
  .simp at hl
  .obtain⟨v,u,rfl,hv,hw⟩:=zH hd;cases hv.int_inv;cases hw.int_inv;exact⟨_,_,Z',q1.1,k _ H1 _ _ M1 D7 XX e1 trivial q1.2⟩
  .exact q1.elim⟩
def FZ(g:Es)(tb:xG)(ok:Mp->Prop)(E:GJ):T0 D->vp->Mp->Prop
 | [],U,M=>E.nx U M
 | d::r,U,M=>g d U M λδ2 M2=>tb {E with nx:=λδ' M'=>ok M'/\FZ g tb ok E r δ' M',ct:=λδ' M'=>ok M'/\FZ g tb ok E r δ' M',bk:=E.nx} δ2 M2
def Wk(wi:LM)(g:Es)(tb:xG):xG:=λE U M=>wi U M λds ok M1=>FZ g tb ok E ds U M1
def tS{tb:xG}(hp:PassesOwn (Tk X.prog X.w) X.A X.env X.xe)(hc:X.calm=Db)(hi:I3 X tg iter wi)(hg:G3 X tg g)(hb:Hu X body tb) (hs:∀x,XV iter X.env x=pure x:=by intro _;rfl):S3 X (.For tg iter body [] pos) (Wk wi g tb):=PS.mono (Sh hp hc hi hg hb hs) λD' Y H zz=>J0 zz λU M E hs hm ht k1 k2 k3 k4=>
 ⟨U,M,_,hs,hm,ht,λJ H1 ds ok M1 S XX e1 ok1 q1=>by
  refine⟨λi m σ' H'=>m=ds.length - i/\i<=ds.length/\∃δ' M',Ac X.K H' σ' δ'/\HM X.K H' M'/\ok M'/\qV X.K H1 H'/\σ'.length=Y.length/\FZ g tb ok E (ds.drop i) δ' M',⟨ds.length,by simp,e9 _,U,M1,hs.mono e1,XX,ok1,.refl,Z',by simpa using q1⟩,?_⟩
  rintro i m σ' H' ⟨rfl,hi,δ',M',hs',Zp,ok',e',l',q'⟩
  by_cases Yc:i<ds.length
  .rw[gQ Yc]at q';refine .inr ⟨S.go i H' M' Yc Zp ok' e',λσ2 H2=>∃δ2 M2,Ac X.K H2 σ2 δ2/\HM X.K H2 M2/\ok M2/\qV X.K H1 H2/\σ2.length=Y.length/\FZ g tb ok E (ds.drop (i+1)) δ2 M2,λσ2 H2 z=>⟨ds.length - (i+1),by lia,Z',Yc,z⟩,λx H2 y=>?_⟩;obtain⟨hx,X8,e2⟩:=S.oV i ds[i] H' M' x H2 (df Yc) Zp ok' e' y;refine⟨ds[i],δ',M',_,hx,hs'.mono e2,X8,q',λσ3 H3 δ3 M3 x1 x2 x3 x4 x5=>?_⟩;refine⟨δ3,M3,_,x1,x2,x5,λσ4 H4 δ4 M4 y1 y2 y3 y4 y5=>?_,λv H4 d M4 y1 y2 y3 y4=>?_,λσ4 H4 δ4 M4 y1 y2 y3 y4 y5=>?_,λσ4 H4 δ4 M4 y1 y2 y3 y4 y5=>?_⟩
   .exact⟨δ4,M4,y1,y2,y5.1,e'.trans (e2.trans (x3.trans y3)),by rw[y4,x4,l'],y5.2⟩
   .exact k2 v H4 d M4 y1 y2 (e1.trans (e'.trans (e2.trans (x3.trans y3)))) y4
   .exact k1 σ4 H4 δ4 M4 y1 y2 (e1.trans (e'.trans (e2.trans (x3.trans y3)))) (by rw[y4,x4,l']) y5
   .exact⟨δ4,M4,y1,y2,y5.1,e'.trans (e2.trans (x3.trans y3)),by rw[y4,x4,l'],y5.2⟩
  .have e:i=ds.length:=by lia
   subst e;rw[jL]at q';exact .inl ⟨S.stop H' M' Zp ok' e',k1 σ' H' δ' M' hs' Zp (e1.trans e') l' q'⟩⟩
noncomputable def PN(ix:T0 (Option Nat))(U:vp):vp:=ix.map λo=>o.bind λi=>(U[i]?).join
def PY{K:qy}(h:Ac K H Y U):Ac K H (P5 ix Y) (PN ix U):=λi d q=>by
 unfold PN at q;unfold P5;rw[dE]at q ⊢;cases e:ix[i]? with
 | none=>rw[e]at q;cases q
 | some o=>
  rw[e]at q;cases o with
  | none=>cases q
  | some j=>
   have q':(U[j]?).join=ga d:=dw q;have e4:U[j]?=ga (ga d):=by
    cases r:U[j]? with
    | none=>rw[r]at q';cases q'
    | some w=>rw[r]at q';exact eC ga q'
   obtain⟨v,e5,hv⟩:=h j d e4;refine⟨v,?_,hv⟩;show ga ((Y[j]?).join)=ga (ga v);rw[e5];rfl
def uW(g:Es)(tt:AK)(te:T3)(ok:Mp->Prop)(Q:DK):T0 D->T0 D->vp->Mp->Prop
 | [],acc,_,M=>acc.length<=Ch/\∀p,M p=Fa->Q (.ref p) (pI M p (.lst acc))
 | d::r,acc,U,M=>acc.length<Ch/\g d U M λδ2 M2=>tt δ2 M2 λb M3=>if b=Db then te δ2 M3 λy M4=>ok M4/\uW g tt te ok Q r (acc++[y]) δ2 M4 else ok M3/\uW g tt te ok Q r acc δ2 M3
def L0(ix:T0 (Option Nat))(wi:LM)(g:Es)(tt:AK)(te:T3):T3:=λU M Q=>wi U M λds ok M1=>uW g tt te ok Q ds [] (PN ix U) M1
def F3(X:Cx)(Yv:T0 Go)(t:AK):Prop:=PF X Yv (Ub X.K t)
def PF.mono{e:T0 Go}{t t':TT}(h:PF X e t)(m:∀Y H Q,t' Y H Q->t Y H Q):PF X e t':=λXU s Y H Q I q=>h XU s Y H Q I (m Y H Q q)
def B2:AK:=λ_ M Q=>Q Db M
def rS:F3 X [] B2:=PF.mono RY λY H Q' zz=>x7 zz λU M Q hs hm ht k=>k Db H M hm .refl ht
def vn{t:AK}(h:B3 X c t):F3 X [c] t:=T6 h
def IX:∀Y H Q',lo X.K (L0 ix wi g tt te) Y H Q'->Ou ix (Xw X.K wi) (V5 X.K g) (Ub X.K tt) (lo X.K te) Y H Q':=λY H Q' zz=>x7 zz λU M Q hs hm ht k=>
 ⟨U,M,_,hs,hm,ht,λJ H1 ds ok M1 S XX e1 ok1 q1=>by
  refine⟨λi m ys σ' H'=>m=ds.length - i/\i<=ds.length/\∃δ' M' acc,Ac X.K H' σ' δ'/\HM X.K H' M'/\qr X.K H' acc ys/\ok M'/\qV X.K H1 H'/\uW g tt te ok Q (ds.drop i) acc δ' M',⟨ds.length,by simp,e9 _,PN ix U,M1,[],PY (hs.mono e1),XX,.nil,ok1,.refl,by simpa using q1⟩,?_⟩
  rintro i m ys σ' H' ⟨rfl,hi,δ',M',acc,hs',Zp,Zw,ok',e',q'⟩
  by_cases Yc:i<ds.length
  .rw[gQ Yc]at q';obtain⟨hz,q'⟩:=q';refine .inr ⟨S.go i H' M' Yc Zp ok' e',by rw[<-Zw.length];exact hz,λx H2 y=>?_⟩;obtain⟨hx,X8,e2⟩:=S.oV i ds[i] H' M' x H2 (df Yc) Zp ok' e' y;refine⟨ds[i],δ',M',_,hx,hs'.mono e2,X8,q',λσ3 H3 δ3 M3 x1 x2 x3 x4 x5=>?_⟩;refine⟨δ3,M3,_,x1,x2,x5,λb H4 M4 y2 y3 y5=>?_⟩;cases b with
   | true=>rw[dh Z']at y5 ⊢;refine⟨δ3,M4,_,x1.mono y3,y2,y5,λv H5 d M5 z1 z2 z3 z4=>⟨ds.length - (i+1),by lia,Z',Yc,δ3,M5,acc++[d],x1.mono (y3.trans z3),z2,(Zw.mono (e2.trans (x3.trans (y3.trans z3)))).snoc z1,z4.1,e'.trans (e2.trans (x3.trans (y3.trans z3))),z4.2⟩⟩
   | false=>rw[dg dD]at y5 ⊢;exact⟨ds.length - (i+1),by lia,Z',Yc,δ3,M4,acc,x1.mono y3,y2,Zw.mono (e2.trans (x3.trans y3)),y5.1,e'.trans (e2.trans (x3.trans y3)),y5.2⟩
  .have e:i=ds.length:=by lia
   subst e;rw[jL]at q';refine .inl ⟨S.stop H' M' Zp ok' e',by rw[<-Zw.length];exact q'.1,λp hp=>?_⟩;have e5:qV X.K H' (upd H' p (.lst ys)):=.new hp;exact k _ _ _ _ .ref (Zp.new (c:=.lst acc) hp ⟨_,qg,Zw.mono e5⟩) (e1.trans (e'.trans e5)) (q'.2 p (Zp.fresh hp))⟩
def qO(hc:X.calm=Db)(S:sv X scope ix N')(hi:I3 X tg iter wi)(hg:∀{C s0 H0 ex},G3 (X.comp scope N' C s0 H0 ex) tg g)(ht:∀{C s0 H0 ex},F3 (X.comp scope N' C s0 H0 ex) Yv tt)(he:∀{C s0 H0 ex},E3 (X.comp scope N' C s0 H0 ex) YN te) (hs:∀x,XV iter X.env x=pure x:=by intro _;rfl):E3 X (.ListComp YN [⟨tg,iter,Yv,0⟩] scope pos) (L0 ix wi g tt te):=PE.mono (Pw (g:=V5 X.K g) (tt:=Ub X.K tt) (te:=lo X.K te) hc S hi (λ_ _ _ _=>hg) (λ_ _ _ _=>ht) (λ_ _ _ _=>he) hs) IX
def ug{i:Nat}{x:Str}{px ZE:Pos}(hN:X.N.Nodup)(hix:X.N[i]?=ga x)(hx:Ll X.env.scope x)(hc:X.calm=Db)(S:sv X scope ix N')(hi:I3 X tg iter wi)(hg:∀{C s0 H0 ex},G3 (X.comp scope N' C s0 H0 ex) tg g)(ht:∀{C s0 H0 ex},F3 (X.comp scope N' C s0 H0 ex) Yv tt) (he:∀{C s0 H0 ex},E3 (X.comp scope N' C s0 H0 ex) YN te) (Zn:sB (.ListComp YN [⟨tg,iter,Yv,0⟩] scope pos) (ga (.Name x px)) ZE.line X.env=pure Db:=by rfl)
  (hf:Lk X x:=by first|exact .inl Z'|exact .inr Z'|assumption) (hs:∀x,XV iter X.env x=pure x:=by intro _;rfl):
  S3 X (.Assign [.Name x px] (.ListComp YN [⟨tg,iter,Yv,0⟩] scope pos) ZE) (Gd (L0 ix wi g tt te) (rR i)):=PS.nO (HE (g:=V5 X.K g) (tt:=Ub X.K tt) (te:=lo X.K te) hN hix hx hc S hi (λ_ _ _ _=>hg) (λ_ _ _ _=>ht) (λ_ _ _ _=>he) Zn hf hs) λD' Y H hl zz=>J0 zz λU M D hs hm ht k1 k2 k3 k4=>
 IX Y H _ ⟨U,M,_,hs,hm,ht,λv H1 d M1 hd XX e1 q1=>k1 _ H1 _ M1 ((hs.mono e1).set hd (by rw[hl];exact(c9.mp hix).1)) XX e1 (by simp) q1⟩
def Xx(hr:sj k A):A.units+9<wP:=by have:=hr.units;lia
noncomputable def Iz(sc:XXb)(N:QQQ)(scope:XXb)(ix:T0 (Option Nat))(N':QQQ):Bool:=
 (scope.kind==.function)&&(scope.names.all λy=>!(y.2==.cell))&&(scope.names.all λy=>!(y.2==.local)||(scope.names.lookup y.1==ga .local))&&
 (scope.names.all λy=>!(y.2==.free)||(sc.names.lookup y.1==ga .cell)||(sc.names.lookup y.1==ga .free))&&(ix.length==N'.length)&&
 ((ix.zip N').all λp=>match p.1 with|none=>Db|some i=>(N[i]?==ga p.2)&&(scope.names.lookup p.2==ga .free))
def UR{X:Cx}(h:Iz X.env.scope X.N scope ix N'=Db):sv X scope ix N':=by
 unfold Iz at h;simp only[d6]at h;obtain⟨⟨⟨⟨⟨h1,h2⟩,h3⟩,h4⟩,h5⟩,h6⟩:=h;refine⟨by simpa using h1,λy hy e=>?_,λy hy e=>?_,λy hy e=>?_,by simpa using h5,λj i x e1 e2=>?_⟩
 .have:=eR.mp h2 y hy;rw[e]at this;simp at this
 .have:=eR.mp h3 y hy;rw[e]at this
  simpa using this
 .have:=eR.mp h4 y hy;rw[e]at this
  simpa using this
 .have hm:(ga i,x)∈ix.zip N':=by
   have:(ix.zip N')[j]?=ga (ga i,x):=by rw[List.getElem?_zip_eq_some];exact⟨e1,e2⟩
   exact fj this
  have:=eR.mp h6 _ hm
  simpa using this
section
variable {a b:Go}
def I0(op YL:CmpOp)(ta tb tc:T3):T3:=λU M Q=>ta U M λx M1=>tb U M1 λy M2=>Qn op x y M2 λz M3=>match z with
 | .bl k=>if k=Db then tc U M3 λw M4=>Qn YL y w M4 Q else Q (.bl pc) M3
 | _=>False
def uy{op YL:CmpOp}(hu:X.A.units+9<wP)(ha:E3 X a ta)(hb:E3 X b tb)(hc:E3 X c tc)(hmk:lastMarks [op,YL] [b,c]=pc:=by rfl):
  E3 X (.Compare a [op,YL] [b,c] pos) (I0 op YL ta tb tc):=PE.mono (Oq (KA op hu) (KA YL hu) ha hb hc hmk) λY H Q' zz=>x7 zz λU M Q hs hm ht k=>
 ⟨U,M,_,hs,hm,ht,λv H1 x M1 hx XX e1 q1=>⟨U,M1,_,hs.mono e1,XX,q1,λu H2 y M2 hy X8 e2 q2=>⟨x,y,M2,_,hx.mono e2,hy,X8,q2,λw H3 z M3 hz Yq e3 q3=>by
  cases z with
  | bl c=>
   refine⟨c,hz.mI,?_⟩;cases c with
   | true=>refine(dh Z').mpr ⟨U,M3,_,hs.mono (e1.trans (e2.trans e3)),Yq,(dh Z').mp q3,λw' H4 d M4 hd ZS e4 q4=>⟨y,d,M4,Q,hy.mono (e3.trans e4),hd,ZS,q4,vm (e1.trans (e2.trans (e3.trans e4))) k⟩⟩
   | false=>exact(dg dD).mpr (k _ H3 _ M3 .bl Yq (e1.trans (e2.trans e3)) ((dg dD).mp q3))
  | _=>exact q3.elim⟩⟩⟩
def G1{op YL:CmpOp}(hu:X.A.units+9<wP)(ha:E3 X a ta)(hb:E3 X b tb)(hc:E3 X c tc)(hmk:lastMarks [op,YL] [b,c]=pc:=by rfl):
  B3 X (.Compare a [op,YL] [b,c] pos) (b3 (I0 op YL ta tb tc)):=PT.mono (NE (KA op hu) (KA YL hu) ha hb hc hmk) λY H Q' zz=>x7 zz λU M Q hs hm ht k=>
 ⟨U,M,_,hs,hm,ht,λv H1 x M1 hx XX e1 q1=>⟨U,M1,_,hs.mono e1,XX,q1,λu H2 y M2 hy X8 e2 q2=>⟨x,y,M2,_,hx.mono e2,hy,X8,q2,λw H3 z M3 hz Yq e3 q3=>by
  cases z with
  | bl c=>
   refine⟨c,hz.mI,?_⟩;cases c with
   | true=>
    refine(dh Z').mpr ⟨U,M3,_,hs.mono (e1.trans (e2.trans e3)),Yq,(dh Z').mp q3,λw' H4 d M4 hd ZS e4 q4=>⟨y,d,M4,_,hy.mono (e3.trans e4),hd,ZS,q4,λw5 H5 d5 M5 hd5 hm5 e5 q5=>?_⟩⟩;cases d5 with
    | bl c5=>exact⟨c5,hd5.mI,k c5 H5 M5 hm5 (e1.trans (e2.trans (e3.trans (e4.trans e5)))) q5⟩
    | _=>exact q5.elim
   | false=>exact(dg dD).mpr ⟨pc,Z',k pc H3 M3 Yq (e1.trans (e2.trans e3)) ((dg dD).mp q3)⟩
  | _=>exact q3.elim⟩⟩⟩
structure Wm(K:qy)(C:Uf):Prop where
 ha:W.findIn K (.ref C) "__class__"=ga (ga (.builtin "object.__class__"))
 hn:W.specialIn K (.builtin "object.__class__") "__get__"=ga (ga (.builtin "getset_descriptor.__get__"))
 htk:W.takesIn K (.builtin "object.__class__")=ga Db
 hm:W.mroIn K C (.type "object")=ga Db
noncomputable def HV:Option vc->Option Vl
 | some (.lst _)=>ga (.type "list")
 | some (.ins C _)=>ga (.ref C)
 | some (.dk _)=>ga (.type "dict")
 | some (.exc _)=>Fa
 | none=>Fa
noncomputable def Xm(M:Mp):D->Option Vl
 | .mK=>ga (.type "NoneType")
 | .bl _=>ga (.type "bool")
 | .int _=>ga (.type "int")
 | .str _=>ga (.type "str")
 | .tup _=>ga (.type "tuple")
 | .ref a=>HV (M a)
 | .ty _=>Fa
 | .rl _=>ga (.type "list")
noncomputable def WW:D->Option Vl
 | .ref C=>ga (.ref C)
 | .ty n=>ga (.type n)
 | _=>Fa
def Rf(K:qy)(ds:T0 D)(M:Mp)(Q:DK):Prop:=match ds with
 | [x,c]=>(Xm M x).elim False λt=>(WW c).elim False λcv=>(∀C,t=.ref C->Wm K C)/\(W.kitOne K t cv).elim False λb=>Q (.bl b) M
 | _=>False
def yC:C3 X (.builtin "isinstance") (Rf X.K):=by
 intro XU s Y H vs us Q' I rv h;obtain⟨ds,M,Q,hd,hm,q,k⟩:=h;unfold Rf at q;split at q
 .rename_i x c;obtain⟨v,u,rfl,hv,hw⟩:=zH hd;obtain⟨t,et,q⟩:=qJ q;obtain⟨cv,ec,hC,q⟩:=qJ q;obtain⟨b,eb,qb⟩:=qJ q;obtain⟨uv,uw,rfl,rv1,rv2⟩:=Ji rv;have ecv:uw=cv:=by
   cases c with
   | ref C=>cases hw.mG;cases ec;exact rv2
   | ty n=>cases hw.nQ;cases ec;exact rv2
   | _=>cases ec
  subst ecv;have X0:∀tk,EP X XU Y Q' (.bool b) {s with toks:=tk}:=λtk=>⟨.bl b,H,I.tok tk,Z',k _ _ _ _ .bl hm .refl qb⟩;cases x with
  | mK=>cases hv.mJ;cases et;exact uI I rv1 .mK eb X0
  | bl y=>cases hv.mI;cases et;exact uI I rv1 (.bl y) eb X0
  | int y=>cases hv.int_inv;cases et;exact uI I rv1 (.int y) eb X0
  | str y=>cases hv.str_inv;cases et;exact uI I rv1 (.str y) eb X0
  | tup ds=>obtain⟨a,xs,rfl,h1,h2⟩:=hv.mO;cases et;cases rv1;obtain⟨its,r,p,_⟩:=I.tuple h1;obtain⟨o,g1,g2,_⟩:=p;exact gC W.kitx_tuple I.m7 ⟨o,g1,g2⟩ eb (λz=>nomatch z) X0
  | ref a=>
   cases hv.mG;have et:HV (M a)=ga t:=et;cases e:M a with
   | none=>rw[e]at et;cases et
   | some cell=>
    rw[e]at et;have ok:=hm a cell e;cases cell with
    | lst ds=>cases et;obtain⟨xs,e1,_⟩:=ok;exact uI I rv1 (.lst e1) eb X0
    | ins C fs=>cases et;obtain⟨dx,vs,e1,cl,_⟩:=ok;obtain⟨i1,i2,i3,i4⟩:=hC C Z';exact uI I rv1 (.ins e1 cl i1 i2 i3 i4) eb X0
    | dk kvs=>cases et;obtain⟨vs,e1,_⟩:=ok;exact uI I rv1 (.dK e1) eb X0
    | exc C=>cases et
  | ty n=>cases et
  | rl ds=>obtain⟨p,xs,rfl,h1,h2⟩:=hv.mY;cases et;cases rv1;obtain⟨its,r,⟨o,n,g1,g2,_⟩,_⟩:=I.list h1.sq;exact gC lD I.m7 ⟨o,g1,g2⟩ eb (λz=>nomatch z) X0
 .exact q.elim
noncomputable def Gv:T0 D->Option (T0 Bool)
 | []=>ga []
 | .bl b::r=>(Gv r).map (b::·)
 | _::_=>Fa
theorem EV{K:qy}:∀{ds:T0 D} {bs:T0 Bool} {xs:T0 V} {us:T0 Vl},Gv ds=ga bs->qr K H ds xs->qA xs us->us=bs.map Value.bool
 | [],bs,xs,us,e,h,r=>by cases e;have:=h.nil_inv;subst this;cases r;rfl
 | d::ds,bs,xs,us,e,h,r=>by
  cases d with
  | bl b=>
   obtain⟨y,ys,rfl,h1,h2⟩:=h.inv;cases h1.mI;unfold Gv at e;cases q:Gv ds with
   | none=>rw[q]at e;cases e
   | some cs=>
    rw[q]at e;cases e;cases r with
    | cons r1 r2=>cases r1;rw[EV q h2 r2];rfl
  | _=>cases e
def VT(ds:T0 D)(M:Mp)(Q:DK):Prop:=match ds with
 | [.ref a]=>(og M a).elim False λes=>(Gv es).elim False λbs=>Q (.bl (bs.all id)) M
 | _=>False
def Fv(hc:X.calm=Db):C3 X (.builtin "all") VT:=by
 intro XU s Y H vs us Q' I rv h;obtain⟨ds,M,Q,hd,hm,q,k⟩:=h;unfold VT at q;split at q
 .rename_i a;obtain⟨v,rfl,hv⟩:=rX hd;obtain⟨es,e0,q⟩:=qJ q;obtain⟨bs,e1,q⟩:=qJ q;cases hv.mG;obtain⟨u,rfl,ru⟩:=xB rv;cases ru;obtain⟨xs,h1,h2,_⟩:=qk hm e0;obtain⟨its,r,pl,hz⟩:=I.list h1;have eits:=EV e1 h2 r;subst eits;have Yk:a≠s.heap.objs.size:=by obtain⟨o,_,e,_⟩:=pl;exact dW (dG e)
  refine call_all_walk (ic pl.isList ?_);refine⟨s.heap.objs.size,_,_,_,_,_,λi=>(bs[i]?).getD Db,Z',kt (A:=X.A.in1) (I.ok.hd hc) _ a Yk (bs.map Value.bool).toArray,⟨⟨_,dO _ Z',Z',Z'⟩,?_⟩,λi v s' Q E hP hQ=>?_,λh' tk hk=>?_⟩
  .obtain⟨o,n,e,c,d,q⟩:=pl;exact⟨o,dq _ e,c,n,q⟩
  .simp only[iP,dE]at hP;cases e2:bs[i]? with
   | none=>rw[e2]at hP;cases hP
   | some b=>rw[e2]at hP;cases hP;have hQ:Q ((bs[i]?).getD Db) s':=hQ;rw[e2]at hQ;exact fz hQ
  .have ea:(List.range (bs.map Value.bool).toArray.size).all (λi=>(bs[i]?).getD Db)=bs.all id:=by
    rw[dB,cY];rw[fW,eR,eR];constructor
    .intro z b hb;obtain⟨i,hi,e⟩:=gZ hb;have:=z i (gF.mpr hi);rw[df hi,e]at this;exact this
    .intro z i hi;have ZT:=gF.mp hi;rw[df ZT];exact z _ (ip ZT)
   rw[ea];refine⟨.bl (bs.all id),H,?_,Z',k _ _ _ _ .bl hm .refl q⟩;exact I.kept (h':=h') (t':=tk) λb o e=>hk b o (by simpa using dW (dG e)) (dq _ e)
 .exact q.elim
noncomputable def Bm(x:D):T0 D->Option Nat
 | []=>Fa
 | d::r=>if Px d x=Db then ga 0 else(Bm x r).map (·+1)
theorem JH{K:qy}{e:D}{w:V}(g:rT K H e w)(fe:uX e=Db):∀{ds:T0 D} {xs:T0 V} {us:T0 Vl} {j:Nat},qr K H ds xs->qA xs us->ds.all uX=Db->Bm e ds=ga j->
  ∃h:j<us.length,FW w us[j]=Db/\∀m (hm:m<us.length),m<j->FW w us[m]=pc
 | [],_,_,_,_,_,_,q=>by cases q
 | d::ds,_,us,j,h,r,fl,q=>by
  obtain⟨y,ys,rfl,h1,h2⟩:=h.inv;rw[fD,d6]at fl;cases r with
  | @cons _ u _ us' r1 r2=>
   have eu:FW w u=Px d e:=by rw[Hv r1 (zT h1 fl.1),JD h1 g fl.1 fe]
   unfold Bm at q;by_cases hq:Px d e=Db
   .rw[dh hq]at q;cases q;exact⟨by simp,by simpa [eu]using hq,λm _ hm=>absurd hm (Nat.not_lt_zero m)⟩
   .rw[dg hq]at q;cases q2:Bm e ds with
    | none=>rw[q2]at q;cases q
    | some j'=>
     rw[q2]at q;cases q;obtain⟨hl,e1,e2⟩:=JH g fe h2 r2 fl.2 q2;refine⟨by simpa using hl,by simpa using e1,λm hm Yc=>?_⟩;cases m with
     | zero=>simpa [eu]using hq
     | succ m=>simpa using e2 m (by simpa using hm) (by have z:m+1<j'+1:=Yc;lia)
def SH(x:D)(ds:T0 D)(M:Mp)(Q:DK):Prop:=match x,ds with
 | .ref a,[y]=>(og M a).elim False λes=>uX y=Db/\es.all uX=Db/\(Bm y es).elim False λj=>Q (.int (j:Nat)) M
 | _,_=>False
def M3(X:Cx)(id:String)(r:D->T0 D->Mp->DK->Prop):Prop:=WO X id λvx vs H Q'=>∃x ds M Q,rT X.K H x vx/\qr X.K H ds vs/\HM X.K H M/\r x ds M Q/\Up X.K H Q' Q
def MU:M3 X "list.index" SH:=by
 intro XU s Y H vx vs v us Q' I rx rv h;obtain⟨x,ds,M,Q,hx,hd,hm,q,k⟩:=h;unfold SH at q;split at q
 .rename_i a y;obtain⟨es,e0,f1,f2,q⟩:=qJ q;obtain⟨j,e1,q⟩:=qJ q;cases hx.mG;cases rx;obtain⟨w,rfl,hw⟩:=rX hd;obtain⟨u,rfl,ru⟩:=xB rv;obtain⟨xs,h1,h2,rd⟩:=qk hm e0;obtain⟨hz,its,n,r,g⟩:=rd.ok I.mR;obtain⟨hl,p1,p2⟩:=JH hw f1 h2 r f2 e1;have hlz:its.length<=Ch:=by rw[<-r.length];exact hz
  have h63:=ym;refine iX F.slot_list_index ⟨_,g,Z'⟩ F.entry_list_index (F.args_list_index_2 _ _) (SeqAt.list_indexAt a its.toArray n Fa #[] u (FW w) j (by simpa using hl) (by lia) (by simpa using p1) λm hm Yc=>by simpa using p2 m (by simpa using hm) Yc) ⟨g,?_,?_⟩
  .intro z hz';exact wH ru (zT hw f1) r (E9 h2 f2) z (by simpa using hz')
  .exact⟨.int (j:Nat),H,I.tok _,⟨_,Z'⟩,k _ _ _ _ .int hm .refl q⟩
 .exact q.elim
def Ri(M:Mp):D->Prop
 | .ref a=>(og M a).isSome=Db
 | _=>False
def Wa(r:D->T0 D->Mp->DK->Prop)(to:T3)(t:xE):T3:=λU M Q=>to U M λx M1=>Ri M1 x/\t U M1 λds M2=>r x ds M2 Q
def NH{K:qy}{x:D}(hm:HM K H M)(h:rT K H x v)(l:Ri M x):VZ K "list" v H:=by
 cases x with
 | ref a=>cases h.mG;obtain⟨ds,e⟩:=iA.mp (show(og M a).isSome=Db from l);obtain⟨xs,h1,_⟩:=qk hm e;exact .inl ⟨Z',xs,h1⟩
 | _=>exact l.elim
def RH{id:String}(slot:Slot "list" name id)(hty:typeOf (.builtin id)=pure (.type "method_descriptor"))(hm:M3 X id r)(ho:E3 X o ta)(ha:A3 X (e::es) t) (X9:Rs o name X.env (wp o X.env)=wp o X.env:=by rfl)
  (Zb:((xz pos (Tl (e::es) X.env)).all (λx=>!x.1)&&(xL pos (Ps [] X.env)).all (λx=>x.1.isSome)
   &&decide ((e::es).length+([]:T0 XXc).length+(if ([]:T0 XXc).isEmpty then 0 else 1)<30))=Db:=by rfl)
  (Yh:(XY.endLine==pos.line)=Db:=by rfl) (hs:By X e es:=by rfl) (Yd:C6 X pos es:=by rfl):
  E3 X (.Call (.Attribute o name XY) (e::es) [] pos) (Wa r ta t):=PE.mono (Um jT slot hty hm ho ha X9 Zb Yh hs Yd) λY H Q' zz=>x7 zz λU M Q hs hm ht k=>
 ⟨U,M,_,hs,hm,ht,λv H1 x M1 hx XX e1 q1=>⟨NH XX hx q1.1,U,M1,_,hs.mono e1,XX,q1.2,λvs H2 ds M2 Za X8 e2 q2=>⟨x,ds,M2,Q,hx.mono e2,Za,X8,q2,vm (e1.trans e2) k⟩⟩⟩
def yj(ho:E3 X o ta)(ha:A3 X (e::es) t) (X9:Rs o "index" X.env (wp o X.env)=wp o X.env:=by rfl)
  (Zb:((xz pos (Tl (e::es) X.env)).all (λx=>!x.1)&&(xL pos (Ps [] X.env)).all (λx=>x.1.isSome)
   &&decide ((e::es).length+([]:T0 XXc).length+(if ([]:T0 XXc).isEmpty then 0 else 1)<30))=Db:=by rfl)
  (Yh:(XY.endLine==pos.line)=Db:=by rfl) (hs:By X e es:=by rfl) (Yd:C6 X pos es:=by rfl):
  E3 X (.Call (.Attribute o "index" XY) (e::es) [] pos) (Wa SH ta t):=RH PySem.F.slot_list_index PySem.F.type_list_index MU ho ha X9 Zb Yh hs Yd
structure LV(K:qy)(C:Uf)(m:Str)(f:Uf):Prop where
 hg:W.specialIn K (.ref C) "__getattribute__"=ga (ga (.builtin "type.__getattribute__"))
 rd:W.readsIn K C (.type "type")=Db
 fc:W.findCls K (.ref C) (.type "type") m=ga (.val (.ref f))
def P'{sp:Sp}{t:TA}{pl:Sem Bool}(cm:LV X.K C m f)(F:xN X.prog X.w X.K X.mg X.base OC k f fd ps sp)(hr:sj k X.A)(hg:Gl X x)(hm:X.mg x=ga (.ref C))(hk:W.keepIn X.K (.ref f)=Db)(hb:uY X.K fd ps [])(ha:PA X (e::es) t) (Ye:zu x:=by decide) (Yi:By X e es:=by rfl) (Yb:C6 X pos es:=by rfl)
  (ht:wp (.Call (.Attribute (.Name x p) m XY) (e::es) [] pos) X.env=(do
   let ov<-wp (.Name x p) X.env
   Y' XY.atName
   let(f,first)<-Ix [ov] (TW ov m pl)
   XXe pos f first (xz pos (Tl (e::es) X.env)) (xL pos (Ps [] X.env))):=by rfl):
  PE X (.Call (.Attribute (.Name x p) m XY) (e::es) [] pos) (λY H Q=>t Y H λvs H1=>sp vs H1 Q E0):=by
 intro XU s Y H Q I h;refine jY (pl:=pl) (xk I hg hm ?_ Ye) ht;refine W.method_cls I.m7 cm.hg (W.cls_value I.m7 cm.rd cm.fc Z' ?_);refine iV (first:=[]) (h₀:=X.base) I.ok.mod.oo hk (sf (ha pos XU _ Y H _ (I.tok _) h) λus s2 zz=>x5 zz λvs H2 I2 r q2=>⟨I2.m7,?_⟩) Yi Yb;exact FS F hr hb .nil (Ge (X:=X)) I2 r (by rw[eO];exact q2)
def Rb{pl:Sem Bool}(cm:LV X.K C m f)(F:Ua X.prog X.w X.K X.mg X.base k f fd ps sp)(hr:sj k X.A)(hg:Gl X x)(hm:X.mg x=ga (.ref C))(hk:W.keepIn X.K (.ref f)=Db)(hb:uY X.K fd ps [])(ha:A3 X (e::es) t) (Ye:zu x:=by decide) (Yi:By X e es:=by rfl) (Yb:C6 X pos es:=by rfl)
  (ht:wp (.Call (.Attribute (.Name x p) m XY) (e::es) [] pos) X.env=(do
   let ov<-wp (.Name x p) X.env
   Y' XY.atName
   let(f,first)<-Ix [ov] (TW ov m pl)
   XXe pos f first (xz pos (Tl (e::es) X.env)) (xL pos (Ps [] X.env))):=by rfl):
  E3 X (.Call (.Attribute (.Name x p) m XY) (e::es) [] pos) (D3 sp t):=PE.mono (P' cm F hr hg hm hk hb ha Ye Yi Yb ht) λY H Q' zz=>x7 zz λU M Q hs hm ht k=>
 ⟨U,M,_,hs,hm,ht,λvs H1 ds M1 hd XX e1 q1=>⟨ds,M1,Q,hd,XX,q1,vm e1 k⟩⟩
def qE:zn "len"=ga (.builtin "len"):=by decide+kernel
def Ow:zn "min"=ga (.builtin "min"):=by decide+kernel
def uU:zn "isinstance"=ga (.builtin "isinstance"):=by decide+kernel
def E2:zn "all"=ga (.builtin "all"):=by decide+kernel
def ur:zn "tuple"=ga (.type "tuple"):=by decide+kernel
def sD:zn "list"=ga (.type "list"):=by decide+kernel
def MI:zn "int"=ga (.type "int"):=by decide+kernel
def Pi:zn "bool"=ga (.type "bool"):=by decide+kernel
def EQ:zn "dict"=ga (.type "dict"):=by decide+kernel
def F6:zn "enumerate"=ga (.type "enumerate"):=by decide+kernel
def Nk:zn "zip"=ga (.type "zip"):=by decide+kernel
end
theorem _root_.L2.Inv.drawn{ch:QXQ}{T:Uf}{xs:T0 V}{h':No}{tk:Nat}(I:Inv X XU Y H s)(YT:∀b∈ch,zC X XU H b)(k:∀b o,b∉ch->s.heap.get? b=ga o->h'.get? b=ga o)(hT:s.heap.objs.size<=T)(hx:xs.length<=Ch) (rv:qA xs its) (ht:EK h' T its.toArray):Inv X XU Y (upd H T (.tup xs)) {s with heap:=h',toks:=tk}:=by
 have hT0:H T=Fa:=I.mR.fresh hT;have nT:∀b o,s.heap.get? b=ga o->b≠T:=λb o e=>dW (dR (dG e) hT);refine I.step (g':=s.gens) (d':=s.drawn) (ch:=ch) (λb hb=>⟨(YT b hb).2.2.2.1,(YT b hb).2.1,(YT b hb).2.2.2.2.1,(YT b hb).2.2.2.2.2⟩) (λb o _ _ hc e _=>k b o hc e) (λb o _ _ hc e _=>⟨o.slots,k b o hc e⟩) (λb o _ e n=>by rw[qd (nT b o e)];exact n)
  (λb o hc e=>⟨o,k b o hc e⟩) (λb ys e=>by rw[qd (qX e hT0)];exact e) (λb o u e=>by rw[qd (qX e hT0)];exact e) (λb ps e=>⟨#[],by rw[qd (qX e hT0),e];simp⟩) (λm hm=>?_) (λb u e=>?_) I.bare
 .obtain⟨o,es,ep,ho,r⟩:=hm;exact⟨o,es,ep,k _ o (λz=>(YT _ z).2.1 Z') ho,r⟩
 .by_cases hb:b=T
  .subst hb;rw[qg]at e;cases e;exact⟨hx,its,rv,ht⟩
  .rw[qd hb]at e;refine(I.mR b u e).nF (λc v hc q=>k c v (λz=>?_) q) (λc q=>by rw[qd (qX q hT0)];exact q) (λc ys q=>by rw[qd (qX q hT0)];exact q);have n:=(YT c z).1;rcases hc with y|y
   .rw[y,e]at n;cases n
   .rw[y]at n;cases n
noncomputable def WT(K:qy)(a:Uf):It:=
 ⟨λi H=>∃xs x,xR K H a xs/\xs[i]?=ga x,λi H x H'=>∃p y,x=.ref p/\H p=Fa/\H'=upd H p (.tup [.int (i:Nat),y])/\∀xs,xR K H a xs->xs[i]?=ga y,λi H=>∃xs,xR K H a xs/\xs.length<=i⟩
def KG{K:qy}(a e it:Uf)(hei:e≠it):GB P w K (.Tuple Yl n tp) (WT K a) [e,it] e (λi h=>(∃Yt,IsEnum h e it (i:Nat) Yt)/\h.IsListIter it a i) where
 mem:=by simp
 obj:=λi h st b hb=>by
  obtain⟨⟨Yt,he⟩,o,e1,c,d⟩:=st;rcases dC.mp hb with rfl|hb
  .exact⟨_,he,λv z=>by cases z⟩
  .rw[dz.mp hb];exact⟨o,e1,λv z=>by rw[d]at z;cases z⟩
 keep:=λi h h' st k=>by obtain⟨⟨Yt,he⟩,hi⟩:=st;exact⟨⟨Yt,k e (by simp) _ he⟩,hi.at λo q=>k it (by simp) o q⟩
 item:=by
  intro X hP hw hK hc i XU s Y H E I hf st hg;subst hP hw hK;obtain⟨xs,x,hq,hx⟩:=hg;obtain⟨its,rv,p,hz⟩:=I.list hq;obtain⟨u,hu,ru⟩:=rv.get hx;obtain⟨⟨Yt,he⟩,hi⟩:=st;refine wpAny_pyNext_enum_item he hi p.isList (x:=u) (by simpa using hu) hei λh1 ho Y4 hT hsz hk=>?_;refine⟨_,Z',wpAny_letOwnedTupleGo_enum ho λh2 he2 YA=>?_⟩;have helt:e<s.heap.objs.size:=dG he;have hilt:it<s.heap.objs.size:=by obtain⟨o,q,_⟩:=hi;exact dG q
  have kk:∀b o,b∉[e,it]->s.heap.get? b=ga o->h2.get? b=ga o:=λb o hb q=>(YA.2 b λz=>hb (by simp[z])).trans (hk b o (λz=>hb (by simp[z])) (λz=>hb (by simp[z])) q);have hT2:h2.get? s.heap.objs.size=ga {cls:=.type "tuple",data:=.seq #[.int (i:Nat) s.toks,u]}:=(YA.2 _ (ii helt)).trans hT;have hT0:H s.heap.objs.size=Fa:=I.mR.fresh (dv _);have I2:=I.drawn (ch:=[e,it]) (T:=s.heap.objs.size) (xs:=[.int (i:Nat),x]) (its:=[.int (i:Nat) s.toks,u]) (h':=h2) (tk:=s.toks+1) hf kk (dv _) (by show 2<=Ch;decide) (.cons ⟨_,Z'⟩ (.cons ru .nil)) ⟨_,hT2,Z',⟨_,Z'⟩,Z'⟩;refine⟨.ref s.heap.objs.size,_,I2,Z',⟨_,x,Z',hT0,Z',λys hy=>by rw[I.nI hy hq];exact hx⟩,⟨⟨_,by simpa using he2⟩,Y4.extBut YA.extBut (dZ hei)⟩,λb hb=>?_⟩;have YO:b<s.heap.objs.size:=by
   rcases dC.mp hb with z|z
   .rw[z];exact helt
   .rw[dz.mp z];exact hilt
  rw[qd (dW YO)];exact(hf b hb).1
 done:=by intro X hP hw hK hc i XU s Y H E I hf st hg;subst hP hw hK;obtain⟨xs,hq,hx⟩:=hg;obtain⟨its,rv,p,hz⟩:=I.list hq;obtain⟨⟨Yt,he⟩,hi⟩:=st;have hl:=rv.length;obtain⟨f0,f1,f2,f3,f4,f5⟩:=hf it (by simp);exact wpAny_pyNext_enum_end (I.ok.hd hc) he hi p.isList (by simp;lia) λh' eb=>⟨Z',I.turned (t':=s.toks) (λb o hb q=>eb b o hb q) f0 f1 f3 f4 f5⟩
 self:=λ_ _ _ _ _ st h=>by obtain⟨⟨Yt,he⟩,_⟩:=st;exact lA he h
variable {tp:Pos}{Yl:T0 Go}{n:Nat}
def Pe{a:Go}{ta:TA}(hg:Gl X "enumerate")(hm:X.mg "enumerate"=Fa)(ha:PA X [a] ta)(hs:Tl [a] X.env=[(pc,wp a X.env)]:=by rfl):
  PI X (.Tuple Yl n tp) (.Call (.Name "enumerate" p) [a] [] pos) (λY H R=>ta Y H λvs H1=>∃l,vs=[.ref l]/\(∃xs,xR X.K H1 l xs)/\R (WT X.K l) H1):=by
 intro XU s Y H R I h;refine Call_ (wk I hg hm F6 (fF (sf (ha pos XU s Y H _ I h) λus s1 zz=>x5 zz λvs H1 I1 r1 q1=>?_) hs Z'));obtain⟨l,e,⟨xs,hq⟩,q⟩:=q1;subst e;obtain⟨u,rfl,ru⟩:=xB r1;cases ru;obtain⟨its,rv,pl,hz⟩:=I1.list hq;refine call_enumerate_list pl.isList λh' he hi hsz hk=>?_;refine lA he ?_;have I2:Inv X XU Y H1 {s1 with heap:=h'}:=I1.kept (t':=s1.toks) hk;refine⟨s1.heap.objs.size+1,[s1.heap.objs.size+1,s1.heap.objs.size],_,_,H1,Z',I2,KG l _ _ (Nat.succ_ne_self _),⟨⟨_,he⟩,hi⟩,λb hb=>?_,q⟩;have YO:s1.heap.objs.size<=b:=by
  rcases dC.mp hb with z|z
  .rw[z];exact ia _
  .rw[dz.mp z];exact dv _
 exact I1.nV YO (I1.mR.fresh YO)
noncomputable def uF:Nat->T0 D->T0 D
 | _,[]=>[]
 | i,d::r=>.tup [.int (i:Nat),d]::uF (i+1) r
theorem zE:∀{ds:T0 D} {i j:Nat},(uF j ds)[i]?=(ds[i]?).map λd=>D.tup [.int ((j+i:Nat):Int),d]
 | [],i,j=>by simp[uF]
 | d::r,0,j=>by simp[uF]
 | d::r,i+1,j=>by show(uF (j+1) r)[i]?=_;rw[zE];simp only[List.getElem?_cons_succ];rw[show j+1+i=j+(i+1)by lia]
theorem vo:∀{ds:T0 D} {j:Nat},(uF j ds).length=ds.length
 | [],j=>rfl
 | d::r,j=>by simp[uF,vo]
def MH{K:qy}:FI K H1 (WT K a) (uF 0 ds) (λM=>og M a=ga ds) where
 go:=λi H M hi hm ok _=>by rw[vo]at hi;obtain⟨xs,h1,h2,_⟩:=qk hm ok;obtain⟨x,e,_⟩:=h2.get (df hi);exact⟨xs,x,h1,e⟩
 oV:=λi d H M x H' hd hm ok _ y=>by
  obtain⟨xs,h1,h2,_⟩:=qk hm ok;obtain⟨p,z,rfl,hp,rfl,y⟩:=y;rw[zE]at hd;cases e:ds[i]? with
  | none=>rw[e]at hd;cases hd
  | some d'=>rw[e]at hd;cases hd;obtain⟨x',e',hx⟩:=h2.get e;have w1:=y xs h1;rw[e']at w1;have w2:x'=z:=dw w1;subst w2;have ex:qV K H (upd H p (.tup [.int (i:Nat),x'])):=.new hp;refine⟨.tup (.of qg) (.cons (by rw[mv];exact .int) (.cons (hx.mono ex) .nil)),hm.add hp,ex⟩
 stop:=λH M hm ok _=>by obtain⟨xs,h1,h2,_⟩:=qk hm ok;exact⟨xs,h1,by rw[vo,h2.length];exact dv _⟩
def TJ(t:xE):LM:=λU M R=>t U M λds M1=>match ds with
 | [.ref a]=>(og M1 a).elim False λes=>R (uF 0 es) (λM=>og M a=ga es) M1
 | _=>False
def xx{a:Go}{ta:xE}(hg:Gl X "enumerate")(hm:X.mg "enumerate"=Fa)(ha:A3 X [a] ta)(hs:Tl [a] X.env=[(pc,wp a X.env)]:=by rfl):I3 X (.Tuple Yl n tp) (.Call (.Name "enumerate" p) [a] [] pos) (TJ ta):=
 PI.mono (Pe hg hm ha hs) λY H R' zz=>x7 zz λU M R hs hm ht k=>⟨U,M,_,hs,hm,ht,λvs H1 ds M1 hd XX e1 q1=>by
  split at q1
  .obtain⟨v,rfl,hv⟩:=rX hd;cases hv.mG;obtain⟨es,e0,q⟩:=qJ q1;obtain⟨xs,h1,h2,_⟩:=qk XX e0;exact⟨_,Z',⟨xs,h1⟩,k _ H1 _ _ M1 MH XX e1 e0 q⟩
  .exact q1.elim⟩
variable {prog:Pg}{A:Ar}{E:QQX}
def IQ{it t:Uf}{i:Nat}{its:Array Vl}{x:Vl}{Q:QQX}(hi:s.heap.IsTupleIter it t i)(ht:s.heap.IsTuple t its)(hx:its[i]?=ga x) (hQ:∀g,g.IsTupleIter it t (i+1)->Heap.SameBut it s.heap g->Q x {s with heap:=g}):pi (Tk prog w) A (Builtin.SmallTypes.nextOf (.ref it)) Q E s:=by
 obtain⟨ob,e1,e2,e3⟩:=id hi;obtain⟨ot,e4,_,nt,e5⟩:=ht;unfold Builtin.SmallTypes.nextOf;refine cZ (fN (name:=Str.ofString "__next__") hi.typeIs gM (gq gM hi.typeIs jn ?_ (jj _)));show pi (Tk prog w) _ (field (.ref it) 0>>=_) _ _ s;refine cZ (fm e1 e3 (x:=.ref t) Z' ?_);show pi (Tk prog w) _ (if (Value.ref t==Value.none)=Db then _ else _) _ _ s;rw[dg (show ¬(Value.ref t==Value.none)=Db from dD)];show pi (Tk prog w) _ (field (.ref it) 1>>=_) _ _ s;refine cZ (fm e1 e3 (x:=.int i 0) Z' ?_);show pi (Tk prog w) _ (seqItems? (.ref t)>>=_) _ _ s;refine cZ (gG e4 e5 ?_);simp only[jr,hx];refine cZ (im e1 e3 (by simp) (dA ⟨x,Z',dA (hQ _ ⟨_,fM _ e1 (Obj.isFreed_of_fields (kZ e3 _)),(Obj.cls_mapFields ..).trans e2,?_⟩ (kH ..))⟩));rw[kZ e3];simp[u8]
def Cn{it t:Uf}{i:Nat}{its:Array Vl}{Q:QQX}(hh:A.handled=Fa)(hi:s.heap.IsTupleIter it t i)(ht:s.heap.IsTuple t its)(hx:its[i]?=Fa) (hE:∀g e,Heap.ExtBut it s.heap g->(∃o,g.get? e=ga o/\o.cls=.type "StopIteration")->E (.ref e) {s with heap:=g}):pi (Tk prog w) A (Builtin.SmallTypes.nextOf (.ref it)) Q E s:=by
 obtain⟨ob,e1,e2,e3⟩:=id hi;obtain⟨ot,e4,_,nt,e5⟩:=ht;unfold Builtin.SmallTypes.nextOf;refine cZ (fN (name:=Str.ofString "__next__") hi.typeIs gM (gq gM hi.typeIs jn ?_ (jj _)));show pi (Tk prog w) _ (field (.ref it) 0>>=_) _ _ s;refine cZ (fm e1 e3 (x:=.ref t) Z' ?_);show pi (Tk prog w) _ (if (Value.ref t==Value.none)=Db then _ else _) _ _ s;rw[dg (show ¬(Value.ref t==Value.none)=Db from dD)];show pi (Tk prog w) _ (field (.ref it) 1>>=_) _ _ s;refine cZ (fm e1 e3 (x:=.int i 0) Z' ?_);show pi (Tk prog w) _ (seqItems? (.ref t)>>=_) _ _ s;refine cZ (gG e4 e5 ?_);simp only[jr,hx];refine cZ (kr (cZ (im e1 e3 (by simp) ?_)));show pi (Tk prog w) _ (newExc (.type "StopIteration") []>>=_) _ _ _;refine cZ ?_;simp only[newExc,newTuple];refine cZ (gb ?_ (by size_fits));refine cZ (m:=firstArgMember _ _) (wpAny_of_eq (a:=Value.none) (by first|rfl|(simp only[firstArgMember];rfl)) ?_);refine gb ?_ (by size_fits);simp only[raiseNew];refine cZ (wpAny_handled ?_)
 first|rw[show A.in1.handled=Fa from hh]|rw[hh]
 refine cZ (dA (wpAny_throw (hE _ _ (((kH ..).extBut.push _).push _) ⟨_,dO _ Z',Z'⟩)))
def La{prog:Pg}{w:Wo}{A:Ar}(hh:A.handled=Fa)(it t:Uf)(Yk:t≠it)(its:Array Vl):
  Draws prog w A it [it,t] its.size (λi v=>its[i]?=ga v) (λi h=>h.IsTupleIter it t i/\h.IsTuple t its) where
 live:=λi h st=>let⟨o,ho,_⟩:=st.1;⟨o,ho⟩
 frame:=λi h g st hk=>by obtain⟨⟨o,e1,e2⟩,⟨o',e3,e4⟩⟩:=st;exact⟨⟨o,hk it (by simp) o e1,e2⟩,⟨o',hk t (by simp) o' e3,e4⟩⟩
 item:=λi s Q E hi st hQ=>IQ st.1 st.2 (x:=its[i]) (by simp[hi]) λg hg hs=>hQ _ g s.toks (by simp[hi]) ⟨hg,st.2.extBut hs.extBut Yk⟩ hs
 done:=λs Q E st hE=>Cn hh st.1 st.2 (by simp) hE
structure BK(z TI TO i1 i2:Uf)(f1 f2:QXQ):Prop where
 a1:TI≠z
 a2:TO≠z
 a3:i1≠z
 a4:i2≠z
 a5:TI≠TO
 a6:TI≠i1
 a7:TI≠i2
 a8:TO≠i1
 a9:TO≠i2
 pA:i1≠i2
 b1:z∉f1
 b2:TO∉f1
 b3:i2∉f1
 c1:z∉f2
 c2:TO∉f2
 c3:i1∉f2
variable {z TI TO i1 i2:Uf}{f1 f2:QXQ}{n1 n2 k1 k2:Nat}{P1 P2:Nat→Vl→Prop}{S1 S2:Nat→No→Prop}
section
variable {a b:Vl}
def sr{St:Nat->No->Prop}(Dr:Draws prog w A it fp n Pt St){i:Nat}{h g:No}{c:Uf}(st:St i h)(hs:Heap.SameBut c h g)(hc:c∉fp):St i g:=
 Dr.frame _ _ _ st λd hd o e=>(hs.2 d λq=>hc (q ▸ hd)).trans e
def KM{Q:QQX}(D1:Draws prog w A i1 f1 n1 P1 S1)(D2:Draws prog w A i2 f2 n2 P2 S2)(Yf:BK z TI TO i1 i2 f1 f2)(hz:XXj s.heap z TI TO .none)(hI:wE s.heap TI (.ref i1) (.ref i2))(hO:wE s.heap TO a b) (Yy:S1 k1 s.heap) (Yj:S2 k2 s.heap) (l1:k1<n1) (l2:k2<n2) (hQ:∀x y g tk,P1 k1 x->P2 k2 y->XXj g z TI TO (u8 s.heap.objs.size)->wE g TO x y->S1 (k1+1) g->S2 (k2+1) g->wE g s.heap.objs.size x y->g.objs.size=s.heap.objs.size+1->
   (∀c o,c≠z->c≠TO->c≠i1->c≠i2->s.heap.get? c=ga o->g.get? c=ga o)->Q (.ref s.heap.objs.size) {s with heap:=g,toks:=tk}):
  pi (Tk prog w) A (Builtin.«zip.__next__» ⟨[.ref z],[]⟩) (λX0 s'=>∃v,X0=.done (.ret v)/\Q v s') E s:=by
 show pi (Tk prog w) A (field (.ref z) 2>>=_) _ _ _;refine cZ (fm hz Z' (x:=.bool pc) Z' ?_);show pi (Tk prog w) A (field (.ref z) 3>>=_) _ _ _;refine cZ (fm hz Z' (x:=.ref TI) Z' (cZ (gG hI Z' ?_)));show pi (Tk prog w) A (Builtin.SmallTypes.ownedTupleIsFree (.ref z)>>=_) _ _ _;refine cZ ?_;unfold Builtin.SmallTypes.ownedTupleIsFree;refine cZ (fm hz Z' (x:=.none) Z' (dA ?_));simp only[jh];refine cZ (kr (cZ (fm hz Z' (x:=.ref TO) Z' (cZ (gJ hz (by simp) λg1 z1 ZH=>?_)))));replace z1:XXj g1 z TI TO .ellipsis:=z1;refine cZ ?_;simp only[lP,lZ,jV,j9];refine cZ (cZ (jq ?_));show pi (Tk prog w) A (Builtin.SmallTypes.nextOf (.ref i1)>>=_) _ _ _;have ZI:S1 k1 g1:=sr D1 Yy ZH Yf.b1;refine cZ (D1.item k1 _ _ _ l1 ZI λx g2 tk2 px st1b YX=>dA ?_);replace YX:Heap.SameBut i1 g1 g2:=YX;have o2:wE g2 TO a b:=YX.extBut _ _ Yf.a8 (ZH.extBut _ _ Yf.a2 hO);refine cZ (gG o2 Z' (cZ (iZ o2 λg3 o3 Y5=>?_)));replace o3:wE g3 TO x b:=o3;replace Y5:Heap.SameBut TO g2 g3:=Y5;refine cZ (lF (dA (cZ (cZ (jq ?_)))));show pi (Tk prog w) A (Builtin.SmallTypes.nextOf (.ref i2)>>=_) _ _ _;have st2a:S2 k2 g3:=sr D2 (sr D2 (sr D2 Yj ZH Yf.c1) YX Yf.c3) Y5 Yf.c2;refine cZ (D2.item k2 _ _ _ l2 st2a λy g4 tk4 py st2b ZU=>dA ?_);replace ZU:Heap.SameBut i2 g3 g4:=ZU;have o4:wE g4 TO x b:=ZU.extBut _ _ Yf.a9 o3;refine cZ (gG o4 Z' (cZ (iZ o4 λg5 o5 ZV=>?_)));replace o5:wE g5 TO x y:=o5;replace ZV:Heap.SameBut TO g4 g5:=ZV;refine cZ (lF (dA (dA (cZ (gG o5 Z' (cZ (wpAny_newTuple ?_)))))));have esz:g5.objs.size=s.heap.objs.size:=by rw[ZV.1,ZU.1,Y5.1,YX.1,ZH.1]
 have z5:XXj g5 z TI TO .ellipsis:=ZV.extBut _ _ Yf.a2.symm (ZU.extBut _ _ Yf.a4.symm (Y5.extBut _ _ Yf.a2.symm (YX.extBut _ _ Yf.a3.symm z1)));have kp:∀c o,c≠z->c≠TO->c≠i1->c≠i2->s.heap.get? c=ga o->g5.get? c=ga o:=λc o q1 q2 q3 q4 q=>ZV.extBut _ _ q2 (ZU.extBut _ _ q4 (Y5.extBut _ _ q2 (YX.extBut _ _ q3 (ZH.extBut _ _ q1 q))));have st1c:S1 (k1+1) g5:=sr D1 (sr D1 (sr D1 st1b Y5 Yf.b2) ZU Yf.b3) ZV Yf.b2;have st2c:S2 (k2+1) g5:=sr D2 st2b ZV Yf.c2;have zlt:z<g5.objs.size:=dG z5;show pi (Tk prog w) A (Builtin.SmallTypes.ownedTupleHandOut (.ref z) (.ref g5.objs.size)>>=_) _ _ _;refine cZ ?_;unfold Builtin.SmallTypes.ownedTupleHandOut;have z6:XXj (g5.push {cls:=.type "tuple",data:=.seq #[x,y]}) z TI TO .ellipsis:=dq _ z5;refine cZ (gJ z6 (by simp) λg7 z7 sb7=>?_);replace z7:XXj g7 z TI TO (u8 g5.objs.size):=z7;refine gJ z7 (by simp) λg8 z8 sb8=>?_;replace z8:XXj g8 z TI TO (u8 g5.objs.size):=z8;have up:∀c o,c≠z->g5.get? c=ga o->g8.get? c=ga o:=λc o q1 q=>sb8.extBut _ _ q1 (sb7.extBut _ _ q1 (dq _ q));have tu:wE g8 g5.objs.size x y:=sb8.extBut _ _ (ii zlt) (sb7.extBut _ _ (ii zlt) (dO _ Z'));have es8:g8.objs.size=g5.objs.size+1:=by rw[sb8.1,sb7.1,fS]
 rw[esz]at z8 tu es8;refine dA ⟨_,Z',?_⟩;show Q (.ref g5.objs.size) _;rw[esz];exact hQ x y g8 _ px py z8 (up _ _ Yf.a2 o5) (D1.frame _ _ _ st1c λc hc o q=>up c o (λr=>Yf.b1 (r ▸ hc)) q) (D2.frame _ _ _ st2c λc hc o q=>up c o (λr=>Yf.c1 (r ▸ hc)) q) tu es8 λc o q1 q2 q3 q4 q=>up c o q1 (kp c o q1 q2 q3 q4 q)
def MW{Q:Fin->Sd->Prop}(D1:Draws prog w A i1 f1 n1 P1 S1)(D2:Draws prog w A i2 f2 n2 P2 S2)(Yf:BK z TI TO i1 i2 f1 f2)(hz:XXj s.heap z TI TO .none)(hI:wE s.heap TI (.ref i1) (.ref i2))(hO:wE s.heap TO a b) (Yy:S1 k1 s.heap) (Yj:S2 k1 s.heap) (hend:k1=n1\/(k1<n1/\k1=n2)) (hE:∀g e,(∀c o,c≠z->c≠TO->c≠i1->c≠i2->s.heap.get? c=ga o->g.get? c=ga o)->(∃o,g.get? e=ga o/\o.cls=.type "StopIteration")->∀tk,E (.ref e) {s with heap:=g,toks:=tk}):
  pi (Tk prog w) A (Builtin.«zip.__next__» ⟨[.ref z],[]⟩) Q E s:=by
 show pi (Tk prog w) A (field (.ref z) 2>>=_) _ _ _;refine cZ (fm hz Z' (x:=.bool pc) Z' ?_);show pi (Tk prog w) A (field (.ref z) 3>>=_) _ _ _;refine cZ (fm hz Z' (x:=.ref TI) Z' (cZ (gG hI Z' ?_)));show pi (Tk prog w) A (Builtin.SmallTypes.ownedTupleIsFree (.ref z)>>=_) _ _ _;refine cZ ?_;unfold Builtin.SmallTypes.ownedTupleIsFree;refine cZ (fm hz Z' (x:=.none) Z' (dA ?_));simp only[jh];refine cZ (kr (cZ (fm hz Z' (x:=.ref TO) Z' (cZ (gJ hz (by simp) λg1 z1 ZH=>?_)))));replace z1:XXj g1 z TI TO .ellipsis:=z1;refine cZ ?_;simp only[lP,lZ,jV,j9];refine cZ (cZ (jq ?_));show pi (Tk prog w) A (Builtin.SmallTypes.nextOf (.ref i1)>>=_) _ _ _;have ZI:S1 k1 g1:=sr D1 Yy ZH Yf.b1;rcases hend with he|⟨Yc,he⟩
 .rw[he]at ZI;refine cZ (D1.done _ _ _ ZI λg2 e YX hx=>?_);obtain⟨oe,g,hce⟩:=hx;have z2:XXj g2 z TI TO .ellipsis:=YX _ _ Yf.a3.symm z1;have hez:e≠z:=λq=>by subst q;rw[z2]at g;cases g;simp at hce
  exact gJ z2 (by simp) λg3 _ Y5=>hE g3 e (λc o q1 _ q3 _ q=>Y5.extBut _ _ q1 (YX _ _ q3 (ZH.extBut _ _ q1 q))) ⟨oe,Y5.extBut _ _ hez g,hce⟩ _
 .refine cZ (D1.item k1 _ _ _ Yc ZI λx g2 tk2 px st1b YX=>dA ?_);replace YX:Heap.SameBut i1 g1 g2:=YX;have o2:wE g2 TO a b:=YX.extBut _ _ Yf.a8 (ZH.extBut _ _ Yf.a2 hO);refine cZ (gG o2 Z' (cZ (iZ o2 λg3 o3 Y5=>?_)));replace Y5:Heap.SameBut TO g2 g3:=Y5;refine cZ (lF (dA (cZ (cZ (jq ?_)))));show pi (Tk prog w) A (Builtin.SmallTypes.nextOf (.ref i2)>>=_) _ _ _;have st2a:S2 k1 g3:=sr D2 (sr D2 (sr D2 Yj ZH Yf.c1) YX Yf.c3) Y5 Yf.c2;rw[he]at st2a;refine cZ (D2.done _ _ _ st2a λg4 e ZU hx=>?_);obtain⟨oe,g,hce⟩:=hx;have z4:XXj g4 z TI TO .ellipsis:=ZU _ _ Yf.a4.symm (Y5.extBut _ _ Yf.a2.symm (YX.extBut _ _ Yf.a3.symm z1));have hez:e≠z:=λq=>by subst q;rw[z4]at g;cases g;simp at hce
  exact gJ z4 (by simp) λg5 _ ZV=>hE g5 e (λc o q1 q2 q3 q4 q=>ZV.extBut _ _ q1 (ZU _ _ q4 (Y5.extBut _ _ q2 (YX.extBut _ _ q3 (ZH.extBut _ _ q1 q))))) ⟨oe,ZV.extBut _ _ hez g,hce⟩ _
end
abbrev V6(h:No)(t:Uf):No:=h.push {cls:=.type "tuple_iterator",data:=.fields #[.ref t,.int 0 0]}
abbrev Wb(h:No)(t u:Uf):No:=(V6 h t).push {cls:=.type "tuple_iterator",data:=.fields #[.ref u,.int 0 0]}
abbrev VX(h:No)(t u:Uf):No:=(Wb h t u).push {cls:=.type "tuple",data:=.seq #[.ref h.objs.size,.ref (V6 h t).objs.size]}
abbrev V4(h:No)(t u:Uf):No:=(VX h t u).push {cls:=.type "tuple",data:=.seq #[.none,.none]}
abbrev Ue(h:No)(t u:Uf):No:=(V4 h t u).push {cls:=.type "zip",data:=.fields #[.none,.bool pc,.bool pc,.ref (Wb h t u).objs.size,.ref (VX h t u).objs.size]}
def Dh(t u:Uf)(xs ys:Array Vl):
  Meets (Builtin.«zip.__new__» ⟨[.type "zip",.ref t,.ref u],[]⟩) (λ_ R s=>s.heap.IsTuple t xs/\s.heap.IsTuple u ys/\R (.ok (.ret (.ref (V4 s.heap t u).objs.size))) {s with heap:=Ue s.heap t u}):=
 .of_wp λprog w A R s h=>by
  obtain⟨hp,g,d,tk,os⟩:=s;obtain⟨e1,e2,h⟩:=h;have Z9:=sub_zip;have q1:Heap.IsTuple (Shared.heap ⟨hp,g,d,tk,os⟩) t xs:=e1;have q2:Heap.IsTuple (Shared.heap ⟨hp.push {cls:=.type "tuple_iterator",data:=.fields #[.ref t,.int 0 0]},g,d,tk,os⟩) u ys:=Heap.IsTuple.push e2 _
  wp_walk using iE q1,iE q2
  exact⟨_,Z',h⟩
def FD{t u:Uf}{xs ys:Array Vl}{Q:QQX}(ht:s.heap.IsTuple t xs)(hu:s.heap.IsTuple u ys) (h:∀g,XXj g (s.heap.objs.size+4) (s.heap.objs.size+2) (s.heap.objs.size+3) .none->wE g (s.heap.objs.size+2) (.ref s.heap.objs.size) (.ref (s.heap.objs.size+1))->wE g (s.heap.objs.size+3) .none .none->
   g.IsTupleIter s.heap.objs.size t 0->g.IsTupleIter (s.heap.objs.size+1) u 0->(∀c o,s.heap.get? c=ga o->g.get? c=ga o)->Q (.ref (s.heap.objs.size+4)) {s with heap:=g}):
  pi (Tk prog w) A (call (.type "zip") [.ref t,.ref u]) Q E s:=by
 refine callType_new F.called_zip (by decide) (F.typeCall_zip_2 _ _) (F.newCall_zip_2 _ _) (λobj=>F.args_object_init_3 obj _ _) F.entry_zip_new (Dh t u xs ys) ⟨ht,hu,?_⟩;have m1:(V6 s.heap t).objs.size=s.heap.objs.size+1:=fS ..;have m2:(Wb s.heap t u).objs.size=s.heap.objs.size+2:=by rw[fS,m1]
 have m3:(VX s.heap t u).objs.size=s.heap.objs.size+3:=by rw[fS,m2]
 have m4:(V4 s.heap t u).objs.size=s.heap.objs.size+4:=by rw[fS,m3]
 have up:∀{h:No} {c:Uf} {o p:Obj},h.get? c=ga o->(h.push p).get? c=ga o:=λq=>dq _ q;have r5:(Ue s.heap t u).get? (V4 s.heap t u).objs.size=ga _:=dO _ Z';have r4:(Ue s.heap t u).get? (VX s.heap t u).objs.size=ga _:=up (dO _ Z');have r3:(Ue s.heap t u).get? (Wb s.heap t u).objs.size=ga _:=up (up (dO _ Z'));have r2:(Ue s.heap t u).get? (V6 s.heap t).objs.size=ga _:=up (up (up (dO _ Z')));have r1:(Ue s.heap t u).get? s.heap.objs.size=ga _:=up (up (up (up (dO _ Z'))));show _/\_;rw[m2,m3,m4]at r5;rw[m1,m2]at r3;rw[m3]at r4;rw[m1]at r2;rw[m4];exact⟨⟨_,r5,Z'⟩,h _ r5 r3 r4 ⟨_,r1,Z',Z'⟩ ⟨_,r2,Z',Z'⟩ λc o q=>up (up (up (up (up q))))⟩
def GH{z TI TO i1 i2:Uf}{n1 n2 k:Nat}{P1 P2:Nat->Vl->Prop}{S1 S2:Nat->No->Prop}{Q:Option Vl->Sd->Prop}(D1:Draws prog w A.in1 i1 f1 n1 P1 S1)(D2:Draws prog w A.in1 i2 f2 n2 P2 S2)(Yf:BK z TI TO i1 i2 f1 f2) (hz:XXj s.heap z TI TO .none) (hI:wE s.heap TI (.ref i1) (.ref i2)) (hO:wE s.heap TO a b) (Yy:S1 k s.heap) (Yj:S2 k s.heap) (l1:k<n1) (l2:k<n2) (hQ:∀x y g tk,P1 k x->P2 k y->XXj g z TI TO (u8 s.heap.objs.size)->wE g TO x y->S1 (k+1) g->S2 (k+1) g->wE g s.heap.objs.size x y->g.objs.size=s.heap.objs.size+1->
   (∀c o,c≠z->c≠TO->c≠i1->c≠i2->s.heap.get? c=ga o->g.get? c=ga o)->Q (ga (.ref s.heap.objs.size)) {s with heap:=g,toks:=tk}):pi (Tk prog w) A (pyNext (.ref z)) Q E s:=by
 have hT:s.TypeIs (.ref z) "zip":=⟨_,hz,Z'⟩;unfold pyNext;refine cZ (wpAny_attempt (fN (name:=Str.ofString "__next__") hT i9 (gq i9 hT lQ ?_ (lB _))));exact KM D1 D2 Yf hz hI hO Yy Yj l1 l2 λx y g tk q1 q2 q3 q4 q5 q6 q7 q8 q9=>dA (hQ x y g tk q1 q2 q3 q4 q5 q6 q7 q8 q9)
def AY{z TI TO i1 i2:Uf}{n1 n2 k:Nat}{P1 P2:Nat->Vl->Prop}{S1 S2:Nat->No->Prop}{Q:Option Vl->Sd->Prop}(D1:Draws prog w A.in1 i1 f1 n1 P1 S1)(D2:Draws prog w A.in1 i2 f2 n2 P2 S2)(Yf:BK z TI TO i1 i2 f1 f2) (hz:XXj s.heap z TI TO .none) (hI:wE s.heap TI (.ref i1) (.ref i2)) (hO:wE s.heap TO a b) (Yy:S1 k s.heap) (Yj:S2 k s.heap) (hend:k=n1\/(k<n1/\k=n2)) (hQ:∀g tk,(∀c o,c≠z->c≠TO->c≠i1->c≠i2->s.heap.get? c=ga o->g.get? c=ga o)->Q Fa {s with heap:=g,toks:=tk}):pi (Tk prog w) A (pyNext (.ref z)) Q E s:=by
 have hT:s.TypeIs (.ref z) "zip":=⟨_,hz,Z'⟩;unfold pyNext;refine cZ (wpAny_attempt (fN (name:=Str.ofString "__next__") hT i9 (gq i9 hT lQ (MW D1 D2 Yf hz hI hO Yy Yj hend λg e kp hx tk=>?_) (lB _))));obtain⟨o,e1,e2⟩:=hx;exact cZ (wpAny_isInstance (T:="StopIteration") (b:=true) ⟨o,e1,e2⟩ isSubtype_stop (dA (hQ g tk kp)))
def TR(I:Inv X XU Y H s)(f:zC X XU H b)(q:vH X.K H a xs):a≠b:=by
 rintro rfl
 rcases q with q|⟨o,its,n,hk,_⟩
 .have z:=f.1;rcases q with q|⟨u,q⟩<;>(rw[q]at z;cases z)
 .have e:=I.mod.oo a o hk;rcases f.2.2.2.1 with z|z
  .exact I.ok.nL a o e z
  .exact absurd (dR (dG e) (d9 I.ok.nY z)) (eZ _)
noncomputable def Uh(Sq:qy->Hp->Uf->T0 V->Prop)(K:qy)(a b:Uf):It:=
 ⟨λi H=>∃xs ys x y,Sq K H a xs/\Sq K H b ys/\xs[i]?=ga x/\ys[i]?=ga y,λi H v H'=>∃p x y,v=.ref p/\H p=Fa/\H'=upd H p (.tup [x,y])/\(∀xs,Sq K H a xs->xs[i]?=ga x)/\(∀ys,Sq K H b ys->ys[i]?=ga y),λi H=>∃xs ys,Sq K H a xs/\Sq K H b ys/\i=min xs.length ys.length⟩
structure ZK(Sq:qy->Hp->Uf->List V->Prop)(Ir:No->Uf->Uf->Nat->Prop)(C:No->Uf->Array Vl->Prop):Prop where
 gt:∀{X:Cx} {XU:QQY} {Y:St} {H:Hp} {s:Sd} {a:Uf} {xs:List V},Inv X XU Y H s->Sq X.K H a xs->∃its:List Vl,qA xs its/\C s.heap a its.toArray
 ij:∀{X:Cx} {XU:QQY} {Y:St} {H:Hp} {s:Sd} {a:Uf} {xs ys:List V},Inv X XU Y H s->Sq X.K H a xs->Sq X.K H a ys->xs=ys
 ne:∀{X:Cx} {XU:QQY} {Y:St} {H:Hp} {s:Sd} {a b:Uf} {xs:List V},Inv X XU Y H s->zC X XU H b->Sq X.K H a xs->a≠b
 dr:∀{prog:Pg} {w:Wo} {A:Ar},A.handled=Fa->∀(it l:Uf),l≠it->∀its:Array Vl,Draws prog w A it [it,l] its.size (λi v=>its[i]?=ga v) (λi h=>Ir h it l i/\C h l its)
 ob:∀{h:No} {it a:Uf} {i:Nat},Ir h it a i->∃o,h.get? it=ga o/\∀v,o.data≠.cell v
 kp:∀{h h':No} {it a:Uf} {i:Nat},Ir h it a i->(∀o,h.get? it=ga o->h'.get? it=ga o)->Ir h' it a i
def XE:ZK vH Heap.IsTupleIter Heap.IsTuple where
 gt:=λI h=>(I.tuple h).imp λ_ z=>⟨z.1,z.2.1⟩
 ij:=λI h g=>I.nC h g
 ne:=TR
 dr:=La
 ob:=λ⟨o,h,_,d⟩=>⟨o,h,λv z=>by rw[d]at z;cases z⟩
 kp:=λ⟨o,h,c⟩ k=>⟨o,k o h,c⟩
def Vs{z TI TO i1 i2 a b:Uf}(a1:TI≠z)(a2:TO≠z)(a3:i1≠z)(a4:i2≠z)(a5:TI≠TO)(a6:TI≠i1)(a7:TI≠i2)(a8:TO≠i1)(a9:TO≠i2)(pA:i1≠i2)(fa:∀c∈[z,TI,TO,i1,i2],a≠c)(fb:∀c∈[z,TI,TO,i1,i2],b≠c):BK z TI TO i1 i2 [i1,a] [i2,b]:=by
 have n:∀{x y w:Uf},x≠y->w≠x->x∉[y,w]:=λh g=>by simp only[dC,dY,gu,il];exact⟨h,dZ g⟩
 exact⟨a1,a2,a3,a4,a5,a6,a7,a8,a9,pA,n (dZ a3) (fa z (by simp)),n a8 (fa TO (by simp)),n (dZ pA) (fa i2 (by simp)),n (dZ a4) (fb z (by simp)),n a9 (fb TO (by simp)),n pA (fb i1 (by simp))⟩
def MO{C:No->Uf->Array Vl->Prop}(zk:ZK Sq Ir C){P:Pg}{w:Wo}{K:qy}{Yl:T0 Go}{n:Nat}{tp:Pos}(a b z TI TO i1 i2:Uf)(a1:TI≠z)(a2:TO≠z)(a3:i1≠z)(a4:i2≠z)(a5:TI≠TO)(a6:TI≠i1)(a7:TI≠i2)(a8:TO≠i1)(a9:TO≠i2)(pA:i1≠i2):
  GB P w K (.Tuple Yl n tp) (Uh Sq K a b) [z,TI,TO,i1,i2] z (λi h=>XXj h z TI TO .none/\wE h TI (.ref i1) (.ref i2)/\(∃u v,wE h TO u v)/\Ir h i1 a i/\Ir h i2 b i) where
 mem:=by simp
 obj:=λi h st c hc=>by
  obtain⟨h1,h2,⟨u,v,h3⟩,h4,h5⟩:=st;simp only[dC,dY,gu]at hc;rcases hc with rfl|rfl|rfl|rfl|rfl
  .exact⟨_,h1,λv z=>by cases z⟩
  .exact⟨_,h2,λv z=>by cases z⟩
  .exact⟨_,h3,λv z=>by cases z⟩
  .exact zk.ob h4
  .exact zk.ob h5
 keep:=λi h h' st k=>by obtain⟨h1,h2,⟨u,v,h3⟩,h4,h5⟩:=st;exact⟨k z (by simp) _ h1,k TI (by simp) _ h2,⟨u,v,k TO (by simp) _ h3⟩,zk.kp h4 (k i1 (by simp)),zk.kp h5 (k i2 (by simp))⟩
 item:=by
  intro X hP hw hK hc i XU s Y H E I hf st hg;subst hP hw hK;obtain⟨xs,ys,x,y,hx,hy,ex,ey⟩:=hg;obtain⟨its,rx,px⟩:=zk.gt I hx;obtain⟨ZG,ry,py⟩:=zk.gt I hy;obtain⟨u,eu,ru⟩:=rx.get ex;obtain⟨v,ev,rv⟩:=ry.get ey;obtain⟨h1,h2,⟨p,q,h3⟩,h4,h5⟩:=st;have hh:X.A.in1.handled=Fa:=I.ok.hd hc;have fa:∀c∈[z,TI,TO,i1,i2],a≠c:=λc hc=>zk.ne I (hf c hc) hx;have fb:∀c∈[z,TI,TO,i1,i2],b≠c:=λc hc=>zk.ne I (hf c hc) hy;have Yf:=Vs a1 a2 a3 a4 a5 a6 a7 a8 a9 pA fa fb;have l1:i<its.toArray.size:=by
   have:=(c9.mp eu).1
   simpa using this
  have l2:i<ZG.toArray.size:=by
   have:=(c9.mp ev).1
   simpa using this
  refine GH (zk.dr hh i1 a (fa i1 (by simp)) its.toArray) (zk.dr hh i2 b (fb i2 (by simp)) ZG.toArray) Yf h1 h2 h3 ⟨h4,px⟩ ⟨h5,py⟩ l1 l2 λx' y' g tk e1 e2 z1 o1 s1 s2 t1 sz kp=>?_;have e1':x'=u:=by
   have:its[i]?=ga x':=by simpa using e1
   rw[eu]at this;exact(dw this).symm
  have Z4:y'=v:=by
   have:ZG[i]?=ga y':=by simpa using e2
   rw[ev]at this;exact(dw this).symm
  subst e1' Z4;refine⟨_,Z',wpAny_letOwnedTupleGo_zip z1 λg2 z2 sb=>?_⟩;have zlt:z<s.heap.objs.size:=dG h1;have kk:∀c o,c∉[z,TI,TO,i1,i2]->s.heap.get? c=ga o->g2.get? c=ga o:=λc o hc e=>by simp only[dC,dY,gu,il]at hc;exact(sb.2 c hc.1).trans (kp c o hc.1 hc.2.2.1 hc.2.2.2.1 hc.2.2.2.2 e)
  have t2:g2.get? s.heap.objs.size=ga {cls:=.type "tuple",data:=.seq #[x',y']}:=(sb.2 _ (ii zlt)).trans t1;have hT0:H s.heap.objs.size=Fa:=I.mR.fresh (dv _);have I2:=I.drawn (ch:=[z,TI,TO,i1,i2]) (T:=s.heap.objs.size) (xs:=[x,y]) (its:=[x',y']) (h':=g2) (tk:=tk) hf kk (dv _) (by show 2<=Ch;decide) (.cons ru (.cons rv .nil)) ⟨_,t2,Z',⟨_,Z'⟩,Z'⟩;refine⟨.ref s.heap.objs.size,_,I2,Z',⟨_,x,y,Z',hT0,Z',λxs' hx'=>by rw[zk.ij I hx' hx];exact ex,λys' hy'=>by rw[zk.ij I hy' hy];exact ey⟩,?_,λc hc=>?_⟩
  .exact⟨z2,(sb.2 _ a1).trans (kp _ _ a1 a5 a6 a7 h2),⟨_,_,(sb.2 _ a2).trans o1⟩,zk.kp s1.1 λ_ e=>(sb.2 _ a3).trans e,zk.kp s2.1 λ_ e=>(sb.2 _ a4).trans e⟩
  .have n0:=(hf c hc).1;obtain⟨o,eo⟩:∃o,s.heap.get? c=ga o:=by
    obtain⟨o4,g4,_⟩:=zk.ob h4;obtain⟨o5,g5,_⟩:=zk.ob h5;simp only[dC,dY,gu]at hc;rcases hc with rfl|rfl|rfl|rfl|rfl
    .exact⟨_,h1⟩
    .exact⟨_,h2⟩
    .exact⟨_,h3⟩
    .exact⟨_,g4⟩
    .exact⟨_,g5⟩
   rw[qd (dW (dG eo))];exact n0
 done:=by
  intro X hP hw hK hc i XU s Y H E I hf st hg;subst hP hw hK;obtain⟨xs,ys,hx,hy,hi⟩:=hg;obtain⟨its,rx,px⟩:=zk.gt I hx;obtain⟨ZG,ry,py⟩:=zk.gt I hy;obtain⟨h1,h2,⟨p,q,h3⟩,h4,h5⟩:=st;have hh:X.A.in1.handled=Fa:=I.ok.hd hc;have fa:∀c∈[z,TI,TO,i1,i2],a≠c:=λc hc=>zk.ne I (hf c hc) hx;have fb:∀c∈[z,TI,TO,i1,i2],b≠c:=λc hc=>zk.ne I (hf c hc) hy;have Yf:=Vs a1 a2 a3 a4 a5 a6 a7 a8 a9 pA fa fb;have e1:=rx.length;have e2:=ry.length;refine AY (zk.dr hh i1 a (fa i1 (by simp)) its.toArray) (zk.dr hh i2 b (fb i2 (by simp)) ZG.toArray) Yf h1 h2 h3 ⟨h4,px⟩ ⟨h5,py⟩ (by simp only[dB];lia) λg tk kp=>⟨Z',?_⟩;have kk:∀c o,c∉[z,TI,TO,i1,i2]->s.heap.get? c=ga o->g.get? c=ga o:=λc o hc e=>by simp only[dC,dY,gu,il]at hc;exact kp c o hc.1 hc.2.2.1 hc.2.2.2.1 hc.2.2.2.2 e
  refine I.step (g':=s.gens) (d':=s.drawn) (t':=tk) (ch:=[z,TI,TO,i1,i2]) (λc hc=>⟨(hf c hc).2.2.2.1,(hf c hc).2.1,(hf c hc).2.2.2.2.1,(hf c hc).2.2.2.2.2⟩) ?_ ?_ (λc o _ e n=>n) ?_ (λ_ _ e=>e) (λ_ _ _ e=>e) (λc ps e=>⟨#[],by rw[e];simp⟩) ?_ ?_ I.bare
  .exact λc o _ _ hc e _=>kk c o hc e
  .exact λc o _ _ hc e _=>⟨o.slots,kk c o hc e⟩
  .exact λc o hc e=>⟨o,kk c o hc e⟩
  .intro m hm;obtain⟨o,es,ep,ho,r⟩:=hm;exact⟨o,es,ep,kk _ o (λy=>(hf _ y).2.1 Z') ho,r⟩
  .intro c u e;refine(I.mR c u e).nF (λd v hd q=>kk d v (λy=>?_) q) (λ_ q=>q) λ_ _ q=>q;have n:=(hf d y).1;rcases hd with x|x
   .rw[x,e]at n;cases n
   .rw[x]at n;cases n
 self:=λ_ _ _ _ _ st h=>lR st.1 h
def GK{C:No->Uf->Array Vl->Prop}(zk:ZK Sq Ir C){XU:QQY}{Y:St}{H:Hp}{s:Sd}{E:QQX}{R:It->Hp->Prop}{g:No}{l m:Uf}{u v:Vl}(I:Inv X XU Y H s)(h1:XXj g (s.heap.objs.size+4) (s.heap.objs.size+2) (s.heap.objs.size+3) .none)(h2:wE g (s.heap.objs.size+2) (.ref s.heap.objs.size) (.ref (s.heap.objs.size+1)))(h3:wE g (s.heap.objs.size+3) u v)(h4:Ir g s.heap.objs.size l 0)(h5:Ir g (s.heap.objs.size+1) m 0)(hk:∀b o,s.heap.get? b=ga o->g.get? b=ga o)(q:R (Uh Sq X.K l m) H):pi (Tk X.prog X.w) X.A (pyIter (.ref (s.heap.objs.size+4))) (Xf X XU Y (.Tuple Yl n tp) R) E {s with heap:=g}:=by
 refine lR h1 ?_;have I2:Inv X XU Y H {s with heap:=g}:=I.kept (t':=s.toks) hk;have ne:∀{i j:Nat},i≠j->(s.heap.objs.size+i:Nat)≠s.heap.objs.size+j:=λh z=>h (Nat.add_left_cancel z);refine⟨s.heap.objs.size+4,[s.heap.objs.size+4,s.heap.objs.size+2,s.heap.objs.size+3,s.heap.objs.size,s.heap.objs.size+1],_,_,H,Z',I2,MO zk l m _ _ _ _ _ (ne (by decide)) (ne (by decide)) (ne (i:=0) (by decide)) (ne (by decide)) (ne (by decide)) (ne (j:=0) (by decide)) (ne (by decide)) (ne (j:=0) (by decide)) (ne (by decide)) (ne (i:=0) (by decide)),⟨h1,h2,⟨_,_,h3⟩,h4,h5⟩,λb hb=>?_,q⟩;have YO:s.heap.objs.size<=b:=by simp only[dC,dY,gu]at hb;rcases hb with rfl|rfl|rfl|rfl|rfl<;>first|exact dv _|exact Nat.le_add_right _ _
 exact I.nV YO (I.mR.fresh YO)
def S7{a b:Go}{ta:TA}(hg:Gl X "zip")(hm:X.mg "zip"=Fa)(ha:PA X [a,b] ta)(hs:Tl [a,b] X.env=[(pc,wp a X.env),(pc,wp b X.env)]:=by rfl)(YA:Tl [b] X.env=[(pc,wp b X.env)]:=by rfl):
  PI X (.Tuple Yl n tp) (.Call (.Name "zip" p) [a,b] [] pos) (λY H R=>ta Y H λvs H1=>∃l m,vs=[.ref l,.ref m]/\(∃xs,vH X.K H1 l xs)/\(∃xs,vH X.K H1 m xs)/\R (Uh vH X.K l m) H1):=by
 intro XU s Y H R I h;refine Call_ (wk I hg hm Nk (fF (sf (ha pos XU s Y H _ I h) λus s1 zz=>x5 zz λvs H1 I1 r1 q1=>?_) (by rw[hs,YA]) (by rw[YA];rfl)));obtain⟨l,m,e,⟨xs,hx⟩,⟨ys,hy⟩,q⟩:=q1;subst e;obtain⟨u,v,rfl,ru,rv⟩:=Ji r1;cases ru;cases rv;obtain⟨its,_,px,_⟩:=I1.tuple hx;obtain⟨ZG,_,py,_⟩:=I1.tuple hy;exact FD px py λg h1 h2 h3 h4 h5 hk=>GK XE I1 h1 h2 h3 h4 h5 hk q
noncomputable def wV:T0 D->T0 D->T0 D
 | x::a,y::b=>.tup [x,y]::wV a b
 | _,_=>[]
theorem F2:∀{ds es:T0 D} {i:Nat},(wV ds es)[i]?=(ds[i]?).bind λd=>(es[i]?).map λe=>D.tup [d,e]
 | [],es,i=>by simp[wV]
 | d::ds,[],i=>by simp[wV]
 | d::ds,e::es,0=>by simp[wV]
 | d::ds,e::es,i+1=>by show(wV ds es)[i]?=_;rw[F2];simp
theorem xo:∀{ds es:T0 D},(wV ds es).length=min ds.length es.length
 | [],es=>by simp[wV]
 | d::ds,[]=>by simp[wV]
 | d::ds,e::es=>by show(wV ds es).length+1=_;rw[xo];simp only[eB];lia
def Qj{K:qy}{ds es:T0 D}(h1:vH K H1 a xs)(h2:qr K H1 ds xs)(g1:vH K H1 b ys)(g2:qr K H1 es ys):FI K H1 (Uh vH K a b) (wV ds es) (λ_=>True) where
 go:=λi H M hi hm ok e1=>by rw[xo]at hi;obtain⟨x,ex,_⟩:=h2.get (df (show i<ds.length by lia));obtain⟨y,ey,_⟩:=g2.get (df (show i<es.length by lia));exact⟨xs,ys,x,y,e1.t _ _ h1,e1.t _ _ g1,ex,ey⟩
 oV:=λi d H M v H' hd hm ok e1 y=>by
  obtain⟨p,x,z,rfl,hp,rfl,y1,y2⟩:=y;rw[F2]at hd;cases e:ds[i]? with
  | none=>rw[e]at hd;cases hd
  | some d'=>
   cases e':es[i]? with
   | none=>rw[e,e']at hd;cases hd
   | some d''=>rw[e,e']at hd;cases hd;obtain⟨x',q1,hx⟩:=h2.get e;obtain⟨z',q2,hz⟩:=g2.get e';have w1:=y1 xs (e1.t _ _ h1);have w2:=y2 ys (e1.t _ _ g1);rw[q1]at w1;rw[q2]at w2;have v1:x'=x:=dw w1;have v2:z'=z:=dw w2;subst v1 v2;have ex:qV K H (upd H p (.tup [x',z'])):=.new hp;exact⟨.tup (.of qg) (.cons (hx.mono (e1.trans ex)) (.cons (hz.mono (e1.trans ex)) .nil)),hm.add hp,ex⟩
 stop:=λH M hm ok e1=>⟨xs,ys,e1.t _ _ h1,e1.t _ _ g1,by rw[xo,h2.length,g2.length]⟩
def Vc(t:xE):LM:=λU M R=>t U M λds M1=>match ds with
 | [.tup a,.tup b]=>R (wV a b) (λ_=>True) M1
 | _=>False
def Sn{a b:Go}{ta:xE}(hg:Gl X "zip")(hm:X.mg "zip"=Fa)(ha:A3 X [a,b] ta)(hs:Tl [a,b] X.env=[(pc,wp a X.env),(pc,wp b X.env)]:=by rfl)(YA:Tl [b] X.env=[(pc,wp b X.env)]:=by rfl):
  I3 X (.Tuple Yl n tp) (.Call (.Name "zip" p) [a,b] [] pos) (Vc ta):=
 PI.mono (S7 hg hm ha hs YA) λY H R' zz=>x7 zz λU M R hs hm ht k=>⟨U,M,_,hs,hm,ht,λvs H1 ds M1 hd XX e1 q1=>by
  split at q1
  .obtain⟨v,u,rfl,hv,hw⟩:=zH hd;obtain⟨l,xs,rfl,h1,h2⟩:=hv.mO;obtain⟨m,ys,rfl,g1,g2⟩:=hw.mO;exact⟨l,m,Z',⟨xs,h1⟩,⟨ys,g1⟩,k _ H1 _ _ M1 (Qj h1 h2 g1 g2) XX e1 trivial q1⟩
  .exact q1.elim⟩
def qG(M M':Mp):Prop:=∀a c,M a=ga c->M' a=ga c
def qG.refl:qG M M:=λ_ _ h=>h
def qG.trans{M M1 M2:Mp}(a:qG M M1)(b:qG M1 M2):qG M M2:=λx c h=>b x c (a x c h)
def qG.new{M:Mp}{p:Uf}{c:vc}(h:M p=Fa):qG M (pI M p c):=λx d q=>by rw[ud (BX q h)];exact q
def qG.lst{ds:T0 D}(s:qG M M')(h:og M a=ga ds):og M' a=ga ds:=by
 unfold og at h ⊢;cases e:M a with
 | none=>rw[e]at h;cases h
 | some c=>rw[s a c e];rw[e]at h;exact h
def HM.sub{K:qy}(h:HM K H M')(s:qG M M'):HM K H M:=λa c q=>h a c (s a c q)
def Ve{st:TD}{sp:rq}(F:Pf K x qual st f fd)(S:tw N ps (qo st))(len:∀ds M Q,sp ds M Q->ds.length=ps.length) (Yg:∀(X6:Vl) (A:Ar) (outer:T0 Env) (s:Sd) (H:Hp) (E:XK),sj k (A.deeper (dL qual (qo st) s.heap.objs.size f X6))->
   ∃t,Hu (vk OC P w K mg base N qual (qo st) f X6 A outer s H E).oF (rV st) t/\∀ds M Q,sp ds M Q->t {nx:=λ_ M'=>∃XZ,qG XZ M'/\Q .mK XZ,rt:=λd M'=>∃XZ,qG XZ M'/\Q d XZ} (xy N ds) M):Ua P w K mg base (k+1) f fd ps sp:=by
 refine F.ok S (λvs H Q E h=>?_) (λX6 A outer s H vs Q' E hr h=>?_)
 .obtain⟨ds,M,Q,hd,_,hs,_⟩:=h;rw[<-hd.length];exact len ds M Q hs
 .obtain⟨ds,M,Q,hd,hm,hs,k⟩:=h;obtain⟨t,ht,hb⟩:=Yg X6 A outer s H E hr;exact⟨_,ht,xy N ds,M,_,D8 hd,hm,hb ds M Q hs,λσ' H' δ' M' _ x2 x3 _ ⟨XZ,y1,y2⟩=>k .mK H' .mK XZ .mK (x2.sub y1) x3 y2,λv H' d M' x1 x2 x3 ⟨XZ,y1,y2⟩=>k v H' d XZ x1 (x2.sub y1) x3 y2,λ_ _ _ _ _ _ _ _ z=>z,λ_ _ _ _ _ _ _ _ z=>z⟩
theorem CZ{g:Es}{te:T3}{ok:Mp->Prop}{Q:DK}{f:D->D}{M:Mp}(J:vp->Prop)(mR:ok M):∀(ds acc:T0 D) (U:vp),J U->acc.length+ds.length<=Ch->
  (∀d∈ds,∀U,J U->∀k:vp->DK,(∀δ',J δ'->k δ' (f d) M)->g d U M λδ2 M2=>te δ2 M2 (k δ2))->(∀p,M p=Fa->Q (.ref p) (pI M p (.lst (acc++ds.map f))))->uW g B2 te ok Q ds acc U M
 | [],acc,U,_,hl,_,hq=>⟨by simpa using hl,by simpa using hq⟩
 | d::r,acc,U,hj,hl,ht,hq=>by
  rw[eB]at hl;refine⟨by lia,?_⟩;refine ht d dP U hj (λδ2 y M4=>ok M4/\uW g B2 te ok Q r (acc++[y]) δ2 M4) λδ' hj'=>⟨mR,CZ (f:=f) J mR r (acc++[f d]) δ' hj' ?_ (λe he=>ht e (dH _ he)) ?_⟩
  .rw[de,dI];lia
  .simpa using hq
def rA{te:T3}{ok:Mp->Prop}{Q:DK}{f:D->D}{M:Mp}(mR:ok M):∀(ds acc:T0 D) (U:vp),acc.length+ds.length<=Ch->(∀d∈ds,∀k:DK,k (f d) M->te (U.set i (ga d)) M k)->
  (∀p,M p=Fa->Q (.ref p) (pI M p (.lst (acc++ds.map f))))->uW (rR i) B2 te ok Q ds acc U M:=λds acc U hl ht hq=>
 CZ (f:=f) (λδ'=>∀d,δ'.set i (ga d)=U.set i (ga d)) mR ds acc U (λ_=>rfl) hl (λd hd δ' hj k hk=>by
  show te (δ'.set i (ga d)) M (k (δ'.set i (ga d)));rw[hj d];exact ht d hd _ (hk _ λe=>by rw[jM])) hq
theorem yu{α:Type}(f:α->Bool):∀l:List α,Gv (l.map λx=>D.bl (f x))=ga (l.map f)
 | []=>rfl
 | x::r=>by show(Gv (r.map λx=>D.bl (f x))).map (f x::·)=_;rw[yu f r];rfl
def pK{p:Uf}{ds:T0 D}:og (pI M p (.lst ds)) p=ga ds:=by unfold og;rw[pW]
def i'{α:Type}{o:Option α}{P:α->Prop}{x:α}(e:o=ga x)(h:P x):o.elim False P:=by rw[e];exact h
def pz{l:T0 D}(h:decide (l.length<=100)=Db):l.length<=Ch:=by have z:=dQ;have:=fU h;lia
theorem Bt{g:Es}{tb:xG}{ok:Mp->Prop}{E:GJ}(J:vp->Mp->Prop)(mR:∀U M,J U M->ok M):∀(ds:T0 D) (U:vp) (M:Mp),J U M->
  (∀d∈ds,∀U M,J U M->∀nx:vp->Mp->Prop,(∀δ' M',J δ' M'->nx δ' M')->g d U M λδ2 M2=>tb {E with nx:=nx,ct:=nx,bk:=E.nx} δ2 M2)->(∀U M,J U M->E.nx U M)->FZ g tb ok E ds U M
 | [],U,M,j,_,hn=>hn U M j
 | d::r,U,M,j,ht,hn=>ht d dP U M j (λδ' M'=>ok M'/\FZ g tb ok E r δ' M') λδ' M' j'=>⟨mR δ' M' j',Bt J mR r δ' M' j' (λe he=>ht e (dH _ he)) hn⟩
theorem uL{g:Es}{tb:xG}{ok:Mp->Prop}{E:GJ}(all:T0 D)(J:T0 D->vp->Mp->Prop)(mR:∀p U M,J p U M->ok M):∀(ds pre:T0 D) (U:vp) (M:Mp),pre++ds=all->J pre U M->
  (∀pre d post,pre++d::post=all->∀U M,J pre U M->∀nx:vp->Mp->Prop,(∀δ' M',J (pre++[d]) δ' M'->nx δ' M')->g d U M λδ2 M2=>tb {E with nx:=nx,ct:=nx,bk:=E.nx} δ2 M2)->(∀U M,J all U M->E.nx U M)->FZ g tb ok E ds U M
 | [],pre,U,M,e,j,_,hn=>hn U M (by rw[<-e,eO];exact j)
 | d::r,pre,U,M,e,j,ht,hn=>ht pre d r e U M j (λδ' M'=>ok M'/\FZ g tb ok E r δ' M') λδ' M' j'=>⟨mR _ δ' M' j',uL all J mR r (pre++[d]) δ' M' (by rw[<-e,fA];rfl) j' ht hn⟩
def C4{K:qy}{t:Vl}:W.kitOne K t t=ga Db:=by unfold W.kitOne;rw[dh (by simp)]
def R1{K:qy}{t c:Vl}{b:Bool}(h:W.kitCls K t c=ga b)(ne:b=pc->(t==c)=pc):W.kitOne K t c=ga b:=by
 unfold W.kitOne;by_cases e:(t==c)=Db
 .rw[dh e];cases b with
  | true=>rfl
  | false=>rw[ne Z']at e;cases e
 .rw[dg e];exact h
def TH{K:qy}{t:Vl}{b:Bool}(m:W.kitMeta T=Db)(s:W.subIn K t (.type T)=ga b)(ne:b=pc->(t==.type T)=pc):W.kitOne K t (.type T)=ga b:=by refine R1 ?_ ne;unfold W.kitCls;simp only;rw[dh m];exact s
def QO:W.kitMeta "bool"=Db:=by decide+kernel
def EU{c:Bool}{A B:Prop}(h:c=pc)(hb:B):if c=Db then A else B:=by subst h;exact G6 hb
def yK{c:Bool}{A B:Prop}(h:c=Db)(ha:A):if c=Db then A else B:=by subst h;exact Qr ha
def V8{t u:xG}{E:GJ}{U:vp}{M:Mp}(R:vp->Mp->Prop)(h2:∀nx:vp->Mp->Prop,(∀δ' M',R δ' M'->nx δ' M')->t {E with nx:=nx} U M)(h1:∀δ' M',R δ' M'->u E δ' M'):uE t u E U M:=h2 (u E) h1
def U9{K:qy}{ns:T0 Int}(hO:Mr H)(hS:xR K H a (ns.map V.int)):rT K H (.rl (ns.map D.int)) (.ref a):=by
 have r:Pk K H a (ns.map V.int):=by
  rcases hS with h|h
  .rcases h with h|⟨o,h⟩
   .rcases hO a with z|⟨o,xs,z⟩<;>(rw[h]at z;cases z)
   .exact .inl ⟨o,h⟩
  .exact .inr h
 unfold rT;exact⟨a,_,Z',r,.ints⟩
def Sk{K:qy}{sp:rq}{ns:T0 Int}(hO:Mr H)(hS:xR K H a (ns.map V.int))(h:sp [.rl (ns.map D.int)] (λ_=>Fa) λd _=>d=.bl Db):OD K sp [.ref a] H (λv _=>v=.bl Db) λ_ _ _=>False:=
 ⟨_,λ_=>Fa,_,.cons (U9 hO hS) .nil,λ_ _ z=>(by cases z),h,λv H' d M' x1 _ _ x4=>by subst x4;exact x1.mI⟩
def MR{l:W.OpenLaw}{q:Pg}{YH:QQQ}{XP:(QQZ)->No->Prop}{YP:Wo->No->Prop}{d:DefRec}{K:Params->qy}{x:Str}{sp:rq}(hn:l.most=ga 63)(hdf:d.params.defaults=[])(hr:sj k callerA) (hY:∀(w:Wo) (h:No),YP w h->(K w.params).In h) (Zl:∀ns:T0 Int,ns.length<=63->sp [.rl (ns.map D.int)] (λ_=>Fa) λd _=>d=.bl Db) (F:∀(w:Wo) (mg:QQZ) (fa:Uf) (h:No),(K w.params).In h->h.Ns At mg->mg d.name=ga (.ref fa)->
   ∃fd:wv,(∀(s:Sd) (u:Vl),BindsTo s fd ⟨[u],[]⟩ [(x,u)])/\∀base:No,(K w.params).In base->base.Ns At mg->Ua l.prog w (K w.params) mg base k fa fd [x] sp):
  W.WalkO q YH XP YP l.row.toRowW d [] (λf vs=>PySem.call f vs):=
 L2.Ra (n:=63) (k:=k) (x:=x) (CX:=λ_=>OC) (sp:=λw=>OD (K w.params) sp) hn (by decide) hdf hr hY F (λ_ _ a ns hl hO hS=>Sk hO hS (Zl ns hl)) λ_ _ _ _ _ z=>z
def KD(K:qy)(mg:QQZ)(x:Str)(d:D):Prop:=CP λv u=>mg x=ga u/\qM v u/\∀H,rT K H d v
def Tj{K:qy}{mg:QQZ}{x y:Str}{t:Tok}(h:mg x=ga (.str y t)):KD K mg x (.str y):=⟨.str y,_,h,⟨t,Z'⟩,λ_=>.str⟩
def vY{K:qy}{mg:QQZ}{x:Str}{y:Int}{t:Tok}(h:mg x=ga (.int y t)):KD K mg x (.int y):=⟨.int y,_,h,⟨t,Z'⟩,λ_=>.int⟩
def uC{K:qy}{a:Uf}{ss:QQQ}{us:T0 Vl}{n:Nat}{sl:Array (Option Vl)}(h:K.lookup a=ga ⟨.type "tuple",Fa,.seq us.toArray n,sl⟩)(r:qA (ss.map V.str) us)(hz:us.length<=1000):vH K (λ_=>Fa) a (ss.map V.str):=
 .inr ⟨_,us.toArray,n,h,Z',Z',Z',by rw[dB,dQ];lia,by simpa using r⟩
theorem Aw{K:qy}:∀{ss:QQQ},qr K H (ss.map D.str) (ss.map V.str)
 | []=>.nil
 | _::_=>.cons .str Aw
def Q7{K:qy}{mg:QQZ}{x:Str}{a:Uf}{ss:QQQ}(h:mg x=ga (.ref a))(q:vH K (λ_=>Fa) a (ss.map V.str)):KD K mg x (.tup (ss.map D.str)):=
 ⟨.ref a,_,h,Z',λ_=>.tup (JA q) Aw⟩
variable {d:D}{i:Go}{td tk:T3}{F:T0 (Str × QQQ)}
def sQ(hg:Gl X x)(h:KD X.K X.mg x d)(hd:zu x:=by decide):E3 X (.Name x pos) (c3 d):=by obtain⟨v,u,hm,r,hh⟩:=h;exact PE.mono (Fp hg hm r hd) λY H Q' zz=>x7 zz λU M Q hs hm ht k=>k _ H _ M (hh H) hm .refl ht
def WI(F:T0 (Str×QQQ))(ta:T3):T3:=λU M Q=>ta U M λx M1=>match x with|.str k=>Q (.bl (KTD.datumAt k F).isSome) M1|_=>False
def UT(F:T0 (Str×QQQ))(ta:T3):T3:=λU M Q=>ta U M λx M1=>match x with|.str k=>(KTD.datumAt k F).elim False λss=>Q (.tup (ss.map D.str)) M1|_=>False
def L1(T:Ni X.K X.mg x F)(hg:Gl X x)(he:E3 X e ta)(hd:zu x:=by decide)(hmk:AT .In (.Name x p)=pc:=by rfl):E3 X (.Compare e [.In] [.Name x p] pos) (WI F ta):=by
 obtain⟨a,hm,T⟩:=GF T;refine PE.mono (IY (r:=λy z H Q=>∃k,y=.str k/\z=.ref a/\Q (.bl (KTD.datumAt k F).isSome) H) (λXU s Y H y z v u Q I ry rz ⟨k,e1,e2,q⟩=>?_) he (Fp (v:=.ref a) hg hm Z' hd) hmk) λY H Q' zz=>x7 zz λU M Q hs hm ht k=>⟨U,M,_,hs,hm,ht,λv H1 d M1 hd XX e1 q1=>?_⟩
 .subst e1 e2;obtain⟨t,rfl⟩:=ry;obtain rfl:u=Value.ref a:=rz;exact Sx (T s.heap I.m7) ⟨.bl (KTD.datumAt k F).isSome,H,I.tok _,Z',q⟩
 .cases d with
  | str k'=>exact⟨k',hd.str_inv,Z',k _ _ _ _ .bl XX e1 q1⟩
  | _=>exact q1.elim
def KJ(T:Ni X.K X.mg x F)(hg:Gl X x)(he:E3 X e ta)(hd:zu x:=by decide)(hs:BA e:=by exact λ_ _=>rfl):E3 X (.Subscript (.Name x p) e pos) (UT F ta):=by
 obtain⟨a,hm,T⟩:=GF T;refine PE.mono (Ox (r:=λz y H Q=>∃k ss,y=.str k/\z=.ref a/\KTD.datumAt k F=ga ss/\∀t,vH X.K H t (ss.map V.str)->Q (.ref t) H) (λvalue X7 XU s Y H z y o i Q I rz ry ⟨k,ss,e1,e2,e3,q⟩ hs=>?_) (Fp (v:=.ref a) hg hm Z' hd) he hs) λY H Q' zz=>x7 zz λU M Q hs hm ht k=>⟨U,M,_,hs,hm,ht,λv H1 d M1 hd XX e1 q1=>?_⟩
 .subst e1 e2;obtain⟨t,rfl⟩:=ry;obtain rfl:o=Value.ref a:=rz;have hT:=zh (s:=s) (T s.heap I.m7);have h2:pi (Tk X.prog X.w) X.A (XXa (.ref a) (.str k t)) (EP X XU Y Q) X.xe s:=Ob (T s.heap I.m7) e3 λv ⟨t',e4,q4⟩=>⟨.ref t',H,I.tok _,e4,q t' (JA q4)⟩;unfold subscriptTail;refine cZ ?_;rw[ke hT.not_modules];refine cZ (jX hT jx.lookup ?_);have X0:pi (Tk X.prog X.w) X.A (subscripted X7 pc (.ref a) (.str k t)) (λr s₃=>pi (Tk X.prog X.w) X.A (letTemporaryGo value (.ref a) r>>=λ_=>pure r) (EP X XU Y Q) X.xe s₃) X.xe s:=by rw[hs];exact wpAny_operating (eE h2 (λr s₃ h₃=>cZ (kx (dA h₃))) λ_ _ x=>x)
  first
   | exact dA (cZ X0)
   | exact cZ (dA (cZ X0))
   | exact cZ X0
 .cases d with
  | str k'=>obtain⟨ss,e4,q2⟩:=qJ q1;exact⟨k',ss,hd.str_inv,Z',e4,λt qt=>k _ _ _ _ (.tup qt Aw) XX e1 q2⟩
  | _=>exact q1.elim
noncomputable def xS(M:Mp)(a:Uf):Option (T0 (qW×D)):=match M a with
 | some (.dk kvs)=>ga kvs
 | _=>Fa
noncomputable def tD(kvs:T0 (qW×D))(k:qW):Option D:=(kvs.find? λp=>decide (p.1=k)).map (·.2)
def wK{K:qy}{kvs:T0 (qW×D)}(hm:HM K H M)(h:xS M a=ga kvs):∃vs,H a=ga (.dK vs)/\vs.map (·.1)=kvs.map (·.1)/\qr K H (kvs.map (·.2)) (vs.map (·.2)):=by
 unfold xS at h;cases e:M a with
 | none=>rw[e]at h;cases h
 | some c=>
  rw[e]at h;have ok:=hm a c e;cases c with
  | dk es=>cases h;exact ok
  | ins _ _=>cases h
  | lst _=>cases h
  | exc _=>cases h
theorem Bp{K:qy}{k:qW}:∀{kvs:T0 (qW×D)} {vs:T0 (qW×V)},vs.map (·.1)=kvs.map (·.1)->qr K H (kvs.map (·.2)) (vs.map (·.2))->(∀d,tD kvs k=ga d->∃v,xb vs k=ga v/\rT K H d v)/\(tD kvs k=Fa->xb vs k=Fa)
 | [],[],_,_=>⟨λd z=>(by cases z),λ_=>rfl⟩
 | [],_::_,e,_=>by cases e
 | _::_,[],e,_=>by cases e
 | (j,d)::kvs,(j',v)::vs,e,h=>by
  have e1:j'=j:=by simpa using(gN e).1
  subst e1;obtain⟨x,r,e2,h1,h2⟩:=h.inv;obtain⟨e3,e4⟩:=gN e2;subst e3 e4;have ih:=Bp (k:=k) (kvs:=kvs) (vs:=vs) (gN e).2 h2;by_cases hk:j'=k
  .have g:tD ((j',d)::kvs) k=ga d:=by simp[tD,hk]
   have g':xb ((j',v)::vs) k=ga v:=by simp[xb,hk]
   rw[g,g'];exact⟨λd' z=>by cases z;exact⟨v,Z',h1⟩,λz=>by cases z⟩
  .have g:tD ((j',d)::kvs) k=tD kvs k:=by simp[tD,hk]
   have g':xb ((j',v)::vs) k=xb vs k:=by simp[xb,hk]
   rw[g,g'];exact ih
def NS(x y:D)(M:Mp)(Q:DK):Prop:=match x,y with
 | .ref a,.str k=>(xS M a).elim False λkvs=>(tD kvs (.inr k)).elim False λd=>Q d M
 | _,_=>False
def Vn(td tk:T3):T3:=λU M Q=>td U M λx M1=>tk U M1 λy M2=>NS x y M2 Q
def zX(hu:X.A.units+9<wP)(ho:E3 X o td)(hi:E3 X i tk)(hs:BA i:=by exact λ_ _=>rfl):E3 X (.Subscript o i pos) (Vn td tk):=by
 refine PE.mono (Ox (r:=R3 X.K NS) (λvalue X7 XU s Y H vx vy v u Q' I rx ry h hs=>?_) ho hi hs) Ip;obtain⟨x,y,M,Q,hx,hy,hm,q,k⟩:=h;unfold NS at q;split at q
 .rename_i a0 k0;obtain⟨kvs,e1,q⟩:=qJ q;obtain⟨d,e2,q⟩:=qJ q;cases hx.mG;cases hy.str_inv;obtain⟨vs,h1,h2,h3⟩:=wK hm e1;obtain⟨w,e3,hw⟩:=(Bp h2 h3).1 d e2;refine QM (by lia) value X7 XU s Y H _ _ v u Q' I rx ry ⟨_,w,Z',?_,k _ _ _ _ hw hm .refl q⟩ hs;have g:=A5.k (k:=Sum.inr k0) h1;rw[e3]at g;exact g
 .exact q.elim
def SR(Zv:Bool)(x y:D)(M:Mp)(Q:DK):Prop:=match x,y with
 | .str k,.ref a=>(xS M a).elim False λkvs=>Q (.bl (if Zv then !(tD kvs (.inr k)).isSome else(tD kvs (.inr k)).isSome)) M
 | _,_=>False
def L5{K:qy}{k:qW}{kvs:T0 (qW×D)}{vs:T0 (qW×V)}(h2:vs.map (·.1)=kvs.map (·.1))(h3:qr K H (kvs.map (·.2)) (vs.map (·.2))):(xb vs k).isSome=(tD kvs k).isSome:=by
 obtain⟨a,b⟩:=Bp (k:=k) h2 h3;cases e:tD kvs k with
 | none=>rw[b e];rfl
 | some d=>obtain⟨v,e3,_⟩:=a d e;rw[e3];rfl
def WZ(Zv:Bool)(tk td:T3):T3:=λU M Q=>tk U M λx M1=>td U M1 λy M2=>SR Zv x y M2 Q
def VE(hu:X.A.units+9<wP):x8 X (Op .In) (R3 X.K (SR pc)):=λXU s Y H vx vy v u Q' I rx ry h=>by
 obtain⟨x,y,M,Q,hx,hy,hm,q,k⟩:=h;unfold SR at q;split at q
 .obtain⟨kvs,e1,q⟩:=qJ q;cases hy.mG;cases hx.str_inv;obtain⟨vs,h1,h2,h3⟩:=wK hm e1;refine R0 (by lia) XU s Y H _ _ v u Q' I rx ry ⟨_,_,Z',A5.k (k:=Sum.inr _) h1,?_⟩;rw[L5 h2 h3];exact k _ _ _ _ .bl hm .refl q
 .exact q.elim
def NO(hu:X.A.units+9<wP)(hi:E3 X i tk)(ho:E3 X o td)(hm:AT .In o=pc:=by first|exact IJ _|with_unfolding_all rfl):B3 X (.Compare i [.In] [o] pos) (b3 (WZ pc tk td)):=PT.mono (JE (VE hu) hi ho hm) λY H Q' zz=>x7 zz λU M Q hs hm ht k=>
 Ip Y H _ ⟨U,M,_,hs,hm,ht,λv H1 d M1 hd XX e1 q1=>by
  cases d with
  | bl c=>exact⟨c,hd.mI,k c H1 M1 XX e1 q1⟩
  | _=>exact q1.elim⟩
noncomputable def xt:T0 D->Option (T0 (qW×D))
 | []=>ga []
 | .tup [.str k,d]::r=>(xt r).map ((.inr k,d)::·)
 | _::_=>Fa
theorem DW{K:qy}:∀{es:T0 D} {kvs:T0 (qW×D)} {xs:T0 V},xt es=ga kvs->qr K H es xs->∃(ts:QXQ) (vs:T0 (qW×V)),xs=ts.map V.ref/\ts.length=vs.length/\vs.map (·.1)=kvs.map (·.1)/\qr K H (kvs.map (·.2)) (vs.map (·.2))/\
  ∀(j:Nat) (t:Uf) (p:qW×V),ts[j]?=ga t->vs[j]?=ga p->vH K H t [kV p.1,p.2]
 | [],_,_,e,h=>by cases e;exact⟨[],[],h.nil_inv,Z',Z',.nil,λj t p z=>by simp at z⟩
 | d::es,kvs,xs,e,h=>by
  obtain⟨x,r,rfl,h1,h2⟩:=h.inv;unfold xt at e;split at e
  .rename_i z;cases z
  .rename_i k d' r' z;cases z;cases q:xt es with
   | none=>rw[q]at e;cases e
   | some kvs'=>
    rw[q]at e;cases e;obtain⟨ts,vs,e1,e2,e3,e4,e5⟩:=DW q h2;obtain⟨a,ys,rfl,g1,g2⟩:=h1.mO;obtain⟨y,r1,rfl,g3,g4⟩:=g2.inv;obtain⟨w,r2,rfl,g5,g6⟩:=g4.inv;cases g6.nil_inv;cases g3.str_inv;refine⟨a::ts,(.inr k,w)::vs,by rw[e1];rfl,by simpa using e2,by rw[d4,d4,e3],.cons g5 e4,λj t p z1 z2=>?_⟩;cases j with
    | zero=>
     have z1':a=t:=by simpa using z1
     have z2':(Sum.inr k,w)=p:=by simpa using z2
     subst z1' z2';exact g1
    | succ j=>exact e5 j t p (by simpa using z1) (by simpa using z2)
  .cases e
def Rr(ds:T0 D)(M:Mp)(Q:DK):Prop:=match ds with
 | [.ref a]=>(og M a).elim False λes=>(xt es).elim False λkvs=>(kvs.map (·.1)).Nodup/\∀p,M p=Fa->Q (.ref p) (pI M p (.dk kvs))
 | _=>False
def FX(hc:X.calm=Db):C3 X (.type "dict") Rr:=by
 intro XU s Y H vs us Q' I rv h;obtain⟨ds,M,Q,hd,hm,q,k⟩:=h;unfold Rr at q;split at q
 .obtain⟨es,e1,q⟩:=qJ q;obtain⟨kvs,e2,hnd,q⟩:=qJ q;obtain⟨v,rfl,hv⟩:=rX hd;cases hv.mG;obtain⟨xs,h1,h2,_⟩:=qk hm e1;obtain⟨ts,ws,rfl,f2,f3,f4,f5⟩:=DW e2 h2;refine IG hc XU s Y H _ us Q' I rv ⟨_,ts,ws,Z',h1,f2,f5,by rw[f3];exact hnd,λd hd=>?_⟩;have e:qV X.K H (upd H d (.dK ws)):=.new hd;exact k _ _ _ _ .ref (hm.new (c:=.dk kvs) hd ⟨_,qg,f3,f4.mono e⟩) e (q d (hm.fresh hd))
 .exact q.elim
def Tq:zn "set"=ga (.type "set"):=by decide+kernel
noncomputable def CY:T0 D->Option (QQQ)
 | []=>ga []
 | .str x::r=>(CY r).map (x::·)
 | _::_=>Fa
theorem CA:∀ss:QQQ,CY (ss.map D.str)=ga ss
 | []=>rfl
 | x::r=>by show(CY (r.map D.str)).map (x::·)=_;rw[CA r];rfl
theorem G'{K:qy}:∀{ds:T0 D} {ss:QQQ} {xs:T0 V},CY ds=ga ss->qr K H ds xs->xs=ss.map V.str
 | [],_,_,e,h=>by cases e;exact h.nil_inv
 | d::ds,_,_,e,h=>by
  obtain⟨x,r,rfl,h1,h2⟩:=h.inv;cases d with
  | str z=>
   unfold CY at e;cases q:CY ds with
   | none=>rw[q]at e;cases e
   | some ss=>rw[q]at e;cases e;rw[h1.str_inv,G' q h2];rfl
  | _=>cases e
def VP(ta:T3):T3:=λU M Q=>ta U M λx M1=>(Os M1 x).elim False λes=>(CY es).elim False λss=>ss.length<4000/\Q (.int (tP ss).length) M1
def Kx(hc:X.calm=Db)(he:E3 X e ta)(hg1:Gl X "len")(XX:X.mg "len"=Fa)(hg2:Gl X "set")(X8:X.mg "set"=Fa)(b1:zn "len"=ga (.builtin "len"))(b2:zn "set"=ga (.type "set")) (hs:Tl [e] X.env=[(pc,wp e X.env)]:=by rfl):E3 X (.Call (.Name "len" p) [.Call (.Name "set" p2) [e] [] ZF] [] pos) (VP ta):=
 PE.mono (Kr hc he hg1 XX hg2 X8 b1 b2 hs) λY H Q' zz=>x7 zz λU M Q hs hm ht k=>⟨U,M,_,hs,hm,ht,λv H1 d M1 hd XX e1 q1=>by
  obtain⟨es,e2,q1⟩:=qJ q1;obtain⟨ss,e3,hz,q1⟩:=qJ q1;obtain⟨a,xs,rfl,h1,h2⟩:=FV XX hd e2;rw[G' e3 h2]at h1;have z:XXi=4096:=rfl;exact⟨a,ss,Z',h1,by lia,k _ _ _ _ .int XX e1 q1⟩⟩
def SZ(x:D)(ds:T0 D)(M:Mp)(Q:DK):Prop:=match x,ds with
 | .ref a,[y]=>(og M a).elim False λes=>es.length<Ch/\Q .mK (pI M a (.lst (es++[y])))
 | _,_=>False
def pY{es:T0 D}(h:og M a=ga es):M a=ga (.lst es):=by
 unfold og at h;split at h
 .rename_i e;rw[e];cases h;rfl
 .cases h
def yE{K:qy}{es:T0 D}(hm:HM K H M)(h:og M a=ga es):∃xs,H a=ga (.lst xs)/\qr K H es xs:=hm a _ (pY h)
def Lc:M3 X "list.append" SZ:=by
 intro XU s Y H vx vs v us Q' I rx rv h;obtain⟨x,ds,M,Q,hx,hd,hm,q,k⟩:=h;unfold SZ at q;split at q
 .obtain⟨es,e1,hz,q⟩:=qJ q;obtain⟨w,rfl,hw⟩:=rX hd;cases hx.mG;obtain⟨xs,h1,h2⟩:=yE hm e1;refine Km XU s Y H _ _ v us Q' I rx rv ⟨_,xs,w,Z',Z',h1,by rw[<-h2.length];exact hz,?_⟩;obtain⟨X8,ex⟩:=hm.put (c:=.lst (es++[_])) (pY e1) λex=>⟨_,qg,(h2.mono ex).snoc (hw.mono ex)⟩;exact k _ _ _ _ .mK X8 ex q
 .exact q.elim
def qL(ho:E3 X o ta)(ha:A3 X (e::es) t)(X9:Rs o "append" X.env (wp o X.env)=wp o X.env:=by rfl)
  (Zb:((xz pos (Tl (e::es) X.env)).all (λx=>!x.1)&&(xL pos (Ps [] X.env)).all (λx=>x.1.isSome)&&decide ((e::es).length+([]:T0 XXc).length+(if ([]:T0 XXc).isEmpty then 0 else 1)<30))=Db:=by rfl)
  (Yh:(XY.endLine==pos.line)=Db:=by rfl) (hs:By X e es:=by rfl) (Yd:C6 X pos es:=by rfl):
  E3 X (.Call (.Attribute o "append" XY) (e::es) [] pos) (Wa SZ ta t):=RH PySem.F.slot_list_append PySem.F.type_list_append Lc ho ha X9 Zb Yh hs Yd
def qG.none{M M2:Mp}{q:Uf}(s:qG M M2)(h:M2 q=Fa):M q=Fa:=by
 cases e:M q with
 | none=>rfl
 | some c=>rw[s q c e]at h;cases h
def qG.upd{M M2:Mp}{c:vc}(s:qG M M2):qG (pI M q c) (pI M2 q c):=λx d h=>by
 by_cases e:x=q
 .subst e;rw[pW]at h ⊢;exact h
 .rw[ud e]at h ⊢;exact s x d h
def qG.dk{ds:T0 (qW×D)}(s:qG M M')(h:xS M a=ga ds):xS M' a=ga ds:=by
 unfold xS at h ⊢;cases e:M a with
 | none=>rw[e]at h;cases h
 | some c=>rw[s a c e];rw[e]at h;exact h
def CB{p:Uf}{ds:T0 (qW×D)}:xS (pI M p (.dk ds)) p=ga ds:=by unfold xS;rw[pW]
def qT(p:Uf)(M M':Mp):Prop:=∀b c,b≠p->M b=ga c->M' b=ga c
def qG.keep{p:Uf}(s:qG M M'):qT p M M':=λb c _ h=>s b c h
def qT.trans{M M1 M2:Mp}{p:Uf}(a:qT p M M1)(b:qT p M1 M2):qT p M M2:=λx c n h=>b x c n (a x c n h)
def qT.put{p:Uf}{c:vc}:qT p M (pI M p c):=λb d n h=>by rw[ud n];exact h
def qT.new{M:Mp}{p:Uf}(h:M p=Fa){M':Mp}(k:qT p M M'):qG M M':=λb c e=>k b c (λz=>by rw[z,h]at e;cases e) e
def qT.lst{p a:Uf}{ds:T0 D}(k:qT p M M')(n:a≠p)(h:og M a=ga ds):og M' a=ga ds:=by have:=k a _ n (pY h);unfold og;rw[this]
def qT.dk{p a:Uf}{ds:T0 (qW×D)}(k:qT p M M')(n:a≠p)(h:xS M a=ga ds):xS M' a=ga ds:=by
 unfold xS at h ⊢;cases e:M a with
 | none=>rw[e]at h;cases h
 | some c=>rw[k a c n e];rw[e]at h;exact h
def pZ{a p C:Uf}{ds:T0 D}{fs:T0 (Str×D)}(h:og M a=ga ds)(hp:M p=ga (.ins C fs)):a≠p:=λz=>by subst z;rw[pY h]at hp;cases hp
def Cg{a p C:Uf}{ds:T0 (qW×D)}{fs:T0 (Str×D)}(h:xS M a=ga ds)(hp:M p=ga (.ins C fs)):a≠p:=λz=>by subst z;unfold xS at h;rw[hp]at h;cases h
def sX{M:Mp}{p:Uf}{ds:T0 D}(h:M p=ga (.lst ds)):og M p=ga ds:=by unfold og;rw[h]
def DS{M:Mp}{p:Uf}{ds:T0 (qW×D)}(h:M p=ga (.dk ds)):xS M p=ga ds:=by unfold xS;rw[h]
def tq{N:Mp}{p q C:Uf}{fs fs':T0 (Str×D)}{c:vc}(hp:N p=ga (.ins C fs))(hq:N q=Fa):
  q≠p/\pI N q c p=ga (.ins C fs)/\qT p N (pI (pI N q c) p (.ins C fs'))/\pI (pI N q c) p (.ins C fs') q=ga c/\pI (pI N q c) p (.ins C fs') p=ga (.ins C fs'):=by
 have n:p≠q:=BX hp hq;refine⟨dZ n,by rw[ud n];exact hp,(qG.new hq).keep.trans .put,by rw[ud (dZ n),pW],pW⟩
theorem yt{g:Es}{te:T3}{ok:Mp->Prop}{Q:DK}(all:T0 D)(J:T0 D->T0 D->vp->Mp->Prop)(mR:∀p acc U M,J p acc U M->ok M):∀(ds pre acc:T0 D) (U:vp) (M:Mp),pre++ds=all->acc.length+ds.length<=Ch->J pre acc U M->
  (∀pre d post,pre++d::post=all->∀acc U M,J pre acc U M->∀k:vp->DK,(∀δ2 y M4,J (pre++[d]) (acc++[y]) δ2 M4->k δ2 y M4)->g d U M λδ2 M2=>te δ2 M2 (k δ2))->
  (∀acc U M,J all acc U M->∀p,M p=Fa->Q (.ref p) (pI M p (.lst acc)))->uW g B2 te ok Q ds acc U M
 | [],pre,acc,U,M,e,hl,j,_,hq=>⟨by simpa using hl,hq acc U M (by rw[<-e,eO];exact j)⟩
 | d::r,pre,acc,U,M,e,hl,j,ht,hq=>by rw[eB]at hl;refine⟨by lia,?_⟩;refine ht pre d r e acc U M j (λδ2 y M4=>ok M4/\uW g B2 te ok Q r (acc++[y]) δ2 M4) λδ2 y M4 j'=>⟨mR _ _ _ _ j',yt all J mR r (pre++[d]) (acc++[y]) δ2 M4 (by rw[<-e,fA];rfl) ?_ j' ht hq⟩;rw[de,dI];lia
noncomputable def vG:Nat->D->Bool
 | _,.mK=>Db
 | _,.bl _=>Db
 | _,.int _=>Db
 | _,.str _=>Db
 | n+1,.tup ds=>ds.all (vG n)
 | _,_=>pc
theorem za{f:D->D->Option Bool}:∀ds:T0 D,(∀d∈ds,f d d=ga Db)->sR f ds ds=ga Db
 | [],_=>rfl
 | d::r,h=>by show(f d d).bind (λp=>(sR f r r).map λq=>p&&q)=ga Db;rw[h d dP,za r λe he=>h e (dH _ he)];rfl
theorem CQ:∀(n:Nat) (d:D),vG n d=Db->zA M (n+1) d d=ga Db
 | _,.mK,_=>rfl
 | _,.bl _,_=>by simp[zA]
 | _,.int _,_=>by simp[zA]
 | _,.str _,_=>by simp[zA]
 | n+1,.tup ds,h=>by have h:ds.all (vG n)=Db:=h;show(sR (zA M (n+1)) ds ds).map (λp=>p&&ds.length==ds.length)=ga Db;rw[za ds λd hd=>CQ n d (eR.mp h d hd)];simp
 | 0,.tup _,h=>by cases h
 | 0,.ref _,h=>by cases h
 | _+1,.ref _,h=>by cases h
 | 0,.ty _,h=>by cases h
 | _+1,.ty _,h=>by cases h
 | 0,.rl _,h=>by cases h
 | _+1,.rl _,h=>by cases h
def DI{ds:T0 D}(ha:og M a=ga ds)(hb:og M b=ga ds)(h:∀d∈ds,zA M n d d=ga Db):zA M (n+1) (.ref a) (.ref b)=ga Db:=by show(og M a).bind (λi=>(og M b).bind λj=>if i.length=j.length then sR (zA M n) i j else ga pc)=ga Db;rw[ha,hb];show(if ds.length=ds.length then sR (zA M n) ds ds else ga pc)=ga Db;rw[dh Z'];exact za ds h
def R4(tc:AK)(tb:xG):xG:=λE U M=>∃W:Nat->vp->Mp->Prop,(∃m,W m U M)/\∀m U M,W m U M->
 tc U M λb M1=>if b=Db then tb {E with nx:=λδ' M'=>∃m',m'<m/\W m' δ' M',ct:=λδ' M'=>∃m',m'<m/\W m' δ' M',bk:=E.nx} U M1 else E.nx U M1
def Mw{tc:AK}{tb:xG}(hp:PassesOwn (Tk X.prog X.w) X.A X.env X.xe)(hc:B3 X c tc)(hb:Hu X body tb):S3 X (.While c body [] pos) (R4 tc tb):=
 PS.mono (Oz hp hc hb) λD' Y H ⟨U,M,E,hs,hm,⟨W,⟨m0,w0⟩,turn⟩,k1,k2,k3,k4⟩=>by
 refine⟨λm σ' H'=>∃δ' M',Ac X.K H' σ' δ'/\HM X.K H' M'/\qV X.K H H'/\σ'.length=Y.length/\W m δ' M',⟨m0,U,M,hs,hm,.refl,Z',w0⟩,?_⟩
 rintro m σ1 H1 ⟨δ1,M1,hs1,XX,e1,l1,w1⟩
 refine⟨δ1,M1,_,hs1,XX,turn m δ1 M1 w1,λb H2 M2 X8 e2 q2=>?_⟩;cases b with
 | false=>rw[dg dD]at q2 ⊢;exact k1 σ1 H2 δ1 M2 (hs1.mono e2) X8 (e1.trans e2) l1 q2
 | true=>
  rw[dh Z']at q2 ⊢;refine⟨λσ' H'=>∃δ' M',Ac X.K H' σ' δ'/\HM X.K H' M'/\qV X.K H H'/\σ'.length=Y.length/\∃m',m'<m/\W m' δ' M',?_,δ1,M2,_,hs1.mono e2,X8,q2,?_,?_,?_,?_⟩
  .rintro σ' H' ⟨δ',M',a1,a2,a3,a4,m',lt,w⟩
   exact⟨m',lt,δ',M',a1,a2,a3,a4,w⟩
  .exact λσ' H' δ' M' y1 y2 y3 y4 y5=>⟨δ',M',y1,y2,e1.trans (e2.trans y3),by rw[y4,l1],y5⟩
  .exact λv H' d M' y1 y2 y3 y4=>k2 v H' d M' y1 y2 (e1.trans (e2.trans y3)) y4
  .exact λσ' H' δ' M' y1 y2 y3 y4 y5=>k1 σ' H' δ' M' y1 y2 (e1.trans (e2.trans y3)) (by rw[y4,l1]) y5
  .exact λσ' H' δ' M' y1 y2 y3 y4 y5=>⟨δ',M',y1,y2,e1.trans (e2.trans y3),by rw[y4,l1],y5⟩
noncomputable def P7(op:XXf)(x y:D):Option D:=match op,x,y with
 | .Add,.int i,.int j=>ga (.int (i+j))
 | .Sub,.int i,.int j=>ga (.int (i - j))
 | _,_,_=>Fa
def RT(op:XXf):V->V->Hp->VK->Prop:=λvx vy H Q=>match op,vx,vy with
 | .Add,.int i,.int j=>Q (.int (i+j)) H
 | .Sub,.int i,.int j=>Q (.int (i - j)) H
 | _,_,_=>False
def Nh:PR X op (RT op):=by
 intro XU s Y H x y u v Q I rx ry h;unfold RT at h;split at h
 .exact SU XU s Y H _ _ u v Q I rx ry ⟨_,_,Z',Z',h⟩
 .exact T4 XU s Y H _ _ u v Q I rx ry ⟨_,_,Z',Z',h⟩
 .exact h.elim
def Jm{K:qy}{x y z:D}{Q:VK}(hx:rT K H x vx)(hy:rT K H y vy)(e:P7 op x y=ga z)(k:∀vz,rT K H z vz->Q vz H):RT op vx vy H Q:=by
 unfold P7 at e;split at e
 .cases e;cases hx.int_inv;cases hy.int_inv;exact k _ .int
 .cases e;cases hx.int_inv;cases hy.int_inv;exact k _ .int
 .cases e
def UY(K:qy)(f:Str)(op:XXf)(ta tv:T3):xG:=λE U M=>ta U M λx M1=>match x with
 | .ref a=>Ak (M1 a) λC fs=>uf K C f/\(fs.lookup f).elim False λd=>tv U M1 λy M2=>(P7 op d y).elim False λz=>Ak (M2 a) λC' fs'=>C'=C/\fs'.length<1000/\E.nx U (pI M2 a (.ins C (wj f z fs')))
 | _=>False
def Ee{f:Str}(ha:E3 X o ta)(hv:E3 X value tv):S3 X (.AugAssign (.Attribute o f YV) op value pos) (UY X.K f op ta tv):=
 PS.mono (Kw ha hv Nh) λD' Y H zz=>J0 zz λU M E hs hm ht k1 k2 k3 k4=>
 ⟨U,M,_,hs,hm,ht,λv H1 d M1 hd XX e1 q1=>by
  cases d with
  | ref a=>
   cases hd.mG;obtain⟨C,fs,e,q1⟩:=yk q1;obtain⟨na,q1⟩:=q1;obtain⟨d,ed,q1⟩:=qJ q1;obtain⟨dx,vs,h1,cl,nn,fo⟩:=XX a _ e;obtain⟨w,ew,hw⟩:=(xi fo).1 d ed;refine⟨a,C,dx,vs,w,Z',h1,cl,na,ew,U,M1,_,hs.mono e1,XX,q1,λu H2 y M2 hy X8 e2 q2=>?_⟩;obtain⟨z,ez,q2⟩:=qJ q2;obtain⟨C',fs',e',q2⟩:=yk q2;obtain⟨rfl,hl,q2⟩:=q2;refine Jm (hw.mono e2) hy ez λvz hz=>?_;obtain⟨dx',vs',YC,cl',nn',fo'⟩:=X8 a _ e';have X1:vs'.length=fs'.length:=by have:=eC List.length fo'.1;simpa using this
   refine⟨dx',vs',YC,by lia,?_⟩;obtain⟨Yq,e3⟩:=X8.put (p:=a) (o:=.ins C' dx' (vL f vz vs')) (c:=.ins C' (wj f z fs')) e' λx=>⟨dx',_,qg,cl',λg hg=>by
    rcases Cw hg with q|q
    .rw[q];exact na
    .exact nn' g q,Fj (hz.mono x) (fo'.mono x)⟩
   exact k1 Y _ U _ (hs.mono (e1.trans (e2.trans e3))) Yq (e1.trans (e2.trans e3)) Z' q2
  | _=>exact q1.elim⟩
theorem tL{i:Nat}{tt:AK}{te:T3}{ok:Mp->Prop}{Q:DK}{f:D->D}{t:D->Bool}{M:Mp}(mR:ok M):∀(ds acc:T0 D) (U:vp),acc.length+ds.length<=Ch->
  (∀d∈ds,∀k:Bool->Mp->Prop,k (t d) M->tt (U.set i (ga d)) M k)->(∀d∈ds,t d=Db->∀k:DK,k (f d) M->te (U.set i (ga d)) M k)->
  (∀p,M p=Fa->Q (.ref p) (pI M p (.lst (acc++(ds.filter t).map f))))->uW (rR i) tt te ok Q ds acc U M
 | [],acc,U,hl,_,_,hq=>⟨by simpa using hl,by simpa using hq⟩
 | d::r,acc,U,hl,ht,he,hq=>by
  rw[eB]at hl;refine⟨by lia,?_⟩;show tt (U.set i (ga d)) M _;refine ht d dP _ ?_;have z:∀e:D,(U.set i (ga d)).set i (ga e)=U.set i (ga e):=λe=>by rw[jM]
  cases q:t d with
  | true=>
   rw[dh Z'];refine he d dP q _ ⟨mR,tL (f:=f) (t:=t) mR r (acc++[f d]) _ ?_ (λe m k h=>?_) (λe m h0 k h=>?_) ?_⟩
   .rw[de,dI];lia
   .rw[z];exact ht e (dH _ m) k h
   .rw[z];exact he e (dH _ m) h0 k h
   .intro p hp;have:=hq p hp;rw[g9 q]at this
    simpa using this
  | false=>
   rw[dg dD];refine⟨mR,tL (f:=f) (t:=t) mR r acc _ (by lia) (λe m k h=>?_) (λe m h0 k h=>?_) ?_⟩
   .rw[z];exact ht e (dH _ m) k h
   .rw[z];exact he e (dH _ m) h0 k h
   .intro p hp;have:=hq p hp;rw[hG (by rw[q];exact dD)]at this;exact this
section
variable {a:Go}
def We(ta:T3):T3:=λU M Q=>ta U M λx M1=>match x with|.int i=>Q (.int (-i)) M1|_=>False
def FU(ha:E3 X a ta):E3 X (.UnaryOp .USub a pos) (We ta):=PE.mono (Uo Ss ha) λY H Q' zz=>x7 zz λU M Q hs hm ht k=>
 ⟨U,M,_,hs,hm,ht,λv H1 d M1 hd XX e1 q1=>by
  cases d with
  | int i=>cases hd.int_inv;exact⟨i,Z',k _ H1 _ M1 .int XX e1 q1⟩
  | _=>exact q1.elim⟩
end
end L3
namespace L2
open PySem.W
variable {prog:Pg}{w:Wo}{A:Ar}{E:QQX}{s:Sd}
end L2
namespace L3
open L2
variable {X:Cx}{pos:Pos}{a b o i:Go}{ta tb ti to:T3}
def UB(to ti:T3):Es:=λd U M Q=>to U M λx M1=>ti U M1 λy M2=>match x,y with
 | .ref p,.int k=>(og M2 p).elim False λes=>(F8 es.length k).elim False λj=>Q U (pI M2 p (.lst (es.set j d)))
 | _,_=>False
theorem qr.set{K:qy}(hv:rT K H d v):∀{ds:T0 D} {xs:T0 V} (j:Nat),qr K H ds xs->qr K H (ds.set j d) (xs.set j v)
 | [],_,j,h=>by rw[h.nil_inv];simp only[List.set_nil];exact .nil
 | e::ds,_,0,h=>by obtain⟨x,r,rfl,h1,h2⟩:=h.inv;exact .cons hv h2
 | e::ds,_,j+1,h=>by obtain⟨x,r,rfl,h1,h2⟩:=h.inv;exact .cons h1 (qr.set hv j h2)
def MX(ho:E3 X o to)(hi:E3 X i ti) (ha:∀v,assign (.Subscript o i pos) X.env v=(do
   let ov<-Ix [v] (wp o X.env);let iv<-Ix [v,ov] (wp i X.env)
   Y' pos
   Ix [v,ov,iv] (setItem ov iv v)
   release [v,ov,iv] []):=by intro _;rfl):G3 X (.Subscript o i pos) (UB to ti):=
 PG.mono (SG ho hi Gq ha) λv Y H Q' ⟨d,U,M,Q,hd,hs,hm,ht,k⟩=>
 ⟨U,M,_,hs,hm,ht,λvx H1 x M1 hx XX e1 q1=>⟨U,M1,_,hs.mono e1,XX,q1,λvy H2 y M2 hy X8 e2 q2=>by
  cases x with
  | ref p=>
   cases y with
   | int j0=>obtain⟨es,f1,q2⟩:=qJ q2;obtain⟨j,f2,q2⟩:=qJ q2;cases(hx.mono e2).mG;cases hy.int_inv;obtain⟨xs,h1,h2⟩:=yE X8 f1;refine⟨p,xs,j0,j,Z',Z',h1,by rw[<-h2.length];exact f2,?_⟩;have hd2:=hd.mono (e1.trans e2);obtain⟨Yq,e3⟩:=X8.put (o:=.lst (xs.set j v)) (c:=.lst (es.set j d)) (pY f1) λex=>⟨_,qg,(h2.mono ex).set (hd2.mono ex) j⟩;exact k Y _ U _ (hs.mono (e1.trans (e2.trans e3))) Yq (e1.trans (e2.trans e3)) Z' q2
   | _=>exact q2.elim
  | _=>exact q2.elim⟩⟩
def Vy(ds:T0 D)(M:Mp)(Q:DK):Prop:=match ds with
 | [.int i]=>Q (.int i) M
 | [.bl k]=>Q (.int (if k then 1 else 0)) M
 | _=>False
def Ta:C3 X (.type "int") Vy:=by
 intro XU s Y H vs us Q' I rv h;obtain⟨ds,M,Q,hd,hm,q,k⟩:=h;unfold Vy at q;split at q
 .obtain⟨v,rfl,hv⟩:=rX hd;cases hv.int_inv;exact DQ XU s Y H _ us Q' I rv (.inl ⟨_,Z',k _ _ _ _ .int hm .refl q⟩)
 .obtain⟨v,rfl,hv⟩:=rX hd;cases hv.mI;exact DQ XU s Y H _ us Q' I rv (.inr ⟨_,Z',k _ _ _ _ .int hm .refl q⟩)
 .exact q.elim
end L3
namespace L2
variable {prog:Pg}{w:Wo}{A:Ar}{E:QQX}{s:Sd}{X:Cx}
end L2
namespace L3
open L2
variable {X:Cx}{pos XY p:Pos}{a b o e i value:Go}{es:T0 Go}{ta tb ti to tv td tk:T3}{t:xE}
def Sl(x y:D)(M:Mp)(Q:DK):Prop:=match x,y with
 | .ref a,.int k=>(og M a).elim False λes=>(0<=k/\k<=1000/\es.length<=1000)/\∀p,M p=Fa->Q (.ref p) (pI M p (.lst (List.replicate k.toNat es).flatten))
 | _,_=>False
theorem JV{K:qy}(h:qr K H ds xs):∀n:Nat,qr K H (List.replicate n ds).flatten (List.replicate n xs).flatten
 | 0=>.nil
 | n+1=>by rw[eM,eM,fT,fT];exact h.append (JV h n)
def T8:x8 X (wS .Mult) (R3 X.K Sl):=λXU s Y H vx vy v u Q' I rx ry h=>by
 obtain⟨x,y,M,Q,hx,hy,hm,q,k⟩:=h;unfold Sl at q;split at q
 .obtain⟨es,e1,⟨q1,q2,q3⟩,q⟩:=qJ q;cases hx.mG;cases hy.int_inv;obtain⟨xs,h1,h2⟩:=yE hm e1;have hz:=dQ;have hl:=h2.length;refine R8 XU s Y H _ _ v u Q' I rx ry ⟨_,_,xs,Z',Z',h1,by lia,by lia,?_,λpp hp=>?_⟩
  .exact d9 (kg (show xs.length<=1000 by lia) (show Int.toNat _<=1000 by lia)) (by rw[hz];decide)
  .exact k _ _ _ _ .ref (hm.new (c:=.lst _) hp ⟨_,qg,(JV h2 _).mono (.new hp)⟩) (.new hp) (q pp (hm.fresh hp))
 .exact q.elim
def UK(ta tb:T3):T3:=λU M Q=>ta U M λx M1=>tb U M1 λy M2=>Sl x y M2 Q
def B0(ha:E3 X a ta)(hb:E3 X b tb):E3 X (.BinOp a .Mult b pos) (UK ta tb):=PE.mono (Rm T8 ha hb) Ip
def VC:T3:=λ_ M Q=>∀p,M p=Fa->Q (.ref p) (pI M p (.dk []))
def QQ:E3 X (.Dict [] [] pos) VC:=PE.mono Nj λY H Q' zz=>x7 zz λU M Q hs hm ht k=>λp hp=>by have ex:qV X.K H (upd H p (.dK [])):=.new hp;exact k _ _ _ _ .ref (hm.new (c:=.dk []) hp ⟨[],qg,Z',.nil⟩) ex (ht p (hm.fresh hp))
noncomputable def wW(kvs:T0 (qW×D))(k:qW)(v:D):T0 (qW×D):=if (kvs.any λkv=>decide (kv.1=k))=Db then kvs.map (λkv=>if kv.1=k then(kv.1,v)else kv)else kvs++[(k,v)]
theorem Gp{κ α β:Type}{k:κ}[DecidableEq κ]:∀{xs:T0 (κ×α)} {ys:T0 (κ×β)},xs.map (·.1)=ys.map (·.1)->(xs.any λkv=>decide (kv.1=k))=ys.any λkv=>decide (kv.1=k)
 | [],[],_=>rfl
 | [],_::_,e=>by cases e
 | _::_,[],e=>by cases e
 | x::xs,y::ys,e=>by obtain⟨e1,e2⟩:=gN e;rw[gm,gm,Gp e2];have e1:x.1=y.1:=e1;rw[e1]
def D5{K:qy}{k:qW}(hv:rT K H d v){kvs:T0 (qW×D)}{vs:T0 (qW×V)}(h1:vs.map (·.1)=kvs.map (·.1))(h2:qr K H (kvs.map (·.2)) (vs.map (·.2))):
  (yJ vs k v).map (·.1)=(wW kvs k d).map (·.1)/\qr K H ((wW kvs k d).map (·.2)) ((yJ vs k v).map (·.2)):=by
 have go:∀{kvs:T0 (qW×D)} {vs:T0 (qW×V)},vs.map (·.1)=kvs.map (·.1)->qr K H (kvs.map (·.2)) (vs.map (·.2))->
   (vs.map (λkv=>if kv.1=k then(kv.1,v)else kv)).map (·.1)=(kvs.map (λkv=>if kv.1=k then(kv.1,d)else kv)).map (·.1)/\qr K H ((kvs.map (λkv=>if kv.1=k then(kv.1,d)else kv)).map (·.2)) ((vs.map (λkv=>if kv.1=k then(kv.1,v)else kv)).map (·.2)):=λ{kvs}=>by
  induction kvs with
  | nil=>intro vs e h;cases vs with
   | nil=>exact⟨Z',.nil⟩
   | cons _ _=>cases e
  | cons c r ih=>intro vs e h;cases vs with
   | nil=>cases e
   | cons w ws=>
    obtain⟨e1,e2⟩:=gN e;obtain⟨x,xr,e3,g1,g2⟩:=h.inv;obtain⟨e4,e5⟩:=gN e3;subst e4 e5;obtain⟨i1,i2⟩:=ih e2 g2;have e1:w.1=c.1:=e1;by_cases hk:c.1=k
    .have w1:(if w.1=k then(w.1,v)else w)=(w.1,v):=dh (e1.trans hk);have w2:(if c.1=k then(c.1,d)else c)=(c.1,d):=dh hk;simp only[d4,w1,w2];exact⟨by rw[i1,e1],.cons hv i2⟩
    .have w1:(if w.1=k then(w.1,v)else w)=w:=dg λz=>hk (e1.symm.trans z);have w2:(if c.1=k then(c.1,d)else c)=c:=dg hk;simp only[d4,w1,w2];exact⟨by rw[i1,e1],.cons g1 i2⟩
 unfold yJ wW;rw[Gp (k:=k) h1];by_cases hk:(kvs.any λkv=>decide (kv.1=k))=Db
 .rw[dh hk,dh hk];exact go h1 h2
 .rw[dg hk,dg hk];exact⟨by rw[dJ,dJ,h1];rfl,by rw[dJ,dJ];exact h2.append (.cons hv .nil)⟩
def Uq(td tk tv:T3):xG:=λD U M=>tv U M λv M1=>td U M1 λx M2=>tk U M2 λy M3=>match x,y with
 | .ref a,.str k=>(xS M3 a).elim False λkvs=>kvs.length<Ch/\D.nx U (pI M3 a (.dk (wW kvs (.inr k) v)))
 | _,_=>False
def w9{a:Uf}{kvs:T0 (qW×D)}(h:xS M a=ga kvs):M a=ga (.dk kvs):=by
 unfold xS at h;split at h
 .rename_i e;rw[e];cases h;rfl
 .cases h
def PZ(hu:X.A.units+9<wP)(ho:E3 X o td)(hi:E3 X i tk)(hv:E3 X value tv)(hs:sB value (ga (.Subscript o i X5)) pos.line X.env=pure pc:=by rfl):S3 X (.Assign [.Subscript o i X5] value pos) (Uq td tk tv):=
 PS.mono (J1 (by lia) ho hi hv hs) λD' Y H zz=>J0 zz λU M D hs hm ht k1 k2 k3 k4=>
 ⟨U,M,_,hs,hm,ht,λv H1 d M1 hd XX e1 q1=>⟨U,M1,_,hs.mono e1,XX,q1,λvx H2 x M2 hx X8 e2 q2=>⟨U,M2,_,hs.mono (e1.trans e2),X8,q2,λvy H3 y M3 hy Yq e3 q3=>by
  split at q3
  .rename_i a0 k0;obtain⟨kvs,f1,f2,q3⟩:=qJ q3;cases(hx.mono e3).mG;cases hy.str_inv;obtain⟨vs,h1,h2,h3⟩:=wK Yq f1;have hl:vs.length=kvs.length:=by have:=eC List.length h2;simpa using this
   refine⟨_,_,Z',K9.k (k:=Sum.inr k0) h1 (by lia),?_⟩;have hd3:=hd.mono (e2.trans e3);obtain⟨ZS,e4⟩:=Yq.put (o:=.dK (yJ vs (Sum.inr k0) v)) (c:=.dk (wW kvs (.inr k0) d)) (w9 f1) λex=>by obtain⟨g1,g2⟩:=D5 (k:=Sum.inr k0) (hd3.mono ex) h2 (h3.mono ex);exact⟨_,qg,g1,g2⟩
   exact k1 Y _ U _ (hs.mono (e1.trans (e2.trans (e3.trans e4)))) ZS (e1.trans (e2.trans (e3.trans e4))) Z' q3
  .exact q3.elim⟩⟩⟩
noncomputable def WL:D->Option qW
 | .int i=>ga (.inl i)
 | .str x=>ga (.inr x)
 | _=>Fa
noncomputable def WH(M:Mp)(a:Uf):Bool:=(xS M a).isSome
def Tb(td tk tx:T3):T3:=λU M Q=>td U M λx M1=>match x with
 | .ref a=>WH M1 a=Db/\tk U M1 λy M2=>tx U M2 λz M3=>(WL y).elim False λk=>(xS M3 a).elim False λkvs=>Q ((tD kvs k).getD z) M3
 | _=>False
def MA{f:Go}(hu:X.A.units+9<wP)(ho:E3 X o td)(he:E3 X e tk)(hf:E3 X f tx)(m:M2 X o "get" XY e f pos):E3 X (.Call (.Attribute o "get" XY) [e,f] [] pos) (Tb td tk tx):=
 PE.mono (MM (by lia) ho he hf m) λY H Q' zz=>x7 zz λU M Q hs hm ht k=>⟨U,M,_,hs,hm,ht,λv H1 x M1 hx XX e1 q1=>by
  cases x with
  | ref a=>
   cases hx.mG;obtain⟨hk,q1⟩:=q1;obtain⟨kv0,hk⟩:=iA.mp hk;obtain⟨vs0,g1,_⟩:=wK XX hk;refine⟨a,Z',.inl ⟨vs0,.inl g1⟩,U,M1,_,hs.mono e1,XX,q1,λvy H2 y M2 hy X8 e2 q2=>⟨U,M2,_,hs.mono (e1.trans e2),X8,q2,λvz H3 z M3 hz Yq e3 q3=>?_⟩⟩;obtain⟨kk,f1,q3⟩:=qJ q3;obtain⟨kvs,f2,q3⟩:=qJ q3;obtain⟨vs,h1,h2,h3⟩:=wK Yq f2;have ey:vy=kV kk:=by
    cases y with
    | int j=>cases f1;exact hy.int_inv
    | str j=>cases f1;exact hy.str_inv
    | _=>cases f1
   subst ey;refine⟨_,A5.k (k:=kk) h1,?_⟩;obtain⟨p1,p2⟩:=Bp (k:=kk) h2 h3;cases ez:tD kvs kk with
   | none=>rw[p2 ez];rw[ez]at q3;exact k _ _ _ _ hz Yq (e1.trans (e2.trans e3)) q3
   | some d=>obtain⟨w,e5,hw⟩:=p1 d ez;rw[e5];rw[ez]at q3;exact k _ _ _ _ hw Yq (e1.trans (e2.trans e3)) q3
  | _=>exact q1.elim⟩
variable {XU:T0 (Uf × Obj)}{Y:St}{H:Hp}{s:Sd}
def Td{a b:Uf}(I:Inv X XU Y H s)(f:zC X XU H b)(q:xR X.K H a xs):a≠b:=by
 rintro rfl
 rcases q with q|⟨o,its,n,hk,_⟩
 .have z:=f.1;rcases q with q|⟨u,q⟩<;>(rw[q]at z;cases z)
 .have e:=I.mod.oo a o hk;rcases f.2.2.2.1 with z|z
  .exact I.ok.nL a o e z
  .exact absurd (dR (dG e) (d9 I.ok.nY z)) (eZ _)
def XF:ZK xR Heap.IsListIter Heap.IsList where
 gt:=λI h=>(I.list h).imp λ_ z=>⟨z.1,z.2.1.isList⟩
 ij:=λI h g=>I.nI h g
 ne:=Td
 dr:=Draws.list
 ob:=λ⟨o,h,_,d⟩=>⟨o,h,λv z=>by rw[d]at z;cases z⟩
 kp:=λ⟨o,h,c⟩ k=>⟨o,k o h,c⟩
variable {tp:Pos}{Yl:T0 Go}{n:Nat}
def PU{a b:Go}{ta:TA}(hg:Gl X "zip")(hm:X.mg "zip"=Fa)(ha:PA X [a,b] ta)(hs:Tl [a,b] X.env=[(pc,wp a X.env),(pc,wp b X.env)]:=by rfl)(YA:Tl [b] X.env=[(pc,wp b X.env)]:=by rfl):
  PI X (.Tuple Yl n tp) (.Call (.Name "zip" p) [a,b] [] pos) (λY H R=>ta Y H λvs H1=>∃l m,vs=[.ref l,.ref m]/\(∃xs,xR X.K H1 l xs)/\(∃xs,xR X.K H1 m xs)/\R (Uh xR X.K l m) H1):=by
 intro XU s Y H R I h;refine Call_ (wk I hg hm Nk (fF (sf (ha pos XU s Y H _ I h) λus s1 zz=>x5 zz λvs H1 I1 r1 q1=>?_) (by rw[hs,YA]) (by rw[YA];rfl)));obtain⟨l,m,e,⟨xs,hx⟩,⟨ys,hy⟩,q⟩:=q1;subst e;obtain⟨u,v,rfl,ru,rv⟩:=Ji r1;cases ru;cases rv;obtain⟨its,_,px,_⟩:=I1.list hx;obtain⟨ZG,_,py,_⟩:=I1.list hy;exact call_zip_2 px.isList py.isList λg h1 h2 h3 h4 h5 _ hk=>GK XF I1 h1 h2 h3 h4 h5 hk q
def Ma{K:qy}{a b:Uf}{ds es:T0 D}:FI K H1 (Uh xR K a b) (wV ds es) (λM=>og M a=ga ds/\og M b=ga es) where
 go:=λi H M hi hm ok _=>by rw[xo]at hi;obtain⟨xs,h1,h2,_⟩:=qk hm ok.1;obtain⟨ys,g1,g2,_⟩:=qk hm ok.2;obtain⟨x,e1,_⟩:=h2.get (df (show i<ds.length by lia));obtain⟨y,e2,_⟩:=g2.get (df (show i<es.length by lia));exact⟨xs,ys,x,y,h1,g1,e1,e2⟩
 oV:=λi d H M x H' hd hm ok _ y=>by
  obtain⟨xs,h1,h2,_⟩:=qk hm ok.1;obtain⟨ys,g1,g2,_⟩:=qk hm ok.2;obtain⟨p,u,v,rfl,hp,rfl,y1,y2⟩:=y;rw[L3.F2]at hd;cases e:ds[i]? with
  | none=>rw[e]at hd;cases hd
  | some d'=>
   cases e':es[i]? with
   | none=>rw[e,e']at hd;cases hd
   | some c'=>rw[e,e']at hd;cases hd;obtain⟨x',q1,hx⟩:=h2.get e;obtain⟨z',q2,hz⟩:=g2.get e';have w1:=y1 xs h1;have w2:=y2 ys g1;rw[q1]at w1;rw[q2]at w2;have v1:x'=u:=dw w1;have v2:z'=v:=dw w2;subst v1 v2;have ex:qV K H (upd H p (.tup [x',z'])):=.new hp;exact⟨.tup (.of qg) (.cons (hx.mono ex) (.cons (hz.mono ex) .nil)),hm.add hp,ex⟩
 stop:=λH M hm ok _=>by obtain⟨xs,h1,h2,_⟩:=qk hm ok.1;obtain⟨ys,g1,g2,_⟩:=qk hm ok.2;exact⟨xs,ys,h1,g1,by rw[xo,h2.length,g2.length]⟩
def TU(t:xE):LM:=λU M R=>t U M λds M1=>match ds with
 | [.ref a,.ref b]=>(og M1 a).elim False λxs=>(og M1 b).elim False λys=>R (wV xs ys) (λM=>og M a=ga xs/\og M b=ga ys) M1
 | _=>False
def Js{a b:Go}{ta:xE}(hg:Gl X "zip")(hm:X.mg "zip"=Fa)(ha:A3 X [a,b] ta)(hs:Tl [a,b] X.env=[(pc,wp a X.env),(pc,wp b X.env)]:=by rfl)(YA:Tl [b] X.env=[(pc,wp b X.env)]:=by rfl):
  I3 X (.Tuple Yl n tp) (.Call (.Name "zip" p) [a,b] [] pos) (TU ta):=
 PI.mono (PU hg hm ha hs YA) λY H R' zz=>x7 zz λU M R hs hm ht k=>⟨U,M,_,hs,hm,ht,λvs H1 ds M1 hd XX e1 q1=>by
  split at q1
  .obtain⟨xs,f1,q1⟩:=qJ q1;obtain⟨ys,f2,q1⟩:=qJ q1;obtain⟨v,u,rfl,hv,hw⟩:=zH hd;cases hv.mG;cases hw.mG;obtain⟨us,h1,_⟩:=qk XX f1;obtain⟨ws,g1,_⟩:=qk XX f2;exact⟨_,_,Z',⟨us,h1⟩,⟨ws,g1⟩,k _ H1 _ _ M1 Ma XX e1 ⟨f1,f2⟩ q1⟩
  .exact q1.elim⟩
end L3
namespace L2
open Builtin Builtin.Str
variable {prog:Pg}{w:Wo}{A:Ar}{E:QQX}{s:Sd}{X:Cx}
end L2
namespace L3
open L2 Builtin Builtin.Str
variable {X:Cx}{pos XY:Pos}{o e:Go}{es:T0 Go}{ta:T3}{t:xE}
@[irreducible] def SsI (X:Cx) (st:T0 TD) (t:xG):Prop:=Hu X st t
@[irreducible] def SI (X:Cx) (st:TD) (t:xG):Prop:=S3 X st t
@[irreducible] def EI (X:Cx) (e:Go) (t:T3):Prop:=E3 X e t
@[irreducible] def AI (X:Cx) (es:T0 Go) (t:xE):Prop:=A3 X es t
variable {prog:Pg}{w:Wo}{A:Ar}{E:QQX}{s:Sd}{XU:T0 (Uf × Obj)}{Y:St}{H:Hp}{p tp:Pos}{Yl:T0 Go}{n:Nat}
theorem wN{g:Es}{tt:AK}{te:T3}{ok:Mp->Prop}{Q:DK}(all:T0 D)(J:T0 D->T0 D->vp->Mp->Prop)(mR:∀p acc U M,J p acc U M->ok M):∀(ds pre acc:T0 D) (U:vp) (M:Mp),pre++ds=all->acc.length+ds.length<=Ch->J pre acc U M->
  (∀pre d post,pre++d::post=all->∀acc U M,J pre acc U M->∀(k:vp->DK) (k2:vp->Mp->Prop),(∀δ2 y M4,J (pre++[d]) (acc++[y]) δ2 M4->k δ2 y M4)->(∀δ2 M3,J (pre++[d]) acc δ2 M3->k2 δ2 M3)->g d U M λδ2 M2=>tt δ2 M2 λb M3=>if b=Db then te δ2 M3 (k δ2)else k2 δ2 M3)->
  (∀acc U M,J all acc U M->∀p,M p=Fa->Q (.ref p) (pI M p (.lst acc)))->uW g tt te ok Q ds acc U M
 | [],pre,acc,U,M,e,hl,j,_,hq=>⟨by simpa using hl,hq acc U M (by rw[<-e,eO];exact j)⟩
 | d::r,pre,acc,U,M,e,hl,j,ht,hq=>by rw[eB]at hl;refine⟨by lia,?_⟩;refine ht pre d r e acc U M j (λδ2 y M4=>ok M4/\uW g tt te ok Q r (acc++[y]) δ2 M4) (λδ2 M3=>ok M3/\uW g tt te ok Q r acc δ2 M3) (λδ2 y M4 j'=>⟨mR _ _ _ _ j',wN all J mR r (pre++[d]) (acc++[y]) δ2 M4 (by rw[<-e,fA];rfl) ?_ j' ht hq⟩) λδ2 M3 j'=>⟨mR _ _ _ _ j',wN all J mR r (pre++[d]) acc δ2 M3 (by rw[<-e,fA];rfl) (by lia) j' ht hq⟩;rw[de,dI];lia
end L3
namespace L2
noncomputable def Cx.nW(X:Cx)(E:QQX):Cx:={X with xe:=E}
def Inv.nW{E:QQX}{XU:QQY}(I:Inv X XU Y H s):Inv (X.nW E) XU Y H s:=
 ⟨⟨I.ok.mod,I.ok.kind,I.ok.glob,I.ok.blt,I.ok.above,I.ok.inj,I.ok.has,I.ok.oz,I.ok.hd,I.ok.frames,I.ok.oM,I.ok.pb,I.ok.bs,I.ok.nY,I.ok.nL,I.ok.nU,I.ok.nA,I.ok.oq⟩,I.os,I.bare,I.base,I.loc,I.cell,I.free,I.mW,I.pin,I.mR,I.len⟩
def Inv.xeOf{X:Cx}{E:QQX}{XU:QQY}(I:Inv (X.nW E) XU Y H s):Inv X XU Y H s:=
 ⟨⟨I.ok.mod,I.ok.kind,I.ok.glob,I.ok.blt,I.ok.above,I.ok.inj,I.ok.has,I.ok.oz,I.ok.hd,I.ok.frames,I.ok.oM,I.ok.pb,I.ok.bs,I.ok.nY,I.ok.nL,I.ok.nU,I.ok.nA,I.ok.oq⟩,I.os,I.bare,I.base,I.loc,I.cell,I.free,I.mW,I.pin,I.mR,I.len⟩
end L2
namespace L3
open L2
end L3
namespace L2
end L2
namespace L3
open L2
variable {X:Cx}{pos p tp kpos:Pos}{Yl:T0 Go}{n:Nat}
end L3
namespace L2
variable {prog:Pg}{w:Wo}{A:Ar}{E:QQX}{s:Sd}{a:Uf}{U:Type}{k:Str}{tk:Tok}
section
variable {R:U→Vl→Prop}{D:T0 (Str × U)}
end
end L2
namespace L3
open L2
variable {X:Cx}{pos p:Pos}{x:Str}{d:D}{e o i:Go}{ta tb td tk:T3}{F:T0 (Str × QQQ)}
end L3
namespace L2
def ND(h:No)(e:Uf)(cls:Vl)(dx tb:Option Uf)(F:Vl):Prop:=
 ∃oe vs,h.get? e=ga oe/\oe.cls=cls/\oe.dict=dx/\oe.data=.fields vs/\1<vs.size/\vs[1]?=ga (tb.elim Value.none Value.ref)/\∀T,tb=ga T->T≠e/\∃oT ts,h.get? T=ga oT/\oT.data=.fields ts/\3<ts.size/\ts[3]?=ga F
def PB(h:No)(e:Uf)(cls:Vl)(dx tb:Option Uf):Prop:=ND h e cls dx tb Value.none
theorem BU{h base:No}:∀{l:T0 Env} {b:Uf},h.FunFrames base l->b∈ww l->∃o,h.get? b=ga o/\∀vs,o.data≠.fields vs
 | [],b,_,hb=>by cases hb
 | env::r,b,hF,hb=>by
  obtain⟨_,⟨L,o,hL,_,ho,hd⟩,hr⟩:=hF;have e:ww (env::r)=L::ww r:=by unfold ww;rw[gh,hL]
  rw[e]at hb;rcases dC.mp hb with z|z
  .rw[z];exact⟨o,ho,hd⟩
  .exact BU hr z
def DX{h base:No}{l:T0 Env}{b:Uf}{o:Obj}{vs:Array Vl}(hF:h.FunFrames base l)(ho:h.get? b=ga o)(hd:o.data=.fields vs):b∉ww l:=λhb=>by obtain⟨o',Yz,hn⟩:=BU hF hb;rw[ho]at Yz;cases Yz;exact hn vs hd
variable {M:Model}{A:Ar}{s:Sd}{base:No}{env:Env}{outer:T0 Env}{L e:Uf}{cls:Vl}{dx:Option Uf}{Q:Unit→Sd→Prop}
section
variable {E:QQX}
def QL{Zd:Vl}{had:Bool}{oe:Obj}{vs:Array Vl}{YB:Env}(hcf:YB.frame=ga L)(ZW:A.frames=ga (env::outer))(hF:s.heap.FunFrames base (env::outer))(hL:env.frame=ga L)(ho:s.heap.get? e=ga oe)(hd:oe.data=.fields vs)(h1:1<vs.size) (k:∀(h':No) (T:Uf),s.heap.get? T=Fa->(∀b o,s.heap.get? b=ga o->b∉ww (env::outer)->b≠e->h'.get? b=ga o)->(∀b o,s.heap.get? b=ga o->b∈ww (env::outer)->∃sl,h'.get? b=ga {o with slots:=sl})->
   (∃oe',h'.get? e=ga oe'/\oe'.cls=oe.cls/\oe'.dict=oe.dict/\oe'.data=.fields (vs.setIfInBounds 1 (.ref T)))->(∃oT ts,h'.get? T=ga oT/\oT.data=.fields ts/\3<ts.size/\ts[3]?=ga (u8 ↑L))->Q () {s with heap:=h'}):
  pi M A (do
   let a<-PySem.frameOf YB;let pl<-entryPlaceOf L had;let b<-EntryCells.newEntry Zd a Value.none (u8 ↑L) Value.none pl
   setField (Value.ref e) 1 b) Q E s:=by
 have ne:=DX hF ho hd;unfold PySem.frameOf;refine cZ (cZ (wpAny_frameEnvs ZW (cZ ?_)));have ed:List.dropWhile (λx=>x.frame != YB.frame) (env::outer)=env::outer:=by rw[List.dropWhile_cons,dg (by rw[hL,hcf];simp)]
 rw[ed];unfold frameObject;refine cZ (wpAny_readyFrames_fun hF λYC hs=>?_);obtain⟨z1,z2,z3⟩:=hs;rw[hL];refine dA (dA ?_);refine cZ (wpAny_entryPlaceOf λpl hp=>?_);refine cZ ?_;unfold EntryCells.newEntry newFields;have X1:([Zd,Value.ref L,Value.none,u8 ↑L,Value.none]++if pl.isEmpty=Db then List.replicate 6 Value.none else pl).length=11:=by rw[de];rcases hp with rfl|⟨_,_,_,_,_,_,_,rfl⟩<;>rfl
 have hfl:([Zd,Value.ref L,Value.none,u8 ↑L,Value.none]++if pl.isEmpty=Db then List.replicate 6 Value.none else pl)[3]?=ga (u8 ↑L):=rfl;generalize ([Zd,Value.ref L,Value.none,u8 ↑L,Value.none]++if pl.isEmpty=Db then List.replicate 6 Value.none else pl)=fs at X1 hfl ⊢;refine gb ?_ (by
  show fs.toArray.size<=_;rw[dB,X1];decide)
 have e1:YC.get? e=ga oe:=by rw[z2 e ne];exact ho
 have e2:(YC.push {cls:=.type "traceback",data:=.fields fs.toArray}).get? e=ga oe:=dq _ e1;refine im e2 hd h1 ?_;have tn:s.heap.get? YC.objs.size=Fa:=gP (by rw[z1];exact dv _);have te:YC.objs.size≠e:=λz=>by rw[z,ho]at tn;cases tn
 obtain⟨oc,od,odt,YR⟩:=oe;obtain rfl:odt=.fields vs:=hd;have up:∀b,e≠b->((YC.push {cls:=.type "traceback",data:=.fields fs.toArray}).update e (Obj.mapFields λx=>x.setIfInBounds 1 (.ref YC.objs.size))).get? b=(YC.push {cls:=.type "traceback",data:=.fields fs.toArray}).get? b:=λb z=>gk _ _ z;refine k _ YC.objs.size tn (λb o hb nf ne'=>?_) (λb o hb hf=>?_) ⟨_,fM _ e2 Z',Z',Z',Z'⟩ ⟨_,fs.toArray,(up _ (dZ te)).trans (dO _ Z'),Z',by rw[dB,X1];decide,by rw[iP];exact hfl⟩
 .rw[up b (dZ ne')];exact dq _ (by rw[z2 b nf];exact hb)
 .obtain⟨sl,q⟩:=z3 b o hb;refine⟨sl,?_⟩;rw[up b (λz=>ne (z ▸ hf))];exact dq _ q
def RJ{E₁:QQX}{tb:Option Uf}{F:Vl}{YB:Env}(hcf:YB.frame=ga L)(ZW:A.frames=ga (env::outer))(hF:s.heap.FunFrames base (env::outer))(hL:env.frame=ga L)(hx:ND s.heap e cls dx tb F)(hFL:(F==u8 ↑L)=pc) (k:∀(h':No) (T:Uf),s.heap.get? T=Fa->(∀b o,s.heap.get? b=ga o->b∉ww (env::outer)->b≠e->tb≠ga b->h'.get? b=ga o)->(∀b o,s.heap.get? b=ga o->b∈ww (env::outer)->∃sl,h'.get? b=ga {o with slots:=sl})->
   (∀b,h'.get? b=Fa->s.heap.get? b=Fa)->ND h' e cls dx (ga T) (u8 ↑L)->Q () {s with heap:=h'}):pi M A (noteFrame (.ref e) YB) Q E₁ s:=by
 obtain⟨oe,vs,ho,hc,hdx,hd,h1,hv,hT⟩:=hx;have ne:=DX hF ho hd;unfold noteFrame;rw[hcf];refine cZ (fm ho hd hv ?_);have X0:∀(s1:Sd) (oe1:Obj),s1.gens=s.gens->s1.drawn=s.drawn->s1.toks=s.toks->s1.os=s.os->s1.heap.FunFrames base (env::outer)->s1.heap.get? e=ga oe1->oe1.cls=cls->oe1.dict=dx->oe1.data=.fields vs->(∀b o,s.heap.get? b=ga o->b∉ww (env::outer)->b≠e->tb≠ga b->s1.heap.get? b=ga o)->
   (∀b o,s.heap.get? b=ga o->b∈ww (env::outer)->s1.heap.get? b=ga o)->(∀b,s1.heap.get? b=Fa↔s.heap.get? b=Fa)->∀(Zd:Vl) (had:Bool),pi M A (do
   let a<-PySem.frameOf YB;let pl<-entryPlaceOf L had;let b<-EntryCells.newEntry Zd a Value.none (u8 ↑L) Value.none pl
   setField (Value.ref e) 1 b) Q E₁ s1:=by
  intro s1 oe1 g1 g2 g3 g4 hF1 ho1 hc1 hdx1 hd1 kb kf kn Zd had;refine QL hcf ZW hF1 hL ho1 hd1 h1 λh' T tn k1 k2 ⟨oe',he',hce,hdxe,hde⟩ ⟨oT,ts,Y6,Zx,h3,h3v⟩=>?_;have te:T≠e:=λz=>by rw[z,ho1]at tn;cases tn
  have:=k h' T ((kn T).mp tn) (λb o hb nf nb nt=>k1 b o (kb b o hb nf nb nt) nf nb) (λb o hb hf=>k2 b o (kf b o hb hf) hf) (λb hb=>?_) ⟨oe',vs.setIfInBounds 1 (.ref T),he',hce.trans hc1,hdxe.trans hdx1,hde,by rw[jN];exact h1,by rw[iw h1];rfl,λT' eT=>?_⟩
  .show Q () {heap:=_,gens:=s1.gens,drawn:=s1.drawn,toks:=s1.toks,os:=s1.os};rw[g1,g2,g3,g4];exact this
  .refine(kn b).mp ?_;cases q:s1.heap.get? b with
   | none=>rfl
   | some o=>
    by_cases z:b=e
    .rw[z,he']at hb;cases hb
    .by_cases zf:b∈ww (env::outer)
     .obtain⟨sl,q2⟩:=k2 b o q zf;rw[q2]at hb;cases hb
     .rw[k1 b o q zf z]at hb;cases hb
  .cases eT;exact⟨te,oT,ts,Y6,Zx,h3,h3v⟩
 cases tb with
 | none=>rw[dg (show ¬((Fa:Option Uf).elim Value.none Value.ref != Value.none)=Db by decide+kernel)];exact X0 s oe Z' Z' Z' Z' hF ho hc hdx hd (λb o hb _ _ _=>hb) (λb o hb _=>hb) (λb=>.rfl) _ _
 | some T=>
  obtain⟨nTe,oT,ts,Y6,Zx,h3,hn⟩:=hT T Z';rw[dh (show((ga T:Option Uf).elim Value.none Value.ref != Value.none)=Db by rfl)];refine cZ (fm Y6 Zx hn ?_);rw[dg (by rw[hFL];exact dD)];refine cZ (im Y6 Zx h3 ?_);have up:∀b,T≠b->(s.heap.update T (Obj.mapFields λx=>x.setIfInBounds 3 .none)).get? b=s.heap.get? b:=λb z=>gk _ _ z;have nf:∀b o,s.heap.get? b=ga o->(∀vs,o.data≠.fields vs)->T≠b:=λb o hb hn z=>by rw[<-z,Y6]at hb;cases hb;exact hn ts Zx
  have sz:∀b,(s.heap.update T (Obj.mapFields λx=>x.setIfInBounds 3 .none)).get? b=Fa↔s.heap.get? b=Fa:=λb=>by
   by_cases z:T=b
   .rw[<-z];obtain⟨oc,od,odt,YR⟩:=oT;obtain rfl:odt=.fields ts:=Zx;rw[fM _ Y6 Z',Y6];exact⟨(λq=>by cases q),(λq=>by cases q)⟩
   .rw[up b z]
  exact X0 {s with heap:=s.heap.update T (Obj.mapFields λx=>x.setIfInBounds 3 .none)} oe Z' Z' Z' Z' (mB (λb o hb hn=>⟨o,(up b (nf b o hb hn)).trans hb,Z'⟩) hF) ((up e nTe).trans ho) hc hdx hd
   (λb o hb _ _ nt=>(up b λz=>nt (by rw[z])).trans hb) (λb o hb hf=>by
    obtain⟨o',Yz,hn⟩:=BU hF hf;rw[hb]at Yz;cases Yz;exact(up b (nf b o hb hn)).trans hb) sz _ _
def Mh{T:Uf}{F:Vl}(x:Option Uf)(hx:ND s.heap e cls dx (ga T) F)(k:∀h':No,(∀b,T≠b->h'.get? b=s.heap.get? b)->(∀b,h'.get? b=Fa↔s.heap.get? b=Fa)->ND h' e cls dx (ga T) (x.elim .none λf=>u8 f)->Q () {s with heap:=h'}):pi M A (setFlight (.ref e) x) Q E s:=by
 obtain⟨oe,vs,ho,hc,hdx,hd,h1,hv,hT⟩:=hx;obtain⟨nTe,oT,ts,Y6,Zx,h3,hn⟩:=hT T Z';unfold setFlight;refine cZ (fm ho hd hv ?_);rw[dh (by rfl)];refine im Y6 Zx h3 ?_;obtain⟨oc,od,odt,YR⟩:=oT;obtain rfl:odt=.fields ts:=Zx;have up:∀b,T≠b->(s.heap.update T (Obj.mapFields λy=>y.setIfInBounds 3 (x.elim .none λf=>u8 f))).get? b=s.heap.get? b:=λb z=>gk _ _ z;refine k _ up (λb=>?_) ⟨oe,vs,(up e nTe).trans ho,hc,hdx,hd,h1,hv,λT' eT=>?_⟩
 .by_cases z:T=b
  .rw[<-z,fM _ Y6 Z',Y6];exact⟨(λq=>by cases q),(λq=>by cases q)⟩
  .rw[up b z]
 .cases eT;exact⟨nTe,_,ts.setIfInBounds 3 (x.elim .none λf=>u8 f),fM _ Y6 Z',Z',by rw[jN];exact h3,by rw[iw h3]⟩
def JM{E₁ E₂:QQX}{tb:Option Uf}(ZW:A.frames=ga (env::outer))(hF:s.heap.FunFrames base (env::outer))(hL:env.frame=ga L)(hx:PB s.heap e cls dx tb) (k:∀(h':No) (T:Uf),s.heap.get? T=Fa->(∀b o,s.heap.get? b=ga o->b∉ww (env::outer)->b≠e->tb≠ga b->h'.get? b=ga o)->(∀b o,s.heap.get? b=ga o->b∈ww (env::outer)->∃sl,h'.get? b=ga {o with slots:=sl})->
   PB h' e cls dx (ga T)->Q () {s with heap:=h'}):pi M A (noteFrame (.ref e) env) (λ_ s₂=>pi M A (setFlight (.ref e) Fa) Q E₂ s₂) E₁ s:=by
 refine RJ hL ZW hF hL hx (dM.mpr λz=>by have:=fg.mp z;cases this) λh' T tn k1 k2 _ x'=>?_;refine Mh Fa x' λh2 up _ x2=>k h2 T tn (λb o hb nf nb nt=>?_) (λb o hb hf=>?_) x2
 .have tb:T≠b:=λz=>by rw[z,hb]at tn;cases tn
  exact(up b tb).trans (k1 b o hb nf nb nt)
 .have tb:T≠b:=λz=>by rw[z,hb]at tn;cases tn
  obtain⟨sl,q⟩:=k2 b o hb hf;exact⟨sl,(up b tb).trans q⟩
def Qc{tb:Option Uf}(ZW:A.frames=ga (env::outer))(hF:s.heap.FunFrames base (env::outer))(hL:env.frame=ga L)(hx:PB s.heap e cls dx tb) (k:∀(h':No) (T:Uf),s.heap.get? T=Fa->(∀b o,s.heap.get? b=ga o->b∉ww (env::outer)->b≠e->tb≠ga b->h'.get? b=ga o)->(∀b o,s.heap.get? b=ga o->b∈ww (env::outer)->∃sl,h'.get? b=ga {o with slots:=sl})->
   PB h' e cls dx (ga T)->Q () {s with heap:=h'}):pi M A (leaving env (.ref e)) Q E s:=cZ (JM ZW hF hL hx k)
end
def CD(P:Pg)(w:Wo):Lm:=λouter H s E ev s'=>F9 λe C dx H' tb=>ev=.ref e/\E (.ref C) dx H'/\s'.os=s.os/\XXk s'.gens/\Un (ww outer) [] H H' s.heap s'.heap/\yL P w H' s'.heap/\
 PB s'.heap e (.ref C) dx (ga tb)/\s.heap.get? e=Fa/\s.heap.get? tb=Fa/\H' e=Fa/\H' tb=Fa
def yD{o:HO}(x:sC P w H h a o):∃ob,h.get? a=ga ob:=by
 cases o with
 | lst xs=>obtain⟨_,_,_,_,e⟩:=x;exact⟨_,e⟩
 | tup xs=>obtain⟨_,_,_,o,e,_⟩:=x;exact⟨_,e⟩
 | dK kvs=>obtain⟨_,_,_,_,o,_,_,e,_⟩:=x;exact⟨_,e⟩
 | dT kvs=>obtain⟨_,_,_,_,o,_,_,e,_⟩:=x;exact⟨_,e⟩
 | set S n=>obtain⟨o,_,_,_,e,_⟩:=x;exact⟨_,e⟩
 | ins C dx fs=>obtain⟨_,_,_,e,_⟩:=x;exact⟨_,e⟩
 | own y=>exact x
 | xd fs=>obtain⟨_,⟨_,_,_,e,_⟩,_⟩:=x;exact⟨_,e⟩
 | rng lo hi=>obtain⟨_,_,_,e⟩:=x;exact⟨_,e⟩
 | frz ob u=>obtain⟨e,_⟩:=x;exact⟨_,e⟩
 | tbl ps=>exact⟨_,x⟩
 | met f y=>exact⟨_,x⟩
 | ext φ=>obtain⟨_,e,_⟩:=x;exact e
def zF{T:Uf}(mR:yL P w H h)(tn:h.get? T=Fa):H T=Fa:=by
 cases z:H T with
 | none=>rfl
 | some o=>obtain⟨ob,hob⟩:=yD (mR T o z);rw[hob]at tn;cases tn
variable {P:Pg}{w:Wo}{K:qy}{mg:QQZ}{N:QQQ}{qual:Str}{scope:XXb}{f:Uf}{cd:Vl}{s0:Sd}{H0:Hp}
section
variable {E:XK}
def Hk(u:Un fs ex H H' h h')(hex:ex=[]){b:Uf}(hb:h'.get? b=Fa):h.get? b=Fa:=by
 cases q:h.get? b with
 | none=>rfl
 | some o=>obtain⟨o',e⟩:=u.there b o q (by rw[hex];simp);rw[e]at hb;cases hb
def Mz{XU:QQY}{e C T:Uf}{tb dx:Option Uf}{h':No}(I:Inv (vk (CD P w) P w K mg base N qual scope f cd A outer s0 H0 E) XU Y H s)(he:s0.heap.get? e=Fa)(Yt:∀T,tb=ga T->s0.heap.get? T=Fa/\H T=Fa)(hn:H e=Fa)(q:E (.ref C) dx H)(hT:s0.heap.get? T=Fa/\H T=Fa) (k1:∀b o,s.heap.get? b=ga o->b∉ww (dL qual scope s0.heap.objs.size f cd::outer)->b≠e->tb≠ga b->h'.get? b=ga o) (k2:∀b o,s.heap.get? b=ga o->b∈ww (dL qual scope s0.heap.objs.size f cd::outer)->∃sl,h'.get? b=ga {o with slots:=sl}) (x':PB h' e (.ref C) dx (ga T)):
  CD P w outer H0 s0 E (.ref e) {s with heap:=h'}:=by
 have YF:=I.nG;have Ya:∀b o,H b=ga o->∀u,s.heap.get? b=ga u->h'.get? b=ga u:=λb o hb u hu=>k1 b u hu (λz=>by rw[YF b z]at hb;cases hb) (λz=>by rw[z,hn]at hb;cases hb) (λz=>by rw[(Yt b z).2]at hb;cases hb);have oldf:∀b o,s0.heap.get? b=ga o->b∉ww [dL qual scope s0.heap.objs.size f cd]:=λb o hb z=>by
  have:b=s0.heap.objs.size:=by have hz:b∈[s0.heap.objs.size]:=z;exact dz.mp hz
  rw[this]at hb;exact absurd (dG hb) (eZ _)
 have fr:∀b,b∈ww (dL qual scope s0.heap.objs.size f cd::outer)->b∈ww [dL qual scope s0.heap.objs.size f cd]\/b∈ww outer:=λb hb=>by
  have hb:b∈s0.heap.objs.size::ww outer:=hb;rcases dC.mp hb with z|z
  .exact .inl (by rw[z];exact dP)
  .exact .inr z
 have Ym:Un (ww outer) [] H0 H s0.heap s.heap:=I.base;refine⟨e,C,dx,H,T,Z',q,I.os,I.bare,⟨λb o hb h0 nf ne=>?_,λb o hb h0 hf ne=>?_,Ym.free,λb o hb ne=>?_,Ym.nE,Ym.ny,Ym.nJ⟩,λb o hb=>?_,x',he,hT.1,hn,hT.2⟩
 .have hs:=Ym.keep b o hb h0 nf ne;refine k1 b o hs (λz=>?_) (λz=>by rw[z,he]at hb;cases hb) λz=>by rw[(Yt b z).1]at hb;cases hb
  rcases fr b z with z|z
  .exact oldf b o hb z
  .exact nf z
 .obtain⟨sl,hs⟩:=Ym.slot b o hb h0 hf ne;have:b∈ww (dL qual scope s0.heap.objs.size f cd::outer):=dH _ hf;obtain⟨Zk,h2⟩:=k2 b _ hs this;exact⟨Zk,h2⟩
 .obtain⟨o',hs⟩:=Ym.there b o hb ne;by_cases z:b∈ww (dL qual scope s0.heap.objs.size f cd::outer)
  .obtain⟨sl,h2⟩:=k2 b o' hs z;exact⟨_,h2⟩
  .exact⟨o',k1 b o' hs z (λz=>by rw[z,he]at hb;cases hb) λz=>by rw[(Yt b z).1]at hb;cases hb⟩
 .refine(I.mR b o hb).nF (λb' u YO hu=>?_) (λ_ q=>q) λ_ _ q=>q;rcases YO with z|z
  .subst z;exact Ya b' o hb u hu
  .exact Ya b' _ z u hu
def UX{XU:QQY}{e C:Uf}{tb dx:Option Uf}(I:Inv (vk (CD P w) P w K mg base N qual scope f cd A outer s0 H0 E) XU Y H s)(hx:PB s.heap e (.ref C) dx tb)(he:s0.heap.get? e=Fa)(hT:∀T,tb=ga T->s0.heap.get? T=Fa/\H T=Fa)(hn:H e=Fa)(q:E (.ref C) dx H):
  (vk (CD P w) P w K mg base N qual scope f cd A outer s0 H0 E).xe (.ref e) s:=
 Qc (base:=base) (outer:=outer) I.ok.frames I.stack Z' hx λh' T tn k1 k2 x'=>Mz I he hT hn q ⟨Hk (show Un (ww outer) [] H0 H s0.heap s.heap from I.base) Z' tn,zF I.mR tn⟩ k1 k2 x'
end
section
variable {E:XK}
end
def O8(d:Uf)(f:Str)(v:V)(h:No):Prop:=∃u,h.Ns1 d (λy=>if y=f then ga u else Fa)/\qM v u
end L2
namespace L3
open L2
abbrev XR:=Uf->Option (Str×D)->Mp->Prop
abbrev G8:=T0 D->Mp->DK->XR->Prop
def Uw(K:qy)(H:Hp)(dx:Option Uf)(y:Option (Str×D)):Prop:=(dx=Fa/\y=Fa)\/Br λd f z v=>dx=ga d/\y=ga (f,z)/\H d=ga (.ext (O8 d f v))/\rT K H z v
def UL(K:qy)(R:XR)(E:XK):Prop:=∀C dx H M y,HM K H M->Uw K H dx y->R C y M->E (.ref C) dx H
def Xe(K:qy)(sp:G8):Sp:=λvs H Q' E=>Br λds M Q R=>qr K H ds vs/\HM K H M/\sp ds M Q R/\Up K H Q' Q/\UL K R E
abbrev SN(P:Pg)(w:Wo)(K:qy)(mg:QQZ)(base:No)(k:Nat)(f:Uf)(fd:wv)(ps:QQQ)(sp:G8):Prop:=xN P w K mg base (CD P w) k f fd ps (Xe K sp)
variable {X:Cx}{x:Str}{p pos np X3:Pos}{e:Go}{es:T0 Go}{t:xE}{k:Nat}{f C:Uf}{fd:wv}{ps:QQQ}{sp:G8}{R:XR}{E:XK}{P:Pg}{w:Wo}{K:qy}{mg:QQZ}{base:No}{N:QQQ}{qual:Str}{scope:XXb}{cd:Vl}{A:Ar}{outer:T0 Env}{s0:Sd}{H0:Hp}{ta:xE}
def VH{st:TD}{sp:G8}(F:Pf K x qual st f fd)(S:tw N ps (qo st))(len:∀ds M Q R,sp ds M Q R->ds.length=ps.length) (Yg:∀(X6:Vl) (A:Ar) (outer:T0 Env) (s:Sd) (H:Hp) (E:XK) (R:XR),sj k (A.deeper (dL qual (qo st) s.heap.objs.size f X6))->UL K R E->
   ∃t,Hu (vk (CD P w) P w K mg base N qual (qo st) f X6 A outer s H E) (rV st) t/\∀ds M Q,sp ds M Q R->t {nx:=λ_ M'=>∃XZ,qG XZ M'/\Q .mK XZ,rt:=λd M'=>∃XZ,qG XZ M'/\Q d XZ} (xy N ds) M):SN P w K mg base (k+1) f fd ps sp:=by
 obtain⟨oc,od,kV,Yx,pm,an,X6,ct,YR,rfl,lk,Y8⟩:=F.ex;refine NP lk Y8 S (λvs H Q E h=>?_) λA outer s H vs Q' E hr h=>?_
 .obtain⟨ds,M,Q,R,hd,_,hs,_⟩:=h;rw[<-hd.length];exact len ds M Q R hs
 .obtain⟨ds,M,Q,R,hd,hm,hs,k,hR⟩:=h;obtain⟨t,ht,hb⟩:=Yg X6 A outer s H E R hr hR;exact⟨_,ht,xy N ds,M,_,D8 hd,hm,hb ds M Q hs,λσ' H' δ' M' _ x2 x3 _ ⟨XZ,y1,y2⟩=>k .mK H' .mK XZ .mK (x2.sub y1) x3 y2,λv H' d M' x1 x2 x3 ⟨XZ,y1,y2⟩=>k v H' d XZ x1 (x2.sub y1) x3 y2,λ_ _ _ _ _ _ _ _ z=>z,λ_ _ _ _ _ _ _ _ z=>z⟩
end L3
namespace L2
def TKept(H H':Hp):Prop:=(∀b xs,H b=ga (.tup xs)->H' b=ga (.tup xs))/\∀b o u,H b=ga (.frz o u)->H' b=ga (.frz o u)
def Wy(X:Cx)(XU:QQY)(Y:St)(J:Hp->Prop)(E:XK)(ev:Vl)(s':Sd):Prop:=CP λH s=>J H/\Inv X XU Y H s/\CD X.prog X.w X.stack H s E ev s'
def Uz(X:Cx)(XU:QQY)(Y:St)(J:Hp->Prop)(E:XK)(ev:Vl)(s':Sd):Prop:=Ui λa C dx H' tb H1 s1=>ev=.ref a/\E (.ref C) dx H'/\Inv X XU Y H' s'/\PB s'.heap a (.ref C) dx (ga tb)/\H' a=Fa/\H' tb=Fa/\J H1/\TKept H1 H'/\Inv X XU Y H1 s1/\s1.heap.get? a=Fa
def T1{M:Model}{E₁ E₂:QQX}{XU:QQY}{E:XK}{outer:T0 Env}{L:Uf}(h:Wy X XU Y J E ev s')(Yi:X.stack=X.env::outer)(hL:X.env.frame=ga L):
  pi M X.A (noteFrame ev X.env) (λ_ s₂=>pi M X.A (setFlight ev Fa) (λ_ s₃=>Uz X XU Y J E ev s₃) E₂ s₂) E₁ s':=by
 obtain⟨H,s,jH,I,e,C,dx,H',tb,rfl,q,os,bare,un,mR,x,he,ht,ne,nt⟩:=h;obtain⟨hh,g,d,t,os'⟩:=s';obtain rfl:os'=s.os:=os;have I':=I.call (h':=hh) (g':=g) (d':=d) (t':=t) (ch:=[]) un mR bare (λb z=>absurd z (by simp));have hF:=I'.stack;have YF:=I'.nG;have ZW:=I.ok.frames;rw[Yi]at hF ZW;refine JM (base:=X.base) (outer:=outer) ZW hF hL x λh' T tn k1 k2 x'=>?_;have Ya:∀b o,H' b=ga o->∀u,hh.get? b=ga u->h'.get? b=ga u:=λb o hb u hu=>k1 b u hu (λz=>by rw[YF b (by rw[Yi];exact z)]at hb;cases hb) (λz=>by rw[z,ne]at hb;cases hb) (λz=>by cases z;rw[nt]at hb;cases hb);have un':Un (ww X.stack) [] H H' s.heap h':=by
  refine⟨λb o hb h0 nf nx=>?_,λb o hb h0 hf nx=>?_,un.free,λb o hb nx=>?_,un.nE,un.ny,un.nJ⟩
  .exact k1 b o (un.keep b o hb h0 nf nx) (λz=>nf (by rw[Yi];exact z)) (λz=>by rw[z,he]at hb;cases hb) λz=>by cases z;rw[ht]at hb;cases hb
  .obtain⟨sl,hs⟩:=un.slot b o hb h0 hf nx;obtain⟨Zk,h2⟩:=k2 b _ hs (by rw[<-Yi];exact hf);exact⟨Zk,h2⟩
  .obtain⟨o',hs⟩:=un.there b o hb nx;by_cases z:b∈ww (X.env::outer)
   .obtain⟨sl,h2⟩:=k2 b o' hs z;exact⟨_,h2⟩
   .exact⟨o',k1 b o' hs z (λz=>by rw[z,he]at hb;cases hb) λz=>by cases z;rw[ht]at hb;cases hb⟩
 have hok':yL X.prog X.w H' h':=λb o hb=>(mR b o hb).nF (λb' u YO hu=>by
  rcases YO with z|z
  .subst z;exact Ya b' o hb u hu
  .exact Ya b' _ z u hu) (λ_ q=>q) λ_ _ q=>q
 have I3:Inv X XU Y H' {heap:=h',gens:=g,drawn:=d,toks:=t,os:=s.os}:=Inv.call (s:=s) (ch:=[]) I un' hok' bare (λb z=>absurd z (by simp));refine⟨e,C,dx,H',T,H,s,Z',q,I3,x',ne,?_,jH,⟨un.nE,un.ny⟩,I,he⟩;cases z:H' T with
 | none=>rfl
 | some o=>obtain⟨ob,hob⟩:=yD (mR T o z);have tn:hh.get? T=Fa:=tn;rw[hob]at tn;cases tn
variable {X:Cx}{XU:T0 (Uf × Obj)}{Y σ':St}{H H1:Hp}{s s1:Sd}{ev:Vl}{E':QQX}{a:Uf}
def Inv.adopt{o:HO}(I:Inv X XU Y H s)(I1:Inv X XU σ' H1 s1)(n1:s1.heap.get? a=Fa)(hn:H a=Fa)(ok:sC X.prog X.w (upd H a o) s.heap a o):Inv X XU Y (upd H a o) s:=by
 have ne:∀b ob,s1.heap.get? b=ga ob->b≠a:=λb ob e z=>by rw[z,n1]at e;cases e
 have nh:∀b ob,H b=ga ob->b≠a:=λb ob e z=>by rw[z,hn]at e;cases e
 refine⟨I.ok,I.os,I.bare,⟨I.base.keep,I.base.slot,λb o' e h0 hb=>?_,I.base.there,λb xs e=>?_,λb o' u e=>?_,λb ps e=>?_⟩,I.loc,I.cell,?_,λx c e=>?_,λp hp=>?_,λb ob e=>?_,I.len⟩
 .obtain⟨o2,e2⟩:=I1.base.there b o' e hb;rw[qd (ne b o2 e2)];exact I.base.free b o' e h0 hb
 .have:=I.base.nE b xs e;rw[qd (nh b _ this)];exact this
 .have:=I.base.ny b o' u e;rw[qd (nh b _ this)];exact this
 .obtain⟨more,this⟩:=I.base.nJ b ps e;exact⟨more,by rw[qd (nh b _ this)];exact this⟩
 .obtain⟨m,⟨o2,_,_,e2,_⟩,_⟩:=I1.loc;rw[qd (ne _ o2 e2)];exact I.free
 .obtain⟨v,o2,e2,_⟩:=I1.cell x c e;rw[qd (ne _ o2 e2)];exact I.mW x c e
 .obtain⟨e1,e2,e3,e4,e5⟩:=I.pin p hp;exact⟨e1,by rw[qd (ne _ _ (I1.pin p hp).1)];exact e2,e3,e4,e5⟩
 .by_cases z:b=a
  .subst z;rw[qg]at e;cases e;exact ok
  .rw[qd z]at e;exact(I.mR b ob e).nF (λ_ _ _ q=>q) (λb' q=>by rw[qd (nh b' _ q)];exact q) λb' xs q=>by rw[qd (nh b' _ q)];exact q
noncomputable def Cx.marked(X:Cx)(ev:Vl)(E:QQX):Cx:={X with A:=X.A.mark (ga ev),calm:=false,xe:=E}
def Inv.mark(I:Inv X XU Y H s):Inv (X.marked ev E') XU Y H s:=
 ⟨⟨I.ok.mod,I.ok.kind,I.ok.glob,I.ok.blt,I.ok.above,I.ok.inj,I.ok.has,I.ok.oz,(λz=>by cases z),I.ok.frames,I.ok.oM,I.ok.pb,I.ok.bs,I.ok.nY,I.ok.nL,I.ok.nU,I.ok.nA,I.ok.oq⟩,I.os,I.bare,I.base,I.loc,I.cell,I.free,I.mW,I.pin,I.mR,I.len⟩
def Inv.unmark(ok:X.Ok)(I:Inv (X.marked ev E') XU Y H s):Inv X XU Y H s:=⟨ok,I.os,I.bare,I.base,I.loc,I.cell,I.free,I.mW,I.pin,I.mR,I.len⟩
def SP.unmark(ok:X.Ok){D:Fc}{f:Flow}(h:SP (X.marked ev E') XU D f s):SP X XU D f s:=by
 cases f with
 | next=>obtain⟨a,b,I,q⟩:=h;exact⟨a,b,I.unmark ok,q⟩
 | brk=>obtain⟨a,b,I,q⟩:=h;exact⟨a,b,I.unmark ok,q⟩
 | cont=>obtain⟨a,b,I,q⟩:=h;exact⟨a,b,I.unmark ok,q⟩
 | ret v=>obtain⟨a,b,c,I,q⟩:=h;exact⟨a,b,c,I.unmark ok,q⟩
def Hx{M:Model}{h:No}{a:Uf}{o:Obj}(ho:h.get? a=ga o):W.Looks M h (typeOf (.ref a)) o.cls:=by intro A Q E s k q;unfold typeOf;exact cZ (wpAny_load (k a o ho) (dA q))
def GW{M:Model}{A:Ar}{E:QQX}{a C T:Uf}{Q:Unit->Sd->Prop}(x:PB s.heap a (.ref C) dx (ga T))(h:∀h':No,(∀b,h'.get? b=s.heap.get? b)->Q () {s with heap:=h'}):pi M A (setFlight (.ref a) Fa) Q E s:=by
 obtain⟨oe,vs,ho,hc,_,hd,h1,hv,hT⟩:=x;obtain⟨nTe,oT,ts,Y6,Zx,h3,hn⟩:=hT T Z';unfold setFlight;refine cZ (fm ho hd hv ?_);rw[dh (by rfl)];refine im Y6 Zx h3 (h _ λb=>?_);by_cases z:T=b
 .subst z;obtain⟨oc,od,odt,YR⟩:=oT;obtain rfl:odt=.fields ts:=Zx;rw[fM _ Y6 Z',Y6];show ga (Obj.mk oc od (.fields (ts.setIfInBounds 3 .none)) YR)=_;have:ts.setIfInBounds 3 .none=ts:=by
   apply Array.ext
   .simp
   .intro i h1 h2;rw[Array.getElem_setIfInBounds];split
    .rename_i e;subst e;rw[Array.getElem?_eq_getElem h3]at hn;exact(dw hn).symm
    .rfl
  rw[this]
 .exact gk _ _ z
def Se(X:Cx)(e:Go)(t:St->Hp->VK->(Hp->Prop)->XK->Prop):Prop:=∀(XU:QQY) (s:Sd) (Y:St) (H:Hp) (Q:VK) (J:Hp->Prop) (E:XK),Inv X XU Y H s->t Y H Q J E->pi (Tk X.prog X.w) X.A (wp e X.env) (EP X XU Y Q) (Wy X XU Y J E) s
def Xt(X:Cx)(st:TD)(t:Fc->St->Hp->(Hp->Prop)->XK->Prop):Prop:=∀(XU:QQY) (s:Sd) (Y:St) (H:Hp) (D:Fc) (J:Hp->Prop) (E:XK),Inv X XU Y H s->t D Y H J E->pi (Tk X.prog X.w) X.A (exec st X.env) (SP X XU D) (Wy X XU Y J E) s
def OI{X:Cx}{i:Nat}{x:Str}{te:St->Hp->VK->(Hp->Prop)->XK->Prop}{pos X5:Pos}(hN:X.N.Nodup)(hi:X.N[i]?=ga x)(hx:Ll X.env.scope x)(he:Se X e te)(hs:sB e (ga (.Name x X5)) pos.line X.env=pure pc:=by rfl)(hf:Lk X x:=by first|exact .inl Z'|exact .inr Z'|assumption):
  Xt X (.Assign [.Name x X5] e pos) (λD Y H J E=>te Y H (λv H'=>D.nx (Y.set i (ga v)) H') J E):=by
 intro XU s Y H D J E I h;refine lq (sf (he XU s Y H _ J E I h) λv s1 zz=>x5 zz λy H1 I1 r1 q1=>?_) hs;exact Ck I1 hN hi hx r1 (λs2 I2=>⟨_,H1,I2,q1⟩) hf
variable {k:Nat}{f C:Uf}{fd:wv}{ps:QQQ}{sp:Sp}{YG:T0 V}{ds:T0 Vl}{m:Str}{p pos XY:Pos}{e o:Go}{es:T0 Go}{t:TA}
section
variable {x:Str}
def MB(F:xN X.prog X.w X.K X.mg X.base (CD X.prog X.w) k f fd ps sp)(hr:sj k X.A)(hg:Gl X x)(hm:X.mg x=ga (.ref f))(hk:W.keepIn X.K (.ref f)=Db)(hb:uY X.K fd ps ds)(hd:qA YG ds) (ha:PA (X.nW λ_ _=>False) (e::es) t) (Ye:zu x:=by decide) (he:By X e es:=by rfl) (Yb:C6 X pos es:=by rfl):
  Se X (.Call (.Name x p) (e::es) [] pos) (λY H Q J E=>t Y H λvs H1=>J H1/\sp (vs++YG) H1 Q E):=by
 intro XU s Y H Q J E I h;refine gw (xk I hg hm ?_ Ye);refine iV (h₀:=X.base) I.ok.mod.oo hk (eE (ha pos XU s Y H _ I.nW h) (λus s1 ⟨vs,H1,I1,r,jH,q⟩=>⟨I1.m7,?_⟩) λ_ _ z=>z.elim) he Yb;have I1:=I1.xeOf;have r2:qA (vs++YG) (us++ds):=r.append hd;have hl:(us++ds).length=ps.length:=by rw[<-r2.length];exact F.len _ _ _ _ q
 refine iU (gU (F.run X.A X.stack s1 H1 ⟨us,[]⟩ (us++ds) (vs++YG) Q E hr I1.om (hb s1 us I1.m7 hl) r2 q) λr s' hq=>?_);cases r with
 | error e=>exact⟨H1,s1,jH,I1,hq⟩
 | ok fl=>
  cases fl with
  | ret u=>exact I1.after hq
  | next=>exact False.elim hq
  | brk=>exact False.elim hq
  | cont=>exact False.elim hq
end
def P4{st b₀:TD}{YI:T0 TD}{cnp ZJ pos:Pos}{Cc L:Uf}{outer:T0 Env}{t:Fc->St->Hp->(Hp->Prop)->XK->Prop}(hb:Xt X st t)(Yi:X.stack=X.env::outer)(hL:X.env.frame=ga L)(hg:Gl X cn)(hm:X.mg cn=ga (.ref Cc))(hs:∀ev E',Cb (X.marked ev E') (b₀::YI) th) (Ye:zu cn:=by decide):
  PS X (.Try [st] [.ExceptHandler (ga (.Name cn cnp)) Fa (b₀::YI) ZJ] [] [] pos) (λD Y H=>∃(J:Hp->Prop) (E:XK),t D Y H J E/\∀C dx H1 H',J H1->TKept H1 H'->E (.ref C) dx H'->W.exmOne X.K (.ref C) (.ref Cc)=ga Db/\th D Y H'):=by
 intro XU s Y H D I ⟨J,E,h,hh⟩;refine wpAny_Try_except (eE (Q:=λf s'=>SP X XU D f s') (jD (sf (hb XU s Y H D J E I h) λf s1 q=>?_)) (λf s1 q=>?_) λev s1 x=>?_)
 .cases f with
  | next=>exact hJ q
  | brk=>exact q
  | cont=>exact q
  | ret v=>exact q
 .cases f with
  | next=>exact hJ q
  | brk=>exact q
  | cont=>exact q
  | ret v=>exact q
 .refine eE (T1 x Yi hL) (λ_ s2 y=>sf y λ_ s3 z=>?_) λ_ _ z=>z;obtain⟨a,C,dx,H',tb,H1,s1,rfl,q,I3,x3,na,nt,jH,tk,I1,n1⟩:=z;obtain⟨XX,h1⟩:=hh C dx H1 H' jH tk q;refine wpAny_handleBy_cons (codeAny_handlers_test (xk (X:=X.marked (.ref a) λ_ _=>False) I3.mark hg hm ?_ Ye)) (by intro z;cases z);obtain⟨oe,vs,ho,hc,_⟩:=id x3;refine W.exm_one I3.m7 (Hx ho) (by rw[hc];exact XX) _ _ _ _ (λ_ _ z=>z) ?_;refine codeAny_handlers_suite (GW x3 λh' hh'=>?_);have I4:Inv X XU Y H' {s3 with heap:=h'}:=I3.kept (t':=s3.toks) λb u z=>by rw[hh' b];exact z
  refine eE (hs (.ref a) _ XU _ Y H' D I4.mark h1) (λf s5 q5=>SP.unmark I.ok q5) λ_ _ z=>z
variable {prog:Pg}{w:Wo}{A:Ar}{E:QQX}{K:qy}{ox:Obj}
section
variable {x:Uf}
end
end L2
namespace L3
open L2
theorem _root_.L2.TKept.ext{K:qy}(h:TKept H H'):qV K H H':=⟨λa xs q=>by
 rcases q with(q|⟨u,q⟩)|q
 .exact .inl (.inl (h.1 a xs q))
 .exact .inl (.inr ⟨u,h.2 a u _ q⟩)
 .exact .inr q,λa o xs q=>h.2 a o _ q⟩
abbrev UI:=vp->Mp->DK->XR->Prop
def XQ(K:qy)(t:UI):St->Hp->VK->(Hp->Prop)->XK->Prop:=λY H Q' J E=>Br λU M Q R=>Ac K H Y U/\HM K H M/\t U M Q R/\(∀v H' d M',rT K H' d v->HM K H' M'->qV K H H'->Q d M'->Q' v H')/\(∀H1,qV K H H1->J H1)/\UL K R E
def Xn(X:Cx)(e:Go)(t:UI):Prop:=Se X e (XQ X.K t)
def Se.mono{t t':St->Hp->VK->(Hp->Prop)->XK->Prop}(h:Se X e t)(m:∀Y H Q J E,t' Y H Q J E->t Y H Q J E):Se X e t':=λXU s Y H Q J E I q=>h XU s Y H Q J E I (m Y H Q J E q)
variable {X:Cx}{x:Str}{p pos np X3:Pos}{e:Go}{es:T0 Go}{t:xE}{k:Nat}{f C:Uf}{fd:wv}{ps:QQQ}{sp:G8}
def LG(F:SN X.prog X.w X.K X.mg X.base k f fd ps sp)(hr:sj k X.A)(hg:Gl X x)(hm:X.mg x=ga (.ref f))(hk:W.keepIn X.K (.ref f)=Db)(hb:uY X.K fd ps [])(ha:A3 (X.nW λ_ _=>False) (e::es) t) (Ye:zu x:=by decide) (he:By X e es:=by rfl) (Yb:C6 X pos es:=by rfl):
  Xn X (.Call (.Name x p) (e::es) [] pos) (λU M Q R=>t U M λds M1=>sp ds M1 Q R):=Se.mono (MB F hr hg hm hk hb .nil ha Ye he Yb) λY H Q' J E ⟨U,M,Q,R,hs,hm,ht,k,kJ,kR⟩=>
 ⟨U,M,_,hs,hm,ht,λvs H1 ds M1 hd XX e1 q1=>⟨kJ H1 e1,ds,M1,Q,R,by rw[eO];exact hd,XX,q1,vm e1 k,kR⟩⟩
variable {b₀:TD}{YI:T0 TD}{cn n:Str}{cnp ZJ XY xpos:Pos}{Cc L:Uf}{outer:T0 Env}{i ix:Nat}{te:UI}{th:xG}
def W5(K:qy)(ix:Nat)(Cc:Uf)(te:UI)(th:xG):xG:=λD U M=>∃R,te U M (λd M1=>D.nx (U.set ix (ga d)) M1) R/\∀C y M',R C y M'->W.exmOne K (.ref C) (.ref Cc)=ga Db/\th D U M'
def OT(he:Xn X e te)(Yi:X.stack=X.env::outer)(hL:X.env.frame=ga L)(hg:Gl X cn)(hm:X.mg cn=ga (.ref Cc))(hN:X.N.Nodup)(hix:X.N[ix]?=ga x)(hx:X.env.scope.names.lookup x=ga .local) (hs:∀ev E',Hu (X.marked ev E') (b₀::YI) th) (Ye:zu cn:=by decide) (Zn:sB e (ga (.Name x xpos)) XY.line X.env=pure pc:=by rfl):
  S3 X (.Try [.Assign [.Name x xpos] e XY] [.ExceptHandler (ga (.Name cn cnp)) Fa (b₀::YI) ZJ] [] [] pos) (W5 X.K ix Cc te th):=
 PS.nO (P4 (th:=V7 X.K th) (OI hN hix (.inl hx) he Zn (.inr hx)) Yi hL hg hm hs Ye) λD' Y H hl ⟨U,M,D,hs,hm,⟨R,ht,hh⟩,k1,k2,k3,k4⟩=>by
  refine⟨λH1=>qV X.K H H1,λcv d H'=>∃C M' y,cv=.ref C/\HM X.K H' M'/\Uw X.K H' d y/\R C y M',⟨U,M,_,R,hs,hm,ht,λv H1 d M1 hd XX e1 q1=>?_,λ_ z=>z,λC dx H' M' y h1 h0 h2=>⟨C,M',y,Z',h1,h0,h2⟩⟩,λC dx H1 H' jH tk ⟨C',M',y,ec,Zp,hdx,r⟩=>?_⟩
  .exact k1 _ H1 _ M1 ((hs.mono e1).set hd (by rw[hl];exact(c9.mp hix).1)) XX e1 (by simp) q1
  .cases ec;obtain⟨r1,r2⟩:=hh C y M' r;have e1:qV X.K H H':=jH.trans (L2.TKept.ext tk);refine⟨r1,U,M',D,hs.mono e1,Zp,r2,λσ2 H2 δ2 M2 y1 y2 y3 y4 y5=>?_,λv H2 d M2 y1 y2 y3 y5=>?_,λσ2 H2 δ2 M2 y1 y2 y3 y4 y5=>?_,λσ2 H2 δ2 M2 y1 y2 y3 y4 y5=>?_⟩
   .exact k1 _ H2 _ M2 y1 y2 (e1.trans y3) y4 y5
   .exact k2 _ H2 _ M2 y1 y2 (e1.trans y3) y5
   .exact k3 _ H2 _ M2 y1 y2 (e1.trans y3) y4 y5
   .exact k4 _ H2 _ M2 y1 y2 (e1.trans y3) y4 y5
end L3
namespace L2
noncomputable def BY(es:Array DictEntry):Bool:=es.toList.all λe=>match e.key with|.str _ _=>Db|_=>pc
def CC{es:Array DictEntry}(h:BY es=Db):StrKeys es:=λe he=>by
 have:=eR.mp h e (ko.mpr he);cases z:e.key with
 | str n t=>exact⟨n,t,Z'⟩
 | _=>rw[z]at this;cases this
abbrev LX:T0 Vl:=[.type "ValueError",.type "Exception",.type "BaseException",.type "object"]
def QN{K:qy}{t:Vl}{C:Uf}{cd:ClassData}{b:Bool}(q0:W.subIn K (.ref C) (.type "BaseException")=ga Db)(q1:W.clsIn K C=ga cd)(q2:W.typeIn K (.ref C)=ga (.type "type"))(s:W.subIn K t (.ref C)=ga b):W.exmOne K t (.ref C)=ga b:=by unfold W.exmOne;rw[q0,dh (by rfl)];unfold W.kitCls;simp only;rw[q1,q2,dh (by rfl)];exact s
end L2
namespace L3
open L2
end L3
namespace L2
theorem C0(self:Vl):∀own:QXQ,refuseLoop self "__setattr__" (own.map Value.ref++LX)=pure ()
 | []=>jO.passes self
 | c::r=>by show refuseLoop self "__setattr__" (.ref c::(r.map Value.ref++LX))=pure ();rw[refuseLoop_ref];exact C0 self r
variable {prog:Pg}{w:Wo}{A:Ar}{s:Sd}{K:qy}{x C:Uf}{ox:Obj}{own:QXQ}{name:Str}{v:Vl}
section
variable {E:QQX}{cd:ClassData}
def QA{Q:Unit->Sd->Prop}(X:K.In s.heap)(I:W.InstAt s.heap x ox C Fa)(hs:W.findIn K (.ref C) "__setattr__"=ga (ga (.builtin "object.__setattr__")))(hc:W.clsIn K C=ga cd)(hm:cd.mro=own.map Value.ref++LX)(ht:W.takerIn K C name=ga Fa)(hd:cd.hasDict=Db) (h:∀h' d t,(∀b o,b≠x->s.heap.get? b=ga o->h'.get? b=ga o)->h'.get? x=ga {ox with dict:=some d}->s.heap.get? d=Fa->d≠x->h'.Ns1 d (λy=>if y=name then ga v else Fa)->Q () {s with heap:=h',toks:=t}):pi (Tk prog w) A (setAttr (.ref x) name v) Q E s:=by
 refine W.set_plain X I hs ?_;have SF:=jO;have ne:cd.mro.isEmpty=pc:=by rw[hm];cases own<;>rfl
 have has:cd.mro.contains (.type "object")=Db:=by
  rw[hm,List.contains_eq_any_beq,l0];have:LX.any (Value.type "object"==·)=Db:=by decide+kernel
  rw[this,k9]
 have sub:W.Looks (Tk prog w) s.heap (isInstance (.ref x) (.type "object")) Db:=I.type.andThen (W.looks_mroIn X (by unfold W.mroIn;rw[hc,lT,dg (by rw[ne];decide),has]));refine ku SF.slot.plain SF.entry (@PySem.W.check_slot (Tk prog w) _ _ {s with toks:=s.toks+1} "object.__setattr__" "object" "__setattr__" (.ref x) [.str name s.toks,v] [] _ SF.kind SF.split sub (SF.args (.ref x) (.str name s.toks) v) ?_);obtain⟨attr,ha,hr⟩:=Option.bind_eq_some_iff.mp ht;have hmro:W.Looks (Tk prog w) s.heap (mroOf (.ref C)) cd.mro:=(kC X hc).andThen .now;have L3':W.Looks (Tk prog w) s.heap (Builtin.ObjectAttr.storeTaker? attr) Fa:=by
  cases attr with
  | none=>exact .now
  | some a=>
   obtain⟨b,hb,hr⟩:=j6.mp hr;refine(W.looks_takesIn X hb).andThen ?_;cases b
   .exact .now
   .cases hr
 rw[W.osa_eq,refuse_eq];refine cZ (cZ (I.type.here (s:={s with toks:=s.toks+1}) (cZ (hmro.here (s:={s with toks:=s.toks+1}) ?_))));rw[hm,C0];refine dA (cZ (I.type.here (s:={s with toks:=s.toks+1}) (cZ ((me X ha).here (s:={s with toks:=s.toks+1}) (cZ (L3'.here (s:={s with toks:=s.toks+1}) ?_))))));obtain⟨hx,hcl,hn,hdx⟩:=I;obtain⟨oc,odi,oda,YR⟩:=ox;dsimp only at hcl hdx;subst hcl;cases odi with
 | some _=>exact hdx.elim
 | none=>
  refine cZ (dA (cZ (cZ (wpAny_loadPart hx (cZ (mj (s:={s with toks:=s.toks+1}) (kC X hc) ?_))))));rw[hd];rw[dg (by decide)];obtain⟨hh,g,dr,tk,os⟩:=s;dsimp only at hx h ⊢;rw[dg (by simp[typeHasDict])];split
  .cases hn
  .have y1:(hh.push W.emptyDict).get? x=ga ⟨.ref C,Fa,oda,YR⟩:=dq _ hx;have nx:x≠hh.objs.size:=λz=>eZ _ (z ▸ dG hx);refine cZ (wpAny_alloc' (cZ (wpAny_update' y1 (dA ?_))));have e0:((hh.push W.emptyDict).update x λo=>{o with dict:=some hh.objs.size}).Ns hh.objs.size (λ_=>Fa):=⟨W.emptyDict,#[],_,(kI _ _ _ _ nx.symm).trans (dO hh Z'),Z',λe he=>absurd he (by simp),λ_=>rfl⟩;refine cZ (dA (cZ (wpAny_nsSet1 (lw e0) λh' n1 sb=>?_)));obtain⟨oD,esD,epD,g1,g2,g3⟩:=n1.count (Within.cons name v Within.nil);refine cZ (lJ g1 (g2 ▸ lK (d9 g3 (by rw[dQ,dI];decide))) (dA (h h' hh.objs.size _ (λb o hb z=>?_) ?_ (gP (dv _)) nx.symm n1)))
   .exact(sb.2 b λy=>eZ _ (y ▸ dG z)).trans ((kI _ _ _ _ hb).trans (dq _ z))
   .refine(sb.2 x nx).trans (fM _ y1 ?_);have fr:=(Heap.get?_some_iff.mp hx).2;cases oda with
    | _=>first|rfl|exact fr
end
variable {nm q:Str}{bs bm Zj:T0 Vl}{hdct:Bool}{sn:QQQ}{sub:T0 Vl}{ab:Bool}{col:Option Bool}{dd:Option Uf}{k0 k1 k2 k3 k5:Option Vl}{B Bn newId nid Yo zZ:String}{bmN:T0 Vl}{h:No}{g:Array GenState}{d:Drawn}{t:Nat}{os:OsState}
section
variable {E:QQX}{N:Uf}
abbrev QG(C t:Uf):Obj:={cls:=.ref C,data:=.fields #[.ref t,.none,.none,.none,.bool pc,.none]}
def Bj(Fn:o0 Bn newId zZ bmN)(hBn:Zj.contains (.type Bn)=Db)(F:o0 B nid Yo Zj)(T:OwnTail h Zj bm){mN:QQZ}{us:T0 Vl}{fI:Uf}{oI:Obj}{Q:PySem.Fin->Sd->Prop} (hC:h.get? C=ga (X' nm q C N bs bm hdct sn sub ab col dd k0 k1 k2 k3 k5 newId)) (hn:h.Ns N mN) (hi:mN "__init__"=ga (.ref fI)) (hf:h.get? fI=ga oI) (hfc:oI.cls=.type "function") (X1:us.length<=Ch) (hq:∀h' e,Heap.MadeExcOf h h' e (.ref C) us->pi (Tk prog w) A (call (.ref fI) (.ref e::us)) (λr s'=>r=.none/\Q (.done (.ret (.ref e))) s') E ⟨h',g,d,t,os⟩):
  pi (Tk prog w) A (Builtin.«type.__call__» ⟨.ref C::us,[]⟩) Q E ⟨h,g,d,t,os⟩:=by
 repeat (first|with_reducible refine ie hC ?_|with_reducible refine wpAny_madeBy_exc hC ?_|wp_step)
 refine codeAny_call_builtin_code (jl _ Fn.quiet) (wpAny_check_new_subU Fn hBn T hC (codeAny_exc_new_subU Fn hBn F T hC ?_ X1));have kp:∀b o,h.get? b=ga o->((h.push {cls:=.type "tuple",data:=.seq us.toArray}).push (QG C h.objs.size)).get? b=ga o:=λb o z=>dq _ (dq _ z);have gE:((h.push {cls:=.type "tuple",data:=.seq us.toArray}).push (QG C h.objs.size)).get? (h.objs.size+1)=ga (QG C h.objs.size):=by heap_get
 have hC2:=kp _ _ hC;have hn2:((h.push {cls:=.type "tuple",data:=.seq us.toArray}).push (QG C h.objs.size)).Ns N mN:=let⟨o,es,ep,e,r⟩:=hn;⟨o,es,ep,kp _ _ e,r⟩;have cC:(Value.ref C::bm).contains (.ref C)=Db:=by rw[iF,eW,ik]
 have T2:=T.keeps kp;show pi _ _ _ _ _ _;unfold isInstance
 repeat (first|with_reducible refine ie gE ?_|(with_reducible refine kK hC2 ?_;rw[cC])|wp_step)
 show pi _ _ (typeLookup (.ref C) _) _ _ _;refine wpAny_typeLookup_tail hC2 hn2 T2 F.mroIs F.init.lookup ?_;rw[hi];refine ft (cZ ?_);unfold bindSpecial;refine cZ (jG (T:="function") ⟨_,kp _ _ hf,hfc⟩ ?_);rw[dh (by decide)];refine dA (cZ (eE (hq _ (h.objs.size+1) ⟨kp,gP (ia _),h.objs.size,gE,gP (dv _),dq _ (Heap.get?_push_at Z' Z')⟩) (λr s' hr=>?_) λ_ _ z=>z));obtain⟨rfl,hQ⟩:=hr
 wp_walk
 exact hQ
def Ig(Fn:o0 Bn newId zZ bmN)(hBn:Zj.contains (.type Bn)=Db)(F:o0 B nid Yo Zj)(T:OwnTail h Zj bm){mN:QQZ}{us:T0 Vl}{fI:Uf}{oI:Obj}{Q:QQX} (hC:h.get? C=ga (X' nm q C N bs bm hdct sn sub ab col dd k0 k1 k2 k3 k5 newId)) (hn:h.Ns N mN) (hi:mN "__init__"=ga (.ref fI)) (hf:h.get? fI=ga oI) (hfc:oI.cls=.type "function") (X1:us.length<=Ch) (hq:∀h' e,Heap.MadeExcOf h h' e (.ref C) us->pi (Tk prog w) (A.under (.builtin "type.__call__" ⟨.ref C::us,[]⟩)) (call (.ref fI) (.ref e::us)) (λr s'=>r=.none/\Q (.ref e) s') E ⟨h',g,d,t,os⟩):
  pi (Tk prog w) A (call (.ref C) us) Q E ⟨h,g,d,t,os⟩:=by
 have f1:=tc_lookup;have f2:=tc_bind (.ref C);have hT:(⟨h,g,d,t,os⟩:Sd).TypeIs (.ref C) "type":=⟨_,hC,Z'⟩;refine iU (codeAny_of_tree ?_);show pi _ _ (callAny (.ref C) _) _ _ _
 repeat (any_goals(first|assumption|with_reducible refine ie hC ?_|wp_step))
 exact⟨Z',codeAny_call_builtin_at (jl _ (by decide+kernel)) entry_typeCall (wpAny_check_type_call_sub hC (Bj Fn hBn F T hC hn hi hf hfc X1 hq))⟩
end
variable {M:Model}{env:Env}
section
variable {E:QQX}{N:Uf}
def JC(h:No)(e C:Uf)(dx:Option Uf):Prop:=CP λt sl=>h.get? e=ga ⟨.ref C,dx,.fields #[.ref t,.none,.none,.none,.bool pc,.none],sl⟩
def GU{x:Sem Vl}{Q:Flow->Sd->Prop}(X9:bm.contains (.type "BaseException")=Db)(hh:A.handled=Fa) (h:pi M A x (λv s₁=>∃e dx,v=.ref e/\s₁.heap.get? C=ga (X' nm q C N bs bm hdct sn sub ab col dd k0 k1 k2 k3 k5 newId)/\JC s₁.heap e C dx/\E (.ref e) s₁) E s):
  pi M A (raiseStmt env (ga x) Fa) Q E s:=by
 have cB:(Value.ref C::bm).contains (.type "BaseException")=Db:=by rw[iF,X9,k9]
 unfold raiseStmt;refine cZ (eE h (λv s₁ ⟨e,dx,ev,hC,⟨t,sl,he⟩,hE⟩=>?_) λ_ _ z=>z);subst ev;obtain⟨hp,g,d,tk,os⟩:=s₁
 repeat (first|with_reducible refine ie he ?_|with_reducible refine ie hC ?_|(with_reducible refine kK hC ?_;rw[cB])|wp_step)
 exact wpAny_raiseNew_none hh hE
def Gg(Fn:o0 Bn newId zZ bmN)(hBn:Zj.contains (.type Bn)=Db)(F:o0 B nid Yo Zj){mN:QQZ}{fI:Uf}{x:Str}{np X3 pos:Pos}{args:T0 Go}{Q:Flow->Sd->Prop} (X9:bm.contains (.type "BaseException")=Db) (hh:A.handled=Fa) (Yd:(xz X3 (Tl args env)).any (·.1)=pc) (hi:mN "__init__"=ga (.ref fI)) (h:pi (Tk prog w) A (wp (.Name x np) env) (λf s₁=>f=.ref C/\pi (Tk prog w) A (evalArgs (.ref C) Db (xz X3 (Tl args env)) []) (λa s₂=>a.kw=[]/\a.pos.length<=Ch/\s₂.heap.get? C=ga (X' nm q C N bs bm hdct sn sub ab col dd k0 k1 k2 k3 k5 newId)/\s₂.heap.Ns N mN/\OwnTail s₂.heap Zj bm/\(∃oI,s₂.heap.get? fI=ga oI/\oI.cls=.type "function")/\
    ∀h' e,Heap.MadeExcOf s₂.heap h' e (.ref C) a.pos->pi (Tk prog w) (A.under (.builtin "type.__call__" ⟨.ref C::a.pos,[]⟩)) (call (.ref fI) (.ref e::a.pos))
     (λr s'=>r=.none/\∃dx,s'.heap.get? C=ga (X' nm q C N bs bm hdct sn sub ab col dd k0 k1 k2 k3 k5 newId)/\JC s'.heap e C dx/\E (.ref e) s') E {s₂ with heap:=h'}) E s₁) E s):
  pi (Tk prog w) A (exec (.Raise (ga (.Call (.Name x np) args [] X3)) Fa pos) env) Q E s:=by
 rw[arm_exec_Raise];refine cZ (iu (GU (C:=C) (nm:=nm) (q:=q) (N:=N) (bs:=bs) (bm:=bm) (hdct:=hdct) (sn:=sn) (sub:=sub) (ab:=ab) (col:=col) (dd:=dd) (k0:=k0) (k1:=k1) (k2:=k2) (k3:=k3) (k5:=k5) (newId:=newId) X9 hh ?_));refine cZ (eE (wpAny_Call_ofName (eE h (λf s₁ ⟨ef,h₁⟩=>?_) λ_ _ z=>z)) (λv s₃ h₃=>cZ (iu (dA h₃))) λ_ _ z=>z);subst ef;unfold XXe;refine cZ (ft (eE h₁ (λa s₂ h₂=>cZ (iu ?_)) λ_ _ z=>z));obtain⟨XY,akw⟩:=a;obtain⟨hkw,X1,hC,hn,T,⟨oI,hf,hfc⟩,h₂⟩:=h₂;obtain rfl:akw=[]:=hkw;obtain⟨hp,g,d,tk,os⟩:=s₂;simp only[Yd];refine cZ (wpAny_keeperOf_exc hC (cZ (Ig Fn hBn F T hC hn hi hf hfc X1 λh' e hm=>eE (h₂ h' e hm) (λr s' ⟨z,dx,c1,c2,c3⟩=>⟨z,cZ (ft (wpAny_point (dA ⟨e,dx,Z',c1,c2,c3⟩)))⟩) λ_ _ z=>z)))
end
def x0(a C:Uf)(h:No):Prop:=JC h a C Fa
def x1(a C d:Uf)(h:No):Prop:=JC h a C (ga d)
structure zq(K:qy)(C:Uf)(f:Str):Prop where
 sa:W.findIn K (.ref C) "__setattr__"=ga (ga (.builtin "object.__setattr__"))
 cd:∃cd own,W.clsIn K C=ga cd/\cd.mro=List.map Value.ref own++LX/\cd.hasDict=Db
 tk:W.takerIn K C f=ga Fa
variable {X:Cx}{XU:T0 (Uf × Obj)}{Y σ':St}{H H1:Hp}{s1:Sd}{a:Uf}
section
variable {f:Str}
def GN{A:Ar}{E:QQX}{Q:Unit->Sd->Prop}(I:Inv X XU Y H s)(e:H a=ga (.ext (x0 a C)))(ry:qM y u)(st:zq X.K C f)(h:∀d s',H d=Fa->d≠a->Inv X XU Y (upd (upd H a (.ext (x1 a C d))) d (.ext (O8 d f y))) s'->Q () s'):pi (Tk X.prog X.w) A (setAttr (.ref a) f u) Q E s:=by obtain⟨⟨t,sl,ho⟩,_,_⟩:=I.mR a _ e;obtain⟨cd,own,c1,c2,c3⟩:=st.cd;refine QA I.m7 ⟨ho,Z',Z',trivial⟩ st.sa c1 c2 st.tk c3 λh' d tk k1 k2 dn da n1=>h d _ (zF I.mR dn) da ?_;have I2:=I.write (t':=tk) (x:=a) (e:=a) (o:=.ext (x1 a C d)) (by rw[e];exact True.intro) (.inl Z') k1 ⟨_,k2⟩ ⟨⟨t,sl,k2⟩,⟨_,k2⟩,λh1 h2 ⟨t',Zk,z⟩ kk=>⟨t',Zk,kk _ z⟩⟩;refine I2.adopt I dn (by rw[qd da];exact zF I.mR dn) ⟨⟨u,n1,ry⟩,?_,λh1 h2 ⟨u,n,r⟩ kk=>⟨u,n.at kk,r⟩⟩;obtain⟨o,_,_,z,_⟩:=n1;exact⟨o,z⟩
def Inv.drop{φ:No->Prop}(I:Inv X XU Y H s)(ea:H a=ga (.ext φ)):Inv X XU Y (λb=>if b=a then Fa else H b) s:=by
 have less:∀b,H b=Fa->(if b=a then Fa else H b)=Fa:=λb e=>by split<;>first|rfl|exact e
 have keep:∀b o,H b=ga o->(∀φ,o≠.ext φ)->(if b=a then Fa else H b)=ga o:=λb o e n=>by
  rw[dg]
  .exact e
  .intro z;rw[z,ea]at e;exact n φ (dw e).symm
 refine⟨I.ok,I.os,I.bare,⟨I.base.keep,I.base.slot,λb o e h0 hb=>less b (I.base.free b o e h0 hb),I.base.there,λb xs e=>keep b _ (I.base.nE b xs e) (λ_ z=>nomatch z),λb o u e=>keep b _ (I.base.ny b o u e) (λ_ z=>nomatch z),λb ps e=>?_⟩,I.loc,I.cell,less _ I.free,λx c e=>less _ (I.mW x c e),λp hp=>⟨(I.pin p hp).1,less _ (I.pin p hp).2.1,(I.pin p hp).2.2⟩,λb ob e=>?_,I.len⟩
 .obtain⟨more,z⟩:=I.base.nJ b ps e;exact⟨more,keep b _ z (λ_ z=>nomatch z)⟩
 .have e':H b=ga ob:=by
   by_cases z:b=a
   .rw[dh z]at e;cases e
   .rw[dg z]at e;exact e
  exact(I.mR b ob e').nF (λ_ _ _ q=>q) (λb' q=>keep b' _ q (λ_ z=>nomatch z)) λb' xs q=>keep b' _ q (λ_ z=>nomatch z)
end
def Ms(K:qy)(ta tv:TE)(f:Str):TS:=λD Y H=>tv Y H λy H1=>ta Y H1 λx H2=>∃a C,x=.ref a/\H2 a=ga (.ext (x0 a C))/\zq K C f/\∀d,H2 d=Fa->d≠a->D.nx Y (upd (upd H2 a (.ext (x1 a C d))) d (.ext (O8 d f y)))
def Qq{f:Str}{pos X5:Pos}{ta tv:TE}(ha:PE X o ta)(hv:PE X value tv)(hs:sB value (ga (.Attribute o f X5)) pos.line X.env=pure pc:=by rfl):PS X (.Assign [.Attribute o f X5] value pos) (Ms X.K ta tv f):=by intro XU s Y H D I h;refine iT (sf (hv XU s Y H _ I h) λu s1 zz=>x5 zz λy H1 I1 ry q=>sf (ha XU s1 Y H1 _ I1 q) λov s2 zz=>?_) hs;obtain⟨x,H2,I2,rx,a,C,ex,ea,st,q2⟩:=zz;subst ex;obtain rfl:ov=Value.ref a:=rx;exact GN I2 ea ry st λd s3 dn da I3=>⟨Y,_,I3,q2 d dn da⟩
def wQ(K:qy)(f:Str):Sp:=λvs H Q _=>C5 λe C y=>vs=[.ref e,y]/\H e=ga (.ext (x0 e C))/\zq K C f/\∀d,H d=Fa->d≠e->Q .mK (upd (upd H e (.ext (x1 e C d))) d (.ext (O8 d f y)))
variable {qual:Str}{scope:XXb}{outer:T0 Env}{s0:Sd}{H0:Hp}{P:Pg}{mg:QQZ}{base:No}
section
def Nn{x qual y1 y2 fl:Str}{st:TD}(F:Pf K x qual st f fd)(S:tw [y1,y2] [y1,y2] (qo st)) (hb:∀(X6:Vl) (A:Ar) (outer:T0 Env) (s:Sd) (H:Hp) (E:XK),Cb (vk (CD P w) P w K mg base [y1,y2] qual (qo st) f X6 A outer s H E) (rV st) (Ms K (Ik 0) (Ik 1) fl)):xN P w K mg base (CD P w) 1 f fd [y1,y2] (wQ K fl):=by
 obtain⟨oc,od,kV,Yx,pm,an,X6,ct,YR,rfl,lk,Y8⟩:=F.ex;refine NP lk Y8 S (λvs H Q E h=>?_) λA outer s H vs Q' E hr h=>⟨_,hb X6 A outer s H E,?_⟩
 .obtain⟨e,C,y,rfl,_⟩:=h;rfl
 .obtain⟨e,C,y,rfl,h1,h2,q⟩:=h;exact⟨y,Z',.ref e,Z',e,C,Z',h1,h2,q⟩
def JL(K:qy)(C fI:Uf):Prop:=
 ∃nm q N bs bm Zj hdct sn sub ab col dd k0 k1 k2 k3 k5,∃B Bn newId nid Yo zZ:String,∃bmN,∃mN:QQZ,o0 Bn newId zZ bmN/\Zj.contains (Value.type Bn)=Db/\o0 B nid Yo Zj/\bm.contains (Value.type "BaseException")=Db/\mN "__init__"=ga (.ref fI)/\
  ∀h:No,K.In h->h.get? C=ga (X' nm q C N bs bm hdct sn sub ab col dd k0 k1 k2 k3 k5 newId)/\h.Ns N mN/\OwnTail h Zj bm/\∃oI,h.get? fI=ga oI/\oI.cls=.type "function"
variable {N:QQQ}{f:Uf}{cd:Vl}{E:XK}
def K3{X:Cx}(hX:X=vk (CD P w) P w K mg base N qual scope f cd A outer s0 H0 E){C fI:Uf}{fdI:wv}{ps:QQQ}{fl:Str}{k:Nat}{x:Str}{np X3 pos:Pos}{e:Go}{ta:TA}(hC:JL X.K C fI)(F:xN X.prog X.w X.K X.mg X.base (CD X.prog X.w) k fI fdI ps (wQ X.K fl))(hr:sj (k+1) X.A)(hb:uY X.K fdI ps [])(st:zq X.K C fl) (hg:Gl X x) (hm:X.mg x=ga (.ref C)) (ha:PA X [e] ta) (hs:Tl [e] X.env=[(pc,wp e X.env)]:=by rfl) (Ye:zu x:=by decide):
  PS X (.Raise (ga (.Call (.Name x np) [e] [] X3)) Fa pos) (λ_ Y H=>ta Y H λvs H1=>∃y,vs=[y]/\∀d,H1 d=Fa->E (.ref C) (ga d) (upd H1 d (.ext (O8 d fl y)))):=by
 intro XU s Y H D I h;obtain⟨nm,q,N',bs,bm,Zj,hdct,sn,sub,ab,col,dd,k0,k1,k2,k3,k5,B,Bn,newId,nid,Yo,zZ,bmN,mN,f1,f2,f3,f4,f5,ZR⟩:=hC;have hcalm:X.A.handled=Fa:=I.ok.hd (by rw[hX];rfl);refine Gg (nm:=nm) (q:=q) (N:=N') (bs:=bs) (hdct:=hdct) (sn:=sn) (sub:=sub) (ab:=ab) (col:=col) (dd:=dd) (k0:=k0) (k1:=k1) (k2:=k2) (k3:=k3) (k5:=k5) f1 f2 f3 f4 hcalm (by rw[hs];rfl) f5 (xk I hg hm ⟨Z',?_⟩ Ye);rw[hs];refine evalArgs_kwB Z' ?_;have Zw:=ha X3 XU s Y H _ I h;rw[hs]at Zw;refine sf Zw λus s1 zz=>?_;obtain⟨vs,H1,I1,r1,y,ey,q1⟩:=zz;subst ey;obtain⟨u,rfl,ru⟩:=xB r1;refine wpAny_evalAll_nil ?_;obtain⟨c1,c2,c3,c4⟩:=ZR s1.heap I1.m7;refine⟨Z',by show 1<=Ch;rw[dQ];decide,c1,c2,c3,c4,λh' e' md=>?_⟩;obtain⟨mk,mn,t,mt,_⟩:=md;have hn:H1 e'=Fa:=zF I1.mR mn;have I2:Inv X XU Y H1 {s1 with heap:=h'}:=I1.kept (t':=s1.toks) mk;have I3:Inv X XU Y (upd H1 e' (.ext (x0 e' C))) {s1 with heap:=h'}:=I2.adopt I1 mn hn ⟨⟨t,_,mt⟩,⟨_,mt⟩,λh1 h2 ⟨t',Zk,z⟩ kk=>⟨t',Zk,kk _ z⟩⟩;have r2:qA [V.ref e',y] [Value.ref e',u]:=.cons Z' (.cons ru .nil);have Zl:wQ X.K fl [V.ref e',y] (upd H1 e' (.ext (x0 e' C))) (λv H2=>v=.mK/\∃d,d≠e'/\H1 d=Fa/\H2=upd (upd H1 e' (.ext (x1 e' C d))) d (.ext (O8 d fl y))) (λ_ _ _=>False):=⟨e',C,y,Z',qg,st,λd dn da=>⟨Z',d,da,by rw[qd da]at dn;exact dn,by rw[Qp]⟩⟩;have hl:([Value.ref e',u]:T0 Vl).length=ps.length:=by rw[<-r2.length];exact F.len _ _ _ _ Zl
 refine iU (gU (F.run _ X.stack _ _ ⟨[Value.ref e',u],[]⟩ [Value.ref e',u] _ _ _ (hr.make C [u] []) (I3.om.make C [u] []) (hb _ [Value.ref e',u] I3.m7 hl) r2 Zl) λr s' Zz=>?_);cases r with
 | error ev=>obtain⟨_,_,_,_,_,_,z,_⟩:=Zz;exact z.elim
 | ok fw=>
  cases fw with
  | ret uv=>
   obtain⟨v,H',I4,rv,ev,d,da,dn,eH⟩:=I3.after Zz;subst ev eH;obtain⟨⟨t',Zk,md⟩,_,_⟩:=I4.mR e' _ (by rw[qd (dZ da)];exact qg);have I5:Inv X XU Y (upd H1 d (.ext (O8 d fl y))) _:=(funext λb=>by
    by_cases z:b=e'
    .subst z;rw[dh Z',qd (dZ da),hn]
    .rw[dg z];by_cases z2:b=d
     .subst z2;rw[qg,qg]
     .rw[qd z2,qd z2,qd z]:(λb=>if b=e' then Fa else upd (upd H1 e' (.ext (x1 e' C d))) d (.ext (O8 d fl y)) b)=upd H1 d (.ext (O8 d fl y))) ▸ I4.drop (a:=e') (φ:=x1 e' C d) (by rw[qd (dZ da)];exact qg)
   refine⟨rv,ga d,(ZR s'.heap I4.m7).1,⟨t',Zk,md⟩,?_⟩;subst hX;have Ym:Un (ww outer) [] H0 H1 s0.heap s1.heap:=I1.base;exact UX I5 (tb:=none) ⟨_,_,md,Z',Z',Z',(by show 1<6;decide),Z',λT z=>by cases z⟩ (Hk Ym Z' mn) (λT z=>by cases z) (by rw[qd (dZ da)];exact hn) (q1 d dn)
  | next=>exact False.elim Zz
  | brk=>exact False.elim Zz
  | cont=>exact False.elim Zz
end
end L2
namespace L3
open L2
variable {P:Pg}{w:Wo}{K:qy}{mg:QQZ}{base:No}{N:QQQ}{qual:Str}{scope:XXb}{f:Uf}{cd:Vl}{A:Ar}{outer:T0 Env}{s0:Sd}{H0:Hp}{E:XK}{x:Str}{np X3 pos:Pos}{e:Go}{C fI:Uf}{fdI:wv}{ps:QQQ}{fl:Str}{k:Nat}{R:XR}{ta:xE}
def OU(C:Uf)(R:XR)(f:Str)(ta:xE):xG:=λ_ U M=>ta U M λds M1=>∃z,ds=[z]/\R C (ga (f,z)) M1
def K6(hC:JL K C fI)(F:xN P w K mg base (CD P w) k fI fdI ps (wQ K fl))(hr:sj (k+1) (vk (CD P w) P w K mg base N qual scope f cd A outer s0 H0 E).A)(hb:uY K fdI ps [])(st:zq K C fl)(_:W.findIn K (.ref C) "__init__"=ga (ga (.ref fI)))(hg:Gl (vk (CD P w) P w K mg base N qual scope f cd A outer s0 H0 E) x)(hm:mg x=ga (.ref C))(hR:UL K R E)(ha:A3 (vk (CD P w) P w K mg base N qual scope f cd A outer s0 H0 E) [e] ta) (hs:Tl [e] (vk (CD P w) P w K mg base N qual scope f cd A outer s0 H0 E).env=[(pc,wp e (vk (CD P w) P w K mg base N qual scope f cd A outer s0 H0 E).env)]:=by rfl) (Ye:zu x:=by decide):
  S3 (vk (CD P w) P w K mg base N qual scope f cd A outer s0 H0 E) (.Raise (ga (.Call (.Name x np) [e] [] X3)) Fa pos) (OU C R fl ta):=
 PS.mono (K3 Z' hC F hr hb st hg hm ha hs Ye) λD' Y H ⟨U,M,D,hs,hm,ht,_⟩=>⟨U,M,_,hs,hm,ht,λvs H1 ds M1 hd XX e1 q1=>by
  obtain⟨z,rfl,r⟩:=q1;obtain⟨v,rfl,hv⟩:=rX hd;exact⟨v,Z',λd dn=>hR C (ga d) _ M1 _ (XX.add dn) (.inr ⟨d,fl,z,v,Z',Z',qg,hv.mono (.new dn)⟩) r⟩⟩
variable {X:Cx}{b₀:TD}{YI:T0 TD}{cn:Str}{cnp ZJ epos:Pos}{Cc L:Uf}{te:UI}{th:xG}
end L3
namespace L2
def L'{K:qy}{C C2 N fI:Uf}{nm q:Str}{bs sub:T0 Vl}{hdct ab:Bool}{sn:QQQ}{col:Option Bool}{dd od1 od2 dd2:Option Uf}{k0 k1 k2 k3 k5:Option Vl}{oc1 oc2 c0:Vl}{es1 es2:Array DictEntry}{ep1 ep2:Nat}{sl1 sl2 W9:Array (Option Vl)}{cd2:ClassData}{oI:Obj} (l1:K.lookup C=ga (X' nm q C N bs (.ref C2::LX) hdct sn sub ab col dd k0 k1 k2 k3 k5 "ValueError.__new__")) (n1:K.lookup N=ga ⟨oc1,od1,.dict es1 ep1,sl1⟩) (s1:BY es1=Db) (i1:nsFind es1 "__init__"=ga (.ref fI)) (l2:K.lookup C2=ga ⟨c0,dd2,.cls cd2,W9⟩) (n2:K.lookup cd2.ns=ga ⟨oc2,od2,.dict es2 ep2,sl2⟩) (s2:BY es2=Db) (i2:nsFind es2 "__init__"=Fa) (l3:K.lookup fI=ga oI) (hf:W.isFn K (.ref fI)=Db):JL K C fI:=by
 have hc:oI.cls=.type "function":=by have hf:=fg.mp hf;unfold W.typeIn at hf;simp only at hf;rw[l3]at hf;exact dw hf
 refine⟨nm,q,N,bs,.ref C2::LX,LX,hdct,sn,sub,ab,col,dd,k0,k1,k2,k3,k5,"ValueError","ValueError","ValueError.__new__","ValueError.__new__","ValueError.__init__","ValueError.__init__",LX,λn=>nsFind es1 n,ky,by decide+kernel,ky,?_,i1,λh X=>⟨X C _ l1,⟨_,es1,ep1,X N _ n1,Z',CC s1,λ_=>rfl⟩,.own (X C2 _ l2) ⟨_,es2,ep2,X _ _ n2,Z',CC s2,λ_=>rfl⟩ i2 .base,oI,X fI _ l3,hc⟩⟩;rw[iF];have:LX.contains (.type "BaseException")=Db:=by decide+kernel
 rw[this,k9]
def Lf{K:qy}{C C2 N:Uf}{nm q f:Str}{bs sub:T0 Vl}{ab:Bool}{sn:QQQ}{col:Option Bool}{dd:Option Uf}{k0 k1 k2 k3 k5:Option Vl}(l1:K.lookup C=ga (X' nm q C N bs (.ref C2::LX) Db sn sub ab col dd k0 k1 k2 k3 k5 "ValueError.__new__"))(sa:W.findIn K (.ref C) "__setattr__"=ga (ga (.builtin "object.__setattr__")))(tk:W.findIn K (.ref C) f=ga Fa):zq K C f:=by refine⟨sa,⟨_,[C,C2],by unfold W.clsIn;rw[l1],Z',Z'⟩,?_⟩;unfold W.takerIn;rw[tk];rfl
end L2
namespace L3
open L2
variable {X:Cx}{pos XY:Pos}{o e:Go}{es:T0 Go}{ta:T3}{t:xE}
structure FA where
 f:Uf
 d:wv
 p:QQQ
structure DG(K:qy)(st:TD)(py qual:Str)(ps:QQQ)(x:FA):Prop where
 pe:x.p=ps
 fn:Pf K py qual st x.f x.d
 b:uY K x.d x.p []
 ty:W.isFn K (.ref x.f)=Db
structure TG(K:qy)(mg:QQZ)(st:TD)(py:Str)(ps:QQQ)(x:FA):Prop extends DG K st py py ps x where
 mg:mg py=ga (.ref x.f)
structure MG(K:qy)(C:Uf)(st:TD)(py qual:Str)(ps:QQQ)(x:FA):Prop extends DG K st py qual ps x where
 at_:W.findIn K (.ref C) py=ga (ga (.ref x.f))
structure CG(K:qy)(mg:QQZ)(nm:Str)(C:Uf):Prop extends Cls K C where
 mg:mg nm=ga (.ref C)
def DG.kp{K:qy}{st:TD}{x:FA}(h:DG K st py qual ps x):W.keepIn K (.ref x.f)=Db:=h.fn.kp
def MG.nj{K:qy}{st:TD}{x:FA}(h:MG K C st py qual ps x):vK K C py x.f:=⟨h.at_,h.ty,h.toDG.kp⟩
def zY(K:qy)(C:Uf)(fs:QQQ):Prop:=∀f,fs.contains f=Db->uf K C f
def tK{K:qy}:zY K C []:=λf h=>by simp at h
def pV{K:qy}{C:Uf}{g:Str}(h:W.findIn K (.ref C) g=ga Fa)(r:zY K C fs):zY K C (g::fs):=λf q=>by
 rw[iF,hW]at q;rcases q with q|q
 .rw[ZB q];exact h
 .exact r f q
abbrev Fq(P:Pg)(w:Wo)(K:qy)(mg:QQZ)(base:No)(k:Nat)(x:FA)(sp:rq):Prop:=Ua P w K mg base k x.f x.d x.p sp
abbrev WU(P:Pg)(w:Wo)(K:qy)(mg:QQZ)(base:No)(k:Nat)(x:FA)(sp:G8):Prop:=SN P w K mg base k x.f x.d x.p sp
noncomputable def T7(N P:QQQ)(sc:XXb):Bool:=sc.kind==.function&&(!sc.isCoroutine&&(!sc.isGenerator&&(decide N.Nodup&&(decide (N.take P.length=P)&&((P.all λx=>sc.names.lookup x==ga .local||sc.names.lookup x==ga .cell)&&sc.names.all λy=>!(y.2==.free))))))
def XM{N P:QQQ}(h:T7 N P sc=Db):tw N P sc:=by
 unfold T7 at h;simp only[d6,gO,fg,eK]at h;obtain⟨h1,h2,h3,h4,h5,h6,h7⟩:=h;refine⟨h1,h2,h3,h4,h5,λx hx=>?_,λy hy e=>?_⟩
 .have:=eR.mp h6 x hx
  simpa using this
 .have:=eR.mp h7 y hy;rw[e]at this;simp at this
variable {P:Pg}{w:Wo}{K:qy}{mg:QQZ}{base:No}
def Wx{st:TD}{sp:rq}(F:DG K st x qual ps fa)(S:tw N ps (qo st))(len:∀ds M Q,sp ds M Q->ds.length=ps.length) (Yg:∀(X6:Vl) (A:Ar) (outer:T0 Env) (s:Sd) (H:Hp) (E:XK),sj k (A.deeper (dL qual (qo st) s.heap.objs.size fa.f X6))->
   ∃t,Hu (vk OC P w K mg base N qual (qo st) fa.f X6 A outer s H E).oF (rV st) t/\∀ds M Q,sp ds M Q->t {nx:=λ_ M'=>∃XZ,qG XZ M'/\Q .mK XZ,rt:=λd M'=>∃XZ,qG XZ M'/\Q d XZ} (xy N ds) M):Fq P w K mg base (k+1) fa sp:=by
 unfold Fq;rw[F.pe];exact Ve F.fn S len Yg
def Us{st:TD}{sp:G8}(F:DG K st x qual ps fa)(S:tw N ps (qo st))(len:∀ds M Q R,sp ds M Q R->ds.length=ps.length) (Yg:∀(X6:Vl) (A:Ar) (outer:T0 Env) (s:Sd) (H:Hp) (E:XK) (R:XR),sj k (A.deeper (dL qual (qo st) s.heap.objs.size fa.f X6))->UL K R E->
   ∃t,Hu (vk (CD P w) P w K mg base N qual (qo st) fa.f X6 A outer s H E) (rV st) t/\∀ds M Q,sp ds M Q R->t {nx:=λ_ M'=>∃XZ,qG XZ M'/\Q .mK XZ,rt:=λd M'=>∃XZ,qG XZ M'/\Q d XZ} (xy N ds) M):WU P w K mg base (k+1) fa sp:=by
 unfold WU;rw[F.pe];exact VH F.fn S len Yg
variable {k n:Nat}{f C:Uf}{fa:FA}{st:TD}{qual:Str}{ps:QQQ}{sp:rq}{x m:Str}{p:Pos}
def pO(F:Fq X.prog X.w X.K X.mg X.base k fa sp)(hr:sj n X.A)(T:TG X.K X.mg st x ps fa)(ha:A3 X (e::es) t)(hn:k<=n:=by first|decide|lia)(hg:Gl X x:=by rfl)
  (Ye:zu x:=by decide) (he:By X e es:=by rfl) (Yb:C6 X pos es:=by rfl):
  E3 X (.Call (.Name x p) (e::es) [] pos) (D3 sp t):=QP F (hr.mono hn) hg T.mg T.toDG.kp T.b ha Ye he Yb
def vq(F:Fq X.prog X.w X.K X.mg X.base k fa sp)(hr:sj n X.A)(c:CG X.K X.mg x C)(i:Mk X.K C fa.f)(T:DG X.K st m qual ps fa)(ha:A3 X (e::es) t)(hn:k+1<=n:=by first|decide|lia)(hg:Gl X x:=by rfl)
  (Ye:zu x:=by decide) (he:By X e es:=by rfl) (Yb:C6 X pos es:=by rfl):
  E3 X (.Call (.Name x p) (e::es) [] pos) (RC C sp t):=O1 c.toCls i F (hr.mono hn) hg c.mg T.b ha Ye he Yb
def qe{pl:Sem Bool}(he:E3 X o ta)(c:Cls X.K C)(T:MG X.K C st m qual ps fa)(F:Fq X.prog X.w X.K X.mg X.base k fa sp)(hr:sj n X.A)(ha:A3 X (e::es) t)(hn:k<=n:=by first|decide|lia)
  (Yi:By X e es:=by rfl) (Yb:C6 X pos es:=by rfl)
  (ht:wp (.Call (.Attribute o m XY) (e::es) [] pos) X.env=(do
   let ov<-wp o X.env
   Y' XY.atName
   let(f,first)<-Ix [ov] (TW ov m pl)
   XXe pos f first (xz pos (Tl (e::es) X.env)) (xL pos (Ps [] X.env))):=by rfl):
  E3 X (.Call (.Attribute o m XY) (e::es) [] pos) (AQ m (λD s=>D=C/\s=sp) ta t):=
 FE (R:=λD s=>D=C/\s=sp) he (λD s ⟨e1,e2⟩=>by subst e1 e2;exact⟨c,_,_,_,T.nj,F,T.b⟩) (hr.mono hn) ha Yi Yb ht
def vN{pl:Sem Bool}(he:E3 X o ta)(c:Cls X.K C)(T:MG X.K C st m qual ps fa)(F:Fq X.prog X.w X.K X.mg X.base k fa sp)(hr:sj n X.A)(hn:k<=n:=by first|decide|lia)
  (ht:wp (.Call (.Attribute o m XY) [] [] pos) X.env=(do
   let ov<-wp o X.env
   Y' XY.atName
   let(f,first)<-Ix [ov] (TW ov m pl)
   XXe pos f first (xz pos (Tl [] X.env)) (xL pos (Ps [] X.env))):=by rfl):
  E3 X (.Call (.Attribute o m XY) [] [] pos) (AQ m (λD s=>D=C/\s=sp) ta xA):=
 Cu (R:=λD s=>D=C/\s=sp) he (λD s ⟨e1,e2⟩=>by subst e1 e2;exact⟨c,_,_,_,T.nj,F,T.b⟩) (hr.mono hn) ht
def y9{pl:Sem Bool}(cm:LV X.K C m fa.f)(F:Fq X.prog X.w X.K X.mg X.base k fa sp)(hr:sj n X.A)(c:CG X.K X.mg x C)(T:DG X.K st m qual ps fa)(ha:A3 X (e::es) t)(hn:k<=n:=by first|decide|lia)(hg:Gl X x:=by rfl)
  (Ye:zu x:=by decide) (Yi:By X e es:=by rfl) (Yb:C6 X pos es:=by rfl)
  (ht:wp (.Call (.Attribute (.Name x p) m XY) (e::es) [] pos) X.env=(do
   let ov<-wp (.Name x p) X.env
   Y' XY.atName
   let(f,first)<-Ix [ov] (TW ov m pl)
   XXe pos f first (xz pos (Tl (e::es) X.env)) (xL pos (Ps [] X.env))):=by rfl):
  E3 X (.Call (.Attribute (.Name x p) m XY) (e::es) [] pos) (D3 sp t):=Rb cm F (hr.mono hn) hg c.mg T.kp T.b ha Ye Yi Yb ht
variable {h:No}{py:Str}{od an:Option Uf}{sl:Array (Option Vl)}{kv dc pm cd ct:Vl}
def J8{fd:wv}{oc:Vl}(l:K.lookup f=ga ⟨oc,od,.func fd,sl⟩):W.keepIn K (.ref f)=Db:=by unfold W.keepIn;simp only;rw[l]
def QI{fd:wv}(l:K.lookup f=ga ⟨.type "function",od,.func fd,sl⟩):W.isFn K (.ref f)=Db:=by unfold W.isFn W.typeIn;simp only;rw[l];rfl
abbrev m8(py qual:Str)(st:TD)(ps:QQQ):Prop:=∀(kV Yx pm:Vl) (an:Option Uf) (X6 ct:Vl) (us:T0 Vl),us.length=ps.length->bindArgs (W.fnOf py qual (uz st) (rV st) (qo st) .none kV Yx pm an X6 ct) ⟨us,[]⟩=pure (ps.zip us)
def Ru(l:K.lookup f=ga ⟨.type "function",od,.func (W.fnOf py qual (uz st) (rV st) (qo st) .none kv dc pm an cd ct),sl⟩)(k:W.codeIn K cd qual=Db)(hb:m8 py qual st ps):
  DG K st py qual ps ⟨f,W.fnOf py qual (uz st) (rV st) (qo st) .none kv dc pm an cd ct,ps⟩:=⟨Z',MP l k (J8 l),(MP l k (J8 l)).binds hb,QI l⟩
def qx(X:K.In h)(G:h.Ns At mg)(a:W.nsIn K At py=ga (ga (.ref f)))(l:K.lookup f=ga ⟨.type "function",od,.func (W.fnOf py py (uz st) (rV st) (qo st) .none kv dc pm an cd ct),sl⟩)(k:W.codeIn K cd py=Db)(hb:m8 py py st ps):
  TG K mg st py ps ⟨f,W.fnOf py py (uz st) (rV st) (qo st) .none kv dc pm an cd ct,ps⟩:=⟨Ru l k hb,W.mg_of X G a⟩
def ql(a:W.findIn K (.ref C) py=ga (ga (.ref f)))(l:K.lookup f=ga ⟨.type "function",od,.func (W.fnOf py qual (uz st) (rV st) (qo st) .none kv dc pm an cd ct),sl⟩)(k:W.codeIn K cd qual=Db)(hb:m8 py qual st ps):
  MG K C st py qual ps ⟨f,W.fnOf py qual (uz st) (rV st) (qo st) .none kv dc pm an cd ct,ps⟩:=⟨Ru l k hb,a⟩
def wR(X:K.In h)(G:h.Ns At mg)(a:W.nsIn K At py=ga (ga (.ref C)))(h1:W.plainGet K C Str.empty=Db)(h2:W.hasDictIn K C=Db)(h3:W.plainOver K C=Db)(h4:W.findIn K (.ref C) "__setattr__"=ga (ga (.builtin "object.__setattr__"))):CG K mg py C:=⟨⟨h1,h2,h3,h4⟩,W.mg_of X G a⟩
def Q4{x:Str}{a:Uf}{es:T0 DictEntry}{ep:Nat}(h:mg x=ga (.ref a))(s:(a==sK)=pc)(l:K.lookup a=ga ⟨.type "dict",Fa,.dict es.toArray ep,#[]⟩) (r:KTD.Rows (λ(ss:QQQ) v=>∃t,v=Value.ref t/\vH K (λ_=>Fa) t (ss.map V.str)) es T):Ni K mg x T:=⟨a,_,_,_,h,s,l,⟨Z',Z',Z'⟩,Z',by simpa using r⟩
def LZ{x qual y1 y2 fl:Str}{st:TD}(F:DG K st x qual [y1,y2] fa)(S:tw [y1,y2] [y1,y2] (qo st)) (hb:∀(X6:Vl) (A:Ar) (outer:T0 Env) (s:Sd) (H:Hp) (E:XK),Cb (vk (CD P w) P w K mg base [y1,y2] qual (qo st) fa.f X6 A outer s H E) (rV st) (Ms K (Ik 0) (Ik 1) fl)):xN P w K mg base (CD P w) 1 fa.f fa.d fa.p (wQ K fl):=by
 rw[F.pe];exact Nn F.fn S hb
def UU(ds:T0 D)(M:Mp)(Q:DK):Prop:=match ds with
 | [.ref a]=>(og M a).elim False λes=>(Gv es).elim False λbs=>Q (.bl (bs.any id)) M
 | _=>False
def Su(hc:X.calm=Db):C3 X (.builtin "any") UU:=by
 intro XU s Y H vs us Q' I rv h;obtain⟨ds,M,Q,hd,hm,q,k⟩:=h;unfold UU at q;split at q
 .rename_i a;obtain⟨v,rfl,hv⟩:=rX hd;obtain⟨es,e0,q⟩:=qJ q;obtain⟨bs,e1,q⟩:=qJ q;cases hv.mG;obtain⟨u,rfl,ru⟩:=xB rv;cases ru;obtain⟨xs,h1,h2,_⟩:=qk hm e0;obtain⟨its,r,pl,hz⟩:=I.list h1;have eits:=EV e1 h2 r;subst eits;have Yk:a≠s.heap.objs.size:=by obtain⟨o,_,e,_⟩:=pl;exact dW (dG e)
  refine call_any_walk (ic pl.isList ?_);refine⟨s.heap.objs.size,_,_,_,_,_,λi=>(bs[i]?).getD pc,Z',kt (A:=X.A.in1) (I.ok.hd hc) _ a Yk (bs.map Value.bool).toArray,⟨⟨_,dO _ Z',Z',Z'⟩,?_⟩,λi v s' Q E hP hQ=>?_,λh' tk hk=>?_⟩
  .obtain⟨o,n,e,c,d,q⟩:=pl;exact⟨o,dq _ e,c,n,q⟩
  .simp only[iP,dE]at hP;cases e2:bs[i]? with
   | none=>rw[e2]at hP;cases hP
   | some b=>rw[e2]at hP;cases hP;have hQ:Q ((bs[i]?).getD pc) s':=hQ;rw[e2]at hQ;exact fz hQ
  .have ea:(List.range (bs.map Value.bool).toArray.size).any (λi=>(bs[i]?).getD pc)=bs.any id:=by
    rw[dB,cY];rw[fW,fP,fP];constructor
    .rintro ⟨i,hi,z⟩
     have ZT:=gF.mp hi;rw[df ZT]at z;exact⟨_,ip ZT,z⟩
    .rintro ⟨b,hb,z⟩
     obtain⟨i,hi,e⟩:=gZ hb;refine⟨i,gF.mpr hi,?_⟩;rw[df hi,e];exact z
   rw[ea];refine⟨.bl (bs.any id),H,?_,Z',k _ _ _ _ .bl hm .refl q⟩;exact I.kept (h':=h') (t':=tk) λb o e=>hk b o (by simpa using dW (dG e)) (dq _ e)
 .exact q.elim
def Ti:zn "any"=ga (.builtin "any"):=by decide+kernel
theorem JQ{K:qy}:∀{ds:T0 D} {xs:T0 V},qr K H ds xs->qr K H ds.reverse xs.reverse
 | [],_,h=>by cases h;exact .nil
 | d::ds,xs,h=>by obtain⟨x,r,rfl,h1,h2⟩:=h.inv;rw[ib,ib];exact(JQ h2).snoc h1
def TL(x:D)(ds:T0 D)(M:Mp)(Q:DK):Prop:=match x,ds with
 | .ref a,[]=>(og M a).elim False λes=>Q .mK (pI M a (.lst es.reverse))
 | _,_=>False
def HQ:M3 X "list.reverse" TL:=by
 intro XU s Y H vx vs v us Q' I rx rv h;obtain⟨x,ds,M,Q,hx,hd,hm,q,k⟩:=h;unfold TL at q;split at q
 .obtain⟨es,e1,q⟩:=qJ q;cases hd.nil_inv;cases hx.mG;obtain⟨xs,h1,h2⟩:=yE hm e1;refine IP XU s Y H _ _ v us Q' I rx rv ⟨_,xs,Z',Z',h1,?_⟩;obtain⟨X8,ex⟩:=hm.put (c:=.lst es.reverse) (pY e1) λex=>⟨_,qg,JQ (h2.mono ex)⟩;exact k _ _ _ _ .mK X8 ex q
 .exact q.elim
def Df{XY pos:Pos}(ho:E3 X o ta)(X9:Rs o "reverse" X.env (wp o X.env)=wp o X.env:=by rfl)(Yh:(XY.endLine==pos.line)=Db:=by rfl):
  E3 X (.Call (.Attribute o "reverse" XY) [] [] pos) (Wa TL ta xA):=PE.mono (Sj jT PySem.F.slot_list_reverse PySem.F.type_list_reverse HQ ho X9 Yh) λY H Q' zz=>x7 zz λU M Q hs hm ht k=>
 ⟨U,M,_,hs,hm,ht,λv H1 x M1 hx XX e1 q1=>⟨NH XX hx q1.1,x,[],M1,Q,hx,.nil,XX,q1.2,vm e1 k⟩⟩
variable {i value:Go}{to ti te td tk tv:T3}
def Tr(td tk tv:T3):xG:=λD U M=>tv U M λv M1=>td U M1 λx M2=>tk U M2 λy M3=>match x,y with
 | .ref a,.int k=>(xS M3 a).elim False λkvs=>kvs.length<Ch/\D.nx U (pI M3 a (.dk (wW kvs (.inl k) v)))
 | _,_=>False
def ME(hu:X.A.units+9<wP)(ho:E3 X o td)(hi:E3 X i tk)(hv:E3 X value tv)(hs:sB value (ga (.Subscript o i X5)) pos.line X.env=pure pc:=by rfl):S3 X (.Assign [.Subscript o i X5] value pos) (Tr td tk tv):=
 PS.mono (J1 (by lia) ho hi hv hs) λD' Y H zz=>J0 zz λU M D hs hm ht k1 k2 k3 k4=>
 ⟨U,M,_,hs,hm,ht,λv H1 d M1 hd XX e1 q1=>⟨U,M1,_,hs.mono e1,XX,q1,λvx H2 x M2 hx X8 e2 q2=>⟨U,M2,_,hs.mono (e1.trans e2),X8,q2,λvy H3 y M3 hy Yq e3 q3=>by
  split at q3
  .rename_i a0 k0;obtain⟨kvs,f1,f2,q3⟩:=qJ q3;cases(hx.mono e3).mG;cases hy.int_inv;obtain⟨vs,h1,h2,h3⟩:=wK Yq f1;have hl:vs.length=kvs.length:=by have:=eC List.length h2;simpa using this
   refine⟨_,_,Z',K9.k (k:=Sum.inl k0) h1 (by lia),?_⟩;have hd3:=hd.mono (e2.trans e3);obtain⟨ZS,e4⟩:=Yq.put (o:=.dK (yJ vs (Sum.inl k0) v)) (c:=.dk (wW kvs (.inl k0) d)) (w9 f1) λex=>by obtain⟨g1,g2⟩:=D5 (k:=Sum.inl k0) (hd3.mono ex) h2 (h3.mono ex);exact⟨_,qg,g1,g2⟩
   exact k1 Y _ U _ (hs.mono (e1.trans (e2.trans (e3.trans e4)))) ZS (e1.trans (e2.trans (e3.trans e4))) Z' q3
  .exact q3.elim⟩⟩⟩
def Vu:V->V->Hp->VK->Prop:=λo i H Q=>∃p xs k z,o=.ref p/\i=.int k/\H p=ga (.lst xs)/\0<=k/\xs[k.toNat]?=ga z/\Q z H
def NY:UV X Vu:=by intro XU s Y H o i ov iv Q I ro ri h;obtain⟨p,xs,k,z,rfl,rfl,hp,h0,hk,q⟩:=h;cases ro;obtain⟨t,rfl⟩:=ri;obtain⟨its,r,pl,hz⟩:=I.list (.inl (.inl hp));obtain⟨w,ew,Zm⟩:=r.get hk;have lt:=(c9.mp hk).1;have hl:=r.length;have hn:=ym;exact wpAny_getItem_list pl.isList h0 (by lia) (by simpa using ew) ⟨z,H,I,Zm,q⟩
def Vp(op:XXf)(to ti te:T3):xG:=λE U M=>to U M λx M1=>ti U M1 λy M2=>match x,y with
 | .ref p,.int k=>0<=k/\(og M2 p).elim False λes=>(es[k.toNat]?).elim False λd=>te U M2 λz M4=>(P7 op d z).elim False λu=>(og M4 p).elim False λes=>(F8 es.length k).elim False λj=>E.nx U (pI M4 p (.lst (es.set j u)))
 | _,_=>False
def OP(ho:E3 X o to)(hi:E3 X i ti)(he:E3 X e te)(ha:∀ov iv new,augStore i ov iv new=(do Ix [new,ov,iv] (setItem ov iv new);release [new,ov,iv] [];pure .next):=by intros;rfl):S3 X (.AugAssign (.Subscript o i YV) op e pos) (Vp op to ti te):=
 PS.mono (PD ho hi NY he Nh Gq ha) λD' Y H zz=>J0 zz λU M E hs hm ht k1 k2 k3 k4=>
 ⟨U,M,_,hs,hm,ht,λvx H1 x M1 hx XX e1 q1=>⟨U,M1,_,hs.mono e1,XX,q1,λvy H2 y M2 hy X8 e2 q2=>by
  split at q2
  .rename_i p k;obtain⟨h0,q2⟩:=q2;obtain⟨es,f1,q2⟩:=qJ q2;obtain⟨d,f2,q2⟩:=qJ q2;cases(hx.mono e2).mG;cases hy.int_inv;obtain⟨xs,h1,h2⟩:=yE X8 f1;obtain⟨w,f3,hw⟩:=h2.get f2;refine⟨p,xs,k,w,Z',Z',h1,h0,f3,U,M2,_,hs.mono (e1.trans e2),X8,q2,λvz H4 z M4 hz ZS e4 q4=>?_⟩;obtain⟨u,eu,q4⟩:=qJ q4;refine Jm (hw.mono e4) hz eu λvu hu=>?_;obtain⟨es',g1,q4⟩:=qJ q4;obtain⟨j,g2,q4⟩:=qJ q4;obtain⟨xs',h3,h4⟩:=yE ZS g1;refine⟨p,xs',k,j,Z',Z',h3,by rw[<-h4.length];exact g2,?_⟩;obtain⟨hm5,e5⟩:=ZS.put (o:=.lst (xs'.set j vu)) (c:=.lst (es'.set j u)) (pY g1) λex=>⟨_,qg,(h4.mono ex).set (hu.mono ex) j⟩;exact k1 Y _ U _ (hs.mono (e1.trans (e2.trans (e4.trans e5)))) hm5 (e1.trans (e2.trans (e4.trans e5))) Z' q4
  .exact q2.elim⟩⟩
end L3
namespace L3
open L2
def OE(i:Nat){X:Cx}{pos:Pos}{x:Str}(h1:X.N[i]?=ga x:=by rfl)(h2:U7 X.env.scope x:=by first|exact Or.inl Z'|exact Or.inr (Or.inl Z')|exact Or.inr (Or.inr Z'))(h3:zu x:=by decide)(h4:(x==("__classdict__":Str))=pc:=by decide):E3 X (.Name x pos) (v3 i):=TV i (pv i h1 h2 h3 h4)
variable {X:Cx}{pos:Pos}
def XG{N:QQQ}(h:decide N.Nodup=Db):N.Nodup:=fU h
def pQ(i:Nat){x:Str}{e:Go}{te:T3}{X5:Pos}{ps:QQQ}{sc:XXb}(S:tw X.N ps sc)(he:E3 X e te)(hi:X.N[i]?=ga x:=by rfl)(hx:Ll X.env.scope x:=by first|exact Or.inl Z'|exact Or.inr Z')(Zn:sB e (ga (.Name x X5)) pos.line X.env=pure pc:=by rfl)(hf:Lk X x:=by first|exact .inl Z'|exact .inr Z'|assumption):S3 X (.Assign [.Name x X5] e pos) (Gd te (rR i)):=Sr S.nd hi hx he Zn hf
def rY(i:Nat){x:Str}{ps:QQQ}{sc:XXb}(S:tw X.N ps sc)(hi:X.N[i]?=ga x:=by rfl)(hx:Ll X.env.scope x:=by first|exact Or.inl Z'|exact Or.inr Z')(hf:Lk X x:=by first|exact .inl Z'|exact .inr Z'|assumption):G3 X (.Name x pos) (rR i):=Jp S.nd hi hx hf
def qD(i:Nat){x:Str}(hN:decide X.N.Nodup=Db:=by kernel_rfl)(hi:X.N[i]?=ga x:=by rfl)(hx:Ll X.env.scope x:=by first|exact Or.inl Z'|exact Or.inr Z')(hf:Lk X x:=by first|exact .inl Z'|exact .inr Z'|assumption):G3 X (.Name x pos) (rR i):=Jp (XG hN) hi hx hf
abbrev Sc(n:Nat)(N:QQQ)(s:TD):=tw N (N.take n) (qo s)
def sk{n:Nat}{s:TD}(h:T7 N (N.take n) (qo s)=Db:=by decide+kernel):Sc n N s:=XM h
def qp(h0:E3 X e0 t0)(g0:Tl [e0] X.env=(pc,wp e0 X.env)::Tl [] X.env:=by rfl):A3 X [e0] (vw t0 xA):=(qc h0 sd g0)
def rZ(h0:E3 X e0 t0)(h1:E3 X e1 t1)(g0:Tl [e0,e1] X.env=(pc,wp e0 X.env)::Tl [e1] X.env:=by rfl)(g1:Tl [e1] X.env=(pc,wp e1 X.env)::Tl [] X.env:=by rfl):A3 X [e0,e1] (vw t0 (vw t1 xA)):=(qc h0 (qc h1 sd g1) g0)
def rB(h0:E3 X e0 t0)(h1:E3 X e1 t1)(h2:E3 X e2 t2)(g0:Tl [e0,e1,e2] X.env=(pc,wp e0 X.env)::Tl [e1,e2] X.env:=by rfl)(g1:Tl [e1,e2] X.env=(pc,wp e1 X.env)::Tl [e2] X.env:=by rfl)(g2:Tl [e2] X.env=(pc,wp e2 X.env)::Tl [] X.env:=by rfl):A3 X [e0,e1,e2] (vw t0 (vw t1 (vw t2 xA))):=(qc h0 (qc h1 (qc h2 sd g2) g1) g0)
abbrev v0:=@OE 0
abbrev U1:=@OE 1
abbrev U2:=@OE 2
abbrev U3:=@OE 3
abbrev v5:=@OE 5
abbrev v4:=@OE 4
abbrev v6:=@OE 6
abbrev v7:=@OE 7
abbrev v8:=@OE 8
abbrev v9:=@OE 9
variable {P:Pg}{w:Wo}{K:qy}{mg:QQZ}{base:No}
def fq{st:TD}{sp:rq}(F:DG K st x qual ps fa)(S:tw N ps (qo st)) (hb:∀{X6:Vl} {A:Ar} {outer:T0 Env} {s:Sd} {H:Hp} {E:XK},sj k (A.deeper (dL qual (qo st) s.heap.objs.size fa.f X6))->(A.deeper (dL qual (qo st) s.heap.objs.size fa.f X6)).units+9<wP->
   ∃t,Hu (vk OC P w K mg base N qual (qo st) fa.f X6 A outer s H E).oF (rV st) t/\∀ds M Q,sp ds M Q->t {nx:=λ_ M'=>∃XZ,qG XZ M'/\Q .mK XZ,rt:=λd M'=>∃XZ,qG XZ M'/\Q d XZ} (xy N ds) M) (len:∀ds M Q,sp ds M Q->ds.length=ps.length:=by walk_at "l"):Fq P w K mg base (k+1) fa sp:=Wx F S len λ_ _ _ _ _ _ h=>hb h (Xx h)
def xQ{X:Cx}(h:Iz X.env.scope X.N scope ix N'=Db:=by kernel_rfl):sv X scope ix N':=UR h
end L3
namespace Z
section
open L2 L3
def xI{M:L3.Mp}{x:PySem.Addr}{ds:T0 L3.D}(h:M x=Fa):∃M',M'=L3.pI M x (.lst ds)/\qG M M'/\L3.og M' x=ga ds:=⟨_,Z',qG.new h,L3.pK⟩
def rf(i:Nat):TD:=PySem.Challenge.pw_callboard_k54_bills_walked.main.body.getD i (.Pass ⟨0,0,0,0⟩)
abbrev tm(i j:Nat):TD:=OX (rf i) j
def uq:Sc 1 ["log","legs","owners","units","counts","event","word"] (rf 1):=sk
def Az:Sc 1 ["answers"] (rf 3):=sk
def Gi:Sc 2 ["call","word"] (rf 5):=sk
def Dj:Sc 2 ["call","phone"] (rf 6):=sk
def ya:Sc 2 ["call","event","word"] (rf 7):=sk
def CM:Sc 3 ["board","caller","target","wishes"] (rf 14):=sk
def tH:Sc 3 ["board","caller","target","free","members","place","in_turn"] (rf 15):=sk
def vg:Sc 3 ["board","caller","target","phones"] (rf 16):=sk
def Af:Sc 2 ["wanted","target"] (rf 17):=sk
def wX:Sc 4 ["board","caller","target","way","come_to","steps","fits","wanted"] (rf 18):=sk
def zr:Sc 2 ["board","phone"] (rf 20):=sk
def wM:Sc 3 ["board","phone","target","word"] (rf 21):=sk
def Oe:Sc 3 ["word","phone","calls"] (rf 22):=sk
def tT:Sc 4 ["board","word","phone","numbers","calls","due"] (rf 23):=sk
def zo:Sc 3 ["board","word","number"] (rf 24):=sk
def BR:Sc 2 ["board","deed","word"] (rf 25):=sk
def tW:Sc 3 ["board","number","steps","last","target","fits"] (rf 26):=sk
def uN:Sc 4 ["board","number","target","phones","members","place"] (rf 27):=sk
def yo:Sc 3 ["board","number","target","talk","members"] (rf 28):=sk
def yp:Sc 3 ["board","number","end","word"] (rf 29):=sk
def wx:Sc 2 ["board","number","call","told","end","steps","last"] (rf 30):=sk
def Aa:Sc 3 ["board","phone","target","number"] (rf 31):=sk
def CF:Sc 3 ["board","phone","number","call"] (rf 32):=sk
def yP:Sc 2 ["board","call","wishes"] (rf 33):=sk
def Cm:Sc 3 ["board","number","fits","wish"] (rf 34):=sk
def tQ:Sc 1 ["board","number","call","fits"] (rf 35):=sk
def tI:Sc 2 ["board","deed","word","phone","number","call","kept","others"] (rf 36):=sk
def L8:Sc 2 ["board","deed","word"] (rf 37):=sk
def ID:Sc 2 ["board","deed","word","begun"] (rf 38):=sk
def Ii:Sc 3 ["board","caller","target"] (rf 40):=sk
def B4:Sc 1 ["told","word"] (rf 51):=sk
def PP:Sc 2 ["holds","words"] (rf 66):=sk
def H9:Sc 1 ["text"] (rf 67):=sk
def Du:Sc 1 ["things"] (rf 68):=sk
def ET:Sc 3 ["chosen","known","most"] (rf 69):=sk
def ua:Sc 1 ["phones","name","lines","rank"] (rf 70):=sk
def ub:Sc 2 ["groups","phone_names","name","manner","members"] (rf 71):=sk
def Di:Sc 4 ["kind","part","phone_names","names"] (rf 72):=sk
def tY:Sc 3 ["wish","phone_names","names","form","parts","kind","part"] (rf 73):=sk
def vd:Sc 3 ["wishes","phone_names","names","on","wish"] (rf 74):=sk
def wc:Sc 3 ["phones","groups","wishes","phone_names","names"] (rf 75):=sk
def Kq:Sc 2 ["_law_script","_law_k"] (rf 78):=sk
def Hf:Sc 3 ["_law_cell","_law_factor","_law_many"] (rf 79):=sk
def ui:Sc 2 ["_law_seed","_law_which","_law_letters","_law_size","_law_place","_law_rest","_law_sign"] (rf 80):=sk
def yl:Sc 3 ["_law_row","_law_cell","_law_most","_law_first","_law_size"] (rf 81):=sk
def uP:Sc 2 ["_law_seed","_law_most","_law_phones_here","_law_k","_law_lines"] (rf 82):=sk
def uR:Sc 2 ["_law_seed","_law_own","_law_groups_here","_law_g","_law_manner"] (rf 83):=sk
def tF:Sc 3 ["_law_cell","_law_own","_law_names","_law_a","_law_place","_law_b","_law_c","_law_pick","_law_first"] (rf 84):=sk
def sA:Sc 2 ["_law_script","_law_most","_law_seed","_law_phones_here","_law_own","_law_groups_here","_law_names","_law_wishes","_law_k","_law_cell"] (rf 85):=sk
def Dp:Sc 1 ["_law_call"] (rf 86):=sk
def AS:Sc 2 ["_law_board","_law_states"] (rf 87):=sk
def rK:Sc 4 ["_law_board","_law_cell","_law_word_here","_law_states","_law_some_here","_law_k","_law_people_here","_law_a","_law_m"] (rf 88):=sk
def uK:Sc 4 ["_law_cell","_law_own","_law_names","_law_many","_law_a","_law_b","_law_k","_law_m","_law_some_here"] (rf 89):=sk
def rL:Sc 4 ["_law_board","_law_cell","_law_own","_law_names","_law_word_here","_law_states","_law_found","_law_a"] (rf 90):=sk
def GS:Sc 1 ["_law_parts"] (rf 91):=sk
def Ha:Sc 1 ["_law_script"] (rf 92):=sk
def vU:Sc 2 ["_law_board","_law_deed_here","_law_events"] (rf 93):=sk
def Gy:Sc 3 ["_law_board","_law_script","_law_k"] (rf 94):=sk
def wg:Sc 2 ["_law_script","_law_parts","_law_board","_law_k"] (rf 95):=sk
def ED:Sc 1 ["_law_found"] (rf 96):=sk
def wG:Sc 2 ["_law_found","_law_due_here","_law_row"] (rf 97):=sk
def ue:Sc 1 ["_law_log","_law_rows","_law_goes","_law_event","_law_row"] (rf 98):=sk
def BW:Sc 1 ["_law_script","_law_board","_law_handed","_law_due_here","_law_found"] (rf 99):=sk
def CH:Sc 2 ["self","word"] (tm 12 0):=sk
def Dv:Sc 3 ["self","plan","hour"] (tm 8 0):=sk
def EC:Sc 4 ["self","phones","groups","wishes"] (tm 76 0):=sk
def yH:Sc 1 ["self"] (tm 76 2):=sk
def Dd:Sc 1 ["self"] (tm 76 1):=sk
def Hl:Sc 2 ["self","told"] (tm 42 0):=sk
def Fo:Sc 2 ["self","told"] (tm 43 0):=sk
def A6:Sc 2 ["self","told"] (tm 44 0):=sk
def DB:Sc 2 ["self","told"] (tm 46 0):=sk
def BG:Sc 2 ["self","told"] (tm 48 0):=sk
def E6:Sc 2 ["self","told"] (tm 49 0):=sk
def Cf:Sc 2 ["self","told"] (tm 50 0):=sk
def xU:Sc 2 ["self","event","word"] (tm 8 12):=sk
def Au:Sc 2 ["self","phone"] (tm 8 3):=sk
def Fy:Sc 2 ["self","told"] (tm 41 0):=sk
def Ai:Sc 2 ["self","phone"] (tm 8 2):=sk
def FJ:Sc 2 ["self","caller"] (tm 4 0):=sk
def ze:Sc 2 ["self","phone"] (tm 4 5):=sk
def yI:Sc 2 ["self","phone"] (tm 4 4):=sk
def Ae:Sc 2 ["self","leg"] (tm 8 10):=sk
def xY:Sc 4 ["self","merged","kept","members","call"] (tm 8 11):=sk
def vE:Sc 1 ["self","call"] (tm 8 9):=sk
def yV:Sc 2 ["self","phone"] (tm 4 8):=sk
def zm:Sc 2 ["self","phone"] (tm 4 2):=sk
def Ci:Sc 2 ["self","phone"] (tm 8 4):=sk
def Ay:Sc 2 ["self","phone"] (tm 8 5):=sk
def DA:Sc 2 ["self","phone"] (tm 8 1):=sk
def Dw:Sc 2 ["self","phone"] (tm 76 3):=sk
def xn:Sc 2 ["self","phone"] (tm 4 7):=sk
def DC:Sc 2 ["self","phone"] (tm 4 6):=sk
def Cp:Sc 2 ["self","call"] (tm 41 4):=sk
def Ax:Sc 2 ["self","call"] (tm 48 2):=sk
def Fx:Sc 1 ["self"] (tm 41 1):=sk
def De:Sc 2 ["self","phone"] (tm 4 3):=sk
def GE:Sc 2 ["self","phone"] (tm 4 1):=sk
def F4:Sc 1 ["self"] (tm 42 1):=sk
def Dz:Sc 1 ["self"] (tm 43 1):=sk
def Aj:Sc 1 ["self"] (tm 44 1):=sk
def Do:Sc 1 ["self"] (tm 49 1):=sk
def Bd:Sc 1 ["self"] (tm 50 1):=sk
def Gh:Sc 4 ["self","board","caller","target"] (tm 42 2):=sk
def FH:Sc 4 ["self","board","caller","target"] (tm 43 2):=sk
def B1:Sc 4 ["self","board","caller","target"] (tm 45 0):=sk
def Dy:Sc 4 ["self","board","caller","target"] (tm 46 2):=sk
def EW:Sc 4 ["self","board","caller","target"] (tm 47 0):=sk
def Cz:Sc 4 ["self","board","caller","target"] (tm 48 1):=sk
def Fm:Sc 4 ["self","board","caller","target"] (tm 49 2):=sk
def vC:Sc 4 ["self","board","caller","target","talk","members"] (tm 50 3):=sk
def Cv:Sc 2 ["self","name"] (tm 76 6):=sk
def zL:Sc 2 ["self","name"] (tm 76 5):=sk
def zS:Sc 2 ["self","hour"] (tm 46 1):=sk
def zN:Sc 1 ["self"] (tm 8 8):=sk
def zW:Sc 2 ["self","phone"] (tm 8 6):=sk
def vt:Sc 3 ["self","plan","members","rank"] (tm 50 2):=sk
def zU:Sc 3 ["self","caller","target"] (tm 8 7):=sk
def FN:Sc 2 ["self","phone"] (tm 76 4):=sk
noncomputable def K0:T0 (Str×QQQ):=[("bar",["phone","names"]),("shut",["name","phones"]),("always",["name","name"]),("night",["name","name","hour","hour"]),("busy",["name","name"]),("silent",["name","name","turns"]),("wait",["phone"]),("breaks",["phone"])]
set_option genInjectivity false in
structure Ad where
 (aa M ab aQ aR aS aT aU aV aW ac aX aY aZ a0 a1 a2 a3 a4 a5 ad a6 a7 a8 a9 ba bb bc N O bd m ae af P be bf bg bh bi bj J i ag Q bk bl bm bn bo bp bq br bs bt bu bv bw bx bz ah bA ai H aj ak L al am an A ao ap aq ar k R E S au av T bB bC bD aw U bE bF bG bH bI ax q ay l bJ bK az aA z aB aC aD aE aF aG aH aI aJ aK aL V bL bM bN bO aM aN:FA)
 (e c B t u X x n y v w o h b7 I:Uf)
structure Gl(K:qy)(mg:QQZ)(a:Ad):Prop where
 e:CG K mg "Call" a.e
 c:CG K mg "Board" a.c
 B:CG K mg "Wish" a.B
 t:CG K mg "Bar" a.t
 u:CG K mg "Shut" a.u
 X:CG K mg "Forward" a.X
 x:CG K mg "Always" a.x
 n:CG K mg "Night" a.n
 y:CG K mg "Busy" a.y
 v:CG K mg "Silent" a.v
 w:CG K mg "Wait" a.w
 o:CG K mg "Breaks" a.o
 h:CG K mg "Plan" a.h
 cX:mg "CallError"=ga (.ref a.b7)
 bZ:mg "NoDeed"=ga (.ref a.I)
 aa:TG K mg (rf 1) "bills" ["log"] a.aa
 M:TG K mg (rf 3) "place_of_true" ["answers"] a.M
 ab:TG K mg (rf 5) "end_call" ["call","word"] a.ab
 aQ:TG K mg (rf 6) "drop_phone" ["call","phone"] a.aQ
 aR:TG K mg (rf 7) "change_call" ["call","event"] a.aR
 aS:TG K mg (rf 14) "fitting" ["board","caller","target"] a.aS
 aT:TG K mg (rf 15) "rung_phones" ["board","caller","target"] a.aT
 aU:TG K mg (rf 16) "end_without_wish" ["board","caller","target"] a.aU
 aV:TG K mg (rf 17) "end_as_wanted" ["wanted","target"] a.aV
 aW:TG K mg (rf 18) "route" ["board","caller","target","way"] a.aW
 ac:TG K mg (rf 20) "word_for_idling" ["board","phone"] a.ac
 aX:TG K mg (rf 21) "word_for_call" ["board","phone","target"] a.aX
 aY:TG K mg (rf 22) "suits" ["word","phone","calls"] a.aY
 aZ:TG K mg (rf 23) "word_for_numbers" ["board","word","phone","numbers"] a.aZ
 a0:TG K mg (rf 24) "word_for_switch" ["board","word","number"] a.a0
 a1:TG K mg (rf 25) "refusal" ["board","deed"] a.a1
 a2:TG K mg (rf 26) "take_steps" ["board","number","steps"] a.a2
 a3:TG K mg (rf 27) "start_ringing" ["board","number","target","phones"] a.a3
 a4:TG K mg (rf 28) "break_in" ["board","number","target"] a.a4
 a5:TG K mg (rf 29) "come_to_end" ["board","number","end"] a.a5
 ad:TG K mg (rf 30) "go_on" ["board","number"] a.ad
 a6:TG K mg (rf 31) "make_call" ["board","phone","target"] a.a6
 a7:TG K mg (rf 32) "hang_up" ["board","phone","number"] a.a7
 a8:TG K mg (rf 33) "due_wishes" ["board","call"] a.a8
 a9:TG K mg (rf 34) "send_on" ["board","number","fits"] a.a9
 ba:TG K mg (rf 35) "let_turn_pass" ["board"] a.ba
 bb:TG K mg (rf 36) "event_of" ["board","deed"] a.bb
 bc:TG K mg (rf 37) "act" ["board","deed"] a.bc
 N:TG K mg (rf 38) "do" ["board","deed"] a.N
 O:TG K mg (rf 40) "is_busy" ["board","caller","target"] a.O
 bd:TG K mg (rf 51) "wish_of" ["told"] a.bd
 m:TG K mg (rf 66) "need" ["holds","words"] a.m
 ae:TG K mg (rf 67) "is_name" ["text"] a.ae
 af:TG K mg (rf 68) "all_unlike" ["things"] a.af
 P:TG K mg (rf 69) "is_choice" ["chosen","known","most"] a.P
 be:TG K mg (rf 70) "check_phones" ["phones"] a.be
 bf:TG K mg (rf 71) "check_groups" ["groups","phone_names"] a.bf
 bg:TG K mg (rf 72) "part_holds" ["kind","part","phone_names","names"] a.bg
 bh:TG K mg (rf 73) "check_wish" ["wish","phone_names","names"] a.bh
 bi:TG K mg (rf 74) "check_wishes" ["wishes","phone_names","names"] a.bi
 bj:TG K mg (rf 75) "check_plan" ["phones","groups","wishes"] a.bj
 J:TG K mg (rf 78) "_law_at" ["_law_script","_law_k"] a.J
 i:TG K mg (rf 79) "_law_draw" ["_law_cell","_law_factor","_law_many"] a.i
 ag:TG K mg (rf 80) "_law_word" ["_law_seed","_law_which"] a.ag
 Q:TG K mg (rf 81) "_law_some" ["_law_row","_law_cell","_law_most"] a.Q
 bk:TG K mg (rf 82) "_law_phones" ["_law_seed","_law_most"] a.bk
 bl:TG K mg (rf 83) "_law_groups" ["_law_seed","_law_own"] a.bl
 bm:TG K mg (rf 84) "_law_wish" ["_law_cell","_law_own","_law_names"] a.bm
 bn:TG K mg (rf 85) "_law_plan" ["_law_script","_law_most"] a.bn
 bo:TG K mg (rf 86) "_law_people" ["_law_call"] a.bo
 bp:TG K mg (rf 87) "_law_of_state" ["_law_board","_law_states"] a.bp
 bq:TG K mg (rf 88) "_law_on_call" ["_law_board","_law_cell","_law_word_here","_law_states"] a.bq
 br:TG K mg (rf 89) "_law_any" ["_law_cell","_law_own","_law_names","_law_many"] a.br
 bs:TG K mg (rf 90) "_law_deed" ["_law_board","_law_cell","_law_own","_law_names"] a.bs
 bt:TG K mg (rf 91) "_law_made" ["_law_parts"] a.bt
 bu:TG K mg (rf 92) "_law_hour" ["_law_script"] a.bu
 bv:TG K mg (rf 93) "_law_done" ["_law_board","_law_deed_here"] a.bv
 bw:TG K mg (rf 94) "_law_next" ["_law_board","_law_script","_law_k"] a.bw
 bx:TG K mg (rf 95) "_law_played" ["_law_script","_law_parts"] a.bx
 bz:TG K mg (rf 96) "_law_whole" ["_law_found"] a.bz
 ah:TG K mg (rf 97) "_law_bills_are" ["_law_found","_law_due_here"] a.ah
 bA:TG K mg (rf 98) "_law_due" ["_law_log"] a.bA
 ai:TG K mg (rf 99) "law" ["_law_script"] a.ai
 H:MG K a.I (tm 12 0) "__init__" "NoDeed.__init__" ["self","word"] a.H
 aj:MG K a.c (tm 8 0) "__init__" "Board.__init__" ["self","plan","hour"] a.aj
 ak:MG K a.h (tm 76 0) "__init__" "Plan.__init__" ["self","phones","groups","wishes"] a.ak
 L:MG K a.h (tm 76 2) "phone_names" "Plan.phone_names" ["self"] a.L
 al:MG K a.h (tm 76 1) "names" "Plan.names" ["self"] a.al
 am:MG K a.t (tm 42 0) "__init__" "Bar.__init__" ["self","told"] a.am
 an:MG K a.u (tm 43 0) "__init__" "Shut.__init__" ["self","told"] a.an
 A:MG K a.X (tm 44 0) "__init__" "Forward.__init__" ["self","told"] a.A
 ao:MG K a.n (tm 46 0) "__init__" "Night.__init__" ["self","told"] a.ao
 ap:MG K a.v (tm 48 0) "__init__" "Silent.__init__" ["self","told"] a.ap
 aq:MG K a.w (tm 49 0) "__init__" "Wait.__init__" ["self","told"] a.aq
 ar:MG K a.o (tm 50 0) "__init__" "Breaks.__init__" ["self","told"] a.ar
 k:MG K a.c (tm 8 12) "apply" "Board.apply" ["self","event"] a.k
 R:MG K a.c (tm 8 3) "talk_of" "Board.talk_of" ["self","phone"] a.R
 E:MG K a.B (tm 41 0) "__init__" "Wish.__init__" ["self","told"] a.E
 S:MG K a.c (tm 8 2) "is_free" "Board.is_free" ["self","phone"] a.S
 au:MG K a.e (tm 4 0) "__init__" "Call.__init__" ["self","caller"] a.au
 av:MG K a.e (tm 4 5) "waits_with" "Call.waits_with" ["self","phone"] a.av
 T:MG K a.e (tm 4 4) "is_tried_by" "Call.is_tried_by" ["self","phone"] a.T
 bB:MG K a.c (tm 8 10) "add_leg" "Board.add_leg" ["self","leg"] a.bB
 bC:MG K a.c (tm 8 11) "merge" "Board.merge" ["self","merged","kept","members"] a.bC
 bD:MG K a.c (tm 8 9) "pass_turn" "Board.pass_turn" ["self"] a.bD
 aw:MG K a.e (tm 4 8) "other_than" "Call.other_than" ["self","phone"] a.aw
 U:MG K a.e (tm 4 2) "talks_with" "Call.talks_with" ["self","phone"] a.U
 bE:MG K a.c (tm 8 4) "bound" "Board.bound" ["self","phone"] a.bE
 bF:MG K a.c (tm 8 5) "calling" "Board.calling" ["self","phone"] a.bF
 bG:MG K a.c (tm 8 1) "used" "Board.used" ["self","phone"] a.bG
 bH:MG K a.h (tm 76 3) "lines" "Plan.lines" ["self","phone"] a.bH
 bI:MG K a.e (tm 4 7) "can_be_left_by" "Call.can_be_left_by" ["self","phone"] a.bI
 ax:MG K a.e (tm 4 6) "pairs" "Call.pairs" ["self","phone"] a.ax
 q:MG K a.B (tm 41 4) "is_due" "Wish.is_due" ["self","call"] a.q
 ay:MG K a.v (tm 48 2) "is_due" "Silent.is_due" ["self","call"] a.ay
 l:MG K a.B (tm 41 1) "told" "Wish.told" ["self"] a.l
 bJ:MG K a.e (tm 4 3) "binds" "Call.binds" ["self","phone"] a.bJ
 bK:MG K a.e (tm 4 1) "has" "Call.has" ["self","phone"] a.bK
 az:MG K a.t (tm 42 1) "wants" "Bar.wants" ["self"] a.az
 aA:MG K a.u (tm 43 1) "wants" "Shut.wants" ["self"] a.aA
 z:MG K a.X (tm 44 1) "wants" "Forward.wants" ["self"] a.z
 aB:MG K a.w (tm 49 1) "wants" "Wait.wants" ["self"] a.aB
 aC:MG K a.o (tm 50 1) "wants" "Breaks.wants" ["self"] a.aC
 aD:MG K a.t (tm 42 2) "fits" "Bar.fits" ["self","board","caller","target"] a.aD
 aE:MG K a.u (tm 43 2) "fits" "Shut.fits" ["self","board","caller","target"] a.aE
 aF:MG K a.x (tm 45 0) "fits" "Always.fits" ["self","board","caller","target"] a.aF
 aG:MG K a.n (tm 46 2) "fits" "Night.fits" ["self","board","caller","target"] a.aG
 aH:MG K a.y (tm 47 0) "fits" "Busy.fits" ["self","board","caller","target"] a.aH
 aI:MG K a.v (tm 48 1) "fits" "Silent.fits" ["self","board","caller","target"] a.aI
 aJ:MG K a.w (tm 49 2) "fits" "Wait.fits" ["self","board","caller","target"] a.aJ
 aK:MG K a.o (tm 50 3) "fits" "Breaks.fits" ["self","board","caller","target"] a.aK
 aL:MG K a.h (tm 76 6) "manner" "Plan.manner" ["self","name"] a.aL
 V:MG K a.h (tm 76 5) "phones_of" "Plan.phones_of" ["self","name"] a.V
 bL:MG K a.n (tm 46 1) "has_hour" "Night.has_hour" ["self","hour"] a.bL
 bM:MG K a.c (tm 8 8) "hour_now" "Board.hour_now" ["self"] a.bM
 bN:MG K a.c (tm 8 6) "waits_at" "Board.waits_at" ["self","phone"] a.bN
 bO:MG K a.o (tm 50 2) "outranks" "Breaks.outranks" ["self","plan","members"] a.bO
 aM:MG K a.c (tm 8 7) "ringable" "Board.ringable" ["self","caller","target"] a.aM
 aN:MG K a.h (tm 76 4) "rank" "Plan.rank" ["self","phone"] a.aN
 b8:JL K a.I a.H.f
 b9:zq K a.I "word"
 ca:W.exmOne K (.ref a.I) (.ref a.I)=ga Db
 cb:Mk K a.c a.aj.f
 cc:Mk K a.h a.ak.f
 cd:Mk K a.t a.am.f
 ce:Mk K a.u a.an.f
 cf:Mk K a.x a.A.f
 cg:Mk K a.n a.ao.f
 ch:Mk K a.y a.A.f
 ci:Mk K a.v a.ap.f
 cj:Mk K a.w a.aq.f
 ck:Mk K a.o a.ar.f
 cl:Mk K a.e a.au.f
 cm:vK K a.t "is_due" a.q.f
 cn:vK K a.u "is_due" a.q.f
 co:vK K a.x "is_due" a.q.f
 cp:vK K a.n "is_due" a.q.f
 cq:vK K a.y "is_due" a.q.f
 cr:vK K a.w "is_due" a.q.f
 cs:vK K a.o "is_due" a.q.f
 ct:vK K a.t "told" a.l.f
 cu:vK K a.u "told" a.l.f
 cv:vK K a.x "told" a.l.f
 cw:vK K a.n "told" a.l.f
 cx:vK K a.y "told" a.l.f
 cy:vK K a.v "told" a.l.f
 cz:vK K a.w "told" a.l.f
 cA:vK K a.o "told" a.l.f
 cB:vK K a.x "wants" a.z.f
 cC:vK K a.n "wants" a.z.f
 cD:vK K a.y "wants" a.z.f
 cE:vK K a.v "wants" a.z.f
 aO:LV K a.B "__init__" a.E.f
 b0:LV K a.X "__init__" a.A.f
 C:zY K a.c ["plan","hour","turn","calls","legs","nexts","on","log"]
 Y:zY K a.h ["phones","groups","wishes","on","phone_rows","group_rows"]
 bS:zY K a.t ["form","phone","targets"]
 bT:zY K a.u ["form","target","callers"]
 bU:zY K a.x ["form","target","goal"]
 aP:zY K a.n ["form","target","goal","first","last"]
 bV:zY K a.y ["form","target","goal"]
 bP:zY K a.v ["form","target","goal","turns"]
 b1:zY K a.w ["form","phone"]
 b2:zY K a.o ["form","phone"]
 j:zY K a.e ["state","caller","way","at","members","holder","since","word"]
 cF:W.kitOne K (.type "list") (.type "list")=ga Db
 cG:W.kitOne K (.type "tuple") (.type "tuple")=ga Db
 cH:W.kitOne K (.type "int") (.type "int")=ga Db
 cI:W.kitOne K (.type "int") (.type "bool")=ga pc
 r:mg "list"=Fa
 Z:mg "range"=Fa
 b3:mg "min"=Fa
 g:mg "len"=Fa
 b4:mg "int"=Fa
 bW:mg "zip"=Fa
 bQ:mg "isinstance"=Fa
 F:mg "tuple"=Fa
 bX:mg "dict"=Fa
 cJ:mg "bool"=Fa
 cK:mg "set"=Fa
 bR:mg "all"=Fa
 bY:mg "enumerate"=Fa
 cL:mg "any"=Fa
 cM:KD K mg "MOST_PHONES" (.int 8)
 cN:KD K mg "MOST_LINES" (.int 3)
 cO:KD K mg "MOST_RANK" (.int 9)
 cP:KD K mg "MOST_GROUPS" (.int 3)
 cQ:KD K mg "MANNERS" (.tup ((["all","turns"]:QQQ).map D.str))
 cR:KD K mg "MOST_MEMBERS" (.int 4)
 cS:KD K mg "MOST_WISHES" (.int 16)
 cT:KD K mg "MOST_SIGNS" (.int 6)
 cU:KD K mg "LETTERS" (.str "abcdefghijklmnopqrstuvwxyz")
 b5:Ni K mg "FORMS" K0
 b6:KD K mg "MOST_LISTED" (.int 6)
 cV:KD K mg "LAST_HOUR" (.int 23)
 cW:KD K mg "MOST_TURNS" (.int 9)
noncomputable def qz(c f m:Int):Int:=(c % 2147483647+5)*f % 2147483629 / 89 % m
def rb{c f m:Int}(h:0<m):0<=qz c f m:=eX _ (by lia)
def qU{c f m:Int}(h:0<m):qz c f m<m:=eU _ h
def J5:rq:=λds M Q=>C5 λc f m=>ds=[.int c,.int f,.int m]/\0<m/\Q (.int (qz c f m)) M
noncomputable def uu:Str:="abcdefghijklmnopqrstuvwxyz"
noncomputable def uh(i:Int):Str:=⟨#[97+i.toNat]⟩
noncomputable def size(s:Int):Int:=1+s % 6
def um(s:Int):Int:=s / 6 % size s
def xZ(s v:Int):Str:=zc (uh (s / 36 % 26)) (um s)++uh ((s / 936+v) % 26)++zc (uh (s / 36 % 26)) (size s - 1 - um s)
def Qe:rq:=λds M Q=>CP λs v=>ds=[.int s,.int v]/\Q (.str (xZ s v)) M
noncomputable def cell(ns:T0 Int)(i:Int):Int:=if 0<=i/\i<ns.length then ns.getD i.toNat 0 else 0
def U6:rq:=λds M Q=>CP λns i=>ds=[.rl (ns.map D.int),.int i]/\Q (.int (cell ns i)) M
def Hn(c:Int):0<size c:=by unfold size;have:=eX c (show(6:Int)≠0 by decide);lia
def I9(c:Int):size c<=6:=by unfold size;have:=eU c (show(0:Int)<6 by decide);lia
def G7(i n:Int):(zc (uh i) n).length=n.toNat:=by show((List.replicate n.toNat (uh i).cps).foldl (·++·) #[]:Array Nat).size=n.toNat;rw[Kc];show n.toNat*1=n.toNat;lia
def AG:uu.length<=Ch:=by decide+kernel
variable {P:Pg}{w:Wo}{K:qy}{mg:QQZ}{base:No}{a:Ad}(G:Gl K mg a)
def qR:Fq P w K mg base 1 a.i J5:=by
 refine fq G.i.toDG Hf (λr u=>⟨_,(pC (pH (qh (qh (qh (qh (qh (qh v0 pE) pE) U1) pE) pE) U2))),?_⟩)
 rintro ds M Q ⟨c,f,m,rfl,hm,q⟩
 refine⟨by decide,.inl ?_,by decide,⟨by decide,by decide⟩,hm,M,.refl,q⟩;have h1:0<=c % 2147483647:=eX _ (by decide);have h2:c % 2147483647<2147483647:=eU _ (by decide);exact⟨by lia,by lia⟩
def Eg{i:Int}(h0:0<=i)(h1:i<26):wu uu.cps.toList i=ga (97+i.toNat):=by
 obtain⟨n,rfl⟩:=eD h0;have hn:n<26:=by lia
 have key:∀n:_root_.Fin 26,wu uu.cps.toList ((n.val:Nat):Int)=ga (97+n.val):=by decide+kernel
 exact key ⟨n,hn⟩
def JF:Fq P w K mg base 1 a.ag Qe:=by
 refine fq G.ag.toDG ui (λr u=>⟨_,(pB (pQ 2 ui pF)
 (pB (pQ 3 ui (qh pE (qh v0 pE)))
 (pB (pQ 4 ui (qh (qh v0 pE) U3))
 (pB (pQ 5 ui (pN U2 (qh (qh v0 pE) pE)))
 (pB (pQ 6 ui (pN U2 (qh (qh (qh v0 pE) U1) pE)))
 (pC (pH (qh (qh (qh v5 v4) v6) (qh v5 (qh (qh U3 pE) v4)))))))))),?_⟩)
 rintro ds M Q ⟨c,v,rfl,q⟩
 have hs:=Hn c;have hs6:=I9 c;have hp0:0<=um c:=eX _ (by lia);have YJ:um c<size c:=eU _ hs;have l1:=G7 (c / 36 % 26) (um c);have l2:=G7 (c / 36 % 26) (size c - 1 - um c);have hz:=dQ;refine⟨by decide,⟨by decide,by decide⟩,hs,⟨by decide,by decide⟩,by decide,AG,i' (Eg (eX _ (by decide)) (eU _ (by decide))) ?_⟩;refine⟨⟨by decide,by decide⟩,by decide,AG,i' (Eg (eX _ (by decide)) (eU _ (by decide))) ?_⟩;refine⟨⟨?_,?_,?_⟩,?_,⟨?_,?_,?_⟩,?_,M,.refl,q⟩
 .show um c<4096;lia
 .show -4096<um c;lia
 .show(1:Nat)<4096;decide
 .show(zc (uh (c / 36 % 26)) (um c)).length+1<=Ch;lia
 .show size c - 1 - um c<4096;lia
 .show -4096<size c - 1 - um c;lia
 .show(1:Nat)<4096;decide
 .show(zc (uh (c / 36 % 26)) (um c)++uh ((c / 936+v) % 26)).length+(zc (uh (c / 36 % 26)) (size c - 1 - um c)).length<=Ch;rw[PySem.size_cat];have:(uh ((c / 936+v) % 26)).length=1:=rfl;lia
def Jx:Fq P w K mg base 1 a.J U6:=by
 refine fq G.J.toDG Kq (λr u=>⟨_,(pB (pU (G1 u pE U1 (pX qF Z' G.g qE (qp v0)))
 (pC (pH (pN v0 U1)))
 pP)
 (pC (pH pE))),?_⟩)
 rintro ds M Q ⟨ns,i,rfl,q⟩
 refine qQ (λh0=>?_) (λh0=>?_)
 .have h0:0<=i:=fU h0;refine qQ (λh1=>?_) (λh1=>?_)
  .have h1:i<((ns.map D.int).length:Int):=fU h1;rw[cY]at h1;have hi:i.toNat<ns.length:=by lia
   have e:wu (ns.map D.int) i=ga (D.int (ns.getD i.toNat 0)):=by
    obtain⟨n,rfl⟩:=eD h0;have hn:n<ns.length:=by lia
    refine uT ?_;rw[dE,df hn];simp[hn]
   refine i' e ⟨M,.refl,?_⟩;have:cell ns i=ns.getD i.toNat 0:=by unfold cell;rw[dh ⟨h0,h1⟩]
   rw[<-this];exact q
  .have h1:¬i<((ns.map D.int).length:Int):=λz=>h1 (dU z);rw[cY]at h1;refine⟨M,.refl,?_⟩;have:cell ns i=0:=by unfold cell;rw[dg (λz=>h1 z.2)]
   rw[<-this];exact q
 .have h0:¬0<=i:=λz=>h0 (dU z);refine⟨M,.refl,?_⟩;have:cell ns i=0:=by unfold cell;rw[dg (λz=>h0 z.1)]
  rw[<-this];exact q
inductive Wi where
 | bar (x:Str) (ns:QQQ)|shut (x:Str) (ns:QQQ)|always (x y:Str)|night (x y:Str) (f l:Int)|busy (x y:Str)|silent (x y:Str) (n:Int)|wait (x:Str)|breaks (x:Str)
abbrev names(ns:QQQ):D:=.tup (ns.map D.str)
noncomputable def Wi.told:Wi->T0 D
 | .bar x ns=>[.str "bar",.str x,names ns]
 | .shut x ns=>[.str "shut",.str x,names ns]
 | .always x y=>[.str "always",.str x,.str y]
 | .night x y f l=>[.str "night",.str x,.str y,.int f,.int l]
 | .busy x y=>[.str "busy",.str x,.str y]
 | .silent x y n=>[.str "silent",.str x,.str y,.int n]
 | .wait x=>[.str "wait",.str x]
 | .breaks x=>[.str "breaks",.str x]
noncomputable def Wi.cls(a:Ad):Wi->Uf
 | .bar _ _=>a.t
 | .shut _ _=>a.u
 | .always _ _=>a.x
 | .night _ _ _ _=>a.n
 | .busy _ _=>a.y
 | .silent _ _ _=>a.v
 | .wait _=>a.w
 | .breaks _=>a.o
noncomputable def Wi.more:Wi->T0 (Str×D)
 | .bar x ns=>[("phone",.str x),("targets",names ns)]
 | .shut x ns=>[("target",.str x),("callers",names ns)]
 | .always x y=>[("target",.str x),("goal",.str y)]
 | .night x y f l=>[("target",.str x),("goal",.str y),("first",.int f),("last",.int l)]
 | .busy x y=>[("target",.str x),("goal",.str y)]
 | .silent x y n=>[("target",.str x),("goal",.str y),("turns",.int n)]
 | .wait x=>[("phone",.str x)]
 | .breaks x=>[("phone",.str x)]
noncomputable def Wi.nH(v:Wi):T0 (Str×D):=("form",.tup v.told)::v.more
abbrev CT(ns:QQQ)(i:Int):Str:=ns.getD i.toNat Str.empty
def xD(row:QQQ)(c m:Int):Nat:=(1+qz c 40692 (if (row.length:Int)<m then(row.length:Int)else m)).toNat
def UQ(row:QQQ)(c:Int)(j:Nat):Str:=CT row ((qz c 69621 row.length+(0+(j:Nat))) % row.length)
def vM(row:QQQ)(c m:Int):QQQ:=(List.range (xD row c m)).map (UQ row c)
def QH:rq:=λds M Q=>Br λr c m row=>ds=[.ref r,.int c,.int m]/\og M r=ga (row.map D.str)/\row≠[]/\0<m/\row.length<=64/\Q (names (vM row c m)) M
def J'{row:QQQ}(h:row≠[])(x:Int):wu (row.map D.str) (x % row.length)=ga (D.str (CT row (x % row.length))):=by
 have hl:0<row.length:=fE.mpr h;have h0:0<=x % row.length:=eX _ (by lia);have h1:x % row.length<row.length:=eU _ (by lia);obtain⟨n,hn⟩:=eD h0;rw[hn]at h1 ⊢;have ZQ:n<row.length:=by lia
 refine uT ?_;rw[dE,df ZQ];simp[CT,ZQ]
def yD:Fq P w K mg base 2 a.Q QH:=by
 refine fq G.Q.toDG yl (λr u=>⟨_,(pB (pQ 3 yl (pO (qR G) r G.i (rB U1 pE (pX qF Z' G.g qE (qp v0)))))
 (pB (pQ 4 yl (qh pE (pO (qR G) r G.i (rB U1 pE (pX (NB Z') Z' G.b3 Ow (rZ U2 (pX qF Z' G.g qE (qp v0))))))))
 (pC (pH (qw uV Z' G.F ur (qp (qO Z' (xQ (ix:=[Fa,ga 0,ga 3]) (N':=["_law_j","_law_row","_law_first"])) (wA Z' G.Z (qp v4)) (qD 0) rS (pN U1 (qh (qh U2 v0) (pX qF Z' G.g qE (qp U1))))))))))),?_⟩)
 rintro ds M Q ⟨r,c,m,row,rfl,hl,Yk,hm,h64,q⟩
 have X1:0<row.length:=fE.mpr Yk;have hz:=dQ;have el:((row.map D.str).length:Int)=row.length:=by rw[cY]
 refine i' hl ⟨c,69621,_,Z',by rw[el];lia,?_⟩;refine i' hl ⟨c,40692,_,Z',by rw[el];split<;>lia,?_⟩;rw[el];have d0:=rb (c:=c) (f:=40692) (m:=if (row.length:Int)<m then(row.length:Int)else m) (by split<;>lia);have d1:=qU (c:=c) (f:=40692) (m:=if (row.length:Int)<m then(row.length:Int)else m) (by split<;>lia);have d2:qz c 40692 (if (row.length:Int)<m then(row.length:Int)else m)<row.length+1:=by refine Int.lt_of_lt_of_le d1 ?_;split<;>lia
 refine⟨Z',⟨?_,?_⟩,rA (f:=λd=>match d with|.int j=>D.str (CT row ((qz c 69621 row.length+j) % row.length))|_=>.mK) trivial _ [] _ ?_ (λd hd k hk=>?_) λp hp=>?_⟩
 .show -(2 ^ 62)<=1+qz c 40692 (if (row.length:Int)<m then(row.length:Int)else m);lia
 .show 1+qz c 40692 (if (row.length:Int)<m then(row.length:Int)else m)<2 ^ 62;lia
 .rw[cY,eL];show 0+xD row c m<=Ch;unfold xD;lia
 .obtain⟨j,_,rfl⟩:=dF.mp hd;refine i' hl ⟨by rw[el];lia,i' hl ?_⟩;rw[el];exact i' (J' Yk _) hk
 .refine i' (x:=(vM row c m).map D.str) ?_ ⟨M,.new hp,q⟩;unfold og;rw[pW];show ga ([]++((List.range (xD row c m)).map λi=>D.int (0+(i:Nat))).map _)=_;rw[eA,eh];unfold vM;rw[eh];rfl
def wD(c:Int)(own all:QQQ):Wi:=
 let x:=CT own (qz c 16807 own.length);let pl:=qz c 39373 all.length;let y:=CT all pl;let z:=CT all ((pl+1+qz c 742938285 ((all.length:Int) - 1)) % all.length);let k:=qz c 1226874159 12
 if k=0 then .bar x (vM all c 3)
 else if k=1 then .shut y (vM own c 3)
 else if k=2 then .always y z
 else if k<5 then .night y z (qz c 22695477 24) ((qz c 22695477 24+1+qz c 48271 23) % 24)
 else if k<7 then .busy y z
 else if k<9 then .silent y z ([1,1,2,3,9].getD (qz c 950706376 5).toNat 0)
 else if k=9 then .wait x
 else .breaks x
def Pc:rq:=λds M Q=>F9 λc o n own all=>ds=[.int c,.ref o,.ref n]/\og M o=ga (own.map D.str)/\og M n=ga (all.map D.str)/\own≠[]/\2<=all.length/\own.length<=64/\all.length<=64/\Q (.tup (wD c own all).told) M
def Ia{row:QQQ}{x:Int}(h0:0<=x)(h1:x<row.length):wu (row.map D.str) x=ga (D.str (CT row x)):=by
 obtain⟨n,rfl⟩:=eD h0;have ZQ:n<row.length:=by lia
 refine uT ?_;rw[dE,df ZQ];simp[CT,ZQ]
def Qo:Fq P w K mg base 3 a.bm Pc:=by
 refine fq G.bm.toDG tF (λr u=>⟨_,(pB (pQ 3 tF (pN U1 (pO (qR G) r G.i (rB v0 pE (pX qF Z' G.g qE (qp U1))))))
 (pB (pQ 4 tF (pO (qR G) r G.i (rB v0 pE (pX qF Z' G.g qE (qp U2)))))
 (pB (pQ 5 tF (pN U2 v4))
 (pB (pQ 6 tF (pN U2 (qh (qh (qh v4 pE) (pO (qR G) r G.i (rB v0 pE (qh (pX qF Z' G.g qE (qp U2)) pE)))) (pX qF Z' G.g qE (qp U2)))))
 (pB (pQ 7 tF (pO (qR G) r G.i (rB v0 pE pE)))
 (pB (pU (pL u v7 pE)
 (pC (pH (pT (rB pF U3 (pO (yD G) r G.Q (rB U2 v0 pE))))))
 pP)
 (pB (pU (pL u v7 pE)
 (pC (pH (pT (rB pF v5 (pO (yD G) r G.Q (rB U1 v0 pE))))))
 pP)
 (pB (pU (pL u v7 pE)
 (pC (pH (pT (rB pF v5 v6))))
 pP)
 (pB (pU (pL u v7 pE)
 (pB (pQ 8 tF (pO (qR G) r G.i (rB v0 pE pE)))
 (pC (pH (pT (qc pF (qc v5 (rB v6 v8 (qh (qh (qh v8 pE) (pO (qR G) r G.i (rB v0 pE pE))) pE))))))))
 pP)
 (pB (pU (pL u v7 pE)
 (pC (pH (pT (rB pF v5 v6))))
 pP)
 (pB (pU (pL u v7 pE)
 (pC (pH (pT (qc pF (rB v5 v6 (pN (pT (qc pE (qc pE (rB pE pE pE)))) (pO (qR G) r G.i (rB v0 pE pE))))))))
 pP)
 (pB (pU (pL u v7 pE)
 (pC (pH (pT (rZ pF U3))))
 pP)
 (pC (pH (pT (rZ pF U3)))))))))))))))),?_⟩)
 rintro ds M Q ⟨c,o,n,own,all,rfl,ho,hn,Yk,h2,l1,l2,q⟩
 have X1:0<own.length:=fE.mpr Yk;have hne2:all≠[]:=λz=>by rw[z]at h2;simp at h2
 have e1:((own.map D.str).length:Int)=own.length:=by rw[cY]
 have e2:((all.map D.str).length:Int)=all.length:=by rw[cY]
 have p1:(0:Int)<own.length:=by lia
 have p2:(0:Int)<all.length:=by lia
 have p3:(0:Int)<(all.length:Int) - 1:=by lia
 refine i' ho ⟨c,_,_,Z',by rw[e1];exact p1,?_⟩;rw[e1];refine i' ho (i' (Ia (rb p1) (qU p1)) ?_);refine i' hn ⟨c,_,_,Z',by rw[e2];exact p2,?_⟩;rw[e2];refine i' hn (i' (Ia (rb p2) (qU p2)) ?_);refine i' hn ⟨c,_,_,Z',by rw[e2];exact p3,?_⟩;rw[e2];refine i' hn ⟨by rw[e2];exact p2,?_⟩;rw[e2];refine i' hn (i' (J' hne2 _) ?_);refine⟨c,_,_,Z',by decide,?_⟩;have X0:∀t:T0 D,(wD c own all).told=t->∃XZ,qG XZ M/\Q (.tup t) XZ:=λt e=>⟨M,.refl,e ▸ q⟩;have k0:0<=qz c 1226874159 12:=rb (by decide);refine qQ (λh=>?_) (λh=>?_)
 .have h:qz c 1226874159 12=0:=by simpa using h
  refine⟨n,c,3,all,Z',hn,hne2,by decide,l2,pz Z',X0 _ ?_⟩;simp only[wD,dh h,Wi.told]
 have h:¬qz c 1226874159 12=0:=by simpa using h
 refine qQ (λg=>?_) (λg=>?_)
 .have g:qz c 1226874159 12=1:=by simpa using g
  refine⟨o,c,3,own,Z',ho,Yk,by decide,l1,pz Z',X0 _ ?_⟩;simp only[wD,dg h,dh g,Wi.told]
 have g:¬qz c 1226874159 12=1:=by simpa using g
 refine qQ (λi=>?_) (λi=>?_)
 .have i:qz c 1226874159 12=2:=by simpa using i
  refine⟨pz Z',X0 _ ?_⟩;simp only[wD,dg h,dg g,dh i,Wi.told]
 have i:¬qz c 1226874159 12=2:=by simpa using i
 refine qQ (λj=>?_) (λj=>?_)
 .have j:qz c 1226874159 12<5:=fU j;refine⟨c,_,_,Z',by decide,c,_,_,Z',by decide,by decide,pz Z',X0 _ ?_⟩;simp only[wD,dg h,dg g,dg i,dh j,Wi.told]
 have j:¬qz c 1226874159 12<5:=λz=>j (dU z);refine qQ (λl=>?_) (λl=>?_)
 .have l:qz c 1226874159 12<7:=fU l;refine⟨pz Z',X0 _ ?_⟩;simp only[wD,dg h,dg g,dg i,dg j,dh l,Wi.told]
 have l:¬qz c 1226874159 12<7:=λz=>l (dU z);refine qQ (λm=>?_) (λm=>?_)
 .have m:qz c 1226874159 12<9:=fU m;have d0:0<=qz c 950706376 5:=rb (by decide);have d1:qz c 950706376 5<5:=qU (by decide);have e:wu [D.int 1,.int 1,.int 2,.int 3,.int 9] (qz c 950706376 5)=ga (D.int ([1,1,2,3,9].getD (qz c 950706376 5).toNat 0)):=by
   obtain⟨t,ht⟩:=eD d0;rw[ht]at d1 ⊢;have:t<5:=by lia
   match t,this with
   | 0,_=>rfl
   | 1,_=>rfl
   | 2,_=>rfl
   | 3,_=>rfl
   | 4,_=>rfl
  refine⟨pz Z',c,_,_,Z',by decide,i' e ⟨pz Z',X0 _ ?_⟩⟩;simp only[wD,dg h,dg g,dg i,dg j,dg l,dh m,Wi.told]
 have m:¬qz c 1226874159 12<9:=λz=>m (dU z);refine qQ (λr=>?_) (λr=>?_)
 .have r:qz c 1226874159 12=9:=by simpa using r
  refine⟨pz Z',X0 _ ?_⟩;simp only[wD,dg h,dg g,dg i,dg j,dg l,dg m,dh r,Wi.told]
 have r:¬qz c 1226874159 12=9:=by simpa using r
 refine⟨pz Z',X0 _ ?_⟩;simp only[wD,dg h,dg g,dg i,dg j,dg l,dg m,dg r,Wi.told]
def OA(K:qy):rq:=λds M Q=>C5 λp d C=>ds=[.ref p,d]/\M p=ga (.ins C [])/\uf K C "form"/\Q .mK (pI M p (.ins C [("form",d)]))
def LU(K:qy):rq:=λds M Q=>F9 λp t x y C=>ds=[.ref p,.tup t]/\wu t 1=ga x/\wu t 2=ga y/\M p=ga (.ins C [])/\uf K C "form"/\uf K C "target"/\uf K C "goal"/\Q .mK (pI M p (.ins C [("form",.tup t),("target",x),("goal",y)]))
def yG(a:Ad)(k:Wi->Prop):rq:=λds M Q=>CP λp v=>ds=[.ref p,.tup (Wi.told v)]/\k v/\M p=ga (.ins (v.cls a) [])/\Q .mK (pI M p (.ins (v.cls a) v.nH))
def ye:Fq P w K mg base 1 a.E (OA K):=by
 refine fq G.E.toDG Fy (λr u=>⟨_,(pC (qm v0 U1)),?_⟩)
 rintro ds M Q ⟨p,d,C,rfl,hp,na,q⟩
 exact pD hp ⟨na,by decide,_,.refl,q⟩
def zV:Fq P w K mg base 2 a.A (LU K):=by
 refine fq G.A.toDG A6 (λr u=>⟨_,(pB (pR (y9 G.aO (ye G) r G.B G.E.toDG (rZ v0 U1)))
 (pB (qm v0 (pN U1 pE))
 (pC (qm v0 (pN U1 pE))))),?_⟩)
 rintro ds M Q ⟨p,t,x,y,C,rfl,e1,e2,hp,n1,n2,n3,q⟩
 refine⟨p,_,C,Z',hp,n1,i' e1 (pD pW ⟨n2,by show 1<1000;decide,?_⟩)⟩;refine i' e2 (pD pW ⟨n3,by show 2<1000;decide,_,?_,q⟩);rw[rQ,rQ];exact .refl
def TN:Fq P w K mg base 2 a.am (yG a λv=>∃x ns,v=.bar x ns):=by
 refine fq G.am.toDG Hl (λr u=>⟨_,(pB (pR (y9 G.aO (ye G) r G.B G.E.toDG (rZ v0 U1)))
 (pB (qm v0 (pN U1 pE))
 (pC (qm v0 (pN U1 pE))))),?_⟩)
 rintro ds M Q ⟨p,v,rfl,⟨x,ns,rfl⟩,hp,q⟩
 refine⟨p,_,_,Z',hp,(G.bS "form" Z'),pD pW ⟨(G.bS "phone" Z'),by show 1<1000;decide,?_⟩⟩;refine pD pW ⟨(G.bS "targets" Z'),by show 2<1000;decide,_,?_,q⟩;rw[rQ,rQ];exact .refl
def QD:Fq P w K mg base 2 a.an (yG a λv=>∃x ns,v=.shut x ns):=by
 refine fq G.an.toDG Fo (λr u=>⟨_,(pB (pR (y9 G.aO (ye G) r G.B G.E.toDG (rZ v0 U1)))
 (pB (qm v0 (pN U1 pE))
 (pC (qm v0 (pN U1 pE))))),?_⟩)
 rintro ds M Q ⟨p,v,rfl,⟨x,ns,rfl⟩,hp,q⟩
 refine⟨p,_,_,Z',hp,(G.bT "form" Z'),pD pW ⟨(G.bT "target" Z'),by show 1<1000;decide,?_⟩⟩;refine pD pW ⟨(G.bT "callers" Z'),by show 2<1000;decide,_,?_,q⟩;rw[rQ,rQ];exact .refl
def NA:Fq P w K mg base 3 a.ao (yG a λv=>∃x y f l,v=.night x y f l):=by
 refine fq G.ao.toDG DB (λr u=>⟨_,(pB (pR (y9 G.b0 (zV G) r G.X G.A.toDG (rZ v0 U1)))
 (pB (qm v0 (pN U1 pE))
 (pC (qm v0 (pN U1 pE))))),?_⟩)
 rintro ds M Q ⟨p,v,rfl,⟨x,y,f,l,rfl⟩,hp,q⟩
 refine⟨p,_,_,_,_,Z',Z',Z',hp,(G.aP "form" Z'),(G.aP "target" Z'),(G.aP "goal" Z'),pD pW ⟨(G.aP "first" Z'),by show 3<1000;decide,?_⟩⟩;refine pD pW ⟨(G.aP "last" Z'),by show 4<1000;decide,_,?_,q⟩;rw[rQ,rQ];exact .refl
def KP:Fq P w K mg base 3 a.ap (yG a λv=>∃x y n,v=.silent x y n):=by
 refine fq G.ap.toDG BG (λr u=>⟨_,(pB (pR (y9 G.b0 (zV G) r G.X G.A.toDG (rZ v0 U1)))
 (pC (qm v0 (pN U1 pE)))),?_⟩)
 rintro ds M Q ⟨p,v,rfl,⟨x,y,n,rfl⟩,hp,q⟩
 refine⟨p,_,_,_,_,Z',Z',Z',hp,(G.bP "form" Z'),(G.bP "target" Z'),(G.bP "goal" Z'),pD pW ⟨(G.bP "turns" Z'),by show 3<1000;decide,_,?_,q⟩⟩;rw[rQ];exact .refl
def Qw:Fq P w K mg base 2 a.aq (yG a λv=>∃x,v=.wait x):=by
 refine fq G.aq.toDG E6 (λr u=>⟨_,(pB (pR (y9 G.aO (ye G) r G.B G.E.toDG (rZ v0 U1)))
 (pC (qm v0 (pN U1 pE)))),?_⟩)
 rintro ds M Q ⟨p,v,rfl,⟨x,rfl⟩,hp,q⟩
 refine⟨p,_,_,Z',hp,(G.b1 "form" Z'),pD pW ⟨(G.b1 "phone" Z'),by show 1<1000;decide,_,?_,q⟩⟩;rw[rQ];exact .refl
def KC:Fq P w K mg base 2 a.ar (yG a λv=>∃x,v=.breaks x):=by
 refine fq G.ar.toDG Cf (λr u=>⟨_,(pB (pR (y9 G.aO (ye G) r G.B G.E.toDG (rZ v0 U1)))
 (pC (qm v0 (pN U1 pE)))),?_⟩)
 rintro ds M Q ⟨p,v,rfl,⟨x,rfl⟩,hp,q⟩
 refine⟨p,_,_,Z',hp,(G.b2 "form" Z'),pD pW ⟨(G.b2 "phone" Z'),by show 1<1000;decide,_,?_,q⟩⟩;rw[rQ];exact .refl
def HW(a:Ad):rq:=λds M Q=>∃v:Wi,ds=[.tup v.told]/\∀p,M p=Fa->Q (.ref p) (pI M p (.ins (v.cls a) v.nH))
def IU(a:Ad):rq:=λds M Q=>CP λp (v:Wi)=>ds=[.ref p]/\M p=ga (.ins (v.cls a) v.nH)/\Q (.tup v.told) M
def Ie:rq:=λds M Q=>∃p,ds=[.ref p]/\Q (.tup [.str "end"]) M
def Ls:rq:=λds M Q=>∃p,ds=[.ref p]/\Q (.tup [.str "break"]) M
def Rt:rq:=λds M Q=>Br λp C fs y=>ds=[.ref p]/\M p=ga (.ins C fs)/\fs.lookup ("goal":Str)=ga y/\Q (.tup [.str "to",y]) M
def RI:rq:=λds M Q=>Br λp C fs y=>ds=[.ref p]/\M p=ga (.ins C fs)/\fs.lookup ("phone":Str)=ga y/\Q (.tup [.str "wait",y]) M
def L6(a:Ad):Uf->rq->Prop:=λC sp=>(∃v:Wi,C=v.cls a)/\sp=IU a
def JU(a:Ad):Uf->rq->Prop:=λC sp=>((C=a.t\/C=a.u)/\sp=Ie)\/((C=a.x\/C=a.n\/C=a.y\/C=a.v)/\sp=Rt)\/(C=a.w/\sp=RI)\/(C=a.o/\sp=Ls)
def Iq:Fq P w K mg base 5 a.bd (HW a):=by
 refine fq G.bd.toDG B4 (λr u=>⟨_,(pB (pQ 1 B4 (pN v0 pE))
 (pB (pU (pL u U1 pF)
 (pC (pH (vq (TN G) r G.t G.cd G.am.toDG (qp v0))))
 pP)
 (pB (pU (pL u U1 pF)
 (pC (pH (vq (QD G) r G.u G.ce G.an.toDG (qp v0))))
 pP)
 (pB (pU (pL u U1 pF)
 (pC (pH (vq (zV G) r G.x G.cf G.A.toDG (qp v0))))
 pP)
 (pB (pU (pL u U1 pF)
 (pC (pH (vq (NA G) r G.n G.cg G.ao.toDG (qp v0))))
 pP)
 (pB (pU (pL u U1 pF)
 (pC (pH (vq (zV G) r G.y G.ch G.A.toDG (qp v0))))
 pP)
 (pB (pU (pL u U1 pF)
 (pC (pH (vq (KP G) r G.v G.ci G.ap.toDG (qp v0))))
 pP)
 (pB (pU (pL u U1 pF)
 (pC (pH (vq (Qw G) r G.w G.cj G.aq.toDG (qp v0))))
 pP)
 (pB (pU (pL u U1 pF)
 (pC (pH (vq (KC G) r G.o G.ck G.ar.toDG (qp v0))))
 pP)
 (pC Gr)))))))))),?_⟩)
 rintro ds M Q ⟨v,rfl,q⟩
 have X0:∀(x:Uf) (c0 c1:vc) (C:Uf) (fs:T0 (Str×D)),M x=Fa->Q (.ref x) (pI M x c1)->∃XZ,qG XZ (pI (pI M x c0) x c1)/\Q (.ref x) XZ:=λx c0 c1 C fs hx q=>⟨_,by rw[rQ];exact .refl,q⟩;cases v with
 | bar x ns=>exact λp hp=>⟨p,.bar x ns,Z',⟨_,_,Z'⟩,pW,Z',X0 p _ _ 0 [] hp (q p hp)⟩
 | shut x ns=>exact λp hp=>⟨p,.shut x ns,Z',⟨_,_,Z'⟩,pW,Z',X0 p _ _ 0 [] hp (q p hp)⟩
 | always x y=>exact λp hp=>⟨p,_,_,_,_,Z',Z',Z',pW,(G.bU "form" Z'),(G.bU "target" Z'),(G.bU "goal" Z'),Z',X0 p _ _ 0 [] hp (q p hp)⟩
 | night x y f l=>exact λp hp=>⟨p,.night x y f l,Z',⟨_,_,_,_,Z'⟩,pW,Z',X0 p _ _ 0 [] hp (q p hp)⟩
 | busy x y=>exact λp hp=>⟨p,_,_,_,_,Z',Z',Z',pW,(G.bV "form" Z'),(G.bV "target" Z'),(G.bV "goal" Z'),Z',X0 p _ _ 0 [] hp (q p hp)⟩
 | silent x y n=>exact λp hp=>⟨p,.silent x y n,Z',⟨_,_,_,Z'⟩,pW,Z',X0 p _ _ 0 [] hp (q p hp)⟩
 | wait x=>exact λp hp=>⟨p,.wait x,Z',⟨_,Z'⟩,pW,Z',X0 p _ _ 0 [] hp (q p hp)⟩
 | breaks x=>exact λp hp=>⟨p,.breaks x,Z',⟨_,Z'⟩,pW,Z',X0 p _ _ 0 [] hp (q p hp)⟩
def O2:Fq P w K mg base 1 a.l (IU a):=by
 refine fq G.l.toDG Fx (λr u=>⟨_,(pC (pH (pJ v0))),?_⟩)
 rintro ds M Q ⟨p,v,rfl,hp,q⟩
 exact pD hp (i' Z' ⟨M,.refl,q⟩)
def Q6:Fq P w K mg base 1 a.az Ie:=by
 refine fq G.az.toDG F4 (λr u=>⟨_,(pC (pH (pT (qp pF)))),?_⟩)
 rintro ds M Q ⟨p,rfl,q⟩
 exact⟨pz Z',M,.refl,q⟩
def LP:Fq P w K mg base 1 a.aA Ie:=by
 refine fq G.aA.toDG Dz (λr u=>⟨_,(pC (pH (pT (qp pF)))),?_⟩)
 rintro ds M Q ⟨p,rfl,q⟩
 exact⟨pz Z',M,.refl,q⟩
def vS:Fq P w K mg base 1 a.z Rt:=by
 refine fq G.z.toDG Aj (λr u=>⟨_,(pC (pH (pT (rZ pF (pJ v0))))),?_⟩)
 rintro ds M Q ⟨p,C,fs,y,rfl,hp,e,q⟩
 exact pD hp (i' e ⟨pz Z',M,.refl,q⟩)
def Na:Fq P w K mg base 1 a.aB RI:=by
 refine fq G.aB.toDG Do (λr u=>⟨_,(pC (pH (pT (rZ pF (pJ v0))))),?_⟩)
 rintro ds M Q ⟨p,C,fs,y,rfl,hp,e,q⟩
 exact pD hp (i' e ⟨pz Z',M,.refl,q⟩)
def Hz:Fq P w K mg base 1 a.aC Ls:=by
 refine fq G.aC.toDG Bd (λr u=>⟨_,(pC (pH (pT (qp pF)))),?_⟩)
 rintro ds M Q ⟨p,rfl,q⟩
 exact⟨pz Z',M,.refl,q⟩
def Tf:∀C sp,L6 a C sp->yr P w K mg base 1 "told" C (OD K sp):=by
 rintro C sp ⟨⟨v,rfl⟩,rfl⟩
 have F:=O2 (P:=P) (w:=w) (base:=base) G;cases v with
 | bar _ _=>exact⟨G.t.toCls,_,_,_,G.ct,F,G.l.b⟩
 | shut _ _=>exact⟨G.u.toCls,_,_,_,G.cu,F,G.l.b⟩
 | always _ _=>exact⟨G.x.toCls,_,_,_,G.cv,F,G.l.b⟩
 | night _ _ _ _=>exact⟨G.n.toCls,_,_,_,G.cw,F,G.l.b⟩
 | busy _ _=>exact⟨G.y.toCls,_,_,_,G.cx,F,G.l.b⟩
 | silent _ _ _=>exact⟨G.v.toCls,_,_,_,G.cy,F,G.l.b⟩
 | wait _=>exact⟨G.w.toCls,_,_,_,G.cz,F,G.l.b⟩
 | breaks _=>exact⟨G.o.toCls,_,_,_,G.cA,F,G.l.b⟩
def QU:∀C sp,JU a C sp->yr P w K mg base 1 "wants" C (OD K sp):=by
 rintro C sp (⟨rfl|rfl,rfl⟩|⟨rfl|rfl|rfl|rfl,rfl⟩|⟨rfl,rfl⟩|⟨rfl,rfl⟩)
 .exact⟨G.t.toCls,_,_,_,G.az.nj,Q6 G,G.az.b⟩
 .exact⟨G.u.toCls,_,_,_,G.aA.nj,LP G,G.aA.b⟩
 .exact⟨G.x.toCls,_,_,_,G.cB,vS G,G.z.b⟩
 .exact⟨G.n.toCls,_,_,_,G.cC,vS G,G.z.b⟩
 .exact⟨G.y.toCls,_,_,_,G.cD,vS G,G.z.b⟩
 .exact⟨G.v.toCls,_,_,_,G.cE,vS G,G.z.b⟩
 .exact⟨G.w.toCls,_,_,_,G.aB.nj,Na G,G.aB.b⟩
 .exact⟨G.o.toCls,_,_,_,G.aC.nj,Hz G,G.aC.b⟩
def uD(x:Str):Bool:=decide ((1:Int)<=x.length)&&(decide ((x.length:Int)<=6)&&x.cps.toList.all λc=>Dq ⟨#[c]⟩ uu)
def Iv:rq:=λds M Q=>∃x:Str,ds=[.str x]/\x.length<=1000/\Q (.bl (uD x)) M
def Kb:rq:=λds M Q=>∃w,ds=[.bl Db,w]/\Q .mK M
noncomputable def wZ(ss:QQQ):Bool:=((tP ss).length:Int)==(ss.length:Int)
def Tx(M:Mp)(x:D)(ss:QQQ):Prop:=x=.tup (ss.map D.str)\/∃a,x=.ref a/\og M a=ga (ss.map D.str)
def Li:rq:=λds M Q=>CP λx ss=>ds=[x]/\Tx M x ss/\ss.length<4000/\Q (.bl (wZ ss)) M
def zP{α:Type}(f:α->Bool)(l:List α):(l.map f).all id=l.all f:=by rw[mq];rfl
def sI(x:Str)(ss:QQQ):inD (.str x) (ss.map D.str)=ss.any (·==x):=by unfold inD;rw[ja];rfl
theorem qB:∀ss:QQQ,(ss.map D.str).all uX=Db
 | []=>rfl
 | _::r=>by rw[d4,fD,qB r];rfl
def sH(cs ks:QQQ)(m:Int):Bool:=decide ((1:Int)<=cs.length)&&(decide ((cs.length:Int)<=m)&&(wZ cs&&cs.all λc=>ks.any (·==c)))
def Kv:rq:=λds M Q=>Br λcs ks k m=>ds=[.tup (cs.map D.str),.ref k,.int m]/\og M k=ga (ks.map D.str)/\cs.length<4000/\Q (.bl (sH cs ks m)) M
def CS:Fq P w K mg base 1 a.ae Iv:=by
 refine fq G.ae.toDG H9 (λr u=>⟨_,(pC (pH (sW (uy u pE (pX qF Z' G.g qE (qp v0)) (sQ Z' G.cT)) (sL (pX (Fv Z') Z' G.bR E2 (qp (qO Z' (xQ (ix:=[Fa]) (N':=["sign"])) (qI v0) (qD 0) rS (qv u v0 (sQ Z' G.cU))))))))),?_⟩)
 rintro ds M Q ⟨x,rfl,hl,q⟩
 have hz:=dQ;refine⟨by lia,qQ (λh1=>?_) (λh1=>?_)⟩
 .refine qQ (λh2=>?_) (λh2=>?_)
  .refine rA (f:=λd=>match d with|.str z=>D.bl (Dq z uu)|_=>.mK) trivial _ [] _ ?_ (λd hd k hk=>?_) λp hp=>?_
   .rw[cY];have:x.cps.toList.length=x.length:=by simp[Str.length]
    simp only[dN];lia
   .obtain⟨c,_,rfl⟩:=dF.mp hd;exact hk
   .refine i' pK ?_;have e:([]++(x.cps.toList.map λc=>D.str ⟨#[c]⟩).map λd=>match d with|.str z=>D.bl (Dq z uu)|_=>.mK)=x.cps.toList.map λc=>D.bl (Dq ⟨#[c]⟩ uu):=by rw[eA,eh];rfl
    rw[e];refine i' (yu (λc=>Dq ⟨#[c]⟩ uu) x.cps.toList) ⟨M,.new hp,?_⟩;rw[zP];have:uD x=x.cps.toList.all λc=>Dq ⟨#[c]⟩ uu:=by unfold uD;rw[h1,h2];rfl
    rw[<-this];exact q
  .refine⟨M,.refl,?_⟩;have:uD x=pc:=by
    unfold uD;have h2:decide ((x.length:Int)<=6)=pc:=by simpa using h2
    rw[h2];simp
   rw[<-this];exact q
 .refine⟨M,.refl,?_⟩;have:uD x=pc:=by
   unfold uD;have h1:decide ((1:Int)<=x.length)=pc:=by simpa using h1
   rw[h1];rfl
  rw[<-this];exact q
def sU:Fq P w K mg base 1 a.m Kb:=by
 refine fq G.m.toDG PP (λr u=>⟨_,(pC (pU (vF (uB v0))
 (pC Gr)
 pP)),?_⟩)
 rintro ds M Q ⟨x,rfl,q⟩
 exact⟨M,.refl,q⟩
def DJ:Fq P w K mg base 1 a.af Li:=by
 refine fq G.af.toDG Du (λr u=>⟨_,(pC (pH (qv u (Kx Z' v0 Z' G.g Z' G.cK qE Tq) (pX qF Z' G.g qE (qp v0))))),?_⟩)
 rintro ds M Q ⟨x,ss,rfl,hx,hl,q⟩
 have key:((ss.map D.str).length:Int)=ss.length:=by rw[cY]
 rcases hx with rfl|⟨b,rfl,hb⟩
 .refine i' (L3.CA ss) ⟨hl,M,.refl,?_⟩;rw[key];exact q
 .refine i' hb (i' (L3.CA ss) ⟨hl,i' hb ⟨M,.refl,?_⟩⟩);rw[key];exact q
def Ao:Fq P w K mg base 2 a.P Kv:=by
 refine fq G.P.toDG ET (λr u=>⟨_,(pC (pH (sW (uy u pE (pX qF Z' G.g qE (qp v0)) U2) (sW (pO (DJ G) r G.af (qp v0)) (sL (pX (Fv Z') Z' G.bR E2 (qp (qO Z' (xQ (ix:=[Fa,ga 1]) (N':=["name","known"])) (qI v0) (qD 0) rS (qv u v0 U1))))))))),?_⟩)
 rintro ds M Q ⟨cs,ks,k,m,rfl,hk,hl,q⟩
 have hz:=dQ;have key:((cs.map D.str).length:Int)=cs.length:=by rw[cY]
 have end_:∀b:Bool,sH cs ks m=b->∃XZ,qG XZ M/\Q (.bl b) XZ:=λb e=>⟨M,.refl,e ▸ q⟩;refine qQ (λh1=>?_) (λh1=>?_)
 .have h1:decide ((1:Int)<=cs.length)=Db:=by rw[<-key];exact h1
  refine qQ (λh2=>?_) (λh2=>?_)
  .have h2:decide ((cs.length:Int)<=m)=Db:=by rw[<-key];exact h2
   refine⟨_,cs,Z',.inl Z',hl,qQ (λh3=>?_) (λh3=>?_)⟩
   .refine rA (f:=λd=>match d with|.str z=>D.bl (ks.any (·==z))|_=>.mK) trivial _ [] _ ?_ (λd hd k0 hk0=>?_) λp hp=>?_
    .rw[cY];simp only[dN];lia
    .obtain⟨c,_,rfl⟩:=dF.mp hd;refine i' hk ⟨Z',qB ks,?_⟩;show k0 (.bl (inD (.str c) (ks.map D.str))) M;rw[sI];exact hk0
    .refine i' pK ?_;have e:([]++(cs.map D.str).map λd=>match d with|.str z=>D.bl (ks.any (·==z))|_=>.mK)=cs.map λc=>D.bl (ks.any (·==c)):=by rw[eA,eh];rfl
     rw[e];refine i' (yu (λc=>ks.any (·==c)) cs) ⟨M,.new hp,?_⟩;rw[zP];have:sH cs ks m=cs.all λc=>ks.any (·==c):=by unfold sH;rw[h1,h2,h3];rfl
     rw[<-this];exact q
   .refine end_ _ ?_;unfold sH;have h3:wZ cs=pc:=by simpa using h3
    rw[h3];simp
  .refine end_ _ ?_;unfold sH;have h2:decide ((cs.length:Int)<=m)=pc:=by
    rw[<-key]
    simpa using h2
   rw[h2];simp
 .refine end_ _ ?_;unfold sH;have h1:decide ((1:Int)<=cs.length)=pc:=by
   rw[<-key]
   simpa using h1
  rw[h1];rfl
abbrev uM:=Str×Int×Int
abbrev ul:=Str×Str×QQQ
abbrev vD:=Bool×Wi
noncomputable def ra(p:uM):D:=.tup [.str p.1,.int p.2.1,.int p.2.2]
noncomputable def rk(g:ul):D:=.tup [.str g.1,.str g.2.1,names g.2.2]
noncomputable def vA(w:vD):D:=.tup [.bl w.1,.tup w.2.told]
structure FY(p:uM):Prop where
 len:p.1.length<=1000
 nm:uD p.1=Db
 l1:1<=p.2.1
 l2:p.2.1<=3
 r1:0<=p.2.2
 r2:p.2.2<=9
structure E5(pn:QQQ)(g:ul):Prop where
 len:g.1.length<=1000
 nm:uD g.1=Db
 man:g.2.1="all"\/g.2.1="turns"
 pz:g.2.2.length<4000
 mem:sH g.2.2 pn 4=Db
def yh(ss:QQQ)(x:Str):Prop:=ss.any (·==x)=Db
def Cy(pn nm:QQQ):Wi->Prop
 | .bar x ns=>yh pn x/\ns.length<4000/\sH ns nm 6=Db
 | .shut x ns=>yh nm x/\ns.length<4000/\sH ns pn 6=Db
 | .always x y=>yh nm x/\yh nm y/\x≠y
 | .night x y f l=>yh nm x/\yh nm y/\x≠y/\(0<=f/\f<=23)/\(0<=l/\l<=23)/\f≠l
 | .busy x y=>yh nm x/\yh nm y/\x≠y
 | .silent x y n=>yh nm x/\yh nm y/\x≠y/\1<=n/\n<=9
 | .wait x=>yh pn x
 | .breaks x=>yh pn x
inductive xX(pn nm:QQQ):Str->D->Prop
 | mZ (x:Str) (h:yh pn x):xX pn nm "phone" (.str x)
 | name (x:Str) (h:yh nm x):xX pn nm "name" (.str x)
 | mL (cs:QQQ) (l:cs.length<4000) (h:sH cs pn 6=Db):xX pn nm "phones" (names cs)
 | names (cs:QQQ) (l:cs.length<4000) (h:sH cs nm 6=Db):xX pn nm "names" (names cs)
 | hour (i:Int) (h0:0<=i) (h1:i<=23):xX pn nm "hour" (.int i)
 | turns (i:Int) (h0:1<=i) (h1:i<=9):xX pn nm "turns" (.int i)
def Jh:rq:=λds M Q=>Ki λk d pl nl (pn nm:QQQ)=>ds=[.str k,d,.ref pl,.ref nl]/\og M pl=ga (pn.map D.str)/\og M nl=ga (nm.map D.str)/\xX pn nm k d/\Q (.bl Db) M
def Bc:rq:=λds M Q=>CP λr (ps:List uM)=>ds=[.ref r]/\og M r=ga (ps.map ra)/\1<=ps.length/\ps.length<=8/\(∀p∈ps,FY p)/\Q .mK M
def Bi:rq:=λds M Q=>Br λr (gs:List ul) pl (pn:QQQ)=>ds=[.ref r,.ref pl]/\og M r=ga (gs.map rk)/\og M pl=ga (pn.map D.str)/\gs.length<=3/\(∀g∈gs,E5 pn g)/\Q .mK M
def Dx:rq:=λds M Q=>F9 λv pl nl (pn nm:QQQ)=>ds=[.tup (Wi.told v),.ref pl,.ref nl]/\og M pl=ga (pn.map D.str)/\og M nl=ga (nm.map D.str)/\Cy pn nm v/\Q .mK M
def AW:rq:=λds M Q=>Ki λr (ws:List vD) pl nl (pn nm:QQQ)=>ds=[.ref r,.ref pl,.ref nl]/\og M r=ga (ws.map vA)/\og M pl=ga (pn.map D.str)/\og M nl=ga (nm.map D.str)/\ws.length<=16/\(∀w∈ws,Cy pn nm w.2)/\Q .mK M
def Xv(h:yh ss x):inD (.str x) (ss.map D.str)=Db:=by rw[sI];exact h
def Qy:Fq P w K mg base 3 a.bg Jh:=by
 refine fq G.bg.toDG Di (λr u=>⟨_,(pB (pU (pL u v0 pF)
 (pC (pH (qv u U1 U2)))
 pP)
 (pB (pU (pL u v0 pF)
 (pC (pH (qv u U1 U3)))
 pP)
 (pB (pU (pL u v0 pF)
 (pC (pH (pO (Ao G) r G.P (rB U1 U2 (sQ Z' G.b6)))))
 pP)
 (pB (pU (pL u v0 pF)
 (pC (pH (pO (Ao G) r G.P (rB U1 U3 (sQ Z' G.b6)))))
 pP)
 (pB (pU (pL u v0 pF)
 (pC (pH (uy u pE U1 (sQ Z' G.cV))))
 pP)
 (pC (pH (uy u pE U1 (sQ Z' G.cW))))))))),?_⟩)
 rintro ds M Q ⟨k,d,pl,nl,pn,nm,rfl,hp,hn,ok,q⟩
 cases ok with
 | mZ x h=>refine i' hp ⟨Z',qB pn,M,.refl,?_⟩;show Q (.bl (inD (.str x) (pn.map D.str))) M;rw[Xv h];exact q
 | name x h=>refine i' hn ⟨Z',qB nm,M,.refl,?_⟩;show Q (.bl (inD (.str x) (nm.map D.str))) M;rw[Xv h];exact q
 | mL cs l h=>exact⟨cs,pn,pl,6,Z',hp,l,M,.refl,by rw[h];exact q⟩
 | names cs l h=>exact⟨cs,nm,nl,6,Z',hn,l,M,.refl,by rw[h];exact q⟩
 | hour i h0 h1=>refine yK (c:=decide (0<=i)) (dU h0) ⟨M,.refl,?_⟩;show Q (.bl (decide (i<=23))) M;rw[dU h1];exact q
 | turns i h0 h1=>refine yK (c:=decide (1<=i)) (dU h0) ⟨M,.refl,?_⟩;show Q (.bl (decide (i<=9))) M;rw[dU h1];exact q
def Be:Fq P w K mg base 2 a.be Bc:=by
 refine fq G.be.toDG ua (λr u=>⟨_,(pB (pR (pO (sU G) r G.m (rZ (uy u pE (pX qF Z' G.g qE (qp v0)) (sQ Z' G.cM)) pF)))
 (pC (tS eS Z' (qI v0) (vb (n:=3) Z' (qK (rY 1 ua) (qK (rY 2 ua) (qK (rY 3 ua) uc))))
 (pB (pR (pO (sU G) r G.m (rZ (pO (CS G) r G.ae (qp U1)) pF)))
 (pB (pR (pO (sU G) r G.m (rZ (uy u pE U2 (sQ Z' G.cN)) pF)))
 (pC (pR (pO (sU G) r G.m (rZ (uy u pE U3 (sQ Z' G.cO)) pF))))))))),?_⟩)
 rintro ds M Q ⟨r,ps,rfl,YD,h1,h8,mR,q⟩
 have el:((ps.map ra).length:Int)=ps.length:=by rw[cY]
 refine i' YD (yK (c:=decide ((1:Int)<=(ps.map ra).length)) (dU (by lia)) ⟨_,by rw[dU (show((ps.map ra).length:Int)<=8 by lia)],i' YD ?_⟩);refine Bt (λU M'=>M=M'/\∃x y z,U=[ga (.ref r),x,y,z]) (λU M' j=>by rw[<-j.1];exact YD) _ _ _ ⟨Z',Fa,Fa,Fa,Z'⟩ ?_ ?_
 .rintro d hd U M' ⟨rfl,x,y,z,rfl⟩ nx X2
  obtain⟨p,hp,rfl⟩:=dF.mp hd;have o:=mR p hp;refine⟨Z',⟨p.1,Z',o.len,_,by rw[o.nm],?_⟩⟩;refine yK (c:=decide ((1:Int)<=p.2.1)) (dU o.l1) ⟨_,by rw[dU (show p.2.1<=3 from o.l2)],?_⟩;refine yK (c:=decide ((0:Int)<=p.2.2)) (dU o.r1) ⟨_,by rw[dU (show p.2.2<=9 from o.r2)],?_⟩;exact X2 _ _ ⟨Z',_,_,_,Z'⟩
 .rintro U M' ⟨rfl,x,y,z,rfl⟩
  exact⟨M,.refl,q⟩
def Bg:Fq P w K mg base 3 a.bf Bi:=by
 refine fq G.bf.toDG ub (λr u=>⟨_,(pB (pR (pO (sU G) r G.m (rZ (qv u (pX qF Z' G.g qE (qp v0)) (sQ Z' G.cP)) pF)))
 (pC (tS eS Z' (qI v0) (vb (n:=3) Z' (qK (rY 2 ub) (qK (rY 3 ub) (qK (rY 4 ub) uc))))
 (pB (pR (pO (sU G) r G.m (rZ (pO (CS G) r G.ae (qp U2)) pF)))
 (pB (pR (pO (sU G) r G.m (rZ (qv u U3 (sQ Z' G.cQ)) pF)))
 (pC (pR (pO (sU G) r G.m (rZ (pO (Ao G) r G.P (rB v4 U1 (sQ Z' G.cR))) pF))))))))),?_⟩)
 rintro ds M Q ⟨r,gs,pl,pn,rfl,YD,hp,h3,mR,q⟩
 have el:((gs.map rk).length:Int)=gs.length:=by rw[cY]
 refine i' YD ⟨_,by rw[dU (show((gs.map rk).length:Int)<=3 by lia)],i' YD ?_⟩;refine Bt (λU M'=>M=M'/\∃x y z,U=[ga (.ref r),ga (.ref pl),x,y,z]) (λU M' j=>by rw[<-j.1];exact YD) _ _ _ ⟨Z',Fa,Fa,Fa,Z'⟩ ?_ ?_
 .rintro d hd U M' ⟨rfl,x,y,z,rfl⟩ nx X2
  obtain⟨g,hg,rfl⟩:=dF.mp hd;have o:=mR g hg;refine⟨Z',⟨g.1,Z',o.len,_,by rw[o.nm],?_⟩⟩;have hm:inD (.str g.2.1) [.str "all",.str "turns"]=Db:=by rcases o.man with e|e<;>(rw[e];rfl)
  refine⟨Z',Z',.str "a group's manner is all or turns",eC (λb=>[D.bl b,D.str "a group's manner is all or turns"]) hm,?_⟩;refine⟨g.2.2,pn,pl,4,Z',hp,o.pz,_,by rw[o.mem],?_⟩;exact X2 _ _ ⟨Z',_,_,_,Z'⟩
 .rintro U M' ⟨rfl,x,y,z,rfl⟩
  exact⟨M,.refl,q⟩
def Dm:Fq P w K mg base 4 a.bh Dx:=by
 refine fq G.bh.toDG tY (λr u=>⟨_,(pB (pR (pO (sU G) r G.m (rZ (L1 G.b5 Z' (pN v0 pE)) pF)))
 (pB (pQ 3 tY (KJ G.b5 Z' (pN v0 pE)))
 (pB (pQ 4 tY (sE v0 (tj pE) tz))
 (pB (pR (pO (sU G) r G.m (rZ (qv u (pX qF Z' G.g qE (qp v4)) (pX qF Z' G.g qE (qp U3))) pF)))
 (pB (tS eS Z' (Sn Z' G.bW (rZ U3 v4)) (vb (n:=2) Z' (qK (rY 5 tY) (qK (rY 6 tY) uc)))
 (pC (pR (pO (sU G) r G.m (rZ (pO (Qy G) r G.bg (qc v5 (rB v6 U1 U2))) pF)))))
 (pB (pU (pL u (sE U3 tz (tj pE)) (pT (rZ pF pF)))
 (pC (pR (pO (sU G) r G.m (rZ (qv u (pN v4 pE) (pN v4 pE)) pF))))
 pP)
 (pC (pU (pL u (sE U3 (tj pE) tz) (pT (rZ pF pF)))
 (pC (pR (pO (sU G) r G.m (rZ (qv u (pN v4 pE) (pN v4 pE)) pF))))
 pP)))))))),?_⟩)
 rintro ds M Q ⟨v,pl,nl,pn,nm,rfl,hp,hn,ok,q⟩
 have part:∀{k:Str} {d:D} {C:DK},xX pn nm k d->C (.bl Db) M->Jh [.str k,d,.ref pl,.ref nl] M C:=λo c=>⟨_,_,pl,nl,pn,nm,Z',hp,hn,o,c⟩;have need:∀{x:D} {C:DK},C .mK M->Kb [.bl Db,x] M C:=λc=>⟨_,Z',c⟩;have ne:∀{x y:Str},x≠y->(!(x==y))=Db:=λh=>by simpa using h
 have nei:∀{x y:Int},x≠y->(!(x==y))=Db:=λh=>by simpa using h
 have X0:∃XZ,qG XZ M/\Q .mK XZ:=⟨M,.refl,q⟩;cases v with
 | bar x ns=>obtain⟨h1,h2,h3⟩:=ok;refine⟨_,Z',_,Z',?_⟩;refine⟨Z',_,_,pl,nl,pn,nm,Z',hp,hn,.mZ x h1,_,Z',trivial,⟨Z',_,_,pl,nl,pn,nm,Z',hp,hn,.names ns h2 h3,_,Z',trivial,?_⟩⟩;exact⟨pz Z',pz Z',X0⟩
 | shut x ns=>obtain⟨h1,h2,h3⟩:=ok;refine⟨_,Z',_,Z',?_⟩;refine⟨Z',_,_,pl,nl,pn,nm,Z',hp,hn,.name x h1,_,Z',trivial,⟨Z',_,_,pl,nl,pn,nm,Z',hp,hn,.mL ns h2 h3,_,Z',trivial,?_⟩⟩;exact⟨pz Z',pz Z',X0⟩
 | always x y=>obtain⟨h1,h2,h3⟩:=ok;refine⟨_,Z',_,Z',?_⟩;refine⟨Z',_,_,pl,nl,pn,nm,Z',hp,hn,.name x h1,_,Z',trivial,⟨Z',_,_,pl,nl,pn,nm,Z',hp,hn,.name y h2,_,Z',trivial,?_⟩⟩;refine⟨pz Z',⟨_,by rw[ne h3],?_⟩⟩;exact⟨pz Z',X0⟩
 | night x y f l=>obtain⟨h1,h2,h3,h4,h5,h6⟩:=ok;refine⟨_,Z',_,Z',?_⟩;refine⟨Z',_,_,pl,nl,pn,nm,Z',hp,hn,.name x h1,_,Z',trivial,⟨Z',_,_,pl,nl,pn,nm,Z',hp,hn,.name y h2,_,Z',trivial,⟨Z',_,_,pl,nl,pn,nm,Z',hp,hn,.hour f h4.1 h4.2,_,Z',trivial,⟨Z',_,_,pl,nl,pn,nm,Z',hp,hn,.hour l h5.1 h5.2,_,Z',trivial,?_⟩⟩⟩⟩;refine⟨pz Z',⟨_,by rw[ne h3],?_⟩⟩;refine⟨pz Z',⟨_,by rw[nei h6],?_⟩⟩;exact X0
 | busy x y=>obtain⟨h1,h2,h3⟩:=ok;refine⟨_,Z',_,Z',?_⟩;refine⟨Z',_,_,pl,nl,pn,nm,Z',hp,hn,.name x h1,_,Z',trivial,⟨Z',_,_,pl,nl,pn,nm,Z',hp,hn,.name y h2,_,Z',trivial,?_⟩⟩;refine⟨pz Z',⟨_,by rw[ne h3],?_⟩⟩;exact⟨pz Z',X0⟩
 | silent x y n=>obtain⟨h1,h2,h3,h4,h5⟩:=ok;refine⟨_,Z',_,Z',?_⟩;refine⟨Z',_,_,pl,nl,pn,nm,Z',hp,hn,.name x h1,_,Z',trivial,⟨Z',_,_,pl,nl,pn,nm,Z',hp,hn,.name y h2,_,Z',trivial,⟨Z',_,_,pl,nl,pn,nm,Z',hp,hn,.turns n h4 h5,_,Z',trivial,?_⟩⟩⟩;refine⟨pz Z',⟨_,by rw[ne h3],?_⟩⟩;exact⟨pz Z',X0⟩
 | wait x=>refine⟨_,Z',_,Z',?_⟩;refine⟨Z',_,_,pl,nl,pn,nm,Z',hp,hn,.mZ x ok,_,Z',trivial,?_⟩;exact⟨pz Z',pz Z',X0⟩
 | breaks x=>refine⟨_,Z',_,Z',?_⟩;refine⟨Z',_,_,pl,nl,pn,nm,Z',hp,hn,.mZ x ok,_,Z',trivial,?_⟩;exact⟨pz Z',pz Z',X0⟩
def Bk:Fq P w K mg base 5 a.bi AW:=by
 refine fq G.bi.toDG vd (λr u=>⟨_,(pB (pR (pO (sU G) r G.m (rZ (qv u (pX qF Z' G.g qE (qp v0)) (sQ Z' G.cS)) pF)))
 (pC (tS eS Z' (qI v0) (vb (n:=2) Z' (qK (rY 3 vd) (qK (rY 4 vd) uc)))
 (pC (pR (pO (Dm G) r G.bh (rB v4 U1 U2))))))),?_⟩)
 rintro ds M Q ⟨r,ws,pl,nl,pn,nm,rfl,YD,hp,hn,h16,mR,q⟩
 have el:((ws.map vA).length:Int)=ws.length:=by rw[cY]
 refine i' YD ⟨_,by rw[dU (show((ws.map vA).length:Int)<=16 by lia)],i' YD ?_⟩;refine Bt (λU M'=>M=M'/\∃x y,U=[ga (.ref r),ga (.ref pl),ga (.ref nl),x,y]) (λU M' j=>by rw[<-j.1];exact YD) _ _ _ ⟨Z',Fa,Fa,Z'⟩ ?_ ?_
 .rintro d hd U M' ⟨rfl,x,y,rfl⟩ nx X2
  obtain⟨v,hv,rfl⟩:=dF.mp hd;exact⟨Z',⟨v.2,pl,nl,pn,nm,Z',hp,hn,mR v hv,X2 _ _ ⟨Z',_,_,Z'⟩⟩⟩
 .rintro U M' ⟨rfl,x,y,rfl⟩
  exact⟨M,.refl,q⟩
structure pM where
 mL:List uM
 groups:List ul
 mH:List vD
noncomputable def pM.pn(l:pM):QQQ:=l.mL.map (·.1)
noncomputable def pM.gn(l:pM):QQQ:=l.groups.map (·.1)
noncomputable def pM.nm(l:pM):QQQ:=l.pn++l.gn
structure rj(l:pM):Prop where
 p1:1<=l.mL.length
 p8:l.mL.length<=8
 po:∀p∈l.mL,FY p
 g3:l.groups.length<=3
 go:∀g∈l.groups,E5 l.pn g
 nd:l.nm.Nodup
 w16:l.mH.length<=16
 wo:∀w∈l.mH,Cy l.pn l.nm w.2
def El{ss:QQQ}(h:ss.Nodup):wZ ss=Db:=by unfold wZ;rw[IA ss h];simp
def Dt:rq:=λds M Q=>Br λr1 r2 r3 (l:pM)=>ds=[.ref r1,.ref r2,.ref r3]/\og M r1=ga (l.mL.map ra)/\og M r2=ga (l.groups.map rk)/\og M r3=ga (l.mH.map vA)/\rj l/\Q .mK M
noncomputable def Dc:D->D
 | .tup (x::_)=>x
 | _=>.mK
def zt(ps:List uM):(ps.map ra).map Dc=(ps.map (·.1)).map D.str:=by rw[eh,eh];rfl
def y8(ps:List ul):(ps.map rk).map Dc=(ps.map (·.1)).map D.str:=by rw[eh,eh];rfl
def Dl:Fq P w K mg base 6 a.bj Dt:=by
 refine fq G.bj.toDG wc (λr u=>⟨_,(pB (pR (pO (Be G) r G.be (qp v0)))
 (pB (ug (i:=3) wc.nd Z' (Or.inl Z') Z' (xQ (ix:=[Fa]) (N':=["phone"])) (qI v0) (qD 0) rS (pN v0 pE))
 (pB (pR (pO (Bg G) r G.bf (rZ U1 U3)))
 (pB (pQ 4 wc (qh U3 (qO Z' (xQ (ix:=[Fa]) (N':=["group"])) (qI U1) (qD 0) rS (pN v0 pE))))
 (pB (pR (pO (sU G) r G.m (rZ (pO (DJ G) r G.af (qp v4)) pF)))
 (pC (pR (pO (Bk G) r G.bi (rB U2 U3 v4))))))))),?_⟩)
 rintro ds M Q ⟨r1,r2,r3,l,rfl,h1,h2,h3,ok,q⟩
 have hz:=dQ;have l1:=ok.p8;have l2:=ok.g3;refine⟨r1,l.mL,Z',h1,ok.p1,ok.p8,ok.po,i' h1 ?_⟩;refine rA (f:=Dc) h1 _ [] _ (by rw[cY];simp only[dN];lia) (λd hd k hk=>?_) λp hp=>?_
 .obtain⟨x,_,rfl⟩:=dF.mp hd;exact hk
 rw[eA,zt];obtain⟨M1,e0,s1,lp⟩:=xI (ds:=(l.mL.map (·.1)).map D.str) hp;rw[<-e0];have lp:og M1 p=ga (l.pn.map D.str):=lp;refine⟨r2,l.groups,p,l.pn,Z',s1.lst h2,lp,ok.g3,ok.go,?_⟩;refine i' (s1.lst h2) (rA (f:=Dc) (s1.lst h2) _ [] _ (by rw[cY];simp only[dN];lia) (λd hd k hk=>?_) λp2 X4=>?_)
 .obtain⟨x,_,rfl⟩:=dF.mp hd;exact hk
 rw[eA,y8];have s2:=qG.new (c:=.lst ((l.groups.map (·.1)).map D.str)) X4;refine i' (s2.lst lp) (i' pK ⟨?_,λp3 Zy=>?_⟩)
 .rw[cY,cY,cY];show(l.mL.map (·.1)).length+_<=_;rw[cY];lia
 have en:l.pn.map D.str++(l.groups.map (·.1)).map D.str=l.nm.map D.str:=by unfold pM.nm;rw[dJ];rfl
 rw[en];have s3:=s2.trans (qG.new (c:=.lst (l.nm.map D.str)) Zy);have l3:=@pK (pI M1 p2 (.lst ((l.groups.map (·.1)).map D.str))) p3 (l.nm.map D.str);generalize pI (pI M1 p2 (.lst ((l.groups.map (·.1)).map D.str))) p3 (.lst (l.nm.map D.str))=M3 at s3 l3 ⊢;have ln:l.nm.length<4000:=by unfold pM.nm pM.pn pM.gn;rw[de,cY,cY];lia
 refine⟨_,l.nm,Z',.inr ⟨p3,Z',l3⟩,ln,_,by rw[El ok.nd],?_⟩;exact⟨r3,l.mH,p,p3,l.pn,l.nm,Z',s3.lst (s1.lst h3),s3.lst lp,l3,ok.w16,ok.wo,M,s1.trans s3,q⟩
noncomputable def Rg(ph gr ws on pr gd:Uf):T0 (Str×D):=[("phones",.ref ph),("groups",.ref gr),("wishes",.ref ws),("on",.ref on),("phone_rows",.ref pr),("group_rows",.ref gd)]
def RM(l:pM):T0 (qW×D):=l.mL.map λp=>(Sum.inr p.1,ra p)
def Ij(l:pM):T0 (qW×D):=l.groups.map λg=>(Sum.inr g.1,rk g)
def sP(a:Ad)(M:Mp)(rs:QXQ)(ws:List vD):Prop:=rs.length=ws.length/\∀(i:Nat) (r:Uf) (v:vD),rs[i]?=ga r->ws[i]?=ga v->M r=ga (.ins (v.2.cls a) v.2.nH)
def sY(a:Ad)(M:Mp)(p:Uf)(l:pM):Prop:=Ui λph gr ws on pr gd (rs:QXQ)=>M p=ga (.ins a.h (Rg ph gr ws on pr gd))/\og M ph=ga (l.mL.map ra)/\og M gr=ga (l.groups.map rk)/\
 og M ws=ga (rs.map D.ref)/\og M on=ga (l.mH.map λw=>D.bl w.1)/\xS M pr=ga (RM l)/\xS M gd=ga (Ij l)/\sP a M rs l.mH
def sP.keep{p:Uf}(h:sP a M rs ws)(k:qT p M M')(n:∀r∈rs,r≠p):sP a M' rs ws:=⟨h.1,λi r v e1 e2=>k r _ (n r (fj e1)) (h.2 i r v e1 e2)⟩
def sP.sub(h:sP a M rs ws)(k:qG M M'):sP a M' rs ws:=⟨h.1,λi r v e1 e2=>k r _ (h.2 i r v e1 e2)⟩
def sY.sub{p:Uf}(h:sY a M p l)(s:qG M M'):sY a M' p l:=by obtain⟨ph,gr,ws,on,pr,gd,rs,h1,h2,h3,h4,h5,h6,h7,h8⟩:=h;exact⟨ph,gr,ws,on,pr,gd,rs,s _ _ h1,s.lst h2,s.lst h3,s.lst h4,s.lst h5,s.dk h6,s.dk h7,h8.sub s⟩
def Q0(a:Ad):rq:=λds M Q=>F9 λp r1 r2 r3 (l:pM)=>ds=[.ref p,.ref r1,.ref r2,.ref r3]/\M p=ga (.ins a.h [])/\og M r1=ga (l.mL.map ra)/\og M r2=ga (l.groups.map rk)/\og M r3=ga (l.mH.map vA)/\rj l/\
 ∀M',qT p M M'->sY a M' p l->(∀XZ,(∀b c,(b=p\/M b=Fa)->M' b=ga c->XZ b=ga c)->sY a XZ p l)->Q .mK M'
def rO{p x:Uf}{c:vc}(k:qT p M N)(hp:N p=ga c)(h:N x=Fa):M x=Fa:=by
 cases e:M x with
 | none=>rfl
 | some d=>
  have n:x≠p:=λz=>by rw[z,hp]at h;cases h
  rw[k x d n e]at h;cases h
def w9{a:Uf}{es:T0 (qW×D)}(h:xS M a=ga es):M a=ga (.dk es):=by
 unfold xS at h;split at h
 .rename_i e;rw[e];cases h;rfl
 .cases h
theorem xg{α:Type}(f:α->Str)(g:α->D):∀l:List α,xt (l.map λx=>D.tup [.str (f x),g x])=ga (l.map λx=>(Sum.inr (f x),g x))
 | []=>rfl
 | x::r=>by show(xt (r.map λx=>D.tup [.str (f x),g x])).map ((Sum.inr (f x),g x)::·)=_;rw[xg f g r];rfl
def Kh{ss:QQQ}(h:ss.Nodup):(ss.map λx=>(Sum.inr x:qW)).Nodup:=by
 induction ss with
 | nil=>exact eI
 | cons x r ih=>obtain⟨h1,h2⟩:=dS.mp h;rw[d4];refine dS.mpr ⟨λz=>h1 ?_,ih h2⟩;obtain⟨y,hy,e⟩:=dF.mp z;cases e;exact hy
def zg{α:Type}{f:α->Str}{g:α->D}{l:List α}(h:(l.map f).Nodup):((l.map λx=>((Sum.inr (f x):qW),g x)).map (·.1)).Nodup:=by rw[eh];have:=Kh h;rw[eh]at this;exact this
def Bx(d:D):D:=.tup [Dc d,d]
noncomputable def Xo:D->D
 | .tup (x::_)=>x
 | _=>.mK
def SA(ws:List vD):(ws.map vA).map Xo=ws.map λw=>D.bl w.1:=by rw[eh];rfl
def Gx(ps:List uM):(ps.map ra).map Bx=ps.map λp=>D.tup [.str p.1,ra p]:=by rw[eh];rfl
def Hj(ps:List ul):(ps.map rk).map Bx=ps.map λp=>D.tup [.str p.1,rk p]:=by rw[eh];rfl
def sP.snoc{r:Uf}{v:vD}(h:sP a M rs ws)(n:M r=Fa):sP a (pI M r (.ins (v.2.cls a) v.2.nH)) (rs++[r]) (ws++[v]):=by
 refine⟨by rw[de,de,h.1];rfl,λi r' v' e1 e2=>?_⟩;by_cases hi:i<rs.length
 .rw[eV hi]at e1;rw[eV (by rw[<-h.1];exact hi)]at e2;have:=h.2 i r' v' e1 e2;rw[ud (BX this n)];exact this
 .have ZT:i=rs.length:=by have:=(c9.mp e1).1;rw[de,dI]at this;lia
  subst ZT;rw[eP (dv _)]at e1;rw[h.1,eP (dv _)]at e2;simp only[fY,iJ,jv]at e1 e2;subst e1 e2;exact pW
def Qt:Fq P w K mg base 7 a.ak (Q0 a):=by
 refine fq G.ak.toDG EC (λr u=>⟨_,(pB (pR (pO (Dl G) r G.bj (rB U1 U2 U3)))
 (pB (qm v0 (qw sJ Z' G.r sD (qp U1)))
 (pB (qm v0 (qw sJ Z' G.r sD (qp U2)))
 (pB (qm v0 (qO Z' (xQ (ix:=[Fa,Fa]) (N':=["on","wish"])) (qI U3) (vb (n:=2) Z' (qK (qD 0) (qK (qD 1) uc))) rS (pO (Iq G) r G.bd (qp U1))))
 (pB (qm v0 (qO Z' (xQ (ix:=[Fa,Fa]) (N':=["on","wish"])) (qI U3) (vb (n:=2) Z' (qK (qD 0) (qK (qD 1) uc))) rS v0))
 (pB (qm v0 (qw (FX Z') Z' G.bX EQ (qp (qO Z' (xQ (ix:=[Fa]) (N':=["phone"])) (qI U1) (qD 0) rS (pT (rZ (pN v0 pE) v0))))))
 (pC (qm v0 (qw (FX Z') Z' G.bX EQ (qp (qO Z' (xQ (ix:=[Fa]) (N':=["group"])) (qI U2) (qD 0) rS (pT (rZ (pN v0 pE) v0))))))))))))),?_⟩)
 rintro ds M Q ⟨p,r1,r2,r3,l,rfl,hp,h1,h2,h3,ok,q⟩
 have hz:=dQ;have l1:=ok.p8;have l2:=ok.g3;have l3:=ok.w16;refine⟨r1,r2,r3,l,Z',h1,h2,h3,ok,?_⟩;refine i' h1 λph hph=>?_;obtain⟨n1,e1,k1,c1,p1⟩:=tq (fs':=[("phones",.ref ph)]) (c:=.lst (l.mL.map ra)) hp hph;refine pD e1 ⟨(G.Y "phones" Z'),by show 0<1000;decide,?_⟩;show uE _ _ _ _ (pI (pI M ph (.lst (l.mL.map ra))) p (.ins a.h [("phones",.ref ph)]));generalize pI (pI M ph (.lst (l.mL.map ra))) p (.ins a.h [("phones",.ref ph)])=N1 at k1 c1 p1 ⊢;have YC:=k1.lst (pZ h1 hp) h1;have h2':=k1.lst (pZ h2 hp) h2;have h3':=k1.lst (pZ h3 hp) h3;have f1:og N1 ph=ga (l.mL.map ra):=sX c1;refine i' h2' λgr hgr=>?_;obtain⟨n2,e2,k2,c2,p2⟩:=tq (fs':=[("phones",.ref ph),("groups",.ref gr)]) (c:=.lst (l.groups.map rk)) p1 hgr;refine pD e2 ⟨(G.Y "groups" Z'),by show 1<1000;decide,?_⟩;show uE _ _ _ _ (pI (pI N1 gr (.lst (l.groups.map rk))) p (.ins a.h [("phones",.ref ph),("groups",.ref gr)]));generalize pI (pI N1 gr (.lst (l.groups.map rk))) p (.ins a.h [("phones",.ref ph),("groups",.ref gr)])=N2 at k2 c2 p2 ⊢;have g1:=k2.lst (pZ YC p1) YC;have g2:=k2.lst (pZ h2' p1) h2';have g3:=k2.lst (pZ h3' p1) h3';have f2:=k2.lst (pZ f1 p1) f1;have f3:og N2 gr=ga (l.groups.map rk):=sX c2;have kk2:=k1.trans k2;have m2:M gr=Fa:=rO k1 p1 hgr;clear YC h2' h3' f1 c1 c2 k1 k2 e1 e2;refine i' g3 ?_;refine yt (l.mH.map vA) (λpre acc U Mx=>(∃x y,U=[x,y])/\qG N2 Mx/\∃rs:QXQ,acc=rs.map D.ref/\(∀r∈rs,N2 r=Fa)/\sP a Mx rs (l.mH.take pre.length)) (λpre acc U Mx j=>j.2.1.lst g3) _ [] [] _ _ Z' (by rw[cY];simp only[dN];lia) ⟨⟨Fa,Fa,Z'⟩,.refl,[],Z',λr hr=>absurd hr (dY),Z',λi r v e=>by simp at e⟩ ?_ ?_
 .rintro pre d post e acc U Mx ⟨⟨x,y,rfl⟩,sx,rs,rfl,fr,wa⟩ k hk
  obtain⟨v,hv,rfl⟩:∃v,l.mH[pre.length]?=ga v/\d=vA v:=by
   have:(l.mH.map vA)[pre.length]?=ga d:=by rw[<-e];simp
   rw[dE]at this;cases z:l.mH[pre.length]? with
   | none=>rw[z]at this;cases this
   | some v=>rw[z]at this;exact⟨v,Z',(dw this).symm⟩
  refine⟨Z',⟨v.2,Z',λr hr=>hk _ _ _ ⟨⟨_,_,Z'⟩,sx.trans (.new hr),rs++[r],?_,λr' hr'=>?_,?_⟩⟩⟩
  .rw[dJ];rfl
  .rcases dX.mp hr' with z|z
   .exact fr r' z
   .rw[dz.mp z];exact sx.none hr
  .rw[de,dI,fL,hv];exact wa.snoc hr
 rintro acc U Mx ⟨⟨x,y,rfl⟩,sx,rs,rfl,fr,wa⟩ ws hws
 have wa:sP a Mx rs l.mH:=by rw[cY,fK]at wa;exact wa
 obtain⟨n3,e3,k3,c3,p3⟩:=tq (fs':=[("phones",.ref ph),("groups",.ref gr),("wishes",.ref ws)]) (c:=.lst (rs.map D.ref)) (sx _ _ p2) hws;refine pD e3 ⟨(G.Y "wishes" Z'),by show 2<1000;decide,?_⟩;show uE _ _ _ _ (pI (pI Mx ws (.lst (rs.map D.ref))) p (.ins a.h [("phones",.ref ph),("groups",.ref gr),("wishes",.ref ws)]));generalize pI (pI Mx ws (.lst (rs.map D.ref))) p (.ins a.h [("phones",.ref ph),("groups",.ref gr),("wishes",.ref ws)])=N3 at k3 c3 p3 ⊢;have px:=sx _ _ p2;have i1:=k3.lst (pZ (sx.lst g1) px) (sx.lst g1);have i2:=k3.lst (pZ (sx.lst g2) px) (sx.lst g2);have i3:=k3.lst (pZ (sx.lst g3) px) (sx.lst g3);have f4:=k3.lst (pZ (sx.lst f2) px) (sx.lst f2);have f5:=k3.lst (pZ (sx.lst f3) px) (sx.lst f3);have f6:og N3 ws=ga (rs.map D.ref):=sX c3;have rp:∀r∈rs,r≠p:=λr hr z=>by have:=fr r hr;rw[z,p2]at this;cases this
 have w3:=wa.keep k3 rp;have kk3:=(kk2.trans sx.keep).trans k3;have m3:M ws=Fa:=rO (kk2.trans sx.keep) px hws;have mr:∀r∈rs,M r=Fa:=λr hr=>rO kk2 p2 (fr r hr);clear g1 g2 g3 f2 f3 c3 k3 e3 wa px kk2;refine i' i3 (CZ (f:=Xo) (λU=>∃x y,U=[x,y]) i3 _ [] _ ⟨Fa,Fa,Z'⟩ (by rw[cY];simp only[dN];lia) (λd hd U hj k hk=>?_) λon hon=>?_)
 .obtain⟨x,y,rfl⟩:=hj;obtain⟨v,_,rfl⟩:=dF.mp hd;exact⟨Z',hk _ ⟨_,_,Z'⟩⟩
 rw[eA,SA];obtain⟨n4,e4,k4,c4,p4⟩:=tq (fs':=[("phones",.ref ph),("groups",.ref gr),("wishes",.ref ws),("on",.ref on)]) (c:=.lst (l.mH.map λw=>D.bl w.1)) p3 hon;refine pD e4 ⟨(G.Y "on" Z'),by show 3<1000;decide,?_⟩;show uE _ _ _ _ (pI (pI N3 on (.lst (l.mH.map λw=>D.bl w.1))) p (.ins a.h [("phones",.ref ph),("groups",.ref gr),("wishes",.ref ws),("on",.ref on)]));generalize pI (pI N3 on (.lst (l.mH.map λw=>D.bl w.1))) p (.ins a.h [("phones",.ref ph),("groups",.ref gr),("wishes",.ref ws),("on",.ref on)])=N4 at k4 c4 p4 ⊢;have j1:=k4.lst (pZ i1 p3) i1;have j2:=k4.lst (pZ i2 p3) i2;have f7:=k4.lst (pZ f4 p3) f4;have f8:=k4.lst (pZ f5 p3) f5;have f9:=k4.lst (pZ f6 p3) f6;have fa:og N4 on=ga (l.mH.map λw=>D.bl w.1):=sX c4;have w4:=w3.keep k4 rp;have ZX:=kk3.trans k4;have m4:M on=Fa:=rO kk3 p3 hon;clear i1 i2 i3 f4 f5 f6 c4 k4 e4 w3 kk3;refine i' j1 (rA (f:=Bx) j1 _ [] _ (by rw[cY];simp only[dN];lia) (λd hd k hk=>?_) λq1 YQ=>?_)
 .obtain⟨v,_,rfl⟩:=dF.mp hd;exact⟨pz Z',hk⟩
 rw[eA,Gx];have sq1:=qG.new (c:=.lst (l.mL.map λp=>D.tup [.str p.1,ra p])) YQ;refine i' pK (i' (xg (λp:uM=>p.1) ra l.mL) ⟨zg (iG (List.sublist_append_left _ _) ok.nd),λpr hpr=>?_⟩);obtain⟨n5,e5,k5,c5,p5⟩:=tq (fs':=[("phones",.ref ph),("groups",.ref gr),("wishes",.ref ws),("on",.ref on),("phone_rows",.ref pr)]) (c:=.dk (l.mL.map λx=>(Sum.inr x.1,ra x))) (sq1 _ _ p4) hpr;refine pD e5 ⟨(G.Y "phone_rows" Z'),by show 4<1000;decide,?_⟩;have k5:=sq1.keep.trans k5;have ZL:wj "phone_rows" (.ref pr) [("phones",.ref ph),("groups",.ref gr),("wishes",.ref ws),("on",.ref on)]=([("phones",.ref ph),("groups",.ref gr),("wishes",.ref ws),("on",.ref on),("phone_rows",.ref pr)]:T0 (Str×D)):=rfl;rw[ZL];generalize pI (pI (pI N4 q1 (.lst (l.mL.map λp=>D.tup [.str p.1,ra p]))) pr (.dk (l.mL.map λx=>(Sum.inr x.1,ra x)))) p (.ins a.h [("phones",.ref ph),("groups",.ref gr),("wishes",.ref ws),("on",.ref on),("phone_rows",.ref pr)])=N5 at k5 c5 p5 ⊢;have mm:=k5.lst (pZ j2 p4) j2;have fb:=k5.lst (pZ f7 p4) f7;have fc:=k5.lst (pZ f8 p4) f8;have fd:=k5.lst (pZ f9 p4) f9;have fe:=k5.lst (pZ fa p4) fa;have ff:xS N5 pr=ga (RM l):=DS c5;have w5:=w4.keep k5 rp;have ZY:=ZX.trans k5;have m5:M pr=Fa:=rO (ZX.trans sq1.keep) (sq1 _ _ p4) hpr;clear j1 j2 f7 f8 f9 fa c5 k5 e5 w4 ZX;refine i' mm (rA (f:=Bx) mm _ [] _ (by rw[cY];simp only[dN];lia) (λd hd k hk=>?_) λq2 ZM=>?_)
 .obtain⟨v,_,rfl⟩:=dF.mp hd;exact⟨pz Z',hk⟩
 rw[eA,Hj];have sq2:=qG.new (c:=.lst (l.groups.map λg=>D.tup [.str g.1,rk g])) ZM;refine i' pK (i' (xg (λp:ul=>p.1) rk l.groups) ⟨zg (iG (jy _ _) ok.nd),λgd hgd=>?_⟩);obtain⟨n6,e6,k6,c6,p6⟩:=tq (fs':=Rg ph gr ws on pr gd) (c:=.dk (Ij l)) (sq2 _ _ p5) hgd;have k6:=sq2.keep.trans k6;refine pD e6 ⟨(G.Y "group_rows" Z'),by show 5<1000;decide,_,.refl,?_⟩;have m6:M gd=Fa:=rO (ZY.trans sq2.keep) (sq2 _ _ p5) hgd;have w6:=w5.keep k6 rp;have y1:=k6.lst (pZ fb p5) fb;have y2:=k6.lst (pZ fc p5) fc;have y3:=k6.lst (pZ fd p5) fd;have y4:=k6.lst (pZ fe p5) fe;have y5:=k6.dk (Cg ff p5) ff;refine q _ (ZY.trans k6) ⟨ph,gr,ws,on,pr,gd,rs,p6,y1,y2,y3,y4,y5,DS c6,w6⟩ λXZ hs=>?_;exact⟨ph,gr,ws,on,pr,gd,rs,hs _ _ (.inl Z') p6,sX (hs _ _ (.inr hph) (pY y1)),sX (hs _ _ (.inr m2) (pY y2)),sX (hs _ _ (.inr m3) (pY y3)),sX (hs _ _ (.inr m4) (pY y4)),DS (hs _ _ (.inr m5) (w9 y5)),DS (hs _ _ (.inr m6) c6),w6.1,λi r v e1 e2=>hs _ _ (.inr (mr r (fj e1))) (w6.2 i r v e1 e2)⟩
theorem yF{α:Type}(f:α->Str)(g:α->D)(k:Str):∀l:List α,tD (l.map λx=>((Sum.inr (f x):qW),g x)) (Sum.inr k)=(l.find? λx=>decide (f x=k)).map g
 | []=>rfl
 | x::r=>by
  have ih:=yF f g k r;unfold tD at ih ⊢;rw[d4,fh,fh];by_cases h:f x=k
  .have h':decide ((Sum.inr (f x):qW)=Sum.inr k)=Db:=dU (by rw[h]);simp[h]
  .have h':¬(Sum.inr (f x):qW)=Sum.inr k:=λz=>h (j3 z);simp only[h,h',decide_false];exact ih
noncomputable def pM.mZ(l:pM)(x:Str):Option uM:=l.mL.find? λp=>decide (p.1=x)
noncomputable def pM.group(l:pM)(x:Str):Option ul:=l.groups.find? λg=>decide (g.1=x)
noncomputable def pM.mF(l:pM)(x:Str):QQQ:=(l.group x).elim [x] λg=>g.2.2
noncomputable def pM.mP(l:pM)(x:Str):Str:=(l.group x).elim "one" λg=>g.2.1
def GY(l:pM)(x:Str):tD (RM l) (Sum.inr x)=(l.mZ x).map ra:=yF (λp:uM=>p.1) ra x l.mL
def wY(l:pM)(x:Str):tD (Ij l) (Sum.inr x)=(l.group x).map rk:=yF (λp:ul=>p.1) rk x l.groups
def zi(a:Ad):rq:=λds M Q=>CP λp (l:pM)=>ds=[.ref p]/\sY a M p l/\l.mL.length<=100/\∀q,M q=Fa->Q (.ref q) (pI M q (.lst (l.pn.map D.str)))
def EM(a:Ad):rq:=λds M Q=>CP λp (l:pM)=>ds=[.ref p]/\sY a M p l/\l.mL.length<=100/\l.groups.length<=100/\∀q,M q=Fa->Q (.ref q) (pI M q (.lst (l.nm.map D.str)))
def E8(a:Ad):rq:=λds M Q=>Br λp x v (l:pM)=>ds=[.ref p,.str x]/\sY a M p l/\l.mZ x=ga v/\Q (.int v.2.1) M
def Gf(a:Ad):rq:=λds M Q=>Br λp x v (l:pM)=>ds=[.ref p,.str x]/\sY a M p l/\l.mZ x=ga v/\Q (.int v.2.2) M
def Ag(a:Ad):rq:=λds M Q=>C5 λp x (l:pM)=>ds=[.ref p,.str x]/\sY a M p l/\∀q,M q=Fa->Q (.ref q) (pI M q (.lst ((l.mF x).map D.str)))
def Dn(a:Ad):rq:=λds M Q=>C5 λp x (l:pM)=>ds=[.ref p,.str x]/\sY a M p l/\Q (.str (l.mP x)) M
def sG:Fq P w K mg base 1 a.L (zi a):=by
 refine fq G.L.toDG yH (λr u=>⟨_,(pC (pH (qO Z' (xQ (ix:=[Fa]) (N':=["phone"])) (qI (pJ v0)) (qD 0) rS (pN v0 pE)))),?_⟩)
 rintro ds M Q ⟨p,l,rfl,hp,hl,q⟩
 have hz:=dQ;obtain⟨ph,gr,ws,on,pr,gd,rs,h1,h2,h3,h4,h5,h6,h7,h8⟩:=hp;refine pD h1 (i' Z' (i' h2 ?_));refine rA (f:=Dc) h2 _ [] _ (by rw[cY];simp only[dN];lia) (λd hd k hk=>?_) λq1 YQ=>?_
 .obtain⟨x,_,rfl⟩:=dF.mp hd;exact hk
 rw[eA,zt];exact⟨_,.refl,q q1 YQ⟩
def yQ:Fq P w K mg base 2 a.al (EM a):=by
 refine fq G.al.toDG Dd (λr u=>⟨_,(pC (pH (qh (vN v0 G.h.toCls G.L (sG G) r) (qO Z' (xQ (ix:=[Fa]) (N':=["group"])) (qI (pJ v0)) (qD 0) rS (pN v0 pE))))),?_⟩)
 rintro ds M Q ⟨p,l,rfl,hp,hl,hl2,q⟩
 have hz:=dQ;have Yb:=hp;obtain⟨ph,gr,ws,on,pr,gd,rs,h1,h2,h3,h4,h5,h6,h7,h8⟩:=hp;refine pD h1 ⟨Z',_,⟨Z',Z'⟩,p,l,Z',Yb,hl,λq1 YQ=>?_⟩;obtain⟨M1,e0,s1,e1⟩:=xI (ds:=l.pn.map D.str) YQ;rw[<-e0];have h3':=s1.lst h3;refine pD (s1 _ _ h1) (i' Z' (i' h3' ?_));refine rA (f:=Dc) h3' _ [] _ (by rw[cY];simp only[dN];lia) (λd hd k hk=>?_) λq2 ZM=>?_
 .obtain⟨x,_,rfl⟩:=dF.mp hd;exact hk
 rw[eA,y8];have s2:=qG.new (c:=.lst ((l.groups.map (·.1)).map D.str)) ZM;refine i' (s2.lst e1) (i' pK ⟨?_,λq3 hq3=>?_⟩)
 .rw[cY,cY,cY];show(l.mL.map (·.1)).length+_<=_;rw[cY];lia
 have en:l.pn.map D.str++(l.groups.map (·.1)).map D.str=l.nm.map D.str:=by unfold pM.nm;rw[dJ];rfl
 rw[en];exact⟨_,(s1.trans s2).upd,q q3 ((s1.trans s2).none hq3)⟩
def Dk:Fq P w K mg base 1 a.bH (E8 a):=by
 refine fq G.bH.toDG Dw (λr u=>⟨_,(pC (pH (pN (zX u (pJ v0) U1) pE))),?_⟩)
 rintro ds M Q ⟨p,x,v,l,rfl,hp,hv,q⟩
 obtain⟨ph,gr,ws,on,pr,gd,rs,h1,h2,h3,h4,h5,h6,h7,h8⟩:=hp;exact pD h1 (i' Z' (i' Z' (i' h6 (i' (x:=ra v) (by rw[GY,hv];rfl) ⟨M,.refl,q⟩))))
def zD:Fq P w K mg base 1 a.aN (Gf a):=by
 refine fq G.aN.toDG FN (λr u=>⟨_,(pC (pH (pN (zX u (pJ v0) U1) pE))),?_⟩)
 rintro ds M Q ⟨p,x,v,l,rfl,hp,hv,q⟩
 obtain⟨ph,gr,ws,on,pr,gd,rs,h1,h2,h3,h4,h5,h6,h7,h8⟩:=hp;exact pD h1 (i' Z' (i' Z' (i' h6 (i' (x:=ra v) (by rw[GY,hv];rfl) ⟨M,.refl,q⟩))))
def uA:Fq P w K mg base 1 a.V (Ag a):=by
 refine fq G.V.toDG zL (λr u=>⟨_,(pB (pU (NO u U1 (pJ v0))
 (pC (pH (qw sJ Z' G.r sD (qp (pN (zX u (pJ v0) U1) pE)))))
 pP)
 (pC (pH (qP (qp U1))))),?_⟩)
 rintro ds M Q ⟨p,x,l,rfl,hp,q⟩
 obtain⟨ph,gr,ws,on,pr,gd,rs,h1,h2,h3,h4,h5,h6,h7,h8⟩:=hp;refine pD h1 (i' Z' (i' h7 ?_));cases e:l.group x with
 | none=>refine EU (c:=(tD (Ij l) (Sum.inr x)).isSome) (by rw[wY,e];rfl) ⟨pz Z',λq1 YQ=>⟨_,.refl,?_⟩⟩;have:=q q1 YQ;unfold pM.mF at this;rw[e]at this;exact this
 | some g=>refine yK (c:=(tD (Ij l) (Sum.inr x)).isSome) (by rw[wY,e];rfl) (pD h1 (i' Z' (i' Z' (i' h7 (i' (x:=rk g) (by rw[wY,e];rfl) λq1 YQ=>⟨_,.refl,?_⟩)))));have:=q q1 YQ;unfold pM.mF at this;rw[e]at this;exact this
def xV:Fq P w K mg base 1 a.aL (Dn a):=by
 refine fq G.aL.toDG Cv (λr u=>⟨_,(pB (pU (NO u U1 (pJ v0))
 (pC (pH (pN (zX u (pJ v0) U1) pE)))
 pP)
 (pC (pH pF))),?_⟩)
 rintro ds M Q ⟨p,x,l,rfl,hp,q⟩
 obtain⟨ph,gr,ws,on,pr,gd,rs,h1,h2,h3,h4,h5,h6,h7,h8⟩:=hp;refine pD h1 (i' Z' (i' h7 ?_));cases e:l.group x with
 | none=>refine EU (c:=(tD (Ij l) (Sum.inr x)).isSome) (by rw[wY,e];rfl) ⟨M,.refl,?_⟩;unfold pM.mP at q;rw[e]at q;exact q
 | some g=>refine yK (c:=(tD (Ij l) (Sum.inr x)).isSome) (by rw[wY,e];rfl) (pD h1 (i' Z' (i' Z' (i' h7 (i' (x:=rk g) (by rw[wY,e];rfl) ⟨M,.refl,?_⟩)))));unfold pM.mP at q;rw[e]at q;exact q
noncomputable def O6:T0 Int:=[1,1,2,2,3]
noncomputable def Q8:T0 Int:=[0,1,1,2,5,9]
noncomputable def Qm:QQQ:=["all","turns"]
noncomputable def Hg(t:T0 Int)(i:Int):Int:=t.getD i.toNat 0
def we(s:Int)(i:Nat):uM:=(xZ s (0+(i:Nat)),Hg O6 (qz (s+17*(0+(i:Nat))*(0+(i:Nat))) 16807 5),Hg Q8 (qz (s+17*(0+(i:Nat))*(0+(i:Nat))) 39373 6))
def r6(s m:Int):Nat:=(2+qz s 48271 (m - 1)).toNat
def qH(s m:Int):List uM:=(List.range (r6 s m)).map (we s)
def Am(s:Int)(own:QQQ)(i:Nat):ul:=(xZ s (8+(0+(i:Nat))),CT Qm (qz (s+5*(0+(i:Nat))) 742938285 2),vM own (s+11*(0+(i:Nat))) 4)
def vP(s:Int):Nat:=(qz s 69621 3).toNat
def rn(s:Int)(own:QQQ):List ul:=(List.range (vP s)).map (Am s own)
def He{ts:T0 Int}{i:Int}(h0:0<=i)(h1:i<ts.length):wu (ts.map D.int) i=ga (D.int (Hg ts i)):=by
 obtain⟨n,rfl⟩:=eD h0;have ZQ:n<ts.length:=by lia
 refine uT ?_;rw[dE,df ZQ];simp[Hg,ZQ]
def CJ{pre post:T0 D}{d:D}(e:pre++d::post=(List.range n).map λi=>D.int (0+(i:Nat))):d=.int (0+(pre.length:Nat))/\pre.length<n:=by
 have h:((List.range n).map λi=>D.int (0+(i:Nat)))[pre.length]?=ga d:=by rw[<-e];simp
 have hl:pre.length<n:=by
  have:=(c9.mp h).1
  simpa using this
 rw[dE,jf hl]at h;exact⟨(dw h).symm,hl⟩
def BI{α β:Type}(f:Nat->α)(g:α->β)(n:Nat):((List.range n).map f).map g++[g (f n)]=((List.range (n+1)).map f).map g:=by rw[jZ,dJ,dJ];rfl
def HR:rq:=λds M Q=>CP λs m=>ds=[.int s,.int m]/\2<=m/\m<=100/\∀q,M q=Fa->Q (.ref q) (pI M q (.lst ((qH s m).map ra)))
def Ic:rq:=λds M Q=>C5 λs o own=>ds=[.int s,.ref o]/\og M o=ga (own.map D.str)/\own≠[]/\own.length<=64/\∀q,M q=Fa->Q (.ref q) (pI M q (.lst ((rn s own).map rk)))
def zb{s m:Int}(h2:2<=m)(h:m<=100):r6 s m<=100/\2<=r6 s m:=by have d0:=rb (c:=s) (f:=48271) (m:=m - 1) (by lia);have d1:=qU (c:=s) (f:=48271) (m:=m - 1) (by lia);unfold r6;lia
def xm{s:Int}:vP s<=3:=by have d0:=rb (c:=s) (f:=69621) (m:=3) (by decide);have d1:=qU (c:=s) (f:=69621) (m:=3) (by decide);unfold vP;lia
def HK:Fq P w K mg base 2 a.bk HR:=by
 refine fq G.bk.toDG uP (λr u=>⟨_,(pB (pQ 2 uP (qP sd))
 (pB (tS eS Z' (wA Z' G.Z (qp (qh pE (pO (qR G) r G.i (rB v0 pE (qh U1 pE)))))) (rY 3 uP)
 (pB (pQ 4 uP (pN (pT (qc pE (qc pE (rB pE pE pE)))) (pO (qR G) r G.i (rB (qh v0 (qh (qh pE U3) U3)) pE pE))))
 (pC (pR (qL U2 (qp (pT (rB (pO (JF G) r G.ag (rZ v0 U3)) v4 (pN (pT (qc pE (qc pE (qc pE (rB pE pE pE))))) (pO (qR G) r G.i (rB (qh v0 (qh (qh pE U3) U3)) pE pE)))))))))))
 (pC (pH U2)))),?_⟩)
 rintro ds M Q ⟨s,m,rfl,h2,h100,q⟩
 have hz:=dQ;have d0:=rb (c:=s) (f:=48271) (m:=m - 1) (by lia);have d1:=qU (c:=s) (f:=48271) (m:=m - 1) (by lia);have nl:=(zb (s:=s) h2 h100).1;refine⟨pz Z',λr hr=>⟨s,_,_,Z',by show 0<m - 1;lia,Z',⟨?_,?_⟩,?_⟩⟩
 .show -(2 ^ 62)<=2+qz s 48271 (m - 1);lia
 .show 2+qz s 48271 (m - 1)<2 ^ 62;lia
 refine uL ((List.range (r6 s m)).map λi=>D.int (0+(i:Nat))) (λpre U M'=>M'=pI M r (.lst (((List.range pre.length).map (we s)).map ra))/\∃x y,U=[ga (.int s),ga (.int m),ga (.ref r),x,y]) (λ_ _ _ _=>trivial) _ [] _ _ Z' ⟨Z',Fa,Fa,Z'⟩ ?_ ?_
 .rintro pre d post e U M' ⟨rfl,x,y,rfl⟩ nx X2
  obtain⟨rfl,Yc⟩:=CJ e;generalize hi:pre.length=i at Yc X2 ⊢;have cm:C7 (17*(0+(i:Int))) (0+(i:Int)):=.inr ⟨by lia,by lia⟩;have c17:C7 17 (0+(i:Int)):=.inl ⟨by decide,by decide⟩;have t5:wu [D.int 1,.int 1,.int 2,.int 2,.int 3] (qz (s+17*(0+(i:Int))*(0+(i:Int))) 16807 5)=ga (.int (we s i).2.1):=He (ts:=O6) (rb (by decide)) (qU (by decide));have t6:wu [D.int 0,.int 1,.int 1,.int 2,.int 5,.int 9] (qz (s+17*(0+(i:Int))*(0+(i:Int))) 39373 6)=ga (.int (we s i).2.2):=He (ts:=Q8) (rb (by decide)) (qU (by decide));refine⟨pz Z',c17,cm,_,_,_,Z',by decide,i' t5 ?_⟩;refine⟨by show(og _ r).isSome=Db;rw[pK];rfl,s,_,Z',pz Z',c17,cm,_,_,_,Z',by decide,i' t6 ⟨pz Z',i' pK ⟨?_,?_⟩⟩⟩
  .rw[cY,cY,eL];lia
  .refine X2 _ _ ⟨?_,_,_,Z'⟩;rw[rQ,de,hi];show pI M r (.lst (_++[ra (we s i)]))=_;rw[BI];rfl
 .rintro U M' ⟨rfl,x,y,rfl⟩
  refine⟨_,.refl,?_⟩;rw[cY,eL];exact q r hr
def Hy:Fq P w K mg base 3 a.bl Ic:=by
 refine fq G.bl.toDG uR (λr u=>⟨_,(pB (pQ 2 uR (qP sd))
 (pB (tS eS Z' (wA Z' G.Z (qp (pO (qR G) r G.i (rB v0 pE pE)))) (rY 3 uR)
 (pB (pQ 4 uR (pN (pT (rZ pF pF)) (pO (qR G) r G.i (rB (qh v0 (qh pE U3)) pE pE))))
 (pC (pR (qL U2 (qp (pT (rB (pO (JF G) r G.ag (rZ v0 (qh pE U3))) v4 (pO (yD G) r G.Q (rB U1 (qh v0 (qh pE U3)) pE))))))))))
 (pC (pH U2)))),?_⟩)
 rintro ds M Q ⟨s,o,own,rfl,ho,Yk,h64,q⟩
 have hz:=dQ;have d0:=rb (c:=s) (f:=69621) (m:=3) (by decide);have d1:=qU (c:=s) (f:=69621) (m:=3) (by decide);have nl:=xm (s:=s);refine⟨pz Z',λr hr=>⟨s,_,_,Z',by decide,Z',⟨?_,?_⟩,?_⟩⟩
 .show -(2 ^ 62)<=qz s 69621 3;lia
 .show qz s 69621 3<2 ^ 62;lia
 have nor:o≠r:=λz=>by rw[z]at ho;unfold og at ho;rw[hr]at ho;cases ho
 refine uL ((List.range (vP s)).map λi=>D.int (0+(i:Nat))) (λpre U M'=>M'=pI M r (.lst (((List.range pre.length).map (Am s own)).map rk))/\∃x y,U=[ga (.int s),ga (.ref o),ga (.ref r),x,y]) (λ_ _ _ _=>trivial) _ [] _ _ Z' ⟨Z',Fa,Fa,Z'⟩ ?_ ?_
 .rintro pre d post e U M' ⟨rfl,x,y,rfl⟩ nx X2
  obtain⟨rfl,Yc⟩:=CJ e;generalize hi:pre.length=i at Yc X2 ⊢;have c5:C7 5 (0+(i:Int)):=.inl ⟨by decide,by decide⟩;have c11:C7 11 (0+(i:Int)):=.inl ⟨by decide,by decide⟩;have tm:wu [D.str "all",.str "turns"] (qz (s+5*(0+(i:Int))) 742938285 2)=ga (.str (Am s own i).2.1):=Ia (row:=Qm) (rb (by decide)) (qU (by decide));have Yz:og (pI M r (.lst (((List.range i).map (Am s own)).map rk))) o=ga (own.map D.str):=by unfold og;rw[ud nor];exact ho
  refine⟨pz Z',c5,_,_,_,Z',by decide,i' tm ?_⟩;refine⟨by show(og _ r).isSome=Db;rw[pK];rfl,s,_,Z',c11,o,_,_,own,Z',Yz,Yk,by decide,h64,pz Z',i' pK ⟨?_,?_⟩⟩
  .rw[cY,cY,eL];lia
  .refine X2 _ _ ⟨?_,_,_,Z'⟩;rw[rQ,de,hi];show pI M r (.lst (_++[rk (Am s own i)]))=_;rw[BI];rfl
 .rintro U M' ⟨rfl,x,y,rfl⟩
  refine⟨_,.refl,?_⟩;rw[cY,eL];exact q r hr
def Jf(ns:T0 Int)(own nm:QQQ)(i:Nat):vD:=(decide (0<qz (cell ns (1+(0+(i:Nat)))+31*(0+(i:Nat))*(0+(i:Nat))) 22695477 6),wD (cell ns (1+(0+(i:Nat)))+31*(0+(i:Nat))*(0+(i:Nat))) own nm)
def xf(s:Int):Nat:=(qz s 950706376 11).toNat
def CO(ns:T0 Int)(m:Int):pM:=
 let s:=cell ns 0;let own:=(qH s m).map (·.1);let gs:=rn s own
 ⟨qH s m,gs,(List.range (xf s)).map (Jf ns own (own++gs.map (·.1)))⟩
def Ot:rq:=λds M Q=>CP λns m=>ds=[.rl (ns.map D.int),.int m]/\2<=m/\m<=8/\∀r1 r2 r3 M',qG M M'->og M' r1=ga ((CO ns m).mL.map ra)->og M' r2=ga ((CO ns m).groups.map rk)->og M' r3=ga ((CO ns m).mH.map vA)->Q (.tup [.ref r1,.ref r2,.ref r3]) M'
def MZ:Fq P w K mg base 4 a.bn Ot:=by
 refine fq G.bn.toDG sA (λr u=>⟨_,(pB (pQ 2 sA (pO (Jx G) r G.J (rZ v0 pE)))
 (pB (pQ 3 sA (pO (HK G) r G.bk (rZ U2 U1)))
 (pB (ug (i:=4) sA.nd Z' (Or.inl Z') Z' (xQ (ix:=[Fa]) (N':=["_law_phone"])) (qI U3) (qD 0) rS (pN v0 pE))
 (pB (pQ 5 sA (pO (Hy G) r G.bl (rZ U2 v4)))
 (pB (pQ 6 sA (qh v4 (qO Z' (xQ (ix:=[Fa]) (N':=["_law_group"])) (qI v5) (qD 0) rS (pN v0 pE))))
 (pB (pQ 7 sA (qP sd))
 (pB (tS eS Z' (wA Z' G.Z (qp (pO (qR G) r G.i (rB U2 pE pE)))) (rY 8 sA)
 (pB (pQ 9 sA (qh (pO (Jx G) r G.J (rZ v0 (qh pE v8))) (qh (qh pE v8) v8)))
 (pC (pR (qL v7 (qp (pT (rZ (qv u (pO (qR G) r G.i (rB v9 pE pE)) pE) (pO (Qo G) r G.bm (rB v9 v4 v6))))))))))
 (pC (pH (pT (rB U3 v5 v7))))))))))),?_⟩)
 rintro ds M Q ⟨ns,m,rfl,h2,h8,q⟩
 have hz:=dQ;have pl:=zb (s:=cell ns 0) h2 (by lia);have p8:r6 (cell ns 0) m<=8:=by have d1:=qU (c:=cell ns 0) (f:=48271) (m:=m - 1) (by lia);unfold r6;lia
 have gl:=xm (s:=cell ns 0);have lp:(qH (cell ns 0) m).length=r6 (cell ns 0) m:=by unfold qH;rw[cY,eL]
 refine⟨ns,0,Z',cell ns 0,m,Z',h2,by lia,λr1 YD=>?_⟩;obtain⟨M1,e0,s1,a1⟩:=xI (ds:=(qH (cell ns 0) m).map ra) YD;rw[<-e0];refine i' a1 (rA (f:=Dc) a1 _ [] _ (by rw[cY];simp only[dN];lia) (λd hd k hk=>?_) λo ho=>?_)
 .obtain⟨x,_,rfl⟩:=dF.mp hd;exact hk
 rw[eA,zt];have s2:=s1.trans (qG.new (c:=.lst (((qH (cell ns 0) m).map (·.1)).map D.str)) ho);have b1:=(qG.new (c:=.lst (((qH (cell ns 0) m).map (·.1)).map D.str)) ho).lst a1;have bo:=@pK M1 o (((qH (cell ns 0) m).map (·.1)).map D.str);generalize pI M1 o (.lst (((qH (cell ns 0) m).map (·.1)).map D.str))=M2 at s2 b1 bo ⊢;have ol:((qH (cell ns 0) m).map (·.1)).length=r6 (cell ns 0) m:=by rw[cY,lp]
 have one:(qH (cell ns 0) m).map (·.1)≠[]:=λz=>by rw[z]at ol;have:0=r6 (cell ns 0) m:=ol;lia
 have Yb:CO ns m=⟨qH (cell ns 0) m,rn (cell ns 0) ((qH (cell ns 0) m).map (·.1)),(List.range (xf (cell ns 0))).map (Jf ns ((qH (cell ns 0) m).map (·.1)) ((qH (cell ns 0) m).map (·.1)++(rn (cell ns 0) ((qH (cell ns 0) m).map (·.1))).map (·.1)))⟩:=rfl;rw[Yb]at q;generalize (qH (cell ns 0) m).map (·.1)=own at bo ol one q ⊢;refine⟨cell ns 0,o,own,Z',bo,one,by lia,λr2 hr2=>?_⟩;obtain⟨M3,e0,t3,c2⟩:=xI (ds:=(rn (cell ns 0) own).map rk) hr2;rw[<-e0];have c1:=t3.lst b1;have co:=t3.lst bo;have s3:=s2.trans t3;have gll:(rn (cell ns 0) own).length=vP (cell ns 0):=by unfold rn;rw[cY,eL]
 refine i' c2 (rA (f:=Dc) c2 _ [] _ (by rw[cY];simp only[dN];lia) (λd hd k hk=>?_) λx4 hx4=>?_)
 .obtain⟨x,_,rfl⟩:=dF.mp hd;exact hk
 rw[eA,y8];have t4:=qG.new (c:=.lst (((rn (cell ns 0) own).map (·.1)).map D.str)) hx4;refine i' (t4.lst co) (i' pK ⟨?_,λn hn=>?_⟩)
 .rw[cY,cY,cY];lia
 have en:own.map D.str++((rn (cell ns 0) own).map (·.1)).map D.str=(own++(rn (cell ns 0) own).map (·.1)).map D.str:=by rw[dJ]
 rw[en];have nl:(own++(rn (cell ns 0) own).map (·.1)).length=r6 (cell ns 0) m+vP (cell ns 0):=by rw[de,cY,ol,gll]
 have t5:=t4.trans (qG.new (c:=.lst ((own++(rn (cell ns 0) own).map (·.1)).map D.str)) hn);have en5:=@pK (pI M3 x4 (.lst (((rn (cell ns 0) own).map (·.1)).map D.str))) n ((own++(rn (cell ns 0) own).map (·.1)).map D.str);have e1:=t5.lst c1;have e2:=t5.lst c2;have eo:=t5.lst co;have s5:=s3.trans t5;generalize pI (pI M3 x4 (.lst (((rn (cell ns 0) own).map (·.1)).map D.str))) n (.lst ((own++(rn (cell ns 0) own).map (·.1)).map D.str))=M5 at s5 e1 e2 eo en5 ⊢;generalize own++(rn (cell ns 0) own).map (·.1)=nm at en5 nl q ⊢;have d0:=rb (c:=cell ns 0) (f:=950706376) (m:=11) (by decide);have d1:=qU (c:=cell ns 0) (f:=950706376) (m:=11) (by decide);refine⟨pz Z',λr3 ZZ=>⟨_,_,_,Z',by decide,Z',⟨?_,?_⟩,?_⟩⟩
 .show -(2 ^ 62)<=qz (cell ns 0) 950706376 11;lia
 .show qz (cell ns 0) 950706376 11<2 ^ 62;lia
 have t6:=qG.new (c:=.lst []) ZZ;have g3:=@pK M5 r3 [];have no:o≠r3:=λz=>by have:=pY eo;rw[z,ZZ]at this;cases this
 have nn:n≠r3:=λz=>by have:=pY en5;rw[z,ZZ]at this;cases this
 have n1:r1≠r3:=λz=>by have:=pY e1;rw[z,ZZ]at this;cases this
 have n2:r2≠r3:=λz=>by have:=pY e2;rw[z,ZZ]at this;cases this
 have f1:=t6.lst e1;have f2:=t6.lst e2;have fo:=t6.lst eo;have fn:=t6.lst en5;have k6:qG M (pI M5 r3 (.lst [])):=s5.trans t6;have nr:M r3=Fa:=s5.none ZZ;generalize pI M5 r3 (.lst [])=M6 at f1 f2 fo fn k6 g3 ⊢;have wl:xf (cell ns 0)<=10:=by unfold xf;lia
 refine uL ((List.range (xf (cell ns 0))).map λi=>D.int (0+(i:Nat))) (λpre U M'=>qT r3 M6 M'/\og M' r3=ga (((List.range pre.length).map (Jf ns own nm)).map vA)/\∃x y,U=[ga (.rl (ns.map D.int)),ga (.int m),ga (.int (cell ns 0)),ga (.ref r1),ga (.ref o),ga (.ref r2),ga (.ref n),ga (.ref r3),x,y]) (λp U M' j=>trivial) _ [] _ _ Z' ⟨λ_ _ _ h=>h,g3,Fa,Fa,Z'⟩ ?_ ?_
 .rintro pre d post e U M' ⟨kp,lr,x,y,rfl⟩ nx X2
  obtain⟨rfl,Yc⟩:=CJ e;generalize hi:pre.length=i at Yc X2 lr ⊢;have c31:C7 31 (0+(i:Int)):=.inl ⟨by decide,by decide⟩;have cm:C7 (31*(0+(i:Int))) (0+(i:Int)):=.inr ⟨by lia,by lia⟩;refine⟨ns,_,Z',c31,cm,?_⟩;refine⟨by show(og M' r3).isSome=Db;rw[lr];rfl,_,_,_,Z',by decide,_,o,n,own,nm,Z',kp.lst no fo,kp.lst nn fn,one,by lia,by lia,by lia,pz Z',i' lr ⟨?_,?_⟩⟩
  .rw[cY,cY,eL];lia
  .refine X2 _ _ ⟨kp.trans .put,?_,_,_,Z'⟩;rw[pK,de,hi];show ga (_++[vA (Jf ns own nm i)])=_;rw[BI];rfl
 .rintro U M' ⟨kp,lr,x,y,rfl⟩
  rw[cY,eL]at lr;exact⟨pz Z',M',.refl,q r1 r2 r3 M' (λb c h=>kp b c (λz=>by rw[z,nr]at h;cases h) (k6 b c h)) (kp.lst n1 f1) (kp.lst n2 f2) lr⟩
theorem CN(x:Array Nat):∀(n:Nat) (acc:Array Nat),((List.replicate n x).foldl (·++·) acc).toList=acc.toList++(List.replicate n x.toList).flatten
 | 0,acc=>by simp
 | n+1,acc=>by rw[eM,gf,CN x n (acc++x),eM,fT,jg,fA]
theorem G9(c:Nat):∀n:Nat,(List.replicate n [c]).flatten=List.replicate n c
 | 0=>rfl
 | n+1=>by rw[eM,fT,G9 c n,eM];rfl
def Ey(i n:Int):(zc (uh i) n).cps.toList=List.replicate n.toNat (97+i.toNat):=by show((List.replicate n.toNat (uh i).cps).foldl (·++·) #[]:Array Nat).toList=_;rw[CN];show[]++(List.replicate n.toNat [97+i.toNat]).flatten=_;rw[eA,G9]
def yw(s v:Int):(xZ s v).cps.toList=List.replicate (um s).toNat (97+(s / 36 % 26).toNat)++(97+((s / 936+v) % 26).toNat)::List.replicate (size s - 1 - um s).toNat (97+(s / 36 % 26).toNat):=by show((zc (uh (s / 36 % 26)) (um s)).cps++(uh ((s / 936+v) % 26)).cps++(zc (uh (s / 36 % 26)) (size s - 1 - um s)).cps).toList=_;rw[jg,jg,Ey,Ey];show _++[97+((s / 936+v) % 26).toNat]++_=_;rw[fA];rfl
def BM(s v:Int):1<=(xZ s v).length/\(xZ s v).length<=6:=by
 have e:(xZ s v).length=(xZ s v).cps.toList.length:=by simp[Str.length]
 rw[e,yw,de,eB,iN,iN];have h1:=Hn s;have h2:=I9 s;have h3:0<=um s:=eX _ (by lia);have h4:um s<size s:=eU _ h1;lia
def MD{i:Int}(h0:0<=i)(h1:i<26):Dq ⟨#[97+i.toNat]⟩ uu=Db:=by
 obtain⟨n,rfl⟩:=eD h0;have hn:n<26:=by lia
 have key:∀n:_root_.Fin 26,Dq ⟨#[97+n.val]⟩ uu=Db:=by decide+kernel
 exact key ⟨n,hn⟩
def DL(s v:Int):uD (xZ s v)=Db:=by
 obtain⟨h1,h2⟩:=BM s v;unfold uD;rw[dU (show(1:Int)<=(xZ s v).length by lia),dU (show((xZ s v).length:Int)<=6 by lia),eN,eN,eR];intro c hc;rw[yw]at hc;have k1:=MD (eX (s / 36) (show(26:Int)≠0 by decide)) (eU (s / 36) (by decide));have k2:=MD (eX (s / 936+v) (show(26:Int)≠0 by decide)) (eU (s / 936+v) (by decide));rcases dX.mp hc with z|z
 .rw[jP z];exact k1
 .rcases dC.mp z with z|z
  .rw[z];exact k2
  .rw[jP z];exact k1
def B'{s u v:Int}(hu:0<=u)(hu':u<26)(hv:0<=v)(hv':v<26)(e:xZ s u=xZ s v):u=v:=by
 have e':(xZ s u).cps.toList=(xZ s v).cps.toList:=by rw[e]
 rw[yw,yw]at e';have:=(List.append_cancel_left e');have:=(gN this).1;have a1:=eX (s / 936+u) (show(26:Int)≠0 by decide);have a2:=eX (s / 936+v) (show(26:Int)≠0 by decide);have h:(s / 936+u) % 26=(s / 936+v) % 26:=by lia
 lia
def F7{ss:QQQ}{x:Str}(h:x∈ss):yh ss x:=fP.mpr ⟨x,h,by simp⟩
def BB{row:QQQ}{i:Int}(h0:0<=i)(h1:i<row.length):CT row i∈row:=by
 obtain⟨n,rfl⟩:=eD h0;have hn:n<row.length:=by lia
 have:CT row (n:Int)=row[n]:=by simp[CT,hn]
 rw[this];exact ip hn
def Jv{row:QQQ}{i j:Int}(nd:row.Nodup)(h0:0<=i)(h1:i<row.length)(g0:0<=j)(g1:j<row.length)(e:CT row i=CT row j):i=j:=by
 obtain⟨n,rfl⟩:=eD h0;obtain⟨k,rfl⟩:=eD g0;have hn:n<row.length:=by lia
 have hk:k<row.length:=by lia
 have e1:CT row (n:Int)=row[n]:=by simp[CT,hn]
 have e2:CT row (k:Int)=row[k]:=by simp[CT,hk]
 rw[e1,e2]at e;have pw:=jz.mp nd;rcases Nat.lt_trichotomy n k with z|z|z
 .exact absurd e (pw n k hn hk z)
 .rw[z]
 .exact absurd e.symm (pw k n hk hn z)
def AD{α:Type}(f:Nat->α)(n:Nat)(h:∀i j,i<n->j<n->f i=f j->i=j):((List.range n).map f).Nodup:=by refine jz.mpr λi j hi hj Yc e=>?_;rw[cY,eL]at hi hj;rw[lU,lU,lb,lb]at e;have:=h i j hi hj e;lia
def Cs{row:QQQ}{c m:Int}(hr:row≠[])(hm:0<m):1<=xD row c m/\(xD row c m:Int)<=m/\xD row c m<=row.length:=by
 have hl:0<row.length:=fE.mpr hr;have d0:=rb (c:=c) (f:=40692) (m:=if (row.length:Int)<m then(row.length:Int)else m) (by split<;>lia);have d1:=qU (c:=c) (f:=40692) (m:=if (row.length:Int)<m then(row.length:Int)else m) (by split<;>lia);unfold xD;by_cases h:(row.length:Int)<m
 .rw[dh h]at d0 d1 ⊢;lia
 .rw[dg h]at d0 d1 ⊢;lia
def Cr{row:QQQ}{c:Int}(hr:row≠[])(j:Nat):0<=(qz c 69621 row.length+(0+(j:Nat))) % (row.length:Int)/\(qz c 69621 row.length+(0+(j:Nat))) % (row.length:Int)<row.length:=by have hl:0<row.length:=fE.mpr hr;exact⟨eX _ (by lia),eU _ (by lia)⟩
def JN{d n i j:Int}(hn:0<n)(hi:0<=i)(ZT:i<n)(hj:0<=j)(hj':j<n)(e:(d+i) % n=(d+j) % n):i=j:=by
 have h1:=kl (d+i) n;have h2:=kl (d+j) n;generalize (d+i) / n=a at h1;generalize (d+j) / n=b at h2;have h3:i - j=n*(a - b):=by rw[Int.mul_sub];lia
 rcases Int.lt_trichotomy (a - b) 0 with z|z|z
 .have:n*(a - b)<=n*(-1):=jd (by lia) (by lia);lia
 .rw[z]at h3;lia
 .have:n*1<=n*(a - b):=jd (by lia) (by lia);lia
def II{row:QQQ}{c m:Int}(nd:row.Nodup)(hr:row≠[])(hm:0<m):(vM row c m).Nodup:=by have hl:0<row.length:=fE.mpr hr;obtain⟨_,_,l3⟩:=Cs (c:=c) hr hm;refine AD _ _ λi j hi hj e=>?_;obtain⟨a0,a1⟩:=Cr (c:=c) hr i;obtain⟨b0,b1⟩:=Cr (c:=c) hr j;have e':=Jv nd a0 a1 b0 b1 e;have:=JN (d:=qz c 69621 row.length) (n:=row.length) (i:=0+(i:Nat)) (j:=0+(j:Nat)) (by lia) (by lia) (by lia) (by lia) (by lia) e';lia
def yd{row:QQQ}{c m k:Int}(nd:row.Nodup)(hr:row≠[])(hm:0<m)(hk:m<=k):sH (vM row c m) row k=Db:=by
 obtain⟨l1,l2,l3⟩:=Cs (c:=c) hr hm;have el:(vM row c m).length=xD row c m:=by unfold vM;rw[cY,eL]
 unfold sH;rw[el,dU (show(1:Int)<=xD row c m by lia),dU (show(xD row c m:Int)<=k by lia),El (II nd hr hm),eN,eN,eN,eR];intro x hx;unfold vM at hx;obtain⟨j,_,rfl⟩:=dF.mp hx;obtain⟨a0,a1⟩:=Cr (c:=c) hr j;exact F7 (BB a0 a1)
def CK{row:QQQ}{c m:Int}(hr:row≠[])(hm:0<m)(h:m<=100):(vM row c m).length<4000:=by
 obtain⟨l1,l2,l3⟩:=Cs (c:=c) hr hm;have el:(vM row c m).length=xD row c m:=by unfold vM;rw[cY,eL]
 lia
def OO{c:Int}{own all:QQQ}(no:own.Nodup)(na:all.Nodup)(ho:own≠[])(ha:2<=all.length):Cy own all (wD c own all):=by
 have hl:(0:Int)<own.length:=by have:=fE.mpr ho;lia
 have ha0:all≠[]:=λz=>by rw[z]at ha;simp at ha
 have hx:=F7 (BB (rb (c:=c) (f:=16807) hl) (qU (c:=c) (f:=16807) hl));have p0:=rb (c:=c) (f:=39373) (m:=all.length) (by lia);have p1:=qU (c:=c) (f:=39373) (m:=all.length) (by lia);have e0:=rb (c:=c) (f:=742938285) (m:=(all.length:Int) - 1) (by lia);have e1:=qU (c:=c) (f:=742938285) (m:=(all.length:Int) - 1) (by lia);have z0:=eX (qz c 39373 all.length+1+qz c 742938285 ((all.length:Int) - 1)) (show(all.length:Int)≠0 by lia);have z1:=eU (qz c 39373 all.length+1+qz c 742938285 ((all.length:Int) - 1)) (show(0:Int)<all.length by lia);have hy:=F7 (BB p0 p1);have hzz:=F7 (BB z0 z1);have ne:CT all (qz c 39373 all.length)≠CT all ((qz c 39373 all.length+1+qz c 742938285 ((all.length:Int) - 1)) % all.length):=λz=>by
  have q:=Jv na p0 p1 z0 z1 z;have q2:(qz c 39373 all.length+0) % (all.length:Int)=(qz c 39373 all.length+(1+qz c 742938285 ((all.length:Int) - 1))) % (all.length:Int):=by rw[mw,Int.emod_eq_of_lt p0 p1,<-Int.add_assoc];exact q
  have:=JN (by lia) (by lia) (by lia) (by lia) (by lia) q2;lia
 have f0:=rb (c:=c) (f:=22695477) (m:=24) (by decide);have f1:=qU (c:=c) (f:=22695477) (m:=24) (by decide);have g0:=rb (c:=c) (f:=48271) (m:=23) (by decide);have g1:=qU (c:=c) (f:=48271) (m:=23) (by decide);have t0:=rb (c:=c) (f:=950706376) (m:=5) (by decide);have t1:=qU (c:=c) (f:=950706376) (m:=5) (by decide);unfold wD;simp only;split
 .exact⟨hx,CK ha0 (by decide) (by decide),yd na ha0 (by decide) (by decide)⟩
 .split
  .exact⟨hy,CK ho (by decide) (by decide),yd no ho (by decide) (by decide)⟩
  .split
   .exact⟨hy,hzz,ne⟩
   .split
    .refine⟨hy,hzz,ne,⟨f0,by lia⟩,⟨eX _ (by decide),?_⟩,?_⟩
     .have:=eU (qz c 22695477 24+1+qz c 48271 23) (show(0:Int)<24 by decide);lia
     .omega
    .split
     .exact⟨hy,hzz,ne⟩
     .split
      .refine⟨hy,hzz,ne,?_⟩;generalize qz c 950706376 5=d at t0 t1;have:d=0\/d=1\/d=2\/d=3\/d=4:=by lia
       rcases this with z|z|z|z|z<;>(subst z;decide)
      .split
       .exact hx
       .exact hx
def Ml(s:Int)(i:Nat):FY (we s i):=by
 have t0:=rb (c:=s+17*(0+(i:Nat))*(0+(i:Nat))) (f:=16807) (m:=5) (by decide);have t1:=qU (c:=s+17*(0+(i:Nat))*(0+(i:Nat))) (f:=16807) (m:=5) (by decide);have u0:=rb (c:=s+17*(0+(i:Nat))*(0+(i:Nat))) (f:=39373) (m:=6) (by decide);have u1:=qU (c:=s+17*(0+(i:Nat))*(0+(i:Nat))) (f:=39373) (m:=6) (by decide);have a:1<=(we s i).2.1/\(we s i).2.1<=3:=by
  show 1<=Hg O6 (qz (s+17*(0+(i:Nat))*(0+(i:Nat))) 16807 5)/\Hg O6 (qz (s+17*(0+(i:Nat))*(0+(i:Nat))) 16807 5)<=3;generalize qz (s+17*(0+(i:Nat))*(0+(i:Nat))) 16807 5=d at t0 t1;have:d=0\/d=1\/d=2\/d=3\/d=4:=by lia
  rcases this with z|z|z|z|z<;>(subst z;decide)
 have b:0<=(we s i).2.2/\(we s i).2.2<=9:=by
  show 0<=Hg Q8 (qz (s+17*(0+(i:Nat))*(0+(i:Nat))) 39373 6)/\Hg Q8 (qz (s+17*(0+(i:Nat))*(0+(i:Nat))) 39373 6)<=9;generalize qz (s+17*(0+(i:Nat))*(0+(i:Nat))) 39373 6=d at u0 u1;have:d=0\/d=1\/d=2\/d=3\/d=4\/d=5:=by lia
  rcases this with z|z|z|z|z|z<;>(subst z;decide)
 exact⟨d9 (BM s (0+(i:Nat))).2 (by decide),DL _ _,a.1,a.2,b.1,b.2⟩
def LH{s:Int}{own:QQQ}(nd:own.Nodup)(hr:own≠[])(i:Nat):E5 own (Am s own i):=by
 have t0:=rb (c:=s+5*(0+(i:Nat))) (f:=742938285) (m:=2) (by decide);have t1:=qU (c:=s+5*(0+(i:Nat))) (f:=742938285) (m:=2) (by decide);refine⟨d9 (BM s (8+(0+(i:Nat)))).2 (by decide),DL _ _,?_,CK hr (by decide) (by decide),yd nd hr (by decide) (by decide)⟩;show CT Qm (qz (s+5*(0+(i:Nat))) 742938285 2)="all"\/CT Qm (qz (s+5*(0+(i:Nat))) 742938285 2)="turns";generalize qz (s+5*(0+(i:Nat))) 742938285 2=d at t0 t1;have:d=0\/d=1:=by lia
 rcases this with z|z
 .subst z;exact .inl Z'
 .subst z;exact .inr Z'
def NF(s m:Int):(qH s m).map (·.1)=(List.range (r6 s m)).map λi=>xZ s (0+(i:Nat)):=by unfold qH;rw[eh];rfl
def Hr{s m:Int}(h2:2<=m)(h8:m<=8):((qH s m).map (·.1)).Nodup/\∀own,((qH s m).map (·.1)++(rn s own).map (·.1)).Nodup:=by
 have d1:=qU (c:=s) (f:=48271) (m:=m - 1) (by lia);have d0:=rb (c:=s) (f:=48271) (m:=m - 1) (by lia);have p8:r6 s m<=8:=by unfold r6;lia
 have g3:=xm (s:=s);have a:((qH s m).map (·.1)).Nodup:=by rw[NF];refine AD _ _ λi j hi hj e=>?_;have:=B' (by lia) (by lia) (by lia) (by lia) e;lia
 refine⟨a,λown=>?_⟩;have ge:(rn s own).map (·.1)=(List.range (vP s)).map λi=>xZ s (8+(0+(i:Nat))):=by unfold rn;rw[eh];rfl
 rw[gc];refine⟨a,?_,λx hx y hy e=>?_⟩
 .rw[ge];refine AD _ _ λi j hi hj e=>?_;have:=B' (by lia) (by lia) (by lia) (by lia) e;lia
 .rw[NF]at hx;rw[ge]at hy;obtain⟨i,hi,rfl⟩:=dF.mp hx;obtain⟨j,hj,rfl⟩:=dF.mp hy;have hi:=gF.mp hi;have hj:=gF.mp hj;have:=B' (by lia) (by lia) (by lia) (by lia) e;lia
def PX{m:Int}(h2:2<=m)(h8:m<=8):rj (CO ns m):=by
 obtain⟨n1,n2⟩:=Hr (s:=cell ns 0) h2 h8;have pl:=zb (s:=cell ns 0) h2 (by lia);have p8:r6 (cell ns 0) m<=8:=by have d1:=qU (c:=cell ns 0) (f:=48271) (m:=m - 1) (by lia);unfold r6;lia
 have lp:(qH (cell ns 0) m).length=r6 (cell ns 0) m:=by unfold qH;rw[cY,eL]
 have ol:((qH (cell ns 0) m).map (·.1)).length=r6 (cell ns 0) m:=by rw[cY,lp]
 have one:(qH (cell ns 0) m).map (·.1)≠[]:=λz=>by rw[z]at ol;have:0=r6 (cell ns 0) m:=ol;lia
 have gl:(rn (cell ns 0) ((qH (cell ns 0) m).map (·.1))).length=vP (cell ns 0):=by unfold rn;rw[cY,eL]
 refine⟨?_,?_,λp hp=>?_,?_,λg hg=>?_,n2 _,?_,λv hv=>?_⟩
 .show 1<=(qH (cell ns 0) m).length;lia
 .show(qH (cell ns 0) m).length<=8;lia
 .obtain⟨i,_,rfl⟩:=dF.mp hp;exact Ml _ i
 .show(rn (cell ns 0) ((qH (cell ns 0) m).map (·.1))).length<=3;rw[gl];exact xm
 .obtain⟨i,_,rfl⟩:=dF.mp hg;exact LH n1 one i
 .show((List.range (xf (cell ns 0))).map _).length<=16;rw[cY,eL];have d1:=qU (c:=cell ns 0) (f:=950706376) (m:=11) (by decide);unfold xf;lia
 .obtain⟨i,hi,rfl⟩:=dF.mp hv;refine OO n1 (n2 _) one ?_;show 2<=((qH (cell ns 0) m).map (·.1)++_).length;rw[de,ol];lia
structure pG where
 st:Str
 cr:Str
 way:QQQ
 at_:QQQ
 ms:QQQ
 hd:Option Str
 si:Int
 wd:Option Str
structure rM where
 i:Nat
 f:Str
 g:Str
 y:Str
inductive Ev
 | new (n:Nat) (x:Str)
 | leg (v:rM)
 | asks (i:Nat) (z:Str) (ns:List Nat)
 | next (z:Str) (n:Int)
 | merge (i j:Nat) (ms:QQQ)
 | turn
 | sw (b:Bool) (i:Nat)
 | rings (i:Nat) (ps:QQQ)
 | quiet (i:Nat)
 | waits (i:Nat) (x:Str)
 | talks (i:Nat) (ms:QQQ)
 | held (i:Nat) (x:Str)
 | leaves (i:Nat) (x:Str)
 | over (i:Nat) (w:Str)
structure qu where
 p:Uf
 h:Int
 t:Int
 calls:List pG
 mQ:List rM
 ps:List (Str×Int)
 on:List Bool
 log:List Ev
 fo:QXQ
noncomputable def wB(ns:T0 Nat):D:=.tup (ns.map λn=>D.int (n:Nat))
noncomputable def rM.d(v:rM):D:=.tup [.int (v.i:Nat),.str v.f,.str v.g,.str v.y]
noncomputable def US(b:Bool):Str:=if b=Db then "on" else "off"
def Ev.d:Ev->D
 | .new n x=>.tup [.str "new",.int (n:Nat),.str x]
 | .leg v=>.tup [.str "leg",.int (v.i:Nat),.str v.f,.str v.g,.str v.y]
 | .asks i z ns=>.tup [.str "asks",.int (i:Nat),.str z,wB ns]
 | .next z n=>.tup [.str "next",.str z,.int n]
 | .merge i j ms=>.tup [.str "merge",.int (i:Nat),.int (j:Nat),names ms]
 | .turn=>.tup [.str "turn"]
 | .sw b i=>.tup [.str (US b),.int (i:Nat)]
 | .rings i ps=>.tup [.str "rings",.int (i:Nat),names ps]
 | .quiet i=>.tup [.str "quiet",.int (i:Nat)]
 | .waits i x=>.tup [.str "waits",.int (i:Nat),.str x]
 | .talks i ms=>.tup [.str "talks",.int (i:Nat),names ms]
 | .held i x=>.tup [.str "held",.int (i:Nat),.str x]
 | .leaves i x=>.tup [.str "leaves",.int (i:Nat),.str x]
 | .over i w=>.tup [.str "over",.int (i:Nat),.str w]
noncomputable def hasS(ss:QQQ)(x:Str):Bool:=ss.any (·==x)
noncomputable def rN(ss:QQQ)(x:Str):QQQ:=ss.filter λy=>!(y==x)
noncomputable def xO(x:Str):pG:=⟨"rings",x,[],[],[],Fa,0,Fa⟩
noncomputable def pG.over(c:pG)(w:Str):pG:={c with st:="over",wd:=some w,at_:=[],ms:=[],hd:=none}
def pG.drop(c:pG)(x:Str):pG:={c with at_:=rN c.at_ x,ms:=rN c.ms x}
noncomputable def pG.ring(c:pG)(ps:QQQ):pG:={c with st:="rings",at_:=ps,si:=0}
noncomputable def pG.ni(c:pG)(ms:QQQ):pG:={c with st:="talks",ms:=ms,at_:=[],hd:=none}
noncomputable def pG.wait(c:pG)(x:Str):pG:={c with st:="waits",at_:=[x]}
noncomputable def pG.hold(c:pG)(x:Str):pG:={c with st:="held",hd:=some x}
noncomputable def pG.nk(c:pG):pG:={c with at_:=[]}
noncomputable def pG.mem(c:pG)(ms:QQQ):pG:={c with ms:=ms}
noncomputable def pG.go(c:pG)(g:Str):pG:={c with way:=c.way++[g]}
noncomputable def pG.tick(c:pG):pG:=if (c.st=="rings")=Db then{c with si:=c.si+1}else c
noncomputable def rM.to(m k:Nat)(v:rM):rM:=if v.i=m then{v with i:=k}else v
noncomputable def C1(ps:T0 (Str×Int))(z:Str)(n:Int):T0 (Str×Int):=if ps.any (λp=>decide (p.1=z))=Db then ps.map (λp=>if p.1=z then(p.1,n)else p)else ps++[(z,n)]
noncomputable def xP(V:qu)(i:Nat)(f:pG->pG):qu:={V with calls:=V.calls.modify i f}
noncomputable def qS(V:qu)(e:Ev):qu:={V with log:=V.log++[e]}
def U0(V:qu):Ev->qu
 | .new _ x=>{V with calls:=V.calls++[xO x]}
 | .leg v=>{V with mQ:=V.mQ++[v],calls:=V.calls.modify v.i (·.go v.g)}
 | .asks _ _ _=>V
 | .next z n=>{V with ps:=C1 V.ps z n}
 | .merge i j ms=>{V with calls:=(V.calls.modify i (·.over "merged")).modify j (·.mem ms),mQ:=V.mQ.map (rM.to i j)}
 | .turn=>{V with t:=V.t+1,calls:=V.calls.map pG.tick}
 | .sw b i=>{V with on:=V.on.set i b}
 | .rings i ps=>xP V i (·.ring ps)
 | .quiet i=>xP V i pG.nk
 | .waits i x=>xP V i (·.wait x)
 | .talks i ms=>xP V i (·.ni ms)
 | .held i x=>xP V i (·.hold x)
 | .leaves i x=>xP V i (·.drop x)
 | .over i w=>xP V i (·.over w)
def qa(V:qu)(e:Ev):qu:=U0 (qS V e) e
def qN(V:qu)(es:T0 Ev):qu:=es.foldl qa V
def Ev.ok(V:qu):Ev->Prop
 | .new _ _=>True
 | .leg v=>v.i<V.calls.length
 | .asks _ _ _=>True
 | .next _ _=>True
 | .merge i j ms=>i<V.calls.length/\j<V.calls.length/\i≠j/\ms.length<=100
 | .turn=>True
 | .sw _ i=>i<V.on.length
 | .rings i ps=>i<V.calls.length/\ps.length<=100
 | .quiet i=>i<V.calls.length
 | .waits i _=>i<V.calls.length
 | .talks i ms=>i<V.calls.length/\ms.length<=100
 | .held i _=>i<V.calls.length
 | .leaves i _=>i<V.calls.length
 | .over i _=>i<V.calls.length
def rJ(V:qu)(es fs:T0 Ev):qN V (es++fs)=qN (qN V es) fs:=iL ..
theorem Bu:∀(es:T0 Ev) (V:qu),(qN V es).log=V.log++es
 | [],V=>(eO _).symm
 | e::r,V=>by
  show(qN (qa V e) r).log=_;rw[Bu r];have:(qa V e).log=V.log++[e]:=by cases e<;>rfl
  rw[this,fA];rfl
def pG.mS(c:pG)(x:Str):Bool:=(c.st=="talks")&&hasS c.ms x
def pG.hasB(c:pG)(x:Str):Bool:=if (c.st=="rings")=Db then(x==c.cr)||hasS c.at_ x else if (c.st=="waits")=Db then x==c.cr else(c.st=="talks"||c.st=="held")&&hasS c.ms x
def pG.m8(c:pG)(x:Str):Bool:=if (c.st=="held")=Db then hasS c.ms x&&!((c.hd==ga x))else c.mS x
noncomputable def pG.mT(c:pG)(x:Str):Bool:=(c.st=="rings"||c.st=="waits")&&(x==c.cr)
def pG.mM(c:pG)(x:Str):Bool:=(c.st=="waits")&&hasS c.at_ x
def pG.nv(c:pG)(x:Str):Bool:=c.mT x||(hasS c.at_ x||hasS c.ms x)
noncomputable def pG.mU(c:pG)(x:Str):Bool:=c.mS x&&(c.ms.length==2)
noncomputable def vf(V:qu)(x:Str):Nat:=(V.calls.filter (·.hasB x)).length
noncomputable def xc(l:pM)(x:Str):Int:=(l.mZ x).elim 0 λv=>v.2.1
noncomputable def vW(l:pM)(x:Str):Int:=(l.mZ x).elim 0 λv=>v.2.2
def tX(l:pM)(V:qu)(x:Str):Bool:=decide ((vf V x:Int)<xc l x)
def ut(l:pM)(V:qu)(c z:Str):QQQ:=(l.mF z).filter λx=>!(x==c)&&tX l V x
def xT(l:pM)(V:qu)(c z:Str):Bool:=(ut l V c z).isEmpty
noncomputable def vQ(V:qu)(x:Str):Option Nat:=V.calls.findIdx? (·.mS x)
noncomputable def ES(V:qu)(x:Str):Option Nat:=V.calls.findIdx? (·.m8 x)
noncomputable def Jk(V:qu)(x:Str):Option Nat:=V.calls.findIdx? (·.mT x)
noncomputable def AJ(V:qu)(x:Str):Bool:=V.calls.any (·.mM x)
noncomputable def O7:Option Nat->D
 | none=>.mK
 | some j=>.int (j:Nat)
noncomputable def FB(f l h:Int):Bool:=if f<l then decide (f<=h)&&decide (h<l)else decide (h>=f)||decide (h<l)
def HH(l:pM)(x:Str)(ms:QQQ):Bool:=ms.all λm=>decide (vW l m<vW l x)
def IE(l:pM)(V:qu)(x c z:Str):Bool:=if (!(c==x)||(z==x))=Db then pc else if (!(hasS l.pn z)||!(xT l V c z))=Db then pc else((vQ V z).bind (V.calls[·]?)).elim pc λk=>(k.ms.length==2)&&HH l x k.ms
def AX(l:pM)(V:qu)(c z:Str):Wi->Bool
 | .bar x ns=>(c==x)&&hasS ns z
 | .shut x ns=>(z==x)&&hasS ns c
 | .always x _=>z==x
 | .night x _ f m=>(z==x)&&FB f m ((V.h+V.t) % 24)
 | .busy x _=>(z==x)&&xT l V c z
 | .silent _ _ _=>pc
 | .wait x=>if (!(z==x)||(c==x))=Db then pc else xT l V c z&&!(AJ V z)
 | .breaks x=>IE l V x c z
noncomputable def GR(c:pG):Wi->Bool
 | .silent x _ n=>(c.way.getLast?==ga x)&&decide (n<=c.si)
 | _=>pc
noncomputable def IR(l:pM)(V:qu)(f:Wi->Bool):T0 Nat:=(List.range V.on.length).filter λi=>V.on.getD i pc&&(l.mH[i]?).elim pc λw=>f w.2
def Ef(l:pM)(V:qu)(c z:Str):T0 Nat:=IR l V (AX l V c z)
noncomputable def ve(ms:QQQ)(n:Nat):QQQ:=ms.drop n++ms.take n
noncomputable def zy(V:qu)(z:Str):Nat:=((V.ps.find? λp=>decide (p.1=z)).elim 0 λp=>p.2).toNat
def yb(l:pM)(V:qu)(c z:Str):QQQ:=if (l.mP z=="turns")=Db then((ve (l.mF z) (zy V z)).filter λx=>hasS (ut l V c z) x).take 1 else ut l V c z
inductive vJ
 | engaged (z:Str)
 | rings (z:Str) (ps:QQQ)
 | waits (z:Str)
 | breaks (z:Str)
 | barred
 | ring (ns:QQQ)
noncomputable def vJ.d:vJ->D
 | .engaged z=>.tup [.str "engaged",.str z]
 | .rings z ps=>.tup [.str "rings",.str z,names ps]
 | .waits z=>.tup [.str "waits",.str z]
 | .breaks z=>.tup [.str "breaks",.str z]
 | .barred=>.tup [.str "barred"]
 | .ring ns=>.tup [.str "ring",names ns]
def HB(l:pM)(V:qu)(c z:Str):vJ:=match yb l V c z with
 | []=>.engaged z
 | x::r=>.rings z (x::r)
noncomputable def IZ(z:Str):Wi->Sum vJ Str
 | .bar _ _=>.inl .barred
 | .shut _ _=>.inl .barred
 | .always _ y=>.inr y
 | .night _ y _ _=>.inr y
 | .busy _ y=>.inr y
 | .silent _ y _=>.inr y
 | .wait _=>.inl (.waits z)
 | .breaks _=>.inl (.breaks z)
abbrev sZ:=T0 (Str×T0 Nat)
def xq(l:pM)(V:qu)(c:Str):Nat->Str->QQQ->sZ->vJ×sZ
 | 0,_,_,st=>(.barred,st)
 | n+1,z,way,st=>if hasS way z=Db then(.ring (way.drop (way.findIdx (·==z))),st)else
  match Ef l V c z with
  | []=>(HB l V c z,st++[(z,[])])
  | i::r=>(l.mH[i]?).elim (.barred,st) λw=>match IZ z w.2 with
   | .inl e=>(e,st++[(z,i::r)])
   | .inr y=>xq l V c n y (way++[z]) (st++[(z,i::r)])
def uG(l:pM)(V:qu)(c z:Str)(way:QQQ):vJ×sZ:=xq l V c (l.nm.length+1) z way []
noncomputable def rh(i:Nat):Option Str->sZ->T0 Ev
 | _,[]=>[]
 | none,(z,fs)::r=>.asks i z fs::rh i (ga z) r
 | some y,(z,fs)::r=>.leg ⟨i,y,z,y⟩::.asks i z fs::rh i (ga z) r
noncomputable def RD(ms:QQQ)(x:Str):Int:=((ms.findIdx (·==x):Nat)+1) % (ms.length:Int)
def sO(l:pM)(V:qu)(i:Nat):vJ->T0 Ev
 | .rings z ps=>(if (l.mP z=="turns")=Db then[.next z (RD (l.mF z) (ps.headD Str.empty))]else[])++[.rings i ps]
 | .waits z=>[.waits i z]
 | .breaks z=>match vQ V z,V.calls[i]? with
  | some j,ga c=>[.merge i j ((V.calls[j]?).elim [] (·.ms)++[c.cr])]
  | _,_=>[]
 | .engaged _=>[.over i "engaged"]
 | .barred=>[.over i "barred"]
 | .ring _=>[.over i "ring"]
noncomputable def sT(i:Nat)(st:sZ):vJ->T0 Ev
 | .ring ns=>(st.getLast?).elim [] λs=>[.leg ⟨i,s.1,ns.headD Str.empty,s.1⟩]
 | _=>[]
def vO(l:pM)(V:qu)(i:Nat):T0 Ev:=(V.calls[i]?).elim [] λc=>
 let r:=uG l V c.cr (c.way.getLastD Str.empty) c.way.dropLast
 rh i Fa r.2++(sT i r.2 r.1++sO l V i r.1)
def EY(l:pM)(V:qu)(y z:Str):T0 Ev:=
 let es:=[Ev.new V.calls.length y,.leg ⟨V.calls.length,y,z,y⟩]
 es++vO l (qN V es) V.calls.length
def vh(V:qu)(x:Str)(i:Nat):T0 Ev:=(V.calls[i]?).elim [] λc=>if c.mT x=Db then[.over i "left"]else if hasS c.at_ x=Db then .leaves i x::(if rN c.at_ x=[]then[.over i "refused"]else[])else if 2<c.ms.length then[.leaves i x]else[.over i "done"]
def tM(l:pM)(V:qu)(i:Nat)(fs:T0 Nat):T0 Ev:=match fs.head?.bind (l.mH[·]?)with
 | some (_,.silent x y _)=>
  let es:=[Ev.asks i x fs,.quiet i,.leg ⟨i,x,y,x⟩]
  es++vO l (qN V es) i
 | _=>[]
def yM(l:pM)(V:qu)(i:Nat):T0 Nat:=(V.calls[i]?).elim [] λc=>if (c.st=="rings")=Db then IR l V (GR c)else[]
def rG(l:pM):T0 Nat->qu->T0 Ev
 | [],_=>[]
 | i::r,V=>tM l V i (yM l V i)++rG l r (qN V (tM l V i (yM l V i)))
def Fs(l:pM)(V:qu):T0 Ev:=.turn::rG l (List.range V.calls.length) (qa V .turn)
inductive tV
 | call (y z:Str)
 | num (w x:Str) (ns:List Int)
 | turn
 | sw (b:Bool) (i:Int)
def tV.d:tV->D
 | .call y z=>.tup [.str "call",.str y,.str z]
 | .num w x ns=>.tup (.str w::.str x::ns.map D.int)
 | .turn=>.tup [.str "turn"]
 | .sw b i=>.tup [.str (US b),.int i]
def tV.nq:tV->Prop
 | .num w _ ns=>((w="answer"\/w="hang"\/w="hold"\/w="back")/\ns.length=1)\/((w="hand"\/w="join")/\ns.length=2)
 | _=>True
def uH(V:qu)(x:Str):Option Str:=if (ES V x).isSome=Db then ga "bound" else if (Jk V x).isSome=Db then ga "calls" else Fa
noncomputable def zZ(n:Nat)(i:Int):Bool:=decide (0<=i)&&decide (i<(n:Int))
def Jr(w x:Str):List pG->Bool
 | []=>pc
 | c::r=>if (w=="answer")=Db then hasS c.at_ x else if (w=="hang")=Db then c.nv x else if (w=="hold")=Db then c.mU x else if (w=="back")=Db then c.hd==ga x else(c.hd==ga x)&&(r.head?.elim pc λd=>d.mU x)
noncomputable def tO(V:qu)(ns:T0 Int):List pG:=ns.filterMap λi=>V.calls[i.toNat]?
def Gs(l:pM)(V:qu)(y z:Str):Option Str:=if hasS l.nm z=pc then ga "name" else if ((uH V y).isNone&&!(tX l V y))=Db then ga "full" else uH V y
def NN(l:pM)(V:qu)(w x:Str)(ns:T0 Int):Option Str:=if ns.all (zZ V.calls.length)=pc then ga "call" else if Jr w x (tO V ns)=pc then ga "call" else if (w=="answer"||w=="back")=pc then Fa else
 if ((uH V x).isNone&&((tO V ns).head?.elim pc (λc=>c.mM x)&&!(tX l V x)))=Db then ga "full" else uH V x
def OS(V:qu)(b:Bool)(i:Int):Option Str:=if zZ V.on.length i=pc then ga "wish" else if (V.on.getD i.toNat pc==b)=Db then ga "wish" else Fa
def xJ(l:pM)(V:qu):tV->Option Str
 | .turn=>Fa
 | .sw b i=>OS V b i
 | .call y z=>if hasS l.pn y=pc then ga "name" else Gs l V y z
 | .num w x ns=>if hasS l.pn x=pc then ga "name" else NN l V w x ns
def qC(c:pG)(x:Str):Str:=(rN c.ms x).headD Str.empty
noncomputable def Bb(V:qu)(w x:Str)(i:Nat):Ev:=(V.calls[i]?).elim .turn λc=>if (w=="answer")=Db then .talks i [c.cr,x]else if (w=="hold")=Db then .held i x else .talks i c.ms
def Ej(V:qu)(w x:Str)(i j:Nat):Ev:=(V.calls[i]?).elim .turn λc=>(V.calls[j]?).elim .turn λd=>.merge i j (if (w=="hand")=Db then[qC c x,qC d x]else[x,qC c x,qC d x])
def wF(l:pM)(V:qu):tV->T0 Ev
 | .call y z=>EY l V y z
 | .num w x [i]=>if (w=="hang")=Db then vh V x i.toNat else[Bb V w x i.toNat]
 | .num w x [i,j]=>[Ej V w x i.toNat j.toNat]
 | .num _ _ _=>[]
 | .turn=>Fs l V
 | .sw b i=>[.sw b i.toNat]
structure rP where
 p:Uf
 wy:Uf
structure uj where
 b:Uf
 ca:Uf
 le:Uf
 nx:Uf
 on:Uf
 lo:Uf
 cs:List rP
noncomputable def GC:Option Str->D
 | none=>.mK
 | some x=>.str x
def rC(c:pG)(wy ad md:Uf):T0 (Str×D):=[("state",.str c.st),("caller",.str c.cr),("way",.ref wy),("at",.ref ad),("members",.ref md),("holder",GC c.hd),("since",.int c.si),("word",GC c.wd)]
noncomputable def tU(p:D)(h t:Int)(ca le nx on lo:Uf):T0 (Str×D):=[("plan",p),("hour",.int h),("turn",.int t),("calls",.ref ca),("legs",.ref le),("nexts",.ref nx),("on",.ref on),("log",.ref lo)]
noncomputable def tG(ps:T0 (Str×Int)):T0 (qW×D):=ps.map λp=>((Sum.inr p.1:qW),D.int p.2)
noncomputable def uj.lists(A:uj):QXQ:=A.ca::A.le::A.on::A.lo::A.cs.map (·.wy)
noncomputable def uj.foot(A:uj):QXQ:=A.b::A.nx::(A.lists++A.cs.map (·.p))
def se(a:Ad)(M:Mp)(L:QXQ)(k:rP)(c:pG):Prop:=CP λad md=>M k.p=ga (.ins a.e (rC c k.wy ad md))/\og M k.wy=ga (c.way.map D.str)/\og M ad=ga (c.at_.map D.str)/\og M md=ga (c.ms.map D.str)/\ad∉L/\md∉L
structure pS(a:Ad)(M:Mp)(A:uj)(V:qu):Prop where
 at_:M A.b=ga (.ins a.c (tU (.ref V.p) V.h V.t A.ca A.le A.nx A.on A.lo))
 ca:og M A.ca=ga (A.cs.map λk=>D.ref k.p)
 le:og M A.le=ga (V.mQ.map rM.d)
 nx:xS M A.nx=ga (tG V.ps)
 on:og M A.on=ga (V.on.map D.bl)
 lo:og M A.lo=ga (V.log.map Ev.d)
 len:A.cs.length=V.calls.length
 cs:∀(i:Nat) k c,A.cs[i]?=ga k->V.calls[i]?=ga c->se a M (A.lists++V.fo) k c
 nl:A.lists.Nodup
 np:(A.b::A.cs.map (·.p)).Nodup
 fo:∀x∈V.fo,∃c,M x=ga c
def xl{F:QXQ}{M:Mp}{p:Uf}{c:vc}(h:∀x∈F,∃c,M x=ga c):∀x∈F,∃d,pI M p c x=ga d:=λx hx=>by
 by_cases z:x=p
 .exact⟨c,by rw[z];exact pW⟩
 .obtain⟨d,e⟩:=h x hx;exact⟨d,qT.put x d z e⟩
def se.sub{k:rP}{c:pG}(h:se a M L k c)(s:qG M M'):se a M' L k c:=by obtain⟨ad,md,h1,h2,h3,h4,h5⟩:=h;exact⟨ad,md,s _ _ h1,s.lst h2,s.lst h3,s.lst h4,h5⟩
def pS.sub{A:uj}{V:qu}(h:pS a M A V)(s:qG M M'):pS a M' A V:=⟨s _ _ h.at_,s.lst h.ca,s.lst h.le,s.dk h.nx,s.lst h.on,s.lst h.lo,h.len,λi k c e1 e2=>(h.cs i k c e1 e2).sub s,h.nl,h.np,λx hx=>(h.fo x hx).imp λc e=>s x c e⟩
def se.nR{k:rP}{c:pG}{x:Uf}{ds:T0 D}(h:se a M L k c)(kp:qT x M M')(hl:og M x=ga ds)(hx:x∈L)(hn:k.wy≠x):se a M' L k c:=by obtain⟨ad,md,h1,h2,h3,h4,h5,h6⟩:=h;exact⟨ad,md,kp _ _ (λz=>by rw[z,pY hl]at h1;cases h1) h1,kp.lst hn h2,kp.lst (λz=>h5 (z ▸ hx)) h3,kp.lst (λz=>h6 (z ▸ hx)) h4,h5,h6⟩
def se.oa{k:rP}{c:pG}{x C:Uf}{fs:T0 (Str×D)}(h:se a M L k c)(kp:qT x M M')(hi:M x=ga (.ins C fs))(hn:k.p≠x):se a M' L k c:=by obtain⟨ad,md,h1,h2,h3,h4,h5⟩:=h;exact⟨ad,md,kp _ _ hn h1,kp.lst (pZ h2 hi) h2,kp.lst (pZ h3 hi) h3,kp.lst (pZ h4 hi) h4,h5⟩
def va{a p:Uf}{ds:T0 (qW×D)}{es:T0 D}(h:xS M a=ga ds)(hp:og M p=ga es):a≠p:=λz=>by subst z;unfold xS at h;rw[pY hp]at h;cases h
def se.oZ{k:rP}{c:pG}{x:Uf}{ds:T0 (qW×D)}(h:se a M L k c)(kp:qT x M M')(hd:xS M x=ga ds):se a M' L k c:=by obtain⟨ad,md,h1,h2,h3,h4,h5⟩:=h;exact⟨ad,md,kp _ _ (λz=>by rw[z,w9 hd]at h1;cases h1) h1,kp.lst (dZ (va hd h2)) h2,kp.lst (dZ (va hd h3)) h3,kp.lst (dZ (va hd h4)) h4,h5⟩
def rm{α:Type}{l:List α}{i:Nat}{x:α}(h:l[i]?=ga x):x∈l:=fj h
def pS.ne{A:uj}{V:qu}(h:pS a M A V):A.ca≠A.le/\A.ca≠A.on/\A.ca≠A.lo/\A.le≠A.on/\A.le≠A.lo/\A.on≠A.lo/\∀k∈A.cs,k.wy≠A.ca/\k.wy≠A.le/\k.wy≠A.on/\k.wy≠A.lo:=by
 have n:=h.nl;unfold uj.lists at n;obtain⟨n1,n⟩:=dS.mp n;obtain⟨n2,n⟩:=dS.mp n;obtain⟨n3,n⟩:=dS.mp n;obtain⟨n4,n⟩:=dS.mp n;have w:∀k∈A.cs,k.wy∈A.cs.map (·.wy):=λk hk=>dF.mpr ⟨k,hk,Z'⟩;refine⟨λz=>n1 (z ▸ by simp),λz=>n1 (z ▸ by simp),λz=>n1 (z ▸ by simp),λz=>n2 (z ▸ by simp),λz=>n2 (z ▸ by simp),λz=>n3 (z ▸ by simp),λk hk=>⟨λz=>n1 ?_,λz=>n2 ?_,λz=>n3 ?_,λz=>n4 ?_⟩⟩
 .rw[<-z];exact dH _ (dH _ (dH _ (w k hk)))
 .rw[<-z];exact dH _ (dH _ (w k hk))
 .rw[<-z];exact dH _ (w k hk)
 .rw[<-z];exact w k hk
def pS.oJ{A:uj}{V:qu}(_:pS a M A V):A.ca∈A.lists/\A.le∈A.lists/\A.lo∈A.lists/\(∀k∈A.cs,k.wy∈A.lists)/\A.on∈A.lists:=by unfold uj.lists;refine⟨by simp,by simp,by simp,?_,by simp⟩;exact λk hk=>by simp;exact .inr (.inr (.inr (.inr ⟨k,hk,Z'⟩)))
def pS.oX{A:uj}{V:qu}(h:pS a M A V):A.ca∈A.lists++V.fo/\A.le∈A.lists++V.fo/\A.lo∈A.lists++V.fo/\(∀k∈A.cs,k.wy∈A.lists++V.fo)/\A.on∈A.lists++V.fo:=by obtain⟨h1,h2,h3,h4,h5⟩:=h.oJ;exact⟨fJ _ h1,fJ _ h2,fJ _ h3,λk hk=>fJ _ (h4 k hk),fJ _ h5⟩
def rc(A:uj)(M:Mp)(A':uj)(M':Mp):Prop:=(∀x c,x∉A.foot->M x=ga c->M' x=ga c)/\(∀x∈A'.foot,x∈A.foot\/M x=Fa)/\(∀(i:Nat) k,A.cs[i]?=ga k->A'.cs[i]?=ga k)/\∀x c,M x=ga c->∃d,M' x=ga d
def F1{M:Mp}{p y:Uf}{c d:vc}(h:M y=ga d):∃e,pI M p c y=ga e:=by
 by_cases z:y=p
 .exact⟨c,by rw[z];exact pW⟩
 .exact⟨d,qT.put y d z h⟩
def rc.refl{A:uj}:rc A M A M:=⟨λ_ _ _ h=>h,λ_ h=>.inl h,λ_ _ h=>h,λ_ c h=>⟨c,h⟩⟩
def rc.trans{A A1 A2:uj}{M M1 M2:Mp}(s:rc A M A1 M1)(u:rc A1 M1 A2 M2):rc A M A2 M2:=by
 refine⟨λx c n h=>u.1 x c (λz=>?_) (s.1 x c n h),λx hx=>?_,λi k h=>u.2.2.1 i k (s.2.2.1 i k h),λx c h=>(s.2.2.2 x c h).elim λd e=>u.2.2.2 x d e⟩
 .rcases s.2.1 x z with y|y
  .exact n y
  .rw[y]at h;cases h
 .rcases u.2.1 x hx with z|z
  .exact s.2.1 x z
  .by_cases y:x∈A.foot
   .exact .inl y
   .refine .inr ?_;cases e:M x with
    | none=>rfl
    | some c=>rw[s.1 x c y e]at z;cases z
def rc.keep{A:uj}{x:Uf}{c:vc}(h:x∈A.foot)(k:qT x M (pI M x c)):rc A M A (pI M x c):=⟨λy c n e=>k y c (λz=>n (z ▸ h)) e,λ_ h=>.inl h,λ_ _ h=>h,λ_ _ h=>F1 h⟩
def rc.sub{A:uj}(s:qG M M'):rc A M A M':=⟨λy c _ e=>s y c e,λ_ h=>.inl h,λ_ _ h=>h,λx c h=>⟨c,s x c h⟩⟩
def uj.mV(A:uj):A.b∈A.foot/\A.nx∈A.foot/\A.ca∈A.foot/\A.le∈A.foot/\A.lo∈A.foot/\(∀k∈A.cs,k.p∈A.foot)/\∀k∈A.cs,k.wy∈A.foot:=by unfold uj.foot uj.lists;exact⟨by simp,by simp,by simp,by simp,by simp,λk hk=>by simp;exact .inr (.inr (.inr (.inr (.inr (.inr (.inr ⟨k,hk,Z'⟩)))))),λk hk=>by simp;exact .inr (.inr (.inr (.inr (.inr (.inr (.inl ⟨k,hk,Z'⟩))))))⟩
def uj.nP(A:uj){x:Uf}(h:x∈A.lists):x∈A.foot:=by unfold uj.foot;exact dH _ (dH _ (dX.mpr (.inl h)))
variable {M M1:Mp}{A:uj}{V:qu}
def FC{α:Type}{l:List α}{i j:Nat}{x y:α}(h:(l.set i x)[j]?=ga y):(j=i/\y=x/\i<l.length)\/(j≠i/\l[j]?=ga y):=by
 by_cases z:j=i
 .subst z;by_cases hl:j<l.length
  .rw[fC hl]at h;exact .inl ⟨Z',(dw h).symm,hl⟩
  .rw[fk (by rw[iy];lia)]at h;cases h
 .rw[fB (dZ z)]at h;exact .inr ⟨z,h⟩
def Lv{α β:Type}{f:α->β}{l:List α}{i j:Nat}{x y:α}(nd:(l.map f).Nodup)(h1:l[i]?=ga x)(h2:l[j]?=ga y)(e:f x=f y):i=j:=by
 have e1:(l.map f)[i]?=ga (f x):=by rw[dE,h1];rfl
 have e2:(l.map f)[j]?=ga (f y):=by rw[dE,h2];rfl
 obtain⟨l1,q1⟩:=c9.mp e1;obtain⟨l2,q2⟩:=c9.mp e2;exact(lH nd).mp (q1.trans (e.trans q2.symm))
def pS.nw(h:pS a M A V):(A.cs.map (·.wy)).Nodup:=(dS.mp (dS.mp (dS.mp (dS.mp h.nl).2).2).2).2
def pS.oN(h:pS a M A V):(A.cs.map (·.p)).Nodup/\∀k∈A.cs,k.p≠A.b:=⟨(dS.mp h.np).2,λk hk z=>(dS.mp h.np).1 (z ▸ dF.mpr ⟨k,hk,Z'⟩)⟩
def pS.ou(h:pS a M A V){es:T0 Ev}:pS a (pI M A.lo (.lst (es.map Ev.d))) A {V with log:=es}/\rc A M A (pI M A.lo (.lst (es.map Ev.d))):=by have kp:qT A.lo M (pI M A.lo (.lst (es.map Ev.d))):=.put;obtain⟨n1,n2,n3,n4,n5,n6,nw⟩:=h.ne;exact⟨⟨kp _ _ (dZ (pZ h.lo h.at_)) h.at_,kp.lst n3 h.ca,kp.lst n5 h.le,kp.dk (va h.nx h.lo) h.nx,kp.lst n6 h.on,pK,h.len,λi k c e1 e2=>(h.cs i k c e1 e2).nR kp h.lo h.oX.2.2.1 (nw k (rm e1)).2.2.2,h.nl,h.np,xl h.fo⟩,.keep A.mV.2.2.2.2.1 kp⟩
def pS.oA(h:pS a M A V){es:List rM}:pS a (pI M A.le (.lst (es.map rM.d))) A {V with mQ:=es}/\rc A M A (pI M A.le (.lst (es.map rM.d))):=by have kp:qT A.le M (pI M A.le (.lst (es.map rM.d))):=.put;obtain⟨n1,n2,n3,n4,n5,n6,nw⟩:=h.ne;exact⟨⟨kp _ _ (dZ (pZ h.le h.at_)) h.at_,kp.lst n1 h.ca,pK,kp.dk (va h.nx h.le) h.nx,kp.lst (dZ n4) h.on,kp.lst (dZ n5) h.lo,h.len,λi k c e1 e2=>(h.cs i k c e1 e2).nR kp h.le h.oX.2.1 (nw k (rm e1)).2.1,h.nl,h.np,xl h.fo⟩,.keep A.mV.2.2.2.1 kp⟩
def pS.oW(h:pS a M A V){bs:T0 Bool}:pS a (pI M A.on (.lst (bs.map D.bl))) A {V with on:=bs}/\rc A M A (pI M A.on (.lst (bs.map D.bl))):=by have kp:qT A.on M (pI M A.on (.lst (bs.map D.bl))):=.put;obtain⟨n1,n2,n3,n4,n5,n6,nw⟩:=h.ne;exact⟨⟨kp _ _ (dZ (pZ h.on h.at_)) h.at_,kp.lst n2 h.ca,kp.lst n4 h.le,kp.dk (va h.nx h.on) h.nx,pK,kp.lst (dZ n6) h.lo,h.len,λi k c e1 e2=>(h.cs i k c e1 e2).nR kp h.on h.oX.2.2.2.2 (nw k (rm e1)).2.2.1,h.nl,h.np,xl h.fo⟩,.keep (A.nP h.oJ.2.2.2.2) kp⟩
def pS.oP(h:pS a M A V){ps:T0 (Str×Int)}:pS a (pI M A.nx (.dk (tG ps))) A {V with ps:=ps}/\rc A M A (pI M A.nx (.dk (tG ps))):=by have kp:qT A.nx M (pI M A.nx (.dk (tG ps))):=.put;exact⟨⟨kp _ _ (dZ (Cg h.nx h.at_)) h.at_,kp.lst (dZ (va h.nx h.ca)) h.ca,kp.lst (dZ (va h.nx h.le)) h.le,DS pW,kp.lst (dZ (va h.nx h.on)) h.on,kp.lst (dZ (va h.nx h.lo)) h.lo,h.len,λi k c e1 e2=>(h.cs i k c e1 e2).oZ kp h.nx,h.nl,h.np,xl h.fo⟩,.keep A.mV.2.1 kp⟩
def pS.putT(h:pS a M A V){t:Int}:pS a (pI M A.b (.ins a.c (tU (.ref V.p) V.h t A.ca A.le A.nx A.on A.lo))) A {V with t:=t}/\rc A M A (pI M A.b (.ins a.c (tU (.ref V.p) V.h t A.ca A.le A.nx A.on A.lo))):=by have kp:qT A.b M (pI M A.b (.ins a.c (tU (.ref V.p) V.h t A.ca A.le A.nx A.on A.lo))):=.put;exact⟨⟨pW,kp.lst (pZ h.ca h.at_) h.ca,kp.lst (pZ h.le h.at_) h.le,kp.dk (Cg h.nx h.at_) h.nx,kp.lst (pZ h.on h.at_) h.on,kp.lst (pZ h.lo h.at_) h.lo,h.len,λi k c e1 e2=>(h.cs i k c e1 e2).oa kp h.at_ (h.oN.2 k (rm e1)),h.nl,h.np,xl h.fo⟩,.keep A.mV.1 kp⟩
def pS.oi(h:pS a M A V){i:Nat}{k:rP}{c c':pG}{ad md:Uf}(e1:A.cs[i]?=ga k)(e2:V.calls[i]?=ga c)(ew:c'.way=c.way)(la:og M ad=ga (c'.at_.map D.str))(lm:og M md=ga (c'.ms.map D.str))(na:ad∉A.lists++V.fo)(nm:md∉A.lists++V.fo):
  pS a (pI M k.p (.ins a.e (rC c' k.wy ad md))) A {V with calls:=V.calls.set i c'}/\rc A M A (pI M k.p (.ins a.e (rC c' k.wy ad md))):=by
 have kp:qT k.p M (pI M k.p (.ins a.e (rC c' k.wy ad md))):=.put;obtain⟨_,_,h1,h2,_⟩:=h.cs i k c e1 e2;refine⟨⟨kp _ _ (dZ (h.oN.2 k (rm e1))) h.at_,kp.lst (pZ h.ca h1) h.ca,kp.lst (pZ h.le h1) h.le,kp.dk (Cg h.nx h1) h.nx,kp.lst (pZ h.on h1) h.on,kp.lst (pZ h.lo h1) h.lo,by rw[h.len,iy],λj k' d f1 f2=>?_,h.nl,h.np,xl h.fo⟩,.keep (A.mV.2.2.2.2.2.1 k (rm e1)) kp⟩;rcases FC f2 with⟨rfl,rfl,_⟩|⟨hj,f2⟩
 .rw[e1]at f1;cases f1;exact⟨ad,md,pW,by rw[ew];exact kp.lst (pZ h2 h1) h2,kp.lst (pZ la h1) la,kp.lst (pZ lm h1) lm,na,nm⟩
 .exact(h.cs j k' d f1 f2).oa kp h1 λz=>hj (Lv h.oN.1 f1 e1 z)
def pS.oB(h:pS a M A V){i:Nat}{k:rP}{c:pG}{ws:QQQ}(e1:A.cs[i]?=ga k)(e2:V.calls[i]?=ga c):
  pS a (pI M k.wy (.lst (ws.map D.str))) A {V with calls:=V.calls.set i {c with way:=ws}}/\rc A M A (pI M k.wy (.lst (ws.map D.str))):=by
 have kp:qT k.wy M (pI M k.wy (.lst (ws.map D.str))):=.put;obtain⟨ad,md,h1,h2,h3,h4,h5,h6⟩:=h.cs i k c e1 e2;obtain⟨n1,n2,n3,n4,n5,n6,nw⟩:=h.ne;obtain⟨w1,w2,w3,w4⟩:=nw k (rm e1);have kL:=h.oX.2.2.2.1 k (rm e1);refine⟨⟨kp _ _ (dZ (pZ h2 h.at_)) h.at_,kp.lst (dZ w1) h.ca,kp.lst (dZ w2) h.le,kp.dk (va h.nx h2) h.nx,kp.lst (dZ w3) h.on,kp.lst (dZ w4) h.lo,by rw[h.len,iy],λj k' d f1 f2=>?_,h.nl,h.np,xl h.fo⟩,.keep (A.mV.2.2.2.2.2.2 k (rm e1)) kp⟩;rcases FC f2 with⟨rfl,rfl,_⟩|⟨hj,f2⟩
 .rw[e1]at f1;cases f1;exact⟨ad,md,kp _ _ (dZ (pZ h2 h1)) h1,pK,kp.lst (λz=>h5 (z ▸ kL)) h3,kp.lst (λz=>h6 (z ▸ kL)) h4,h5,h6⟩
 .exact(h.cs j k' d f1 f2).nR kp h2 kL λz=>hj (Lv h.nw f1 e1 z)
noncomputable def uj.add(A:uj)(k:rP):uj:={A with cs:=A.cs++[k]}
def Ah(A:uj)(k:rP):(A.add k).lists=A.lists++[k.wy]:=by unfold uj.add uj.lists;rw[dJ];rfl
def pS.dom(h:pS a M A V):(∀x∈A.lists,∃ds,og M x=ga ds)/\∀x∈A.foot,∃c,M x=ga c:=by
 have hc:∀k∈A.cs,(∃ds,og M k.wy=ga ds)/\∃c,M k.p=ga c:=λk hk=>by
  obtain⟨i,hi,e⟩:=gZ hk;have e1:A.cs[i]?=ga k:=by rw[df hi,e]
  have Y7:i<V.calls.length:=by rw[<-h.len];exact hi
  have e2:V.calls[i]?=ga V.calls[i]:=df Y7;obtain⟨ad,md,h1,h2,_⟩:=h.cs i k _ e1 e2;exact⟨⟨_,h2⟩,_,h1⟩
 have hl:∀x∈A.lists,∃ds,og M x=ga ds:=λx hx=>by
  unfold uj.lists at hx;simp only[dC,dF]at hx;rcases hx with rfl|rfl|rfl|rfl|⟨k,hk,rfl⟩
  .exact⟨_,h.ca⟩
  .exact⟨_,h.le⟩
  .exact⟨_,h.on⟩
  .exact⟨_,h.lo⟩
  .exact(hc k hk).1
 refine⟨hl,λx hx=>?_⟩;unfold uj.foot at hx;simp only[dC,dX,dF]at hx;rcases hx with rfl|rfl|hx|⟨k,hk,rfl⟩
 .exact⟨_,h.at_⟩
 .exact⟨_,w9 h.nx⟩
 .obtain⟨ds,e⟩:=hl x hx;exact⟨_,pY e⟩
 .exact(hc k hk).2
def pS.nZ(h:pS a M A V){x:Uf}(hx:M x=Fa):x∉A.lists:=λz=>by obtain⟨ds,e⟩:=h.dom.1 x z;have:=pY e;rw[hx]at this;cases this
def pS.nu(h:pS a M A V){x:Uf}(hx:M x=Fa):x∉A.lists++V.fo:=λz=>by
 rcases dX.mp z with z|z
 .exact h.nZ hx z
 .obtain⟨c,e⟩:=h.fo x z;rw[hx]at e;cases e
def pS.n9(h:pS a M A V){x:Uf}(hx:M x=Fa):x∉A.foot:=λz=>by obtain⟨ds,e⟩:=h.dom.2 x z;rw[hx]at e;cases e
def pS.oh(h:pS a M A V)(s:qG M M1){p wy ad md:Uf}{c:pG}(hp:M p=Fa)(hw:M wy=Fa)(ha:M ad=Fa)(hm:M md=Fa)(h1:M1 p=ga (.ins a.e (rC c wy ad md)))(h2:og M1 wy=ga (c.way.map D.str))(h3:og M1 ad=ga (c.at_.map D.str))(h4:og M1 md=ga (c.ms.map D.str))(n1:ad≠wy)(n2:md≠wy):
  pS a (pI M1 A.ca (.lst ((A.cs.map λk=>D.ref k.p)++[.ref p]))) (A.add ⟨p,wy⟩) {V with calls:=V.calls++[c]}/\rc A M (A.add ⟨p,wy⟩) (pI M1 A.ca (.lst ((A.cs.map λk=>D.ref k.p)++[.ref p]))):=by
 have h':=h.sub s;have kp:qT A.ca M1 (pI M1 A.ca (.lst ((A.cs.map λk=>D.ref k.p)++[.ref p]))):=.put;obtain⟨m1,m2,m3,m4,m5,m6,nw⟩:=h.ne;have wL:wy∉A.lists:=h.nZ hw;have cL:=h.oX.1;have nl':∀x,x∉A.lists++V.fo->x≠wy->x∉(A.add ⟨p,wy⟩).lists++V.fo:=λx h1 h2=>by
  rw[Ah,dX,dX,dz]
  rintro ((z|z)|z)
  .exact h1 (fJ _ z)
  .exact h2 z
  .exact h1 (eG _ z)
 have Yt:∀x c,M x=ga c->x≠wy:=λx c e z=>by rw[z,hw]at e;cases e
 refine⟨⟨kp _ _ (dZ (pZ h'.ca h'.at_)) h'.at_,?_,kp.lst (dZ m1) h'.le,kp.dk (va h'.nx h'.ca) h'.nx,kp.lst (dZ m2) h'.on,kp.lst (dZ m3) h'.lo,?_,λi k d e1 e2=>?_,?_,?_,xl h'.fo⟩,λx d n e=>kp x d (λz=>n (z ▸ A.mV.2.2.1)) (s x d e),λx hx=>?_,λi k e=>by show(A.cs++[(⟨p,wy⟩:rP)])[i]?=ga k;rw[eV (c9.mp e).1];exact e,λx d e=>F1 (s x d e)⟩
 .show og _ A.ca=ga ((A.cs++[(⟨p,wy⟩:rP)]).map λk=>D.ref k.p);rw[dJ];exact pK
 .show(A.cs++[(⟨p,wy⟩:rP)]).length=(V.calls++[c]).length;rw[de,de,h.len];rfl
 .have e1:(A.cs++[(⟨p,wy⟩:rP)])[i]?=ga k:=e1;have e2:(V.calls++[c])[i]?=ga d:=e2;by_cases hi:i<A.cs.length
  .rw[eV hi]at e1;rw[eV (by rw[<-h.len];exact hi)]at e2;obtain⟨ad',md',g1,g2,g3,g4,g5,g6⟩:=(h.cs i k d e1 e2);refine⟨ad',md',kp _ _ (λz=>by have:=s _ _ g1;rw[z,pY h'.ca]at this;cases this) (s _ _ g1),kp.lst (nw k (rm e1)).1 (s.lst g2),kp.lst (λz=>g5 (z ▸ cL)) (s.lst g3),kp.lst (λz=>g6 (z ▸ cL)) (s.lst g4),nl' _ g5 (Yt _ _ (pY g3)),nl' _ g6 (Yt _ _ (pY g4))⟩
  .have ZT:i=A.cs.length:=by have:=(c9.mp e1).1;rw[de,dI]at this;lia
   subst ZT;rw[eP (dv _)]at e1;rw[h.len,eP (dv _)]at e2;simp only[fY,iJ,jv]at e1 e2;subst e1 e2;have q1:p≠A.ca:=λz=>by rw[z,pY h'.ca]at h1;cases h1
   have q2:wy≠A.ca:=λz=>wL (z ▸ h.oJ.1);exact⟨ad,md,kp p _ q1 h1,kp.lst (a:=wy) q2 h2,kp.lst (λz=>h.nu ha (z ▸ cL)) h3,kp.lst (λz=>h.nu hm (z ▸ cL)) h4,nl' _ (h.nu ha) n1,nl' _ (h.nu hm) n2⟩
 .rw[Ah];refine gc.mpr ⟨h.nl,dS.mpr ⟨dY,eI⟩,λx hx y hy=>?_⟩;rw[dz]at hy;subst hy;exact λz=>wL (z ▸ hx)
 .show(A.b::(A.cs++[(⟨p,wy⟩:rP)]).map (·.p)).Nodup;rw[dJ,<-List.cons_append];refine gc.mpr ⟨h.np,dS.mpr ⟨dY,eI⟩,λx hx y hy=>?_⟩;rw[d4,iY,dz]at hy;subst hy;refine λz=>h.n9 hp (z ▸ ?_);rcases dC.mp hx with y|y
  .rw[y];exact A.mV.1
  .obtain⟨k,hk,rfl⟩:=dF.mp y;exact A.mV.2.2.2.2.2.1 k hk
 .unfold uj.foot at hx;rw[Ah]at hx;have hx:x∈A.b::A.nx::(A.lists++[wy]++(A.cs++[(⟨p,wy⟩:rP)]).map (·.p)):=hx;simp only[dC,dX,dJ,d4,iY,dY,gu]at hx;unfold uj.foot;simp only[dC,dX];rcases hx with z|z|(z|z)|(z|z)
  .exact .inl (.inl z)
  .exact .inl (.inr (.inl z))
  .exact .inl (.inr (.inr (.inl z)))
  .exact .inr (by rw[z];exact hw)
  .exact .inl (.inr (.inr (.inr z)))
  .exact .inr (by rw[z];exact hp)
def pS.oC{V:qu}{p:Uf}{es:List rM}(h:pS a M A V)(hp:M p=Fa):
  pS a (pI (pI M p (.lst (es.map rM.d))) A.b (.ins a.c (tU (.ref V.p) V.h V.t A.ca p A.nx A.on A.lo))) {A with le:=p} {V with mQ:=es}/\rc A M {A with le:=p} (pI (pI M p (.lst (es.map rM.d))) A.b (.ins a.c (tU (.ref V.p) V.h V.t A.ca p A.nx A.on A.lo))):=by
 obtain⟨M1,e0,t,lp⟩:=xI (ds:=es.map rM.d) hp;rw[<-e0];have h1:=h.sub t;have np:p∉A.lists:=h.nZ hp;have nf:p∉A.foot:=h.n9 hp;have Yt:∀x c,M x=ga c->x≠p:=λx c e z=>by rw[z,hp]at e;cases e
 have kp:qT A.b M1 (pI M1 A.b (.ins a.c (tU (.ref V.p) V.h V.t A.ca p A.nx A.on A.lo))):=.put;have sub:∀x,x∉A.lists++V.fo->x≠p->x∉({A with le:=p}:uj).lists++V.fo:=λx h1 h2 z=>by
  rcases dX.mp z with z|z
  rotate_left
  .exact h1 (eG _ z)
  have h1:x∉A.lists:=λy=>h1 (fJ _ y);unfold uj.lists at h1 z;simp only[dC,il]at h1 z;rcases z with z|z|z|z|z
  .exact h1.1 z
  .exact h2 z
  .exact h1.2.2.1 z
  .exact h1.2.2.2.1 z
  .exact h1.2.2.2.2 z
 refine⟨⟨pW,kp.lst (pZ h1.ca h1.at_) h1.ca,kp.lst (pZ lp h1.at_) lp,kp.dk (Cg h1.nx h1.at_) h1.nx,kp.lst (pZ h1.on h1.at_) h1.on,kp.lst (pZ h1.lo h1.at_) h1.lo,h.len,λi k c e1 e2=>?_,?_,h.np,xl h1.fo⟩,λx c n e=>kp x c (λz=>n (z ▸ A.mV.1)) (t x c e),λx hx=>?_,λi k e=>e,λx d e=>F1 (t x d e)⟩
 .obtain⟨ad,md,g1,g2,g3,g4,g5,g6⟩:=(h.cs i k c e1 e2);obtain⟨ad',md',f1,f2,f3,f4,f5⟩:=((h.cs i k c e1 e2).sub t).oa kp h1.at_ (h.oN.2 k (rm e1));have q1:=kp _ _ (λz=>h.oN.2 k (rm e1) z) (t _ _ g1);exact⟨ad,md,q1,f2,kp.lst (pZ (t.lst g3) h1.at_) (t.lst g3),kp.lst (pZ (t.lst g4) h1.at_) (t.lst g4),sub _ g5 (Yt _ _ (pY g3)),sub _ g6 (Yt _ _ (pY g4))⟩
 .have n:=h.nl;unfold uj.lists at n np ⊢;simp only[dC,il]at np;simp only[dS,dC,il]at n ⊢;exact⟨⟨λz=>np.1 z.symm,n.1.2⟩,⟨np.2.2.1,np.2.2.2.1,np.2.2.2.2⟩,n.2.2⟩
 .by_cases z:x=p
  .exact .inr (z ▸ hp)
  .refine .inl ?_;unfold uj.foot uj.lists at hx ⊢;simp only[dC,dX]at hx ⊢;rcases hx with y|y|(y|y|y|y|y)|y
   .exact .inl y
   .exact .inr (.inl y)
   .exact .inr (.inr (.inl (.inl y)))
   .exact absurd y z
   .exact .inr (.inr (.inl (.inr (.inr (.inl y)))))
   .exact .inr (.inr (.inl (.inr (.inr (.inr (.inl y))))))
   .exact .inr (.inr (.inl (.inr (.inr (.inr (.inr y))))))
   .exact .inr (.inr (.inr y))
def zv(x:D)(l:T0 D):wu (x::l) 0=ga x:=by
 unfold wu;have:F8 (x::l).length 0=ga 0:=by unfold F8;rw[eB];simp
 rw[this];rfl
def xW(f:pG->Str->Bool)(a:Ad):rq:=λds M Q=>Br λL k c x=>ds=[.ref k.p,.str x]/\se a M L k c/\Q (.bl (f c x)) M
abbrev HN:=xW pG.hasB
abbrev zR:=xW pG.mS
abbrev FK:=xW pG.m8
abbrev yX:=xW pG.mT
abbrev vR:=xW pG.mM
abbrev EG:=xW pG.mU
abbrev xK:=xW pG.nv
noncomputable def QW(x:Str):D->Bool
 | .str y=>!(y==x)
 | _=>pc
def zM(a:Ad):rq:=λds M Q=>Ki λL k c x y r=>ds=[.ref k.p,.str x]/\se a M L k c/\c.ms.length<=100/\rN c.ms x=y::r/\Q (.str y) M
def Co(ss:QQQ)(x:Str):[]++(List.filter (QW x) (ss.map D.str)).map id=(rN ss x).map D.str:=by rw[eA,jk,hZ];rfl
def DM{k:Uf}{ks:QQQ}{c:Str}{K:DK}(hk:og M k=ga (ks.map D.str))(h:K (.bl (hasS ks c)) M):TK pc (.str c) (.ref k) M K:=by refine i' hk ⟨Z',qB ks,?_⟩;show K (.bl (inD (.str c) (ks.map D.str))) M;rw[sI];exact h
def Xs(w x y:Str):inD (.str w) [.str x,.str y]=(w==x||w==y):=by rw[show[D.str x,D.str y]=[x,y].map D.str from rfl,sI,fW];simp only[gm,List.any_nil,kD,hW,fg];exact⟨λh=>h.imp mf mf,λh=>h.imp mf mf⟩
def RX:Fq P w K mg base 1 a.bK (HN a):=by
 refine fq G.bK.toDG GE (λr u=>⟨_,(pB (pU (pL u (pJ v0) pF)
 (pC (pH (IT (qv u U1 (pJ v0)) (sL (qv u U1 (pJ v0))))))
 pP)
 (pB (pU (pL u (pJ v0) pF)
 (pC (pH (qv u U1 (pJ v0))))
 pP)
 (pC (pH (sW (qv u (pJ v0) (pT (rZ pF pF))) (sL (qv u U1 (pJ v0)))))))),?_⟩)
 rintro ds M Q ⟨L,k,c,x,rfl,⟨ad,md,h1,h2,h3,h4,_⟩,q⟩
 unfold pG.hasB at q;refine pD h1 (i' Z' ?_);refine qQ (c:=c.st=="rings") (λg=>?_) (λg=>?_)
 .rw[dh g]at q;refine pD h1 (i' Z' (qQ (c:=x==c.cr) (λg2=>?_) (λg2=>?_)))
  .rw[g2]at q;exact⟨M,.refl,q⟩
  .rw[show(x==c.cr)=pc from dM.mpr g2,fR]at q;exact pD h1 (i' Z' (DM h3 ⟨M,.refl,q⟩))
 .rw[dg g]at q;refine pD h1 (i' Z' ?_);refine qQ (c:=c.st=="waits") (λg2=>?_) (λg2=>?_)
  .rw[dh g2]at q;exact pD h1 (i' Z' ⟨M,.refl,q⟩)
  .rw[dg g2]at q;refine pD h1 (i' Z' ⟨pz Z',Z',Z',?_⟩);show if inD (.str c.st) [.str "talks",.str "held"]=Db then _ else _
   rw[Xs];refine qQ (λg3=>?_) (λg3=>?_)
   .rw[g3,eN]at q;exact pD h1 (i' Z' (DM h4 ⟨M,.refl,q⟩))
   .rw[show(c.st=="talks"||c.st=="held")=pc from dM.mpr g3,eY]at q;exact⟨M,.refl,q⟩
def wn:Fq P w K mg base 1 a.U (zR a):=by
 refine fq G.U.toDG zm (λr u=>⟨_,(pC (pH (sW (qv u (pJ v0) pF) (sL (qv u U1 (pJ v0)))))),?_⟩)
 rintro ds M Q ⟨L,k,c,x,rfl,⟨ad,md,h1,h2,h3,h4,_⟩,q⟩
 unfold pG.mS at q;refine pD h1 (i' Z' (qQ (c:=c.st=="talks") (λg=>?_) (λg=>?_)))
 .rw[g,eN]at q;exact pD h1 (i' Z' (DM h4 ⟨M,.refl,q⟩))
 .rw[show(c.st=="talks")=pc from dM.mpr g,eY]at q;exact⟨M,.refl,q⟩
def Oh:Fq P w K mg base 2 a.bJ (FK a):=by
 refine fq G.bJ.toDG De (λr u=>⟨_,(pB (pU (pL u (pJ v0) pF)
 (pC (pH (sW (qv u U1 (pJ v0)) (sL (qv u U1 (pJ v0))))))
 pP)
 (pC (pH (qe v0 G.e.toCls G.U (wn G) r (qp U1))))),?_⟩)
 rintro ds M Q ⟨L,k,c,x,rfl,hc,q⟩
 obtain⟨ad,md,h1,h2,h3,h4,_⟩:=id hc;unfold pG.m8 at q;refine pD h1 (i' Z' ?_);refine qQ (c:=c.st=="held") (λg=>?_) (λg=>?_)
 .rw[dh g]at q;refine pD h1 (i' Z' (i' h4 ⟨Z',qB c.ms,?_⟩));show if inD (.str x) (c.ms.map D.str)=Db then _ else _
  rw[sI];refine qQ (c:=hasS c.ms x) (λg2=>?_) (λg2=>?_)
  .rw[g2,eN]at q;refine pD h1 (i' Z' ?_);cases e:c.hd with
   | none=>rw[e]at q;exact⟨M,.refl,q⟩
   | some y=>
    rw[e]at q;refine⟨M,.refl,?_⟩;rw[show(!(ga y==ga x))=!(x==y)from by
     show(!(y==x))=_;rw[mh]]at q
    exact q
  .rw[show hasS c.ms x=pc from dM.mpr g2,eY]at q;exact⟨M,.refl,q⟩
 .rw[dg g]at q;exact pD h1 ⟨Z',_,⟨Z',Z'⟩,L,k,c,x,Z',hc,M,.refl,q⟩
def BL:Fq P w K mg base 1 a.T (yX a):=by
 refine fq G.T.toDG yI (λr u=>⟨_,(pC (pH (sW (qv u (pJ v0) (pT (rZ pF pF))) (sL (qv u U1 (pJ v0)))))),?_⟩)
 rintro ds M Q ⟨L,k,c,x,rfl,⟨ad,md,h1,h2,h3,h4,_⟩,q⟩
 unfold pG.mT at q;refine pD h1 (i' Z' ⟨pz Z',Z',Z',?_⟩);show if inD (.str c.st) [.str "rings",.str "waits"]=Db then _ else _
 rw[Xs];refine qQ (λg3=>?_) (λg3=>?_)
 .rw[g3,eN]at q;exact pD h1 (i' Z' ⟨M,.refl,q⟩)
 .rw[show(c.st=="rings"||c.st=="waits")=pc from dM.mpr g3,eY]at q;exact⟨M,.refl,q⟩
def Gn:Fq P w K mg base 1 a.av (vR a):=by
 refine fq G.av.toDG ze (λr u=>⟨_,(pC (pH (sW (qv u (pJ v0) pF) (sL (qv u U1 (pJ v0)))))),?_⟩)
 rintro ds M Q ⟨L,k,c,x,rfl,⟨ad,md,h1,h2,h3,h4,_⟩,q⟩
 unfold pG.mM at q;refine pD h1 (i' Z' (qQ (c:=c.st=="waits") (λg=>?_) (λg=>?_)))
 .rw[g,eN]at q;exact pD h1 (i' Z' (DM h3 ⟨M,.refl,q⟩))
 .rw[show(c.st=="waits")=pc from dM.mpr g,eY]at q;exact⟨M,.refl,q⟩
def Lu:Fq P w K mg base 2 a.bI (xK a):=by
 refine fq G.bI.toDG xn (λr u=>⟨_,(pC (pH (IT (qe v0 G.e.toCls G.T (BL G) r (qp U1)) (IT (qv u U1 (pJ v0)) (sL (qv u U1 (pJ v0))))))),?_⟩)
 rintro ds M Q ⟨L,k,c,x,rfl,hc,q⟩
 obtain⟨ad,md,h1,h2,h3,h4,_⟩:=id hc;unfold pG.nv at q;refine pD h1 ⟨Z',_,⟨Z',Z'⟩,L,k,c,x,Z',hc,qQ (c:=c.mT x) (λg=>?_) (λg=>?_)⟩
 .rw[g]at q;exact⟨M,.refl,q⟩
 .rw[show c.mT x=pc from dM.mpr g,fR]at q;refine pD h1 (i' Z' (i' h3 ⟨Z',qB c.at_,?_⟩));show if inD (.str x) (c.at_.map D.str)=Db then _ else _
  rw[sI];refine qQ (c:=hasS c.at_ x) (λg2=>?_) (λg2=>?_)
  .rw[g2]at q;exact⟨M,.refl,q⟩
  .rw[show hasS c.at_ x=pc from dM.mpr g2,fR]at q;exact pD h1 (i' Z' (DM h4 ⟨M,.refl,q⟩))
def Gm:Fq P w K mg base 2 a.ax (EG a):=by
 refine fq G.ax.toDG DC (λr u=>⟨_,(pC (pH (sW (qe v0 G.e.toCls G.U (wn G) r (qp U1)) (sL (qv u (pX qF Z' G.g qE (qp (pJ v0))) pE))))),?_⟩)
 rintro ds M Q ⟨L,k,c,x,rfl,hc,q⟩
 obtain⟨ad,md,h1,h2,h3,h4,_⟩:=id hc;unfold pG.mU at q;refine pD h1 ⟨Z',_,⟨Z',Z'⟩,L,k,c,x,Z',hc,qQ (c:=c.mS x) (λg=>?_) (λg=>?_)⟩
 .rw[g,eN]at q;refine pD h1 (i' Z' (i' h4 ⟨M,.refl,?_⟩));rw[cY];have:(((c.ms.length:Nat):Int)==2)=(c.ms.length==2):=by rw[fW,fg,fg];lia
  show Q (.bl (((c.ms.length:Nat):Int)==2)) M;rw[this];exact q
 .rw[show c.mS x=pc from dM.mpr g,eY]at q;exact⟨M,.refl,q⟩
def Gc:Fq P w K mg base 1 a.aw (zM a):=by
 refine fq G.aw.toDG yV (λr u=>⟨_,(pC (pH (pN (qO Z' (xQ (ix:=[Fa,ga 1]) (N':=["member","phone"])) (qI (pJ v0)) (qD 0) (vn (pL u v0 U1)) v0) pE))),?_⟩)
 rintro ds M Q ⟨L,k,c,x,y,r,rfl,hc,hl,e,q⟩
 have hz:=dQ;obtain⟨ad,md,h1,h2,h3,h4,_⟩:=id hc;refine pD h1 (i' Z' (i' h4 (tL (f:=id) (t:=QW x) h4 _ [] _ (by rw[cY];simp only[dN];lia) (λd hd k0 hk=>?_) (λd hd _ k0 hk=>?_) λp hp=>?_)))
 .obtain⟨y,hy,rfl⟩:=dF.mp hd;exact hk
 .obtain⟨y,hy,rfl⟩:=dF.mp hd;exact hk
 rw[Co,e];exact i' pK (i' (zv _ _) ⟨M,.new hp,q⟩)
theorem B9:∀bs:T0 Bool,Bm (.bl Db) (bs.map D.bl)=bs.findIdx? id
 | []=>rfl
 | b::r=>by rw[d4,List.findIdx?_cons];unfold Bm;rw[B9 r];cases b<;>rfl
theorem NR(x:D):∀ds:T0 D,(Bm x ds).isSome=ds.any λd=>Px d x
 | []=>rfl
 | d::r=>by
  unfold Bm;rw[gm];by_cases h:Px d x=Db
  .rw[dh h,h];rfl
  .rw[dg h,jt,NR x r,show Px d x=pc from dM.mpr h,fR]
theorem B6:∀bs:T0 Bool,(bs.map D.bl).all uX=Db
 | []=>rfl
 | _::r=>by rw[d4,fD,B6 r];rfl
structure Rd(a:Ad)(M:Mp)(A:uj)(V:qu)(l:pM):Prop where
 bd:pS a M A V
 k:V.calls.length<=1000000
 pl:sY a M V.p l
 ok:rj l
 on:V.on.length=l.mH.length
 ms:∀c∈V.calls,(∀x∈c.ms,x∈l.pn)/\c.ms.length<=100
def Rd.sub{V:qu}(h:Rd a M A V l)(s:qG M M'):Rd a M' A V l:=⟨h.bd.sub s,h.k,h.pl.sub s,h.ok,h.on,h.ms⟩
def LA:rq:=λds M Q=>CP λr bs=>ds=[.ref r]/\og M r=ga (List.map D.bl bs)/\Q (O7 (bs.findIdx? id)) M
def KF(f:qu->Str->D)(a:Ad):rq:=λds M Q=>C5 λA V x=>ds=[.ref A.b,.str x]/\pS a M A V/\V.calls.length<=1000000/\Q (f V x) M
def Vi(V:qu)(x:Str):D:=.int (vf V x:Nat)
def MY(V:qu)(x:Str):D:=O7 (ES V x)
def AM(V:qu)(x:Str):D:=O7 (vQ V x)
def Vh(V:qu)(x:Str):D:=O7 (Jk V x)
def Uj(V:qu)(x:Str):D:=.bl (AJ V x)
abbrev EA:=KF Vi
abbrev C9:=KF MY
abbrev Ba:=KF AM
abbrev A0:=KF Vh
abbrev AB:=KF Uj
def xH(a:Ad):rq:=λds M Q=>Br λA V l x=>ds=[.ref A.b,.str x]/\Rd a M A V l/\x∈l.pn/\Q (.bl (tX l V x)) M
def An(a:Ad):rq:=λds M Q=>F9 λA V l c z=>ds=[.ref A.b,.str c,.str z]/\Rd a M A V l/\z∈l.nm/\∀q M',qG M M'->M q=Fa->og M' q=ga ((ut l V c z).map D.str)->Q (.ref q) M'
def AA(a:Ad):rq:=λds M Q=>CP λA V=>ds=[.ref A.b]/\pS a M A V/\Q (.int ((V.h+V.t) % 24)) M
def Q3(a:Ad):rq:=λds M Q=>F9 λA V l c z=>ds=[.ref A.b,.str c,.str z]/\Rd a M A V l/\z∈l.nm/\Q (.bl (xT l V c z)) M
def Jn{V:qu}(h:pS a M A V){pre post:T0 D}{d:D}(e:pre++d::post=A.cs.map λk=>D.ref k.p):∃k c,A.cs[pre.length]?=ga k/\V.calls[pre.length]?=ga c/\d=.ref k.p/\se a M (A.lists++V.fo) k c/\V.calls.take (pre.length+1)=V.calls.take pre.length++[c]:=by
 have h1:(A.cs.map λk=>D.ref k.p)[pre.length]?=ga d:=by rw[<-e];simp
 rw[dE]at h1;cases z:A.cs[pre.length]? with
 | none=>rw[z]at h1;cases h1
 | some k=>
  rw[z]at h1;have hi:pre.length<V.calls.length:=by rw[<-h.len];exact(c9.mp z).1
  have e2:V.calls[pre.length]?=ga V.calls[pre.length]:=df hi;refine⟨k,_,Z',e2,(dw h1).symm,h.cs _ _ _ z e2,?_⟩;rw[fL,e2];rfl
def yS{l:pM}{x:Str}(h:x∈l.pn):∃v,l.mZ x=ga v:=by
 obtain⟨p,hp,rfl⟩:=dF.mp h;unfold pM.mZ;cases e:l.mL.find? λq=>decide (q.1=p.1)with
 | some v=>exact⟨v,Z'⟩
 | none=>exact absurd (gx.mp e p hp) (by simp)
def qY:hasS ss x=Db↔x∈ss:=by unfold hasS;rw[fP];exact⟨λ⟨y,hy,e⟩=>ZB e ▸ hy,λh=>⟨x,h,eW _⟩⟩
def Kp(h:wZ ss=Db):ss.Nodup:=by
 have h:(tP ss).length=ss.length:=by unfold wZ at h;have:=fg.mp h;lia
 suffices key:∀r:QQQ,(tP r.reverse).length=r.reverse.length->r.reverse.Nodup by have:=key ss.reverse;rw[List.reverse_reverse]at this;exact this h
 intro r;induction r with
 | nil=>intro _;exact eI
 | cons k r ih=>
  intro h;rw[ib]at h ⊢;generalize r.reverse=l at ih h ⊢;rw[yB]at h;split at h
  .have:=J7 l;rw[de,dI]at h;lia
  .rename_i hk;rw[de,de,dI]at h;have h1:=ih (by lia);rw[N0]at hk;refine gc.mpr ⟨h1,by simp,λx hx y hy=>?_⟩;rw[dz.mp hy];exact λz=>hk (z ▸ hx)
def Iw{m:Int}(h:sH cs ks m=Db):cs≠[]/\(cs.length:Int)<=m/\cs.Nodup/\∀x∈cs,x∈ks:=by unfold sH at h;simp only[d6,eK,eR]at h;obtain⟨h1,h2,h3,h4⟩:=h;refine⟨λz=>by rw[z]at h1;exact absurd h1 (by decide),h2,Kp h3,λx hx=>qY.mp (h4 x hx)⟩
def rj.of(ok:rj l){z:Str}(hz:z∈l.nm):(l.mF z≠[]/\(l.mF z).length<=4/\(l.mF z).Nodup/\∀x∈l.mF z,x∈l.pn)/\(z∈l.pn->l.mF z=[z]/\l.mP z="one"):=by
 have hd:=gc.mp ok.nd;have h1:z∈l.pn->l.group z=Fa:=λh=>gx.mpr λg hg e=>hd.2.2 z h g.1 (dF.mpr ⟨g,hg,Z'⟩) (by simpa using e:g.1=z).symm;refine⟨?_,λh=>by unfold pM.mF pM.mP;rw[h1 h];exact⟨Z',Z'⟩⟩;unfold pM.mF;cases e:l.group z with
 | none=>
  have hp:z∈l.pn:=by
   rcases dX.mp hz with h|h
   .exact h
   .obtain⟨g,hg,rfl⟩:=dF.mp h;exact absurd (gx.mp e g hg) (by simp)
  exact⟨fQ _ _,by show 1<=4;decide,dS.mpr ⟨dY,eI⟩,λx hx=>by rw[dz.mp hx];exact hp⟩
 | some g=>obtain⟨c1,c2,c3,c4⟩:=Iw (ok.go g (gz e)).mem;exact⟨c1,by show g.2.2.length<=4;lia,c3,c4⟩
def yx{V:qu}{f:pG->Str->Bool}{m x:Str}{Q:DK}{ok:Mp->Prop}(bd:pS a M A V)(hk:V.calls.length<=1000000)(mR:ok M)(hm:∀c wy ad md,(rC c wy ad md).lookup m=Fa)(q:∀p,M p=Fa->Q (.ref p) (pI M p (.lst ((V.calls.map λc=>f c x).map D.bl)))):
  uW (rR 0) B2 (AQ m (λC s=>C=a.e/\s=xW f a) (v3 0) (vw (v3 1) xA)) ok Q (A.cs.map λk=>D.ref k.p) [] [Fa,ga (.str x)] M:=by
 have hz:=dQ;refine yt (A.cs.map λk=>D.ref k.p) (λpre acc U M'=>M=M'/\acc=((V.calls.take pre.length).map λc=>f c x).map D.bl/\∃y,U=[y,ga (.str x)]) (λ_ _ _ M' j=>by rw[<-j.1];exact mR) _ [] [] _ _ Z' ?_ ⟨Z',Z',Fa,Z'⟩ ?_ ?_
 .rw[cY,bd.len];simp only[dN];lia
 .rintro pre d post e acc U M' ⟨rfl,rfl,y,rfl⟩ k hk
  obtain⟨ka,c,e1,e2,rfl,hc,et⟩:=Jn bd e;obtain⟨_,_,g1,_⟩:=id hc;refine pD g1 ⟨hm _ _ _ _,_,⟨Z',Z'⟩,_,ka,c,x,Z',hc,hk _ _ _ ⟨Z',?_,_,Z'⟩⟩;rw[de,dI,et,dJ,dJ];rfl
 .rintro acc U M' ⟨rfl,rfl,y,rfl⟩ p hp
  rw[cY,bd.len,fK];exact q p hp
def CU:Fq P w K mg base 1 a.M LA:=by
 refine fq G.M.toDG Az (λr u=>⟨_,(pB (pU (pL u wI v0)
 (pC (pH (yj v0 (qp wI))))
 pP)
 (pC (pH rW))),?_⟩)
 rintro ds M Q ⟨r,bs,rfl,hr,q⟩
 have ei:inD (.bl Db) (bs.map D.bl)=(bs.findIdx? id).isSome:=by rw[<-B9];exact(NR _ _).symm
 refine i' hr ⟨Z',B6 bs,?_⟩;show if inD (.bl Db) (bs.map D.bl)=Db then _ else _
 rw[ei];cases e:bs.findIdx? id with
 | none=>rw[e]at q;exact⟨M,.refl,q⟩
 | some j=>rw[e]at q;exact Qr ⟨by show(og M r).isSome=Db;rw[hr];rfl,i' hr ⟨Z',B6 bs,i' ((B9 bs).trans e) ⟨M,.refl,q⟩⟩⟩
def OL:Fq P w K mg base 2 a.bG (EA a):=by
 refine fq G.bG.toDG DA (λr u=>⟨_,(pC (pH (pX qF Z' G.g qE (qp (qO Z' (xQ (ix:=[Fa,ga 1]) (N':=["call","phone"])) (qI (pJ v0)) (qD 0) (vn (uB (qe v0 G.e.toCls G.bK (RX G) r (qp U1)))) v0))))),?_⟩)
 rintro ds M Q ⟨A,V,x,rfl,bd,Yp,q⟩
 have hz:=dQ;refine pD bd.at_ (i' Z' (i' bd.ca ?_));refine wN (A.cs.map λk=>D.ref k.p) (λpre acc U M'=>M=M'/\acc.length=((V.calls.take pre.length).filter (·.hasB x)).length/\∃y,U=[y,ga (.str x)]) (λ_ _ _ M' j=>by rw[<-j.1];exact bd.ca) _ [] [] _ _ Z' ?_ ⟨Z',Z',Fa,Z'⟩ ?_ ?_
 .rw[cY,bd.len];simp only[dN];lia
 .rintro pre d post e acc U M' ⟨rfl,ha,y,rfl⟩ k k2 hk Zq
  obtain⟨ka,c,e1,e2,rfl,hc,et⟩:=Jn bd e;rw[de,dI,et,iH]at hk Zq;obtain⟨_,_,g1,_⟩:=id hc;refine pD g1 ⟨Z',_,⟨Z',Z'⟩,_,ka,c,x,Z',hc,?_⟩;refine qQ (c:=c.hasB x) (λg=>?_) (λg=>?_)
  .refine hk _ _ _ ⟨Z',?_,_,Z'⟩;rw[de,de,ha,g9 (by exact g)];rfl
  .refine Zq _ _ ⟨Z',?_,_,Z'⟩;rw[de,ha,hG (by exact g)];rfl
 .rintro acc U M' ⟨rfl,ha,y,rfl⟩ p hp
  refine i' pK ⟨M,.new hp,?_⟩;rw[cY,bd.len,fK]at ha;rw[ha];exact q
def Mc:Fq P w K mg base 3 a.bE (C9 a):=by
 refine fq G.bE.toDG Ci (λr u=>⟨_,(pC (pH (pO (CU G) r G.M (qp (qO Z' (xQ (ix:=[Fa,ga 1]) (N':=["call","phone"])) (qI (pJ v0)) (qD 0) rS (qe v0 G.e.toCls G.bJ (Oh G) r (qp U1))))))),?_⟩)
 rintro ds M Q ⟨A,V,x,rfl,bd,Yp,q⟩
 refine pD bd.at_ (i' Z' (i' bd.ca (yx bd Yp bd.ca (λ_ _ _ _=>rfl) λp hp=>⟨p,_,Z',pK,M,.new hp,?_⟩)));rw[ig];exact q
def IK:Fq P w K mg base 3 a.bF (A0 a):=by
 refine fq G.bF.toDG Ay (λr u=>⟨_,(pC (pH (pO (CU G) r G.M (qp (qO Z' (xQ (ix:=[Fa,ga 1]) (N':=["call","phone"])) (qI (pJ v0)) (qD 0) rS (qe v0 G.e.toCls G.T (BL G) r (qp U1))))))),?_⟩)
 rintro ds M Q ⟨A,V,x,rfl,bd,Yp,q⟩
 refine pD bd.at_ (i' Z' (i' bd.ca (yx bd Yp bd.ca (λ_ _ _ _=>rfl) λp hp=>⟨p,_,Z',pK,M,.new hp,?_⟩)));rw[ig];exact q
def zd:Fq P w K mg base 3 a.R (Ba a):=by
 refine fq G.R.toDG Au (λr u=>⟨_,(pC (pH (pO (CU G) r G.M (qp (qO Z' (xQ (ix:=[Fa,ga 1]) (N':=["call","phone"])) (qI (pJ v0)) (qD 0) rS (qe v0 G.e.toCls G.U (wn G) r (qp U1))))))),?_⟩)
 rintro ds M Q ⟨A,V,x,rfl,bd,Yp,q⟩
 refine pD bd.at_ (i' Z' (i' bd.ca (yx bd Yp bd.ca (λ_ _ _ _=>rfl) λp hp=>⟨p,_,Z',pK,M,.new hp,?_⟩)));rw[ig];exact q
def Gu:Fq P w K mg base 3 a.bN (AB a):=by
 refine fq G.bN.toDG zW (λr u=>⟨_,(pC (pH (pX (Su Z') Z' G.cL Ti (qp (qO Z' (xQ (ix:=[Fa,ga 1]) (N':=["call","phone"])) (qI (pJ v0)) (qD 0) rS (qe v0 G.e.toCls G.av (Gn G) r (qp U1))))))),?_⟩)
 rintro ds M Q ⟨A,V,x,rfl,bd,Yp,q⟩
 refine pD bd.at_ (i' Z' (i' bd.ca (yx bd Yp bd.ca (λ_ _ _ _=>rfl) λp hp=>i' pK ?_)));rw[eh];refine i' (yu _ _) ⟨M,.new hp,?_⟩;rw[ja];exact q
def GV:Fq P w K mg base 1 a.bM (AA a):=by
 refine fq G.bM.toDG zN (λr u=>⟨_,(pC (pH (qh (qh (pJ v0) (pJ v0)) pE))),?_⟩)
 rintro ds M Q ⟨A,V,rfl,bd,q⟩
 exact pD bd.at_ (i' Z' (pD bd.at_ (i' Z' ⟨by decide,M,.refl,q⟩)))
def Nu{l:pM}{x:Str}{v:uM}(h:l.mZ x=ga v):xc l x=v.2.1:=by unfold xc;rw[h];rfl
def yZ:Fq P w K mg base 3 a.S (xH a):=by
 refine fq G.S.toDG Ai (λr u=>⟨_,(pC (pH (qv u (qe v0 G.c.toCls G.bG (OL G) r (qp U1)) (qe (pJ v0) G.h.toCls G.bH (Dk G) r (qp U1))))),?_⟩)
 rintro ds M Q ⟨A,V,l,x,rfl,rd,hx,q⟩
 obtain⟨ph,gr,ws,Zr,pr,gd,rs,i1,_⟩:=rd.pl;obtain⟨v,hv⟩:=yS hx;refine pD rd.bd.at_ ⟨Z',_,⟨Z',Z'⟩,A,V,x,Z',rd.bd,rd.k,?_⟩;refine pD rd.bd.at_ (i' Z' (pD i1 ⟨Z',_,⟨Z',Z'⟩,V.p,x,v,l,Z',rd.pl,hv,?_⟩));unfold tX at q;rw[Nu hv]at q;exact⟨M,.refl,q⟩
def AH:Fq P w K mg base 4 a.aM (An a):=by
 refine fq G.aM.toDG zU (λr u=>⟨_,(pC (pH (qO Z' (xQ (ix:=[Fa,ga 1,ga 0]) (N':=["phone","caller","self"])) (qI (qe (pJ v0) G.h.toCls G.V (uA G) r (qp U2))) (qD 0) (vn (W3.b3 (yT (pL u v0 U1) (yA (uB (qe U2 G.c.toCls G.S (yZ G) r (qp v0))))))) v0))),?_⟩)
 rintro ds M Q ⟨A,V,l,c,z,rfl,rd,YY,q⟩
 obtain⟨ph,gr,ws,Zr,pr,gd,rs,i1,_⟩:=rd.pl;obtain⟨⟨_,p4,_,pin⟩,_⟩:=rd.ok.of YY;refine pD rd.bd.at_ (i' Z' (pD i1 ⟨Z',_,⟨Z',Z'⟩,V.p,z,l,Z',rd.pl,λq1 YQ=>i' pK ?_⟩));obtain⟨M1,e0,s1,c1⟩:=xI (ds:=List.map D.str (l.mF z)) YQ;rw[<-e0];have hz:=dQ;have ZN:=rd.sub s1;refine tL (f:=id) (t:=λd=>match d with|.str x=>!(x==c)&&tX l V x|_=>pc) c1 _ [] _ (by rw[cY];simp only[dN];lia) (λd hd k hk=>?_) (λd hd _ k hk=>?_) λq2 ZM=>?_
 .obtain⟨x,hx,rfl⟩:=dF.mp hd;have hk:k (!(x==c)&&tX l V x) M1:=hk;cases e:x==c with
  | true=>rw[e]at hk;refine EU (c:=!(x==c)) (by rw[e];rfl) hk
  | false=>rw[e]at hk;refine yK (c:=!(x==c)) (by rw[e];rfl) (pD ZN.bd.at_ ⟨Z',_,⟨Z',Z'⟩,A,V,l,x,Z',ZN,pin x hx,hk⟩)
 .obtain⟨x,hx,rfl⟩:=dF.mp hd;exact hk
 .have ef:[]++(List.filter (λd=>match d with|.str x=>!(x==c)&&tX l V x|_=>pc) ((l.mF z).map D.str)).map id=(ut l V c z).map D.str:=by rw[eA,jk,hZ];rfl
  rw[ef];have t2:=qG.new (c:=.lst ((ut l V c z).map D.str)) ZM;exact⟨_,.refl,q q2 _ (s1.trans t2) (s1.none ZM) pK⟩
def Fu:Fq P w K mg base 5 a.O (Q3 a):=by
 refine fq G.O.toDG Ii (λr u=>⟨_,(pC (pH (qv u (pX qF Z' G.g qE (qp (qe v0 G.c.toCls G.aM (AH G) r (rZ U1 U2)))) pE))),?_⟩)
 rintro ds M Q ⟨A,V,l,c,z,rfl,rd,tg,q⟩
 refine pD rd.bd.at_ ⟨Z',_,⟨Z',Z'⟩,A,V,l,c,z,Z',rd,tg,λq1 M1 s1 YQ e1=>i' e1 ⟨M,s1,?_⟩⟩;have e:((((ut l V c z).map D.str).length:Int)==0)=xT l V c z:=by unfold xT;rw[cY,fW,fg,List.isEmpty_iff,<-gD];lia
 show Q (.bl ((((ut l V c z).map D.str).length:Int)==0)) M;rw[e];exact q
def xj(a:Ad)(v:Wi):rq:=λds M Q=>Ki λp A V l c z=>ds=[.ref p,.ref A.b,.str c,.str z]/\M p=ga (.ins (v.cls a) v.nH)/\Rd a M A V l/\z∈l.nm/\Cy l.pn l.nm v/\Q (.bl (AX l V c z v)) M
def RG(a:Ad)(v:Wi):rq:=λds M Q=>Br λp L k c=>ds=[.ref p,.ref (rP.p k)]/\M p=ga (.ins (v.cls a) v.nH)/\se a M L k c/\Q (.bl (GR c v)) M
def GO:rq:=λds M Q=>CP λx y=>ds=[x,y]/\Q (.bl pc) M
def Mq(a:Ad):Uf->rq->Prop:=λC sp=>∃v:Wi,C=v.cls a/\sp=xj a v
noncomputable def NJ(a:Ad):Wi->rq
 | .silent x y n=>RG a (.silent x y n)
 | _=>GO
def Gz(a:Ad):Uf->rq->Prop:=λC sp=>∃v:Wi,C=v.cls a/\sp=NJ a v
def AC(a:Ad):rq:=λds M Q=>Ki λp x y f l h=>ds=[.ref p,.int h]/\M p=ga (.ins a.n (Wi.night x y f l).nH)/\Q (.bl (FB f l h)) M
def zx(a:Ad):rq:=λds M Q=>Ki λp x q l r ms=>ds=[.ref p,.ref q,.ref r]/\M p=ga (.ins a.o (Wi.breaks x).nH)/\sY a M q l/\og M r=ga (List.map D.str ms)/\ms.length<=100/\x∈l.pn/\(∀m∈ms,m∈l.pn)/\Q (.bl (HH l x ms)) M
def Jz{l:pM}{x:Str}{v:uM}(h:l.mZ x=ga v):vW l x=v.2.2:=by unfold vW;rw[h];rfl
def rD{ks:List rP}{i:Nat}{k:rP}(h:ks[i]?=ga k):wu (ks.map λk=>D.ref k.p) (i:Nat)=ga (.ref k.p):=uT (by rw[dE,h];rfl)
def MS(ds:T0 D):L3.uZ ds (ga (-1:Int)) Fa=ds.drop (ds.length - 1):=by
 unfold L3.uZ;have e:HT.tE ds.length 0 (ga (-1:Int))=ds.length - 1:=by show(if (-1:Int)<0 then((-1:Int)+(ds.length:Int)).toNat else min (-1:Int).toNat ds.length)=ds.length - 1;rw[dh (by decide)];lia
 rw[e];show(ds.drop (ds.length - 1)).take (ds.length - (ds.length - 1))=_;exact eJ (by rw[fX];exact dv _)
theorem Ek{α:Type}:∀w:List α,w.drop (w.length - 1)=w.getLast?.toList
 | []=>rfl
 | [_]=>rfl
 | _::z::r=>by rw[List.getLast?_cons_cons,<-Ek (z::r)];rfl
def OH{p q:Uf}{w:QQQ}(h1:og M p=ga ((w.map D.str).drop ((w.map D.str).length - 1)))(h2:og M q=ga [D.str x]):zA M 9 (.ref p) (.ref q)=ga (w.getLast?==ga x):=by
 have e:(w.map D.str).drop ((w.map D.str).length - 1)=(w.getLast?.toList).map D.str:=by rw[cY,<-kF];rw[Ek]
 rw[e]at h1;show(og M p).bind (λi=>(og M q).bind λj=>if i.length=j.length then sR (zA M 8) i j else ga pc)=_;rw[h1,h2];cases w.getLast? with
 | none=>rfl
 | some y=>show((ga (y==x)).bind λp=>(ga Db).map λq=>p&&q)=ga (ga y==ga x);show ga ((y==x)&&Db)=_;rw[Bool.and_true];rfl
def Mf(G:Gl K mg a)(x:Str)(ns:QQQ):Fq P w K mg base 6 a.aD (xj a (.bar x ns)):=by
 refine fq G.aD.toDG Gh (λr u=>⟨_,(pC (pH (sW (qv u U2 (pJ v0)) (sL (qv u U3 (pJ v0)))))),?_⟩)
 rintro ds M Q ⟨p,A,V,l,c,z,rfl,hp,_,_,_,q⟩
 refine pD hp ?_;refine qQ (c:=c==x) (λg=>pD hp ⟨Z',qB ns,M,.refl,?_⟩) (λg=>⟨M,.refl,?_⟩)
 .show Q (.bl (inD (.str z) (ns.map D.str))) M;rw[sI];dsimp only[AX]at q;rw[g,eN]at q;exact q
 .dsimp only[AX]at q;rw[show(c==x)=pc from dM.mpr g,eY]at q;exact q
def MV(G:Gl K mg a)(x:Str)(ns:QQQ):Fq P w K mg base 6 a.aE (xj a (.shut x ns)):=by
 refine fq G.aE.toDG FH (λr u=>⟨_,(pC (pH (sW (qv u U3 (pJ v0)) (sL (qv u U2 (pJ v0)))))),?_⟩)
 rintro ds M Q ⟨p,A,V,l,c,z,rfl,hp,_,_,_,q⟩
 refine pD hp ?_;refine qQ (c:=z==x) (λg=>pD hp ⟨Z',qB ns,M,.refl,?_⟩) (λg=>⟨M,.refl,?_⟩)
 .show Q (.bl (inD (.str c) (ns.map D.str))) M;rw[sI];dsimp only[AX]at q;rw[g,eN]at q;exact q
 .dsimp only[AX]at q;rw[show(z==x)=pc from dM.mpr g,eY]at q;exact q
def MF(G:Gl K mg a)(x y:Str):Fq P w K mg base 6 a.aF (xj a (.always x y)):=by
 refine fq G.aF.toDG B1 (λr u=>⟨_,(pC (pH (qv u U3 (pJ v0)))),?_⟩)
 rintro ds M Q ⟨p,A,V,l,c,z,rfl,hp,_,_,_,q⟩
 exact pD hp ⟨M,.refl,q⟩
def GA:Fq P w K mg base 1 a.bL (AC a):=by
 refine fq G.bL.toDG zS (λr u=>⟨_,(pB (pU (pL u (pJ v0) (pJ v0))
 (pC (pH (uy u (pJ v0) U1 (pJ v0))))
 pP)
 (pC (pH (IT (qv u U1 (pJ v0)) (sL (qv u U1 (pJ v0))))))),?_⟩)
 rintro ds M Q ⟨p,x,y,f,l,h,rfl,hp,q⟩
 refine pD hp (pD hp ?_);show if (decide (f<l))=Db then _ else _
 unfold FB at q;by_cases z:f<l
 .rw[dh z]at q;refine yK (dU z) (pD hp ?_);refine qQ (c:=decide (f<=h)) (λg=>?_) (λg=>?_)
  .rw[g,eN]at q;exact pD hp ⟨M,.refl,q⟩
  .rw[show decide (f<=h)=pc from dM.mpr g,eY]at q;exact⟨M,.refl,q⟩
 .rw[dg z]at q;refine EU (eF z) (pD hp ?_);refine qQ (c:=decide (h>=f)) (λg=>?_) (λg=>?_)
  .rw[g,ik]at q;exact⟨M,.refl,q⟩
  .rw[show decide (h>=f)=pc from dM.mpr g,fR]at q;exact pD hp ⟨M,.refl,q⟩
def Lo(G:Gl K mg a)(x y:Str)(f m:Int):Fq P w K mg base 6 a.aG (xj a (.night x y f m)):=by
 refine fq G.aG.toDG Dy (λr u=>⟨_,(pC (pH (sW (qv u U3 (pJ v0)) (sL (qe v0 G.n.toCls G.bL (GA G) r (qp (vN U1 G.c.toCls G.bM (GV G) r))))))),?_⟩)
 rintro ds M Q ⟨p,A,V,l,c,z,rfl,hp,rd,_,_,q⟩
 dsimp only[AX]at q;refine pD hp ?_;refine qQ (c:=z==x) (λg=>?_) (λg=>?_)
 .rw[g,eN]at q;exact pD hp ⟨Z',_,⟨Z',Z'⟩,pD rd.bd.at_ ⟨Z',_,⟨Z',Z'⟩,A,V,Z',rd.bd,p,x,y,f,m,_,Z',hp,M,.refl,q⟩⟩
 .rw[show(z==x)=pc from dM.mpr g,eY]at q;exact⟨M,.refl,q⟩
def Mi(G:Gl K mg a)(x y:Str):Fq P w K mg base 6 a.aH (xj a (.busy x y)):=by
 refine fq G.aH.toDG EW (λr u=>⟨_,(pC (pH (sW (qv u U3 (pJ v0)) (sL (pO (Fu G) r G.O (rB U1 U2 U3)))))),?_⟩)
 rintro ds M Q ⟨p,A,V,l,c,z,rfl,hp,rd,hz,_,q⟩
 dsimp only[AX]at q;refine pD hp ?_;refine qQ (c:=z==x) (λg=>?_) (λg=>?_)
 .rw[g,eN]at q;exact⟨A,V,l,c,z,Z',rd,hz,M,.refl,q⟩
 .rw[show(z==x)=pc from dM.mpr g,eY]at q;exact⟨M,.refl,q⟩
def NT(G:Gl K mg a)(x y:Str)(n:Int):Fq P w K mg base 6 a.aI (xj a (.silent x y n)):=by
 refine fq G.aI.toDG Cz (λr u=>⟨_,(pC (pH wI)),?_⟩)
 rintro ds M Q ⟨p,A,V,l,c,z,rfl,hp,rd,hz,_,q⟩
 exact⟨M,.refl,q⟩
def Np(G:Gl K mg a)(x:Str):Fq P w K mg base 6 a.aJ (xj a (.wait x)):=by
 refine fq G.aJ.toDG Fm (λr u=>⟨_,(pB (pU (W3.b3 (xF (pL u U3 (pJ v0)) (wb (pL u U2 (pJ v0)))))
 (pC (pH wI))
 pP)
 (pC (pH (sW (pO (Fu G) r G.O (rB U1 U2 U3)) (sL (MT (qe U1 G.c.toCls G.bN (Gu G) r (qp U3)))))))),?_⟩)
 rintro ds M Q ⟨p,A,V,l,c,z,rfl,hp,rd,hz,_,q⟩
 dsimp only[AX]at q;refine pD hp ?_;refine qQ (c:=!(z==x)) (λg=>?_) (λg=>?_)
 .rw[g,ik]at q;exact⟨M,.refl,q⟩
 rw[show(!(z==x))=pc from dM.mpr g,fR]at q;refine pD hp ?_;refine qQ (c:=c==x) (λg=>?_) (λg=>?_)
 .rw[g]at q;exact⟨M,.refl,q⟩
 rw[dg g]at q;refine⟨A,V,l,c,z,Z',rd,hz,?_⟩;refine qQ (c:=xT l V c z) (λg=>?_) (λg=>?_)
 .rw[g,eN]at q;exact pD rd.bd.at_ ⟨Z',_,⟨Z',Z'⟩,A,V,z,Z',rd.bd,rd.k,M,.refl,q⟩
 .rw[show xT l V c z=pc from dM.mpr g,eY]at q;exact⟨M,.refl,q⟩
def Hi:Fq P w K mg base 2 a.bO (zx a):=by
 refine fq G.bO.toDG vt (λr u=>⟨_,(pB (pQ 3 vt (qe U1 G.h.toCls G.aN (zD G) r (qp (pJ v0))))
 (pC (pH (pX (Fv Z') Z' G.bR E2 (qp (qO Z' (xQ (ix:=[Fa,ga 1,ga 3]) (N':=["member","plan","rank"])) (qI U2) (qD 0) rS (qv u (qe U1 G.h.toCls G.aN (zD G) r (qp v0)) U2))))))),?_⟩)
 rintro ds M Q ⟨p,x,q,l,r,ms,rfl,hp,pl,lr,h100,hx,hm,k⟩
 have hz:=dQ;obtain⟨v,hv⟩:=yS hx;obtain⟨ph,gr,ws,Zr,pr,gd,rs,i1,_⟩:=id pl;refine pD i1 ⟨Z',_,⟨Z',Z'⟩,pD hp (i' Z' ⟨q,x,v,l,Z',pl,hv,?_⟩)⟩;refine i' lr (rA (f:=λd=>match d with|.str m=>.bl (decide (vW l m<vW l x))|_=>.mK) lr _ [] _ (by rw[cY];show 0+ms.length<=Ch;lia) (λd hd k0 hk=>?_) λp1 YJ=>?_)
 .obtain⟨m,hmm,rfl⟩:=dF.mp hd;obtain⟨u,hu⟩:=yS (hm m hmm);have hk:k0 (.bl (decide (vW l m<vW l x))) M:=hk;rw[Jz hu,Jz hv]at hk;exact pD i1 ⟨Z',_,⟨Z',Z'⟩,q,m,u,l,Z',pl,hu,hk⟩
 .have em:[]++(ms.map D.str).map (λd=>match d with|.str m=>.bl (decide (vW l m<vW l x))|_=>.mK)=ms.map λm=>D.bl (decide (vW l m<vW l x)):=by rw[eA,eh];rfl
  rw[em];refine i' pK (i' (yu (λm=>decide (vW l m<vW l x)) ms) ⟨M,.new YJ,?_⟩);unfold HH at k;rw[zP];exact k
def Oy(G:Gl K mg a)(x:Str):Fq P w K mg base 6 a.aK (xj a (.breaks x)):=by
 refine fq G.aK.toDG vC (λr u=>⟨_,(pB (pU (W3.b3 (xF (pL u U2 (pJ v0)) (wb (pL u U3 (pJ v0)))))
 (pC (pH wI))
 pP)
 (pB (pU (W3.b3 (xF (pL u U3 (vN (pJ U1) G.h.toCls G.L (sG G) r)) (wb (vF (uB (pO (Fu G) r G.O (rB U1 U2 U3)))))))
 (pC (pH wI))
 pP)
 (pB (pQ 4 vC (qe U1 G.c.toCls G.R (zd G) r (qp U3)))
 (pB (pU (pL u v4 rW)
 (pC (pH wI))
 pP)
 (pB (pQ 5 vC (pJ (pN (pJ U1) v4)))
 (pC (pH (sW (qv u (pX qF Z' G.g qE (qp v5)) pE) (sL (qe v0 G.o.toCls G.bO (Hi G) r (rZ (pJ U1) v5))))))))))),?_⟩)
 rintro ds M Q ⟨p,A,V,l,c,z,rfl,hp,rd,YY,hx,q⟩
 have hx:x∈l.pn:=qY.mp hx;obtain⟨ph,gr,ws,Zr,pr,gd,rs,i1,_⟩:=rd.pl;have p8:=rd.ok.p8;dsimp only[AX,IE]at q;refine pD hp ?_;refine qQ (c:=!(c==x)) (λh1=>?_) (λh1=>?_)
 .rw[h1,ik]at q;exact⟨M,.refl,q⟩
 rw[show(!(c==x))=pc from dM.mpr h1,fR]at q;refine pD hp ?_;refine qQ (c:=z==x) (λh2=>?_) (λh2=>?_)
 .rw[h2]at q;exact⟨M,.refl,q⟩
 rw[dg h2]at q;refine pD rd.bd.at_ (i' Z' (pD i1 ⟨Z',_,⟨Z',Z'⟩,V.p,l,Z',rd.pl,by lia,λq1 YQ=>i' pK ⟨Z',qB _,?_⟩⟩));have t:=qG.new (c:=.lst (l.pn.map D.str)) YQ;have Yr:=rd.sub t;generalize pI M q1 (.lst (l.pn.map D.str))=M1 at t Yr ⊢;show if (!(inD (.str z) (l.pn.map D.str)))=Db then _ else _
 rw[sI];refine qQ (c:=!(hasS l.pn z)) (λh3=>?_) (λh3=>?_)
 .rw[h3,ik]at q;exact⟨M,t,q⟩
 rw[show(!(hasS l.pn z))=pc from dM.mpr h3,fR]at q;refine⟨A,V,l,c,z,Z',Yr,YY,?_⟩;refine qQ (c:=!(xT l V c z)) (λh4=>?_) (λh4=>?_)
 .rw[h4]at q;exact⟨M,t,q⟩
 rw[dg h4]at q;refine pD Yr.bd.at_ ⟨Z',_,⟨Z',Z'⟩,A,V,z,Z',Yr.bd,Yr.k,?_⟩;cases e:vQ V z with
 | none=>rw[e]at q;rw[show AM V z=.mK from by unfold AM;rw[e];rfl];exact⟨M,t,q⟩
 | some j=>
  rw[show AM V z=.int (j:Nat)from by unfold AM;rw[e];rfl];have hj:j<V.calls.length:=(gT.mp e).1;have e2:V.calls[j]?=ga V.calls[j]:=df hj;rw[e]at q;generalize V.calls[j]=k at e2;have q:Q (.bl (((V.calls[j]?).elim pc λk=>(k.ms.length==2)&&HH l x k.ms))) M:=q;rw[e2]at q;have hj:j<A.cs.length:=by rw[rd.bd.len];exact hj
  have ek:A.cs[j]?=ga A.cs[j]:=df hj;obtain⟨ad,md,f1,f2,f3,f4,_⟩:=Yr.bd.cs j _ k ek e2;refine pD Yr.bd.at_ (i' Z' (i' Z' (i' Yr.bd.ca (i' (rD ek) (pD f1 (i' Z' ?_))))));refine i' f4 ?_;have el:((((k.ms.map D.str).length:Nat):Int)==2)=(k.ms.length==2):=by rw[cY,fW,fg,fg];lia
  show if ((((k.ms.map D.str).length:Nat):Int)==2)=Db then _ else _
  rw[el];have q:Q (.bl ((k.ms.length==2)&&HH l x k.ms)) M:=q;refine qQ (c:=k.ms.length==2) (λh5=>?_) (λh5=>?_)
  .rw[h5,eN]at q;have hm:=rd.ms k (rm e2);refine pD (t _ _ hp) ⟨Z',_,⟨Z',Z'⟩,pD Yr.bd.at_ (i' Z' ⟨p,x,V.p,l,md,k.ms,Z',t _ _ hp,Yr.pl,f4,hm.2,hx,hm.1,M,t,q⟩)⟩
  .rw[show(k.ms.length==2)=pc from dM.mpr h5,eY]at q;exact⟨M,t,q⟩
def LC:Fq P w K mg base 1 a.q GO:=by
 refine fq G.q.toDG Cp (λr u=>⟨_,(pC (pH wI)),?_⟩)
 rintro ds M Q ⟨x,y,rfl,q⟩
 exact⟨M,.refl,q⟩
def TQ(G:Gl K mg a)(x y:Str)(n:Int):Fq P w K mg base 1 a.ay (RG a (.silent x y n)):=by
 refine fq G.ay.toDG Ax (λr u=>⟨_,(pC (pH (sW (qv u (sE (pJ U1) (tj (FU pE)) tz) (qP (qp (pJ v0)))) (sL (qv u (pJ v0) (pJ U1)))))),?_⟩)
 rintro ds M Q ⟨p,L,k,c,rfl,hp,⟨ad,md,h1,h2,h3,h4,_⟩,q⟩
 refine pD h1 (i' Z' (i' h2 λp1 YJ=>?_));have t1:=qG.new (c:=.lst (L3.uZ (c.way.map D.str) (ga (-1:Int)) Fa)) YJ;have l1:og (pI M p1 (.lst (L3.uZ (c.way.map D.str) (ga (-1:Int)) Fa))) p1=ga ((c.way.map D.str).drop ((c.way.map D.str).length - 1)):=by rw[pK,MS]
 show Ak (pI M p1 (.lst (L3.uZ (c.way.map D.str) (ga (-1:Int)) Fa)) p) _;generalize pI M p1 (.lst (L3.uZ (c.way.map D.str) (ga (-1:Int)) Fa))=M1 at t1 l1 ⊢;refine pD (t1 _ _ hp) ⟨pz Z',λp2 X4=>?_⟩;obtain⟨M2,e0,t2,l2⟩:=xI (ds:=[D.str x]) X4;rw[<-e0];show Option.elim (zA M2 9 (.ref p1) (.ref p2)) False _;have s2:=t1.trans t2;refine i' (OH (t2.lst l1) l2) ?_;dsimp only[GR]at q;refine qQ (c:=c.way.getLast?==ga x) (λg=>?_) (λg=>?_)
 .rw[g,eN]at q;exact pD (s2 _ _ hp) (pD (s2 _ _ h1) ⟨M,s2,q⟩)
 .rw[show(c.way.getLast?==ga x)=pc from dM.mpr g,eY]at q;exact⟨M,s2,q⟩
def Sv:∀C sp,Mq a C sp->yr P w K mg base 6 "fits" C (OD K sp):=by
 rintro C sp ⟨v,rfl,rfl⟩
 cases v with
 | bar x ns=>exact⟨G.t.toCls,_,_,_,G.aD.nj,Mf G x ns,G.aD.b⟩
 | shut x ns=>exact⟨G.u.toCls,_,_,_,G.aE.nj,MV G x ns,G.aE.b⟩
 | always x y=>exact⟨G.x.toCls,_,_,_,G.aF.nj,MF G x y,G.aF.b⟩
 | night x y f m=>exact⟨G.n.toCls,_,_,_,G.aG.nj,Lo G x y f m,G.aG.b⟩
 | busy x y=>exact⟨G.y.toCls,_,_,_,G.aH.nj,Mi G x y,G.aH.b⟩
 | silent x y n=>exact⟨G.v.toCls,_,_,_,G.aI.nj,NT G x y n,G.aI.b⟩
 | wait x=>exact⟨G.w.toCls,_,_,_,G.aJ.nj,Np G x,G.aJ.b⟩
 | breaks x=>exact⟨G.o.toCls,_,_,_,G.aK.nj,Oy G x,G.aK.b⟩
def VQ:∀C sp,Gz a C sp->yr P w K mg base 1 "is_due" C (OD K sp):=by
 rintro C sp ⟨v,rfl,rfl⟩
 have F:=LC (P:=P) (w:=w) (base:=base) G;cases v with
 | silent x y n=>exact⟨G.v.toCls,_,_,_,G.ay.nj,TQ G x y n,G.ay.b⟩
 | bar _ _=>exact⟨G.t.toCls,_,_,_,G.cm,F,G.q.b⟩
 | shut _ _=>exact⟨G.u.toCls,_,_,_,G.cn,F,G.q.b⟩
 | always _ _=>exact⟨G.x.toCls,_,_,_,G.co,F,G.q.b⟩
 | night _ _ _ _=>exact⟨G.n.toCls,_,_,_,G.cp,F,G.q.b⟩
 | busy _ _=>exact⟨G.y.toCls,_,_,_,G.cq,F,G.q.b⟩
 | wait _=>exact⟨G.w.toCls,_,_,_,G.cr,F,G.q.b⟩
 | breaks _=>exact⟨G.o.toCls,_,_,_,G.cs,F,G.q.b⟩
def Jg{es pre post:T0 D}{d:D}(e:pre++d::post=uF 0 es):∃x,es[pre.length]?=ga x/\d=.tup [.int (pre.length:Nat),x]:=by
 have h:(uF 0 es)[pre.length]?=ga d:=by rw[<-e];simp
 rw[zE]at h;cases q:es[pre.length]? with
 | none=>rw[q]at h;cases h
 | some x=>rw[q]at h;refine⟨x,Z',?_⟩;have:=(dw h).symm;rw[mv]at this;exact this
def vo(n:Nat):∀es:T0 D,(uF n es).length=es.length:=λes=>by
 have h:∀i:Nat,(uF n es)[i]?=Fa↔es[i]?=Fa:=λi=>by rw[zE];cases es[i]?<;>simp
 have a:=(h es.length).mpr (fk (dv _));have b:=(h (uF n es).length).mp (fk (dv _));rw[jA]at a b;lia
def Jo{l:pM}{V:qu}{f:Wi->Bool}{tt:AK}{ok:Mp->Prop}{Q:DK}{M:Mp}{rest:T0 (Option D)}(hl:V.on.length=l.mH.length)(h16:l.mH.length<=16)(mR:ok M) (ht:∀(i:Nat) (w:vD),l.mH[i]?=ga w->∀(y:Option D) (k:Bool->Mp->Prop),k (f w.2) M->tt (ga (.int (i:Nat))::y::rest) M k) (q:∀p,M p=Fa->Q (.ref p) (pI M p (.lst ((IR l V f).map λn=>D.int (n:Nat))))):
  uW (Rp 2 (Av (rR 0) (Av (rR 1) F'))) (Pp (b3 (v3 1)) tt) (v3 0) ok Q (uF 0 (V.on.map D.bl)) [] (Fa::Fa::rest) M:=by
 have hz:=dQ;refine wN (uF 0 (V.on.map D.bl)) (λpre acc U M'=>M=M'/\acc=((List.range pre.length).filter λi=>V.on.getD i pc&&(l.mH[i]?).elim pc λw=>f w.2).map (λn=>D.int (n:Nat))/\∃y1 y2,U=y1::y2::rest) (λ_ _ _ M' j=>by rw[<-j.1];exact mR) _ [] [] _ _ Z' ?_ ⟨Z',Z',Fa,Fa,Z'⟩ ?_ ?_
 .rw[vo,cY,hl];simp only[dN];lia
 .rintro pre d post e acc U M' ⟨rfl,rfl,y1,y2,rfl⟩ k k2 hk Zq
  obtain⟨x,hx,rfl⟩:=Jg e;rw[de,dI,jZ,iH]at hk Zq;rw[dE]at hx;cases eo:V.on[pre.length]? with
  | none=>rw[eo]at hx;cases hx
  | some b=>
   rw[eo]at hx;have hx:D.bl b=x:=dw hx;subst hx;have hi:pre.length<l.mH.length:=by rw[<-hl];exact(c9.mp eo).1
   have ew:l.mH[pre.length]?=ga l.mH[pre.length]:=df hi;generalize l.mH[pre.length]=w0 at ew;have eg:V.on.getD pre.length pc=b:=by rw[gL,eo];rfl
   have no:(b&&f w0.2)=pc->k2 (ga (.int (pre.length:Nat))::ga (.bl b)::rest) M:=λg=>by refine Zq _ _ ⟨Z',?_,_,_,Z'⟩;rw[hG (by rw[eg,ew];show ¬(b&&f w0.2)=Db;rw[g];exact dD),h9,eO]
   refine⟨Z',?_⟩;show if b=Db then _ else _
   cases b with
   | false=>exact G6 (no Z')
   | true=>
    refine Qr (ht _ _ ew _ _ ?_);cases g:f w0.2 with
    | false=>exact G6 (no (by rw[g];rfl))
    | true=>refine Qr (hk _ _ _ ⟨Z',?_,_,_,Z'⟩);rw[g9 (by rw[eg,ew];show(Db&&f w0.2)=Db;rw[g];rfl),h9,dJ];rfl
 .rintro acc U M' ⟨rfl,rfl,y1,y2,rfl⟩ p hp
  rw[vo,cY];exact q p hp
def Bw(h:sP a M rs ws){i:Nat}{w:vD}(e:ws[i]?=ga w):∃r,wu (rs.map D.ref) (i:Nat)=ga (.ref r)/\M r=ga (.ins (w.2.cls a) w.2.nH):=by
 have hi:i<rs.length:=by rw[h.1];exact(c9.mp e).1
 exact⟨rs[i],uT (by rw[dE,df hi];rfl),h.2 i _ w (df hi) e⟩
def Om(ds:T0 D)(m:Nat):L3.uZ ds Fa (ga (m:Int))=ds.take m:=by
 unfold L3.uZ;rw[HT.Cj,HT.JI,kh,kY];by_cases h:m<=ds.length
 .rw[l8 h]
 .rw[Nat.min_eq_right (by lia),fK,eJ (by lia)]
def IM(ds:T0 D)(m:Nat)(h:m<=ds.length):L3.uZ ds (ga (m:Int)) Fa=ds.drop m:=by unfold L3.uZ;rw[HT.Cj,HT.JI,l8 h];exact eJ (by rw[fX];exact dv _)
def uo(l:pM)(V:qu):Prop:=∀z∈l.nm,(l.mP z=="turns")=Db->∃v,V.ps.find? (λp=>decide (p.1=z))=ga v/\0<=v.2/\v.2<=((l.mF z).length:Int)
def Mg{V:qu}(h:uo l V){z:Str}(hz:z∈l.nm)(e:(l.mP z=="turns")=Db):tD (tG V.ps) (.inr z)=ga (.int (zy V z:Nat))/\zy V z<=(l.mF z).length:=by
 obtain⟨v,e1,e2,e3⟩:=h z hz e;have h1:zy V z=v.2.toNat:=by unfold zy;rw[e1];rfl
 have h2:tD (tG V.ps) (.inr z)=(V.ps.find? λp=>decide (p.1=z)).map λp=>D.int p.2:=yF (λp:Str×Int=>p.1) (λp=>D.int p.2) z V.ps;rw[h2,e1,h1];exact⟨by show ga (D.int v.2)=ga (.int (v.2.toNat:Nat));rw[Int.toNat_of_nonneg e2],by lia⟩
def Im(a:Ad):rq:=λds M Q=>F9 λA V l c z=>ds=[.ref A.b,.str c,.str z]/\Rd a M A V l/\z∈l.nm/\Q (wB (Ef l V c z)) M
def Qh(a:Ad):rq:=λds M Q=>F9 λA V l c z=>ds=[.ref A.b,.str c,.str z]/\Rd a M A V l/\z∈l.nm/\uo l V/\Q (names (yb l V c z)) M
def Nt(a:Ad):rq:=λds M Q=>F9 λA V l c z=>ds=[.ref A.b,.str c,.str z]/\Rd a M A V l/\z∈l.nm/\uo l V/\Q (HB l V c z).d M
def KW:rq:=λds M Q=>C5 λx r z=>ds=[.tup (.str x::r),.str z]/\Q (if (x=="wait")=Db then(vJ.waits z).d else if (x=="break")=Db then(vJ.breaks z).d else vJ.barred.d) M
def rE(st:sZ):T0 D:=st.map λs=>.tup [.str s.1,wB s.2]
def Nb(a:Ad):rq:=λds M Q=>Ui λA V l c z r way=>ds=[.ref A.b,.str c,.str z,.ref r]/\Rd a M A V l/\z∈l.nm/\uo l V/\og M r=ga (List.map D.str way)/\way.length<=8000000/\∀q M',qG M M'->M q=Fa->og M' q=ga (rE (uG l V c z way).2)->Q (.tup [(uG l V c z way).1.d,.ref q]) M'
def Fk{V:qu}{f:Wi->Bool}{i:Nat}(h:i∈IR l V f):∃w,l.mH[i]?=ga w/\f w.2=Db:=by
 have h:=(fH.mp h).2;rw[d6]at h;cases e:l.mH[i]? with
 | none=>rw[e]at h;cases h.2
 | some w=>rw[e]at h;exact⟨w,Z',h.2⟩
def Jj(l:pM)(way:QQQ):Nat:=(l.nm.filter λx=>!(hasS way x)).length
def Bv{l:pM}{z:Str}(hz:z∈l.nm)(h:hasS way z=pc):Jj l (way++[z])<Jj l way:=by
 unfold Jj;have e:(l.nm.filter λx=>!(hasS (way++[z]) x))=(l.nm.filter λx=>!(hasS way x)).filter λx=>!(x==z):=by rw[List.filter_filter];refine List.filter_congr λx _=>?_;unfold hasS;rw[l0];show(!(way.any (·==x)||((z==x)||false)))=_;rw[kD,Bool.not_or,Bool.and_comm,mh]
 rw[e];refine Nat.lt_of_le_of_ne (gy _ _) λg=>?_;have:=kM.mp (List.Sublist.eq_of_length gi g) z (fH.mpr ⟨hz,by rw[h];rfl⟩);simp at this
def Cd(ok:rj l){w:vD}(hw:w∈l.mH){z y:Str}(h:IZ z w.2=.inr y):y∈l.nm:=by
 have o:=ok.wo w hw;cases e:w.2 with
 | bar _ _=>rw[e]at h;cases h
 | shut _ _=>rw[e]at h;cases h
 | always x u=>rw[e]at h o;cases h;exact qY.mp o.2.1
 | night x u f m=>rw[e]at h o;cases h;exact qY.mp o.2.1
 | busy x u=>rw[e]at h o;cases h;exact qY.mp o.2.1
 | silent x u n=>rw[e]at h o;cases h;exact qY.mp o.2.1
 | wait _=>rw[e]at h;cases h
 | breaks _=>rw[e]at h;cases h
theorem F0(x:Str):∀ss:QQQ,x∈ss->Bm (.str x) (ss.map D.str)=ga (ss.findIdx (·==x))
 | [],h=>by cases h
 | y::r,h=>by
  rw[d4,List.findIdx_cons];unfold Bm;show(if (y==x)=Db then ga 0 else(Bm (.str x) (r.map D.str)).map (·+1))=_;cases e:y==x with
  | true=>rfl
  | false=>
   rw[dg dD];have hr:x∈r:=by
    rcases dC.mp h with g|g
    .rw[g,eW]at e;cases e
    .exact g
   rw[F0 x r hr];rfl
def IF:Fq P w K mg base 7 a.aS (Im a):=by
 refine fq G.aS.toDG CM (λr u=>⟨_,(pB (pQ 3 CM (pJ (pJ v0)))
 (pC (pH (qw uV Z' G.F ur (qp (qO Z' (xQ (ix:=[Fa,Fa,ga 3,ga 0,ga 1,ga 2]) (N':=["i","on","wishes","board","caller","target"])) (xx Z' G.bY (qp (pJ v0))) (vb (n:=2) Z' (qK (qD 0) (qK (qD 1) uc))) (vn (W3.b3 (yT (uB U1) (yA (uB (FE (R:=Mq a) (pN U2 v0) (Sv G) (r.mono (by first|decide|lia)) (rB U3 v4 v5))))))) v0)))))),?_⟩)
 rintro ds M Q ⟨A,V,l,c,z,rfl,rd,hz,q⟩
 obtain⟨ph,gr,ws,Zr,pr,gd,rs,i1,i2,i3,i4,i5,i6,i7,i8⟩:=rd.pl;refine pD rd.bd.at_ (i' Z' (pD i1 (i' Z' ?_)));refine pD rd.bd.at_ (i' Z' (i' rd.bd.on ?_));refine Jo (rest:=[ga (.ref ws),ga (.ref A.b),ga (.str c),ga (.str z)]) rd.on rd.ok.w16 rd.bd.on (λi w0 ew y k hk=>?_) λp hp=>i' pK ⟨M,.new hp,q⟩;obtain⟨r,e1,e2⟩:=Bw i8 ew;refine i' i4 (i' e1 (pD e2 ⟨by cases w0.2<;>rfl,_,⟨w0.2,Z',Z'⟩,r,A,V,l,c,z,Z',e2,rd,hz,rd.ok.wo w0 (rm ew),hk⟩))
def QC:Fq P w K mg base 5 a.aT (Qh a):=by
 refine fq G.aT.toDG tH (λr u=>⟨_,(pB (pQ 3 tH (qe v0 G.c.toCls G.aM (AH G) r (rZ U1 U2)))
 (pB (pU (pL u (qe (pJ v0) G.h.toCls G.aL (xV G) r (qp U2)) pF)
 (pC (pH (qw uV Z' G.F ur (qp U3))))
 pP)
 (pB (pQ 4 tH (qe (pJ v0) G.h.toCls G.V (uA G) r (qp U2)))
 (pB (pQ 5 tH (zX u (pJ v0) U2))
 (pB (ug (i:=6) tH.nd Z' (Or.inl Z') Z' (xQ (ix:=[Fa,ga 3]) (N':=["phone","free"])) (qI (qh (sE v4 (tj v5) tz) (sE v4 tz (tj v5)))) (qD 0) (vn (pL u v0 U1)) v0)
 (pC (pH (qw uV Z' G.F ur (qp (sE v6 tz (tj pE))))))))))),?_⟩)
 rintro ds M Q ⟨A,V,l,c,z,rfl,rd,YY,nx,q⟩
 have hz:=dQ;have bd:=rd.bd;have pl:=rd.pl;obtain⟨ph,gr,ws,Zr,pr,gd,rs,i1,_⟩:=rd.pl;obtain⟨⟨_,tf,_⟩,_⟩:=rd.ok.of YY;refine pD bd.at_ ⟨Z',_,⟨Z',Z'⟩,A,V,l,c,z,Z',rd,YY,λq1 M1 s1 YQ e1=>?_⟩;refine pD (s1 _ _ bd.at_) (i' Z' (pD (s1 _ _ i1) ⟨Z',_,⟨Z',Z'⟩,V.p,z,l,Z',pl.sub s1,?_⟩));unfold yb at q;cases e:l.mP z=="turns" with
 | false=>rw[e]at q;exact yK (c:=!(l.mP z=="turns")) (by rw[e];rfl) (i' e1 ⟨M,s1,q⟩)
 | true=>
  obtain⟨hn,nl⟩:=Mg nx YY e;generalize zy V z=n at hn nl q;rw[e,dh Z']at q;refine EU (c:=!(l.mP z=="turns")) (by rw[e];rfl) ?_;refine pD (s1 _ _ bd.at_) (i' Z' (pD (s1 _ _ i1) ⟨Z',_,⟨Z',Z'⟩,V.p,z,l,Z',pl.sub s1,λq2 ZM=>?_⟩));have s2:=s1.trans (qG.new (c:=.lst ((l.mF z).map D.str)) ZM);have c2:=@pK M1 q2 ((l.mF z).map D.str);have e2:=(qG.new (c:=.lst ((l.mF z).map D.str)) ZM).lst e1;generalize pI M1 q2 (.lst ((l.mF z).map D.str))=M2 at s2 c2 e2 ⊢;refine pD (s2 _ _ bd.at_) (i' Z' (i' Z' (i' (s2.dk bd.nx) (i' hn ?_))));refine i' c2 λq3 hq3=>?_;rw[IM _ n (by rw[cY];exact nl),<-kF];have t3:=qG.new (c:=.lst (((l.mF z).drop n).map D.str)) hq3;have c3':=@pK M2 q3 (((l.mF z).drop n).map D.str);generalize pI M2 q3 (.lst (((l.mF z).drop n).map D.str))=M3 at t3 c3' ⊢;refine i' (t3.lst c2) λq4 hq4=>?_;rw[Om,<-mi];obtain⟨M4,e0,t4,c4⟩:=xI (ds:=((l.mF z).take n).map D.str) hq4;rw[<-e0];refine i' (t4.lst c3') (i' c4 ?_);refine⟨by rw[cY,cY,fX,fu];lia,λq5 hq5=>i' pK ?_⟩;rw[<-dJ];have t5:=qG.new (c:=.lst ((ve (l.mF z) n).map D.str)) hq5;have c5:=@pK M4 q5 ((ve (l.mF z) n).map D.str);show uW _ _ _ _ _ ((ve (l.mF z) n).map D.str) _ _ (pI M4 q5 (.lst ((ve (l.mF z) n).map D.str)));generalize pI M4 q5 (.lst ((ve (l.mF z) n).map D.str))=M5 at t5 c5 ⊢;have s5:=t3.trans (t4.trans t5);have e5:=s5.lst e2;have tl:(ve (l.mF z) n).length<=200:=by unfold ve;rw[de,fX,fu];lia
  refine tL (f:=id) (t:=λd=>inD d ((ut l V c z).map D.str)) c5 _ [] _ (by rw[cY];simp only[dN];lia) (λd hd k hk=>?_) (λd hd _ k hk=>?_) λq6 hq6=>?_
  .obtain⟨x,hx,rfl⟩:=dF.mp hd;exact i' e5 ⟨Z',qB _,hk⟩
  .obtain⟨x,hx,rfl⟩:=dF.mp hd;exact hk
  .have ef:[]++(List.filter (λd=>inD d ((ut l V c z).map D.str)) ((ve (l.mF z) n).map D.str)).map id=((ve (l.mF z) n).filter λx=>hasS (ut l V c z) x).map D.str:=by
    rw[eA,jk,hZ];have:((λd=>inD d ((ut l V c z).map D.str))∘D.str)=λx=>hasS (ut l V c z) x:=by funext x;exact sI _ _
    rw[this]
   rw[ef];refine i' pK λq7 hq7=>i' pK ?_;rw[show L3.uZ (((ve (l.mF z) n).filter λx=>hasS (ut l V c z) x).map D.str) Fa (ga (1:Int))=(((ve (l.mF z) n).filter λx=>hasS (ut l V c z) x).take 1).map D.str from(Om _ 1).trans (mi).symm];exact⟨M,s2.trans (s5.trans ((qG.new hq6).trans (.new hq7))),q⟩
def NC:Fq P w K mg base 6 a.aU (Nt a):=by
 refine fq G.aU.toDG vg (λr u=>⟨_,(pB (pQ 3 vg (pO (QC G) r G.aT (rB v0 U1 U2)))
 (pB (pU (pL u (pX qF Z' G.g qE (qp U3)) pE)
 (pC (pH (pT (rZ pF U2))))
 pP)
 (pC (pH (pT (rB pF U2 U3)))))),?_⟩)
 rintro ds M Q ⟨A,V,l,c,z,rfl,rd,hz,nx,q⟩
 refine⟨A,V,l,c,z,Z',rd,hz,nx,?_⟩;unfold HB at q;cases e:yb l V c z with
 | nil=>rw[e]at q;exact⟨pz Z',M,.refl,q⟩
 | cons x r=>rw[e]at q;exact⟨pz Z',M,.refl,q⟩
def Lj:Fq P w K mg base 1 a.aV KW:=by
 refine fq G.aV.toDG Af (λr u=>⟨_,(pB (pU (pL u (pN v0 pE) pF)
 (pC (pH (pT (rZ pF U1))))
 pP)
 (pB (pU (pL u (pN v0 pE) pF)
 (pC (pH (pT (rZ pF U1))))
 pP)
 (pC (pH (pT (qp pF)))))),?_⟩)
 rintro ds M Q ⟨x,r,z,rfl,q⟩
 refine i' (zv _ _) (qQ (c:=x=="wait") (λg=>?_) (λg=>?_))
 .rw[dh g]at q;exact⟨pz Z',M,.refl,q⟩
 rw[dg g]at q;refine i' (zv _ _) (qQ (c:=x=="break") (λg=>?_) (λg=>?_))
 .rw[dh g]at q;exact⟨pz Z',M,.refl,q⟩
 rw[dg g]at q;exact⟨pz Z',M,.refl,q⟩
def ML:Fq P w K mg base 8 a.aW (Nb a):=by
 refine fq G.aW.toDG wX (λr u=>⟨_,(pB (pQ 4 wX (qw sJ Z' G.r sD (qp U3)))
 (pB (pQ 5 wX (qP sd))
 (pB (Mw eS (pL u U2 v4)
 (pB (pR (qL v4 (qp U2)))
 (pB (pQ 6 wX (pO (IF G) r G.aS (rB v0 U1 U2)))
 (pB (pR (qL v5 (qp (pT (rZ U2 v6)))))
 (pB (pU (pL u (pX qF Z' G.g qE (qp v6)) pE)
 (pC (pH (pT (rZ (pO (NC G) r G.aU (rB v0 U1 U2)) v5))))
 pP)
 (pB (pQ 7 wX (Cu (R:=JU a) (pN (pJ (pJ v0)) (pN v6 pE)) (QU G) (r.mono (by first|decide|lia))))
 (pB (pU (pL u (pN v7 pE) pF)
 (pC (pH (pT (rZ (pO (Lj G) r G.aV (rZ v7 U2)) v5))))
 pP)
 (pC (pQ 2 wX (pN v7 pE))))))))))
 (pC (pH (pT (rZ (pT (rZ pF (qw uV Z' G.F ur (qp (sE v4 (tj (yj v4 (qp U2))) tz))))) v5))))))),?_⟩)
 rintro ds M Q ⟨A,V,l,c,z0,r,Ze,rfl,rd,hz0,nx,hr0,hw0,q⟩
 have hz:=dQ;have p8:=rd.ok.p8;have g3:=rd.ok.g3;have nl:l.nm.length<=11:=by unfold pM.nm pM.pn pM.gn;rw[de,cY,cY];lia
 refine i' hr0 λp1 YJ=>⟨pz Z',λp2 X4=>?_⟩;have t1:=qG.new (c:=.lst (Ze.map D.str)) YJ;have t2:=qG.new (c:=.lst []) X4;have c1:og (pI (pI M p1 (.lst (Ze.map D.str))) p2 (.lst [])) p1=ga (Ze.map D.str):=t2.lst pK;have c2:=@pK (pI M p1 (.lst (Ze.map D.str))) p2 [];have n12:p2≠p1:=λy=>by rw[y,pW]at X4;cases X4
 have m2:M p2=Fa:=t1.none X4;have s2:=t1.trans t2;generalize pI (pI M p1 (.lst (Ze.map D.str))) p2 (.lst [])=M2 at c1 c2 s2 ⊢;refine⟨λm U M'=>∃z way st,qG M M'/\og M' p1=ga (List.map D.str way)/\og M' p2=ga (rE st)/\z∈l.nm/\Jj l way<m/\way.length+m<=8000012/\st.length+m<=100/\xq l V c m z way st=uG l V c z0 Ze/\∃y6 y7,U=[ga (.ref A.b),ga (.str c),ga (.str z),ga (.ref r),ga (.ref p1),ga (.ref p2),y6,y7],⟨l.nm.length+1,z0,Ze,[],s2,c1,c2,hz0,Nat.lt_succ_of_le (gy _ _),by lia,by show 0+(l.nm.length+1)<=100;lia,Z',Fa,Fa,Z'⟩,?_⟩
 rintro m U M' ⟨z,way,st,sM,l1,l2,YY,Yc,hwl,hsl,er,y6,y7,rfl⟩
 obtain⟨m,rfl⟩:∃k,m=k+1:=⟨m - 1,by lia⟩;have q2:∀XZ,qG M XZ->og XZ p2=ga (rE (xq l V c (m+1) z way st).2)->Q (.tup [(xq l V c (m+1) z way st).1.d,.ref p2]) XZ:=λXZ s ll=>by rw[er]at ll ⊢;exact q p2 XZ s m2 ll
 clear q;unfold xq at er q2;refine i' l1 ⟨Z',qB way,?_⟩;show if (!(inD (.str z) (way.map D.str)))=Db then _ else _
 rw[sI];refine qQ (c:=!(hasS way z)) (λh1=>?_) (λh1=>?_)
 rotate_left
 .
  have h1:hasS way z=Db:=by simpa using h1
  rw[dh h1]at q2;refine⟨by show(og M' p1).isSome=Db;rw[l1];rfl,i' l1 ⟨Z',qB _,i' (F0 z way (qY.mp h1)) (i' l1 λp3 Zy=>?_)⟩⟩;have hle:way.findIdx (·==z)<=(way.map D.str).length:=by rw[cY];exact List.findIdx_le_length
  rw[IM _ _ hle,<-kF];refine i' pK ⟨pz Z',pz Z',_,.refl,q2 _ (sM.trans (.new Zy)) ((qG.new Zy).lst l2)⟩
 have h1:hasS way z=pc:=by simpa using h1
 rw[h1,dg dD]at er q2;refine⟨by show(og M' p1).isSome=Db;rw[l1];rfl,i' l1 ⟨by rw[cY];lia,?_⟩⟩;have k3:qT p1 M' (pI M' p1 (.lst (way.map D.str++[D.str z]))):=.put;have s3:qG M (pI M' p1 (.lst (way.map D.str++[D.str z]))):=λx d hx=>by rw[ud (BX hx YJ)];exact sM x d hx
 have c3:=k3.lst n12 l2;have l3:og (pI M' p1 (.lst (way.map D.str++[D.str z]))) p1=ga ((way++[z]).map D.str):=by rw[pK,dJ];rfl
 generalize pI M' p1 (.lst (way.map D.str++[D.str z]))=M3 at s3 c3 l3 ⊢;refine⟨A,V,l,c,z,Z',rd.sub s3,YY,?_⟩;generalize hf:Ef l V c z=fs at er q2 ⊢;refine⟨by show(og M3 p2).isSome=Db;rw[c3];rfl,pz Z',i' c3 ⟨by unfold rE;rw[cY];lia,?_⟩⟩;have es:rE st++[.tup [.str z,wB fs]]=rE (st++[(z,fs)]):=by unfold rE;rw[dJ];rfl
 rw[es];have s4:qG M (pI M3 p2 (.lst (rE (st++[(z,fs)])))):=λx d hx=>by rw[ud (BX hx m2)];exact s3 x d hx
 have c4:=@pK M3 p2 (rE (st++[(z,fs)]));have l4:og (pI M3 p2 (.lst (rE (st++[(z,fs)])))) p1=ga ((way++[z]).map D.str):=qT.lst .put (dZ n12) l3;generalize pI M3 p2 (.lst (rE (st++[(z,fs)])))=M4 at s4 c4 l4 ⊢;cases fs with
 | nil=>exact⟨A,V,l,c,z,Z',rd.sub s4,YY,nx,pz Z',M4,.refl,q2 M4 s4 c4⟩
 | cons i fr=>
  obtain⟨w0,ew,_⟩:=Fk (l:=l) (V:=V) (f:=AX l V c z) (i:=i) (by show i∈Ef l V c z;rw[hf];exact dP);dsimp only at er q2;rw[ew]at er q2;dsimp only[Option.elim]at er q2;obtain⟨ph,gr,ws,Zr,pr,gd,rs,i1,i2,i3,i4,i5,i6,i7,i8⟩:=(rd.sub s4).pl;obtain⟨rw0,e1,e2⟩:=Bw i8 ew;have hwo:=rd.ok.wo w0 (rm ew);have hnm:∀y,IZ z w0.2=.inr y->y∈l.nm:=λy h=>Cd rd.ok (rm ew) h;refine pD (s4 _ _ rd.bd.at_) (i' Z' (pD i1 (i' Z' (i' (zv _ _) (i' i4 (i' e1 ?_))))));cases hv:w0.2 with
  | bar x ns=>rw[hv]at q2 e2;exact pD e2 ⟨Z',_,.inl ⟨.inl Z',Z'⟩,rw0,Z',⟨"end",[],z,Z',pz Z',M4,.refl,q2 M4 s4 c4⟩⟩
  | shut x ns=>rw[hv]at q2 e2;exact pD e2 ⟨Z',_,.inl ⟨.inr Z',Z'⟩,rw0,Z',⟨"end",[],z,Z',pz Z',M4,.refl,q2 M4 s4 c4⟩⟩
  | wait x=>rw[hv]at q2 e2;exact pD e2 ⟨Z',_,.inr (.inr (.inl ⟨Z',Z'⟩)),rw0,_,_,_,Z',e2,Z',⟨"wait",_,z,Z',pz Z',M4,.refl,q2 M4 s4 c4⟩⟩
  | breaks x=>rw[hv]at q2 e2;exact pD e2 ⟨Z',_,.inr (.inr (.inr ⟨Z',Z'⟩)),rw0,Z',⟨"break",_,z,Z',pz Z',M4,.refl,q2 M4 s4 c4⟩⟩
  | always x y=>rw[hv]at er e2 hnm;exact pD e2 ⟨Z',_,.inr (.inl ⟨.inl Z',Z'⟩),rw0,_,_,_,Z',e2,Z',⟨m,fO _,y,way++[z],st++[(z,i::fr)],s4,l4,c4,hnm y Z',by have:=Bv YY h1;lia,by rw[de];show way.length+1+m<=_;lia,by rw[de];show st.length+1+m<=_;lia,er,_,_,Z'⟩⟩
  | night x y f mm=>rw[hv]at er e2 hnm;exact pD e2 ⟨Z',_,.inr (.inl ⟨.inr (.inl Z'),Z'⟩),rw0,_,_,_,Z',e2,Z',⟨m,fO _,y,way++[z],st++[(z,i::fr)],s4,l4,c4,hnm y Z',by have:=Bv YY h1;lia,by rw[de];show way.length+1+m<=_;lia,by rw[de];show st.length+1+m<=_;lia,er,_,_,Z'⟩⟩
  | busy x y=>rw[hv]at er e2 hnm;exact pD e2 ⟨Z',_,.inr (.inl ⟨.inr (.inr (.inl Z')),Z'⟩),rw0,_,_,_,Z',e2,Z',⟨m,fO _,y,way++[z],st++[(z,i::fr)],s4,l4,c4,hnm y Z',by have:=Bv YY h1;lia,by rw[de];show way.length+1+m<=_;lia,by rw[de];show st.length+1+m<=_;lia,er,_,_,Z'⟩⟩
  | silent x y n=>rw[hv]at er e2 hnm;exact pD e2 ⟨Z',_,.inr (.inl ⟨.inr (.inr (.inr Z')),Z'⟩),rw0,_,_,_,Z',e2,Z',⟨m,fO _,y,way++[z],st++[(z,i::fr)],s4,l4,c4,hnm y Z',by have:=Bv YY h1;lia,by rw[de];show way.length+1+m<=_;lia,by rw[de];show st.length+1+m<=_;lia,er,_,_,Z'⟩⟩
noncomputable def yU(V:qu)(i:Nat)(c:pG):qu:={V with calls:=V.calls.set i c}
def su(V:qu)(i:Nat)(c d:pG):yU (yU V i c) i d=yU V i d:=by unfold yU;rw[jM]
structure CI(a:Ad)(M:Mp)(A:uj)(V:qu)(i:Nat)(k:rP)(c:pG):Prop where
 bd:pS a M A V
 e1:A.cs[i]?=ga k
 e2:V.calls[i]?=ga c
noncomputable def cF(x:Str)(wy ad md:Uf)(k:Nat):T0 (Str×D):=List.take (α:=Str×D) k [("state",.str "rings"),("caller",.str x),("way",.ref wy),("at",.ref ad),("members",.ref md),("holder",.mK),("since",.int 0)]
variable {M':Mp}{i:Nat}{k:rP}
section
variable {c:pG}
def CI.cell(h:CI a M A V i k c):se a M (A.lists++V.fo) k c:=h.bd.cs i k c h.e1 h.e2
def CI.sub(h:CI a M A V i k c)(s:qG M M'):CI a M' A V i k c:=⟨h.bd.sub s,h.e1,h.e2⟩
def CI.put(h:CI a M A V i k c)(c':pG){ad md:Uf}(ew:c'.way=c.way)(la:og M ad=ga (c'.at_.map D.str))(lm:og M md=ga (c'.ms.map D.str))(na:ad∉A.lists++V.fo)(nm:md∉A.lists++V.fo):
  CI a (pI M k.p (.ins a.e (rC c' k.wy ad md))) A (yU V i c') i k c'/\rc A M A (pI M k.p (.ins a.e (rC c' k.wy ad md))):=by
 obtain⟨b,s⟩:=h.bd.oi h.e1 h.e2 ew la lm na nm;refine⟨⟨b,h.e1,?_⟩,s⟩;show(V.calls.set i c')[i]?=ga c';rw[fC (c9.mp h.e2).1]
end
inductive RF(i:Nat)(c:pG):Ev->pG->Prop
 | rings (ps:QQQ):RF i c (.rings i ps) (c.ring ps)
 | quiet:RF i c (.quiet i) c.nk
 | waits (x:Str):RF i c (.waits i x) (c.wait x)
 | talks (ms:QQQ):RF i c (.talks i ms) (c.ni ms)
 | held (x:Str):RF i c (.held i x) (c.hold x)
 | leaves (x:Str):RF i c (.leaves i x) (c.drop x)
 | over (w:Str):RF i c (.over i w) (c.over w)
def G4(a:Ad):rq:=λds M Q=>CP λp x=>ds=[.ref p,.str x]/\M p=ga (.ins a.e [])/\∀M' wy ad md,qT p M M'->M wy=Fa->M ad=Fa->M md=Fa->ad≠wy->md≠wy->M' p=ga (.ins a.e (rC (xO x) wy ad md))->og M' wy=ga []->og M' ad=ga []->og M' md=ga []->Q .mK M'
def QT(a:Ad):rq:=λds M Q=>Ki λA V i k c w=>ds=[.ref k.p,.str w]/\CI a M A V i k c/\∀M',rc A M A M'->pS a M' A (yU V i (c.over w))->Q .mK M'
def L7(a:Ad):rq:=λds M Q=>Ki λA V i k c x=>ds=[.ref k.p,.str x]/\CI a M A V i k c/\c.at_.length<=100/\c.ms.length<=100/\∀M',rc A M A M'->pS a M' A (yU V i (c.drop x))->Q .mK M'
def KI(a:Ad):rq:=λds M Q=>Ui λA V i k c e c'=>ds=[.ref k.p,Ev.d e]/\CI a M A V i k c/\c.at_.length<=100/\c.ms.length<=100/\RF i c e c'/\∀M',rc A M A M'->pS a M' A (yU V i c')->Q .mK M'
def Qu:Fq P w K mg base 1 a.au (G4 a):=by
 refine fq G.au.toDG FJ (λr u=>⟨_,(pB (qm v0 pF)
 (pB (qm v0 U1)
 (pB (qm v0 (qP sd))
 (pB (qm v0 (qP sd))
 (pB (qm v0 (qP sd))
 (pB (qm v0 rW)
 (pB (qm v0 pE)
 (pC (qm v0 rW))))))))),?_⟩)
 rintro ds M Q ⟨p,x,rfl,hb,q⟩
 refine pD hb ⟨(G.j "state" Z'),by show 0<1000;decide,?_⟩;have k1:qT p M (pI M p (.ins a.e [("state",.str "rings")])):=.put;have b1:pI M p (.ins a.e [("state",.str "rings")]) p=ga (.ins a.e [("state",.str "rings")]):=pW;show uE _ _ _ _ (pI M p (.ins a.e [("state",.str "rings")]));generalize pI M p (.ins a.e [("state",.str "rings")])=N1 at k1 b1 ⊢;refine pD b1 ⟨(G.j "caller" Z'),by show 1<1000;decide,?_⟩;have k2:=k1.trans (qT.put (p:=p) (c:=.ins a.e [("state",.str "rings"),("caller",.str x)]));have b2:pI N1 p (.ins a.e [("state",.str "rings"),("caller",.str x)]) p=ga (.ins a.e [("state",.str "rings"),("caller",.str x)]):=pW;show uE _ _ _ _ (pI N1 p (.ins a.e [("state",.str "rings"),("caller",.str x)]));generalize pI N1 p (.ins a.e [("state",.str "rings"),("caller",.str x)])=N2 at k2 b2 ⊢;refine⟨pz Z',λwy hwy=>?_⟩;obtain⟨n3,e3,k3,c3,b3⟩:=tq (fs':=(cF x wy 0 0 3)) (c:=.lst []) b2 hwy;refine pD e3 ⟨(G.j "way" Z'),by show 2<1000;decide,?_⟩;show uE _ _ _ _ (pI (pI N2 wy (.lst [])) p (.ins a.e (cF x wy 0 0 3)));generalize pI (pI N2 wy (.lst [])) p (.ins a.e (cF x wy 0 0 3))=N3 at k3 c3 b3 ⊢;have z1:M wy=Fa:=rO k2 b2 hwy;have kk3:=k2.trans k3;have l3:og N3 wy=ga []:=sX c3;refine⟨pz Z',λad had=>?_⟩;obtain⟨n4,e4,k4,c4,b4⟩:=tq (fs':=(cF x wy ad 0 4)) (c:=.lst []) b3 had;refine pD e4 ⟨(G.j "at" Z'),by show 3<1000;decide,?_⟩;show uE _ _ _ _ (pI (pI N3 ad (.lst [])) p (.ins a.e (cF x wy ad 0 4)));generalize pI (pI N3 ad (.lst [])) p (.ins a.e (cF x wy ad 0 4))=N4 at k4 c4 b4 ⊢;have z2:M ad=Fa:=rO kk3 b3 had;have ZX:=kk3.trans k4;have naw:ad≠wy:=λz=>by rw[z,c3]at had;cases had
 have l4:=k4.lst (pZ l3 b3) l3;have m4:og N4 ad=ga []:=sX c4;refine⟨pz Z',λmd hmd=>?_⟩;obtain⟨n5,e5,k5,c5,b5⟩:=tq (fs':=(cF x wy ad md 5)) (c:=.lst []) b4 hmd;refine pD e5 ⟨(G.j "members" Z'),by show 4<1000;decide,?_⟩;show uE _ _ _ _ (pI (pI N4 md (.lst [])) p (.ins a.e (cF x wy ad md 5)));generalize pI (pI N4 md (.lst [])) p (.ins a.e (cF x wy ad md 5))=N5 at k5 c5 b5 ⊢;have z3:M md=Fa:=rO ZX b4 hmd;have ZY:=ZX.trans k5;have nmw:md≠wy:=λz=>by rw[z,pY l4]at hmd;cases hmd
 have l5:=k5.lst (pZ l4 b4) l4;have m5:=k5.lst (pZ m4 b4) m4;have o5:og N5 md=ga []:=sX c5;refine pD b5 ⟨(G.j "holder" Z'),by show 5<1000;decide,?_⟩;have k6:qT p N5 (pI N5 p (.ins a.e (cF x wy ad md 6))):=.put;have b6:pI N5 p (.ins a.e (cF x wy ad md 6)) p=ga (.ins a.e (cF x wy ad md 6)):=pW;show uE _ _ _ _ (pI N5 p (.ins a.e (cF x wy ad md 6)));generalize pI N5 p (.ins a.e (cF x wy ad md 6))=N6 at k6 b6 ⊢;refine pD b6 ⟨(G.j "since" Z'),by show 6<1000;decide,?_⟩;have k7:=k6.trans (qT.put (p:=p) (c:=.ins a.e (cF x wy ad md 7)));have b7:pI N6 p (.ins a.e (cF x wy ad md 7)) p=ga (.ins a.e (cF x wy ad md 7)):=pW;rw[show wj "since" (.int 0) (cF x wy ad md 6)=(cF x wy ad md 7)from Z'];generalize pI N6 p (.ins a.e (cF x wy ad md 7))=N7 at k7 b7 ⊢;refine pD b7 ⟨(G.j "word" Z'),by show 7<1000;decide,_,.refl,?_⟩;have k8:=k7.trans (qT.put (p:=p) (c:=.ins a.e (rC (xO x) wy ad md)));exact q _ wy ad md (ZY.trans k8) z1 z2 z3 naw nmw pW (k8.lst (pZ l5 b5) l5) (k8.lst (pZ m5 b5) m5) (k8.lst (pZ o5 b5) o5)
def Jy:Fq P w K mg base 1 a.ab (QT a):=by
 refine fq G.ab.toDG Gi (λr u=>⟨_,(pB (qm v0 pF)
 (pB (qm v0 U1)
 (pB (qm v0 (qP sd))
 (pB (qm v0 (qP sd))
 (pC (qm v0 rW)))))),?_⟩)
 rintro ds M Q ⟨A,V,i,k,c,w0,rfl,h,q⟩
 obtain⟨ad,md,h1,h2,h3,h4,n1,n2⟩:=h.cell;refine pD h1 ⟨(G.j "state" Z'),by show 8<1000;decide,?_⟩;obtain⟨g1,s1⟩:=h.put {c with st:="over"} Z' h3 h4 n1 n2;show uE _ _ _ _ (pI M k.p (.ins a.e (rC {c with st:="over"} k.wy ad md)));generalize pI M k.p (.ins a.e (rC {c with st:="over"} k.wy ad md))=M1 at g1 s1 ⊢;clear h1 h2 h3 h4 n1 n2;obtain⟨ad,md,h1,h2,h3,h4,n1,n2⟩:=g1.cell;refine pD h1 ⟨(G.j "word" Z'),by show 8<1000;decide,?_⟩;obtain⟨g2,s2⟩:=g1.put {c with st:="over",wd:=some w0} Z' h3 h4 n1 n2;show uE _ _ _ _ (pI M1 k.p (.ins a.e (rC {c with st:="over",wd:=some w0} k.wy ad md)));generalize pI M1 k.p (.ins a.e (rC {c with st:="over",wd:=some w0} k.wy ad md))=M2 at g2 s2 ⊢;clear h1 h2 h3 h4 n1 n2;refine⟨pz Z',λp hp=>?_⟩;have t3:=qG.new (c:=.lst []) hp;have lp:=@pK M2 p [];have np:=g2.bd.nu hp;have g2':=g2.sub t3;have s2':=s2.trans (.sub t3);generalize pI M2 p (.lst [])=M2' at t3 lp g2' s2' ⊢;obtain⟨ad,md,h1,h2,h3,h4,n1,n2⟩:=g2'.cell;refine pD h1 ⟨(G.j "at" Z'),by show 8<1000;decide,?_⟩;obtain⟨g3,s3⟩:=g2'.put {c with st:="over",wd:=some w0,at_:=[]} Z' lp h4 np n2;show uE _ _ _ _ (pI M2' k.p (.ins a.e (rC {c with st:="over",wd:=some w0,at_:=[]} k.wy p md)));generalize pI M2' k.p (.ins a.e (rC {c with st:="over",wd:=some w0,at_:=[]} k.wy p md))=M3 at g3 s3 ⊢;clear h1 h2 h3 h4 n1 n2 lp t3 np g2 g2';refine⟨pz Z',λp2 X4=>?_⟩;have t4:=qG.new (c:=.lst []) X4;have lp:=@pK M3 p2 [];have np:=g3.bd.nu X4;have g3':=g3.sub t4;have s3':=s3.trans (.sub t4);generalize pI M3 p2 (.lst [])=M3' at t4 lp g3' s3' ⊢;obtain⟨ad,md,h1,h2,h3,h4,n1,n2⟩:=g3'.cell;refine pD h1 ⟨(G.j "members" Z'),by show 8<1000;decide,?_⟩;obtain⟨g4,s4⟩:=g3'.put {c with st:="over",wd:=some w0,at_:=[],ms:=[]} Z' h3 lp n1 np;rw[show wj "members" (.ref p2) (rC {c with st:="over",wd:=some w0,at_:=[]} k.wy ad md)=rC {c with st:="over",wd:=some w0,at_:=[],ms:=[]} k.wy ad p2 from rfl];generalize pI M3' k.p (.ins a.e (rC {c with st:="over",wd:=some w0,at_:=[],ms:=[]} k.wy ad p2))=M4 at g4 s4 ⊢;clear h1 h2 h3 h4 n1 n2 lp t4 np g3 g3';obtain⟨ad,md,h1,h2,h3,h4,n1,n2⟩:=g4.cell;refine pD h1 ⟨(G.j "holder" Z'),by show 8<1000;decide,_,.refl,?_⟩;obtain⟨g5,s5⟩:=g4.put (c.over w0) Z' h3 h4 n1 n2;refine q _ ((s1.trans s2').trans (s3'.trans (s4.trans s5))) ?_;have:=g5.bd;rw[su,su,su,su]at this;exact this
def Ln:Fq P w K mg base 1 a.aQ (L7 a):=by
 refine fq G.aQ.toDG Dj (λr u=>⟨_,(pB (qm v0 (qO Z' (xQ (ix:=[Fa,ga 1]) (N':=["other","phone"])) (qI (pJ v0)) (qD 0) (vn (pL u v0 U1)) v0))
 (pC (qm v0 (qO Z' (xQ (ix:=[Fa,ga 1]) (N':=["other","phone"])) (qI (pJ v0)) (qD 0) (vn (pL u v0 U1)) v0)))),?_⟩)
 rintro ds M Q ⟨A,V,i,k,c,x,rfl,h,la,lm,q⟩
 have hz:=dQ;obtain⟨ad,md,h1,h2,h3,h4,n1,n2⟩:=h.cell;refine pD h1 (i' Z' (i' h3 (tL (f:=id) (t:=QW x) h3 _ [] _ (by rw[cY];simp only[dN];lia) (λd hd k0 hk=>?_) (λd hd _ k0 hk=>?_) λp hp=>?_)))
 .obtain⟨y,hy,rfl⟩:=dF.mp hd;exact hk
 .obtain⟨y,hy,rfl⟩:=dF.mp hd;exact hk
 rw[Co];have t1:=qG.new (c:=.lst ((rN c.at_ x).map D.str)) hp;have lp:=@pK M p ((rN c.at_ x).map D.str);have np:=h.bd.nu hp;have h':=h.sub t1;have s1:rc A M A (pI M p (.lst ((rN c.at_ x).map D.str))):=.sub t1;generalize pI M p (.lst ((rN c.at_ x).map D.str))=M1 at t1 lp h' s1 ⊢;clear h1 h2 h3 h4 n1 n2;obtain⟨ad,md,h1,h2,h3,h4,n1,n2⟩:=h'.cell;refine pD h1 ⟨(G.j "at" Z'),by show 8<1000;decide,?_⟩;obtain⟨g2,s2⟩:=h'.put {c with at_:=rN c.at_ x} Z' lp h4 np n2;rw[show wj "at" (.ref p) (rC c k.wy ad md)=rC {c with at_:=rN c.at_ x} k.wy p md from rfl];generalize pI M1 k.p (.ins a.e (rC {c with at_:=rN c.at_ x} k.wy p md))=M2 at g2 s2 ⊢;clear h1 h2 h3 h4 n1 n2 lp np;obtain⟨ad,md,h1,h2,h3,h4,n1,n2⟩:=g2.cell;refine pD h1 (i' Z' (i' h4 (tL (f:=id) (t:=QW x) h4 _ [] _ (by rw[cY];simp only[dN];show 0+c.ms.length<=Ch;lia) (λd hd k0 hk=>?_) (λd hd _ k0 hk=>?_) λp2 X4=>?_)))
 .obtain⟨y,hy,rfl⟩:=dF.mp hd;exact hk
 .obtain⟨y,hy,rfl⟩:=dF.mp hd;exact hk
 rw[Co];have t3:=qG.new (c:=.lst ((rN c.ms x).map D.str)) X4;have lp:=@pK M2 p2 ((rN c.ms x).map D.str);have np:=g2.bd.nu X4;have g2':=g2.sub t3;have s3:rc A M2 A (pI M2 p2 (.lst ((rN c.ms x).map D.str))):=.sub t3;generalize pI M2 p2 (.lst ((rN c.ms x).map D.str))=M3 at t3 lp g2' s3 ⊢;clear h1 h2 h3 h4 n1 n2;obtain⟨ad,md,h1,h2,h3,h4,n1,n2⟩:=g2'.cell;refine pD h1 ⟨(G.j "members" Z'),by show 8<1000;decide,_,.refl,?_⟩;obtain⟨g4,s4⟩:=g2'.put (c.drop x) Z' h3 lp n1 np;refine q _ ((s1.trans s2).trans (s3.trans s4)) ?_;have:=g4.bd;rw[su]at this;exact this
def Kk:Fq P w K mg base 2 a.aR (KI a):=by
 refine fq G.aR.toDG ya (λr u=>⟨_,(pB (pQ 2 ya (pN U1 pE))
 (pC (pU (pL u U2 pF)
 (pB (qm v0 pF)
 (pB (qm v0 (qw sJ Z' G.r sD (qp (pN U1 pE))))
 (pC (qm v0 pE))))
 (pC (pU (pL u U2 pF)
 (pC (qm v0 (qP sd)))
 (pC (pU (pL u U2 pF)
 (pB (qm v0 pF)
 (pC (qm v0 (qP (qp (pN U1 pE))))))
 (pC (pU (pL u U2 pF)
 (pB (qm v0 pF)
 (pB (qm v0 (qw sJ Z' G.r sD (qp (pN U1 pE))))
 (pB (qm v0 (qP sd))
 (pC (qm v0 rW)))))
 (pC (pU (pL u U2 pF)
 (pB (qm v0 pF)
 (pC (qm v0 (pN U1 pE))))
 (pC (pU (pL u U2 pF)
 (pC (pR (pO (Ln G) r G.aQ (rZ v0 (pN U1 pE)))))
 (pC (pU (pL u U2 pF)
 (pC (pR (pO (Jy G) r G.ab (rZ v0 (pN U1 pE)))))
 pP))))))))))))))),?_⟩)
 rintro ds M Q ⟨A,V,i,k,c,e,c',rfl,h,la,lm,hc,q⟩
 cases hc with
 | over w0=>exact⟨A,V,i,k,c,w0,Z',h,λM' s b=>⟨M',.refl,q M' s b⟩⟩
 | leaves x=>exact⟨A,V,i,k,c,x,Z',h,la,lm,λM' s b=>⟨M',.refl,q M' s b⟩⟩
 | quiet=>refine⟨pz Z',λp hp=>?_⟩;obtain⟨M1,e0,t3,lp⟩:=xI (ds:=[]) hp;rw[<-e0];have np:=h.bd.nu hp;have g1:=h.sub t3;obtain⟨ad,md,h1,h2,h3,h4,n1,n2⟩:=g1.cell;refine pD h1 ⟨(G.j "at" Z'),by show 8<1000;decide,_,.refl,?_⟩;obtain⟨g5,s5⟩:=g1.put c.nk Z' lp h4 np n2;exact q _ ((rc.sub t3).trans s5) g5.bd
 | waits x=>obtain⟨ad,md,h1,h2,h3,h4,n1,n2⟩:=h.cell;refine pD h1 ⟨(G.j "state" Z'),by show 8<1000;decide,?_⟩;obtain⟨g1,s1⟩:=h.put {c with st:="waits"} Z' h3 h4 n1 n2;show uE _ _ _ _ (pI M k.p (.ins a.e (rC {c with st:="waits"} k.wy ad md)));generalize pI M k.p (.ins a.e (rC {c with st:="waits"} k.wy ad md))=M1 at g1 s1 ⊢;clear h1 h2 h3 h4 n1 n2;refine⟨pz Z',λp hp=>?_⟩;have t3:=qG.new (c:=.lst [D.str x]) hp;have lp:=@pK M1 p [D.str x];have np:=g1.bd.nu hp;have ZO:=g1.sub t3;generalize pI M1 p (.lst [D.str x])=M1' at t3 lp ZO ⊢;obtain⟨ad,md,h1,h2,h3,h4,n1,n2⟩:=ZO.cell;refine pD h1 ⟨(G.j "at" Z'),by show 8<1000;decide,_,.refl,?_⟩;obtain⟨g5,s5⟩:=ZO.put (c.wait x) Z' lp h4 np n2;refine q _ (s1.trans ((rc.sub t3).trans s5)) ?_;have:=g5.bd;rw[su]at this;exact this
 | held x=>obtain⟨ad,md,h1,h2,h3,h4,n1,n2⟩:=h.cell;refine pD h1 ⟨(G.j "state" Z'),by show 8<1000;decide,?_⟩;obtain⟨g1,s1⟩:=h.put {c with st:="held"} Z' h3 h4 n1 n2;show uE _ _ _ _ (pI M k.p (.ins a.e (rC {c with st:="held"} k.wy ad md)));generalize pI M k.p (.ins a.e (rC {c with st:="held"} k.wy ad md))=M1 at g1 s1 ⊢;clear h1 h2 h3 h4 n1 n2;obtain⟨ad,md,h1,h2,h3,h4,n1,n2⟩:=g1.cell;refine pD h1 ⟨(G.j "holder" Z'),by show 8<1000;decide,_,.refl,?_⟩;obtain⟨g5,s5⟩:=g1.put (c.hold x) Z' h3 h4 n1 n2;refine q _ (s1.trans s5) ?_;have:=g5.bd;rw[su]at this;exact this
 | rings ps=>obtain⟨ad,md,h1,h2,h3,h4,n1,n2⟩:=h.cell;refine pD h1 ⟨(G.j "state" Z'),by show 8<1000;decide,?_⟩;obtain⟨g1,s1⟩:=h.put {c with st:="rings"} Z' h3 h4 n1 n2;show uE _ _ _ _ (pI M k.p (.ins a.e (rC {c with st:="rings"} k.wy ad md)));generalize pI M k.p (.ins a.e (rC {c with st:="rings"} k.wy ad md))=M1 at g1 s1 ⊢;clear h1 h2 h3 h4 n1 n2;refine λp hp=>?_;have t3:=qG.new (c:=.lst (ps.map D.str)) hp;have lp:=@pK M1 p (ps.map D.str);have np:=g1.bd.nu hp;have ZO:=g1.sub t3;have s1':=s1.trans (.sub t3);generalize pI M1 p (.lst (ps.map D.str))=M1' at t3 lp ZO s1' ⊢;obtain⟨ad,md,h1,h2,h3,h4,n1,n2⟩:=ZO.cell;refine pD h1 ⟨(G.j "at" Z'),by show 8<1000;decide,?_⟩;obtain⟨g3,s3⟩:=ZO.put {c with st:="rings",at_:=ps} Z' lp h4 np n2;rw[show wj "at" (.ref p) (rC {c with st:="rings"} k.wy ad md)=rC {c with st:="rings",at_:=ps} k.wy p md from rfl];generalize pI M1' k.p (.ins a.e (rC {c with st:="rings",at_:=ps} k.wy p md))=M3 at g3 s3 ⊢;clear h1 h2 h3 h4 n1 n2 lp t3 np;obtain⟨ad,md,h1,h2,h3,h4,n1,n2⟩:=g3.cell;refine pD h1 ⟨(G.j "since" Z'),by show 8<1000;decide,_,.refl,?_⟩;obtain⟨g5,s5⟩:=g3.put (c.ring ps) Z' h3 h4 n1 n2;refine q _ (s1'.trans (s3.trans s5)) ?_;have:=g5.bd;rw[su,su]at this;exact this
 | talks ms=>obtain⟨ad,md,h1,h2,h3,h4,n1,n2⟩:=h.cell;refine pD h1 ⟨(G.j "state" Z'),by show 8<1000;decide,?_⟩;obtain⟨g1,s1⟩:=h.put {c with st:="talks"} Z' h3 h4 n1 n2;show uE _ _ _ _ (pI M k.p (.ins a.e (rC {c with st:="talks"} k.wy ad md)));generalize pI M k.p (.ins a.e (rC {c with st:="talks"} k.wy ad md))=M1 at g1 s1 ⊢;clear h1 h2 h3 h4 n1 n2;refine λp hp=>?_;have t3:=qG.new (c:=.lst (ms.map D.str)) hp;have lp:=@pK M1 p (ms.map D.str);have np:=g1.bd.nu hp;have ZO:=g1.sub t3;have s1':=s1.trans (.sub t3);generalize pI M1 p (.lst (ms.map D.str))=M1' at t3 lp ZO s1' ⊢;obtain⟨ad,md,h1,h2,h3,h4,n1,n2⟩:=ZO.cell;refine pD h1 ⟨(G.j "members" Z'),by show 8<1000;decide,?_⟩;obtain⟨g3,s3⟩:=ZO.put {c with st:="talks",ms:=ms} Z' h3 lp n1 np;show uE _ _ _ _ (pI M1' k.p (.ins a.e (rC {c with st:="talks",ms:=ms} k.wy ad p)));generalize pI M1' k.p (.ins a.e (rC {c with st:="talks",ms:=ms} k.wy ad p))=M3 at g3 s3 ⊢;clear h1 h2 h3 h4 n1 n2 lp t3 np;refine⟨pz Z',λp2 X4=>?_⟩;have t4:=qG.new (c:=.lst []) X4;have lp:=@pK M3 p2 [];have np:=g3.bd.nu X4;have g3':=g3.sub t4;have s3':=s3.trans (.sub t4);generalize pI M3 p2 (.lst [])=M3' at t4 lp g3' s3' ⊢;obtain⟨ad,md,h1,h2,h3,h4,n1,n2⟩:=g3'.cell;refine pD h1 ⟨(G.j "at" Z'),by show 8<1000;decide,?_⟩;obtain⟨g4,s4⟩:=g3'.put {c with st:="talks",ms:=ms,at_:=[]} Z' lp h4 np n2;rw[show wj "at" (.ref p2) (rC {c with st:="talks",ms:=ms} k.wy ad md)=rC {c with st:="talks",ms:=ms,at_:=[]} k.wy p2 md from rfl];generalize pI M3' k.p (.ins a.e (rC {c with st:="talks",ms:=ms,at_:=[]} k.wy p2 md))=M4 at g4 s4 ⊢;clear h1 h2 h3 h4 n1 n2 lp t4 np;obtain⟨ad,md,h1,h2,h3,h4,n1,n2⟩:=g4.cell;refine pD h1 ⟨(G.j "holder" Z'),by show 8<1000;decide,_,.refl,?_⟩;obtain⟨g5,s5⟩:=g4.put (c.ni ms) Z' h3 h4 n1 n2;refine q _ (s1'.trans (s3'.trans (s4.trans s5))) ?_;have:=g5.bd;rw[su,su,su]at this;exact this
theorem tR{α:Type}{f:α->α}:∀{l:List α} {i:Nat} {c:α},l[i]?=ga c->l.modify i f=l.set i (f c)
 | [],_,_,h=>by simp at h
 | _::_,0,_,h=>by cases h;rfl
 | x::r,i+1,c,h=>by rw[List.modify_succ_cons,lh,tR (l:=r) (by simpa using h)]
def HA(ps:T0 (Str×Int))(z:Str)(n:Int):wW (tG ps) (.inr z) (.int n)=tG (C1 ps z n):=by
 have ea:((tG ps).any λkv=>decide (kv.1=(Sum.inr z:qW)))=ps.any λp=>decide (p.1=z):=by unfold tG;rw[ja];congr 1;funext p;have:((Sum.inr p.1:qW)=Sum.inr z)=(p.1=z):=propext ⟨λh=>j3 h,λh=>by rw[h]⟩;simp only[Function.comp,this]
 unfold wW C1;rw[ea];by_cases h:(ps.any λp=>decide (p.1=z))=Db
 .rw[dh h,dh h];unfold tG;rw[eh,eh];refine fV λp _=>?_;by_cases hp:p.1=z
  .simp[hp]
  .have:¬(Sum.inr p.1:qW)=Sum.inr z:=λy=>hp (j3 y);simp[hp]
 .rw[dg h,dg h];unfold tG;rw[dJ];rfl
def GM{α:Type}{l:List α}{i:Nat}{x:α}(h:l[i]?=ga x):l.set i x=l:=by obtain⟨hi,e⟩:=c9.mp h;rw[<-e,km]
structure Xp(V:qu):Prop where
 lo:V.log.length<10000000
 le:V.mQ.length<10000000
 ca:V.calls.length<=1000000
 ps:V.ps.length<10000000
 cs:∀c∈V.calls,c.way.length<10000000/\c.at_.length<=100/\c.ms.length<=100
def A7(a:Ad):rq:=λds M Q=>F9 λA V k c v=>ds=[.ref A.b,rM.d v]/\CI a M A V v.i k c/\V.mQ.length<10000000/\c.way.length<10000000/\∀M',rc A M A M'->pS a M' A {yU V v.i (c.go v.g)with mQ:=V.mQ++[v]}->Q .mK M'
def Dg(a:Ad):rq:=λds M Q=>T9 λA V i j ki ci cj ms=>ds=[.ref A.b,.int (i:Nat),.int (j:Nat),names ms]/\CI a M A V i ki ci/\V.calls[j]?=ga cj/\i≠j/\V.mQ.length<10000000/\∀M' A',A'.b=A.b->rc A M A' M'->pS a M' A' {yU (yU V i (ci.over "merged")) j (cj.mem ms)with mQ:=V.mQ.map (rM.to i j)}->Q .mK M'
def Ab(a:Ad):rq:=λds M Q=>CP λA V=>ds=[.ref A.b]/\pS a M A V/\∀M',rc A M A M'->pS a M' A {V with t:=V.t+1,calls:=V.calls.map pG.tick}->Q .mK M'
def vZ(a:Ad):rq:=λds M Q=>Br λb A V e=>ds=[.ref b,Ev.d e]/\A.b=b/\pS a M A V/\Xp V/\e.ok V/\∀M' A',A'.b=A.b->rc A M A' M'->pS a M' A' (qa V e)->Q .mK M'
noncomputable def RL(m k:Nat):D->D
 | .tup (.int i::r)=>if i=(m:Int)then .tup (.int (k:Nat)::r)else .tup (.int i::r)
 | d=>d
def SL(m k:Nat)(v:rM):RL m k v.d=(v.to m k).d:=by
 show(if ((v.i:Nat):Int)=(m:Int)then _ else _)=_;unfold rM.to;by_cases h:v.i=m
 .rw[dh h,dh (by rw[h])];rfl
 .rw[dg h,dg (by lia)];rfl
def HF:Fq P w K mg base 1 a.bB (A7 a):=by
 refine fq G.bB.toDG Ae (λr u=>⟨_,(pB (pR (qL (pJ v0) (qp U1)))
 (pC (pR (qL (pJ (pN (pJ v0) (pN U1 pE))) (qp (pN U1 pE)))))),?_⟩)
 rintro ds M Q ⟨A,V,k,c,v,rfl,ci,l1,l2,q⟩
 have hz:=dQ;have bd:=ci.bd;refine pD bd.at_ (i' Z' ⟨by show(og M A.le).isSome=Db;rw[bd.le];rfl,i' bd.le ⟨by rw[cY];lia,?_⟩⟩);obtain⟨b1,s1⟩:=bd.oA (es:=V.mQ++[v]);rw[dJ]at b1 s1;have b1:pS a (pI M A.le (.lst (V.mQ.map rM.d++[v.d]))) A {V with mQ:=V.mQ++[v]}:=b1;have s1:rc A M A (pI M A.le (.lst (V.mQ.map rM.d++[v.d]))):=s1;generalize pI M A.le (.lst (V.mQ.map rM.d++[v.d]))=M1 at b1 s1 ⊢;obtain⟨ad,md,h1,h2,h3,h4,n1,n2⟩:=b1.cs v.i k c ci.e1 ci.e2;refine pD b1.at_ (i' Z' (i' b1.ca (i' (rD ci.e1) (pD h1 (i' Z' ⟨by show(og M1 k.wy).isSome=Db;rw[h2];rfl,i' h2 ⟨by rw[cY];lia,?_⟩⟩)))));obtain⟨b2,s2⟩:=b1.oB (ws:=c.way++[v.g]) ci.e1 ci.e2;rw[dJ]at b2 s2;exact⟨_,.refl,q _ (s1.trans s2) b2⟩
def NM:Fq P w K mg base 2 a.bC (Dg a):=by
 refine fq G.bC.toDG xY (λr u=>⟨_,(pB (pR (pO (Jy G) r G.ab (rZ (pN (pJ v0) U1) pF)))
 (pB (qm v0 (qO Z' (xQ (ix:=[Fa,ga 1,ga 2]) (N':=["leg","merged","kept"])) (qI (pJ v0)) (qD 0) rS (J9 (pL u (pN v0 pE) U1) (qh (pT (qp U2)) (sE v0 (tj pE) tz)) v0)))
 (pB (pQ 4 xY (pN (pJ v0) U2))
 (pC (qm v4 (qw sJ Z' G.r sD (qp U3))))))),?_⟩)
 rintro ds M Q ⟨A,V,i,j,ki,ci,cj,ms,rfl,hi,hj,YS,l1,q⟩
 have hz:=dQ;refine pD hi.bd.at_ (i' Z' (i' Z' (i' hi.bd.ca (i' (rD hi.e1) ⟨A,V,i,ki,ci,"merged",Z',hi,λM1 s1 b1=>?_⟩))));have hj1:(yU V i (ci.over "merged")).calls[j]?=ga cj:=by show(V.calls.set i _)[j]?=_;rw[fB YS];exact hj
 have le1:og M1 A.le=ga (V.mQ.map rM.d):=b1.le;refine pD b1.at_ (i' Z' (i' le1 (rA (f:=RL i j) le1 _ [] _ (by rw[cY];simp only[dN];lia) (λd hd k hk=>?_) λp hp=>?_)))
 .obtain⟨v,_,rfl⟩:=dF.mp hd;refine i' Z' ?_;have hk:k (if ((v.i:Nat):Int)=(i:Int)then .tup [.int (j:Nat),.str v.f,.str v.g,.str v.y]else .tup [.int (v.i:Nat),.str v.f,.str v.g,.str v.y]) M1:=hk;refine qQ (c:=((v.i:Nat):Int)==(i:Nat)) (λz=>?_) (λz=>?_)
  .rw[dh (ZB z)]at hk;exact⟨pz Z',fQ _ _,by show 1+3<=Ch;lia,hk⟩
  .rw[dg (λy=>z (by rw[y];exact eW _))]at hk;exact hk
 have em:[]++(V.mQ.map rM.d).map (RL i j)=(V.mQ.map (rM.to i j)).map rM.d:=by rw[eA,eh,eh];exact fV λv _=>SL i j v
 rw[em];obtain⟨b2,s2⟩:=b1.oC (es:=V.mQ.map (rM.to i j)) hp;have t:=qG.new (c:=.lst ((V.mQ.map (rM.to i j)).map rM.d)) hp;refine pD (t _ _ b1.at_) ⟨(G.C "legs" Z'),by show 8<1000;decide,?_⟩;show uE _ _ _ _ (pI (pI M1 p (.lst ((V.mQ.map (rM.to i j)).map rM.d))) A.b (.ins a.c (tU (.ref V.p) V.h V.t A.ca p A.nx A.on A.lo)));have b2:pS a (pI (pI M1 p (.lst ((V.mQ.map (rM.to i j)).map rM.d))) A.b (.ins a.c (tU (.ref V.p) V.h V.t A.ca p A.nx A.on A.lo))) {A with le:=p} {yU V i (ci.over "merged")with mQ:=V.mQ.map (rM.to i j)}:=b2;have s2:rc A M1 {A with le:=p} (pI (pI M1 p (.lst ((V.mQ.map (rM.to i j)).map rM.d))) A.b (.ins a.c (tU (.ref V.p) V.h V.t A.ca p A.nx A.on A.lo))):=s2;generalize pI (pI M1 p (.lst ((V.mQ.map (rM.to i j)).map rM.d))) A.b (.ins a.c (tU (.ref V.p) V.h V.t A.ca p A.nx A.on A.lo))=M2 at b2 s2 ⊢;have hjk:j<A.cs.length:=by rw[hi.bd.len];exact(c9.mp hj).1
 have ej:A.cs[j]?=ga A.cs[j]:=df hjk;generalize A.cs[j]=kj at ej;have cj2:CI a M2 {A with le:=p} _ j kj cj:=⟨b2,ej,hj1⟩;refine pD b2.at_ (i' Z' (i' Z' (i' b2.ca (i' (rD ej) ?_))));refine λr hr0=>?_;obtain⟨M3,e0,t3,lr⟩:=xI (ds:=ms.map D.str) hr0;rw[<-e0];have nr:=b2.nu hr0;have cj3:=cj2.sub t3;obtain⟨ad,md,h1,h2,h3,h4,n1,n2⟩:=cj3.cell;refine pD h1 ⟨(G.j "members" Z'),by show 8<1000;decide,_,.refl,?_⟩;obtain⟨g5,s5⟩:=cj3.put (cj.mem ms) Z' h3 lr n1 nr;exact q _ {A with le:=p} Z' (s1.trans (s2.trans ((rc.sub t3).trans s5))) g5.bd
def E1:Fq P w K mg base 1 a.bD (Ab a):=by
 refine fq G.bD.toDG vE (λr u=>⟨_,(pB (Ee v0 pE)
 (pC (tS eS Z' (qI (pJ v0)) (rY 1 vE)
 (pC (pU (pL u (pJ U1) pF)
 (pC (Ee U1 pE))
 pP))))),?_⟩)
 rintro ds M Q ⟨A,V,rfl,bd,q⟩
 refine pD bd.at_ ⟨(G.C "turn" Z'),i' Z' (i' Z' (pD bd.at_ ⟨Z',by show 8<1000;decide,?_⟩))⟩;obtain⟨b1,s1⟩:=bd.putT (t:=V.t+1);rw[show wj "turn" (.int (V.t+1)) (tU (.ref V.p) V.h V.t A.ca A.le A.nx A.on A.lo)=tU (.ref V.p) V.h (V.t+1) A.ca A.le A.nx A.on A.lo from rfl];generalize pI M A.b (.ins a.c (tU (.ref V.p) V.h (V.t+1) A.ca A.le A.nx A.on A.lo))=M1 at b1 s1 ⊢;refine pD b1.at_ (i' Z' (i' b1.ca ?_));refine uL (A.cs.map λk=>D.ref k.p) (λpre U M'=>pS a M' A {V with t:=V.t+1,calls:=(V.calls.take pre.length).map pG.tick++V.calls.drop pre.length}/\rc A M A M'/\∃y,U=[ga (.ref A.b),y]) (λ_ _ M' j=>j.1.ca) _ [] _ _ Z' ⟨b1,s1,Fa,Z'⟩ ?_ ?_
 .rintro pre d post e U M' ⟨b2,s2,y,rfl⟩ nx X2
  have hd:(A.cs.map λk=>D.ref k.p)[pre.length]?=ga d:=by rw[<-e];simp
  rw[dE]at hd;cases ek:A.cs[pre.length]? with
  | none=>rw[ek]at hd;cases hd
  | some k=>
   rw[ek]at hd;have hd:D.ref k.p=d:=dw hd;subst hd;have hi:pre.length<V.calls.length:=by rw[<-bd.len];exact(c9.mp ek).1
   have ec:V.calls[pre.length]?=ga V.calls[pre.length]:=df hi;have ed:V.calls.drop pre.length=V.calls[pre.length]::V.calls.drop (pre.length+1):=gQ hi;have et:V.calls.take (pre.length+1)=V.calls.take pre.length++[V.calls[pre.length]]:=by rw[fL,ec];rfl
   generalize V.calls[pre.length]=c at ec ed et;have hl:((V.calls.take pre.length).map pG.tick).length=pre.length:=by rw[cY,fu];lia
   have ec2:((V.calls.take pre.length).map pG.tick++V.calls.drop pre.length)[pre.length]?=ga c:=by rw[eP (by rw[hl];exact dv _),hl,fY,ed];rfl
   rw[de,dI,et]at X2;have en:((V.calls.take pre.length).map pG.tick++V.calls.drop pre.length).set pre.length c.tick=(V.calls.take pre.length++[c]).map pG.tick++V.calls.drop (pre.length+1):=by rw[iQ _ _ (by rw[hl];exact dv _),hl,fY,ed,dJ,fA];rfl
   have ci:CI a M' A _ pre.length k c:=⟨b2,ek,ec2⟩;obtain⟨ad,md,h1,h2,h3,h4,n1,n2⟩:=ci.cell;refine pD h1 (i' Z' ?_);have ht:c.tick=if (c.st=="rings")=Db then{c with si:=c.si+1}else c:=rfl;refine qQ (c:=c.st=="rings") (λg=>?_) (λg=>?_)
   .rw[dh g]at ht;refine pD h1 ⟨(G.j "since" Z'),i' Z' (i' Z' (pD h1 ⟨Z',by show 8<1000;decide,?_⟩))⟩;obtain⟨g5,s5⟩:=ci.put c.tick (by rw[ht]) (by rw[ht];exact h3) (by rw[ht];exact h4) n1 n2;have b5:=g5.bd;unfold yU at b5;rw[en]at b5;rw[ht]at b5 s5;exact X2 _ _ ⟨b5,s2.trans s5,_,Z'⟩
   .rw[dg g]at ht;rw[ht,GM ec2]at en;rw[en]at b2;exact X2 _ _ ⟨b2,s2,_,Z'⟩
 .rintro U M' ⟨b2,s2,y,rfl⟩
  rw[cY,bd.len,fK,jL,eO]at b2;exact⟨M',.refl,q M' s2 b2⟩
def rg:Fq P w K mg base 3 a.k (vZ a):=by
 refine fq G.k.toDG xU (λr u=>⟨_,(pB (pR (qL (pJ v0) (qp U1)))
 (pB (pQ 2 xU (pN U1 pE))
 (pC (pU (pL u U2 pF)
 (pC (pR (qL (pJ v0) (qp (vq (Qu G) r G.e G.cl G.au.toDG (qp (pN U1 pE)))))))
 (pC (pU (pL u U2 pF)
 (pC (pR (qe v0 G.c.toCls G.bB (HF G) r (qp (sE U1 (tj pE) tz)))))
 (pC (pU (pL u U2 pF)
 (pC (PZ u (pJ v0) (pN U1 pE) (pN U1 pE)))
 (pC (pU (pL u U2 pF)
 (pC (pR (qe v0 G.c.toCls G.bC (NM G) r (rB (pN U1 pE) (pN U1 pE) (pN U1 pE)))))
 (pC (pU (pL u U2 pF)
 (pC (pR (vN v0 G.c.toCls G.bD (E1 G) r)))
 (pC (pU (pL u U2 (pT (rZ pF pF)))
 (pC (NK (qv u U2 pF) (MX (pJ v0) (pN U1 pE))))
 (pC (pU (pL u U2 pF)
 (pC (pR (pO (Kk G) r G.aR (rZ (pN (pJ v0) (pN U1 pE)) U1))))
 pP)))))))))))))))),?_⟩)
 rintro ds M Q ⟨_,A,V,e,rfl,rfl,bd,lim,ev,q⟩
 have hz:=dQ;have ll:=lim.lo;have lc:=lim.ca;have lp:=lim.ps;refine pD bd.at_ (i' Z' ⟨by show(og M A.lo).isSome=Db;rw[bd.lo];rfl,i' bd.lo ⟨by rw[cY];lia,?_⟩⟩);have hb:=bd.ou (es:=V.log++[e]);rw[dJ]at hb;obtain⟨b1,s1⟩:pS a (pI M A.lo (.lst (V.log.map Ev.d++[e.d]))) A (qS V e)/\rc A M A (pI M A.lo (.lst (V.log.map Ev.d++[e.d]))):=hb;show uE _ _ _ _ (pI M A.lo (.lst (V.log.map Ev.d++[e.d])));generalize pI M A.lo (.lst (V.log.map Ev.d++[e.d]))=M1 at b1 s1 ⊢;have Z0:∀i,i<V.calls.length->∃k c,A.cs[i]?=ga k/\V.calls[i]?=ga c/\c∈V.calls:=λi hi=>by
  have Y7:i<A.cs.length:=by rw[bd.len];exact hi
  exact⟨_,_,df Y7,df hi,ip hi⟩
 have chg:∀(i:Nat) (k:rP) (c:pG) (c':pG) (f:pG->pG),A.cs[i]?=ga k->V.calls[i]?=ga c->f c=c'->qa V e=xP (qS V e) i f->∀(M2:Mp),rc A M1 A M2->pS a M2 A (yU (qS V e) i c')->∃XZ,qG XZ M2/\Q .mK XZ:=λi k c c' f e1 e2 e3 e4 M2 s2 b2=>⟨M2,.refl,q M2 A Z' (s1.trans s2) (by
  rw[e4];unfold xP;rw[show(qS V e).calls=V.calls from rfl,tR e2,e3];exact b2)⟩
 cases e with
 | new n x=>refine pD b1.at_ (i' Z' ⟨by show(og M1 A.ca).isSome=Db;rw[b1.ca];rfl,λp hp=>⟨p,x,Z',pW,λM2 wy ad md kp z1 z2 z3 n1 n2 h1 h2 h3 h4=>⟨Z',?_⟩⟩⟩);have sp:=qG.new (c:=.ins a.e []) hp;have s2:qG M1 M2:=λy d hy=>kp y d (BX hy hp) (sp y d hy);refine i' (s2.lst b1.ca) ⟨by rw[cY,b1.len];show V.calls.length<Ch;lia,?_⟩;obtain⟨b3,s3⟩:=b1.oh s2 (c:=xO x) hp (sp.none z1) (sp.none z2) (sp.none z3) h1 h2 h3 h4 n1 n2;exact⟨_,.refl,q _ (A.add ⟨p,wy⟩) Z' (s1.trans s3) b3⟩
 | leg v=>obtain⟨k,c,ek,ec,hc⟩:=Z0 v.i ev;refine pD b1.at_ ⟨Z',_,⟨Z',Z'⟩,A,qS V (.leg v),k,c,v,Z',⟨b1,ek,ec⟩,lim.le,(lim.cs c hc).1,λM2 s2 b2=>⟨M2,.refl,q M2 A Z' (s1.trans s2) ?_⟩⟩;show pS a M2 A {qS V (.leg v)with mQ:=V.mQ++[v],calls:=V.calls.modify v.i (·.go v.g)};rw[tR ec];exact b2
 | next z n=>refine pD b1.at_ (i' Z' (i' b1.nx ⟨by show(tG V.ps).length<Ch;unfold tG;rw[cY];lia,?_⟩));rw[HA];obtain⟨b2,s2⟩:=b1.oP (ps:=C1 V.ps z n);exact⟨_,.refl,q _ A Z' (s1.trans s2) b2⟩
 | merge i j ms=>obtain⟨hi,hj,hij,_⟩:=ev;obtain⟨ki,ci,eki,eci,hci⟩:=Z0 i hi;obtain⟨kj,cj,ekj,ecj,hcj⟩:=Z0 j hj;refine pD b1.at_ ⟨Z',_,⟨Z',Z'⟩,A,qS V (.merge i j ms),i,j,ki,ci,cj,ms,Z',⟨b1,eki,eci⟩,ecj,hij,lim.le,λM2 A2 eb s2 b2=>⟨M2,.refl,q M2 A2 eb (s1.trans s2) ?_⟩⟩;show pS a M2 A2 {qS V (.merge i j ms)with calls:=(V.calls.modify i (·.over "merged")).modify j (·.mem ms),mQ:=V.mQ.map (rM.to i j)};rw[tR eci,tR (show(V.calls.set i _)[j]?=ga cj by rw[fB hij];exact ecj)];exact b2
 | asks i z ns=>exact⟨pz Z',Z',Z',M1,.refl,q M1 A Z' s1 b1⟩
 | turn=>exact pD b1.at_ ⟨Z',_,⟨Z',Z'⟩,A,qS V .turn,Z',b1,λM2 s2 b2=>⟨M2,.refl,q M2 A Z' (s1.trans s2) b2⟩⟩
 | sw b i=>
  have hi:i<V.on.length:=ev;obtain⟨b2,s2⟩:=b1.oW (bs:=V.on.set i b);have es:(V.on.map D.bl).set i (.bl b)=(V.on.set i b).map D.bl:=(mx).symm;have ix:F8 (V.on.map D.bl).length (i:Nat)=ga i:=by rw[cY];unfold F8;simp[hi]
  have X0:∃XZ,qG XZ (pI M1 A.on (.lst ((V.on.map D.bl).set i (.bl b))))/\Q .mK XZ:=by rw[es];exact⟨_,.refl,q _ A Z' (s1.trans s2) b2⟩
  cases b with
  | true=>exact⟨pz Z',Z',Z',pD b1.at_ (i' Z' (i' b1.on (i' ix X0)))⟩
  | false=>exact⟨pz Z',Z',Z',pD b1.at_ (i' Z' (i' b1.on (i' ix X0)))⟩
 | rings i ps=>obtain⟨k,c,ek,ec,hc⟩:=Z0 i ev.1;exact⟨pz Z',Z',Z',pD b1.at_ (i' Z' (i' b1.ca (i' (rD ek) ⟨A,qS V _,i,k,c,_,_,Z',⟨b1,ek,ec⟩,(lim.cs c hc).2.1,(lim.cs c hc).2.2,.rings ps,chg i k c _ _ ek ec Z' Z'⟩)))⟩
 | quiet i=>obtain⟨k,c,ek,ec,hc⟩:=Z0 i ev;exact⟨pz Z',Z',Z',pD b1.at_ (i' Z' (i' b1.ca (i' (rD ek) ⟨A,qS V _,i,k,c,_,_,Z',⟨b1,ek,ec⟩,(lim.cs c hc).2.1,(lim.cs c hc).2.2,.quiet,chg i k c _ _ ek ec Z' Z'⟩)))⟩
 | waits i x=>obtain⟨k,c,ek,ec,hc⟩:=Z0 i ev;exact⟨pz Z',Z',Z',pD b1.at_ (i' Z' (i' b1.ca (i' (rD ek) ⟨A,qS V _,i,k,c,_,_,Z',⟨b1,ek,ec⟩,(lim.cs c hc).2.1,(lim.cs c hc).2.2,.waits x,chg i k c _ _ ek ec Z' Z'⟩)))⟩
 | talks i ms=>obtain⟨k,c,ek,ec,hc⟩:=Z0 i ev.1;exact⟨pz Z',Z',Z',pD b1.at_ (i' Z' (i' b1.ca (i' (rD ek) ⟨A,qS V _,i,k,c,_,_,Z',⟨b1,ek,ec⟩,(lim.cs c hc).2.1,(lim.cs c hc).2.2,.talks ms,chg i k c _ _ ek ec Z' Z'⟩)))⟩
 | held i x=>obtain⟨k,c,ek,ec,hc⟩:=Z0 i ev;exact⟨pz Z',Z',Z',pD b1.at_ (i' Z' (i' b1.ca (i' (rD ek) ⟨A,qS V _,i,k,c,_,_,Z',⟨b1,ek,ec⟩,(lim.cs c hc).2.1,(lim.cs c hc).2.2,.held x,chg i k c _ _ ek ec Z' Z'⟩)))⟩
 | leaves i x=>obtain⟨k,c,ek,ec,hc⟩:=Z0 i ev;exact⟨pz Z',Z',Z',pD b1.at_ (i' Z' (i' b1.ca (i' (rD ek) ⟨A,qS V _,i,k,c,_,_,Z',⟨b1,ek,ec⟩,(lim.cs c hc).2.1,(lim.cs c hc).2.2,.leaves x,chg i k c _ _ ek ec Z' Z'⟩)))⟩
 | over i w0=>obtain⟨k,c,ek,ec,hc⟩:=Z0 i ev;exact⟨pz Z',Z',Z',pD b1.at_ (i' Z' (i' b1.ca (i' (rD ek) ⟨A,qS V _,i,k,c,_,_,Z',⟨b1,ek,ec⟩,(lim.cs c hc).2.1,(lim.cs c hc).2.2,.over w0,chg i k c _ _ ek ec Z' Z'⟩)))⟩
noncomputable def NZ:QQQ:=["barred","ring","engaged","left","refused","done","merged"]
def Rw(o:Bool)(c:pG):Prop:=(c.st="rings"/\c.ms=[]/\c.hd=Fa/\c.wd=Fa/\(o=Db->c.at_=[])/\(o=pc->c.at_≠[]))\/(o=pc/\((c.st="waits"/\c.ms=[]/\c.hd=Fa/\c.wd=Fa/\c.at_.length=1)\/(c.st="talks"/\(c.ms.length=2\/c.ms.length=3)/\c.hd=Fa/\c.wd=Fa/\c.at_=[])\/
 (∃x,c.st="held"/\c.ms.length=2/\c.hd=ga x/\x∈c.ms/\c.wd=Fa/\c.at_=[])\/(c.st="over"/\c.ms=[]/\c.hd=Fa/\c.at_=[]/\∃w∈NZ,c.wd=ga w)))
structure wq(l:pM)(o:Bool)(c:pG):Prop where
 sh:Rw o c
 cr:c.cr∈l.pn
 at_:∀x∈c.at_,x∈l.pn
 ms:∀x∈c.ms,x∈l.pn
 an:c.at_.Nodup
 mn:c.ms.Nodup
 ca:c.cr∉c.at_
 wy:c.way≠[]/\∀z∈c.way,z∈l.nm
def BC(c:pG)(x:Str):Prop:=c.m8 x=Db\/c.mT x=Db
structure zB(l:pM)(V:qu)(o:Option Nat):Prop where
 ok:∀(i:Nat) c,V.calls[i]?=ga c->wq l (o==ga i) c
 un:∀(i j:Nat) ci cj x,V.calls[i]?=ga ci->V.calls[j]?=ga cj->BC ci x->BC cj x->i=j
 ln:∀x∈l.pn,(vf V x:Int)<=xc l x
 wt:∀(i j:Nat) ci cj x,V.calls[i]?=ga ci->V.calls[j]?=ga cj->ci.mM x=Db->cj.mM x=Db->i=j
 nx:uo l V
abbrev WF(l:pM)(V:qu):Prop:=zB l V Fa
structure Sz(V:qu)(c n:Nat):Prop where
 lo:V.log.length<=n
 le:V.mQ.length<=n
 ca:V.calls.length<=c
 ps:V.ps.length<=n
 cs:∀k∈V.calls,k.way.length<=n/\k.at_.length<=100/\k.ms.length<=100
def Sz.mono{V:qu}{c n c' n':Nat}(h:Sz V c n)(hc:c<=c')(hn:n<=n'):Sz V c' n':=⟨d9 h.lo hn,d9 h.le hn,d9 h.ca hc,d9 h.ps hn,λk hk=>⟨d9 (h.cs k hk).1 hn,(h.cs k hk).2⟩⟩
noncomputable def Ev.nw:Ev->Nat
 | .new _ _=>1
 | _=>0
def LF(ps:T0 (Str×Int))(z:Str)(n:Int):(C1 ps z n).length<=ps.length+1:=by
 unfold C1;split
 .rw[cY];lia
 .rw[de];exact dv _
def JX(ss:QQQ)(x:Str):(rN ss x).length<=ss.length:=gy _ _
def EZ{α:Type}{f:α->α}{l:List α}{i:Nat}{x:α}(h:x∈l.modify i f):x∈l\/∃y∈l,x=f y:=by
 cases e:l[i]? with
 | none=>rw[kN (by simpa using e)]at h;exact .inl h
 | some c=>
  rw[tR e]at h;rcases List.mem_or_eq_of_mem_set h with g|g
  .exact .inl g
  .exact .inr ⟨c,fj e,g⟩
def Sz.step{V:qu}{c n:Nat}{e:Ev}(h:Sz V c n)(ok:e.ok V):Sz (qa V e) (c+e.nw) (n+1):=by
 have h1:Sz (qS V e) c (n+1):=⟨by show(V.log++[e]).length<=n+1;rw[de];exact gv h.lo,gB h.le,h.ca,gB h.ps,λk hk=>⟨gB (h.cs k hk).1,(h.cs k hk).2⟩⟩;have md:∀(i:Nat) (f:pG->pG),(∀k∈V.calls,(f k).way=k.way/\(f k).at_.length<=100/\(f k).ms.length<=100)->Sz (xP (qS V e) i f) c (n+1):=λi f hf=>⟨h1.lo,h1.le,by show(V.calls.modify i f).length<=c;rw[fZ];exact h.ca,h1.ps,λk hk=>by
  rcases EZ hk with g|⟨y,hy,rfl⟩
  .exact h1.cs k g
  .obtain⟨a1,a2,a3⟩:=hf y hy;exact⟨by rw[a1];exact(h1.cs y hy).1,a2,a3⟩⟩
 cases e with
 | new m x=>
  refine⟨h1.lo,h1.le,by show(V.calls++[xO x]).length<=c+1;rw[de];exact gv h.ca,h1.ps,λk hk=>?_⟩;rcases dX.mp hk with g|g
  .exact h1.cs k g
  .rw[dz.mp g];exact⟨e9 _,e9 _,e9 _⟩
 | leg v=>
  refine⟨h1.lo,by show(V.mQ++[v]).length<=n+1;rw[de];exact gv h.le,by show(V.calls.modify v.i _).length<=c;rw[fZ];exact h.ca,h1.ps,λk hk=>?_⟩;rcases EZ (l:=V.calls) hk with g|⟨y,hy,rfl⟩
  .exact h1.cs k g
  .exact⟨by show(y.way++[v.g]).length<=n+1;rw[de];exact gv (h.cs y hy).1,(h.cs y hy).2⟩
 | asks i z ns=>exact h1
 | next z m=>exact⟨h1.lo,h1.le,h1.ca,d9 (LF _ _ _) (gv h.ps),h1.cs⟩
 | merge i j ms=>
  have m1:=md i (·.over "merged") λk hk=>⟨Z',e9 _,e9 _⟩;refine⟨h1.lo,by show(V.mQ.map _).length<=n+1;rw[cY];exact h1.le,by show((V.calls.modify i _).modify j _).length<=c;rw[fZ,fZ];exact h.ca,h1.ps,λk hk=>?_⟩;rcases EZ (l:=V.calls.modify i (·.over "merged")) hk with g|⟨y,hy,rfl⟩
  .exact m1.cs k g
  .exact⟨(m1.cs y hy).1,(m1.cs y hy).2.1,ok.2.2.2⟩
 | turn=>
  refine⟨h1.lo,h1.le,by show(V.calls.map pG.tick).length<=c;rw[cY];exact h.ca,h1.ps,λk hk=>?_⟩;obtain⟨y,hy,rfl⟩:=dF.mp hk;have e:y.tick.way=y.way/\y.tick.at_=y.at_/\y.tick.ms=y.ms:=by unfold pG.tick;split<;>exact⟨Z',Z',Z'⟩
  rw[e.1,e.2.1,e.2.2];exact h1.cs y hy
 | sw b i=>exact⟨h1.lo,h1.le,h1.ca,h1.ps,h1.cs⟩
 | rings i ps=>exact md i _ λk hk=>⟨Z',ok.2,(h.cs k hk).2.2⟩
 | quiet i=>exact md i _ λk hk=>⟨Z',e9 _,(h.cs k hk).2.2⟩
 | waits i x=>exact md i _ λk hk=>⟨Z',by show 1<=100;decide,(h.cs k hk).2.2⟩
 | talks i ms=>exact md i _ λk hk=>⟨Z',e9 _,ok.2⟩
 | held i x=>exact md i _ λk hk=>⟨Z',(h.cs k hk).2.1,(h.cs k hk).2.2⟩
 | leaves i x=>exact md i _ λk hk=>⟨Z',d9 (JX _ _) (h.cs k hk).2.1,d9 (JX _ _) (h.cs k hk).2.2⟩
 | over i w=>exact md i _ λk hk=>⟨Z',e9 _,e9 _⟩
def Tw(V:qu)(e:Ev):(qa V e).p=V.p/\(qa V e).h=V.h/\(qa V e).on.length=V.on.length:=by cases e<;>first|exact⟨Z',Z',Z'⟩|exact⟨Z',Z',iy⟩
structure uO(a:Ad)(M0 M:Mp)(b:Uf)(A:uj)(V:qu)(l:pM)(c n:Nat):Prop where
 bd:pS a M A V
 pj:sY a M0 V.p l
 s0:qG M0 M
 fr:∀x∈A.foot,M0 x=Fa
 b:A.b=b
 sz:Sz V c n
 ok:rj l
 on:V.on.length=l.mH.length
variable {M0:Mp}{b:Uf}{A':uj}{V':qu}{l:pM}{n:Nat}
section
variable {c:Nat}
def uO.at_(h:uO a M0 M b A V l c n):M b=ga (.ins a.c (tU (.ref V.p) V.h V.t A.ca A.le A.nx A.on A.lo)):=h.b ▸ h.bd.at_
def uO.sub(h:uO a M0 M b A V l c n)(s:qG M M'):uO a M0 M' b A V l c n:=⟨h.bd.sub s,h.pj,h.s0.trans s,h.fr,h.b,h.sz,h.ok,h.on⟩
def uO.pl(h:uO a M0 M b A V l c n):sY a M V.p l:=h.pj.sub h.s0
def uO.mono(h:uO a M0 M b A V l c n){c' n':Nat}(hc:c<=c')(hn:n<=n'):uO a M0 M b A V l c' n':=⟨h.bd,h.pj,h.s0,h.fr,h.b,h.sz.mono hc hn,h.ok,h.on⟩
def uO.lim(h:uO a M0 M b A V l c n)(hc:c<=1000000)(hn:n<9000000):Xp V:=⟨iI h.sz.lo (by lia),iI h.sz.le (by lia),d9 h.sz.ca hc,iI h.sz.ps (by lia),λk hk=>⟨iI (h.sz.cs k hk).1 (by lia),(h.sz.cs k hk).2⟩⟩
def uO.rd(h:uO a M0 M b A V l c n)(hc:c<=1000000){o:Option Nat}(wf:zB l V o):Rd a M A V l:=⟨h.bd,d9 h.sz.ca hc,h.pl,h.ok,h.on,λk hk=>by
 obtain⟨i,hi,e⟩:=gZ hk;exact⟨(wf.ok i k (by rw[df hi,e])).ms,(h.sz.cs k hk).2.2⟩⟩
def uO.call(h:uO a M0 M b A V l c n){i:Nat}{v:pG}(e:V.calls[i]?=ga v):∃k,CI a M A V i k v:=by
 have hi:i<A.cs.length:=by rw[h.bd.len];exact(c9.mp e).1
 exact⟨A.cs[i],h.bd,df hi,e⟩
def uO.after(h:uO a M0 M b A V l c n){e:Ev}(ok:e.ok V)(eb:A'.b=A.b)(st:rc A M A' M')(bd:pS a M' A' (qa V e)):uO a M0 M' b A' (qa V e) l (c+e.nw) (n+1):=by
 obtain⟨p1,p2,p3⟩:=Tw V e;refine⟨bd,p1 ▸ h.pj,λx d hx=>st.1 x d (λz=>?_) (h.s0 x d hx),λx hx=>?_,eb.trans h.b,h.sz.step ok,h.ok,p3.trans h.on⟩
 .rw[h.fr x z]at hx;cases hx
 .rcases st.2.1 x hx with z|z
  .exact h.fr x z
  .exact h.s0.none z
end
def Hb(l:pM)(V:qu)(c:Str):vJ->Prop
 | .rings z ps=>z∈l.nm/\ps≠[]/\ps=yb l V c z
 | .breaks z=>∃x,x=c/\IE l V x c z=Db
 | .waits z=>z∈l.pn/\z≠c/\AJ V z=pc
 | .ring ns=>ns≠[]
 | _=>True
def G0{V:qu}{c z:Str}:(∀x∈yb l V c z,x∈ut l V c z/\x∈l.mF z)/\(yb l V c z).length<=(l.mF z).length:=by
 have hr:∀x∈ut l V c z,x∈l.mF z:=λx hx=>(fH.mp hx).1;unfold yb;split
 .refine⟨λx hx=>?_,?_⟩
  .have hx:=(fH.mp (kz hx)).2;have hx:=qY.mp hx;exact⟨hx,hr x hx⟩
  .cases e:(ve (l.mF z) (zy V z)).filter λx=>hasS (ut l V c z) x with
   | nil=>exact e9 _
   | cons y r=>
    have hy:y∈ve (l.mF z) (zy V z):=(fH.mp (by rw[e];exact dP)).1;have hy:y∈l.mF z:=by
     unfold ve at hy;rcases dX.mp hy with q|q
     .exact kA q
     .exact kz q
    rw[fu];have:=List.length_pos_of_mem hy;lia
 .exact⟨λx hx=>⟨hx,hr x hx⟩,gy _ _⟩
def QV{l:pM}{V:qu}{c z:Str}(hz:z∈l.nm):Hb l V c (HB l V c z):=by
 unfold HB;split
 .trivial
 .rename_i x r e;exact⟨hz,fQ _ _,e.symm⟩
structure xw(l:pM)(V:qu)(c:Str)(n:Nat)(st:sZ)(r:vJ×sZ):Prop where
 e:Hb l V c r.1
 len:r.2.length<=st.length+n
 nm:∀s∈r.2,s∈st\/s.1∈l.nm
 wy:∀ns,r.1=.ring ns->∀z∈ns,z∈l.nm
theorem x9{V:qu}{c:Str}(ok:rj l):∀(n:Nat) (z:Str) (way:QQQ) (st:sZ),z∈l.nm->(∀x∈way,x∈l.nm)->xw l V c n st (xq l V c n z way st)
 | 0,z,way,st,_,_=>⟨trivial,dv _,λs hs=>.inl hs,λns h=>by cases h⟩
 | n+1,z,way,st,hz,hw=>by
  unfold xq;by_cases h:hasS way z=Db
  .rw[dh h];refine⟨?_,by show st.length<=_;lia,λs hs=>.inl hs,λns e y hy=>?_⟩
   .have h1:way.findIdx (·==z)<way.length:=List.findIdx_lt_length_of_exists ⟨z,qY.mp h,eW z⟩;show way.drop _≠[];intro g;have:=eC List.length g;rw[fX]at this;simp only[dN]at this;lia
   .cases e;exact hw y (kA hy)
  rw[dg h];have sn:∀(fs:T0 Nat),∀s∈st++[(z,fs)],s∈st\/s.1∈l.nm:=λfs s hs=>by
   rcases dX.mp hs with g|g
   .exact .inl g
   .rw[dz.mp g];exact .inr hz
  have sl:∀fs:T0 Nat,(st++[(z,fs)]).length=st.length+1:=λfs=>by rw[de];rfl
  cases hf:Ef l V c z with
  | nil=>refine⟨QV hz,by show(st++[(z,[])]).length<=_;rw[sl];lia,sn [],λns e=>?_⟩;have e:HB l V c z=.ring ns:=e;unfold HB at e;split at e<;>cases e
  | cons i r=>
   obtain⟨w,ew,Yu⟩:=Fk (l:=l) (V:=V) (f:=AX l V c z) (i:=i) (by show i∈Ef l V c z;rw[hf];exact dP);dsimp only;rw[ew];dsimp only[Option.elim];have stop:∀e:vJ,Hb l V c e->(∀ns,e≠.ring ns)->xw l V c (n+1) st (e,st++[(z,i::r)]):=λe he Yk=>⟨he,by show(st++[(z,i::r)]).length<=_;rw[sl];lia,sn _,λns g=>absurd g (Yk ns)⟩
   have YZ:∀y,IZ z w.2=.inr y->xw l V c (n+1) st (xq l V c n y (way++[z]) (st++[(z,i::r)])):=λy hy=>by
    have hr:=x9 (V:=V) (c:=c) ok n y (way++[z]) (st++[(z,i::r)]) (Cd ok (rm ew) hy) λx hx=>by
     rcases dX.mp hx with g|g
     .exact hw x g
     .rw[dz.mp g];exact hz
    refine⟨hr.e,by have:=hr.len;rw[sl]at this;lia,λs hs=>?_,hr.wy⟩;rcases hr.nm s hs with g|g
    .exact sn _ s g
    .exact .inr g
   cases hv:w.2 with
   | bar x ns=>exact stop _ trivial λns g=>by cases g
   | shut x ns=>exact stop _ trivial λns g=>by cases g
   | wait x=>
    rw[hv]at Yu;have hf2:(if (!(z==x)||(c==x))=Db then pc else xT l V c z&&!(AJ V z))=Db:=Yu;have hx:yh l.pn x:=by have:=ok.wo w (rm ew);rw[hv]at this;exact this
    by_cases g:(!(z==x)||(c==x))=Db
    .rw[dh g]at hf2;cases hf2
    rw[dg g]at hf2;simp only[hW,gO,il,jw,d6]at g hf2;have ezx:=ZB g.1;subst ezx;exact stop _ ⟨qY.mp hx,λy=>g.2 (by rw[y];exact eW _),hf2.2⟩ λns g=>by cases g
   | breaks x=>
    rw[hv]at Yu;refine stop _ ⟨x,?_,?_⟩ λns g=>by cases g
    .have Yu:IE l V x c z=Db:=Yu;unfold IE at Yu;by_cases g:(!(c==x)||(z==x))=Db
     .rw[dh g]at Yu;cases Yu
     .simp only[hW,gO,il,jw]at g;exact(ZB g.1).symm
    .exact Yu
   | always x y=>exact YZ y (by rw[hv];rfl)
   | night x y f m=>exact YZ y (by rw[hv];rfl)
   | busy x y=>exact YZ y (by rw[hv];rfl)
   | silent x y m=>exact YZ y (by rw[hv];rfl)
def GD{V:qu}{x c z:Str}(h:IE l V x c z=Db):∃j k,vQ V z=ga j/\V.calls[j]?=ga k/\k.st="talks"/\z∈k.ms/\k.ms.length=2/\z≠c:=by
 unfold IE at h;by_cases g:(!(c==x)||(z==x))=Db
 .rw[dh g]at h;cases h
 rw[dg g]at h;simp only[hW,gO,il,jw]at g;by_cases g2:(!(hasS l.pn z)||!(xT l V c z))=Db
 .rw[dh g2]at h;cases h
 rw[dg g2]at h;cases e:vQ V z with
 | none=>rw[e]at h;cases h
 | some j=>obtain⟨hj,ht,_⟩:=gT.mp e;rw[e]at h;have h:((V.calls[j]?).elim pc λk=>(k.ms.length==2)&&HH l x k.ms)=Db:=h;rw[df hj]at h;have h:((V.calls[j].ms.length==2)&&HH l x V.calls[j].ms)=Db:=h;unfold pG.mS at ht;rw[d6]at h ht;refine⟨j,V.calls[j],Z',df hj,ZB ht.1,qY.mp ht.2,ZB h.1,λy=>?_⟩;rw[y]at g;have:=ZB g.1;rw[this,eW]at g;exact absurd Z' g.2
noncomputable def pG.bare(c:pG):pG:={c with way:=[]}
def tJ(V V':qu):Prop:=V'.calls.map pG.bare=V.calls.map pG.bare
def tJ.at_{V V':qu}(h:tJ V V'){i:Nat}{c:pG}(e:V.calls[i]?=ga c):∃c',V'.calls[i]?=ga c'/\c'.bare=c.bare:=by
 have:=eC (·[i]?) h;simp only[dE,e]at this;cases e':V'.calls[i]? with
 | none=>rw[e']at this;cases this
 | some c'=>rw[e']at this;exact⟨c',Z',dw this⟩
def zO(f:pG->Bool)(hf:∀c,f c.bare=f c)(cs:List pG):(cs.map pG.bare).findIdx? f=cs.findIdx? f:=by rw[ig];congr 1;funext c;exact hf c
def tJ.ni{V V':qu}(h:tJ V V')(z:Str):vQ V' z=vQ V z:=by unfold vQ;rw[<-zO _ (λ_=>rfl) V'.calls,h,zO _ (λ_=>rfl)]
def tJ.ends{V V':qu}(h:tJ V V')(i:Nat)(e:vJ):sO l V' i e=sO l V i e:=by
 cases e with
 | breaks z=>
  unfold sO;dsimp only;rw[h.ni];have key:∀j:Nat,(V'.calls[j]?).map pG.bare=(V.calls[j]?).map pG.bare:=λj=>by
   have:=eC (·[j]?) h
   simpa only [dE]using this
  have ki:=key i;cases vQ V z with
  | none=>rfl
  | some j=>
   have kj:=key j;cases e1:V.calls[i]? with
   | none=>rw[e1]at ki;rw[show V'.calls[i]?=Fa by cases q:V'.calls[i]? with|none=>rfl|some _=>rw[q]at ki;cases ki]
   | some c=>
    rw[e1]at ki;cases e2:V'.calls[i]? with
    | none=>rw[e2]at ki;cases ki
    | some c'=>
     rw[e2]at ki;have k1:c'.cr=c.cr:=by have kb:c'.bare=c.bare:=dw ki;exact show c'.bare.cr=c.bare.cr by rw[kb]
     have k2:(V'.calls[j]?).elim [] pG.ms=(V.calls[j]?).elim [] pG.ms:=by
      cases e3:V.calls[j]? with
      | none=>rw[e3]at kj;rw[show V'.calls[j]?=Fa by cases q:V'.calls[j]? with|none=>rfl|some _=>rw[q]at kj;cases kj]
      | some d=>
       rw[e3]at kj;cases e4:V'.calls[j]? with
       | none=>rw[e4]at kj;cases kj
       | some d'=>rw[e4]at kj;exact show d'.bare.ms=d.bare.ms by rw[show d'.bare=d.bare from dw kj]
     dsimp only;rw[k1,k2]
 | _=>rfl
def tJ.trans{V V1 V2:qu}(h:tJ V V1)(g:tJ V1 V2):tJ V V2:=Eq.trans g h
def ux(V:qu)(v:rM):tJ V (qa V (.leg v)):=by
 show(V.calls.modify v.i (·.go v.g)).map pG.bare=V.calls.map pG.bare;cases e:V.calls[v.i]? with
 | none=>rw[kN (by simpa using e)]
 | some c=>rw[tR e,mx,show(c.go v.g).bare=c.bare from rfl,GM (by rw[dE,e];rfl)]
def Ei(V:qu)(i:Nat)(z:Str)(ns:T0 Nat):tJ V (qa V (.asks i z ns)):=rfl
def tJ.len{V V':qu}(h:tJ V V'):V'.calls.length=V.calls.length:=by
 have:=eC List.length h
 rwa [cY,cY]at this
noncomputable def GZ:Option Str->sZ->Option Str
 | o,[]=>o
 | _,(z,_)::r=>GZ (ga z) r
noncomputable def Vv(i:Nat)(z:Str)(fs:T0 Nat):Option Str->T0 Ev
 | none=>[.asks i z fs]
 | some y=>[.leg ⟨i,y,z,y⟩,.asks i z fs]
theorem zj(i:Nat)(z:Str)(fs:T0 Nat):∀(st:sZ) (o:Option Str),rh i o (st++[(z,fs)])=rh i o st++Vv i z fs (GZ o st)
 | [],none=>rfl
 | [],ga _=>rfl
 | (y,gs)::r,none=>by show .asks i y gs::rh i (ga y) (r++[(z,fs)])=_;rw[zj i z fs r];rfl
 | (y,gs)::r,ga u=>by show .leg ⟨i,u,y,u⟩::.asks i y gs::rh i (ga y) (r++[(z,fs)])=_;rw[zj i z fs r];rfl
theorem Ca(z:Str)(fs:T0 Nat):∀(st:sZ) (o:Option Str),GZ o (st++[(z,fs)])=ga z
 | [],_=>rfl
 | _::r,_=>Ca z fs r _
theorem uJ(i:Nat):∀(st:sZ) (o:Option Str) (V:qu),tJ V (qN V (rh i o st))
 | [],_,V=>rfl
 | (y,gs)::r,Fa,V=>(Ei V i y gs).trans (uJ i r (ga y) _)
 | (y,gs)::r,ga u,V=>((ux V ⟨i,u,y,u⟩).trans (Ei _ i y gs)).trans (uJ i r (ga y) _)
def ON(a:Ad):rq:=λds M Q=>Md λM0 b A V l c n i st r=>ds=[.ref b,.int ((i:Nat):Int),.ref r]/\uO a M0 M b A V l c n/\c<=1000000/\n<=8000000/\st.length<=100/\i<V.calls.length/\og M r=ga (rE st)/\r∉A.foot/\∀M' A',uO a M0 M' b A' (qN V (rh i Fa st)) l c (n+2*st.length)->rc A M A' M'->Q .mK M'
def Nf(a:Ad):rq:=λds M Q=>Md λM0 b A V l c n i z ps=>ds=[.ref b,.int ((i:Nat):Int),.str z,names ps]/\uO a M0 M b A V l c n/\c<=1000000/\n<=8000000/\i<V.calls.length/\z∈l.nm/\ps≠[]/\(∀x∈ps,x∈l.mF z)/\ps.length<=100/\∀M' A',uO a M0 M' b A' (qN V (sO l V i (.rings z ps))) l c (n+2)->rc A M A' M'->Q .mK M'
def DP(l:pM)(V:qu)(i:Nat):vJ->Prop
 | .rings z ps=>z∈l.nm/\ps≠[]/\(∀x∈ps,x∈l.mF z)/\ps.length<=100
 | .breaks z=>∃j k,vQ V z=ga j/\V.calls[j]?=ga k/\i≠j/\k.ms.length=2
 | _=>True
def NI(a:Ad):rq:=λds M Q=>VO λM0 b A V l c n i z=>ds=[.ref b,.int ((i:Nat):Int),.str z]/\uO a M0 M b A V l c n/\c<=1000000/\n<=8000000/\i<V.calls.length/\DP l V i (.breaks z)/\∀M' A',uO a M0 M' b A' (qN V (sO l V i (.breaks z))) l c (n+2)->rc A M A' M'->Q .mK M'
def Jc(a:Ad):rq:=λds M Q=>VO λM0 b A V l c n i e=>ds=[.ref b,.int ((i:Nat):Int),vJ.d e]/\uO a M0 M b A V l c n/\c<=1000000/\n<=8000000/\i<V.calls.length/\DP l V i e/\∀M' A',uO a M0 M' b A' (qN V (sO l V i e)) l c (n+2)->rc A M A' M'->Q .mK M'
def Pa(a:Ad):rq:=λds M Q=>VO λM0 b A V l c n i k=>ds=[.ref b,.int ((i:Nat):Int)]/\uO a M0 M b A V l c n/\c<=1000000/\n<=7000000/\zB l V (ga i)/\V.calls[i]?=ga k/\∀M' A',uO a M0 M' b A' (qN V (vO l V i)) l c (n+30)->rc A M A' M'->Q .mK M'
def Mj(a:Ad):rq:=λds M Q=>VO λM0 b A V l c n y z=>ds=[.ref b,.str y,.str z]/\uO a M0 M b A V l c n/\c<1000000/\n<=6000000/\zB l (qN V [.new V.calls.length y,.leg ⟨V.calls.length,y,z,y⟩]) (ga V.calls.length)/\∀M' A',uO a M0 M' b A' (qN V (EY l V y z)) l (c+1) (n+32)->rc A M A' M'->Q .mK M'
def NW{st:sZ}{pre post:T0 D}{d:D}(e:pre++d::post=rE st):∃z fs,st[pre.length]?=ga (z,fs)/\d=.tup [.str z,wB fs]/\st.take (pre.length+1)=st.take pre.length++[(z,fs)]:=by
 have h:(rE st)[pre.length]?=ga d:=by rw[<-e];simp
 unfold rE at h;rw[dE]at h;cases q:st[pre.length]? with
 | none=>rw[q]at h;cases h
 | some s=>rw[q]at h;refine⟨s.1,s.2,Z',(dw h).symm,?_⟩;rw[fL,q];rfl
noncomputable def WV:Option Str->D
 | none=>.mK
 | some x=>.str x
def PC{ss:QQQ}{x:Str}(h:ss.getLast?=ga x):wu (ss.map D.str) (-1)=ga (.str x):=by
 have hp:0<ss.length:=by cases ss with|nil=>cases h|cons _ _=>exact my _
 unfold wu;have e:F8 (ss.map D.str).length (-1)=ga (ss.length - 1):=by
  rw[cY];unfold F8;have:¬((-1:Int)>=0):=by decide
  simp;lia
 rw[e];show(ss.map D.str)[ss.length - 1]?=_;rw[dE,<-jB,h];rfl
def L9(ds:T0 D):L3.uZ ds Fa (ga (-1:Int))=ds.dropLast:=by
 unfold L3.uZ;have e:HT.tE ds.length ds.length (ga (-1:Int))=ds.length - 1:=by show(if (-1:Int)<0 then((-1:Int)+(ds.length:Int)).toNat else min (-1:Int).toNat ds.length)=ds.length - 1;rw[dh (by decide)];lia
 rw[e,HT.Cj,kh,kY,List.dropLast_eq_take]
def Qg:Fq P w K mg base 4 a.a2 (ON a):=by
 refine fq G.a2.toDG tW (λr u=>⟨_,(pB (pQ 3 tW rW)
 (pC (tS eS Z' (qI U2) (vb (n:=2) Z' (qK (rY 4 tW) (qK (rY 5 tW) uc)))
 (pB (pU (pL u U3 rW)
 (pC (pR (qe v0 G.c.toCls G.k (rg G) r (qp (pT (qc pF (qc U1 (rB U3 v4 U3))))))))
 pP)
 (pB (pR (qe v0 G.c.toCls G.k (rg G) r (qp (pT (qc pF (rB U1 v4 v5))))))
 (pC (pQ 3 tW v4))))))),?_⟩)
 rintro ds M Q ⟨M0,b,A,V,l,c,n,i,st,r,rfl,cu,hc,hn,Yi,hi,lr,nf,q⟩
 refine i' lr (uL (rE st) (λpre U M'=>(∃A',uO a M0 M' b A' (qN V (rh i Fa (st.take pre.length))) l c (n+2*pre.length)/\rc A M A' M')/\∃y4 y5,U=[ga (.ref b),ga (.int ((i:Nat):Int)),ga (.ref r),ga (WV (GZ Fa (st.take pre.length))),y4,y5]) (λpre U M' j=>?_) _ [] _ _ Z' ⟨⟨A,cu,.refl⟩,Fa,Fa,Z'⟩ ?_ ?_)
 .obtain⟨⟨A',c1,Yy⟩,_⟩:=j;exact sX (Yy.1 r _ nf (pY lr))
 .rintro pre d post e U M' ⟨⟨A',c1,Yy⟩,y4,y5,rfl⟩ nx X2
  obtain⟨z,fs,es,rfl,et⟩:=NW e;have hp:pre.length<100:=dR (c9.mp es).1 Yi;rw[de,dI,et,zj,Ca]at X2;have len:∀es,tJ V (qN V es)->i<(qN V es).calls.length:=λes h=>by rw[h.len];exact hi
  have Y4:=len _ (uJ i (st.take pre.length) Fa V);generalize hV:qN V (rh i Fa (st.take pre.length))=V1 at c1 Y4;rw[rJ,hV]at X2;refine⟨Z',?_⟩;dsimp only[rR,Av,F'];have asks:∀(M2:Mp) (A2:uj) (V2:qu) (m:Nat) (y3:Option D),m<9000000->uO a M0 M2 b A2 V2 l c m->rc A M A2 M2->(∀M3 A3,uO a M0 M3 b A3 (qa V2 (.asks i z fs)) l c (m+1)->rc A M A3 M3->nx [ga (.ref b),ga (.int ((i:Nat):Int)),ga (.ref r),ga (.str z),ga (.str z),ga (wB fs)] M3)->Ak (M2 b) λC fs'=>fs'.lookup ("apply":Str)=Fa/\∃sp,(C=a.c/\sp=vZ a)/\4<=Ch/\sp [.ref b,.tup [.str "asks",.int ((i:Nat):Int),.str z,wB fs]] M2 λ_ M3=>nx [ga (.ref b),ga (.int ((i:Nat):Int)),ga (.ref r),ga (.str z),ga (.str z),ga (wB fs)] M3:=λM2 A2 V2 m y3 hm c2 s2 k=>pD c2.at_ ⟨Z',_,⟨Z',Z'⟩,by rw[dQ];decide,b,A2,V2,.asks i z fs,Z',c2.b,c2.bd,c2.lim hc hm,trivial,λM3 A3 eb s3 bd=>k M3 A3 (c2.after trivial eb s3 bd) (s2.trans s3)⟩;cases hl:GZ Fa (st.take pre.length)with
  | none=>rw[hl]at X2;refine asks M' A' V1 _ Fa (by lia) c1 Yy λM3 A3 c3 s3=>X2 _ _ ⟨⟨A3,c3.mono (dv _) (by lia),s3⟩,_,_,Z'⟩
  | some y=>rw[hl]at X2;refine pD c1.at_ ⟨Z',_,⟨Z',Z'⟩,pz Z',b,A',V1,.leg ⟨i,y,z,y⟩,Z',c1.b,c1.bd,c1.lim hc (by lia),Y4,λM2 A2 eb s2 bd=>?_⟩;have c2:=c1.after (e:=.leg ⟨i,y,z,y⟩) Y4 eb s2 bd;refine asks M2 A2 _ _ Fa (by lia) c2 (Yy.trans s2) λM3 A3 c3 s3=>X2 _ _ ⟨⟨A3,c3.mono (dv _) (by lia),s3⟩,_,_,Z'⟩
 .rintro U M' ⟨⟨A',c1,Yy⟩,_⟩
  have hl:(rE st).length=st.length:=by unfold rE;rw[cY]
  rw[hl,fK]at c1;exact⟨M',.refl,q M' A' c1 Yy⟩
def Nx:Fq P w K mg base 4 a.a3 (Nf a):=by
 refine fq G.a3.toDG uN (λr u=>⟨_,(pB (pU (pL u (qe (pJ v0) G.h.toCls G.aL (xV G) r (qp U2)) pF)
 (pB (pQ 4 uN (qe (pJ v0) G.h.toCls G.V (uA G) r (qp U2)))
 (pB (pQ 5 uN (qh (qh (yj v4 (qp (pN U3 pE))) pE) (pX qF Z' G.g qE (qp v4))))
 (pC (pR (qe v0 G.c.toCls G.k (rg G) r (qp (pT (rB pF U2 v5))))))))
 pP)
 (pC (pR (qe v0 G.c.toCls G.k (rg G) r (qp (pT (rB pF U1 U3))))))),?_⟩)
 rintro ds M Q ⟨M0,b,A,V,l,c,n,i,z,ps,rfl,cu,hc,hn,hi,hz,Yk,hm,hps,q⟩
 obtain⟨ph,gr,ws,Zr,pr,gd,rs,i1,_⟩:=cu.pl;have pl:=cu.pl;obtain⟨x,ps',rfl⟩:=gp Yk;obtain⟨⟨pne,_⟩,_⟩:=cu.ok.of hz;refine V8 (t:=SE _ _ _) (λU M'=>(∃A',uO a M0 M' b A' (qN V (if (l.mP z=="turns")=Db then[.next z (RD (l.mF z) x)]else[])) l c (n+1)/\rc A M A' M')/\∃y1 y2,U=[ga (.ref b),ga (.int ((i:Nat):Int)),ga (.str z),ga (names (x::ps')),y1,y2]) (λnx h=>?_) ?_
 .refine pD cu.at_ (i' Z' (pD i1 ⟨Z',_,⟨Z',Z'⟩,V.p,z,l,Z',pl,?_⟩));refine qQ (c:=l.mP z=="turns") (λg=>?_) (λg=>?_)
  .rw[dh g]at h;refine pD cu.at_ (i' Z' (pD i1 ⟨Z',_,⟨Z',Z'⟩,V.p,z,l,Z',pl,λp hp=>?_⟩));have t:=qG.new (c:=.lst ((l.mF z).map D.str)) hp;have lp:=@pK M p ((l.mF z).map D.str);have cu':=cu.sub t;have st0:rc A M A (pI M p (.lst ((l.mF z).map D.str))):=.sub t;generalize pI M p (.lst ((l.mF z).map D.str))=M1 at t lp cu' st0 ⊢;have ej:=F0 x (l.mF z) (hm x dP);have lpos:0<(l.mF z).length:=fE.mpr pne;have el:(((l.mF z).map D.str).length:Int)=(l.mF z).length:=by rw[cY]
   refine⟨by show(og M1 p).isSome=Db;rw[lp];rfl,i' (zv _ _) (i' lp ⟨Z',qB _,i' ej (i' lp ⟨by rw[el];lia,?_⟩)⟩)⟩;rw[el];refine pD cu'.at_ ⟨Z',_,⟨Z',Z'⟩,pz Z',b,A,V,.next z (RD (l.mF z) x),Z',cu'.b,cu'.bd,cu'.lim hc (by lia),trivial,λM2 A2 eb st Zs=>?_⟩;exact h _ _ ⟨⟨A2,cu'.after (e:=.next z (RD (l.mF z) x)) trivial eb st Zs,st0.trans st⟩,_,_,Z'⟩
  .rw[dg g]at h;exact h _ _ ⟨⟨A,cu.mono (dv _) (by lia),.refl⟩,_,_,Z'⟩
 rintro U M1 ⟨⟨A1,c1,Yy⟩,y1,y2,rfl⟩
 have q:∀M' A',uO a M0 M' b A' (qN V ((if (l.mP z=="turns")=Db then[.next z (RD (l.mF z) x)]else[])++[.rings i (x::ps')])) l c (n+2)->rc A M A' M'->Q .mK M':=q;rw[rJ]at q;have Y4:i<(qN V (if (l.mP z=="turns")=Db then[.next z (RD (l.mF z) x)]else[])).calls.length:=by
  split
  .exact hi
  .exact hi
 generalize qN V (if (l.mP z=="turns")=Db then[.next z (RD (l.mF z) x)]else[])=V1 at c1 q Y4;refine pD c1.at_ ⟨Z',_,⟨Z',Z'⟩,pz Z',b,A1,V1,.rings i (x::ps'),Z',c1.b,c1.bd,c1.lim hc (by lia),⟨Y4,hps⟩,λM2 A2 eb Yj Zs=>?_⟩;exact⟨M2,.refl,q M2 A2 (c1.after (e:=.rings i (x::ps')) ⟨Y4,hps⟩ eb Yj Zs) (Yy.trans Yj)⟩
def Nd:Fq P w K mg base 4 a.a4 (NI a):=by
 refine fq G.a4.toDG yo (λr u=>⟨_,(pB (pQ 3 yo (qe v0 G.c.toCls G.R (zd G) r (qp U2)))
 (pB (pQ 4 yo (qh (qw uV Z' G.F ur (qp (pJ (pN (pJ v0) U3)))) (pT (qp (pJ (pN (pJ v0) U1))))))
 (pC (pR (qe v0 G.c.toCls G.k (rg G) r (qp (pT (qc pF (rB U1 U3 v4))))))))),?_⟩)
 rintro ds M Q ⟨M0,b,A,V,l,c,n,i,z,rfl,cu,hc,hn,hi,⟨j,k,ej,ek,YS,Zq⟩,q⟩
 have hz:=dQ;have ei:V.calls[i]?=ga V.calls[i]:=df hi;generalize V.calls[i]=ci at ei;obtain⟨ka,qi⟩:=cu.call ei;obtain⟨kb,qj⟩:=cu.call ek;obtain⟨ad,md,h1,h2,h3,h4,_⟩:=qi.cell;obtain⟨ad',md',g1,g2,g3,g4,_⟩:=qj.cell;have hee:sO l V i (.breaks z)=[.merge i j (k.ms++[ci.cr])]:=by unfold sO;dsimp only;rw[ej,ei];dsimp only;rw[ek];rfl
 rw[hee]at q;have ok:(Ev.merge i j (k.ms++[ci.cr])).ok V:=⟨hi,(c9.mp ek).1,YS,by rw[de,Zq];show 3<=100;decide⟩;refine pD cu.at_ ⟨Z',_,⟨Z',Z'⟩,A,V,z,by rw[cu.b],cu.bd,d9 cu.sz.ca hc,?_⟩;rw[show AM V z=.int (j:Nat)from by unfold AM;rw[ej];rfl];refine pD cu.at_ (i' Z' (i' Z' (i' cu.bd.ca (i' (rD qj.e1) (pD g1 (i' Z' (i' g4 ?_)))))));refine pD cu.at_ (i' Z' (i' Z' (i' cu.bd.ca (i' (rD qi.e1) (pD h1 (i' Z' ⟨pz Z',?_⟩))))));refine⟨(by intro y;rw[List.map_eq_nil_iff]at y;rw[y]at Zq;cases Zq),(by rw[cY,Zq];show 2+1<=Ch;lia),?_⟩;rw[show k.ms.map D.str++[D.str ci.cr]=(k.ms++[ci.cr]).map D.str by rw[dJ];rfl];refine pD cu.at_ ⟨Z',_,⟨Z',Z'⟩,pz Z',b,A,V,.merge i j (k.ms++[ci.cr]),Z',cu.b,cu.bd,cu.lim hc (by lia),ok,λM2 A2 eb Yj Zs=>?_⟩;exact⟨M2,.refl,q M2 A2 ((cu.after ok eb Yj Zs).mono (dv _) (by lia)) Yj⟩
def OV:Fq P w K mg base 5 a.a5 (Jc a):=by
 refine fq G.a5.toDG yp (λr u=>⟨_,(pB (pQ 3 yp (pN U2 pE))
 (pC (pU (pL u U3 pF)
 (pC (pR (pO (Nx G) r G.a3 (qc v0 (rB U1 (pN U2 pE) (pN U2 pE))))))
 (pC (pU (pL u U3 pF)
 (pC (pR (qe v0 G.c.toCls G.k (rg G) r (qp (pT (rB pF U1 (pN U2 pE)))))))
 (pC (pU (pL u U3 pF)
 (pC (pR (pO (Nd G) r G.a4 (rB v0 U1 (pN U2 pE)))))
 (pC (pR (qe v0 G.c.toCls G.k (rg G) r (qp (pT (rB pF U1 U3))))))))))))),?_⟩)
 rintro ds M Q ⟨M0,b,A,V,l,c,n,i,e,rfl,cu,hc,hn,hi,he,q⟩
 have one:∀(ev:Ev) (ok:ev.ok V),ev.nw=0->sO l V i e=[ev]->∀M2 A2,A2.b=A.b->rc A M A2 M2->pS a M2 A2 (qa V ev)->∃XZ,qG XZ M2/\Q .mK XZ:=λev ok h0 h1 M2 A2 eb Yj Zs=>by rw[h1]at q;have c2:=cu.after ok eb Yj Zs;rw[h0]at c2;exact⟨M2,.refl,q M2 A2 (c2.mono (dv _) (by lia)) Yj⟩
 cases e with
 | rings z ps=>exact⟨M0,b,A,V,l,c,n,i,z,ps,Z',cu,hc,hn,hi,he.1,he.2.1,he.2.2.1,he.2.2.2,λM' A' c1 st=>⟨M',.refl,q M' A' c1 st⟩⟩
 | waits z=>exact pD cu.at_ ⟨Z',_,⟨Z',Z'⟩,pz Z',b,A,V,.waits i z,Z',cu.b,cu.bd,cu.lim hc (by lia),hi,one (.waits i z) hi Z' Z'⟩
 | breaks z=>exact⟨M0,b,A,V,l,c,n,i,z,Z',cu,hc,hn,hi,he,λM' A' c1 st=>⟨M',.refl,q M' A' c1 st⟩⟩
 | engaged z=>exact pD cu.at_ ⟨Z',_,⟨Z',Z'⟩,pz Z',b,A,V,.over i "engaged",Z',cu.b,cu.bd,cu.lim hc (by lia),hi,one (.over i "engaged") hi Z' Z'⟩
 | barred=>exact pD cu.at_ ⟨Z',_,⟨Z',Z'⟩,pz Z',b,A,V,.over i "barred",Z',cu.b,cu.bd,cu.lim hc (by lia),hi,one (.over i "barred") hi Z' Z'⟩
 | ring ns=>exact pD cu.at_ ⟨Z',_,⟨Z',Z'⟩,pz Z',b,A,V,.over i "ring",Z',cu.b,cu.bd,cu.lim hc (by lia),hi,one (.over i "ring") hi Z' Z'⟩
def HP{V:qu}{i:Nat}{k:pG}{e:vJ}(ok:rj l)(wf:zB l V (ga i))(hk:V.calls[i]?=ga k)(h:Hb l V k.cr e):DP l V i e:=by
 cases e with
 | rings z ps=>obtain⟨hz,Yk,rfl⟩:=h;have h1:=(G0 (l:=l) (V:=V) (c:=k.cr) (z:=z));have h2:=(ok.of hz).1.2.1;exact⟨hz,Yk,λx hx=>(h1.1 x hx).2,by have:=h1.2;lia⟩
 | breaks z=>
  obtain⟨x,rfl,hb⟩:=h;obtain⟨j,d,e1,e2,e3,e4,e5,_⟩:=GD hb;refine⟨j,d,e1,e2,λy=>?_,e5⟩;subst y;rw[hk]at e2;cases e2;have sh:=(wf.ok i k hk).sh;rw[show(ga i==ga i)=Db from eW _]at sh;rcases sh with g|g
  .rw[g.1]at e3;exact absurd e3 (by decide)
  .cases g.1
 | _=>trivial
def JY:Fq P w K mg base 9 a.ad (Pa a):=by
 refine fq G.ad.toDG wx (λr u=>⟨_,(pB (pQ 2 wx (pN (pJ v0) U1))
 (pB (pQ 3 wx (pO (ML G) r G.aW (qc v0 (rB (pJ U2) (pN (pJ U2) (FU pE)) (sE (pJ U2) tz (tj (FU pE)))))))
 (pB (pQ 4 wx (pN U3 pE))
 (pB (pQ 5 wx (pN U3 pE))
 (pB (pR (pO (Qg G) r G.a2 (rB v0 U1 v5)))
 (pB (pU (W3.b3 (yT (pL u (pN v4 pE) pF) (yA (pL u (pX qF Z' G.g qE (qp v5)) pE))))
 (pB (pQ 6 wx (pN (pN v5 (FU pE)) pE))
 (pC (pR (qe v0 G.c.toCls G.k (rg G) r (qp (pT (qc pF (qc U1 (rB v6 (pN (pN v4 pE) pE) v6)))))))))
 pP)
 (pC (pR (pO (OV G) r G.a5 (rB v0 U1 v4)))))))))),?_⟩)
 rintro ds M Q ⟨M0,b,A,V,l,c,n,i,k,rfl,cu,hc,hn,wf,hk,q⟩
 obtain⟨ka,ci⟩:=cu.call hk;obtain⟨ad,md,h1,h2,h3,h4,n1,n2⟩:=ci.cell;have YE:=wf.ok i k hk;have hi:=(c9.mp hk).1;obtain⟨z,hz⟩:∃z,k.way.getLast?=ga z:=by
  cases e:k.way.getLast? with
  | none=>exact absurd (gA.mp e) YE.wy.1
  | some z=>exact⟨z,Z'⟩
 have YY:z∈l.nm:=YE.wy.2 z (iq hz);have hdn:∀x∈k.way.dropLast,x∈l.nm:=λx hx=>YE.wy.2 x (ir _ hx);have hwl:=(cu.sz.cs k (rm hk)).1;have hev:vO l V i=rh i Fa (uG l V k.cr z k.way.dropLast).2++(sT i (uG l V k.cr z k.way.dropLast).2 (uG l V k.cr z k.way.dropLast).1++sO l V i (uG l V k.cr z k.way.dropLast).1):=by
  unfold vO;rw[hk];have:k.way.getLastD Str.empty=z:=by rw[gR,hz];rfl
  dsimp only[Option.elim];rw[this]
 rw[hev]at q;have ro:xw l V k.cr (l.nm.length+1) [] (uG l V k.cr z k.way.dropLast):=x9 cu.ok _ _ _ _ YY hdn;have rl:=ro.len;have eo:=HP cu.ok wf hk ro.e;have nl:l.nm.length<=11:=by have p8:=cu.ok.p8;have g3:=cu.ok.g3;unfold pM.nm pM.pn pM.gn;rw[de,cY,cY];lia
 have re:=ro.e;refine V8 (t:=Gd _ _) (λU M'=>M=M'/\U=[ga (.ref b),ga (.int ((i:Nat):Int)),ga (.ref ka.p),Fa,Fa,Fa,Fa]) (λnx0 h=>pD cu.at_ (i' Z' (i' Z' (i' ci.bd.ca (i' (rD ci.e1) (h _ _ ⟨Z',Z'⟩)))))) ?_
 rintro U _ ⟨rfl,rfl⟩
 refine V8 (t:=Gd _ _) (λU M'=>qG M M'/\∃r,M r=Fa/\og M' r=ga (rE (uG l V k.cr z k.way.dropLast).2)/\U=[ga (.ref b),ga (.int ((i:Nat):Int)),ga (.ref ka.p),ga (.tup [(uG l V k.cr z k.way.dropLast).1.d,.ref r]),Fa,Fa,Fa]) (λnx0 h=>?_) ?_
 .refine pD h1 (i' Z' (pD h1 (i' Z' (i' h2 (i' (PC hz) (pD h1 (i' Z' (i' h2 λp hp=>?_))))))));rw[show L3.uZ (k.way.map D.str) Fa (ga (-1:Int))=k.way.dropLast.map D.str from(L9 _).trans (List.map_dropLast).symm];have t:=qG.new (c:=.lst (k.way.dropLast.map D.str)) hp;have lp:=@pK M p (k.way.dropLast.map D.str);refine⟨A,V,l,k.cr,z,p,k.way.dropLast,by rw[cu.b],(cu.rd hc wf).sub t,YY,wf.nx,lp,by rw[List.length_dropLast];lia,λr M' s hr lr=>?_⟩;exact h _ _ ⟨t.trans s,r,t.none hr,lr,Z'⟩
 rintro U M1 ⟨s1,r,hr,lr,rfl⟩
 generalize uG l V k.cr z k.way.dropLast=R at lr ro rl eo re q;obtain⟨e,st⟩:=R;have cu1:=cu.sub s1;have rl:st.length<=0+(l.nm.length+1):=rl;refine⟨M0,b,A,V,l,c,n,i,st,r,Z',cu1,hc,by lia,by lia,hi,lr,cu.bd.n9 hr,λM2 A2 c2 Yj=>?_⟩;have same:=uJ i st Fa V;have Y7:i<(qN V (rh i Fa st)).calls.length:=by rw[same.len];exact hi
 have lr2:og M2 r=ga (rE st):=sX (Yj.1 r _ (cu.bd.n9 hr) (pY lr));rw[rJ,rJ]at q;have hee:=λV' (h:tJ V V')=>h.ends (l:=l) i e;have hat:∀V',tJ V V'->DP l V' i e:=λV' h=>by
  cases e with
  | breaks z'=>obtain⟨j,d,a1,a2,a3,a4⟩:=eo;obtain⟨d',b1,b2⟩:=h.at_ a2;exact⟨j,d',by rw[h.ni];exact a1,b1,a3,by rw[show d'.ms=d.ms from show d'.bare.ms=d.bare.ms by rw[b2]];exact a4⟩
  | rings _ _=>exact eo
  | _=>trivial
 generalize qN V (rh i Fa st)=V2 at c2 Y7 same q;have Y0:∀(M3:Mp) (A3:uj) (V3:qu),uO a M0 M3 b A3 V3 l c (n+2*st.length+1)->rc A M A3 M3->tJ V V3->i<V3.calls.length->V3=qN V2 (sT i st e)->Jc a [.ref b,.int ((i:Nat):Int),e.d] M3 λ_ M'=>∃XZ,qG XZ M'/\Q .mK XZ:=λM3 A3 V3 c3 s3 Y1 hi3 e3=>⟨M0,b,A3,V3,l,c,_,i,e,Z',c3,hc,by lia,hi3,hat V3 Y1,λM4 A4 c4 s4=>⟨M4,.refl,q M4 A4 (by
  rw[<-e3];rw[hee V3 Y1]at c4;exact c4.mono (dv _) (by lia)) (s3.trans s4)⟩⟩
 have c2':=c2.mono (dv c) (show n+2*st.length<=n+2*st.length+1 by lia);have Zf:=(rc.sub s1 (A:=A)).trans Yj;cases e with
 | ring ns=>
  obtain⟨x,ns',rfl⟩:=gp (show ns≠[]from re);refine i' lr2 ?_;cases hl:st.getLast? with
  | none=>have:st=[]:=gA.mp hl;subst this;exact Y0 M2 A2 V2 c2' Zf same Y7 Z'
  | some s0=>
   have ZJ:0<st.length:=by cases st with|nil=>cases hl|cons _ _=>exact my _
   have hd:decide ((0:Int)<((rE st).length:Int))=Db:=dU (by unfold rE;rw[cY];lia);refine yK (c:=decide ((0:Int)<((rE st).length:Int))) hd ?_;have hat1:wu (rE st) (-1)=ga (.tup [.str s0.1,wB s0.2]):=by
    unfold wu;have e1:F8 (rE st).length (-1)=ga (st.length - 1):=by unfold rE;rw[cY];unfold F8;simp;lia
    rw[e1];show(rE st)[st.length - 1]?=_;unfold rE;rw[dE,<-jB,hl];rfl
   have hrv:sT i st (.ring (x::ns'))=[.leg ⟨i,s0.1,x,s0.1⟩]:=by unfold sT;dsimp only;rw[hl];rfl
   rw[hrv]at Y0;refine i' lr2 (i' hat1 ?_);refine pD c2.at_ ⟨Z',_,⟨Z',Z'⟩,i' (zv _ _) ⟨pz Z',b,A2,V2,.leg ⟨i,s0.1,x,s0.1⟩,Z',c2.b,c2.bd,c2.lim hc (by lia),Y7,λM3 A3 eb YK bd3=>?_⟩⟩;have Y1:=same.trans (ux V2 ⟨i,s0.1,x,s0.1⟩);exact Y0 M3 A3 _ (c2.after (e:=.leg ⟨i,s0.1,x,s0.1⟩) Y7 eb YK bd3) (Zf.trans YK) Y1 (by rw[Y1.len];exact hi) Z'
 | rings z' ps=>exact Y0 M2 A2 V2 c2' Zf same Y7 Z'
 | waits z'=>exact Y0 M2 A2 V2 c2' Zf same Y7 Z'
 | breaks z'=>exact Y0 M2 A2 V2 c2' Zf same Y7 Z'
 | engaged z'=>exact Y0 M2 A2 V2 c2' Zf same Y7 Z'
 | barred=>exact Y0 M2 A2 V2 c2' Zf same Y7 Z'
def Oi:Fq P w K mg base 10 a.a6 (Mj a):=by
 refine fq G.a6.toDG Aa (λr u=>⟨_,(pB (pQ 3 Aa (pX qF Z' G.g qE (qp (pJ v0))))
 (pB (pR (qe v0 G.c.toCls G.k (rg G) r (qp (pT (rB pF U3 U1)))))
 (pB (pR (qe v0 G.c.toCls G.k (rg G) r (qp (pT (qc pF (qc U3 (rB U1 U2 U1)))))))
 (pC (pR (pO (JY G) r G.ad (rZ v0 U3))))))),?_⟩)
 rintro ds M Q ⟨M0,b,A,V,l,c,n,y,z,rfl,cu,hc,hn,wf,q⟩
 have lc:((A.cs.map λk=>D.ref k.p).length:Int)=(V.calls.length:Nat):=by rw[cY,cu.bd.len]
 refine pD cu.at_ (i' Z' (i' cu.bd.ca ?_));rw[lc];refine pD cu.at_ ⟨Z',_,⟨Z',Z'⟩,pz Z',b,A,V,.new V.calls.length y,Z',cu.b,cu.bd,cu.lim (by lia) (by lia),trivial,λM1 A1 eb1 Yy bd1=>?_⟩;have c1:=cu.after (e:=.new V.calls.length y) trivial eb1 Yy bd1;have ok2:(Ev.leg ⟨V.calls.length,y,z,y⟩).ok (qa V (.new V.calls.length y)):=by show V.calls.length<(V.calls++[xO y]).length;rw[de];exact fO _
 refine pD c1.at_ ⟨Z',_,⟨Z',Z'⟩,pz Z',b,A1,_,.leg ⟨V.calls.length,y,z,y⟩,Z',c1.b,c1.bd,c1.lim (by show c+1<=_;lia) (by lia),ok2,λM2 A2 eb2 Yj Zs=>?_⟩;have c2:=c1.after ok2 eb2 Yj Zs;obtain⟨k,hk⟩:∃k,(qN V [.new V.calls.length y,.leg ⟨V.calls.length,y,z,y⟩]).calls[V.calls.length]?=ga k:=by
  have:V.calls.length<(qN V [.new V.calls.length y,.leg ⟨V.calls.length,y,z,y⟩]).calls.length:=by show V.calls.length<((V.calls++[xO y]).modify _ _).length;rw[fZ];exact ok2
  exact⟨_,df this⟩
 refine⟨M0,b,A2,_,l,c+1,n+2,V.calls.length,k,Z',c2,by lia,by lia,wf,hk,λM3 A3 c3 YK=>⟨M3,.refl,q M3 A3 ?_ (Yy.trans (Yj.trans YK))⟩⟩;unfold EY;rw[rJ];exact c3.mono (dv _) (by lia)
def Fl(V:qu)(x:Str):D:=GC (uH V x)
abbrev Ep:=KF Fl
def On(a:Ad):rq:=λds M Q=>F9 λA V l x z=>ds=[.ref A.b,.str x,.str z]/\Rd a M A V l/\x∈l.pn/\Q (GC (Gs l V x z)) M
inductive vV(a:Ad)(M:Mp)(L:QXQ):List rP->List pG->Prop
 | nil:vV a M L [] []
 | cons (k:rP) (c:pG) (ks:List rP) (cs:List pG) (h:se a M L k c) (r:vV a M L ks cs):vV a M L (k::ks) (c::cs)
def tV.nf(w:Str)(m:Nat):Prop:=((w="answer"\/w="hang"\/w="hold"\/w="back")/\m=1)\/((w="hand"\/w="join")/\m=2)
def LB(a:Ad):rq:=λds M Q=>Ki λwd x r L ks cs=>ds=[.str wd,.str x,.ref r]/\og M r=ga (List.map (λk:rP=>D.ref k.p) ks)/\vV a M L ks cs/\tV.nf wd cs.length/\Q (.bl (Jr wd x cs)) M
def JZ(a:Ad):rq:=λds M Q=>Ki λA V l wd x ns=>ds=[.ref A.b,.str wd,.str x,.tup (List.map D.int ns)]/\Rd a M A V l/\x∈l.pn/\tV.nf wd ns.length/\Q (GC (NN l V wd x ns)) M
def RO(a:Ad):rq:=λds M Q=>Br λA V b i=>ds=[.ref A.b,.str (US b),.int i]/\pS a M A V/\Q (GC (OS V b i)) M
def Ib(a:Ad):rq:=λds M Q=>Br λA V l e=>ds=[.ref A.b,tV.d e]/\Rd a M A V l/\e.nq/\Q (GC (xJ l V e)) M
def Xl(m:Nat):D->D
 | .int i=>.bl (zZ m i)
 | _=>.bl pc
noncomputable def Xj(A:uj):D->D
 | .int i=>(A.cs[i.toNat]?).elim .mK λk=>.ref k.p
 | _=>.mK
theorem RE{V:qu}(bd:pS a M A V):∀{ns:T0 Int},ns.all (zZ V.calls.length)=Db->∃ks,vV a M (A.lists++V.fo) ks (tO V ns)/\(ns.map D.int).map (Xj A)=ks.map (λk:rP=>D.ref k.p)/\(tO V ns).length=ns.length/\∀i∈ns,∃k,0<=i/\A.cs[i.toNat]?=ga k
 | [],_=>⟨[],.nil,Z',Z',λi hi=>by cases hi⟩
 | i::r,h=>by
  rw[fD,d6]at h;obtain⟨ks,h1,h2,h3,h4⟩:=RE bd h.2;have hh:(decide (0<=i)&&decide (i<V.calls.length))=Db:=h.1;rw[d6,eK,eK]at hh;have hi:i.toNat<V.calls.length:=by lia
  have hk:i.toNat<A.cs.length:=by rw[bd.len];exact hi
  have e1:A.cs[i.toNat]?=ga A.cs[i.toNat]:=df hk;have e2:V.calls[i.toNat]?=ga V.calls[i.toNat]:=df hi;have ec:tO V (i::r)=V.calls[i.toNat]::tO V r:=by unfold tO;rw[List.filterMap_cons_some (f:=λi:Int=>V.calls[i.toNat]?) e2]
  rw[ec];refine⟨A.cs[i.toNat]::ks,.cons _ _ _ _ (bd.cs _ _ _ e1 e2) h1,?_,eC Nat.succ h3,λj hj=>?_⟩
  .rw[d4,d4,h2];show(A.cs[i.toNat]?).elim _ _::_=_;rw[e1];rfl
  .rcases dC.mp hj with rfl|hj
   .exact⟨_,hh.1,e1⟩
   .exact h4 j hj
def vV.sub(h:vV a M L ks cs)(s:qG M M'):vV a M' L ks cs:=by
 induction h with
 | nil=>exact .nil
 | cons k c ks cs h r ih=>exact .cons k c ks cs (h.sub s) ih
def So{bs:T0 Bool}{i:Int}(h:zZ bs.length i=Db):wu (bs.map D.bl) i=ga (.bl (bs.getD i.toNat pc)):=by
 have hh:(decide (0<=i)&&decide (i<bs.length))=Db:=h;rw[d6,eK,eK]at hh;obtain⟨n,rfl⟩:=eD hh.1;have hn:n<bs.length:=by lia
 refine uT ?_;rw[dE,df hn];show ga (D.bl bs[n])=ga (.bl (bs.getD n pc));rw[gL,df hn];rfl
def Eh:Fq P w K mg base 4 a.ac (Ep a):=by
 refine fq G.ac.toDG zr (λr u=>⟨_,(pB (pU (pL u (qe v0 G.c.toCls G.bE (Mc G) r (qp U1)) rW)
 (pC (pH pF))
 pP)
 (pB (pU (pL u (qe v0 G.c.toCls G.bF (IK G) r (qp U1)) rW)
 (pC (pH pF))
 pP)
 (pC (pH rW)))),?_⟩)
 rintro ds M Q ⟨A,V,x,rfl,bd,hk,q⟩
 unfold Fl uH at q;refine pD bd.at_ ⟨Z',_,⟨Z',Z'⟩,A,V,x,Z',bd,hk,?_⟩;unfold MY;cases e:ES V x with
 | some j=>rw[e]at q;exact⟨M,.refl,q⟩
 | none=>
  rw[e]at q;refine pD bd.at_ ⟨Z',_,⟨Z',Z'⟩,A,V,x,Z',bd,hk,?_⟩;unfold Vh;cases e:Jk V x with
  | some j=>rw[e]at q;exact⟨M,.refl,q⟩
  | none=>rw[e]at q;exact⟨M,.refl,q⟩
def Mb:Fq P w K mg base 5 a.aX (On a):=by
 refine fq G.aX.toDG wM (λr u=>⟨_,(pB (pU (pL u U2 (vN (pJ v0) G.h.toCls G.al (yQ G) r))
 (pC (pH pF))
 pP)
 (pB (pQ 3 wM (pO (Eh G) r G.ac (rZ v0 U1)))
 (pB (pU (W3.b3 (yT (pL u U3 rW) (yA (vF (uB (qe v0 G.c.toCls G.S (yZ G) r (qp U1)))))))
 (pC (pH pF))
 pP)
 (pC (pH U3))))),?_⟩)
 rintro ds M Q ⟨A,V,l,x,z,rfl,rd,hx,q⟩
 obtain⟨ph,gr,ws,Zr,pr,gd,rs,i1,_⟩:=rd.pl;have p8:=rd.ok.p8;have g3:=rd.ok.g3;unfold Gs at q;refine pD rd.bd.at_ (i' Z' (pD i1 ⟨Z',_,⟨Z',Z'⟩,V.p,l,Z',rd.pl,by lia,by lia,λp hp=>i' pK ⟨Z',qB _,?_⟩⟩));have t:=qG.new (c:=.lst (l.nm.map D.str)) hp;have Yr:=rd.sub t;generalize pI M p (.lst (l.nm.map D.str))=M1 at t Yr ⊢;show if (!(inD (.str z) (l.nm.map D.str)))=Db then _ else _
 rw[sI];refine qQ (c:=!(hasS l.nm z)) (λg=>?_) (λg=>?_)
 .rw[dh (by simpa using g)]at q;exact⟨M,t,q⟩
 rw[dg (by simpa using g)]at q;refine⟨A,V,x,Z',Yr.bd,Yr.k,?_⟩;unfold Fl;cases e:uH V x with
 | some w0=>rw[e]at q;exact⟨M,t,q⟩
 | none=>
  rw[e]at q;refine pD Yr.bd.at_ ⟨Z',_,⟨Z',Z'⟩,A,V,l,x,Z',Yr,hx,?_⟩;refine qQ (c:=!(tX l V x)) (λg=>?_) (λg=>?_)
  .rw[g]at q;exact⟨M,t,q⟩
  .rw[show(!(tX l V x))=pc from dM.mpr g]at q;exact⟨M,t,q⟩
def Me:Fq P w K mg base 3 a.aY (LB a):=by
 refine fq G.aY.toDG Oe (λr u=>⟨_,(pB (pU (pL u v0 pF)
 (pC (pH (qv u U1 (pJ (pN U2 pE)))))
 pP)
 (pB (pU (pL u v0 pF)
 (pC (pH (qe (pN U2 pE) G.e.toCls G.bI (Lu G) r (qp U1))))
 pP)
 (pB (pU (pL u v0 pF)
 (pC (pH (qe (pN U2 pE) G.e.toCls G.ax (Gm G) r (qp U1))))
 pP)
 (pB (pU (pL u v0 pF)
 (pC (pH (qv u (pJ (pN U2 pE)) U1)))
 pP)
 (pC (pH (sW (qv u (pJ (pN U2 pE)) U1) (sL (qe (pN U2 pE) G.e.toCls G.ax (Gm G) r (qp U1)))))))))),?_⟩)
 rintro ds M Q ⟨wd,x,r,L,ks,cs,rfl,lr,hcs,hw,q⟩
 cases hcs with
 | nil=>rcases hw with⟨_,h⟩|⟨_,h⟩<;>cases h
 | cons k c ks cs hc YD=>
 obtain⟨ad,md,h1,h2,h3,h4,_⟩:=id hc;have a0:=zv (.ref k.p) (ks.map λk:rP=>D.ref k.p);have hold:∀K:DK,K (.bl (c.hd==ga x)) M->Option.elim (zA M 9 (GC c.hd) (.str x)) False λb=>K (.bl b) M:=λK hK=>by
  cases e:c.hd with
  | none=>rw[e]at hK;exact hK
  | some y=>rw[e]at hK;exact hK
 rcases hw with⟨rfl|rfl|rfl|rfl,h⟩|⟨hw,h⟩
 .exact i' lr (i' a0 (pD h1 (i' Z' (DM h3 ⟨M,.refl,q⟩))))
 .exact i' lr (i' a0 (pD h1 ⟨Z',_,⟨Z',Z'⟩,L,k,c,x,Z',hc,M,.refl,q⟩))
 .exact i' lr (i' a0 (pD h1 ⟨Z',_,⟨Z',Z'⟩,L,k,c,x,Z',hc,M,.refl,q⟩))
 .exact i' lr (i' a0 (pD h1 (i' Z' (hold _ ⟨M,.refl,q⟩))))
 .cases YD with
  | nil=>cases h
  | cons k' d ks cs hd _=>
   obtain⟨ad',md',f1,_⟩:=id hd;have a1:wu (.ref k.p::.ref k'.p::ks.map λk:rP=>D.ref k.p) 1=ga (.ref k'.p):=uT (j:=1) Z';have qq:Q (.bl ((c.hd==ga x)&&d.mU x)) M:=by
    rcases hw with rfl|rfl
    .exact q
    .exact q
   rcases hw with rfl|rfl
   all_goals
    refine i' lr (i' a0 (pD h1 (i' Z' ?_)));cases e:c.hd with
    | none=>rw[e]at qq;exact⟨M,.refl,qq⟩
    | some y=>
     rw[e]at qq;have qq:Q (.bl ((y==x)&&d.mU x)) M:=qq;refine qQ (c:=y==x) (λg=>?_) (λg=>?_)
     .rw[g,eN]at qq;exact i' lr (i' a1 (pD f1 ⟨Z',_,⟨Z',Z'⟩,L,k',d,x,Z',hd,M,.refl,qq⟩))
     .rw[show(y==x)=pc from dM.mpr g,eY]at qq;exact⟨M,.refl,qq⟩
def Pl:Fq P w K mg base 5 a.aZ (JZ a):=by
 refine fq G.aZ.toDG tT (λr u=>⟨_,(pB (pU (vF (uB (pX (Fv Z') Z' G.bR E2 (qp (qO Z' (xQ (ix:=[Fa,ga 0]) (N':=["number","board"])) (qI U3) (qD 0) rS (uy u pE v0 (pX qF Z' G.g qE (qp (pJ U1)))))))))
 (pC (pH pF))
 pP)
 (pB (ug (i:=4) tT.nd Z' (Or.inl Z') Z' (xQ (ix:=[Fa,ga 0]) (N':=["number","board"])) (qI U3) (qD 0) rS (pN (pJ U1) v0))
 (pB (pU (vF (uB (pO (Me G) r G.aY (rB U1 U2 v4))))
 (pC (pH pF))
 pP)
 (pB (pU (pL u U1 (pT (rZ pF pF)))
 (pC (pH rW))
 pP)
 (pB (pQ 5 tT (pO (Eh G) r G.ac (rZ v0 U2)))
 (pB (pU (W3.b3 (yT (pL u v5 rW) (yT (uB (qe (pN v4 pE) G.e.toCls G.av (Gn G) r (qp U2))) (yA (vF (uB (qe v0 G.c.toCls G.S (yZ G) r (qp U2))))))))
 (pC (pH pF))
 pP)
 (pC (pH v5)))))))),?_⟩)
 rintro ds M Q ⟨A,V,l,wd,x,ns,rfl,rd,hx,hw,q⟩
 have hz:=dQ;have hn2:ns.length<=2:=by rcases hw with⟨_,h⟩|⟨_,h⟩<;>lia
 have lca:((A.cs.map λk=>D.ref k.p).length:Int)=V.calls.length:=by rw[cY,rd.bd.len]
 unfold NN at q;refine rA (f:=Xl V.calls.length) trivial _ [] _ (by rw[cY];simp only[dN];lia) (λd hd k hk=>?_) λp hp=>?_
 .obtain⟨i,_,rfl⟩:=dF.mp hd;have hk:k (.bl (decide (0<=i)&&decide (i<V.calls.length))) M:=hk;refine qQ (c:=decide (0<=i)) (λg=>?_) (λg=>?_)
  .rw[g,eN]at hk;refine pD rd.bd.at_ (i' Z' (i' rd.bd.ca ?_));rw[lca];exact hk
  .rw[show decide (0<=i)=pc from dM.mpr g,eY]at hk;exact hk
 have em:[]++(ns.map D.int).map (Xl V.calls.length)=ns.map λi=>D.bl (zZ V.calls.length i):=by rw[eA,eh];rfl
 rw[em];have t:=qG.new (c:=.lst (ns.map λi=>D.bl (zZ V.calls.length i))) hp;refine i' pK (i' (yu (zZ V.calls.length) ns) ?_);have Yr:=rd.sub t;generalize pI M p (.lst (ns.map λi=>D.bl (zZ V.calls.length i)))=M1 at t Yr ⊢;rw[zP];refine qQ (c:=!(ns.all (zZ V.calls.length))) (λg=>?_) (λYW=>?_)
 .rw[dh (by simpa using g)]at q;exact⟨M,t,q⟩
 have YW:ns.all (zZ V.calls.length)=Db:=by simpa using YW
 rw[dg (by rw[YW];exact Bool.noConfusion)]at q;obtain⟨ks,hks,eks,lcs,ZR⟩:=RE Yr.bd YW;refine rA (f:=Xj A) trivial _ [] _ (by rw[cY];simp only[dN];lia) (λd hd k0 hk=>?_) λp2 X4=>?_
 .obtain⟨i,hi,rfl⟩:=dF.mp hd;obtain⟨k,i0,e1⟩:=ZR i hi;obtain⟨n,rfl⟩:=eD i0;have e1:A.cs[n]?=ga k:=e1;have hk:k0 ((A.cs[n]?).elim .mK λk=>.ref k.p) M1:=hk;rw[e1]at hk;exact pD Yr.bd.at_ (i' Z' (i' Z' (i' Yr.bd.ca (i' (rD e1) hk))))
 rw[eA,eks];obtain⟨M2,e0,t2,l2⟩:=xI (ds:=ks.map λk:rP=>D.ref k.p) X4;rw[<-e0];have rd2:=Yr.sub t2;have s2:=t.trans t2;have hks:=hks.sub t2;generalize tO V ns=cs at hks lcs q;refine⟨wd,x,p2,_,ks,cs,Z',l2,hks,by rw[lcs];exact hw,?_⟩;refine qQ (c:=!Jr wd x cs) (λg=>?_) (λg=>?_)
 .rw[dh (by simpa using g)]at q;exact⟨M,s2,q⟩
 rw[dg (by simpa using g)]at q;have two:∀wd:Str,(wd=="answer"||wd=="back")=Db->Q (GC (if ((uH V x).isNone&&(cs.head?.elim pc (λc=>c.mM x)&&!(tX l V x)))=Db then ga "full" else uH V x)) M->cs.length=1->Ep a [.ref A.b,.str x] M2 λdue M3=>uE (SE (Pp (b3 (k3 .Is (v3 5) (c3 .mK))) (Pp (b3 (AQ "waits_with" (λD s=>D=a.e/\s=vR a) (i3 (v3 4) (c3 (.int 0))) (vw (v3 2) xA))) (Uy (b3 (AQ "is_free" (λD s=>D=a.c/\s=xH a) (v3 0) (vw (v3 2) xA)))))) (S4 (c3 (.str "full"))) Xr) (S4 (v3 5)) {nx:=λ_ M'=>∃XZ,qG XZ M'/\Q .mK XZ,rt:=λd M'=>∃XZ,qG XZ M'/\Q d XZ} [ga (.ref A.b),ga (.str wd),ga (.str x),ga (.tup (ns.map D.int)),ga (.ref p2),ga due] M3:=λwd _ q hl=>by
  cases hks with
  | nil=>cases hl
  | cons k c ks cs hc _=>
  have q:Q (GC (if ((uH V x).isNone&&(c.mM x&&!(tX l V x)))=Db then ga "full" else uH V x)) M:=q;obtain⟨ad,md,h1,_⟩:=id hc;refine⟨A,V,x,Z',rd2.bd,rd2.k,?_⟩;unfold Fl;cases e:uH V x with
  | some w0=>rw[e]at q;exact⟨M,s2,q⟩
  | none=>
   rw[e]at q;refine i' l2 (i' (zv _ _) (pD h1 ⟨Z',_,⟨Z',Z'⟩,_,k,c,x,Z',hc,?_⟩));refine qQ (c:=c.mM x) (λg1=>?_) (λg1=>?_)
   .rw[g1]at q;refine pD rd2.bd.at_ ⟨Z',_,⟨Z',Z'⟩,A,V,l,x,Z',rd2,hx,?_⟩;refine qQ (c:=!(tX l V x)) (λg=>?_) (λg=>?_)
    .rw[g]at q;exact⟨M,s2,q⟩
    .rw[show(!(tX l V x))=pc from dM.mpr g]at q;exact⟨M,s2,q⟩
   .rw[show c.mM x=pc from dM.mpr g1]at q;exact⟨M,s2,q⟩
 rcases hw with⟨rfl|rfl|rfl|rfl,h⟩|⟨rfl|rfl,h⟩
 .exact⟨pz Z',Z',Z',two "answer" Z' q (lcs.trans h)⟩
 .exact⟨pz Z',Z',Z',M,s2,q⟩
 .exact⟨pz Z',Z',Z',M,s2,q⟩
 .exact⟨pz Z',Z',Z',two "back" Z' q (lcs.trans h)⟩
 .exact⟨pz Z',Z',Z',M,s2,q⟩
 .exact⟨pz Z',Z',Z',M,s2,q⟩
def S5:Fq P w K mg base 1 a.a0 (RO a):=by
 refine fq G.a0.toDG zo (λr u=>⟨_,(pB (pU (vF (G1 u pE U2 (pX qF Z' G.g qE (qp (pJ v0)))))
 (pC (pH pF))
 pP)
 (pB (pU (pL u (pN (pJ v0) U2) (qv u U1 pF))
 (pC (pH pF))
 pP)
 (pC (pH rW)))),?_⟩)
 rintro ds M Q ⟨A,V,b,i,rfl,bd,q⟩
 unfold OS at q;have ZR:zZ V.on.length i=(decide (0<=i)&&decide (i<V.on.length)):=rfl;have lon:((V.on.map D.bl).length:Int)=V.on.length:=by rw[cY]
 have no:zZ V.on.length i=pc->Q (.str "wish") M:=λh=>by rw[dh h]at q;exact q
 have yes:zZ V.on.length i=Db->Q (GC (if (V.on.getD i.toNat pc==b)=Db then ga "wish" else Fa)) M:=λh=>by rw[h,dg Bool.noConfusion]at q;exact q
 refine qQ (c:=decide (0<=i)) (λg0=>?_) (λg0=>⟨M,.refl,no (by rw[ZR,show decide (0<=i)=pc from dM.mpr g0];rfl)⟩);refine pD bd.at_ (i' Z' (i' bd.on ?_));rw[lon];refine qQ (c:=!(decide (i<(V.on.length:Int)))) (λg1=>⟨M,.refl,no (by rw[ZR,g0,show decide (i<(V.on.length:Int))=pc by simpa using g1];rfl)⟩) (λg1=>?_);have h:zZ V.on.length i=Db:=by rw[ZR,g0,show decide (i<(V.on.length:Int))=Db by simpa using g1];rfl
 have q:=yes h;refine pD bd.at_ (i' Z' (i' Z' (i' bd.on (i' (So h) ?_))));have es:(US b=="on")=b:=by cases b<;>rfl
 show if (V.on.getD i.toNat pc==(US b=="on"))=Db then _ else _
 rw[es];refine qQ (λg=>?_) (λg=>?_)
 .rw[dh g]at q;exact⟨M,.refl,q⟩
 .rw[dg g]at q;exact⟨M,.refl,q⟩
def IH:Fq P w K mg base 6 a.a1 (Ib a):=by
 refine fq G.a1.toDG BR (λr u=>⟨_,(pB (pQ 2 BR (pN U1 pE))
 (pB (pU (pL u U2 pF)
 (pC (pH rW))
 pP)
 (pB (pU (pL u U2 (pT (rZ pF pF)))
 (pC (pH (pO (S5 G) r G.a0 (rB v0 U2 (pN U1 pE)))))
 pP)
 (pB (pU (pL u (pN U1 pE) (vN (pJ v0) G.h.toCls G.L (sG G) r))
 (pC (pH pF))
 pP)
 (pB (pU (pL u U2 pF)
 (pC (pH (pO (Mb G) r G.aX (rB v0 (pN U1 pE) (pN U1 pE)))))
 pP)
 (pC (pH (pO (Pl G) r G.aZ (qc v0 (rB U2 (pN U1 pE) (sE U1 (tj pE) tz))))))))))),?_⟩)
 rintro ds M Q ⟨A,V,l,e,rfl,rd,hf,q⟩
 obtain⟨ph,gr,ws,Zr,pr,gd,rs,i1,_⟩:=rd.pl;have p8:=rd.ok.p8;cases e with
 | turn=>exact⟨M,.refl,q⟩
 | sw b i=>
  cases b with
  | true=>exact⟨pz Z',Z',Z',A,V,Db,i,Z',rd.bd,M,.refl,q⟩
  | false=>exact⟨pz Z',Z',Z',A,V,pc,i,Z',rd.bd,M,.refl,q⟩
 | call x z=>
  have q:Q (GC (if hasS l.pn x=pc then ga "name" else Gs l V x z)) M:=q;refine⟨pz Z',Z',Z',?_⟩;refine pD rd.bd.at_ (i' Z' (pD i1 ⟨Z',_,⟨Z',Z'⟩,V.p,l,Z',rd.pl,by lia,λp X4=>i' pK ⟨Z',qB _,?_⟩⟩));have t:=qG.new (c:=.lst (l.pn.map D.str)) X4;have Yr:=rd.sub t;generalize pI M p (.lst (l.pn.map D.str))=M1 at t Yr ⊢;show if (!(inD (.str x) (l.pn.map D.str)))=Db then _ else _
  rw[sI];refine qQ (c:=!(hasS l.pn x)) (λg=>?_) (λg=>?_)
  .rw[dh (by simpa using g)]at q;exact⟨M,t,q⟩
  .have g:hasS l.pn x=Db:=by simpa using g
   rw[g,dg Bool.noConfusion]at q;exact⟨A,V,l,x,z,Z',Yr,qY.mp g,M,t,q⟩
 | num wd x ns=>
  have q:Q (GC (if hasS l.pn x=pc then ga "name" else NN l V wd x ns)) M:=q;have hf:tV.nf wd ns.length:=hf;have key:∀(M1:Mp),qG M M1->if (!(inD (.str x) (l.pn.map D.str)))=Db then(∃XZ,qG XZ M1/\Q (.str "name") XZ)else JZ a [.ref A.b,.str wd,.str x,.tup (ns.map D.int)] M1 λd M'=>∃XZ,qG XZ M'/\Q d XZ:=λM1 t=>by
   rw[sI];refine qQ (c:=!(hasS l.pn x)) (λg=>?_) (λg=>?_)
   .rw[dh (by simpa using g)]at q;exact⟨M,t,q⟩
   .have g:hasS l.pn x=Db:=by simpa using g
    rw[g,dg Bool.noConfusion]at q;exact⟨A,V,l,wd,x,ns,Z',rd.sub t,qY.mp g,hf,M,t,q⟩
  have one:ns.length=1->∃i,ns=[i]:=List.length_eq_one_iff.mp;have two:ns.length=2->∃i j,ns=[i,j]:=λh=>by
   match ns,h with
   | [i,j],_=>exact⟨i,j,Z'⟩
  rcases id hf with⟨rfl|rfl|rfl|rfl,h⟩|⟨rfl|rfl,h⟩
  .obtain⟨i,rfl⟩:=one h;exact⟨pz Z',Z',Z',pD rd.bd.at_ (i' Z' (pD i1 ⟨Z',_,⟨Z',Z'⟩,V.p,l,Z',rd.pl,by lia,λp X4=>i' pK ⟨Z',qB _,key _ (.new X4)⟩⟩))⟩
  .obtain⟨i,rfl⟩:=one h;exact⟨pz Z',Z',Z',pD rd.bd.at_ (i' Z' (pD i1 ⟨Z',_,⟨Z',Z'⟩,V.p,l,Z',rd.pl,by lia,λp X4=>i' pK ⟨Z',qB _,key _ (.new X4)⟩⟩))⟩
  .obtain⟨i,rfl⟩:=one h;exact⟨pz Z',Z',Z',pD rd.bd.at_ (i' Z' (pD i1 ⟨Z',_,⟨Z',Z'⟩,V.p,l,Z',rd.pl,by lia,λp X4=>i' pK ⟨Z',qB _,key _ (.new X4)⟩⟩))⟩
  .obtain⟨i,rfl⟩:=one h;exact⟨pz Z',Z',Z',pD rd.bd.at_ (i' Z' (pD i1 ⟨Z',_,⟨Z',Z'⟩,V.p,l,Z',rd.pl,by lia,λp X4=>i' pK ⟨Z',qB _,key _ (.new X4)⟩⟩))⟩
  .obtain⟨i,j,rfl⟩:=two h;exact⟨pz Z',Z',Z',pD rd.bd.at_ (i' Z' (pD i1 ⟨Z',_,⟨Z',Z'⟩,V.p,l,Z',rd.pl,by lia,λp X4=>i' pK ⟨Z',qB _,key _ (.new X4)⟩⟩))⟩
  .obtain⟨i,j,rfl⟩:=two h;exact⟨pz Z',Z',Z',pD rd.bd.at_ (i' Z' (pD i1 ⟨Z',_,⟨Z',Z'⟩,V.p,l,Z',rd.pl,by lia,λp X4=>i' pK ⟨Z',qB _,key _ (.new X4)⟩⟩))⟩
def C8(V:qu)(x:Str):Prop:=∀c∈V.calls,¬BC c x
def FP{V:qu}(h:uH V x=Fa):C8 V x:=by
 unfold uH at h;cases e1:ES V x with
 | some j=>rw[e1]at h;cases h
 | none=>
  cases e2:Jk V x with
  | some j=>rw[e1,e2]at h;cases h
  | none=>
   intro c hc g;have h1:=jC.mp e1 c hc;have h2:=jC.mp e2 c hc;rcases g with g|g
   .rw[h1]at g;cases g
   .rw[h2]at g;cases g
def sN{c:pG}(h:c.st="rings"){x:Str}:BC c x↔x=c.cr:=by unfold BC pG.m8 pG.mT pG.mS;rw[h];simp(decide:=true)
def DV{c:pG}(h:c.st="waits"){x:Str}:BC c x↔x=c.cr:=by unfold BC pG.m8 pG.mT pG.mS;rw[h];simp(decide:=true)
def tN{c:pG}(h:c.st="talks"){x:Str}:BC c x↔x∈c.ms:=by unfold BC pG.m8 pG.mT pG.mS;rw[h,<-qY];simp(decide:=true)
def BQ{c:pG}(h:c.st="held"){x:Str}:BC c x↔x∈c.ms/\c.hd≠ga x:=by unfold BC pG.m8 pG.mT;rw[h,<-qY];simp(decide:=true)
def Hd{c:pG}(h:c.st="over"){x:Str}:¬BC c x:=by unfold BC pG.m8 pG.mT pG.mS;rw[h];simp(decide:=true)
def sS{c:pG}(h:c.st="rings"){x:Str}:c.hasB x=Db↔x=c.cr\/x∈c.at_:=by unfold pG.hasB;rw[h,<-qY];simp(decide:=true)
def Ed{c:pG}(h:c.st="waits"){x:Str}:c.hasB x=Db↔x=c.cr:=by unfold pG.hasB;rw[h];simp(decide:=true)
def sV{c:pG}(h:c.st="talks"\/c.st="held"){x:Str}:c.hasB x=Db↔x∈c.ms:=by unfold pG.hasB;rw[<-qY];rcases h with h|h<;>(rw[h];simp(decide:=true))
def Ga{c:pG}(h:c.st="over"){x:Str}:c.hasB x=pc:=by unfold pG.hasB;rw[h];simp(decide:=true)
def so{c:pG}{x:Str}:c.mM x=Db↔c.st="waits"/\x∈c.at_:=by unfold pG.mM;rw[d6,fg,qY]
theorem EN{α:Type}(f:α->Bool):∀{l:List α} {i:Nat} {c:α} (c':α),l[i]?=ga c->((l.set i c').filter f).length+(if f c=Db then 1 else 0)=(l.filter f).length+(if f c'=Db then 1 else 0)
 | [],_,_,_,h=>by simp at h
 | x::r,0,c,c',h=>by cases h;rw[List.set_cons_zero,gX,gX];split<;>split<;>simp
 | x::r,i+1,c,c',h=>by
  have ih:=EN f (l:=r) (i:=i) (c:=c) c' (by simpa using h);rw[lh,gX,gX];split
  .rw[eB,eB];lia
  .exact ih
def zB.set{V V':qu}{o o':Option Nat}{i:Nat}{c c':pG}(h:zB l V o)(e:V'.calls=V.calls.set i c')(hc:V.calls[i]?=ga c)(ho:∀j,j≠i->(o==ga j)=(o'==ga j))(ok:wq l (o'==ga i) c')(he:∀x,BC c' x->BC c x\/C8 V x)(hu:∀x,c'.hasB x=Db->c.hasB x=Db\/(vf V x:Int)<xc l x)(hw:∀x,c'.mM x=Db->c.mM x=Db\/AJ V x=pc)(nx:uo l V'):zB l V' o':=by
 have si:∀{j:Nat} {d:pG},V'.calls[j]?=ga d->(j=i/\d=c')\/(j≠i/\V.calls[j]?=ga d):=λ{j d} g=>by rw[e]at g;exact(FC g).imp (λg=>⟨g.1,g.2.1⟩) id
 have key:∀(j:Nat) cj x,j≠i->V.calls[j]?=ga cj->BC c' x->BC cj x->False:=λj cj x hj e1 g1 g2=>by
  rcases he x g1 with z|z
  .exact hj (h.un j i cj c x e1 hc g2 z)
  .exact z cj (rm e1) g2
 have keyw:∀(j:Nat) cj x,j≠i->V.calls[j]?=ga cj->c'.mM x=Db->cj.mM x=Db->False:=λj cj x hj e1 g1 g2=>by
  rcases hw x g1 with z|z
  .exact hj (h.wt j i cj c x e1 hc g2 z)
  .unfold AJ at z;exact absurd g2 (by rw[ls.mp z cj (rm e1)|>dM.mpr];exact Bool.noConfusion)
 refine⟨λj d g=>?_,λm n cm cn x e1 e2 g1 g2=>?_,λx hx=>?_,λm n cm cn x e1 e2 g1 g2=>?_,nx⟩
 .rcases si g with⟨rfl,rfl⟩|⟨hj,g⟩
  .exact ok
  .rw[<-ho j hj];exact h.ok j d g
 .rcases si e1 with⟨rfl,rfl⟩|⟨hm,e1⟩<;>rcases si e2 with⟨rfl,rfl⟩|⟨hn,e2⟩
  .rfl
  .exact(key n cn x hn e2 g1 g2).elim
  .exact(key m cm x hm e1 g2 g1).elim
  .exact h.un m n cm cn x e1 e2 g1 g2
 .have cs:=EN (λk:pG=>k.hasB x) c' hc;have hl:=h.ln x hx;unfold vf at hl ⊢;rw[e];by_cases g:c'.hasB x=Db
  .rw[dh g]at cs;rcases hu x g with z|z
   .rw[dh z]at cs;lia
   .unfold vf at z;lia
  .rw[dg g]at cs;lia
 .rcases si e1 with⟨rfl,rfl⟩|⟨hm,e1⟩<;>rcases si e2 with⟨rfl,rfl⟩|⟨hn,e2⟩
  .rfl
  .exact(keyw n cn x hn e2 g1 g2).elim
  .exact(keyw m cm x hm e1 g2 g1).elim
  .exact h.wt m n cm cn x e1 e2 g1 g2
def zB.add{V V':qu}{c':pG}(h:WF l V)(e:V'.calls=V.calls++[c'])(ok:wq l Db c')(he:∀x,BC c' x->C8 V x)(hu:∀x,c'.hasB x=Db->(vf V x:Int)<xc l x)(hw:∀x,c'.mM x=pc)(nx:uo l V'):zB l V' (ga V.calls.length):=by
 have si:∀{j:Nat} {d:pG},V'.calls[j]?=ga d->(j=V.calls.length/\d=c')\/(j≠V.calls.length/\V.calls[j]?=ga d):=λ{j d} g=>by
  rw[e]at g;by_cases z:j<V.calls.length
  .rw[eV z]at g;exact .inr ⟨by lia,g⟩
  .have:=(c9.mp g).1;rw[de,dI]at this;have z:j=V.calls.length:=by lia
   subst z;rw[eP (dv _)]at g;simp only[fY,iJ,jv]at g;exact .inl ⟨Z',g.symm⟩
 refine⟨λj d g=>?_,λm n cm cn x e1 e2 g1 g2=>?_,λx hx=>?_,λm n cm cn x e1 e2 g1 g2=>?_,nx⟩
 .rcases si g with⟨rfl,rfl⟩|⟨hj,g⟩
  .rw[eW];exact ok
  .rw[show(ga V.calls.length==ga j)=pc by simpa using dZ hj];exact h.ok j d g
 .rcases si e1 with⟨rfl,rfl⟩|⟨hm,e1⟩<;>rcases si e2 with⟨rfl,rfl⟩|⟨hn,e2⟩
  .rfl
  .exact(he x g1 cn (rm e2) g2).elim
  .exact(he x g2 cm (rm e1) g1).elim
  .exact h.un m n cm cn x e1 e2 g1 g2
 .have hl:=h.ln x hx;unfold vf at hl ⊢;rw[e,iH,de,gX];split
  .rename_i g;have:=hu x g;unfold vf at this;simp only[h9,dI];lia
  .simp only[h9,dN];lia
 .rcases si e1 with⟨rfl,rfl⟩|⟨hm,e1⟩<;>rcases si e2 with⟨rfl,rfl⟩|⟨hn,e2⟩
  .rfl
  .rw[hw x]at g1;cases g1
  .rw[hw x]at g2;cases g2
  .exact h.wt m n cm cn x e1 e2 g1 g2
noncomputable def pG.core(c:pG):pG:={c with way:=[],si:=0}
def yg(V V':qu):Prop:=V'.calls.map pG.core=V.calls.map pG.core
def yg.at_{V V':qu}(h:yg V V'){i:Nat}{c':pG}(e:V'.calls[i]?=ga c'):∃c,V.calls[i]?=ga c/\c'.core=c.core:=by
 have:=eC (·[i]?) h;simp only[dE,e]at this;cases e':V.calls[i]? with
 | none=>rw[e']at this;cases this
 | some c=>rw[e']at this;exact⟨c,Z',dw this⟩
def yg.used{V V':qu}(h:yg V V')(x:Str):vf V' x=vf V x:=by
 have key:∀cs:List pG,(cs.filter (·.hasB x)).length=((cs.map pG.core).filter (·.hasB x)).length:=λcs=>by rw[hZ,cY];rfl
 unfold vf;rw[key,h,<-key]
def yg.wf{V V':qu}{o:Option Nat}(h:yg V V')(wf:zB l V o)(hw:∀(i:Nat) c',V'.calls[i]?=ga c'->c'.way≠[]/\∀z∈c'.way,z∈l.nm)(nx:uo l V'):zB l V' o:=by
 refine⟨λi c' e=>?_,λi j ci cj x e1 e2 g1 g2=>?_,λx hx=>by rw[h.used];exact wf.ln x hx,λi j ci cj x e1 e2 g1 g2=>?_,nx⟩
 .obtain⟨c,ec,ee⟩:=h.at_ e;have k:=wf.ok i c ec;have k1:c'.at_=c.at_:=show c'.core.at_=c.core.at_ by rw[ee]
  have k2:c'.ms=c.ms:=show c'.core.ms=c.core.ms by rw[ee]
  have k3:c'.cr=c.cr:=show c'.core.cr=c.core.cr by rw[ee]
  exact⟨by show Rw _ c'.core;rw[ee];exact k.sh,by rw[k3];exact k.cr,by rw[k1];exact k.at_,by rw[k2];exact k.ms,by rw[k1];exact k.an,by rw[k2];exact k.mn,by rw[k1,k3];exact k.ca,hw i c' e⟩
 .obtain⟨di,a1,a2⟩:=h.at_ e1;obtain⟨dj,b1,b2⟩:=h.at_ e2;exact wf.un i j di dj x a1 b1 (by show BC di.core x;rw[<-a2];exact g1) (by show BC dj.core x;rw[<-b2];exact g2)
 .obtain⟨di,a1,a2⟩:=h.at_ e1;obtain⟨dj,b1,b2⟩:=h.at_ e2;exact wf.wt i j di dj x a1 b1 (by show di.core.mM x=Db;rw[<-a2];exact g1) (by show dj.core.mM x=Db;rw[<-b2];exact g2)
def tJ.core{V V':qu}(h:tJ V V'):yg V V':=by have:=eC (List.map pG.core) h;rw[eh,eh]at this;exact this
def As(V:qu):yg V (qa V .turn):=by show(V.calls.map pG.tick).map pG.core=V.calls.map pG.core;rw[eh];refine fV λc _=>?_;show(pG.tick c).core=c.core;unfold pG.tick;split<;>rfl
def Bo{V:qu}(wf:WF l V):WF l (qa V .turn):=(As V).wf wf (λi c' e=>by
 have e:(V.calls.map pG.tick)[i]?=ga c':=e;rw[dE]at e;cases q:V.calls[i]? with
 | none=>rw[q]at e;cases e
 | some c=>
  rw[q]at e;have e:c.tick=c':=dw e;have hw:c.tick.way=c.way:=by unfold pG.tick;split<;>rfl
  rw[<-e,hw];exact(wf.ok i c q).wy) wf.nx
def UP{V:qu}{b:Bool}{i:Nat}(wf:WF l V):WF l (qa V (.sw b i)):=⟨wf.ok,wf.un,wf.ln,wf.wt,wf.nx⟩
def Ez{V:qu}{o:Option Nat}{i:Nat}{z:Str}{ns:T0 Nat}(wf:zB l V o):zB l (qa V (.asks i z ns)) o:=⟨wf.ok,wf.un,wf.ln,wf.wt,wf.nx⟩
def Iy{V:qu}{o:Option Nat}{v:rM}(wf:zB l V o)(hz:v.g∈l.nm):zB l (qa V (.leg v)) o:=(ux V v).core.wf wf (λi c' e=>by
 have e:(V.calls.modify v.i (·.go v.g))[i]?=ga c':=e;rw[gS]at e;cases q:V.calls[i]? with
 | none=>rw[q]at e;cases e
 | some c=>
  rw[q]at e;have k:=(wf.ok i c q).wy;have e:(if v.i=i then c.go v.g else c)=c':=dw e;by_cases g:v.i=i
  .rw[dh g]at e;rw[<-e];refine⟨by show c.way++[v.g]≠[];simp,λz hz'=>?_⟩;rcases dX.mp (show z∈c.way++[v.g]from hz')with y|y
   .exact k.2 z y
   .rw[dz.mp y];exact hz
  .rw[dg g]at e;rw[<-show c=c' from e];exact k) wf.nx
theorem BO{o:Option Nat}(i:Nat):∀(st:sZ) (q:Option Str) {V:qu},zB l V o->(∀s∈st,s.1∈l.nm)->zB l (qN V (rh i q st)) o
 | [],_,V,wf,_=>wf
 | (y,gs)::r,Fa,V,wf,h=>BO i r (ga y) (Ez wf) λs hs=>h s (dH _ hs)
 | (y,gs)::r,ga u,V,wf,h=>BO i r (ga y) (Ez (Iy wf (h _ dP))) λs hs=>h s (dH _ hs)
def rH{V:qu}{i:Nat}{c:pG}{f:pG->pG}(h:V.calls[i]?=ga c):(xP V i f).calls=V.calls.set i (f c):=by unfold xP;rw[tR h]
def BE{i:Nat}:∀j,j≠i->((ga i:Option Nat)==ga j)=((Fa:Option Nat)==ga j):=λj hj=>by rw[show((ga i:Option Nat)==ga j)=pc by simpa using dZ hj];rfl
def VM{V:qu}{i:Nat}{c:pG}(wf:zB l V (ga i))(hc:V.calls[i]?=ga c):c.st="rings"/\c.ms=[]/\c.hd=Fa/\c.wd=Fa/\c.at_=[]:=by
 have sh:=(wf.ok i c hc).sh;rw[eW]at sh;rcases sh with g|g
 .exact⟨g.1,g.2.1,g.2.2.1,g.2.2.2.1,g.2.2.2.2.1 Z'⟩
 .cases g.1
def QR{c:pG}{o:Bool}{w:Str}(k:wq l o c)(hw:w∈NZ):wq l pc (c.over w):=⟨.inr ⟨Z',.inr (.inr (.inr ⟨Z',Z',Z',Z',w,hw,Z'⟩))⟩,k.cr,(λx hx=>by cases hx),(λx hx=>by cases hx),eI,eI,(λhx=>by cases hx),k.wy⟩
def xu{V V':qu}{o:Option Nat}{i:Nat}{c:pG}{w:Str}(wf:zB l V o)(hc:V.calls[i]?=ga c)(ho:o=Fa\/o=ga i)(hw:w∈NZ)(e:V'.calls=V.calls.set i (c.over w))(nx:uo l V'):WF l V':=
 wf.set e hc (λj hj=>by rcases ho with rfl|rfl;rfl;exact BE j hj) (QR (wf.ok i c hc) hw) (λx g=>(Hd Z' g).elim) (λx g=>by rw[Ga (c:=c.over w) Z']at g;cases g) (λx g=>by have:=(so.mp g).1;exact absurd this (show("over":Str)≠"waits" by decide)) nx
def IB{l:pM}{V:qu}{c z:Str}(h:(l.mF z).Nodup):(yb l V c z).Nodup:=by
 unfold yb;split
 .cases(ve (l.mF z) (zy V z)).filter λx=>hasS (ut l V c z) x with
  | nil=>exact eI
  | cons y r=>exact dS.mpr ⟨dY,eI⟩
 .exact h.sublist gi
def LW(ps:T0 (Str×Int))(z:Str)(n:Int)(y:Str):(C1 ps z n).find? (λp=>decide (p.1=y))=if y=z then ga (z,n)else ps.find? λp=>decide (p.1=y):=by
 unfold C1;by_cases h:ps.any (λp=>decide (p.1=z))=Db
 .rw[dh h];induction ps with
  | nil=>cases h
  | cons p r ih=>
   rw[d4,fh,fh];by_cases hp:p.1=z
   .rw[dh hp];by_cases hy:y=z
    .rw[dh hy,hy];simp[hp]
    .rw[dg hy];have n1:decide (p.1=y)=pc:=eF (λq=>hy (q.symm.trans hp));simp only[n1];by_cases hr:r.any (λp=>decide (p.1=z))=Db
     .have:=ih hr;rw[dg hy]at this;exact this
     .have hr:∀q∈r,¬q.1=z:=λq hq g=>hr (fP.mpr ⟨q,hq,dU g⟩);rw[show r.map (λp=>if p.1=z then(p.1,n)else p)=r from(fV λq hq=>dg (hr q hq)).trans (jk _)]
   .rw[dg hp];have hr:r.any (λp=>decide (p.1=z))=Db:=by
     rw[gm,hW]at h;rcases h with g|g
     .exact absurd (fU g) hp
     .exact g
    have ih:=ih hr;by_cases hy:y=z
    .rw[dh hy]at ih ⊢;have n1:decide (p.1=y)=pc:=eF (λq=>hp (q.trans hy));simp only[n1];exact ih
    .rw[dg hy]at ih ⊢;cases decide (p.1=y)with
     | true=>rfl
     | false=>exact ih
 .rw[dg h,lC];have hr:∀q∈ps,¬q.1=z:=λq hq g=>h (fP.mpr ⟨q,hq,dU g⟩);by_cases hy:y=z
  .subst hy;rw[dh Z',gx.mpr λq hq=>by simpa using hr q hq,Option.none_or];simp
  .rw[dg hy,fh,eF (λq:z=y=>hy q.symm)];simp
def L4{V:qu}{z:Str}{n:Int}(h:uo l V)(h0:0<=n)(h1:n<=((l.mF z).length:Int)):uo l (qa V (.next z n)):=λy hy ht=>by
 show ∃v,(C1 V.ps z n).find? _=ga v/\_;rw[LW];by_cases e:y=z
 .subst e;rw[dh Z'];exact⟨_,Z',h0,h1⟩
 .rw[dg e];exact h y hy ht
def FO{V:qu}(h:tX l V x=Db):(vf V x:Int)<xc l x:=fU h
def KS{V V':qu}{o:Option Nat}{i:Nat}{c:pG}{w x:Str}(wf:zB l V o)(hc:V.calls[i]?=ga c)(e:V'.calls=V.calls.set i (c.over w))(hx:BC c x):C8 V' x:=λd hd g=>by
 rw[e]at hd;obtain⟨j,hj,ed⟩:=gZ hd;have ej:(V.calls.set i (c.over w))[j]?=ga d:=by rw[df hj,ed]
 rcases FC ej with⟨_,rfl,_⟩|⟨Yk,ej⟩
 .exact Hd Z' g
 .exact Yk (wf.un j i d c x ej hc g hx)
def K1{V V':qu}{i:Nat}{c:pG}{w x:Str}(hc:V.calls[i]?=ga c)(e:V'.calls=V.calls.set i (c.over w))(hx:c.hasB x=Db):vf V' x+1=vf V x:=by
 have:=EN (λk:pG=>k.hasB x) (c.over w) hc;unfold vf;rw[e];simp only[hx,jh,Ga (c:=c.over w) Z']at this
 simpa using this
def GT{V V':qu}{o:Option Nat}{i j:Nat}{c d:pG}{ms:QQQ}(wf:zB l V o)(ho:o=Fa\/o=ga i)(hc:V.calls[i]?=ga c)(hd:V.calls[j]?=ga d)(YS:i≠j)(e:V'.calls=(V.calls.set i (c.over "merged")).set j (d.mem ms))(nx:uo l V')(dt:d.st="talks")(m1:ms.Nodup)(m2:ms.length=2\/ms.length=3)(m3:∀x∈ms,x∈d.ms\/(BC c x/\c.hasB x=Db))(m4:∀x∈ms,x∈l.pn):WF l V':=by
 have e1:(xP V i (·.over "merged")).calls=V.calls.set i (c.over "merged"):=rH hc;have w1:WF l (xP V i (·.over "merged")):=xu wf hc ho (by decide) e1 wf.nx;have hd1:(xP V i (·.over "merged")).calls[j]?=ga d:=by rw[e1,fB YS];exact hd
 have kd:=w1.ok j d hd1;have kd':d.hd=Fa/\d.wd=Fa/\d.at_=[]:=by
  rcases kd.sh with g|⟨_,g|g|⟨_,g⟩|g⟩
  .rw[dt]at g;exact absurd g.1 (by decide)
  .rw[dt]at g;exact absurd g.1 (by decide)
  .exact⟨g.2.2.1,g.2.2.2.1,g.2.2.2.2⟩
  .rw[dt]at g;exact absurd g.1 (by decide)
  .rw[dt]at g;exact absurd g.1 (by decide)
 refine w1.set (c':=d.mem ms) (by rw[e,e1]) hd1 (λ_ _=>rfl) ⟨.inr ⟨Z',.inr (.inl ⟨dt,m2,kd'.1,kd'.2.1,kd'.2.2⟩)⟩,kd.cr,kd.at_,m4,kd.an,m1,kd.ca,kd.wy⟩ (λx g=>?_) (λx g=>?_) (λx g=>?_) nx
 .have g:=(tN (c:=d.mem ms) dt).mp g;rcases m3 x g with y|y
  .exact .inl ((tN dt).mpr y)
  .exact .inr (KS wf hc e1 y.1)
 .have g:=(sV (c:=d.mem ms) (.inl dt)).mp g;rcases m3 x g with y|y
  .exact .inl ((sV (.inl dt)).mpr y)
  .have:=K1 hc e1 y.2;have:=wf.ln x (m4 x g);exact .inr (by lia)
 .have:=(so.mp g).1;rw[show(d.mem ms).st="talks" from dt]at this;exact absurd this (by decide)
def TY{V V1:qu}{i:Nat}{c:pG}{e:vJ}(ok:rj l)(wf:zB l V1 (ga i))(same:yg V V1)(hc:V1.calls[i]?=ga c)(he:Hb l V c.cr e):WF l (qN V1 (sO l V1 i e)):=by
 obtain⟨p1,p2,p3,p4,p5⟩:=VM wf hc;have k:=wf.ok i c hc;have hi:=(c9.mp hc).1;cases e with
 | rings z ps=>
  obtain⟨hz,Yk,rfl⟩:=he;obtain⟨⟨q1,q2,q3,q4⟩,_⟩:=ok.of hz;obtain⟨r1,r2⟩:=G0 (l:=l) (V:=V) (c:=c.cr) (z:=z);generalize hps:yb l V c.cr z=ps at Yk r1 r2;have X0:∀V2:qu,V2.calls=V1.calls->uo l V2->WF l (qa V2 (.rings i ps)):=λV2 e2 nx=>by
   have e3:(qa V2 (.rings i ps)).calls=V1.calls.set i (c.ring ps):=by show(xP (qS V2 _) i _).calls=_;rw[rH (c:=c) (by show V2.calls[i]?=_;rw[e2];exact hc)];show V2.calls.set i _=_;rw[e2]
   have free:∀x∈ps,tX l V x=Db/\x≠c.cr:=λx hx=>by have h:=(fH.mp (r1 x hx).1).2;simp only[d6,gO]at h;exact⟨h.2,by simpa using h.1⟩
   refine wf.set e3 hc BE ⟨.inl ⟨Z',p2,p3,p4,(λh=>by cases h),λ_=>Yk⟩,k.cr,λx hx=>q4 x (r1 x hx).2,k.ms,by rw[<-hps];exact IB q3,k.mn,λhx=>(free _ hx).2 Z',k.wy⟩ (λx g=>?_) (λx g=>?_) (λx g=>?_) nx
   .exact .inl ((sN p1).mpr ((sN (c:=c.ring ps) Z').mp g))
   .rcases(sS (c:=c.ring ps) Z').mp g with y|y
    .exact .inl ((sS p1).mpr (.inl y))
    .refine .inr ?_;rw[same.used];exact FO (free x y).1
   .exact absurd (so.mp g).1 (show("rings":Str)≠"waits" by decide)
  show WF l (qN V1 ((if (l.mP z=="turns")=Db then _ else _)++[.rings i ps]));rw[rJ];by_cases ht:(l.mP z=="turns")=Db
  .rw[dh ht];have lp:0<(l.mF z).length:=fE.mpr q1;refine X0 _ Z' (L4 wf.nx (eX _ (by lia)) (Int.le_of_lt (eU _ (by lia))))
  .rw[dg ht];exact X0 V1 Z' wf.nx
 | waits z=>
  obtain⟨hz,Yk,hw⟩:=he;have e3:(qa V1 (.waits i z)).calls=V1.calls.set i (c.wait z):=rH (V:=qS V1 _) hc;have hw1:AJ V1 z=pc:=by
   unfold AJ at hw ⊢;have key:∀cs:List pG,cs.any (·.mM z)=(cs.map pG.core).any (·.mM z):=λcs=>by rw[ja];rfl
   rw[key,same,<-key];exact hw
  refine wf.set e3 hc BE ⟨.inr ⟨Z',.inl ⟨Z',p2,p3,p4,Z'⟩⟩,k.cr,λx hx=>by rw[dz.mp hx];exact hz,k.ms,dS.mpr ⟨dY,eI⟩,k.mn,λhx=>Yk (dz.mp hx).symm,k.wy⟩ (λx g=>?_) (λx g=>?_) (λx g=>?_) wf.nx
  .exact .inl ((sN p1).mpr ((DV (c:=c.wait z) Z').mp g))
  .exact .inl ((sS p1).mpr (.inl ((Ed (c:=c.wait z) Z').mp g)))
  .have:=(so.mp g).2;rw[dz.mp this];exact .inr hw1
 | breaks z=>
  obtain⟨x,rfl,hb⟩:=he;obtain⟨j,d0,t1,t2,t3,t4,t5,t6⟩:=GD hb;have ht:vQ V1 z=ga j:=by
   rw[<-t1];unfold vQ;have key:∀cs:List pG,cs.findIdx? (·.mS z)=(cs.map pG.core).findIdx? (·.mS z):=λcs=>by rw[ig];rfl
   rw[key,same,<-key]
  obtain⟨d,ed,ec⟩:∃d,V1.calls[j]?=ga d/\d.core=d0.core:=by
   have:=eC (·[j]?) same;simp only[dE,t2]at this;cases q:V1.calls[j]? with
   | none=>rw[q]at this;cases this
   | some d=>rw[q]at this;exact⟨d,Z',dw this⟩
  have ds:d.st="talks":=by rw[show d.st=d0.st from show d.core.st=d0.core.st by rw[ec]];exact t3
  have dm:d.ms=d0.ms:=show d.core.ms=d0.core.ms by rw[ec]
  have YS:i≠j:=λy=>by subst y;rw[hc]at ed;cases ed;rw[p1]at ds;exact absurd ds (by decide)
  have hee:sO l V1 i (.breaks z)=[.merge i j (d.ms++[c.cr])]:=by unfold sO;dsimp only;rw[ht,hc];dsimp only;rw[ed];rfl
  rw[hee];have ncr:c.cr∉d.ms:=λy=>YS (wf.un i j c d c.cr hc ed ((sN p1).mpr Z') ((tN ds).mpr y));have kd:=wf.ok j d ed;refine GT (V':=qa V1 (.merge i j (d.ms++[c.cr]))) (ms:=d.ms++[c.cr]) wf (.inr Z') hc ed YS ?_ wf.nx ds ?_ (.inr ?_) (λx hx=>?_) (λx hx=>?_)
  .show(V1.calls.modify i _).modify j _=_;rw[tR hc,tR (show(V1.calls.set i _)[j]?=ga d by rw[fB YS];exact ed)]
  .refine gc.mpr ⟨kd.mn,dS.mpr ⟨dY,eI⟩,λx hx y hy q=>ncr ?_⟩;rw[dz.mp hy]at q;rw[<-q];exact hx
  .rw[de,dm,t5];rfl
  .rcases dX.mp hx with y|y
   .exact .inl y
   .rw[dz.mp y];exact .inr ⟨(sN p1).mpr Z',(sS p1).mpr (.inl Z')⟩
  .rcases dX.mp hx with y|y
   .exact kd.ms x y
   .rw[dz.mp y];exact k.cr
 | engaged z=>exact xu (V':=qa V1 (.over i "engaged")) wf hc (.inr Z') (by decide) (rH (V:=qS V1 _) hc) wf.nx
 | barred=>exact xu (V':=qa V1 (.over i "barred")) wf hc (.inr Z') (by decide) (rH (V:=qS V1 _) hc) wf.nx
 | ring ns=>exact xu (V':=qa V1 (.over i "ring")) wf hc (.inr Z') (by decide) (rH (V:=qS V1 _) hc) wf.nx
def RB{V:qu}{i:Nat}{k:pG}(ok:rj l)(wf:zB l V (ga i))(hk:V.calls[i]?=ga k):WF l (qN V (vO l V i)):=by
 have YE:=wf.ok i k hk;unfold vO;rw[hk];dsimp only[Option.elim];obtain⟨z,hz⟩:∃z,k.way.getLast?=ga z:=by
  cases e:k.way.getLast? with
  | none=>exact absurd (gA.mp e) YE.wy.1
  | some z=>exact⟨z,Z'⟩
 rw[show k.way.getLastD Str.empty=z by rw[gR,hz];rfl];have ro:xw l V k.cr (l.nm.length+1) [] (uG l V k.cr z k.way.dropLast):=x9 ok _ _ _ _ (YE.wy.2 z (iq hz)) λx hx=>YE.wy.2 x (ir _ hx);generalize uG l V k.cr z k.way.dropLast=R at ro;obtain⟨e,st⟩:=R;have snm:∀s∈st,s.1∈l.nm:=λs hs=>(ro.nm s hs).elim (λh=>by cases h) id;have w1:=BO i st Fa wf snm;have Yw:=uJ i st Fa V;rw[rJ,rJ];dsimp only;have X0:∀V1:qu,zB l V1 (ga i)->tJ V V1->WF l (qN V1 (sO l V i e)):=λV1 w s=>by
  rw[<-s.ends];obtain⟨c',e1,e2⟩:=s.at_ hk;have hcr:c'.cr=k.cr:=show c'.bare.cr=k.bare.cr by rw[e2]
  exact TY ok w s.core e1 (by rw[hcr];exact ro.e)
 cases e with
 | ring ns=>
  obtain⟨x,ns',rfl⟩:=gp (show ns≠[]from ro.e);cases hl:st.getLast? with
  | none=>rw[show sT i st (.ring (x::ns'))=[]by unfold sT;dsimp only;rw[hl];rfl];exact X0 _ w1 Yw
  | some s0=>rw[show sT i st (.ring (x::ns'))=[.leg ⟨i,s0.1,x,s0.1⟩]by unfold sT;dsimp only;rw[hl];rfl];exact X0 _ (Iy (v:=⟨i,s0.1,x,s0.1⟩) w1 (ro.wy _ Z' x dP)) (Yw.trans (ux _ _))
 | rings _ _=>exact X0 _ w1 Yw
 | waits _=>exact X0 _ w1 Yw
 | breaks _=>exact X0 _ w1 Yw
 | engaged _=>exact X0 _ w1 Yw
 | barred=>exact X0 _ w1 Yw
def Fb{V:qu}{y z:Str}(wf:WF l V)(hy:y∈l.pn)(hz:z∈l.nm)(hi:C8 V y)(hf:tX l V y=Db):zB l (qN V [.new V.calls.length y,.leg ⟨V.calls.length,y,z,y⟩]) (ga V.calls.length):=by
 have e:(qN V [.new V.calls.length y,.leg ⟨V.calls.length,y,z,y⟩]).calls=V.calls++[(xO y).go z]:=by show(V.calls++[xO y]).modify V.calls.length _=_;rw[tR (c:=xO y) (by rw[eP (dv _),fY];rfl),iQ _ _ (dv _),fY];rfl
 refine wf.add e ⟨.inl ⟨Z',Z',Z',Z',λ_=>rfl,(λh=>by cases h)⟩,hy,(λx h=>by cases h),(λx h=>by cases h),eI,eI,(λh=>by cases h),fQ _ _,λx h=>by rw[dz.mp h];exact hz⟩ (λx h=>?_) (λx h=>?_) (λx=>?_) wf.nx
 .rw[(sN (c:=(xO y).go z) Z').mp h];exact hi
 .rcases(sS (c:=(xO y).go z) Z').mp h with g|g
  .rw[g];exact FO hf
  .cases g
 .cases q:((xO y).go z).mM x with
  | false=>rfl
  | true=>exact absurd (so.mp q).1 (show("rings":Str)≠"waits" by decide)
def HU{V:qu}{y z:Str}:∃k,(qN V [.new V.calls.length y,.leg ⟨V.calls.length,y,z,y⟩]).calls[V.calls.length]?=ga k:=by
 have:V.calls.length<(qN V [.new V.calls.length y,.leg ⟨V.calls.length,y,z,y⟩]).calls.length:=by show V.calls.length<((V.calls++[xO y]).modify _ _).length;rw[fZ,de];exact fO _
 exact⟨_,df this⟩
def Bs{V:qu}{i:Nat}{c:pG}{x y:Str}{fs:T0 Nat}(wf:WF l V)(hc:V.calls[i]?=ga c)(hs:c.st="rings")(hy:y∈l.nm):zB l (qN V [.asks i x fs,.quiet i,.leg ⟨i,x,y,x⟩]) (ga i):=by
 refine Iy (v:=⟨i,x,y,x⟩) ?_ hy;have k:=wf.ok i c hc;have w1:WF l (qa V (.asks i x fs)):=Ez wf;have sh:c.ms=[]/\c.hd=Fa/\c.wd=Fa:=by
  rcases k.sh with g|⟨_,g|g|⟨_,g⟩|g⟩
  .exact⟨g.2.1,g.2.2.1,g.2.2.2.1⟩
  all_goals(rw[hs]at g;exact absurd g.1 (by decide))
 refine w1.set (i:=i) (c:=c) (c':=c.nk) (rH (V:=qS (qa V (.asks i x fs)) _) hc) hc (λj hj=>(BE j hj).symm) ?_ (λx g=>.inl ?_) (λx g=>.inl ?_) (λx g=>?_) wf.nx
 .rw[eW];exact⟨.inl ⟨hs,sh.1,sh.2.1,sh.2.2,λ_=>rfl,(λh=>by cases h)⟩,k.cr,(λx h=>by cases h),k.ms,eI,k.mn,(λh=>by cases h),k.wy⟩
 .exact(sN hs).mpr ((sN (c:=c.nk) hs).mp g)
 .rcases(sS (c:=c.nk) hs).mp g with y|y
  .exact(sS hs).mpr (.inl y)
  .cases y
 .have:=(so.mp g).1;rw[show c.nk.st="rings" from hs]at this;exact absurd this (by decide)
inductive VY(l:pM)(V:qu)(i:Nat):List Nat->Prop
 | no:VY l V i []
 | on (c:pG) (k:Nat) (r:List Nat) (b:Bool) (x y:Str) (n:Int):V.calls[i]?=ga c->c.st="rings"->l.mH[k]?=ga (b,.silent x y n)->c.way.getLast?=ga x->y∈l.nm->VY l V i (k::r)
def E4{V:qu}(ok:rj l):VY l V i (yM l V i):=by
 unfold yM;cases e:V.calls[i]? with
 | none=>exact .no
 | some c=>
  dsimp only[Option.elim];by_cases hs:(c.st=="rings")=Db
  .rw[dh hs];cases q:IR l V (GR c)with
   | nil=>exact .no
   | cons k r=>
    obtain⟨⟨b,w⟩,e1,e2⟩:=Fk (i:=k) (by rw[q];exact dP);cases w with
    | silent x y n=>unfold GR at e2;rw[d6,fg]at e2;exact .on c k r b x y n e (ZB hs) e1 e2.1 (Cd ok (fj e1) (z:=Str.empty) Z')
    | _=>cases e2
  .rw[dg hs];exact .no
def yz{l:pM}{V:qu}{i k:Nat}{r:T0 Nat}{b:Bool}{x y:Str}{n:Int}(h:l.mH[k]?=ga (b,.silent x y n)):tM l V i (k::r)=[.asks i x (k::r),.quiet i,.leg ⟨i,x,y,x⟩]++vO l (qN V [.asks i x (k::r),.quiet i,.leg ⟨i,x,y,x⟩]) i:=by unfold tM;simp only[List.head?_cons,lT,h]
def Bq{V:qu}{i:Nat}{c:pG}{x y:Str}{fs:T0 Nat}(h:V.calls[i]?=ga c):(qN V [.asks i x fs,.quiet i,.leg ⟨i,x,y,x⟩]).calls[i]?=ga (c.nk.go y):=by show((V.calls.modify i pG.nk).modify i _)[i]?=_;rw[gS,gS,h];simp
def F5{V:qu}(ok:rj l)(wf:WF l V):WF l (qN V (tM l V i (yM l V i))):=by
 have d:=E4 (V:=V) (i:=i) ok;generalize yM l V i=fs at d;cases d with
 | no=>exact wf
 | on c k r b x y n hc hs hk hw hy=>rw[yz hk,rJ];exact RB ok (Bs wf hc hs hy) (Bq hc)
theorem Fw(ok:rj l):∀(is:T0 Nat) {V:qu},WF l V->WF l (qN V (rG l is V))
 | [],_,wf=>wf
 | i::r,V,wf=>by unfold rG;rw[rJ];exact Fw ok r (F5 ok wf)
theorem D0(l:pM)(i:Nat):∀(is:T0 Nat) (V:qu),rG l (is++[i]) V=rG l is V++tM l (qN V (rG l is V)) i (yM l (qN V (rG l is V)) i)
 | [],V=>by show tM l V i _++[]=[]++_;rw[eO];rfl
 | j::r,V=>by show tM l V j _++rG l (r++[i]) _=(tM l V j _++rG l r _)++_;rw[D0 l i r,fA,show rG l (j::r) V=tM l V j (yM l V j)++rG l r (qN V (tM l V j (yM l V j)))from Z',rJ]
def tZ{x y:Str}:y∈rN ss x↔y∈ss/\y≠x:=by unfold rN;rw[fH,gO,gg]
theorem yq{x:Str}:∀{ss:QQQ},ss.Nodup->x∈ss->(rN ss x).length+1=ss.length
 | [],_,h=>by cases h
 | y::r,nd,h=>by
  have nd:=dS.mp nd;unfold rN;rw[gX];by_cases e:y=x
  .subst e;rw[show(!(y==y))=pc by simp,dg (by decide),kM.mpr λz hz=>by
    have:z≠y:=λq=>nd.1 (q ▸ hz)
    simpa using this]
   rfl
  .have h:x∈r:=by
    rcases dC.mp h with q|q
    .exact absurd q.symm e
    .exact q
   rw[dh (by simpa using e)];have:=yq nd.2 h;unfold rN at this;rw[eB,eB,this]
def Q2{V:qu}{i:Nat}{c:pG}{x:Str}(wf:WF l V)(hc:V.calls[i]?=ga c)(hl:c.nv x=Db):WF l (qN V (vh V x i)):=by
 have k:=wf.ok i c hc;unfold vh;rw[hc];dsimp only[Option.elim];by_cases h1:c.mT x=Db
 .rw[dh h1];exact xu (V':=qa V (.over i "left")) wf hc (.inl Z') (by decide) (rH (V:=qS V _) hc) wf.nx
 .rw[dg h1];have e1:(qa V (.leaves i x)).calls=V.calls.set i (c.drop x):=rH (V:=qS V _) hc;by_cases h2:hasS c.at_ x=Db
  .rw[dh h2];by_cases h3:rN c.at_ x=[]
   .rw[dh h3];refine xu (V':=qa (qa V (.leaves i x)) (.over i "refused")) wf hc (.inl Z') (by decide) (w:="refused") ?_ wf.nx;have h4:(qa V (.leaves i x)).calls[i]?=ga (c.drop x):=by rw[e1,fC (c9.mp hc).1]
    show(xP (qS (qa V (.leaves i x)) _) i _).calls=_;rw[rH (V:=qS (qa V (.leaves i x)) _) h4];show(qa V (.leaves i x)).calls.set i _=_;rw[e1,jM];rfl
   .rw[dg h3];have hs:c.st="rings"/\c.ms=[]/\c.hd=Fa/\c.wd=Fa:=by
     rcases k.sh with g|⟨_,g|g|⟨_,g⟩|g⟩
     .exact⟨g.1,g.2.1,g.2.2.1,g.2.2.2.1⟩
     .exfalso;have:=yq k.an (qY.mp h2);rw[g.2.2.2.2]at this;exact h3 (gD.mp (by lia))
     .rw[g.2.2.2.2]at h2;cases h2
     .rw[g.2.2.2.2.2]at h2;cases h2
     .rw[g.2.2.2.1]at h2;cases h2
    refine wf.set (V':=qa V (.leaves i x)) (c':=c.drop x) e1 hc (λ_ _=>rfl) ⟨.inl ⟨hs.1,by show rN c.ms x=[];rw[hs.2.1];rfl,hs.2.2.1,hs.2.2.2,(λh=>by cases h),λ_=>h3⟩,k.cr,λy hy=>k.at_ y (tZ.mp hy).1,λy hy=>k.ms y (tZ.mp hy).1,k.an.sublist gi,k.mn.sublist gi,λhy=>k.ca (tZ.mp hy).1,k.wy⟩ (λy g=>?_) (λy g=>?_) (λy g=>?_) wf.nx
    .exact .inl ((sN hs.1).mpr ((sN (c:=c.drop x) hs.1).mp g))
    .refine .inl ((sS hs.1).mpr (((sS (c:=c.drop x) hs.1).mp g).imp id λh=>(tZ.mp h).1))
    .have:=(so.mp g).1;rw[show(c.drop x).st="rings" from hs.1]at this;exact absurd this (by decide)
  .rw[dg h2];by_cases h3:2<c.ms.length
   .rw[dh h3];have hx:x∈c.ms:=by unfold pG.nv at hl;rw[dM.mpr h1,dM.mpr h2,fR,fR]at hl;exact qY.mp hl
    have hs:c.st="talks"/\c.ms.length=3/\c.hd=Fa/\c.wd=Fa/\c.at_=[]:=by
     rcases k.sh with g|⟨_,g|g|⟨_,g⟩|g⟩
     .rw[g.2.1]at h3;cases h3
     .rw[g.2.1]at h3;cases h3
     .exact⟨g.1,g.2.1.elim (λq=>by lia) id,g.2.2⟩
     .omega
     .rw[g.2.1]at h3;cases h3
    have dl:=yq k.mn hx;refine wf.set (V':=qa V (.leaves i x)) (c':=c.drop x) e1 hc (λ_ _=>rfl) ⟨.inr ⟨Z',.inr (.inl ⟨hs.1,.inl (by show(rN c.ms x).length=2;lia),hs.2.2.1,hs.2.2.2.1,by show rN c.at_ x=[];rw[hs.2.2.2.2];rfl⟩)⟩,k.cr,λy hy=>k.at_ y (tZ.mp hy).1,λy hy=>k.ms y (tZ.mp hy).1,k.an.sublist gi,k.mn.sublist gi,λhy=>k.ca (tZ.mp hy).1,k.wy⟩ (λy g=>?_) (λy g=>?_) (λy g=>?_) wf.nx
    .exact .inl ((tN hs.1).mpr (tZ.mp ((tN (c:=c.drop x) hs.1).mp g)).1)
    .exact .inl ((sV (.inl hs.1)).mpr (tZ.mp ((sV (c:=c.drop x) (.inl hs.1)).mp g)).1)
    .have:=(so.mp g).1;rw[show(c.drop x).st="talks" from hs.1]at this;exact absurd this (by decide)
   .rw[dg h3];exact xu (V':=qa V (.over i "done")) wf hc (.inl Z') (by decide) (rH (V:=qS V _) hc) wf.nx
def KU{V:qu}{i:Nat}{c:pG}(wf:WF l V)(hc:V.calls[i]?=ga c)(hx:hasS c.at_ x=Db)(hi:C8 V x)(hf:c.mM x=Db->tX l V x=Db):WF l (qa V (.talks i [c.cr,x])):=by
 have k:=wf.ok i c hc;have hx:=qY.mp hx;have Yk:c.cr≠x:=λq=>k.ca (q ▸ hx);have hs:(c.st="rings"\/c.st="waits")/\c.wd=Fa:=by
  rcases k.sh with g|⟨_,g|g|⟨_,g⟩|g⟩
  .exact⟨.inl g.1,g.2.2.2.1⟩
  .exact⟨.inr g.1,g.2.2.2.1⟩
  .rw[g.2.2.2.2]at hx;cases hx
  .rw[g.2.2.2.2.2]at hx;cases hx
  .rw[g.2.2.2.1]at hx;cases hx
 have ec:BC c c.cr/\c.hasB c.cr=Db:=by
  rcases hs.1 with g|g
  .exact⟨(sN g).mpr Z',(sS g).mpr (.inl Z')⟩
  .exact⟨(DV g).mpr Z',(Ed g).mpr Z'⟩
 refine wf.set (V':=qa V (.talks i [c.cr,x])) (c':=c.ni [c.cr,x]) (rH (V:=qS V _) hc) hc (λ_ _=>rfl) ⟨.inr ⟨Z',.inr (.inl ⟨Z',.inl Z',Z',hs.2,Z'⟩)⟩,k.cr,(λy h=>by cases h),(λy h=>?_),eI,?_,(λh=>by cases h),k.wy⟩ (λy g=>?_) (λy g=>?_) (λy g=>?_) wf.nx
 .rcases dC.mp h with g|g
  .rw[g];exact k.cr
  .rw[dz.mp g];exact k.at_ x hx
 .exact dS.mpr ⟨λh=>Yk (dz.mp h),dS.mpr ⟨dY,eI⟩⟩
 .rcases dC.mp ((tN (c:=c.ni [c.cr,x]) Z').mp g)with h|h
  .rw[h];exact .inl ec.1
  .rw[dz.mp h];exact .inr hi
 .rcases dC.mp ((sV (c:=c.ni [c.cr,x]) (.inl Z')).mp g)with h|h
  .rw[h];exact .inl ec.2
  .rw[dz.mp h];rcases hs.1 with q|q
   .exact .inl ((sS q).mpr (.inr hx))
   .exact .inr (FO (hf (so.mpr ⟨q,hx⟩)))
 .exact absurd (so.mp g).1 (show("talks":Str)≠"waits" by decide)
def wU{c:pG}{x:Str}:c.mU x=Db↔c.st="talks"/\x∈c.ms/\c.ms.length=2:=by unfold pG.mU pG.mS;rw[d6,d6,fg,qY,fg,and_assoc]
def LJ{c:pG}(k:wq l pc c)(h:c.st="talks"):c.hd=Fa/\c.wd=Fa/\c.at_=[]:=by
 rcases k.sh with g|⟨_,g|g|⟨_,g⟩|g⟩
 .rw[h]at g;exact absurd g.1 (by decide)
 .rw[h]at g;exact absurd g.1 (by decide)
 .exact g.2.2
 .rw[h]at g;exact absurd g.1 (by decide)
 .rw[h]at g;exact absurd g.1 (by decide)
def E7{c:pG}{x:Str}(k:wq l pc c)(h:c.hd=ga x):c.st="held"/\c.ms.length=2/\x∈c.ms/\c.wd=Fa/\c.at_=[]:=by
 rcases k.sh with g|⟨_,g|g|⟨y,g⟩|g⟩
 .rw[h]at g;cases g.2.2.1
 .rw[h]at g;cases g.2.2.1
 .rw[h]at g;cases g.2.2.1
 .have e:=g.2.2.1;rw[h]at e;cases e;exact⟨g.1,g.2.1,g.2.2.2⟩
 .rw[h]at g;cases g.2.2.1
def Qd{V:qu}{i:Nat}{c:pG}{x:Str}(wf:WF l V)(hc:V.calls[i]?=ga c)(hx:c.mU x=Db):WF l (qa V (.held i x)):=by
 have k:=wf.ok i c hc;obtain⟨h1,h2,h3⟩:=wU.mp hx;obtain⟨s1,s2,s3⟩:=LJ k h1;refine wf.set (V':=qa V (.held i x)) (c':=c.hold x) (rH (V:=qS V _) hc) hc (λ_ _=>rfl) ⟨.inr ⟨Z',.inr (.inr (.inl ⟨x,Z',h3,Z',h2,s2,s3⟩))⟩,k.cr,k.at_,k.ms,k.an,k.mn,k.ca,k.wy⟩ (λy g=>.inl ?_) (λy g=>.inl ?_) (λy g=>?_) wf.nx
 .exact(tN h1).mpr ((BQ (c:=c.hold x) Z').mp g).1
 .exact(sV (.inl h1)).mpr ((sV (c:=c.hold x) (.inr Z')).mp g)
 .exact absurd (so.mp g).1 (show("held":Str)≠"waits" by decide)
def Qs{V:qu}{i:Nat}{c:pG}{x:Str}(wf:WF l V)(hc:V.calls[i]?=ga c)(hx:c.hd=ga x)(hi:C8 V x):WF l (qa V (.talks i c.ms)):=by
 have k:=wf.ok i c hc;obtain⟨h1,h2,h3,h4,h5⟩:=E7 k hx;refine wf.set (V':=qa V (.talks i c.ms)) (c':=c.ni c.ms) (rH (V:=qS V _) hc) hc (λ_ _=>rfl) ⟨.inr ⟨Z',.inr (.inl ⟨Z',.inl h2,Z',h4,Z'⟩)⟩,k.cr,(λy h=>by cases h),k.ms,eI,k.mn,(λh=>by cases h),k.wy⟩ (λy g=>?_) (λy g=>.inl ?_) (λy g=>?_) wf.nx
 .have g:=(tN (c:=c.ni c.ms) Z').mp g;by_cases e:y=x
  .rw[e];exact .inr hi
  .exact .inl ((BQ h1).mpr ⟨g,λq=>e (dw (q.symm.trans hx))⟩)
 .exact(sV (.inr h1)).mpr ((sV (c:=c.ni c.ms) (.inl Z')).mp g)
 .exact absurd (so.mp g).1 (show("talks":Str)≠"waits" by decide)
def D9{c:pG}{x:Str}(nd:c.ms.Nodup)(h2:c.ms.length=2)(hx:x∈c.ms):qC c x∈c.ms/\qC c x≠x:=by
 have dl:=yq nd hx;obtain⟨y,r,e⟩:=List.exists_cons_of_length_pos (show 0<(rN c.ms x).length by lia);have hm:y∈rN c.ms x:=by rw[e];exact dP
 unfold qC;rw[e];exact tZ.mp hm
def FR{V:qu}{i j:Nat}{c d:pG}{w x:Str}(wf:WF l V)(hc:V.calls[i]?=ga c)(hd:V.calls[j]?=ga d)(h1:c.hd=ga x)(h2:d.mU x=Db):i≠j/\WF l (qa V (.merge i j (if (w=="hand")=Db then[qC c x,qC d x]else[x,qC c x,qC d x]))):=by
 have k:=wf.ok i c hc;have kd:=wf.ok j d hd;obtain⟨c1,c2,c3,c4,c5⟩:=E7 k h1;obtain⟨d1,d2,d3⟩:=wU.mp h2;obtain⟨a1,a2⟩:=D9 k.mn c2 c3;obtain⟨b1,b2⟩:=D9 kd.mn d3 d2;have YS:i≠j:=λq=>by subst q;rw[hc]at hd;cases hd;rw[c1]at d1;exact absurd d1 (by decide)
 refine⟨YS,?_⟩;have ea:BC c (qC c x):=(BQ c1).mpr ⟨a1,λq=>a2 (dw (q.symm.trans h1))⟩;have ab:qC c x≠qC d x:=λq=>YS (wf.un i j c d _ hc hd ea (by rw[q];exact(tN d1).mpr b1));generalize hms:(if (w=="hand")=Db then[qC c x,qC d x]else[x,qC c x,qC d x])=ms;have mm:∀y∈ms,y=x\/y=qC c x\/y=qC d x:=λy hy=>by
  rw[<-hms]at hy;split at hy
  .rcases dC.mp hy with g|g
   .exact .inr (.inl g)
   .exact .inr (.inr (dz.mp g))
  .rcases dC.mp hy with g|g
   .exact .inl g
   .rcases dC.mp g with g|g
    .exact .inr (.inl g)
    .exact .inr (.inr (dz.mp g))
 have n2:[qC c x,qC d x].Nodup:=dS.mpr ⟨λh=>ab (dz.mp h),dS.mpr ⟨dY,eI⟩⟩;refine GT (V':=qa V (.merge i j ms)) (ms:=ms) wf (.inl Z') hc hd YS ?_ wf.nx d1 ?_ ?_ (λy hy=>?_) (λy hy=>?_)
 .show(V.calls.modify i _).modify j _=_;rw[tR hc,tR (show(V.calls.set i _)[j]?=ga d by rw[fB YS];exact hd)]
 .rw[<-hms];split
  .exact n2
  .refine dS.mpr ⟨λh=>?_,n2⟩;rcases dC.mp h with g|g
   .exact a2 g.symm
   .exact b2 (dz.mp g).symm
 .rw[<-hms];split
  .exact .inl Z'
  .exact .inr Z'
 .rcases mm y hy with g|g|g
  .rw[g];exact .inl d2
  .rw[g];exact .inr ⟨ea,(sV (.inr c1)).mpr a1⟩
  .rw[g];exact .inl b1
 .rcases mm y hy with g|g|g
  .rw[g];exact k.ms x c3
  .rw[g];exact k.ms _ a1
  .rw[g];exact kd.ms _ b1
def S0{V:qu}{i:Int}(h:zZ V.calls.length i=Db):∃c,V.calls[i.toNat]?=ga c:=by unfold zZ at h;rw[d6,eK,eK]at h;exact⟨_,df (by lia)⟩
def EJ{V:qu}{b:Bool}(h:(if ((uH V x).isNone&&b)=Db then ga ("full":Str)else uH V x)=Fa):uH V x=Fa/\b=pc:=by
 cases e:uH V x with
 | some w=>rw[e]at h;cases h
 | none=>
  rw[e]at h;cases b with
  | true=>cases h
  | false=>exact⟨Z',Z'⟩
inductive D6(l:pM)(V:qu)(x:Str):Str->List Int->Prop
 | answer (i:Int) (c:pG):0<=i->V.calls[i.toNat]?=ga c->hasS c.at_ x=Db->C8 V x->(c.mM x=Db->tX l V x=Db)->D6 l V x "answer" [i]
 | hang (i:Int) (c:pG):0<=i->V.calls[i.toNat]?=ga c->c.nv x=Db->D6 l V x "hang" [i]
 | hold (i:Int) (c:pG):0<=i->V.calls[i.toNat]?=ga c->c.mU x=Db->D6 l V x "hold" [i]
 | back (i:Int) (c:pG):0<=i->V.calls[i.toNat]?=ga c->c.hd=ga x->C8 V x->D6 l V x "back" [i]
 | two (w:Str) (i j:Int) (c d:pG):0<=i->0<=j->w="hand"\/w="join"->V.calls[i.toNat]?=ga c->V.calls[j.toNat]?=ga d->c.hd=ga x->d.mU x=Db->D6 l V x w [i,j]
def FL{V:qu}{w x:Str}(f:(tV.num w x ns).nq)(h:xJ l V (.num w x ns)=Fa):x∈l.pn/\D6 l V x w ns:=by
 have hp:hasS l.pn x=Db:=by
  cases q:hasS l.pn x with
  | true=>rfl
  | false=>unfold xJ at h;dsimp only at h;rw[dh q]at h;cases h
 refine⟨qY.mp hp,?_⟩;unfold xJ at h;dsimp only at h;rw[dg (by rw[hp];decide)]at h;unfold NN at h;cases q1:ns.all (zZ V.calls.length)with
 | false=>rw[dh q1]at h;cases h
 | true=>
 rw[dg (by rw[q1];decide)]at h;cases q2:Jr w x (tO V ns)with
 | false=>rw[dh q2]at h;cases h
 | true=>
 rw[dg (by rw[q2];decide)]at h;have z:∀i∈ns,0<=i/\∃c,V.calls[i.toNat]?=ga c:=λi hi=>by have g:=eR.mp q1 i hi;refine⟨?_,S0 g⟩;unfold zZ at g;rw[d6,eK]at g;exact g.1
 rcases f with⟨fw,fl⟩|⟨fw,fl⟩
 .match ns,fl with
  | [i],_=>
   obtain⟨hi,c,hc⟩:=z i dP;have ec:tO V [i]=[c]:=by unfold tO;rw[gh,hc];rfl
   rw[ec]at h q2;rcases fw with rfl|rfl|rfl|rfl
   .rw[dg (by decide)]at h;obtain⟨h1,h2⟩:=EJ h;refine .answer i c hi hc q2 (FP h1) λhw=>?_;have h2:(c.mM x&&!(tX l V x))=pc:=h2;rw[hw]at h2
    simpa using h2
   .exact .hang i c hi hc q2
   .exact .hold i c hi hc q2
   .rw[dg (by decide)]at h;exact .back i c hi hc (ZB q2) (FP (EJ h).1)
 .match ns,fl with
  | [i,j],_=>
   obtain⟨hi,c,hc⟩:=z i dP;obtain⟨hj,d,hd⟩:=z j (dH _ dP);have ec:tO V [i,j]=[c,d]:=by unfold tO;rw[gh,hc];dsimp only;rw[gh,hd];rfl
   rw[ec]at q2;have q3:((c.hd==ga x)&&d.mU x)=Db:=by rcases fw with rfl|rfl<;>exact q2
   rw[d6]at q3;exact .two w i j c d hi hj fw hc hd (ZB q3.1) q3.2
def BD{V:qu}{y z:Str}(h:xJ l V (.call y z)=Fa):y∈l.pn/\z∈l.nm/\C8 V y/\tX l V y=Db:=by
 unfold xJ at h;dsimp only at h;cases q:hasS l.pn y with
 | false=>rw[dh q]at h;cases h
 | true=>
 rw[dg (by rw[q];decide)]at h;unfold Gs at h;cases q1:hasS l.nm z with
 | false=>rw[dh q1]at h;cases h
 | true=>
 rw[dg (by rw[q1];decide)]at h;obtain⟨h1,h2⟩:=EJ h;exact⟨qY.mp q,qY.mp q1,FP h1,by simpa using h2⟩
def VI{V:qu}{b:Bool}{i:Int}(h:xJ l V (.sw b i)=Fa):0<=i/\i.toNat<V.on.length:=by
 unfold xJ OS at h;dsimp only at h;cases q:zZ V.on.length i with
 | false=>rw[dh q]at h;cases h
 | true=>unfold zZ at q;rw[d6,eK,eK]at q;lia
def xC{V:qu}{w x:Str}{i:Nat}{c:pG}(h:V.calls[i]?=ga c):Bb V w x i=if (w=="answer")=Db then .talks i [c.cr,x]else if (w=="hold")=Db then .held i x else .talks i c.ms:=by unfold Bb;rw[h];rfl
def EL{V:qu}{w x:Str}{i j:Nat}{c d:pG}(h:V.calls[i]?=ga c)(g:V.calls[j]?=ga d):Ej V w x i j=.merge i j (if (w=="hand")=Db then[qC c x,qC d x]else[x,qC c x,qC d x]):=by unfold Ej;rw[h,g];rfl
def Ul{V:qu}{e:tV}(ok:rj l)(wf:WF l V)(f:e.nq)(h:xJ l V e=Fa):WF l (qN V (wF l V e)):=by
 cases e with
 | call y z=>obtain⟨h1,h2,h3,h4⟩:=BD h;obtain⟨k,hk⟩:=HU (V:=V) (y:=y) (z:=z);show WF l (qN V (_++vO l _ _));rw[rJ];exact RB ok (Fb wf h1 h2 h3 h4) hk
 | turn=>exact Fw ok _ (Bo wf)
 | sw b i=>exact UP wf
 | num w x ns=>
  obtain⟨_,n⟩:=FL f h;cases n with
  | answer i c hi hc h1 h2 h3=>show WF l (qa V (Bb V "answer" x i.toNat));rw[xC hc];exact KU wf hc h1 h2 h3
  | hang i c hi hc h1=>exact Q2 wf hc h1
  | hold i c hi hc h1=>show WF l (qa V (Bb V "hold" x i.toNat));rw[xC hc];exact Qd wf hc h1
  | back i c hi hc h1 h2=>show WF l (qa V (Bb V "back" x i.toNat));rw[xC hc];exact Qs wf hc h1 h2
  | two _ i j c d hi hj hw hc hd h1 h2=>show WF l (qa V (Ej V w x i.toNat j.toNat));rw[EL hc hd];exact(FR wf hc hd h1 h2).2
def Pv(a:Ad):rq:=λds M Q=>Md λM0 b A V l c n x i k=>ds=[.ref b,.str x,.int ((i:Nat):Int)]/\uO a M0 M b A V l c n/\c<=1000000/\n<=7000000/\V.calls[i]?=ga k/\∀M' A',uO a M0 M' b A' (qN V (vh V x i)) l c (n+2)->rc A M A' M'->Q .mK M'
def OW(a:Ad):rq:=λds M Q=>Ki λA V l L k c=>ds=[.ref A.b,.ref (rP.p k)]/\Rd a M A V l/\se a M L k c/\Q (wB (IR l V (GR c))) M
def O9(a:Ad):rq:=λds M Q=>Md λM0 b A V l c n i k r=>ds=[.ref b,.int ((i:Nat):Int),wB (k::r)]/\uO a M0 M b A V l c n/\c<=1000000/\n<=6900000/\WF l V/\VY l V i (k::r)/\∀M' A',uO a M0 M' b A' (qN V (tM l V i (k::r))) l c (n+33)->rc A M A' M'->Q .mK M'
def PQ(a:Ad):rq:=λds M Q=>Ui λM0 b A V l c n=>ds=[.ref b]/\uO a M0 M b A V l c n/\c<=10000/\n<=6000000/\WF l V/\∀M' A',uO a M0 M' b A' (qN V (Fs l V)) l c (n+1+33*c)->rc A M A' M'->Q .mK M'
def SD{a:Ad}{M:Mp}{c:pG}{v:Wi}{r:Uf}{Q:DK}(h:M r=ga (.ins (v.cls a) v.nH))(hk:se a M L k c)(q:Q (.bl (GR c v)) M):NJ a v [.ref r,.ref k.p] M Q:=by
 cases v with
 | silent x y n=>exact⟨r,L,k,c,Z',h,hk,q⟩
 | _=>exact⟨_,_,Z',q⟩
def O0:Fq P w K mg base 4 a.a7 (Pv a):=by
 refine fq G.a7.toDG CF (λr u=>⟨_,(pB (pQ 3 CF (pN (pJ v0) U2))
 (pC (pU (uB (qe U3 G.e.toCls G.T (BL G) r (qp U1)))
 (pC (pR (qe v0 G.c.toCls G.k (rg G) r (qp (pT (rB pF U2 pF))))))
 (pC (pU (pL u U1 (pJ U3))
 (pB (pR (qe v0 G.c.toCls G.k (rg G) r (qp (pT (rB pF U2 U1)))))
 (pC (pU (pL u (pX qF Z' G.g qE (qp (pJ U3))) pE)
 (pC (pR (qe v0 G.c.toCls G.k (rg G) r (qp (pT (rB pF U2 pF))))))
 pP)))
 (pC (pU (pL u (pX qF Z' G.g qE (qp (pJ U3))) pE)
 (pC (pR (qe v0 G.c.toCls G.k (rg G) r (qp (pT (rB pF U2 U1))))))
 (pC (pR (qe v0 G.c.toCls G.k (rg G) r (qp (pT (rB pF U2 pF))))))))))))),?_⟩)
 rintro ds M Q ⟨M0,b,A,V,l,cc,n,x,i,c,rfl,cu,hcc,hn,hc,q⟩
 obtain⟨ka,ci⟩:=cu.call hc;obtain⟨ad,md,h1,h2,h3,h4,n1,n2⟩:=ci.cell;have hi:=(c9.mp hc).1;refine pD cu.at_ (i' Z' (i' Z' (i' ci.bd.ca (i' (rD ci.e1) ?_))));refine pD h1 ⟨Z',_,⟨Z',Z'⟩,_,ka,c,x,Z',ci.cell,?_⟩;unfold vh at q;rw[hc]at q;dsimp only[Option.elim]at q;have over:∀(w0:Str),(∀M' A',uO a M0 M' b A' (qN V [.over i w0]) l cc (n+2)->rc A M A' M'->Q .mK M')->∀(M1:Mp) (A1:uj),A1.b=A.b->rc A M A1 M1->pS a M1 A1 (qa V (.over i w0))->∃XZ,qG XZ M1/\Q .mK XZ:=λw0 q M1 A1 eb st bd=>⟨M1,.refl,q M1 A1 ((cu.after (e:=.over i w0) hi eb st bd).mono (dv _) (by lia)) st⟩;refine qQ (c:=c.mT x) (λg=>?_) (λg=>?_)
 .rw[dh g]at q;exact pD cu.at_ ⟨Z',_,⟨Z',Z'⟩,pz Z',b,A,V,.over i "left",Z',cu.b,cu.bd,cu.lim hcc (by lia),hi,over "left" q⟩
 rw[dg g]at q;refine pD h1 (i' Z' (i' h3 ⟨Z',qB _,?_⟩));show if inD (.str x) (c.at_.map D.str)=Db then _ else _
 rw[sI];refine qQ (c:=hasS c.at_ x) (λg2=>?_) (λg2=>?_)
 .rw[dh g2]at q;refine pD cu.at_ ⟨Z',_,⟨Z',Z'⟩,pz Z',b,A,V,.leaves i x,Z',cu.b,cu.bd,cu.lim hcc (by lia),hi,λM1 A1 eb st bd=>?_⟩;have c1:=cu.after (e:=.leaves i x) hi eb st bd;have hcs:(qa V (.leaves i x)).calls=V.calls.set i (c.drop x):=rH (V:=qS V _) hc;have hc1:(qa V (.leaves i x)).calls[i]?=ga (c.drop x):=by rw[hcs,fC hi]
  obtain⟨ad',md',g1,g2',g3,g4,_⟩:=c1.bd.cs i ka _ (st.2.2.1 i ka ci.e1) hc1;have le0:((((c.drop x).at_.map D.str).length:Int)==0)=decide (rN c.at_ x=[]):=by rw[cY,fW,fg,eK];show((rN c.at_ x).length:Int)=0↔_;rw[<-gD];lia
  refine pD g1 (i' Z' (i' g3 ?_));refine qQ (c:=(((c.drop x).at_.map D.str).length:Int)==0) (λg5=>?_) (λg5=>?_)
  .rw[le0,eK]at g5;rw[dh g5]at q;have Y4:i<(qa V (.leaves i x)).calls.length:=(c9.mp hc1).1;refine pD c1.at_ ⟨Z',_,⟨Z',Z'⟩,pz Z',b,A1,_,.over i "refused",Z',c1.b,c1.bd,c1.lim hcc (by lia),Y4,λM2 A2 eb2 Yj Zs=>?_⟩;exact⟨M2,.refl,q M2 A2 (c1.after (e:=.over i "refused") Y4 eb2 Yj Zs) (st.trans Yj)⟩
  .rw[le0,eK]at g5;rw[dg g5]at q;exact⟨M1,.refl,q M1 A1 (c1.mono (dv _) (by lia)) st⟩
 .rw[dg g2]at q;refine pD h1 (i' Z' (i' h4 ?_));have lm:decide ((2:Int)<((c.ms.map D.str).length:Int))=decide (2<c.ms.length):=by rw[cY,fW,eK,eK];lia
  refine qQ (c:=decide ((2:Int)<((c.ms.map D.str).length:Int))) (λg3=>?_) (λg3=>?_)
  .rw[lm,eK]at g3;rw[dh g3]at q;refine pD cu.at_ ⟨Z',_,⟨Z',Z'⟩,pz Z',b,A,V,.leaves i x,Z',cu.b,cu.bd,cu.lim hcc (by lia),hi,λM1 A1 eb st bd=>?_⟩;exact⟨M1,.refl,q M1 A1 ((cu.after (e:=.leaves i x) hi eb st bd).mono (dv _) (by lia)) st⟩
  .rw[lm,eK]at g3;rw[dg g3]at q;exact pD cu.at_ ⟨Z',_,⟨Z',Z'⟩,pz Z',b,A,V,.over i "done",Z',cu.b,cu.bd,cu.lim hcc (by lia),hi,over "done" q⟩
def O4:Fq P w K mg base 2 a.a8 (OW a):=by
 refine fq G.a8.toDG yP (λr u=>⟨_,(pB (pQ 2 yP (pJ (pJ v0)))
 (pC (pH (qw uV Z' G.F ur (qp (qO Z' (xQ (ix:=[Fa,Fa,ga 2,ga 1]) (N':=["i","on","wishes","call"])) (xx Z' G.bY (qp (pJ v0))) (vb (n:=2) Z' (qK (qD 0) (qK (qD 1) uc))) (vn (W3.b3 (yT (uB U1) (yA (uB (FE (R:=Gz a) (pN U2 v0) (VQ G) (r.mono (by first|decide|lia)) (qp U3))))))) v0)))))),?_⟩)
 rintro ds M Q ⟨A,V,l,L,k,c,rfl,rd,hk,q⟩
 obtain⟨ph,gr,ws,Zr,pr,gd,rs,i1,i2,i3,i4,i5,i6,i7,i8⟩:=rd.pl;refine pD rd.bd.at_ (i' Z' (pD i1 (i' Z' ?_)));refine pD rd.bd.at_ (i' Z' (i' rd.bd.on ?_));refine Jo (rest:=[ga (.ref ws),ga (.ref k.p)]) rd.on rd.ok.w16 rd.bd.on (λi w0 ew y kk hkk=>?_) λp hp=>i' pK ⟨M,.new hp,q⟩;obtain⟨r,e1,e2⟩:=Bw i8 ew;exact i' i4 (i' e1 (pD e2 ⟨by cases w0.2<;>rfl,_,⟨w0.2,Z',Z'⟩,SD e2 hk hkk⟩))
def QJ:Fq P w K mg base 10 a.a9 (O9 a):=by
 refine fq G.a9.toDG Cm (λr u=>⟨_,(pB (pQ 3 Cm (Cu (R:=L6 a) (pN (pJ (pJ v0)) (pN U2 pE)) (Tf G) (r.mono (by first|decide|lia))))
 (pB (pR (qe v0 G.c.toCls G.k (rg G) r (qp (pT (qc pF (rB U1 (pN U3 pE) U2))))))
 (pB (pR (qe v0 G.c.toCls G.k (rg G) r (qp (pT (rZ pF U1)))))
 (pB (pR (qe v0 G.c.toCls G.k (rg G) r (qp (pT (qc pF (qc U1 (rB (pN U3 pE) (pN U3 pE) (pN U3 pE))))))))
 (pC (pR (pO (JY G) r G.ad (rZ v0 U1)))))))),?_⟩)
 rintro ds M Q ⟨M0,b,A,V,l,c,n,i,k,r,rfl,cu,hc,hn,wf,du,q⟩
 obtain⟨ph,gr,ws,Zr,pr,gd,rs,i1,i2,i3,i4,i5,i6,i7,i8⟩:=cu.pl;cases du with
 | on k0 _ _ b0 x y m hk hs hw hl hy=>
  have hi:=(c9.mp hk).1;rw[yz hw]at q;rw[rJ]at q;obtain⟨r0,e1,e2⟩:=Bw i8 hw;refine pD cu.at_ (i' Z' (pD i1 (i' Z' (i' (zv _ _) (i' i4 (i' e1 (pD e2 ⟨Z',_,⟨⟨.silent x y m,Z'⟩,Z'⟩,r0,.silent x y m,Z',e2,?_⟩)))))));refine pD cu.at_ ⟨Z',_,⟨Z',Z'⟩,pz Z',b,A,V,.asks i x (k::r),Z',cu.b,cu.bd,cu.lim hc (by lia),trivial,λM1 A1 eb1 Yy bd1=>?_⟩;have c1:=cu.after (e:=.asks i x (k::r)) trivial eb1 Yy bd1;refine pD c1.at_ ⟨Z',_,⟨Z',Z'⟩,pz Z',b,A1,_,.quiet i,Z',c1.b,c1.bd,c1.lim hc (by lia),hi,λM2 A2 eb2 Yj Zs=>?_⟩;have c2:=c1.after (e:=.quiet i) hi eb2 Yj Zs;have Y7:i<(qa (qa V (.asks i x (k::r))) (.quiet i)).calls.length:=by show i<(V.calls.modify i pG.nk).length;rw[fZ];exact hi
  refine pD c2.at_ ⟨Z',_,⟨Z',Z'⟩,pz Z',b,A2,_,.leg ⟨i,x,y,x⟩,Z',c2.b,c2.bd,c2.lim hc (by lia),Y7,λM3 A3 eb3 YK bd3=>?_⟩;have c3:=c2.after (e:=.leg ⟨i,x,y,x⟩) Y7 eb3 YK bd3;exact⟨M0,b,A3,_,l,c,n+3,i,_,Z',c3,hc,by lia,Bs wf hk hs hy,Bq hk,λM4 A4 c4 st4=>⟨M4,.refl,q M4 A4 (c4.mono (dv _) (by lia)) (Yy.trans (Yj.trans (YK.trans st4)))⟩⟩
def Pu:Fq P w K mg base 11 a.ba (PQ a):=by
 refine fq G.ba.toDG tQ (λr u=>⟨_,(pB (pR (qe v0 G.c.toCls G.k (rg G) r (qp (pT (qp pF)))))
 (pC (tS eS Z' (xx Z' G.bY (qp (qw sJ Z' G.r sD (qp (pJ v0))))) (vb (n:=2) Z' (qK (rY 1 tQ) (qK (rY 2 tQ) uc)))
 (pC (pU (pL u (pJ U2) pF)
 (pB (pQ 3 tQ (pO (O4 G) r G.a8 (rZ v0 U2)))
 (pC (pU (pL u (pX qF Z' G.g qE (qp U3)) pE)
 (pC (pR (pO (QJ G) r G.a9 (rB v0 U1 U3))))
 pP)))
 pP))))),?_⟩)
 rintro ds M Q ⟨M0,b,A,V,l,c,n,rfl,cu,hc,hn,wf,q⟩
 refine pD cu.at_ ⟨Z',_,⟨Z',Z'⟩,pz Z',b,A,V,.turn,Z',cu.b,cu.bd,cu.lim (by lia) (by lia),trivial,λM1 A1 eb st bd=>?_⟩;have c1:=cu.after (e:=.turn) trivial eb st bd;have wf1:=Bo wf;have lv:(qa V .turn).calls.length=V.calls.length:=cY ..;have ev:Fs l V=.turn::rG l (List.range V.calls.length) (qa V .turn):=rfl;rw[ev,<-lv]at q;have q:∀M' A',uO a M0 M' b A' (qN (qa V .turn) (rG l (List.range (qa V .turn).calls.length) (qa V .turn))) l c (n+1+33*c)->rc A M A' M'->Q .mK M':=q;have c1:uO a M0 M1 b A1 (qa V .turn) l c (n+1):=c1;generalize qa V .turn=V1 at c1 wf1 q bd;refine pD c1.at_ (i' Z' (i' c1.bd.ca λr hr=>i' pK ?_));obtain⟨M2,e0,t,lr⟩:=xI (ds:=A1.cs.map λk=>D.ref k.p) hr;rw[<-e0];have nf:=c1.bd.n9 hr;have c2:=c1.sub t;have cl:V1.calls.length<=c:=c1.sz.ca;refine uL (uF 0 (A1.cs.map λk=>D.ref k.p)) (λpre U M'=>(∃A',uO a M0 M' b A' (qN V1 (rG l (List.range pre.length) V1)) l c (n+1+33*pre.length)/\rc A1 M2 A' M')/\∃y1 y2 y3,U=[ga (.ref b),y1,y2,y3]) (λpre U M' j=>?_) _ [] _ _ Z' ⟨⟨A1,c2,.refl⟩,Fa,Fa,Fa,Z'⟩ ?_ ?_
 .obtain⟨⟨A',c3,YK⟩,_⟩:=j;exact sX (YK.1 r _ nf (pY lr))
 .rintro pre d post e U M' ⟨⟨A',c3,YK⟩,y1,y2,y3,rfl⟩ nx X2
  rw[de,dI,jZ,D0,rJ]at X2;have wf3:=Fw cu.ok (List.range pre.length) wf1;generalize qN V1 (rG l (List.range pre.length) V1)=V3 at c3 wf3 X2;obtain⟨x,hx,rfl⟩:=Jg e;rw[dE]at hx;cases ek:A1.cs[pre.length]? with
  | none=>rw[ek]at hx;cases hx
  | some k=>
   rw[ek]at hx;have hx:D.ref k.p=x:=dw hx;subst hx;have hp:pre.length<c:=by have:=(c9.mp ek).1;rw[c1.bd.len]at this;lia
   have ek3:=YK.2.2.1 _ k ek;have hi:pre.length<V3.calls.length:=by rw[<-c3.bd.len];exact(c9.mp ek3).1
   have ec:V3.calls[pre.length]?=ga V3.calls[pre.length]:=df hi;generalize V3.calls[pre.length]=cv at ec;have ca:=c3.bd.cs _ k cv ek3 ec;obtain⟨ad,md,g1,_⟩:=ca;refine⟨Z',pD g1 (i' Z' ?_)⟩;have hdv:yM l V3 pre.length=if (cv.st=="rings")=Db then IR l V3 (GR cv)else[]:=by unfold yM;rw[ec];rfl
   have mK:yM l V3 pre.length=[]->∀y1' y2' y3',nx [ga (.ref b),y1',y2',y3'] M':=λh0 y1' y2' y3'=>X2 _ _ ⟨⟨A',by rw[h0];exact c3.mono (dv _) (by lia),YK⟩,_,_,_,Z'⟩;have du:=E4 (V:=V3) (i:=pre.length) cu.ok;refine qQ (c:=cv.st=="rings") (λg=>?_) (λg=>mK (by rw[hdv,dg g]) _ _ _);rw[dh g]at hdv;refine⟨A',V3,l,_,k,cv,by rw[c3.b],c3.rd (by lia) wf3,c3.bd.cs _ k cv ek3 ec,?_⟩;rw[<-hdv];cases hdq:yM l V3 pre.length with
   | nil=>exact mK hdq _ _ _
   | cons k0 r0=>rw[hdq]at du X2;refine yK (dU (by rw[cY];show(0:Int)<((k0::r0).length:Nat);rw[eB];lia)) ?_;exact⟨M0,b,A',V3,l,c,_,pre.length,k0,r0,Z',c3,by lia,by lia,wf3,du,λM4 A4 c4 st4=>X2 _ _ ⟨⟨A4,c4.mono (dv _) (by lia),YK.trans st4⟩,_,_,_,Z'⟩⟩
 .rintro U M' ⟨⟨A',c3,YK⟩,y1,y2,y3,rfl⟩
  have hl:(uF 0 (A1.cs.map λk=>D.ref k.p)).length=V1.calls.length:=by rw[vo,cY,c1.bd.len]
  rw[hl]at c3;exact⟨M',.refl,q M' A' (c3.mono (dv _) (by lia)) (st.trans ((rc.sub t).trans YK))⟩
inductive Rn(l:pM)(V:qu):tV->Ev->Prop
 | sw (b:Bool) (i:Nat):i<V.on.length->Rn l V (.sw b (i:Nat)) (.sw b i)
 | answer (x:Str) (i:Nat) (c:pG):V.calls[i]?=ga c->Rn l V (.num "answer" x [(i:Nat)]) (.talks i [c.cr,x])
 | hold (x:Str) (i:Nat) (c:pG):V.calls[i]?=ga c->Rn l V (.num "hold" x [(i:Nat)]) (.held i x)
 | back (x:Str) (i:Nat) (c:pG):V.calls[i]?=ga c->Rn l V (.num "back" x [(i:Nat)]) (.talks i c.ms)
 | two (w x:Str) (i j:Nat) (c d:pG):i≠j->w="hand"\/w="join"->V.calls[i]?=ga c->V.calls[j]?=ga d->rN c.ms x≠[]->rN d.ms x≠[]->Rn l V (.num w x [(i:Nat),(j:Nat)]) (.merge i j (if (w=="hand")=Db then[qC c x,qC d x]else[x,qC c x,qC d x]))
def Gb(a:Ad):rq:=λds M Q=>F9 λA V l e ev=>ds=[.ref A.b,tV.d e]/\Rd a M A V l/\Rn l V e ev/\Q ev.d M
def RZ(a:Ad):rq:=λds M Q=>T9 λM0 b A V l c n e=>ds=[.ref b,tV.d e]/\uO a M0 M b A V l c n/\c<10000/\n<=5000000/\WF l V/\e.nq/\xJ l V e=Fa/\∀M' A',uO a M0 M' b A' (qN V (wF l V e)) l (c+1) (n+40+33*c)->rc A M A' M'->Q .mK M'
def Xk(a:Ad)(M0 M:Mp)(b:Uf)(A:uj)(V:qu)(l:pM)(c n:Nat)(e:tV)(Q:DK):Prop:=xJ l V e=Fa->∀M' A' r,uO a M0 M' b A' (qN V (wF l V e)) l (c+1) (n+40+33*c)->rc A M A' M'->M' r=Fa->Q (.ref r) (pI M' r (.lst ((wF l V e).map Ev.d)))
def Vf(a:Ad):G8:=λds M Q R=>T9 λM0 b A V l c n e=>ds=[.ref b,tV.d e]/\uO a M0 M b A V l c n/\c<10000/\n<=5000000/\WF l V/\e.nq/\Xk a M0 M b A V l c n e Q/\(∀w,xJ l V e=ga w->R a.I (ga ("word",.str w)) M)
def Rd.call{V:qu}(rd:Rd a M A V l){i:Nat}{c:pG}(e:V.calls[i]?=ga c):∃k,A.cs[i]?=ga k/\se a M (A.lists++V.fo) k c:=by
 have hi:i<A.cs.length:=by rw[rd.bd.len];exact(c9.mp e).1
 exact⟨A.cs[i],df hi,rd.bd.cs i _ c (df hi) e⟩
def yW{i:Int}(h:0<=i):∃m:Nat,i=(m:Int):=eD h
def Ja{c:pG}{x:Str}(nd:c.ms.Nodup)(h2:c.ms.length=2)(hx:x∈c.ms):rN c.ms x≠[]:=λz=>by have:=yq nd hx;rw[z]at this;simp only[dN]at this;lia
def Nr:Fq P w K mg base 2 a.bb (Gb a):=by
 refine fq G.bb.toDG tI (λr u=>⟨_,(pB (pQ 2 tI (pN U1 pE))
 (pB (pU (pL u U2 (pT (rZ pF pF)))
 (pC (pH (pT (rZ U2 (pN U1 pE)))))
 pP)
 (pB (pQ 3 tI (pN U1 pE))
 (pB (pQ 4 tI (pN U1 pE))
 (pB (pQ 5 tI (pN (pJ v0) v4))
 (pB (pU (pL u U2 pF)
 (pC (pH (pT (rB pF v4 (pT (rZ (pJ v5) U3))))))
 pP)
 (pB (pU (pL u U2 pF)
 (pC (pH (pT (rB pF v4 U3))))
 pP)
 (pB (pU (pL u U2 pF)
 (pC (pH (pT (rB pF v4 (qw uV Z' G.F ur (qp (pJ v5)))))))
 pP)
 (pB (pQ 6 tI (pN U1 pE))
 (pB (pQ 7 tI (pT (rZ (qe v5 G.e.toCls G.aw (Gc G) r (qp U3)) (qe (pN (pJ v0) v6) G.e.toCls G.aw (Gc G) r (qp U3)))))
 (pB (pU (pL u U2 pF)
 (pC (pH (pT (qc pF (rB v4 v6 v7)))))
 pP)
 (pC (pH (pT (qc pF (rB v4 v6 (qh (pT (qp U3)) v7))))))))))))))))),?_⟩)
 rintro ds M Q ⟨A,V,l,e,ev,rfl,rd,sg,q⟩
 cases sg with
 | sw b i hi=>
  cases b with
  | true=>exact⟨pz Z',Z',Z',pz Z',M,.refl,q⟩
  | false=>exact⟨pz Z',Z',Z',pz Z',M,.refl,q⟩
 | answer x i c hc=>obtain⟨k,ek,ca⟩:=rd.call hc;obtain⟨ad,md,h1,h2,h3,h4,n1,n2⟩:=ca;refine⟨pz Z',Z',Z',?_⟩;refine pD rd.bd.at_ (i' Z' (i' Z' (i' rd.bd.ca (i' (rD ek) ?_))));exact pD h1 (i' Z' ⟨pz Z',pz Z',M,.refl,q⟩)
 | hold x i c hc=>obtain⟨k,ek,ca⟩:=rd.call hc;refine⟨pz Z',Z',Z',?_⟩;refine pD rd.bd.at_ (i' Z' (i' Z' (i' rd.bd.ca (i' (rD ek) ?_))));exact⟨pz Z',M,.refl,q⟩
 | back x i c hc=>obtain⟨k,ek,ca⟩:=rd.call hc;obtain⟨ad,md,h1,h2,h3,h4,n1,n2⟩:=ca;refine⟨pz Z',Z',Z',?_⟩;refine pD rd.bd.at_ (i' Z' (i' Z' (i' rd.bd.ca (i' (rD ek) ?_))));exact pD h1 (i' Z' (i' h4 ⟨pz Z',M,.refl,q⟩))
 | two wd x i j c d YS hw hc hd nc nd=>
  obtain⟨k,ek,ca⟩:=rd.call hc;obtain⟨k',ek',ca'⟩:=rd.call hd;have ca0:=ca;have ca1:=ca';obtain⟨ad,md,h1,h2,h3,h4,n1,n2⟩:=ca0;obtain⟨ad',md',f1,_⟩:=ca1;obtain⟨y1,r1,e1⟩:=gp nc;obtain⟨y2,r2,e2⟩:=gp nd;have o1:qC c x=y1:=by unfold qC;rw[e1];rfl
  have o2:qC d x=y2:=by unfold qC;rw[e2];rfl
  rw[o1,o2]at q;rcases hw with rfl|rfl
  .refine⟨pz Z',Z',Z',?_⟩;refine pD rd.bd.at_ (i' Z' (i' Z' (i' rd.bd.ca (i' (rD ek) ?_))));refine pD h1 ⟨Z',_,⟨Z',Z'⟩,_,k,c,x,y1,r1,Z',ca,(rd.ms c (rm hc)).2,e1,?_⟩;refine pD rd.bd.at_ (i' Z' (i' Z' (i' rd.bd.ca (i' (rD ek') ?_))));refine pD f1 ⟨Z',_,⟨Z',Z'⟩,_,k',d,x,y2,r2,Z',ca',(rd.ms d (rm hd)).2,e2,?_⟩;exact⟨pz Z',pz Z',M,.refl,q⟩
  .refine⟨pz Z',Z',Z',?_⟩;refine pD rd.bd.at_ (i' Z' (i' Z' (i' rd.bd.ca (i' (rD ek) ?_))));refine pD h1 ⟨Z',_,⟨Z',Z'⟩,_,k,c,x,y1,r1,Z',ca,(rd.ms c (rm hc)).2,e1,?_⟩;refine pD rd.bd.at_ (i' Z' (i' Z' (i' rd.bd.ca (i' (rD ek') ?_))));refine pD f1 ⟨Z',_,⟨Z',Z'⟩,_,k',d,x,y2,r2,Z',ca',(rd.ms d (rm hd)).2,e2,?_⟩;exact⟨pz Z',pz Z',fQ _ _,by show 1+2<=Ch;have hz:=dQ;lia,pz Z',M,.refl,q⟩
def Ts:Fq P w K mg base 12 a.bc (RZ a):=by
 refine fq G.bc.toDG L8 (λr u=>⟨_,(pB (pQ 2 L8 (pN U1 pE))
 (pC (pU (pL u U2 pF)
 (pC (pR (pO (Oi G) r G.a6 (rB v0 (pN U1 pE) (pN U1 pE)))))
 (pC (pU (pL u U2 pF)
 (pC (pR (pO (O0 G) r G.a7 (rB v0 (pN U1 pE) (pN U1 pE)))))
 (pC (pU (pL u U2 pF)
 (pC (pR (pO (Pu G) r G.ba (qp v0))))
 (pC (pR (qe v0 G.c.toCls G.k (rg G) r (qp (pO (Nr G) r G.bb (rZ v0 U1))))))))))))),?_⟩)
 rintro ds M Q ⟨M0,b,A,V,l,c,n,e,rfl,cu,hc,hn,wf,hf,hr,q⟩
 have rd:=cu.rd (by lia) wf;have one:∀(ev:Ev),Rn l V e ev->wF l V e=[ev]->ev.ok V->ev.nw=0->Ak (M b) λC fs'=>fs'.lookup ("apply":Str)=Fa/\∃sp,(C=a.c/\sp=vZ a)/\Gb a [.ref b,e.d] M λd M1=>sp [.ref b,d] M1 λ_ M'=>∃XZ,qG XZ M'/\Q .mK XZ:=λev sg he ok h0=>by refine pD cu.at_ ⟨Z',_,⟨Z',Z'⟩,A,V,l,e,ev,by rw[cu.b],rd,sg,b,A,V,ev,Z',cu.b,cu.bd,cu.lim (by lia) (by lia),ok,λM1 A1 eb st bd=>?_⟩;rw[he]at q;have c1:=cu.after ok eb st bd;rw[h0]at c1;exact⟨M1,.refl,q M1 A1 (c1.mono (by lia) (by lia)) st⟩
 cases e with
 | call y z=>obtain⟨h1,h2,h3,h4⟩:=BD hr;exact⟨M0,b,A,V,l,c,n,y,z,Z',cu,by lia,by lia,Fb wf h1 h2 h3 h4,λM' A' c1 st=>⟨M',.refl,q M' A' (c1.mono (by lia) (by lia)) st⟩⟩
 | turn=>exact⟨M0,b,A,V,l,c,n,Z',cu,by lia,by lia,wf,λM' A' c1 st=>⟨M',.refl,q M' A' (c1.mono (by lia) (by lia)) st⟩⟩
 | sw b0 i=>
  obtain⟨h1,h2⟩:=VI hr;obtain⟨i,rfl⟩:=yW h1;cases b0 with
  | true=>exact one (.sw Db i) (.sw Db i h2) Z' h2 Z'
  | false=>exact one (.sw pc i) (.sw pc i h2) Z' h2 Z'
 | num wd x ns=>
  obtain⟨hx,no⟩:=FL hf hr;cases no with
  | answer i c0 hi hc0 h1 h2 h3=>obtain⟨i,rfl⟩:=yW hi;have lt:=(c9.mp hc0).1;exact one (.talks i [c0.cr,x]) (.answer x i c0 hc0) (eC (λev=>[ev]) (xC hc0)) ⟨lt,by show 2<=100;decide⟩ Z'
  | hang i c0 hi hc0 h1=>obtain⟨i,rfl⟩:=yW hi;exact⟨M0,b,A,V,l,c,n,x,i,c0,Z',cu,by lia,by lia,hc0,λM' A' c1 st=>⟨M',.refl,q M' A' (c1.mono (by lia) (by lia)) st⟩⟩
  | hold i c0 hi hc0 h1=>obtain⟨i,rfl⟩:=yW hi;have lt:=(c9.mp hc0).1;exact one (.held i x) (.hold x i c0 hc0) (eC (λev=>[ev]) (xC hc0)) lt Z'
  | back i c0 hi hc0 h1 h2=>obtain⟨i,rfl⟩:=yW hi;have lt:=(c9.mp hc0).1;exact one (.talks i c0.ms) (.back x i c0 hc0) (eC (λev=>[ev]) (xC hc0)) ⟨lt,(cu.sz.cs c0 (rm hc0)).2.2⟩ Z'
  | two _ i j c0 d0 hi hj hw hc0 hd0 h1 h2=>
   obtain⟨i,rfl⟩:=yW hi;obtain⟨j,rfl⟩:=yW hj;have lt:=(c9.mp hc0).1;have lt':=(c9.mp hd0).1;have YS:=(FR (w:=wd) wf hc0 hd0 h1 h2).1;have k0:=wf.ok _ c0 hc0;have k1:=wf.ok _ d0 hd0;obtain⟨_,u2,u3,_⟩:=E7 k0 h1;obtain⟨_,v2,v3⟩:=wU.mp h2;have sg:=Rn.two (l:=l) wd x i j c0 d0 YS hw hc0 hd0 (Ja k0.mn u2 u3) (Ja k1.mn v3 v2);have ok:(Ev.merge i j (if (wd=="hand")=Db then[qC c0 x,qC d0 x]else[x,qC c0 x,qC d0 x])).ok V:=⟨lt,lt',YS,by split;exact(by decide:2<=100);exact(by decide:3<=100)⟩;have he:wF l V (.num wd x [(i:Int),(j:Int)])=[.merge i j (if (wd=="hand")=Db then[qC c0 x,qC d0 x]else[x,qC c0 x,qC d0 x])]:=eC (λev=>[ev]) (EL hc0 hd0);rcases hw with rfl|rfl
   .exact one _ sg he ok Z'
   .exact one _ sg he ok Z'
def Kj:xN P w K mg base (CD P w) 1 a.H.f a.H.d a.H.p (wQ K "word"):=
 LZ G.H.toDG CH λX6 A outer s H E=>Ju (Qq (pv 0) (pv 1))
def UZ:WU P w K mg base 13 a.N (Vf a):=by
 refine Us G.N.toDG ID (by walk_at "m") (λ_ _ _ _ _ _ R hr hR=>⟨_,(pB (pQ 2 ID (pO (IH G) hr G.a1 (rZ v0 U1)))
 (pB (pU (pL (Xx hr) U2 rW)
 (pC (K6 G.b8 (Kj G) (hr.mono (by first|decide|lia)) G.H.b G.b9 G.H.at_ Z' G.bZ hR (qp U2)))
 pP)
 (pB (pQ 3 ID (pX qF Z' G.g qE (qp (pJ v0))))
 (pB (pR (pO (Ts G) hr G.bc (rZ v0 U1)))
 (pC (pH (sE (pJ v0) (tj U3) tz))))))),?_⟩)
 .rintro ds M Q ⟨M0,b,A,V,l,c,n,e,rfl,cu,hc,hn,wf,hf,q,rr⟩
  refine⟨A,V,l,e,by rw[cu.b],cu.rd (by lia) wf,hf,?_⟩;cases er:xJ l V e with
  | some w0=>exact⟨_,Z',rr w0 er⟩
  | none=>
   refine pD cu.at_ (i' Z' (i' cu.bd.lo ?_));refine⟨M0,b,A,V,l,c,n,e,Z',cu,hc,hn,wf,hf,er,λM' A' c1 st=>?_⟩;refine pD c1.at_ (i' Z' (i' c1.bd.lo λp hp=>?_));have hcut:L3.uZ ((qN V (wF l V e)).log.map Ev.d) (ga (((V.log.map Ev.d).length:Nat):Int)) Fa=(wF l V e).map Ev.d:=by rw[Bu,dJ,IM _ _ (by rw[de];lia),List.drop_left]
   rw[hcut];exact⟨_,.refl,q er M' A' p c1 st hp⟩
def Pb(a:Ad):rq:=λds M Q=>T9 λM0 b A V l c n e=>ds=[.ref b,tV.d e]/\uO a M0 M b A V l c n/\c<10000/\n<=5000000/\WF l V/\e.nq/\Xk a M0 M b A V l c n e Q/\(xJ l V e≠Fa->Q .mK M)
def Qb:Fq P w K mg base 14 a.bv (Pb a):=by
 refine fq G.bv.toDG vU (λr u=>⟨_,(pB (pQ 2 vU rW)
 (pB (OT (ix:=2) (LG (UZ G) (r.mono (by first|decide|lia)) Z' G.N.mg G.N.toDG.kp G.N.b (rZ v0 U1)) Z' Z' Z' G.bZ vU.nd Z' Z' (λev E'=>
 (pC (pQ 2 vU rW))))
 (pC (pH U2)))),?_⟩)
 rintro ds M Q ⟨M0,b,A,V,l,c,n,e,rfl,cu,hc,hn,wf,hf,q,qf⟩
 refine⟨λC _ M'=>(C=a.I/\xJ l V e≠Fa)/\M=M',?_,?_⟩
 .exact⟨M0,b,A,V,l,c,n,e,Z',cu,hc,hn,wf,hf,λh M' A' r c1 st hm=>⟨_,.refl,q h M' A' r c1 st hm⟩,λw h=>⟨⟨Z',by rw[h];exact λz=>nomatch z⟩,Z'⟩⟩
 .rintro C y M' ⟨⟨rfl,h⟩,rfl⟩
  exact⟨G.ca,M,.refl,qf h⟩
noncomputable def vX(g:ul):Bool:=g.2.1==("turns":Str)
def vi(l:pM):T0 (Str×Int):=(l.groups.filter vX).map λg=>(g.1,0)
def V0(p:Uf)(h:Int)(l:pM)(F:QXQ):qu:=⟨p,h,0,[],[],vi l,l.mH.map (·.1),[],F⟩
def FT(a:Ad):rq:=λds M Q=>F9 λb p h F (l:pM)=>ds=[.ref b,.ref p,.int h]/\M b=ga (.ins a.c [])/\sY a M p l/\rj l/\p≠b/\(∀x∈F,∃c,M x=ga c)/\∀M' A,A.b=b->qT b M M'->(∀x∈A.foot,x=b\/M x=Fa)->pS a M' A (V0 p h l F)->Q .mK M'
noncomputable def OB(g:D):Bool:=match g with
 | .tup (_::.str m::_)=>m=="turns"
 | _=>pc
def Rx(d:D):D:=.tup [Dc d,.int 0]
def HS(gs:List ul):((gs.map rk).filter OB).map Rx=(gs.filter vX).map λg=>D.tup [.str g.1,.int 0]:=by rw[hZ,eh];rfl
def KY(l:pM):((l.groups.filter vX).map λg=>((Sum.inr g.1:qW),D.int 0))=tG (vi l):=by unfold tG vi;rw[eh];rfl
noncomputable def bF(p:Uf)(h:Int)(ca le nx Zt:Uf)(k:Nat):T0 (Str×D):=List.take (α:=Str×D) k [("plan",.ref p),("hour",.int h),("turn",.int 0),("calls",.ref ca),("legs",.ref le),("nexts",.ref nx),("on",.ref Zt)]
def MN:Fq P w K mg base 1 a.aj (FT a):=by
 refine fq G.aj.toDG Dv (λr u=>⟨_,(pB (qm v0 U1)
 (pB (qm v0 U2)
 (pB (qm v0 pE)
 (pB (qm v0 (qP sd))
 (pB (qm v0 (qP sd))
 (pB (qm v0 (qw (FX Z') Z' G.bX EQ (qp (qO Z' (xQ (ix:=[Fa]) (N':=["group"])) (qI (pJ U1)) (qD 0) (vn (pL u (pN v0 pE) pF)) (pT (rZ (pN v0 pE) pE))))))
 (pB (qm v0 (qw sJ Z' G.r sD (qp (pJ U1))))
 (pC (qm v0 (qP sd)))))))))),?_⟩)
 rintro ds M Q ⟨b,p,h,F,l,rfl,hb,⟨ph,gr,ws,on,pr,gd,rs,i1,i2,i3,i4,i5,i6,i7,i8⟩,ok,nbp,hF,q⟩
 have hz:=dQ;have l2:=ok.g3;refine pD hb ⟨(G.C "plan" Z'),by show 0<1000;decide,?_⟩;have k1:qT b M (pI M b (.ins a.c [("plan",.ref p)])):=.put;have b1:pI M b (.ins a.c [("plan",.ref p)]) b=ga (.ins a.c [("plan",.ref p)]):=pW;show uE _ _ _ _ (pI M b (.ins a.c [("plan",.ref p)]));generalize pI M b (.ins a.c [("plan",.ref p)])=N1 at k1 b1 ⊢;refine pD b1 ⟨(G.C "hour" Z'),by show 1<1000;decide,?_⟩;have k2:=k1.trans (qT.put (p:=b) (c:=.ins a.c [("plan",.ref p),("hour",.int h)]));have b2:pI N1 b (.ins a.c [("plan",.ref p),("hour",.int h)]) b=ga (.ins a.c [("plan",.ref p),("hour",.int h)]):=pW;show uE _ _ _ _ (pI N1 b (.ins a.c [("plan",.ref p),("hour",.int h)]));generalize pI N1 b (.ins a.c [("plan",.ref p),("hour",.int h)])=N2 at k2 b2 ⊢;refine pD b2 ⟨(G.C "turn" Z'),by show 2<1000;decide,?_⟩;have k3:=k2.trans (qT.put (p:=b) (c:=.ins a.c (bF p h 0 0 0 0 3)));have b3:pI N2 b (.ins a.c (bF p h 0 0 0 0 3)) b=ga (.ins a.c (bF p h 0 0 0 0 3)):=pW;show uE _ _ _ _ (pI N2 b (.ins a.c (bF p h 0 0 0 0 3)));generalize pI N2 b (.ins a.c (bF p h 0 0 0 0 3))=N3 at k3 b3 ⊢;clear k1 k2 b1 b2;refine⟨pz Z',λca hca=>?_⟩;obtain⟨n4,e4,k4,c4,b4⟩:=tq (fs':=(bF p h ca 0 0 0 4)) (c:=.lst []) b3 hca;refine pD e4 ⟨(G.C "calls" Z'),by show 3<1000;decide,?_⟩;show uE _ _ _ _ (pI (pI N3 ca (.lst [])) b (.ins a.c (bF p h ca 0 0 0 4)));generalize pI (pI N3 ca (.lst [])) b (.ins a.c (bF p h ca 0 0 0 4))=N4 at k4 c4 b4 ⊢;have ZX:=k3.trans k4;have z1:M ca=Fa:=rO k3 b3 hca;have lc4:og N4 ca=ga []:=sX c4;refine⟨pz Z',λle hle=>?_⟩;obtain⟨n5,e5,k5,c5,b5⟩:=tq (fs':=(bF p h ca le 0 0 5)) (c:=.lst []) b4 hle;refine pD e5 ⟨(G.C "legs" Z'),by show 4<1000;decide,?_⟩;show uE _ _ _ _ (pI (pI N4 le (.lst [])) b (.ins a.c (bF p h ca le 0 0 5)));generalize pI (pI N4 le (.lst [])) b (.ins a.c (bF p h ca le 0 0 5))=N5 at k5 c5 b5 ⊢;have ZY:=ZX.trans k5;have z2:M le=Fa:=rO ZX b4 hle;have le5:og N5 le=ga []:=sX c5;have mcl:le≠ca:=λz=>by rw[z,pY lc4]at hle;cases hle
 have lc5:=k5.lst (pZ lc4 b4) lc4;have p5:=ZY _ _ nbp i1;have g5:=ZY.lst (pZ i3 hb) i3;clear k3 k4 k5 ZX lc4 c4 c5 e4 e5 b3 b4;refine pD p5 (i' Z' (i' g5 ?_));refine tL (f:=Rx) (t:=OB) g5 _ [] _ (by rw[cY];simp only[dN];lia) (λd hd k hk=>?_) (λd hd _ k hk=>?_) λq1 YQ=>?_
 .obtain⟨v,_,rfl⟩:=dF.mp hd;exact hk
 .obtain⟨v,_,rfl⟩:=dF.mp hd;exact⟨pz Z',hk⟩
 rw[eA,HS];have sq1:=qG.new (c:=.lst ((l.groups.filter vX).map λg=>D.tup [.str g.1,.int 0])) YQ;refine i' pK (i' (xg (λg:ul=>g.1) (λ_=>D.int 0) _) ⟨zg (iG (List.Sublist.map _ gi) (iG (jy _ _) ok.nd)),λnx X2=>?_⟩);have z3:M nx=Fa:=rO ZY b5 (sq1.none X2);obtain⟨n6,e6,k6,c6,b6⟩:=tq (fs':=(bF p h ca le nx 0 6)) (c:=.dk ((l.groups.filter vX).map λg=>((Sum.inr g.1:qW),D.int 0))) (sq1 _ _ b5) X2;refine pD e6 ⟨(G.C "nexts" Z'),by show 5<1000;decide,?_⟩;have k6:=sq1.keep.trans k6;have ZL:wj "nexts" (.ref nx) (bF p h ca le 0 0 5)=(bF p h ca le nx 0 6):=rfl;rw[ZL];generalize pI (pI (pI N5 q1 (.lst ((l.groups.filter vX).map λg=>D.tup [.str g.1,.int 0]))) nx (.dk ((l.groups.filter vX).map λg=>((Sum.inr g.1:qW),D.int 0)))) b (.ins a.c (bF p h ca le nx 0 6))=N6 at k6 b6 c6 ⊢;have x6:xS N6 nx=ga ((l.groups.filter vX).map λg=>((Sum.inr g.1:qW),D.int 0)):=DS c6;have kk6:=ZY.trans k6;have lc6:=k6.lst (pZ lc5 b5) lc5;have le6:=k6.lst (pZ le5 b5) le5;have p6:=kk6 _ _ nbp i1;have o6:=kk6.lst (pZ i5 hb) i5;clear ZY k6 lc5 p5 g5 e6 c6;refine pD p6 (i' Z' (i' o6 λZt hon=>?_));have z4:M Zt=Fa:=rO kk6 b6 hon;obtain⟨n7,e7,k7,c7,b7⟩:=tq (fs':=(bF p h ca le nx Zt 7)) (c:=.lst (l.mH.map λw=>D.bl w.1)) b6 hon;refine pD e7 ⟨(G.C "on" Z'),by show 6<1000;decide,?_⟩;have ZL:wj "on" (.ref Zt) (bF p h ca le nx 0 6)=(bF p h ca le nx Zt 7):=rfl;rw[ZL];generalize pI (pI N6 Zt (.lst (l.mH.map λw=>D.bl w.1))) b (.ins a.c (bF p h ca le nx Zt 7))=N7 at k7 b7 c7 ⊢;have kk7:=kk6.trans k7;have lc7:=k7.lst (pZ lc6 b6) lc6;have le7:=k7.lst (pZ le6 b6) le6;have x7:=k7.dk (Cg x6 b6) x6;have lo7:og N7 Zt=ga ((l.mH.map (·.1)).map D.bl):=by rw[eh];exact sX c7
 refine⟨pz Z',λlg hlg=>?_⟩;obtain⟨n8,e8,k8,c8,b8⟩:=tq (fs':=tU (.ref p) h 0 ca le nx Zt lg) (c:=.lst []) b7 hlg;refine pD e8 ⟨(G.C "log" Z'),by show 7<1000;decide,_,.refl,?_⟩;have apart:∀{N:Mp} {x y:Uf} {ds:T0 D},N x=Fa->og N y=ga ds->x≠y:=λ{N x y ds} h1 h2 z=>by have:=pY h2;rw[<-z,h1]at this;cases this
 have y5:=rO kk7 b7 hlg;refine q _ ⟨b,ca,le,nx,Zt,lg,[]⟩ Z' (kk7.trans k8) (λx hx=>?_) ⟨b8,k8.lst (pZ lc7 b7) lc7,k8.lst (pZ le7 b7) le7,?_,k8.lst (pZ lo7 b7) lo7,sX c8,Z',λi k c e=>by simp at e,?_,dS.mpr ⟨dY,eI⟩,λx hx=>?_⟩
 rotate_right
 .by_cases z:x=b
  .exact⟨_,by rw[z];exact b8⟩
  .obtain⟨c,e⟩:=hF x hx;exact⟨c,(kk7.trans k8) x c z e⟩
 .have hx:x∈[b,nx,ca,le,Zt,lg]:=by
   unfold uj.foot uj.lists at hx
   simpa using hx
  simp only[dC,dY,gu]at hx;rcases hx with rfl|rfl|rfl|rfl|rfl|rfl
  .exact .inl Z'
  .exact .inr z3
  .exact .inr z1
  .exact .inr z2
  .exact .inr z4
  .exact .inr y5
 .show xS _ nx=ga (tG (vi l));rw[<-KY];exact k8.dk (Cg x7 b7) x7
 .have m1:=apart hlg lc7;have m2:=apart hlg le7;have m3:=apart hlg lo7;have m4:=apart hon lc6;have m5:=apart hon le6;show[ca,le,Zt,lg].Nodup;simp only[dS,dC,dY,gu,il,not_false_eq_true,eI,and_true];exact⟨⟨dZ mcl,dZ m4,dZ m1⟩,⟨dZ m5,dZ m2⟩,dZ m3⟩
def W2{p:Uf}{F:QXQ}(ok:rj l):WF l (V0 p h l F):=by
 refine⟨λi c e=>by simp[V0]at e,λi j ci cj x e=>by simp[V0]at e,λx hx=>?_,λi j ci cj x e=>by simp[V0]at e,λz hz ht=>?_⟩
 .show((0:Nat):Int)<=xc l x;unfold xc;cases e:l.mZ x with
  | none=>exact Int.le_refl _
  | some v=>have:=(ok.po v (gz e)).l1;show(0:Int)<=v.2.1;lia
 .show ∃v,(vi l).find? (λp=>decide (p.1=z))=ga v/\_;unfold pM.mP at ht;cases e:l.group z with
  | none=>rw[e]at ht;exact absurd ht (by decide)
  | some g=>
   rw[e]at ht;have hg:=gz e;have hn:g.1=z:=by simpa using ma e
   have hm:((g.1,0):Str×Int)∈vi l:=dF.mpr ⟨g,fH.mpr ⟨hg,ht⟩,Z'⟩;cases q:(vi l).find? (λp=>decide (p.1=z))with
   | none=>exact absurd (gx.mp q _ hm) (by simp[hn])
   | some v=>refine⟨v,Z',?_⟩;obtain⟨g',_,rfl⟩:=dF.mp (gz q);exact⟨Int.le_refl _,Int.natCast_nonneg _⟩
def Er(ok:rj l):(vi l).length<=3:=by unfold vi;rw[cY];exact d9 (gy _ _) ok.g3
def Ev.noT:Ev->Prop
 | .turn=>False
 | .sw _ _=>False
 | _=>True
def Ev.noN:Ev->Prop
 | .next _ _=>False
 | _=>True
theorem FF:∀{es:T0 Ev} {V:qu},(∀e∈es,e.noN)->(qN V es).ps=V.ps
 | [],_,_=>rfl
 | e::r,V,h=>(FF (es:=r) (V:=qa V e) λx hx=>h x (dH _ hx)).trans (by have:=h e dP;cases e<;>first|rfl|cases this)
theorem Ct(i:Nat):∀(st:sZ) (q:Option Str),∀e∈rh i q st,e.noT/\e.noN
 | [],_,e,h=>by unfold rh at h;cases h
 | (y,gs)::r,Fa,e,h=>by
  rcases dC.mp (show e∈Ev.asks i y gs::rh i (ga y) r from h)with rfl|h
  .exact⟨trivial,trivial⟩
  .exact Ct i r _ e h
 | (y,gs)::r,ga u,e,h=>by
  rcases dC.mp (show e∈Ev.leg ⟨i,u,y,u⟩::Ev.asks i y gs::rh i (ga y) r from h)with rfl|h
  .exact⟨trivial,trivial⟩
  rcases dC.mp h with rfl|h
  .exact⟨trivial,trivial⟩
  .exact Ct i r _ e h
def PV{st:sZ}:∀e∈sT i st en,e.noT/\e.noN:=λe h=>by
 unfold sT at h;cases en with
 | ring ns=>
  dsimp only at h;cases q:st.getLast? with
  | none=>rw[q]at h;cases h
  | some s0=>rw[q]at h;rw[dz.mp h];exact⟨trivial,trivial⟩
 | _=>cases h
def Qx{ps:T0 (Str×Int)}{z:Str}{n:Int}(h:ps.any (λp=>decide (p.1=z))=Db):(C1 ps z n).length=ps.length:=by unfold C1;rw[dh h,cY]
def Sa{V V1:qu}(nx:uo l V1)(he:DP l V i en):(qN V1 (sO l V i en)).ps.length=V1.ps.length:=by
 cases en with
 | rings z ps=>
  show(qN V1 ((if (l.mP z=="turns")=Db then[Ev.next z (RD (l.mF z) (ps.headD Str.empty))]else[])++[.rings i ps])).ps.length=_;rw[rJ];by_cases ht:(l.mP z=="turns")=Db
  .rw[dh ht];refine Qx ?_;obtain⟨v,e,_⟩:=nx z he.1 ht;exact fP.mpr ⟨v,gz e,by simpa using ma e⟩
  .rw[dg ht];rfl
 | breaks z=>
  unfold sO;dsimp only;split
  .rfl
  .rfl
 | waits z=>rfl
 | engaged z=>rfl
 | barred=>rfl
 | ring ns=>rfl
def Rk{V:qu}{i:Nat}{k:pG}(ok:rj l)(wf:zB l V (ga i))(hk:V.calls[i]?=ga k):(qN V (vO l V i)).ps.length=V.ps.length:=by
 have YE:=wf.ok i k hk;unfold vO;rw[hk];dsimp only[Option.elim];obtain⟨z,hz⟩:∃z,k.way.getLast?=ga z:=by
  cases e:k.way.getLast? with
  | none=>exact absurd (gA.mp e) YE.wy.1
  | some z=>exact⟨z,Z'⟩
 rw[show k.way.getLastD Str.empty=z by rw[gR,hz];rfl];have ro:xw l V k.cr (l.nm.length+1) [] (uG l V k.cr z k.way.dropLast):=x9 ok _ _ _ _ (YE.wy.2 z (iq hz)) λx hx=>YE.wy.2 x (ir _ hx);have eo:=HP ok wf hk ro.e;generalize uG l V k.cr z k.way.dropLast=R at eo;obtain⟨e,st⟩:=R;have e1:(qN (qN V (rh i Fa st)) (sT i st e)).ps=V.ps:=(FF λx hx=>(PV x hx).2).trans (FF λx hx=>(Ct i st Fa x hx).2);rw[rJ,rJ];refine(Sa (λz hz ht=>?_) eo).trans (eC List.length e1);rw[e1];exact wf.nx z hz ht
theorem JT(ok:rj l):∀(is:T0 Nat) {V:qu},WF l V->(qN V (rG l is V)).ps.length=V.ps.length
 | [],V,_=>by unfold rG;rfl
 | i::r,V,wf=>by
  unfold rG;rw[rJ];refine(JT ok r (F5 ok wf)).trans ?_;have d:=E4 (V:=V) (i:=i) ok;generalize yM l V i=fs at d;cases d with
  | no=>rfl
  | on c k r b x y n hc hs hk hw hy=>rw[yz hk,rJ];exact Rk ok (Bs wf hc hs hy) (Bq hc)
def UC{V:qu}{e:tV}(ok:rj l)(wf:WF l V)(f:e.nq)(h:xJ l V e=Fa):(qN V (wF l V e)).ps.length=V.ps.length:=by
 cases e with
 | call y z=>obtain⟨h1,h2,h3,h4⟩:=BD h;obtain⟨k,hk⟩:=HU (V:=V) (y:=y) (z:=z);show(qN V (_++vO l _ _)).ps.length=_;rw[rJ];exact Rk ok (Fb wf h1 h2 h3 h4) hk
 | turn=>exact JT ok _ (Bo wf)
 | sw b i=>rfl
 | num w x ns=>
  refine eC List.length (FF λev hev=>?_);obtain⟨_,n⟩:=FL f h;cases n with
  | answer i c hi hc h1 h2 h3=>rw[dz.mp (show ev∈[Bb V "answer" x i.toNat]from hev),xC hc];trivial
  | hang i c hi hc h1=>
   have hev:ev∈vh V x i.toNat:=hev;unfold vh at hev;rw[hc]at hev;dsimp only[Option.elim]at hev;split at hev
   .rw[dz.mp hev];trivial
   split at hev
   .rcases dC.mp hev with rfl|hev
    .trivial
    split at hev
    .rw[dz.mp hev];trivial
    .cases hev
   split at hev
   .rw[dz.mp hev];trivial
   .rw[dz.mp hev];trivial
  | hold i c hi hc h1=>rw[dz.mp (show ev∈[Bb V "hold" x i.toNat]from hev),xC hc];trivial
  | back i c hi hc h1 h2=>rw[dz.mp (show ev∈[Bb V "back" x i.toNat]from hev),xC hc];trivial
  | two _ i j c d hi hj hw hc hd h1 h2=>rw[dz.mp (show ev∈[Ej V w x i.toNat j.toNat]from hev),EL hc hd];trivial
theorem DN(n:Nat):∀ss:QQQ,(ss.map D.str).all (vG n)=Db
 | []=>rfl
 | s::r=>by rw[d4,fD,DN n r];cases n<;>rfl
theorem DZ(n:Nat):∀ss:T0 Nat,(ss.map λi=>D.int (i:Nat)).all (vG n)=Db
 | []=>rfl
 | s::r=>by rw[d4,fD,DZ n r];cases n<;>rfl
def Pj(e:Ev):vG 6 e.d=Db:=by
 have t:∀ss:QQQ,vG 5 (names ss)=Db:=λss=>DN 4 ss;have u:∀ss:T0 Nat,vG 5 (wB ss)=Db:=λss=>DZ 4 ss;cases e with
 | asks i z ns=>show([D.str "asks",.int (i:Nat),.str z,wB ns].all (vG 5))=Db;simp only[fD,u];rfl
 | merge i j ms=>show([D.str "merge",.int (i:Nat),.int (j:Nat),names ms].all (vG 5))=Db;simp only[fD,t];rfl
 | rings i ps=>show([D.str "rings",.int (i:Nat),names ps].all (vG 5))=Db;simp only[fD,t];rfl
 | talks i ps=>show([D.str "talks",.int (i:Nat),names ps].all (vG 5))=Db;simp only[fD,t];rfl
 | _=>rfl
noncomputable def Bz(c:pG):QQQ:=if (c.st=="talks"||c.st=="held")=Db then c.ms else c.cr::c.at_
def Ke(a:Ad):rq:=λds M Q=>C5 λL k c=>ds=[.ref (rP.p k)]/\se a M L k c/\c.at_.length<=100/\∀r M',qG M M'->og M' r=ga ((Bz c).map D.str)->Q (.ref r) M'
def Og(V:qu)(Y2:QQQ):T0 Nat:=(List.range V.calls.length).filter λi=>(V.calls[i]?).elim pc λc=>hasS Y2 c.st
def Ql(a:Ad):rq:=λds M Q=>Br λA V l Y2=>ds=[.ref A.b,.tup (List.map D.str Y2)]/\Rd a M A V l/\∀r M',qG M M'->og M' r=ga ((Og V Y2).map λn=>D.int (n:Nat))->Q (.ref r) M'
def RK(V:qu)(Y2:QQQ):D->Bool
 | .int n=>(V.calls[n.toNat]?).elim pc λc=>hasS Y2 c.st
 | _=>pc
def Lb:Fq P w K mg base 1 a.bo (Ke a):=by
 refine fq G.bo.toDG Dp (λr u=>⟨_,(pB (pU (W3.b3 (xF (pL u (pJ v0) pF) (wb (pL u (pJ v0) pF))))
 (pC (pH (qw sJ Z' G.r sD (qp (pJ v0)))))
 pP)
 (pC (pH (qh (qP (qp (pJ v0))) (qw sJ Z' G.r sD (qp (pJ v0))))))),?_⟩)
 rintro ds M Q ⟨L,k,c,rfl,⟨ad,md,h1,h2,h3,h4,_⟩,ha,q⟩
 have hz:=dQ;unfold Bz at q;refine pD h1 (i' Z' (qQ (c:=c.st=="talks") (λg=>?_) (λg=>?_)))
 .rw[g,ik,dh Z']at q;exact pD h1 (i' Z' (i' h4 λr hr=>⟨_,.refl,q r _ (.new hr) pK⟩))
 rw[dM.mpr g,fR]at q;refine pD h1 (i' Z' (qQ (c:=c.st=="held") (λg=>?_) (λg=>?_)))
 .rw[dh g]at q;exact pD h1 (i' Z' (i' h4 λr hr=>⟨_,.refl,q r _ (.new hr) pK⟩))
 rw[dg g]at q;refine pD h1 (i' Z' ⟨pz Z',λr1 YD=>?_⟩);obtain⟨M1,e0,t1,l1⟩:=xI (ds:=[D.str c.cr]) YD;rw[<-e0];show Ak (M1 k.p) _;refine pD (t1 _ _ h1) (i' Z' (i' (t1.lst h3) λr2 hr2=>?_));have t2:=qG.new (c:=.lst (c.at_.map D.str)) hr2;refine i' (t2.lst l1) (i' pK ⟨?_,λr3 ZZ=>⟨_,.refl,q r3 _ (t1.trans (t2.trans (.new ZZ))) pK⟩⟩);rw[cY];show 1+c.at_.length<=Ch;lia
def Pm:Fq P w K mg base 1 a.bp (Ql a):=by
 refine fq G.bp.toDG AS (λr u=>⟨_,(pC (pH (qO Z' (xQ (ix:=[Fa,ga 0,ga 1]) (N':=["_law_k","_law_board","_law_states"])) (wA Z' G.Z (qp (pX qF Z' G.g qE (qp (pJ v0))))) (qD 0) (vn (pL u (pJ (pN (pJ U1) v0)) U2)) v0))),?_⟩)
 rintro ds M Q ⟨A,V,l,Y2,rfl,rd,q⟩
 have hz:=dQ;have lc:((A.cs.map λk=>D.ref k.p).length:Int)=(V.calls.length:Nat):=by rw[cY,rd.bd.len]
 have hb:=rd.k;refine pD rd.bd.at_ (i' Z' (i' rd.bd.ca ?_));rw[lc];refine⟨Z',⟨by lia,by lia⟩,?_⟩;refine tL (f:=id) (t:=RK V Y2) trivial _ [] _ (by rw[cY,eL];simp only[dN];lia) (λd hd k hk=>?_) (λd hd _ k hk=>?_) λr hr=>?_
 .obtain⟨i,hi,rfl⟩:=dF.mp hd;rw[gF]at hi;have hi:i<V.calls.length:=by lia
  obtain⟨k',ek,⟨ad,md,h1,_⟩⟩:=rd.call (df hi);have ea:wu (A.cs.map λk=>D.ref k.p) (0+(i:Nat))=ga (.ref k'.p):=by rw[mz];exact rD ek
  refine pD rd.bd.at_ (i' Z' (i' Z' (i' rd.bd.ca (i' ea (pD h1 (i' Z' (i' Z' ⟨Z',qB _,?_⟩)))))));show k (inD (.str V.calls[i].st) (Y2.map D.str)) M;rw[sI];have e1:RK V Y2 (.int (0+(i:Nat)))=hasS Y2 V.calls[i].st:=by show(V.calls[(0+(i:Int)).toNat]?).elim pc _=_;rw[show(0+(i:Int)).toNat=i by lia,df hi];rfl
  show k (hasS Y2 V.calls[i].st) M;rw[<-e1];exact hk
 .exact hk
 .refine⟨_,.refl,q r _ (.new hr) (pK.trans (eC ga ?_))⟩;rw[eA,jk,hZ,show(((V.calls.length:Nat):Int)).toNat=V.calls.length from rfl];unfold Og;have e1:(RK V Y2∘λi:Nat=>D.int (0+(i:Nat)))=λi=>(V.calls[i]?).elim pc λc=>hasS Y2 c.st:=funext λi=>by show(V.calls[(0+(i:Int)).toNat]?).elim pc _=_;rw[show(0+(i:Int)).toNat=i by lia]
  rw[e1];exact fV λi _=>by rw[mz]
noncomputable def Hc:Str->QQQ:=λw=>if (w=="answer")=Db then["rings","waits"]else if (w=="hold")=Db then["talks"]else if (w=="hang")=Db then["rings","waits","talks","held"]else["held"]
def SJ(w:Str):Prop:=w="answer"\/w="hang"\/w="hold"\/w="back"\/w="hand"\/w="join"
def Kz(a:Ad):rq:=λds M Q=>F9 λA V l c w=>ds=[.ref A.b,.int c,.str w,.tup ((Hc w).map D.str)]/\Rd a M A V l/\WF l V/\(∀k∈V.calls,k.at_.length<=100)/\SJ w/\∀M',qG M M'->Q .mK M'/\∀e:tV,e.nq->Q e.d M'
def T5{n:Nat}{a b:Uf}{ds:T0 D}(ha:og M a=ga ds)(hb:og M b=ga []):zA M (n+1) (.ref a) (.ref b)=ga ds.isEmpty:=by
 show(og M a).bind (λi=>(og M b).bind λj=>if i.length=j.length then sR (zA M n) i j else ga pc)=_;rw[ha,hb];cases ds with
 | nil=>rfl
 | cons x r=>rfl
def uQ{α:Type}(f:α->D){xs:List α}(h:xs≠[])(c k:Int):(0:Int)<((xs.map f).length:Nat)/\∃x∈xs,wu (xs.map f) (qz c k ((xs.map f).length:Nat))=ga (f x):=by
 have hp:(0:Int)<((xs.map f).length:Nat):=by have:=fE.mpr h;rw[cY];lia
 have d0:=rb (c:=c) (f:=k) hp;have d1:=qU (c:=c) (f:=k) hp;obtain⟨n,e⟩:=eD d0;rw[e]at d1 ⊢;have hn:n<xs.length:=by rw[cY]at d1;lia
 exact⟨hp,xs[n],ip hn,uT (by rw[dE,df hn];rfl)⟩
def SB{V:qu}{i:Nat}(h:i∈Og V Y2):∃c,V.calls[i]?=ga c/\c.st∈Y2:=by
 have h:=(fH.mp h).2;cases e:V.calls[i]? with
 | none=>rw[e]at h;cases h
 | some c=>rw[e]at h;exact⟨c,Z',qY.mp h⟩
def DT{c:pG}(k:wq l pc c)(h:c.st≠"over"):Bz c≠[]:=by
 unfold Bz;split
 .rename_i g;rcases k.sh with z|⟨_,z|z|⟨_,z⟩|z⟩
  .rw[z.1]at g;exact absurd g (by decide)
  .rw[z.1]at g;exact absurd g (by decide)
  .intro y;rw[y]at z;rcases z.2.1 with u|u<;>cases u
  .intro y;rw[y]at z;cases z.2.1
  .exact absurd z.1 h
 .exact fQ _ _
def Ut{c:pG}(k:wq l pc c)(h:c.st∈Hc "answer"):c.at_≠[]:=by
 have h:c.st="rings"\/c.st="waits":=by
  rcases dC.mp h with g|g
  .exact .inl g
  .exact .inr (dz.mp g)
 rcases k.sh with z|⟨_,z|z|⟨_,z⟩|z⟩
 .exact z.2.2.2.2.2 Z'
 .intro y;rw[y]at z;cases z.2.2.2.2
 all_goals(rw[z.1]at h;exact absurd h (by decide))
def J2{c:pG}(k:wq l pc c)(h:c.st="held"):∃x,c.hd=ga x:=by
 rcases k.sh with z|⟨_,z|z|⟨x,z⟩|z⟩
 .rw[h]at z;exact absurd z.1 (by decide)
 .rw[h]at z;exact absurd z.1 (by decide)
 .rw[h]at z;exact absurd z.1 (by decide)
 .exact⟨x,z.2.2.1⟩
 .rw[h]at z;exact absurd z.1 (by decide)
def K4:Fq P w K mg base 4 a.bq (Kz a):=by
 refine fq G.bq.toDG rK (λr u=>⟨_,(pB (pQ 4 rK (pO (Pm G) r G.bp (rZ v0 U3)))
 (pB (pU (pL u v4 (qP sd))
 (pC (pH rW))
 pP)
 (pB (pQ 5 rK (pN v4 (pO (qR G) r G.i (rB U1 pE (pX qF Z' G.g qE (qp v4))))))
 (pB (pQ 6 rK (pO (Lb G) r G.bo (qp (pN (pJ v0) v5))))
 (pB (pU (pL u U2 pF)
 (pC (pQ 6 rK (qw sJ Z' G.r sD (qp (pJ (pN (pJ v0) v5))))))
 pP)
 (pB (pU (W3.b3 (xF (pL u U2 pF) (xF (pL u U2 pF) (wb (pL u U2 pF)))))
 (pC (pQ 6 rK (qP (qp (pJ (pN (pJ v0) v5))))))
 pP)
 (pB (pQ 7 rK (pN v6 (pO (qR G) r G.i (rB U1 pE (pX qF Z' G.g qE (qp v6))))))
 (pB (pU (W3.b3 (xF (pL u U2 pF) (wb (pL u U2 pF))))
 (pB (pQ 8 rK (qe v0 G.c.toCls G.R (zd G) r (qp v7)))
 (pC (pH (pT (qc U2 (rB v7 v5 (J9 (pL u v8 rW) pE v8)))))))
 pP)
 (pC (pH (pT (rB U2 v7 v5)))))))))))),?_⟩)
 rintro ds M Q ⟨A,V,l,c,wd,rfl,rd,wf,ha,ho,q⟩
 have hz:=dQ;refine⟨A,V,l,Hc wd,Z',rd,λr M1 s1 lr=>?_⟩;refine⟨pz Z',λr0 hr0=>?_⟩;have t2:=qG.new (c:=.lst []) hr0;have lr2:=t2.lst lr;refine i' (T5 lr2 pK) ?_;have s2:=s1.trans t2;generalize pI M1 r0 (.lst [])=M2 at s2 lr2 ⊢;clear t2 lr hr0 s1;refine qQ (c:=((Og V (Hc wd)).map λn=>D.int (n:Nat)).isEmpty) (λ_=>⟨M2,.refl,(q M2 s2).1⟩) (λg=>?_);have gne:Og V (Hc wd)≠[]:=λz=>g (by rw[z];rfl);obtain⟨hp,i,hi,ei⟩:=uQ (λn:Nat=>D.int (n:Nat)) gne c 40692;obtain⟨cv,hc,hs⟩:=SB hi;have rd2:=rd.sub s2;obtain⟨k,ek,ca⟩:=rd2.call hc;have ca0:=ca;obtain⟨ad,md,h1,h2,h3,h4,_⟩:=ca0;have YE:=wf.ok i cv hc;refine i' lr2 ⟨c,_,_,Z',hp,i' lr2 (i' ei ?_)⟩;refine pD rd2.bd.at_ (i' Z' (i' Z' (i' rd2.bd.ca (i' (rD ek) ?_))));refine⟨_,k,cv,Z',ca,ha cv (rm hc),λr3 M3 s3 lr3=>?_⟩;have YC:=s3 _ _ h1;have q3:=λM' (s:qG M3 M')=>q M' (s2.trans (s3.trans s));have rd3:=rd2.sub s3;have h3':=s3.lst h3;clear q lr2 s2 h1 h2 h3 h4 ca;rcases ho with rfl|rfl|rfl|rfl|rfl|rfl
 .
  refine pD rd3.bd.at_ (i' Z' (i' Z' (i' rd3.bd.ca (i' (rD ek) (pD YC (i' Z' (i' h3' λr4 hr4=>?_)))))));obtain⟨X4,x,hx,ex⟩:=uQ D.str (Ut YE hs) c 742938285;refine i' pK ⟨c,_,_,Z',X4,i' pK (i' ex ?_)⟩;exact⟨pz Z',_,.refl,(q3 _ (.new hr4)).2 (.num "answer" x [(i:Nat)]) (.inl ⟨.inl Z',Z'⟩)⟩
 .
  obtain⟨X4,x,hx,ex⟩:=uQ D.str (DT YE (λz=>by rw[z]at hs;exact absurd hs (by decide))) c 742938285;refine i' lr3 ⟨c,_,_,Z',X4,i' lr3 (i' ex ?_)⟩;exact⟨pz Z',_,.refl,(q3 _ .refl).2 (.num "hang" x [(i:Nat)]) (.inl ⟨.inr (.inl Z'),Z'⟩)⟩
 .
  obtain⟨X4,x,hx,ex⟩:=uQ D.str (DT YE (λz=>by rw[z]at hs;exact absurd hs (by decide))) c 742938285;refine i' lr3 ⟨c,_,_,Z',X4,i' lr3 (i' ex ?_)⟩;exact⟨pz Z',_,.refl,(q3 _ .refl).2 (.num "hold" x [(i:Nat)]) (.inl ⟨.inr (.inr (.inl Z')),Z'⟩)⟩
 .
  obtain⟨y,hy⟩:=J2 YE (dz.mp hs);refine pD rd3.bd.at_ (i' Z' (i' Z' (i' rd3.bd.ca (i' (rD ek) (pD YC (i' Z' ⟨pz Z',λr4 hr4=>?_⟩))))));rw[show GC cv.hd=.str y by rw[hy];rfl];obtain⟨X4,x,hx,ex⟩:=uQ D.str (fQ y []) c 742938285;refine i' pK ⟨c,_,_,Z',X4,i' pK (i' ex ?_)⟩;exact⟨pz Z',_,.refl,(q3 _ (.new hr4)).2 (.num "back" x [(i:Nat)]) (.inl ⟨.inr (.inr (.inr Z')),Z'⟩)⟩
 all_goals
  obtain⟨y,hy⟩:=J2 YE (dz.mp hs);refine pD rd3.bd.at_ (i' Z' (i' Z' (i' rd3.bd.ca (i' (rD ek) (pD YC (i' Z' ⟨pz Z',λr4 hr4=>?_⟩))))));rw[show GC cv.hd=.str y by rw[hy];rfl];obtain⟨X4,x,hx,ex⟩:=uQ D.str (fQ y []) c 742938285;refine i' pK ⟨c,_,_,Z',X4,i' pK (i' ex ?_)⟩;have t4:=qG.new (c:=.lst [D.str y]) hr4;refine pD (t4 _ _ rd3.bd.at_) ⟨Z',_,⟨Z',Z'⟩,A,V,x,Z',rd3.bd.sub t4,rd3.k,?_⟩;unfold AM;cases vQ V x with
  | none=>first|exact⟨pz Z',_,.refl,(q3 _ t4).2 (.num "hand" x [(i:Nat),(0:Nat)]) (.inr ⟨.inl Z',Z'⟩)⟩|exact⟨pz Z',_,.refl,(q3 _ t4).2 (.num "join" x [(i:Nat),(0:Nat)]) (.inr ⟨.inr Z',Z'⟩)⟩
  | some j=>first|exact⟨pz Z',_,.refl,(q3 _ t4).2 (.num "hand" x [(i:Nat),(j:Nat)]) (.inr ⟨.inl Z',Z'⟩)⟩|exact⟨pz Z',_,.refl,(q3 _ t4).2 (.num "join" x [(i:Nat),(j:Nat)]) (.inr ⟨.inr Z',Z'⟩)⟩
def JO:rq:=λds M Q=>Ki λc o n own nm m=>ds=[.int c,.ref o,.ref n,.int ((m:Nat):Int)]/\og M o=ga (List.map D.str own)/\og M n=ga (List.map D.str nm)/\own.length<=100/\nm.length<=100/\m<=1000000/\∀M' (e:tV),qG M M'->e.nq->Q e.d M'
def M9(a:Ad):rq:=λds M Q=>T9 λA V l c o n own nm=>ds=[.ref A.b,.int c,.ref o,.ref n]/\Rd a M A V l/\WF l V/\(∀k∈V.calls,k.at_.length<=100)/\og M o=ga (List.map D.str own)/\og M n=ga (List.map D.str nm)/\own≠[]/\nm≠[]/\own.length<=100/\nm.length<=100/\∀M' (e:tV),qG M M'->e.nq->Q e.d M'
def Je{α:Type}(f:α->D){xs:List α}(h:xs≠[]){m:Int}(hm:m=(xs.length:Nat))(c k:Int):(0:Int)<m/\∃x∈xs,wu (xs.map f) (qz c k m)=ga (f x):=by have:=uQ f h c k;rw[cY,<-hm]at this;exact this
def Pq{α:Type}(xs:List α)(x:α):xs++[x]≠[]:=by simp
noncomputable def Il:QQQ:=["call","call","call","call","call","answer","answer","answer","answer","answer","hang","hang","hold","hold","hold","back","hand","join","turn","turn","turn"]
theorem Ec(d:D):∀n:Nat,(List.replicate n [d]).flatten=List.replicate n d
 | 0=>rfl
 | n+1=>by rw[eM,fT,Ec d n,eM];rfl
noncomputable def zz:Str:="zzzzzz"
noncomputable def Mu(a b:Str)(k m:Int):List tV:=[.call a b,.num "answer" a [k],.num "hang" a [k],.num "hold" a [k],.num "back" a [k],.num "hand" a [k,m],.num "join" a [k,m],.turn,.sw Db k,.sw pc k]
def LD{a b:Str}{k m:Int}{e:tV}(h:e∈Mu a b k m):e.nq:=by
 unfold Mu at h;simp only[dC,dY,gu]at h;rcases h with rfl|rfl|rfl|rfl|rfl|rfl|rfl|rfl|rfl|rfl
 .trivial
 .exact .inl ⟨.inl Z',Z'⟩
 .exact .inl ⟨.inr (.inl Z'),Z'⟩
 .exact .inl ⟨.inr (.inr (.inl Z')),Z'⟩
 .exact .inl ⟨.inr (.inr (.inr Z')),Z'⟩
 .exact .inr ⟨.inl Z',Z'⟩
 .exact .inr ⟨.inr Z',Z'⟩
 .trivial
 .trivial
 .trivial
def Qk:Fq P w K mg base 2 a.br JO:=by
 refine fq G.br.toDG uK (λr u=>⟨_,(pB (pQ 4 uK (pN (qh U1 (qP (qp pF))) (pO (qR G) r G.i (rB v0 pE (qh (pX qF Z' G.g qE (qp U1)) pE)))))
 (pB (pQ 5 uK (pN (qh U2 (qP (qp pF))) (pO (qR G) r G.i (rB v0 pE (qh (pX qF Z' G.g qE (qp U2)) pE)))))
 (pB (pQ 6 uK (qh (pO (qR G) r G.i (rB v0 pE (qh U3 pE))) pE))
 (pB (pQ 7 uK (qh (pO (qR G) r G.i (rB v0 pE (qh U3 pE))) pE))
 (pB (pQ 8 uK (qP (qc (pT (rB pF v4 v5)) (qc (pT (rB pF v4 v6)) (qc (pT (rB pF v4 v6)) (rB (pT (rB pF v4 v6)) (pT (rB pF v4 v6)) (pT (qc pF (rB v4 v6 v7)))))))))
 (pC (pH (pN (qh v8 (qP (qc (pT (qc pF (rB v4 v6 v7))) (rB (pT (qp pF)) (pT (rZ pF v6)) (pT (rZ pF v6)))))) (pO (qR G) r G.i (rB v0 pE pE)))))))))),?_⟩)
 rintro ds M Q ⟨c,o,n,own,nm,m,rfl,ho,hn,ol,nl,ml,q⟩
 have hz:=dQ;have add:∀{M1:Mp} {p:Uf} {xs:QQQ} (f:Int) (nx:DK),qG M M1->og M1 p=ga (xs.map D.str)->xs.length<=100->(∀x M',qG M M'->nx (.str x) M')->∀r1,M1 r1=Fa->(og (pI M1 r1 (.lst [D.str zz])) p).elim False λi=>(og (pI M1 r1 (.lst [D.str zz])) r1).elim False λj=>i.length+j.length<=Ch/\∀r2,pI M1 r1 (.lst [D.str zz]) r2=Fa->(og (pI (pI M1 r1 (.lst [D.str zz])) r2 (.lst (i++j))) p).elim False λys=>J5 [.int c,.int f,.int ((ys.length:Nat)+1)] (pI (pI M1 r1 (.lst [D.str zz])) r2 (.lst (i++j))) λy M2=>match y with
  | .int n=>(og M2 r2).elim False λzs=>(wu zs n).elim False λd=>nx d M2
  | _=>False:=λ{M1 p xs} f nx s hx lx X2 r1 YD=>by
  have t1:=qG.new (c:=.lst [D.str zz]) YD;refine i' (t1.lst hx) (i' pK ⟨by rw[cY];show xs.length+1<=Ch;lia,λr2 hr2=>?_⟩);have t2:=qG.new (c:=.lst (xs.map D.str++[D.str zz])) hr2;obtain⟨hp,x,_,ex⟩:=Je D.str (Pq xs zz) (m:=((xs.map D.str).length:Nat)+1) (by rw[cY,de];rfl) c f;rw[dJ]at ex;exact i' ((t1.trans t2).lst hx) ⟨c,f,_,Z',hp,i' pK (i' ex (X2 x _ (s.trans (t1.trans t2))))⟩
 refine⟨pz Z',add 16807 _ .refl ho ol λx M1 s1=>⟨pz Z',add 39373 _ s1 (s1.lst hn) nl λy M2 s2=>?_⟩⟩;refine⟨c,_,_,Z',by show(0:Int)<(m:Nat)+2;lia,⟨c,_,_,Z',by show(0:Int)<(m:Nat)+2;lia,?_⟩⟩;generalize qz c 69621 ((m:Nat)+2) - 1=k0;refine⟨pz Z',pz Z',pz Z',pz Z',pz Z',pz Z',pz Z',λr8 hr8=>⟨pz Z',pz Z',pz Z',pz Z',pz Z',λr9 hr9=>?_⟩⟩;have t8:=qG.new (c:=.lst (((Mu x y k0 (qz c 22695477 ((m:Nat)+2) - 1)).take 6).map tV.d)) hr8;have t9:=qG.new (c:=.lst (((Mu x y k0 (qz c 22695477 ((m:Nat)+2) - 1)).drop 6).map tV.d)) hr9;refine i' (t9.lst pK) (i' pK ⟨by show 6+4<=Ch;lia,λr10 hr10=>?_⟩);obtain⟨hp,e,he,ee⟩:=Je tV.d (xs:=Mu x y k0 (qz c 22695477 ((m:Nat)+2) - 1)) (fQ _ _) (m:=10) Z' c 1664525;exact⟨c,_,_,Z',hp,i' pK (i' ee ⟨_,.refl,q _ e (s2.trans (t8.trans (t9.trans (.new hr10)))) (LD he)⟩)⟩
def MC:Fq P w K mg base 5 a.bs (M9 a):=by
 refine fq G.bs.toDG rL (λr u=>⟨_,(pB (pQ 4 rL (qh (qh (qh (qh (qh (B0 (qP (qp pF)) pE) (B0 (qP (qp pF)) pE)) (B0 (qP (qp pF)) pE)) (B0 (qP (qp pF)) pE)) (qP (rB pF pF pF))) (B0 (qP (qp pF)) pE)))
 (pB (pQ 4 rL (pN v4 (pO (qR G) r G.i (rB U1 pE (pX qF Z' G.g qE (qp v4))))))
 (pB (pQ 5 rL (pT (qc pF (rB pF pF pF))))
 (pB (pU (pL u v4 pF)
 (pC (pQ 5 rL (pT (rZ pF pF))))
 pP)
 (pB (pU (pL u v4 pF)
 (pC (pQ 5 rL (pT (qp pF))))
 pP)
 (pB (pU (W3.b3 (xF (pL u v4 pF) (xF (pL u v4 pF) (wb (pL u v4 pF)))))
 (pC (pQ 5 rL (pT (qp pF))))
 pP)
 (pB (pU (pL u v4 pF)
 (pC (pH (pT (qp pF))))
 pP)
 (pB (pU (pL u (pO (qR G) r G.i (rB U1 pE pE)) pE)
 (pC (pH (pO (Qk G) r G.br (qc U1 (rB U2 U3 (pX qF Z' G.g qE (qp (pJ v0))))))))
 pP)
 (pB (pQ 6 rL rW)
 (pB (pU (pL u v4 pF)
 (pC (pQ 6 rL (pO (K4 G) r G.bq (qc v0 (rB U1 v4 v5)))))
 pP)
 (pB (pU (pL u v6 rW)
 (pB (pQ 7 rL (pN U2 (pO (qR G) r G.i (rB U1 pE (pX qF Z' G.g qE (qp U2))))))
 (pC (pQ 6 rL (pT (rB pF v7 (pN U3 (pO (qR G) r G.i (rB U1 pE (pX qF Z' G.g qE (qp U3))))))))))
 pP)
 (pC (pH v6))))))))))))),?_⟩)
 rintro ds M Q ⟨A,V,l,c,o,n,own,nm,rfl,rd,wf,ha,ho,hn,one,nne,ol,nl,q⟩
 have hz:=dQ;refine V8 (t:=Gd _ _) (λU M'=>qG M M'/\∃r,og M' r=ga (Il.map D.str)/\U=[ga (.ref A.b),ga (.int c),ga (.ref o),ga (.ref n),ga (.ref r),Fa,Fa,Fa]) (λnx h=>?_) ?_
 .have ZP:∀{N:Mp} {U:vp} (w0:Str) (m:Int) (nx:DK),qG M N->(0<=m/\m<=10)->(∀r N',qG M N'->qG N N'->og N' r=ga ((List.replicate m.toNat w0).map D.str)->nx (.ref r) N')->UK (UO (vw (L3.c3 (.str w0)) xA)) (L3.c3 (.int m)) U N nx:=λ{N U} w0 m nx sn hm X2=>by refine⟨pz Z',λr1 YD=>?_⟩;refine i' pK ⟨⟨by lia,by lia,by show 1<=1000;decide⟩,λr2 hr2=>?_⟩;have t:=(qG.new (c:=.lst [D.str w0]) YD).trans (qG.new (c:=.lst (List.replicate m.toNat [D.str w0]).flatten) hr2);refine X2 r2 _ (sn.trans t) t (pK.trans (eC ga ?_));rw[List.map_replicate];exact Ec _ _
  have Y3:∀{N:Mp} {p r:Uf} {xs ys:QQQ} (nx:DK),qG M N->og N p=ga (xs.map D.str)->og N r=ga (ys.map D.str)->xs.length+ys.length<=100->(∀r N',qG M N'->og N' r=ga ((xs++ys).map D.str)->nx (.ref r) N')->VW .Add (.ref p) (.ref r) N nx:=λ{N p r xs ys} nx sn hx hy hl X2=>by refine i' hx (i' hy ⟨by rw[cY,cY];lia,λr2 hr2=>?_⟩);refine X2 r2 _ (sn.trans (.new hr2)) (pK.trans (eC ga ?_));rw[dJ]
  dsimp only[Gd,o3];refine ZP "call" 5 _ .refl (by decide) λp1 N1 s1 _ l1=>ZP "answer" 5 _ s1 (by decide) λq2 N2 s2 t2 l2=>Y3 _ s2 (t2.lst l1) l2 (by decide) λp2 N3 s3 l3=>ZP "hang" 2 _ s3 (by decide) λq4 N4 s4 t4 l4=>Y3 _ s4 (t4.lst l3) l4 (by decide) λp5 N5 s5 l5=>ZP "hold" 3 _ s5 (by decide) λq6 N6 s6 t6 l6=>Y3 _ s6 (t6.lst l5) l6 (by decide) λp7 N7 s7 l7=>⟨pz Z',λr8 hr8=>?_⟩;have t8:=qG.new (c:=.lst ((["back","hand","join"]:QQQ).map D.str)) hr8;exact Y3 (ys:=["back","hand","join"]) _ (s7.trans t8) (t8.lst l7) pK (by decide) λp9 N9 s9 l9=>ZP "turn" 3 _ s9 (by decide) λq10 N10 s10 t10 l10=>Y3 _ s10 (t10.lst l9) l10 (by decide) λp11 N11 s11 l11=>h _ _ ⟨s11,p11,l11,Z'⟩
 rintro U M1 ⟨s1,r,lr,rfl⟩
 have s1n:=s1.lst hn;have s1o:=s1.lst ho;obtain⟨hp,w0,hw,ew⟩:=uQ D.str (show Il≠[]from fQ _ _) c 48271;refine i' lr ⟨c,_,_,Z',hp,i' lr (i' ew ?_)⟩;obtain⟨YJ,x1,hx1,ex1⟩:=uQ D.str one c 16807;obtain⟨X4,x2,hx2,ex2⟩:=uQ D.str nne c 39373;have ZN:=rd.sub s1;have lc:((A.cs.map λk=>D.ref k.p).length:Int)=(V.calls.length:Nat):=by rw[cY,rd.bd.len]
 clear lr hp ew;have hw:w0="call"\/w0="turn"\/SJ w0:=by unfold Il at hw;simp only[dC,dY,gu]at hw;unfold SJ;rcases hw with h|h|h|h|h|h|h|h|h|h|h|h|h|h|h|h|h|h|h|h|h<;>simp[h]
 have X0:∀M' (e:tV),qG M1 M'->e.nq->∃XZ,qG XZ M'/\Q e.d XZ:=λM' e s f=>⟨M',.refl,q M' e (s1.trans s) f⟩;rcases hw with rfl|rfl|hw
 .refine⟨pz Z',c,_,_,Z',by decide,qQ (c:=qz c 950706376 9==0) (λ_=>pD ZN.bd.at_ (i' Z' (i' ZN.bd.ca ?_))) (λ_=>?_)⟩
  .rw[lc];exact⟨c,o,n,own,nm,V.calls.length,Z',s1o,s1n,ol,nl,rd.k,X0⟩
  exact i' s1o ⟨c,_,_,Z',YJ,i' s1o (i' ex1 (i' s1n ⟨c,_,_,Z',X4,i' s1n (i' ex2 ⟨pz Z',X0 M1 (.call x1 x2) .refl trivial⟩)⟩))⟩
 .exact⟨pz Z',pz Z',X0 M1 .turn .refl trivial⟩
 have lany:JO [.int c,.ref o,.ref n,.int ((V.calls.length:Nat):Int)] M1 λd M'=>∃XZ,qG XZ M'/\Q d XZ:=⟨c,o,n,own,nm,V.calls.length,Z',s1o,s1n,ol,nl,rd.k,X0⟩;have hw':=hw;rcases hw with rfl|rfl|rfl|rfl|rfl|rfl
 all_goals
  first
   | refine⟨pz rfl,pz rfl,c,_,_,rfl,by decide,qQ (c:=qz c 950706376 9==0) (λ_=>pD ZN.bd.at_ (i' rfl (i' ZN.bd.ca ?_))) (λ_=>⟨A,V,l,c,_,rfl,ZN,wf,ha,hw',λM' s=>⟨?_,λe f=>?_⟩⟩)⟩
   | refine⟨pz rfl,c,_,_,rfl,by decide,qQ (c:=qz c 950706376 9==0) (λ_=>pD ZN.bd.at_ (i' rfl (i' ZN.bd.ca ?_))) (λ_=>⟨A,V,l,c,_,rfl,ZN,wf,ha,hw',λM' s=>⟨?_,λe f=>?_⟩⟩)⟩
  .rw[lc];exact lany
  .exact i' (s.lst s1o) ⟨c,_,_,Z',YJ,i' (s.lst s1o) (i' ex1 (i' (s.lst s1n) ⟨c,_,_,Z',X4,i' (s.lst s1n) (i' ex2 ⟨pz Z',X0 M' (.call x1 x2) s trivial⟩)⟩))⟩
  .cases e with
   | call y z=>exact X0 M' (.call y z) s f
   | num v y ns=>exact X0 M' (.num v y ns) s f
   | turn=>exact X0 M' .turn s f
   | sw b i=>exact X0 M' (.sw b i) s f
noncomputable def qZ(V:qu)(i:Nat):Str:=(V.calls[i]?).elim Str.empty (·.st)
def Ev.fit(V:qu):Ev->Prop
 | .leg v=>qZ V v.i="rings"/\v.f=v.y
 | .rings i _=>qZ V i="rings"
 | .waits i _=>qZ V i="rings"
 | .talks i _=>i<V.calls.length
 | .over i _=>i<V.calls.length
 | .held i _=>qZ V i="talks"
 | .merge i j _=>i≠j/\qZ V j="talks"
 | _=>True
def vI:qu->T0 Ev->Prop
 | _,[]=>True
 | V,e::r=>e.fit V/\vI (qa V e) r
theorem wz:∀{V:qu} {es fs:T0 Ev},vI V es->vI (qN V es) fs->vI V (es++fs)
 | _,[],_,_,h=>h
 | _,_::_,_,h,g=>⟨h.1,wz h.2 g⟩
def DO{V:qu}{i:Nat}{c:pG}(h:V.calls[i]?=ga c):qZ V i=c.st:=by unfold qZ;rw[h];rfl
def yg.st{V V':qu}(h:yg V V')(i:Nat):qZ V' i=qZ V i:=by
 have e:∀W:qu,qZ W i=((W.calls.map pG.core)[i]?).elim Str.empty (·.st):=λW=>by unfold qZ;rw[dE];cases W.calls[i]?<;>rfl
 rw[e,e,show V'.calls.map pG.core=V.calls.map pG.core from h]
theorem zp(i:Nat):∀(st:sZ) (q:Option Str) {V:qu},qZ V i="rings"->vI V (rh i q st)
 | [],_,V,_=>by unfold rh;trivial
 | (y,gs)::r,Fa,V,h=>⟨trivial,zp i r (ga y) h⟩
 | (y,gs)::r,ga u,V,h=>⟨⟨h,Z'⟩,trivial,zp i r (ga y) (((ux V _).core.st i).trans h)⟩
def Gk{V V1:qu}{k:pG}{e:vJ}(h:DP l V i e)(hk:V.calls[i]?=ga k)(s:tJ V V1)(hs:qZ V1 i="rings"):vI V1 (sO l V i e):=by
 have Y4:i<V1.calls.length:=by rw[s.len];exact(c9.mp hk).1
 cases e with
 | rings z ps=>
  show vI V1 ((if (l.mP z=="turns")=Db then _ else _)++[.rings i ps]);split
  .exact⟨trivial,hs,trivial⟩
  .exact⟨hs,trivial⟩
 | waits z=>exact⟨hs,trivial⟩
 | breaks z=>
  obtain⟨j,d,t1,t2,t3,t4⟩:=h;have hee:sO l V i (.breaks z)=[.merge i j (d.ms++[k.cr])]:=by unfold sO;dsimp only;rw[t1,hk];dsimp only;rw[t2];rfl
  rw[hee];refine⟨⟨t3,?_⟩,trivial⟩;rw[s.core.st,DO t2];obtain⟨hj,t,_⟩:=gT.mp t1;rw[df hj]at t2;rw[dw t2]at t;unfold pG.mS at t;rw[d6]at t;exact ZB t.1
 | engaged z=>exact⟨Y4,trivial⟩
 | barred=>exact⟨Y4,trivial⟩
 | ring ns=>exact⟨Y4,trivial⟩
def JJ{V:qu}{i:Nat}{k:pG}(ok:rj l)(wf:zB l V (ga i))(hk:V.calls[i]?=ga k):vI V (vO l V i):=by
 have YE:=wf.ok i k hk;have hs:qZ V i="rings":=(DO hk).trans (VM wf hk).1;unfold vO;rw[hk];dsimp only[Option.elim];obtain⟨z,hz⟩:∃z,k.way.getLast?=ga z:=by
  cases e:k.way.getLast? with
  | none=>exact absurd (gA.mp e) YE.wy.1
  | some z=>exact⟨z,Z'⟩
 rw[show k.way.getLastD Str.empty=z by rw[gR,hz];rfl];have ro:xw l V k.cr (l.nm.length+1) [] (uG l V k.cr z k.way.dropLast):=x9 ok _ _ _ _ (YE.wy.2 z (iq hz)) λx hx=>YE.wy.2 x (ir _ hx);have eo:=HP ok wf hk ro.e;generalize uG l V k.cr z k.way.dropLast=R at eo;obtain⟨e,st⟩:=R;have s1:=uJ i st Fa V;have h1:qZ (qN V (rh i Fa st)) i="rings":=(s1.core.st i).trans hs;refine wz (zp i st Fa hs) ?_;generalize qN V (rh i Fa st)=V1 at s1 h1;dsimp only;have h2:sT i st e=[]\/∃v,sT i st e=[.leg v]/\v.i=i/\v.f=v.y:=by
  unfold sT;cases e with
  | ring ns=>
   dsimp only;cases st.getLast? with
   | none=>exact .inl Z'
   | some s0=>exact .inr ⟨_,Z',Z',Z'⟩
  | _=>exact .inl Z'
 rcases h2 with h2|⟨v,h2,rfl,hv⟩
 .rw[h2];exact Gk eo hk s1 h1
 .rw[h2];exact⟨⟨h1,hv⟩,Gk eo hk (s1.trans (ux _ _)) (((ux V1 v).core.st _).trans h1)⟩
def Ld{V:qu}(ok:rj l)(wf:WF l V):vI V (tM l V i (yM l V i)):=by
 have d:=E4 (V:=V) (i:=i) ok;generalize yM l V i=fs at d;cases d with
 | no=>trivial
 | on c k r b x y n hc hs hk hw hy=>rw[yz hk];refine wz ⟨trivial,trivial,⟨?_,Z'⟩,trivial⟩ (JJ ok (Bs wf hc hs hy) (Bq hc));show qZ (xP _ i pG.nk) i=_;rw[DO (c:=c.nk) (by show(V.calls.modify i pG.nk)[i]?=_;rw[List.getElem?_modify_eq,hc];rfl)];exact hs
theorem DY(ok:rj l):∀(is:T0 Nat) {V:qu},WF l V->vI V (rG l is V)
 | [],V,_=>by unfold rG;trivial
 | i::r,V,wf=>by unfold rG;exact wz (Ld ok wf) (DY ok r (F5 ok wf))
def QX{V:qu}{e:tV}(ok:rj l)(wf:WF l V)(f:e.nq)(h:xJ l V e=Fa):vI V (wF l V e):=by
 cases e with
 | call y z=>obtain⟨h1,h2,h3,h4⟩:=BD h;obtain⟨k,hk⟩:=HU (V:=V) (y:=y) (z:=z);refine wz ⟨trivial,⟨?_,Z'⟩,trivial⟩ (JJ ok (Fb wf h1 h2 h3 h4) hk);exact DO (c:=xO y) (by show(V.calls++[xO y])[V.calls.length]?=_;simp)
 | turn=>exact⟨trivial,DY ok _ (Bo wf)⟩
 | sw b i=>exact⟨trivial,trivial⟩
 | num w x ns=>
  obtain⟨_,n⟩:=FL f h;cases n with
  | answer i c hi hc h1 h2 h3=>show vI V [Bb V "answer" x i.toNat];rw[xC hc];exact⟨(c9.mp hc).1,trivial⟩
  | hang i c hi hc h1=>
   have lt:=(c9.mp hc).1;show vI V (vh V x i.toNat);unfold vh;rw[hc];dsimp only[Option.elim];split
   .exact⟨lt,trivial⟩
   split
   .refine⟨trivial,?_⟩;split
    .exact⟨by show _<(V.calls.modify _ _).length;rw[fZ];exact lt,trivial⟩
    .trivial
   split
   .exact⟨trivial,trivial⟩
   .exact⟨lt,trivial⟩
  | hold i c hi hc h1=>show vI V [Bb V "hold" x i.toNat];rw[xC hc];exact⟨(DO hc).trans (wU.mp h1).1,trivial⟩
  | back i c hi hc h1 h2=>show vI V [Bb V "back" x i.toNat];rw[xC hc];exact⟨(c9.mp hc).1,trivial⟩
  | two _ i j c d hi hj hw hc hd h1 h2=>show vI V [Ej V w x i.toNat j.toNat];rw[EL hc hd];exact⟨⟨(FR (w:=w) wf hc hd h1 h2).1,(DO hd).trans (wU.mp h2).1⟩,trivial⟩
structure Bl where
 rs:List (Str×Str×Str)
 ow:List Nat
 un:List Int
 ct:List (qW×D)
noncomputable def Ud(kvs:T0 (qW×D))(i:Nat):D:=(tD kvs (.inl (i:Nat))).getD (.bl pc)
def GP(kvs:T0 (qW×D))(i:Nat):Bool:=match Ud kvs i with
 | .bl b=>b
 | _=>pc
noncomputable def Al(kvs:T0 (qW×D))(i:Nat)(b:Bool):T0 (qW×D):=wW kvs (.inl (i:Nat)) (.bl b)
def yf(kvs:T0 (qW×D))(o:Nat)(u:Int):Int:=if GP kvs o=Db then u+1 else u
def B5(B:Bl):Ev->Bl
 | .leg v=>⟨B.rs++[(v.f,v.g,v.y)],B.ow++[v.i],B.un++[0],B.ct⟩
 | .talks i _=>{B with ct:=Al B.ct i Db}
 | .over i _=>{B with ct:=Al B.ct i pc}
 | .merge i j _=>{B with ow:=B.ow.map λo=>if o=i then j else o}
 | .turn=>{B with un:=List.zipWith (yf B.ct) B.ow B.un}
 | _=>B
def sm(es:T0 Ev):Bl:=es.foldl B5 ⟨[],[],[],[]⟩
def LK(k k':qW)(d:D)(kvs:T0 (qW×D)):tD (wW kvs k d) k'=if k'=k then ga d else tD kvs k':=by
 have m:∀kvs:T0 (qW×D),tD (kvs.map λkv=>if kv.1=k then(kv.1,d)else kv) k'=if k'=k then(tD kvs k).map (λ_=>d)else tD kvs k':=λkvs=>by
  induction kvs with
  | nil=>unfold tD;split<;>rfl
  | cons x r ih=>
   unfold tD at ih ⊢;rw[d4,fh,fh,fh];by_cases e:x.1=k
   .rw[dh e,e,dU (Z':k=k)];by_cases e2:k=k'
    .rw[dh e2.symm,dU e2];rfl
    .rw[dg λz:k'=k=>e2 z.symm]at ih ⊢;rw[eF e2];exact ih
   .rw[dg e,eF e];by_cases e2:x.1=k'
    .rw[dU e2,dg λz=>e (e2.trans z)]
    .rw[eF e2];exact ih
 unfold wW;split
 .rename_i h;rw[m];obtain⟨x,hx,ex⟩:=fP.mp h;split
  .cases e:tD kvs k with
   | none=>unfold tD at e;rw[Option.map_eq_none_iff,gx]at e;exact absurd ex (e x hx)
   | some _=>rfl
  .rfl
 .rename_i h;unfold tD;rw[lC];by_cases e:k'=k
  .rw[dh e,e];rw[show kvs.find? (λkv=>decide (kv.1=k))=Fa from gx.mpr λx hx ex=>h (fP.mpr ⟨x,hx,ex⟩)];simp
  .rw[dg e,fh,eF (λz=>e z.symm)];simp
def Iu(kvs:T0 (qW×D))(i:Nat)(b:Bool)(k:Nat):Ud (Al kvs i b) k=if k=i then .bl b else Ud kvs k:=by
 unfold Ud Al;rw[LK];by_cases e:k=i
 .rw[dh e,e,dh Z'];rfl
 .rw[dg e,dg λz=>e (by injection z with z;lia)]
noncomputable def Jt(s:Str):Bool:=s=="talks"||s=="held"
structure AZ(V:qu)(B:Bl):Prop where
 ow:B.ow=V.mQ.map (·.i)
 rs:B.rs=V.mQ.map λv=>(v.f,v.g,v.y)
 un:B.un.length=V.mQ.length
 ct:∀i,i∈B.ow\/qZ V i≠"over"->GP B.ct i=Jt (qZ V i)
 fy:∀v∈V.mQ,v.f=v.y
 ix:∀v∈V.mQ,qZ V v.i≠Str.empty
def u9{V V':qu}{i:Nat}{f:pG->pG}(h:V'.calls=V.calls.modify i f)(k:Nat):qZ V' k=if k=i then(V.calls[i]?).elim Str.empty (λc=>(f c).st)else qZ V k:=by
 unfold qZ;rw[h,gS];by_cases e:i=k
 .subst e;rw[dh Z'];cases V.calls[i]?<;>simp
 .rw[dg (λz=>e z.symm)];simp[e]
def zJ{V V':qu}(h:AZ V B)(l:V'.mQ=V.mQ)(s:∀k,qZ V' k=qZ V k):AZ V' B:=⟨by rw[l];exact h.ow,by rw[l];exact h.rs,by rw[l];exact h.un,λk hk=>by rw[s]at hk ⊢;exact h.ct k hk,by rw[l];exact h.fy,λv hv=>by rw[s];exact h.ix v (l ▸ hv)⟩
def HZ{V V':qu}{i:Nat}(h:AZ V B)(l:V'.mQ=V.mQ)(s:∀k,k≠i->qZ V' k=qZ V k)(c:T0 (qW×D))(hc:∀k,k≠i->GP c k=GP B.ct k)(hi:GP c i=Jt (qZ V' i))(ne:qZ V' i≠Str.empty):AZ V' {B with ct:=c}:=⟨by rw[l];exact h.ow,by rw[l];exact h.rs,by rw[l];exact h.un,λk hk=>by
 by_cases e:k=i
 .rw[e];exact hi
 .rw[s k e]at hk ⊢;exact(hc k e).trans (h.ct k hk),by rw[l];exact h.fy,λv hv=>by
 by_cases e:v.i=i
 .rw[e];exact ne
 .rw[s _ e];exact h.ix v (l ▸ hv)⟩
def Rq{i k:Nat}{b:Bool}(h:k≠i):GP (Al kvs i b) k=GP kvs k:=by unfold GP;rw[Iu,dg h]
def Ro{b:Bool}:GP (Al kvs i b) i=b:=by unfold GP;rw[Iu,dh Z']
def Pz{V:qu}{e:Ev}(h:AZ V B)(f:e.fit V):AZ (qa V e) (B5 B e):=by
 have one:∀{i:Nat} {g:pG->pG} {V':qu},V'.calls=V.calls.modify i g->∀k,k≠i->qZ V' k=qZ V k:=λhv k hk=>by rw[u9 hv,dg hk]
 have same:∀{i:Nat} {g:pG->pG} {V':qu},V'.calls=V.calls.modify i g->(∀c,(g c).st=c.st)->∀k,qZ V' k=qZ V k:=λ{i _ _} hv hg k=>by
  rw[u9 hv];split
  .rename_i z;rw[z];unfold qZ;cases V.calls[i]? with
   | none=>rfl
   | some c=>exact hg c
  .rfl
 have YZ:∀{i:Nat} {g:pG->pG} {s:Str} {V':qu},V'.calls=V.calls.modify i g->(∀c,(g c).st=s)->qZ V i≠"over"->qZ V i≠Str.empty->Jt (qZ V i)=Jt s->V'.mQ=V.mQ->s≠Str.empty->AZ V' B:=λ{i g s V'} hv hg h1 h2 h3 hl hs=>HZ (c:=B.ct) h hl (one hv) (λ_ _=>rfl) (by
  rw[u9 hv,dh Z'];rw[h.ct i (.inr h1),h3];unfold qZ at h2;cases e:V.calls[i]? with
  | none=>rw[e]at h2;exact absurd Z' h2
  | some c=>exact eC Jt (hg c).symm) (by
  rw[u9 hv,dh Z'];unfold qZ at h2;cases e:V.calls[i]? with
  | none=>rw[e]at h2;exact absurd Z' h2
  | some c=>exact λz=>hs ((hg c).symm.trans z))
 have lt:∀{i:Nat} {g:pG->pG} {s:Str} {V':qu},V'.calls=V.calls.modify i g->(∀c,(g c).st=s)->i<V.calls.length->qZ V' i=s:=λ{i g s V'} hv hg hi=>by rw[u9 hv,dh Z',df hi];exact hg _
 cases e with
 | new n x=>
  have e:∀k,qZ (qa V (.new n x)) k=if k=V.calls.length then("rings":Str)else qZ V k:=λk=>by
   show((V.calls++[xO x])[k]?).elim Str.empty (·.st)=_;rw[jb];split
   .rw[dg (by lia)];rfl
   .split
    .rename_i z;rw[z,fY];rfl
    .rename_i z1 z2;unfold qZ;rw[fk (by simp;lia),fk (by lia)]
  refine⟨h.ow,h.rs,h.un,λk hk=>?_,h.fy,λv hv=>by rw[e];split;decide;exact h.ix v hv⟩;rw[e]at hk ⊢;by_cases z:k=V.calls.length
  .rw[dh z];have:qZ V k=Str.empty:=by unfold qZ;rw[fk (by lia)];rfl
   refine(h.ct k (.inr (by rw[this];decide))).trans ?_;rw[this];decide+kernel
  .rw[dg z]at hk ⊢;exact h.ct k hk
 | leg v=>
  have s:=(ux V v).core.st;refine⟨?_,?_,?_,λk hk=>?_,λu hu=>?_,λu hu=>?_⟩
  .show B.ow++[v.i]=(V.mQ++[v]).map _;rw[h.ow,dJ];rfl
  .show B.rs++[_]=(V.mQ++[v]).map _;rw[h.rs,dJ];rfl
  .show(B.un++[0]).length=(V.mQ++[v]).length;rw[de,de,h.un];rfl
  .rw[s]at hk ⊢;refine h.ct k ?_;rcases hk with hk|hk
   .rcases dX.mp hk with z|z
    .exact .inl z
    .rw[dz.mp z,f.1];exact .inr (by decide)
   .exact .inr hk
  .rcases dX.mp hu with z|z
   .exact h.fy u z
   .rw[dz.mp z];exact f.2
  .rw[s];rcases dX.mp hu with z|z
   .exact h.ix u z
   .rw[dz.mp z,f.1];decide
 | asks i z ns=>exact zJ h Z' λ_=>rfl
 | next z n=>exact zJ h Z' λ_=>rfl
 | sw b i=>exact zJ h Z' λ_=>rfl
 | turn=>have s:=(As V).st;refine⟨h.ow,h.rs,?_,λk hk=>by rw[s]at hk ⊢;exact h.ct k hk,h.fy,λv hv=>by rw[s];exact h.ix v hv⟩;show(List.zipWith _ B.ow B.un).length=V.mQ.length;rw[gj,h.un,h.ow,cY,gI]
 | quiet i=>exact zJ h Z' (same (i:=i) (g:=pG.nk) Z' λ_=>rfl)
 | leaves i x=>exact zJ h Z' (same (i:=i) (g:=(·.drop x)) Z' λ_=>rfl)
 | rings i ps=>exact YZ (i:=i) (g:=(·.ring ps)) (s:="rings") Z' (λ_=>rfl) (by rw[f];decide) (by rw[f];decide) (by rw[f]) Z' (by decide)
 | waits i x=>exact YZ (i:=i) (g:=(·.wait x)) (s:="waits") Z' (λ_=>rfl) (by rw[f];decide) (by rw[f];decide) (by rw[f];decide+kernel) Z' (by decide)
 | held i x=>exact YZ (i:=i) (g:=(·.hold x)) (s:="held") Z' (λ_=>rfl) (by rw[f];decide) (by rw[f];decide) (by rw[f];decide+kernel) Z' (by decide)
 | talks i ms=>exact HZ (V':=qa V (.talks i ms)) (c:=Al B.ct i Db) h Z' (one (i:=i) (g:=(·.ni ms)) Z') (λ_ hk=>Rq hk) (by rw[Ro,lt (V':=qa V (.talks i ms)) (i:=i) (g:=(·.ni ms)) (s:="talks") Z' (λ_=>rfl) f];decide+kernel) (by rw[lt (V':=qa V (.talks i ms)) (i:=i) (g:=(·.ni ms)) (s:="talks") Z' (λ_=>rfl) f];decide)
 | over i w=>exact HZ (V':=qa V (.over i w)) (c:=Al B.ct i pc) h Z' (one (i:=i) (g:=(·.over w)) Z') (λ_ hk=>Rq hk) (by rw[Ro,lt (V':=qa V (.over i w)) (i:=i) (g:=(·.over w)) (s:="over") Z' (λ_=>rfl) f];decide+kernel) (by rw[lt (V':=qa V (.over i w)) (i:=i) (g:=(·.over w)) (s:="over") Z' (λ_=>rfl) f];decide)
 | merge i j ms=>
  have s:∀k,qZ (qa V (.merge i j ms)) k=if k=i then(V.calls[i]?).elim Str.empty (λ_=>"over")else qZ V k:=λk=>by
   have e1:=u9 (V:=V) (V':={V with calls:=V.calls.modify i (·.over "merged")}) (i:=i) Z' k;have e2:=u9 (V:={V with calls:=V.calls.modify i (·.over "merged")}) (V':=qa V (.merge i j ms)) (i:=j) (f:=(·.mem ms)) Z' k;rw[e2];split
   .rename_i z;rw[z,dg f.1.symm];show((V.calls.modify i _)[j]?).elim Str.empty (λc=>c.st)=_;rw[gS];simp only[f.1,lN];unfold qZ;cases V.calls[j]?<;>rfl
   .exact e1
  refine⟨?_,?_,?_,λk hk=>?_,λu hu=>?_,λu hu=>?_⟩
  .show B.ow.map _=(V.mQ.map (rM.to i j)).map _;rw[h.ow,eh,eh];refine fV λv _=>?_;show(if v.i=i then j else v.i)=(rM.to i j v).i;unfold rM.to;split<;>rfl
  .show B.rs=(V.mQ.map (rM.to i j)).map _;rw[h.rs,eh];refine fV λv _=>?_;show _=((rM.to i j v).f,(rM.to i j v).g,(rM.to i j v).y);unfold rM.to;split<;>rfl
  .exact h.un.trans (cY ..).symm
  .rw[s]at hk ⊢;by_cases z:k=i
   .subst z;rw[dh Z']at hk ⊢;cases e:V.calls[k]? with
    | none=>
     have:qZ V k=Str.empty:=by unfold qZ;rw[e];rfl
     refine(h.ct k (.inr (by rw[this];decide))).trans ?_;rw[this];rfl
    | some c=>
     rw[e]at hk;rcases hk with hk|hk
     .obtain⟨o,_,ho⟩:=dF.mp hk;split at ho
      .exact absurd ho.symm f.1
      .rename_i n;exact absurd ho n
     .exact absurd Z' hk
   .rw[dg z]at hk ⊢;refine h.ct k ?_;rcases hk with hk|hk
    .obtain⟨o,ho,e⟩:=dF.mp hk;split at e
     .rw[<-e,f.2];exact .inr (by decide)
     .rw[<-e];exact .inl ho
    .exact .inr hk
  .obtain⟨v,hv,rfl⟩:=dF.mp hu;unfold rM.to;split
   .exact h.fy v hv
   .exact h.fy v hv
  .obtain⟨v,hv,rfl⟩:=dF.mp hu;rw[s];unfold rM.to;split
   .show(if j=i then _ else qZ V j)≠_;rw[dg f.1.symm,f.2];decide
   .exact h.ix v hv
theorem Lw:∀{es:T0 Ev} {V:qu} {B:Bl},AZ V B->vI V es->AZ (qN V es) (es.foldl B5 B)
 | [],_,_,h,_=>h
 | e::r,_,_,h,f=>Lw (es:=r) (Pz h f.1) f.2
noncomputable def JW(gs:T0 Nat):Ev->T0 Nat
 | .talks i _=>gs++[i]
 | .held i _=>gs++[i]
 | .rings i _=>gs.filter λk=>!(k==i)
 | .waits i _=>gs.filter λk=>!(k==i)
 | .over i _=>gs.filter λk=>!(k==i)
 | .merge i _ _=>gs.filter λk=>!(k==i)
 | _=>gs
def BJ(es:T0 Ev):T0 Nat:=es.foldl JW []
def GI(V:qu)(gs:T0 Nat):Prop:=∀k,k∈gs↔Jt (qZ V k)=Db
def Qi{V:qu}{e:Ev}(h:GI V gs)(f:e.fit V):GI (qa V e) (JW gs e):=by
 have one:∀{i:Nat} {g:pG->pG} {V':qu},V'.calls=V.calls.modify i g->∀k,k≠i->qZ V' k=qZ V k:=λhv k hk=>by rw[u9 hv,dg hk]
 have same:∀{i:Nat} {g:pG->pG} {V':qu},V'.calls=V.calls.modify i g->(∀c,(g c).st=c.st)->∀k,qZ V' k=qZ V k:=λ{i _ _} hv hg k=>by
  rw[u9 hv];split
  .rename_i z;rw[z];unfold qZ;cases V.calls[i]? with
   | none=>rfl
   | some c=>exact hg c
  .rfl
 have keep:∀{V':qu},(∀k,qZ V' k=qZ V k)->GI V' gs:=λs k=>by rw[s];exact h k
 have off:∀{i:Nat} {g:pG->pG} {s:Str} {V':qu},V'.calls=V.calls.modify i g->(∀c,(g c).st=s)->Jt s=pc->GI V' (gs.filter λk=>!(k==i)):=λ{i g s V'} hv hg hs k=>by
  rw[fH];by_cases z:k=i
  .subst z;rw[u9 hv,dh Z'];constructor
   .intro x;have x2:=x.2;rw[eW]at x2;cases x2
   .intro x;cases e:V.calls[k]? with
    | none=>rw[e]at x;have x:Jt Str.empty=Db:=x;exact absurd x (by decide+kernel)
    | some c=>rw[e]at x;have x:Jt (g c).st=Db:=x;rw[hg,hs]at x;cases x
  .rw[one hv k z,h k];exact⟨λx=>x.1,λx=>⟨x,by rw[jc z];rfl⟩⟩
 have on:∀{i:Nat} {g:pG->pG} {s:Str} {V':qu},V'.calls=V.calls.modify i g->(∀c,(g c).st=s)->Jt s=Db->i<V.calls.length->GI V' (gs++[i]):=λ{i g s V'} hv hg hs hi k=>by
  rw[dX,dz];by_cases z:k=i
  .subst z;rw[u9 hv,dh Z',df hi];show _↔Jt (g _).st=Db;rw[hg,hs];exact⟨λ_=>rfl,λ_=>.inr Z'⟩
  .rw[one hv k z,h k];exact⟨λx=>x.elim id λy=>absurd y z,.inl⟩
 cases e with
 | new n x=>
  intro k;have e:qZ (qa V (.new n x)) k=if k=V.calls.length then("rings":Str)else qZ V k:=by
   show((V.calls++[xO x])[k]?).elim Str.empty (·.st)=_;rw[jb];split
   .rw[dg (by lia)];rfl
   .split
    .rename_i z;rw[z,fY];rfl
    .rename_i z1 z2;unfold qZ;rw[fk (by simp;lia),fk (by lia)]
  rw[e];show k∈gs↔_;rw[h k];split
  .rename_i z;have:qZ V k=Str.empty:=by unfold qZ;rw[fk (by lia)];rfl
   rw[this];exact⟨λx=>absurd x (by decide+kernel),λx=>absurd x (by decide+kernel)⟩
  .exact⟨id,id⟩
 | leg v=>exact keep (ux V v).core.st
 | asks i z ns=>exact keep λ_=>rfl
 | next z n=>exact keep λ_=>rfl
 | sw b i=>exact keep λ_=>rfl
 | turn=>exact keep (As V).st
 | quiet i=>exact keep (same (i:=i) (g:=pG.nk) Z' λ_=>rfl)
 | leaves i x=>exact keep (same (i:=i) (g:=(·.drop x)) Z' λ_=>rfl)
 | rings i ps=>exact off (i:=i) (g:=(·.ring ps)) (s:="rings") Z' (λ_=>rfl) (by decide+kernel)
 | waits i x=>exact off (i:=i) (g:=(·.wait x)) (s:="waits") Z' (λ_=>rfl) (by decide+kernel)
 | over i w=>exact off (i:=i) (g:=(·.over w)) (s:="over") Z' (λ_=>rfl) (by decide+kernel)
 | talks i ms=>exact on (i:=i) (g:=(·.ni ms)) (s:="talks") Z' (λ_=>rfl) (by decide+kernel) f
 | held i x=>
  refine on (i:=i) (g:=(·.hold x)) (s:="held") Z' (λ_=>rfl) (by decide+kernel) ?_;cases e:V.calls[i]? with
  | none=>have f:qZ V i="talks":=f;unfold qZ at f;rw[e]at f;exact absurd f (by decide)
  | some c=>exact(c9.mp e).1
 | merge i j ms=>
  have g:=off (V':={V with calls:=V.calls.modify i (·.over "merged")}) (i:=i) (g:=(·.over "merged")) (s:="over") Z' (λ_=>rfl) (by decide+kernel);intro k;show k∈gs.filter _↔_;rw[g k,u9 (V:={V with calls:=V.calls.modify i (·.over "merged")}) (V':=qa V (.merge i j ms)) (i:=j) (f:=(·.mem ms)) Z' k];split
  .rename_i z;rw[z];have:∀o:Option pG,Jt (o.elim Str.empty (·.st))=Db↔Jt (o.elim Str.empty λc=>(c.mem ms).st)=Db:=λo=>by cases o<;>exact⟨id,id⟩
   exact this _
  .exact⟨id,id⟩
theorem MQ:∀{es:T0 Ev} {V:qu} {gs:T0 Nat},GI V gs->vI V es->GI (qN V es) (es.foldl JW gs)
 | [],_,_,h,_=>h
 | e::r,_,_,h,f=>MQ (es:=r) (Qi h f.1) f.2
theorem Eu:∀{V:qu} {es:T0 Ev} (k:Nat),vI V es->vI V (es.take k)
 | _,_,0,_=>trivial
 | _,[],_+1,_=>trivial
 | _,_::_,k+1,h=>⟨h.1,Eu k h.2⟩
def Fi(V:qu):Prop:=∃W,AZ W (sm [])/\(∀k,Jt (qZ W k)=pc)/\vI W V.log/\V=qN W V.log
def Fi.run{V:qu}{es:T0 Ev}(h:Fi V)(f:vI V es):Fi (qN V es):=by obtain⟨W,a,b,c,d⟩:=h;exact⟨W,a,b,by rw[Bu];exact wz c (by rw[<-d];exact f),by rw[Bu,rJ,<-d]⟩
def Fi.agree{V:qu}(h:Fi V)(k:Nat){o:Nat}(ho:o∈(sm (V.log.take k)).ow):GP (sm (V.log.take k)).ct o=(BJ (V.log.take k)).any (·==o):=by obtain⟨W,a,b,c,_⟩:=h;have c:=Eu k c;have g:GI _ (BJ (V.log.take k)):=MQ (gs:=[]) (λk=>⟨(λx=>by cases x),λx=>by rw[b]at x;cases x⟩) c;have e:AZ _ (sm (V.log.take k)):=Lw a c;rw[e.ct o (.inl ho),fW,<-g o,fP];exact⟨λx=>⟨o,x,eW o⟩,λ⟨x,hx,e⟩=>by rw[<-ZB e];exact hx⟩
def Nz(a:Ad):rq:=λds M Q=>Br λr1 r2 r3 (l:pM)=>ds=[.tup [.ref r1,.ref r2,.ref r3]]/\og M r1=ga (l.mL.map ra)/\og M r2=ga (l.groups.map rk)/\og M r3=ga (l.mH.map vA)/\rj l/\∀p M',qG M M'->sY a M' p l->Q (.ref p) M'
def Mm:rq:=λds M Q=>∃ns,ds=[.rl (List.map D.int ns)]/\Q (.int (qz (cell ns 0) 1664525 24)) M
def Mn(a:Ad):rq:=λds M Q=>F9 λA V l ns k=>ds=[.ref A.b,.rl (List.map D.int ns),.int k]/\Rd a M A V l/\WF l V/\(∀k∈V.calls,k.at_.length<=100)/\(0<=k/\k<=1000)/\∀M' (e:tV),qG M M'->e.nq->Q e.d M'
structure zI(a:Ad)(M0 M:Mp)(A:uj)(V:qu)(l:pM)(c n:Nat):Prop where
 cu:uO a M0 M A.b A V l c n
 wf:WF l V
 fi:Fi V
 ps:V.ps.length<=3
def Kd(a:Ad):rq:=λds M Q=>F9 λns r1 r2 r3 (l:pM)=>ds=[.rl (List.map D.int ns),.tup [.ref r1,.ref r2,.ref r3]]/\og M r1=ga (l.mL.map ra)/\og M r2=ga (l.groups.map rk)/\og M r3=ga (l.mH.map vA)/\rj l/\∀M0 M' A V,qG M M0->zI a M0 M' A V l 64 200000->Q (.ref A.b) M'
variable {c' n':Nat}{e:tV}
section
variable {c:Nat}
def zI.after(g:zI a M0 M A V l c n)(f:e.nq)(hr:xJ l V e=Fa)(cu:uO a M0 M' A.b A' (qN V (wF l V e)) l c' n'):zI a M0 M' A' (qN V (wF l V e)) l c' n':=by
 have cu':uO a M0 M' A'.b A' (qN V (wF l V e)) l c' n':=by rw[cu.b];exact cu
 refine⟨cu',Ul g.cu.ok g.wf f hr,?_,?_⟩
 .exact g.fi.run (QX g.cu.ok g.wf f hr)
 .rw[UC g.cu.ok g.wf f hr];exact g.ps
def zI.sub(g:zI a M0 M A V l c n)(s:qG M M'):zI a M0 M' A V l c n:=⟨g.cu.sub s,g.wf,g.fi,g.ps⟩
def zI.mono(g:zI a M0 M A V l c n)(hc:c<=c')(hn:n<=n'):zI a M0 M A V l c' n':=⟨g.cu.mono hc hn,g.wf,g.fi,g.ps⟩
def WA{p:Uf}{F:QXQ}:AZ (V0 p h l F) (sm []):=⟨Z',Z',Z',λ_ _=>rfl,(λv hv=>by cases hv),λv hv=>by cases hv⟩
def zI.start{p b:Uf}(ok:rj l)(pl:sY a M0 p l)(hb:M0 b=Fa)(eb:A.b=b)(kp:qT b (pI M0 b (.ins a.c [])) M)(fr:∀x∈A.foot,x=b\/pI M0 b (.ins a.c []) x=Fa)(bd:pS a M A (V0 p h l [])):zI a M0 M A (V0 p h l []) l 1 3:=by
 have t:=qG.new (c:=.ins a.c []) hb;subst eb;refine⟨⟨bd,pl,λx c e=>kp x c (BX e hb) (t x c e),λx hx=>?_,Z',⟨e9 _,e9 _,e9 _,Er ok,λk hk=>by cases hk⟩,ok,cY ..⟩,W2 ok,⟨_,WA,λ_=>rfl,trivial,Z'⟩,Er ok⟩;rcases fr x hx with z|z
 .rw[z];exact hb
 .exact t.none z
end
def Kg{pre post:T0 D}{d:D}(e:pre++d::post=(List.range n).map λi=>D.int (1+(i:Nat))):d=.int (1+(pre.length:Nat))/\pre.length<n:=by
 have h:((List.range n).map λi=>D.int (1+(i:Nat)))[pre.length]?=ga d:=by rw[<-e];simp
 have hl:pre.length<n:=by
  have:=(c9.mp h).1
  simpa using this
 rw[dE,jf hl]at h;exact⟨(dw h).symm,hl⟩
def Mv:Fq P w K mg base 9 a.bt (Nz a):=by
 refine fq G.bt.toDG GS (λr u=>⟨_,(pC (pH (vq (Qt G) r G.h G.cc G.ak.toDG (rB (qw sJ Z' G.r sD (qp (pN v0 pE))) (qw sJ Z' G.r sD (qp (pN v0 pE))) (qw sJ Z' G.r sD (qp (pN v0 pE))))))),?_⟩)
 rintro ds M Q ⟨r1,r2,r3,l,rfl,h1,h2,h3,ok,q⟩
 refine i' h1 λp1 YJ=>?_;obtain⟨M1,e0,t1,l1⟩:=xI (ds:=l.mL.map ra) YJ;rw[<-e0];refine i' (t1.lst h2) λp2 X4=>?_;obtain⟨M2,e0,t2,l2⟩:=xI (ds:=l.groups.map rk) X4;rw[<-e0];refine i' ((t1.trans t2).lst h3) λp3 Zy=>?_;obtain⟨M3,e0,t3,l3⟩:=xI (ds:=l.mH.map vA) Zy;rw[<-e0];refine λp hp=>?_;have t4:=qG.new (c:=.ins a.h []) hp;refine⟨p,p1,p2,p3,l,Z',pW,(t2.trans (t3.trans t4)).lst l1,(t3.trans t4).lst l2,t4.lst l3,ok,λM5 kp pa _=>⟨Z',_,.refl,q p M5 ?_ pa⟩⟩;exact t1.trans (t2.trans (t3.trans λx c e=>kp x c (λz=>by rw[z,hp]at e;cases e) (t4 x c e)))
def NU:Fq P w K mg base 2 a.bu Mm:=by
 refine fq G.bu.toDG Ha (λr u=>⟨_,(pC (pH (pO (qR G) r G.i (rB (pO (Jx G) r G.J (rZ v0 pE)) pE pE)))),?_⟩)
 rintro ds M Q ⟨ns,rfl,q⟩
 exact⟨ns,0,Z',_,_,_,Z',by decide,M,.refl,q⟩
def NX:Fq P w K mg base 6 a.bw (Mn a):=by
 refine fq G.bw.toDG Gy (λr u=>⟨_,(pC (pH (pO (MC G) r G.bs (qc v0 (rB (qh (pO (Jx G) r G.J (rZ U1 U2)) (qh (qh pE U2) U2)) (vN (pJ v0) G.h.toCls G.L (sG G) r) (vN (pJ v0) G.h.toCls G.al (yQ G) r)))))),?_⟩)
 rintro ds M Q ⟨A,V,l,ns,k,rfl,rd,wf,ha,hk,q⟩
 obtain⟨ph,gr,ws,Zr,pr,gd,rs,i1,_⟩:=rd.pl;have p1:=rd.ok.p1;have p8:=rd.ok.p8;have g3:=rd.ok.g3;have pl:l.pn.length=l.mL.length:=cY ..;have nl:l.nm.length=l.mL.length+l.groups.length:=by unfold pM.nm pM.pn pM.gn;rw[de,cY,cY]
 refine⟨ns,k,Z',?_⟩;refine⟨.inl ⟨by decide,by decide⟩,.inr ⟨by lia,by lia⟩,?_⟩;refine pD rd.bd.at_ (i' Z' (pD i1 ⟨Z',_,⟨Z',Z'⟩,V.p,l,Z',rd.pl,by lia,λq1 YQ=>?_⟩));obtain⟨M1,e0,t1,l1⟩:=xI (ds:=l.pn.map D.str) YQ;rw[<-e0];show Ak (M1 A.b) _;refine pD (t1 _ _ rd.bd.at_) (i' Z' (pD (t1 _ _ i1) ⟨Z',_,⟨Z',Z'⟩,V.p,l,Z',rd.pl.sub t1,by lia,by lia,λq2 ZM=>?_⟩));have t2:=qG.new (c:=.lst (l.nm.map D.str)) ZM;exact⟨A,V,l,_,q1,q2,l.pn,l.nm,Z',rd.sub (t1.trans t2),wf,ha,t2.lst l1,pK,λz=>by rw[z]at pl;simp only[dN]at pl;lia,λz=>by rw[z]at nl;simp only[dN]at nl;lia,by lia,by lia,λM' e s f=>⟨M',.refl,q M' e (t1.trans (t2.trans s)) f⟩⟩
def KH:Fq P w K mg base 16 a.bx (Kd a):=by
 refine fq G.bx.toDG wg (λr u=>⟨_,(pB (pQ 2 wg (vq (MN G) r G.c G.cb G.aj.toDG (rZ (pO (Mv G) r G.bt (qp U1)) (pO (NU G) r G.bu (qp v0)))))
 (pB (tS eS Z' (KQ Z' G.Z (rZ pE (pX (NB Z') Z' G.b3 Ow (rZ (pX qF Z' G.g qE (qp v0)) pE)))) (rY 3 wg)
 (pC (pR (pO (Qb G) r G.bv (rZ U2 (pO (NX G) r G.bw (rB U2 v0 U3)))))))
 (pC (pH U2)))),?_⟩)
 rintro ds M Q ⟨ns,r1,r2,r3,l,rfl,h1,h2,h3,ok,q⟩
 have hz:=dQ;refine⟨r1,r2,r3,l,Z',h1,h2,h3,ok,λp M0 s0 pa=>⟨ns,Z',λb hb=>?_⟩⟩;have t1:=qG.new (c:=.ins a.c []) hb;refine⟨b,p,_,[],l,Z',pW,pa.sub t1,ok,λz=>?_,(λx hx=>by cases hx),λM1 A eb kp fr bd=>⟨Z',?_⟩⟩
 .obtain⟨ph,gr,ws,Zr,pr,gd,rs,i1,_⟩:=pa;rw[z,hb]at i1;cases i1
 have pj:=zI.start ok pa hb eb kp fr bd;refine⟨Z',?_⟩;generalize hN:(if (63:Int)<((ns.map D.int).length:Nat)then(63:Int)else((ns.map D.int).length:Nat))=N;have hN0:0<=N/\N<=63:=by rw[<-hN];split<;>lia
 subst eb;refine⟨⟨by decide,by decide,by lia,by lia⟩,?_⟩;refine uL ((List.range (N - 1).toNat).map λn=>D.int (1+(n:Nat))) (λpre U M'=>(∃A' V',A'.b=A.b/\zI a M0 M' A' V' l (1+pre.length) (3+2200*pre.length))/\∃y,U=[ga (.rl (ns.map D.int)),ga (.tup [.ref r1,.ref r2,.ref r3]),ga (.ref A.b),y]) (λ_ _ _ _=>trivial) _ [] _ _ Z' ⟨⟨A,_,Z',pj⟩,Fa,Z'⟩ ?_ ?_
 .rintro pre d post e U M' ⟨⟨A',V',eb',g⟩,y,rfl⟩ nx X2
  obtain⟨rfl,Yc⟩:=Kg e;have Yc:pre.length<62:=by lia
  rw[de,dI]at X2;rw[<-eb']at X2 ⊢;refine⟨A',V',l,ns,_,Z',g.cu.rd (by lia) g.wf,g.wf,λk hk=>(g.cu.sz.cs k hk).2.1,⟨by lia,by lia⟩,λM2 e s f=>?_⟩;refine⟨M0,A'.b,A',V',l,_,_,e,Z',g.cu.sub s,by lia,by lia,g.wf,f,λhr M3 A3 r c3 YK ZZ=>X2 _ _ ⟨⟨A3,_,c3.b,((g.after f hr c3).mono (by lia) (by lia)).sub (.new ZZ)⟩,_,Z'⟩,λ_=>X2 _ _ ⟨⟨A',V',Z',(g.sub s).mono (by lia) (by lia)⟩,_,Z'⟩⟩
 .rintro U M' ⟨⟨A',V',eb',g⟩,y,rfl⟩
  rw[cY,eL]at g;rw[<-eb'];exact⟨M',.refl,q M0 M' A' V' s0 (g.mono (by lia) (by lia))⟩
noncomputable def Nv(x:Str×Str×Str):D:=.tup [.str x.1,.str x.2.1,.str x.2.2]
noncomputable def IV(x:Str×Str×Str)(u:Int):D:=.tup [.str x.1,.str x.2.1,.str x.2.2,.int u]
noncomputable def vj(o:Nat):D:=.int (o:Nat)
def sF(B:Bl):T0 D:=List.zipWith IV B.rs B.un
structure Te(B:Bl)(n:Nat):Prop where
 rs:B.rs.length=B.un.length
 ow:B.ow.length=B.un.length
 un:B.un.length<=n
 ct:B.ct.length<=n
 bl:∀i,Ud B.ct i=.bl (GP B.ct i)
def MJ(kvs:T0 (qW×D))(i:Nat)(b:Bool):(Al kvs i b).length<=kvs.length+1:=by
 unfold Al wW;split
 .rw[cY];lia
 .rw[de];exact dv _
def Nl{b:Bool}(h:Te B n):Te {B with ct:=Al B.ct i b} (n+1):=⟨h.rs,h.ow,gB h.un,d9 (MJ ..) (gv h.ct),λk=>by
 show Ud (Al B.ct i b) k=.bl (GP (Al B.ct i b) k);unfold GP;rw[Iu];split
 .rfl
 .exact h.bl k⟩
def Po{e:Ev}(h:Te B n):Te (B5 B e) (n+1):=by
 have up:Te B (n+1):=⟨h.rs,h.ow,gB h.un,gB h.ct,h.bl⟩;have l:∀{α:Type} (x:List α) (y:α),(x++[y]).length=x.length+1:=λ_ _=>de;cases e with
 | leg v=>exact⟨by show(_++[_]).length=(_++[_]).length;rw[l,l,h.rs],by show(_++[_]).length=(_++[_]).length;rw[l,l,h.ow],by show(_++[_]).length<=_;rw[l];exact gv h.un,up.ct,h.bl⟩
 | merge i j ms=>exact⟨h.rs,by show(B.ow.map _).length=_;rw[cY];exact h.ow,up.un,up.ct,h.bl⟩
 | turn=>
  have e:(List.zipWith (yf B.ct) B.ow B.un).length=B.un.length:=by rw[gj,h.ow,gI]
  exact⟨h.rs.trans e.symm,h.ow.trans e.symm,by show(List.zipWith _ _ _).length<=_;rw[e];exact up.un,up.ct,h.bl⟩
 | talks i ms=>exact Nl h
 | over i w=>exact Nl h
 | _=>exact up
def Ft{es:T0 Ev}{k:Nat}{e:Ev}(h:es[k]?=ga e):sm (es.take (k+1))=B5 (sm (es.take k)) e:=by unfold sm;rw[fL,h,iL];rfl
theorem yy(es:T0 Ev):∀k,k<=es.length->Te (sm (es.take k)) k
 | 0,_=>⟨Z',Z',dv _,dv _,λ_=>rfl⟩
 | k+1,h=>by rw[Ft (df (by lia))];exact Po (yy es k (by lia))
structure wJ(M M':Mp)(B:Bl)(p1 p2 p3 p4:Uf):Prop where
 s:qG M M'
 n1:M p1=Fa
 n2:M p2=Fa
 n3:M p3=Fa
 n4:M p4=Fa
 l1:og M' p1=ga (B.rs.map Nv)
 l2:og M' p2=ga (B.ow.map vj)
 l3:og M' p3=ga (B.un.map D.int)
 l4:xS M' p4=ga B.ct
 nX:p1≠p2
 oK:p1≠p3
 oO:p2≠p3
def xh{p:Uf}{c:vc}(s:qG M M')(h:M p=Fa):qG M (pI M' p c):=λx d e=>by rw[ud (BX e h)];exact s x d e
def Em{p q:Uf}{ds:T0 D}{ks:T0 (qW×D)}(h:og M p=ga ds)(g:xS M q=ga ks):p≠q:=λz=>by have:=(pY h).symm.trans (z ▸ w9 g);cases this
variable {B:Bl}{p1 p2 p3 p4:Uf}
def wJ.put1(h:wJ M M' B p1 p2 p3 p4)(x:Str×Str×Str):wJ M (pI M' p1 (.lst (B.rs.map Nv++[Nv x]))) {B with rs:=B.rs++[x]} p1 p2 p3 p4:=⟨xh h.s h.n1,h.n1,h.n2,h.n3,h.n4,by rw[pK,dJ];rfl,qT.put.lst h.nX.symm h.l2,qT.put.lst h.oK.symm h.l3,qT.put.dk (Em h.l1 h.l4).symm h.l4,h.nX,h.oK,h.oO⟩
def wJ.put2(h:wJ M M' B p1 p2 p3 p4)(x:Nat):wJ M (pI M' p2 (.lst (B.ow.map vj++[vj x]))) {B with ow:=B.ow++[x]} p1 p2 p3 p4:=⟨xh h.s h.n2,h.n1,h.n2,h.n3,h.n4,qT.put.lst h.nX h.l1,by rw[pK,dJ];rfl,qT.put.lst h.oO.symm h.l3,qT.put.dk (Em h.l2 h.l4).symm h.l4,h.nX,h.oK,h.oO⟩
def wJ.put3(h:wJ M M' B p1 p2 p3 p4)(x:Int):wJ M (pI M' p3 (.lst (B.un.map D.int++[D.int x]))) {B with un:=B.un++[x]} p1 p2 p3 p4:=⟨xh h.s h.n3,h.n1,h.n2,h.n3,h.n4,qT.put.lst h.oK h.l1,qT.put.lst h.oO h.l2,by rw[pK,dJ];rfl,qT.put.dk (Em h.l3 h.l4).symm h.l4,h.nX,h.oK,h.oO⟩
def wJ.oQ(h:wJ M M' B p1 p2 p3 p4)(k:T0 (qW×D)):wJ M (pI M' p4 (.dk k)) {B with ct:=k} p1 p2 p3 p4:=⟨xh h.s h.n4,h.n1,h.n2,h.n3,h.n4,qT.put.lst (Em h.l1 h.l4) h.l1,qT.put.lst (Em h.l2 h.l4) h.l2,qT.put.lst (Em h.l3 h.l4) h.l3,CB,h.nX,h.oK,h.oO⟩
def wJ.nS(h:wJ M M' B p1 p2 p3 p4){q:Uf}(hq:M' q=Fa)(x:T0 Nat):wJ M (pI M' q (.lst (x.map vj))) {B with ow:=x} p1 q p3 p4:=⟨h.s.trans (.new hq),h.n1,h.s.none hq,h.n3,h.n4,(qG.new hq).lst h.l1,pK,(qG.new hq).lst h.l3,(qG.new hq).dk h.l4,BX (pY h.l1) hq,h.oK,(BX (pY h.l3) hq).symm⟩
def wJ.new3(h:wJ M M' B p1 p2 p3 p4){q:Uf}(hq:M' q=Fa)(x:T0 Int):wJ M (pI M' q (.lst (x.map D.int))) {B with un:=x} p1 p2 q p4:=⟨h.s.trans (.new hq),h.n1,h.n2,h.s.none hq,h.n4,(qG.new hq).lst h.l1,(qG.new hq).lst h.l2,pK,(qG.new hq).dk h.l4,h.nX,BX (pY h.l1) hq,BX (pY h.l2) hq⟩
def NV:rq:=λds M Q=>CP λr (es:T0 Ev)=>ds=[.ref r]/\og M r=ga (es.map Ev.d)/\es.length<=8000000/\∀q M',qG M M'->M q=Fa->og M' q=ga (sF (sm es))->Q (.ref q) M'
theorem Hw:∀{xs ys pre post:T0 D} {d:D},pre++d::post=wV xs ys->∃x y,xs[pre.length]?=ga x/\ys[pre.length]?=ga y/\d=.tup [x,y]
 | [],_,pre,post,d,e=>by cases pre<;>cases e
 | _::_,[],pre,post,d,e=>by cases pre<;>cases e
 | x::xs,y::ys,[],post,d,e=>by cases e;exact⟨x,y,Z',Z',Z'⟩
 | x::xs,y::ys,p::pre,post,d,e=>by have e:p::(pre++d::post)=.tup [x,y]::wV xs ys:=e;exact Hw (xs:=xs) (ys:=ys) (pre:=pre) (gN e).2
def uS{α:Type}{f:α->D}{xs:List α}{k:Nat}{d:D}(h:(xs.map f)[k]?=ga d):∃x,xs[k]?=ga x/\d=f x:=by
 rw[dE]at h;cases e:xs[k]? with
 | none=>rw[e]at h;cases h
 | some x=>rw[e]at h;exact⟨x,Z',(dw h).symm⟩
def Fh{α β γ:Type}(f:α->β->γ){xs:List α}{ys:List β}{k:Nat}{x:α}{y:β}(hx:xs[k]?=ga x)(hy:ys[k]?=ga y):(List.zipWith f xs ys).take (k+1)=(List.zipWith f xs ys).take k++[f x y]:=by rw[fL,iR,hx,hy];rfl
def Hm:Fq P w K mg base 1 a.aa NV:=by
 refine fq G.aa.toDG uq (λr u=>⟨_,(pB (pQ 1 uq (qP sd))
 (pB (pQ 2 uq (qP sd))
 (pB (pQ 3 uq (qP sd))
 (pB (pQ 4 uq QQ)
 (pB (tS eS Z' (qI v0) (rY 5 uq)
 (pB (pQ 6 uq (pN v5 pE))
 (pC (pU (pL u v6 pF)
 (pB (pR (qL U1 (qp (sE v5 (tj pE) tz))))
 (pB (pR (qL U2 (qp (pN v5 pE))))
 (pC (pR (qL U3 (qp pE))))))
 (pC (pU (pL u v6 (pT (rZ pF pF)))
 (pC (ME u v4 (pN v5 pE) (qv u v6 pF)))
 (pC (pU (pL u v6 pF)
 (pC (ug (i:=2) uq.nd Z' (Or.inl Z') Z' (xQ (ix:=[Fa,ga 5]) (N':=["owner","event"])) (qI U2) (qD 0) rS (J9 (pL u v0 (pN U1 pE)) (pN U1 pE) v0)))
 (pC (pU (pL u v6 pF)
 (pC (ug (i:=3) uq.nd Z' (Or.inl Z') Z' (xQ (ix:=[Fa,Fa,ga 4]) (N':=["owner","told","counts"])) (Js Z' G.bW (rZ U2 U3)) (vb (n:=2) Z' (qK (qD 0) (qK (qD 1) uc))) rS (J9 (uB (MA u U2 v0 wI ⟨Z',Z',Z',Z'⟩)) (qh U1 pE) U1)))
 pP))))))))))
 (pC (pH (qO Z' (xQ (ix:=[Fa,Fa]) (N':=["leg","told"])) (Js Z' G.bW (rZ U1 U3)) (vb (n:=2) Z' (qK (qD 0) (qK (qD 1) uc))) rS (qh v0 (pT (qp U1))))))))))),?_⟩)
 rintro ds M Q ⟨r,es,rfl,hr,hl,q⟩
 have hz:=dQ;refine⟨pz Z',λp1 YJ=>?_⟩;dsimp only[rR];refine⟨pz Z',λp2 X4=>?_⟩;dsimp only[rR];refine⟨pz Z',λp3 Zy=>?_⟩;dsimp only[rR];refine λp4 hp4=>?_;have b0:wJ M (pI (pI (pI (pI M p1 (.lst [])) p2 (.lst [])) p3 (.lst [])) p4 (.dk [])) (sm []) p1 p2 p3 p4:=by have t1:=qG.new (c:=.lst []) YJ;have t2:=qG.new (c:=.lst []) X4;have t3:=qG.new (c:=.lst []) Zy;have t4:=qG.new (c:=.dk []) hp4;have l1:=t2.lst (pK (M:=M) (p:=p1) (ds:=[]));have l2:=t3.lst (pK (M:=pI M p1 (.lst [])) (p:=p2) (ds:=[]));exact⟨t1.trans (t2.trans (t3.trans t4)),YJ,t1.none X4,(t1.trans t2).none Zy,(t1.trans (t2.trans t3)).none hp4,t4.lst (t3.lst l1),t4.lst l2,t4.lst pK,CB,BX (pY pK) X4,BX (pY l1) Zy,BX (pY pK) Zy⟩
 generalize pI (pI (pI (pI M p1 (.lst [])) p2 (.lst [])) p3 (.lst [])) p4 (.dk [])=M0 at b0 ⊢;dsimp only[rR];refine i' (b0.s.lst hr) ?_;clear YJ X4 Zy hp4;refine uL (es.map Ev.d) (λpre U M'=>∃p2 p3 y5 y6,wJ M M' (sm (es.take pre.length)) p1 p2 p3 p4/\U=[ga (.ref r),ga (.ref p1),ga (.ref p2),ga (.ref p3),ga (.ref p4),y5,y6]) (λ_ _ M' j=>by obtain⟨_,_,_,_,b,_⟩:=j;exact b.s.lst hr) _ [] _ _ Z' ⟨p2,p3,Fa,Fa,b0,Z'⟩ ?_ ?_
 .clear b0
  rintro pre d post e U M' ⟨p2,p3,y5,y6,b,rfl⟩ nx X2
  obtain⟨ev,he,rfl⟩:=uS (show(es.map Ev.d)[pre.length]?=ga d by rw[<-e];simp);have lt:=(c9.mp he).1;have bs:=yy es pre.length (by lia);rw[de,dI,Ft he]at X2;generalize sm (es.take pre.length)=B at b bs X2;have hu:=bs.un;have hc:=bs.ct;cases ev with
  | leg v=>refine⟨eC Option.isSome b.l1,i' b.l1 ⟨by rw[cY,bs.rs];lia,?_⟩⟩;have b1:=b.put1 (v.f,v.g,v.y);refine⟨eC Option.isSome b1.l2,i' b1.l2 ⟨by rw[cY];show B.ow.length<_;rw[bs.ow];lia,?_⟩⟩;have b2:=b1.put2 v.i;refine⟨eC Option.isSome b2.l3,i' b2.l3 ⟨by rw[cY];show B.un.length<_;lia,?_⟩⟩;exact X2 _ _ ⟨p2,p3,_,_,b2.put3 0,Z'⟩
  | talks i ms=>refine⟨pz Z',Z',Z',i' b.l4 ⟨by lia,X2 _ _ ⟨p2,p3,_,_,b.oQ _,Z'⟩⟩⟩
  | over i w=>refine⟨pz Z',Z',Z',i' b.l4 ⟨by lia,X2 _ _ ⟨p2,p3,_,_,b.oQ _,Z'⟩⟩⟩
  | merge i j ms=>
   refine⟨pz Z',Z',Z',i' b.l2 (rA (f:=λd=>match d with|.int o=>if o=(i:Nat)then .int (j:Nat)else .int o|d=>d) b.l2 _ [] _ (by rw[cY,bs.ow];simp only[dN];lia) (λd hd k hk=>?_) λp hp=>?_)⟩
   .obtain⟨o,_,rfl⟩:=dF.mp hd;by_cases z:o=i
    .have hk:k (if ((o:Nat):Int)=(i:Nat)then .int (j:Nat)else .int (o:Nat)) M':=hk;rw[dh (by rw[z])]at hk;exact yK (dU (by rw[z])) hk
    .have hk:k (if ((o:Nat):Int)=(i:Nat)then .int (j:Nat)else .int (o:Nat)) M':=hk;rw[dg (by lia)]at hk;exact EU (eF (by lia)) hk
   .have e1:[]++(B.ow.map vj).map (λd=>match d with|.int o=>if o=(i:Nat)then .int (j:Nat)else .int o|d=>d)=(B.ow.map λo=>if o=i then j else o).map vj:=by
     rw[eA,eh,eh];refine fV λo _=>?_;show(if ((o:Nat):Int)=(i:Nat)then D.int (j:Nat)else .int (o:Nat))=vj (if o=i then j else o);by_cases z:o=i
     .rw[dh z,dh (by rw[z])];rfl
     .rw[dg z,dg (by lia)];rfl
    rw[e1];exact X2 _ _ ⟨p,p3,_,_,b.nS hp _,Z'⟩
  | turn=>
   refine⟨pz Z',Z',Z',i' b.l2 (i' b.l3 ?_)⟩;have zl:(wV (B.ow.map vj) (B.un.map D.int)).length=B.un.length:=by rw[L3.xo,cY,cY,bs.ow,gI]
   refine yt (wV (B.ow.map vj) (B.un.map D.int)) (λpre acc U XZ=>M'=XZ/\acc=((List.zipWith (yf B.ct) B.ow B.un).take pre.length).map D.int/\∃y0 y1,U=[y0,y1,ga (.ref p4)]) (λ_ _ _ M' j=>by rw[<-j.1];exact⟨b.l2,b.l3⟩) _ [] [] _ _ Z' ?_ ⟨Z',Z',Fa,Fa,Z'⟩ ?_ ?_
   .rw[zl];simp only[dN];lia
   .rintro pre d post e acc U _ ⟨rfl,ha,y0,y1,rfl⟩ k hk
    obtain⟨_,_,e1,e2,rfl⟩:=Hw e;obtain⟨o,ex,rfl⟩:=uS e1;obtain⟨u,ey,rfl⟩:=uS e2;rw[de,dI,Fh _ ex ey,dJ]at hk;refine⟨Z',?_⟩;dsimp only[rR,Av,F'];refine⟨eC Option.isSome b.l4,?_⟩;show Option.elim (xS M' p4) False _;refine i' b.l4 ?_;have hb:(tD B.ct (.inl (o:Nat))).getD (.bl pc)=.bl (GP B.ct o):=bs.bl o;have Z6:k _ (.int (yf B.ct o u)) M':=hk _ _ _ ⟨Z',by rw[ha];rfl,ga (vj o),ga (.int u),Z'⟩;unfold yf at Z6;rw[hb];by_cases c:GP B.ct o=Db
    .rw[dh c]at Z6;exact yK c Z6
    .rw[dg c]at Z6;exact EU (dM.mpr c) Z6
   .rintro acc U _ ⟨rfl,ha,y0,y1,rfl⟩ p hp
    rw[zl,eJ (by rw[gj,bs.ow,gI];lia)]at ha;rw[ha];exact X2 _ _ ⟨p2,p,_,_,b.new3 hp _,Z'⟩
  | sw o i=>cases o<;>exact⟨pz Z',Z',Z',X2 _ _ ⟨p2,p3,_,_,b,Z'⟩⟩
  | _=>exact⟨pz Z',Z',Z',X2 _ _ ⟨p2,p3,_,_,b,Z'⟩⟩
 .rintro U M' ⟨p2,p3,y5,y6,b,rfl⟩
  have bs:=yy es es.length (dv _);rw[cY,eJ (dv _)]at b;rw[eJ (dv _)]at bs;generalize sm es=B at b bs q;have hu:=bs.un;refine i' b.l1 (i' b.l3 ?_);have zl:(wV (B.rs.map Nv) (B.un.map D.int)).length=B.un.length:=by rw[L3.xo,cY,cY,bs.rs,gI]
  refine yt (wV (B.rs.map Nv) (B.un.map D.int)) (λpre acc U XZ=>M'=XZ/\acc=(sF B).take pre.length/\∃y0 y1,U=[y0,y1]) (λ_ _ _ M' j=>by rw[<-j.1];exact⟨b.l1,b.l3⟩) _ [] [] _ _ Z' ?_ ⟨Z',Z',Fa,Fa,Z'⟩ ?_ ?_
  .rw[zl];simp only[dN];lia
  .rintro pre d post e acc U _ ⟨rfl,ha,y0,y1,rfl⟩ k hk
   obtain⟨_,_,e1,e2,rfl⟩:=Hw e;obtain⟨x,ex,rfl⟩:=uS e1;obtain⟨u,ey,rfl⟩:=uS e2;rw[de,dI,show(sF B).take (pre.length+1)=(sF B).take pre.length++[IV x u]from Fh _ ex ey]at hk;refine⟨Z',?_⟩;dsimp only[rR,Av,F'];exact⟨pz Z',by simp,by simp[hz],hk _ _ _ ⟨Z',by rw[ha];rfl,_,_,Z'⟩⟩
  .rintro acc U _ ⟨rfl,ha,y0,y1,rfl⟩ p hp
   rw[zl,eJ (by unfold sF;rw[gj,bs.rs,gI];lia)]at ha;rw[ha];exact⟨_,.refl,q p _ (b.s.trans (.new hp)) (b.s.none hp) pK⟩
def LN:rq:=λds M Q=>∃n:Int,ds=[.int n]/\Q (.bl Db) M
def OQ:rq:=λds M Q=>C5 λp q (B:Bl)=>ds=[.ref p,.ref q]/\og M p=ga (sF B)/\og M q=ga (sF B)/\Q (.bl Db) M
def Th{p:Uf}{ds:T0 D}(h:og M p=ga ds):Xm M (.ref p)=ga (.type "list"):=by show HV (M p)=_;rw[pY h];rfl
def Gw{d:D}(h:d∈sF B):∃x u,d=IV x u:=by
 obtain⟨k,hk⟩:=iS.mp h;unfold sF at hk;rw[iR]at hk;split at hk
 .exact⟨_,_,(dw hk).symm⟩
 .cases hk
def Lr:Fq P w K mg base 1 a.bz LN:=by
 refine fq G.bz.toDG ED (λr u=>⟨_,(pC (pH (sW (pX yC Z' G.bQ uU (rZ v0 (J3 Z' G.b4 MI))) (sL (MT (pX yC Z' G.bQ uU (rZ v0 (J3 Z' G.cJ Pi)))))))),?_⟩)
 rintro ds M Q ⟨n,rfl,q⟩
 exact⟨λC z=>(by cases z),i' G.cH ⟨λC z=>(by cases z),i' G.cI ⟨M,.refl,q⟩⟩⟩
def J4:Fq P w K mg base 2 a.ah OQ:=by
 refine fq G.ah.toDG wG (λr u=>⟨_,(pB (pU (W3.b3 (xF (vF (uB (pX yC Z' G.bQ uU (rZ v0 (J3 Z' G.r sD))))) (wb (pL u v0 U1))))
 (pC (pH wI))
 pP)
 (pB (tS eS Z' (qI v0) (rY 2 wG)
 (pC (pU (W3.b3 (xF (vF (uB (pX yC Z' G.bQ uU (rZ U2 (J3 Z' G.F ur))))) (wb (vF (uB (pO (Lr G) r G.bz (qp (pN U2 pE))))))))
 (pC (pH wI))
 pP)))
 (pC (pH wI)))),?_⟩)
 rintro ds M Q ⟨r1,r2,B,rfl,l1,l2,q⟩
 refine i' (Th l1) ⟨λC z=>(by cases z),i' G.cF (G6 ?_)⟩;refine i' (DI l1 l2 λd hd=>by
  obtain⟨x,u,rfl⟩:=Gw hd;exact CQ 7 _ Z') (G6 (i' l1 ?_))
 refine uL (sF B) (λpre U M'=>qG M M'/\∃y2,U=[ga (.ref r1),ga (.ref r2),y2]) (λ_ _ M' j=>j.1.lst l1) _ [] _ _ Z' ⟨.refl,Fa,Z'⟩ ?_ ?_
 .rintro pre d post e U M1 ⟨s1,y2,rfl⟩ nx X2
  obtain⟨x,u,rfl⟩:=Gw (e ▸ eG _ dP:d∈sF B);exact⟨λC z=>(by cases z),i' G.cG (G6 ⟨u,Z',X2 _ _ ⟨s1,_,Z'⟩⟩)⟩
 .rintro U M' ⟨s1,y2,rfl⟩
  exact⟨M,s1,q⟩
noncomputable def Re(o:Nat)(x:Str×Str×Str)(u:Int):T0 D:=[.int (o:Nat),.str x.1,.str x.2.1,.str x.2.2,.int u]
def JG(M:Mp)(B:Bl)(m:Nat)(p:Uf):Prop:=C5 λo x u=>B.ow[m]?=ga o/\B.rs[m]?=ga x/\B.un[m]?=ga u/\og M p=ga (Re o x u)
structure wC(M M':Mp)(B:Bl)(gs:List Nat)(p1 p2:Uf)(ps:QXQ):Prop where
 s:qG M M'
 n1:M p1=Fa
 n2:M p2=Fa
 l1:og M' p1=ga (ps.map D.ref)
 l2:og M' p2=ga (gs.map vj)
 nX:p1≠p2
 nd:ps.Nodup
 ln:ps.length=B.un.length
 ne:∀p∈ps,M p=Fa/\p≠p1/\p≠p2
 oj:∀(m:Nat) p,ps[m]?=ga p->JG M' B m p
def VJ{ps:QXQ}(h:ps.Nodup){i j:Nat}{p:Uf}(hi:ps[i]?=ga p)(hj:ps[j]?=ga p):i=j:=by exact(List.getElem?_inj (c9.mp hi).1 h).mp (hi.trans hj.symm)
variable {M2:Mp}{gs:T0 Nat}{ps:QXQ}
def JG.keep{m:Nat}{p q:Uf}(h:JG M' B m p)(k:qT q M' M2)(n:p≠q):JG M2 B m p:=by obtain⟨o,x,u,a,b,c,d⟩:=h;exact⟨o,x,u,a,b,c,k.lst n d⟩
def wC.put2(h:wC M M' B gs p1 p2 ps)(x:Nat):wC M (pI M' p2 (.lst (gs.map vj++[vj x]))) B (gs++[x]) p1 p2 ps:=⟨xh h.s h.n2,h.n1,h.n2,qT.put.lst h.nX h.l1,by rw[pK,dJ];rfl,h.nX,h.nd,h.ln,h.ne,λm p e=>(h.oj m p e).keep .put (h.ne p (fj e)).2.2⟩
def wC.nS(h:wC M M' B gs p1 p2 ps){q:Uf}(hq:M' q=Fa)(x:T0 Nat):wC M (pI M' q (.lst (x.map vj))) B x p1 q ps:=⟨h.s.trans (.new hq),h.n1,h.s.none hq,(qG.new hq).lst h.l1,pK,BX (pY h.l1) hq,h.nd,h.ln,λp hp=>⟨(h.ne p hp).1,(h.ne p hp).2.1,by
 obtain⟨m,e⟩:=iS.mp hp;obtain⟨o,x,u,_,_,_,d⟩:=h.oj m p e;exact BX (pY d) hq⟩,λm p e=>by
 obtain⟨o,x,u,a,b,c,d⟩:=h.oj m p e;exact⟨o,x,u,a,b,c,(qG.new hq).lst d⟩⟩
def wC.ct(h:wC M M' B gs p1 p2 ps)(c:T0 (qW×D)):wC M M' {B with ct:=c} gs p1 p2 ps:=⟨h.s,h.n1,h.n2,h.l1,h.l2,h.nX,h.nd,h.ln,h.ne,h.oj⟩
def wC.set(h:wC M M' B gs p1 p2 ps){m:Nat}{p:Uf}(e:ps[m]?=ga p){o:Nat}{x:Str×Str×Str}{u:Int}(ow:T0 Nat)(un:T0 Int)(lu:un.length=B.un.length)(h1:ow[m]?=ga o)(h2:B.rs[m]?=ga x)(h3:un[m]?=ga u)(s1:∀i,i≠m->ow[i]?=B.ow[i]?)(s3:∀i,i≠m->un[i]?=B.un[i]?):wC M (pI M' p (.lst (Re o x u))) {B with ow:=ow,un:=un} gs p1 p2 ps:=by
 obtain⟨n0,n1,n2⟩:=h.ne p (fj e);refine⟨xh h.s n0,h.n1,h.n2,qT.put.lst n1.symm h.l1,qT.put.lst n2.symm h.l2,h.nX,h.nd,h.ln.trans lu.symm,h.ne,λi q ei=>?_⟩;by_cases z:i=m
 .subst z;rw[e]at ei;cases ei;exact⟨o,x,u,h1,h2,h3,pK⟩
 .obtain⟨o',x',u',a,b,c,d⟩:=h.oj i q ei;exact⟨o',x',u',(s1 i z).trans a,b,(s3 i z).trans c,qT.put.lst (λy=>z (VJ h.nd ei (y ▸ e))) d⟩
def wC.add(h:wC M M' B gs p1 p2 ps){n:Nat}(bs:Te B n){q:Uf}(hq:M' q=Fa)(o:Nat)(x:Str×Str×Str):wC M (pI (pI M' q (.lst (Re o x 0))) p1 (.lst (ps.map D.ref++[.ref q]))) {B with rs:=B.rs++[x],ow:=B.ow++[o],un:=B.un++[0]} gs p1 p2 (ps++[q]):=by
 have t:=qG.new (c:=.lst (Re o x 0)) hq;have q1:q≠p1:=(BX (pY h.l1) hq).symm;have q2:q≠p2:=(BX (pY h.l2) hq).symm;have qn:q∉ps:=λz=>by obtain⟨m,e⟩:=iS.mp z;obtain⟨_,_,_,_,_,_,d⟩:=h.oj m q e;exact BX (pY d) hq Z'
 refine⟨xh (h.s.trans t) h.n1,h.n1,h.n2,by rw[pK,dJ];rfl,qT.put.lst h.nX.symm (t.lst h.l2),h.nX,?_,?_,λp hp=>?_,λm p e=>?_⟩
 .rw[gc];exact⟨h.nd,dS.mpr ⟨dY,eI⟩,λy hy z hz e=>qn (by rw[<-dz.mp hz,<-e];exact hy)⟩
 .show(ps++[q]).length=(B.un++[0]).length;rw[de,de,h.ln];rfl
 .rcases dX.mp hp with z|z
  .exact h.ne p z
  .rw[dz.mp z];exact⟨h.s.none hq,q1,q2⟩
 .rw[jb]at e;split at e
  .rename_i lt;obtain⟨o',x',u',a,b,c,d⟩:=h.oj m p e;have l:∀{α:Type} {xs:List α} {y z:α},xs[m]?=ga y->(xs++[z])[m]?=ga y:=λhy=>by rw[eV (c9.mp hy).1];exact hy
   exact⟨o',x',u',l a,l b,l c,qT.put.lst (h.ne p (fj e)).2.1 (t.lst d)⟩
  .rename_i lt;have em:m=ps.length:=by
    cases em:m - ps.length with
    | zero=>lia
    | succ k=>rw[em]at e;cases e
   rw[em,fY]at e;cases e;have l:∀{α:Type} {xs:List α} {y:α},xs.length=ps.length->(xs++[y])[m]?=ga y:=λhy=>by rw[em,<-hy];simp
   exact⟨o,x,0,l (by rw[h.ln,bs.ow]),l (by rw[h.ln,bs.rs]),l h.ln.symm,qT.put.lst q1 pK⟩
def FQ{α:Type}{xs ys:List α}{k:Nat}{x:α}(h:xs.length=ys.length)(e:xs[k]?=ga x):(xs.take k++ys.drop k).set k x=xs.take (k+1)++ys.drop (k+1):=by
 have lt:=(c9.mp e).1;have l:(xs.take k).length=k:=by rw[fu];lia
 rw[iQ k x (by lia),l,fY,fL,e];have:(ys.drop k).set 0 x=x::ys.drop (k+1):=by rw[gQ (show k<ys.length by lia)];rfl
 rw[this];simp
def Jd{α:Type}{xs ys:List α}{k:Nat}(h:xs.length=ys.length)(lt:k<ys.length):(xs.take k++ys.drop k)[k]?=ys[k]?:=by
 have l:(xs.take k).length=k:=by rw[fu];lia
 rw[eP (by lia),l,fY,List.getElem?_drop,Nat.add_zero]
def Lx{α:Type}{xs ys:List α}{k i:Nat}{x:α}(h:xs.length=ys.length)(e:xs[k]?=ga x)(n:i≠k):(xs.take (k+1)++ys.drop (k+1))[i]?=(xs.take k++ys.drop k)[i]?:=by rw[<-FQ h e,fB n.symm]
def Nm{α:Type}{xs ys:List α}{k:Nat}{x:α}(h:xs.length=ys.length)(e:xs[k]?=ga x):(xs.take (k+1)++ys.drop (k+1))[k]?=ga x:=by have lt:=(c9.mp e).1;rw[<-FQ h e,fC (by rw[de,fu,fX];lia)]
def JS{α:Type}{xs ys:List α}(h:xs.length=ys.length)(k:Nat):(xs.take k++ys.drop k).length=ys.length:=by rw[de,fu,fX];lia
def LQ(x y:D)(l:T0 D):wu (x::y::l) 1=ga y:=by show wu _ ((1:Nat):Int)=_;exact uT Z'
theorem Ht:∀gs:T0 Nat,(gs.map vj).all uX=Db
 | []=>rfl
 | _::r=>Ht r
def QK(sw:T0 Nat)(i:Nat):inD (.int (i:Nat)) (sw.map vj)=sw.any (·==i):=by unfold inD;rw[ja];refine eC (λf=>sw.any f) (funext λj=>?_);show((j:Int)==(i:Int))=(j==i);rw[fW,fg,fg];lia
def Vz(es:T0 Ev):Prop:=∀k o,o∈(sm (es.take k)).ow->GP (sm (es.take k)).ct o=(BJ (es.take k)).any (·==o)
def PH:rq:=λds M Q=>CP λr (es:T0 Ev)=>ds=[.ref r]/\og M r=ga (es.map Ev.d)/\es.length<=8000000/\Vz es/\∀q M',qG M M'->M q=Fa->og M' q=ga (sF (sm es))->Q (.ref q) M'
def Rz{es:T0 Ev}{k:Nat}{e:Ev}(h:es[k]?=ga e):BJ (es.take (k+1))=JW (BJ (es.take k)) e:=by unfold BJ;rw[fL,h,iL];rfl
theorem Oc(es:T0 Ev):∀k,(BJ (es.take k)).length<=k
 | 0=>dv _
 | k+1=>by
  have ih:=Oc es k;cases e:es[k]? with
  | none=>have h:=jA.mp e;rw[eJ (by lia),<-eJ h];lia
  | some ev=>
   rw[Rz e];have f:∀p,((BJ (es.take k)).filter p).length<=k+1:=λp=>d9 (gy _ _) (by lia);have g:∀i,(BJ (es.take k)++[i]).length<=k+1:=λi=>by rw[de];exact gv ih
   cases ev with
   | talks i _=>exact g i
   | held i _=>exact g i
   | rings i _=>exact f _
   | waits i _=>exact f _
   | over i _=>exact f _
   | merge i _ _=>exact f _
   | _=>exact gB ih
def P8:Fq P w K mg base 1 a.bA PH:=by
 refine fq G.bA.toDG ue (λr u=>⟨_,(pB (pQ 1 ue (qP sd))
 (pB (pQ 2 ue (qP sd))
 (pB (tS eS Z' (qI v0) (rY 3 ue)
 (pB (pU (pL u (pN U3 pE) pF)
 (pC (pR (qL U1 (qp (qP (qc (pN U3 pE) (qc (pN U3 pE) (rB (pN U3 pE) (pN U3 pE) pE))))))))
 pP)
 (pB (pU (pL u (pN U3 pE) (pT (rZ pF pF)))
 (pC (pR (qL U2 (qp (pN U3 pE)))))
 pP)
 (pB (pU (pL u (pN U3 pE) (pT (qc pF (rB pF pF pF))))
 (pC (ug (i:=2) ue.nd Z' (Or.inl Z') Z' (xQ (ix:=[Fa,ga 3]) (N':=["_law_k","_law_event"])) (qI U2) (qD 0) (vn (pL u v0 (pN U1 pE))) v0))
 pP)
 (pB (pU (pL u (pN U3 pE) pF)
 (pC (tS eS Z' (qI U1) (rY 4 ue)
 (pC (pU (pL u (pN v4 pE) (pN U3 pE))
 (pC (NK (pN U3 pE) (MX v4 pE)))
 pP))))
 pP)
 (pC (pU (pL u (pN U3 pE) pF)
 (pC (tS eS Z' (qI U1) (rY 4 ue)
 (pC (OP v4 pE (qw Ta Z' G.b4 MI (qp (qv u (pN v4 pE) U2)))))))
 pP)))))))
 (pC (pH (qO Z' (xQ (ix:=[Fa]) (N':=["_law_row"])) (qI U1) (qD 0) rS (pT (qc (pN v0 pE) (rB (pN v0 pE) (pN v0 pE) (pN v0 pE)))))))))),?_⟩)
 .rintro ds M Q ⟨r,es,rfl,hr,hl,ag,q⟩
  have hz:=dQ;refine⟨pz Z',λp1 YJ=>?_⟩;dsimp only[rR];refine⟨pz Z',λp2 X4=>?_⟩;dsimp only[rR];have b0:wC M (pI (pI M p1 (.lst [])) p2 (.lst [])) (sm []) [] p1 p2 []:=by have t1:=qG.new (c:=.lst []) YJ;have t2:=qG.new (c:=.lst []) X4;exact⟨t1.trans t2,YJ,t1.none X4,t2.lst pK,pK,BX (pY pK) X4,eI,Z',(λp hp=>by cases hp),λm p e=>by cases e⟩
  generalize pI (pI M p1 (.lst [])) p2 (.lst [])=M0 at b0 ⊢;refine i' (b0.s.lst hr) ?_;clear YJ X4;refine uL (es.map Ev.d) (λpre U M'=>Br λp2 y3 y4 ps=>wC M M' (sm (es.take pre.length)) (BJ (es.take pre.length)) p1 p2 ps/\U=[ga (.ref r),ga (.ref p1),ga (.ref p2),y3,y4]) (λ_ _ M' j=>by obtain⟨_,_,_,_,b,_⟩:=j;exact b.s.lst hr) _ [] _ _ Z' ⟨p2,Fa,Fa,[],b0,Z'⟩ ?_ ?_
  .clear b0
   rintro pre d post e U M' ⟨p2,y3,y4,ps,b,rfl⟩ nx X2
   obtain⟨ev,he,rfl⟩:=uS (show(es.map Ev.d)[pre.length]?=ga d by rw[<-e];simp);have lt:=(c9.mp he).1;have bs:=yy es pre.length (by lia);have agk:=ag pre.length;rw[de,dI,Ft he,Rz he]at X2;generalize sm (es.take pre.length)=B at b bs X2 agk;have hu:=bs.un;have hg:=Oc es pre.length;generalize BJ (es.take pre.length)=gs at b X2 agk hg;have flt:∀(i:Nat) (w0:D) (rest:T0 D) (nx':DK),(∀q,M' q=Fa->nx' (.ref q) (pI M' q (.lst ((gs.filter λk=>!(k==i)).map vj))))->uW (rR 0) (b3 (k3 .NotEq (v3 0) (i3 (v3 1) (c3 (.int 1))))) (v3 0) (λM=>og M p2=ga (gs.map vj)) nx' (gs.map vj) [] [Fa,ga (.tup (w0::.int (i:Nat)::rest))] M':=λi w0 rest nx' hnx'=>by
    refine wN (gs.map vj) (λpre acc U M2=>M'=M2/\acc=((gs.take pre.length).filter λk=>!(k==i)).map vj/\∃y,U=[y,ga (.tup (w0::.int (i:Nat)::rest))]) (λ_ _ _ M' j=>by rw[<-j.1];exact b.l2) _ [] [] _ _ Z' ?_ ⟨Z',Z',Fa,Z'⟩ ?_ ?_
    .rw[cY];simp only[dN];lia
    .rintro pre d post e acc U _ ⟨rfl,ha,y0,rfl⟩ k k2 hk Zq
     obtain⟨o,ho,rfl⟩:=uS (show(gs.map vj)[pre.length]?=ga d by rw[<-e];simp);rw[de,dI,fL,ho,Option.toList_some,iH]at hk Zq;by_cases z:o=i
     .refine i' (LQ w0 (.int (i:Nat)) rest) (EU (c:=!(((o:Nat):Int)==((i:Nat):Int))) (by rw[z,eW];rfl) (Zq _ _ ⟨Z',?_,_,Z'⟩));rw[ha,hG (by rw[z,eW];decide),h9,eO]
     .refine i' (LQ w0 (.int (i:Nat)) rest) (yK (c:=!(((o:Nat):Int)==((i:Nat):Int))) (by rw[jc (by lia)];rfl) (hk _ _ _ ⟨Z',?_,_,Z'⟩));rw[ha,g9 (by rw[jc z];rfl),h9,dJ];rfl
    .rintro acc U _ ⟨rfl,ha,y0,rfl⟩ p hp
     rw[cY,fK]at ha;rw[ha];exact hnx' p hp
   cases ev with
   | leg v=>refine⟨eC Option.isSome b.l1,pz Z',λq hq=>?_⟩;refine i' ((qG.new hq).lst b.l1) ⟨by rw[cY,b.ln];lia,?_⟩;exact⟨pz Z',Z',Z',pz Z',Z',Z',X2 _ _ ⟨p2,_,_,_,b.add bs hq v.i (v.f,v.g,v.y),Z'⟩⟩
   | talks i ms=>exact⟨pz Z',Z',Z',eC Option.isSome b.l2,i' b.l2 ⟨by rw[cY];lia,pz Z',Z',Z',X2 _ _ ⟨p2,_,_,ps,(b.put2 i).ct _,Z'⟩⟩⟩
   | held i x=>exact⟨pz Z',Z',Z',eC Option.isSome b.l2,i' b.l2 ⟨by rw[cY];lia,pz Z',Z',Z',X2 _ _ ⟨p2,_,_,ps,b.put2 i,Z'⟩⟩⟩
   | rings i ps'=>exact⟨pz Z',Z',Z',pz Z',Z',Z',i' b.l2 (flt i _ _ _ λq hq=>X2 _ _ ⟨q,_,_,ps,b.nS hq _,Z'⟩)⟩
   | waits i x=>exact⟨pz Z',Z',Z',pz Z',Z',Z',i' b.l2 (flt i _ _ _ λq hq=>X2 _ _ ⟨q,_,_,ps,b.nS hq _,Z'⟩)⟩
   | over i w=>exact⟨pz Z',Z',Z',pz Z',Z',Z',i' b.l2 (flt i _ _ _ λq hq=>X2 _ _ ⟨q,_,_,ps,(b.nS hq _).ct _,Z'⟩)⟩
   | merge i j ms=>
    refine⟨pz Z',Z',Z',pz Z',Z',Z',i' b.l2 (flt i _ _ _ λq hq=>?_)⟩;have b1:=b.nS hq (gs.filter λk=>!(k==i));generalize pI M' q (.lst ((gs.filter λk=>!(k==i)).map vj))=M1 at b1 ⊢;generalize hgs:(gs.filter λk=>!(k==i))=gs1 at b1;have ml:(B.ow.map λo=>if o=i then j else o).length=B.ow.length:=cY ..;refine i' b1.l1 ?_;refine uL (ps.map D.ref) (λpr U M2=>wC M M2 {B with ow:=(B.ow.map λo=>if o=i then j else o).take pr.length++B.ow.drop pr.length} gs1 p1 q ps/\∃y4,U=[ga (.ref r),ga (.ref p1),ga (.ref q),ga (Ev.d (.merge i j ms)),y4]) (λ_ _ _ j=>j.1.l1) _ [] _ _ Z' ⟨b1,_,Z'⟩ ?_ ?_
    .rintro pr d post ee U M2 ⟨b2,y4,rfl⟩ nx2 Zu
     obtain⟨p,hp,rfl⟩:=uS (show(ps.map D.ref)[pr.length]?=ga d by rw[<-ee];simp);rw[de,dI]at Zu;obtain⟨o,x,u,f1,f2,f3,f4⟩:=b2.oj _ p hp;have lt2:pr.length<B.ow.length:=by rw[bs.ow,<-b.ln];exact(c9.mp hp).1
     have f5:B.ow[pr.length]?=ga o:=(Jd ml lt2).symm.trans f1;have f6:(B.ow.map λo=>if o=i then j else o)[pr.length]?=ga (if o=i then j else o):=by rw[dE,f5];rfl
     refine i' f4 ?_;by_cases z:o=i
     .refine yK (fg.mpr (by rw[z])) ?_;rw[dh z]at f6;refine i' f4 (Zu _ _ ⟨b2.set hp _ B.un Z' (Nm ml f6) f2 f3 (λi hi=>Lx ml f6 hi) (λ_ _=>rfl),_,Z'⟩)
     .refine EU (jc (by lia)) ?_;rw[dg z]at f6;refine Zu _ _ ⟨?_,_,Z'⟩;obtain⟨lt3,e3⟩:=c9.mp f1;rw[<-FQ ml f6];have e4:=km lt3;rw[e3]at e4;rw[e4];exact b2
    .rintro U M2 ⟨b2,y4,rfl⟩
     refine X2 _ _ ⟨q,_,_,ps,?_,Z'⟩;rw[cY,b.ln,<-bs.ow,j8 (dv _),eO,eJ (jE ml)]at b2;show wC M M2 _ (gs.filter λk=>!(k==i)) p1 q ps;rw[hgs];exact b2
   | turn=>
    refine⟨pz Z',Z',Z',pz Z',Z',Z',i' b.l1 ?_⟩;have ml:(List.zipWith (yf B.ct) B.ow B.un).length=B.un.length:=by rw[gj,bs.ow,gI]
    refine uL (ps.map D.ref) (λpr U M2=>wC M M2 {B with un:=(List.zipWith (yf B.ct) B.ow B.un).take pr.length++B.un.drop pr.length} gs p1 p2 ps/\∃y4,U=[ga (.ref r),ga (.ref p1),ga (.ref p2),ga (Ev.d .turn),y4]) (λ_ _ _ j=>j.1.l1) _ [] _ _ Z' ⟨b,_,Z'⟩ ?_ ?_
    .rintro pr d post ee U M2 ⟨b2,y4,rfl⟩ nx2 Zu
     obtain⟨p,hp,rfl⟩:=uS (show(ps.map D.ref)[pr.length]?=ga d by rw[<-ee];simp);rw[de,dI]at Zu;obtain⟨o,x,u,f1,f2,f3,f4⟩:=b2.oj _ p hp;have lt2:pr.length<B.un.length:=by rw[<-b.ln];exact(c9.mp hp).1
     have f5:B.un[pr.length]?=ga u:=(Jd ml lt2).symm.trans f3;have f1:B.ow[pr.length]?=ga o:=f1;have f6:(List.zipWith (yf B.ct) B.ow B.un)[pr.length]?=ga (yf B.ct o u):=by rw[iR,f1,f5]
     have tk:yf B.ct o u=u+(if inD (.int (o:Nat)) (gs.map vj)=Db then 1 else 0):=by
      unfold yf;rw[agk o (fj f1),QK];split
      .rfl
      .exact(mw u).symm
     refine⟨by decide,i' f4 (i' Z' (i' f4 (i' Z' (i' Z' (i' b2.l2 ⟨Z',Ht gs,?_⟩)))))⟩;refine i' f4 (i' Z' ?_);have b3:=b2.set hp B.ow _ ((JS ml _).trans (JS ml _).symm) f1 f2 (Nm ml f6) (λ_ _=>rfl) (λi hi=>Lx ml f6 hi);rw[tk]at b3;exact Zu _ _ ⟨b3,_,Z'⟩
    .rintro U M2 ⟨b2,y4,rfl⟩
     refine X2 _ _ ⟨p2,_,_,ps,?_,Z'⟩;rw[cY,b.ln,j8 (dv _),eO,eJ (jE ml)]at b2;exact b2
   | sw o i=>cases o<;>exact⟨pz Z',Z',Z',pz Z',Z',Z',X2 _ _ ⟨p2,_,_,ps,b,Z'⟩⟩
   | _=>exact⟨pz Z',Z',Z',pz Z',Z',Z',X2 _ _ ⟨p2,_,_,ps,b,Z'⟩⟩
  .rintro U M' ⟨p2,y3,y4,ps,b,rfl⟩
   have bs:=yy es es.length (dv _);rw[cY,eJ (dv _)]at b;rw[eJ (dv _)]at bs;generalize sm es=B at b bs q;have hu:=bs.un;refine i' b.l1 ?_;refine yt (ps.map D.ref) (λpre acc U XZ=>M'=XZ/\acc=(sF B).take pre.length/\∃y0,U=[y0]) (λ_ _ _ M' j=>by rw[<-j.1];exact b.l1) _ [] [] _ _ Z' ?_ ⟨Z',Z',Fa,Z'⟩ ?_ ?_
   .rw[cY,b.ln];simp only[dN];lia
   .rintro pre d post e acc U _ ⟨rfl,ha,y0,rfl⟩ k hk
    obtain⟨p,hp,rfl⟩:=uS (show(ps.map D.ref)[pre.length]?=ga d by rw[<-e];simp);obtain⟨o,x,u,f1,f2,f3,f4⟩:=b.oj _ p hp;rw[de,dI,show(sF B).take (pre.length+1)=(sF B).take pre.length++[IV x u]from Fh _ f2 f3]at hk;exact i' f4 (i' Z' (i' f4 (i' Z' (i' f4 (i' Z' (i' f4 (i' Z' ⟨pz Z',hk _ _ _ ⟨Z',by rw[ha];rfl,_,Z'⟩⟩)))))))
   .rintro acc U _ ⟨rfl,ha,y0,rfl⟩ p hp
    rw[cY,b.ln,eJ (by unfold sF;rw[gj,bs.rs,gI];lia)]at ha;rw[ha];exact⟨_,.refl,q p _ (b.s.trans (.new hp)) (b.s.none hp) pK⟩
seal L3.E3 L3.B3 L3.A3 L3.S3 L3.Hu
def Lz:rq:=λds M Q=>∃ns:T0 Int,ds=[.rl (ns.map D.int)]/\ns.length<=63/\Q (.bl Db) M
theorem JR:∀(n:Nat) (d:D),vG n d=Db->vG (n+1) d=Db
 | 0,d,h=>by
  cases d with
  | tup ds=>cases h
  | ref _=>cases h
  | ty _=>cases h
  | rl _=>cases h
  | _=>rfl
 | n+1,d,h=>by
  cases d with
  | tup ds=>exact eR.mpr λd hd=>JR n d (eR.mp (show ds.all (vG n)=Db from h) d hd)
  | ref _=>cases h
  | ty _=>cases h
  | rl _=>cases h
  | _=>rfl
def Sy:Fq P w K mg base 17 a.ai Lz:=by
 refine fq G.ai.toDG BW (λr u=>⟨_,(pB (pQ 1 BW (pO (KH G) r G.bx (rZ v0 (pO (MZ G) r G.bn (rZ v0 pE)))))
 (pB (pQ 2 BW (qw sJ Z' G.r sD (qp (pJ U1))))
 (pB (pQ 3 BW (pO (P8 G) r G.bA (qp U2)))
 (pB (pQ 4 BW (pO (Hm G) r G.aa (qp U2)))
 (pB (pU (W3.b3 (xF (vF (uB (pO (J4 G) r G.ah (rZ v4 U3)))) (wb (pL u U2 (pJ U1)))))
 (pC (pH wI))
 pP)
 (pB (pR (qL v4 (qp rW)))
 (pB (pR (Df v4))
 (pC (pH (pO (J4 G) r G.ah (rZ (pO (Hm G) r G.aa (qp U2)) U3))))))))))),?_⟩)
 rintro ds M Q ⟨ns,rfl,hns,q⟩
 have hz:=dQ;have ok:rj (CO ns 4):=PX (by decide) (by decide);refine⟨ns,4,Z',by decide,by decide,λr1 r2 r3 M1 s1 h1 h2 h3=>?_⟩;generalize CO ns 4=l at h1 h2 h3 ok;refine⟨ns,r1,r2,r3,l,Z',h1,h2,h3,ok,λM0 M2 A V s2 g=>?_⟩;have sM:=s1.trans (s2.trans g.cu.s0);clear s1 s2 h1 h2 h3;dsimp only[rR];refine pD g.cu.bd.at_ (i' Z' (i' g.cu.bd.lo λpg hpg=>?_));obtain⟨M3,e0,t1,lg⟩:=xI (ds:=V.log.map Ev.d) hpg;rw[<-e0];have hlo:=g.cu.sz.lo;dsimp only[rR];refine⟨pg,V.log,Z',lg,by lia,λk o ho=>g.fi.agree k ho,λpd M4 s4 hpd ld=>?_⟩;dsimp only[rR];refine⟨pg,V.log,Z',s4.lst lg,by lia,λpf M5 s5 hpf lf=>?_⟩;have bs:=yy V.log V.log.length (dv _);rw[fK]at bs;generalize hB:sm V.log=B at ld lf bs;have hu:=bs.un;dsimp only[rR];refine⟨pf,pd,B,Z',lf,s5.lst ld,G6 ?_⟩;refine pD ((t1.trans (s4.trans s5)) _ _ g.cu.bd.at_) (i' Z' (i' (DI ((s4.trans s5).lst lg) ((t1.trans (s4.trans s5)).lst g.cu.bd.lo) λd hd=>?_) (G6 ?_)))
 .obtain⟨v,_,rfl⟩:=dF.mp hd;exact CQ 7 _ (JR 6 _ (Pj v))
 refine⟨eC Option.isSome lf,i' lf ⟨?_,?_⟩⟩
 .unfold sF;rw[gj];lia
 refine⟨eC Option.isSome pK,i' pK ?_⟩;have kp:qT pf M5 (pI (pI M5 pf (.lst (sF B++[D.mK]))) pf (.lst (sF B++[D.mK]).reverse)):=qT.put.trans qT.put;generalize pI (pI M5 pf (.lst (sF B++[D.mK]))) pf (.lst (sF B++[D.mK]).reverse)=M7 at kp ⊢;have ng:=BX (pY (s4.lst lg)) hpf;have nd:=BX (pY ld) hpf;refine⟨pg,V.log,Z',kp.lst ng ((s4.trans s5).lst lg),by lia,λpe M8 s8 hpe le=>?_⟩;rw[hB]at le;exact⟨pe,pd,B,Z',le,s8.lst (kp.lst nd (s5.lst ld)),M,sM.trans (t1.trans (s4.trans (((s5.keep.trans kp).new hpf).trans s8))),q⟩
end
end Z
end
structure PySem.W.Fast:Prop where(tw9781082890823134818 tw9289140448432371718 tw9244285612281193581 tw8427874849903528974 tw7327361984801111386 tw724485677680274344 tw6497497241968981377 tw6077211013590162160 tw5962833531160577680 tw5926017341385466128 tw4247076083284093611 tw4105990378890408390 tw4085371749888563048 tw3781462380912170933 tw3666275899070024050 tw3507979744638447973 tw18397423883507080693 tw18212904768926869694 tw17839457623745297930 tw16616639268544612897 tw16362324184137809464 tw15938930986609191939 tw15602153941940958069 tw15400098204114617328 tw13945036648145530998 tw13614788095689952951 tw1292773734811661413 tw12507178162645868003 tw11336343770131154113 tw10870550207976341483 tw15620446011044833426 tw12325874921604912512 tw12163718832593894295 tw13787149207693027039 tw16742564909966151421 tw12648561568374213037 tw7255051879072612903 tw9440982616912495351 tw6618719806450148739 tw9957332875820993693 tw8597807546921862041 tw5476042676067743697 tw4652843568519366537 tw136260818765689880 tw2112187137723320867 tw5556791346274591134 tw1668832210961933410 tw2793226390499313933 tw9131699668812505264 tw14458268142502902098 tw4072027591437879018 tw330302709874336328 tw2987341781672008101 tw11672718670988706520 tw3407978963216225998 tw1135853989010998413 tw2109769411995084390 tw9427533891568849145 tw8223098492397353010 tw15658923482758570993 tw12704745074902164309 tw16543330795044996865 tw14077125485947121755 tw6242229743378441617 tw2179451679168805565 tw8188660759716332810 tw17838833799715137295 tw15670400606065089749 tw10158305068915656056 tw11376491124638972946 tw3498403421160109894 tw2237623303904351784 tw12773201727771364949 tw9273157978021891061 tw709037276353132608 tw7348372102864245198 tw4693325750643617948 tw2714946230519218086 tw5627505189059339628 tw7050893666805650728 tw14132746896401100458 tw1270383138871992345 tw17350776441614508101 tw7720383286397531376 tw7090172755565920620 tw10549857357887753750 tw6843871351324746013 tw10934360514400403312 tw4001492858778767984 tw11712296150302487324 tw17808521805439491527 tw3165011513504014183 tw10276421386808093529 tw7972626584419267024 tw2778585493509486048 tw5167509711525474759 tw15775870650077461357 tw15837670634842542622 tw6892643673539304594 tw4207124984353554413 tw7606421451390827705 tw16775740551973874638 tw14213103611452373877 tw11135713333017736731 tw4301620206377681989 tw1448656179176883009 tw4131850812958234557 tw14320379106839893066 tw1264112411019970292 tw1266307504073946529 tw7968754073238176699 tw5551296616056679365 tw8554004874502070881 tw15962933348199003525 tw11980465433166056012 tw9516096918707353905 tw12043751293707832601 tw16954910305777630262 tw7229360410909145553 tw7553559978277427759 tw12591947096333362141 tw15287352081725664427 tw12986176915710096543 tw1239581996261596742 tw9413827191520008335 tw4686115278646048529 tw4965272101871415568 tw17602666602429687175 tw9415369616899616606 tw9344465187630376941 tw12791980586751856676 tw854249556631410509 tw4376265459702102912 tw5517220778590089370 tw10255843633468019859 tw3665930072369482339 tw974783125820596907 tw4010734859959747008 tw5459786863723281144 tw10780364891141065055 tw16274399375085448401 tw3886311786729275173 tw17043349973258774334 tw18181753601865132586 tw18188519510565426817 tw3775206388002488087 tw5457768928125647664 tw3849241085206770859 tw10399662719394483082 tw6780758905509700850 tw2762632749756600644 tw10178348172901355256 tw6487701974677525368 tw8507442447728265755 tw99169874695266954 tw8165548553483070681 tw15782364318331342230 tw3185821317335557132 tw918181791952457408 tw3970463939438447070 tw4235819715802849174 tw4836328426341472978 tw8714183502957408541 tw6374796801053106444 tw18151807121218316904 tw14797467005083970784 tw11440963950407229289 tw275683879364907391 tw7822838446964955634 tw242052796585677842 tw6269220070515239384 tw11030917254286794693 tw11473077069253335957 tw7826411775693986198 tw1904775319634808687 tw13384640123955815748 tw9107836137670448537 tw284008663744969894 tw17333594679278914527 tw4868192611560896932 tw8687454201060497323 tw5158470720906533807 tw4060209472895806289 tw8243132349676017490 tw12024685079020792028 tw13256255322469692596 tw13110440952096990609 tw8913363096084221371 tw5186075412255207523 tw7301937496025671412 tw18435009306048794502 tw8494180136590291743 tw14115976201743738854 tw3263712144649730812 tw10569580931348104545 tw2084617263803652591 tw10726811284285225058 tw8590457798772709839 tw3031902369939560792 tw5855859229488987242 tw17657107891913693713 tw11067847097381294292 tw2881797600181498266 tw7770674508584185810 tw7991611862104128309 tw11129227792979978402 tw15676299059881695568 tw4302981371148200631 tw2441545531503824666 tw2182410932846086691 tw8813915148365654978 tw15183764462520269352 tw12793875452412117654 tw3724044503867656943 tw10342369754307977157 tw14034443391441161366 tw4928842748729488510 tw10702899970336665128 tw10290339192327193111 tw10684228514860353794 tw4776435412217423176 tw14102119861279221548 tw15257106247170214978 tw2764934699795886702 tw5979143090747004860 tw1344148984613182485 tw7865560780188832598 tw4598100340169688253 tw9174770980214005181 tw8953272056880029154 tw8774757840791514157 tw9046257870620848799 tw5569972806544557574 tw15735664619278234668 tw13485225745108149417 tw2650116992669269279 tw16726896721615256615 tw158598491221329630 tw8829812743177827627 tw7392498101854231479 tw4627645963700799896 tw9580184308043031202 tw8495560679481369386 tw2554274404569411848 tw15793708720110435004 tw7616995793102317938 tw6846158552892060102 tw13079775276067610419 tw13641117462416008528 tw1618000264656377386 tw13015317686121995847 tw1727021767234193063 tw15237289749615728946 tw16962712270677073100 tw5794369306043663053 tw1264853571595231721 tw12450800959832284936 tw15512701015030935730 tw5604471296580174596 tw18306947345314836358 tw15028897850867059520 tw6361184726169708544 tw1238923332953874126 tw11419648415998470820 tw4210875671529249018 tw12867490338167430116 tw6327721864483037354 tw13876289023133329478 tw1982736639279985618 tw582894168176415702 tw734828703974994698 tw15956643348597252161 tw13440126281120953306 tw7313527080598755745 tw11589898759501251035 tw9287794560023846022 tw16335304019966359454 tw8453428275976729212 tw10096458301410523591 tw9584993166831905832 tw10989189952966598188 tw17349544689893850513 tw14768890609213018836 tw14501911912487203079 tw5459279503122123057 tw17739411022735597735 tw9842520865896900994 tw16645837997277734554 tw9831670603369988236 tw7735808308144859709 tw18237343799159842935 tw12672892776979073715 tw6254867099521792031 tw4781385048003888049 tw8573111667528358172 tw4641941084732865667 tw20745614682026103 tw18181041521268342230 tw7933437288084228236 tw16063796576607744105 tw12073986505690308829 tw2202371040744534259 tw17912837779984546208 tw1578729594582587374 tw11482071542982533614 tw2603245256799106485 tw1984113260933945258 tw1196610908128190063 tw16146646663688322069 tw1381817000985722516 tw14386438655360096261 tw10598115781221053704 tw3413653628349003338 tw16530487402468056508 tw4110123068665922105 tw14433479862457982167 tw10208821570921863965 tw12813036575693655270 tw9552821147584879680 tw16029630775455198600 tw11410193497389213311 tw6896162797740968627 tw12002890832229840987 tw15084047925034432506 tw15929662868343213969 tw4492800806332013791 tw16869864851916174604 tw12812177324154014080 tw8376537699040765960 tw8839056468430415249 tw11649449062964108271 tw15356880135769797217 tw14957575806776268341 tw8516506088172377107 tw16343096298225481956 tw3382184605159469150 tw13306410961946191167 tw17957421955524583073 tw14930782837404489262 tw709526142448142321 tw17905415758100980214 tw17599979665003369817 tw15420924550953798584 tw13842032502755257588 tw769616017967984264 tw1756562998187657060 tw16921568045022408413 tw764922813680247867 tw171773919044898573 tw1946993818683173550 tw14118005069176520817 tw13287827978975223498 tw13812726096469384573 tw698098752865927186 tw971371886944017100 tw14142235528369190329 tw3439810193948128598 tw15240387604724782894 tw7269205220200936395 tw13916880388799299361 tw14179272233916397517 tw2442005966744686888 tw11025065025561112814 tw10967415127046514198 tw12633852041353829072 tw11735949334944931637 tw8988354794044558541 tw10837840546990983434 tw8872412390893424049 tw16846619396252114984 tw7125004027835899563 tw5189244237237309911 tw15110902842518516615 tw17734508023265627755 tw8453286412286104760 tw9445729699201931303 tw6869744764945229889 tw5824079174723690689 tw15458706759746941644 tw15367261358667364233 tw7445365773882722049 tw3859540116378703822 tw15617866812951635863 tw12841254131362205200 tw4726857875651676902 tw13859937747522763392 tw2651686432967770334 tw2159366802283371068 tw1259723533358054386 tw11594263141213919763 tw6897127709406589910 tw15997038702742168137 tw14680592467542991867 tw1238895271394529253 tw7212020250214700539 tw3149490247045870712 tw17898371747698175701 tw15967365276755319007 tw14061183195681109262 tw1460184564392686652 tw7187889357236082636 tw535112915807714845 tw5524008504447165695 tw12857526183773292509 tw9625441651628244145 tw8779731621196391037 tw3938240741730717482 tw11362558653216706923 tw4311937959444483845 tw15762365223471212390 tw10776675491378535431 tw8526881606687893883 tw7868074459719923980 tw7817542092882832912 tw7450978721829421957 tw6543681993771519140 tw167360474545845164 tw12205394775557451263 tw2579859932398397621 tw14794606379437002905 tw10654891496488985019 tw966136842351568260 tw9122366645758780662 tw4431286892843916301 tw17292484519246047570 tw12469888968232037020 tw3965579918094772927 tw17699321995809360068 tw14502227054932573913 tw13946990796334664889 tw9202998829106386519 tw18078227401878471352 tw2313493591735996298 tw13571592082032319474 tw771587599673855344 tw5816241054351616165 tw4574648303702128939 tw3528795394648818022 tw2920173623883026638 tw12378710068234426913 tw5610285745341545660 tw13479650216108232851 tw12728550280209313063 tw8631819250045671606 tw14175209504909710441 tw4162228709807627803 tw13517775632836763164 tw11715987598022816560 tw5500732707872925746 tw14547068206982797542 tw4360123677370753238 tw16414343438627156483 tw14103080127962041865 tw5591311148070346176 tw3113783738766782731 tw17356979524800177103 tw12204170341825110028 tw6832335211076574398 tw8933379202214596965 tw8628182090746652364 tw6583913950413599702 tw14849726122144442505 tw13271160522390040326 tw10279039976418967205 tw9210963732317769026 tw11772341432077033548 tw9422754713357956581 tw550660841916628505 tw2359306770086633060 tw14249652939579016422 tw9492699472280625769 tw4540221325633936090 tw5030295586708527578 tw16426919857924760361 tw3666584739025285875 tw16949245882474499865 tw1037572999730844666 tw10363755031852723096 tw7394659235531836441 tw5263757663195200402 tw3687885512094634881 tw9335535741431107839 tw13418543887176453316 tw8687701625999737112 tw16359261896908189028 tw15766392698678656455 tw7665939859976589945 tw3826312682393991130 tw8839716031628035070 tw17739539663572276324 tw3498809051607366043 tw3194471513786439165 tw11257645085286256575 tw12205762361570978945 tw5933700027972674796 tw5343039112113548906 tw4342313793544657277 tw4197371423484937432 tw3042357468278725765 tw13522797158599710000 tw12420326737895528115 tw11565756433799947555 tw10976958379271035439 tw10279811557831570084 tw7925597900671685735 tw14296108127056579483 tw7422058868146285240 tw5147869437342285590 tw14226838841574961082 tw11963951642983214359 tw6424670846726847062 tw14363155866622278228 tw3281508803607296870 tw15369937579988320085 tw10341981675362822317 tw18144235253682213454 tw14576895288955723959 tw8848167433638346110 tw18163171999290336321 tw13587521355291979877 tw4071002021450553820 tw3710796691256050319 tw17956086870333988049 tw4936254194421724608 tw18388644765155140940 tw17778852913062162500 tw4816427842706886679 tw2616942412575095729 tw14119722881058527948 tw13878282529921987762 tw7757885539486345540 tw1630470546118095264 tw5238146089455519627 tw14406703263143107070 tw14507188108021625890 tw568282553460878386 tw15546170922856194563 tw2616476157495760688 tw1453703816241736934 tw13973514733039148812 tw12629813739115647787 tw7900912838070883736 tw15057577355108036167 tw2034514818837196245 tw17508400592542773728 tw9542828182811489572 tw5906011922997659496 tw1704430856394875423 tw10006412992819645050 tw4344871208577383789 tw2972519464058192709 tw2886336312458685959 tw286230641750470252 tw5089473646639321582 tw2128651906458467666 tw6591476372395948651 tw14101639608238011401 tw8872895166639081488 tw1621665558877045949 tw10846500999338058796 tw10433294358620613410 tw11136131730860476685 tw1300659379225412802 tw16783253464313578767 tw1642840912697344848 tw9094287077519604580 tw6992905851021665490 tw6441021446249967950 tw17408253421834478570 tw9569365533071431612 tw6400537347591532199 tw4162582386718455867 tw1687819286919144488 tw13712710547567565319 tw1031593204617854951 tw9133253251729521627 tw8122746064367170383 tw4252023043938257372 tw1845701604196803907 tw18393800121607372178 tw18261856427298827896 tw17717313113645424008 tw16560684414649178595 tw14632175110436858794 tw1411736279505980962 tw12173533291380256981 tw14534021464507977547 tw12847973757062857304 tw8114854778287089650 tw17032023134144852214 tw8016123930017299965 tw7202665115911783637 tw6445842414074272195 tw4419934714452289523 tw2681164349077317596 tw10292639642307252733 tw8855582107737476993 tw7357619358829988931 tw6734514497530854542 tw6536247224828613168 tw15927676692721384190 tw1547606721402321 tw14115690795875595941 tw13059383124262095175 tw12681140380968569650 tw10983499728681329029 tw717009098145551695 tw4695160327773124706 tw2881952495588776520 tw16552276113071335335 tw9629441096458288312 tw4491922283313148688 tw16055684360123088600 tw11572689390412884328 tw9098632306455543260 tw8237154990228767011 tw7902470488427173984 tw6453498768399760677 tw5923909841528214319 tw4984029252188704189 tw4712442474724779995 tw18157259122338830989 tw14647299121111597044 tw13123307100078127430 tw11860567470632092375 tw11249251032391696577 tw10585166391073419451 tw10221737100557537449 tw6874071033051607559 tw3315490978093318405 tw11432270413061882481 tw16183795814828557030 tw14914141965412269176 tw12279480738386189696 tw17108259540054361017 tw16170965435537023173 tw10028470362207170672 tw714707670858836850 tw3231417594830265677 tw14037142214349252036 tw3336438796907750130 tw2046525538321409855 tw13122172148965922969:True)
open PySem PySem.W PyProof.Rows L2 L3
def xZqN:Option Obj->Option Obj
|some ⟨_,_,.freed,_⟩=>none
|o=>o
def xZqP (h:Heap):List Nat->Nat->List Obj->List (Option Obj)
|[],_,_=>[]
|a::l,i,r=>bif i.ble a then xZqN (r.drop (a-i)).head?::xZqP h l a (r.drop (a-i)) else h.get? a::xZqP h l i r
theorem xZqQ (h:Heap):∀l i r,r=h.objs.toList.drop i->xZqP h l i r=l.map h.get?
|[],_,_,_=>rfl
|a::l,i,r,e=>by
 unfold xZqP;cases z:i.ble a with
 |false=>exact congrArg (h.get? a::·) (xZqQ h l i r e)
 |true=>
  have d:r.drop (a-i)=h.objs.toList.drop a:=by have:=Nat.le_of_ble_eq_true z;rw [e,List.drop_drop];congr 1;omega
  show xZqN (r.drop (a-i)).head?::xZqP h l a (r.drop (a-i))=_;rw [xZqQ h l a _ d,d,List.head?_drop,Array.getElem?_toList];rfl
def xZqH (K:Params->Frag) (as:List Addr) (e:∀P,as=(K P).map (·.1)) (_:Unit):Hook:=⟨_,λs=>xZqP s.heap as 0 s.heap.objs.toList,λw=>(K w.params).map λp=>some p.2,InK K,λw s x=>InK.of e w s ((xZqQ s.heap as 0 s.heap.objs.toList rfl).symm.trans x),InK.keeps⟩
local macro_rules|`(tactic|o_head ($f $k $a $e))=>`(tactic|o_head (xZqH $k $a $e ()))
set_option maxRecDepth 100000 in
set_option maxHeartbeats 0 in
theorem PySem.Challenge.cw_callboard_k54_bills_walked_holds : PySem.Challenge.rw_callboard_k54_bills_walked.Holds := by
 w_on;o_law;k_head;(case hw=>w_witness2)
 k_fill
 refine L3.MR (l:=PySem.Challenge.rw_callboard_k54_bills_walked) (sp:=Z.Lz) (k:=17) (x:="_law_script") rfl rfl ⟨rfl,by decide,by decide⟩ (λ_ _ Y=>Y) (λns hl=>⟨ns,rfl,hl,rfl⟩) ?F;case F=>
  intro w mg fa h KX G hmg;suffices h:∃a:Z.Ad,Z.Gl _ mg a/\∀(s:Shared) (u:Value),BindsTo s a.ai.d ⟨[u],[]⟩ [("_law_script",u)]by obtain⟨a,g,hb⟩:=h;have e:=hmg.symm.trans g.ai.mg;cases e;exact⟨a.ai.d,hb,λbase _ _=>g.ai.pe ▸ Z.Sy g⟩
  refine'⟨⟨_,_,_,_,_,_,_,_,_,_,_,_,_,_,_,_,_,_,_,_,_,_,_,_,_,_,_,_,_,_,_,_,_,_,_,_,_,_,_,_,_,_,_,_,_,_,_,_,_,_,_,_,_,_,_,_,_,_,_,_,_,_,_,_,_,_,_,_,_,_,_,_,_,_,_,_,_,_,_,_,_,_,_,_,_,_,_,_,_,_,_,_,_,_,_,_,_,_,_,_,_,_,_,_,_,_,_,_,_,_,_,_,_,_,_,_,_,_,_,_,_,_,_,_,_,_,_,_,_,_,_,_,_,_⟩,⟨wR KX G ..,wR KX G ..,wR KX G ..,wR KX G ..,wR KX G ..,wR KX G ..,wR KX G ..,wR KX G ..,wR KX G ..,wR KX G ..,wR KX G ..,wR KX G ..,wR KX G ..,PySem.W.mg_of KX G ?_,PySem.W.mg_of KX G ?_,qx KX G ..,qx KX G ..,qx KX G ..,qx KX G ..,qx KX G ..,qx KX G ..,qx KX G ..,qx KX G ..,qx KX G ..,qx KX G ..,qx KX G ..,qx KX G ..,qx KX G ..,qx KX G ..,qx KX G ..,qx KX G ..,qx KX G ..,qx KX G ..,qx KX G ..,qx KX G ..,qx KX G ..,qx KX G ..,qx KX G ..,qx KX G ..,qx KX G ..,qx KX G ..,qx KX G ..,qx KX G ..,qx KX G ..,qx KX G ..,qx KX G ..,qx KX G ..,qx KX G ..,qx KX G ..,qx KX G ..,qx KX G ..,qx KX G ..,qx KX G ..,qx KX G ..,qx KX G ..,qx KX G ..,qx KX G ..,qx KX G ..,qx KX G ..,qx KX G ..,qx KX G ..,qx KX G ..,qx KX G ..,qx KX G ..,qx KX G ..,qx KX G ..,qx KX G ..,qx KX G ..,qx KX G ..,qx KX G ..,qx KX G ..,qx KX G ..,qx KX G ..,qx KX G ..,qx KX G ..,qx KX G ..,qx KX G ..,qx KX G ..,ql ..,ql ..,ql ..,ql ..,ql ..,ql ..,ql ..,ql ..,ql ..,ql ..,ql ..,ql ..,ql ..,ql ..,ql ..,ql ..,ql ..,ql ..,ql ..,ql ..,ql ..,ql ..,ql ..,ql ..,ql ..,ql ..,ql ..,ql ..,ql ..,ql ..,ql ..,ql ..,ql ..,ql ..,ql ..,ql ..,ql ..,ql ..,ql ..,ql ..,ql ..,ql ..,ql ..,ql ..,ql ..,ql ..,ql ..,ql ..,ql ..,ql ..,ql ..,ql ..,ql ..,ql ..,ql ..,ql ..,L' ?_ ?_ ?_ ?_ ?_ ?_ ?_ ?_ ?_ ?_,Lf ?_ ?_ ?_,QN ?_ ?_ ?_ ?_,⟨?_,?_,?_,?_⟩,⟨?_,?_,?_,?_⟩,⟨?_,?_,?_,?_⟩,⟨?_,?_,?_,?_⟩,⟨?_,?_,?_,?_⟩,⟨?_,?_,?_,?_⟩,⟨?_,?_,?_,?_⟩,⟨?_,?_,?_,?_⟩,⟨?_,?_,?_,?_⟩,⟨?_,?_,?_,?_⟩,⟨?_,?_,?_,?_⟩,⟨?_,?_,?_⟩,⟨?_,?_,?_⟩,⟨?_,?_,?_⟩,⟨?_,?_,?_⟩,⟨?_,?_,?_⟩,⟨?_,?_,?_⟩,⟨?_,?_,?_⟩,⟨?_,?_,?_⟩,⟨?_,?_,?_⟩,⟨?_,?_,?_⟩,⟨?_,?_,?_⟩,⟨?_,?_,?_⟩,⟨?_,?_,?_⟩,⟨?_,?_,?_⟩,⟨?_,?_,?_⟩,⟨?_,?_,?_⟩,⟨?_,?_,?_⟩,⟨?_,?_,?_⟩,⟨?_,?_,?_⟩,⟨?_,?_,?_⟩,⟨?_,?_,?_⟩,(pV ?_ (pV ?_ (pV ?_ (pV ?_ (pV ?_ (pV ?_ (pV ?_ (pV ?_ tK)))))))),(pV ?_ (pV ?_ (pV ?_ (pV ?_ (pV ?_ (pV ?_ tK)))))),(pV ?_ (pV ?_ (pV ?_ tK))),(pV ?_ (pV ?_ (pV ?_ tK))),(pV ?_ (pV ?_ (pV ?_ tK))),(pV ?_ (pV ?_ (pV ?_ (pV ?_ (pV ?_ tK))))),(pV ?_ (pV ?_ (pV ?_ tK))),(pV ?_ (pV ?_ (pV ?_ (pV ?_ tK)))),(pV ?_ (pV ?_ tK)),(pV ?_ (pV ?_ tK)),(pV ?_ (pV ?_ (pV ?_ (pV ?_ (pV ?_ (pV ?_ (pV ?_ (pV ?_ tK)))))))),C4,C4,C4,TH QO ?_ (λ_=>rfl),PySem.W.mg_none_of KX G ?_,PySem.W.mg_none_of KX G ?_,PySem.W.mg_none_of KX G ?_,PySem.W.mg_none_of KX G ?_,PySem.W.mg_none_of KX G ?_,PySem.W.mg_none_of KX G ?_,PySem.W.mg_none_of KX G ?_,PySem.W.mg_none_of KX G ?_,PySem.W.mg_none_of KX G ?_,PySem.W.mg_none_of KX G ?_,PySem.W.mg_none_of KX G ?_,PySem.W.mg_none_of KX G ?_,PySem.W.mg_none_of KX G ?_,PySem.W.mg_none_of KX G ?_,vY (PySem.W.mg_of KX G ?_),vY (PySem.W.mg_of KX G ?_),vY (PySem.W.mg_of KX G ?_),vY (PySem.W.mg_of KX G ?_),Q7 (PySem.W.mg_of KX G ?_) (uC (ss:=["all","turns"]) ?_ (.cons ⟨_,rfl⟩ (.cons ⟨_,rfl⟩ .nil)) (Nat.le_of_ble_eq_true rfl)),vY (PySem.W.mg_of KX G ?_),vY (PySem.W.mg_of KX G ?_),vY (PySem.W.mg_of KX G ?_),Tj (PySem.W.mg_of KX G ?_),Q4 (es:=[⟨_,.str "bar" _,.ref _⟩,⟨_,.str "shut" _,.ref _⟩,⟨_,.str "always" _,.ref _⟩,⟨_,.str "night" _,.ref _⟩,⟨_,.str "busy" _,.ref _⟩,⟨_,.str "silent" _,.ref _⟩,⟨_,.str "wait" _,.ref _⟩,⟨_,.str "breaks" _,.ref _⟩]) (PySem.W.mg_of KX G ?_) ?_ ?_ (.cons rfl ⟨_,rfl,(uC (ss:=["phone","names"]) ?_ (.cons ⟨_,rfl⟩ (.cons ⟨_,rfl⟩ .nil)) (Nat.le_of_ble_eq_true rfl))⟩ (.cons rfl ⟨_,rfl,(uC (ss:=["name","phones"]) ?_ (.cons ⟨_,rfl⟩ (.cons ⟨_,rfl⟩ .nil)) (Nat.le_of_ble_eq_true rfl))⟩ (.cons rfl ⟨_,rfl,(uC (ss:=["name","name"]) ?_ (.cons ⟨_,rfl⟩ (.cons ⟨_,rfl⟩ .nil)) (Nat.le_of_ble_eq_true rfl))⟩ (.cons rfl ⟨_,rfl,(uC (ss:=["name","name","hour","hour"]) ?_ (.cons ⟨_,rfl⟩ (.cons ⟨_,rfl⟩ (.cons ⟨_,rfl⟩ (.cons ⟨_,rfl⟩ .nil)))) (Nat.le_of_ble_eq_true rfl))⟩ (.cons rfl ⟨_,rfl,(uC (ss:=["name","name"]) ?_ (.cons ⟨_,rfl⟩ (.cons ⟨_,rfl⟩ .nil)) (Nat.le_of_ble_eq_true rfl))⟩ (.cons rfl ⟨_,rfl,(uC (ss:=["name","name","turns"]) ?_ (.cons ⟨_,rfl⟩ (.cons ⟨_,rfl⟩ (.cons ⟨_,rfl⟩ .nil))) (Nat.le_of_ble_eq_true rfl))⟩ (.cons rfl ⟨_,rfl,(uC (ss:=["phone"]) ?_ (.cons ⟨_,rfl⟩ .nil) (Nat.le_of_ble_eq_true rfl))⟩ (.cons rfl ⟨_,rfl,(uC (ss:=["phone"]) ?_ (.cons ⟨_,rfl⟩ .nil) (Nat.le_of_ble_eq_true rfl))⟩ .nil)))))))),vY (PySem.W.mg_of KX G ?_),vY (PySem.W.mg_of KX G ?_),vY (PySem.W.mg_of KX G ?_)⟩,λs u=>.of_eq rfl⟩
  all_goals try first|k_is|(intro _ _ _ _ _ _ us hl;rcases us with _|⟨_,_|⟨_,_|⟨_,_|⟨_,_|⟨_,_|⟨_,_|⟨_,us⟩⟩⟩⟩⟩⟩⟩<;>first|rfl|(exfalso;revert hl;simp;done))|rfl
