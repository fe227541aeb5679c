import PyProof.Rows.All
import Wide.All
import OpenK.AllK
import Wide.FinOn
import PyProof.EqAt
import PyProof.EqKinds
import PyProof.TupleCall
import PyProof.AttrMiss
import PyProof.IsiH_list
import PyProof.Rows.SetFrom
import KE.KDictOf
import KE.KTab
import PyProof.AutoListH
import KE.KSortTup
import KE.KItemsList
import KE.KEqDict
import KE.KIntText
import Lean
import PyProof.RulesRaise
import PyProof.RulesTry
import KE.KTryDeep
import KE.KTryMore
import KE.KTryOn
import KE.TryInHelper
import KE.TryLedger
import PyProof.ExcArgsOwn
import PyProof.ExcAttrAll.ValueError
import KE.KIsAll
import PyProof.ExcBaseAll.ValueError
import PyProof.InstStoreFacts
import PyProof.ExcInit
import PyProof.SeqI3
import PyProof.ConsumeWalk
import PyProof.Rows.SortWalk
import PyProof.ListRange
import PySem.Challenge.RW_callboard_k21_who_is_where
set_option genInjectivity false
set_option genSizeOfSpec false
set_option genSizeOf false
set_option Elab.async false
set_option linter.all false
set_option maxRecDepth 100000
set_option maxHeartbeats 4000000
open LawfulBEq renaming eq_of_beq->Ix
open List renaming length_map->c9,getElem?_eq_getElem->df,length_append->dg,getElem?_eq_some_iff->dh,mem_cons->dA,size_toArray->dE,mem_singleton->dG,mem_map->dI,getElem?_map->dJ,mem_cons_of_mem->dM,mem_cons_self->dO,not_mem_nil->dQ,length_nil->dS,length_singleton->dX,map_append->dY,nodup_cons->dZ,map_cons->eh,map_map->eA,mem_append->eB,nil_append->eC,length_cons->eE,length_range->eI,mem_append_right->eM,lookup_cons->eN,replicate_succ->eO,nodup_nil->eP,all_eq_true->eR,getElem?_set_self->eU,getElem?_set_ne->eZ,append_nil->e9,getElem?_append_right->fi,getElem?_append_left->fk,append_assoc->fz,mem_of_getElem?->fA,take_length->fD,cons_ne_nil->fF,length_pos_iff->fG,mem_filter->fK,mem_append_left->fL,all_cons->fN,find?_cons->fQ,length_take->fT,any_cons->fU,exists_cons_of_ne_nil->fV,mem_range->fW,flatten_cons->fX,nodup_append->fY,mem_of_find?_eq_some->gb,foldl_cons->gi,filterMap_cons->gk,getElem_of_mem->gm,filter_sublist->gp,getD_eq_getElem?_getD->gv,length_drop->gw,length_modify->gx,length_eq_zero_iff->gC,filter_cons_of_pos->gD,filter_cons_of_neg->gF,map_congr_left->gG,any_eq_true->gI,filter_cons->gJ,getElem?_eq_none->gN,filter_map->gO,length_filter_le->gP,take_add_one->gS,drop_eq_getElem_cons->gW,getLast?_eq_none_iff->gX,find?_eq_none->ib,filter_append->ic,filter_nil->ie,take_of_length_le->ig,findIdx?_map->ik,getElem_mem->iu,length_set->iA,getElem?_zip_eq_some->iB,getLastD_eq_getLast?->iC,contains_cons->iK,getElem?_cons_zero->iN,findIdx?_eq_some_iff_getElem->iQ,length_replicate->iU,getElem?_toArray->iV,map_nil->iY,set_set->jc,range_succ->jd,mem_of_mem_take->je,mem_of_mem_drop->jf,mem_of_getLast?->jg,dropLast_subset->jh,getElem?_modify->ji,drop_zero->jq,map_id->jt,sublist_append_right->jL,pairwise_iff_getElem->jM,getLast?_eq_getElem?->jN,findIdx?_eq_none_iff->jO,all_map->jW,drop_length->jX,any_map->j3,eq_of_mem_replicate->j4,getElem?_replicate->j5,of_mem_zip->j8,forIn_cons->j9,find?_some->kh,range_succ_eq_map->ku,forIn_nil->ky,set_append_right->kG,map_drop->kU,getElem?_range->kX,filter_eq_self->k9,modify_eq_self->lb,mem_filterMap->lu,getElem_range->lG,findIdx?_cons->lH,set_cons_succ->lJ,any_eq_false->lM,foldl_append->lP,getElem_inj->ma,zipIdx_cons->mw,getElem_map->mB,nodup_range->mC,zipIdx_nil->mG,any_append->mI,map_take->mO,any_nil->mU,map_set->mV
open PySem renaming wpAny_bind->de,wpAny_pure->dz,sizeLine_eq->dR,wpAny_mono->eF,wpAny_holding->eJ,wpAny_field->fu,wpAny_truthy_bool->fv,wpAny_callSpecial?_slot->fS,wpAny_Call_Name_kw->gc,wpAny_call_entry->gf,wpAny_newObj_type->gg,codeAny_mono->gy,wpAny_seqItems->gH,wpAny_setField_rec->gL,wpAny_passesOwn->gM,wpAny_pyIter_list->gR,mem_of_lookup->g9,wpAny_standAt->hJ,wpAny_execs_nil->hU,codeAny_builtin->h9,wpAny_loadPart_at->ij,wpAny_setField->im,wpAny_call->ip,codeAny_call_builtin->ir,wpAny_pyIter_tuple->iI,wpAny_onRaise->iR,plainObj_wpAny_Assign_Attribute->iW,wpAny_specialOf->iZ,wpAny_updateSeq_pair->ja,isSubtype_type->jp,tupleKind_room_in1->ju,slot_dict_contains->jw,wpAny_sequenceKey->jD,call_meets->jJ,wpAny_execs_cons->jQ,wpAny_typeOf->jT,wpAny_comprehension_free->jV,codeAny_of_tree->ke,wpAny_pyNext_list_item->km,wpAny_pyNext_list_end->kx,builtinLookup_eq_fast->kz,weight_type_call_type->kA,getitemInPython_of_ne->kB,wpAny_rule->kI,wpAny_letTemporaryGo->kM,plainId_quiet->kQ,wpAny_attempt->kS,wpAny_isSubtype_exc->kZ,concat_meets->lz,seqIndex_neg->lB,wpAny_assign_Name->lK,wpAny_Assign_Name->lL,slot_list_getitem->lO,slot_dict_getitem->lR,wpAny_pyIter_enum->lT,seqIndex_of->lX,wpAny_letGo->lY,wpAny_pyHash_str->l0,wpAny_eqBool_int->l8,wpAny_lookBehind->me,pastItsLine_dict->mf,noFill_tuple_add->mi,check_set_init_1->mv,wpAny_pyIter_zip->my,wpAny_Name->mD,typeIs_int->mE,Addr->Uf,wpAny->Ch,sizeLine->pi,model->Tk,starEach->Tl,bootBuiltins->zn,Expr->Go,Heap->No,eval->wp,compareOp->Op,attributeBase->Ps,keywordEach->Rs,assignEach->At,FuncData->wv,mainGlobals->xz,backTo->sB,swapsWith->ZB,holding->TD,Stmt->wE,backToKw->xL,IsPair->IN,binaryOp->wP,NameKind->wS,behindInMarks->wT,foldedSetIterable->AT,sysModules->XV,getMethod->TW,ExcBaseFacts->X',rawInt->Y',cLine->XXa,scanBound->XXb,excClassObj->XXc,standAt->XXd,Scope->XXe,Keyword->XXf,getItem->XXg,sliceBounds->XXh,callWith->XXi,letOwnedTupleGo->XXj,codeAny->XXk,IsZip->XYa,Operator->XYc
def dq:=@if_neg
def dw:=@if_pos
def d9:=@decide_eq_true
def eG:=@decide_eq_true_eq
def eV:=@congrArg
def eY:=@decide_eq_false
def fg:=@beq_self_eq_true
def fj:=@or_false
def ft:=@beq_iff_eq
def fR:=@not_or
def fZ:=@of_decide_eq_true
def gj:=@beq_eq_false_iff_ne
def jn:=@if_false
def jo:=@if_true
def lV:=@bne_self_eq_false
open PySem.Heap renaming get?_push_of_some->dv,lt_size->dD,get?_push_size->dP,size_push->fB,get?_update_self->fP,get?_update_other->gu,get?_none_of_le->gU,get?_push_ne->iO,size_update->iT,get?_update_ne->jk
open Option.some renaming inj->dB,injEq->jF
open Nat renaming le_refl->dC,ne_of_lt->dN,lt_of_lt_of_le->dU,le_trans->eD,zero_le->eQ,lt_irrefl->fm,lt_succ_self->fM,lt_succ_of_lt->gh,le_succ->gq,ne_of_gt->gY,sub_self->io,succ_le_succ->iw,lt_trans->iD,lt_of_le_of_lt->iM,le_add_right->iS,le_succ_of_le->jG,le_of_lt->jP,le_of_not_lt->jU,mul_le_mul->kC,sub_zero->lD,min_eq_left->mJ,le_of_eq->mQ,succ_mul->mS,zero_add->mT,succ_pos->mW
open Bool renaming false_ne_true->dF,eq_false_iff->dH,and_eq_true->d6,true_and->eL,false_and->eW,false_or->fO,eq_iff_iff->gz,not_eq_true'->gT,or_eq_true->ia,true_or->il,and_eq_true_iff->iy,false_eq_true->iJ,or_false->jA,beq_comm->jB,not_eq_false->jI,or_true->lF,and_false->mL,and_true->mM,true->pc,false->lf
open Ne renaming symm->dW
open Int renaming eq_ofNat_of_zero_le->eK,emod_lt_of_pos->eX,emod_nonneg->fh,mul_le_mul_of_nonneg_left->jj,toNat_natCast->jC,emod_add_mul_ediv->kF,zero_add->mX
open PySem.PassesOwn renaming never->fC
open PySem.F renaming called_set->fE,slot_tuple_iterator_next->gQ,slot_list_getattribute->iE,slot_zip_next->jb,args_tuple_iterator_next_1->jr,entry_tuple_iterator_next->jx,slot_dict_getitem->jK,args_tuple_add_2->jS,store_ValueError->jZ,entry_tuple_add->j6,slot_dict_items->j7,slot_tuple_add->ko,attrBase_ValueError->kE,excBase_ValueError->kN,entry_type_call->lQ,args_zip_next_1->lU,typeCall_set_1->mo,entry_set_init->mq,entry_zip_next->mx,slot_int_rmul->mF
open PyProof.Rows renaming callWith_type1->fH,slot_tuple_getitem->fJ,callWith_builtin1->hZ,SetOf_congr->iG,setObjOf_fresh->jv,subscriptTail_builtinR->kr,listUpdate_at->kT,entry_tuple_getitem->kW,args_tuple_getitem->lA,seqEpoch_at->lZ,size_push'->mH,seqObj->sK,envOfC->dL,AllBare->XYb
open PySem.W renaming kia_one->gA,callWith_K->iX,looks_findIn->jm,methodCall_KW->kg,plainGet_of->kO,looks_clsIn->kP,kitx_list->lW,cellsFrom_some->mh
open List.cons renaming inj->gB
open PyProof.Rows.F renaming plain_set_update_loop->gK,entry_set_update_loop->iF
open Array renaming length_toList->gZ,getElem?_setIfInBounds_self_of_lt->iz,toList_append->jl,size_setIfInBounds->jY,getElem?_toList->kD,mem_toList_iff->kH,append_assoc->ls,find?_toList->ly
open PySem.Calls renaming spliced_cons->hW,spliced_nil->ii,Name_function_global->jz,callWith_builtin->kt
open PySem.Around renaming under_plainId->iq,under_plain->lC
open PySem.Code renaming quiet_builtin->iH
open List.Nodup renaming sublist->iL
open Option renaming map_eq_some_iff->iP,isSome_map->jE,isSome_iff_exists->jR,map_some->kc,getD_none->mj,bind_some->mz,some->Fa,none->Db
open PySem.Paired renaming length->jy,snoc->m7
open Sum.inr renaming inj->kl
open PySem.Walks renaming list->kK
open PySem.Heap.SameBut renaming update->kY
open PySem.SeqAt.EqAt renaming int_str->lj,str_int->lq
open PySem.Obj renaming data_mapFields->lE
open PySem.Heap.Ns1 renaming of_empty->lN
open Eq renaming symm->mK
open PySem.W.Looks renaming here->mP
open Prod renaming ext->mR
open PySem.Heap.FunFrames renaming of_keeps->mY
open PySem.IsRange renaming new->mZ
open PySem.Moved renaming trans->m8
open PySem.Heap.IsSliceOf renaming new->m9
abbrev qL:=PySem.W.Frag
local macro_rules | `(tactic| walk_at "l") => `(tactic| (intro _ _ _ h; repeat (first | (obtain ⟨e, _⟩ := h; subst e; rfl; done) | (cases h; rename_i h))))
local macro_rules | `(tactic| walk_at "m") => `(tactic| (intro _ _ _ _ h; repeat (first | (obtain ⟨e, _⟩ := h; subst e; rfl; done) | (cases h; rename_i h))))
abbrev Vl:=PySem.Value
abbrev Sd:=PySem.Shared
abbrev Pg:=PySem.Program
abbrev Ar:=PySem.Around
theorem Z'{α:Sort _}{a:α}:a=a:=rfl
abbrev Wo:=PySem.World
abbrev T0(α:Type _):=List α
abbrev QQQ:=List PySem.Str
abbrev QQX:=PySem.Value->PySem.Shared->Prop
abbrev QQY:=List (PySem.Addr×PySem.Obj)
abbrev QQZ:=PySem.Str->Option PySem.Value
abbrev QXQ:=List PySem.Addr
section
open PySem PySem.Spec PyProof.Rows
namespace L2
def x5{α:Sort u}{β:Sort v}{p q r:α->β->Prop}{C:Prop}(h:∃a b,p a b/\q a b/\r a b)(f:∀a b,p a b->q a b->r a b->C):C:=by obtain⟨a,b,h1,h2,h3⟩:=h;exact f a b h1 h2 h3
abbrev rH:=Sum Int Str
def Dc:rH->Vl->Bool
 | .inl k,v=>Value.isInt k v
 | .inr x,v=>Value.isStrOf x v
def Wy(w:Wo):rH->Int
 | .inl k=>hashInt k
 | .inr x=>hashStr w x
def sG:∀{k:rH} {v:Vl},Dc k v=pc->(∃i t,k=Sum.inl i/\v=Value.int i t)\/(∃x t,k=Sum.inr x/\v=Value.str x t)
 | .inl i,v,h=>by obtain⟨t,e⟩:=Value.isInt_shape (k:=i) (v:=v) h;exact .inl ⟨i,t,Z',e⟩
 | .inr x,v,h=>by obtain⟨t,e⟩:=Value.isStrOf_shape (x:=x) (v:=v) h;exact .inr ⟨x,t,Z',e⟩
def KB(i:Int)(t:Tok):Dc (.inl i) (.int i t)=pc:=by simp[Dc,Value.isInt]
def KH(x:Str)(t:Tok):Dc (.inr x) (.str x t)=pc:=by simp[Dc,Value.isStrOf]
def T5(a b:Int):decide ((Sum.inl a:rH)=Sum.inl b)=(a==b):=by
 by_cases e:a=b
 .subst e;simp
 .have h:¬(Sum.inl a:rH)=Sum.inl b:=λq=>e (Sum.inl.inj q);rw[eY h];exact(gj.mpr e).symm
def SD(a b:Str):decide ((Sum.inr a:rH)=Sum.inr b)=decide (a=b):=by
 by_cases e:a=b
 .subst e;simp
 .have h:¬(Sum.inr a:rH)=Sum.inr b:=λq=>e (kl q);rw[eY h,eY e]
def RY(a:Int)(b:Str):decide ((Sum.inl a:rH)=Sum.inr b)=lf:=eY (λq=>nomatch q)
def Sw(a:Str)(b:Int):decide ((Sum.inr a:rH)=Sum.inl b)=lf:=eY (λq=>nomatch q)
def rQ(prog:Pg)(w:Wo):PySem.KeyKind prog w rH where
 is:=Dc
 hash:=Wy w
 inj:=λv a b ha hb=>by
  rcases sG ha with⟨i,t,rfl,rfl⟩|⟨x,t,rfl,rfl⟩
  .rcases sG hb with⟨j,u,rfl,e⟩|⟨y,u,rfl,e⟩
   .injection e with e1 _;rw[e1]
   .exact nomatch e
  .rcases sG hb with⟨j,u,rfl,e⟩|⟨y,u,rfl,e⟩
   .exact nomatch e
   .injection e with e1 _;rw[e1]
 byValue:=λk v h=>by rcases sG h with⟨i,t,rfl,rfl⟩|⟨x,t,rfl,rfl⟩<;>rfl
 pyHash:=λhv h=>by
  rcases sG hv with⟨i,t,rfl,rfl⟩|⟨x,t,rfl,rfl⟩
  .exact wpAny_pyHash_int h
  .exact l0 h
 eqBool:=λhu hv h=>by
  rcases sG hu with⟨i,t,rfl,rfl⟩|⟨x,t,rfl,rfl⟩
  .rcases sG hv with⟨j,u,rfl,rfl⟩|⟨y,u,rfl,rfl⟩
   .rw[T5]at h;exact l8 h
   .rw[RY]at h;exact lj i t y u _ _ _ _ h
  .rcases sG hv with⟨j,u,rfl,rfl⟩|⟨y,u,rfl,rfl⟩
   .rw[Sw]at h;exact lq x t j u _ _ _ _ h
   .rw[SD]at h;exact wpAny_eqBool_str h
 «strs»:=λk x t v h=>by
  rcases sG h with⟨i,u,rfl,e⟩|⟨y,u,rfl,e⟩
  .exact nomatch e
  .injection e with e1 _
   subst e1;cases v<;>rfl
def Ht(prog:Pg)(w:Wo)(i:Int)(t:Tok):(rQ prog w).is (.inl i) (.int i t)=pc:=KB i t
def AW(prog:Pg)(w:Wo)(x:Str)(t:Tok):(rQ prog w).is (.inr x) (.str x t)=pc:=KH x t
inductive V where
 | nz|bl (b:Bool)|int (i:Int)|str (x:Str)|byt (b:Array UInt8)|flt (b:UInt64)|ref (a:Uf)|ty (n:String)
 deriving DecidableEq
def ra:V->Vl->Prop
 | .nz,u=>u=Value.none
 | .bl b,u=>u=Value.bool b
 | .int i,u=>∃t,u=Value.int i t
 | .str x,u=>∃t,u=Value.str x t
 | .byt b,u=>∃t,u=Value.bytes b t
 | .flt b,u=>∃t,u=Value.float b t
 | .ref a,u=>u=Value.ref a
 | .ty n,u=>u=Value.type n
abbrev qO:T0 V->T0 Vl->Prop:=Paired ra
def qO.length(r:qO xs us):xs.length=us.length:=jy r
theorem qO.get:∀{xs:T0 V} {us:T0 Vl} {i:Nat} {x:V},qO xs us->xs[i]?=Fa x->∃u,us[i]?=Fa u/\ra x u
 | _,_,_,_,.nil,e=>by simp at e
 | _,_,0,_,.cons r _,e=>by simp at e;subst e;exact⟨_,Z',r⟩
 | _,_,i+1,x,.cons _ t,e=>by obtain⟨u,h1,h2⟩:=qO.get (i:=i) (x:=x) t (by simpa using e);exact⟨u,by simpa using h1,h2⟩
theorem qO.set(r:ra x u):∀{xs:T0 V} {us:T0 Vl} (i:Nat),qO xs us->qO (xs.set i x) (us.set i u)
 | _,_,_,.nil=>.nil
 | _,_,0,.cons _ t=>.cons r t
 | _,_,i+1,.cons q t=>.cons q (qO.set r i t)
theorem qO.append:∀{xs ys:T0 V} {us ws:T0 Vl},qO xs us->qO ys ws->qO (xs++ys) (us++ws)
 | _,_,_,_,.nil,s=>s
 | _,_,_,_,.cons r t,s=>.cons r (qO.append t s)
theorem qO.take:∀{xs:T0 V} {us:T0 Vl} (n:Nat),qO xs us->qO (xs.take n) (us.take n)
 | _,_,0,_=>.nil
 | _,_,_+1,.nil=>.nil
 | _,_,n+1,.cons r t=>.cons r (qO.take n t)
theorem qO.drop:∀{xs:T0 V} {us:T0 Vl} (n:Nat),qO xs us->qO (xs.drop n) (us.drop n)
 | _,_,0,r=>r
 | _,_,_+1,.nil=>.nil
 | _,_,n+1,.cons _ t=>qO.drop n t
def yM:Option V->Option Vl->Prop
 | some v,Fa u=>ra v u
 | none,none=>True
 | _,_=>False
def KV{κ:Type}:T0 (κ×V)->T0 (κ×Vl)->Prop:=Paired λ(p:κ×V) (q:κ×Vl)=>p.1=q.1/\ra p.2 q.2
def kV:rH->V
 | .inl i=>.int i
 | .inr x=>.str x
inductive HO where
 | lst (xs:List V)
 | tup (xs:List V)
 | dK (kvs:List (rH×V))|dT (kvs:List (List rH×V))
 | set (S:Int->Bool) (n:Nat)
 | ins (C dx:Uf) (fs:List (Str×V))
 | own (x:Uf)
 | xd (fs:List (Str×V))
 | met (f x:Uf)
 | rng (lo hi:Int)
 | frz (o:Obj) (u:HO)
 | tbl (ps:Array Vl)
 | ext (φ:No->Prop)
abbrev Hp:=Uf->Option HO
def upd(H:Hp)(a:Uf)(o:HO):Hp:=λb=>if b=a then Fa o else H b
def qB:upd H a o a=Fa o:=by unfold upd;rw[dw Z']
def qw{a b:Uf}(h:b≠a):upd H a o b=H b:=by unfold upd;rw[dq h]
def QS:upd (upd H a o) a u=upd H a u:=by funext b;unfold upd;split<;>rfl
def Ux{H:Hp}{a b:Uf}{o u:HO}(h:H a=Fa o)(h':H b=Fa u)(d:o≠u):a≠b:=by intro e;subst e;rw[h]at h';exact d (dB h')
def rm{H:Hp}{a b:Uf}{o:HO}(h:H a=Fa o)(h':H b=Db):a≠b:=by intro e;subst e;rw[h]at h';cases h'
section
variable (P:Pg)(w:Wo)
def EK(h:No)(a:Uf)(its:Array Vl):Prop:=∃o,h.get? a=Fa o/\o.cls=.type "tuple"/\(∃n,o.data=.seq its n)/\o.dict=Db
def sF(H:Hp)(h:No)(a:Uf):HO->Prop
 | .lst xs=>xs.length<=pi/\∃(its:T0 Vl) (n:Nat),qO xs its/\h.get? a=Fa {cls:=.type "list",data:=.seq its.toArray n}
 | .tup xs=>xs.length<=pi/\∃its:T0 Vl,qO xs its/\EK h a its.toArray
 | .dK kvs=>kvs.length<=pi/\(a==XV)=lf/\∃vs,KV kvs vs/\h.DictOf (rQ P w) a vs
 | .dT kvs=>kvs.length<=pi/\(a==XV)=lf/\∃xs:T0 (List rH×Uf×Vl),Paired (λ(p:List rH×V) (q:List rH×Uf×Vl)=>p.1=q.1/\H q.2.1=Fa (.tup (p.1.map kV))/\ra p.2 q.2.2) kvs xs/\
   ∃o es ep,h.get? a=Fa o/\o.ExactDict/\o.data=.dict es ep/\es.toList=xs.map (entryOfKey (tupleKind (rQ P w)))/\(xs.map (·.1)).Nodup
 | .set S n=>h.SetOf (intKind P w) a S n
 | .ins C dx fs=>H dx=Fa (.own a)/\fs.length<=1000/\dx≠a/\h.get? a=Fa (W.instObj C dx)/\
   ∃mA,h.Ns1 dx mA/\(∀f,yM (fs.lookup f) (mA f))/\PySem.Within mA (fs.map (·.1))
 | .own _=>∃o,h.get? a=Fa o
 | .xd fs=>∃mA,h.Ns1 a mA/\∀f,yM (fs.lookup f) (mA f)
 | .rng lo hi=>∃t u v,h.get? a=Fa {cls:=.type "range",data:=.fields #[.int lo t,.int hi u,.int 1 v]}
 | .frz o u=>h.get? a=Fa o/\sF H h a u
 | .tbl ps=>h.get? a=Fa {cls:=.none,data:=.fields ps}
 | .met f x=>h.get? a=Fa (W.methodObj (.ref f) (.ref x))
 | .ext φ=>φ h/\(∃o,h.get? a=Fa o)/\∀h1 h2:No,φ h1->(∀o,h1.get? a=Fa o->h2.get? a=Fa o)->φ h2
def yJ(H:Hp)(h:No):Prop:=∀a o,H a=Fa o->sF P w H h a o
end
variable {H H':Hp}{h h':No}
section
variable {P:Pg}{w:Wo}{a:Uf}{o:HO}
def EK.is(x:EK h a its):IsTup h a its:=let⟨o,e,c,d,_⟩:=x;⟨o,e,c,d⟩
def EK.new(h:No)(XG:Array Vl):EK (h.push {cls:=.type "tuple",data:=.seq XG}) h.objs.size XG:=⟨_,dP _ Z',Z',⟨_,Z'⟩,Z'⟩
def sF.lt(x:sF P w H h a o):a<h.objs.size:=by
 cases o with
 | lst xs=>obtain⟨_,_,_,_,e⟩:=x;exact dD e
 | tup xs=>obtain⟨_,_,_,_,e,_⟩:=x;exact dD e
 | dK kvs=>obtain⟨_,_,_,_,o,_,_,e,_⟩:=x;exact dD e
 | dT kvs=>obtain⟨_,_,_,_,o,_,_,e,_⟩:=x;exact dD e
 | set S n=>obtain⟨o,_,_,_,e,_⟩:=x;exact dD e
 | ins C dx fs=>obtain⟨_,_,_,e,_⟩:=x;exact dD e
 | own y=>obtain⟨_,e⟩:=x;exact dD e
 | xd fs=>obtain⟨_,⟨_,_,_,e,_⟩,_⟩:=x;exact dD e
 | rng lo hi=>obtain⟨_,_,_,e⟩:=x;exact dD e
 | frz ob u=>obtain⟨e,_⟩:=x;exact dD e
 | tbl ps=>exact dD (show h.get? a=Fa _ from x)
 | met f y=>exact dD (show h.get? a=Fa _ from x)
 | ext φ=>obtain⟨_,⟨_,e⟩,_⟩:=x;exact dD e
theorem Paired.oX{α β:Type}{F G:α->β->Prop}:∀{l₁:List α} {l₂:List β},Paired F l₁ l₂->(∀a b,F a b->G a b)->Paired G l₁ l₂
 | _,_,.nil,_=>.nil
 | _,_,.cons r t,f=>.cons (f _ _ r) (Paired.oX t f)
def sF.nR(x:sF P w H h a o)(k:∀b u,(b=a\/H b=Fa (.own a))->h.get? b=Fa u->h'.get? b=Fa u) (ho:∀b,H b=Fa (.own a)->H' b=Fa (.own a)) (ht:∀b xs,H b=Fa (.tup xs)->H' b=Fa (.tup xs)):sF P w H' h' a o:=by
 induction o with
 | lst xs=>obtain⟨z,its,n,r,e⟩:=x;exact⟨z,its,n,r,k _ _ (.inl Z') e⟩
 | tup xs=>obtain⟨z,its,r,ob,e,c⟩:=x;exact⟨z,its,r,ob,k _ _ (.inl Z') e,c⟩
 | dK kvs=>obtain⟨z,y,vs,r,ob,es,ep,e,c⟩:=x;exact⟨z,y,vs,r,ob,es,ep,k _ _ (.inl Z') e,c⟩
 | dT kvs=>obtain⟨z,y,xs,r,ob,es,ep,e,c⟩:=x;exact⟨z,y,xs,Paired.oX r λp q z=>⟨z.1,ht _ _ z.2.1,z.2.2⟩,ob,es,ep,k _ _ (.inl Z') e,c⟩
 | set S n=>obtain⟨ob,es,ep,t,e,c⟩:=x;exact⟨ob,es,ep,t,k _ _ (.inl Z') e,c⟩
 | ins C dx fs=>obtain⟨d,z,ne,e,mA,⟨od,es,ep,e2,c⟩,r⟩:=x;exact⟨ho _ d,z,ne,k _ _ (.inl Z') e,mA,⟨od,es,ep,k _ _ (.inr d) e2,c⟩,r⟩
 | own y=>obtain⟨ob,e⟩:=x;exact⟨ob,k _ _ (.inl Z') e⟩
 | xd fs=>obtain⟨mA,⟨od,es,ep,e,c⟩,r⟩:=x;exact⟨mA,⟨od,es,ep,k _ _ (.inl Z') e,c⟩,r⟩
 | rng lo hi=>obtain⟨t,u,v,e⟩:=x;exact⟨t,u,v,k _ _ (.inl Z') e⟩
 | frz ob u ih=>obtain⟨e,q⟩:=x;exact⟨k _ _ (.inl Z') e,ih q⟩
 | tbl ps=>have e:h.get? a=Fa {cls:=.none,data:=.fields ps}:=x;show h'.get? a=Fa {cls:=.none,data:=.fields ps};exact k a _ (.inl Z') e
 | met f y=>have e:h.get? a=Fa (W.methodObj (.ref f) (.ref y)):=x;show h'.get? a=Fa (W.methodObj (.ref f) (.ref y));exact k a _ (.inl Z') e
 | ext φ=>obtain⟨p,⟨o,e⟩,st⟩:=x;exact⟨st _ _ p λo q=>k _ _ (.inl Z') q,⟨o,k _ _ (.inl Z') e⟩,st⟩
def yJ.lt(x:yJ P w H h)(e:H a=Fa o):a<h.objs.size:=(x a o e).lt
def yJ.fresh(x:yJ P w H h)(e:h.objs.size<=a):H a=Db:=by
 cases q:H a with
 | none=>rfl
 | some u=>exact absurd (dU (x.lt q) e) (fm _)
def yJ.kept(x:yJ P w H h)(k:∀b u,h.get? b=Fa u->h'.get? b=Fa u):yJ P w H h':=λa o e=>(x a o e).nR (λb u _ q=>k b u q) (λ_ q=>q) λ_ _ q=>q
def yJ.laid(x:yJ P w H h)(k:∀b u,h.get? b=Fa u->h'.get? b=Fa u)(hp:h.objs.size<=a)(new:sF P w (upd H a o) h' a o):yJ P w (upd H a o) h':=λb u e=>by
 have hn:=x.fresh hp;by_cases hb:b=a
 .subst hb;rw[qB]at e;cases e;exact new
 .rw[qw hb]at e;exact(x b u e).nR (λc v _ q=>k c v q) (λc q=>by rw[qw (rm q hn)];exact q) λc xs q=>by rw[qw (rm q hn)];exact q
end
def Rd(H:Hp)(a:Uf)(u:HO):Prop:=H a=Fa u\/∃o,H a=Fa (.frz o u)
def Rd.ok(r:Rd H a u)(x:yJ P w H h):sF P w H h a u:=by
 rcases r with r|⟨o,r⟩
 .exact x a u r
 .obtain⟨_,q⟩:=x a _ r;exact q
def UZ:Option HO->Prop
 | some (.lst _)=>True
 | some (.dK _)=>True
 | some (.dT _)=>True
 | some (.set _ _)=>True
 | some (.ins _ _ _)=>True
 | some (.ext _)=>True
 | _=>False
variable {o':HO}
section
variable {P:Pg}{w:Wo}{x e:Uf}
def yJ.write(ok:yJ P w H h)(mu:UZ (H x))(he:e=x\/H e=Fa (.own x))(k:∀b u,b≠e->h.get? b=Fa u->h'.get? b=Fa u)(heo:∃u,h'.get? e=Fa u) (new:sF P w (upd H x o') h' x o'):yJ P w (upd H x o') h':=λb u q=>by
 have nown:∀c y,H c=Fa (.own y)->c≠x:=λc y r z=>by subst z;rw[r]at mu;exact mu
 have ntup:∀c xs,H c=Fa (.tup xs)->c≠x:=λc xs r z=>by subst z;rw[r]at mu;exact mu
 by_cases hb:b=x
 .subst hb;rw[qB]at q;cases q;exact new
 .rw[qw hb]at q;by_cases hbe:b=e
  .have q':H b=Fa (.own x):=by
    rcases he with z|z
    .exact absurd (hbe.trans z) hb
    .rw[hbe];exact z
   rw[q]at q';cases q';obtain⟨v,hv⟩:=heo;exact⟨v,by rw[hbe];exact hv⟩
  .refine(ok b u q).nR (λc v hc r=>k c v ?_ r) (λc r=>by rw[qw (nown c b r)];exact r) λc xs r=>by rw[qw (ntup c xs r)];exact r
   rcases hc with rfl|hc
   .exact hbe
   .rintro rfl
    rcases he with z|z
    .exact nown c b hc z
    .rw[hc]at z;cases z;exact hb Z'
end
structure Un(fs ex:QXQ)(H H':Hp)(h h':No):Prop where
 keep:∀b o,h.get? b=Fa o->H b=Db->b∉fs->b∉ex->h'.get? b=Fa o
 slot:∀b o,h.get? b=Fa o->H b=Db->b∈fs->b∉ex->∃sl,h'.get? b=Fa {o with slots:=sl}
 free:∀b o,h.get? b=Fa o->H b=Db->b∉ex->H' b=Db
 there:∀b o,h.get? b=Fa o->b∉ex->∃o',h'.get? b=Fa o'
 n9:∀b xs,H b=Fa (.tup xs)->H' b=Fa (.tup xs)
 nU:∀b o u,H b=Fa (.frz o u)->H' b=Fa (.frz o u)
 oh:∀b ps,H b=Fa (.tbl ps)->∃more,H' b=Fa (.tbl (ps++more))
variable {ex ex':QXQ}{H1 H2:Hp}{h1 h2:No}
section
variable {fs fs':QXQ}{a x e:Uf}{o:HO}
def Un.any(u:Un fs ex H H1 h h1){b:Uf}{ob:Obj}(q:h.get? b=Fa ob)(n:H b=Db)(hx:b∉ex):∃sl,h1.get? b=Fa {ob with slots:=sl}:=by
 by_cases hb:b∈fs
 .exact u.slot b ob q n hb hx
 .exact⟨ob.slots,u.keep b ob q n hb hx⟩
def Un.trans(a:Un fs ex H H1 h h1)(b:Un fs ex H1 H2 h1 h2):Un fs ex H H2 h h2 where
 keep:=λc ob q n hc hx=>b.keep c ob (a.keep c ob q n hc hx) (a.free c ob q n hx) hc hx
 slot:=λc ob q n hc hx=>by obtain⟨sl,e1⟩:=a.slot c ob q n hc hx;obtain⟨Zc,e2⟩:=b.slot c _ e1 (a.free c ob q n hx) hc hx;exact⟨Zc,e2⟩
 free:=λc ob q n hx=>by obtain⟨o',e1⟩:=a.there c ob q hx;exact b.free c o' e1 (a.free c ob q n hx) hx
 there:=λc ob q hx=>by obtain⟨o',e1⟩:=a.there c ob q hx;exact b.there c o' e1 hx
 n9:=λc xs q=>b.n9 c xs (a.n9 c xs q)
 nU:=λc ob xs q=>b.nU c ob xs (a.nU c ob xs q)
 oh:=λc ps q=>by obtain⟨m1,e1⟩:=a.oh c ps q;obtain⟨m2,e2⟩:=b.oh c _ e1;exact⟨m1++m2,by rw[e2,ls]⟩
def Un.kept(k:∀b u,h.get? b=Fa u->h'.get? b=Fa u):Un fs ex H H h h':=
 ⟨λb ob q _ _ _=>k b ob q,λb ob q _ _ _=>⟨ob.slots,k b ob q⟩,λ_ _ _ n _=>n,λb ob q _=>⟨ob,k b ob q⟩,λ_ _ q=>q,λ_ _ _ q=>q,λ_ ps q=>⟨#[],by rw[q];simp⟩⟩
def Un.refl:Un fs ex H H h h:=Un.kept λ_ _ q=>q
def Un.laid(k:∀b u,h.get? b=Fa u->h'.get? b=Fa u)(hp:h.objs.size<=a)(hn:H a=Db):Un fs ex H (upd H a o) h h' where
 keep:=λb u q _ _ _=>k b u q
 slot:=λb u q _ _ _=>⟨u.slots,k b u q⟩
 free:=λb u q n _=>by rw[qw (dN (dU (dD q) hp))];exact n
 there:=λb u q _=>⟨u,k b u q⟩
 n9:=λb xs q=>by rw[qw (rm q hn)];exact q
 nU:=λb u xs q=>by rw[qw (rm q hn)];exact q
 oh:=λb ps q=>⟨#[],by rw[qw (rm q hn),q];simp⟩
def Un.write(mu:UZ (H x))(he:e=x\/H e=Fa (.own x))(k:∀b u,b≠e->h.get? b=Fa u->h'.get? b=Fa u)(heo:∃u,h'.get? e=Fa u):Un fs ex H (upd H x o) h h':=by
 have hx:∀b,H b=Db->b≠x:=λb n z=>by subst z;rw[n]at mu;exact mu
 have hb:∀b,H b=Db->b≠e:=λb n z=>by
  subst z;rcases he with r|r
  .exact hx b n r
  .rw[n]at r;cases r
 have hm:∀b u,H b=Fa u->¬UZ (Fa u)->b≠x:=λb u q nm z=>by subst z;rw[q]at mu;exact nm mu
 refine⟨λb u q n _ _=>k b u (hb b n) q,λb u q n _ _=>⟨u.slots,k b u (hb b n) q⟩,λb u q n _=>by rw[qw (hx b n)];exact n,λb u q _=>?_,λb xs q=>by rw[qw (hm b _ q λz=>z)];exact q,λb u xs q=>by rw[qw (hm b _ q λz=>z)];exact q,λb ps q=>⟨#[],by rw[qw (hm b _ q λz=>z),q];simp⟩⟩
 by_cases hbe:b=e
 .subst hbe;exact heo
 .exact⟨u,k b u hbe q⟩
end
def VS(h:No)(H:Hp):QXQ:=(List.range h.objs.size).filter λa=>(H a).isSome
def F5(h:No)(H:Hp):No:=W.hideAll h (VS h H)
def Lu(h:No)(H:Hp):(F5 h H).objs.size=h.objs.size:=W.hideAll_size _ _
def MP{h:No}{H:Hp}{b:Uf}{o:Obj}(e:h.get? b=Fa o)(n:H b=Db):(F5 h H).get? b=Fa o:=
 W.hideAll_get _ e λhm=>by have q:(H b).isSome=pc:=(fK.mp hm).2;rw[n]at q;simp at q
def PC{b:Uf}{o:Obj}(e:(F5 h H).get? b=Fa o):h.get? b=Fa o/\H b=Db:=by
 have e':h.get? b=Fa o:=W.of_hideAll (VS h H) e;refine⟨e',?_⟩;cases q:H b with
 | none=>rfl
 | some x=>have hm:b∈VS h H:=fK.mpr ⟨fW.mpr (dD e'),by simp[q]⟩;have z:(F5 h H).get? b=Db:=W.hideAll_none (VS h H) hm;rw[z]at e;cases e
structure Mod(K:qL)(mg:QQZ)(base:No):Prop where
 oZ:K.In base
 glob:base.Ns xz mg
 blt:∃mb,base.Ns builtinsNs mb/\∀x:Str,x≠"__name__"->mb x=zn x
 nolimit:base.NoLimit
structure Cx where
 prog:Pg
 w:Wo
 K:qL
 mg:QQZ
 base:No
 A:Ar
 N:QQQ
 s₀:Sd
 H₀:Hp
 env:Env
 outer:List Env
 stack:List Env
 ex:QXQ
 fn:Str->Bool
 calm:Bool
 pn:QQY
 xe:QQX
abbrev Bx(X:Cx)(e:Go)(es:T0 Go):Prop:=Tl (e::es) X.env=(lf,wp e X.env)::Tl es X.env
abbrev Dh(X:Cx)(p:Pos)(es:T0 Go):Prop:=(sB p (Tl es X.env)).any (·.1)=lf
abbrev yW(x:Str):Prop:=(x==("__debug__":Str))=lf
abbrev LD(X:Cx)(x:Str):Prop:=X.fn x=pc\/X.env.scope.names.lookup x=Fa .local
def wI(l:T0 Env):QXQ:=l.filterMap (·.frame)
abbrev Cx.fs(X:Cx):QXQ:=wI X.outer
def SK(sc:XXe)(x:Str):Prop:=sc.names.lookup x=Fa .local\/sc.names.lookup x=Fa .cell\/sc.names.lookup x=Fa .free
def LG(sc:XXe)(x:Str):Prop:=sc.names.lookup x=Fa .local\/sc.names.lookup x=Fa .cell
def Vu(env:Env)(h:No)(m:QQZ)(x:Str)(u:Vl):Prop:=
 (env.kindOf x=Fa .local/\m x=Fa u)\/((env.kindOf x=Fa .cell\/env.kindOf x=Fa .free)/\∃c,env.cells.lookup x=Fa c/\h.IsCell c (Fa u))
structure Cx.Ok(X:Cx):Prop where
 mod:Mod X.K X.mg X.base
 kind:X.env.scope.kind=.function
 glob:X.env.globals=xz
 blt:X.env.builtins=builtinsNs
 above:X.s₀.heap.objs.size<=X.env.locals
 inj:∀x y c,X.env.cells.lookup x=Fa c->X.env.cells.lookup y=Fa c->x=y
 has:∀x,(X.env.kindOf x=Fa .cell\/X.env.kindOf x=Fa .free)->∃c,X.env.cells.lookup x=Fa c
 pb:∀x c,X.fn x=pc->X.env.cells.lookup x=Fa c->X.s₀.heap.objs.size<=c
 hd:X.calm=pc->X.A.handled=Db
 frames:X.A.frames=Fa X.stack
 pq:X.stack=X.outer\/(X.stack=X.env::X.outer/\X.env.frame=Fa X.env.locals)
 pL:∀b∈X.ex,b≠X.env.locals/\∀x c,X.env.cells.lookup x=Fa c->c≠b
 bs:∀b o,X.base.get? b=Fa o->X.s₀.heap.get? b=Fa o/\X.H₀ b=Db
 oK:X.base.objs.size<=X.s₀.heap.objs.size
 oz:∀b o,X.base.get? b=Fa o->b∉X.ex
 oJ:∀b∈X.ex,b∉X.fs
 oa:X.s₀.heap.FunFrames X.base X.outer
 oR:∀b∈X.fs,X.H₀ b=Db
structure Inv(X:Cx)(XF:QQY)(Y:List (Option V))(H:Hp)(s:Sd):Prop where
 ok:X.Ok
 os:s.os=X.s₀.os
 bare:XYb s.gens
 base:Un X.fs X.ex X.H₀ H X.s₀.heap s.heap
 loc:∃m,s.heap.Ns X.env.locals m/\∀(i:Nat) (x:Str) (v:V),X.N[i]?=Fa x->Y[i]?=Fa (Fa v)->SK X.env.scope x->∃u,ra v u/\Vu X.env s.heap m x u
 cell:∀x c,X.env.cells.lookup x=Fa c->∃v,s.heap.IsCell c v
 free:H X.env.locals=Db
 nK:∀x c,X.env.cells.lookup x=Fa c->H c=Db
 pin:∀p∈X.pn++XF,s.heap.get? p.1=Fa p.2/\H p.1=Db/\p.1≠X.env.locals/\p.1∉X.fs/\∀v,p.2.data≠.cell v
 nB:yJ X.prog X.w H s.heap
 len:Y.length=X.N.length
variable {X:Cx}{XF:T0 (Uf × Obj)}{s:Sd}
section
variable {Y:T0 (Option V)}
def Cx.Ok.nofr(ok:X.Ok){b:Uf}{o:Obj}(e:X.base.get? b=Fa o):b∉X.fs:=λhb=>by have:=(ok.oa.mem hb).1;rw[e]at this;cases this
def Inv.bs(I:Inv X XF Y H s):∀b o,X.base.get? b=Fa o->s.heap.get? b=Fa o/\H b=Db:=λb o e=>⟨I.base.keep b o (I.ok.bs b o e).1 (I.ok.bs b o e).2 (I.ok.nofr e) (I.ok.oz b o e),I.base.free b o (I.ok.bs b o e).1 (I.ok.bs b o e).2 (I.ok.oz b o e)⟩
def Inv.bk(I:Inv X XF Y H s):∀b o,X.base.get? b=Fa o->s.heap.get? b=Fa o:=λb o e=>(I.bs b o e).1
def Inv.mod(I:Inv X XF Y H s):Mod X.K X.mg X.base:=I.ok.mod
def Inv.nO(I:Inv X XF Y H s):X.K.In s.heap:=I.ok.mod.oZ.keeps I.bk
def Inv.lt(I:Inv X XF Y H s):X.env.locals<s.heap.objs.size:=let⟨_,hn,_⟩:=I.loc;hn.lt
def Inv.sz(I:Inv X XF Y H s):X.s₀.heap.objs.size<=s.heap.objs.size:=eD I.ok.above (jP I.lt)
def Inv.pG(I:Inv X XF Y H s){a:Uf}(h:s.heap.objs.size<=a):a∉X.fs:=λhb=>by obtain⟨_,o,ho,_⟩:=I.ok.oa.mem hb;exact absurd (dU (dD ho) (eD I.sz h)) (fm _)
def Inv.pK(I:Inv X XF Y H s):∀x c,X.env.cells.lookup x=Fa c->c≠X.env.locals:=λx c e z=>by obtain⟨v,o,ho,hd⟩:=I.cell x c e;obtain⟨m,⟨o',es,ep,Yo,hd',_⟩,_⟩:=I.loc;rw[z,Yo]at ho;cases ho;rw[hd']at hd;cases hd
def Inv.oa(I:Inv X XF Y H s):s.heap.FunFrames X.base X.outer:=by
 have all:∀(l:T0 Env),(∀b∈wI l,b∈X.fs)->X.s₀.heap.FunFrames X.base l->s.heap.FunFrames X.base l:=by
  intro l;induction l with
  | nil=>intro _ _;trivial
  | cons env r ih=>intro hs hl;obtain⟨hk,⟨L,o,hf,hn,ho,hd⟩,hr⟩:=hl;have hL:L∈X.fs:=hs L (by unfold wI;rw[gk,hf];exact dO);obtain⟨sl,e⟩:=I.base.slot L o ho (I.ok.oR L hL) hL λz=>I.ok.oJ L z hL;exact⟨hk,⟨L,_,hf,hn,e,hd⟩,ih (λb hb=>hs b (by unfold wI;rw[gk,hf];exact dM _ hb)) hr⟩
 exact all X.outer (λ_ hb=>hb) I.ok.oa
def Inv.stack(I:Inv X XF Y H s):s.heap.FunFrames X.base X.stack:=by
 rcases I.ok.pq with e|⟨e,hf⟩
 .rw[e];exact I.oa
 .rw[e];obtain⟨m,hn,_⟩:=I.loc;refine .cons (by rw[I.ok.kind];decide) hf hn ?_ I.oa;exact gU (eD I.ok.oK I.ok.above)
def Inv.nZ(I:Inv X XF Y H s):∀b∈wI X.stack,b∈X.env.locals::X.fs:=λb hb=>by
 rcases I.ok.pq with e|⟨e,hf⟩
 .rw[e]at hb;exact dM _ hb
 .rw[e]at hb;unfold wI at hb;rw[gk,hf]at hb;exact hb
def Inv.oi(I:Inv X XF Y H s):∀b∈wI X.stack,H b=Db:=λb hb=>by
 rcases dA.mp (I.nZ b hb)with e|hb
 .rw[e];exact I.free
 .obtain⟨_,o,ho,_⟩:=I.ok.oa.mem hb;exact I.base.free b o ho (I.ok.oR b hb) λz=>I.ok.oJ b z hb
def Inv.step{g':Array GenState}{t':Nat}{d':Drawn}{ch:QXQ}(I:Inv X XF Y H s) (YH:∀b∈ch,(b∈X.ex\/X.s₀.heap.objs.size<=b)/\b≠X.env.locals/\(∀x c,X.env.cells.lookup x=Fa c->c≠b)/\∀p∈X.pn++XF,p.1≠b) (keep:∀b o,b≠X.env.locals->b∉X.fs->b∉ch->s.heap.get? b=Fa o->H b=Db->h'.get? b=Fa o) (slot:∀b o,b≠X.env.locals->b∈X.fs->b∉ch->s.heap.get? b=Fa o->H b=Db->∃sl,h'.get? b=Fa {o with slots:=sl}) (free:∀b o,b∉ch->s.heap.get? b=Fa o->H b=Db->H' b=Db)
  (there:∀b o,b∉ch->s.heap.get? b=Fa o->∃o',h'.get? b=Fa o')
  (n9:∀b xs,H b=Fa (.tup xs)->H' b=Fa (.tup xs)) (nU:∀b o u,H b=Fa (.frz o u)->H' b=Fa (.frz o u)) (oh:∀b ps,H b=Fa (.tbl ps)->∃more,H' b=Fa (.tbl (ps++more)))
  (ns:∀m,s.heap.Ns X.env.locals m->h'.Ns X.env.locals m) (nB:yJ X.prog X.w H' h') (hg:XYb g'):
  Inv X XF Y H' {s with heap:=h',gens:=g',drawn:=d',toks:=t'}:=by
 have neL:∀b o,X.s₀.heap.get? b=Fa o->b≠X.env.locals:=λb o e=>dN (dU (dD e) I.ok.above);have neC:∀b o,X.s₀.heap.get? b=Fa o->b∉X.ex->b∉ch:=λb o e hx hb=>by
  rcases(YH b hb).1 with z|z
  .exact hx z
  .exact absurd (dU (dD e) z) (fm _)
 have Z7:∀x c,X.env.cells.lookup x=Fa c->∀v,s.heap.IsCell c v->h'.IsCell c v:=λx c e v ⟨o,ho,hd⟩=>by
  have nch:c∉ch:=λz=>(YH c z).2.2.1 x c e Z';by_cases hc:c∈X.fs
  .obtain⟨sl,q⟩:=slot c o (I.pK x c e) hc nch ho (I.nK x c e);exact⟨_,q,hd⟩
  .exact⟨o,keep c o (I.pK x c e) hc nch ho (I.nK x c e),hd⟩
 refine⟨I.ok,I.os,hg,⟨λb o e n hb hx=>?_,λb o e n hb hx=>?_,λb o e n hx=>?_,λb o e hx=>?_,λb xs e=>n9 b xs (I.base.n9 b xs e),λb o xs e=>nU b o xs (I.base.nU b o xs e),λb ps e=>?_⟩,?_,λx c e=>?_,?_,λx c e=>?_,λp hp=>?_,nB,I.len⟩
 .exact keep b o (neL b o e) hb (neC b o e hx) (I.base.keep b o e n hb hx) (I.base.free b o e n hx)
 .obtain⟨sl,e1⟩:=I.base.slot b o e n hb hx;obtain⟨Zc,e2⟩:=slot b _ (neL b o e) hb (neC b o e hx) e1 (I.base.free b o e n hx);exact⟨Zc,e2⟩
 .obtain⟨o',e1⟩:=I.base.there b o e hx;exact free b o' (neC b o e hx) e1 (I.base.free b o e n hx)
 .obtain⟨o',e1⟩:=I.base.there b o e hx;exact there b o' (neC b o e hx) e1
 .obtain⟨m1,e1⟩:=I.base.oh b ps e;obtain⟨m2,e2⟩:=oh b _ e1;exact⟨m1++m2,by rw[e2,ls]⟩
 .obtain⟨m,hn,hl⟩:=I.loc;refine⟨m,ns m hn,λi x v e1 e2 e3=>?_⟩;obtain⟨u,r,l⟩:=hl i x v e1 e2 e3;refine⟨u,r,?_⟩;rcases l with l|⟨k,c,e,z⟩
  .exact .inl l
  .exact .inr ⟨k,c,e,Z7 x c e _ z⟩
 .obtain⟨v,z⟩:=I.cell x c e;exact⟨v,Z7 x c e v z⟩
 .obtain⟨m,⟨o,_,_,ho,_⟩,_⟩:=I.loc;exact free _ o (λz=>(YH _ z).2.1 Z') ho I.free
 .obtain⟨v,o,ho,hd⟩:=I.cell x c e;exact free c o (λz=>(YH c z).2.2.1 x c e Z') ho (I.nK x c e)
 .obtain⟨e,n,ne,nf,d⟩:=I.pin p hp;have nch:p.1∉ch:=λz=>(YH p.1 z).2.2.2 p hp Z';exact⟨keep p.1 p.2 ne nf nch e n,free p.1 p.2 nch e n,ne,nf,d⟩
def Inv.un{t':Nat}(I:Inv X XF Y H s)(u:Un X.fs [] H H' s.heap h')(nB:yJ X.prog X.w H' h'):Inv X XF Y H' {s with heap:=h',toks:=t'}:=by
 obtain⟨m,⟨o,es,ep,ho,r⟩,_⟩:=id I.loc;obtain⟨sl,hL⟩:=u.any ho I.free (by simp);exact I.step (g':=s.gens) (d':=s.drawn) (ch:=[]) (λ_ z=>nomatch z) (λb o _ hb _ e n=>u.keep b o e n hb (by simp)) (λb o _ hb _ e n=>u.slot b o e n hb (by simp)) (λb o _ e n=>u.free b o e n (by simp)) (λb o _ e=>u.there b o e (by simp)) u.n9 u.nU u.oh (λm' hm=>by
  obtain⟨o',es',ep',Yo,r'⟩:=hm;rw[ho]at Yo;cases Yo;exact⟨_,es',ep',hL,r'⟩) nB I.bare
def Inv.call{t':Nat}{d':Drawn}(I:Inv X XF Y H s)(u:Un (wI X.stack) ch H H' s.heap h')(nB:yJ X.prog X.w H' h')(hg:XYb g') (YH:∀b∈ch,(b∈X.ex\/X.s₀.heap.objs.size<=b)/\b≠X.env.locals/\(∀x c,X.env.cells.lookup x=Fa c->c≠b)/\∀p∈X.pn++XF,p.1≠b):
  Inv X XF Y H' {s with heap:=h',gens:=g',drawn:=d',toks:=t'}:=by
 obtain⟨m,⟨o,es,ep,ho,r⟩,_⟩:=id I.loc;obtain⟨sl,hL⟩:=u.any ho I.free λz=>(YH _ z).2.1 Z';exact I.step (ch:=ch) YH (λb o hL hb hc e n=>u.keep b o e n (λz=>(dA.mp (I.nZ b z)).elim hL hb) hc) (λb o _ _ hc e n=>u.any e n hc) (λb o hc e n=>u.free b o e n hc) (λb o hc e=>u.there b o e hc) u.n9 u.nU u.oh (λm' hm=>by
  obtain⟨o',es',ep',Yo,r'⟩:=hm;rw[ho]at Yo;cases Yo;exact⟨_,es',ep',hL,r'⟩) nB hg
def Inv.turned{t':Nat}{it:Uf}(I:Inv X XF Y H s)(k:∀b o,b≠it->s.heap.get? b=Fa o->h'.get? b=Fa o)(hn:H it=Db)(hL:it≠X.env.locals) (h1:it∈X.ex\/X.s₀.heap.objs.size<=it) (h2:∀x c,X.env.cells.lookup x=Fa c->c≠it) (h3:∀p∈X.pn++XF,p.1≠it):Inv X XF Y H {s with heap:=h',toks:=t'}:=by
 have nit:∀b u,H b=Fa u->b≠it:=λb u e z=>by rw[z,hn]at e;cases e
 refine I.step (g':=s.gens) (d':=s.drawn) (ch:=[it]) (λb hb=>?_) (λb o _ _ hc e _=>k b o (λz=>hc (by simp[z])) e) (λb o _ _ hc e _=>⟨o.slots,k b o (λz=>hc (by simp[z])) e⟩) (λ_ _ _ _ n=>n)
  (λb o hc e=>⟨o,k b o (λz=>hc (by simp[z])) e⟩) (λ_ _ e=>e) (λ_ _ _ e=>e) (λb ps e=>⟨#[],by rw[e];simp⟩) (λm hm=>?_) (λb u e=>?_) I.bare
 .have e:b=it:=by simpa using hb
  subst e;exact⟨h1,hL,h2,h3⟩
 .obtain⟨o,es,ep,ho,r⟩:=hm;exact⟨o,es,ep,k _ o (dW hL) ho,r⟩
 .refine(I.nB b u e).nR (λc v hc q=>k c v ?_ q) (λ_ q=>q) λ_ _ q=>q;rcases hc with z|z
  .rw[z];exact nit b u e
  .exact nit c _ z
def Inv.tok(I:Inv X XF Y H s)(t:Nat):Inv X XF Y H {s with toks:=t}:=I.un (h':=s.heap) (t':=t) Un.refl I.nB
def Inv.kept{t':Nat}(I:Inv X XF Y H s)(k:∀b u,s.heap.get? b=Fa u->h'.get? b=Fa u):Inv X XF Y H {s with heap:=h',toks:=t'}:=I.un (Un.kept k) (I.nB.kept k)
def Inv.laid{a:Uf}{t':Nat}(I:Inv X XF Y H s)(k:∀b u,s.heap.get? b=Fa u->h'.get? b=Fa u)(hp:s.heap.objs.size<=a)(new:sF X.prog X.w (upd H a o) h' a o):
  Inv X XF Y (upd H a o) {s with heap:=h',toks:=t'}:=I.un (Un.laid k hp (I.nB.fresh hp)) (I.nB.laid k hp new)
def Inv.write{x e:Uf}{t':Nat}(I:Inv X XF Y H s)(mu:UZ (H x))(he:e=x\/H e=Fa (.own x))(k:∀b u,b≠e->s.heap.get? b=Fa u->h'.get? b=Fa u)(heo:∃u,h'.get? e=Fa u) (new:sF X.prog X.w (upd H x o) h' x o):Inv X XF Y (upd H x o) {s with heap:=h',toks:=t'}:=I.un (Un.write mu he k heo) (I.nB.write mu he k heo new)
def Inv.ou{YI:QQY}(I:Inv X XF Y H s)(h:∀p∈YI,s.heap.get? p.1=Fa p.2/\H p.1=Db/\p.1≠X.env.locals/\p.1∉X.fs/\∀v,p.2.data≠.cell v):Inv X YI Y H s:=
 ⟨I.ok,I.os,I.bare,I.base,I.loc,I.cell,I.free,I.nK,λp hp=>(eB.mp hp).elim (λz=>I.pin p (fL _ z)) (h p),I.nB,I.len⟩
def CK{N:QQQ}(hN:N.Nodup){i j:Nat}{x:Str}(a:N[i]?=Fa x)(b:N[j]?=Fa x):i=j:=by obtain⟨h1,e1⟩:=dh.mp a;obtain⟨h2,e2⟩:=dh.mp b;exact(ma hN).mp (e1.trans e2.symm)
def Ep{M:Model}{A:Ar}{E:QQX}{i:Nat}{x:Str}{Q:Unit->Sd->Prop}(I:Inv X XF Y H s)(hN:X.N.Nodup)(hi:X.N[i]?=Fa x)(hx:LG X.env.scope x)(r:ra v u) (h:∀s',Inv X XF (Y.set i (Fa v)) H s'->(∃a,Heap.SameBut a s.heap s'.heap/\(a=X.env.locals\/X.env.cells.lookup x=Fa a))->Q () s') (hf:LD X x:=by first|exact .inl Z'|exact .inr Z'|assumption):Ch M A (storeName X.env x u) Q E s:=by
 obtain⟨m,hn,hl⟩:=id I.loc;have hcls:(X.env.scope.kind==.class||(X.env.scope.kind==.module&&X.env.locals != X.env.globals))=lf:=by rw[I.ok.kind];rfl
 have hiσ:i<Y.length:=by rw[I.len];exact(dh.mp hi).1
 have pK:=I.pK;have XZ:∀{a:Uf} {h':No},(∃o,s.heap.get? a=Fa o/\H a=Db)->Heap.SameBut a s.heap h'->yJ X.prog X.w H h':=λ{a h'} ha hs b ob e=>by
  obtain⟨_,_,Yu⟩:=ha;refine(I.nB b ob e).nR (λc w' hc q=>(hs.2 c ?_).trans q) (λ_ q=>q) λ_ _ q=>q
  rintro rfl
  rcases hc with rfl|hc
  .rw[Yu]at e;cases e
  .rw[Yu]at hc;cases hc
 rcases hx with hk|hk
 .refine wpAny_storeName_local hk hn (λh' Zi hs=>?_) hcls;obtain⟨oL,_,_,hoL,_⟩:=id hn;refine h _ ⟨I.ok,I.os,I.bare,⟨λb o e n hb hx=>?_,λb o e n hb hx=>?_,I.base.free,λb o e hx=>?_,I.base.n9,I.base.nU,I.base.oh⟩,⟨_,Zi,λj y v' e1 e2 e3=>?_⟩,λy c e=>?_,I.free,I.nK,λp hp=>?_,XZ ⟨oL,hoL,I.free⟩ hs,by simpa using I.len⟩ ⟨_,hs,.inl Z'⟩
  .exact(hs.2 b (dN (dU (dD e) I.ok.above))).trans (I.base.keep b o e n hb hx)
  .obtain⟨sl,e1⟩:=I.base.slot b o e n hb hx;exact⟨sl,(hs.2 b (dN (dU (dD e) I.ok.above))).trans e1⟩
  .obtain⟨o',e1⟩:=I.base.there b o e hx;exact⟨o',(hs.2 b (dN (dU (dD e) I.ok.above))).trans e1⟩
  .by_cases hj:j=i
   .subst hj;rw[hi]at e1;cases e1;rw[eU hiσ]at e2;cases e2;exact⟨u,r,.inl ⟨hk,by simp⟩⟩
   .rw[eZ (dW hj)]at e2;obtain⟨u',r',q⟩:=hl j y v' e1 e2 e3;refine⟨u',r',?_⟩;rcases q with⟨k,e⟩|⟨k,c,e,z⟩
    .refine .inl ⟨k,?_⟩;have:y≠x:=λe=>hj (CK hN e1 (e ▸ hi));simp[this,e]
    .exact .inr ⟨k,c,e,z.sameBut hs (pK y c e)⟩
  .obtain⟨w',z⟩:=I.cell y c e;exact⟨w',z.sameBut hs (pK y c e)⟩
  .obtain⟨e,n,ne,nf,d⟩:=I.pin p hp;exact⟨(hs.2 p.1 ne).trans e,n,ne,nf,d⟩
 .have hfn:X.fn x=pc:=by
   rcases hf with z|z
   .exact z
   .rw[z]at hk;cases hk
  obtain⟨c,hc⟩:=I.ok.has x (.inl hk);obtain⟨w',z⟩:=I.cell x c hc;refine wpAny_storeName_cell I.ok.kind hk hc z (λh' hc' hs=>?_);obtain⟨oc,hoc,hocd⟩:=id z;refine h {s with heap:=h'} ⟨I.ok,I.os,I.bare,⟨λb o e n hb hx=>?_,λb o e n hb hx=>?_,I.base.free,λb o e hx=>?_,I.base.n9,I.base.nU,I.base.oh⟩,⟨m,hn.sameBut hs (dW (pK x c hc)),λj y v' e1 e2 e3=>?_⟩,λy c' e=>?_,I.free,I.nK,λp hp=>?_,XZ ⟨oc,hoc,I.nK x c hc⟩ hs,by simpa using I.len⟩ ⟨c,hs,.inr hc⟩
  .exact(hs.2 b (dN (dU (dD e) (I.ok.pb x c hfn hc)))).trans (I.base.keep b o e n hb hx)
  .obtain⟨sl,e1⟩:=I.base.slot b o e n hb hx;exact⟨sl,(hs.2 b (dN (dU (dD e) (I.ok.pb x c hfn hc)))).trans e1⟩
  .obtain⟨o',e1⟩:=I.base.there b o e hx;exact⟨o',(hs.2 b (dN (dU (dD e) (I.ok.pb x c hfn hc)))).trans e1⟩
  .by_cases hj:j=i
   .subst hj;rw[hi]at e1;cases e1;rw[eU hiσ]at e2;cases e2;exact⟨u,r,.inr ⟨.inl hk,c,hc,hc'⟩⟩
   .rw[eZ (dW hj)]at e2;obtain⟨u',r',q⟩:=hl j y v' e1 e2 e3;refine⟨u',r',?_⟩;rcases q with q|⟨k,c',e,z'⟩
    .exact .inl q
    .refine .inr ⟨k,c',e,z'.sameBut hs ?_⟩
     rintro rfl
     exact hj (CK hN e1 (I.ok.inj _ _ _ e hc ▸ hi))
  .by_cases Z8:c'=c
   .subst Z8;exact⟨_,hc'⟩
   .obtain⟨w2,z2⟩:=I.cell y c' e;exact⟨w2,z2.sameBut hs Z8⟩
  .obtain⟨e,n,ne,nf,d⟩:=I.pin p hp;refine⟨(hs.2 p.1 ?_).trans e,n,ne,nf,d⟩;intro q;rw[q,hoc]at e;have q':oc=p.2:=dB e;exact d w' (by rw[<-q'];exact hocd)
def yu{M:Model}{A:Ar}{E:QQX}{i:Nat}{x:Str}{Q:Unit->Sd->Prop}(I:Inv X XF Y H s)(hN:X.N.Nodup)(hi:X.N[i]?=Fa x)(hx:LG X.env.scope x)(r:ra v u) (h:∀s',Inv X XF (Y.set i (Fa v)) H s'->Q () s') (hf:LD X x:=by first|exact .inl Z'|exact .inr Z'|assumption):Ch M A (storeName X.env x u) Q E s:=
 Ep I hN hi hx r (λs' I' _=>h s' I') hf
def Inv.pD{s':Sd}(I:Inv X XF Y H s)(ho:s'.os=s.os)(u:Un (wI X.stack) ch H H' s.heap s'.heap)(nB:yJ X.prog X.w H' s'.heap)(hg:XYb s'.gens) (YH:∀b∈ch,(b∈X.ex\/X.s₀.heap.objs.size<=b)/\b≠X.env.locals/\(∀x c,X.env.cells.lookup x=Fa c->c≠b)/\∀p∈X.pn++XF,p.1≠b):Inv X XF Y H' s':=by
 obtain⟨h',g',d',t',o'⟩:=s';have e:o'=s.os:=ho;subst e;exact I.call (g':=g') (t':=t') (d':=d') u nB hg YH
end
abbrev XK:=Vl->Option Uf->Hp->Prop
abbrev St:=T0 (Option V)
abbrev VK:=V->Hp->Prop
abbrev TE:=St->Hp->VK->Prop
abbrev TT:=St->Hp->(Bool->Hp->Prop)->Prop
abbrev TA:=St->Hp->(T0 V->Hp->Prop)->Prop
structure Gg where
 nx:St->Hp->Prop
 rt:VK
 bk:St->Hp->Prop:=λ_ _=>False
 ct:St->Hp->Prop:=λ_ _=>False
abbrev TS:=Gg->St->Hp->Prop
def EP(X:Cx)(XF:QQY)(Y:St)(Q:VK)(u:Vl)(s':Sd):Prop:=∃v H',Inv X XF Y H' s'/\ra v u/\Q v H'
def TP(X:Cx)(XF:QQY)(Y:St)(Q:Bool->Hp->Prop)(b:Bool)(s':Sd):Prop:=∃H',Inv X XF Y H' s'/\Q b H'
def AP(X:Cx)(XF:QQY)(Y:St)(Q:T0 V->Hp->Prop)(us:T0 Vl)(s':Sd):Prop:=∃vs H',Inv X XF Y H' s'/\qO vs us/\Q vs H'
def SP(X:Cx)(XF:QQY)(D:Gg)(f:Flow)(s':Sd):Prop:=
 match f with
 | .next=>∃σ' H',Inv X XF σ' H' s'/\D.nx σ' H'
 | .brk=>∃σ' H',Inv X XF σ' H' s'/\D.bk σ' H'
 | .cont=>∃σ' H',Inv X XF σ' H' s'/\D.ct σ' H'
 | .ret u=>∃v σ' H',Inv X XF σ' H' s'/\ra v u/\D.rt v H'
def PE(X:Cx)(e:Go)(t:TE):Prop:=
 ∀(XF:QQY) (s:Sd) (Y:St) (H:Hp) (Q:VK),Inv X XF Y H s->t Y H Q->Ch (Tk X.prog X.w) X.A (wp e X.env) (EP X XF Y Q) X.xe s
def PT(X:Cx)(e:Go)(t:TT):Prop:=
 ∀(XF:QQY) (s:Sd) (Y:St) (H:Hp) (Q:Bool->Hp->Prop),Inv X XF Y H s->t Y H Q->Ch (Tk X.prog X.w) X.A (isTrue e X.env (wp e X.env)) (TP X XF Y Q) X.xe s
def PW(X:Cx)(e:Go)(t:TT):Prop:=
 ∀(Yi:Sem Vl) (XF:QQY) (s:Sd) (Y:St) (H:Hp) (Q:Bool->Hp->Prop),Inv X XF Y H s->t Y H Q->Ch (Tk X.prog X.w) X.A (isTrue e X.env Yi) (TP X XF Y Q) X.xe s
def PW.pt(h:PW X e t):PT X e t:=h _
def PA(X:Cx)(es:T0 Go)(t:TA):Prop:=
 ∀(pos:Pos) (XF:QQY) (s:Sd) (Y:St) (H:Hp) (Q:T0 V->Hp->Prop),Inv X XF Y H s->t Y H Q->Ch (Tk X.prog X.w) X.A (spliced (sB pos (Tl es X.env))) (AP X XF Y Q) X.xe s
def PS(X:Cx)(st:wE)(t:TS):Prop:=
 ∀(XF:QQY) (s:Sd) (Y:St) (H:Hp) (D:Gg),Inv X XF Y H s->t D Y H->Ch (Tk X.prog X.w) X.A (exec st X.env) (SP X XF D) X.xe s
def BX(X:Cx)(st:T0 wE)(t:TS):Prop:=
 ∀(XF:QQY) (s:Sd) (Y:St) (H:Hp) (D:Gg),Inv X XF Y H s->t D Y H->Ch (Tk X.prog X.w) X.A (execs st X.env) (SP X XF D) X.xe s
def sX{α:Type}{t:Sem α}{Q Q':α->Sd->Prop}{M:Model}{A:Ar}{E:QQX}{s:Sd}(h:Ch M A t Q E s)(hQ:∀a s,Q a s->Q' a s):Ch M A t Q' E s:=eF h hQ λ_ _ x=>x
variable {tA tB':TT}{ta tb:TE}{pos:Pos}
section
def E4(i:Nat):TE:=λY H Q=>∃v,Y[i]?=Fa (Fa v)/\Q v H
def tC(v:V):TE:=λ_ H Q=>Q v H
def Mj{i:Nat}{x:Str}(hN:X.N[i]?=Fa x)(hv:SK X.env.scope x)(hd:yW x:=by decide)(YJ:(x==("__classdict__":Str))=lf:=by decide):PE X (.Name x pos) (E4 i):=by
 intro XF s Y H Q I h;obtain⟨v,e,h⟩:=h;obtain⟨m,hn,hl⟩:=I.loc;obtain⟨u,r,l⟩:=hl i x v hN e hv;have XJ:EP X XF Y Q u s:=⟨v,H,I,r,h⟩;rcases l with⟨hk,hm⟩|⟨hk,c,hc,hcell⟩
 .exact mD (wpAny_loadName_local I.ok.kind hk hn hm XJ) hd
 .rcases hk with hk|hk
  .exact mD (wpAny_loadName_cell I.ok.kind hk hc hcell XJ) hd
  .exact mD (wpAny_loadName_free I.ok.kind hk hc hcell XJ YJ) hd
def Tb{i j pos}:PE X (.Constant (.int i) j pos) (tC (.int i)):=λ_ _ _ H _ I h=>wpAny_Constant_int ⟨.int i,H,I.tok _,⟨_,Z'⟩,h⟩
def Uh{b j pos}:PE X (.Constant (.bool b) j pos) (tC (.bl b)):=λ_ _ _ H _ I h=>Constant_bool ⟨.bl b,H,I,Z',h⟩
def Sv{j pos}:PE X (.Constant .none j pos) (tC .nz):=λ_ _ _ H _ I h=>Constant_none ⟨.nz,H,I,Z',h⟩
def SL{x j pos}:PE X (.Constant (.str x) j pos) (tC (.str x)):=λ_ _ _ H _ I h=>Calls.Constant_str ⟨.str x,H,I.tok _,⟨_,Z'⟩,h⟩
def Gl(X:Cx)(x:Str):Prop:=X.env.kindOf x=Fa .globalImplicit
def xF{E:QQX}{XF:QQY}{u:Vl}{Q:QQX}(I:Inv X XF Y H s)(hg:Gl X x)(hm:X.mg x=Fa u)(h:Q u s) (hd:yW x:=by decide):Ch (Tk X.prog X.w) X.A (wp (.Name x pos) X.env) Q E s:=
 jz I.ok.kind hg (Calls.loadGlobal_global (by rw[I.ok.glob];exact I.mod.glob.keeps I.bk) hm h) hd
def vP{E:QQX}{XF:QQY}{u:Vl}{Q:QQX}(I:Inv X XF Y H s)(hg:Gl X x)(hm:X.mg x=Db)(hv:zn x=Fa u)(h:Q u s) (hn:x≠"__name__":=by decide) (hd:yW x:=by decide):Ch (Tk X.prog X.w) X.A (wp (.Name x pos) X.env) Q E s:=by
 obtain⟨mb,h1,h2⟩:=I.mod.blt;exact jz I.ok.kind hg (Calls.loadGlobal_builtin (by rw[I.ok.glob];exact I.mod.glob.keeps I.bk) hm (by rw[I.ok.blt];exact h1.keeps I.bk) ((h2 x hn).trans hv) h) hd
def Ff{u:Vl}(hg:Gl X x)(hm:X.mg x=Fa u)(r:ra v u)(hd:yW x:=by decide):PE X (.Name x pos) (tC v):=
 λ_ _ _ H _ I h=>xF I hg hm ⟨v,H,I,r,h⟩ hd
def Qz{u:Vl}(hg:Gl X x)(hm:X.mg x=Db)(hv:zn x=Fa u)(r:ra v u)(hn:x≠"__name__":=by decide)(hd:yW x:=by decide):PE X (.Name x pos) (tC v):=
 λ_ _ _ H _ I h=>vP I hg hm hv ⟨v,H,I,r,h⟩ hn hd
variable {a b:Go}
def tB(t:TE):TT:=λY H Q=>t Y H λx H1=>∃c,x=.bl c/\Q c H1
def S0(h:PE X e t)(he:∀Yi,isTrue e X.env Yi=(do let v<-Yi;XXd e.pos;TD [v] (truthy v)):=by intro _;rfl):PT X e (tB t):=by intro XF s Y H Q I hw;refine isTrue_plain (sX (h XF s Y H _ I hw) λv s1 zz=>x5 zz λx H1 I1 r1 q1=>?_) (he _);obtain⟨d,rfl,q⟩:=q1;cases r1;exact fv ⟨H1,I1,q⟩
variable {rest:T0 Go}
def Wp(t u:TT):TT:=λY H Q=>t Y H λc H1=>if c=pc then u Y H1 Q else Q lf H1
def Xo(t u:TT):TT:=λY H Q=>t Y H λc H1=>if c=pc then Q pc H1 else u Y H1 Q
def W8(t:TT):TT:=λY H Q=>t Y H λc H1=>Q (!c) H1
def PK(ha:PT X a tA):PW X (.BoolOp .And [a] pos) tA:=by
 intro wh XF s Y H Q I h;refine isTrue_and (sX (ha XF s Y H Q I h) λc s1 e=>?_);cases c with
 | true=>exact isTrue_and_nil e
 | false=>exact e
def Sm(ha:PT X a tA):PW X (.BoolOp .Or [a] pos) tA:=by
 intro wh XF s Y H Q I h;refine isTrue_or (sX (ha XF s Y H Q I h) λc s1 e=>?_);cases c with
 | false=>exact isTrue_or_nil e
 | true=>exact e
def TL(ha:PT X a tA)(hb:PW X (.BoolOp .And (b::rest) pos) tB'):PW X (.BoolOp .And (a::b::rest) pos) (Wp tA tB'):=by
 intro wh XF s Y H Q I h;refine isTrue_and (sX (ha XF s Y H _ I h) λc s1 ⟨H1,I1,q1⟩=>?_);cases c with
 | true=>exact hb wh XF s1 Y H1 Q I1 q1
 | false=>exact⟨H1,I1,q1⟩
def Vi(ha:PT X a tA)(hb:PW X (.BoolOp .Or (b::rest) pos) tB'):PW X (.BoolOp .Or (a::b::rest) pos) (Xo tA tB'):=by
 intro wh XF s Y H Q I h;refine isTrue_or (sX (ha XF s Y H _ I h) λc s1 ⟨H1,I1,q1⟩=>?_);cases c with
 | true=>exact⟨H1,I1,q1⟩
 | false=>exact hb wh XF s1 Y H1 Q I1 q1
def TH(ha:PT X a tA):PT X (.UnaryOp .Not a pos) (W8 tA):=by intro XF s Y H Q I h;exact isTrue_not (ha XF s Y H (λc H1=>Q (!c) H1) I h)
def Vw(ta tb:TE):TE:=λY H Q=>ta Y H λx H1=>∃c,x=.bl c/\if c=pc then tb Y H1 Q else Q (.bl lf) H1
def W5(ta tb:TE):TE:=λY H Q=>ta Y H λx H1=>∃c,x=.bl c/\if c=pc then Q (.bl pc) H1 else tb Y H1 Q
def U7(ta:TE):TE:=λY H Q=>ta Y H λx H1=>∃c,x=.bl c/\Q (.bl (!c)) H1
def Tn{op}(h:PE X a t):PE X (.BoolOp op [a] pos) t:=λXF s Y H Q I hw=>BoolOp_one (h XF s Y H Q I hw)
def Tr(ha:PE X a ta)(hb:PE X (.BoolOp .And (b::rest) pos) tb):PE X (.BoolOp .And (a::b::rest) pos) (Vw ta tb):=by
 intro XF s Y H Q I h;refine BoolOp_and (sX (ha XF s Y H _ I h) λv s1 zz=>x5 zz λx H1 I1 r1 q1=>?_);obtain⟨c,rfl,q1⟩:=q1;cases r1;refine fv ?_;cases c with
 | true=>exact hb XF s1 Y H1 Q I1 q1
 | false=>exact⟨.bl lf,H1,I1,Z',q1⟩
def UW(ha:PE X a ta)(hb:PE X (.BoolOp .Or (b::rest) pos) tb):PE X (.BoolOp .Or (a::b::rest) pos) (W5 ta tb):=by
 intro XF s Y H Q I h;refine BoolOp_or (sX (ha XF s Y H _ I h) λv s1 zz=>x5 zz λx H1 I1 r1 q1=>?_);obtain⟨c,rfl,q1⟩:=q1;cases r1;refine fv ?_;cases c with
 | false=>exact hb XF s1 Y H1 Q I1 q1
 | true=>exact⟨.bl pc,H1,I1,Z',q1⟩
def SA(ha:PE X a ta):PE X (.UnaryOp .Not a pos) (U7 ta):=by intro XF s Y H Q I h;refine UnaryOp_ (sX (ha XF s Y H _ I h) λv s1 zz=>x5 zz λx H1 I1 r1 q1=>?_);obtain⟨c,rfl,q1⟩:=q1;cases r1;exact not_of (fv ⟨.bl (!c),H1,I1,Z',q1⟩)
def Xw(t:TT)(ta tb:TE):TE:=λY H Q=>t Y H λc H1=>if c=pc then ta Y H1 Q else tb Y H1 Q
def MD(hc:PT X c tA)(ha:PE X a ta)(hb:PE X b tb):PE X (.IfExp c a b pos) (Xw tA ta tb):=by
 intro XF s Y H Q I h;refine wpAny_IfExp (sX (hc XF s Y H _ I h) λd s1 ⟨H1,I1,q1⟩=>?_);cases d with
 | true=>exact ha XF s1 Y H1 Q I1 q1
 | false=>exact hb XF s1 Y H1 Q I1 q1
end
def zb(K:qL)(H:Hp)(a:Uf)(xs:T0 V):Prop:=
 Rd H a (.lst xs)\/
  ∃(o:Obj) (its:Array Vl) (n:Nat),K.lookup a=Fa o/\o.cls=.type "list"/\o.dict=Db/\o.data=.seq its n/\its.size<=pi/\qO xs its.toList
def vE(K:qL)(H:Hp)(a:Uf)(xs:T0 V):Prop:=
 Rd H a (.tup xs)\/
  ∃(o:Obj) (its:Array Vl) (n:Nat),K.lookup a=Fa o/\o.cls=.type "tuple"/\o.dict=Db/\o.data=.seq its n/\its.size<=pi/\qO xs its.toList
def Ws:Vl->Option V
 | .none=>Fa .nz
 | .bool b=>Fa (.bl b)
 | .int i _=>Fa (.int i)
 | .str x _=>Fa (.str x)
 | .bytes b _=>Fa (.byt b)
 | .float b _=>Fa (.flt b)
 | .ref a=>Fa (.ref a)
 | .type n=>Fa (.ty n)
 | _=>Db
def ra.abs(r:ra x u):Ws u=Fa x:=by
 cases x with
 | nz=>cases r;rfl
 | bl _=>cases r;rfl
 | int _=>obtain⟨t,rfl⟩:=r;rfl
 | str _=>obtain⟨t,rfl⟩:=r;rfl
 | byt _=>obtain⟨t,rfl⟩:=r;rfl
 | flt _=>obtain⟨t,rfl⟩:=r;rfl
 | ref _=>cases r;rfl
 | ty _=>cases r;rfl
def ra.inj(r:ra x u)(q:ra y u):x=y:=dB (r.abs.symm.trans q.abs)
theorem qO.inj:∀{xs ys:T0 V} {us:T0 Vl},qO xs us->qO ys us->xs=ys
 | _,_,_,.nil,.nil=>rfl
 | _,_,_,.cons r t,.cons r' t'=>by rw[r.inj r',qO.inj t t']
variable {xs ys:T0 V}
section
variable {Y:St}{a:Uf}
def vE.of{K:qL}(h:H a=Fa (.tup xs)):vE K H a xs:=.inl (.inl h)
def Inv.list(I:Inv X XF Y H s)(h:zb X.K H a xs):∃its:T0 Vl,qO xs its/\PlainL s.heap a its.toArray/\xs.length<=pi:=by
 rcases h with h|⟨o,its,n,hk,hc,hd,hs,hz,r⟩
 .obtain⟨z,its,n,r,e⟩:=h.ok I.nB;exact⟨its,r,⟨_,n,e,Z',Z',Z'⟩,z⟩
 .refine⟨its.toList,r,⟨o,n,I.nO a o hk,hc,hd,by simpa using hs⟩,?_⟩;have e:=r.length;simp only[gZ]at e;omega
def Inv.tuple(I:Inv X XF Y H s)(h:vE X.K H a xs):∃its:T0 Vl,qO xs its/\IsTup s.heap a its.toArray/\xs.length<=pi:=by
 rcases h with h|⟨o,its,n,hk,hc,hd,hs,hz,r⟩
 .obtain⟨z,its,r,p⟩:=h.ok I.nB;exact⟨its,r,p.is,z⟩
 .refine⟨its.toList,r,⟨o,I.nO a o hk,hc,n,by simpa using hs⟩,?_⟩;have e:=r.length;simp only[gZ]at e;omega
def Inv.oA(I:Inv X XF Y H s)(h:zb X.K H a xs)(h':zb X.K H a ys):xs=ys:=by
 obtain⟨its,r,⟨o,n,e,_,_,d⟩,_⟩:=I.list h;obtain⟨its',r',⟨o',n',e',_,_,d'⟩,_⟩:=I.list h';rw[e]at e';cases e';rw[d]at d';injection d' with d1 _
 have:its=its':=by simpa using eV Array.toList d1
 subst this;exact r.inj r'
def Inv.nQ(I:Inv X XF Y H s)(h:vE X.K H a xs)(h':vE X.K H a ys):xs=ys:=by
 obtain⟨its,r,⟨o,e,_,n,d⟩,_⟩:=I.tuple h;obtain⟨its',r',⟨o',e',_,n',d'⟩,_⟩:=I.tuple h';rw[e]at e';cases e';rw[d]at d';injection d' with d1 _
 have:its=its':=by simpa using eV Array.toList d1
 subst this;exact r.inj r'
end
abbrev Cx.om(X:Cx)(E:QQX):Cx:={X with xe:=E}
abbrev Cx.pf(X:Cx):Cx:=X.om λ_ _=>False
def Cx.Ok.om{X:Cx}(ok:X.Ok)(E:QQX):(X.om E).Ok:=
 ⟨ok.mod,ok.kind,ok.glob,ok.blt,ok.above,ok.inj,ok.has,ok.pb,ok.hd,ok.frames,ok.pq,ok.pL,ok.bs,ok.oK,ok.oz,ok.oJ,ok.oa,ok.oR⟩
def Cx.Ok.nP{X:Cx}{E:QQX}(ok:(X.om E).Ok):X.Ok:=
 ⟨ok.mod,ok.kind,ok.glob,ok.blt,ok.above,ok.inj,ok.has,ok.pb,ok.hd,ok.frames,ok.pq,ok.pL,ok.bs,ok.oK,ok.oz,ok.oJ,ok.oa,ok.oR⟩
section
variable {Y:St}{E:QQX}
def Inv.om(I:Inv X XF Y H s)(E:QQX):Inv (X.om E) XF Y H s:=⟨I.ok.om E,I.os,I.bare,I.base,I.loc,I.cell,I.free,I.nK,I.pin,I.nB,I.len⟩
def Inv.nP(I:Inv (X.om E) XF Y H s):Inv X XF Y H s:=⟨I.ok.nP,I.os,I.bare,I.base,I.loc,I.cell,I.free,I.nK,I.pin,I.nB,I.len⟩
def SP.nP{D:Gg}(h:SP (X.om E) XF D f s'):SP X XF D f s':=by
 cases f with
 | next=>obtain⟨σ',H',I,q⟩:=h;exact⟨σ',H',I.nP,q⟩
 | brk=>obtain⟨σ',H',I,q⟩:=h;exact⟨σ',H',I.nP,q⟩
 | cont=>obtain⟨σ',H',I,q⟩:=h;exact⟨σ',H',I.nP,q⟩
 | ret u=>obtain⟨v,σ',H',I,r,q⟩:=h;exact⟨v,σ',H',I.nP,r,q⟩
def BX.pf{st:T0 wE}(h:BX X.pf st t):BX X st t:=λXF s Y H D I hw=>eF (h XF s Y H D (I.om _) hw) (λ_ _ q=>q.nP) λ_ _ z=>False.elim z
end
variable {st:wE}{u:TS}{te:TE}
section
variable {rest:T0 wE}{t:TS}{e:Go}
def UY:TS:=λD Y H=>D.nx Y H
def Wk(t u:TS):TS:=λD Y H=>t {D with nx:=u D} Y H
def Qd:BX X [] UY:=λ_ _ Y H _ I h=>hU ⟨Y,H,I,h⟩
def LH(h1:PS X st t)(h2:BX X rest u):BX X (st::rest) (Wk t u):=by
 intro XF s Y H D I h;refine jQ (sX (h1 XF s Y H {D with nx:=u D} I h) λf s1 q=>?_);cases f with
 | next=>obtain⟨σ',H',I',q⟩:=q;exact h2 XF s1 σ' H' D I' q
 | ret v=>exact q
 | brk=>exact q
 | cont=>exact q
def FO(h1:PS X st t):BX X [st] t:=by
 intro XF s Y H D I h;refine jQ (sX (h1 XF s Y H D I h) λf s1 q=>?_);cases f with
 | next=>exact hU q
 | ret v=>exact q
 | brk=>exact q
 | cont=>exact q
def Inv.quiet{XF:QQY}(I:Inv X XF Y H s):interactive X.env=lf:=by simp[interactive,I.ok.kind]
def UN(te:TE):TS:=λD Y H=>te Y H λ_ H1=>D.nx Y H1
def O9(he:PE X e te)(hs:ZB e Db pos.line X.env=pure lf:=by rfl):PS X (.Expr e pos) (UN te):=by intro XF s Y H D I h;exact wpAny_Expr_any (sX (he XF s Y H _ I h) λv s1 zz=>x5 zz λx H1 I1 r1 q1=>⟨Y,H1,I1,q1⟩) I.quiet hs
def WG(te:TE):TS:=λD Y H=>te Y H D.rt
def Tp(he:PE X e te):PS X (.Return (Fa e) pos) (WG te):=by intro XF s Y H D I h;exact wpAny_Return_some (sX (he XF s Y H _ I h) λv s1 zz=>x5 zz λx H1 I1 r1 q1=>⟨x,Y,H1,I1,r1,q1⟩)
def WR(c:TT)(t u:TS):TS:=λD Y H=>c Y H λb H1=>if b=pc then t D Y H1 else u D Y H1
def Uo(hc:PT X c tc)(ha:BX X a t)(hb:BX X b u):PS X (.If c a b pos) (WR tc t u):=by
 intro XF s Y H D I h;refine wpAny_If (sX (hc XF s Y H _ I h) λd s1 ⟨H1,I1,q1⟩=>?_);cases d with
 | true=>exact ha XF s1 Y H1 D I1 q1
 | false=>exact hb XF s1 Y H1 D I1 q1
def Tf:TS:=λ_ _ _=>False
def NV:PS X st Tf:=λ_ _ _ _ _ _ h=>h.elim
end
abbrev TG:=V->St->Hp->(St->Hp->Prop)->Prop
abbrev PN:=T0 V->St->Hp->(St->Hp->Prop)->Prop
def PG(X:Cx)(Ye:Go)(t:TG):Prop:=
 ∀(XF:QQY) (s:Sd) (Y:St) (H:Hp) (v:V) (u:Vl) (Q:St->Hp->Prop),Inv X XF Y H s->ra v u->t v Y H Q->
  Ch (Tk X.prog X.w) X.A (assign Ye X.env u) (λ_ s'=>∃σ' H',Inv X XF σ' H' s'/\Q σ' H') X.xe s
def OJ(X:Cx)(ts:T0 Go)(t:PN):Prop:=
 ∀(XF:QQY) (s:Sd) (Y:St) (H:Hp) (vs:T0 V) (us:T0 Vl) (Q:St->Hp->Prop),Inv X XF Y H s->qO vs us->t vs Y H Q->
  Ch (Tk X.prog X.w) X.A (assignInOrder ((At ts X.env).map (·.2)) us) (λ_ s'=>∃σ' H',Inv X XF σ' H' s'/\Q σ' H') X.xe s
abbrev Sg:=V->V->V->Hp->(Hp->Prop)->Prop
def Vx(X:Cx)(t:Sg):Prop:=
 ∀(XF:QQY) (s:Sd) (Y:St) (H:Hp) (o i v:V) (ov iv u:Vl) (Q:Hp->Prop),Inv X XF Y H s->ra o ov->ra i iv->ra v u->t o i v H Q->
  Ch (Tk X.prog X.w) X.A (setItem ov iv u) (λ_ s'=>∃H',Inv X XF Y H' s'/\Q H') X.xe s
def JD(i:Nat):TG:=λv Y H Q=>Q (Y.set i (Fa v)) H
def P5{i:Nat}{x:Str}(hN:X.N.Nodup)(hi:X.N[i]?=Fa x)(hx:LG X.env.scope x)(hf:LD X x:=by first|exact .inl Z'|exact .inr Z'|assumption):PG X (.Name x pos) (JD i):=by intro XF s Y H v u Q I r h;exact lK (yu I hN hi hx r (λs' I'=>⟨_,H,I',h⟩) hf)
def WA:PN:=λvs Y H Q=>vs=[]/\Q Y H
def UC(t:TG)(u:PN):PN:=λvs Y H Q=>∃v r,vs=v::r/\t v Y H λσ' H'=>u r σ' H' Q
def PR:OJ X [] WA:=by intro XF s Y H vs us Q I r h;obtain⟨e,h⟩:=h;subst e;cases r;exact assignInOrder_nil ⟨Y,H,I,h⟩
def Nv{u:PN}(h1:PG X e t)(h2:OJ X es u) (hs:(At (e::es) X.env).map (·.2)=assign e X.env::(At es X.env).map (·.2):=by rfl):OJ X (e::es) (UC t u):=by
 intro XF s Y H vs us Q I r h;obtain⟨v,vr,e1,h⟩:=h;subst e1;cases r with
 | cons r rr=>rw[hs];refine assignInOrder_cons (sX (h1 XF s Y H _ _ _ I r h) λ_ s1 ⟨σ1,H1,I1,q1⟩=>?_);exact h2 XF s1 σ1 H1 _ _ Q I1 rr q1
def WI(K:qL)(n:Nat)(t:PN):TG:=λv Y H Q=>∃a xs,v=.ref a/\vE K H a xs/\xs.length=n/\t xs Y H Q
def SM{n:Nat}(hc:X.calm=pc)(h:OJ X es t) (hn:(At es X.env).length=n:=by rfl) (X6:(At es X.env).findIdx? (·.1)=Db:=by rfl):PG X (.Tuple es k pos) (WI X.K n t):=by
 intro XF s Y H v u Q I r hw;obtain⟨a,xs,e1,hq,hl,hw⟩:=hw;subst e1;cases r;obtain⟨its,rv,ht,hz⟩:=I.tuple hq;refine assign_Tuple_tuple (I.ok.hd hc) ht (by simp[hn,<-hl,rv.length]) X6 λh' hx=>?_;have I1:Inv X XF Y H {s with heap:=h'}:=I.kept (t':=s.toks) λb o e=>hx b o (dN (dD e)) e;exact h XF _ Y H xs _ Q I1 (by simpa using rv) hw
def Wu(to ti:TE)(t:Sg):TG:=λv Y H Q=>to Y H λo H1=>ti Y H1 λi H2=>t o i v H2 λH3=>Q Y H3
def Si(ho:PE X o to)(hi:PE X i ti)(hs:Vx X t) (ha:∀v,assign (.Subscript o i pos) X.env v=(do
   let ov<-TD [v] (wp o X.env);let iv<-TD [v,ov] (wp i X.env)
   XXd pos
   TD [v,ov,iv] (setItem ov iv v)
   release [v,ov,iv] []):=by intro _;rfl):PG X (.Subscript o i pos) (Wu to ti t):=by
 intro XF s Y H v u Q I r h;rw[ha];refine de (eJ (sX (ho XF s Y H _ I h) λov s1 zz=>x5 zz λx H1 I1 r1 q1=>?_));refine de (eJ (sX (hi XF s1 Y H1 _ I1 q1) λiv s2 zz=>x5 zz λy H2 I2 r2 q2=>?_));refine de (hJ (de (eJ (sX (hs XF s2 Y H2 x y v ov iv u _ I2 r1 r2 r q2) λ_ s3 ⟨H3,I3,q3⟩=>?_))));exact wpAny_release ⟨Y,H3,I3,q3⟩
def Qq(te:TE)(g:TG):TS:=λD Y H=>te Y H λx H1=>g x Y H1 D.nx
def Tt(he:PE X e te)(hg:PG X tg g)(hs:swapsWithSole [tg] e pos.line X.env=pure lf:=by rfl)(hw:swappedStores [tg] e X.env=pure Db:=by rfl)
  (h1:(At [tg] X.env).map (·.2)=[assign tg X.env]:=by rfl):PS X (.Assign [tg] e pos) (Qq te g):=by
 intro XF s Y H D I h;refine wpAny_Assign_stores (sX (he XF s Y H _ I h) λv s1 zz=>x5 zz λx H1 I1 r1 q1=>?_) hs hw;rw[h1];exact sX (hg XF s1 Y H1 x v _ I1 r1 q1) λ_ s2 q=>q
def Mn{i:Nat}{x:Str}(hN:X.N.Nodup)(hi:X.N[i]?=Fa x)(hx:LG X.env.scope x)(he:PE X e te)(hs:ZB e (Fa (.Name x XQ)) pos.line X.env=pure lf:=by rfl)(hf:LD X x:=by first|exact .inl Z'|exact .inr Z'|assumption):
  PS X (.Assign [.Name x XQ] e pos) (Qq te (JD i)):=by
 intro XF s Y H D I h;refine lL (sX (he XF s Y H _ I h) λv s1 zz=>x5 zz λy H1 I1 r1 q1=>?_) hs;exact yu I1 hN hi hx r1 (λs2 I2=>⟨_,H1,I2,q1⟩) hf
def RQ(c:TT)(tb:TS):TS:=λD Y H=>∃W:Nat->St->Hp->Prop,(∃m,W m Y H)/\∀m Y H,W m Y H->
 c Y H λb H1=>if b=pc then ∃N:St->Hp->Prop,(∀σ' H',N σ' H'->∃m',m'<m/\W m' σ' H')/\tb {D with nx:=N,ct:=N,bk:=D.nx} Y H1 else D.nx Y H1
def On{tb:TS}(hp:PassesOwn (Tk X.prog X.w) X.A X.env X.xe)(hc:PT X c tc)(hb:BX X body tb):PS X (.While c body [] pos) (RQ tc tb):=by
 intro XF s Y H D I h;obtain⟨W,⟨m0,w0⟩,turn⟩:=h;refine wpAny_While (codeAny_whileLoop (λn s'=>∃σ' H',Inv X XF σ' H' s'/\W n σ' H') ?_ m0 ⟨Y,H,I,w0⟩)
 rintro n s1 ⟨σ1,H1,I1,w1⟩
 refine gM hp (sX (hc XF s1 σ1 H1 _ I1 (turn n σ1 H1 w1)) λb s2 ⟨H2,I2,q2⟩=>?_);cases b with
 | true=>
  obtain⟨N,hN,q2⟩:=q2;rw[dw Z'];refine gM hp (sX (hb XF s2 σ1 H2 _ I2 q2) λf s3 q3=>?_);cases f with
  | next=>obtain⟨σ3,H3,I3,n3⟩:=q3;obtain⟨m',hm,w3⟩:=hN σ3 H3 n3;exact⟨m',hm,σ3,H3,I3,w3⟩
  | cont=>obtain⟨σ3,H3,I3,n3⟩:=q3;obtain⟨m',hm,w3⟩:=hN σ3 H3 n3;exact⟨m',hm,σ3,H3,I3,w3⟩
  | brk=>exact q3
  | ret v=>exact q3
 | false=>rw[dq dF];exact hU ⟨σ1,H2,I2,q2⟩
structure It where
 go:Nat->Hp->Prop
 pB:Nat->Hp->V->Hp->Prop
 stop:Nat->Hp->Prop
def Bb(X:Cx)(XF:QQY)(H:Hp)(b:Uf):Prop:=
 H b=Db/\b≠X.env.locals/\b∉X.fs/\(b∈X.ex\/X.s₀.heap.objs.size<=b)/\(∀x c,X.env.cells.lookup x=Fa c->c≠b)/\∀p∈X.pn++XF,p.1≠b
def Inv.oH{XF:QQY}{H H':Hp}{b:Uf}(I:Inv X XF Y H s)(hb:s.heap.objs.size<=b)(hn:H' b=Db):Bb X XF H' b:=by
 refine⟨hn,gY (dU I.lt hb),I.pG hb,.inr (eD I.sz hb),λx c e z=>?_,λp hp z=>?_⟩
 .obtain⟨v,q⟩:=I.cell x c e;exact absurd (dU q.lt (by rw[z];exact hb)) (fm _)
 .exact absurd (dU (dD (I.pin p hp).1) (by rw[z];exact hb)) (fm _)
structure GP(P:Pg)(w:Wo)(K:qL)(tg:Go)(J:It)(fp:QXQ)(it:Uf)(tn:Nat->No->Prop):Prop where
 mem:it∈fp
 obj:∀i h,tn i h->∀b∈fp,∃o,h.get? b=Fa o/\∀v,o.data≠.cell v
 keep:∀i h h',tn i h->(∀b∈fp,∀o,h.get? b=Fa o->h'.get? b=Fa o)->tn i h'
 item:∀(X:Cx),X.prog=P->X.w=w->X.K=K->X.calm=pc->∀(i:Nat) (XF:QQY) (s:Sd) (Y:St) (H:Hp) (E:QQX),Inv X XF Y H s->(∀b∈fp,Bb X XF H b)->tn i s.heap->J.go i H->
  Ch (Tk P w) X.A (pyNext (.ref it)) (λr s1=>∃u,r=Fa u/\
   Ch (Tk P w) X.A (XXj tg (.ref it) u) (λ_ s2=>∃x H',Inv X XF Y H' s2/\ra x u/\J.pB i H x H'/\tn (i+1) s2.heap/\∀b∈fp,H' b=Db) E s1) E s
 done:∀(X:Cx),X.prog=P->X.w=w->X.K=K->X.calm=pc->∀(i:Nat) (XF:QQY) (s:Sd) (Y:St) (H:Hp) (E:QQX),Inv X XF Y H s->(∀b∈fp,Bb X XF H b)->tn i s.heap->J.stop i H->
  Ch (Tk P w) X.A (pyNext (.ref it)) (λr s1=>r=Db/\Inv X XF Y H s1) E s
 self:∀(A:Ar) (i:Nat) (s:Sd) (Q:QQX) (E:QQX),tn i s.heap->Q (.ref it) s->Ch (Tk P w) A (pyIter (.ref it)) Q E s
abbrev TI:=St->Hp->(It->Hp->Prop)->Prop
def Xd(X:Cx)(XF:QQY)(Y:St)(tg:Go)(R:It->Hp->Prop)(itv:Vl)(s2:Sd):Prop:=
 ∃(it:Uf) (fp:QXQ) (tn:Nat->No->Prop) (J:It) (H':Hp),itv=.ref it/\Inv X XF Y H' s2/\GP X.prog X.w X.K tg J fp it tn/\tn 0 s2.heap/\(∀b∈fp,Bb X XF H' b)/\R J H'
def PI(X:Cx)(tg iter:Go)(wi:TI):Prop:=
 ∀(XF:QQY) (s:Sd) (Y:St) (H:Hp) (R:It->Hp->Prop),Inv X XF Y H s->wi Y H R->
  Ch (Tk X.prog X.w) X.A (wp iter X.env) (λv s1=>Ch (Tk X.prog X.w) X.A (pyIter v) (Xd X XF Y tg R) X.xe s1) X.xe s
def Jt{M:Model}{A:Ar}{E:QQX}{s:Sd}{tg:Go}{it:Uf}{u:Vl}{o:Obj}{n:String}{vs:Array Vl}{Q:Unit->Sd->Prop}(ho:s.heap.get? it=Fa o)(hc:o.cls=.type n)(hd:o.data=.fields vs) (hn:["enumerate","zip","dict_itemiterator","dict_reverseitemiterator","odict_iterator","itertools.zip_longest","itertools.pairwise"].contains n=lf) (hQ:Q () s):Ch M A (XXj tg (.ref it) u) Q E s:=by
  unfold XXj;cases tg<;>first
    | exact dz hQ
    | (cases u<;>first
        | exact dz hQ
        | (refine de (wpAny_load ho ?_)
           rw[hc,hd];show Ch M A (if (["enumerate","zip","dict_itemiterator","dict_reverseitemiterator","odict_iterator","itertools.zip_longest","itertools.pairwise"].contains n&&vs[0]?==Fa (Y' _))=pc then _ else _) Q E s;rw[dq (by intro h;rw[hn,eW]at h;cases h)];exact dz hQ))
def VQ(K:qL)(a:Uf):It:=
 ⟨λi H=>∃xs x,zb K H a xs/\xs[i]?=Fa x,λi H x H'=>H'=H/\∀xs,zb K H a xs->xs[i]?=Fa x,λi H=>∃xs,zb K H a xs/\xs.length<=i⟩
def W7(K:qL)(a:Uf):It:=
 ⟨λi H=>∃xs x,vE K H a xs/\xs[i]?=Fa x,λi H x H'=>H'=H/\∀xs,vE K H a xs->xs[i]?=Fa x,λi H=>∃xs,vE K H a xs/\xs.length<=i⟩
def VX(lo:Int)(n:Nat):It:=⟨λi _=>i<n,λi H x H'=>H'=H/\x=.int (lo+i),λi _=>n<=i⟩
def Kq{K:qL}(a it:Uf):GP P w K tg (VQ K a) [it] it (λi h=>h.IsListIter it a i) where
 mem:=by simp
 obj:=λi h st b hb=>by
  have e:b=it:=by simpa using hb
  subst e;obtain⟨o,e,c,d⟩:=st;exact⟨o,e,λv z=>by rw[d]at z;cases z⟩
 keep:=λi h h' st k=>st.at λo e=>k it (by simp) o e
 item:=by intro X hP hw hK hc i XF s Y H E I hf st hg;subst hP hw hK;obtain⟨xs,x,hq,hx⟩:=hg;obtain⟨its,rv,p,hz⟩:=I.list hq;obtain⟨u,hu,ru⟩:=rv.get hx;obtain⟨f0,f1,f2,f3,f4,f5⟩:=hf it (by simp);refine km st p.isList (x:=u) (by simpa using hu) λh' Yz sb=>?_;have I1:Inv X XF Y H {s with heap:=h'}:=I.turned (t':=s.toks) (λb o hb e=>(sb.2 b hb).trans e) f0 f1 f3 f4 f5;obtain⟨o,e,c,d⟩:=id Yz;exact⟨u,Z',Jt (s:={s with heap:=h'}) e c d (by decide) ⟨x,H,I1,ru,⟨Z',λys hy=>by rw[I.oA hy hq];exact hx⟩,Yz,λb hb=>(hf b hb).1⟩⟩
 done:=by intro X hP hw hK hc i XF s Y H E I hf st hg;subst hP hw hK;obtain⟨xs,hq,hx⟩:=hg;obtain⟨its,rv,p,hz⟩:=I.list hq;obtain⟨f0,f1,f2,f3,f4,f5⟩:=hf it (by simp);have hl:=rv.length;exact kx (I.ok.hd hc) st p.isList (by simp;omega) λh' eb=>⟨Z',I.turned (t':=s.toks) (λb o hb e=>eb b o hb e) f0 f1 f3 f4 f5⟩
 self:=λ_ _ _ _ _ st h=>wpAny_pyIter_listiter st h
def HP{K:qL}(a it:Uf):GP P w K tg (W7 K a) [it] it (λi h=>h.IsTupleIter it a i) where
 mem:=by simp
 obj:=λi h st b hb=>by
  have e:b=it:=by simpa using hb
  subst e;obtain⟨o,e,c,d⟩:=st;exact⟨o,e,λv z=>by rw[d]at z;cases z⟩
 keep:=λi h h' st k=>st.at λo e=>k it (by simp) o e
 item:=by intro X hP hw hK hc i XF s Y H E I hf st hg;subst hP hw hK;obtain⟨xs,x,hq,hx⟩:=hg;obtain⟨its,rv,p,hz⟩:=I.tuple hq;obtain⟨u,hu,ru⟩:=rv.get hx;obtain⟨f0,f1,f2,f3,f4,f5⟩:=hf it (by simp);refine wpAny_pyNext_tuple_item st (show s.heap.IsTuple a its.toArray from p) (x:=u) (by simpa using hu) λh' Yz sb=>?_;have I1:Inv X XF Y H {s with heap:=h'}:=I.turned (t':=s.toks) (λb o hb e=>(sb.2 b hb).trans e) f0 f1 f3 f4 f5;obtain⟨o,e,c,d⟩:=id Yz;exact⟨u,Z',Jt (s:={s with heap:=h'}) e c d (by decide) ⟨x,H,I1,ru,⟨Z',λys hy=>by rw[I.nQ hy hq];exact hx⟩,Yz,λb hb=>(hf b hb).1⟩⟩
 done:=by intro X hP hw hK hc i XF s Y H E I hf st hg;subst hP hw hK;obtain⟨xs,hq,hx⟩:=hg;obtain⟨its,rv,p,hz⟩:=I.tuple hq;obtain⟨f0,f1,f2,f3,f4,f5⟩:=hf it (by simp);have hl:=rv.length;exact wpAny_pyNext_tuple_end (I.ok.hd hc) st (show s.heap.IsTuple a its.toArray from p) (by simp;omega) λh' eb=>⟨Z',I.turned (t':=s.toks) (λb o hb e=>eb b o hb e) f0 f1 f3 f4 f5⟩
 self:=λ_ _ _ _ _ st h=>wpAny_pyIter_tupleiter st h
def Iu{K:qL}(it:Uf)(lo:Int)(n:Nat):GP P w K tg (VX lo n) [it] it (λi h=>IsRangeIter h it (lo+(i:Nat)*1) ((n:Int) - (i:Nat)) 1) where
 mem:=by simp
 obj:=λi h st b hb=>by
  have e:b=it:=by simpa using hb
  subst e;exact⟨_,st,λv z=>by
   have z':Data.fields _=Data.cell v:=z;cases z'⟩
 keep:=λi h h' st k=>k it (by simp) _ st
 item:=by intro X hP hw hK hc i XF s Y H E I hf st hg;subst hP hw hK;obtain⟨f0,f1,f2,f3,f4,f5⟩:=hf it (by simp);have W:=Walks.range (prog:=X.prog) (w:=X.w) (I.ok.hd hc) it lo 1 n;refine W.item i s _ _ hg st λv h' tk hv Yz kk=>?_;obtain⟨t,rfl⟩:=hv;have I1:Inv X XF Y H {s with heap:=h',toks:=tk}:=I.turned (λb o hb e=>kk b o (by simpa using hb) e) f0 f1 f3 f4 f5;refine⟨_,Z',Jt (s:={s with heap:=h',toks:=tk}) (n:="range_iterator") Yz Z' Z' (by decide) ⟨.int (lo+i),H,I1,⟨t,?_⟩,⟨Z',Z'⟩,Yz,λb hb=>(hf b hb).1⟩⟩;rw[Int.mul_one]
 done:=by intro X hP hw hK hc i XF s Y H E I hf st hg;subst hP hw hK;obtain⟨f0,f1,f2,f3,f4,f5⟩:=hf it (by simp);exact wpAny_pyNext_range_end (I.ok.hd hc) st (by have:n<=i:=hg;omega) λh' eb=>⟨Z',I.turned (t':=s.toks) (λb o hb e=>eb b o hb e) f0 f1 f3 f4 f5⟩
 self:=λ_ _ _ _ _ st h=>wpAny_pyIter_rangeiter st h
variable {tg:Go}
def ND{XF:QQY}{R:It->Hp->Prop}{E:QQX}{lo hi:Int}{t u v:Tok}{tk:Nat}(I:Inv X XF Y H s)(h1:-(2 ^ 62)<=lo)(h2:lo<2 ^ 62)(h3:-(2 ^ 62)<=hi)(h4:hi<2 ^ 62) (q:R (VX lo (hi - lo).toNat) H):Ch (Tk X.prog X.w) X.A (pyIter (.ref s.heap.objs.size)) (Xd X XF Y tg R) E {s with heap:=s.heap.push {cls:=.type "range",data:=.fields #[.int lo t,.int hi u,.int 1 v]},toks:=tk}:=by
 refine wpAny_pyIter_range (mZ ..) (small_one h1 h2 h3 h4) ?_;have I1:Inv X XF Y H {s with heap:=s.heap.push {cls:=.type "range",data:=.fields #[.int lo t,.int hi u,.int 1 v]},toks:=tk}:=I.kept λb o e=>dv _ e;refine⟨(s.heap.push {cls:=.type "range",data:=.fields #[.int lo t,.int hi u,.int 1 v]}).objs.size,[(s.heap.push {cls:=.type "range",data:=.fields #[.int lo t,.int hi u,.int 1 v]}).objs.size],_,_,H,Z',I1.kept (t':=tk) λb o e=>dv _ e,Iu _ lo (hi - lo).toNat,?_,λb hb=>?_,q⟩
 .have e1:lo+((0:Nat):Int)*1=lo:=by simp
  have e2:(((hi - lo).toNat:Nat):Int) - ((0:Nat):Int)=Builtin.Range.rangeSize lo hi 1:=by rw[rangeSize_one];split<;>omega
  show IsRangeIter _ _ (lo+((0:Nat):Int)*1) ((((hi - lo).toNat:Nat):Int) - ((0:Nat):Int)) 1;rw[e1,e2];exact dP _ Z'
 .have e:b=(s.heap.push {cls:=.type "range",data:=.fields #[.int lo t,.int hi u,.int 1 v]}).objs.size:=by simpa using hb
  subst e;exact I1.oH (dC _) (I1.nB.fresh (dC _))
def U0(ta:TA):TI:=λY H R=>ta Y H λvs H1=>∃j:Int,vs=[.int j]/\-(2 ^ 62)<=j/\j<2 ^ 62/\R (VX 0 j.toNat) H1
def KN{a:Go}{ta:TA}(hg:Gl X "range")(hm:X.mg "range"=Db)(ha:PA X [a] ta)(hs:Tl [a] X.env=[(lf,wp a X.env)]:=by rfl):PI X tg (.Call (.Name "range" p) [a] [] pos) (U0 ta):=by
 intro XF s Y H R I h;refine Call_ (vP I hg hm boot_range (fH (sX (ha pos XF s Y H _ I h) λus s1 zz=>x5 zz λvs H1 I1 r1 q1=>?_) hs Z'));obtain⟨j,e,q1,q2,q⟩:=q1;subst e;cases r1 with
 | cons r rr=>cases rr;obtain⟨t,rfl⟩:=r;exact call_range_1 (ND I1 (by omega) (by omega) q1 q2 (by simpa using q))
def WM(wi:TI)(g:TG)(tb:TS):TS:=λD Y H=>wi Y H λJ H1=>∃W:Nat->Nat->St->Hp->Prop,(∃m,W 0 m Y H1)/\∀i m Y H,W i m Y H->
 (J.stop i H/\D.nx Y H)\/(J.go i H/\∃N:St->Hp->Prop,(∀σ' H',N σ' H'->∃m',m'<m/\W (i+1) m' σ' H')/\∀x H',J.pB i H x H'->g x Y H' λσ2 H2=>tb {D with nx:=N,ct:=N,bk:=D.nx} σ2 H2)
def BU(fp:QXQ)(h:No):QQY:=fp.filterMap λb=>(h.get? b).map λo=>(b,o)
def vQ{fp:QXQ}{h:No}{b:Uf}{o:Obj}(hb:b∈fp)(e:h.get? b=Fa o):(b,o)∈BU fp h:=lu.mpr ⟨b,hb,by rw[e];rfl⟩
def KQ{p:Uf×Obj}(hp:p∈BU fp h):p.1∈fp/\h.get? p.1=Fa p.2:=by
 obtain⟨b,hb,e⟩:=lu.mp hp;cases q:h.get? b with
 | none=>rw[q]at e;cases e
 | some o=>rw[q]at e;have e':(b,o)=p:=dB e;subst e';exact⟨hb,q⟩
def Inv.pinned{XF:QQY}{fp:QXQ}(I:Inv X XF Y H s)(hf:∀b∈fp,Bb X XF H b)(ho:∀b∈fp,∃o,s.heap.get? b=Fa o/\∀v,o.data≠.cell v):Inv X (XF++BU fp s.heap) Y H s:=
 I.ou λp hp=>(eB.mp hp).elim (λz=>I.pin p (eM _ z)) λz=>by obtain⟨hb,e⟩:=KQ z;obtain⟨f0,f1,f2,_⟩:=hf p.1 hb;obtain⟨o,e',d⟩:=ho p.1 hb;rw[e]at e';cases e';exact⟨e,f0,f1,f2,d⟩
def Inv.nL{XF pl:QQY}(I:Inv X (XF++pl) Y H s):Inv X XF Y H s:=I.ou λp hp=>I.pin p (eM _ (fL _ hp))
def To{tb:TS}(hp:PassesOwn (Tk X.prog X.w) X.A X.env X.xe)(hc:X.calm=pc)(hi:PI X tg iter wi)(hg:PG X tg g)(hb:BX X body tb) (hs:∀x,AT iter X.env x=pure x:=by intro _;rfl):PS X (.For tg iter body [] pos) (WM wi g tb):=by
 intro XF s Y H D I h;refine wpAny_For (sX (hi XF s Y H _ I h) λv s1 h1=>sX h1 λitv s2 h2=>?_) hs;obtain⟨it,fp,tn,J,H2,e,I2,T,X9,f2,W,⟨m0,w0⟩,turn⟩:=h2;subst e;have YZ:∀{H':Hp},(∀b∈fp,H' b=Db)->∀b∈fp,Bb X XF H' b:=λhn b hb=>⟨hn b hb,(f2 b hb).2⟩;refine codeAny_forLoop_any (λn s'=>∃i σ' H',Inv X XF σ' H' s'/\tn i s'.heap/\(∀b∈fp,H' b=Db)/\W i n σ' H') ?_ m0 ⟨0,Y,H2,I2,X9,λb hb=>(f2 b hb).1,w0⟩
 rintro n s3 ⟨i,σ3,H3,I3,Yv,fr3,w3⟩
 rcases turn i n σ3 H3 w3 with⟨stop,qn⟩|⟨go,N,hN,step⟩
 .refine gM hp (sX (T.done X Z' Z' Z' hc i XF s3 σ3 H3 X.xe I3 (YZ fr3) Yv stop) λr s4 ⟨hr,I4⟩=>?_);subst hr;exact hU ⟨σ3,H3,I4,qn⟩
 .refine gM hp (sX (T.item X Z' Z' Z' hc i XF s3 σ3 H3 X.xe I3 (YZ fr3) Yv go) λr s4 ⟨u,hr,h4⟩=>?_);subst hr;refine gM hp (sX h4 λ_ s5 zz=>?_);obtain⟨x,H5,I5,r5,y5,Z9,fr5⟩:=zz;have I5':=I5.pinned (YZ fr5) (T.obj _ _ Z9);refine gM hp (sX (hg _ s5 σ3 H5 x u _ I5' r5 (step x H5 y5)) λ_ s6 ⟨σ6,H6,I6,q6⟩=>?_);refine gM hp (sX (hb _ s6 σ6 H6 _ I6 q6) λf s7 q7=>?_);have again:∀{σ7:St} {H7:Hp},Inv X (XF++BU fp s5.heap) σ7 H7 s7->N σ7 H7->∃m,m<n/\∃i σ' H',Inv X XF σ' H' s7/\tn i s7.heap/\(∀b∈fp,H' b=Db)/\W i m σ' H':=λ{σ7 H7} I7 n7=>by obtain⟨m',hm,w7⟩:=hN σ7 H7 n7;refine⟨m',hm,i+1,σ7,H7,I7.nL,T.keep _ _ _ Z9 λb hb o e=>(I7.pin (b,o) (eM _ (eM _ (vQ hb e)))).1,λb hb=>?_,w7⟩;obtain⟨o,e,d⟩:=T.obj _ _ Z9 b hb;exact(I7.pin (b,o) (eM _ (eM _ (vQ hb e)))).2.1
  cases f with
  | next=>obtain⟨σ7,H7,I7,n7⟩:=q7;exact again I7 n7
  | cont=>obtain⟨σ7,H7,I7,n7⟩:=q7;exact again I7 n7
  | brk=>obtain⟨σ7,H7,I7,q7⟩:=q7;exact⟨σ7,H7,I7.nL,q7⟩
  | ret v=>obtain⟨x7,σ7,H7,I7,r7,q7⟩:=q7;exact⟨x7,σ7,H7,I7.nL,r7,q7⟩
abbrev R2:=V->V->Hp->VK->Prop
def xY(X:Cx)(f:Vl->Vl->Sem Vl)(r:R2):Prop:=
 ∀(XF:QQY) (s:Sd) (Y:St) (H:Hp) (x y:V) (v u:Vl) (Q:VK),Inv X XF Y H s->ra x v->ra y u->r x y H Q->
  Ch (Tk X.prog X.w) X.A (f v u) (EP X XF Y Q) X.xe s
def Wd(X:Cx)(f:Vl->Sem Vl)(r:V->Hp->VK->Prop):Prop:=
 ∀(XF:QQY) (s:Sd) (Y:St) (H:Hp) (x:V) (v:Vl) (Q:VK),Inv X XF Y H s->ra x v->r x H Q->
  Ch (Tk X.prog X.w) X.A (f v) (EP X XF Y Q) X.xe s
def yP(X:Cx)(f:Vl)(r:T0 V->Hp->VK->Prop):Prop:=
 ∀(XF:QQY) (s:Sd) (Y:St) (H:Hp) (xs:T0 V) (us:T0 Vl) (Q:VK),Inv X XF Y H s->qO xs us->r xs H Q->
  Ch (Tk X.prog X.w) X.A (call f us) (EP X XF Y Q) X.xe s
def Vm(r:R2)(ta tb:TE):TE:=λY H Q=>ta Y H λx H1=>tb Y H1 λy H2=>r x y H2 Q
def Xp(r:V->Hp->VK->Prop)(ta:TE):TE:=λY H Q=>ta Y H λx H1=>r x H1 Q
def rI(C:Int->Int->Prop)(g:Int->Int->V):R2:=λx y H Q=>∃i j,x=.int i/\y=.int j/\C i j/\Q (g i j) H
def RC(g:Int->Int->V):R2:=λx y H Q=>∃i j,x=.int i/\y=.int j/\Q (g i j) H
def rU(g:Int->V):V->Hp->VK->Prop:=λx H Q=>∃i,x=.int i/\Q (g i) H
variable {tc:TE}
section
variable {a b c:Go}
def Tz(ha:PE X a ta)(hb:PE X b tb){XF:QQY}{s:Sd}{Y:St}{H:Hp}{R:V->V->Hp->Prop}(I:Inv X XF Y H s) (h:ta Y H λx H1=>tb Y H1 λy H2=>R x y H2) {Q:QQX} {f:Vl->Vl->Sem Vl} (hf:∀v u s2 x y H2,Inv X XF Y H2 s2->ra x v->ra y u->R x y H2->Ch (Tk X.prog X.w) X.A (f v u) Q X.xe s2):
  Ch (Tk X.prog X.w) X.A (wp a X.env) (λv s₁=>Ch (Tk X.prog X.w) X.A (wp b X.env) (λu s₂=>Ch (Tk X.prog X.w) X.A (f v u) Q X.xe s₂) X.xe s₁) X.xe s:=by
 refine sX (ha XF s Y H _ I h) λv s1 zz=>x5 zz λx H1 I1 r1 q1=>?_;refine sX (hb XF s1 Y H1 _ I1 q1) λu s2 zz=>x5 zz λy H2 I2 r2 q2=>?_;exact hf v u s2 x y H2 I2 r1 r2 q2
def Rx{op:XYc}(ho:xY X (wP op) r)(ha:PE X a ta)(hb:PE X b tb):PE X (.BinOp a op b pos) (Vm r ta tb):=by intro XF s Y H Q I h;exact wpAny_BinOp (Tz ha hb I h λv u s2 x y H2 I2 rx ry q=>ho XF s2 Y H2 x y v u Q I2 rx ry q)
def Ul{op:UnaryOp}(ho:Wd X (unaryOp op) r)(ha:PE X a ta):PE X (.UnaryOp op a pos) (Xp r ta):=by intro XF s Y H Q I h;exact UnaryOp_ (sX (ha XF s Y H _ I h) λv s1 zz=>x5 zz λx H1 I1 r1 q1=>ho XF s1 Y H1 x v Q I1 r1 q1)
def V8{f:Vl->Vl->Sem Vl}{C:Int->Int->Prop}{g:Int->Int->Int} (rule:∀(i j:Int) (t u:Tok) (s:Sd) (Q:QQX) (E:QQX),C i j->Q (.int (g i j) s.toks) {s with toks:=s.toks+1}->Ch (Tk X.prog X.w) X.A (f (.int i t) (.int j u)) Q E s):
  xY X f (rI C λi j=>.int (g i j)):=by
 intro XF s Y H x y v u Q I rx ry h;obtain⟨i,j,rfl,rfl,hc,q⟩:=h;obtain⟨t,rfl⟩:=rx;obtain⟨t',rfl⟩:=ry;exact rule i j t t' s _ _ hc ⟨.int (g i j),H,I.tok _,⟨_,Z'⟩,q⟩
def UJ{f:Vl->Vl->Sem Vl}{g:Int->Int->Int} (rule:∀(i j:Int) (t u:Tok) (s:Sd) (Q:QQX) (E:QQX),Q (.int (g i j) s.toks) {s with toks:=s.toks+1}->Ch (Tk X.prog X.w) X.A (f (.int i t) (.int j u)) Q E s):
  xY X f (RC λi j=>.int (g i j)):=by
 intro XF s Y H x y v u Q I rx ry h;obtain⟨i,j,rfl,rfl,q⟩:=h;obtain⟨t,rfl⟩:=rx;obtain⟨t',rfl⟩:=ry;exact rule i j t t' s _ _ ⟨.int (g i j),H,I.tok _,⟨_,Z'⟩,q⟩
def Rb{f:Vl->Vl->Sem Vl}{g:Int->Int->Bool} (rule:∀(i j:Int) (t u:Tok) (s:Sd) (Q:QQX) (E:QQX),Q (.bool (g i j)) s->Ch (Tk X.prog X.w) X.A (f (.int i t) (.int j u)) Q E s):
  xY X f (RC λi j=>.bl (g i j)):=by
 intro XF s Y H x y v u Q I rx ry h;obtain⟨i,j,rfl,rfl,q⟩:=h;obtain⟨t,rfl⟩:=rx;obtain⟨t',rfl⟩:=ry;exact rule i j t t' s _ _ ⟨.bl (g i j),H,I,Z',q⟩
def Vq(i j:Int):Prop:=0<j/\j<1073741824
def Dp(i j:Int):Prop:=(-(2 ^ 64)<i/\i<2 ^ 64)\/(-(2 ^ 64)<j/\j<2 ^ 64)
def Dp.ok(h:Dp i j):IntMulOk i j:=by
 rcases h with⟨h1,h2⟩|⟨h1,h2⟩
 .exact .of_left (intBits_le_64 h1 h2)
 .exact .of_right (intBits_le_64 h1 h2)
def Sl:xY X (wP .Add) (RC λi j=>.int (i+j)):=UJ λ_ _ _ _ _ _ _ q=>add_int q
def R9:xY X (wP .Sub) (RC λi j=>.int (i - j)):=UJ λ_ _ _ _ _ _ _ q=>sub_int q
def T6:xY X (wP .Mult) (rI Dp λi j=>.int (i*j)):=V8 λ_ _ _ _ _ _ _ hc q=>mul_int q hc.ok
def QV:xY X (wP .FloorDiv) (rI Vq λi j=>.int (i / j)):=V8 λi j _ _ _ _ _ hc q=>by have h1:(0:Int)<j:=hc.1;have h2:j<1073741824:=hc.2;exact floordiv_int (by omega) (by rw[Int.fdiv_eq_ediv_of_nonneg i (by omega)];exact q) (.inl (PyProof.noPylong_small (by omega)))
def SY:xY X (wP .Mod) (rI (λ_ j=>0<j) λi j=>.int (i % j)):=V8 λi j _ _ _ _ _ hc q=>by have h1:(0:Int)<j:=hc;exact mod_int' (by omega) (by rw[Int.fmod_eq_emod_of_nonneg i (by omega)];exact q)
def Xu{f:Vl->Sem Vl}{g:Int->Int} (rule:∀(i:Int) (t:Tok) (s:Sd) (Q:QQX) (E:QQX),Q (.int (g i) s.toks) {s with toks:=s.toks+1}->Ch (Tk X.prog X.w) X.A (f (.int i t)) Q E s):
  Wd X f (rU λi=>.int (g i)):=by
 intro XF s Y H x v Q I rx h;obtain⟨i,rfl,q⟩:=h;obtain⟨t,rfl⟩:=rx;exact rule i t s _ _ ⟨.int (g i),H,I.tok _,⟨_,Z'⟩,q⟩
def SO:Wd X (unaryOp .USub) (rU λi=>.int (-i)):=Xu λ_ _ _ _ _ q=>neg_int q
end
section
variable {a b c:Go}
def Jb{XF:QQY}{Q:VK}{k k':Bool}(I:Inv X XF Y H s)(q:Q (.bl k) H)(e:k=k'):EP X XF Y Q (.bool k') s:=by subst e;exact⟨.bl k,H,I,Z',q⟩
def Ve:xY X (Op .Lt) (RC λi j=>.bl (decide (i<j))):=Rb λ_ _ _ _ _ _ _ q=>lt_int q
def U8:xY X (Op .LtE) (RC λi j=>.bl (decide (i<=j))):=Rb λ_ _ _ _ _ _ _ q=>le_int q
def UF:xY X (Op .Gt) (RC λi j=>.bl (decide (j<i))):=Rb λ_ _ _ _ _ _ _ q=>gt_int q
def Uw:xY X (Op .GtE) (RC λi j=>.bl (decide (j<=i))):=Rb λ_ _ _ _ _ _ _ q=>ge_int q
def K3:xY X (Op .In) (λx y H Q=>∃i j,x=.str i/\y=.str j/\Q (.bl (!(Builtin.Str.occurrences j i 0 j.length 1).isEmpty)) H):=by intro XF s Y H x y v u Q I rx ry h;obtain⟨i,j,rfl,rfl,q⟩:=h;obtain⟨t,rfl⟩:=rx;obtain⟨t',rfl⟩:=ry;exact in_str (Jb I q Z')
def TV:xY X (Op .Is) (λx y H Q=>y=.nz/\Q (.bl (decide (x=.nz))) H):=by
 intro XF s Y H x y v u Q I rx ry h;obtain⟨rfl,q⟩:=h;cases ry;refine is_none_gen (Jb I q ?_);cases x<;>first
  | (cases rx;rfl)
  | (obtain⟨t,rfl⟩:=rx;rfl)
def PH:xY X (Op .IsNot) (λx y H Q=>y=.nz/\Q (.bl (!decide (x=.nz))) H):=by
 intro XF s Y H x y v u Q I rx ry h;obtain⟨rfl,q⟩:=h;cases ry;refine isnot_none_gen (Jb I q ?_);cases x<;>first
  | (cases rx;rfl)
  | (obtain⟨t,rfl⟩:=rx;rfl)
def Io(b:Go){op:CmpOp}(h:op≠.In:=by decide)(h2:op≠.NotIn:=by decide):wT op b=lf:=by
 have e1:(op==CmpOp.In)=lf:=by cases op<;>first|rfl|exact absurd Z' h
 have e2:(op==CmpOp.NotIn)=lf:=by cases op<;>first|rfl|exact absurd Z' h2
 cases b<;>simp[wT,e1,e2]
def Kj{op:CmpOp}(ho:xY X (Op op) r)(ha:PE X a ta)(hb:PE X b tb)(hm:wT op b=lf):PE X (.Compare a [op] [b] pos) (Vm r ta tb):=by intro XF s Y H Q I h;exact wpAny_Compare1 (Tz ha hb I h λv u s2 x y H2 I2 rx ry q=>ho XF s2 Y H2 x y v u Q I2 rx ry q) hm
def Rq(t:TE):TT:=λY H Q=>t Y H λx H'=>∃k,x=.bl k/\Q k H'
def Kb{op:CmpOp}(ho:xY X (Op op) r)(ha:PE X a ta)(hb:PE X b tb)(hm:wT op b=lf):PT X (.Compare a [op] [b] pos) (Rq (Vm r ta tb)):=by
 intro XF s Y H Q I h;refine wpAny_isTrue_Compare1 (sX (ha XF s Y H _ I h) λv s1 zz=>x5 zz λx H1 I1 r1 q1=>sX (hb XF s1 Y H1 _ I1 q1) λu s2 zz=>x5 zz λy H2 I2 r2 q2=>
  sX (ho XF s2 Y H2 x y v u _ I2 r1 r2 q2) λc s3 zz=>?_) hm
 obtain⟨z,H3,I3,r3,k,e,q3⟩:=zz;subst e;cases r3;exact fv ⟨H3,I3,q3⟩
def Mb(r r':R2)(ta tb tc:TE):TE:=λY H Q=>ta Y H λx H1=>tb Y H1 λy H2=>r x y H2 λz H3=>∃k,z=.bl k/\
 (if k=pc then tc Y H3 λw' H4=>r' y w' H4 Q else Q (.bl lf) H3)
def Mw{op YA:CmpOp}(ho:xY X (Op op) r)(Yo:xY X (Op YA) r')(ha:PE X a ta)(hb:PE X b tb)(hc:PE X c tc) (hm:lastMarks [op,YA] [b,c]=lf:=by with_unfolding_all rfl):PE X (.Compare a [op,YA] [b,c] pos) (Mb r r' ta tb tc):=by
 intro XF s Y H Q I h;refine Compare_chain (sX (ha XF s Y H _ I h) λv s1 zz=>x5 zz λx H1 I1 r1 q1=>chain_link (sX (hb XF s1 Y H1 _ I1 q1) λu s2 zz=>x5 zz λy H2 I2 r2 q2=>
  sX (ho XF s2 Y H2 x y v u _ I2 r1 r2 q2) λd s3 zz=>?_)) hm
 obtain⟨z,H3,I3,r3,k,e,q3⟩:=zz;subst e;cases r3;refine fv ?_;cases k with
 | false=>exact ite_ff ⟨.bl lf,H3,I3,Z',q3⟩
 | true=>exact ite_tt (chain_last (sX (hc XF s3 Y H3 _ I3 q3) λw' s4 zz=>x5 zz λz' H4 I4 r4 q4=>Yo XF s4 Y H4 y z' u w' Q I4 r2 r4 q4))
def Mu{op YA:CmpOp}(ho:xY X (Op op) r)(Yo:xY X (Op YA) r')(ha:PE X a ta)(hb:PE X b tb)(hc:PE X c tc) (hm:lastMarks [op,YA] [b,c]=lf:=by with_unfolding_all rfl):PT X (.Compare a [op,YA] [b,c] pos) (Rq (Mb r r' ta tb tc)):=by
 intro XF s Y H Q I h;refine isTrue_chain (sX (ha XF s Y H _ I h) λv s1 zz=>x5 zz λx H1 I1 r1 q1=>test_link (sX (hb XF s1 Y H1 _ I1 q1) λu s2 zz=>x5 zz λy H2 I2 r2 q2=>
  sX (ho XF s2 Y H2 x y v u _ I2 r1 r2 q2) λd s3 zz=>?_)) hm
 obtain⟨z,H3,I3,r3,k,e,q3⟩:=zz;subst e;cases r3;refine fv ?_;cases k with
 | false=>obtain⟨k',e',q'⟩:=q3;cases e';exact ite_ff ⟨H3,I3,q'⟩
 | true=>refine ite_tt (test_last (sX (hc XF s3 Y H3 _ I3 q3) λw' s4 zz=>x5 zz λz' H4 I4 r4 q4=>sX (Yo XF s4 Y H4 y z' u w' _ I4 r2 r4 q4) λd' s5 zz=>?_));obtain⟨z2,H5,I5,r5,k2,e2,q5⟩:=zz;subst e2;cases r5;exact fv ⟨H5,I5,q5⟩
def zi:(pi:Nat)<2 ^ 63:=by rw[dR];decide
def Im:xY X (wP .Add) (λx y H Q=>∃i j,x=.str i/\y=.str j/\i.length+j.length<=pi/\Q (.str (i++j)) H):=by intro XF s Y H x y v u Q I rx ry h;obtain⟨i,j,rfl,rfl,hz,q⟩:=h;obtain⟨t,rfl⟩:=rx;obtain⟨t',rfl⟩:=ry;exact add_str (λt' tk=>⟨.str (i++j),H,I.tok _,⟨_,Z'⟩,q⟩) hz
def xM{x:V}(r:qO [x] us):∃u,us=[u]/\ra x u:=by
 cases r with
 | cons r1 r2=>cases r2;exact⟨_,Z',r1⟩
def Me{x y:V}(r:qO [x,y] us):∃u w',us=[u,w']/\ra x u/\ra y w':=by
 cases r with
 | cons r1 r2=>
  cases r2 with
  | cons r3 r4=>cases r4;exact⟨_,_,Z',r1,r3⟩
def Le(hc:X.calm=pc):yP X (.builtin "min") (λxs H Q=>∃i j,xs=[.int i,.int j]/\Q (.int (if j<i then j else i)) H):=by
 intro XF s Y H xs us Q I r h;obtain⟨i,j,rfl,q⟩:=h;obtain⟨u,w',rfl,⟨t,rfl⟩,⟨t',rfl⟩⟩:=Me r;refine min_two_ints (I.ok.hd hc) λh' tk k=>⟨_,H,I.kept k,?_,q⟩;by_cases hj:j<i
 .rw[dw hj,dw hj];exact⟨_,Z'⟩
 .rw[dq hj,dq hj];exact⟨_,Z'⟩
end
structure Ib(h:No)(x dx C:Uf)(mA:QQZ):Prop where
 obj:h.get? x=Fa (W.instObj C dx)
 ns:h.Ns1 dx mA
 ne:dx≠x
def KF{h:No}{dx:Uf}{mA:QQZ}(n:h.Ns1 dx mA):∃od,h.get? dx=Fa od/\∀name,W.lookIn name od=Fa (mA name):=by
 obtain⟨o,es,ep,ho,hd,hk,_,hm⟩:=n;refine⟨o,ho,λname=>?_⟩;have e:=hm name;unfold nsFind findBy at e;rw[<-ly]at e;unfold W.lookIn;rw[hd];dsimp only;split
 .rename_i y q;rw[q]at e;exact eV Fa e
 .rename_i q;rw[q]at e;have a:es.toList.any (·.refKey)=lf:=by rw[lM];intro y hy;obtain⟨z,t,hkey⟩:=hk y (kH.mp hy);simp[DictEntry.refKey,hkey]
  have a':¬es.toList.any (·.refKey)=pc:=by rw[a];exact dF
  rw[dq a'];exact eV Fa e
def Ib.look(I:Ib h x dx C mA):∃od,W.InstAt h x (W.instObj C dx) C (Fa od)/\∀name,W.lookIn name od=Fa (mA name):=
 let⟨od,ho,hl⟩:=KF I.ns
 ⟨od,⟨I.obj,Z',Z',ho⟩,hl⟩
variable {prog:Pg}{A:Ar}{K:qL}{dx C:Uf}{mA:QQZ}{name:Str}
section
variable {w:Wo}{E:QQX}{x f:Uf}{v:Vl}
def Pw{expr:Bool}{Q:QQX}(X:K.In s.heap)(I:Ib s.heap x dx C mA)(hg:W.plainGet K C name=pc)(hh:W.hasDictIn K C=pc) (ha:W.findIn K (.ref C) name=Fa Db) (hv:mA name=Fa v) (hv':W.handedIn v=pc) (h:Q v {s with toks:=s.toks+1}):
  Ch (Tk prog w) A (getAttr (.ref x) name expr) Q E s:=by
 obtain⟨od,J,hl⟩:=I.look;exact W.get_value X J (kO hg).1 (W.findObj_own hh ha Z' (by rw[hl,hv])) hv' h
def My{pl:Sem Bool}{Q:Vl×T0 Vl->Sd->Prop}(X:K.In s.heap)(I:Ib s.heap x dx C mA)(hg:W.plainGet K C name=pc) (hf:W.findIn K (.ref C) name=Fa (Fa (.ref f))) (ht:W.isFn K (.ref f)=pc) (hv:mA name=Db) (h:Q (.ref f,[.ref x]) s):
  Ch (Tk prog w) A (TW (.ref x) name pl) Q E s:=by
 obtain⟨od,J,hl⟩:=I.look;exact W.method_fn X J (kO hg).1 (kO hg).2 hf (ft.mp ht) (by show(W.lookIn name od).map (·.isSome)=Fa lf;rw[hl,hv];rfl) h
def PU{Q:Unit->Sd->Prop}(X:K.In s.heap)(I:Ib s.heap x dx C mA) (hs:W.findIn K (.ref C) "__setattr__"=Fa (Fa (.builtin "object.__setattr__"))) (hp:W.plainOver K C=pc) (ht:W.takerIn K C name=Fa Db) (hh:W.hasDictIn K C=pc) (hw:PySem.Within mA ns) (hsz:ns.length<=pi) (h:∀h',Ib h' x dx C (λy=>if y=name then Fa v else mA y)->Heap.SameBut dx s.heap h'->Q () {s with heap:=h',toks:=s.toks+2}):
  Ch (Tk prog w) A (setAttr (.ref x) name v) Q E s:=by
 obtain⟨od,J,hl⟩:=I.look;refine W.set_plain X J hs (W.osa_open (s:={s with toks:=s.toks+1}) (r:=none) X J hp ht λb=>?_);obtain⟨cd,hc,hd'⟩:=W.any_some hh;have hx:s.heap.get? x=Fa ⟨.ref C,Fa dx,.plain,#[]⟩:=I.obj;refine de (dz (de (de (wpAny_loadPart hx (de (mP (s:={s with toks:=s.toks+1}) (kP X hc) ?_))))));rw[hd'];refine dz (a:=some dx) (de (dz (de ?_)));refine wpAny_nsSet1 (s:={s with toks:=s.toks+1}) I.ns λh' hn2 Zp=>?_;obtain⟨oD,esD,epD,hoD,Di,hcD⟩:=hn2.count (PySem.Within.cons name v hw);refine de (me hoD (by rw[Di];exact mf (eD hcD (by rw[eE];omega))) ?_);exact dz (h _ ⟨(Zp.2 _ (dW I.ne)).trans I.obj,hn2,I.ne⟩ Zp)
def NJ{vs:T0 Vl}{kw:T0 (Str×Vl)}(X:K.In s.heap)(hm:W.makesIn K C=pc) (hi:W.findIn K (.ref C) "__init__"=Fa (Fa (.ref f))) (hf:W.typeIn K (.ref f)=Fa (.type "function")) (h:XXk (Tk prog w) (A.under (.builtin "type.__call__" ⟨.ref C::vs,kw⟩)) (.call (.ref f) ⟨.ref (s.heap.objs.size+1)::vs,kw⟩) (W.InitBack (s.heap.objs.size+1) R) {s with heap:=(s.heap.push W.emptyDict).push (W.instObj C s.heap.objs.size)}):
  XXk (Tk prog w) A (.call (.ref C) ⟨vs,kw⟩) R s:=by
 obtain⟨hh,g,d,t,os⟩:=s;exact W.make_core (W.makes_of X hm) (jm X hi) (λself=>W.bind_fn X self hf) (.inl Z') h
end
def vY(f:Str)(v:V):T0 (Str×V)->T0 (Str×V)
 | []=>[(f,v)]
 | (g,x)::r=>if g=f then(g,v)::r else(g,x)::vY f v r
theorem AQ(f g:Str)(v:V):∀fs:T0 (Str×V),(vY f v fs).lookup g=if g=f then Fa v else fs.lookup g
 | []=>by
  show List.lookup g [(f,v)]=_;by_cases h:g=f
  .have hb:(g==f)=pc:=ft.mpr h;simp only[List.lookup,hb,dw h]
  .have hb:(g==f)=lf:=gj.mpr h;simp only[List.lookup,hb,dq h]
 | (k,x)::r=>by
  have ih:=AQ f g v r;rw[show vY f v ((k,x)::r)=(if k=f then(k,v)::r else(k,x)::vY f v r)from Z'];by_cases hk:k=f
  .rw[dw hk];by_cases h:g=k
   .have hb:(g==k)=pc:=ft.mpr h;simp only[List.lookup,hb,dw (h.trans hk)]
   .have hb:(g==k)=lf:=gj.mpr h;simp only[List.lookup,hb,dq (λe:g=f=>h (e.trans hk.symm))]
  .rw[dq hk];by_cases h:g=k
   .have hb:(g==k)=pc:=ft.mpr h;simp only[List.lookup,hb,dq (λe:g=f=>hk (h.symm.trans e))]
   .have hb:(g==k)=lf:=gj.mpr h;simp only[List.lookup,hb];exact ih
theorem Am(f:Str)(v:V):∀fs:T0 (Str×V),f∈(vY f v fs).map (·.1)/\∀g,g∈fs.map (·.1)->g∈(vY f v fs).map (·.1)
 | []=>⟨by simp[vY],λg h=>by simp at h⟩
 | (k,x)::r=>by
  obtain⟨i1,i2⟩:=Am f v r;rw[show vY f v ((k,x)::r)=(if k=f then(k,v)::r else(k,x)::vY f v r)from Z'];by_cases hk:k=f
  .rw[dw hk];subst hk;exact⟨by simp,λg h=>by simpa using h⟩
  .rw[dq hk];refine⟨?_,λg h=>?_⟩
   .rw[eh];exact dM _ i1
   .rw[eh]at h ⊢;rcases dA.mp h with e|e
    .exact dA.mpr (.inl e)
    .exact dM _ (i2 g e)
theorem AX(f:Str)(v:V):∀fs:T0 (Str×V),(vY f v fs).length<=fs.length+1
 | []=>by simp[vY]
 | (k,x)::r=>by
  have ih:=AX f v r;rw[show vY f v ((k,x)::r)=(if k=f then(k,v)::r else(k,x)::vY f v r)from Z'];by_cases hk:k=f
  .rw[dw hk,eE,eE];omega
  .rw[dq hk,eE,eE];omega
def yM.some_of{v:V}(r:yM (Fa v) o):∃u,o=Fa u/\ra v u:=by
 cases o with
 | none=>exact(show False from r).elim
 | some u=>exact⟨u,Z',r⟩
def yM.none_of{o:Option Vl}(r:yM Db o):o=Db:=by
 cases o with
 | none=>rfl
 | some u=>exact(show False from r).elim
def K4{u:Vl}(r:ra v u):W.handedIn u=pc:=by
 cases v with
 | nz=>cases(show u=Value.none from r);rfl
 | bl b=>cases(show u=Value.bool b from r);rfl
 | int i=>obtain⟨t,e⟩:=(show ∃t,u=Value.int i t from r);cases e;rfl
 | str x=>obtain⟨t,e⟩:=(show ∃t,u=Value.str x t from r);cases e;rfl
 | byt b=>obtain⟨t,e⟩:=(show ∃t,u=Value.bytes b t from r);cases e;rfl
 | flt b=>obtain⟨t,e⟩:=(show ∃t,u=Value.float b t from r);cases e;rfl
 | ref a=>cases(show u=Value.ref a from r);rfl
 | ty n=>cases(show u=Value.type n from r);rfl
section
variable {P:Pg}{w:Wo}{a:Uf}{fs fs':T0 (Str × V)}
def BD(nB:yJ P w H h)(e:H a=Fa (.ins C dx fs)):∃mA,Ib h a dx C mA/\(∀f,yM (fs.lookup f) (mA f))/\PySem.Within mA (fs.map (·.1))/\fs.length<=1000/\H dx=Fa (.own a):=by obtain⟨d,z,ne,ob,mA,n,r,q⟩:=(show sF P w H h a (.ins C dx fs)from nB a _ e);exact⟨mA,⟨ob,n,ne⟩,r,q,z,d⟩
end
structure Cls(K:qL)(C:Uf):Prop where
 pg:W.plainGet K C Str.empty=pc
 hd:W.hasDictIn K C=pc
 po:W.plainOver K C=pc
 sa:W.findIn K (.ref C) "__setattr__"=Fa (Fa (.builtin "object.__setattr__"))
def Cls.get{K:qL}(c:Cls K C)(f:Str):W.plainGet K C f=pc:=c.pg
def uH(K:qL)(C:Uf)(f:Str):Prop:=W.findIn K (.ref C) f=Fa Db
def uH.pA{K:qL}(n:uH K C f):W.takerIn K C f=Fa Db:=by unfold W.takerIn;rw[show W.findIn K (.ref C) f=Fa Db from n];rfl
structure XE(K:qL)(C:Uf)(f:Str)(v:V)(u:Vl):Prop where
 at_:W.findIn K (.ref C) f=Fa (Fa u)
 rel:ra v u
 get:W.specialIn K u "__get__"=Fa Db
 cp:W.copiedNames.contains f=lf
structure vX(K:qL)(C:Uf)(m:Str)(f:Uf):Prop where
 at_:W.findIn K (.ref C) m=Fa (Fa (.ref f))
 fn:W.isFn K (.ref f)=pc
 kp:W.keepIn K (.ref f)=pc
section
variable {Y:St}{a:Uf}{fs:T0 (Str × V)}{f:Str}{v:V}{E:QQX}
def C1{b:Bool}{Q:QQX}(I:Inv X XF Y H s)(e:H a=Fa (.ins C dx fs))(c:Cls X.K C)(n:uH X.K C f)(l:fs.lookup f=Fa v) (h:∀u s',Inv X XF Y H s'->ra v u->Q u s'):Ch (Tk X.prog X.w) A (getAttr (.ref a) f b) Q E s:=by
 obtain⟨mA,O,r,_,_,_⟩:=BD I.nB e;obtain⟨u,hu,ru⟩:=yM.some_of (v:=v) (o:=mA f) (by rw[<-l];exact r f);exact Pw I.nO O (c.get f) c.hd n hu (K4 ru) (h u _ (I.tok _) ru)
def Cw{pl:Sem Bool}{Q:Vl×T0 Vl->Sd->Prop}(I:Inv X XF Y H s)(e:H a=Fa (.ins C dx fs))(c:Cls X.K C)(k:vX X.K C m g)(l:fs.lookup m=Db) (h:Q (.ref g,[.ref a]) s):Ch (Tk X.prog X.w) A (TW (.ref a) m pl) Q E s:=by
 obtain⟨mA,O,r,_,_,_⟩:=BD I.nB e;have hn:mA m=Db:=yM.none_of (by rw[<-l];exact r m);exact My I.nO O (c.get m) k.at_ k.fn hn h
def Cb{u:Vl}{Q:Unit->Sd->Prop}(I:Inv X XF Y H s)(e:H a=Fa (.ins C dx fs))(c:Cls X.K C)(n:uH X.K C f)(hl:fs.length<1000)(ry:ra y u) (h:∀s',Inv X XF Y (upd H a (.ins C dx (vY f y fs))) s'->Q () s'):Ch (Tk X.prog X.w) A (setAttr (.ref a) f u) Q E s:=by
 obtain⟨mA,O,r,wi,_,ho⟩:=BD I.nB e;have hz:(fs.map (·.1)).length<=pi:=by rw[c9,dR];omega
 refine PU I.nO O c.sa c.po n.pA c.hd wi hz λh' O' sb=>h _ ?_;have hd:∃o,h'.get? dx=Fa o:=let⟨o,_,_,e',_⟩:=O'.ns;⟨o,e'⟩;refine I.write (x:=a) (e:=dx) (by rw[e];exact True.intro) (.inr ho) (λb q hb z=>(sb.2 b hb).trans z) hd ?_;refine⟨by rw[qw O.ne];exact ho,?_,O.ne,O'.obj,_,O'.ns,λg=>?_,λg hg=>?_⟩
 .have:=AX f y fs;omega
 .show yM ((vY f y fs).lookup g) (if g=f then Fa u else mA g);rw[AQ];by_cases q:g=f
  .rw[dw q,dw q];exact ry
  .rw[dq q,dq q];exact r g
 .by_cases q:g=f
  .rw[q];exact(Am f y fs).1
  .refine(Am f y fs).2 g (wi g λz=>hg ?_);show(if g=f then Fa u else mA g)=Db;rw[dq q];exact z
def Inv.made(I:Inv X XF Y H s):Inv X XF Y (upd (upd H s.heap.objs.size (.own (s.heap.objs.size+1))) (s.heap.objs.size+1) (.ins C s.heap.objs.size [])) {s with heap:=(s.heap.push W.emptyDict).push (W.instObj C s.heap.objs.size)}:=by
 have e1:(s.heap.push W.emptyDict).get? s.heap.objs.size=Fa W.emptyDict:=dP s.heap Z';have e2:((s.heap.push W.emptyDict).push (W.instObj C s.heap.objs.size)).get? (s.heap.objs.size+1)=Fa (W.instObj C s.heap.objs.size):=by
  have:=dP (s.heap.push W.emptyDict) (o:=W.instObj C s.heap.objs.size) Z'
  rwa [fB]at this
 have e3:(s.heap.push W.emptyDict).Ns s.heap.objs.size (λ_=>Db):=⟨W.emptyDict,#[],_,e1,Z',(λe he=>absurd he (by simp)),λ_=>rfl⟩;have I1:=I.laid (a:=s.heap.objs.size) (o:=.own (s.heap.objs.size+1)) (h':=s.heap.push W.emptyDict) (t':=s.toks) (λb u q=>dv _ q) (dC _) ⟨_,e1⟩;refine I1.laid (a:=s.heap.objs.size+1) (o:=.ins C s.heap.objs.size []) (t':=s.toks) (λb u q=>dv _ q) (mQ (fB _ _)) ?_;have ne:s.heap.objs.size≠s.heap.objs.size+1:=dN (fM _);refine⟨by rw[qw ne,qB],eQ _,ne,e2,λ_=>Db,(lN e3).at λo q=>dv _ q,λ_=>True.intro,λy hy=>absurd Z' hy⟩
def J1{prog:Pg}{w:Wo}{env:Env}{e:Go}{f:Str}{s:Sd}{Q:QQX}(hb:Ps e f env (wp e env)=wp e env) (h:Ch (Tk prog w) A (wp e env) (λo s₁=>Ch (Tk prog w) A (getAttr o f pc) Q E s₁) E s):Ch (Tk prog w) A (wp (.Attribute e f pos) env) Q E s:=
 Attribute_any_ h (by rw[arm_eval_Attribute,hb])
end
def WY(K:qL)(ta:TE)(f:Str):TE:=λY H Q=>ta Y H λx H1=>∃a C dx fs v,x=.ref a/\H1 a=Fa (.ins C dx fs)/\Cls K C/\uH K C f/\fs.lookup f=Fa v/\Q v H1
def W6(K:qL)(ta tv:TE)(f:Str):TS:=λD Y H=>tv Y H λy H1=>ta Y H1 λx H2=>∃a C dx fs,x=.ref a/\H2 a=Fa (.ins C dx fs)/\Cls K C/\uH K C f/\fs.length<1000/\
 D.nx Y (upd H2 a (.ins C dx (vY f y fs)))
def OR(X:Cx)(op:XYc)(rd:V->V->Hp->VK->Prop):Prop:=
 ∀(XF:QQY) (s:Sd) (Y:St) (H:Hp) (x y:V) (u v:Vl) (Q:VK),Inv X XF Y H s->ra x u->ra y v->rd x y H Q->Ch (Tk X.prog X.w) X.A (inplaceOp op u v) (EP X XF Y Q) X.xe s
def PJ(K:qL)(ta tv:TE)(rd:V->V->Hp->VK->Prop)(f:Str):TS:=λD Y H=>ta Y H λx H1=>∃a C dx fs v,x=.ref a/\H1 a=Fa (.ins C dx fs)/\Cls K C/\uH K C f/\fs.lookup f=Fa v/\
 tv Y H1 λy H2=>rd v y H2 λz H3=>∃dx' fs',H3 a=Fa (.ins C dx' fs')/\fs'.length<1000/\D.nx Y (upd H3 a (.ins C dx' (vY f z fs')))
variable {value:Go}{XQ ZP:Pos}{tv:TE}
section
variable {o e:Go}{f:Str}
def TF(he:PE X e ta)(hb:Ps e f X.env (wp e X.env)=wp e X.env):PE X (.Attribute e f pos) (WY X.K ta f):=by intro XF s Y H Q I h;refine J1 hb (sX (he XF s Y H _ I h) λu s1 zz=>?_);obtain⟨x,H1,I1,rx,a,C,dx,fs,v,ex,ea,c,n,l,q⟩:=zz;subst ex;obtain rfl:u=Value.ref a:=rx;exact C1 I1 ea c n l λu' s2 I2 ru=>⟨v,H1,I2,ru,q⟩
def Sk(ha:PE X o ta)(hv:PE X value tv)(hs:ZB value (Fa (.Attribute o f XQ)) pos.line X.env=pure lf):PS X (.Assign [.Attribute o f XQ] value pos) (W6 X.K ta tv f):=by intro XF s Y H D I h;refine iW (sX (hv XF s Y H _ I h) λu s1 zz=>x5 zz λy H1 I1 ry q=>sX (ha XF s1 Y H1 _ I1 q) λov s2 zz=>?_) hs;obtain⟨x,H2,I2,rx,a,C,dx,fs,ex,ea,c,n,l,q2⟩:=zz;subst ex;obtain rfl:ov=Value.ref a:=rx;exact Cb I2 ea c n l ry λs3 I3=>⟨Y,_,I3,q2⟩
def KO(ha:PE X o ta)(hv:PE X value tv)(hop:OR X op rd):PS X (.AugAssign (.Attribute o f ZP) op value pos) (PJ X.K ta tv rd f):=by intro XF s Y H D I h;refine wpAny_AugAssign_AttributeAny (sX (ha XF s Y H _ I h) λov s1 zz=>?_);obtain⟨x,H1,I1,rx,a,C,dx,fs,v,ex,ea,c,n,l,q⟩:=zz;subst ex;obtain rfl:ov=Value.ref a:=rx;refine C1 I1 ea c n l λu s2 I2 ru=>sX (hv XF s2 Y H1 _ I2 q) λw3 s3 zz=>x5 zz λy H2 I3 ry q3=>sX (hop XF s3 Y H2 v y u w3 _ I3 ru ry q3) λw4 s4 zz=>?_;obtain⟨z,H3,I4,rz,dx',fs',ea',l',q4⟩:=zz;exact Cb I4 ea' c n l' rz λs5 I5=>⟨Y,_,I5,q4⟩
def WL:V->V->Hp->VK->Prop:=λx y H Q=>∃i j,x=.int i/\y=.int j/\Q (.int (i+j)) H
def Wv:V->V->Hp->VK->Prop:=λx y H Q=>∃i j,x=.int i/\y=.int j/\Q (.int (i - j)) H
def T1:OR X .Add WL:=by
 rintro XF s Y H x y u v Q I rx ry ⟨i,j,rfl,rfl,q⟩
 obtain⟨t,rfl⟩:=(show ∃t,u=Value.int i t from rx);obtain⟨t',rfl⟩:=(show ∃t',v=Value.int j t' from ry);exact PyProof.Rows.iadd_int ⟨.int (i+j),H,I.tok _,⟨_,Z'⟩,q⟩
def Sb:OR X .Sub Wv:=by
 rintro XF s Y H x y u v Q I rx ry ⟨i,j,rfl,rfl,q⟩
 obtain⟨t,rfl⟩:=(show ∃t,u=Value.int i t from rx);obtain⟨t',rfl⟩:=(show ∃t',v=Value.int j t' from ry);exact PyProof.Rows.isub_int ⟨.int (i - j),H,I.tok _,⟨_,Z'⟩,q⟩
end
variable {Q:QQX}
section
variable {Y:St}{E:QQX}{c:Vl}{b:Bool}
inductive Bl(K:qL)(H:Hp):V->Vl->Prop where
 | nz:Bl K H .nz (.type "NoneType")
 | bl (x:Bool):Bl K H (.bl x) (.type "bool")
 | int (i:Int):Bl K H (.int i) (.type "int")
 | str (x:Str):Bl K H (.str x) (.type "str")
 | flt (x:UInt64):Bl K H (.flt x) (.type "float")
 | lst {a:Uf} {xs:List V} (e:H a=Fa (.lst xs)):Bl K H (.ref a) (.type "list")
 | frz {a:Uf} {o:Obj} {xs:List V} (e:H a=Fa (.frz o (.lst xs))):Bl K H (.ref a) (.type "list")
 | tup {a:Uf} {xs:List V} (e:H a=Fa (.tup xs)):Bl K H (.ref a) (.type "tuple")
 | dK {a:Uf} {kvs:List (rH×V)} (e:H a=Fa (.dK kvs)):Bl K H (.ref a) (.type "dict")
 | dT {a:Uf} {kvs:List (List rH×V)} (e:H a=Fa (.dT kvs)):Bl K H (.ref a) (.type "dict")
 | ins {a C dx:Uf} {fs:List (Str×V)} (e:H a=Fa (.ins C dx fs)) (cl:Cls K C) (ha:W.findIn K (.ref C) "__class__"=Fa (Fa (.builtin "object.__class__")))
   (hn:W.specialIn K (.builtin "object.__class__") "__get__"=Fa (Fa (.builtin "getset_descriptor.__get__"))) (htk:W.takesIn K (.builtin "object.__class__")=Fa pc)
   (hm:W.mroIn K C (.type "object")=Fa pc):Bl K H (.ref a) (.ref C)
def va{u t:Vl}(I:Inv X XF Y H s)(rx:ra x u)(ty:Bl X.K H x t)(e:W.kitOne X.K t c=Fa b)(h:∀tk,Q (.bool b) {s with toks:=tk}):
  Ch (Tk X.prog X.w) A (call (.builtin "isinstance") [u,c]) Q E s:=by
 cases ty with
 | nz=>cases(show u=Value.none from rx);exact gA W.kitx_none I.nO True.intro e (λz=>nomatch z) h
 | bl y=>cases(show u=Value.bool y from rx);exact gA W.kitx_bool I.nO True.intro e (λz=>nomatch z) h
 | int i=>obtain⟨t,q⟩:=(show ∃t,u=Value.int i t from rx);cases q;exact gA W.kitx_int I.nO True.intro e (λz=>nomatch z) h
 | str y=>obtain⟨t,q⟩:=(show ∃t,u=Value.str y t from rx);cases q;exact gA W.kitx_str I.nO True.intro e (λz=>nomatch z) h
 | flt y=>obtain⟨t,q⟩:=(show ∃t,u=Value.float y t from rx);cases q;exact gA W.kitx_float I.nO True.intro e (λz=>nomatch z) h
 | @lst a xs ea=>cases(show u=Value.ref a from rx);obtain⟨_,_,n,_,h1⟩:=(show sF X.prog X.w H s.heap a (.lst xs)from I.nB a _ ea);exact gA lW I.nO ⟨_,h1,Z'⟩ e (λz=>nomatch z) h
 | @frz a ob xs ea=>cases(show u=Value.ref a from rx);obtain⟨_,_,_,n,_,h1⟩:=(show sF X.prog X.w H s.heap a (.frz ob (.lst xs))from I.nB a _ ea);exact gA lW I.nO ⟨_,h1,Z'⟩ e (λz=>nomatch z) h
 | @tup a xs ea=>cases(show u=Value.ref a from rx);obtain⟨_,_,_,p⟩:=(show sF X.prog X.w H s.heap a (.tup xs)from I.nB a _ ea);obtain⟨o,h1,h2,_⟩:=p;exact gA W.kitx_tuple I.nO ⟨o,h1,h2⟩ e (λz=>nomatch z) h
 | @dK a kvs ea=>cases(show u=Value.ref a from rx);obtain⟨_,_,vs,_,p⟩:=(show sF X.prog X.w H s.heap a (.dK kvs)from I.nB a _ ea);obtain⟨o,es,ep,h1,h2,_⟩:=p;exact gA W.kitx_dict I.nO ⟨o,h1,h2.1⟩ e (λz=>nomatch z) h
 | @dT a kvs ea=>cases(show u=Value.ref a from rx);obtain⟨_,_,xs,_,o,es,ep,h1,h2,_⟩:=(show sF X.prog X.w H s.heap a (.dT kvs)from I.nB a _ ea);exact gA W.kitx_dict I.nO ⟨o,h1,h2.1⟩ e (λz=>nomatch z) h
 | @ins a C dx fs ea cl ha hn htk hm=>cases(show u=Value.ref a from rx);obtain⟨mA,O,_⟩:=BD I.nB ea;obtain⟨od,J,_⟩:=O.look;exact gA (W.kitx_own (cl.get _) cl.hd ha hn htk hm) I.nO J e (λz=>nomatch z) h
end
structure sI(k:Nat)(A:Ar):Prop where
 hd:A.handled=Db
 dp:A.depth+3*k+5<recursionLimit
 un:A.units+16*k+200<XXa
def sI.mono{j k:Nat}(r:sI k A)(h:j<=k):sI j A:=⟨r.hd,by have:=r.dp;omega,by have:=r.un;omega⟩
def sI.deeper{k:Nat}(r:sI (k+1) A)(env:Env):sI k (A.deeper env):=
 ⟨r.hd,by have:=r.dp;show A.depth+1+3*k+5<_;omega,by have:=r.un;show A.units+3+16*k+200<_;omega⟩
def Il{A:Ar}{C:Uf}{us:T0 Vl}{kw:T0 (Str×Vl)}:(A.under (.builtin "type.__call__" ⟨.ref C::us,kw⟩)).depth=A.depth+1:=by first|rfl|simp[Around.under,Code.weight,Code.isCreation,Code.isGuard,Code.isCaller,Code.frames,Code.isFrame,guardIds]
def IB{A:Ar}{C:Uf}{us:T0 Vl}{kw:T0 (Str×Vl)}:(A.under (.builtin "type.__call__" ⟨.ref C::us,kw⟩)).units=A.units+1:=by first|rfl|simp[Around.under,Code.cUnits,Code.frames,Code.isFrame]
def sI.make{k:Nat}(r:sI (k+1) A)(C:Uf)(us:T0 Vl)(kw:T0 (Str×Vl)):sI k (A.under (.builtin "type.__call__" ⟨.ref C::us,kw⟩)):=
 ⟨r.hd,by have:=r.dp;rw[Il];omega,by have:=r.un;rw[IB];omega⟩
def sI.depth(r:sI k A):A.depth<recursionLimit:=by have:=r.dp;omega
def sI.units(r:sI k A):A.units+64<XXa:=by have:=r.un;omega
def VM:TA:=λ_ H Q=>Q [] H
def UD(ta:TE)(tr:TA):TA:=λY H Q=>ta Y H λx H1=>tr Y H1 λxs H2=>Q (x::xs) H2
variable {es:T0 Go}
section
variable {e:Go}{t:TA}
def Sf:PA X [] VM:=λ_ _ _ _ H Q I h=>ii ⟨[],H,I,.nil,h⟩
def Qb(ha:PE X e te)(hr:PA X es t)(hs:Bx X e es:=by rfl):PA X (e::es) (UD te t):=by intro pos XF s Y H Q I h;rw[hs];show Ch _ _ (spliced ((lf,wp e X.env)::sB pos (Tl es X.env))) _ _ s;refine hW (sX (ha XF s Y H _ I h) λu s1 zz=>x5 zz λx H1 I1 r1 q1=>?_);exact sX (hr pos XF s1 Y H1 _ I1 q1) λus s2 zz=>x5 zz λxs H2 I2 r2 q2=>⟨x::xs,H2,I2,.cons r1 r2,q2⟩
def Wn(t:TA):TE:=λY H Q=>t Y H λxs H1=>xs.length<=pi/\∀p,H1 p=Db->Q (.ref p) (upd H1 p (.tup xs))
def WJ(t:TA):TE:=λY H Q=>t Y H λxs H1=>xs.length<=pi/\∀p,H1 p=Db->Q (.ref p) (upd H1 p (.lst xs))
def S7{x1}(h:PA X es t):PE X (.Tuple es x1 pos) (Wn t):=by intro XF s Y H Q I hq;refine wpAny_Tuple_spliced (sX (h pos XF s Y H _ I hq) λus s1 ⟨xs,H1,I1,r,z,q⟩=>⟨by rw[<-r.length];exact z,?_⟩);have hf:H1 s1.heap.objs.size=Db:=I1.nB.fresh (dC _);refine⟨.ref s1.heap.objs.size,upd H1 s1.heap.objs.size (.tup xs),I1.laid (t':=s1.toks) (λb u e=>dv _ e) (dC _) ?_,Z',q _ hf⟩;exact⟨z,us,r,⟨_,dP _ Z',Z',⟨_,Z'⟩,Z'⟩⟩
def SZ(h:PA X es t):PE X (.List es pos) (WJ t):=by intro XF s Y H Q I hq;refine wpAny_List_spliced (sX (h pos XF s Y H _ I hq) λus s1 ⟨xs,H1,I1,r,z,q⟩=>⟨by rw[<-r.length];exact z,?_⟩);have hf:H1 s1.heap.objs.size=Db:=I1.nB.fresh (dC _);refine⟨.ref s1.heap.objs.size,upd H1 s1.heap.objs.size (.lst xs),I1.laid (t':=s1.toks) (λb u e=>dv _ e) (dC _) ?_,Z',q _ hf⟩;exact⟨z,us,0,r,dP _ Z'⟩
end
abbrev Sp:=T0 V->Hp->VK->XK->Prop
abbrev LC:=T0 Env->Hp->Sd->XK->Vl->Sd->Prop
structure ID(P:Pg)(w:Wo)(K:qL)(mg:QQZ)(base:No)(A:Ar)(outer:List Env)(s:Sd)(H:Hp):Prop where
 frames:A.frames=Fa outer
 mod:Mod K mg base
 bs:∀b o,base.get? b=Fa o->s.heap.get? b=Fa o/\H b=Db
 oK:base.objs.size<=s.heap.objs.size
 oa:s.heap.FunFrames base outer
 oR:∀b∈wI outer,H b=Db
 nB:yJ P w H s.heap
 bare:XYb s.gens
def CE(outer:T0 Env)(P:Pg)(w:Wo)(H:Hp)(s:Sd)(Q:VK)(u:Vl)(s':Sd):Prop:=
 ∃v H',s'.os=s.os/\XYb s'.gens/\Un (wI outer) [] H H' s.heap s'.heap/\yJ P w H' s'.heap/\ra v u/\Q v H'
def CR(CX:LC)(outer:T0 Env)(P:Pg)(w:Wo)(H:Hp)(s:Sd)(Q:VK)(E:XK)(r:Result)(s':Sd):Prop:=
 match r with
 | .ok (.ret u)=>CE outer P w H s Q u s'
 | .ok _=>False
 | .error e=>CX outer H s E e s'
structure xO(P:Pg)(w:Wo)(K:qL)(mg:QQZ)(base:No)(CX:LC)(k:Nat)(f:Uf)(fd:wv)(ps:QQQ)(sp:Sp):Prop where
 len:∀vs H Q E,sp vs H Q E->vs.length=ps.length
 run:∀(A:Ar) (outer:List Env) (s:Sd) (H:Hp) (args:Args) (us:List Vl) (vs:List V) (Q:VK) (E:XK),sI k A->ID P w K mg base A outer s H->BindsTo s fd args (ps.zip us)->qO vs us->sp vs H Q E->
  XXk (Tk P w) A (.call (.ref f) args) (CR CX outer P w H s Q E) s
def ID.make{K:qL}(e:ID P w K mg base A outer s H)(C:Uf)(us:T0 Vl)(kw:T0 (Str×Vl)):
  ID P w K mg base (A.under (.builtin "type.__call__" ⟨.ref C::us,kw⟩)) outer s H:=⟨by first|exact e.frames|(simpa [Around.under,Code.envs,Code.isFrame,pushEnvs]using e.frames),e.mod,e.bs,e.oK,e.oa,e.oR,e.nB,e.bare⟩
variable {s':Sd}
section
variable {Y:St}
def Inv.oP(I:Inv X XF Y H s):ID X.prog X.w X.K X.mg X.base X.A X.stack s H:=
 ⟨I.ok.frames,I.ok.mod,I.bs,eD I.ok.oK I.sz,I.stack,I.oi,I.nB,I.bare⟩
def Inv.after{Q:VK}{u:Vl}(I:Inv X XF Y H s)(h:CE X.stack X.prog X.w H s Q u s'):EP X XF Y Q u s':=by obtain⟨v,H',os,bare,un,nB,r,q⟩:=h;obtain⟨hh,g,d,t,os'⟩:=s';obtain rfl:os'=s.os:=os;exact⟨v,H',I.call (h':=hh) (g':=g) (d':=d) (t':=t) (ch:=[]) un nB bare (λb z=>absurd z (by simp)),r,q⟩
end
def UG(sp:Sp)(Yw:T0 V)(E:XK)(t:TA):TE:=λY H Q=>t Y H λvs H1=>sp (vs++Yw) H1 Q E
def Vv(C:Uf)(sp:Sp)(Yw:T0 V)(E:XK)(t:TA):TE:=λY H Q=>t Y H λvs H1=>∀x dx,H1 x=Db->H1 dx=Db->dx≠x->
 sp (.ref x::(vs++Yw)) (upd (upd H1 dx (.own x)) x (.ins C dx [])) (λv H2=>v=.nz/\Q (.ref x) H2) E
def vj(K:qL)(fd:wv)(ps:QQQ)(ds:T0 Vl):Prop:=
 ∀(s:Sd) (us:T0 Vl),K.In s.heap->(us++ds).length=ps.length->BindsTo s fd ⟨us,[]⟩ (ps.zip (us++ds))
def vj.all{K:qL}{fd:wv}{ps:QQQ}(h:∀us:T0 Vl,us.length=ps.length->bindArgs fd ⟨us,[]⟩=pure (ps.zip us)):vj K fd ps []:=λs us _ hl=>by rw[e9]at hl ⊢;exact .of_eq (h us hl)
def CW(CX:LC)(X:Cx)(E:XK):Prop:=∀(XF:QQY) (Y:St) (H:Hp) (s:Sd) (e:Vl) (s':Sd),Inv X XF Y H s->CX X.stack H s E e s'->X.xe e s'
variable {CX:LC}{k:Nat}{fd:wv}{ps:QQQ}{sp:Sp}{Yw:T0 V}{ds:T0 Vl}{m:Str}{p XI:Pos}
section
variable {f:Uf}{E:XK}{x:Str}{e o:Go}{t:TA}
def FZ{XF:QQY}{Q:VK}(F:xO X.prog X.w X.K X.mg X.base CX k f fd ps sp)(hr:sI k X.A)(hb:vj X.K fd ps ds)(hd:qO Yw ds)(hx:CW CX X E) (I:Inv X XF Y H s) (r:qO vs us) (h:sp (vs++Yw) H Q E):Ch (Tk X.prog X.w) X.A (call (.ref f) us) (EP X XF Y Q) X.xe s:=by
 have r2:qO (vs++Yw) (us++ds):=r.append hd;have hl:(us++ds).length=ps.length:=by rw[<-r2.length];exact F.len _ _ _ _ h
 refine ip (gy (F.run X.A X.stack s H ⟨us,[]⟩ (us++ds) (vs++Yw) Q E hr I.oP (hb s us I.nO hl) r2 h) λr s' hq=>?_);cases r with
 | error e=>exact hx XF Y H s e s' I hq
 | ok fl=>
  cases fl with
  | ret u=>exact I.after hq
  | next=>exact False.elim hq
  | brk=>exact False.elim hq
  | cont=>exact False.elim hq
def Qo(F:xO X.prog X.w X.K X.mg X.base CX k f fd ps sp)(hr:sI k X.A)(hg:Gl X x)(hm:X.mg x=Fa (.ref f))(hk:W.keepIn X.K (.ref f)=pc)(hb:vj X.K fd ps ds)(hd:qO Yw ds)(hx:CW CX X E) (ha:PA X (e::es) t) (X4:yW x:=by decide) (he:Bx X e es:=by rfl) (X0:Dh X pos es:=by rfl):
  PE X (.Call (.Name x p) (e::es) [] pos) (UG sp Yw E t):=by
 intro XF s Y H Q I h;refine gc (xF I hg hm ?_ X4);refine iX (h₀:=X.base) I.ok.mod.oZ hk (sX (ha pos XF s Y H _ I h) λus s1 zz=>x5 zz λvs H1 I1 r q=>⟨I1.nO,?_⟩) he X0;exact FZ F hr hb hd hx I1 r q
structure Mk(K:qL)(C f:Uf):Prop where
 makes:W.makesIn K C=pc
 init:W.findIn K (.ref C) "__init__"=Fa (Fa (.ref f))
 fn:W.isFn K (.ref f)=pc
 kp:W.keepIn K (.ref C)=pc
def Nk{XF:QQY}{Q:VK}(M:Mk X.K C f)(F:xO X.prog X.w X.K X.mg X.base CX k f fd ps sp)(hr:sI (k+1) X.A)(hb:vj X.K fd ps ds)(hd:qO Yw ds) (hx:CW CX X E) (I:Inv X XF Y H s) (r:qO vs us) (h:∀x dx,H x=Db->H dx=Db->dx≠x->sp (.ref x::(vs++Yw)) (upd (upd H dx (.own x)) x (.ins C dx [])) (λv H2=>v=.nz/\Q (.ref x) H2) E):
  Ch (Tk X.prog X.w) X.A (call (.ref C) us) (EP X XF Y Q) X.xe s:=by
 have hq:=h (s.heap.objs.size+1) s.heap.objs.size (I.nB.fresh (gq _)) (I.nB.fresh (dC _)) (dN (fM _));have I2:=Inv.made (C:=C) I;have r2:qO (V.ref (s.heap.objs.size+1)::(vs++Yw)) (Value.ref (s.heap.objs.size+1)::(us++ds)):=.cons Z' (r.append hd);have hl:(Value.ref (s.heap.objs.size+1)::us++ds).length=ps.length:=by have e:=r2.length;rw[F.len _ _ _ _ hq]at e;exact e.symm
 refine ip (NJ (f:=f) I.nO M.makes M.init (ft.mp M.fn) (gy (F.run _ X.stack _ _ ⟨Value.ref (s.heap.objs.size+1)::us,[]⟩ (Value.ref (s.heap.objs.size+1)::(us++ds)) _ _ E (hr.make C us [])
  (I2.oP.make C us []) (hb _ (Value.ref (s.heap.objs.size+1)::us) I2.nO hl) r2 hq) λr s' Zq=>?_))
 cases r with
 | error e=>exact hx XF Y _ _ e s' I2 Zq
 | ok fl=>
  cases fl with
  | ret u=>obtain⟨v,H',I3,rv,ev,q3⟩:=I2.after Zq;subst ev;exact⟨rv,⟨V.ref (s.heap.objs.size+1),H',I3,Z',q3⟩⟩
  | next=>exact False.elim Zq
  | brk=>exact False.elim Zq
  | cont=>exact False.elim Zq
def OY(M:Mk X.K C f)(F:xO X.prog X.w X.K X.mg X.base CX k f fd ps sp)(hr:sI (k+1) X.A)(hg:Gl X x)(hm:X.mg x=Fa (.ref C))(hb:vj X.K fd ps ds)(hd:qO Yw ds)(hx:CW CX X E) (ha:PA X (e::es) t) (X4:yW x:=by decide) (he:Bx X e es:=by rfl) (X0:Dh X pos es:=by rfl):
  PE X (.Call (.Name x p) (e::es) [] pos) (Vv C sp Yw E t):=by
 intro XF s Y H Q I h;refine gc (xF I hg hm ?_ X4);refine iX (h₀:=X.base) I.ok.mod.oZ M.kp (sX (ha pos XF s Y H _ I h) λus s1 zz=>x5 zz λvs H1 I1 r q=>⟨I1.nO,?_⟩) he X0;exact Nk M F hr hb hd hx I1 r q
end
variable {g:T0 Vl→T0 Vl→T0 Vl}{gV:T0 V→T0 V→T0 V}{ks:QQQ}{kpos:Pos}{kws:T0 XXf}{tk:TA}{nm:Option Str}
section
variable {f:Uf}{E:XK}{x:Str}{e o:Go}{t:TA}
structure Wg(K:qL)(fd:wv)(ps ks:QQQ)(g:List Vl->List Vl->List Vl)(gV:List V->List V->List V):Prop where
 to:∀(s:Sd) (us ws:List Vl),K.In s.heap->(g us ws).length=ps.length->BindsTo s fd ⟨us,ks.zip ws⟩ (ps.zip (g us ws))
 rel:∀{vs:List V} {us:List Vl} {zs:List V} {ws:List Vl},qO vs us->qO zs ws->qO (gV vs zs) (g us ws)
end
structure tL(N P:QQQ)(sc:XXe):Prop where
 kind:sc.kind=.function
 co:sc.isCoroutine=lf
 gen:sc.isGenerator=lf
 nd:N.Nodup
 pre:N.take P.length=P
 par:∀x∈P,sc.names.lookup x=Fa .local\/sc.names.lookup x=Fa .cell
 pM:∀y∈sc.names,y.2≠.free
theorem D3{kindOf:Str->Option wS}{x:Str}:∀{binds:T0 (Str×Vl)} {m:QQZ},(∀v,(x,v)∉binds)->bindL kindOf binds m x=m x
 | [],_,_=>rfl
 | (n,v)::r,m,h=>by
  unfold bindL;rw[D3 λw hw=>h w (dM _ hw)];split
  .have:x≠n:=by rintro rfl;exact h v dO
   simp[this]
  .rfl
theorem El{kindOf:Str->Option wS}{x:Str}:∀{binds:T0 (Str×Vl)} {m:QQZ},(∀v,(x,v)∉binds)->bindC kindOf binds m x=m x
 | [],_,_=>rfl
 | (n,v)::r,m,h=>by
  unfold bindC;rw[El λw hw=>h w (dM _ hw)];split
  .rfl
  .have:x≠n:=by rintro rfl;exact h v dO
   simp[this]
theorem Eu{kindOf:Str->Option wS}{x:Str}{v:Vl}:∀{P:QQQ} {vs:T0 Vl} {i:Nat} {m:QQZ},P.Nodup->P[i]?=Fa x->vs[i]?=Fa v->kindOf x=Fa .local->
  bindL kindOf (P.zip vs) m x=Fa v
 | [],_,_,_,_,h,_,_=>by simp at h
 | _::_,[],_,_,_,_,h,_=>by simp at h
 | p::P,w::vs,0,m,nd,h1,h2,hk=>by simp at h1 h2;subst h1;subst h2;show bindL kindOf ((p,w)::P.zip vs) m p=_;unfold bindL;rw[D3 λv hv=>(dZ.mp nd).1 (j8 hv).1,dw hk];simp
 | p::P,w::vs,i+1,m,nd,h1,h2,hk=>by show bindL kindOf ((p,w)::P.zip vs) m x=_;unfold bindL;exact Eu (i:=i) (dZ.mp nd).2 (by simpa using h1) (by simpa using h2) hk
theorem D4{kindOf:Str->Option wS}{x:Str}{v:Vl}:∀{P:QQQ} {vs:T0 Vl} {i:Nat} {m:QQZ},P.Nodup->P[i]?=Fa x->vs[i]?=Fa v->kindOf x≠Fa .local->
  bindC kindOf (P.zip vs) m x=Fa v
 | [],_,_,_,_,h,_,_=>by simp at h
 | _::_,[],_,_,_,_,h,_=>by simp at h
 | p::P,w::vs,0,m,nd,h1,h2,hk=>by simp at h1 h2;subst h1;subst h2;show bindC kindOf ((p,w)::P.zip vs) m p=_;unfold bindC;rw[El λv hv=>(dZ.mp nd).1 (j8 hv).1,dq hk];simp
 | p::P,w::vs,i+1,m,nd,h1,h2,hk=>by show bindC kindOf ((p,w)::P.zip vs) m x=_;unfold bindC;exact D4 (i:=i) (dZ.mp nd).2 (by simpa using h1) (by simpa using h2) hk
def start(N:QQQ)(vs:T0 V):St:=vs.map Fa++List.replicate (N.length - vs.length) Db
def vI(CX:LC)(P:Pg)(w:Wo)(K:qL)(mg:QQZ)(base:No)(N:QQQ)(qual:Str)(scope:XXe)(f:Uf)(cd:Vl)(A:Ar)(outer:T0 Env)(s:Sd)(H:Hp)(E:XK):Cx where
 prog:=P
 w:=w
 K:=K
 mg:=mg
 base:=base
 A:=A.deeper (dL qual scope s.heap.objs.size f cd)
 N:=N
 s₀:=s
 H₀:=H
 env:=dL qual scope s.heap.objs.size f cd
 outer:=outer
 stack:=dL qual scope s.heap.objs.size f cd::outer
 ex:=[]
 calm:=true
 fn:=λ_=>pc
 pn:=[]
 xe:=λe s'=>Ch (Tk P w) (A.deeper (dL qual scope s.heap.objs.size f cd)) (leaving (dL qual scope s.heap.objs.size f cd) e) (λ_ s''=>CX outer H s E e s'') (λe' s''=>CX outer H s E e' s'') s'
def Hc{sc:XXe}{n:Nat}{x:Str}(h:sc.names.lookup x=Fa .cell):∃c,(cellsFrom n sc.names []).lookup x=Fa c:=by have q:=mh sc.names n [] (.inl h);exact jR.mp q
def K'{CX:LC}{K:qL}{qual:Str}{f:Uf}{cd:Vl}{A:Ar}{E:XK}{vs:T0 V} (S:tL N ps scope) (hd:A.handled=Db) (e0:ID P w K mg base A outer s H) (hl:vs.length=ps.length) (r:qO vs us) (x:InCallC s s.heap.objs.size (bindL (dL qual scope s.heap.objs.size f cd).kindOf (ps.zip us) λ_=>Db) (cellsFrom (s.heap.objs.size+1) scope.names []) (bindC (dL qual scope s.heap.objs.size f cd).kindOf (ps.zip us) λ_=>Db) s1):
  Inv (vI CX P w K mg base N qual scope f cd A outer s H E) [] (start N vs) H s1:=by
 have X0:ps.length<=N.length:=by have:=eV List.length S.pre;rw[fT]at this;omega
 obtain⟨h1,tk,rfl,hk⟩:=x.done;have noA:∀b:Uf,b∉(vI CX P w K mg base N qual scope f cd A outer s H E).ex:=λb z=>absurd (show b∈([]:QXQ)from z) (by simp);refine⟨⟨e0.mod,S.kind,Z',Z',dC _,λy z c h1 h2=>?_,λy hy=>?_,λy c _ h=>?_,λ_=>hd,Around.frames_deeper e0.frames,.inr ⟨Z',Z'⟩,λb z=>absurd z (noA b),e0.bs,e0.oK,λb _ _=>noA b,λb z=>absurd z (noA b),e0.oa,e0.oR⟩,Z',e0.bare,Un.kept hk,⟨_,x.toInCall.ns,λi y v h1 h2 h3=>?_⟩,λy c h=>⟨_,x.cell y c h⟩,e0.nB.fresh (dC _),λy c h=>?_,λp hp=>absurd (show p∈([]:QQY)from hp) (by simp),e0.nB.kept hk,?_⟩
 .exact name_of_addr x.apart (g9 h1) (g9 h2)
 .have hy:scope.names.lookup y=Fa .cell\/scope.names.lookup y=Fa .free:=hy;rcases hy with hy|hy
  .exact Hc hy
  .exact absurd Z' (S.pM _ (g9 hy))
 .exact jP (x.above y c (g9 h))
 .have hi:i<vs.length:=by
   unfold start at h2;by_cases hi:i<vs.length
   .exact hi
   .rw[fi (by simpa using hi)]at h2;rw[j5]at h2;split at h2<;>cases h2
  have ha:vs[i]?=Fa v:=by
   unfold start at h2;rw[fk (by simpa using hi),dJ]at h2;cases e:vs[i]? with
   | none=>rw[e]at h2;cases h2
   | some a=>rw[e]at h2;cases h2;rfl
  obtain⟨u,hu,rv⟩:=r.get ha;have hp:ps[i]?=Fa y:=by rw[<-S.pre,List.getElem?_take_of_lt (by omega)];exact h1
  have ndP:ps.Nodup:=by rw[<-S.pre];exact S.nd.sublist (List.take_sublist _ _)
  refine⟨u,rv,?_⟩;rcases S.par y (fA hp)with k|k
  .exact .inl ⟨k,Eu ndP hp hu k⟩
  .obtain⟨c,e⟩:=Hc (n:=s.heap.objs.size+1) k;refine .inr ⟨.inl k,c,e,?_⟩;have q:=x.cell y c e;rw[D4 ndP hp hu (by show scope.names.lookup y≠_;rw[k];decide)]at q;exact q
 .exact e0.nB.fresh (jP (x.above y c (g9 h)))
 .unfold start;show _=N.length;rw[dg,c9,iU];omega
def Mz{CX:LC}{P:Pg}{w:Wo}{K:qL}{mg:QQZ}{base:No}{f:Uf}{dV kV Ym pm XS ct oc:Vl}{an od:Option Uf} {YE:Array (Option Vl)} {N ps:QQQ} {sp:Sp} (lk:K.lookup f=Fa ⟨oc,od,.func (W.fnOf name qual params body scope dV kV Ym pm an XS ct),YE⟩) (YJ:W.codeIn K XS qual=pc) (S:tL N ps scope) (len:∀vs H Q E,sp vs H Q E->vs.length=ps.length) (X7:∀(A:Ar) (outer:T0 Env) (s:Sd) (H:Hp) (vs:T0 V) (Q:VK) (E:XK),sI k (A.deeper (dL qual scope s.heap.objs.size f XS))->sp vs H Q E->
   ∃t,BX (vI CX P w K mg base N qual scope f XS A outer s H E) body t/\t {nx:=λ_ H'=>Q .nz H',rt:=Q} (start N vs) H):
  xO P w K mg base CX (k+1) f (W.fnOf name qual params body scope dV kV Ym pm an XS ct) ps sp:=by
 refine⟨len,λA outer s H args us vs Q E hr e0 hb r Zd=>?_⟩;have hl:=len _ _ _ _ Zd;have KX:K.In s.heap:=e0.mod.oZ.keeps λb o e=>(e0.bs b o e).1;have lim:s.heap.NoLimit:=e0.mod.nolimit.keeps λb o e=>(e0.bs b o e).1;have hkind:∀y∈ps.zip us,scope.names.lookup y.1=Fa .local\/(scope.names.lookup y.1=Fa .cell/\((cellsFrom (s.heap.objs.size+1) scope.names []).lookup y.1).isSome=pc):=λ⟨n,v⟩ hy=>by
  rcases S.par n (j8 hy).1 with q|q
  .exact .inl q
  .exact .inr ⟨q,mh _ _ _ (.inl q)⟩
 refine codeAny_call_function hr.depth (KX _ _ lk) Z' S.co S.gen Z' (W.codeRec_of KX YJ) (hb _ _ _ _ ?_);refine wpAny_newFunctionEnv_cells S.kind hkind λenv he s1 x=>?_;subst he;refine⟨lim.keeps x.toInCall.keep,codeAny_func ?_⟩;obtain⟨t,ht,hq⟩:=X7 A outer s H vs Q E (hr.deeper _) Zd;have I:Inv (vI CX P w K mg base N qual scope f XS A outer s H E) [] (start N vs) H s1:=K' S hr.hd e0 hl r x;refine eF (ht [] s1 (start N vs) H _ I hq) (λfl s' hs=>?_) λe s' hs=>hs;have XJ:∀{σ':St} {H':Hp} {v:V} {u:Vl},Inv (vI CX P w K mg base N qual scope f XS A outer s H E) [] σ' H' s'->ra v u->Q v H'->CE outer P w H s Q u s':=
  λ{σ' H' v u} J rv q=>⟨v,H',J.os,J.bare,J.base,J.nB,rv,q⟩
 cases fl with
 | ret u=>obtain⟨v,σ',H',J,rv,q⟩:=hs;exact XJ J rv q
 | next=>obtain⟨σ',H',J,q⟩:=hs;exact XJ (v:=V.nz) (u:=Value.none) J Z' q
 | brk=>obtain⟨_,_,_,q⟩:=hs;exact False.elim q
 | cont=>obtain⟨_,_,_,q⟩:=hs;exact False.elim q
variable {id T:String}{r:T0 V→Hp→VK→Prop}
section
variable {x:Str}{e:Go}{t:TA}
def Xj(r:T0 V->Hp->VK->Prop)(t:TA):TE:=λY H Q=>t Y H λvs H1=>r vs H1 Q
def OC(hc:yP X (.builtin id) r)(hg:Gl X x)(hm:X.mg x=Db)(hv:zn x=Fa (.builtin id))(ha:PA X (e::es) t)(hn:x≠"__name__":=by decide)(X4:yW x:=by decide)
  (he:Bx X e es:=by rfl) (X0:Dh X pos es:=by rfl):PE X (.Call (.Name x p) (e::es) [] pos) (Xj r t):=by
 intro XF s Y H Q I h;refine gc (vP I hg hm hv ?_ hn X4);exact hZ (sX (ha pos XF s Y H _ I h) λus s1 zz=>x5 zz λvs H1 I1 r1 q1=>hc XF s1 Y H1 vs us Q I1 r1 q1) he X0
def KP(hc:yP X (.type T) r)(hg:Gl X x)(hm:X.mg x=Db)(hv:zn x=Fa (.type T))(ha:PA X (e::es) t)(hn:x≠"__name__":=by decide)(X4:yW x:=by decide)
  (he:Bx X e es:=by rfl) (X0:Dh X pos es:=by rfl):PE X (.Call (.Name x p) (e::es) [] pos) (Xj r t):=by
 intro XF s Y H Q I h;refine gc (vP I hg hm hv ?_ hn X4);exact fH (sX (ha pos XF s Y H _ I h) λus s1 zz=>x5 zz λvs H1 I1 r1 q1=>hc XF s1 Y H1 vs us Q I1 r1 q1) he X0
end
end L2
namespace HT
open PySem PyProof.Rows
section
open PySem.SeqAt
open PySem.AutoSeq1 (wpAny_loadPart')
open PySem.MeetsSeq PySem.MeetsSeq2 PySem.MeetsSeq3
end
variable {prog:Pg}{w:Wo}{A:Ar}{E:QQX}{s:Sd}
def P9{vs ws:T0 Vl}{Q:QQX}(ht:IsTup s.heap t vs.toArray)(hb:IsTup s.heap b ws.toArray)(hv:vs≠[]) (h1:ws=[]->Q (.ref t) s) (h2:ws≠[]->Q (.ref s.heap.objs.size) {s with heap:=s.heap.push {cls:=.type "tuple",data:=.seq (vs++ws).toArray}})
  (hsz:vs.length+ws.length<=pi):Ch (Tk prog w) A (wP .Add (.ref t) (.ref b)) Q E s:=by
 obtain⟨⟨cls,dd,data,sl⟩,ho,hc,n,hd⟩:=id ht;obtain⟨⟨cls2,dd2,data2,sl2⟩,ho2,hc2,n2,hd2⟩:=id hb;simp only at hc hd hc2 hd2;subst hc hd hc2 hd2;have e:vs.toArray++ws.toArray=(vs++ws).toArray:=by simp
 by_cases hw:ws=[]
 .exact lz ⟨_,ho,Z'⟩ ⟨_,ho2,Z'⟩ mi seq_tuple_add ko j6 (jS _ _)
   (tuple_addW1 t b vs.toArray ws.toArray n n2 dd dd2 sl sl2 (by simpa using hv) (by simp[hw])) ⟨ho,ho2,h1 hw⟩
 .refine lz ⟨_,ho,Z'⟩ ⟨_,ho2,Z'⟩ mi seq_tuple_add ko j6 (jS _ _)
   (tuple_addW2 t b vs.toArray ws.toArray n n2 dd dd2 sl sl2 (by simpa using hv) (by simpa using hw) (by rw[dE,dE];exact hsz)) ⟨ho,ho2,?_⟩
  rw[e];exact h2 hw
def tO(n d:Nat):Option Int->Nat
 | none=>d
 | some v=>if v<0 then(v+(n:Int)).toNat else min v.toNat n
def B0(n d:Nat):tO n d Db=d:=rfl
def JH(n d k:Nat):tO n d (Fa (k:Int))=min k n:=by show(if (k:Int)<0 then((k:Int)+(n:Int)).toNat else min (k:Int).toNat n)=min k n;rw[dq (by omega),jC]
def T7(n d:Nat)(hd:d<=n)(o:Option Int):tO n d o<=n:=by
 cases o with
 | none=>exact hd
 | some v=>
  show(if v<0 then(v+(n:Int)).toNat else min v.toNat n)<=n;by_cases hv:v<0
  .rw[dw hv];omega
  .rw[dq hv];exact Nat.min_le_right _ _
def J5(v:Int)(n d:Nat):(if v<0 then max (v+(n:Int)) 0 else min v (n:Int))=((tO n d (Fa v):Nat):Int):=by
 show(if v<0 then max (v+(n:Int)) 0 else min v (n:Int))=(((if v<0 then(v+(n:Int)).toNat else min v.toNat n):Nat):Int);by_cases hv:v<0
 .simp only[dw hv];omega
 .simp only[dq hv];omega
def Ig(lo hi:Option Int)(n:Nat):Builtin.Slice.sliceAdjust lo hi 1 (n:Int)=(((tO n 0 lo:Nat):Int),((tO n n hi:Nat):Int)):=by
 have h1:¬((1:Int)<0):=by omega
 unfold Builtin.Slice.sliceAdjust;simp only[h1,jn];refine mR ?_ ?_
 .cases lo with
  | none=>rfl
  | some v=>exact J5 v n 0
 .cases hi with
  | none=>rfl
  | some v=>exact J5 v n n
def H9(i j:Nat):Builtin.Slice.slicePlaces (i:Int) (j:Int) 1=j - i:=by
 unfold Builtin.Slice.slicePlaces;have h1:(1:Int)>0:=by omega
 simp only[h1,jo,Int.ediv_one];split<;>omega
def CQ{Q:Option Int->Sd->Prop}(p:IsPart v o)(h:Q o s):Ch (Tk prog w) A (Builtin.Slice.slicePartIndex v) Q E s:=by
 cases p with
 | none=>exact slicePart_none h
 | int i t=>exact slicePart_int h
def wW{sl:Uf}{vl vu:Vl}{lo hi:Option Int}{Q:Int×Int×Nat->Sd->Prop}(hs:s.heap.IsSliceOf sl vl vu .none)(pl:IsPart vl lo)(pu:IsPart vu hi) (h:Q (((tO n 0 lo:Nat):Int),1,tO n n hi - tO n 0 lo) s):Ch (Tk prog w) A (Builtin.Slice.sliceApplied (.ref sl) (pure (n:Int))) Q E s:=by
 obtain⟨os,hos,hcs,Y0⟩:=id hs;unfold Builtin.Slice.sliceApplied Builtin.Slice.sliceFields;refine de (de (fu hos Y0 (x:=vl) Z' (de (fu hos Y0 (x:=vu) Z' (de (fu hos Y0 (x:=.none) Z' (dz ?_)))))));refine de (slicePart_none ?_);show Ch _ _ (if ((1:Int)==0)=pc then _ else _) _ _ s;rw[dq (by decide)];refine de (CQ pl (de (CQ pu (de (dz ?_)))));show Ch _ _ (match Builtin.Slice.sliceAdjust lo hi 1 (n:Int)with|(lo,hi)=>pure (lo,(1:Int),Builtin.Slice.slicePlaces lo hi 1)) _ _ s;rw[Ig lo hi n];show Ch _ _ (pure (((tO n 0 lo:Nat):Int),(1:Int),Builtin.Slice.slicePlaces ((tO n 0 lo:Nat):Int) ((tO n n hi:Nat):Int) 1)) _ _ s;rw[H9];exact dz h
def NL(xs:Array Vl)(i k:Nat):((List.range k).filterMap λ(m:Nat)=>xs[((i:Int)+(m:Int)*1).toNat]?).toArray=((xs.toList.drop i).take k).toArray:=by
 have e:(λ(m:Nat)=>xs[((i:Int)+(m:Int)*1).toNat]?)=λm=>xs[i+m]?:=by
  funext m;have:((i:Int)+(m:Int)*1).toNat=i+m:=by omega
  rw[this]
 rw[e];have:=pick_run xs i k;rw[List.filterMap_map]at this;have e2:((λx=>xs[x]?)∘λx=>i+x)=λm=>xs[i+m]?:=rfl;rw[e2]at this;rw[this]
def zI{t sl:Uf}{vl vu:Vl}{lo hi:Option Int}{Q:QQX}(ht:IsTup s.heap t XG)(hs:s.heap.IsSliceOf sl vl vu .none)(pl:IsPart vl lo)(pu:IsPart vu hi) (hw:¬(tO XG.size 0 lo=0/\tO XG.size XG.size hi=XG.size)) (h:Q (.ref s.heap.objs.size) {s with heap:=s.heap.push {cls:=.type "tuple",data:=.seq ((XG.toList.drop (tO XG.size 0 lo)).take (tO XG.size XG.size hi - tO XG.size 0 lo)).toArray}})
  (hsz:XG.size<=pi):Ch (Tk prog w) A (XXg (.ref t) (.ref sl)) Q E s:=by
 have Y7:sizeOk (.seq ((XG.toList.drop (tO XG.size 0 lo)).take (tO XG.size XG.size hi - tO XG.size 0 lo)).toArray):=by show((XG.toList.drop (tO XG.size 0 lo)).take (tO XG.size XG.size hi - tO XG.size 0 lo)).toArray.size<=pi;rw[dE,fT,gw,gZ];omega
 have hj:tO XG.size XG.size hi<=XG.size:=T7 _ _ (dC _) hi;obtain⟨os,hos,hcs,Y0⟩:=id hs;have hTs:s.TypeIs (.ref sl) "slice":=⟨os,hos,hcs⟩;unfold XXg
 try with_reducible refine eJ ?_
 first|refine de (dz ?_)|skip
 refine de (jD ht.typeIs (by decide) ?_);refine de (fS (name:=Str.ofString "__getitem__") ht.typeIs fJ
  (gf fJ ht.typeIs kW ?_ (lA _ _)))
 show Ch _ _ (Builtin.Tuple.tupleItemsOf (.ref t)>>=_) _ _ s;refine de (tupleItemsOf_ ht ?_);refine de (jT hTs ?_);rw[dw (by decide)];refine de (wW hs pl pu ?_);have hno:¬((((tO XG.size 0 lo:Nat):Int)==0&&(1:Int)==1&&(tO XG.size XG.size hi - tO XG.size 0 lo)==XG.size)=pc):=by intro q;rw[d6,d6]at q;have q1:((tO XG.size 0 lo:Nat):Int)=0:=Ix q.1.1;have q2:tO XG.size XG.size hi - tO XG.size 0 lo=XG.size:=Ix q.2;exact hw ⟨by omega,by omega⟩
 show Ch _ _ (if (((tO XG.size 0 lo:Nat):Int)==0&&(1:Int)==1&&(tO XG.size XG.size hi - tO XG.size 0 lo)==XG.size)=pc then _ else _) _ _ s;rw[dq hno,NL]
 first
  | exact de (m:=Builtin.Tuple.tupleExact _) (gg (dz ⟨_,rfl,dz h⟩) Y7)
  | exact de (m:=Builtin.Tuple.tupleExact _) (gg (de (dz (dz ⟨_,rfl,dz h⟩))) Y7)
  | exact de (de (m:=Builtin.Tuple.tupleExact _) (gg (dz (dz ⟨_,rfl,dz h⟩)) Y7))
  | exact de (de (m:=Builtin.Tuple.tupleExact _) (gg (dz ⟨_,rfl,dz h⟩) Y7))
end HT
namespace L2
abbrev TO:=St->Hp->(Option Int->Hp->Prop)->Prop
def PO(X:Cx)(e:Option Go)(t:TO):Prop:=
 ∀(XF:QQY) (s:Sd) (Y:St) (H:Hp) (Q:Option Int->Hp->Prop),Inv X XF Y H s->t Y H Q->
  Ch (Tk X.prog X.w) X.A (evalPart e X.env) (λu s'=>∃o H',Inv X XF Y H' s'/\IsPart u o/\Q o H') X.xe s
def Qr:TO:=λ_ H Q=>Q Db H
def Vb(t:TE):TO:=λY H Q=>t Y H λx H1=>∃i,x=.int i/\Q (Fa i) H1
variable {X:Cx}{e:Go}{te:TE}{lo hi:Option Go}{tl th:TO}{pos p2:Pos}
def OQ:PO X Db Qr:=by intro XF s Y H Q I h;rw[evalPart_none];exact dz ⟨Db,H,I,.none,h⟩
def QM(h:PE X e te):PO X (Fa e) (Vb te):=by intro XF s Y H Q I hw;rw[evalPart_some];refine sX (h XF s Y H _ I hw) λu s1 zz=>x5 zz λx H1 I1 r1 q1=>?_;obtain⟨i,rfl,q⟩:=q1;obtain⟨t,rfl⟩:=r1;exact⟨Fa i,H1,I1,.int i t,q⟩
def Vd(X:Cx)(r:V->Option Int->Option Int->Hp->VK->Prop):Prop:=
 ∀(XF:QQY) (s:Sd) (Y:St) (H:Hp) (x:V) (v vl vu:Vl) (lo hi:Option Int) (sl:Uf) (Q:VK),Inv X XF Y H s->ra x v->s.heap.IsSliceOf sl vl vu .none->IsPart vl lo->IsPart vu hi->r x lo hi H Q->
  ∃T id,typeLookup (.type T) "__getitem__"=pure (Fa (.builtin id))/\s.TypeIs v T/\Ch (Tk X.prog X.w) X.A (XXg v (.ref sl)) (EP X XF Y Q) X.xe s
def Xq(r:V->Option Int->Option Int->Hp->VK->Prop)(te:TE)(tl th:TO):TE:=λY H Q=>te Y H λx H1=>tl Y H1 λl H2=>th Y H2 λu H3=>r x l u H3 Q
def MB(hr:Vd X r)(he:PE X e te)(hl:PO X lo tl)(hu:PO X hi th):PE X (.Subscript e (.Slice lo hi Db p2) pos) (Xq r te tl th):=by intro XF s Y H Q I h;refine Subscript_ (sX (he XF s Y H _ I h) λv s1 zz=>x5 zz λx H1 I1 r1 q1=>?_);refine wpAny_Slice (sX (hl XF s1 Y H1 _ I1 q1) λvl s2 zz=>x5 zz λl H2 I2 pl q2=>sX (hu XF s2 Y H2 _ I2 q2) λvu s3 zz=>x5 zz λu H3 I3 pu q3=>?_);rw[evalPart_none];refine dz ?_;have I4:Inv X XF Y H3 {s3 with heap:=s3.heap.push {cls:=.type "slice",data:=.fields #[vl,vu,.none]}}:=I3.kept (t':=s3.toks) λb ob q=>dv _ q;obtain⟨T,id,hT,ht,hg⟩:=hr XF {s3 with heap:=s3.heap.push {cls:=.type "slice",data:=.fields #[vl,vu,.none]}} Y H3 x v vl vu l u s3.heap.objs.size Q I4 r1 (m9 ..) pl pu q3;show Ch (Tk X.prog X.w) X.A (subscriptTail e (.Slice lo hi Db p2) v (.ref s3.heap.objs.size)) (EP X XF Y Q) X.xe {s3 with heap:=s3.heap.push {cls:=.type "slice",data:=.fields #[vl,vu,.none]}};exact tail_any (ops:=[.ref s3.heap.objs.size,v]) ht hT hg (by with_unfolding_all rfl)
def BN(xs:T0 V)(lo hi:Option Int):T0 V:=(xs.drop (HT.tO xs.length 0 lo)).take (HT.tO xs.length xs.length hi - HT.tO xs.length 0 lo)
def A0(xs:T0 V)(lo hi:Option Int):(BN xs lo hi).length<=xs.length:=by unfold BN;rw[fT,gw];omega
def WB(K:qL):V->Option Int->Option Int->Hp->VK->Prop:=λx lo hi H Q=>∃a xs,x=.ref a/\vE K H a xs/\
 ¬(HT.tO xs.length 0 lo=0/\HT.tO xs.length xs.length hi=xs.length)/\∀p,H p=Db->Q (.ref p) (upd H p (.tup (BN xs lo hi)))
def Ss:Vd X (WB X.K):=by
 intro XF s Y H x v vl vu lo hi sl Q I rx hs pl pu h;obtain⟨a,xs,rfl,hx,hw,q⟩:=h;cases rx;obtain⟨its,r,ht,hz⟩:=I.tuple hx;have XN:its.toArray.size=xs.length:=by rw[dE];exact r.length.symm
 refine⟨"tuple",_,fJ.lookup,ht.typeIs,?_⟩;refine HT.zI ht hs pl pu (by rw[XN];exact hw) ?_ (by rw[XN];exact hz);rw[XN];refine⟨.ref s.heap.objs.size,_,I.laid (t':=s.toks) (o:=.tup (BN xs lo hi)) (λb ob q=>dv _ q) (dC _) ?_,Z',q _ (I.nB.fresh (dC _))⟩;exact⟨eD (A0 xs lo hi) hz,_,(r.drop (HT.tO xs.length 0 lo)).take (HT.tO xs.length xs.length hi - HT.tO xs.length 0 lo),EK.new _ _⟩
def UQ(K:qL):R2:=λx y H Q=>∃a b xs ys,x=.ref a/\y=.ref b/\vE K H a xs/\vE K H b ys/\xs≠[]/\xs.length+ys.length<=pi/\
 (ys=[]->Q (.ref a) H)/\(ys≠[]->∀p,H p=Db->Q (.ref p) (upd H p (.tup (xs++ys))))
def qO.oq(r:qO xs us):us=[]↔xs=[]:=by
 cases r with
 | nil=>simp
 | cons _ _=>simp
def Pb:xY X (wP .Add) (UQ X.K):=by intro XF s Y H x y v u Q I rx ry h;obtain⟨a,b,xs,ys,rfl,rfl,ha,hb,hx,hz,q1,q2⟩:=h;cases rx;cases ry;obtain⟨its,r1,p1,_⟩:=I.tuple ha;obtain⟨its2,r2,p2,_⟩:=I.tuple hb;refine HT.P9 p1 p2 (λz=>hx (r1.oq.mp z)) (λz=>⟨.ref a,H,I,Z',q1 (r2.oq.mp z)⟩) (λz=>?_) (by rw[<-r1.length,<-r2.length];exact hz);refine⟨.ref s.heap.objs.size,_,I.laid (t':=s.toks) (o:=.tup (xs++ys)) (λb ob q=>dv _ q) (dC _) ?_,Z',q2 (λw=>z (r2.oq.mpr w)) _ (I.nB.fresh (dC _))⟩;exact⟨by rw[dg];exact hz,_,r1.append r2,EK.new _ _⟩
def G7(n:Nat)(i:Int):Option Nat:=if 0<=i then(if i<n then Fa i.toNat else Db)else if -(n:Int)<=i then Fa (i+n).toNat else Db
def wY{α:Type}(xs:List α)(i:Int):Option α:=(G7 xs.length i).bind λj=>xs[j]?
def Jx{j:Nat}(h:G7 n i=Fa j):seqIndex? i n=Fa j/\j<n/\-(n:Int)<=i/\i<n:=by
 unfold G7 at h;by_cases h0:0<=i
 .rw[dw h0]at h;by_cases h1:i<n
  .rw[dw h1]at h;have e:i.toNat=j:=dB h;exact⟨by rw[lX h0 h1,e],by omega,by omega,h1⟩
  .rw[dq h1]at h;cases h
 .rw[dq h0]at h;by_cases h1:-(n:Int)<=i
  .rw[dw h1]at h;have e:(i+n).toNat=j:=dB h;exact⟨by rw[lB (by omega) h1,e],by omega,h1,by omega⟩
  .rw[dq h1]at h;cases h
def FI{α:Type}{xs:List α}{i:Int}{v:α}(h:wY xs i=Fa v):∃j,seqIndex? i xs.length=Fa j/\xs[j]?=Fa v/\j<xs.length/\-(xs.length:Int)<=i/\i<xs.length:=by
 unfold wY at h;cases e:G7 xs.length i with
 | none=>rw[e]at h;cases h
 | some j=>rw[e]at h;obtain⟨h1,h2,h3,h4⟩:=Jx e;exact⟨j,h1,h,h2,h3,h4⟩
def vF{α:Type}{xs:List α}{j:Nat}{v:α}(h:xs[j]?=Fa v):wY xs (j:Int)=Fa v:=by
 have hj:j<xs.length:=(dh.mp h).1;have e:G7 xs.length (j:Int)=Fa j:=by unfold G7;rw[dw (by omega),dw (by omega)];simp
 unfold wY;rw[e];exact h
def Bz(b:Go):Prop:=∀o i,subscripted b lf o i=operate [o,i] (XXg o i)
def Ub(X:Cx)(r:R2):Prop:=
 ∀(value XW:Go) (XF:QQY) (s:Sd) (Y:St) (H:Hp) (x y:V) (v u:Vl) (Q:VK),Inv X XF Y H s->ra x v->ra y u->r x y H Q->
  subscripted XW lf v u=operate [v,u] (XXg v u)->Ch (Tk X.prog X.w) X.A (subscriptTail value XW v u) (EP X XF Y Q) X.xe s
def Xl(X:Cx)(id:String)(r:V->T0 V->Hp->VK->Prop):Prop:=
 ∀(XF:QQY) (s:Sd) (Y:St) (H:Hp) (x:V) (xs:T0 V) (v:Vl) (us:T0 Vl) (Q:VK),Inv X XF Y H s->ra x v->qO xs us->r x xs H Q->
  Ch (Tk X.prog X.w) X.A (call (.builtin id) (v::us)) (EP X XF Y Q) X.xe s
variable {o:Go}{es:T0 Go}{to:TE}{t:TA}{name:Str}{XI XO:Pos}{T id:String}{r:V→T0 V→Hp→VK→Prop}{a:Go}{ta tb:TE}
section
variable {b:Go}
def NZ{r:R2}(hr:Ub X r)(ha:PE X a ta)(hb:PE X b tb)(hs:Bz b):PE X (.Subscript a b pos) (Vm r ta tb):=by intro XF s Y H Q I h;exact Subscript_ (Tz ha hb I h λv u s2 x y H2 I2 rx ry q=>hr a b XF s2 Y H2 x y v u Q I2 rx ry q (hs _ _))
def WU(K:qL):R2:=λx y H Q=>∃p xs i v,x=.ref p/\y=.int i/\zb K H p xs/\wY xs i=Fa v/\Q v H
def W4(K:qL):R2:=λx y H Q=>∃p xs i v,x=.ref p/\y=.int i/\vE K H p xs/\wY xs i=Fa v/\Q v H
def WQ:R2:=λx y H Q=>∃z i c,x=.str z/\y=.int i/\z.length<=pi/\wY z.cps.toList i=Fa c/\Q (.str ⟨#[c]⟩) H
def Kf:Ub X (WU X.K):=by
 intro value XW XF s Y H x y v u Q I rx ry h hs;obtain⟨p,xs,i,z,rfl,rfl,hq,he,q⟩:=h;cases rx;obtain⟨t,rfl⟩:=ry;obtain⟨its,r,pl,hz⟩:=I.list hq;obtain⟨j,h1,h2,h3,h4,h5⟩:=FI he;obtain⟨w,ew,ZQ⟩:=r.get h2;have hl:=r.length;have hn:=zi;have XJ:EP X XF Y Q w s:=⟨z,H,I,ZQ,q⟩;by_cases h0:0<=i
 .have hj:i.toNat=j:=by rw[lX h0 h5]at h1;exact dB h1
  exact item_listR pl.isList h0 (by omega) (by rw[hj];simpa using ew) XJ hs
 .have hj:(i+(its.toArray.size:Int)).toNat=j:=by rw[lB (by omega) h4]at h1;rw[dE,<-hl];exact dB h1
  exact kr (x:=w) pl.isList.typeIs lO.lookup
   (wpAny_getItem_list_neg (Q:=λr s'=>r=w/\EP X XF Y Q r s') pl.isList (by omega) (by rw[dE]<;>omega) (by omega) (by rw[hj];simpa using ew) ⟨Z',XJ⟩) hs
def RV:Ub X (W4 X.K):=by
 intro value XW XF s Y H x y v u Q I rx ry h hs;obtain⟨p,xs,i,z,rfl,rfl,hq,he,q⟩:=h;cases rx;obtain⟨t,rfl⟩:=ry;obtain⟨its,r,pl,hz⟩:=I.tuple hq;obtain⟨j,h1,h2,h3,h4,h5⟩:=FI he;obtain⟨w,ew,ZQ⟩:=r.get h2;have hl:=r.length;have hn:=zi;have XJ:EP X XF Y Q w s:=⟨z,H,I,ZQ,q⟩;exact kr (x:=w) pl.typeIs slot_tuple_getitem.lookup
  (getItem_tuple (j:=j) (Q:=λr s'=>r=w/\EP X XF Y Q r s') pl (by omega) (by omega) (by rw[dE,<-hl];exact h1) (by simpa using ew) ⟨Z',XJ⟩) hs
def RM:Ub X WQ:=by
 intro value XW XF s Y H x y v u Q I rx ry h hs;obtain⟨z,i,c,rfl,rfl,hz,he,q⟩:=h;obtain⟨t,rfl⟩:=rx;obtain⟨t',rfl⟩:=ry;obtain⟨j,h1,h2,h3,h4,h5⟩:=FI he;have hl:z.cps.toList.length=z.length:=by simp[Str.length]
 rw[hl]at h1 h4 h5;have hn:=zi;exact tail_any (typeIs_str s z t) slot_str_getitem.lookup (getItem_str (c:=c) (by
  have e1:decide (i< -(2 ^ 63:Int))=lf:=eY (by omega);have e2:decide (i>=2 ^ 63)=lf:=eY (by omega);rw[e1,e2,jA]) (by rw[h1];simpa using h2) ⟨.str ⟨#[c]⟩,H,I.tok _,⟨_,Z'⟩,q⟩) hs
def IR(its:T0 Vl)(n j:Nat)(u:Vl):Obj.mapSeq (·.setIfInBounds j u) {cls:=.type "list",data:=.seq its.toArray n}={cls:=.type "list",data:=.seq (its.set j u).toArray n}:=by simp[Obj.mapSeq]
def Inv.lst{p:Uf}{xs:T0 V}(I:Inv X XF Y H s)(h:H p=Fa (.lst xs)):
  ∃(its:T0 Vl) (n:Nat),qO xs its/\s.heap.get? p=Fa {cls:=.type "list",data:=.seq its.toArray n}/\xs.length<=pi:=by
 obtain⟨z,its,n,r,e⟩:=I.nB p _ h;exact⟨its,n,r,e,z⟩
def Inv.o9{p:Uf}{xs ys:T0 V}{its its':T0 Vl}{n n':Nat}{f:Obj->Obj}(I:Inv X XF Y H s)(h:H p=Fa (.lst xs)) (ho:s.heap.get? p=Fa {cls:=.type "list",data:=.seq its.toArray n}) (hf:f {cls:=.type "list",data:=.seq its.toArray n}={cls:=.type "list",data:=.seq its'.toArray n'}) (r:qO ys its') (hz:ys.length<=pi) (t:Nat):
  Inv X XF Y (upd H p (.lst ys)) {s with heap:=s.heap.update p f,toks:=t}:=by
 have e:(s.heap.update p f).get? p=Fa {cls:=.type "list",data:=.seq its'.toArray n'}:=by rw[fP f ho (by rw[hf]<;>rfl),hf]
 refine I.write (x:=p) (e:=p) (by rw[h];trivial) (.inl Z') (λb u hb q=>(gu _ _ (dW hb)).trans q) ⟨_,e⟩ ?_;exact⟨hz,its',n',r,e⟩
def VB:V->V->V->Hp->(Hp->Prop)->Prop:=λo i v H Q=>∃p xs k j,o=.ref p/\i=.int k/\H p=Fa (.lst xs)/\G7 xs.length k=Fa j/\Q (upd H p (.lst (xs.set j v)))
def MT:Vx X VB:=by
 intro XF s Y H o i v ov iv u Q I ro ri rv h;obtain⟨p,xs,k,j,rfl,rfl,hp,hj,q⟩:=h;cases ro;obtain⟨t,rfl⟩:=ri;obtain⟨its,n,r,ho,hz⟩:=I.lst hp;obtain⟨h1,h2,h3,h4⟩:=Jx hj;have hl:=r.length;have hn:=zi;have I':Inv X XF Y (upd H p (.lst (xs.set j v))) {s with heap:=s.heap.update p (Obj.mapSeq (·.setIfInBounds j u))}:=
  I.o9 hp ho (IR its n j u) (r.set rv j) (by rw[iA];exact hz) s.toks
 by_cases h0:0<=k
 .have hk:k.toNat=j:=by rw[lX h0 h4]at h1;exact dB h1
  exact W.ki_setAt ho h0 (by omega) (by rw[dE,<-hl];exact h4) (by rw[hk];exact⟨_,I',q⟩)
 .have hk:(k+(its.toArray.size:Int)).toNat=j:=by rw[lB (by omega) h3]at h1;rw[dE,<-hl];exact dB h1
  exact W.ki_setBack ho (by omega) (by rw[dE,<-hl];exact h3) (by omega) (by rw[hk];exact⟨_,I',q⟩)
def FJ(lo hi:Option Int)(n:Nat):(XXh lo hi Db n).1=((HT.tO n 0 lo:Nat):Int)/\(XXh lo hi Db n).2.1=((HT.tO n n hi:Nat):Int)/\(XXh lo hi Db n).2.2=1:=by
 refine⟨?_,?_,Z'⟩
 .cases lo with
  | none=>simp[XXh,HT.tO]
  | some i=>
   simp only[XXh,HT.tO,mj,show(1:Int)>0 by decide,jo];by_cases h:i<0
   .simp only[h,jo]<;>omega
   .simp only[h,jn]<;>omega
 .cases hi with
  | none=>simp[XXh,HT.tO]
  | some i=>
   simp only[XXh,HT.tO,mj,show(1:Int)>0 by decide,jo];by_cases h:i<0
   .simp only[h,jo]<;>omega
   .simp only[h,jn]<;>omega
def Dy(its:T0 Vl)(lo hi:Option Int):slicePick its.toArray lo hi Db=((its.drop (HT.tO its.length 0 lo)).take (HT.tO its.length its.length hi - HT.tO its.length 0 lo)).toArray:=by obtain⟨h1,h2,h3⟩:=FJ lo hi its.toArray.size;unfold slicePick;rw[h1,h2,h3];simp only[sliceRange_one,pick_run,dE]<;>rfl
def WC(K:qL):V->Option Int->Option Int->Hp->VK->Prop:=λx lo hi H Q=>∃a xs,x=.ref a/\zb K H a xs/\∀p,H p=Db->Q (.ref p) (upd H p (.lst (BN xs lo hi)))
def Jz:Vd X (WC X.K):=by intro XF s Y H x v vl vu lo hi sl Q I rx hs pl pu h;obtain⟨a,xs,rfl,hx,q⟩:=h;cases rx;obtain⟨its,r,ht,hz⟩:=I.list hx;have XN:=r.length;refine⟨"list",_,lO.lookup,ht.isList.typeIs,?_⟩;refine wpAny_getItem_list_slice ht.isList hs pl pu .none (by simp) ?_ (by rw[dE]<;>omega);rw[Dy,<-XN];refine⟨.ref s.heap.objs.size,_,I.laid (t':=s.toks) (o:=.lst (BN xs lo hi)) (λb ob q=>dv _ q) (dC _) ?_,Z',q _ (I.nB.fresh (dC _))⟩;exact⟨eD (A0 xs lo hi) hz,_,0,(r.drop (HT.tO xs.length 0 lo)).take (HT.tO xs.length xs.length hi - HT.tO xs.length 0 lo),dP _ Z'⟩
def yR:V->Bool
 | .nz=>pc
 | .bl _=>pc
 | .int _=>pc
 | .str _=>pc
 | _=>lf
def OL:V->V->Bool
 | .nz,.nz=>pc
 | .bl a,.bl b=>a==b
 | .bl a,.int b=>(if a then 1 else 0)==b
 | .int a,.bl b=>a==(if b then 1 else 0)
 | .int a,.int b=>a==b
 | .str a,.str b=>a==b
 | _,_=>lf
def SB(ry:ra y u)(rx:ra x v)(fy:yR y=pc)(fx:yR x=pc):SeqAt.EqAt A s u v (OL y x):=by
 cases y with
 | nz=>
  cases ry;cases x with
  | nz=>cases rx;exact SeqAt.EqAt.same _
  | bl b=>cases rx;exact SeqAt.EqAt.none_bool b
  | int b=>obtain⟨t,rfl⟩:=rx;exact SeqAt.EqAt.none_int b t
  | str b=>obtain⟨t,rfl⟩:=rx;exact SeqAt.EqAt.none_str b t
  | _=>exact absurd (show lf=pc from fx) dF
 | bl a=>
  cases ry;cases x with
  | nz=>cases rx;exact SeqAt.EqAt.bool_none a
  | bl b=>cases rx;exact SeqAt.EqAt.bool_bool a b
  | int b=>obtain⟨t,rfl⟩:=rx;exact SeqAt.EqAt.bool_int a b t
  | str b=>obtain⟨t,rfl⟩:=rx;exact SeqAt.EqAt.bool_str a b t
  | _=>exact absurd (show lf=pc from fx) dF
 | int a=>
  obtain⟨t',rfl⟩:=ry;cases x with
  | nz=>cases rx;exact SeqAt.EqAt.int_none a t'
  | bl b=>cases rx;exact SeqAt.EqAt.int_bool a t' b
  | int b=>obtain⟨t,rfl⟩:=rx;exact SeqAt.EqAt.int_int a t' b t
  | str b=>obtain⟨t,rfl⟩:=rx;exact lj a t' b t
  | _=>exact absurd (show lf=pc from fx) dF
 | str a=>
  obtain⟨t',rfl⟩:=ry;cases x with
  | nz=>cases rx;exact SeqAt.EqAt.str_none a t'
  | bl b=>cases rx;exact SeqAt.EqAt.str_bool a t' b
  | int b=>obtain⟨t,rfl⟩:=rx;exact lq a t' b t
  | str b=>obtain⟨t,rfl⟩:=rx;exact SeqAt.EqAt.str_str a t' b t
  | _=>exact absurd (show lf=pc from fx) dF
 | _=>exact absurd (show lf=pc from fy) dF
def ED(x:V)(u:Vl):Bool:=match u with
 | .none=>OL .nz x
 | .bool b=>OL (.bl b) x
 | .int i _=>OL (.int i) x
 | .str z _=>OL (.str z) x
 | _=>lf
def Ic(r:ra y u)(f:yR y=pc):ED x u=OL y x:=by
 cases y with
 | nz=>cases r;rfl
 | bl b=>cases r;rfl
 | int i=>obtain⟨t,rfl⟩:=r;rfl
 | str z=>obtain⟨t,rfl⟩:=r;rfl
 | _=>exact absurd (show lf=pc from f) dF
theorem zX:∀{xs:T0 V} {us:T0 Vl},qO xs us->xs.all yR=pc->us.any (ED x)=xs.any λy=>OL y x
 | _,_,.nil,_=>rfl
 | y::xs,u::us,.cons r t,f=>by rw[fN,d6]at f;rw[fU,fU,Ic r f.1,zX t f.2]
theorem wJ(rx:ra x v)(fx:yR x=pc):∀{xs:T0 V} {us:T0 Vl},qO xs us->xs.all yR=pc->∀u∈us,SeqAt.EqAt A s u v (ED x u)
 | _,_,.nil,_=>λu hu=>by cases hu
 | y::xs,u::us,.cons r t,f=>λu' hu=>by
  rw[fN,d6]at f;rcases dA.mp hu with rfl|hu
  .rw[Ic r f.1];exact SB r rx f.1 fx
  .exact wJ rx fx t f.2 u' hu
def inV(x:V)(xs:T0 V):Bool:=xs.any λy=>OL y x
def WO(K:qL)(Zj:Bool):R2:=λx y H Q=>∃p xs,y=.ref p/\(zb K H p xs\/vE K H p xs)/\yR x=pc/\xs.all yR=pc/\Q (.bl (if Zj then !inV x xs else inV x xs)) H
def K1:xY X (Op .In) (WO X.K lf):=by
 intro XF s Y H x y v u Q I rx ry h;obtain⟨p,xs,rfl,hq,fx,fs,q⟩:=h;cases ry;rcases hq with hq|hq
 .obtain⟨its,r,pl,hz⟩:=I.list hq;refine SeqAt.in_listAt (ED x) pl.isList (λw hw=>wJ rx fx r fs w (by simpa using hw)) ⟨.bl _,H,I,Z',?_⟩;rw[show its.toArray.any (ED x)=its.any (ED x)by simp,zX r fs];exact q
 .obtain⟨its,r,pl,hz⟩:=I.tuple hq;refine SeqAt.in_tupleAt (ED x) pl (λw hw=>wJ rx fx r fs w (by simpa using hw)) ⟨.bl _,H,I,Z',?_⟩;rw[show its.toArray.any (ED x)=its.any (ED x)by simp,zX r fs];exact q
def E6:xY X (Op .NotIn) (WO X.K pc):=by
 intro XF s Y H x y v u Q I rx ry h;obtain⟨p,xs,rfl,hq,fx,fs,q⟩:=h;cases ry;rcases hq with hq|hq
 .obtain⟨its,r,pl,hz⟩:=I.list hq;refine SeqAt.notIn_listAt (ED x) pl.isList (λw hw=>wJ rx fx r fs w (by simpa using hw)) ⟨.bl _,H,I,Z',?_⟩;rw[show its.toArray.any (ED x)=its.any (ED x)by simp,zX r fs];exact q
 .obtain⟨its,r,pl,hz⟩:=I.tuple hq;refine SeqAt.notIn_tupleAt (ED x) pl (λw hw=>wJ rx fx r fs w (by simpa using hw)) ⟨.bl _,H,I,Z',?_⟩;rw[show its.toArray.any (ED x)=its.any (ED x)by simp,zX r fs];exact q
def EH:xY X (Op .NotIn) (λx y H Q=>∃i j,x=.str i/\y=.str j/\Q (.bl (!(!(Builtin.Str.occurrences j i 0 j.length 1).isEmpty))) H):=by intro XF s Y H x y v u Q I rx ry h;obtain⟨i,j,rfl,rfl,q⟩:=h;obtain⟨t,rfl⟩:=rx;obtain⟨t',rfl⟩:=ry;exact notIn_str ⟨.bl _,H,I,Z',q⟩
def xw:yP X (.builtin "len") (λxs H Q=>∃p ys,xs=[.ref p]/\(zb X.K H p ys\/vE X.K H p ys)/\Q (.int ys.length) H):=by
 intro XF s Y H xs us Q I r h;obtain⟨p,ys,rfl,hq,q⟩:=h;obtain⟨u,rfl,rx⟩:=xM r;cases rx;have hn:=zi;rcases hq with hq|hq
 .obtain⟨its,r',pl,hz⟩:=I.list hq;have XN:=r'.length;exact Calls.call_len_list pl.isList (by simp only[dE]<;>omega) ⟨.int ys.length,H,I.tok _,⟨s.toks+1,by rw[dE,XN]⟩,q⟩
 .obtain⟨its,r',pl,hz⟩:=I.tuple hq;have XN:=r'.length;exact len_tuple pl (by simp only[dE]<;>omega) ⟨.int ys.length,H,I.tok _,⟨s.toks+1,by rw[dE,XN]⟩,q⟩
def FQ:yP X (.builtin "len") (λxs H Q=>∃z,xs=[.str z]/\z.length<=pi/\Q (.int z.length) H):=by intro XF s Y H xs us Q I r h;obtain⟨z,rfl,hz,q⟩:=h;obtain⟨u,rfl,t,rfl⟩:=xM r;have hn:=zi;exact len_str (by omega) ⟨.int z.length,H,I.tok _,⟨_,Z'⟩,q⟩
def F7:yP X (.type "list") (λxs H Q=>∃p ys,xs=[.ref p]/\(zb X.K H p ys\/vE X.K H p ys)/\∀l,H l=Db->Q (.ref l) (upd H l (.lst ys))):=by
 intro XF s Y H xs us Q I r h;obtain⟨p,ys,rfl,hq,q⟩:=h;obtain⟨u,rfl,rx⟩:=xM r;cases rx;have XJ:∀(its:T0 Vl),qO ys its->ys.length<=pi->∀(h':No) (c':Nat),(∀b o',s.heap.get? b=Fa o'->h'.get? b=Fa o')->
   h'.get? s.heap.objs.size=Fa {cls:=.type "list",dict:=none,data:=.seq its.toArray c',slots:=#[]}->EP X XF Y Q (.ref s.heap.objs.size) {s with heap:=h'}:=λits r' hz h' c' kp e=>
  ⟨.ref s.heap.objs.size,_,I.laid (t':=s.toks) kp (dC _) (show sF X.prog X.w _ h' _ (.lst ys)from⟨hz,its,c',r',e⟩),Z',q _ (I.nB.fresh (dC _))⟩
 rcases hq with hq|hq
 .obtain⟨its,r',pl,hz⟩:=I.list hq;have XN:=r'.length;obtain⟨o,ho,hc,n,hd⟩:=pl.isList;exact call_list_seq p (.inl Z') ho hc hd (λh' c' kp e=>XJ its r' hz h' c' kp e) (by simp only[dE]<;>omega)
 .obtain⟨its,r',pl,hz⟩:=I.tuple hq;have XN:=r'.length;obtain⟨o,ho,hc,n,hd⟩:=pl;exact call_list_seq p (.inr Z') ho hc hd (λh' c' kp e=>XJ its r' hz h' c' kp e) (by simp only[dE]<;>omega)
def wD:yP X (.type "tuple") (λxs H Q=>∃p ys,xs=[.ref p]/\((zb X.K H p ys/\∀l,H l=Db->Q (.ref l) (upd H l (.tup ys)))\/(vE X.K H p ys/\Q (.ref p) H))):=by
 intro XF s Y H xs us Q I r h;obtain⟨p,ys,rfl,h⟩:=h;obtain⟨u,rfl,rx⟩:=xM r;cases rx;rcases h with⟨hq,q⟩|⟨hq,q⟩
 .obtain⟨its,r',pl,hz⟩:=I.list hq;have XN:=r'.length;refine call_tuple_list pl.isList (λh' kp=>?_) (by simp only[dE]<;>omega);have I1:Inv X XF Y H {s with heap:=h'}:=I.kept (t':=s.toks) kp;have I2:Inv X XF Y (upd H h'.objs.size (.tup ys)) {s with heap:=h'.push {cls:=.type "tuple",data:=.seq its.toArray}}:=
   I1.laid (t':=s.toks) (λb o e=>dv _ e) (dC _) (show sF X.prog X.w _ _ _ (.tup ys)from⟨hz,its,r',EK.new _ _⟩)
  exact⟨.ref h'.objs.size,_,I2,Z',q _ (I1.nB.fresh (dC _))⟩
 .obtain⟨its,r',pl,hz⟩:=I.tuple hq;exact call_tuple_same pl ⟨.ref p,H,I,Z',q⟩
def Wl(K:qL)(T:String)(x:V)(H:Hp):Prop:=match x with
 | .str _=>T="str"
 | .int _=>T="int"
 | .ref p=>(T="list"/\∃xs,zb K H p xs)\/(T="tuple"/\∃o,K.lookup p=Fa o/\o.cls=.type "tuple"/\o.dict=Db)\/
   (T="dict"/\((∃kvs,H p=Fa (.dK kvs))\/∃kvs,H p=Fa (.dT kvs)))\/(T="set"/\∃S n,H p=Fa (.set S n))
 | _=>False
def NO(I:Inv X XF Y H s)(r:ra x v)(ty:Wl X.K T x H):
  s.TypeIs v T/\∀a,v=.ref a->∃ob,s.heap.get? a=Fa ob/\ob.dict=Db:=by
 cases x with
 | str z=>obtain⟨t,rfl⟩:=r;cases(show T="str" from ty);exact⟨typeIs_str s z t,λ_ e=>nomatch e⟩
 | int i=>obtain⟨t,rfl⟩:=r;cases(show T="int" from ty);exact⟨mE s i t,λ_ e=>nomatch e⟩
 | ref p=>
  cases r;rcases ty with⟨rfl,xs,hq⟩|⟨rfl,o,hk,hc,hd⟩|⟨rfl,hk⟩|⟨rfl,S,n,hk⟩
  .obtain⟨its,_,pl,_⟩:=I.list hq;refine⟨pl.isList.typeIs,λa e=>?_⟩;cases e;obtain⟨o,n,e,c,hd,_⟩:=pl;exact⟨o,e,hd⟩
  .refine⟨⟨o,I.nO p o hk,hc⟩,λa e=>?_⟩;cases e;exact⟨o,I.nO _ o hk,hd⟩
  .have z:∃o,s.heap.get? p=Fa o/\o.ExactDict:=by
    rcases hk with⟨kvs,hk⟩|⟨kvs,hk⟩
    .obtain⟨_,_,_,_,o,_,_,e,ex,_⟩:=I.nB p _ hk;exact⟨o,e,ex⟩
    .obtain⟨_,_,_,_,o,_,_,e,ex,_⟩:=I.nB p _ hk;exact⟨o,e,ex⟩
   obtain⟨o,e,ex⟩:=z;refine⟨⟨o,e,ex.1⟩,λa e2=>?_⟩;cases e2;exact⟨o,e,ex.2.1⟩
  .obtain⟨o,_,_,_,e,ex,_⟩:=I.nB p _ hk;refine⟨⟨o,e,ex.1⟩,λa e2=>?_⟩;cases e2;exact⟨o,e,ex.2.1⟩
 | _=>exact False.elim ty
def Xt(K:qL)(T:String)(r:V->T0 V->Hp->VK->Prop)(to:TE)(t:TA):TE:=λY H Q=>to Y H λx H1=>Wl K T x H1/\t Y H1 λxs H2=>r x xs H2 Q
def Va(pa:PlainAttrs T)(slot:Slot T name id)(hty:typeOf (.builtin id)=pure (.type "method_descriptor"))(hm:Xl X id r)(ho:PE X o to)(ha:PA X (e::es) t) (XX:Ps o name X.env (wp o X.env)=wp o X.env:=by rfl)
  (Y1:((sB XO (Tl (e::es) X.env)).all (λx=>!x.1)&&(xL XO (Rs [] X.env)).all (λx=>x.1.isSome)
   &&decide ((e::es).length+([]:T0 XXf).length+(if ([]:T0 XXf).isEmpty then 0 else 1)<30))=pc:=by rfl)
  (X8:(XI.endLine==XO.line)=pc:=by rfl) (hs:Bx X e es:=by rfl) (X2:Dh X XO es:=by rfl):
  PE X (.Call (.Attribute o name XI) (e::es) [] XO) (Xt X.K T r to t):=by
 intro XF s Y H Q I h;refine wpAny_Call_method_late XX Y1 X8 Z' (sX (ho XF s Y H _ I h) λv s1 zz=>?_);obtain⟨x,H1,I1,r1,ty,q1⟩:=zz;obtain⟨h1,h2⟩:=NO I1 r1 ty;refine⟨T,id,pa,slot,hty,h1,h2,?_⟩;have hA:=ha XO XF s1 Y H1 _ I1 q1;rw[hs]at hA ⊢;refine kt (by show(lf||(sB XO (Tl es X.env)).any (·.1))=lf;rw[X2]<;>rfl) (Calls.evalArgs_plain ?_);exact sX hA λus s2 zz=>x5 zz λvs H2 I2 r2 q2=>hm XF s2 Y H2 x vs v us Q I2 r1 r2 q2
end
def Xv(X:Cx)(id:String)(r:V->T0 V->Hp->VK->Prop):Prop:=
 ∀(XF:QQY) (s:Sd) (Y:St) (H:Hp) (x:V) (xs:T0 V) (v:Vl) (us:T0 Vl) (Q:VK),Inv X XF Y H s->ra x v->qO xs us->r x xs H Q->
  Ch (Tk X.prog X.w) X.A (call (.builtin id) (v::us)) (EP X XF Y Q) X.xe s
def qO.one:∀{x:V} {us:T0 Vl},qO [x] us->∃u,us=[u]/\ra x u
 | _,_,.cons r .nil=>⟨_,Z',r⟩
theorem qO.rep(h:qO xs us):∀k:Nat,qO (List.replicate k xs).flatten (List.replicate k us).flatten
 | 0=>.nil
 | k+1=>by rw[eO,eO,fX,fX];exact qO.append h (qO.rep h k)
theorem D0(its:T0 Vl):∀(k:Nat) (acc:T0 Vl),List.foldl (λx1 x2=>x1++x2) acc.toArray (List.replicate k its.toArray)=(acc++(List.replicate k its).flatten).toArray
 | 0,acc=>by simp
 | k+1,acc=>by
  have e:acc.toArray++its.toArray=(acc++its).toArray:=by simp
  have e2:(acc++its)++(List.replicate k its).flatten=acc++(List.replicate (k+1) its).flatten:=by rw[eO,fX,fz]
  rw[<-e2,<-D0 its k (acc++its),<-e,eO,gi]
variable {XF:T0 (Uf × Obj)}{Y:St}{H:Hp}{s:Sd}{l:Uf}{xs ys zs:T0 V}
section
variable {b:Uf}
def Inv.lset{its its':T0 Vl}{n:Nat}{f:Array Vl->Array Vl}{t':Nat}(I:Inv X XF Y H s)(hH:H l=Fa (.lst xs)) (e:s.heap.get? l=Fa {cls:=.type "list",data:=.seq its.toArray n}) (hf:f its.toArray=its'.toArray) (hv:qO ys its') (hz:ys.length<=pi):
  Inv X XF Y (upd H l (.lst ys)) {s with heap:=s.heap.update l (Obj.mapSeq f),toks:=t'}:=by
 have q:=PySem.IsL.update e f;rw[hf]at q;refine I.write (x:=l) (e:=l) (by rw[hH];exact trivial) (.inl Z') (λb' u hb hu=>(gu s.heap (Obj.mapSeq f) (dW hb)).trans hu) ⟨_,q⟩ ?_;exact⟨hz,its',_,hv,q⟩
def Inv.pC{t':Nat}(I:Inv X XF Y H s)(hv:qO ys its)(hz:ys.length<=pi):
  Inv X XF Y (upd H s.heap.objs.size (.lst ys)) {s with heap:=s.heap.push {cls:=.type "list",data:=.seq its.toArray},toks:=t'}:=
 I.laid (λ_ _ q=>dv _ q) (dC _) ⟨hz,its,0,hv,dP _ Z'⟩
def Inv.fresh(I:Inv X XF Y H s):H s.heap.objs.size=Db:=I.nB.fresh (dC _)
def Inv.pI(I:Inv X XF Y H s)(hH:H l=Fa (.lst xs)):xs.length<=pi/\∃(its:T0 Vl) (n:Nat),qO xs its/\xs.length=its.length/\s.heap.get? l=Fa {cls:=.type "list",data:=.seq its.toArray n}:=by obtain⟨z,its,n,r,e⟩:=I.nB l _ hH;exact⟨z,its,n,r,r.length,e⟩
def MZ{n:Nat}(h:n<=pi):Builtin.List.listTooLong n=lf:=by unfold Builtin.List.listTooLong;exact eY (by omega)
end
def QK:V->T0 V->Hp->VK->Prop:=λx vs H Q=>∃l xs y,x=.ref l/\vs=[y]/\H l=Fa (.lst xs)/\xs.length<pi/\Q .nz (upd H l (.lst (xs++[y])))
def Lh:Xv X "list.append" QK:=by intro XF s Y H x vs v us Q I rx rv h;obtain⟨l,xs,y,rfl,rfl,hH,hz,q⟩:=h;cases rx;obtain⟨u,rfl,ru⟩:=rv.one;obtain⟨z,its,n,r,hl,e⟩:=I.pI hH;refine jJ F.slot_list_append ⟨_,e,Z'⟩ F.entry_list_append (F.args_list_append_2 _ _) (PySem.list_append l its.toArray n u (by rw[dE];omega)) ⟨e,?_⟩;refine⟨.nz,_,I.lset (its':=its++[u]) hH e (by simp) (r.append (.cons ru .nil)) ?_,Z',q⟩;rw[dg,dX];omega
def WT:R2:=λx y H Q=>∃l k xs,x=.ref l/\y=.int k/\H l=Fa (.lst xs)/\-(2 ^ 63)<=k/\k<2 ^ 63/\xs.length*k.toNat<=pi/\
 ∀p,H p=Db->Q (.ref p) (upd H p (.lst (List.replicate k.toNat xs).flatten))
def P'{α:Type}(xs:List α)(k:Nat):(List.replicate k xs).flatten.length=k*xs.length:=by
 induction k with
 | zero=>simp
 | succ k ih=>rw[eO,fX,dg,ih,mS,Nat.add_comm]
def SG:xY X (wP .Mult) WT:=by
 intro XF s Y H x y v u Q I rx ry h;obtain⟨l,k,xs,rfl,rfl,hH,h1,h2,hz,q⟩:=h;cases rx;obtain⟨t,rfl⟩:=ry;obtain⟨z,its,n,r,hl,e⟩:=I.pI hH;have XN:its.toArray.size*k.toNat<=pi:=by rw[dE,<-hl];exact hz
 have hcap:¬its.toArray.size*k.toNat>(2 ^ 63 - 1) / 8:=by
  have:(pi:Nat)<=(2 ^ 63 - 1) / 8:=by decide
  omega
 have Yj:¬(!Builtin.List.listFitsIndex k)=pc:=by rw[fitsIndex_both h1 h2];exact dF
 have hlong:¬Builtin.List.listTooLong (its.toArray.size*k.toNat)=pc:=by rw[MZ XN];exact dF
 have Zr:List.foldl (λx1 x2=>x1++x2) #[] (List.replicate (if its.toArray.isEmpty=pc then 0 else k.toNat) its.toArray)=(List.replicate k.toNat its).flatten.toArray:=by
  have f0:∀m:Nat,List.foldl (λx1 x2=>x1++x2) #[] (List.replicate m its.toArray)=(List.replicate m its).flatten.toArray:=λm=>by have:=D0 its m [];rw[eC]at this;exact this
  rw[f0];cases its with
  | nil=>simp
  | cons a r'=>rw[dq (by simp)]
 refine wpAny_binaryOp_repeat_ref (T:="list") (U:="int") (by decide) ⟨_,e,Z'⟩ (λs'=>mE s' k t) noFill_list_mul F.fills_int_mul mF repeat_list F.slot_int_index.lookup
  (jJ mF (mE s k t) F.entry_int_rmul (F.args_int_rmul_2 _ _) (int___rmul___int_list k t l its.toArray n)
   ⟨e,Z',⟨_,e,Z'⟩,jJ F.slot_list_mul ⟨_,e,Z'⟩ F.entry_list_mul (F.args_list_mul_2 _ _) (AutoListH.list___mul___list_int_3 l its.toArray n k t Yj hcap hlong) ⟨e,?_⟩⟩)
 rw[Zr];exact⟨.ref _,_,I.pC (t':=s.toks) (r.rep k.toNat) (by rw[P',Nat.mul_comm];exact hz),Z',q _ I.fresh⟩
variable {prog:Pg}{w:Wo}{A:Ar}{E:QQX}
end L2
namespace Att
open PySem PySem.W PySem.Calls PyProof.Rows
def Bo:∀(ns:T0 Int) (vs:T0 Vl),WellAll P h vs (ns.map WData.int)->IntsAre vs ns:=by
 intro ns;induction ns with
 | nil=>intro vs w;rw[iY]at w;cases w;exact .nil
 | cons n ns ih=>
  intro vs w;rw[eh]at w;cases w with
  | cons a b=>cases a;exact .cons _ _ (ih _ b)
def Ku{l:OpenLaw}{n:Nat}(hn:l.most=Fa n){P:Params}{h:No}{args:T0 WData}{vals:T0 Vl} (ZR:l.row.toRowW.claim.pre args=pc) (hwl:WellAll P h vals args):
  ∃a vs ns,vals=[Value.ref a]/\args=[WData.list (ns.map WData.int)]/\h.get? a=Fa {cls:=.type "list",data:=.seq vs.toArray}/\IntsAre vs ns/\ns.length<=n:=by
 have hsh:WShape.hasAll [] args [.list .int]=pc:=(pre_splitW ZR).1;have hc:l.pre.holds [] {args:=args}=pc:=(pre_splitW ZR).2;obtain⟨d,r,rfl,h1,h2⟩:=hasAllW_cons hsh;obtain rfl:=hasAllW_nil h2;obtain⟨xs,rfl,h3⟩:=hasW_list h1;obtain⟨ns,rfl⟩:=items_int h3;have XN:ns.length<=n:=by
  unfold OpenLaw.pre at hc;have h4:(WTm.not (.lt (.lit (.int (n:Int))) (.len (.arg 0)))).holds [] {args:=[.list (ns.map .int)]}=pc:=by have h4:=(holds_andW hc).1;rw[hn]at h4;exact h4
  have h5:=condW_of h4 (w_not (w_lt w_lit (w_len_list (w_arg Z'))));rw[c9]at h5;refine jU λq=>?_;have q':(n:Int)<((ns.length:Nat):Int):=by omega
  first
   | (rw[d9 q']at h5;exact absurd h5 (by decide))
   | (simp at h5;omega)
 cases hwl with
 | cons w1 w2=>
  cases w2;cases w1 with
  | list ho Yp=>exact⟨_,_,ns,Z',Z',ho,Bo ns _ Yp,XN⟩
def KZ(l:OpenLaw)(args:T0 WData):l.row.toRowW.claim.post args (.bool pc) args=pc:=
 postW_of (r:=l.row.toRowW) (X:=(pc==pc))
  (show WShape.has [] (.bool pc) .bool=pc by first|rfl|decide|simp[WShape.has,WShape.arms,WShape.armsAll])
  (show(WTm.eq .res (.lit (.bool pc))).value [] {args:=args,res:=some (.bool pc),after:=args}=Fa (.bool (pc==pc))from w_eq_bool (w_res Z') w_lit) Z'
def attach_call{l:OpenLaw}{n:Nat}{YP:Wo->No->Prop}{d:DefRec} (hn:l.most=Fa n) (hdf:d.params.defaults=[]) (call:∀(w:Wo) (s₀ s₁:Sd) (mg mb:QQZ) (fa:Uf) (o:Obj) (pm cd Ym:Vl) (a:Uf) (vs:T0 Vl) (ns:T0 Int),Ground q Yx [] XP w s₀ mg mb s₁.heap->YP w s₁.heap->
   s₁.heap.get? fa=Fa o->o.data=.func (docDef d.name d.params d.body d.scope pm cd Ym)->s₁.heap.CodeRec cd d.name->mg d.name=Fa (.ref fa)->
   s₁.heap.get? a=Fa {cls:=.type "list",data:=.seq vs.toArray}->IntsAre vs ns->ns.length<=n->s₁.gens=#[]->
   XXk (Tk l.prog w) callerA (.call (.ref fa) ⟨[.ref a],[]⟩) (λr s'=>r=.ok (.ret (.bool pc))/\OldK s₁.heap s'.heap/\s'.os=s₁.os/\XYb s'.gens) s₁):
  WalkO q Yx XP YP l.row.toRowW d [] (λf vs=>PySem.call f vs):=by
 intro w s₀ s₁ mg mb G Y fa o pm cd Ym dV kV ho hd YJ hD hmg hg args vals as ZR hlay hrd hwl hlo;obtain rfl:dV=.none:=Dflts.none hD hdf;obtain rfl:kV=.none:=Dflts.noKw hD;obtain⟨a,vs,ns,rfl,rfl,hobj,Zs,XN⟩:=Ku hn ZR hwl;refine enter_call (gy (call w s₀ s₁ mg mb fa o pm cd Ym a vs ns G Y ho (fd_plain hd) YJ hmg hobj Zs XN hg) λr s' hq=>?_);obtain⟨rfl,h2,h3,h4⟩:=hq;exact⟨.inl ⟨.bool pc,.bool pc,[],Z',λ_=>rfl,.bool pc,KZ l _,λ_=>⟨List.Pairwise.nil,λ_ hm=>(nomatch hm)⟩⟩,h2,h3,h4⟩
variable {prog:Pg}{w:Wo}{A:Ar}{E:QQX}{s:Sd}{K:Frag}
end Att
namespace L2
theorem En:∀{vs:T0 Vl} {ns:T0 Int},IntsAre vs ns->qO (ns.map V.int) vs
 | _,_,.nil=>.nil
 | _,_,.cons n t h=>.cons ⟨t,Z'⟩ (En h)
def OF(H:Hp):Prop:=∀b,H b=Db\/∃o xs,H b=Fa (.frz o (.lst xs))
def Mo{P:Pg}{w:Wo}{K:qL}{mg mb:QQZ}{CX:LC}{fa a:Uf}{fd:wv}{x:Str}{sp:Sp}{s₁:Sd}{vs:T0 Vl} (KX:K.In s₁.heap) (hns:s₁.heap.Ns xz mg) (hb:s₁.heap.Ns builtinsNs mb) (hbb:∀x:Str,x≠"__name__"->mb x=zn x) (hlim:s₁.heap.NoLimit) (hg:s₁.gens=#[]) (ha:s₁.heap.get? a=Fa {cls:=.type "list",data:=.seq vs.toArray}) (hi:IntsAre vs ns) (hl:ns.length<=pi) (hr:sI k callerA)
  (F:∀base:No,K.In base->base.Ns xz mg->xO P w K mg base CX k fa fd [x] sp) (hbind:∀(s:Sd) (u:Vl),BindsTo s fd ⟨[u],[]⟩ [(x,u)])
  (Zd:∀H:Hp,OF H->zb K H a (ns.map V.int)->sp [.ref a] H (λv _=>v=.bl pc) λ_ _ _=>False)
  (hCX:∀H e s',CX [] H s₁ (λ_ _ _=>False) e s'->False):
  XXk (Tk P w) callerA (.call (.ref fa) ⟨[.ref a],[]⟩) (λr s'=>r=.ok (.ret (.bool pc))/\OldK s₁.heap s'.heap/\s'.os=s₁.os/\XYb s'.gens) s₁:=by
 have rv:=En hi;have lenV:=hi.length;have core:∀H:Hp,OF H->zb K H a (ns.map V.int)->yJ P w H s₁.heap->(∀b,H b≠Db->b=a)->(H a≠Db->K.lookup a=Db)->
   XXk (Tk P w) callerA (.call (.ref fa) ⟨[.ref a],[]⟩) (λr s'=>r=.ok (.ret (.bool pc))/\OldK s₁.heap s'.heap/\s'.os=s₁.os/\XYb s'.gens) s₁:=by
  intro H hO hS nB hA hK;have Y8:∀{b:Uf} {o:Obj},s₁.heap.get? b=Fa o->H b=Db->(F5 s₁.heap H).get? b=Fa o:=λe n=>MP e n;have noA:∀{b:Uf} {o:Obj} {es:Array DictEntry} {ep:Nat},s₁.heap.get? b=Fa o->o.data=.dict es ep->H b=Db:=λ{b o es ep} e d=>by
   cases q:H b with
   | none=>rfl
   | some u=>have e':b=a:=hA b (by rw[q];simp);subst e';rw[ha]at e;cases e;have d':Data.seq vs.toArray _=Data.dict es ep:=d;cases d'
  have nsK:∀{b:Uf} {m:QQZ},s₁.heap.Ns b m->(F5 s₁.heap H).Ns b m:=λ{b m} ⟨o,es,ep,e,d,r⟩=>⟨o,es,ep,Y8 e (noA e d),d,r⟩;have hKb:K.In (F5 s₁.heap H):=λb o e=>Y8 (KX b o e) (by
   cases q:H b with
   | none=>rfl
   | some u=>
    have e':b=a:=hA b (by rw[q];simp);subst e';rw[hK (by rw[q];simp)]at e;cases e)
  have hM:Mod K mg (F5 s₁.heap H):=⟨hKb,nsK hns,⟨mb,nsK hb,hbb⟩,let⟨mc,h1,h2⟩:=hlim;⟨mc,nsK h1,h2⟩⟩;have e0:ID P w K mg (F5 s₁.heap H) callerA [] s₁ H:=⟨Z',hM,λb o e=>PC e,mQ (Lu _ _),trivial,λb hb=>absurd (show b∈([]:QXQ)from hb) (by simp),nB,.of_eq hg⟩;refine gy ((F _ hKb (nsK hns)).run callerA [] s₁ H ⟨[.ref a],[]⟩ [.ref a] [.ref a] _ _ hr e0 (hbind s₁ (.ref a)) (.cons Z' .nil) (Zd H hO hS)) λr s' h=>?_;cases r with
  | error e=>exact(hCX H e s' h).elim
  | ok fl=>
   cases fl with
   | next=>exact False.elim h
   | brk=>exact False.elim h
   | cont=>exact False.elim h
   | ret u=>
    obtain⟨v,H',os,bare,un,hok',r',q⟩:=h;have q':v=.bl pc:=q;subst q';obtain rfl:u=Value.bool pc:=r';refine⟨Z',OldK.of_keep λb o e=>?_,os,bare⟩;cases q:H b with
    | none=>exact un.keep b o e q (by intro z;exact absurd (show b∈([]:QXQ)from z) (by simp)) (by simp)
    | some u=>
     rcases hO b with z|⟨ob,xs,z⟩
     .rw[q]at z;cases z
     .have z2:=un.nU b ob _ z;obtain⟨e1,_⟩:=nB b _ z;obtain⟨e2,_⟩:=hok' b _ z2;rw[e]at e1;cases e1;exact e2
 cases hk:K.lookup a with
 | some o=>have e:=KX a o hk;rw[ha]at e;cases e;refine core (λ_=>Db) (λ_=>.inl Z') (.inr ⟨_,vs.toArray,_,hk,Z',Z',Z',by rw[dE,lenV];exact hl,by simpa using rv⟩) (λb u z=>by have z':(Db:Option HO)=Fa u:=z;cases z') (λb z=>absurd Z' z) λz=>absurd Z' z
 | none=>
  refine core (λb=>if b=a then Fa (.frz {cls:=.type "list",data:=.seq vs.toArray} (.lst (ns.map V.int)))else Db) (λb=>?_) (.inl (.inr ⟨{cls:=.type "list",data:=.seq vs.toArray},dw Z'⟩)) (λb u z=>?_) (λb z=>?_) λ_=>hk
  .by_cases hb:b=a
   .exact .inr ⟨_,_,dw hb⟩
   .exact .inl (dq hb)
  .by_cases hb:b=a
   .have z':=(dw hb).symm.trans z;cases z';subst hb;exact⟨ha,by rw[c9];exact hl,vs,_,rv,ha⟩
   .have z':=(dq hb).symm.trans z;cases z'
  .by_cases hb:b=a
   .exact hb
   .exact absurd (dq hb) z
def QP{l:W.OpenLaw}{n k:Nat}{q:Pg}{Yx:QQQ}{XP:(QQZ)->No->Prop}{YP:Wo->No->Prop}{d:DefRec}{K:Params->qL}{CX:Wo->LC}{sp:Wo->Sp}{x:Str} (hn:l.most=Fa n) (hn2:n<=pi) (hdf:d.params.defaults=[]) (hr:sI k callerA) (hY:∀(w:Wo) (h:No),YP w h->(K w.params).In h) (F:∀(w:Wo) (mg:QQZ) (fa:Uf) (h:No),(K w.params).In h->h.Ns xz mg->mg d.name=Fa (.ref fa)->
   ∃fd:wv,(∀(s:Sd) (u:Vl),BindsTo s fd ⟨[u],[]⟩ [(x,u)])/\
    ∀base:No,(K w.params).In base->base.Ns xz mg->xO l.prog w (K w.params) mg base (CX w) k fa fd [x] (sp w))
  (Zd:∀(w:Wo) (H:Hp) (a:Uf) (ns:T0 Int),ns.length<=n->OF H->zb (K w.params) H a (ns.map V.int)->sp w [.ref a] H (λv _=>v=.bl pc) λ_ _ _=>False)
  (hCX:∀(w:Wo) (H:Hp) (s:Sd) (e:Vl) (s':Sd),CX w [] H s (λ_ _ _=>False) e s'->False):
  W.WalkO q Yx XP YP l.row.toRowW d [] (λf vs=>PySem.call f vs):=by
 refine Att.attach_call hn hdf λw s₀ s₁ mg mb fa o pm cd Ym a vs ns G Y ho hd YJ hmg hobj Zs XN hg=>?_;have KX:=hY w _ Y;obtain⟨fd,hb,hF⟩:=F w mg fa _ KX G.T.g hmg;exact Mo KX G.T.g G.T.b G.T.builtins G.T.nolimit hg hobj Zs (eD XN hn2) hr hF hb (λH hO hS=>Zd w H a ns XN hO hS) λH e s'=>hCX w H s₁ e s'
def QZ(s:wE)(j:Nat):wE:=match s with
 | .ClassDef _ _ _ body _ _ _ _ _ _ _=>body.getD j (.Pass ⟨0,0,0,0⟩)
 | _=>.Pass ⟨0,0,0,0⟩
def uN(s:wE):Arguments:=match s with
 | .FunctionDef _ a _ _ _ _ _ _ _ _=>a
 | _=>{posonlyargs:=[],args:=[],vararg:=none,kwonlyargs:=[],kw_defaults:=[],kwarg:=none,defaults:=[]}
def sE(s:wE):T0 wE:=match s with
 | .FunctionDef _ _ b _ _ _ _ _ _ _=>b
 | _=>[]
def qD(s:wE):XXe:=match s with
 | .FunctionDef _ _ _ _ _ _ sc _ _ _=>sc
 | _=>{kind:=.function,names:=[],isGenerator:=false,isCoroutine:=false}
abbrev OM:LC:=λ_ _ _ _ _ _=>False
abbrev E0:XK:=λ_ _ _=>False
def G6:CW OM X E0:=λ_ _ _ _ _ _ _ h=>h.elim
structure OX(K:qL)(x qual:Str)(st:wE)(f:Uf)(fd:wv):Prop where
 ex:∃(oc:Vl) (od:Option Uf) (kV Ym pm:Vl) (an:Option Uf) (XS ct:Vl) (YE:Array (Option Vl)),
  fd=W.fnOf x qual (uN st) (sE st) (qD st) .none kV Ym pm an XS ct/\K.lookup f=Fa ⟨oc,od,.func fd,YE⟩/\W.codeIn K XS qual=pc
 kp:W.keepIn K (.ref f)=pc
variable {P:Pg}{K:qL}{mg:QQZ}{base:No}
section
variable {w:Wo}
def OX.ok{st:wE}{sp:Sp}(F:OX K x qual st f fd)(S:tL N ps (qD st))(len:∀vs H Q E,sp vs H Q E->vs.length=ps.length) (X7:∀(XS:Vl) (A:Ar) (outer:T0 Env) (s:Sd) (H:Hp) (vs:T0 V) (Q:VK) (E:XK),sI k (A.deeper (dL qual (qD st) s.heap.objs.size f XS))->sp vs H Q E->
   ∃t,BX (vI OM P w K mg base N qual (qD st) f XS A outer s H E).pf (sE st) t/\t {nx:=λ_ H'=>Q .nz H',rt:=Q} (start N vs) H):xO P w K mg base OM (k+1) f fd ps sp:=by
 obtain⟨oc,od,kV,Ym,pm,an,XS,ct,YE,rfl,lk,YJ⟩:=F.ex;refine Mz lk YJ S len λA outer s H vs Q E hr Zd=>?_;obtain⟨t,h,q⟩:=X7 XS A outer s H vs Q E hr Zd;exact⟨t,h.pf,q⟩
def OX.binds{st:wE}{ps:QQQ}(F:OX K x qual st f fd) (h:∀(kV Ym pm:Vl) (an:Option Uf) (XS ct:Vl) (us:T0 Vl),us.length=ps.length->bindArgs (W.fnOf x qual (uN st) (sE st) (qD st) .none kV Ym pm an XS ct) ⟨us,[]⟩=pure (ps.zip us)):vj K fd ps []:=by
 obtain⟨oc,od,kV,Ym,pm,an,XS,ct,YE,rfl,lk,YJ⟩:=F.ex;exact .all (h kV Ym pm an XS ct)
def L'{st:wE}{oc:Vl}{od an:Option Uf}{YE:Array (Option Vl)}{kV Ym pm XS ct:Vl}(l:K.lookup f=Fa ⟨oc,od,.func (W.fnOf x qual (uN st) (sE st) (qD st) .none kV Ym pm an XS ct),YE⟩) (c:W.codeIn K XS qual=pc) (k:W.keepIn K (.ref f)=pc):OX K x qual st f (W.fnOf x qual (uN st) (sE st) (qD st) .none kV Ym pm an XS ct):=⟨⟨oc,od,kV,Ym,pm,an,XS,ct,YE,Z',l,c⟩,k⟩
end
variable {X:Cx}
def pv(i:Nat){x:Str}{pos:Pos}(hN:X.N[i]?=Fa x:=by rfl)(hv:SK X.env.scope x:=by first|exact Or.inl Z'|exact Or.inr (Or.inl Z')|exact Or.inr (Or.inr Z'))(hd:yW x:=by decide)
  (YJ:(x==("__classdict__":Str))=lf:=by decide):PE X (.Name x pos) (E4 i):=Mj hN hv hd YJ
def An{A B:Prop}(h:B):if lf=pc then A else B:=by rw[dq dF];exact h
def IS{A B:Prop}(h:A):if pc=pc then A else B:=by rw[dw Z'];exact h
def qW{c A B:Prop}[Decidable c](h1:c->A)(h2:¬c->B):if c then A else B:=by
 by_cases h:c
 .rw[dw h];exact h1 h
 .rw[dq h];exact h2 h
def QF(H H':Hp):Prop:=∀b o,H b=Fa o->H' b=Fa o
def QF.trans(a:QF H H1)(b:QF H1 H2):QF H H2:=λc o h=>b c o (a c o h)
section
variable {κ:Type}[DecidableEq κ]
def xi(kvs:T0 (κ×V))(k:κ):Option V:=(kvs.find? λkv=>decide (kv.1=k)).map (·.2)
def zg(kvs:T0 (κ×V))(k:κ)(v:V):T0 (κ×V):=
 if (kvs.any λkv=>decide (kv.1=k))=pc then kvs.map (λkv=>if kv.1=k then(kv.1,v)else kv)else kvs++[(k,v)]
def C5{p:κ×V}{r:T0 (κ×V)}{k:κ}(e:p.1=k):xi (p::r) k=Fa p.2:=by simp[xi,fQ,e]
def BY{p:κ×V}{r:T0 (κ×V)}{k:κ}(e:¬p.1=k):xi (p::r) k=xi r k:=by simp[xi,fQ,e]
theorem GF(k:κ):∀kvs:T0 (κ×V),(kvs.any λkv=>decide (kv.1=k))=(xi kvs k).isSome
 | []=>rfl
 | p::r=>by
  rw[fU];by_cases e:p.1=k
  .simp only[C5 e,d9 e,il,Option.isSome_some]
  .rw[BY e,eY e,fO];exact GF k r
def AS(kvs:T0 (κ×V))(k:κ)(v:V):(zg kvs k v).length<=kvs.length+1:=by
 unfold zg;split
 .rw[c9];omega
 .rw[dg,eE,dS];omega
def yM.nW(r:yM o u):o.isSome=u.isSome:=by
 cases o with
 | none=>cases u with
  | none=>rfl
  | some _=>exact(show False from r).elim
 | some _=>cases u with
  | none=>exact(show False from r).elim
  | some _=>rfl
def KV.val(r:KV kvs vs)(k:κ):yM (xi kvs k) (valueAt vs k):=by
 unfold KV at r;induction r with
 | nil=>exact True.intro
 | @cons p q ps qs h t ih=>
  obtain⟨h1,h2⟩:=h;by_cases e:p.1=k
  .have e':q.1=k:=h1.symm.trans e;have b:valueAt (q::qs) k=Fa q.2:=by simp[valueAt,fQ,e']
   rw[C5 e,b];exact h2
  .have e':¬q.1=k:=λz=>e (h1.trans z);have b:valueAt (q::qs) k=valueAt qs k:=by simp[valueAt,fQ,e']
   rw[BY e,b];exact ih
def KV.any(r:KV kvs vs)(k:κ):(kvs.any λkv=>decide (kv.1=k))=vs.any λkv=>decide (kv.1=k):=by
 unfold KV at r;induction r with
 | nil=>rfl
 | cons h t ih=>rw[fU,fU,ih,h.1]
def KV.oY(r:KV kvs vs)(k:κ){y:V}{u:Vl}(ry:ra y u):
  KV (kvs.map λkv=>if kv.1=k then(kv.1,y)else kv) (vs.map λkv=>if kv.1=k then(kv.1,u)else kv):=by
 unfold KV at r ⊢;induction r with
 | nil=>exact .nil
 | @cons p q ps qs h t ih=>
  rw[eh,eh];refine .cons ?_ ih;obtain⟨h1,h2⟩:=h;by_cases e:p.1=k
  .rw[dw e,dw (h1.symm.trans e)];exact⟨h1,ry⟩
  .rw[dq e,dq (λz=>e (h1.trans z))];exact⟨h1,h2⟩
def KV.put(r:KV kvs vs)(k:κ){y:V}{u:Vl}(ry:ra y u):KV (zg kvs k y) (stored vs k u):=by
 unfold zg stored;rw[r.any k];by_cases e:(vs.any λkv=>decide (kv.1=k))=pc
 .rw[dw e,dw e];exact r.oY k ry
 .rw[dq e,dq e];exact m7 r ⟨Z',ry⟩
def KV.length(r:KV kvs vs):kvs.length=vs.length:=jy r
end
def Hm(r:ra (kV k) u):(rQ P w).is k u=pc:=by
 cases k with
 | inl i=>obtain⟨t,e⟩:=(show ∃t,u=Value.int i t from r);subst e;exact Ht P w i t
 | inr x=>obtain⟨t,e⟩:=(show ∃t,u=Value.str x t from r);subst e;exact AW P w x t
theorem D7:∀{ks:List rH} {us:T0 Vl},qO (ks.map kV) us->ItemsAre (rQ P w) ks us
 | [],_,r=>by rw[iY]at r;cases r;exact .nil
 | k::ks,_,r=>by
  rw[eh]at r;cases r with
  | cons h t=>exact .cons (Hm h) (D7 t)
abbrev KT(H:Hp):T0 (List rH×V)->T0 (List rH×Uf×Vl)->Prop:=Paired λp q=>p.1=q.1/\H q.2.1=Fa (.tup (p.1.map kV))/\ra p.2 q.2.2
def KT.val(r:KT H kvs xs)(k:List rH):yM (xi kvs k) ((atKey xs k).map (·.2)):=by
 induction r with
 | nil=>exact True.intro
 | @cons p q ps qs h t ih=>
  obtain⟨h1,_,h2⟩:=h;by_cases e:p.1=k
  .have e':q.1=k:=h1.symm.trans e;have b:atKey (q::qs) k=Fa q.2:=by simp[atKey,fQ,e']
   rw[C5 e,b];exact h2
  .have e':¬q.1=k:=λz=>e (h1.trans z);have b:atKey (q::qs) k=atKey qs k:=by simp[atKey,fQ,e']
   rw[BY e,b];exact ih
def KT.oY(r:KT H kvs xs)(k:List rH){y:V}{u:Vl}(ry:ra y u):
  KT H (kvs.map λkv=>if kv.1=k then(kv.1,y)else kv) (xs.map (putAt k u)):=by
 induction r with
 | nil=>exact .nil
 | @cons p q ps qs h t ih=>
  rw[eh,eh];refine .cons ?_ ih;obtain⟨h1,h2,h3⟩:=h;unfold putAt;by_cases e:p.1=k
  .rw[dw e,dw (h1.symm.trans e)];exact⟨h1,h2,ry⟩
  .rw[dq e,dq (λz=>e (h1.trans z))];exact⟨h1,h2,h3⟩
def KT.put(r:KT H kvs xs)(k:List rH){b:Uf}{y:V}{u:Vl}(hb:H b=Fa (.tup (k.map kV)))(ry:ra y u):
  KT H (zg kvs k y) (storedH xs k b u):=by
 have e:(kvs.any λkv=>decide (kv.1=k))=(atKey xs k).isSome:=by rw[GF,(r.val k).nW,jE]
 unfold zg storedH;rw[e];by_cases q:(atKey xs k).isSome=pc
 .rw[dw q,dw q];exact r.oY k ry
 .rw[dq q,dq q];exact m7 r ⟨Z',hb,ry⟩
def KT.keeps{H H':Hp}(r:KT H kvs xs)(ht:∀b ys,H b=Fa (.tup ys)->H' b=Fa (.tup ys)):KT H' kvs xs:=
 Paired.oX r λ_ _ z=>⟨z.1,ht _ _ z.2.1,z.2.2⟩
variable {H:Hp}{h:No}{a:Uf}
section
variable {w:Wo}
def Ri(ok:yJ P w H h)(e:Rd H a u):sF P w H h a u:=e.ok ok
def Ka{kvs:T0 (rH×V)}(ok:yJ P w H h)(e:Rd H a (.dK kvs)):kvs.length<=pi/\(a==XV)=lf/\∃vs,KV kvs vs/\h.DictOf (rQ P w) a vs:=
 show sF P w H h a (.dK kvs)from Ri ok e
def VD{kvs:T0 (rH×V)}(ok:yJ P w H h)(e:H a=Fa (.dK kvs)):kvs.length<=pi/\(a==XV)=lf/\∃vs,KV kvs vs/\h.DictOf (rQ P w) a vs:=Ka ok (.inl e)
def FT{ks:List rH}(ok:yJ P w H h)(e:H a=Fa (.tup (ks.map kV))):(tupleKind (rQ P w)).is h ks a:=by obtain⟨_,its,r,o,h1,h2,⟨n,h3⟩,_⟩:=(show sF P w H h a (.tup (ks.map kV))from ok a _ e);exact⟨o,its.toArray,n,h1,h2,h3,by simpa using D7 r⟩
def Je{kvs:T0 (List rH×V)}(ok:yJ P w H h)(e:Rd H a (.dT kvs)):kvs.length<=pi/\(a==XV)=lf/\
  ∃xs,KT H kvs xs/\h.DictOfH (tupleKind (rQ P w)) a xs:=by
 obtain⟨z,y,xs,r,o,es,ep,h1,h2,h3,h4,h5⟩:=(show sF P w H h a (.dT kvs)from Ri ok e);refine⟨z,y,xs,r,o,es,ep,h1,h2,h3,h4,λx hx=>?_,h5⟩;have all:∀{l:T0 (List rH×V)} {m:T0 (List rH×Uf×Vl)},KT H l m->∀x∈m,(tupleKind (rQ P w)).is h x.1 x.2.1:=by
  intro l m q;induction q with
  | nil=>intro x hx;exact nomatch hx
  | @cons p q ps qs hq t ih=>
   intro x hx;rcases dA.mp hx with e|hx
   .subst e;exact FT ok (by rw[<-hq.1];exact hq.2.1)
   .exact ih x hx
 exact all r x hx
def UK{kvs:T0 (List rH×V)}(ok:yJ P w H h)(e:H a=Fa (.dT kvs)):kvs.length<=pi/\(a==XV)=lf/\
  ∃xs,KT H kvs xs/\h.DictOfH (tupleKind (rQ P w)) a xs:=Je ok (.inl e)
end
def FC(H:Hp)(a:Uf)(y:V)(r:Option V):Prop:=
 (∃kvs k,Rd H a (.dK kvs)/\y=kV k/\r=xi kvs k)\/∃kvs k b,Rd H a (.dT kvs)/\y=.ref b/\H b=Fa (.tup (k.map kV))/\r=xi kvs k
def Nq(H:Hp)(a:Uf)(y v:V)(H':Hp):Prop:=
 (∃kvs k,H a=Fa (.dK kvs)/\y=kV k/\kvs.length<pi/\H'=upd H a (.dK (zg kvs k v)))\/
 ∃kvs k b,H a=Fa (.dT kvs)/\y=.ref b/\H b=Fa (.tup (k.map kV))/\kvs.length<pi/\H'=upd H a (.dT (zg kvs k v))
def FC.k{H:Hp}{a:Uf}{kvs:T0 (rH×V)}{k:rH}(e:H a=Fa (.dK kvs)):FC H a (kV k) (xi kvs k):=.inl ⟨kvs,k,.inl e,Z',Z'⟩
def Nq.k{H:Hp}{a:Uf}{kvs:T0 (rH×V)}{k:rH}(e:H a=Fa (.dK kvs))(hl:kvs.length<pi):Nq H a (kV k) v (upd H a (.dK (zg kvs k v))):=.inl ⟨kvs,k,e,Z',hl,Z'⟩
variable {XF:T0 (Uf × Obj)}{Y:St}{y v:V}{u r:Vl}
section
variable {s:Sd}{o:Option V}{A:Ar}{E:QQX}
def Inv.big(I:Inv X XF Y H s):XV<s.heap.objs.size:=by have h:xz<s.heap.objs.size:=(I.mod.glob.keeps I.bk).lt;exact iD (by decide) h
def K2{Q:QQX}(hu:A.units+1<XXa)(I:Inv X XF Y H s)(g:FC H a y (Fa v))(ry:ra y u)(h:∀w' s',Inv X XF Y H s'->ra v w'->Q w' s'):
  Ch (Tk X.prog X.w) A (XXg (.ref a) u) Q E s:=by
 rcases g with⟨kvs,k,e,ey,l⟩|⟨kvs,k,b,e,ey,eb,l⟩
 .subst ey;obtain⟨z,hd,vs,rel,dd⟩:=Ka I.nB e;obtain⟨w',hw,ZQ⟩:=yM.some_of (v:=v) (o:=valueAt vs k) (by rw[l];exact rel.val k);exact wpAny_getItem_of (Hm ry) dd.mapOf hw (h w' _ (I.tok _) ZQ)
 .subst ey;cases(show u=Value.ref b from ry);obtain⟨z,hd,xs,rel,dd⟩:=Je I.nB e;obtain⟨w',hw,ZQ⟩:=yM.some_of (v:=v) (o:=(atKey xs k).map (·.2)) (by rw[l];exact rel.val k);obtain⟨p,hp,XT⟩:=iP.mp hw;refine wpAny_getItem_heap (ju hu) (FT I.nB eb) dd hp ?_;rw[XT];exact h w' _ (I.tok _) ZQ
def Wt{Q:QQX}(hu:A.units+1<XXa)(I:Inv X XF Y H s)(g:FC H a y o)(ry:ra y u)(h:∀s',Inv X XF Y H s'->Q (.bool o.isSome) s'):
  Ch (Tk X.prog X.w) A (Op .In u (.ref a)) Q E s:=by
 rcases g with⟨kvs,k,e,ey,l⟩|⟨kvs,k,b,e,ey,eb,l⟩
 .subst ey;obtain⟨z,hd,vs,rel,dd⟩:=Ka I.nB e;refine wpAny_in_of (Hm ry) hd dd.mapOf ?_;rw[<-(rel.val k).nW,<-l];exact h _ (I.tok _)
 .subst ey;cases(show u=Value.ref b from ry);obtain⟨z,hd,xs,rel,dd⟩:=Je I.nB e;refine wpAny_in_heap (ju hu) (FT I.nB eb) hd dd ?_;have q:=(rel.val k).nW;rw[jE]at q;rw[<-q,<-l];exact h _ (I.tok _)
def JV{t':Nat}(I:Inv X XF Y H s)(mu:UZ (H a))(hs:Heap.SameBut a s.heap h')(he:∃q,h'.get? a=Fa q)(new:sF X.prog X.w (upd H a ob) h' a ob):
  Inv X XF Y (upd H a ob) {s with heap:=h',toks:=t'}:=
 I.write (x:=a) (e:=a) mu (.inl Z') (λb q hb z=>(hs.2 b hb).trans z) he new
def Oo{H':Hp}{h':No}{kvs:T0 (rH×V)}(z:kvs.length<=pi)(hd:(a==XV)=lf)(rel:KV kvs vs)(dd:h'.DictOf (rQ P w) a vs):
  sF P w H' h' a (.dK kvs):=⟨z,hd,vs,rel,dd⟩
def KC{Q:Unit->Sd->Prop}(hu:A.units+1<XXa)(I:Inv X XF Y H s)(g:Nq H a y v H')(ry:ra y u)(rv:ra v r)(h:∀s',Inv X XF Y H' s'->Q () s'):
  Ch (Tk X.prog X.w) A (setItem (.ref a) u r) Q E s:=by
 rcases g with⟨kvs,k,e,ey,l,eH⟩|⟨kvs,k,b,e,ey,eb,l,eH⟩
 .subst ey eH;obtain⟨z,hd,vs,rel,dd⟩:=VD I.nB e;have hz:vs.length<=pi:=by rw[<-rel.length];exact z
  have hl:(zg kvs k v).length<=pi:=by have:=AS kvs k v;omega
  refine wpAny_setItem_pairs (hsz:=hz) (Hm ry) dd λh' dd' hs=>h _ ?_;have he:∃q,h'.get? a=Fa q:=let⟨q,_,_,hq,_⟩:=dd';⟨q,hq⟩;exact JV I (by rw[e];exact True.intro) hs he (Oo hl hd (rel.put k rv) dd')
 .subst ey eH;cases(show u=Value.ref b from ry);obtain⟨z,hd,xs,rel,dd⟩:=UK I.nB e;have hz:xs.length<=pi:=by rw[<-jy rel];exact z
  have hl:(zg kvs k v).length<=pi:=by have:=AS kvs k v;omega
  refine wpAny_setItem_heap (hsz:=hz) (ju hu) (FT I.nB eb) dd λh' dd' hs=>h _ ?_;obtain⟨q,es,ep,hq,h2,h3,h4,_,h5⟩:=dd';refine JV I (by rw[e];exact True.intro) hs ⟨q,hq⟩ ⟨hl,hd,_,(rel.put k eb rv).keeps λc ys ec=>?_,q,es,ep,hq,h2,h3,h4,h5⟩;rw[qw (Ux ec e (λz=>nomatch z))];exact ec
end
variable {kvs:T0 (rH × V)}{k:rH}
section
variable {s:Sd}{A:Ar}{E:QQX}
end
def GT{XF:QQY}(I:Inv X XF Y H s)(g:FC H a y o):s.TypeIs (.ref a) "dict":=by
 rcases g with⟨kvs,k,e,_,_⟩|⟨kvs,k,b,e,_,_,_⟩
 .obtain⟨_,_,vs,_,dd⟩:=Ka I.nB e;exact dd.typeIs
 .obtain⟨_,_,xs,_,dd⟩:=Je I.nB e;exact dd.typeIs
def UT(td ty tv:TE):TS:=λD Y H=>tv Y H λv H1=>td Y H1 λx H2=>ty Y H2 λy H3=>∃a H4,x=.ref a/\Nq H3 a y v H4/\D.nx Y H4
variable {i e value:Go}{pos XQ ZP:Pos}{td ty tv:TE}
section
variable {o:Go}
def Qk(hu:X.A.units+1<XXa)(ho:PE X o td)(hi:PE X i ty)(hv:PE X value tv)(hs:ZB value (Fa (.Subscript o i XQ)) pos.line X.env=pure lf):
  PS X (.Assign [.Subscript o i XQ] value pos) (UT td ty tv):=by
 intro XF s Y H D I h;refine wpAny_Assign_Subscript (sX (hv XF s Y H _ I h) λr s1 zz=>x5 zz λv H1 I1 rv q1=>sX (ho XF s1 Y H1 _ I1 q1) λu s2 zz=>x5 zz λx H2 I2 rx q2=>sX (hi XF s2 Y H2 _ I2 q2) λiv s3 zz=>?_) hs;obtain⟨y,H3,I3,ry,a,H4,ex,g,q3⟩:=zz;subst ex;obtain rfl:u=Value.ref a:=rx;exact KC hu I3 g ry rv λs4 I4=>⟨Y,H4,I4,q3⟩
end
structure M1(X:Cx)(o:Go)(m:Str)(XI:Pos)(e:Go)(XO:Pos):Prop where
 base:Ps o m X.env (wp o X.env)=wp o X.env
 pN:((sB XO (Tl [e] X.env)).all (λx=>!x.1)&&(xL XO (Rs [] X.env)).all (λx=>x.1.isSome)
  &&decide (([e]:List Go).length+([]:List XXf).length+(if ([]:List XXf).isEmpty then 0 else 1)<30))=pc
 line:(XI.endLine==XO.line)=pc
 trees:sB XO (Tl [e] X.env)=[(lf,wp e X.env)]
structure M2(X:Cx)(o:Go)(m:Str)(XI:Pos)(e f:Go)(XO:Pos):Prop where
 base:Ps o m X.env (wp o X.env)=wp o X.env
 pN:((sB XO (Tl [e,f] X.env)).all (λx=>!x.1)&&(xL XO (Rs [] X.env)).all (λx=>x.1.isSome)
  &&decide (([e,f]:List Go).length+([]:List XXf).length+(if ([]:List XXf).isEmpty then 0 else 1)<30))=pc
 line:(XI.endLine==XO.line)=pc
 trees:sB XO (Tl [e,f] X.env)=[(lf,wp e X.env),(lf,wp f X.env)]
variable {d:V}
section
variable {s:Sd}{o:Option V}{A:Ar}{E:QQX}
end
variable {f:Go}{XI XO:Pos}{tx:TE}
section
variable {o:Go}
end
section
variable {s:Sd}{A:Ar}{E:QQX}
end
section
variable {s:Sd}{A:Ar}{E:QQX}
end
section
variable {κ:Type}[DecidableEq κ]
end
def Bi(env:Env):T0 (Str×wS)->T0 (Str×Uf)->T0 (Str×Uf)
 | [],acc=>acc
 | (n,k)::r,acc=>Bi env r (if k==.free then(n,(env.cells.lookup n).getD 0)::acc else acc)
theorem Hn{env:Env}{f:(Str×wS)->T0 (Str×Uf)->Sem (ForInStep (T0 (Str×Uf)))} (hf:∀x cs,(x.2=.free->∃c,env.cells.lookup x.1=Fa c)->f x cs=pure (.yield (if x.2==.free then(x.1,(env.cells.lookup x.1).getD 0)::cs else cs))):
  ∀(l:T0 (Str×wS)) (acc:T0 (Str×Uf)),(∀x∈l,x.2=.free->∃c,env.cells.lookup x.1=Fa c)->forIn l acc f=pure (Bi env l acc)
 | [],acc,_=>by rw[ky];rfl
 | (n,k)::r,acc,h=>by rw[j9,hf (n,k) acc (h _ dO),pure_bind];exact Hn hf r _ λx hx=>h x (dM _ hx)
def yQ{scope:XXe}{env:Env}(h:∀x∈scope.names,x.2=.free->∃c,env.cells.lookup x.1=Fa c):closureFor scope env=pure (Bi env scope.names []):=by
 unfold closureFor;have e:=Hn (env:=env) (f:=λ(x:Str×wS) (cs:T0 (Str×Uf))=>(do
   if x.2==.free then
    let a<-cellOf env x.1
    pure (ForInStep.yield ((x.1,a)::cs))
   else pure (ForInStep.yield cs))) (λx cs hx=>by
  cases hk:x.2==NameKind.free with
  | false=>simp
  | true=>
   obtain⟨c,hc⟩:=hx (by simpa using hk);simp[cellOf,hc]) scope.names [] h
 first
  | exact(eV (·>>=pure) e).trans (by simp)
  | (simp only[bind_pure];exact e)
  | (rw[<-e];rfl)
theorem MQ{env:Env}{x:Str}{c:Uf}:∀{l:T0 (Str×wS)} {acc:T0 (Str×Uf)},(∀x∈l,x.2=.free->∃c,env.cells.lookup x.1=Fa c)->(∀x c,acc.lookup x=Fa c->env.cells.lookup x=Fa c)->(Bi env l acc).lookup x=Fa c->env.cells.lookup x=Fa c
 | [],acc,_,ha,h=>ha x c h
 | (n,k)::r,acc,hl,ha,h=>by
  refine MQ (l:=r) (acc:=if k==.free then(n,(env.cells.lookup n).getD 0)::acc else acc) (λy hy=>hl y (dM _ hy)) (λy d hd=>?_) h;cases hk:k==NameKind.free with
  | false=>rw[hk]at hd;exact ha y d (by simpa using hd)
  | true=>
   rw[hk,dw Z']at hd;obtain⟨e,he⟩:=hl (n,k) dO (by simpa using hk);rw[eN]at hd;cases hy:y==n with
   | true=>
    rw[hy]at hd;have yn:y=n:=by simpa using hy
    subst yn;have he:env.cells.lookup y=Fa e:=he;rw[he]at hd ⊢;exact hd
   | false=>rw[hy]at hd;exact ha y d hd
theorem N0{x:Str}:∀{l:T0 (Str×wS)} {acc:T0 (Str×Uf)},(∃c,acc.lookup x=Fa c)->∃c,(Bi env l acc).lookup x=Fa c
 | [],_,h=>h
 | (n,k)::r,acc,h=>by
  refine N0 (l:=r) ?_;cases hk:k==NameKind.free with
  | false=>simpa using h
  | true=>
   rw[dw Z',eN];cases hy:x==n with
   | true=>exact⟨_,Z'⟩
   | false=>exact h
theorem IX{x:Str}:∀{l:T0 (Str×wS)} {acc:T0 (Str×Uf)},l.lookup x=Fa .free->∃c,(Bi env l acc).lookup x=Fa c
 | [],_,h=>by simp at h
 | (n,k)::r,acc,h=>by
  rw[eN]at h;cases hy:x==n with
  | true=>rw[hy]at h;have hk:k=.free:=dB h;subst hk;refine N0 (l:=r) ⟨(env.cells.lookup n).getD 0,?_⟩;show List.lookup x (if NameKind.free==NameKind.free then(n,(env.cells.lookup n).getD 0)::acc else acc)=Fa ((env.cells.lookup n).getD 0);rw[dw (by rfl),eN,hy]
  | false=>rw[hy]at h;exact IX (l:=r) h
theorem uP{env:Env}{x:Str}:∀{l:T0 (Str×wS)},(l.map λ(n,k)=>if (k==NameKind.free&&env.scope.kind==.function&&env.kindOf n==Fa .cell)then(n,NameKind.cell)else(n,k)).lookup x
   = (l.lookup x).map λk=>if (k==NameKind.free&&env.scope.kind==.function&&env.kindOf x==Fa .cell)then NameKind.cell else k
 | []=>rfl
 | (n,k)::r=>by
  rw[eh];show List.lookup x ((if (k==NameKind.free&&env.scope.kind==.function&&env.kindOf n==Fa .cell)=pc then(n,NameKind.cell)else(n,k))::_)=_;cases hy:x==n with
  | true=>
   have yn:x=n:=by simpa using hy
   subst yn;by_cases hc:(k==NameKind.free&&env.scope.kind==.function&&env.kindOf x==Fa .cell)=pc
   .rw[dw hc,eN,eN,hy];simp only[kc];rw[dw hc]
   .rw[dq hc,eN,eN,hy];simp only[kc];rw[dq hc]
  | false=>
   by_cases hc:(k==NameKind.free&&env.scope.kind==.function&&env.kindOf n==Fa .cell)=pc
   .rw[dw hc,eN,eN,hy];exact uP
   .rw[dq hc,eN,eN,hy];exact uP
def Pq(ix:T0 (Option Nat))(Y:St):St:=ix.map λo=>o.bind λi=>(Y[i]?).join
abbrev Cx.comp(X:Cx)(scope:XXe)(N':QQQ)(C:Uf)(s0:Sd)(H0:Hp)(ex:QXQ):Cx:=
 {X with N:=N',s₀:=s0,H₀:=H0,env:=compEnvC scope (Bi X.env scope.names []) C X.env,outer:=X.stack,ex:=ex,fn:=λ_=>lf,pn:=[],xe:=λ_ _=>False}
structure sO(X:Cx)(scope:XXe)(ix:List (Option Nat))(N':QQQ):Prop where
 kind:scope.kind=.function
 oU:∀y∈scope.names,y.2≠.cell
 nam:∀y∈scope.names,y.2=.local->scope.names.lookup y.1=Fa .local
 fre:∀y∈scope.names,y.2=.free->X.env.scope.names.lookup y.1=Fa .cell\/X.env.scope.names.lookup y.1=Fa .free
 len:ix.length=N'.length
 at_:∀(j i:Nat) (x:Str),ix[j]?=Fa (Fa i)->N'[j]?=Fa x->X.N[i]?=Fa x/\scope.names.lookup x=Fa .free
variable {scope:XXe}{ix:T0 (Option Nat)}{N':QQQ}{fp:QXQ}
section
variable {s:Sd}
def sO.cells(S:sO X scope ix N')(ok:X.Ok):∀x∈scope.names,x.2=.free->∃c,X.env.cells.lookup x.1=Fa c:=λx hx hk=>ok.has x.1 (S.fre x hx hk)
def sO.sub(S:sO X scope ix N')(ok:X.Ok){x:Str}{c:Uf}(h:(Bi X.env scope.names []).lookup x=Fa c):X.env.cells.lookup x=Fa c:=MQ (S.cells ok) (λ_ _ z=>by simp at z) h
theorem vR{x:Str}{k:wS}:∀{l:T0 (Str×wS)},l.lookup x=Fa k->(x,k)∈l
 | [],h=>by simp at h
 | (n,j)::r,h=>by
  rw[eN]at h;cases hy:x==n with
  | true=>
   rw[hy]at h;have yn:x=n:=by simpa using hy
   subst yn;rw[dB h];exact dO
  | false=>rw[hy]at h;exact dM _ (vR h)
def Inv.comp{C:Uf}{h1:No}{tk:Nat}(I:Inv X XF Y H s)(S:sO X scope ix N')(hf:∀b∈fp,Bb X XF H b)(XU:∀b∈fp,b<s.heap.objs.size)(hC:s.heap.objs.size<=C) (k:∀b o,s.heap.get? b=Fa o->h1.get? b=Fa o) (hn:h1.Ns C (λ_=>Db)):Inv (X.comp scope N' C s H fp) (X.pn++XF) (Pq ix Y) H {s with heap:=h1,toks:=tk}:=by
 have sub:∀{x:Str} {c:Uf},(Bi X.env scope.names []).lookup x=Fa c->X.env.cells.lookup x=Fa c:=λh=>S.sub I.ok h;refine⟨⟨I.ok.mod,S.kind,I.ok.glob,I.ok.blt,hC,λx y c e1 e2=>I.ok.inj x y c (sub e1) (sub e2),λx hx=>?_,λ_ _ z=>(dF z).elim,I.ok.hd,I.ok.frames,.inl Z',λb hb=>⟨dN (dU (XU b hb) hC),λx c e=>(hf b hb).2.2.2.2.1 x c (sub e)⟩,I.bs,eD I.ok.oK I.sz,λb o e hb=>?_,λb hb hfs=>?_,I.stack,I.oi⟩,Z',I.bare,Un.kept k,⟨_,hn,λi x v e1 e2 e3=>?_⟩,λx c e=>?_,I.nB.fresh hC,λx c e=>I.nK x c (sub e),λp hp=>?_,I.nB.kept k,?_⟩
 .have hx:(relabel scope X.env).names.lookup x=Fa .cell\/(relabel scope X.env).names.lookup x=Fa .free:=hx;have e:(relabel scope X.env).names.lookup x=(scope.names.lookup x).map λk=>if (k==NameKind.free&&X.env.scope.kind==.function&&X.env.kindOf x==Fa .cell)then NameKind.cell else k:=uP
  rw[e]at hx;cases q:scope.names.lookup x with
  | none=>rw[q]at hx;rcases hx with hx|hx<;>simp at hx
  | some kd=>
   cases kd with
   | free=>exact IX q
   | cell=>exact absurd Z' (S.oU _ (vR q))
   | _=>rw[q]at hx;rcases hx with hx|hx<;>simp at hx
 .rcases(hf b hb).2.2.2.1 with z|z
  .exact I.ok.oz b o e z
  .exact absurd (dU (dD e) (eD I.ok.oK z)) (fm _)
 .rcases dA.mp (I.nZ b hfs)with z|z
  .exact(hf b hb).2.1 z
  .exact(hf b hb).2.2.1 z
 .have ZS:(ix[i]?).map (λo=>o.bind λi=>(Y[i]?).join)=Fa (Fa v):=by have z:(Pq ix Y)[i]?=Fa (Fa v):=e2;unfold Pq at z;rw[dJ]at z;exact z
  cases q:ix[i]? with
  | none=>rw[q]at ZS;cases ZS
  | some o=>
   rw[q]at ZS;cases o with
   | none=>cases ZS
   | some j=>
    have ZT:(Y[j]?).join=Fa v:=dB ZS;have e4:Y[j]?=Fa (Fa v):=by
     cases r:Y[j]? with
     | none=>rw[r]at ZT;cases ZT
     | some w=>rw[r]at ZT;exact eV Fa ZT
    obtain⟨n1,n2⟩:=S.at_ i j x q e1;obtain⟨m,hm,hl⟩:=I.loc;have hk:=S.fre _ (vR n2) Z';have hv:SK X.env.scope x:=by
     rcases hk with z|z
     .exact .inr (.inl z)
     .exact .inr (.inr z)
    obtain⟨u,ru,lk⟩:=hl j x v n1 e4 hv;refine⟨u,ru,?_⟩;have hk':X.env.kindOf x=Fa .cell\/X.env.kindOf x=Fa .free:=hk;rcases lk with⟨z,_⟩|⟨_,c,hc,hcell⟩
    .rcases hk' with y|y<;>(rw[y]at z;cases z)
    .obtain⟨c',hc'⟩:=IX (env:=X.env) (acc:=[]) n2;have:=sub hc';rw[hc]at this;cases this;refine .inr ⟨?_,c,hc',hcell.keeps k⟩;show(relabel scope X.env).names.lookup x=Fa .cell\/(relabel scope X.env).names.lookup x=Fa .free;have e:(relabel scope X.env).names.lookup x=(scope.names.lookup x).map λk=>if (k==NameKind.free&&X.env.scope.kind==.function&&X.env.kindOf x==Fa .cell)then NameKind.cell else k:=uP
     rw[e,n2];simp only[kc];split
     .exact .inl Z'
     .exact .inr Z'
 .obtain⟨v,q⟩:=I.cell x c (sub e);exact⟨v,q.keeps k⟩
 .obtain⟨e,n,ne,nf,d⟩:=I.pin p (by simpa using hp);refine⟨k _ _ e,n,dN (dU (dD e) hC),λz=>?_,d⟩;rcases dA.mp (I.nZ p.1 z)with y|y
  .exact ne y
  .exact nf y
 .show(Pq ix Y).length=N'.length;unfold Pq;rw[c9];exact S.len
end
section
variable {prog:Pg}{w:Wo}{A:Ar}{R:Result→Sd→Prop}{s:Sd}
def yr{YB Ye iter:Go}{Yk:T0 Go}{scope:XXe}{pos:Pos}{it acc:Vl}{env:Env}(I:Nat->Sd->Prop){EX:QQX}(hEX:∀e s',EX e s'->notedBy (Tk prog w) A env (λx s'=>R (.error x) s') e s') (turn:∀n s,I n s->Ch (Tk prog w) A (pyNext it) (λr s₁=>match r with
   | none=>R (.ok .next) s₁
   | some v=>Ch (Tk prog w) A (XXj Ye it v) (λ_ s₁=>Ch (Tk prog w) A (assign Ye env v) (λ_ s₂=>
     Ch (Tk prog w) A (forIn Yk pc λc r=>if r=pc then do let ok<-isTrue c env (wp c env);pure (ForInStep.yield ok)else pure (ForInStep.yield r)) (λok s₃=>
      if ok=pc then Ch (Tk prog w) A (wp YB env) (λx s₄=>
       Ch (Tk prog w) A (call (.builtin "list.append") [acc,x]) (λ_ s₅=>∃m,m<n/\I m s₅) (λ_ _=>False) s₄) EX s₃
      else ∃m,m<n/\I m s₃) (λ_ _=>False) s₂) (λ_ _=>False) s₁) (λ_ _=>False) s₁) (λ_ _=>False) s)
  (n:Nat) (h:I n s):
  XXk (Tk prog w) A (.compLoop (.ListComp YB [⟨Ye,iter,Yk,0⟩] scope pos) 0 it acc env) R s:=by
 refine codeAny_loop Z' I (λn s hI=>?_) n h;show Ch _ A ((compTurn (.ListComp YB [⟨Ye,iter,Yk,0⟩] scope pos) 0 it acc env).onRaise (λx=>do noteFrame x env;theTreesLotGoes x)) _ _ s;refine wpAny_noted ?_;rw[compTurn_list];refine de (hJ (de (eF (turn n s hI) (λr s₁ h₁=>?_) λ_ _ h'=>h'.elim)));cases r with
 | none=>exact dz h₁
 | some v=>
  refine de (eF h₁ (λ_ s₁' h₁'=>?_) λ_ _ h'=>h'.elim);refine de (eF h₁' (λ_ s₂ h₂=>de (eF h₂ (λok s₃ h₃=>?_) λ_ _ h'=>h'.elim)) λ_ _ h'=>h'.elim);cases ok with
  | false=>exact dz ⟨Z',h₃⟩
  | true=>exact de (de (eF h₃ (λx s₄ h₄=>de (eF h₄ (λ_ s₅ h₅=>dz (dz ⟨Z',h₅⟩)) λ_ _ h'=>h'.elim)) hEX))
end
def PF(X:Cx)(Yk:T0 Go)(t:TT):Prop:=
 ∀(XF:QQY) (s:Sd) (Y:St) (H:Hp) (Q:Bool->Hp->Prop),Inv X XF Y H s->t Y H Q->
  Ch (Tk X.prog X.w) X.A (forIn Yk pc λc r=>if r=pc then do let ok<-isTrue c X.env (wp c X.env);pure (ForInStep.yield ok)else pure (ForInStep.yield r)) (TP X XF Y Q) X.xe s
def Ur:TT:=λ_ H Q=>Q pc H
def RL:PF X [] Ur:=λ_ _ _ H _ I h=>wpAny_tests_nil ⟨H,I,h⟩
def Tg(h:PT X c t):PF X [c] t:=λXF s Y H Q I q=>wpAny_tests_one (h XF s Y H Q I q)
def Rk(ix:T0 (Option Nat))(g:TG)(tt:TT)(te:TE)(Y:St)(J:It)(Q:VK)(H:Hp):Prop:=
 ∃W:Nat->Nat->T0 V->St->Hp->Prop,(∃m,W 0 m [] (Pq ix Y) H)/\∀i m ys σ' H,W i m ys σ' H->
  (J.stop i H/\ys.length<=pi/\∀D,H D=Db->Q (.ref D) (upd H D (.lst ys)))\/
  (J.go i H/\ys.length<pi/\∀x H',J.pB i H x H'->g x σ' H' λσ2 H2=>tt σ2 H2 λb H3=>if b=pc then te σ2 H3 λy H4=>∃m',m'<m/\W (i+1) m' (ys++[y]) σ2 H4 else ∃m',m'<m/\W (i+1) m' ys σ2 H3)
def LX(ix:T0 (Option Nat))(wi:TI)(g:TG)(tt:TT)(te:TE):TE:=λY H Q=>wi Y H λJ H1=>Rk ix g tt te Y J Q H1
variable {tg iter YB:Go}{Yk:T0 Go}{g:TG}{tt:TT}{te:TE}{J:It}{it:Uf}{tn:Nat→No→Prop}{Q:VK}
section
variable {s:Sd}
def CA{XP:Uf->Sd->Hp->QXQ->QQY->St->Vl->Sd->Prop}{RR:Vl->Uf->Result->Sd->Prop}{E:QQX}(hc:X.calm=pc)(S:sO X scope ix N')(I:Inv X XF Y H s)(T:GP X.prog X.w X.K tg J fp it tn)(st:tn 0 s.heap)(hf:∀b∈fp,Bb X XF H b) (hg:∀C s0 H0 ex,PG (X.comp scope N' C s0 H0 ex) tg g) (ht:∀C s0 H0 ex,PF (X.comp scope N' C s0 H0 ex) Yk tt) (he:∀C s0 H0 ex XF s Y H Q,Inv (X.comp scope N' C s0 H0 ex) XF Y H s->te Y H Q->Ch (Tk X.prog X.w) X.A (wp YB (X.comp scope N' C s0 H0 ex).env) (EP (X.comp scope N' C s0 H0 ex) XF Y Q) (XP C s0 H0 ex XF Y) s) (hx:∀C D e s',s.heap.objs.size<=C->(∃YI σ',(∀b∈fp,∃o,(b,o)∈YI)/\XP C s H fp YI σ' e s')->notedBy (Tk X.prog X.w) X.A (compEnvC scope (Bi X.env scope.names []) C X.env) (λx s'=>RR D C (.error x) s') e s') (hw:Rk ix g tt te Y J Q H) (XJ:∀D C s' H' m,s.heap.objs.size<=C->H' C=Db->s'.heap.Ns C m->Inv X XF Y H' s'->Q (.ref D) H'->RR (.ref D) C (.ok .next) s'):
  Ch (Tk X.prog X.w) X.A (newList []) (λacc s₃=>Ch (Tk X.prog X.w) X.A (newFunctionEnv scope X.env.globals (Bi X.env scope.names []) [] X.env.qual Db .none (Fa X.env)) (λYq s₄=>
   XXk (Tk X.prog X.w) X.A (.compStart (.ListComp YB [⟨tg,iter,Yk,0⟩] scope pos) 0 (.ref it) acc {Yq with scope:=relabel scope X.env}) (RR acc Yq.locals) s₄) E s₃) E s:=by
 obtain⟨W,⟨m0,w0⟩,turn⟩:=hw;have XU:∀b∈fp,b<s.heap.objs.size:=λb hb=>by obtain⟨o,e,_⟩:=T.obj _ _ st b hb;exact dD e
 refine gg (wpAny_newFunctionEnv S.oU (by intro y hy;simp at hy) (λh₁ Zt ZU=>?_) S.kind);dsimp only at Zt ZU ⊢;generalize hH2:s.heap.push {cls:=.type "list",dict:=none,data:=.seq ([]:T0 Vl).toArray}=H2 at Zt ZU ⊢;have hC:H2.objs.size=s.heap.objs.size+1:=by rw[<-hH2,fB]
 have hDC:s.heap.objs.size≠H2.objs.size:=by rw[hC];exact dN (fM _)
 have ZV:s.heap.objs.size<=H2.objs.size:=by rw[hC];exact gq _
 have below:∀b,b<s.heap.objs.size->b≠H2.objs.size/\b≠s.heap.objs.size:=λb hb=>⟨by rw[hC];exact dN (gh hb),dN hb⟩;have Yh:∀b o,s.heap.get? b=Fa o->h₁.get? b=Fa o:=λb o e=>ZU.extBut b o (below b (dD e)).1 (dv _ (hH2 ▸ dv _ e));have hacc:h₁.get? s.heap.objs.size=Fa {cls:=.type "list",data:=.seq ([]:T0 Vl).toArray 0}:=ZU.extBut _ _ hDC (dv _ (hH2 ▸ dP _ Z'));have Zt:h₁.Ns H2.objs.size (λ_=>Db):=Zt;have YZ:∀{H':Hp} {pl:QQY},(∀b∈fp,H' b=Db)->(∀p∈pl,p.1∉fp)->∀b∈fp,Bb (X.comp scope N' H2.objs.size s H fp) (X.pn++XF++pl) H' b:=λ{H' pl} hn X0 b hb=>by
  refine⟨hn b hb,dN (dU (XU b hb) ZV),λz=>?_,.inl hb,λx c e=>(hf b hb).2.2.2.2.1 x c (S.sub I.ok e),λp hp=>?_⟩
  .rcases dA.mp (I.nZ b z)with y|y
   .exact(hf b hb).2.1 y
   .exact(hf b hb).2.2.1 y
  .rcases eB.mp (show p∈X.pn++XF++pl by simpa using hp)with z|z
   .exact(hf b hb).2.2.2.2.2 p z
   .intro q;exact X0 p z (q ▸ hb)
 have loop:∀s₃:Sd,s₃={s with heap:=h₁,toks:=s.toks+([]:T0 (Str×Vl)).length}->
   XXk (Tk X.prog X.w) X.A (.compLoop (.ListComp YB [⟨tg,iter,Yk,0⟩] scope pos) 0 (.ref it) (.ref s.heap.objs.size) (compEnvC scope (Bi X.env scope.names []) H2.objs.size X.env))
    (RR (.ref s.heap.objs.size) H2.objs.size) s₃:=by
  rintro s₃ rfl
  refine yr (hEX:=λe s' z=>hx _ _ e s' ZV z) (λn s'=>∃(i:Nat) (ys:T0 V) (us:T0 Vl) (k:Nat) (σ':St) (H':Hp),Inv (X.comp scope N' H2.objs.size s H fp) (X.pn++XF) σ' H' s'/\tn i s'.heap/\(∀b∈fp,H' b=Db)/\H' s.heap.objs.size=Db/\
   s'.heap.get? s.heap.objs.size=Fa {cls:=.type "list",data:=.seq us.toArray k}/\qO ys us/\ys.length<=pi/\W i n ys σ' H') ?_ m0
   ⟨0,[],[],0,Pq ix Y,H,I.comp S hf XU ZV Yh Zt,T.keep _ _ _ st λb _ o e=>Yh b o e,λb hb=>(hf b hb).1,I.nB.fresh (dC _),hacc,.nil,eQ _,w0⟩
  rintro n s' ⟨i,ys,us,k,σ',H',I',Yz,fr',hD',Yo,rv',hz',w'⟩
  have cellD:∀x c,(X.comp scope N' H2.objs.size s H fp).env.cells.lookup x=Fa c->c≠s.heap.objs.size:=λx c e=>by obtain⟨v,q⟩:=I.cell x c (S.sub I.ok e);exact dN q.lt
  have pinD:∀p∈X.pn++XF,p.1≠s.heap.objs.size:=λp hp=>dN (dD (I.pin p hp).1);have dfs:s.heap.objs.size∉(X.comp scope N' H2.objs.size s H fp).fs:=λz=>by
   rcases dA.mp (I.nZ _ z)with y|y
   .exact absurd I.lt (by rw[<-y];exact fm _)
   .exact I.pG (dC _) y
  have dfp:s.heap.objs.size∉fp:=λz=>absurd (XU _ z) (fm _);have IpD:Inv (X.comp scope N' H2.objs.size s H fp) (X.pn++XF++[(s.heap.objs.size,{cls:=.type "list",data:=.seq us.toArray k})]) σ' H' s':=I'.ou λp hp=>by
   rcases eB.mp hp with z|z
   .exact I'.pin p (eM _ z)
   .have e:p=(s.heap.objs.size,{cls:=.type "list",data:=.seq us.toArray k}):=by simpa using z
    subst e;exact⟨Yo,hD',hDC,dfs,λv z=>by cases z⟩
  have pfp:∀p∈[((s.heap.objs.size,{cls:=.type "list",data:=.seq us.toArray k}):Uf×Obj)],p.1∉fp:=λp hp=>by
   have e:p=(s.heap.objs.size,{cls:=.type "list",data:=.seq us.toArray k}):=by simpa using hp
   subst e;exact dfp
  rcases turn i n ys σ' H' w' with⟨stop,hz,q⟩|⟨go,hz,step⟩
  .refine eF (T.done (X.comp scope N' H2.objs.size s H fp) Z' Z' Z' hc i _ s' σ' H' (λ_ _=>False) IpD (YZ fr' pfp) Yz stop) (λr s1 ⟨hr,I1⟩=>?_) λ_ _ z=>z;subst hr;show RR _ _ _ _;have ho1:s1.heap.get? s.heap.objs.size=Fa {cls:=.type "list",data:=.seq us.toArray k}:=(I1.pin (s.heap.objs.size,{cls:=.type "list",data:=.seq us.toArray k}) (by simp)).1;obtain⟨m,hnC,_⟩:=id I1.loc;refine XJ _ _ s1 (upd H' s.heap.objs.size (.lst ys)) m ZV (by rw[qw (dW hDC)];exact I1.free) hnC ?_ (q _ hD');have nD:∀b o,s.heap.get? b=Fa o->b≠s.heap.objs.size:=λb o e=>(below b (dD e)).2;have hD0:H s.heap.objs.size=Db:=I.nB.fresh (dC _);refine I.pD (s':=s1) (ch:=fp) I1.os ⟨λb o e n1 n2 n3=>?_,λb o e n1 n2 n3=>?_,λb o e n1 n2=>?_,λb o e n1=>?_,λb xs e=>?_,λb o u e=>?_,λb ps e=>?_⟩ (λb u e=>?_) I1.bare λb hb=>⟨(hf b hb).2.2.2.1,(hf b hb).2.1,(hf b hb).2.2.2.2.1,(hf b hb).2.2.2.2.2⟩
   .exact I1.base.keep b o e n1 n2 n3
   .exact I1.base.slot b o e n1 n2 n3
   .rw[qw (nD b o e)];exact I1.base.free b o e n1 n2
   .exact I1.base.there b o e n1
   .rw[qw (rm e hD0)];exact I1.base.n9 b xs e
   .rw[qw (rm e hD0)];exact I1.base.nU b o u e
   .obtain⟨more,z⟩:=I1.base.oh b ps e;exact⟨more,by rw[qw (rm e hD0)];exact z⟩
   .by_cases hb:b=s.heap.objs.size
    .subst hb;rw[qB]at e;cases e;exact⟨hz,us,k,rv',ho1⟩
    .rw[qw hb]at e;exact(I1.nB b u e).nR (λc v _ z=>z) (λc z=>by rw[qw (rm z hD')];exact z) (λc xs z=>by rw[qw (rm z hD')];exact z)
  .refine eF (T.item (X.comp scope N' H2.objs.size s H fp) Z' Z' Z' hc i _ s' σ' H' (λ_ _=>False) IpD (YZ fr' pfp) Yz go) (λr s1 ⟨v,hr,h4⟩=>?_) λ_ _ z=>z;subst hr;show Ch _ _ (XXj tg (.ref it) v) _ _ s1;refine eF h4 (λ_ s2 zz=>?_) λ_ _ z=>z;obtain⟨x,H5,I5,r5,y5,Z9,fr5⟩:=zz;have I5':=I5.pinned (YZ fr5 pfp) (T.obj _ _ Z9);refine eF (hg H2.objs.size s H fp _ s2 σ' H5 x v _ I5' r5 (step x H5 y5)) (λ_ s3 ⟨σ6,H6,I6,q6⟩=>?_) λ_ _ z=>z;refine eF (ht H2.objs.size s H fp _ s3 σ6 H6 _ I6 q6) (λok s4 ⟨H7,I7,q7⟩=>?_) λ_ _ z=>z;have facts:∀{σ7:St} {H7:Hp} {s7:Sd},Inv (X.comp scope N' H2.objs.size s H fp) (X.pn++XF++[(s.heap.objs.size,{cls:=.type "list",data:=.seq us.toArray k})]++BU fp s2.heap) σ7 H7 s7->
     tn (i+1) s7.heap/\(∀b∈fp,H7 b=Db)/\H7 s.heap.objs.size=Db/\s7.heap.get? s.heap.objs.size=Fa {cls:=.type "list",data:=.seq us.toArray k}:=λ{σ7 H7 s7} K7=>by
    have pd:=K7.pin (s.heap.objs.size,{cls:=.type "list",data:=.seq us.toArray k}) (by simp);refine⟨T.keep _ _ _ Z9 λb hb o e=>(K7.pin (b,o) (eM _ (eM _ (vQ hb e)))).1,λb hb=>?_,pd.2.1,pd.1⟩;obtain⟨o,e,d⟩:=T.obj _ _ Z9 b hb;exact(K7.pin (b,o) (eM _ (eM _ (vQ hb e)))).2.1
   cases ok with
   | false=>rw[dq dF]at q7 ⊢;obtain⟨m',hm,w7⟩:=q7;obtain⟨t7,f7,d7,o7⟩:=facts I7;exact⟨m',hm,i+1,ys,us,k,σ6,H7,I7.nL.nL,t7,f7,d7,o7,rv',hz',w7⟩
   | true=>
    rw[dw Z']at q7 ⊢;refine eF (he H2.objs.size s H fp _ s4 σ6 H7 _ I7 q7) (λyv s5 ⟨y,H8,I8,r8,m',hm,w8⟩=>?_) λ_ _ z=>⟨_,_,λb hb=>(by
     obtain⟨o,e,_⟩:=T.obj _ _ Z9 b hb;exact⟨o,eM _ (vQ hb e)⟩),z⟩
    obtain⟨t8,f8,d8,o8⟩:=facts I8;have hsz:us.toArray.size<=pi:=by rw[dE,<-rv'.length];exact hz'
    refine append_at (hsz:=hsz) o8 λh' sb od=>?_;refine⟨m',hm,i+1,ys++[y],us++[yv],k+1,σ6,H8,?_,T.keep _ _ _ t8 λb hb o e=>(sb.2 b λq=>dfp (q ▸ hb)).trans e,f8,d8,?_,rv'.append (.cons r8 .nil),?_,w8⟩
    .exact I8.nL.nL.turned (it:=s.heap.objs.size) (t':=s5.toks) (λb o hb e=>(sb.2 b hb).trans e) d8 hDC (.inr (dC _)) cellD (by simpa using pinD)
    .rw[od,List.push_toArray]
    .rw[dg,dX];exact hz
 exact codeAny_compStart_list (loop _ Z') (T.self _ 0 _ _ _ (T.keep _ _ _ st λb _ o e=>Yh b o e) (loop _ Z'))
def Inv.letGo{C:Uf}(I:Inv X XF Y H s)(I':Inv X XF σ' H' s')(hC:s.heap.objs.size<=C)(hn:H' C=Db)(hs:Heap.SameBut C s'.heap h'):Inv X XF σ' H' {s' with heap:=h'}:=
 I'.turned (t':=s'.toks) (it:=C) (λb o hb e=>(hs.2 b hb).trans e) hn (λz=>absurd (dU I.lt hC) (by rw[z];exact fm _)) (.inr (eD I.sz hC))
  (λx c e z=>by
   obtain⟨v,r⟩:=I.cell x c e;exact absurd (dU r.lt hC) (by rw[z];exact fm _))
  (λp hp z=>absurd (dU (dD (I.pin p hp).1) hC) (by rw[z];exact fm _))
def Qh(hc:X.calm=pc)(S:sO X scope ix N')(hi:PI X tg iter wi)(hg:∀C s0 H0 ex,PG (X.comp scope N' C s0 H0 ex) tg g)(ht:∀C s0 H0 ex,PF (X.comp scope N' C s0 H0 ex) Yk tt)(he:∀C s0 H0 ex,PE (X.comp scope N' C s0 H0 ex) YB te) (hs:∀x,AT iter X.env x=pure x:=by intro _;rfl):PE X (.ListComp YB [⟨tg,iter,Yk,0⟩] scope pos) (LX ix wi g tt te):=by
 intro XF s Y H Q I h;rw[eval_ListComp];refine jV (use:=none) Z' hs (yQ (S.cells I.ok)) S.kind S.nam (eF (hi XF s Y H _ I h) (λxv s₁ h₁=>eF h₁ (λitv s₂ h₂=>?_) λ_ _ e=>e) λ_ _ e=>e);obtain⟨it,fp,tn,J,H2,e,I2,T,X9,f2,hw⟩:=h₂;subst e;refine CA (RR:=λacc C=>compPost (Tk X.prog X.w) X.A X.xe Db (EP X XF Y Q) acc C) hc S I2 T X9 f2 hg ht (XP:=λ_ _ _ _ _ _ _ _=>False) he (λ_ _ _ _ _ z=>by obtain⟨_,_,_,z⟩:=z;exact z.elim) hw λD C s' H' m hCs hCn hn I3 q=>?_;exact⟨m,hn,λh' hs'=>⟨.ref D,_,I2.letGo I3 hCs hCn hs',Z',q⟩⟩
def Iq{i:Nat}{x:Str}{px Zu:Pos}(hN:X.N.Nodup)(ZW:X.N[i]?=Fa x)(hx:LG X.env.scope x)(hc:X.calm=pc)(S:sO X scope ix N')(hi:PI X tg iter wi)(hg:∀C s0 H0 ex,PG (X.comp scope N' C s0 H0 ex) tg g)(ht:∀C s0 H0 ex,PF (X.comp scope N' C s0 H0 ex) Yk tt) (he:∀C s0 H0 ex,PE (X.comp scope N' C s0 H0 ex) YB te) (Ze:ZB (.ListComp YB [⟨tg,iter,Yk,0⟩] scope pos) (Fa (.Name x px)) Zu.line X.env=pure pc) (hf:LD X x:=by first|exact .inl Z'|exact .inr Z'|assumption) (hs:∀x,AT iter X.env x=pure x:=by intro _;rfl):
  PS X (.Assign [.Name x px] (.ListComp YB [⟨tg,iter,Yk,0⟩] scope pos) Zu) (Qq (LX ix wi g tt te) (JD i)):=by
 intro XF s Y H D I h;rw[exec_Assign_Name_used _ _ _ _ Ze];refine de (hJ (de ?_));show Ch _ X.A (do let _<-comprehension (.ListComp YB [⟨tg,iter,Yk,0⟩] scope pos) scope X.env _ (newList []) lf (wp iter X.env) (Fa (assign (.Name x px) X.env))) _ _ s;refine de (eF (jV (use:=some (assign (.Name x px) X.env)) (Q:=λ_ s'=>SP X XF D .next s') Z' hs (yQ (S.cells I.ok)) S.kind S.nam
  (eF (hi XF s Y H _ I h) (λxv s₁ h₁=>eF h₁ (λitv s₂ h₂=>?_) λ_ _ e=>e) λ_ _ e=>e)) (λ_ s' hq=>dz (dz hq)) λ_ _ e=>e)
 obtain⟨it,fp,tn,J,H2,e,I2,T,X9,f2,hw⟩:=h₂;subst e;refine CA (RR:=λacc C=>compPost (Tk X.prog X.w) X.A X.xe (Fa (assign (.Name x px) X.env)) (λ_ s'=>SP X XF D .next s') acc C) hc S I2 T X9 f2 hg ht (XP:=λ_ _ _ _ _ _ _ _=>False) he (λ_ _ _ _ _ z=>by obtain⟨_,_,_,z⟩:=z;exact z.elim) hw λDa C s' H' m hCs hCn hn I3 q=>?_;show Ch _ X.A (assign (.Name x px) X.env (.ref Da)) _ _ _;refine lK (Ep I3 hN ZW hx (v:=.ref Da) Z' (λs4 I4 ⟨a,sb,ha⟩=>?_) hf);have ca:C≠a:=λz=>by
  rcases ha with y|y
  .exact absurd (dU I2.lt hCs) (by rw[z,y];exact fm _)
  .obtain⟨v,r⟩:=I2.cell x a y;exact absurd (dU r.lt hCs) (by rw[z];exact fm _)
 exact⟨m,hn.sameBut sb ca,λh' hs'=>⟨_,H',I2.letGo I4 hCs hCn hs',q⟩⟩
end
def A5:typeLookup (.type "list") "__getattr__"=pure Db:=by rw[typeLookup_type,kz];kernel_rfl
def Gj:typeLookup (.type "list") "keys"=pure Db:=by rw[typeLookup_type,kz];kernel_rfl
section
variable {prog:Pg}{w:Wo}{A:Ar}{E:QQX}
def Oc(a:Uf)(u:Tok)(its:Array Vl)(n:Nat)(sl:Array (Option Vl)):
  Meets (Builtin.«object.__getattribute__» ⟨[.ref a,.str "keys" u],[]⟩) λA R s=>s.heap.get? a=Fa ⟨.type "list",Db,.seq its n,sl⟩/\A.handled=Db/\∀h' tk e,Heap.NewAttrErr s.heap h' e (.ref a) "keys"->R (.error (.ref e)) {s with heap:=h',toks:=tk}:=
 Meets.of_wp λprog w A R s hs=>by
  obtain⟨hp,g,d,tk,os⟩:=s;obtain⟨h1,h2,h3⟩:=hs;have hT:(⟨hp,g,d,tk,os⟩:Sd).TypeIs (.ref a) "list":=⟨_,h1,Z'⟩;have f1:=Gj;unfold Builtin.«object.__getattribute__»
  repeat (any_goals(first|assumption|wp_step))
  exact wpAny_raiseAttrError h2 h3 (attrMsg_fits (by decide+kernel) (by decide))
def Fi{s:Sd}{a:Uf}{its:Array Vl}{n:Nat}{sl:Array (Option Vl)}{Q:Option Vl->Sd->Prop}(ha:s.heap.get? a=Fa ⟨.type "list",Db,.seq its n,sl⟩)(hA:A.handled=Db) (h:∀h' tk,(∀b o,s.heap.get? b=Fa o->h'.get? b=Fa o)->Q Db {s with heap:=h',toks:=tk}):Ch (Tk prog w) A (getAttr? (.ref a) "keys") Q E s:=by
 obtain⟨hp,g,d,tk,os⟩:=s;have hT:(⟨hp,g,d,tk,os⟩:Sd).TypeIs (.ref a) "list":=⟨_,ha,Z'⟩;have f1:=sub_AttributeError;have f3:=iE.lookup;have f4:=iE.bind (.ref a);have f5:=A5;unfold getAttr? getAttrBy? getAttrBy
 repeat (any_goals(first|assumption|((with_reducible show Ch _ _ (call (Value.builtin "list.__getattribute__") _ _) _ _ _);refine jJ iE hT F.entry_list_ga (F.args_list_getattribute_2 _ _) (Oc a _ its n sl) ⟨ha,hA,λh' tk' e hx=>?_⟩)|wp_step))
 obtain⟨t',u',he⟩:=hx.there;show Ch _ _ (getattributeRaised _ _ _ _ _ _ _) _ _ _;unfold getattributeRaised
 repeat (any_goals(first|assumption|wp_step))
 all_goals first|exact h _ _ hx.keeps|skip
end
def AN:entryFor table "dict.update.loop"=Fa Builtin.«dict.update.loop»:=entryFor_of_tree (by kernel_rfl)
def wb:plainId "dict.update.loop"=pc:=by decide+kernel
section
variable {prog:Pg}{w:Wo}{A:Ar}{E:QQX}{R:Result→Sd→Prop}{κ:Type}[DecidableEq κ]{knd:PySem.KeyKind prog w κ}
 {I:Uf} {fp wr:QXQ} {G:Array GenState->Array GenState->Prop} {P:Nat->Vl->Prop} {St:Nat->Sd->Prop}
def QB{s:Sd}{t:Uf}{x y:Vl}{Q:T0 Vl->Sd->Prop}(h:s.heap.IsTuple t #[x,y])(q:Q [x,y] s):Ch (Tk prog w) A (Builtin.Dict.pairItems (.ref t)) Q E s:=by
 obtain⟨⟨oc,od,oda,YE⟩,h1,h2,n,h3⟩:=h;simp only at h2 h3;subst h2 h3;have hT:s.TypeIs (.ref t) "tuple":=⟨_,h1,Z'⟩;obtain⟨hp,g,d,tk,os⟩:=s;unfold Builtin.Dict.pairItems
 repeat (any_goals(first|assumption|wp_step))
def Lw{all:T0 (κ×Vl)}(W:WalksS prog w A.in1 I fp wr G all.length P St)(d:Uf)(hdf:d∉fp)(kv:Nat->Vl)(tp:Nat->Uf)(hP:∀i v,P i v->v=.ref (tp i))(hw:∀j,j<all.length->tp j∉wr/\tp j≠d) (hk:∀j p,all[j]?=Fa p->knd.is p.1 (kv j)=pc) (hz:all.length<=pi):
  ∀(k i:Nat) (z:Int) (s:Sd),all.length - i=k->i<=all.length->St i s->(∀j p,all[j]?=Fa p->s.heap.IsTuple (tp j) #[kv j,p.2])->s.heap.DictOf knd d (merged [] (all.take i))->
   (∀s',Moved (d::wr) G s s'->s'.heap.DictOf knd d (merged [] all)->R (.ok (.ret .none)) s')->XXk (Tk prog w) A (.builtin "dict.update.loop" ⟨[.ref d,.ref I,.int z 0,.none],[]⟩) R s:=by
 have hdw:d∉wr:=λh=>hdf (W.sub _ h);have Zv:∀b∈wr,b∈d::wr:=λb hb=>dM _ hb;intro k;induction k with
 | zero=>
  intro i z s hk0 hi X6 hT hD hR;have ZF:i=all.length:=by omega
  subst ZF;refine h9 AN ?_;rw[iq wb _];show Ch _ A.in1 (pyNext (.ref I)>>=_) _ _ s;refine de (W.done s _ _ X6 λs' hm=>?_);show Ch _ A.in1 (Builtin.Dict.addKeywords d []>>=_) _ _ s';refine de (dz (dz (hR s' (hm.mono Zv) ?_)));rw[fD]at hD;obtain⟨o,es,ep,ho,rest⟩:=hD;exact⟨o,es,ep,hm.heap d _ hdw ho,rest⟩
 | succ k ih=>
  intro i z s hk0 hi X6 hT hD hR;have XU:i<all.length:=by omega
  have Y2:all[i]?=Fa all[i]:=df XU;refine h9 AN ?_;rw[iq wb _];show Ch _ A.in1 (pyNext (.ref I)>>=_) _ _ s;refine de (W.item i s _ _ XU X6 λv s' hPv hst' hm=>?_);obtain rfl:=hP i v hPv;have hT':∀j p,all[j]?=Fa p->s'.heap.IsTuple (tp j) #[kv j,p.2]:=λj p e=>by obtain⟨o,h1,h2⟩:=hT j p e;exact⟨o,hm.heap _ _ (hw j (dh.mp e).1).1 h1,h2⟩
  have hD':s'.heap.DictOf knd d (merged [] (all.take i)):=by obtain⟨o,es,ep,ho,rest⟩:=hD;exact⟨o,es,ep,hm.heap d _ hdw ho,rest⟩
  show Ch _ A.in1 (TD [Value.ref (tp i)] _>>=_) _ _ s';refine de (eJ (de (wpAny_tryCatch (QB (hT' i _ Y2) ?_))));show Ch _ A.in1 (TD [kv i,all[i].2] (dictSet d (kv i) all[i].2)) _ _ s';refine eJ ?_;unfold dictSet;refine eJ (de (knd.pyHash (hk i _ Y2) ?_));have hl:(merged [] (all.take i)).length<=pi:=by have:=merged_length_le [] (all.take i);rw[fT]at this;simp only[dS]at this;omega
  refine wpAny_dictSetHashed_pairs (hsz:=hl) (hk i _ Y2) hD' λh' dd hs=>?_;rw[<-merged_take_succ [] all i _ Y2]at dd;refine dz ⟨kQ wb _,ih (i+1) _ _ (by omega) XU (W.frame _ s' _ _ hst' (gq _) λb hb o e=>?_) (λj p e=>?_) dd λs'' hm'' hD''=>?_⟩
  .rw[hs.2 b (λz:b=d=>hdf (z ▸ hb))];exact e
  .obtain⟨o,h1,h2⟩:=hT' j p e;refine⟨o,?_,h2⟩;show h'.get? (tp j)=Fa o;rw[hs.2 _ (hw j (dh.mp e).1).2];exact h1
  .refine hR s'' (m8 W.gtrans ((hm.mono Zv).then_heap (gq _) λb o hb e=>?_) hm'') hD'';rw[hs.2 b (λz:b=d=>hb (by rw[z];exact dO))];exact e
end
section
variable {prog:Pg}{w:Wo}{A:Ar}{E:QQX}{κ:Type}[DecidableEq κ]{knd:PySem.KeyKind prog w κ}{s:Sd}
def Bp{l:Uf}{its:Array Vl}{n:Nat}{sl:Array (Option Vl)}{all:T0 (κ×Vl)}{Q:QQX}(kv:Nat->Vl)(tp:Nat->Uf)(hh:A.handled=Db)(hl:s.heap.get? l=Fa ⟨.type "list",Db,.seq its n,sl⟩) (hits:∀(j:Nat) (v:Vl),its[j]?=Fa v->v=.ref (tp j)) (XN:its.size=all.length) (hT:∀j p,all[j]?=Fa p->s.heap.IsTuple (tp j) #[kv j,p.2]) (hk:∀j p,all[j]?=Fa p->knd.is p.1 (kv j)=pc) (hz:all.length<=pi) (h:∀h' tk,h'.DictOf knd s.heap.objs.size (merged [] all)->(∀b o,s.heap.get? b=Fa o->h'.get? b=Fa o)->Q (.ref s.heap.objs.size) {s with heap:=h',toks:=tk}):
  Ch (Tk prog w) A (call (.type "dict") [.ref l]) Q E s:=by
 refine callType_codes (Q₁:=λobj s₁=>obj=Value.ref s.heap.objs.size/\s₁={s with heap:=s.heap.push {cls:=.type "dict",data:=.dict #[]}}) PySem.F.kt_called_dict (PySem.F.kt_typeCall_dict_1 _) F.entry_dict_init (kt_code_dict_new _ ⟨Z',Z'⟩) ?_
 rintro obj s₁ ⟨rfl,rfl⟩
 have Zr:(s.heap.push {cls:=.type "dict",data:=.dict #[]}).DictOf knd s.heap.objs.size []:=Heap.DictOf.new s.heap;have hl':(s.heap.push {cls:=.type "dict",data:=.dict #[]}).get? l=Fa ⟨.type "list",Db,.seq its n,sl⟩:=dv _ hl;have hTl:Shared.TypeIs {s with heap:=s.heap.push {cls:=.type "dict",data:=.dict #[]}} (.ref l) "list":=⟨_,hl',Z'⟩;have lsz:l<s.heap.objs.size:=dD hl;refine⟨Zr.typeIs,F.args_dict_init_2 _ _,?_⟩;unfold Builtin.«dict.__init__»;refine de ?_;unfold Builtin.Dict.selfAndRest;refine de (wpAny_notOrdered_dict Zr.typeIs ?_);show Ch _ _ (pure (s.heap.objs.size,[Value.ref l])) _ _ _;refine dz ?_;show Ch _ _ (Builtin.Dict.updateFrom "dict.__init__" s.heap.objs.size (.ref l) [] .none) _ _ _;unfold Builtin.Dict.updateFrom;refine de (jT hTl ?_);rw[dw (by decide)];refine de (Fi hl' (by simpa using hh) λh' tk keep=>?_);have hl2:h'.IsList l its:=⟨_,keep _ _ hl',Z',n,Z'⟩;show Ch _ _ (rule _>>=_) _ _ _;refine de (kI (de (gR hl2 ?_)));have nd:h'.objs.size>s.heap.objs.size:=by have z:h'.get? s.heap.objs.size=Fa _:=keep _ _ (dP _ Z');exact dD z
 have hDn:h'.DictOf knd s.heap.objs.size []:=by obtain⟨o,es,ep,ho,rest⟩:=Zr;exact⟨o,es,ep,keep _ _ ho,rest⟩
 have hTs:∀j p,all[j]?=Fa p->h'.IsTuple (tp j) #[kv j,p.2]:=λj p e=>by obtain⟨o,h1,h2⟩:=hT j p e;exact⟨o,keep _ _ (dv _ h1),h2⟩
 have X3:l≠h'.objs.size:=dN (iD lsz nd);have W:=(kK (prog:=prog) (w:=w) (A:=A.in1.in1) (by simpa using hh) h'.objs.size l X3 its).toS;rw[XN]at W;refine dz ⟨kQ wb _,Lw (A:=A.in1) W s.heap.objs.size ?_ kv tp (λi v e=>hits i v e) (λj hj=>?_) hk hz all.length 0 0 _ (by omega) (eQ _) ⟨⟨_,dP _ Z',Z',Z'⟩,hl2.push _⟩ (λj p e=>(hTs j p e).push _) ?_ λs' hm hD=>?_⟩
 .simp only[dA,dQ,fj,fR];exact⟨dN nd,gY lsz⟩
 .have hj':all[j]?=Fa all[j]:=df hj;obtain⟨o,h1,_⟩:=hT j _ hj';have tsz:=dD h1;simp only[dA,dQ,fj];exact⟨dN (iD tsz nd),dN tsz⟩
 .obtain⟨o,es,ep,ho,rest⟩:=hDn;exact⟨o,es,ep,dv _ ho,rest⟩
 .obtain⟨h2,g2,d2,t2,o2⟩:=s';have eg:g2=s.gens:=hm.gens;have ed:d2=s.drawn:=hm.drawn;have eo:o2=s.os:=hm.os;subst eg ed eo;refine⟨Z',h h2 t2 hD λb o e=>?_⟩;have hb:=dD e;refine hm.heap b o ?_ (dv _ (keep _ _ (dv _ e)));simp only[dA,dQ,fj,fR];exact⟨dN hb,dN (iD hb nd)⟩
end
def tJ{κ:Type}[DecidableEq κ](l:List κ):List κ:=l.foldl (λacc k=>if k∈acc then acc else acc++[k]) []
def yI{κ:Type}[DecidableEq κ](l:List κ)(k:κ):tJ (l++[k])=if k∈tJ l then tJ l else tJ l++[k]:=by unfold tJ;rw[lP];rfl
def JA{κ:Type}[DecidableEq κ]:∀l:List κ,(tJ l).length<=l.length:=by
 have go:∀(l acc:List κ),(l.foldl (λacc k=>if k∈acc then acc else acc++[k]) acc).length<=acc.length+l.length:=by
  intro l;induction l with
  | nil=>intro acc;simp
  | cons k r ih=>
   intro acc;rw[gi];refine eD (ih _) ?_;split
   .simp only[eE];omega
   .simp only[eE,dg,dS];omega
 intro l;have:=go l []
 simpa [tJ]using this
def OB{κ:Type}[DecidableEq κ](x:κ):∀l:List κ,x∈tJ l↔x∈l:=by
 have go:∀(l acc:List κ),x∈l.foldl (λacc k=>if k∈acc then acc else acc++[k]) acc↔x∈acc\/x∈l:=by
  intro l;induction l with
  | nil=>intro acc;simp
  | cons k r ih=>
   intro acc;rw[gi,ih];by_cases h:k∈acc
   .rw[dw h,dA];constructor
    .rintro (z|z)
     .exact .inl z
     .exact .inr (.inr z)
    .rintro (z|z|z)
     .exact .inl z
     .subst z;exact .inl h
     .exact .inr z
   .rw[dq h,eB,dG,dA,or_assoc]
 intro l;have:=go l []
 simpa [tJ]using this
def IT{κ:Type}[DecidableEq κ]:∀l:List κ,l.Nodup->tJ l=l:=by
 have go:∀(l acc:List κ),(acc++l).Nodup->l.foldl (λacc k=>if k∈acc then acc else acc++[k]) acc=acc++l:=by
  intro l;induction l with
  | nil=>intro acc _;simp
  | cons k r ih=>
   intro acc h;have hk:k∉acc:=λz=>by rw[fY]at h;exact h.2.2 k z k dO Z'
   rw[gi,dq hk,ih]
   .rw[fz];rfl
   .rw[fz];exact h
 intro l h;have:=go l [] (by simpa using h)
 simpa [tJ]using this
section
variable {prog:Pg}{w:Wo}{A:Ar}{E:QQX}{R:Result→Sd→Prop}{κ:Type}[DecidableEq κ][BEq κ][LawfulBEq κ]{knd:PySem.KeyKind prog w κ}
 {I:Uf} {fp wr:QXQ} {G:Array GenState->Array GenState->Prop} {P:Nat->Vl->Prop} {St:Nat->Sd->Prop}
def GB{all:List κ}(W:WalksS prog w A.in1 I fp wr G all.length P St)(S:Uf)(hSf:S∉fp)(hval:∀i v k,P i v->all[i]?=Fa k->knd.is k v=pc/\v.scannable=pc)(hb:all.length+1<XXb):
  ∀(n i:Nat) (s:Sd),all.length - i=n->i<=all.length->St i s->s.heap.SetOf knd S (λx=>decide (x∈tJ (all.take i))) (tJ (all.take i)).length->
   (∀s',Moved (S::wr) G s s'->s'.heap.SetOf knd S (λx=>decide (x∈tJ all)) (tJ all).length->R (.ok (.ret .none)) s')->XXk (Tk prog w) A (.builtin "set.update.loop" ⟨[.ref S,.ref I],[]⟩) R s:=by
 have hSw:S∉wr:=λh=>hSf (W.sub _ h);have up:∀b∈wr,b∈S::wr:=λb hb=>dM _ hb;have kept:∀{s s':Sd} {T:κ->Bool} {m:Nat},Moved wr G s s'->s.heap.SetOf knd S T m->s'.heap.SetOf knd S T m:=λhm ⟨o,es,ep,t,ho,rest⟩=>⟨o,es,ep,t,hm.heap S _ hSw ho,rest⟩;intro n;induction n with
 | zero=>
  intro i s h0 hi X6 hS hR;obtain rfl:i=all.length:=by omega
  refine h9 iF ?_;rw[iq gK _];rw[fD]at hS;exact de (W.done s _ _ X6 λs' hm=>dz (hR s' (hm.mono up) (kept hm hS)))
 | succ n ih=>
  intro i s h0 hi X6 hS hR;have XU:i<all.length:=by omega
  have Y2:all[i]?=Fa all[i]:=df XU;refine h9 iF ?_;rw[iq gK _];refine de (W.item i s _ _ XU X6 λv s' hP hst' hm=>?_);obtain⟨k1,k2⟩:=hval i v _ hP Y2;have Zw:=kept hm hS;show Ch _ A.in1 (TD [v] (setAdd S v)>>=_) _ _ s';refine de (eJ ?_);unfold setAdd;refine eJ (de (knd.pyHash k1 ?_));have room:(tJ (all.take i)).length+1<XXb:=by have h1:=JA (all.take i);rw[fT]at h1;omega
  refine wpAny_setAddHashed_of (knd:=knd) (s:={s' with toks:=s'.toks+1}) k1 k2 Zw room λh' hsb hS2=>?_;have et:all.take (i+1)=all.take i++[all[i]]:=by rw[gS,Y2];rfl
  have hSi:h'.SetOf knd S (λx=>decide (x∈tJ (all.take (i+1)))) (tJ (all.take (i+1))).length:=by
   refine iG hS2 (λx=>?_) ?_
   .rw[et];by_cases XH:all[i]∈tJ (all.take i)
    .rw[yI,dw XH];by_cases hx:x=all[i]
     .subst hx;simp[XH]
     .simp[hx]
    .rw[yI,dq XH];by_cases hx:x=all[i]
     .subst hx;simp
     .simp[hx]
   .rw[et,yI];by_cases XH:all[i]∈tJ (all.take i)
    .rw[dw XH];simp[XH]
    .rw[dq XH];simp[XH]
  refine dz ⟨kQ gK _,ih (i+1) _ (by omega) XU (W.frame _ s' _ _ hst' (gq _) λb hb o e=>?_) hSi λs'' hm'' hS''=>?_⟩
  .rw[hsb.2 b (λz:b=S=>hSf (z ▸ hb))];exact e
  .refine hR s'' (m8 W.gtrans ((hm.mono up).then_heap (gq _) λb o hb e=>?_) hm'') hS'';rw[hsb.2 b (λz:b=S=>hb (by rw[z];exact dO))];exact e
end
def F2:isSubtype (.type "list") (.type "set")=pure lf:=by rw[jp];kernel_rfl
def Bf:isSubtype (.type "list") (.type "frozenset")=pure lf:=by rw[jp];kernel_rfl
section
variable {prog:Pg}{w:Wo}{A:Ar}{E:QQX}{κ:Type}[DecidableEq κ][BEq κ][LawfulBEq κ]{knd:PySem.KeyKind prog w κ}{s:Sd}
set_option maxHeartbeats 4000000 in
def DM{l:Uf}{XG:Array Vl}{all:List κ}{Q:QQX}(hh:A.handled=Db)(hl:s.heap.IsList l XG)(hn:XG.size=all.length)(hi:∀(i:Nat) (v:Vl) (k:κ),XG[i]?=Fa v->all[i]?=Fa k->knd.is k v=pc/\v.scannable=pc)(hb:all.length+1<XXb) (h:∀(h':No) (tk:Nat),h'.SetOf knd s.heap.objs.size (λx=>decide (x∈tJ all)) (tJ all).length->(∀b o,s.heap.get? b=Fa o->h'.get? b=Fa o)->Q (.ref s.heap.objs.size) {s with heap:=h',toks:=tk}):
  Ch (Tk prog w) A (call (.type "set") [.ref l]) Q E s:=by
 obtain⟨c,tl,hmro⟩:=fE.mro;have hmade:=fE.made;have Zv:=fE.sub;refine ip (ke ?_);show Ch _ _ (callAny (.type "set") _) _ _ _;refine dz ⟨iH _ (by decide+kernel),h9 lQ ?_⟩;rw[lC (kA "set" [.ref l] []) Z'];have h1:=fE.notType;have h2:=fE.canCreate;have hct:=mo (.ref l)
 repeat (any_goals(first|assumption|wp_step))
 have fresh:∀Yb:Bool,(s.heap.push {cls:=.type "set",dict:=none,data:=.set #[] 0 (.fresh 0 0 Yb)}).get? s.heap.objs.size=Fa {cls:=.type "set",dict:=none,data:=.set #[] 0 (.fresh 0 0 Yb)}:=λYb=>dP _ Z';refine gy (code_set_new_1 (.ref l) (E:=E) (Q₁:=λobj s₁=>∃Yb:Bool,obj=Value.ref s.heap.objs.size/\s₁={s with heap:=s.heap.push {cls:=.type "set",dict:=none,data:=.set #[] 0 (.fresh 0 0 Yb)}}) λYb=>⟨Yb,Z',Z'⟩) λr s₁ hr=>?_;cases r with
 | error e=>exact hr
 | ok fl=>
  cases fl with
  | ret obj=>
   obtain⟨Yb,rfl,rfl⟩:=hr;have hS:=fresh Yb;have hT:Shared.TypeIs {s with heap:=s.heap.push {cls:=.type "set",dict:=none,data:=.set #[] 0 (.fresh 0 0 Yb)}} (.ref s.heap.objs.size) "set":=⟨_,hS,Z'⟩;have hli:=fE.init.lookup;have hbi:=fE.init.bind (.ref s.heap.objs.size)
   repeat (any_goals(first|assumption|wp_step))
   refine gy (ir (R:=wants (λr s₂=>r=.none/\∃h' tk,s₂={s with heap:=h',toks:=tk}/\h'.SetOf knd s.heap.objs.size (λx=>decide (x∈tJ all)) (tJ all).length/\(∀b o,s.heap.get? b=Fa o->h'.get? b=Fa o)) E) fE.init.plain mq (mv hT ?_)) λr₂ s₂ hr₂=>?_
   .obtain⟨ol,hol,hcl,nl,hdl⟩:=hl;obtain⟨ocls,Zx,odata,Y3⟩:=ol;simp only at hcl hdl;subst hcl;subst hdl;have hol':(s.heap.push {cls:=.type "set",dict:=none,data:=.set #[] 0 (.fresh 0 0 Yb)}).get? l=Fa {cls:=.type "list",dict:=Zx,data:=.seq XG nl,slots:=Y3}:=dv _ hol;have hsls:=F2;have hslf:=Bf;have hnd:(Value.type "list"==Value.type "dict")=lf:=by decide
    have hl1:(s.heap.push {cls:=.type "set",dict:=none,data:=.set #[] 0 (.fresh 0 0 Yb)}).IsList l XG:=⟨_,hol',Z',nl,Z'⟩;unfold Builtin.«set.__init__» noKeywords Builtin.Frozenset.updateFrom;generalize hPI:pyIter=PI
    wp_walk
    subst hPI;refine gR hl1 ?_;refine de (wpAny_runValue ?_);have lS:l<s.heap.objs.size:=dD hol;have hh3:A.in1.in1.in1.handled=Db:=by simp[hh]
    have lI:l≠(s.heap.push {cls:=.type "set",dict:=none,data:=.set #[] 0 (.fresh 0 0 Yb)}).objs.size:=by rw[fB];exact dN (gh lS)
    have W:=(kK (prog:=prog) (w:=w) hh3 _ l lI XG).toS;rw[hn]at W;refine GB W s.heap.objs.size ?hf (λi v k e1 e2=>hi i v k e1 e2) hb all.length 0 _ (by omega) (eQ _) ⟨⟨_,dP _ Z',Z',Z'⟩,(hl1.push _)⟩ ?h0 ?hR;case hf=>rw[fB];simp only[dA,dQ,fj,fR];exact⟨dN (fM _),gY lS⟩
    case h0=>exact iG ((jv (knd:=knd) Yb).setOf (dv _ hS) (by unfold XXb;omega)) (λ_=>rfl) Z'
    case hR=>intro s' hm Zw;obtain⟨h',g',d',tk',os'⟩:=s';have eg:g'=s.gens:=hm.gens;have ed:d'=s.drawn:=hm.drawn;have eo:os'=s.os:=hm.os;subst eg;subst ed;subst eo;refine dz ?_;show Ch _ _ (ret Value.none) _ _ _;refine dz ⟨Z',h',tk',Z',Zw,λb o e=>?_⟩;have hb:=dD e;refine hm.heap b o ?_ (dv _ (dv _ e));rw[fB];simp only[dA,dQ,fj,fR];exact⟨dN hb,dN (gh hb)⟩
   .cases r₂ with
    | error e=>exact hr₂
    | ok fl₂=>
     cases fl₂ with
     | ret r=>
      obtain⟨rfl,h',tk,rfl,Zw,hk'⟩:=hr₂
      repeat (any_goals(first|assumption|wp_step))
      exact h _ _ Zw hk'
     | _=>exact hr₂.elim
  | _=>exact hr.elim
end
def DS:isSubtype (.type "tuple") (.type "set")=pure lf:=by rw[jp];kernel_rfl
def Az:isSubtype (.type "tuple") (.type "frozenset")=pure lf:=by rw[jp];kernel_rfl
section
variable {prog:Pg}{w:Wo}{A:Ar}{E:QQX}{κ:Type}[DecidableEq κ][BEq κ][LawfulBEq κ]{knd:PySem.KeyKind prog w κ}{s:Sd}
set_option maxHeartbeats 4000000 in
def CC{l:Uf}{XG:Array Vl}{all:List κ}{Q:QQX}(hh:A.handled=Db)(hl:s.heap.IsTuple l XG)(hn:XG.size=all.length)(hi:∀(i:Nat) (v:Vl) (k:κ),XG[i]?=Fa v->all[i]?=Fa k->knd.is k v=pc/\v.scannable=pc)(hb:all.length+1<XXb) (h:∀(h':No) (tk:Nat),h'.SetOf knd s.heap.objs.size (λx=>decide (x∈tJ all)) (tJ all).length->(∀b o,s.heap.get? b=Fa o->h'.get? b=Fa o)->Q (.ref s.heap.objs.size) {s with heap:=h',toks:=tk}):
  Ch (Tk prog w) A (call (.type "set") [.ref l]) Q E s:=by
 obtain⟨c,tl,hmro⟩:=fE.mro;have hmade:=fE.made;have Zv:=fE.sub;refine ip (ke ?_);show Ch _ _ (callAny (.type "set") _) _ _ _;refine dz ⟨iH _ (by decide+kernel),h9 lQ ?_⟩;rw[lC (kA "set" [.ref l] []) Z'];have h1:=fE.notType;have h2:=fE.canCreate;have hct:=mo (.ref l)
 repeat (any_goals(first|assumption|wp_step))
 have fresh:∀Yb:Bool,(s.heap.push {cls:=.type "set",dict:=none,data:=.set #[] 0 (.fresh 0 0 Yb)}).get? s.heap.objs.size=Fa {cls:=.type "set",dict:=none,data:=.set #[] 0 (.fresh 0 0 Yb)}:=λYb=>dP _ Z';refine gy (code_set_new_1 (.ref l) (E:=E) (Q₁:=λobj s₁=>∃Yb:Bool,obj=Value.ref s.heap.objs.size/\s₁={s with heap:=s.heap.push {cls:=.type "set",dict:=none,data:=.set #[] 0 (.fresh 0 0 Yb)}}) λYb=>⟨Yb,Z',Z'⟩) λr s₁ hr=>?_;cases r with
 | error e=>exact hr
 | ok fl=>
  cases fl with
  | ret obj=>
   obtain⟨Yb,rfl,rfl⟩:=hr;have hS:=fresh Yb;have hT:Shared.TypeIs {s with heap:=s.heap.push {cls:=.type "set",dict:=none,data:=.set #[] 0 (.fresh 0 0 Yb)}} (.ref s.heap.objs.size) "set":=⟨_,hS,Z'⟩;have hli:=fE.init.lookup;have hbi:=fE.init.bind (.ref s.heap.objs.size)
   repeat (any_goals(first|assumption|wp_step))
   refine gy (ir (R:=wants (λr s₂=>r=.none/\∃h' tk,s₂={s with heap:=h',toks:=tk}/\h'.SetOf knd s.heap.objs.size (λx=>decide (x∈tJ all)) (tJ all).length/\(∀b o,s.heap.get? b=Fa o->h'.get? b=Fa o)) E) fE.init.plain mq (mv hT ?_)) λr₂ s₂ hr₂=>?_
   .obtain⟨ol,hol,hcl,nl,hdl⟩:=hl;obtain⟨ocls,Zx,odata,Y3⟩:=ol;simp only at hcl hdl;subst hcl;subst hdl;have hol':(s.heap.push {cls:=.type "set",dict:=none,data:=.set #[] 0 (.fresh 0 0 Yb)}).get? l=Fa {cls:=.type "tuple",dict:=Zx,data:=.seq XG nl,slots:=Y3}:=dv _ hol;have hsls:=DS;have hslf:=Az;have hnd:(Value.type "tuple"==Value.type "dict")=lf:=by decide
    have hl1:(s.heap.push {cls:=.type "set",dict:=none,data:=.set #[] 0 (.fresh 0 0 Yb)}).IsTuple l XG:=⟨_,hol',Z',nl,Z'⟩;unfold Builtin.«set.__init__» noKeywords Builtin.Frozenset.updateFrom;generalize hPI:pyIter=PI
    wp_walk
    subst hPI;refine iI hl1 ?_;refine de (wpAny_runValue ?_);have lS:l<s.heap.objs.size:=dD hol;have hh3:A.in1.in1.in1.handled=Db:=by simp[hh]
    have lI:l≠(s.heap.push {cls:=.type "set",dict:=none,data:=.set #[] 0 (.fresh 0 0 Yb)}).objs.size:=by rw[fB];exact dN (gh lS)
    have W:=(Walks.tuple (prog:=prog) (w:=w) hh3 _ l lI XG).toS;rw[hn]at W;refine GB W s.heap.objs.size ?hf (λi v k e1 e2=>hi i v k e1 e2) hb all.length 0 _ (by omega) (eQ _) ⟨⟨_,dP _ Z',Z',Z'⟩,(hl1.push _)⟩ ?h0 ?hR;case hf=>rw[fB];simp only[dA,dQ,fj,fR];exact⟨dN (fM _),gY lS⟩
    case h0=>exact iG ((jv (knd:=knd) Yb).setOf (dv _ hS) (by unfold XXb;omega)) (λ_=>rfl) Z'
    case hR=>intro s' hm Zw;obtain⟨h',g',d',tk',os'⟩:=s';have eg:g'=s.gens:=hm.gens;have ed:d'=s.drawn:=hm.drawn;have eo:os'=s.os:=hm.os;subst eg;subst ed;subst eo;refine dz ?_;show Ch _ _ (ret Value.none) _ _ _;refine dz ⟨Z',h',tk',Z',Zw,λb o e=>?_⟩;have hb:=dD e;refine hm.heap b o ?_ (dv _ (dv _ e));rw[fB];simp only[dA,dQ,fj,fR];exact⟨dN hb,dN (gh hb)⟩
   .cases r₂ with
    | error e=>exact hr₂
    | ok fl₂=>
     cases fl₂ with
     | ret r=>
      obtain⟨rfl,h',tk,rfl,Zw,hk'⟩:=hr₂
      repeat (any_goals(first|assumption|wp_step))
      exact h _ _ Zw hk'
     | _=>exact hr₂.elim
  | _=>exact hr.elim
end
end L2
namespace HT
open PySem PyProof.Rows
variable {prog:Pg}{w:Wo}{A:Ar}{E:QQX}{s:Sd}
def zO{t sl:Uf}{vl vu:Vl}{lo hi:Option Int}{Q:QQX}(ht:IsTup s.heap t XG)(hs:s.heap.IsSliceOf sl vl vu .none)(pl:IsPart vl lo)(pu:IsPart vu hi) (hw:tO XG.size 0 lo=0/\tO XG.size XG.size hi=XG.size) (h:Q (.ref t) s):Ch (Tk prog w) A (XXg (.ref t) (.ref sl)) Q E s:=by
 obtain⟨os,hos,hcs,Y0⟩:=id hs;have hTs:s.TypeIs (.ref sl) "slice":=⟨os,hos,hcs⟩;unfold XXg
 try with_reducible refine eJ ?_
 first|refine de (dz ?_)|skip
 refine de (jD ht.typeIs (by decide) ?_);refine de (fS (name:=Str.ofString "__getitem__") ht.typeIs fJ (gf fJ ht.typeIs kW ?_ (lA _ _)));show Ch _ _ (Builtin.Tuple.tupleItemsOf (.ref t)>>=_) _ _ s;refine de (tupleItemsOf_ ht ?_);refine de (jT hTs ?_);rw[dw (by decide)];refine de (wW hs pl pu ?_);have yes:(((tO XG.size 0 lo:Nat):Int)==0&&(1:Int)==1&&(tO XG.size XG.size hi - tO XG.size 0 lo)==XG.size)=pc:=by rw[hw.1,hw.2];simp
 show Ch _ _ (if (((tO XG.size 0 lo:Nat):Int)==0&&(1:Int)==1&&(tO XG.size XG.size hi - tO XG.size 0 lo)==XG.size)=pc then _ else _) _ _ s;rw[dw yes];have hT:=ht.typeIs;obtain⟨hp,g,d,tk,o⟩:=s
 repeat (any_goals(first|assumption|wp_step))
 exact⟨_,Z',dz h⟩
end HT
namespace L2
variable {X:Cx}{p p2 pos Yr:Pos}{e:Go}{te:TE}
section
def Wh(K:qL):V->Option Int->Option Int->Hp->VK->Prop:=λx lo hi H Q=>∃a xs,x=.ref a/\vE K H a xs/\(HT.tO xs.length 0 lo=0/\HT.tO xs.length xs.length hi=xs.length)/\Q (.ref a) H
def SU:Vd X (Wh X.K):=by
 intro XF s Y H x v vl vu lo hi sl Q I rx hs pl pu h;obtain⟨a,xs,rfl,hx,hw,q⟩:=h;cases rx;obtain⟨its,r,ht,hz⟩:=I.tuple hx;have XN:its.toArray.size=xs.length:=by rw[dE];exact r.length.symm
 exact⟨"tuple",_,fJ.lookup,ht.typeIs,HT.zO ht hs pl pu (by rw[XN];exact hw) ⟨.ref a,H,I,Z',q⟩⟩
local instance (priority:=5000) keyBEq:BEq rH:=instBEqOfDecidableEq
local instance (priority:=5000) keyLaw:LawfulBEq rH:=inferInstanceAs (LawfulBEq (Sum Int Str))
def QA(K:qL)(te:TE):TE:=λY H Q=>te Y H λx H1=>∃a,∃ss:QQQ,x=.ref a/\(zb K H1 a (ss.map V.str)\/vE K H1 a (ss.map V.str))/\ss.length+1<XXb/\Q (.int (tJ ss).length) H1
def G'{ss:QQQ}(r:qO (ss.map V.str) us):us.length=ss.length/\∀(i:Nat) (v:Vl) (k:rH),us[i]?=Fa v->(ss.map λx=>(Sum.inr x:rH))[i]?=Fa k->(rQ P w).is k v=pc/\v.scannable=pc:=by
 refine⟨by rw[<-r.length,c9],λi v k e1 e2=>?_⟩;rw[dJ]at e2;cases q:ss[i]? with
 | none=>rw[q]at e2;cases e2
 | some x=>rw[q]at e2;cases e2;obtain⟨u,e3,t,rfl⟩:=r.get (i:=i) (x:=V.str x) (by rw[dJ,q];rfl);rw[e3]at e1;cases e1;exact⟨AW P w x t,Z'⟩
def NR{ss:QQQ}:(tJ (ss.map λx=>(Sum.inr x:rH))).length=(tJ ss).length:=by
 have go:∀(l acc:QQQ),(l.map λx=>(Sum.inr x:rH)).foldl (λacc k=>if k∈acc then acc else acc++[k]) (acc.map Sum.inr)=(l.foldl (λacc k=>if k∈acc then acc else acc++[k]) acc).map Sum.inr:=by
  intro l;induction l with
  | nil=>intro acc;rfl
  | cons k r ih=>
   intro acc;rw[eh,gi,gi];have hm:(Sum.inr k:rH)∈acc.map Sum.inr↔k∈acc:=by
    rw[dI];constructor
    .rintro ⟨y,h1,h2⟩;cases h2;exact h1
    .exact λh=>⟨k,h,Z'⟩
   by_cases h:k∈acc
   .rw[dw h,dw (hm.mpr h)];exact ih acc
   .rw[dq h,dq λz=>h (hm.mp z)];have:=ih (acc++[k]);rw[dY]at this;exact this
 have:=go ss [];unfold tJ;rw[iY]at this;rw[this,c9]
def Kv(hc:X.calm=pc)(he:PE X e te)(hg1:Gl X "len")(XH:X.mg "len"=Db)(hg2:Gl X "set")(X1:X.mg "set"=Db)(b1:zn "len"=Fa (.builtin "len"))(b2:zn "set"=Fa (.type "set")) (hs:Tl [e] X.env=[(lf,wp e X.env)]:=by rfl):PE X (.Call (.Name "len" p) [.Call (.Name "set" p2) [e] [] Yr] [] pos) (QA X.K te):=by
 intro XF s Y H Q I h;refine gc (vP I hg1 XH b1 ?_);refine hZ ?_ Z' Z';show Ch _ _ (spliced ((lf,wp (.Call (.Name "set" p2) [e] [] Yr) X.env)::sB pos (Tl [] X.env))) _ _ s;refine hW ?_;refine gc (vP I hg2 X1 b2 ?_);refine fH ?_ hs Z';rw[hs];show Ch _ _ (spliced ((lf,wp e X.env)::sB Yr (Tl [] X.env))) _ _ s;refine hW (sX (he XF s Y H _ I h) λu s1 ⟨x,H1,I1,r1,a,ss,ex,hq,hb,q⟩=>ii ?_);subst ex;obtain rfl:u=Value.ref a:=r1;have YC:(ss.map λx=>(Sum.inr x:rH)).length+1<XXb:=by rw[c9];exact hb
 have XJ:∀(h':No) (tk:Nat),h'.SetOf (rQ X.prog X.w) s1.heap.objs.size (λx=>decide (x∈tJ (ss.map λx=>(Sum.inr x:rH)))) (tJ (ss.map λx=>(Sum.inr x:rH))).length->(∀b o,s1.heap.get? b=Fa o->h'.get? b=Fa o)->
   Ch (Tk X.prog X.w) X.A (spliced (sB pos (Tl [] X.env))) (λvs s₁=>Ch (Tk X.prog X.w) X.A (call (.builtin "len") (.ref s1.heap.objs.size::vs)) (EP X XF Y Q) X.xe s₁) X.xe {s1 with heap:=h',toks:=tk}:=λh' tk hS keep=>by
  refine ii ?_;obtain⟨o,es,ep,t,ho,hex,hd,_,_,hz,hf,hn⟩:=hS;have XU:(es.size:Int)<2 ^ 63:=by have:XXb=4096:=rfl;omega
  refine call_len_set ho hex hd hf XU ?_;refine⟨.int es.size,H1,I1.kept keep,⟨_,Z'⟩,?_⟩;rw[hn,NR];exact q
 rcases hq with hq|hq
 .obtain⟨its,r,pl,hz⟩:=I1.list hq;obtain⟨k1,k2⟩:=G' (P:=X.prog) (w:=X.w) r;exact L2.DM (knd:=rQ X.prog X.w) (all:=ss.map λx=>(Sum.inr x:rH)) (I1.ok.hd hc) pl.isList (by rw[dE,k1,c9]) (λi v k e1 e2=>k2 i v k (by simpa using e1) e2) YC XJ
 .obtain⟨its,r,pl,hz⟩:=I1.tuple hq;obtain⟨k1,k2⟩:=G' (P:=X.prog) (w:=X.w) r;exact L2.CC (knd:=rQ X.prog X.w) (all:=ss.map λx=>(Sum.inr x:rH)) (I1.ok.hd hc) pl (by rw[dE,k1,c9]) (λi v k e1 e2=>k2 i v k (by simpa using e1) e2) YC XJ
end
variable {XF:T0 (Uf × Obj)}{Y:St}{H:Hp}{s:Sd}
theorem Et(I:Inv X XF Y H s):∀(ts:QXQ) (kvs:T0 (rH×V)),ts.length=kvs.length->(∀(j:Nat) (t:Uf) (p:rH×V),ts[j]?=Fa t->kvs[j]?=Fa p->vE X.K H t [kV p.1,p.2])->
  ∃(us:T0 Vl) (all:T0 (rH×Vl)),us.length=kvs.length/\KV kvs all/\∀(j:Nat) (t:Uf) (p:rH×Vl),ts[j]?=Fa t->all[j]?=Fa p->∃u,us[j]?=Fa u/\s.heap.IsTuple t #[u,p.2]/\(rQ X.prog X.w).is p.1 u=pc
 | [],[],_,_=>⟨[],[],Z',.nil,λj t p e=>by simp at e⟩
 | [],_::_,h,_=>by simp at h
 | _::_,[],h,_=>by simp at h
 | t::ts,(k,v)::kvs,h,hq=>by
  obtain⟨us,all,h1,h2,h3⟩:=Et I ts kvs (by simpa using h) (λj t p e1 e2=>hq (j+1) t p (by simpa using e1) (by simpa using e2));obtain⟨its,r,pl,_⟩:=I.tuple (hq 0 t (k,v) (by simp) (by simp));cases r with
  | cons r1 r2=>
   cases r2 with
   | cons r3 r4=>
    cases r4;rename_i u w;refine⟨u::us,(k,w)::all,by simpa using h1,.cons ⟨Z',r3⟩ h2,λj t' p e1 e2=>?_⟩;cases j with
    | zero=>
     have e1':t=t':=by simpa using e1
     have ZS:(k,w)=p:=by simpa using e2
     subst e1' ZS;exact⟨u,by simp,pl,Hm r1⟩
    | succ j=>simpa using h3 j t' p (by simpa using e1) (by simpa using e2)
theorem Nl:∀{kvs:T0 (rH×V)} {all:T0 (rH×Vl)},KV kvs all->all.map (·.1)=kvs.map (·.1)
 | _,_,.nil=>rfl
 | _,_,.cons r rs=>by rw[eh,eh,Nl rs,r.1]
def Iz(hc:X.calm=pc):yP X (.type "dict") (λxs H Q=>∃l,∃ts:QXQ,∃kvs:T0 (rH×V),xs=[V.ref l]/\zb X.K H l (ts.map V.ref)/\ts.length=kvs.length/\
  (∀(j:Nat) (t:Uf) (p:rH×V),ts[j]?=Fa t->kvs[j]?=Fa p->vE X.K H t [kV p.1,p.2])/\(kvs.map (·.1)).Nodup/\∀d,H d=Db->Q (.ref d) (upd H d (.dK kvs))):=by
 intro XF s Y H xs us Q I r h;obtain⟨l,ts,kvs,rfl,hl,XN,hq,hnd,q⟩:=h;obtain⟨u,rfl,ru⟩:=xM r;cases ru;obtain⟨its,rv,⟨⟨c1,d1,t1,sl1⟩,n,g1,e1,e2,e3⟩,hz⟩:=I.list hl;simp only at e1 e2 e3;subst e1 e2 e3;obtain⟨ks,all,h1,h2,h3⟩:=Et I ts kvs XN hq;have la:all.length=kvs.length:=(jy h2).symm;have li:its.length=kvs.length:=by rw[<-rv.length,c9,XN]
 have zl:all.length<=pi:=by rw[la,<-XN];simpa using hz
 have at_:∀(j:Nat) (p:rH×Vl),all[j]?=Fa p->∃t,ts[j]?=Fa t:=λj p e=>by have:=(dh.mp e).1;exact⟨ts[j],df (by omega)⟩
 refine Bp (knd:=rQ X.prog X.w) (all:=all) (λj=>(ks[j]?).getD .none) (λj=>(ts[j]?).getD 0) (I.ok.hd hc) g1 (λj v e=>?_) (by rw[dE,li,la]) (λj p e=>?_) (λj p e=>?_) zl λh' tk hD keep=>?_
 .have e':its[j]?=Fa v:=by simpa using e
  have hj:=(dh.mp e').1;have hj2:j<ts.length:=by omega
  obtain⟨w,e4,e5⟩:=rv.get (i:=j) (x:=V.ref ts[j]) (by rw[dJ,df hj2];rfl);rw[e']at e4;cases e4;show v=Value.ref ((ts[j]?).getD 0);rw[df hj2];exact e5
 .obtain⟨t,et⟩:=at_ j p e;obtain⟨u,e4,e5,_⟩:=h3 j t p et e;show s.heap.IsTuple ((ts[j]?).getD 0) #[(ks[j]?).getD .none,p.2];rw[et,e4];exact e5
 .obtain⟨t,et⟩:=at_ j p e;obtain⟨u,e4,_,e6⟩:=h3 j t p et e;show(rQ X.prog X.w).is p.1 ((ks[j]?).getD .none)=pc;rw[e4];exact e6
 .rw[merged_nil_of_nodup all (by rw[Nl h2];exact hnd)]at hD;have fr:=I.nB.fresh (dC s.heap.objs.size);exact⟨.ref s.heap.objs.size,_,I.laid (t':=tk) (o:=.dK kvs) keep (dC _) (Oo (by rw[<-la];exact zl) (gj.mpr (dW (dN I.big))) h2 hD),Z',q _ fr⟩
def VZ:R2:=λx y H Q=>∃a v,x=.ref a/\FC H a y (Fa v)/\Q v H
def Pm(hu:X.A.units+1<XXa):Ub X VZ:=by
 intro value XW XF s Y H x y o i Q I rx ry h hs;obtain⟨a,v,rfl,g,q⟩:=h;obtain rfl:o=Value.ref a:=rx;have hT:=GT I g;have h2:Ch (Tk X.prog X.w) X.A (XXg (.ref a) i) (EP X XF Y Q) X.xe s:=K2 hu I g ry λw' s3 I3 ZQ=>⟨v,H,I3,ZQ,q⟩;unfold subscriptTail;refine de ?_;rw[kB hT.not_modules];refine de (iZ hT jK.lookup ?_);have XJ:Ch (Tk X.prog X.w) X.A (subscripted XW lf (.ref a) i) (λr s₃=>Ch (Tk X.prog X.w) X.A (letTemporaryGo value (.ref a) r>>=λ_=>pure r) (EP X XF Y Q) X.xe s₃) X.xe s:=by rw[hs];exact wpAny_operating (eF h2 (λr s₃ h₃=>de (kM (dz h₃))) λ_ _ x=>x)
 first
  | exact dz (de XJ)
  | exact de (dz (de XJ))
  | exact de XJ
def SN(hu:X.A.units+1<XXa):xY X (Op .In) (λx y H Q=>∃a o,y=.ref a/\FC H a x o/\Q (.bl o.isSome) H):=by intro XF s Y H x y v u Q I rx ry h;obtain⟨a,o,rfl,g,q⟩:=h;obtain rfl:u=Value.ref a:=ry;exact Wt hu I g rx λs3 I3=>⟨.bl o.isSome,H,I3,Z',q⟩
variable {prog:Pg}{w:Wo}{A:Ar}{E:QQX}{a:Uf}{U:Type}{k:Str}{tk:Tok}
section
variable {R:U→Vl→Prop}{D:T0 (Str × U)}
def y9(T:KTD.TabOf R s.heap a D):s.TypeIs (.ref a) "dict":=let⟨_,o,_,_,ho,hc,_⟩:=T;⟨o,ho,hc.1⟩
def Kg{Q:Option Vl->Sd->Prop}(T:KTD.TabOf R s.heap a D)(h1:∀d v,KTD.datumAt k D=Fa d->R d v->Q (Fa v) {s with toks:=s.toks+1})(h2:KTD.datumAt k D=Db->Q Db {s with toks:=s.toks+1}):
  Ch (Tk prog w) A (dictGet a (.str k tk)) Q E s:=by
 obtain⟨_,o,es,ep,ho,hc,hd,hr⟩:=T;have hq:Q (findBy (λk v=>v.isStr k) es k) {s with toks:=s.toks+1}:=by
  have hf:findBy (λk v=>v.isStr k) es k=(es.toList.find? λe=>e.key.isStr k).map (·.val):=by obtain⟨l⟩:=es;simp[findBy]
  rw[hf];cases ZX:KTD.datumAt k D with
  | none=>rw[hr.find_none ZX];exact h2 ZX
  | some d=>obtain⟨v,hv,hfl⟩:=hr.find_some ZX;rw[hv];exact h1 d v ZX hfl
 have Yp:(es.all λe=>isExactStrKey e.key)=pc:=by
  obtain⟨l⟩:=es
  simpa using hr.exact
 unfold dictGet
 try with_reducible refine eJ ?_
 refine de (l0 (de (KTD.kt_dictFind_strs (s:={s with toks:=s.toks+1}) ho hd Yp ?_)));rw[findBy_of_findIdx?]at hq;cases hi:es.findIdx? λe=>e.key.isStr k with
 | none=>rw[hi]at hq;exact dz hq
 | some i=>rw[hi]at hq;exact de (wpAny_dictEntries (s:={s with toks:=s.toks+1}) ho hd (dz hq))
def RP{Q:QQX}(T:KTD.TabOf R s.heap a D)(h:Q (.bool (KTD.datumAt k D).isSome) {s with toks:=s.toks+1}):Ch (Tk prog w) A (Op .In (.str k tk) (.ref a)) Q E s:=by
 have hT:=y9 T;show Ch _ _ (do return .bool (<-contains (.ref a) (.str k tk))) Q E s;refine de ?_;unfold contains
 try with_reducible refine eJ ?_
 refine de (iZ hT jw.lookup ?_);show Ch _ _ (if (Fa (Value.builtin "dict.__contains__")==Fa Value.none)=pc then _ else _) _ E s;rw[dq (by rw[beq_builtin_none];exact dF)];refine de (wpAny_callSpecialUnlessNone?_slot (name:=Str.ofString "__contains__") hT jw (gf jw hT entry_dict_contains ?_ (args_dict_contains _ _)));show Ch _ _ (dictGet a (.str k tk)>>=_) _ _ s;refine de (Kg T (λd v ha _=>?_) λhn=>?_)
 .rw[ha]at h;show Ch _ _ (ret (.bool pc)) _ _ _;exact dz ⟨_,Z',fv (dz h)⟩
 .rw[hn]at h;show Ch _ _ (Builtin.Dict.pendingKey? a (.str k tk)>>=_) _ _ _;exact de (wpAny_pendingKey_other T.1 (dz ⟨_,Z',fv (dz h)⟩))
def Nx{Q:QQX}{d:U}(T:KTD.TabOf R s.heap a D)(hd:KTD.datumAt k D=Fa d)(h:∀v,R d v->Q v {s with toks:=s.toks+1}):Ch (Tk prog w) A (XXg (.ref a) (.str k tk)) Q E s:=by
 have hT:=y9 T;unfold XXg
 try with_reducible refine eJ ?_
 refine de (jD hT (by decide) ?_);refine de (fS (name:=Str.ofString "__getitem__") hT lR (gf lR hT entry_dict_getitem ?_ (args_dict_getitem _ _)));show Ch _ _ (dictGet a (.str k tk)>>=_) _ _ s;refine de (Kg T (λd' v ha hv=>dz ⟨v,Z',dz (h v ?_)⟩) λhn=>?_)
 .rw[hd]at ha;cases ha;exact hv
 .rw[hd]at hn;cases hn
end
def NW(K:qL)(mg:QQZ)(x:Str)(F:T0 (Str×QQQ)):Prop:=∃a o es ep,mg x=Fa (.ref a)/\(a==XV)=lf/\K.lookup a=Fa o/\o.ExactDict/\o.data=.dict es ep/\
 KTD.Rows (λ(ss:QQQ) v=>∃t,v=Value.ref t/\vE K (λ_=>Db) t (ss.map V.str)) es.toList F
variable {x:Str}{F:T0 (Str × QQQ)}
def JJ{K:qL}(h:vE K (λ_=>Db) t xs):vE K H t xs:=by
 rcases h with(h|⟨o,h⟩)|h
 .cases h
 .cases h
 .exact .inr h
def Gn{K:qL}(T:NW K mg x F):∃a,mg x=Fa (.ref a)/\∀h:No,K.In h->KTD.TabOf (λ(ss:QQQ) v=>∃t,v=Value.ref t/\vE K (λ_=>Db) t (ss.map V.str)) h a F:=by obtain⟨a,o,es,ep,h1,h2,h3,h4,h5,h6⟩:=T;exact⟨a,h1,λh hk=>⟨h2,o,es,ep,hk a o h3,h4,h5,h6⟩⟩
def Wc(x:Str):It:=⟨λi _=>i<x.cps.size,λi H v H'=>H'=H/\∃c,x.cps[i]?=Fa c/\v=.str ⟨#[c]⟩,λi _=>i=x.cps.size⟩
def Gm{K:qL}{ty:String}{x:Str}{t:Tok}(it:Uf)(W:∀A':Ar,A'.handled=Db->Walks P w A' it [it] [it] x.cps.size (SignAt x) (λi h=>h.IsStrIter it ty x t i)) (hself:∀(A:Ar) (i:Nat) (s:Sd) (Q:QQX) (E:QQX),s.heap.IsStrIter it ty x t i->Q (.ref it) s->Ch (Tk P w) A (pyIter (.ref it)) Q E s) (hn:["enumerate","zip","dict_itemiterator","dict_reverseitemiterator","odict_iterator","itertools.zip_longest","itertools.pairwise"].contains ty=lf):GP P w K tg (Wc x) [it] it (λi h=>h.IsStrIter it ty x t i) where
 mem:=by simp
 obj:=λi h st b hb=>by
  obtain rfl:b=it:=by simpa using hb
  obtain⟨o,e,c,d⟩:=st;exact⟨o,e,λv z=>by rw[d]at z;cases z⟩
 keep:=λi h h' st k=>by obtain⟨o,e,r⟩:=st;exact⟨o,k it (by simp) o e,r⟩
 item:=by intro X hP hw hK hc i XF s Y H E I hf st hg;subst hP hw hK;obtain⟨f0,f1,f2,f3,f4,f5⟩:=hf it (by simp);refine(W X.A (I.ok.hd hc)).item i s _ _ hg st λv h' tk hv Yz kp=>?_;obtain⟨c,u,e1,e2⟩:=hv;have I1:Inv X XF Y H {s with heap:=h',toks:=tk}:=I.turned (t':=tk) (λb o hb e=>kp b o (by simpa using hb) e) f0 f1 f3 f4 f5;obtain⟨o,e,cl,d⟩:=id Yz;exact⟨v,Z',Jt (s:={s with heap:=h',toks:=tk}) e cl d hn ⟨.str ⟨#[c]⟩,H,I1,⟨u,e2⟩,⟨Z',c,e1,Z'⟩,Yz,λb hb=>(hf b hb).1⟩⟩
 done:=by intro X hP hw hK hc i XF s Y H E I hf st hg;subst hP hw hK;obtain⟨f0,f1,f2,f3,f4,f5⟩:=hf it (by simp);obtain rfl:i=x.cps.size:=hg;exact(W X.A (I.ok.hd hc)).done s _ _ st λh' tk kp=>⟨Z',I.turned (t':=tk) (λb o hb e=>kp b o (by simpa using hb) e) f0 f1 f3 f4 f5⟩
 self:=hself
variable {tg:Go}
def O7(hc:X.calm=pc)(hl:PE X l tl):PI X tg l (λY H R=>tl Y H λx H1=>(∃a,x=.ref a/\(((∃xs,zb X.K H1 a xs)/\R (VQ X.K a) H1)\/((∃xs,vE X.K H1 a xs)/\R (W7 X.K a) H1)))\/∃z,x=.str z/\R (Wc z) H1):=by
 intro XF s Y H R I h;refine sX (hl XF s Y H _ I h) λv s1 zz=>x5 zz λx H1 I1 r1 q1=>?_;rcases q1 with⟨a,e,q1⟩|⟨z,e,q⟩
 .subst e;cases r1;rcases q1 with⟨⟨xs,hq⟩,q⟩|⟨⟨xs,hq⟩,q⟩
  .obtain⟨its,rv,p,hz⟩:=I1.list hq;refine gR p.isList ?_;refine⟨s1.heap.objs.size,[s1.heap.objs.size],_,_,H1,Z',I1.kept (t':=s1.toks) λb o e=>dv _ e,Kq a _,⟨_,dP _ Z',Z',Z'⟩,λb hb=>?_,q⟩;obtain rfl:b=s1.heap.objs.size:=by simpa using hb
   exact I1.oH (dC _) (I1.nB.fresh (dC _))
  .obtain⟨its,rv,p,hz⟩:=I1.tuple hq;refine iI (show s1.heap.IsTuple a its.toArray from p) ?_;refine⟨s1.heap.objs.size,[s1.heap.objs.size],_,_,H1,Z',I1.kept (t':=s1.toks) λb o e=>dv _ e,HP a _,⟨_,dP _ Z',Z',Z'⟩,λb hb=>?_,q⟩;obtain rfl:b=s1.heap.objs.size:=by simpa using hb
   exact I1.oH (dC _) (I1.nB.fresh (dC _))
 .subst e;obtain⟨t,rfl⟩:=r1;have fp:∀b∈[s1.heap.objs.size],Bb X XF H1 b:=λb hb=>by
   obtain rfl:b=s1.heap.objs.size:=by simpa using hb
   exact I1.oH (dC _) (I1.nB.fresh (dC _))
  cases ha:z.cps.all (·<128)
  .refine wpAny_pyIter_wide ha ?_;exact⟨s1.heap.objs.size,[s1.heap.objs.size],_,_,H1,Z',I1.kept (t':=s1.toks) λb o e=>dv _ e,Gm _ (λA' hA=>Walks.strWide hA _ z t) (λA i s Q E st h=>wpAny_pyIter_striter_wide st h) (by decide),⟨_,dP _ Z',Z',Z'⟩,fp,q⟩
  .refine wpAny_pyIter_ascii ha ?_;exact⟨s1.heap.objs.size,[s1.heap.objs.size],_,_,H1,Z',I1.kept (t':=s1.toks) λb o e=>dv _ e,Gm _ (λA' hA=>Walks.strAscii hA _ z t) (λA i s Q E st h=>wpAny_pyIter_striter_ascii st h) (by decide),⟨_,dP _ Z',Z',Z'⟩,fp,q⟩
end L2
namespace L2
inductive AU{α0:Sort u}{α1:Sort v}(p:α0->α1->Prop):Prop
 | mk (a0:α0) (a1:α1) (h:p a0 a1):AU p
inductive BV{α0:Sort u}{α1:Sort v}{α2:Sort w}(p:α0->α1->α2->Prop):Prop
 | mk (a0:α0) (a1:α1) (a2:α2) (h:p a0 a1 a2):BV p
def x7{α:Sort u}{β:Sort v}{γ:Sort w}{p q r s:α->β->γ->Prop}{C:Prop}(h:BV λa b c=>p a b c/\q a b c/\r a b c/\s a b c)(f:∀a b c,p a b c->q a b c->r a b c->s a b c->C):C:=by obtain⟨a,b,c,h1,h2,h3,h4⟩:=h;exact f a b c h1 h2 h3 h4
def LF{α:Sort u}{β:Sort v}{γ:Sort w}{p q r s s1 s2 s3:α->β->γ->Prop}{C:Prop}(h:BV λa b c=>p a b c/\q a b c/\r a b c/\s a b c/\s1 a b c/\s2 a b c/\s3 a b c)(f:∀a b c,p a b c->q a b c->r a b c->s a b c->s1 a b c->s2 a b c->s3 a b c->C):C:=by obtain⟨a,b,c,h1,h2,h3,h4,h5,h6,h7⟩:=h;exact f a b c h1 h2 h3 h4 h5 h6 h7
inductive Br{α0:Sort u}{α1:Sort v}{α2:Sort w}{α3:Sort u1}(p:α0->α1->α2->α3->Prop):Prop
 | mk (a0:α0) (a1:α1) (a2:α2) (a3:α3) (h:p a0 a1 a2 a3):Br p
inductive HI{α0:Sort u}{α1:Sort v}{α2:Sort w}{α3:Sort u1}{α4:Sort u2}(p:α0->α1->α2->α3->α4->Prop):Prop
 | mk (a0:α0) (a1:α1) (a2:α2) (a3:α3) (a4:α4) (h:p a0 a1 a2 a3 a4):HI p
inductive Ls{α0:Sort u}{α1:Sort v}{α2:Sort w}{α3:Sort u1}{α4:Sort u2}{α5:Sort u3}(p:α0->α1->α2->α3->α4->α5->Prop):Prop
 | mk (a0:α0) (a1:α1) (a2:α2) (a3:α3) (a4:α4) (a5:α5) (h:p a0 a1 a2 a3 a4 a5):Ls p
inductive T8{α0:Sort u}{α1:Sort v}{α2:Sort w}{α3:Sort u1}{α4:Sort u2}{α5:Sort u3}{α6:Sort u4}(p:α0->α1->α2->α3->α4->α5->α6->Prop):Prop
 | mk (a0:α0) (a1:α1) (a2:α2) (a3:α3) (a4:α4) (a5:α5) (a6:α6) (h:p a0 a1 a2 a3 a4 a5 a6):T8 p
inductive Ue{α0:Sort u}{α1:Sort v}{α2:Sort w}{α3:Sort u1}{α4:Sort u2}{α5:Sort u3}{α6:Sort u4}{α7:Sort u5}(p:α0->α1->α2->α3->α4->α5->α6->α7->Prop):Prop
 | mk (a0:α0) (a1:α1) (a2:α2) (a3:α3) (a4:α4) (a5:α5) (a6:α6) (a7:α7) (h:p a0 a1 a2 a3 a4 a5 a6 a7):Ue p
inductive U'{α0:Sort u}{α1:Sort v}{α2:Sort w}{α3:Sort u1}{α4:Sort u2}{α5:Sort u3}{α6:Sort u4}{α7:Sort u5}{α8:Sort u6}(p:α0->α1->α2->α3->α4->α5->α6->α7->α8->Prop):Prop
 | mk (a0:α0) (a1:α1) (a2:α2) (a3:α3) (a4:α4) (a5:α5) (a6:α6) (a7:α7) (a8:α8) (h:p a0 a1 a2 a3 a4 a5 a6 a7 a8):U' p
inductive MA{α0:Sort u}{α1:Sort v}{α2:Sort w}{α3:Sort u1}{α4:Sort u2}{α5:Sort u3}{α6:Sort u4}{α7:Sort u5}{α8:Sort u6}{α9:Sort u7}(p:α0->α1->α2->α3->α4->α5->α6->α7->α8->α9->Prop):Prop
 | mk (a0:α0) (a1:α1) (a2:α2) (a3:α3) (a4:α4) (a5:α5) (a6:α6) (a7:α7) (a8:α8) (a9:α9) (h:p a0 a1 a2 a3 a4 a5 a6 a7 a8 a9):MA p
inductive Wm{α0:Sort u}{α1:Sort v}{α2:Sort w}{α3:Sort u1}{α4:Sort u2}{α5:Sort u3}{α6:Sort u4}{α7:Sort u5}{α8:Sort u6}{α9:Sort u7}{α10:Sort u8}(p:α0->α1->α2->α3->α4->α5->α6->α7->α8->α9->α10->Prop):Prop
 | mk (a0:α0) (a1:α1) (a2:α2) (a3:α3) (a4:α4) (a5:α5) (a6:α6) (a7:α7) (a8:α8) (a9:α9) (pO:α10) (h:p a0 a1 a2 a3 a4 a5 a6 a7 a8 a9 pO):Wm p
inductive Wf{α0:Sort u}{α1:Sort v}{α2:Sort w}{α3:Sort u1}{α4:Sort u2}{α5:Sort u3}{α6:Sort u4}{α7:Sort u5}{α8:Sort u6}{α9:Sort u7}{α10:Sort u8}{α11:Sort u9}(p:α0->α1->α2->α3->α4->α5->α6->α7->α8->α9->α10->α11->Prop):Prop
 | mk (a0:α0) (a1:α1) (a2:α2) (a3:α3) (a4:α4) (a5:α5) (a6:α6) (a7:α7) (a8:α8) (a9:α9) (pO:α10) (a11:α11) (h:p a0 a1 a2 a3 a4 a5 a6 a7 a8 a9 pO a11):Wf p
end L2
namespace L2
open PySem
def VG(a C:Uf)(h:No):Prop:=AU λoe vs=>h.get? a=Fa oe/\oe.cls=.ref C/\oe.data=.fields vs/\oe.dict=Db
end L2
namespace L3
open L2
inductive D where
 | nz|bl (b:Bool)|int (i:Int)|str (x:Str)|tup (ds:List D)|ref (a:Uf)|ty (n:String)
 | rl (ds:List D)
def P6(K:qL)(H:Hp)(a:Uf)(xs:T0 V):Prop:=(∃o,H a=Fa (.frz o (.lst xs)))\/
 ∃(o:Obj) (its:Array Vl) (n:Nat),K.lookup a=Fa o/\o.cls=.type "list"/\o.dict=Db/\o.data=.seq its n/\its.size<=pi/\qO xs its.toList
def P6.sq{K:qL}(h:P6 K H a xs):zb K H a xs:=by
 rcases h with⟨o,h⟩|h
 .exact .inl (.inr ⟨o,h⟩)
 .exact .inr h
mutual
def sr(K:qL)(H:Hp):D->V->Prop
 | .nz,v=>v=.nz
 | .bl b,v=>v=.bl b
 | .int i,v=>v=.int i
 | .str x,v=>v=.str x
 | .ref a,v=>v=.ref a
 | .ty n,v=>v=.ty n
 | .tup ds,v=>∃a xs,v=.ref a/\vE K H a xs/\qF K H ds xs
 | .rl ds,v=>∃a xs,v=.ref a/\P6 K H a xs/\qF K H ds xs
def qF(K:qL)(H:Hp):T0 D->T0 V->Prop
 | [],xs=>xs=[]
 | d::ds,xs=>∃x r,xs=x::r/\sr K H d x/\qF K H ds r
end
structure rg(K:qL)(H H':Hp):Prop where
 t:∀a xs,vE K H a xs->vE K H' a xs
 f:∀a o xs,H a=Fa (.frz o (.lst xs))->H' a=Fa (.frz o (.lst xs))
def rg.refl{K:qL}:rg K H H:=⟨λ_ _ h=>h,λ_ _ _ h=>h⟩
def rg.trans{K:qL}(a:rg K H H1)(b:rg K H1 H2):rg K H H2:=⟨λc xs h=>b.t c xs (a.t c xs h),λc o xs h=>b.f c o xs (a.f c o xs h)⟩
def rg.upd{K:qL}(h:∀xs,¬Rd H p (.tup xs))(h':∀u xs,H p≠Fa (.frz u (.lst xs))):rg K H (upd H p o):=⟨λa xs q=>by
 rcases q with q|q
 .have ne:a≠p:=λz=>h xs (z ▸ q);rcases q with q|⟨u,q⟩
  .exact .inl (.inl (by rw[qw ne];exact q))
  .exact .inl (.inr ⟨u,by rw[qw ne];exact q⟩)
 .exact .inr q,λa u xs q=>by
 have ne:a≠p:=λz=>h' u xs (z ▸ q);rw[qw ne];exact q⟩
def rg.new{K:qL}{H:Hp}{p:Uf}(h:H p=Db):rg K H (L2.upd H p o):=.upd (λxs q=>by
 rcases q with q|⟨u,q⟩<;>(rw[h]at q;cases q)) λu xs q=>by rw[h]at q;cases q
def P6.mono{K:qL}(e:rg K H H')(h:P6 K H a xs):P6 K H' a xs:=by
 rcases h with⟨o,h⟩|h
 .exact .inl ⟨o,e.f a o xs h⟩
 .exact .inr h
mutual
theorem sr.mono{K:qL}(e:rg K H H'):∀{d:D} {v:V},sr K H d v->sr K H' d v
 | .nz,_,h=>h
 | .bl _,_,h=>h
 | .int _,_,h=>h
 | .str _,_,h=>h
 | .ref _,_,h=>h
 | .ty _,_,h=>h
 | .tup ds,v,h=>by unfold sr at h ⊢;obtain⟨a,xs,e1,e2,e3⟩:=h;exact⟨a,xs,e1,e.t _ _ e2,qF.mono e e3⟩
 | .rl ds,v,h=>by unfold sr at h ⊢;obtain⟨a,xs,e1,e2,e3⟩:=h;exact⟨a,xs,e1,e2.mono e,qF.mono e e3⟩
theorem qF.mono{K:qL}(e:rg K H H'):∀{ds:T0 D} {xs:T0 V},qF K H ds xs->qF K H' ds xs
 | [],_,h=>h
 | d::ds,xs,h=>by unfold qF at h ⊢;obtain⟨x,r,e1,e2,e3⟩:=h;exact⟨x,r,e1,sr.mono e e2,qF.mono e e3⟩
end
variable {K:qL}{H H':Hp}
def qF.nil:qF K H [] []:=by unfold qF;rfl
def qF.cons(a:sr K H d x)(b:qF K H ds xs):qF K H (d::ds) (x::xs):=by unfold qF;exact⟨x,xs,Z',a,b⟩
def qF.inv{d:D}{ds:T0 D}(h:qF K H (d::ds) xs):∃x r,xs=x::r/\sr K H d x/\qF K H ds r:=by unfold qF at h;exact h
def qF.nil_inv(h:qF K H [] xs):xs=[]:=by unfold qF at h;exact h
theorem qF.length:∀{ds:T0 D} {xs:T0 V},qF K H ds xs->ds.length=xs.length
 | [],_,h=>by rw[h.nil_inv];rfl
 | d::ds,_,h=>by obtain⟨x,r,rfl,_,e⟩:=h.inv;simp[qF.length e]
theorem qF.get:∀{ds:T0 D} {xs:T0 V} {i:Nat} {d:D},qF K H ds xs->ds[i]?=Fa d->∃x,xs[i]?=Fa x/\sr K H d x
 | [],_,_,_,_,e=>by simp at e
 | d::ds,_,0,_,h,e=>by obtain⟨x,r,rfl,a,_⟩:=h.inv;simp at e;subst e;exact⟨x,by simp,a⟩
 | d::ds,_,i+1,_,h,e=>by obtain⟨x,r,rfl,_,b⟩:=h.inv;obtain⟨y,e1,e2⟩:=qF.get b (by simpa using e);exact⟨y,by simpa using e1,e2⟩
theorem qF.append:∀{ds es:T0 D} {xs ys:T0 V},qF K H ds xs->qF K H es ys->qF K H (ds++es) (xs++ys)
 | [],_,_,_,h,g=>by rw[h.nil_inv];exact g
 | d::ds,_,_,_,h,g=>by obtain⟨x,r,rfl,a,b⟩:=h.inv;exact .cons a (qF.append b g)
theorem qF.take:∀{ds:T0 D} {xs:T0 V} (n:Nat),qF K H ds xs->qF K H (ds.take n) (xs.take n)
 | _,_,0,_=>by simp only[List.take_zero];exact .nil
 | [],_,n+1,h=>by rw[h.nil_inv];exact .nil
 | d::ds,_,n+1,h=>by obtain⟨x,r,rfl,a,b⟩:=h.inv;exact .cons a (qF.take n b)
theorem qF.drop:∀{ds:T0 D} {xs:T0 V} (n:Nat),qF K H ds xs->qF K H (ds.drop n) (xs.drop n)
 | _,_,0,h=>h
 | [],_,n+1,h=>by rw[h.nil_inv];exact .nil
 | d::ds,_,n+1,h=>by obtain⟨x,r,rfl,a,b⟩:=h.inv;exact qF.drop n b
def qF.snoc(h:qF K H ds xs)(a:sr K H d x):qF K H (ds++[d]) (xs++[x]):=h.append (.cons a .nil)
theorem qF.ints:∀{ns:T0 Int},qF K H (ns.map D.int) (ns.map V.int)
 | []=>.nil
 | n::r=>.cons (by unfold sr;rfl) qF.ints
def sr.tup(q:vE K H a xs)(h:qF K H ds xs):sr K H (.tup ds) (.ref a):=by unfold sr;exact⟨a,xs,Z',q,h⟩
def sr.nA{ds:T0 D}(h:sr K H (.tup ds) v):∃a xs,v=.ref a/\vE K H a xs/\qF K H ds xs:=by unfold sr at h;exact h
def sr.nN{ds:T0 D}(h:sr K H (.rl ds) v):∃a xs,v=.ref a/\P6 K H a xs/\qF K H ds xs:=by unfold sr at h;exact h
def sr.int{i:Int}:sr K H (.int i) (.int i):=by unfold sr;rfl
def sr.bl{i:Bool}:sr K H (.bl i) (.bl i):=by unfold sr;rfl
def sr.str{i:Str}:sr K H (.str i) (.str i):=by unfold sr;rfl
def sr.ref{i:Uf}:sr K H (.ref i) (.ref i):=by unfold sr;rfl
def sr.nz:sr K H .nz .nz:=by unfold sr;rfl
def sr.int_inv{i:Int}(h:sr K H (.int i) v):v=.int i:=by unfold sr at h;exact h
def sr.nv{i:Bool}(h:sr K H (.bl i) v):v=.bl i:=by unfold sr at h;exact h
def sr.str_inv{i:Str}(h:sr K H (.str i) v):v=.str i:=by unfold sr at h;exact h
def sr.ni{i:Uf}(h:sr K H (.ref i) v):v=.ref i:=by unfold sr at h;exact h
def sr.oC{i:String}(h:sr K H (.ty i) v):v=.ty i:=by unfold sr at h;exact h
def sr.nu{v:V}(h:sr K H .nz v):v=.nz:=by unfold sr at h;exact h
inductive vm where
 | lst (ds:List D)
 | ins (C:Uf) (fs:List (Str×D))
 | dk (kvs:List (rH×D))
 | exc (C:Uf)
abbrev Mp:=Uf->Option vm
def pX(M:Mp)(a:Uf)(c:vm):Mp:=λb=>if b=a then Fa c else M b
def qp:pX M a c a=Fa c:=by unfold pX;rw[dw Z']
def uF{a b:Uf}(h:b≠a):pX M a c b=M b:=by unfold pX;rw[dq h]
def sf:pX (pX M a c) a d=pX M a d:=by funext b;unfold pX;split<;>rfl
def RI{M:Mp}{a b:Uf}{c:vm}(h:M a=Fa c)(h':M b=Db):a≠b:=by intro e;subst e;rw[h]at h';cases h'
def Cy(K:qL)(H:Hp)(fs:T0 (Str×D))(vs:T0 (Str×V)):Prop:=vs.map (·.1)=fs.map (·.1)/\qF K H (fs.map (·.2)) (vs.map (·.2))
def yj(K:qL)(H:Hp)(a:Uf):vm->Prop
 | .lst ds=>∃xs,H a=Fa (.lst xs)/\qF K H ds xs
 | .ins C fs=>∃dx vs,H a=Fa (.ins C dx vs)/\Cls K C/\(∀f,f∈fs.map (·.1)->uH K C f)/\Cy K H fs vs
 | .dk kvs=>∃vs,H a=Fa (.dK vs)/\vs.map (·.1)=kvs.map (·.1)/\qF K H (kvs.map (·.2)) (vs.map (·.2))
 | .exc C=>H a=Fa (.ext (VG a C))
def HM(K:qL)(H:Hp)(M:Mp):Prop:=∀a c,M a=Fa c->yj K H a c
variable {M:Mp}
def Cy.mono(e:rg K H H')(h:Cy K H fs vs):Cy K H' fs vs:=⟨h.1,h.2.mono e⟩
def yj.keep(e:rg K H H')(k:H' a=H a)(h:yj K H a c):yj K H' a c:=by
 cases c with
 | lst ds=>obtain⟨xs,e1,e2⟩:=h;exact⟨xs,by rw[k];exact e1,e2.mono e⟩
 | ins C fs=>obtain⟨dx,vs,e1,c,n,e2⟩:=h;exact⟨dx,vs,by rw[k];exact e1,c,n,e2.mono e⟩
 | dk kvs=>obtain⟨vs,e1,e2,e3⟩:=h;exact⟨vs,by rw[k];exact e1,e2,e3.mono e⟩
 | exc C=>exact k.trans h
def yj.there(h:yj K H a c):∃o,H a=Fa o/\(∀xs,¬Rd H a (.tup xs))/\∀u xs,H a≠Fa (.frz u (.lst xs)):=by
 have go:∀o,H a=Fa o->(∀xs,o≠.tup xs)->(∀u v,o≠.frz u v)->∃o,H a=Fa o/\(∀xs,¬Rd H a (.tup xs))/\∀u xs,H a≠Fa (.frz u (.lst xs)):=λo e n1 n2=>⟨o,e,λxs q=>by
  rcases q with q|⟨u,q⟩
  .rw[e]at q;exact n1 xs (dB q)
  .rw[e]at q;exact n2 u _ (dB q),λu xs q=>by rw[e]at q;exact n2 u _ (dB q)⟩
 cases c with
 | lst ds=>obtain⟨xs,e1,e2⟩:=h;exact go _ e1 (λ_ z=>by cases z) λ_ _ z=>by cases z
 | ins C fs=>obtain⟨dx,vs,e1,e2⟩:=h;exact go _ e1 (λ_ z=>by cases z) λ_ _ z=>by cases z
 | dk kvs=>obtain⟨vs,e1,e2,e3⟩:=h;exact go _ e1 (λ_ z=>by cases z) λ_ _ z=>by cases z
 | exc C=>exact go _ h (λ_ z=>by cases z) λ_ _ z=>by cases z
def HM.fresh(h:HM K H M){p:Uf}(n:H p=Db):M p=Db:=by
 cases e:M p with
 | none=>rfl
 | some c=>obtain⟨o,q,_⟩:=(h p c e).there;rw[n]at q;cases q
def HM.keep(h:HM K H M)(e:rg K H H')(k:∀a c,M a=Fa c->H' a=H a):HM K H' M:=λa c q=>(h a c q).keep e (k a c q)
def HM.add(h:HM K H M){p:Uf}{o:HO}(n:H p=Db):HM K (upd H p o) M:=h.keep (.new n) λa c q=>by obtain⟨u,e,_⟩:=(h a c q).there;rw[qw (rm e n)]
def HM.new(h:HM K H M){p:Uf}{o:HO}{c:vm}(n:H p=Db)(ok:yj K (upd H p o) p c):HM K (upd H p o) (pX M p c):=λa d q=>by
 by_cases e:a=p
 .subst e;rw[qp]at q;cases q;exact ok
 .rw[uF e]at q;exact h.add n a d q
def HM.put(h:HM K H M){p:Uf}{o:HO}{c c0:vm}(e0:M p=Fa c0)(ok:rg K H (upd H p o)->yj K (upd H p o) p c):HM K (upd H p o) (pX M p c)/\rg K H (upd H p o):=by
 obtain⟨u,eu,nt,nf⟩:=(h p c0 e0).there;have x:rg K H (upd H p o):=.upd nt nf;refine⟨λa d q=>?_,x⟩;by_cases e:a=p
 .subst e;rw[qp]at q;cases q;exact ok x
 .rw[uF e]at q;exact(h a d q).keep x (qw e)
abbrev St:=L2.St
abbrev vH:=T0 (Option D)
abbrev DK:=D->Mp->Prop
abbrev T3:=vH->Mp->DK->Prop
abbrev AE:=vH->Mp->(Bool->Mp->Prop)->Prop
abbrev xP:=vH->Mp->(T0 D->Mp->Prop)->Prop
structure GU where
 nx:vH->Mp->Prop
 rt:DK
 bk:vH->Mp->Prop:=λ_ _=>False
 ct:vH->Mp->Prop:=λ_ _=>False
abbrev yl:=GU->vH->Mp->Prop
def yU(K:qL)(H:Hp)(Y:St)(U:vH):Prop:=∀(i:Nat) (d:D),U[i]?=Fa (Fa d)->∃v,Y[i]?=Fa (Fa v)/\sr K H d v
def yU.mono{K:qL}(e:rg K H H')(h:yU K H Y U):yU K H' Y U:=λi d q=>by obtain⟨v,e1,e2⟩:=h i d q;exact⟨v,e1,e2.mono e⟩
def yU.set{K:qL}{i:Nat}(h:yU K H Y U)(hv:sr K H d v)(hi:i<Y.length):yU K H (Y.set i (Fa v)) (U.set i (Fa d)):=λj e q=>by
 by_cases hj:j=i
 .subst hj;rw[eU hi];by_cases hl:j<U.length
  .rw[eU hl]at q;cases q;exact⟨v,Z',hv⟩
  .rw[gN (by simpa using hl)]at q;cases q
 .rw[eZ (dW hj)]at q ⊢;exact h j e q
def lo(K:qL)(t:T3):TE:=λY H Q'=>BV λU M Q=>yU K H Y U/\HM K H M/\t U M Q/\∀v H' d M',sr K H' d v->HM K H' M'->rg K H H'->Q d M'->Q' v H'
def T9(K:qL)(t:AE):TT:=λY H Q'=>BV λU M Q=>yU K H Y U/\HM K H M/\t U M Q/\∀b H' M',HM K H' M'->rg K H H'->Q b M'->Q' b H'
def Xa(K:qL)(t:xP):TA:=λY H Q'=>BV λU M Q=>yU K H Y U/\HM K H M/\t U M Q/\∀vs H' ds M',qF K H' ds vs->HM K H' M'->rg K H H'->Q ds M'->Q' vs H'
def WE(K:qL)(t:yl):TS:=λD' Y H=>BV λU M D=>yU K H Y U/\HM K H M/\t D U M/\(∀σ' H' δ' M',yU K H' σ' δ'->HM K H' M'->rg K H H'->σ'.length=Y.length->D.nx δ' M'->D'.nx σ' H')/\
 (∀v H' d M',sr K H' d v->HM K H' M'->rg K H H'->D.rt d M'->D'.rt v H')/\(∀σ' H' δ' M',yU K H' σ' δ'->HM K H' M'->rg K H H'->σ'.length=Y.length->D.bk δ' M'->D'.bk σ' H')/\
 (∀σ' H' δ' M',yU K H' σ' δ'->HM K H' M'->rg K H H'->σ'.length=Y.length->D.ct δ' M'->D'.ct σ' H')
def E3(X:Cx)(e:Go)(t:T3):Prop:=PE X e (lo X.K t)
def B3(X:Cx)(e:Go)(t:AE):Prop:=PT X e (T9 X.K t)
def A3(X:Cx)(es:T0 Go)(t:xP):Prop:=PA X es (Xa X.K t)
def S3(X:Cx)(st:wE)(t:yl):Prop:=PS X st (WE X.K t)
def IA(X:Cx)(st:T0 wE)(t:yl):Prop:=BX X st (WE X.K t)
def PE.mono{t t':TE}(h:PE X e t)(m:∀Y H Q,t' Y H Q->t Y H Q):PE X e t':=λXF s Y H Q I q=>h XF s Y H Q I (m Y H Q q)
def PT.mono{t t':TT}(h:PT X e t)(m:∀Y H Q,t' Y H Q->t Y H Q):PT X e t':=λXF s Y H Q I q=>h XF s Y H Q I (m Y H Q q)
def PA.mono{t t':TA}(h:PA X e t)(m:∀Y H Q,t' Y H Q->t Y H Q):PA X e t':=λpos XF s Y H Q I q=>h pos XF s Y H Q I (m Y H Q q)
def PS.mono{t t':TS}(h:PS X e t)(m:∀D Y H,t' D Y H->t D Y H):PS X e t':=λXF s Y H D I q=>h XF s Y H D I (m D Y H q)
def BX.mono{t t':TS}(h:BX X e t)(m:∀D Y H,t' D Y H->t D Y H):BX X e t':=λXF s Y H D I q=>h XF s Y H D I (m D Y H q)
def PS.ow{t t':TS}(h:PS X e t)(m:∀D Y H,Y.length=X.N.length->t' D Y H->t D Y H):PS X e t':=λXF s Y H D I q=>h XF s Y H D I (m D Y H I.len q)
def wj{K:qL}{Q':VK}{Q:DK}(x:rg K H H1)(f:∀v H' d M',sr K H' d v->HM K H' M'->rg K H H'->Q d M'->Q' v H'):∀v H' d M',sr K H' d v->HM K H' M'->rg K H1 H'->Q d M'->Q' v H':=
 λv H' d M' a b c e=>f v H' d M' a b (x.trans c) e
variable {X:Cx}{pos:Pos}
def v3(i:Nat):T3:=λU M Q=>(U.getD i Db).elim False λd=>Q d M
def Ko{U:vH}{i:Nat}{P:D->Prop}(h:(U.getD i Db).elim False P):∃d,U[i]?=Fa (Fa d)/\P d:=by
 cases e:U[i]? with
 | none=>rw[gv,e]at h;exact h.elim
 | some o=>
  rw[gv,e]at h;cases o with
  | none=>exact h.elim
  | some d=>exact⟨d,Z',h⟩
def SR(i:Nat){x:Str}(h:PE X (.Name x pos) (E4 i)):E3 X (.Name x pos) (v3 i):=PE.mono h λY H Q' zz=>x7 zz λU M Q hs hm ht k=>by obtain⟨d,e,q⟩:=Ko ht;obtain⟨v,e1,e2⟩:=hs i d e;exact⟨v,e1,k v H d M e2 hm .refl q⟩
def c3(d:D):T3:=λ_ M Q=>Q d M
def pS{i j}:E3 X (.Constant (.int i) j pos) (c3 (.int i)):=PE.mono Tb λY H Q' zz=>x7 zz λU M Q hs hm ht k=>k _ H _ M .int hm .refl ht
def wX{i j}:E3 X (.Constant (.bool i) j pos) (c3 (.bl i)):=PE.mono Uh λY H Q' zz=>x7 zz λU M Q hs hm ht k=>k _ H _ M .bl hm .refl ht
def pT{i j}:E3 X (.Constant (.str i) j pos) (c3 (.str i)):=PE.mono SL λY H Q' zz=>x7 zz λU M Q hs hm ht k=>k _ H _ M .str hm .refl ht
def so{j}:E3 X (.Constant .none j pos) (c3 .nz):=PE.mono Sv λY H Q' zz=>x7 zz λU M Q hs hm ht k=>k _ H _ M .nz hm .refl ht
def OE{n:String}(hg:Gl X x)(hm:X.mg x=Db)(hv:zn x=Fa (.type n))(hn:x≠"__name__":=by decide)(hd:yW x:=by decide):E3 X (.Name x pos) (c3 (.ty n)):=
 PE.mono (Qz (v:=.ty n) hg hm hv Z' hn hd) λY H Q' zz=>x7 zz λU M Q hs hm ht k=>k _ H _ M (by unfold sr;rfl) hm .refl ht
def pI(M:Mp)(a:Uf):Option (T0 D):=match M a with
 | some (.lst ds)=>Fa ds
 | _=>Db
def ze(x:Str)(n:Int):Str:=⟨(List.replicate n.toNat x.cps).foldl (·++·) #[]⟩
def VO(op:XYc)(x y:D)(M:Mp)(Q:DK):Prop:=match op,x,y with
 | .Add,.int i,.int j=>Q (.int (i+j)) M
 | .Add,.str i,.str j=>i.length+j.length<=pi/\Q (.str (i++j)) M
 | .Add,.tup i,.tup j=>i≠[]/\i.length+j.length<=pi/\Q (.tup (i++j)) M
 | .Add,.ref a,.ref b=>(pI M a).elim False λi=>(pI M b).elim False λj=>i.length+j.length<=pi/\∀p,M p=Db->Q (.ref p) (pX M p (.lst (i++j)))
 | .Add,.rl i,.ref b=>(pI M b).elim False λj=>i.length+j.length<=pi/\∀p,M p=Db->Q (.ref p) (pX M p (.lst (i++j)))
 | .Sub,.int i,.int j=>Q (.int (i - j)) M
 | .Mult,.int i,.int j=>Dp i j/\Q (.int (i*j)) M
 | .Mult,.str i,.int j=>(j<4096/\-4096<j/\i.length<4096)/\Q (.str (ze i j)) M
 | .FloorDiv,.int i,.int j=>Vq i j/\Q (.int (i / j)) M
 | .Mod,.int i,.int j=>0<j/\Q (.int (i % j)) M
 | _,_,_=>False
def o3(op:XYc)(ta tb:T3):T3:=λU M Q=>ta U M λx M1=>tb U M1 λy M2=>VO op x y M2 Q
def Up(K:qL)(H:Hp)(Q':VK)(Q:DK):Prop:=∀v H' d M',sr K H' d v->HM K H' M'->rg K H H'->Q d M'->Q' v H'
variable {ta tb:T3}
section
def qK{K:qL}{ds:T0 D}(hm:HM K H M)(h:pI M a=Fa ds):∃xs,zb K H a xs/\qF K H ds xs/\Rd H a (.lst xs):=by
 unfold pI at h;cases e:M a with
 | none=>rw[e]at h;cases h
 | some c=>
  rw[e]at h;have ok:=hm a c e;cases c with
  | lst es=>cases h;obtain⟨xs,e1,e2⟩:=ok;exact⟨xs,.inl (.inl e1),e2,.inl e1⟩
  | ins _ _=>cases h
  | dk _=>cases h
  | exc _=>cases h
def rC{α:Type}{o:Option α}{P:α->Prop}(h:o.elim False P):∃a,o=Fa a/\P a:=by
 cases o with
 | none=>exact h.elim
 | some a=>exact⟨a,Z',h⟩
def JW:xY X (wP .Add) (λx y H Q=>∃l b xs zs,x=.ref l/\y=.ref b/\zb X.K H l xs/\zb X.K H b zs/\xs.length+zs.length<=pi/\∀p,H p=Db->Q (.ref p) (upd H p (.lst (xs++zs)))):=by
 intro XF s Y H x y v u Q I rx ry h;obtain⟨l,b,xs,zs,rfl,rfl,hH,hB,hz,q⟩:=h;cases rx;cases ry;obtain⟨its,r,⟨⟨c1,d1,t1,sl1⟩,n,g1,e1,_,f1⟩,_⟩:=I.list hH;obtain⟨ZG,r2,⟨⟨c2,d2,t2,sl2⟩,m,g2,e2,_,f2⟩,_⟩:=I.list hB;simp only at e1 f1 e2 f2;subst e1 f1 e2 f2;have hl:=r.length;have hl2:=r2.length;refine lz ⟨_,g1,Z'⟩ ⟨_,g2,Z'⟩ noFill_list_add seq_list_add PySem.F.slot_list_add PySem.F.entry_list_add (PySem.F.args_list_add_2 _ _) (list_addW l b its.toArray ZG.toArray n m d1 d2 sl1 sl2 (by rw[dE,dE];omega)) ⟨g1,g2,?_⟩;have ea:its.toArray++ZG.toArray=(its++ZG).toArray:=by simp
 rw[ea];exact⟨.ref _,_,I.pC (t':=s.toks) (r.append r2) (by rw[dg];omega),Z',q _ I.fresh⟩
def JP(x:Array Nat):∀k,((List.replicate k x).foldl (·++·) #[]:Array Nat).size=k*x.size:=by
 have go:∀(k:Nat) (acc:Array Nat),((List.replicate k x).foldl (·++·) acc).size=acc.size+k*x.size:=by
  intro k;induction k with
  | zero=>intro acc;simp
  | succ k ih=>intro acc;rw[eO,gi,ih,Array.size_append,mS];omega
 intro k;rw[go];simp
def Qe:xY X (wP .Mult) (λx y H Q=>∃i j,x=.str i/\y=.int j/\(j<4096/\-4096<j/\i.length<4096)/\Q (.str (ze i j)) H):=by
 intro XF s Y H x y v u Q I rx ry h;obtain⟨i,j,rfl,rfl,⟨h1,h2,h3⟩,q⟩:=h;obtain⟨t,rfl⟩:=rx;obtain⟨t',rfl⟩:=ry;refine PySem.P.mul_str ?_ ?_ ?_ ?_
 .rw[eY (by omega),eY (by omega)];rfl
 .intro h0 _;have:(4096:Int)<=(2 ^ 63 - 1) / j:=by
   have:(4096:Int)*j<=2 ^ 63 - 1:=by omega
   exact(Int.le_ediv_iff_mul_le (by omega)).mpr this
  omega
 .intro h0 _;have hm:i.length*j.toNat<=4096*4096:=kC (by omega) (by omega);have hz:=dR;unfold Builtin.Str.tooLong;exact eY (by omega)
 .by_cases h0:j<1
  .rw[dw h0];have e:ze i j=Str.empty:=by unfold ze;rw[show j.toNat=0 by omega];rfl
   rw[e]at q;exact⟨by decide,⟨.str Str.empty,H,I.tok _,⟨_,Z'⟩,q⟩⟩
  .rw[dq h0];by_cases hj:(j==1||i.length==0)=pc
   .rw[dw hj];have e:ze i j=i:=by
     have hj':j=1\/i.length=0:=by simpa using hj
     unfold ze;rcases hj' with z|z
     .subst z;show(⟨#[]++i.cps⟩:Str)=i;simp
     .have ec:i.cps=#[]:=Array.size_eq_zero_iff.mp z;have er:∀k:Nat,((List.replicate k (#[]:Array Nat)).foldl (·++·) #[]:Array Nat)=#[]:=by
       intro k;induction k with
       | zero=>rfl
       | succ k ih=>rw[eO,gi];simpa using ih
      rw[ec,er,<-ec]
    rw[e]at q;exact⟨.str i,H,I,⟨t,Z'⟩,q⟩
   .rw[dq hj];refine⟨?_,⟨.str _,H,I.tok _,⟨_,Z'⟩,q⟩⟩;have hz:=dR;have hm:j.toNat*i.length<=4096*4096:=kC (by omega) (by omega);show((List.replicate j.toNat i.cps).foldl (·++·) #[]:Array Nat).size<=_;rw[JP];have YK:j.toNat*i.cps.size<=4096*4096:=hm;omega
def R3(K:qL)(f:D->D->Mp->DK->Prop):R2:=λvx vy H Q'=>Br λx y M Q=>sr K H x vx/\sr K H y vy/\HM K H M/\f x y M Q/\Up K H Q' Q
def XA(op:XYc):xY X (wP op) (R3 X.K (VO op)):=by
 intro XF s Y H vx vy v u Q' I rx ry h;obtain⟨x,y,M,Q,hx,hy,hm,q,k⟩:=h;unfold VO at q;split at q
 .cases hx.int_inv;cases hy.int_inv;exact Sl XF s Y H _ _ v u Q' I rx ry ⟨_,_,Z',Z',k _ _ _ _ .int hm .refl q⟩
 .cases hx.str_inv;cases hy.str_inv;exact Im XF s Y H _ _ v u Q' I rx ry ⟨_,_,Z',Z',q.1,k _ _ _ _ .str hm .refl q.2⟩
 .rename_i i j;obtain⟨q1,q2,q3⟩:=q;obtain⟨a,xs,rfl,ha,Zk⟩:=hx.nA;obtain⟨b,ys,rfl,hb,YC⟩:=hy.nA;have l1:=Zk.length;have l2:=YC.length;refine Pb XF s Y H _ _ v u Q' I rx ry ⟨a,b,xs,ys,Z',Z',ha,hb,λz=>q1 (by rw[z]at l1;exact gC.mp l1),by omega,λz=>?_,λz p hp=>?_⟩
  .refine k _ _ _ _ (.tup ha ?_) hm .refl q3;rw[z]at YC;have e0:j=[]:=gC.mp (by simpa using YC.length);rw[e0,e9];exact Zk
  .have e:rg X.K H (upd H p (.tup (xs++ys))):=.new hp;exact k _ _ _ _ (.tup (.of qB) ((Zk.append YC).mono e)) (hm.add hp) e q3
 .obtain⟨i,ei,q⟩:=rC q;obtain⟨j,ej,q1,q2⟩:=rC q;cases hx.ni;cases hy.ni;obtain⟨xs,rx',hxs,_⟩:=qK hm ei;obtain⟨ys,ry',hys,_⟩:=qK hm ej;have l1:=hxs.length;have l2:=hys.length;refine JW XF s Y H _ _ v u Q' I rx ry ⟨_,_,xs,ys,Z',Z',rx',ry',by omega,λp hp=>?_⟩;have e:rg X.K H (upd H p (.lst (xs++ys))):=.new hp;exact k _ _ _ _ .ref (hm.new (c:=.lst (i++j)) hp ⟨_,qB,(hxs.append hys).mono e⟩) e (q2 p (hm.fresh hp))
 .obtain⟨j,ej,q1,q2⟩:=rC q;obtain⟨l,xs,rfl,rx',hxs⟩:=hx.nN;cases hy.ni;obtain⟨ys,ry',hys,_⟩:=qK hm ej;have l1:=hxs.length;have l2:=hys.length;refine JW XF s Y H _ _ v u Q' I rx ry ⟨_,_,xs,ys,Z',Z',rx'.sq,ry',by omega,λp hp=>?_⟩;have e:rg X.K H (upd H p (.lst (xs++ys))):=.new hp;exact k _ _ _ _ .ref (hm.new (c:=.lst (_++j)) hp ⟨_,qB,(hxs.append hys).mono e⟩) e (q2 p (hm.fresh hp))
 .cases hx.int_inv;cases hy.int_inv;exact R9 XF s Y H _ _ v u Q' I rx ry ⟨_,_,Z',Z',k _ _ _ _ .int hm .refl q⟩
 .cases hx.int_inv;cases hy.int_inv;exact T6 XF s Y H _ _ v u Q' I rx ry ⟨_,_,Z',Z',q.1,k _ _ _ _ .int hm .refl q.2⟩
 .cases hx.str_inv;cases hy.int_inv;exact Qe XF s Y H _ _ v u Q' I rx ry ⟨_,_,Z',Z',q.1,k _ _ _ _ .str hm .refl q.2⟩
 .cases hx.int_inv;cases hy.int_inv;exact QV XF s Y H _ _ v u Q' I rx ry ⟨_,_,Z',Z',q.1,k _ _ _ _ .int hm .refl q.2⟩
 .cases hx.int_inv;cases hy.int_inv;exact SY XF s Y H _ _ v u Q' I rx ry ⟨_,_,Z',Z',q.1,k _ _ _ _ .int hm .refl q.2⟩
 .exact q.elim
variable {a b:Go}
def Ij{f:D->D->Mp->DK->Prop}:∀Y H Q',lo X.K (λU M Q=>ta U M λx M1=>tb U M1 λy M2=>f x y M2 Q) Y H Q'->Vm (R3 X.K f) (lo X.K ta) (lo X.K tb) Y H Q':=λY H Q' zz=>x7 zz λU M Q hs hm ht k=>⟨U,M,_,hs,hm,ht,λv H1 x M1 hx XH e1 q1=>⟨U,M1,_,hs.mono e1,XH,q1,λu H2 y M2 hy X1 e2 q2=>⟨x,y,M2,Q,hx.mono e2,hy,X1,q2,wj (e1.trans e2) k⟩⟩⟩
def qx(ha:E3 X a ta)(hb:E3 X b tb):E3 X (.BinOp a op b pos) (o3 op ta tb):=PE.mono (Rx (XA op) ha hb) Ij
end
def tj(f:D->D->Option Bool):T0 D->T0 D->Option Bool
 | x::a,y::b=>(f x y).bind λp=>(tj f a b).map λq=>p&&q
 | _,_=>Fa pc
def zE(M:Mp):Nat->D->D->Option Bool
 | 0,_,_=>Db
 | n+1,x,y=>match x,y with
  | .nz,.nz=>Fa pc
  | .bl a,.bl b=>Fa (a==b)
  | .int a,.int b=>Fa (a==b)
  | .str a,.str b=>Fa (a==b)
  | .nz,.bl _=>Fa lf
  | .nz,.int _=>Fa lf
  | .nz,.str _=>Fa lf
  | .bl _,.nz=>Fa lf
  | .bl _,.str _=>Fa lf
  | .int _,.nz=>Fa lf
  | .int _,.str _=>Fa lf
  | .str _,.nz=>Fa lf
  | .str _,.bl _=>Fa lf
  | .str _,.int _=>Fa lf
  | .tup a,.tup b=>(tj (zE M n) a b).map λp=>p&&a.length==b.length
  | .ref a,.ref b=>(pI M a).bind λi=>(pI M b).bind λj=>if i.length=j.length then tj (zE M n) i j else Fa lf
  | _,_=>Db
variable {XF:T0 (Uf × Obj)}{Y:St}{s:Sd}
theorem zc{f:D->D->Option Bool}:∀{ds es:T0 D} {xs:T0 V} {b:Bool},qF X.K H ds xs->qF X.K H es xs->(∀x y v b,sr X.K H x v->sr X.K H y v->f x y=Fa b->b=pc)->tj f ds es=Fa b->b=pc
 | [],[],_,_,_,_,_,e=>(dB e).symm
 | [],_::_,_,_,h,g,_,_=>by have h1:=h.length;have h2:=g.length;rw[<-h1]at h2;simp at h2
 | _::_,[],_,_,h,g,_,_=>by have h1:=h.length;have h2:=g.length;rw[<-h1]at h2;simp at h2
 | d::ds,e::es,xs,b,h,g,k,q=>by
  obtain⟨x,r,rfl,h1,h2⟩:=h.inv;obtain⟨x',r',e',g1,g2⟩:=g.inv;cases e';unfold tj at q;cases p1:f d e with
  | none=>rw[p1]at q;cases q
  | some b1=>
   rw[p1]at q;cases p2:tj f ds es with
   | none=>rw[p2]at q;cases q
   | some b2=>rw[p2]at q;have q':(b1&&b2)=b:=dB q;rw[<-q',k _ _ _ _ h1 g1 p1,zc h2 g2 k p2];rfl
theorem zu(I:Inv X XF Y H s)(hm:HM X.K H M):∀(n:Nat) (x y:D) (v:V) (b:Bool),sr X.K H x v->sr X.K H y v->zE M n x y=Fa b->b=pc
 | 0,_,_,_,_,_,_,e=>by cases e
 | n+1,x,y,v,b,hx,hy,e=>by
  unfold zE at e;split at e
  .exact(dB e).symm
  .rw[hx.nv]at hy;cases hy.nv;exact(dB e).symm.trans (by simp)
  .rw[hx.int_inv]at hy;cases hy.int_inv;exact(dB e).symm.trans (by simp)
  .rw[hx.str_inv]at hy;cases hy.str_inv;exact(dB e).symm.trans (by simp)
  .rw[hx.nu]at hy;cases hy.nv
  .rw[hx.nu]at hy;cases hy.int_inv
  .rw[hx.nu]at hy;cases hy.str_inv
  .rw[hx.nv]at hy;cases hy.nu
  .rw[hx.nv]at hy;cases hy.str_inv
  .rw[hx.int_inv]at hy;cases hy.nu
  .rw[hx.int_inv]at hy;cases hy.str_inv
  .rw[hx.str_inv]at hy;cases hy.nu
  .rw[hx.str_inv]at hy;cases hy.nv
  .rw[hx.str_inv]at hy;cases hy.int_inv
  .obtain⟨a,xs,rfl,h1,h2⟩:=hx.nA;obtain⟨a',ys,e',g1,g2⟩:=hy.nA;cases e';rw[I.nQ g1 h1]at g2;cases p:tj (zE M n) _ _ with
   | none=>rw[p]at e;cases e
   | some b1=>rw[p]at e;have e':=dB e;rw[<-e',zc h2 g2 (zu I hm n) p,h2.length,g2.length];simp
  .rw[hx.ni]at hy;cases hy.ni;cases p:pI M _ with
   | none=>rw[p]at e;cases e
   | some i=>rw[p]at e;have e:(if i.length=i.length then tj (zE M n) i i else Fa lf)=Fa b:=e;rw[dw Z']at e;obtain⟨xs,_,h2,_⟩:=qK hm p;exact zc h2 h2 (zu I hm n) e
  .cases e
theorem BQ{A:Ar}:∀{ds es:T0 D} {xs ys:T0 V} {us ws:T0 Vl} {b:Bool},tj f ds es=Fa b->qF X.K H ds xs->qF X.K H es ys->qO xs us->qO ys ws->
  (∀x y b vx vy u w,f x y=Fa b->sr X.K H x vx->sr X.K H y vy->ra vx u->ra vy w->SeqAt.EqAt A s u w b)->
  ∃e:Nat->Bool,(∀j (h1:j<us.length) (h2:j<ws.length),SeqAt.EqAt A s us[j] ws[j] (e j))/\(List.range (min us.length ws.length)).all e=b
 | [],es,xs,ys,us,ws,b,q,hx,hy,rx,ry,k=>by
  have e1:=hx.nil_inv;subst e1;cases rx;refine⟨λ_=>pc,λj h1=>absurd h1 (by simp),?_⟩;have q':Fa pc=Fa b:=by cases es<;>exact q
  simpa using(dB q')
 | d::ds,[],xs,ys,us,ws,b,q,hx,hy,rx,ry,k=>by
  have e1:=hy.nil_inv;subst e1;cases ry;refine⟨λ_=>pc,λj _ h2=>absurd h2 (by simp),?_⟩;have q':Fa pc=Fa b:=q
  simpa using(dB q')
 | d::ds,e::es,xs,ys,us,ws,b,q,hx,hy,rx,ry,k=>by
  obtain⟨x,r,rfl,h1,h2⟩:=hx.inv;obtain⟨y,r',rfl,g1,g2⟩:=hy.inv;cases rx with
  | cons r1 r2=>
   cases ry with
   | cons t1 t2=>
    unfold tj at q;cases p1:f d e with
    | none=>rw[p1]at q;cases q
    | some b1=>
     rw[p1]at q;cases p2:tj f ds es with
     | none=>rw[p2]at q;cases q
     | some b2=>
      rw[p2]at q;have q':(b1&&b2)=b:=dB q;obtain⟨e',he,ha⟩:=BQ p2 h2 g2 r2 t2 k;refine⟨λj=>match j with|0=>b1|j+1=>e' j,λj l1 l2=>?_,?_⟩
      .cases j with
       | zero=>exact k _ _ _ _ _ _ _ p1 h1 g1 r1 t1
       | succ j=>exact he j (by simpa using l1) (by simpa using l2)
      .rw[<-q',<-ha];simp only[eE];rw[Nat.succ_min_succ,ku,fN,jW];rfl
theorem EU(I:Inv X XF Y H s)(hm:HM X.K H M):∀(n:Nat) (A:Ar) (x y:D) (b:Bool) (vx vy:V) (u w:Vl),A.units+n<XXa->zE M n x y=Fa b->sr X.K H x vx->sr X.K H y vy->ra vx u->ra vy w->
  SeqAt.RcAt A s u w b/\SeqAt.EqAt A s u w b/\SeqAt.RcNeAt A s u w (!b)
 | 0,_,_,_,_,_,_,_,_,_,e,_,_,_,_=>by cases e
 | n+1,A,x,y,b,vx,vy,u,w,hu,e,hx,hy,rx,ry=>by
  have hu1:A.units<XXa:=by omega
  have hui:A.in1.units+n<XXa:=by show A.units+1+n<XXa;omega
  unfold zE at e;split at e
  .cases hx.nu;cases hy.nu;cases rx;cases ry;cases e;exact⟨.none_none,.same _,.none_none⟩
  .cases hx.nv;cases hy.nv;cases rx;cases ry;cases e;exact⟨.bool_bool _ _,.bool_bool _ _,.bool_bool _ _⟩
  .cases hx.int_inv;cases hy.int_inv;obtain⟨t,rfl⟩:=rx;obtain⟨t',rfl⟩:=ry;cases e;exact⟨.int_int _ _ _ _,.int_int _ _ _ _,.int_int _ _ _ _⟩
  .cases hx.str_inv;cases hy.str_inv;obtain⟨t,rfl⟩:=rx;obtain⟨t',rfl⟩:=ry;cases e;exact⟨.str_str _ _ _ _,.str_str _ _ _ _,.str_str _ _ _ _⟩
  .cases hx.nu;cases hy.nv;cases rx;cases ry;cases e;exact⟨.none_bool _,.none_bool _,.none_bool _⟩
  .cases hx.nu;cases hy.int_inv;cases rx;obtain⟨t',rfl⟩:=ry;cases e;exact⟨.none_int _ _,.none_int _ _,.none_int _ _⟩
  .cases hx.nu;cases hy.str_inv;cases rx;obtain⟨t',rfl⟩:=ry;cases e;exact⟨.none_str _ _,.none_str _ _,.none_str _ _⟩
  .cases hx.nv;cases hy.nu;cases rx;cases ry;cases e;exact⟨.bool_none _,.bool_none _,.bool_none _⟩
  .cases hx.nv;cases hy.str_inv;cases rx;obtain⟨t',rfl⟩:=ry;cases e;exact⟨.bool_str _ _ _,.bool_str _ _ _,.bool_str _ _ _⟩
  .cases hx.int_inv;cases hy.nu;obtain⟨t,rfl⟩:=rx;cases ry;cases e;exact⟨.int_none _ _,.int_none _ _,.int_none _ _⟩
  .cases hx.int_inv;cases hy.str_inv;obtain⟨t,rfl⟩:=rx;obtain⟨t',rfl⟩:=ry;cases e;exact⟨.int_str _ _ _ _,.int_str _ _ _ _,.int_str _ _ _ _⟩
  .cases hx.str_inv;cases hy.nu;obtain⟨t,rfl⟩:=rx;cases ry;cases e;exact⟨.str_none _ _,.str_none _ _,.str_none _ _⟩
  .cases hx.str_inv;cases hy.nv;obtain⟨t,rfl⟩:=rx;cases ry;cases e;exact⟨.str_bool _ _ _,.str_bool _ _ _,.str_bool _ _ _⟩
  .cases hx.str_inv;cases hy.int_inv;obtain⟨t,rfl⟩:=rx;obtain⟨t',rfl⟩:=ry;cases e;exact⟨.str_int _ _ _ _,.str_int _ _ _ _,.str_int _ _ _ _⟩
  .rename_i da db;obtain⟨a1,xs,rfl,h1,h2⟩:=hx.nA;obtain⟨a2,ys,rfl,g1,g2⟩:=hy.nA;cases rx;cases ry;obtain⟨us,r1,p1,_⟩:=I.tuple h1;obtain⟨ws,r2,p2,_⟩:=I.tuple g1;cases p:tj (zE M n) da db with
   | none=>rw[p]at e;cases e
   | some b1=>
    have e0:=e;rw[p]at e;have e':(b1&&da.length==db.length)=b:=dB e;obtain⟨f,hf,ha⟩:=BQ (A:=A.in1) (s:=s) p h2 g2 r1 r2 λx y b vx vy u w q1 q2 q3 q4 q5=>(EU I hm n A.in1 x y b vx vy u w hui q1 q2 q3 q4 q5).2.1;have hb:((List.range (min us.toArray.size ws.toArray.size)).all f&&us.toArray.size==ws.toArray.size)=b:=by rw[dE,dE,ha,<-e',<-r1.length,<-r2.length,h2.length,g2.length]
    have hf':∀j (l1:j<us.toArray.size) (l2:j<ws.toArray.size),SeqAt.EqAt A.in1 s us.toArray[j] ws.toArray[j] (f j):=λj l1 l2=>by simpa using hf j (by simpa using l1) (by simpa using l2)
    have c1:SeqAt.RcAt A s (.ref a1) (.ref a2) b:=by rw[<-hb];exact .tuples p1 p2 hu1 hf'
    have c3:SeqAt.RcNeAt A s (.ref a1) (.ref a2) (!b):=by have:=SeqAt.RcNeAt.tuples p1 p2 hu1 hf';rw[hb]at this;exact this
    refine⟨c1,?_,c3⟩;by_cases ea:a1=a2
    .subst ea;have:b=pc:=zu I hm (n+1) (.tup da) (.tup db) (.ref a1) b hx hy (by unfold zE;exact e0);rw[this];exact .same _
    .exact .of_refs ea c1
  .cases hx.ni;cases hy.ni;cases rx;cases ry;rename_i a1 a2;have e0:=e;cases p:pI M a1 with
   | none=>rw[p]at e;cases e
   | some i=>
    cases p':pI M a2 with
    | none=>rw[p,p']at e;cases e
    | some j=>
     rw[p,p']at e;have e:(if i.length=j.length then tj (zE M n) i j else Fa lf)=Fa b:=e;obtain⟨xs,q1,h2,_⟩:=qK hm p;obtain⟨ys,q2,g2,_⟩:=qK hm p';obtain⟨us,r1,p1,_⟩:=I.list q1;obtain⟨ws,r2,p2,_⟩:=I.list q2;have XJ:SeqAt.RcAt A s (.ref a1) (.ref a2) b/\SeqAt.RcNeAt A s (.ref a1) (.ref a2) (!b):=by
      by_cases hl:i.length=j.length
      .rw[dw hl]at e;obtain⟨f,hf,ha⟩:=BQ (A:=A.in1) (s:=s) e h2 g2 r1 r2 λx y b vx vy u w q1 q2 q3 q4 q5=>(EU I hm n A.in1 x y b vx vy u w hui q1 q2 q3 q4 q5).2.1;have hsz:us.toArray.size=ws.toArray.size:=by rw[dE,dE,<-r1.length,<-r2.length,<-h2.length,<-g2.length];exact hl
       have hf':∀j (l1:j<us.toArray.size) (l2:j<ws.toArray.size),SeqAt.EqAt A.in1 s us.toArray[j] ws.toArray[j] (f j):=λj l1 l2=>by simpa using hf j (by simpa using l1) (by simpa using l2)
       have hb:(List.range us.toArray.size).all f=b:=by rw[<-ha];rw[dE,dE]at hsz;rw[dE,<-hsz,Nat.min_self]
       rw[<-hb];exact⟨.lists p1.isList p2.isList hsz hu1 hf',.lists p1.isList p2.isList hsz hu1 hf'⟩
      .rw[dq hl]at e;cases e;have hsz:(us.toArray.size != ws.toArray.size)=pc:=by
        rw[dE,dE,<-r1.length,<-r2.length,<-h2.length,<-g2.length]
        simpa using hl
       exact⟨.lists_lengths p1.isList p2.isList hsz hu1,.lists_lengths p1.isList p2.isList hsz hu1⟩
     refine⟨XJ.1,?_,XJ.2⟩;by_cases ea:a1=a2
     .subst ea;have:b=pc:=zu I hm (n+1) (.ref a1) (.ref a1) (.ref a1) b .ref .ref (by unfold zE;exact e0);rw[this];exact .same _
     .exact .of_refs ea XJ.1
  .cases e
def vv:D->Bool
 | .nz=>pc
 | .bl _=>pc
 | .int _=>pc
 | .str _=>pc
 | _=>lf
def P8:D->D->Bool
 | .nz,.nz=>pc
 | .bl a,.bl b=>a==b
 | .bl a,.int b=>(if a then 1 else 0)==b
 | .int a,.bl b=>a==(if b then 1 else 0)
 | .int a,.int b=>a==b
 | .str a,.str b=>a==b
 | _,_=>lf
def inD(x:D)(ds:T0 D):Bool:=ds.any λy=>P8 y x
def N8(M:Mp):D->Option (T0 D)
 | .tup ds=>Fa ds
 | .ref a=>pI M a
 | .rl ds=>Fa ds
 | _=>Db
def DP(i j:Str):Bool:=!(Builtin.Str.occurrences j i 0 j.length 1).isEmpty
def SS(Zj:Bool)(x y:D)(M:Mp)(Q:DK):Prop:=match x,y with
 | .str i,.str j=>Q (.bl (if Zj then !DP i j else DP i j)) M
 | _,_=>(N8 M y).elim False λds=>vv x=pc/\ds.all vv=pc/\Q (.bl (if Zj then !inD x ds else inD x ds)) M
def Qu(op:CmpOp)(x y:D)(M:Mp)(Q:DK):Prop:=match op with
 | .Eq=>(zE M 9 x y).elim False λb=>Q (.bl b) M
 | .NotEq=>(zE M 9 x y).elim False λb=>Q (.bl (!b)) M
 | .Lt=>match x,y with|.int i,.int j=>Q (.bl (decide (i<j))) M|_,_=>False
 | .LtE=>match x,y with|.int i,.int j=>Q (.bl (decide (i<=j))) M|_,_=>False
 | .Gt=>match x,y with|.int i,.int j=>Q (.bl (decide (j<i))) M|_,_=>False
 | .GtE=>match x,y with|.int i,.int j=>Q (.bl (decide (j<=i))) M|_,_=>False
 | .Is=>match y with|.nz=>Q (.bl (match x with|.nz=>pc|_=>lf)) M|_=>False
 | .IsNot=>match y with|.nz=>Q (.bl (match x with|.nz=>lf|_=>pc)) M|_=>False
 | .In=>SS lf x y M Q
 | .NotIn=>SS pc x y M Q
def k3(op:CmpOp)(ta tb:T3):T3:=λU M Q=>ta U M λx M1=>tb U M1 λy M2=>Qu op x y M2 Q
def zD(h:sr K H d v)(f:vv d=pc):yR v=pc:=by
 cases d with
 | nz=>rw[h.nu];rfl
 | bl _=>rw[h.nv];rfl
 | int _=>rw[h.int_inv];rfl
 | str _=>rw[h.str_inv];rfl
 | _=>cases f
def Jm(h:sr K H d v)(g:sr K H e w)(f:vv d=pc)(f':vv e=pc):OL v w=P8 d e:=by
 cases d with
 | nz=>
  rw[h.nu];cases e with
  | nz=>rw[g.nu];rfl
  | bl _=>rw[g.nv];rfl
  | int _=>rw[g.int_inv];rfl
  | str _=>rw[g.str_inv];rfl
  | _=>cases f'
 | bl _=>
  rw[h.nv];cases e with
  | nz=>rw[g.nu];rfl
  | bl _=>rw[g.nv];rfl
  | int _=>rw[g.int_inv];rfl
  | str _=>rw[g.str_inv];rfl
  | _=>cases f'
 | int _=>
  rw[h.int_inv];cases e with
  | nz=>rw[g.nu];rfl
  | bl _=>rw[g.nv];rfl
  | int _=>rw[g.int_inv];rfl
  | str _=>rw[g.str_inv];rfl
  | _=>cases f'
 | str _=>
  rw[h.str_inv];cases e with
  | nz=>rw[g.nu];rfl
  | bl _=>rw[g.nv];rfl
  | int _=>rw[g.int_inv];rfl
  | str _=>rw[g.str_inv];rfl
  | _=>cases f'
 | _=>cases f
theorem FS:∀{ds:T0 D} {xs:T0 V},qF K H ds xs->ds.all vv=pc->xs.all yR=pc
 | [],_,h,_=>by rw[h.nil_inv];rfl
 | d::ds,_,h,f=>by obtain⟨x,r,rfl,h1,h2⟩:=h.inv;rw[fN,d6]at f ⊢;exact⟨zD h1 f.1,FS h2 f.2⟩
theorem Nh(g:sr K H e w)(f':vv e=pc):∀{ds:T0 D} {xs:T0 V},qF K H ds xs->ds.all vv=pc->inV w xs=inD e ds
 | [],_,h,_=>by rw[h.nil_inv];rfl
 | d::ds,_,h,f=>by obtain⟨x,r,rfl,h1,h2⟩:=h.inv;rw[fN,d6]at f;show(OL x w||inV w r)=(P8 d e||inD e ds);rw[Jm h1 g f.1 f',Nh g f' h2 f.2]
def Gb(hm:HM K H M){y:D}{v:V}{ds:T0 D}(h:sr K H y v)(q:N8 M y=Fa ds):∃p xs,v=.ref p/\(zb K H p xs\/vE K H p xs)/\qF K H ds xs:=by
 cases y with
 | tup es=>cases q;obtain⟨a,xs,rfl,h1,h2⟩:=h.nA;exact⟨a,xs,Z',.inr h1,h2⟩
 | ref a=>cases h.ni;obtain⟨xs,h1,h2,_⟩:=qK hm q;exact⟨a,xs,Z',.inl h1,h2⟩
 | rl es=>cases q;obtain⟨a,xs,rfl,h1,h2⟩:=h.nN;exact⟨a,xs,Z',.inl h1.sq,h2⟩
 | _=>cases q
variable {c:Go}{tc:T3}
section
def Lm(op:CmpOp)(hu:X.A.units+9<XXa):xY X (Op op) (R3 X.K (Qu op)):=by
 intro XF s Y H vx vy v u Q' I rx ry h;obtain⟨x,y,M,Q,hx,hy,hm,q,k⟩:=h;have bk:∀b,Q (.bl b) M->EP X XF Y Q' (.bool b) s:=λb q=>⟨.bl b,H,I,Z',k _ _ _ _ .bl hm .refl q⟩;have inn:∀Zj:Bool,((N8 M y).elim False λds=>vv x=pc/\ds.all vv=pc/\Q (.bl (if Zj then !inD x ds else inD x ds)) M)->WO X.K Zj vx vy H Q':=λZj q=>by obtain⟨ds,e,f1,f2,q⟩:=rC q;obtain⟨p,xs,rfl,h1,h2⟩:=Gb hm hy e;refine⟨p,xs,Z',h1,zD hx f1,FS h2 f2,?_⟩;rw[Nh hx f1 h2 f2];exact k _ _ _ _ .bl hm .refl q
 cases op with
 | Eq=>obtain⟨b,e,q⟩:=rC q;exact(EU I hm 9 X.A x y b vx vy v u hu e hx hy rx ry).1 _ _ _ _ (bk b q)
 | NotEq=>obtain⟨b,e,q⟩:=rC q;exact(EU I hm 9 X.A x y b vx vy v u hu e hx hy rx ry).2.2 _ _ _ _ (bk _ q)
 | Lt=>
  cases x<;>first|exact q.elim|skip
  cases y<;>first|exact q.elim|skip
  cases hx.int_inv;cases hy.int_inv;exact Ve XF s Y H _ _ v u Q' I rx ry ⟨_,_,Z',Z',k _ _ _ _ .bl hm .refl q⟩
 | LtE=>
  cases x<;>first|exact q.elim|skip
  cases y<;>first|exact q.elim|skip
  cases hx.int_inv;cases hy.int_inv;exact U8 XF s Y H _ _ v u Q' I rx ry ⟨_,_,Z',Z',k _ _ _ _ .bl hm .refl q⟩
 | Gt=>
  cases x<;>first|exact q.elim|skip
  cases y<;>first|exact q.elim|skip
  cases hx.int_inv;cases hy.int_inv;exact UF XF s Y H _ _ v u Q' I rx ry ⟨_,_,Z',Z',k _ _ _ _ .bl hm .refl q⟩
 | GtE=>
  cases x<;>first|exact q.elim|skip
  cases y<;>first|exact q.elim|skip
  cases hx.int_inv;cases hy.int_inv;exact Uw XF s Y H _ _ v u Q' I rx ry ⟨_,_,Z',Z',k _ _ _ _ .bl hm .refl q⟩
 | Is=>
  cases y<;>first|exact q.elim|skip
  cases hy.nu;refine TV XF s Y H _ _ v u Q' I rx ry ⟨Z',k _ _ _ _ ?_ hm .refl q⟩;cases x with
  | nz=>rw[hx.nu];exact .bl
  | bl _=>rw[hx.nv];exact .bl
  | int _=>rw[hx.int_inv];exact .bl
  | str _=>rw[hx.str_inv];exact .bl
  | tup _=>obtain⟨a,xs,rfl,_⟩:=hx.nA;exact .bl
  | ref _=>rw[hx.ni];exact .bl
  | ty _=>rw[hx.oC];exact .bl
  | rl _=>obtain⟨a,xs,rfl,_⟩:=hx.nN;exact .bl
 | IsNot=>
  cases y<;>first|exact q.elim|skip
  cases hy.nu;refine PH XF s Y H _ _ v u Q' I rx ry ⟨Z',k _ _ _ _ ?_ hm .refl q⟩;cases x with
  | nz=>rw[hx.nu];exact .bl
  | bl _=>rw[hx.nv];exact .bl
  | int _=>rw[hx.int_inv];exact .bl
  | str _=>rw[hx.str_inv];exact .bl
  | tup _=>obtain⟨a,xs,rfl,_⟩:=hx.nA;exact .bl
  | ref _=>rw[hx.ni];exact .bl
  | ty _=>rw[hx.oC];exact .bl
  | rl _=>obtain⟨a,xs,rfl,_⟩:=hx.nN;exact .bl
 | In=>
  have q:SS lf x y M Q:=q;unfold SS at q;split at q
  .cases hx.str_inv;cases hy.str_inv;exact K3 XF s Y H _ _ v u Q' I rx ry ⟨_,_,Z',Z',k _ _ _ _ .bl hm .refl q⟩
  .exact K1 XF s Y H _ _ v u Q' I rx ry (inn lf q)
 | NotIn=>
  have q:SS pc x y M Q:=q;unfold SS at q;split at q
  .cases hx.str_inv;cases hy.str_inv;exact EH XF s Y H _ _ v u Q' I rx ry ⟨_,_,Z',Z',k _ _ _ _ .bl hm .refl q⟩
  .exact E6 XF s Y H _ _ v u Q' I rx ry (inn pc q)
variable {a b:Go}
def qy{op:CmpOp}(hu:X.A.units+9<XXa)(ha:E3 X a ta)(hb:E3 X b tb)(hm:wT op b=lf:=by first|exact Io _|with_unfolding_all rfl):E3 X (.Compare a [op] [b] pos) (k3 op ta tb):=PE.mono (Kj (Lm op hu) ha hb hm) Ij
def b3(t:T3):AE:=λU M Q=>t U M λd M1=>match d with|.bl c=>Q c M1|_=>False
def uz(h:E3 X e t)(he:∀Yi,isTrue e X.env Yi=(do let v<-Yi;XXd e.pos;TD [v] (truthy v)):=by intro _;rfl):B3 X e (b3 t):=PT.mono (S0 h he) λY H Q' zz=>x7 zz λU M Q hs hm ht k=>
 ⟨U,M,_,hs,hm,ht,λv H1 d M1 hd XH e1 q1=>by
  cases d with
  | bl c=>exact⟨c,hd.nv,k c H1 M1 XH e1 q1⟩
  | _=>exact q1.elim⟩
def pZ{op:CmpOp}(hu:X.A.units+9<XXa)(ha:E3 X a ta)(hb:E3 X b tb)(hm:wT op b=lf:=by first|exact Io _|with_unfolding_all rfl):B3 X (.Compare a [op] [b] pos) (b3 (k3 op ta tb)):=PT.mono (Kb (Lm op hu) ha hb hm) λY H Q' zz=>x7 zz λU M Q hs hm ht k=>
 Ij Y H _ ⟨U,M,_,hs,hm,ht,λv H1 d M1 hd XH e1 q1=>by
  cases d with
  | bl c=>exact⟨c,hd.nv,k c H1 M1 XH e1 q1⟩
  | _=>exact q1.elim⟩
end
variable {tA tB:AE}{rest:T0 Go}
section
variable {a b:Go}
def Qs(t u:AE):AE:=λU M Q=>t U M λc M1=>if c=pc then u U M1 Q else Q lf M1
def Xr(t u:AE):AE:=λU M Q=>t U M λc M1=>if c=pc then Q pc M1 else u U M1 Q
def UL(t:AE):AE:=λU M Q=>t U M λc M1=>Q (!c) M1
def W3(X:Cx)(e:Go)(t:AE):Prop:=PW X e (T9 X.K t)
def PW.mono{t t':TT}(h:PW X e t)(m:∀Y H Q,t' Y H Q->t Y H Q):PW X e t':=λwh XF s Y H Q I q=>h wh XF s Y H Q I (m Y H Q q)
def W3.b3(h:W3 X e t):B3 X e t:=PW.pt h
def vh(h:B3 X a tA):W3 X (.BoolOp .And [a] pos) tA:=PK h
def xS(h:B3 X a tA):W3 X (.BoolOp .Or [a] pos) tA:=Sm h
def vo(ha:B3 X a tA)(hb:W3 X (.BoolOp .And (b::rest) pos) tB):W3 X (.BoolOp .And (a::b::rest) pos) (Qs tA tB):=PW.mono (TL ha hb) λY H Q' zz=>x7 zz λU M Q hs hm ht k=>
 ⟨U,M,_,hs,hm,ht,λc H1 M1 XH e1 q1=>by
  cases c with
  | true=>exact(dw Z').mpr ⟨U,M1,Q,hs.mono e1,XH,(dw Z').mp q1,λb H' M' x1 x2 x3=>k b H' M' x1 (e1.trans x2) x3⟩
  | false=>exact(dq dF).mpr (k lf H1 M1 XH e1 ((dq dF).mp q1))⟩
def yO(ha:B3 X a tA)(hb:W3 X (.BoolOp .Or (b::rest) pos) tB):W3 X (.BoolOp .Or (a::b::rest) pos) (Xr tA tB):=PW.mono (Vi ha hb) λY H Q' zz=>x7 zz λU M Q hs hm ht k=>
 ⟨U,M,_,hs,hm,ht,λc H1 M1 XH e1 q1=>by
  cases c with
  | true=>exact(dw Z').mpr (k pc H1 M1 XH e1 ((dw Z').mp q1))
  | false=>exact(dq dF).mpr ⟨U,M1,Q,hs.mono e1,XH,(dq dF).mp q1,λb H' M' x1 x2 x3=>k b H' M' x1 (e1.trans x2) x3⟩⟩
def vd(ha:B3 X a tA):B3 X (.UnaryOp .Not a pos) (UL tA):=PT.mono (TH ha) λY H Q' zz=>x7 zz λU M Q hs hm ht k=>⟨U,M,_,hs,hm,ht,λc H1 M1 XH e1 q1=>k _ H1 M1 XH e1 q1⟩
def Vf(ta tb:T3):T3:=λU M Q=>ta U M λd M1=>match d with|.bl c=>if c=pc then tb U M1 Q else Q (.bl lf) M1|_=>False
def V4(ta tb:T3):T3:=λU M Q=>ta U M λd M1=>match d with|.bl c=>if c=pc then Q (.bl pc) M1 else tb U M1 Q|_=>False
def UV(ta:T3):T3:=λU M Q=>ta U M λd M1=>match d with|.bl c=>Q (.bl (!c)) M1|_=>False
def sC{op}(h:E3 X a ta):E3 X (.BoolOp op [a] pos) ta:=Tn h
def sW(ha:E3 X a ta)(hb:E3 X (.BoolOp .And (b::rest) pos) tb):E3 X (.BoolOp .And (a::b::rest) pos) (Vf ta tb):=PE.mono (Tr ha hb) λY H Q' zz=>x7 zz λU M Q hs hm ht k=>
 ⟨U,M,_,hs,hm,ht,λv H1 d M1 hd XH e1 q1=>by
  cases d with
  | bl c=>
   refine⟨c,hd.nv,?_⟩;cases c with
   | true=>exact(dw Z').mpr ⟨U,M1,Q,hs.mono e1,XH,(dw Z').mp q1,wj e1 k⟩
   | false=>exact(dq dF).mpr (k _ H1 _ M1 .bl XH e1 ((dq dF).mp q1))
  | _=>exact q1.elim⟩
def GK(ha:E3 X a ta)(hb:E3 X (.BoolOp .Or (b::rest) pos) tb):E3 X (.BoolOp .Or (a::b::rest) pos) (V4 ta tb):=PE.mono (UW ha hb) λY H Q' zz=>x7 zz λU M Q hs hm ht k=>
 ⟨U,M,_,hs,hm,ht,λv H1 d M1 hd XH e1 q1=>by
  cases d with
  | bl c=>
   refine⟨c,hd.nv,?_⟩;cases c with
   | true=>exact(dw Z').mpr (k _ H1 _ M1 .bl XH e1 ((dw Z').mp q1))
   | false=>exact(dq dF).mpr ⟨U,M1,Q,hs.mono e1,XH,(dq dF).mp q1,wj e1 k⟩
  | _=>exact q1.elim⟩
def NS(ha:E3 X a ta):E3 X (.UnaryOp .Not a pos) (UV ta):=PE.mono (SA ha) λY H Q' zz=>x7 zz λU M Q hs hm ht k=>
 ⟨U,M,_,hs,hm,ht,λv H1 d M1 hd XH e1 q1=>by
  cases d with
  | bl c=>exact⟨c,hd.nv,k _ H1 _ M1 .bl XH e1 q1⟩
  | _=>exact q1.elim⟩
def Xz(t:AE)(ta tb:T3):T3:=λU M Q=>t U M λc M1=>if c=pc then ta U M1 Q else tb U M1 Q
def RJ(hc:B3 X c tA)(ha:E3 X a ta)(hb:E3 X b tb):E3 X (.IfExp c a b pos) (Xz tA ta tb):=PE.mono (MD hc ha hb) λY H Q' zz=>x7 zz λU M Q hs hm ht k=>
 ⟨U,M,_,hs,hm,ht,λc H1 M1 XH e1 q1=>by
  cases c with
  | true=>exact(dw Z').mpr ⟨U,M1,Q,hs.mono e1,XH,(dw Z').mp q1,wj e1 k⟩
  | false=>exact(dq dF).mpr ⟨U,M1,Q,hs.mono e1,XH,(dq dF).mp q1,wj e1 k⟩⟩
def V7(x y:D)(M:Mp)(Q:DK):Prop:=match x,y with
 | .tup ds,.int i=>(wY ds i).elim False λd=>Q d M
 | .ref a,.int i=>(pI M a).elim False λds=>(wY ds i).elim False λd=>Q d M
 | .rl ds,.int i=>(wY ds i).elim False λd=>Q d M
 | .str z,.int i=>z.length<=pi/\(wY z.cps.toList i).elim False λc=>Q (.str ⟨#[c]⟩) M
 | _,_=>False
def i3(ta tb:T3):T3:=λU M Q=>ta U M λx M1=>tb U M1 λy M2=>V7 x y M2 Q
def E7{K:qL}{d:D}(h:qF K H ds xs)(e:wY ds i=Fa d):∃v,wY xs i=Fa v/\sr K H d v:=by
 unfold wY at e ⊢;rw[<-h.length];cases q:G7 ds.length i with
 | none=>rw[q]at e;cases e
 | some j=>rw[q]at e;exact h.get e
def XB:Ub X (R3 X.K V7):=by
 intro value XW XF s Y H vx vy v u Q' I rx ry h hs;obtain⟨x,y,M,Q,hx,hy,hm,q,k⟩:=h;unfold V7 at q;split at q
 .obtain⟨d,e,q⟩:=rC q;obtain⟨p,xs,rfl,h1,h2⟩:=hx.nA;cases hy.int_inv;obtain⟨w,e1,e2⟩:=E7 h2 e;exact RV value XW XF s Y H _ _ v u Q' I rx ry ⟨p,xs,_,w,Z',Z',h1,e1,k _ _ _ _ e2 hm .refl q⟩ hs
 .obtain⟨ds,e0,q⟩:=rC q;obtain⟨d,e,q⟩:=rC q;cases hx.ni;cases hy.int_inv;obtain⟨xs,h1,h2,_⟩:=qK hm e0;obtain⟨w,e1,e2⟩:=E7 h2 e;exact Kf value XW XF s Y H _ _ v u Q' I rx ry ⟨_,xs,_,w,Z',Z',h1,e1,k _ _ _ _ e2 hm .refl q⟩ hs
 .obtain⟨d,e,q⟩:=rC q;obtain⟨p,xs,rfl,h1,h2⟩:=hx.nN;cases hy.int_inv;obtain⟨w,e1,e2⟩:=E7 h2 e;exact Kf value XW XF s Y H _ _ v u Q' I rx ry ⟨p,xs,_,w,Z',Z',h1.sq,e1,k _ _ _ _ e2 hm .refl q⟩ hs
 .obtain⟨q1,q⟩:=q;obtain⟨c,e,q⟩:=rC q;cases hx.str_inv;cases hy.int_inv;exact RM value XW XF s Y H _ _ v u Q' I rx ry ⟨_,_,c,Z',Z',q1,e,k _ _ _ _ .str hm .refl q⟩ hs
 .exact q.elim
def qe(ha:E3 X a ta)(hb:E3 X b tb)(hs:Bz b:=by exact λ_ _=>rfl):E3 X (.Subscript a b pos) (i3 ta tb):=PE.mono (NZ XB ha hb hs) Ij
def ut(ds:T0 D)(lo hi:Option Int):T0 D:=(ds.drop (HT.tO ds.length 0 lo)).take (HT.tO ds.length ds.length hi - HT.tO ds.length 0 lo)
def EC{K:qL}(q:qF K H ds xs):qF K H (ut ds l h) (BN xs l h):=by unfold ut BN;rw[q.length];exact(q.drop _).take _
abbrev Uc:=vH->Mp->(Option Int->Mp->Prop)->Prop
def XC(K:qL)(t:Uc):TO:=λY H Q'=>BV λU M Q=>yU K H Y U/\HM K H M/\t U M Q/\∀o H' M',HM K H' M'->rg K H H'->Q o M'->Q' o H'
def O3(X:Cx)(e:Option Go)(t:Uc):Prop:=PO X e (XC X.K t)
def QE:Uc:=λ_ M Q=>Q Db M
def Vh(t:T3):Uc:=λU M Q=>t U M λd M1=>match d with|.int i=>Q (Fa i) M1|_=>False
def PO.mono{t t':TO}(h:PO X e t)(m:∀Y H Q,t' Y H Q->t Y H Q):PO X e t':=λXF s Y H Q I q=>h XF s Y H Q I (m Y H Q q)
def ue:O3 X Db QE:=PO.mono OQ λY H Q' zz=>x7 zz λU M Q hs hm ht k=>k Db H M hm .refl ht
def tI(h:E3 X e t):O3 X (Fa e) (Vh t):=PO.mono (QM h) λY H Q' zz=>x7 zz λU M Q hs hm ht k=>
 ⟨U,M,_,hs,hm,ht,λv H1 d M1 hd XH e1 q1=>by
  cases d with
  | int i=>exact⟨i,hd.int_inv,k (Fa i) H1 M1 XH e1 q1⟩
  | _=>exact q1.elim⟩
def Xh(x:D)(lo hi:Option Int)(M:Mp)(Q:DK):Prop:=match x with
 | .tup ds=>Q (.tup (ut ds lo hi)) M
 | .ref a=>(pI M a).elim False λds=>∀p,M p=Db->Q (.ref p) (pX M p (.lst (ut ds lo hi)))
 | .rl ds=>∀p,M p=Db->Q (.ref p) (pX M p (.lst (ut ds lo hi)))
 | _=>False
def s3(te:T3)(tl th:Uc):T3:=λU M Q=>te U M λx M1=>tl U M1 λl M2=>th U M2 λu M3=>Xh x l u M3 Q
def WV(K:qL):V->Option Int->Option Int->Hp->VK->Prop:=λvx l u H Q'=>BV λx M Q=>sr K H x vx/\HM K H M/\Xh x l u M Q/\Up K H Q' Q
def Pc{ds:T0 D}{lo hi:Option Int}(h:HT.tO ds.length 0 lo=0/\HT.tO ds.length ds.length hi=ds.length):ut ds lo hi=ds:=by unfold ut;rw[h.1,h.2,jq,lD,fD]
def Wx:Vd X (WV X.K):=by
 intro XF s Y H vx v vl vu l u sl Q' I rx ZH pl pu h;obtain⟨x,M,Q,hx,hm,q,k⟩:=h;cases x with
 | tup ds=>
  have q2:Q (.tup (ut ds l u)) M:=q;obtain⟨a,xs,rfl,h1,h2⟩:=hx.nA;by_cases q1:HT.tO ds.length 0 l=0/\HT.tO ds.length ds.length u=ds.length
  .rw[Pc q1]at q2;exact SU XF s Y H _ v vl vu l u sl Q' I rx ZH pl pu ⟨a,xs,Z',h1,by rw[<-h2.length];exact q1,k _ _ _ _ hx hm .refl q2⟩
  refine Ss XF s Y H _ v vl vu l u sl Q' I rx ZH pl pu ⟨a,xs,Z',h1,by rw[<-h2.length];exact q1,λp hp=>?_⟩;have e:rg X.K H (upd H p (.tup (BN xs l u))):=.new hp;exact k _ _ _ _ (.tup (.of qB) ((EC h2).mono e)) (hm.add hp) e q2
 | ref a=>obtain⟨ds,e0,q⟩:=rC q;cases hx.ni;obtain⟨xs,h1,h2,_⟩:=qK hm e0;refine Jz XF s Y H _ v vl vu l u sl Q' I rx ZH pl pu ⟨a,xs,Z',h1,λp hp=>?_⟩;have e:rg X.K H (upd H p (.lst (BN xs l u))):=.new hp;exact k _ _ _ _ .ref (hm.new (c:=.lst (ut ds l u)) hp ⟨_,qB,(EC h2).mono e⟩) e (q p (hm.fresh hp))
 | rl ds=>obtain⟨a,xs,rfl,h1,h2⟩:=hx.nN;refine Jz XF s Y H _ v vl vu l u sl Q' I rx ZH pl pu ⟨a,xs,Z',h1.sq,λp hp=>?_⟩;have e:rg X.K H (upd H p (.lst (BN xs l u))):=.new hp;exact k _ _ _ _ .ref (hm.new (c:=.lst (ut ds l u)) hp ⟨_,qB,(EC h2).mono e⟩) e (q p (hm.fresh hp))
 | _=>exact q.elim
def sR{lo hi:Option Go}{p2:Pos}(he:E3 X e te)(hl:O3 X lo tl)(hu:O3 X hi th):E3 X (.Subscript e (.Slice lo hi Db p2) pos) (s3 te tl th):=PE.mono (MB Wx he hl hu) λY H Q' zz=>x7 zz λU M Q hs hm ht k=>⟨U,M,_,hs,hm,ht,λv H1 x M1 hx XH e1 q1=>⟨U,M1,_,hs.mono e1,XH,q1,λl H2 M2 X1 e2 q2=>⟨U,M2,_,hs.mono (e1.trans e2),X1,q2,λu H3 M3 YF e3 q3=>⟨x,M3,Q,hx.mono (e2.trans e3),YF,q3,wj (e1.trans (e2.trans e3)) k⟩⟩⟩⟩
def yi:xP:=λ_ M Q=>Q [] M
def vW(ta:T3)(tr:xP):xP:=λU M Q=>ta U M λx M1=>tr U M1 λxs M2=>Q (x::xs) M2
def tz:A3 X [] yi:=PA.mono Sf λY H Q' zz=>x7 zz λU M Q hs hm ht k=>k [] H [] M .nil hm .refl ht
def qz(ha:E3 X e te)(hr:A3 X es t)(hs:Bx X e es:=by rfl):A3 X (e::es) (vW te t):=PA.mono (Qb ha hr hs) λY H Q' zz=>x7 zz λU M Q hs hm ht k=>⟨U,M,_,hs,hm,ht,λv H1 x M1 hx XH e1 q1=>⟨U,M1,_,hs.mono e1,XH,q1,λvs H2 xs M2 hxs X1 e2 q2=>k _ H2 _ M2 (.cons (hx.mono e2) hxs) X1 (e1.trans e2) q2⟩⟩
def Wq(t:xP):T3:=λU M Q=>t U M λds M1=>ds.length<=pi/\Q (.tup ds) M1
def Ut(t:xP):T3:=λU M Q=>t U M λds M1=>ds.length<=pi/\∀p,M1 p=Db->Q (.ref p) (pX M1 p (.lst ds))
def qk{x1}(h:A3 X es t):E3 X (.Tuple es x1 pos) (Wq t):=PE.mono (S7 h) λY H Q' zz=>x7 zz λU M Q hs hm ht k=>
 ⟨U,M,_,hs,hm,ht,λvs H1 ds M1 Y0 XH e1 q1=>⟨by rw[<-Y0.length];exact q1.1,λp hp=>by
  have e:rg X.K H1 (upd H1 p (.tup vs)):=.new hp;exact k _ _ _ M1 (.tup (.of qB) (Y0.mono e)) (XH.add hp) (e1.trans e) q1.2⟩⟩
def rh(h:A3 X es t):E3 X (.List es pos) (Ut t):=PE.mono (SZ h) λY H Q' zz=>x7 zz λU M Q hs hm ht k=>
 ⟨U,M,_,hs,hm,ht,λvs H1 ds M1 Y0 XH e1 q1=>⟨by rw[<-Y0.length];exact q1.1,λp hp=>by
  have e:rg X.K H1 (upd H1 p (.lst vs)):=.new hp;exact k _ _ _ _ .ref (XH.new (c:=.lst ds) hp ⟨_,qB,Y0.mono e⟩) (e1.trans e) (q1.2 p (XH.fresh hp))⟩⟩
def ur(t u:yl):yl:=λD U M=>t {D with nx:=u D} U M
def Xc:yl:=λD U M=>D.nx U M
def qd:IA X [] Xc:=BX.mono Qd λD' Y H zz=>LF zz λU M D hs hm ht k1 k2 k3 k4=>k1 Y H U M hs hm .refl Z' ht
def pP{st:wE}{rest:T0 wE}(h1:S3 X st t)(h2:IA X rest u):IA X (st::rest) (ur t u):=BX.mono (LH h1 h2) λD' Y H zz=>LF zz λU M D hs hm ht k1 k2 k3 k4=>
 ⟨U,M,{D with nx:=u D},hs,hm,ht,λσ1 H1 δ1 M1 hs1 XH e1 l1 q1=>⟨δ1,M1,D,hs1,XH,q1,λσ' H' δ' M' x1 x2 x3 x4 x5=>k1 σ' H' δ' M' x1 x2 (e1.trans x3) (x4.trans l1) x5,λv H' d M' x1 x2 x3 x4=>k2 v H' d M' x1 x2 (e1.trans x3) x4,λσ' H' δ' M' x1 x2 x3 x4 x5=>k3 σ' H' δ' M' x1 x2 (e1.trans x3) (x4.trans l1) x5,λσ' H' δ' M' x1 x2 x3 x4 x5=>k4 σ' H' δ' M' x1 x2 (e1.trans x3) (x4.trans l1) x5⟩,k2,k3,k4⟩
def pR{st:wE}(h1:S3 X st t):IA X [st] t:=BX.mono (FO h1) λD' Y H h=>h
def Vk(te:T3):yl:=λD U M=>te U M λ_ M1=>D.nx U M1
def ql(he:E3 X e te)(Ze:ZB e Db pos.line X.env=pure lf:=by rfl):S3 X (.Expr e pos) (Vk te):=PS.mono (O9 he Ze) λD' Y H zz=>LF zz λU M D hs hm ht k1 k2 k3 k4=>⟨U,M,_,hs,hm,ht,λv H1 d M1 hd XH e1 q1=>k1 Y H1 U M1 (hs.mono e1) XH e1 Z' q1⟩
def RO(te:T3):yl:=λD U M=>te U M D.rt
def pW(he:E3 X e te):S3 X (.Return (Fa e) pos) (RO te):=PS.mono (Tp he) λD' Y H zz=>LF zz λU M D hs hm ht k1 k2 k3 k4=>⟨U,M,_,hs,hm,ht,λv H1 d M1 hd XH e1 q1=>k2 v H1 d M1 hd XH e1 q1⟩
def R0(c:AE)(t u:yl):yl:=λD U M=>c U M λb M1=>if b=pc then t D U M1 else u D U M1
def qm{tc:AE}(hc:B3 X c tc)(ha:IA X as t)(hb:IA X bs u):S3 X (.If c as bs pos) (R0 tc t u):=PS.mono (Uo hc ha hb) λD' Y H zz=>LF zz λU M D hs hm ht k1 k2 k3 k4=>
 ⟨U,M,_,hs,hm,ht,λb H1 M1 XH e1 q1=>by
  have up:∀t:yl,t D U M1->WE X.K t D' Y H1:=λt q=>⟨U,M1,D,hs.mono e1,XH,q,λσ' H' δ' M' x1 x2 x3 x4 x5=>k1 σ' H' δ' M' x1 x2 (e1.trans x3) x4 x5,λv H' d M' x1 x2 x3 x4=>k2 v H' d M' x1 x2 (e1.trans x3) x4,λσ' H' δ' M' x1 x2 x3 x4 x5=>k3 σ' H' δ' M' x1 x2 (e1.trans x3) x4 x5,λσ' H' δ' M' x1 x2 x3 x4 x5=>k4 σ' H' δ' M' x1 x2 (e1.trans x3) x4 x5⟩
  cases b with
  | true=>exact(dw Z').mpr (up t ((dw Z').mp q1))
  | false=>exact(dq dF).mpr (up u ((dq dF).mp q1))⟩
def Ta:yl:=λ_ _ _=>False
def Hf{st:wE}:S3 X st Ta:=PS.mono NV λD' Y H ⟨U,M,D,hs,hm,ht,_⟩=>ht
abbrev DR:=D->vH->Mp->(vH->Mp->Prop)->Prop
def VW(K:qL)(g:DR):TG:=λv Y H Q'=>Br λd U M Q=>sr K H d v/\yU K H Y U/\HM K H M/\g d U M Q/\∀σ' H' δ' M',yU K H' σ' δ'->HM K H' M'->rg K H H'->σ'.length=Y.length->Q δ' M'->Q' σ' H'
def G3(X:Cx)(e:Go)(g:DR):Prop:=PG X e (VW X.K g)
def PG.ow{t t':TG}(h:PG X e t)(m:∀v Y H Q,Y.length=X.N.length->t' v Y H Q->t v Y H Q):PG X e t':=λXF s Y H v u Q I r q=>h XF s Y H v u Q I r (m v Y H Q I.len q)
def uq(i:Nat):DR:=λd U M Q=>Q (U.set i (Fa d)) M
def Jf{i:Nat}{x:Str}(hN:X.N.Nodup)(hi:X.N[i]?=Fa x)(hx:LG X.env.scope x)(hf:LD X x:=by first|exact .inl Z'|exact .inr Z'|assumption):G3 X (.Name x pos) (uq i):=
 PG.ow (P5 hN hi hx hf) λv Y H Q' hl ⟨d,U,M,Q,hd,hs,hm,ht,k⟩=>k _ H _ M (hs.set hd (by rw[hl];exact(dh.mp hi).1)) hm .refl (by simp) ht
abbrev DA:=T0 D->vH->Mp->(vH->Mp->Prop)->Prop
def WK(K:qL)(g:DA):PN:=λvs Y H Q'=>Br λds U M Q=>qF K H ds vs/\yU K H Y U/\HM K H M/\g ds U M Q/\∀σ' H' δ' M',yU K H' σ' δ'->HM K H' M'->rg K H H'->σ'.length=Y.length->Q δ' M'->Q' σ' H'
def VH(X:Cx)(es:T0 Go)(g:DA):Prop:=OJ X es (WK X.K g)
def OJ.mono{t t':PN}(h:OJ X e t)(m:∀v Y H Q,t' v Y H Q->t v Y H Q):OJ X e t':=λXF s Y H v u Q I r q=>h XF s Y H v u Q I r (m v Y H Q q)
def PG.mono{t t':TG}(h:PG X e t)(m:∀v Y H Q,t' v Y H Q->t v Y H Q):PG X e t':=λXF s Y H v u Q I r q=>h XF s Y H v u Q I r (m v Y H Q q)
def Ef:DA:=λds U M Q=>match ds with|[]=>Q U M|_=>False
def zd(t:DR)(u:DA):DA:=λds U M Q=>match ds with|d::r=>t d U M λδ' M'=>u r δ' M' Q|[]=>False
def tZ:VH X [] Ef:=OJ.mono PR λvs Y H Q' ⟨ds,U,M,Q,hd,hs,hm,ht,k⟩=>by
 cases ds with
 | nil=>exact⟨hd.nil_inv,k Y H U M hs hm .refl Z' ht⟩
 | cons _ _=>exact ht.elim
def qN(h1:G3 X e t)(h2:VH X es u)(hs:(At (e::es) X.env).map (·.2)=assign e X.env::(At es X.env).map (·.2):=by rfl):VH X (e::es) (zd t u):=
 OJ.mono (Nv h1 h2 hs) λvs Y H Q' ⟨ds,U,M,Q,hd,hs,hm,ht,k⟩=>by
 cases ds with
 | nil=>exact ht.elim
 | cons d r=>obtain⟨x,xr,rfl,hx,hr⟩:=hd.inv;exact⟨x,xr,Z',d,U,M,_,hx,hs,hm,ht,λσ1 H1 δ1 M1 hs1 XH e1 l1 q1=>⟨r,δ1,M1,Q,hr.mono e1,hs1,XH,q1,λσ' H' δ' M' x1 x2 x3 x4 x5=>k σ' H' δ' M' x1 x2 (e1.trans x3) (x4.trans l1) x5⟩⟩
def RG(n:Nat)(t:DA):DR:=λd U M Q=>match d with|.tup ds=>ds.length=n/\t ds U M Q|_=>False
def vp{n:Nat}(hc:X.calm=pc)(h:VH X es t)(hn:(At es X.env).length=n:=by rfl)(X6:(At es X.env).findIdx? (·.1)=Db:=by rfl):G3 X (.Tuple es k pos) (RG n t):=
 PG.mono (SM hc h hn X6) λv Y H Q' ⟨d,U,M,Q,hd,hs,hm,ht,k⟩=>by
 cases d with
 | tup ds=>obtain⟨a,xs,rfl,h1,h2⟩:=hd.nA;exact⟨a,xs,Z',h1,by rw[<-h2.length];exact ht.1,ds,U,M,Q,h2,hs,hm,ht.2,k⟩
 | _=>exact ht.elim
def HD(te:T3)(g:DR):yl:=λD U M=>te U M λx M1=>g x U M1 D.nx
def Ik(he:E3 X e te)(hg:G3 X tg g)(hs:swapsWithSole [tg] e pos.line X.env=pure lf:=by rfl)(hw:swappedStores [tg] e X.env=pure Db:=by rfl)
  (h1:(At [tg] X.env).map (·.2)=[assign tg X.env]:=by rfl):S3 X (.Assign [tg] e pos) (HD te g):=PS.mono (Tt he hg hs hw h1) λD' Y H zz=>LF zz λU M D hs hm ht k1 k2 k3 k4=>
 ⟨U,M,_,hs,hm,ht,λv H1 d M1 hd XH e1 q1=>⟨d,U,M1,_,hd,hs.mono e1,XH,q1,λσ' H' δ' M' x1 x2 x3 x4 x5=>k1 σ' H' δ' M' x1 x2 (e1.trans x3) x4 x5⟩⟩
def S9{i:Nat}{x:Str}(hN:X.N.Nodup)(hi:X.N[i]?=Fa x)(hx:LG X.env.scope x)(he:E3 X e te)(Ze:ZB e (Fa (.Name x XQ)) pos.line X.env=pure lf:=by rfl)
  (hf:LD X x:=by first|exact .inl Z'|exact .inr Z'|assumption):S3 X (.Assign [.Name x XQ] e pos) (HD te (uq i)):=PS.ow (Mn hN hi hx he Ze hf) λD' Y H hl zz=>LF zz λU M D hs hm ht k1 k2 k3 k4=>
 ⟨U,M,_,hs,hm,ht,λv H1 d M1 hd XH e1 q1=>k1 _ H1 _ M1 ((hs.mono e1).set hd (by rw[hl];exact(dh.mp hi).1)) XH e1 (by simp) q1⟩
end
abbrev rL:=T0 D->Mp->DK->Prop
def OO(K:qL)(sp:rL):Sp:=λvs H Q' _=>BV λds M Q=>qF K H ds vs/\HM K H M/\sp ds M Q/\Up K H Q' Q
def w9(N:QQQ)(ds:T0 D):vH:=ds.map Fa++List.replicate (N.length - ds.length) Db
def Ej{K:qL}(h:qF K H ds vs):yU K H (L2.start N vs) (w9 N ds):=λi d q=>by
 unfold w9 at q;unfold L2.start;by_cases hi:i<ds.length
 .rw[fk (by simpa using hi),dJ]at q;cases e:ds[i]? with
  | none=>rw[e]at q;cases q
  | some d'=>rw[e]at q;cases q;obtain⟨v,e1,e2⟩:=h.get e;refine⟨v,?_,e2⟩;rw[fk (by rw[c9,<-h.length];exact hi),dJ,e1];rfl
 .rw[fi (by simpa using hi),j5]at q;split at q<;>cases q
variable {P:Pg}{w:Wo}{mg:QQZ}{base:No}
abbrev Ud(P:Pg)(w:Wo)(K:qL)(mg:QQZ)(base:No)(k:Nat)(f:Uf)(fd:wv)(ps:QQQ)(sp:rL):Prop:=xO P w K mg base OM k f fd ps (OO K sp)
variable {k:Nat}{f C:Uf}{fd:wv}{ps:QQQ}{sp:rL}{x m fn:Str}{p XI:Pos}{e o:Go}{es:T0 Go}{t:xP}
def Eb(sp:rL)(t:xP):T3:=λU M Q=>t U M λds M1=>sp ds M1 Q
def QT(F:Ud X.prog X.w X.K X.mg X.base k f fd ps sp)(hr:sI k X.A)(hg:Gl X x)(hm:X.mg x=Fa (.ref f))(hk:W.keepIn X.K (.ref f)=pc)(hb:vj X.K fd ps [])(ha:A3 X (e::es) t) (X4:yW x:=by decide) (he:Bx X e es:=by rfl) (X0:Dh X pos es:=by rfl):
  E3 X (.Call (.Name x p) (e::es) [] pos) (Eb sp t):=PE.mono (Qo F hr hg hm hk hb .nil (G6 (X:=X)) ha X4 he X0) λY H Q' zz=>x7 zz λU M Q hs hm ht k=>
 ⟨U,M,_,hs,hm,ht,λvs H1 ds M1 hd XH e1 q1=>⟨ds,M1,Q,by rw[e9];exact hd,XH,q1,wj e1 k⟩⟩
def C3(X:Cx)(f:Vl)(r:rL):Prop:=yP X f λvs H Q'=>∃ds M Q,qF X.K H ds vs/\HM X.K H M/\r ds M Q/\Up X.K H Q' Q
def qr{id:String}(hc:C3 X (.builtin id) r)(hg:Gl X x)(hm:X.mg x=Db)(hv:zn x=Fa (.builtin id))(ha:A3 X (e::es) t)(hn:x≠"__name__":=by decide)(X4:yW x:=by decide)
  (he:Bx X e es:=by rfl) (X0:Dh X pos es:=by rfl):E3 X (.Call (.Name x p) (e::es) [] pos) (Eb r t):=
 PE.mono (OC hc hg hm hv ha hn X4 he X0) λY H Q' zz=>x7 zz λU M Q hs hm ht k=>⟨U,M,_,hs,hm,ht,λvs H1 ds M1 hd XH e1 q1=>⟨ds,M1,Q,hd,XH,q1,wj e1 k⟩⟩
def qG{T:String}(hc:C3 X (.type T) r)(hg:Gl X x)(hm:X.mg x=Db)(hv:zn x=Fa (.type T))(ha:A3 X (e::es) t)(hn:x≠"__name__":=by decide)(X4:yW x:=by decide)
  (he:Bx X e es:=by rfl) (X0:Dh X pos es:=by rfl):E3 X (.Call (.Name x p) (e::es) [] pos) (Eb r t):=
 PE.mono (KP hc hg hm hv ha hn X4 he X0) λY H Q' zz=>x7 zz λU M Q hs hm ht k=>⟨U,M,_,hs,hm,ht,λvs H1 ds M1 hd XH e1 q1=>⟨ds,M1,Q,hd,XH,q1,wj e1 k⟩⟩
def VJ(ds:T0 D)(M:Mp)(Q:DK):Prop:=match ds with
 | [.str z]=>z.length<=pi/\Q (.int z.length) M
 | [.tup es]=>Q (.int es.length) M
 | [.ref a]=>(pI M a).elim False λes=>Q (.int es.length) M
 | [.rl es]=>Q (.int es.length) M
 | _=>False
def sD{K:qL}{d:D}(h:qF K H [d] vs):∃v,vs=[v]/\sr K H d v:=by obtain⟨x,r,rfl,a,b⟩:=h.inv;rw[b.nil_inv];exact⟨x,Z',a⟩
def F9{K:qL}{d e:D}(h:qF K H [d,e] vs):∃v u,vs=[v,u]/\sr K H d v/\sr K H e u:=by obtain⟨x,r,rfl,a,b⟩:=h.inv;obtain⟨y,rfl,c⟩:=sD b;exact⟨x,y,Z',a,c⟩
def qU:C3 X (.builtin "len") VJ:=by
 intro XF s Y H vs us Q' I rv h;obtain⟨ds,M,Q,hd,hm,q,k⟩:=h;unfold VJ at q;split at q
 .obtain⟨v,rfl,hv⟩:=sD hd;cases hv.str_inv;exact FQ XF s Y H _ us Q' I rv ⟨_,Z',q.1,k _ _ _ _ .int hm .refl q.2⟩
 .obtain⟨v,rfl,hv⟩:=sD hd;obtain⟨a,xs,rfl,h1,h2⟩:=hv.nA;exact xw XF s Y H _ us Q' I rv ⟨a,xs,Z',.inr h1,k _ _ _ _ (by rw[<-h2.length];exact .int) hm .refl q⟩
 .obtain⟨v,rfl,hv⟩:=sD hd;obtain⟨es,e0,q⟩:=rC q;cases hv.ni;obtain⟨xs,h1,h2,_⟩:=qK hm e0;exact xw XF s Y H _ us Q' I rv ⟨_,xs,Z',.inl h1,k _ _ _ _ (by rw[<-h2.length];exact .int) hm .refl q⟩
 .obtain⟨v,rfl,hv⟩:=sD hd;obtain⟨a,xs,rfl,h1,h2⟩:=hv.nN;exact xw XF s Y H _ us Q' I rv ⟨a,xs,Z',.inl h1.sq,k _ _ _ _ (by rw[<-h2.length];exact .int) hm .refl q⟩
 .exact q.elim
def Vr(ds:T0 D)(M:Mp)(Q:DK):Prop:=match ds with
 | [.int i,.int j]=>Q (.int (if j<i then j else i)) M
 | _=>False
def R1(hc:X.calm=pc):C3 X (.builtin "min") Vr:=by
 intro XF s Y H vs us Q' I rv h;obtain⟨ds,M,Q,hd,hm,q,k⟩:=h;unfold Vr at q;split at q
 .obtain⟨v,u,rfl,hv,hw⟩:=F9 hd;cases hv.int_inv;cases hw.int_inv;exact Le hc XF s Y H _ us Q' I rv ⟨_,_,Z',k _ _ _ _ .int hm .refl q⟩
 .exact q.elim
def NK(ds:T0 D)(M:Mp)(Q:DK):Prop:=match ds with
 | [.tup es]=>Q (.tup es) M
 | [.ref a]=>(pI M a).elim False λes=>Q (.tup es) M
 | [.rl es]=>Q (.tup es) M
 | _=>False
def sV:C3 X (.type "tuple") NK:=by
 intro XF s Y H vs us Q' I rv h;obtain⟨ds,M,Q,hd,hm,q,k⟩:=h;unfold NK at q;split at q
 .obtain⟨v,rfl,hv⟩:=sD hd;obtain⟨a,xs,rfl,h1,h2⟩:=id hv.nA;exact wD XF s Y H _ us Q' I rv ⟨a,xs,Z',.inr ⟨h1,k _ _ _ _ hv hm .refl q⟩⟩
 .obtain⟨v,rfl,hv⟩:=sD hd;obtain⟨es,e0,q⟩:=rC q;cases hv.ni;obtain⟨xs,h1,h2,_⟩:=qK hm e0;refine wD XF s Y H _ us Q' I rv ⟨_,xs,Z',.inl ⟨h1,λl hl=>?_⟩⟩;have e:rg X.K H (upd H l (.tup xs)):=.new hl;exact k _ _ _ _ (.tup (.of qB) (h2.mono e)) (hm.add hl) e q
 .obtain⟨v,rfl,hv⟩:=sD hd;obtain⟨a,xs,rfl,h1,h2⟩:=hv.nN;refine wD XF s Y H _ us Q' I rv ⟨_,xs,Z',.inl ⟨h1.sq,λl hl=>?_⟩⟩;have e:rg X.K H (upd H l (.tup xs)):=.new hl;exact k _ _ _ _ (.tup (.of qB) (h2.mono e)) (hm.add hl) e q
 .exact q.elim
def Rt(ds:T0 D)(M:Mp)(Q:DK):Prop:=match ds with
 | [d]=>(N8 M d).elim False λes=>∀p,M p=Db->Q (.ref p) (pX M p (.lst es))
 | _=>False
def uE:C3 X (.type "list") Rt:=by
 intro XF s Y H vs us Q' I rv h;obtain⟨ds,M,Q,hd,hm,q,k⟩:=h;unfold Rt at q;split at q
 .obtain⟨v,rfl,hv⟩:=sD hd;obtain⟨es,e0,q⟩:=rC q;obtain⟨p,xs,rfl,h1,h2⟩:=Gb hm hv e0;refine F7 XF s Y H _ us Q' I rv ⟨p,xs,Z',h1,λl hl=>?_⟩;have e:rg X.K H (upd H l (.lst xs)):=.new hl;exact k _ _ _ _ .ref (hm.new (c:=.lst es) hl ⟨_,qB,h2.mono e⟩) e (q l (hm.fresh hl))
 .exact q.elim
theorem xB{K:qL}{f:Str}:∀{fs:T0 (Str×D)} {vs:T0 (Str×V)},Cy K H fs vs->(∀d,fs.lookup f=Fa d->∃v,vs.lookup f=Fa v/\sr K H d v)/\(fs.lookup f=Db->vs.lookup f=Db)
 | [],[],_=>⟨λd e=>by simp at e,λ_=>rfl⟩
 | [],_::_,h=>by have:=h.1;simp at this
 | _::_,[],h=>by have:=h.1;simp at this
 | (g,d)::fs,(g',v)::vs,h=>by
  have h1:g'=g/\vs.map (·.1)=fs.map (·.1):=by
   have:=h.1
   simpa using this
  obtain⟨x,r,e,a,b⟩:=h.2.inv;have e':v::vs.map (·.2)=x::r:=e;cases e';obtain⟨i1,i2⟩:=xB (f:=f) (fs:=fs) (vs:=vs) ⟨h1.2,b⟩;rw[h1.1];refine⟨λd' e=>?_,λe=>?_⟩
  .rw[eN]at e ⊢;cases q:f==g with
   | true=>rw[q]at e;cases e;exact⟨v,Z',a⟩
   | false=>rw[q]at e;exact i1 d' e
  .rw[eN]at e ⊢;cases q:f==g with
   | true=>rw[q]at e;cases e
   | false=>rw[q]at e;exact i2 e
theorem J7{f:Str}{d:D}:∀{fs:T0 (Str×D)},fs.lookup f=Fa d->f∈fs.map (·.1)
 | [],h=>by simp at h
 | (g,e)::r,h=>by
  rw[eN]at h;cases q:f==g with
  | true=>
   have z:f=g:=by simpa using q
   rw[z,eh];exact dO
  | false=>rw[q]at h;simp[J7 h]
def zK(o:Option vm)(F:Uf->T0 (Str×D)->Prop):Prop:=match o with
 | some (.ins C fs)=>F C fs
 | _=>False
def pQ{o:Option vm}{F:Uf->T0 (Str×D)->Prop}{C:Uf}{fs:T0 (Str×D)}(e:o=Fa (.ins C fs))(h:F C fs):zK o F:=by rw[e];exact h
def ya{o:Option vm}(h:zK o F):∃C fs,o=Fa (.ins C fs)/\F C fs:=by
 unfold zK at h;split at h
 .exact⟨_,_,Z',h⟩
 .exact h.elim
def W2(f:Str)(ta:T3):T3:=λU M Q=>ta U M λx M1=>match x with
 | .ref a=>zK (M1 a) λ_ fs=>(fs.lookup f).elim False λd=>Q d M1
 | _=>False
def pV{f:Str}(he:E3 X o ta)(hb:Ps o f X.env (wp o X.env)=wp o X.env:=by rfl):E3 X (.Attribute o f pos) (W2 f ta):=PE.mono (TF he hb) λY H Q' zz=>x7 zz λU M Q hs hm ht k=>
 ⟨U,M,_,hs,hm,ht,λv H1 d M1 hd XH e1 q1=>by
  cases d with
  | ref a=>cases hd.ni;obtain⟨C,fs,e,q1⟩:=ya q1;obtain⟨d,e2,q⟩:=rC q1;obtain⟨dx,vs,h1,cl,na,fo⟩:=XH a _ e;obtain⟨v,e3,hv⟩:=(xB fo).1 d e2;exact⟨a,C,dx,vs,v,Z',h1,cl,na f (J7 e2),e3,k v H1 d M1 hv XH e1 q⟩
  | _=>exact q1.elim⟩
def wG(f:Str)(v:D):T0 (Str×D)->T0 (Str×D)
 | []=>[(f,v)]
 | (g,u)::r=>if g=f then(g,v)::r else(g,u)::wG f v r
theorem Fe{K:qL}{f:Str}(hv:sr K H d v):∀{fs:T0 (Str×D)} {vs:T0 (Str×V)},Cy K H fs vs->Cy K H (wG f d fs) (vY f v vs)
 | [],[],_=>⟨Z',.cons hv .nil⟩
 | [],_::_,h=>by have:=h.1;simp at this
 | _::_,[],h=>by have:=h.1;simp at this
 | (g,e)::fs,(g',u)::vs,h=>by
  have h1:g'=g/\vs.map (·.1)=fs.map (·.1):=by
   have:=h.1
   simpa using this
  obtain⟨x,r,e1,a,b⟩:=h.2.inv;have e':u::vs.map (·.2)=x::r:=e1;cases e';obtain⟨hg,ht⟩:=h1;subst hg;rw[show wG f d ((g',e)::fs)=(if g'=f then(g',d)::fs else(g',e)::wG f d fs)from Z',show vY f v ((g',u)::vs)=(if g'=f then(g',v)::vs else(g',u)::vY f v vs)from Z'];by_cases q:g'=f
  .rw[dw q,dw q];exact⟨by simpa using ht,.cons hv b⟩
  .rw[dq q,dq q];obtain⟨i1,i2⟩:=Fe hv (fs:=fs) (vs:=vs) ⟨ht,b⟩;exact⟨by simpa using i1,.cons a i2⟩
theorem B2{f:Str}:∀{fs:T0 (Str×D)} {g:Str},g∈(wG f d fs).map (·.1)->g=f\/g∈fs.map (·.1)
 | [],g,h=>.inl (by simpa [wG]using h)
 | (k,e)::r,g,h=>by
  rw[show wG f d ((k,e)::r)=(if k=f then(k,d)::r else(k,e)::wG f d r)from Z']at h;by_cases q:k=f
  .rw[dw q]at h;exact .inr (by simpa using h)
  .rw[dq q]at h;rw[eh,dA]at h;rcases h with h|h
   .exact .inr (by simp[h])
   .rcases B2 h with z|z
    .exact .inl z
    .exact .inr (by simp;right;simpa using z)
def Uu(K:qL)(f:Str)(ta tv:T3):yl:=λD U M=>tv U M λy M1=>ta U M1 λx M2=>match x with
 | .ref a=>zK (M2 a) λC fs=>uH K C f/\fs.length<1000/\D.nx U (pX M2 a (.ins C (wG f y fs)))
 | _=>False
def qC{f:Str}(ha:E3 X o ta)(hv:E3 X value tv)(Ze:ZB value (Fa (.Attribute o f XQ)) pos.line X.env=pure lf:=by rfl):S3 X (.Assign [.Attribute o f XQ] value pos) (Uu X.K f ta tv):=
 PS.mono (Sk ha hv Ze) λD' Y H zz=>LF zz λU M D hs hm ht k1 k2 k3 k4=>
 ⟨U,M,_,hs,hm,ht,λy H1 dy M1 hy XH e1 q1=>⟨U,M1,_,hs.mono e1,XH,q1,λv H2 d M2 hd X1 e2 q2=>by
  cases d with
  | ref a=>
   cases hd.ni;obtain⟨C,fs,e,q2⟩:=ya q2;obtain⟨na,hl,q⟩:=q2;obtain⟨dx,vs,h1,cl,nn,fo⟩:=X1 a _ e;have XN:vs.length=fs.length:=by have:=eV List.length fo.1;simpa using this
   refine⟨a,C,dx,vs,Z',h1,cl,na,by omega,?_⟩;obtain⟨YF,e3⟩:=X1.put (p:=a) (o:=.ins C dx (vY f y vs)) (c:=.ins C (wG f dy fs)) e λx=>⟨dx,_,qB,cl,λg hg=>by
    rcases B2 hg with z|z
    .rw[z];exact na
    .exact nn g z,Fe ((hy.mono e2).mono x) (fo.mono x)⟩
   exact k1 Y _ U _ (hs.mono (e1.trans (e2.trans e3))) YF (e1.trans (e2.trans e3)) Z' q
  | _=>exact q2.elim⟩⟩
def Rm(C:Uf)(sp:rL)(t:xP):T3:=λU M Q=>t U M λds M1=>∀x,M1 x=Db->sp (.ref x::ds) (pX M1 x (.ins C [])) λd M2=>d=.nz/\Q (.ref x) M2
def Oj{K:qL}{xa dx:Uf}(hm:HM K H M)(cl:Cls K C)(h1:H xa=Db)(h2:H dx=Db)(ne:dx≠xa):HM K (upd (upd H dx (.own xa)) xa (.ins C dx [])) (pX M xa (.ins C []))/\rg K H (upd (upd H dx (.own xa)) xa (.ins C dx [])):=by
 have Ys:upd H dx (.own xa) xa=Db:=by rw[qw (dW ne)];exact h1
 exact⟨(hm.add (p:=dx) (o:=.own xa) h2).new Ys ⟨dx,[],qB,cl,λg hg=>by simp at hg,Z',.nil⟩,rg.trans (.new h2) (.new Ys)⟩
def PB(cl:Cls X.K C)(Mk':Mk X.K C f)(F:Ud X.prog X.w X.K X.mg X.base k f fd ps sp)(hr:sI (k+1) X.A)(hg:Gl X x)(hm:X.mg x=Fa (.ref C))(hb:vj X.K fd ps [])(ha:A3 X (e::es) t) (X4:yW x:=by decide) (he:Bx X e es:=by rfl) (X0:Dh X pos es:=by rfl):
  E3 X (.Call (.Name x p) (e::es) [] pos) (Rm C sp t):=PE.mono (OY Mk' F hr hg hm hb .nil (G6 (X:=X)) ha X4 he X0) λY H Q' zz=>x7 zz λU M Q hs hm ht k=>
 ⟨U,M,_,hs,hm,ht,λvs H1 ds M1 hd XH e1 q1=>λxa dx n1 n2 ne=>by
  obtain⟨X1,e2⟩:=Oj XH cl n1 n2 ne;refine⟨.ref xa::ds,_,_,?_,X1,q1 xa (XH.fresh n1),λv H3 d M3 hd3 YF e3 q3=>?_⟩
  .rw[e9];exact .cons .ref (hd.mono e2)
  .obtain⟨z,q3⟩:=q3;subst z;exact⟨hd3.nu,k _ H3 _ M3 .ref YF (e1.trans (e2.trans e3)) q3⟩⟩
def HU(m:Str)(R:Uf->Sp->Prop)(ta:TE)(t:TA):TE:=λY H Q=>ta Y H λx H1=>∃a C dx fs sp,x=.ref a/\H1 a=Fa (.ins C dx fs)/\fs.lookup m=Db/\R C sp/\t Y H1 λvs H2=>sp (x::vs) H2 Q E0
def yb(P:Pg)(w:Wo)(K:qL)(mg:QQZ)(base:No)(k:Nat)(m:Str)(C:Uf)(sp:Sp):Prop:=Cls K C/\∃f fd ps,vX K C m f/\xO P w K mg base OM k f fd ps sp/\vj K fd ps []
def NE{R:Uf->Sp->Prop}{ta:TE}{t:TA}{pl:Sem Bool}(he:PE X o ta)(hR:∀C sp,R C sp->yb X.prog X.w X.K X.mg X.base k m C sp)(hr:sI k X.A)(ha:PA X (e::es) t) (X6:Bx X e es:=by rfl) (X0:Dh X pos es:=by rfl)
  (ht:wp (.Call (.Attribute o m XI) (e::es) [] pos) X.env=(do
   let ov<-wp o X.env
   XXd XI.atName
   let(f,first)<-TD [ov] (TW ov m pl)
   XXi pos f first (sB pos (Tl (e::es) X.env)) (xL pos (Rs [] X.env))):=by rfl):
  PE X (.Call (.Attribute o m XI) (e::es) [] pos) (HU m R ta t):=by
 intro XF s Y H Q I h;refine kg (pl:=pl) (sX (he XF s Y H _ I h) λu s1 zz=>?_) ht;obtain⟨x,H1,I1,rx,a,C,dx,fs,sp,ex,ea,l,hRC,q⟩:=zz;obtain⟨c,f,fd,ps,hm,F,hb⟩:=hR C sp hRC;subst ex;obtain rfl:u=Value.ref a:=rx;refine Cw I1 ea c hm l ?_;refine iX (first:=[.ref a]) (h₀:=X.base) I.ok.mod.oZ hm.kp (sX (ha pos XF s1 Y H1 _ I1 q) λus s2 zz=>x5 zz λvs H2 I2 r q2=>⟨I2.nO,?_⟩) X6 X0;exact FZ (us:=.ref a::us) (vs:=.ref a::vs) F hr hb .nil (G6 (X:=X)) I2 (.cons Z' r) (by rw[e9];exact q2)
def KI{R:Uf->Sp->Prop}{ta:TE}{pl:Sem Bool}(he:PE X o ta)(hR:∀C sp,R C sp->yb X.prog X.w X.K X.mg X.base k m C sp)(hr:sI k X.A) (ht:wp (.Call (.Attribute o m XI) [] [] pos) X.env=(do
   let ov<-wp o X.env
   XXd XI.atName
   let(f,first)<-TD [ov] (TW ov m pl)
   XXi pos f first (sB pos (Tl [] X.env)) (xL pos (Rs [] X.env))):=by rfl):
  PE X (.Call (.Attribute o m XI) [] [] pos) (HU m R ta VM):=by
 intro XF s Y H Q I h;refine kg (pl:=pl) (sX (he XF s Y H _ I h) λu s1 zz=>?_) ht;obtain⟨x,H1,I1,rx,a,C,dx,fs,sp,ex,ea,l,hRC,q⟩:=zz;obtain⟨c,f,fd,ps,hm,F,hb⟩:=hR C sp hRC;subst ex;obtain rfl:u=Value.ref a:=rx;refine Cw I1 ea c hm l ?_;exact W.callWith_K0 (first:=[.ref a]) I1.nO hm.kp (FZ (us:=[.ref a]) (vs:=[.ref a]) F hr hb .nil (G6 (X:=X)) I1 (.cons Z' .nil) (by rw[e9];exact q))
def AR(m:Str)(R:Uf->rL->Prop)(ta:T3)(t:xP):T3:=λU M Q=>ta U M λx M1=>match x with
 | .ref a=>zK (M1 a) λC fs=>fs.lookup m=Db/\∃sp,R C sp/\t U M1 λds M2=>sp (x::ds) M2 Q
 | _=>False
def Ww(K:qL)(R:Uf->rL->Prop):Uf->Sp->Prop:=λC sp'=>∃sp,R C sp/\sp'=OO K sp
def JE:∀Y H Q',lo X.K (AR m R ta t) Y H Q'->HU m (Ww X.K R) (lo X.K ta) (Xa X.K t) Y H Q':=λY H Q' zz=>x7 zz λU M Q hs hm ht k=>
 ⟨U,M,_,hs,hm,ht,λv H1 d M1 hd XH e1 q1=>by
  cases d with
  | ref a=>cases hd.ni;obtain⟨C,fs,e,q1⟩:=ya q1;obtain⟨hn,sp,hR,q⟩:=q1;obtain⟨dx,vs,h1,cl,na,fo⟩:=XH a _ e;exact⟨a,C,dx,vs,_,Z',h1,(xB fo).2 hn,⟨sp,hR,Z'⟩,U,M1,_,hs.mono e1,XH,q,λus H2 ds M2 Y0 X1 e2 q2=>⟨.ref a::ds,M2,Q,.cons .ref Y0,X1,q2,wj (e1.trans e2) k⟩⟩
  | _=>exact q1.elim⟩
def F1{R:Uf->rL->Prop}{pl:Sem Bool}(he:E3 X o ta)(hR:∀C sp,R C sp->yb X.prog X.w X.K X.mg X.base k m C (OO X.K sp))(hr:sI k X.A)(ha:A3 X (e::es) t) (X6:Bx X e es:=by rfl) (X0:Dh X pos es:=by rfl)
  (ht:wp (.Call (.Attribute o m XI) (e::es) [] pos) X.env=(do
   let ov<-wp o X.env
   XXd XI.atName
   let(f,first)<-TD [ov] (TW ov m pl)
   XXi pos f first (sB pos (Tl (e::es) X.env)) (xL pos (Rs [] X.env))):=by rfl):
  E3 X (.Call (.Attribute o m XI) (e::es) [] pos) (AR m R ta t):=PE.mono (NE (R:=Ww X.K R) he (λC sp' ⟨sp,h,z⟩=>by rw[z];exact hR C sp h) hr ha X6 X0 ht) JE
def Cs{R:Uf->rL->Prop}{pl:Sem Bool}(he:E3 X o ta)(hR:∀C sp,R C sp->yb X.prog X.w X.K X.mg X.base k m C (OO X.K sp))(hr:sI k X.A) (ht:wp (.Call (.Attribute o m XI) [] [] pos) X.env=(do
   let ov<-wp o X.env
   XXd XI.atName
   let(f,first)<-TD [ov] (TW ov m pl)
   XXi pos f first (sB pos (Tl [] X.env)) (xL pos (Rs [] X.env))):=by rfl):
  E3 X (.Call (.Attribute o m XI) [] [] pos) (AR m R ta yi):=PE.mono (KI (R:=Ww X.K R) he (λC sp' ⟨sp,h,z⟩=>by rw[z];exact hR C sp h) hr ht) λY H Q' h=>by
 obtain⟨U,M,Q,hs,hm,ht,k⟩:=JE (t:=yi) Y H Q' h;refine⟨U,M,Q,hs,hm,ht,λv H' d M' x1 x2 x3 x4=>?_⟩;obtain⟨a,C,dx,fs,sp,e1,e2,e3,e4,δ',XM,Q'',y1,y2,y3,y4⟩:=k v H' d M' x1 x2 x3 x4;exact⟨a,C,dx,fs,sp,e1,e2,e3,e4,y4 [] H' [] XM .nil y2 .refl y3⟩
structure GI(K:qL)(H1:Hp)(J:It)(ds:List D)(ok:Mp->Prop):Prop where
 go:∀i H M,i<ds.length->HM K H M->ok M->rg K H1 H->J.go i H
 pB:∀i d H M x H',ds[i]?=Fa d->HM K H M->ok M->rg K H1 H->J.pB i H x H'->sr K H' d x/\HM K H' M/\rg K H H'
 stop:∀H M,HM K H M->ok M->rg K H1 H->J.stop ds.length H
abbrev OK:=vH->Mp->(T0 D->(Mp->Prop)->Mp->Prop)->Prop
def Xf(K:qL)(wi:OK):TI:=λY H R'=>BV λU M R=>yU K H Y U/\HM K H M/\wi U M R/\∀J H1 ds ok M1,GI K H1 J ds ok->HM K H1 M1->rg K H H1->ok M1->R ds ok M1->R' J H1
def I3(X:Cx)(tg iter:Go)(wi:OK):Prop:=PI X tg iter (Xf X.K wi)
def PI.mono{t t':TI}(h:PI X tg e t)(m:∀Y H Q,t' Y H Q->t Y H Q):PI X tg e t':=λXF s Y H Q I q=>h XF s Y H Q I (m Y H Q q)
variable {H1:Hp}
def Md:GI K H1 (VQ K a) ds (λM=>pI M a=Fa ds) where
 go:=λi H M hi hm ok _=>by obtain⟨xs,h1,h2,_⟩:=qK hm ok;obtain⟨x,e,_⟩:=h2.get (df hi);exact⟨xs,x,h1,e⟩
 pB:=λi d H M x H' hd hm ok _ y=>by obtain⟨xs,h1,h2,_⟩:=qK hm ok;obtain⟨e,y⟩:=y;subst e;obtain⟨x',e,hx⟩:=h2.get hd;have:=y xs h1;rw[e]at this;cases this;exact⟨hx,hm,.refl⟩
 stop:=λH M hm ok _=>by obtain⟨xs,h1,h2,_⟩:=qK hm ok;exact⟨xs,h1,by rw[h2.length];exact dC _⟩
def QW(h1:vE K H1 a xs)(h2:qF K H1 ds xs):GI K H1 (W7 K a) ds (λ_=>True) where
 go:=λi H M hi hm ok e1=>by obtain⟨x,e,_⟩:=h2.get (df hi);exact⟨xs,x,e1.t _ _ h1,e⟩
 pB:=λi d H M x H' hd hm ok e1 y=>by obtain⟨e,y⟩:=y;subst e;obtain⟨x',e,hx⟩:=h2.get hd;have:=y xs (e1.t _ _ h1);rw[e]at this;cases this;exact⟨hx.mono e1,hm,.refl⟩
 stop:=λH M hm ok e1=>⟨xs,e1.t _ _ h1,by rw[h2.length];exact dC _⟩
def S6(h1:P6 K H1 a xs)(h2:qF K H1 ds xs):GI K H1 (VQ K a) ds (λ_=>True) where
 go:=λi H M hi hm ok e1=>by obtain⟨x,e,_⟩:=h2.get (df hi);exact⟨xs,x,(h1.mono e1).sq,e⟩
 pB:=λi d H M x H' hd hm ok e1 y=>by obtain⟨e,y⟩:=y;subst e;obtain⟨x',e,hx⟩:=h2.get hd;have:=y xs (h1.mono e1).sq;rw[e]at this;cases this;exact⟨hx.mono e1,hm,.refl⟩
 stop:=λH M hm ok e1=>⟨xs,(h1.mono e1).sq,by rw[h2.length];exact dC _⟩
def Ky{lo:Int}:GI K H1 (VX lo n) ((List.range n).map λi=>D.int (lo+(i:Nat))) (λ_=>True) where
 go:=λi H M hi hm ok e1=>by
  have z:i<n:=by simpa using hi
  exact z
 pB:=λi d H M x H' hd hm ok e1 y=>by
  obtain⟨e,y⟩:=y;subst e;subst y;have hi:i<n:=by
   have:=(dh.mp hd).1
   simpa using this
  have hd':d=D.int (lo+(i:Nat)):=by rw[dJ,kX hi]at hd;exact(dB hd).symm
  subst hd';exact⟨.int,hm,.refl⟩
 stop:=λH M hm ok e1=>by show n<=_;simp
variable {scope:XXe}{ix:T0 (Option Nat)}{N':QQQ}{iter YB:Go}{Yk:T0 Go}{wi:OK}{g:DR}{tt:AE}{te:T3}{tg:Go}
def U6(t:T3):OK:=λU M R=>t U M λx M1=>match x with
 | .tup ds=>R ds (λ_=>True) M1
 | .ref a=>(pI M1 a).elim False λds=>R ds (λM=>pI M a=Fa ds) M1
 | .rl ds=>R ds (λ_=>True) M1
 | .str z=>R (z.cps.toList.map λc=>D.str ⟨#[c]⟩) (λ_=>True) M1
 | _=>False
def Q7{K:qL}:GI K H1 (Wc z) (z.cps.toList.map λc=>D.str ⟨#[c]⟩) (λ_=>True) where
 go:=λi H M hi hm ok _=>by
  show i<z.cps.size
  simpa using hi
 pB:=λi d H M x H' hd hm ok _ y=>by obtain⟨e,c,e1,e2⟩:=y;subst e e2;rw[dJ,kD,e1]at hd;cases hd;exact⟨.str,hm,.refl⟩
 stop:=λH M hm ok _=>by show _=z.cps.size;simp
def qV{t:T3}(h:E3 X l t)(hc:X.calm=pc:=by rfl):I3 X tg l (U6 t):=PI.mono (O7 hc h) λY H R' zz=>x7 zz λU M R hs hm ht k=>
 ⟨U,M,_,hs,hm,ht,λv H1 d M1 hd XH e1 q1=>by
  cases d with
  | tup ds=>obtain⟨a,xs,rfl,h1,h2⟩:=hd.nA;exact .inl ⟨a,Z',.inr ⟨⟨xs,h1⟩,k _ H1 ds _ M1 (QW h1 h2) XH e1 trivial q1⟩⟩
  | ref a=>cases hd.ni;obtain⟨ds,e0,q⟩:=rC q1;obtain⟨xs,h1,h2,_⟩:=qK XH e0;exact .inl ⟨a,Z',.inl ⟨⟨xs,h1⟩,k _ H1 ds _ M1 Md XH e1 e0 q⟩⟩
  | str z=>exact .inr ⟨z,hd.str_inv,k _ H1 _ _ M1 Q7 XH e1 trivial q1⟩
  | rl ds=>obtain⟨a,xs,rfl,h1,h2⟩:=hd.nN;exact .inl ⟨a,Z',.inl ⟨⟨xs,h1.sq⟩,k _ H1 ds _ M1 (S6 h1 h2) XH e1 trivial q1⟩⟩
  | _=>exact q1.elim⟩
def VL(t:xP):OK:=λU M R=>t U M λds M1=>match ds with
 | [.int j]=>(-(2 ^ 62)<=j/\j<2 ^ 62)/\R ((List.range j.toNat).map λi=>D.int (0+(i:Nat))) (λ_=>True) M1
 | [.int i,.int j]=>(-(2 ^ 62)<=i/\i<2 ^ 62/\-(2 ^ 62)<=j/\j<2 ^ 62)/\R ((List.range (j - i).toNat).map λn=>D.int (i+(n:Nat))) (λ_=>True) M1
 | _=>False
def wN{a:Go}{ta:xP}(hg:Gl X "range")(hm:X.mg "range"=Db)(ha:A3 X [a] ta)(hs:Tl [a] X.env=[(lf,wp a X.env)]:=by rfl):I3 X tg (.Call (.Name "range" p) [a] [] pos) (VL λU M Q=>ta U M λds M1=>ds.length=1/\Q ds M1):=
 PI.mono (KN hg hm ha hs) λY H R' zz=>x7 zz λU M R hs hm ht k=>⟨U,M,_,hs,hm,ht,λvs H1 ds M1 hd XH e1 q1=>by
  obtain⟨hl,q1⟩:=q1;split at q1
  .obtain⟨v,rfl,hv⟩:=sD hd;cases hv.int_inv;exact⟨_,Z',q1.1.1,q1.1.2,k _ H1 _ _ M1 Ky XH e1 trivial q1.2⟩
  .simp at hl
  .exact q1.elim⟩
def FB(g:DR)(tb:yl)(ok:Mp->Prop)(E:GU):T0 D->vH->Mp->Prop
 | [],U,M=>E.nx U M
 | d::r,U,M=>g d U M λδ2 M2=>tb {E with nx:=λδ' M'=>ok M'/\FB g tb ok E r δ' M',ct:=λδ' M'=>ok M'/\FB g tb ok E r δ' M',bk:=E.nx} δ2 M2
def W0(wi:OK)(g:DR)(tb:yl):yl:=λE U M=>wi U M λds ok M1=>FB g tb ok E ds U M1
def vq{tb:yl}(hp:PassesOwn (Tk X.prog X.w) X.A X.env X.xe)(hc:X.calm=pc)(hi:I3 X tg iter wi)(hg:G3 X tg g)(hb:IA X body tb) (hs:∀x,AT iter X.env x=pure x:=by intro _;rfl):S3 X (.For tg iter body [] pos) (W0 wi g tb):=PS.mono (To hp hc hi hg hb hs) λD' Y H zz=>LF zz λU M E hs hm ht k1 k2 k3 k4=>
 ⟨U,M,_,hs,hm,ht,λJ H1 ds ok M1 S XH e1 ok1 q1=>by
  refine⟨λi m σ' H'=>m=ds.length - i/\i<=ds.length/\∃δ' M',yU X.K H' σ' δ'/\HM X.K H' M'/\ok M'/\rg X.K H1 H'/\σ'.length=Y.length/\FB g tb ok E (ds.drop i) δ' M',⟨ds.length,by simp,eQ _,U,M1,hs.mono e1,XH,ok1,.refl,Z',by simpa using q1⟩,?_⟩
  rintro i m σ' H' ⟨rfl,hi,δ',M',hs',YK,ok',e',l',q'⟩
  by_cases XU:i<ds.length
  .rw[gW XU]at q';refine .inr ⟨S.go i H' M' XU YK ok' e',λσ2 H2=>∃δ2 M2,yU X.K H2 σ2 δ2/\HM X.K H2 M2/\ok M2/\rg X.K H1 H2/\σ2.length=Y.length/\FB g tb ok E (ds.drop (i+1)) δ2 M2,λσ2 H2 z=>⟨ds.length - (i+1),by omega,Z',XU,z⟩,λx H2 y=>?_⟩;obtain⟨hx,X1,e2⟩:=S.pB i ds[i] H' M' x H2 (df XU) YK ok' e' y;refine⟨ds[i],δ',M',_,hx,hs'.mono e2,X1,q',λσ3 H3 δ3 M3 x1 x2 x3 x4 x5=>?_⟩;refine⟨δ3,M3,_,x1,x2,x5,λσ4 H4 δ4 M4 y1 y2 y3 y4 y5=>?_,λv H4 d M4 y1 y2 y3 y4=>?_,λσ4 H4 δ4 M4 y1 y2 y3 y4 y5=>?_,λσ4 H4 δ4 M4 y1 y2 y3 y4 y5=>?_⟩
   .exact⟨δ4,M4,y1,y2,y5.1,e'.trans (e2.trans (x3.trans y3)),by rw[y4,x4,l'],y5.2⟩
   .exact k2 v H4 d M4 y1 y2 (e1.trans (e'.trans (e2.trans (x3.trans y3)))) y4
   .exact k1 σ4 H4 δ4 M4 y1 y2 (e1.trans (e'.trans (e2.trans (x3.trans y3)))) (by rw[y4,x4,l']) y5
   .exact⟨δ4,M4,y1,y2,y5.1,e'.trans (e2.trans (x3.trans y3)),by rw[y4,x4,l'],y5.2⟩
  .have e:i=ds.length:=by omega
   subst e;rw[jX]at q';exact .inl ⟨S.stop H' M' YK ok' e',k1 σ' H' δ' M' hs' YK (e1.trans e') l' q'⟩⟩
def Rg(ix:T0 (Option Nat))(U:vH):vH:=ix.map λo=>o.bind λi=>(U[i]?).join
def QJ{K:qL}(h:yU K H Y U):yU K H (Pq ix Y) (Rg ix U):=λi d q=>by
 unfold Rg at q;unfold Pq;rw[dJ]at q ⊢;cases e:ix[i]? with
 | none=>rw[e]at q;cases q
 | some o=>
  rw[e]at q;cases o with
  | none=>cases q
  | some j=>
   have q':(U[j]?).join=Fa d:=dB q;have e4:U[j]?=Fa (Fa d):=by
    cases r:U[j]? with
    | none=>rw[r]at q';cases q'
    | some w=>rw[r]at q';exact eV Fa q'
   obtain⟨v,e5,hv⟩:=h j d e4;refine⟨v,?_,hv⟩;show Fa ((Y[j]?).join)=Fa (Fa v);rw[e5];rfl
def vi(g:DR)(tt:AE)(te:T3)(ok:Mp->Prop)(Q:DK):T0 D->T0 D->vH->Mp->Prop
 | [],acc,_,M=>acc.length<=pi/\∀p,M p=Db->Q (.ref p) (pX M p (.lst acc))
 | d::r,acc,U,M=>acc.length<pi/\g d U M λδ2 M2=>tt δ2 M2 λb M3=>if b=pc then te δ2 M3 λy M4=>ok M4/\vi g tt te ok Q r (acc++[y]) δ2 M4 else ok M3/\vi g tt te ok Q r acc δ2 M3
def Ot(ix:T0 (Option Nat))(wi:OK)(g:DR)(tt:AE)(te:T3):T3:=λU M Q=>wi U M λds ok M1=>vi g tt te ok Q ds [] (Rg ix U) M1
def F3(X:Cx)(Yk:T0 Go)(t:AE):Prop:=PF X Yk (T9 X.K t)
def PF.mono{e:T0 Go}{t t':TT}(h:PF X e t)(m:∀Y H Q,t' Y H Q->t Y H Q):PF X e t':=λXF s Y H Q I q=>h XF s Y H Q I (m Y H Q q)
def CV:AE:=λ_ M Q=>Q pc M
def su:F3 X [] CV:=PF.mono RL λY H Q' zz=>x7 zz λU M Q hs hm ht k=>k pc H M hm .refl ht
def uG{t:AE}(h:B3 X c t):F3 X [c] t:=Tg h
def J3:∀Y H Q',lo X.K (Ot ix wi g tt te) Y H Q'->LX ix (Xf X.K wi) (VW X.K g) (T9 X.K tt) (lo X.K te) Y H Q':=λY H Q' zz=>x7 zz λU M Q hs hm ht k=>
 ⟨U,M,_,hs,hm,ht,λJ H1 ds ok M1 S XH e1 ok1 q1=>by
  refine⟨λi m ys σ' H'=>m=ds.length - i/\i<=ds.length/\∃δ' M' acc,yU X.K H' σ' δ'/\HM X.K H' M'/\qF X.K H' acc ys/\ok M'/\rg X.K H1 H'/\vi g tt te ok Q (ds.drop i) acc δ' M',⟨ds.length,by simp,eQ _,Rg ix U,M1,[],QJ (hs.mono e1),XH,.nil,ok1,.refl,by simpa using q1⟩,?_⟩
  rintro i m ys σ' H' ⟨rfl,hi,δ',M',acc,hs',YK,Zk,ok',e',q'⟩
  by_cases XU:i<ds.length
  .rw[gW XU]at q';obtain⟨hz,q'⟩:=q';refine .inr ⟨S.go i H' M' XU YK ok' e',by rw[<-Zk.length];exact hz,λx H2 y=>?_⟩;obtain⟨hx,X1,e2⟩:=S.pB i ds[i] H' M' x H2 (df XU) YK ok' e' y;refine⟨ds[i],δ',M',_,hx,hs'.mono e2,X1,q',λσ3 H3 δ3 M3 x1 x2 x3 x4 x5=>?_⟩;refine⟨δ3,M3,_,x1,x2,x5,λb H4 M4 y2 y3 y5=>?_⟩;cases b with
   | true=>rw[dw Z']at y5 ⊢;refine⟨δ3,M4,_,x1.mono y3,y2,y5,λv H5 d M5 z1 z2 z3 z4=>⟨ds.length - (i+1),by omega,Z',XU,δ3,M5,acc++[d],x1.mono (y3.trans z3),z2,(Zk.mono (e2.trans (x3.trans (y3.trans z3)))).snoc z1,z4.1,e'.trans (e2.trans (x3.trans (y3.trans z3))),z4.2⟩⟩
   | false=>rw[dq dF]at y5 ⊢;exact⟨ds.length - (i+1),by omega,Z',XU,δ3,M4,acc,x1.mono y3,y2,Zk.mono (e2.trans (x3.trans y3)),y5.1,e'.trans (e2.trans (x3.trans y3)),y5.2⟩
  .have e:i=ds.length:=by omega
   subst e;rw[jX]at q';refine .inl ⟨S.stop H' M' YK ok' e',by rw[<-Zk.length];exact q'.1,λp hp=>?_⟩;have e5:rg X.K H' (upd H' p (.lst ys)):=.new hp;exact k _ _ _ _ .ref (YK.new (c:=.lst acc) hp ⟨_,qB,Zk.mono e5⟩) (e1.trans (e'.trans e5)) (q'.2 p (YK.fresh hp))⟩
def qY(hc:X.calm=pc)(S:sO X scope ix N')(hi:I3 X tg iter wi)(hg:∀{C s0 H0 ex},G3 (X.comp scope N' C s0 H0 ex) tg g)(ht:∀{C s0 H0 ex},F3 (X.comp scope N' C s0 H0 ex) Yk tt)(he:∀{C s0 H0 ex},E3 (X.comp scope N' C s0 H0 ex) YB te) (hs:∀x,AT iter X.env x=pure x:=by intro _;rfl):E3 X (.ListComp YB [⟨tg,iter,Yk,0⟩] scope pos) (Ot ix wi g tt te):=PE.mono (Qh (g:=VW X.K g) (tt:=T9 X.K tt) (te:=lo X.K te) hc S hi (λ_ _ _ _=>hg) (λ_ _ _ _=>ht) (λ_ _ _ _=>he) hs) J3
def tF{i:Nat}{x:Str}{px Zu:Pos}(hN:X.N.Nodup)(ZW:X.N[i]?=Fa x)(hx:LG X.env.scope x)(hc:X.calm=pc)(S:sO X scope ix N')(hi:I3 X tg iter wi)(hg:∀{C s0 H0 ex},G3 (X.comp scope N' C s0 H0 ex) tg g)(ht:∀{C s0 H0 ex},F3 (X.comp scope N' C s0 H0 ex) Yk tt) (he:∀{C s0 H0 ex},E3 (X.comp scope N' C s0 H0 ex) YB te) (Ze:ZB (.ListComp YB [⟨tg,iter,Yk,0⟩] scope pos) (Fa (.Name x px)) Zu.line X.env=pure pc:=by rfl)
  (hf:LD X x:=by first|exact .inl Z'|exact .inr Z'|assumption) (hs:∀x,AT iter X.env x=pure x:=by intro _;rfl):
  S3 X (.Assign [.Name x px] (.ListComp YB [⟨tg,iter,Yk,0⟩] scope pos) Zu) (HD (Ot ix wi g tt te) (uq i)):=PS.ow (Iq (g:=VW X.K g) (tt:=T9 X.K tt) (te:=lo X.K te) hN ZW hx hc S hi (λ_ _ _ _=>hg) (λ_ _ _ _=>ht) (λ_ _ _ _=>he) Ze hf hs) λD' Y H hl zz=>LF zz λU M D hs hm ht k1 k2 k3 k4=>
 J3 Y H _ ⟨U,M,_,hs,hm,ht,λv H1 d M1 hd XH e1 q1=>k1 _ H1 _ M1 ((hs.mono e1).set hd (by rw[hl];exact(dh.mp ZW).1)) XH e1 (by simp) q1⟩
def Xg(hr:sI k A):A.units+9<XXa:=by have:=hr.units;omega
def IG(sc:XXe)(N:QQQ)(scope:XXe)(ix:T0 (Option Nat))(N':QQQ):Bool:=
 (scope.kind==.function)&&(scope.names.all λy=>!(y.2==.cell))&&(scope.names.all λy=>!(y.2==.local)||(scope.names.lookup y.1==Fa .local))&&
 (scope.names.all λy=>!(y.2==.free)||(sc.names.lookup y.1==Fa .cell)||(sc.names.lookup y.1==Fa .free))&&(ix.length==N'.length)&&
 ((ix.zip N').all λp=>match p.1 with|none=>pc|some i=>(N[i]?==Fa p.2)&&(scope.names.lookup p.2==Fa .free))
def UA{X:Cx}(h:IG X.env.scope X.N scope ix N'=pc):sO X scope ix N':=by
 unfold IG at h;simp only[d6]at h;obtain⟨⟨⟨⟨⟨h1,h2⟩,h3⟩,h4⟩,h5⟩,h6⟩:=h;refine⟨by simpa using h1,λy hy e=>?_,λy hy e=>?_,λy hy e=>?_,by simpa using h5,λj i x e1 e2=>?_⟩
 .have:=eR.mp h2 y hy;rw[e]at this;simp at this
 .have:=eR.mp h3 y hy;rw[e]at this
  simpa using this
 .have:=eR.mp h4 y hy;rw[e]at this
  simpa using this
 .have hm:(Fa i,x)∈ix.zip N':=by
   have:(ix.zip N')[j]?=Fa (Fa i,x):=by rw[iB];exact⟨e1,e2⟩
   exact fA this
  have:=eR.mp h6 _ hm
  simpa using this
section
variable {a b:Go}
def JM(op YA:CmpOp)(ta tb tc:T3):T3:=λU M Q=>ta U M λx M1=>tb U M1 λy M2=>Qu op x y M2 λz M3=>match z with
 | .bl k=>if k=pc then tc U M3 λw M4=>Qu YA y w M4 Q else Q (.bl lf) M3
 | _=>False
def uL{op YA:CmpOp}(hu:X.A.units+9<XXa)(ha:E3 X a ta)(hb:E3 X b tb)(hc:E3 X c tc)(hmk:lastMarks [op,YA] [b,c]=lf:=by rfl):
  E3 X (.Compare a [op,YA] [b,c] pos) (JM op YA ta tb tc):=PE.mono (Mw (Lm op hu) (Lm YA hu) ha hb hc hmk) λY H Q' zz=>x7 zz λU M Q hs hm ht k=>
 ⟨U,M,_,hs,hm,ht,λv H1 x M1 hx XH e1 q1=>⟨U,M1,_,hs.mono e1,XH,q1,λu H2 y M2 hy X1 e2 q2=>⟨x,y,M2,_,hx.mono e2,hy,X1,q2,λw H3 z M3 hz YF e3 q3=>by
  cases z with
  | bl c=>
   refine⟨c,hz.nv,?_⟩;cases c with
   | true=>refine(dw Z').mpr ⟨U,M3,_,hs.mono (e1.trans (e2.trans e3)),YF,(dw Z').mp q3,λw' H4 d M4 hd hm4 e4 q4=>⟨y,d,M4,Q,hy.mono (e3.trans e4),hd,hm4,q4,wj (e1.trans (e2.trans (e3.trans e4))) k⟩⟩
   | false=>exact(dq dF).mpr (k _ H3 _ M3 .bl YF (e1.trans (e2.trans e3)) ((dq dF).mp q3))
  | _=>exact q3.elim⟩⟩⟩
def Gk{op YA:CmpOp}(hu:X.A.units+9<XXa)(ha:E3 X a ta)(hb:E3 X b tb)(hc:E3 X c tc)(hmk:lastMarks [op,YA] [b,c]=lf:=by rfl):
  B3 X (.Compare a [op,YA] [b,c] pos) (b3 (JM op YA ta tb tc)):=PT.mono (Mu (Lm op hu) (Lm YA hu) ha hb hc hmk) λY H Q' zz=>x7 zz λU M Q hs hm ht k=>
 ⟨U,M,_,hs,hm,ht,λv H1 x M1 hx XH e1 q1=>⟨U,M1,_,hs.mono e1,XH,q1,λu H2 y M2 hy X1 e2 q2=>⟨x,y,M2,_,hx.mono e2,hy,X1,q2,λw H3 z M3 hz YF e3 q3=>by
  cases z with
  | bl c=>
   refine⟨c,hz.nv,?_⟩;cases c with
   | true=>
    refine(dw Z').mpr ⟨U,M3,_,hs.mono (e1.trans (e2.trans e3)),YF,(dw Z').mp q3,λw' H4 d M4 hd hm4 e4 q4=>⟨y,d,M4,_,hy.mono (e3.trans e4),hd,hm4,q4,λw5 H5 d5 M5 hd5 hm5 e5 q5=>?_⟩⟩;cases d5 with
    | bl c5=>exact⟨c5,hd5.nv,k c5 H5 M5 hm5 (e1.trans (e2.trans (e3.trans (e4.trans e5)))) q5⟩
    | _=>exact q5.elim
   | false=>exact(dq dF).mpr ⟨lf,Z',k lf H3 M3 YF (e1.trans (e2.trans e3)) ((dq dF).mp q3)⟩
  | _=>exact q3.elim⟩⟩⟩
structure WX(K:qL)(C:Uf):Prop where
 ha:W.findIn K (.ref C) "__class__"=Fa (Fa (.builtin "object.__class__"))
 hn:W.specialIn K (.builtin "object.__class__") "__get__"=Fa (Fa (.builtin "getset_descriptor.__get__"))
 htk:W.takesIn K (.builtin "object.__class__")=Fa pc
 hm:W.mroIn K C (.type "object")=Fa pc
def Oq:Option vm->Option Vl
 | some (.lst _)=>Fa (.type "list")
 | some (.ins C _)=>Fa (.ref C)
 | some (.dk _)=>Fa (.type "dict")
 | some (.exc _)=>Db
 | none=>Db
def Xs(M:Mp):D->Option Vl
 | .nz=>Fa (.type "NoneType")
 | .bl _=>Fa (.type "bool")
 | .int _=>Fa (.type "int")
 | .str _=>Fa (.type "str")
 | .tup _=>Fa (.type "tuple")
 | .ref a=>Oq (M a)
 | .ty _=>Db
 | .rl _=>Fa (.type "list")
def WP:D->Option Vl
 | .ref C=>Fa (.ref C)
 | .ty n=>Fa (.type n)
 | _=>Db
def Ru(K:qL)(ds:T0 D)(M:Mp)(Q:DK):Prop:=match ds with
 | [x,c]=>(Xs M x).elim False λt=>(WP c).elim False λcv=>(∀C,t=.ref C->WX K C)/\(W.kitOne K t cv).elim False λb=>Q (.bl b) M
 | _=>False
def AC:C3 X (.builtin "isinstance") (Ru X.K):=by
 intro XF s Y H vs us Q' I rv h;obtain⟨ds,M,Q,hd,hm,q,k⟩:=h;unfold Ru at q;split at q
 .rename_i x c;obtain⟨v,u,rfl,hv,hw⟩:=F9 hd;obtain⟨t,et,q⟩:=rC q;obtain⟨cv,ec,hC,q⟩:=rC q;obtain⟨b,eb,qb⟩:=rC q;obtain⟨uv,uw,rfl,ZY,rv2⟩:=Me rv;have ecv:uw=cv:=by
   cases c with
   | ref C=>cases hw.ni;cases ec;exact rv2
   | ty n=>cases hw.oC;cases ec;exact rv2
   | _=>cases ec
  subst ecv;have XJ:∀tk,EP X XF Y Q' (.bool b) {s with toks:=tk}:=λtk=>⟨.bl b,H,I.tok tk,Z',k _ _ _ _ .bl hm .refl qb⟩;cases x with
  | nz=>cases hv.nu;cases et;exact va I ZY .nz eb XJ
  | bl y=>cases hv.nv;cases et;exact va I ZY (.bl y) eb XJ
  | int y=>cases hv.int_inv;cases et;exact va I ZY (.int y) eb XJ
  | str y=>cases hv.str_inv;cases et;exact va I ZY (.str y) eb XJ
  | tup ds=>obtain⟨a,xs,rfl,h1,h2⟩:=hv.nA;cases et;cases ZY;obtain⟨its,r,p,_⟩:=I.tuple h1;obtain⟨o,g1,g2,_⟩:=p;exact gA W.kitx_tuple I.nO ⟨o,g1,g2⟩ eb (λz=>nomatch z) XJ
  | ref a=>
   cases hv.ni;have et:Oq (M a)=Fa t:=et;cases e:M a with
   | none=>rw[e]at et;cases et
   | some cell=>
    rw[e]at et;have ok:=hm a cell e;cases cell with
    | lst ds=>cases et;obtain⟨xs,e1,_⟩:=ok;exact va I ZY (.lst e1) eb XJ
    | ins C fs=>cases et;obtain⟨dx,vs,e1,cl,_⟩:=ok;obtain⟨i1,i2,i3,i4⟩:=hC C Z';exact va I ZY (.ins e1 cl i1 i2 i3 i4) eb XJ
    | dk kvs=>cases et;obtain⟨vs,e1,_⟩:=ok;exact va I ZY (.dK e1) eb XJ
    | exc C=>cases et
  | ty n=>cases et
  | rl ds=>obtain⟨p,xs,rfl,h1,h2⟩:=hv.nN;cases et;cases ZY;obtain⟨its,r,⟨o,n,g1,g2,_⟩,_⟩:=I.list h1.sq;exact gA lW I.nO ⟨o,g1,g2⟩ eb (λz=>nomatch z) XJ
 .exact q.elim
def Hk:T0 D->Option (T0 Bool)
 | []=>Fa []
 | .bl b::r=>(Hk r).map (b::·)
 | _::_=>Db
theorem FK{K:qL}:∀{ds:T0 D} {bs:T0 Bool} {xs:T0 V} {us:T0 Vl},Hk ds=Fa bs->qF K H ds xs->qO xs us->us=bs.map Value.bool
 | [],bs,xs,us,e,h,r=>by cases e;have:=h.nil_inv;subst this;cases r;rfl
 | d::ds,bs,xs,us,e,h,r=>by
  cases d with
  | bl b=>
   obtain⟨y,ys,rfl,h1,h2⟩:=h.inv;cases h1.nv;unfold Hk at e;cases q:Hk ds with
   | none=>rw[q]at e;cases e
   | some cs=>
    rw[q]at e;cases e;cases r with
    | cons r1 r2=>cases r1;rw[FK q h2 r2];rfl
  | _=>cases e
def US(ds:T0 D)(M:Mp)(Q:DK):Prop:=match ds with
 | [.ref a]=>(pI M a).elim False λes=>(Hk es).elim False λbs=>Q (.bl (bs.all id)) M
 | _=>False
def E9(hc:X.calm=pc):C3 X (.builtin "all") US:=by
 intro XF s Y H vs us Q' I rv h;obtain⟨ds,M,Q,hd,hm,q,k⟩:=h;unfold US at q;split at q
 .rename_i a;obtain⟨v,rfl,hv⟩:=sD hd;obtain⟨es,e0,q⟩:=rC q;obtain⟨bs,e1,q⟩:=rC q;cases hv.ni;obtain⟨u,rfl,ru⟩:=xM rv;cases ru;obtain⟨xs,h1,h2,_⟩:=qK hm e0;obtain⟨its,r,pl,hz⟩:=I.list h1;have eits:=FK e1 h2 r;subst eits;have X3:a≠s.heap.objs.size:=by obtain⟨o,_,e,_⟩:=pl;exact dN (dD e)
  refine call_all_walk (gR pl.isList ?_);refine⟨s.heap.objs.size,_,_,_,_,_,λi=>(bs[i]?).getD pc,Z',kK (A:=X.A.in1) (I.ok.hd hc) _ a X3 (bs.map Value.bool).toArray,⟨⟨_,dP _ Z',Z',Z'⟩,?_⟩,λi v s' Q E hP hQ=>?_,λh' tk hk=>?_⟩
  .obtain⟨o,n,e,c,d,q⟩:=pl;exact⟨o,dv _ e,c,n,q⟩
  .simp only[iV,dJ]at hP;cases e2:bs[i]? with
   | none=>rw[e2]at hP;cases hP
   | some b=>rw[e2]at hP;cases hP;have hQ:Q ((bs[i]?).getD pc) s':=hQ;rw[e2]at hQ;exact fv hQ
  .have ea:(List.range (bs.map Value.bool).toArray.size).all (λi=>(bs[i]?).getD pc)=bs.all id:=by
    rw[dE,c9];rw[gz,eR,eR];constructor
    .intro z b hb;obtain⟨i,hi,e⟩:=gm hb;have:=z i (fW.mpr hi);rw[df hi,e]at this;exact this
    .intro z i hi;have Zl:=fW.mp hi;rw[df Zl];exact z _ (iu Zl)
   rw[ea];refine⟨.bl (bs.all id),H,?_,Z',k _ _ _ _ .bl hm .refl q⟩;exact I.kept (h':=h') (t':=tk) λb o e=>hk b o (by simpa using dN (dD e)) (dv _ e)
 .exact q.elim
def Bk(x:D):T0 D->Option Nat
 | []=>Db
 | d::r=>if P8 d x=pc then Fa 0 else(Bk x r).map (·+1)
theorem Jy{K:qL}{e:D}{w:V}(g:sr K H e w)(fe:vv e=pc):∀{ds:T0 D} {xs:T0 V} {us:T0 Vl} {j:Nat},qF K H ds xs->qO xs us->ds.all vv=pc->Bk e ds=Fa j->
  ∃h:j<us.length,ED w us[j]=pc/\∀m (hm:m<us.length),m<j->ED w us[m]=lf
 | [],_,_,_,_,_,_,q=>by cases q
 | d::ds,_,us,j,h,r,fl,q=>by
  obtain⟨y,ys,rfl,h1,h2⟩:=h.inv;rw[fN,d6]at fl;cases r with
  | @cons _ u _ us' r1 r2=>
   have eu:ED w u=P8 d e:=by rw[Ic r1 (zD h1 fl.1),Jm h1 g fl.1 fe]
   unfold Bk at q;by_cases hq:P8 d e=pc
   .rw[dw hq]at q;cases q;exact⟨by simp,by simpa [eu]using hq,λm _ hm=>absurd hm (Nat.not_lt_zero m)⟩
   .rw[dq hq]at q;cases q2:Bk e ds with
    | none=>rw[q2]at q;cases q
    | some j'=>
     rw[q2]at q;cases q;obtain⟨hl,e1,e2⟩:=Jy g fe h2 r2 fl.2 q2;refine⟨by simpa using hl,by simpa using e1,λm hm XU=>?_⟩;cases m with
     | zero=>simpa [eu]using hq
     | succ m=>simpa using e2 m (by simpa using hm) (by have z:m+1<j'+1:=XU;omega)
def R5(x:D)(ds:T0 D)(M:Mp)(Q:DK):Prop:=match x,ds with
 | .ref a,[y]=>(pI M a).elim False λes=>vv y=pc/\es.all vv=pc/\(Bk y es).elim False λj=>Q (.int (j:Nat)) M
 | _,_=>False
def M3(X:Cx)(id:String)(r:D->T0 D->Mp->DK->Prop):Prop:=Xl X id λvx vs H Q'=>∃x ds M Q,sr X.K H x vx/\qF X.K H ds vs/\HM X.K H M/\r x ds M Q/\Up X.K H Q' Q
def L9:M3 X "list.index" R5:=by
 intro XF s Y H vx vs v us Q' I rx rv h;obtain⟨x,ds,M,Q,hx,hd,hm,q,k⟩:=h;unfold R5 at q;split at q
 .rename_i a y;obtain⟨es,e0,f1,f2,q⟩:=rC q;obtain⟨j,e1,q⟩:=rC q;cases hx.ni;cases rx;obtain⟨w,rfl,hw⟩:=sD hd;obtain⟨u,rfl,ru⟩:=xM rv;obtain⟨xs,h1,h2,rd⟩:=qK hm e0;obtain⟨hz,its,n,r,g⟩:=rd.ok I.nB;obtain⟨hl,p1,p2⟩:=Jy hw f1 h2 r f2 e1;have hlz:its.length<=pi:=by rw[<-r.length];exact hz
  have h63:=zi;refine jJ F.slot_list_index ⟨_,g,Z'⟩ F.entry_list_index (F.args_list_index_2 _ _) (SeqAt.list_indexAt a its.toArray n Db #[] u (ED w) j (by simpa using hl) (by omega) (by simpa using p1) λm hm XU=>by simpa using p2 m (by simpa using hm) XU) ⟨g,?_,?_⟩
  .intro z hz';exact wJ ru (zD hw f1) r (FS h2 f2) z (by simpa using hz')
  .exact⟨.int (j:Nat),H,I.tok _,⟨_,Z'⟩,k _ _ _ _ .int hm .refl q⟩
 .exact q.elim
def RE(M:Mp):D->Prop
 | .ref a=>(pI M a).isSome=pc
 | _=>False
def V5(r:D->T0 D->Mp->DK->Prop)(to:T3)(t:xP):T3:=λU M Q=>to U M λx M1=>RE M1 x/\t U M1 λds M2=>r x ds M2 Q
def Sn{K:qL}{x:D}(hm:HM K H M)(h:sr K H x v)(l:RE M x):Wl K "list" v H:=by
 cases x with
 | ref a=>cases h.ni;obtain⟨ds,e⟩:=jR.mp (show(pI M a).isSome=pc from l);obtain⟨xs,h1,_⟩:=qK hm e;exact .inl ⟨Z',xs,h1⟩
 | _=>exact l.elim
def Rl{id:String}(slot:Slot "list" name id)(hty:typeOf (.builtin id)=pure (.type "method_descriptor"))(hm:M3 X id r)(ho:E3 X o ta)(ha:A3 X (e::es) t) (XX:Ps o name X.env (wp o X.env)=wp o X.env:=by rfl)
  (Y1:((sB pos (Tl (e::es) X.env)).all (λx=>!x.1)&&(xL pos (Rs [] X.env)).all (λx=>x.1.isSome)
   &&decide ((e::es).length+([]:T0 XXf).length+(if ([]:T0 XXf).isEmpty then 0 else 1)<30))=pc:=by rfl)
  (X8:(XI.endLine==pos.line)=pc:=by rfl) (hs:Bx X e es:=by rfl) (X2:Dh X pos es:=by rfl):
  E3 X (.Call (.Attribute o name XI) (e::es) [] pos) (V5 r ta t):=PE.mono (Va PySem.F.plainAttrs_list slot hty hm ho ha XX Y1 X8 hs X2) λY H Q' zz=>x7 zz λU M Q hs hm ht k=>
 ⟨U,M,_,hs,hm,ht,λv H1 x M1 hx XH e1 q1=>⟨Sn XH hx q1.1,U,M1,_,hs.mono e1,XH,q1.2,λvs H2 ds M2 Y0 X1 e2 q2=>⟨x,ds,M2,Q,hx.mono e2,Y0,X1,q2,wj (e1.trans e2) k⟩⟩⟩
def yk(ho:E3 X o ta)(ha:A3 X (e::es) t) (XX:Ps o "index" X.env (wp o X.env)=wp o X.env:=by rfl)
  (Y1:((sB pos (Tl (e::es) X.env)).all (λx=>!x.1)&&(xL pos (Rs [] X.env)).all (λx=>x.1.isSome)
   &&decide ((e::es).length+([]:T0 XXf).length+(if ([]:T0 XXf).isEmpty then 0 else 1)<30))=pc:=by rfl)
  (X8:(XI.endLine==pos.line)=pc:=by rfl) (hs:Bx X e es:=by rfl) (X2:Dh X pos es:=by rfl):
  E3 X (.Call (.Attribute o "index" XI) (e::es) [] pos) (V5 R5 ta t):=Rl PySem.F.slot_list_index PySem.F.type_list_index L9 ho ha XX Y1 X8 hs X2
structure Nn(K:qL)(C:Uf)(m:Str)(f:Uf):Prop where
 hg:W.specialIn K (.ref C) "__getattribute__"=Fa (Fa (.builtin "type.__getattribute__"))
 rd:W.readsIn K C (.type "type")=pc
 fc:W.findCls K (.ref C) (.type "type") m=Fa (.val (.ref f))
def Py{sp:Sp}{t:TA}{pl:Sem Bool}(cm:Nn X.K C m f)(F:xO X.prog X.w X.K X.mg X.base OM k f fd ps sp)(hr:sI k X.A)(hg:Gl X x)(hm:X.mg x=Fa (.ref C))(hk:W.keepIn X.K (.ref f)=pc)(hb:vj X.K fd ps [])(ha:PA X (e::es) t) (X4:yW x:=by decide) (X6:Bx X e es:=by rfl) (X0:Dh X pos es:=by rfl)
  (ht:wp (.Call (.Attribute (.Name x p) m XI) (e::es) [] pos) X.env=(do
   let ov<-wp (.Name x p) X.env
   XXd XI.atName
   let(f,first)<-TD [ov] (TW ov m pl)
   XXi pos f first (sB pos (Tl (e::es) X.env)) (xL pos (Rs [] X.env))):=by rfl):
  PE X (.Call (.Attribute (.Name x p) m XI) (e::es) [] pos) (λY H Q=>t Y H λvs H1=>sp vs H1 Q E0):=by
 intro XF s Y H Q I h;refine kg (pl:=pl) (xF I hg hm ?_ X4) ht;refine W.method_cls I.nO cm.hg (W.cls_value I.nO cm.rd cm.fc Z' ?_);refine iX (first:=[]) (h₀:=X.base) I.ok.mod.oZ hk (sX (ha pos XF _ Y H _ (I.tok _) h) λus s2 zz=>x5 zz λvs H2 I2 r q2=>⟨I2.nO,?_⟩) X6 X0;exact FZ F hr hb .nil (G6 (X:=X)) I2 r (by rw[e9];exact q2)
def PD{pl:Sem Bool}(cm:Nn X.K C m f)(F:Ud X.prog X.w X.K X.mg X.base k f fd ps sp)(hr:sI k X.A)(hg:Gl X x)(hm:X.mg x=Fa (.ref C))(hk:W.keepIn X.K (.ref f)=pc)(hb:vj X.K fd ps [])(ha:A3 X (e::es) t) (X4:yW x:=by decide) (X6:Bx X e es:=by rfl) (X0:Dh X pos es:=by rfl)
  (ht:wp (.Call (.Attribute (.Name x p) m XI) (e::es) [] pos) X.env=(do
   let ov<-wp (.Name x p) X.env
   XXd XI.atName
   let(f,first)<-TD [ov] (TW ov m pl)
   XXi pos f first (sB pos (Tl (e::es) X.env)) (xL pos (Rs [] X.env))):=by rfl):
  E3 X (.Call (.Attribute (.Name x p) m XI) (e::es) [] pos) (Eb sp t):=PE.mono (Py cm F hr hg hm hk hb ha X4 X6 X0 ht) λY H Q' zz=>x7 zz λU M Q hs hm ht k=>
 ⟨U,M,_,hs,hm,ht,λvs H1 ds M1 hd XH e1 q1=>⟨ds,M1,Q,hd,XH,q1,wj e1 k⟩⟩
def qR:zn "len"=Fa (.builtin "len"):=by decide+kernel
def Tj:zn "min"=Fa (.builtin "min"):=by decide+kernel
def ww:zn "isinstance"=Fa (.builtin "isinstance"):=by decide+kernel
def FU:zn "all"=Fa (.builtin "all"):=by decide+kernel
def sS:zn "tuple"=Fa (.type "tuple"):=by decide+kernel
def uf:zn "list"=Fa (.type "list"):=by decide+kernel
def TU:zn "int"=Fa (.type "int"):=by decide+kernel
def JO:zn "bool"=Fa (.type "bool"):=by decide+kernel
def F4:zn "dict"=Fa (.type "dict"):=by decide+kernel
def F8:zn "enumerate"=Fa (.type "enumerate"):=by decide+kernel
def TZ:zn "zip"=Fa (.type "zip"):=by decide+kernel
end
theorem _root_.L2.Inv.drawn{ch:QXQ}{T:Uf}{xs:T0 V}{h':No}{tk:Nat}(I:Inv X XF Y H s)(YH:∀b∈ch,Bb X XF H b)(k:∀b o,b∉ch->s.heap.get? b=Fa o->h'.get? b=Fa o)(hT:s.heap.objs.size<=T)(hx:xs.length<=pi) (rv:qO xs its) (ht:EK h' T its.toArray):Inv X XF Y (upd H T (.tup xs)) {s with heap:=h',toks:=tk}:=by
 have ZZ:H T=Db:=I.nB.fresh hT;have nT:∀b o,s.heap.get? b=Fa o->b≠T:=λb o e=>dN (dU (dD e) hT);refine I.step (g':=s.gens) (d':=s.drawn) (ch:=ch) (λb hb=>⟨(YH b hb).2.2.2.1,(YH b hb).2.1,(YH b hb).2.2.2.2.1,(YH b hb).2.2.2.2.2⟩) (λb o _ _ hc e _=>k b o hc e) (λb o _ _ hc e _=>⟨o.slots,k b o hc e⟩) (λb o _ e n=>by rw[qw (nT b o e)];exact n)
  (λb o hc e=>⟨o,k b o hc e⟩) (λb ys e=>by rw[qw (rm e ZZ)];exact e) (λb o u e=>by rw[qw (rm e ZZ)];exact e) (λb ps e=>⟨#[],by rw[qw (rm e ZZ),e];simp⟩) (λm hm=>?_) (λb u e=>?_) I.bare
 .obtain⟨o,es,ep,ho,r⟩:=hm;exact⟨o,es,ep,k _ o (λz=>(YH _ z).2.1 Z') ho,r⟩
 .by_cases hb:b=T
  .subst hb;rw[qB]at e;cases e;exact⟨hx,its,rv,ht⟩
  .rw[qw hb]at e;refine(I.nB b u e).nR (λc v hc q=>k c v (λz=>?_) q) (λc q=>by rw[qw (rm q ZZ)];exact q) (λc ys q=>by rw[qw (rm q ZZ)];exact q);have n:=(YH c z).1;rcases hc with y|y
   .rw[y,e]at n;cases n
   .rw[y]at n;cases n
def Wb(K:qL)(a:Uf):It:=
 ⟨λi H=>∃xs x,zb K H a xs/\xs[i]?=Fa x,λi H x H'=>∃p y,x=.ref p/\H p=Db/\H'=upd H p (.tup [.int (i:Nat),y])/\∀xs,zb K H a xs->xs[i]?=Fa y,λi H=>∃xs,zb K H a xs/\xs.length<=i⟩
def KG{K:qL}(a e it:Uf)(hei:e≠it):GP P w K (.Tuple Ya n tp) (Wb K a) [e,it] e (λi h=>(∃Yh,IsEnum h e it (i:Nat) Yh)/\h.IsListIter it a i) where
 mem:=by simp
 obj:=λi h st b hb=>by
  obtain⟨⟨Yh,he⟩,o,e1,c,d⟩:=st;rcases dA.mp hb with rfl|hb
  .exact⟨_,he,λv z=>by cases z⟩
  .rw[dG.mp hb];exact⟨o,e1,λv z=>by rw[d]at z;cases z⟩
 keep:=λi h h' st k=>by obtain⟨⟨Yh,he⟩,hi⟩:=st;exact⟨⟨Yh,k e (by simp) _ he⟩,hi.at λo q=>k it (by simp) o q⟩
 item:=by
  intro X hP hw hK hc i XF s Y H E I hf st hg;subst hP hw hK;obtain⟨xs,x,hq,hx⟩:=hg;obtain⟨its,rv,p,hz⟩:=I.list hq;obtain⟨u,hu,ru⟩:=rv.get hx;obtain⟨⟨Yh,he⟩,hi⟩:=st;refine wpAny_pyNext_enum_item he hi p.isList (x:=u) (by simpa using hu) hei λh1 ho Zm hT hsz hk=>?_;refine⟨_,Z',wpAny_letOwnedTupleGo_enum ho λh2 he2 Zp=>?_⟩;have helt:e<s.heap.objs.size:=dD he;have hilt:it<s.heap.objs.size:=by obtain⟨o,q,_⟩:=hi;exact dD q
  have kk:∀b o,b∉[e,it]->s.heap.get? b=Fa o->h2.get? b=Fa o:=λb o hb q=>(Zp.2 b λz=>hb (by simp[z])).trans (hk b o (λz=>hb (by simp[z])) (λz=>hb (by simp[z])) q);have hT2:h2.get? s.heap.objs.size=Fa {cls:=.type "tuple",data:=.seq #[.int (i:Nat) s.toks,u]}:=(Zp.2 _ (gY helt)).trans hT;have ZZ:H s.heap.objs.size=Db:=I.nB.fresh (dC _);have I2:=I.drawn (ch:=[e,it]) (T:=s.heap.objs.size) (xs:=[.int (i:Nat),x]) (its:=[.int (i:Nat) s.toks,u]) (h':=h2) (tk:=s.toks+1) hf kk (dC _) (by show 2<=pi;decide) (.cons ⟨_,Z'⟩ (.cons ru .nil)) ⟨_,hT2,Z',⟨_,Z'⟩,Z'⟩;refine⟨.ref s.heap.objs.size,_,I2,Z',⟨_,x,Z',ZZ,Z',λys hy=>by rw[I.oA hy hq];exact hx⟩,⟨⟨_,by simpa using he2⟩,Zm.extBut Zp.extBut (dW hei)⟩,λb hb=>?_⟩;have YC:b<s.heap.objs.size:=by
   rcases dA.mp hb with z|z
   .rw[z];exact helt
   .rw[dG.mp z];exact hilt
  rw[qw (dN YC)];exact(hf b hb).1
 done:=by intro X hP hw hK hc i XF s Y H E I hf st hg;subst hP hw hK;obtain⟨xs,hq,hx⟩:=hg;obtain⟨its,rv,p,hz⟩:=I.list hq;obtain⟨⟨Yh,he⟩,hi⟩:=st;have hl:=rv.length;obtain⟨f0,f1,f2,f3,f4,f5⟩:=hf it (by simp);exact wpAny_pyNext_enum_end (I.ok.hd hc) he hi p.isList (by simp;omega) λh' eb=>⟨Z',I.turned (t':=s.toks) (λb o hb q=>eb b o hb q) f0 f1 f3 f4 f5⟩
 self:=λ_ _ _ _ _ st h=>by obtain⟨⟨Yh,he⟩,_⟩:=st;exact lT he h
variable {tp:Pos}{Ya:T0 Go}{n:Nat}
def Qa{a:Go}{ta:TA}(hg:Gl X "enumerate")(hm:X.mg "enumerate"=Db)(ha:PA X [a] ta)(hs:Tl [a] X.env=[(lf,wp a X.env)]:=by rfl):
  PI X (.Tuple Ya n tp) (.Call (.Name "enumerate" p) [a] [] pos) (λY H R=>ta Y H λvs H1=>∃l,vs=[.ref l]/\(∃xs,zb X.K H1 l xs)/\R (Wb X.K l) H1):=by
 intro XF s Y H R I h;refine Call_ (vP I hg hm F8 (fH (sX (ha pos XF s Y H _ I h) λus s1 zz=>x5 zz λvs H1 I1 r1 q1=>?_) hs Z'));obtain⟨l,e,⟨xs,hq⟩,q⟩:=q1;subst e;obtain⟨u,rfl,ru⟩:=xM r1;cases ru;obtain⟨its,rv,pl,hz⟩:=I1.list hq;refine call_enumerate_list pl.isList λh' he hi hsz hk=>?_;refine lT he ?_;have I2:Inv X XF Y H1 {s1 with heap:=h'}:=I1.kept (t':=s1.toks) hk;refine⟨s1.heap.objs.size+1,[s1.heap.objs.size+1,s1.heap.objs.size],_,_,H1,Z',I2,KG l _ _ (Nat.succ_ne_self _),⟨⟨_,he⟩,hi⟩,λb hb=>?_,q⟩;have YC:s1.heap.objs.size<=b:=by
  rcases dA.mp hb with z|z
  .rw[z];exact gq _
  .rw[dG.mp z];exact dC _
 exact I1.oH YC (I1.nB.fresh YC)
def uY:Nat->T0 D->T0 D
 | _,[]=>[]
 | i,d::r=>.tup [.int (i:Nat),d]::uY (i+1) r
theorem zx:∀{ds:T0 D} {i j:Nat},(uY j ds)[i]?=(ds[i]?).map λd=>D.tup [.int ((j+i:Nat):Int),d]
 | [],i,j=>by simp[uY]
 | d::r,0,j=>by simp[uY]
 | d::r,i+1,j=>by show(uY (j+1) r)[i]?=_;rw[zx];simp only[List.getElem?_cons_succ];rw[show j+1+i=j+(i+1)by omega]
theorem vS:∀{ds:T0 D} {j:Nat},(uY j ds).length=ds.length
 | [],j=>rfl
 | d::r,j=>by simp[uY,vS]
def M8{K:qL}:GI K H1 (Wb K a) (uY 0 ds) (λM=>pI M a=Fa ds) where
 go:=λi H M hi hm ok _=>by rw[vS]at hi;obtain⟨xs,h1,h2,_⟩:=qK hm ok;obtain⟨x,e,_⟩:=h2.get (df hi);exact⟨xs,x,h1,e⟩
 pB:=λi d H M x H' hd hm ok _ y=>by
  obtain⟨xs,h1,h2,_⟩:=qK hm ok;obtain⟨p,z,rfl,hp,rfl,y⟩:=y;rw[zx]at hd;cases e:ds[i]? with
  | none=>rw[e]at hd;cases hd
  | some d'=>rw[e]at hd;cases hd;obtain⟨x',e',hx⟩:=h2.get e;have w1:=y xs h1;rw[e']at w1;have w2:x'=z:=dB w1;subst w2;have ex:rg K H (upd H p (.tup [.int (i:Nat),x'])):=.new hp;refine⟨.tup (.of qB) (.cons (by rw[mT];exact .int) (.cons (hx.mono ex) .nil)),hm.add hp,ex⟩
 stop:=λH M hm ok _=>by obtain⟨xs,h1,h2,_⟩:=qK hm ok;exact⟨xs,h1,by rw[vS,h2.length];exact dC _⟩
def SE(t:xP):OK:=λU M R=>t U M λds M1=>match ds with
 | [.ref a]=>(pI M1 a).elim False λes=>R (uY 0 es) (λM=>pI M a=Fa es) M1
 | _=>False
def xk{a:Go}{ta:xP}(hg:Gl X "enumerate")(hm:X.mg "enumerate"=Db)(ha:A3 X [a] ta)(hs:Tl [a] X.env=[(lf,wp a X.env)]:=by rfl):I3 X (.Tuple Ya n tp) (.Call (.Name "enumerate" p) [a] [] pos) (SE ta):=
 PI.mono (Qa hg hm ha hs) λY H R' zz=>x7 zz λU M R hs hm ht k=>⟨U,M,_,hs,hm,ht,λvs H1 ds M1 hd XH e1 q1=>by
  split at q1
  .obtain⟨v,rfl,hv⟩:=sD hd;cases hv.ni;obtain⟨es,e0,q⟩:=rC q1;obtain⟨xs,h1,h2,_⟩:=qK XH e0;exact⟨_,Z',⟨xs,h1⟩,k _ H1 _ _ M1 M8 XH e1 e0 q⟩
  .exact q1.elim⟩
variable {prog:Pg}{A:Ar}{E:QQX}
def Ih{it t:Uf}{i:Nat}{its:Array Vl}{x:Vl}{Q:QQX}(hi:s.heap.IsTupleIter it t i)(ht:s.heap.IsTuple t its)(hx:its[i]?=Fa x) (hQ:∀g,g.IsTupleIter it t (i+1)->Heap.SameBut it s.heap g->Q x {s with heap:=g}):Ch (Tk prog w) A (Builtin.SmallTypes.nextOf (.ref it)) Q E s:=by
 obtain⟨ob,e1,e2,e3⟩:=id hi;obtain⟨ot,e4,_,nt,e5⟩:=ht;unfold Builtin.SmallTypes.nextOf;refine de (fS (name:=Str.ofString "__next__") hi.typeIs gQ (gf gQ hi.typeIs jx ?_ (jr _)));show Ch (Tk prog w) _ (field (.ref it) 0>>=_) _ _ s;refine de (fu e1 e3 (x:=.ref t) Z' ?_);show Ch (Tk prog w) _ (if (Value.ref t==Value.none)=pc then _ else _) _ _ s;rw[dq (show ¬(Value.ref t==Value.none)=pc from dF)];show Ch (Tk prog w) _ (field (.ref it) 1>>=_) _ _ s;refine de (fu e1 e3 (x:=.int i 0) Z' ?_);show Ch (Tk prog w) _ (seqItems? (.ref t)>>=_) _ _ s;refine de (gH e4 e5 ?_);simp only[jC,hx];refine de (im e1 e3 (by simp) (dz ⟨x,Z',dz (hQ _ ⟨_,fP _ e1 (Obj.isFreed_of_fields (lE e3 _)),(Obj.cls_mapFields ..).trans e2,?_⟩ (kY ..))⟩));rw[lE e3];simp[Y']
def BR{it t:Uf}{i:Nat}{its:Array Vl}{Q:QQX}(hh:A.handled=Db)(hi:s.heap.IsTupleIter it t i)(ht:s.heap.IsTuple t its)(hx:its[i]?=Db) (hE:∀g e,Heap.ExtBut it s.heap g->(∃o,g.get? e=Fa o/\o.cls=.type "StopIteration")->E (.ref e) {s with heap:=g}):Ch (Tk prog w) A (Builtin.SmallTypes.nextOf (.ref it)) Q E s:=by
 obtain⟨ob,e1,e2,e3⟩:=id hi;obtain⟨ot,e4,_,nt,e5⟩:=ht;unfold Builtin.SmallTypes.nextOf;refine de (fS (name:=Str.ofString "__next__") hi.typeIs gQ (gf gQ hi.typeIs jx ?_ (jr _)));show Ch (Tk prog w) _ (field (.ref it) 0>>=_) _ _ s;refine de (fu e1 e3 (x:=.ref t) Z' ?_);show Ch (Tk prog w) _ (if (Value.ref t==Value.none)=pc then _ else _) _ _ s;rw[dq (show ¬(Value.ref t==Value.none)=pc from dF)];show Ch (Tk prog w) _ (field (.ref it) 1>>=_) _ _ s;refine de (fu e1 e3 (x:=.int i 0) Z' ?_);show Ch (Tk prog w) _ (seqItems? (.ref t)>>=_) _ _ s;refine de (gH e4 e5 ?_);simp only[jC,hx];refine de (kI (de (im e1 e3 (by simp) ?_)));show Ch (Tk prog w) _ (newExc (.type "StopIteration") []>>=_) _ _ _;refine de ?_;simp only[newExc,newTuple];refine de (gg ?_ (by size_fits));refine de (m:=firstArgMember _ _) (wpAny_of_eq (a:=Value.none) (by first|rfl|(simp only[firstArgMember];rfl)) ?_);refine gg ?_ (by size_fits);simp only[raiseNew];refine de (wpAny_handled ?_)
 first|rw[show A.in1.handled=Db from hh]|rw[hh]
 refine de (dz (wpAny_throw (hE _ _ (((kY ..).extBut.push _).push _) ⟨_,dP _ Z',Z'⟩)))
def yG{prog:Pg}{w:Wo}{A:Ar}(hh:A.handled=Db)(it t:Uf)(X3:t≠it)(its:Array Vl):
  Draws prog w A it [it,t] its.size (λi v=>its[i]?=Fa v) (λi h=>h.IsTupleIter it t i/\h.IsTuple t its) where
 live:=λi h st=>let⟨o,ho,_⟩:=st.1;⟨o,ho⟩
 frame:=λi h g st hk=>by obtain⟨⟨o,e1,e2⟩,⟨o',e3,e4⟩⟩:=st;exact⟨⟨o,hk it (by simp) o e1,e2⟩,⟨o',hk t (by simp) o' e3,e4⟩⟩
 item:=λi s Q E hi st hQ=>Ih st.1 st.2 (x:=its[i]) (by simp[hi]) λg hg hs=>hQ _ g s.toks (by simp[hi]) ⟨hg,st.2.extBut hs.extBut X3⟩ hs
 done:=λs Q E st hE=>BR hh st.1 st.2 (by simp) hE
structure Aq(z TI TO i1 i2:Uf)(f1 f2:QXQ):Prop where
 a1:TI≠z
 a2:TO≠z
 a3:i1≠z
 a4:i2≠z
 a5:TI≠TO
 a6:TI≠i1
 a7:TI≠i2
 a8:TO≠i1
 a9:TO≠i2
 pO:i1≠i2
 b1:z∉f1
 b2:TO∉f1
 b3:i2∉f1
 c1:z∉f2
 c2:TO∉f2
 c3:i1∉f2
variable {z TI TO i1 i2:Uf}{f1 f2:QXQ}{n1 n2 k1 k2:Nat}{P1 P2:Nat→Vl→Prop}{S1 S2:Nat→No→Prop}
section
variable {a b:Vl}
def sN{St:Nat->No->Prop}(Dr:Draws prog w A it fp n Pt St){i:Nat}{h g:No}{c:Uf}(st:St i h)(hs:Heap.SameBut c h g)(hc:c∉fp):St i g:=
 Dr.frame _ _ _ st λd hd o e=>(hs.2 d λq=>hc (q ▸ hd)).trans e
def Ks{Q:QQX}(D1:Draws prog w A i1 f1 n1 P1 S1)(D2:Draws prog w A i2 f2 n2 P2 S2)(X5:Aq z TI TO i1 i2 f1 f2)(hz:XYa s.heap z TI TO .none)(hI:IN s.heap TI (.ref i1) (.ref i2))(hO:IN s.heap TO a b) (Yn:S1 k1 s.heap) (X9:S2 k2 s.heap) (l1:k1<n1) (l2:k2<n2) (hQ:∀x y g tk,P1 k1 x->P2 k2 y->XYa g z TI TO (Y' s.heap.objs.size)->IN g TO x y->S1 (k1+1) g->S2 (k2+1) g->IN g s.heap.objs.size x y->g.objs.size=s.heap.objs.size+1->
   (∀c o,c≠z->c≠TO->c≠i1->c≠i2->s.heap.get? c=Fa o->g.get? c=Fa o)->Q (.ref s.heap.objs.size) {s with heap:=g,toks:=tk}):
  Ch (Tk prog w) A (Builtin.«zip.__next__» ⟨[.ref z],[]⟩) (λXJ s'=>∃v,XJ=.done (.ret v)/\Q v s') E s:=by
 show Ch (Tk prog w) A (field (.ref z) 2>>=_) _ _ _;refine de (fu hz Z' (x:=.bool lf) Z' ?_);show Ch (Tk prog w) A (field (.ref z) 3>>=_) _ _ _;refine de (fu hz Z' (x:=.ref TI) Z' (de (gH hI Z' ?_)));show Ch (Tk prog w) A (Builtin.SmallTypes.ownedTupleIsFree (.ref z)>>=_) _ _ _;refine de ?_;unfold Builtin.SmallTypes.ownedTupleIsFree;refine de (fu hz Z' (x:=.none) Z' (dz ?_));simp only[jo];refine de (kI (de (fu hz Z' (x:=.ref TO) Z' (de (gL hz (by simp) λg1 z1 Zy=>?_)))));replace z1:XYa g1 z TI TO .ellipsis:=z1;refine de ?_;simp only[mw,mG,j9,ky];refine de (de (iR ?_));show Ch (Tk prog w) A (Builtin.SmallTypes.nextOf (.ref i1)>>=_) _ _ _;have Zz:S1 k1 g1:=sN D1 Yn Zy X5.b1;refine de (D1.item k1 _ _ _ l1 Zz λx g2 tk2 px st1b YL=>dz ?_);replace YL:Heap.SameBut i1 g1 g2:=YL;have o2:IN g2 TO a b:=YL.extBut _ _ X5.a8 (Zy.extBut _ _ X5.a2 hO);refine de (gH o2 Z' (de (ja o2 λg3 o3 YV=>?_)));replace o3:IN g3 TO x b:=o3;replace YV:Heap.SameBut TO g2 g3:=YV;refine de (lY (dz (de (de (iR ?_)))));show Ch (Tk prog w) A (Builtin.SmallTypes.nextOf (.ref i2)>>=_) _ _ _;have Z0:S2 k2 g3:=sN D2 (sN D2 (sN D2 X9 Zy X5.c1) YL X5.c3) YV X5.c2;refine de (D2.item k2 _ _ _ l2 Z0 λy g4 tk4 py st2b ZI=>dz ?_);replace ZI:Heap.SameBut i2 g3 g4:=ZI;have o4:IN g4 TO x b:=ZI.extBut _ _ X5.a9 o3;refine de (gH o4 Z' (de (ja o4 λg5 o5 ZJ=>?_)));replace o5:IN g5 TO x y:=o5;replace ZJ:Heap.SameBut TO g4 g5:=ZJ;refine de (lY (dz (dz (de (gH o5 Z' (de (wpAny_newTuple ?_)))))));have esz:g5.objs.size=s.heap.objs.size:=by rw[ZJ.1,ZI.1,YV.1,YL.1,Zy.1]
 have z5:XYa g5 z TI TO .ellipsis:=ZJ.extBut _ _ X5.a2.symm (ZI.extBut _ _ X5.a4.symm (YV.extBut _ _ X5.a2.symm (YL.extBut _ _ X5.a3.symm z1)));have kp:∀c o,c≠z->c≠TO->c≠i1->c≠i2->s.heap.get? c=Fa o->g5.get? c=Fa o:=λc o q1 q2 q3 q4 q=>ZJ.extBut _ _ q2 (ZI.extBut _ _ q4 (YV.extBut _ _ q2 (YL.extBut _ _ q3 (Zy.extBut _ _ q1 q))));have st1c:S1 (k1+1) g5:=sN D1 (sN D1 (sN D1 st1b YV X5.b2) ZI X5.b3) ZJ X5.b2;have st2c:S2 (k2+1) g5:=sN D2 st2b ZJ X5.c2;have zlt:z<g5.objs.size:=dD z5;show Ch (Tk prog w) A (Builtin.SmallTypes.ownedTupleHandOut (.ref z) (.ref g5.objs.size)>>=_) _ _ _;refine de ?_;unfold Builtin.SmallTypes.ownedTupleHandOut;have z6:XYa (g5.push {cls:=.type "tuple",data:=.seq #[x,y]}) z TI TO .ellipsis:=dv _ z5;refine de (gL z6 (by simp) λg7 z7 sb7=>?_);replace z7:XYa g7 z TI TO (Y' g5.objs.size):=z7;refine gL z7 (by simp) λg8 z8 sb8=>?_;replace z8:XYa g8 z TI TO (Y' g5.objs.size):=z8;have up:∀c o,c≠z->g5.get? c=Fa o->g8.get? c=Fa o:=λc o q1 q=>sb8.extBut _ _ q1 (sb7.extBut _ _ q1 (dv _ q));have tu:IN g8 g5.objs.size x y:=sb8.extBut _ _ (gY zlt) (sb7.extBut _ _ (gY zlt) (dP _ Z'));have es8:g8.objs.size=g5.objs.size+1:=by rw[sb8.1,sb7.1,fB]
 rw[esz]at z8 tu es8;refine dz ⟨_,Z',?_⟩;show Q (.ref g5.objs.size) _;rw[esz];exact hQ x y g8 _ px py z8 (up _ _ X5.a2 o5) (D1.frame _ _ _ st1c λc hc o q=>up c o (λr=>X5.b1 (r ▸ hc)) q) (D2.frame _ _ _ st2c λc hc o q=>up c o (λr=>X5.c1 (r ▸ hc)) q) tu es8 λc o q1 q2 q3 q4 q=>up c o q1 (kp c o q1 q2 q3 q4 q)
def OA{Q:Fin->Sd->Prop}(D1:Draws prog w A i1 f1 n1 P1 S1)(D2:Draws prog w A i2 f2 n2 P2 S2)(X5:Aq z TI TO i1 i2 f1 f2)(hz:XYa s.heap z TI TO .none)(hI:IN s.heap TI (.ref i1) (.ref i2))(hO:IN s.heap TO a b) (Yn:S1 k1 s.heap) (X9:S2 k1 s.heap) (hend:k1=n1\/(k1<n1/\k1=n2)) (hE:∀g e,(∀c o,c≠z->c≠TO->c≠i1->c≠i2->s.heap.get? c=Fa o->g.get? c=Fa o)->(∃o,g.get? e=Fa o/\o.cls=.type "StopIteration")->∀tk,E (.ref e) {s with heap:=g,toks:=tk}):
  Ch (Tk prog w) A (Builtin.«zip.__next__» ⟨[.ref z],[]⟩) Q E s:=by
 show Ch (Tk prog w) A (field (.ref z) 2>>=_) _ _ _;refine de (fu hz Z' (x:=.bool lf) Z' ?_);show Ch (Tk prog w) A (field (.ref z) 3>>=_) _ _ _;refine de (fu hz Z' (x:=.ref TI) Z' (de (gH hI Z' ?_)));show Ch (Tk prog w) A (Builtin.SmallTypes.ownedTupleIsFree (.ref z)>>=_) _ _ _;refine de ?_;unfold Builtin.SmallTypes.ownedTupleIsFree;refine de (fu hz Z' (x:=.none) Z' (dz ?_));simp only[jo];refine de (kI (de (fu hz Z' (x:=.ref TO) Z' (de (gL hz (by simp) λg1 z1 Zy=>?_)))));replace z1:XYa g1 z TI TO .ellipsis:=z1;refine de ?_;simp only[mw,mG,j9,ky];refine de (de (iR ?_));show Ch (Tk prog w) A (Builtin.SmallTypes.nextOf (.ref i1)>>=_) _ _ _;have Zz:S1 k1 g1:=sN D1 Yn Zy X5.b1;rcases hend with he|⟨XU,he⟩
 .rw[he]at Zz;refine de (D1.done _ _ _ Zz λg2 e YL hx=>?_);obtain⟨oe,g,hce⟩:=hx;have z2:XYa g2 z TI TO .ellipsis:=YL _ _ X5.a3.symm z1;have hez:e≠z:=λq=>by subst q;rw[z2]at g;cases g;simp at hce
  exact gL z2 (by simp) λg3 _ YV=>hE g3 e (λc o q1 _ q3 _ q=>YV.extBut _ _ q1 (YL _ _ q3 (Zy.extBut _ _ q1 q))) ⟨oe,YV.extBut _ _ hez g,hce⟩ _
 .refine de (D1.item k1 _ _ _ XU Zz λx g2 tk2 px st1b YL=>dz ?_);replace YL:Heap.SameBut i1 g1 g2:=YL;have o2:IN g2 TO a b:=YL.extBut _ _ X5.a8 (Zy.extBut _ _ X5.a2 hO);refine de (gH o2 Z' (de (ja o2 λg3 o3 YV=>?_)));replace YV:Heap.SameBut TO g2 g3:=YV;refine de (lY (dz (de (de (iR ?_)))));show Ch (Tk prog w) A (Builtin.SmallTypes.nextOf (.ref i2)>>=_) _ _ _;have Z0:S2 k1 g3:=sN D2 (sN D2 (sN D2 X9 Zy X5.c1) YL X5.c3) YV X5.c2;rw[he]at Z0;refine de (D2.done _ _ _ Z0 λg4 e ZI hx=>?_);obtain⟨oe,g,hce⟩:=hx;have z4:XYa g4 z TI TO .ellipsis:=ZI _ _ X5.a4.symm (YV.extBut _ _ X5.a2.symm (YL.extBut _ _ X5.a3.symm z1));have hez:e≠z:=λq=>by subst q;rw[z4]at g;cases g;simp at hce
  exact gL z4 (by simp) λg5 _ ZJ=>hE g5 e (λc o q1 q2 q3 q4 q=>ZJ.extBut _ _ q1 (ZI _ _ q4 (YV.extBut _ _ q2 (YL.extBut _ _ q3 (Zy.extBut _ _ q1 q))))) ⟨oe,ZJ.extBut _ _ hez g,hce⟩ _
end
abbrev VU(h:No)(t:Uf):No:=h.push {cls:=.type "tuple_iterator",data:=.fields #[.ref t,.int 0 0]}
abbrev VT(h:No)(t u:Uf):No:=(VU h t).push {cls:=.type "tuple_iterator",data:=.fields #[.ref u,.int 0 0]}
abbrev VP(h:No)(t u:Uf):No:=(VT h t u).push {cls:=.type "tuple",data:=.seq #[.ref h.objs.size,.ref (VU h t).objs.size]}
abbrev VR(h:No)(t u:Uf):No:=(VP h t u).push {cls:=.type "tuple",data:=.seq #[.none,.none]}
abbrev Ug(h:No)(t u:Uf):No:=(VR h t u).push {cls:=.type "zip",data:=.fields #[.none,.bool lf,.bool lf,.ref (VT h t u).objs.size,.ref (VP h t u).objs.size]}
def Du(t u:Uf)(xs ys:Array Vl):
  Meets (Builtin.«zip.__new__» ⟨[.type "zip",.ref t,.ref u],[]⟩) (λ_ R s=>s.heap.IsTuple t xs/\s.heap.IsTuple u ys/\R (.ok (.ret (.ref (VR s.heap t u).objs.size))) {s with heap:=Ug s.heap t u}):=
 .of_wp λprog w A R s h=>by
  obtain⟨hp,g,d,tk,os⟩:=s;obtain⟨e1,e2,h⟩:=h;have Zv:=sub_zip;have q1:Heap.IsTuple (Shared.heap ⟨hp,g,d,tk,os⟩) t xs:=e1;have q2:Heap.IsTuple (Shared.heap ⟨hp.push {cls:=.type "tuple_iterator",data:=.fields #[.ref t,.int 0 0]},g,d,tk,os⟩) u ys:=Heap.IsTuple.push e2 _
  wp_walk using iI q1,iI q2
  exact⟨_,Z',h⟩
def FY{t u:Uf}{xs ys:Array Vl}{Q:QQX}(ht:s.heap.IsTuple t xs)(hu:s.heap.IsTuple u ys) (h:∀g,XYa g (s.heap.objs.size+4) (s.heap.objs.size+2) (s.heap.objs.size+3) .none->IN g (s.heap.objs.size+2) (.ref s.heap.objs.size) (.ref (s.heap.objs.size+1))->IN g (s.heap.objs.size+3) .none .none->
   g.IsTupleIter s.heap.objs.size t 0->g.IsTupleIter (s.heap.objs.size+1) u 0->(∀c o,s.heap.get? c=Fa o->g.get? c=Fa o)->Q (.ref (s.heap.objs.size+4)) {s with heap:=g}):
  Ch (Tk prog w) A (call (.type "zip") [.ref t,.ref u]) Q E s:=by
 refine callType_new F.called_zip (by decide) (F.typeCall_zip_2 _ _) (F.newCall_zip_2 _ _) (λobj=>F.args_object_init_3 obj _ _) F.entry_zip_new (Du t u xs ys) ⟨ht,hu,?_⟩;have m1:(VU s.heap t).objs.size=s.heap.objs.size+1:=fB ..;have m2:(VT s.heap t u).objs.size=s.heap.objs.size+2:=by rw[fB,m1]
 have m3:(VP s.heap t u).objs.size=s.heap.objs.size+3:=by rw[fB,m2]
 have m4:(VR s.heap t u).objs.size=s.heap.objs.size+4:=by rw[fB,m3]
 have up:∀{h:No} {c:Uf} {o p:Obj},h.get? c=Fa o->(h.push p).get? c=Fa o:=λq=>dv _ q;have r5:(Ug s.heap t u).get? (VR s.heap t u).objs.size=Fa _:=dP _ Z';have r4:(Ug s.heap t u).get? (VP s.heap t u).objs.size=Fa _:=up (dP _ Z');have r3:(Ug s.heap t u).get? (VT s.heap t u).objs.size=Fa _:=up (up (dP _ Z'));have r2:(Ug s.heap t u).get? (VU s.heap t).objs.size=Fa _:=up (up (up (dP _ Z')));have r1:(Ug s.heap t u).get? s.heap.objs.size=Fa _:=up (up (up (up (dP _ Z'))));show _/\_;rw[m2,m3,m4]at r5;rw[m1,m2]at r3;rw[m3]at r4;rw[m1]at r2;rw[m4];exact⟨⟨_,r5,Z'⟩,h _ r5 r3 r4 ⟨_,r1,Z',Z'⟩ ⟨_,r2,Z',Z'⟩ λc o q=>up (up (up (up (up q))))⟩
def G8{z TI TO i1 i2:Uf}{n1 n2 k:Nat}{P1 P2:Nat->Vl->Prop}{S1 S2:Nat->No->Prop}{Q:Option Vl->Sd->Prop}(D1:Draws prog w A.in1 i1 f1 n1 P1 S1)(D2:Draws prog w A.in1 i2 f2 n2 P2 S2)(X5:Aq z TI TO i1 i2 f1 f2) (hz:XYa s.heap z TI TO .none) (hI:IN s.heap TI (.ref i1) (.ref i2)) (hO:IN s.heap TO a b) (Yn:S1 k s.heap) (X9:S2 k s.heap) (l1:k<n1) (l2:k<n2) (hQ:∀x y g tk,P1 k x->P2 k y->XYa g z TI TO (Y' s.heap.objs.size)->IN g TO x y->S1 (k+1) g->S2 (k+1) g->IN g s.heap.objs.size x y->g.objs.size=s.heap.objs.size+1->
   (∀c o,c≠z->c≠TO->c≠i1->c≠i2->s.heap.get? c=Fa o->g.get? c=Fa o)->Q (Fa (.ref s.heap.objs.size)) {s with heap:=g,toks:=tk}):Ch (Tk prog w) A (pyNext (.ref z)) Q E s:=by
 have hT:s.TypeIs (.ref z) "zip":=⟨_,hz,Z'⟩;unfold pyNext;refine de (kS (fS (name:=Str.ofString "__next__") hT jb (gf jb hT mx ?_ (lU _))));exact Ks D1 D2 X5 hz hI hO Yn X9 l1 l2 λx y g tk q1 q2 q3 q4 q5 q6 q7 q8 q9=>dz (hQ x y g tk q1 q2 q3 q4 q5 q6 q7 q8 q9)
def Bt{z TI TO i1 i2:Uf}{n1 n2 k:Nat}{P1 P2:Nat->Vl->Prop}{S1 S2:Nat->No->Prop}{Q:Option Vl->Sd->Prop}(D1:Draws prog w A.in1 i1 f1 n1 P1 S1)(D2:Draws prog w A.in1 i2 f2 n2 P2 S2)(X5:Aq z TI TO i1 i2 f1 f2) (hz:XYa s.heap z TI TO .none) (hI:IN s.heap TI (.ref i1) (.ref i2)) (hO:IN s.heap TO a b) (Yn:S1 k s.heap) (X9:S2 k s.heap) (hend:k=n1\/(k<n1/\k=n2)) (hQ:∀g tk,(∀c o,c≠z->c≠TO->c≠i1->c≠i2->s.heap.get? c=Fa o->g.get? c=Fa o)->Q Db {s with heap:=g,toks:=tk}):Ch (Tk prog w) A (pyNext (.ref z)) Q E s:=by
 have hT:s.TypeIs (.ref z) "zip":=⟨_,hz,Z'⟩;unfold pyNext;refine de (kS (fS (name:=Str.ofString "__next__") hT jb (gf jb hT mx (OA D1 D2 X5 hz hI hO Yn X9 hend λg e kp hx tk=>?_) (lU _))));obtain⟨o,e1,e2⟩:=hx;exact de (wpAny_isInstance (T:="StopIteration") (b:=true) ⟨o,e1,e2⟩ isSubtype_stop (dz (hQ g tk kp)))
def Fl(I:Inv X XF Y H s)(f:Bb X XF H b)(q:vE X.K H a xs):a≠b:=by
 rintro rfl
 rcases q with q|⟨o,its,n,hk,_⟩
 .have z:=f.1;rcases q with q|⟨u,q⟩<;>(rw[q]at z;cases z)
 .have e:=I.mod.oZ a o hk;rcases f.2.2.2.1 with z|z
  .exact I.ok.oz a o e z
  .exact absurd (dU (dD e) (eD I.ok.oK z)) (fm _)
def Wa(K:qL)(a b:Uf):It:=
 ⟨λi H=>∃xs ys x y,vE K H a xs/\vE K H b ys/\xs[i]?=Fa x/\ys[i]?=Fa y,λi H v H'=>∃p x y,v=.ref p/\H p=Db/\H'=upd H p (.tup [x,y])/\(∀xs,vE K H a xs->xs[i]?=Fa x)/\(∀ys,vE K H b ys->ys[i]?=Fa y),λi H=>∃xs ys,vE K H a xs/\vE K H b ys/\i=min xs.length ys.length⟩
def Nw{P:Pg}{w:Wo}{K:qL}{Ya:T0 Go}{n:Nat}{tp:Pos}(a b z TI TO i1 i2:Uf)(a1:TI≠z)(a2:TO≠z)(a3:i1≠z)(a4:i2≠z)(a5:TI≠TO)(a6:TI≠i1)(a7:TI≠i2)(a8:TO≠i1)(a9:TO≠i2)(pO:i1≠i2):
  GP P w K (.Tuple Ya n tp) (Wa K a b) [z,TI,TO,i1,i2] z (λi h=>XYa h z TI TO .none/\IN h TI (.ref i1) (.ref i2)/\(∃u v,IN h TO u v)/\h.IsTupleIter i1 a i/\h.IsTupleIter i2 b i) where
 mem:=by simp
 obj:=λi h st c hc=>by
  obtain⟨h1,h2,⟨u,v,h3⟩,⟨o4,h4,_,d4⟩,⟨o5,h5,_,d5⟩⟩:=st;simp only[dA,dQ,fj]at hc;rcases hc with rfl|rfl|rfl|rfl|rfl
  .exact⟨_,h1,λv z=>by cases z⟩
  .exact⟨_,h2,λv z=>by cases z⟩
  .exact⟨_,h3,λv z=>by cases z⟩
  .exact⟨_,h4,λv z=>by rw[d4]at z;cases z⟩
  .exact⟨_,h5,λv z=>by rw[d5]at z;cases z⟩
 keep:=λi h h' st k=>by obtain⟨h1,h2,⟨u,v,h3⟩,⟨o4,h4,c4⟩,⟨o5,h5,c5⟩⟩:=st;exact⟨k z (by simp) _ h1,k TI (by simp) _ h2,⟨u,v,k TO (by simp) _ h3⟩,⟨o4,k i1 (by simp) _ h4,c4⟩,⟨o5,k i2 (by simp) _ h5,c5⟩⟩
 item:=by
  intro X hP hw hK hc i XF s Y H E I hf st hg;subst hP hw hK;obtain⟨xs,ys,x,y,hx,hy,ex,ey⟩:=hg;obtain⟨its,rx,px,_⟩:=I.tuple hx;obtain⟨ZG,ry,py,_⟩:=I.tuple hy;obtain⟨u,eu,ru⟩:=rx.get ex;obtain⟨v,ev,rv⟩:=ry.get ey;obtain⟨h1,h2,⟨p,q,h3⟩,h4,h5⟩:=st;have hh:X.A.in1.handled=Db:=I.ok.hd hc;have fa:∀c∈[z,TI,TO,i1,i2],a≠c:=λc hc=>Fl I (hf c hc) hx;have fb:∀c∈[z,TI,TO,i1,i2],b≠c:=λc hc=>Fl I (hf c hc) hy;have X5:Aq z TI TO i1 i2 [i1,a] [i2,b]:=⟨a1,a2,a3,a4,a5,a6,a7,a8,a9,pO,by
   simp only[dA,dQ,fj,fR];exact⟨dW a3,dW (fa z (by simp))⟩,by
   simp only[dA,dQ,fj,fR];exact⟨a8,dW (fa TO (by simp))⟩,by
   simp only[dA,dQ,fj,fR];exact⟨dW pO,dW (fa i2 (by simp))⟩,by
   simp only[dA,dQ,fj,fR];exact⟨dW a4,dW (fb z (by simp))⟩,by
   simp only[dA,dQ,fj,fR];exact⟨a9,dW (fb TO (by simp))⟩,by
   simp only[dA,dQ,fj,fR];exact⟨pO,dW (fb i1 (by simp))⟩⟩
  have l1:i<its.toArray.size:=by
   have:=(dh.mp eu).1
   simpa using this
  have l2:i<ZG.toArray.size:=by
   have:=(dh.mp ev).1
   simpa using this
  refine G8 (yG hh i1 a (fa i1 (by simp)) its.toArray) (yG hh i2 b (fb i2 (by simp)) ZG.toArray) X5 h1 h2 h3 ⟨h4,px⟩ ⟨h5,py⟩ l1 l2 λx' y' g tk e1 e2 z1 o1 s1 s2 t1 sz kp=>?_;have e1':x'=u:=by
   have:its[i]?=Fa x':=by simpa using e1
   rw[eu]at this;exact(dB this).symm
  have ZS:y'=v:=by
   have:ZG[i]?=Fa y':=by simpa using e2
   rw[ev]at this;exact(dB this).symm
  subst e1' ZS;refine⟨_,Z',wpAny_letOwnedTupleGo_zip z1 λg2 z2 sb=>?_⟩;have zlt:z<s.heap.objs.size:=dD h1;have kk:∀c o,c∉[z,TI,TO,i1,i2]->s.heap.get? c=Fa o->g2.get? c=Fa o:=λc o hc e=>by simp only[dA,dQ,fj,fR]at hc;exact(sb.2 c hc.1).trans (kp c o hc.1 hc.2.2.1 hc.2.2.2.1 hc.2.2.2.2 e)
  have t2:g2.get? s.heap.objs.size=Fa {cls:=.type "tuple",data:=.seq #[x',y']}:=(sb.2 _ (gY zlt)).trans t1;have ZZ:H s.heap.objs.size=Db:=I.nB.fresh (dC _);have I2:=I.drawn (ch:=[z,TI,TO,i1,i2]) (T:=s.heap.objs.size) (xs:=[x,y]) (its:=[x',y']) (h':=g2) (tk:=tk) hf kk (dC _) (by show 2<=pi;decide) (.cons ru (.cons rv .nil)) ⟨_,t2,Z',⟨_,Z'⟩,Z'⟩;refine⟨.ref s.heap.objs.size,_,I2,Z',⟨_,x,y,Z',ZZ,Z',λxs' hx'=>by rw[I.nQ hx' hx];exact ex,λys' hy'=>by rw[I.nQ hy' hy];exact ey⟩,?_,λc hc=>?_⟩
  .obtain⟨o4,g4,c4⟩:=s1.1;obtain⟨o5,g5,c5⟩:=s2.1;exact⟨z2,(sb.2 _ a1).trans (kp _ _ a1 a5 a6 a7 h2),⟨_,_,(sb.2 _ a2).trans o1⟩,⟨o4,(sb.2 _ a3).trans g4,c4⟩,⟨o5,(sb.2 _ a4).trans g5,c5⟩⟩
  .have n0:=(hf c hc).1;obtain⟨o,eo⟩:∃o,s.heap.get? c=Fa o:=by
    obtain⟨o4,g4,_⟩:=h4;obtain⟨o5,g5,_⟩:=h5;simp only[dA,dQ,fj]at hc;rcases hc with rfl|rfl|rfl|rfl|rfl
    .exact⟨_,h1⟩
    .exact⟨_,h2⟩
    .exact⟨_,h3⟩
    .exact⟨_,g4⟩
    .exact⟨_,g5⟩
   rw[qw (dN (dD eo))];exact n0
 done:=by
  intro X hP hw hK hc i XF s Y H E I hf st hg;subst hP hw hK;obtain⟨xs,ys,hx,hy,hi⟩:=hg;obtain⟨its,rx,px,_⟩:=I.tuple hx;obtain⟨ZG,ry,py,_⟩:=I.tuple hy;obtain⟨h1,h2,⟨p,q,h3⟩,h4,h5⟩:=st;have hh:X.A.in1.handled=Db:=I.ok.hd hc;have fa:∀c∈[z,TI,TO,i1,i2],a≠c:=λc hc=>Fl I (hf c hc) hx;have fb:∀c∈[z,TI,TO,i1,i2],b≠c:=λc hc=>Fl I (hf c hc) hy;have X5:Aq z TI TO i1 i2 [i1,a] [i2,b]:=⟨a1,a2,a3,a4,a5,a6,a7,a8,a9,pO,by
   simp only[dA,dQ,fj,fR];exact⟨dW a3,dW (fa z (by simp))⟩,by
   simp only[dA,dQ,fj,fR];exact⟨a8,dW (fa TO (by simp))⟩,by
   simp only[dA,dQ,fj,fR];exact⟨dW pO,dW (fa i2 (by simp))⟩,by
   simp only[dA,dQ,fj,fR];exact⟨dW a4,dW (fb z (by simp))⟩,by
   simp only[dA,dQ,fj,fR];exact⟨a9,dW (fb TO (by simp))⟩,by
   simp only[dA,dQ,fj,fR];exact⟨pO,dW (fb i1 (by simp))⟩⟩
  have e1:=rx.length;have e2:=ry.length;refine Bt (yG hh i1 a (fa i1 (by simp)) its.toArray) (yG hh i2 b (fb i2 (by simp)) ZG.toArray) X5 h1 h2 h3 ⟨h4,px⟩ ⟨h5,py⟩ (by simp only[dE];omega) λg tk kp=>⟨Z',?_⟩;have kk:∀c o,c∉[z,TI,TO,i1,i2]->s.heap.get? c=Fa o->g.get? c=Fa o:=λc o hc e=>by simp only[dA,dQ,fj,fR]at hc;exact kp c o hc.1 hc.2.2.1 hc.2.2.2.1 hc.2.2.2.2 e
  refine I.step (g':=s.gens) (d':=s.drawn) (t':=tk) (ch:=[z,TI,TO,i1,i2]) (λc hc=>⟨(hf c hc).2.2.2.1,(hf c hc).2.1,(hf c hc).2.2.2.2.1,(hf c hc).2.2.2.2.2⟩) ?_ ?_ (λc o _ e n=>n) ?_ (λ_ _ e=>e) (λ_ _ _ e=>e) (λc ps e=>⟨#[],by rw[e];simp⟩) ?_ ?_ I.bare
  .exact λc o _ _ hc e _=>kk c o hc e
  .exact λc o _ _ hc e _=>⟨o.slots,kk c o hc e⟩
  .exact λc o hc e=>⟨o,kk c o hc e⟩
  .intro m hm;obtain⟨o,es,ep,ho,r⟩:=hm;exact⟨o,es,ep,kk _ o (λy=>(hf _ y).2.1 Z') ho,r⟩
  .intro c u e;refine(I.nB c u e).nR (λd v hd q=>kk d v (λy=>?_) q) (λ_ q=>q) λ_ _ q=>q;have n:=(hf d y).1;rcases hd with x|x
   .rw[x,e]at n;cases n
   .rw[x]at n;cases n
 self:=λ_ _ _ _ _ st h=>my st.1 h
def S4{a b:Go}{ta:TA}(hg:Gl X "zip")(hm:X.mg "zip"=Db)(ha:PA X [a,b] ta)(hs:Tl [a,b] X.env=[(lf,wp a X.env),(lf,wp b X.env)]:=by rfl)(Zp:Tl [b] X.env=[(lf,wp b X.env)]:=by rfl):
  PI X (.Tuple Ya n tp) (.Call (.Name "zip" p) [a,b] [] pos) (λY H R=>ta Y H λvs H1=>∃l m,vs=[.ref l,.ref m]/\(∃xs,vE X.K H1 l xs)/\(∃xs,vE X.K H1 m xs)/\R (Wa X.K l m) H1):=by
 intro XF s Y H R I h;refine Call_ (vP I hg hm TZ (fH (sX (ha pos XF s Y H _ I h) λus s1 zz=>x5 zz λvs H1 I1 r1 q1=>?_) (by rw[hs,Zp]) (by rw[Zp];rfl)));obtain⟨l,m,e,⟨xs,hx⟩,⟨ys,hy⟩,q⟩:=q1;subst e;obtain⟨u,v,rfl,ru,rv⟩:=Me r1;cases ru;cases rv;obtain⟨its,_,px,_⟩:=I1.tuple hx;obtain⟨ZG,_,py,_⟩:=I1.tuple hy;refine FY px py λg h1 h2 h3 h4 h5 hk=>my h1 ?_;have I2:Inv X XF Y H1 {s1 with heap:=g}:=I1.kept (t':=s1.toks) hk;refine⟨s1.heap.objs.size+4,[s1.heap.objs.size+4,s1.heap.objs.size+2,s1.heap.objs.size+3,s1.heap.objs.size,s1.heap.objs.size+1],_,_,H1,Z',I2,Nw l m _ _ _ _ _ ?_ ?_ ?_ ?_ ?_ ?_ ?_ ?_ ?_ ?_,⟨h1,h2,⟨_,_,h3⟩,h4,h5⟩,λb hb=>?_,q⟩
 .exact λz=>by have z:s1.heap.objs.size+2=s1.heap.objs.size+4:=z;omega
 .exact λz=>by have z:s1.heap.objs.size+3=s1.heap.objs.size+4:=z;omega
 .exact λz=>by have z:s1.heap.objs.size=s1.heap.objs.size+4:=z;omega
 .exact λz=>by have z:s1.heap.objs.size+1=s1.heap.objs.size+4:=z;omega
 .exact λz=>by have z:s1.heap.objs.size+2=s1.heap.objs.size+3:=z;omega
 .exact λz=>by have z:s1.heap.objs.size+2=s1.heap.objs.size:=z;omega
 .exact λz=>by have z:s1.heap.objs.size+2=s1.heap.objs.size+1:=z;omega
 .exact λz=>by have z:s1.heap.objs.size+3=s1.heap.objs.size:=z;omega
 .exact λz=>by have z:s1.heap.objs.size+3=s1.heap.objs.size+1:=z;omega
 .exact λz=>by have z:s1.heap.objs.size=s1.heap.objs.size+1:=z;omega
 .have YC:s1.heap.objs.size<=b:=by
   simp only[dA,dQ,fj]at hb;rcases hb with rfl|rfl|rfl|rfl|rfl
   .exact iS _ _
   .exact iS _ _
   .exact iS _ _
   .exact dC _
   .exact iS _ _
  exact I1.oH YC (I1.nB.fresh YC)
def Bv:T0 D->T0 D->T0 D
 | x::a,y::b=>.tup [x,y]::Bv a b
 | _,_=>[]
theorem JI:∀{ds es:T0 D} {i:Nat},(Bv ds es)[i]?=(ds[i]?).bind λd=>(es[i]?).map λe=>D.tup [d,e]
 | [],es,i=>by simp[Bv]
 | d::ds,[],i=>by simp[Bv]
 | d::ds,e::es,0=>by simp[Bv]
 | d::ds,e::es,i+1=>by show(Bv ds es)[i]?=_;rw[JI];simp
theorem FG:∀{ds es:T0 D},(Bv ds es).length=min ds.length es.length
 | [],es=>by simp[Bv]
 | d::ds,[]=>by simp[Bv]
 | d::ds,e::es=>by show(Bv ds es).length+1=_;rw[FG];simp only[eE];omega
def Pk{K:qL}{ds es:T0 D}(h1:vE K H1 a xs)(h2:qF K H1 ds xs)(g1:vE K H1 b ys)(g2:qF K H1 es ys):GI K H1 (Wa K a b) (Bv ds es) (λ_=>True) where
 go:=λi H M hi hm ok e1=>by rw[FG]at hi;obtain⟨x,ex,_⟩:=h2.get (df (show i<ds.length by omega));obtain⟨y,ey,_⟩:=g2.get (df (show i<es.length by omega));exact⟨xs,ys,x,y,e1.t _ _ h1,e1.t _ _ g1,ex,ey⟩
 pB:=λi d H M v H' hd hm ok e1 y=>by
  obtain⟨p,x,z,rfl,hp,rfl,y1,y2⟩:=y;rw[JI]at hd;cases e:ds[i]? with
  | none=>rw[e]at hd;cases hd
  | some d'=>
   cases e':es[i]? with
   | none=>rw[e,e']at hd;cases hd
   | some d''=>rw[e,e']at hd;cases hd;obtain⟨x',q1,hx⟩:=h2.get e;obtain⟨z',q2,hz⟩:=g2.get e';have w1:=y1 xs (e1.t _ _ h1);have w2:=y2 ys (e1.t _ _ g1);rw[q1]at w1;rw[q2]at w2;have v1:x'=x:=dB w1;have v2:z'=z:=dB w2;subst v1 v2;have ex:rg K H (upd H p (.tup [x',z'])):=.new hp;exact⟨.tup (.of qB) (.cons (hx.mono (e1.trans ex)) (.cons (hz.mono (e1.trans ex)) .nil)),hm.add hp,ex⟩
 stop:=λH M hm ok e1=>⟨xs,ys,e1.t _ _ h1,e1.t _ _ g1,by rw[FG,h2.length,g2.length]⟩
def Us(t:xP):OK:=λU M R=>t U M λds M1=>match ds with
 | [.tup a,.tup b]=>R (Bv a b) (λ_=>True) M1
 | _=>False
def R7{a b:Go}{ta:xP}(hg:Gl X "zip")(hm:X.mg "zip"=Db)(ha:A3 X [a,b] ta)(hs:Tl [a,b] X.env=[(lf,wp a X.env),(lf,wp b X.env)]:=by rfl)(Zp:Tl [b] X.env=[(lf,wp b X.env)]:=by rfl):
  I3 X (.Tuple Ya n tp) (.Call (.Name "zip" p) [a,b] [] pos) (Us ta):=
 PI.mono (S4 hg hm ha hs Zp) λY H R' zz=>x7 zz λU M R hs hm ht k=>⟨U,M,_,hs,hm,ht,λvs H1 ds M1 hd XH e1 q1=>by
  split at q1
  .obtain⟨v,u,rfl,hv,hw⟩:=F9 hd;obtain⟨l,xs,rfl,h1,h2⟩:=hv.nA;obtain⟨m,ys,rfl,g1,g2⟩:=hw.nA;exact⟨l,m,Z',⟨xs,h1⟩,⟨ys,g1⟩,k _ H1 _ _ M1 (Pk h1 h2 g1 g2) XH e1 trivial q1⟩
  .exact q1.elim⟩
def qQ(M M':Mp):Prop:=∀a c,M a=Fa c->M' a=Fa c
def qQ.refl:qQ M M:=λ_ _ h=>h
def qQ.trans{M M1 M2:Mp}(a:qQ M M1)(b:qQ M1 M2):qQ M M2:=λx c h=>b x c (a x c h)
def qQ.new{M:Mp}{p:Uf}{c:vm}(h:M p=Db):qQ M (pX M p c):=λx d q=>by rw[uF (RI q h)];exact q
def qQ.lst{ds:T0 D}(s:qQ M M')(h:pI M a=Fa ds):pI M' a=Fa ds:=by
 unfold pI at h ⊢;cases e:M a with
 | none=>rw[e]at h;cases h
 | some c=>rw[s a c e];rw[e]at h;exact h
def HM.sub{K:qL}(h:HM K H M')(s:qQ M M'):HM K H M:=λa c q=>h a c (s a c q)
def Uy{st:wE}{sp:rL}(F:OX K x qual st f fd)(S:tL N ps (qD st))(len:∀ds M Q,sp ds M Q->ds.length=ps.length) (X7:∀(XS:Vl) (A:Ar) (outer:T0 Env) (s:Sd) (H:Hp) (E:XK),sI k (A.deeper (dL qual (qD st) s.heap.objs.size f XS))->
   ∃t,IA (vI OM P w K mg base N qual (qD st) f XS A outer s H E).pf (sE st) t/\∀ds M Q,sp ds M Q->t {nx:=λ_ M'=>∃XM,qQ XM M'/\Q .nz XM,rt:=λd M'=>∃XM,qQ XM M'/\Q d XM} (w9 N ds) M):Ud P w K mg base (k+1) f fd ps sp:=by
 refine F.ok S (λvs H Q E h=>?_) (λXS A outer s H vs Q' E hr h=>?_)
 .obtain⟨ds,M,Q,hd,_,hs,_⟩:=h;rw[<-hd.length];exact len ds M Q hs
 .obtain⟨ds,M,Q,hd,hm,hs,k⟩:=h;obtain⟨t,ht,hb⟩:=X7 XS A outer s H E hr;exact⟨_,ht,w9 N ds,M,_,Ej hd,hm,hb ds M Q hs,λσ' H' δ' M' _ x2 x3 _ ⟨XM,y1,y2⟩=>k .nz H' .nz XM .nz (x2.sub y1) x3 y2,λv H' d M' x1 x2 x3 ⟨XM,y1,y2⟩=>k v H' d XM x1 (x2.sub y1) x3 y2,λ_ _ _ _ _ _ _ _ z=>z,λ_ _ _ _ _ _ _ _ z=>z⟩
theorem CU{g:DR}{te:T3}{ok:Mp->Prop}{Q:DK}{f:D->D}{M:Mp}(J:vH->Prop)(nB:ok M):∀(ds acc:T0 D) (U:vH),J U->acc.length+ds.length<=pi->
  (∀d∈ds,∀U,J U->∀k:vH->DK,(∀δ',J δ'->k δ' (f d) M)->g d U M λδ2 M2=>te δ2 M2 (k δ2))->(∀p,M p=Db->Q (.ref p) (pX M p (.lst (acc++ds.map f))))->vi g CV te ok Q ds acc U M
 | [],acc,U,_,hl,_,hq=>⟨by simpa using hl,by simpa using hq⟩
 | d::r,acc,U,hj,hl,ht,hq=>by
  rw[eE]at hl;refine⟨by omega,?_⟩;refine ht d dO U hj (λδ2 y M4=>ok M4/\vi g CV te ok Q r (acc++[y]) δ2 M4) λδ' hj'=>⟨nB,CU (f:=f) J nB r (acc++[f d]) δ' hj' ?_ (λe he=>ht e (dM _ he)) ?_⟩
  .rw[dg,dX];omega
  .simpa using hq
def rK{te:T3}{ok:Mp->Prop}{Q:DK}{f:D->D}{M:Mp}(nB:ok M):∀(ds acc:T0 D) (U:vH),acc.length+ds.length<=pi->(∀d∈ds,∀k:DK,k (f d) M->te (U.set i (Fa d)) M k)->
  (∀p,M p=Db->Q (.ref p) (pX M p (.lst (acc++ds.map f))))->vi (uq i) CV te ok Q ds acc U M:=λds acc U hl ht hq=>
 CU (f:=f) (λδ'=>∀d,δ'.set i (Fa d)=U.set i (Fa d)) nB ds acc U (λ_=>rfl) hl (λd hd δ' hj k hk=>by
  show te (δ'.set i (Fa d)) M (k (δ'.set i (Fa d)));rw[hj d];exact ht d hd _ (hk _ λe=>by rw[jc])) hq
theorem yB{α:Type}(f:α->Bool):∀l:List α,Hk (l.map λx=>D.bl (f x))=Fa (l.map f)
 | []=>rfl
 | x::r=>by show(Hk (r.map λx=>D.bl (f x))).map (f x::·)=_;rw[yB f r];rfl
def pY{p:Uf}{ds:T0 D}:pI (pX M p (.lst ds)) p=Fa ds:=by unfold pI;rw[qp]
def i'{α:Type}{o:Option α}{P:α->Prop}{x:α}(e:o=Fa x)(h:P x):o.elim False P:=by rw[e];exact h
def pN{l:T0 D}(h:decide (l.length<=100)=pc):l.length<=pi:=by have z:=dR;have:=fZ h;omega
theorem BL{g:DR}{tb:yl}{ok:Mp->Prop}{E:GU}(J:vH->Mp->Prop)(nB:∀U M,J U M->ok M):∀(ds:T0 D) (U:vH) (M:Mp),J U M->
  (∀d∈ds,∀U M,J U M->∀nx:vH->Mp->Prop,(∀δ' M',J δ' M'->nx δ' M')->g d U M λδ2 M2=>tb {E with nx:=nx,ct:=nx,bk:=E.nx} δ2 M2)->(∀U M,J U M->E.nx U M)->FB g tb ok E ds U M
 | [],U,M,j,_,hn=>hn U M j
 | d::r,U,M,j,ht,hn=>ht d dO U M j (λδ' M'=>ok M'/\FB g tb ok E r δ' M') λδ' M' j'=>⟨nB δ' M' j',BL J nB r δ' M' j' (λe he=>ht e (dM _ he)) hn⟩
theorem xD{g:DR}{tb:yl}{ok:Mp->Prop}{E:GU}(all:T0 D)(J:T0 D->vH->Mp->Prop)(nB:∀p U M,J p U M->ok M):∀(ds pre:T0 D) (U:vH) (M:Mp),pre++ds=all->J pre U M->
  (∀pre d post,pre++d::post=all->∀U M,J pre U M->∀nx:vH->Mp->Prop,(∀δ' M',J (pre++[d]) δ' M'->nx δ' M')->g d U M λδ2 M2=>tb {E with nx:=nx,ct:=nx,bk:=E.nx} δ2 M2)->(∀U M,J all U M->E.nx U M)->FB g tb ok E ds U M
 | [],pre,U,M,e,j,_,hn=>hn U M (by rw[<-e,e9];exact j)
 | d::r,pre,U,M,e,j,ht,hn=>ht pre d r e U M j (λδ' M'=>ok M'/\FB g tb ok E r δ' M') λδ' M' j'=>⟨nB _ δ' M' j',xD all J nB r (pre++[d]) δ' M' (by rw[<-e,fz];rfl) j' ht hn⟩
def GR{K:qL}{t:Vl}:W.kitOne K t t=Fa pc:=by unfold W.kitOne;rw[dw (by simp)]
def RU{K:qL}{t c:Vl}{b:Bool}(h:W.kitCls K t c=Fa b)(ne:b=lf->(t==c)=lf):W.kitOne K t c=Fa b:=by
 unfold W.kitOne;by_cases e:(t==c)=pc
 .rw[dw e];cases b with
  | true=>rfl
  | false=>rw[ne Z']at e;cases e
 .rw[dq e];exact h
def Tc{K:qL}{t:Vl}{b:Bool}(m:W.kitMeta T=pc)(s:W.subIn K t (.type T)=Fa b)(ne:b=lf->(t==.type T)=lf):W.kitOne K t (.type T)=Fa b:=by refine RU ?_ ne;unfold W.kitCls;simp only;rw[dw m];exact s
def QR:W.kitMeta "bool"=pc:=by decide+kernel
def L5{c:Bool}{A B:Prop}(h:c=lf)(hb:B):if c=pc then A else B:=by subst h;exact An hb
def Bd{c:Bool}{A B:Prop}(h:c=pc)(ha:A):if c=pc then A else B:=by subst h;exact IS ha
def VN{t u:yl}{E:GU}{U:vH}{M:Mp}(R:vH->Mp->Prop)(h2:∀nx:vH->Mp->Prop,(∀δ' M',R δ' M'->nx δ' M')->t {E with nx:=nx} U M)(h1:∀δ' M',R δ' M'->u E δ' M'):ur t u E U M:=h2 (u E) h1
def Uk{K:qL}{ns:T0 Int}(hO:OF H)(hS:zb K H a (ns.map V.int)):sr K H (.rl (ns.map D.int)) (.ref a):=by
 have r:P6 K H a (ns.map V.int):=by
  rcases hS with h|h
  .rcases h with h|⟨o,h⟩
   .rcases hO a with z|⟨o,xs,z⟩<;>(rw[h]at z;cases z)
   .exact .inl ⟨o,h⟩
  .exact .inr h
 unfold sr;exact⟨a,_,Z',r,.ints⟩
def Ts{K:qL}{sp:rL}{ns:T0 Int}(hO:OF H)(hS:zb K H a (ns.map V.int))(h:sp [.rl (ns.map D.int)] (λ_=>Db) λd _=>d=.bl pc):OO K sp [.ref a] H (λv _=>v=.bl pc) λ_ _ _=>False:=
 ⟨_,λ_=>Db,_,.cons (Uk hO hS) .nil,λ_ _ z=>(by cases z),h,λv H' d M' x1 _ _ x4=>by subst x4;exact x1.nv⟩
def Ow{l:W.OpenLaw}{q:Pg}{Yx:QQQ}{XP:(QQZ)->No->Prop}{YP:Wo->No->Prop}{d:DefRec}{K:Params->qL}{x:Str}{sp:rL}(hn:l.most=Fa 63)(hdf:d.params.defaults=[])(hr:sI k callerA) (hY:∀(w:Wo) (h:No),YP w h->(K w.params).In h) (Zd:∀ns:T0 Int,ns.length<=63->sp [.rl (ns.map D.int)] (λ_=>Db) λd _=>d=.bl pc) (F:∀(w:Wo) (mg:QQZ) (fa:Uf) (h:No),(K w.params).In h->h.Ns xz mg->mg d.name=Fa (.ref fa)->
   ∃fd:wv,(∀(s:Sd) (u:Vl),BindsTo s fd ⟨[u],[]⟩ [(x,u)])/\∀base:No,(K w.params).In base->base.Ns xz mg->Ud l.prog w (K w.params) mg base k fa fd [x] sp):
  W.WalkO q Yx XP YP l.row.toRowW d [] (λf vs=>PySem.call f vs):=
 L2.QP (n:=63) (k:=k) (x:=x) (CX:=λ_=>OM) (sp:=λw=>OO (K w.params) sp) hn (by decide) hdf hr hY F (λ_ _ a ns hl hO hS=>Ts hO hS (Zd ns hl)) λ_ _ _ _ _ z=>z
def KD(K:qL)(mg:QQZ)(x:Str)(d:D):Prop:=AU λv u=>mg x=Fa u/\ra v u/\∀H,sr K H d v
def TQ{K:qL}{mg:QQZ}{x y:Str}{t:Tok}(h:mg x=Fa (.str y t)):KD K mg x (.str y):=⟨.str y,_,h,⟨t,Z'⟩,λ_=>.str⟩
def wH{K:qL}{mg:QQZ}{x:Str}{y:Int}{t:Tok}(h:mg x=Fa (.int y t)):KD K mg x (.int y):=⟨.int y,_,h,⟨t,Z'⟩,λ_=>.int⟩
def uW{K:qL}{a:Uf}{ss:QQQ}{us:T0 Vl}{n:Nat}{sl:Array (Option Vl)}(h:K.lookup a=Fa ⟨.type "tuple",Db,.seq us.toArray n,sl⟩)(r:qO (ss.map V.str) us)(hz:us.length<=1000):vE K (λ_=>Db) a (ss.map V.str):=
 .inr ⟨_,us.toArray,n,h,Z',Z',Z',by rw[dE,dR];omega,by simpa using r⟩
theorem AK{K:qL}:∀{ss:QQQ},qF K H (ss.map D.str) (ss.map V.str)
 | []=>.nil
 | _::_=>.cons .str AK
def QL{K:qL}{mg:QQZ}{x:Str}{a:Uf}{ss:QQQ}(h:mg x=Fa (.ref a))(q:vE K (λ_=>Db) a (ss.map V.str)):KD K mg x (.tup (ss.map D.str)):=
 ⟨.ref a,_,h,Z',λ_=>.tup (JJ q) AK⟩
variable {d:D}{i:Go}{td tk:T3}{F:T0 (Str × QQQ)}
def tw(hg:Gl X x)(h:KD X.K X.mg x d)(hd:yW x:=by decide):E3 X (.Name x pos) (c3 d):=by obtain⟨v,u,hm,r,hh⟩:=h;exact PE.mono (Ff hg hm r hd) λY H Q' zz=>x7 zz λU M Q hs hm ht k=>k _ H _ M (hh H) hm .refl ht
def W1(F:T0 (Str×QQQ))(ta:T3):T3:=λU M Q=>ta U M λx M1=>match x with|.str k=>Q (.bl (KTD.datumAt k F).isSome) M1|_=>False
def U4(F:T0 (Str×QQQ))(ta:T3):T3:=λU M Q=>ta U M λx M1=>match x with|.str k=>(KTD.datumAt k F).elim False λss=>Q (.tup (ss.map D.str)) M1|_=>False
def Nr(T:NW X.K X.mg x F)(hg:Gl X x)(he:E3 X e ta)(hd:yW x:=by decide)(hmk:wT .In (.Name x p)=lf:=by rfl):E3 X (.Compare e [.In] [.Name x p] pos) (W1 F ta):=by
 obtain⟨a,hm,T⟩:=Gn T;refine PE.mono (Kj (r:=λy z H Q=>∃k,y=.str k/\z=.ref a/\Q (.bl (KTD.datumAt k F).isSome) H) (λXF s Y H y z v u Q I ry rz ⟨k,e1,e2,q⟩=>?_) he (Ff (v:=.ref a) hg hm Z' hd) hmk) λY H Q' zz=>x7 zz λU M Q hs hm ht k=>⟨U,M,_,hs,hm,ht,λv H1 d M1 hd XH e1 q1=>?_⟩
 .subst e1 e2;obtain⟨t,rfl⟩:=ry;obtain rfl:u=Value.ref a:=rz;exact RP (T s.heap I.nO) ⟨.bl (KTD.datumAt k F).isSome,H,I.tok _,Z',q⟩
 .cases d with
  | str k'=>exact⟨k',hd.str_inv,Z',k _ _ _ _ .bl XH e1 q1⟩
  | _=>exact q1.elim
def KR(T:NW X.K X.mg x F)(hg:Gl X x)(he:E3 X e ta)(hd:yW x:=by decide)(hs:Bz e:=by exact λ_ _=>rfl):E3 X (.Subscript (.Name x p) e pos) (U4 F ta):=by
 obtain⟨a,hm,T⟩:=Gn T;refine PE.mono (NZ (r:=λz y H Q=>∃k ss,y=.str k/\z=.ref a/\KTD.datumAt k F=Fa ss/\∀t,vE X.K H t (ss.map V.str)->Q (.ref t) H) (λvalue XW XF s Y H z y o i Q I rz ry ⟨k,ss,e1,e2,e3,q⟩ hs=>?_) (Ff (v:=.ref a) hg hm Z' hd) he hs) λY H Q' zz=>x7 zz λU M Q hs hm ht k=>⟨U,M,_,hs,hm,ht,λv H1 d M1 hd XH e1 q1=>?_⟩
 .subst e1 e2;obtain⟨t,rfl⟩:=ry;obtain rfl:o=Value.ref a:=rz;have hT:=y9 (s:=s) (T s.heap I.nO);have h2:Ch (Tk X.prog X.w) X.A (XXg (.ref a) (.str k t)) (EP X XF Y Q) X.xe s:=Nx (T s.heap I.nO) e3 λv ⟨t',e4,q4⟩=>⟨.ref t',H,I.tok _,e4,q t' (JJ q4)⟩;unfold subscriptTail;refine de ?_;rw[kB hT.not_modules];refine de (iZ hT jK.lookup ?_);have XJ:Ch (Tk X.prog X.w) X.A (subscripted XW lf (.ref a) (.str k t)) (λr s₃=>Ch (Tk X.prog X.w) X.A (letTemporaryGo value (.ref a) r>>=λ_=>pure r) (EP X XF Y Q) X.xe s₃) X.xe s:=by rw[hs];exact wpAny_operating (eF h2 (λr s₃ h₃=>de (kM (dz h₃))) λ_ _ x=>x)
  first
   | exact dz (de XJ)
   | exact de (dz (de XJ))
   | exact de XJ
 .cases d with
  | str k'=>obtain⟨ss,e4,q2⟩:=rC q1;exact⟨k',ss,hd.str_inv,Z',e4,λt qt=>k _ _ _ _ (.tup qt AK) XH e1 q2⟩
  | _=>exact q1.elim
def zU(M:Mp)(a:Uf):Option (T0 (rH×D)):=match M a with
 | some (.dk kvs)=>Fa kvs
 | _=>Db
def vZ(kvs:T0 (rH×D))(k:rH):Option D:=(kvs.find? λp=>decide (p.1=k)).map (·.2)
def zZ{K:qL}{kvs:T0 (rH×D)}(hm:HM K H M)(h:zU M a=Fa kvs):∃vs,H a=Fa (.dK vs)/\vs.map (·.1)=kvs.map (·.1)/\qF K H (kvs.map (·.2)) (vs.map (·.2)):=by
 unfold zU at h;cases e:M a with
 | none=>rw[e]at h;cases h
 | some c=>
  rw[e]at h;have ok:=hm a c e;cases c with
  | dk es=>cases h;exact ok
  | ins _ _=>cases h
  | lst _=>cases h
  | exc _=>cases h
theorem Gd{K:qL}{k:rH}:∀{kvs:T0 (rH×D)} {vs:T0 (rH×V)},vs.map (·.1)=kvs.map (·.1)->qF K H (kvs.map (·.2)) (vs.map (·.2))->(∀d,vZ kvs k=Fa d->∃v,xi vs k=Fa v/\sr K H d v)/\(vZ kvs k=Db->xi vs k=Db)
 | [],[],_,_=>⟨λd z=>(by cases z),λ_=>rfl⟩
 | [],_::_,e,_=>by cases e
 | _::_,[],e,_=>by cases e
 | (j,d)::kvs,(j',v)::vs,e,h=>by
  have e1:j'=j:=by simpa using(gB e).1
  subst e1;obtain⟨x,r,e2,h1,h2⟩:=h.inv;obtain⟨e3,e4⟩:=gB e2;subst e3 e4;have ih:=Gd (k:=k) (kvs:=kvs) (vs:=vs) (gB e).2 h2;by_cases hk:j'=k
  .have g:vZ ((j',d)::kvs) k=Fa d:=by simp[vZ,hk]
   have g':xi ((j',v)::vs) k=Fa v:=by simp[xi,hk]
   rw[g,g'];exact⟨λd' z=>by cases z;exact⟨v,Z',h1⟩,λz=>by cases z⟩
  .have g:vZ ((j',d)::kvs) k=vZ kvs k:=by simp[vZ,hk]
   have g':xi ((j',v)::vs) k=xi vs k:=by simp[xi,hk]
   rw[g,g'];exact ih
def OG(x y:D)(M:Mp)(Q:DK):Prop:=match x,y with
 | .ref a,.str k=>(zU M a).elim False λkvs=>(vZ kvs (.inr k)).elim False λd=>Q d M
 | _,_=>False
def Ui(td tk:T3):T3:=λU M Q=>td U M λx M1=>tk U M1 λy M2=>OG x y M2 Q
def zt(hu:X.A.units+9<XXa)(ho:E3 X o td)(hi:E3 X i tk)(hs:Bz i:=by exact λ_ _=>rfl):E3 X (.Subscript o i pos) (Ui td tk):=by
 refine PE.mono (NZ (r:=R3 X.K OG) (λvalue XW XF s Y H vx vy v u Q' I rx ry h hs=>?_) ho hi hs) Ij;obtain⟨x,y,M,Q,hx,hy,hm,q,k⟩:=h;unfold OG at q;split at q
 .rename_i a0 k0;obtain⟨kvs,e1,q⟩:=rC q;obtain⟨d,e2,q⟩:=rC q;cases hx.ni;cases hy.str_inv;obtain⟨vs,h1,h2,h3⟩:=zZ hm e1;obtain⟨w,e3,hw⟩:=(Gd h2 h3).1 d e2;refine Pm (by omega) value XW XF s Y H _ _ v u Q' I rx ry ⟨_,w,Z',?_,k _ _ _ _ hw hm .refl q⟩ hs;have g:=FC.k (k:=Sum.inr k0) h1;rw[e3]at g;exact g
 .exact q.elim
def SX(Zj:Bool)(x y:D)(M:Mp)(Q:DK):Prop:=match x,y with
 | .str k,.ref a=>(zU M a).elim False λkvs=>Q (.bl (if Zj then !(vZ kvs (.inr k)).isSome else(vZ kvs (.inr k)).isSome)) M
 | _,_=>False
def NY{K:qL}{k:rH}{kvs:T0 (rH×D)}{vs:T0 (rH×V)}(h2:vs.map (·.1)=kvs.map (·.1))(h3:qF K H (kvs.map (·.2)) (vs.map (·.2))):(xi vs k).isSome=(vZ kvs k).isSome:=by
 obtain⟨a,b⟩:=Gd (k:=k) h2 h3;cases e:vZ kvs k with
 | none=>rw[b e];rfl
 | some d=>obtain⟨v,e3,_⟩:=a d e;rw[e3];rfl
def Wj(Zj:Bool)(tk td:T3):T3:=λU M Q=>tk U M λx M1=>td U M1 λy M2=>SX Zj x y M2 Q
def Vt(hu:X.A.units+9<XXa):xY X (Op .In) (R3 X.K (SX lf)):=λXF s Y H vx vy v u Q' I rx ry h=>by
 obtain⟨x,y,M,Q,hx,hy,hm,q,k⟩:=h;unfold SX at q;split at q
 .obtain⟨kvs,e1,q⟩:=rC q;cases hy.ni;cases hx.str_inv;obtain⟨vs,h1,h2,h3⟩:=zZ hm e1;refine SN (by omega) XF s Y H _ _ v u Q' I rx ry ⟨_,_,Z',FC.k (k:=Sum.inr _) h1,?_⟩;rw[NY h2 h3];exact k _ _ _ _ .bl hm .refl q
 .exact q.elim
def LU(hu:X.A.units+9<XXa)(hi:E3 X i tk)(ho:E3 X o td)(hm:wT .In o=lf:=by first|exact Io _|with_unfolding_all rfl):B3 X (.Compare i [.In] [o] pos) (b3 (Wj lf tk td)):=PT.mono (Kb (Vt hu) hi ho hm) λY H Q' zz=>x7 zz λU M Q hs hm ht k=>
 Ij Y H _ ⟨U,M,_,hs,hm,ht,λv H1 d M1 hd XH e1 q1=>by
  cases d with
  | bl c=>exact⟨c,hd.nv,k c H1 M1 XH e1 q1⟩
  | _=>exact q1.elim⟩
def xu:T0 D->Option (T0 (rH×D))
 | []=>Fa []
 | .tup [.str k,d]::r=>(xu r).map ((.inr k,d)::·)
 | _::_=>Db
theorem DV{K:qL}:∀{es:T0 D} {kvs:T0 (rH×D)} {xs:T0 V},xu es=Fa kvs->qF K H es xs->∃(ts:QXQ) (vs:T0 (rH×V)),xs=ts.map V.ref/\ts.length=vs.length/\vs.map (·.1)=kvs.map (·.1)/\qF K H (kvs.map (·.2)) (vs.map (·.2))/\
  ∀(j:Nat) (t:Uf) (p:rH×V),ts[j]?=Fa t->vs[j]?=Fa p->vE K H t [kV p.1,p.2]
 | [],_,_,e,h=>by cases e;exact⟨[],[],h.nil_inv,Z',Z',.nil,λj t p z=>by simp at z⟩
 | d::es,kvs,xs,e,h=>by
  obtain⟨x,r,rfl,h1,h2⟩:=h.inv;unfold xu at e;split at e
  .rename_i z;cases z
  .rename_i k d' r' z;cases z;cases q:xu es with
   | none=>rw[q]at e;cases e
   | some kvs'=>
    rw[q]at e;cases e;obtain⟨ts,vs,e1,e2,e3,e4,e5⟩:=DV q h2;obtain⟨a,ys,rfl,g1,g2⟩:=h1.nA;obtain⟨y,r1,rfl,g3,g4⟩:=g2.inv;obtain⟨w,r2,rfl,g5,g6⟩:=g4.inv;cases g6.nil_inv;cases g3.str_inv;refine⟨a::ts,(.inr k,w)::vs,by rw[e1];rfl,by simpa using e2,by rw[eh,eh,e3],.cons g5 e4,λj t p z1 z2=>?_⟩;cases j with
    | zero=>
     have z1':a=t:=by simpa using z1
     have z2':(Sum.inr k,w)=p:=by simpa using z2
     subst z1' z2';exact g1
    | succ j=>exact e5 j t p (by simpa using z1) (by simpa using z2)
  .cases e
def RF(ds:T0 D)(M:Mp)(Q:DK):Prop:=match ds with
 | [.ref a]=>(pI M a).elim False λes=>(xu es).elim False λkvs=>(kvs.map (·.1)).Nodup/\∀p,M p=Db->Q (.ref p) (pX M p (.dk kvs))
 | _=>False
def Gi(hc:X.calm=pc):C3 X (.type "dict") RF:=by
 intro XF s Y H vs us Q' I rv h;obtain⟨ds,M,Q,hd,hm,q,k⟩:=h;unfold RF at q;split at q
 .obtain⟨es,e1,q⟩:=rC q;obtain⟨kvs,e2,hnd,q⟩:=rC q;obtain⟨v,rfl,hv⟩:=sD hd;cases hv.ni;obtain⟨xs,h1,h2,_⟩:=qK hm e1;obtain⟨ts,ws,rfl,f2,f3,f4,f5⟩:=DV e2 h2;refine Iz hc XF s Y H _ us Q' I rv ⟨_,ts,ws,Z',h1,f2,f5,by rw[f3];exact hnd,λd hd=>?_⟩;have e:rg X.K H (upd H d (.dK ws)):=.new hd;exact k _ _ _ _ .ref (hm.new (c:=.dk kvs) hd ⟨_,qB,f3,f4.mono e⟩) e (q d (hm.fresh hd))
 .exact q.elim
def RX:zn "set"=Fa (.type "set"):=by decide+kernel
def BM:T0 D->Option (QQQ)
 | []=>Fa []
 | .str x::r=>(BM r).map (x::·)
 | _::_=>Db
theorem Cm:∀ss:QQQ,BM (ss.map D.str)=Fa ss
 | []=>rfl
 | x::r=>by show(BM (r.map D.str)).map (x::·)=_;rw[Cm r];rfl
theorem GM{K:qL}:∀{ds:T0 D} {ss:QQQ} {xs:T0 V},BM ds=Fa ss->qF K H ds xs->xs=ss.map V.str
 | [],_,_,e,h=>by cases e;exact h.nil_inv
 | d::ds,_,_,e,h=>by
  obtain⟨x,r,rfl,h1,h2⟩:=h.inv;cases d with
  | str z=>
   unfold BM at e;cases q:BM ds with
   | none=>rw[q]at e;cases e
   | some ss=>rw[q]at e;cases e;rw[h1.str_inv,GM q h2];rfl
  | _=>cases e
def UU(ta:T3):T3:=λU M Q=>ta U M λx M1=>(N8 M1 x).elim False λes=>(BM es).elim False λss=>ss.length<4000/\Q (.int (tJ ss).length) M1
def KL(hc:X.calm=pc)(he:E3 X e ta)(hg1:Gl X "len")(XH:X.mg "len"=Db)(hg2:Gl X "set")(X1:X.mg "set"=Db)(b1:zn "len"=Fa (.builtin "len"))(b2:zn "set"=Fa (.type "set")) (hs:Tl [e] X.env=[(lf,wp e X.env)]:=by rfl):E3 X (.Call (.Name "len" p) [.Call (.Name "set" p2) [e] [] Yr] [] pos) (UU ta):=
 PE.mono (Kv hc he hg1 XH hg2 X1 b1 b2 hs) λY H Q' zz=>x7 zz λU M Q hs hm ht k=>⟨U,M,_,hs,hm,ht,λv H1 d M1 hd XH e1 q1=>by
  obtain⟨es,e2,q1⟩:=rC q1;obtain⟨ss,e3,hz,q1⟩:=rC q1;obtain⟨a,xs,rfl,h1,h2⟩:=Gb XH hd e2;rw[GM e3 h2]at h1;have z:XXb=4096:=rfl;exact⟨a,ss,Z',h1,by omega,k _ _ _ _ .int XH e1 q1⟩⟩
def TJ(x:D)(ds:T0 D)(M:Mp)(Q:DK):Prop:=match x,ds with
 | .ref a,[y]=>(pI M a).elim False λes=>es.length<pi/\Q .nz (pX M a (.lst (es++[y])))
 | _,_=>False
def qM{es:T0 D}(h:pI M a=Fa es):M a=Fa (.lst es):=by
 unfold pI at h;split at h
 .rename_i e;rw[e];cases h;rfl
 .cases h
def Fz{K:qL}{es:T0 D}(hm:HM K H M)(h:pI M a=Fa es):∃xs,H a=Fa (.lst xs)/\qF K H es xs:=hm a _ (qM h)
def Kr:M3 X "list.append" TJ:=by
 intro XF s Y H vx vs v us Q' I rx rv h;obtain⟨x,ds,M,Q,hx,hd,hm,q,k⟩:=h;unfold TJ at q;split at q
 .obtain⟨es,e1,hz,q⟩:=rC q;obtain⟨w,rfl,hw⟩:=sD hd;cases hx.ni;obtain⟨xs,h1,h2⟩:=Fz hm e1;refine Lh XF s Y H _ _ v us Q' I rx rv ⟨_,xs,w,Z',Z',h1,by rw[<-h2.length];exact hz,?_⟩;obtain⟨X1,ex⟩:=hm.put (c:=.lst (es++[_])) (qM e1) λex=>⟨_,qB,(h2.mono ex).snoc (hw.mono ex)⟩;exact k _ _ _ _ .nz X1 ex q
 .exact q.elim
def sv(ho:E3 X o ta)(ha:A3 X (e::es) t)(XX:Ps o "append" X.env (wp o X.env)=wp o X.env:=by rfl)
  (Y1:((sB pos (Tl (e::es) X.env)).all (λx=>!x.1)&&(xL pos (Rs [] X.env)).all (λx=>x.1.isSome)&&decide ((e::es).length+([]:T0 XXf).length+(if ([]:T0 XXf).isEmpty then 0 else 1)<30))=pc:=by rfl)
  (X8:(XI.endLine==pos.line)=pc:=by rfl) (hs:Bx X e es:=by rfl) (X2:Dh X pos es:=by rfl):
  E3 X (.Call (.Attribute o "append" XI) (e::es) [] pos) (V5 TJ ta t):=Rl PySem.F.slot_list_append PySem.F.type_list_append Kr ho ha XX Y1 X8 hs X2
def qQ.none{M M2:Mp}{q:Uf}(s:qQ M M2)(h:M2 q=Db):M q=Db:=by
 cases e:M q with
 | none=>rfl
 | some c=>rw[s q c e]at h;cases h
def qQ.upd{M M2:Mp}{c:vm}(s:qQ M M2):qQ (pX M q c) (pX M2 q c):=λx d h=>by
 by_cases e:x=q
 .subst e;rw[qp]at h ⊢;exact h
 .rw[uF e]at h ⊢;exact s x d h
def qQ.dk{ds:T0 (rH×D)}(s:qQ M M')(h:zU M a=Fa ds):zU M' a=Fa ds:=by
 unfold zU at h ⊢;cases e:M a with
 | none=>rw[e]at h;cases h
 | some c=>rw[s a c e];rw[e]at h;exact h
def sT(p:Uf)(M M':Mp):Prop:=∀b c,b≠p->M b=Fa c->M' b=Fa c
def qQ.keep{p:Uf}(s:qQ M M'):sT p M M':=λb c _ h=>s b c h
def sT.trans{M M1 M2:Mp}{p:Uf}(a:sT p M M1)(b:sT p M1 M2):sT p M M2:=λx c n h=>b x c n (a x c n h)
def sT.put{p:Uf}{c:vm}:sT p M (pX M p c):=λb d n h=>by rw[uF n];exact h
def sT.lst{p a:Uf}{ds:T0 D}(k:sT p M M')(n:a≠p)(h:pI M a=Fa ds):pI M' a=Fa ds:=by have:=k a _ n (qM h);unfold pI;rw[this]
def sT.dk{p a:Uf}{ds:T0 (rH×D)}(k:sT p M M')(n:a≠p)(h:zU M a=Fa ds):zU M' a=Fa ds:=by
 unfold zU at h ⊢;cases e:M a with
 | none=>rw[e]at h;cases h
 | some c=>rw[k a c n e];rw[e]at h;exact h
def qu{a p C:Uf}{ds:T0 D}{fs:T0 (Str×D)}(h:pI M a=Fa ds)(hp:M p=Fa (.ins C fs)):a≠p:=λz=>by subst z;rw[qM h]at hp;cases hp
def Ca{a p C:Uf}{ds:T0 (rH×D)}{fs:T0 (Str×D)}(h:zU M a=Fa ds)(hp:M p=Fa (.ins C fs)):a≠p:=λz=>by subst z;unfold zU at h;rw[hp]at h;cases h
def tH{M:Mp}{p:Uf}{ds:T0 D}(h:M p=Fa (.lst ds)):pI M p=Fa ds:=by unfold pI;rw[h]
def Ey{M:Mp}{p:Uf}{ds:T0 (rH×D)}(h:M p=Fa (.dk ds)):zU M p=Fa ds:=by unfold zU;rw[h]
def tM{N:Mp}{p q C:Uf}{fs fs':T0 (Str×D)}{c:vm}(hp:N p=Fa (.ins C fs))(hq:N q=Db):
  q≠p/\pX N q c p=Fa (.ins C fs)/\sT p N (pX (pX N q c) p (.ins C fs'))/\pX (pX N q c) p (.ins C fs') q=Fa c/\pX (pX N q c) p (.ins C fs') p=Fa (.ins C fs'):=by
 have n:p≠q:=RI hp hq;refine⟨dW n,by rw[uF n];exact hp,(qQ.new hq).keep.trans .put,by rw[uF (dW n),qp],qp⟩
theorem BC{g:DR}{te:T3}{ok:Mp->Prop}{Q:DK}(all:T0 D)(J:T0 D->T0 D->vH->Mp->Prop)(nB:∀p acc U M,J p acc U M->ok M):∀(ds pre acc:T0 D) (U:vH) (M:Mp),pre++ds=all->acc.length+ds.length<=pi->J pre acc U M->
  (∀pre d post,pre++d::post=all->∀acc U M,J pre acc U M->∀k:vH->DK,(∀δ2 y M4,J (pre++[d]) (acc++[y]) δ2 M4->k δ2 y M4)->g d U M λδ2 M2=>te δ2 M2 (k δ2))->
  (∀acc U M,J all acc U M->∀p,M p=Db->Q (.ref p) (pX M p (.lst acc)))->vi g CV te ok Q ds acc U M
 | [],pre,acc,U,M,e,hl,j,_,hq=>⟨by simpa using hl,hq acc U M (by rw[<-e,e9];exact j)⟩
 | d::r,pre,acc,U,M,e,hl,j,ht,hq=>by rw[eE]at hl;refine⟨by omega,?_⟩;refine ht pre d r e acc U M j (λδ2 y M4=>ok M4/\vi g CV te ok Q r (acc++[y]) δ2 M4) λδ2 y M4 j'=>⟨nB _ _ _ _ j',BC all J nB r (pre++[d]) (acc++[y]) δ2 M4 (by rw[<-e,fz];rfl) ?_ j' ht hq⟩;rw[dg,dX];omega
def vB:Nat->D->Bool
 | _,.nz=>pc
 | _,.bl _=>pc
 | _,.int _=>pc
 | _,.str _=>pc
 | n+1,.tup ds=>ds.all (vB n)
 | _,_=>lf
theorem Cn{f:D->D->Option Bool}:∀ds:T0 D,(∀d∈ds,f d d=Fa pc)->tj f ds ds=Fa pc
 | [],_=>rfl
 | d::r,h=>by show(f d d).bind (λp=>(tj f r r).map λq=>p&&q)=Fa pc;rw[h d dO,Cn r λe he=>h e (dM _ he)];rfl
theorem Hh:∀(n:Nat) (d:D),vB n d=pc->zE M (n+1) d d=Fa pc
 | _,.nz,_=>rfl
 | _,.bl _,_=>by simp[zE]
 | _,.int _,_=>by simp[zE]
 | _,.str _,_=>by simp[zE]
 | n+1,.tup ds,h=>by have h:ds.all (vB n)=pc:=h;show(tj (zE M (n+1)) ds ds).map (λp=>p&&ds.length==ds.length)=Fa pc;rw[Cn ds λd hd=>Hh n d (eR.mp h d hd)];simp
 | 0,.tup _,h=>by cases h
 | 0,.ref _,h=>by cases h
 | _+1,.ref _,h=>by cases h
 | 0,.ty _,h=>by cases h
 | _+1,.ty _,h=>by cases h
 | 0,.rl _,h=>by cases h
 | _+1,.rl _,h=>by cases h
def R4(tc:AE)(tb:yl):yl:=λE U M=>∃W:Nat->vH->Mp->Prop,(∃m,W m U M)/\∀m U M,W m U M->
 tc U M λb M1=>if b=pc then tb {E with nx:=λδ' M'=>∃m',m'<m/\W m' δ' M',ct:=λδ' M'=>∃m',m'<m/\W m' δ' M',bk:=E.nx} U M1 else E.nx U M1
def NC{tc:AE}{tb:yl}(hp:PassesOwn (Tk X.prog X.w) X.A X.env X.xe)(hc:B3 X c tc)(hb:IA X body tb):S3 X (.While c body [] pos) (R4 tc tb):=
 PS.mono (On hp hc hb) λD' Y H ⟨U,M,E,hs,hm,⟨W,⟨m0,w0⟩,turn⟩,k1,k2,k3,k4⟩=>by
 refine⟨λm σ' H'=>∃δ' M',yU X.K H' σ' δ'/\HM X.K H' M'/\rg X.K H H'/\σ'.length=Y.length/\W m δ' M',⟨m0,U,M,hs,hm,.refl,Z',w0⟩,?_⟩
 rintro m σ1 H1 ⟨δ1,M1,hs1,XH,e1,l1,w1⟩
 refine⟨δ1,M1,_,hs1,XH,turn m δ1 M1 w1,λb H2 M2 X1 e2 q2=>?_⟩;cases b with
 | false=>rw[dq dF]at q2 ⊢;exact k1 σ1 H2 δ1 M2 (hs1.mono e2) X1 (e1.trans e2) l1 q2
 | true=>
  rw[dw Z']at q2 ⊢;refine⟨λσ' H'=>∃δ' M',yU X.K H' σ' δ'/\HM X.K H' M'/\rg X.K H H'/\σ'.length=Y.length/\∃m',m'<m/\W m' δ' M',?_,δ1,M2,_,hs1.mono e2,X1,q2,?_,?_,?_,?_⟩
  .rintro σ' H' ⟨δ',M',a1,a2,a3,a4,m',lt,w⟩
   exact⟨m',lt,δ',M',a1,a2,a3,a4,w⟩
  .exact λσ' H' δ' M' y1 y2 y3 y4 y5=>⟨δ',M',y1,y2,e1.trans (e2.trans y3),by rw[y4,l1],y5⟩
  .exact λv H' d M' y1 y2 y3 y4=>k2 v H' d M' y1 y2 (e1.trans (e2.trans y3)) y4
  .exact λσ' H' δ' M' y1 y2 y3 y4 y5=>k1 σ' H' δ' M' y1 y2 (e1.trans (e2.trans y3)) (by rw[y4,l1]) y5
  .exact λσ' H' δ' M' y1 y2 y3 y4 y5=>⟨δ',M',y1,y2,e1.trans (e2.trans y3),by rw[y4,l1],y5⟩
def RS(op:XYc)(x y:D):Option D:=match op,x,y with
 | .Add,.int i,.int j=>Fa (.int (i+j))
 | .Sub,.int i,.int j=>Fa (.int (i - j))
 | _,_,_=>Db
def TM(op:XYc):V->V->Hp->VK->Prop:=λvx vy H Q=>match op,vx,vy with
 | .Add,.int i,.int j=>Q (.int (i+j)) H
 | .Sub,.int i,.int j=>Q (.int (i - j)) H
 | _,_,_=>False
def RW:OR X op (TM op):=by
 intro XF s Y H x y u v Q I rx ry h;unfold TM at h;split at h
 .exact T1 XF s Y H _ _ u v Q I rx ry ⟨_,_,Z',Z',h⟩
 .exact Sb XF s Y H _ _ u v Q I rx ry ⟨_,_,Z',Z',h⟩
 .exact h.elim
def Pz{K:qL}{x y z:D}{Q:VK}(hx:sr K H x vx)(hy:sr K H y vy)(e:RS op x y=Fa z)(k:∀vz,sr K H z vz->Q vz H):TM op vx vy H Q:=by
 unfold RS at e;split at e
 .cases e;cases hx.int_inv;cases hy.int_inv;exact k _ .int
 .cases e;cases hx.int_inv;cases hy.int_inv;exact k _ .int
 .cases e
def U9(K:qL)(f:Str)(op:XYc)(ta tv:T3):yl:=λE U M=>ta U M λx M1=>match x with
 | .ref a=>zK (M1 a) λC fs=>uH K C f/\(fs.lookup f).elim False λd=>tv U M1 λy M2=>(RS op d y).elim False λz=>zK (M2 a) λC' fs'=>C'=C/\fs'.length<1000/\E.nx U (pX M2 a (.ins C (wG f z fs')))
 | _=>False
def Es{f:Str}(ha:E3 X o ta)(hv:E3 X value tv):S3 X (.AugAssign (.Attribute o f ZP) op value pos) (U9 X.K f op ta tv):=
 PS.mono (KO ha hv RW) λD' Y H zz=>LF zz λU M E hs hm ht k1 k2 k3 k4=>
 ⟨U,M,_,hs,hm,ht,λv H1 d M1 hd XH e1 q1=>by
  cases d with
  | ref a=>
   cases hd.ni;obtain⟨C,fs,e,q1⟩:=ya q1;obtain⟨na,q1⟩:=q1;obtain⟨d,ed,q1⟩:=rC q1;obtain⟨dx,vs,h1,cl,nn,fo⟩:=XH a _ e;obtain⟨w,ew,hw⟩:=(xB fo).1 d ed;refine⟨a,C,dx,vs,w,Z',h1,cl,na,ew,U,M1,_,hs.mono e1,XH,q1,λu H2 y M2 hy X1 e2 q2=>?_⟩;obtain⟨z,ez,q2⟩:=rC q2;obtain⟨C',fs',e',q2⟩:=ya q2;obtain⟨rfl,hl,q2⟩:=q2;refine Pz (hw.mono e2) hy ez λvz hz=>?_;obtain⟨dx',vs',Ys,cl',nn',fo'⟩:=X1 a _ e';have XN:vs'.length=fs'.length:=by have:=eV List.length fo'.1;simpa using this
   refine⟨dx',vs',Ys,by omega,?_⟩;obtain⟨YF,e3⟩:=X1.put (p:=a) (o:=.ins C' dx' (vY f vz vs')) (c:=.ins C' (wG f z fs')) e' λx=>⟨dx',_,qB,cl',λg hg=>by
    rcases B2 hg with q|q
    .rw[q];exact na
    .exact nn' g q,Fe (hz.mono x) (fo'.mono x)⟩
   exact k1 Y _ U _ (hs.mono (e1.trans (e2.trans e3))) YF (e1.trans (e2.trans e3)) Z' q2
  | _=>exact q1.elim⟩
theorem ua{i:Nat}{tt:AE}{te:T3}{ok:Mp->Prop}{Q:DK}{f:D->D}{t:D->Bool}{M:Mp}(nB:ok M):∀(ds acc:T0 D) (U:vH),acc.length+ds.length<=pi->
  (∀d∈ds,∀k:Bool->Mp->Prop,k (t d) M->tt (U.set i (Fa d)) M k)->(∀d∈ds,t d=pc->∀k:DK,k (f d) M->te (U.set i (Fa d)) M k)->
  (∀p,M p=Db->Q (.ref p) (pX M p (.lst (acc++(ds.filter t).map f))))->vi (uq i) tt te ok Q ds acc U M
 | [],acc,U,hl,_,_,hq=>⟨by simpa using hl,by simpa using hq⟩
 | d::r,acc,U,hl,ht,he,hq=>by
  rw[eE]at hl;refine⟨by omega,?_⟩;show tt (U.set i (Fa d)) M _;refine ht d dO _ ?_;have z:∀e:D,(U.set i (Fa d)).set i (Fa e)=U.set i (Fa e):=λe=>by rw[jc]
  cases q:t d with
  | true=>
   rw[dw Z'];refine he d dO q _ ⟨nB,ua (f:=f) (t:=t) nB r (acc++[f d]) _ ?_ (λe m k h=>?_) (λe m h0 k h=>?_) ?_⟩
   .rw[dg,dX];omega
   .rw[z];exact ht e (dM _ m) k h
   .rw[z];exact he e (dM _ m) h0 k h
   .intro p hp;have:=hq p hp;rw[gD q]at this
    simpa using this
  | false=>
   rw[dq dF];refine⟨nB,ua (f:=f) (t:=t) nB r acc _ (by omega) (λe m k h=>?_) (λe m h0 k h=>?_) ?_⟩
   .rw[z];exact ht e (dM _ m) k h
   .rw[z];exact he e (dM _ m) h0 k h
   .intro p hp;have:=hq p hp;rw[gF (by rw[q];exact dF)]at this;exact this
section
variable {a:Go}
def WZ(ta:T3):T3:=λU M Q=>ta U M λx M1=>match x with|.int i=>Q (.int (-i)) M1|_=>False
def EE(ha:E3 X a ta):E3 X (.UnaryOp .USub a pos) (WZ ta):=PE.mono (Ul SO ha) λY H Q' zz=>x7 zz λU M Q hs hm ht k=>
 ⟨U,M,_,hs,hm,ht,λv H1 d M1 hd XH e1 q1=>by
  cases d with
  | int i=>cases hd.int_inv;exact⟨i,Z',k _ H1 _ M1 .int XH e1 q1⟩
  | _=>exact q1.elim⟩
end
end L3
namespace L2
open PySem.W
def C8{α:Type}(lt:Nat->Nat->Bool):KasT α->α
 | .ret a=>a
 | .ask i j k=>C8 lt (k (lt i j))
def vL(n:Nat):KasT (Array Nat)->Bool
 | .ret p=>p.size==n&&p.toList.all λi=>decide (i<n)
 | .ask i j k=>decide (i<n)&&decide (j<n)&&vL n (k pc)&&vL n (k lf)
def G5{n i j:Nat}{k:Bool->KasT (Array Nat)}(h:vL n (.ask i j k)=pc):i<n/\j<n/\∀b,vL n (k b)=pc:=by simp only[vL,d6,eG]at h;exact⟨h.1.1.1,h.1.1.2,λb=>by cases b;exact h.2;exact h.1.2⟩
theorem Hq{cmp:Nat->Nat->(Bool->Sd->Prop)->Sd->Prop}{lt:Nat->Nat->Bool}{n:Nat}{Q:Array Nat->Sd->Prop}(hc:∀i j (C:Bool->Sd->Prop),i<n->j<n->C (lt i j) s->cmp i j C s):
  ∀t:KasT (Array Nat),vL n t=pc->Q (C8 lt t) s->t.kasWp cmp Q s
 | .ret _,_,q=>q
 | .ask i j k,hb,q=>by obtain⟨h1,h2,h3⟩:=G5 hb;exact hc i j _ h1 h2 (Hq hc (k (lt i j)) (h3 _) q)
theorem J6:∀t:KasT (Array Nat),vL n t=pc->(C8 lt t).size=n/\∀i∈(C8 lt t).toList,i<n
 | .ret p,hb=>by simp only[vL,d6,ft,eR,eG]at hb;exact hb
 | .ask i j k,hb=>J6 (k (lt i j)) ((G5 hb).2.2 _)
def uo(lt:Nat->Nat->Bool)(n:Nat):T0 Nat:=if n<2 then List.range n else(C8 lt (kas_sort n)).toList
def WN:vL 2 (kas_sort 2)=pc:=by decide+kernel
def WH:vL 3 (kas_sort 3)=pc:=by decide+kernel
def Um{n:Nat}(h2:2<=n)(h3:n<=3):vL n (kas_sort n)=pc:=by
 have:n=2\/n=3:=by omega
 rcases this with rfl|rfl
 .exact WN
 .exact WH
def yx{n:Nat}(h3:n<=3):(uo lt n).length=n/\∀i∈uo lt n,i<n:=by
 unfold uo;by_cases h:n<2
 .rw[dw h,eI];exact⟨Z',λi hi=>fW.mp hi⟩
 .rw[dq h];obtain⟨h1,h2⟩:=J6 (lt:=lt) (kas_sort n) (Um (by omega) h3);exact⟨by rw[gZ];exact h1,h2⟩
variable {prog:Pg}{w:Wo}{A:Ar}{E:QQX}{s:Sd}
def Dn{a:Uf}{vs:T0 Vl}{n:Nat}{κ:SortKind}{lt:Nat->Nat->Bool}{P:PySem.Fin->Sd->Prop}(ho:s.heap.get? a=Fa (sK "list" vs.toArray n))(h3:vs.length<=3) (hk:∀h' (Q:SortKind->Sd->Prop),0<vs.length->(∀b o,b≠a->s.heap.get? b=Fa o->h'.get? b=Fa o)->Q κ {s with heap:=h'}->Ch (Tk prog w) A (keyKind' vs.toArray) Q (λ_ _=>False) {s with heap:=h'})
  (XU:∀h' i j (C:Bool->Sd->Prop),(∀b o,b≠a->s.heap.get? b=Fa o->h'.get? b=Fa o)->i<vs.length->j<vs.length->C (lt i j) {s with heap:=h'}->Ch (Tk prog w) A (keyLt' κ (vs.getD i .none) (vs.getD j .none)) C (λ_ _=>False) {s with heap:=h'})
  (h:P (.done (.ret .none)) {s with heap:=sortedHeap s.heap a vs (List.toArray ((uo lt vs.length).map λi=>vs.getD i Value.none))}):
  Ch (Tk prog w) A (Builtin.«list.sort» ⟨[.ref a],[]⟩) P E s:=by
 rw[list_sort_plain];have hz:=dR;have ha:a<s.heap.objs.size:=dD ho;refine de (listItems_at ho Z' ?_);refine de (kT ho Z' ?_ (by rw[dE];omega) (eQ _));obtain⟨e1,ho1⟩:∃e1,(s.heap.update a (Obj.mapSeq λ_=>#[])).get? a=Fa (sK "list" #[] e1):=⟨_,get?_update_seq ho (λ_=>#[])⟩;refine de (lZ ho1 Z' ?_);refine de (wpAny_newTuple ?_ (by show vs.length<=_;omega));refine de (wpAny_newList ?_ (eQ _));refine eJ ?_;have ho6:(((s.heap.update a (Obj.mapSeq λ_=>#[])).push (sK "tuple" vs.toArray 0)).push (sK "list" #[] 0)).get? a=Fa (sK "list" #[] e1):=by rw[iO _ _ _ (by rw[mH,iT];exact dN (gh ha)),iO _ _ _ (by rw[iT];exact dN ha)];exact ho1
 have keep:∀b o,b≠a->s.heap.get? b=Fa o->(((s.heap.update a (Obj.mapSeq λ_=>#[])).push (sK "tuple" vs.toArray 0)).push (sK "list" #[] 0)).get? b=Fa o:=λb o hb q=>by have XU:b<s.heap.objs.size:=dD q;rw[iO _ _ _ (by rw[mH,iT];exact dN (gh XU)),iO _ _ _ (by rw[iT];exact dN XU),jk _ _ _ _ hb];exact q
 show Ch (Tk prog w) A _ P E {s with heap:=((s.heap.update a (Obj.mapSeq λ_=>#[])).push (sK "tuple" vs.toArray 0)).push (sK "list" #[] 0)};dsimp only;have hsz:vs.toArray.size=vs.length:=by simp
 by_cases h2:vs.toArray.size<2
 .rw[dw h2,dw h2];refine de (dz ?_);rw[StateT.run_pure];refine de (dz ?_);dsimp only;refine de (lZ ho6 Z' ?_);have eo:(arrOf (SortSt.mk' general' (vs.toArray.zip vs.toArray) #[] 7 Db)).map (·.2)=List.toArray ((uo lt vs.length).map λi=>vs.getD i Value.none):=by
   unfold uo;rw[dw (by omega)];show((vs.toArray.zip vs.toArray).map (·.2))=_
   match vs,hsz,h2 with
   | [],_,_=>simp
   | [_],_,_=>simp[jd]
   | _::_::_,_,h2=>simp at h2;omega
  rw[eo];refine de (kT ho6 Z' ?_ (eQ _) (by rw[dE,c9,(yx h3).1];omega));simp only[lV,iJ,jn];exact dz h
 .rw[dq h2,dq h2];have g2:2<=vs.length:=by omega
  refine de (eF (hk _ (λκ' s'=>κ'=κ/\s'={s with heap:=((s.heap.update a (Obj.mapSeq λ_=>#[])).push (sK "tuple" vs.toArray 0)).push (sK "list" #[] 0)}) (by omega) keep ⟨Z',Z'⟩) ?_ λ_ _ x=>x.elim)
  rintro κ' s' ⟨rfl,rfl⟩
  refine de (eF (kat_run (ks:=vs) (vs:=vs) (Q:=λYz s'=>∃p:Array Nat,arrOf Yz=p.map (kas_item (vs.toArray.zip vs.toArray))/\failedOf Yz=Db/\p.toList=uo lt vs.length/\s'={s with heap:=((s.heap.update a (Obj.mapSeq λ_=>#[])).push (sK "tuple" vs.toArray 0)).push (sK "list" #[] 0)})
   (G:=λp s'=>p.toList=uo lt vs.length/\s'={s with heap:=((s.heap.update a (Obj.mapSeq λ_=>#[])).push (sK "tuple" vs.toArray 0)).push (sK "list" #[] 0)})
   rfl g2 (by omega) (λp' Yz s' a1 a2 a3 a4=>⟨p',a2,a3,a4⟩) (Hq (n:=vs.length) (lt:=lt) (λi j C hi hj hC=>XU _ i j C keep hi hj hC) _ (Um g2 h3) ⟨by unfold uo;rw[dq (by omega)],Z'⟩)) ?_ λ_ _ e=>e)
  rintro ⟨⟨⟩,Yz⟩ s' ⟨p,har,hf,hp,rfl⟩
  dsimp only;have hout:=kat_snds Z' har;rw[hp]at hout;refine de (lZ ho6 Z' ?_);rw[hout];refine de (kT ho6 Z' ?_ (eQ _) (by rw[dE,c9,(yx h3).1];omega));rw[hf];simp only[lV,iJ,jn];exact dz h
def VV(a b:Str×Int):Bool:=if a.1==b.1 then(if a.2==b.2 then lf else decide (a.2<b.2))else decide (a.1.cps.toList<b.1.cps.toList)
def QO{x y:Uf}{ox oy:Obj}{n k:Nat}{a b:Str×Int}{t1 t2 t3 t4:Tok}{C:Bool->Sd->Prop}(hx:s.heap.get? x=Fa ox)(dx:ox.data=.seq #[.str a.1 t1,.int a.2 t2] n)(hy:s.heap.get? y=Fa oy)(dy:oy.data=.seq #[.str b.1 t3,.int b.2 t4] k)(h:C (VV a b) s):
  Ch (Tk prog w) A (keyLt' (tuples' pc) (.ref x) (.ref y)) C E s:=by
 refine kat_lt hx dx hy dy ?_;show KatLex prog w A pc _ C [(Value.str a.1 t1,Value.str b.1 t3),(Value.int a.2 t2,Value.int b.2 t4)] 0 s;unfold VV at h;refine kat_cons (eqBool_str ?_);cases e:a.1==b.1 with
 | true=>
  rw[e,dw Z']at h;refine kat_yes (kat_cons (l8 ?_));cases e2:a.2==b.2 with
  | true=>rw[e2,dw Z']at h;exact kat_yes (kat_nil h)
  | false=>rw[e2,dq dF]at h;exact kat_no (kat_one _ _ (PyProof.Rows.lt_int h))
 | false=>rw[e,dq dF]at h;exact kat_no (oneLt_str h)
def DQ{x:Str}(h:Dc (.inr x) v=pc):∃t,v=.str x t:=by
 rcases sG h with⟨i,t,e,_⟩|⟨y,t,e,e2⟩
 .cases e
 .cases e;exact⟨t,e2⟩
def F6(ps:T0 (Str×Int))(i j:Nat):Bool:=VV (ps.getD i ("",0)) (ps.getD j ("",0))
def tY(ps:T0 (Str×Int)):T0 (Str×Int):=(uo (F6 ps) ps.length).map λi=>ps.getD i ("",0)
def Ec{ps:T0 (Str×Int)}(h:ps.length<=3):(tY ps).length=ps.length:=by unfold tY;rw[c9];exact(yx h).1
def Pr(h:No)(a:Uf)(p:Str×Int):Prop:=AU λt1 t2=>h.get? a=Fa {cls:=.type "tuple",data:=.seq #[.str p.1 t1,.int p.2 t2]}
def Pr.inj{p q:Str×Int}(x:Pr h a p)(y:Pr h a q):p=q:=by obtain⟨t1,t2,e1⟩:=x;obtain⟨u1,u2,e2⟩:=y;rw[e1]at e2;have:=dB e2;simp only[Obj.mk.injEq,Data.seq.injEq,Array.mk.injEq,List.cons.injEq,Value.str.injEq,Value.int.injEq]at this;exact mR (by simp_all) (by simp_all)
theorem JG:∀(as:QXQ) (ps:T0 (Str×Int)),as.length=ps.length->(∀(j:Nat) (a:Uf) (p:Str×Int),as[j]?=Fa a->ps[j]?=Fa p->Pr h a p)->∃fs,KatTups h (as.map Value.ref) fs/\fs.length=as.length/\∀v∈fs,∃x t,v=Value.str x t
 | [],[],_,_=>⟨[],.nil,Z',λv hv=>nomatch hv⟩
 | [],_::_,e,_=>by cases e
 | _::_,[],e,_=>by cases e
 | a::as,p::ps,e,hp=>by
  obtain⟨fs,h1,h2,h3⟩:=JG as ps (by simpa using e) λj a' p' e1 e2=>hp (j+1) a' p' (by simpa using e1) (by simpa using e2);obtain⟨t1,t2,ea⟩:=hp 0 a p Z' Z';refine⟨.str p.1 t1::fs,.cons ea Z' Z' Z' h1,by simp[h2],λv hv=>?_⟩;rcases dA.mp hv with z|z
  .exact⟨_,_,z⟩
  .exact h3 v z
def HG{r d:Uf}{kvs:T0 (rH×Vl)}{ep:Nat}{ps:T0 (Str×Int)}{Q:QQX}(hh:A.handled=Db)(hv:s.heap.IsItemsView r d)(hm:s.heap.DictAt (rQ prog w) d kvs ep)(h3:ps.length<=3) (hp:kvs.length=ps.length) (hps:∀(j:Nat) (k:rH) (x:Vl),kvs[j]?=Fa (k,x)->∃p t,ps[j]?=Fa p/\k=Sum.inr p.1/\x=.int p.2 t) (h:∀(h':No) (tk:Nat) (S:Uf) (ws:QXQ) (e:Nat),(∀b o,s.heap.get? b=Fa o->h'.get? b=Fa o)->r<S->h'.get? S=Fa (sK "list" (ws.map Value.ref).toArray e)->ws.length=ps.length->
    (∀(j:Nat) (a:Uf) (p:Str×Int),ws[j]?=Fa a->(tY ps)[j]?=Fa p->r<a/\a≠S/\Pr h' a p)->Q (.ref S) {s with heap:=h',toks:=tk}):
  Ch (Tk prog w) A (call (.builtin "sorted") [.ref r]) Q E s:=by
 have hz:=dR;have hr:r<s.heap.objs.size:=by obtain⟨o,ho,_⟩:=hv;exact dD ho
 refine Calls.call_function_entry kind_sorted plain_sorted entry_sorted (args_sorted1 _) ?_;unfold Builtin.«sorted»;refine de (m:=checkCount "sorted" 1 1 _) (dz ?_);refine de (kdx_collect (A:=A.in1) hh hv hm (by omega) λh1 tk as hk hl hG=>?_);refine de (wpAny_newList ?_ (by rw[c9];omega));have hl':as.length=ps.length:=by omega
 have pr:∀(j:Nat) (a:Uf) (p:Str×Int),as[j]?=Fa a->ps[j]?=Fa p->Pr h1 a p:=λj a p e1 e2=>by obtain⟨key,k,x,f1,f2,f3⟩:=hG.pairs j a e1;obtain⟨p',t,g1,g2,g3⟩:=hps j k x f1;rw[e2]at g1;cases g1;subst g2 g3;obtain⟨t',rfl⟩:=DQ f2;exact⟨t',t,f3⟩
 have hoL:(h1.push (sK "list" (as.map Value.ref).toArray 0)).get? h1.objs.size=Fa (sK "list" (as.map Value.ref).toArray 0):=dP _ Z';have pr2:∀h',(∀b o,b≠h1.objs.size->(h1.push (sK "list" (as.map Value.ref).toArray 0)).get? b=Fa o->h'.get? b=Fa o)->∀(j:Nat) (a:Uf) (p:Str×Int),as[j]?=Fa a->ps[j]?=Fa p->Pr h' a p:=λh' kp j a p e1 e2=>by obtain⟨t1,t2,e3⟩:=pr j a p e1 e2;exact⟨t1,t2,kp _ _ (dN (dD e3)) (dv _ e3)⟩
 have gd:∀i,i<as.length->∃a p,as[i]?=Fa a/\ps[i]?=Fa p/\(as.map Value.ref).getD i Value.none=.ref a/\ps.getD i ("",0)=p:=λi hi=>by
  have YD:i<ps.length:=by omega
  refine⟨as[i],ps[i],df hi,df YD,?_,?_⟩
  .simp[hi]
  .simp[YD]
 have hll:(as.map Value.ref).length=ps.length:=by rw[c9];exact hl'
 show Ch _ _ _ _ _ {s with heap:=h1.push (sK "list" (as.map Value.ref).toArray 0),toks:=tk};refine de (eJ (gf slot_list_sort ⟨_,hoL,Z'⟩ entry_list_sort (Dn (κ:=tuples' pc) (lt:=F6 ps) (s:={s with heap:=h1.push (sK "list" (as.map Value.ref).toArray 0),toks:=tk}) hoL (by rw[hll];exact h3) (λh' Q' X3 kp hq=>?_) (λh' i j C kp hi hj hC=>?_) ⟨_,Z',?_⟩) (args_list_sort _)))
 .obtain⟨fs,k1,k2,k3⟩:=JG as ps hl' (pr2 h' kp);refine kat_kind (T:=Value.type "str") k1 (by rw[k2];rw[c9]at X3;exact X3) (λv hv=>?_) (by decide) hq;obtain⟨x,t,rfl⟩:=k3 v hv;exact Looks.now
 .rw[c9]at hi hj;obtain⟨a,p,a1,a2,a3,a4⟩:=gd i hi;obtain⟨b,q,b1,b2,b3,b4⟩:=gd j hj;rw[a3,b3];obtain⟨t1,t2,e1⟩:=pr2 h' kp i a p a1 a2;obtain⟨t3,t4,e2⟩:=pr2 h' kp j b q b1 b2;refine QO (s:={s with heap:=h',toks:=tk}) e1 Z' e2 Z' ?_;show C (VV p q) _;rw[<-a4,<-b4];exact hC
 .obtain⟨e,he⟩:=sortedHeap_at (h:=h1.push (sK "list" (as.map Value.ref).toArray 0)) (a:=h1.objs.size) (vs:=as.map Value.ref) (out:=List.toArray ((uo (F6 ps) (as.map Value.ref).length).map λi=>(as.map Value.ref).getD i Value.none)) hoL;have Yh:∀b o,h1.get? b=Fa o->(sortedHeap (h1.push (sK "list" (as.map Value.ref).toArray 0)) h1.objs.size (as.map Value.ref) (List.toArray ((uo (F6 ps) (as.map Value.ref).length).map λi=>(as.map Value.ref).getD i Value.none))).get? b=Fa o:=λb o q=>by have hb:=dD q;rw[sortedHeap_old (dN hb) (by rw[mH];exact gh hb)];exact dv _ q
  have ix:=yx (lt:=F6 ps) h3;have eo:((uo (F6 ps) (as.map Value.ref).length).map λi=>(as.map Value.ref).getD i Value.none)=((uo (F6 ps) ps.length).map λi=>as.getD i 0).map Value.ref:=by
   rw[hll,eA];refine gG λi hi=>?_;have:=ix.2 i hi;have Zl:i<as.length:=by omega
   simp[Zl]
  refine dz ⟨_,Z',h _ tk h1.objs.size ((uo (F6 ps) ps.length).map λi=>as.getD i 0) e (λb o q=>Yh b o (hk b o q)) ?_ ?_ ?_ λj a p e1 e2=>?_⟩
  .obtain⟨o,ho,_⟩:=hv;exact dD (hk _ _ ho)
  .rw[he,eo]
  .rw[c9];exact ix.1
  .unfold tY at e2;rw[dJ]at e1 e2;cases ei:(uo (F6 ps) ps.length)[j]? with
   | none=>rw[ei]at e1;cases e1
   | some i=>
    rw[ei]at e1 e2;have hi:=ix.2 i (fA ei);obtain⟨a',p',a1,a2,a3,a4⟩:=gd i (by omega);have ea:a=a':=by have:as.getD i 0=a:=dB e1;rw[<-this];simp[gv,a1]
    have ep:p=p':=by have:ps.getD i ("",0)=p:=dB e2;rw[<-this,a4]
    subst ea ep;have P1:=pr i a p a1 a2;obtain⟨t1,t2,e3⟩:=P1;exact⟨iD hr (hG.above a (fA a1)),dN (dD e3),t1,t2,Yh _ _ e3⟩
def Inv.many{XF:QQY}{H H':Hp}{h':No}{t':Nat}(I:Inv X XF Y H s)(k:∀b o,s.heap.get? b=Fa o->h'.get? b=Fa o)(hs:∀b,b<s.heap.objs.size->H' b=H b) (new:∀b o,s.heap.objs.size<=b->H' b=Fa o->sF X.prog X.w H' h' b o):Inv X XF Y H' {s with heap:=h',toks:=t'}:=by
 have sm:∀b o,H b=Fa o->H' b=Fa o:=λb o e=>by rw[hs b (I.nB.lt e)];exact e
 refine I.step (g':=s.gens) (d':=s.drawn) (ch:=[]) (λb hb=>nomatch hb) (λb o _ _ _ e _=>k b o e) (λb o _ _ _ e _=>⟨o.slots,k b o e⟩) (λb o _ e n=>by rw[hs b (dD e)];exact n)
  (λb o _ e=>⟨o,k b o e⟩) (λb xs e=>sm b _ e) (λb o u e=>sm b _ e) (λb ps e=>⟨#[],by rw[sm b _ e];simp⟩) (λm hm=>?_) (λb u e=>?_) I.bare
 .obtain⟨o,es,ep,ho,r⟩:=hm;exact⟨o,es,ep,k _ o ho,r⟩
 .by_cases hb:b<s.heap.objs.size
  .rw[hs b hb]at e;exact(I.nB b u e).nR (λc v _ q=>k c v q) (λc q=>sm c _ q) λc xs q=>sm c _ q
  .exact new b u (jU hb) e
def TX(te:TE):TE:=λY H Q=>te Y H λv H1=>∃a kvs ps,v=.ref a/\H1 a=Fa (.dK kvs)/\kvs=(ps:T0 (Str×Int)).map (λp=>((Sum.inr p.1:rH),V.int p.2))/\ps.length<=3/\
 ∀(S:Uf) (H2:Hp) (ws:QXQ),H1 S=Db->(∀b o,H1 b=Fa o->H2 b=Fa o)->H2 S=Fa (.lst (ws.map V.ref))->ws.length=ps.length->(∀(j:Nat) (a:Uf) (p:Str×Int),ws[j]?=Fa a->(tY ps)[j]?=Fa p->H2 a=Fa (.tup [.str p.1,.int p.2]))->
  (∀b o,H1 b=Db->H2 b=Fa o->b=S\/∃p:Str×Int,o=.tup [.str p.1,.int p.2])->Q (.ref S) H2
def D9:zn "sorted"=Fa (.builtin "sorted"):=by decide+kernel
theorem J':∀{ps:T0 (Str×Int)} {vs:T0 (rH×Vl)},KV (ps.map (λp=>((Sum.inr p.1:rH),V.int p.2))) vs->vs.length=ps.length/\∀(j:Nat) (k:rH) (x:Vl),vs[j]?=Fa (k,x)->∃p t,ps[j]?=Fa p/\k=Sum.inr p.1/\x=.int p.2 t
 | [],_,.nil=>⟨Z',λj k x e=>by simp at e⟩
 | p::ps,_,.cons r rs=>by
  obtain⟨h1,h2⟩:=J' rs;refine⟨by simp[h1],λj k x e=>?_⟩;cases j with
  | zero=>have e:=dB e;obtain⟨r1,t,r2⟩:=r;subst e;exact⟨p,t,Z',r1.symm,r2⟩
  | succ j=>exact h2 j k x e
def EL{X:Cx}{te:TE}{p pos XI XO:Pos}(hc:X.calm=pc)(he:PE X o te)(hg:Gl X "sorted")(hm:X.mg "sorted"=Db) (XX:Ps o "items" X.env (wp o X.env)=wp o X.env:=by rfl) (X8:(XI.endLine==XO.line)=pc:=by rfl):
  PE X (.Call (.Name "sorted" p) [.Call (.Attribute o "items" XI) [] [] XO] [] pos) (TX te):=by
 intro XF s Y H Q I h;refine gc (vP I hg hm D9 ?_);refine hZ ?_ Z' Z';show Ch _ _ (spliced ((lf,wp (.Call (.Attribute o "items" XI) [] [] XO) X.env)::sB pos (Tl [] X.env))) _ _ s;refine hW ?_;refine wpAny_Call_method0_late XX X8 (sX (he XF s Y H _ I h) λv s1 zz=>?_);obtain⟨x,H1,I1,r1,a,kvs,ps,ex,ea,ek,h3,q⟩:=zz;subst ex;obtain rfl:v=Value.ref a:=r1;obtain⟨h1,h2⟩:=NO (T:="dict") (x:=.ref a) I1 Z' (.inr (.inr (.inl ⟨Z',.inl ⟨_,ea⟩⟩)));refine⟨"dict","dict.items",PySem.F.plainAttrs_dict,j7,PySem.F.type_dict_items,h1,h2,kt Z' (PySem.evalArgs_none ?_)⟩;obtain⟨hz,hS,vs,rk,hD⟩:=I1.nB a _ ea;refine call_meetsIn j7 h1 PySem.F.entry_dict_items (PySem.F.args_dict_items_1 _) (meets_dict_items (rQ X.prog X.w) a hS) ⟨⟨vs,hD⟩,?_⟩;refine ii ?_;obtain⟨ep,ZX⟩:=hD.dictAt;subst ek;obtain⟨g1,g2⟩:=J' rk;refine HG (ps:=ps) (s:={s1 with heap:=s1.heap.push {cls:=.type "dict_items",data:=.fields #[.ref a]}}) (I1.ok.hd hc) ⟨_,dP _ Z',Z',Z'⟩ (ZX.push _) h3 g1 g2 λh' tk S ws e k hrS Zw hl hw=>?_;have k':∀b o,s1.heap.get? b=Fa o->h'.get? b=Fa o:=λb o z=>k b o (dv _ z);have ZH:(tY ps).length=ws.length:=by rw[Ec h3,hl]
 let H2:Hp:=λb=>if b=S then Fa (.lst (ws.map V.ref))else match (ws.zip (tY ps)).lookup b with
  | some p=>Fa (.tup [.str p.1,.int p.2])
  | none=>H1 b
 have at1:∀b p,(ws.zip (tY ps)).lookup b=Fa p->s1.heap.objs.size<b/\b≠S/\Pr h' b p:=λb p z=>by
  have:(b,p)∈ws.zip (tY ps):=by
   have go:∀l:T0 (Uf×(Str×Int)),l.lookup b=Fa p->(b,p)∈l:=λl=>by
    induction l with
    | nil=>intro z;cases z
    | cons c r ih=>
     intro z;rw[eN]at z;cases q:b==c.1 with
     | true=>
      rw[q]at z;have hb:b=c.1:=by simpa using q
      have:c=(b,p):=mR hb.symm (dB z);rw[this];exact dO
     | false=>rw[q]at z;exact dM _ (ih z)
   exact go _ z
  obtain⟨j,hj⟩:=List.mem_iff_getElem?.mp this;obtain⟨e1,e2⟩:=iB.mp hj;exact hw j b p e1 e2
 have lowS:s1.heap.objs.size<S:=hrS;have low:∀b,b<s1.heap.objs.size->H2 b=H1 b:=λb hb=>by
  show(if b=S then _ else _)=_;rw[dq (dN (iD hb lowS))];cases z:(ws.zip (tY ps)).lookup b with
  | none=>rfl
  | some p=>exact absurd (at1 b p z).1 (Nat.not_lt_of_lt hb)
 have eS:H2 S=Fa (.lst (ws.map V.ref)):=dw Z';have fr:∀b,s1.heap.objs.size<=b->H1 b=Db:=λb hb=>I1.nB.fresh hb;have tupAt:∀(j:Nat) (b:Uf) (p:Str×Int),ws[j]?=Fa b->(tY ps)[j]?=Fa p->H2 b=Fa (.tup [.str p.1,.int p.2]):=λj b p e1 e2=>by
  obtain⟨_,n2,n3⟩:=hw j b p e1 e2;show(if b=S then _ else _)=_;rw[dq n2];have mem:(b,p)∈ws.zip (tY ps):=fA (iB.mpr ⟨e1,e2⟩);cases z:(ws.zip (tY ps)).lookup b with
  | none=>
   have go:∀l:T0 (Uf×(Str×Int)),(b,p)∈l->l.lookup b≠Db:=λl=>by
    induction l with
    | nil=>intro z;cases z
    | cons c r ih=>
     intro z;rw[eN];cases q:b==c.1 with
     | true=>simp
     | false=>
      rcases dA.mp z with y|y
      .rw[<-y]at q;simp at q
      .exact ih y
   exact absurd z (go _ mem)
  | some p'=>rw[(at1 b p' z).2.2.inj n3]
 have newOk:∀b u,s1.heap.objs.size<=b->H2 b=Fa u->sF X.prog X.w H2 h' b u/\(b=S\/∃p:Str×Int,u=.tup [.str p.1,.int p.2]):=λb u hb z=>by
  by_cases eb:b=S
  .subst eb;rw[eS]at z;cases z;refine⟨⟨by rw[c9,hl,dR];omega,ws.map Value.ref,e,?_,Zw⟩,.inl Z'⟩;have go:∀l:QXQ,qO (l.map V.ref) (l.map Value.ref):=λl=>by
    induction l with
    | nil=>exact .nil
    | cons c r ih=>exact .cons Z' ih
   exact go ws
  .have z':(match (ws.zip (tY ps)).lookup b with|some p=>Fa (HO.tup [.str p.1,.int p.2])|none=>H1 b)=Fa u:=by have:H2 b=_:=dq eb;rw[this]at z;exact z
   cases y:(ws.zip (tY ps)).lookup b with
   | none=>rw[y,fr b hb]at z';cases z'
   | some p=>rw[y]at z';cases z';obtain⟨_,_,t1,t2,e3⟩:=at1 b p y;exact⟨⟨by show 2<=pi;rw[dR];decide,[.str p.1 t1,.int p.2 t2],.cons ⟨_,Z'⟩ (.cons ⟨_,Z'⟩ .nil),⟨_,e3,Z',⟨_,Z'⟩,Z'⟩⟩,.inr ⟨p,Z'⟩⟩
 refine⟨.ref S,H2,I1.many (t':=tk) k' low λb u hb z=>(newOk b u hb z).1,Z',q S H2 ws (fr S (jP lowS)) (λb u z=>by rw[low b (I1.nB.lt z)];exact z) eS hl tupAt λb u z1 z2=>?_⟩;by_cases hb:b<s1.heap.objs.size
 .rw[low b hb,z1]at z2;cases z2
 .exact(newOk b u (jU hb) z2).2
end L2
namespace L3
open L2
def AM(p:Str×Int):D:=.tup [.str p.1,.int p.2]
def Su(ta:T3):T3:=λU M Q=>ta U M λx M1=>match x with
 | .ref a=>∃ps:T0 (Str×Int),zU M1 a=Fa (ps.map λp=>((Sum.inr p.1:rH),D.int p.2))/\ps.length<=3/\∀S,M1 S=Db->Q (.ref S) (pX M1 S (.lst ((tY ps).map AM)))
 | _=>False
theorem Df{K:qL}:∀{ps:T0 (Str×Int)} {vs:T0 (rH×V)},vs.map (·.1)=(ps.map λp=>((Sum.inr p.1:rH),D.int p.2)).map (·.1)->qF K H ((ps.map λp=>((Sum.inr p.1:rH),D.int p.2)).map (·.2)) (vs.map (·.2))->vs=ps.map (λp=>((Sum.inr p.1:rH),V.int p.2))
 | [],[],_,_=>rfl
 | [],_::_,e,_=>by cases e
 | _::_,[],e,_=>by cases e
 | p::ps,(k,v)::vs,e,h=>by obtain⟨x,r,e2,h1,h2⟩:=h.inv;obtain⟨e3,e4⟩:=gB e2;obtain⟨f1,f2⟩:=gB e;subst e3 e4;have hk:k=Sum.inr p.1:=f1;have hv:v=V.int p.2:=sr.int_inv h1;rw[Df f2 h2,hk,hv];rfl
def FD{X:Cx}{p pos XI XO:Pos}(hc:X.calm=pc)(he:E3 X o ta)(hg:Gl X "sorted")(hm:X.mg "sorted"=Db) (XX:Ps o "items" X.env (wp o X.env)=wp o X.env:=by rfl) (X8:(XI.endLine==XO.line)=pc:=by rfl):
  E3 X (.Call (.Name "sorted" p) [.Call (.Attribute o "items" XI) [] [] XO] [] pos) (Su ta):=PE.mono (EL hc he hg hm XX X8) λY H Q' zz=>x7 zz λU M Q hs hm ht k=>
 ⟨U,M,_,hs,hm,ht,λv H1 d M1 hd XH e1 q1=>by
  cases d with
  | ref a=>
   cases hd.ni;obtain⟨ps,f1,f2,q⟩:=q1;obtain⟨vs,h1,h2,h3⟩:=zZ XH f1;refine⟨a,vs,ps,Z',h1,Df h2 h3,f2,λS H2 ws n1 kp eS hl hw hn=>?_⟩;have ex:rg X.K H1 H2:=⟨λb xs z=>by
    rcases z with(z|⟨u,z⟩)|z
    .exact .inl (.inl (kp _ _ z))
    .exact .inl (.inr ⟨u,kp _ _ z⟩)
    .exact .inr z,λb u xs z=>kp _ _ z⟩
   have hl2:(tY ps).length=ws.length:=by rw[Ec f2,hl]
   have hasW:∀(l:T0 (Str×Int)) (us:QXQ),l.length=us.length->(∀(j:Nat) (a:Uf) (p:Str×Int),us[j]?=Fa a->l[j]?=Fa p->H2 a=Fa (.tup [.str p.1,.int p.2]))->qF X.K H2 (l.map AM) (us.map V.ref):=λl=>by
    induction l with
    | nil=>intro us e _;cases us with
     | nil=>exact .nil
     | cons _ _=>cases e
    | cons c r ih=>intro us e hu;cases us with
     | nil=>cases e
     | cons b us=>exact .cons (.tup (.of (hu 0 b c Z' Z')) (.cons .str (.cons .int .nil))) (ih us (by simpa using e) λj a p e1 e2=>hu (j+1) a p e1 e2)
   refine k _ _ _ _ .ref (λb c z=>?_) (e1.trans ex) (q S (XH.fresh n1));by_cases eb:b=S
   .subst eb;rw[qp]at z;cases z;exact⟨_,eS,hasW _ _ hl2 hw⟩
   .rw[uF eb]at z;have ok:=XH b c z;obtain⟨u,eu,_⟩:=ok.there;exact ok.keep ex (by rw[eu,kp _ _ eu])
  | _=>exact q1.elim⟩
variable {X:Cx}{pos:Pos}{a b o i:Go}{ta tb ti to:T3}
def Vj(to ti:T3):DR:=λd U M Q=>to U M λx M1=>ti U M1 λy M2=>match x,y with
 | .ref p,.int k=>(pI M2 p).elim False λes=>(G7 es.length k).elim False λj=>Q U (pX M2 p (.lst (es.set j d)))
 | _,_=>False
theorem qF.set{K:qL}(hv:sr K H d v):∀{ds:T0 D} {xs:T0 V} (j:Nat),qF K H ds xs->qF K H (ds.set j d) (xs.set j v)
 | [],_,j,h=>by rw[h.nil_inv];simp only[List.set_nil];exact .nil
 | e::ds,_,0,h=>by obtain⟨x,r,rfl,h1,h2⟩:=h.inv;exact .cons hv h2
 | e::ds,_,j+1,h=>by obtain⟨x,r,rfl,h1,h2⟩:=h.inv;exact .cons h1 (qF.set hv j h2)
def Sy(ho:E3 X o to)(hi:E3 X i ti) (ha:∀v,assign (.Subscript o i pos) X.env v=(do
   let ov<-TD [v] (wp o X.env);let iv<-TD [v,ov] (wp i X.env)
   XXd pos
   TD [v,ov,iv] (setItem ov iv v)
   release [v,ov,iv] []):=by intro _;rfl):G3 X (.Subscript o i pos) (Vj to ti):=
 PG.mono (Si ho hi MT ha) λv Y H Q' ⟨d,U,M,Q,hd,hs,hm,ht,k⟩=>
 ⟨U,M,_,hs,hm,ht,λvx H1 x M1 hx XH e1 q1=>⟨U,M1,_,hs.mono e1,XH,q1,λvy H2 y M2 hy X1 e2 q2=>by
  cases x with
  | ref p=>
   cases y with
   | int j0=>obtain⟨es,f1,q2⟩:=rC q2;obtain⟨j,f2,q2⟩:=rC q2;cases(hx.mono e2).ni;cases hy.int_inv;obtain⟨xs,h1,h2⟩:=Fz X1 f1;refine⟨p,xs,j0,j,Z',Z',h1,by rw[<-h2.length];exact f2,?_⟩;have hd2:=hd.mono (e1.trans e2);obtain⟨YF,e3⟩:=X1.put (o:=.lst (xs.set j v)) (c:=.lst (es.set j d)) (qM f1) λex=>⟨_,qB,(h2.mono ex).set (hd2.mono ex) j⟩;exact k Y _ U _ (hs.mono (e1.trans (e2.trans e3))) YF (e1.trans (e2.trans e3)) Z' q2
   | _=>exact q2.elim
  | _=>exact q2.elim⟩⟩
end L3
namespace L2
variable {prog:Pg}{w:Wo}{A:Ar}{E:QQX}{s:Sd}{X:Cx}
end L2
namespace L3
open L2
variable {X:Cx}{pos XI p:Pos}{a b o e i value:Go}{es:T0 Go}{ta tb ti to tv td tk:T3}{t:xP}
def Sh(x y:D)(M:Mp)(Q:DK):Prop:=match x,y with
 | .ref a,.int k=>(pI M a).elim False λes=>(0<=k/\k<=1000/\es.length<=1000)/\∀p,M p=Db->Q (.ref p) (pX M p (.lst (List.replicate k.toNat es).flatten))
 | _,_=>False
theorem Jj{K:qL}(h:qF K H ds xs):∀n:Nat,qF K H (List.replicate n ds).flatten (List.replicate n xs).flatten
 | 0=>.nil
 | n+1=>by rw[eO,eO,fX,fX];exact h.append (Jj h n)
def S8:xY X (wP .Mult) (R3 X.K Sh):=λXF s Y H vx vy v u Q' I rx ry h=>by
 obtain⟨x,y,M,Q,hx,hy,hm,q,k⟩:=h;unfold Sh at q;split at q
 .obtain⟨es,e1,⟨q1,q2,q3⟩,q⟩:=rC q;cases hx.ni;cases hy.int_inv;obtain⟨xs,h1,h2⟩:=Fz hm e1;have hz:=dR;have hl:=h2.length;refine SG XF s Y H _ _ v u Q' I rx ry ⟨_,_,xs,Z',Z',h1,by omega,by omega,?_,λpp hp=>?_⟩
  .exact eD (kC (show xs.length<=1000 by omega) (show Int.toNat _<=1000 by omega)) (by rw[hz];decide)
  .exact k _ _ _ _ .ref (hm.new (c:=.lst _) hp ⟨_,qB,(Jj h2 _).mono (.new hp)⟩) (.new hp) (q pp (hm.fresh hp))
 .exact q.elim
def UP(ta tb:T3):T3:=λU M Q=>ta U M λx M1=>tb U M1 λy M2=>Sh x y M2 Q
def CJ(ha:E3 X a ta)(hb:E3 X b tb):E3 X (.BinOp a .Mult b pos) (UP ta tb):=PE.mono (Rx S8 ha hb) Ij
def Cj(kvs:T0 (rH×D))(k:rH)(v:D):T0 (rH×D):=if (kvs.any λkv=>decide (kv.1=k))=pc then kvs.map (λkv=>if kv.1=k then(kv.1,v)else kv)else kvs++[(k,v)]
theorem Hj{κ α β:Type}{k:κ}[DecidableEq κ]:∀{xs:T0 (κ×α)} {ys:T0 (κ×β)},xs.map (·.1)=ys.map (·.1)->(xs.any λkv=>decide (kv.1=k))=ys.any λkv=>decide (kv.1=k)
 | [],[],_=>rfl
 | [],_::_,e=>by cases e
 | _::_,[],e=>by cases e
 | x::xs,y::ys,e=>by obtain⟨e1,e2⟩:=gB e;rw[fU,fU,Hj e2];have e1:x.1=y.1:=e1;rw[e1]
def LB{K:qL}{k:rH}(hv:sr K H d v){kvs:T0 (rH×D)}{vs:T0 (rH×V)}(h1:vs.map (·.1)=kvs.map (·.1))(h2:qF K H (kvs.map (·.2)) (vs.map (·.2))):
  (zg vs k v).map (·.1)=(Cj kvs k d).map (·.1)/\qF K H ((Cj kvs k d).map (·.2)) ((zg vs k v).map (·.2)):=by
 have go:∀{kvs:T0 (rH×D)} {vs:T0 (rH×V)},vs.map (·.1)=kvs.map (·.1)->qF K H (kvs.map (·.2)) (vs.map (·.2))->
   (vs.map (λkv=>if kv.1=k then(kv.1,v)else kv)).map (·.1)=(kvs.map (λkv=>if kv.1=k then(kv.1,d)else kv)).map (·.1)/\qF K H ((kvs.map (λkv=>if kv.1=k then(kv.1,d)else kv)).map (·.2)) ((vs.map (λkv=>if kv.1=k then(kv.1,v)else kv)).map (·.2)):=λ{kvs}=>by
  induction kvs with
  | nil=>intro vs e h;cases vs with
   | nil=>exact⟨Z',.nil⟩
   | cons _ _=>cases e
  | cons c r ih=>intro vs e h;cases vs with
   | nil=>cases e
   | cons w ws=>
    obtain⟨e1,e2⟩:=gB e;obtain⟨x,xr,e3,g1,g2⟩:=h.inv;obtain⟨e4,e5⟩:=gB e3;subst e4 e5;obtain⟨i1,i2⟩:=ih e2 g2;have e1:w.1=c.1:=e1;by_cases hk:c.1=k
    .have w1:(if w.1=k then(w.1,v)else w)=(w.1,v):=dw (e1.trans hk);have w2:(if c.1=k then(c.1,d)else c)=(c.1,d):=dw hk;simp only[eh,w1,w2];exact⟨by rw[i1,e1],.cons hv i2⟩
    .have w1:(if w.1=k then(w.1,v)else w)=w:=dq λz=>hk (e1.symm.trans z);have w2:(if c.1=k then(c.1,d)else c)=c:=dq hk;simp only[eh,w1,w2];exact⟨by rw[i1,e1],.cons g1 i2⟩
 unfold zg Cj;rw[Hj (k:=k) h1];by_cases hk:(kvs.any λkv=>decide (kv.1=k))=pc
 .rw[dw hk,dw hk];exact go h1 h2
 .rw[dq hk,dq hk];exact⟨by rw[dY,dY,h1];rfl,by rw[dY,dY];exact h2.append (.cons hv .nil)⟩
def UM(td tk tv:T3):yl:=λD U M=>tv U M λv M1=>td U M1 λx M2=>tk U M2 λy M3=>match x,y with
 | .ref a,.str k=>(zU M3 a).elim False λkvs=>kvs.length<pi/\D.nx U (pX M3 a (.dk (Cj kvs (.inr k) v)))
 | _,_=>False
def zP{a:Uf}{kvs:T0 (rH×D)}(h:zU M a=Fa kvs):M a=Fa (.dk kvs):=by
 unfold zU at h;split at h
 .rename_i e;rw[e];cases h;rfl
 .cases h
def Pf(hu:X.A.units+9<XXa)(ho:E3 X o td)(hi:E3 X i tk)(hv:E3 X value tv)(hs:ZB value (Fa (.Subscript o i XQ)) pos.line X.env=pure lf:=by rfl):S3 X (.Assign [.Subscript o i XQ] value pos) (UM td tk tv):=
 PS.mono (Qk (by omega) ho hi hv hs) λD' Y H zz=>LF zz λU M D hs hm ht k1 k2 k3 k4=>
 ⟨U,M,_,hs,hm,ht,λv H1 d M1 hd XH e1 q1=>⟨U,M1,_,hs.mono e1,XH,q1,λvx H2 x M2 hx X1 e2 q2=>⟨U,M2,_,hs.mono (e1.trans e2),X1,q2,λvy H3 y M3 hy YF e3 q3=>by
  split at q3
  .rename_i a0 k0;obtain⟨kvs,f1,f2,q3⟩:=rC q3;cases(hx.mono e3).ni;cases hy.str_inv;obtain⟨vs,h1,h2,h3⟩:=zZ YF f1;have hl:vs.length=kvs.length:=by have:=eV List.length h2;simpa using this
   refine⟨_,_,Z',Nq.k (k:=Sum.inr k0) h1 (by omega),?_⟩;have hd3:=hd.mono (e2.trans e3);obtain⟨hm4,e4⟩:=YF.put (o:=.dK (zg vs (Sum.inr k0) v)) (c:=.dk (Cj kvs (.inr k0) d)) (zP f1) λex=>by obtain⟨g1,g2⟩:=LB (k:=Sum.inr k0) (hd3.mono ex) h2 (h3.mono ex);exact⟨_,qB,g1,g2⟩
   exact k1 Y _ U _ (hs.mono (e1.trans (e2.trans (e3.trans e4)))) hm4 (e1.trans (e2.trans (e3.trans e4))) Z' q3
  .exact q3.elim⟩⟩⟩
variable {XF:T0 (Uf × Obj)}{Y:St}{H:Hp}{s:Sd}{tp:Pos}{Ya:T0 Go}{n:Nat}
end L3
namespace L2
open Builtin Builtin.Str
variable {prog:Pg}{w:Wo}{A:Ar}{E:QQX}{s:Sd}{X:Cx}
end L2
namespace L3
open L2 Builtin Builtin.Str
variable {X:Cx}{pos XI:Pos}{o e:Go}{es:T0 Go}{ta:T3}{t:xP}
@[irreducible] def SsI (X:Cx) (st:T0 wE) (t:yl):Prop:=IA X st t
@[irreducible] def SI (X:Cx) (st:wE) (t:yl):Prop:=S3 X st t
@[irreducible] def EI (X:Cx) (e:Go) (t:T3):Prop:=E3 X e t
@[irreducible] def AI (X:Cx) (es:T0 Go) (t:xP):Prop:=A3 X es t
variable {prog:Pg}{w:Wo}{A:Ar}{E:QQX}{s:Sd}{XF:T0 (Uf × Obj)}{Y:St}{H:Hp}{p tp:Pos}{Ya:T0 Go}{n:Nat}
theorem vG{g:DR}{tt:AE}{te:T3}{ok:Mp->Prop}{Q:DK}(all:T0 D)(J:T0 D->T0 D->vH->Mp->Prop)(nB:∀p acc U M,J p acc U M->ok M):∀(ds pre acc:T0 D) (U:vH) (M:Mp),pre++ds=all->acc.length+ds.length<=pi->J pre acc U M->
  (∀pre d post,pre++d::post=all->∀acc U M,J pre acc U M->∀(k:vH->DK) (k2:vH->Mp->Prop),(∀δ2 y M4,J (pre++[d]) (acc++[y]) δ2 M4->k δ2 y M4)->(∀δ2 M3,J (pre++[d]) acc δ2 M3->k2 δ2 M3)->g d U M λδ2 M2=>tt δ2 M2 λb M3=>if b=pc then te δ2 M3 (k δ2)else k2 δ2 M3)->
  (∀acc U M,J all acc U M->∀p,M p=Db->Q (.ref p) (pX M p (.lst acc)))->vi g tt te ok Q ds acc U M
 | [],pre,acc,U,M,e,hl,j,_,hq=>⟨by simpa using hl,hq acc U M (by rw[<-e,e9];exact j)⟩
 | d::r,pre,acc,U,M,e,hl,j,ht,hq=>by rw[eE]at hl;refine⟨by omega,?_⟩;refine ht pre d r e acc U M j (λδ2 y M4=>ok M4/\vi g tt te ok Q r (acc++[y]) δ2 M4) (λδ2 M3=>ok M3/\vi g tt te ok Q r acc δ2 M3) (λδ2 y M4 j'=>⟨nB _ _ _ _ j',vG all J nB r (pre++[d]) (acc++[y]) δ2 M4 (by rw[<-e,fz];rfl) ?_ j' ht hq⟩) λδ2 M3 j'=>⟨nB _ _ _ _ j',vG all J nB r (pre++[d]) acc δ2 M3 (by rw[<-e,fz];rfl) (by omega) j' ht hq⟩;rw[dg,dX];omega
end L3
namespace L2
def Cx.oG(X:Cx)(E:QQX):Cx:={X with xe:=E}
def Inv.oG{E:QQX}{XF:QQY}(I:Inv X XF Y H s):Inv (X.oG E) XF Y H s:=
 ⟨⟨I.ok.mod,I.ok.kind,I.ok.glob,I.ok.blt,I.ok.above,I.ok.inj,I.ok.has,I.ok.pb,I.ok.hd,I.ok.frames,I.ok.pq,I.ok.pL,I.ok.bs,I.ok.oK,I.ok.oz,I.ok.oJ,I.ok.oa,I.ok.oR⟩,I.os,I.bare,I.base,I.loc,I.cell,I.free,I.nK,I.pin,I.nB,I.len⟩
def Inv.xeOf{X:Cx}{E:QQX}{XF:QQY}(I:Inv (X.oG E) XF Y H s):Inv X XF Y H s:=
 ⟨⟨I.ok.mod,I.ok.kind,I.ok.glob,I.ok.blt,I.ok.above,I.ok.inj,I.ok.has,I.ok.pb,I.ok.hd,I.ok.frames,I.ok.pq,I.ok.pL,I.ok.bs,I.ok.oK,I.ok.oz,I.ok.oJ,I.ok.oa,I.ok.oR⟩,I.os,I.bare,I.base,I.loc,I.cell,I.free,I.nK,I.pin,I.nB,I.len⟩
end L2
namespace L3
open L2
end L3
namespace L2
end L2
namespace L3
open L2
variable {X:Cx}{pos p tp kpos:Pos}{Ya:T0 Go}{n:Nat}
end L3
namespace L2
variable {prog:Pg}{w:Wo}{A:Ar}{E:QQX}{s:Sd}{a:Uf}{U:Type}{k:Str}{tk:Tok}
section
variable {R:U→Vl→Prop}{D:T0 (Str × U)}
end
end L2
namespace L3
open L2
variable {X:Cx}{pos p:Pos}{x:Str}{d:D}{e o i:Go}{ta tb td tk:T3}{F:T0 (Str × QQQ)}
end L3
namespace L2
def Ov(h:No)(e:Uf)(cls:Vl)(dx tb:Option Uf)(F:Vl):Prop:=
 ∃oe vs,h.get? e=Fa oe/\oe.cls=cls/\oe.dict=dx/\oe.data=.fields vs/\1<vs.size/\vs[1]?=Fa (tb.elim Value.none Value.ref)/\∀T,tb=Fa T->T≠e/\∃oT ts,h.get? T=Fa oT/\oT.data=.fields ts/\3<ts.size/\ts[3]?=Fa F
def Ph(h:No)(e:Uf)(cls:Vl)(dx tb:Option Uf):Prop:=Ov h e cls dx tb Value.none
theorem B1{h base:No}:∀{l:T0 Env} {b:Uf},h.FunFrames base l->b∈wI l->∃o,h.get? b=Fa o/\∀vs,o.data≠.fields vs
 | [],b,_,hb=>by cases hb
 | env::r,b,hF,hb=>by
  obtain⟨_,⟨L,o,hL,_,ho,hd⟩,hr⟩:=hF;have e:wI (env::r)=L::wI r:=by unfold wI;rw[gk,hL]
  rw[e]at hb;rcases dA.mp hb with z|z
  .rw[z];exact⟨o,ho,hd⟩
  .exact B1 hr z
def Ei{h base:No}{l:T0 Env}{b:Uf}{o:Obj}{vs:Array Vl}(hF:h.FunFrames base l)(ho:h.get? b=Fa o)(hd:o.data=.fields vs):b∉wI l:=λhb=>by obtain⟨o',Yo,hn⟩:=B1 hF hb;rw[ho]at Yo;cases Yo;exact hn vs hd
variable {M:Model}{A:Ar}{s:Sd}{base:No}{env:Env}{outer:T0 Env}{L e:Uf}{cls:Vl}{dx:Option Uf}{Q:Unit→Sd→Prop}
section
variable {E:QQX}
def Qt{Y4:Vl}{Z1:Bool}{oe:Obj}{vs:Array Vl}{Yq:Env}(hcf:Yq.frame=Fa L)(ZK:A.frames=Fa (env::outer))(hF:s.heap.FunFrames base (env::outer))(hL:env.frame=Fa L)(ho:s.heap.get? e=Fa oe)(hd:oe.data=.fields vs)(h1:1<vs.size) (k:∀(h':No) (T:Uf),s.heap.get? T=Db->(∀b o,s.heap.get? b=Fa o->b∉wI (env::outer)->b≠e->h'.get? b=Fa o)->(∀b o,s.heap.get? b=Fa o->b∈wI (env::outer)->∃sl,h'.get? b=Fa {o with slots:=sl})->
   (∃oe',h'.get? e=Fa oe'/\oe'.cls=oe.cls/\oe'.dict=oe.dict/\oe'.data=.fields (vs.setIfInBounds 1 (.ref T)))->(∃oT ts,h'.get? T=Fa oT/\oT.data=.fields ts/\3<ts.size/\ts[3]?=Fa (Y' ↑L))->Q () {s with heap:=h'}):
  Ch M A (do
   let a<-PySem.frameOf Yq;let pl<-entryPlaceOf L Z1;let b<-EntryCells.newEntry Y4 a Value.none (Y' ↑L) Value.none pl
   setField (Value.ref e) 1 b) Q E s:=by
 have ne:=Ei hF ho hd;unfold PySem.frameOf;refine de (de (wpAny_frameEnvs ZK (de ?_)));have ed:List.dropWhile (λx=>x.frame != Yq.frame) (env::outer)=env::outer:=by rw[List.dropWhile_cons,dq (by rw[hL,hcf];simp)]
 rw[ed];unfold frameObject;refine de (wpAny_readyFrames_fun hF λYs hs=>?_);obtain⟨z1,z2,z3⟩:=hs;rw[hL];refine dz (dz ?_);refine de (wpAny_entryPlaceOf λpl hp=>?_);refine de ?_;unfold EntryCells.newEntry newFields;have XN:([Y4,Value.ref L,Value.none,Y' ↑L,Value.none]++if pl.isEmpty=pc then List.replicate 6 Value.none else pl).length=11:=by rw[dg];rcases hp with rfl|⟨_,_,_,_,_,_,_,rfl⟩<;>rfl
 have hfl:([Y4,Value.ref L,Value.none,Y' ↑L,Value.none]++if pl.isEmpty=pc then List.replicate 6 Value.none else pl)[3]?=Fa (Y' ↑L):=rfl;generalize ([Y4,Value.ref L,Value.none,Y' ↑L,Value.none]++if pl.isEmpty=pc then List.replicate 6 Value.none else pl)=fs at XN hfl ⊢;refine gg ?_ (by
  show fs.toArray.size<=_;rw[dE,XN];decide)
 have e1:Ys.get? e=Fa oe:=by rw[z2 e ne];exact ho
 have e2:(Ys.push {cls:=.type "traceback",data:=.fields fs.toArray}).get? e=Fa oe:=dv _ e1;refine im e2 hd h1 ?_;have tn:s.heap.get? Ys.objs.size=Db:=gU (by rw[z1];exact dC _);have te:Ys.objs.size≠e:=λz=>by rw[z,ho]at tn;cases tn
 obtain⟨oc,od,odt,YE⟩:=oe;obtain rfl:odt=.fields vs:=hd;have up:∀b,e≠b->((Ys.push {cls:=.type "traceback",data:=.fields fs.toArray}).update e (Obj.mapFields λx=>x.setIfInBounds 1 (.ref Ys.objs.size))).get? b=(Ys.push {cls:=.type "traceback",data:=.fields fs.toArray}).get? b:=λb z=>gu _ _ z;refine k _ Ys.objs.size tn (λb o hb nf ne'=>?_) (λb o hb hf=>?_) ⟨_,fP _ e2 Z',Z',Z',Z'⟩ ⟨_,fs.toArray,(up _ (dW te)).trans (dP _ Z'),Z',by rw[dE,XN];decide,by rw[iV];exact hfl⟩
 .rw[up b (dW ne')];exact dv _ (by rw[z2 b nf];exact hb)
 .obtain⟨sl,q⟩:=z3 b o hb;refine⟨sl,?_⟩;rw[up b (λz=>ne (z ▸ hf))];exact dv _ q
def Tq{E₁:QQX}{tb:Option Uf}{F:Vl}{Yq:Env}(hcf:Yq.frame=Fa L)(ZK:A.frames=Fa (env::outer))(hF:s.heap.FunFrames base (env::outer))(hL:env.frame=Fa L)(hx:Ov s.heap e cls dx tb F)(hFL:(F==Y' ↑L)=lf) (k:∀(h':No) (T:Uf),s.heap.get? T=Db->(∀b o,s.heap.get? b=Fa o->b∉wI (env::outer)->b≠e->tb≠Fa b->h'.get? b=Fa o)->(∀b o,s.heap.get? b=Fa o->b∈wI (env::outer)->∃sl,h'.get? b=Fa {o with slots:=sl})->
   (∀b,h'.get? b=Db->s.heap.get? b=Db)->Ov h' e cls dx (Fa T) (Y' ↑L)->Q () {s with heap:=h'}):Ch M A (noteFrame (.ref e) Yq) Q E₁ s:=by
 obtain⟨oe,vs,ho,hc,ZA,hd,h1,hv,hT⟩:=hx;have ne:=Ei hF ho hd;unfold noteFrame;rw[hcf];refine de (fu ho hd hv ?_);have XJ:∀(s1:Sd) (oe1:Obj),s1.gens=s.gens->s1.drawn=s.drawn->s1.toks=s.toks->s1.os=s.os->s1.heap.FunFrames base (env::outer)->s1.heap.get? e=Fa oe1->oe1.cls=cls->oe1.dict=dx->oe1.data=.fields vs->(∀b o,s.heap.get? b=Fa o->b∉wI (env::outer)->b≠e->tb≠Fa b->s1.heap.get? b=Fa o)->
   (∀b o,s.heap.get? b=Fa o->b∈wI (env::outer)->s1.heap.get? b=Fa o)->(∀b,s1.heap.get? b=Db↔s.heap.get? b=Db)->∀(Y4:Vl) (Z1:Bool),Ch M A (do
   let a<-PySem.frameOf Yq;let pl<-entryPlaceOf L Z1;let b<-EntryCells.newEntry Y4 a Value.none (Y' ↑L) Value.none pl
   setField (Value.ref e) 1 b) Q E₁ s1:=by
  intro s1 oe1 g1 g2 g3 g4 hF1 ho1 hc1 hdx1 hd1 kb kf kn Y4 Z1;refine Qt hcf ZK hF1 hL ho1 hd1 h1 λh' T tn k1 k2 ⟨oe',he',hce,hdxe,hde⟩ ⟨oT,ts,YW,Zn,h3,h3v⟩=>?_;have te:T≠e:=λz=>by rw[z,ho1]at tn;cases tn
  have:=k h' T ((kn T).mp tn) (λb o hb nf nb nt=>k1 b o (kb b o hb nf nb nt) nf nb) (λb o hb hf=>k2 b o (kf b o hb hf) hf) (λb hb=>?_) ⟨oe',vs.setIfInBounds 1 (.ref T),he',hce.trans hc1,hdxe.trans hdx1,hde,by rw[jY];exact h1,by rw[iz h1];rfl,λT' eT=>?_⟩
  .show Q () {heap:=_,gens:=s1.gens,drawn:=s1.drawn,toks:=s1.toks,os:=s1.os};rw[g1,g2,g3,g4];exact this
  .refine(kn b).mp ?_;cases q:s1.heap.get? b with
   | none=>rfl
   | some o=>
    by_cases z:b=e
    .rw[z,he']at hb;cases hb
    .by_cases zf:b∈wI (env::outer)
     .obtain⟨sl,q2⟩:=k2 b o q zf;rw[q2]at hb;cases hb
     .rw[k1 b o q zf z]at hb;cases hb
  .cases eT;exact⟨te,oT,ts,YW,Zn,h3,h3v⟩
 cases tb with
 | none=>rw[dq (show ¬((Db:Option Uf).elim Value.none Value.ref != Value.none)=pc by decide+kernel)];exact XJ s oe Z' Z' Z' Z' hF ho hc ZA hd (λb o hb _ _ _=>hb) (λb o hb _=>hb) (λb=>.rfl) _ _
 | some T=>
  obtain⟨nTe,oT,ts,YW,Zn,h3,hn⟩:=hT T Z';rw[dw (show((Fa T:Option Uf).elim Value.none Value.ref != Value.none)=pc by rfl)];refine de (fu YW Zn hn ?_);rw[dq (by rw[hFL];exact dF)];refine de (im YW Zn h3 ?_);have up:∀b,T≠b->(s.heap.update T (Obj.mapFields λx=>x.setIfInBounds 3 .none)).get? b=s.heap.get? b:=λb z=>gu _ _ z;have nf:∀b o,s.heap.get? b=Fa o->(∀vs,o.data≠.fields vs)->T≠b:=λb o hb hn z=>by rw[<-z,YW]at hb;cases hb;exact hn ts Zn
  have sz:∀b,(s.heap.update T (Obj.mapFields λx=>x.setIfInBounds 3 .none)).get? b=Db↔s.heap.get? b=Db:=λb=>by
   by_cases z:T=b
   .rw[<-z];obtain⟨oc,od,odt,YE⟩:=oT;obtain rfl:odt=.fields ts:=Zn;rw[fP _ YW Z',YW];exact⟨(λq=>by cases q),(λq=>by cases q)⟩
   .rw[up b z]
  exact XJ {s with heap:=s.heap.update T (Obj.mapFields λx=>x.setIfInBounds 3 .none)} oe Z' Z' Z' Z' (mY (λb o hb hn=>⟨o,(up b (nf b o hb hn)).trans hb,Z'⟩) hF) ((up e nTe).trans ho) hc ZA hd
   (λb o hb _ _ nt=>(up b λz=>nt (by rw[z])).trans hb) (λb o hb hf=>by
    obtain⟨o',Yo,hn⟩:=B1 hF hf;rw[hb]at Yo;cases Yo;exact(up b (nf b o hb hn)).trans hb) sz _ _
def NA{T:Uf}{F:Vl}(x:Option Uf)(hx:Ov s.heap e cls dx (Fa T) F)(k:∀h':No,(∀b,T≠b->h'.get? b=s.heap.get? b)->(∀b,h'.get? b=Db↔s.heap.get? b=Db)->Ov h' e cls dx (Fa T) (x.elim .none λf=>Y' f)->Q () {s with heap:=h'}):Ch M A (setFlight (.ref e) x) Q E s:=by
 obtain⟨oe,vs,ho,hc,ZA,hd,h1,hv,hT⟩:=hx;obtain⟨nTe,oT,ts,YW,Zn,h3,hn⟩:=hT T Z';unfold setFlight;refine de (fu ho hd hv ?_);rw[dw (by rfl)];refine im YW Zn h3 ?_;obtain⟨oc,od,odt,YE⟩:=oT;obtain rfl:odt=.fields ts:=Zn;have up:∀b,T≠b->(s.heap.update T (Obj.mapFields λy=>y.setIfInBounds 3 (x.elim .none λf=>Y' f))).get? b=s.heap.get? b:=λb z=>gu _ _ z;refine k _ up (λb=>?_) ⟨oe,vs,(up e nTe).trans ho,hc,ZA,hd,h1,hv,λT' eT=>?_⟩
 .by_cases z:T=b
  .rw[<-z,fP _ YW Z',YW];exact⟨(λq=>by cases q),(λq=>by cases q)⟩
  .rw[up b z]
 .cases eT;exact⟨nTe,_,ts.setIfInBounds 3 (x.elim .none λf=>Y' f),fP _ YW Z',Z',by rw[jY];exact h3,by rw[iz h3]⟩
def Jo{E₁ E₂:QQX}{tb:Option Uf}(ZK:A.frames=Fa (env::outer))(hF:s.heap.FunFrames base (env::outer))(hL:env.frame=Fa L)(hx:Ph s.heap e cls dx tb) (k:∀(h':No) (T:Uf),s.heap.get? T=Db->(∀b o,s.heap.get? b=Fa o->b∉wI (env::outer)->b≠e->tb≠Fa b->h'.get? b=Fa o)->(∀b o,s.heap.get? b=Fa o->b∈wI (env::outer)->∃sl,h'.get? b=Fa {o with slots:=sl})->
   Ph h' e cls dx (Fa T)->Q () {s with heap:=h'}):Ch M A (noteFrame (.ref e) env) (λ_ s₂=>Ch M A (setFlight (.ref e) Db) Q E₂ s₂) E₁ s:=by
 refine Tq hL ZK hF hL hx (dH.mpr λz=>by have:=ft.mp z;cases this) λh' T tn k1 k2 _ x'=>?_;refine NA Db x' λh2 up _ x2=>k h2 T tn (λb o hb nf nb nt=>?_) (λb o hb hf=>?_) x2
 .have tb:T≠b:=λz=>by rw[z,hb]at tn;cases tn
  exact(up b tb).trans (k1 b o hb nf nb nt)
 .have tb:T≠b:=λz=>by rw[z,hb]at tn;cases tn
  obtain⟨sl,q⟩:=k2 b o hb hf;exact⟨sl,(up b tb).trans q⟩
def O1{tb:Option Uf}(ZK:A.frames=Fa (env::outer))(hF:s.heap.FunFrames base (env::outer))(hL:env.frame=Fa L)(hx:Ph s.heap e cls dx tb) (k:∀(h':No) (T:Uf),s.heap.get? T=Db->(∀b o,s.heap.get? b=Fa o->b∉wI (env::outer)->b≠e->tb≠Fa b->h'.get? b=Fa o)->(∀b o,s.heap.get? b=Fa o->b∈wI (env::outer)->∃sl,h'.get? b=Fa {o with slots:=sl})->
   Ph h' e cls dx (Fa T)->Q () {s with heap:=h'}):Ch M A (leaving env (.ref e)) Q E s:=de (Jo ZK hF hL hx k)
end
def C4(P:Pg)(w:Wo):LC:=λouter H s E ev s'=>HI λe C dx H' tb=>ev=.ref e/\E (.ref C) dx H'/\s'.os=s.os/\XYb s'.gens/\Un (wI outer) [] H H' s.heap s'.heap/\yJ P w H' s'.heap/\
 Ph s'.heap e (.ref C) dx (Fa tb)/\s.heap.get? e=Db/\s.heap.get? tb=Db/\H' e=Db/\H' tb=Db
def yA{o:HO}(x:sF P w H h a o):∃ob,h.get? a=Fa ob:=by
 cases o with
 | lst xs=>obtain⟨_,_,_,_,e⟩:=x;exact⟨_,e⟩
 | tup xs=>obtain⟨_,_,_,o,e,_⟩:=x;exact⟨_,e⟩
 | dK kvs=>obtain⟨_,_,_,_,o,_,_,e,_⟩:=x;exact⟨_,e⟩
 | dT kvs=>obtain⟨_,_,_,_,o,_,_,e,_⟩:=x;exact⟨_,e⟩
 | set S n=>obtain⟨o,_,_,_,e,_⟩:=x;exact⟨_,e⟩
 | ins C dx fs=>obtain⟨_,_,_,e,_⟩:=x;exact⟨_,e⟩
 | own y=>exact x
 | xd fs=>obtain⟨_,⟨_,_,_,e,_⟩,_⟩:=x;exact⟨_,e⟩
 | rng lo hi=>obtain⟨_,_,_,e⟩:=x;exact⟨_,e⟩
 | frz ob u=>obtain⟨e,_⟩:=x;exact⟨_,e⟩
 | tbl ps=>exact⟨_,x⟩
 | met f y=>exact⟨_,x⟩
 | ext φ=>obtain⟨_,e,_⟩:=x;exact e
def zv{T:Uf}(nB:yJ P w H h)(tn:h.get? T=Db):H T=Db:=by
 cases z:H T with
 | none=>rfl
 | some o=>obtain⟨ob,hob⟩:=yA (nB T o z);rw[hob]at tn;cases tn
variable {P:Pg}{w:Wo}{K:qL}{mg:QQZ}{N:QQQ}{qual:Str}{scope:XXe}{f:Uf}{cd:Vl}{s0:Sd}{H0:Hp}
section
variable {E:XK}
def GH(u:Un fs ex H H' h h')(hex:ex=[]){b:Uf}(hb:h'.get? b=Db):h.get? b=Db:=by
 cases q:h.get? b with
 | none=>rfl
 | some o=>obtain⟨o',e⟩:=u.there b o q (by rw[hex];simp);rw[e]at hb;cases hb
def Og{XF:QQY}{e C T:Uf}{tb dx:Option Uf}{h':No}(I:Inv (vI (C4 P w) P w K mg base N qual scope f cd A outer s0 H0 E) XF Y H s)(he:s0.heap.get? e=Db)(Yh:∀T,tb=Fa T->s0.heap.get? T=Db/\H T=Db)(hn:H e=Db)(q:E (.ref C) dx H)(hT:s0.heap.get? T=Db/\H T=Db) (k1:∀b o,s.heap.get? b=Fa o->b∉wI (dL qual scope s0.heap.objs.size f cd::outer)->b≠e->tb≠Fa b->h'.get? b=Fa o) (k2:∀b o,s.heap.get? b=Fa o->b∈wI (dL qual scope s0.heap.objs.size f cd::outer)->∃sl,h'.get? b=Fa {o with slots:=sl}) (x':Ph h' e (.ref C) dx (Fa T)):
  C4 P w outer H0 s0 E (.ref e) {s with heap:=h'}:=by
 have Yu:=I.oi;have XZ:∀b o,H b=Fa o->∀u,s.heap.get? b=Fa u->h'.get? b=Fa u:=λb o hb u hu=>k1 b u hu (λz=>by rw[Yu b z]at hb;cases hb) (λz=>by rw[z,hn]at hb;cases hb) (λz=>by rw[(Yh b z).2]at hb;cases hb);have oldf:∀b o,s0.heap.get? b=Fa o->b∉wI [dL qual scope s0.heap.objs.size f cd]:=λb o hb z=>by
  have:b=s0.heap.objs.size:=by have hz:b∈[s0.heap.objs.size]:=z;exact dG.mp hz
  rw[this]at hb;exact absurd (dD hb) (fm _)
 have fr:∀b,b∈wI (dL qual scope s0.heap.objs.size f cd::outer)->b∈wI [dL qual scope s0.heap.objs.size f cd]\/b∈wI outer:=λb hb=>by
  have hb:b∈s0.heap.objs.size::wI outer:=hb;rcases dA.mp hb with z|z
  .exact .inl (by rw[z];exact dO)
  .exact .inr z
 have Yc:Un (wI outer) [] H0 H s0.heap s.heap:=I.base;refine⟨e,C,dx,H,T,Z',q,I.os,I.bare,⟨λb o hb h0 nf ne=>?_,λb o hb h0 hf ne=>?_,Yc.free,λb o hb ne=>?_,Yc.n9,Yc.nU,Yc.oh⟩,λb o hb=>?_,x',he,hT.1,hn,hT.2⟩
 .have hs:=Yc.keep b o hb h0 nf ne;refine k1 b o hs (λz=>?_) (λz=>by rw[z,he]at hb;cases hb) λz=>by rw[(Yh b z).1]at hb;cases hb
  rcases fr b z with z|z
  .exact oldf b o hb z
  .exact nf z
 .obtain⟨sl,hs⟩:=Yc.slot b o hb h0 hf ne;have:b∈wI (dL qual scope s0.heap.objs.size f cd::outer):=dM _ hf;obtain⟨Zc,h2⟩:=k2 b _ hs this;exact⟨Zc,h2⟩
 .obtain⟨o',hs⟩:=Yc.there b o hb ne;by_cases z:b∈wI (dL qual scope s0.heap.objs.size f cd::outer)
  .obtain⟨sl,h2⟩:=k2 b o' hs z;exact⟨_,h2⟩
  .exact⟨o',k1 b o' hs z (λz=>by rw[z,he]at hb;cases hb) λz=>by rw[(Yh b z).1]at hb;cases hb⟩
 .refine(I.nB b o hb).nR (λb' u YC hu=>?_) (λ_ q=>q) λ_ _ q=>q;rcases YC with z|z
  .subst z;exact XZ b' o hb u hu
  .exact XZ b' _ z u hu
def UR{XF:QQY}{e C:Uf}{tb dx:Option Uf}(I:Inv (vI (C4 P w) P w K mg base N qual scope f cd A outer s0 H0 E) XF Y H s)(hx:Ph s.heap e (.ref C) dx tb)(he:s0.heap.get? e=Db)(hT:∀T,tb=Fa T->s0.heap.get? T=Db/\H T=Db)(hn:H e=Db)(q:E (.ref C) dx H):
  (vI (C4 P w) P w K mg base N qual scope f cd A outer s0 H0 E).xe (.ref e) s:=
 O1 (base:=base) (outer:=outer) I.ok.frames I.stack Z' hx λh' T tn k1 k2 x'=>Og I he hT hn q ⟨GH (show Un (wI outer) [] H0 H s0.heap s.heap from I.base) Z' tn,zv I.nB tn⟩ k1 k2 x'
end
section
variable {E:XK}
end
def ON(d:Uf)(f:Str)(v:V)(h:No):Prop:=∃u,h.Ns1 d (λy=>if y=f then Fa u else Db)/\ra v u
end L2
namespace L3
open L2
abbrev XR:=Uf->Option (Str×D)->Mp->Prop
abbrev Gp:=T0 D->Mp->DK->XR->Prop
def VA(K:qL)(H:Hp)(dx:Option Uf)(y:Option (Str×D)):Prop:=(dx=Db/\y=Db)\/Br λd f z v=>dx=Fa d/\y=Fa (f,z)/\H d=Fa (.ext (ON d f v))/\sr K H z v
def VF(K:qL)(R:XR)(E:XK):Prop:=∀C dx H M y,HM K H M->VA K H dx y->R C y M->E (.ref C) dx H
def V9(K:qL)(sp:Gp):Sp:=λvs H Q' E=>Br λds M Q R=>qF K H ds vs/\HM K H M/\sp ds M Q R/\Up K H Q' Q/\VF K R E
abbrev Td(P:Pg)(w:Wo)(K:qL)(mg:QQZ)(base:No)(k:Nat)(f:Uf)(fd:wv)(ps:QQQ)(sp:Gp):Prop:=xO P w K mg base (C4 P w) k f fd ps (V9 K sp)
variable {X:Cx}{x:Str}{p pos np XO:Pos}{e:Go}{es:T0 Go}{t:xP}{k:Nat}{f C:Uf}{fd:wv}{ps:QQQ}{sp:Gp}{R:XR}{E:XK}{P:Pg}{w:Wo}{K:qL}{mg:QQZ}{base:No}{N:QQQ}{qual:Str}{scope:XXe}{cd:Vl}{A:Ar}{outer:T0 Env}{s0:Sd}{H0:Hp}{ta:xP}
def UI{st:wE}{sp:Gp}(F:OX K x qual st f fd)(S:tL N ps (qD st))(len:∀ds M Q R,sp ds M Q R->ds.length=ps.length) (X7:∀(XS:Vl) (A:Ar) (outer:T0 Env) (s:Sd) (H:Hp) (E:XK) (R:XR),sI k (A.deeper (dL qual (qD st) s.heap.objs.size f XS))->VF K R E->
   ∃t,IA (vI (C4 P w) P w K mg base N qual (qD st) f XS A outer s H E) (sE st) t/\∀ds M Q,sp ds M Q R->t {nx:=λ_ M'=>∃XM,qQ XM M'/\Q .nz XM,rt:=λd M'=>∃XM,qQ XM M'/\Q d XM} (w9 N ds) M):Td P w K mg base (k+1) f fd ps sp:=by
 obtain⟨oc,od,kV,Ym,pm,an,XS,ct,YE,rfl,lk,YJ⟩:=F.ex;refine Mz lk YJ S (λvs H Q E h=>?_) λA outer s H vs Q' E hr h=>?_
 .obtain⟨ds,M,Q,R,hd,_,hs,_⟩:=h;rw[<-hd.length];exact len ds M Q R hs
 .obtain⟨ds,M,Q,R,hd,hm,hs,k,hR⟩:=h;obtain⟨t,ht,hb⟩:=X7 XS A outer s H E R hr hR;exact⟨_,ht,w9 N ds,M,_,Ej hd,hm,hb ds M Q hs,λσ' H' δ' M' _ x2 x3 _ ⟨XM,y1,y2⟩=>k .nz H' .nz XM .nz (x2.sub y1) x3 y2,λv H' d M' x1 x2 x3 ⟨XM,y1,y2⟩=>k v H' d XM x1 (x2.sub y1) x3 y2,λ_ _ _ _ _ _ _ _ z=>z,λ_ _ _ _ _ _ _ _ z=>z⟩
end L3
namespace L2
def TKept(H H':Hp):Prop:=(∀b xs,H b=Fa (.tup xs)->H' b=Fa (.tup xs))/\∀b o u,H b=Fa (.frz o u)->H' b=Fa (.frz o u)
def WS(X:Cx)(XF:QQY)(Y:St)(J:Hp->Prop)(E:XK)(ev:Vl)(s':Sd):Prop:=AU λH s=>J H/\Inv X XF Y H s/\C4 X.prog X.w X.stack H s E ev s'
def VE(X:Cx)(XF:QQY)(Y:St)(J:Hp->Prop)(E:XK)(ev:Vl)(s':Sd):Prop:=T8 λa C dx H' tb H1 s1=>ev=.ref a/\E (.ref C) dx H'/\Inv X XF Y H' s'/\Ph s'.heap a (.ref C) dx (Fa tb)/\H' a=Db/\H' tb=Db/\J H1/\TKept H1 H'/\Inv X XF Y H1 s1/\s1.heap.get? a=Db
def TB{M:Model}{E₁ E₂:QQX}{XF:QQY}{E:XK}{outer:T0 Env}{L:Uf}(h:WS X XF Y J E ev s')(X6:X.stack=X.env::outer)(hL:X.env.frame=Fa L):
  Ch M X.A (noteFrame ev X.env) (λ_ s₂=>Ch M X.A (setFlight ev Db) (λ_ s₃=>VE X XF Y J E ev s₃) E₂ s₂) E₁ s':=by
 obtain⟨H,s,jH,I,e,C,dx,H',tb,rfl,q,os,bare,un,nB,x,he,ht,ne,nt⟩:=h;obtain⟨hh,g,d,t,os'⟩:=s';obtain rfl:os'=s.os:=os;have I':=I.call (h':=hh) (g':=g) (d':=d) (t':=t) (ch:=[]) un nB bare (λb z=>absurd z (by simp));have hF:=I'.stack;have Yu:=I'.oi;have ZK:=I.ok.frames;rw[X6]at hF ZK;refine Jo (base:=X.base) (outer:=outer) ZK hF hL x λh' T tn k1 k2 x'=>?_;have XZ:∀b o,H' b=Fa o->∀u,hh.get? b=Fa u->h'.get? b=Fa u:=λb o hb u hu=>k1 b u hu (λz=>by rw[Yu b (by rw[X6];exact z)]at hb;cases hb) (λz=>by rw[z,ne]at hb;cases hb) (λz=>by cases z;rw[nt]at hb;cases hb);have un':Un (wI X.stack) [] H H' s.heap h':=by
  refine⟨λb o hb h0 nf nx=>?_,λb o hb h0 hf nx=>?_,un.free,λb o hb nx=>?_,un.n9,un.nU,un.oh⟩
  .exact k1 b o (un.keep b o hb h0 nf nx) (λz=>nf (by rw[X6];exact z)) (λz=>by rw[z,he]at hb;cases hb) λz=>by cases z;rw[ht]at hb;cases hb
  .obtain⟨sl,hs⟩:=un.slot b o hb h0 hf nx;obtain⟨Zc,h2⟩:=k2 b _ hs (by rw[<-X6];exact hf);exact⟨Zc,h2⟩
  .obtain⟨o',hs⟩:=un.there b o hb nx;by_cases z:b∈wI (X.env::outer)
   .obtain⟨sl,h2⟩:=k2 b o' hs z;exact⟨_,h2⟩
   .exact⟨o',k1 b o' hs z (λz=>by rw[z,he]at hb;cases hb) λz=>by cases z;rw[ht]at hb;cases hb⟩
 have hok':yJ X.prog X.w H' h':=λb o hb=>(nB b o hb).nR (λb' u YC hu=>by
  rcases YC with z|z
  .subst z;exact XZ b' o hb u hu
  .exact XZ b' _ z u hu) (λ_ q=>q) λ_ _ q=>q
 have I3:Inv X XF Y H' {heap:=h',gens:=g,drawn:=d,toks:=t,os:=s.os}:=Inv.call (s:=s) (ch:=[]) I un' hok' bare (λb z=>absurd z (by simp));refine⟨e,C,dx,H',T,H,s,Z',q,I3,x',ne,?_,jH,⟨un.n9,un.nU⟩,I,he⟩;cases z:H' T with
 | none=>rfl
 | some o=>obtain⟨ob,hob⟩:=yA (nB T o z);have tn:hh.get? T=Db:=tn;rw[hob]at tn;cases tn
variable {X:Cx}{XF:T0 (Uf × Obj)}{Y σ':St}{H H1:Hp}{s s1:Sd}{ev:Vl}{E':QQX}{a:Uf}
def Inv.adopt{o:HO}(I:Inv X XF Y H s)(I1:Inv X XF σ' H1 s1)(n1:s1.heap.get? a=Db)(hn:H a=Db)(ok:sF X.prog X.w (upd H a o) s.heap a o):Inv X XF Y (upd H a o) s:=by
 have ne:∀b ob,s1.heap.get? b=Fa ob->b≠a:=λb ob e z=>by rw[z,n1]at e;cases e
 have nh:∀b ob,H b=Fa ob->b≠a:=λb ob e z=>by rw[z,hn]at e;cases e
 refine⟨I.ok,I.os,I.bare,⟨I.base.keep,I.base.slot,λb o' e h0 hb=>?_,I.base.there,λb xs e=>?_,λb o' u e=>?_,λb ps e=>?_⟩,I.loc,I.cell,?_,λx c e=>?_,λp hp=>?_,λb ob e=>?_,I.len⟩
 .obtain⟨o2,e2⟩:=I1.base.there b o' e hb;rw[qw (ne b o2 e2)];exact I.base.free b o' e h0 hb
 .have:=I.base.n9 b xs e;rw[qw (nh b _ this)];exact this
 .have:=I.base.nU b o' u e;rw[qw (nh b _ this)];exact this
 .obtain⟨more,this⟩:=I.base.oh b ps e;exact⟨more,by rw[qw (nh b _ this)];exact this⟩
 .obtain⟨m,⟨o2,_,_,e2,_⟩,_⟩:=I1.loc;rw[qw (ne _ o2 e2)];exact I.free
 .obtain⟨v,o2,e2,_⟩:=I1.cell x c e;rw[qw (ne _ o2 e2)];exact I.nK x c e
 .obtain⟨e1,e2,e3,e4,e5⟩:=I.pin p hp;exact⟨e1,by rw[qw (ne _ _ (I1.pin p hp).1)];exact e2,e3,e4,e5⟩
 .by_cases z:b=a
  .subst z;rw[qB]at e;cases e;exact ok
  .rw[qw z]at e;exact(I.nB b ob e).nR (λ_ _ _ q=>q) (λb' q=>by rw[qw (nh b' _ q)];exact q) λb' xs q=>by rw[qw (nh b' _ q)];exact q
def Inv.locs{h':No}{m':QQZ}(I:Inv X XF Y H s)(hn:h'.Ns X.env.locals m')(hs:Heap.SameBut X.env.locals s.heap h')(hl:σ'.length=X.N.length) (hm:∀m,s.heap.Ns X.env.locals m->(∀(i:Nat) (x:Str) (v:V),X.N[i]?=Fa x->Y[i]?=Fa (Fa v)->SK X.env.scope x->∃u,ra v u/\Vu X.env s.heap m x u)->∀(i:Nat) (x:Str) (v:V),X.N[i]?=Fa x->σ'[i]?=Fa (Fa v)->SK X.env.scope x->∃u,ra v u/\((X.env.kindOf x=Fa .local/\m' x=Fa u)\/((X.env.kindOf x=Fa .cell\/X.env.kindOf x=Fa .free)/\∃c,X.env.cells.lookup x=Fa c/\s.heap.IsCell c (Fa u)))):Inv X XF σ' H {s with heap:=h'}:=by
 obtain⟨m,hn0,hl0⟩:=id I.loc;obtain⟨oL,_,_,hoL,_⟩:=id hn0;have pK:=I.pK;refine⟨I.ok,I.os,I.bare,⟨λb o e n hb hx=>?_,λb o e n hb hx=>?_,I.base.free,λb o e hx=>?_,I.base.n9,I.base.nU,I.base.oh⟩,⟨_,hn,λj y v' e1 e2 e3=>?_⟩,λy c e=>?_,I.free,I.nK,λp hp=>?_,λb ob e=>?_,hl⟩
 .exact(hs.2 b (dN (dU (dD e) I.ok.above))).trans (I.base.keep b o e n hb hx)
 .obtain⟨sl,e1⟩:=I.base.slot b o e n hb hx;exact⟨sl,(hs.2 b (dN (dU (dD e) I.ok.above))).trans e1⟩
 .obtain⟨o',e1⟩:=I.base.there b o e hx;exact⟨o',(hs.2 b (dN (dU (dD e) I.ok.above))).trans e1⟩
 .obtain⟨u,r,q⟩:=hm m hn0 hl0 j y v' e1 e2 e3;refine⟨u,r,?_⟩;rcases q with q|⟨k,c,e,z⟩
  .exact .inl q
  .exact .inr ⟨k,c,e,z.sameBut hs (pK y c e)⟩
 .obtain⟨w',z⟩:=I.cell y c e;exact⟨w',z.sameBut hs (pK y c e)⟩
 .obtain⟨e,n,ne,nf,d⟩:=I.pin p hp;exact⟨(hs.2 p.1 ne).trans e,n,ne,nf,d⟩
 .refine(I.nB b ob e).nR (λc w' hc q=>(hs.2 c ?_).trans q) (λ_ q=>q) λ_ _ q=>q
  rintro rfl
  rcases hc with hc|hc
  .rw[<-hc,I.free]at e;cases e
  .rw[I.free]at hc;cases hc
def yF{M:Model}{A:Ar}{E:QQX}{i:Nat}{n:Str}{pos:Pos}{Q:Unit->Sd->Prop}(I:Inv X XF Y H s)(hN:X.N.Nodup)(hi:X.N[i]?=Fa n)(hk:X.env.scope.names.lookup n=Fa .local) (h:∀s',Inv X XF (Y.set i Db) H s'->Q () s'):Ch M A (do
   bindName X.env n Value.none
   unbindBehindTheSuite X.env n pos) Q E s:=by
 have hiσ:i<Y.length:=by rw[I.len];exact(dh.mp hi).1
 refine de (wpAny_bindName (yu (v:=.nz) I hN hi (.inl hk) Z' (λs1 I1=>?_) (.inr hk)));have hcls:(X.env.scope.kind==.class||(X.env.scope.kind==.module&&X.env.locals != X.env.globals))=lf:=by rw[I.ok.kind];rfl
 obtain⟨m,hn,hl⟩:=id I1.loc;obtain⟨u,ru,lk⟩:=hl i n .nz hi (by rw[eU hiσ]) (.inl hk);have em:m n=Fa u:=by
  rcases lk with⟨_,e⟩|⟨k,_⟩
  .exact e
  .have hk':X.env.kindOf n=Fa .local:=hk;rw[hk']at k;rcases k with k|k<;>cases k
 unfold unbindBehindTheSuite;refine iR (wpAny_unbindName_local hk hn em hcls λh' u' Zi hs=>h _ ?_);refine I1.locs Zi hs (by simpa using I.len) λm2 X1 hl2 j y v' e1 e2 e3=>?_;have hj:j≠i:=λz=>by subst z;rw[eU hiσ]at e2;cases e2
 rw[eZ (dW hj)]at e2;obtain⟨u2,r2,q2⟩:=hl j y v' e1 (by rw[eZ (dW hj)];exact e2) e3;refine⟨u2,r2,?_⟩;rcases q2 with⟨k,e⟩|q2
 .refine .inl ⟨k,?_⟩;have:y≠n:=λe=>hj (CK hN e1 (e ▸ hi));simp[this,e]
 .exact .inr q2
def Cx.marked(X:Cx)(ev:Vl)(E:QQX):Cx:={X with A:=X.A.mark (Fa ev),calm:=false,xe:=E}
def Inv.mark(I:Inv X XF Y H s):Inv (X.marked ev E') XF Y H s:=
 ⟨⟨I.ok.mod,I.ok.kind,I.ok.glob,I.ok.blt,I.ok.above,I.ok.inj,I.ok.has,I.ok.pb,(λz=>by cases z),I.ok.frames,I.ok.pq,I.ok.pL,I.ok.bs,I.ok.oK,I.ok.oz,I.ok.oJ,I.ok.oa,I.ok.oR⟩,I.os,I.bare,I.base,I.loc,I.cell,I.free,I.nK,I.pin,I.nB,I.len⟩
def Inv.unmark(ok:X.Ok)(I:Inv (X.marked ev E') XF Y H s):Inv X XF Y H s:=⟨ok,I.os,I.bare,I.base,I.loc,I.cell,I.free,I.nK,I.pin,I.nB,I.len⟩
def SP.unmark(ok:X.Ok){D:Gg}{f:Flow}(h:SP (X.marked ev E') XF D f s):SP X XF D f s:=by
 cases f with
 | next=>obtain⟨a,b,I,q⟩:=h;exact⟨a,b,I.unmark ok,q⟩
 | brk=>obtain⟨a,b,I,q⟩:=h;exact⟨a,b,I.unmark ok,q⟩
 | cont=>obtain⟨a,b,I,q⟩:=h;exact⟨a,b,I.unmark ok,q⟩
 | ret v=>obtain⟨a,b,c,I,q⟩:=h;exact⟨a,b,c,I.unmark ok,q⟩
def Ci{M:Model}{h:No}{a:Uf}{o:Obj}(ho:h.get? a=Fa o):W.Looks M h (typeOf (.ref a)) o.cls:=by intro A Q E s k q;unfold typeOf;exact de (wpAny_load (k a o ho) (dz q))
def Hz{M:Model}{A:Ar}{E:QQX}{a C T:Uf}{Q:Unit->Sd->Prop}(x:Ph s.heap a (.ref C) dx (Fa T))(h:∀h':No,(∀b,h'.get? b=s.heap.get? b)->Q () {s with heap:=h'}):Ch M A (setFlight (.ref a) Db) Q E s:=by
 obtain⟨oe,vs,ho,hc,_,hd,h1,hv,hT⟩:=x;obtain⟨nTe,oT,ts,YW,Zn,h3,hn⟩:=hT T Z';unfold setFlight;refine de (fu ho hd hv ?_);rw[dw (by rfl)];refine im YW Zn h3 (h _ λb=>?_);by_cases z:T=b
 .subst z;obtain⟨oc,od,odt,YE⟩:=oT;obtain rfl:odt=.fields ts:=Zn;rw[fP _ YW Z',YW];show Fa (Obj.mk oc od (.fields (ts.setIfInBounds 3 .none)) YE)=_;have:ts.setIfInBounds 3 .none=ts:=by
   apply Array.ext
   .simp
   .intro i h1 h2;rw[Array.getElem_setIfInBounds];split
    .rename_i e;subst e;rw[Array.getElem?_eq_getElem h3]at hn;exact(dB hn).symm
    .rfl
  rw[this]
 .exact gu _ _ z
def Se(X:Cx)(e:Go)(t:St->Hp->VK->(Hp->Prop)->XK->Prop):Prop:=∀(XF:QQY) (s:Sd) (Y:St) (H:Hp) (Q:VK) (J:Hp->Prop) (E:XK),Inv X XF Y H s->t Y H Q J E->Ch (Tk X.prog X.w) X.A (wp e X.env) (EP X XF Y Q) (WS X XF Y J E) s
def Xk(X:Cx)(st:wE)(t:Gg->St->Hp->(Hp->Prop)->XK->Prop):Prop:=∀(XF:QQY) (s:Sd) (Y:St) (H:Hp) (D:Gg) (J:Hp->Prop) (E:XK),Inv X XF Y H s->t D Y H J E->Ch (Tk X.prog X.w) X.A (exec st X.env) (SP X XF D) (WS X XF Y J E) s
def Q4{X:Cx}{i:Nat}{x:Str}{te:St->Hp->VK->(Hp->Prop)->XK->Prop}{pos XQ:Pos}(hN:X.N.Nodup)(hi:X.N[i]?=Fa x)(hx:LG X.env.scope x)(he:Se X e te)(hs:ZB e (Fa (.Name x XQ)) pos.line X.env=pure lf:=by rfl)(hf:LD X x:=by first|exact .inl Z'|exact .inr Z'|assumption):
  Xk X (.Assign [.Name x XQ] e pos) (λD Y H J E=>te Y H (λv H'=>D.nx (Y.set i (Fa v)) H') J E):=by
 intro XF s Y H D J E I h;refine lL (sX (he XF s Y H _ J E I h) λv s1 zz=>x5 zz λy H1 I1 r1 q1=>?_) hs;exact yu I1 hN hi hx r1 (λs2 I2=>⟨_,H1,I2,q1⟩) hf
variable {k:Nat}{f C:Uf}{fd:wv}{ps:QQQ}{sp:Sp}{Yw:T0 V}{ds:T0 Vl}{m:Str}{p pos XI:Pos}{e o:Go}{es:T0 Go}{t:TA}
section
variable {x:Str}
def LI(F:xO X.prog X.w X.K X.mg X.base (C4 X.prog X.w) k f fd ps sp)(hr:sI k X.A)(hg:Gl X x)(hm:X.mg x=Fa (.ref f))(hk:W.keepIn X.K (.ref f)=pc)(hb:vj X.K fd ps ds)(hd:qO Yw ds) (ha:PA (X.oG λ_ _=>False) (e::es) t) (X4:yW x:=by decide) (he:Bx X e es:=by rfl) (X0:Dh X pos es:=by rfl):
  Se X (.Call (.Name x p) (e::es) [] pos) (λY H Q J E=>t Y H λvs H1=>J H1/\sp (vs++Yw) H1 Q E):=by
 intro XF s Y H Q J E I h;refine gc (xF I hg hm ?_ X4);refine iX (h₀:=X.base) I.ok.mod.oZ hk (eF (ha pos XF s Y H _ I.oG h) (λus s1 ⟨vs,H1,I1,r,jH,q⟩=>⟨I1.nO,?_⟩) λ_ _ z=>z.elim) he X0;have I1:=I1.xeOf;have r2:qO (vs++Yw) (us++ds):=r.append hd;have hl:(us++ds).length=ps.length:=by rw[<-r2.length];exact F.len _ _ _ _ q
 refine ip (gy (F.run X.A X.stack s1 H1 ⟨us,[]⟩ (us++ds) (vs++Yw) Q E hr I1.oP (hb s1 us I1.nO hl) r2 q) λr s' hq=>?_);cases r with
 | error e=>exact⟨H1,s1,jH,I1,hq⟩
 | ok fl=>
  cases fl with
  | ret u=>exact I1.after hq
  | next=>exact False.elim hq
  | brk=>exact False.elim hq
  | cont=>exact False.elim hq
end
structure LR(K:qL)(C:Uf):Prop where
 hd:(W.clsIn K C).isSome=pc
 ga:W.findIn K (.ref C) "__getattribute__"=Fa (Fa (.builtin "BaseException.__getattribute__"))
 gt:W.findIn K (.ref C) "__getattr__"=Fa Db
 ha:W.findIn K (.ref C) "__class__"=Fa (Fa (.builtin "object.__class__"))
 hn:W.specialIn K (.builtin "object.__class__") "__get__"=Fa (Fa (.builtin "getset_descriptor.__get__"))
 htk:W.takesIn K (.builtin "object.__class__")=Fa pc
 hm:W.mroIn K C (.type "object")=Fa pc
 hb:W.mroIn K C (.type "BaseException")=Fa pc
def Qm:builtinKind "BaseException.__getattribute__"=Fa Manifest.AttrKind.slot:=by decide+kernel
def LO:splitId "BaseException.__getattribute__"=Fa ("BaseException","__getattribute__"):=by decide+kernel
variable {prog:Pg}{w:Wo}{A:Ar}{E:QQX}{K:qL}{ox:Obj}
section
variable {x:Uf}
def Oa{nameV:Vl}{Q:Unit->Sd->Prop}{M:Model}(c:LR K C)(X:K.In s.heap)(hx:s.heap.get? x=Fa ox)(hc:ox.cls=.ref C)(hq:Q () s):Ch M A (checkBuiltinCall "BaseException.__getattribute__" {pos:=[Value.ref x,nameV]}) Q E s:=by
 unfold checkBuiltinCall;simp only[Qm,LO];unfold isInstance;refine de (de ?_);refine(Ci hx).at ?_;rw[hc];refine(W.looks_mroIn X c.hb).at ?_;rw[dq (by decide)];have ha:=F.args_bexc_ga (Value.ref x) nameV;unfold argsOk at ha;have:∀t:Sem Unit,t=pure ()->Ch M A t Q E s:=λt z=>by rw[z];exact dz hq
 exact this _ ha
end
end L2
namespace L3
open L2
theorem _root_.L2.TKept.ext{K:qL}(h:TKept H H'):rg K H H':=⟨λa xs q=>by
 rcases q with(q|⟨u,q⟩)|q
 .exact .inl (.inl (h.1 a xs q))
 .exact .inl (.inr ⟨u,h.2 a u _ q⟩)
 .exact .inr q,λa o xs q=>h.2 a o _ q⟩
abbrev Ua:=vH->Mp->DK->XR->Prop
def Xx(K:qL)(t:Ua):St->Hp->VK->(Hp->Prop)->XK->Prop:=λY H Q' J E=>Br λU M Q R=>yU K H Y U/\HM K H M/\t U M Q R/\(∀v H' d M',sr K H' d v->HM K H' M'->rg K H H'->Q d M'->Q' v H')/\(∀H1,rg K H H1->J H1)/\VF K R E
def Xi(X:Cx)(e:Go)(t:Ua):Prop:=Se X e (Xx X.K t)
def Se.mono{t t':St->Hp->VK->(Hp->Prop)->XK->Prop}(h:Se X e t)(m:∀Y H Q J E,t' Y H Q J E->t Y H Q J E):Se X e t':=λXF s Y H Q J E I q=>h XF s Y H Q J E I (m Y H Q J E q)
variable {X:Cx}{x:Str}{p pos np XO:Pos}{e:Go}{es:T0 Go}{t:xP}{k:Nat}{f C:Uf}{fd:wv}{ps:QQQ}{sp:Gp}
def Nc(F:Td X.prog X.w X.K X.mg X.base k f fd ps sp)(hr:sI k X.A)(hg:Gl X x)(hm:X.mg x=Fa (.ref f))(hk:W.keepIn X.K (.ref f)=pc)(hb:vj X.K fd ps [])(ha:A3 (X.oG λ_ _=>False) (e::es) t) (X4:yW x:=by decide) (he:Bx X e es:=by rfl) (X0:Dh X pos es:=by rfl):
  Xi X (.Call (.Name x p) (e::es) [] pos) (λU M Q R=>t U M λds M1=>sp ds M1 Q R):=Se.mono (LI F hr hg hm hk hb .nil ha X4 he X0) λY H Q' J E ⟨U,M,Q,R,hs,hm,ht,k,kJ,kR⟩=>
 ⟨U,M,_,hs,hm,ht,λvs H1 ds M1 hd XH e1 q1=>⟨kJ H1 e1,ds,M1,Q,R,by rw[e9];exact hd,XH,q1,wj e1 k,kR⟩⟩
variable {b₀:wE}{Y9:T0 wE}{cn n:Str}{cnp Zf XI xpos:Pos}{Cc L:Uf}{outer:T0 Env}{i ix:Nat}{te:Ua}{th:yl}
def yU.unset{K:qL}{i:Nat}(h:yU K H Y U):yU K H (Y.set i Db) (U.set i Db):=λj e q=>by
 by_cases hj:j=i
 .subst hj;by_cases hl:j<U.length
  .rw[eU hl]at q;cases q
  .rw[gN (by simpa using hl)]at q;cases q
 .rw[eZ (dW hj)]at q ⊢;exact h j e q
end L3
namespace L2
def CN(es:Array DictEntry):Bool:=es.toList.all λe=>match e.key with|.str _ _=>pc|_=>lf
def Ck{es:Array DictEntry}(h:CN es=pc):StrKeys es:=λe he=>by
 have:=eR.mp h e (kH.mpr he);cases z:e.key with
 | str n t=>exact⟨n,t,Z'⟩
 | _=>rw[z]at this;cases this
abbrev Of:T0 Vl:=[.type "ValueError",.type "Exception",.type "BaseException",.type "object"]
def Q5{K:qL}{t:Vl}{C:Uf}{cd:ClassData}{b:Bool}(q0:W.subIn K (.ref C) (.type "BaseException")=Fa pc)(q1:W.clsIn K C=Fa cd)(q2:W.typeIn K (.ref C)=Fa (.type "type"))(s:W.subIn K t (.ref C)=Fa b):W.exmOne K t (.ref C)=Fa b:=by unfold W.exmOne;rw[q0,dw (by rfl)];unfold W.kitCls;simp only;rw[q1,q2,dw (by rfl)];exact s
end L2
namespace L3
open L2
end L3
namespace L2
theorem Dg(self:Vl):∀own:QXQ,refuseLoop self "__setattr__" (own.map Value.ref++Of)=pure ()
 | []=>jZ.passes self
 | c::r=>by show refuseLoop self "__setattr__" (.ref c::(r.map Value.ref++Of))=pure ();rw[refuseLoop_ref];exact Dg self r
variable {prog:Pg}{w:Wo}{A:Ar}{s:Sd}{K:qL}{x C:Uf}{ox:Obj}{own:QXQ}{name:Str}{v:Vl}
section
variable {E:QQX}{cd:ClassData}
def P0{Q:Unit->Sd->Prop}(X:K.In s.heap)(I:W.InstAt s.heap x ox C Db)(hs:W.findIn K (.ref C) "__setattr__"=Fa (Fa (.builtin "object.__setattr__")))(hc:W.clsIn K C=Fa cd)(hm:cd.mro=own.map Value.ref++Of)(ht:W.takerIn K C name=Fa Db)(hd:cd.hasDict=pc) (h:∀h' d t,(∀b o,b≠x->s.heap.get? b=Fa o->h'.get? b=Fa o)->h'.get? x=Fa {ox with dict:=some d}->s.heap.get? d=Db->d≠x->h'.Ns1 d (λy=>if y=name then Fa v else Db)->Q () {s with heap:=h',toks:=t}):Ch (Tk prog w) A (setAttr (.ref x) name v) Q E s:=by
 refine W.set_plain X I hs ?_;have SF:=jZ;have ne:cd.mro.isEmpty=lf:=by rw[hm];cases own<;>rfl
 have has:cd.mro.contains (.type "object")=pc:=by
  rw[hm,List.contains_eq_any_beq,mI];have:Of.any (Value.type "object"==·)=pc:=by decide+kernel
  rw[this,lF]
 have sub:W.Looks (Tk prog w) s.heap (isInstance (.ref x) (.type "object")) pc:=I.type.andThen (W.looks_mroIn X (by unfold W.mroIn;rw[hc,mz,dq (by rw[ne];decide),has]));refine ir SF.slot.plain SF.entry (@PySem.W.check_slot (Tk prog w) _ _ {s with toks:=s.toks+1} "object.__setattr__" "object" "__setattr__" (.ref x) [.str name s.toks,v] [] _ SF.kind SF.split sub (SF.args (.ref x) (.str name s.toks) v) ?_);obtain⟨attr,ha,hr⟩:=Option.bind_eq_some_iff.mp ht;have hmro:W.Looks (Tk prog w) s.heap (mroOf (.ref C)) cd.mro:=(kP X hc).andThen .now;have L3':W.Looks (Tk prog w) s.heap (Builtin.ObjectAttr.storeTaker? attr) Db:=by
  cases attr with
  | none=>exact .now
  | some a=>
   obtain⟨b,hb,hr⟩:=iP.mp hr;refine(W.looks_takesIn X hb).andThen ?_;cases b
   .exact .now
   .cases hr
 rw[W.osa_eq,refuse_eq];refine de (de (I.type.here (s:={s with toks:=s.toks+1}) (de (hmro.here (s:={s with toks:=s.toks+1}) ?_))));rw[hm,Dg];refine dz (de (I.type.here (s:={s with toks:=s.toks+1}) (de ((jm X ha).here (s:={s with toks:=s.toks+1}) (de (L3'.here (s:={s with toks:=s.toks+1}) ?_))))));obtain⟨hx,hcl,hn,ZA⟩:=I;obtain⟨oc,odi,oda,YE⟩:=ox;dsimp only at hcl ZA;subst hcl;cases odi with
 | some _=>exact ZA.elim
 | none=>
  refine de (dz (de (de (wpAny_loadPart hx (de (mP (s:={s with toks:=s.toks+1}) (kP X hc) ?_))))));rw[hd];rw[dq (by decide)];obtain⟨hh,g,dr,tk,os⟩:=s;dsimp only at hx h ⊢;rw[dq (by simp[typeHasDict])];split
  .cases hn
  .have y1:(hh.push W.emptyDict).get? x=Fa ⟨.ref C,Db,oda,YE⟩:=dv _ hx;have nx:x≠hh.objs.size:=λz=>fm _ (z ▸ dD hx);refine de (wpAny_alloc' (de (wpAny_update' y1 (dz ?_))));have e0:((hh.push W.emptyDict).update x λo=>{o with dict:=some hh.objs.size}).Ns hh.objs.size (λ_=>Db):=⟨W.emptyDict,#[],_,(jk _ _ _ _ nx.symm).trans (dP hh Z'),Z',λe he=>absurd he (by simp),λ_=>rfl⟩;refine de (dz (de (wpAny_nsSet1 (lN e0) λh' n1 sb=>?_)));obtain⟨oD,esD,epD,g1,g2,g3⟩:=n1.count (Within.cons name v Within.nil);refine de (me g1 (g2 ▸ mf (eD g3 (by rw[dR,dX];decide))) (dz (h h' hh.objs.size _ (λb o hb z=>?_) ?_ (gU (dC _)) nx.symm n1)))
   .exact(sb.2 b λy=>fm _ (y ▸ dD z)).trans ((jk _ _ _ _ hb).trans (dv _ z))
   .refine(sb.2 x nx).trans (fP _ y1 ?_);have fr:=(Heap.get?_some_iff.mp hx).2;cases oda with
    | _=>first|rfl|exact fr
end
variable {nm q:Str}{bs bm Za:T0 Vl}{hdct:Bool}{sn:QQQ}{sub:T0 Vl}{ab:Bool}{col:Option Bool}{dd:Option Uf}{k0 k1 k2 k3 k5:Option Vl}{B Bn newId nid Yf zA:String}{bmN:T0 Vl}{h:No}{g:Array GenState}{d:Drawn}{t:Nat}{os:OsState}
section
variable {E:QQX}{N:Uf}
abbrev O5(C t:Uf):Obj:={cls:=.ref C,data:=.fields #[.ref t,.none,.none,.none,.bool lf,.none]}
def Bj(Fn:X' Bn newId zA bmN)(hBn:Za.contains (.type Bn)=pc)(F:X' B nid Yf Za)(T:OwnTail h Za bm){mN:QQZ}{us:T0 Vl}{fI:Uf}{oI:Obj}{Q:PySem.Fin->Sd->Prop} (hC:h.get? C=Fa (XXc nm q C N bs bm hdct sn sub ab col dd k0 k1 k2 k3 k5 newId)) (hn:h.Ns N mN) (hi:mN "__init__"=Fa (.ref fI)) (hf:h.get? fI=Fa oI) (hfc:oI.cls=.type "function") (XN:us.length<=pi) (hq:∀h' e,Heap.MadeExcOf h h' e (.ref C) us->Ch (Tk prog w) A (call (.ref fI) (.ref e::us)) (λr s'=>r=.none/\Q (.done (.ret (.ref e))) s') E ⟨h',g,d,t,os⟩):
  Ch (Tk prog w) A (Builtin.«type.__call__» ⟨.ref C::us,[]⟩) Q E ⟨h,g,d,t,os⟩:=by
 repeat (first|with_reducible refine ij hC ?_|with_reducible refine wpAny_madeBy_exc hC ?_|wp_step)
 refine codeAny_call_builtin_code (iH _ Fn.quiet) (wpAny_check_new_subU Fn hBn T hC (codeAny_exc_new_subU Fn hBn F T hC ?_ XN));have kp:∀b o,h.get? b=Fa o->((h.push {cls:=.type "tuple",data:=.seq us.toArray}).push (O5 C h.objs.size)).get? b=Fa o:=λb o z=>dv _ (dv _ z);have gE:((h.push {cls:=.type "tuple",data:=.seq us.toArray}).push (O5 C h.objs.size)).get? (h.objs.size+1)=Fa (O5 C h.objs.size):=by heap_get
 have hC2:=kp _ _ hC;have hn2:((h.push {cls:=.type "tuple",data:=.seq us.toArray}).push (O5 C h.objs.size)).Ns N mN:=let⟨o,es,ep,e,r⟩:=hn;⟨o,es,ep,kp _ _ e,r⟩;have cC:(Value.ref C::bm).contains (.ref C)=pc:=by rw[iK,fg,il]
 have T2:=T.keeps kp;show Ch _ _ _ _ _ _;unfold isInstance
 repeat (first|with_reducible refine ij gE ?_|(with_reducible refine kZ hC2 ?_;rw[cC])|wp_step)
 show Ch _ _ (typeLookup (.ref C) _) _ _ _;refine wpAny_typeLookup_tail hC2 hn2 T2 F.mroIs F.init.lookup ?_;rw[hi];refine eJ (de ?_);unfold bindSpecial;refine de (jT (T:="function") ⟨_,kp _ _ hf,hfc⟩ ?_);rw[dw (by decide)];refine dz (de (eF (hq _ (h.objs.size+1) ⟨kp,gU (gq _),h.objs.size,gE,gU (dC _),dv _ (Heap.get?_push_at Z' Z')⟩) (λr s' hr=>?_) λ_ _ z=>z));obtain⟨rfl,hQ⟩:=hr
 wp_walk
 exact hQ
def Jd(Fn:X' Bn newId zA bmN)(hBn:Za.contains (.type Bn)=pc)(F:X' B nid Yf Za)(T:OwnTail h Za bm){mN:QQZ}{us:T0 Vl}{fI:Uf}{oI:Obj}{Q:QQX} (hC:h.get? C=Fa (XXc nm q C N bs bm hdct sn sub ab col dd k0 k1 k2 k3 k5 newId)) (hn:h.Ns N mN) (hi:mN "__init__"=Fa (.ref fI)) (hf:h.get? fI=Fa oI) (hfc:oI.cls=.type "function") (XN:us.length<=pi) (hq:∀h' e,Heap.MadeExcOf h h' e (.ref C) us->Ch (Tk prog w) (A.under (.builtin "type.__call__" ⟨.ref C::us,[]⟩)) (call (.ref fI) (.ref e::us)) (λr s'=>r=.none/\Q (.ref e) s') E ⟨h',g,d,t,os⟩):
  Ch (Tk prog w) A (call (.ref C) us) Q E ⟨h,g,d,t,os⟩:=by
 have f1:=tc_lookup;have f2:=tc_bind (.ref C);have hT:(⟨h,g,d,t,os⟩:Sd).TypeIs (.ref C) "type":=⟨_,hC,Z'⟩;refine ip (ke ?_);show Ch _ _ (callAny (.ref C) _) _ _ _
 repeat (any_goals(first|assumption|with_reducible refine ij hC ?_|wp_step))
 exact⟨Z',codeAny_call_builtin_at (iH _ (by decide+kernel)) entry_typeCall (wpAny_check_type_call_sub hC (Bj Fn hBn F T hC hn hi hf hfc XN hq))⟩
end
variable {M:Model}{env:Env}
section
variable {E:QQX}{N:Uf}
def Jw(h:No)(e C:Uf)(dx:Option Uf):Prop:=AU λt sl=>h.get? e=Fa ⟨.ref C,dx,.fields #[.ref t,.none,.none,.none,.bool lf,.none],sl⟩
def GN{x:Sem Vl}{Q:Flow->Sd->Prop}(XX:bm.contains (.type "BaseException")=pc)(hh:A.handled=Db) (h:Ch M A x (λv s₁=>∃e dx,v=.ref e/\s₁.heap.get? C=Fa (XXc nm q C N bs bm hdct sn sub ab col dd k0 k1 k2 k3 k5 newId)/\Jw s₁.heap e C dx/\E (.ref e) s₁) E s):
  Ch M A (raiseStmt env (Fa x) Db) Q E s:=by
 have cB:(Value.ref C::bm).contains (.type "BaseException")=pc:=by rw[iK,XX,lF]
 unfold raiseStmt;refine de (eF h (λv s₁ ⟨e,dx,ev,hC,⟨t,sl,he⟩,hE⟩=>?_) λ_ _ z=>z);subst ev;obtain⟨hp,g,d,tk,os⟩:=s₁
 repeat (first|with_reducible refine ij he ?_|with_reducible refine ij hC ?_|(with_reducible refine kZ hC ?_;rw[cB])|wp_step)
 exact wpAny_raiseNew_none hh hE
def G2(Fn:X' Bn newId zA bmN)(hBn:Za.contains (.type Bn)=pc)(F:X' B nid Yf Za){mN:QQZ}{fI:Uf}{x:Str}{np XO pos:Pos}{args:T0 Go}{Q:Flow->Sd->Prop} (XX:bm.contains (.type "BaseException")=pc) (hh:A.handled=Db) (X2:(sB XO (Tl args env)).any (·.1)=lf) (hi:mN "__init__"=Fa (.ref fI)) (h:Ch (Tk prog w) A (wp (.Name x np) env) (λf s₁=>f=.ref C/\Ch (Tk prog w) A (evalArgs (.ref C) pc (sB XO (Tl args env)) []) (λa s₂=>a.kw=[]/\a.pos.length<=pi/\s₂.heap.get? C=Fa (XXc nm q C N bs bm hdct sn sub ab col dd k0 k1 k2 k3 k5 newId)/\s₂.heap.Ns N mN/\OwnTail s₂.heap Za bm/\(∃oI,s₂.heap.get? fI=Fa oI/\oI.cls=.type "function")/\
    ∀h' e,Heap.MadeExcOf s₂.heap h' e (.ref C) a.pos->Ch (Tk prog w) (A.under (.builtin "type.__call__" ⟨.ref C::a.pos,[]⟩)) (call (.ref fI) (.ref e::a.pos))
     (λr s'=>r=.none/\∃dx,s'.heap.get? C=Fa (XXc nm q C N bs bm hdct sn sub ab col dd k0 k1 k2 k3 k5 newId)/\Jw s'.heap e C dx/\E (.ref e) s') E {s₂ with heap:=h'}) E s₁) E s):
  Ch (Tk prog w) A (exec (.Raise (Fa (.Call (.Name x np) args [] XO)) Db pos) env) Q E s:=by
 rw[arm_exec_Raise];refine de (hJ (GN (C:=C) (nm:=nm) (q:=q) (N:=N) (bs:=bs) (bm:=bm) (hdct:=hdct) (sn:=sn) (sub:=sub) (ab:=ab) (col:=col) (dd:=dd) (k0:=k0) (k1:=k1) (k2:=k2) (k3:=k3) (k5:=k5) (newId:=newId) XX hh ?_));refine de (eF (wpAny_Call_ofName (eF h (λf s₁ ⟨ef,h₁⟩=>?_) λ_ _ z=>z)) (λv s₃ h₃=>de (hJ (dz h₃))) λ_ _ z=>z);subst ef;unfold XXi;refine de (eJ (eF h₁ (λa s₂ h₂=>de (hJ ?_)) λ_ _ z=>z));obtain⟨XI,akw⟩:=a;obtain⟨hkw,XN,hC,hn,T,⟨oI,hf,hfc⟩,h₂⟩:=h₂;obtain rfl:akw=[]:=hkw;obtain⟨hp,g,d,tk,os⟩:=s₂;simp only[X2];refine de (wpAny_keeperOf_exc hC (de (Jd Fn hBn F T hC hn hi hf hfc XN λh' e hm=>eF (h₂ h' e hm) (λr s' ⟨z,dx,c1,c2,c3⟩=>⟨z,de (eJ (wpAny_point (dz ⟨e,dx,Z',c1,c2,c3⟩)))⟩) λ_ _ z=>z)))
end
def x0(a C:Uf)(h:No):Prop:=Jw h a C Db
def x1(a C d:Uf)(h:No):Prop:=Jw h a C (Fa d)
structure zo(K:qL)(C:Uf)(f:Str):Prop where
 sa:W.findIn K (.ref C) "__setattr__"=Fa (Fa (.builtin "object.__setattr__"))
 cd:∃cd own,W.clsIn K C=Fa cd/\cd.mro=List.map Value.ref own++Of/\cd.hasDict=pc
 tk:W.takerIn K C f=Fa Db
variable {X:Cx}{XF:T0 (Uf × Obj)}{Y σ':St}{H H1:Hp}{s1:Sd}{a:Uf}
section
variable {f:Str}
def Hd{A:Ar}{E:QQX}{Q:Unit->Sd->Prop}(I:Inv X XF Y H s)(e:H a=Fa (.ext (x0 a C)))(ry:ra y u)(st:zo X.K C f)(h:∀d s',H d=Db->d≠a->Inv X XF Y (upd (upd H a (.ext (x1 a C d))) d (.ext (ON d f y))) s'->Q () s'):Ch (Tk X.prog X.w) A (setAttr (.ref a) f u) Q E s:=by obtain⟨⟨t,sl,ho⟩,_,_⟩:=I.nB a _ e;obtain⟨cd,own,c1,c2,c3⟩:=st.cd;refine P0 I.nO ⟨ho,Z',Z',trivial⟩ st.sa c1 c2 st.tk c3 λh' d tk k1 k2 dn da n1=>h d _ (zv I.nB dn) da ?_;have I2:=I.write (t':=tk) (x:=a) (e:=a) (o:=.ext (x1 a C d)) (by rw[e];exact True.intro) (.inl Z') k1 ⟨_,k2⟩ ⟨⟨t,sl,k2⟩,⟨_,k2⟩,λh1 h2 ⟨t',Zc,z⟩ kk=>⟨t',Zc,kk _ z⟩⟩;refine I2.adopt I dn (by rw[qw da];exact zv I.nB dn) ⟨⟨u,n1,ry⟩,?_,λh1 h2 ⟨u,n,r⟩ kk=>⟨u,n.at kk,r⟩⟩;obtain⟨o,_,_,z,_⟩:=n1;exact⟨o,z⟩
def Inv.drop{φ:No->Prop}(I:Inv X XF Y H s)(ea:H a=Fa (.ext φ)):Inv X XF Y (λb=>if b=a then Db else H b) s:=by
 have less:∀b,H b=Db->(if b=a then Db else H b)=Db:=λb e=>by split<;>first|rfl|exact e
 have keep:∀b o,H b=Fa o->(∀φ,o≠.ext φ)->(if b=a then Db else H b)=Fa o:=λb o e n=>by
  rw[dq]
  .exact e
  .intro z;rw[z,ea]at e;exact n φ (dB e).symm
 refine⟨I.ok,I.os,I.bare,⟨I.base.keep,I.base.slot,λb o e h0 hb=>less b (I.base.free b o e h0 hb),I.base.there,λb xs e=>keep b _ (I.base.n9 b xs e) (λ_ z=>nomatch z),λb o u e=>keep b _ (I.base.nU b o u e) (λ_ z=>nomatch z),λb ps e=>?_⟩,I.loc,I.cell,less _ I.free,λx c e=>less _ (I.nK x c e),λp hp=>⟨(I.pin p hp).1,less _ (I.pin p hp).2.1,(I.pin p hp).2.2⟩,λb ob e=>?_,I.len⟩
 .obtain⟨more,z⟩:=I.base.oh b ps e;exact⟨more,keep b _ z (λ_ z=>nomatch z)⟩
 .have e':H b=Fa ob:=by
   by_cases z:b=a
   .rw[dw z]at e;cases e
   .rw[dq z]at e;exact e
  exact(I.nB b ob e').nR (λ_ _ _ q=>q) (λb' q=>keep b' _ q (λ_ z=>nomatch z)) λb' xs q=>keep b' _ q (λ_ z=>nomatch z)
end
def OH(K:qL)(ta tv:TE)(f:Str):TS:=λD Y H=>tv Y H λy H1=>ta Y H1 λx H2=>∃a C,x=.ref a/\H2 a=Fa (.ext (x0 a C))/\zo K C f/\∀d,H2 d=Db->d≠a->D.nx Y (upd (upd H2 a (.ext (x1 a C d))) d (.ext (ON d f y)))
def Pa{f:Str}{pos XQ:Pos}{ta tv:TE}(ha:PE X o ta)(hv:PE X value tv)(hs:ZB value (Fa (.Attribute o f XQ)) pos.line X.env=pure lf:=by rfl):PS X (.Assign [.Attribute o f XQ] value pos) (OH X.K ta tv f):=by intro XF s Y H D I h;refine iW (sX (hv XF s Y H _ I h) λu s1 zz=>x5 zz λy H1 I1 ry q=>sX (ha XF s1 Y H1 _ I1 q) λov s2 zz=>?_) hs;obtain⟨x,H2,I2,rx,a,C,ex,ea,st,q2⟩:=zz;subst ex;obtain rfl:ov=Value.ref a:=rx;exact Hd I2 ea ry st λd s3 dn da I3=>⟨Y,_,I3,q2 d dn da⟩
def wQ(K:qL)(f:Str):Sp:=λvs H Q _=>BV λe C y=>vs=[.ref e,y]/\H e=Fa (.ext (x0 e C))/\zo K C f/\∀d,H d=Db->d≠e->Q .nz (upd (upd H e (.ext (x1 e C d))) d (.ext (ON d f y)))
variable {qual:Str}{scope:XXe}{outer:T0 Env}{s0:Sd}{H0:Hp}{P:Pg}{mg:QQZ}{base:No}
section
def NI{x qual y1 y2 fl:Str}{st:wE}(F:OX K x qual st f fd)(S:tL [y1,y2] [y1,y2] (qD st)) (hb:∀(XS:Vl) (A:Ar) (outer:T0 Env) (s:Sd) (H:Hp) (E:XK),BX (vI (C4 P w) P w K mg base [y1,y2] qual (qD st) f XS A outer s H E) (sE st) (OH K (E4 0) (E4 1) fl)):xO P w K mg base (C4 P w) 1 f fd [y1,y2] (wQ K fl):=by
 obtain⟨oc,od,kV,Ym,pm,an,XS,ct,YE,rfl,lk,YJ⟩:=F.ex;refine Mz lk YJ S (λvs H Q E h=>?_) λA outer s H vs Q' E hr h=>⟨_,hb XS A outer s H E,?_⟩
 .obtain⟨e,C,y,rfl,_⟩:=h;rfl
 .obtain⟨e,C,y,rfl,h1,h2,q⟩:=h;exact⟨y,Z',.ref e,Z',e,C,Z',h1,h2,q⟩
def Ke(K:qL)(C fI:Uf):Prop:=
 ∃nm q N bs bm Za hdct sn sub ab col dd k0 k1 k2 k3 k5,∃B Bn newId nid Yf zA:String,∃bmN,∃mN:QQZ,X' Bn newId zA bmN/\Za.contains (Value.type Bn)=pc/\X' B nid Yf Za/\bm.contains (Value.type "BaseException")=pc/\mN "__init__"=Fa (.ref fI)/\
  ∀h:No,K.In h->h.get? C=Fa (XXc nm q C N bs bm hdct sn sub ab col dd k0 k1 k2 k3 k5 newId)/\h.Ns N mN/\OwnTail h Za bm/\∃oI,h.get? fI=Fa oI/\oI.cls=.type "function"
variable {N:QQQ}{f:Uf}{cd:Vl}{E:XK}
def K6{X:Cx}(hX:X=vI (C4 P w) P w K mg base N qual scope f cd A outer s0 H0 E){C fI:Uf}{fdI:wv}{ps:QQQ}{fl:Str}{k:Nat}{x:Str}{np XO pos:Pos}{e:Go}{ta:TA}(hC:Ke X.K C fI)(F:xO X.prog X.w X.K X.mg X.base (C4 X.prog X.w) k fI fdI ps (wQ X.K fl))(hr:sI (k+1) X.A)(hb:vj X.K fdI ps [])(st:zo X.K C fl) (hg:Gl X x) (hm:X.mg x=Fa (.ref C)) (ha:PA X [e] ta) (hs:Tl [e] X.env=[(lf,wp e X.env)]:=by rfl) (X4:yW x:=by decide):
  PS X (.Raise (Fa (.Call (.Name x np) [e] [] XO)) Db pos) (λ_ Y H=>ta Y H λvs H1=>∃y,vs=[y]/\∀d,H1 d=Db->E (.ref C) (Fa d) (upd H1 d (.ext (ON d fl y)))):=by
 intro XF s Y H D I h;obtain⟨nm,q,N',bs,bm,Za,hdct,sn,sub,ab,col,dd,k0,k1,k2,k3,k5,B,Bn,newId,nid,Yf,zA,bmN,mN,f1,f2,f3,f4,f5,ZF⟩:=hC;have hcalm:X.A.handled=Db:=I.ok.hd (by rw[hX];rfl);refine G2 (nm:=nm) (q:=q) (N:=N') (bs:=bs) (hdct:=hdct) (sn:=sn) (sub:=sub) (ab:=ab) (col:=col) (dd:=dd) (k0:=k0) (k1:=k1) (k2:=k2) (k3:=k3) (k5:=k5) f1 f2 f3 f4 hcalm (by rw[hs];rfl) f5 (xF I hg hm ⟨Z',?_⟩ X4);rw[hs];refine evalArgs_kwB Z' ?_;have Zk:=ha XO XF s Y H _ I h;rw[hs]at Zk;refine sX Zk λus s1 zz=>?_;obtain⟨vs,H1,I1,r1,y,ey,q1⟩:=zz;subst ey;obtain⟨u,rfl,ru⟩:=xM r1;refine wpAny_evalAll_nil ?_;obtain⟨c1,c2,c3,c4⟩:=ZF s1.heap I1.nO;refine⟨Z',by show 1<=pi;rw[dR];decide,c1,c2,c3,c4,λh' e' md=>?_⟩;obtain⟨mk,mn,t,mt,_⟩:=md;have hn:H1 e'=Db:=zv I1.nB mn;have I2:Inv X XF Y H1 {s1 with heap:=h'}:=I1.kept (t':=s1.toks) mk;have I3:Inv X XF Y (upd H1 e' (.ext (x0 e' C))) {s1 with heap:=h'}:=I2.adopt I1 mn hn ⟨⟨t,_,mt⟩,⟨_,mt⟩,λh1 h2 ⟨t',Zc,z⟩ kk=>⟨t',Zc,kk _ z⟩⟩;have r2:qO [V.ref e',y] [Value.ref e',u]:=.cons Z' (.cons ru .nil);have Zd:wQ X.K fl [V.ref e',y] (upd H1 e' (.ext (x0 e' C))) (λv H2=>v=.nz/\∃d,d≠e'/\H1 d=Db/\H2=upd (upd H1 e' (.ext (x1 e' C d))) d (.ext (ON d fl y))) (λ_ _ _=>False):=⟨e',C,y,Z',qB,st,λd dn da=>⟨Z',d,da,by rw[qw da]at dn;exact dn,by rw[QS]⟩⟩;have hl:([Value.ref e',u]:T0 Vl).length=ps.length:=by rw[<-r2.length];exact F.len _ _ _ _ Zd
 refine ip (gy (F.run _ X.stack _ _ ⟨[Value.ref e',u],[]⟩ [Value.ref e',u] _ _ _ (hr.make C [u] []) (I3.oP.make C [u] []) (hb _ [Value.ref e',u] I3.nO hl) r2 Zd) λr s' Zq=>?_);cases r with
 | error ev=>obtain⟨_,_,_,_,_,_,z,_⟩:=Zq;exact z.elim
 | ok fw=>
  cases fw with
  | ret uv=>
   obtain⟨v,H',I4,rv,ev,d,da,dn,eH⟩:=I3.after Zq;subst ev eH;obtain⟨⟨t',Zc,md⟩,_,_⟩:=I4.nB e' _ (by rw[qw (dW da)];exact qB);have I5:Inv X XF Y (upd H1 d (.ext (ON d fl y))) _:=(funext λb=>by
    by_cases z:b=e'
    .subst z;rw[dw Z',qw (dW da),hn]
    .rw[dq z];by_cases z2:b=d
     .subst z2;rw[qB,qB]
     .rw[qw z2,qw z2,qw z]:(λb=>if b=e' then Db else upd (upd H1 e' (.ext (x1 e' C d))) d (.ext (ON d fl y)) b)=upd H1 d (.ext (ON d fl y))) ▸ I4.drop (a:=e') (φ:=x1 e' C d) (by rw[qw (dW da)];exact qB)
   refine⟨rv,Fa d,(ZF s'.heap I4.nO).1,⟨t',Zc,md⟩,?_⟩;subst hX;have Yc:Un (wI outer) [] H0 H1 s0.heap s1.heap:=I1.base;exact UR I5 (tb:=none) ⟨_,_,md,Z',Z',Z',(by show 1<6;decide),Z',λT z=>by cases z⟩ (GH Yc Z' mn) (λT z=>by cases z) (by rw[qw (dW da)];exact hn) (q1 d dn)
  | next=>exact False.elim Zq
  | brk=>exact False.elim Zq
  | cont=>exact False.elim Zq
end
end L2
namespace L3
open L2
variable {P:Pg}{w:Wo}{K:qL}{mg:QQZ}{base:No}{N:QQQ}{qual:Str}{scope:XXe}{f:Uf}{cd:Vl}{A:Ar}{outer:T0 Env}{s0:Sd}{H0:Hp}{E:XK}{x:Str}{np XO pos:Pos}{e:Go}{C fI:Uf}{fdI:wv}{ps:QQQ}{fl:Str}{k:Nat}{R:XR}{ta:xP}
def Rf(C:Uf)(R:XR)(f:Str)(ta:xP):yl:=λ_ U M=>ta U M λds M1=>∃z,ds=[z]/\R C (Fa (f,z)) M1
def KS(hC:Ke K C fI)(F:xO P w K mg base (C4 P w) k fI fdI ps (wQ K fl))(hr:sI (k+1) (vI (C4 P w) P w K mg base N qual scope f cd A outer s0 H0 E).A)(hb:vj K fdI ps [])(st:zo K C fl)(_:W.findIn K (.ref C) "__init__"=Fa (Fa (.ref fI)))(hg:Gl (vI (C4 P w) P w K mg base N qual scope f cd A outer s0 H0 E) x)(hm:mg x=Fa (.ref C))(hR:VF K R E)(ha:A3 (vI (C4 P w) P w K mg base N qual scope f cd A outer s0 H0 E) [e] ta) (hs:Tl [e] (vI (C4 P w) P w K mg base N qual scope f cd A outer s0 H0 E).env=[(lf,wp e (vI (C4 P w) P w K mg base N qual scope f cd A outer s0 H0 E).env)]:=by rfl) (X4:yW x:=by decide):
  S3 (vI (C4 P w) P w K mg base N qual scope f cd A outer s0 H0 E) (.Raise (Fa (.Call (.Name x np) [e] [] XO)) Db pos) (Rf C R fl ta):=
 PS.mono (K6 Z' hC F hr hb st hg hm ha hs X4) λD' Y H ⟨U,M,D,hs,hm,ht,_⟩=>⟨U,M,_,hs,hm,ht,λvs H1 ds M1 hd XH e1 q1=>by
  obtain⟨z,rfl,r⟩:=q1;obtain⟨v,rfl,hv⟩:=sD hd;exact⟨v,Z',λd dn=>hR C (Fa d) _ M1 _ (XH.add dn) (.inr ⟨d,fl,z,v,Z',Z',qB,hv.mono (.new dn)⟩) r⟩⟩
variable {X:Cx}{b₀:wE}{Y9:T0 wE}{cn:Str}{cnp Zf epos:Pos}{Cc L:Uf}{te:Ua}{th:yl}
end L3
namespace L2
def NP{K:qL}{C C2 N fI:Uf}{nm q:Str}{bs sub:T0 Vl}{hdct ab:Bool}{sn:QQQ}{col:Option Bool}{dd od1 od2 dd2:Option Uf}{k0 k1 k2 k3 k5:Option Vl}{oc1 oc2 c0:Vl}{es1 es2:Array DictEntry}{ep1 ep2:Nat}{sl1 sl2 Wx:Array (Option Vl)}{cd2:ClassData}{oI:Obj} (l1:K.lookup C=Fa (XXc nm q C N bs (.ref C2::Of) hdct sn sub ab col dd k0 k1 k2 k3 k5 "ValueError.__new__")) (n1:K.lookup N=Fa ⟨oc1,od1,.dict es1 ep1,sl1⟩) (s1:CN es1=pc) (i1:nsFind es1 "__init__"=Fa (.ref fI)) (l2:K.lookup C2=Fa ⟨c0,dd2,.cls cd2,Wx⟩) (n2:K.lookup cd2.ns=Fa ⟨oc2,od2,.dict es2 ep2,sl2⟩) (s2:CN es2=pc) (i2:nsFind es2 "__init__"=Db) (l3:K.lookup fI=Fa oI) (hf:W.isFn K (.ref fI)=pc):Ke K C fI:=by
 have hc:oI.cls=.type "function":=by have hf:=ft.mp hf;unfold W.typeIn at hf;simp only at hf;rw[l3]at hf;exact dB hf
 refine⟨nm,q,N,bs,.ref C2::Of,Of,hdct,sn,sub,ab,col,dd,k0,k1,k2,k3,k5,"ValueError","ValueError","ValueError.__new__","ValueError.__new__","ValueError.__init__","ValueError.__init__",Of,λn=>nsFind es1 n,kN,by decide+kernel,kN,?_,i1,λh X=>⟨X C _ l1,⟨_,es1,ep1,X N _ n1,Z',Ck s1,λ_=>rfl⟩,.own (X C2 _ l2) ⟨_,es2,ep2,X _ _ n2,Z',Ck s2,λ_=>rfl⟩ i2 .base,oI,X fI _ l3,hc⟩⟩;rw[iK];have:Of.contains (.type "BaseException")=pc:=by decide+kernel
 rw[this,lF]
def Ln{K:qL}{C C2 N:Uf}{nm q f:Str}{bs sub:T0 Vl}{ab:Bool}{sn:QQQ}{col:Option Bool}{dd:Option Uf}{k0 k1 k2 k3 k5:Option Vl}(l1:K.lookup C=Fa (XXc nm q C N bs (.ref C2::Of) pc sn sub ab col dd k0 k1 k2 k3 k5 "ValueError.__new__"))(sa:W.findIn K (.ref C) "__setattr__"=Fa (Fa (.builtin "object.__setattr__")))(tk:W.findIn K (.ref C) f=Fa Db):zo K C f:=by refine⟨sa,⟨_,[C,C2],by unfold W.clsIn;rw[l1],Z',Z'⟩,?_⟩;unfold W.takerIn;rw[tk];rfl
end L2
namespace L3
open L2
variable {X:Cx}{pos XI:Pos}{o e:Go}{es:T0 Go}{ta:T3}{t:xP}
structure FA where
 f:Uf
 d:wv
 p:QQQ
structure DG(K:qL)(st:wE)(py qual:Str)(ps:QQQ)(x:FA):Prop where
 pe:x.p=ps
 fn:OX K py qual st x.f x.d
 b:vj K x.d x.p []
 ty:W.isFn K (.ref x.f)=pc
structure TG(K:qL)(mg:QQZ)(st:wE)(py:Str)(ps:QQQ)(x:FA):Prop extends DG K st py py ps x where
 mg:mg py=Fa (.ref x.f)
structure MG(K:qL)(C:Uf)(st:wE)(py qual:Str)(ps:QQQ)(x:FA):Prop extends DG K st py qual ps x where
 at_:W.findIn K (.ref C) py=Fa (Fa (.ref x.f))
structure CG(K:qL)(mg:QQZ)(nm:Str)(C:Uf):Prop extends Cls K C where
 mg:mg nm=Fa (.ref C)
def DG.kp{K:qL}{st:wE}{x:FA}(h:DG K st py qual ps x):W.keepIn K (.ref x.f)=pc:=h.fn.kp
def MG.nS{K:qL}{st:wE}{x:FA}(h:MG K C st py qual ps x):vX K C py x.f:=⟨h.at_,h.ty,h.toDG.kp⟩
def zT(K:qL)(C:Uf)(fs:QQQ):Prop:=∀f,fs.contains f=pc->uH K C f
def tW{K:qL}:zT K C []:=λf h=>by simp at h
def qo{K:qL}{C:Uf}{g:Str}(h:W.findIn K (.ref C) g=Fa Db)(r:zT K C fs):zT K C (g::fs):=λf q=>by
 rw[iK,ia]at q;rcases q with q|q
 .rw[Ix q];exact h
 .exact r f q
abbrev Fq(P:Pg)(w:Wo)(K:qL)(mg:QQZ)(base:No)(k:Nat)(x:FA)(sp:rL):Prop:=Ud P w K mg base k x.f x.d x.p sp
abbrev V6(P:Pg)(w:Wo)(K:qL)(mg:QQZ)(base:No)(k:Nat)(x:FA)(sp:Gp):Prop:=Td P w K mg base k x.f x.d x.p sp
def SQ(N P:QQQ)(sc:XXe):Bool:=sc.kind==.function&&(!sc.isCoroutine&&(!sc.isGenerator&&(decide N.Nodup&&(decide (N.take P.length=P)&&((P.all λx=>sc.names.lookup x==Fa .local||sc.names.lookup x==Fa .cell)&&sc.names.all λy=>!(y.2==.free))))))
def XD{N P:QQQ}(h:SQ N P sc=pc):tL N P sc:=by
 unfold SQ at h;simp only[d6,gT,ft,eG]at h;obtain⟨h1,h2,h3,h4,h5,h6,h7⟩:=h;refine⟨h1,h2,h3,h4,h5,λx hx=>?_,λy hy e=>?_⟩
 .have:=eR.mp h6 x hx
  simpa using this
 .have:=eR.mp h7 y hy;rw[e]at this;simp at this
variable {P:Pg}{w:Wo}{K:qL}{mg:QQZ}{base:No}
def Wz{st:wE}{sp:rL}(F:DG K st x qual ps fa)(S:tL N ps (qD st))(len:∀ds M Q,sp ds M Q->ds.length=ps.length) (X7:∀(XS:Vl) (A:Ar) (outer:T0 Env) (s:Sd) (H:Hp) (E:XK),sI k (A.deeper (dL qual (qD st) s.heap.objs.size fa.f XS))->
   ∃t,IA (vI OM P w K mg base N qual (qD st) fa.f XS A outer s H E).pf (sE st) t/\∀ds M Q,sp ds M Q->t {nx:=λ_ M'=>∃XM,qQ XM M'/\Q .nz XM,rt:=λd M'=>∃XM,qQ XM M'/\Q d XM} (w9 N ds) M):Fq P w K mg base (k+1) fa sp:=by
 unfold Fq;rw[F.pe];exact Uy F.fn S len X7
def UB{st:wE}{sp:Gp}(F:DG K st x qual ps fa)(S:tL N ps (qD st))(len:∀ds M Q R,sp ds M Q R->ds.length=ps.length) (X7:∀(XS:Vl) (A:Ar) (outer:T0 Env) (s:Sd) (H:Hp) (E:XK) (R:XR),sI k (A.deeper (dL qual (qD st) s.heap.objs.size fa.f XS))->VF K R E->
   ∃t,IA (vI (C4 P w) P w K mg base N qual (qD st) fa.f XS A outer s H E) (sE st) t/\∀ds M Q,sp ds M Q R->t {nx:=λ_ M'=>∃XM,qQ XM M'/\Q .nz XM,rt:=λd M'=>∃XM,qQ XM M'/\Q d XM} (w9 N ds) M):V6 P w K mg base (k+1) fa sp:=by
 unfold V6;rw[F.pe];exact UI F.fn S len X7
variable {k n:Nat}{f C:Uf}{fa:FA}{st:wE}{qual:Str}{ps:QQQ}{sp:rL}{x m:Str}{p:Pos}
def qa(F:Fq X.prog X.w X.K X.mg X.base k fa sp)(hr:sI n X.A)(T:TG X.K X.mg st x ps fa)(ha:A3 X (e::es) t)(hn:k<=n:=by first|decide|omega)(hg:Gl X x:=by rfl)
  (X4:yW x:=by decide) (he:Bx X e es:=by rfl) (X0:Dh X pos es:=by rfl):
  E3 X (.Call (.Name x p) (e::es) [] pos) (Eb sp t):=QT F (hr.mono hn) hg T.mg T.toDG.kp T.b ha X4 he X0
def vK(F:Fq X.prog X.w X.K X.mg X.base k fa sp)(hr:sI n X.A)(c:CG X.K X.mg x C)(i:Mk X.K C fa.f)(T:DG X.K st m qual ps fa)(ha:A3 X (e::es) t)(hn:k+1<=n:=by first|decide|omega)(hg:Gl X x:=by rfl)
  (X4:yW x:=by decide) (he:Bx X e es:=by rfl) (X0:Dh X pos es:=by rfl):
  E3 X (.Call (.Name x p) (e::es) [] pos) (Rm C sp t):=PB c.toCls i F (hr.mono hn) hg c.mg T.b ha X4 he X0
def qv{pl:Sem Bool}(he:E3 X o ta)(c:Cls X.K C)(T:MG X.K C st m qual ps fa)(F:Fq X.prog X.w X.K X.mg X.base k fa sp)(hr:sI n X.A)(ha:A3 X (e::es) t)(hn:k<=n:=by first|decide|omega)
  (X6:Bx X e es:=by rfl) (X0:Dh X pos es:=by rfl)
  (ht:wp (.Call (.Attribute o m XI) (e::es) [] pos) X.env=(do
   let ov<-wp o X.env
   XXd XI.atName
   let(f,first)<-TD [ov] (TW ov m pl)
   XXi pos f first (sB pos (Tl (e::es) X.env)) (xL pos (Rs [] X.env))):=by rfl):
  E3 X (.Call (.Attribute o m XI) (e::es) [] pos) (AR m (λD s=>D=C/\s=sp) ta t):=
 F1 (R:=λD s=>D=C/\s=sp) he (λD s ⟨e1,e2⟩=>by subst e1 e2;exact⟨c,_,_,_,T.nS,F,T.b⟩) (hr.mono hn) ha X6 X0 ht
def yD{pl:Sem Bool}(he:E3 X o ta)(c:Cls X.K C)(T:MG X.K C st m qual ps fa)(F:Fq X.prog X.w X.K X.mg X.base k fa sp)(hr:sI n X.A)(hn:k<=n:=by first|decide|omega)
  (ht:wp (.Call (.Attribute o m XI) [] [] pos) X.env=(do
   let ov<-wp o X.env
   XXd XI.atName
   let(f,first)<-TD [ov] (TW ov m pl)
   XXi pos f first (sB pos (Tl [] X.env)) (xL pos (Rs [] X.env))):=by rfl):
  E3 X (.Call (.Attribute o m XI) [] [] pos) (AR m (λD s=>D=C/\s=sp) ta yi):=
 Cs (R:=λD s=>D=C/\s=sp) he (λD s ⟨e1,e2⟩=>by subst e1 e2;exact⟨c,_,_,_,T.nS,F,T.b⟩) (hr.mono hn) ht
def zh{pl:Sem Bool}(cm:Nn X.K C m fa.f)(F:Fq X.prog X.w X.K X.mg X.base k fa sp)(hr:sI n X.A)(c:CG X.K X.mg x C)(T:DG X.K st m qual ps fa)(ha:A3 X (e::es) t)(hn:k<=n:=by first|decide|omega)(hg:Gl X x:=by rfl)
  (X4:yW x:=by decide) (X6:Bx X e es:=by rfl) (X0:Dh X pos es:=by rfl)
  (ht:wp (.Call (.Attribute (.Name x p) m XI) (e::es) [] pos) X.env=(do
   let ov<-wp (.Name x p) X.env
   XXd XI.atName
   let(f,first)<-TD [ov] (TW ov m pl)
   XXi pos f first (sB pos (Tl (e::es) X.env)) (xL pos (Rs [] X.env))):=by rfl):
  E3 X (.Call (.Attribute (.Name x p) m XI) (e::es) [] pos) (Eb sp t):=PD cm F (hr.mono hn) hg c.mg T.kp T.b ha X4 X6 X0 ht
variable {h:No}{py:Str}{od an:Option Uf}{sl:Array (Option Vl)}{kv dc pm cd ct:Vl}
def JF{fd:wv}{oc:Vl}(l:K.lookup f=Fa ⟨oc,od,.func fd,sl⟩):W.keepIn K (.ref f)=pc:=by unfold W.keepIn;simp only;rw[l]
def QU{fd:wv}(l:K.lookup f=Fa ⟨.type "function",od,.func fd,sl⟩):W.isFn K (.ref f)=pc:=by unfold W.isFn W.typeIn;simp only;rw[l];rfl
abbrev nG(py qual:Str)(st:wE)(ps:QQQ):Prop:=∀(kV Ym pm:Vl) (an:Option Uf) (XS ct:Vl) (us:T0 Vl),us.length=ps.length->bindArgs (W.fnOf py qual (uN st) (sE st) (qD st) .none kV Ym pm an XS ct) ⟨us,[]⟩=pure (ps.zip us)
def RD(l:K.lookup f=Fa ⟨.type "function",od,.func (W.fnOf py qual (uN st) (sE st) (qD st) .none kv dc pm an cd ct),sl⟩)(k:W.codeIn K cd qual=pc)(hb:nG py qual st ps):
  DG K st py qual ps ⟨f,W.fnOf py qual (uN st) (sE st) (qD st) .none kv dc pm an cd ct,ps⟩:=⟨Z',L' l k (JF l),(L' l k (JF l)).binds hb,QU l⟩
def qI(X:K.In h)(G:h.Ns xz mg)(a:W.nsIn K xz py=Fa (Fa (.ref f)))(l:K.lookup f=Fa ⟨.type "function",od,.func (W.fnOf py py (uN st) (sE st) (qD st) .none kv dc pm an cd ct),sl⟩)(k:W.codeIn K cd py=pc)(hb:nG py py st ps):
  TG K mg st py ps ⟨f,W.fnOf py py (uN st) (sE st) (qD st) .none kv dc pm an cd ct,ps⟩:=⟨RD l k hb,W.mg_of X G a⟩
def qA(a:W.findIn K (.ref C) py=Fa (Fa (.ref f)))(l:K.lookup f=Fa ⟨.type "function",od,.func (W.fnOf py qual (uN st) (sE st) (qD st) .none kv dc pm an cd ct),sl⟩)(k:W.codeIn K cd qual=pc)(hb:nG py qual st ps):
  MG K C st py qual ps ⟨f,W.fnOf py qual (uN st) (sE st) (qD st) .none kv dc pm an cd ct,ps⟩:=⟨RD l k hb,a⟩
def wU(X:K.In h)(G:h.Ns xz mg)(a:W.nsIn K xz py=Fa (Fa (.ref C)))(h1:W.plainGet K C Str.empty=pc)(h2:W.hasDictIn K C=pc)(h3:W.plainOver K C=pc)(h4:W.findIn K (.ref C) "__setattr__"=Fa (Fa (.builtin "object.__setattr__"))):CG K mg py C:=⟨⟨h1,h2,h3,h4⟩,W.mg_of X G a⟩
def Vo(h1:(W.clsIn K C).isSome=pc)(h2:W.findIn K (.ref C) "__getattribute__"=Fa (Fa (.builtin "BaseException.__getattribute__")))(h3:W.findIn K (.ref C) "__getattr__"=Fa Db)(h4:W.findIn K (.ref C) "__class__"=Fa (Fa (.builtin "object.__class__"))) (h5:W.specialIn K (.builtin "object.__class__") "__get__"=Fa (Fa (.builtin "getset_descriptor.__get__"))) (h6:W.takesIn K (.builtin "object.__class__")=Fa pc) (h7:W.mroIn K C (.type "object")=Fa pc) (h8:W.mroIn K C (.type "BaseException")=Fa pc):LR K C:=⟨h1,h2,h3,h4,h5,h6,h7,h8⟩
def PZ{x:Str}{a:Uf}{es:T0 DictEntry}{ep:Nat}(h:mg x=Fa (.ref a))(s:(a==XV)=lf)(l:K.lookup a=Fa ⟨.type "dict",Db,.dict es.toArray ep,#[]⟩) (r:KTD.Rows (λ(ss:QQQ) v=>∃t,v=Value.ref t/\vE K (λ_=>Db) t (ss.map V.str)) es T):NW K mg x T:=⟨a,_,_,_,h,s,l,⟨Z',Z',Z'⟩,Z',by simpa using r⟩
def Nt{x qual y1 y2 fl:Str}{st:wE}(F:DG K st x qual [y1,y2] fa)(S:tL [y1,y2] [y1,y2] (qD st)) (hb:∀(XS:Vl) (A:Ar) (outer:T0 Env) (s:Sd) (H:Hp) (E:XK),BX (vI (C4 P w) P w K mg base [y1,y2] qual (qD st) fa.f XS A outer s H E) (sE st) (OH K (E4 0) (E4 1) fl)):xO P w K mg base (C4 P w) 1 fa.f fa.d fa.p (wQ K fl):=by
 rw[F.pe];exact NI F.fn S hb
def UH(ds:T0 D)(M:Mp)(Q:DK):Prop:=match ds with
 | [.ref a]=>(pI M a).elim False λes=>(Hk es).elim False λbs=>Q (.bl (bs.any id)) M
 | _=>False
def TN(hc:X.calm=pc):C3 X (.builtin "any") UH:=by
 intro XF s Y H vs us Q' I rv h;obtain⟨ds,M,Q,hd,hm,q,k⟩:=h;unfold UH at q;split at q
 .rename_i a;obtain⟨v,rfl,hv⟩:=sD hd;obtain⟨es,e0,q⟩:=rC q;obtain⟨bs,e1,q⟩:=rC q;cases hv.ni;obtain⟨u,rfl,ru⟩:=xM rv;cases ru;obtain⟨xs,h1,h2,_⟩:=qK hm e0;obtain⟨its,r,pl,hz⟩:=I.list h1;have eits:=FK e1 h2 r;subst eits;have X3:a≠s.heap.objs.size:=by obtain⟨o,_,e,_⟩:=pl;exact dN (dD e)
  refine call_any_walk (gR pl.isList ?_);refine⟨s.heap.objs.size,_,_,_,_,_,λi=>(bs[i]?).getD lf,Z',kK (A:=X.A.in1) (I.ok.hd hc) _ a X3 (bs.map Value.bool).toArray,⟨⟨_,dP _ Z',Z',Z'⟩,?_⟩,λi v s' Q E hP hQ=>?_,λh' tk hk=>?_⟩
  .obtain⟨o,n,e,c,d,q⟩:=pl;exact⟨o,dv _ e,c,n,q⟩
  .simp only[iV,dJ]at hP;cases e2:bs[i]? with
   | none=>rw[e2]at hP;cases hP
   | some b=>rw[e2]at hP;cases hP;have hQ:Q ((bs[i]?).getD lf) s':=hQ;rw[e2]at hQ;exact fv hQ
  .have ea:(List.range (bs.map Value.bool).toArray.size).any (λi=>(bs[i]?).getD lf)=bs.any id:=by
    rw[dE,c9];rw[gz,gI,gI];constructor
    .rintro ⟨i,hi,z⟩
     have Zl:=fW.mp hi;rw[df Zl]at z;exact⟨_,iu Zl,z⟩
    .rintro ⟨b,hb,z⟩
     obtain⟨i,hi,e⟩:=gm hb;refine⟨i,fW.mpr hi,?_⟩;rw[df hi,e];exact z
   rw[ea];refine⟨.bl (bs.any id),H,?_,Z',k _ _ _ _ .bl hm .refl q⟩;exact I.kept (h':=h') (t':=tk) λb o e=>hk b o (by simpa using dN (dD e)) (dv _ e)
 .exact q.elim
def Tw:zn "any"=Fa (.builtin "any"):=by decide+kernel
end L3
namespace L2
def KY(a C d:Uf)(h:No):Prop:=AU λoe vs=>h.get? a=Fa oe/\oe.cls=.ref C/\oe.data=.fields vs/\oe.dict=Fa d
structure QQ(K:qL)(C:Uf)(f:Str):Prop where
 ci:LR K C
 hh:W.hasDictIn K C=pc
 tk:W.findIn K (.ref C) f=Fa Db
def Mm{h:No}{d:Uf}{m:QQZ}{f:Str}{u:Vl}(x:h.Ns1 d m)(e:m f=Fa u):∃od,h.get? d=Fa od/\W.lookIn f od=Fa (Fa u):=by obtain⟨o,es,ep,e1,e2,_,_,e3⟩:=x;refine⟨o,e1,?_⟩;have e3:=e3 f;rw[e]at e3;unfold nsFind findBy at e3;rw[<-ly]at e3;obtain⟨en,h1,h2⟩:=iP.mp e3;unfold W.lookIn;rw[e2];dsimp only;rw[h1];exact eV (λz=>Fa (Fa z)) h2
variable {prog:Pg}{w:Wo}{A:Ar}{E:QQX}{s:Sd}{K:qL}{x C:Uf}{ox od:Obj}{f:Str}{v:Vl}
def MF{tk:Tok}{Q:PySem.Fin->Sd->Prop}(X:K.In s.heap)(I:W.InstAt s.heap x ox C (Fa od))(hf:W.findObj K C (Fa od) f=Fa (.value v))(h:Q (.done (.ret v)) s):Ch (Tk prog w) A (Builtin.«object.__getattribute__» {pos:=[.ref x,.str f tk]}) Q E s:=by have L0:=I.type (M:=Tk prog w);unfold Builtin.«object.__getattribute__» slotArgs;refine de ?_;rw[dq (by simp)];dsimp only;rw[dq (by simp)];refine dz ?_;dsimp only;refine de ?_;unfold Builtin.ObjectAttr.attrName;refine dz (de (L0.at (de ((W.looks_find X I hf).at ?_))));exact dz h
def Qi{expr:Bool}{Q:QQX}(c:QQ K C f)(X:K.In s.heap)(I:W.InstAt s.heap x ox C (Fa od))(hl:W.lookIn f od=Fa (Fa v))(hv:W.handedIn v=pc)(h:Q v {s with toks:=s.toks+1}):Ch (Tk prog w) A (getAttr (.ref x) f expr) Q E s:=by have L0:=I.type (M:=Tk prog w);unfold getAttr getAttrBy;refine de (wpAny_mkText (eJ (de (L0.at (de ((jm X c.ci.ga).at ?_))))));dsimp only;rw[dq (by simp)];unfold getAttrByItsOwn;refine de ?_;unfold hookBefore;rw[dw (by rfl)];refine(jm X c.ci.gt).at (de (kS (eJ ?_)));unfold callGetattribute;rw[dq (by simp;intro _;rfl)];unfold boundAndCalled;refine de ?_;rw[kE.ga.bind (.ref x)];refine dz ?_;refine ip (ir kE.ga.plain F.entry_bexc_ga (Oa c.ci X I.at_ I.cls ?_));exact MF X I (W.findObj_own c.hh c.tk Z' hl) (W.handed_on hv h)
variable {X:Cx}{e:Go}{pos:Pos}{ta:TE}
def Nu:V->Bool
 | .str _=>pc
 | .int _=>pc
 | .bl _=>pc
 | .nz=>pc
 | _=>lf
def FM{v:V}(r:ra v u)(p:Nu v=pc):W.handedIn u=pc:=by
 cases v<;>first
  | (cases r;rfl)
  | (obtain⟨t,rfl⟩:=r;rfl)
  | cases p
def MW(K:qL)(ta:TE)(f:Str):TE:=λY H Q=>ta Y H λx H1=>Br λa C d v=>x=.ref a/\H1 a=Fa (.ext (KY a C d))/\H1 d=Fa (.ext (ON d f v))/\QQ K C f/\Nu v=pc/\Q v H1
def Pd(he:PE X e ta)(hb:Ps e f X.env (wp e X.env)=wp e X.env):PE X (.Attribute e f pos) (MW X.K ta f):=by intro XF s Y H Q I h;refine J1 hb (sX (he XF s Y H _ I h) λu s1 zz=>?_);obtain⟨x,H1,I1,rx,a,C,d,v,ex,ea,ed,c,p,q⟩:=zz;subst ex;obtain rfl:u=Value.ref a:=rx;obtain⟨⟨oe,vs,e1,e2,e3,e4⟩,_,_⟩:=I1.nB a _ ea;obtain⟨⟨u,n1,r⟩,_,_⟩:=I1.nB d _ ed;obtain⟨od,g1,g2⟩:=Mm n1 (dw Z');exact Qi (ox:=oe) c I1.nO ⟨e1,e2,by unfold W.notCls;rw[e3],by rw[e4];exact g1⟩ g2 (FM r p) ⟨v,H1,I1.tok _,r,q⟩
def O2{a C d:Uf}(x:KY a C d h):sF P w H h a (.ext (KY a C d)):=by refine⟨x,?_,λh1 h2 ⟨oe,vs,e1,e2,e3,e4⟩ k=>⟨oe,vs,k oe e1,e2,e3,e4⟩⟩;obtain⟨oe,_,e,_⟩:=x;exact⟨oe,e⟩
def Pi{st b₀:wE}{Y9:T0 wE}{cn n:Str}{cnp Zf pos:Pos}{Cc L:Uf}{outer:T0 Env}{i:Nat}{t:Gg->St->Hp->(Hp->Prop)->XK->Prop}(hb:Xk X st t)(X6:X.stack=X.env::outer)(hL:X.env.frame=Fa L)(hg:Gl X cn)(hm:X.mg cn=Fa (.ref Cc)) (hN:X.N.Nodup) (hi:X.N[i]?=Fa n) (hk:X.env.scope.names.lookup n=Fa .local) (hs:∀ev E',BX (X.marked ev E') (b₀::Y9) th) (X4:yW cn:=by decide):
  PS X (.Try [st] [.ExceptHandler (Fa (.Name cn cnp)) (Fa n) (b₀::Y9) Zf] [] [] pos) (λD Y H=>∃(J:Hp->Prop) (E:XK),t D Y H J E/\∀C dx H1 H',J H1->TKept H1 H'->E (.ref C) dx H'->∃d,dx=Fa d/\W.exmOne X.K (.ref C) (.ref Cc)=Fa pc/\
   ∀a,H' a=Db->th {nx:=λσ' H2=>D.nx (σ'.set i Db) H2,rt:=D.rt,bk:=λσ' H2=>D.bk (σ'.set i Db) H2,ct:=λσ' H2=>D.ct (σ'.set i Db) H2} (Y.set i (Fa (.ref a))) (upd H' a (.ext (KY a C d)))):=by
 intro XF s Y H D I ⟨J,E,h,hh⟩;refine wpAny_Try_except (eF (Q:=λf s'=>SP X XF D f s') (jQ (sX (hb XF s Y H D J E I h) λf s1 q=>?_)) (λf s1 q=>?_) λev s1 x=>?_)
 .cases f with
  | next=>exact hU q
  | brk=>exact q
  | cont=>exact q
  | ret v=>exact q
 .cases f with
  | next=>exact hU q
  | brk=>exact q
  | cont=>exact q
  | ret v=>exact q
 .refine eF (TB x X6 hL) (λ_ s2 y=>sX y λ_ s3 z=>?_) λ_ _ z=>z;obtain⟨a,C,dx,H',tb,H1,s1,rfl,q,I3,x3,na,nt,jH,tk,I1,n1⟩:=z;obtain⟨d,rfl,XH,h1⟩:=hh C dx H1 H' jH tk q;refine wpAny_handleBy_cons (codeAny_handlers_test (xF (X:=X.marked (.ref a) λ_ _=>False) I3.mark hg hm ?_ X4)) (by intro z;cases z);obtain⟨oe,vs,ho,hc,ZA,hd,_⟩:=id x3;refine W.exm_one I3.nO (Ci ho) (by rw[hc];exact XH) _ _ _ _ (λ_ _ z=>z) ?_;refine codeAny_handlers_suite_as (Hz x3 λh' hh'=>?_);have I4:Inv X XF Y H' {s3 with heap:=h'}:=I3.kept (t':=s3.toks) λb u z=>by rw[hh' b];exact z
  have I5:Inv X XF Y (upd H' a (.ext (KY a C d))) {s3 with heap:=h'}:=I4.adopt I1 n1 na (O2 ⟨oe,vs,by show h'.get? a=_;rw[hh' a];exact ho,hc,hd,ZA⟩);refine yu (v:=.ref a) I5 hN hi (.inl hk) Z' (λs6 I6=>?_) (.inr hk);refine eF (hs (.ref a) _ XF _ _ _ _ I6.mark (h1 a na)) (λf s7 q7=>?_) λ_ _ z=>z;have q7:=SP.unmark I.ok q7;cases f with
  | next=>obtain⟨σ',H2,I7,q⟩:=q7;exact yF I7 hN hi hk λs8 I8=>⟨_,H2,I8,q⟩
  | brk=>obtain⟨σ',H2,I7,q⟩:=q7;exact yF I7 hN hi hk λs8 I8=>⟨_,H2,I8,q⟩
  | cont=>obtain⟨σ',H2,I7,q⟩:=q7;exact yF I7 hN hi hk λs8 I8=>⟨_,H2,I8,q⟩
  | ret v=>obtain⟨y,σ',H2,I7,r,q⟩:=q7;exact yF I7 hN hi hk λs8 I8=>⟨y,_,H2,I8,r,q⟩
end L2
namespace L3
open L2
variable {X:Cx}{cn n x:Str}{e:Go}{cnp Zf pos XI xpos p1 p2 p3 p4:Pos}{Cc L:Uf}{outer:T0 Env}{i ix:Nat}{te:Ua}{fl:Str}
def UO(K:qL)(ix i:Nat)(Cc:Uf)(fl:Str)(te:Ua):yl:=λD U M=>∃R,te U M (λd M1=>D.nx (U.set ix (Fa d)) M1) R/\∀C y M',R C y M'->W.exmOne K (.ref C) (.ref Cc)=Fa pc/\QQ K C fl/\∃z,y=Fa (fl,.str z)/\D.nx ((U.set ix (Fa (.str z))).set i Db) M'
def Q9(he:Xi X e te)(X6:X.stack=X.env::outer)(hL:X.env.frame=Fa L)(hg:Gl X cn)(hm:X.mg cn=Fa (.ref Cc))(hN:X.N.Nodup)(ZW:X.N[ix]?=Fa x)(hx:X.env.scope.names.lookup x=Fa .local)(hi:X.N[i]?=Fa n)(hk:X.env.scope.names.lookup n=Fa .local)(X3:ix≠i) (hd:yW n:=by decide) (YJ:(n==("__classdict__":Str))=lf:=by decide) (hab:Ps (.Name n p2) fl X.env (wp (.Name n p2) X.env)=wp (.Name n p2) X.env:=by rfl) (hsw2:ZB (.Attribute (.Name n p2) fl p3) (Fa (.Name x p1)) p4.line X.env=pure lf:=by rfl)
  (X4:yW cn:=by decide) (Ze:ZB e (Fa (.Name x xpos)) XI.line X.env=pure lf:=by rfl):
  S3 X (.Try [.Assign [.Name x xpos] e XI] [.ExceptHandler (Fa (.Name cn cnp)) (Fa n) [.Assign [.Name x p1] (.Attribute (.Name n p2) fl p3) p4] Zf] [] [] pos) (UO X.K ix i Cc fl te):=
 PS.ow (Pi (th:=Qq (MW X.K (E4 i) fl) (JD ix)) (Q4 hN ZW (.inl hx) he Ze (.inr hx)) X6 hL hg hm hN hi hk (λev E'=>FO (Mn (X:=X.marked ev E') (te:=MW X.K (E4 i) fl) hN ZW (.inl hx) (Pd (X:=X.marked ev E') (Mj (X:=X.marked ev E') hi (.inl hk) hd YJ) hab) hsw2 (.inr hx))) X4) λD' Y H hl ⟨U,M,D,hs,hm,⟨R,ht,hh⟩,k1,k2,k3,k4⟩=>by
  refine⟨λH1=>rg X.K H H1,λcv d H'=>∃C M' y,cv=.ref C/\HM X.K H' M'/\VA X.K H' d y/\R C y M',⟨U,M,_,R,hs,hm,ht,λv H1 d M1 hd XH e1 q1=>?_,λ_ z=>z,λC dx H' M' y h1 h0 h2=>⟨C,M',y,Z',h1,h0,h2⟩⟩,λC dx H1 H' jH tk ⟨C',M',y,ec,YK,ZA,r⟩=>?_⟩
  .exact k1 _ H1 _ M1 ((hs.mono e1).set hd (by rw[hl];exact(dh.mp ZW).1)) XH e1 (by simp) q1
  .cases ec;obtain⟨r1,c,z,ey,q⟩:=hh C y M' r;rcases ZA with⟨_,z⟩|⟨d,f,z',v,ed,ez,hd,hv⟩
   .rw[ey]at z;cases z
   .rw[ey]at ez;cases ez;have hiσ:i<Y.length:=by rw[hl];exact(dh.mp hi).1
    refine⟨d,ed,r1,λa na=>⟨.ref a,by rw[eU hiσ],a,C,d,v,Z',qB,?_,c,?_,?_⟩⟩
    .rw[qw]
     .exact hd
     .intro z;rw[z,na]at hd;cases hd
    .rw[hv.str_inv];rfl
    .have e1:rg X.K H H':=jH.trans (L2.TKept.ext tk);have e2:rg X.K H' (upd H' a (.ext (KY a C d))):=.new na;have s1:=(hs.mono (e1.trans e2)).set (i:=ix) (hv.mono e2) (by rw[hl];exact(dh.mp ZW).1);have s2:=s1.unset (i:=i);refine k1 _ _ _ M' ?_ (YK.add na) (e1.trans e2) (by simp) q;rw[List.set_comm _ _ X3.symm,jc];exact s2
end L3
namespace L2
variable {prog:Pg}{w:Wo}{A:Ar}{E:QQX}{s:Sd}
theorem DX{it t:Uf}{XG:Array Vl}(X3:t≠it):∀(n i:Nat) (s:Sd) (Q:T0 Vl->Sd->Prop),s.heap.IsListIter it t i->s.heap.IsList t XG->i+n<=XG.size->
  (∀h',h'.IsListIter it t (i+n)->Heap.SameBut it s.heap h'->Q ((XG.toList.drop i).take n) {s with heap:=h'})->Ch (Tk prog w) A (draw (.ref it) n) Q E s
 | 0,i,s,Q,hit,_,_,hQ=>by show Ch _ _ (pure []) Q E s;exact dz (by simpa using hQ s.heap hit (Heap.SameBut.refl ..))
 | n+1,i,s,Q,hit,ht,hle,hQ=>by
  have XU:i<XG.size:=by omega
  show Ch _ _ (pyNext (.ref it)>>=_) Q E s;refine de (km hit ht (x:=XG[i]) (by simp[XU]) λh₁ hit₁ hs₁=>?_);refine de (eJ (DX X3 n (i+1) _ _ hit₁ (ht.extBut hs₁.extBut X3) (by omega) λh₂ hit₂ hs₂=>dz ?_));have hd:XG.toList.drop i=XG[i]::XG.toList.drop (i+1):=by simp[gW,XU]
  have:=hQ h₂ (by rw[show i+(n+1)=i+1+n by omega];exact hit₂) (hs₁.trans hs₂);rw[hd,List.take_succ_cons]at this;exact this
def Al{t:Uf}{XG:Array Vl}{Q:T0 Vl->Sd->Prop}(hh:A.handled=Db)(ht:s.heap.IsList t XG) (hQ:∀h',Heap.ExtBut s.heap.objs.size s.heap h'->Q XG.toList {s with heap:=h'}):Ch (Tk prog w) A (unpackItems (.ref t) XG.size Db) Q E s:=by
 have XU:t≠s.heap.objs.size:=by obtain⟨o,ho,_⟩:=ht;exact dN (dD ho)
 unfold unpackItems;refine de ?_
 .unfold notIterableAtAll;refine de (iZ ht.typeIs slot_list_iter.lookup ?_);refine dz ?_;simp only[iJ,jn];refine de (eJ (gR ht ?_));refine de (eJ (DX XU XG.size 0 _ _ ⟨_,dP _ Z',Z',Z'⟩ (ht.push _) (by omega) λh₁ hit₁ hs₁=>?_));have Yp:List.take XG.size (List.drop 0 XG.toList)=XG.toList:=by rw[jq];exact ig (by simp)
  rw[Yp];rw[dq (by simp)];have ht₁:h₁.IsList t XG:=(ht.push _).extBut hs₁.extBut XU;refine de (eJ (kx hh hit₁ ht₁ (by simp) λh₂ he₂=>?_));simp only[Option.isSome_none,iJ,jn];refine dz (hQ h₂ λb o hb e=>he₂ b o hb (hs₁.extBut b o hb (dv _ e)))
def Ab{env:Env}{Ya:T0 Go}{x1}{pos:Pos}{t:Uf}{XG:Array Vl}{Q:Unit->Sd->Prop}(hh:A.handled=Db)(ht:s.heap.IsList t XG) (hn:(At Ya env).length=XG.size) (hstar:(At Ya env).findIdx? (·.1)=Db) (h:∀h',Heap.ExtBut s.heap.objs.size s.heap h'->Ch (Tk prog w) A (assignInOrder ((At Ya env).map (·.2)) XG.toList) Q E {s with heap:=h'}):
  Ch (Tk prog w) A (assign (.Tuple Ya x1 pos) env (.ref t)) Q E s:=by
 rw[arm_assign_Tuple];refine de (hJ ?_);unfold unpack;rw[hn,hstar];exact de (eJ (Al hh ht h))
end L2
namespace L3
open L2
variable {X:Cx}{pos:Pos}
def Te(n:Nat)(t:DA):DR:=λd U M Q=>match d with|.ref a=>(pI M a).elim False λds=>ds.length=n/\t ds U M Q|_=>False
def Pj{t:DA}{n:Nat}(hc:X.calm=pc)(h:VH X es t)(hn:(At es X.env).length=n:=by rfl)(X6:(At es X.env).findIdx? (·.1)=Db:=by rfl):G3 X (.Tuple es k pos) (Te n t):=by
 intro XF s Y H v u Q' I r ⟨d,U,M,Q,hd,hs,hm,ht,kq⟩;cases d with
 | ref a=>
  obtain⟨ds,e,hl,ht⟩:=rC ht;cases hd.ni;cases r;obtain⟨xs,h1,h2,_⟩:=qK hm e;obtain⟨its,rv,pl,hz⟩:=I.list h1;have hx:xs.length=n:=by rw[<-hl];exact h2.length.symm
  refine Ab (I.ok.hd hc) pl.isList (by simp[hn,<-hx,rv.length]) X6 λh' hx=>?_;have I1:Inv X XF Y H {s with heap:=h'}:=I.kept (t':=s.toks) λb o e=>hx b o (dN (dD e)) e;exact h XF _ Y H xs _ Q' I1 (by simpa using rv) ⟨ds,U,M,Q,h2,hs,hm,ht,kq⟩
 | _=>exact ht.elim
end L3
namespace L2
variable {X:Cx}
theorem Hw:∀{ns:T0 Int} {its:T0 Vl},qO (ns.map V.int) its->IntsAre its ns
 | [],[],_=>.nil
 | [],_::_,h=>nomatch h
 | _::_,[],h=>nomatch h
 | n::ns,v::its,h=>by
  cases h with
  | cons a b=>obtain⟨t,rfl⟩:=a;exact .cons _ t (Hw b)
theorem GV:∀{ns:T0 Int} {its:T0 Vl},IntsAre its ns->qO (ns.map V.int) its
 | _,_,.nil=>.nil
 | _,_,.cons _ t h=>.cons ⟨t,Z'⟩ (GV h)
def Hi:yP X (.builtin "sorted") (λxs H Q=>∃p,∃ns:T0 Int,xs=[.ref p]/\zb X.K H p (ns.map V.int)/\ns.length<64/\∀l (ms:T0 Int),H l=Db->ms.Perm ns->ms.Pairwise (·<=·)->Q (.ref l) (upd H l (.lst (ms.map V.int)))):=by intro XF s Y H xs us Q I r h;obtain⟨p,ns,rfl,hq,h64,q⟩:=h;obtain⟨u,rfl,rx⟩:=xM r;cases rx;obtain⟨its,r',pl,hz⟩:=I.list hq;have XN:=r'.length;rw[c9]at XN;refine sorted_ints pl.isList (Hw r') (by omega) λout ms a1 a2 a3=>?_;obtain⟨e,he⟩:=sortedAll_at s.heap its out;refine⟨.ref (s.heap.objs.size+1),_,I.laid (t':=s.toks) (λ_ _=>sortedAll_old) (gq _) (show sF X.prog X.w _ _ _ (.lst (ms.map V.int))from⟨?_,out.toList,e,GV a1,he⟩),Z',q _ ms (I.nB.fresh (gq _)) a2 a3⟩;rw[c9,a2.length_eq];have:=dR;omega
theorem Ce:∀(l:T0 Vl) (k:Nat),(∀(j:Nat) v,l[j]?=Fa v->∃t,v=Value.int ((0:Int)+((j+k:Nat):Int)*1) t)->qO ((List.range' k l.length).map λi=>V.int (i:Nat)) l
 | [],_,_=>.nil
 | v::l,k,h=>by
  obtain⟨t,rfl⟩:=h 0 v Z';refine .cons ⟨t,by simp⟩ (Ce l (k+1) λj v e=>?_);have:=h (j+1) v e
  rwa [Nat.add_right_comm,Nat.add_assoc]at this
def Fy{a:Go}{ta:TA}{p p2 pos Yr:Pos}(hc:X.calm=pc)(hg':Gl X "list")(YK:X.mg "list"=Db)(hg:Gl X "range")(hm:X.mg "range"=Db)(ha:PA X [a] ta)(hs:Tl [a] X.env=[(lf,wp a X.env)]):
  PE X (.Call (.Name "list" p2) [.Call (.Name "range" p) [a] [] pos] [] Yr) (λY H Q=>ta Y H λvs H1=>∃n:Nat,vs=[.int n]/\n<=100000/\∀l,H1 l=Db->Q (.ref l) (upd H1 l (.lst ((List.range n).map λi=>V.int (i:Nat))))):=by
 intro XF s Y H Q I h;refine Call_ (vP I hg' YK L3.uf (fH ?_ Z' Z'));show Ch _ _ (spliced ((lf,wp (.Call (.Name "range" p) [a] [] pos) X.env)::sB Yr (Tl [] X.env))) _ _ s;refine hW (Call_ (vP I hg hm boot_range (fH (sX (ha pos XF s Y H _ I h) λus s1 zz=>x5 zz λvs H1 I1 r1 q1=>?_) hs Z')));obtain⟨n,e,q1,q⟩:=q1;subst e;obtain⟨u,rfl,t,rfl⟩:=xM r1;refine call_range_1 (ii ?_);refine call_list_range (n:=n) (I1.ok.hd hc) (mZ ..) (small_one (by omega) (by omega) (by omega) (by omega)) (by rw[rangeSize_one];split<;>omega) (by omega) λh' tk acc' c' hk hS hi=>?_;have hl:acc'.toList.length=n:=by rw[gZ];exact hi.1
 have hv:=Ce acc'.toList 0 λj v e=>hi.2 j v (by rw[<-kD];exact e);rw[hl,<-List.range_eq_range']at hv;refine⟨.ref _,_,I1.laid (a:=s1.heap.objs.size+1) (o:=.lst ((List.range n).map λi=>V.int (i:Nat))) (t':=tk) (λb o e=>hk b o (dv _ e)) (gq _) ⟨?_,acc'.toList,c',hv,?_⟩,?_,q _ (I1.nB.fresh (gq _))⟩
 .rw[c9,eI];have:=dR;omega
 .simpa using hS
 .simp[ra]
end L2
namespace L3
open L2
variable {X:Cx}
def Rw(ds:T0 D)(M:Mp)(Q:DK):Prop:=match ds with
 | [.ref a]=>∃ns:T0 Int,pI M a=Fa (ns.map D.int)/\ns.length<64/\∀(ms:T0 Int) p,M p=Db->ms.Perm ns->ms.Pairwise (·<=·)->Q (.ref p) (pX M p (.lst (ms.map D.int)))
 | _=>False
theorem JL{K:qL}:∀{ns:T0 Int} {vs:T0 V},qF K H (ns.map D.int) vs->vs=ns.map V.int
 | [],vs,h=>by cases h;rfl
 | n::ns,vs,h=>by obtain⟨x,r,rfl,h1,h2⟩:=h.inv;rw[h1.int_inv,JL h2];rfl
theorem BZ{K:qL}:∀ns:T0 Int,qF K H (ns.map D.int) (ns.map V.int)
 | []=>.nil
 | _::ns=>.cons .int (BZ ns)
def KU:C3 X (.builtin "sorted") Rw:=by
 intro XF s Y H vs us Q' I rv h;obtain⟨ds,M,Q,hd,hm,q,k⟩:=h;unfold Rw at q;split at q
 .obtain⟨v,rfl,hv⟩:=sD hd;obtain⟨ns,e0,h64,q⟩:=q;cases hv.ni;obtain⟨xs,h1,h2,_⟩:=qK hm e0;obtain rfl:=JL h2;refine Hi XF s Y H _ us Q' I rv ⟨_,ns,Z',h1,h64,λl ms hl p1 p2=>?_⟩;have e:rg X.K H (upd H l (.lst (ms.map V.int))):=.new hl;exact k _ _ _ _ .ref (hm.new (c:=.lst (ms.map D.int)) hl ⟨_,qB,BZ ms⟩) e (q ms l (hm.fresh hl) p1 p2)
 .exact q.elim
def OU(ta:xP):T3:=λU M Q=>ta U M λds M1=>∃n:Nat,ds=[.int n]/\n<=100000/\∀p,M1 p=Db->Q (.ref p) (pX M1 p (.lst ((List.range n).map λi=>D.int (i:Nat))))
def K8{K:qL}(n:Nat):qF K H ((List.range n).map λi=>D.int (i:Nat)) ((List.range n).map λi=>V.int (i:Nat)):=by
 have h:=BZ (K:=K) (H:=H) ((List.range n).map λi:Nat=>(i:Int))
 rwa [eA,eA]at h
def EG{a:Go}{ta:xP}{p p2 pos Yr:Pos}(hc:X.calm=pc)(hg':Gl X "list")(YK:X.mg "list"=Db)(hg:Gl X "range")(hm:X.mg "range"=Db)(ha:A3 X [a] ta)(hs:Tl [a] X.env=[(lf,wp a X.env)]:=by rfl):
  E3 X (.Call (.Name "list" p2) [.Call (.Name "range" p) [a] [] pos] [] Yr) (OU ta):=
 PE.mono (Fy hc hg' YK hg hm ha hs) λY H Q' zz=>x7 zz λU M Q hs hm ht k=>⟨U,M,_,hs,hm,ht,λvs H1 ds M1 hd XH e1 q1=>by
  obtain⟨n,rfl,hn,q⟩:=q1;obtain⟨v,rfl,hv⟩:=sD hd;cases hv.int_inv;refine⟨n,Z',hn,λl hl=>?_⟩;exact k _ _ _ _ .ref (XH.new (c:=.lst _) hl ⟨_,qB,K8 n⟩) (e1.trans (.new hl)) (q l (XH.fresh hl))⟩
end L3
namespace L3
open L2
def OI(i:Nat){X:Cx}{pos:Pos}{x:Str}(h1:X.N[i]?=Fa x:=by rfl)(h2:SK X.env.scope x:=by first|exact Or.inl Z'|exact Or.inr (Or.inl Z')|exact Or.inr (Or.inr Z'))(h3:yW x:=by decide)(h4:(x==("__classdict__":Str))=lf:=by decide):E3 X (.Name x pos) (v3 i):=SR i (pv i h1 h2 h3 h4)
variable {X:Cx}{pos:Pos}
def Xy{N:QQQ}(h:decide N.Nodup=pc):N.Nodup:=fZ h
def qg(i:Nat){x:Str}{e:Go}{te:T3}{XQ:Pos}{ps:QQQ}{sc:XXe}(S:tL X.N ps sc)(he:E3 X e te)(hi:X.N[i]?=Fa x:=by rfl)(hx:LG X.env.scope x:=by first|exact Or.inl Z'|exact Or.inr Z')(Ze:ZB e (Fa (.Name x XQ)) pos.line X.env=pure lf:=by rfl)(hf:LD X x:=by first|exact .inl Z'|exact .inr Z'|assumption):S3 X (.Assign [.Name x XQ] e pos) (HD te (uq i)):=S9 S.nd hi hx he Ze hf
def rS(i:Nat){x:Str}{ps:QQQ}{sc:XXe}(S:tL X.N ps sc)(hi:X.N[i]?=Fa x:=by rfl)(hx:LG X.env.scope x:=by first|exact Or.inl Z'|exact Or.inr Z')(hf:LD X x:=by first|exact .inl Z'|exact .inr Z'|assumption):G3 X (.Name x pos) (uq i):=Jf S.nd hi hx hf
def qP(i:Nat){x:Str}(hN:decide X.N.Nodup=pc:=by kernel_rfl)(hi:X.N[i]?=Fa x:=by rfl)(hx:LG X.env.scope x:=by first|exact Or.inl Z'|exact Or.inr Z')(hf:LD X x:=by first|exact .inl Z'|exact .inr Z'|assumption):G3 X (.Name x pos) (uq i):=Jf (Xy hN) hi hx hf
abbrev Sc(n:Nat)(N:QQQ)(s:wE):=tL N (N.take n) (qD s)
def sk{n:Nat}{s:wE}(h:SQ N (N.take n) (qD s)=pc:=by decide+kernel):Sc n N s:=XD h
def qE(h0:E3 X e0 t0)(g0:Tl [e0] X.env=(lf,wp e0 X.env)::Tl [] X.env:=by rfl):A3 X [e0] (vW t0 yi):=(qz h0 tz g0)
def sA(h0:E3 X e0 t0)(h1:E3 X e1 t1)(g0:Tl [e0,e1] X.env=(lf,wp e0 X.env)::Tl [e1] X.env:=by rfl)(g1:Tl [e1] X.env=(lf,wp e1 X.env)::Tl [] X.env:=by rfl):A3 X [e0,e1] (vW t0 (vW t1 yi)):=(qz h0 (qz h1 tz g1) g0)
def rO(h0:E3 X e0 t0)(h1:E3 X e1 t1)(h2:E3 X e2 t2)(g0:Tl [e0,e1,e2] X.env=(lf,wp e0 X.env)::Tl [e1,e2] X.env:=by rfl)(g1:Tl [e1,e2] X.env=(lf,wp e1 X.env)::Tl [e2] X.env:=by rfl)(g2:Tl [e2] X.env=(lf,wp e2 X.env)::Tl [] X.env:=by rfl):A3 X [e0,e1,e2] (vW t0 (vW t1 (vW t2 yi))):=(qz h0 (qz h1 (qz h2 tz g2) g1) g0)
abbrev v0:=@OI 0
abbrev U1:=@OI 1
abbrev U2:=@OI 2
abbrev U3:=@OI 3
abbrev v5:=@OI 5
abbrev v4:=@OI 4
abbrev v6:=@OI 6
abbrev v7:=@OI 7
abbrev v8:=@OI 8
abbrev v9:=@OI 9
variable {P:Pg}{w:Wo}{K:qL}{mg:QQZ}{base:No}
def fq{st:wE}{sp:rL}(F:DG K st x qual ps fa)(S:tL N ps (qD st)) (hb:∀{XS:Vl} {A:Ar} {outer:T0 Env} {s:Sd} {H:Hp} {E:XK},sI k (A.deeper (dL qual (qD st) s.heap.objs.size fa.f XS))->(A.deeper (dL qual (qD st) s.heap.objs.size fa.f XS)).units+9<XXa->
   ∃t,IA (vI OM P w K mg base N qual (qD st) fa.f XS A outer s H E).pf (sE st) t/\∀ds M Q,sp ds M Q->t {nx:=λ_ M'=>∃XM,qQ XM M'/\Q .nz XM,rt:=λd M'=>∃XM,qQ XM M'/\Q d XM} (w9 N ds) M) (len:∀ds M Q,sp ds M Q->ds.length=ps.length:=by walk_at "l"):Fq P w K mg base (k+1) fa sp:=Wz F S len λ_ _ _ _ _ _ h=>hb h (Xg h)
def xy{X:Cx}(h:IG X.env.scope X.N scope ix N'=pc:=by kernel_rfl):sO X scope ix N':=UA h
end L3
namespace Z
noncomputable section
open L2 L3
def rA(i:Nat):wE:=PySem.Challenge.pw_callboard_k21_who_is_where.main.body.getD i (.Pass ⟨0,0,0,0⟩)
abbrev tm(i j:Nat):wE:=QZ (rA i) j
def Aj:Sc 1 ["answers"] (rA 1):=sk
def G9:Sc 2 ["call","word"] (rA 3):=sk
def Dt:Sc 2 ["call","phone"] (rA 4):=sk
def x8:Sc 2 ["call","event","word"] (rA 5):=sk
def xK:Sc 1 ["call","lists"] (rA 7):=sk
def Cu:Sc 1 ["board","calls"] (rA 8):=sk
def CS:Sc 3 ["board","caller","target","wishes"] (rA 14):=sk
def tS:Sc 3 ["board","caller","target","free","members","place","in_turn"] (rA 15):=sk
def vA:Sc 3 ["board","caller","target","phones"] (rA 16):=sk
def Ak:Sc 2 ["wanted","target"] (rA 17):=sk
def wV:Sc 4 ["board","caller","target","way","come_to","steps","fits","wanted"] (rA 18):=sk
def yY:Sc 2 ["board","phone"] (rA 20):=sk
def wK:Sc 3 ["board","phone","target","word"] (rA 21):=sk
def MS:Sc 3 ["word","phone","calls"] (rA 22):=sk
def uk:Sc 4 ["board","word","phone","numbers","calls","due"] (rA 23):=sk
def yX:Sc 3 ["board","word","number"] (rA 24):=sk
def Cd:Sc 2 ["board","deed","word"] (rA 25):=sk
def uu:Sc 3 ["board","number","steps","last","target","fits"] (rA 26):=sk
def vb:Sc 4 ["board","number","target","phones","members","place"] (rA 27):=sk
def x9:Sc 3 ["board","number","target","talk","members"] (rA 28):=sk
def yp:Sc 3 ["board","number","end","word"] (rA 29):=sk
def wM:Sc 2 ["board","number","call","told","end","steps","last"] (rA 30):=sk
def zw:Sc 3 ["board","phone","target","number"] (rA 31):=sk
def B9:Sc 3 ["board","phone","number","call"] (rA 32):=sk
def yS:Sc 2 ["board","call","wishes"] (rA 33):=sk
def Cp:Sc 3 ["board","number","fits","wish"] (rA 34):=sk
def ud:Sc 1 ["board","number","call","fits"] (rA 35):=sk
def tU:Sc 2 ["board","deed","word","phone","number","call","kept","others"] (rA 36):=sk
def LY:Sc 2 ["board","deed","word"] (rA 37):=sk
def HN:Sc 2 ["board","deed","word","begun"] (rA 38):=sk
def IP:Sc 3 ["board","caller","target"] (rA 40):=sk
def Dd:Sc 1 ["told","word"] (rA 51):=sk
def P4:Sc 2 ["holds","words"] (rA 66):=sk
def HS:Sc 1 ["text"] (rA 67):=sk
def DC:Sc 1 ["things"] (rA 68):=sk
def Fu:Sc 3 ["chosen","known","most"] (rA 69):=sk
def uC:Sc 1 ["phones","name","lines","rank"] (rA 70):=sk
def uA:Sc 2 ["groups","phone_names","name","manner","members"] (rA 71):=sk
def Dq:Sc 4 ["kind","part","phone_names","names"] (rA 72):=sk
def uy:Sc 3 ["wish","phone_names","names","form","parts","kind","part"] (rA 73):=sk
def vk:Sc 3 ["wishes","phone_names","names","on","wish"] (rA 74):=sk
def wx:Sc 3 ["phones","groups","wishes","phone_names","names"] (rA 75):=sk
def Lk:Sc 2 ["_law_script","_law_k"] (rA 78):=sk
def Gy:Sc 3 ["_law_cell","_law_factor","_law_many"] (rA 79):=sk
def uJ:Sc 2 ["_law_seed","_law_which","_law_letters","_law_size","_law_place","_law_rest","_law_letter"] (rA 80):=sk
def xU:Sc 3 ["_law_row","_law_cell","_law_most","_law_first_here","_law_size"] (rA 81):=sk
def vg:Sc 2 ["_law_seed","_law_most","_law_phones_here","_law_k","_law_lines"] (rA 82):=sk
def ve:Sc 2 ["_law_seed","_law_own","_law_groups_here","_law_g","_law_manner"] (rA 83):=sk
def tT:Sc 3 ["_law_cell","_law_own","_law_names_here","_law_a","_law_place","_law_b","_law_c","_law_pick","_law_first_here"] (rA 84):=sk
def sU:Sc 2 ["_law_script","_law_most","_law_seed","_law_phones_here","_law_own","_law_groups_here","_law_names_here","_law_wishes","_law_k","_law_cell"] (rA 85):=sk
def DU:Sc 1 ["_law_call"] (rA 86):=sk
def Be:Sc 2 ["_law_board","_law_states"] (rA 87):=sk
def rX:Sc 4 ["_law_board","_law_cell","_law_word_here","_law_states","_law_some_here","_law_k","_law_people_here","_law_a","_law_m"] (rA 88):=sk
def vc:Sc 4 ["_law_cell","_law_own","_law_names_here","_law_many","_law_a","_law_b","_law_k","_law_m","_law_some_here"] (rA 89):=sk
def rW:Sc 4 ["_law_board","_law_cell","_law_own","_law_names_here","_law_word_here","_law_states","_law_found","_law_a"] (rA 90):=sk
def wc:Sc 2 ["_law_script","_law_most","_law_phones_here","_law_groups_here","_law_wishes"] (rA 91):=sk
def zq:Sc 1 ["_law_board","_law_own"] (rA 92):=sk
def yg:Sc 2 ["_law_board","_law_deed_here","_law_told","e"] (rA 93):=sk
def FH:Sc 1 ["_law_found"] (rA 94):=sk
def Ll:Sc 2 ["_law_call","_law_phone"] (rA 95):=sk
def E1:Sc 1 ["_law_some_here"] (rA 96):=sk
def DT:Sc 2 ["_law_found","_law_due"] (rA 97):=sk
def GG:Sc 2 ["_law_found","_law_due"] (rA 98):=sk
def sQ:Sc 3 ["_law_board","_law_phone","_law_lines","_law_calls","_law_numbers","_law_many","_law_talks","_law_held","_law_rings","_law_waits"] (rA 99):=sk
def sZ:Sc 1 ["_law_board","_law_before","_law_phone","_law_lines","_law_rank"] (rA 100):=sk
def BW:Sc 1 ["_law_script","_law_board","_law_own","_law_names_here","_law_cell"] (rA 101):=sk
def B':Sc 2 ["self","word"] (tm 12 0):=sk
def Dv:Sc 3 ["self","plan","hour"] (tm 6 0):=sk
def FE:Sc 4 ["self","phones","groups","wishes"] (tm 76 0):=sk
def Dz:Sc 2 ["self","phone"] (tm 6 1):=sk
def AA:Sc 2 ["self","phone"] (tm 6 2):=sk
def Ay:Sc 2 ["self","phone"] (tm 6 3):=sk
def C0:Sc 2 ["self","phone"] (tm 6 4):=sk
def Aw:Sc 2 ["self","phone"] (tm 6 5):=sk
def zW:Sc 2 ["self","phone"] (tm 6 6):=sk
def HB:Sc 2 ["self","told"] (tm 42 0):=sk
def EQ:Sc 2 ["self","told"] (tm 43 0):=sk
def Bs:Sc 2 ["self","told"] (tm 44 0):=sk
def Dj:Sc 2 ["self","told"] (tm 46 0):=sk
def C9:Sc 2 ["self","told"] (tm 48 0):=sk
def ES:Sc 2 ["self","told"] (tm 49 0):=sk
def CB:Sc 2 ["self","told"] (tm 50 0):=sk
def DJ:Sc 2 ["self","phone"] (tm 76 3):=sk
def yK:Sc 1 ["self"] (tm 76 2):=sk
def xR:Sc 2 ["self","event","word"] (tm 6 12):=sk
def E5:Sc 2 ["self","told"] (tm 41 0):=sk
def Dm:Sc 1 ["self"] (tm 76 1):=sk
def EJ:Sc 2 ["self","caller"] (tm 2 0):=sk
def GX:Sc 2 ["self","phone"] (tm 2 1):=sk
def y8:Sc 2 ["self","phone"] (tm 2 2):=sk
def Ds:Sc 2 ["self","phone"] (tm 2 3):=sk
def yL:Sc 2 ["self","phone"] (tm 2 4):=sk
def y0:Sc 2 ["self","phone"] (tm 2 5):=sk
def Au:Sc 2 ["self","leg"] (tm 6 10):=sk
def yq:Sc 4 ["self","merged","kept","members","call"] (tm 6 11):=sk
def vT:Sc 1 ["self","call"] (tm 6 9):=sk
def zj:Sc 2 ["self","phone"] (tm 2 8):=sk
def xA:Sc 2 ["self","phone"] (tm 2 7):=sk
def Do:Sc 2 ["self","phone"] (tm 2 6):=sk
def Cz:Sc 2 ["self","call"] (tm 41 4):=sk
def Ax:Sc 2 ["self","call"] (tm 48 2):=sk
def EV:Sc 1 ["self"] (tm 41 1):=sk
def F':Sc 1 ["self"] (tm 42 1):=sk
def DH:Sc 1 ["self"] (tm 43 1):=sk
def As:Sc 1 ["self"] (tm 44 1):=sk
def DI:Sc 1 ["self"] (tm 49 1):=sk
def A8:Sc 1 ["self"] (tm 50 1):=sk
def HA:Sc 4 ["self","board","caller","target"] (tm 42 2):=sk
def Fo:Sc 4 ["self","board","caller","target"] (tm 43 2):=sk
def CF:Sc 4 ["self","board","caller","target"] (tm 45 0):=sk
def DN:Sc 4 ["self","board","caller","target"] (tm 46 2):=sk
def Fg:Sc 4 ["self","board","caller","target"] (tm 47 0):=sk
def Cv:Sc 4 ["self","board","caller","target"] (tm 48 1):=sk
def E2:Sc 4 ["self","board","caller","target"] (tm 49 2):=sk
def vM:Sc 4 ["self","board","caller","target","talk","members"] (tm 50 3):=sk
def CM:Sc 2 ["self","name"] (tm 76 6):=sk
def zJ:Sc 2 ["self","name"] (tm 76 5):=sk
def z9:Sc 2 ["self","hour"] (tm 46 1):=sk
def zM:Sc 1 ["self"] (tm 6 8):=sk
def vN:Sc 3 ["self","plan","members","rank"] (tm 50 2):=sk
def zr:Sc 3 ["self","caller","target"] (tm 6 7):=sk
def Gh:Sc 2 ["self","phone"] (tm 76 4):=sk
noncomputable def Lb:T0 (Str×QQQ):=[("bar",["phone","names"]),("shut",["name","phones"]),("always",["name","name"]),("night",["name","name","hour","hour"]),("busy",["name","name"]),("silent",["name","name","turns"]),("wait",["phone"]),("breaks",["phone"])]
set_option genInjectivity false in
structure Ad where
 (N ac aW aX aY ad aZ a0 a1 a2 a3 ae a4 a5 a6 a7 a8 a9 ba bb bc af bd be bf bg bh bi bj O P bk m ag ah Q bl bm bn bo bp bq R i ai S br bs bt bu bv bw bx bz bA bB bC bD bE bF T J aj bG ak al I am an ao L M ap aq ar au av B aw ax ay az bH U k F bI aA bJ V bK X aB bL bM bN aC bO aD q aE l aF aG A aH aI aJ aK aL aM aN aO aP aQ aR Y bP bQ bR aS aT:FA)
 (e c C r t Z w n x u v o h b9 H:Uf)
structure Gl(K:qL)(mg:QQZ)(a:Ad):Prop where
 e:CG K mg "Call" a.e
 c:CG K mg "Board" a.c
 C:CG K mg "Wish" a.C
 r:CG K mg "Bar" a.r
 t:CG K mg "Shut" a.t
 Z:CG K mg "Forward" a.Z
 w:CG K mg "Always" a.w
 n:CG K mg "Night" a.n
 x:CG K mg "Busy" a.x
 u:CG K mg "Silent" a.u
 v:CG K mg "Wait" a.v
 o:CG K mg "Breaks" a.o
 h:CG K mg "Plan" a.h
 c1:mg "CallError"=Fa (.ref a.b9)
 b1:mg "NoDeed"=Fa (.ref a.H)
 N:TG K mg (rA 1) "place_of_true" ["answers"] a.N
 ac:TG K mg (rA 3) "end_call" ["call","word"] a.ac
 aW:TG K mg (rA 4) "drop_phone" ["call","phone"] a.aW
 aX:TG K mg (rA 5) "change_call" ["call","event"] a.aX
 aY:TG K mg (rA 7) "call_picture" ["call"] a.aY
 ad:TG K mg (rA 8) "picture" ["board"] a.ad
 aZ:TG K mg (rA 14) "fitting" ["board","caller","target"] a.aZ
 a0:TG K mg (rA 15) "rung_phones" ["board","caller","target"] a.a0
 a1:TG K mg (rA 16) "end_without_wish" ["board","caller","target"] a.a1
 a2:TG K mg (rA 17) "end_as_wanted" ["wanted","target"] a.a2
 a3:TG K mg (rA 18) "route" ["board","caller","target","way"] a.a3
 ae:TG K mg (rA 20) "word_for_idling" ["board","phone"] a.ae
 a4:TG K mg (rA 21) "word_for_call" ["board","phone","target"] a.a4
 a5:TG K mg (rA 22) "suits" ["word","phone","calls"] a.a5
 a6:TG K mg (rA 23) "word_for_numbers" ["board","word","phone","numbers"] a.a6
 a7:TG K mg (rA 24) "word_for_switch" ["board","word","number"] a.a7
 a8:TG K mg (rA 25) "refusal" ["board","deed"] a.a8
 a9:TG K mg (rA 26) "take_steps" ["board","number","steps"] a.a9
 ba:TG K mg (rA 27) "start_ringing" ["board","number","target","phones"] a.ba
 bb:TG K mg (rA 28) "break_in" ["board","number","target"] a.bb
 bc:TG K mg (rA 29) "come_to_end" ["board","number","end"] a.bc
 af:TG K mg (rA 30) "go_on" ["board","number"] a.af
 bd:TG K mg (rA 31) "make_call" ["board","phone","target"] a.bd
 be:TG K mg (rA 32) "hang_up" ["board","phone","number"] a.be
 bf:TG K mg (rA 33) "due_wishes" ["board","call"] a.bf
 bg:TG K mg (rA 34) "send_on" ["board","number","fits"] a.bg
 bh:TG K mg (rA 35) "let_turn_pass" ["board"] a.bh
 bi:TG K mg (rA 36) "event_of" ["board","deed"] a.bi
 bj:TG K mg (rA 37) "act" ["board","deed"] a.bj
 O:TG K mg (rA 38) "do" ["board","deed"] a.O
 P:TG K mg (rA 40) "is_busy" ["board","caller","target"] a.P
 bk:TG K mg (rA 51) "wish_of" ["told"] a.bk
 m:TG K mg (rA 66) "need" ["holds","words"] a.m
 ag:TG K mg (rA 67) "is_name" ["text"] a.ag
 ah:TG K mg (rA 68) "all_unlike" ["things"] a.ah
 Q:TG K mg (rA 69) "is_choice" ["chosen","known","most"] a.Q
 bl:TG K mg (rA 70) "check_phones" ["phones"] a.bl
 bm:TG K mg (rA 71) "check_groups" ["groups","phone_names"] a.bm
 bn:TG K mg (rA 72) "part_holds" ["kind","part","phone_names","names"] a.bn
 bo:TG K mg (rA 73) "check_wish" ["wish","phone_names","names"] a.bo
 bp:TG K mg (rA 74) "check_wishes" ["wishes","phone_names","names"] a.bp
 bq:TG K mg (rA 75) "check_plan" ["phones","groups","wishes"] a.bq
 R:TG K mg (rA 78) "_law_at" ["_law_script","_law_k"] a.R
 i:TG K mg (rA 79) "_law_draw" ["_law_cell","_law_factor","_law_many"] a.i
 ai:TG K mg (rA 80) "_law_word" ["_law_seed","_law_which"] a.ai
 S:TG K mg (rA 81) "_law_some" ["_law_row","_law_cell","_law_most"] a.S
 br:TG K mg (rA 82) "_law_phones" ["_law_seed","_law_most"] a.br
 bs:TG K mg (rA 83) "_law_groups" ["_law_seed","_law_own"] a.bs
 bt:TG K mg (rA 84) "_law_wish" ["_law_cell","_law_own","_law_names_here"] a.bt
 bu:TG K mg (rA 85) "_law_plan" ["_law_script","_law_most"] a.bu
 bv:TG K mg (rA 86) "_law_people" ["_law_call"] a.bv
 bw:TG K mg (rA 87) "_law_of_state" ["_law_board","_law_states"] a.bw
 bx:TG K mg (rA 88) "_law_on_call" ["_law_board","_law_cell","_law_word_here","_law_states"] a.bx
 bz:TG K mg (rA 89) "_law_any" ["_law_cell","_law_own","_law_names_here","_law_many"] a.bz
 bA:TG K mg (rA 90) "_law_deed" ["_law_board","_law_cell","_law_own","_law_names_here"] a.bA
 bB:TG K mg (rA 91) "_law_made" ["_law_script","_law_most"] a.bB
 bC:TG K mg (rA 92) "_law_names" ["_law_board"] a.bC
 bD:TG K mg (rA 93) "_law_done" ["_law_board","_law_deed_here"] a.bD
 bE:TG K mg (rA 94) "_law_whole" ["_law_found"] a.bE
 bF:TG K mg (rA 95) "_law_in" ["_law_call","_law_phone"] a.bF
 T:TG K mg (rA 96) "_law_first" ["_law_some_here"] a.T
 J:TG K mg (rA 97) "_law_number" ["_law_found","_law_due"] a.J
 aj:TG K mg (rA 98) "_law_flag" ["_law_found","_law_due"] a.aj
 bG:TG K mg (rA 99) "_law_right" ["_law_board","_law_phone","_law_lines"] a.bG
 ak:TG K mg (rA 100) "_law_all_right" ["_law_board"] a.ak
 al:TG K mg (rA 101) "law" ["_law_script"] a.al
 I:MG K a.H (tm 12 0) "__init__" "NoDeed.__init__" ["self","word"] a.I
 am:MG K a.c (tm 6 0) "__init__" "Board.__init__" ["self","plan","hour"] a.am
 an:MG K a.h (tm 76 0) "__init__" "Plan.__init__" ["self","phones","groups","wishes"] a.an
 ao:MG K a.c (tm 6 1) "used" "Board.used" ["self","phone"] a.ao
 L:MG K a.c (tm 6 2) "is_free" "Board.is_free" ["self","phone"] a.L
 M:MG K a.c (tm 6 3) "talk_of" "Board.talk_of" ["self","phone"] a.M
 ap:MG K a.c (tm 6 4) "bound" "Board.bound" ["self","phone"] a.ap
 aq:MG K a.c (tm 6 5) "calling" "Board.calling" ["self","phone"] a.aq
 ar:MG K a.c (tm 6 6) "waits_at" "Board.waits_at" ["self","phone"] a.ar
 au:MG K a.r (tm 42 0) "__init__" "Bar.__init__" ["self","told"] a.au
 av:MG K a.t (tm 43 0) "__init__" "Shut.__init__" ["self","told"] a.av
 B:MG K a.Z (tm 44 0) "__init__" "Forward.__init__" ["self","told"] a.B
 aw:MG K a.n (tm 46 0) "__init__" "Night.__init__" ["self","told"] a.aw
 ax:MG K a.u (tm 48 0) "__init__" "Silent.__init__" ["self","told"] a.ax
 ay:MG K a.v (tm 49 0) "__init__" "Wait.__init__" ["self","told"] a.ay
 az:MG K a.o (tm 50 0) "__init__" "Breaks.__init__" ["self","told"] a.az
 bH:MG K a.h (tm 76 3) "lines" "Plan.lines" ["self","phone"] a.bH
 U:MG K a.h (tm 76 2) "phone_names" "Plan.phone_names" ["self"] a.U
 k:MG K a.c (tm 6 12) "apply" "Board.apply" ["self","event"] a.k
 F:MG K a.C (tm 41 0) "__init__" "Wish.__init__" ["self","told"] a.F
 bI:MG K a.h (tm 76 1) "names" "Plan.names" ["self"] a.bI
 aA:MG K a.e (tm 2 0) "__init__" "Call.__init__" ["self","caller"] a.aA
 bJ:MG K a.e (tm 2 1) "has" "Call.has" ["self","phone"] a.bJ
 V:MG K a.e (tm 2 2) "talks_with" "Call.talks_with" ["self","phone"] a.V
 bK:MG K a.e (tm 2 3) "binds" "Call.binds" ["self","phone"] a.bK
 X:MG K a.e (tm 2 4) "is_tried_by" "Call.is_tried_by" ["self","phone"] a.X
 aB:MG K a.e (tm 2 5) "waits_with" "Call.waits_with" ["self","phone"] a.aB
 bL:MG K a.c (tm 6 10) "add_leg" "Board.add_leg" ["self","leg"] a.bL
 bM:MG K a.c (tm 6 11) "merge" "Board.merge" ["self","merged","kept","members"] a.bM
 bN:MG K a.c (tm 6 9) "pass_turn" "Board.pass_turn" ["self"] a.bN
 aC:MG K a.e (tm 2 8) "other_than" "Call.other_than" ["self","phone"] a.aC
 bO:MG K a.e (tm 2 7) "can_be_left_by" "Call.can_be_left_by" ["self","phone"] a.bO
 aD:MG K a.e (tm 2 6) "pairs" "Call.pairs" ["self","phone"] a.aD
 q:MG K a.C (tm 41 4) "is_due" "Wish.is_due" ["self","call"] a.q
 aE:MG K a.u (tm 48 2) "is_due" "Silent.is_due" ["self","call"] a.aE
 l:MG K a.C (tm 41 1) "told" "Wish.told" ["self"] a.l
 aF:MG K a.r (tm 42 1) "wants" "Bar.wants" ["self"] a.aF
 aG:MG K a.t (tm 43 1) "wants" "Shut.wants" ["self"] a.aG
 A:MG K a.Z (tm 44 1) "wants" "Forward.wants" ["self"] a.A
 aH:MG K a.v (tm 49 1) "wants" "Wait.wants" ["self"] a.aH
 aI:MG K a.o (tm 50 1) "wants" "Breaks.wants" ["self"] a.aI
 aJ:MG K a.r (tm 42 2) "fits" "Bar.fits" ["self","board","caller","target"] a.aJ
 aK:MG K a.t (tm 43 2) "fits" "Shut.fits" ["self","board","caller","target"] a.aK
 aL:MG K a.w (tm 45 0) "fits" "Always.fits" ["self","board","caller","target"] a.aL
 aM:MG K a.n (tm 46 2) "fits" "Night.fits" ["self","board","caller","target"] a.aM
 aN:MG K a.x (tm 47 0) "fits" "Busy.fits" ["self","board","caller","target"] a.aN
 aO:MG K a.u (tm 48 1) "fits" "Silent.fits" ["self","board","caller","target"] a.aO
 aP:MG K a.v (tm 49 2) "fits" "Wait.fits" ["self","board","caller","target"] a.aP
 aQ:MG K a.o (tm 50 3) "fits" "Breaks.fits" ["self","board","caller","target"] a.aQ
 aR:MG K a.h (tm 76 6) "manner" "Plan.manner" ["self","name"] a.aR
 Y:MG K a.h (tm 76 5) "phones_of" "Plan.phones_of" ["self","name"] a.Y
 bP:MG K a.n (tm 46 1) "has_hour" "Night.has_hour" ["self","hour"] a.bP
 bQ:MG K a.c (tm 6 8) "hour_now" "Board.hour_now" ["self"] a.bQ
 bR:MG K a.o (tm 50 2) "outranks" "Breaks.outranks" ["self","plan","members"] a.bR
 aS:MG K a.c (tm 6 7) "ringable" "Board.ringable" ["self","caller","target"] a.aS
 aT:MG K a.h (tm 76 4) "rank" "Plan.rank" ["self","phone"] a.aT
 ca:Ke K a.H a.I.f
 cb:zo K a.H "word"
 cc:QQ K a.H "word"
 cd:W.exmOne K (.ref a.H) (.ref a.H)=Fa pc
 ce:Mk K a.c a.am.f
 cf:Mk K a.h a.an.f
 cg:Mk K a.r a.au.f
 ch:Mk K a.t a.av.f
 ci:Mk K a.w a.B.f
 cj:Mk K a.n a.aw.f
 ck:Mk K a.x a.B.f
 cl:Mk K a.u a.ax.f
 cm:Mk K a.v a.ay.f
 cn:Mk K a.o a.az.f
 co:Mk K a.e a.aA.f
 cp:vX K a.r "is_due" a.q.f
 cq:vX K a.t "is_due" a.q.f
 cr:vX K a.w "is_due" a.q.f
 cs:vX K a.n "is_due" a.q.f
 ct:vX K a.x "is_due" a.q.f
 cu:vX K a.v "is_due" a.q.f
 cv:vX K a.o "is_due" a.q.f
 cw:vX K a.r "told" a.l.f
 cx:vX K a.t "told" a.l.f
 cy:vX K a.w "told" a.l.f
 cz:vX K a.n "told" a.l.f
 cA:vX K a.x "told" a.l.f
 cB:vX K a.u "told" a.l.f
 cC:vX K a.v "told" a.l.f
 cD:vX K a.o "told" a.l.f
 cE:vX K a.w "wants" a.A.f
 cF:vX K a.n "wants" a.A.f
 cG:vX K a.x "wants" a.A.f
 cH:vX K a.u "wants" a.A.f
 aU:Nn K a.C "__init__" a.F.f
 b2:Nn K a.Z "__init__" a.B.f
 E:zT K a.c ["plan","hour","turn","calls","legs","nexts","on","log"]
 aa:zT K a.h ["phones","groups","wishes","on","phone_rows","group_rows"]
 bU:zT K a.r ["form","phone","targets"]
 bV:zT K a.t ["form","target","callers"]
 bW:zT K a.w ["form","target","goal"]
 aV:zT K a.n ["form","target","goal","first","last"]
 bX:zT K a.x ["form","target","goal"]
 bS:zT K a.u ["form","target","goal","turns"]
 b3:zT K a.v ["form","phone"]
 b4:zT K a.o ["form","phone"]
 j:zT K a.e ["state","caller","way","at","members","holder","since","word"]
 cI:W.kitOne K (.type "int") (.type "int")=Fa pc
 cJ:W.kitOne K (.type "int") (.type "bool")=Fa lf
 cK:W.kitOne K (.type "bool") (.type "bool")=Fa pc
 g:mg "len"=Db
 ab:mg "range"=Db
 bY:mg "dict"=Db
 z:mg "list"=Db
 y:mg "tuple"=Db
 b5:mg "sorted"=Db
 bZ:mg "isinstance"=Db
 b6:mg "bool"=Db
 cL:mg "any"=Db
 cM:mg "min"=Db
 cN:mg "set"=Db
 cO:mg "int"=Db
 bT:mg "all"=Db
 b0:mg "enumerate"=Db
 cP:mg "zip"=Db
 cQ:KD K mg "MOST_PHONES" (.int 8)
 cR:KD K mg "MOST_LINES" (.int 3)
 cS:KD K mg "MOST_RANK" (.int 9)
 cT:KD K mg "MOST_GROUPS" (.int 3)
 cU:KD K mg "MANNERS" (.tup ((["all","turns"]:QQQ).map D.str))
 cV:KD K mg "MOST_MEMBERS" (.int 4)
 cW:KD K mg "MOST_WISHES" (.int 16)
 cX:KD K mg "MOST_SIGNS" (.int 6)
 cY:KD K mg "LETTERS" (.str "abcdefghijklmnopqrstuvwxyz")
 b7:NW K mg "FORMS" Lb
 b8:KD K mg "MOST_LISTED" (.int 6)
 cZ:KD K mg "LAST_HOUR" (.int 23)
 c0:KD K mg "MOST_TURNS" (.int 9)
noncomputable def draw(c f m:Int):Int:=(c % 2147483647+5)*f % 2147483629 / 89 % m
def rF{c f m:Int}(h:0<m):0<=draw c f m:=fh _ (by omega)
def rf{c f m:Int}(h:0<m):draw c f m<m:=eX _ h
def JC:rL:=λds M Q=>BV λc f m=>ds=[.int c,.int f,.int m]/\0<m/\Q (.int (draw c f m)) M
noncomputable def uM:Str:="abcdefghijklmnopqrstuvwxyz"
noncomputable def uI(i:Int):Str:=⟨#[97+i.toNat]⟩
noncomputable def size(s:Int):Int:=1+s % 6
def uV(s:Int):Int:=s / 6 % size s
def yc(s v:Int):Str:=ze (uI (s / 36 % 26)) (uV s)++uI ((s / 936+v) % 26)++ze (uI (s / 36 % 26)) (size s - 1 - uV s)
def Pv:rL:=λds M Q=>AU λs v=>ds=[.int s,.int v]/\Q (.str (yc s v)) M
noncomputable def cell(ns:T0 Int)(i:Int):Int:=if 0<=i/\i<ns.length then ns.getD i.toNat 0 else 0
def Uj:rL:=λds M Q=>AU λns i=>ds=[.rl (ns.map D.int),.int i]/\Q (.int (cell ns i)) M
def Hv(c:Int):0<size c:=by unfold size;have:=fh c (show(6:Int)≠0 by decide);omega
def Jr(c:Int):size c<=6:=by unfold size;have:=eX c (show(0:Int)<6 by decide);omega
def HC(i n:Int):(ze (uI i) n).length=n.toNat:=by show((List.replicate n.toNat (uI i).cps).foldl (·++·) #[]:Array Nat).size=n.toNat;rw[JP];show n.toNat*1=n.toNat;omega
def AV:uM.length<=pi:=by decide+kernel
variable {P:Pg}{w:Wo}{K:qL}{mg:QQZ}{base:No}{a:Ad}(G:Gl K mg a)
def rb:Fq P w K mg base 1 a.i JC:=by
 refine fq G.i.toDG Gy (λr u=>⟨_,(pR (pW (qx (qx (qx (qx (qx (qx v0 pS) pS) U1) pS) pS) U2))),?_⟩)
 rintro ds M Q ⟨c,f,m,rfl,hm,q⟩
 refine⟨by decide,.inl ?_,by decide,⟨by decide,by decide⟩,hm,M,.refl,q⟩;have h1:0<=c % 2147483647:=fh _ (by decide);have h2:c % 2147483647<2147483647:=eX _ (by decide);exact⟨by omega,by omega⟩
def DY{i:Int}(h0:0<=i)(h1:i<26):wY uM.cps.toList i=Fa (97+i.toNat):=by
 obtain⟨n,rfl⟩:=eK h0;have hn:n<26:=by omega
 have key:∀n:_root_.Fin 26,wY uM.cps.toList ((n.val:Nat):Int)=Fa (97+n.val):=by decide+kernel
 exact key ⟨n,hn⟩
def JB:Fq P w K mg base 1 a.ai Pv:=by
 refine fq G.ai.toDG uJ (λr u=>⟨_,(pP (qg 2 uJ pT)
 (pP (qg 3 uJ (qx pS (qx v0 pS)))
 (pP (qg 4 uJ (qx (qx v0 pS) U3))
 (pP (qg 5 uJ (qe U2 (qx (qx v0 pS) pS)))
 (pP (qg 6 uJ (qe U2 (qx (qx (qx v0 pS) U1) pS)))
 (pR (pW (qx (qx (qx v5 v4) v6) (qx v5 (qx (qx U3 pS) v4)))))))))),?_⟩)
 rintro ds M Q ⟨c,v,rfl,q⟩
 have hs:=Hv c;have hs6:=Jr c;have hp0:0<=uV c:=fh _ (by omega);have Zo:uV c<size c:=eX _ hs;have l1:=HC (c / 36 % 26) (uV c);have l2:=HC (c / 36 % 26) (size c - 1 - uV c);have hz:=dR;refine⟨by decide,⟨by decide,by decide⟩,hs,⟨by decide,by decide⟩,by decide,AV,i' (DY (fh _ (by decide)) (eX _ (by decide))) ?_⟩;refine⟨⟨by decide,by decide⟩,by decide,AV,i' (DY (fh _ (by decide)) (eX _ (by decide))) ?_⟩;refine⟨⟨?_,?_,?_⟩,?_,⟨?_,?_,?_⟩,?_,M,.refl,q⟩
 .show uV c<4096;omega
 .show -4096<uV c;omega
 .show(1:Nat)<4096;decide
 .show(ze (uI (c / 36 % 26)) (uV c)).length+1<=pi;omega
 .show size c - 1 - uV c<4096;omega
 .show -4096<size c - 1 - uV c;omega
 .show(1:Nat)<4096;decide
 .show(ze (uI (c / 36 % 26)) (uV c)++uI ((c / 936+v) % 26)).length+(ze (uI (c / 36 % 26)) (size c - 1 - uV c)).length<=pi;rw[PySem.size_cat];have:(uI ((c / 936+v) % 26)).length=1:=rfl;omega
def Ml:Fq P w K mg base 1 a.R Uj:=by
 refine fq G.R.toDG Lk (λr u=>⟨_,(pP (qm (Gk u pS U1 (qr qU Z' G.g qR (qE v0)))
 (pR (pW (qe v0 U1)))
 qd)
 (pR (pW pS))),?_⟩)
 rintro ds M Q ⟨ns,i,rfl,q⟩
 refine qW (λh0=>?_) (λh0=>?_)
 .have h0:0<=i:=fZ h0;refine qW (λh1=>?_) (λh1=>?_)
  .have h1:i<((ns.map D.int).length:Int):=fZ h1;rw[c9]at h1;have hi:i.toNat<ns.length:=by omega
   have e:wY (ns.map D.int) i=Fa (D.int (ns.getD i.toNat 0)):=by
    obtain⟨n,rfl⟩:=eK h0;have hn:n<ns.length:=by omega
    refine vF ?_;rw[dJ,df hn];simp[hn]
   refine i' e ⟨M,.refl,?_⟩;have:cell ns i=ns.getD i.toNat 0:=by unfold cell;rw[dw ⟨h0,h1⟩]
   rw[<-this];exact q
  .have h1:¬i<((ns.map D.int).length:Int):=λz=>h1 (d9 z);rw[c9]at h1;refine⟨M,.refl,?_⟩;have:cell ns i=0:=by unfold cell;rw[dq (λz=>h1 z.2)]
   rw[<-this];exact q
 .have h0:¬0<=i:=λz=>h0 (d9 z);refine⟨M,.refl,?_⟩;have:cell ns i=0:=by unfold cell;rw[dq (λz=>h0 z.1)]
  rw[<-this];exact q
inductive Wi where
 | bar (x:Str) (ns:QQQ)|shut (x:Str) (ns:QQQ)|always (x y:Str)|night (x y:Str) (f l:Int)|busy (x y:Str)|silent (x y:Str) (n:Int)|wait (x:Str)|breaks (x:Str)
abbrev names(ns:QQQ):D:=.tup (ns.map D.str)
noncomputable def Wi.told:Wi->T0 D
 | .bar x ns=>[.str "bar",.str x,names ns]
 | .shut x ns=>[.str "shut",.str x,names ns]
 | .always x y=>[.str "always",.str x,.str y]
 | .night x y f l=>[.str "night",.str x,.str y,.int f,.int l]
 | .busy x y=>[.str "busy",.str x,.str y]
 | .silent x y n=>[.str "silent",.str x,.str y,.int n]
 | .wait x=>[.str "wait",.str x]
 | .breaks x=>[.str "breaks",.str x]
noncomputable def Wi.cls(a:Ad):Wi->Uf
 | .bar _ _=>a.r
 | .shut _ _=>a.t
 | .always _ _=>a.w
 | .night _ _ _ _=>a.n
 | .busy _ _=>a.x
 | .silent _ _ _=>a.u
 | .wait _=>a.v
 | .breaks _=>a.o
noncomputable def Wi.more:Wi->T0 (Str×D)
 | .bar x ns=>[("phone",.str x),("targets",names ns)]
 | .shut x ns=>[("target",.str x),("callers",names ns)]
 | .always x y=>[("target",.str x),("goal",.str y)]
 | .night x y f l=>[("target",.str x),("goal",.str y),("first",.int f),("last",.int l)]
 | .busy x y=>[("target",.str x),("goal",.str y)]
 | .silent x y n=>[("target",.str x),("goal",.str y),("turns",.int n)]
 | .wait x=>[("phone",.str x)]
 | .breaks x=>[("phone",.str x)]
noncomputable def Wi.oj(v:Wi):T0 (Str×D):=("form",.tup v.told)::v.more
abbrev BO(ns:QQQ)(i:Int):Str:=ns.getD i.toNat Str.empty
def xI(row:QQQ)(c m:Int):Nat:=(1+draw c 40692 (if (row.length:Int)<m then(row.length:Int)else m)).toNat
def Vp(row:QQQ)(c:Int)(j:Nat):Str:=BO row ((draw c 69621 row.length+(0+(j:Nat))) % row.length)
def wu(row:QQQ)(c m:Int):QQQ:=(List.range (xI row c m)).map (Vp row c)
def Pe:rL:=λds M Q=>Br λr c m row=>ds=[.ref r,.int c,.int m]/\pI M r=Fa (row.map D.str)/\row≠[]/\0<m/\row.length<=64/\Q (names (wu row c m)) M
def JY{row:QQQ}(h:row≠[])(x:Int):wY (row.map D.str) (x % row.length)=Fa (D.str (BO row (x % row.length))):=by
 have hl:0<row.length:=fG.mpr h;have h0:0<=x % row.length:=fh _ (by omega);have h1:x % row.length<row.length:=eX _ (by omega);obtain⟨n,hn⟩:=eK h0;rw[hn]at h1 ⊢;have Zi:n<row.length:=by omega
 refine vF ?_;rw[dJ,df Zi];simp[BO,Zi]
def yA:Fq P w K mg base 2 a.S Pe:=by
 refine fq G.S.toDG xU (λr u=>⟨_,(pP (qg 3 xU (qa (rb G) r G.i (rO U1 pS (qr qU Z' G.g qR (qE v0)))))
 (pP (qg 4 xU (qx pS (qa (rb G) r G.i (rO U1 pS (qr (R1 Z') Z' G.cM Tj (sA U2 (qr qU Z' G.g qR (qE v0))))))))
 (pR (pW (qG sV Z' G.y sS (qE (qY Z' (xy (ix:=[Db,Fa 0,Fa 3]) (N':=["_law_j","_law_row","_law_first_here"])) (wN Z' G.ab (qE v4)) (qP 0) su (qe U1 (qx (qx U2 v0) (qr qU Z' G.g qR (qE U1))))))))))),?_⟩)
 rintro ds M Q ⟨r,c,m,row,rfl,hl,X3,hm,h64,q⟩
 have XN:0<row.length:=fG.mpr X3;have hz:=dR;have el:((row.map D.str).length:Int)=row.length:=by rw[c9]
 refine i' hl ⟨c,69621,_,Z',by rw[el];omega,?_⟩;refine i' hl ⟨c,40692,_,Z',by rw[el];split<;>omega,?_⟩;rw[el];have d0:=rF (c:=c) (f:=40692) (m:=if (row.length:Int)<m then(row.length:Int)else m) (by split<;>omega);have d1:=rf (c:=c) (f:=40692) (m:=if (row.length:Int)<m then(row.length:Int)else m) (by split<;>omega);have d2:draw c 40692 (if (row.length:Int)<m then(row.length:Int)else m)<row.length+1:=by refine Int.lt_of_lt_of_le d1 ?_;split<;>omega
 refine⟨Z',⟨?_,?_⟩,rK (f:=λd=>match d with|.int j=>D.str (BO row ((draw c 69621 row.length+j) % row.length))|_=>.nz) trivial _ [] _ ?_ (λd hd k hk=>?_) λp hp=>?_⟩
 .show -(2 ^ 62)<=1+draw c 40692 (if (row.length:Int)<m then(row.length:Int)else m);omega
 .show 1+draw c 40692 (if (row.length:Int)<m then(row.length:Int)else m)<2 ^ 62;omega
 .rw[c9,eI];show 0+xI row c m<=pi;unfold xI;omega
 .obtain⟨j,_,rfl⟩:=dI.mp hd;refine i' hl ⟨by rw[el];omega,i' hl ?_⟩;rw[el];exact i' (JY X3 _) hk
 .refine i' (x:=(wu row c m).map D.str) ?_ ⟨M,.new hp,q⟩;unfold pI;rw[qp];show Fa ([]++((List.range (xI row c m)).map λi=>D.int (0+(i:Nat))).map _)=_;rw[eC,eA];unfold wu;rw[eA];rfl
def wO(c:Int)(own all:QQQ):Wi:=
 let x:=BO own (draw c 16807 own.length);let pl:=draw c 39373 all.length;let y:=BO all pl;let z:=BO all ((pl+1+draw c 742938285 ((all.length:Int) - 1)) % all.length);let k:=draw c 1226874159 12
 if k=0 then .bar x (wu all c 3)
 else if k=1 then .shut y (wu own c 3)
 else if k=2 then .always y z
 else if k<5 then .night y z (draw c 22695477 24) ((draw c 22695477 24+1+draw c 48271 23) % 24)
 else if k<7 then .busy y z
 else if k<9 then .silent y z ([1,1,2,3,9].getD (draw c 950706376 5).toNat 0)
 else if k=9 then .wait x
 else .breaks x
def PQ:rL:=λds M Q=>HI λc o n own all=>ds=[.int c,.ref o,.ref n]/\pI M o=Fa (own.map D.str)/\pI M n=Fa (all.map D.str)/\own≠[]/\2<=all.length/\own.length<=64/\all.length<=64/\Q (.tup (wO c own all).told) M
def HW{row:QQQ}{x:Int}(h0:0<=x)(h1:x<row.length):wY (row.map D.str) x=Fa (D.str (BO row x)):=by
 obtain⟨n,rfl⟩:=eK h0;have Zi:n<row.length:=by omega
 refine vF ?_;rw[dJ,df Zi];simp[BO,Zi]
def Po:Fq P w K mg base 3 a.bt PQ:=by
 refine fq G.bt.toDG tT (λr u=>⟨_,(pP (qg 3 tT (qe U1 (qa (rb G) r G.i (rO v0 pS (qr qU Z' G.g qR (qE U1))))))
 (pP (qg 4 tT (qa (rb G) r G.i (rO v0 pS (qr qU Z' G.g qR (qE U2)))))
 (pP (qg 5 tT (qe U2 v4))
 (pP (qg 6 tT (qe U2 (qx (qx (qx v4 pS) (qa (rb G) r G.i (rO v0 pS (qx (qr qU Z' G.g qR (qE U2)) pS)))) (qr qU Z' G.g qR (qE U2)))))
 (pP (qg 7 tT (qa (rb G) r G.i (rO v0 pS pS)))
 (pP (qm (pZ u v7 pS)
 (pR (pW (qk (rO pT U3 (qa (yA G) r G.S (rO U2 v0 pS))))))
 qd)
 (pP (qm (pZ u v7 pS)
 (pR (pW (qk (rO pT v5 (qa (yA G) r G.S (rO U1 v0 pS))))))
 qd)
 (pP (qm (pZ u v7 pS)
 (pR (pW (qk (rO pT v5 v6))))
 qd)
 (pP (qm (pZ u v7 pS)
 (pP (qg 8 tT (qa (rb G) r G.i (rO v0 pS pS)))
 (pR (pW (qk (qz pT (qz v5 (rO v6 v8 (qx (qx (qx v8 pS) (qa (rb G) r G.i (rO v0 pS pS))) pS))))))))
 qd)
 (pP (qm (pZ u v7 pS)
 (pR (pW (qk (rO pT v5 v6))))
 qd)
 (pP (qm (pZ u v7 pS)
 (pR (pW (qk (qz pT (rO v5 v6 (qe (qk (qz pS (qz pS (rO pS pS pS)))) (qa (rb G) r G.i (rO v0 pS pS))))))))
 qd)
 (pP (qm (pZ u v7 pS)
 (pR (pW (qk (sA pT U3))))
 qd)
 (pR (pW (qk (sA pT U3)))))))))))))))),?_⟩)
 rintro ds M Q ⟨c,o,n,own,all,rfl,ho,hn,X3,h2,l1,l2,q⟩
 have XN:0<own.length:=fG.mpr X3;have hne2:all≠[]:=λz=>by rw[z]at h2;simp at h2
 have e1:((own.map D.str).length:Int)=own.length:=by rw[c9]
 have e2:((all.map D.str).length:Int)=all.length:=by rw[c9]
 have p1:(0:Int)<own.length:=by omega
 have p2:(0:Int)<all.length:=by omega
 have p3:(0:Int)<(all.length:Int) - 1:=by omega
 refine i' ho ⟨c,_,_,Z',by rw[e1];exact p1,?_⟩;rw[e1];refine i' ho (i' (HW (rF p1) (rf p1)) ?_);refine i' hn ⟨c,_,_,Z',by rw[e2];exact p2,?_⟩;rw[e2];refine i' hn (i' (HW (rF p2) (rf p2)) ?_);refine i' hn ⟨c,_,_,Z',by rw[e2];exact p3,?_⟩;rw[e2];refine i' hn ⟨by rw[e2];exact p2,?_⟩;rw[e2];refine i' hn (i' (JY hne2 _) ?_);refine⟨c,_,_,Z',by decide,?_⟩;have XJ:∀t:T0 D,(wO c own all).told=t->∃XM,qQ XM M/\Q (.tup t) XM:=λt e=>⟨M,.refl,e ▸ q⟩;have k0:0<=draw c 1226874159 12:=rF (by decide);refine qW (λh=>?_) (λh=>?_)
 .have h:draw c 1226874159 12=0:=by simpa using h
  refine⟨n,c,3,all,Z',hn,hne2,by decide,l2,pN Z',XJ _ ?_⟩;simp only[wO,dw h,Wi.told]
 have h:¬draw c 1226874159 12=0:=by simpa using h
 refine qW (λg=>?_) (λg=>?_)
 .have g:draw c 1226874159 12=1:=by simpa using g
  refine⟨o,c,3,own,Z',ho,X3,by decide,l1,pN Z',XJ _ ?_⟩;simp only[wO,dq h,dw g,Wi.told]
 have g:¬draw c 1226874159 12=1:=by simpa using g
 refine qW (λi=>?_) (λi=>?_)
 .have i:draw c 1226874159 12=2:=by simpa using i
  refine⟨pN Z',XJ _ ?_⟩;simp only[wO,dq h,dq g,dw i,Wi.told]
 have i:¬draw c 1226874159 12=2:=by simpa using i
 refine qW (λj=>?_) (λj=>?_)
 .have j:draw c 1226874159 12<5:=fZ j;refine⟨c,_,_,Z',by decide,c,_,_,Z',by decide,by decide,pN Z',XJ _ ?_⟩;simp only[wO,dq h,dq g,dq i,dw j,Wi.told]
 have j:¬draw c 1226874159 12<5:=λz=>j (d9 z);refine qW (λl=>?_) (λl=>?_)
 .have l:draw c 1226874159 12<7:=fZ l;refine⟨pN Z',XJ _ ?_⟩;simp only[wO,dq h,dq g,dq i,dq j,dw l,Wi.told]
 have l:¬draw c 1226874159 12<7:=λz=>l (d9 z);refine qW (λm=>?_) (λm=>?_)
 .have m:draw c 1226874159 12<9:=fZ m;have d0:0<=draw c 950706376 5:=rF (by decide);have d1:draw c 950706376 5<5:=rf (by decide);have e:wY [D.int 1,.int 1,.int 2,.int 3,.int 9] (draw c 950706376 5)=Fa (D.int ([1,1,2,3,9].getD (draw c 950706376 5).toNat 0)):=by
   obtain⟨t,ht⟩:=eK d0;rw[ht]at d1 ⊢;have:t<5:=by omega
   match t,this with
   | 0,_=>rfl
   | 1,_=>rfl
   | 2,_=>rfl
   | 3,_=>rfl
   | 4,_=>rfl
  refine⟨pN Z',c,_,_,Z',by decide,i' e ⟨pN Z',XJ _ ?_⟩⟩;simp only[wO,dq h,dq g,dq i,dq j,dq l,dw m,Wi.told]
 have m:¬draw c 1226874159 12<9:=λz=>m (d9 z);refine qW (λr=>?_) (λr=>?_)
 .have r:draw c 1226874159 12=9:=by simpa using r
  refine⟨pN Z',XJ _ ?_⟩;simp only[wO,dq h,dq g,dq i,dq j,dq l,dq m,dw r,Wi.told]
 have r:¬draw c 1226874159 12=9:=by simpa using r
 refine⟨pN Z',XJ _ ?_⟩;simp only[wO,dq h,dq g,dq i,dq j,dq l,dq m,dq r,Wi.told]
def NG(K:qL):rL:=λds M Q=>BV λp d C=>ds=[.ref p,d]/\M p=Fa (.ins C [])/\uH K C "form"/\Q .nz (pX M p (.ins C [("form",d)]))
def NM(K:qL):rL:=λds M Q=>HI λp t x y C=>ds=[.ref p,.tup t]/\wY t 1=Fa x/\wY t 2=Fa y/\M p=Fa (.ins C [])/\uH K C "form"/\uH K C "target"/\uH K C "goal"/\Q .nz (pX M p (.ins C [("form",.tup t),("target",x),("goal",y)]))
def yE(a:Ad)(k:Wi->Prop):rL:=λds M Q=>AU λp v=>ds=[.ref p,.tup (Wi.told v)]/\k v/\M p=Fa (.ins (v.cls a) [])/\Q .nz (pX M p (.ins (v.cls a) v.oj))
def yo:Fq P w K mg base 1 a.F (NG K):=by
 refine fq G.F.toDG E5 (λr u=>⟨_,(pR (qC v0 U1)),?_⟩)
 rintro ds M Q ⟨p,d,C,rfl,hp,na,q⟩
 exact pQ hp ⟨na,by decide,_,.refl,q⟩
def zN:Fq P w K mg base 2 a.B (NM K):=by
 refine fq G.B.toDG Bs (λr u=>⟨_,(pP (ql (zh G.aU (yo G) r G.C G.F.toDG (sA v0 U1)))
 (pP (qC v0 (qe U1 pS))
 (pR (qC v0 (qe U1 pS))))),?_⟩)
 rintro ds M Q ⟨p,t,x,y,C,rfl,e1,e2,hp,n1,n2,n3,q⟩
 refine⟨p,_,C,Z',hp,n1,i' e1 (pQ qp ⟨n2,by show 1<1000;decide,?_⟩)⟩;refine i' e2 (pQ qp ⟨n3,by show 2<1000;decide,_,?_,q⟩);rw[sf,sf];exact .refl
def RK:Fq P w K mg base 2 a.au (yE a λv=>∃x ns,v=.bar x ns):=by
 refine fq G.au.toDG HB (λr u=>⟨_,(pP (ql (zh G.aU (yo G) r G.C G.F.toDG (sA v0 U1)))
 (pP (qC v0 (qe U1 pS))
 (pR (qC v0 (qe U1 pS))))),?_⟩)
 rintro ds M Q ⟨p,v,rfl,⟨x,ns,rfl⟩,hp,q⟩
 refine⟨p,_,_,Z',hp,(G.bU "form" Z'),pQ qp ⟨(G.bU "phone" Z'),by show 1<1000;decide,?_⟩⟩;refine pQ qp ⟨(G.bU "targets" Z'),by show 2<1000;decide,_,?_,q⟩;rw[sf,sf];exact .refl
def Qx:Fq P w K mg base 2 a.av (yE a λv=>∃x ns,v=.shut x ns):=by
 refine fq G.av.toDG EQ (λr u=>⟨_,(pP (ql (zh G.aU (yo G) r G.C G.F.toDG (sA v0 U1)))
 (pP (qC v0 (qe U1 pS))
 (pR (qC v0 (qe U1 pS))))),?_⟩)
 rintro ds M Q ⟨p,v,rfl,⟨x,ns,rfl⟩,hp,q⟩
 refine⟨p,_,_,Z',hp,(G.bV "form" Z'),pQ qp ⟨(G.bV "target" Z'),by show 1<1000;decide,?_⟩⟩;refine pQ qp ⟨(G.bV "callers" Z'),by show 2<1000;decide,_,?_,q⟩;rw[sf,sf];exact .refl
def MM:Fq P w K mg base 3 a.aw (yE a λv=>∃x y f l,v=.night x y f l):=by
 refine fq G.aw.toDG Dj (λr u=>⟨_,(pP (ql (zh G.b2 (zN G) r G.Z G.B.toDG (sA v0 U1)))
 (pP (qC v0 (qe U1 pS))
 (pR (qC v0 (qe U1 pS))))),?_⟩)
 rintro ds M Q ⟨p,v,rfl,⟨x,y,f,l,rfl⟩,hp,q⟩
 refine⟨p,_,_,_,_,Z',Z',Z',hp,(G.aV "form" Z'),(G.aV "target" Z'),(G.aV "goal" Z'),pQ qp ⟨(G.aV "first" Z'),by show 3<1000;decide,?_⟩⟩;refine pQ qp ⟨(G.aV "last" Z'),by show 4<1000;decide,_,?_,q⟩;rw[sf,sf];exact .refl
def Lx:Fq P w K mg base 3 a.ax (yE a λv=>∃x y n,v=.silent x y n):=by
 refine fq G.ax.toDG C9 (λr u=>⟨_,(pP (ql (zh G.b2 (zN G) r G.Z G.B.toDG (sA v0 U1)))
 (pR (qC v0 (qe U1 pS)))),?_⟩)
 rintro ds M Q ⟨p,v,rfl,⟨x,y,n,rfl⟩,hp,q⟩
 refine⟨p,_,_,_,_,Z',Z',Z',hp,(G.bS "form" Z'),(G.bS "target" Z'),(G.bS "goal" Z'),pQ qp ⟨(G.bS "turns" Z'),by show 3<1000;decide,_,?_,q⟩⟩;rw[sf];exact .refl
def Pu:Fq P w K mg base 2 a.ay (yE a λv=>∃x,v=.wait x):=by
 refine fq G.ay.toDG ES (λr u=>⟨_,(pP (ql (zh G.aU (yo G) r G.C G.F.toDG (sA v0 U1)))
 (pR (qC v0 (qe U1 pS)))),?_⟩)
 rintro ds M Q ⟨p,v,rfl,⟨x,rfl⟩,hp,q⟩
 refine⟨p,_,_,Z',hp,(G.b3 "form" Z'),pQ qp ⟨(G.b3 "phone" Z'),by show 1<1000;decide,_,?_,q⟩⟩;rw[sf];exact .refl
def Kp:Fq P w K mg base 2 a.az (yE a λv=>∃x,v=.breaks x):=by
 refine fq G.az.toDG CB (λr u=>⟨_,(pP (ql (zh G.aU (yo G) r G.C G.F.toDG (sA v0 U1)))
 (pR (qC v0 (qe U1 pS)))),?_⟩)
 rintro ds M Q ⟨p,v,rfl,⟨x,rfl⟩,hp,q⟩
 refine⟨p,_,_,Z',hp,(G.b4 "form" Z'),pQ qp ⟨(G.b4 "phone" Z'),by show 1<1000;decide,_,?_,q⟩⟩;rw[sf];exact .refl
def IJ(a:Ad):rL:=λds M Q=>∃v:Wi,ds=[.tup v.told]/\∀p,M p=Db->Q (.ref p) (pX M p (.ins (v.cls a) v.oj))
def JT(a:Ad):rL:=λds M Q=>AU λp (v:Wi)=>ds=[.ref p]/\M p=Fa (.ins (v.cls a) v.oj)/\Q (.tup v.told) M
def IM:rL:=λds M Q=>∃p,ds=[.ref p]/\Q (.tup [.str "end"]) M
def MH:rL:=λds M Q=>∃p,ds=[.ref p]/\Q (.tup [.str "break"]) M
def Rv:rL:=λds M Q=>Br λp C fs y=>ds=[.ref p]/\M p=Fa (.ins C fs)/\fs.lookup ("goal":Str)=Fa y/\Q (.tup [.str "to",y]) M
def RH:rL:=λds M Q=>Br λp C fs y=>ds=[.ref p]/\M p=Fa (.ins C fs)/\fs.lookup ("phone":Str)=Fa y/\Q (.tup [.str "wait",y]) M
def ME(a:Ad):Uf->rL->Prop:=λC sp=>(∃v:Wi,C=v.cls a)/\sp=JT a
def Kd(a:Ad):Uf->rL->Prop:=λC sp=>((C=a.r\/C=a.t)/\sp=IM)\/((C=a.w\/C=a.n\/C=a.x\/C=a.u)/\sp=Rv)\/(C=a.v/\sp=RH)\/(C=a.o/\sp=MH)
def HX:Fq P w K mg base 5 a.bk (IJ a):=by
 refine fq G.bk.toDG Dd (λr u=>⟨_,(pP (qg 1 Dd (qe v0 pS))
 (pP (qm (pZ u U1 pT)
 (pR (pW (vK (RK G) r G.r G.cg G.au.toDG (qE v0))))
 qd)
 (pP (qm (pZ u U1 pT)
 (pR (pW (vK (Qx G) r G.t G.ch G.av.toDG (qE v0))))
 qd)
 (pP (qm (pZ u U1 pT)
 (pR (pW (vK (zN G) r G.w G.ci G.B.toDG (qE v0))))
 qd)
 (pP (qm (pZ u U1 pT)
 (pR (pW (vK (MM G) r G.n G.cj G.aw.toDG (qE v0))))
 qd)
 (pP (qm (pZ u U1 pT)
 (pR (pW (vK (zN G) r G.x G.ck G.B.toDG (qE v0))))
 qd)
 (pP (qm (pZ u U1 pT)
 (pR (pW (vK (Lx G) r G.u G.cl G.ax.toDG (qE v0))))
 qd)
 (pP (qm (pZ u U1 pT)
 (pR (pW (vK (Pu G) r G.v G.cm G.ay.toDG (qE v0))))
 qd)
 (pP (qm (pZ u U1 pT)
 (pR (pW (vK (Kp G) r G.o G.cn G.az.toDG (qE v0))))
 qd)
 (pR Hf)))))))))),?_⟩)
 rintro ds M Q ⟨v,rfl,q⟩
 have XJ:∀(x:Uf) (c0 c1:vm) (C:Uf) (fs:T0 (Str×D)),M x=Db->Q (.ref x) (pX M x c1)->∃XM,qQ XM (pX (pX M x c0) x c1)/\Q (.ref x) XM:=λx c0 c1 C fs hx q=>⟨_,by rw[sf];exact .refl,q⟩;cases v with
 | bar x ns=>exact λp hp=>⟨p,.bar x ns,Z',⟨_,_,Z'⟩,qp,Z',XJ p _ _ 0 [] hp (q p hp)⟩
 | shut x ns=>exact λp hp=>⟨p,.shut x ns,Z',⟨_,_,Z'⟩,qp,Z',XJ p _ _ 0 [] hp (q p hp)⟩
 | always x y=>exact λp hp=>⟨p,_,_,_,_,Z',Z',Z',qp,(G.bW "form" Z'),(G.bW "target" Z'),(G.bW "goal" Z'),Z',XJ p _ _ 0 [] hp (q p hp)⟩
 | night x y f l=>exact λp hp=>⟨p,.night x y f l,Z',⟨_,_,_,_,Z'⟩,qp,Z',XJ p _ _ 0 [] hp (q p hp)⟩
 | busy x y=>exact λp hp=>⟨p,_,_,_,_,Z',Z',Z',qp,(G.bX "form" Z'),(G.bX "target" Z'),(G.bX "goal" Z'),Z',XJ p _ _ 0 [] hp (q p hp)⟩
 | silent x y n=>exact λp hp=>⟨p,.silent x y n,Z',⟨_,_,_,Z'⟩,qp,Z',XJ p _ _ 0 [] hp (q p hp)⟩
 | wait x=>exact λp hp=>⟨p,.wait x,Z',⟨_,Z'⟩,qp,Z',XJ p _ _ 0 [] hp (q p hp)⟩
 | breaks x=>exact λp hp=>⟨p,.breaks x,Z',⟨_,Z'⟩,qp,Z',XJ p _ _ 0 [] hp (q p hp)⟩
def O0:Fq P w K mg base 1 a.l (JT a):=by
 refine fq G.l.toDG EV (λr u=>⟨_,(pR (pW (pV v0))),?_⟩)
 rintro ds M Q ⟨p,v,rfl,hp,q⟩
 exact pQ hp (i' Z' ⟨M,.refl,q⟩)
def Pl:Fq P w K mg base 1 a.aF IM:=by
 refine fq G.aF.toDG F' (λr u=>⟨_,(pR (pW (qk (qE pT)))),?_⟩)
 rintro ds M Q ⟨p,rfl,q⟩
 exact⟨pN Z',M,.refl,q⟩
def LP:Fq P w K mg base 1 a.aG IM:=by
 refine fq G.aG.toDG DH (λr u=>⟨_,(pR (pW (qk (qE pT)))),?_⟩)
 rintro ds M Q ⟨p,rfl,q⟩
 exact⟨pN Z',M,.refl,q⟩
def wq:Fq P w K mg base 1 a.A Rv:=by
 refine fq G.A.toDG As (λr u=>⟨_,(pR (pW (qk (sA pT (pV v0))))),?_⟩)
 rintro ds M Q ⟨p,C,fs,y,rfl,hp,e,q⟩
 exact pQ hp (i' e ⟨pN Z',M,.refl,q⟩)
def NQ:Fq P w K mg base 1 a.aH RH:=by
 refine fq G.aH.toDG DI (λr u=>⟨_,(pR (pW (qk (sA pT (pV v0))))),?_⟩)
 rintro ds M Q ⟨p,C,fs,y,rfl,hp,e,q⟩
 exact pQ hp (i' e ⟨pN Z',M,.refl,q⟩)
def Jc:Fq P w K mg base 1 a.aI MH:=by
 refine fq G.aI.toDG A8 (λr u=>⟨_,(pR (pW (qk (qE pT)))),?_⟩)
 rintro ds M Q ⟨p,rfl,q⟩
 exact⟨pN Z',M,.refl,q⟩
def TY:∀C sp,ME a C sp->yb P w K mg base 1 "told" C (OO K sp):=by
 rintro C sp ⟨⟨v,rfl⟩,rfl⟩
 have F:=O0 (P:=P) (w:=w) (base:=base) G;cases v with
 | bar _ _=>exact⟨G.r.toCls,_,_,_,G.cw,F,G.l.b⟩
 | shut _ _=>exact⟨G.t.toCls,_,_,_,G.cx,F,G.l.b⟩
 | always _ _=>exact⟨G.w.toCls,_,_,_,G.cy,F,G.l.b⟩
 | night _ _ _ _=>exact⟨G.n.toCls,_,_,_,G.cz,F,G.l.b⟩
 | busy _ _=>exact⟨G.x.toCls,_,_,_,G.cA,F,G.l.b⟩
 | silent _ _ _=>exact⟨G.u.toCls,_,_,_,G.cB,F,G.l.b⟩
 | wait _=>exact⟨G.v.toCls,_,_,_,G.cC,F,G.l.b⟩
 | breaks _=>exact⟨G.o.toCls,_,_,_,G.cD,F,G.l.b⟩
def Qv:∀C sp,Kd a C sp->yb P w K mg base 1 "wants" C (OO K sp):=by
 rintro C sp (⟨rfl|rfl,rfl⟩|⟨rfl|rfl|rfl|rfl,rfl⟩|⟨rfl,rfl⟩|⟨rfl,rfl⟩)
 .exact⟨G.r.toCls,_,_,_,G.aF.nS,Pl G,G.aF.b⟩
 .exact⟨G.t.toCls,_,_,_,G.aG.nS,LP G,G.aG.b⟩
 .exact⟨G.w.toCls,_,_,_,G.cE,wq G,G.A.b⟩
 .exact⟨G.n.toCls,_,_,_,G.cF,wq G,G.A.b⟩
 .exact⟨G.x.toCls,_,_,_,G.cG,wq G,G.A.b⟩
 .exact⟨G.u.toCls,_,_,_,G.cH,wq G,G.A.b⟩
 .exact⟨G.v.toCls,_,_,_,G.aH.nS,NQ G,G.aH.b⟩
 .exact⟨G.o.toCls,_,_,_,G.aI.nS,Jc G,G.aI.b⟩
def uT(x:Str):Bool:=decide ((1:Int)<=x.length)&&(decide ((x.length:Int)<=6)&&x.cps.toList.all λc=>DP ⟨#[c]⟩ uM)
def Ip:rL:=λds M Q=>∃x:Str,ds=[.str x]/\x.length<=1000/\Q (.bl (uT x)) M
def Jp:rL:=λds M Q=>∃w,ds=[.bl pc,w]/\Q .nz M
noncomputable def xC(ss:QQQ):Bool:=((tJ ss).length:Int)==(ss.length:Int)
def Sq(M:Mp)(x:D)(ss:QQQ):Prop:=x=.tup (ss.map D.str)\/∃a,x=.ref a/\pI M a=Fa (ss.map D.str)
def Lg:rL:=λds M Q=>AU λx ss=>ds=[x]/\Sq M x ss/\ss.length<4000/\Q (.bl (xC ss)) M
def zC{α:Type}(f:α->Bool)(l:List α):(l.map f).all id=l.all f:=by rw[jW];rfl
def sH(x:Str)(ss:QQQ):inD (.str x) (ss.map D.str)=ss.any (·==x):=by unfold inD;rw[j3];rfl
theorem qJ:∀ss:QQQ,(ss.map D.str).all vv=pc
 | []=>rfl
 | _::r=>by rw[eh,fN,qJ r];rfl
def sY(cs ks:QQQ)(m:Int):Bool:=decide ((1:Int)<=cs.length)&&(decide ((cs.length:Int)<=m)&&(xC cs&&cs.all λc=>ks.any (·==c)))
def KA:rL:=λds M Q=>Br λcs ks k m=>ds=[.tup (cs.map D.str),.ref k,.int m]/\pI M k=Fa (ks.map D.str)/\cs.length<4000/\Q (.bl (sY cs ks m)) M
def CZ:Fq P w K mg base 1 a.ag Ip:=by
 refine fq G.ag.toDG HS (λr u=>⟨_,(pR (pW (sW (uL u pS (qr qU Z' G.g qR (qE v0)) (tw Z' G.cX)) (sC (qr (E9 Z') Z' G.bT FU (qE (qY Z' (xy (ix:=[Db]) (N':=["sign"])) (qV v0) (qP 0) su (qy u v0 (tw Z' G.cY))))))))),?_⟩)
 rintro ds M Q ⟨x,rfl,hl,q⟩
 have hz:=dR;refine⟨by omega,qW (λh1=>?_) (λh1=>?_)⟩
 .refine qW (λh2=>?_) (λh2=>?_)
  .refine rK (f:=λd=>match d with|.str z=>D.bl (DP z uM)|_=>.nz) trivial _ [] _ ?_ (λd hd k hk=>?_) λp hp=>?_
   .rw[c9];have:x.cps.toList.length=x.length:=by simp[Str.length]
    simp only[dS];omega
   .obtain⟨c,_,rfl⟩:=dI.mp hd;exact hk
   .refine i' pY ?_;have e:([]++(x.cps.toList.map λc=>D.str ⟨#[c]⟩).map λd=>match d with|.str z=>D.bl (DP z uM)|_=>.nz)=x.cps.toList.map λc=>D.bl (DP ⟨#[c]⟩ uM):=by rw[eC,eA];rfl
    rw[e];refine i' (yB (λc=>DP ⟨#[c]⟩ uM) x.cps.toList) ⟨M,.new hp,?_⟩;rw[zC];have:uT x=x.cps.toList.all λc=>DP ⟨#[c]⟩ uM:=by unfold uT;rw[h1,h2];rfl
    rw[<-this];exact q
  .refine⟨M,.refl,?_⟩;have:uT x=lf:=by
    unfold uT;have h2:decide ((x.length:Int)<=6)=lf:=by simpa using h2
    rw[h2];simp
   rw[<-this];exact q
 .refine⟨M,.refl,?_⟩;have:uT x=lf:=by
   unfold uT;have h1:decide ((1:Int)<=x.length)=lf:=by simpa using h1
   rw[h1];rfl
  rw[<-this];exact q
def tG:Fq P w K mg base 1 a.m Jp:=by
 refine fq G.m.toDG P4 (λr u=>⟨_,(pR (qm (vd (uz v0))
 (pR Hf)
 qd)),?_⟩)
 rintro ds M Q ⟨x,rfl,q⟩
 exact⟨M,.refl,q⟩
def Eo:Fq P w K mg base 1 a.ah Lg:=by
 refine fq G.ah.toDG DC (λr u=>⟨_,(pR (pW (qy u (KL Z' v0 Z' G.g Z' G.cN qR RX) (qr qU Z' G.g qR (qE v0))))),?_⟩)
 rintro ds M Q ⟨x,ss,rfl,hx,hl,q⟩
 have key:((ss.map D.str).length:Int)=ss.length:=by rw[c9]
 rcases hx with rfl|⟨b,rfl,hb⟩
 .refine i' (L3.Cm ss) ⟨hl,M,.refl,?_⟩;rw[key];exact q
 .refine i' hb (i' (L3.Cm ss) ⟨hl,i' hb ⟨M,.refl,?_⟩⟩);rw[key];exact q
def Ag:Fq P w K mg base 2 a.Q KA:=by
 refine fq G.Q.toDG Fu (λr u=>⟨_,(pR (pW (sW (uL u pS (qr qU Z' G.g qR (qE v0)) U2) (sW (qa (Eo G) r G.ah (qE v0)) (sC (qr (E9 Z') Z' G.bT FU (qE (qY Z' (xy (ix:=[Db,Fa 1]) (N':=["name","known"])) (qV v0) (qP 0) su (qy u v0 U1))))))))),?_⟩)
 rintro ds M Q ⟨cs,ks,k,m,rfl,hk,hl,q⟩
 have hz:=dR;have key:((cs.map D.str).length:Int)=cs.length:=by rw[c9]
 have end_:∀b:Bool,sY cs ks m=b->∃XM,qQ XM M/\Q (.bl b) XM:=λb e=>⟨M,.refl,e ▸ q⟩;refine qW (λh1=>?_) (λh1=>?_)
 .have h1:decide ((1:Int)<=cs.length)=pc:=by rw[<-key];exact h1
  refine qW (λh2=>?_) (λh2=>?_)
  .have h2:decide ((cs.length:Int)<=m)=pc:=by rw[<-key];exact h2
   refine⟨_,cs,Z',.inl Z',hl,qW (λh3=>?_) (λh3=>?_)⟩
   .refine rK (f:=λd=>match d with|.str z=>D.bl (ks.any (·==z))|_=>.nz) trivial _ [] _ ?_ (λd hd k0 hk0=>?_) λp hp=>?_
    .rw[c9];simp only[dS];omega
    .obtain⟨c,_,rfl⟩:=dI.mp hd;refine i' hk ⟨Z',qJ ks,?_⟩;show k0 (.bl (inD (.str c) (ks.map D.str))) M;rw[sH];exact hk0
    .refine i' pY ?_;have e:([]++(cs.map D.str).map λd=>match d with|.str z=>D.bl (ks.any (·==z))|_=>.nz)=cs.map λc=>D.bl (ks.any (·==c)):=by rw[eC,eA];rfl
     rw[e];refine i' (yB (λc=>ks.any (·==c)) cs) ⟨M,.new hp,?_⟩;rw[zC];have:sY cs ks m=cs.all λc=>ks.any (·==c):=by unfold sY;rw[h1,h2,h3];rfl
     rw[<-this];exact q
   .refine end_ _ ?_;unfold sY;have h3:xC cs=lf:=by simpa using h3
    rw[h3];simp
  .refine end_ _ ?_;unfold sY;have h2:decide ((cs.length:Int)<=m)=lf:=by
    rw[<-key]
    simpa using h2
   rw[h2];simp
 .refine end_ _ ?_;unfold sY;have h1:decide ((1:Int)<=cs.length)=lf:=by
   rw[<-key]
   simpa using h1
  rw[h1];rfl
abbrev ul:=Str×Int×Int
abbrev uQ:=Str×Str×QQQ
abbrev vV:=Bool×Wi
noncomputable def rD(p:ul):D:=.tup [.str p.1,.int p.2.1,.int p.2.2]
noncomputable def rM(g:uQ):D:=.tup [.str g.1,.str g.2.1,names g.2.2]
noncomputable def xG(w:vV):D:=.tup [.bl w.1,.tup w.2.told]
structure Gc(p:ul):Prop where
 len:p.1.length<=1000
 nm:uT p.1=pc
 l1:1<=p.2.1
 l2:p.2.1<=3
 r1:0<=p.2.2
 r2:p.2.2<=9
structure EO(pn:QQQ)(g:uQ):Prop where
 len:g.1.length<=1000
 nm:uT g.1=pc
 man:g.2.1="all"\/g.2.1="turns"
 pN:g.2.2.length<4000
 mem:sY g.2.2 pn 4=pc
def xV(ss:QQQ)(x:Str):Prop:=ss.any (·==x)=pc
def Ct(pn nm:QQQ):Wi->Prop
 | .bar x ns=>xV pn x/\ns.length<4000/\sY ns nm 6=pc
 | .shut x ns=>xV nm x/\ns.length<4000/\sY ns pn 6=pc
 | .always x y=>xV nm x/\xV nm y/\x≠y
 | .night x y f l=>xV nm x/\xV nm y/\x≠y/\(0<=f/\f<=23)/\(0<=l/\l<=23)/\f≠l
 | .busy x y=>xV nm x/\xV nm y/\x≠y
 | .silent x y n=>xV nm x/\xV nm y/\x≠y/\1<=n/\n<=9
 | .wait x=>xV pn x
 | .breaks x=>xV pn x
inductive xT(pn nm:QQQ):Str->D->Prop
 | nM (x:Str) (h:xV pn x):xT pn nm "phone" (.str x)
 | name (x:Str) (h:xV nm x):xT pn nm "name" (.str x)
 | nj (cs:QQQ) (l:cs.length<4000) (h:sY cs pn 6=pc):xT pn nm "phones" (names cs)
 | names (cs:QQQ) (l:cs.length<4000) (h:sY cs nm 6=pc):xT pn nm "names" (names cs)
 | hour (i:Int) (h0:0<=i) (h1:i<=23):xT pn nm "hour" (.int i)
 | turns (i:Int) (h0:1<=i) (h1:i<=9):xT pn nm "turns" (.int i)
def JR:rL:=λds M Q=>Ls λk d pl nl (pn nm:QQQ)=>ds=[.str k,d,.ref pl,.ref nl]/\pI M pl=Fa (pn.map D.str)/\pI M nl=Fa (nm.map D.str)/\xT pn nm k d/\Q (.bl pc) M
def A9:rL:=λds M Q=>AU λr (ps:List ul)=>ds=[.ref r]/\pI M r=Fa (ps.map rD)/\1<=ps.length/\ps.length<=8/\(∀p∈ps,Gc p)/\Q .nz M
def A6:rL:=λds M Q=>Br λr (gs:List uQ) pl (pn:QQQ)=>ds=[.ref r,.ref pl]/\pI M r=Fa (gs.map rM)/\pI M pl=Fa (pn.map D.str)/\gs.length<=3/\(∀g∈gs,EO pn g)/\Q .nz M
def DL:rL:=λds M Q=>HI λv pl nl (pn nm:QQQ)=>ds=[.tup (Wi.told v),.ref pl,.ref nl]/\pI M pl=Fa (pn.map D.str)/\pI M nl=Fa (nm.map D.str)/\Ct pn nm v/\Q .nz M
def Bq:rL:=λds M Q=>Ls λr (ws:List vV) pl nl (pn nm:QQQ)=>ds=[.ref r,.ref pl,.ref nl]/\pI M r=Fa (ws.map xG)/\pI M pl=Fa (pn.map D.str)/\pI M nl=Fa (nm.map D.str)/\ws.length<=16/\(∀w∈ws,Ct pn nm w.2)/\Q .nz M
def Xb(h:xV ss x):inD (.str x) (ss.map D.str)=pc:=by rw[sH];exact h
def PP:Fq P w K mg base 3 a.bn JR:=by
 refine fq G.bn.toDG Dq (λr u=>⟨_,(pP (qm (pZ u v0 pT)
 (pR (pW (qy u U1 U2)))
 qd)
 (pP (qm (pZ u v0 pT)
 (pR (pW (qy u U1 U3)))
 qd)
 (pP (qm (pZ u v0 pT)
 (pR (pW (qa (Ag G) r G.Q (rO U1 U2 (tw Z' G.b8)))))
 qd)
 (pP (qm (pZ u v0 pT)
 (pR (pW (qa (Ag G) r G.Q (rO U1 U3 (tw Z' G.b8)))))
 qd)
 (pP (qm (pZ u v0 pT)
 (pR (pW (uL u pS U1 (tw Z' G.cZ))))
 qd)
 (pR (pW (uL u pS U1 (tw Z' G.c0))))))))),?_⟩)
 rintro ds M Q ⟨k,d,pl,nl,pn,nm,rfl,hp,hn,ok,q⟩
 cases ok with
 | nM x h=>refine i' hp ⟨Z',qJ pn,M,.refl,?_⟩;show Q (.bl (inD (.str x) (pn.map D.str))) M;rw[Xb h];exact q
 | name x h=>refine i' hn ⟨Z',qJ nm,M,.refl,?_⟩;show Q (.bl (inD (.str x) (nm.map D.str))) M;rw[Xb h];exact q
 | nj cs l h=>exact⟨cs,pn,pl,6,Z',hp,l,M,.refl,by rw[h];exact q⟩
 | names cs l h=>exact⟨cs,nm,nl,6,Z',hn,l,M,.refl,by rw[h];exact q⟩
 | hour i h0 h1=>refine Bd (c:=decide (0<=i)) (d9 h0) ⟨M,.refl,?_⟩;show Q (.bl (decide (i<=23))) M;rw[d9 h1];exact q
 | turns i h0 h1=>refine Bd (c:=decide (1<=i)) (d9 h0) ⟨M,.refl,?_⟩;show Q (.bl (decide (i<=9))) M;rw[d9 h1];exact q
def Bc:Fq P w K mg base 2 a.bl A9:=by
 refine fq G.bl.toDG uC (λr u=>⟨_,(pP (ql (qa (tG G) r G.m (sA (uL u pS (qr qU Z' G.g qR (qE v0)) (tw Z' G.cQ)) pT)))
 (pR (vq fC Z' (qV v0) (vp (n:=3) Z' (qN (rS 1 uC) (qN (rS 2 uC) (qN (rS 3 uC) tZ))))
 (pP (ql (qa (tG G) r G.m (sA (qa (CZ G) r G.ag (qE U1)) pT)))
 (pP (ql (qa (tG G) r G.m (sA (uL u pS U2 (tw Z' G.cR)) pT)))
 (pR (ql (qa (tG G) r G.m (sA (uL u pS U3 (tw Z' G.cS)) pT))))))))),?_⟩)
 rintro ds M Q ⟨r,ps,rfl,Yt,h1,h8,nB,q⟩
 have el:((ps.map rD).length:Int)=ps.length:=by rw[c9]
 refine i' Yt (Bd (c:=decide ((1:Int)<=(ps.map rD).length)) (d9 (by omega)) ⟨_,by rw[d9 (show((ps.map rD).length:Int)<=8 by omega)],i' Yt ?_⟩);refine BL (λU M'=>M=M'/\∃x y z,U=[Fa (.ref r),x,y,z]) (λU M' j=>by rw[<-j.1];exact Yt) _ _ _ ⟨Z',Db,Db,Db,Z'⟩ ?_ ?_
 .rintro d hd U M' ⟨rfl,x,y,z,rfl⟩ nx XY
  obtain⟨p,hp,rfl⟩:=dI.mp hd;have o:=nB p hp;refine⟨Z',⟨p.1,Z',o.len,_,by rw[o.nm],?_⟩⟩;refine Bd (c:=decide ((1:Int)<=p.2.1)) (d9 o.l1) ⟨_,by rw[d9 (show p.2.1<=3 from o.l2)],?_⟩;refine Bd (c:=decide ((0:Int)<=p.2.2)) (d9 o.r1) ⟨_,by rw[d9 (show p.2.2<=9 from o.r2)],?_⟩;exact XY _ _ ⟨Z',_,_,_,Z'⟩
 .rintro U M' ⟨rfl,x,y,z,rfl⟩
  exact⟨M,.refl,q⟩
def Bw:Fq P w K mg base 3 a.bm A6:=by
 refine fq G.bm.toDG uA (λr u=>⟨_,(pP (ql (qa (tG G) r G.m (sA (qy u (qr qU Z' G.g qR (qE v0)) (tw Z' G.cT)) pT)))
 (pR (vq fC Z' (qV v0) (vp (n:=3) Z' (qN (rS 2 uA) (qN (rS 3 uA) (qN (rS 4 uA) tZ))))
 (pP (ql (qa (tG G) r G.m (sA (qa (CZ G) r G.ag (qE U2)) pT)))
 (pP (ql (qa (tG G) r G.m (sA (qy u U3 (tw Z' G.cU)) pT)))
 (pR (ql (qa (tG G) r G.m (sA (qa (Ag G) r G.Q (rO v4 U1 (tw Z' G.cV))) pT))))))))),?_⟩)
 rintro ds M Q ⟨r,gs,pl,pn,rfl,Yt,hp,h3,nB,q⟩
 have el:((gs.map rM).length:Int)=gs.length:=by rw[c9]
 refine i' Yt ⟨_,by rw[d9 (show((gs.map rM).length:Int)<=3 by omega)],i' Yt ?_⟩;refine BL (λU M'=>M=M'/\∃x y z,U=[Fa (.ref r),Fa (.ref pl),x,y,z]) (λU M' j=>by rw[<-j.1];exact Yt) _ _ _ ⟨Z',Db,Db,Db,Z'⟩ ?_ ?_
 .rintro d hd U M' ⟨rfl,x,y,z,rfl⟩ nx XY
  obtain⟨g,hg,rfl⟩:=dI.mp hd;have o:=nB g hg;refine⟨Z',⟨g.1,Z',o.len,_,by rw[o.nm],?_⟩⟩;have hm:inD (.str g.2.1) [.str "all",.str "turns"]=pc:=by rcases o.man with e|e<;>(rw[e];rfl)
  refine⟨Z',Z',.str "a group's manner is all or turns",eV (λb=>[D.bl b,D.str "a group's manner is all or turns"]) hm,?_⟩;refine⟨g.2.2,pn,pl,4,Z',hp,o.pN,_,by rw[o.mem],?_⟩;exact XY _ _ ⟨Z',_,_,_,Z'⟩
 .rintro U M' ⟨rfl,x,y,z,rfl⟩
  exact⟨M,.refl,q⟩
def DB:Fq P w K mg base 4 a.bo DL:=by
 refine fq G.bo.toDG uy (λr u=>⟨_,(pP (ql (qa (tG G) r G.m (sA (Nr G.b7 Z' (qe v0 pS)) pT)))
 (pP (qg 3 uy (KR G.b7 Z' (qe v0 pS)))
 (pP (qg 4 uy (sR v0 (tI pS) ue))
 (pP (ql (qa (tG G) r G.m (sA (qy u (qr qU Z' G.g qR (qE v4)) (qr qU Z' G.g qR (qE U3))) pT)))
 (pP (vq fC Z' (R7 Z' G.cP (sA U3 v4)) (vp (n:=2) Z' (qN (rS 5 uy) (qN (rS 6 uy) tZ)))
 (pR (ql (qa (tG G) r G.m (sA (qa (PP G) r G.bn (qz v5 (rO v6 U1 U2))) pT)))))
 (pP (qm (pZ u (sR U3 ue (tI pS)) (qk (sA pT pT)))
 (pR (ql (qa (tG G) r G.m (sA (qy u (qe v4 pS) (qe v4 pS)) pT))))
 qd)
 (pR (qm (pZ u (sR U3 (tI pS) ue) (qk (sA pT pT)))
 (pR (ql (qa (tG G) r G.m (sA (qy u (qe v4 pS) (qe v4 pS)) pT))))
 qd)))))))),?_⟩)
 rintro ds M Q ⟨v,pl,nl,pn,nm,rfl,hp,hn,ok,q⟩
 have part:∀{k:Str} {d:D} {C:DK},xT pn nm k d->C (.bl pc) M->JR [.str k,d,.ref pl,.ref nl] M C:=λo c=>⟨_,_,pl,nl,pn,nm,Z',hp,hn,o,c⟩;have need:∀{x:D} {C:DK},C .nz M->Jp [.bl pc,x] M C:=λc=>⟨_,Z',c⟩;have ne:∀{x y:Str},x≠y->(!(x==y))=pc:=λh=>by simpa using h
 have nei:∀{x y:Int},x≠y->(!(x==y))=pc:=λh=>by simpa using h
 have XJ:∃XM,qQ XM M/\Q .nz XM:=⟨M,.refl,q⟩;cases v with
 | bar x ns=>obtain⟨h1,h2,h3⟩:=ok;refine⟨_,Z',_,Z',?_⟩;refine⟨Z',_,_,pl,nl,pn,nm,Z',hp,hn,.nM x h1,_,Z',trivial,⟨Z',_,_,pl,nl,pn,nm,Z',hp,hn,.names ns h2 h3,_,Z',trivial,?_⟩⟩;exact⟨pN Z',pN Z',XJ⟩
 | shut x ns=>obtain⟨h1,h2,h3⟩:=ok;refine⟨_,Z',_,Z',?_⟩;refine⟨Z',_,_,pl,nl,pn,nm,Z',hp,hn,.name x h1,_,Z',trivial,⟨Z',_,_,pl,nl,pn,nm,Z',hp,hn,.nj ns h2 h3,_,Z',trivial,?_⟩⟩;exact⟨pN Z',pN Z',XJ⟩
 | always x y=>obtain⟨h1,h2,h3⟩:=ok;refine⟨_,Z',_,Z',?_⟩;refine⟨Z',_,_,pl,nl,pn,nm,Z',hp,hn,.name x h1,_,Z',trivial,⟨Z',_,_,pl,nl,pn,nm,Z',hp,hn,.name y h2,_,Z',trivial,?_⟩⟩;refine⟨pN Z',⟨_,by rw[ne h3],?_⟩⟩;exact⟨pN Z',XJ⟩
 | night x y f l=>obtain⟨h1,h2,h3,h4,h5,h6⟩:=ok;refine⟨_,Z',_,Z',?_⟩;refine⟨Z',_,_,pl,nl,pn,nm,Z',hp,hn,.name x h1,_,Z',trivial,⟨Z',_,_,pl,nl,pn,nm,Z',hp,hn,.name y h2,_,Z',trivial,⟨Z',_,_,pl,nl,pn,nm,Z',hp,hn,.hour f h4.1 h4.2,_,Z',trivial,⟨Z',_,_,pl,nl,pn,nm,Z',hp,hn,.hour l h5.1 h5.2,_,Z',trivial,?_⟩⟩⟩⟩;refine⟨pN Z',⟨_,by rw[ne h3],?_⟩⟩;refine⟨pN Z',⟨_,by rw[nei h6],?_⟩⟩;exact XJ
 | busy x y=>obtain⟨h1,h2,h3⟩:=ok;refine⟨_,Z',_,Z',?_⟩;refine⟨Z',_,_,pl,nl,pn,nm,Z',hp,hn,.name x h1,_,Z',trivial,⟨Z',_,_,pl,nl,pn,nm,Z',hp,hn,.name y h2,_,Z',trivial,?_⟩⟩;refine⟨pN Z',⟨_,by rw[ne h3],?_⟩⟩;exact⟨pN Z',XJ⟩
 | silent x y n=>obtain⟨h1,h2,h3,h4,h5⟩:=ok;refine⟨_,Z',_,Z',?_⟩;refine⟨Z',_,_,pl,nl,pn,nm,Z',hp,hn,.name x h1,_,Z',trivial,⟨Z',_,_,pl,nl,pn,nm,Z',hp,hn,.name y h2,_,Z',trivial,⟨Z',_,_,pl,nl,pn,nm,Z',hp,hn,.turns n h4 h5,_,Z',trivial,?_⟩⟩⟩;refine⟨pN Z',⟨_,by rw[ne h3],?_⟩⟩;exact⟨pN Z',XJ⟩
 | wait x=>refine⟨_,Z',_,Z',?_⟩;refine⟨Z',_,_,pl,nl,pn,nm,Z',hp,hn,.nM x ok,_,Z',trivial,?_⟩;exact⟨pN Z',pN Z',XJ⟩
 | breaks x=>refine⟨_,Z',_,Z',?_⟩;refine⟨Z',_,_,pl,nl,pn,nm,Z',hp,hn,.nM x ok,_,Z',trivial,?_⟩;exact⟨pN Z',pN Z',XJ⟩
def Bm:Fq P w K mg base 5 a.bp Bq:=by
 refine fq G.bp.toDG vk (λr u=>⟨_,(pP (ql (qa (tG G) r G.m (sA (qy u (qr qU Z' G.g qR (qE v0)) (tw Z' G.cW)) pT)))
 (pR (vq fC Z' (qV v0) (vp (n:=2) Z' (qN (rS 3 vk) (qN (rS 4 vk) tZ)))
 (pR (ql (qa (DB G) r G.bo (rO v4 U1 U2))))))),?_⟩)
 rintro ds M Q ⟨r,ws,pl,nl,pn,nm,rfl,Yt,hp,hn,h16,nB,q⟩
 have el:((ws.map xG).length:Int)=ws.length:=by rw[c9]
 refine i' Yt ⟨_,by rw[d9 (show((ws.map xG).length:Int)<=16 by omega)],i' Yt ?_⟩;refine BL (λU M'=>M=M'/\∃x y,U=[Fa (.ref r),Fa (.ref pl),Fa (.ref nl),x,y]) (λU M' j=>by rw[<-j.1];exact Yt) _ _ _ ⟨Z',Db,Db,Z'⟩ ?_ ?_
 .rintro d hd U M' ⟨rfl,x,y,rfl⟩ nx XY
  obtain⟨v,hv,rfl⟩:=dI.mp hd;exact⟨Z',⟨v.2,pl,nl,pn,nm,Z',hp,hn,nB v hv,XY _ _ ⟨Z',_,_,Z'⟩⟩⟩
 .rintro U M' ⟨rfl,x,y,rfl⟩
  exact⟨M,.refl,q⟩
structure qc where
 nj:List ul
 groups:List uQ
 nk:List vV
noncomputable def qc.pn(l:qc):QQQ:=l.nj.map (·.1)
noncomputable def qc.gn(l:qc):QQQ:=l.groups.map (·.1)
noncomputable def qc.nm(l:qc):QQQ:=l.pn++l.gn
structure sj(l:qc):Prop where
 p1:1<=l.nj.length
 p8:l.nj.length<=8
 po:∀p∈l.nj,Gc p
 g3:l.groups.length<=3
 go:∀g∈l.groups,EO l.pn g
 nd:l.nm.Nodup
 w16:l.nk.length<=16
 wo:∀w∈l.nk,Ct l.pn l.nm w.2
def Eh{ss:QQQ}(h:ss.Nodup):xC ss=pc:=by unfold xC;rw[IT ss h];simp
def Dk:rL:=λds M Q=>Br λr1 r2 r3 (l:qc)=>ds=[.ref r1,.ref r2,.ref r3]/\pI M r1=Fa (l.nj.map rD)/\pI M r2=Fa (l.groups.map rM)/\pI M r3=Fa (l.nk.map xG)/\sj l/\Q .nz M
noncomputable def Bu:D->D
 | .tup (x::_)=>x
 | _=>.nz
def wZ(ps:List ul):(ps.map rD).map Bu=(ps.map (·.1)).map D.str:=by rw[eA,eA];rfl
def xq(ps:List uQ):(ps.map rM).map Bu=(ps.map (·.1)).map D.str:=by rw[eA,eA];rfl
def Dw:Fq P w K mg base 6 a.bq Dk:=by
 refine fq G.bq.toDG wx (λr u=>⟨_,(pP (ql (qa (Bc G) r G.bl (qE v0)))
 (pP (tF (i:=3) wx.nd Z' (Or.inl Z') Z' (xy (ix:=[Db]) (N':=["phone"])) (qV v0) (qP 0) su (qe v0 pS))
 (pP (ql (qa (Bw G) r G.bm (sA U1 U3)))
 (pP (qg 4 wx (qx U3 (qY Z' (xy (ix:=[Db]) (N':=["group"])) (qV U1) (qP 0) su (qe v0 pS))))
 (pP (ql (qa (tG G) r G.m (sA (qa (Eo G) r G.ah (qE v4)) pT)))
 (pR (ql (qa (Bm G) r G.bp (rO U2 U3 v4))))))))),?_⟩)
 rintro ds M Q ⟨r1,r2,r3,l,rfl,h1,h2,h3,ok,q⟩
 have hz:=dR;have l1:=ok.p8;have l2:=ok.g3;refine⟨r1,l.nj,Z',h1,ok.p1,ok.p8,ok.po,i' h1 ?_⟩;refine rK (f:=Bu) h1 _ [] _ (by rw[c9];simp only[dS];omega) (λd hd k hk=>?_) λp hp=>?_
 .obtain⟨x,_,rfl⟩:=dI.mp hd;exact hk
 rw[eC,wZ];have s1:=qQ.new (c:=.lst ((l.nj.map (·.1)).map D.str)) hp;have lp:pI (pX M p (.lst ((l.nj.map (·.1)).map D.str))) p=Fa (l.pn.map D.str):=pY;generalize pX M p (.lst ((l.nj.map (·.1)).map D.str))=M1 at s1 lp ⊢;refine⟨r2,l.groups,p,l.pn,Z',s1.lst h2,lp,ok.g3,ok.go,?_⟩;refine i' (s1.lst h2) (rK (f:=Bu) (s1.lst h2) _ [] _ (by rw[c9];simp only[dS];omega) (λd hd k hk=>?_) λp2 XT=>?_)
 .obtain⟨x,_,rfl⟩:=dI.mp hd;exact hk
 rw[eC,xq];have s2:=qQ.new (c:=.lst ((l.groups.map (·.1)).map D.str)) XT;refine i' (s2.lst lp) (i' pY ⟨?_,λp3 YX=>?_⟩)
 .rw[c9,c9,c9];show(l.nj.map (·.1)).length+_<=_;rw[c9];omega
 have en:l.pn.map D.str++(l.groups.map (·.1)).map D.str=l.nm.map D.str:=by unfold qc.nm;rw[dY];rfl
 rw[en];have s3:=s2.trans (qQ.new (c:=.lst (l.nm.map D.str)) YX);have l3:=@pY (pX M1 p2 (.lst ((l.groups.map (·.1)).map D.str))) p3 (l.nm.map D.str);generalize pX (pX M1 p2 (.lst ((l.groups.map (·.1)).map D.str))) p3 (.lst (l.nm.map D.str))=M3 at s3 l3 ⊢;have ln:l.nm.length<4000:=by unfold qc.nm qc.pn qc.gn;rw[dg,c9,c9];omega
 refine⟨_,l.nm,Z',.inr ⟨p3,Z',l3⟩,ln,_,by rw[Eh ok.nd],?_⟩;exact⟨r3,l.nk,p,p3,l.pn,l.nm,Z',s3.lst (s1.lst h3),s3.lst lp,l3,ok.w16,ok.wo,M,s1.trans s3,q⟩
noncomputable def Rj(ph gr ws on pr gd:Uf):T0 (Str×D):=[("phones",.ref ph),("groups",.ref gr),("wishes",.ref ws),("on",.ref on),("phone_rows",.ref pr),("group_rows",.ref gd)]
def Th(l:qc):T0 (rH×D):=l.nj.map λp=>(Sum.inr p.1,rD p)
def Iv(l:qc):T0 (rH×D):=l.groups.map λg=>(Sum.inr g.1,rM g)
def tD(a:Ad)(M:Mp)(rs:QXQ)(ws:List vV):Prop:=rs.length=ws.length/\∀(i:Nat) (r:Uf) (v:vV),rs[i]?=Fa r->ws[i]?=Fa v->M r=Fa (.ins (v.2.cls a) v.2.oj)
def tR(a:Ad)(M:Mp)(p:Uf)(l:qc):Prop:=T8 λph gr ws on pr gd (rs:QXQ)=>M p=Fa (.ins a.h (Rj ph gr ws on pr gd))/\pI M ph=Fa (l.nj.map rD)/\pI M gr=Fa (l.groups.map rM)/\
 pI M ws=Fa (rs.map D.ref)/\pI M on=Fa (l.nk.map λw=>D.bl w.1)/\zU M pr=Fa (Th l)/\zU M gd=Fa (Iv l)/\tD a M rs l.nk
def tD.keep{p:Uf}(h:tD a M rs ws)(k:sT p M M')(n:∀r∈rs,r≠p):tD a M' rs ws:=⟨h.1,λi r v e1 e2=>k r _ (n r (fA e1)) (h.2 i r v e1 e2)⟩
def tD.sub(h:tD a M rs ws)(k:qQ M M'):tD a M' rs ws:=⟨h.1,λi r v e1 e2=>k r _ (h.2 i r v e1 e2)⟩
def tR.sub{p:Uf}(h:tR a M p l)(s:qQ M M'):tR a M' p l:=by obtain⟨ph,gr,ws,on,pr,gd,rs,h1,h2,h3,h4,h5,h6,h7,h8⟩:=h;exact⟨ph,gr,ws,on,pr,gd,rs,s _ _ h1,s.lst h2,s.lst h3,s.lst h4,s.lst h5,s.dk h6,s.dk h7,h8.sub s⟩
def Q8(a:Ad):rL:=λds M Q=>HI λp r1 r2 r3 (l:qc)=>ds=[.ref p,.ref r1,.ref r2,.ref r3]/\M p=Fa (.ins a.h [])/\pI M r1=Fa (l.nj.map rD)/\pI M r2=Fa (l.groups.map rM)/\pI M r3=Fa (l.nk.map xG)/\sj l/\
 ∀M',sT p M M'->tR a M' p l->(∀XM,(∀b c,(b=p\/M b=Db)->M' b=Fa c->XM b=Fa c)->tR a XM p l)->Q .nz M'
def rZ{p x:Uf}{c:vm}(k:sT p M N)(hp:N p=Fa c)(h:N x=Db):M x=Db:=by
 cases e:M x with
 | none=>rfl
 | some d=>
  have n:x≠p:=λz=>by rw[z,hp]at h;cases h
  rw[k x d n e]at h;cases h
def zP{a:Uf}{es:T0 (rH×D)}(h:zU M a=Fa es):M a=Fa (.dk es):=by
 unfold zU at h;split at h
 .rename_i e;rw[e];cases h;rfl
 .cases h
theorem xp{α:Type}(f:α->Str)(g:α->D):∀l:List α,xu (l.map λx=>D.tup [.str (f x),g x])=Fa (l.map λx=>(Sum.inr (f x),g x))
 | []=>rfl
 | x::r=>by show(xu (r.map λx=>D.tup [.str (f x),g x])).map ((Sum.inr (f x),g x)::·)=_;rw[xp f g r];rfl
def KJ{ss:QQQ}(h:ss.Nodup):(ss.map λx=>(Sum.inr x:rH)).Nodup:=by
 induction ss with
 | nil=>exact eP
 | cons x r ih=>obtain⟨h1,h2⟩:=dZ.mp h;rw[eh];refine dZ.mpr ⟨λz=>h1 ?_,ih h2⟩;obtain⟨y,hy,e⟩:=dI.mp z;cases e;exact hy
def yV{α:Type}{f:α->Str}{g:α->D}{l:List α}(h:(l.map f).Nodup):((l.map λx=>((Sum.inr (f x):rH),g x)).map (·.1)).Nodup:=by rw[eA];have:=KJ h;rw[eA]at this;exact this
def BH(d:D):D:=.tup [Bu d,d]
noncomputable def Xe:D->D
 | .tup (x::_)=>x
 | _=>.nz
def R8(ws:List vV):(ws.map xG).map Xe=ws.map λw=>D.bl w.1:=by rw[eA];rfl
def GW(ps:List ul):(ps.map rD).map BH=ps.map λp=>D.tup [.str p.1,rD p]:=by rw[eA];rfl
def HH(ps:List uQ):(ps.map rM).map BH=ps.map λp=>D.tup [.str p.1,rM p]:=by rw[eA];rfl
def tD.snoc{r:Uf}{v:vV}(h:tD a M rs ws)(n:M r=Db):tD a (pX M r (.ins (v.2.cls a) v.2.oj)) (rs++[r]) (ws++[v]):=by
 refine⟨by rw[dg,dg,h.1];rfl,λi r' v' e1 e2=>?_⟩;by_cases hi:i<rs.length
 .rw[fk hi]at e1;rw[fk (by rw[<-h.1];exact hi)]at e2;have:=h.2 i r' v' e1 e2;rw[uF (RI this n)];exact this
 .have Zl:i=rs.length:=by have:=(dh.mp e1).1;rw[dg,dX]at this;omega
  subst Zl;rw[fi (dC _)]at e1;rw[h.1,fi (dC _)]at e2;simp only[io,iN,jF]at e1 e2;subst e1 e2;exact qp
def OS:Fq P w K mg base 7 a.an (Q8 a):=by
 refine fq G.an.toDG FE (λr u=>⟨_,(pP (ql (qa (Dw G) r G.bq (rO U1 U2 U3)))
 (pP (qC v0 (qG uE Z' G.z uf (qE U1)))
 (pP (qC v0 (qG uE Z' G.z uf (qE U2)))
 (pP (qC v0 (qY Z' (xy (ix:=[Db,Db]) (N':=["on","wish"])) (qV U3) (vp (n:=2) Z' (qN (qP 0) (qN (qP 1) tZ))) su (qa (HX G) r G.bk (qE U1))))
 (pP (qC v0 (qY Z' (xy (ix:=[Db,Db]) (N':=["on","wish"])) (qV U3) (vp (n:=2) Z' (qN (qP 0) (qN (qP 1) tZ))) su v0))
 (pP (qC v0 (qG (Gi Z') Z' G.bY F4 (qE (qY Z' (xy (ix:=[Db]) (N':=["phone"])) (qV U1) (qP 0) su (qk (sA (qe v0 pS) v0))))))
 (pR (qC v0 (qG (Gi Z') Z' G.bY F4 (qE (qY Z' (xy (ix:=[Db]) (N':=["group"])) (qV U2) (qP 0) su (qk (sA (qe v0 pS) v0))))))))))))),?_⟩)
 rintro ds M Q ⟨p,r1,r2,r3,l,rfl,hp,h1,h2,h3,ok,q⟩
 have hz:=dR;have l1:=ok.p8;have l2:=ok.g3;have l3:=ok.w16;refine⟨r1,r2,r3,l,Z',h1,h2,h3,ok,?_⟩;refine i' h1 λph hph=>?_;obtain⟨n1,e1,k1,c1,p1⟩:=tM (fs':=[("phones",.ref ph)]) (c:=.lst (l.nj.map rD)) hp hph;refine pQ e1 ⟨(G.aa "phones" Z'),by show 0<1000;decide,?_⟩;show ur _ _ _ _ (pX (pX M ph (.lst (l.nj.map rD))) p (.ins a.h [("phones",.ref ph)]));generalize pX (pX M ph (.lst (l.nj.map rD))) p (.ins a.h [("phones",.ref ph)])=N1 at k1 c1 p1 ⊢;have Ys:=k1.lst (qu h1 hp) h1;have h2':=k1.lst (qu h2 hp) h2;have h3':=k1.lst (qu h3 hp) h3;have f1:pI N1 ph=Fa (l.nj.map rD):=tH c1;refine i' h2' λgr hgr=>?_;obtain⟨n2,e2,k2,c2,p2⟩:=tM (fs':=[("phones",.ref ph),("groups",.ref gr)]) (c:=.lst (l.groups.map rM)) p1 hgr;refine pQ e2 ⟨(G.aa "groups" Z'),by show 1<1000;decide,?_⟩;show ur _ _ _ _ (pX (pX N1 gr (.lst (l.groups.map rM))) p (.ins a.h [("phones",.ref ph),("groups",.ref gr)]));generalize pX (pX N1 gr (.lst (l.groups.map rM))) p (.ins a.h [("phones",.ref ph),("groups",.ref gr)])=N2 at k2 c2 p2 ⊢;have g1:=k2.lst (qu Ys p1) Ys;have g2:=k2.lst (qu h2' p1) h2';have g3:=k2.lst (qu h3' p1) h3';have f2:=k2.lst (qu f1 p1) f1;have f3:pI N2 gr=Fa (l.groups.map rM):=tH c2;have kk2:=k1.trans k2;have m2:M gr=Db:=rZ k1 p1 hgr;clear Ys h2' h3' f1 c1 c2 k1 k2 e1 e2;refine i' g3 ?_;refine BC (l.nk.map xG) (λpre acc U Mx=>(∃x y,U=[x,y])/\qQ N2 Mx/\∃rs:QXQ,acc=rs.map D.ref/\(∀r∈rs,N2 r=Db)/\tD a Mx rs (l.nk.take pre.length)) (λpre acc U Mx j=>j.2.1.lst g3) _ [] [] _ _ Z' (by rw[c9];simp only[dS];omega) ⟨⟨Db,Db,Z'⟩,.refl,[],Z',λr hr=>absurd hr (dQ),Z',λi r v e=>by simp at e⟩ ?_ ?_
 .rintro pre d post e acc U Mx ⟨⟨x,y,rfl⟩,sx,rs,rfl,fr,wa⟩ k hk
  obtain⟨v,hv,rfl⟩:∃v,l.nk[pre.length]?=Fa v/\d=xG v:=by
   have:(l.nk.map xG)[pre.length]?=Fa d:=by rw[<-e];simp
   rw[dJ]at this;cases z:l.nk[pre.length]? with
   | none=>rw[z]at this;cases this
   | some v=>rw[z]at this;exact⟨v,Z',(dB this).symm⟩
  refine⟨Z',⟨v.2,Z',λr hr=>hk _ _ _ ⟨⟨_,_,Z'⟩,sx.trans (.new hr),rs++[r],?_,λr' hr'=>?_,?_⟩⟩⟩
  .rw[dY];rfl
  .rcases eB.mp hr' with z|z
   .exact fr r' z
   .rw[dG.mp z];exact sx.none hr
  .rw[dg,dX,gS,hv];exact wa.snoc hr
 rintro acc U Mx ⟨⟨x,y,rfl⟩,sx,rs,rfl,fr,wa⟩ ws hws
 have wa:tD a Mx rs l.nk:=by rw[c9,fD]at wa;exact wa
 obtain⟨n3,e3,k3,c3,p3⟩:=tM (fs':=[("phones",.ref ph),("groups",.ref gr),("wishes",.ref ws)]) (c:=.lst (rs.map D.ref)) (sx _ _ p2) hws;refine pQ e3 ⟨(G.aa "wishes" Z'),by show 2<1000;decide,?_⟩;show ur _ _ _ _ (pX (pX Mx ws (.lst (rs.map D.ref))) p (.ins a.h [("phones",.ref ph),("groups",.ref gr),("wishes",.ref ws)]));generalize pX (pX Mx ws (.lst (rs.map D.ref))) p (.ins a.h [("phones",.ref ph),("groups",.ref gr),("wishes",.ref ws)])=N3 at k3 c3 p3 ⊢;have px:=sx _ _ p2;have i1:=k3.lst (qu (sx.lst g1) px) (sx.lst g1);have i2:=k3.lst (qu (sx.lst g2) px) (sx.lst g2);have i3:=k3.lst (qu (sx.lst g3) px) (sx.lst g3);have f4:=k3.lst (qu (sx.lst f2) px) (sx.lst f2);have f5:=k3.lst (qu (sx.lst f3) px) (sx.lst f3);have f6:pI N3 ws=Fa (rs.map D.ref):=tH c3;have rp:∀r∈rs,r≠p:=λr hr z=>by have:=fr r hr;rw[z,p2]at this;cases this
 have w3:=wa.keep k3 rp;have kk3:=(kk2.trans sx.keep).trans k3;have m3:M ws=Db:=rZ (kk2.trans sx.keep) px hws;have mr:∀r∈rs,M r=Db:=λr hr=>rZ kk2 p2 (fr r hr);clear g1 g2 g3 f2 f3 c3 k3 e3 wa px kk2;refine i' i3 (CU (f:=Xe) (λU=>∃x y,U=[x,y]) i3 _ [] _ ⟨Db,Db,Z'⟩ (by rw[c9];simp only[dS];omega) (λd hd U hj k hk=>?_) λon hon=>?_)
 .obtain⟨x,y,rfl⟩:=hj;obtain⟨v,_,rfl⟩:=dI.mp hd;exact⟨Z',hk _ ⟨_,_,Z'⟩⟩
 rw[eC,R8];obtain⟨n4,e4,k4,c4,p4⟩:=tM (fs':=[("phones",.ref ph),("groups",.ref gr),("wishes",.ref ws),("on",.ref on)]) (c:=.lst (l.nk.map λw=>D.bl w.1)) p3 hon;refine pQ e4 ⟨(G.aa "on" Z'),by show 3<1000;decide,?_⟩;show ur _ _ _ _ (pX (pX N3 on (.lst (l.nk.map λw=>D.bl w.1))) p (.ins a.h [("phones",.ref ph),("groups",.ref gr),("wishes",.ref ws),("on",.ref on)]));generalize pX (pX N3 on (.lst (l.nk.map λw=>D.bl w.1))) p (.ins a.h [("phones",.ref ph),("groups",.ref gr),("wishes",.ref ws),("on",.ref on)])=N4 at k4 c4 p4 ⊢;have j1:=k4.lst (qu i1 p3) i1;have j2:=k4.lst (qu i2 p3) i2;have f7:=k4.lst (qu f4 p3) f4;have f8:=k4.lst (qu f5 p3) f5;have f9:=k4.lst (qu f6 p3) f6;have fa:pI N4 on=Fa (l.nk.map λw=>D.bl w.1):=tH c4;have w4:=w3.keep k4 rp;have ZL:=kk3.trans k4;have m4:M on=Db:=rZ kk3 p3 hon;clear i1 i2 i3 f4 f5 f6 c4 k4 e4 w3 kk3;refine i' j1 (rK (f:=BH) j1 _ [] _ (by rw[c9];simp only[dS];omega) (λd hd k hk=>?_) λq1 YM=>?_)
 .obtain⟨v,_,rfl⟩:=dI.mp hd;exact⟨pN Z',hk⟩
 rw[eC,GW];have sq1:=qQ.new (c:=.lst (l.nj.map λp=>D.tup [.str p.1,rD p])) YM;refine i' pY (i' (xp (λp:ul=>p.1) rD l.nj) ⟨yV (iL (List.sublist_append_left _ _) ok.nd),λpr hpr=>?_⟩);obtain⟨n5,e5,k5,c5,p5⟩:=tM (fs':=[("phones",.ref ph),("groups",.ref gr),("wishes",.ref ws),("on",.ref on),("phone_rows",.ref pr)]) (c:=.dk (l.nj.map λx=>(Sum.inr x.1,rD x))) (sq1 _ _ p4) hpr;refine pQ e5 ⟨(G.aa "phone_rows" Z'),by show 4<1000;decide,?_⟩;have k5:=sq1.keep.trans k5;have ZC:wG "phone_rows" (.ref pr) [("phones",.ref ph),("groups",.ref gr),("wishes",.ref ws),("on",.ref on)]=([("phones",.ref ph),("groups",.ref gr),("wishes",.ref ws),("on",.ref on),("phone_rows",.ref pr)]:T0 (Str×D)):=rfl;rw[ZC];generalize pX (pX (pX N4 q1 (.lst (l.nj.map λp=>D.tup [.str p.1,rD p]))) pr (.dk (l.nj.map λx=>(Sum.inr x.1,rD x)))) p (.ins a.h [("phones",.ref ph),("groups",.ref gr),("wishes",.ref ws),("on",.ref on),("phone_rows",.ref pr)])=N5 at k5 c5 p5 ⊢;have mm:=k5.lst (qu j2 p4) j2;have fb:=k5.lst (qu f7 p4) f7;have fc:=k5.lst (qu f8 p4) f8;have fd:=k5.lst (qu f9 p4) f9;have fe:=k5.lst (qu fa p4) fa;have ff:zU N5 pr=Fa (Th l):=Ey c5;have w5:=w4.keep k5 rp;have ZM:=ZL.trans k5;have m5:M pr=Db:=rZ (ZL.trans sq1.keep) (sq1 _ _ p4) hpr;clear j1 j2 f7 f8 f9 fa c5 k5 e5 w4 ZL;refine i' mm (rK (f:=BH) mm _ [] _ (by rw[c9];simp only[dS];omega) (λd hd k hk=>?_) λq2 Z2=>?_)
 .obtain⟨v,_,rfl⟩:=dI.mp hd;exact⟨pN Z',hk⟩
 rw[eC,HH];have sq2:=qQ.new (c:=.lst (l.groups.map λg=>D.tup [.str g.1,rM g])) Z2;refine i' pY (i' (xp (λp:uQ=>p.1) rM l.groups) ⟨yV (iL (jL _ _) ok.nd),λgd hgd=>?_⟩);obtain⟨n6,e6,k6,c6,p6⟩:=tM (fs':=Rj ph gr ws on pr gd) (c:=.dk (Iv l)) (sq2 _ _ p5) hgd;have k6:=sq2.keep.trans k6;refine pQ e6 ⟨(G.aa "group_rows" Z'),by show 5<1000;decide,_,.refl,?_⟩;have m6:M gd=Db:=rZ (ZM.trans sq2.keep) (sq2 _ _ p5) hgd;have w6:=w5.keep k6 rp;have y1:=k6.lst (qu fb p5) fb;have y2:=k6.lst (qu fc p5) fc;have y3:=k6.lst (qu fd p5) fd;have y4:=k6.lst (qu fe p5) fe;have y5:=k6.dk (Ca ff p5) ff;refine q _ (ZM.trans k6) ⟨ph,gr,ws,on,pr,gd,rs,p6,y1,y2,y3,y4,y5,Ey c6,w6⟩ λXM hs=>?_;exact⟨ph,gr,ws,on,pr,gd,rs,hs _ _ (.inl Z') p6,tH (hs _ _ (.inr hph) (qM y1)),tH (hs _ _ (.inr m2) (qM y2)),tH (hs _ _ (.inr m3) (qM y3)),tH (hs _ _ (.inr m4) (qM y4)),Ey (hs _ _ (.inr m5) (zP y5)),Ey (hs _ _ (.inr m6) c6),w6.1,λi r v e1 e2=>hs _ _ (.inr (mr r (fA e1))) (w6.2 i r v e1 e2)⟩
theorem yz{α:Type}(f:α->Str)(g:α->D)(k:Str):∀l:List α,vZ (l.map λx=>((Sum.inr (f x):rH),g x)) (Sum.inr k)=(l.find? λx=>decide (f x=k)).map g
 | []=>rfl
 | x::r=>by
  have ih:=yz f g k r;unfold vZ at ih ⊢;rw[eh,fQ,fQ];by_cases h:f x=k
  .have h':decide ((Sum.inr (f x):rH)=Sum.inr k)=pc:=d9 (by rw[h]);simp[h]
  .have h':¬(Sum.inr (f x):rH)=Sum.inr k:=λz=>h (kl z);simp only[h,h',decide_false];exact ih
noncomputable def qc.nM(l:qc)(x:Str):Option ul:=l.nj.find? λp=>decide (p.1=x)
noncomputable def qc.group(l:qc)(x:Str):Option uQ:=l.groups.find? λg=>decide (g.1=x)
noncomputable def qc.ng(l:qc)(x:Str):QQQ:=(l.group x).elim [x] λg=>g.2.2
noncomputable def qc.nC(l:qc)(x:Str):Str:=(l.group x).elim "one" λg=>g.2.1
def Hu(l:qc)(x:Str):vZ (Th l) (Sum.inr x)=(l.nM x).map rD:=yz (λp:ul=>p.1) rD x l.nj
def wR(l:qc)(x:Str):vZ (Iv l) (Sum.inr x)=(l.group x).map rM:=yz (λp:uQ=>p.1) rM x l.groups
def zk(a:Ad):rL:=λds M Q=>AU λp (l:qc)=>ds=[.ref p]/\tR a M p l/\l.nj.length<=100/\∀q,M q=Db->Q (.ref q) (pX M q (.lst (l.pn.map D.str)))
def FN(a:Ad):rL:=λds M Q=>AU λp (l:qc)=>ds=[.ref p]/\tR a M p l/\l.nj.length<=100/\l.groups.length<=100/\∀q,M q=Db->Q (.ref q) (pX M q (.lst (l.nm.map D.str)))
def EN(a:Ad):rL:=λds M Q=>Br λp x v (l:qc)=>ds=[.ref p,.str x]/\tR a M p l/\l.nM x=Fa v/\Q (.int v.2.1) M
def HF(a:Ad):rL:=λds M Q=>Br λp x v (l:qc)=>ds=[.ref p,.str x]/\tR a M p l/\l.nM x=Fa v/\Q (.int v.2.2) M
def AG(a:Ad):rL:=λds M Q=>BV λp x (l:qc)=>ds=[.ref p,.str x]/\tR a M p l/\∀q,M q=Db->Q (.ref q) (pX M q (.lst ((l.ng x).map D.str)))
def DO(a:Ad):rL:=λds M Q=>BV λp x (l:qc)=>ds=[.ref p,.str x]/\tR a M p l/\Q (.str (l.nC x)) M
def uj:Fq P w K mg base 1 a.U (zk a):=by
 refine fq G.U.toDG yK (λr u=>⟨_,(pR (pW (qY Z' (xy (ix:=[Db]) (N':=["phone"])) (qV (pV v0)) (qP 0) su (qe v0 pS)))),?_⟩)
 rintro ds M Q ⟨p,l,rfl,hp,hl,q⟩
 have hz:=dR;obtain⟨ph,gr,ws,on,pr,gd,rs,h1,h2,h3,h4,h5,h6,h7,h8⟩:=hp;refine pQ h1 (i' Z' (i' h2 ?_));refine rK (f:=Bu) h2 _ [] _ (by rw[c9];simp only[dS];omega) (λd hd k hk=>?_) λq1 YM=>?_
 .obtain⟨x,_,rfl⟩:=dI.mp hd;exact hk
 rw[eC,wZ];exact⟨_,.refl,q q1 YM⟩
def DE:Fq P w K mg base 2 a.bI (FN a):=by
 refine fq G.bI.toDG Dm (λr u=>⟨_,(pR (pW (qx (yD v0 G.h.toCls G.U (uj G) r) (qY Z' (xy (ix:=[Db]) (N':=["group"])) (qV (pV v0)) (qP 0) su (qe v0 pS))))),?_⟩)
 rintro ds M Q ⟨p,l,rfl,hp,hl,hl2,q⟩
 have hz:=dR;have X0:=hp;obtain⟨ph,gr,ws,on,pr,gd,rs,h1,h2,h3,h4,h5,h6,h7,h8⟩:=hp;refine pQ h1 ⟨Z',_,⟨Z',Z'⟩,p,l,Z',X0,hl,λq1 YM=>?_⟩;have s1:=qQ.new (c:=.lst (l.pn.map D.str)) YM;have e1:=@pY M q1 (l.pn.map D.str);generalize pX M q1 (.lst (l.pn.map D.str))=M1 at s1 e1 ⊢;have h3':=s1.lst h3;refine pQ (s1 _ _ h1) (i' Z' (i' h3' ?_));refine rK (f:=Bu) h3' _ [] _ (by rw[c9];simp only[dS];omega) (λd hd k hk=>?_) λq2 Z2=>?_
 .obtain⟨x,_,rfl⟩:=dI.mp hd;exact hk
 rw[eC,xq];have s2:=qQ.new (c:=.lst ((l.groups.map (·.1)).map D.str)) Z2;refine i' (s2.lst e1) (i' pY ⟨?_,λq3 hq3=>?_⟩)
 .rw[c9,c9,c9];show(l.nj.map (·.1)).length+_<=_;rw[c9];omega
 have en:l.pn.map D.str++(l.groups.map (·.1)).map D.str=l.nm.map D.str:=by unfold qc.nm;rw[dY];rfl
 rw[en];exact⟨_,(s1.trans s2).upd,q q3 ((s1.trans s2).none hq3)⟩
def Dl:Fq P w K mg base 1 a.bH (EN a):=by
 refine fq G.bH.toDG DJ (λr u=>⟨_,(pR (pW (qe (zt u (pV v0) U1) pS))),?_⟩)
 rintro ds M Q ⟨p,x,v,l,rfl,hp,hv,q⟩
 obtain⟨ph,gr,ws,on,pr,gd,rs,h1,h2,h3,h4,h5,h6,h7,h8⟩:=hp;exact pQ h1 (i' Z' (i' Z' (i' h6 (i' (x:=rD v) (by rw[Hu,hv];rfl) ⟨M,.refl,q⟩))))
def zp:Fq P w K mg base 1 a.aT (HF a):=by
 refine fq G.aT.toDG Gh (λr u=>⟨_,(pR (pW (qe (zt u (pV v0) U1) pS))),?_⟩)
 rintro ds M Q ⟨p,x,v,l,rfl,hp,hv,q⟩
 obtain⟨ph,gr,ws,on,pr,gd,rs,h1,h2,h3,h4,h5,h6,h7,h8⟩:=hp;exact pQ h1 (i' Z' (i' Z' (i' h6 (i' (x:=rD v) (by rw[Hu,hv];rfl) ⟨M,.refl,q⟩))))
def uS:Fq P w K mg base 1 a.Y (AG a):=by
 refine fq G.Y.toDG zJ (λr u=>⟨_,(pP (qm (LU u U1 (pV v0))
 (pR (pW (qG uE Z' G.z uf (qE (qe (zt u (pV v0) U1) pS)))))
 qd)
 (pR (pW (rh (qE U1))))),?_⟩)
 rintro ds M Q ⟨p,x,l,rfl,hp,q⟩
 obtain⟨ph,gr,ws,on,pr,gd,rs,h1,h2,h3,h4,h5,h6,h7,h8⟩:=hp;refine pQ h1 (i' Z' (i' h7 ?_));cases e:l.group x with
 | none=>refine L5 (c:=(vZ (Iv l) (Sum.inr x)).isSome) (by rw[wR,e];rfl) ⟨pN Z',λq1 YM=>⟨_,.refl,?_⟩⟩;have:=q q1 YM;unfold qc.ng at this;rw[e]at this;exact this
 | some g=>refine Bd (c:=(vZ (Iv l) (Sum.inr x)).isSome) (by rw[wR,e];rfl) (pQ h1 (i' Z' (i' Z' (i' h7 (i' (x:=rM g) (by rw[wR,e];rfl) λq1 YM=>⟨_,.refl,?_⟩)))));have:=q q1 YM;unfold qc.ng at this;rw[e]at this;exact this
def ym:Fq P w K mg base 1 a.aR (DO a):=by
 refine fq G.aR.toDG CM (λr u=>⟨_,(pP (qm (LU u U1 (pV v0))
 (pR (pW (qe (zt u (pV v0) U1) pS)))
 qd)
 (pR (pW pT))),?_⟩)
 rintro ds M Q ⟨p,x,l,rfl,hp,q⟩
 obtain⟨ph,gr,ws,on,pr,gd,rs,h1,h2,h3,h4,h5,h6,h7,h8⟩:=hp;refine pQ h1 (i' Z' (i' h7 ?_));cases e:l.group x with
 | none=>refine L5 (c:=(vZ (Iv l) (Sum.inr x)).isSome) (by rw[wR,e];rfl) ⟨M,.refl,?_⟩;unfold qc.nC at q;rw[e]at q;exact q
 | some g=>refine Bd (c:=(vZ (Iv l) (Sum.inr x)).isSome) (by rw[wR,e];rfl) (pQ h1 (i' Z' (i' Z' (i' h7 (i' (x:=rM g) (by rw[wR,e];rfl) ⟨M,.refl,?_⟩)))));unfold qc.nC at q;rw[e]at q;exact q
noncomputable def OT:T0 Int:=[1,1,2,2,3]
noncomputable def Pp:T0 Int:=[0,1,1,2,5,9]
noncomputable def OZ:QQQ:=["all","turns"]
noncomputable def Ha(t:T0 Int)(i:Int):Int:=t.getD i.toNat 0
def wF(s:Int)(i:Nat):ul:=(yc s (0+(i:Nat)),Ha OT (draw (s+17*(0+(i:Nat))*(0+(i:Nat))) 16807 5),Ha Pp (draw (s+17*(0+(i:Nat))*(0+(i:Nat))) 39373 6))
def rY(s m:Int):Nat:=(2+draw s 48271 (m - 1)).toNat
def qS(s m:Int):List ul:=(List.range (rY s m)).map (wF s)
def Ah(s:Int)(own:QQQ)(i:Nat):uQ:=(yc s (8+(0+(i:Nat))),BO OZ (draw (s+5*(0+(i:Nat))) 742938285 2),wu own (s+11*(0+(i:Nat))) 4)
def wg(s:Int):Nat:=(draw s 69621 3).toNat
def rG(s:Int)(own:QQQ):List uQ:=(List.range (wg s)).map (Ah s own)
def Hb{ts:T0 Int}{i:Int}(h0:0<=i)(h1:i<ts.length):wY (ts.map D.int) i=Fa (D.int (Ha ts i)):=by
 obtain⟨n,rfl⟩:=eK h0;have Zi:n<ts.length:=by omega
 refine vF ?_;rw[dJ,df Zi];simp[Ha,Zi]
def Cr{pre post:T0 D}{d:D}(e:pre++d::post=(List.range n).map λi=>D.int (0+(i:Nat))):d=.int (0+(pre.length:Nat))/\pre.length<n:=by
 have h:((List.range n).map λi=>D.int (0+(i:Nat)))[pre.length]?=Fa d:=by rw[<-e];simp
 have hl:pre.length<n:=by
  have:=(dh.mp h).1
  simpa using this
 rw[dJ,kX hl]at h;exact⟨(dB h).symm,hl⟩
def CO{α β:Type}(f:Nat->α)(g:α->β)(n:Nat):((List.range n).map f).map g++[g (f n)]=((List.range (n+1)).map f).map g:=by rw[jd,dY,dY];rfl
def I9:rL:=λds M Q=>AU λs m=>ds=[.int s,.int m]/\2<=m/\m<=100/\∀q,M q=Db->Q (.ref q) (pX M q (.lst ((qS s m).map rD)))
def Iy:rL:=λds M Q=>BV λs o own=>ds=[.int s,.ref o]/\pI M o=Fa (own.map D.str)/\own≠[]/\own.length<=64/\∀q,M q=Db->Q (.ref q) (pX M q (.lst ((rG s own).map rM)))
def xo{s m:Int}(h2:2<=m)(h:m<=100):rY s m<=100/\2<=rY s m:=by have d0:=rF (c:=s) (f:=48271) (m:=m - 1) (by omega);have d1:=rf (c:=s) (f:=48271) (m:=m - 1) (by omega);unfold rY;omega
def xh{s:Int}:wg s<=3:=by have d0:=rF (c:=s) (f:=69621) (m:=3) (by decide);have d1:=rf (c:=s) (f:=69621) (m:=3) (by decide);unfold wg;omega
def HY:Fq P w K mg base 2 a.br I9:=by
 refine fq G.br.toDG vg (λr u=>⟨_,(pP (qg 2 vg (rh tz))
 (pP (vq fC Z' (wN Z' G.ab (qE (qx pS (qa (rb G) r G.i (rO v0 pS (qx U1 pS)))))) (rS 3 vg)
 (pP (qg 4 vg (qe (qk (qz pS (qz pS (rO pS pS pS)))) (qa (rb G) r G.i (rO (qx v0 (qx (qx pS U3) U3)) pS pS))))
 (pR (ql (sv U2 (qE (qk (rO (qa (JB G) r G.ai (sA v0 U3)) v4 (qe (qk (qz pS (qz pS (qz pS (rO pS pS pS))))) (qa (rb G) r G.i (rO (qx v0 (qx (qx pS U3) U3)) pS pS)))))))))))
 (pR (pW U2)))),?_⟩)
 rintro ds M Q ⟨s,m,rfl,h2,h100,q⟩
 have hz:=dR;have d0:=rF (c:=s) (f:=48271) (m:=m - 1) (by omega);have d1:=rf (c:=s) (f:=48271) (m:=m - 1) (by omega);have nl:=(xo (s:=s) h2 h100).1;refine⟨pN Z',λr hr=>⟨s,_,_,Z',by show 0<m - 1;omega,Z',⟨?_,?_⟩,?_⟩⟩
 .show -(2 ^ 62)<=2+draw s 48271 (m - 1);omega
 .show 2+draw s 48271 (m - 1)<2 ^ 62;omega
 refine xD ((List.range (rY s m)).map λi=>D.int (0+(i:Nat))) (λpre U M'=>M'=pX M r (.lst (((List.range pre.length).map (wF s)).map rD))/\∃x y,U=[Fa (.int s),Fa (.int m),Fa (.ref r),x,y]) (λ_ _ _ _=>trivial) _ [] _ _ Z' ⟨Z',Db,Db,Z'⟩ ?_ ?_
 .rintro pre d post e U M' ⟨rfl,x,y,rfl⟩ nx XY
  obtain⟨rfl,XU⟩:=Cr e;generalize hi:pre.length=i at XU XY ⊢;have cm:Dp (17*(0+(i:Int))) (0+(i:Int)):=.inr ⟨by omega,by omega⟩;have c17:Dp 17 (0+(i:Int)):=.inl ⟨by decide,by decide⟩;have t5:wY [D.int 1,.int 1,.int 2,.int 2,.int 3] (draw (s+17*(0+(i:Int))*(0+(i:Int))) 16807 5)=Fa (.int (wF s i).2.1):=Hb (ts:=OT) (rF (by decide)) (rf (by decide));have t6:wY [D.int 0,.int 1,.int 1,.int 2,.int 5,.int 9] (draw (s+17*(0+(i:Int))*(0+(i:Int))) 39373 6)=Fa (.int (wF s i).2.2):=Hb (ts:=Pp) (rF (by decide)) (rf (by decide));refine⟨pN Z',c17,cm,_,_,_,Z',by decide,i' t5 ?_⟩;refine⟨by show(pI _ r).isSome=pc;rw[pY];rfl,s,_,Z',pN Z',c17,cm,_,_,_,Z',by decide,i' t6 ⟨pN Z',i' pY ⟨?_,?_⟩⟩⟩
  .rw[c9,c9,eI];omega
  .refine XY _ _ ⟨?_,_,_,Z'⟩;rw[sf,dg,hi];show pX M r (.lst (_++[rD (wF s i)]))=_;rw[CO];rfl
 .rintro U M' ⟨rfl,x,y,rfl⟩
  refine⟨_,.refl,?_⟩;rw[c9,eI];exact q r hr
def Ia:Fq P w K mg base 3 a.bs Iy:=by
 refine fq G.bs.toDG ve (λr u=>⟨_,(pP (qg 2 ve (rh tz))
 (pP (vq fC Z' (wN Z' G.ab (qE (qa (rb G) r G.i (rO v0 pS pS)))) (rS 3 ve)
 (pP (qg 4 ve (qe (qk (sA pT pT)) (qa (rb G) r G.i (rO (qx v0 (qx pS U3)) pS pS))))
 (pR (ql (sv U2 (qE (qk (rO (qa (JB G) r G.ai (sA v0 (qx pS U3))) v4 (qa (yA G) r G.S (rO U1 (qx v0 (qx pS U3)) pS))))))))))
 (pR (pW U2)))),?_⟩)
 rintro ds M Q ⟨s,o,own,rfl,ho,X3,h64,q⟩
 have hz:=dR;have d0:=rF (c:=s) (f:=69621) (m:=3) (by decide);have d1:=rf (c:=s) (f:=69621) (m:=3) (by decide);have nl:=xh (s:=s);refine⟨pN Z',λr hr=>⟨s,_,_,Z',by decide,Z',⟨?_,?_⟩,?_⟩⟩
 .show -(2 ^ 62)<=draw s 69621 3;omega
 .show draw s 69621 3<2 ^ 62;omega
 have nor:o≠r:=λz=>by rw[z]at ho;unfold pI at ho;rw[hr]at ho;cases ho
 refine xD ((List.range (wg s)).map λi=>D.int (0+(i:Nat))) (λpre U M'=>M'=pX M r (.lst (((List.range pre.length).map (Ah s own)).map rM))/\∃x y,U=[Fa (.int s),Fa (.ref o),Fa (.ref r),x,y]) (λ_ _ _ _=>trivial) _ [] _ _ Z' ⟨Z',Db,Db,Z'⟩ ?_ ?_
 .rintro pre d post e U M' ⟨rfl,x,y,rfl⟩ nx XY
  obtain⟨rfl,XU⟩:=Cr e;generalize hi:pre.length=i at XU XY ⊢;have c5:Dp 5 (0+(i:Int)):=.inl ⟨by decide,by decide⟩;have c11:Dp 11 (0+(i:Int)):=.inl ⟨by decide,by decide⟩;have tm:wY [D.str "all",.str "turns"] (draw (s+5*(0+(i:Int))) 742938285 2)=Fa (.str (Ah s own i).2.1):=HW (row:=OZ) (rF (by decide)) (rf (by decide));have Yo:pI (pX M r (.lst (((List.range i).map (Ah s own)).map rM))) o=Fa (own.map D.str):=by unfold pI;rw[uF nor];exact ho
  refine⟨pN Z',c5,_,_,_,Z',by decide,i' tm ?_⟩;refine⟨by show(pI _ r).isSome=pc;rw[pY];rfl,s,_,Z',c11,o,_,_,own,Z',Yo,X3,by decide,h64,pN Z',i' pY ⟨?_,?_⟩⟩
  .rw[c9,c9,eI];omega
  .refine XY _ _ ⟨?_,_,_,Z'⟩;rw[sf,dg,hi];show pX M r (.lst (_++[rM (Ah s own i)]))=_;rw[CO];rfl
 .rintro U M' ⟨rfl,x,y,rfl⟩
  refine⟨_,.refl,?_⟩;rw[c9,eI];exact q r hr
def Jq(ns:T0 Int)(own nm:QQQ)(i:Nat):vV:=(decide (0<draw (cell ns (1+(0+(i:Nat)))+31*(0+(i:Nat))*(0+(i:Nat))) 22695477 6),wO (cell ns (1+(0+(i:Nat)))+31*(0+(i:Nat))*(0+(i:Nat))) own nm)
def xt(s:Int):Nat:=(draw s 950706376 11).toNat
def vO(ns:T0 Int)(m:Int):qc:=
 let s:=cell ns 0;let own:=(qS s m).map (·.1);let gs:=rG s own
 ⟨qS s m,gs,(List.range (xt s)).map (Jq ns own (own++gs.map (·.1)))⟩
def MN:rL:=λds M Q=>AU λns m=>ds=[.rl (ns.map D.int),.int m]/\2<=m/\m<=8/\∀r1 r2 r3 M',qQ M M'->pI M' r1=Fa ((vO ns m).nj.map rD)->pI M' r2=Fa ((vO ns m).groups.map rM)->pI M' r3=Fa ((vO ns m).nk.map xG)->Q (.tup [.ref r1,.ref r2,.ref r3]) M'
def OD:Fq P w K mg base 4 a.bu MN:=by
 refine fq G.bu.toDG sU (λr u=>⟨_,(pP (qg 2 sU (qa (Ml G) r G.R (sA v0 pS)))
 (pP (qg 3 sU (qa (HY G) r G.br (sA U2 U1)))
 (pP (tF (i:=4) sU.nd Z' (Or.inl Z') Z' (xy (ix:=[Db]) (N':=["_law_phone"])) (qV U3) (qP 0) su (qe v0 pS))
 (pP (qg 5 sU (qa (Ia G) r G.bs (sA U2 v4)))
 (pP (qg 6 sU (qx v4 (qY Z' (xy (ix:=[Db]) (N':=["_law_group"])) (qV v5) (qP 0) su (qe v0 pS))))
 (pP (qg 7 sU (rh tz))
 (pP (vq fC Z' (wN Z' G.ab (qE (qa (rb G) r G.i (rO U2 pS pS)))) (rS 8 sU)
 (pP (qg 9 sU (qx (qa (Ml G) r G.R (sA v0 (qx pS v8))) (qx (qx pS v8) v8)))
 (pR (ql (sv v7 (qE (qk (sA (qy u (qa (rb G) r G.i (rO v9 pS pS)) pS) (qa (Po G) r G.bt (rO v9 v4 v6))))))))))
 (pR (pW (qk (rO U3 v5 v7))))))))))),?_⟩)
 rintro ds M Q ⟨ns,m,rfl,h2,h8,q⟩
 have hz:=dR;have pl:=xo (s:=cell ns 0) h2 (by omega);have p8:rY (cell ns 0) m<=8:=by have d1:=rf (c:=cell ns 0) (f:=48271) (m:=m - 1) (by omega);unfold rY;omega
 have gl:=xh (s:=cell ns 0);have lp:(qS (cell ns 0) m).length=rY (cell ns 0) m:=by unfold qS;rw[c9,eI]
 refine⟨ns,0,Z',cell ns 0,m,Z',h2,by omega,λr1 Yt=>?_⟩;have s1:=qQ.new (c:=.lst ((qS (cell ns 0) m).map rD)) Yt;have a1:=@pY M r1 ((qS (cell ns 0) m).map rD);generalize pX M r1 (.lst ((qS (cell ns 0) m).map rD))=M1 at s1 a1 ⊢;refine i' a1 (rK (f:=Bu) a1 _ [] _ (by rw[c9];simp only[dS];omega) (λd hd k hk=>?_) λo ho=>?_)
 .obtain⟨x,_,rfl⟩:=dI.mp hd;exact hk
 rw[eC,wZ];have s2:=s1.trans (qQ.new (c:=.lst (((qS (cell ns 0) m).map (·.1)).map D.str)) ho);have b1:=(qQ.new (c:=.lst (((qS (cell ns 0) m).map (·.1)).map D.str)) ho).lst a1;have bo:=@pY M1 o (((qS (cell ns 0) m).map (·.1)).map D.str);generalize pX M1 o (.lst (((qS (cell ns 0) m).map (·.1)).map D.str))=M2 at s2 b1 bo ⊢;have ol:((qS (cell ns 0) m).map (·.1)).length=rY (cell ns 0) m:=by rw[c9,lp]
 have one:(qS (cell ns 0) m).map (·.1)≠[]:=λz=>by rw[z]at ol;have:0=rY (cell ns 0) m:=ol;omega
 have X0:vO ns m=⟨qS (cell ns 0) m,rG (cell ns 0) ((qS (cell ns 0) m).map (·.1)),(List.range (xt (cell ns 0))).map (Jq ns ((qS (cell ns 0) m).map (·.1)) ((qS (cell ns 0) m).map (·.1)++(rG (cell ns 0) ((qS (cell ns 0) m).map (·.1))).map (·.1)))⟩:=rfl;rw[X0]at q;generalize (qS (cell ns 0) m).map (·.1)=own at bo ol one q ⊢;refine⟨cell ns 0,o,own,Z',bo,one,by omega,λr2 Z3=>?_⟩;have t3:=qQ.new (c:=.lst ((rG (cell ns 0) own).map rM)) Z3;have c2:=@pY M2 r2 ((rG (cell ns 0) own).map rM);have c1:=t3.lst b1;have co:=t3.lst bo;have s3:=s2.trans t3;generalize pX M2 r2 (.lst ((rG (cell ns 0) own).map rM))=M3 at s3 c1 c2 co ⊢;have gll:(rG (cell ns 0) own).length=wg (cell ns 0):=by unfold rG;rw[c9,eI]
 refine i' c2 (rK (f:=Bu) c2 _ [] _ (by rw[c9];simp only[dS];omega) (λd hd k hk=>?_) λx4 hx4=>?_)
 .obtain⟨x,_,rfl⟩:=dI.mp hd;exact hk
 rw[eC,xq];have t4:=qQ.new (c:=.lst (((rG (cell ns 0) own).map (·.1)).map D.str)) hx4;refine i' (t4.lst co) (i' pY ⟨?_,λn hn=>?_⟩)
 .rw[c9,c9,c9];omega
 have en:own.map D.str++((rG (cell ns 0) own).map (·.1)).map D.str=(own++(rG (cell ns 0) own).map (·.1)).map D.str:=by rw[dY]
 rw[en];have nl:(own++(rG (cell ns 0) own).map (·.1)).length=rY (cell ns 0) m+wg (cell ns 0):=by rw[dg,c9,ol,gll]
 have t5:=t4.trans (qQ.new (c:=.lst ((own++(rG (cell ns 0) own).map (·.1)).map D.str)) hn);have en5:=@pY (pX M3 x4 (.lst (((rG (cell ns 0) own).map (·.1)).map D.str))) n ((own++(rG (cell ns 0) own).map (·.1)).map D.str);have e1:=t5.lst c1;have e2:=t5.lst c2;have eo:=t5.lst co;have s5:=s3.trans t5;generalize pX (pX M3 x4 (.lst (((rG (cell ns 0) own).map (·.1)).map D.str))) n (.lst ((own++(rG (cell ns 0) own).map (·.1)).map D.str))=M5 at s5 e1 e2 eo en5 ⊢;generalize own++(rG (cell ns 0) own).map (·.1)=nm at en5 nl q ⊢;have d0:=rF (c:=cell ns 0) (f:=950706376) (m:=11) (by decide);have d1:=rf (c:=cell ns 0) (f:=950706376) (m:=11) (by decide);refine⟨pN Z',λr3 ZN=>⟨_,_,_,Z',by decide,Z',⟨?_,?_⟩,?_⟩⟩
 .show -(2 ^ 62)<=draw (cell ns 0) 950706376 11;omega
 .show draw (cell ns 0) 950706376 11<2 ^ 62;omega
 have t6:=qQ.new (c:=.lst []) ZN;have g3:=@pY M5 r3 [];have no:o≠r3:=λz=>by have:=qM eo;rw[z,ZN]at this;cases this
 have nn:n≠r3:=λz=>by have:=qM en5;rw[z,ZN]at this;cases this
 have n1:r1≠r3:=λz=>by have:=qM e1;rw[z,ZN]at this;cases this
 have n2:r2≠r3:=λz=>by have:=qM e2;rw[z,ZN]at this;cases this
 have f1:=t6.lst e1;have f2:=t6.lst e2;have fo:=t6.lst eo;have fn:=t6.lst en5;have k6:qQ M (pX M5 r3 (.lst [])):=s5.trans t6;have nr:M r3=Db:=s5.none ZN;generalize pX M5 r3 (.lst [])=M6 at f1 f2 fo fn k6 g3 ⊢;have wl:xt (cell ns 0)<=10:=by unfold xt;omega
 refine xD ((List.range (xt (cell ns 0))).map λi=>D.int (0+(i:Nat))) (λpre U M'=>sT r3 M6 M'/\pI M' r3=Fa (((List.range pre.length).map (Jq ns own nm)).map xG)/\∃x y,U=[Fa (.rl (ns.map D.int)),Fa (.int m),Fa (.int (cell ns 0)),Fa (.ref r1),Fa (.ref o),Fa (.ref r2),Fa (.ref n),Fa (.ref r3),x,y]) (λp U M' j=>trivial) _ [] _ _ Z' ⟨λ_ _ _ h=>h,g3,Db,Db,Z'⟩ ?_ ?_
 .rintro pre d post e U M' ⟨kp,lr,x,y,rfl⟩ nx XY
  obtain⟨rfl,XU⟩:=Cr e;generalize hi:pre.length=i at XU XY lr ⊢;have c31:Dp 31 (0+(i:Int)):=.inl ⟨by decide,by decide⟩;have cm:Dp (31*(0+(i:Int))) (0+(i:Int)):=.inr ⟨by omega,by omega⟩;refine⟨ns,_,Z',c31,cm,?_⟩;refine⟨by show(pI M' r3).isSome=pc;rw[lr];rfl,_,_,_,Z',by decide,_,o,n,own,nm,Z',kp.lst no fo,kp.lst nn fn,one,by omega,by omega,by omega,pN Z',i' lr ⟨?_,?_⟩⟩
  .rw[c9,c9,eI];omega
  .refine XY _ _ ⟨kp.trans .put,?_,_,_,Z'⟩;rw[pY,dg,hi];show Fa (_++[xG (Jq ns own nm i)])=_;rw[CO];rfl
 .rintro U M' ⟨kp,lr,x,y,rfl⟩
  rw[c9,eI]at lr;exact⟨pN Z',M',.refl,q r1 r2 r3 M' (λb c h=>kp b c (λz=>by rw[z,nr]at h;cases h) (k6 b c h)) (kp.lst n1 f1) (kp.lst n2 f2) lr⟩
theorem B8(x:Array Nat):∀(n:Nat) (acc:Array Nat),((List.replicate n x).foldl (·++·) acc).toList=acc.toList++(List.replicate n x.toList).flatten
 | 0,acc=>by simp
 | n+1,acc=>by rw[eO,gi,B8 x n (acc++x),eO,fX,jl,fz]
theorem GZ(c:Nat):∀n:Nat,(List.replicate n [c]).flatten=List.replicate n c
 | 0=>rfl
 | n+1=>by rw[eO,fX,GZ c n,eO];rfl
def Ed(i n:Int):(ze (uI i) n).cps.toList=List.replicate n.toNat (97+i.toNat):=by show((List.replicate n.toNat (uI i).cps).foldl (·++·) #[]:Array Nat).toList=_;rw[B8];show[]++(List.replicate n.toNat [97+i.toNat]).flatten=_;rw[eC,GZ]
def yy(s v:Int):(yc s v).cps.toList=List.replicate (uV s).toNat (97+(s / 36 % 26).toNat)++(97+((s / 936+v) % 26).toNat)::List.replicate (size s - 1 - uV s).toNat (97+(s / 36 % 26).toNat):=by show((ze (uI (s / 36 % 26)) (uV s)).cps++(uI ((s / 936+v) % 26)).cps++(ze (uI (s / 36 % 26)) (size s - 1 - uV s)).cps).toList=_;rw[jl,jl,Ed,Ed];show _++[97+((s / 936+v) % 26).toNat]++_=_;rw[fz];rfl
def C7(s v:Int):1<=(yc s v).length/\(yc s v).length<=6:=by
 have e:(yc s v).length=(yc s v).cps.toList.length:=by simp[Str.length]
 rw[e,yy,dg,eE,iU,iU];have h1:=Hv s;have h2:=Jr s;have h3:0<=uV s:=fh _ (by omega);have h4:uV s<size s:=eX _ h1;omega
def Oh{i:Int}(h0:0<=i)(h1:i<26):DP ⟨#[97+i.toNat]⟩ uM=pc:=by
 obtain⟨n,rfl⟩:=eK h0;have hn:n<26:=by omega
 have key:∀n:_root_.Fin 26,DP ⟨#[97+n.val]⟩ uM=pc:=by decide+kernel
 exact key ⟨n,hn⟩
def DW(s v:Int):uT (yc s v)=pc:=by
 obtain⟨h1,h2⟩:=C7 s v;unfold uT;rw[d9 (show(1:Int)<=(yc s v).length by omega),d9 (show((yc s v).length:Int)<=6 by omega),eL,eL,eR];intro c hc;rw[yy]at hc;have k1:=Oh (fh (s / 36) (show(26:Int)≠0 by decide)) (eX (s / 36) (by decide));have k2:=Oh (fh (s / 936+v) (show(26:Int)≠0 by decide)) (eX (s / 936+v) (by decide));rcases eB.mp hc with z|z
 .rw[j4 z];exact k1
 .rcases dA.mp z with z|z
  .rw[z];exact k2
  .rw[j4 z];exact k1
def Cq{s u v:Int}(hu:0<=u)(hu':u<26)(hv:0<=v)(hv':v<26)(e:yc s u=yc s v):u=v:=by
 have e':(yc s u).cps.toList=(yc s v).cps.toList:=by rw[e]
 rw[yy,yy]at e';have:=(List.append_cancel_left e');have:=(gB this).1;have a1:=fh (s / 936+u) (show(26:Int)≠0 by decide);have a2:=fh (s / 936+v) (show(26:Int)≠0 by decide);have h:(s / 936+u) % 26=(s / 936+v) % 26:=by omega
 omega
def EZ{ss:QQQ}{x:Str}(h:x∈ss):xV ss x:=gI.mpr ⟨x,h,by simp⟩
def BF{row:QQQ}{i:Int}(h0:0<=i)(h1:i<row.length):BO row i∈row:=by
 obtain⟨n,rfl⟩:=eK h0;have hn:n<row.length:=by omega
 have:BO row (n:Int)=row[n]:=by simp[BO,hn]
 rw[this];exact iu hn
def J9{row:QQQ}{i j:Int}(nd:row.Nodup)(h0:0<=i)(h1:i<row.length)(g0:0<=j)(g1:j<row.length)(e:BO row i=BO row j):i=j:=by
 obtain⟨n,rfl⟩:=eK h0;obtain⟨k,rfl⟩:=eK g0;have hn:n<row.length:=by omega
 have hk:k<row.length:=by omega
 have e1:BO row (n:Int)=row[n]:=by simp[BO,hn]
 have e2:BO row (k:Int)=row[k]:=by simp[BO,hk]
 rw[e1,e2]at e;have pw:=jM.mp nd;rcases Nat.lt_trichotomy n k with z|z|z
 .exact absurd e (pw n k hn hk z)
 .rw[z]
 .exact absurd e.symm (pw k n hk hn z)
def AB{α:Type}(f:Nat->α)(n:Nat)(h:∀i j,i<n->j<n->f i=f j->i=j):((List.range n).map f).Nodup:=by refine jM.mpr λi j hi hj XU e=>?_;rw[c9,eI]at hi hj;rw[mB,mB,lG,lG]at e;have:=h i j hi hj e;omega
def Cf{row:QQQ}{c m:Int}(hr:row≠[])(hm:0<m):1<=xI row c m/\(xI row c m:Int)<=m/\xI row c m<=row.length:=by
 have hl:0<row.length:=fG.mpr hr;have d0:=rF (c:=c) (f:=40692) (m:=if (row.length:Int)<m then(row.length:Int)else m) (by split<;>omega);have d1:=rf (c:=c) (f:=40692) (m:=if (row.length:Int)<m then(row.length:Int)else m) (by split<;>omega);unfold xI;by_cases h:(row.length:Int)<m
 .rw[dw h]at d0 d1 ⊢;omega
 .rw[dq h]at d0 d1 ⊢;omega
def BP{row:QQQ}{c:Int}(hr:row≠[])(j:Nat):0<=(draw c 69621 row.length+(0+(j:Nat))) % (row.length:Int)/\(draw c 69621 row.length+(0+(j:Nat))) % (row.length:Int)<row.length:=by have hl:0<row.length:=fG.mpr hr;exact⟨fh _ (by omega),eX _ (by omega)⟩
def Jl{d n i j:Int}(hn:0<n)(hi:0<=i)(Zl:i<n)(hj:0<=j)(hj':j<n)(e:(d+i) % n=(d+j) % n):i=j:=by
 have h1:=kF (d+i) n;have h2:=kF (d+j) n;generalize (d+i) / n=a at h1;generalize (d+j) / n=b at h2;have h3:i - j=n*(a - b):=by rw[Int.mul_sub];omega
 rcases Int.lt_trichotomy (a - b) 0 with z|z|z
 .have:n*(a - b)<=n*(-1):=jj (by omega) (by omega);omega
 .rw[z]at h3;omega
 .have:n*1<=n*(a - b):=jj (by omega) (by omega);omega
def IF{row:QQQ}{c m:Int}(nd:row.Nodup)(hr:row≠[])(hm:0<m):(wu row c m).Nodup:=by have hl:0<row.length:=fG.mpr hr;obtain⟨_,_,l3⟩:=Cf (c:=c) hr hm;refine AB _ _ λi j hi hj e=>?_;obtain⟨a0,a1⟩:=BP (c:=c) hr i;obtain⟨b0,b1⟩:=BP (c:=c) hr j;have e':=J9 nd a0 a1 b0 b1 e;have:=Jl (d:=draw c 69621 row.length) (n:=row.length) (i:=0+(i:Nat)) (j:=0+(j:Nat)) (by omega) (by omega) (by omega) (by omega) (by omega) e';omega
def yd{row:QQQ}{c m k:Int}(nd:row.Nodup)(hr:row≠[])(hm:0<m)(hk:m<=k):sY (wu row c m) row k=pc:=by
 obtain⟨l1,l2,l3⟩:=Cf (c:=c) hr hm;have el:(wu row c m).length=xI row c m:=by unfold wu;rw[c9,eI]
 unfold sY;rw[el,d9 (show(1:Int)<=xI row c m by omega),d9 (show(xI row c m:Int)<=k by omega),Eh (IF nd hr hm),eL,eL,eL,eR];intro x hx;unfold wu at hx;obtain⟨j,_,rfl⟩:=dI.mp hx;obtain⟨a0,a1⟩:=BP (c:=c) hr j;exact EZ (BF a0 a1)
def B5{row:QQQ}{c m:Int}(hr:row≠[])(hm:0<m)(h:m<=100):(wu row c m).length<4000:=by
 obtain⟨l1,l2,l3⟩:=Cf (c:=c) hr hm;have el:(wu row c m).length=xI row c m:=by unfold wu;rw[c9,eI]
 omega
def Ql{c:Int}{own all:QQQ}(no:own.Nodup)(na:all.Nodup)(ho:own≠[])(ha:2<=all.length):Ct own all (wO c own all):=by
 have hl:(0:Int)<own.length:=by have:=fG.mpr ho;omega
 have ha0:all≠[]:=λz=>by rw[z]at ha;simp at ha
 have hx:=EZ (BF (rF (c:=c) (f:=16807) hl) (rf (c:=c) (f:=16807) hl));have p0:=rF (c:=c) (f:=39373) (m:=all.length) (by omega);have p1:=rf (c:=c) (f:=39373) (m:=all.length) (by omega);have e0:=rF (c:=c) (f:=742938285) (m:=(all.length:Int) - 1) (by omega);have e1:=rf (c:=c) (f:=742938285) (m:=(all.length:Int) - 1) (by omega);have z0:=fh (draw c 39373 all.length+1+draw c 742938285 ((all.length:Int) - 1)) (show(all.length:Int)≠0 by omega);have z1:=eX (draw c 39373 all.length+1+draw c 742938285 ((all.length:Int) - 1)) (show(0:Int)<all.length by omega);have hy:=EZ (BF p0 p1);have hzz:=EZ (BF z0 z1);have ne:BO all (draw c 39373 all.length)≠BO all ((draw c 39373 all.length+1+draw c 742938285 ((all.length:Int) - 1)) % all.length):=λz=>by
  have q:=J9 na p0 p1 z0 z1 z;have q2:(draw c 39373 all.length+0) % (all.length:Int)=(draw c 39373 all.length+(1+draw c 742938285 ((all.length:Int) - 1))) % (all.length:Int):=by rw[Int.add_zero,Int.emod_eq_of_lt p0 p1,<-Int.add_assoc];exact q
  have:=Jl (by omega) (by omega) (by omega) (by omega) (by omega) q2;omega
 have f0:=rF (c:=c) (f:=22695477) (m:=24) (by decide);have f1:=rf (c:=c) (f:=22695477) (m:=24) (by decide);have g0:=rF (c:=c) (f:=48271) (m:=23) (by decide);have g1:=rf (c:=c) (f:=48271) (m:=23) (by decide);have t0:=rF (c:=c) (f:=950706376) (m:=5) (by decide);have t1:=rf (c:=c) (f:=950706376) (m:=5) (by decide);unfold wO;simp only;split
 .exact⟨hx,B5 ha0 (by decide) (by decide),yd na ha0 (by decide) (by decide)⟩
 .split
  .exact⟨hy,B5 ho (by decide) (by decide),yd no ho (by decide) (by decide)⟩
  .split
   .exact⟨hy,hzz,ne⟩
   .split
    .refine⟨hy,hzz,ne,⟨f0,by omega⟩,⟨fh _ (by decide),?_⟩,?_⟩
     .have:=eX (draw c 22695477 24+1+draw c 48271 23) (show(0:Int)<24 by decide);omega
     .omega
    .split
     .exact⟨hy,hzz,ne⟩
     .split
      .refine⟨hy,hzz,ne,?_⟩;generalize draw c 950706376 5=d at t0 t1;have:d=0\/d=1\/d=2\/d=3\/d=4:=by omega
       rcases this with z|z|z|z|z<;>(subst z;decide)
      .split
       .exact hx
       .exact hx
def NN(s:Int)(i:Nat):Gc (wF s i):=by
 have t0:=rF (c:=s+17*(0+(i:Nat))*(0+(i:Nat))) (f:=16807) (m:=5) (by decide);have t1:=rf (c:=s+17*(0+(i:Nat))*(0+(i:Nat))) (f:=16807) (m:=5) (by decide);have u0:=rF (c:=s+17*(0+(i:Nat))*(0+(i:Nat))) (f:=39373) (m:=6) (by decide);have u1:=rf (c:=s+17*(0+(i:Nat))*(0+(i:Nat))) (f:=39373) (m:=6) (by decide);have a:1<=(wF s i).2.1/\(wF s i).2.1<=3:=by
  show 1<=Ha OT (draw (s+17*(0+(i:Nat))*(0+(i:Nat))) 16807 5)/\Ha OT (draw (s+17*(0+(i:Nat))*(0+(i:Nat))) 16807 5)<=3;generalize draw (s+17*(0+(i:Nat))*(0+(i:Nat))) 16807 5=d at t0 t1;have:d=0\/d=1\/d=2\/d=3\/d=4:=by omega
  rcases this with z|z|z|z|z<;>(subst z;decide)
 have b:0<=(wF s i).2.2/\(wF s i).2.2<=9:=by
  show 0<=Ha Pp (draw (s+17*(0+(i:Nat))*(0+(i:Nat))) 39373 6)/\Ha Pp (draw (s+17*(0+(i:Nat))*(0+(i:Nat))) 39373 6)<=9;generalize draw (s+17*(0+(i:Nat))*(0+(i:Nat))) 39373 6=d at u0 u1;have:d=0\/d=1\/d=2\/d=3\/d=4\/d=5:=by omega
  rcases this with z|z|z|z|z|z<;>(subst z;decide)
 exact⟨eD (C7 s (0+(i:Nat))).2 (by decide),DW _ _,a.1,a.2,b.1,b.2⟩
def NT{s:Int}{own:QQQ}(nd:own.Nodup)(hr:own≠[])(i:Nat):EO own (Ah s own i):=by
 have t0:=rF (c:=s+5*(0+(i:Nat))) (f:=742938285) (m:=2) (by decide);have t1:=rf (c:=s+5*(0+(i:Nat))) (f:=742938285) (m:=2) (by decide);refine⟨eD (C7 s (8+(0+(i:Nat)))).2 (by decide),DW _ _,?_,B5 hr (by decide) (by decide),yd nd hr (by decide) (by decide)⟩;show BO OZ (draw (s+5*(0+(i:Nat))) 742938285 2)="all"\/BO OZ (draw (s+5*(0+(i:Nat))) 742938285 2)="turns";generalize draw (s+5*(0+(i:Nat))) 742938285 2=d at t0 t1;have:d=0\/d=1:=by omega
 rcases this with z|z
 .subst z;exact .inl Z'
 .subst z;exact .inr Z'
def MO(s m:Int):(qS s m).map (·.1)=(List.range (rY s m)).map λi=>yc s (0+(i:Nat)):=by unfold qS;rw[eA];rfl
def G0{s m:Int}(h2:2<=m)(h8:m<=8):((qS s m).map (·.1)).Nodup/\∀own,((qS s m).map (·.1)++(rG s own).map (·.1)).Nodup:=by
 have d1:=rf (c:=s) (f:=48271) (m:=m - 1) (by omega);have d0:=rF (c:=s) (f:=48271) (m:=m - 1) (by omega);have p8:rY s m<=8:=by unfold rY;omega
 have g3:=xh (s:=s);have a:((qS s m).map (·.1)).Nodup:=by rw[MO];refine AB _ _ λi j hi hj e=>?_;have:=Cq (by omega) (by omega) (by omega) (by omega) e;omega
 refine⟨a,λown=>?_⟩;have ge:(rG s own).map (·.1)=(List.range (wg s)).map λi=>yc s (8+(0+(i:Nat))):=by unfold rG;rw[eA];rfl
 rw[fY];refine⟨a,?_,λx hx y hy e=>?_⟩
 .rw[ge];refine AB _ _ λi j hi hj e=>?_;have:=Cq (by omega) (by omega) (by omega) (by omega) e;omega
 .rw[MO]at hx;rw[ge]at hy;obtain⟨i,hi,rfl⟩:=dI.mp hx;obtain⟨j,hj,rfl⟩:=dI.mp hy;have hi:=fW.mp hi;have hj:=fW.mp hj;have:=Cq (by omega) (by omega) (by omega) (by omega) e;omega
def QY{m:Int}(h2:2<=m)(h8:m<=8):sj (vO ns m):=by
 obtain⟨n1,n2⟩:=G0 (s:=cell ns 0) h2 h8;have pl:=xo (s:=cell ns 0) h2 (by omega);have p8:rY (cell ns 0) m<=8:=by have d1:=rf (c:=cell ns 0) (f:=48271) (m:=m - 1) (by omega);unfold rY;omega
 have lp:(qS (cell ns 0) m).length=rY (cell ns 0) m:=by unfold qS;rw[c9,eI]
 have ol:((qS (cell ns 0) m).map (·.1)).length=rY (cell ns 0) m:=by rw[c9,lp]
 have one:(qS (cell ns 0) m).map (·.1)≠[]:=λz=>by rw[z]at ol;have:0=rY (cell ns 0) m:=ol;omega
 have gl:(rG (cell ns 0) ((qS (cell ns 0) m).map (·.1))).length=wg (cell ns 0):=by unfold rG;rw[c9,eI]
 refine⟨?_,?_,λp hp=>?_,?_,λg hg=>?_,n2 _,?_,λv hv=>?_⟩
 .show 1<=(qS (cell ns 0) m).length;omega
 .show(qS (cell ns 0) m).length<=8;omega
 .obtain⟨i,_,rfl⟩:=dI.mp hp;exact NN _ i
 .show(rG (cell ns 0) ((qS (cell ns 0) m).map (·.1))).length<=3;rw[gl];exact xh
 .obtain⟨i,_,rfl⟩:=dI.mp hg;exact NT n1 one i
 .show((List.range (xt (cell ns 0))).map _).length<=16;rw[c9,eI];have d1:=rf (c:=cell ns 0) (f:=950706376) (m:=11) (by decide);unfold xt;omega
 .obtain⟨i,hi,rfl⟩:=dI.mp hv;refine Ql n1 (n2 _) one ?_;show 2<=((qS (cell ns 0) m).map (·.1)++_).length;rw[dg,ol];omega
structure pU where
 st:Str
 cr:Str
 way:QQQ
 at_:QQQ
 ms:QQQ
 hd:Option Str
 si:Int
 wd:Option Str
structure sJ where
 i:Nat
 f:Str
 g:Str
 y:Str
inductive Ev
 | new (n:Nat) (x:Str)
 | leg (v:sJ)
 | asks (i:Nat) (z:Str) (ns:List Nat)
 | next (z:Str) (n:Int)
 | merge (i j:Nat) (ms:QQQ)
 | turn
 | sw (b:Bool) (i:Nat)
 | rings (i:Nat) (ps:QQQ)
 | quiet (i:Nat)
 | waits (i:Nat) (x:Str)
 | talks (i:Nat) (ms:QQQ)
 | held (i:Nat) (x:Str)
 | leaves (i:Nat) (x:Str)
 | over (i:Nat) (w:Str)
structure qT where
 p:Uf
 h:Int
 t:Int
 calls:List pU
 nI:List sJ
 ps:List (Str×Int)
 on:List Bool
 log:List Ev
 fo:QXQ
noncomputable def yt(ns:T0 Nat):D:=.tup (ns.map λn=>D.int (n:Nat))
noncomputable def sJ.d(v:sJ):D:=.tup [.int (v.i:Nat),.str v.f,.str v.g,.str v.y]
noncomputable def Vs(b:Bool):Str:=if b=pc then "on" else "off"
def Ev.d:Ev->D
 | .new n x=>.tup [.str "new",.int (n:Nat),.str x]
 | .leg v=>.tup [.str "leg",.int (v.i:Nat),.str v.f,.str v.g,.str v.y]
 | .asks i z ns=>.tup [.str "asks",.int (i:Nat),.str z,yt ns]
 | .next z n=>.tup [.str "next",.str z,.int n]
 | .merge i j ms=>.tup [.str "merge",.int (i:Nat),.int (j:Nat),names ms]
 | .turn=>.tup [.str "turn"]
 | .sw b i=>.tup [.str (Vs b),.int (i:Nat)]
 | .rings i ps=>.tup [.str "rings",.int (i:Nat),names ps]
 | .quiet i=>.tup [.str "quiet",.int (i:Nat)]
 | .waits i x=>.tup [.str "waits",.int (i:Nat),.str x]
 | .talks i ms=>.tup [.str "talks",.int (i:Nat),names ms]
 | .held i x=>.tup [.str "held",.int (i:Nat),.str x]
 | .leaves i x=>.tup [.str "leaves",.int (i:Nat),.str x]
 | .over i w=>.tup [.str "over",.int (i:Nat),.str w]
noncomputable def hasS(ss:QQQ)(x:Str):Bool:=ss.any (·==x)
noncomputable def r6(ss:QQQ)(x:Str):QQQ:=ss.filter λy=>!(y==x)
noncomputable def zy(x:Str):pU:=⟨"rings",x,[],[],[],Db,0,Db⟩
noncomputable def pU.over(c:pU)(w:Str):pU:={c with st:="over",wd:=some w,at_:=[],ms:=[],hd:=none}
def pU.drop(c:pU)(x:Str):pU:={c with at_:=r6 c.at_ x,ms:=r6 c.ms x}
noncomputable def pU.ring(c:pU)(ps:QQQ):pU:={c with st:="rings",at_:=ps,si:=0}
noncomputable def pU.og(c:pU)(ms:QQQ):pU:={c with st:="talks",ms:=ms,at_:=[],hd:=none}
noncomputable def pU.wait(c:pU)(x:Str):pU:={c with st:="waits",at_:=[x]}
noncomputable def pU.hold(c:pU)(x:Str):pU:={c with st:="held",hd:=some x}
noncomputable def pU.oo(c:pU):pU:={c with at_:=[]}
noncomputable def pU.mem(c:pU)(ms:QQQ):pU:={c with ms:=ms}
noncomputable def pU.go(c:pU)(g:Str):pU:={c with way:=c.way++[g]}
noncomputable def pU.tick(c:pU):pU:=if (c.st=="rings")=pc then{c with si:=c.si+1}else c
noncomputable def sJ.to(m k:Nat)(v:sJ):sJ:=if v.i=m then{v with i:=k}else v
noncomputable def B4(ps:T0 (Str×Int))(z:Str)(n:Int):T0 (Str×Int):=if ps.any (λp=>decide (p.1=z))=pc then ps.map (λp=>if p.1=z then(p.1,n)else p)else ps++[(z,n)]
noncomputable def ye(V:qT)(i:Nat)(f:pU->pU):qT:={V with calls:=V.calls.modify i f}
noncomputable def rj(V:qT)(e:Ev):qT:={V with log:=V.log++[e]}
def U5(V:qT):Ev->qT
 | .new _ x=>{V with calls:=V.calls++[zy x]}
 | .leg v=>{V with nI:=V.nI++[v],calls:=V.calls.modify v.i (·.go v.g)}
 | .asks _ _ _=>V
 | .next z n=>{V with ps:=B4 V.ps z n}
 | .merge i j ms=>{V with calls:=(V.calls.modify i (·.over "merged")).modify j (·.mem ms),nI:=V.nI.map (sJ.to i j)}
 | .turn=>{V with t:=V.t+1,calls:=V.calls.map pU.tick}
 | .sw b i=>{V with on:=V.on.set i b}
 | .rings i ps=>ye V i (·.ring ps)
 | .quiet i=>ye V i pU.oo
 | .waits i x=>ye V i (·.wait x)
 | .talks i ms=>ye V i (·.og ms)
 | .held i x=>ye V i (·.hold x)
 | .leaves i x=>ye V i (·.drop x)
 | .over i w=>ye V i (·.over w)
def qH(V:qT)(e:Ev):qT:=U5 (rj V e) e
def rc(V:qT)(es:T0 Ev):qT:=es.foldl qH V
def Ev.ok(V:qT):Ev->Prop
 | .new _ _=>True
 | .leg v=>v.i<V.calls.length
 | .asks _ _ _=>True
 | .next _ _=>True
 | .merge i j ms=>i<V.calls.length/\j<V.calls.length/\i≠j/\ms.length<=100
 | .turn=>True
 | .sw _ i=>i<V.on.length
 | .rings i ps=>i<V.calls.length/\ps.length<=100
 | .quiet i=>i<V.calls.length
 | .waits i _=>i<V.calls.length
 | .talks i ms=>i<V.calls.length/\ms.length<=100
 | .held i _=>i<V.calls.length
 | .leaves i _=>i<V.calls.length
 | .over i _=>i<V.calls.length
def se(V:qT)(es fs:T0 Ev):rc V (es++fs)=rc (rc V es) fs:=lP ..
theorem JX:∀(es:T0 Ev) (V:qT),(rc V es).log=V.log++es
 | [],V=>(e9 _).symm
 | e::r,V=>by
  show(rc (qH V e) r).log=_;rw[JX r];have:(qH V e).log=V.log++[e]:=by cases e<;>rfl
  rw[this,fz];rfl
def pU.nq(c:pU)(x:Str):Bool:=(c.st=="talks")&&hasS c.ms x
def pU.hasB(c:pU)(x:Str):Bool:=if (c.st=="rings")=pc then(x==c.cr)||hasS c.at_ x else if (c.st=="waits")=pc then x==c.cr else(c.st=="talks"||c.st=="held")&&hasS c.ms x
def pU.nG(c:pU)(x:Str):Bool:=if (c.st=="held")=pc then hasS c.ms x&&!((c.hd==Fa x))else c.nq x
noncomputable def pU.nE(c:pU)(x:Str):Bool:=(c.st=="rings"||c.st=="waits")&&(x==c.cr)
def pU.ny(c:pU)(x:Str):Bool:=(c.st=="waits")&&hasS c.at_ x
def pU.nY(c:pU)(x:Str):Bool:=c.nE x||(hasS c.at_ x||hasS c.ms x)
noncomputable def pU.nH(c:pU)(x:Str):Bool:=c.nq x&&(c.ms.length==2)
noncomputable def uU(V:qT)(x:Str):Nat:=(V.calls.filter (·.hasB x)).length
noncomputable def xx(l:qc)(x:Str):Int:=(l.nM x).elim 0 λv=>v.2.1
noncomputable def wm(l:qc)(x:Str):Int:=(l.nM x).elim 0 λv=>v.2.2
def tN(l:qc)(V:qT)(x:Str):Bool:=decide ((uU V x:Int)<xx l x)
def uR(l:qc)(V:qT)(c z:Str):QQQ:=(l.ng z).filter λx=>!(x==c)&&tN l V x
def yf(l:qc)(V:qT)(c z:Str):Bool:=(uR l V c z).isEmpty
noncomputable def vU(V:qT)(x:Str):Option Nat:=V.calls.findIdx? (·.nq x)
noncomputable def AH(V:qT)(x:Str):Option Nat:=V.calls.findIdx? (·.nG x)
noncomputable def GC(V:qT)(x:Str):Option Nat:=V.calls.findIdx? (·.nE x)
noncomputable def zV(V:qT)(x:Str):Bool:=V.calls.any (·.ny x)
noncomputable def Ja:Option Nat->D
 | none=>.nz
 | some j=>.int (j:Nat)
noncomputable def FW(f l h:Int):Bool:=if f<l then decide (f<=h)&&decide (h<l)else decide (h>=f)||decide (h<l)
def IC(l:qc)(x:Str)(ms:QQQ):Bool:=ms.all λm=>decide (wm l m<wm l x)
def Ii(l:qc)(V:qT)(x c z:Str):Bool:=if (!(c==x)||(z==x))=pc then lf else if (!(hasS l.pn z)||!(yf l V c z))=pc then lf else((vU V z).bind (V.calls[·]?)).elim lf λk=>(k.ms.length==2)&&IC l x k.ms
def Bh(l:qc)(V:qT)(c z:Str):Wi->Bool
 | .bar x ns=>(c==x)&&hasS ns z
 | .shut x ns=>(z==x)&&hasS ns c
 | .always x _=>z==x
 | .night x _ f m=>(z==x)&&FW f m ((V.h+V.t) % 24)
 | .busy x _=>(z==x)&&yf l V c z
 | .silent _ _ _=>lf
 | .wait x=>if (!(z==x)||(c==x))=pc then lf else yf l V c z&&!(zV V z)
 | .breaks x=>Ii l V x c z
noncomputable def Hg(c:pU):Wi->Bool
 | .silent x _ n=>(c.way.getLast?==Fa x)&&decide (n<=c.si)
 | _=>lf
noncomputable def HZ(l:qc)(V:qT)(f:Wi->Bool):T0 Nat:=(List.range V.on.length).filter λi=>V.on.getD i lf&&(l.nk[i]?).elim lf λw=>f w.2
def DZ(l:qc)(V:qT)(c z:Str):T0 Nat:=HZ l V (Bh l V c z)
noncomputable def vw(ms:QQQ)(n:Nat):QQQ:=ms.drop n++ms.take n
noncomputable def zH(V:qT)(z:Str):Nat:=((V.ps.find? λp=>decide (p.1=z)).elim 0 λp=>p.2).toNat
def yh(l:qc)(V:qT)(c z:Str):QQQ:=if (l.nC z=="turns")=pc then((vw (l.ng z) (zH V z)).filter λx=>hasS (uR l V c z) x).take 1 else uR l V c z
inductive wB
 | engaged (z:Str)
 | rings (z:Str) (ps:QQQ)
 | waits (z:Str)
 | breaks (z:Str)
 | barred
 | ring (ns:QQQ)
noncomputable def wB.d:wB->D
 | .engaged z=>.tup [.str "engaged",.str z]
 | .rings z ps=>.tup [.str "rings",.str z,names ps]
 | .waits z=>.tup [.str "waits",.str z]
 | .breaks z=>.tup [.str "breaks",.str z]
 | .barred=>.tup [.str "barred"]
 | .ring ns=>.tup [.str "ring",names ns]
def IU(l:qc)(V:qT)(c z:Str):wB:=match yh l V c z with
 | []=>.engaged z
 | x::r=>.rings z (x::r)
noncomputable def Ju(z:Str):Wi->Sum wB Str
 | .bar _ _=>.inl .barred
 | .shut _ _=>.inl .barred
 | .always _ y=>.inr y
 | .night _ y _ _=>.inr y
 | .busy _ y=>.inr y
 | .silent _ y _=>.inr y
 | .wait _=>.inl (.waits z)
 | .breaks _=>.inl (.breaks z)
abbrev tQ:=T0 (Str×T0 Nat)
def xf(l:qc)(V:qT)(c:Str):Nat->Str->QQQ->tQ->wB×tQ
 | 0,_,_,st=>(.barred,st)
 | n+1,z,way,st=>if hasS way z=pc then(.ring (way.drop (way.findIdx (·==z))),st)else
  match DZ l V c z with
  | []=>(IU l V c z,st++[(z,[])])
  | i::r=>(l.nk[i]?).elim (.barred,st) λw=>match Ju z w.2 with
   | .inl e=>(e,st++[(z,i::r)])
   | .inr y=>xf l V c n y (way++[z]) (st++[(z,i::r)])
def vt(l:qc)(V:qT)(c z:Str)(way:QQQ):wB×tQ:=xf l V c (l.nm.length+1) z way []
noncomputable def sd(i:Nat):Option Str->tQ->T0 Ev
 | _,[]=>[]
 | none,(z,fs)::r=>.asks i z fs::sd i (Fa z) r
 | some y,(z,fs)::r=>.leg ⟨i,y,z,y⟩::.asks i z fs::sd i (Fa z) r
noncomputable def RB(ms:QQQ)(x:Str):Int:=((ms.findIdx (·==x):Nat)+1) % (ms.length:Int)
def tV(l:qc)(V:qT)(i:Nat):wB->T0 Ev
 | .rings z ps=>(if (l.nC z=="turns")=pc then[.next z (RB (l.ng z) (ps.headD Str.empty))]else[])++[.rings i ps]
 | .waits z=>[.waits i z]
 | .breaks z=>match vU V z,V.calls[i]? with
  | some j,Fa c=>[.merge i j ((V.calls[j]?).elim [] (·.ms)++[c.cr])]
  | _,_=>[]
 | .engaged _=>[.over i "engaged"]
 | .barred=>[.over i "barred"]
 | .ring _=>[.over i "ring"]
noncomputable def uB(i:Nat)(st:tQ):wB->T0 Ev
 | .ring ns=>(st.getLast?).elim [] λs=>[.leg ⟨i,s.1,ns.headD Str.empty,s.1⟩]
 | _=>[]
def xH(l:qc)(V:qT)(i:Nat):T0 Ev:=(V.calls[i]?).elim [] λc=>
 let r:=vt l V c.cr (c.way.getLastD Str.empty) c.way.dropLast
 sd i Db r.2++(uB i r.2 r.1++tV l V i r.1)
def Fc(l:qc)(V:qT)(y z:Str):T0 Ev:=
 let es:=[Ev.new V.calls.length y,.leg ⟨V.calls.length,y,z,y⟩]
 es++xH l (rc V es) V.calls.length
def xl(V:qT)(x:Str)(i:Nat):T0 Ev:=(V.calls[i]?).elim [] λc=>if c.nE x=pc then[.over i "left"]else if hasS c.at_ x=pc then .leaves i x::(if r6 c.at_ x=[]then[.over i "refused"]else[])else if 2<c.ms.length then[.leaves i x]else[.over i "done"]
def uD(l:qc)(V:qT)(i:Nat)(fs:T0 Nat):T0 Ev:=match fs.head?.bind (l.nk[·]?)with
 | some (_,.silent x y _)=>
  let es:=[Ev.asks i x fs,.quiet i,.leg ⟨i,x,y,x⟩]
  es++xH l (rc V es) i
 | _=>[]
def Ac(l:qc)(V:qT)(i:Nat):T0 Nat:=(V.calls[i]?).elim [] λc=>if (c.st=="rings")=pc then HZ l V (Hg c)else[]
def sy(l:qc):T0 Nat->qT->T0 Ev
 | [],_=>[]
 | i::r,V=>uD l V i (Ac l V i)++sy l r (rc V (uD l V i (Ac l V i)))
def Fs(l:qc)(V:qT):T0 Ev:=.turn::sy l (List.range V.calls.length) (qH V .turn)
inductive uK
 | call (y z:Str)
 | num (w x:Str) (ns:List Int)
 | turn
 | sw (b:Bool) (i:Int)
def uK.d:uK->D
 | .call y z=>.tup [.str "call",.str y,.str z]
 | .num w x ns=>.tup (.str w::.str x::ns.map D.int)
 | .turn=>.tup [.str "turn"]
 | .sw b i=>.tup [.str (Vs b),.int i]
def uK.nX:uK->Prop
 | .num w _ ns=>((w="answer"\/w="hang"\/w="hold"\/w="back")/\ns.length=1)\/((w="hand"\/w="join")/\ns.length=2)
 | _=>True
def uZ(V:qT)(x:Str):Option Str:=if (AH V x).isSome=pc then Fa "bound" else if (GC V x).isSome=pc then Fa "calls" else Db
noncomputable def zA(n:Nat)(i:Int):Bool:=decide (0<=i)&&decide (i<(n:Int))
def J8(w x:Str):List pU->Bool
 | []=>lf
 | c::r=>if (w=="answer")=pc then hasS c.at_ x else if (w=="hang")=pc then c.nY x else if (w=="hold")=pc then c.nH x else if (w=="back")=pc then c.hd==Fa x else(c.hd==Fa x)&&(r.head?.elim lf λd=>d.nH x)
noncomputable def ug(V:qT)(ns:T0 Int):List pU:=ns.filterMap λi=>V.calls[i.toNat]?
def Hx(l:qc)(V:qT)(y z:Str):Option Str:=if hasS l.nm z=lf then Fa "name" else if ((uZ V y).isNone&&!(tN l V y))=pc then Fa "full" else uZ V y
def Mq(l:qc)(V:qT)(w x:Str)(ns:T0 Int):Option Str:=if ns.all (zA V.calls.length)=lf then Fa "call" else if J8 w x (ug V ns)=lf then Fa "call" else if (w=="answer"||w=="back")=lf then Db else
 if ((uZ V x).isNone&&((ug V ns).head?.elim lf (λc=>c.ny x)&&!(tN l V x)))=pc then Fa "full" else uZ V x
def P7(V:qT)(b:Bool)(i:Int):Option Str:=if zA V.on.length i=lf then Fa "wish" else if (V.on.getD i.toNat lf==b)=pc then Fa "wish" else Db
def xX(l:qc)(V:qT):uK->Option Str
 | .turn=>Db
 | .sw b i=>P7 V b i
 | .call y z=>if hasS l.pn y=lf then Fa "name" else Hx l V y z
 | .num w x ns=>if hasS l.pn x=lf then Fa "name" else Mq l V w x ns
def qX(c:pU)(x:Str):Str:=(r6 c.ms x).headD Str.empty
noncomputable def Fh(V:qT)(w x:Str)(i:Nat):Ev:=(V.calls[i]?).elim .turn λc=>if (w=="answer")=pc then .talks i [c.cr,x]else if (w=="hold")=pc then .held i x else .talks i c.ms
def GE(V:qT)(w x:Str)(i j:Nat):Ev:=(V.calls[i]?).elim .turn λc=>(V.calls[j]?).elim .turn λd=>.merge i j (if (w=="hand")=pc then[qX c x,qX d x]else[x,qX c x,qX d x])
def xW(l:qc)(V:qT):uK->T0 Ev
 | .call y z=>Fc l V y z
 | .num w x [i]=>if (w=="hang")=pc then xl V x i.toNat else[Fh V w x i.toNat]
 | .num w x [i,j]=>[GE V w x i.toNat j.toNat]
 | .num _ _ _=>[]
 | .turn=>Fs l V
 | .sw b i=>[.sw b i.toNat]
structure rR where
 p:Uf
 wy:Uf
structure ui where
 b:Uf
 ca:Uf
 le:Uf
 nx:Uf
 on:Uf
 lo:Uf
 cs:List rR
noncomputable def Di:Option Str->D
 | none=>.nz
 | some x=>.str x
def rN(c:pU)(wy ad md:Uf):T0 (Str×D):=[("state",.str c.st),("caller",.str c.cr),("way",.ref wy),("at",.ref ad),("members",.ref md),("holder",Di c.hd),("since",.int c.si),("word",Di c.wd)]
noncomputable def um(p:D)(h t:Int)(ca le nx on lo:Uf):T0 (Str×D):=[("plan",p),("hour",.int h),("turn",.int t),("calls",.ref ca),("legs",.ref le),("nexts",.ref nx),("on",.ref on),("log",.ref lo)]
noncomputable def tX(ps:T0 (Str×Int)):T0 (rH×D):=ps.map λp=>((Sum.inr p.1:rH),D.int p.2)
noncomputable def ui.lists(A:ui):QXQ:=A.ca::A.le::A.on::A.lo::A.cs.map (·.wy)
noncomputable def ui.foot(A:ui):QXQ:=A.b::A.nx::(A.lists++A.cs.map (·.p))
def rV(a:Ad)(M:Mp)(L:QXQ)(k:rR)(c:pU):Prop:=AU λad md=>M k.p=Fa (.ins a.e (rN c k.wy ad md))/\pI M k.wy=Fa (c.way.map D.str)/\pI M ad=Fa (c.at_.map D.str)/\pI M md=Fa (c.ms.map D.str)/\ad∉L/\md∉L
structure qh(a:Ad)(M:Mp)(A:ui)(V:qT):Prop where
 at_:M A.b=Fa (.ins a.c (um (.ref V.p) V.h V.t A.ca A.le A.nx A.on A.lo))
 ca:pI M A.ca=Fa (A.cs.map λk=>D.ref k.p)
 le:pI M A.le=Fa (V.nI.map sJ.d)
 nx:zU M A.nx=Fa (tX V.ps)
 on:pI M A.on=Fa (V.on.map D.bl)
 lo:pI M A.lo=Fa (V.log.map Ev.d)
 len:A.cs.length=V.calls.length
 cs:∀(i:Nat) k c,A.cs[i]?=Fa k->V.calls[i]?=Fa c->rV a M (A.lists++V.fo) k c
 nl:A.lists.Nodup
 np:(A.b::A.cs.map (·.p)).Nodup
 fo:∀x∈V.fo,∃c,M x=Fa c
def xn{F:QXQ}{M:Mp}{p:Uf}{c:vm}(h:∀x∈F,∃c,M x=Fa c):∀x∈F,∃d,pX M p c x=Fa d:=λx hx=>by
 by_cases z:x=p
 .exact⟨c,by rw[z];exact qp⟩
 .obtain⟨d,e⟩:=h x hx;exact⟨d,sT.put x d z e⟩
def rV.sub{k:rR}{c:pU}(h:rV a M L k c)(s:qQ M M'):rV a M' L k c:=by obtain⟨ad,md,h1,h2,h3,h4,h5⟩:=h;exact⟨ad,md,s _ _ h1,s.lst h2,s.lst h3,s.lst h4,h5⟩
def qh.sub{A:ui}{V:qT}(h:qh a M A V)(s:qQ M M'):qh a M' A V:=⟨s _ _ h.at_,s.lst h.ca,s.lst h.le,s.dk h.nx,s.lst h.on,s.lst h.lo,h.len,λi k c e1 e2=>(h.cs i k c e1 e2).sub s,h.nl,h.np,λx hx=>(h.fo x hx).imp λc e=>s x c e⟩
def rV.oF{k:rR}{c:pU}{x:Uf}{ds:T0 D}(h:rV a M L k c)(kp:sT x M M')(hl:pI M x=Fa ds)(hx:x∈L)(hn:k.wy≠x):rV a M' L k c:=by obtain⟨ad,md,h1,h2,h3,h4,h5,h6⟩:=h;exact⟨ad,md,kp _ _ (λz=>by rw[z,qM hl]at h1;cases h1) h1,kp.lst hn h2,kp.lst (λz=>h5 (z ▸ hx)) h3,kp.lst (λz=>h6 (z ▸ hx)) h4,h5,h6⟩
def rV.oN{k:rR}{c:pU}{x C:Uf}{fs:T0 (Str×D)}(h:rV a M L k c)(kp:sT x M M')(hi:M x=Fa (.ins C fs))(hn:k.p≠x):rV a M' L k c:=by obtain⟨ad,md,h1,h2,h3,h4,h5⟩:=h;exact⟨ad,md,kp _ _ hn h1,kp.lst (qu h2 hi) h2,kp.lst (qu h3 hi) h3,kp.lst (qu h4 hi) h4,h5⟩
def vn{a p:Uf}{ds:T0 (rH×D)}{es:T0 D}(h:zU M a=Fa ds)(hp:pI M p=Fa es):a≠p:=λz=>by subst z;unfold zU at h;rw[qM hp]at h;cases h
def rV.pH{k:rR}{c:pU}{x:Uf}{ds:T0 (rH×D)}(h:rV a M L k c)(kp:sT x M M')(hd:zU M x=Fa ds):rV a M' L k c:=by obtain⟨ad,md,h1,h2,h3,h4,h5⟩:=h;exact⟨ad,md,kp _ _ (λz=>by rw[z,zP hd]at h1;cases h1) h1,kp.lst (dW (vn hd h2)) h2,kp.lst (dW (vn hd h3)) h3,kp.lst (dW (vn hd h4)) h4,h5⟩
def rE{α:Type}{l:List α}{i:Nat}{x:α}(h:l[i]?=Fa x):x∈l:=fA h
def qh.ne{A:ui}{V:qT}(h:qh a M A V):A.ca≠A.le/\A.ca≠A.on/\A.ca≠A.lo/\A.le≠A.on/\A.le≠A.lo/\A.on≠A.lo/\∀k∈A.cs,k.wy≠A.ca/\k.wy≠A.le/\k.wy≠A.on/\k.wy≠A.lo:=by
 have n:=h.nl;unfold ui.lists at n;obtain⟨n1,n⟩:=dZ.mp n;obtain⟨n2,n⟩:=dZ.mp n;obtain⟨n3,n⟩:=dZ.mp n;obtain⟨n4,n⟩:=dZ.mp n;have w:∀k∈A.cs,k.wy∈A.cs.map (·.wy):=λk hk=>dI.mpr ⟨k,hk,Z'⟩;refine⟨λz=>n1 (z ▸ by simp),λz=>n1 (z ▸ by simp),λz=>n1 (z ▸ by simp),λz=>n2 (z ▸ by simp),λz=>n2 (z ▸ by simp),λz=>n3 (z ▸ by simp),λk hk=>⟨λz=>n1 ?_,λz=>n2 ?_,λz=>n3 ?_,λz=>n4 ?_⟩⟩
 .rw[<-z];exact dM _ (dM _ (dM _ (w k hk)))
 .rw[<-z];exact dM _ (dM _ (w k hk))
 .rw[<-z];exact dM _ (w k hk)
 .rw[<-z];exact w k hk
def qh.oV{A:ui}{V:qT}(_:qh a M A V):A.ca∈A.lists/\A.le∈A.lists/\A.lo∈A.lists/\(∀k∈A.cs,k.wy∈A.lists)/\A.on∈A.lists:=by unfold ui.lists;refine⟨by simp,by simp,by simp,?_,by simp⟩;exact λk hk=>by simp;exact .inr (.inr (.inr (.inr ⟨k,hk,Z'⟩)))
def qh.pJ{A:ui}{V:qT}(h:qh a M A V):A.ca∈A.lists++V.fo/\A.le∈A.lists++V.fo/\A.lo∈A.lists++V.fo/\(∀k∈A.cs,k.wy∈A.lists++V.fo)/\A.on∈A.lists++V.fo:=by obtain⟨h1,h2,h3,h4,h5⟩:=h.oV;exact⟨fL _ h1,fL _ h2,fL _ h3,λk hk=>fL _ (h4 k hk),fL _ h5⟩
def rB(A:ui)(M:Mp)(A':ui)(M':Mp):Prop:=(∀x c,x∉A.foot->M x=Fa c->M' x=Fa c)/\(∀x∈A'.foot,x∈A.foot\/M x=Db)/\(∀(i:Nat) k,A.cs[i]?=Fa k->A'.cs[i]?=Fa k)/\∀x c,M x=Fa c->∃d,M' x=Fa d
def Fv{M:Mp}{p y:Uf}{c d:vm}(h:M y=Fa d):∃e,pX M p c y=Fa e:=by
 by_cases z:y=p
 .exact⟨c,by rw[z];exact qp⟩
 .exact⟨d,sT.put y d z h⟩
def rB.refl{A:ui}:rB A M A M:=⟨λ_ _ _ h=>h,λ_ h=>.inl h,λ_ _ h=>h,λ_ c h=>⟨c,h⟩⟩
def rB.trans{A A1 A2:ui}{M M1 M2:Mp}(s:rB A M A1 M1)(u:rB A1 M1 A2 M2):rB A M A2 M2:=by
 refine⟨λx c n h=>u.1 x c (λz=>?_) (s.1 x c n h),λx hx=>?_,λi k h=>u.2.2.1 i k (s.2.2.1 i k h),λx c h=>(s.2.2.2 x c h).elim λd e=>u.2.2.2 x d e⟩
 .rcases s.2.1 x z with y|y
  .exact n y
  .rw[y]at h;cases h
 .rcases u.2.1 x hx with z|z
  .exact s.2.1 x z
  .by_cases y:x∈A.foot
   .exact .inl y
   .refine .inr ?_;cases e:M x with
    | none=>rfl
    | some c=>rw[s.1 x c y e]at z;cases z
def rB.keep{A:ui}{x:Uf}{c:vm}(h:x∈A.foot)(k:sT x M (pX M x c)):rB A M A (pX M x c):=⟨λy c n e=>k y c (λz=>n (z ▸ h)) e,λ_ h=>.inl h,λ_ _ h=>h,λ_ _ h=>Fv h⟩
def rB.sub{A:ui}(s:qQ M M'):rB A M A M':=⟨λy c _ e=>s y c e,λ_ h=>.inl h,λ_ _ h=>h,λx c h=>⟨c,s x c h⟩⟩
def ui.nJ(A:ui):A.b∈A.foot/\A.nx∈A.foot/\A.ca∈A.foot/\A.le∈A.foot/\A.lo∈A.foot/\(∀k∈A.cs,k.p∈A.foot)/\∀k∈A.cs,k.wy∈A.foot:=by unfold ui.foot ui.lists;exact⟨by simp,by simp,by simp,by simp,by simp,λk hk=>by simp;exact .inr (.inr (.inr (.inr (.inr (.inr (.inr ⟨k,hk,Z'⟩)))))),λk hk=>by simp;exact .inr (.inr (.inr (.inr (.inr (.inr (.inl ⟨k,hk,Z'⟩))))))⟩
def ui.oE(A:ui){x:Uf}(h:x∈A.lists):x∈A.foot:=by unfold ui.foot;exact dM _ (dM _ (eB.mpr (.inl h)))
variable {M M1:Mp}{A:ui}{V:qT}
def Fk{α:Type}{l:List α}{i j:Nat}{x y:α}(h:(l.set i x)[j]?=Fa y):(j=i/\y=x/\i<l.length)\/(j≠i/\l[j]?=Fa y):=by
 by_cases z:j=i
 .subst z;by_cases hl:j<l.length
  .rw[eU hl]at h;exact .inl ⟨Z',(dB h).symm,hl⟩
  .rw[gN (by rw[iA];omega)]at h;cases h
 .rw[eZ (dW z)]at h;exact .inr ⟨z,h⟩
def IQ{α β:Type}{f:α->β}{l:List α}{i j:Nat}{x y:α}(nd:(l.map f).Nodup)(h1:l[i]?=Fa x)(h2:l[j]?=Fa y)(e:f x=f y):i=j:=by
 have e1:(l.map f)[i]?=Fa (f x):=by rw[dJ,h1];rfl
 have e2:(l.map f)[j]?=Fa (f y):=by rw[dJ,h2];rfl
 obtain⟨l1,q1⟩:=dh.mp e1;obtain⟨l2,q2⟩:=dh.mp e2;exact(ma nd).mp (q1.trans (e.trans q2.symm))
def qh.nw(h:qh a M A V):(A.cs.map (·.wy)).Nodup:=(dZ.mp (dZ.mp (dZ.mp (dZ.mp h.nl).2).2).2).2
def qh.pE(h:qh a M A V):(A.cs.map (·.p)).Nodup/\∀k∈A.cs,k.p≠A.b:=⟨(dZ.mp h.np).2,λk hk z=>(dZ.mp h.np).1 (z ▸ dI.mpr ⟨k,hk,Z'⟩)⟩
def qh.pj(h:qh a M A V){es:T0 Ev}:qh a (pX M A.lo (.lst (es.map Ev.d))) A {V with log:=es}/\rB A M A (pX M A.lo (.lst (es.map Ev.d))):=by have kp:sT A.lo M (pX M A.lo (.lst (es.map Ev.d))):=.put;obtain⟨n1,n2,n3,n4,n5,n6,nw⟩:=h.ne;exact⟨⟨kp _ _ (dW (qu h.lo h.at_)) h.at_,kp.lst n3 h.ca,kp.lst n5 h.le,kp.dk (vn h.nx h.lo) h.nx,kp.lst n6 h.on,pY,h.len,λi k c e1 e2=>(h.cs i k c e1 e2).oF kp h.lo h.pJ.2.2.1 (nw k (rE e1)).2.2.2,h.nl,h.np,xn h.fo⟩,.keep A.nJ.2.2.2.2.1 kp⟩
def qh.oS(h:qh a M A V){es:List sJ}:qh a (pX M A.le (.lst (es.map sJ.d))) A {V with nI:=es}/\rB A M A (pX M A.le (.lst (es.map sJ.d))):=by have kp:sT A.le M (pX M A.le (.lst (es.map sJ.d))):=.put;obtain⟨n1,n2,n3,n4,n5,n6,nw⟩:=h.ne;exact⟨⟨kp _ _ (dW (qu h.le h.at_)) h.at_,kp.lst n1 h.ca,pY,kp.dk (vn h.nx h.le) h.nx,kp.lst (dW n4) h.on,kp.lst (dW n5) h.lo,h.len,λi k c e1 e2=>(h.cs i k c e1 e2).oF kp h.le h.pJ.2.1 (nw k (rE e1)).2.1,h.nl,h.np,xn h.fo⟩,.keep A.nJ.2.2.2.1 kp⟩
def qh.pz(h:qh a M A V){bs:T0 Bool}:qh a (pX M A.on (.lst (bs.map D.bl))) A {V with on:=bs}/\rB A M A (pX M A.on (.lst (bs.map D.bl))):=by have kp:sT A.on M (pX M A.on (.lst (bs.map D.bl))):=.put;obtain⟨n1,n2,n3,n4,n5,n6,nw⟩:=h.ne;exact⟨⟨kp _ _ (dW (qu h.on h.at_)) h.at_,kp.lst n2 h.ca,kp.lst n4 h.le,kp.dk (vn h.nx h.on) h.nx,pY,kp.lst (dW n6) h.lo,h.len,λi k c e1 e2=>(h.cs i k c e1 e2).oF kp h.on h.pJ.2.2.2.2 (nw k (rE e1)).2.2.1,h.nl,h.np,xn h.fo⟩,.keep (A.oE h.oV.2.2.2.2) kp⟩
def qh.pF(h:qh a M A V){ps:T0 (Str×Int)}:qh a (pX M A.nx (.dk (tX ps))) A {V with ps:=ps}/\rB A M A (pX M A.nx (.dk (tX ps))):=by have kp:sT A.nx M (pX M A.nx (.dk (tX ps))):=.put;exact⟨⟨kp _ _ (dW (Ca h.nx h.at_)) h.at_,kp.lst (dW (vn h.nx h.ca)) h.ca,kp.lst (dW (vn h.nx h.le)) h.le,Ey qp,kp.lst (dW (vn h.nx h.on)) h.on,kp.lst (dW (vn h.nx h.lo)) h.lo,h.len,λi k c e1 e2=>(h.cs i k c e1 e2).pH kp h.nx,h.nl,h.np,xn h.fo⟩,.keep A.nJ.2.1 kp⟩
def qh.putT(h:qh a M A V){t:Int}:qh a (pX M A.b (.ins a.c (um (.ref V.p) V.h t A.ca A.le A.nx A.on A.lo))) A {V with t:=t}/\rB A M A (pX M A.b (.ins a.c (um (.ref V.p) V.h t A.ca A.le A.nx A.on A.lo))):=by have kp:sT A.b M (pX M A.b (.ins a.c (um (.ref V.p) V.h t A.ca A.le A.nx A.on A.lo))):=.put;exact⟨⟨qp,kp.lst (qu h.ca h.at_) h.ca,kp.lst (qu h.le h.at_) h.le,kp.dk (Ca h.nx h.at_) h.nx,kp.lst (qu h.on h.at_) h.on,kp.lst (qu h.lo h.at_) h.lo,h.len,λi k c e1 e2=>(h.cs i k c e1 e2).oN kp h.at_ (h.pE.2 k (rE e1)),h.nl,h.np,xn h.fo⟩,.keep A.nJ.1 kp⟩
def qh.oQ(h:qh a M A V){i:Nat}{k:rR}{c c':pU}{ad md:Uf}(e1:A.cs[i]?=Fa k)(e2:V.calls[i]?=Fa c)(ew:c'.way=c.way)(la:pI M ad=Fa (c'.at_.map D.str))(lm:pI M md=Fa (c'.ms.map D.str))(na:ad∉A.lists++V.fo)(nm:md∉A.lists++V.fo):
  qh a (pX M k.p (.ins a.e (rN c' k.wy ad md))) A {V with calls:=V.calls.set i c'}/\rB A M A (pX M k.p (.ins a.e (rN c' k.wy ad md))):=by
 have kp:sT k.p M (pX M k.p (.ins a.e (rN c' k.wy ad md))):=.put;obtain⟨_,_,h1,h2,_⟩:=h.cs i k c e1 e2;refine⟨⟨kp _ _ (dW (h.pE.2 k (rE e1))) h.at_,kp.lst (qu h.ca h1) h.ca,kp.lst (qu h.le h1) h.le,kp.dk (Ca h.nx h1) h.nx,kp.lst (qu h.on h1) h.on,kp.lst (qu h.lo h1) h.lo,by rw[h.len,iA],λj k' d f1 f2=>?_,h.nl,h.np,xn h.fo⟩,.keep (A.nJ.2.2.2.2.2.1 k (rE e1)) kp⟩;rcases Fk f2 with⟨rfl,rfl,_⟩|⟨hj,f2⟩
 .rw[e1]at f1;cases f1;exact⟨ad,md,qp,by rw[ew];exact kp.lst (qu h2 h1) h2,kp.lst (qu la h1) la,kp.lst (qu lm h1) lm,na,nm⟩
 .exact(h.cs j k' d f1 f2).oN kp h1 λz=>hj (IQ h.pE.1 f1 e1 z)
def qh.pk(h:qh a M A V){i:Nat}{k:rR}{c:pU}{ws:QQQ}(e1:A.cs[i]?=Fa k)(e2:V.calls[i]?=Fa c):
  qh a (pX M k.wy (.lst (ws.map D.str))) A {V with calls:=V.calls.set i {c with way:=ws}}/\rB A M A (pX M k.wy (.lst (ws.map D.str))):=by
 have kp:sT k.wy M (pX M k.wy (.lst (ws.map D.str))):=.put;obtain⟨ad,md,h1,h2,h3,h4,h5,h6⟩:=h.cs i k c e1 e2;obtain⟨n1,n2,n3,n4,n5,n6,nw⟩:=h.ne;obtain⟨w1,w2,w3,w4⟩:=nw k (rE e1);have kL:=h.pJ.2.2.2.1 k (rE e1);refine⟨⟨kp _ _ (dW (qu h2 h.at_)) h.at_,kp.lst (dW w1) h.ca,kp.lst (dW w2) h.le,kp.dk (vn h.nx h2) h.nx,kp.lst (dW w3) h.on,kp.lst (dW w4) h.lo,by rw[h.len,iA],λj k' d f1 f2=>?_,h.nl,h.np,xn h.fo⟩,.keep (A.nJ.2.2.2.2.2.2 k (rE e1)) kp⟩;rcases Fk f2 with⟨rfl,rfl,_⟩|⟨hj,f2⟩
 .rw[e1]at f1;cases f1;exact⟨ad,md,kp _ _ (dW (qu h2 h1)) h1,pY,kp.lst (λz=>h5 (z ▸ kL)) h3,kp.lst (λz=>h6 (z ▸ kL)) h4,h5,h6⟩
 .exact(h.cs j k' d f1 f2).oF kp h2 kL λz=>hj (IQ h.nw f1 e1 z)
noncomputable def ui.add(A:ui)(k:rR):ui:={A with cs:=A.cs++[k]}
def AJ(A:ui)(k:rR):(A.add k).lists=A.lists++[k.wy]:=by unfold ui.add ui.lists;rw[dY];rfl
def qh.dom(h:qh a M A V):(∀x∈A.lists,∃ds,pI M x=Fa ds)/\∀x∈A.foot,∃c,M x=Fa c:=by
 have hc:∀k∈A.cs,(∃ds,pI M k.wy=Fa ds)/\∃c,M k.p=Fa c:=λk hk=>by
  obtain⟨i,hi,e⟩:=gm hk;have e1:A.cs[i]?=Fa k:=by rw[df hi,e]
  have YD:i<V.calls.length:=by rw[<-h.len];exact hi
  have e2:V.calls[i]?=Fa V.calls[i]:=df YD;obtain⟨ad,md,h1,h2,_⟩:=h.cs i k _ e1 e2;exact⟨⟨_,h2⟩,_,h1⟩
 have hl:∀x∈A.lists,∃ds,pI M x=Fa ds:=λx hx=>by
  unfold ui.lists at hx;simp only[dA,dI]at hx;rcases hx with rfl|rfl|rfl|rfl|⟨k,hk,rfl⟩
  .exact⟨_,h.ca⟩
  .exact⟨_,h.le⟩
  .exact⟨_,h.on⟩
  .exact⟨_,h.lo⟩
  .exact(hc k hk).1
 refine⟨hl,λx hx=>?_⟩;unfold ui.foot at hx;simp only[dA,eB,dI]at hx;rcases hx with rfl|rfl|hx|⟨k,hk,rfl⟩
 .exact⟨_,h.at_⟩
 .exact⟨_,zP h.nx⟩
 .obtain⟨ds,e⟩:=hl x hx;exact⟨_,qM e⟩
 .exact(hc k hk).2
def qh.oM(h:qh a M A V){x:Uf}(hx:M x=Db):x∉A.lists:=λz=>by obtain⟨ds,e⟩:=h.dom.1 x z;have:=qM e;rw[hx]at this;cases this
def qh.nV(h:qh a M A V){x:Uf}(hx:M x=Db):x∉A.lists++V.fo:=λz=>by
 rcases eB.mp z with z|z
 .exact h.oM hx z
 .obtain⟨c,e⟩:=h.fo x z;rw[hx]at e;cases e
def qh.oB(h:qh a M A V){x:Uf}(hx:M x=Db):x∉A.foot:=λz=>by obtain⟨ds,e⟩:=h.dom.2 x z;rw[hx]at e;cases e
def qh.oO(h:qh a M A V)(s:qQ M M1){p wy ad md:Uf}{c:pU}(hp:M p=Db)(hw:M wy=Db)(ha:M ad=Db)(hm:M md=Db)(h1:M1 p=Fa (.ins a.e (rN c wy ad md)))(h2:pI M1 wy=Fa (c.way.map D.str))(h3:pI M1 ad=Fa (c.at_.map D.str))(h4:pI M1 md=Fa (c.ms.map D.str))(n1:ad≠wy)(n2:md≠wy):
  qh a (pX M1 A.ca (.lst ((A.cs.map λk=>D.ref k.p)++[.ref p]))) (A.add ⟨p,wy⟩) {V with calls:=V.calls++[c]}/\rB A M (A.add ⟨p,wy⟩) (pX M1 A.ca (.lst ((A.cs.map λk=>D.ref k.p)++[.ref p]))):=by
 have h':=h.sub s;have kp:sT A.ca M1 (pX M1 A.ca (.lst ((A.cs.map λk=>D.ref k.p)++[.ref p]))):=.put;obtain⟨m1,m2,m3,m4,m5,m6,nw⟩:=h.ne;have wL:wy∉A.lists:=h.oM hw;have cL:=h.pJ.1;have nl':∀x,x∉A.lists++V.fo->x≠wy->x∉(A.add ⟨p,wy⟩).lists++V.fo:=λx h1 h2=>by
  rw[AJ,eB,eB,dG]
  rintro ((z|z)|z)
  .exact h1 (fL _ z)
  .exact h2 z
  .exact h1 (eM _ z)
 have Yh:∀x c,M x=Fa c->x≠wy:=λx c e z=>by rw[z,hw]at e;cases e
 refine⟨⟨kp _ _ (dW (qu h'.ca h'.at_)) h'.at_,?_,kp.lst (dW m1) h'.le,kp.dk (vn h'.nx h'.ca) h'.nx,kp.lst (dW m2) h'.on,kp.lst (dW m3) h'.lo,?_,λi k d e1 e2=>?_,?_,?_,xn h'.fo⟩,λx d n e=>kp x d (λz=>n (z ▸ A.nJ.2.2.1)) (s x d e),λx hx=>?_,λi k e=>by show(A.cs++[(⟨p,wy⟩:rR)])[i]?=Fa k;rw[fk (dh.mp e).1];exact e,λx d e=>Fv (s x d e)⟩
 .show pI _ A.ca=Fa ((A.cs++[(⟨p,wy⟩:rR)]).map λk=>D.ref k.p);rw[dY];exact pY
 .show(A.cs++[(⟨p,wy⟩:rR)]).length=(V.calls++[c]).length;rw[dg,dg,h.len];rfl
 .have e1:(A.cs++[(⟨p,wy⟩:rR)])[i]?=Fa k:=e1;have e2:(V.calls++[c])[i]?=Fa d:=e2;by_cases hi:i<A.cs.length
  .rw[fk hi]at e1;rw[fk (by rw[<-h.len];exact hi)]at e2;obtain⟨ad',md',g1,g2,g3,g4,g5,g6⟩:=(h.cs i k d e1 e2);refine⟨ad',md',kp _ _ (λz=>by have:=s _ _ g1;rw[z,qM h'.ca]at this;cases this) (s _ _ g1),kp.lst (nw k (rE e1)).1 (s.lst g2),kp.lst (λz=>g5 (z ▸ cL)) (s.lst g3),kp.lst (λz=>g6 (z ▸ cL)) (s.lst g4),nl' _ g5 (Yh _ _ (qM g3)),nl' _ g6 (Yh _ _ (qM g4))⟩
  .have Zl:i=A.cs.length:=by have:=(dh.mp e1).1;rw[dg,dX]at this;omega
   subst Zl;rw[fi (dC _)]at e1;rw[h.len,fi (dC _)]at e2;simp only[io,iN,jF]at e1 e2;subst e1 e2;have q1:p≠A.ca:=λz=>by rw[z,qM h'.ca]at h1;cases h1
   have q2:wy≠A.ca:=λz=>wL (z ▸ h.oV.1);exact⟨ad,md,kp p _ q1 h1,kp.lst (a:=wy) q2 h2,kp.lst (λz=>h.nV ha (z ▸ cL)) h3,kp.lst (λz=>h.nV hm (z ▸ cL)) h4,nl' _ (h.nV ha) n1,nl' _ (h.nV hm) n2⟩
 .rw[AJ];refine fY.mpr ⟨h.nl,dZ.mpr ⟨dQ,eP⟩,λx hx y hy=>?_⟩;rw[dG]at hy;subst hy;exact λz=>wL (z ▸ hx)
 .show(A.b::(A.cs++[(⟨p,wy⟩:rR)]).map (·.p)).Nodup;rw[dY,<-List.cons_append];refine fY.mpr ⟨h.np,dZ.mpr ⟨dQ,eP⟩,λx hx y hy=>?_⟩;rw[eh,iY,dG]at hy;subst hy;refine λz=>h.oB hp (z ▸ ?_);rcases dA.mp hx with y|y
  .rw[y];exact A.nJ.1
  .obtain⟨k,hk,rfl⟩:=dI.mp y;exact A.nJ.2.2.2.2.2.1 k hk
 .unfold ui.foot at hx;rw[AJ]at hx;have hx:x∈A.b::A.nx::(A.lists++[wy]++(A.cs++[(⟨p,wy⟩:rR)]).map (·.p)):=hx;simp only[dA,eB,dY,eh,iY,dQ,fj]at hx;unfold ui.foot;simp only[dA,eB];rcases hx with z|z|(z|z)|(z|z)
  .exact .inl (.inl z)
  .exact .inl (.inr (.inl z))
  .exact .inl (.inr (.inr (.inl z)))
  .exact .inr (by rw[z];exact hw)
  .exact .inl (.inr (.inr (.inr z)))
  .exact .inr (by rw[z];exact hp)
def qh.oW{V:qT}{p:Uf}{es:List sJ}(h:qh a M A V)(hp:M p=Db):
  qh a (pX (pX M p (.lst (es.map sJ.d))) A.b (.ins a.c (um (.ref V.p) V.h V.t A.ca p A.nx A.on A.lo))) {A with le:=p} {V with nI:=es}/\rB A M {A with le:=p} (pX (pX M p (.lst (es.map sJ.d))) A.b (.ins a.c (um (.ref V.p) V.h V.t A.ca p A.nx A.on A.lo))):=by
 have t:=qQ.new (c:=.lst (es.map sJ.d)) hp;have lp:=@pY M p (es.map sJ.d);have h1:=h.sub t;have np:p∉A.lists:=h.oM hp;have nf:p∉A.foot:=h.oB hp;have Yh:∀x c,M x=Fa c->x≠p:=λx c e z=>by rw[z,hp]at e;cases e
 generalize pX M p (.lst (es.map sJ.d))=M1 at t lp h1 ⊢;have kp:sT A.b M1 (pX M1 A.b (.ins a.c (um (.ref V.p) V.h V.t A.ca p A.nx A.on A.lo))):=.put;have sub:∀x,x∉A.lists++V.fo->x≠p->x∉({A with le:=p}:ui).lists++V.fo:=λx h1 h2 z=>by
  rcases eB.mp z with z|z
  rotate_left
  .exact h1 (eM _ z)
  have h1:x∉A.lists:=λy=>h1 (fL _ y);unfold ui.lists at h1 z;simp only[dA,fR]at h1 z;rcases z with z|z|z|z|z
  .exact h1.1 z
  .exact h2 z
  .exact h1.2.2.1 z
  .exact h1.2.2.2.1 z
  .exact h1.2.2.2.2 z
 refine⟨⟨qp,kp.lst (qu h1.ca h1.at_) h1.ca,kp.lst (qu lp h1.at_) lp,kp.dk (Ca h1.nx h1.at_) h1.nx,kp.lst (qu h1.on h1.at_) h1.on,kp.lst (qu h1.lo h1.at_) h1.lo,h.len,λi k c e1 e2=>?_,?_,h.np,xn h1.fo⟩,λx c n e=>kp x c (λz=>n (z ▸ A.nJ.1)) (t x c e),λx hx=>?_,λi k e=>e,λx d e=>Fv (t x d e)⟩
 .obtain⟨ad,md,g1,g2,g3,g4,g5,g6⟩:=(h.cs i k c e1 e2);obtain⟨ad',md',f1,f2,f3,f4,f5⟩:=((h.cs i k c e1 e2).sub t).oN kp h1.at_ (h.pE.2 k (rE e1));have q1:=kp _ _ (λz=>h.pE.2 k (rE e1) z) (t _ _ g1);exact⟨ad,md,q1,f2,kp.lst (qu (t.lst g3) h1.at_) (t.lst g3),kp.lst (qu (t.lst g4) h1.at_) (t.lst g4),sub _ g5 (Yh _ _ (qM g3)),sub _ g6 (Yh _ _ (qM g4))⟩
 .have n:=h.nl;unfold ui.lists at n np ⊢;simp only[dA,fR]at np;simp only[dZ,dA,fR]at n ⊢;exact⟨⟨λz=>np.1 z.symm,n.1.2⟩,⟨np.2.2.1,np.2.2.2.1,np.2.2.2.2⟩,n.2.2⟩
 .by_cases z:x=p
  .exact .inr (z ▸ hp)
  .refine .inl ?_;unfold ui.foot ui.lists at hx ⊢;simp only[dA,eB]at hx ⊢;rcases hx with y|y|(y|y|y|y|y)|y
   .exact .inl y
   .exact .inr (.inl y)
   .exact .inr (.inr (.inl (.inl y)))
   .exact absurd y z
   .exact .inr (.inr (.inl (.inr (.inr (.inl y)))))
   .exact .inr (.inr (.inl (.inr (.inr (.inr (.inl y))))))
   .exact .inr (.inr (.inl (.inr (.inr (.inr (.inr y))))))
   .exact .inr (.inr (.inr y))
def yN(x:D)(l:T0 D):wY (x::l) 0=Fa x:=by
 unfold wY;have:G7 (x::l).length 0=Fa 0:=by unfold G7;rw[eE];simp
 rw[this];rfl
def xQ(f:pU->Str->Bool)(a:Ad):rL:=λds M Q=>Br λL k c x=>ds=[.ref k.p,.str x]/\rV a M L k c/\Q (.bl (f c x)) M
abbrev II:=xQ pU.hasB
abbrev zL:=xQ pU.nq
abbrev EY:=xQ pU.nG
abbrev zm:=xQ pU.nE
abbrev we:=xQ pU.ny
abbrev Fx:=xQ pU.nH
abbrev xN:=xQ pU.nY
noncomputable def Px(x:Str):D->Bool
 | .str y=>!(y==x)
 | _=>lf
def zY(a:Ad):rL:=λds M Q=>Ls λL k c x y r=>ds=[.ref k.p,.str x]/\rV a M L k c/\c.ms.length<=100/\r6 c.ms x=y::r/\Q (.str y) M
def Co(ss:QQQ)(x:Str):[]++(List.filter (Px x) (ss.map D.str)).map id=(r6 ss x).map D.str:=by rw[eC,jt,gO];rfl
def AZ{k:Uf}{ks:QQQ}{c:Str}{K:DK}(hk:pI M k=Fa (ks.map D.str))(h:K (.bl (hasS ks c)) M):SS lf (.str c) (.ref k) M K:=by refine i' hk ⟨Z',qJ ks,?_⟩;show K (.bl (inD (.str c) (ks.map D.str))) M;rw[sH];exact h
def WW(w x y:Str):inD (.str w) [.str x,.str y]=(w==x||w==y):=by rw[show[D.str x,D.str y]=[x,y].map D.str from rfl,sH,gz];simp only[fU,mU,jA,ia,ft];exact⟨λh=>h.imp mK mK,λh=>h.imp mK mK⟩
def Tu:Fq P w K mg base 1 a.bJ (II a):=by
 refine fq G.bJ.toDG GX (λr u=>⟨_,(pP (qm (pZ u (pV v0) pT)
 (pR (pW (GK (qy u U1 (pV v0)) (sC (qy u U1 (pV v0))))))
 qd)
 (pP (qm (pZ u (pV v0) pT)
 (pR (pW (qy u U1 (pV v0))))
 qd)
 (pR (pW (sW (qy u (pV v0) (qk (sA pT pT))) (sC (qy u U1 (pV v0)))))))),?_⟩)
 rintro ds M Q ⟨L,k,c,x,rfl,⟨ad,md,h1,h2,h3,h4,_⟩,q⟩
 unfold pU.hasB at q;refine pQ h1 (i' Z' ?_);refine qW (c:=c.st=="rings") (λg=>?_) (λg=>?_)
 .rw[dw g]at q;refine pQ h1 (i' Z' (qW (c:=x==c.cr) (λg2=>?_) (λg2=>?_)))
  .rw[g2]at q;exact⟨M,.refl,q⟩
  .rw[show(x==c.cr)=lf from dH.mpr g2,fO]at q;exact pQ h1 (i' Z' (AZ h3 ⟨M,.refl,q⟩))
 .rw[dq g]at q;refine pQ h1 (i' Z' ?_);refine qW (c:=c.st=="waits") (λg2=>?_) (λg2=>?_)
  .rw[dw g2]at q;exact pQ h1 (i' Z' ⟨M,.refl,q⟩)
  .rw[dq g2]at q;refine pQ h1 (i' Z' ⟨pN Z',Z',Z',?_⟩);show if inD (.str c.st) [.str "talks",.str "held"]=pc then _ else _
   rw[WW];refine qW (λg3=>?_) (λg3=>?_)
   .rw[g3,eL]at q;exact pQ h1 (i' Z' (AZ h4 ⟨M,.refl,q⟩))
   .rw[show(c.st=="talks"||c.st=="held")=lf from dH.mpr g3,eW]at q;exact⟨M,.refl,q⟩
def wA:Fq P w K mg base 1 a.V (zL a):=by
 refine fq G.V.toDG y8 (λr u=>⟨_,(pR (pW (sW (qy u (pV v0) pT) (sC (qy u U1 (pV v0)))))),?_⟩)
 rintro ds M Q ⟨L,k,c,x,rfl,⟨ad,md,h1,h2,h3,h4,_⟩,q⟩
 unfold pU.nq at q;refine pQ h1 (i' Z' (qW (c:=c.st=="talks") (λg=>?_) (λg=>?_)))
 .rw[g,eL]at q;exact pQ h1 (i' Z' (AZ h4 ⟨M,.refl,q⟩))
 .rw[show(c.st=="talks")=lf from dH.mpr g,eW]at q;exact⟨M,.refl,q⟩
def Na:Fq P w K mg base 2 a.bK (EY a):=by
 refine fq G.bK.toDG Ds (λr u=>⟨_,(pP (qm (pZ u (pV v0) pT)
 (pR (pW (sW (qy u U1 (pV v0)) (sC (qy u U1 (pV v0))))))
 qd)
 (pR (pW (qv v0 G.e.toCls G.V (wA G) r (qE U1))))),?_⟩)
 rintro ds M Q ⟨L,k,c,x,rfl,hc,q⟩
 obtain⟨ad,md,h1,h2,h3,h4,_⟩:=id hc;unfold pU.nG at q;refine pQ h1 (i' Z' ?_);refine qW (c:=c.st=="held") (λg=>?_) (λg=>?_)
 .rw[dw g]at q;refine pQ h1 (i' Z' (i' h4 ⟨Z',qJ c.ms,?_⟩));show if inD (.str x) (c.ms.map D.str)=pc then _ else _
  rw[sH];refine qW (c:=hasS c.ms x) (λg2=>?_) (λg2=>?_)
  .rw[g2,eL]at q;refine pQ h1 (i' Z' ?_);cases e:c.hd with
   | none=>rw[e]at q;exact⟨M,.refl,q⟩
   | some y=>
    rw[e]at q;refine⟨M,.refl,?_⟩;rw[show(!(Fa y==Fa x))=!(x==y)from by
     show(!(y==x))=_;rw[jB]]at q
    exact q
  .rw[show hasS c.ms x=lf from dH.mpr g2,eW]at q;exact⟨M,.refl,q⟩
 .rw[dq g]at q;exact pQ h1 ⟨Z',_,⟨Z',Z'⟩,L,k,c,x,Z',hc,M,.refl,q⟩
def BS:Fq P w K mg base 1 a.X (zm a):=by
 refine fq G.X.toDG yL (λr u=>⟨_,(pR (pW (sW (qy u (pV v0) (qk (sA pT pT))) (sC (qy u U1 (pV v0)))))),?_⟩)
 rintro ds M Q ⟨L,k,c,x,rfl,⟨ad,md,h1,h2,h3,h4,_⟩,q⟩
 unfold pU.nE at q;refine pQ h1 (i' Z' ⟨pN Z',Z',Z',?_⟩);show if inD (.str c.st) [.str "rings",.str "waits"]=pc then _ else _
 rw[WW];refine qW (λg3=>?_) (λg3=>?_)
 .rw[g3,eL]at q;exact pQ h1 (i' Z' ⟨M,.refl,q⟩)
 .rw[show(c.st=="rings"||c.st=="waits")=lf from dH.mpr g3,eW]at q;exact⟨M,.refl,q⟩
def Hs:Fq P w K mg base 1 a.aB (we a):=by
 refine fq G.aB.toDG y0 (λr u=>⟨_,(pR (pW (sW (qy u (pV v0) pT) (sC (qy u U1 (pV v0)))))),?_⟩)
 rintro ds M Q ⟨L,k,c,x,rfl,⟨ad,md,h1,h2,h3,h4,_⟩,q⟩
 unfold pU.ny at q;refine pQ h1 (i' Z' (qW (c:=c.st=="waits") (λg=>?_) (λg=>?_)))
 .rw[g,eL]at q;exact pQ h1 (i' Z' (AZ h3 ⟨M,.refl,q⟩))
 .rw[show(c.st=="waits")=lf from dH.mpr g,eW]at q;exact⟨M,.refl,q⟩
def Ny:Fq P w K mg base 2 a.bO (xN a):=by
 refine fq G.bO.toDG xA (λr u=>⟨_,(pR (pW (GK (qv v0 G.e.toCls G.X (BS G) r (qE U1)) (GK (qy u U1 (pV v0)) (sC (qy u U1 (pV v0))))))),?_⟩)
 rintro ds M Q ⟨L,k,c,x,rfl,hc,q⟩
 obtain⟨ad,md,h1,h2,h3,h4,_⟩:=id hc;unfold pU.nY at q;refine pQ h1 ⟨Z',_,⟨Z',Z'⟩,L,k,c,x,Z',hc,qW (c:=c.nE x) (λg=>?_) (λg=>?_)⟩
 .rw[g]at q;exact⟨M,.refl,q⟩
 .rw[show c.nE x=lf from dH.mpr g,fO]at q;refine pQ h1 (i' Z' (i' h3 ⟨Z',qJ c.at_,?_⟩));show if inD (.str x) (c.at_.map D.str)=pc then _ else _
  rw[sH];refine qW (c:=hasS c.at_ x) (λg2=>?_) (λg2=>?_)
  .rw[g2]at q;exact⟨M,.refl,q⟩
  .rw[show hasS c.at_ x=lf from dH.mpr g2,fO]at q;exact pQ h1 (i' Z' (AZ h4 ⟨M,.refl,q⟩))
def Hr:Fq P w K mg base 2 a.aD (Fx a):=by
 refine fq G.aD.toDG Do (λr u=>⟨_,(pR (pW (sW (qv v0 G.e.toCls G.V (wA G) r (qE U1)) (sC (qy u (qr qU Z' G.g qR (qE (pV v0))) pS))))),?_⟩)
 rintro ds M Q ⟨L,k,c,x,rfl,hc,q⟩
 obtain⟨ad,md,h1,h2,h3,h4,_⟩:=id hc;unfold pU.nH at q;refine pQ h1 ⟨Z',_,⟨Z',Z'⟩,L,k,c,x,Z',hc,qW (c:=c.nq x) (λg=>?_) (λg=>?_)⟩
 .rw[g,eL]at q;refine pQ h1 (i' Z' (i' h4 ⟨M,.refl,?_⟩));rw[c9];have:(((c.ms.length:Nat):Int)==2)=(c.ms.length==2):=by rw[gz,ft,ft];omega
  show Q (.bl (((c.ms.length:Nat):Int)==2)) M;rw[this];exact q
 .rw[show c.nq x=lf from dH.mpr g,eW]at q;exact⟨M,.refl,q⟩
def GJ:Fq P w K mg base 1 a.aC (zY a):=by
 refine fq G.aC.toDG zj (λr u=>⟨_,(pR (pW (qe (qY Z' (xy (ix:=[Db,Fa 1]) (N':=["member","phone"])) (qV (pV v0)) (qP 0) (uG (pZ u v0 U1)) v0) pS))),?_⟩)
 rintro ds M Q ⟨L,k,c,x,y,r,rfl,hc,hl,e,q⟩
 have hz:=dR;obtain⟨ad,md,h1,h2,h3,h4,_⟩:=id hc;refine pQ h1 (i' Z' (i' h4 (ua (f:=id) (t:=Px x) h4 _ [] _ (by rw[c9];simp only[dS];omega) (λd hd k0 hk=>?_) (λd hd _ k0 hk=>?_) λp hp=>?_)))
 .obtain⟨y,hy,rfl⟩:=dI.mp hd;exact hk
 .obtain⟨y,hy,rfl⟩:=dI.mp hd;exact hk
 rw[Co,e];exact i' pY (i' (yN _ _) ⟨M,.new hp,q⟩)
theorem B6:∀bs:T0 Bool,Bk (.bl pc) (bs.map D.bl)=bs.findIdx? id
 | []=>rfl
 | b::r=>by rw[eh,lH];unfold Bk;rw[B6 r];cases b<;>rfl
theorem L1(x:D):∀ds:T0 D,(Bk x ds).isSome=ds.any λd=>P8 d x
 | []=>rfl
 | d::r=>by
  unfold Bk;rw[fU];by_cases h:P8 d x=pc
  .rw[dw h,h];rfl
  .rw[dq h,jE,L1 x r,show P8 d x=lf from dH.mpr h,fO]
theorem CH:∀bs:T0 Bool,(bs.map D.bl).all vv=pc
 | []=>rfl
 | _::r=>by rw[eh,fN,CH r];rfl
structure Rd(a:Ad)(M:Mp)(A:ui)(V:qT)(l:qc):Prop where
 bd:qh a M A V
 k:V.calls.length<=1000000
 pl:tR a M V.p l
 ok:sj l
 on:V.on.length=l.nk.length
 ms:∀c∈V.calls,(∀x∈c.ms,x∈l.pn)/\c.ms.length<=100
def Rd.sub{V:qT}(h:Rd a M A V l)(s:qQ M M'):Rd a M' A V l:=⟨h.bd.sub s,h.k,h.pl.sub s,h.ok,h.on,h.ms⟩
def Oi:rL:=λds M Q=>AU λr bs=>ds=[.ref r]/\pI M r=Fa (List.map D.bl bs)/\Q (Ja (bs.findIdx? id)) M
def Km(f:qT->Str->D)(a:Ad):rL:=λds M Q=>BV λA V x=>ds=[.ref A.b,.str x]/\qh a M A V/\V.calls.length<=1000000/\Q (f V x) M
def Vz(V:qT)(x:Str):D:=.int (uU V x:Nat)
def LS(V:qT)(x:Str):D:=Ja (AH V x)
def AY(V:qT)(x:Str):D:=Ja (vU V x)
def Uv(V:qT)(x:Str):D:=Ja (GC V x)
def Vn(V:qT)(x:Str):D:=.bl (zV V x)
abbrev Ga:=Km Vz
abbrev DD:=Km LS
abbrev Ba:=Km AY
abbrev A7:=Km Uv
abbrev AF:=Km Vn
def xJ(a:Ad):rL:=λds M Q=>Br λA V l x=>ds=[.ref A.b,.str x]/\Rd a M A V l/\x∈l.pn/\Q (.bl (tN l V x)) M
def Ao(a:Ad):rL:=λds M Q=>HI λA V l c z=>ds=[.ref A.b,.str c,.str z]/\Rd a M A V l/\z∈l.nm/\∀q M',qQ M M'->M q=Db->pI M' q=Fa ((uR l V c z).map D.str)->Q (.ref q) M'
def AD(a:Ad):rL:=λds M Q=>AU λA V=>ds=[.ref A.b]/\qh a M A V/\Q (.int ((V.h+V.t) % 24)) M
def Qc(a:Ad):rL:=λds M Q=>HI λA V l c z=>ds=[.ref A.b,.str c,.str z]/\Rd a M A V l/\z∈l.nm/\Q (.bl (yf l V c z)) M
def BA{V:qT}(h:qh a M A V){pre post:T0 D}{d:D}(e:pre++d::post=A.cs.map λk=>D.ref k.p):∃k c,A.cs[pre.length]?=Fa k/\V.calls[pre.length]?=Fa c/\d=.ref k.p/\rV a M (A.lists++V.fo) k c/\V.calls.take (pre.length+1)=V.calls.take pre.length++[c]:=by
 have h1:(A.cs.map λk=>D.ref k.p)[pre.length]?=Fa d:=by rw[<-e];simp
 rw[dJ]at h1;cases z:A.cs[pre.length]? with
 | none=>rw[z]at h1;cases h1
 | some k=>
  rw[z]at h1;have hi:pre.length<V.calls.length:=by rw[<-h.len];exact(dh.mp z).1
  have e2:V.calls[pre.length]?=Fa V.calls[pre.length]:=df hi;refine⟨k,_,Z',e2,(dB h1).symm,h.cs _ _ _ z e2,?_⟩;rw[gS,e2];rfl
def xc{l:qc}{x:Str}(h:x∈l.pn):∃v,l.nM x=Fa v:=by
 obtain⟨p,hp,rfl⟩:=dI.mp h;unfold qc.nM;cases e:l.nj.find? λq=>decide (q.1=p.1)with
 | some v=>exact⟨v,Z'⟩
 | none=>exact absurd (ib.mp e p hp) (by simp)
def rq:hasS ss x=pc↔x∈ss:=by unfold hasS;rw[gI];exact⟨λ⟨y,hy,e⟩=>Ix e ▸ hy,λh=>⟨x,h,fg _⟩⟩
def Lq(h:xC ss=pc):ss.Nodup:=by
 have h:(tJ ss).length=ss.length:=by unfold xC at h;have:=ft.mp h;omega
 suffices key:∀r:QQQ,(tJ r.reverse).length=r.reverse.length->r.reverse.Nodup by have:=key ss.reverse;rw[List.reverse_reverse]at this;exact this h
 intro r;induction r with
 | nil=>intro _;exact eP
 | cons k r ih=>
  intro h;rw[List.reverse_cons]at h ⊢;generalize r.reverse=l at ih h ⊢;rw[yI]at h;split at h
  .have:=JA l;rw[dg,dX]at h;omega
  .rename_i hk;rw[dg,dg,dX]at h;have h1:=ih (by omega);rw[OB]at hk;refine fY.mpr ⟨h1,by simp,λx hx y hy=>?_⟩;rw[dG.mp hy];exact λz=>hk (z ▸ hx)
def IH{m:Int}(h:sY cs ks m=pc):cs≠[]/\(cs.length:Int)<=m/\cs.Nodup/\∀x∈cs,x∈ks:=by unfold sY at h;simp only[d6,eG,eR]at h;obtain⟨h1,h2,h3,h4⟩:=h;refine⟨λz=>by rw[z]at h1;exact absurd h1 (by decide),h2,Lq h3,λx hx=>rq.mp (h4 x hx)⟩
def sj.of(ok:sj l){z:Str}(hz:z∈l.nm):(l.ng z≠[]/\(l.ng z).length<=4/\(l.ng z).Nodup/\∀x∈l.ng z,x∈l.pn)/\(z∈l.pn->l.ng z=[z]/\l.nC z="one"):=by
 have hd:=fY.mp ok.nd;have h1:z∈l.pn->l.group z=Db:=λh=>ib.mpr λg hg e=>hd.2.2 z h g.1 (dI.mpr ⟨g,hg,Z'⟩) (by simpa using e:g.1=z).symm;refine⟨?_,λh=>by unfold qc.ng qc.nC;rw[h1 h];exact⟨Z',Z'⟩⟩;unfold qc.ng;cases e:l.group z with
 | none=>
  have hp:z∈l.pn:=by
   rcases eB.mp hz with h|h
   .exact h
   .obtain⟨g,hg,rfl⟩:=dI.mp h;exact absurd (ib.mp e g hg) (by simp)
  exact⟨fF _ _,by show 1<=4;decide,dZ.mpr ⟨dQ,eP⟩,λx hx=>by rw[dG.mp hx];exact hp⟩
 | some g=>obtain⟨c1,c2,c3,c4⟩:=IH (ok.go g (gb e)).mem;exact⟨c1,by show g.2.2.length<=4;omega,c3,c4⟩
def yH{V:qT}{f:pU->Str->Bool}{m x:Str}{Q:DK}{ok:Mp->Prop}(bd:qh a M A V)(hk:V.calls.length<=1000000)(nB:ok M)(hm:∀c wy ad md,(rN c wy ad md).lookup m=Db)(q:∀p,M p=Db->Q (.ref p) (pX M p (.lst ((V.calls.map λc=>f c x).map D.bl)))):
  vi (uq 0) CV (AR m (λC s=>C=a.e/\s=xQ f a) (v3 0) (vW (v3 1) yi)) ok Q (A.cs.map λk=>D.ref k.p) [] [Db,Fa (.str x)] M:=by
 have hz:=dR;refine BC (A.cs.map λk=>D.ref k.p) (λpre acc U M'=>M=M'/\acc=((V.calls.take pre.length).map λc=>f c x).map D.bl/\∃y,U=[y,Fa (.str x)]) (λ_ _ _ M' j=>by rw[<-j.1];exact nB) _ [] [] _ _ Z' ?_ ⟨Z',Z',Db,Z'⟩ ?_ ?_
 .rw[c9,bd.len];simp only[dS];omega
 .rintro pre d post e acc U M' ⟨rfl,rfl,y,rfl⟩ k hk
  obtain⟨ka,c,e1,e2,rfl,hc,et⟩:=BA bd e;obtain⟨_,_,g1,_⟩:=id hc;refine pQ g1 ⟨hm _ _ _ _,_,⟨Z',Z'⟩,_,ka,c,x,Z',hc,hk _ _ _ ⟨Z',?_,_,Z'⟩⟩;rw[dg,dX,et,dY,dY];rfl
 .rintro acc U M' ⟨rfl,rfl,y,rfl⟩ p hp
  rw[c9,bd.len,fD];exact q p hp
def Cg:Fq P w K mg base 1 a.N Oi:=by
 refine fq G.N.toDG Aj (λr u=>⟨_,(pP (qm (pZ u wX v0)
 (pR (pW (yk v0 (qE wX))))
 qd)
 (pR (pW so))),?_⟩)
 rintro ds M Q ⟨r,bs,rfl,hr,q⟩
 have ei:inD (.bl pc) (bs.map D.bl)=(bs.findIdx? id).isSome:=by rw[<-B6];exact(L1 _ _).symm
 refine i' hr ⟨Z',CH bs,?_⟩;show if inD (.bl pc) (bs.map D.bl)=pc then _ else _
 rw[ei];cases e:bs.findIdx? id with
 | none=>rw[e]at q;exact⟨M,.refl,q⟩
 | some j=>rw[e]at q;exact IS ⟨by show(pI M r).isSome=pc;rw[hr];rfl,i' hr ⟨Z',CH bs,i' ((B6 bs).trans e) ⟨M,.refl,q⟩⟩⟩
def Js:Fq P w K mg base 2 a.ao (Ga a):=by
 refine fq G.ao.toDG Dz (λr u=>⟨_,(pR (pW (qr qU Z' G.g qR (qE (qY Z' (xy (ix:=[Db,Fa 1]) (N':=["call","phone"])) (qV (pV v0)) (qP 0) (uG (uz (qv v0 G.e.toCls G.bJ (Tu G) r (qE U1)))) v0))))),?_⟩)
 rintro ds M Q ⟨A,V,x,rfl,bd,Yd,q⟩
 have hz:=dR;refine pQ bd.at_ (i' Z' (i' bd.ca ?_));refine vG (A.cs.map λk=>D.ref k.p) (λpre acc U M'=>M=M'/\acc.length=((V.calls.take pre.length).filter (·.hasB x)).length/\∃y,U=[y,Fa (.str x)]) (λ_ _ _ M' j=>by rw[<-j.1];exact bd.ca) _ [] [] _ _ Z' ?_ ⟨Z',Z',Db,Z'⟩ ?_ ?_
 .rw[c9,bd.len];simp only[dS];omega
 .rintro pre d post e acc U M' ⟨rfl,ha,y,rfl⟩ k k2 hk YY
  obtain⟨ka,c,e1,e2,rfl,hc,et⟩:=BA bd e;rw[dg,dX,et,ic]at hk YY;obtain⟨_,_,g1,_⟩:=id hc;refine pQ g1 ⟨Z',_,⟨Z',Z'⟩,_,ka,c,x,Z',hc,?_⟩;refine qW (c:=c.hasB x) (λg=>?_) (λg=>?_)
  .refine hk _ _ _ ⟨Z',?_,_,Z'⟩;rw[dg,dg,ha,gD (by exact g)];rfl
  .refine YY _ _ ⟨Z',?_,_,Z'⟩;rw[dg,ha,gF (by exact g)];rfl
 .rintro acc U M' ⟨rfl,ha,y,rfl⟩ p hp
  refine i' pY ⟨M,.new hp,?_⟩;rw[c9,bd.len,fD]at ha;rw[ha];exact q
def Hy:Fq P w K mg base 3 a.ap (DD a):=by
 refine fq G.ap.toDG C0 (λr u=>⟨_,(pR (pW (qa (Cg G) r G.N (qE (qY Z' (xy (ix:=[Db,Fa 1]) (N':=["call","phone"])) (qV (pV v0)) (qP 0) su (qv v0 G.e.toCls G.bK (Na G) r (qE U1))))))),?_⟩)
 rintro ds M Q ⟨A,V,x,rfl,bd,Yd,q⟩
 refine pQ bd.at_ (i' Z' (i' bd.ca (yH bd Yd bd.ca (λ_ _ _ _=>rfl) λp hp=>⟨p,_,Z',pY,M,.new hp,?_⟩)));rw[ik];exact q
def CD:Fq P w K mg base 3 a.aq (A7 a):=by
 refine fq G.aq.toDG Aw (λr u=>⟨_,(pR (pW (qa (Cg G) r G.N (qE (qY Z' (xy (ix:=[Db,Fa 1]) (N':=["call","phone"])) (qV (pV v0)) (qP 0) su (qv v0 G.e.toCls G.X (BS G) r (qE U1))))))),?_⟩)
 rintro ds M Q ⟨A,V,x,rfl,bd,Yd,q⟩
 refine pQ bd.at_ (i' Z' (i' bd.ca (yH bd Yd bd.ca (λ_ _ _ _=>rfl) λp hp=>⟨p,_,Z',pY,M,.new hp,?_⟩)));rw[ik];exact q
def xm:Fq P w K mg base 3 a.M (Ba a):=by
 refine fq G.M.toDG Ay (λr u=>⟨_,(pR (pW (qa (Cg G) r G.N (qE (qY Z' (xy (ix:=[Db,Fa 1]) (N':=["call","phone"])) (qV (pV v0)) (qP 0) su (qv v0 G.e.toCls G.V (wA G) r (qE U1))))))),?_⟩)
 rintro ds M Q ⟨A,V,x,rfl,bd,Yd,q⟩
 refine pQ bd.at_ (i' Z' (i' bd.ca (yH bd Yd bd.ca (λ_ _ _ _=>rfl) λp hp=>⟨p,_,Z',pY,M,.new hp,?_⟩)));rw[ik];exact q
def AO:Fq P w K mg base 3 a.ar (AF a):=by
 refine fq G.ar.toDG zW (λr u=>⟨_,(pR (pW (qr (TN Z') Z' G.cL Tw (qE (qY Z' (xy (ix:=[Db,Fa 1]) (N':=["call","phone"])) (qV (pV v0)) (qP 0) su (qv v0 G.e.toCls G.aB (Hs G) r (qE U1))))))),?_⟩)
 rintro ds M Q ⟨A,V,x,rfl,bd,Yd,q⟩
 refine pQ bd.at_ (i' Z' (i' bd.ca (yH bd Yd bd.ca (λ_ _ _ _=>rfl) λp hp=>i' pY ?_)));rw[eA];refine i' (yB _ _) ⟨M,.new hp,?_⟩;rw[j3];exact q
def Gr:Fq P w K mg base 1 a.bQ (AD a):=by
 refine fq G.bQ.toDG zM (λr u=>⟨_,(pR (pW (qx (qx (pV v0) (pV v0)) pS))),?_⟩)
 rintro ds M Q ⟨A,V,rfl,bd,q⟩
 exact pQ bd.at_ (i' Z' (pQ bd.at_ (i' Z' ⟨by decide,M,.refl,q⟩)))
def Gv{l:qc}{x:Str}{v:ul}(h:l.nM x=Fa v):xx l x=v.2.1:=by unfold xx;rw[h];rfl
def xg:Fq P w K mg base 3 a.L (xJ a):=by
 refine fq G.L.toDG AA (λr u=>⟨_,(pR (pW (qy u (qv v0 G.c.toCls G.ao (Js G) r (qE U1)) (qv (pV v0) G.h.toCls G.bH (Dl G) r (qE U1))))),?_⟩)
 rintro ds M Q ⟨A,V,l,x,rfl,rd,hx,q⟩
 obtain⟨ph,gr,ws,Zb,pr,gd,rs,i1,_⟩:=rd.pl;obtain⟨v,hv⟩:=xc hx;refine pQ rd.bd.at_ ⟨Z',_,⟨Z',Z'⟩,A,V,x,Z',rd.bd,rd.k,?_⟩;refine pQ rd.bd.at_ (i' Z' (pQ i1 ⟨Z',_,⟨Z',Z'⟩,V.p,x,v,l,Z',rd.pl,hv,?_⟩));unfold tN at q;rw[Gv hv]at q;exact⟨M,.refl,q⟩
def AL:Fq P w K mg base 4 a.aS (Ao a):=by
 refine fq G.aS.toDG zr (λr u=>⟨_,(pR (pW (qY Z' (xy (ix:=[Db,Fa 1,Fa 0]) (N':=["phone","caller","self"])) (qV (qv (pV v0) G.h.toCls G.Y (uS G) r (qE U2))) (qP 0) (uG (W3.b3 (vo (pZ u v0 U1) (vh (uz (qv U2 G.c.toCls G.L (xg G) r (qE v0))))))) v0))),?_⟩)
 rintro ds M Q ⟨A,V,l,c,z,rfl,rd,YN,q⟩
 obtain⟨ph,gr,ws,Zb,pr,gd,rs,i1,_⟩:=rd.pl;obtain⟨⟨_,p4,_,pin⟩,_⟩:=rd.ok.of YN;refine pQ rd.bd.at_ (i' Z' (pQ i1 ⟨Z',_,⟨Z',Z'⟩,V.p,z,l,Z',rd.pl,λq1 YM=>i' pY ?_⟩));have s1:=qQ.new (c:=.lst (List.map D.str (l.ng z))) YM;have c1:=@pY M q1 (List.map D.str (l.ng z));generalize pX M q1 (.lst (List.map D.str (l.ng z)))=M1 at s1 c1 ⊢;have hz:=dR;have YO:=rd.sub s1;refine ua (f:=id) (t:=λd=>match d with|.str x=>!(x==c)&&tN l V x|_=>lf) c1 _ [] _ (by rw[c9];simp only[dS];omega) (λd hd k hk=>?_) (λd hd _ k hk=>?_) λq2 Z2=>?_
 .obtain⟨x,hx,rfl⟩:=dI.mp hd;have hk:k (!(x==c)&&tN l V x) M1:=hk;cases e:x==c with
  | true=>rw[e]at hk;refine L5 (c:=!(x==c)) (by rw[e];rfl) hk
  | false=>rw[e]at hk;refine Bd (c:=!(x==c)) (by rw[e];rfl) (pQ YO.bd.at_ ⟨Z',_,⟨Z',Z'⟩,A,V,l,x,Z',YO,pin x hx,hk⟩)
 .obtain⟨x,hx,rfl⟩:=dI.mp hd;exact hk
 .have ef:[]++(List.filter (λd=>match d with|.str x=>!(x==c)&&tN l V x|_=>lf) ((l.ng z).map D.str)).map id=(uR l V c z).map D.str:=by rw[eC,jt,gO];rfl
  rw[ef];have t2:=qQ.new (c:=.lst ((uR l V c z).map D.str)) Z2;exact⟨_,.refl,q q2 _ (s1.trans t2) (s1.none Z2) pY⟩
def E8:Fq P w K mg base 5 a.P (Qc a):=by
 refine fq G.P.toDG IP (λr u=>⟨_,(pR (pW (qy u (qr qU Z' G.g qR (qE (qv v0 G.c.toCls G.aS (AL G) r (sA U1 U2)))) pS))),?_⟩)
 rintro ds M Q ⟨A,V,l,c,z,rfl,rd,tg,q⟩
 refine pQ rd.bd.at_ ⟨Z',_,⟨Z',Z'⟩,A,V,l,c,z,Z',rd,tg,λq1 M1 s1 YM e1=>i' e1 ⟨M,s1,?_⟩⟩;have e:((((uR l V c z).map D.str).length:Int)==0)=yf l V c z:=by unfold yf;rw[c9,gz,ft,List.isEmpty_iff,<-gC];omega
 show Q (.bl ((((uR l V c z).map D.str).length:Int)==0)) M;rw[e];exact q
def xE(a:Ad)(v:Wi):rL:=λds M Q=>Ls λp A V l c z=>ds=[.ref p,.ref A.b,.str c,.str z]/\M p=Fa (.ins (v.cls a) v.oj)/\Rd a M A V l/\z∈l.nm/\Ct l.pn l.nm v/\Q (.bl (Bh l V c z v)) M
def Rn(a:Ad)(v:Wi):rL:=λds M Q=>Br λp L k c=>ds=[.ref p,.ref (rR.p k)]/\M p=Fa (.ins (v.cls a) v.oj)/\rV a M L k c/\Q (.bl (Hg c v)) M
def G4:rL:=λds M Q=>AU λx y=>ds=[x,y]/\Q (.bl lf) M
def LK(a:Ad):Uf->rL->Prop:=λC sp=>∃v:Wi,C=v.cls a/\sp=xE a v
noncomputable def LN(a:Ad):Wi->rL
 | .silent x y n=>Rn a (.silent x y n)
 | _=>G4
def He(a:Ad):Uf->rL->Prop:=λC sp=>∃v:Wi,C=v.cls a/\sp=LN a v
def Ai(a:Ad):rL:=λds M Q=>Ls λp x y f l h=>ds=[.ref p,.int h]/\M p=Fa (.ins a.n (Wi.night x y f l).oj)/\Q (.bl (FW f l h)) M
def zS(a:Ad):rL:=λds M Q=>Ls λp x q l r ms=>ds=[.ref p,.ref q,.ref r]/\M p=Fa (.ins a.o (Wi.breaks x).oj)/\tR a M q l/\pI M r=Fa (List.map D.str ms)/\ms.length<=100/\x∈l.pn/\(∀m∈ms,m∈l.pn)/\Q (.bl (IC l x ms)) M
def Jv{l:qc}{x:Str}{v:ul}(h:l.nM x=Fa v):wm l x=v.2.2:=by unfold wm;rw[h];rfl
def qZ{ks:List rR}{i:Nat}{k:rR}(h:ks[i]?=Fa k):wY (ks.map λk=>D.ref k.p) (i:Nat)=Fa (.ref k.p):=vF (by rw[dJ,h];rfl)
def LQ(ds:T0 D):L3.ut ds (Fa (-1:Int)) Db=ds.drop (ds.length - 1):=by
 unfold L3.ut;have e:HT.tO ds.length 0 (Fa (-1:Int))=ds.length - 1:=by show(if (-1:Int)<0 then((-1:Int)+(ds.length:Int)).toNat else min (-1:Int).toNat ds.length)=ds.length - 1;rw[dw (by decide)];omega
 rw[e];show(ds.drop (ds.length - 1)).take (ds.length - (ds.length - 1))=_;exact ig (by rw[gw];exact dC _)
theorem D8{α:Type}:∀w:List α,w.drop (w.length - 1)=w.getLast?.toList
 | []=>rfl
 | [_]=>rfl
 | _::z::r=>by rw[List.getLast?_cons_cons,<-D8 (z::r)];rfl
def Qn{p q:Uf}{w:QQQ}(h1:pI M p=Fa ((w.map D.str).drop ((w.map D.str).length - 1)))(h2:pI M q=Fa [D.str x]):zE M 9 (.ref p) (.ref q)=Fa (w.getLast?==Fa x):=by
 have e:(w.map D.str).drop ((w.map D.str).length - 1)=(w.getLast?.toList).map D.str:=by rw[c9,<-kU];rw[D8]
 rw[e]at h1;show(pI M p).bind (λi=>(pI M q).bind λj=>if i.length=j.length then tj (zE M 8) i j else Fa lf)=_;rw[h1,h2];cases w.getLast? with
 | none=>rfl
 | some y=>show((Fa (y==x)).bind λp=>(Fa pc).map λq=>p&&q)=Fa (Fa y==Fa x);show Fa ((y==x)&&pc)=_;rw[mM];rfl
def Ou(G:Gl K mg a)(x:Str)(ns:QQQ):Fq P w K mg base 6 a.aJ (xE a (.bar x ns)):=by
 refine fq G.aJ.toDG HA (λr u=>⟨_,(pR (pW (sW (qy u U2 (pV v0)) (sC (qy u U3 (pV v0)))))),?_⟩)
 rintro ds M Q ⟨p,A,V,l,c,z,rfl,hp,_,_,_,q⟩
 refine pQ hp ?_;refine qW (c:=c==x) (λg=>pQ hp ⟨Z',qJ ns,M,.refl,?_⟩) (λg=>⟨M,.refl,?_⟩)
 .show Q (.bl (inD (.str z) (ns.map D.str))) M;rw[sH];dsimp only[Bh]at q;rw[g,eL]at q;exact q
 .dsimp only[Bh]at q;rw[show(c==x)=lf from dH.mpr g,eW]at q;exact q
def Mr(G:Gl K mg a)(x:Str)(ns:QQQ):Fq P w K mg base 6 a.aK (xE a (.shut x ns)):=by
 refine fq G.aK.toDG Fo (λr u=>⟨_,(pR (pW (sW (qy u U3 (pV v0)) (sC (qy u U2 (pV v0)))))),?_⟩)
 rintro ds M Q ⟨p,A,V,l,c,z,rfl,hp,_,_,_,q⟩
 refine pQ hp ?_;refine qW (c:=z==x) (λg=>pQ hp ⟨Z',qJ ns,M,.refl,?_⟩) (λg=>⟨M,.refl,?_⟩)
 .show Q (.bl (inD (.str c) (ns.map D.str))) M;rw[sH];dsimp only[Bh]at q;rw[g,eL]at q;exact q
 .dsimp only[Bh]at q;rw[show(z==x)=lf from dH.mpr g,eW]at q;exact q
def Nf(G:Gl K mg a)(x y:Str):Fq P w K mg base 6 a.aL (xE a (.always x y)):=by
 refine fq G.aL.toDG CF (λr u=>⟨_,(pR (pW (qy u U3 (pV v0)))),?_⟩)
 rintro ds M Q ⟨p,A,V,l,c,z,rfl,hp,_,_,_,q⟩
 exact pQ hp ⟨M,.refl,q⟩
def Gu:Fq P w K mg base 1 a.bP (Ai a):=by
 refine fq G.bP.toDG z9 (λr u=>⟨_,(pP (qm (pZ u (pV v0) (pV v0))
 (pR (pW (uL u (pV v0) U1 (pV v0))))
 qd)
 (pR (pW (GK (qy u U1 (pV v0)) (sC (qy u U1 (pV v0))))))),?_⟩)
 rintro ds M Q ⟨p,x,y,f,l,h,rfl,hp,q⟩
 refine pQ hp (pQ hp ?_);show if (decide (f<l))=pc then _ else _
 unfold FW at q;by_cases z:f<l
 .rw[dw z]at q;refine Bd (d9 z) (pQ hp ?_);refine qW (c:=decide (f<=h)) (λg=>?_) (λg=>?_)
  .rw[g,eL]at q;exact pQ hp ⟨M,.refl,q⟩
  .rw[show decide (f<=h)=lf from dH.mpr g,eW]at q;exact⟨M,.refl,q⟩
 .rw[dq z]at q;refine L5 (eY z) (pQ hp ?_);refine qW (c:=decide (h>=f)) (λg=>?_) (λg=>?_)
  .rw[g,il]at q;exact⟨M,.refl,q⟩
  .rw[show decide (h>=f)=lf from dH.mpr g,fO]at q;exact pQ hp ⟨M,.refl,q⟩
def MX(G:Gl K mg a)(x y:Str)(f m:Int):Fq P w K mg base 6 a.aM (xE a (.night x y f m)):=by
 refine fq G.aM.toDG DN (λr u=>⟨_,(pR (pW (sW (qy u U3 (pV v0)) (sC (qv v0 G.n.toCls G.bP (Gu G) r (qE (yD U1 G.c.toCls G.bQ (Gr G) r))))))),?_⟩)
 rintro ds M Q ⟨p,A,V,l,c,z,rfl,hp,rd,_,_,q⟩
 dsimp only[Bh]at q;refine pQ hp ?_;refine qW (c:=z==x) (λg=>?_) (λg=>?_)
 .rw[g,eL]at q;exact pQ hp ⟨Z',_,⟨Z',Z'⟩,pQ rd.bd.at_ ⟨Z',_,⟨Z',Z'⟩,A,V,Z',rd.bd,p,x,y,f,m,_,Z',hp,M,.refl,q⟩⟩
 .rw[show(z==x)=lf from dH.mpr g,eW]at q;exact⟨M,.refl,q⟩
def LW(G:Gl K mg a)(x y:Str):Fq P w K mg base 6 a.aN (xE a (.busy x y)):=by
 refine fq G.aN.toDG Fg (λr u=>⟨_,(pR (pW (sW (qy u U3 (pV v0)) (sC (qa (E8 G) r G.P (rO U1 U2 U3)))))),?_⟩)
 rintro ds M Q ⟨p,A,V,l,c,z,rfl,hp,rd,hz,_,q⟩
 dsimp only[Bh]at q;refine pQ hp ?_;refine qW (c:=z==x) (λg=>?_) (λg=>?_)
 .rw[g,eL]at q;exact⟨A,V,l,c,z,Z',rd,hz,M,.refl,q⟩
 .rw[show(z==x)=lf from dH.mpr g,eW]at q;exact⟨M,.refl,q⟩
def Nb(G:Gl K mg a)(x y:Str)(n:Int):Fq P w K mg base 6 a.aO (xE a (.silent x y n)):=by
 refine fq G.aO.toDG Cv (λr u=>⟨_,(pR (pW wX)),?_⟩)
 rintro ds M Q ⟨p,A,V,l,c,z,rfl,hp,rd,hz,_,q⟩
 exact⟨M,.refl,q⟩
def MC(G:Gl K mg a)(x:Str):Fq P w K mg base 6 a.aP (xE a (.wait x)):=by
 refine fq G.aP.toDG E2 (λr u=>⟨_,(pP (qm (W3.b3 (yO (pZ u U3 (pV v0)) (xS (pZ u U2 (pV v0)))))
 (pR (pW wX))
 qd)
 (pR (pW (sW (qa (E8 G) r G.P (rO U1 U2 U3)) (sC (NS (qv U1 G.c.toCls G.ar (AO G) r (qE U3)))))))),?_⟩)
 rintro ds M Q ⟨p,A,V,l,c,z,rfl,hp,rd,hz,_,q⟩
 dsimp only[Bh]at q;refine pQ hp ?_;refine qW (c:=!(z==x)) (λg=>?_) (λg=>?_)
 .rw[g,il]at q;exact⟨M,.refl,q⟩
 rw[show(!(z==x))=lf from dH.mpr g,fO]at q;refine pQ hp ?_;refine qW (c:=c==x) (λg=>?_) (λg=>?_)
 .rw[g]at q;exact⟨M,.refl,q⟩
 rw[dq g]at q;refine⟨A,V,l,c,z,Z',rd,hz,?_⟩;refine qW (c:=yf l V c z) (λg=>?_) (λg=>?_)
 .rw[g,eL]at q;exact pQ rd.bd.at_ ⟨Z',_,⟨Z',Z'⟩,A,V,z,Z',rd.bd,rd.k,M,.refl,q⟩
 .rw[show yf l V c z=lf from dH.mpr g,eW]at q;exact⟨M,.refl,q⟩
def GD:Fq P w K mg base 2 a.bR (zS a):=by
 refine fq G.bR.toDG vN (λr u=>⟨_,(pP (qg 3 vN (qv U1 G.h.toCls G.aT (zp G) r (qE (pV v0))))
 (pR (pW (qr (E9 Z') Z' G.bT FU (qE (qY Z' (xy (ix:=[Db,Fa 1,Fa 3]) (N':=["member","plan","rank"])) (qV U2) (qP 0) su (qy u (qv U1 G.h.toCls G.aT (zp G) r (qE v0)) U2))))))),?_⟩)
 rintro ds M Q ⟨p,x,q,l,r,ms,rfl,hp,pl,lr,h100,hx,hm,k⟩
 have hz:=dR;obtain⟨v,hv⟩:=xc hx;obtain⟨ph,gr,ws,Zb,pr,gd,rs,i1,_⟩:=id pl;refine pQ i1 ⟨Z',_,⟨Z',Z'⟩,pQ hp (i' Z' ⟨q,x,v,l,Z',pl,hv,?_⟩)⟩;refine i' lr (rK (f:=λd=>match d with|.str m=>.bl (decide (wm l m<wm l x))|_=>.nz) lr _ [] _ (by rw[c9];show 0+ms.length<=pi;omega) (λd hd k0 hk=>?_) λp1 Zo=>?_)
 .obtain⟨m,hmm,rfl⟩:=dI.mp hd;obtain⟨u,hu⟩:=xc (hm m hmm);have hk:k0 (.bl (decide (wm l m<wm l x))) M:=hk;rw[Jv hu,Jv hv]at hk;exact pQ i1 ⟨Z',_,⟨Z',Z'⟩,q,m,u,l,Z',pl,hu,hk⟩
 .have em:[]++(ms.map D.str).map (λd=>match d with|.str m=>.bl (decide (wm l m<wm l x))|_=>.nz)=ms.map λm=>D.bl (decide (wm l m<wm l x)):=by rw[eC,eA];rfl
  rw[em];refine i' pY (i' (yB (λm=>decide (wm l m<wm l x)) ms) ⟨M,.new Zo,?_⟩);unfold IC at k;rw[zC];exact k
def Nz(G:Gl K mg a)(x:Str):Fq P w K mg base 6 a.aQ (xE a (.breaks x)):=by
 refine fq G.aQ.toDG vM (λr u=>⟨_,(pP (qm (W3.b3 (yO (pZ u U2 (pV v0)) (xS (pZ u U3 (pV v0)))))
 (pR (pW wX))
 qd)
 (pP (qm (W3.b3 (yO (pZ u U3 (yD (pV U1) G.h.toCls G.U (uj G) r)) (xS (vd (uz (qa (E8 G) r G.P (rO U1 U2 U3)))))))
 (pR (pW wX))
 qd)
 (pP (qg 4 vM (qv U1 G.c.toCls G.M (xm G) r (qE U3)))
 (pP (qm (pZ u v4 so)
 (pR (pW wX))
 qd)
 (pP (qg 5 vM (pV (qe (pV U1) v4)))
 (pR (pW (sW (qy u (qr qU Z' G.g qR (qE v5)) pS) (sC (qv v0 G.o.toCls G.bR (GD G) r (sA (pV U1) v5))))))))))),?_⟩)
 rintro ds M Q ⟨p,A,V,l,c,z,rfl,hp,rd,YN,hx,q⟩
 have hx:x∈l.pn:=rq.mp hx;obtain⟨ph,gr,ws,Zb,pr,gd,rs,i1,_⟩:=rd.pl;have p8:=rd.ok.p8;dsimp only[Bh,Ii]at q;refine pQ hp ?_;refine qW (c:=!(c==x)) (λh1=>?_) (λh1=>?_)
 .rw[h1,il]at q;exact⟨M,.refl,q⟩
 rw[show(!(c==x))=lf from dH.mpr h1,fO]at q;refine pQ hp ?_;refine qW (c:=z==x) (λh2=>?_) (λh2=>?_)
 .rw[h2]at q;exact⟨M,.refl,q⟩
 rw[dq h2]at q;refine pQ rd.bd.at_ (i' Z' (pQ i1 ⟨Z',_,⟨Z',Z'⟩,V.p,l,Z',rd.pl,by omega,λq1 YM=>i' pY ⟨Z',qJ _,?_⟩⟩));have t:=qQ.new (c:=.lst (l.pn.map D.str)) YM;have Yg:=rd.sub t;generalize pX M q1 (.lst (l.pn.map D.str))=M1 at t Yg ⊢;show if (!(inD (.str z) (l.pn.map D.str)))=pc then _ else _
 rw[sH];refine qW (c:=!(hasS l.pn z)) (λh3=>?_) (λh3=>?_)
 .rw[h3,il]at q;exact⟨M,t,q⟩
 rw[show(!(hasS l.pn z))=lf from dH.mpr h3,fO]at q;refine⟨A,V,l,c,z,Z',Yg,YN,?_⟩;refine qW (c:=!(yf l V c z)) (λh4=>?_) (λh4=>?_)
 .rw[h4]at q;exact⟨M,t,q⟩
 rw[dq h4]at q;refine pQ Yg.bd.at_ ⟨Z',_,⟨Z',Z'⟩,A,V,z,Z',Yg.bd,Yg.k,?_⟩;cases e:vU V z with
 | none=>rw[e]at q;rw[show AY V z=.nz from by unfold AY;rw[e];rfl];exact⟨M,t,q⟩
 | some j=>
  rw[show AY V z=.int (j:Nat)from by unfold AY;rw[e];rfl];have hj:j<V.calls.length:=(iQ.mp e).1;have e2:V.calls[j]?=Fa V.calls[j]:=df hj;rw[e]at q;generalize V.calls[j]=k at e2;have q:Q (.bl (((V.calls[j]?).elim lf λk=>(k.ms.length==2)&&IC l x k.ms))) M:=q;rw[e2]at q;have hj:j<A.cs.length:=by rw[rd.bd.len];exact hj
  have ek:A.cs[j]?=Fa A.cs[j]:=df hj;obtain⟨ad,md,f1,f2,f3,f4,_⟩:=Yg.bd.cs j _ k ek e2;refine pQ Yg.bd.at_ (i' Z' (i' Z' (i' Yg.bd.ca (i' (qZ ek) (pQ f1 (i' Z' ?_))))));refine i' f4 ?_;have el:((((k.ms.map D.str).length:Nat):Int)==2)=(k.ms.length==2):=by rw[c9,gz,ft,ft];omega
  show if ((((k.ms.map D.str).length:Nat):Int)==2)=pc then _ else _
  rw[el];have q:Q (.bl ((k.ms.length==2)&&IC l x k.ms)) M:=q;refine qW (c:=k.ms.length==2) (λh5=>?_) (λh5=>?_)
  .rw[h5,eL]at q;have hm:=rd.ms k (rE e2);refine pQ (t _ _ hp) ⟨Z',_,⟨Z',Z'⟩,pQ Yg.bd.at_ (i' Z' ⟨p,x,V.p,l,md,k.ms,Z',t _ _ hp,Yg.pl,f4,hm.2,hx,hm.1,M,t,q⟩)⟩
  .rw[show(k.ms.length==2)=lf from dH.mpr h5,eW]at q;exact⟨M,t,q⟩
def Nm:Fq P w K mg base 1 a.q G4:=by
 refine fq G.q.toDG Cz (λr u=>⟨_,(pR (pW wX)),?_⟩)
 rintro ds M Q ⟨x,y,rfl,q⟩
 exact⟨M,.refl,q⟩
def SJ(G:Gl K mg a)(x y:Str)(n:Int):Fq P w K mg base 1 a.aE (Rn a (.silent x y n)):=by
 refine fq G.aE.toDG Ax (λr u=>⟨_,(pR (pW (sW (qy u (sR (pV U1) (tI (EE pS)) ue) (rh (qE (pV v0)))) (sC (qy u (pV v0) (pV U1)))))),?_⟩)
 rintro ds M Q ⟨p,L,k,c,rfl,hp,⟨ad,md,h1,h2,h3,h4,_⟩,q⟩
 refine pQ h1 (i' Z' (i' h2 λp1 Zo=>?_));have t1:=qQ.new (c:=.lst (L3.ut (c.way.map D.str) (Fa (-1:Int)) Db)) Zo;have l1:pI (pX M p1 (.lst (L3.ut (c.way.map D.str) (Fa (-1:Int)) Db))) p1=Fa ((c.way.map D.str).drop ((c.way.map D.str).length - 1)):=by rw[pY,LQ]
 show zK (pX M p1 (.lst (L3.ut (c.way.map D.str) (Fa (-1:Int)) Db)) p) _;generalize pX M p1 (.lst (L3.ut (c.way.map D.str) (Fa (-1:Int)) Db))=M1 at t1 l1 ⊢;refine pQ (t1 _ _ hp) ⟨pN Z',λp2 XT=>?_⟩;have t2:=qQ.new (c:=.lst [D.str x]) XT;have l2:=@pY M1 p2 [D.str x];show Option.elim (zE (pX M1 p2 (.lst [D.str x])) 9 (.ref p1) (.ref p2)) False _;generalize pX M1 p2 (.lst [D.str x])=M2 at t2 l2 ⊢;have s2:=t1.trans t2;refine i' (Qn (t2.lst l1) l2) ?_;dsimp only[Hg]at q;refine qW (c:=c.way.getLast?==Fa x) (λg=>?_) (λg=>?_)
 .rw[g,eL]at q;exact pQ (s2 _ _ hp) (pQ (s2 _ _ h1) ⟨M,s2,q⟩)
 .rw[show(c.way.getLast?==Fa x)=lf from dH.mpr g,eW]at q;exact⟨M,s2,q⟩
def SV:∀C sp,LK a C sp->yb P w K mg base 6 "fits" C (OO K sp):=by
 rintro C sp ⟨v,rfl,rfl⟩
 cases v with
 | bar x ns=>exact⟨G.r.toCls,_,_,_,G.aJ.nS,Ou G x ns,G.aJ.b⟩
 | shut x ns=>exact⟨G.t.toCls,_,_,_,G.aK.nS,Mr G x ns,G.aK.b⟩
 | always x y=>exact⟨G.w.toCls,_,_,_,G.aL.nS,Nf G x y,G.aL.b⟩
 | night x y f m=>exact⟨G.n.toCls,_,_,_,G.aM.nS,MX G x y f m,G.aM.b⟩
 | busy x y=>exact⟨G.x.toCls,_,_,_,G.aN.nS,LW G x y,G.aN.b⟩
 | silent x y n=>exact⟨G.u.toCls,_,_,_,G.aO.nS,Nb G x y n,G.aO.b⟩
 | wait x=>exact⟨G.v.toCls,_,_,_,G.aP.nS,MC G x,G.aP.b⟩
 | breaks x=>exact⟨G.o.toCls,_,_,_,G.aQ.nS,Nz G x,G.aQ.b⟩
def UE:∀C sp,He a C sp->yb P w K mg base 1 "is_due" C (OO K sp):=by
 rintro C sp ⟨v,rfl,rfl⟩
 have F:=Nm (P:=P) (w:=w) (base:=base) G;cases v with
 | silent x y n=>exact⟨G.u.toCls,_,_,_,G.aE.nS,SJ G x y n,G.aE.b⟩
 | bar _ _=>exact⟨G.r.toCls,_,_,_,G.cp,F,G.q.b⟩
 | shut _ _=>exact⟨G.t.toCls,_,_,_,G.cq,F,G.q.b⟩
 | always _ _=>exact⟨G.w.toCls,_,_,_,G.cr,F,G.q.b⟩
 | night _ _ _ _=>exact⟨G.n.toCls,_,_,_,G.cs,F,G.q.b⟩
 | busy _ _=>exact⟨G.x.toCls,_,_,_,G.ct,F,G.q.b⟩
 | wait _=>exact⟨G.v.toCls,_,_,_,G.cu,F,G.q.b⟩
 | breaks _=>exact⟨G.o.toCls,_,_,_,G.cv,F,G.q.b⟩
def JQ{es pre post:T0 D}{d:D}(e:pre++d::post=uY 0 es):∃x,es[pre.length]?=Fa x/\d=.tup [.int (pre.length:Nat),x]:=by
 have h:(uY 0 es)[pre.length]?=Fa d:=by rw[<-e];simp
 rw[zx]at h;cases q:es[pre.length]? with
 | none=>rw[q]at h;cases h
 | some x=>rw[q]at h;refine⟨x,Z',?_⟩;have:=(dB h).symm;rw[mT]at this;exact this
def vS(n:Nat):∀es:T0 D,(uY n es).length=es.length:=λes=>by
 have h:∀i:Nat,(uY n es)[i]?=Db↔es[i]?=Db:=λi=>by rw[zx];cases es[i]?<;>simp
 have a:=(h es.length).mpr (gN (dC _));have b:=(h (uY n es).length).mp (gN (dC _));rw[List.getElem?_eq_none_iff]at a b;omega
def J2{l:qc}{V:qT}{f:Wi->Bool}{tt:AE}{ok:Mp->Prop}{Q:DK}{M:Mp}{rest:T0 (Option D)}(hl:V.on.length=l.nk.length)(h16:l.nk.length<=16)(nB:ok M) (ht:∀(i:Nat) (w:vV),l.nk[i]?=Fa w->∀(y:Option D) (k:Bool->Mp->Prop),k (f w.2) M->tt (Fa (.int (i:Nat))::y::rest) M k) (q:∀p,M p=Db->Q (.ref p) (pX M p (.lst ((HZ l V f).map λn=>D.int (n:Nat))))):
  vi (RG 2 (zd (uq 0) (zd (uq 1) Ef))) (Qs (b3 (v3 1)) tt) (v3 0) ok Q (uY 0 (V.on.map D.bl)) [] (Db::Db::rest) M:=by
 have hz:=dR;refine vG (uY 0 (V.on.map D.bl)) (λpre acc U M'=>M=M'/\acc=((List.range pre.length).filter λi=>V.on.getD i lf&&(l.nk[i]?).elim lf λw=>f w.2).map (λn=>D.int (n:Nat))/\∃y1 y2,U=y1::y2::rest) (λ_ _ _ M' j=>by rw[<-j.1];exact nB) _ [] [] _ _ Z' ?_ ⟨Z',Z',Db,Db,Z'⟩ ?_ ?_
 .rw[vS,c9,hl];simp only[dS];omega
 .rintro pre d post e acc U M' ⟨rfl,rfl,y1,y2,rfl⟩ k k2 hk YY
  obtain⟨x,hx,rfl⟩:=JQ e;rw[dg,dX,jd,ic]at hk YY;rw[dJ]at hx;cases eo:V.on[pre.length]? with
  | none=>rw[eo]at hx;cases hx
  | some b=>
   rw[eo]at hx;have hx:D.bl b=x:=dB hx;subst hx;have hi:pre.length<l.nk.length:=by rw[<-hl];exact(dh.mp eo).1
   have ew:l.nk[pre.length]?=Fa l.nk[pre.length]:=df hi;generalize l.nk[pre.length]=w0 at ew;have eg:V.on.getD pre.length lf=b:=by rw[gv,eo];rfl
   have no:(b&&f w0.2)=lf->k2 (Fa (.int (pre.length:Nat))::Fa (.bl b)::rest) M:=λg=>by refine YY _ _ ⟨Z',?_,_,_,Z'⟩;rw[gF (by rw[eg,ew];show ¬(b&&f w0.2)=pc;rw[g];exact dF),ie,e9]
   refine⟨Z',?_⟩;show if b=pc then _ else _
   cases b with
   | false=>exact An (no Z')
   | true=>
    refine IS (ht _ _ ew _ _ ?_);cases g:f w0.2 with
    | false=>exact An (no (by rw[g];rfl))
    | true=>refine IS (hk _ _ _ ⟨Z',?_,_,_,Z'⟩);rw[gD (by rw[eg,ew];show(pc&&f w0.2)=pc;rw[g];rfl),ie,dY];rfl
 .rintro acc U M' ⟨rfl,rfl,y1,y2,rfl⟩ p hp
  rw[vS,c9];exact q p hp
def BI(h:tD a M rs ws){i:Nat}{w:vV}(e:ws[i]?=Fa w):∃r,wY (rs.map D.ref) (i:Nat)=Fa (.ref r)/\M r=Fa (.ins (w.2.cls a) w.2.oj):=by
 have hi:i<rs.length:=by rw[h.1];exact(dh.mp e).1
 exact⟨rs[i],vF (by rw[dJ,df hi];rfl),h.2 i _ w (df hi) e⟩
def Ol(ds:T0 D)(m:Nat):L3.ut ds Db (Fa (m:Int))=ds.take m:=by
 unfold L3.ut;rw[HT.B0,HT.JH,jq,lD];by_cases h:m<=ds.length
 .rw[mJ h]
 .rw[Nat.min_eq_right (by omega),fD,ig (by omega)]
def Ie(ds:T0 D)(m:Nat)(h:m<=ds.length):L3.ut ds (Fa (m:Int)) Db=ds.drop m:=by unfold L3.ut;rw[HT.B0,HT.JH,mJ h];exact ig (by rw[gw];exact dC _)
def uO(l:qc)(V:qT):Prop:=∀z∈l.nm,(l.nC z=="turns")=pc->∃v,V.ps.find? (λp=>decide (p.1=z))=Fa v/\0<=v.2/\v.2<=((l.ng z).length:Int)
def Mg{V:qT}(h:uO l V){z:Str}(hz:z∈l.nm)(e:(l.nC z=="turns")=pc):vZ (tX V.ps) (.inr z)=Fa (.int (zH V z:Nat))/\zH V z<=(l.ng z).length:=by
 obtain⟨v,e1,e2,e3⟩:=h z hz e;have h1:zH V z=v.2.toNat:=by unfold zH;rw[e1];rfl
 have h2:vZ (tX V.ps) (.inr z)=(V.ps.find? λp=>decide (p.1=z)).map λp=>D.int p.2:=yz (λp:Str×Int=>p.1) (λp=>D.int p.2) z V.ps;rw[h2,e1,h1];exact⟨by show Fa (D.int v.2)=Fa (.int (v.2.toNat:Nat));rw[Int.toNat_of_nonneg e2],by omega⟩
def HK(a:Ad):rL:=λds M Q=>HI λA V l c z=>ds=[.ref A.b,.str c,.str z]/\Rd a M A V l/\z∈l.nm/\Q (yt (DZ l V c z)) M
def Rc(a:Ad):rL:=λds M Q=>HI λA V l c z=>ds=[.ref A.b,.str c,.str z]/\Rd a M A V l/\z∈l.nm/\uO l V/\Q (names (yh l V c z)) M
def MU(a:Ad):rL:=λds M Q=>HI λA V l c z=>ds=[.ref A.b,.str c,.str z]/\Rd a M A V l/\z∈l.nm/\uO l V/\Q (IU l V c z).d M
def Kz:rL:=λds M Q=>BV λx r z=>ds=[.tup (.str x::r),.str z]/\Q (if (x=="wait")=pc then(wB.waits z).d else if (x=="break")=pc then(wB.breaks z).d else wB.barred.d) M
def rP(st:tQ):T0 D:=st.map λs=>.tup [.str s.1,yt s.2]
def MI(a:Ad):rL:=λds M Q=>T8 λA V l c z r way=>ds=[.ref A.b,.str c,.str z,.ref r]/\Rd a M A V l/\z∈l.nm/\uO l V/\pI M r=Fa (List.map D.str way)/\way.length<=8000000/\∀q M',qQ M M'->M q=Db->pI M' q=Fa (rP (vt l V c z way).2)->Q (.tup [(vt l V c z way).1.d,.ref q]) M'
def FX{V:qT}{f:Wi->Bool}{i:Nat}(h:i∈HZ l V f):∃w,l.nk[i]?=Fa w/\f w.2=pc:=by
 have h:=(fK.mp h).2;rw[d6]at h;cases e:l.nk[i]? with
 | none=>rw[e]at h;cases h.2
 | some w=>rw[e]at h;exact⟨w,Z',h.2⟩
def Jg(l:qc)(way:QQQ):Nat:=(l.nm.filter λx=>!(hasS way x)).length
def BJ{l:qc}{z:Str}(hz:z∈l.nm)(h:hasS way z=lf):Jg l (way++[z])<Jg l way:=by
 unfold Jg;have e:(l.nm.filter λx=>!(hasS (way++[z]) x))=(l.nm.filter λx=>!(hasS way x)).filter λx=>!(x==z):=by rw[List.filter_filter];refine List.filter_congr λx _=>?_;unfold hasS;rw[mI];show(!(way.any (·==x)||((z==x)||false)))=_;rw[jA,Bool.not_or,Bool.and_comm,jB]
 rw[e];refine Nat.lt_of_le_of_ne (gP _ _) λg=>?_;have:=k9.mp (List.Sublist.eq_of_length gp g) z (fK.mpr ⟨hz,by rw[h];rfl⟩);simp at this
def CT(ok:sj l){w:vV}(hw:w∈l.nk){z y:Str}(h:Ju z w.2=.inr y):y∈l.nm:=by
 have o:=ok.wo w hw;cases e:w.2 with
 | bar _ _=>rw[e]at h;cases h
 | shut _ _=>rw[e]at h;cases h
 | always x u=>rw[e]at h o;cases h;exact rq.mp o.2.1
 | night x u f m=>rw[e]at h o;cases h;exact rq.mp o.2.1
 | busy x u=>rw[e]at h o;cases h;exact rq.mp o.2.1
 | silent x u n=>rw[e]at h o;cases h;exact rq.mp o.2.1
 | wait _=>rw[e]at h;cases h
 | breaks _=>rw[e]at h;cases h
theorem EF(x:Str):∀ss:QQQ,x∈ss->Bk (.str x) (ss.map D.str)=Fa (ss.findIdx (·==x))
 | [],h=>by cases h
 | y::r,h=>by
  rw[eh,List.findIdx_cons];unfold Bk;show(if (y==x)=pc then Fa 0 else(Bk (.str x) (r.map D.str)).map (·+1))=_;cases e:y==x with
  | true=>rfl
  | false=>
   rw[dq dF];have hr:x∈r:=by
    rcases dA.mp h with g|g
    .rw[g,fg]at e;cases e
    .exact g
   rw[EF x r hr];rfl
def IE:Fq P w K mg base 7 a.aZ (HK a):=by
 refine fq G.aZ.toDG CS (λr u=>⟨_,(pP (qg 3 CS (pV (pV v0)))
 (pR (pW (qG sV Z' G.y sS (qE (qY Z' (xy (ix:=[Db,Db,Fa 3,Fa 0,Fa 1,Fa 2]) (N':=["i","on","wishes","board","caller","target"])) (xk Z' G.b0 (qE (pV v0))) (vp (n:=2) Z' (qN (qP 0) (qN (qP 1) tZ))) (uG (W3.b3 (vo (uz U1) (vh (uz (F1 (R:=LK a) (qe U2 v0) (SV G) (r.mono (by first|decide|omega)) (rO U3 v4 v5))))))) v0)))))),?_⟩)
 rintro ds M Q ⟨A,V,l,c,z,rfl,rd,hz,q⟩
 obtain⟨ph,gr,ws,Zb,pr,gd,rs,i1,i2,i3,i4,i5,i6,i7,i8⟩:=rd.pl;refine pQ rd.bd.at_ (i' Z' (pQ i1 (i' Z' ?_)));refine pQ rd.bd.at_ (i' Z' (i' rd.bd.on ?_));refine J2 (rest:=[Fa (.ref ws),Fa (.ref A.b),Fa (.str c),Fa (.str z)]) rd.on rd.ok.w16 rd.bd.on (λi w0 ew y k hk=>?_) λp hp=>i' pY ⟨M,.new hp,q⟩;obtain⟨r,e1,e2⟩:=BI i8 ew;refine i' i4 (i' e1 (pQ e2 ⟨by cases w0.2<;>rfl,_,⟨w0.2,Z',Z'⟩,r,A,V,l,c,z,Z',e2,rd,hz,rd.ok.wo w0 (rE ew),hk⟩))
def Re:Fq P w K mg base 5 a.a0 (Rc a):=by
 refine fq G.a0.toDG tS (λr u=>⟨_,(pP (qg 3 tS (qv v0 G.c.toCls G.aS (AL G) r (sA U1 U2)))
 (pP (qm (pZ u (qv (pV v0) G.h.toCls G.aR (ym G) r (qE U2)) pT)
 (pR (pW (qG sV Z' G.y sS (qE U3))))
 qd)
 (pP (qg 4 tS (qv (pV v0) G.h.toCls G.Y (uS G) r (qE U2)))
 (pP (qg 5 tS (zt u (pV v0) U2))
 (pP (tF (i:=6) tS.nd Z' (Or.inl Z') Z' (xy (ix:=[Db,Fa 3]) (N':=["phone","free"])) (qV (qx (sR v4 (tI v5) ue) (sR v4 ue (tI v5)))) (qP 0) (uG (pZ u v0 U1)) v0)
 (pR (pW (qG sV Z' G.y sS (qE (sR v6 ue (tI pS))))))))))),?_⟩)
 rintro ds M Q ⟨A,V,l,c,z,rfl,rd,YN,nx,q⟩
 have hz:=dR;have bd:=rd.bd;have pl:=rd.pl;obtain⟨ph,gr,ws,Zb,pr,gd,rs,i1,_⟩:=rd.pl;obtain⟨⟨_,tf,_⟩,_⟩:=rd.ok.of YN;refine pQ bd.at_ ⟨Z',_,⟨Z',Z'⟩,A,V,l,c,z,Z',rd,YN,λq1 M1 s1 YM e1=>?_⟩;refine pQ (s1 _ _ bd.at_) (i' Z' (pQ (s1 _ _ i1) ⟨Z',_,⟨Z',Z'⟩,V.p,z,l,Z',pl.sub s1,?_⟩));unfold yh at q;cases e:l.nC z=="turns" with
 | false=>rw[e]at q;exact Bd (c:=!(l.nC z=="turns")) (by rw[e];rfl) (i' e1 ⟨M,s1,q⟩)
 | true=>
  obtain⟨hn,nl⟩:=Mg nx YN e;generalize zH V z=n at hn nl q;rw[e,dw Z']at q;refine L5 (c:=!(l.nC z=="turns")) (by rw[e];rfl) ?_;refine pQ (s1 _ _ bd.at_) (i' Z' (pQ (s1 _ _ i1) ⟨Z',_,⟨Z',Z'⟩,V.p,z,l,Z',pl.sub s1,λq2 Z2=>?_⟩));have s2:=s1.trans (qQ.new (c:=.lst ((l.ng z).map D.str)) Z2);have c2:=@pY M1 q2 ((l.ng z).map D.str);have e2:=(qQ.new (c:=.lst ((l.ng z).map D.str)) Z2).lst e1;generalize pX M1 q2 (.lst ((l.ng z).map D.str))=M2 at s2 c2 e2 ⊢;refine pQ (s2 _ _ bd.at_) (i' Z' (i' Z' (i' (s2.dk bd.nx) (i' hn ?_))));refine i' c2 λq3 hq3=>?_;rw[Ie _ n (by rw[c9];exact nl),<-kU];have t3:=qQ.new (c:=.lst (((l.ng z).drop n).map D.str)) hq3;have c3':=@pY M2 q3 (((l.ng z).drop n).map D.str);generalize pX M2 q3 (.lst (((l.ng z).drop n).map D.str))=M3 at t3 c3' ⊢;refine i' (t3.lst c2) λq4 hq4=>?_;rw[Ol,<-mO];have t4:=qQ.new (c:=.lst (((l.ng z).take n).map D.str)) hq4;have c4:=@pY M3 q4 (((l.ng z).take n).map D.str);generalize pX M3 q4 (.lst (((l.ng z).take n).map D.str))=M4 at t4 c4 ⊢;refine i' (t4.lst c3') (i' c4 ?_);refine⟨by rw[c9,c9,gw,fT];omega,λq5 hq5=>i' pY ?_⟩;rw[<-dY];have t5:=qQ.new (c:=.lst ((vw (l.ng z) n).map D.str)) hq5;have c5:=@pY M4 q5 ((vw (l.ng z) n).map D.str);show vi _ _ _ _ _ ((vw (l.ng z) n).map D.str) _ _ (pX M4 q5 (.lst ((vw (l.ng z) n).map D.str)));generalize pX M4 q5 (.lst ((vw (l.ng z) n).map D.str))=M5 at t5 c5 ⊢;have s5:=t3.trans (t4.trans t5);have e5:=s5.lst e2;have tl:(vw (l.ng z) n).length<=200:=by unfold vw;rw[dg,gw,fT];omega
  refine ua (f:=id) (t:=λd=>inD d ((uR l V c z).map D.str)) c5 _ [] _ (by rw[c9];simp only[dS];omega) (λd hd k hk=>?_) (λd hd _ k hk=>?_) λq6 hq6=>?_
  .obtain⟨x,hx,rfl⟩:=dI.mp hd;exact i' e5 ⟨Z',qJ _,hk⟩
  .obtain⟨x,hx,rfl⟩:=dI.mp hd;exact hk
  .have ef:[]++(List.filter (λd=>inD d ((uR l V c z).map D.str)) ((vw (l.ng z) n).map D.str)).map id=((vw (l.ng z) n).filter λx=>hasS (uR l V c z) x).map D.str:=by
    rw[eC,jt,gO];have:((λd=>inD d ((uR l V c z).map D.str))∘D.str)=λx=>hasS (uR l V c z) x:=by funext x;exact sH _ _
    rw[this]
   rw[ef];refine i' pY λq7 hq7=>i' pY ?_;rw[show L3.ut (((vw (l.ng z) n).filter λx=>hasS (uR l V c z) x).map D.str) Db (Fa (1:Int))=(((vw (l.ng z) n).filter λx=>hasS (uR l V c z) x).take 1).map D.str from(Ol _ 1).trans (mO).symm];exact⟨M,s2.trans (s5.trans ((qQ.new hq6).trans (.new hq7))),q⟩
def Ma:Fq P w K mg base 6 a.a1 (MU a):=by
 refine fq G.a1.toDG vA (λr u=>⟨_,(pP (qg 3 vA (qa (Re G) r G.a0 (rO v0 U1 U2)))
 (pP (qm (pZ u (qr qU Z' G.g qR (qE U3)) pS)
 (pR (pW (qk (sA pT U2))))
 qd)
 (pR (pW (qk (rO pT U2 U3)))))),?_⟩)
 rintro ds M Q ⟨A,V,l,c,z,rfl,rd,hz,nx,q⟩
 refine⟨A,V,l,c,z,Z',rd,hz,nx,?_⟩;unfold IU at q;cases e:yh l V c z with
 | nil=>rw[e]at q;exact⟨pN Z',M,.refl,q⟩
 | cons x r=>rw[e]at q;exact⟨pN Z',M,.refl,q⟩
def KM:Fq P w K mg base 1 a.a2 Kz:=by
 refine fq G.a2.toDG Ak (λr u=>⟨_,(pP (qm (pZ u (qe v0 pS) pT)
 (pR (pW (qk (sA pT U1))))
 qd)
 (pP (qm (pZ u (qe v0 pS) pT)
 (pR (pW (qk (sA pT U1))))
 qd)
 (pR (pW (qk (qE pT)))))),?_⟩)
 rintro ds M Q ⟨x,r,z,rfl,q⟩
 refine i' (yN _ _) (qW (c:=x=="wait") (λg=>?_) (λg=>?_))
 .rw[dw g]at q;exact⟨pN Z',M,.refl,q⟩
 rw[dq g]at q;refine i' (yN _ _) (qW (c:=x=="break") (λg=>?_) (λg=>?_))
 .rw[dw g]at q;exact⟨pN Z',M,.refl,q⟩
 rw[dq g]at q;exact⟨pN Z',M,.refl,q⟩
def NB:Fq P w K mg base 8 a.a3 (MI a):=by
 refine fq G.a3.toDG wV (λr u=>⟨_,(pP (qg 4 wV (qG uE Z' G.z uf (qE U3)))
 (pP (qg 5 wV (rh tz))
 (pP (NC fC (pZ u U2 v4)
 (pP (ql (sv v4 (qE U2)))
 (pP (qg 6 wV (qa (IE G) r G.aZ (rO v0 U1 U2)))
 (pP (ql (sv v5 (qE (qk (sA U2 v6)))))
 (pP (qm (pZ u (qr qU Z' G.g qR (qE v6)) pS)
 (pR (pW (qk (sA (qa (Ma G) r G.a1 (rO v0 U1 U2)) v5))))
 qd)
 (pP (qg 7 wV (Cs (R:=Kd a) (qe (pV (pV v0)) (qe v6 pS)) (Qv G) (r.mono (by first|decide|omega))))
 (pP (qm (pZ u (qe v7 pS) pT)
 (pR (pW (qk (sA (qa (KM G) r G.a2 (sA v7 U2)) v5))))
 qd)
 (pR (qg 2 wV (qe v7 pS))))))))))
 (pR (pW (qk (sA (qk (sA pT (qG sV Z' G.y sS (qE (sR v4 (tI (yk v4 (qE U2))) ue))))) v5))))))),?_⟩)
 rintro ds M Q ⟨A,V,l,c,z0,r,Y5,rfl,rd,hz0,nx,hr0,hw0,q⟩
 have hz:=dR;have p8:=rd.ok.p8;have g3:=rd.ok.g3;have nl:l.nm.length<=11:=by unfold qc.nm qc.pn qc.gn;rw[dg,c9,c9];omega
 refine i' hr0 λp1 Zo=>⟨pN Z',λp2 XT=>?_⟩;have t1:=qQ.new (c:=.lst (Y5.map D.str)) Zo;have t2:=qQ.new (c:=.lst []) XT;have c1:pI (pX (pX M p1 (.lst (Y5.map D.str))) p2 (.lst [])) p1=Fa (Y5.map D.str):=t2.lst pY;have c2:=@pY (pX M p1 (.lst (Y5.map D.str))) p2 [];have n12:p2≠p1:=λy=>by rw[y,qp]at XT;cases XT
 have m2:M p2=Db:=t1.none XT;have s2:=t1.trans t2;generalize pX (pX M p1 (.lst (Y5.map D.str))) p2 (.lst [])=M2 at c1 c2 s2 ⊢;refine⟨λm U M'=>∃z way st,qQ M M'/\pI M' p1=Fa (List.map D.str way)/\pI M' p2=Fa (rP st)/\z∈l.nm/\Jg l way<m/\way.length+m<=8000012/\st.length+m<=100/\xf l V c m z way st=vt l V c z0 Y5/\∃y6 y7,U=[Fa (.ref A.b),Fa (.str c),Fa (.str z),Fa (.ref r),Fa (.ref p1),Fa (.ref p2),y6,y7],⟨l.nm.length+1,z0,Y5,[],s2,c1,c2,hz0,Nat.lt_succ_of_le (gP _ _),by omega,by show 0+(l.nm.length+1)<=100;omega,Z',Db,Db,Z'⟩,?_⟩
 rintro m U M' ⟨z,way,st,sM,l1,l2,YN,XU,hwl,ZH,er,y6,y7,rfl⟩
 obtain⟨m,rfl⟩:∃k,m=k+1:=⟨m - 1,by omega⟩;have q2:∀XM,qQ M XM->pI XM p2=Fa (rP (xf l V c (m+1) z way st).2)->Q (.tup [(xf l V c (m+1) z way st).1.d,.ref p2]) XM:=λXM s ll=>by rw[er]at ll ⊢;exact q p2 XM s m2 ll
 clear q;unfold xf at er q2;refine i' l1 ⟨Z',qJ way,?_⟩;show if (!(inD (.str z) (way.map D.str)))=pc then _ else _
 rw[sH];refine qW (c:=!(hasS way z)) (λh1=>?_) (λh1=>?_)
 rotate_left
 .
  have h1:hasS way z=pc:=by simpa using h1
  rw[dw h1]at q2;refine⟨by show(pI M' p1).isSome=pc;rw[l1];rfl,i' l1 ⟨Z',qJ _,i' (EF z way (rq.mp h1)) (i' l1 λp3 YX=>?_)⟩⟩;have hle:way.findIdx (·==z)<=(way.map D.str).length:=by rw[c9];exact List.findIdx_le_length
  rw[Ie _ _ hle,<-kU];refine i' pY ⟨pN Z',pN Z',_,.refl,q2 _ (sM.trans (.new YX)) ((qQ.new YX).lst l2)⟩
 have h1:hasS way z=lf:=by simpa using h1
 rw[h1,dq dF]at er q2;refine⟨by show(pI M' p1).isSome=pc;rw[l1];rfl,i' l1 ⟨by rw[c9];omega,?_⟩⟩;have k3:sT p1 M' (pX M' p1 (.lst (way.map D.str++[D.str z]))):=.put;have s3:qQ M (pX M' p1 (.lst (way.map D.str++[D.str z]))):=λx d hx=>by rw[uF (RI hx Zo)];exact sM x d hx
 have c3:=k3.lst n12 l2;have l3:pI (pX M' p1 (.lst (way.map D.str++[D.str z]))) p1=Fa ((way++[z]).map D.str):=by rw[pY,dY];rfl
 generalize pX M' p1 (.lst (way.map D.str++[D.str z]))=M3 at s3 c3 l3 ⊢;refine⟨A,V,l,c,z,Z',rd.sub s3,YN,?_⟩;generalize hf:DZ l V c z=fs at er q2 ⊢;refine⟨by show(pI M3 p2).isSome=pc;rw[c3];rfl,pN Z',i' c3 ⟨by unfold rP;rw[c9];omega,?_⟩⟩;have es:rP st++[.tup [.str z,yt fs]]=rP (st++[(z,fs)]):=by unfold rP;rw[dY];rfl
 rw[es];have s4:qQ M (pX M3 p2 (.lst (rP (st++[(z,fs)])))):=λx d hx=>by rw[uF (RI hx m2)];exact s3 x d hx
 have c4:=@pY M3 p2 (rP (st++[(z,fs)]));have l4:pI (pX M3 p2 (.lst (rP (st++[(z,fs)])))) p1=Fa ((way++[z]).map D.str):=sT.lst .put (dW n12) l3;generalize pX M3 p2 (.lst (rP (st++[(z,fs)])))=M4 at s4 c4 l4 ⊢;cases fs with
 | nil=>exact⟨A,V,l,c,z,Z',rd.sub s4,YN,nx,pN Z',M4,.refl,q2 M4 s4 c4⟩
 | cons i fr=>
  obtain⟨w0,ew,_⟩:=FX (l:=l) (V:=V) (f:=Bh l V c z) (i:=i) (by show i∈DZ l V c z;rw[hf];exact dO);dsimp only at er q2;rw[ew]at er q2;dsimp only[Option.elim]at er q2;obtain⟨ph,gr,ws,Zb,pr,gd,rs,i1,i2,i3,i4,i5,i6,i7,i8⟩:=(rd.sub s4).pl;obtain⟨rw0,e1,e2⟩:=BI i8 ew;have hwo:=rd.ok.wo w0 (rE ew);have hnm:∀y,Ju z w0.2=.inr y->y∈l.nm:=λy h=>CT rd.ok (rE ew) h;refine pQ (s4 _ _ rd.bd.at_) (i' Z' (pQ i1 (i' Z' (i' (yN _ _) (i' i4 (i' e1 ?_))))));cases hv:w0.2 with
  | bar x ns=>rw[hv]at q2 e2;exact pQ e2 ⟨Z',_,.inl ⟨.inl Z',Z'⟩,rw0,Z',⟨"end",[],z,Z',pN Z',M4,.refl,q2 M4 s4 c4⟩⟩
  | shut x ns=>rw[hv]at q2 e2;exact pQ e2 ⟨Z',_,.inl ⟨.inr Z',Z'⟩,rw0,Z',⟨"end",[],z,Z',pN Z',M4,.refl,q2 M4 s4 c4⟩⟩
  | wait x=>rw[hv]at q2 e2;exact pQ e2 ⟨Z',_,.inr (.inr (.inl ⟨Z',Z'⟩)),rw0,_,_,_,Z',e2,Z',⟨"wait",_,z,Z',pN Z',M4,.refl,q2 M4 s4 c4⟩⟩
  | breaks x=>rw[hv]at q2 e2;exact pQ e2 ⟨Z',_,.inr (.inr (.inr ⟨Z',Z'⟩)),rw0,Z',⟨"break",_,z,Z',pN Z',M4,.refl,q2 M4 s4 c4⟩⟩
  | always x y=>rw[hv]at er e2 hnm;exact pQ e2 ⟨Z',_,.inr (.inl ⟨.inl Z',Z'⟩),rw0,_,_,_,Z',e2,Z',⟨m,fM _,y,way++[z],st++[(z,i::fr)],s4,l4,c4,hnm y Z',by have:=BJ YN h1;omega,by rw[dg];show way.length+1+m<=_;omega,by rw[dg];show st.length+1+m<=_;omega,er,_,_,Z'⟩⟩
  | night x y f mm=>rw[hv]at er e2 hnm;exact pQ e2 ⟨Z',_,.inr (.inl ⟨.inr (.inl Z'),Z'⟩),rw0,_,_,_,Z',e2,Z',⟨m,fM _,y,way++[z],st++[(z,i::fr)],s4,l4,c4,hnm y Z',by have:=BJ YN h1;omega,by rw[dg];show way.length+1+m<=_;omega,by rw[dg];show st.length+1+m<=_;omega,er,_,_,Z'⟩⟩
  | busy x y=>rw[hv]at er e2 hnm;exact pQ e2 ⟨Z',_,.inr (.inl ⟨.inr (.inr (.inl Z')),Z'⟩),rw0,_,_,_,Z',e2,Z',⟨m,fM _,y,way++[z],st++[(z,i::fr)],s4,l4,c4,hnm y Z',by have:=BJ YN h1;omega,by rw[dg];show way.length+1+m<=_;omega,by rw[dg];show st.length+1+m<=_;omega,er,_,_,Z'⟩⟩
  | silent x y n=>rw[hv]at er e2 hnm;exact pQ e2 ⟨Z',_,.inr (.inl ⟨.inr (.inr (.inr Z')),Z'⟩),rw0,_,_,_,Z',e2,Z',⟨m,fM _,y,way++[z],st++[(z,i::fr)],s4,l4,c4,hnm y Z',by have:=BJ YN h1;omega,by rw[dg];show way.length+1+m<=_;omega,by rw[dg];show st.length+1+m<=_;omega,er,_,_,Z'⟩⟩
noncomputable def za(V:qT)(i:Nat)(c:pU):qT:={V with calls:=V.calls.set i c}
def sP(V:qT)(i:Nat)(c d:pU):za (za V i c) i d=za V i d:=by unfold za;rw[jc]
structure CI(a:Ad)(M:Mp)(A:ui)(V:qT)(i:Nat)(k:rR)(c:pU):Prop where
 bd:qh a M A V
 e1:A.cs[i]?=Fa k
 e2:V.calls[i]?=Fa c
noncomputable def cF(x:Str)(wy ad md:Uf)(k:Nat):T0 (Str×D):=List.take (α:=Str×D) k [("state",.str "rings"),("caller",.str x),("way",.ref wy),("at",.ref ad),("members",.ref md),("holder",.nz),("since",.int 0)]
variable {M':Mp}{i:Nat}{k:rR}
section
variable {c:pU}
def CI.cell(h:CI a M A V i k c):rV a M (A.lists++V.fo) k c:=h.bd.cs i k c h.e1 h.e2
def CI.sub(h:CI a M A V i k c)(s:qQ M M'):CI a M' A V i k c:=⟨h.bd.sub s,h.e1,h.e2⟩
def CI.put(h:CI a M A V i k c)(c':pU){ad md:Uf}(ew:c'.way=c.way)(la:pI M ad=Fa (c'.at_.map D.str))(lm:pI M md=Fa (c'.ms.map D.str))(na:ad∉A.lists++V.fo)(nm:md∉A.lists++V.fo):
  CI a (pX M k.p (.ins a.e (rN c' k.wy ad md))) A (za V i c') i k c'/\rB A M A (pX M k.p (.ins a.e (rN c' k.wy ad md))):=by
 obtain⟨b,s⟩:=h.bd.oQ h.e1 h.e2 ew la lm na nm;refine⟨⟨b,h.e1,?_⟩,s⟩;show(V.calls.set i c')[i]?=Fa c';rw[eU (dh.mp h.e2).1]
end
inductive Rr(i:Nat)(c:pU):Ev->pU->Prop
 | rings (ps:QQQ):Rr i c (.rings i ps) (c.ring ps)
 | quiet:Rr i c (.quiet i) c.oo
 | waits (x:Str):Rr i c (.waits i x) (c.wait x)
 | talks (ms:QQQ):Rr i c (.talks i ms) (c.og ms)
 | held (x:Str):Rr i c (.held i x) (c.hold x)
 | leaves (x:Str):Rr i c (.leaves i x) (c.drop x)
 | over (w:Str):Rr i c (.over i w) (c.over w)
def G1(a:Ad):rL:=λds M Q=>AU λp x=>ds=[.ref p,.str x]/\M p=Fa (.ins a.e [])/\∀M' wy ad md,sT p M M'->M wy=Db->M ad=Db->M md=Db->ad≠wy->md≠wy->M' p=Fa (.ins a.e (rN (zy x) wy ad md))->pI M' wy=Fa []->pI M' ad=Fa []->pI M' md=Fa []->Q .nz M'
def PL(a:Ad):rL:=λds M Q=>Ls λA V i k c w=>ds=[.ref k.p,.str w]/\CI a M A V i k c/\∀M',rB A M A M'->qh a M' A (za V i (c.over w))->Q .nz M'
def Mt(a:Ad):rL:=λds M Q=>Ls λA V i k c x=>ds=[.ref k.p,.str x]/\CI a M A V i k c/\c.at_.length<=100/\c.ms.length<=100/\∀M',rB A M A M'->qh a M' A (za V i (c.drop x))->Q .nz M'
def Lr(a:Ad):rL:=λds M Q=>T8 λA V i k c e c'=>ds=[.ref k.p,Ev.d e]/\CI a M A V i k c/\c.at_.length<=100/\c.ms.length<=100/\Rr i c e c'/\∀M',rB A M A M'->qh a M' A (za V i c')->Q .nz M'
def PX:Fq P w K mg base 1 a.aA (G1 a):=by
 refine fq G.aA.toDG EJ (λr u=>⟨_,(pP (qC v0 pT)
 (pP (qC v0 U1)
 (pP (qC v0 (rh tz))
 (pP (qC v0 (rh tz))
 (pP (qC v0 (rh tz))
 (pP (qC v0 so)
 (pP (qC v0 pS)
 (pR (qC v0 so))))))))),?_⟩)
 rintro ds M Q ⟨p,x,rfl,hb,q⟩
 refine pQ hb ⟨(G.j "state" Z'),by show 0<1000;decide,?_⟩;have k1:sT p M (pX M p (.ins a.e [("state",.str "rings")])):=.put;have b1:pX M p (.ins a.e [("state",.str "rings")]) p=Fa (.ins a.e [("state",.str "rings")]):=qp;show ur _ _ _ _ (pX M p (.ins a.e [("state",.str "rings")]));generalize pX M p (.ins a.e [("state",.str "rings")])=N1 at k1 b1 ⊢;refine pQ b1 ⟨(G.j "caller" Z'),by show 1<1000;decide,?_⟩;have k2:=k1.trans (sT.put (p:=p) (c:=.ins a.e [("state",.str "rings"),("caller",.str x)]));have b2:pX N1 p (.ins a.e [("state",.str "rings"),("caller",.str x)]) p=Fa (.ins a.e [("state",.str "rings"),("caller",.str x)]):=qp;show ur _ _ _ _ (pX N1 p (.ins a.e [("state",.str "rings"),("caller",.str x)]));generalize pX N1 p (.ins a.e [("state",.str "rings"),("caller",.str x)])=N2 at k2 b2 ⊢;refine⟨pN Z',λwy hwy=>?_⟩;obtain⟨n3,e3,k3,c3,b3⟩:=tM (fs':=(cF x wy 0 0 3)) (c:=.lst []) b2 hwy;refine pQ e3 ⟨(G.j "way" Z'),by show 2<1000;decide,?_⟩;show ur _ _ _ _ (pX (pX N2 wy (.lst [])) p (.ins a.e (cF x wy 0 0 3)));generalize pX (pX N2 wy (.lst [])) p (.ins a.e (cF x wy 0 0 3))=N3 at k3 c3 b3 ⊢;have z1:M wy=Db:=rZ k2 b2 hwy;have kk3:=k2.trans k3;have l3:pI N3 wy=Fa []:=tH c3;refine⟨pN Z',λad Z1=>?_⟩;obtain⟨n4,e4,k4,c4,b4⟩:=tM (fs':=(cF x wy ad 0 4)) (c:=.lst []) b3 Z1;refine pQ e4 ⟨(G.j "at" Z'),by show 3<1000;decide,?_⟩;show ur _ _ _ _ (pX (pX N3 ad (.lst [])) p (.ins a.e (cF x wy ad 0 4)));generalize pX (pX N3 ad (.lst [])) p (.ins a.e (cF x wy ad 0 4))=N4 at k4 c4 b4 ⊢;have z2:M ad=Db:=rZ kk3 b3 Z1;have ZL:=kk3.trans k4;have naw:ad≠wy:=λz=>by rw[z,c3]at Z1;cases Z1
 have l4:=k4.lst (qu l3 b3) l3;have m4:pI N4 ad=Fa []:=tH c4;refine⟨pN Z',λmd hmd=>?_⟩;obtain⟨n5,e5,k5,c5,b5⟩:=tM (fs':=(cF x wy ad md 5)) (c:=.lst []) b4 hmd;refine pQ e5 ⟨(G.j "members" Z'),by show 4<1000;decide,?_⟩;show ur _ _ _ _ (pX (pX N4 md (.lst [])) p (.ins a.e (cF x wy ad md 5)));generalize pX (pX N4 md (.lst [])) p (.ins a.e (cF x wy ad md 5))=N5 at k5 c5 b5 ⊢;have z3:M md=Db:=rZ ZL b4 hmd;have ZM:=ZL.trans k5;have nmw:md≠wy:=λz=>by rw[z,qM l4]at hmd;cases hmd
 have l5:=k5.lst (qu l4 b4) l4;have m5:=k5.lst (qu m4 b4) m4;have o5:pI N5 md=Fa []:=tH c5;refine pQ b5 ⟨(G.j "holder" Z'),by show 5<1000;decide,?_⟩;have k6:sT p N5 (pX N5 p (.ins a.e (cF x wy ad md 6))):=.put;have b6:pX N5 p (.ins a.e (cF x wy ad md 6)) p=Fa (.ins a.e (cF x wy ad md 6)):=qp;show ur _ _ _ _ (pX N5 p (.ins a.e (cF x wy ad md 6)));generalize pX N5 p (.ins a.e (cF x wy ad md 6))=N6 at k6 b6 ⊢;refine pQ b6 ⟨(G.j "since" Z'),by show 6<1000;decide,?_⟩;have k7:=k6.trans (sT.put (p:=p) (c:=.ins a.e (cF x wy ad md 7)));have b7:pX N6 p (.ins a.e (cF x wy ad md 7)) p=Fa (.ins a.e (cF x wy ad md 7)):=qp;rw[show wG "since" (.int 0) (cF x wy ad md 6)=(cF x wy ad md 7)from Z'];generalize pX N6 p (.ins a.e (cF x wy ad md 7))=N7 at k7 b7 ⊢;refine pQ b7 ⟨(G.j "word" Z'),by show 7<1000;decide,_,.refl,?_⟩;have k8:=k7.trans (sT.put (p:=p) (c:=.ins a.e (rN (zy x) wy ad md)));exact q _ wy ad md (ZM.trans k8) z1 z2 z3 naw nmw qp (k8.lst (qu l5 b5) l5) (k8.lst (qu m5 b5) m5) (k8.lst (qu o5 b5) o5)
def Jk:Fq P w K mg base 1 a.ac (PL a):=by
 refine fq G.ac.toDG G9 (λr u=>⟨_,(pP (qC v0 pT)
 (pP (qC v0 U1)
 (pP (qC v0 (rh tz))
 (pP (qC v0 (rh tz))
 (pR (qC v0 so)))))),?_⟩)
 rintro ds M Q ⟨A,V,i,k,c,w0,rfl,h,q⟩
 obtain⟨ad,md,h1,h2,h3,h4,n1,n2⟩:=h.cell;refine pQ h1 ⟨(G.j "state" Z'),by show 8<1000;decide,?_⟩;obtain⟨g1,s1⟩:=h.put {c with st:="over"} Z' h3 h4 n1 n2;show ur _ _ _ _ (pX M k.p (.ins a.e (rN {c with st:="over"} k.wy ad md)));generalize pX M k.p (.ins a.e (rN {c with st:="over"} k.wy ad md))=M1 at g1 s1 ⊢;clear h1 h2 h3 h4 n1 n2;obtain⟨ad,md,h1,h2,h3,h4,n1,n2⟩:=g1.cell;refine pQ h1 ⟨(G.j "word" Z'),by show 8<1000;decide,?_⟩;obtain⟨g2,s2⟩:=g1.put {c with st:="over",wd:=some w0} Z' h3 h4 n1 n2;show ur _ _ _ _ (pX M1 k.p (.ins a.e (rN {c with st:="over",wd:=some w0} k.wy ad md)));generalize pX M1 k.p (.ins a.e (rN {c with st:="over",wd:=some w0} k.wy ad md))=M2 at g2 s2 ⊢;clear h1 h2 h3 h4 n1 n2;refine⟨pN Z',λp hp=>?_⟩;have t3:=qQ.new (c:=.lst []) hp;have lp:=@pY M2 p [];have np:=g2.bd.nV hp;have Z4:=g2.sub t3;have s2':=s2.trans (.sub t3);generalize pX M2 p (.lst [])=M2' at t3 lp Z4 s2' ⊢;obtain⟨ad,md,h1,h2,h3,h4,n1,n2⟩:=Z4.cell;refine pQ h1 ⟨(G.j "at" Z'),by show 8<1000;decide,?_⟩;obtain⟨g3,s3⟩:=Z4.put {c with st:="over",wd:=some w0,at_:=[]} Z' lp h4 np n2;show ur _ _ _ _ (pX M2' k.p (.ins a.e (rN {c with st:="over",wd:=some w0,at_:=[]} k.wy p md)));generalize pX M2' k.p (.ins a.e (rN {c with st:="over",wd:=some w0,at_:=[]} k.wy p md))=M3 at g3 s3 ⊢;clear h1 h2 h3 h4 n1 n2 lp t3 np g2 Z4;refine⟨pN Z',λp2 XT=>?_⟩;have t4:=qQ.new (c:=.lst []) XT;have lp:=@pY M3 p2 [];have np:=g3.bd.nV XT;have g3':=g3.sub t4;have s3':=s3.trans (.sub t4);generalize pX M3 p2 (.lst [])=M3' at t4 lp g3' s3' ⊢;obtain⟨ad,md,h1,h2,h3,h4,n1,n2⟩:=g3'.cell;refine pQ h1 ⟨(G.j "members" Z'),by show 8<1000;decide,?_⟩;obtain⟨g4,s4⟩:=g3'.put {c with st:="over",wd:=some w0,at_:=[],ms:=[]} Z' h3 lp n1 np;rw[show wG "members" (.ref p2) (rN {c with st:="over",wd:=some w0,at_:=[]} k.wy ad md)=rN {c with st:="over",wd:=some w0,at_:=[],ms:=[]} k.wy ad p2 from rfl];generalize pX M3' k.p (.ins a.e (rN {c with st:="over",wd:=some w0,at_:=[],ms:=[]} k.wy ad p2))=M4 at g4 s4 ⊢;clear h1 h2 h3 h4 n1 n2 lp t4 np g3 g3';obtain⟨ad,md,h1,h2,h3,h4,n1,n2⟩:=g4.cell;refine pQ h1 ⟨(G.j "holder" Z'),by show 8<1000;decide,_,.refl,?_⟩;obtain⟨g5,s5⟩:=g4.put (c.over w0) Z' h3 h4 n1 n2;refine q _ ((s1.trans s2').trans (s3'.trans (s4.trans s5))) ?_;have:=g5.bd;rw[sP,sP,sP,sP]at this;exact this
def Mi:Fq P w K mg base 1 a.aW (Mt a):=by
 refine fq G.aW.toDG Dt (λr u=>⟨_,(pP (qC v0 (qY Z' (xy (ix:=[Db,Fa 1]) (N':=["other","phone"])) (qV (pV v0)) (qP 0) (uG (pZ u v0 U1)) v0))
 (pR (qC v0 (qY Z' (xy (ix:=[Db,Fa 1]) (N':=["other","phone"])) (qV (pV v0)) (qP 0) (uG (pZ u v0 U1)) v0)))),?_⟩)
 rintro ds M Q ⟨A,V,i,k,c,x,rfl,h,la,lm,q⟩
 have hz:=dR;obtain⟨ad,md,h1,h2,h3,h4,n1,n2⟩:=h.cell;refine pQ h1 (i' Z' (i' h3 (ua (f:=id) (t:=Px x) h3 _ [] _ (by rw[c9];simp only[dS];omega) (λd hd k0 hk=>?_) (λd hd _ k0 hk=>?_) λp hp=>?_)))
 .obtain⟨y,hy,rfl⟩:=dI.mp hd;exact hk
 .obtain⟨y,hy,rfl⟩:=dI.mp hd;exact hk
 rw[Co];have t1:=qQ.new (c:=.lst ((r6 c.at_ x).map D.str)) hp;have lp:=@pY M p ((r6 c.at_ x).map D.str);have np:=h.bd.nV hp;have h':=h.sub t1;have s1:rB A M A (pX M p (.lst ((r6 c.at_ x).map D.str))):=.sub t1;generalize pX M p (.lst ((r6 c.at_ x).map D.str))=M1 at t1 lp h' s1 ⊢;clear h1 h2 h3 h4 n1 n2;obtain⟨ad,md,h1,h2,h3,h4,n1,n2⟩:=h'.cell;refine pQ h1 ⟨(G.j "at" Z'),by show 8<1000;decide,?_⟩;obtain⟨g2,s2⟩:=h'.put {c with at_:=r6 c.at_ x} Z' lp h4 np n2;rw[show wG "at" (.ref p) (rN c k.wy ad md)=rN {c with at_:=r6 c.at_ x} k.wy p md from rfl];generalize pX M1 k.p (.ins a.e (rN {c with at_:=r6 c.at_ x} k.wy p md))=M2 at g2 s2 ⊢;clear h1 h2 h3 h4 n1 n2 lp np;obtain⟨ad,md,h1,h2,h3,h4,n1,n2⟩:=g2.cell;refine pQ h1 (i' Z' (i' h4 (ua (f:=id) (t:=Px x) h4 _ [] _ (by rw[c9];simp only[dS];show 0+c.ms.length<=pi;omega) (λd hd k0 hk=>?_) (λd hd _ k0 hk=>?_) λp2 XT=>?_)))
 .obtain⟨y,hy,rfl⟩:=dI.mp hd;exact hk
 .obtain⟨y,hy,rfl⟩:=dI.mp hd;exact hk
 rw[Co];have t3:=qQ.new (c:=.lst ((r6 c.ms x).map D.str)) XT;have lp:=@pY M2 p2 ((r6 c.ms x).map D.str);have np:=g2.bd.nV XT;have Z4:=g2.sub t3;have s3:rB A M2 A (pX M2 p2 (.lst ((r6 c.ms x).map D.str))):=.sub t3;generalize pX M2 p2 (.lst ((r6 c.ms x).map D.str))=M3 at t3 lp Z4 s3 ⊢;clear h1 h2 h3 h4 n1 n2;obtain⟨ad,md,h1,h2,h3,h4,n1,n2⟩:=Z4.cell;refine pQ h1 ⟨(G.j "members" Z'),by show 8<1000;decide,_,.refl,?_⟩;obtain⟨g4,s4⟩:=Z4.put (c.drop x) Z' h3 lp n1 np;refine q _ ((s1.trans s2).trans (s3.trans s4)) ?_;have:=g4.bd;rw[sP]at this;exact this
def Kn:Fq P w K mg base 2 a.aX (Lr a):=by
 refine fq G.aX.toDG x8 (λr u=>⟨_,(pP (qg 2 x8 (qe U1 pS))
 (pR (qm (pZ u U2 pT)
 (pP (qC v0 pT)
 (pP (qC v0 (qG uE Z' G.z uf (qE (qe U1 pS))))
 (pR (qC v0 pS))))
 (pR (qm (pZ u U2 pT)
 (pR (qC v0 (rh tz)))
 (pR (qm (pZ u U2 pT)
 (pP (qC v0 pT)
 (pR (qC v0 (rh (qE (qe U1 pS))))))
 (pR (qm (pZ u U2 pT)
 (pP (qC v0 pT)
 (pP (qC v0 (qG uE Z' G.z uf (qE (qe U1 pS))))
 (pP (qC v0 (rh tz))
 (pR (qC v0 so)))))
 (pR (qm (pZ u U2 pT)
 (pP (qC v0 pT)
 (pR (qC v0 (qe U1 pS))))
 (pR (qm (pZ u U2 pT)
 (pR (ql (qa (Mi G) r G.aW (sA v0 (qe U1 pS)))))
 (pR (qm (pZ u U2 pT)
 (pR (ql (qa (Jk G) r G.ac (sA v0 (qe U1 pS)))))
 qd))))))))))))))),?_⟩)
 rintro ds M Q ⟨A,V,i,k,c,e,c',rfl,h,la,lm,hc,q⟩
 cases hc with
 | over w0=>exact⟨A,V,i,k,c,w0,Z',h,λM' s b=>⟨M',.refl,q M' s b⟩⟩
 | leaves x=>exact⟨A,V,i,k,c,x,Z',h,la,lm,λM' s b=>⟨M',.refl,q M' s b⟩⟩
 | quiet=>refine⟨pN Z',λp hp=>?_⟩;have t3:=qQ.new (c:=.lst []) hp;have lp:=@pY M p [];have np:=h.bd.nV hp;have g1:=h.sub t3;generalize pX M p (.lst [])=M1 at t3 lp g1 ⊢;obtain⟨ad,md,h1,h2,h3,h4,n1,n2⟩:=g1.cell;refine pQ h1 ⟨(G.j "at" Z'),by show 8<1000;decide,_,.refl,?_⟩;obtain⟨g5,s5⟩:=g1.put c.oo Z' lp h4 np n2;exact q _ ((rB.sub t3).trans s5) g5.bd
 | waits x=>obtain⟨ad,md,h1,h2,h3,h4,n1,n2⟩:=h.cell;refine pQ h1 ⟨(G.j "state" Z'),by show 8<1000;decide,?_⟩;obtain⟨g1,s1⟩:=h.put {c with st:="waits"} Z' h3 h4 n1 n2;show ur _ _ _ _ (pX M k.p (.ins a.e (rN {c with st:="waits"} k.wy ad md)));generalize pX M k.p (.ins a.e (rN {c with st:="waits"} k.wy ad md))=M1 at g1 s1 ⊢;clear h1 h2 h3 h4 n1 n2;refine⟨pN Z',λp hp=>?_⟩;have t3:=qQ.new (c:=.lst [D.str x]) hp;have lp:=@pY M1 p [D.str x];have np:=g1.bd.nV hp;have ZD:=g1.sub t3;generalize pX M1 p (.lst [D.str x])=M1' at t3 lp ZD ⊢;obtain⟨ad,md,h1,h2,h3,h4,n1,n2⟩:=ZD.cell;refine pQ h1 ⟨(G.j "at" Z'),by show 8<1000;decide,_,.refl,?_⟩;obtain⟨g5,s5⟩:=ZD.put (c.wait x) Z' lp h4 np n2;refine q _ (s1.trans ((rB.sub t3).trans s5)) ?_;have:=g5.bd;rw[sP]at this;exact this
 | held x=>obtain⟨ad,md,h1,h2,h3,h4,n1,n2⟩:=h.cell;refine pQ h1 ⟨(G.j "state" Z'),by show 8<1000;decide,?_⟩;obtain⟨g1,s1⟩:=h.put {c with st:="held"} Z' h3 h4 n1 n2;show ur _ _ _ _ (pX M k.p (.ins a.e (rN {c with st:="held"} k.wy ad md)));generalize pX M k.p (.ins a.e (rN {c with st:="held"} k.wy ad md))=M1 at g1 s1 ⊢;clear h1 h2 h3 h4 n1 n2;obtain⟨ad,md,h1,h2,h3,h4,n1,n2⟩:=g1.cell;refine pQ h1 ⟨(G.j "holder" Z'),by show 8<1000;decide,_,.refl,?_⟩;obtain⟨g5,s5⟩:=g1.put (c.hold x) Z' h3 h4 n1 n2;refine q _ (s1.trans s5) ?_;have:=g5.bd;rw[sP]at this;exact this
 | rings ps=>obtain⟨ad,md,h1,h2,h3,h4,n1,n2⟩:=h.cell;refine pQ h1 ⟨(G.j "state" Z'),by show 8<1000;decide,?_⟩;obtain⟨g1,s1⟩:=h.put {c with st:="rings"} Z' h3 h4 n1 n2;show ur _ _ _ _ (pX M k.p (.ins a.e (rN {c with st:="rings"} k.wy ad md)));generalize pX M k.p (.ins a.e (rN {c with st:="rings"} k.wy ad md))=M1 at g1 s1 ⊢;clear h1 h2 h3 h4 n1 n2;refine λp hp=>?_;have t3:=qQ.new (c:=.lst (ps.map D.str)) hp;have lp:=@pY M1 p (ps.map D.str);have np:=g1.bd.nV hp;have ZD:=g1.sub t3;have s1':=s1.trans (.sub t3);generalize pX M1 p (.lst (ps.map D.str))=M1' at t3 lp ZD s1' ⊢;obtain⟨ad,md,h1,h2,h3,h4,n1,n2⟩:=ZD.cell;refine pQ h1 ⟨(G.j "at" Z'),by show 8<1000;decide,?_⟩;obtain⟨g3,s3⟩:=ZD.put {c with st:="rings",at_:=ps} Z' lp h4 np n2;rw[show wG "at" (.ref p) (rN {c with st:="rings"} k.wy ad md)=rN {c with st:="rings",at_:=ps} k.wy p md from rfl];generalize pX M1' k.p (.ins a.e (rN {c with st:="rings",at_:=ps} k.wy p md))=M3 at g3 s3 ⊢;clear h1 h2 h3 h4 n1 n2 lp t3 np;obtain⟨ad,md,h1,h2,h3,h4,n1,n2⟩:=g3.cell;refine pQ h1 ⟨(G.j "since" Z'),by show 8<1000;decide,_,.refl,?_⟩;obtain⟨g5,s5⟩:=g3.put (c.ring ps) Z' h3 h4 n1 n2;refine q _ (s1'.trans (s3.trans s5)) ?_;have:=g5.bd;rw[sP,sP]at this;exact this
 | talks ms=>obtain⟨ad,md,h1,h2,h3,h4,n1,n2⟩:=h.cell;refine pQ h1 ⟨(G.j "state" Z'),by show 8<1000;decide,?_⟩;obtain⟨g1,s1⟩:=h.put {c with st:="talks"} Z' h3 h4 n1 n2;show ur _ _ _ _ (pX M k.p (.ins a.e (rN {c with st:="talks"} k.wy ad md)));generalize pX M k.p (.ins a.e (rN {c with st:="talks"} k.wy ad md))=M1 at g1 s1 ⊢;clear h1 h2 h3 h4 n1 n2;refine λp hp=>?_;have t3:=qQ.new (c:=.lst (ms.map D.str)) hp;have lp:=@pY M1 p (ms.map D.str);have np:=g1.bd.nV hp;have ZD:=g1.sub t3;have s1':=s1.trans (.sub t3);generalize pX M1 p (.lst (ms.map D.str))=M1' at t3 lp ZD s1' ⊢;obtain⟨ad,md,h1,h2,h3,h4,n1,n2⟩:=ZD.cell;refine pQ h1 ⟨(G.j "members" Z'),by show 8<1000;decide,?_⟩;obtain⟨g3,s3⟩:=ZD.put {c with st:="talks",ms:=ms} Z' h3 lp n1 np;show ur _ _ _ _ (pX M1' k.p (.ins a.e (rN {c with st:="talks",ms:=ms} k.wy ad p)));generalize pX M1' k.p (.ins a.e (rN {c with st:="talks",ms:=ms} k.wy ad p))=M3 at g3 s3 ⊢;clear h1 h2 h3 h4 n1 n2 lp t3 np;refine⟨pN Z',λp2 XT=>?_⟩;have t4:=qQ.new (c:=.lst []) XT;have lp:=@pY M3 p2 [];have np:=g3.bd.nV XT;have g3':=g3.sub t4;have s3':=s3.trans (.sub t4);generalize pX M3 p2 (.lst [])=M3' at t4 lp g3' s3' ⊢;obtain⟨ad,md,h1,h2,h3,h4,n1,n2⟩:=g3'.cell;refine pQ h1 ⟨(G.j "at" Z'),by show 8<1000;decide,?_⟩;obtain⟨g4,s4⟩:=g3'.put {c with st:="talks",ms:=ms,at_:=[]} Z' lp h4 np n2;rw[show wG "at" (.ref p2) (rN {c with st:="talks",ms:=ms} k.wy ad md)=rN {c with st:="talks",ms:=ms,at_:=[]} k.wy p2 md from rfl];generalize pX M3' k.p (.ins a.e (rN {c with st:="talks",ms:=ms,at_:=[]} k.wy p2 md))=M4 at g4 s4 ⊢;clear h1 h2 h3 h4 n1 n2 lp t4 np;obtain⟨ad,md,h1,h2,h3,h4,n1,n2⟩:=g4.cell;refine pQ h1 ⟨(G.j "holder" Z'),by show 8<1000;decide,_,.refl,?_⟩;obtain⟨g5,s5⟩:=g4.put (c.og ms) Z' h3 h4 n1 n2;refine q _ (s1'.trans (s3'.trans (s4.trans s5))) ?_;have:=g5.bd;rw[sP,sP,sP]at this;exact this
theorem ub{α:Type}{f:α->α}:∀{l:List α} {i:Nat} {c:α},l[i]?=Fa c->l.modify i f=l.set i (f c)
 | [],_,_,h=>by simp at h
 | _::_,0,_,h=>by cases h;rfl
 | x::r,i+1,c,h=>by rw[List.modify_succ_cons,lJ,ub (l:=r) (by simpa using h)]
def IL(ps:T0 (Str×Int))(z:Str)(n:Int):Cj (tX ps) (.inr z) (.int n)=tX (B4 ps z n):=by
 have ea:((tX ps).any λkv=>decide (kv.1=(Sum.inr z:rH)))=ps.any λp=>decide (p.1=z):=by unfold tX;rw[j3];congr 1;funext p;have:((Sum.inr p.1:rH)=Sum.inr z)=(p.1=z):=propext ⟨λh=>kl h,λh=>by rw[h]⟩;simp only[Function.comp,this]
 unfold Cj B4;rw[ea];by_cases h:(ps.any λp=>decide (p.1=z))=pc
 .rw[dw h,dw h];unfold tX;rw[eA,eA];refine gG λp _=>?_;by_cases hp:p.1=z
  .simp[hp]
  .have:¬(Sum.inr p.1:rH)=Sum.inr z:=λy=>hp (kl y);simp[hp]
 .rw[dq h,dq h];unfold tX;rw[dY];rfl
def GQ{α:Type}{l:List α}{i:Nat}{x:α}(h:l[i]?=Fa x):l.set i x=l:=by obtain⟨hi,e⟩:=dh.mp h;rw[<-e,List.set_getElem_self]
structure W'(V:qT):Prop where
 lo:V.log.length<10000000
 le:V.nI.length<10000000
 ca:V.calls.length<=1000000
 ps:V.ps.length<10000000
 cs:∀c∈V.calls,c.way.length<10000000/\c.at_.length<=100/\c.ms.length<=100
def Bg(a:Ad):rL:=λds M Q=>HI λA V k c v=>ds=[.ref A.b,sJ.d v]/\CI a M A V v.i k c/\V.nI.length<10000000/\c.way.length<10000000/\∀M',rB A M A M'->qh a M' A {za V v.i (c.go v.g)with nI:=V.nI++[v]}->Q .nz M'
def DF(a:Ad):rL:=λds M Q=>Ue λA V i j ki ci cj ms=>ds=[.ref A.b,.int (i:Nat),.int (j:Nat),names ms]/\CI a M A V i ki ci/\V.calls[j]?=Fa cj/\i≠j/\V.nI.length<10000000/\∀M' A',A'.b=A.b->rB A M A' M'->qh a M' A' {za (za V i (ci.over "merged")) j (cj.mem ms)with nI:=V.nI.map (sJ.to i j)}->Q .nz M'
def zR(a:Ad):rL:=λds M Q=>AU λA V=>ds=[.ref A.b]/\qh a M A V/\∀M',rB A M A M'->qh a M' A {V with t:=V.t+1,calls:=V.calls.map pU.tick}->Q .nz M'
def wC(a:Ad):rL:=λds M Q=>Br λb A V e=>ds=[.ref b,Ev.d e]/\A.b=b/\qh a M A V/\W' V/\e.ok V/\∀M' A',A'.b=A.b->rB A M A' M'->qh a M' A' (qH V e)->Q .nz M'
noncomputable def Tv(m k:Nat):D->D
 | .tup (.int i::r)=>if i=(m:Int)then .tup (.int (k:Nat)::r)else .tup (.int i::r)
 | d=>d
def S5(m k:Nat)(v:sJ):Tv m k v.d=(v.to m k).d:=by
 show(if ((v.i:Nat):Int)=(m:Int)then _ else _)=_;unfold sJ.to;by_cases h:v.i=m
 .rw[dw h,dw (by rw[h])];rfl
 .rw[dq h,dq (by omega)];rfl
def HR:Fq P w K mg base 1 a.bL (Bg a):=by
 refine fq G.bL.toDG Au (λr u=>⟨_,(pP (ql (sv (pV v0) (qE U1)))
 (pR (ql (sv (pV (qe (pV v0) (qe U1 pS))) (qE (qe U1 pS)))))),?_⟩)
 rintro ds M Q ⟨A,V,k,c,v,rfl,ci,l1,l2,q⟩
 have hz:=dR;have bd:=ci.bd;refine pQ bd.at_ (i' Z' ⟨by show(pI M A.le).isSome=pc;rw[bd.le];rfl,i' bd.le ⟨by rw[c9];omega,?_⟩⟩);obtain⟨b1,s1⟩:=bd.oS (es:=V.nI++[v]);rw[dY]at b1 s1;have b1:qh a (pX M A.le (.lst (V.nI.map sJ.d++[v.d]))) A {V with nI:=V.nI++[v]}:=b1;have s1:rB A M A (pX M A.le (.lst (V.nI.map sJ.d++[v.d]))):=s1;generalize pX M A.le (.lst (V.nI.map sJ.d++[v.d]))=M1 at b1 s1 ⊢;obtain⟨ad,md,h1,h2,h3,h4,n1,n2⟩:=b1.cs v.i k c ci.e1 ci.e2;refine pQ b1.at_ (i' Z' (i' b1.ca (i' (qZ ci.e1) (pQ h1 (i' Z' ⟨by show(pI M1 k.wy).isSome=pc;rw[h2];rfl,i' h2 ⟨by rw[c9];omega,?_⟩⟩)))));obtain⟨b2,s2⟩:=b1.pk (ws:=c.way++[v.g]) ci.e1 ci.e2;rw[dY]at b2 s2;exact⟨_,.refl,q _ (s1.trans s2) b2⟩
def Mf:Fq P w K mg base 2 a.bM (DF a):=by
 refine fq G.bM.toDG yq (λr u=>⟨_,(pP (ql (qa (Jk G) r G.ac (sA (qe (pV v0) U1) pT)))
 (pP (qC v0 (qY Z' (xy (ix:=[Db,Fa 1,Fa 2]) (N':=["leg","merged","kept"])) (qV (pV v0)) (qP 0) su (RJ (pZ u (qe v0 pS) U1) (qx (qk (qE U2)) (sR v0 (tI pS) ue)) v0)))
 (pP (qg 4 yq (qe (pV v0) U2))
 (pR (qC v4 (qG uE Z' G.z uf (qE U3))))))),?_⟩)
 rintro ds M Q ⟨A,V,i,j,ki,ci,cj,ms,rfl,hi,hj,YG,l1,q⟩
 have hz:=dR;refine pQ hi.bd.at_ (i' Z' (i' Z' (i' hi.bd.ca (i' (qZ hi.e1) ⟨A,V,i,ki,ci,"merged",Z',hi,λM1 s1 b1=>?_⟩))));have hj1:(za V i (ci.over "merged")).calls[j]?=Fa cj:=by show(V.calls.set i _)[j]?=_;rw[eZ YG];exact hj
 have le1:pI M1 A.le=Fa (V.nI.map sJ.d):=b1.le;refine pQ b1.at_ (i' Z' (i' le1 (rK (f:=Tv i j) le1 _ [] _ (by rw[c9];simp only[dS];omega) (λd hd k hk=>?_) λp hp=>?_)))
 .obtain⟨v,_,rfl⟩:=dI.mp hd;refine i' Z' ?_;have hk:k (if ((v.i:Nat):Int)=(i:Int)then .tup [.int (j:Nat),.str v.f,.str v.g,.str v.y]else .tup [.int (v.i:Nat),.str v.f,.str v.g,.str v.y]) M1:=hk;refine qW (c:=((v.i:Nat):Int)==(i:Nat)) (λz=>?_) (λz=>?_)
  .rw[dw (Ix z)]at hk;exact⟨pN Z',fF _ _,by show 1+3<=pi;omega,hk⟩
  .rw[dq (λy=>z (by rw[y];exact fg _))]at hk;exact hk
 have em:[]++(V.nI.map sJ.d).map (Tv i j)=(V.nI.map (sJ.to i j)).map sJ.d:=by rw[eC,eA,eA];exact gG λv _=>S5 i j v
 rw[em];obtain⟨b2,s2⟩:=b1.oW (es:=V.nI.map (sJ.to i j)) hp;have t:=qQ.new (c:=.lst ((V.nI.map (sJ.to i j)).map sJ.d)) hp;refine pQ (t _ _ b1.at_) ⟨(G.E "legs" Z'),by show 8<1000;decide,?_⟩;show ur _ _ _ _ (pX (pX M1 p (.lst ((V.nI.map (sJ.to i j)).map sJ.d))) A.b (.ins a.c (um (.ref V.p) V.h V.t A.ca p A.nx A.on A.lo)));have b2:qh a (pX (pX M1 p (.lst ((V.nI.map (sJ.to i j)).map sJ.d))) A.b (.ins a.c (um (.ref V.p) V.h V.t A.ca p A.nx A.on A.lo))) {A with le:=p} {za V i (ci.over "merged")with nI:=V.nI.map (sJ.to i j)}:=b2;have s2:rB A M1 {A with le:=p} (pX (pX M1 p (.lst ((V.nI.map (sJ.to i j)).map sJ.d))) A.b (.ins a.c (um (.ref V.p) V.h V.t A.ca p A.nx A.on A.lo))):=s2;generalize pX (pX M1 p (.lst ((V.nI.map (sJ.to i j)).map sJ.d))) A.b (.ins a.c (um (.ref V.p) V.h V.t A.ca p A.nx A.on A.lo))=M2 at b2 s2 ⊢;have hjk:j<A.cs.length:=by rw[hi.bd.len];exact(dh.mp hj).1
 have ej:A.cs[j]?=Fa A.cs[j]:=df hjk;generalize A.cs[j]=kj at ej;have cj2:CI a M2 {A with le:=p} _ j kj cj:=⟨b2,ej,hj1⟩;refine pQ b2.at_ (i' Z' (i' Z' (i' b2.ca (i' (qZ ej) ?_))));refine λr hr0=>?_;have t3:=qQ.new (c:=.lst (ms.map D.str)) hr0;have lr:=@pY M2 r (ms.map D.str);have nr:=b2.nV hr0;have cj3:=cj2.sub t3;generalize pX M2 r (.lst (ms.map D.str))=M3 at t3 lr cj3 ⊢;obtain⟨ad,md,h1,h2,h3,h4,n1,n2⟩:=cj3.cell;refine pQ h1 ⟨(G.j "members" Z'),by show 8<1000;decide,_,.refl,?_⟩;obtain⟨g5,s5⟩:=cj3.put (cj.mem ms) Z' h3 lr n1 nr;exact q _ {A with le:=p} Z' (s1.trans (s2.trans ((rB.sub t3).trans s5))) g5.bd
def EW:Fq P w K mg base 1 a.bN (zR a):=by
 refine fq G.bN.toDG vT (λr u=>⟨_,(pP (Es v0 pS)
 (pR (vq fC Z' (qV (pV v0)) (rS 1 vT)
 (pR (qm (pZ u (pV U1) pT)
 (pR (Es U1 pS))
 qd))))),?_⟩)
 rintro ds M Q ⟨A,V,rfl,bd,q⟩
 refine pQ bd.at_ ⟨(G.E "turn" Z'),i' Z' (i' Z' (pQ bd.at_ ⟨Z',by show 8<1000;decide,?_⟩))⟩;obtain⟨b1,s1⟩:=bd.putT (t:=V.t+1);rw[show wG "turn" (.int (V.t+1)) (um (.ref V.p) V.h V.t A.ca A.le A.nx A.on A.lo)=um (.ref V.p) V.h (V.t+1) A.ca A.le A.nx A.on A.lo from rfl];generalize pX M A.b (.ins a.c (um (.ref V.p) V.h (V.t+1) A.ca A.le A.nx A.on A.lo))=M1 at b1 s1 ⊢;refine pQ b1.at_ (i' Z' (i' b1.ca ?_));refine xD (A.cs.map λk=>D.ref k.p) (λpre U M'=>qh a M' A {V with t:=V.t+1,calls:=(V.calls.take pre.length).map pU.tick++V.calls.drop pre.length}/\rB A M A M'/\∃y,U=[Fa (.ref A.b),y]) (λ_ _ M' j=>j.1.ca) _ [] _ _ Z' ⟨b1,s1,Db,Z'⟩ ?_ ?_
 .rintro pre d post e U M' ⟨b2,s2,y,rfl⟩ nx XY
  have hd:(A.cs.map λk=>D.ref k.p)[pre.length]?=Fa d:=by rw[<-e];simp
  rw[dJ]at hd;cases ek:A.cs[pre.length]? with
  | none=>rw[ek]at hd;cases hd
  | some k=>
   rw[ek]at hd;have hd:D.ref k.p=d:=dB hd;subst hd;have hi:pre.length<V.calls.length:=by rw[<-bd.len];exact(dh.mp ek).1
   have ec:V.calls[pre.length]?=Fa V.calls[pre.length]:=df hi;have ed:V.calls.drop pre.length=V.calls[pre.length]::V.calls.drop (pre.length+1):=gW hi;have et:V.calls.take (pre.length+1)=V.calls.take pre.length++[V.calls[pre.length]]:=by rw[gS,ec];rfl
   generalize V.calls[pre.length]=c at ec ed et;have hl:((V.calls.take pre.length).map pU.tick).length=pre.length:=by rw[c9,fT];omega
   have ec2:((V.calls.take pre.length).map pU.tick++V.calls.drop pre.length)[pre.length]?=Fa c:=by rw[fi (by rw[hl];exact dC _),hl,io,ed];rfl
   rw[dg,dX,et]at XY;have en:((V.calls.take pre.length).map pU.tick++V.calls.drop pre.length).set pre.length c.tick=(V.calls.take pre.length++[c]).map pU.tick++V.calls.drop (pre.length+1):=by rw[kG _ _ (by rw[hl];exact dC _),hl,io,ed,dY,fz];rfl
   have ci:CI a M' A _ pre.length k c:=⟨b2,ek,ec2⟩;obtain⟨ad,md,h1,h2,h3,h4,n1,n2⟩:=ci.cell;refine pQ h1 (i' Z' ?_);have ht:c.tick=if (c.st=="rings")=pc then{c with si:=c.si+1}else c:=rfl;refine qW (c:=c.st=="rings") (λg=>?_) (λg=>?_)
   .rw[dw g]at ht;refine pQ h1 ⟨(G.j "since" Z'),i' Z' (i' Z' (pQ h1 ⟨Z',by show 8<1000;decide,?_⟩))⟩;obtain⟨g5,s5⟩:=ci.put c.tick (by rw[ht]) (by rw[ht];exact h3) (by rw[ht];exact h4) n1 n2;have b5:=g5.bd;unfold za at b5;rw[en]at b5;rw[ht]at b5 s5;exact XY _ _ ⟨b5,s2.trans s5,_,Z'⟩
   .rw[dq g]at ht;rw[ht,GQ ec2]at en;rw[en]at b2;exact XY _ _ ⟨b2,s2,_,Z'⟩
 .rintro U M' ⟨b2,s2,y,rfl⟩
  rw[c9,bd.len,fD,jX,e9]at b2;exact⟨M',.refl,q M' s2 b2⟩
def rJ:Fq P w K mg base 3 a.k (wC a):=by
 refine fq G.k.toDG xR (λr u=>⟨_,(pP (ql (sv (pV v0) (qE U1)))
 (pP (qg 2 xR (qe U1 pS))
 (pR (qm (pZ u U2 pT)
 (pR (ql (sv (pV v0) (qE (vK (PX G) r G.e G.co G.aA.toDG (qE (qe U1 pS)))))))
 (pR (qm (pZ u U2 pT)
 (pR (ql (qv v0 G.c.toCls G.bL (HR G) r (qE (sR U1 (tI pS) ue)))))
 (pR (qm (pZ u U2 pT)
 (pR (Pf u (pV v0) (qe U1 pS) (qe U1 pS)))
 (pR (qm (pZ u U2 pT)
 (pR (ql (qv v0 G.c.toCls G.bM (Mf G) r (rO (qe U1 pS) (qe U1 pS) (qe U1 pS)))))
 (pR (qm (pZ u U2 pT)
 (pR (ql (yD v0 G.c.toCls G.bN (EW G) r)))
 (pR (qm (pZ u U2 (qk (sA pT pT)))
 (pR (Ik (qy u U2 pT) (Sy (pV v0) (qe U1 pS))))
 (pR (qm (pZ u U2 pT)
 (pR (ql (qa (Kn G) r G.aX (sA (qe (pV v0) (qe U1 pS)) U1))))
 qd)))))))))))))))),?_⟩)
 rintro ds M Q ⟨_,A,V,e,rfl,rfl,bd,lim,ev,q⟩
 have hz:=dR;have ll:=lim.lo;have lc:=lim.ca;have lp:=lim.ps;refine pQ bd.at_ (i' Z' ⟨by show(pI M A.lo).isSome=pc;rw[bd.lo];rfl,i' bd.lo ⟨by rw[c9];omega,?_⟩⟩);have hb:=bd.pj (es:=V.log++[e]);rw[dY]at hb;obtain⟨b1,s1⟩:qh a (pX M A.lo (.lst (V.log.map Ev.d++[e.d]))) A (rj V e)/\rB A M A (pX M A.lo (.lst (V.log.map Ev.d++[e.d]))):=hb;show ur _ _ _ _ (pX M A.lo (.lst (V.log.map Ev.d++[e.d])));generalize pX M A.lo (.lst (V.log.map Ev.d++[e.d]))=M1 at b1 s1 ⊢;have ZO:∀i,i<V.calls.length->∃k c,A.cs[i]?=Fa k/\V.calls[i]?=Fa c/\c∈V.calls:=λi hi=>by
  have YD:i<A.cs.length:=by rw[bd.len];exact hi
  exact⟨_,_,df YD,df hi,iu hi⟩
 have chg:∀(i:Nat) (k:rR) (c:pU) (c':pU) (f:pU->pU),A.cs[i]?=Fa k->V.calls[i]?=Fa c->f c=c'->qH V e=ye (rj V e) i f->∀(M2:Mp),rB A M1 A M2->qh a M2 A (za (rj V e) i c')->∃XM,qQ XM M2/\Q .nz XM:=λi k c c' f e1 e2 e3 e4 M2 s2 b2=>⟨M2,.refl,q M2 A Z' (s1.trans s2) (by
  rw[e4];unfold ye;rw[show(rj V e).calls=V.calls from rfl,ub e2,e3];exact b2)⟩
 cases e with
 | new n x=>refine pQ b1.at_ (i' Z' ⟨by show(pI M1 A.ca).isSome=pc;rw[b1.ca];rfl,λp hp=>⟨p,x,Z',qp,λM2 wy ad md kp z1 z2 z3 n1 n2 h1 h2 h3 h4=>⟨Z',?_⟩⟩⟩);have sp:=qQ.new (c:=.ins a.e []) hp;have s2:qQ M1 M2:=λy d hy=>kp y d (RI hy hp) (sp y d hy);refine i' (s2.lst b1.ca) ⟨by rw[c9,b1.len];show V.calls.length<pi;omega,?_⟩;obtain⟨b3,s3⟩:=b1.oO s2 (c:=zy x) hp (sp.none z1) (sp.none z2) (sp.none z3) h1 h2 h3 h4 n1 n2;exact⟨_,.refl,q _ (A.add ⟨p,wy⟩) Z' (s1.trans s3) b3⟩
 | leg v=>obtain⟨k,c,ek,ec,hc⟩:=ZO v.i ev;refine pQ b1.at_ ⟨Z',_,⟨Z',Z'⟩,A,rj V (.leg v),k,c,v,Z',⟨b1,ek,ec⟩,lim.le,(lim.cs c hc).1,λM2 s2 b2=>⟨M2,.refl,q M2 A Z' (s1.trans s2) ?_⟩⟩;show qh a M2 A {rj V (.leg v)with nI:=V.nI++[v],calls:=V.calls.modify v.i (·.go v.g)};rw[ub ec];exact b2
 | next z n=>refine pQ b1.at_ (i' Z' (i' b1.nx ⟨by show(tX V.ps).length<pi;unfold tX;rw[c9];omega,?_⟩));rw[IL];obtain⟨b2,s2⟩:=b1.pF (ps:=B4 V.ps z n);exact⟨_,.refl,q _ A Z' (s1.trans s2) b2⟩
 | merge i j ms=>obtain⟨hi,hj,hij,_⟩:=ev;obtain⟨ki,ci,eki,eci,hci⟩:=ZO i hi;obtain⟨kj,cj,ekj,ecj,hcj⟩:=ZO j hj;refine pQ b1.at_ ⟨Z',_,⟨Z',Z'⟩,A,rj V (.merge i j ms),i,j,ki,ci,cj,ms,Z',⟨b1,eki,eci⟩,ecj,hij,lim.le,λM2 A2 eb s2 b2=>⟨M2,.refl,q M2 A2 eb (s1.trans s2) ?_⟩⟩;show qh a M2 A2 {rj V (.merge i j ms)with calls:=(V.calls.modify i (·.over "merged")).modify j (·.mem ms),nI:=V.nI.map (sJ.to i j)};rw[ub eci,ub (show(V.calls.set i _)[j]?=Fa cj by rw[eZ hij];exact ecj)];exact b2
 | asks i z ns=>exact⟨pN Z',Z',Z',M1,.refl,q M1 A Z' s1 b1⟩
 | turn=>exact pQ b1.at_ ⟨Z',_,⟨Z',Z'⟩,A,rj V .turn,Z',b1,λM2 s2 b2=>⟨M2,.refl,q M2 A Z' (s1.trans s2) b2⟩⟩
 | sw b i=>
  have hi:i<V.on.length:=ev;obtain⟨b2,s2⟩:=b1.pz (bs:=V.on.set i b);have es:(V.on.map D.bl).set i (.bl b)=(V.on.set i b).map D.bl:=(mV).symm;have ix:G7 (V.on.map D.bl).length (i:Nat)=Fa i:=by rw[c9];unfold G7;simp[hi]
  have XJ:∃XM,qQ XM (pX M1 A.on (.lst ((V.on.map D.bl).set i (.bl b))))/\Q .nz XM:=by rw[es];exact⟨_,.refl,q _ A Z' (s1.trans s2) b2⟩
  cases b with
  | true=>exact⟨pN Z',Z',Z',pQ b1.at_ (i' Z' (i' b1.on (i' ix XJ)))⟩
  | false=>exact⟨pN Z',Z',Z',pQ b1.at_ (i' Z' (i' b1.on (i' ix XJ)))⟩
 | rings i ps=>obtain⟨k,c,ek,ec,hc⟩:=ZO i ev.1;exact⟨pN Z',Z',Z',pQ b1.at_ (i' Z' (i' b1.ca (i' (qZ ek) ⟨A,rj V _,i,k,c,_,_,Z',⟨b1,ek,ec⟩,(lim.cs c hc).2.1,(lim.cs c hc).2.2,.rings ps,chg i k c _ _ ek ec Z' Z'⟩)))⟩
 | quiet i=>obtain⟨k,c,ek,ec,hc⟩:=ZO i ev;exact⟨pN Z',Z',Z',pQ b1.at_ (i' Z' (i' b1.ca (i' (qZ ek) ⟨A,rj V _,i,k,c,_,_,Z',⟨b1,ek,ec⟩,(lim.cs c hc).2.1,(lim.cs c hc).2.2,.quiet,chg i k c _ _ ek ec Z' Z'⟩)))⟩
 | waits i x=>obtain⟨k,c,ek,ec,hc⟩:=ZO i ev;exact⟨pN Z',Z',Z',pQ b1.at_ (i' Z' (i' b1.ca (i' (qZ ek) ⟨A,rj V _,i,k,c,_,_,Z',⟨b1,ek,ec⟩,(lim.cs c hc).2.1,(lim.cs c hc).2.2,.waits x,chg i k c _ _ ek ec Z' Z'⟩)))⟩
 | talks i ms=>obtain⟨k,c,ek,ec,hc⟩:=ZO i ev.1;exact⟨pN Z',Z',Z',pQ b1.at_ (i' Z' (i' b1.ca (i' (qZ ek) ⟨A,rj V _,i,k,c,_,_,Z',⟨b1,ek,ec⟩,(lim.cs c hc).2.1,(lim.cs c hc).2.2,.talks ms,chg i k c _ _ ek ec Z' Z'⟩)))⟩
 | held i x=>obtain⟨k,c,ek,ec,hc⟩:=ZO i ev;exact⟨pN Z',Z',Z',pQ b1.at_ (i' Z' (i' b1.ca (i' (qZ ek) ⟨A,rj V _,i,k,c,_,_,Z',⟨b1,ek,ec⟩,(lim.cs c hc).2.1,(lim.cs c hc).2.2,.held x,chg i k c _ _ ek ec Z' Z'⟩)))⟩
 | leaves i x=>obtain⟨k,c,ek,ec,hc⟩:=ZO i ev;exact⟨pN Z',Z',Z',pQ b1.at_ (i' Z' (i' b1.ca (i' (qZ ek) ⟨A,rj V _,i,k,c,_,_,Z',⟨b1,ek,ec⟩,(lim.cs c hc).2.1,(lim.cs c hc).2.2,.leaves x,chg i k c _ _ ek ec Z' Z'⟩)))⟩
 | over i w0=>obtain⟨k,c,ek,ec,hc⟩:=ZO i ev;exact⟨pN Z',Z',Z',pQ b1.at_ (i' Z' (i' b1.ca (i' (qZ ek) ⟨A,rj V _,i,k,c,_,_,Z',⟨b1,ek,ec⟩,(lim.cs c hc).2.1,(lim.cs c hc).2.2,.over w0,chg i k c _ _ ek ec Z' Z'⟩)))⟩
noncomputable def Mc:QQQ:=["barred","ring","engaged","left","refused","done","merged"]
def Mv(o:Bool)(c:pU):Prop:=(c.st="rings"/\c.ms=[]/\c.hd=Db/\c.wd=Db/\(o=pc->c.at_=[])/\(o=lf->c.at_≠[]))\/(o=lf/\((c.st="waits"/\c.ms=[]/\c.hd=Db/\c.wd=Db/\c.at_.length=1)\/(c.st="talks"/\(c.ms.length=2\/c.ms.length=3)/\c.hd=Db/\c.wd=Db/\c.at_=[])\/
 (∃x,c.st="held"/\c.ms.length=2/\c.hd=Fa x/\x∈c.ms/\c.wd=Db/\c.at_=[])\/(c.st="over"/\c.ms=[]/\c.hd=Db/\c.at_=[]/\∃w∈Mc,c.wd=Fa w)))
structure wz(l:qc)(o:Bool)(c:pU):Prop where
 sh:Mv o c
 cr:c.cr∈l.pn
 at_:∀x∈c.at_,x∈l.pn
 ms:∀x∈c.ms,x∈l.pn
 an:c.at_.Nodup
 mn:c.ms.Nodup
 ca:c.cr∉c.at_
 wy:c.way≠[]/\∀z∈c.way,z∈l.nm
def By(c:pU)(x:Str):Prop:=c.nG x=pc\/c.nE x=pc
structure Af(l:qc)(V:qT)(o:Option Nat):Prop where
 ok:∀(i:Nat) c,V.calls[i]?=Fa c->wz l (o==Fa i) c
 un:∀(i j:Nat) ci cj x,V.calls[i]?=Fa ci->V.calls[j]?=Fa cj->By ci x->By cj x->i=j
 ln:∀x∈l.pn,(uU V x:Int)<=xx l x
 wt:∀(i j:Nat) ci cj x,V.calls[i]?=Fa ci->V.calls[j]?=Fa cj->ci.ny x=pc->cj.ny x=pc->i=j
 nx:uO l V
abbrev WF(l:qc)(V:qT):Prop:=Af l V Db
structure Sz(V:qT)(c n:Nat):Prop where
 lo:V.log.length<=n
 le:V.nI.length<=n
 ca:V.calls.length<=c
 ps:V.ps.length<=n
 cs:∀k∈V.calls,k.way.length<=n/\k.at_.length<=100/\k.ms.length<=100
def Sz.mono{V:qT}{c n c' n':Nat}(h:Sz V c n)(hc:c<=c')(hn:n<=n'):Sz V c' n':=⟨eD h.lo hn,eD h.le hn,eD h.ca hc,eD h.ps hn,λk hk=>⟨eD (h.cs k hk).1 hn,(h.cs k hk).2⟩⟩
noncomputable def Ev.nw:Ev->Nat
 | .new _ _=>1
 | _=>0
def LM(ps:T0 (Str×Int))(z:Str)(n:Int):(B4 ps z n).length<=ps.length+1:=by
 unfold B4;split
 .rw[c9];omega
 .rw[dg];exact dC _
def Jn(ss:QQQ)(x:Str):(r6 ss x).length<=ss.length:=gP _ _
def FV{α:Type}{f:α->α}{l:List α}{i:Nat}{x:α}(h:x∈l.modify i f):x∈l\/∃y∈l,x=f y:=by
 cases e:l[i]? with
 | none=>rw[lb (by simpa using e)]at h;exact .inl h
 | some c=>
  rw[ub e]at h;rcases List.mem_or_eq_of_mem_set h with g|g
  .exact .inl g
  .exact .inr ⟨c,fA e,g⟩
def Sz.step{V:qT}{c n:Nat}{e:Ev}(h:Sz V c n)(ok:e.ok V):Sz (qH V e) (c+e.nw) (n+1):=by
 have h1:Sz (rj V e) c (n+1):=⟨by show(V.log++[e]).length<=n+1;rw[dg];exact iw h.lo,jG h.le,h.ca,jG h.ps,λk hk=>⟨jG (h.cs k hk).1,(h.cs k hk).2⟩⟩;have md:∀(i:Nat) (f:pU->pU),(∀k∈V.calls,(f k).way=k.way/\(f k).at_.length<=100/\(f k).ms.length<=100)->Sz (ye (rj V e) i f) c (n+1):=λi f hf=>⟨h1.lo,h1.le,by show(V.calls.modify i f).length<=c;rw[gx];exact h.ca,h1.ps,λk hk=>by
  rcases FV hk with g|⟨y,hy,rfl⟩
  .exact h1.cs k g
  .obtain⟨a1,a2,a3⟩:=hf y hy;exact⟨by rw[a1];exact(h1.cs y hy).1,a2,a3⟩⟩
 cases e with
 | new m x=>
  refine⟨h1.lo,h1.le,by show(V.calls++[zy x]).length<=c+1;rw[dg];exact iw h.ca,h1.ps,λk hk=>?_⟩;rcases eB.mp hk with g|g
  .exact h1.cs k g
  .rw[dG.mp g];exact⟨eQ _,eQ _,eQ _⟩
 | leg v=>
  refine⟨h1.lo,by show(V.nI++[v]).length<=n+1;rw[dg];exact iw h.le,by show(V.calls.modify v.i _).length<=c;rw[gx];exact h.ca,h1.ps,λk hk=>?_⟩;rcases FV (l:=V.calls) hk with g|⟨y,hy,rfl⟩
  .exact h1.cs k g
  .exact⟨by show(y.way++[v.g]).length<=n+1;rw[dg];exact iw (h.cs y hy).1,(h.cs y hy).2⟩
 | asks i z ns=>exact h1
 | next z m=>exact⟨h1.lo,h1.le,h1.ca,eD (LM _ _ _) (iw h.ps),h1.cs⟩
 | merge i j ms=>
  have m1:=md i (·.over "merged") λk hk=>⟨Z',eQ _,eQ _⟩;refine⟨h1.lo,by show(V.nI.map _).length<=n+1;rw[c9];exact h1.le,by show((V.calls.modify i _).modify j _).length<=c;rw[gx,gx];exact h.ca,h1.ps,λk hk=>?_⟩;rcases FV (l:=V.calls.modify i (·.over "merged")) hk with g|⟨y,hy,rfl⟩
  .exact m1.cs k g
  .exact⟨(m1.cs y hy).1,(m1.cs y hy).2.1,ok.2.2.2⟩
 | turn=>
  refine⟨h1.lo,h1.le,by show(V.calls.map pU.tick).length<=c;rw[c9];exact h.ca,h1.ps,λk hk=>?_⟩;obtain⟨y,hy,rfl⟩:=dI.mp hk;have e:y.tick.way=y.way/\y.tick.at_=y.at_/\y.tick.ms=y.ms:=by unfold pU.tick;split<;>exact⟨Z',Z',Z'⟩
  rw[e.1,e.2.1,e.2.2];exact h1.cs y hy
 | sw b i=>exact⟨h1.lo,h1.le,h1.ca,h1.ps,h1.cs⟩
 | rings i ps=>exact md i _ λk hk=>⟨Z',ok.2,(h.cs k hk).2.2⟩
 | quiet i=>exact md i _ λk hk=>⟨Z',eQ _,(h.cs k hk).2.2⟩
 | waits i x=>exact md i _ λk hk=>⟨Z',by show 1<=100;decide,(h.cs k hk).2.2⟩
 | talks i ms=>exact md i _ λk hk=>⟨Z',eQ _,ok.2⟩
 | held i x=>exact md i _ λk hk=>⟨Z',(h.cs k hk).2.1,(h.cs k hk).2.2⟩
 | leaves i x=>exact md i _ λk hk=>⟨Z',eD (Jn _ _) (h.cs k hk).2.1,eD (Jn _ _) (h.cs k hk).2.2⟩
 | over i w=>exact md i _ λk hk=>⟨Z',eQ _,eQ _⟩
def S'(V:qT)(e:Ev):(qH V e).p=V.p/\(qH V e).h=V.h/\(qH V e).on.length=V.on.length:=by cases e<;>first|exact⟨Z',Z',Z'⟩|exact⟨Z',Z',iA⟩
structure uX(a:Ad)(M0 M:Mp)(b:Uf)(A:ui)(V:qT)(l:qc)(c n:Nat):Prop where
 bd:qh a M A V
 pl0:tR a M0 V.p l
 s0:qQ M0 M
 fr:∀x∈A.foot,M0 x=Db
 b:A.b=b
 sz:Sz V c n
 ok:sj l
 on:V.on.length=l.nk.length
variable {M0:Mp}{b:Uf}{A':ui}{V':qT}{l:qc}{n:Nat}
section
variable {c:Nat}
def uX.at_(h:uX a M0 M b A V l c n):M b=Fa (.ins a.c (um (.ref V.p) V.h V.t A.ca A.le A.nx A.on A.lo)):=h.b ▸ h.bd.at_
def uX.sub(h:uX a M0 M b A V l c n)(s:qQ M M'):uX a M0 M' b A V l c n:=⟨h.bd.sub s,h.pl0,h.s0.trans s,h.fr,h.b,h.sz,h.ok,h.on⟩
def uX.pl(h:uX a M0 M b A V l c n):tR a M V.p l:=h.pl0.sub h.s0
def uX.mono(h:uX a M0 M b A V l c n){c' n':Nat}(hc:c<=c')(hn:n<=n'):uX a M0 M b A V l c' n':=⟨h.bd,h.pl0,h.s0,h.fr,h.b,h.sz.mono hc hn,h.ok,h.on⟩
def uX.lim(h:uX a M0 M b A V l c n)(hc:c<=1000000)(hn:n<9000000):W' V:=⟨iM h.sz.lo (by omega),iM h.sz.le (by omega),eD h.sz.ca hc,iM h.sz.ps (by omega),λk hk=>⟨iM (h.sz.cs k hk).1 (by omega),(h.sz.cs k hk).2⟩⟩
def uX.rd(h:uX a M0 M b A V l c n)(hc:c<=1000000){o:Option Nat}(wf:Af l V o):Rd a M A V l:=⟨h.bd,eD h.sz.ca hc,h.pl,h.ok,h.on,λk hk=>by
 obtain⟨i,hi,e⟩:=gm hk;exact⟨(wf.ok i k (by rw[df hi,e])).ms,(h.sz.cs k hk).2.2⟩⟩
def uX.call(h:uX a M0 M b A V l c n){i:Nat}{v:pU}(e:V.calls[i]?=Fa v):∃k,CI a M A V i k v:=by
 have hi:i<A.cs.length:=by rw[h.bd.len];exact(dh.mp e).1
 exact⟨A.cs[i],h.bd,df hi,e⟩
def uX.after(h:uX a M0 M b A V l c n){e:Ev}(ok:e.ok V)(eb:A'.b=A.b)(st:rB A M A' M')(bd:qh a M' A' (qH V e)):uX a M0 M' b A' (qH V e) l (c+e.nw) (n+1):=by
 obtain⟨p1,p2,p3⟩:=S' V e;refine⟨bd,p1 ▸ h.pl0,λx d hx=>st.1 x d (λz=>?_) (h.s0 x d hx),λx hx=>?_,eb.trans h.b,h.sz.step ok,h.ok,p3.trans h.on⟩
 .rw[h.fr x z]at hx;cases hx
 .rcases st.2.1 x hx with z|z
  .exact h.fr x z
  .exact h.s0.none z
end
def Ho(l:qc)(V:qT)(c:Str):wB->Prop
 | .rings z ps=>z∈l.nm/\ps≠[]/\ps=yh l V c z
 | .breaks z=>∃x,x=c/\Ii l V x c z=pc
 | .waits z=>z∈l.pn/\z≠c/\zV V z=lf
 | .ring ns=>ns≠[]
 | _=>True
def Gs{V:qT}{c z:Str}:(∀x∈yh l V c z,x∈uR l V c z/\x∈l.ng z)/\(yh l V c z).length<=(l.ng z).length:=by
 have hr:∀x∈uR l V c z,x∈l.ng z:=λx hx=>(fK.mp hx).1;unfold yh;split
 .refine⟨λx hx=>?_,?_⟩
  .have hx:=(fK.mp (je hx)).2;have hx:=rq.mp hx;exact⟨hx,hr x hx⟩
  .cases e:(vw (l.ng z) (zH V z)).filter λx=>hasS (uR l V c z) x with
   | nil=>exact eQ _
   | cons y r=>
    have hy:y∈vw (l.ng z) (zH V z):=(fK.mp (by rw[e];exact dO)).1;have hy:y∈l.ng z:=by
     unfold vw at hy;rcases eB.mp hy with q|q
     .exact jf q
     .exact je q
    rw[fT];have:=List.length_pos_of_mem hy;omega
 .exact⟨λx hx=>⟨hx,hr x hx⟩,gP _ _⟩
def O4{l:qc}{V:qT}{c z:Str}(hz:z∈l.nm):Ho l V c (IU l V c z):=by
 unfold IU;split
 .trivial
 .rename_i x r e;exact⟨hz,fF _ _,e.symm⟩
structure yC(l:qc)(V:qT)(c:Str)(n:Nat)(st:tQ)(r:wB×tQ):Prop where
 e:Ho l V c r.1
 len:r.2.length<=st.length+n
 nm:∀s∈r.2,s∈st\/s.1∈l.nm
 wy:∀ns,r.1=.ring ns->∀z∈ns,z∈l.nm
theorem Aa{V:qT}{c:Str}(ok:sj l):∀(n:Nat) (z:Str) (way:QQQ) (st:tQ),z∈l.nm->(∀x∈way,x∈l.nm)->yC l V c n st (xf l V c n z way st)
 | 0,z,way,st,_,_=>⟨trivial,dC _,λs hs=>.inl hs,λns h=>by cases h⟩
 | n+1,z,way,st,hz,hw=>by
  unfold xf;by_cases h:hasS way z=pc
  .rw[dw h];refine⟨?_,by show st.length<=_;omega,λs hs=>.inl hs,λns e y hy=>?_⟩
   .have h1:way.findIdx (·==z)<way.length:=List.findIdx_lt_length_of_exists ⟨z,rq.mp h,fg z⟩;show way.drop _≠[];intro g;have:=eV List.length g;rw[gw]at this;simp only[dS]at this;omega
   .cases e;exact hw y (jf hy)
  rw[dq h];have sn:∀(fs:T0 Nat),∀s∈st++[(z,fs)],s∈st\/s.1∈l.nm:=λfs s hs=>by
   rcases eB.mp hs with g|g
   .exact .inl g
   .rw[dG.mp g];exact .inr hz
  have sl:∀fs:T0 Nat,(st++[(z,fs)]).length=st.length+1:=λfs=>by rw[dg];rfl
  cases hf:DZ l V c z with
  | nil=>refine⟨O4 hz,by show(st++[(z,[])]).length<=_;rw[sl];omega,sn [],λns e=>?_⟩;have e:IU l V c z=.ring ns:=e;unfold IU at e;split at e<;>cases e
  | cons i r=>
   obtain⟨w,ew,Yj⟩:=FX (l:=l) (V:=V) (f:=Bh l V c z) (i:=i) (by show i∈DZ l V c z;rw[hf];exact dO);dsimp only;rw[ew];dsimp only[Option.elim];have stop:∀e:wB,Ho l V c e->(∀ns,e≠.ring ns)->yC l V c (n+1) st (e,st++[(z,i::r)]):=λe he X3=>⟨he,by show(st++[(z,i::r)]).length<=_;rw[sl];omega,sn _,λns g=>absurd g (X3 ns)⟩
   have Z5:∀y,Ju z w.2=.inr y->yC l V c (n+1) st (xf l V c n y (way++[z]) (st++[(z,i::r)])):=λy hy=>by
    have hr:=Aa (V:=V) (c:=c) ok n y (way++[z]) (st++[(z,i::r)]) (CT ok (rE ew) hy) λx hx=>by
     rcases eB.mp hx with g|g
     .exact hw x g
     .rw[dG.mp g];exact hz
    refine⟨hr.e,by have:=hr.len;rw[sl]at this;omega,λs hs=>?_,hr.wy⟩;rcases hr.nm s hs with g|g
    .exact sn _ s g
    .exact .inr g
   cases hv:w.2 with
   | bar x ns=>exact stop _ trivial λns g=>by cases g
   | shut x ns=>exact stop _ trivial λns g=>by cases g
   | wait x=>
    rw[hv]at Yj;have hf2:(if (!(z==x)||(c==x))=pc then lf else yf l V c z&&!(zV V z))=pc:=Yj;have hx:xV l.pn x:=by have:=ok.wo w (rE ew);rw[hv]at this;exact this
    by_cases g:(!(z==x)||(c==x))=pc
    .rw[dw g]at hf2;cases hf2
    rw[dq g]at hf2;simp only[ia,gT,fR,jI,d6]at g hf2;have ezx:=Ix g.1;subst ezx;exact stop _ ⟨rq.mp hx,λy=>g.2 (by rw[y];exact fg _),hf2.2⟩ λns g=>by cases g
   | breaks x=>
    rw[hv]at Yj;refine stop _ ⟨x,?_,?_⟩ λns g=>by cases g
    .have Yj:Ii l V x c z=pc:=Yj;unfold Ii at Yj;by_cases g:(!(c==x)||(z==x))=pc
     .rw[dw g]at Yj;cases Yj
     .simp only[ia,gT,fR,jI]at g;exact(Ix g.1).symm
    .exact Yj
   | always x y=>exact Z5 y (by rw[hv];rfl)
   | night x y f m=>exact Z5 y (by rw[hv];rfl)
   | busy x y=>exact Z5 y (by rw[hv];rfl)
   | silent x y m=>exact Z5 y (by rw[hv];rfl)
def GL{V:qT}{x c z:Str}(h:Ii l V x c z=pc):∃j k,vU V z=Fa j/\V.calls[j]?=Fa k/\k.st="talks"/\z∈k.ms/\k.ms.length=2/\z≠c:=by
 unfold Ii at h;by_cases g:(!(c==x)||(z==x))=pc
 .rw[dw g]at h;cases h
 rw[dq g]at h;simp only[ia,gT,fR,jI]at g;by_cases g2:(!(hasS l.pn z)||!(yf l V c z))=pc
 .rw[dw g2]at h;cases h
 rw[dq g2]at h;cases e:vU V z with
 | none=>rw[e]at h;cases h
 | some j=>obtain⟨hj,ht,_⟩:=iQ.mp e;rw[e]at h;have h:((V.calls[j]?).elim lf λk=>(k.ms.length==2)&&IC l x k.ms)=pc:=h;rw[df hj]at h;have h:((V.calls[j].ms.length==2)&&IC l x V.calls[j].ms)=pc:=h;unfold pU.nq at ht;rw[d6]at h ht;refine⟨j,V.calls[j],Z',df hj,Ix ht.1,rq.mp ht.2,Ix h.1,λy=>?_⟩;rw[y]at g;have:=Ix g.1;rw[this,fg]at g;exact absurd Z' g.2
noncomputable def pU.bare(c:pU):pU:={c with way:=[]}
def uh(V V':qT):Prop:=V'.calls.map pU.bare=V.calls.map pU.bare
def uh.at_{V V':qT}(h:uh V V'){i:Nat}{c:pU}(e:V.calls[i]?=Fa c):∃c',V'.calls[i]?=Fa c'/\c'.bare=c.bare:=by
 have:=eV (·[i]?) h;simp only[dJ,e]at this;cases e':V'.calls[i]? with
 | none=>rw[e']at this;cases this
 | some c'=>rw[e']at this;exact⟨c',Z',dB this⟩
def zF(f:pU->Bool)(hf:∀c,f c.bare=f c)(cs:List pU):(cs.map pU.bare).findIdx? f=cs.findIdx? f:=by rw[ik];congr 1;funext c;exact hf c
def uh.og{V V':qT}(h:uh V V')(z:Str):vU V' z=vU V z:=by unfold vU;rw[<-zF _ (λ_=>rfl) V'.calls,h,zF _ (λ_=>rfl)]
def uh.ends{V V':qT}(h:uh V V')(i:Nat)(e:wB):tV l V' i e=tV l V i e:=by
 cases e with
 | breaks z=>
  unfold tV;dsimp only;rw[h.og];have key:∀j:Nat,(V'.calls[j]?).map pU.bare=(V.calls[j]?).map pU.bare:=λj=>by
   have:=eV (·[j]?) h
   simpa only [dJ]using this
  have ki:=key i;cases vU V z with
  | none=>rfl
  | some j=>
   have kj:=key j;cases e1:V.calls[i]? with
   | none=>rw[e1]at ki;rw[show V'.calls[i]?=Db by cases q:V'.calls[i]? with|none=>rfl|some _=>rw[q]at ki;cases ki]
   | some c=>
    rw[e1]at ki;cases e2:V'.calls[i]? with
    | none=>rw[e2]at ki;cases ki
    | some c'=>
     rw[e2]at ki;have k1:c'.cr=c.cr:=by have kb:c'.bare=c.bare:=dB ki;exact show c'.bare.cr=c.bare.cr by rw[kb]
     have k2:(V'.calls[j]?).elim [] pU.ms=(V.calls[j]?).elim [] pU.ms:=by
      cases e3:V.calls[j]? with
      | none=>rw[e3]at kj;rw[show V'.calls[j]?=Db by cases q:V'.calls[j]? with|none=>rfl|some _=>rw[q]at kj;cases kj]
      | some d=>
       rw[e3]at kj;cases e4:V'.calls[j]? with
       | none=>rw[e4]at kj;cases kj
       | some d'=>rw[e4]at kj;exact show d'.bare.ms=d.bare.ms by rw[show d'.bare=d.bare from dB kj]
     dsimp only;rw[k1,k2]
 | _=>rfl
def uh.trans{V V1 V2:qT}(h:uh V V1)(g:uh V1 V2):uh V V2:=Eq.trans g h
def zG(V:qT)(v:sJ):uh V (qH V (.leg v)):=by
 show(V.calls.modify v.i (·.go v.g)).map pU.bare=V.calls.map pU.bare;cases e:V.calls[v.i]? with
 | none=>rw[lb (by simpa using e)]
 | some c=>rw[ub e,mV,show(c.go v.g).bare=c.bare from rfl,GQ (by rw[dJ,e];rfl)]
def Eg(V:qT)(i:Nat)(z:Str)(ns:T0 Nat):uh V (qH V (.asks i z ns)):=rfl
def uh.len{V V':qT}(h:uh V V'):V'.calls.length=V.calls.length:=by
 have:=eV List.length h
 rwa [c9,c9]at this
noncomputable def Gw:Option Str->tQ->Option Str
 | o,[]=>o
 | _,(z,_)::r=>Gw (Fa z) r
noncomputable def Vy(i:Nat)(z:Str)(fs:T0 Nat):Option Str->T0 Ev
 | none=>[.asks i z fs]
 | some y=>[.leg ⟨i,y,z,y⟩,.asks i z fs]
theorem yZ(i:Nat)(z:Str)(fs:T0 Nat):∀(st:tQ) (o:Option Str),sd i o (st++[(z,fs)])=sd i o st++Vy i z fs (Gw o st)
 | [],none=>rfl
 | [],Fa _=>rfl
 | (y,gs)::r,none=>by show .asks i y gs::sd i (Fa y) (r++[(z,fs)])=_;rw[yZ i z fs r];rfl
 | (y,gs)::r,Fa u=>by show .leg ⟨i,u,y,u⟩::.asks i y gs::sd i (Fa y) (r++[(z,fs)])=_;rw[yZ i z fs r];rfl
theorem De(z:Str)(fs:T0 Nat):∀(st:tQ) (o:Option Str),Gw o (st++[(z,fs)])=Fa z
 | [],_=>rfl
 | _::r,_=>De z fs r _
theorem vJ(i:Nat):∀(st:tQ) (o:Option Str) (V:qT),uh V (rc V (sd i o st))
 | [],_,V=>rfl
 | (y,gs)::r,Db,V=>(Eg V i y gs).trans (vJ i r (Fa y) _)
 | (y,gs)::r,Fa u,V=>((zG V ⟨i,u,y,u⟩).trans (Eg _ i y gs)).trans (vJ i r (Fa y) _)
def Qp(a:Ad):rL:=λds M Q=>MA λM0 b A V l c n i st r=>ds=[.ref b,.int ((i:Nat):Int),.ref r]/\uX a M0 M b A V l c n/\c<=1000000/\n<=8000000/\st.length<=100/\i<V.calls.length/\pI M r=Fa (rP st)/\r∉A.foot/\∀M' A',uX a M0 M' b A' (rc V (sd i Db st)) l c (n+2*st.length)->rB A M A' M'->Q .nz M'
def L6(a:Ad):rL:=λds M Q=>MA λM0 b A V l c n i z ps=>ds=[.ref b,.int ((i:Nat):Int),.str z,names ps]/\uX a M0 M b A V l c n/\c<=1000000/\n<=8000000/\i<V.calls.length/\z∈l.nm/\ps≠[]/\(∀x∈ps,x∈l.ng z)/\ps.length<=100/\∀M' A',uX a M0 M' b A' (rc V (tV l V i (.rings z ps))) l c (n+2)->rB A M A' M'->Q .nz M'
def Gx(l:qc)(V:qT)(i:Nat):wB->Prop
 | .rings z ps=>z∈l.nm/\ps≠[]/\(∀x∈ps,x∈l.ng z)/\ps.length<=100
 | .breaks z=>∃j k,vU V z=Fa j/\V.calls[j]?=Fa k/\i≠j/\k.ms.length=2
 | _=>True
def MJ(a:Ad):rL:=λds M Q=>U' λM0 b A V l c n i z=>ds=[.ref b,.int ((i:Nat):Int),.str z]/\uX a M0 M b A V l c n/\c<=1000000/\n<=8000000/\i<V.calls.length/\Gx l V i (.breaks z)/\∀M' A',uX a M0 M' b A' (rc V (tV l V i (.breaks z))) l c (n+2)->rB A M A' M'->Q .nz M'
def JK(a:Ad):rL:=λds M Q=>U' λM0 b A V l c n i e=>ds=[.ref b,.int ((i:Nat):Int),wB.d e]/\uX a M0 M b A V l c n/\c<=1000000/\n<=8000000/\i<V.calls.length/\Gx l V i e/\∀M' A',uX a M0 M' b A' (rc V (tV l V i e)) l c (n+2)->rB A M A' M'->Q .nz M'
def Q3(a:Ad):rL:=λds M Q=>U' λM0 b A V l c n i k=>ds=[.ref b,.int ((i:Nat):Int)]/\uX a M0 M b A V l c n/\c<=1000000/\n<=7000000/\Af l V (Fa i)/\V.calls[i]?=Fa k/\∀M' A',uX a M0 M' b A' (rc V (xH l V i)) l c (n+30)->rB A M A' M'->Q .nz M'
def MY(a:Ad):rL:=λds M Q=>U' λM0 b A V l c n y z=>ds=[.ref b,.str y,.str z]/\uX a M0 M b A V l c n/\c<1000000/\n<=6000000/\Af l (rc V [.new V.calls.length y,.leg ⟨V.calls.length,y,z,y⟩]) (Fa V.calls.length)/\∀M' A',uX a M0 M' b A' (rc V (Fc l V y z)) l (c+1) (n+32)->rB A M A' M'->Q .nz M'
def NX{st:tQ}{pre post:T0 D}{d:D}(e:pre++d::post=rP st):∃z fs,st[pre.length]?=Fa (z,fs)/\d=.tup [.str z,yt fs]/\st.take (pre.length+1)=st.take pre.length++[(z,fs)]:=by
 have h:(rP st)[pre.length]?=Fa d:=by rw[<-e];simp
 unfold rP at h;rw[dJ]at h;cases q:st[pre.length]? with
 | none=>rw[q]at h;cases h
 | some s=>rw[q]at h;refine⟨s.1,s.2,Z',(dB h).symm,?_⟩;rw[gS,q];rfl
noncomputable def We:Option Str->D
 | none=>.nz
 | some x=>.str x
def O6{ss:QQQ}{x:Str}(h:ss.getLast?=Fa x):wY (ss.map D.str) (-1)=Fa (.str x):=by
 have hp:0<ss.length:=by cases ss with|nil=>cases h|cons _ _=>exact mW _
 unfold wY;have e:G7 (ss.map D.str).length (-1)=Fa (ss.length - 1):=by
  rw[c9];unfold G7;have:¬((-1:Int)>=0):=by decide
  simp;omega
 rw[e];show(ss.map D.str)[ss.length - 1]?=_;rw[dJ,<-jN,h];rfl
def LL(ds:T0 D):L3.ut ds Db (Fa (-1:Int))=ds.dropLast:=by
 unfold L3.ut;have e:HT.tO ds.length ds.length (Fa (-1:Int))=ds.length - 1:=by show(if (-1:Int)<0 then((-1:Int)+(ds.length:Int)).toNat else min (-1:Int).toNat ds.length)=ds.length - 1;rw[dw (by decide)];omega
 rw[e,HT.B0,jq,lD,List.dropLast_eq_take]
def QI:Fq P w K mg base 4 a.a9 (Qp a):=by
 refine fq G.a9.toDG uu (λr u=>⟨_,(pP (qg 3 uu so)
 (pR (vq fC Z' (qV U2) (vp (n:=2) Z' (qN (rS 4 uu) (qN (rS 5 uu) tZ)))
 (pP (qm (pZ u U3 so)
 (pR (ql (qv v0 G.c.toCls G.k (rJ G) r (qE (qk (qz pT (qz U1 (rO U3 v4 U3))))))))
 qd)
 (pP (ql (qv v0 G.c.toCls G.k (rJ G) r (qE (qk (qz pT (rO U1 v4 v5))))))
 (pR (qg 3 uu v4))))))),?_⟩)
 rintro ds M Q ⟨M0,b,A,V,l,c,n,i,st,r,rfl,cu,hc,hn,X6,hi,lr,nf,q⟩
 refine i' lr (xD (rP st) (λpre U M'=>(∃A',uX a M0 M' b A' (rc V (sd i Db (st.take pre.length))) l c (n+2*pre.length)/\rB A M A' M')/\∃y4 y5,U=[Fa (.ref b),Fa (.int ((i:Nat):Int)),Fa (.ref r),Fa (We (Gw Db (st.take pre.length))),y4,y5]) (λpre U M' j=>?_) _ [] _ _ Z' ⟨⟨A,cu,.refl⟩,Db,Db,Z'⟩ ?_ ?_)
 .obtain⟨⟨A',c1,Yn⟩,_⟩:=j;exact tH (Yn.1 r _ nf (qM lr))
 .rintro pre d post e U M' ⟨⟨A',c1,Yn⟩,y4,y5,rfl⟩ nx XY
  obtain⟨z,fs,es,rfl,et⟩:=NX e;have hp:pre.length<100:=dU (dh.mp es).1 X6;rw[dg,dX,et,yZ,De]at XY;have len:∀es,uh V (rc V es)->i<(rc V es).calls.length:=λes h=>by rw[h.len];exact hi
  have Zm:=len _ (vJ i (st.take pre.length) Db V);generalize hV:rc V (sd i Db (st.take pre.length))=V1 at c1 Zm;rw[se,hV]at XY;refine⟨Z',?_⟩;dsimp only[uq,zd,Ef];have asks:∀(M2:Mp) (A2:ui) (V2:qT) (m:Nat) (y3:Option D),m<9000000->uX a M0 M2 b A2 V2 l c m->rB A M A2 M2->(∀M3 A3,uX a M0 M3 b A3 (qH V2 (.asks i z fs)) l c (m+1)->rB A M A3 M3->nx [Fa (.ref b),Fa (.int ((i:Nat):Int)),Fa (.ref r),Fa (.str z),Fa (.str z),Fa (yt fs)] M3)->zK (M2 b) λC fs'=>fs'.lookup ("apply":Str)=Db/\∃sp,(C=a.c/\sp=wC a)/\4<=pi/\sp [.ref b,.tup [.str "asks",.int ((i:Nat):Int),.str z,yt fs]] M2 λ_ M3=>nx [Fa (.ref b),Fa (.int ((i:Nat):Int)),Fa (.ref r),Fa (.str z),Fa (.str z),Fa (yt fs)] M3:=λM2 A2 V2 m y3 hm c2 s2 k=>pQ c2.at_ ⟨Z',_,⟨Z',Z'⟩,by rw[dR];decide,b,A2,V2,.asks i z fs,Z',c2.b,c2.bd,c2.lim hc hm,trivial,λM3 A3 eb s3 bd=>k M3 A3 (c2.after trivial eb s3 bd) (s2.trans s3)⟩;cases hl:Gw Db (st.take pre.length)with
  | none=>rw[hl]at XY;refine asks M' A' V1 _ Db (by omega) c1 Yn λM3 A3 c3 s3=>XY _ _ ⟨⟨A3,c3.mono (dC _) (by omega),s3⟩,_,_,Z'⟩
  | some y=>rw[hl]at XY;refine pQ c1.at_ ⟨Z',_,⟨Z',Z'⟩,pN Z',b,A',V1,.leg ⟨i,y,z,y⟩,Z',c1.b,c1.bd,c1.lim hc (by omega),Zm,λM2 A2 eb s2 bd=>?_⟩;have c2:=c1.after (e:=.leg ⟨i,y,z,y⟩) Zm eb s2 bd;refine asks M2 A2 _ _ Db (by omega) c2 (Yn.trans s2) λM3 A3 c3 s3=>XY _ _ ⟨⟨A3,c3.mono (dC _) (by omega),s3⟩,_,_,Z'⟩
 .rintro U M' ⟨⟨A',c1,Yn⟩,_⟩
  have hl:(rP st).length=st.length:=by unfold rP;rw[c9]
  rw[hl,fD]at c1;exact⟨M',.refl,q M' A' c1 Yn⟩
def NH:Fq P w K mg base 4 a.ba (L6 a):=by
 refine fq G.ba.toDG vb (λr u=>⟨_,(pP (qm (pZ u (qv (pV v0) G.h.toCls G.aR (ym G) r (qE U2)) pT)
 (pP (qg 4 vb (qv (pV v0) G.h.toCls G.Y (uS G) r (qE U2)))
 (pP (qg 5 vb (qx (qx (yk v4 (qE (qe U3 pS))) pS) (qr qU Z' G.g qR (qE v4))))
 (pR (ql (qv v0 G.c.toCls G.k (rJ G) r (qE (qk (rO pT U2 v5))))))))
 qd)
 (pR (ql (qv v0 G.c.toCls G.k (rJ G) r (qE (qk (rO pT U1 U3))))))),?_⟩)
 rintro ds M Q ⟨M0,b,A,V,l,c,n,i,z,ps,rfl,cu,hc,hn,hi,hz,X3,hm,hps,q⟩
 obtain⟨ph,gr,ws,Zb,pr,gd,rs,i1,_⟩:=cu.pl;have pl:=cu.pl;obtain⟨x,ps',rfl⟩:=fV X3;obtain⟨⟨pne,_⟩,_⟩:=cu.ok.of hz;refine VN (t:=R0 _ _ _) (λU M'=>(∃A',uX a M0 M' b A' (rc V (if (l.nC z=="turns")=pc then[.next z (RB (l.ng z) x)]else[])) l c (n+1)/\rB A M A' M')/\∃y1 y2,U=[Fa (.ref b),Fa (.int ((i:Nat):Int)),Fa (.str z),Fa (names (x::ps')),y1,y2]) (λnx h=>?_) ?_
 .refine pQ cu.at_ (i' Z' (pQ i1 ⟨Z',_,⟨Z',Z'⟩,V.p,z,l,Z',pl,?_⟩));refine qW (c:=l.nC z=="turns") (λg=>?_) (λg=>?_)
  .rw[dw g]at h;refine pQ cu.at_ (i' Z' (pQ i1 ⟨Z',_,⟨Z',Z'⟩,V.p,z,l,Z',pl,λp hp=>?_⟩));have t:=qQ.new (c:=.lst ((l.ng z).map D.str)) hp;have lp:=@pY M p ((l.ng z).map D.str);have cu':=cu.sub t;have st0:rB A M A (pX M p (.lst ((l.ng z).map D.str))):=.sub t;generalize pX M p (.lst ((l.ng z).map D.str))=M1 at t lp cu' st0 ⊢;have ej:=EF x (l.ng z) (hm x dO);have lpos:0<(l.ng z).length:=fG.mpr pne;have el:(((l.ng z).map D.str).length:Int)=(l.ng z).length:=by rw[c9]
   refine⟨by show(pI M1 p).isSome=pc;rw[lp];rfl,i' (yN _ _) (i' lp ⟨Z',qJ _,i' ej (i' lp ⟨by rw[el];omega,?_⟩)⟩)⟩;rw[el];refine pQ cu'.at_ ⟨Z',_,⟨Z',Z'⟩,pN Z',b,A,V,.next z (RB (l.ng z) x),Z',cu'.b,cu'.bd,cu'.lim hc (by omega),trivial,λM2 A2 eb st Zg=>?_⟩;exact h _ _ ⟨⟨A2,cu'.after (e:=.next z (RB (l.ng z) x)) trivial eb st Zg,st0.trans st⟩,_,_,Z'⟩
  .rw[dq g]at h;exact h _ _ ⟨⟨A,cu.mono (dC _) (by omega),.refl⟩,_,_,Z'⟩
 rintro U M1 ⟨⟨A1,c1,Yn⟩,y1,y2,rfl⟩
 have q:∀M' A',uX a M0 M' b A' (rc V ((if (l.nC z=="turns")=pc then[.next z (RB (l.ng z) x)]else[])++[.rings i (x::ps')])) l c (n+2)->rB A M A' M'->Q .nz M':=q;rw[se]at q;have Zm:i<(rc V (if (l.nC z=="turns")=pc then[.next z (RB (l.ng z) x)]else[])).calls.length:=by
  split
  .exact hi
  .exact hi
 generalize rc V (if (l.nC z=="turns")=pc then[.next z (RB (l.ng z) x)]else[])=V1 at c1 q Zm;refine pQ c1.at_ ⟨Z',_,⟨Z',Z'⟩,pN Z',b,A1,V1,.rings i (x::ps'),Z',c1.b,c1.bd,c1.lim hc (by omega),⟨Zm,hps⟩,λM2 A2 eb X9 Zg=>?_⟩;exact⟨M2,.refl,q M2 A2 (c1.after (e:=.rings i (x::ps')) ⟨Zm,hps⟩ eb X9 Zg) (Yn.trans X9)⟩
def Os:Fq P w K mg base 4 a.bb (MJ a):=by
 refine fq G.bb.toDG x9 (λr u=>⟨_,(pP (qg 3 x9 (qv v0 G.c.toCls G.M (xm G) r (qE U2)))
 (pP (qg 4 x9 (qx (qG sV Z' G.y sS (qE (pV (qe (pV v0) U3)))) (qk (qE (pV (qe (pV v0) U1))))))
 (pR (ql (qv v0 G.c.toCls G.k (rJ G) r (qE (qk (qz pT (rO U1 U3 v4))))))))),?_⟩)
 rintro ds M Q ⟨M0,b,A,V,l,c,n,i,z,rfl,cu,hc,hn,hi,⟨j,k,ej,ek,YG,YY⟩,q⟩
 have hz:=dR;have ei:V.calls[i]?=Fa V.calls[i]:=df hi;generalize V.calls[i]=ci at ei;obtain⟨ka,qi⟩:=cu.call ei;obtain⟨kb,qj⟩:=cu.call ek;obtain⟨ad,md,h1,h2,h3,h4,_⟩:=qi.cell;obtain⟨ad',md',g1,g2,g3,g4,_⟩:=qj.cell;have hee:tV l V i (.breaks z)=[.merge i j (k.ms++[ci.cr])]:=by unfold tV;dsimp only;rw[ej,ei];dsimp only;rw[ek];rfl
 rw[hee]at q;have ok:(Ev.merge i j (k.ms++[ci.cr])).ok V:=⟨hi,(dh.mp ek).1,YG,by rw[dg,YY];show 3<=100;decide⟩;refine pQ cu.at_ ⟨Z',_,⟨Z',Z'⟩,A,V,z,by rw[cu.b],cu.bd,eD cu.sz.ca hc,?_⟩;rw[show AY V z=.int (j:Nat)from by unfold AY;rw[ej];rfl];refine pQ cu.at_ (i' Z' (i' Z' (i' cu.bd.ca (i' (qZ qj.e1) (pQ g1 (i' Z' (i' g4 ?_)))))));refine pQ cu.at_ (i' Z' (i' Z' (i' cu.bd.ca (i' (qZ qi.e1) (pQ h1 (i' Z' ⟨pN Z',?_⟩))))));refine⟨(by intro y;rw[List.map_eq_nil_iff]at y;rw[y]at YY;cases YY),(by rw[c9,YY];show 2+1<=pi;omega),?_⟩;rw[show k.ms.map D.str++[D.str ci.cr]=(k.ms++[ci.cr]).map D.str by rw[dY];rfl];refine pQ cu.at_ ⟨Z',_,⟨Z',Z'⟩,pN Z',b,A,V,.merge i j (k.ms++[ci.cr]),Z',cu.b,cu.bd,cu.lim hc (by omega),ok,λM2 A2 eb X9 Zg=>?_⟩;exact⟨M2,.refl,q M2 A2 ((cu.after ok eb X9 Zg).mono (dC _) (by omega)) X9⟩
def OW:Fq P w K mg base 5 a.bc (JK a):=by
 refine fq G.bc.toDG yp (λr u=>⟨_,(pP (qg 3 yp (qe U2 pS))
 (pR (qm (pZ u U3 pT)
 (pR (ql (qa (NH G) r G.ba (qz v0 (rO U1 (qe U2 pS) (qe U2 pS))))))
 (pR (qm (pZ u U3 pT)
 (pR (ql (qv v0 G.c.toCls G.k (rJ G) r (qE (qk (rO pT U1 (qe U2 pS)))))))
 (pR (qm (pZ u U3 pT)
 (pR (ql (qa (Os G) r G.bb (rO v0 U1 (qe U2 pS)))))
 (pR (ql (qv v0 G.c.toCls G.k (rJ G) r (qE (qk (rO pT U1 U3))))))))))))),?_⟩)
 rintro ds M Q ⟨M0,b,A,V,l,c,n,i,e,rfl,cu,hc,hn,hi,he,q⟩
 have one:∀(ev:Ev) (ok:ev.ok V),ev.nw=0->tV l V i e=[ev]->∀M2 A2,A2.b=A.b->rB A M A2 M2->qh a M2 A2 (qH V ev)->∃XM,qQ XM M2/\Q .nz XM:=λev ok h0 h1 M2 A2 eb X9 Zg=>by rw[h1]at q;have c2:=cu.after ok eb X9 Zg;rw[h0]at c2;exact⟨M2,.refl,q M2 A2 (c2.mono (dC _) (by omega)) X9⟩
 cases e with
 | rings z ps=>exact⟨M0,b,A,V,l,c,n,i,z,ps,Z',cu,hc,hn,hi,he.1,he.2.1,he.2.2.1,he.2.2.2,λM' A' c1 st=>⟨M',.refl,q M' A' c1 st⟩⟩
 | waits z=>exact pQ cu.at_ ⟨Z',_,⟨Z',Z'⟩,pN Z',b,A,V,.waits i z,Z',cu.b,cu.bd,cu.lim hc (by omega),hi,one (.waits i z) hi Z' Z'⟩
 | breaks z=>exact⟨M0,b,A,V,l,c,n,i,z,Z',cu,hc,hn,hi,he,λM' A' c1 st=>⟨M',.refl,q M' A' c1 st⟩⟩
 | engaged z=>exact pQ cu.at_ ⟨Z',_,⟨Z',Z'⟩,pN Z',b,A,V,.over i "engaged",Z',cu.b,cu.bd,cu.lim hc (by omega),hi,one (.over i "engaged") hi Z' Z'⟩
 | barred=>exact pQ cu.at_ ⟨Z',_,⟨Z',Z'⟩,pN Z',b,A,V,.over i "barred",Z',cu.b,cu.bd,cu.lim hc (by omega),hi,one (.over i "barred") hi Z' Z'⟩
 | ring ns=>exact pQ cu.at_ ⟨Z',_,⟨Z',Z'⟩,pN Z',b,A,V,.over i "ring",Z',cu.b,cu.bd,cu.lim hc (by omega),hi,one (.over i "ring") hi Z' Z'⟩
def Nj{V:qT}{i:Nat}{k:pU}{e:wB}(ok:sj l)(wf:Af l V (Fa i))(hk:V.calls[i]?=Fa k)(h:Ho l V k.cr e):Gx l V i e:=by
 cases e with
 | rings z ps=>obtain⟨hz,X3,rfl⟩:=h;have h1:=(Gs (l:=l) (V:=V) (c:=k.cr) (z:=z));have h2:=(ok.of hz).1.2.1;exact⟨hz,X3,λx hx=>(h1.1 x hx).2,by have:=h1.2;omega⟩
 | breaks z=>
  obtain⟨x,rfl,hb⟩:=h;obtain⟨j,d,e1,e2,e3,e4,e5,_⟩:=GL hb;refine⟨j,d,e1,e2,λy=>?_,e5⟩;subst y;rw[hk]at e2;cases e2;have sh:=(wf.ok i k hk).sh;rw[show(Fa i==Fa i)=pc from fg _]at sh;rcases sh with g|g
  .rw[g.1]at e3;exact absurd e3 (by decide)
  .cases g.1
 | _=>trivial
def JZ:Fq P w K mg base 9 a.af (Q3 a):=by
 refine fq G.af.toDG wM (λr u=>⟨_,(pP (qg 2 wM (qe (pV v0) U1))
 (pP (qg 3 wM (qa (NB G) r G.a3 (qz v0 (rO (pV U2) (qe (pV U2) (EE pS)) (sR (pV U2) ue (tI (EE pS)))))))
 (pP (qg 4 wM (qe U3 pS))
 (pP (qg 5 wM (qe U3 pS))
 (pP (ql (qa (QI G) r G.a9 (rO v0 U1 v5)))
 (pP (qm (W3.b3 (vo (pZ u (qe v4 pS) pT) (vh (pZ u (qr qU Z' G.g qR (qE v5)) pS))))
 (pP (qg 6 wM (qe (qe v5 (EE pS)) pS))
 (pR (ql (qv v0 G.c.toCls G.k (rJ G) r (qE (qk (qz pT (qz U1 (rO v6 (qe (qe v4 pS) pS) v6)))))))))
 qd)
 (pR (ql (qa (OW G) r G.bc (rO v0 U1 v4)))))))))),?_⟩)
 rintro ds M Q ⟨M0,b,A,V,l,c,n,i,k,rfl,cu,hc,hn,wf,hk,q⟩
 obtain⟨ka,ci⟩:=cu.call hk;obtain⟨ad,md,h1,h2,h3,h4,n1,n2⟩:=ci.cell;have YQ:=wf.ok i k hk;have hi:=(dh.mp hk).1;obtain⟨z,hz⟩:∃z,k.way.getLast?=Fa z:=by
  cases e:k.way.getLast? with
  | none=>exact absurd (gX.mp e) YQ.wy.1
  | some z=>exact⟨z,Z'⟩
 have YN:z∈l.nm:=YQ.wy.2 z (jg hz);have hdn:∀x∈k.way.dropLast,x∈l.nm:=λx hx=>YQ.wy.2 x (jh _ hx);have hwl:=(cu.sz.cs k (rE hk)).1;have hev:xH l V i=sd i Db (vt l V k.cr z k.way.dropLast).2++(uB i (vt l V k.cr z k.way.dropLast).2 (vt l V k.cr z k.way.dropLast).1++tV l V i (vt l V k.cr z k.way.dropLast).1):=by
  unfold xH;rw[hk];have:k.way.getLastD Str.empty=z:=by rw[iC,hz];rfl
  dsimp only[Option.elim];rw[this]
 rw[hev]at q;have ro:yC l V k.cr (l.nm.length+1) [] (vt l V k.cr z k.way.dropLast):=Aa cu.ok _ _ _ _ YN hdn;have rl:=ro.len;have eo:=Nj cu.ok wf hk ro.e;have nl:l.nm.length<=11:=by have p8:=cu.ok.p8;have g3:=cu.ok.g3;unfold qc.nm qc.pn qc.gn;rw[dg,c9,c9];omega
 have re:=ro.e;refine VN (t:=HD _ _) (λU M'=>M=M'/\U=[Fa (.ref b),Fa (.int ((i:Nat):Int)),Fa (.ref ka.p),Db,Db,Db,Db]) (λnx0 h=>pQ cu.at_ (i' Z' (i' Z' (i' ci.bd.ca (i' (qZ ci.e1) (h _ _ ⟨Z',Z'⟩)))))) ?_
 rintro U _ ⟨rfl,rfl⟩
 refine VN (t:=HD _ _) (λU M'=>qQ M M'/\∃r,M r=Db/\pI M' r=Fa (rP (vt l V k.cr z k.way.dropLast).2)/\U=[Fa (.ref b),Fa (.int ((i:Nat):Int)),Fa (.ref ka.p),Fa (.tup [(vt l V k.cr z k.way.dropLast).1.d,.ref r]),Db,Db,Db]) (λnx0 h=>?_) ?_
 .refine pQ h1 (i' Z' (pQ h1 (i' Z' (i' h2 (i' (O6 hz) (pQ h1 (i' Z' (i' h2 λp hp=>?_))))))));rw[show L3.ut (k.way.map D.str) Db (Fa (-1:Int))=k.way.dropLast.map D.str from(LL _).trans (List.map_dropLast).symm];have t:=qQ.new (c:=.lst (k.way.dropLast.map D.str)) hp;have lp:=@pY M p (k.way.dropLast.map D.str);refine⟨A,V,l,k.cr,z,p,k.way.dropLast,by rw[cu.b],(cu.rd hc wf).sub t,YN,wf.nx,lp,by rw[List.length_dropLast];omega,λr M' s hr lr=>?_⟩;exact h _ _ ⟨t.trans s,r,t.none hr,lr,Z'⟩
 rintro U M1 ⟨s1,r,hr,lr,rfl⟩
 generalize vt l V k.cr z k.way.dropLast=R at lr ro rl eo re q;obtain⟨e,st⟩:=R;have cu1:=cu.sub s1;have rl:st.length<=0+(l.nm.length+1):=rl;refine⟨M0,b,A,V,l,c,n,i,st,r,Z',cu1,hc,by omega,by omega,hi,lr,cu.bd.oB hr,λM2 A2 c2 X9=>?_⟩;have same:=vJ i st Db V;have YD:i<(rc V (sd i Db st)).calls.length:=by rw[same.len];exact hi
 have lr2:pI M2 r=Fa (rP st):=tH (X9.1 r _ (cu.bd.oB hr) (qM lr));rw[se,se]at q;have hee:=λV' (h:uh V V')=>h.ends (l:=l) i e;have ZX:∀V',uh V V'->Gx l V' i e:=λV' h=>by
  cases e with
  | breaks z'=>obtain⟨j,d,a1,a2,a3,a4⟩:=eo;obtain⟨d',b1,b2⟩:=h.at_ a2;exact⟨j,d',by rw[h.og];exact a1,b1,a3,by rw[show d'.ms=d.ms from show d'.bare.ms=d.bare.ms by rw[b2]];exact a4⟩
  | rings _ _=>exact eo
  | _=>trivial
 generalize rc V (sd i Db st)=V2 at c2 YD same q;have YR:∀(M3:Mp) (A3:ui) (V3:qT),uX a M0 M3 b A3 V3 l c (n+2*st.length+1)->rB A M A3 M3->uh V V3->i<V3.calls.length->V3=rc V2 (uB i st e)->JK a [.ref b,.int ((i:Nat):Int),e.d] M3 λ_ M'=>∃XM,qQ XM M'/\Q .nz XM:=λM3 A3 V3 c3 s3 YS hi3 e3=>⟨M0,b,A3,V3,l,c,_,i,e,Z',c3,hc,by omega,hi3,ZX V3 YS,λM4 A4 c4 s4=>⟨M4,.refl,q M4 A4 (by
  rw[<-e3];rw[hee V3 YS]at c4;exact c4.mono (dC _) (by omega)) (s3.trans s4)⟩⟩
 have c2':=c2.mono (dC c) (show n+2*st.length<=n+2*st.length+1 by omega);have Y6:=(rB.sub s1 (A:=A)).trans X9;cases e with
 | ring ns=>
  obtain⟨x,ns',rfl⟩:=fV (show ns≠[]from re);refine i' lr2 ?_;cases hl:st.getLast? with
  | none=>have:st=[]:=gX.mp hl;subst this;exact YR M2 A2 V2 c2' Y6 same YD Z'
  | some s0=>
   have Zf:0<st.length:=by cases st with|nil=>cases hl|cons _ _=>exact mW _
   have hd:decide ((0:Int)<((rP st).length:Int))=pc:=d9 (by unfold rP;rw[c9];omega);refine Bd (c:=decide ((0:Int)<((rP st).length:Int))) hd ?_;have hat1:wY (rP st) (-1)=Fa (.tup [.str s0.1,yt s0.2]):=by
    unfold wY;have e1:G7 (rP st).length (-1)=Fa (st.length - 1):=by unfold rP;rw[c9];unfold G7;simp;omega
    rw[e1];show(rP st)[st.length - 1]?=_;unfold rP;rw[dJ,<-jN,hl];rfl
   have hrv:uB i st (.ring (x::ns'))=[.leg ⟨i,s0.1,x,s0.1⟩]:=by unfold uB;dsimp only;rw[hl];rfl
   rw[hrv]at YR;refine i' lr2 (i' hat1 ?_);refine pQ c2.at_ ⟨Z',_,⟨Z',Z'⟩,i' (yN _ _) ⟨pN Z',b,A2,V2,.leg ⟨i,s0.1,x,s0.1⟩,Z',c2.b,c2.bd,c2.lim hc (by omega),YD,λM3 A3 eb Yv bd3=>?_⟩⟩;have YS:=same.trans (zG V2 ⟨i,s0.1,x,s0.1⟩);exact YR M3 A3 _ (c2.after (e:=.leg ⟨i,s0.1,x,s0.1⟩) YD eb Yv bd3) (Y6.trans Yv) YS (by rw[YS.len];exact hi) Z'
 | rings z' ps=>exact YR M2 A2 V2 c2' Y6 same YD Z'
 | waits z'=>exact YR M2 A2 V2 c2' Y6 same YD Z'
 | breaks z'=>exact YR M2 A2 V2 c2' Y6 same YD Z'
 | engaged z'=>exact YR M2 A2 V2 c2' Y6 same YD Z'
 | barred=>exact YR M2 A2 V2 c2' Y6 same YD Z'
def Np:Fq P w K mg base 10 a.bd (MY a):=by
 refine fq G.bd.toDG zw (λr u=>⟨_,(pP (qg 3 zw (qr qU Z' G.g qR (qE (pV v0))))
 (pP (ql (qv v0 G.c.toCls G.k (rJ G) r (qE (qk (rO pT U3 U1)))))
 (pP (ql (qv v0 G.c.toCls G.k (rJ G) r (qE (qk (qz pT (qz U3 (rO U1 U2 U1)))))))
 (pR (ql (qa (JZ G) r G.af (sA v0 U3))))))),?_⟩)
 rintro ds M Q ⟨M0,b,A,V,l,c,n,y,z,rfl,cu,hc,hn,wf,q⟩
 have lc:((A.cs.map λk=>D.ref k.p).length:Int)=(V.calls.length:Nat):=by rw[c9,cu.bd.len]
 refine pQ cu.at_ (i' Z' (i' cu.bd.ca ?_));rw[lc];refine pQ cu.at_ ⟨Z',_,⟨Z',Z'⟩,pN Z',b,A,V,.new V.calls.length y,Z',cu.b,cu.bd,cu.lim (by omega) (by omega),trivial,λM1 A1 eb1 Yn bd1=>?_⟩;have c1:=cu.after (e:=.new V.calls.length y) trivial eb1 Yn bd1;have ok2:(Ev.leg ⟨V.calls.length,y,z,y⟩).ok (qH V (.new V.calls.length y)):=by show V.calls.length<(V.calls++[zy y]).length;rw[dg];exact fM _
 refine pQ c1.at_ ⟨Z',_,⟨Z',Z'⟩,pN Z',b,A1,_,.leg ⟨V.calls.length,y,z,y⟩,Z',c1.b,c1.bd,c1.lim (by show c+1<=_;omega) (by omega),ok2,λM2 A2 eb2 X9 Zg=>?_⟩;have c2:=c1.after ok2 eb2 X9 Zg;obtain⟨k,hk⟩:∃k,(rc V [.new V.calls.length y,.leg ⟨V.calls.length,y,z,y⟩]).calls[V.calls.length]?=Fa k:=by
  have:V.calls.length<(rc V [.new V.calls.length y,.leg ⟨V.calls.length,y,z,y⟩]).calls.length:=by show V.calls.length<((V.calls++[zy y]).modify _ _).length;rw[gx];exact ok2
  exact⟨_,df this⟩
 refine⟨M0,b,A2,_,l,c+1,n+2,V.calls.length,k,Z',c2,by omega,by omega,wf,hk,λM3 A3 c3 Yv=>⟨M3,.refl,q M3 A3 ?_ (Yn.trans (X9.trans Yv))⟩⟩;unfold Fc;rw[se];exact c3.mono (dC _) (by omega)
def Gf(V:qT)(x:Str):D:=Di (uZ V x)
abbrev Ek:=Km Gf
def LZ(a:Ad):rL:=λds M Q=>HI λA V l x z=>ds=[.ref A.b,.str x,.str z]/\Rd a M A V l/\x∈l.pn/\Q (Di (Hx l V x z)) M
inductive wn(a:Ad)(M:Mp)(L:QXQ):List rR->List pU->Prop
 | nil:wn a M L [] []
 | cons (k:rR) (c:pU) (ks:List rR) (cs:List pU) (h:rV a M L k c) (r:wn a M L ks cs):wn a M L (k::ks) (c::cs)
def uK.nf(w:Str)(m:Nat):Prop:=((w="answer"\/w="hang"\/w="hold"\/w="back")/\m=1)\/((w="hand"\/w="join")/\m=2)
def ML(a:Ad):rL:=λds M Q=>Ls λwd x r L ks cs=>ds=[.str wd,.str x,.ref r]/\pI M r=Fa (List.map (λk:rR=>D.ref k.p) ks)/\wn a M L ks cs/\uK.nf wd cs.length/\Q (.bl (J8 wd x cs)) M
def J0(a:Ad):rL:=λds M Q=>Ls λA V l wd x ns=>ds=[.ref A.b,.str wd,.str x,.tup (List.map D.int ns)]/\Rd a M A V l/\x∈l.pn/\uK.nf wd ns.length/\Q (Di (Mq l V wd x ns)) M
def So(a:Ad):rL:=λds M Q=>Br λA V b i=>ds=[.ref A.b,.str (Vs b),.int i]/\qh a M A V/\Q (Di (P7 V b i)) M
def Ir(a:Ad):rL:=λds M Q=>Br λA V l e=>ds=[.ref A.b,uK.d e]/\Rd a M A V l/\e.nX/\Q (Di (xX l V e)) M
def W9(m:Nat):D->D
 | .int i=>.bl (zA m i)
 | _=>.bl lf
noncomputable def Xn(A:ui):D->D
 | .int i=>(A.cs[i.toNat]?).elim .nz λk=>.ref k.p
 | _=>.nz
theorem RA{V:qT}(bd:qh a M A V):∀{ns:T0 Int},ns.all (zA V.calls.length)=pc->∃ks,wn a M (A.lists++V.fo) ks (ug V ns)/\(ns.map D.int).map (Xn A)=ks.map (λk:rR=>D.ref k.p)/\(ug V ns).length=ns.length/\∀i∈ns,∃k,0<=i/\A.cs[i.toNat]?=Fa k
 | [],_=>⟨[],.nil,Z',Z',λi hi=>by cases hi⟩
 | i::r,h=>by
  rw[fN,d6]at h;obtain⟨ks,h1,h2,h3,h4⟩:=RA bd h.2;have hh:(decide (0<=i)&&decide (i<V.calls.length))=pc:=h.1;rw[d6,eG,eG]at hh;have hi:i.toNat<V.calls.length:=by omega
  have hk:i.toNat<A.cs.length:=by rw[bd.len];exact hi
  have e1:A.cs[i.toNat]?=Fa A.cs[i.toNat]:=df hk;have e2:V.calls[i.toNat]?=Fa V.calls[i.toNat]:=df hi;have ec:ug V (i::r)=V.calls[i.toNat]::ug V r:=by unfold ug;rw[List.filterMap_cons_some (f:=λi:Int=>V.calls[i.toNat]?) e2]
  rw[ec];refine⟨A.cs[i.toNat]::ks,.cons _ _ _ _ (bd.cs _ _ _ e1 e2) h1,?_,eV Nat.succ h3,λj hj=>?_⟩
  .rw[eh,eh,h2];show(A.cs[i.toNat]?).elim _ _::_=_;rw[e1];rfl
  .rcases dA.mp hj with rfl|hj
   .exact⟨_,hh.1,e1⟩
   .exact h4 j hj
def wn.sub(h:wn a M L ks cs)(s:qQ M M'):wn a M' L ks cs:=by
 induction h with
 | nil=>exact .nil
 | cons k c ks cs h r ih=>exact .cons k c ks cs (h.sub s) ih
def Sa{bs:T0 Bool}{i:Int}(h:zA bs.length i=pc):wY (bs.map D.bl) i=Fa (.bl (bs.getD i.toNat lf)):=by
 have hh:(decide (0<=i)&&decide (i<bs.length))=pc:=h;rw[d6,eG,eG]at hh;obtain⟨n,rfl⟩:=eK hh.1;have hn:n<bs.length:=by omega
 refine vF ?_;rw[dJ,df hn];show Fa (D.bl bs[n])=Fa (.bl (bs.getD n lf));rw[gv,df hn];rfl
def D6:Fq P w K mg base 4 a.ae (Ek a):=by
 refine fq G.ae.toDG yY (λr u=>⟨_,(pP (qm (pZ u (qv v0 G.c.toCls G.ap (Hy G) r (qE U1)) so)
 (pR (pW pT))
 qd)
 (pP (qm (pZ u (qv v0 G.c.toCls G.aq (CD G) r (qE U1)) so)
 (pR (pW pT))
 qd)
 (pR (pW so)))),?_⟩)
 rintro ds M Q ⟨A,V,x,rfl,bd,hk,q⟩
 unfold Gf uZ at q;refine pQ bd.at_ ⟨Z',_,⟨Z',Z'⟩,A,V,x,Z',bd,hk,?_⟩;unfold LS;cases e:AH V x with
 | some j=>rw[e]at q;exact⟨M,.refl,q⟩
 | none=>
  rw[e]at q;refine pQ bd.at_ ⟨Z',_,⟨Z',Z'⟩,A,V,x,Z',bd,hk,?_⟩;unfold Uv;cases e:GC V x with
  | some j=>rw[e]at q;exact⟨M,.refl,q⟩
  | none=>rw[e]at q;exact⟨M,.refl,q⟩
def Ob:Fq P w K mg base 5 a.a4 (LZ a):=by
 refine fq G.a4.toDG wK (λr u=>⟨_,(pP (qm (pZ u U2 (yD (pV v0) G.h.toCls G.bI (DE G) r))
 (pR (pW pT))
 qd)
 (pP (qg 3 wK (qa (D6 G) r G.ae (sA v0 U1)))
 (pP (qm (W3.b3 (vo (pZ u U3 so) (vh (vd (uz (qv v0 G.c.toCls G.L (xg G) r (qE U1)))))))
 (pR (pW pT))
 qd)
 (pR (pW U3))))),?_⟩)
 rintro ds M Q ⟨A,V,l,x,z,rfl,rd,hx,q⟩
 obtain⟨ph,gr,ws,Zb,pr,gd,rs,i1,_⟩:=rd.pl;have p8:=rd.ok.p8;have g3:=rd.ok.g3;unfold Hx at q;refine pQ rd.bd.at_ (i' Z' (pQ i1 ⟨Z',_,⟨Z',Z'⟩,V.p,l,Z',rd.pl,by omega,by omega,λp hp=>i' pY ⟨Z',qJ _,?_⟩⟩));have t:=qQ.new (c:=.lst (l.nm.map D.str)) hp;have Yg:=rd.sub t;generalize pX M p (.lst (l.nm.map D.str))=M1 at t Yg ⊢;show if (!(inD (.str z) (l.nm.map D.str)))=pc then _ else _
 rw[sH];refine qW (c:=!(hasS l.nm z)) (λg=>?_) (λg=>?_)
 .rw[dw (by simpa using g)]at q;exact⟨M,t,q⟩
 rw[dq (by simpa using g)]at q;refine⟨A,V,x,Z',Yg.bd,Yg.k,?_⟩;unfold Gf;cases e:uZ V x with
 | some w0=>rw[e]at q;exact⟨M,t,q⟩
 | none=>
  rw[e]at q;refine pQ Yg.bd.at_ ⟨Z',_,⟨Z',Z'⟩,A,V,l,x,Z',Yg,hx,?_⟩;refine qW (c:=!(tN l V x)) (λg=>?_) (λg=>?_)
  .rw[g]at q;exact⟨M,t,q⟩
  .rw[show(!(tN l V x))=lf from dH.mpr g]at q;exact⟨M,t,q⟩
def Ms:Fq P w K mg base 3 a.a5 (ML a):=by
 refine fq G.a5.toDG MS (λr u=>⟨_,(pP (qm (pZ u v0 pT)
 (pR (pW (qy u U1 (pV (qe U2 pS)))))
 qd)
 (pP (qm (pZ u v0 pT)
 (pR (pW (qv (qe U2 pS) G.e.toCls G.bO (Ny G) r (qE U1))))
 qd)
 (pP (qm (pZ u v0 pT)
 (pR (pW (qv (qe U2 pS) G.e.toCls G.aD (Hr G) r (qE U1))))
 qd)
 (pP (qm (pZ u v0 pT)
 (pR (pW (qy u (pV (qe U2 pS)) U1)))
 qd)
 (pR (pW (sW (qy u (pV (qe U2 pS)) U1) (sC (qv (qe U2 pS) G.e.toCls G.aD (Hr G) r (qE U1)))))))))),?_⟩)
 rintro ds M Q ⟨wd,x,r,L,ks,cs,rfl,lr,hcs,hw,q⟩
 cases hcs with
 | nil=>rcases hw with⟨_,h⟩|⟨_,h⟩<;>cases h
 | cons k c ks cs hc Yt=>
 obtain⟨ad,md,h1,h2,h3,h4,_⟩:=id hc;have a0:=yN (.ref k.p) (ks.map λk:rR=>D.ref k.p);have hold:∀K:DK,K (.bl (c.hd==Fa x)) M->Option.elim (zE M 9 (Di c.hd) (.str x)) False λb=>K (.bl b) M:=λK hK=>by
  cases e:c.hd with
  | none=>rw[e]at hK;exact hK
  | some y=>rw[e]at hK;exact hK
 rcases hw with⟨rfl|rfl|rfl|rfl,h⟩|⟨hw,h⟩
 .exact i' lr (i' a0 (pQ h1 (i' Z' (AZ h3 ⟨M,.refl,q⟩))))
 .exact i' lr (i' a0 (pQ h1 ⟨Z',_,⟨Z',Z'⟩,L,k,c,x,Z',hc,M,.refl,q⟩))
 .exact i' lr (i' a0 (pQ h1 ⟨Z',_,⟨Z',Z'⟩,L,k,c,x,Z',hc,M,.refl,q⟩))
 .exact i' lr (i' a0 (pQ h1 (i' Z' (hold _ ⟨M,.refl,q⟩))))
 .cases Yt with
  | nil=>cases h
  | cons k' d ks cs hd _=>
   obtain⟨ad',md',f1,_⟩:=id hd;have a1:wY (.ref k.p::.ref k'.p::ks.map λk:rR=>D.ref k.p) 1=Fa (.ref k'.p):=vF (j:=1) Z';have qq:Q (.bl ((c.hd==Fa x)&&d.nH x)) M:=by
    rcases hw with rfl|rfl
    .exact q
    .exact q
   rcases hw with rfl|rfl
   all_goals
    refine i' lr (i' a0 (pQ h1 (i' Z' ?_)));cases e:c.hd with
    | none=>rw[e]at qq;exact⟨M,.refl,qq⟩
    | some y=>
     rw[e]at qq;have qq:Q (.bl ((y==x)&&d.nH x)) M:=qq;refine qW (c:=y==x) (λg=>?_) (λg=>?_)
     .rw[g,eL]at qq;exact i' lr (i' a1 (pQ f1 ⟨Z',_,⟨Z',Z'⟩,L,k',d,x,Z',hd,M,.refl,qq⟩))
     .rw[show(y==x)=lf from dH.mpr g,eW]at qq;exact⟨M,.refl,qq⟩
def Qy:Fq P w K mg base 5 a.a6 (J0 a):=by
 refine fq G.a6.toDG uk (λr u=>⟨_,(pP (qm (vd (uz (qr (E9 Z') Z' G.bT FU (qE (qY Z' (xy (ix:=[Db,Fa 0]) (N':=["number","board"])) (qV U3) (qP 0) su (uL u pS v0 (qr qU Z' G.g qR (qE (pV U1)))))))))
 (pR (pW pT))
 qd)
 (pP (tF (i:=4) uk.nd Z' (Or.inl Z') Z' (xy (ix:=[Db,Fa 0]) (N':=["number","board"])) (qV U3) (qP 0) su (qe (pV U1) v0))
 (pP (qm (vd (uz (qa (Ms G) r G.a5 (rO U1 U2 v4))))
 (pR (pW pT))
 qd)
 (pP (qm (pZ u U1 (qk (sA pT pT)))
 (pR (pW so))
 qd)
 (pP (qg 5 uk (qa (D6 G) r G.ae (sA v0 U2)))
 (pP (qm (W3.b3 (vo (pZ u v5 so) (vo (uz (qv (qe v4 pS) G.e.toCls G.aB (Hs G) r (qE U2))) (vh (vd (uz (qv v0 G.c.toCls G.L (xg G) r (qE U2))))))))
 (pR (pW pT))
 qd)
 (pR (pW v5)))))))),?_⟩)
 rintro ds M Q ⟨A,V,l,wd,x,ns,rfl,rd,hx,hw,q⟩
 have hz:=dR;have hn2:ns.length<=2:=by rcases hw with⟨_,h⟩|⟨_,h⟩<;>omega
 have lca:((A.cs.map λk=>D.ref k.p).length:Int)=V.calls.length:=by rw[c9,rd.bd.len]
 unfold Mq at q;refine rK (f:=W9 V.calls.length) trivial _ [] _ (by rw[c9];simp only[dS];omega) (λd hd k hk=>?_) λp hp=>?_
 .obtain⟨i,_,rfl⟩:=dI.mp hd;have hk:k (.bl (decide (0<=i)&&decide (i<V.calls.length))) M:=hk;refine qW (c:=decide (0<=i)) (λg=>?_) (λg=>?_)
  .rw[g,eL]at hk;refine pQ rd.bd.at_ (i' Z' (i' rd.bd.ca ?_));rw[lca];exact hk
  .rw[show decide (0<=i)=lf from dH.mpr g,eW]at hk;exact hk
 have em:[]++(ns.map D.int).map (W9 V.calls.length)=ns.map λi=>D.bl (zA V.calls.length i):=by rw[eC,eA];rfl
 rw[em];have t:=qQ.new (c:=.lst (ns.map λi=>D.bl (zA V.calls.length i))) hp;refine i' pY (i' (yB (zA V.calls.length) ns) ?_);have Yg:=rd.sub t;generalize pX M p (.lst (ns.map λi=>D.bl (zA V.calls.length i)))=M1 at t Yg ⊢;rw[zC];refine qW (c:=!(ns.all (zA V.calls.length))) (λg=>?_) (λYp=>?_)
 .rw[dw (by simpa using g)]at q;exact⟨M,t,q⟩
 have Yp:ns.all (zA V.calls.length)=pc:=by simpa using Yp
 rw[dq (by rw[Yp];exact Bool.noConfusion)]at q;obtain⟨ks,hks,eks,lcs,ZF⟩:=RA Yg.bd Yp;refine rK (f:=Xn A) trivial _ [] _ (by rw[c9];simp only[dS];omega) (λd hd k0 hk=>?_) λp2 XT=>?_
 .obtain⟨i,hi,rfl⟩:=dI.mp hd;obtain⟨k,i0,e1⟩:=ZF i hi;obtain⟨n,rfl⟩:=eK i0;have e1:A.cs[n]?=Fa k:=e1;have hk:k0 ((A.cs[n]?).elim .nz λk=>.ref k.p) M1:=hk;rw[e1]at hk;exact pQ Yg.bd.at_ (i' Z' (i' Z' (i' Yg.bd.ca (i' (qZ e1) hk))))
 rw[eC,eks];have t2:=qQ.new (c:=.lst (ks.map λk:rR=>D.ref k.p)) XT;have l2:=@pY M1 p2 (ks.map λk:rR=>D.ref k.p);have Yy:=Yg.sub t2;have s2:=t.trans t2;generalize pX M1 p2 (.lst (ks.map λk:rR=>D.ref k.p))=M2 at l2 Yy s2 t2 ⊢;have hks:=hks.sub t2;generalize ug V ns=cs at hks lcs q;refine⟨wd,x,p2,_,ks,cs,Z',l2,hks,by rw[lcs];exact hw,?_⟩;refine qW (c:=!J8 wd x cs) (λg=>?_) (λg=>?_)
 .rw[dw (by simpa using g)]at q;exact⟨M,s2,q⟩
 rw[dq (by simpa using g)]at q;have two:∀wd:Str,(wd=="answer"||wd=="back")=pc->Q (Di (if ((uZ V x).isNone&&(cs.head?.elim lf (λc=>c.ny x)&&!(tN l V x)))=pc then Fa "full" else uZ V x)) M->cs.length=1->Ek a [.ref A.b,.str x] M2 λdue M3=>ur (R0 (Qs (b3 (k3 .Is (v3 5) (c3 .nz))) (Qs (b3 (AR "waits_with" (λD s=>D=a.e/\s=we a) (i3 (v3 4) (c3 (.int 0))) (vW (v3 2) yi))) (UL (b3 (AR "is_free" (λD s=>D=a.c/\s=xJ a) (v3 0) (vW (v3 2) yi)))))) (RO (c3 (.str "full"))) Xc) (RO (v3 5)) {nx:=λ_ M'=>∃XM,qQ XM M'/\Q .nz XM,rt:=λd M'=>∃XM,qQ XM M'/\Q d XM} [Fa (.ref A.b),Fa (.str wd),Fa (.str x),Fa (.tup (ns.map D.int)),Fa (.ref p2),Fa due] M3:=λwd _ q hl=>by
  cases hks with
  | nil=>cases hl
  | cons k c ks cs hc _=>
  have q:Q (Di (if ((uZ V x).isNone&&(c.ny x&&!(tN l V x)))=pc then Fa "full" else uZ V x)) M:=q;obtain⟨ad,md,h1,_⟩:=id hc;refine⟨A,V,x,Z',Yy.bd,Yy.k,?_⟩;unfold Gf;cases e:uZ V x with
  | some w0=>rw[e]at q;exact⟨M,s2,q⟩
  | none=>
   rw[e]at q;refine i' l2 (i' (yN _ _) (pQ h1 ⟨Z',_,⟨Z',Z'⟩,_,k,c,x,Z',hc,?_⟩));refine qW (c:=c.ny x) (λg1=>?_) (λg1=>?_)
   .rw[g1]at q;refine pQ Yy.bd.at_ ⟨Z',_,⟨Z',Z'⟩,A,V,l,x,Z',Yy,hx,?_⟩;refine qW (c:=!(tN l V x)) (λg=>?_) (λg=>?_)
    .rw[g]at q;exact⟨M,s2,q⟩
    .rw[show(!(tN l V x))=lf from dH.mpr g]at q;exact⟨M,s2,q⟩
   .rw[show c.ny x=lf from dH.mpr g1]at q;exact⟨M,s2,q⟩
 rcases hw with⟨rfl|rfl|rfl|rfl,h⟩|⟨rfl|rfl,h⟩
 .exact⟨pN Z',Z',Z',two "answer" Z' q (lcs.trans h)⟩
 .exact⟨pN Z',Z',Z',M,s2,q⟩
 .exact⟨pN Z',Z',Z',M,s2,q⟩
 .exact⟨pN Z',Z',Z',two "back" Z' q (lcs.trans h)⟩
 .exact⟨pN Z',Z',Z',M,s2,q⟩
 .exact⟨pN Z',Z',Z',M,s2,q⟩
def Sr:Fq P w K mg base 1 a.a7 (So a):=by
 refine fq G.a7.toDG yX (λr u=>⟨_,(pP (qm (vd (Gk u pS U2 (qr qU Z' G.g qR (qE (pV v0)))))
 (pR (pW pT))
 qd)
 (pP (qm (pZ u (qe (pV v0) U2) (qy u U1 pT))
 (pR (pW pT))
 qd)
 (pR (pW so)))),?_⟩)
 rintro ds M Q ⟨A,V,b,i,rfl,bd,q⟩
 unfold P7 at q;have ZF:zA V.on.length i=(decide (0<=i)&&decide (i<V.on.length)):=rfl;have lon:((V.on.map D.bl).length:Int)=V.on.length:=by rw[c9]
 have no:zA V.on.length i=lf->Q (.str "wish") M:=λh=>by rw[dw h]at q;exact q
 have yes:zA V.on.length i=pc->Q (Di (if (V.on.getD i.toNat lf==b)=pc then Fa "wish" else Db)) M:=λh=>by rw[h,dq Bool.noConfusion]at q;exact q
 refine qW (c:=decide (0<=i)) (λg0=>?_) (λg0=>⟨M,.refl,no (by rw[ZF,show decide (0<=i)=lf from dH.mpr g0];rfl)⟩);refine pQ bd.at_ (i' Z' (i' bd.on ?_));rw[lon];refine qW (c:=!(decide (i<(V.on.length:Int)))) (λg1=>⟨M,.refl,no (by rw[ZF,g0,show decide (i<(V.on.length:Int))=lf by simpa using g1];rfl)⟩) (λg1=>?_);have h:zA V.on.length i=pc:=by rw[ZF,g0,show decide (i<(V.on.length:Int))=pc by simpa using g1];rfl
 have q:=yes h;refine pQ bd.at_ (i' Z' (i' Z' (i' bd.on (i' (Sa h) ?_))));have es:(Vs b=="on")=b:=by cases b<;>rfl
 show if (V.on.getD i.toNat lf==(Vs b=="on"))=pc then _ else _
 rw[es];refine qW (λg=>?_) (λg=>?_)
 .rw[dw g]at q;exact⟨M,.refl,q⟩
 .rw[dq g]at q;exact⟨M,.refl,q⟩
def IY:Fq P w K mg base 6 a.a8 (Ir a):=by
 refine fq G.a8.toDG Cd (λr u=>⟨_,(pP (qg 2 Cd (qe U1 pS))
 (pP (qm (pZ u U2 pT)
 (pR (pW so))
 qd)
 (pP (qm (pZ u U2 (qk (sA pT pT)))
 (pR (pW (qa (Sr G) r G.a7 (rO v0 U2 (qe U1 pS)))))
 qd)
 (pP (qm (pZ u (qe U1 pS) (yD (pV v0) G.h.toCls G.U (uj G) r))
 (pR (pW pT))
 qd)
 (pP (qm (pZ u U2 pT)
 (pR (pW (qa (Ob G) r G.a4 (rO v0 (qe U1 pS) (qe U1 pS)))))
 qd)
 (pR (pW (qa (Qy G) r G.a6 (qz v0 (rO U2 (qe U1 pS) (sR U1 (tI pS) ue))))))))))),?_⟩)
 rintro ds M Q ⟨A,V,l,e,rfl,rd,hf,q⟩
 obtain⟨ph,gr,ws,Zb,pr,gd,rs,i1,_⟩:=rd.pl;have p8:=rd.ok.p8;cases e with
 | turn=>exact⟨M,.refl,q⟩
 | sw b i=>
  cases b with
  | true=>exact⟨pN Z',Z',Z',A,V,pc,i,Z',rd.bd,M,.refl,q⟩
  | false=>exact⟨pN Z',Z',Z',A,V,lf,i,Z',rd.bd,M,.refl,q⟩
 | call x z=>
  have q:Q (Di (if hasS l.pn x=lf then Fa "name" else Hx l V x z)) M:=q;refine⟨pN Z',Z',Z',?_⟩;refine pQ rd.bd.at_ (i' Z' (pQ i1 ⟨Z',_,⟨Z',Z'⟩,V.p,l,Z',rd.pl,by omega,λp XT=>i' pY ⟨Z',qJ _,?_⟩⟩));have t:=qQ.new (c:=.lst (l.pn.map D.str)) XT;have Yg:=rd.sub t;generalize pX M p (.lst (l.pn.map D.str))=M1 at t Yg ⊢;show if (!(inD (.str x) (l.pn.map D.str)))=pc then _ else _
  rw[sH];refine qW (c:=!(hasS l.pn x)) (λg=>?_) (λg=>?_)
  .rw[dw (by simpa using g)]at q;exact⟨M,t,q⟩
  .have g:hasS l.pn x=pc:=by simpa using g
   rw[g,dq Bool.noConfusion]at q;exact⟨A,V,l,x,z,Z',Yg,rq.mp g,M,t,q⟩
 | num wd x ns=>
  have q:Q (Di (if hasS l.pn x=lf then Fa "name" else Mq l V wd x ns)) M:=q;have hf:uK.nf wd ns.length:=hf;have key:∀(M1:Mp),qQ M M1->if (!(inD (.str x) (l.pn.map D.str)))=pc then(∃XM,qQ XM M1/\Q (.str "name") XM)else J0 a [.ref A.b,.str wd,.str x,.tup (ns.map D.int)] M1 λd M'=>∃XM,qQ XM M'/\Q d XM:=λM1 t=>by
   rw[sH];refine qW (c:=!(hasS l.pn x)) (λg=>?_) (λg=>?_)
   .rw[dw (by simpa using g)]at q;exact⟨M,t,q⟩
   .have g:hasS l.pn x=pc:=by simpa using g
    rw[g,dq Bool.noConfusion]at q;exact⟨A,V,l,wd,x,ns,Z',rd.sub t,rq.mp g,hf,M,t,q⟩
  have one:ns.length=1->∃i,ns=[i]:=List.length_eq_one_iff.mp;have two:ns.length=2->∃i j,ns=[i,j]:=λh=>by
   match ns,h with
   | [i,j],_=>exact⟨i,j,Z'⟩
  rcases id hf with⟨rfl|rfl|rfl|rfl,h⟩|⟨rfl|rfl,h⟩
  .obtain⟨i,rfl⟩:=one h;exact⟨pN Z',Z',Z',pQ rd.bd.at_ (i' Z' (pQ i1 ⟨Z',_,⟨Z',Z'⟩,V.p,l,Z',rd.pl,by omega,λp XT=>i' pY ⟨Z',qJ _,key _ (.new XT)⟩⟩))⟩
  .obtain⟨i,rfl⟩:=one h;exact⟨pN Z',Z',Z',pQ rd.bd.at_ (i' Z' (pQ i1 ⟨Z',_,⟨Z',Z'⟩,V.p,l,Z',rd.pl,by omega,λp XT=>i' pY ⟨Z',qJ _,key _ (.new XT)⟩⟩))⟩
  .obtain⟨i,rfl⟩:=one h;exact⟨pN Z',Z',Z',pQ rd.bd.at_ (i' Z' (pQ i1 ⟨Z',_,⟨Z',Z'⟩,V.p,l,Z',rd.pl,by omega,λp XT=>i' pY ⟨Z',qJ _,key _ (.new XT)⟩⟩))⟩
  .obtain⟨i,rfl⟩:=one h;exact⟨pN Z',Z',Z',pQ rd.bd.at_ (i' Z' (pQ i1 ⟨Z',_,⟨Z',Z'⟩,V.p,l,Z',rd.pl,by omega,λp XT=>i' pY ⟨Z',qJ _,key _ (.new XT)⟩⟩))⟩
  .obtain⟨i,j,rfl⟩:=two h;exact⟨pN Z',Z',Z',pQ rd.bd.at_ (i' Z' (pQ i1 ⟨Z',_,⟨Z',Z'⟩,V.p,l,Z',rd.pl,by omega,λp XT=>i' pY ⟨Z',qJ _,key _ (.new XT)⟩⟩))⟩
  .obtain⟨i,j,rfl⟩:=two h;exact⟨pN Z',Z',Z',pQ rd.bd.at_ (i' Z' (pQ i1 ⟨Z',_,⟨Z',Z'⟩,V.p,l,Z',rd.pl,by omega,λp XT=>i' pY ⟨Z',qJ _,key _ (.new XT)⟩⟩))⟩
def Dx(V:qT)(x:Str):Prop:=∀c∈V.calls,¬By c x
def F0{V:qT}(h:uZ V x=Db):Dx V x:=by
 unfold uZ at h;cases e1:AH V x with
 | some j=>rw[e1]at h;cases h
 | none=>
  cases e2:GC V x with
  | some j=>rw[e1,e2]at h;cases h
  | none=>
   intro c hc g;have h1:=jO.mp e1 c hc;have h2:=jO.mp e2 c hc;rcases g with g|g
   .rw[h1]at g;cases g
   .rw[h2]at g;cases g
def tq{c:pU}(h:c.st="rings"){x:Str}:By c x↔x=c.cr:=by unfold By pU.nG pU.nE pU.nq;rw[h];simp(decide:=true)
def Ew{c:pU}(h:c.st="waits"){x:Str}:By c x↔x=c.cr:=by unfold By pU.nG pU.nE pU.nq;rw[h];simp(decide:=true)
def uc{c:pU}(h:c.st="talks"){x:Str}:By c x↔x∈c.ms:=by unfold By pU.nG pU.nE pU.nq;rw[h,<-rq];simp(decide:=true)
def CP{c:pU}(h:c.st="held"){x:Str}:By c x↔x∈c.ms/\c.hd≠Fa x:=by unfold By pU.nG pU.nE;rw[h,<-rq];simp(decide:=true)
def GO{c:pU}(h:c.st="over"){x:Str}:¬By c x:=by unfold By pU.nG pU.nE pU.nq;rw[h];simp(decide:=true)
def tE{c:pU}(h:c.st="rings"){x:Str}:c.hasB x=pc↔x=c.cr\/x∈c.at_:=by unfold pU.hasB;rw[h,<-rq];simp(decide:=true)
def EA{c:pU}(h:c.st="waits"){x:Str}:c.hasB x=pc↔x=c.cr:=by unfold pU.hasB;rw[h];simp(decide:=true)
def tK{c:pU}(h:c.st="talks"\/c.st="held"){x:Str}:c.hasB x=pc↔x∈c.ms:=by unfold pU.hasB;rw[<-rq];rcases h with h|h<;>(rw[h];simp(decide:=true))
def GS{c:pU}(h:c.st="over"){x:Str}:c.hasB x=lf:=by unfold pU.hasB;rw[h];simp(decide:=true)
def sL{c:pU}{x:Str}:c.ny x=pc↔c.st="waits"/\x∈c.at_:=by unfold pU.ny;rw[d6,ft,rq]
theorem ET{α:Type}(f:α->Bool):∀{l:List α} {i:Nat} {c:α} (c':α),l[i]?=Fa c->((l.set i c').filter f).length+(if f c=pc then 1 else 0)=(l.filter f).length+(if f c'=pc then 1 else 0)
 | [],_,_,_,h=>by simp at h
 | x::r,0,c,c',h=>by cases h;rw[List.set_cons_zero,gJ,gJ];split<;>split<;>simp
 | x::r,i+1,c,c',h=>by
  have ih:=ET f (l:=r) (i:=i) (c:=c) c' (by simpa using h);rw[lJ,gJ,gJ];split
  .rw[eE,eE];omega
  .exact ih
def Af.set{V V':qT}{o o':Option Nat}{i:Nat}{c c':pU}(h:Af l V o)(e:V'.calls=V.calls.set i c')(hc:V.calls[i]?=Fa c)(ho:∀j,j≠i->(o==Fa j)=(o'==Fa j))(ok:wz l (o'==Fa i) c')(he:∀x,By c' x->By c x\/Dx V x)(hu:∀x,c'.hasB x=pc->c.hasB x=pc\/(uU V x:Int)<xx l x)(hw:∀x,c'.ny x=pc->c.ny x=pc\/zV V x=lf)(nx:uO l V'):Af l V' o':=by
 have si:∀{j:Nat} {d:pU},V'.calls[j]?=Fa d->(j=i/\d=c')\/(j≠i/\V.calls[j]?=Fa d):=λ{j d} g=>by rw[e]at g;exact(Fk g).imp (λg=>⟨g.1,g.2.1⟩) id
 have key:∀(j:Nat) cj x,j≠i->V.calls[j]?=Fa cj->By c' x->By cj x->False:=λj cj x hj e1 g1 g2=>by
  rcases he x g1 with z|z
  .exact hj (h.un j i cj c x e1 hc g2 z)
  .exact z cj (rE e1) g2
 have keyw:∀(j:Nat) cj x,j≠i->V.calls[j]?=Fa cj->c'.ny x=pc->cj.ny x=pc->False:=λj cj x hj e1 g1 g2=>by
  rcases hw x g1 with z|z
  .exact hj (h.wt j i cj c x e1 hc g2 z)
  .unfold zV at z;exact absurd g2 (by rw[lM.mp z cj (rE e1)|>dH.mpr];exact Bool.noConfusion)
 refine⟨λj d g=>?_,λm n cm cn x e1 e2 g1 g2=>?_,λx hx=>?_,λm n cm cn x e1 e2 g1 g2=>?_,nx⟩
 .rcases si g with⟨rfl,rfl⟩|⟨hj,g⟩
  .exact ok
  .rw[<-ho j hj];exact h.ok j d g
 .rcases si e1 with⟨rfl,rfl⟩|⟨hm,e1⟩<;>rcases si e2 with⟨rfl,rfl⟩|⟨hn,e2⟩
  .rfl
  .exact(key n cn x hn e2 g1 g2).elim
  .exact(key m cm x hm e1 g2 g1).elim
  .exact h.un m n cm cn x e1 e2 g1 g2
 .have cs:=ET (λk:pU=>k.hasB x) c' hc;have hl:=h.ln x hx;unfold uU at hl ⊢;rw[e];by_cases g:c'.hasB x=pc
  .rw[dw g]at cs;rcases hu x g with z|z
   .rw[dw z]at cs;omega
   .unfold uU at z;omega
  .rw[dq g]at cs;omega
 .rcases si e1 with⟨rfl,rfl⟩|⟨hm,e1⟩<;>rcases si e2 with⟨rfl,rfl⟩|⟨hn,e2⟩
  .rfl
  .exact(keyw n cn x hn e2 g1 g2).elim
  .exact(keyw m cm x hm e1 g2 g1).elim
  .exact h.wt m n cm cn x e1 e2 g1 g2
def Af.add{V V':qT}{c':pU}(h:WF l V)(e:V'.calls=V.calls++[c'])(ok:wz l pc c')(he:∀x,By c' x->Dx V x)(hu:∀x,c'.hasB x=pc->(uU V x:Int)<xx l x)(hw:∀x,c'.ny x=lf)(nx:uO l V'):Af l V' (Fa V.calls.length):=by
 have si:∀{j:Nat} {d:pU},V'.calls[j]?=Fa d->(j=V.calls.length/\d=c')\/(j≠V.calls.length/\V.calls[j]?=Fa d):=λ{j d} g=>by
  rw[e]at g;by_cases z:j<V.calls.length
  .rw[fk z]at g;exact .inr ⟨by omega,g⟩
  .have:=(dh.mp g).1;rw[dg,dX]at this;have z:j=V.calls.length:=by omega
   subst z;rw[fi (dC _)]at g;simp only[io,iN,jF]at g;exact .inl ⟨Z',g.symm⟩
 refine⟨λj d g=>?_,λm n cm cn x e1 e2 g1 g2=>?_,λx hx=>?_,λm n cm cn x e1 e2 g1 g2=>?_,nx⟩
 .rcases si g with⟨rfl,rfl⟩|⟨hj,g⟩
  .rw[fg];exact ok
  .rw[show(Fa V.calls.length==Fa j)=lf by simpa using dW hj];exact h.ok j d g
 .rcases si e1 with⟨rfl,rfl⟩|⟨hm,e1⟩<;>rcases si e2 with⟨rfl,rfl⟩|⟨hn,e2⟩
  .rfl
  .exact(he x g1 cn (rE e2) g2).elim
  .exact(he x g2 cm (rE e1) g1).elim
  .exact h.un m n cm cn x e1 e2 g1 g2
 .have hl:=h.ln x hx;unfold uU at hl ⊢;rw[e,ic,dg,gJ];split
  .rename_i g;have:=hu x g;unfold uU at this;simp only[ie,dX];omega
  .simp only[ie,dS];omega
 .rcases si e1 with⟨rfl,rfl⟩|⟨hm,e1⟩<;>rcases si e2 with⟨rfl,rfl⟩|⟨hn,e2⟩
  .rfl
  .rw[hw x]at g1;cases g1
  .rw[hw x]at g2;cases g2
  .exact h.wt m n cm cn x e1 e2 g1 g2
noncomputable def pU.core(c:pU):pU:={c with way:=[],si:=0}
def Ae(V V':qT):Prop:=V'.calls.map pU.core=V.calls.map pU.core
def Ae.at_{V V':qT}(h:Ae V V'){i:Nat}{c':pU}(e:V'.calls[i]?=Fa c'):∃c,V.calls[i]?=Fa c/\c'.core=c.core:=by
 have:=eV (·[i]?) h;simp only[dJ,e]at this;cases e':V.calls[i]? with
 | none=>rw[e']at this;cases this
 | some c=>rw[e']at this;exact⟨c,Z',dB this⟩
def Ae.used{V V':qT}(h:Ae V V')(x:Str):uU V' x=uU V x:=by
 have key:∀cs:List pU,(cs.filter (·.hasB x)).length=((cs.map pU.core).filter (·.hasB x)).length:=λcs=>by rw[gO,c9];rfl
 unfold uU;rw[key,h,<-key]
def Ae.wf{V V':qT}{o:Option Nat}(h:Ae V V')(wf:Af l V o)(hw:∀(i:Nat) c',V'.calls[i]?=Fa c'->c'.way≠[]/\∀z∈c'.way,z∈l.nm)(nx:uO l V'):Af l V' o:=by
 refine⟨λi c' e=>?_,λi j ci cj x e1 e2 g1 g2=>?_,λx hx=>by rw[h.used];exact wf.ln x hx,λi j ci cj x e1 e2 g1 g2=>?_,nx⟩
 .obtain⟨c,ec,ee⟩:=h.at_ e;have k:=wf.ok i c ec;have k1:c'.at_=c.at_:=show c'.core.at_=c.core.at_ by rw[ee]
  have k2:c'.ms=c.ms:=show c'.core.ms=c.core.ms by rw[ee]
  have k3:c'.cr=c.cr:=show c'.core.cr=c.core.cr by rw[ee]
  exact⟨by show Mv _ c'.core;rw[ee];exact k.sh,by rw[k3];exact k.cr,by rw[k1];exact k.at_,by rw[k2];exact k.ms,by rw[k1];exact k.an,by rw[k2];exact k.mn,by rw[k1,k3];exact k.ca,hw i c' e⟩
 .obtain⟨di,a1,a2⟩:=h.at_ e1;obtain⟨dj,b1,b2⟩:=h.at_ e2;exact wf.un i j di dj x a1 b1 (by show By di.core x;rw[<-a2];exact g1) (by show By dj.core x;rw[<-b2];exact g2)
 .obtain⟨di,a1,a2⟩:=h.at_ e1;obtain⟨dj,b1,b2⟩:=h.at_ e2;exact wf.wt i j di dj x a1 b1 (by show di.core.ny x=pc;rw[<-a2];exact g1) (by show dj.core.ny x=pc;rw[<-b2];exact g2)
def uh.core{V V':qT}(h:uh V V'):Ae V V':=by have:=eV (List.map pU.core) h;rw[eA,eA]at this;exact this
def Lz(V:qT):Ae V (qH V .turn):=by show(V.calls.map pU.tick).map pU.core=V.calls.map pU.core;rw[eA];refine gG λc _=>?_;show(pU.tick c).core=c.core;unfold pU.tick;split<;>rfl
def FF{V:qT}(wf:WF l V):WF l (qH V .turn):=(Lz V).wf wf (λi c' e=>by
 have e:(V.calls.map pU.tick)[i]?=Fa c':=e;rw[dJ]at e;cases q:V.calls[i]? with
 | none=>rw[q]at e;cases e
 | some c=>
  rw[q]at e;have e:c.tick=c':=dB e;have hw:c.tick.way=c.way:=by unfold pU.tick;split<;>rfl
  rw[<-e,hw];exact(wf.ok i c q).wy) wf.nx
def Vc{V:qT}{b:Bool}{i:Nat}(wf:WF l V):WF l (qH V (.sw b i)):=⟨wf.ok,wf.un,wf.ln,wf.wt,wf.nx⟩
def Fd{V:qT}{o:Option Nat}{i:Nat}{z:Str}{ns:T0 Nat}(wf:Af l V o):Af l (qH V (.asks i z ns)) o:=⟨wf.ok,wf.un,wf.ln,wf.wt,wf.nx⟩
def IK{V:qT}{o:Option Nat}{v:sJ}(wf:Af l V o)(hz:v.g∈l.nm):Af l (qH V (.leg v)) o:=(zG V v).core.wf wf (λi c' e=>by
 have e:(V.calls.modify v.i (·.go v.g))[i]?=Fa c':=e;rw[ji]at e;cases q:V.calls[i]? with
 | none=>rw[q]at e;cases e
 | some c=>
  rw[q]at e;have k:=(wf.ok i c q).wy;have e:(if v.i=i then c.go v.g else c)=c':=dB e;by_cases g:v.i=i
  .rw[dw g]at e;rw[<-e];refine⟨by show c.way++[v.g]≠[];simp,λz hz'=>?_⟩;rcases eB.mp (show z∈c.way++[v.g]from hz')with y|y
   .exact k.2 z y
   .rw[dG.mp y];exact hz
  .rw[dq g]at e;rw[<-show c=c' from e];exact k) wf.nx
theorem CL{o:Option Nat}(i:Nat):∀(st:tQ) (q:Option Str) {V:qT},Af l V o->(∀s∈st,s.1∈l.nm)->Af l (rc V (sd i q st)) o
 | [],_,V,wf,_=>wf
 | (y,gs)::r,Db,V,wf,h=>CL i r (Fa y) (Fd wf) λs hs=>h s (dM _ hs)
 | (y,gs)::r,Fa u,V,wf,h=>CL i r (Fa y) (Fd (IK wf (h _ dO))) λs hs=>h s (dM _ hs)
def rT{V:qT}{i:Nat}{c:pU}{f:pU->pU}(h:V.calls[i]?=Fa c):(ye V i f).calls=V.calls.set i (f c):=by unfold ye;rw[ub h]
def BG{i:Nat}:∀j,j≠i->((Fa i:Option Nat)==Fa j)=((Db:Option Nat)==Fa j):=λj hj=>by rw[show((Fa i:Option Nat)==Fa j)=lf by simpa using dW hj];rfl
def Wr{V:qT}{i:Nat}{c:pU}(wf:Af l V (Fa i))(hc:V.calls[i]?=Fa c):c.st="rings"/\c.ms=[]/\c.hd=Db/\c.wd=Db/\c.at_=[]:=by
 have sh:=(wf.ok i c hc).sh;rw[fg]at sh;rcases sh with g|g
 .exact⟨g.1,g.2.1,g.2.2.1,g.2.2.2.1,g.2.2.2.2.1 Z'⟩
 .cases g.1
def Q0{c:pU}{o:Bool}{w:Str}(k:wz l o c)(hw:w∈Mc):wz l lf (c.over w):=⟨.inr ⟨Z',.inr (.inr (.inr ⟨Z',Z',Z',Z',w,hw,Z'⟩))⟩,k.cr,(λx hx=>by cases hx),(λx hx=>by cases hx),eP,eP,(λhx=>by cases hx),k.wy⟩
def xj{V V':qT}{o:Option Nat}{i:Nat}{c:pU}{w:Str}(wf:Af l V o)(hc:V.calls[i]?=Fa c)(ho:o=Db\/o=Fa i)(hw:w∈Mc)(e:V'.calls=V.calls.set i (c.over w))(nx:uO l V'):WF l V':=
 wf.set e hc (λj hj=>by rcases ho with rfl|rfl;rfl;exact BG j hj) (Q0 (wf.ok i c hc) hw) (λx g=>(GO Z' g).elim) (λx g=>by rw[GS (c:=c.over w) Z']at g;cases g) (λx g=>by have:=(sL.mp g).1;exact absurd this (show("over":Str)≠"waits" by decide)) nx
def IW{l:qc}{V:qT}{c z:Str}(h:(l.ng z).Nodup):(yh l V c z).Nodup:=by
 unfold yh;split
 .cases(vw (l.ng z) (zH V z)).filter λx=>hasS (uR l V c z) x with
  | nil=>exact eP
  | cons y r=>exact dZ.mpr ⟨dQ,eP⟩
 .exact h.sublist gp
def MV(ps:T0 (Str×Int))(z:Str)(n:Int)(y:Str):(B4 ps z n).find? (λp=>decide (p.1=y))=if y=z then Fa (z,n)else ps.find? λp=>decide (p.1=y):=by
 unfold B4;by_cases h:ps.any (λp=>decide (p.1=z))=pc
 .rw[dw h];induction ps with
  | nil=>cases h
  | cons p r ih=>
   rw[eh,fQ,fQ];by_cases hp:p.1=z
   .rw[dw hp];by_cases hy:y=z
    .rw[dw hy,hy];simp[hp]
    .rw[dq hy];have n1:decide (p.1=y)=lf:=eY (λq=>hy (q.symm.trans hp));simp only[n1];by_cases hr:r.any (λp=>decide (p.1=z))=pc
     .have:=ih hr;rw[dq hy]at this;exact this
     .have hr:∀q∈r,¬q.1=z:=λq hq g=>hr (gI.mpr ⟨q,hq,d9 g⟩);rw[show r.map (λp=>if p.1=z then(p.1,n)else p)=r from(gG λq hq=>dq (hr q hq)).trans (jt _)]
   .rw[dq hp];have hr:r.any (λp=>decide (p.1=z))=pc:=by
     rw[fU,ia]at h;rcases h with g|g
     .exact absurd (fZ g) hp
     .exact g
    have ih:=ih hr;by_cases hy:y=z
    .rw[dw hy]at ih ⊢;have n1:decide (p.1=y)=lf:=eY (λq=>hp (q.trans hy));simp only[n1];exact ih
    .rw[dq hy]at ih ⊢;cases decide (p.1=y)with
     | true=>rfl
     | false=>exact ih
 .rw[dq h,List.find?_append];have hr:∀q∈ps,¬q.1=z:=λq hq g=>h (gI.mpr ⟨q,hq,d9 g⟩);by_cases hy:y=z
  .subst hy;rw[dw Z',ib.mpr λq hq=>by simpa using hr q hq,Option.none_or];simp
  .rw[dq hy,fQ,eY (λq:z=y=>hy q.symm)];simp
def Nd{V:qT}{z:Str}{n:Int}(h:uO l V)(h0:0<=n)(h1:n<=((l.ng z).length:Int)):uO l (qH V (.next z n)):=λy hy ht=>by
 show ∃v,(B4 V.ps z n).find? _=Fa v/\_;rw[MV];by_cases e:y=z
 .subst e;rw[dw Z'];exact⟨_,Z',h0,h1⟩
 .rw[dq e];exact h y hy ht
def Ft{V:qT}(h:tN l V x=pc):(uU V x:Int)<xx l x:=fZ h
def K9{V V':qT}{o:Option Nat}{i:Nat}{c:pU}{w x:Str}(wf:Af l V o)(hc:V.calls[i]?=Fa c)(e:V'.calls=V.calls.set i (c.over w))(hx:By c x):Dx V' x:=λd hd g=>by
 rw[e]at hd;obtain⟨j,hj,ed⟩:=gm hd;have ej:(V.calls.set i (c.over w))[j]?=Fa d:=by rw[df hj,ed]
 rcases Fk ej with⟨_,rfl,_⟩|⟨X3,ej⟩
 .exact GO Z' g
 .exact X3 (wf.un j i d c x ej hc g hx)
def Lv{V V':qT}{i:Nat}{c:pU}{w x:Str}(hc:V.calls[i]?=Fa c)(e:V'.calls=V.calls.set i (c.over w))(hx:c.hasB x=pc):uU V' x+1=uU V x:=by
 have:=ET (λk:pU=>k.hasB x) (c.over w) hc;unfold uU;rw[e];simp only[hx,jo,GS (c:=c.over w) Z']at this
 simpa using this
def Gq{V V':qT}{o:Option Nat}{i j:Nat}{c d:pU}{ms:QQQ}(wf:Af l V o)(ho:o=Db\/o=Fa i)(hc:V.calls[i]?=Fa c)(hd:V.calls[j]?=Fa d)(YG:i≠j)(e:V'.calls=(V.calls.set i (c.over "merged")).set j (d.mem ms))(nx:uO l V')(dt:d.st="talks")(m1:ms.Nodup)(m2:ms.length=2\/ms.length=3)(m3:∀x∈ms,x∈d.ms\/(By c x/\c.hasB x=pc))(m4:∀x∈ms,x∈l.pn):WF l V':=by
 have e1:(ye V i (·.over "merged")).calls=V.calls.set i (c.over "merged"):=rT hc;have w1:WF l (ye V i (·.over "merged")):=xj wf hc ho (by decide) e1 wf.nx;have hd1:(ye V i (·.over "merged")).calls[j]?=Fa d:=by rw[e1,eZ YG];exact hd
 have kd:=w1.ok j d hd1;have kd':d.hd=Db/\d.wd=Db/\d.at_=[]:=by
  rcases kd.sh with g|⟨_,g|g|⟨_,g⟩|g⟩
  .rw[dt]at g;exact absurd g.1 (by decide)
  .rw[dt]at g;exact absurd g.1 (by decide)
  .exact⟨g.2.2.1,g.2.2.2.1,g.2.2.2.2⟩
  .rw[dt]at g;exact absurd g.1 (by decide)
  .rw[dt]at g;exact absurd g.1 (by decide)
 refine w1.set (c':=d.mem ms) (by rw[e,e1]) hd1 (λ_ _=>rfl) ⟨.inr ⟨Z',.inr (.inl ⟨dt,m2,kd'.1,kd'.2.1,kd'.2.2⟩)⟩,kd.cr,kd.at_,m4,kd.an,m1,kd.ca,kd.wy⟩ (λx g=>?_) (λx g=>?_) (λx g=>?_) nx
 .have g:=(uc (c:=d.mem ms) dt).mp g;rcases m3 x g with y|y
  .exact .inl ((uc dt).mpr y)
  .exact .inr (K9 wf hc e1 y.1)
 .have g:=(tK (c:=d.mem ms) (.inl dt)).mp g;rcases m3 x g with y|y
  .exact .inl ((tK (.inl dt)).mpr y)
  .have:=Lv hc e1 y.2;have:=wf.ln x (m4 x g);exact .inr (by omega)
 .have:=(sL.mp g).1;rw[show(d.mem ms).st="talks" from dt]at this;exact absurd this (by decide)
def Ti{V V1:qT}{i:Nat}{c:pU}{e:wB}(ok:sj l)(wf:Af l V1 (Fa i))(same:Ae V V1)(hc:V1.calls[i]?=Fa c)(he:Ho l V c.cr e):WF l (rc V1 (tV l V1 i e)):=by
 obtain⟨p1,p2,p3,p4,p5⟩:=Wr wf hc;have k:=wf.ok i c hc;have hi:=(dh.mp hc).1;cases e with
 | rings z ps=>
  obtain⟨hz,X3,rfl⟩:=he;obtain⟨⟨q1,q2,q3,q4⟩,_⟩:=ok.of hz;obtain⟨r1,r2⟩:=Gs (l:=l) (V:=V) (c:=c.cr) (z:=z);generalize hps:yh l V c.cr z=ps at X3 r1 r2;have XJ:∀V2:qT,V2.calls=V1.calls->uO l V2->WF l (qH V2 (.rings i ps)):=λV2 e2 nx=>by
   have e3:(qH V2 (.rings i ps)).calls=V1.calls.set i (c.ring ps):=by show(ye (rj V2 _) i _).calls=_;rw[rT (c:=c) (by show V2.calls[i]?=_;rw[e2];exact hc)];show V2.calls.set i _=_;rw[e2]
   have free:∀x∈ps,tN l V x=pc/\x≠c.cr:=λx hx=>by have h:=(fK.mp (r1 x hx).1).2;simp only[d6,gT]at h;exact⟨h.2,by simpa using h.1⟩
   refine wf.set e3 hc BG ⟨.inl ⟨Z',p2,p3,p4,(λh=>by cases h),λ_=>X3⟩,k.cr,λx hx=>q4 x (r1 x hx).2,k.ms,by rw[<-hps];exact IW q3,k.mn,λhx=>(free _ hx).2 Z',k.wy⟩ (λx g=>?_) (λx g=>?_) (λx g=>?_) nx
   .exact .inl ((tq p1).mpr ((tq (c:=c.ring ps) Z').mp g))
   .rcases(tE (c:=c.ring ps) Z').mp g with y|y
    .exact .inl ((tE p1).mpr (.inl y))
    .refine .inr ?_;rw[same.used];exact Ft (free x y).1
   .exact absurd (sL.mp g).1 (show("rings":Str)≠"waits" by decide)
  show WF l (rc V1 ((if (l.nC z=="turns")=pc then _ else _)++[.rings i ps]));rw[se];by_cases ht:(l.nC z=="turns")=pc
  .rw[dw ht];have lp:0<(l.ng z).length:=fG.mpr q1;refine XJ _ Z' (Nd wf.nx (fh _ (by omega)) (Int.le_of_lt (eX _ (by omega))))
  .rw[dq ht];exact XJ V1 Z' wf.nx
 | waits z=>
  obtain⟨hz,X3,hw⟩:=he;have e3:(qH V1 (.waits i z)).calls=V1.calls.set i (c.wait z):=rT (V:=rj V1 _) hc;have hw1:zV V1 z=lf:=by
   unfold zV at hw ⊢;have key:∀cs:List pU,cs.any (·.ny z)=(cs.map pU.core).any (·.ny z):=λcs=>by rw[j3];rfl
   rw[key,same,<-key];exact hw
  refine wf.set e3 hc BG ⟨.inr ⟨Z',.inl ⟨Z',p2,p3,p4,Z'⟩⟩,k.cr,λx hx=>by rw[dG.mp hx];exact hz,k.ms,dZ.mpr ⟨dQ,eP⟩,k.mn,λhx=>X3 (dG.mp hx).symm,k.wy⟩ (λx g=>?_) (λx g=>?_) (λx g=>?_) wf.nx
  .exact .inl ((tq p1).mpr ((Ew (c:=c.wait z) Z').mp g))
  .exact .inl ((tE p1).mpr (.inl ((EA (c:=c.wait z) Z').mp g)))
  .have:=(sL.mp g).2;rw[dG.mp this];exact .inr hw1
 | breaks z=>
  obtain⟨x,rfl,hb⟩:=he;obtain⟨j,d0,t1,t2,t3,t4,t5,t6⟩:=GL hb;have ht:vU V1 z=Fa j:=by
   rw[<-t1];unfold vU;have key:∀cs:List pU,cs.findIdx? (·.nq z)=(cs.map pU.core).findIdx? (·.nq z):=λcs=>by rw[ik];rfl
   rw[key,same,<-key]
  obtain⟨d,ed,ec⟩:∃d,V1.calls[j]?=Fa d/\d.core=d0.core:=by
   have:=eV (·[j]?) same;simp only[dJ,t2]at this;cases q:V1.calls[j]? with
   | none=>rw[q]at this;cases this
   | some d=>rw[q]at this;exact⟨d,Z',dB this⟩
  have ds:d.st="talks":=by rw[show d.st=d0.st from show d.core.st=d0.core.st by rw[ec]];exact t3
  have dm:d.ms=d0.ms:=show d.core.ms=d0.core.ms by rw[ec]
  have YG:i≠j:=λy=>by subst y;rw[hc]at ed;cases ed;rw[p1]at ds;exact absurd ds (by decide)
  have hee:tV l V1 i (.breaks z)=[.merge i j (d.ms++[c.cr])]:=by unfold tV;dsimp only;rw[ht,hc];dsimp only;rw[ed];rfl
  rw[hee];have ncr:c.cr∉d.ms:=λy=>YG (wf.un i j c d c.cr hc ed ((tq p1).mpr Z') ((uc ds).mpr y));have kd:=wf.ok j d ed;refine Gq (V':=qH V1 (.merge i j (d.ms++[c.cr]))) (ms:=d.ms++[c.cr]) wf (.inr Z') hc ed YG ?_ wf.nx ds ?_ (.inr ?_) (λx hx=>?_) (λx hx=>?_)
  .show(V1.calls.modify i _).modify j _=_;rw[ub hc,ub (show(V1.calls.set i _)[j]?=Fa d by rw[eZ YG];exact ed)]
  .refine fY.mpr ⟨kd.mn,dZ.mpr ⟨dQ,eP⟩,λx hx y hy q=>ncr ?_⟩;rw[dG.mp hy]at q;rw[<-q];exact hx
  .rw[dg,dm,t5];rfl
  .rcases eB.mp hx with y|y
   .exact .inl y
   .rw[dG.mp y];exact .inr ⟨(tq p1).mpr Z',(tE p1).mpr (.inl Z')⟩
  .rcases eB.mp hx with y|y
   .exact kd.ms x y
   .rw[dG.mp y];exact k.cr
 | engaged z=>exact xj (V':=qH V1 (.over i "engaged")) wf hc (.inr Z') (by decide) (rT (V:=rj V1 _) hc) wf.nx
 | barred=>exact xj (V':=qH V1 (.over i "barred")) wf hc (.inr Z') (by decide) (rT (V:=rj V1 _) hc) wf.nx
 | ring ns=>exact xj (V':=qH V1 (.over i "ring")) wf hc (.inr Z') (by decide) (rT (V:=rj V1 _) hc) wf.nx
def Ry{V:qT}{i:Nat}{k:pU}(ok:sj l)(wf:Af l V (Fa i))(hk:V.calls[i]?=Fa k):WF l (rc V (xH l V i)):=by
 have YQ:=wf.ok i k hk;unfold xH;rw[hk];dsimp only[Option.elim];obtain⟨z,hz⟩:∃z,k.way.getLast?=Fa z:=by
  cases e:k.way.getLast? with
  | none=>exact absurd (gX.mp e) YQ.wy.1
  | some z=>exact⟨z,Z'⟩
 rw[show k.way.getLastD Str.empty=z by rw[iC,hz];rfl];have ro:yC l V k.cr (l.nm.length+1) [] (vt l V k.cr z k.way.dropLast):=Aa ok _ _ _ _ (YQ.wy.2 z (jg hz)) λx hx=>YQ.wy.2 x (jh _ hx);generalize vt l V k.cr z k.way.dropLast=R at ro;obtain⟨e,st⟩:=R;have snm:∀s∈st,s.1∈l.nm:=λs hs=>(ro.nm s hs).elim (λh=>by cases h) id;have w1:=CL i st Db wf snm;have Yl:=vJ i st Db V;rw[se,se];dsimp only;have XJ:∀V1:qT,Af l V1 (Fa i)->uh V V1->WF l (rc V1 (tV l V i e)):=λV1 w s=>by
  rw[<-s.ends];obtain⟨c',e1,e2⟩:=s.at_ hk;have hcr:c'.cr=k.cr:=show c'.bare.cr=k.bare.cr by rw[e2]
  exact Ti ok w s.core e1 (by rw[hcr];exact ro.e)
 cases e with
 | ring ns=>
  obtain⟨x,ns',rfl⟩:=fV (show ns≠[]from ro.e);cases hl:st.getLast? with
  | none=>rw[show uB i st (.ring (x::ns'))=[]by unfold uB;dsimp only;rw[hl];rfl];exact XJ _ w1 Yl
  | some s0=>rw[show uB i st (.ring (x::ns'))=[.leg ⟨i,s0.1,x,s0.1⟩]by unfold uB;dsimp only;rw[hl];rfl];exact XJ _ (IK (v:=⟨i,s0.1,x,s0.1⟩) w1 (ro.wy _ Z' x dO)) (Yl.trans (zG _ _))
 | rings _ _=>exact XJ _ w1 Yl
 | waits _=>exact XJ _ w1 Yl
 | breaks _=>exact XJ _ w1 Yl
 | engaged _=>exact XJ _ w1 Yl
 | barred=>exact XJ _ w1 Yl
def I0{V:qT}{y z:Str}(wf:WF l V)(hy:y∈l.pn)(hz:z∈l.nm)(hi:Dx V y)(hf:tN l V y=pc):Af l (rc V [.new V.calls.length y,.leg ⟨V.calls.length,y,z,y⟩]) (Fa V.calls.length):=by
 have e:(rc V [.new V.calls.length y,.leg ⟨V.calls.length,y,z,y⟩]).calls=V.calls++[(zy y).go z]:=by show(V.calls++[zy y]).modify V.calls.length _=_;rw[ub (c:=zy y) (by rw[fi (dC _),io];rfl),kG _ _ (dC _),io];rfl
 refine wf.add e ⟨.inl ⟨Z',Z',Z',Z',λ_=>rfl,(λh=>by cases h)⟩,hy,(λx h=>by cases h),(λx h=>by cases h),eP,eP,(λh=>by cases h),fF _ _,λx h=>by rw[dG.mp h];exact hz⟩ (λx h=>?_) (λx h=>?_) (λx=>?_) wf.nx
 .rw[(tq (c:=(zy y).go z) Z').mp h];exact hi
 .rcases(tE (c:=(zy y).go z) Z').mp h with g|g
  .rw[g];exact Ft hf
  .cases g
 .cases q:((zy y).go z).ny x with
  | false=>rfl
  | true=>exact absurd (sL.mp q).1 (show("rings":Str)≠"waits" by decide)
def L8{V:qT}{y z:Str}:∃k,(rc V [.new V.calls.length y,.leg ⟨V.calls.length,y,z,y⟩]).calls[V.calls.length]?=Fa k:=by
 have:V.calls.length<(rc V [.new V.calls.length y,.leg ⟨V.calls.length,y,z,y⟩]).calls.length:=by show V.calls.length<((V.calls++[zy y]).modify _ _).length;rw[gx,dg];exact fM _
 exact⟨_,df this⟩
def FL{V:qT}{i:Nat}{c:pU}{x y:Str}{fs:T0 Nat}(wf:WF l V)(hc:V.calls[i]?=Fa c)(hs:c.st="rings")(hy:y∈l.nm):Af l (rc V [.asks i x fs,.quiet i,.leg ⟨i,x,y,x⟩]) (Fa i):=by
 refine IK (v:=⟨i,x,y,x⟩) ?_ hy;have k:=wf.ok i c hc;have w1:WF l (qH V (.asks i x fs)):=Fd wf;have sh:c.ms=[]/\c.hd=Db/\c.wd=Db:=by
  rcases k.sh with g|⟨_,g|g|⟨_,g⟩|g⟩
  .exact⟨g.2.1,g.2.2.1,g.2.2.2.1⟩
  all_goals(rw[hs]at g;exact absurd g.1 (by decide))
 refine w1.set (i:=i) (c:=c) (c':=c.oo) (rT (V:=rj (qH V (.asks i x fs)) _) hc) hc (λj hj=>(BG j hj).symm) ?_ (λx g=>.inl ?_) (λx g=>.inl ?_) (λx g=>?_) wf.nx
 .rw[fg];exact⟨.inl ⟨hs,sh.1,sh.2.1,sh.2.2,λ_=>rfl,(λh=>by cases h)⟩,k.cr,(λx h=>by cases h),k.ms,eP,k.mn,(λh=>by cases h),k.wy⟩
 .exact(tq hs).mpr ((tq (c:=c.oo) hs).mp g)
 .rcases(tE (c:=c.oo) hs).mp g with y|y
  .exact(tE hs).mpr (.inl y)
  .cases y
 .have:=(sL.mp g).1;rw[show c.oo.st="rings" from hs]at this;exact absurd this (by decide)
inductive VY(l:qc)(V:qT)(i:Nat):List Nat->Prop
 | no:VY l V i []
 | on (c:pU) (k:Nat) (r:List Nat) (b:Bool) (x y:Str) (n:Int):V.calls[i]?=Fa c->c.st="rings"->l.nk[k]?=Fa (b,.silent x y n)->c.way.getLast?=Fa x->y∈l.nm->VY l V i (k::r)
def HL{V:qT}(ok:sj l):VY l V i (Ac l V i):=by
 unfold Ac;cases e:V.calls[i]? with
 | none=>exact .no
 | some c=>
  dsimp only[Option.elim];by_cases hs:(c.st=="rings")=pc
  .rw[dw hs];cases q:HZ l V (Hg c)with
   | nil=>exact .no
   | cons k r=>
    obtain⟨⟨b,w⟩,e1,e2⟩:=FX (i:=k) (by rw[q];exact dO);cases w with
    | silent x y n=>unfold Hg at e2;rw[d6,ft]at e2;exact .on c k r b x y n e (Ix hs) e1 e2.1 (CT ok (fA e1) (z:=Str.empty) Z')
    | _=>cases e2
  .rw[dq hs];exact .no
def Ap{l:qc}{V:qT}{i k:Nat}{r:T0 Nat}{b:Bool}{x y:Str}{n:Int}(h:l.nk[k]?=Fa (b,.silent x y n)):uD l V i (k::r)=[.asks i x (k::r),.quiet i,.leg ⟨i,x,y,x⟩]++xH l (rc V [.asks i x (k::r),.quiet i,.leg ⟨i,x,y,x⟩]) i:=by unfold uD;simp only[List.head?_cons,mz,h]
def ER{V:qT}{i:Nat}{c:pU}{x y:Str}{fs:T0 Nat}(h:V.calls[i]?=Fa c):(rc V [.asks i x fs,.quiet i,.leg ⟨i,x,y,x⟩]).calls[i]?=Fa (c.oo.go y):=by show((V.calls.modify i pU.oo).modify i _)[i]?=_;rw[ji,ji,h];simp
def JN{V:qT}(ok:sj l)(wf:WF l V):WF l (rc V (uD l V i (Ac l V i))):=by
 have d:=HL (V:=V) (i:=i) ok;generalize Ac l V i=fs at d;cases d with
 | no=>exact wf
 | on c k r b x y n hc hs hk hw hy=>rw[Ap hk,se];exact Ry ok (FL wf hc hs hy) (ER hc)
theorem Ge(ok:sj l):∀(is:T0 Nat) {V:qT},WF l V->WF l (rc V (sy l is V))
 | [],_,wf=>wf
 | i::r,V,wf=>by unfold sy;rw[se];exact Ge ok r (JN ok wf)
theorem Ez(l:qc)(i:Nat):∀(is:T0 Nat) (V:qT),sy l (is++[i]) V=sy l is V++uD l (rc V (sy l is V)) i (Ac l (rc V (sy l is V)) i)
 | [],V=>by show uD l V i _++[]=[]++_;rw[e9];rfl
 | j::r,V=>by show uD l V j _++sy l (r++[i]) _=(uD l V j _++sy l r _)++_;rw[Ez l i r,fz,show sy l (j::r) V=uD l V j (Ac l V j)++sy l r (rc V (uD l V j (Ac l V j)))from Z',se]
def ux{x y:Str}:y∈r6 ss x↔y∈ss/\y≠x:=by unfold r6;rw[fK,gT,gj]
theorem xZ{x:Str}:∀{ss:QQQ},ss.Nodup->x∈ss->(r6 ss x).length+1=ss.length
 | [],_,h=>by cases h
 | y::r,nd,h=>by
  have nd:=dZ.mp nd;unfold r6;rw[gJ];by_cases e:y=x
  .subst e;rw[show(!(y==y))=lf by simp,dq (by decide),k9.mpr λz hz=>by
    have:z≠y:=λq=>nd.1 (q ▸ hz)
    simpa using this]
   rfl
  .have h:x∈r:=by
    rcases dA.mp h with q|q
    .exact absurd q.symm e
    .exact q
   rw[dw (by simpa using e)];have:=xZ nd.2 h;unfold r6 at this;rw[eE,eE,this]
def PV{V:qT}{i:Nat}{c:pU}{x:Str}(wf:WF l V)(hc:V.calls[i]?=Fa c)(hl:c.nY x=pc):WF l (rc V (xl V x i)):=by
 have k:=wf.ok i c hc;unfold xl;rw[hc];dsimp only[Option.elim];by_cases h1:c.nE x=pc
 .rw[dw h1];exact xj (V':=qH V (.over i "left")) wf hc (.inl Z') (by decide) (rT (V:=rj V _) hc) wf.nx
 .rw[dq h1];have e1:(qH V (.leaves i x)).calls=V.calls.set i (c.drop x):=rT (V:=rj V _) hc;by_cases h2:hasS c.at_ x=pc
  .rw[dw h2];by_cases h3:r6 c.at_ x=[]
   .rw[dw h3];refine xj (V':=qH (qH V (.leaves i x)) (.over i "refused")) wf hc (.inl Z') (by decide) (w:="refused") ?_ wf.nx;have h4:(qH V (.leaves i x)).calls[i]?=Fa (c.drop x):=by rw[e1,eU (dh.mp hc).1]
    show(ye (rj (qH V (.leaves i x)) _) i _).calls=_;rw[rT (V:=rj (qH V (.leaves i x)) _) h4];show(qH V (.leaves i x)).calls.set i _=_;rw[e1,jc];rfl
   .rw[dq h3];have hs:c.st="rings"/\c.ms=[]/\c.hd=Db/\c.wd=Db:=by
     rcases k.sh with g|⟨_,g|g|⟨_,g⟩|g⟩
     .exact⟨g.1,g.2.1,g.2.2.1,g.2.2.2.1⟩
     .exfalso;have:=xZ k.an (rq.mp h2);rw[g.2.2.2.2]at this;exact h3 (gC.mp (by omega))
     .rw[g.2.2.2.2]at h2;cases h2
     .rw[g.2.2.2.2.2]at h2;cases h2
     .rw[g.2.2.2.1]at h2;cases h2
    refine wf.set (V':=qH V (.leaves i x)) (c':=c.drop x) e1 hc (λ_ _=>rfl) ⟨.inl ⟨hs.1,by show r6 c.ms x=[];rw[hs.2.1];rfl,hs.2.2.1,hs.2.2.2,(λh=>by cases h),λ_=>h3⟩,k.cr,λy hy=>k.at_ y (ux.mp hy).1,λy hy=>k.ms y (ux.mp hy).1,k.an.sublist gp,k.mn.sublist gp,λhy=>k.ca (ux.mp hy).1,k.wy⟩ (λy g=>?_) (λy g=>?_) (λy g=>?_) wf.nx
    .exact .inl ((tq hs.1).mpr ((tq (c:=c.drop x) hs.1).mp g))
    .refine .inl ((tE hs.1).mpr (((tE (c:=c.drop x) hs.1).mp g).imp id λh=>(ux.mp h).1))
    .have:=(sL.mp g).1;rw[show(c.drop x).st="rings" from hs.1]at this;exact absurd this (by decide)
  .rw[dq h2];by_cases h3:2<c.ms.length
   .rw[dw h3];have hx:x∈c.ms:=by unfold pU.nY at hl;rw[dH.mpr h1,dH.mpr h2,fO,fO]at hl;exact rq.mp hl
    have hs:c.st="talks"/\c.ms.length=3/\c.hd=Db/\c.wd=Db/\c.at_=[]:=by
     rcases k.sh with g|⟨_,g|g|⟨_,g⟩|g⟩
     .rw[g.2.1]at h3;cases h3
     .rw[g.2.1]at h3;cases h3
     .exact⟨g.1,g.2.1.elim (λq=>by omega) id,g.2.2⟩
     .omega
     .rw[g.2.1]at h3;cases h3
    have dl:=xZ k.mn hx;refine wf.set (V':=qH V (.leaves i x)) (c':=c.drop x) e1 hc (λ_ _=>rfl) ⟨.inr ⟨Z',.inr (.inl ⟨hs.1,.inl (by show(r6 c.ms x).length=2;omega),hs.2.2.1,hs.2.2.2.1,by show r6 c.at_ x=[];rw[hs.2.2.2.2];rfl⟩)⟩,k.cr,λy hy=>k.at_ y (ux.mp hy).1,λy hy=>k.ms y (ux.mp hy).1,k.an.sublist gp,k.mn.sublist gp,λhy=>k.ca (ux.mp hy).1,k.wy⟩ (λy g=>?_) (λy g=>?_) (λy g=>?_) wf.nx
    .exact .inl ((uc hs.1).mpr (ux.mp ((uc (c:=c.drop x) hs.1).mp g)).1)
    .exact .inl ((tK (.inl hs.1)).mpr (ux.mp ((tK (c:=c.drop x) (.inl hs.1)).mp g)).1)
    .have:=(sL.mp g).1;rw[show(c.drop x).st="talks" from hs.1]at this;exact absurd this (by decide)
   .rw[dq h3];exact xj (V':=qH V (.over i "done")) wf hc (.inl Z') (by decide) (rT (V:=rj V _) hc) wf.nx
def Lo{V:qT}{i:Nat}{c:pU}(wf:WF l V)(hc:V.calls[i]?=Fa c)(hx:hasS c.at_ x=pc)(hi:Dx V x)(hf:c.ny x=pc->tN l V x=pc):WF l (qH V (.talks i [c.cr,x])):=by
 have k:=wf.ok i c hc;have hx:=rq.mp hx;have X3:c.cr≠x:=λq=>k.ca (q ▸ hx);have hs:(c.st="rings"\/c.st="waits")/\c.wd=Db:=by
  rcases k.sh with g|⟨_,g|g|⟨_,g⟩|g⟩
  .exact⟨.inl g.1,g.2.2.2.1⟩
  .exact⟨.inr g.1,g.2.2.2.1⟩
  .rw[g.2.2.2.2]at hx;cases hx
  .rw[g.2.2.2.2.2]at hx;cases hx
  .rw[g.2.2.2.1]at hx;cases hx
 have ec:By c c.cr/\c.hasB c.cr=pc:=by
  rcases hs.1 with g|g
  .exact⟨(tq g).mpr Z',(tE g).mpr (.inl Z')⟩
  .exact⟨(Ew g).mpr Z',(EA g).mpr Z'⟩
 refine wf.set (V':=qH V (.talks i [c.cr,x])) (c':=c.og [c.cr,x]) (rT (V:=rj V _) hc) hc (λ_ _=>rfl) ⟨.inr ⟨Z',.inr (.inl ⟨Z',.inl Z',Z',hs.2,Z'⟩)⟩,k.cr,(λy h=>by cases h),(λy h=>?_),eP,?_,(λh=>by cases h),k.wy⟩ (λy g=>?_) (λy g=>?_) (λy g=>?_) wf.nx
 .rcases dA.mp h with g|g
  .rw[g];exact k.cr
  .rw[dG.mp g];exact k.at_ x hx
 .exact dZ.mpr ⟨λh=>X3 (dG.mp h),dZ.mpr ⟨dQ,eP⟩⟩
 .rcases dA.mp ((uc (c:=c.og [c.cr,x]) Z').mp g)with h|h
  .rw[h];exact .inl ec.1
  .rw[dG.mp h];exact .inr hi
 .rcases dA.mp ((tK (c:=c.og [c.cr,x]) (.inl Z')).mp g)with h|h
  .rw[h];exact .inl ec.2
  .rw[dG.mp h];rcases hs.1 with q|q
   .exact .inl ((tE q).mpr (.inr hx))
   .exact .inr (Ft (hf (sL.mpr ⟨q,hx⟩)))
 .exact absurd (sL.mp g).1 (show("talks":Str)≠"waits" by decide)
def Av{c:pU}{x:Str}:c.nH x=pc↔c.st="talks"/\x∈c.ms/\c.ms.length=2:=by unfold pU.nH pU.nq;rw[d6,d6,ft,rq,ft,and_assoc]
def MR{c:pU}(k:wz l lf c)(h:c.st="talks"):c.hd=Db/\c.wd=Db/\c.at_=[]:=by
 rcases k.sh with g|⟨_,g|g|⟨_,g⟩|g⟩
 .rw[h]at g;exact absurd g.1 (by decide)
 .rw[h]at g;exact absurd g.1 (by decide)
 .exact g.2.2
 .rw[h]at g;exact absurd g.1 (by decide)
 .rw[h]at g;exact absurd g.1 (by decide)
def Fm{c:pU}{x:Str}(k:wz l lf c)(h:c.hd=Fa x):c.st="held"/\c.ms.length=2/\x∈c.ms/\c.wd=Db/\c.at_=[]:=by
 rcases k.sh with g|⟨_,g|g|⟨y,g⟩|g⟩
 .rw[h]at g;cases g.2.2.1
 .rw[h]at g;cases g.2.2.1
 .rw[h]at g;cases g.2.2.1
 .have e:=g.2.2.1;rw[h]at e;cases e;exact⟨g.1,g.2.1,g.2.2.2⟩
 .rw[h]at g;cases g.2.2.1
def Qj{V:qT}{i:Nat}{c:pU}{x:Str}(wf:WF l V)(hc:V.calls[i]?=Fa c)(hx:c.nH x=pc):WF l (qH V (.held i x)):=by
 have k:=wf.ok i c hc;obtain⟨h1,h2,h3⟩:=Av.mp hx;obtain⟨s1,s2,s3⟩:=MR k h1;refine wf.set (V':=qH V (.held i x)) (c':=c.hold x) (rT (V:=rj V _) hc) hc (λ_ _=>rfl) ⟨.inr ⟨Z',.inr (.inr (.inl ⟨x,Z',h3,Z',h2,s2,s3⟩))⟩,k.cr,k.at_,k.ms,k.an,k.mn,k.ca,k.wy⟩ (λy g=>.inl ?_) (λy g=>.inl ?_) (λy g=>?_) wf.nx
 .exact(uc h1).mpr ((CP (c:=c.hold x) Z').mp g).1
 .exact(tK (.inl h1)).mpr ((tK (c:=c.hold x) (.inr Z')).mp g)
 .exact absurd (sL.mp g).1 (show("held":Str)≠"waits" by decide)
def QH{V:qT}{i:Nat}{c:pU}{x:Str}(wf:WF l V)(hc:V.calls[i]?=Fa c)(hx:c.hd=Fa x)(hi:Dx V x):WF l (qH V (.talks i c.ms)):=by
 have k:=wf.ok i c hc;obtain⟨h1,h2,h3,h4,h5⟩:=Fm k hx;refine wf.set (V':=qH V (.talks i c.ms)) (c':=c.og c.ms) (rT (V:=rj V _) hc) hc (λ_ _=>rfl) ⟨.inr ⟨Z',.inr (.inl ⟨Z',.inl h2,Z',h4,Z'⟩)⟩,k.cr,(λy h=>by cases h),k.ms,eP,k.mn,(λh=>by cases h),k.wy⟩ (λy g=>?_) (λy g=>.inl ?_) (λy g=>?_) wf.nx
 .have g:=(uc (c:=c.og c.ms) Z').mp g;by_cases e:y=x
  .rw[e];exact .inr hi
  .exact .inl ((CP h1).mpr ⟨g,λq=>e (dB (q.symm.trans hx))⟩)
 .exact(tK (.inr h1)).mpr ((tK (c:=c.og c.ms) (.inl Z')).mp g)
 .exact absurd (sL.mp g).1 (show("talks":Str)≠"waits" by decide)
def Ee{c:pU}{x:Str}(nd:c.ms.Nodup)(h2:c.ms.length=2)(hx:x∈c.ms):qX c x∈c.ms/\qX c x≠x:=by
 have dl:=xZ nd hx;obtain⟨y,r,e⟩:=List.exists_cons_of_length_pos (show 0<(r6 c.ms x).length by omega);have hm:y∈r6 c.ms x:=by rw[e];exact dO
 unfold qX;rw[e];exact ux.mp hm
def Ki{V:qT}{i j:Nat}{c d:pU}{w x:Str}(wf:WF l V)(hc:V.calls[i]?=Fa c)(hd:V.calls[j]?=Fa d)(h1:c.hd=Fa x)(h2:d.nH x=pc):i≠j/\WF l (qH V (.merge i j (if (w=="hand")=pc then[qX c x,qX d x]else[x,qX c x,qX d x]))):=by
 have k:=wf.ok i c hc;have kd:=wf.ok j d hd;obtain⟨c1,c2,c3,c4,c5⟩:=Fm k h1;obtain⟨d1,d2,d3⟩:=Av.mp h2;obtain⟨a1,a2⟩:=Ee k.mn c2 c3;obtain⟨b1,b2⟩:=Ee kd.mn d3 d2;have YG:i≠j:=λq=>by subst q;rw[hc]at hd;cases hd;rw[c1]at d1;exact absurd d1 (by decide)
 refine⟨YG,?_⟩;have ea:By c (qX c x):=(CP c1).mpr ⟨a1,λq=>a2 (dB (q.symm.trans h1))⟩;have ab:qX c x≠qX d x:=λq=>YG (wf.un i j c d _ hc hd ea (by rw[q];exact(uc d1).mpr b1));generalize hms:(if (w=="hand")=pc then[qX c x,qX d x]else[x,qX c x,qX d x])=ms;have mm:∀y∈ms,y=x\/y=qX c x\/y=qX d x:=λy hy=>by
  rw[<-hms]at hy;split at hy
  .rcases dA.mp hy with g|g
   .exact .inr (.inl g)
   .exact .inr (.inr (dG.mp g))
  .rcases dA.mp hy with g|g
   .exact .inl g
   .rcases dA.mp g with g|g
    .exact .inr (.inl g)
    .exact .inr (.inr (dG.mp g))
 have n2:[qX c x,qX d x].Nodup:=dZ.mpr ⟨λh=>ab (dG.mp h),dZ.mpr ⟨dQ,eP⟩⟩;refine Gq (V':=qH V (.merge i j ms)) (ms:=ms) wf (.inl Z') hc hd YG ?_ wf.nx d1 ?_ ?_ (λy hy=>?_) (λy hy=>?_)
 .show(V.calls.modify i _).modify j _=_;rw[ub hc,ub (show(V.calls.set i _)[j]?=Fa d by rw[eZ YG];exact hd)]
 .rw[<-hms];split
  .exact n2
  .refine dZ.mpr ⟨λh=>?_,n2⟩;rcases dA.mp h with g|g
   .exact a2 g.symm
   .exact b2 (dG.mp g).symm
 .rw[<-hms];split
  .exact .inl Z'
  .exact .inr Z'
 .rcases mm y hy with g|g|g
  .rw[g];exact .inl d2
  .rw[g];exact .inr ⟨ea,(tK (.inr c1)).mpr a1⟩
  .rw[g];exact .inl b1
 .rcases mm y hy with g|g|g
  .rw[g];exact k.ms x c3
  .rw[g];exact k.ms _ a1
  .rw[g];exact kd.ms _ b1
def T4{V:qT}{i:Int}(h:zA V.calls.length i=pc):∃c,V.calls[i.toNat]?=Fa c:=by unfold zA at h;rw[d6,eG,eG]at h;exact⟨_,df (by omega)⟩
def Fb{V:qT}{b:Bool}(h:(if ((uZ V x).isNone&&b)=pc then Fa ("full":Str)else uZ V x)=Db):uZ V x=Db/\b=lf:=by
 cases e:uZ V x with
 | some w=>rw[e]at h;cases h
 | none=>
  rw[e]at h;cases b with
  | true=>cases h
  | false=>exact⟨Z',Z'⟩
inductive Ea(l:qc)(V:qT)(x:Str):Str->List Int->Prop
 | answer (i:Int) (c:pU):0<=i->V.calls[i.toNat]?=Fa c->hasS c.at_ x=pc->Dx V x->(c.ny x=pc->tN l V x=pc)->Ea l V x "answer" [i]
 | hang (i:Int) (c:pU):0<=i->V.calls[i.toNat]?=Fa c->c.nY x=pc->Ea l V x "hang" [i]
 | hold (i:Int) (c:pU):0<=i->V.calls[i.toNat]?=Fa c->c.nH x=pc->Ea l V x "hold" [i]
 | back (i:Int) (c:pU):0<=i->V.calls[i.toNat]?=Fa c->c.hd=Fa x->Dx V x->Ea l V x "back" [i]
 | two (w:Str) (i j:Int) (c d:pU):0<=i->0<=j->w="hand"\/w="join"->V.calls[i.toNat]?=Fa c->V.calls[j.toNat]?=Fa d->c.hd=Fa x->d.nH x=pc->Ea l V x w [i,j]
def IV{V:qT}{w x:Str}(f:(uK.num w x ns).nX)(h:xX l V (.num w x ns)=Db):x∈l.pn/\Ea l V x w ns:=by
 have hp:hasS l.pn x=pc:=by
  cases q:hasS l.pn x with
  | true=>rfl
  | false=>unfold xX at h;dsimp only at h;rw[dw q]at h;cases h
 refine⟨rq.mp hp,?_⟩;unfold xX at h;dsimp only at h;rw[dq (by rw[hp];decide)]at h;unfold Mq at h;cases q1:ns.all (zA V.calls.length)with
 | false=>rw[dw q1]at h;cases h
 | true=>
 rw[dq (by rw[q1];decide)]at h;cases q2:J8 w x (ug V ns)with
 | false=>rw[dw q2]at h;cases h
 | true=>
 rw[dq (by rw[q2];decide)]at h;have z:∀i∈ns,0<=i/\∃c,V.calls[i.toNat]?=Fa c:=λi hi=>by have g:=eR.mp q1 i hi;refine⟨?_,T4 g⟩;unfold zA at g;rw[d6,eG]at g;exact g.1
 rcases f with⟨fw,fl⟩|⟨fw,fl⟩
 .match ns,fl with
  | [i],_=>
   obtain⟨hi,c,hc⟩:=z i dO;have ec:ug V [i]=[c]:=by unfold ug;rw[gk,hc];rfl
   rw[ec]at h q2;rcases fw with rfl|rfl|rfl|rfl
   .rw[dq (by decide)]at h;obtain⟨h1,h2⟩:=Fb h;refine .answer i c hi hc q2 (F0 h1) λhw=>?_;have h2:(c.ny x&&!(tN l V x))=lf:=h2;rw[hw]at h2
    simpa using h2
   .exact .hang i c hi hc q2
   .exact .hold i c hi hc q2
   .rw[dq (by decide)]at h;exact .back i c hi hc (Ix q2) (F0 (Fb h).1)
 .match ns,fl with
  | [i,j],_=>
   obtain⟨hi,c,hc⟩:=z i dO;obtain⟨hj,d,hd⟩:=z j (dM _ dO);have ec:ug V [i,j]=[c,d]:=by unfold ug;rw[gk,hc];dsimp only;rw[gk,hd];rfl
   rw[ec]at q2;have q3:((c.hd==Fa x)&&d.nH x)=pc:=by rcases fw with rfl|rfl<;>exact q2
   rw[d6]at q3;exact .two w i j c d hi hj fw hc hd (Ix q3.1) q3.2
def Fj{V:qT}{y z:Str}(h:xX l V (.call y z)=Db):y∈l.pn/\z∈l.nm/\Dx V y/\tN l V y=pc:=by
 unfold xX at h;dsimp only at h;cases q:hasS l.pn y with
 | false=>rw[dw q]at h;cases h
 | true=>
 rw[dq (by rw[q];decide)]at h;unfold Hx at h;cases q1:hasS l.nm z with
 | false=>rw[dw q1]at h;cases h
 | true=>
 rw[dq (by rw[q1];decide)]at h;obtain⟨h1,h2⟩:=Fb h;exact⟨rq.mp q,rq.mp q1,F0 h1,by simpa using h2⟩
def Uq{V:qT}{b:Bool}{i:Int}(h:xX l V (.sw b i)=Db):0<=i/\i.toNat<V.on.length:=by
 unfold xX P7 at h;dsimp only at h;cases q:zA V.on.length i with
 | false=>rw[dw q]at h;cases h
 | true=>unfold zA at q;rw[d6,eG,eG]at q;omega
def zQ{V:qT}{w x:Str}{i:Nat}{c:pU}(h:V.calls[i]?=Fa c):Fh V w x i=if (w=="answer")=pc then .talks i [c.cr,x]else if (w=="hold")=pc then .held i x else .talks i c.ms:=by unfold Fh;rw[h];rfl
def HQ{V:qT}{w x:Str}{i j:Nat}{c d:pU}(h:V.calls[i]?=Fa c)(g:V.calls[j]?=Fa d):GE V w x i j=.merge i j (if (w=="hand")=pc then[qX c x,qX d x]else[x,qX c x,qX d x]):=by unfold GE;rw[h,g];rfl
def Vg{V:qT}{e:uK}(ok:sj l)(wf:WF l V)(f:e.nX)(h:xX l V e=Db):WF l (rc V (xW l V e)):=by
 cases e with
 | call y z=>obtain⟨h1,h2,h3,h4⟩:=Fj h;obtain⟨k,hk⟩:=L8 (V:=V) (y:=y) (z:=z);show WF l (rc V (_++xH l _ _));rw[se];exact Ry ok (I0 wf h1 h2 h3 h4) hk
 | turn=>exact Ge ok _ (FF wf)
 | sw b i=>exact Vc wf
 | num w x ns=>
  obtain⟨_,n⟩:=IV f h;cases n with
  | answer i c hi hc h1 h2 h3=>show WF l (qH V (Fh V "answer" x i.toNat));rw[zQ hc];exact Lo wf hc h1 h2 h3
  | hang i c hi hc h1=>exact PV wf hc h1
  | hold i c hi hc h1=>show WF l (qH V (Fh V "hold" x i.toNat));rw[zQ hc];exact Qj wf hc h1
  | back i c hi hc h1 h2=>show WF l (qH V (Fh V "back" x i.toNat));rw[zQ hc];exact QH wf hc h1 h2
  | two _ i j c d hi hj hw hc hd h1 h2=>show WF l (qH V (GE V w x i.toNat j.toNat));rw[HQ hc hd];exact(Ki wf hc hd h1 h2).2
def OV(a:Ad):rL:=λds M Q=>MA λM0 b A V l c n x i k=>ds=[.ref b,.str x,.int ((i:Nat):Int)]/\uX a M0 M b A V l c n/\c<=1000000/\n<=7000000/\V.calls[i]?=Fa k/\∀M' A',uX a M0 M' b A' (rc V (xl V x i)) l c (n+2)->rB A M A' M'->Q .nz M'
def Q2(a:Ad):rL:=λds M Q=>Ls λA V l L k c=>ds=[.ref A.b,.ref (rR.p k)]/\Rd a M A V l/\rV a M L k c/\Q (yt (HZ l V (Hg c))) M
def QD(a:Ad):rL:=λds M Q=>MA λM0 b A V l c n i k r=>ds=[.ref b,.int ((i:Nat):Int),yt (k::r)]/\uX a M0 M b A V l c n/\c<=1000000/\n<=6900000/\WF l V/\VY l V i (k::r)/\∀M' A',uX a M0 M' b A' (rc V (uD l V i (k::r))) l c (n+33)->rB A M A' M'->Q .nz M'
def Qw(a:Ad):rL:=λds M Q=>T8 λM0 b A V l c n=>ds=[.ref b]/\uX a M0 M b A V l c n/\c<=10000/\n<=6000000/\WF l V/\∀M' A',uX a M0 M' b A' (rc V (Fs l V)) l c (n+1+33*c)->rB A M A' M'->Q .nz M'
def Tx{a:Ad}{M:Mp}{c:pU}{v:Wi}{r:Uf}{Q:DK}(h:M r=Fa (.ins (v.cls a) v.oj))(hk:rV a M L k c)(q:Q (.bl (Hg c v)) M):LN a v [.ref r,.ref k.p] M Q:=by
 cases v with
 | silent x y n=>exact⟨r,L,k,c,Z',h,hk,q⟩
 | _=>exact⟨_,_,Z',q⟩
def QX:Fq P w K mg base 4 a.be (OV a):=by
 refine fq G.be.toDG B9 (λr u=>⟨_,(pP (qg 3 B9 (qe (pV v0) U2))
 (pR (qm (uz (qv U3 G.e.toCls G.X (BS G) r (qE U1)))
 (pR (ql (qv v0 G.c.toCls G.k (rJ G) r (qE (qk (rO pT U2 pT))))))
 (pR (qm (pZ u U1 (pV U3))
 (pP (ql (qv v0 G.c.toCls G.k (rJ G) r (qE (qk (rO pT U2 U1)))))
 (pR (qm (pZ u (qr qU Z' G.g qR (qE (pV U3))) pS)
 (pR (ql (qv v0 G.c.toCls G.k (rJ G) r (qE (qk (rO pT U2 pT))))))
 qd)))
 (pR (qm (pZ u (qr qU Z' G.g qR (qE (pV U3))) pS)
 (pR (ql (qv v0 G.c.toCls G.k (rJ G) r (qE (qk (rO pT U2 U1))))))
 (pR (ql (qv v0 G.c.toCls G.k (rJ G) r (qE (qk (rO pT U2 pT))))))))))))),?_⟩)
 rintro ds M Q ⟨M0,b,A,V,l,cc,n,x,i,c,rfl,cu,Z8,hn,hc,q⟩
 obtain⟨ka,ci⟩:=cu.call hc;obtain⟨ad,md,h1,h2,h3,h4,n1,n2⟩:=ci.cell;have hi:=(dh.mp hc).1;refine pQ cu.at_ (i' Z' (i' Z' (i' ci.bd.ca (i' (qZ ci.e1) ?_))));refine pQ h1 ⟨Z',_,⟨Z',Z'⟩,_,ka,c,x,Z',ci.cell,?_⟩;unfold xl at q;rw[hc]at q;dsimp only[Option.elim]at q;have over:∀(w0:Str),(∀M' A',uX a M0 M' b A' (rc V [.over i w0]) l cc (n+2)->rB A M A' M'->Q .nz M')->∀(M1:Mp) (A1:ui),A1.b=A.b->rB A M A1 M1->qh a M1 A1 (qH V (.over i w0))->∃XM,qQ XM M1/\Q .nz XM:=λw0 q M1 A1 eb st bd=>⟨M1,.refl,q M1 A1 ((cu.after (e:=.over i w0) hi eb st bd).mono (dC _) (by omega)) st⟩;refine qW (c:=c.nE x) (λg=>?_) (λg=>?_)
 .rw[dw g]at q;exact pQ cu.at_ ⟨Z',_,⟨Z',Z'⟩,pN Z',b,A,V,.over i "left",Z',cu.b,cu.bd,cu.lim Z8 (by omega),hi,over "left" q⟩
 rw[dq g]at q;refine pQ h1 (i' Z' (i' h3 ⟨Z',qJ _,?_⟩));show if inD (.str x) (c.at_.map D.str)=pc then _ else _
 rw[sH];refine qW (c:=hasS c.at_ x) (λg2=>?_) (λg2=>?_)
 .rw[dw g2]at q;refine pQ cu.at_ ⟨Z',_,⟨Z',Z'⟩,pN Z',b,A,V,.leaves i x,Z',cu.b,cu.bd,cu.lim Z8 (by omega),hi,λM1 A1 eb st bd=>?_⟩;have c1:=cu.after (e:=.leaves i x) hi eb st bd;have hcs:(qH V (.leaves i x)).calls=V.calls.set i (c.drop x):=rT (V:=rj V _) hc;have hc1:(qH V (.leaves i x)).calls[i]?=Fa (c.drop x):=by rw[hcs,eU hi]
  obtain⟨ad',md',g1,Z4,g3,g4,_⟩:=c1.bd.cs i ka _ (st.2.2.1 i ka ci.e1) hc1;have le0:((((c.drop x).at_.map D.str).length:Int)==0)=decide (r6 c.at_ x=[]):=by rw[c9,gz,ft,eG];show((r6 c.at_ x).length:Int)=0↔_;rw[<-gC];omega
  refine pQ g1 (i' Z' (i' g3 ?_));refine qW (c:=(((c.drop x).at_.map D.str).length:Int)==0) (λg5=>?_) (λg5=>?_)
  .rw[le0,eG]at g5;rw[dw g5]at q;have Zm:i<(qH V (.leaves i x)).calls.length:=(dh.mp hc1).1;refine pQ c1.at_ ⟨Z',_,⟨Z',Z'⟩,pN Z',b,A1,_,.over i "refused",Z',c1.b,c1.bd,c1.lim Z8 (by omega),Zm,λM2 A2 eb2 X9 Zg=>?_⟩;exact⟨M2,.refl,q M2 A2 (c1.after (e:=.over i "refused") Zm eb2 X9 Zg) (st.trans X9)⟩
  .rw[le0,eG]at g5;rw[dq g5]at q;exact⟨M1,.refl,q M1 A1 (c1.mono (dC _) (by omega)) st⟩
 .rw[dq g2]at q;refine pQ h1 (i' Z' (i' h4 ?_));have lm:decide ((2:Int)<((c.ms.map D.str).length:Int))=decide (2<c.ms.length):=by rw[c9,gz,eG,eG];omega
  refine qW (c:=decide ((2:Int)<((c.ms.map D.str).length:Int))) (λg3=>?_) (λg3=>?_)
  .rw[lm,eG]at g3;rw[dw g3]at q;refine pQ cu.at_ ⟨Z',_,⟨Z',Z'⟩,pN Z',b,A,V,.leaves i x,Z',cu.b,cu.bd,cu.lim Z8 (by omega),hi,λM1 A1 eb st bd=>?_⟩;exact⟨M1,.refl,q M1 A1 ((cu.after (e:=.leaves i x) hi eb st bd).mono (dC _) (by omega)) st⟩
  .rw[lm,eG]at g3;rw[dq g3]at q;exact pQ cu.at_ ⟨Z',_,⟨Z',Z'⟩,pN Z',b,A,V,.over i "done",Z',cu.b,cu.bd,cu.lim Z8 (by omega),hi,over "done" q⟩
def Rh:Fq P w K mg base 2 a.bf (Q2 a):=by
 refine fq G.bf.toDG yS (λr u=>⟨_,(pP (qg 2 yS (pV (pV v0)))
 (pR (pW (qG sV Z' G.y sS (qE (qY Z' (xy (ix:=[Db,Db,Fa 2,Fa 1]) (N':=["i","on","wishes","call"])) (xk Z' G.b0 (qE (pV v0))) (vp (n:=2) Z' (qN (qP 0) (qN (qP 1) tZ))) (uG (W3.b3 (vo (uz U1) (vh (uz (F1 (R:=He a) (qe U2 v0) (UE G) (r.mono (by first|decide|omega)) (qE U3))))))) v0)))))),?_⟩)
 rintro ds M Q ⟨A,V,l,L,k,c,rfl,rd,hk,q⟩
 obtain⟨ph,gr,ws,Zb,pr,gd,rs,i1,i2,i3,i4,i5,i6,i7,i8⟩:=rd.pl;refine pQ rd.bd.at_ (i' Z' (pQ i1 (i' Z' ?_)));refine pQ rd.bd.at_ (i' Z' (i' rd.bd.on ?_));refine J2 (rest:=[Fa (.ref ws),Fa (.ref k.p)]) rd.on rd.ok.w16 rd.bd.on (λi w0 ew y kk hkk=>?_) λp hp=>i' pY ⟨M,.new hp,q⟩;obtain⟨r,e1,e2⟩:=BI i8 ew;exact i' i4 (i' e1 (pQ e2 ⟨by cases w0.2<;>rfl,_,⟨w0.2,Z',Z'⟩,Tx e2 hk hkk⟩))
def QN:Fq P w K mg base 10 a.bg (QD a):=by
 refine fq G.bg.toDG Cp (λr u=>⟨_,(pP (qg 3 Cp (Cs (R:=ME a) (qe (pV (pV v0)) (qe U2 pS)) (TY G) (r.mono (by first|decide|omega))))
 (pP (ql (qv v0 G.c.toCls G.k (rJ G) r (qE (qk (qz pT (rO U1 (qe U3 pS) U2))))))
 (pP (ql (qv v0 G.c.toCls G.k (rJ G) r (qE (qk (sA pT U1)))))
 (pP (ql (qv v0 G.c.toCls G.k (rJ G) r (qE (qk (qz pT (qz U1 (rO (qe U3 pS) (qe U3 pS) (qe U3 pS))))))))
 (pR (ql (qa (JZ G) r G.af (sA v0 U1)))))))),?_⟩)
 rintro ds M Q ⟨M0,b,A,V,l,c,n,i,k,r,rfl,cu,hc,hn,wf,du,q⟩
 obtain⟨ph,gr,ws,Zb,pr,gd,rs,i1,i2,i3,i4,i5,i6,i7,i8⟩:=cu.pl;cases du with
 | on k0 _ _ b0 x y m hk hs hw hl hy=>
  have hi:=(dh.mp hk).1;rw[Ap hw]at q;rw[se]at q;obtain⟨r0,e1,e2⟩:=BI i8 hw;refine pQ cu.at_ (i' Z' (pQ i1 (i' Z' (i' (yN _ _) (i' i4 (i' e1 (pQ e2 ⟨Z',_,⟨⟨.silent x y m,Z'⟩,Z'⟩,r0,.silent x y m,Z',e2,?_⟩)))))));refine pQ cu.at_ ⟨Z',_,⟨Z',Z'⟩,pN Z',b,A,V,.asks i x (k::r),Z',cu.b,cu.bd,cu.lim hc (by omega),trivial,λM1 A1 eb1 Yn bd1=>?_⟩;have c1:=cu.after (e:=.asks i x (k::r)) trivial eb1 Yn bd1;refine pQ c1.at_ ⟨Z',_,⟨Z',Z'⟩,pN Z',b,A1,_,.quiet i,Z',c1.b,c1.bd,c1.lim hc (by omega),hi,λM2 A2 eb2 X9 Zg=>?_⟩;have c2:=c1.after (e:=.quiet i) hi eb2 X9 Zg;have YD:i<(qH (qH V (.asks i x (k::r))) (.quiet i)).calls.length:=by show i<(V.calls.modify i pU.oo).length;rw[gx];exact hi
  refine pQ c2.at_ ⟨Z',_,⟨Z',Z'⟩,pN Z',b,A2,_,.leg ⟨i,x,y,x⟩,Z',c2.b,c2.bd,c2.lim hc (by omega),YD,λM3 A3 eb3 Yv bd3=>?_⟩;have c3:=c2.after (e:=.leg ⟨i,x,y,x⟩) YD eb3 Yv bd3;exact⟨M0,b,A3,_,l,c,n+3,i,_,Z',c3,hc,by omega,FL wf hk hs hy,ER hk,λM4 A4 c4 st4=>⟨M4,.refl,q M4 A4 (c4.mono (dC _) (by omega)) (Yn.trans (X9.trans (Yv.trans st4)))⟩⟩
def QC:Fq P w K mg base 11 a.bh (Qw a):=by
 refine fq G.bh.toDG ud (λr u=>⟨_,(pP (ql (qv v0 G.c.toCls G.k (rJ G) r (qE (qk (qE pT)))))
 (pR (vq fC Z' (xk Z' G.b0 (qE (qG uE Z' G.z uf (qE (pV v0))))) (vp (n:=2) Z' (qN (rS 1 ud) (qN (rS 2 ud) tZ)))
 (pR (qm (pZ u (pV U2) pT)
 (pP (qg 3 ud (qa (Rh G) r G.bf (sA v0 U2)))
 (pR (qm (pZ u (qr qU Z' G.g qR (qE U3)) pS)
 (pR (ql (qa (QN G) r G.bg (rO v0 U1 U3))))
 qd)))
 qd))))),?_⟩)
 rintro ds M Q ⟨M0,b,A,V,l,c,n,rfl,cu,hc,hn,wf,q⟩
 refine pQ cu.at_ ⟨Z',_,⟨Z',Z'⟩,pN Z',b,A,V,.turn,Z',cu.b,cu.bd,cu.lim (by omega) (by omega),trivial,λM1 A1 eb st bd=>?_⟩;have c1:=cu.after (e:=.turn) trivial eb st bd;have wf1:=FF wf;have lv:(qH V .turn).calls.length=V.calls.length:=c9 ..;have ev:Fs l V=.turn::sy l (List.range V.calls.length) (qH V .turn):=rfl;rw[ev,<-lv]at q;have q:∀M' A',uX a M0 M' b A' (rc (qH V .turn) (sy l (List.range (qH V .turn).calls.length) (qH V .turn))) l c (n+1+33*c)->rB A M A' M'->Q .nz M':=q;have c1:uX a M0 M1 b A1 (qH V .turn) l c (n+1):=c1;generalize qH V .turn=V1 at c1 wf1 q bd;refine pQ c1.at_ (i' Z' (i' c1.bd.ca λr hr=>i' pY ?_));have t:=qQ.new (c:=.lst (A1.cs.map λk=>D.ref k.p)) hr;have lr:=@pY M1 r (A1.cs.map λk=>D.ref k.p);have nf:=c1.bd.oB hr;have c2:=c1.sub t;have cl:V1.calls.length<=c:=c1.sz.ca;generalize pX M1 r (.lst (A1.cs.map λk=>D.ref k.p))=M2 at t lr c2 ⊢;refine xD (uY 0 (A1.cs.map λk=>D.ref k.p)) (λpre U M'=>(∃A',uX a M0 M' b A' (rc V1 (sy l (List.range pre.length) V1)) l c (n+1+33*pre.length)/\rB A1 M2 A' M')/\∃y1 y2 y3,U=[Fa (.ref b),y1,y2,y3]) (λpre U M' j=>?_) _ [] _ _ Z' ⟨⟨A1,c2,.refl⟩,Db,Db,Db,Z'⟩ ?_ ?_
 .obtain⟨⟨A',c3,Yv⟩,_⟩:=j;exact tH (Yv.1 r _ nf (qM lr))
 .rintro pre d post e U M' ⟨⟨A',c3,Yv⟩,y1,y2,y3,rfl⟩ nx XY
  rw[dg,dX,jd,Ez,se]at XY;have wf3:=Ge cu.ok (List.range pre.length) wf1;generalize rc V1 (sy l (List.range pre.length) V1)=V3 at c3 wf3 XY;obtain⟨x,hx,rfl⟩:=JQ e;rw[dJ]at hx;cases ek:A1.cs[pre.length]? with
  | none=>rw[ek]at hx;cases hx
  | some k=>
   rw[ek]at hx;have hx:D.ref k.p=x:=dB hx;subst hx;have hp:pre.length<c:=by have:=(dh.mp ek).1;rw[c1.bd.len]at this;omega
   have ek3:=Yv.2.2.1 _ k ek;have hi:pre.length<V3.calls.length:=by rw[<-c3.bd.len];exact(dh.mp ek3).1
   have ec:V3.calls[pre.length]?=Fa V3.calls[pre.length]:=df hi;generalize V3.calls[pre.length]=cv at ec;have ca:=c3.bd.cs _ k cv ek3 ec;obtain⟨ad,md,g1,_⟩:=ca;refine⟨Z',pQ g1 (i' Z' ?_)⟩;have hdv:Ac l V3 pre.length=if (cv.st=="rings")=pc then HZ l V3 (Hg cv)else[]:=by unfold Ac;rw[ec];rfl
   have nz:Ac l V3 pre.length=[]->∀y1' y2' y3',nx [Fa (.ref b),y1',y2',y3'] M':=λh0 y1' y2' y3'=>XY _ _ ⟨⟨A',by rw[h0];exact c3.mono (dC _) (by omega),Yv⟩,_,_,_,Z'⟩;have du:=HL (V:=V3) (i:=pre.length) cu.ok;refine qW (c:=cv.st=="rings") (λg=>?_) (λg=>nz (by rw[hdv,dq g]) _ _ _);rw[dw g]at hdv;refine⟨A',V3,l,_,k,cv,by rw[c3.b],c3.rd (by omega) wf3,c3.bd.cs _ k cv ek3 ec,?_⟩;rw[<-hdv];cases hdq:Ac l V3 pre.length with
   | nil=>exact nz hdq _ _ _
   | cons k0 r0=>rw[hdq]at du XY;refine Bd (d9 (by rw[c9];show(0:Int)<((k0::r0).length:Nat);rw[eE];omega)) ?_;exact⟨M0,b,A',V3,l,c,_,pre.length,k0,r0,Z',c3,by omega,by omega,wf3,du,λM4 A4 c4 st4=>XY _ _ ⟨⟨A4,c4.mono (dC _) (by omega),Yv.trans st4⟩,_,_,_,Z'⟩⟩
 .rintro U M' ⟨⟨A',c3,Yv⟩,y1,y2,y3,rfl⟩
  have hl:(uY 0 (A1.cs.map λk=>D.ref k.p)).length=V1.calls.length:=by rw[vS,c9,c1.bd.len]
  rw[hl]at c3;exact⟨M',.refl,q M' A' (c3.mono (dC _) (by omega)) (st.trans ((rB.sub t).trans Yv))⟩
inductive Rp(l:qc)(V:qT):uK->Ev->Prop
 | sw (b:Bool) (i:Nat):i<V.on.length->Rp l V (.sw b (i:Nat)) (.sw b i)
 | answer (x:Str) (i:Nat) (c:pU):V.calls[i]?=Fa c->Rp l V (.num "answer" x [(i:Nat)]) (.talks i [c.cr,x])
 | hold (x:Str) (i:Nat) (c:pU):V.calls[i]?=Fa c->Rp l V (.num "hold" x [(i:Nat)]) (.held i x)
 | back (x:Str) (i:Nat) (c:pU):V.calls[i]?=Fa c->Rp l V (.num "back" x [(i:Nat)]) (.talks i c.ms)
 | two (w x:Str) (i j:Nat) (c d:pU):i≠j->w="hand"\/w="join"->V.calls[i]?=Fa c->V.calls[j]?=Fa d->r6 c.ms x≠[]->r6 d.ms x≠[]->Rp l V (.num w x [(i:Nat),(j:Nat)]) (.merge i j (if (w=="hand")=pc then[qX c x,qX d x]else[x,qX c x,qX d x]))
def GA(a:Ad):rL:=λds M Q=>HI λA V l e ev=>ds=[.ref A.b,uK.d e]/\Rd a M A V l/\Rp l V e ev/\Q ev.d M
def TR(a:Ad):rL:=λds M Q=>Ue λM0 b A V l c n e=>ds=[.ref b,uK.d e]/\uX a M0 M b A V l c n/\c<10000/\n<=5000000/\WF l V/\e.nX/\xX l V e=Db/\∀M' A',uX a M0 M' b A' (rc V (xW l V e)) l (c+1) (n+40+33*c)->rB A M A' M'->Q .nz M'
def Xm(a:Ad)(M0 M:Mp)(b:Uf)(A:ui)(V:qT)(l:qc)(c n:Nat)(e:uK)(Q:DK):Prop:=xX l V e=Db->∀M' A' r,uX a M0 M' b A' (rc V (xW l V e)) l (c+1) (n+40+33*c)->rB A M A' M'->M' r=Db->Q (.ref r) (pX M' r (.lst ((xW l V e).map Ev.d)))
def Uz(a:Ad):Gp:=λds M Q R=>Ue λM0 b A V l c n e=>ds=[.ref b,uK.d e]/\uX a M0 M b A V l c n/\c<10000/\n<=5000000/\WF l V/\e.nX/\Xm a M0 M b A V l c n e Q/\(∀w,xX l V e=Fa w->R a.H (Fa ("word",.str w)) M)
def Rd.call{V:qT}(rd:Rd a M A V l){i:Nat}{c:pU}(e:V.calls[i]?=Fa c):∃k,A.cs[i]?=Fa k/\rV a M (A.lists++V.fo) k c:=by
 have hi:i<A.cs.length:=by rw[rd.bd.len];exact(dh.mp e).1
 exact⟨A.cs[i],df hi,rd.bd.cs i _ c (df hi) e⟩
def yT{i:Int}(h:0<=i):∃m:Nat,i=(m:Int):=eK h
def JU{c:pU}{x:Str}(nd:c.ms.Nodup)(h2:c.ms.length=2)(hx:x∈c.ms):r6 c.ms x≠[]:=λz=>by have:=xZ nd hx;rw[z]at this;simp only[dS]at this;omega
def Oz:Fq P w K mg base 2 a.bi (GA a):=by
 refine fq G.bi.toDG tU (λr u=>⟨_,(pP (qg 2 tU (qe U1 pS))
 (pP (qm (pZ u U2 (qk (sA pT pT)))
 (pR (pW (qk (sA U2 (qe U1 pS)))))
 qd)
 (pP (qg 3 tU (qe U1 pS))
 (pP (qg 4 tU (qe U1 pS))
 (pP (qg 5 tU (qe (pV v0) v4))
 (pP (qm (pZ u U2 pT)
 (pR (pW (qk (rO pT v4 (qk (sA (pV v5) U3))))))
 qd)
 (pP (qm (pZ u U2 pT)
 (pR (pW (qk (rO pT v4 U3))))
 qd)
 (pP (qm (pZ u U2 pT)
 (pR (pW (qk (rO pT v4 (qG sV Z' G.y sS (qE (pV v5)))))))
 qd)
 (pP (qg 6 tU (qe U1 pS))
 (pP (qg 7 tU (qk (sA (qv v5 G.e.toCls G.aC (GJ G) r (qE U3)) (qv (qe (pV v0) v6) G.e.toCls G.aC (GJ G) r (qE U3)))))
 (pP (qm (pZ u U2 pT)
 (pR (pW (qk (qz pT (rO v4 v6 v7)))))
 qd)
 (pR (pW (qk (qz pT (rO v4 v6 (qx (qk (qE U3)) v7))))))))))))))))),?_⟩)
 rintro ds M Q ⟨A,V,l,e,ev,rfl,rd,sg,q⟩
 cases sg with
 | sw b i hi=>
  cases b with
  | true=>exact⟨pN Z',Z',Z',pN Z',M,.refl,q⟩
  | false=>exact⟨pN Z',Z',Z',pN Z',M,.refl,q⟩
 | answer x i c hc=>obtain⟨k,ek,ca⟩:=rd.call hc;obtain⟨ad,md,h1,h2,h3,h4,n1,n2⟩:=ca;refine⟨pN Z',Z',Z',?_⟩;refine pQ rd.bd.at_ (i' Z' (i' Z' (i' rd.bd.ca (i' (qZ ek) ?_))));exact pQ h1 (i' Z' ⟨pN Z',pN Z',M,.refl,q⟩)
 | hold x i c hc=>obtain⟨k,ek,ca⟩:=rd.call hc;refine⟨pN Z',Z',Z',?_⟩;refine pQ rd.bd.at_ (i' Z' (i' Z' (i' rd.bd.ca (i' (qZ ek) ?_))));exact⟨pN Z',M,.refl,q⟩
 | back x i c hc=>obtain⟨k,ek,ca⟩:=rd.call hc;obtain⟨ad,md,h1,h2,h3,h4,n1,n2⟩:=ca;refine⟨pN Z',Z',Z',?_⟩;refine pQ rd.bd.at_ (i' Z' (i' Z' (i' rd.bd.ca (i' (qZ ek) ?_))));exact pQ h1 (i' Z' (i' h4 ⟨pN Z',M,.refl,q⟩))
 | two wd x i j c d YG hw hc hd nc nd=>
  obtain⟨k,ek,ca⟩:=rd.call hc;obtain⟨k',ek',ca'⟩:=rd.call hd;have ca0:=ca;have ca1:=ca';obtain⟨ad,md,h1,h2,h3,h4,n1,n2⟩:=ca0;obtain⟨ad',md',f1,_⟩:=ca1;obtain⟨y1,r1,e1⟩:=fV nc;obtain⟨y2,r2,e2⟩:=fV nd;have o1:qX c x=y1:=by unfold qX;rw[e1];rfl
  have o2:qX d x=y2:=by unfold qX;rw[e2];rfl
  rw[o1,o2]at q;rcases hw with rfl|rfl
  .refine⟨pN Z',Z',Z',?_⟩;refine pQ rd.bd.at_ (i' Z' (i' Z' (i' rd.bd.ca (i' (qZ ek) ?_))));refine pQ h1 ⟨Z',_,⟨Z',Z'⟩,_,k,c,x,y1,r1,Z',ca,(rd.ms c (rE hc)).2,e1,?_⟩;refine pQ rd.bd.at_ (i' Z' (i' Z' (i' rd.bd.ca (i' (qZ ek') ?_))));refine pQ f1 ⟨Z',_,⟨Z',Z'⟩,_,k',d,x,y2,r2,Z',ca',(rd.ms d (rE hd)).2,e2,?_⟩;exact⟨pN Z',pN Z',M,.refl,q⟩
  .refine⟨pN Z',Z',Z',?_⟩;refine pQ rd.bd.at_ (i' Z' (i' Z' (i' rd.bd.ca (i' (qZ ek) ?_))));refine pQ h1 ⟨Z',_,⟨Z',Z'⟩,_,k,c,x,y1,r1,Z',ca,(rd.ms c (rE hc)).2,e1,?_⟩;refine pQ rd.bd.at_ (i' Z' (i' Z' (i' rd.bd.ca (i' (qZ ek') ?_))));refine pQ f1 ⟨Z',_,⟨Z',Z'⟩,_,k',d,x,y2,r2,Z',ca',(rd.ms d (rE hd)).2,e2,?_⟩;exact⟨pN Z',pN Z',fF _ _,by show 1+2<=pi;have hz:=dR;omega,pN Z',M,.refl,q⟩
def Sj:Fq P w K mg base 12 a.bj (TR a):=by
 refine fq G.bj.toDG LY (λr u=>⟨_,(pP (qg 2 LY (qe U1 pS))
 (pR (qm (pZ u U2 pT)
 (pR (ql (qa (Np G) r G.bd (rO v0 (qe U1 pS) (qe U1 pS)))))
 (pR (qm (pZ u U2 pT)
 (pR (ql (qa (QX G) r G.be (rO v0 (qe U1 pS) (qe U1 pS)))))
 (pR (qm (pZ u U2 pT)
 (pR (ql (qa (QC G) r G.bh (qE v0))))
 (pR (ql (qv v0 G.c.toCls G.k (rJ G) r (qE (qa (Oz G) r G.bi (sA v0 U1))))))))))))),?_⟩)
 rintro ds M Q ⟨M0,b,A,V,l,c,n,e,rfl,cu,hc,hn,wf,hf,hr,q⟩
 have rd:=cu.rd (by omega) wf;have one:∀(ev:Ev),Rp l V e ev->xW l V e=[ev]->ev.ok V->ev.nw=0->zK (M b) λC fs'=>fs'.lookup ("apply":Str)=Db/\∃sp,(C=a.c/\sp=wC a)/\GA a [.ref b,e.d] M λd M1=>sp [.ref b,d] M1 λ_ M'=>∃XM,qQ XM M'/\Q .nz XM:=λev sg he ok h0=>by refine pQ cu.at_ ⟨Z',_,⟨Z',Z'⟩,A,V,l,e,ev,by rw[cu.b],rd,sg,b,A,V,ev,Z',cu.b,cu.bd,cu.lim (by omega) (by omega),ok,λM1 A1 eb st bd=>?_⟩;rw[he]at q;have c1:=cu.after ok eb st bd;rw[h0]at c1;exact⟨M1,.refl,q M1 A1 (c1.mono (by omega) (by omega)) st⟩
 cases e with
 | call y z=>obtain⟨h1,h2,h3,h4⟩:=Fj hr;exact⟨M0,b,A,V,l,c,n,y,z,Z',cu,by omega,by omega,I0 wf h1 h2 h3 h4,λM' A' c1 st=>⟨M',.refl,q M' A' (c1.mono (by omega) (by omega)) st⟩⟩
 | turn=>exact⟨M0,b,A,V,l,c,n,Z',cu,by omega,by omega,wf,λM' A' c1 st=>⟨M',.refl,q M' A' (c1.mono (by omega) (by omega)) st⟩⟩
 | sw b0 i=>
  obtain⟨h1,h2⟩:=Uq hr;obtain⟨i,rfl⟩:=yT h1;cases b0 with
  | true=>exact one (.sw pc i) (.sw pc i h2) Z' h2 Z'
  | false=>exact one (.sw lf i) (.sw lf i h2) Z' h2 Z'
 | num wd x ns=>
  obtain⟨hx,no⟩:=IV hf hr;cases no with
  | answer i c0 hi hc0 h1 h2 h3=>obtain⟨i,rfl⟩:=yT hi;have lt:=(dh.mp hc0).1;exact one (.talks i [c0.cr,x]) (.answer x i c0 hc0) (eV (λev=>[ev]) (zQ hc0)) ⟨lt,by show 2<=100;decide⟩ Z'
  | hang i c0 hi hc0 h1=>obtain⟨i,rfl⟩:=yT hi;exact⟨M0,b,A,V,l,c,n,x,i,c0,Z',cu,by omega,by omega,hc0,λM' A' c1 st=>⟨M',.refl,q M' A' (c1.mono (by omega) (by omega)) st⟩⟩
  | hold i c0 hi hc0 h1=>obtain⟨i,rfl⟩:=yT hi;have lt:=(dh.mp hc0).1;exact one (.held i x) (.hold x i c0 hc0) (eV (λev=>[ev]) (zQ hc0)) lt Z'
  | back i c0 hi hc0 h1 h2=>obtain⟨i,rfl⟩:=yT hi;have lt:=(dh.mp hc0).1;exact one (.talks i c0.ms) (.back x i c0 hc0) (eV (λev=>[ev]) (zQ hc0)) ⟨lt,(cu.sz.cs c0 (rE hc0)).2.2⟩ Z'
  | two _ i j c0 d0 hi hj hw hc0 hd0 h1 h2=>
   obtain⟨i,rfl⟩:=yT hi;obtain⟨j,rfl⟩:=yT hj;have lt:=(dh.mp hc0).1;have lt':=(dh.mp hd0).1;have YG:=(Ki (w:=wd) wf hc0 hd0 h1 h2).1;have k0:=wf.ok _ c0 hc0;have k1:=wf.ok _ d0 hd0;obtain⟨_,u2,u3,_⟩:=Fm k0 h1;obtain⟨_,v2,v3⟩:=Av.mp h2;have sg:=Rp.two (l:=l) wd x i j c0 d0 YG hw hc0 hd0 (JU k0.mn u2 u3) (JU k1.mn v3 v2);have ok:(Ev.merge i j (if (wd=="hand")=pc then[qX c0 x,qX d0 x]else[x,qX c0 x,qX d0 x])).ok V:=⟨lt,lt',YG,by split;exact(by decide:2<=100);exact(by decide:3<=100)⟩;have he:xW l V (.num wd x [(i:Int),(j:Int)])=[.merge i j (if (wd=="hand")=pc then[qX c0 x,qX d0 x]else[x,qX c0 x,qX d0 x])]:=eV (λev=>[ev]) (HQ hc0 hd0);rcases hw with rfl|rfl
   .exact one _ sg he ok Z'
   .exact one _ sg he ok Z'
def Ly:xO P w K mg base (C4 P w) 1 a.I.f a.I.d a.I.p (wQ K "word"):=
 Nt G.I.toDG B' λXS A outer s H E=>FO (Pa (pv 0) (pv 1))
def VC:V6 P w K mg base 13 a.O (Uz a):=by
 refine UB G.O.toDG HN (by walk_at "m") (λ_ _ _ _ _ _ R hr hR=>⟨_,(pP (qg 2 HN (qa (IY G) hr G.a8 (sA v0 U1)))
 (pP (qm (pZ (Xg hr) U2 so)
 (pR (KS G.ca (Ly G) (hr.mono (by first|decide|omega)) G.I.b G.cb G.I.at_ Z' G.b1 hR (qE U2)))
 qd)
 (pP (qg 3 HN (qr qU Z' G.g qR (qE (pV v0))))
 (pP (ql (qa (Sj G) hr G.bj (sA v0 U1)))
 (pR (pW (sR (pV v0) (tI U3) ue))))))),?_⟩)
 .rintro ds M Q ⟨M0,b,A,V,l,c,n,e,rfl,cu,hc,hn,wf,hf,q,rr⟩
  refine⟨A,V,l,e,by rw[cu.b],cu.rd (by omega) wf,hf,?_⟩;cases er:xX l V e with
  | some w0=>exact⟨_,Z',rr w0 er⟩
  | none=>
   refine pQ cu.at_ (i' Z' (i' cu.bd.lo ?_));refine⟨M0,b,A,V,l,c,n,e,Z',cu,hc,hn,wf,hf,er,λM' A' c1 st=>?_⟩;refine pQ c1.at_ (i' Z' (i' c1.bd.lo λp hp=>?_));have hcut:L3.ut ((rc V (xW l V e)).log.map Ev.d) (Fa (((V.log.map Ev.d).length:Nat):Int)) Db=(xW l V e).map Ev.d:=by rw[JX,dY,Ie _ _ (by rw[dg];omega),List.drop_left]
   rw[hcut];exact⟨_,.refl,q er M' A' p c1 st hp⟩
def Ra(a:Ad):rL:=λds M Q=>Ue λM0 b A V l c n e=>ds=[.ref b,uK.d e]/\uX a M0 M b A V l c n/\c<10000/\n<=5000000/\WF l V/\e.nX/\Xm a M0 M b A V l c n e Q/\(∀w,xX l V e=Fa w->Q (.str w) M)
def Qf:Fq P w K mg base 14 a.bD (Ra a):=by
 refine fq G.bD.toDG yg (λr u=>⟨_,(pP (qg 2 yg so)
 (pP (Q9 (ix:=2) (i:=3) (Nc (VC G) (r.mono (by first|decide|omega)) Z' G.O.mg G.O.toDG.kp G.O.b (sA v0 U1)) Z' Z' Z' G.b1 yg.nd Z' Z' Z' Z' (by decide))
 (pR (pW U2)))),?_⟩)
 rintro ds M Q ⟨M0,b,A,V,l,c,n,e,rfl,cu,hc,hn,wf,hf,q,qf⟩
 refine⟨λC y M'=>C=a.H/\M=M'/\∃w,xX l V e=Fa w/\y=Fa (("word":Str),D.str w),?_,?_⟩
 .exact⟨M0,b,A,V,l,c,n,e,Z',cu,hc,hn,wf,hf,λh M' A' r c1 st hm=>⟨_,.refl,q h M' A' r c1 st hm⟩,λw h=>⟨Z',Z',w,h,Z'⟩⟩
 .rintro C y M' ⟨rfl,rfl,w,h,rfl⟩
  exact⟨G.cd,G.cc,w,Z',M,.refl,qf w h⟩
noncomputable def wk(g:uQ):Bool:=g.2.1==("turns":Str)
def vD(l:qc):T0 (Str×Int):=(l.groups.filter wk).map λg=>(g.1,0)
def V0(p:Uf)(h:Int)(l:qc)(F:QXQ):qT:=⟨p,h,0,[],[],vD l,l.nk.map (·.1),[],F⟩
def FP(a:Ad):rL:=λds M Q=>HI λb p h F (l:qc)=>ds=[.ref b,.ref p,.int h]/\M b=Fa (.ins a.c [])/\tR a M p l/\sj l/\p≠b/\(∀x∈F,∃c,M x=Fa c)/\∀M' A,A.b=b->sT b M M'->(∀x∈A.foot,x=b\/M x=Db)->qh a M' A (V0 p h l F)->Q .nz M'
noncomputable def L7(g:D):Bool:=match g with
 | .tup (_::.str m::_)=>m=="turns"
 | _=>lf
def Rz(d:D):D:=.tup [Bu d,.int 0]
def Iw(gs:List uQ):((gs.map rM).filter L7).map Rz=(gs.filter wk).map λg=>D.tup [.str g.1,.int 0]:=by rw[gO,eA];rfl
def K5(l:qc):((l.groups.filter wk).map λg=>((Sum.inr g.1:rH),D.int 0))=tX (vD l):=by unfold tX vD;rw[eA];rfl
noncomputable def bF(p:Uf)(h:Int)(ca le nx Zh:Uf)(k:Nat):T0 (Str×D):=List.take (α:=Str×D) k [("plan",.ref p),("hour",.int h),("turn",.int 0),("calls",.ref ca),("legs",.ref le),("nexts",.ref nx),("on",.ref Zh)]
def Oe:Fq P w K mg base 1 a.am (FP a):=by
 refine fq G.am.toDG Dv (λr u=>⟨_,(pP (qC v0 U1)
 (pP (qC v0 U2)
 (pP (qC v0 pS)
 (pP (qC v0 (rh tz))
 (pP (qC v0 (rh tz))
 (pP (qC v0 (qG (Gi Z') Z' G.bY F4 (qE (qY Z' (xy (ix:=[Db]) (N':=["group"])) (qV (pV U1)) (qP 0) (uG (pZ u (qe v0 pS) pT)) (qk (sA (qe v0 pS) pS))))))
 (pP (qC v0 (qG uE Z' G.z uf (qE (pV U1))))
 (pR (qC v0 (rh tz)))))))))),?_⟩)
 rintro ds M Q ⟨b,p,h,F,l,rfl,hb,⟨ph,gr,ws,on,pr,gd,rs,i1,i2,i3,i4,i5,i6,i7,i8⟩,ok,nbp,hF,q⟩
 have hz:=dR;have l2:=ok.g3;refine pQ hb ⟨(G.E "plan" Z'),by show 0<1000;decide,?_⟩;have k1:sT b M (pX M b (.ins a.c [("plan",.ref p)])):=.put;have b1:pX M b (.ins a.c [("plan",.ref p)]) b=Fa (.ins a.c [("plan",.ref p)]):=qp;show ur _ _ _ _ (pX M b (.ins a.c [("plan",.ref p)]));generalize pX M b (.ins a.c [("plan",.ref p)])=N1 at k1 b1 ⊢;refine pQ b1 ⟨(G.E "hour" Z'),by show 1<1000;decide,?_⟩;have k2:=k1.trans (sT.put (p:=b) (c:=.ins a.c [("plan",.ref p),("hour",.int h)]));have b2:pX N1 b (.ins a.c [("plan",.ref p),("hour",.int h)]) b=Fa (.ins a.c [("plan",.ref p),("hour",.int h)]):=qp;show ur _ _ _ _ (pX N1 b (.ins a.c [("plan",.ref p),("hour",.int h)]));generalize pX N1 b (.ins a.c [("plan",.ref p),("hour",.int h)])=N2 at k2 b2 ⊢;refine pQ b2 ⟨(G.E "turn" Z'),by show 2<1000;decide,?_⟩;have k3:=k2.trans (sT.put (p:=b) (c:=.ins a.c (bF p h 0 0 0 0 3)));have b3:pX N2 b (.ins a.c (bF p h 0 0 0 0 3)) b=Fa (.ins a.c (bF p h 0 0 0 0 3)):=qp;show ur _ _ _ _ (pX N2 b (.ins a.c (bF p h 0 0 0 0 3)));generalize pX N2 b (.ins a.c (bF p h 0 0 0 0 3))=N3 at k3 b3 ⊢;clear k1 k2 b1 b2;refine⟨pN Z',λca hca=>?_⟩;obtain⟨n4,e4,k4,c4,b4⟩:=tM (fs':=(bF p h ca 0 0 0 4)) (c:=.lst []) b3 hca;refine pQ e4 ⟨(G.E "calls" Z'),by show 3<1000;decide,?_⟩;show ur _ _ _ _ (pX (pX N3 ca (.lst [])) b (.ins a.c (bF p h ca 0 0 0 4)));generalize pX (pX N3 ca (.lst [])) b (.ins a.c (bF p h ca 0 0 0 4))=N4 at k4 c4 b4 ⊢;have ZL:=k3.trans k4;have z1:M ca=Db:=rZ k3 b3 hca;have lc4:pI N4 ca=Fa []:=tH c4;refine⟨pN Z',λle hle=>?_⟩;obtain⟨n5,e5,k5,c5,b5⟩:=tM (fs':=(bF p h ca le 0 0 5)) (c:=.lst []) b4 hle;refine pQ e5 ⟨(G.E "legs" Z'),by show 4<1000;decide,?_⟩;show ur _ _ _ _ (pX (pX N4 le (.lst [])) b (.ins a.c (bF p h ca le 0 0 5)));generalize pX (pX N4 le (.lst [])) b (.ins a.c (bF p h ca le 0 0 5))=N5 at k5 c5 b5 ⊢;have ZM:=ZL.trans k5;have z2:M le=Db:=rZ ZL b4 hle;have le5:pI N5 le=Fa []:=tH c5;have mcl:le≠ca:=λz=>by rw[z,qM lc4]at hle;cases hle
 have lc5:=k5.lst (qu lc4 b4) lc4;have p5:=ZM _ _ nbp i1;have g5:=ZM.lst (qu i3 hb) i3;clear k3 k4 k5 ZL lc4 c4 c5 e4 e5 b3 b4;refine pQ p5 (i' Z' (i' g5 ?_));refine ua (f:=Rz) (t:=L7) g5 _ [] _ (by rw[c9];simp only[dS];omega) (λd hd k hk=>?_) (λd hd _ k hk=>?_) λq1 YM=>?_
 .obtain⟨v,_,rfl⟩:=dI.mp hd;exact hk
 .obtain⟨v,_,rfl⟩:=dI.mp hd;exact⟨pN Z',hk⟩
 rw[eC,Iw];have sq1:=qQ.new (c:=.lst ((l.groups.filter wk).map λg=>D.tup [.str g.1,.int 0])) YM;refine i' pY (i' (xp (λg:uQ=>g.1) (λ_=>D.int 0) _) ⟨yV (iL (List.Sublist.map _ gp) (iL (jL _ _) ok.nd)),λnx XY=>?_⟩);have z3:M nx=Db:=rZ ZM b5 (sq1.none XY);obtain⟨n6,e6,k6,c6,b6⟩:=tM (fs':=(bF p h ca le nx 0 6)) (c:=.dk ((l.groups.filter wk).map λg=>((Sum.inr g.1:rH),D.int 0))) (sq1 _ _ b5) XY;refine pQ e6 ⟨(G.E "nexts" Z'),by show 5<1000;decide,?_⟩;have k6:=sq1.keep.trans k6;have ZC:wG "nexts" (.ref nx) (bF p h ca le 0 0 5)=(bF p h ca le nx 0 6):=rfl;rw[ZC];generalize pX (pX (pX N5 q1 (.lst ((l.groups.filter wk).map λg=>D.tup [.str g.1,.int 0]))) nx (.dk ((l.groups.filter wk).map λg=>((Sum.inr g.1:rH),D.int 0)))) b (.ins a.c (bF p h ca le nx 0 6))=N6 at k6 b6 c6 ⊢;have x6:zU N6 nx=Fa ((l.groups.filter wk).map λg=>((Sum.inr g.1:rH),D.int 0)):=Ey c6;have kk6:=ZM.trans k6;have lc6:=k6.lst (qu lc5 b5) lc5;have le6:=k6.lst (qu le5 b5) le5;have p6:=kk6 _ _ nbp i1;have o6:=kk6.lst (qu i5 hb) i5;clear ZM k6 lc5 p5 g5 e6 c6;refine pQ p6 (i' Z' (i' o6 λZh hon=>?_));have z4:M Zh=Db:=rZ kk6 b6 hon;obtain⟨n7,e7,k7,c7,b7⟩:=tM (fs':=(bF p h ca le nx Zh 7)) (c:=.lst (l.nk.map λw=>D.bl w.1)) b6 hon;refine pQ e7 ⟨(G.E "on" Z'),by show 6<1000;decide,?_⟩;have ZC:wG "on" (.ref Zh) (bF p h ca le nx 0 6)=(bF p h ca le nx Zh 7):=rfl;rw[ZC];generalize pX (pX N6 Zh (.lst (l.nk.map λw=>D.bl w.1))) b (.ins a.c (bF p h ca le nx Zh 7))=N7 at k7 b7 c7 ⊢;have kk7:=kk6.trans k7;have lc7:=k7.lst (qu lc6 b6) lc6;have le7:=k7.lst (qu le6 b6) le6;have x7:=k7.dk (Ca x6 b6) x6;have lo7:pI N7 Zh=Fa ((l.nk.map (·.1)).map D.bl):=by rw[eA];exact tH c7
 refine⟨pN Z',λlg hlg=>?_⟩;obtain⟨n8,e8,k8,c8,b8⟩:=tM (fs':=um (.ref p) h 0 ca le nx Zh lg) (c:=.lst []) b7 hlg;refine pQ e8 ⟨(G.E "log" Z'),by show 7<1000;decide,_,.refl,?_⟩;have apart:∀{N:Mp} {x y:Uf} {ds:T0 D},N x=Db->pI N y=Fa ds->x≠y:=λ{N x y ds} h1 h2 z=>by have:=qM h2;rw[<-z,h1]at this;cases this
 have y5:=rZ kk7 b7 hlg;refine q _ ⟨b,ca,le,nx,Zh,lg,[]⟩ Z' (kk7.trans k8) (λx hx=>?_) ⟨b8,k8.lst (qu lc7 b7) lc7,k8.lst (qu le7 b7) le7,?_,k8.lst (qu lo7 b7) lo7,tH c8,Z',λi k c e=>by simp at e,?_,dZ.mpr ⟨dQ,eP⟩,λx hx=>?_⟩
 rotate_right
 .by_cases z:x=b
  .exact⟨_,by rw[z];exact b8⟩
  .obtain⟨c,e⟩:=hF x hx;exact⟨c,(kk7.trans k8) x c z e⟩
 .have hx:x∈[b,nx,ca,le,Zh,lg]:=by
   unfold ui.foot ui.lists at hx
   simpa using hx
  simp only[dA,dQ,fj]at hx;rcases hx with rfl|rfl|rfl|rfl|rfl|rfl
  .exact .inl Z'
  .exact .inr z3
  .exact .inr z1
  .exact .inr z2
  .exact .inr z4
  .exact .inr y5
 .show zU _ nx=Fa (tX (vD l));rw[<-K5];exact k8.dk (Ca x7 b7) x7
 .have m1:=apart hlg lc7;have m2:=apart hlg le7;have m3:=apart hlg lo7;have m4:=apart hon lc6;have m5:=apart hon le6;show[ca,le,Zh,lg].Nodup;simp only[dZ,dA,dQ,fj,fR,not_false_eq_true,eP,and_true];exact⟨⟨dW mcl,dW m4,dW m1⟩,⟨dW m5,dW m2⟩,dW m3⟩
def WD{p:Uf}{F:QXQ}(ok:sj l):WF l (V0 p h l F):=by
 refine⟨λi c e=>by simp[V0]at e,λi j ci cj x e=>by simp[V0]at e,λx hx=>?_,λi j ci cj x e=>by simp[V0]at e,λz hz ht=>?_⟩
 .show((0:Nat):Int)<=xx l x;unfold xx;cases e:l.nM x with
  | none=>exact Int.le_refl _
  | some v=>have:=(ok.po v (gb e)).l1;show(0:Int)<=v.2.1;omega
 .show ∃v,(vD l).find? (λp=>decide (p.1=z))=Fa v/\_;unfold qc.nC at ht;cases e:l.group z with
  | none=>rw[e]at ht;exact absurd ht (by decide)
  | some g=>
   rw[e]at ht;have hg:=gb e;have hn:g.1=z:=by simpa using kh e
   have hm:((g.1,0):Str×Int)∈vD l:=dI.mpr ⟨g,fK.mpr ⟨hg,ht⟩,Z'⟩;cases q:(vD l).find? (λp=>decide (p.1=z))with
   | none=>exact absurd (ib.mp q _ hm) (by simp[hn])
   | some v=>refine⟨v,Z',?_⟩;obtain⟨g',_,rfl⟩:=dI.mp (gb q);exact⟨Int.le_refl _,Int.natCast_nonneg _⟩
def Fw(c:pU):D:=.tup [.str c.st,.str c.cr,.tup (c.way.map D.str),.tup (c.at_.map D.str),.tup (c.ms.map D.str),Di c.hd,.int c.si,Di c.wd]
def R6(V:qT):D:=.tup [.int V.t,.tup (V.calls.map Fw),.tup ((tY V.ps).map AM),.tup (V.on.map D.bl)]
def OP(a:Ad):rL:=λds M Q=>BV λL k c=>ds=[.ref k.p]/\rV a M L k c/\Q (Fw c) M
def HV(a:Ad):rL:=λds M Q=>AU λA V=>ds=[.ref A.b]/\qh a M A V/\V.calls.length<=10000/\V.ps.length<=3/\Q (R6 V) M
def EB(ok:sj l):(vD l).length<=3:=by unfold vD;rw[c9];exact eD (gP _ _) ok.g3
def PM:Fq P w K mg base 1 a.aY (OP a):=by
 refine fq G.aY.toDG xK (λr u=>⟨_,(pP (qg 1 xK (qk (rO (qG sV Z' G.y sS (qE (pV v0))) (qG sV Z' G.y sS (qE (pV v0))) (qG sV Z' G.y sS (qE (pV v0))))))
 (pR (pW (qx (qx (qk (sA (pV v0) (pV v0))) U1) (qk (rO (pV v0) (pV v0) (pV v0))))))),?_⟩)
 rintro ds M Q ⟨L,k,c,rfl,⟨ad,md,h1,h2,h3,h4,_⟩,q⟩
 have hz:=dR;refine pQ h1 (i' Z' (i' h2 (pQ h1 (i' Z' (i' h3 (pQ h1 (i' Z' (i' h4 ⟨pN Z',?_⟩))))))));refine pQ h1 (i' Z' (pQ h1 (i' Z' ⟨pN Z',fF _ _,by show 2+3<=pi;omega,?_⟩)));exact pQ h1 (i' Z' (pQ h1 (i' Z' (pQ h1 (i' Z' ⟨pN Z',fF _ _,by show 5+3<=pi;omega,M,.refl,q⟩)))))
def B7:Fq P w K mg base 2 a.ad (HV a):=by
 refine fq G.ad.toDG Cu (λr u=>⟨_,(pP (qg 1 Cu (qG sV Z' G.y sS (qE (qY Z' (xy (ix:=[Db]) (N':=["call"])) (qV (pV v0)) (qP 0) su (qa (PM G) r G.aY (qE v0))))))
 (pR (pW (qk (qz (pV v0) (rO U1 (qG sV Z' G.y sS (qE (FD Z' (pV v0) Z' G.b5))) (qG sV Z' G.y sS (qE (pV v0))))))))),?_⟩)
 rintro ds M Q ⟨A,V,rfl,bd,Yd,h3,q⟩
 have hz:=dR;refine pQ bd.at_ (i' Z' (i' bd.ca ?_));refine BC (A.cs.map λk=>D.ref k.p) (λpre acc U M'=>M=M'/\acc=(V.calls.take pre.length).map Fw/\∃y,U=[y]) (λ_ _ _ M' j=>by rw[<-j.1];exact bd.ca) _ [] [] _ _ Z' ?_ ⟨Z',Z',Db,Z'⟩ ?_ ?_
 .rw[c9,bd.len];simp only[dS];omega
 .rintro pre d post e acc U M' ⟨rfl,rfl,y,rfl⟩ k hk
  obtain⟨ka,c,e1,e2,rfl,hc,et⟩:=BA bd e;refine⟨_,ka,c,Z',hc,hk _ _ _ ⟨Z',?_,_,Z'⟩⟩;rw[dg,dX,et,dY];rfl
 .rintro acc U M' ⟨rfl,rfl,y,rfl⟩ p1 Zo
  rw[c9,bd.len,fD];refine i' pY ?_;have s1:=qQ.new (c:=.lst (V.calls.map Fw)) Zo;generalize pX M p1 (.lst (V.calls.map Fw))=M1 at s1 ⊢;refine pQ (s1 _ _ bd.at_) (i' Z' (pQ (s1 _ _ bd.at_) (i' Z' ⟨V.ps,s1.dk bd.nx,h3,λS hS=>i' pY ?_⟩)));have s2:=s1.trans (qQ.new (c:=.lst ((tY V.ps).map AM)) hS);generalize pX M1 S (.lst ((tY V.ps).map AM))=M2 at s2 ⊢;exact pQ (s2 _ _ bd.at_) (i' Z' (i' (s2.lst bd.on) ⟨pN Z',M,s2,q⟩))
def Ev.noT:Ev->Prop
 | .turn=>False
 | .sw _ _=>False
 | _=>True
def Ev.noN:Ev->Prop
 | .next _ _=>False
 | _=>True
theorem EM:∀{es:T0 Ev} {V:qT},(∀e∈es,e.noN)->(rc V es).ps=V.ps
 | [],_,_=>rfl
 | e::r,V,h=>(EM (es:=r) (V:=qH V e) λx hx=>h x (dM _ hx)).trans (by have:=h e dO;cases e<;>first|rfl|cases this)
theorem CY(i:Nat):∀(st:tQ) (q:Option Str),∀e∈sd i q st,e.noT/\e.noN
 | [],_,e,h=>by unfold sd at h;cases h
 | (y,gs)::r,Db,e,h=>by
  rcases dA.mp (show e∈Ev.asks i y gs::sd i (Fa y) r from h)with rfl|h
  .exact⟨trivial,trivial⟩
  .exact CY i r _ e h
 | (y,gs)::r,Fa u,e,h=>by
  rcases dA.mp (show e∈Ev.leg ⟨i,u,y,u⟩::Ev.asks i y gs::sd i (Fa y) r from h)with rfl|h
  .exact⟨trivial,trivial⟩
  rcases dA.mp h with rfl|h
  .exact⟨trivial,trivial⟩
  .exact CY i r _ e h
def QG{st:tQ}:∀e∈uB i st en,e.noT/\e.noN:=λe h=>by
 unfold uB at h;cases en with
 | ring ns=>
  dsimp only at h;cases q:st.getLast? with
  | none=>rw[q]at h;cases h
  | some s0=>rw[q]at h;rw[dG.mp h];exact⟨trivial,trivial⟩
 | _=>cases h
def Pn{ps:T0 (Str×Int)}{z:Str}{n:Int}(h:ps.any (λp=>decide (p.1=z))=pc):(B4 ps z n).length=ps.length:=by unfold B4;rw[dw h,c9]
def TK{V V1:qT}(nx:uO l V1)(he:Gx l V i en):(rc V1 (tV l V i en)).ps.length=V1.ps.length:=by
 cases en with
 | rings z ps=>
  show(rc V1 ((if (l.nC z=="turns")=pc then[Ev.next z (RB (l.ng z) (ps.headD Str.empty))]else[])++[.rings i ps])).ps.length=_;rw[se];by_cases ht:(l.nC z=="turns")=pc
  .rw[dw ht];refine Pn ?_;obtain⟨v,e,_⟩:=nx z he.1 ht;exact gI.mpr ⟨v,gb e,by simpa using kh e⟩
  .rw[dq ht];rfl
 | breaks z=>
  unfold tV;dsimp only;split
  .rfl
  .rfl
 | waits z=>rfl
 | engaged z=>rfl
 | barred=>rfl
 | ring ns=>rfl
def Ro{V:qT}{i:Nat}{k:pU}(ok:sj l)(wf:Af l V (Fa i))(hk:V.calls[i]?=Fa k):(rc V (xH l V i)).ps.length=V.ps.length:=by
 have YQ:=wf.ok i k hk;unfold xH;rw[hk];dsimp only[Option.elim];obtain⟨z,hz⟩:∃z,k.way.getLast?=Fa z:=by
  cases e:k.way.getLast? with
  | none=>exact absurd (gX.mp e) YQ.wy.1
  | some z=>exact⟨z,Z'⟩
 rw[show k.way.getLastD Str.empty=z by rw[iC,hz];rfl];have ro:yC l V k.cr (l.nm.length+1) [] (vt l V k.cr z k.way.dropLast):=Aa ok _ _ _ _ (YQ.wy.2 z (jg hz)) λx hx=>YQ.wy.2 x (jh _ hx);have eo:=Nj ok wf hk ro.e;generalize vt l V k.cr z k.way.dropLast=R at eo;obtain⟨e,st⟩:=R;have e1:(rc (rc V (sd i Db st)) (uB i st e)).ps=V.ps:=(EM λx hx=>(QG x hx).2).trans (EM λx hx=>(CY i st Db x hx).2);rw[se,se];refine(TK (λz hz ht=>?_) eo).trans (eV List.length e1);rw[e1];exact wf.nx z hz ht
theorem Jh(ok:sj l):∀(is:T0 Nat) {V:qT},WF l V->(rc V (sy l is V)).ps.length=V.ps.length
 | [],V,_=>by unfold sy;rfl
 | i::r,V,wf=>by
  unfold sy;rw[se];refine(Jh ok r (JN ok wf)).trans ?_;have d:=HL (V:=V) (i:=i) ok;generalize Ac l V i=fs at d;cases d with
  | no=>rfl
  | on c k r b x y n hc hs hk hw hy=>rw[Ap hk,se];exact Ro ok (FL wf hc hs hy) (ER hc)
def VI{V:qT}{e:uK}(ok:sj l)(wf:WF l V)(f:e.nX)(h:xX l V e=Db):(rc V (xW l V e)).ps.length=V.ps.length:=by
 cases e with
 | call y z=>obtain⟨h1,h2,h3,h4⟩:=Fj h;obtain⟨k,hk⟩:=L8 (V:=V) (y:=y) (z:=z);show(rc V (_++xH l _ _)).ps.length=_;rw[se];exact Ro ok (I0 wf h1 h2 h3 h4) hk
 | turn=>exact Jh ok _ (FF wf)
 | sw b i=>rfl
 | num w x ns=>
  refine eV List.length (EM λev hev=>?_);obtain⟨_,n⟩:=IV f h;cases n with
  | answer i c hi hc h1 h2 h3=>rw[dG.mp (show ev∈[Fh V "answer" x i.toNat]from hev),zQ hc];trivial
  | hang i c hi hc h1=>
   have hev:ev∈xl V x i.toNat:=hev;unfold xl at hev;rw[hc]at hev;dsimp only[Option.elim]at hev;split at hev
   .rw[dG.mp hev];trivial
   split at hev
   .rcases dA.mp hev with rfl|hev
    .trivial
    split at hev
    .rw[dG.mp hev];trivial
    .cases hev
   split at hev
   .rw[dG.mp hev];trivial
   .rw[dG.mp hev];trivial
  | hold i c hi hc h1=>rw[dG.mp (show ev∈[Fh V "hold" x i.toNat]from hev),zQ hc];trivial
  | back i c hi hc h1 h2=>rw[dG.mp (show ev∈[Fh V "back" x i.toNat]from hev),zQ hc];trivial
  | two _ i j c d hi hj hw hc hd h1 h2=>rw[dG.mp (show ev∈[GE V w x i.toNat j.toNat]from hev),HQ hc hd];trivial
theorem Em(n:Nat):∀ss:QQQ,(ss.map D.str).all (vB n)=pc
 | []=>rfl
 | s::r=>by rw[eh,fN,Em n r];cases n<;>rfl
theorem Hl(n:Nat):∀ss:T0 Bool,(ss.map D.bl).all (vB n)=pc
 | []=>rfl
 | s::r=>by rw[eh,fN,Hl n r];cases n<;>rfl
def Oy{n:Nat}(V:qT):vB (n+4) (R6 V)=pc:=by
 have c1:∀c∈V.calls,vB (n+2) (Fw c)=pc:=λc hc=>by
  have h0:∀o:Option Str,vB (n+1) (Di o)=pc:=λo=>by cases o<;>rfl
  have t:∀ss:QQQ,vB (n+1) (.tup (ss.map D.str))=pc:=λss=>Em n ss;show([D.str c.st,.str c.cr,.tup (c.way.map D.str),.tup (c.at_.map D.str),.tup (c.ms.map D.str),Di c.hd,.int c.si,Di c.wd].all (vB (n+1)))=pc;simp only[fN,t,h0];rfl
 have c2:vB (n+3) (.tup (V.calls.map Fw))=pc:=by show(V.calls.map Fw).all (vB (n+2))=pc;rw[jW,eR];exact c1
 have c3:vB (n+3) (.tup ((tY V.ps).map L3.AM))=pc:=by show((tY V.ps).map L3.AM).all (vB (n+2))=pc;rw[jW,eR];exact λx _=>rfl
 have c4:vB (n+3) (.tup (V.on.map D.bl))=pc:=Hl (n+2) _;show([D.int V.t,.tup (V.calls.map Fw),.tup ((tY V.ps).map L3.AM),.tup (V.on.map D.bl)].all (vB (n+3)))=pc;simp only[fN,c2,c3,c4];rfl
noncomputable def BE(c:pU):QQQ:=if (c.st=="talks"||c.st=="held")=pc then c.ms else c.cr::c.at_
def KW(a:Ad):rL:=λds M Q=>BV λL k c=>ds=[.ref (rR.p k)]/\rV a M L k c/\c.at_.length<=100/\∀r M',qQ M M'->pI M' r=Fa ((BE c).map D.str)->Q (.ref r) M'
def NU(V:qT)(YT:QQQ):T0 Nat:=(List.range V.calls.length).filter λi=>(V.calls[i]?).elim lf λc=>hasS YT c.st
def PY(a:Ad):rL:=λds M Q=>Br λA V l YT=>ds=[.ref A.b,.tup (List.map D.str YT)]/\Rd a M A V l/\∀r M',qQ M M'->pI M' r=Fa ((NU V YT).map λn=>D.int (n:Nat))->Q (.ref r) M'
def RN(V:qT)(YT:QQQ):D->Bool
 | .int n=>(V.calls[n.toNat]?).elim lf λc=>hasS YT c.st
 | _=>lf
def Lf:Fq P w K mg base 1 a.bv (KW a):=by
 refine fq G.bv.toDG DU (λr u=>⟨_,(pP (qm (W3.b3 (yO (pZ u (pV v0) pT) (xS (pZ u (pV v0) pT))))
 (pR (pW (qG uE Z' G.z uf (qE (pV v0)))))
 qd)
 (pR (pW (qx (rh (qE (pV v0))) (qG uE Z' G.z uf (qE (pV v0))))))),?_⟩)
 rintro ds M Q ⟨L,k,c,rfl,⟨ad,md,h1,h2,h3,h4,_⟩,ha,q⟩
 have hz:=dR;unfold BE at q;refine pQ h1 (i' Z' (qW (c:=c.st=="talks") (λg=>?_) (λg=>?_)))
 .rw[g,il,dw Z']at q;exact pQ h1 (i' Z' (i' h4 λr hr=>⟨_,.refl,q r _ (.new hr) pY⟩))
 rw[dH.mpr g,fO]at q;refine pQ h1 (i' Z' (qW (c:=c.st=="held") (λg=>?_) (λg=>?_)))
 .rw[dw g]at q;exact pQ h1 (i' Z' (i' h4 λr hr=>⟨_,.refl,q r _ (.new hr) pY⟩))
 rw[dq g]at q;refine pQ h1 (i' Z' ⟨pN Z',λr1 Yt=>?_⟩);have t1:=qQ.new (c:=.lst [D.str c.cr]) Yt;have l1:=@pY M r1 [D.str c.cr];show zK (pX M r1 (.lst [D.str c.cr]) k.p) _;generalize pX M r1 (.lst [D.str c.cr])=M1 at t1 l1 ⊢;refine pQ (t1 _ _ h1) (i' Z' (i' (t1.lst h3) λr2 Z3=>?_));have t2:=qQ.new (c:=.lst (c.at_.map D.str)) Z3;refine i' (t2.lst l1) (i' pY ⟨?_,λr3 ZN=>⟨_,.refl,q r3 _ (t1.trans (t2.trans (.new ZN))) pY⟩⟩);rw[c9];show 1+c.at_.length<=pi;omega
def P3:Fq P w K mg base 1 a.bw (PY a):=by
 refine fq G.bw.toDG Be (λr u=>⟨_,(pR (pW (qY Z' (xy (ix:=[Db,Fa 0,Fa 1]) (N':=["_law_k","_law_board","_law_states"])) (wN Z' G.ab (qE (qr qU Z' G.g qR (qE (pV v0))))) (qP 0) (uG (pZ u (pV (qe (pV U1) v0)) U2)) v0))),?_⟩)
 rintro ds M Q ⟨A,V,l,YT,rfl,rd,q⟩
 have hz:=dR;have lc:((A.cs.map λk=>D.ref k.p).length:Int)=(V.calls.length:Nat):=by rw[c9,rd.bd.len]
 have hb:=rd.k;refine pQ rd.bd.at_ (i' Z' (i' rd.bd.ca ?_));rw[lc];refine⟨Z',⟨by omega,by omega⟩,?_⟩;refine ua (f:=id) (t:=RN V YT) trivial _ [] _ (by rw[c9,eI];simp only[dS];omega) (λd hd k hk=>?_) (λd hd _ k hk=>?_) λr hr=>?_
 .obtain⟨i,hi,rfl⟩:=dI.mp hd;rw[fW]at hi;have hi:i<V.calls.length:=by omega
  obtain⟨k',ek,⟨ad,md,h1,_⟩⟩:=rd.call (df hi);have ea:wY (A.cs.map λk=>D.ref k.p) (0+(i:Nat))=Fa (.ref k'.p):=by rw[mX];exact qZ ek
  refine pQ rd.bd.at_ (i' Z' (i' Z' (i' rd.bd.ca (i' ea (pQ h1 (i' Z' (i' Z' ⟨Z',qJ _,?_⟩)))))));show k (inD (.str V.calls[i].st) (YT.map D.str)) M;rw[sH];have e1:RN V YT (.int (0+(i:Nat)))=hasS YT V.calls[i].st:=by show(V.calls[(0+(i:Int)).toNat]?).elim lf _=_;rw[show(0+(i:Int)).toNat=i by omega,df hi];rfl
  show k (hasS YT V.calls[i].st) M;rw[<-e1];exact hk
 .exact hk
 .refine⟨_,.refl,q r _ (.new hr) (pY.trans (eV Fa ?_))⟩;rw[eC,jt,gO,show(((V.calls.length:Nat):Int)).toNat=V.calls.length from rfl];unfold NU;have e1:(RN V YT∘λi:Nat=>D.int (0+(i:Nat)))=λi=>(V.calls[i]?).elim lf λc=>hasS YT c.st:=funext λi=>by show(V.calls[(0+(i:Int)).toNat]?).elim lf _=_;rw[show(0+(i:Int)).toNat=i by omega]
  rw[e1];exact gG λi _=>by rw[mX]
noncomputable def HE:Str->QQQ:=λw=>if (w=="answer")=pc then["rings","waits"]else if (w=="hold")=pc then["talks"]else if (w=="hang")=pc then["rings","waits","talks","held"]else["held"]
def TC(w:Str):Prop:=w="answer"\/w="hang"\/w="hold"\/w="back"\/w="hand"\/w="join"
def LA(a:Ad):rL:=λds M Q=>HI λA V l c w=>ds=[.ref A.b,.int c,.str w,.tup ((HE w).map D.str)]/\Rd a M A V l/\WF l V/\(∀k∈V.calls,k.at_.length<=100)/\TC w/\∀M',qQ M M'->Q .nz M'/\∀e:uK,e.nX->Q e.d M'
def eq_nil{n:Nat}{a b:Uf}{ds:T0 D}(ha:pI M a=Fa ds)(hb:pI M b=Fa []):zE M (n+1) (.ref a) (.ref b)=Fa ds.isEmpty:=by
 show(pI M a).bind (λi=>(pI M b).bind λj=>if i.length=j.length then tj (zE M n) i j else Fa lf)=_;rw[ha,hb];cases ds with
 | nil=>rfl
 | cons x r=>rfl
def vf{α:Type}(f:α->D){xs:List α}(h:xs≠[])(c k:Int):(0:Int)<((xs.map f).length:Nat)/\∃x∈xs,wY (xs.map f) (draw c k ((xs.map f).length:Nat))=Fa (f x):=by
 have hp:(0:Int)<((xs.map f).length:Nat):=by have:=fG.mpr h;rw[c9];omega
 have d0:=rF (c:=c) (f:=k) hp;have d1:=rf (c:=c) (f:=k) hp;obtain⟨n,e⟩:=eK d0;rw[e]at d1 ⊢;have hn:n<xs.length:=by rw[c9]at d1;omega
 exact⟨hp,xs[n],iu hn,vF (by rw[dJ,df hn];rfl)⟩
def RT{V:qT}{i:Nat}(h:i∈NU V YT):∃c,V.calls[i]?=Fa c/\c.st∈YT:=by
 have h:=(fK.mp h).2;cases e:V.calls[i]? with
 | none=>rw[e]at h;cases h
 | some c=>rw[e]at h;exact⟨c,Z',rq.mp h⟩
def Ex{c:pU}(k:wz l lf c)(h:c.st≠"over"):BE c≠[]:=by
 unfold BE;split
 .rename_i g;rcases k.sh with z|⟨_,z|z|⟨_,z⟩|z⟩
  .rw[z.1]at g;exact absurd g (by decide)
  .rw[z.1]at g;exact absurd g (by decide)
  .intro y;rw[y]at z;rcases z.2.1 with u|u<;>cases u
  .intro y;rw[y]at z;cases z.2.1
  .exact absurd z.1 h
 .exact fF _ _
def UX{c:pU}(k:wz l lf c)(h:c.st∈HE "answer"):c.at_≠[]:=by
 have h:c.st="rings"\/c.st="waits":=by
  rcases dA.mp h with g|g
  .exact .inl g
  .exact .inr (dG.mp g)
 rcases k.sh with z|⟨_,z|z|⟨_,z⟩|z⟩
 .exact z.2.2.2.2.2 Z'
 .intro y;rw[y]at z;cases z.2.2.2.2
 all_goals(rw[z.1]at h;exact absurd h (by decide))
def JS{c:pU}(k:wz l lf c)(h:c.st="held"):∃x,c.hd=Fa x:=by
 rcases k.sh with z|⟨_,z|z|⟨x,z⟩|z⟩
 .rw[h]at z;exact absurd z.1 (by decide)
 .rw[h]at z;exact absurd z.1 (by decide)
 .rw[h]at z;exact absurd z.1 (by decide)
 .exact⟨x,z.2.2.1⟩
 .rw[h]at z;exact absurd z.1 (by decide)
def Lj:Fq P w K mg base 4 a.bx (LA a):=by
 refine fq G.bx.toDG rX (λr u=>⟨_,(pP (qg 4 rX (qa (P3 G) r G.bw (sA v0 U3)))
 (pP (qm (pZ u v4 (rh tz))
 (pR (pW so))
 qd)
 (pP (qg 5 rX (qe v4 (qa (rb G) r G.i (rO U1 pS (qr qU Z' G.g qR (qE v4))))))
 (pP (qg 6 rX (qa (Lf G) r G.bv (qE (qe (pV v0) v5))))
 (pP (qm (pZ u U2 pT)
 (pR (qg 6 rX (qG uE Z' G.z uf (qE (pV (qe (pV v0) v5))))))
 qd)
 (pP (qm (W3.b3 (yO (pZ u U2 pT) (yO (pZ u U2 pT) (xS (pZ u U2 pT)))))
 (pR (qg 6 rX (rh (qE (pV (qe (pV v0) v5))))))
 qd)
 (pP (qg 7 rX (qe v6 (qa (rb G) r G.i (rO U1 pS (qr qU Z' G.g qR (qE v6))))))
 (pP (qm (W3.b3 (yO (pZ u U2 pT) (xS (pZ u U2 pT))))
 (pP (qg 8 rX (qv v0 G.c.toCls G.M (xm G) r (qE v7)))
 (pR (pW (qk (qz U2 (rO v7 v5 (RJ (pZ u v8 so) pS v8)))))))
 qd)
 (pR (pW (qk (rO U2 v7 v5)))))))))))),?_⟩)
 rintro ds M Q ⟨A,V,l,c,wd,rfl,rd,wf,ha,ho,q⟩
 have hz:=dR;refine⟨A,V,l,HE wd,Z',rd,λr M1 s1 lr=>?_⟩;refine⟨pN Z',λr0 hr0=>?_⟩;have t2:=qQ.new (c:=.lst []) hr0;have lr2:=t2.lst lr;refine i' (eq_nil lr2 pY) ?_;have s2:=s1.trans t2;generalize pX M1 r0 (.lst [])=M2 at s2 lr2 ⊢;clear t2 lr hr0 s1;refine qW (c:=((NU V (HE wd)).map λn=>D.int (n:Nat)).isEmpty) (λ_=>⟨M2,.refl,(q M2 s2).1⟩) (λg=>?_);have gne:NU V (HE wd)≠[]:=λz=>g (by rw[z];rfl);obtain⟨hp,i,hi,ei⟩:=vf (λn:Nat=>D.int (n:Nat)) gne c 40692;obtain⟨cv,hc,hs⟩:=RT hi;have Yy:=rd.sub s2;obtain⟨k,ek,ca⟩:=Yy.call hc;have ca0:=ca;obtain⟨ad,md,h1,h2,h3,h4,_⟩:=ca0;have YQ:=wf.ok i cv hc;refine i' lr2 ⟨c,_,_,Z',hp,i' lr2 (i' ei ?_)⟩;refine pQ Yy.bd.at_ (i' Z' (i' Z' (i' Yy.bd.ca (i' (qZ ek) ?_))));refine⟨_,k,cv,Z',ca,ha cv (rE hc),λr3 M3 s3 lr3=>?_⟩;have Ys:=s3 _ _ h1;have q3:=λM' (s:qQ M3 M')=>q M' (s2.trans (s3.trans s));have Z6:=Yy.sub s3;have h3':=s3.lst h3;clear q lr2 s2 h1 h2 h3 h4 ca;rcases ho with rfl|rfl|rfl|rfl|rfl|rfl
 .
  refine pQ Z6.bd.at_ (i' Z' (i' Z' (i' Z6.bd.ca (i' (qZ ek) (pQ Ys (i' Z' (i' h3' λr4 hr4=>?_)))))));obtain⟨XT,x,hx,ex⟩:=vf D.str (UX YQ hs) c 742938285;refine i' pY ⟨c,_,_,Z',XT,i' pY (i' ex ?_)⟩;exact⟨pN Z',_,.refl,(q3 _ (.new hr4)).2 (.num "answer" x [(i:Nat)]) (.inl ⟨.inl Z',Z'⟩)⟩
 .
  obtain⟨XT,x,hx,ex⟩:=vf D.str (Ex YQ (λz=>by rw[z]at hs;exact absurd hs (by decide))) c 742938285;refine i' lr3 ⟨c,_,_,Z',XT,i' lr3 (i' ex ?_)⟩;exact⟨pN Z',_,.refl,(q3 _ .refl).2 (.num "hang" x [(i:Nat)]) (.inl ⟨.inr (.inl Z'),Z'⟩)⟩
 .
  obtain⟨XT,x,hx,ex⟩:=vf D.str (Ex YQ (λz=>by rw[z]at hs;exact absurd hs (by decide))) c 742938285;refine i' lr3 ⟨c,_,_,Z',XT,i' lr3 (i' ex ?_)⟩;exact⟨pN Z',_,.refl,(q3 _ .refl).2 (.num "hold" x [(i:Nat)]) (.inl ⟨.inr (.inr (.inl Z')),Z'⟩)⟩
 .
  obtain⟨y,hy⟩:=JS YQ (dG.mp hs);refine pQ Z6.bd.at_ (i' Z' (i' Z' (i' Z6.bd.ca (i' (qZ ek) (pQ Ys (i' Z' ⟨pN Z',λr4 hr4=>?_⟩))))));rw[show Di cv.hd=.str y by rw[hy];rfl];obtain⟨XT,x,hx,ex⟩:=vf D.str (fF y []) c 742938285;refine i' pY ⟨c,_,_,Z',XT,i' pY (i' ex ?_)⟩;exact⟨pN Z',_,.refl,(q3 _ (.new hr4)).2 (.num "back" x [(i:Nat)]) (.inl ⟨.inr (.inr (.inr Z')),Z'⟩)⟩
 all_goals
  obtain⟨y,hy⟩:=JS YQ (dG.mp hs);refine pQ Z6.bd.at_ (i' Z' (i' Z' (i' Z6.bd.ca (i' (qZ ek) (pQ Ys (i' Z' ⟨pN Z',λr4 hr4=>?_⟩))))));rw[show Di cv.hd=.str y by rw[hy];rfl];obtain⟨XT,x,hx,ex⟩:=vf D.str (fF y []) c 742938285;refine i' pY ⟨c,_,_,Z',XT,i' pY (i' ex ?_)⟩;have t4:=qQ.new (c:=.lst [D.str y]) hr4;refine pQ (t4 _ _ Z6.bd.at_) ⟨Z',_,⟨Z',Z'⟩,A,V,x,Z',Z6.bd.sub t4,Z6.k,?_⟩;unfold AY;cases vU V x with
  | none=>first|exact⟨pN Z',_,.refl,(q3 _ t4).2 (.num "hand" x [(i:Nat),(0:Nat)]) (.inr ⟨.inl Z',Z'⟩)⟩|exact⟨pN Z',_,.refl,(q3 _ t4).2 (.num "join" x [(i:Nat),(0:Nat)]) (.inr ⟨.inr Z',Z'⟩)⟩
  | some j=>first|exact⟨pN Z',_,.refl,(q3 _ t4).2 (.num "hand" x [(i:Nat),(j:Nat)]) (.inr ⟨.inl Z',Z'⟩)⟩|exact⟨pN Z',_,.refl,(q3 _ t4).2 (.num "join" x [(i:Nat),(j:Nat)]) (.inr ⟨.inr Z',Z'⟩)⟩
def Kh:rL:=λds M Q=>Ls λc o n own nm m=>ds=[.int c,.ref o,.ref n,.int ((m:Nat):Int)]/\pI M o=Fa (List.map D.str own)/\pI M n=Fa (List.map D.str nm)/\own.length<=100/\nm.length<=100/\m<=1000000/\∀M' (e:uK),qQ M M'->e.nX->Q e.d M'
def Om(a:Ad):rL:=λds M Q=>Ue λA V l c o n own nm=>ds=[.ref A.b,.int c,.ref o,.ref n]/\Rd a M A V l/\WF l V/\(∀k∈V.calls,k.at_.length<=100)/\pI M o=Fa (List.map D.str own)/\pI M n=Fa (List.map D.str nm)/\own≠[]/\nm≠[]/\own.length<=100/\nm.length<=100/\∀M' (e:uK),qQ M M'->e.nX->Q e.d M'
def J4{α:Type}(f:α->D){xs:List α}(h:xs≠[]){m:Int}(hm:m=(xs.length:Nat))(c k:Int):(0:Int)<m/\∃x∈xs,wY (xs.map f) (draw c k m)=Fa (f x):=by have:=vf f h c k;rw[c9,<-hm]at this;exact this
def O8{α:Type}(xs:List α)(x:α):xs++[x]≠[]:=by simp
noncomputable def IZ:QQQ:=["call","call","call","call","call","answer","answer","answer","answer","answer","hang","hang","hold","hold","hold","back","hand","join","turn","turn","turn"]
theorem D5(d:D):∀n:Nat,(List.replicate n [d]).flatten=List.replicate n d
 | 0=>rfl
 | n+1=>by rw[eO,fX,D5 d n,eO];rfl
noncomputable def zz:Str:="zzzzzz"
noncomputable def LV(a b:Str)(k m:Int):List uK:=[.call a b,.num "answer" a [k],.num "hang" a [k],.num "hold" a [k],.num "back" a [k],.num "hand" a [k,m],.num "join" a [k,m],.turn,.sw pc k,.sw lf k]
def LJ{a b:Str}{k m:Int}{e:uK}(h:e∈LV a b k m):e.nX:=by
 unfold LV at h;simp only[dA,dQ,fj]at h;rcases h with rfl|rfl|rfl|rfl|rfl|rfl|rfl|rfl|rfl|rfl
 .trivial
 .exact .inl ⟨.inl Z',Z'⟩
 .exact .inl ⟨.inr (.inl Z'),Z'⟩
 .exact .inl ⟨.inr (.inr (.inl Z')),Z'⟩
 .exact .inl ⟨.inr (.inr (.inr Z')),Z'⟩
 .exact .inr ⟨.inl Z',Z'⟩
 .exact .inr ⟨.inr Z',Z'⟩
 .trivial
 .trivial
 .trivial
def Q1:Fq P w K mg base 2 a.bz Kh:=by
 refine fq G.bz.toDG vc (λr u=>⟨_,(pP (qg 4 vc (qe (qx U2 (rh (qE pT))) (qa (rb G) r G.i (rO v0 pS (qx (qr qU Z' G.g qR (qE U2)) pS)))))
 (pP (qg 5 vc (qe (qx U2 (rh (qE pT))) (qa (rb G) r G.i (rO v0 pS (qx (qr qU Z' G.g qR (qE U2)) pS)))))
 (pP (qg 6 vc (qx (qa (rb G) r G.i (rO v0 pS (qx U3 pS))) pS))
 (pP (qg 7 vc (qx (qa (rb G) r G.i (rO v0 pS (qx U3 pS))) pS))
 (pP (qg 8 vc (rh (qz (qk (rO pT v4 v5)) (qz (qk (rO pT v4 v6)) (qz (qk (rO pT v4 v6)) (rO (qk (rO pT v4 v6)) (qk (rO pT v4 v6)) (qk (qz pT (rO v4 v6 v7)))))))))
 (pR (pW (qe (qx v8 (rh (qz (qk (qz pT (rO v4 v6 v7))) (rO (qk (qE pT)) (qk (sA pT v6)) (qk (sA pT v6)))))) (qa (rb G) r G.i (rO v0 pS pS)))))))))),?_⟩)
 rintro ds M Q ⟨c,o,n,own,nm,m,rfl,ho,hn,ol,nl,ml,q⟩
 have hz:=dR;have add:∀{M1:Mp} {p:Uf} {xs:QQQ} (f:Int) (nx:DK),qQ M M1->pI M1 p=Fa (xs.map D.str)->xs.length<=100->(∀x M',qQ M M'->nx (.str x) M')->∀r1,M1 r1=Db->(pI (pX M1 r1 (.lst [D.str zz])) p).elim False λi=>(pI (pX M1 r1 (.lst [D.str zz])) r1).elim False λj=>i.length+j.length<=pi/\∀r2,pX M1 r1 (.lst [D.str zz]) r2=Db->(pI (pX (pX M1 r1 (.lst [D.str zz])) r2 (.lst (i++j))) p).elim False λys=>JC [.int c,.int f,.int ((ys.length:Nat)+1)] (pX (pX M1 r1 (.lst [D.str zz])) r2 (.lst (i++j))) λy M2=>match y with
  | .int n=>(pI M2 r2).elim False λzs=>(wY zs n).elim False λd=>nx d M2
  | _=>False:=λ{M1 p xs} f nx s hx lx XY r1 Yt=>by
  have t1:=qQ.new (c:=.lst [D.str zz]) Yt;refine i' (t1.lst hx) (i' pY ⟨by rw[c9];show xs.length+1<=pi;omega,λr2 Z3=>?_⟩);have t2:=qQ.new (c:=.lst (xs.map D.str++[D.str zz])) Z3;obtain⟨hp,x,_,ex⟩:=J4 D.str (O8 xs zz) (m:=((xs.map D.str).length:Nat)+1) (by rw[c9,dg];rfl) c f;rw[dY]at ex;exact i' ((t1.trans t2).lst hx) ⟨c,f,_,Z',hp,i' pY (i' ex (XY x _ (s.trans (t1.trans t2))))⟩
 refine⟨pN Z',add 16807 _ .refl hn nl λx M1 s1=>⟨pN Z',add 39373 _ s1 (s1.lst hn) nl λy M2 s2=>?_⟩⟩;refine⟨c,_,_,Z',by show(0:Int)<(m:Nat)+2;omega,⟨c,_,_,Z',by show(0:Int)<(m:Nat)+2;omega,?_⟩⟩;generalize draw c 69621 ((m:Nat)+2) - 1=k0;refine⟨pN Z',pN Z',pN Z',pN Z',pN Z',pN Z',pN Z',λr8 hr8=>⟨pN Z',pN Z',pN Z',pN Z',pN Z',λr9 hr9=>?_⟩⟩;have t8:=qQ.new (c:=.lst (((LV x y k0 (draw c 22695477 ((m:Nat)+2) - 1)).take 6).map uK.d)) hr8;have t9:=qQ.new (c:=.lst (((LV x y k0 (draw c 22695477 ((m:Nat)+2) - 1)).drop 6).map uK.d)) hr9;refine i' (t9.lst pY) (i' pY ⟨by show 6+4<=pi;omega,λr10 hr10=>?_⟩);obtain⟨hp,e,he,ee⟩:=J4 uK.d (xs:=LV x y k0 (draw c 22695477 ((m:Nat)+2) - 1)) (fF _ _) (m:=10) Z' c 1664525;exact⟨c,_,_,Z',hp,i' pY (i' ee ⟨_,.refl,q _ e (s2.trans (t8.trans (t9.trans (.new hr10)))) (LJ he)⟩)⟩
def NF:Fq P w K mg base 5 a.bA (Om a):=by
 refine fq G.bA.toDG rW (λr u=>⟨_,(pP (qg 4 rW (qx (qx (qx (qx (qx (CJ (rh (qE pT)) pS) (CJ (rh (qE pT)) pS)) (CJ (rh (qE pT)) pS)) (CJ (rh (qE pT)) pS)) (rh (rO pT pT pT))) (CJ (rh (qE pT)) pS)))
 (pP (qg 4 rW (qe v4 (qa (rb G) r G.i (rO U1 pS (qr qU Z' G.g qR (qE v4))))))
 (pP (qg 5 rW (qk (qz pT (rO pT pT pT))))
 (pP (qm (pZ u v4 pT)
 (pR (qg 5 rW (qk (sA pT pT))))
 qd)
 (pP (qm (pZ u v4 pT)
 (pR (qg 5 rW (qk (qE pT))))
 qd)
 (pP (qm (W3.b3 (yO (pZ u v4 pT) (yO (pZ u v4 pT) (xS (pZ u v4 pT)))))
 (pR (qg 5 rW (qk (qE pT))))
 qd)
 (pP (qm (pZ u v4 pT)
 (pR (pW (qk (qE pT))))
 qd)
 (pP (qm (pZ u (qa (rb G) r G.i (rO U1 pS pS)) pS)
 (pR (pW (qa (Q1 G) r G.bz (qz U1 (rO U2 U3 (qr qU Z' G.g qR (qE (pV v0))))))))
 qd)
 (pP (qg 6 rW so)
 (pP (qm (pZ u v4 pT)
 (pR (qg 6 rW (qa (Lj G) r G.bx (qz v0 (rO U1 v4 v5)))))
 qd)
 (pP (qm (pZ u v6 so)
 (pP (qg 7 rW (qe U2 (qa (rb G) r G.i (rO U1 pS (qr qU Z' G.g qR (qE U2))))))
 (pR (qg 6 rW (qk (rO pT v7 (qe U3 (qa (rb G) r G.i (rO U1 pS (qr qU Z' G.g qR (qE U3))))))))))
 qd)
 (pR (pW v6))))))))))))),?_⟩)
 rintro ds M Q ⟨A,V,l,c,o,n,own,nm,rfl,rd,wf,ha,ho,hn,one,nne,ol,nl,q⟩
 have hz:=dR;refine VN (t:=HD _ _) (λU M'=>qQ M M'/\∃r,pI M' r=Fa (IZ.map D.str)/\U=[Fa (.ref A.b),Fa (.int c),Fa (.ref o),Fa (.ref n),Fa (.ref r),Db,Db,Db]) (λnx h=>?_) ?_
 .have ZE:∀{N:Mp} {U:vH} (w0:Str) (m:Int) (nx:DK),qQ M N->(0<=m/\m<=10)->(∀r N',qQ M N'->qQ N N'->pI N' r=Fa ((List.replicate m.toNat w0).map D.str)->nx (.ref r) N')->UP (Ut (vW (L3.c3 (.str w0)) yi)) (L3.c3 (.int m)) U N nx:=λ{N U} w0 m nx sn hm XY=>by refine⟨pN Z',λr1 Yt=>?_⟩;refine i' pY ⟨⟨by omega,by omega,by show 1<=1000;decide⟩,λr2 Z3=>?_⟩;have t:=(qQ.new (c:=.lst [D.str w0]) Yt).trans (qQ.new (c:=.lst (List.replicate m.toNat [D.str w0]).flatten) Z3);refine XY r2 _ (sn.trans t) t (pY.trans (eV Fa ?_));rw[List.map_replicate];exact D5 _ _
  have YU:∀{N:Mp} {p r:Uf} {xs ys:QQQ} (nx:DK),qQ M N->pI N p=Fa (xs.map D.str)->pI N r=Fa (ys.map D.str)->xs.length+ys.length<=100->(∀r N',qQ M N'->pI N' r=Fa ((xs++ys).map D.str)->nx (.ref r) N')->VO .Add (.ref p) (.ref r) N nx:=λ{N p r xs ys} nx sn hx hy hl XY=>by refine i' hx (i' hy ⟨by rw[c9,c9];omega,λr2 Z3=>?_⟩);refine XY r2 _ (sn.trans (.new Z3)) (pY.trans (eV Fa ?_));rw[dY]
  dsimp only[HD,o3];refine ZE "call" 5 _ .refl (by decide) λp1 N1 s1 _ l1=>ZE "answer" 5 _ s1 (by decide) λq2 N2 s2 t2 l2=>YU _ s2 (t2.lst l1) l2 (by decide) λp2 N3 s3 l3=>ZE "hang" 2 _ s3 (by decide) λq4 N4 s4 t4 l4=>YU _ s4 (t4.lst l3) l4 (by decide) λp5 N5 s5 l5=>ZE "hold" 3 _ s5 (by decide) λq6 N6 s6 t6 l6=>YU _ s6 (t6.lst l5) l6 (by decide) λp7 N7 s7 l7=>⟨pN Z',λr8 hr8=>?_⟩;have t8:=qQ.new (c:=.lst ((["back","hand","join"]:QQQ).map D.str)) hr8;exact YU (ys:=["back","hand","join"]) _ (s7.trans t8) (t8.lst l7) pY (by decide) λp9 N9 s9 l9=>ZE "turn" 3 _ s9 (by decide) λq10 N10 s10 t10 l10=>YU _ s10 (t10.lst l9) l10 (by decide) λp11 N11 s11 l11=>h _ _ ⟨s11,p11,l11,Z'⟩
 rintro U M1 ⟨s1,r,lr,rfl⟩
 have s1n:=s1.lst hn;have s1o:=s1.lst ho;obtain⟨hp,w0,hw,ew⟩:=vf D.str (show IZ≠[]from fF _ _) c 48271;refine i' lr ⟨c,_,_,Z',hp,i' lr (i' ew ?_)⟩;obtain⟨Zo,x1,hx1,ex1⟩:=vf D.str one c 16807;obtain⟨XT,x2,hx2,ex2⟩:=vf D.str nne c 39373;have YO:=rd.sub s1;have lc:((A.cs.map λk=>D.ref k.p).length:Int)=(V.calls.length:Nat):=by rw[c9,rd.bd.len]
 clear lr hp ew;have hw:w0="call"\/w0="turn"\/TC w0:=by unfold IZ at hw;simp only[dA,dQ,fj]at hw;unfold TC;rcases hw with h|h|h|h|h|h|h|h|h|h|h|h|h|h|h|h|h|h|h|h|h<;>simp[h]
 have XJ:∀M' (e:uK),qQ M1 M'->e.nX->∃XM,qQ XM M'/\Q e.d XM:=λM' e s f=>⟨M',.refl,q M' e (s1.trans s) f⟩;rcases hw with rfl|rfl|hw
 .refine⟨pN Z',c,_,_,Z',by decide,qW (c:=draw c 950706376 9==0) (λ_=>pQ YO.bd.at_ (i' Z' (i' YO.bd.ca ?_))) (λ_=>?_)⟩
  .rw[lc];exact⟨c,o,n,own,nm,V.calls.length,Z',s1o,s1n,ol,nl,rd.k,XJ⟩
  exact i' s1o ⟨c,_,_,Z',Zo,i' s1o (i' ex1 (i' s1n ⟨c,_,_,Z',XT,i' s1n (i' ex2 ⟨pN Z',XJ M1 (.call x1 x2) .refl trivial⟩)⟩))⟩
 .exact⟨pN Z',pN Z',XJ M1 .turn .refl trivial⟩
 have lany:Kh [.int c,.ref o,.ref n,.int ((V.calls.length:Nat):Int)] M1 λd M'=>∃XM,qQ XM M'/\Q d XM:=⟨c,o,n,own,nm,V.calls.length,Z',s1o,s1n,ol,nl,rd.k,XJ⟩;have hw':=hw;rcases hw with rfl|rfl|rfl|rfl|rfl|rfl
 all_goals
  first
   | refine⟨pN rfl,pN rfl,c,_,_,rfl,by decide,qW (c:=draw c 950706376 9==0) (λ_=>pQ YO.bd.at_ (i' rfl (i' YO.bd.ca ?_))) (λ_=>⟨A,V,l,c,_,rfl,YO,wf,ha,hw',λM' s=>⟨?_,λe f=>?_⟩⟩)⟩
   | refine⟨pN rfl,c,_,_,rfl,by decide,qW (c:=draw c 950706376 9==0) (λ_=>pQ YO.bd.at_ (i' rfl (i' YO.bd.ca ?_))) (λ_=>⟨A,V,l,c,_,rfl,YO,wf,ha,hw',λM' s=>⟨?_,λe f=>?_⟩⟩)⟩
  .rw[lc];exact lany
  .exact i' (s.lst s1o) ⟨c,_,_,Z',Zo,i' (s.lst s1o) (i' ex1 (i' (s.lst s1n) ⟨c,_,_,Z',XT,i' (s.lst s1n) (i' ex2 ⟨pN Z',XJ M' (.call x1 x2) s trivial⟩)⟩))⟩
  .cases e with
   | call y z=>exact XJ M' (.call y z) s f
   | num v y ns=>exact XJ M' (.num v y ns) s f
   | turn=>exact XJ M' .turn s f
   | sw b i=>exact XJ M' (.sw b i) s f
def Lc{x:Uf}{c:vm}(st:rB A M A' M')(h:x∉A.foot)(hx:M x=Fa c):x∉A'.foot:=λz=>by
 rcases st.2.1 x z with y|y
 .exact h y
 .rw[hx]at y;cases y
noncomputable def L4(A:ui)(M:Mp):Mp:=λx=>if x∈A.foot then Db else M x
def FR{A:ui}{x:Uf}{ds:T0 D}(h:pI M x=Fa ds)(n:x∉A.foot):pI (L4 A M) x=Fa ds:=tH (by unfold L4;rw[dq n];exact qM h)
structure Lp(a:Ad)(M0 N M:Mp)(b:Uf)(A:ui)(V:qT)(l:qc)(m:Nat):Prop where
 cu:uX a M0 M b A V l (1+m) (3+2200*m)
 wf:WF l V
 ps:V.ps.length<=3
 own:∀x c,N x=Fa c->M x=Fa c/\x∉A.foot
variable {N:Mp}{m:Nat}
def Lp.s(g:Lp a M0 N M b A V l m):qQ N M:=λx c e=>(g.own x c e).1
def Lp.sub(g:Lp a M0 N M b A V l m)(s:qQ M M'):Lp a M0 N M' b A V l m:=⟨g.cu.sub s,g.wf,g.ps,λx c e=>⟨s x c (g.own x c e).1,(g.own x c e).2⟩⟩
def Lp.nR(g:Lp a M0 N M b A V l m):Lp a M0 N M b A V l (m+1):=⟨g.cu.mono (by omega) (by omega),g.wf,g.ps,g.own⟩
def Lp.after{e:uK}(g:Lp a M0 N M b A V l m)(hm:m<=63)(f:e.nX)(hr:xX l V e=Db)(cu:uX a M0 M' b A' (rc V (xW l V e)) l (1+m+1) (3+2200*m+40+33*(1+m)))(st:rB A M A' M'):Lp a M0 N M' b A' (rc V (xW l V e)) l (m+1):=⟨cu.mono (by omega) (by omega),Vg g.cu.ok g.wf f hr,by rw[VI g.cu.ok g.wf f hr];exact g.ps,λx c h=>⟨st.1 x c (g.own x c h).2 (g.own x c h).1,Lc st (g.own x c h).2 (g.own x c h).1⟩⟩
def Lp.rd(g:Lp a M0 N M b A V l m)(hm:m<=64):Rd a M A V l:=g.cu.rd (by omega) g.wf
def Lp.mk0(cu:uX a M0 M b A V l 1 3)(wf:WF l V)(ps:V.ps.length<=3):Lp a M0 (L4 A M) M b A V l 0:=⟨cu,wf,ps,λx c e=>by
 unfold L4 at e;split at e
 .cases e
 .rename_i h;exact⟨e,h⟩⟩
def Lp.start{b p:Uf}{A:ui}(ok:sj l)(pl:tR a M0 p l)(hb:M0 b=Db)(eb:A.b=b)(kp:sT b (pX M0 b (.ins a.c [])) M)(fr:∀x∈A.foot,x=b\/pX M0 b (.ins a.c []) x=Db)(bd:qh a M A (V0 p h l [])):uX a M0 M b A (V0 p h l []) l 1 3/\WF l (V0 p h l [])/\(V0 p h l []).ps.length<=3:=by
 have t:=qQ.new (c:=.ins a.c []) hb;refine⟨⟨bd,pl,λx c e=>kp x c (RI e hb) (t x c e),λx hx=>?_,eb,⟨eQ _,eQ _,eQ _,EB ok,λk hk=>by cases hk⟩,ok,c9 ..⟩,WD ok,EB ok⟩;rcases fr x hx with z|z
 .rw[z];exact hb
 .exact t.none z
def HJ{m:Int}(h2:2<=m)(h:m<=100):2<=(vO ns m).nj.length:=by have:=(xo (s:=cell ns 0) h2 h).2;show 2<=((List.range (rY (cell ns 0) m)).map _).length;rw[c9,eI];exact this
def SH(a:Ad):rL:=λds M Q=>AU λns m=>ds=[.rl (List.map D.int ns),.int m]/\2<=m/\m<=8/\∀M0 M' A p h,qQ M M0->uX a M0 M' A.b A (V0 p h (vO ns m) []) (vO ns m) 1 3->WF (vO ns m) (V0 p h (vO ns m) [])->(V0 p h (vO ns m) []).ps.length<=3->Q (.ref A.b) M'
def Ld(a:Ad):rL:=λds M Q=>BV λA V l=>ds=[.ref (ui.b A)]/\Rd a M A V l/\∀M' r ro rn,qQ M M'->M ro=Db->M rn=Db->pI M' r=Fa [.ref ro,.ref rn]->pI M' ro=Fa (l.pn.map D.str)->pI M' rn=Fa (l.nm.map D.str)->Q (.ref r) M'
def SC:Fq P w K mg base 10 a.bB (SH a):=by
 refine fq G.bB.toDG wc (λr u=>⟨_,(pP (Ik (qa (OD G) r G.bu (sA v0 U1)) (vp (n:=3) Z' (qN (rS 2 wc) (qN (rS 3 wc) (qN (rS 4 wc) tZ)))))
 (pR (pW (vK (Oe G) r G.c G.ce G.am.toDG (sA (vK (OS G) r G.h G.cf G.an.toDG (rO U2 U3 v4)) (qa (rb G) r G.i (rO (qa (Ml G) r G.R (sA v0 pS)) pS pS))))))),?_⟩)
 rintro ds M Q ⟨ns,m,rfl,h2,h8,q⟩
 have ok:sj (vO ns m):=QY h2 h8;refine⟨ns,m,Z',h2,h8,λr1 r2 r3 M1 s1 e1 e2 e3=>⟨Z',?_⟩⟩;generalize vO ns m=l at e1 e2 e3 ok q;refine λp hp=>?_;have t2:=qQ.new (c:=.ins a.h []) hp;refine⟨p,r1,r2,r3,l,Z',qp,t2.lst e1,t2.lst e2,t2.lst e3,ok,λM2 kp pa _=>⟨Z',?_⟩⟩;have s2:qQ M1 M2:=λx c e=>kp x c (RI e hp) (t2 x c e);refine⟨ns,0,Z',_,_,_,Z',by decide,λb hb=>?_⟩;have t5:=qQ.new (c:=.ins a.c []) hb;have npb:p≠b:=λz=>by obtain⟨ph,gr,ws,Zb,pr,gd,rs,i1,_⟩:=pa;rw[z,hb]at i1;cases i1
 refine⟨b,p,_,[],l,Z',qp,pa.sub t5,ok,npb,(λx hx=>by cases hx),λM5 A eb kp fr bd=>⟨Z',M5,.refl,?_⟩⟩;obtain⟨cu,wf,ps⟩:=Lp.start ok pa hb eb kp fr bd;subst eb;exact q M2 M5 A p _ (s1.trans s2) cu wf ps
def Kw:Fq P w K mg base 1 a.bC (Ld a):=by
 refine fq G.bC.toDG zq (λr u=>⟨_,(pP (tF (i:=1) zq.nd Z' (Or.inl Z') Z' (xy (ix:=[Db]) (N':=["_law_phone"])) (qV (pV (pV v0))) (qP 0) su (qe v0 pS))
 (pR (pW (rh (sA U1 (qx U1 (qY Z' (xy (ix:=[Db]) (N':=["_law_group"])) (qV (pV (pV v0))) (qP 0) su (qe v0 pS)))))))),?_⟩)
 rintro ds M Q ⟨A,V,l,rfl,rd,q⟩
 have hz:=dR;have p8:=rd.ok.p8;have g3:=rd.ok.g3;have pl:l.pn.length=l.nj.length:=c9 ..;obtain⟨ph,gr,ws,Zb,pr,gd,rs,i1,i2,i3,_⟩:=rd.pl;refine pQ rd.bd.at_ (i' Z' (pQ i1 (i' Z' (i' i2 (rK (f:=Bu) i2 _ [] _ (by rw[c9];simp only[dS];omega) (λd hd k hk=>?_) λro hro=>?_)))))
 .obtain⟨x,_,rfl⟩:=dI.mp hd;exact hk
 rw[eC,wZ];have t3:=qQ.new (c:=.lst ((l.nj.map (·.1)).map D.str)) hro;have lo:pI (pX M ro (.lst ((l.nj.map (·.1)).map D.str))) ro=Fa (l.pn.map D.str):=pY;show zK (pX M ro (.lst ((l.nj.map (·.1)).map D.str)) A.b) _;generalize pX M ro (.lst ((l.nj.map (·.1)).map D.str))=M3 at lo t3 ⊢;refine pQ (t3 _ _ rd.bd.at_) (i' Z' (pQ (t3 _ _ i1) (i' Z' (i' (t3.lst i3) (rK (f:=Bu) (t3.lst i3) _ [] _ (by rw[c9];simp only[dS];omega) (λd hd k hk=>?_) λp hp=>?_)))))
 .obtain⟨x,_,rfl⟩:=dI.mp hd;exact hk
 rw[eC,xq];have t:=qQ.new (c:=.lst ((l.groups.map (·.1)).map D.str)) hp;refine i' (t.lst lo) (i' pY ⟨by rw[c9,c9,c9];omega,λrn hrn=>⟨pN Z',λr hr=>?_⟩⟩);have t2:=t.trans (.new (c:=.lst (l.pn.map D.str++(l.groups.map (·.1)).map D.str)) hrn);have t3':=t2.trans (.new (c:=.lst [D.ref ro,.ref rn]) hr);refine⟨_,.refl,q _ r ro rn (t3.trans t3') hro ((t3.trans t).none hrn) pY (t3'.lst lo) ((qQ.new hr).lst ?_)⟩;rw[pY,<-dY];rfl
def SW(a:Ad):rL:=λds M Q=>Br λL k c x=>ds=[.ref (rR.p k),.str x]/\rV a M L k c/\Mv lf c/\Q (.bl (c.hasB x)) M
def Qg:rL:=λds M Q=>∃x,ds=[.bl x,.bl x]/\Q (.bl pc) M
def pU.nF(c:pU)(x:Str):Bool:=(c.st=="held")&&(hasS c.ms x&&!((c.hd==Fa x)))
noncomputable def tP(is:T0 Nat):T0 D:=is.map λi=>D.int (i:Nat)
noncomputable def vC(f:pU->Bool)(cs:List pU):T0 Nat:=(List.range cs.length).filter λi=>(cs[i]?).elim lf f
def Od:rL:=λds M Q=>∃n:Int,ds=[.int n]/\Q (.bl pc) M
def Ng:rL:=λds M Q=>AU λr is=>ds=[.ref r]/\pI M r=Fa (tP is)/\Q (Ja is.head?) M
def Li:rL:=λds M Q=>∃o:Option Nat,ds=[Ja o,Ja o]/\Q (.bl pc) M
def Kl(a:Ad):rL:=λds M Q=>Br λA V l (v:ul)=>ds=[.ref (ui.b A),.str v.1,.int v.2.1]/\v∈l.nj/\Rd a M A V l/\WF l V/\V.calls.length<=10000/\Q (.bl pc) M
def Q6(a:Ad):rL:=λds M Q=>BV λA V l=>ds=[.ref (ui.b A)]/\Rd a M A V l/\WF l V/\V.calls.length<=10000/\V.ps.length<=3/\Q (.bl pc) M
def La(ok:sj l){v:ul}(hv:v∈l.nj):l.nM v.1=Fa v:=by
 obtain⟨u,hu⟩:=xc (dI.mpr ⟨v,hv,Z'⟩:v.1∈l.pn);rw[hu];unfold qc.nM at hu;have u1:u.1=v.1:=by simpa using kh hu
 obtain⟨i,hi,ei⟩:=gm (gb hu);obtain⟨j,hj,ej⟩:=gm hv;have:=IQ (f:=λp:ul=>p.1) (fY.mp ok.nd).1 (by rw[df hi,ei]) (by rw[df hj,ej]) u1;subst this;rw[<-ei,<-ej]
def MK{α:Type}{f:α->D}{xs:List α}{pre post:T0 D}{d:D}(e:pre++d::post=xs.map f):∃x,xs[pre.length]?=Fa x/\d=f x/\xs.take (pre.length+1)=xs.take pre.length++[x]:=by
 have h:(xs.map f)[pre.length]?=Fa d:=by rw[<-e];simp
 rw[dJ]at h;cases hx:xs[pre.length]? with
 | none=>rw[hx]at h;cases h
 | some x=>rw[hx]at h;refine⟨x,Z',(dB h).symm,?_⟩;rw[gS,hx];rfl
def Gz{f:pU->Bool}{c:pU}{r:List pU}:vC f (c::r)=(if f c=pc then[0]else[])++(vC f r).map Nat.succ:=by unfold vC;rw[eE,ku,gJ,gO];show(if f c=pc then _ else _)=_;cases f c<;>rfl
theorem zB{f:pU->Bool}:∀cs:List pU,(vC f cs).head?=cs.findIdx? f
 | []=>rfl
 | c::r=>by
  rw[Gz,lH];cases f c with
  | true=>rfl
  | false=>show((vC f r).map Nat.succ).head?=_;rw[List.head?_map,zB r];rfl
def xb{f:pU->Bool}{i:Nat}:i∈vC f cs↔∃c,cs[i]?=Fa c/\f c=pc:=by
 unfold vC;rw[fK,fW];constructor
 .rintro ⟨h,e⟩
  rw[df h]at e ⊢;exact⟨_,Z',e⟩
 .rintro ⟨c,e,h⟩
  rw[e];exact⟨(dh.mp e).1,h⟩
theorem Kc{f:pU->Bool}:∀cs:List pU,(!(vC f cs).isEmpty)=cs.any f
 | []=>rfl
 | c::r=>by
  rw[Gz,fU,<-Kc r];cases f c with
  | true=>rfl
  | false=>show(!((vC f r).map Nat.succ).isEmpty)=(!(vC f r).isEmpty);rw[List.isEmpty_map]
def Er{r p:Uf}(h:pI M r=Fa (tP is))(e0:pI M p=Fa []):zE M 9 (.ref r) (.ref p)=Fa is.isEmpty:=by show(pI _ _).bind (λi=>(pI _ p).bind λj=>if i.length=j.length then tj (zE _ 8) i j else Fa lf)=_;rw[h,e0];cases is<;>rfl
def K0{l m:T0 Nat}(h:∀i,i∈l↔i∈m)(u:∀i∈l,∀j∈l,i=j):l.head?=m.head?:=by
 cases l with
 | nil=>cases m with
  | nil=>rfl
  | cons b _=>exact nomatch (h b).mpr dO
 | cons a l=>cases m with
  | nil=>exact nomatch (h a).mp dO
  | cons b _=>exact eV Fa (u a dO b ((h b).mpr dO))
def Kx{V:qT}(wf:WF l V)(x:Str):(vC (·.nq x) V.calls++vC (·.nF x) V.calls).length<=1/\(vC (·.nq x) V.calls++vC (·.nF x) V.calls).head?=AH V x:=by
 have tb:∀c:pU,c.nq x=pc->c.nG x=pc:=λc h=>by unfold pU.nG;rw[dq λz=>by unfold pU.nq at h;rw[Ix z]at h;exact absurd (iy.mp h).1 (by decide+kernel),h]
 have hb:∀c:pU,c.nF x=pc->c.nG x=pc:=λc h=>by unfold pU.nF at h;obtain⟨h1,h2⟩:=iy.mp h;unfold pU.nG;rw[dw h1,h2]
 have m:∀i,i∈vC (·.nq x) V.calls++vC (·.nF x) V.calls↔i∈vC (·.nG x) V.calls:=λi=>by
  rw[eB,xb,xb,xb];constructor
  .rintro (⟨c,e,h⟩|⟨c,e,h⟩)
   .exact⟨c,e,tb c h⟩
   .exact⟨c,e,hb c h⟩
  .rintro ⟨c,e,h⟩
   unfold pU.nG at h;split at h
   .rename_i g;exact .inr ⟨c,e,by unfold pU.nF;rw[g,h];rfl⟩
   .exact .inl ⟨c,e,h⟩
 have u:∀i∈vC (·.nq x) V.calls++vC (·.nF x) V.calls,∀j∈vC (·.nq x) V.calls++vC (·.nF x) V.calls,i=j:=λi hi j hj=>by obtain⟨c,e,h⟩:=xb.mp ((m i).mp hi);obtain⟨d,e',h'⟩:=xb.mp ((m j).mp hj);exact wf.un i j c d x e e' (.inl h) (.inl h')
 have nd:(vC (·.nq x) V.calls++vC (·.nF x) V.calls).Nodup:=fY.mpr ⟨mC.filter _,mC.filter _,λi hi j hj z=>by
  subst z;obtain⟨c,e,h⟩:=xb.mp hi;obtain⟨d,e',h'⟩:=xb.mp hj;rw[e]at e';cases e';unfold pU.nq at h;unfold pU.nF at h';rw[Ix (iy.mp h).1]at h';exact absurd (iy.mp h').1 (by decide+kernel)⟩
 refine⟨?_,(K0 m u).trans (zB _)⟩;generalize vC (·.nq x) V.calls++vC (·.nF x) V.calls=L at u nd
 match L,u,nd with
 | [],_,_=>exact eQ _
 | [_],_,_=>exact dC _
 | a::b::r,u,nd=>exact absurd (dA.mpr (.inl (u a dO b (dM _ dO)))) (dZ.mp nd).1
def Ox{ms ns:T0 Int}(h:ms.Perm ns)(l:ns.length<=1):ms=ns:=by
 match ns,l with
 | [],_=>exact h.eq_nil
 | [a],_=>exact List.perm_singleton.mp h
def Fp(is js:T0 Nat):tP is++tP js=tP (is++js):=dY.symm
def GY(is:T0 Nat):tP is=(is.map λi:Nat=>(i:Int)).map D.int:=by unfold tP;rw[eA];rfl
def BK{tt:AE}{ok:Mp->Prop}{Q:DK}{n:Nat}{f:Nat->Bool}{tl:T0 (Option D)}(hn:n<=1000000)(nB:∀M',qQ M M'->ok M')(ht:∀i,i<n->∀M1,qQ M M1->∀(k k2:Mp->Prop),(∀M2,qQ M M2->f i=pc->k M2)->(∀M2,qQ M M2->f i=lf->k2 M2)->tt (Fa (.int (i:Nat))::tl) M1 λb M2=>if b=pc then k M2 else k2 M2) (hq:∀p M1,qQ M M1->M1 p=Db->Q (.ref p) (pX M1 p (.lst (tP ((List.range n).filter f))))):vi (uq 0) tt (v3 0) ok Q (tP (List.range n)) [] (Db::tl) M:=by
 have hz:=dR;refine vG (tP (List.range n)) (λpre acc U M'=>qQ M M'/\acc=tP (((List.range n).take pre.length).filter f)/\∃y,U=y::tl) (λ_ _ _ M' j=>nB M' j.1) _ [] [] _ _ Z' ?_ ⟨.refl,Z',Db,Z'⟩ ?_ ?_
 .unfold tP;rw[c9,eI];simp only[dS];omega
 .rintro pre d post e acc U M1 ⟨s1,ha,y,rfl⟩ k k2 hk YY
  obtain⟨i,ei,rfl,et⟩:=MK e;rw[dg,dX,et,ic]at hk YY;have hi:i<n:=fW.mp (rE ei);refine ht i hi M1 s1 (λM3=>v3 0 _ M3 (k _)) (λM3=>k2 _ M3) (λM2 s2 g=>?_) (λM2 s2 g=>?_)
  .refine hk _ _ _ ⟨s2,?_,_,Z'⟩;rw[ha,gD (by exact g),ie,<-Fp];rfl
  .refine YY _ _ ⟨s2,?_,_,Z'⟩;rw[ha,gF (by rw[g];decide),ie,e9]
 .rintro acc U M1 ⟨s1,ha,y,rfl⟩ p hp
  unfold tP at ha;rw[c9,fD]at ha;rw[ha];exact hq p M1 s1 hp
def BB{V:qT}(h:qh a M A V){i:Nat}(hi:i<V.calls.length):∃k c,A.cs[i]?=Fa k/\V.calls[i]?=Fa c/\rV a M (A.lists++V.fo) k c:=by have e1:A.cs[i]?=Fa (A.cs[i]'(by rw[h.len];exact hi)):=df _;have e2:V.calls[i]?=Fa V.calls[i]:=df hi;exact⟨_,_,e1,e2,h.cs _ _ _ e1 e2⟩
def RZ:Fq P w K mg base 1 a.bF (SW a):=by
 refine fq G.bF.toDG Ll (λr u=>⟨_,(pP (qm (pZ u (pV v0) pT)
 (pR (pW (GK (qy u (pV v0) U1) (sC (qy u U1 (pV v0))))))
 qd)
 (pP (qm (pZ u (pV v0) pT)
 (pR (pW (qy u (pV v0) U1)))
 qd)
 (pR (pW (qy u U1 (pV v0)))))),?_⟩)
 rintro ds M Q ⟨L,k,c,x,rfl,⟨ad,md,h1,h2,h3,h4,_⟩,st,q⟩
 unfold pU.hasB at q;refine pQ h1 (i' Z' ?_);refine qW (c:=c.st=="rings") (λg=>?_) (λg=>?_)
 .rw[dw g]at q;refine pQ h1 (i' Z' (qW (c:=c.cr==x) (λg2=>?_) (λg2=>?_)))
  .rw[show(x==c.cr)=pc by rw[Ix g2];exact fg _]at q;exact⟨M,.refl,q⟩
  .rw[show(x==c.cr)=lf from gj.mpr λz=>g2 (by rw[z];exact fg _),fO]at q;exact pQ h1 (i' Z' (AZ h3 ⟨M,.refl,q⟩))
 .rw[dq g]at q;refine pQ h1 (i' Z' ?_);refine qW (c:=c.st=="waits") (λg2=>?_) (λg2=>?_)
  .rw[dw g2,show(x==c.cr)=(c.cr==x)from jB ..]at q;exact pQ h1 (i' Z' ⟨M,.refl,q⟩)
  .rw[dq g2]at q;refine pQ h1 (i' Z' (AZ h4 ⟨M,.refl,?_⟩));rcases st with⟨e,_⟩|⟨_,⟨e,_⟩|⟨e,_⟩|⟨_,e,_⟩|⟨e,e2,_⟩⟩
   .exact absurd (by rw[e];rfl) g
   .exact absurd (by rw[e];rfl) g2
   .rw[e]at q;exact q
   .rw[e]at q;exact q
   .rw[e2];rw[e,e2]at q;exact q
def Ji:Fq P w K mg base 1 a.aj Qg:=by
 refine fq G.aj.toDG GG (λr u=>⟨_,(pR (pW (sW (qr AC Z' G.bZ ww (sA v0 (OE Z' G.b6 JO))) (sC (qy u v0 U1))))),?_⟩)
 rintro ds M Q ⟨x,rfl,q⟩
 refine⟨λC z=>(by cases z),i' G.cK (IS ⟨M,.refl,?_⟩)⟩;show Q (.bl (x==x)) M;rw[fg];exact q
def Ni:Fq P w K mg base 1 a.bE Od:=by
 refine fq G.bE.toDG FH (λr u=>⟨_,(pR (pW (sW (qr AC Z' G.bZ ww (sA v0 (OE Z' G.cO TU))) (sC (NS (qr AC Z' G.bZ ww (sA v0 (OE Z' G.b6 JO)))))))),?_⟩)
 rintro ds M Q ⟨x,rfl,q⟩
 refine⟨λC z=>(by cases z),i' G.cI (IS ⟨λC z=>(by cases z),i' G.cJ ⟨M,.refl,q⟩⟩)⟩
def C6:Fq P w K mg base 1 a.T Ng:=by
 refine fq G.T.toDG E1 (λr u=>⟨_,(pP (qm (pZ u v0 (rh tz))
 (pR (pW so))
 qd)
 (pR (pW (qe v0 pS)))),?_⟩)
 rintro ds M Q ⟨r,is,rfl,lr,q⟩
 refine⟨pN Z',λp hp=>?_⟩;have t:=qQ.new (c:=.lst []) hp;have e0:=@pY M p [];generalize pX M p (.lst [])=M1 at t e0 ⊢;refine i' (Er (t.lst lr) e0) ?_;cases is with
 | nil=>exact⟨M,t,q⟩
 | cons i r=>exact i' (t.lst lr) (i' (yN _ _) ⟨M,t,q⟩)
def yw:Fq P w K mg base 2 a.J Li:=by
 refine fq G.J.toDG DT (λr u=>⟨_,(pP (qm (pZ u U1 so)
 (pR (pW (qy u v0 so)))
 qd)
 (pR (pW (sW (qa (Ni G) r G.bE (qE v0)) (sC (qy u v0 U1)))))),?_⟩)
 rintro ds M Q ⟨o,rfl,q⟩
 cases o with
 | none=>exact⟨M,.refl,q⟩
 | some n=>refine⟨_,Z',⟨M,.refl,?_⟩⟩;show Q (.bl ((n:Int)==(n:Int))) M;rw[fg];exact q
def Kt:Fq P w K mg base 5 a.bG (Kl a):=by
 refine fq G.bG.toDG sQ (λr u=>⟨_,(pP (qg 3 sQ (pV v0))
 (pP (qg 4 sQ (EG Z' Z' G.z Z' G.ab (qE (qr qU Z' G.g qR (qE U3)))))
 (pP (qg 5 sQ (qr qU Z' G.g qR (qE (qY Z' (xy (ix:=[Db,Fa 1]) (N':=["_law_call","_law_phone"])) (qV U3) (qP 0) (uG (uz (qa (RZ G) r G.bF (sA v0 U1)))) v0))))
 (pP (qm (W3.b3 (yO (vd (uz (qa (yw G) r G.J (sA (qv v0 G.c.toCls G.ao (Js G) r (qE U1)) v5)))) (xS (vd (uz (qa (Ji G) r G.aj (sA (qv v0 G.c.toCls G.L (xg G) r (qE U1)) (qy u v5 U2))))))))
 (pR (pW wX))
 qd)
 (pP (tF (i:=6) sQ.nd Z' (Or.inl Z') Z' (xy (ix:=[Db,Fa 3,Fa 1]) (N':=["_law_k","_law_calls","_law_phone"])) (qV v4) (qP 0) (uG (W3.b3 (vo (pZ u (pV (qe U1 v0)) pT) (vh (pZ u U2 (pV (qe U1 v0))))))) v0)
 (pP (tF (i:=7) sQ.nd Z' (Or.inl Z') Z' (xy (ix:=[Db,Fa 3,Fa 1]) (N':=["_law_k","_law_calls","_law_phone"])) (qV v4) (qP 0) (uG (W3.b3 (vo (pZ u (pV (qe U1 v0)) pT) (vo (pZ u U2 (pV (qe U1 v0))) (vh (pZ u (pV (qe U1 v0)) U2)))))) v0)
 (pP (tF (i:=8) sQ.nd Z' (Or.inl Z') Z' (xy (ix:=[Db,Fa 3,Fa 1]) (N':=["_law_k","_law_calls","_law_phone"])) (qV v4) (qP 0) (uG (W3.b3 (vo (pZ u (pV (qe U1 v0)) (qk (sA pT pT))) (vh (pZ u (pV (qe U1 v0)) U2))))) v0)
 (pP (tF (i:=9) sQ.nd Z' (Or.inl Z') Z' (xy (ix:=[Db,Fa 3,Fa 1]) (N':=["_law_k","_law_calls","_law_phone"])) (qV v4) (qP 0) (uG (W3.b3 (vo (pZ u (pV (qe U1 v0)) pT) (vh (pZ u (pV (qe U1 v0)) (rh (qE U2))))))) v0)
 (pP (qm (vd (uz (qa (yw G) r G.J (sA (qv v0 G.c.toCls G.M (xm G) r (qE U1)) (qa (C6 G) r G.T (qE v6))))))
 (pR (pW wX))
 qd)
 (pP (qm (vd (uz (qa (yw G) r G.J (sA (qv v0 G.c.toCls G.ap (Hy G) r (qE U1)) (qa (C6 G) r G.T (qE (qr KU Z' G.b5 D9 (qE (qx v6 v7)))))))))
 (pR (pW wX))
 qd)
 (pR (pW (sW (qa (yw G) r G.J (sA (qv v0 G.c.toCls G.aq (CD G) r (qE U1)) (qa (C6 G) r G.T (qE v8)))) (sC (qa (Ji G) r G.aj (sA (qv v0 G.c.toCls G.ar (AO G) r (qE U1)) (qy u v9 (rh tz)))))))))))))))))),?_⟩)
 rintro ds M Q ⟨A,V,l,v,rfl,hv,rd,wf,hk,q⟩
 have hz:=dR;have hL:(A.cs.map λk=>D.ref k.p).length=V.calls.length:=by rw[c9,rd.bd.len]
 have hx:v.1∈l.pn:=dI.mpr ⟨v,hv,Z'⟩;refine pQ rd.bd.at_ (i' Z' (i' rd.bd.ca ⟨_,Z',by rw[hL];omega,λpn hpn=>?_⟩));rw[hL];have s1:=qQ.new (c:=.lst ((List.range V.calls.length).map λi=>D.int (i:Nat))) hpn;have ln:pI (pX M pn (.lst ((List.range V.calls.length).map λi=>D.int (i:Nat)))) pn=Fa (tP (List.range V.calls.length)):=pY;generalize pX M pn (.lst ((List.range V.calls.length).map λi=>D.int (i:Nat)))=M1 at s1 ln ⊢;have YO:=rd.sub s1;refine i' YO.bd.ca ?_;refine vG (A.cs.map λk=>D.ref k.p) (λpre acc U M2=>M1=M2/\acc.length=((V.calls.take pre.length).filter (·.hasB v.1)).length/\∃y,U=[y,Fa (.str v.1)]) (λ_ _ _ M' j=>by rw[<-j.1];exact YO.bd.ca) _ [] [] _ _ Z' ?_ ⟨Z',Z',Db,Z'⟩ ?_ ?_
 .rw[hL];simp only[dS];omega
 .rintro pre d post e acc U _ ⟨rfl,ha,y,rfl⟩ k k2 hk YY
  obtain⟨ka,c0,e3,e2,rfl,hc,et⟩:=BA YO.bd e;rw[dg,dX,et,ic]at hk YY;refine⟨_,ka,c0,v.1,Z',hc,(wf.ok _ c0 e2).sh,?_⟩;refine qW (c:=c0.hasB v.1) (λg=>?_) (λg=>?_)
  .refine hk _ _ _ ⟨Z',?_,_,Z'⟩;rw[dg,dg,ha,gD (by exact g)];rfl
  .refine YY _ _ ⟨Z',?_,_,Z'⟩;rw[dg,ha,gF (by exact g)];rfl
 rintro acc U _ ⟨rfl,ha,y,rfl⟩ p2 XT
 rw[hL,fD]at ha;have ha:acc.length=uU V v.1:=ha;have t2:=qQ.new (c:=.lst acc) XT;refine i' pY ?_;rw[ha];have Yy:=YO.sub t2;have ln:=t2.lst ln;have s2:=s1.trans t2;clear ha;generalize pX M1 p2 (.lst acc)=M2 at Yy ln s2 ⊢;clear t2 XT s1 YO;have ef:tN l V v.1=decide ((uU V v.1:Int)<v.2.1):=by unfold tN;rw[Gv (La rd.ok hv)]
 refine pQ Yy.bd.at_ ⟨Z',_,⟨Z',Z'⟩,A,V,v.1,Z',Yy.bd,rd.k,Fa (uU V v.1),Z',?_⟩;refine pQ Yy.bd.at_ ⟨Z',_,⟨Z',Z'⟩,A,V,l,v.1,Z',Yy,hx,tN l V v.1,by rw[ef],An ?_⟩;refine i' ln (BK (f:=λi=>(V.calls[i]?).elim lf (·.nq v.1)) (by omega) (λM' s=>s.lst ln) (λi hi M3 s3 k k2 h1 h2=>?_) λp3 M3 s3 YX=>?_)
 .obtain⟨ka,c0,e1,e2,ad,md,g1,g2,g3,g4,_⟩:=BB (Yy.sub s3).bd hi;simp only[e2,Option.elim]at h1 h2;unfold pU.nq at h1 h2;refine i' (Yy.sub s3).bd.ca (i' (qZ e1) (pQ g1 (i' Z' (qW (c:=c0.st=="talks") (λg=>?_) (λg=>?_)))))
  .refine i' (Yy.sub s3).bd.ca (i' (qZ e1) (pQ g1 (i' Z' (i' g4 ⟨Z',qJ _,?_⟩))));show if inD (.str v.1) (c0.ms.map D.str)=pc then _ else _
   rw[sH];exact qW (c:=hasS c0.ms v.1) (λg'=>h1 _ s3 (by rw[g,g'];rfl)) (λg'=>h2 _ s3 (by rw[dH.mpr g',mL]))
  .exact An (h2 _ s3 (by rw[dH.mpr g];rfl))
 have t:=s3.trans (qQ.new (c:=.lst (tP (vC (·.nq v.1) V.calls))) YX);have lt:=@pY M3 p3 (tP (vC (·.nq v.1) V.calls));show ur _ _ _ _ (pX M3 p3 (.lst (tP (vC (·.nq v.1) V.calls))));generalize pX M3 p3 (.lst (tP (vC (·.nq v.1) V.calls)))=M4 at t lt ⊢;have rd4:=Yy.sub t;have ln:=t.lst ln;have s4:=s2.trans t;clear t YX s3
 rename Uf=>pt
 refine i' ln (BK (f:=λi=>(V.calls[i]?).elim lf (·.nF v.1)) (by omega) (λM' s=>s.lst ln) (λi hi M3 s3 k k2 h1 h2=>?_) λp3 M3 s3 YX=>?_)
 .obtain⟨ka,c0,e1,e2,ad,md,g1,g2,g3,g4,_⟩:=BB (rd4.sub s3).bd hi;simp only[e2,Option.elim]at h1 h2;unfold pU.nF at h1 h2;refine i' (rd4.sub s3).bd.ca (i' (qZ e1) (pQ g1 (i' Z' (qW (c:=c0.st=="held") (λg=>?_) (λg=>?_)))))
  .refine i' (rd4.sub s3).bd.ca (i' (qZ e1) (pQ g1 (i' Z' (i' g4 ⟨Z',qJ _,?_⟩))));show if inD (.str v.1) (c0.ms.map D.str)=pc then _ else _
   rw[sH];refine qW (c:=hasS c0.ms v.1) (λg'=>?_) (λg'=>An (h2 _ s3 (by rw[dH.mpr g',eW,mL])));refine i' (rd4.sub s3).bd.ca (i' (qZ e1) (pQ g1 (i' Z' ?_)));rw[g,g']at h1 h2;cases e:c0.hd with
   | none=>rw[e]at h1;exact h1 _ s3 Z'
   | some y=>rw[e]at h1 h2;exact qW (c:=!(y==v.1)) (λg2=>h1 _ s3 g2) (λg2=>h2 _ s3 (dH.mpr g2))
  .exact An (h2 _ s3 (by rw[dH.mpr g];rfl))
 have t:=s3.trans (qQ.new (c:=.lst (tP (vC (·.nF v.1) V.calls))) YX);have lh:=@pY M3 p3 (tP (vC (·.nF v.1) V.calls));show ur _ _ _ _ (pX M3 p3 (.lst (tP (vC (·.nF v.1) V.calls))));generalize pX M3 p3 (.lst (tP (vC (·.nF v.1) V.calls)))=M5 at t lh ⊢;have rd5:=rd4.sub t;have ln:=t.lst ln;have lt:=t.lst lt;have s5:=s4.trans t;clear t YX s3
 rename Uf=>ph
 refine i' ln (BK (f:=λi=>(V.calls[i]?).elim lf (·.nE v.1)) (by omega) (λM' s=>s.lst ln) (λi hi M3 s3 k k2 h1 h2=>?_) λp3 M3 s3 YX=>?_)
 .obtain⟨ka,c0,e1,e2,ad,md,g1,g2,g3,g4,_⟩:=BB (rd5.sub s3).bd hi;simp only[e2,Option.elim]at h1 h2;unfold pU.nE at h1 h2;refine i' (rd5.sub s3).bd.ca (i' (qZ e1) (pQ g1 (i' Z' ⟨pN Z',Z',Z',?_⟩)));show if inD (.str c0.st) [.str "rings",.str "waits"]=pc then _ else _
  rw[WW];refine qW (c:=c0.st=="rings"||c0.st=="waits") (λg=>?_) (λg=>An (h2 _ s3 (by rw[dH.mpr g];rfl)));rw[g,eL,jB]at h1 h2;exact i' (rd5.sub s3).bd.ca (i' (qZ e1) (pQ g1 (i' Z' (qW (c:=c0.cr==v.1) (λg=>h1 _ s3 g) (λg=>h2 _ s3 (dH.mpr g))))))
 have t:=s3.trans (qQ.new (c:=.lst (tP (vC (·.nE v.1) V.calls))) YX);have lr:=@pY M3 p3 (tP (vC (·.nE v.1) V.calls));show ur _ _ _ _ (pX M3 p3 (.lst (tP (vC (·.nE v.1) V.calls))));generalize pX M3 p3 (.lst (tP (vC (·.nE v.1) V.calls)))=M6 at t lr ⊢;have rd6:=rd5.sub t;have ln:=t.lst ln;have lt:=t.lst lt;have lh:=t.lst lh;have s6:=s5.trans t;clear t YX s3
 rename Uf=>pr
 refine i' ln (BK (f:=λi=>(V.calls[i]?).elim lf (·.ny v.1)) (by omega) (λM' s=>s.lst ln) (λi hi M3 s3 k k2 h1 h2=>?_) λp3 M3 s3 YX=>?_)
 .obtain⟨ka,c0,e1,e2,ad,md,g1,g2,g3,g4,_⟩:=BB (rd6.sub s3).bd hi;simp only[e2,Option.elim]at h1 h2;unfold pU.ny at h1 h2;refine i' (rd6.sub s3).bd.ca (i' (qZ e1) (pQ g1 (i' Z' (qW (c:=c0.st=="waits") (λg=>?_) (λg=>An (h2 _ s3 (by rw[dH.mpr g];rfl)))))));refine i' (rd6.sub s3).bd.ca (i' (qZ e1) (pQ g1 (i' Z' ⟨pN Z',λp2 XT=>?_⟩)));obtain⟨x,ex⟩:∃x,c0.at_=[x]:=by
   have g:c0.st="waits":=Ix g;rcases(wf.ok _ c0 e2).sh with⟨e,_⟩|⟨_,⟨_,_,_,_,e⟩|⟨e,_⟩|⟨_,e,_⟩|⟨e,_⟩⟩
   .rw[g]at e;exact absurd e (by decide+kernel)
   .match ZX:c0.at_,e with
    | [x],_=>exact⟨x,Z'⟩
   .rw[g]at e;exact absurd e (by decide+kernel)
   .rw[g]at e;exact absurd e (by decide+kernel)
   .rw[g]at e;exact absurd e (by decide+kernel)
  have t:=qQ.new (c:=.lst [D.str v.1]) XT;have ew:hasS c0.at_ v.1=(x==v.1):=by unfold hasS;rw[ex,fU,mU,jA]
  rw[g,ew,eL]at h1 h2;rw[ex]at g3;have ee:zE (pX M3 p2 (.lst [D.str v.1])) 9 (.ref ad) (.ref p2)=Fa (x==v.1):=by show(pI _ _).bind (λi=>(pI _ p2).bind λj=>if i.length=j.length then tj (zE _ 8) i j else Fa lf)=_;rw[t.lst g3,pY];show Fa ((x==v.1)&&pc)=_;rw[mM]
  exact i' ee (qW (c:=x==v.1) (λg2=>h1 _ (s3.trans t) g2) (λg2=>h2 _ (s3.trans t) (dH.mpr g2)))
 have t:=s3.trans (qQ.new (c:=.lst (tP (vC (·.ny v.1) V.calls))) YX);have lw:=@pY M3 p3 (tP (vC (·.ny v.1) V.calls));show ur _ _ _ _ (pX M3 p3 (.lst (tP (vC (·.ny v.1) V.calls))));generalize pX M3 p3 (.lst (tP (vC (·.ny v.1) V.calls)))=M7 at t lw ⊢;have rd7:=rd6.sub t;have lt:=t.lst lt;have lh:=t.lst lh;have lr:=t.lst lr;have s7:=s6.trans t;clear t YX s3
 rename Uf=>pw
 refine pQ rd7.bd.at_ ⟨Z',_,⟨Z',Z'⟩,A,V,v.1,Z',rd7.bd,rd.k,_,_,Z',lt,vU V v.1,by rw[zB];rfl,An ?_⟩;obtain⟨b1,b2⟩:=Kx wf v.1;refine pQ rd7.bd.at_ ⟨Z',_,⟨Z',Z'⟩,A,V,v.1,Z',rd7.bd,rd.k,i' lt (i' lh ⟨?_,λp8 hp8=>?_⟩)⟩
 .rw[<-dg,Fp];unfold tP;rw[c9];omega
 rw[Fp];refine⟨_,pY.trans (eV Fa (GY _)),by rw[c9];omega,λms p9 hp9 pe _=>?_⟩;obtain rfl:=Ox pe (by rw[c9];exact b1);rw[<-GY];refine⟨p9,_,Z',pY,AH V v.1,by rw[b2];rfl,An ?_⟩;have t:=(qQ.new (c:=.lst (tP (vC (·.nq v.1) V.calls++vC (·.nF v.1) V.calls))) hp8).trans (.new (c:=.lst (tP (vC (·.nq v.1) V.calls++vC (·.nF v.1) V.calls))) hp9);have rd9:=rd7.sub t;have lr:=t.lst lr;have lw:=t.lst lw;have s9:=s7.trans t;show zK (pX (pX M7 p8 _) p9 _ A.b) _;generalize pX (pX M7 p8 (.lst (tP (vC (·.nq v.1) V.calls++vC (·.nF v.1) V.calls)))) p9 (.lst (tP (vC (·.nq v.1) V.calls++vC (·.nF v.1) V.calls)))=M9 at rd9 lr lw s9 ⊢;refine pQ rd9.bd.at_ ⟨Z',_,⟨Z',Z'⟩,A,V,v.1,Z',rd9.bd,rd.k,_,_,Z',lr,GC V v.1,by rw[zB];rfl,IS ?_⟩;refine pQ rd9.bd.at_ ⟨Z',_,⟨Z',Z'⟩,A,V,v.1,Z',rd9.bd,rd.k,pN Z',λp0 hp0=>?_⟩;have t0:=qQ.new (c:=.lst []) hp0;refine i' (Er (t0.lst lw) pY) ⟨zV V v.1,by rw[Kc];rfl,M,s9.trans t0,q⟩
def Kk:Fq P w K mg base 6 a.ak (Q6 a):=by
 refine fq G.ak.toDG sZ (λr u=>⟨_,(pP (qg 1 sZ (qa (B7 G) r G.ad (qE v0)))
 (pP (vq fC Z' (qV (pV (pV v0))) (vp (n:=3) Z' (qN (rS 2 sZ) (qN (rS 3 sZ) (qN (rS 4 sZ) tZ))))
 (pR (qm (vd (uz (qa (Kt G) r G.bG (rO v0 U2 U3))))
 (pR (pW wX))
 qd)))
 (pR (pW (qy u (qa (B7 G) r G.ad (qE v0)) U1))))),?_⟩)
 .rintro ds M Q ⟨A,V,l,rfl,rd,wf,hk,h3,q⟩
  obtain⟨ph,gr,ws,Zb,pr,gd,rs,i1,i2,_⟩:=rd.pl;refine⟨A,V,Z',rd.bd,hk,h3,pQ rd.bd.at_ (i' Z' (pQ i1 (i' Z' (i' i2 ?_))))⟩;refine xD (l.nj.map rD) (λpre U M'=>M=M'/\∃y2 y3 y4,U=[Fa (.ref A.b),Fa (R6 V),y2,y3,y4]) (λ_ _ M' j=>by rw[<-j.1];exact i2) _ [] _ _ Z' ⟨Z',Db,Db,Db,Z'⟩ ?_ ?_
  .rintro pre d post e U _ ⟨rfl,y2,y3,y4,rfl⟩ nx XY
   obtain⟨v,ev,rfl,et⟩:=MK e;refine⟨Z',?_⟩;dsimp only[uq,zd,Ef];exact⟨A,V,l,v,Z',rE ev,rd,wf,hk,An (XY _ _ ⟨Z',_,_,_,Z'⟩)⟩
  .rintro U _ ⟨rfl,y2,y3,y4,rfl⟩
   exact⟨A,V,Z',rd.bd,hk,h3,i' Z' (i' (Hh 8 _ (Oy V)) ⟨M,.refl,q⟩)⟩
seal L3.E3 L3.B3 L3.A3 L3.S3 L3.IA
def Mh:rL:=λds M Q=>∃ns:T0 Int,ds=[.rl (ns.map D.int)]/\ns.length<=63/\Q (.bl pc) M
def Sx:Fq P w K mg base 17 a.al Mh:=by
 refine fq G.al.toDG BW (λr u=>⟨_,(pP (qg 1 BW (qa (SC G) r G.bB (sA v0 pS)))
 (pP (Ik (qa (Kw G) r G.bC (qE U1)) (Pj (n:=2) Z' (qN (rS 2 BW) (qN (rS 3 BW) tZ))))
 (pP (vq fC Z' (qV (sR v0 (tI pS) (tI pS))) (rS 4 BW)
 (pP (qm (vd (uz (qa (Kk G) r G.ak (qE U1))))
 (pR (pW wX))
 qd)
 (pR (ql (qa (Qf G) r G.bD (sA U1 (qa (NF G) r G.bA (qz U1 (rO v4 U2 U3)))))))))
 (pR (pW (qa (Kk G) r G.ak (qE U1))))))),?_⟩)
 rintro ds M Q ⟨ns,rfl,hns,q⟩
 have hz:=dR;refine⟨ns,6,Z',by decide,by decide,λM0 M1 A p h s0 cu wf ps=>?_⟩;have p2:2<=(vO ns 6).nj.length:=HJ (by decide) (by decide);generalize vO ns 6=l at cu wf ps p2;generalize V0 p h l []=V at cu wf ps;have p8:=cu.ok.p8;have g3:=cu.ok.g3;have pl:l.pn.length=l.nj.length:=c9 ..;have nl:l.nm.length=l.nj.length+l.groups.length:=by unfold qc.nm qc.pn qc.gn;rw[dg,c9,c9]
 obtain⟨o0,or',eo⟩:∃o0 r,l.pn=o0::r:=fV λz=>by rw[z]at pl;simp only[dS]at pl;omega
 refine⟨A,V,l,Z',cu.rd (by decide) wf,λM2 r ro rn s2 hro hrn lr lo ln=>i' lr ⟨Z',?_⟩⟩;dsimp only[uq,zd,Ef];have nro:=cu.bd.oB hro;have nrn:=cu.bd.oB hrn;refine λsl ZH=>i' pY ?_;have t7:=qQ.new (c:=.lst (L3.ut (ns.map D.int) (Fa 1) (Fa 64))) ZH;have l7:=@pY M2 sl (L3.ut (ns.map D.int) (Fa 1) (Fa 64));have hL:(L3.ut (ns.map D.int) (Fa 1) (Fa 64)).length<=63:=by unfold L3.ut;rw[fT,gw,c9];omega
 have hLi:∀d∈L3.ut (ns.map D.int) (Fa 1) (Fa 64),∃c,d=.int c:=λd hd=>by unfold L3.ut at hd;obtain⟨c,_,rfl⟩:=dI.mp (jf (je hd));exact⟨c,Z'⟩
 generalize L3.ut (ns.map D.int) (Fa 1) (Fa 64)=L at t7 l7 hL hLi ⊢;have n7:sl∉A.foot:=(cu.sub s2).bd.oB ZH;have lo:=t7.lst lo;have ln:=t7.lst ln;have s7:=s2.trans t7;generalize pX M2 sl (.lst L)=M3 at l7 lo ln s7 ⊢;have i9:=Lp.mk0 (cu.sub s7) wf ps;have l7:=FR l7 n7;have lo:=FR lo nro;have ln:=FR ln nrn;generalize L4 A M3=N at i9 l7 lo ln;have eb:A.b=A.b:=rfl;generalize hb:A.b=b at i9 ⊢;refine xD L (λpre U M'=>(∃A V,Lp a M0 N M' b A V l pre.length)/\∃y4,U=[Fa (.rl (ns.map D.int)),Fa (.ref b),Fa (.ref ro),Fa (.ref rn),y4]) (λ_ _ M' j=>by obtain⟨A,V,g⟩:=j.1;exact g.s.lst l7) _ [] _ _ Z' ⟨⟨A,V,i9⟩,Db,Z'⟩ ?_ ?_
 .clear i9 n7 s7 t7 ZH eb cu wf ps hb lr nro nrn hro hrn
  rintro pre d post e U M' ⟨⟨A,V,g⟩,y4,rfl⟩ nx2 XY
  have hx:L[pre.length]?=Fa d:=by rw[<-e];simp
  have pl5:pre.length<63:=dU (dh.mp hx).1 hL;obtain⟨c0,rfl⟩:=hLi d (rE hx);rw[dg,dX]at XY;dsimp only[uq,zd,Ef];have eb:=g.cu.b;subst eb;have hl:=g.cu.sz.ca;refine⟨A,V,l,Z',g.rd (by omega),g.wf,by omega,g.ps,An ?_⟩;refine⟨A,V,l,_,ro,rn,l.pn,l.nm,Z',g.rd (by omega),g.wf,λk hk=>(g.cu.sz.cs k hk).2.1,g.s.lst lo,g.s.lst ln,λz=>by rw[z]at pl;simp only[dS]at pl;omega,λz=>by rw[z]at nl;simp only[dS]at nl;omega,by omega,by omega,λM2 e s f=>?_⟩;have g:=g.sub s;exact⟨M0,A.b,A,V,l,_,_,e,Z',g.cu,by omega,by omega,g.wf,f,λhr M3 A3 r c3 Yv ZN=>XY _ _ ⟨⟨A3,_,(g.after (by omega) f hr c3 Yv).sub (.new ZN)⟩,_,Z'⟩,λ_ _=>XY _ _ ⟨⟨A,V,g.nR⟩,_,Z'⟩⟩
 .rintro U M' ⟨⟨A2,V2,g⟩,y4,rfl⟩
  have eb:=g.cu.b;subst eb;have hl:=g.cu.sz.ca;exact⟨A2,V2,l,Z',g.rd (by omega),g.wf,by omega,g.ps,M,s0.trans g.cu.s0,q⟩
end
end Z
end
structure PySem.W.Fast:Prop where(tw9777961947664705978 tw9508417723626801562 tw9221985428793623101 tw8698909291014569561 tw8225926500952346132 tw8179632811574366655 tw8104966720420967917 tw7966274025444112061 tw7124040193061870276 tw6430906152191717127 tw5574868591430655903 tw5524260424258970086 tw4636029721616470042 tw2588578599182812778 tw2533864071824802121 tw18424446796052388362 tw17604647575520095439 tw17285328083078380309 tw17248168921056836183 tw17113965457196583168 tw16997737514517719666 tw15796124788420441498 tw1470012794710008605 tw14337176446236710167 tw13674120391007202634 tw12656969421999704904 tw12575691549921578747 tw11270582393215405474 tw10984158750783027421 tw10555037932147261084 tw7386784479915775442 tw6145131988555128001 tw7800424923791905141 tw17051905956841636705 tw5412748560455929472 tw11173866919520750203 tw17940672075923924450 tw16508463808034635688 tw17027439304675709604 tw18440135050888980271 tw1879017773617043598 tw764684518224331491 tw3165896345298073658 tw15741483898398264246 tw16058572672071497668 tw3552179142080854483 tw12849591795194728901 tw12788543266339938689 tw9763339319152045581 tw12964541752933667023 tw12925849485699350060 tw6840170795486567613 tw15668054851851099545 tw14405437547402707389 tw4808437283785099030 tw569397343223473618 tw11124114283920403397 tw3124986857135879035 tw46582434300723719 tw13481518327760125555 tw17356763993939211352 tw1154426337516238877 tw1413553784804378280 tw1840269025132444151 tw7351057443060232734 tw13190096082489671828 tw15106360716418571231 tw6268307527358342326 tw9724523038104727782 tw5742884881637747797 tw10066478989428861588 tw12287139883474550745 tw8631143345007345303 tw7263878169286391706 tw12734117433789277771 tw3553536915556156970 tw1118257221602407357 tw16551068514871644233 tw11907948895414911906 tw11836747504288565166 tw10656135728813337793 tw17175144482743377138 tw15510540099237477018 tw16761357521620702773 tw11781565461051674349 tw2539807395486464939 tw8365103681082319488 tw12930331382282919871 tw13660815597552495069 tw17263120377250243433 tw8705939734842387155 tw8396984669199906937 tw16167160197064877757 tw4096772475238479434 tw8326462550408466729 tw16893610599109932436 tw16912725711257552447 tw13557703307224429794 tw8320502416775099736 tw1542103395344154336 tw4019136825376801100 tw2250863344551928609 tw15451045143856935300 tw15413715767184745242 tw11600432379556437742 tw16071176339450016156 tw7574049513642297479 tw2468431035061705844 tw10444111424975158966 tw17918906571032630133 tw14575230778681836373 tw17630911048346731166 tw8790214586784299073 tw12814582687318432677 tw9524009334503056307 tw13584725209648374089 tw11193500670006436547 tw13775242359388794404 tw17800891598171072086 tw12791485341402595744 tw6616860873383951469 tw8299265050938553640 tw989282827424122851 tw7433337495475577319 tw13865786115525705192 tw13542884199540847933 tw6489931741233215695 tw2728333833260892746 tw18143266133270464428 tw11670493276763863996 tw45314082369340580 tw8579577180432057112 tw15103043701742336532 tw770390566867195809 tw4842559753470290058 tw15402263559269373492 tw11670642804786606572 tw9695577759222068105 tw10446115570392706317 tw10088401235627637707 tw11858570160290975503 tw5109275581049468546 tw11115617673410028500 tw9005726582947105849 tw1211217879292578688 tw13281464298038835419 tw12517598997542891464 tw14064101947306464196 tw11616774129153795502 tw9014716214430852106 tw1367687977324951079 tw8873708955584544167 tw5259241736031582570 tw7156418723102638845 tw13956470096888600138 tw9338901448856344987 tw17447242795059948635 tw2732228540999344448 tw9772829277273534495 tw16702537613278960583 tw686671435425444273 tw17939016590173778188 tw822833922586229812 tw1212452485456734831 tw11377360748200066620 tw10894873821123590397 tw2794386352934960576 tw500002677778265786 tw5616387872951886178 tw8062818579842673161 tw182343585774343901 tw5490292897302919501 tw6023871320398861848 tw5309229289023530418 tw12783651422579792300 tw11544606817568563587 tw1315788103468865416 tw5942279000377888072 tw8513074146437313108 tw16460716704453904589 tw8590780513742684495 tw14534824213687459849 tw14293727670239729857 tw12278519377874930581 tw11390502216842119103 tw13965538423215216855 tw9108739891958861066 tw14078951790952644756 tw16909896693235697332 tw13661593633597586613 tw12972532448977489922 tw5244220776330432624 tw14596048925153741961 tw16839393103103324211 tw14758435624688677880 tw10154497764658881003 tw13424055382186099005 tw2958573047057001936 tw18176767678822817728 tw6209434642991220836 tw12108757468778341657 tw14796978657245953074 tw2579232298316226238 tw16784080353420559871 tw3345091776493585630 tw7205042568326824084 tw18198159072129152214 tw3173117342212831591 tw2732670676068562196 tw6187461399848078961 tw14374282983051730633 tw10502519977594494375 tw7777220102394809877 tw8115486335516268566 tw11275719262256241778 tw16981112807715164447 tw17260808428188351128 tw615994727061810368 tw14138495261002630761 tw8933419971383183984 tw15532512593039019072 tw5426572552665279768 tw13580736159394887132 tw4102080823846210675 tw9554909178383039082 tw15628610454659363830 tw8691705387210891313 tw12809458080628434640 tw3794614201597339323 tw12714530590258852035 tw18062935496605221760 tw13371650171591530600 tw12156884741420348040 tw8673364990740437394 tw16737124703540889702 tw13053737340721023705 tw8349711294159620940 tw10869651240565586883 tw15555160205523701154 tw8000528333519906015 tw13648145047854718159 tw611401612772137590 tw7292777689181014135 tw18944904673969508 tw6589589040721094844 tw7089578978339946746 tw9182766121322705853 tw1783334507274807381 tw16441490425086643505 tw17095610712615963461 tw6353279679229553890 tw15617976845937869839 tw9812036151164070970 tw12181370842214876138 tw941522094320195888 tw8635737447034961706 tw16502872312478959433 tw7922663433011222008 tw6079570300069870204 tw2738074348657113134 tw8817959493105666634 tw8516924815736026468 tw3004396627344993377 tw10842235246817988181 tw8099342397423113040 tw4341295565878475182 tw4289215418552005016 tw4089257208142380372 tw2956418039554341777 tw11144202950121423835 tw13239980675047063883 tw15648312290036333120 tw17646161649102582603 tw5001450032751026221 tw16087773462098173939 tw10916266639556974740 tw11931112282977957340 tw13265369856592841465 tw5536724594686692286 tw12197957071056577023 tw9377149580335671486 tw14740284906149646254 tw14027873268764211823 tw6806174859297173912 tw7264697128560628018 tw1705599716116972994 tw14320785029417727253 tw6986998521729112920 tw272754973939347229 tw169444345854546848 tw12535597818638364529 tw12160687793240043394 tw7205780315322241928 tw3365790726339694784 tw14081747862363914974 tw902793194001590131 tw11137179775055743456 tw10058127939887457394 tw4643485611280642262 tw12491452067022468732 tw2616854081744351720 tw18357420863169307923 tw10394906894771606425 tw10386575269943240036 tw8379381172710764527 tw8700087520306528522 tw1098088206073917823 tw3239609784996200364 tw3131137957667632528 tw1870211506476692427 tw1068107455295206538 tw9662137475314996571 tw16330892474796943103 tw4270588534809111737 tw8501528834214493463 tw6192231479122130920 tw14292307826083093960 tw8051854633929998697 tw14348667412755509430 tw12282503225104320578 tw4437764237026207739 tw4270385066219000487 tw12669067368723736756 tw13854065587389204802 tw2842410669288076377 tw2609804485039238071 tw16283331132551828249 tw10014608538246543402 tw7607945123848403489 tw3148774613831593281 tw14568311211260713145 tw15778452549707194243 tw15155586734448528222 tw16061608406687697151 tw8019641253726883267 tw2371750160484527729 tw17739911120592626819 tw3154496512918301904 tw16304783469841028639 tw2435315521220678067 tw1350822265629162539 tw1739010025568633941 tw12314373999325579513 tw5031442179410323285 tw10088376077755583053 tw18180407938253421311 tw6697117454425074518 tw1010909362584595149 tw17002222261042643403 tw2713065563983001661 tw13925146296143187876 tw8578527961073916723 tw11438621285685928773 tw6475763480413875583 tw12037591321480271256 tw1363639691750421197 tw16097137590056004103 tw11571852540749523800 tw6369188147458199716 tw130878499004193026 tw6746063979400178137 tw8567833553249949470 tw3658898054066226070 tw2675959169785933480 tw8004285176107114597 tw11162609601167437448 tw1086926679116154482 tw4824094451033893843 tw9884790900197917774 tw12179524257429616607 tw14102524235148483003 tw2638117936187449644 tw4327362577367408621 tw14640184018394972978 tw4436048662774110221 tw15794602672616783067 tw14500122482686404647 tw11866145745075503007 tw15179487137281128074 tw15566143184535314811 tw4858914330352090567 tw2550134761763909898 tw12615231238869990476 tw17037866660570628191 tw8392603010903267690 tw6469652002448577293 tw4392262428409565727 tw15998752225445073110 tw8691236894959643646 tw17596557551443046157 tw1329975957530245969 tw13003124611603461734 tw9532732742720359604 tw6703280146373435886 tw7850828664133275519 tw4231643412263294393 tw13549270723807026206 tw10033458008404755763 tw220023224234537974 tw6267076874848389579 tw5500986245914453182 tw14639552843471956477 tw5568368605819141153 tw15643226802524352836 tw14780332195616212473 tw14389405145368072240 tw13267339677295983564 tw12869622509150724606 tw4032332335548792707 tw1844297948843300519 tw13553571947628775243 tw9468608660984627071 tw7745129868800220179 tw560681429297816193 tw4371479788435003346 tw17817602520647927823 tw10173257780522637289 tw2009833540215181784 tw13220010177721344677 tw5694093176570604099 tw17563155752807494696 tw17130225667163036416 tw14341231436999118913 tw13680444257041375852 tw10321441725884974509 tw14416043528337645328 tw4930132550014537317 tw1844091329585484938 tw10005225441381192483 tw7142131123481421438 tw14455277057824444533 tw14110524707806355705 tw13131877968873399785 tw4837972759545793248 tw11712565691383715414 tw4167773051518498467 tw1669970725462076280 tw15894159792229233452 tw2384632531856337179 tw13410333005731881948 tw11421831988951837508 tw5889652412133998580 tw14692103365367771 tw14300268460358184067 tw1642213662699833449 tw12067271880721513571 tw3861304633557056659 tw18021716079724583365 tw6520608432869352656 tw17395261169830833822 tw14968430284952413587 tw15446241797071036191 tw6247686404078354108 tw6157566567225068294 tw5052657393321943762 tw16031616227388350648 tw12802624879372092345 tw11760106013269779311 tw551690135688494010 tw15847824435411836599 tw17427668319407674234 tw14946377760529925705 tw14751908724108405345 tw12691266492390778815 tw11521323252370261243 tw318314821998801117 tw11913623568249313427 tw9699691730912811709 tw361643626957732294 tw16422870071226571019 tw14602290562724620509 tw11124474904092198709 tw9821421859071214172 tw8018028287206645671 tw3300404236060299010 tw7898996120031293253 tw12728108235361622091 tw7327835996402958211 tw7101518906422429459 tw5342918888296858487 tw4516113946292539539 tw12664935064033274424 tw2152715460178364195 tw14308520218264159430 tw8574649206859225133 tw7349821379165353452 tw12401937819879984201 tw4187728678937892980 tw2483326721190518591 tw15018569681121749862 tw97507652083268857 tw1581271718697263077 tw12721283321006878023 tw6341911342291601897 tw546760768505900930 tw2882679583181292562 tw13202212887373484668 tw7960470258055283368 tw1424188659616802375 tw9930756680533146333 tw9278649604378409313 tw3679159400086639224 tw2516030828329548575 tw16938492702115609665 tw8802084172994685039 tw6380878452222764481 tw9225688744132827551 tw7739141250433073849 tw7724678184157275389 tw5858278618807041185 tw4733435296107768597 tw3373353176178208084 tw12690376574113259805 tw11422968845728527086 tw10594971160954097299 tw4219341609048063402 tw15531854998675386556 tw12915125266378051193 tw10044046777816194268 tw7343130601453065609 tw2980728287307216038 tw8928061662868540432 tw8532892122676669623 tw953617558544751062 tw5995775414997807805 tw16599129590934464188 tw14322124725502532773 tw17503708295048629290 tw16252088679155508115 tw10852273685740356049 tw7672395766887048376 tw9966414437756296987 tw3311429828004028735 tw11586459583330076248 tw14514118792686066993 tw13514629257325125828 tw11200133671339232822 tw6406375359250031551 tw2418424787544203290 tw15853469467399549679 tw10260948090036040461 tw14280151916214757740 tw7768748209109730974 tw16747774743816947311 tw17169560051547767093 tw3222037084837956185 tw1192429813220121069 tw7113970910668781528 tw13721541806107744779 tw6755126919678440589 tw2285138913734913080 tw18157320924479426326 tw16966077215762478386 tw8705962355367048864 tw7647679013322027644 tw7554211056548524378 tw6167769682249636366 tw15494049452555492600 tw1489959485285816244 tw4347326131316224807 tw12600644330104623632 tw195993961248332694 tw12098547226978615129 tw9117476693640230630 tw16339182718187798238 tw1937208171062512152 tw17217326483765039196 tw16239448338361639514 tw2523822482876763306 tw7319548539698412611 tw7906570473806559626 tw8060998545406693328 tw15692951952036752826 tw3234791405036746955 tw1559063298242175130 tw12117870518924540011 tw9004995390228641514 tw2102413825694387696 tw10940275688232227691 tw8467811095038033320 tw11360385807011988816 tw16739111003332133032 tw16074805211031888605 tw10973890644139843277 tw10203787039606392072 tw18315847557639019994 tw8228809489594179776 tw5695458134765824693 tw3515397873531793200 tw3401643888025945241 tw3054951274635717007 tw1832183440518271496 tw17722529707140365307 tw16818469534172922081 tw16337886785155913924 tw1224305492604729091 tw11921617978766660703 tw5131503112303732542 tw1091832102907111114 tw16620891524472102575 tw10125513705504415235 tw11895440310276011075 tw7053559026297818588 tw7016645309643837688 tw18247343998391333764 tw16874057440150955178 tw13053505197775687989 tw8897149193926274253 tw5317316943953418247 tw3435286679579652782 tw2729791558471131531 tw2015622826350657231 tw15637206006895787803 tw15234070283221807033 tw12942424530501866845 tw12361460326597713090 tw12013166294188542121 tw1883237646307348214 tw1776639456356337744 tw16580398569092325090 tw13438820852429986433 tw5967110975239778175 tw14571794758837789545 tw12258413344867882451 tw11403578431354225135 tw10512238463031800500 tw933537217711706245 tw6760022196740929487 tw6696195499779332842 tw5218723087598496133 tw375673091450261828 tw3379864346241386943 tw3089319343201280233 tw3063337569122149233 tw18098600993776894033 tw17274153850529038653 tw16265713194915490561 tw15434158033347856501 tw10747136859078680512 tw18127361362660177867 tw16590773467697037146 tw15016875995678205338 tw12653436989851945030 tw8729716770351149017 tw4069379589620140981 tw10258620382249690505 tw3893910078662870311 tw11703842097587959749 tw8760670482720920943 tw7065913541821192607 tw13941781773895397490 tw14925871046338061683 tw12755442565033175329 tw4679943216184223596:True)
open PySem PySem.W PyProof.Rows L2 L3
def xZqN:Option Obj->Option Obj
|some ⟨_,_,.freed,_⟩=>none
|o=>o
def xZqP (h:Heap):List Nat->Nat->List Obj->List (Option Obj)
|[],_,_=>[]
|a::l,i,r=>bif i.ble a then xZqN (r.drop (a-i)).head?::xZqP h l a (r.drop (a-i)) else h.get? a::xZqP h l i r
theorem xZqQ (h:Heap):∀l i r,r=h.objs.toList.drop i->xZqP h l i r=l.map h.get?
|[],_,_,_=>rfl
|a::l,i,r,e=>by
 unfold xZqP;cases z:i.ble a with
 |false=>exact congrArg (h.get? a::·) (xZqQ h l i r e)
 |true=>
  have d:r.drop (a-i)=h.objs.toList.drop a:=by have:=Nat.le_of_ble_eq_true z;rw [e,List.drop_drop];congr 1;omega
  show xZqN (r.drop (a-i)).head?::xZqP h l a (r.drop (a-i))=_;rw [xZqQ h l a _ d,d,List.head?_drop,Array.getElem?_toList];rfl
def xZqH (K:Params->Frag) (as:List Addr) (e:∀P,as=(K P).map (·.1)) (_:Unit):Hook:=⟨_,λs=>xZqP s.heap as 0 s.heap.objs.toList,λw=>(K w.params).map λp=>some p.2,InK K,λw s x=>InK.of e w s ((xZqQ s.heap as 0 s.heap.objs.toList rfl).symm.trans x),InK.keeps⟩
local macro_rules|`(tactic|o_head ($f $k $a $e))=>`(tactic|o_head (xZqH $k $a $e ()))
set_option maxRecDepth 100000 in
set_option maxHeartbeats 0 in
theorem PySem.Challenge.cw_callboard_k21_who_is_where_holds : PySem.Challenge.rw_callboard_k21_who_is_where.Holds := by
 w_on;o_law;k_head;(case hw=>w_witness2)
 k_fill
 refine L3.Ow (l:=PySem.Challenge.rw_callboard_k21_who_is_where) (sp:=Z.Mh) (k:=17) (x:="_law_script") rfl rfl ⟨rfl,by decide,by decide⟩ (λ_ _ Y=>Y) (λns hl=>⟨ns,rfl,hl,rfl⟩) ?F;case F=>
  intro w mg fa h KX G hmg;suffices h:∃a:Z.Ad,Z.Gl _ mg a/\∀(s:Shared) (u:Value),BindsTo s a.al.d ⟨[u],[]⟩ [("_law_script",u)]by obtain⟨a,g,hb⟩:=h;have e:=hmg.symm.trans g.al.mg;cases e;exact⟨a.al.d,hb,λbase _ _=>g.al.pe ▸ Z.Sx g⟩
  refine'⟨⟨_,_,_,_,_,_,_,_,_,_,_,_,_,_,_,_,_,_,_,_,_,_,_,_,_,_,_,_,_,_,_,_,_,_,_,_,_,_,_,_,_,_,_,_,_,_,_,_,_,_,_,_,_,_,_,_,_,_,_,_,_,_,_,_,_,_,_,_,_,_,_,_,_,_,_,_,_,_,_,_,_,_,_,_,_,_,_,_,_,_,_,_,_,_,_,_,_,_,_,_,_,_,_,_,_,_,_,_,_,_,_,_,_,_,_,_,_,_,_,_,_,_,_,_,_,_,_,_,_,_,_,_,_,_,_,_,_⟩,⟨wU KX G ..,wU KX G ..,wU KX G ..,wU KX G ..,wU KX G ..,wU KX G ..,wU KX G ..,wU KX G ..,wU KX G ..,wU KX G ..,wU KX G ..,wU KX G ..,wU KX G ..,PySem.W.mg_of KX G ?_,PySem.W.mg_of KX G ?_,qI KX G ..,qI KX G ..,qI KX G ..,qI KX G ..,qI KX G ..,qI KX G ..,qI KX G ..,qI KX G ..,qI KX G ..,qI KX G ..,qI KX G ..,qI KX G ..,qI KX G ..,qI KX G ..,qI KX G ..,qI KX G ..,qI KX G ..,qI KX G ..,qI KX G ..,qI KX G ..,qI KX G ..,qI KX G ..,qI KX G ..,qI KX G ..,qI KX G ..,qI KX G ..,qI KX G ..,qI KX G ..,qI KX G ..,qI KX G ..,qI KX G ..,qI KX G ..,qI KX G ..,qI KX G ..,qI KX G ..,qI KX G ..,qI KX G ..,qI KX G ..,qI KX G ..,qI KX G ..,qI KX G ..,qI KX G ..,qI KX G ..,qI KX G ..,qI KX G ..,qI KX G ..,qI KX G ..,qI KX G ..,qI KX G ..,qI KX G ..,qI KX G ..,qI KX G ..,qI KX G ..,qI KX G ..,qI KX G ..,qI KX G ..,qI KX G ..,qI KX G ..,qI KX G ..,qI KX G ..,qI KX G ..,qI KX G ..,qI KX G ..,qI KX G ..,qI KX G ..,qI KX G ..,qA ..,qA ..,qA ..,qA ..,qA ..,qA ..,qA ..,qA ..,qA ..,qA ..,qA ..,qA ..,qA ..,qA ..,qA ..,qA ..,qA ..,qA ..,qA ..,qA ..,qA ..,qA ..,qA ..,qA ..,qA ..,qA ..,qA ..,qA ..,qA ..,qA ..,qA ..,qA ..,qA ..,qA ..,qA ..,qA ..,qA ..,qA ..,qA ..,qA ..,qA ..,qA ..,qA ..,qA ..,qA ..,qA ..,qA ..,qA ..,qA ..,qA ..,qA ..,qA ..,qA ..,qA ..,qA ..,qA ..,NP ?_ ?_ ?_ ?_ ?_ ?_ ?_ ?_ ?_ ?_,Ln ?_ ?_ ?_,⟨Vo ?_ ?_ ?_ ?_ ?_ ?_ ?_ ?_,?_,?_⟩,Q5 ?_ ?_ ?_ ?_,⟨?_,?_,?_,?_⟩,⟨?_,?_,?_,?_⟩,⟨?_,?_,?_,?_⟩,⟨?_,?_,?_,?_⟩,⟨?_,?_,?_,?_⟩,⟨?_,?_,?_,?_⟩,⟨?_,?_,?_,?_⟩,⟨?_,?_,?_,?_⟩,⟨?_,?_,?_,?_⟩,⟨?_,?_,?_,?_⟩,⟨?_,?_,?_,?_⟩,⟨?_,?_,?_⟩,⟨?_,?_,?_⟩,⟨?_,?_,?_⟩,⟨?_,?_,?_⟩,⟨?_,?_,?_⟩,⟨?_,?_,?_⟩,⟨?_,?_,?_⟩,⟨?_,?_,?_⟩,⟨?_,?_,?_⟩,⟨?_,?_,?_⟩,⟨?_,?_,?_⟩,⟨?_,?_,?_⟩,⟨?_,?_,?_⟩,⟨?_,?_,?_⟩,⟨?_,?_,?_⟩,⟨?_,?_,?_⟩,⟨?_,?_,?_⟩,⟨?_,?_,?_⟩,⟨?_,?_,?_⟩,⟨?_,?_,?_⟩,⟨?_,?_,?_⟩,(qo ?_ (qo ?_ (qo ?_ (qo ?_ (qo ?_ (qo ?_ (qo ?_ (qo ?_ tW)))))))),(qo ?_ (qo ?_ (qo ?_ (qo ?_ (qo ?_ (qo ?_ tW)))))),(qo ?_ (qo ?_ (qo ?_ tW))),(qo ?_ (qo ?_ (qo ?_ tW))),(qo ?_ (qo ?_ (qo ?_ tW))),(qo ?_ (qo ?_ (qo ?_ (qo ?_ (qo ?_ tW))))),(qo ?_ (qo ?_ (qo ?_ tW))),(qo ?_ (qo ?_ (qo ?_ (qo ?_ tW)))),(qo ?_ (qo ?_ tW)),(qo ?_ (qo ?_ tW)),(qo ?_ (qo ?_ (qo ?_ (qo ?_ (qo ?_ (qo ?_ (qo ?_ (qo ?_ tW)))))))),GR,Tc QR ?_ (λ_=>rfl),GR,PySem.W.mg_none_of KX G ?_,PySem.W.mg_none_of KX G ?_,PySem.W.mg_none_of KX G ?_,PySem.W.mg_none_of KX G ?_,PySem.W.mg_none_of KX G ?_,PySem.W.mg_none_of KX G ?_,PySem.W.mg_none_of KX G ?_,PySem.W.mg_none_of KX G ?_,PySem.W.mg_none_of KX G ?_,PySem.W.mg_none_of KX G ?_,PySem.W.mg_none_of KX G ?_,PySem.W.mg_none_of KX G ?_,PySem.W.mg_none_of KX G ?_,PySem.W.mg_none_of KX G ?_,PySem.W.mg_none_of KX G ?_,wH (PySem.W.mg_of KX G ?_),wH (PySem.W.mg_of KX G ?_),wH (PySem.W.mg_of KX G ?_),wH (PySem.W.mg_of KX G ?_),QL (PySem.W.mg_of KX G ?_) (uW (ss:=["all","turns"]) ?_ (.cons ⟨_,rfl⟩ (.cons ⟨_,rfl⟩ .nil)) (Nat.le_of_ble_eq_true rfl)),wH (PySem.W.mg_of KX G ?_),wH (PySem.W.mg_of KX G ?_),wH (PySem.W.mg_of KX G ?_),TQ (PySem.W.mg_of KX G ?_),PZ (es:=[⟨_,.str "bar" _,.ref _⟩,⟨_,.str "shut" _,.ref _⟩,⟨_,.str "always" _,.ref _⟩,⟨_,.str "night" _,.ref _⟩,⟨_,.str "busy" _,.ref _⟩,⟨_,.str "silent" _,.ref _⟩,⟨_,.str "wait" _,.ref _⟩,⟨_,.str "breaks" _,.ref _⟩]) (PySem.W.mg_of KX G ?_) ?_ ?_ (.cons rfl ⟨_,rfl,(uW (ss:=["phone","names"]) ?_ (.cons ⟨_,rfl⟩ (.cons ⟨_,rfl⟩ .nil)) (Nat.le_of_ble_eq_true rfl))⟩ (.cons rfl ⟨_,rfl,(uW (ss:=["name","phones"]) ?_ (.cons ⟨_,rfl⟩ (.cons ⟨_,rfl⟩ .nil)) (Nat.le_of_ble_eq_true rfl))⟩ (.cons rfl ⟨_,rfl,(uW (ss:=["name","name"]) ?_ (.cons ⟨_,rfl⟩ (.cons ⟨_,rfl⟩ .nil)) (Nat.le_of_ble_eq_true rfl))⟩ (.cons rfl ⟨_,rfl,(uW (ss:=["name","name","hour","hour"]) ?_ (.cons ⟨_,rfl⟩ (.cons ⟨_,rfl⟩ (.cons ⟨_,rfl⟩ (.cons ⟨_,rfl⟩ .nil)))) (Nat.le_of_ble_eq_true rfl))⟩ (.cons rfl ⟨_,rfl,(uW (ss:=["name","name"]) ?_ (.cons ⟨_,rfl⟩ (.cons ⟨_,rfl⟩ .nil)) (Nat.le_of_ble_eq_true rfl))⟩ (.cons rfl ⟨_,rfl,(uW (ss:=["name","name","turns"]) ?_ (.cons ⟨_,rfl⟩ (.cons ⟨_,rfl⟩ (.cons ⟨_,rfl⟩ .nil))) (Nat.le_of_ble_eq_true rfl))⟩ (.cons rfl ⟨_,rfl,(uW (ss:=["phone"]) ?_ (.cons ⟨_,rfl⟩ .nil) (Nat.le_of_ble_eq_true rfl))⟩ (.cons rfl ⟨_,rfl,(uW (ss:=["phone"]) ?_ (.cons ⟨_,rfl⟩ .nil) (Nat.le_of_ble_eq_true rfl))⟩ .nil)))))))),wH (PySem.W.mg_of KX G ?_),wH (PySem.W.mg_of KX G ?_),wH (PySem.W.mg_of KX G ?_)⟩,λs u=>.of_eq rfl⟩
  all_goals try first|k_is|(intro _ _ _ _ _ _ us hl;rcases us with _|⟨_,_|⟨_,_|⟨_,_|⟨_,_|⟨_,_|⟨_,_|⟨_,us⟩⟩⟩⟩⟩⟩⟩<;>first|rfl|(exfalso;revert hl;simp;done))|rfl
