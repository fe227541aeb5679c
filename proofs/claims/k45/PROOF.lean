import PyProof.Rows.All
import Wide.All
import OpenK.AllK
import Wide.FinOn
import PyProof.EqAt
import PyProof.EqKinds
import PyProof.TupleCall
import PyProof.AttrMiss
import PyProof.IsiH_list
import PyProof.Rows.SetFrom
import KE.KDictOf
import KE.KTab
import PyProof.AutoListH
import KE.KSortTup
import KE.KItemsList
import KE.KEqDict
import KE.KIntText
import Lean
import PyProof.RulesRaise
import PyProof.RulesTry
import KE.KTryDeep
import KE.KTryMore
import KE.KTryOn
import KE.TryInHelper
import KE.TryLedger
import PyProof.ExcArgsOwn
import PyProof.ExcAttrAll.ValueError
import KE.KIsAll
import PyProof.ExcBaseAll.ValueError
import PyProof.InstStoreFacts
import PyProof.ExcInit
import PyProof.SeqI3
import PyProof.ConsumeWalk
import PySem.Challenge.RW_callboard_k45_whole_stories_of_calls
set_option genInjectivity false
set_option genSizeOfSpec false
set_option genSizeOf false
set_option Elab.async false
set_option linter.all false
set_option maxRecDepth 100000
set_option maxHeartbeats 4000000
noncomputable section
open LawfulBEq renaming eq_of_beq->xz
open List renaming length_map->cQ,getElem?_eq_getElem->cS,length_append->cT,getElem?_eq_some_iff->cU,mem_cons->de,mem_singleton->df,size_toArray->dg,getElem?_map->dq,mem_map->dw,mem_cons_of_mem->dz,not_mem_nil->dA,map_append->dB,length_nil->dF,nodup_cons->dH,mem_cons_self->dI,length_singleton->dM,append_nil->dO,mem_append->dR,length_cons->dS,nodup_nil->dU,map_cons->dW,nil_append->dX,map_map->dZ,append_assoc->eh,mem_append_right->eC,length_range->eD,getElem?_append_right->eE,replicate_succ->eG,getElem?_set_self->eI,lookup_cons->eK,getElem?_set_ne->eP,length_pos_iff->eV,getElem?_append_left->eW,all_eq_true->eY,mem_of_getElem?->eZ,take_length->fj,nodup_append->fm,getLast?_eq_none_iff->ft,mem_filter->fv,mem_append_left->fz,length_modify->fA,length_take->fC,cons_ne_nil->fD,find?_cons->fF,flatten_cons->fK,getLastD_eq_getLast?->fN,map_nil->fO,dropLast_concat->fP,length_eq_zero_iff->fQ,take_add_one->fS,foldl_cons->fU,filterMap_cons->fV,filter_sublist->fW,any_cons->fY,exists_cons_of_ne_nil->fZ,length_drop->gb,mem_range->gf,length_filter_le->gh,drop_eq_getElem_cons->gi,mem_of_find?_eq_some->gj,mem_of_getLast?->gp,dropLast_subset->gq,getElem?_modify->gu,all_cons->gv,any_eq_true->gy,getElem?_eq_none->gC,getD_eq_getElem?_getD->gD,length_dropLast->gK,getLast?_concat->gL,getElem_mem->gO,filter_cons->gP,getElem_of_mem->gR,map_congr_left->gS,filter_cons_of_pos->gT,filter_cons_of_neg->gU,getElem?_modify_eq->gW,filter_map->g9,find?_eq_none->hG,filter_append->hJ,filter_nil->hU,take_of_length_le->hZ,findIdx?_map->ia,length_set->ik,getLast?_eq_getElem?->im,contains_cons->ir,filterMap_cons_none->iy,getElem?_cons_zero->iA,map_dropLast->iC,findIdx?_eq_some_iff_getElem->iE,findIdx_lt_length_of_exists->iH,length_replicate->iI,getElem?_toArray->iJ,filterMap_append->iK,set_set->iS,mem_of_mem_take->iT,mem_of_mem_drop->iU,drop_zero->jb,dropLast_cons_of_ne_nil->jd,map_id->je,filterMap_nil->jk,foldl_append->js,sublist_append_right->jy,pairwise_iff_getElem->jz,findIdx?_eq_none_iff->jA,getLast?_eq_some_iff->jB,drop_length->jL,any_map->jO,eq_of_mem_replicate->jP,cons_append->jQ,getElem?_replicate->jR,getLast?_cons_cons->jT,of_mem_zip->jU,forIn_cons->jV,range_succ->jY,length_pos_of_mem->j6,forIn_nil->j8,set_append_right->kl,map_drop->kE,getElem?_range->kG,filter_eq_self->kM,modify_eq_self->kN,mem_filterMap->kT,getElem_range->lj,set_cons_succ->lq,any_eq_false->lA,getElem_inj->lK,zipIdx_cons->lQ,getElem_map->lV,zipIdx_nil->lZ,any_append->ma,find?_some->mf,map_take->mo,all_map->mw,map_set->my
open PySem renaming wpAny_bind->cR,wpAny_pure->c9,sizeLine_eq->dN,wpAny_mono->d9,wpAny_holding->eB,wpAny_field->fh,wpAny_truthy_bool->fk,wpAny_callSpecial?_slot->fG,wpAny_newObj_type->fR,wpAny_call_entry->gc,wpAny_Call_Name_kw->gg,wpAny_seqItems->gx,wpAny_setField_rec->gA,wpAny_passesOwn->gB,wpAny_pyIter_list->gH,codeAny_mono->gM,mem_of_lookup->gQ,wpAny_standAt->gX,wpAny_execs_nil->gY,wpAny_loadPart_at->h9,wpAny_setField->ie,codeAny_builtin->il,wpAny_pyIter_tuple->iq,wpAny_call->iz,wpAny_onRaise->iF,plainObj_wpAny_Assign_Attribute->iL,codeAny_call_builtin->iO,wpAny_specialOf->iP,wpAny_updateSeq_pair->iQ,isSubtype_type->ja,tupleKind_room_in1->jg,slot_dict_contains->ji,wpAny_sequenceKey->jp,call_meets->jw,wpAny_execs_cons->jC,wpAny_typeOf->jG,wpAny_comprehension_free->jJ,wpAny_pyNext_list_item->j3,wpAny_pyNext_list_end->j7,builtinLookup_eq_fast->j9,getitemInPython_of_ne->kc,wpAny_rule->kr,wpAny_letTemporaryGo->ku,plainId_quiet->kC,wpAny_attempt->kD,wpAny_isSubtype_exc->kK,concat_meets->kW,seqIndex_neg->kY,wpAny_assign_Name->ly,wpAny_Assign_Name->lz,slot_list_getitem->lC,slot_dict_getitem->lD,wpAny_pyIter_enum->lE,seqIndex_of->lG,wpAny_letGo->lH,wpAny_pyHash_str->lJ,wpAny_lookBehind->lL,pastItsLine_dict->lM,noFill_tuple_add->lO,wpAny_pyIter_zip->lT,wpAny_Name->lW,typeIs_int->lX,Addr->Uf,sizeLine->Ch,wpAny->pi,model->Tk,starEach->Tl,Expr->zn,Heap->Go,bootBuiltins->No,eval->wp,compareOp->Op,keywordEach->Ps,assignEach->Rs,attributeBase->At,mainGlobals->wv,FuncData->Ix,backTo->sB,swapsWith->ZB,holding->TD,Stmt->wE,backToKw->sK,IsPair->ZK,binaryOp->dL,NameKind->xL,behindInMarks->ZL,foldedSetIterable->ZM,sysModules->IN,getMethod->ZN,ExcBaseFacts->ZO,rawInt->wP,cLine->ZP,excClassObj->ZQ,standAt->ZR,Scope->wS,Keyword->ZS,getItem->wT,sliceBounds->AT,callWith->ZT,letOwnedTupleGo->ZU,codeAny->XV,scanBound->ZV,IsZip->TW,Operator->ZX
def cV:=@if_neg
def cX:=@if_pos
def dP:=@decide_eq_true
def eA:=@decide_eq_true_eq
def eJ:=@congrArg
def eO:=@decide_eq_false
def eQ:=@beq_self_eq_true
def e9:=@or_false
def fg:=@beq_iff_eq
def fL:=@of_decide_eq_true
def fM:=@not_or
def gw:=@beq_eq_false_iff_ne
def iZ:=@if_true
def ko:=@if_false
open PySem.Heap renaming get?_push_of_some->cW,lt_size->dv,get?_push_size->dC,get?_update_self->fE,size_push->fJ,get?_update_other->fX,get?_none_of_le->gJ,get?_update_ne->kI
open Option.some renaming inj->cY,injEq->jt
open Nat renaming le_refl->cZ,lt_of_lt_of_le->dE,ne_of_lt->dJ,le_trans->dY,lt_irrefl->eN,zero_le->eU,lt_succ_self->fB,sub_self->gm,le_succ->hW,ne_of_gt->ib,succ_le_succ->ii,lt_of_le_of_lt->iw,le_add_right->iG,lt_succ_of_lt->jr,le_succ_of_le->ju,le_of_eq->jD,lt_trans->jI,mul_le_mul->ke,le_of_lt->kS,sub_zero->kZ,min_eq_left->me,succ_mul->mv,zero_add->mx,succ_pos->mz
open Bool renaming false_ne_true->dh,eq_false_iff->dD,and_eq_true->dQ,true_and->eF,false_and->eL,false_or->fH,eq_iff_iff->gk,not_eq_true'->gI,or_eq_true->gZ,true_or->ic,not_eq_false->jv,and_eq_true_iff->ky,or_false->kB,or_true->lb,false_eq_true->lh,beq_comm->mi,and_true->mj,true->pc,false->lf
open Ne renaming symm->dG
open Int renaming eq_ofNat_of_zero_le->d6,emod_lt_of_pos->eM,emod_nonneg->eR,toNat_natCast->iB,mul_le_mul_of_nonneg_left->iV,emod_add_mul_ediv->kh,zero_add->lu
open PySem.PassesOwn renaming never->eX
open PyProof.Rows renaming slot_tuple_getitem->fu,callWith_type1->fT,callWith_builtin1->iN,SetOf_congr->jK,subscriptTail_builtinR->j5,entry_tuple_getitem->kF,args_tuple_getitem->kX,envOfC->ZJ,AllBare->ZW
open PyProof.Rows.F renaming plain_set_update_loop->gz,entry_set_update_loop->ip
open PySem.F renaming slot_tuple_iterator_next->gF,called_set->gN,slot_list_getattribute->io,slot_zip_next->iR,args_tuple_iterator_next_1->jc,entry_tuple_iterator_next->jj,slot_dict_getitem->jx,args_tuple_add_2->jF,store_ValueError->jN,entry_tuple_add->jS,slot_tuple_add->j4,attrBase_ValueError->kg,excBase_ValueError->kx,args_zip_next_1->lF,entry_zip_next->lR,slot_int_rmul->lY
open List.cons renaming inj->gG
open PySem.Around renaming under_plainId->ig
open Array renaming getElem?_setIfInBounds_self_of_lt->ij,length_toList->iW,toList_append->iX,size_setIfInBounds->jM,mem_toList_iff->km,append_assoc->kQ,find?_toList->kU
open List.Nodup renaming sublist->iu
open Option renaming map_eq_some_iff->iD,toList_some->jl,isSome_map->jq,isSome_iff_exists->jE,map_some->jW,getD_none->lP,bind_some->lU,some->Fa,none->Db
open PySem.W renaming callWith_K->iM,looks_findIn->iY,methodCall_KW->jX,plainGet_of->kz,looks_clsIn->kA,cellsFrom_some->lN
open PySem.Calls renaming spliced_cons->jf,Name_function_global->jn,spliced_nil->jo
open PySem.Code renaming quiet_builtin->jh
open PySem.Paired renaming length->jm,snoc->mC
open Sum.inr renaming inj->jZ
open PySem.Walks renaming list->kt
open PySem.Heap.SameBut renaming update->kH
open PySem.SeqAt.EqAt renaming int_str->kO,str_int->kP
open PySem.Obj renaming data_mapFields->k9
open PySem.Heap.Ns1 renaming of_empty->lB
open Eq renaming symm->mh
open PySem.W.Looks renaming here->mq
open PySem.Heap.FunFrames renaming of_keeps->mB
open PySem.Moved renaming trans->mD
open PySem.Heap.IsSliceOf renaming new->mE
abbrev qx:=PySem.W.Frag
local macro_rules | `(tactic| walk_at "l") => `(tactic| (intro _ _ _ h; repeat (first | (obtain ⟨e, _⟩ := h; subst e; rfl; done) | (cases h; rename_i h))))
local macro_rules | `(tactic| walk_at "m") => `(tactic| (intro _ _ _ _ h; repeat (first | (obtain ⟨e, _⟩ := h; subst e; rfl; done) | (cases h; rename_i h))))
abbrev Vl:=PySem.Value
abbrev Sd:=PySem.Shared
abbrev Pg:=PySem.Program
abbrev Ar:=PySem.Around
theorem Z'{α:Sort _}{a:α}:a=a:=rfl
abbrev Wo:=PySem.World
abbrev T0(α:Type _):=List α
abbrev QQQ:=List PySem.Str
abbrev QQX:=PySem.Value->PySem.Shared->Prop
abbrev QQY:=List (PySem.Addr×PySem.Obj)
abbrev QQZ:=PySem.Str->Option PySem.Value
abbrev QXQ:=List PySem.Addr
section
open PySem PySem.Spec PyProof.Rows
namespace L2
def x5{α:Sort u}{β:Sort v}{p q r:α->β->Prop}{C:Prop}(h:∃a b,p a b/\q a b/\r a b)(f:∀a b,p a b->q a b->r a b->C):C:=by obtain⟨a,b,h1,h2,h3⟩:=h;exact f a b h1 h2 h3
abbrev rq:=Sum Int Str
noncomputable def D3:rq->Vl->Bool
 | .inl k,v=>Value.isInt k v
 | .inr x,v=>Value.isStrOf x v
noncomputable def Vy(w:Wo):rq->Int
 | .inl k=>hashInt k
 | .inr x=>hashStr w x
def sy:∀{k:rq} {v:Vl},D3 k v=pc->(∃i t,k=Sum.inl i/\v=Value.int i t)\/(∃x t,k=Sum.inr x/\v=Value.str x t)
 | .inl i,v,h=>by obtain⟨t,e⟩:=Value.isInt_shape (k:=i) (v:=v) h;exact .inl ⟨i,t,Z',e⟩
 | .inr x,v,h=>by obtain⟨t,e⟩:=Value.isStrOf_shape (x:=x) (v:=v) h;exact .inr ⟨x,t,Z',e⟩
def Kl(i:Int)(t:Tok):D3 (.inl i) (.int i t)=pc:=by simp[D3,Value.isInt]
def J'(x:Str)(t:Tok):D3 (.inr x) (.str x t)=pc:=by simp[D3,Value.isStrOf]
def Sg(a b:Int):decide ((Sum.inl a:rq)=Sum.inl b)=(a==b):=by
 by_cases e:a=b
 .subst e;simp
 .have h:¬(Sum.inl a:rq)=Sum.inl b:=λq=>e (Sum.inl.inj q);rw[eO h];exact(gw.mpr e).symm
def QR(a b:Str):decide ((Sum.inr a:rq)=Sum.inr b)=decide (a=b):=by
 by_cases e:a=b
 .subst e;simp
 .have h:¬(Sum.inr a:rq)=Sum.inr b:=λq=>e (jZ q);rw[eO h,eO e]
def Rp(a:Int)(b:Str):decide ((Sum.inl a:rq)=Sum.inr b)=lf:=eO (λq=>nomatch q)
def Ry(a:Str)(b:Int):decide ((Sum.inr a:rq)=Sum.inl b)=lf:=eO (λq=>nomatch q)
noncomputable def rP(prog:Pg)(w:Wo):PySem.KeyKind prog w rq where
 is:=D3
 hash:=Vy w
 inj:=λv a b ha hb=>by
  rcases sy ha with⟨i,t,rfl,rfl⟩|⟨x,t,rfl,rfl⟩
  .rcases sy hb with⟨j,u,rfl,e⟩|⟨y,u,rfl,e⟩
   .injection e with e1 _;rw[e1]
   .exact nomatch e
  .rcases sy hb with⟨j,u,rfl,e⟩|⟨y,u,rfl,e⟩
   .exact nomatch e
   .injection e with e1 _;rw[e1]
 byValue:=λk v h=>by rcases sy h with⟨i,t,rfl,rfl⟩|⟨x,t,rfl,rfl⟩<;>rfl
 pyHash:=λhv h=>by
  rcases sy hv with⟨i,t,rfl,rfl⟩|⟨x,t,rfl,rfl⟩
  .exact wpAny_pyHash_int h
  .exact lJ h
 eqBool:=λhu hv h=>by
  rcases sy hu with⟨i,t,rfl,rfl⟩|⟨x,t,rfl,rfl⟩
  .rcases sy hv with⟨j,u,rfl,rfl⟩|⟨y,u,rfl,rfl⟩
   .rw[Sg]at h;exact wpAny_eqBool_int h
   .rw[Rp]at h;exact kO i t y u _ _ _ _ h
  .rcases sy hv with⟨j,u,rfl,rfl⟩|⟨y,u,rfl,rfl⟩
   .rw[Ry]at h;exact kP x t j u _ _ _ _ h
   .rw[QR]at h;exact wpAny_eqBool_str h
 «strs»:=λk x t v h=>by
  rcases sy h with⟨i,u,rfl,e⟩|⟨y,u,rfl,e⟩
  .exact nomatch e
  .injection e with e1 _
   subst e1;cases v<;>rfl
def Gp(prog:Pg)(w:Wo)(i:Int)(t:Tok):(rP prog w).is (.inl i) (.int i t)=pc:=Kl i t
def Az(prog:Pg)(w:Wo)(x:Str)(t:Tok):(rP prog w).is (.inr x) (.str x t)=pc:=J' x t
inductive V where
 | mL|bl (b:Bool)|int (i:Int)|str (x:Str)|byt (b:Array UInt8)|flt (b:UInt64)|ref (a:Uf)|ty (n:String)
 deriving DecidableEq
def qL:V->Vl->Prop
 | .mL,u=>u=Value.none
 | .bl b,u=>u=Value.bool b
 | .int i,u=>∃t,u=Value.int i t
 | .str x,u=>∃t,u=Value.str x t
 | .byt b,u=>∃t,u=Value.bytes b t
 | .flt b,u=>∃t,u=Value.float b t
 | .ref a,u=>u=Value.ref a
 | .ty n,u=>u=Value.type n
abbrev qF:T0 V->T0 Vl->Prop:=Paired qL
def qF.length(r:qF xs us):xs.length=us.length:=jm r
theorem qF.get:∀{xs:T0 V} {us:T0 Vl} {i:Nat} {x:V},qF xs us->xs[i]?=Fa x->∃u,us[i]?=Fa u/\qL x u
 | _,_,_,_,.nil,e=>by simp at e
 | _,_,0,_,.cons r _,e=>by simp at e;subst e;exact⟨_,Z',r⟩
 | _,_,i+1,x,.cons _ t,e=>by obtain⟨u,h1,h2⟩:=qF.get (i:=i) (x:=x) t (by simpa using e);exact⟨u,by simpa using h1,h2⟩
theorem qF.set(r:qL x u):∀{xs:T0 V} {us:T0 Vl} (i:Nat),qF xs us->qF (xs.set i x) (us.set i u)
 | _,_,_,.nil=>.nil
 | _,_,0,.cons _ t=>.cons r t
 | _,_,i+1,.cons q t=>.cons q (qF.set r i t)
theorem qF.append:∀{xs ys:T0 V} {us ws:T0 Vl},qF xs us->qF ys ws->qF (xs++ys) (us++ws)
 | _,_,_,_,.nil,s=>s
 | _,_,_,_,.cons r t,s=>.cons r (qF.append t s)
theorem qF.take:∀{xs:T0 V} {us:T0 Vl} (n:Nat),qF xs us->qF (xs.take n) (us.take n)
 | _,_,0,_=>.nil
 | _,_,_+1,.nil=>.nil
 | _,_,n+1,.cons r t=>.cons r (qF.take n t)
theorem qF.drop:∀{xs:T0 V} {us:T0 Vl} (n:Nat),qF xs us->qF (xs.drop n) (us.drop n)
 | _,_,0,r=>r
 | _,_,_+1,.nil=>.nil
 | _,_,n+1,.cons _ t=>qF.drop n t
def yw:Option V->Option Vl->Prop
 | some v,Fa u=>qL v u
 | none,none=>True
 | _,_=>False
def KV{κ:Type}:T0 (κ×V)->T0 (κ×Vl)->Prop:=Paired λ(p:κ×V) (q:κ×Vl)=>p.1=q.1/\qL p.2 q.2
noncomputable def kV:rq->V
 | .inl i=>.int i
 | .inr x=>.str x
inductive HO where
 | lst (xs:List V)
 | tup (xs:List V)
 | dK (kvs:List (rq×V))|dT (kvs:List (List rq×V))
 | set (S:Int->Bool) (n:Nat)
 | ins (C dx:Uf) (fs:List (Str×V))
 | own (x:Uf)
 | xd (fs:List (Str×V))
 | met (f x:Uf)
 | rng (lo hi:Int)
 | frz (o:Obj) (u:HO)
 | tbl (ps:Array Vl)
 | ext (φ:Go->Prop)
abbrev Hp:=Uf->Option HO
noncomputable def upd(H:Hp)(a:Uf)(o:HO):Hp:=λb=>if b=a then Fa o else H b
def qh:upd H a o a=Fa o:=by unfold upd;rw[cX Z']
def pZ{a b:Uf}(h:b≠a):upd H a o b=H b:=by unfold upd;rw[cV h]
def Oy:upd (upd H a o) a u=upd H a u:=by funext b;unfold upd;split<;>rfl
def Ul{H:Hp}{a b:Uf}{o u:HO}(h:H a=Fa o)(h':H b=Fa u)(d:o≠u):a≠b:=by intro e;subst e;rw[h]at h';exact d (cY h')
def qP{H:Hp}{a b:Uf}{o:HO}(h:H a=Fa o)(h':H b=Db):a≠b:=by intro e;subst e;rw[h]at h';cases h'
section
variable (P:Pg)(w:Wo)
def E2(h:Go)(a:Uf)(its:Array Vl):Prop:=∃o,h.get? a=Fa o/\o.cls=.type "tuple"/\(∃n,o.data=.seq its n)/\o.dict=Db
def sV(H:Hp)(h:Go)(a:Uf):HO->Prop
 | .lst xs=>xs.length<=Ch/\∃(its:T0 Vl) (n:Nat),qF xs its/\h.get? a=Fa {cls:=.type "list",data:=.seq its.toArray n}
 | .tup xs=>xs.length<=Ch/\∃its:T0 Vl,qF xs its/\E2 h a its.toArray
 | .dK kvs=>kvs.length<=Ch/\(a==IN)=lf/\∃vs,KV kvs vs/\h.DictOf (rP P w) a vs
 | .dT kvs=>kvs.length<=Ch/\(a==IN)=lf/\∃xs:T0 (List rq×Uf×Vl),Paired (λ(p:List rq×V) (q:List rq×Uf×Vl)=>p.1=q.1/\H q.2.1=Fa (.tup (p.1.map kV))/\qL p.2 q.2.2) kvs xs/\
   ∃o es ep,h.get? a=Fa o/\o.ExactDict/\o.data=.dict es ep/\es.toList=xs.map (entryOfKey (tupleKind (rP P w)))/\(xs.map (·.1)).Nodup
 | .set S n=>h.SetOf (intKind P w) a S n
 | .ins C dx fs=>H dx=Fa (.own a)/\fs.length<=1000/\dx≠a/\h.get? a=Fa (W.instObj C dx)/\
   ∃mA,h.Ns1 dx mA/\(∀f,yw (fs.lookup f) (mA f))/\PySem.Within mA (fs.map (·.1))
 | .own _=>∃o,h.get? a=Fa o
 | .xd fs=>∃mA,h.Ns1 a mA/\∀f,yw (fs.lookup f) (mA f)
 | .rng lo hi=>∃t u v,h.get? a=Fa {cls:=.type "range",data:=.fields #[.int lo t,.int hi u,.int 1 v]}
 | .frz o u=>h.get? a=Fa o/\sV H h a u
 | .tbl ps=>h.get? a=Fa {cls:=.none,data:=.fields ps}
 | .met f x=>h.get? a=Fa (W.methodObj (.ref f) (.ref x))
 | .ext φ=>φ h/\(∃o,h.get? a=Fa o)/\∀h1 h2:Go,φ h1->(∀o,h1.get? a=Fa o->h2.get? a=Fa o)->φ h2
def yu(H:Hp)(h:Go):Prop:=∀a o,H a=Fa o->sV P w H h a o
end
variable {H H':Hp}{h h':Go}
section
variable {P:Pg}{w:Wo}{a:Uf}{o:HO}
def E2.is(x:E2 h a its):IsTup h a its:=let⟨o,e,c,d,_⟩:=x;⟨o,e,c,d⟩
def E2.new(h:Go)(Wy:Array Vl):E2 (h.push {cls:=.type "tuple",data:=.seq Wy}) h.objs.size Wy:=⟨_,dC _ Z',Z',⟨_,Z'⟩,Z'⟩
def sV.lt(x:sV P w H h a o):a<h.objs.size:=by
 cases o with
 | lst xs=>obtain⟨_,_,_,_,e⟩:=x;exact dv e
 | tup xs=>obtain⟨_,_,_,_,e,_⟩:=x;exact dv e
 | dK kvs=>obtain⟨_,_,_,_,o,_,_,e,_⟩:=x;exact dv e
 | dT kvs=>obtain⟨_,_,_,_,o,_,_,e,_⟩:=x;exact dv e
 | set S n=>obtain⟨o,_,_,_,e,_⟩:=x;exact dv e
 | ins C dx fs=>obtain⟨_,_,_,e,_⟩:=x;exact dv e
 | own y=>obtain⟨_,e⟩:=x;exact dv e
 | xd fs=>obtain⟨_,⟨_,_,_,e,_⟩,_⟩:=x;exact dv e
 | rng lo hi=>obtain⟨_,_,_,e⟩:=x;exact dv e
 | frz ob u=>obtain⟨e,_⟩:=x;exact dv e
 | tbl ps=>exact dv (show h.get? a=Fa _ from x)
 | met f y=>exact dv (show h.get? a=Fa _ from x)
 | ext φ=>obtain⟨_,⟨_,e⟩,_⟩:=x;exact dv e
theorem Paired.oJ{α β:Type}{F G:α->β->Prop}:∀{l₁:List α} {l₂:List β},Paired F l₁ l₂->(∀a b,F a b->G a b)->Paired G l₁ l₂
 | _,_,.nil,_=>.nil
 | _,_,.cons r t,f=>.cons (f _ _ r) (Paired.oJ t f)
def sV.nk(x:sV P w H h a o)(k:∀b u,(b=a\/H b=Fa (.own a))->h.get? b=Fa u->h'.get? b=Fa u) (ho:∀b,H b=Fa (.own a)->H' b=Fa (.own a)) (ht:∀b xs,H b=Fa (.tup xs)->H' b=Fa (.tup xs)):sV P w H' h' a o:=by
 induction o with
 | lst xs=>obtain⟨z,its,n,r,e⟩:=x;exact⟨z,its,n,r,k _ _ (.inl Z') e⟩
 | tup xs=>obtain⟨z,its,r,ob,e,c⟩:=x;exact⟨z,its,r,ob,k _ _ (.inl Z') e,c⟩
 | dK kvs=>obtain⟨z,y,vs,r,ob,es,ep,e,c⟩:=x;exact⟨z,y,vs,r,ob,es,ep,k _ _ (.inl Z') e,c⟩
 | dT kvs=>obtain⟨z,y,xs,r,ob,es,ep,e,c⟩:=x;exact⟨z,y,xs,Paired.oJ r λp q z=>⟨z.1,ht _ _ z.2.1,z.2.2⟩,ob,es,ep,k _ _ (.inl Z') e,c⟩
 | set S n=>obtain⟨ob,es,ep,t,e,c⟩:=x;exact⟨ob,es,ep,t,k _ _ (.inl Z') e,c⟩
 | ins C dx fs=>obtain⟨d,z,ne,e,mA,⟨od,es,ep,e2,c⟩,r⟩:=x;exact⟨ho _ d,z,ne,k _ _ (.inl Z') e,mA,⟨od,es,ep,k _ _ (.inr d) e2,c⟩,r⟩
 | own y=>obtain⟨ob,e⟩:=x;exact⟨ob,k _ _ (.inl Z') e⟩
 | xd fs=>obtain⟨mA,⟨od,es,ep,e,c⟩,r⟩:=x;exact⟨mA,⟨od,es,ep,k _ _ (.inl Z') e,c⟩,r⟩
 | rng lo hi=>obtain⟨t,u,v,e⟩:=x;exact⟨t,u,v,k _ _ (.inl Z') e⟩
 | frz ob u ih=>obtain⟨e,q⟩:=x;exact⟨k _ _ (.inl Z') e,ih q⟩
 | tbl ps=>have e:h.get? a=Fa {cls:=.none,data:=.fields ps}:=x;show h'.get? a=Fa {cls:=.none,data:=.fields ps};exact k a _ (.inl Z') e
 | met f y=>have e:h.get? a=Fa (W.methodObj (.ref f) (.ref y)):=x;show h'.get? a=Fa (W.methodObj (.ref f) (.ref y));exact k a _ (.inl Z') e
 | ext φ=>obtain⟨p,⟨o,e⟩,st⟩:=x;exact⟨st _ _ p λo q=>k _ _ (.inl Z') q,⟨o,k _ _ (.inl Z') e⟩,st⟩
def yu.lt(x:yu P w H h)(e:H a=Fa o):a<h.objs.size:=(x a o e).lt
def yu.fresh(x:yu P w H h)(e:h.objs.size<=a):H a=Db:=by
 cases q:H a with
 | none=>rfl
 | some u=>exact absurd (dE (x.lt q) e) (eN _)
def yu.kept(x:yu P w H h)(k:∀b u,h.get? b=Fa u->h'.get? b=Fa u):yu P w H h':=λa o e=>(x a o e).nk (λb u _ q=>k b u q) (λ_ q=>q) λ_ _ q=>q
def yu.laid(x:yu P w H h)(k:∀b u,h.get? b=Fa u->h'.get? b=Fa u)(hp:h.objs.size<=a)(new:sV P w (upd H a o) h' a o):yu P w (upd H a o) h':=λb u e=>by
 have hn:=x.fresh hp;by_cases hb:b=a
 .subst hb;rw[qh]at e;cases e;exact new
 .rw[pZ hb]at e;exact(x b u e).nk (λc v _ q=>k c v q) (λc q=>by rw[pZ (qP q hn)];exact q) λc xs q=>by rw[pZ (qP q hn)];exact q
end
def Rd(H:Hp)(a:Uf)(u:HO):Prop:=H a=Fa u\/∃o,H a=Fa (.frz o u)
def Rd.ok(r:Rd H a u)(x:yu P w H h):sV P w H h a u:=by
 rcases r with r|⟨o,r⟩
 .exact x a u r
 .obtain⟨_,q⟩:=x a _ r;exact q
def Ug:Option HO->Prop
 | some (.lst _)=>True
 | some (.dK _)=>True
 | some (.dT _)=>True
 | some (.set _ _)=>True
 | some (.ins _ _ _)=>True
 | some (.ext _)=>True
 | _=>False
variable {o':HO}
section
variable {P:Pg}{w:Wo}{x e:Uf}
def yu.write(ok:yu P w H h)(mu:Ug (H x))(he:e=x\/H e=Fa (.own x))(k:∀b u,b≠e->h.get? b=Fa u->h'.get? b=Fa u)(heo:∃u,h'.get? e=Fa u) (new:sV P w (upd H x o') h' x o'):yu P w (upd H x o') h':=λb u q=>by
 have nown:∀c y,H c=Fa (.own y)->c≠x:=λc y r z=>by subst z;rw[r]at mu;exact mu
 have ntup:∀c xs,H c=Fa (.tup xs)->c≠x:=λc xs r z=>by subst z;rw[r]at mu;exact mu
 by_cases hb:b=x
 .subst hb;rw[qh]at q;cases q;exact new
 .rw[pZ hb]at q;by_cases hbe:b=e
  .have q':H b=Fa (.own x):=by
    rcases he with z|z
    .exact absurd (hbe.trans z) hb
    .rw[hbe];exact z
   rw[q]at q';cases q';obtain⟨v,hv⟩:=heo;exact⟨v,by rw[hbe];exact hv⟩
  .refine(ok b u q).nk (λc v hc r=>k c v ?_ r) (λc r=>by rw[pZ (nown c b r)];exact r) λc xs r=>by rw[pZ (ntup c xs r)];exact r
   rcases hc with rfl|hc
   .exact hbe
   .rintro rfl
    rcases he with z|z
    .exact nown c b hc z
    .rw[hc]at z;cases z;exact hb Z'
end
structure Un(fs ex:QXQ)(H H':Hp)(h h':Go):Prop where
 keep:∀b o,h.get? b=Fa o->H b=Db->b∉fs->b∉ex->h'.get? b=Fa o
 slot:∀b o,h.get? b=Fa o->H b=Db->b∈fs->b∉ex->∃sl,h'.get? b=Fa {o with slots:=sl}
 free:∀b o,h.get? b=Fa o->H b=Db->b∉ex->H' b=Db
 there:∀b o,h.get? b=Fa o->b∉ex->∃o',h'.get? b=Fa o'
 nC:∀b xs,H b=Fa (.tup xs)->H' b=Fa (.tup xs)
 nu:∀b o u,H b=Fa (.frz o u)->H' b=Fa (.frz o u)
 nI:∀b ps,H b=Fa (.tbl ps)->∃more,H' b=Fa (.tbl (ps++more))
variable {ex ex':QXQ}{H1 H2:Hp}{h1 h2:Go}
section
variable {fs fs':QXQ}{a x e:Uf}{o:HO}
def Un.any(u:Un fs ex H H1 h h1){b:Uf}{ob:Obj}(q:h.get? b=Fa ob)(n:H b=Db)(hx:b∉ex):∃sl,h1.get? b=Fa {ob with slots:=sl}:=by
 by_cases hb:b∈fs
 .exact u.slot b ob q n hb hx
 .exact⟨ob.slots,u.keep b ob q n hb hx⟩
def Un.trans(a:Un fs ex H H1 h h1)(b:Un fs ex H1 H2 h1 h2):Un fs ex H H2 h h2 where
 keep:=λc ob q n hc hx=>b.keep c ob (a.keep c ob q n hc hx) (a.free c ob q n hx) hc hx
 slot:=λc ob q n hc hx=>by obtain⟨sl,e1⟩:=a.slot c ob q n hc hx;obtain⟨X2,e2⟩:=b.slot c _ e1 (a.free c ob q n hx) hc hx;exact⟨X2,e2⟩
 free:=λc ob q n hx=>by obtain⟨o',e1⟩:=a.there c ob q hx;exact b.free c o' e1 (a.free c ob q n hx) hx
 there:=λc ob q hx=>by obtain⟨o',e1⟩:=a.there c ob q hx;exact b.there c o' e1 hx
 nC:=λc xs q=>b.nC c xs (a.nC c xs q)
 nu:=λc ob xs q=>b.nu c ob xs (a.nu c ob xs q)
 nI:=λc ps q=>by obtain⟨m1,e1⟩:=a.nI c ps q;obtain⟨m2,e2⟩:=b.nI c _ e1;exact⟨m1++m2,by rw[e2,kQ]⟩
def Un.kept(k:∀b u,h.get? b=Fa u->h'.get? b=Fa u):Un fs ex H H h h':=
 ⟨λb ob q _ _ _=>k b ob q,λb ob q _ _ _=>⟨ob.slots,k b ob q⟩,λ_ _ _ n _=>n,λb ob q _=>⟨ob,k b ob q⟩,λ_ _ q=>q,λ_ _ _ q=>q,λ_ ps q=>⟨#[],by rw[q];simp⟩⟩
def Un.refl:Un fs ex H H h h:=Un.kept λ_ _ q=>q
def Un.laid(k:∀b u,h.get? b=Fa u->h'.get? b=Fa u)(hp:h.objs.size<=a)(hn:H a=Db):Un fs ex H (upd H a o) h h' where
 keep:=λb u q _ _ _=>k b u q
 slot:=λb u q _ _ _=>⟨u.slots,k b u q⟩
 free:=λb u q n _=>by rw[pZ (dJ (dE (dv q) hp))];exact n
 there:=λb u q _=>⟨u,k b u q⟩
 nC:=λb xs q=>by rw[pZ (qP q hn)];exact q
 nu:=λb u xs q=>by rw[pZ (qP q hn)];exact q
 nI:=λb ps q=>⟨#[],by rw[pZ (qP q hn),q];simp⟩
def Un.write(mu:Ug (H x))(he:e=x\/H e=Fa (.own x))(k:∀b u,b≠e->h.get? b=Fa u->h'.get? b=Fa u)(heo:∃u,h'.get? e=Fa u):Un fs ex H (upd H x o) h h':=by
 have hx:∀b,H b=Db->b≠x:=λb n z=>by subst z;rw[n]at mu;exact mu
 have hb:∀b,H b=Db->b≠e:=λb n z=>by
  subst z;rcases he with r|r
  .exact hx b n r
  .rw[n]at r;cases r
 have hm:∀b u,H b=Fa u->¬Ug (Fa u)->b≠x:=λb u q nm z=>by subst z;rw[q]at mu;exact nm mu
 refine⟨λb u q n _ _=>k b u (hb b n) q,λb u q n _ _=>⟨u.slots,k b u (hb b n) q⟩,λb u q n _=>by rw[pZ (hx b n)];exact n,λb u q _=>?_,λb xs q=>by rw[pZ (hm b _ q λz=>z)];exact q,λb u xs q=>by rw[pZ (hm b _ q λz=>z)];exact q,λb ps q=>⟨#[],by rw[pZ (hm b _ q λz=>z),q];simp⟩⟩
 by_cases hbe:b=e
 .subst hbe;exact heo
 .exact⟨u,k b u hbe q⟩
end
noncomputable def US(h:Go)(H:Hp):QXQ:=(List.range h.objs.size).filter λa=>(H a).isSome
noncomputable def EY(h:Go)(H:Hp):Go:=W.hideAll h (US h H)
def Kn(h:Go)(H:Hp):(EY h H).objs.size=h.objs.size:=W.hideAll_size _ _
def MA{h:Go}{H:Hp}{b:Uf}{o:Obj}(e:h.get? b=Fa o)(n:H b=Db):(EY h H).get? b=Fa o:=
 W.hideAll_get _ e λhm=>by have q:(H b).isSome=pc:=(fv.mp hm).2;rw[n]at q;simp at q
def Pl{b:Uf}{o:Obj}(e:(EY h H).get? b=Fa o):h.get? b=Fa o/\H b=Db:=by
 have e':h.get? b=Fa o:=W.of_hideAll (US h H) e;refine⟨e',?_⟩;cases q:H b with
 | none=>rfl
 | some x=>have hm:b∈US h H:=fv.mpr ⟨gf.mpr (dv e'),by simp[q]⟩;have z:(EY h H).get? b=Db:=W.hideAll_none (US h H) hm;rw[z]at e;cases e
structure Mod(K:qx)(mg:QQZ)(base:Go):Prop where
 oK:K.In base
 glob:base.Ns wv mg
 blt:∃mb,base.Ns builtinsNs mb/\∀x:Str,x≠"__name__"->mb x=No x
 nolimit:base.NoLimit
structure Cx where
 prog:Pg
 w:Wo
 K:qx
 mg:QQZ
 base:Go
 A:Ar
 N:QQQ
 s₀:Sd
 H₀:Hp
 env:Env
 outer:List Env
 stack:List Env
 ex:QXQ
 fn:Str->Bool
 calm:Bool
 pn:QQY
 xe:QQX
abbrev Bv(X:Cx)(e:zn)(es:T0 zn):Prop:=Tl (e::es) X.env=(lf,wp e X.env)::Tl es X.env
abbrev CS(X:Cx)(p:Pos)(es:T0 zn):Prop:=(sB p (Tl es X.env)).any (·.1)=lf
abbrev zI(x:Str):Prop:=(x==("__debug__":Str))=lf
abbrev KJ(X:Cx)(x:Str):Prop:=X.fn x=pc\/X.env.scope.names.lookup x=Fa .local
noncomputable def wj(l:T0 Env):QXQ:=l.filterMap (·.frame)
abbrev Cx.fs(X:Cx):QXQ:=wj X.outer
def R5(sc:wS)(x:Str):Prop:=sc.names.lookup x=Fa .local\/sc.names.lookup x=Fa .cell\/sc.names.lookup x=Fa .free
def KI(sc:wS)(x:Str):Prop:=sc.names.lookup x=Fa .local\/sc.names.lookup x=Fa .cell
def Uu(env:Env)(h:Go)(m:QQZ)(x:Str)(u:Vl):Prop:=
 (env.kindOf x=Fa .local/\m x=Fa u)\/((env.kindOf x=Fa .cell\/env.kindOf x=Fa .free)/\∃c,env.cells.lookup x=Fa c/\h.IsCell c (Fa u))
structure Cx.Ok(X:Cx):Prop where
 mod:Mod X.K X.mg X.base
 kind:X.env.scope.kind=.function
 glob:X.env.globals=wv
 blt:X.env.builtins=builtinsNs
 above:X.s₀.heap.objs.size<=X.env.locals
 inj:∀x y c,X.env.cells.lookup x=Fa c->X.env.cells.lookup y=Fa c->x=y
 has:∀x,(X.env.kindOf x=Fa .cell\/X.env.kindOf x=Fa .free)->∃c,X.env.cells.lookup x=Fa c
 oz:∀x c,X.fn x=pc->X.env.cells.lookup x=Fa c->X.s₀.heap.objs.size<=c
 hd:X.calm=pc->X.A.handled=Db
 frames:X.A.frames=Fa X.stack
 oM:X.stack=X.outer\/(X.stack=X.env::X.outer/\X.env.frame=Fa X.env.locals)
 o9:∀b∈X.ex,b≠X.env.locals/\∀x c,X.env.cells.lookup x=Fa c->c≠b
 bs:∀b o,X.base.get? b=Fa o->X.s₀.heap.get? b=Fa o/\X.H₀ b=Db
 oa:X.base.objs.size<=X.s₀.heap.objs.size
 nQ:∀b o,X.base.get? b=Fa o->b∉X.ex
 nW:∀b∈X.ex,b∉X.fs
 nF:X.s₀.heap.FunFrames X.base X.outer
 oo:∀b∈X.fs,X.H₀ b=Db
structure Inv(X:Cx)(Wx:QQY)(Y:List (Option V))(H:Hp)(s:Sd):Prop where
 ok:X.Ok
 os:s.os=X.s₀.os
 bare:ZW s.gens
 base:Un X.fs X.ex X.H₀ H X.s₀.heap s.heap
 loc:∃m,s.heap.Ns X.env.locals m/\∀(i:Nat) (x:Str) (v:V),X.N[i]?=Fa x->Y[i]?=Fa (Fa v)->R5 X.env.scope x->∃u,qL v u/\Uu X.env s.heap m x u
 cell:∀x c,X.env.cells.lookup x=Fa c->∃v,s.heap.IsCell c v
 free:H X.env.locals=Db
 mX:∀x c,X.env.cells.lookup x=Fa c->H c=Db
 pin:∀p∈X.pn++Wx,s.heap.get? p.1=Fa p.2/\H p.1=Db/\p.1≠X.env.locals/\p.1∉X.fs/\∀v,p.2.data≠.cell v
 mQ:yu X.prog X.w H s.heap
 len:Y.length=X.N.length
variable {X:Cx}{Wx:T0 (Uf × Obj)}{s:Sd}
section
variable {Y:T0 (Option V)}
def Cx.Ok.nofr(ok:X.Ok){b:Uf}{o:Obj}(e:X.base.get? b=Fa o):b∉X.fs:=λhb=>by have:=(ok.nF.mem hb).1;rw[e]at this;cases this
def Inv.bs(I:Inv X Wx Y H s):∀b o,X.base.get? b=Fa o->s.heap.get? b=Fa o/\H b=Db:=λb o e=>⟨I.base.keep b o (I.ok.bs b o e).1 (I.ok.bs b o e).2 (I.ok.nofr e) (I.ok.nQ b o e),I.base.free b o (I.ok.bs b o e).1 (I.ok.bs b o e).2 (I.ok.nQ b o e)⟩
def Inv.bk(I:Inv X Wx Y H s):∀b o,X.base.get? b=Fa o->s.heap.get? b=Fa o:=λb o e=>(I.bs b o e).1
def Inv.mod(I:Inv X Wx Y H s):Mod X.K X.mg X.base:=I.ok.mod
def Inv.nA(I:Inv X Wx Y H s):X.K.In s.heap:=I.ok.mod.oK.keeps I.bk
def Inv.lt(I:Inv X Wx Y H s):X.env.locals<s.heap.objs.size:=let⟨_,hn,_⟩:=I.loc;hn.lt
def Inv.sz(I:Inv X Wx Y H s):X.s₀.heap.objs.size<=s.heap.objs.size:=dY I.ok.above (kS I.lt)
def Inv.oY(I:Inv X Wx Y H s){a:Uf}(h:s.heap.objs.size<=a):a∉X.fs:=λhb=>by obtain⟨_,o,ho,_⟩:=I.ok.nF.mem hb;exact absurd (dE (dv ho) (dY I.sz h)) (eN _)
def Inv.pb(I:Inv X Wx Y H s):∀x c,X.env.cells.lookup x=Fa c->c≠X.env.locals:=λx c e z=>by obtain⟨v,o,ho,hd⟩:=I.cell x c e;obtain⟨m,⟨o',es,ep,Xd,hd',_⟩,_⟩:=I.loc;rw[z,Xd]at ho;cases ho;rw[hd']at hd;cases hd
def Inv.nF(I:Inv X Wx Y H s):s.heap.FunFrames X.base X.outer:=by
 have all:∀(l:T0 Env),(∀b∈wj l,b∈X.fs)->X.s₀.heap.FunFrames X.base l->s.heap.FunFrames X.base l:=by
  intro l;induction l with
  | nil=>intro _ _;trivial
  | cons env r ih=>intro hs hl;obtain⟨hk,⟨L,o,hf,hn,ho,hd⟩,hr⟩:=hl;have hL:L∈X.fs:=hs L (by unfold wj;rw[fV,hf];exact dI);obtain⟨sl,e⟩:=I.base.slot L o ho (I.ok.oo L hL) hL λz=>I.ok.nW L z hL;exact⟨hk,⟨L,_,hf,hn,e,hd⟩,ih (λb hb=>hs b (by unfold wj;rw[fV,hf];exact dz _ hb)) hr⟩
 exact all X.outer (λ_ hb=>hb) I.ok.nF
def Inv.stack(I:Inv X Wx Y H s):s.heap.FunFrames X.base X.stack:=by
 rcases I.ok.oM with e|⟨e,hf⟩
 .rw[e];exact I.nF
 .rw[e];obtain⟨m,hn,_⟩:=I.loc;refine .cons (by rw[I.ok.kind];decide) hf hn ?_ I.nF;exact gJ (dY I.ok.oa I.ok.above)
def Inv.nH(I:Inv X Wx Y H s):∀b∈wj X.stack,b∈X.env.locals::X.fs:=λb hb=>by
 rcases I.ok.oM with e|⟨e,hf⟩
 .rw[e]at hb;exact dz _ hb
 .rw[e]at hb;unfold wj at hb;rw[fV,hf]at hb;exact hb
def Inv.nJ(I:Inv X Wx Y H s):∀b∈wj X.stack,H b=Db:=λb hb=>by
 rcases de.mp (I.nH b hb)with e|hb
 .rw[e];exact I.free
 .obtain⟨_,o,ho,_⟩:=I.ok.nF.mem hb;exact I.base.free b o ho (I.ok.oo b hb) λz=>I.ok.nW b z hb
def Inv.step{g':Array GenState}{t':Nat}{d':Drawn}{ch:QXQ}(I:Inv X Wx Y H s) (Xv:∀b∈ch,(b∈X.ex\/X.s₀.heap.objs.size<=b)/\b≠X.env.locals/\(∀x c,X.env.cells.lookup x=Fa c->c≠b)/\∀p∈X.pn++Wx,p.1≠b) (keep:∀b o,b≠X.env.locals->b∉X.fs->b∉ch->s.heap.get? b=Fa o->H b=Db->h'.get? b=Fa o) (slot:∀b o,b≠X.env.locals->b∈X.fs->b∉ch->s.heap.get? b=Fa o->H b=Db->∃sl,h'.get? b=Fa {o with slots:=sl}) (free:∀b o,b∉ch->s.heap.get? b=Fa o->H b=Db->H' b=Db)
  (there:∀b o,b∉ch->s.heap.get? b=Fa o->∃o',h'.get? b=Fa o')
  (nC:∀b xs,H b=Fa (.tup xs)->H' b=Fa (.tup xs)) (nu:∀b o u,H b=Fa (.frz o u)->H' b=Fa (.frz o u)) (nI:∀b ps,H b=Fa (.tbl ps)->∃more,H' b=Fa (.tbl (ps++more)))
  (ns:∀m,s.heap.Ns X.env.locals m->h'.Ns X.env.locals m) (mQ:yu X.prog X.w H' h') (hg:ZW g'):
  Inv X Wx Y H' {s with heap:=h',gens:=g',drawn:=d',toks:=t'}:=by
 have neL:∀b o,X.s₀.heap.get? b=Fa o->b≠X.env.locals:=λb o e=>dJ (dE (dv e) I.ok.above);have neC:∀b o,X.s₀.heap.get? b=Fa o->b∉X.ex->b∉ch:=λb o e hx hb=>by
  rcases(Xv b hb).1 with z|z
  .exact hx z
  .exact absurd (dE (dv e) z) (eN _)
 have YY:∀x c,X.env.cells.lookup x=Fa c->∀v,s.heap.IsCell c v->h'.IsCell c v:=λx c e v ⟨o,ho,hd⟩=>by
  have nch:c∉ch:=λz=>(Xv c z).2.2.1 x c e Z';by_cases hc:c∈X.fs
  .obtain⟨sl,q⟩:=slot c o (I.pb x c e) hc nch ho (I.mX x c e);exact⟨_,q,hd⟩
  .exact⟨o,keep c o (I.pb x c e) hc nch ho (I.mX x c e),hd⟩
 refine⟨I.ok,I.os,hg,⟨λb o e n hb hx=>?_,λb o e n hb hx=>?_,λb o e n hx=>?_,λb o e hx=>?_,λb xs e=>nC b xs (I.base.nC b xs e),λb o xs e=>nu b o xs (I.base.nu b o xs e),λb ps e=>?_⟩,?_,λx c e=>?_,?_,λx c e=>?_,λp hp=>?_,mQ,I.len⟩
 .exact keep b o (neL b o e) hb (neC b o e hx) (I.base.keep b o e n hb hx) (I.base.free b o e n hx)
 .obtain⟨sl,e1⟩:=I.base.slot b o e n hb hx;obtain⟨X2,e2⟩:=slot b _ (neL b o e) hb (neC b o e hx) e1 (I.base.free b o e n hx);exact⟨X2,e2⟩
 .obtain⟨o',e1⟩:=I.base.there b o e hx;exact free b o' (neC b o e hx) e1 (I.base.free b o e n hx)
 .obtain⟨o',e1⟩:=I.base.there b o e hx;exact there b o' (neC b o e hx) e1
 .obtain⟨m1,e1⟩:=I.base.nI b ps e;obtain⟨m2,e2⟩:=nI b _ e1;exact⟨m1++m2,by rw[e2,kQ]⟩
 .obtain⟨m,hn,hl⟩:=I.loc;refine⟨m,ns m hn,λi x v e1 e2 e3=>?_⟩;obtain⟨u,r,l⟩:=hl i x v e1 e2 e3;refine⟨u,r,?_⟩;rcases l with l|⟨k,c,e,z⟩
  .exact .inl l
  .exact .inr ⟨k,c,e,YY x c e _ z⟩
 .obtain⟨v,z⟩:=I.cell x c e;exact⟨v,YY x c e v z⟩
 .obtain⟨m,⟨o,_,_,ho,_⟩,_⟩:=I.loc;exact free _ o (λz=>(Xv _ z).2.1 Z') ho I.free
 .obtain⟨v,o,ho,hd⟩:=I.cell x c e;exact free c o (λz=>(Xv c z).2.2.1 x c e Z') ho (I.mX x c e)
 .obtain⟨e,n,ne,nf,d⟩:=I.pin p hp;have nch:p.1∉ch:=λz=>(Xv p.1 z).2.2.2 p hp Z';exact⟨keep p.1 p.2 ne nf nch e n,free p.1 p.2 nch e n,ne,nf,d⟩
def Inv.un{t':Nat}(I:Inv X Wx Y H s)(u:Un X.fs [] H H' s.heap h')(mQ:yu X.prog X.w H' h'):Inv X Wx Y H' {s with heap:=h',toks:=t'}:=by
 obtain⟨m,⟨o,es,ep,ho,r⟩,_⟩:=id I.loc;obtain⟨sl,hL⟩:=u.any ho I.free (by simp);exact I.step (g':=s.gens) (d':=s.drawn) (ch:=[]) (λ_ z=>nomatch z) (λb o _ hb _ e n=>u.keep b o e n hb (by simp)) (λb o _ hb _ e n=>u.slot b o e n hb (by simp)) (λb o _ e n=>u.free b o e n (by simp)) (λb o _ e=>u.there b o e (by simp)) u.nC u.nu u.nI (λm' hm=>by
  obtain⟨o',es',ep',Xd,r'⟩:=hm;rw[ho]at Xd;cases Xd;exact⟨_,es',ep',hL,r'⟩) mQ I.bare
def Inv.call{t':Nat}{d':Drawn}(I:Inv X Wx Y H s)(u:Un (wj X.stack) ch H H' s.heap h')(mQ:yu X.prog X.w H' h')(hg:ZW g') (Xv:∀b∈ch,(b∈X.ex\/X.s₀.heap.objs.size<=b)/\b≠X.env.locals/\(∀x c,X.env.cells.lookup x=Fa c->c≠b)/\∀p∈X.pn++Wx,p.1≠b):
  Inv X Wx Y H' {s with heap:=h',gens:=g',drawn:=d',toks:=t'}:=by
 obtain⟨m,⟨o,es,ep,ho,r⟩,_⟩:=id I.loc;obtain⟨sl,hL⟩:=u.any ho I.free λz=>(Xv _ z).2.1 Z';exact I.step (ch:=ch) Xv (λb o hL hb hc e n=>u.keep b o e n (λz=>(de.mp (I.nH b z)).elim hL hb) hc) (λb o _ _ hc e n=>u.any e n hc) (λb o hc e n=>u.free b o e n hc) (λb o hc e=>u.there b o e hc) u.nC u.nu u.nI (λm' hm=>by
  obtain⟨o',es',ep',Xd,r'⟩:=hm;rw[ho]at Xd;cases Xd;exact⟨_,es',ep',hL,r'⟩) mQ hg
def Inv.turned{t':Nat}{it:Uf}(I:Inv X Wx Y H s)(k:∀b o,b≠it->s.heap.get? b=Fa o->h'.get? b=Fa o)(hn:H it=Db)(hL:it≠X.env.locals) (h1:it∈X.ex\/X.s₀.heap.objs.size<=it) (h2:∀x c,X.env.cells.lookup x=Fa c->c≠it) (h3:∀p∈X.pn++Wx,p.1≠it):Inv X Wx Y H {s with heap:=h',toks:=t'}:=by
 have nit:∀b u,H b=Fa u->b≠it:=λb u e z=>by rw[z,hn]at e;cases e
 refine I.step (g':=s.gens) (d':=s.drawn) (ch:=[it]) (λb hb=>?_) (λb o _ _ hc e _=>k b o (λz=>hc (by simp[z])) e) (λb o _ _ hc e _=>⟨o.slots,k b o (λz=>hc (by simp[z])) e⟩) (λ_ _ _ _ n=>n)
  (λb o hc e=>⟨o,k b o (λz=>hc (by simp[z])) e⟩) (λ_ _ e=>e) (λ_ _ _ e=>e) (λb ps e=>⟨#[],by rw[e];simp⟩) (λm hm=>?_) (λb u e=>?_) I.bare
 .have e:b=it:=by simpa using hb
  subst e;exact⟨h1,hL,h2,h3⟩
 .obtain⟨o,es,ep,ho,r⟩:=hm;exact⟨o,es,ep,k _ o (dG hL) ho,r⟩
 .refine(I.mQ b u e).nk (λc v hc q=>k c v ?_ q) (λ_ q=>q) λ_ _ q=>q;rcases hc with z|z
  .rw[z];exact nit b u e
  .exact nit c _ z
def Inv.tok(I:Inv X Wx Y H s)(t:Nat):Inv X Wx Y H {s with toks:=t}:=I.un (h':=s.heap) (t':=t) Un.refl I.mQ
def Inv.kept{t':Nat}(I:Inv X Wx Y H s)(k:∀b u,s.heap.get? b=Fa u->h'.get? b=Fa u):Inv X Wx Y H {s with heap:=h',toks:=t'}:=I.un (Un.kept k) (I.mQ.kept k)
def Inv.laid{a:Uf}{t':Nat}(I:Inv X Wx Y H s)(k:∀b u,s.heap.get? b=Fa u->h'.get? b=Fa u)(hp:s.heap.objs.size<=a)(new:sV X.prog X.w (upd H a o) h' a o):
  Inv X Wx Y (upd H a o) {s with heap:=h',toks:=t'}:=I.un (Un.laid k hp (I.mQ.fresh hp)) (I.mQ.laid k hp new)
def Inv.write{x e:Uf}{t':Nat}(I:Inv X Wx Y H s)(mu:Ug (H x))(he:e=x\/H e=Fa (.own x))(k:∀b u,b≠e->s.heap.get? b=Fa u->h'.get? b=Fa u)(heo:∃u,h'.get? e=Fa u) (new:sV X.prog X.w (upd H x o) h' x o):Inv X Wx Y (upd H x o) {s with heap:=h',toks:=t'}:=I.un (Un.write mu he k heo) (I.mQ.write mu he k heo new)
def Inv.nM{Xw:QQY}(I:Inv X Wx Y H s)(h:∀p∈Xw,s.heap.get? p.1=Fa p.2/\H p.1=Db/\p.1≠X.env.locals/\p.1∉X.fs/\∀v,p.2.data≠.cell v):Inv X Xw Y H s:=
 ⟨I.ok,I.os,I.bare,I.base,I.loc,I.cell,I.free,I.mX,λp hp=>(dR.mp hp).elim (λz=>I.pin p (fz _ z)) (h p),I.mQ,I.len⟩
def B9{N:QQQ}(hN:N.Nodup){i j:Nat}{x:Str}(a:N[i]?=Fa x)(b:N[j]?=Fa x):i=j:=by obtain⟨h1,e1⟩:=cU.mp a;obtain⟨h2,e2⟩:=cU.mp b;exact(lK hN).mp (e1.trans e2.symm)
def DL{M:Model}{A:Ar}{E:QQX}{i:Nat}{x:Str}{Q:Unit->Sd->Prop}(I:Inv X Wx Y H s)(hN:X.N.Nodup)(hi:X.N[i]?=Fa x)(hx:KI X.env.scope x)(r:qL v u) (h:∀s',Inv X Wx (Y.set i (Fa v)) H s'->(∃a,Heap.SameBut a s.heap s'.heap/\(a=X.env.locals\/X.env.cells.lookup x=Fa a))->Q () s') (hf:KJ X x:=by first|exact .inl Z'|exact .inr Z'|assumption):pi M A (storeName X.env x u) Q E s:=by
 obtain⟨m,hn,hl⟩:=id I.loc;have Ze:(X.env.scope.kind==.class||(X.env.scope.kind==.module&&X.env.locals != X.env.globals))=lf:=by rw[I.ok.kind];rfl
 have hiσ:i<Y.length:=by rw[I.len];exact(cU.mp hi).1
 have pb:=I.pb;have WM:∀{a:Uf} {h':Go},(∃o,s.heap.get? a=Fa o/\H a=Db)->Heap.SameBut a s.heap h'->yu X.prog X.w H h':=λ{a h'} ha hs b ob e=>by
  obtain⟨_,_,Xj⟩:=ha;refine(I.mQ b ob e).nk (λc w' hc q=>(hs.2 c ?_).trans q) (λ_ q=>q) λ_ _ q=>q
  rintro rfl
  rcases hc with rfl|hc
  .rw[Xj]at e;cases e
  .rw[Xj]at hc;cases hc
 rcases hx with hk|hk
 .refine wpAny_storeName_local hk hn (λh' XF hs=>?_) Ze;obtain⟨oL,_,_,hoL,_⟩:=id hn;refine h _ ⟨I.ok,I.os,I.bare,⟨λb o e n hb hx=>?_,λb o e n hb hx=>?_,I.base.free,λb o e hx=>?_,I.base.nC,I.base.nu,I.base.nI⟩,⟨_,XF,λj y v' e1 e2 e3=>?_⟩,λy c e=>?_,I.free,I.mX,λp hp=>?_,WM ⟨oL,hoL,I.free⟩ hs,by simpa using I.len⟩ ⟨_,hs,.inl Z'⟩
  .exact(hs.2 b (dJ (dE (dv e) I.ok.above))).trans (I.base.keep b o e n hb hx)
  .obtain⟨sl,e1⟩:=I.base.slot b o e n hb hx;exact⟨sl,(hs.2 b (dJ (dE (dv e) I.ok.above))).trans e1⟩
  .obtain⟨o',e1⟩:=I.base.there b o e hx;exact⟨o',(hs.2 b (dJ (dE (dv e) I.ok.above))).trans e1⟩
  .by_cases hj:j=i
   .subst hj;rw[hi]at e1;cases e1;rw[eI hiσ]at e2;cases e2;exact⟨u,r,.inl ⟨hk,by simp⟩⟩
   .rw[eP (dG hj)]at e2;obtain⟨u',r',q⟩:=hl j y v' e1 e2 e3;refine⟨u',r',?_⟩;rcases q with⟨k,e⟩|⟨k,c,e,z⟩
    .refine .inl ⟨k,?_⟩;have:y≠x:=λe=>hj (B9 hN e1 (e ▸ hi));simp[this,e]
    .exact .inr ⟨k,c,e,z.sameBut hs (pb y c e)⟩
  .obtain⟨w',z⟩:=I.cell y c e;exact⟨w',z.sameBut hs (pb y c e)⟩
  .obtain⟨e,n,ne,nf,d⟩:=I.pin p hp;exact⟨(hs.2 p.1 ne).trans e,n,ne,nf,d⟩
 .have hfn:X.fn x=pc:=by
   rcases hf with z|z
   .exact z
   .rw[z]at hk;cases hk
  obtain⟨c,hc⟩:=I.ok.has x (.inl hk);obtain⟨w',z⟩:=I.cell x c hc;refine wpAny_storeName_cell I.ok.kind hk hc z (λh' hc' hs=>?_);obtain⟨oc,hoc,hocd⟩:=id z;refine h {s with heap:=h'} ⟨I.ok,I.os,I.bare,⟨λb o e n hb hx=>?_,λb o e n hb hx=>?_,I.base.free,λb o e hx=>?_,I.base.nC,I.base.nu,I.base.nI⟩,⟨m,hn.sameBut hs (dG (pb x c hc)),λj y v' e1 e2 e3=>?_⟩,λy c' e=>?_,I.free,I.mX,λp hp=>?_,WM ⟨oc,hoc,I.mX x c hc⟩ hs,by simpa using I.len⟩ ⟨c,hs,.inr hc⟩
  .exact(hs.2 b (dJ (dE (dv e) (I.ok.oz x c hfn hc)))).trans (I.base.keep b o e n hb hx)
  .obtain⟨sl,e1⟩:=I.base.slot b o e n hb hx;exact⟨sl,(hs.2 b (dJ (dE (dv e) (I.ok.oz x c hfn hc)))).trans e1⟩
  .obtain⟨o',e1⟩:=I.base.there b o e hx;exact⟨o',(hs.2 b (dJ (dE (dv e) (I.ok.oz x c hfn hc)))).trans e1⟩
  .by_cases hj:j=i
   .subst hj;rw[hi]at e1;cases e1;rw[eI hiσ]at e2;cases e2;exact⟨u,r,.inr ⟨.inl hk,c,hc,hc'⟩⟩
   .rw[eP (dG hj)]at e2;obtain⟨u',r',q⟩:=hl j y v' e1 e2 e3;refine⟨u',r',?_⟩;rcases q with q|⟨k,c',e,z'⟩
    .exact .inl q
    .refine .inr ⟨k,c',e,z'.sameBut hs ?_⟩
     rintro rfl
     exact hj (B9 hN e1 (I.ok.inj _ _ _ e hc ▸ hi))
  .by_cases YZ:c'=c
   .subst YZ;exact⟨_,hc'⟩
   .obtain⟨w2,z2⟩:=I.cell y c' e;exact⟨w2,z2.sameBut hs YZ⟩
  .obtain⟨e,n,ne,nf,d⟩:=I.pin p hp;refine⟨(hs.2 p.1 ?_).trans e,n,ne,nf,d⟩;intro q;rw[q,hoc]at e;have q':oc=p.2:=cY e;exact d w' (by rw[<-q'];exact hocd)
def xP{M:Model}{A:Ar}{E:QQX}{i:Nat}{x:Str}{Q:Unit->Sd->Prop}(I:Inv X Wx Y H s)(hN:X.N.Nodup)(hi:X.N[i]?=Fa x)(hx:KI X.env.scope x)(r:qL v u) (h:∀s',Inv X Wx (Y.set i (Fa v)) H s'->Q () s') (hf:KJ X x:=by first|exact .inl Z'|exact .inr Z'|assumption):pi M A (storeName X.env x u) Q E s:=
 DL I hN hi hx r (λs' I' _=>h s' I') hf
def Inv.oV{s':Sd}(I:Inv X Wx Y H s)(ho:s'.os=s.os)(u:Un (wj X.stack) ch H H' s.heap s'.heap)(mQ:yu X.prog X.w H' s'.heap)(hg:ZW s'.gens) (Xv:∀b∈ch,(b∈X.ex\/X.s₀.heap.objs.size<=b)/\b≠X.env.locals/\(∀x c,X.env.cells.lookup x=Fa c->c≠b)/\∀p∈X.pn++Wx,p.1≠b):Inv X Wx Y H' s':=by
 obtain⟨h',g',d',t',o'⟩:=s';have e:o'=s.os:=ho;subst e;exact I.call (g':=g') (t':=t') (d':=d') u mQ hg Xv
end
abbrev XK:=Vl->Option Uf->Hp->Prop
abbrev St:=T0 (Option V)
abbrev VK:=V->Hp->Prop
abbrev TE:=St->Hp->VK->Prop
abbrev TT:=St->Hp->(Bool->Hp->Prop)->Prop
abbrev TA:=St->Hp->(T0 V->Hp->Prop)->Prop
structure ES where
 nx:St->Hp->Prop
 rt:VK
 bk:St->Hp->Prop:=λ_ _=>False
 ct:St->Hp->Prop:=λ_ _=>False
abbrev TS:=ES->St->Hp->Prop
def EP(X:Cx)(Wx:QQY)(Y:St)(Q:VK)(u:Vl)(s':Sd):Prop:=∃v H',Inv X Wx Y H' s'/\qL v u/\Q v H'
def TP(X:Cx)(Wx:QQY)(Y:St)(Q:Bool->Hp->Prop)(b:Bool)(s':Sd):Prop:=∃H',Inv X Wx Y H' s'/\Q b H'
def AP(X:Cx)(Wx:QQY)(Y:St)(Q:T0 V->Hp->Prop)(us:T0 Vl)(s':Sd):Prop:=∃vs H',Inv X Wx Y H' s'/\qF vs us/\Q vs H'
def SP(X:Cx)(Wx:QQY)(D:ES)(f:Flow)(s':Sd):Prop:=
 match f with
 | .next=>∃σ' H',Inv X Wx σ' H' s'/\D.nx σ' H'
 | .brk=>∃σ' H',Inv X Wx σ' H' s'/\D.bk σ' H'
 | .cont=>∃σ' H',Inv X Wx σ' H' s'/\D.ct σ' H'
 | .ret u=>∃v σ' H',Inv X Wx σ' H' s'/\qL v u/\D.rt v H'
def PE(X:Cx)(e:zn)(t:TE):Prop:=
 ∀(Wx:QQY) (s:Sd) (Y:St) (H:Hp) (Q:VK),Inv X Wx Y H s->t Y H Q->pi (Tk X.prog X.w) X.A (wp e X.env) (EP X Wx Y Q) X.xe s
def PT(X:Cx)(e:zn)(t:TT):Prop:=
 ∀(Wx:QQY) (s:Sd) (Y:St) (H:Hp) (Q:Bool->Hp->Prop),Inv X Wx Y H s->t Y H Q->pi (Tk X.prog X.w) X.A (isTrue e X.env (wp e X.env)) (TP X Wx Y Q) X.xe s
def PW(X:Cx)(e:zn)(t:TT):Prop:=
 ∀(W5:Sem Vl) (Wx:QQY) (s:Sd) (Y:St) (H:Hp) (Q:Bool->Hp->Prop),Inv X Wx Y H s->t Y H Q->pi (Tk X.prog X.w) X.A (isTrue e X.env W5) (TP X Wx Y Q) X.xe s
def PW.pt(h:PW X e t):PT X e t:=h _
def PA(X:Cx)(es:T0 zn)(t:TA):Prop:=
 ∀(pos:Pos) (Wx:QQY) (s:Sd) (Y:St) (H:Hp) (Q:T0 V->Hp->Prop),Inv X Wx Y H s->t Y H Q->pi (Tk X.prog X.w) X.A (spliced (sB pos (Tl es X.env))) (AP X Wx Y Q) X.xe s
def PS(X:Cx)(st:wE)(t:TS):Prop:=
 ∀(Wx:QQY) (s:Sd) (Y:St) (H:Hp) (D:ES),Inv X Wx Y H s->t D Y H->pi (Tk X.prog X.w) X.A (exec st X.env) (SP X Wx D) X.xe s
def B4(X:Cx)(st:T0 wE)(t:TS):Prop:=
 ∀(Wx:QQY) (s:Sd) (Y:St) (H:Hp) (D:ES),Inv X Wx Y H s->t D Y H->pi (Tk X.prog X.w) X.A (execs st X.env) (SP X Wx D) X.xe s
def sG{α:Type}{t:Sem α}{Q Q':α->Sd->Prop}{M:Model}{A:Ar}{E:QQX}{s:Sd}(h:pi M A t Q E s)(hQ:∀a s,Q a s->Q' a s):pi M A t Q' E s:=d9 h hQ λ_ _ x=>x
variable {tA tB':TT}{ta tb:TE}{pos:Pos}
section
def Ek(i:Nat):TE:=λY H Q=>∃v,Y[i]?=Fa (Fa v)/\Q v H
def tC(v:V):TE:=λ_ H Q=>Q v H
def Lk{i:Nat}{x:Str}(hN:X.N[i]?=Fa x)(hv:R5 X.env.scope x)(hd:zI x:=by decide)(Xx:(x==("__classdict__":Str))=lf:=by decide):PE X (.Name x pos) (Ek i):=by
 intro Wx s Y H Q I h;obtain⟨v,e,h⟩:=h;obtain⟨m,hn,hl⟩:=I.loc;obtain⟨u,r,l⟩:=hl i x v hN e hv;have WC:EP X Wx Y Q u s:=⟨v,H,I,r,h⟩;rcases l with⟨hk,hm⟩|⟨hk,c,hc,hcell⟩
 .exact lW (wpAny_loadName_local I.ok.kind hk hn hm WC) hd
 .rcases hk with hk|hk
  .exact lW (wpAny_loadName_cell I.ok.kind hk hc hcell WC) hd
  .exact lW (wpAny_loadName_free I.ok.kind hk hc hcell WC Xx) hd
def R6{i j pos}:PE X (.Constant (.int i) j pos) (tC (.int i)):=λ_ _ _ H _ I h=>wpAny_Constant_int ⟨.int i,H,I.tok _,⟨_,Z'⟩,h⟩
def Tt{b j pos}:PE X (.Constant (.bool b) j pos) (tC (.bl b)):=λ_ _ _ H _ I h=>Constant_bool ⟨.bl b,H,I,Z',h⟩
def Ru{j pos}:PE X (.Constant .none j pos) (tC .mL):=λ_ _ _ H _ I h=>Constant_none ⟨.mL,H,I,Z',h⟩
def Rk{x j pos}:PE X (.Constant (.str x) j pos) (tC (.str x)):=λ_ _ _ H _ I h=>Calls.Constant_str ⟨.str x,H,I.tok _,⟨_,Z'⟩,h⟩
def Gl(X:Cx)(x:Str):Prop:=X.env.kindOf x=Fa .globalImplicit
def wN{E:QQX}{Wx:QQY}{u:Vl}{Q:QQX}(I:Inv X Wx Y H s)(hg:Gl X x)(hm:X.mg x=Fa u)(h:Q u s) (hd:zI x:=by decide):pi (Tk X.prog X.w) X.A (wp (.Name x pos) X.env) Q E s:=
 jn I.ok.kind hg (Calls.loadGlobal_global (by rw[I.ok.glob];exact I.mod.glob.keeps I.bk) hm h) hd
def yJ{E:QQX}{Wx:QQY}{u:Vl}{Q:QQX}(I:Inv X Wx Y H s)(hg:Gl X x)(hm:X.mg x=Db)(hv:No x=Fa u)(h:Q u s) (hn:x≠"__name__":=by decide) (hd:zI x:=by decide):pi (Tk X.prog X.w) X.A (wp (.Name x pos) X.env) Q E s:=by
 obtain⟨mb,h1,h2⟩:=I.mod.blt;exact jn I.ok.kind hg (Calls.loadGlobal_builtin (by rw[I.ok.glob];exact I.mod.glob.keeps I.bk) hm (by rw[I.ok.blt];exact h1.keeps I.bk) ((h2 x hn).trans hv) h) hd
def Fo{u:Vl}(hg:Gl X x)(hm:X.mg x=Fa u)(r:qL v u)(hd:zI x:=by decide):PE X (.Name x pos) (tC v):=
 λ_ _ _ H _ I h=>wN I hg hm ⟨v,H,I,r,h⟩ hd
variable {a b:zn}
def tB(t:TE):TT:=λY H Q=>t Y H λx H1=>∃c,x=.bl c/\Q c H1
def Sh(h:PE X e t)(he:∀W5,isTrue e X.env W5=(do let v<-W5;ZR e.pos;TD [v] (truthy v)):=by intro _;rfl):PT X e (tB t):=by intro Wx s Y H Q I hw;refine isTrue_plain (sG (h Wx s Y H _ I hw) λv s1 zz=>x5 zz λx H1 I1 r1 q1=>?_) (he _);obtain⟨d,rfl,q⟩:=q1;cases r1;exact fk ⟨H1,I1,q⟩
variable {rest:T0 zn}
def VA(t u:TT):TT:=λY H Q=>t Y H λc H1=>if c=pc then u Y H1 Q else Q lf H1
def Wp(t u:TT):TT:=λY H Q=>t Y H λc H1=>if c=pc then Q pc H1 else u Y H1 Q
def U5(t:TT):TT:=λY H Q=>t Y H λc H1=>Q (!c) H1
def NR(ha:PT X a tA):PW X (.BoolOp .And [a] pos) tA:=by
 intro wh Wx s Y H Q I h;refine isTrue_and (sG (ha Wx s Y H Q I h) λc s1 e=>?_);cases c with
 | true=>exact isTrue_and_nil e
 | false=>exact e
def Ss(ha:PT X a tA):PW X (.BoolOp .Or [a] pos) tA:=by
 intro wh Wx s Y H Q I h;refine isTrue_or (sG (ha Wx s Y H Q I h) λc s1 e=>?_);cases c with
 | false=>exact isTrue_or_nil e
 | true=>exact e
def SJ(ha:PT X a tA)(hb:PW X (.BoolOp .And (b::rest) pos) tB'):PW X (.BoolOp .And (a::b::rest) pos) (VA tA tB'):=by
 intro wh Wx s Y H Q I h;refine isTrue_and (sG (ha Wx s Y H _ I h) λc s1 ⟨H1,I1,q1⟩=>?_);cases c with
 | true=>exact hb wh Wx s1 Y H1 Q I1 q1
 | false=>exact⟨H1,I1,q1⟩
def Tw(ha:PT X a tA)(hb:PW X (.BoolOp .Or (b::rest) pos) tB'):PW X (.BoolOp .Or (a::b::rest) pos) (Wp tA tB'):=by
 intro wh Wx s Y H Q I h;refine isTrue_or (sG (ha Wx s Y H _ I h) λc s1 ⟨H1,I1,q1⟩=>?_);cases c with
 | true=>exact⟨H1,I1,q1⟩
 | false=>exact hb wh Wx s1 Y H1 Q I1 q1
def Rc(ha:PT X a tA):PT X (.UnaryOp .Not a pos) (U5 tA):=by intro Wx s Y H Q I h;exact isTrue_not (ha Wx s Y H (λc H1=>Q (!c) H1) I h)
def Ub(ta tb:TE):TE:=λY H Q=>ta Y H λx H1=>∃c,x=.bl c/\if c=pc then tb Y H1 Q else Q (.bl lf) H1
def Vk(ta tb:TE):TE:=λY H Q=>ta Y H λx H1=>∃c,x=.bl c/\if c=pc then Q (.bl pc) H1 else tb Y H1 Q
def UN(ta:TE):TE:=λY H Q=>ta Y H λx H1=>∃c,x=.bl c/\Q (.bl (!c)) H1
def RZ{op}(h:PE X a t):PE X (.BoolOp op [a] pos) t:=λWx s Y H Q I hw=>BoolOp_one (h Wx s Y H Q I hw)
def Sm(ha:PE X a ta)(hb:PE X (.BoolOp .And (b::rest) pos) tb):PE X (.BoolOp .And (a::b::rest) pos) (Ub ta tb):=by
 intro Wx s Y H Q I h;refine BoolOp_and (sG (ha Wx s Y H _ I h) λv s1 zz=>x5 zz λx H1 I1 r1 q1=>?_);obtain⟨c,rfl,q1⟩:=q1;cases r1;refine fk ?_;cases c with
 | true=>exact hb Wx s1 Y H1 Q I1 q1
 | false=>exact⟨.bl lf,H1,I1,Z',q1⟩
def Uz(ha:PE X a ta)(hb:PE X (.BoolOp .Or (b::rest) pos) tb):PE X (.BoolOp .Or (a::b::rest) pos) (Vk ta tb):=by
 intro Wx s Y H Q I h;refine BoolOp_or (sG (ha Wx s Y H _ I h) λv s1 zz=>x5 zz λx H1 I1 r1 q1=>?_);obtain⟨c,rfl,q1⟩:=q1;cases r1;refine fk ?_;cases c with
 | false=>exact hb Wx s1 Y H1 Q I1 q1
 | true=>exact⟨.bl pc,H1,I1,Z',q1⟩
def RC(ha:PE X a ta):PE X (.UnaryOp .Not a pos) (UN ta):=by intro Wx s Y H Q I h;refine UnaryOp_ (sG (ha Wx s Y H _ I h) λv s1 zz=>x5 zz λx H1 I1 r1 q1=>?_);obtain⟨c,rfl,q1⟩:=q1;cases r1;exact not_of (fk ⟨.bl (!c),H1,I1,Z',q1⟩)
def Ws(t:TT)(ta tb:TE):TE:=λY H Q=>t Y H λc H1=>if c=pc then ta Y H1 Q else tb Y H1 Q
def Lg(hc:PT X c tA)(ha:PE X a ta)(hb:PE X b tb):PE X (.IfExp c a b pos) (Ws tA ta tb):=by
 intro Wx s Y H Q I h;refine wpAny_IfExp (sG (hc Wx s Y H _ I h) λd s1 ⟨H1,I1,q1⟩=>?_);cases d with
 | true=>exact ha Wx s1 Y H1 Q I1 q1
 | false=>exact hb Wx s1 Y H1 Q I1 q1
end
def zb(K:qx)(H:Hp)(a:Uf)(xs:T0 V):Prop:=
 Rd H a (.lst xs)\/
  ∃(o:Obj) (its:Array Vl) (n:Nat),K.lookup a=Fa o/\o.cls=.type "list"/\o.dict=Db/\o.data=.seq its n/\its.size<=Ch/\qF xs its.toList
def vb(K:qx)(H:Hp)(a:Uf)(xs:T0 V):Prop:=
 Rd H a (.tup xs)\/
  ∃(o:Obj) (its:Array Vl) (n:Nat),K.lookup a=Fa o/\o.cls=.type "tuple"/\o.dict=Db/\o.data=.seq its n/\its.size<=Ch/\qF xs its.toList
noncomputable def Vd:Vl->Option V
 | .none=>Fa .mL
 | .bool b=>Fa (.bl b)
 | .int i _=>Fa (.int i)
 | .str x _=>Fa (.str x)
 | .bytes b _=>Fa (.byt b)
 | .float b _=>Fa (.flt b)
 | .ref a=>Fa (.ref a)
 | .type n=>Fa (.ty n)
 | _=>Db
def qL.abs(r:qL x u):Vd u=Fa x:=by
 cases x with
 | mL=>cases r;rfl
 | bl _=>cases r;rfl
 | int _=>obtain⟨t,rfl⟩:=r;rfl
 | str _=>obtain⟨t,rfl⟩:=r;rfl
 | byt _=>obtain⟨t,rfl⟩:=r;rfl
 | flt _=>obtain⟨t,rfl⟩:=r;rfl
 | ref _=>cases r;rfl
 | ty _=>cases r;rfl
def qL.inj(r:qL x u)(q:qL y u):x=y:=cY (r.abs.symm.trans q.abs)
theorem qF.inj:∀{xs ys:T0 V} {us:T0 Vl},qF xs us->qF ys us->xs=ys
 | _,_,_,.nil,.nil=>rfl
 | _,_,_,.cons r t,.cons r' t'=>by rw[r.inj r',qF.inj t t']
variable {xs ys:T0 V}
section
variable {Y:St}{a:Uf}
def vb.of{K:qx}(h:H a=Fa (.tup xs)):vb K H a xs:=.inl (.inl h)
def Inv.list(I:Inv X Wx Y H s)(h:zb X.K H a xs):∃its:T0 Vl,qF xs its/\PlainL s.heap a its.toArray/\xs.length<=Ch:=by
 rcases h with h|⟨o,its,n,hk,hc,hd,hs,hz,r⟩
 .obtain⟨z,its,n,r,e⟩:=h.ok I.mQ;exact⟨its,r,⟨_,n,e,Z',Z',Z'⟩,z⟩
 .refine⟨its.toList,r,⟨o,n,I.nA a o hk,hc,hd,by simpa using hs⟩,?_⟩;have e:=r.length;simp only[iW]at e;lia
def Inv.tuple(I:Inv X Wx Y H s)(h:vb X.K H a xs):∃its:T0 Vl,qF xs its/\IsTup s.heap a its.toArray/\xs.length<=Ch:=by
 rcases h with h|⟨o,its,n,hk,hc,hd,hs,hz,r⟩
 .obtain⟨z,its,r,p⟩:=h.ok I.mQ;exact⟨its,r,p.is,z⟩
 .refine⟨its.toList,r,⟨o,I.nA a o hk,hc,n,by simpa using hs⟩,?_⟩;have e:=r.length;simp only[iW]at e;lia
def Inv.nR(I:Inv X Wx Y H s)(h:zb X.K H a xs)(h':zb X.K H a ys):xs=ys:=by
 obtain⟨its,r,⟨o,n,e,_,_,d⟩,_⟩:=I.list h;obtain⟨its',r',⟨o',n',e',_,_,d'⟩,_⟩:=I.list h';rw[e]at e';cases e';rw[d]at d';injection d' with d1 _
 have:its=its':=by simpa using eJ Array.toList d1
 subst this;exact r.inj r'
def Inv.ni(I:Inv X Wx Y H s)(h:vb X.K H a xs)(h':vb X.K H a ys):xs=ys:=by
 obtain⟨its,r,⟨o,e,_,n,d⟩,_⟩:=I.tuple h;obtain⟨its',r',⟨o',e',_,n',d'⟩,_⟩:=I.tuple h';rw[e]at e';cases e';rw[d]at d';injection d' with d1 _
 have:its=its':=by simpa using eJ Array.toList d1
 subst this;exact r.inj r'
end
abbrev Cx.nL(X:Cx)(E:QQX):Cx:={X with xe:=E}
abbrev Cx.oy(X:Cx):Cx:=X.nL λ_ _=>False
def Cx.Ok.nL{X:Cx}(ok:X.Ok)(E:QQX):(X.nL E).Ok:=
 ⟨ok.mod,ok.kind,ok.glob,ok.blt,ok.above,ok.inj,ok.has,ok.oz,ok.hd,ok.frames,ok.oM,ok.o9,ok.bs,ok.oa,ok.nQ,ok.nW,ok.nF,ok.oo⟩
def Cx.Ok.ng{X:Cx}{E:QQX}(ok:(X.nL E).Ok):X.Ok:=
 ⟨ok.mod,ok.kind,ok.glob,ok.blt,ok.above,ok.inj,ok.has,ok.oz,ok.hd,ok.frames,ok.oM,ok.o9,ok.bs,ok.oa,ok.nQ,ok.nW,ok.nF,ok.oo⟩
section
variable {Y:St}{E:QQX}
def Inv.nL(I:Inv X Wx Y H s)(E:QQX):Inv (X.nL E) Wx Y H s:=⟨I.ok.nL E,I.os,I.bare,I.base,I.loc,I.cell,I.free,I.mX,I.pin,I.mQ,I.len⟩
def Inv.ng(I:Inv (X.nL E) Wx Y H s):Inv X Wx Y H s:=⟨I.ok.ng,I.os,I.bare,I.base,I.loc,I.cell,I.free,I.mX,I.pin,I.mQ,I.len⟩
def SP.ng{D:ES}(h:SP (X.nL E) Wx D f s'):SP X Wx D f s':=by
 cases f with
 | next=>obtain⟨σ',H',I,q⟩:=h;exact⟨σ',H',I.ng,q⟩
 | brk=>obtain⟨σ',H',I,q⟩:=h;exact⟨σ',H',I.ng,q⟩
 | cont=>obtain⟨σ',H',I,q⟩:=h;exact⟨σ',H',I.ng,q⟩
 | ret u=>obtain⟨v,σ',H',I,r,q⟩:=h;exact⟨v,σ',H',I.ng,r,q⟩
def B4.oy{st:T0 wE}(h:B4 X.oy st t):B4 X st t:=λWx s Y H D I hw=>d9 (h Wx s Y H D (I.nL _) hw) (λ_ _ q=>q.ng) λ_ _ z=>False.elim z
end
variable {st:wE}{u:TS}{te:TE}
section
variable {rest:T0 wE}{t:TS}{e:zn}
def Tn:TS:=λD Y H=>D.nx Y H
def U0(t u:TS):TS:=λD Y H=>t {D with nx:=u D} Y H
def Pe:B4 X [] Tn:=λ_ _ Y H _ I h=>gY ⟨Y,H,I,h⟩
def NA(h1:PS X st t)(h2:B4 X rest u):B4 X (st::rest) (U0 t u):=by
 intro Wx s Y H D I h;refine jC (sG (h1 Wx s Y H {D with nx:=u D} I h) λf s1 q=>?_);cases f with
 | next=>obtain⟨σ',H',I',q⟩:=q;exact h2 Wx s1 σ' H' D I' q
 | ret v=>exact q
 | brk=>exact q
 | cont=>exact q
def Fw(h1:PS X st t):B4 X [st] t:=by
 intro Wx s Y H D I h;refine jC (sG (h1 Wx s Y H D I h) λf s1 q=>?_);cases f with
 | next=>exact gY q
 | ret v=>exact q
 | brk=>exact q
 | cont=>exact q
def Inv.quiet{Wx:QQY}(I:Inv X Wx Y H s):interactive X.env=lf:=by simp[interactive,I.ok.kind]
def Uy(te:TE):TS:=λD Y H=>te Y H λ_ H1=>D.nx Y H1
def OX(he:PE X e te)(hs:ZB e Db pos.line X.env=pure lf:=by rfl):PS X (.Expr e pos) (Uy te):=by intro Wx s Y H D I h;exact wpAny_Expr_any (sG (he Wx s Y H _ I h) λv s1 zz=>x5 zz λx H1 I1 r1 q1=>⟨Y,H1,I1,q1⟩) I.quiet hs
def VJ(te:TE):TS:=λD Y H=>te Y H D.rt
def QY(he:PE X e te):PS X (.Return (Fa e) pos) (VJ te):=by intro Wx s Y H D I h;exact wpAny_Return_some (sG (he Wx s Y H _ I h) λv s1 zz=>x5 zz λx H1 I1 r1 q1=>⟨x,Y,H1,I1,r1,q1⟩)
def Vo(c:TT)(t u:TS):TS:=λD Y H=>c Y H λb H1=>if b=pc then t D Y H1 else u D Y H1
def Uv(hc:PT X c tc)(ha:B4 X a t)(hb:B4 X b u):PS X (.If c a b pos) (Vo tc t u):=by
 intro Wx s Y H D I h;refine wpAny_If (sG (hc Wx s Y H _ I h) λd s1 ⟨H1,I1,q1⟩=>?_);cases d with
 | true=>exact ha Wx s1 Y H1 D I1 q1
 | false=>exact hb Wx s1 Y H1 D I1 q1
def Rr:TS:=λ_ _ _=>False
def MM:PS X st Rr:=λ_ _ _ _ _ _ h=>h.elim
end
abbrev TG:=V->St->Hp->(St->Hp->Prop)->Prop
abbrev Om:=T0 V->St->Hp->(St->Hp->Prop)->Prop
def PG(X:Cx)(WZ:zn)(t:TG):Prop:=
 ∀(Wx:QQY) (s:Sd) (Y:St) (H:Hp) (v:V) (u:Vl) (Q:St->Hp->Prop),Inv X Wx Y H s->qL v u->t v Y H Q->
  pi (Tk X.prog X.w) X.A (assign WZ X.env u) (λ_ s'=>∃σ' H',Inv X Wx σ' H' s'/\Q σ' H') X.xe s
def ND(X:Cx)(ts:T0 zn)(t:Om):Prop:=
 ∀(Wx:QQY) (s:Sd) (Y:St) (H:Hp) (vs:T0 V) (us:T0 Vl) (Q:St->Hp->Prop),Inv X Wx Y H s->qF vs us->t vs Y H Q->
  pi (Tk X.prog X.w) X.A (assignInOrder ((Rs ts X.env).map (·.2)) us) (λ_ s'=>∃σ' H',Inv X Wx σ' H' s'/\Q σ' H') X.xe s
abbrev Q8:=V->V->V->Hp->(Hp->Prop)->Prop
def Tg(X:Cx)(t:Q8):Prop:=
 ∀(Wx:QQY) (s:Sd) (Y:St) (H:Hp) (o i v:V) (ov iv u:Vl) (Q:Hp->Prop),Inv X Wx Y H s->qL o ov->qL i iv->qL v u->t o i v H Q->
  pi (Tk X.prog X.w) X.A (setItem ov iv u) (λ_ s'=>∃H',Inv X Wx Y H' s'/\Q H') X.xe s
def IY(i:Nat):TG:=λv Y H Q=>Q (Y.set i (Fa v)) H
def OS{i:Nat}{x:Str}(hN:X.N.Nodup)(hi:X.N[i]?=Fa x)(hx:KI X.env.scope x)(hf:KJ X x:=by first|exact .inl Z'|exact .inr Z'|assumption):PG X (.Name x pos) (IY i):=by intro Wx s Y H v u Q I r h;exact ly (xP I hN hi hx r (λs' I'=>⟨_,H,I',h⟩) hf)
def VG:Om:=λvs Y H Q=>vs=[]/\Q Y H
def Tf(t:TG)(u:Om):Om:=λvs Y H Q=>∃v r,vs=v::r/\t v Y H λσ' H'=>u r σ' H' Q
def Pf:ND X [] VG:=by intro Wx s Y H vs us Q I r h;obtain⟨e,h⟩:=h;subst e;cases r;exact assignInOrder_nil ⟨Y,H,I,h⟩
def KS{u:Om}(h1:PG X e t)(h2:ND X es u) (hs:(Rs (e::es) X.env).map (·.2)=assign e X.env::(Rs es X.env).map (·.2):=by rfl):ND X (e::es) (Tf t u):=by
 intro Wx s Y H vs us Q I r h;obtain⟨v,vr,e1,h⟩:=h;subst e1;cases r with
 | cons r rr=>rw[hs];refine assignInOrder_cons (sG (h1 Wx s Y H _ _ _ I r h) λ_ s1 ⟨σ1,H1,I1,q1⟩=>?_);exact h2 Wx s1 σ1 H1 _ _ Q I1 rr q1
def U8(K:qx)(n:Nat)(t:Om):TG:=λv Y H Q=>∃a xs,v=.ref a/\vb K H a xs/\xs.length=n/\t xs Y H Q
def SK{n:Nat}(hc:X.calm=pc)(h:ND X es t) (hn:(Rs es X.env).length=n:=by rfl) (WT:(Rs es X.env).findIdx? (·.1)=Db:=by rfl):PG X (.Tuple es k pos) (U8 X.K n t):=by
 intro Wx s Y H v u Q I r hw;obtain⟨a,xs,e1,hq,hl,hw⟩:=hw;subst e1;cases r;obtain⟨its,rv,ht,hz⟩:=I.tuple hq;refine assign_Tuple_tuple (I.ok.hd hc) ht (by simp[hn,<-hl,rv.length]) WT λh' hx=>?_;have I1:Inv X Wx Y H {s with heap:=h'}:=I.kept (t':=s.toks) λb o e=>hx b o (dJ (dv e)) e;exact h Wx _ Y H xs _ Q I1 (by simpa using rv) hw
def Va(to ti:TE)(t:Q8):TG:=λv Y H Q=>to Y H λo H1=>ti Y H1 λi H2=>t o i v H2 λH3=>Q Y H3
def RY(ho:PE X o to)(hi:PE X i ti)(hs:Tg X t) (ha:∀v,assign (.Subscript o i pos) X.env v=(do
   let ov<-TD [v] (wp o X.env);let iv<-TD [v,ov] (wp i X.env)
   ZR pos
   TD [v,ov,iv] (setItem ov iv v)
   release [v,ov,iv] []):=by intro _;rfl):PG X (.Subscript o i pos) (Va to ti t):=by
 intro Wx s Y H v u Q I r h;rw[ha];refine cR (eB (sG (ho Wx s Y H _ I h) λov s1 zz=>x5 zz λx H1 I1 r1 q1=>?_));refine cR (eB (sG (hi Wx s1 Y H1 _ I1 q1) λiv s2 zz=>x5 zz λy H2 I2 r2 q2=>?_));refine cR (gX (cR (eB (sG (hs Wx s2 Y H2 x y v ov iv u _ I2 r1 r2 r q2) λ_ s3 ⟨H3,I3,q3⟩=>?_))));exact wpAny_release ⟨Y,H3,I3,q3⟩
def Os(te:TE)(g:TG):TS:=λD Y H=>te Y H λx H1=>g x Y H1 D.nx
def SE(he:PE X e te)(hg:PG X tg g)(hs:swapsWithSole [tg] e pos.line X.env=pure lf:=by rfl)(hw:swappedStores [tg] e X.env=pure Db:=by rfl)
  (h1:(Rs [tg] X.env).map (·.2)=[assign tg X.env]:=by rfl):PS X (.Assign [tg] e pos) (Os te g):=by
 intro Wx s Y H D I h;refine wpAny_Assign_stores (sG (he Wx s Y H _ I h) λv s1 zz=>x5 zz λx H1 I1 r1 q1=>?_) hs hw;rw[h1];exact sG (hg Wx s1 Y H1 x v _ I1 r1 q1) λ_ s2 q=>q
def K9{i:Nat}{x:Str}(hN:X.N.Nodup)(hi:X.N[i]?=Fa x)(hx:KI X.env.scope x)(he:PE X e te)(hs:ZB e (Fa (.Name x WI)) pos.line X.env=pure lf:=by rfl)(hf:KJ X x:=by first|exact .inl Z'|exact .inr Z'|assumption):
  PS X (.Assign [.Name x WI] e pos) (Os te (IY i)):=by
 intro Wx s Y H D I h;refine lz (sG (he Wx s Y H _ I h) λv s1 zz=>x5 zz λy H1 I1 r1 q1=>?_) hs;exact xP I1 hN hi hx r1 (λs2 I2=>⟨_,H1,I2,q1⟩) hf
def Sb(c:TT)(tb:TS):TS:=λD Y H=>∃W:Nat->St->Hp->Prop,(∃m,W m Y H)/\∀m Y H,W m Y H->
 c Y H λb H1=>if b=pc then ∃N:St->Hp->Prop,(∀σ' H',N σ' H'->∃m',m'<m/\W m' σ' H')/\tb {D with nx:=N,ct:=N,bk:=D.nx} Y H1 else D.nx Y H1
def LG{tb:TS}(hp:PassesOwn (Tk X.prog X.w) X.A X.env X.xe)(hc:PT X c tc)(hb:B4 X body tb):PS X (.While c body [] pos) (Sb tc tb):=by
 intro Wx s Y H D I h;obtain⟨W,⟨m0,w0⟩,turn⟩:=h;refine wpAny_While (codeAny_whileLoop (λn s'=>∃σ' H',Inv X Wx σ' H' s'/\W n σ' H') ?_ m0 ⟨Y,H,I,w0⟩)
 rintro n s1 ⟨σ1,H1,I1,w1⟩
 refine gB hp (sG (hc Wx s1 σ1 H1 _ I1 (turn n σ1 H1 w1)) λb s2 ⟨H2,I2,q2⟩=>?_);cases b with
 | true=>
  obtain⟨N,hN,q2⟩:=q2;rw[cX Z'];refine gB hp (sG (hb Wx s2 σ1 H2 _ I2 q2) λf s3 q3=>?_);cases f with
  | next=>obtain⟨σ3,H3,I3,n3⟩:=q3;obtain⟨m',hm,w3⟩:=hN σ3 H3 n3;exact⟨m',hm,σ3,H3,I3,w3⟩
  | cont=>obtain⟨σ3,H3,I3,n3⟩:=q3;obtain⟨m',hm,w3⟩:=hN σ3 H3 n3;exact⟨m',hm,σ3,H3,I3,w3⟩
  | brk=>exact q3
  | ret v=>exact q3
 | false=>rw[cV dh];exact gY ⟨σ1,H2,I2,q2⟩
structure It where
 go:Nat->Hp->Prop
 oS:Nat->Hp->V->Hp->Prop
 stop:Nat->Hp->Prop
def AU(X:Cx)(Wx:QQY)(H:Hp)(b:Uf):Prop:=
 H b=Db/\b≠X.env.locals/\b∉X.fs/\(b∈X.ex\/X.s₀.heap.objs.size<=b)/\(∀x c,X.env.cells.lookup x=Fa c->c≠b)/\∀p∈X.pn++Wx,p.1≠b
def Inv.nV{Wx:QQY}{H H':Hp}{b:Uf}(I:Inv X Wx Y H s)(hb:s.heap.objs.size<=b)(hn:H' b=Db):AU X Wx H' b:=by
 refine⟨hn,ib (dE I.lt hb),I.oY hb,.inr (dY I.sz hb),λx c e z=>?_,λp hp z=>?_⟩
 .obtain⟨v,q⟩:=I.cell x c e;exact absurd (dE q.lt (by rw[z];exact hb)) (eN _)
 .exact absurd (dE (dv (I.pin p hp).1) (by rw[z];exact hb)) (eN _)
structure Gn(P:Pg)(w:Wo)(K:qx)(tg:zn)(J:It)(fp:QXQ)(it:Uf)(tn:Nat->Go->Prop):Prop where
 mem:it∈fp
 obj:∀i h,tn i h->∀b∈fp,∃o,h.get? b=Fa o/\∀v,o.data≠.cell v
 keep:∀i h h',tn i h->(∀b∈fp,∀o,h.get? b=Fa o->h'.get? b=Fa o)->tn i h'
 item:∀(X:Cx),X.prog=P->X.w=w->X.K=K->X.calm=pc->∀(i:Nat) (Wx:QQY) (s:Sd) (Y:St) (H:Hp) (E:QQX),Inv X Wx Y H s->(∀b∈fp,AU X Wx H b)->tn i s.heap->J.go i H->
  pi (Tk P w) X.A (pyNext (.ref it)) (λr s1=>∃u,r=Fa u/\
   pi (Tk P w) X.A (ZU tg (.ref it) u) (λ_ s2=>∃x H',Inv X Wx Y H' s2/\qL x u/\J.oS i H x H'/\tn (i+1) s2.heap/\∀b∈fp,H' b=Db) E s1) E s
 done:∀(X:Cx),X.prog=P->X.w=w->X.K=K->X.calm=pc->∀(i:Nat) (Wx:QQY) (s:Sd) (Y:St) (H:Hp) (E:QQX),Inv X Wx Y H s->(∀b∈fp,AU X Wx H b)->tn i s.heap->J.stop i H->
  pi (Tk P w) X.A (pyNext (.ref it)) (λr s1=>r=Db/\Inv X Wx Y H s1) E s
 self:∀(A:Ar) (i:Nat) (s:Sd) (Q:QQX) (E:QQX),tn i s.heap->Q (.ref it) s->pi (Tk P w) A (pyIter (.ref it)) Q E s
abbrev TI:=St->Hp->(It->Hp->Prop)->Prop
def VW(X:Cx)(Wx:QQY)(Y:St)(tg:zn)(R:It->Hp->Prop)(itv:Vl)(s2:Sd):Prop:=
 ∃(it:Uf) (fp:QXQ) (tn:Nat->Go->Prop) (J:It) (H':Hp),itv=.ref it/\Inv X Wx Y H' s2/\Gn X.prog X.w X.K tg J fp it tn/\tn 0 s2.heap/\(∀b∈fp,AU X Wx H' b)/\R J H'
def PI(X:Cx)(tg iter:zn)(wi:TI):Prop:=
 ∀(Wx:QQY) (s:Sd) (Y:St) (H:Hp) (R:It->Hp->Prop),Inv X Wx Y H s->wi Y H R->
  pi (Tk X.prog X.w) X.A (wp iter X.env) (λv s1=>pi (Tk X.prog X.w) X.A (pyIter v) (VW X Wx Y tg R) X.xe s1) X.xe s
def Jd{M:Model}{A:Ar}{E:QQX}{s:Sd}{tg:zn}{it:Uf}{u:Vl}{o:Obj}{n:String}{vs:Array Vl}{Q:Unit->Sd->Prop}(ho:s.heap.get? it=Fa o)(hc:o.cls=.type n)(hd:o.data=.fields vs) (hn:["enumerate","zip","dict_itemiterator","dict_reverseitemiterator","odict_iterator","itertools.zip_longest","itertools.pairwise"].contains n=lf) (hQ:Q () s):pi M A (ZU tg (.ref it) u) Q E s:=by
  unfold ZU;cases tg<;>first
    | exact c9 hQ
    | (cases u<;>first
        | exact c9 hQ
        | (refine cR (wpAny_load ho ?_)
           rw[hc,hd];show pi M A (if (["enumerate","zip","dict_itemiterator","dict_reverseitemiterator","odict_iterator","itertools.zip_longest","itertools.pairwise"].contains n&&vs[0]?==Fa (wP _))=pc then _ else _) Q E s;rw[cV (by intro h;rw[hn,eL]at h;cases h)];exact c9 hQ))
noncomputable def UR(K:qx)(a:Uf):It:=
 ⟨λi H=>∃xs x,zb K H a xs/\xs[i]?=Fa x,λi H x H'=>H'=H/\∀xs,zb K H a xs->xs[i]?=Fa x,λi H=>∃xs,zb K H a xs/\xs.length<=i⟩
noncomputable def Vg(K:qx)(a:Uf):It:=
 ⟨λi H=>∃xs x,vb K H a xs/\xs[i]?=Fa x,λi H x H'=>H'=H/\∀xs,vb K H a xs->xs[i]?=Fa x,λi H=>∃xs,vb K H a xs/\xs.length<=i⟩
noncomputable def UQ(lo:Int)(n:Nat):It:=⟨λi _=>i<n,λi H x H'=>H'=H/\x=.int (lo+i),λi _=>n<=i⟩
def Kq{K:qx}(a it:Uf):Gn P w K tg (UR K a) [it] it (λi h=>h.IsListIter it a i) where
 mem:=by simp
 obj:=λi h st b hb=>by
  have e:b=it:=by simpa using hb
  subst e;obtain⟨o,e,c,d⟩:=st;exact⟨o,e,λv z=>by rw[d]at z;cases z⟩
 keep:=λi h h' st k=>st.at λo e=>k it (by simp) o e
 item:=by intro X hP hw hK hc i Wx s Y H E I hf st hg;subst hP hw hK;obtain⟨xs,x,hq,hx⟩:=hg;obtain⟨its,rv,p,hz⟩:=I.list hq;obtain⟨u,hu,ru⟩:=rv.get hx;obtain⟨f0,f1,f2,f3,f4,f5⟩:=hf it (by simp);refine j3 st p.isList (x:=u) (by simpa using hu) λh' XW sb=>?_;have I1:Inv X Wx Y H {s with heap:=h'}:=I.turned (t':=s.toks) (λb o hb e=>(sb.2 b hb).trans e) f0 f1 f3 f4 f5;obtain⟨o,e,c,d⟩:=id XW;exact⟨u,Z',Jd (s:={s with heap:=h'}) e c d (by decide) ⟨x,H,I1,ru,⟨Z',λys hy=>by rw[I.nR hy hq];exact hx⟩,XW,λb hb=>(hf b hb).1⟩⟩
 done:=by intro X hP hw hK hc i Wx s Y H E I hf st hg;subst hP hw hK;obtain⟨xs,hq,hx⟩:=hg;obtain⟨its,rv,p,hz⟩:=I.list hq;obtain⟨f0,f1,f2,f3,f4,f5⟩:=hf it (by simp);have hl:=rv.length;exact j7 (I.ok.hd hc) st p.isList (by simp;lia) λh' eb=>⟨Z',I.turned (t':=s.toks) (λb o hb e=>eb b o hb e) f0 f1 f3 f4 f5⟩
 self:=λ_ _ _ _ _ st h=>wpAny_pyIter_listiter st h
def Hf{K:qx}(a it:Uf):Gn P w K tg (Vg K a) [it] it (λi h=>h.IsTupleIter it a i) where
 mem:=by simp
 obj:=λi h st b hb=>by
  have e:b=it:=by simpa using hb
  subst e;obtain⟨o,e,c,d⟩:=st;exact⟨o,e,λv z=>by rw[d]at z;cases z⟩
 keep:=λi h h' st k=>st.at λo e=>k it (by simp) o e
 item:=by intro X hP hw hK hc i Wx s Y H E I hf st hg;subst hP hw hK;obtain⟨xs,x,hq,hx⟩:=hg;obtain⟨its,rv,p,hz⟩:=I.tuple hq;obtain⟨u,hu,ru⟩:=rv.get hx;obtain⟨f0,f1,f2,f3,f4,f5⟩:=hf it (by simp);refine wpAny_pyNext_tuple_item st (show s.heap.IsTuple a its.toArray from p) (x:=u) (by simpa using hu) λh' XW sb=>?_;have I1:Inv X Wx Y H {s with heap:=h'}:=I.turned (t':=s.toks) (λb o hb e=>(sb.2 b hb).trans e) f0 f1 f3 f4 f5;obtain⟨o,e,c,d⟩:=id XW;exact⟨u,Z',Jd (s:={s with heap:=h'}) e c d (by decide) ⟨x,H,I1,ru,⟨Z',λys hy=>by rw[I.ni hy hq];exact hx⟩,XW,λb hb=>(hf b hb).1⟩⟩
 done:=by intro X hP hw hK hc i Wx s Y H E I hf st hg;subst hP hw hK;obtain⟨xs,hq,hx⟩:=hg;obtain⟨its,rv,p,hz⟩:=I.tuple hq;obtain⟨f0,f1,f2,f3,f4,f5⟩:=hf it (by simp);have hl:=rv.length;exact wpAny_pyNext_tuple_end (I.ok.hd hc) st (show s.heap.IsTuple a its.toArray from p) (by simp;lia) λh' eb=>⟨Z',I.turned (t':=s.toks) (λb o hb e=>eb b o hb e) f0 f1 f3 f4 f5⟩
 self:=λ_ _ _ _ _ st h=>wpAny_pyIter_tupleiter st h
def Io{K:qx}(it:Uf)(lo:Int)(n:Nat):Gn P w K tg (UQ lo n) [it] it (λi h=>IsRangeIter h it (lo+(i:Nat)*1) ((n:Int) - (i:Nat)) 1) where
 mem:=by simp
 obj:=λi h st b hb=>by
  have e:b=it:=by simpa using hb
  subst e;exact⟨_,st,λv z=>by
   have z':Data.fields _=Data.cell v:=z;cases z'⟩
 keep:=λi h h' st k=>k it (by simp) _ st
 item:=by intro X hP hw hK hc i Wx s Y H E I hf st hg;subst hP hw hK;obtain⟨f0,f1,f2,f3,f4,f5⟩:=hf it (by simp);have W:=Walks.range (prog:=X.prog) (w:=X.w) (I.ok.hd hc) it lo 1 n;refine W.item i s _ _ hg st λv h' tk hv XW kk=>?_;obtain⟨t,rfl⟩:=hv;have I1:Inv X Wx Y H {s with heap:=h',toks:=tk}:=I.turned (λb o hb e=>kk b o (by simpa using hb) e) f0 f1 f3 f4 f5;refine⟨_,Z',Jd (s:={s with heap:=h',toks:=tk}) (n:="range_iterator") XW Z' Z' (by decide) ⟨.int (lo+i),H,I1,⟨t,?_⟩,⟨Z',Z'⟩,XW,λb hb=>(hf b hb).1⟩⟩;rw[Int.mul_one]
 done:=by intro X hP hw hK hc i Wx s Y H E I hf st hg;subst hP hw hK;obtain⟨f0,f1,f2,f3,f4,f5⟩:=hf it (by simp);exact wpAny_pyNext_range_end (I.ok.hd hc) st (by have:n<=i:=hg;lia) λh' eb=>⟨Z',I.turned (t':=s.toks) (λb o hb e=>eb b o hb e) f0 f1 f3 f4 f5⟩
 self:=λ_ _ _ _ _ st h=>wpAny_pyIter_rangeiter st h
variable {tg:zn}
def KW{Wx:QQY}{R:It->Hp->Prop}{E:QQX}{lo hi:Int}{t u v:Tok}{tk:Nat}(I:Inv X Wx Y H s)(h1:-(2 ^ 62)<=lo)(h2:lo<2 ^ 62)(h3:-(2 ^ 62)<=hi)(h4:hi<2 ^ 62) (q:R (UQ lo (hi - lo).toNat) H):pi (Tk X.prog X.w) X.A (pyIter (.ref s.heap.objs.size)) (VW X Wx Y tg R) E {s with heap:=s.heap.push {cls:=.type "range",data:=.fields #[.int lo t,.int hi u,.int 1 v]},toks:=tk}:=by
 refine wpAny_pyIter_range (IsRange.new ..) (small_one h1 h2 h3 h4) ?_;have I1:Inv X Wx Y H {s with heap:=s.heap.push {cls:=.type "range",data:=.fields #[.int lo t,.int hi u,.int 1 v]},toks:=tk}:=I.kept λb o e=>cW _ e;refine⟨(s.heap.push {cls:=.type "range",data:=.fields #[.int lo t,.int hi u,.int 1 v]}).objs.size,[(s.heap.push {cls:=.type "range",data:=.fields #[.int lo t,.int hi u,.int 1 v]}).objs.size],_,_,H,Z',I1.kept (t':=tk) λb o e=>cW _ e,Io _ lo (hi - lo).toNat,?_,λb hb=>?_,q⟩
 .have e1:lo+((0:Nat):Int)*1=lo:=by simp
  have e2:(((hi - lo).toNat:Nat):Int) - ((0:Nat):Int)=Builtin.Range.rangeSize lo hi 1:=by rw[rangeSize_one];split<;>lia
  show IsRangeIter _ _ (lo+((0:Nat):Int)*1) ((((hi - lo).toNat:Nat):Int) - ((0:Nat):Int)) 1;rw[e1,e2];exact dC _ Z'
 .have e:b=(s.heap.push {cls:=.type "range",data:=.fields #[.int lo t,.int hi u,.int 1 v]}).objs.size:=by simpa using hb
  subst e;exact I1.nV (cZ _) (I1.mQ.fresh (cZ _))
def UF(ta:TA):TI:=λY H R=>ta Y H λvs H1=>∃j:Int,vs=[.int j]/\-(2 ^ 62)<=j/\j<2 ^ 62/\R (UQ 0 j.toNat) H1
def JZ{a:zn}{ta:TA}(hg:Gl X "range")(hm:X.mg "range"=Db)(ha:PA X [a] ta)(hs:Tl [a] X.env=[(lf,wp a X.env)]:=by rfl):PI X tg (.Call (.Name "range" p) [a] [] pos) (UF ta):=by
 intro Wx s Y H R I h;refine Call_ (yJ I hg hm boot_range (fT (sG (ha pos Wx s Y H _ I h) λus s1 zz=>x5 zz λvs H1 I1 r1 q1=>?_) hs Z'));obtain⟨j,e,q1,q2,q⟩:=q1;subst e;cases r1 with
 | cons r rr=>cases rr;obtain⟨t,rfl⟩:=r;exact call_range_1 (KW I1 (by lia) (by lia) q1 q2 (by simpa using q))
def U'(wi:TI)(g:TG)(tb:TS):TS:=λD Y H=>wi Y H λJ H1=>∃W:Nat->Nat->St->Hp->Prop,(∃m,W 0 m Y H1)/\∀i m Y H,W i m Y H->
 (J.stop i H/\D.nx Y H)\/(J.go i H/\∃N:St->Hp->Prop,(∀σ' H',N σ' H'->∃m',m'<m/\W (i+1) m' σ' H')/\∀x H',J.oS i H x H'->g x Y H' λσ2 H2=>tb {D with nx:=N,ct:=N,bk:=D.nx} σ2 H2)
noncomputable def Cy(fp:QXQ)(h:Go):QQY:=fp.filterMap λb=>(h.get? b).map λo=>(b,o)
def vn{fp:QXQ}{h:Go}{b:Uf}{o:Obj}(hb:b∈fp)(e:h.get? b=Fa o):(b,o)∈Cy fp h:=kT.mpr ⟨b,hb,by rw[e];rfl⟩
def Ku{p:Uf×Obj}(hp:p∈Cy fp h):p.1∈fp/\h.get? p.1=Fa p.2:=by
 obtain⟨b,hb,e⟩:=kT.mp hp;cases q:h.get? b with
 | none=>rw[q]at e;cases e
 | some o=>rw[q]at e;have e':(b,o)=p:=cY e;subst e';exact⟨hb,q⟩
def Inv.pinned{Wx:QQY}{fp:QXQ}(I:Inv X Wx Y H s)(hf:∀b∈fp,AU X Wx H b)(ho:∀b∈fp,∃o,s.heap.get? b=Fa o/\∀v,o.data≠.cell v):Inv X (Wx++Cy fp s.heap) Y H s:=
 I.nM λp hp=>(dR.mp hp).elim (λz=>I.pin p (eC _ z)) λz=>by obtain⟨hb,e⟩:=Ku z;obtain⟨f0,f1,f2,_⟩:=hf p.1 hb;obtain⟨o,e',d⟩:=ho p.1 hb;rw[e]at e';cases e';exact⟨e,f0,f1,f2,d⟩
def Inv.mZ{Wx pl:QQY}(I:Inv X (Wx++pl) Y H s):Inv X Wx Y H s:=I.nM λp hp=>I.pin p (eC _ (fz _ hp))
def QO{tb:TS}(hp:PassesOwn (Tk X.prog X.w) X.A X.env X.xe)(hc:X.calm=pc)(hi:PI X tg iter wi)(hg:PG X tg g)(hb:B4 X body tb) (hs:∀x,ZM iter X.env x=pure x:=by intro _;rfl):PS X (.For tg iter body [] pos) (U' wi g tb):=by
 intro Wx s Y H D I h;refine wpAny_For (sG (hi Wx s Y H _ I h) λv s1 h1=>sG h1 λitv s2 h2=>?_) hs;obtain⟨it,fp,tn,J,H2,e,I2,T,WW,f2,W,⟨m0,w0⟩,turn⟩:=h2;subst e;have XJ:∀{H':Hp},(∀b∈fp,H' b=Db)->∀b∈fp,AU X Wx H' b:=λhn b hb=>⟨hn b hb,(f2 b hb).2⟩;refine codeAny_forLoop_any (λn s'=>∃i σ' H',Inv X Wx σ' H' s'/\tn i s'.heap/\(∀b∈fp,H' b=Db)/\W i n σ' H') ?_ m0 ⟨0,Y,H2,I2,WW,λb hb=>(f2 b hb).1,w0⟩
 rintro n s3 ⟨i,σ3,H3,I3,Xq,fr3,w3⟩
 rcases turn i n σ3 H3 w3 with⟨stop,qn⟩|⟨go,N,hN,step⟩
 .refine gB hp (sG (T.done X Z' Z' Z' hc i Wx s3 σ3 H3 X.xe I3 (XJ fr3) Xq stop) λr s4 ⟨hr,I4⟩=>?_);subst hr;exact gY ⟨σ3,H3,I4,qn⟩
 .refine gB hp (sG (T.item X Z' Z' Z' hc i Wx s3 σ3 H3 X.xe I3 (XJ fr3) Xq go) λr s4 ⟨u,hr,h4⟩=>?_);subst hr;refine gB hp (sG h4 λ_ s5 zz=>?_);obtain⟨x,H5,I5,r5,y5,Y0,fr5⟩:=zz;have I5':=I5.pinned (XJ fr5) (T.obj _ _ Y0);refine gB hp (sG (hg _ s5 σ3 H5 x u _ I5' r5 (step x H5 y5)) λ_ s6 ⟨σ6,H6,I6,q6⟩=>?_);refine gB hp (sG (hb _ s6 σ6 H6 _ I6 q6) λf s7 q7=>?_);have again:∀{σ7:St} {H7:Hp},Inv X (Wx++Cy fp s5.heap) σ7 H7 s7->N σ7 H7->∃m,m<n/\∃i σ' H',Inv X Wx σ' H' s7/\tn i s7.heap/\(∀b∈fp,H' b=Db)/\W i m σ' H':=λ{σ7 H7} I7 n7=>by obtain⟨m',hm,w7⟩:=hN σ7 H7 n7;refine⟨m',hm,i+1,σ7,H7,I7.mZ,T.keep _ _ _ Y0 λb hb o e=>(I7.pin (b,o) (eC _ (eC _ (vn hb e)))).1,λb hb=>?_,w7⟩;obtain⟨o,e,d⟩:=T.obj _ _ Y0 b hb;exact(I7.pin (b,o) (eC _ (eC _ (vn hb e)))).2.1
  cases f with
  | next=>obtain⟨σ7,H7,I7,n7⟩:=q7;exact again I7 n7
  | cont=>obtain⟨σ7,H7,I7,n7⟩:=q7;exact again I7 n7
  | brk=>obtain⟨σ7,H7,I7,q7⟩:=q7;exact⟨σ7,H7,I7.mZ,q7⟩
  | ret v=>obtain⟨x7,σ7,H7,I7,r7,q7⟩:=q7;exact⟨x7,σ7,H7,I7.mZ,r7,q7⟩
abbrev R2:=V->V->Hp->VK->Prop
def xU(X:Cx)(f:Vl->Vl->Sem Vl)(r:R2):Prop:=
 ∀(Wx:QQY) (s:Sd) (Y:St) (H:Hp) (x y:V) (v u:Vl) (Q:VK),Inv X Wx Y H s->qL x v->qL y u->r x y H Q->
  pi (Tk X.prog X.w) X.A (f v u) (EP X Wx Y Q) X.xe s
def VB(X:Cx)(f:Vl->Sem Vl)(r:V->Hp->VK->Prop):Prop:=
 ∀(Wx:QQY) (s:Sd) (Y:St) (H:Hp) (x:V) (v:Vl) (Q:VK),Inv X Wx Y H s->qL x v->r x H Q->
  pi (Tk X.prog X.w) X.A (f v) (EP X Wx Y Q) X.xe s
def zO(X:Cx)(f:Vl)(r:T0 V->Hp->VK->Prop):Prop:=
 ∀(Wx:QQY) (s:Sd) (Y:St) (H:Hp) (xs:T0 V) (us:T0 Vl) (Q:VK),Inv X Wx Y H s->qF xs us->r xs H Q->
  pi (Tk X.prog X.w) X.A (call f us) (EP X Wx Y Q) X.xe s
def Tq(r:R2)(ta tb:TE):TE:=λY H Q=>ta Y H λx H1=>tb Y H1 λy H2=>r x y H2 Q
def Wv(r:V->Hp->VK->Prop)(ta:TE):TE:=λY H Q=>ta Y H λx H1=>r x H1 Q
def rI(C:Int->Int->Prop)(g:Int->Int->V):R2:=λx y H Q=>∃i j,x=.int i/\y=.int j/\C i j/\Q (g i j) H
def QI(g:Int->Int->V):R2:=λx y H Q=>∃i j,x=.int i/\y=.int j/\Q (g i j) H
def rU(g:Int->V):V->Hp->VK->Prop:=λx H Q=>∃i,x=.int i/\Q (g i) H
variable {tc:TE}
section
variable {a b c:zn}
def R0(ha:PE X a ta)(hb:PE X b tb){Wx:QQY}{s:Sd}{Y:St}{H:Hp}{R:V->V->Hp->Prop}(I:Inv X Wx Y H s) (h:ta Y H λx H1=>tb Y H1 λy H2=>R x y H2) {Q:QQX} {f:Vl->Vl->Sem Vl} (hf:∀v u s2 x y H2,Inv X Wx Y H2 s2->qL x v->qL y u->R x y H2->pi (Tk X.prog X.w) X.A (f v u) Q X.xe s2):
  pi (Tk X.prog X.w) X.A (wp a X.env) (λv s₁=>pi (Tk X.prog X.w) X.A (wp b X.env) (λu s₂=>pi (Tk X.prog X.w) X.A (f v u) Q X.xe s₂) X.xe s₁) X.xe s:=by
 refine sG (ha Wx s Y H _ I h) λv s1 zz=>x5 zz λx H1 I1 r1 q1=>?_;refine sG (hb Wx s1 Y H1 _ I1 q1) λu s2 zz=>x5 zz λy H2 I2 r2 q2=>?_;exact hf v u s2 x y H2 I2 r1 r2 q2
def QA{op:ZX}(ho:xU X (dL op) r)(ha:PE X a ta)(hb:PE X b tb):PE X (.BinOp a op b pos) (Tq r ta tb):=by intro Wx s Y H Q I h;exact wpAny_BinOp (R0 ha hb I h λv u s2 x y H2 I2 rx ry q=>ho Wx s2 Y H2 x y v u Q I2 rx ry q)
def Ti{op:UnaryOp}(ho:VB X (unaryOp op) r)(ha:PE X a ta):PE X (.UnaryOp op a pos) (Wv r ta):=by intro Wx s Y H Q I h;exact UnaryOp_ (sG (ha Wx s Y H _ I h) λv s1 zz=>x5 zz λx H1 I1 r1 q1=>ho Wx s1 Y H1 x v Q I1 r1 q1)
def VQ{f:Vl->Vl->Sem Vl}{C:Int->Int->Prop}{g:Int->Int->Int} (rule:∀(i j:Int) (t u:Tok) (s:Sd) (Q:QQX) (E:QQX),C i j->Q (.int (g i j) s.toks) {s with toks:=s.toks+1}->pi (Tk X.prog X.w) X.A (f (.int i t) (.int j u)) Q E s):
  xU X f (rI C λi j=>.int (g i j)):=by
 intro Wx s Y H x y v u Q I rx ry h;obtain⟨i,j,rfl,rfl,hc,q⟩:=h;obtain⟨t,rfl⟩:=rx;obtain⟨t',rfl⟩:=ry;exact rule i j t t' s _ _ hc ⟨.int (g i j),H,I.tok _,⟨_,Z'⟩,q⟩
def Tj{f:Vl->Vl->Sem Vl}{g:Int->Int->Int} (rule:∀(i j:Int) (t u:Tok) (s:Sd) (Q:QQX) (E:QQX),Q (.int (g i j) s.toks) {s with toks:=s.toks+1}->pi (Tk X.prog X.w) X.A (f (.int i t) (.int j u)) Q E s):
  xU X f (QI λi j=>.int (g i j)):=by
 intro Wx s Y H x y v u Q I rx ry h;obtain⟨i,j,rfl,rfl,q⟩:=h;obtain⟨t,rfl⟩:=rx;obtain⟨t',rfl⟩:=ry;exact rule i j t t' s _ _ ⟨.int (g i j),H,I.tok _,⟨_,Z'⟩,q⟩
def PC{f:Vl->Vl->Sem Vl}{g:Int->Int->Bool} (rule:∀(i j:Int) (t u:Tok) (s:Sd) (Q:QQX) (E:QQX),Q (.bool (g i j)) s->pi (Tk X.prog X.w) X.A (f (.int i t) (.int j u)) Q E s):
  xU X f (QI λi j=>.bl (g i j)):=by
 intro Wx s Y H x y v u Q I rx ry h;obtain⟨i,j,rfl,rfl,q⟩:=h;obtain⟨t,rfl⟩:=rx;obtain⟨t',rfl⟩:=ry;exact rule i j t t' s _ _ ⟨.bl (g i j),H,I,Z',q⟩
def UD(i j:Int):Prop:=0<j/\j<1073741824
def C4(i j:Int):Prop:=(-(2 ^ 64)<i/\i<2 ^ 64)\/(-(2 ^ 64)<j/\j<2 ^ 64)
def C4.ok(h:C4 i j):IntMulOk i j:=by
 rcases h with⟨h1,h2⟩|⟨h1,h2⟩
 .exact .of_left (intBits_le_64 h1 h2)
 .exact .of_right (intBits_le_64 h1 h2)
def R1:xU X (dL .Add) (QI λi j=>.int (i+j)):=Tj λ_ _ _ _ _ _ _ q=>add_int q
def Q9:xU X (dL .Sub) (QI λi j=>.int (i - j)):=Tj λ_ _ _ _ _ _ _ q=>sub_int q
def RQ:xU X (dL .Mult) (rI C4 λi j=>.int (i*j)):=VQ λ_ _ _ _ _ _ _ hc q=>mul_int q hc.ok
def NY:xU X (dL .FloorDiv) (rI UD λi j=>.int (i / j)):=VQ λi j _ _ _ _ _ hc q=>by have h1:(0:Int)<j:=hc.1;have h2:j<1073741824:=hc.2;exact floordiv_int (by lia) (by rw[Int.fdiv_eq_ediv_of_nonneg i (by lia)];exact q) (.inl (PyProof.noPylong_small (by lia)))
def QN:xU X (dL .Mod) (rI (λ_ j=>0<j) λi j=>.int (i % j)):=VQ λi j _ _ _ _ _ hc q=>by have h1:(0:Int)<j:=hc;exact mod_int' (by lia) (by rw[Int.fmod_eq_emod_of_nonneg i (by lia)];exact q)
def Wl{f:Vl->Sem Vl}{g:Int->Int} (rule:∀(i:Int) (t:Tok) (s:Sd) (Q:QQX) (E:QQX),Q (.int (g i) s.toks) {s with toks:=s.toks+1}->pi (Tk X.prog X.w) X.A (f (.int i t)) Q E s):
  VB X f (rU λi=>.int (g i)):=by
 intro Wx s Y H x v Q I rx h;obtain⟨i,rfl,q⟩:=h;obtain⟨t,rfl⟩:=rx;exact rule i t s _ _ ⟨.int (g i),H,I.tok _,⟨_,Z'⟩,q⟩
def Se:VB X (unaryOp .USub) (rU λi=>.int (-i)):=Wl λ_ _ _ _ _ q=>neg_int q
end
section
variable {a b c:zn}
def Ii{Wx:QQY}{Q:VK}{k k':Bool}(I:Inv X Wx Y H s)(q:Q (.bl k) H)(e:k=k'):EP X Wx Y Q (.bool k') s:=by subst e;exact⟨.bl k,H,I,Z',q⟩
def T7:xU X (Op .Lt) (QI λi j=>.bl (decide (i<j))):=PC λ_ _ _ _ _ _ _ q=>lt_int q
def Td:xU X (Op .LtE) (QI λi j=>.bl (decide (i<=j))):=PC λ_ _ _ _ _ _ _ q=>le_int q
def UA:xU X (Op .Gt) (QI λi j=>.bl (decide (j<i))):=PC λ_ _ _ _ _ _ _ q=>gt_int q
def Ts:xU X (Op .GtE) (QI λi j=>.bl (decide (j<=i))):=PC λ_ _ _ _ _ _ _ q=>ge_int q
def J8:xU X (Op .In) (λx y H Q=>∃i j,x=.str i/\y=.str j/\Q (.bl (!(Builtin.Str.occurrences j i 0 j.length 1).isEmpty)) H):=by intro Wx s Y H x y v u Q I rx ry h;obtain⟨i,j,rfl,rfl,q⟩:=h;obtain⟨t,rfl⟩:=rx;obtain⟨t',rfl⟩:=ry;exact in_str (Ii I q Z')
def SB:xU X (Op .Is) (λx y H Q=>y=.mL/\Q (.bl (decide (x=.mL))) H):=by
 intro Wx s Y H x y v u Q I rx ry h;obtain⟨rfl,q⟩:=h;cases ry;refine is_none_gen (Ii I q ?_);cases x<;>first
  | (cases rx;rfl)
  | (obtain⟨t,rfl⟩:=rx;rfl)
def NQ:xU X (Op .IsNot) (λx y H Q=>y=.mL/\Q (.bl (!decide (x=.mL))) H):=by
 intro Wx s Y H x y v u Q I rx ry h;obtain⟨rfl,q⟩:=h;cases ry;refine isnot_none_gen (Ii I q ?_);cases x<;>first
  | (cases rx;rfl)
  | (obtain⟨t,rfl⟩:=rx;rfl)
def Hy(b:zn){op:CmpOp}(h:op≠.In:=by decide)(h2:op≠.NotIn:=by decide):ZL op b=lf:=by
 have e1:(op==CmpOp.In)=lf:=by cases op<;>first|rfl|exact absurd Z' h
 have e2:(op==CmpOp.NotIn)=lf:=by cases op<;>first|rfl|exact absurd Z' h2
 cases b<;>simp[ZL,e1,e2]
def IA{op:CmpOp}(ho:xU X (Op op) r)(ha:PE X a ta)(hb:PE X b tb)(hm:ZL op b=lf):PE X (.Compare a [op] [b] pos) (Tq r ta tb):=by intro Wx s Y H Q I h;exact wpAny_Compare1 (R0 ha hb I h λv u s2 x y H2 I2 rx ry q=>ho Wx s2 Y H2 x y v u Q I2 rx ry q) hm
def QH(t:TE):TT:=λY H Q=>t Y H λx H'=>∃k,x=.bl k/\Q k H'
def IE{op:CmpOp}(ho:xU X (Op op) r)(ha:PE X a ta)(hb:PE X b tb)(hm:ZL op b=lf):PT X (.Compare a [op] [b] pos) (QH (Tq r ta tb)):=by
 intro Wx s Y H Q I h;refine wpAny_isTrue_Compare1 (sG (ha Wx s Y H _ I h) λv s1 zz=>x5 zz λx H1 I1 r1 q1=>sG (hb Wx s1 Y H1 _ I1 q1) λu s2 zz=>x5 zz λy H2 I2 r2 q2=>
  sG (ho Wx s2 Y H2 x y v u _ I2 r1 r2 q2) λc s3 zz=>?_) hm
 obtain⟨z,H3,I3,r3,k,e,q3⟩:=zz;subst e;cases r3;exact fk ⟨H3,I3,q3⟩
def LD(r r':R2)(ta tb tc:TE):TE:=λY H Q=>ta Y H λx H1=>tb Y H1 λy H2=>r x y H2 λz H3=>∃k,z=.bl k/\
 (if k=pc then tc Y H3 λw' H4=>r' y w' H4 Q else Q (.bl lf) H3)
def Lr{op Xm:CmpOp}(ho:xU X (Op op) r)(Xd:xU X (Op Xm) r')(ha:PE X a ta)(hb:PE X b tb)(hc:PE X c tc) (hm:lastMarks [op,Xm] [b,c]=lf:=by with_unfolding_all rfl):PE X (.Compare a [op,Xm] [b,c] pos) (LD r r' ta tb tc):=by
 intro Wx s Y H Q I h;refine Compare_chain (sG (ha Wx s Y H _ I h) λv s1 zz=>x5 zz λx H1 I1 r1 q1=>chain_link (sG (hb Wx s1 Y H1 _ I1 q1) λu s2 zz=>x5 zz λy H2 I2 r2 q2=>
  sG (ho Wx s2 Y H2 x y v u _ I2 r1 r2 q2) λd s3 zz=>?_)) hm
 obtain⟨z,H3,I3,r3,k,e,q3⟩:=zz;subst e;cases r3;refine fk ?_;cases k with
 | false=>exact ite_ff ⟨.bl lf,H3,I3,Z',q3⟩
 | true=>exact ite_tt (chain_last (sG (hc Wx s3 Y H3 _ I3 q3) λw' s4 zz=>x5 zz λz' H4 I4 r4 q4=>Xd Wx s4 Y H4 y z' u w' Q I4 r2 r4 q4))
def K8{op Xm:CmpOp}(ho:xU X (Op op) r)(Xd:xU X (Op Xm) r')(ha:PE X a ta)(hb:PE X b tb)(hc:PE X c tc) (hm:lastMarks [op,Xm] [b,c]=lf:=by with_unfolding_all rfl):PT X (.Compare a [op,Xm] [b,c] pos) (QH (LD r r' ta tb tc)):=by
 intro Wx s Y H Q I h;refine isTrue_chain (sG (ha Wx s Y H _ I h) λv s1 zz=>x5 zz λx H1 I1 r1 q1=>test_link (sG (hb Wx s1 Y H1 _ I1 q1) λu s2 zz=>x5 zz λy H2 I2 r2 q2=>
  sG (ho Wx s2 Y H2 x y v u _ I2 r1 r2 q2) λd s3 zz=>?_)) hm
 obtain⟨z,H3,I3,r3,k,e,q3⟩:=zz;subst e;cases r3;refine fk ?_;cases k with
 | false=>obtain⟨k',e',q'⟩:=q3;cases e';exact ite_ff ⟨H3,I3,q'⟩
 | true=>refine ite_tt (test_last (sG (hc Wx s3 Y H3 _ I3 q3) λw' s4 zz=>x5 zz λz' H4 I4 r4 q4=>sG (Xd Wx s4 Y H4 y z' u w' _ I4 r2 r4 q4) λd' s5 zz=>?_));obtain⟨z2,H5,I5,r5,k2,e2,q5⟩:=zz;subst e2;cases r5;exact fk ⟨H5,I5,q5⟩
def yS:(Ch:Nat)<2 ^ 63:=by rw[dN];decide
def Ig:xU X (dL .Add) (λx y H Q=>∃i j,x=.str i/\y=.str j/\i.length+j.length<=Ch/\Q (.str (i++j)) H):=by intro Wx s Y H x y v u Q I rx ry h;obtain⟨i,j,rfl,rfl,hz,q⟩:=h;obtain⟨t,rfl⟩:=rx;obtain⟨t',rfl⟩:=ry;exact add_str (λt' tk=>⟨.str (i++j),H,I.tok _,⟨_,Z'⟩,q⟩) hz
def yA{x:V}(r:qF [x] us):∃u,us=[u]/\qL x u:=by
 cases r with
 | cons r1 r2=>cases r2;exact⟨_,Z',r1⟩
def QC{x y:V}(r:qF [x,y] us):∃u w',us=[u,w']/\qL x u/\qL y w':=by
 cases r with
 | cons r1 r2=>
  cases r2 with
  | cons r3 r4=>cases r4;exact⟨_,_,Z',r1,r3⟩
def Ka(hc:X.calm=pc):zO X (.builtin "min") (λxs H Q=>∃i j,xs=[.int i,.int j]/\Q (.int (if j<i then j else i)) H):=by
 intro Wx s Y H xs us Q I r h;obtain⟨i,j,rfl,q⟩:=h;obtain⟨u,w',rfl,⟨t,rfl⟩,⟨t',rfl⟩⟩:=QC r;refine min_two_ints (I.ok.hd hc) λh' tk k=>⟨_,H,I.kept k,?_,q⟩;by_cases hj:j<i
 .rw[cX hj,cX hj];exact⟨_,Z'⟩
 .rw[cV hj,cV hj];exact⟨_,Z'⟩
end
structure HV(h:Go)(x dx C:Uf)(mA:QQZ):Prop where
 obj:h.get? x=Fa (W.instObj C dx)
 ns:h.Ns1 dx mA
 ne:dx≠x
def JU{h:Go}{dx:Uf}{mA:QQZ}(n:h.Ns1 dx mA):∃od,h.get? dx=Fa od/\∀name,W.lookIn name od=Fa (mA name):=by
 obtain⟨o,es,ep,ho,hd,hk,_,hm⟩:=n;refine⟨o,ho,λname=>?_⟩;have e:=hm name;unfold nsFind findBy at e;rw[<-kU]at e;unfold W.lookIn;rw[hd];dsimp only;split
 .rename_i y q;rw[q]at e;exact eJ Fa e
 .rename_i q;rw[q]at e;have a:es.toList.any (·.refKey)=lf:=by rw[lA];intro y hy;obtain⟨z,t,hkey⟩:=hk y (km.mp hy);simp[DictEntry.refKey,hkey]
  have a':¬es.toList.any (·.refKey)=pc:=by rw[a];exact dh
  rw[cV a'];exact eJ Fa e
def HV.look(I:HV h x dx C mA):∃od,W.InstAt h x (W.instObj C dx) C (Fa od)/\∀name,W.lookIn name od=Fa (mA name):=
 let⟨od,ho,hl⟩:=JU I.ns
 ⟨od,⟨I.obj,Z',Z',ho⟩,hl⟩
variable {prog:Pg}{A:Ar}{K:qx}{dx C:Uf}{mA:QQZ}{name:Str}
section
variable {w:Wo}{E:QQX}{x f:Uf}{v:Vl}
def Oa{Zf:Bool}{Q:QQX}(X:K.In s.heap)(I:HV s.heap x dx C mA)(hg:W.plainGet K C name=pc)(hh:W.hasDictIn K C=pc) (ha:W.findIn K (.ref C) name=Fa Db) (hv:mA name=Fa v) (hv':W.handedIn v=pc) (h:Q v {s with toks:=s.toks+1}):
  pi (Tk prog w) A (getAttr (.ref x) name Zf) Q E s:=by
 obtain⟨od,J,hl⟩:=I.look;exact W.get_value X J (kz hg).1 (W.findObj_own hh ha Z' (by rw[hl,hv])) hv' h
def LP{pl:Sem Bool}{Q:Vl×T0 Vl->Sd->Prop}(X:K.In s.heap)(I:HV s.heap x dx C mA)(hg:W.plainGet K C name=pc) (hf:W.findIn K (.ref C) name=Fa (Fa (.ref f))) (ht:W.isFn K (.ref f)=pc) (hv:mA name=Db) (h:Q (.ref f,[.ref x]) s):
  pi (Tk prog w) A (ZN (.ref x) name pl) Q E s:=by
 obtain⟨od,J,hl⟩:=I.look;exact W.method_fn X J (kz hg).1 (kz hg).2 hf (fg.mp ht) (by show(W.lookIn name od).map (·.isSome)=Fa lf;rw[hl,hv];rfl) h
def Po{Q:Unit->Sd->Prop}(X:K.In s.heap)(I:HV s.heap x dx C mA) (hs:W.findIn K (.ref C) "__setattr__"=Fa (Fa (.builtin "object.__setattr__"))) (hp:W.plainOver K C=pc) (ht:W.takerIn K C name=Fa Db) (hh:W.hasDictIn K C=pc) (hw:PySem.Within mA ns) (hsz:ns.length<=Ch) (h:∀h',HV h' x dx C (λy=>if y=name then Fa v else mA y)->Heap.SameBut dx s.heap h'->Q () {s with heap:=h',toks:=s.toks+2}):
  pi (Tk prog w) A (setAttr (.ref x) name v) Q E s:=by
 obtain⟨od,J,hl⟩:=I.look;refine W.set_plain X J hs (W.osa_open (s:={s with toks:=s.toks+1}) (r:=none) X J hp ht λb=>?_);obtain⟨cd,hc,hd'⟩:=W.any_some hh;have hx:s.heap.get? x=Fa ⟨.ref C,Fa dx,.plain,#[]⟩:=I.obj;refine cR (c9 (cR (cR (wpAny_loadPart hx (cR (mq (s:={s with toks:=s.toks+1}) (kA X hc) ?_))))));rw[hd'];refine c9 (a:=some dx) (cR (c9 (cR ?_)));refine wpAny_nsSet1 (s:={s with toks:=s.toks+1}) I.ns λh' Zg Yf=>?_;obtain⟨oD,esD,epD,hoD,Gk,hcD⟩:=Zg.count (PySem.Within.cons name v hw);refine cR (lL hoD (by rw[Gk];exact lM (dY hcD (by rw[dS];lia))) ?_);exact c9 (h _ ⟨(Yf.2 _ (dG I.ne)).trans I.obj,Zg,I.ne⟩ Yf)
def K'{vs:T0 Vl}{kw:T0 (Str×Vl)}(X:K.In s.heap)(hm:W.makesIn K C=pc) (hi:W.findIn K (.ref C) "__init__"=Fa (Fa (.ref f))) (hf:W.typeIn K (.ref f)=Fa (.type "function")) (h:XV (Tk prog w) (A.under (.builtin "type.__call__" ⟨.ref C::vs,kw⟩)) (.call (.ref f) ⟨.ref (s.heap.objs.size+1)::vs,kw⟩) (W.InitBack (s.heap.objs.size+1) R) {s with heap:=(s.heap.push W.emptyDict).push (W.instObj C s.heap.objs.size)}):
  XV (Tk prog w) A (.call (.ref C) ⟨vs,kw⟩) R s:=by
 obtain⟨hh,g,d,t,os⟩:=s;exact W.make_core (W.makes_of X hm) (iY X hi) (λself=>W.bind_fn X self hf) (.inl Z') h
end
noncomputable def vD(f:Str)(v:V):T0 (Str×V)->T0 (Str×V)
 | []=>[(f,v)]
 | (g,x)::r=>if g=f then(g,v)::r else(g,x)::vD f v r
theorem Ax(f g:Str)(v:V):∀fs:T0 (Str×V),(vD f v fs).lookup g=if g=f then Fa v else fs.lookup g
 | []=>by
  show List.lookup g [(f,v)]=_;by_cases h:g=f
  .have hb:(g==f)=pc:=fg.mpr h;simp only[List.lookup,hb,cX h]
  .have hb:(g==f)=lf:=gw.mpr h;simp only[List.lookup,hb,cV h]
 | (k,x)::r=>by
  have ih:=Ax f g v r;rw[show vD f v ((k,x)::r)=(if k=f then(k,v)::r else(k,x)::vD f v r)from Z'];by_cases hk:k=f
  .rw[cX hk];by_cases h:g=k
   .have hb:(g==k)=pc:=fg.mpr h;simp only[List.lookup,hb,cX (h.trans hk)]
   .have hb:(g==k)=lf:=gw.mpr h;simp only[List.lookup,hb,cV (λe:g=f=>h (e.trans hk.symm))]
  .rw[cV hk];by_cases h:g=k
   .have hb:(g==k)=pc:=fg.mpr h;simp only[List.lookup,hb,cV (λe:g=f=>hk (h.symm.trans e))]
   .have hb:(g==k)=lf:=gw.mpr h;simp only[List.lookup,hb];exact ih
theorem Av(f:Str)(v:V):∀fs:T0 (Str×V),f∈(vD f v fs).map (·.1)/\∀g,g∈fs.map (·.1)->g∈(vD f v fs).map (·.1)
 | []=>⟨by simp[vD],λg h=>by simp at h⟩
 | (k,x)::r=>by
  obtain⟨i1,i2⟩:=Av f v r;rw[show vD f v ((k,x)::r)=(if k=f then(k,v)::r else(k,x)::vD f v r)from Z'];by_cases hk:k=f
  .rw[cX hk];subst hk;exact⟨by simp,λg h=>by simpa using h⟩
  .rw[cV hk];refine⟨?_,λg h=>?_⟩
   .rw[dW];exact dz _ i1
   .rw[dW]at h ⊢;rcases de.mp h with e|e
    .exact de.mpr (.inl e)
    .exact dz _ (i2 g e)
theorem AK(f:Str)(v:V):∀fs:T0 (Str×V),(vD f v fs).length<=fs.length+1
 | []=>by simp[vD]
 | (k,x)::r=>by
  have ih:=AK f v r;rw[show vD f v ((k,x)::r)=(if k=f then(k,v)::r else(k,x)::vD f v r)from Z'];by_cases hk:k=f
  .rw[cX hk,dS,dS];lia
  .rw[cV hk,dS,dS];lia
def yw.some_of{v:V}(r:yw (Fa v) o):∃u,o=Fa u/\qL v u:=by
 cases o with
 | none=>exact(show False from r).elim
 | some u=>exact⟨u,Z',r⟩
def yw.none_of{o:Option Vl}(r:yw Db o):o=Db:=by
 cases o with
 | none=>rfl
 | some u=>exact(show False from r).elim
def Kc{u:Vl}(r:qL v u):W.handedIn u=pc:=by
 cases v with
 | mL=>cases(show u=Value.none from r);rfl
 | bl b=>cases(show u=Value.bool b from r);rfl
 | int i=>obtain⟨t,e⟩:=(show ∃t,u=Value.int i t from r);cases e;rfl
 | str x=>obtain⟨t,e⟩:=(show ∃t,u=Value.str x t from r);cases e;rfl
 | byt b=>obtain⟨t,e⟩:=(show ∃t,u=Value.bytes b t from r);cases e;rfl
 | flt b=>obtain⟨t,e⟩:=(show ∃t,u=Value.float b t from r);cases e;rfl
 | ref a=>cases(show u=Value.ref a from r);rfl
 | ty n=>cases(show u=Value.type n from r);rfl
section
variable {P:Pg}{w:Wo}{a:Uf}{fs fs':T0 (Str × V)}
def Fb(mQ:yu P w H h)(e:H a=Fa (.ins C dx fs)):∃mA,HV h a dx C mA/\(∀f,yw (fs.lookup f) (mA f))/\PySem.Within mA (fs.map (·.1))/\fs.length<=1000/\H dx=Fa (.own a):=by obtain⟨d,z,ne,ob,mA,n,r,q⟩:=(show sV P w H h a (.ins C dx fs)from mQ a _ e);exact⟨mA,⟨ob,n,ne⟩,r,q,z,d⟩
end
structure Cls(K:qx)(C:Uf):Prop where
 pg:W.plainGet K C Str.empty=pc
 hd:W.hasDictIn K C=pc
 po:W.plainOver K C=pc
 sa:W.findIn K (.ref C) "__setattr__"=Fa (Fa (.builtin "object.__setattr__"))
def Cls.get{K:qx}(c:Cls K C)(f:Str):W.plainGet K C f=pc:=c.pg
def ue(K:qx)(C:Uf)(f:Str):Prop:=W.findIn K (.ref C) f=Fa Db
def ue.oX{K:qx}(n:ue K C f):W.takerIn K C f=Fa Db:=by unfold W.takerIn;rw[show W.findIn K (.ref C) f=Fa Db from n];rfl
structure vE(K:qx)(C:Uf)(m:Str)(f:Uf):Prop where
 at_:W.findIn K (.ref C) m=Fa (Fa (.ref f))
 fn:W.isFn K (.ref f)=pc
 kp:W.keepIn K (.ref f)=pc
section
variable {Y:St}{a:Uf}{fs:T0 (Str × V)}{f:Str}{v:V}{E:QQX}
def BL{b:Bool}{Q:QQX}(I:Inv X Wx Y H s)(e:H a=Fa (.ins C dx fs))(c:Cls X.K C)(n:ue X.K C f)(l:fs.lookup f=Fa v) (h:∀u s',Inv X Wx Y H s'->qL v u->Q u s'):pi (Tk X.prog X.w) A (getAttr (.ref a) f b) Q E s:=by
 obtain⟨mA,O,r,_,_,_⟩:=Fb I.mQ e;obtain⟨u,hu,ru⟩:=yw.some_of (v:=v) (o:=mA f) (by rw[<-l];exact r f);exact Oa I.nA O (c.get f) c.hd n hu (Kc ru) (h u _ (I.tok _) ru)
def B'{pl:Sem Bool}{Q:Vl×T0 Vl->Sd->Prop}(I:Inv X Wx Y H s)(e:H a=Fa (.ins C dx fs))(c:Cls X.K C)(k:vE X.K C m g)(l:fs.lookup m=Db) (h:Q (.ref g,[.ref a]) s):pi (Tk X.prog X.w) A (ZN (.ref a) m pl) Q E s:=by
 obtain⟨mA,O,r,_,_,_⟩:=Fb I.mQ e;have hn:mA m=Db:=yw.none_of (by rw[<-l];exact r m);exact LP I.nA O (c.get m) k.at_ k.fn hn h
def BX{u:Vl}{Q:Unit->Sd->Prop}(I:Inv X Wx Y H s)(e:H a=Fa (.ins C dx fs))(c:Cls X.K C)(n:ue X.K C f)(hl:fs.length<1000)(ry:qL y u) (h:∀s',Inv X Wx Y (upd H a (.ins C dx (vD f y fs))) s'->Q () s'):pi (Tk X.prog X.w) A (setAttr (.ref a) f u) Q E s:=by
 obtain⟨mA,O,r,wi,_,ho⟩:=Fb I.mQ e;have hz:(fs.map (·.1)).length<=Ch:=by rw[cQ,dN];lia
 refine Po I.nA O c.sa c.po n.oX c.hd wi hz λh' O' sb=>h _ ?_;have hd:∃o,h'.get? dx=Fa o:=let⟨o,_,_,e',_⟩:=O'.ns;⟨o,e'⟩;refine I.write (x:=a) (e:=dx) (by rw[e];exact True.intro) (.inr ho) (λb q hb z=>(sb.2 b hb).trans z) hd ?_;refine⟨by rw[pZ O.ne];exact ho,?_,O.ne,O'.obj,_,O'.ns,λg=>?_,λg hg=>?_⟩
 .have:=AK f y fs;lia
 .show yw ((vD f y fs).lookup g) (if g=f then Fa u else mA g);rw[Ax];by_cases q:g=f
  .rw[cX q,cX q];exact ry
  .rw[cV q,cV q];exact r g
 .by_cases q:g=f
  .rw[q];exact(Av f y fs).1
  .refine(Av f y fs).2 g (wi g λz=>hg ?_);show(if g=f then Fa u else mA g)=Db;rw[cV q];exact z
def Inv.made(I:Inv X Wx Y H s):Inv X Wx Y (upd (upd H s.heap.objs.size (.own (s.heap.objs.size+1))) (s.heap.objs.size+1) (.ins C s.heap.objs.size [])) {s with heap:=(s.heap.push W.emptyDict).push (W.instObj C s.heap.objs.size)}:=by
 have e1:(s.heap.push W.emptyDict).get? s.heap.objs.size=Fa W.emptyDict:=dC s.heap Z';have e2:((s.heap.push W.emptyDict).push (W.instObj C s.heap.objs.size)).get? (s.heap.objs.size+1)=Fa (W.instObj C s.heap.objs.size):=by
  have:=dC (s.heap.push W.emptyDict) (o:=W.instObj C s.heap.objs.size) Z'
  rwa [fJ]at this
 have e3:(s.heap.push W.emptyDict).Ns s.heap.objs.size (λ_=>Db):=⟨W.emptyDict,#[],_,e1,Z',(λe he=>absurd he (by simp)),λ_=>rfl⟩;have I1:=I.laid (a:=s.heap.objs.size) (o:=.own (s.heap.objs.size+1)) (h':=s.heap.push W.emptyDict) (t':=s.toks) (λb u q=>cW _ q) (cZ _) ⟨_,e1⟩;refine I1.laid (a:=s.heap.objs.size+1) (o:=.ins C s.heap.objs.size []) (t':=s.toks) (λb u q=>cW _ q) (jD (fJ _ _)) ?_;have ne:s.heap.objs.size≠s.heap.objs.size+1:=dJ (fB _);refine⟨by rw[pZ ne,qh],eU _,ne,e2,λ_=>Db,(lB e3).at λo q=>cW _ q,λ_=>True.intro,λy hy=>absurd Z' hy⟩
def JA{prog:Pg}{w:Wo}{env:Env}{e:zn}{f:Str}{s:Sd}{Q:QQX}(hb:At e f env (wp e env)=wp e env) (h:pi (Tk prog w) A (wp e env) (λo s₁=>pi (Tk prog w) A (getAttr o f pc) Q E s₁) E s):pi (Tk prog w) A (wp (.Attribute e f pos) env) Q E s:=
 Attribute_any_ h (by rw[arm_eval_Attribute,hb])
end
def Vc(K:qx)(ta:TE)(f:Str):TE:=λY H Q=>ta Y H λx H1=>∃a C dx fs v,x=.ref a/\H1 a=Fa (.ins C dx fs)/\Cls K C/\ue K C f/\fs.lookup f=Fa v/\Q v H1
def Vu(K:qx)(ta tv:TE)(f:Str):TS:=λD Y H=>tv Y H λy H1=>ta Y H1 λx H2=>∃a C dx fs,x=.ref a/\H2 a=Fa (.ins C dx fs)/\Cls K C/\ue K C f/\fs.length<1000/\
 D.nx Y (upd H2 a (.ins C dx (vD f y fs)))
def PB(X:Cx)(op:ZX)(rd:V->V->Hp->VK->Prop):Prop:=
 ∀(Wx:QQY) (s:Sd) (Y:St) (H:Hp) (x y:V) (u v:Vl) (Q:VK),Inv X Wx Y H s->qL x u->qL y v->rd x y H Q->pi (Tk X.prog X.w) X.A (inplaceOp op u v) (EP X Wx Y Q) X.xe s
def OY(K:qx)(ta tv:TE)(rd:V->V->Hp->VK->Prop)(f:Str):TS:=λD Y H=>ta Y H λx H1=>∃a C dx fs v,x=.ref a/\H1 a=Fa (.ins C dx fs)/\Cls K C/\ue K C f/\fs.lookup f=Fa v/\
 tv Y H1 λy H2=>rd v y H2 λz H3=>∃Zh fs',H3 a=Fa (.ins C Zh fs')/\fs'.length<1000/\D.nx Y (upd H3 a (.ins C Zh (vD f z fs')))
variable {value:zn}{WI YD:Pos}{tv:TE}
section
variable {o e:zn}{f:Str}
def Re(he:PE X e ta)(hb:At e f X.env (wp e X.env)=wp e X.env):PE X (.Attribute e f pos) (Vc X.K ta f):=by intro Wx s Y H Q I h;refine JA hb (sG (he Wx s Y H _ I h) λu s1 zz=>?_);obtain⟨x,H1,I1,rx,a,C,dx,fs,v,ex,ea,c,n,l,q⟩:=zz;subst ex;obtain rfl:u=Value.ref a:=rx;exact BL I1 ea c n l λu' s2 I2 ru=>⟨v,H1,I2,ru,q⟩
def RK(ha:PE X o ta)(hv:PE X value tv)(hs:ZB value (Fa (.Attribute o f WI)) pos.line X.env=pure lf):PS X (.Assign [.Attribute o f WI] value pos) (Vu X.K ta tv f):=by intro Wx s Y H D I h;refine iL (sG (hv Wx s Y H _ I h) λu s1 zz=>x5 zz λy H1 I1 ry q=>sG (ha Wx s1 Y H1 _ I1 q) λov s2 zz=>?_) hs;obtain⟨x,H2,I2,rx,a,C,dx,fs,ex,ea,c,n,l,q2⟩:=zz;subst ex;obtain rfl:ov=Value.ref a:=rx;exact BX I2 ea c n l ry λs3 I3=>⟨Y,_,I3,q2⟩
def JK(ha:PE X o ta)(hv:PE X value tv)(hop:PB X op rd):PS X (.AugAssign (.Attribute o f YD) op value pos) (OY X.K ta tv rd f):=by intro Wx s Y H D I h;refine wpAny_AugAssign_AttributeAny (sG (ha Wx s Y H _ I h) λov s1 zz=>?_);obtain⟨x,H1,I1,rx,a,C,dx,fs,v,ex,ea,c,n,l,q⟩:=zz;subst ex;obtain rfl:ov=Value.ref a:=rx;refine BL I1 ea c n l λu s2 I2 ru=>sG (hv Wx s2 Y H1 _ I2 q) λw3 s3 zz=>x5 zz λy H2 I3 ry q3=>sG (hop Wx s3 Y H2 v y u w3 _ I3 ru ry q3) λw4 s4 zz=>?_;obtain⟨z,H3,I4,rz,Zh,fs',ea',l',q4⟩:=zz;exact BX I4 ea' c n l' rz λs5 I5=>⟨Y,_,I5,q4⟩
def VL:V->V->Hp->VK->Prop:=λx y H Q=>∃i j,x=.int i/\y=.int j/\Q (.int (i+j)) H
def UY:V->V->Hp->VK->Prop:=λx y H Q=>∃i j,x=.int i/\y=.int j/\Q (.int (i - j)) H
def RP:PB X .Add VL:=by
 rintro Wx s Y H x y u v Q I rx ry ⟨i,j,rfl,rfl,q⟩
 obtain⟨t,rfl⟩:=(show ∃t,u=Value.int i t from rx);obtain⟨t',rfl⟩:=(show ∃t',v=Value.int j t' from ry);exact PyProof.Rows.iadd_int ⟨.int (i+j),H,I.tok _,⟨_,Z'⟩,q⟩
def QZ:PB X .Sub UY:=by
 rintro Wx s Y H x y u v Q I rx ry ⟨i,j,rfl,rfl,q⟩
 obtain⟨t,rfl⟩:=(show ∃t,u=Value.int i t from rx);obtain⟨t',rfl⟩:=(show ∃t',v=Value.int j t' from ry);exact PyProof.Rows.isub_int ⟨.int (i - j),H,I.tok _,⟨_,Z'⟩,q⟩
end
variable {Q:QQX}
section
variable {Y:St}{E:QQX}{c:Vl}{b:Bool}
end
structure rZ(k:Nat)(A:Ar):Prop where
 hd:A.handled=Db
 dp:A.depth+3*k+5<recursionLimit
 un:A.units+16*k+200<ZP
def rZ.mono{j k:Nat}(r:rZ k A)(h:j<=k):rZ j A:=⟨r.hd,by have:=r.dp;lia,by have:=r.un;lia⟩
def rZ.deeper{k:Nat}(r:rZ (k+1) A)(env:Env):rZ k (A.deeper env):=
 ⟨r.hd,by have:=r.dp;show A.depth+1+3*k+5<_;lia,by have:=r.un;show A.units+3+16*k+200<_;lia⟩
def Hv{A:Ar}{C:Uf}{us:T0 Vl}{kw:T0 (Str×Vl)}:(A.under (.builtin "type.__call__" ⟨.ref C::us,kw⟩)).depth=A.depth+1:=by first|rfl|simp[Around.under,Code.weight,Code.isCreation,Code.isGuard,Code.isCaller,Code.frames,Code.isFrame,guardIds]
def Hm{A:Ar}{C:Uf}{us:T0 Vl}{kw:T0 (Str×Vl)}:(A.under (.builtin "type.__call__" ⟨.ref C::us,kw⟩)).units=A.units+1:=by first|rfl|simp[Around.under,Code.cUnits,Code.frames,Code.isFrame]
def rZ.make{k:Nat}(r:rZ (k+1) A)(C:Uf)(us:T0 Vl)(kw:T0 (Str×Vl)):rZ k (A.under (.builtin "type.__call__" ⟨.ref C::us,kw⟩)):=
 ⟨r.hd,by have:=r.dp;rw[Hv];lia,by have:=r.un;rw[Hm];lia⟩
def rZ.depth(r:rZ k A):A.depth<recursionLimit:=by have:=r.dp;lia
def rZ.units(r:rZ k A):A.units+64<ZP:=by have:=r.un;lia
def Ur:TA:=λ_ H Q=>Q [] H
def Tv(ta:TE)(tr:TA):TA:=λY H Q=>ta Y H λx H1=>tr Y H1 λxs H2=>Q (x::xs) H2
variable {es:T0 zn}
section
variable {e:zn}{t:TA}
def Rm:PA X [] Ur:=λ_ _ _ _ H Q I h=>jo ⟨[],H,I,.nil,h⟩
def O7(ha:PE X e te)(hr:PA X es t)(hs:Bv X e es:=by rfl):PA X (e::es) (Tv te t):=by intro pos Wx s Y H Q I h;rw[hs];show pi _ _ (spliced ((lf,wp e X.env)::sB pos (Tl es X.env))) _ _ s;refine jf (sG (ha Wx s Y H _ I h) λu s1 zz=>x5 zz λx H1 I1 r1 q1=>?_);exact sG (hr pos Wx s1 Y H1 _ I1 q1) λus s2 zz=>x5 zz λxs H2 I2 r2 q2=>⟨x::xs,H2,I2,.cons r1 r2,q2⟩
def Vm(t:TA):TE:=λY H Q=>t Y H λxs H1=>xs.length<=Ch/\∀p,H1 p=Db->Q (.ref p) (upd H1 p (.tup xs))
def Vw(t:TA):TE:=λY H Q=>t Y H λxs H1=>xs.length<=Ch/\∀p,H1 p=Db->Q (.ref p) (upd H1 p (.lst xs))
def R8{x1}(h:PA X es t):PE X (.Tuple es x1 pos) (Vm t):=by intro Wx s Y H Q I hq;refine wpAny_Tuple_spliced (sG (h pos Wx s Y H _ I hq) λus s1 ⟨xs,H1,I1,r,z,q⟩=>⟨by rw[<-r.length];exact z,?_⟩);have hf:H1 s1.heap.objs.size=Db:=I1.mQ.fresh (cZ _);refine⟨.ref s1.heap.objs.size,upd H1 s1.heap.objs.size (.tup xs),I1.laid (t':=s1.toks) (λb u e=>cW _ e) (cZ _) ?_,Z',q _ hf⟩;exact⟨z,us,r,⟨_,dC _ Z',Z',⟨_,Z'⟩,Z'⟩⟩
def SL(h:PA X es t):PE X (.List es pos) (Vw t):=by intro Wx s Y H Q I hq;refine wpAny_List_spliced (sG (h pos Wx s Y H _ I hq) λus s1 ⟨xs,H1,I1,r,z,q⟩=>⟨by rw[<-r.length];exact z,?_⟩);have hf:H1 s1.heap.objs.size=Db:=I1.mQ.fresh (cZ _);refine⟨.ref s1.heap.objs.size,upd H1 s1.heap.objs.size (.lst xs),I1.laid (t':=s1.toks) (λb u e=>cW _ e) (cZ _) ?_,Z',q _ hf⟩;exact⟨z,us,0,r,dC _ Z'⟩
end
abbrev Sp:=T0 V->Hp->VK->XK->Prop
abbrev KL:=T0 Env->Hp->Sd->XK->Vl->Sd->Prop
structure G'(P:Pg)(w:Wo)(K:qx)(mg:QQZ)(base:Go)(A:Ar)(outer:List Env)(s:Sd)(H:Hp):Prop where
 frames:A.frames=Fa outer
 mod:Mod K mg base
 bs:∀b o,base.get? b=Fa o->s.heap.get? b=Fa o/\H b=Db
 oa:base.objs.size<=s.heap.objs.size
 nF:s.heap.FunFrames base outer
 oo:∀b∈wj outer,H b=Db
 mQ:yu P w H s.heap
 bare:ZW s.gens
def CE(outer:T0 Env)(P:Pg)(w:Wo)(H:Hp)(s:Sd)(Q:VK)(u:Vl)(s':Sd):Prop:=
 ∃v H',s'.os=s.os/\ZW s'.gens/\Un (wj outer) [] H H' s.heap s'.heap/\yu P w H' s'.heap/\qL v u/\Q v H'
def CR(CX:KL)(outer:T0 Env)(P:Pg)(w:Wo)(H:Hp)(s:Sd)(Q:VK)(E:XK)(r:Result)(s':Sd):Prop:=
 match r with
 | .ok (.ret u)=>CE outer P w H s Q u s'
 | .ok _=>False
 | .error e=>CX outer H s E e s'
structure xw(P:Pg)(w:Wo)(K:qx)(mg:QQZ)(base:Go)(CX:KL)(k:Nat)(f:Uf)(fd:Ix)(ps:QQQ)(sp:Sp):Prop where
 len:∀vs H Q E,sp vs H Q E->vs.length=ps.length
 run:∀(A:Ar) (outer:List Env) (s:Sd) (H:Hp) (args:Args) (us:List Vl) (vs:List V) (Q:VK) (E:XK),rZ k A->G' P w K mg base A outer s H->BindsTo s fd args (ps.zip us)->qF vs us->sp vs H Q E->
  XV (Tk P w) A (.call (.ref f) args) (CR CX outer P w H s Q E) s
def G'.make{K:qx}(e:G' P w K mg base A outer s H)(C:Uf)(us:T0 Vl)(kw:T0 (Str×Vl)):
  G' P w K mg base (A.under (.builtin "type.__call__" ⟨.ref C::us,kw⟩)) outer s H:=⟨by first|exact e.frames|(simpa [Around.under,Code.envs,Code.isFrame,pushEnvs]using e.frames),e.mod,e.bs,e.oa,e.nF,e.oo,e.mQ,e.bare⟩
variable {s':Sd}
section
variable {Y:St}
def Inv.oi(I:Inv X Wx Y H s):G' X.prog X.w X.K X.mg X.base X.A X.stack s H:=
 ⟨I.ok.frames,I.ok.mod,I.bs,dY I.ok.oa I.sz,I.stack,I.nJ,I.mQ,I.bare⟩
def Inv.after{Q:VK}{u:Vl}(I:Inv X Wx Y H s)(h:CE X.stack X.prog X.w H s Q u s'):EP X Wx Y Q u s':=by obtain⟨v,H',os,bare,un,mQ,r,q⟩:=h;obtain⟨hh,g,d,t,os'⟩:=s';obtain rfl:os'=s.os:=os;exact⟨v,H',I.call (h':=hh) (g':=g) (d':=d) (t':=t) (ch:=[]) un mQ bare (λb z=>absurd z (by simp)),r,q⟩
end
def UM(sp:Sp)(Xk:T0 V)(E:XK)(t:TA):TE:=λY H Q=>t Y H λvs H1=>sp (vs++Xk) H1 Q E
def Us(C:Uf)(sp:Sp)(Xk:T0 V)(E:XK)(t:TA):TE:=λY H Q=>t Y H λvs H1=>∀x dx,H1 x=Db->H1 dx=Db->dx≠x->
 sp (.ref x::(vs++Xk)) (upd (upd H1 dx (.own x)) x (.ins C dx [])) (λv H2=>v=.mL/\Q (.ref x) H2) E
def uO(K:qx)(fd:Ix)(ps:QQQ)(ds:T0 Vl):Prop:=
 ∀(s:Sd) (us:T0 Vl),K.In s.heap->(us++ds).length=ps.length->BindsTo s fd ⟨us,[]⟩ (ps.zip (us++ds))
def uO.all{K:qx}{fd:Ix}{ps:QQQ}(h:∀us:T0 Vl,us.length=ps.length->bindArgs fd ⟨us,[]⟩=pure (ps.zip us)):uO K fd ps []:=λs us _ hl=>by rw[dO]at hl ⊢;exact .of_eq (h us hl)
def Cj(CX:KL)(X:Cx)(E:XK):Prop:=∀(Wx:QQY) (Y:St) (H:Hp) (s:Sd) (e:Vl) (s':Sd),Inv X Wx Y H s->CX X.stack H s E e s'->X.xe e s'
variable {CX:KL}{k:Nat}{fd:Ix}{ps:QQQ}{sp:Sp}{Xk:T0 V}{ds:T0 Vl}{m:Str}{p WB:Pos}
section
variable {f:Uf}{E:XK}{x:Str}{e o:zn}{t:TA}
def Fu{Wx:QQY}{Q:VK}(F:xw X.prog X.w X.K X.mg X.base CX k f fd ps sp)(hr:rZ k X.A)(hb:uO X.K fd ps ds)(hd:qF Xk ds)(hx:Cj CX X E) (I:Inv X Wx Y H s) (r:qF vs us) (h:sp (vs++Xk) H Q E):pi (Tk X.prog X.w) X.A (call (.ref f) us) (EP X Wx Y Q) X.xe s:=by
 have r2:qF (vs++Xk) (us++ds):=r.append hd;have hl:(us++ds).length=ps.length:=by rw[<-r2.length];exact F.len _ _ _ _ h
 refine iz (gM (F.run X.A X.stack s H ⟨us,[]⟩ (us++ds) (vs++Xk) Q E hr I.oi (hb s us I.nA hl) r2 h) λr s' hq=>?_);cases r with
 | error e=>exact hx Wx Y H s e s' I hq
 | ok fl=>
  cases fl with
  | ret u=>exact I.after hq
  | next=>exact False.elim hq
  | brk=>exact False.elim hq
  | cont=>exact False.elim hq
def Pc(F:xw X.prog X.w X.K X.mg X.base CX k f fd ps sp)(hr:rZ k X.A)(hg:Gl X x)(hm:X.mg x=Fa (.ref f))(hk:W.keepIn X.K (.ref f)=pc)(hb:uO X.K fd ps ds)(hd:qF Xk ds)(hx:Cj CX X E) (ha:PA X (e::es) t) (WQ:zI x:=by decide) (he:Bv X e es:=by rfl) (WN:CS X pos es:=by rfl):
  PE X (.Call (.Name x p) (e::es) [] pos) (UM sp Xk E t):=by
 intro Wx s Y H Q I h;refine gg (wN I hg hm ?_ WQ);refine iM (h₀:=X.base) I.ok.mod.oK hk (sG (ha pos Wx s Y H _ I h) λus s1 zz=>x5 zz λvs H1 I1 r q=>⟨I1.nA,?_⟩) he WN;exact Fu F hr hb hd hx I1 r q
structure Mk(K:qx)(C f:Uf):Prop where
 makes:W.makesIn K C=pc
 init:W.findIn K (.ref C) "__init__"=Fa (Fa (.ref f))
 fn:W.isFn K (.ref f)=pc
 kp:W.keepIn K (.ref C)=pc
def Mz{Wx:QQY}{Q:VK}(M:Mk X.K C f)(F:xw X.prog X.w X.K X.mg X.base CX k f fd ps sp)(hr:rZ (k+1) X.A)(hb:uO X.K fd ps ds)(hd:qF Xk ds) (hx:Cj CX X E) (I:Inv X Wx Y H s) (r:qF vs us) (h:∀x dx,H x=Db->H dx=Db->dx≠x->sp (.ref x::(vs++Xk)) (upd (upd H dx (.own x)) x (.ins C dx [])) (λv H2=>v=.mL/\Q (.ref x) H2) E):
  pi (Tk X.prog X.w) X.A (call (.ref C) us) (EP X Wx Y Q) X.xe s:=by
 have hq:=h (s.heap.objs.size+1) s.heap.objs.size (I.mQ.fresh (hW _)) (I.mQ.fresh (cZ _)) (dJ (fB _));have I2:=Inv.made (C:=C) I;have r2:qF (V.ref (s.heap.objs.size+1)::(vs++Xk)) (Value.ref (s.heap.objs.size+1)::(us++ds)):=.cons Z' (r.append hd);have hl:(Value.ref (s.heap.objs.size+1)::us++ds).length=ps.length:=by have e:=r2.length;rw[F.len _ _ _ _ hq]at e;exact e.symm
 refine iz (K' (f:=f) I.nA M.makes M.init (fg.mp M.fn) (gM (F.run _ X.stack _ _ ⟨Value.ref (s.heap.objs.size+1)::us,[]⟩ (Value.ref (s.heap.objs.size+1)::(us++ds)) _ _ E (hr.make C us [])
  (I2.oi.make C us []) (hb _ (Value.ref (s.heap.objs.size+1)::us) I2.nA hl) r2 hq) λr s' Yg=>?_))
 cases r with
 | error e=>exact hx Wx Y _ _ e s' I2 Yg
 | ok fl=>
  cases fl with
  | ret u=>obtain⟨v,H',I3,rv,ev,q3⟩:=I2.after Yg;subst ev;exact⟨rv,⟨V.ref (s.heap.objs.size+1),H',I3,Z',q3⟩⟩
  | next=>exact False.elim Yg
  | brk=>exact False.elim Yg
  | cont=>exact False.elim Yg
def P7(M:Mk X.K C f)(F:xw X.prog X.w X.K X.mg X.base CX k f fd ps sp)(hr:rZ (k+1) X.A)(hg:Gl X x)(hm:X.mg x=Fa (.ref C))(hb:uO X.K fd ps ds)(hd:qF Xk ds)(hx:Cj CX X E) (ha:PA X (e::es) t) (WQ:zI x:=by decide) (he:Bv X e es:=by rfl) (WN:CS X pos es:=by rfl):
  PE X (.Call (.Name x p) (e::es) [] pos) (Us C sp Xk E t):=by
 intro Wx s Y H Q I h;refine gg (wN I hg hm ?_ WQ);refine iM (h₀:=X.base) I.ok.mod.oK M.kp (sG (ha pos Wx s Y H _ I h) λus s1 zz=>x5 zz λvs H1 I1 r q=>⟨I1.nA,?_⟩) he WN;exact Mz M F hr hb hd hx I1 r q
end
variable {g:T0 Vl→T0 Vl→T0 Vl}{gV:T0 V→T0 V→T0 V}{ks:QQQ}{kpos:Pos}{kws:T0 ZS}{tk:TA}{nm:Option Str}
section
variable {f:Uf}{E:XK}{x:Str}{e o:zn}{t:TA}
end
structure sW(N P:QQQ)(sc:wS):Prop where
 kind:sc.kind=.function
 co:sc.isCoroutine=lf
 gen:sc.isGenerator=lf
 nd:N.Nodup
 pre:N.take P.length=P
 par:∀x∈P,sc.names.lookup x=Fa .local\/sc.names.lookup x=Fa .cell
 pj:∀y∈sc.names,y.2≠.free
theorem D9{kindOf:Str->Option xL}{x:Str}:∀{binds:T0 (Str×Vl)} {m:QQZ},(∀v,(x,v)∉binds)->bindL kindOf binds m x=m x
 | [],_,_=>rfl
 | (n,v)::r,m,h=>by
  unfold bindL;rw[D9 λw hw=>h w (dz _ hw)];split
  .have:x≠n:=by rintro rfl;exact h v dI
   simp[this]
  .rfl
theorem DJ{kindOf:Str->Option xL}{x:Str}:∀{binds:T0 (Str×Vl)} {m:QQZ},(∀v,(x,v)∉binds)->bindC kindOf binds m x=m x
 | [],_,_=>rfl
 | (n,v)::r,m,h=>by
  unfold bindC;rw[DJ λw hw=>h w (dz _ hw)];split
  .rfl
  .have:x≠n:=by rintro rfl;exact h v dI
   simp[this]
theorem DX{kindOf:Str->Option xL}{x:Str}{v:Vl}:∀{P:QQQ} {vs:T0 Vl} {i:Nat} {m:QQZ},P.Nodup->P[i]?=Fa x->vs[i]?=Fa v->kindOf x=Fa .local->
  bindL kindOf (P.zip vs) m x=Fa v
 | [],_,_,_,_,h,_,_=>by simp at h
 | _::_,[],_,_,_,_,h,_=>by simp at h
 | p::P,w::vs,0,m,nd,h1,h2,hk=>by simp at h1 h2;subst h1;subst h2;show bindL kindOf ((p,w)::P.zip vs) m p=_;unfold bindL;rw[D9 λv hv=>(dH.mp nd).1 (jU hv).1,cX hk];simp
 | p::P,w::vs,i+1,m,nd,h1,h2,hk=>by show bindL kindOf ((p,w)::P.zip vs) m x=_;unfold bindL;exact DX (i:=i) (dH.mp nd).2 (by simpa using h1) (by simpa using h2) hk
theorem D6{kindOf:Str->Option xL}{x:Str}{v:Vl}:∀{P:QQQ} {vs:T0 Vl} {i:Nat} {m:QQZ},P.Nodup->P[i]?=Fa x->vs[i]?=Fa v->kindOf x≠Fa .local->
  bindC kindOf (P.zip vs) m x=Fa v
 | [],_,_,_,_,h,_,_=>by simp at h
 | _::_,[],_,_,_,_,h,_=>by simp at h
 | p::P,w::vs,0,m,nd,h1,h2,hk=>by simp at h1 h2;subst h1;subst h2;show bindC kindOf ((p,w)::P.zip vs) m p=_;unfold bindC;rw[DJ λv hv=>(dH.mp nd).1 (jU hv).1,cV hk];simp
 | p::P,w::vs,i+1,m,nd,h1,h2,hk=>by show bindC kindOf ((p,w)::P.zip vs) m x=_;unfold bindC;exact D6 (i:=i) (dH.mp nd).2 (by simpa using h1) (by simpa using h2) hk
noncomputable def start(N:QQQ)(vs:T0 V):St:=vs.map Fa++List.replicate (N.length - vs.length) Db
noncomputable def vv(CX:KL)(P:Pg)(w:Wo)(K:qx)(mg:QQZ)(base:Go)(N:QQQ)(qual:Str)(scope:wS)(f:Uf)(cd:Vl)(A:Ar)(outer:T0 Env)(s:Sd)(H:Hp)(E:XK):Cx where
 prog:=P
 w:=w
 K:=K
 mg:=mg
 base:=base
 A:=A.deeper (ZJ qual scope s.heap.objs.size f cd)
 N:=N
 s₀:=s
 H₀:=H
 env:=ZJ qual scope s.heap.objs.size f cd
 outer:=outer
 stack:=ZJ qual scope s.heap.objs.size f cd::outer
 ex:=[]
 calm:=true
 fn:=λ_=>pc
 pn:=[]
 xe:=λe s'=>pi (Tk P w) (A.deeper (ZJ qual scope s.heap.objs.size f cd)) (leaving (ZJ qual scope s.heap.objs.size f cd) e) (λ_ Zi=>CX outer H s E e Zi) (λe' Zi=>CX outer H s E e' Zi) s'
def G1{sc:wS}{n:Nat}{x:Str}(h:sc.names.lookup x=Fa .cell):∃c,(cellsFrom n sc.names []).lookup x=Fa c:=by have q:=lN sc.names n [] (.inl h);exact jE.mp q
def JV{CX:KL}{K:qx}{qual:Str}{f:Uf}{cd:Vl}{A:Ar}{E:XK}{vs:T0 V} (S:sW N ps scope) (hd:A.handled=Db) (e0:G' P w K mg base A outer s H) (hl:vs.length=ps.length) (r:qF vs us) (x:InCallC s s.heap.objs.size (bindL (ZJ qual scope s.heap.objs.size f cd).kindOf (ps.zip us) λ_=>Db) (cellsFrom (s.heap.objs.size+1) scope.names []) (bindC (ZJ qual scope s.heap.objs.size f cd).kindOf (ps.zip us) λ_=>Db) s1):
  Inv (vv CX P w K mg base N qual scope f cd A outer s H E) [] (start N vs) H s1:=by
 have WN:ps.length<=N.length:=by have:=eJ List.length S.pre;rw[fC]at this;lia
 obtain⟨h1,tk,rfl,hk⟩:=x.done;have noA:∀b:Uf,b∉(vv CX P w K mg base N qual scope f cd A outer s H E).ex:=λb z=>absurd (show b∈([]:QXQ)from z) (by simp);refine⟨⟨e0.mod,S.kind,Z',Z',cZ _,λy z c h1 h2=>?_,λy hy=>?_,λy c _ h=>?_,λ_=>hd,Around.frames_deeper e0.frames,.inr ⟨Z',Z'⟩,λb z=>absurd z (noA b),e0.bs,e0.oa,λb _ _=>noA b,λb z=>absurd z (noA b),e0.nF,e0.oo⟩,Z',e0.bare,Un.kept hk,⟨_,x.toInCall.ns,λi y v h1 h2 h3=>?_⟩,λy c h=>⟨_,x.cell y c h⟩,e0.mQ.fresh (cZ _),λy c h=>?_,λp hp=>absurd (show p∈([]:QQY)from hp) (by simp),e0.mQ.kept hk,?_⟩
 .exact name_of_addr x.apart (gQ h1) (gQ h2)
 .have hy:scope.names.lookup y=Fa .cell\/scope.names.lookup y=Fa .free:=hy;rcases hy with hy|hy
  .exact G1 hy
  .exact absurd Z' (S.pj _ (gQ hy))
 .exact kS (x.above y c (gQ h))
 .have hi:i<vs.length:=by
   unfold start at h2;by_cases hi:i<vs.length
   .exact hi
   .rw[eE (by simpa using hi)]at h2;rw[jR]at h2;split at h2<;>cases h2
  have ha:vs[i]?=Fa v:=by
   unfold start at h2;rw[eW (by simpa using hi),dq]at h2;cases e:vs[i]? with
   | none=>rw[e]at h2;cases h2
   | some a=>rw[e]at h2;cases h2;rfl
  obtain⟨u,hu,rv⟩:=r.get ha;have hp:ps[i]?=Fa y:=by rw[<-S.pre,List.getElem?_take_of_lt (by lia)];exact h1
  have ndP:ps.Nodup:=by rw[<-S.pre];exact S.nd.sublist (List.take_sublist _ _)
  refine⟨u,rv,?_⟩;rcases S.par y (eZ hp)with k|k
  .exact .inl ⟨k,DX ndP hp hu k⟩
  .obtain⟨c,e⟩:=G1 (n:=s.heap.objs.size+1) k;refine .inr ⟨.inl k,c,e,?_⟩;have q:=x.cell y c e;rw[D6 ndP hp hu (by show scope.names.lookup y≠_;rw[k];decide)]at q;exact q
 .exact e0.mQ.fresh (kS (x.above y c (gQ h)))
 .unfold start;show _=N.length;rw[cT,cQ,iI];lia
def LR{CX:KL}{P:Pg}{w:Wo}{K:qx}{mg:QQZ}{base:Go}{f:Uf}{dV kV Xb pm WJ ct oc:Vl}{an od:Option Uf} {Xr:Array (Option Vl)} {N ps:QQQ} {sp:Sp} (lk:K.lookup f=Fa ⟨oc,od,.func (W.fnOf name qual params body scope dV kV Xb pm an WJ ct),Xr⟩) (Xx:W.codeIn K WJ qual=pc) (S:sW N ps scope) (len:∀vs H Q E,sp vs H Q E->vs.length=ps.length) (WU:∀(A:Ar) (outer:T0 Env) (s:Sd) (H:Hp) (vs:T0 V) (Q:VK) (E:XK),rZ k (A.deeper (ZJ qual scope s.heap.objs.size f WJ))->sp vs H Q E->
   ∃t,B4 (vv CX P w K mg base N qual scope f WJ A outer s H E) body t/\t {nx:=λ_ H'=>Q .mL H',rt:=Q} (start N vs) H):
  xw P w K mg base CX (k+1) f (W.fnOf name qual params body scope dV kV Xb pm an WJ ct) ps sp:=by
 refine⟨len,λA outer s H args us vs Q E hr e0 hb r X3=>?_⟩;have hl:=len _ _ _ _ X3;have KX:K.In s.heap:=e0.mod.oK.keeps λb o e=>(e0.bs b o e).1;have lim:s.heap.NoLimit:=e0.mod.nolimit.keeps λb o e=>(e0.bs b o e).1;have hkind:∀y∈ps.zip us,scope.names.lookup y.1=Fa .local\/(scope.names.lookup y.1=Fa .cell/\((cellsFrom (s.heap.objs.size+1) scope.names []).lookup y.1).isSome=pc):=λ⟨n,v⟩ hy=>by
  rcases S.par n (jU hy).1 with q|q
  .exact .inl q
  .exact .inr ⟨q,lN _ _ _ (.inl q)⟩
 refine codeAny_call_function hr.depth (KX _ _ lk) Z' S.co S.gen Z' (W.codeRec_of KX Xx) (hb _ _ _ _ ?_);refine wpAny_newFunctionEnv_cells S.kind hkind λenv he s1 x=>?_;subst he;refine⟨lim.keeps x.toInCall.keep,codeAny_func ?_⟩;obtain⟨t,ht,hq⟩:=WU A outer s H vs Q E (hr.deeper _) X3;have I:Inv (vv CX P w K mg base N qual scope f WJ A outer s H E) [] (start N vs) H s1:=JV S hr.hd e0 hl r x;refine d9 (ht [] s1 (start N vs) H _ I hq) (λfl s' hs=>?_) λe s' hs=>hs;have WC:∀{σ':St} {H':Hp} {v:V} {u:Vl},Inv (vv CX P w K mg base N qual scope f WJ A outer s H E) [] σ' H' s'->qL v u->Q v H'->CE outer P w H s Q u s':=
  λ{σ' H' v u} J rv q=>⟨v,H',J.os,J.bare,J.base,J.mQ,rv,q⟩
 cases fl with
 | ret u=>obtain⟨v,σ',H',J,rv,q⟩:=hs;exact WC J rv q
 | next=>obtain⟨σ',H',J,q⟩:=hs;exact WC (v:=V.mL) (u:=Value.none) J Z' q
 | brk=>obtain⟨_,_,_,q⟩:=hs;exact False.elim q
 | cont=>obtain⟨_,_,_,q⟩:=hs;exact False.elim q
variable {id T:String}{r:T0 V→Hp→VK→Prop}
section
variable {x:Str}{e:zn}{t:TA}
def V4(r:T0 V->Hp->VK->Prop)(t:TA):TE:=λY H Q=>t Y H λvs H1=>r vs H1 Q
def Mu(hc:zO X (.builtin id) r)(hg:Gl X x)(hm:X.mg x=Db)(hv:No x=Fa (.builtin id))(ha:PA X (e::es) t)(hn:x≠"__name__":=by decide)(WQ:zI x:=by decide)
  (he:Bv X e es:=by rfl) (WN:CS X pos es:=by rfl):PE X (.Call (.Name x p) (e::es) [] pos) (V4 r t):=by
 intro Wx s Y H Q I h;refine gg (yJ I hg hm hv ?_ hn WQ);exact iN (sG (ha pos Wx s Y H _ I h) λus s1 zz=>x5 zz λvs H1 I1 r1 q1=>hc Wx s1 Y H1 vs us Q I1 r1 q1) he WN
def JM(hc:zO X (.type T) r)(hg:Gl X x)(hm:X.mg x=Db)(hv:No x=Fa (.type T))(ha:PA X (e::es) t)(hn:x≠"__name__":=by decide)(WQ:zI x:=by decide)
  (he:Bv X e es:=by rfl) (WN:CS X pos es:=by rfl):PE X (.Call (.Name x p) (e::es) [] pos) (V4 r t):=by
 intro Wx s Y H Q I h;refine gg (yJ I hg hm hv ?_ hn WQ);exact fT (sG (ha pos Wx s Y H _ I h) λus s1 zz=>x5 zz λvs H1 I1 r1 q1=>hc Wx s1 Y H1 vs us Q I1 r1 q1) he WN
end
end L2
namespace HT
open PySem PyProof.Rows
section
open PySem.SeqAt
open PySem.AutoSeq1 (wpAny_loadPart')
open PySem.MeetsSeq PySem.MeetsSeq2 PySem.MeetsSeq3
end
variable {prog:Pg}{w:Wo}{A:Ar}{E:QQX}{s:Sd}
def P8{vs ws:T0 Vl}{Q:QQX}(ht:IsTup s.heap t vs.toArray)(hb:IsTup s.heap b ws.toArray)(hv:vs≠[]) (h1:ws=[]->Q (.ref t) s) (h2:ws≠[]->Q (.ref s.heap.objs.size) {s with heap:=s.heap.push {cls:=.type "tuple",data:=.seq (vs++ws).toArray}})
  (hsz:vs.length+ws.length<=Ch):pi (Tk prog w) A (dL .Add (.ref t) (.ref b)) Q E s:=by
 obtain⟨⟨cls,dd,data,sl⟩,ho,hc,n,hd⟩:=id ht;obtain⟨⟨cls2,dd2,data2,sl2⟩,ho2,hc2,n2,hd2⟩:=id hb;simp only at hc hd hc2 hd2;subst hc hd hc2 hd2;have e:vs.toArray++ws.toArray=(vs++ws).toArray:=by simp
 by_cases hw:ws=[]
 .exact kW ⟨_,ho,Z'⟩ ⟨_,ho2,Z'⟩ lO seq_tuple_add j4 jS (jF _ _)
   (tuple_addW1 t b vs.toArray ws.toArray n n2 dd dd2 sl sl2 (by simpa using hv) (by simp[hw])) ⟨ho,ho2,h1 hw⟩
 .refine kW ⟨_,ho,Z'⟩ ⟨_,ho2,Z'⟩ lO seq_tuple_add j4 jS (jF _ _)
   (tuple_addW2 t b vs.toArray ws.toArray n n2 dd dd2 sl sl2 (by simpa using hv) (by simpa using hw) (by rw[dg,dg];exact hsz)) ⟨ho,ho2,?_⟩
  rw[e];exact h2 hw
noncomputable def sX(n d:Nat):Option Int->Nat
 | none=>d
 | some v=>if v<0 then(v+(n:Int)).toNat else min v.toNat n
def zm(n d:Nat):sX n d Db=d:=rfl
def EN(n d k:Nat):sX n d (Fa (k:Int))=min k n:=by show(if (k:Int)<0 then((k:Int)+(n:Int)).toNat else min (k:Int).toNat n)=min k n;rw[cV (by lia),iB]
def Rf(n d:Nat)(hd:d<=n)(o:Option Int):sX n d o<=n:=by
 cases o with
 | none=>exact hd
 | some v=>
  show(if v<0 then(v+(n:Int)).toNat else min v.toNat n)<=n;by_cases hv:v<0
  .rw[cX hv];lia
  .rw[cV hv];exact Nat.min_le_right _ _
def Iz(v:Int)(n d:Nat):(if v<0 then max (v+(n:Int)) 0 else min v (n:Int))=((sX n d (Fa v):Nat):Int):=by
 show(if v<0 then max (v+(n:Int)) 0 else min v (n:Int))=(((if v<0 then(v+(n:Int)).toNat else min v.toNat n):Nat):Int);by_cases hv:v<0
 .simp only[cX hv];lia
 .simp only[cV hv];lia
def He(lo hi:Option Int)(n:Nat):Builtin.Slice.sliceAdjust lo hi 1 (n:Int)=(((sX n 0 lo:Nat):Int),((sX n n hi:Nat):Int)):=by
 have h1:¬((1:Int)<0):=by lia
 unfold Builtin.Slice.sliceAdjust;simp only[h1,ko];refine Prod.ext ?_ ?_
 .cases lo with
  | none=>rfl
  | some v=>exact Iz v n 0
 .cases hi with
  | none=>rfl
  | some v=>exact Iz v n n
def HY(i j:Nat):Builtin.Slice.slicePlaces (i:Int) (j:Int) 1=j - i:=by
 unfold Builtin.Slice.slicePlaces;have h1:(1:Int)>0:=by lia
 simp only[h1,iZ,Int.ediv_one];split<;>lia
def CJ{Q:Option Int->Sd->Prop}(p:IsPart v o)(h:Q o s):pi (Tk prog w) A (Builtin.Slice.slicePartIndex v) Q E s:=by
 cases p with
 | none=>exact slicePart_none h
 | int i t=>exact slicePart_int h
def wu{sl:Uf}{vl vu:Vl}{lo hi:Option Int}{Q:Int×Int×Nat->Sd->Prop}(hs:s.heap.IsSliceOf sl vl vu .none)(pl:IsPart vl lo)(pu:IsPart vu hi) (h:Q (((sX n 0 lo:Nat):Int),1,sX n n hi - sX n 0 lo) s):pi (Tk prog w) A (Builtin.Slice.sliceApplied (.ref sl) (pure (n:Int))) Q E s:=by
 obtain⟨os,Zj,Y1,XM⟩:=id hs;unfold Builtin.Slice.sliceApplied Builtin.Slice.sliceFields;refine cR (cR (fh Zj XM (x:=vl) Z' (cR (fh Zj XM (x:=vu) Z' (cR (fh Zj XM (x:=.none) Z' (c9 ?_)))))));refine cR (slicePart_none ?_);show pi _ _ (if ((1:Int)==0)=pc then _ else _) _ _ s;rw[cV (by decide)];refine cR (CJ pl (cR (CJ pu (cR (c9 ?_)))));show pi _ _ (match Builtin.Slice.sliceAdjust lo hi 1 (n:Int)with|(lo,hi)=>pure (lo,(1:Int),Builtin.Slice.slicePlaces lo hi 1)) _ _ s;rw[He lo hi n];show pi _ _ (pure (((sX n 0 lo:Nat):Int),(1:Int),Builtin.Slice.slicePlaces ((sX n 0 lo:Nat):Int) ((sX n n hi:Nat):Int) 1)) _ _ s;rw[HY];exact c9 h
def K0(xs:Array Vl)(i k:Nat):((List.range k).filterMap λ(m:Nat)=>xs[((i:Int)+(m:Int)*1).toNat]?).toArray=((xs.toList.drop i).take k).toArray:=by
 have e:(λ(m:Nat)=>xs[((i:Int)+(m:Int)*1).toNat]?)=λm=>xs[i+m]?:=by
  funext m;have:((i:Int)+(m:Int)*1).toNat=i+m:=by lia
  rw[this]
 rw[e];have:=pick_run xs i k;rw[List.filterMap_map]at this;have e2:((λx=>xs[x]?)∘λx=>i+x)=λm=>xs[i+m]?:=rfl;rw[e2]at this;rw[this]
def zN{t sl:Uf}{vl vu:Vl}{lo hi:Option Int}{Q:QQX}(ht:IsTup s.heap t Wy)(hs:s.heap.IsSliceOf sl vl vu .none)(pl:IsPart vl lo)(pu:IsPart vu hi) (hw:¬(sX Wy.size 0 lo=0/\sX Wy.size Wy.size hi=Wy.size)) (h:Q (.ref s.heap.objs.size) {s with heap:=s.heap.push {cls:=.type "tuple",data:=.seq ((Wy.toList.drop (sX Wy.size 0 lo)).take (sX Wy.size Wy.size hi - sX Wy.size 0 lo)).toArray}})
  (hsz:Wy.size<=Ch):pi (Tk prog w) A (wT (.ref t) (.ref sl)) Q E s:=by
 have XX:sizeOk (.seq ((Wy.toList.drop (sX Wy.size 0 lo)).take (sX Wy.size Wy.size hi - sX Wy.size 0 lo)).toArray):=by show((Wy.toList.drop (sX Wy.size 0 lo)).take (sX Wy.size Wy.size hi - sX Wy.size 0 lo)).toArray.size<=Ch;rw[dg,fC,gb,iW];lia
 have hj:sX Wy.size Wy.size hi<=Wy.size:=Rf _ _ (cZ _) hi;obtain⟨os,Zj,Y1,XM⟩:=id hs;have hTs:s.TypeIs (.ref sl) "slice":=⟨os,Zj,Y1⟩;unfold wT
 try with_reducible refine eB ?_
 first|refine cR (c9 ?_)|skip
 refine cR (jp ht.typeIs (by decide) ?_);refine cR (fG (name:=Str.ofString "__getitem__") ht.typeIs fu
  (gc fu ht.typeIs kF ?_ (kX _ _)))
 show pi _ _ (Builtin.Tuple.tupleItemsOf (.ref t)>>=_) _ _ s;refine cR (tupleItemsOf_ ht ?_);refine cR (jG hTs ?_);rw[cX (by decide)];refine cR (wu hs pl pu ?_);have hno:¬((((sX Wy.size 0 lo:Nat):Int)==0&&(1:Int)==1&&(sX Wy.size Wy.size hi - sX Wy.size 0 lo)==Wy.size)=pc):=by intro q;rw[dQ,dQ]at q;have q1:((sX Wy.size 0 lo:Nat):Int)=0:=xz q.1.1;have q2:sX Wy.size Wy.size hi - sX Wy.size 0 lo=Wy.size:=xz q.2;exact hw ⟨by lia,by lia⟩
 show pi _ _ (if (((sX Wy.size 0 lo:Nat):Int)==0&&(1:Int)==1&&(sX Wy.size Wy.size hi - sX Wy.size 0 lo)==Wy.size)=pc then _ else _) _ _ s;rw[cV hno,K0]
 first
  | exact cR (m:=Builtin.Tuple.tupleExact _) (fR (c9 ⟨_,rfl,c9 h⟩) XX)
  | exact cR (m:=Builtin.Tuple.tupleExact _) (fR (cR (c9 (c9 ⟨_,rfl,c9 h⟩))) XX)
  | exact cR (cR (m:=Builtin.Tuple.tupleExact _) (fR (c9 (c9 ⟨_,rfl,c9 h⟩)) XX))
  | exact cR (cR (m:=Builtin.Tuple.tupleExact _) (fR (c9 ⟨_,rfl,c9 h⟩) XX))
end HT
namespace L2
abbrev TO:=St->Hp->(Option Int->Hp->Prop)->Prop
def PO(X:Cx)(e:Option zn)(t:TO):Prop:=
 ∀(Wx:QQY) (s:Sd) (Y:St) (H:Hp) (Q:Option Int->Hp->Prop),Inv X Wx Y H s->t Y H Q->
  pi (Tk X.prog X.w) X.A (evalPart e X.env) (λu s'=>∃o H',Inv X Wx Y H' s'/\IsPart u o/\Q o H') X.xe s
def Pi:TO:=λ_ H Q=>Q Db H
def TY(t:TE):TO:=λY H Q=>t Y H λx H1=>∃i,x=.int i/\Q (Fa i) H1
variable {X:Cx}{e:zn}{te:TE}{lo hi:Option zn}{tl th:TO}{pos p2:Pos}
def P':PO X Db Pi:=by intro Wx s Y H Q I h;rw[evalPart_none];exact c9 ⟨Db,H,I,.none,h⟩
def P3(h:PE X e te):PO X (Fa e) (TY te):=by intro Wx s Y H Q I hw;rw[evalPart_some];refine sG (h Wx s Y H _ I hw) λu s1 zz=>x5 zz λx H1 I1 r1 q1=>?_;obtain⟨i,rfl,q⟩:=q1;obtain⟨t,rfl⟩:=r1;exact⟨Fa i,H1,I1,.int i t,q⟩
def TN(X:Cx)(r:V->Option Int->Option Int->Hp->VK->Prop):Prop:=
 ∀(Wx:QQY) (s:Sd) (Y:St) (H:Hp) (x:V) (v vl vu:Vl) (lo hi:Option Int) (sl:Uf) (Q:VK),Inv X Wx Y H s->qL x v->s.heap.IsSliceOf sl vl vu .none->IsPart vl lo->IsPart vu hi->r x lo hi H Q->
  ∃T id,typeLookup (.type T) "__getitem__"=pure (Fa (.builtin id))/\s.TypeIs v T/\pi (Tk X.prog X.w) X.A (wT v (.ref sl)) (EP X Wx Y Q) X.xe s
def Wm(r:V->Option Int->Option Int->Hp->VK->Prop)(te:TE)(tl th:TO):TE:=λY H Q=>te Y H λx H1=>tl Y H1 λl H2=>th Y H2 λu H3=>r x l u H3 Q
def Mv(hr:TN X r)(he:PE X e te)(hl:PO X lo tl)(hu:PO X hi th):PE X (.Subscript e (.Slice lo hi Db p2) pos) (Wm r te tl th):=by intro Wx s Y H Q I h;refine Subscript_ (sG (he Wx s Y H _ I h) λv s1 zz=>x5 zz λx H1 I1 r1 q1=>?_);refine wpAny_Slice (sG (hl Wx s1 Y H1 _ I1 q1) λvl s2 zz=>x5 zz λl H2 I2 pl q2=>sG (hu Wx s2 Y H2 _ I2 q2) λvu s3 zz=>x5 zz λu H3 I3 pu q3=>?_);rw[evalPart_none];refine c9 ?_;have I4:Inv X Wx Y H3 {s3 with heap:=s3.heap.push {cls:=.type "slice",data:=.fields #[vl,vu,.none]}}:=I3.kept (t':=s3.toks) λb ob q=>cW _ q;obtain⟨T,id,hT,ht,hg⟩:=hr Wx {s3 with heap:=s3.heap.push {cls:=.type "slice",data:=.fields #[vl,vu,.none]}} Y H3 x v vl vu l u s3.heap.objs.size Q I4 r1 (mE ..) pl pu q3;show pi (Tk X.prog X.w) X.A (subscriptTail e (.Slice lo hi Db p2) v (.ref s3.heap.objs.size)) (EP X Wx Y Q) X.xe {s3 with heap:=s3.heap.push {cls:=.type "slice",data:=.fields #[vl,vu,.none]}};exact tail_any (ops:=[.ref s3.heap.objs.size,v]) ht hT hg (by with_unfolding_all rfl)
noncomputable def CA(xs:T0 V)(lo hi:Option Int):T0 V:=(xs.drop (HT.sX xs.length 0 lo)).take (HT.sX xs.length xs.length hi - HT.sX xs.length 0 lo)
def AD(xs:T0 V)(lo hi:Option Int):(CA xs lo hi).length<=xs.length:=by unfold CA;rw[fC,gb];lia
def Vt(K:qx):V->Option Int->Option Int->Hp->VK->Prop:=λx lo hi H Q=>∃a xs,x=.ref a/\vb K H a xs/\
 ¬(HT.sX xs.length 0 lo=0/\HT.sX xs.length xs.length hi=xs.length)/\∀p,H p=Db->Q (.ref p) (upd H p (.tup (CA xs lo hi)))
def R9:TN X (Vt X.K):=by
 intro Wx s Y H x v vl vu lo hi sl Q I rx hs pl pu h;obtain⟨a,xs,rfl,hx,hw,q⟩:=h;cases rx;obtain⟨its,r,ht,hz⟩:=I.tuple hx;have WD:its.toArray.size=xs.length:=by rw[dg];exact r.length.symm
 refine⟨"tuple",_,fu.lookup,ht.typeIs,?_⟩;refine HT.zN ht hs pl pu (by rw[WD];exact hw) ?_ (by rw[WD];exact hz);rw[WD];refine⟨.ref s.heap.objs.size,_,I.laid (t':=s.toks) (o:=.tup (CA xs lo hi)) (λb ob q=>cW _ q) (cZ _) ?_,Z',q _ (I.mQ.fresh (cZ _))⟩;exact⟨dY (AD xs lo hi) hz,_,(r.drop (HT.sX xs.length 0 lo)).take (HT.sX xs.length xs.length hi - HT.sX xs.length 0 lo),E2.new _ _⟩
def Tp(K:qx):R2:=λx y H Q=>∃a b xs ys,x=.ref a/\y=.ref b/\vb K H a xs/\vb K H b ys/\xs≠[]/\xs.length+ys.length<=Ch/\
 (ys=[]->Q (.ref a) H)/\(ys≠[]->∀p,H p=Db->Q (.ref p) (upd H p (.tup (xs++ys))))
def qF.nN(r:qF xs us):us=[]↔xs=[]:=by
 cases r with
 | nil=>simp
 | cons _ _=>simp
def Qb:xU X (dL .Add) (Tp X.K):=by intro Wx s Y H x y v u Q I rx ry h;obtain⟨a,b,xs,ys,rfl,rfl,ha,hb,hx,hz,q1,q2⟩:=h;cases rx;cases ry;obtain⟨its,r1,p1,_⟩:=I.tuple ha;obtain⟨its2,r2,p2,_⟩:=I.tuple hb;refine HT.P8 p1 p2 (λz=>hx (r1.nN.mp z)) (λz=>⟨.ref a,H,I,Z',q1 (r2.nN.mp z)⟩) (λz=>?_) (by rw[<-r1.length,<-r2.length];exact hz);refine⟨.ref s.heap.objs.size,_,I.laid (t':=s.toks) (o:=.tup (xs++ys)) (λb ob q=>cW _ q) (cZ _) ?_,Z',q2 (λw=>z (r2.nN.mpr w)) _ (I.mQ.fresh (cZ _))⟩;exact⟨by rw[cT];exact hz,_,r1.append r2,E2.new _ _⟩
noncomputable def E8(n:Nat)(i:Int):Option Nat:=if 0<=i then(if i<n then Fa i.toNat else Db)else if -(n:Int)<=i then Fa (i+n).toNat else Db
noncomputable def vA{α:Type}(xs:List α)(i:Int):Option α:=(E8 xs.length i).bind λj=>xs[j]?
def IC{j:Nat}(h:E8 n i=Fa j):seqIndex? i n=Fa j/\j<n/\-(n:Int)<=i/\i<n:=by
 unfold E8 at h;by_cases h0:0<=i
 .rw[cX h0]at h;by_cases h1:i<n
  .rw[cX h1]at h;have e:i.toNat=j:=cY h;exact⟨by rw[lG h0 h1,e],by lia,by lia,h1⟩
  .rw[cV h1]at h;cases h
 .rw[cV h0]at h;by_cases h1:-(n:Int)<=i
  .rw[cX h1]at h;have e:(i+n).toNat=j:=cY h;exact⟨by rw[kY (by lia) h1,e],by lia,h1,by lia⟩
  .rw[cV h1]at h;cases h
def EE{α:Type}{xs:List α}{i:Int}{v:α}(h:vA xs i=Fa v):∃j,seqIndex? i xs.length=Fa j/\xs[j]?=Fa v/\j<xs.length/\-(xs.length:Int)<=i/\i<xs.length:=by
 unfold vA at h;cases e:E8 xs.length i with
 | none=>rw[e]at h;cases h
 | some j=>rw[e]at h;obtain⟨h1,h2,h3,h4⟩:=IC e;exact⟨j,h1,h,h2,h3,h4⟩
def ub{α:Type}{xs:List α}{j:Nat}{v:α}(h:xs[j]?=Fa v):vA xs (j:Int)=Fa v:=by
 have hj:j<xs.length:=(cU.mp h).1;have e:E8 xs.length (j:Int)=Fa j:=by unfold E8;rw[cX (by lia),cX (by lia)];simp
 unfold vA;rw[e];exact h
def Bq(b:zn):Prop:=∀o i,subscripted b lf o i=operate [o,i] (wT o i)
def S6(X:Cx)(r:R2):Prop:=
 ∀(value WK:zn) (Wx:QQY) (s:Sd) (Y:St) (H:Hp) (x y:V) (v u:Vl) (Q:VK),Inv X Wx Y H s->qL x v->qL y u->r x y H Q->
  subscripted WK lf v u=operate [v,u] (wT v u)->pi (Tk X.prog X.w) X.A (subscriptTail value WK v u) (EP X Wx Y Q) X.xe s
def VV(X:Cx)(id:String)(r:V->T0 V->Hp->VK->Prop):Prop:=
 ∀(Wx:QQY) (s:Sd) (Y:St) (H:Hp) (x:V) (xs:T0 V) (v:Vl) (us:T0 Vl) (Q:VK),Inv X Wx Y H s->qL x v->qF xs us->r x xs H Q->
  pi (Tk X.prog X.w) X.A (call (.builtin id) (v::us)) (EP X Wx Y Q) X.xe s
variable {o:zn}{es:T0 zn}{to:TE}{t:TA}{name:Str}{WB WG:Pos}{T id:String}{r:V→T0 V→Hp→VK→Prop}{a:zn}{ta tb:TE}
section
variable {b:zn}
def Mq{r:R2}(hr:S6 X r)(ha:PE X a ta)(hb:PE X b tb)(hs:Bq b):PE X (.Subscript a b pos) (Tq r ta tb):=by intro Wx s Y H Q I h;exact Subscript_ (R0 ha hb I h λv u s2 x y H2 I2 rx ry q=>hr a b Wx s2 Y H2 x y v u Q I2 rx ry q (hs _ _))
def VP(K:qx):R2:=λx y H Q=>∃p xs i v,x=.ref p/\y=.int i/\zb K H p xs/\vA xs i=Fa v/\Q v H
def Vi(K:qx):R2:=λx y H Q=>∃p xs i v,x=.ref p/\y=.int i/\vb K H p xs/\vA xs i=Fa v/\Q v H
def Vv:R2:=λx y H Q=>∃z i c,x=.str z/\y=.int i/\z.length<=Ch/\vA z.cps.toList i=Fa c/\Q (.str ⟨#[c]⟩) H
def Jv:S6 X (VP X.K):=by
 intro value WK Wx s Y H x y v u Q I rx ry h hs;obtain⟨p,xs,i,z,rfl,rfl,hq,he,q⟩:=h;cases rx;obtain⟨t,rfl⟩:=ry;obtain⟨its,r,pl,hz⟩:=I.list hq;obtain⟨j,h1,h2,h3,h4,h5⟩:=EE he;obtain⟨w,ew,YE⟩:=r.get h2;have hl:=r.length;have hn:=yS;have WC:EP X Wx Y Q w s:=⟨z,H,I,YE,q⟩;by_cases h0:0<=i
 .have hj:i.toNat=j:=by rw[lG h0 h5]at h1;exact cY h1
  exact item_listR pl.isList h0 (by lia) (by rw[hj];simpa using ew) WC hs
 .have hj:(i+(its.toArray.size:Int)).toNat=j:=by rw[kY (by lia) h4]at h1;rw[dg,<-hl];exact cY h1
  exact j5 (x:=w) pl.isList.typeIs lC.lookup
   (wpAny_getItem_list_neg (Q:=λr s'=>r=w/\EP X Wx Y Q r s') pl.isList (by lia) (by rw[dg]<;>lia) (by lia) (by rw[hj];simpa using ew) ⟨Z',WC⟩) hs
def RF:S6 X (Vi X.K):=by
 intro value WK Wx s Y H x y v u Q I rx ry h hs;obtain⟨p,xs,i,z,rfl,rfl,hq,he,q⟩:=h;cases rx;obtain⟨t,rfl⟩:=ry;obtain⟨its,r,pl,hz⟩:=I.tuple hq;obtain⟨j,h1,h2,h3,h4,h5⟩:=EE he;obtain⟨w,ew,YE⟩:=r.get h2;have hl:=r.length;have hn:=yS;have WC:EP X Wx Y Q w s:=⟨z,H,I,YE,q⟩;exact j5 (x:=w) pl.typeIs slot_tuple_getitem.lookup
  (getItem_tuple (j:=j) (Q:=λr s'=>r=w/\EP X Wx Y Q r s') pl (by lia) (by lia) (by rw[dg,<-hl];exact h1) (by simpa using ew) ⟨Z',WC⟩) hs
def RN:S6 X Vv:=by
 intro value WK Wx s Y H x y v u Q I rx ry h hs;obtain⟨z,i,c,rfl,rfl,hz,he,q⟩:=h;obtain⟨t,rfl⟩:=rx;obtain⟨t',rfl⟩:=ry;obtain⟨j,h1,h2,h3,h4,h5⟩:=EE he;have hl:z.cps.toList.length=z.length:=by simp[Str.length]
 rw[hl]at h1 h4 h5;have hn:=yS;exact tail_any (typeIs_str s z t) slot_str_getitem.lookup (getItem_str (c:=c) (by
  have e1:decide (i< -(2 ^ 63:Int))=lf:=eO (by lia);have e2:decide (i>=2 ^ 63)=lf:=eO (by lia);rw[e1,e2,kB]) (by rw[h1];simpa using h2) ⟨.str ⟨#[c]⟩,H,I.tok _,⟨_,Z'⟩,q⟩) hs
def Hd(its:T0 Vl)(n j:Nat)(u:Vl):Obj.mapSeq (·.setIfInBounds j u) {cls:=.type "list",data:=.seq its.toArray n}={cls:=.type "list",data:=.seq (its.set j u).toArray n}:=by simp[Obj.mapSeq]
def Inv.lst{p:Uf}{xs:T0 V}(I:Inv X Wx Y H s)(h:H p=Fa (.lst xs)):
  ∃(its:T0 Vl) (n:Nat),qF xs its/\s.heap.get? p=Fa {cls:=.type "list",data:=.seq its.toArray n}/\xs.length<=Ch:=by
 obtain⟨z,its,n,r,e⟩:=I.mQ p _ h;exact⟨its,n,r,e,z⟩
def Inv.oF{p:Uf}{xs ys:T0 V}{its its':T0 Vl}{n n':Nat}{f:Obj->Obj}(I:Inv X Wx Y H s)(h:H p=Fa (.lst xs)) (ho:s.heap.get? p=Fa {cls:=.type "list",data:=.seq its.toArray n}) (hf:f {cls:=.type "list",data:=.seq its.toArray n}={cls:=.type "list",data:=.seq its'.toArray n'}) (r:qF ys its') (hz:ys.length<=Ch) (t:Nat):
  Inv X Wx Y (upd H p (.lst ys)) {s with heap:=s.heap.update p f,toks:=t}:=by
 have e:(s.heap.update p f).get? p=Fa {cls:=.type "list",data:=.seq its'.toArray n'}:=by rw[fE f ho (by rw[hf]<;>rfl),hf]
 refine I.write (x:=p) (e:=p) (by rw[h];trivial) (.inl Z') (λb u hb q=>(fX _ _ (dG hb)).trans q) ⟨_,e⟩ ?_;exact⟨hz,its',n',r,e⟩
def Tz:V->V->V->Hp->(Hp->Prop)->Prop:=λo i v H Q=>∃p xs k j,o=.ref p/\i=.int k/\H p=Fa (.lst xs)/\E8 xs.length k=Fa j/\Q (upd H p (.lst (xs.set j v)))
def Lf:Tg X Tz:=by
 intro Wx s Y H o i v ov iv u Q I ro ri rv h;obtain⟨p,xs,k,j,rfl,rfl,hp,hj,q⟩:=h;cases ro;obtain⟨t,rfl⟩:=ri;obtain⟨its,n,r,ho,hz⟩:=I.lst hp;obtain⟨h1,h2,h3,h4⟩:=IC hj;have hl:=r.length;have hn:=yS;have I':Inv X Wx Y (upd H p (.lst (xs.set j v))) {s with heap:=s.heap.update p (Obj.mapSeq (·.setIfInBounds j u))}:=
  I.oF hp ho (Hd its n j u) (r.set rv j) (by rw[ik];exact hz) s.toks
 by_cases h0:0<=k
 .have hk:k.toNat=j:=by rw[lG h0 h4]at h1;exact cY h1
  exact W.ki_setAt ho h0 (by lia) (by rw[dg,<-hl];exact h4) (by rw[hk];exact⟨_,I',q⟩)
 .have hk:(k+(its.toArray.size:Int)).toNat=j:=by rw[kY (by lia) h3]at h1;rw[dg,<-hl];exact cY h1
  exact W.ki_setBack ho (by lia) (by rw[dg,<-hl];exact h3) (by lia) (by rw[hk];exact⟨_,I',q⟩)
def E4(lo hi:Option Int)(n:Nat):(AT lo hi Db n).1=((HT.sX n 0 lo:Nat):Int)/\(AT lo hi Db n).2.1=((HT.sX n n hi:Nat):Int)/\(AT lo hi Db n).2.2=1:=by
 refine⟨?_,?_,Z'⟩
 .cases lo with
  | none=>simp[AT,HT.sX]
  | some i=>
   simp only[AT,HT.sX,lP,show(1:Int)>0 by decide,iZ];by_cases h:i<0
   .simp only[h,iZ]<;>lia
   .simp only[h,ko]<;>lia
 .cases hi with
  | none=>simp[AT,HT.sX]
  | some i=>
   simp only[AT,HT.sX,lP,show(1:Int)>0 by decide,iZ];by_cases h:i<0
   .simp only[h,iZ]<;>lia
   .simp only[h,ko]<;>lia
def Ds(its:T0 Vl)(lo hi:Option Int):slicePick its.toArray lo hi Db=((its.drop (HT.sX its.length 0 lo)).take (HT.sX its.length its.length hi - HT.sX its.length 0 lo)).toArray:=by obtain⟨h1,h2,h3⟩:=E4 lo hi its.toArray.size;unfold slicePick;rw[h1,h2,h3];simp only[sliceRange_one,pick_run,dg]<;>rfl
def Ve(K:qx):V->Option Int->Option Int->Hp->VK->Prop:=λx lo hi H Q=>∃a xs,x=.ref a/\zb K H a xs/\∀p,H p=Db->Q (.ref p) (upd H p (.lst (CA xs lo hi)))
def Jn:TN X (Ve X.K):=by intro Wx s Y H x v vl vu lo hi sl Q I rx hs pl pu h;obtain⟨a,xs,rfl,hx,q⟩:=h;cases rx;obtain⟨its,r,ht,hz⟩:=I.list hx;have WD:=r.length;refine⟨"list",_,lC.lookup,ht.isList.typeIs,?_⟩;refine wpAny_getItem_list_slice ht.isList hs pl pu .none (by simp) ?_ (by rw[dg]<;>lia);rw[Ds,<-WD];refine⟨.ref s.heap.objs.size,_,I.laid (t':=s.toks) (o:=.lst (CA xs lo hi)) (λb ob q=>cW _ q) (cZ _) ?_,Z',q _ (I.mQ.fresh (cZ _))⟩;exact⟨dY (AD xs lo hi) hz,_,0,(r.drop (HT.sX xs.length 0 lo)).take (HT.sX xs.length xs.length hi - HT.sX xs.length 0 lo),dC _ Z'⟩
noncomputable def yz:V->Bool
 | .mL=>pc
 | .bl _=>pc
 | .int _=>pc
 | .str _=>pc
 | _=>lf
noncomputable def NB:V->V->Bool
 | .mL,.mL=>pc
 | .bl a,.bl b=>a==b
 | .bl a,.int b=>(if a then 1 else 0)==b
 | .int a,.bl b=>a==(if b then 1 else 0)
 | .int a,.int b=>a==b
 | .str a,.str b=>a==b
 | _,_=>lf
def RB(ry:qL y u)(rx:qL x v)(fy:yz y=pc)(fx:yz x=pc):SeqAt.EqAt A s u v (NB y x):=by
 cases y with
 | mL=>
  cases ry;cases x with
  | mL=>cases rx;exact SeqAt.EqAt.same _
  | bl b=>cases rx;exact SeqAt.EqAt.none_bool b
  | int b=>obtain⟨t,rfl⟩:=rx;exact SeqAt.EqAt.none_int b t
  | str b=>obtain⟨t,rfl⟩:=rx;exact SeqAt.EqAt.none_str b t
  | _=>exact absurd (show lf=pc from fx) dh
 | bl a=>
  cases ry;cases x with
  | mL=>cases rx;exact SeqAt.EqAt.bool_none a
  | bl b=>cases rx;exact SeqAt.EqAt.bool_bool a b
  | int b=>obtain⟨t,rfl⟩:=rx;exact SeqAt.EqAt.bool_int a b t
  | str b=>obtain⟨t,rfl⟩:=rx;exact SeqAt.EqAt.bool_str a b t
  | _=>exact absurd (show lf=pc from fx) dh
 | int a=>
  obtain⟨t',rfl⟩:=ry;cases x with
  | mL=>cases rx;exact SeqAt.EqAt.int_none a t'
  | bl b=>cases rx;exact SeqAt.EqAt.int_bool a t' b
  | int b=>obtain⟨t,rfl⟩:=rx;exact SeqAt.EqAt.int_int a t' b t
  | str b=>obtain⟨t,rfl⟩:=rx;exact kO a t' b t
  | _=>exact absurd (show lf=pc from fx) dh
 | str a=>
  obtain⟨t',rfl⟩:=ry;cases x with
  | mL=>cases rx;exact SeqAt.EqAt.str_none a t'
  | bl b=>cases rx;exact SeqAt.EqAt.str_bool a t' b
  | int b=>obtain⟨t,rfl⟩:=rx;exact kP a t' b t
  | str b=>obtain⟨t,rfl⟩:=rx;exact SeqAt.EqAt.str_str a t' b t
  | _=>exact absurd (show lf=pc from fx) dh
 | _=>exact absurd (show lf=pc from fy) dh
noncomputable def Em(x:V)(u:Vl):Bool:=match u with
 | .none=>NB .mL x
 | .bool b=>NB (.bl b) x
 | .int i _=>NB (.int i) x
 | .str z _=>NB (.str z) x
 | _=>lf
def Ih(r:qL y u)(f:yz y=pc):Em x u=NB y x:=by
 cases y with
 | mL=>cases r;rfl
 | bl b=>cases r;rfl
 | int i=>obtain⟨t,rfl⟩:=r;rfl
 | str z=>obtain⟨t,rfl⟩:=r;rfl
 | _=>exact absurd (show lf=pc from f) dh
theorem zh:∀{xs:T0 V} {us:T0 Vl},qF xs us->xs.all yz=pc->us.any (Em x)=xs.any λy=>NB y x
 | _,_,.nil,_=>rfl
 | y::xs,u::us,.cons r t,f=>by rw[gv,dQ]at f;rw[fY,fY,Ih r f.1,zh t f.2]
theorem wn(rx:qL x v)(fx:yz x=pc):∀{xs:T0 V} {us:T0 Vl},qF xs us->xs.all yz=pc->∀u∈us,SeqAt.EqAt A s u v (Em x u)
 | _,_,.nil,_=>λu hu=>by cases hu
 | y::xs,u::us,.cons r t,f=>λu' hu=>by
  rw[gv,dQ]at f;rcases de.mp hu with rfl|hu
  .rw[Ih r f.1];exact RB r rx f.1 fx
  .exact wn rx fx t f.2 u' hu
noncomputable def inV(x:V)(xs:T0 V):Bool:=xs.any λy=>NB y x
def VN(K:qx)(Yb:Bool):R2:=λx y H Q=>∃p xs,y=.ref p/\(zb K H p xs\/vb K H p xs)/\yz x=pc/\xs.all yz=pc/\Q (.bl (if Yb then !inV x xs else inV x xs)) H
def Kj:xU X (Op .In) (VN X.K lf):=by
 intro Wx s Y H x y v u Q I rx ry h;obtain⟨p,xs,rfl,hq,fx,fs,q⟩:=h;cases ry;rcases hq with hq|hq
 .obtain⟨its,r,pl,hz⟩:=I.list hq;refine SeqAt.in_listAt (Em x) pl.isList (λw hw=>wn rx fx r fs w (by simpa using hw)) ⟨.bl _,H,I,Z',?_⟩;rw[show its.toArray.any (Em x)=its.any (Em x)by simp,zh r fs];exact q
 .obtain⟨its,r,pl,hz⟩:=I.tuple hq;refine SeqAt.in_tupleAt (Em x) pl (λw hw=>wn rx fx r fs w (by simpa using hw)) ⟨.bl _,H,I,Z',?_⟩;rw[show its.toArray.any (Em x)=its.any (Em x)by simp,zh r fs];exact q
def Fp:xU X (Op .NotIn) (VN X.K pc):=by
 intro Wx s Y H x y v u Q I rx ry h;obtain⟨p,xs,rfl,hq,fx,fs,q⟩:=h;cases ry;rcases hq with hq|hq
 .obtain⟨its,r,pl,hz⟩:=I.list hq;refine SeqAt.notIn_listAt (Em x) pl.isList (λw hw=>wn rx fx r fs w (by simpa using hw)) ⟨.bl _,H,I,Z',?_⟩;rw[show its.toArray.any (Em x)=its.any (Em x)by simp,zh r fs];exact q
 .obtain⟨its,r,pl,hz⟩:=I.tuple hq;refine SeqAt.notIn_tupleAt (Em x) pl (λw hw=>wn rx fx r fs w (by simpa using hw)) ⟨.bl _,H,I,Z',?_⟩;rw[show its.toArray.any (Em x)=its.any (Em x)by simp,zh r fs];exact q
def Fx:xU X (Op .NotIn) (λx y H Q=>∃i j,x=.str i/\y=.str j/\Q (.bl (!(!(Builtin.Str.occurrences j i 0 j.length 1).isEmpty))) H):=by intro Wx s Y H x y v u Q I rx ry h;obtain⟨i,j,rfl,rfl,q⟩:=h;obtain⟨t,rfl⟩:=rx;obtain⟨t',rfl⟩:=ry;exact notIn_str ⟨.bl _,H,I,Z',q⟩
def xb:zO X (.builtin "len") (λxs H Q=>∃p ys,xs=[.ref p]/\(zb X.K H p ys\/vb X.K H p ys)/\Q (.int ys.length) H):=by
 intro Wx s Y H xs us Q I r h;obtain⟨p,ys,rfl,hq,q⟩:=h;obtain⟨u,rfl,rx⟩:=yA r;cases rx;have hn:=yS;rcases hq with hq|hq
 .obtain⟨its,r',pl,hz⟩:=I.list hq;have WD:=r'.length;exact Calls.call_len_list pl.isList (by simp only[dg]<;>lia) ⟨.int ys.length,H,I.tok _,⟨s.toks+1,by rw[dg,WD]⟩,q⟩
 .obtain⟨its,r',pl,hz⟩:=I.tuple hq;have WD:=r'.length;exact len_tuple pl (by simp only[dg]<;>lia) ⟨.int ys.length,H,I.tok _,⟨s.toks+1,by rw[dg,WD]⟩,q⟩
def Fl:zO X (.builtin "len") (λxs H Q=>∃z,xs=[.str z]/\z.length<=Ch/\Q (.int z.length) H):=by intro Wx s Y H xs us Q I r h;obtain⟨z,rfl,hz,q⟩:=h;obtain⟨u,rfl,t,rfl⟩:=yA r;have hn:=yS;exact len_str (by lia) ⟨.int z.length,H,I.tok _,⟨_,Z'⟩,q⟩
def FE:zO X (.type "list") (λxs H Q=>∃p ys,xs=[.ref p]/\(zb X.K H p ys\/vb X.K H p ys)/\∀l,H l=Db->Q (.ref l) (upd H l (.lst ys))):=by
 intro Wx s Y H xs us Q I r h;obtain⟨p,ys,rfl,hq,q⟩:=h;obtain⟨u,rfl,rx⟩:=yA r;cases rx;have WC:∀(its:T0 Vl),qF ys its->ys.length<=Ch->∀(h':Go) (c':Nat),(∀b o',s.heap.get? b=Fa o'->h'.get? b=Fa o')->
   h'.get? s.heap.objs.size=Fa {cls:=.type "list",dict:=none,data:=.seq its.toArray c',slots:=#[]}->EP X Wx Y Q (.ref s.heap.objs.size) {s with heap:=h'}:=λits r' hz h' c' kp e=>
  ⟨.ref s.heap.objs.size,_,I.laid (t':=s.toks) kp (cZ _) (show sV X.prog X.w _ h' _ (.lst ys)from⟨hz,its,c',r',e⟩),Z',q _ (I.mQ.fresh (cZ _))⟩
 rcases hq with hq|hq
 .obtain⟨its,r',pl,hz⟩:=I.list hq;have WD:=r'.length;obtain⟨o,ho,hc,n,hd⟩:=pl.isList;exact call_list_seq p (.inl Z') ho hc hd (λh' c' kp e=>WC its r' hz h' c' kp e) (by simp only[dg]<;>lia)
 .obtain⟨its,r',pl,hz⟩:=I.tuple hq;have WD:=r'.length;obtain⟨o,ho,hc,n,hd⟩:=pl;exact call_list_seq p (.inr Z') ho hc hd (λh' c' kp e=>WC its r' hz h' c' kp e) (by simp only[dg]<;>lia)
def we:zO X (.type "tuple") (λxs H Q=>∃p ys,xs=[.ref p]/\((zb X.K H p ys/\∀l,H l=Db->Q (.ref l) (upd H l (.tup ys)))\/(vb X.K H p ys/\Q (.ref p) H))):=by
 intro Wx s Y H xs us Q I r h;obtain⟨p,ys,rfl,h⟩:=h;obtain⟨u,rfl,rx⟩:=yA r;cases rx;rcases h with⟨hq,q⟩|⟨hq,q⟩
 .obtain⟨its,r',pl,hz⟩:=I.list hq;have WD:=r'.length;refine call_tuple_list pl.isList (λh' kp=>?_) (by simp only[dg]<;>lia);have I1:Inv X Wx Y H {s with heap:=h'}:=I.kept (t':=s.toks) kp;have I2:Inv X Wx Y (upd H h'.objs.size (.tup ys)) {s with heap:=h'.push {cls:=.type "tuple",data:=.seq its.toArray}}:=
   I1.laid (t':=s.toks) (λb o e=>cW _ e) (cZ _) (show sV X.prog X.w _ _ _ (.tup ys)from⟨hz,its,r',E2.new _ _⟩)
  exact⟨.ref h'.objs.size,_,I2,Z',q _ (I1.mQ.fresh (cZ _))⟩
 .obtain⟨its,r',pl,hz⟩:=I.tuple hq;exact call_tuple_same pl ⟨.ref p,H,I,Z',q⟩
def UZ(K:qx)(T:String)(x:V)(H:Hp):Prop:=match x with
 | .str _=>T="str"
 | .int _=>T="int"
 | .ref p=>(T="list"/\∃xs,zb K H p xs)\/(T="tuple"/\∃o,K.lookup p=Fa o/\o.cls=.type "tuple"/\o.dict=Db)\/
   (T="dict"/\((∃kvs,H p=Fa (.dK kvs))\/∃kvs,H p=Fa (.dT kvs)))\/(T="set"/\∃S n,H p=Fa (.set S n))
 | _=>False
def SR(I:Inv X Wx Y H s)(r:qL x v)(ty:UZ X.K T x H):
  s.TypeIs v T/\∀a,v=.ref a->∃ob,s.heap.get? a=Fa ob/\ob.dict=Db:=by
 cases x with
 | str z=>obtain⟨t,rfl⟩:=r;cases(show T="str" from ty);exact⟨typeIs_str s z t,λ_ e=>nomatch e⟩
 | int i=>obtain⟨t,rfl⟩:=r;cases(show T="int" from ty);exact⟨lX s i t,λ_ e=>nomatch e⟩
 | ref p=>
  cases r;rcases ty with⟨rfl,xs,hq⟩|⟨rfl,o,hk,hc,hd⟩|⟨rfl,hk⟩|⟨rfl,S,n,hk⟩
  .obtain⟨its,_,pl,_⟩:=I.list hq;refine⟨pl.isList.typeIs,λa e=>?_⟩;cases e;obtain⟨o,n,e,c,hd,_⟩:=pl;exact⟨o,e,hd⟩
  .refine⟨⟨o,I.nA p o hk,hc⟩,λa e=>?_⟩;cases e;exact⟨o,I.nA _ o hk,hd⟩
  .have z:∃o,s.heap.get? p=Fa o/\o.ExactDict:=by
    rcases hk with⟨kvs,hk⟩|⟨kvs,hk⟩
    .obtain⟨_,_,_,_,o,_,_,e,ex,_⟩:=I.mQ p _ hk;exact⟨o,e,ex⟩
    .obtain⟨_,_,_,_,o,_,_,e,ex,_⟩:=I.mQ p _ hk;exact⟨o,e,ex⟩
   obtain⟨o,e,ex⟩:=z;refine⟨⟨o,e,ex.1⟩,λa e2=>?_⟩;cases e2;exact⟨o,e,ex.2.1⟩
  .obtain⟨o,_,_,_,e,ex,_⟩:=I.mQ p _ hk;refine⟨⟨o,e,ex.1⟩,λa e2=>?_⟩;cases e2;exact⟨o,e,ex.2.1⟩
 | _=>exact False.elim ty
def Wn(K:qx)(T:String)(r:V->T0 V->Hp->VK->Prop)(to:TE)(t:TA):TE:=λY H Q=>to Y H λx H1=>UZ K T x H1/\t Y H1 λxs H2=>r x xs H2 Q
def Uo(pa:PlainAttrs T)(slot:Slot T name id)(hty:typeOf (.builtin id)=pure (.type "method_descriptor"))(hm:VV X id r)(ho:PE X o to)(ha:PA X (e::es) t) (WV:At o name X.env (wp o X.env)=wp o X.env:=by rfl)
  (XN:((sB WG (Tl (e::es) X.env)).all (λx=>!x.1)&&(sK WG (Ps [] X.env)).all (λx=>x.1.isSome)
   &&decide ((e::es).length+([]:T0 ZS).length+(if ([]:T0 ZS).isEmpty then 0 else 1)<30))=pc:=by rfl)
  (W6:(WB.endLine==WG.line)=pc:=by rfl) (hs:Bv X e es:=by rfl) (WP:CS X WG es:=by rfl):
  PE X (.Call (.Attribute o name WB) (e::es) [] WG) (Wn X.K T r to t):=by
 intro Wx s Y H Q I h;refine wpAny_Call_method_late WV XN W6 Z' (sG (ho Wx s Y H _ I h) λv s1 zz=>?_);obtain⟨x,H1,I1,r1,ty,q1⟩:=zz;obtain⟨h1,h2⟩:=SR I1 r1 ty;refine⟨T,id,pa,slot,hty,h1,h2,?_⟩;have hA:=ha WG Wx s1 Y H1 _ I1 q1;rw[hs]at hA ⊢;refine Calls.callWith_builtin (by show(lf||(sB WG (Tl es X.env)).any (·.1))=lf;rw[WP]<;>rfl) (Calls.evalArgs_plain ?_);exact sG hA λus s2 zz=>x5 zz λvs H2 I2 r2 q2=>hm Wx s2 Y H2 x vs v us Q I2 r1 r2 q2
end
def Wj(X:Cx)(id:String)(r:V->T0 V->Hp->VK->Prop):Prop:=
 ∀(Wx:QQY) (s:Sd) (Y:St) (H:Hp) (x:V) (xs:T0 V) (v:Vl) (us:T0 Vl) (Q:VK),Inv X Wx Y H s->qL x v->qF xs us->r x xs H Q->
  pi (Tk X.prog X.w) X.A (call (.builtin id) (v::us)) (EP X Wx Y Q) X.xe s
def qF.one:∀{x:V} {us:T0 Vl},qF [x] us->∃u,us=[u]/\qL x u
 | _,_,.cons r .nil=>⟨_,Z',r⟩
theorem qF.rep(h:qF xs us):∀k:Nat,qF (List.replicate k xs).flatten (List.replicate k us).flatten
 | 0=>.nil
 | k+1=>by rw[eG,eG,fK,fK];exact qF.append h (qF.rep h k)
theorem D8(its:T0 Vl):∀(k:Nat) (acc:T0 Vl),List.foldl (λx1 x2=>x1++x2) acc.toArray (List.replicate k its.toArray)=(acc++(List.replicate k its).flatten).toArray
 | 0,acc=>by simp
 | k+1,acc=>by
  have e:acc.toArray++its.toArray=(acc++its).toArray:=by simp
  have e2:(acc++its)++(List.replicate k its).flatten=acc++(List.replicate (k+1) its).flatten:=by rw[eG,fK,eh]
  rw[<-e2,<-D8 its k (acc++its),<-e,eG,fU]
variable {Wx:T0 (Uf × Obj)}{Y:St}{H:Hp}{s:Sd}{l:Uf}{xs ys zs:T0 V}
section
variable {b:Uf}
def Inv.lset{its its':T0 Vl}{n:Nat}{f:Array Vl->Array Vl}{t':Nat}(I:Inv X Wx Y H s)(hH:H l=Fa (.lst xs)) (e:s.heap.get? l=Fa {cls:=.type "list",data:=.seq its.toArray n}) (hf:f its.toArray=its'.toArray) (hv:qF ys its') (hz:ys.length<=Ch):
  Inv X Wx Y (upd H l (.lst ys)) {s with heap:=s.heap.update l (Obj.mapSeq f),toks:=t'}:=by
 have q:=PySem.IsL.update e f;rw[hf]at q;refine I.write (x:=l) (e:=l) (by rw[hH];exact trivial) (.inl Z') (λb' u hb hu=>(fX s.heap (Obj.mapSeq f) (dG hb)).trans hu) ⟨_,q⟩ ?_;exact⟨hz,its',_,hv,q⟩
def Inv.oQ{t':Nat}(I:Inv X Wx Y H s)(hv:qF ys its)(hz:ys.length<=Ch):
  Inv X Wx Y (upd H s.heap.objs.size (.lst ys)) {s with heap:=s.heap.push {cls:=.type "list",data:=.seq its.toArray},toks:=t'}:=
 I.laid (λ_ _ q=>cW _ q) (cZ _) ⟨hz,its,0,hv,dC _ Z'⟩
def Inv.fresh(I:Inv X Wx Y H s):H s.heap.objs.size=Db:=I.mQ.fresh (cZ _)
def Inv.oC(I:Inv X Wx Y H s)(hH:H l=Fa (.lst xs)):xs.length<=Ch/\∃(its:T0 Vl) (n:Nat),qF xs its/\xs.length=its.length/\s.heap.get? l=Fa {cls:=.type "list",data:=.seq its.toArray n}:=by obtain⟨z,its,n,r,e⟩:=I.mQ l _ hH;exact⟨z,its,n,r,r.length,e⟩
def LJ{n:Nat}(h:n<=Ch):Builtin.List.listTooLong n=lf:=by unfold Builtin.List.listTooLong;exact eO (by lia)
end
def O4:V->T0 V->Hp->VK->Prop:=λx vs H Q=>∃l xs y,x=.ref l/\vs=[y]/\H l=Fa (.lst xs)/\xs.length<Ch/\Q .mL (upd H l (.lst (xs++[y])))
def J6:Wj X "list.append" O4:=by intro Wx s Y H x vs v us Q I rx rv h;obtain⟨l,xs,y,rfl,rfl,hH,hz,q⟩:=h;cases rx;obtain⟨u,rfl,ru⟩:=rv.one;obtain⟨z,its,n,r,hl,e⟩:=I.oC hH;refine jw F.slot_list_append ⟨_,e,Z'⟩ F.entry_list_append (F.args_list_append_2 _ _) (PySem.list_append l its.toArray n u (by rw[dg];lia)) ⟨e,?_⟩;refine⟨.mL,_,I.lset (its':=its++[u]) hH e (by simp) (r.append (.cons ru .nil)) ?_,Z',q⟩;rw[cT,dM];lia
def VR:R2:=λx y H Q=>∃l k xs,x=.ref l/\y=.int k/\H l=Fa (.lst xs)/\-(2 ^ 63)<=k/\k<2 ^ 63/\xs.length*k.toNat<=Ch/\
 ∀p,H p=Db->Q (.ref p) (upd H p (.lst (List.replicate k.toNat xs).flatten))
def NK{α:Type}(xs:List α)(k:Nat):(List.replicate k xs).flatten.length=k*xs.length:=by
 induction k with
 | zero=>simp
 | succ k ih=>rw[eG,fK,cT,ih,mv,Nat.add_comm]
def QV:xU X (dL .Mult) VR:=by
 intro Wx s Y H x y v u Q I rx ry h;obtain⟨l,k,xs,rfl,rfl,hH,h1,h2,hz,q⟩:=h;cases rx;obtain⟨t,rfl⟩:=ry;obtain⟨z,its,n,r,hl,e⟩:=I.oC hH;have WD:its.toArray.size*k.toNat<=Ch:=by rw[dg,<-hl];exact hz
 have hcap:¬its.toArray.size*k.toNat>(2 ^ 63 - 1) / 8:=by
  have:(Ch:Nat)<=(2 ^ 63 - 1) / 8:=by decide
  lia
 have W7:¬(!Builtin.List.listFitsIndex k)=pc:=by rw[fitsIndex_both h1 h2];exact dh
 have hlong:¬Builtin.List.listTooLong (its.toArray.size*k.toNat)=pc:=by rw[LJ WD];exact dh
 have Yh:List.foldl (λx1 x2=>x1++x2) #[] (List.replicate (if its.toArray.isEmpty=pc then 0 else k.toNat) its.toArray)=(List.replicate k.toNat its).flatten.toArray:=by
  have f0:∀m:Nat,List.foldl (λx1 x2=>x1++x2) #[] (List.replicate m its.toArray)=(List.replicate m its).flatten.toArray:=λm=>by have:=D8 its m [];rw[dX]at this;exact this
  rw[f0];cases its with
  | nil=>simp
  | cons a r'=>rw[cV (by simp)]
 refine wpAny_binaryOp_repeat_ref (T:="list") (U:="int") (by decide) ⟨_,e,Z'⟩ (λs'=>lX s' k t) noFill_list_mul F.fills_int_mul lY repeat_list F.slot_int_index.lookup
  (jw lY (lX s k t) F.entry_int_rmul (F.args_int_rmul_2 _ _) (int___rmul___int_list k t l its.toArray n)
   ⟨e,Z',⟨_,e,Z'⟩,jw F.slot_list_mul ⟨_,e,Z'⟩ F.entry_list_mul (F.args_list_mul_2 _ _) (AutoListH.list___mul___list_int_3 l its.toArray n k t W7 hcap hlong) ⟨e,?_⟩⟩)
 rw[Yh];exact⟨.ref _,_,I.oQ (t':=s.toks) (r.rep k.toNat) (by rw[NK,Nat.mul_comm];exact hz),Z',q _ I.fresh⟩
variable {prog:Pg}{w:Wo}{A:Ar}{E:QQX}
end L2
namespace Att
open PySem PySem.W PySem.Calls PyProof.Rows
def AM:∀(ns:T0 Int) (vs:T0 Vl),WellAll P h vs (ns.map WData.int)->IntsAre vs ns:=by
 intro ns;induction ns with
 | nil=>intro vs w;rw[fO]at w;cases w;exact .nil
 | cons n ns ih=>
  intro vs w;rw[dW]at w;cases w with
  | cons a b=>cases a;exact .cons _ _ (ih _ b)
def JG{l:OpenLaw}{n:Nat}(hn:l.most=Fa n){P:Params}{h:Go}{args:T0 WData}{Zk:T0 Vl} (YF:l.row.toRowW.claim.pre args=pc) (hwl:WellAll P h Zk args):
  ∃a vs ns,Zk=[Value.ref a]/\args=[WData.list (ns.map WData.int)]/\h.get? a=Fa {cls:=.type "list",data:=.seq vs.toArray}/\IntsAre vs ns/\ns.length<=n:=by
 have hsh:WShape.hasAll [] args [.list .int]=pc:=(pre_splitW YF).1;have hc:l.pre.holds [] {args:=args}=pc:=(pre_splitW YF).2;obtain⟨d,r,rfl,h1,h2⟩:=hasAllW_cons hsh;obtain rfl:=hasAllW_nil h2;obtain⟨xs,rfl,h3⟩:=hasW_list h1;obtain⟨ns,rfl⟩:=items_int h3;have WD:ns.length<=n:=by
  unfold OpenLaw.pre at hc;have h4:(WTm.not (.lt (.lit (.int (n:Int))) (.len (.arg 0)))).holds [] {args:=[.list (ns.map .int)]}=pc:=by have h4:=(holds_andW hc).1;rw[hn]at h4;exact h4
  have h5:=condW_of h4 (w_not (w_lt w_lit (w_len_list (w_arg Z'))));rw[cQ]at h5;refine Nat.le_of_not_lt λq=>?_;have q':(n:Int)<((ns.length:Nat):Int):=by lia
  first
   | (rw[dP q']at h5;exact absurd h5 (by decide))
   | (simp at h5;lia)
 cases hwl with
 | cons w1 w2=>
  cases w2;cases w1 with
  | list ho Xe=>exact⟨_,_,ns,Z',Z',ho,AM ns _ Xe,WD⟩
def Kf(l:OpenLaw)(args:T0 WData):l.row.toRowW.claim.post args (.bool pc) args=pc:=
 postW_of (r:=l.row.toRowW) (X:=(pc==pc))
  (show WShape.has [] (.bool pc) .bool=pc by first|rfl|decide|simp[WShape.has,WShape.arms,WShape.armsAll])
  (show(WTm.eq .res (.lit (.bool pc))).value [] {args:=args,res:=some (.bool pc),after:=args}=Fa (.bool (pc==pc))from w_eq_bool (w_res Z') w_lit) Z'
def attach_call{l:OpenLaw}{n:Nat}{YP:Wo->Go->Prop}{d:DefRec} (hn:l.most=Fa n) (Y2:d.params.defaults=[]) (call:∀(w:Wo) (s₀ s₁:Sd) (mg mb:QQZ) (fa:Uf) (o:Obj) (pm cd Xb:Vl) (a:Uf) (vs:T0 Vl) (ns:T0 Int),Ground q Xl [] XP w s₀ mg mb s₁.heap->YP w s₁.heap->
   s₁.heap.get? fa=Fa o->o.data=.func (docDef d.name d.params d.body d.scope pm cd Xb)->s₁.heap.CodeRec cd d.name->mg d.name=Fa (.ref fa)->
   s₁.heap.get? a=Fa {cls:=.type "list",data:=.seq vs.toArray}->IntsAre vs ns->ns.length<=n->s₁.gens=#[]->
   XV (Tk l.prog w) callerA (.call (.ref fa) ⟨[.ref a],[]⟩) (λr s'=>r=.ok (.ret (.bool pc))/\OldK s₁.heap s'.heap/\s'.os=s₁.os/\ZW s'.gens) s₁):
  WalkO q Xl XP YP l.row.toRowW d [] (λf vs=>PySem.call f vs):=by
 intro w s₀ s₁ mg mb G Y fa o pm cd Xb dV kV ho hd Xx hD hmg hg args Zk as YF hlay hrd hwl hlo;obtain rfl:dV=.none:=Dflts.none hD Y2;obtain rfl:kV=.none:=Dflts.noKw hD;obtain⟨a,vs,ns,rfl,rfl,Zl,Yi,WD⟩:=JG hn YF hwl;refine enter_call (gM (call w s₀ s₁ mg mb fa o pm cd Xb a vs ns G Y ho (fd_plain hd) Xx hmg Zl Yi WD hg) λr s' hq=>?_);obtain⟨rfl,h2,h3,h4⟩:=hq;exact⟨.inl ⟨.bool pc,.bool pc,[],Z',λ_=>rfl,.bool pc,Kf l _,λ_=>⟨List.Pairwise.nil,λ_ hm=>(nomatch hm)⟩⟩,h2,h3,h4⟩
variable {prog:Pg}{w:Wo}{A:Ar}{E:QQX}{s:Sd}{K:Frag}
end Att
namespace L2
theorem DW:∀{vs:T0 Vl} {ns:T0 Int},IntsAre vs ns->qF (ns.map V.int) vs
 | _,_,.nil=>.nil
 | _,_,.cons n t h=>.cons ⟨t,Z'⟩ (DW h)
def MP(H:Hp):Prop:=∀b,H b=Db\/∃o xs,H b=Fa (.frz o (.lst xs))
def Ng{P:Pg}{w:Wo}{K:qx}{mg mb:QQZ}{CX:KL}{fa a:Uf}{fd:Ix}{x:Str}{sp:Sp}{s₁:Sd}{vs:T0 Vl} (KX:K.In s₁.heap) (hns:s₁.heap.Ns wv mg) (hb:s₁.heap.Ns builtinsNs mb) (hbb:∀x:Str,x≠"__name__"->mb x=No x) (hlim:s₁.heap.NoLimit) (hg:s₁.gens=#[]) (ha:s₁.heap.get? a=Fa {cls:=.type "list",data:=.seq vs.toArray}) (hi:IntsAre vs ns) (hl:ns.length<=Ch) (hr:rZ k callerA)
  (F:∀base:Go,K.In base->base.Ns wv mg->xw P w K mg base CX k fa fd [x] sp) (hbind:∀(s:Sd) (u:Vl),BindsTo s fd ⟨[u],[]⟩ [(x,u)])
  (X3:∀H:Hp,MP H->zb K H a (ns.map V.int)->sp [.ref a] H (λv _=>v=.bl pc) λ_ _ _=>False)
  (hCX:∀H e s',CX [] H s₁ (λ_ _ _=>False) e s'->False):
  XV (Tk P w) callerA (.call (.ref fa) ⟨[.ref a],[]⟩) (λr s'=>r=.ok (.ret (.bool pc))/\OldK s₁.heap s'.heap/\s'.os=s₁.os/\ZW s'.gens) s₁:=by
 have rv:=DW hi;have lenV:=hi.length;have core:∀H:Hp,MP H->zb K H a (ns.map V.int)->yu P w H s₁.heap->(∀b,H b≠Db->b=a)->(H a≠Db->K.lookup a=Db)->
   XV (Tk P w) callerA (.call (.ref fa) ⟨[.ref a],[]⟩) (λr s'=>r=.ok (.ret (.bool pc))/\OldK s₁.heap s'.heap/\s'.os=s₁.os/\ZW s'.gens) s₁:=by
  intro H hO hS mQ hA hK;have XY:∀{b:Uf} {o:Obj},s₁.heap.get? b=Fa o->H b=Db->(EY s₁.heap H).get? b=Fa o:=λe n=>MA e n;have noA:∀{b:Uf} {o:Obj} {es:Array DictEntry} {ep:Nat},s₁.heap.get? b=Fa o->o.data=.dict es ep->H b=Db:=λ{b o es ep} e d=>by
   cases q:H b with
   | none=>rfl
   | some u=>have e':b=a:=hA b (by rw[q];simp);subst e';rw[ha]at e;cases e;have d':Data.seq vs.toArray _=Data.dict es ep:=d;cases d'
  have nsK:∀{b:Uf} {m:QQZ},s₁.heap.Ns b m->(EY s₁.heap H).Ns b m:=λ{b m} ⟨o,es,ep,e,d,r⟩=>⟨o,es,ep,XY e (noA e d),d,r⟩;have hKb:K.In (EY s₁.heap H):=λb o e=>XY (KX b o e) (by
   cases q:H b with
   | none=>rfl
   | some u=>
    have e':b=a:=hA b (by rw[q];simp);subst e';rw[hK (by rw[q];simp)]at e;cases e)
  have hM:Mod K mg (EY s₁.heap H):=⟨hKb,nsK hns,⟨mb,nsK hb,hbb⟩,let⟨mc,h1,h2⟩:=hlim;⟨mc,nsK h1,h2⟩⟩;have e0:G' P w K mg (EY s₁.heap H) callerA [] s₁ H:=⟨Z',hM,λb o e=>Pl e,jD (Kn _ _),trivial,λb hb=>absurd (show b∈([]:QXQ)from hb) (by simp),mQ,.of_eq hg⟩;refine gM ((F _ hKb (nsK hns)).run callerA [] s₁ H ⟨[.ref a],[]⟩ [.ref a] [.ref a] _ _ hr e0 (hbind s₁ (.ref a)) (.cons Z' .nil) (X3 H hO hS)) λr s' h=>?_;cases r with
  | error e=>exact(hCX H e s' h).elim
  | ok fl=>
   cases fl with
   | next=>exact False.elim h
   | brk=>exact False.elim h
   | cont=>exact False.elim h
   | ret u=>
    obtain⟨v,H',os,bare,un,Zm,r',q⟩:=h;have q':v=.bl pc:=q;subst q';obtain rfl:u=Value.bool pc:=r';refine⟨Z',OldK.of_keep λb o e=>?_,os,bare⟩;cases q:H b with
    | none=>exact un.keep b o e q (by intro z;exact absurd (show b∈([]:QXQ)from z) (by simp)) (by simp)
    | some u=>
     rcases hO b with z|⟨ob,xs,z⟩
     .rw[q]at z;cases z
     .have z2:=un.nu b ob _ z;obtain⟨e1,_⟩:=mQ b _ z;obtain⟨e2,_⟩:=Zm b _ z2;rw[e]at e1;cases e1;exact e2
 cases hk:K.lookup a with
 | some o=>have e:=KX a o hk;rw[ha]at e;cases e;refine core (λ_=>Db) (λ_=>.inl Z') (.inr ⟨_,vs.toArray,_,hk,Z',Z',Z',by rw[dg,lenV];exact hl,by simpa using rv⟩) (λb u z=>by have z':(Db:Option HO)=Fa u:=z;cases z') (λb z=>absurd Z' z) λz=>absurd Z' z
 | none=>
  refine core (λb=>if b=a then Fa (.frz {cls:=.type "list",data:=.seq vs.toArray} (.lst (ns.map V.int)))else Db) (λb=>?_) (.inl (.inr ⟨{cls:=.type "list",data:=.seq vs.toArray},cX Z'⟩)) (λb u z=>?_) (λb z=>?_) λ_=>hk
  .by_cases hb:b=a
   .exact .inr ⟨_,_,cX hb⟩
   .exact .inl (cV hb)
  .by_cases hb:b=a
   .have z':=(cX hb).symm.trans z;cases z';subst hb;exact⟨ha,by rw[cQ];exact hl,vs,_,rv,ha⟩
   .have z':=(cV hb).symm.trans z;cases z'
  .by_cases hb:b=a
   .exact hb
   .exact absurd (cV hb) z
def PV{l:W.OpenLaw}{n k:Nat}{q:Pg}{Xl:QQQ}{XP:(QQZ)->Go->Prop}{YP:Wo->Go->Prop}{d:DefRec}{K:Params->qx}{CX:Wo->KL}{sp:Wo->Sp}{x:Str} (hn:l.most=Fa n) (Zg:n<=Ch) (Y2:d.params.defaults=[]) (hr:rZ k callerA) (hY:∀(w:Wo) (h:Go),YP w h->(K w.params).In h) (F:∀(w:Wo) (mg:QQZ) (fa:Uf) (h:Go),(K w.params).In h->h.Ns wv mg->mg d.name=Fa (.ref fa)->
   ∃fd:Ix,(∀(s:Sd) (u:Vl),BindsTo s fd ⟨[u],[]⟩ [(x,u)])/\
    ∀base:Go,(K w.params).In base->base.Ns wv mg->xw l.prog w (K w.params) mg base (CX w) k fa fd [x] (sp w))
  (X3:∀(w:Wo) (H:Hp) (a:Uf) (ns:T0 Int),ns.length<=n->MP H->zb (K w.params) H a (ns.map V.int)->sp w [.ref a] H (λv _=>v=.bl pc) λ_ _ _=>False)
  (hCX:∀(w:Wo) (H:Hp) (s:Sd) (e:Vl) (s':Sd),CX w [] H s (λ_ _ _=>False) e s'->False):
  W.WalkO q Xl XP YP l.row.toRowW d [] (λf vs=>PySem.call f vs):=by
 refine Att.attach_call hn Y2 λw s₀ s₁ mg mb fa o pm cd Xb a vs ns G Y ho hd Xx hmg Zl Yi WD hg=>?_;have KX:=hY w _ Y;obtain⟨fd,hb,hF⟩:=F w mg fa _ KX G.T.g hmg;exact Ng KX G.T.g G.T.b G.T.builtins G.T.nolimit hg Zl Yi (dY WD Zg) hr hF hb (λH hO hS=>X3 w H a ns WD hO hS) λH e s'=>hCX w H s₁ e s'
noncomputable def NI(s:wE)(j:Nat):wE:=match s with
 | .ClassDef _ _ _ body _ _ _ _ _ _ _=>body.getD j (.Pass ⟨0,0,0,0⟩)
 | _=>.Pass ⟨0,0,0,0⟩
noncomputable def uj(s:wE):Arguments:=match s with
 | .FunctionDef _ a _ _ _ _ _ _ _ _=>a
 | _=>{posonlyargs:=[],args:=[],vararg:=none,kwonlyargs:=[],kw_defaults:=[],kwarg:=none,defaults:=[]}
noncomputable def rT(s:wE):T0 wE:=match s with
 | .FunctionDef _ _ b _ _ _ _ _ _ _=>b
 | _=>[]
noncomputable def qg(s:wE):wS:=match s with
 | .FunctionDef _ _ _ _ _ _ sc _ _ _=>sc
 | _=>{kind:=.function,names:=[],isGenerator:=false,isCoroutine:=false}
abbrev NG:KL:=λ_ _ _ _ _ _=>False
abbrev E0:XK:=λ_ _ _=>False
def G5:Cj NG X E0:=λ_ _ _ _ _ _ _ h=>h.elim
structure OD(K:qx)(x qual:Str)(st:wE)(f:Uf)(fd:Ix):Prop where
 ex:∃(oc:Vl) (od:Option Uf) (kV Xb pm:Vl) (an:Option Uf) (WJ ct:Vl) (Xr:Array (Option Vl)),
  fd=W.fnOf x qual (uj st) (rT st) (qg st) .none kV Xb pm an WJ ct/\K.lookup f=Fa ⟨oc,od,.func fd,Xr⟩/\W.codeIn K WJ qual=pc
 kp:W.keepIn K (.ref f)=pc
variable {P:Pg}{K:qx}{mg:QQZ}{base:Go}
section
variable {w:Wo}
def OD.ok{st:wE}{sp:Sp}(F:OD K x qual st f fd)(S:sW N ps (qg st))(len:∀vs H Q E,sp vs H Q E->vs.length=ps.length) (WU:∀(WJ:Vl) (A:Ar) (outer:T0 Env) (s:Sd) (H:Hp) (vs:T0 V) (Q:VK) (E:XK),rZ k (A.deeper (ZJ qual (qg st) s.heap.objs.size f WJ))->sp vs H Q E->
   ∃t,B4 (vv NG P w K mg base N qual (qg st) f WJ A outer s H E).oy (rT st) t/\t {nx:=λ_ H'=>Q .mL H',rt:=Q} (start N vs) H):xw P w K mg base NG (k+1) f fd ps sp:=by
 obtain⟨oc,od,kV,Xb,pm,an,WJ,ct,Xr,rfl,lk,Xx⟩:=F.ex;refine LR lk Xx S len λA outer s H vs Q E hr X3=>?_;obtain⟨t,h,q⟩:=WU WJ A outer s H vs Q E hr X3;exact⟨t,h.oy,q⟩
def OD.binds{st:wE}{ps:QQQ}(F:OD K x qual st f fd) (h:∀(kV Xb pm:Vl) (an:Option Uf) (WJ ct:Vl) (us:T0 Vl),us.length=ps.length->bindArgs (W.fnOf x qual (uj st) (rT st) (qg st) .none kV Xb pm an WJ ct) ⟨us,[]⟩=pure (ps.zip us)):uO K fd ps []:=by
 obtain⟨oc,od,kV,Xb,pm,an,WJ,ct,Xr,rfl,lk,Xx⟩:=F.ex;exact .all (h kV Xb pm an WJ ct)
def Nr{st:wE}{oc:Vl}{od an:Option Uf}{Xr:Array (Option Vl)}{kV Xb pm WJ ct:Vl}(l:K.lookup f=Fa ⟨oc,od,.func (W.fnOf x qual (uj st) (rT st) (qg st) .none kV Xb pm an WJ ct),Xr⟩) (c:W.codeIn K WJ qual=pc) (k:W.keepIn K (.ref f)=pc):OD K x qual st f (W.fnOf x qual (uj st) (rT st) (qg st) .none kV Xb pm an WJ ct):=⟨⟨oc,od,kV,Xb,pm,an,WJ,ct,Xr,Z',l,c⟩,k⟩
end
variable {X:Cx}
def pv(i:Nat){x:Str}{pos:Pos}(hN:X.N[i]?=Fa x:=by rfl)(hv:R5 X.env.scope x:=by first|exact Or.inl Z'|exact Or.inr (Or.inl Z')|exact Or.inr (Or.inr Z'))(hd:zI x:=by decide)
  (Xx:(x==("__classdict__":Str))=lf:=by decide):PE X (.Name x pos) (Ek i):=Lk hN hv hd Xx
def EO{A B:Prop}(h:B):if lf=pc then A else B:=by rw[cV dh];exact h
def Lw{A B:Prop}(h:A):if pc=pc then A else B:=by rw[cX Z'];exact h
def qJ{c A B:Prop}[Decidable c](h1:c->A)(h2:¬c->B):if c then A else B:=by
 by_cases h:c
 .rw[cX h];exact h1 h
 .rw[cV h];exact h2 h
def Pu(H H':Hp):Prop:=∀b o,H b=Fa o->H' b=Fa o
def Pu.trans(a:Pu H H1)(b:Pu H1 H2):Pu H H2:=λc o h=>b c o (a c o h)
section
variable {κ:Type}[DecidableEq κ]
noncomputable def wU(kvs:T0 (κ×V))(k:κ):Option V:=(kvs.find? λkv=>decide (kv.1=k)).map (·.2)
noncomputable def yM(kvs:T0 (κ×V))(k:κ)(v:V):T0 (κ×V):=
 if (kvs.any λkv=>decide (kv.1=k))=pc then kvs.map (λkv=>if kv.1=k then(kv.1,v)else kv)else kvs++[(k,v)]
def CN{p:κ×V}{r:T0 (κ×V)}{k:κ}(e:p.1=k):wU (p::r) k=Fa p.2:=by simp[wU,fF,e]
def CM{p:κ×V}{r:T0 (κ×V)}{k:κ}(e:¬p.1=k):wU (p::r) k=wU r k:=by simp[wU,fF,e]
theorem Gu(k:κ):∀kvs:T0 (κ×V),(kvs.any λkv=>decide (kv.1=k))=(wU kvs k).isSome
 | []=>rfl
 | p::r=>by
  rw[fY];by_cases e:p.1=k
  .simp only[CN e,dP e,ic,Option.isSome_some]
  .rw[CM e,eO e,fH];exact Gu k r
def AA(kvs:T0 (κ×V))(k:κ)(v:V):(yM kvs k v).length<=kvs.length+1:=by
 unfold yM;split
 .rw[cQ];lia
 .rw[cT,dS,dF];lia
def yw.nB(r:yw o u):o.isSome=u.isSome:=by
 cases o with
 | none=>cases u with
  | none=>rfl
  | some _=>exact(show False from r).elim
 | some _=>cases u with
  | none=>exact(show False from r).elim
  | some _=>rfl
def KV.val(r:KV kvs vs)(k:κ):yw (wU kvs k) (valueAt vs k):=by
 unfold KV at r;induction r with
 | nil=>exact True.intro
 | @cons p q ps qs h t ih=>
  obtain⟨h1,h2⟩:=h;by_cases e:p.1=k
  .have e':q.1=k:=h1.symm.trans e;have b:valueAt (q::qs) k=Fa q.2:=by simp[valueAt,fF,e']
   rw[CN e,b];exact h2
  .have e':¬q.1=k:=λz=>e (h1.trans z);have b:valueAt (q::qs) k=valueAt qs k:=by simp[valueAt,fF,e']
   rw[CM e,b];exact ih
def KV.any(r:KV kvs vs)(k:κ):(kvs.any λkv=>decide (kv.1=k))=vs.any λkv=>decide (kv.1=k):=by
 unfold KV at r;induction r with
 | nil=>rfl
 | cons h t ih=>rw[fY,fY,ih,h.1]
def KV.oH(r:KV kvs vs)(k:κ){y:V}{u:Vl}(ry:qL y u):
  KV (kvs.map λkv=>if kv.1=k then(kv.1,y)else kv) (vs.map λkv=>if kv.1=k then(kv.1,u)else kv):=by
 unfold KV at r ⊢;induction r with
 | nil=>exact .nil
 | @cons p q ps qs h t ih=>
  rw[dW,dW];refine .cons ?_ ih;obtain⟨h1,h2⟩:=h;by_cases e:p.1=k
  .rw[cX e,cX (h1.symm.trans e)];exact⟨h1,ry⟩
  .rw[cV e,cV (λz=>e (h1.trans z))];exact⟨h1,h2⟩
def KV.put(r:KV kvs vs)(k:κ){y:V}{u:Vl}(ry:qL y u):KV (yM kvs k y) (stored vs k u):=by
 unfold yM stored;rw[r.any k];by_cases e:(vs.any λkv=>decide (kv.1=k))=pc
 .rw[cX e,cX e];exact r.oH k ry
 .rw[cV e,cV e];exact mC r ⟨Z',ry⟩
def KV.length(r:KV kvs vs):kvs.length=vs.length:=jm r
end
def GT(r:qL (kV k) u):(rP P w).is k u=pc:=by
 cases k with
 | inl i=>obtain⟨t,e⟩:=(show ∃t,u=Value.int i t from r);subst e;exact Gp P w i t
 | inr x=>obtain⟨t,e⟩:=(show ∃t,u=Value.str x t from r);subst e;exact Az P w x t
theorem DQ:∀{ks:List rq} {us:T0 Vl},qF (ks.map kV) us->ItemsAre (rP P w) ks us
 | [],_,r=>by rw[fO]at r;cases r;exact .nil
 | k::ks,_,r=>by
  rw[dW]at r;cases r with
  | cons h t=>exact .cons (GT h) (DQ t)
abbrev KT(H:Hp):T0 (List rq×V)->T0 (List rq×Uf×Vl)->Prop:=Paired λp q=>p.1=q.1/\H q.2.1=Fa (.tup (p.1.map kV))/\qL p.2 q.2.2
def KT.val(r:KT H kvs xs)(k:List rq):yw (wU kvs k) ((atKey xs k).map (·.2)):=by
 induction r with
 | nil=>exact True.intro
 | @cons p q ps qs h t ih=>
  obtain⟨h1,_,h2⟩:=h;by_cases e:p.1=k
  .have e':q.1=k:=h1.symm.trans e;have b:atKey (q::qs) k=Fa q.2:=by simp[atKey,fF,e']
   rw[CN e,b];exact h2
  .have e':¬q.1=k:=λz=>e (h1.trans z);have b:atKey (q::qs) k=atKey qs k:=by simp[atKey,fF,e']
   rw[CM e,b];exact ih
def KT.oH(r:KT H kvs xs)(k:List rq){y:V}{u:Vl}(ry:qL y u):
  KT H (kvs.map λkv=>if kv.1=k then(kv.1,y)else kv) (xs.map (putAt k u)):=by
 induction r with
 | nil=>exact .nil
 | @cons p q ps qs h t ih=>
  rw[dW,dW];refine .cons ?_ ih;obtain⟨h1,h2,h3⟩:=h;unfold putAt;by_cases e:p.1=k
  .rw[cX e,cX (h1.symm.trans e)];exact⟨h1,h2,ry⟩
  .rw[cV e,cV (λz=>e (h1.trans z))];exact⟨h1,h2,h3⟩
def KT.put(r:KT H kvs xs)(k:List rq){b:Uf}{y:V}{u:Vl}(hb:H b=Fa (.tup (k.map kV)))(ry:qL y u):
  KT H (yM kvs k y) (storedH xs k b u):=by
 have e:(kvs.any λkv=>decide (kv.1=k))=(atKey xs k).isSome:=by rw[Gu,(r.val k).nB,jq]
 unfold yM storedH;rw[e];by_cases q:(atKey xs k).isSome=pc
 .rw[cX q,cX q];exact r.oH k ry
 .rw[cV q,cV q];exact mC r ⟨Z',hb,ry⟩
def KT.keeps{H H':Hp}(r:KT H kvs xs)(ht:∀b ys,H b=Fa (.tup ys)->H' b=Fa (.tup ys)):KT H' kvs xs:=
 Paired.oJ r λ_ _ z=>⟨z.1,ht _ _ z.2.1,z.2.2⟩
variable {H:Hp}{h:Go}{a:Uf}
section
variable {w:Wo}
def QD(ok:yu P w H h)(e:Rd H a u):sV P w H h a u:=e.ok ok
def Iy{kvs:T0 (rq×V)}(ok:yu P w H h)(e:Rd H a (.dK kvs)):kvs.length<=Ch/\(a==IN)=lf/\∃vs,KV kvs vs/\h.DictOf (rP P w) a vs:=
 show sV P w H h a (.dK kvs)from QD ok e
def TV{kvs:T0 (rq×V)}(ok:yu P w H h)(e:H a=Fa (.dK kvs)):kvs.length<=Ch/\(a==IN)=lf/\∃vs,KV kvs vs/\h.DictOf (rP P w) a vs:=Iy ok (.inl e)
def FB{ks:List rq}(ok:yu P w H h)(e:H a=Fa (.tup (ks.map kV))):(tupleKind (rP P w)).is h ks a:=by obtain⟨_,its,r,o,h1,h2,⟨n,h3⟩,_⟩:=(show sV P w H h a (.tup (ks.map kV))from ok a _ e);exact⟨o,its.toArray,n,h1,h2,h3,by simpa using DQ r⟩
def IU{kvs:T0 (List rq×V)}(ok:yu P w H h)(e:Rd H a (.dT kvs)):kvs.length<=Ch/\(a==IN)=lf/\
  ∃xs,KT H kvs xs/\h.DictOfH (tupleKind (rP P w)) a xs:=by
 obtain⟨z,y,xs,r,o,es,ep,h1,h2,h3,h4,h5⟩:=(show sV P w H h a (.dT kvs)from QD ok e);refine⟨z,y,xs,r,o,es,ep,h1,h2,h3,h4,λx hx=>?_,h5⟩;have all:∀{l:T0 (List rq×V)} {m:T0 (List rq×Uf×Vl)},KT H l m->∀x∈m,(tupleKind (rP P w)).is h x.1 x.2.1:=by
  intro l m q;induction q with
  | nil=>intro x hx;exact nomatch hx
  | @cons p q ps qs hq t ih=>
   intro x hx;rcases de.mp hx with e|hx
   .subst e;exact FB ok (by rw[<-hq.1];exact hq.2.1)
   .exact ih x hx
 exact all r x hx
def TQ{kvs:T0 (List rq×V)}(ok:yu P w H h)(e:H a=Fa (.dT kvs)):kvs.length<=Ch/\(a==IN)=lf/\
  ∃xs,KT H kvs xs/\h.DictOfH (tupleKind (rP P w)) a xs:=IU ok (.inl e)
end
def Ei(H:Hp)(a:Uf)(y:V)(r:Option V):Prop:=
 (∃kvs k,Rd H a (.dK kvs)/\y=kV k/\r=wU kvs k)\/∃kvs k b,Rd H a (.dT kvs)/\y=.ref b/\H b=Fa (.tup (k.map kV))/\r=wU kvs k
def LN(H:Hp)(a:Uf)(y v:V)(H':Hp):Prop:=
 (∃kvs k,H a=Fa (.dK kvs)/\y=kV k/\kvs.length<Ch/\H'=upd H a (.dK (yM kvs k v)))\/
 ∃kvs k b,H a=Fa (.dT kvs)/\y=.ref b/\H b=Fa (.tup (k.map kV))/\kvs.length<Ch/\H'=upd H a (.dT (yM kvs k v))
def Ei.k{H:Hp}{a:Uf}{kvs:T0 (rq×V)}{k:rq}(e:H a=Fa (.dK kvs)):Ei H a (kV k) (wU kvs k):=.inl ⟨kvs,k,.inl e,Z',Z'⟩
def LN.k{H:Hp}{a:Uf}{kvs:T0 (rq×V)}{k:rq}(e:H a=Fa (.dK kvs))(hl:kvs.length<Ch):LN H a (kV k) v (upd H a (.dK (yM kvs k v))):=.inl ⟨kvs,k,e,Z',hl,Z'⟩
variable {Wx:T0 (Uf × Obj)}{Y:St}{y v:V}{u r:Vl}
section
variable {s:Sd}{o:Option V}{A:Ar}{E:QQX}
def Inv.big(I:Inv X Wx Y H s):IN<s.heap.objs.size:=by have h:wv<s.heap.objs.size:=(I.mod.glob.keeps I.bk).lt;exact jI (by decide) h
def JW{Q:QQX}(hu:A.units+1<ZP)(I:Inv X Wx Y H s)(g:Ei H a y (Fa v))(ry:qL y u)(h:∀w' s',Inv X Wx Y H s'->qL v w'->Q w' s'):
  pi (Tk X.prog X.w) A (wT (.ref a) u) Q E s:=by
 rcases g with⟨kvs,k,e,ey,l⟩|⟨kvs,k,b,e,ey,eb,l⟩
 .subst ey;obtain⟨z,hd,vs,XO,dd⟩:=Iy I.mQ e;obtain⟨w',hw,YE⟩:=yw.some_of (v:=v) (o:=valueAt vs k) (by rw[l];exact XO.val k);exact wpAny_getItem_of (GT ry) dd.mapOf hw (h w' _ (I.tok _) YE)
 .subst ey;cases(show u=Value.ref b from ry);obtain⟨z,hd,xs,XO,dd⟩:=IU I.mQ e;obtain⟨w',hw,YE⟩:=yw.some_of (v:=v) (o:=(atKey xs k).map (·.2)) (by rw[l];exact XO.val k);obtain⟨p,hp,WH⟩:=iD.mp hw;refine wpAny_getItem_heap (jg hu) (FB I.mQ eb) dd hp ?_;rw[WH];exact h w' _ (I.tok _) YE
def Vr{Q:QQX}(hu:A.units+1<ZP)(I:Inv X Wx Y H s)(g:Ei H a y o)(ry:qL y u)(h:∀s',Inv X Wx Y H s'->Q (.bool o.isSome) s'):
  pi (Tk X.prog X.w) A (Op .In u (.ref a)) Q E s:=by
 rcases g with⟨kvs,k,e,ey,l⟩|⟨kvs,k,b,e,ey,eb,l⟩
 .subst ey;obtain⟨z,hd,vs,XO,dd⟩:=Iy I.mQ e;refine wpAny_in_of (GT ry) hd dd.mapOf ?_;rw[<-(XO.val k).nB,<-l];exact h _ (I.tok _)
 .subst ey;cases(show u=Value.ref b from ry);obtain⟨z,hd,xs,XO,dd⟩:=IU I.mQ e;refine wpAny_in_heap (jg hu) (FB I.mQ eb) hd dd ?_;have q:=(XO.val k).nB;rw[jq]at q;rw[<-q,<-l];exact h _ (I.tok _)
def IF{t':Nat}(I:Inv X Wx Y H s)(mu:Ug (H a))(hs:Heap.SameBut a s.heap h')(he:∃q,h'.get? a=Fa q)(new:sV X.prog X.w (upd H a ob) h' a ob):
  Inv X Wx Y (upd H a ob) {s with heap:=h',toks:=t'}:=
 I.write (x:=a) (e:=a) mu (.inl Z') (λb q hb z=>(hs.2 b hb).trans z) he new
def MS{H':Hp}{h':Go}{kvs:T0 (rq×V)}(z:kvs.length<=Ch)(hd:(a==IN)=lf)(XO:KV kvs vs)(dd:h'.DictOf (rP P w) a vs):
  sV P w H' h' a (.dK kvs):=⟨z,hd,vs,XO,dd⟩
def J9{Q:Unit->Sd->Prop}(hu:A.units+1<ZP)(I:Inv X Wx Y H s)(g:LN H a y v H')(ry:qL y u)(rv:qL v r)(h:∀s',Inv X Wx Y H' s'->Q () s'):
  pi (Tk X.prog X.w) A (setItem (.ref a) u r) Q E s:=by
 rcases g with⟨kvs,k,e,ey,l,eH⟩|⟨kvs,k,b,e,ey,eb,l,eH⟩
 .subst ey eH;obtain⟨z,hd,vs,XO,dd⟩:=TV I.mQ e;have hz:vs.length<=Ch:=by rw[<-XO.length];exact z
  have hl:(yM kvs k v).length<=Ch:=by have:=AA kvs k v;lia
  refine wpAny_setItem_pairs (hsz:=hz) (GT ry) dd λh' dd' hs=>h _ ?_;have he:∃q,h'.get? a=Fa q:=let⟨q,_,_,hq,_⟩:=dd';⟨q,hq⟩;exact IF I (by rw[e];exact True.intro) hs he (MS hl hd (XO.put k rv) dd')
 .subst ey eH;cases(show u=Value.ref b from ry);obtain⟨z,hd,xs,XO,dd⟩:=TQ I.mQ e;have hz:xs.length<=Ch:=by rw[<-jm XO];exact z
  have hl:(yM kvs k v).length<=Ch:=by have:=AA kvs k v;lia
  refine wpAny_setItem_heap (hsz:=hz) (jg hu) (FB I.mQ eb) dd λh' dd' hs=>h _ ?_;obtain⟨q,es,ep,hq,h2,h3,h4,_,h5⟩:=dd';refine IF I (by rw[e];exact True.intro) hs ⟨q,hq⟩ ⟨hl,hd,_,(XO.put k eb rv).keeps λc ys ec=>?_,q,es,ep,hq,h2,h3,h4,h5⟩;rw[pZ (Ul ec e (λz=>nomatch z))];exact ec
end
variable {kvs:T0 (rq × V)}{k:rq}
section
variable {s:Sd}{A:Ar}{E:QQX}
end
def FZ{Wx:QQY}(I:Inv X Wx Y H s)(g:Ei H a y o):s.TypeIs (.ref a) "dict":=by
 rcases g with⟨kvs,k,e,_,_⟩|⟨kvs,k,b,e,_,_,_⟩
 .obtain⟨_,_,vs,_,dd⟩:=Iy I.mQ e;exact dd.typeIs
 .obtain⟨_,_,xs,_,dd⟩:=IU I.mQ e;exact dd.typeIs
def Uw(td ty tv:TE):TS:=λD Y H=>tv Y H λv H1=>td Y H1 λx H2=>ty Y H2 λy H3=>∃a H4,x=.ref a/\LN H3 a y v H4/\D.nx Y H4
variable {i e value:zn}{pos WI YD:Pos}{td ty tv:TE}
section
variable {o:zn}
def N8(hu:X.A.units+1<ZP)(ho:PE X o td)(hi:PE X i ty)(hv:PE X value tv)(hs:ZB value (Fa (.Subscript o i WI)) pos.line X.env=pure lf):
  PS X (.Assign [.Subscript o i WI] value pos) (Uw td ty tv):=by
 intro Wx s Y H D I h;refine wpAny_Assign_Subscript (sG (hv Wx s Y H _ I h) λr s1 zz=>x5 zz λv H1 I1 rv q1=>sG (ho Wx s1 Y H1 _ I1 q1) λu s2 zz=>x5 zz λx H2 I2 rx q2=>sG (hi Wx s2 Y H2 _ I2 q2) λiv s3 zz=>?_) hs;obtain⟨y,H3,I3,ry,a,H4,ex,g,q3⟩:=zz;subst ex;obtain rfl:u=Value.ref a:=rx;exact J9 hu I3 g ry rv λs4 I4=>⟨Y,H4,I4,q3⟩
end
structure M1(X:Cx)(o:zn)(m:Str)(WB:Pos)(e:zn)(WG:Pos):Prop where
 base:At o m X.env (wp o X.env)=wp o X.env
 pk:((sB WG (Tl [e] X.env)).all (λx=>!x.1)&&(sK WG (Ps [] X.env)).all (λx=>x.1.isSome)
  &&decide (([e]:List zn).length+([]:List ZS).length+(if ([]:List ZS).isEmpty then 0 else 1)<30))=pc
 line:(WB.endLine==WG.line)=pc
 trees:sB WG (Tl [e] X.env)=[(lf,wp e X.env)]
structure M2(X:Cx)(o:zn)(m:Str)(WB:Pos)(e f:zn)(WG:Pos):Prop where
 base:At o m X.env (wp o X.env)=wp o X.env
 pk:((sB WG (Tl [e,f] X.env)).all (λx=>!x.1)&&(sK WG (Ps [] X.env)).all (λx=>x.1.isSome)
  &&decide (([e,f]:List zn).length+([]:List ZS).length+(if ([]:List ZS).isEmpty then 0 else 1)<30))=pc
 line:(WB.endLine==WG.line)=pc
 trees:sB WG (Tl [e,f] X.env)=[(lf,wp e X.env),(lf,wp f X.env)]
variable {d:V}
section
variable {s:Sd}{o:Option V}{A:Ar}{E:QQX}
end
variable {f:zn}{WB WG:Pos}{tx:TE}
section
variable {o:zn}
end
section
variable {s:Sd}{A:Ar}{E:QQX}
end
section
variable {s:Sd}{A:Ar}{E:QQX}
end
section
variable {κ:Type}[DecidableEq κ]
end
noncomputable def Be(env:Env):T0 (Str×xL)->T0 (Str×Uf)->T0 (Str×Uf)
 | [],acc=>acc
 | (n,k)::r,acc=>Be env r (if k==.free then(n,(env.cells.lookup n).getD 0)::acc else acc)
theorem GJ{env:Env}{f:(Str×xL)->T0 (Str×Uf)->Sem (ForInStep (T0 (Str×Uf)))} (hf:∀x cs,(x.2=.free->∃c,env.cells.lookup x.1=Fa c)->f x cs=pure (.yield (if x.2==.free then(x.1,(env.cells.lookup x.1).getD 0)::cs else cs))):
  ∀(l:T0 (Str×xL)) (acc:T0 (Str×Uf)),(∀x∈l,x.2=.free->∃c,env.cells.lookup x.1=Fa c)->forIn l acc f=pure (Be env l acc)
 | [],acc,_=>by rw[j8];rfl
 | (n,k)::r,acc,h=>by rw[jV,hf (n,k) acc (h _ dI),pure_bind];exact GJ hf r _ λx hx=>h x (dz _ hx)
def yC{scope:wS}{env:Env}(h:∀x∈scope.names,x.2=.free->∃c,env.cells.lookup x.1=Fa c):closureFor scope env=pure (Be env scope.names []):=by
 unfold closureFor;have e:=GJ (env:=env) (f:=λ(x:Str×xL) (cs:T0 (Str×Uf))=>(do
   if x.2==.free then
    let a<-cellOf env x.1
    pure (ForInStep.yield ((x.1,a)::cs))
   else pure (ForInStep.yield cs))) (λx cs hx=>by
  cases hk:x.2==NameKind.free with
  | false=>simp
  | true=>
   obtain⟨c,hc⟩:=hx (by simpa using hk);simp[cellOf,hc]) scope.names [] h
 first
  | exact(eJ (·>>=pure) e).trans (by simp)
  | (simp only[bind_pure];exact e)
  | (rw[<-e];rfl)
theorem MZ{env:Env}{x:Str}{c:Uf}:∀{l:T0 (Str×xL)} {acc:T0 (Str×Uf)},(∀x∈l,x.2=.free->∃c,env.cells.lookup x.1=Fa c)->(∀x c,acc.lookup x=Fa c->env.cells.lookup x=Fa c)->(Be env l acc).lookup x=Fa c->env.cells.lookup x=Fa c
 | [],acc,_,ha,h=>ha x c h
 | (n,k)::r,acc,hl,ha,h=>by
  refine MZ (l:=r) (acc:=if k==.free then(n,(env.cells.lookup n).getD 0)::acc else acc) (λy hy=>hl y (dz _ hy)) (λy d hd=>?_) h;cases hk:k==NameKind.free with
  | false=>rw[hk]at hd;exact ha y d (by simpa using hd)
  | true=>
   rw[hk,cX Z']at hd;obtain⟨e,he⟩:=hl (n,k) dI (by simpa using hk);rw[eK]at hd;cases hy:y==n with
   | true=>
    rw[hy]at hd;have yn:y=n:=by simpa using hy
    subst yn;have he:env.cells.lookup y=Fa e:=he;rw[he]at hd ⊢;exact hd
   | false=>rw[hy]at hd;exact ha y d hd
theorem MR{x:Str}:∀{l:T0 (Str×xL)} {acc:T0 (Str×Uf)},(∃c,acc.lookup x=Fa c)->∃c,(Be env l acc).lookup x=Fa c
 | [],_,h=>h
 | (n,k)::r,acc,h=>by
  refine MR (l:=r) ?_;cases hk:k==NameKind.free with
  | false=>simpa using h
  | true=>
   rw[cX Z',eK];cases hy:x==n with
   | true=>exact⟨_,Z'⟩
   | false=>exact h
theorem HW{x:Str}:∀{l:T0 (Str×xL)} {acc:T0 (Str×Uf)},l.lookup x=Fa .free->∃c,(Be env l acc).lookup x=Fa c
 | [],_,h=>by simp at h
 | (n,k)::r,acc,h=>by
  rw[eK]at h;cases hy:x==n with
  | true=>rw[hy]at h;have hk:k=.free:=cY h;subst hk;refine MR (l:=r) ⟨(env.cells.lookup n).getD 0,?_⟩;show List.lookup x (if NameKind.free==NameKind.free then(n,(env.cells.lookup n).getD 0)::acc else acc)=Fa ((env.cells.lookup n).getD 0);rw[cX (by rfl),eK,hy]
  | false=>rw[hy]at h;exact HW (l:=r) h
theorem uq{env:Env}{x:Str}:∀{l:T0 (Str×xL)},(l.map λ(n,k)=>if (k==NameKind.free&&env.scope.kind==.function&&env.kindOf n==Fa .cell)then(n,NameKind.cell)else(n,k)).lookup x
   = (l.lookup x).map λk=>if (k==NameKind.free&&env.scope.kind==.function&&env.kindOf x==Fa .cell)then NameKind.cell else k
 | []=>rfl
 | (n,k)::r=>by
  rw[dW];show List.lookup x ((if (k==NameKind.free&&env.scope.kind==.function&&env.kindOf n==Fa .cell)=pc then(n,NameKind.cell)else(n,k))::_)=_;cases hy:x==n with
  | true=>
   have yn:x=n:=by simpa using hy
   subst yn;by_cases hc:(k==NameKind.free&&env.scope.kind==.function&&env.kindOf x==Fa .cell)=pc
   .rw[cX hc,eK,eK,hy];simp only[jW];rw[cX hc]
   .rw[cV hc,eK,eK,hy];simp only[jW];rw[cV hc]
  | false=>
   by_cases hc:(k==NameKind.free&&env.scope.kind==.function&&env.kindOf n==Fa .cell)=pc
   .rw[cX hc,eK,eK,hy];exact uq
   .rw[cV hc,eK,eK,hy];exact uq
noncomputable def OH(ix:T0 (Option Nat))(Y:St):St:=ix.map λo=>o.bind λi=>(Y[i]?).join
abbrev Cx.comp(X:Cx)(scope:wS)(N':QQQ)(C:Uf)(s0:Sd)(H0:Hp)(ex:QXQ):Cx:=
 {X with N:=N',s₀:=s0,H₀:=H0,env:=compEnvC scope (Be X.env scope.names []) C X.env,outer:=X.stack,ex:=ex,fn:=λ_=>lf,pn:=[],xe:=λ_ _=>False}
structure sm(X:Cx)(scope:wS)(ix:List (Option Nat))(N':QQQ):Prop where
 kind:scope.kind=.function
 oE:∀y∈scope.names,y.2≠.cell
 nam:∀y∈scope.names,y.2=.local->scope.names.lookup y.1=Fa .local
 fre:∀y∈scope.names,y.2=.free->X.env.scope.names.lookup y.1=Fa .cell\/X.env.scope.names.lookup y.1=Fa .free
 len:ix.length=N'.length
 at_:∀(j i:Nat) (x:Str),ix[j]?=Fa (Fa i)->N'[j]?=Fa x->X.N[i]?=Fa x/\scope.names.lookup x=Fa .free
variable {scope:wS}{ix:T0 (Option Nat)}{N':QQQ}{fp:QXQ}
section
variable {s:Sd}
def sm.cells(S:sm X scope ix N')(ok:X.Ok):∀x∈scope.names,x.2=.free->∃c,X.env.cells.lookup x.1=Fa c:=λx hx hk=>ok.has x.1 (S.fre x hx hk)
def sm.sub(S:sm X scope ix N')(ok:X.Ok){x:Str}{c:Uf}(h:(Be X.env scope.names []).lookup x=Fa c):X.env.cells.lookup x=Fa c:=MZ (S.cells ok) (λ_ _ z=>by simp at z) h
theorem vo{x:Str}{k:xL}:∀{l:T0 (Str×xL)},l.lookup x=Fa k->(x,k)∈l
 | [],h=>by simp at h
 | (n,j)::r,h=>by
  rw[eK]at h;cases hy:x==n with
  | true=>
   rw[hy]at h;have yn:x=n:=by simpa using hy
   subst yn;rw[cY h];exact dI
  | false=>rw[hy]at h;exact dz _ (vo h)
def Inv.comp{C:Uf}{h1:Go}{tk:Nat}(I:Inv X Wx Y H s)(S:sm X scope ix N')(hf:∀b∈fp,AU X Wx H b)(WL:∀b∈fp,b<s.heap.objs.size)(hC:s.heap.objs.size<=C) (k:∀b o,s.heap.get? b=Fa o->h1.get? b=Fa o) (hn:h1.Ns C (λ_=>Db)):Inv (X.comp scope N' C s H fp) (X.pn++Wx) (OH ix Y) H {s with heap:=h1,toks:=tk}:=by
 have sub:∀{x:Str} {c:Uf},(Be X.env scope.names []).lookup x=Fa c->X.env.cells.lookup x=Fa c:=λh=>S.sub I.ok h;refine⟨⟨I.ok.mod,S.kind,I.ok.glob,I.ok.blt,hC,λx y c e1 e2=>I.ok.inj x y c (sub e1) (sub e2),λx hx=>?_,λ_ _ z=>(dh z).elim,I.ok.hd,I.ok.frames,.inl Z',λb hb=>⟨dJ (dE (WL b hb) hC),λx c e=>(hf b hb).2.2.2.2.1 x c (sub e)⟩,I.bs,dY I.ok.oa I.sz,λb o e hb=>?_,λb hb hfs=>?_,I.stack,I.nJ⟩,Z',I.bare,Un.kept k,⟨_,hn,λi x v e1 e2 e3=>?_⟩,λx c e=>?_,I.mQ.fresh hC,λx c e=>I.mX x c (sub e),λp hp=>?_,I.mQ.kept k,?_⟩
 .have hx:(relabel scope X.env).names.lookup x=Fa .cell\/(relabel scope X.env).names.lookup x=Fa .free:=hx;have e:(relabel scope X.env).names.lookup x=(scope.names.lookup x).map λk=>if (k==NameKind.free&&X.env.scope.kind==.function&&X.env.kindOf x==Fa .cell)then NameKind.cell else k:=uq
  rw[e]at hx;cases q:scope.names.lookup x with
  | none=>rw[q]at hx;rcases hx with hx|hx<;>simp at hx
  | some kd=>
   cases kd with
   | free=>exact HW q
   | cell=>exact absurd Z' (S.oE _ (vo q))
   | _=>rw[q]at hx;rcases hx with hx|hx<;>simp at hx
 .rcases(hf b hb).2.2.2.1 with z|z
  .exact I.ok.nQ b o e z
  .exact absurd (dE (dv e) (dY I.ok.oa z)) (eN _)
 .rcases de.mp (I.nH b hfs)with z|z
  .exact(hf b hb).2.1 z
  .exact(hf b hb).2.2.1 z
 .have YG:(ix[i]?).map (λo=>o.bind λi=>(Y[i]?).join)=Fa (Fa v):=by have z:(OH ix Y)[i]?=Fa (Fa v):=e2;unfold OH at z;rw[dq]at z;exact z
  cases q:ix[i]? with
  | none=>rw[q]at YG;cases YG
  | some o=>
   rw[q]at YG;cases o with
   | none=>cases YG
   | some j=>
    have YH:(Y[j]?).join=Fa v:=cY YG;have e4:Y[j]?=Fa (Fa v):=by
     cases r:Y[j]? with
     | none=>rw[r]at YH;cases YH
     | some w=>rw[r]at YH;exact eJ Fa YH
    obtain⟨n1,n2⟩:=S.at_ i j x q e1;obtain⟨m,hm,hl⟩:=I.loc;have hk:=S.fre _ (vo n2) Z';have hv:R5 X.env.scope x:=by
     rcases hk with z|z
     .exact .inr (.inl z)
     .exact .inr (.inr z)
    obtain⟨u,ru,lk⟩:=hl j x v n1 e4 hv;refine⟨u,ru,?_⟩;have hk':X.env.kindOf x=Fa .cell\/X.env.kindOf x=Fa .free:=hk;rcases lk with⟨z,_⟩|⟨_,c,hc,hcell⟩
    .rcases hk' with y|y<;>(rw[y]at z;cases z)
    .obtain⟨c',hc'⟩:=HW (env:=X.env) (acc:=[]) n2;have:=sub hc';rw[hc]at this;cases this;refine .inr ⟨?_,c,hc',hcell.keeps k⟩;show(relabel scope X.env).names.lookup x=Fa .cell\/(relabel scope X.env).names.lookup x=Fa .free;have e:(relabel scope X.env).names.lookup x=(scope.names.lookup x).map λk=>if (k==NameKind.free&&X.env.scope.kind==.function&&X.env.kindOf x==Fa .cell)then NameKind.cell else k:=uq
     rw[e,n2];simp only[jW];split
     .exact .inl Z'
     .exact .inr Z'
 .obtain⟨v,q⟩:=I.cell x c (sub e);exact⟨v,q.keeps k⟩
 .obtain⟨e,n,ne,nf,d⟩:=I.pin p (by simpa using hp);refine⟨k _ _ e,n,dJ (dE (dv e) hC),λz=>?_,d⟩;rcases de.mp (I.nH p.1 z)with y|y
  .exact ne y
  .exact nf y
 .show(OH ix Y).length=N'.length;unfold OH;rw[cQ];exact S.len
end
section
variable {prog:Pg}{w:Wo}{A:Ar}{R:Result→Sd→Prop}{s:Sd}
def xF{Xn WZ iter:zn}{W8:T0 zn}{scope:wS}{pos:Pos}{it acc:Vl}{env:Env}(I:Nat->Sd->Prop){EX:QQX}(hEX:∀e s',EX e s'->notedBy (Tk prog w) A env (λx s'=>R (.error x) s') e s') (turn:∀n s,I n s->pi (Tk prog w) A (pyNext it) (λr s₁=>match r with
   | none=>R (.ok .next) s₁
   | some v=>pi (Tk prog w) A (ZU WZ it v) (λ_ s₁=>pi (Tk prog w) A (assign WZ env v) (λ_ s₂=>
     pi (Tk prog w) A (forIn W8 pc λc r=>if r=pc then do let ok<-isTrue c env (wp c env);pure (ForInStep.yield ok)else pure (ForInStep.yield r)) (λok s₃=>
      if ok=pc then pi (Tk prog w) A (wp Xn env) (λx s₄=>
       pi (Tk prog w) A (call (.builtin "list.append") [acc,x]) (λ_ s₅=>∃m,m<n/\I m s₅) (λ_ _=>False) s₄) EX s₃
      else ∃m,m<n/\I m s₃) (λ_ _=>False) s₂) (λ_ _=>False) s₁) (λ_ _=>False) s₁) (λ_ _=>False) s)
  (n:Nat) (h:I n s):
  XV (Tk prog w) A (.compLoop (.ListComp Xn [⟨WZ,iter,W8,0⟩] scope pos) 0 it acc env) R s:=by
 refine codeAny_loop Z' I (λn s hI=>?_) n h;show pi _ A ((compTurn (.ListComp Xn [⟨WZ,iter,W8,0⟩] scope pos) 0 it acc env).onRaise (λx=>do noteFrame x env;theTreesLotGoes x)) _ _ s;refine wpAny_noted ?_;rw[compTurn_list];refine cR (gX (cR (d9 (turn n s hI) (λr s₁ h₁=>?_) λ_ _ h'=>h'.elim)));cases r with
 | none=>exact c9 h₁
 | some v=>
  refine cR (d9 h₁ (λ_ s₁' h₁'=>?_) λ_ _ h'=>h'.elim);refine cR (d9 h₁' (λ_ s₂ h₂=>cR (d9 h₂ (λok s₃ h₃=>?_) λ_ _ h'=>h'.elim)) λ_ _ h'=>h'.elim);cases ok with
  | false=>exact c9 ⟨Z',h₃⟩
  | true=>exact cR (cR (d9 h₃ (λx s₄ h₄=>cR (d9 h₄ (λ_ s₅ h₅=>c9 (c9 ⟨Z',h₅⟩)) λ_ _ h'=>h'.elim)) hEX))
end
def PF(X:Cx)(W8:T0 zn)(t:TT):Prop:=
 ∀(Wx:QQY) (s:Sd) (Y:St) (H:Hp) (Q:Bool->Hp->Prop),Inv X Wx Y H s->t Y H Q->
  pi (Tk X.prog X.w) X.A (forIn W8 pc λc r=>if r=pc then do let ok<-isTrue c X.env (wp c X.env);pure (ForInStep.yield ok)else pure (ForInStep.yield r)) (TP X Wx Y Q) X.xe s
def TX:TT:=λ_ H Q=>Q pc H
def Q4:PF X [] TX:=λ_ _ _ H _ I h=>wpAny_tests_nil ⟨H,I,h⟩
def Ro(h:PT X c t):PF X [c] t:=λWx s Y H Q I q=>wpAny_tests_one (h Wx s Y H Q I q)
def QE(ix:T0 (Option Nat))(g:TG)(tt:TT)(te:TE)(Y:St)(J:It)(Q:VK)(H:Hp):Prop:=
 ∃W:Nat->Nat->T0 V->St->Hp->Prop,(∃m,W 0 m [] (OH ix Y) H)/\∀i m ys σ' H,W i m ys σ' H->
  (J.stop i H/\ys.length<=Ch/\∀D,H D=Db->Q (.ref D) (upd H D (.lst ys)))\/
  (J.go i H/\ys.length<Ch/\∀x H',J.oS i H x H'->g x σ' H' λσ2 H2=>tt σ2 H2 λb H3=>if b=pc then te σ2 H3 λy H4=>∃m',m'<m/\W (i+1) m' (ys++[y]) σ2 H4 else ∃m',m'<m/\W (i+1) m' ys σ2 H3)
def Mo(ix:T0 (Option Nat))(wi:TI)(g:TG)(tt:TT)(te:TE):TE:=λY H Q=>wi Y H λJ H1=>QE ix g tt te Y J Q H1
variable {tg iter Xn:zn}{W8:T0 zn}{g:TG}{tt:TT}{te:TE}{J:It}{it:Uf}{tn:Nat→Go→Prop}{Q:VK}
section
variable {s:Sd}
def Ci{XP:Uf->Sd->Hp->QXQ->QQY->St->Vl->Sd->Prop}{RR:Vl->Uf->Result->Sd->Prop}{E:QQX}(hc:X.calm=pc)(S:sm X scope ix N')(I:Inv X Wx Y H s)(T:Gn X.prog X.w X.K tg J fp it tn)(st:tn 0 s.heap)(hf:∀b∈fp,AU X Wx H b) (hg:∀C s0 H0 ex,PG (X.comp scope N' C s0 H0 ex) tg g) (ht:∀C s0 H0 ex,PF (X.comp scope N' C s0 H0 ex) W8 tt) (he:∀C s0 H0 ex Wx s Y H Q,Inv (X.comp scope N' C s0 H0 ex) Wx Y H s->te Y H Q->pi (Tk X.prog X.w) X.A (wp Xn (X.comp scope N' C s0 H0 ex).env) (EP (X.comp scope N' C s0 H0 ex) Wx Y Q) (XP C s0 H0 ex Wx Y) s) (hx:∀C D e s',s.heap.objs.size<=C->(∃Xw σ',(∀b∈fp,∃o,(b,o)∈Xw)/\XP C s H fp Xw σ' e s')->notedBy (Tk X.prog X.w) X.A (compEnvC scope (Be X.env scope.names []) C X.env) (λx s'=>RR D C (.error x) s') e s') (hw:QE ix g tt te Y J Q H) (WC:∀D C s' H' m,s.heap.objs.size<=C->H' C=Db->s'.heap.Ns C m->Inv X Wx Y H' s'->Q (.ref D) H'->RR (.ref D) C (.ok .next) s'):
  pi (Tk X.prog X.w) X.A (newList []) (λacc s₃=>pi (Tk X.prog X.w) X.A (newFunctionEnv scope X.env.globals (Be X.env scope.names []) [] X.env.qual Db .none (Fa X.env)) (λXf s₄=>
   XV (Tk X.prog X.w) X.A (.compStart (.ListComp Xn [⟨tg,iter,W8,0⟩] scope pos) 0 (.ref it) acc {Xf with scope:=relabel scope X.env}) (RR acc Xf.locals) s₄) E s₃) E s:=by
 obtain⟨W,⟨m0,w0⟩,turn⟩:=hw;have WL:∀b∈fp,b<s.heap.objs.size:=λb hb=>by obtain⟨o,e,_⟩:=T.obj _ _ st b hb;exact dv e
 refine fR (wpAny_newFunctionEnv S.oE (by intro y hy;simp at hy) (λh₁ Yj YI=>?_) S.kind);dsimp only at Yj YI ⊢;generalize hH2:s.heap.push {cls:=.type "list",dict:=none,data:=.seq ([]:T0 Vl).toArray}=H2 at Yj YI ⊢;have hC:H2.objs.size=s.heap.objs.size+1:=by rw[<-hH2,fJ]
 have hDC:s.heap.objs.size≠H2.objs.size:=by rw[hC];exact dJ (fB _)
 have YJ:s.heap.objs.size<=H2.objs.size:=by rw[hC];exact hW _
 have Y3:∀b,b<s.heap.objs.size->b≠H2.objs.size/\b≠s.heap.objs.size:=λb hb=>⟨by rw[hC];exact dJ (jr hb),dJ hb⟩;have Xg:∀b o,s.heap.get? b=Fa o->h₁.get? b=Fa o:=λb o e=>YI.extBut b o (Y3 b (dv e)).1 (cW _ (hH2 ▸ cW _ e));have hacc:h₁.get? s.heap.objs.size=Fa {cls:=.type "list",data:=.seq ([]:T0 Vl).toArray 0}:=YI.extBut _ _ hDC (cW _ (hH2 ▸ dC _ Z'));have Yj:h₁.Ns H2.objs.size (λ_=>Db):=Yj;have XJ:∀{H':Hp} {pl:QQY},(∀b∈fp,H' b=Db)->(∀p∈pl,p.1∉fp)->∀b∈fp,AU (X.comp scope N' H2.objs.size s H fp) (X.pn++Wx++pl) H' b:=λ{H' pl} hn WN b hb=>by
  refine⟨hn b hb,dJ (dE (WL b hb) YJ),λz=>?_,.inl hb,λx c e=>(hf b hb).2.2.2.2.1 x c (S.sub I.ok e),λp hp=>?_⟩
  .rcases de.mp (I.nH b z)with y|y
   .exact(hf b hb).2.1 y
   .exact(hf b hb).2.2.1 y
  .rcases dR.mp (show p∈X.pn++Wx++pl by simpa using hp)with z|z
   .exact(hf b hb).2.2.2.2.2 p z
   .intro q;exact WN p z (q ▸ hb)
 have loop:∀s₃:Sd,s₃={s with heap:=h₁,toks:=s.toks+([]:T0 (Str×Vl)).length}->
   XV (Tk X.prog X.w) X.A (.compLoop (.ListComp Xn [⟨tg,iter,W8,0⟩] scope pos) 0 (.ref it) (.ref s.heap.objs.size) (compEnvC scope (Be X.env scope.names []) H2.objs.size X.env))
    (RR (.ref s.heap.objs.size) H2.objs.size) s₃:=by
  rintro s₃ rfl
  refine xF (hEX:=λe s' z=>hx _ _ e s' YJ z) (λn s'=>∃(i:Nat) (ys:T0 V) (us:T0 Vl) (k:Nat) (σ':St) (H':Hp),Inv (X.comp scope N' H2.objs.size s H fp) (X.pn++Wx) σ' H' s'/\tn i s'.heap/\(∀b∈fp,H' b=Db)/\H' s.heap.objs.size=Db/\
   s'.heap.get? s.heap.objs.size=Fa {cls:=.type "list",data:=.seq us.toArray k}/\qF ys us/\ys.length<=Ch/\W i n ys σ' H') ?_ m0
   ⟨0,[],[],0,OH ix Y,H,I.comp S hf WL YJ Xg Yj,T.keep _ _ _ st λb _ o e=>Xg b o e,λb hb=>(hf b hb).1,I.mQ.fresh (cZ _),hacc,.nil,eU _,w0⟩
  rintro n s' ⟨i,ys,us,k,σ',H',I',XW,fr',hD',Xd,rv',hz',w'⟩
  have cellD:∀x c,(X.comp scope N' H2.objs.size s H fp).env.cells.lookup x=Fa c->c≠s.heap.objs.size:=λx c e=>by obtain⟨v,q⟩:=I.cell x c (S.sub I.ok e);exact dJ q.lt
  have pinD:∀p∈X.pn++Wx,p.1≠s.heap.objs.size:=λp hp=>dJ (dv (I.pin p hp).1);have dfs:s.heap.objs.size∉(X.comp scope N' H2.objs.size s H fp).fs:=λz=>by
   rcases de.mp (I.nH _ z)with y|y
   .exact absurd I.lt (by rw[<-y];exact eN _)
   .exact I.oY (cZ _) y
  have dfp:s.heap.objs.size∉fp:=λz=>absurd (WL _ z) (eN _);have IpD:Inv (X.comp scope N' H2.objs.size s H fp) (X.pn++Wx++[(s.heap.objs.size,{cls:=.type "list",data:=.seq us.toArray k})]) σ' H' s':=I'.nM λp hp=>by
   rcases dR.mp hp with z|z
   .exact I'.pin p (eC _ z)
   .have e:p=(s.heap.objs.size,{cls:=.type "list",data:=.seq us.toArray k}):=by simpa using z
    subst e;exact⟨Xd,hD',hDC,dfs,λv z=>by cases z⟩
  have pfp:∀p∈[((s.heap.objs.size,{cls:=.type "list",data:=.seq us.toArray k}):Uf×Obj)],p.1∉fp:=λp hp=>by
   have e:p=(s.heap.objs.size,{cls:=.type "list",data:=.seq us.toArray k}):=by simpa using hp
   subst e;exact dfp
  rcases turn i n ys σ' H' w' with⟨stop,hz,q⟩|⟨go,hz,step⟩
  .refine d9 (T.done (X.comp scope N' H2.objs.size s H fp) Z' Z' Z' hc i _ s' σ' H' (λ_ _=>False) IpD (XJ fr' pfp) XW stop) (λr s1 ⟨hr,I1⟩=>?_) λ_ _ z=>z;subst hr;show RR _ _ _ _;have ho1:s1.heap.get? s.heap.objs.size=Fa {cls:=.type "list",data:=.seq us.toArray k}:=(I1.pin (s.heap.objs.size,{cls:=.type "list",data:=.seq us.toArray k}) (by simp)).1;obtain⟨m,hnC,_⟩:=id I1.loc;refine WC _ _ s1 (upd H' s.heap.objs.size (.lst ys)) m YJ (by rw[pZ (dG hDC)];exact I1.free) hnC ?_ (q _ hD');have nD:∀b o,s.heap.get? b=Fa o->b≠s.heap.objs.size:=λb o e=>(Y3 b (dv e)).2;have hD0:H s.heap.objs.size=Db:=I.mQ.fresh (cZ _);refine I.oV (s':=s1) (ch:=fp) I1.os ⟨λb o e n1 n2 n3=>?_,λb o e n1 n2 n3=>?_,λb o e n1 n2=>?_,λb o e n1=>?_,λb xs e=>?_,λb o u e=>?_,λb ps e=>?_⟩ (λb u e=>?_) I1.bare λb hb=>⟨(hf b hb).2.2.2.1,(hf b hb).2.1,(hf b hb).2.2.2.2.1,(hf b hb).2.2.2.2.2⟩
   .exact I1.base.keep b o e n1 n2 n3
   .exact I1.base.slot b o e n1 n2 n3
   .rw[pZ (nD b o e)];exact I1.base.free b o e n1 n2
   .exact I1.base.there b o e n1
   .rw[pZ (qP e hD0)];exact I1.base.nC b xs e
   .rw[pZ (qP e hD0)];exact I1.base.nu b o u e
   .obtain⟨more,z⟩:=I1.base.nI b ps e;exact⟨more,by rw[pZ (qP e hD0)];exact z⟩
   .by_cases hb:b=s.heap.objs.size
    .subst hb;rw[qh]at e;cases e;exact⟨hz,us,k,rv',ho1⟩
    .rw[pZ hb]at e;exact(I1.mQ b u e).nk (λc v _ z=>z) (λc z=>by rw[pZ (qP z hD')];exact z) (λc xs z=>by rw[pZ (qP z hD')];exact z)
  .refine d9 (T.item (X.comp scope N' H2.objs.size s H fp) Z' Z' Z' hc i _ s' σ' H' (λ_ _=>False) IpD (XJ fr' pfp) XW go) (λr s1 ⟨v,hr,h4⟩=>?_) λ_ _ z=>z;subst hr;show pi _ _ (ZU tg (.ref it) v) _ _ s1;refine d9 h4 (λ_ s2 zz=>?_) λ_ _ z=>z;obtain⟨x,H5,I5,r5,y5,Y0,fr5⟩:=zz;have I5':=I5.pinned (XJ fr5 pfp) (T.obj _ _ Y0);refine d9 (hg H2.objs.size s H fp _ s2 σ' H5 x v _ I5' r5 (step x H5 y5)) (λ_ s3 ⟨σ6,H6,I6,q6⟩=>?_) λ_ _ z=>z;refine d9 (ht H2.objs.size s H fp _ s3 σ6 H6 _ I6 q6) (λok s4 ⟨H7,I7,q7⟩=>?_) λ_ _ z=>z;have Y4:∀{σ7:St} {H7:Hp} {s7:Sd},Inv (X.comp scope N' H2.objs.size s H fp) (X.pn++Wx++[(s.heap.objs.size,{cls:=.type "list",data:=.seq us.toArray k})]++Cy fp s2.heap) σ7 H7 s7->
     tn (i+1) s7.heap/\(∀b∈fp,H7 b=Db)/\H7 s.heap.objs.size=Db/\s7.heap.get? s.heap.objs.size=Fa {cls:=.type "list",data:=.seq us.toArray k}:=λ{σ7 H7 s7} K7=>by
    have pd:=K7.pin (s.heap.objs.size,{cls:=.type "list",data:=.seq us.toArray k}) (by simp);refine⟨T.keep _ _ _ Y0 λb hb o e=>(K7.pin (b,o) (eC _ (eC _ (vn hb e)))).1,λb hb=>?_,pd.2.1,pd.1⟩;obtain⟨o,e,d⟩:=T.obj _ _ Y0 b hb;exact(K7.pin (b,o) (eC _ (eC _ (vn hb e)))).2.1
   cases ok with
   | false=>rw[cV dh]at q7 ⊢;obtain⟨m',hm,w7⟩:=q7;obtain⟨t7,f7,d7,o7⟩:=Y4 I7;exact⟨m',hm,i+1,ys,us,k,σ6,H7,I7.mZ.mZ,t7,f7,d7,o7,rv',hz',w7⟩
   | true=>
    rw[cX Z']at q7 ⊢;refine d9 (he H2.objs.size s H fp _ s4 σ6 H7 _ I7 q7) (λyv s5 ⟨y,H8,I8,r8,m',hm,w8⟩=>?_) λ_ _ z=>⟨_,_,λb hb=>(by
     obtain⟨o,e,_⟩:=T.obj _ _ Y0 b hb;exact⟨o,eC _ (vn hb e)⟩),z⟩
    obtain⟨t8,f8,d8,o8⟩:=Y4 I8;have hsz:us.toArray.size<=Ch:=by rw[dg,<-rv'.length];exact hz'
    refine append_at (hsz:=hsz) o8 λh' sb od=>?_;refine⟨m',hm,i+1,ys++[y],us++[yv],k+1,σ6,H8,?_,T.keep _ _ _ t8 λb hb o e=>(sb.2 b λq=>dfp (q ▸ hb)).trans e,f8,d8,?_,rv'.append (.cons r8 .nil),?_,w8⟩
    .exact I8.mZ.mZ.turned (it:=s.heap.objs.size) (t':=s5.toks) (λb o hb e=>(sb.2 b hb).trans e) d8 hDC (.inr (cZ _)) cellD (by simpa using pinD)
    .rw[od,List.push_toArray]
    .rw[cT,dM];exact hz
 exact codeAny_compStart_list (loop _ Z') (T.self _ 0 _ _ _ (T.keep _ _ _ st λb _ o e=>Xg b o e) (loop _ Z'))
def Inv.letGo{C:Uf}(I:Inv X Wx Y H s)(I':Inv X Wx σ' H' s')(hC:s.heap.objs.size<=C)(hn:H' C=Db)(hs:Heap.SameBut C s'.heap h'):Inv X Wx σ' H' {s' with heap:=h'}:=
 I'.turned (t':=s'.toks) (it:=C) (λb o hb e=>(hs.2 b hb).trans e) hn (λz=>absurd (dE I.lt hC) (by rw[z];exact eN _)) (.inr (dY I.sz hC))
  (λx c e z=>by
   obtain⟨v,r⟩:=I.cell x c e;exact absurd (dE r.lt hC) (by rw[z];exact eN _))
  (λp hp z=>absurd (dE (dv (I.pin p hp).1) hC) (by rw[z];exact eN _))
def NZ(hc:X.calm=pc)(S:sm X scope ix N')(hi:PI X tg iter wi)(hg:∀C s0 H0 ex,PG (X.comp scope N' C s0 H0 ex) tg g)(ht:∀C s0 H0 ex,PF (X.comp scope N' C s0 H0 ex) W8 tt)(he:∀C s0 H0 ex,PE (X.comp scope N' C s0 H0 ex) Xn te) (hs:∀x,ZM iter X.env x=pure x:=by intro _;rfl):PE X (.ListComp Xn [⟨tg,iter,W8,0⟩] scope pos) (Mo ix wi g tt te):=by
 intro Wx s Y H Q I h;rw[eval_ListComp];refine jJ (use:=none) Z' hs (yC (S.cells I.ok)) S.kind S.nam (d9 (hi Wx s Y H _ I h) (λxv s₁ h₁=>d9 h₁ (λitv s₂ h₂=>?_) λ_ _ e=>e) λ_ _ e=>e);obtain⟨it,fp,tn,J,H2,e,I2,T,WW,f2,hw⟩:=h₂;subst e;refine Ci (RR:=λacc C=>compPost (Tk X.prog X.w) X.A X.xe Db (EP X Wx Y Q) acc C) hc S I2 T WW f2 hg ht (XP:=λ_ _ _ _ _ _ _ _=>False) he (λ_ _ _ _ _ z=>by obtain⟨_,_,_,z⟩:=z;exact z.elim) hw λD C s' H' m hCs hCn hn I3 q=>?_;exact⟨m,hn,λh' Y5=>⟨.ref D,_,I2.letGo I3 hCs hCn Y5,Z',q⟩⟩
def HL{i:Nat}{x:Str}{px Yk:Pos}(hN:X.N.Nodup)(YK:X.N[i]?=Fa x)(hx:KI X.env.scope x)(hc:X.calm=pc)(S:sm X scope ix N')(hi:PI X tg iter wi)(hg:∀C s0 H0 ex,PG (X.comp scope N' C s0 H0 ex) tg g)(ht:∀C s0 H0 ex,PF (X.comp scope N' C s0 H0 ex) W8 tt) (he:∀C s0 H0 ex,PE (X.comp scope N' C s0 H0 ex) Xn te) (X4:ZB (.ListComp Xn [⟨tg,iter,W8,0⟩] scope pos) (Fa (.Name x px)) Yk.line X.env=pure pc) (hf:KJ X x:=by first|exact .inl Z'|exact .inr Z'|assumption) (hs:∀x,ZM iter X.env x=pure x:=by intro _;rfl):
  PS X (.Assign [.Name x px] (.ListComp Xn [⟨tg,iter,W8,0⟩] scope pos) Yk) (Os (Mo ix wi g tt te) (IY i)):=by
 intro Wx s Y H D I h;rw[exec_Assign_Name_used _ _ _ _ X4];refine cR (gX (cR ?_));show pi _ X.A (do let _<-comprehension (.ListComp Xn [⟨tg,iter,W8,0⟩] scope pos) scope X.env _ (newList []) lf (wp iter X.env) (Fa (assign (.Name x px) X.env))) _ _ s;refine cR (d9 (jJ (use:=some (assign (.Name x px) X.env)) (Q:=λ_ s'=>SP X Wx D .next s') Z' hs (yC (S.cells I.ok)) S.kind S.nam
  (d9 (hi Wx s Y H _ I h) (λxv s₁ h₁=>d9 h₁ (λitv s₂ h₂=>?_) λ_ _ e=>e) λ_ _ e=>e)) (λ_ s' hq=>c9 (c9 hq)) λ_ _ e=>e)
 obtain⟨it,fp,tn,J,H2,e,I2,T,WW,f2,hw⟩:=h₂;subst e;refine Ci (RR:=λacc C=>compPost (Tk X.prog X.w) X.A X.xe (Fa (assign (.Name x px) X.env)) (λ_ s'=>SP X Wx D .next s') acc C) hc S I2 T WW f2 hg ht (XP:=λ_ _ _ _ _ _ _ _=>False) he (λ_ _ _ _ _ z=>by obtain⟨_,_,_,z⟩:=z;exact z.elim) hw λDa C s' H' m hCs hCn hn I3 q=>?_;show pi _ X.A (assign (.Name x px) X.env (.ref Da)) _ _ _;refine ly (DL I3 hN YK hx (v:=.ref Da) Z' (λs4 I4 ⟨a,sb,ha⟩=>?_) hf);have ca:C≠a:=λz=>by
  rcases ha with y|y
  .exact absurd (dE I2.lt hCs) (by rw[z,y];exact eN _)
  .obtain⟨v,r⟩:=I2.cell x a y;exact absurd (dE r.lt hCs) (by rw[z];exact eN _)
 exact⟨m,hn.sameBut sb ca,λh' Y5=>⟨_,H',I2.letGo I4 hCs hCn Y5,q⟩⟩
end
def Bd:typeLookup (.type "list") "__getattr__"=pure Db:=by rw[typeLookup_type,j9];kernel_rfl
def Ey:typeLookup (.type "list") "keys"=pure Db:=by rw[typeLookup_type,j9];kernel_rfl
section
variable {prog:Pg}{w:Wo}{A:Ar}{E:QQX}
def Ni(a:Uf)(u:Tok)(its:Array Vl)(n:Nat)(sl:Array (Option Vl)):
  Meets (Builtin.«object.__getattribute__» ⟨[.ref a,.str "keys" u],[]⟩) λA R s=>s.heap.get? a=Fa ⟨.type "list",Db,.seq its n,sl⟩/\A.handled=Db/\∀h' tk e,Heap.NewAttrErr s.heap h' e (.ref a) "keys"->R (.error (.ref e)) {s with heap:=h',toks:=tk}:=
 Meets.of_wp λprog w A R s hs=>by
  obtain⟨hp,g,d,tk,os⟩:=s;obtain⟨h1,h2,h3⟩:=hs;have hT:(⟨hp,g,d,tk,os⟩:Sd).TypeIs (.ref a) "list":=⟨_,h1,Z'⟩;have f1:=Ey;unfold Builtin.«object.__getattribute__»
  repeat (any_goals(first|assumption|wp_step))
  exact wpAny_raiseAttrError h2 h3 (attrMsg_fits (by decide+kernel) (by decide))
def EU{s:Sd}{a:Uf}{its:Array Vl}{n:Nat}{sl:Array (Option Vl)}{Q:Option Vl->Sd->Prop}(ha:s.heap.get? a=Fa ⟨.type "list",Db,.seq its n,sl⟩)(hA:A.handled=Db) (h:∀h' tk,(∀b o,s.heap.get? b=Fa o->h'.get? b=Fa o)->Q Db {s with heap:=h',toks:=tk}):pi (Tk prog w) A (getAttr? (.ref a) "keys") Q E s:=by
 obtain⟨hp,g,d,tk,os⟩:=s;have hT:(⟨hp,g,d,tk,os⟩:Sd).TypeIs (.ref a) "list":=⟨_,ha,Z'⟩;have f1:=sub_AttributeError;have f3:=io.lookup;have f4:=io.bind (.ref a);have f5:=Bd;unfold getAttr? getAttrBy? getAttrBy
 repeat (any_goals(first|assumption|((with_reducible show pi _ _ (call (Value.builtin "list.__getattribute__") _ _) _ _ _);refine jw io hT F.entry_list_ga (F.args_list_getattribute_2 _ _) (Ni a _ its n sl) ⟨ha,hA,λh' tk' e hx=>?_⟩)|wp_step))
 obtain⟨t',u',he⟩:=hx.there;show pi _ _ (getattributeRaised _ _ _ _ _ _ _) _ _ _;unfold getattributeRaised
 repeat (any_goals(first|assumption|wp_step))
 all_goals first|exact h _ _ hx.keeps|skip
end
def Ay:entryFor table "dict.update.loop"=Fa Builtin.«dict.update.loop»:=entryFor_of_tree (by kernel_rfl)
def vK:plainId "dict.update.loop"=pc:=by decide+kernel
section
variable {prog:Pg}{w:Wo}{A:Ar}{E:QQX}{R:Result→Sd→Prop}{κ:Type}[DecidableEq κ]{knd:PySem.KeyKind prog w κ}
 {I:Uf} {fp wr:QXQ} {G:Array GenState->Array GenState->Prop} {P:Nat->Vl->Prop} {St:Nat->Sd->Prop}
def Oo{s:Sd}{t:Uf}{x y:Vl}{Q:T0 Vl->Sd->Prop}(h:s.heap.IsTuple t #[x,y])(q:Q [x,y] s):pi (Tk prog w) A (Builtin.Dict.pairItems (.ref t)) Q E s:=by
 obtain⟨⟨oc,od,oda,Xr⟩,h1,h2,n,h3⟩:=h;simp only at h2 h3;subst h2 h3;have hT:s.TypeIs (.ref t) "tuple":=⟨_,h1,Z'⟩;obtain⟨hp,g,d,tk,os⟩:=s;unfold Builtin.Dict.pairItems
 repeat (any_goals(first|assumption|wp_step))
def JN{all:T0 (κ×Vl)}(W:WalksS prog w A.in1 I fp wr G all.length P St)(d:Uf)(Y2:d∉fp)(kv:Nat->Vl)(tp:Nat->Uf)(hP:∀i v,P i v->v=.ref (tp i))(hw:∀j,j<all.length->tp j∉wr/\tp j≠d) (hk:∀j p,all[j]?=Fa p->knd.is p.1 (kv j)=pc) (hz:all.length<=Ch):
  ∀(k i:Nat) (z:Int) (s:Sd),all.length - i=k->i<=all.length->St i s->(∀j p,all[j]?=Fa p->s.heap.IsTuple (tp j) #[kv j,p.2])->s.heap.DictOf knd d (merged [] (all.take i))->
   (∀s',Moved (d::wr) G s s'->s'.heap.DictOf knd d (merged [] all)->R (.ok (.ret .none)) s')->XV (Tk prog w) A (.builtin "dict.update.loop" ⟨[.ref d,.ref I,.int z 0,.none],[]⟩) R s:=by
 have hdw:d∉wr:=λh=>Y2 (W.sub _ h);have YL:∀b∈wr,b∈d::wr:=λb hb=>dz _ hb;intro k;induction k with
 | zero=>
  intro i z s hk0 hi WT hT hD hR;have Yu:i=all.length:=by lia
  subst Yu;refine il Ay ?_;rw[ig vK _];show pi _ A.in1 (pyNext (.ref I)>>=_) _ _ s;refine cR (W.done s _ _ WT λs' hm=>?_);show pi _ A.in1 (Builtin.Dict.addKeywords d []>>=_) _ _ s';refine cR (c9 (c9 (hR s' (hm.mono YL) ?_)));rw[fj]at hD;obtain⟨o,es,ep,ho,rest⟩:=hD;exact⟨o,es,ep,hm.heap d _ hdw ho,rest⟩
 | succ k ih=>
  intro i z s hk0 hi WT hT hD hR;have WL:i<all.length:=by lia
  have XQ:all[i]?=Fa all[i]:=cS WL;refine il Ay ?_;rw[ig vK _];show pi _ A.in1 (pyNext (.ref I)>>=_) _ _ s;refine cR (W.item i s _ _ WL WT λv s' hPv Zn hm=>?_);obtain rfl:=hP i v hPv;have hT':∀j p,all[j]?=Fa p->s'.heap.IsTuple (tp j) #[kv j,p.2]:=λj p e=>by obtain⟨o,h1,h2⟩:=hT j p e;exact⟨o,hm.heap _ _ (hw j (cU.mp e).1).1 h1,h2⟩
  have hD':s'.heap.DictOf knd d (merged [] (all.take i)):=by obtain⟨o,es,ep,ho,rest⟩:=hD;exact⟨o,es,ep,hm.heap d _ hdw ho,rest⟩
  show pi _ A.in1 (TD [Value.ref (tp i)] _>>=_) _ _ s';refine cR (eB (cR (wpAny_tryCatch (Oo (hT' i _ XQ) ?_))));show pi _ A.in1 (TD [kv i,all[i].2] (dictSet d (kv i) all[i].2)) _ _ s';refine eB ?_;unfold dictSet;refine eB (cR (knd.pyHash (hk i _ XQ) ?_));have hl:(merged [] (all.take i)).length<=Ch:=by have:=merged_length_le [] (all.take i);rw[fC]at this;simp only[dF]at this;lia
  refine wpAny_dictSetHashed_pairs (hsz:=hl) (hk i _ XQ) hD' λh' dd hs=>?_;rw[<-merged_take_succ [] all i _ XQ]at dd;refine c9 ⟨kC vK _,ih (i+1) _ _ (by lia) WL (W.frame _ s' _ _ Zn (hW _) λb hb o e=>?_) (λj p e=>?_) dd λZi Zo hD''=>?_⟩
  .rw[hs.2 b (λz:b=d=>Y2 (z ▸ hb))];exact e
  .obtain⟨o,h1,h2⟩:=hT' j p e;refine⟨o,?_,h2⟩;show h'.get? (tp j)=Fa o;rw[hs.2 _ (hw j (cU.mp e).1).2];exact h1
  .refine hR Zi (mD W.gtrans ((hm.mono YL).then_heap (hW _) λb o hb e=>?_) Zo) hD'';rw[hs.2 b (λz:b=d=>hb (by rw[z];exact dI))];exact e
end
section
variable {prog:Pg}{w:Wo}{A:Ar}{E:QQX}{κ:Type}[DecidableEq κ]{knd:PySem.KeyKind prog w κ}{s:Sd}
def AN{l:Uf}{its:Array Vl}{n:Nat}{sl:Array (Option Vl)}{all:T0 (κ×Vl)}{Q:QQX}(kv:Nat->Vl)(tp:Nat->Uf)(hh:A.handled=Db)(hl:s.heap.get? l=Fa ⟨.type "list",Db,.seq its n,sl⟩) (hits:∀(j:Nat) (v:Vl),its[j]?=Fa v->v=.ref (tp j)) (WD:its.size=all.length) (hT:∀j p,all[j]?=Fa p->s.heap.IsTuple (tp j) #[kv j,p.2]) (hk:∀j p,all[j]?=Fa p->knd.is p.1 (kv j)=pc) (hz:all.length<=Ch) (h:∀h' tk,h'.DictOf knd s.heap.objs.size (merged [] all)->(∀b o,s.heap.get? b=Fa o->h'.get? b=Fa o)->Q (.ref s.heap.objs.size) {s with heap:=h',toks:=tk}):
  pi (Tk prog w) A (call (.type "dict") [.ref l]) Q E s:=by
 refine callType_codes (Q₁:=λobj s₁=>obj=Value.ref s.heap.objs.size/\s₁={s with heap:=s.heap.push {cls:=.type "dict",data:=.dict #[]}}) PySem.F.kt_called_dict (PySem.F.kt_typeCall_dict_1 _) F.entry_dict_init (kt_code_dict_new _ ⟨Z',Z'⟩) ?_
 rintro obj s₁ ⟨rfl,rfl⟩
 have Yh:(s.heap.push {cls:=.type "dict",data:=.dict #[]}).DictOf knd s.heap.objs.size []:=Heap.DictOf.new s.heap;have hl':(s.heap.push {cls:=.type "dict",data:=.dict #[]}).get? l=Fa ⟨.type "list",Db,.seq its n,sl⟩:=cW _ hl;have hTl:Shared.TypeIs {s with heap:=s.heap.push {cls:=.type "dict",data:=.dict #[]}} (.ref l) "list":=⟨_,hl',Z'⟩;have lsz:l<s.heap.objs.size:=dv hl;refine⟨Yh.typeIs,F.args_dict_init_2 _ _,?_⟩;unfold Builtin.«dict.__init__»;refine cR ?_;unfold Builtin.Dict.selfAndRest;refine cR (wpAny_notOrdered_dict Yh.typeIs ?_);show pi _ _ (pure (s.heap.objs.size,[Value.ref l])) _ _ _;refine c9 ?_;show pi _ _ (Builtin.Dict.updateFrom "dict.__init__" s.heap.objs.size (.ref l) [] .none) _ _ _;unfold Builtin.Dict.updateFrom;refine cR (jG hTl ?_);rw[cX (by decide)];refine cR (EU hl' (by simpa using hh) λh' tk keep=>?_);have hl2:h'.IsList l its:=⟨_,keep _ _ hl',Z',n,Z'⟩;show pi _ _ (rule _>>=_) _ _ _;refine cR (kr (cR (gH hl2 ?_)));have nd:h'.objs.size>s.heap.objs.size:=by have z:h'.get? s.heap.objs.size=Fa _:=keep _ _ (dC _ Z');exact dv z
 have hDn:h'.DictOf knd s.heap.objs.size []:=by obtain⟨o,es,ep,ho,rest⟩:=Yh;exact⟨o,es,ep,keep _ _ ho,rest⟩
 have hTs:∀j p,all[j]?=Fa p->h'.IsTuple (tp j) #[kv j,p.2]:=λj p e=>by obtain⟨o,h1,h2⟩:=hT j p e;exact⟨o,keep _ _ (cW _ h1),h2⟩
 have WR:l≠h'.objs.size:=dJ (jI lsz nd);have W:=(kt (prog:=prog) (w:=w) (A:=A.in1.in1) (by simpa using hh) h'.objs.size l WR its).toS;rw[WD]at W;refine c9 ⟨kC vK _,JN (A:=A.in1) W s.heap.objs.size ?_ kv tp (λi v e=>hits i v e) (λj hj=>?_) hk hz all.length 0 0 _ (by lia) (eU _) ⟨⟨_,dC _ Z',Z',Z'⟩,hl2.push _⟩ (λj p e=>(hTs j p e).push _) ?_ λs' hm hD=>?_⟩
 .simp only[de,dA,e9,fM];exact⟨dJ nd,ib lsz⟩
 .have hj':all[j]?=Fa all[j]:=cS hj;obtain⟨o,h1,_⟩:=hT j _ hj';have tsz:=dv h1;simp only[de,dA,e9];exact⟨dJ (jI tsz nd),dJ tsz⟩
 .obtain⟨o,es,ep,ho,rest⟩:=hDn;exact⟨o,es,ep,cW _ ho,rest⟩
 .obtain⟨h2,g2,d2,t2,o2⟩:=s';have eg:g2=s.gens:=hm.gens;have ed:d2=s.drawn:=hm.drawn;have eo:o2=s.os:=hm.os;subst eg ed eo;refine⟨Z',h h2 t2 hD λb o e=>?_⟩;have hb:=dv e;refine hm.heap b o ?_ (cW _ (keep _ _ (cW _ e)));simp only[de,dA,e9,fM];exact⟨dJ hb,dJ (jI hb nd)⟩
end
noncomputable def tJ{κ:Type}[DecidableEq κ](l:List κ):List κ:=l.foldl (λacc k=>if k∈acc then acc else acc++[k]) []
def ye{κ:Type}[DecidableEq κ](l:List κ)(k:κ):tJ (l++[k])=if k∈tJ l then tJ l else tJ l++[k]:=by unfold tJ;rw[js];rfl
def Jr{κ:Type}[DecidableEq κ]:∀l:List κ,(tJ l).length<=l.length:=by
 have go:∀(l acc:List κ),(l.foldl (λacc k=>if k∈acc then acc else acc++[k]) acc).length<=acc.length+l.length:=by
  intro l;induction l with
  | nil=>intro acc;simp
  | cons k r ih=>
   intro acc;rw[fU];refine dY (ih _) ?_;split
   .simp only[dS];lia
   .simp only[dS,cT,dF];lia
 intro l;have:=go l []
 simpa [tJ]using this
def L8{κ:Type}[DecidableEq κ](x:κ):∀l:List κ,x∈tJ l↔x∈l:=by
 have go:∀(l acc:List κ),x∈l.foldl (λacc k=>if k∈acc then acc else acc++[k]) acc↔x∈acc\/x∈l:=by
  intro l;induction l with
  | nil=>intro acc;simp
  | cons k r ih=>
   intro acc;rw[fU,ih];by_cases h:k∈acc
   .rw[cX h,de];constructor
    .rintro (z|z)
     .exact .inl z
     .exact .inr (.inr z)
    .rintro (z|z|z)
     .exact .inl z
     .subst z;exact .inl h
     .exact .inr z
   .rw[cV h,dR,df,de,or_assoc]
 intro l;have:=go l []
 simpa [tJ]using this
def yT{κ:Type}[DecidableEq κ]:∀l:List κ,l.Nodup->tJ l=l:=by
 have go:∀(l acc:List κ),(acc++l).Nodup->l.foldl (λacc k=>if k∈acc then acc else acc++[k]) acc=acc++l:=by
  intro l;induction l with
  | nil=>intro acc _;simp
  | cons k r ih=>
   intro acc h;have hk:k∉acc:=λz=>by rw[fm]at h;exact h.2.2 k z k dI Z'
   rw[fU,cV hk,ih]
   .rw[eh];rfl
   .rw[eh];exact h
 intro l h;have:=go l [] (by simpa using h)
 simpa [tJ]using this
section
variable {prog:Pg}{w:Wo}{A:Ar}{E:QQX}{R:Result→Sd→Prop}{κ:Type}[DecidableEq κ][BEq κ][LawfulBEq κ]{knd:PySem.KeyKind prog w κ}
 {I:Uf} {fp wr:QXQ} {G:Array GenState->Array GenState->Prop} {P:Nat->Vl->Prop} {St:Nat->Sd->Prop}
def GD{all:List κ}(W:WalksS prog w A.in1 I fp wr G all.length P St)(S:Uf)(hSf:S∉fp)(hval:∀i v k,P i v->all[i]?=Fa k->knd.is k v=pc/\v.scannable=pc)(hb:all.length+1<ZV):
  ∀(n i:Nat) (s:Sd),all.length - i=n->i<=all.length->St i s->s.heap.SetOf knd S (λx=>decide (x∈tJ (all.take i))) (tJ (all.take i)).length->
   (∀s',Moved (S::wr) G s s'->s'.heap.SetOf knd S (λx=>decide (x∈tJ all)) (tJ all).length->R (.ok (.ret .none)) s')->XV (Tk prog w) A (.builtin "set.update.loop" ⟨[.ref S,.ref I],[]⟩) R s:=by
 have hSw:S∉wr:=λh=>hSf (W.sub _ h);have up:∀b∈wr,b∈S::wr:=λb hb=>dz _ hb;have kept:∀{s s':Sd} {T:κ->Bool} {m:Nat},Moved wr G s s'->s.heap.SetOf knd S T m->s'.heap.SetOf knd S T m:=λhm ⟨o,es,ep,t,ho,rest⟩=>⟨o,es,ep,t,hm.heap S _ hSw ho,rest⟩;intro n;induction n with
 | zero=>
  intro i s h0 hi WT hS hR;obtain rfl:i=all.length:=by lia
  refine il ip ?_;rw[ig gz _];rw[fj]at hS;exact cR (W.done s _ _ WT λs' hm=>c9 (hR s' (hm.mono up) (kept hm hS)))
 | succ n ih=>
  intro i s h0 hi WT hS hR;have WL:i<all.length:=by lia
  have XQ:all[i]?=Fa all[i]:=cS WL;refine il ip ?_;rw[ig gz _];refine cR (W.item i s _ _ WL WT λv s' hP Zn hm=>?_);obtain⟨k1,k2⟩:=hval i v _ hP XQ;have Yl:=kept hm hS;show pi _ A.in1 (TD [v] (setAdd S v)>>=_) _ _ s';refine cR (eB ?_);unfold setAdd;refine eB (cR (knd.pyHash k1 ?_));have room:(tJ (all.take i)).length+1<ZV:=by have h1:=Jr (all.take i);rw[fC]at h1;lia
  refine wpAny_setAddHashed_of (knd:=knd) (s:={s' with toks:=s'.toks+1}) k1 k2 Yl room λh' hsb hS2=>?_;have et:all.take (i+1)=all.take i++[all[i]]:=by rw[fS,XQ];rfl
  have hSi:h'.SetOf knd S (λx=>decide (x∈tJ (all.take (i+1)))) (tJ (all.take (i+1))).length:=by
   refine jK hS2 (λx=>?_) ?_
   .rw[et];by_cases Wz:all[i]∈tJ (all.take i)
    .rw[ye,cX Wz];by_cases hx:x=all[i]
     .subst hx;simp[Wz]
     .simp[hx]
    .rw[ye,cV Wz];by_cases hx:x=all[i]
     .subst hx;simp
     .simp[hx]
   .rw[et,ye];by_cases Wz:all[i]∈tJ (all.take i)
    .rw[cX Wz];simp[Wz]
    .rw[cV Wz];simp[Wz]
  refine c9 ⟨kC gz _,ih (i+1) _ (by lia) WL (W.frame _ s' _ _ Zn (hW _) λb hb o e=>?_) hSi λZi Zo hS''=>?_⟩
  .rw[hsb.2 b (λz:b=S=>hSf (z ▸ hb))];exact e
  .refine hR Zi (mD W.gtrans ((hm.mono up).then_heap (hW _) λb o hb e=>?_) Zo) hS'';rw[hsb.2 b (λz:b=S=>hb (by rw[z];exact dI))];exact e
end
def CZ:isSubtype (.type "tuple") (.type "set")=pure lf:=by rw[ja];kernel_rfl
def Ah:isSubtype (.type "tuple") (.type "frozenset")=pure lf:=by rw[ja];kernel_rfl
def EK:isSubtype (.type "list") (.type "set")=pure lf:=by rw[ja];kernel_rfl
def AV:isSubtype (.type "list") (.type "frozenset")=pure lf:=by rw[ja];kernel_rfl
section
variable {prog:Pg}{w:Wo}{A:Ar}{E:QQX}{κ:Type}[DecidableEq κ][BEq κ][LawfulBEq κ]{knd:PySem.KeyKind prog w κ}{s:Sd}
set_option maxHeartbeats 4000000 in
def zp{l:Uf}{Wy:Array Vl}{all:List κ}{Q:QQX}(hh:A.handled=Db)(hl:s.heap.IsList l Wy\/s.heap.IsTuple l Wy)(hn:Wy.size=all.length)(hi:∀(i:Nat) (v:Vl) (k:κ),Wy[i]?=Fa v->all[i]?=Fa k->knd.is k v=pc/\v.scannable=pc)(hb:all.length+1<ZV) (h:∀(h':Go) (tk:Nat),h'.SetOf knd s.heap.objs.size (λx=>decide (x∈tJ all)) (tJ all).length->(∀b o,s.heap.get? b=Fa o->h'.get? b=Fa o)->Q (.ref s.heap.objs.size) {s with heap:=h',toks:=tk}):
  pi (Tk prog w) A (call (.type "set") [.ref l]) Q E s:=by
 obtain⟨c,tl,hmro⟩:=gN.mro;have hmade:=gN.made;have YL:=gN.sub;refine iz (codeAny_of_tree ?_);show pi _ _ (callAny (.type "set") _) _ _ _;refine c9 ⟨jh _ (by decide+kernel),il F.entry_type_call ?_⟩;rw[Around.under_plain (weight_type_call_type "set" [.ref l] []) Z'];have h1:=gN.notType;have h2:=gN.canCreate;have hct:=F.typeCall_set_1 (.ref l)
 repeat (any_goals(first|assumption|wp_step))
 have fresh:∀X5:Bool,(s.heap.push {cls:=.type "set",dict:=none,data:=.set #[] 0 (.fresh 0 0 X5)}).get? s.heap.objs.size=Fa {cls:=.type "set",dict:=none,data:=.set #[] 0 (.fresh 0 0 X5)}:=λX5=>dC _ Z';refine gM (code_set_new_1 (.ref l) (E:=E) (Q₁:=λobj s₁=>∃X5:Bool,obj=Value.ref s.heap.objs.size/\s₁={s with heap:=s.heap.push {cls:=.type "set",dict:=none,data:=.set #[] 0 (.fresh 0 0 X5)}}) λX5=>⟨X5,Z',Z'⟩) λr s₁ hr=>?_;cases r with
 | error e=>exact hr
 | ok fl=>
  cases fl with
  | ret obj=>
   obtain⟨X5,rfl,rfl⟩:=hr;have hS:=fresh X5;have hT:Shared.TypeIs {s with heap:=s.heap.push {cls:=.type "set",dict:=none,data:=.set #[] 0 (.fresh 0 0 X5)}} (.ref s.heap.objs.size) "set":=⟨_,hS,Z'⟩;have hli:=gN.init.lookup;have hbi:=gN.init.bind (.ref s.heap.objs.size)
   repeat (any_goals(first|assumption|wp_step))
   refine gM (iO (R:=wants (λr s₂=>r=.none/\∃h' tk,s₂={s with heap:=h',toks:=tk}/\h'.SetOf knd s.heap.objs.size (λx=>decide (x∈tJ all)) (tJ all).length/\(∀b o,s.heap.get? b=Fa o->h'.get? b=Fa o)) E) gN.init.plain F.entry_set_init (check_set_init_1 hT ?_)) λr₂ s₂ hr₂=>?_
   .rcases hl with⟨ol,hol,hcl,nl,hdl⟩|⟨ol,hol,hcl,nl,hdl⟩
    all_goals
     obtain⟨ocls,odict,odata,oslots⟩:=ol;simp only at hcl hdl;subst hcl;subst hdl;have YM:=cW {cls:=.type "set",dict:=none,data:=.set #[] 0 (.fresh 0 0 X5)} hol;have hsls:=EK;have hslf:=AV;have htls:=CZ;have htlf:=Ah;have hnd:(Value.type "list"==Value.type "dict")=lf:=by decide
     have hnt:(Value.type "tuple"==Value.type "dict")=lf:=by decide
     unfold Builtin.«set.__init__» noKeywords Builtin.Frozenset.updateFrom;generalize hPI:pyIter=PI
     wp_walk
     subst hPI
     first|refine gH ⟨_,YM,Z',nl,Z'⟩ ?_|refine iq ⟨_,YM,Z',nl,Z'⟩ ?_
     refine cR (wpAny_runValue ?_);have lS:l<s.heap.objs.size:=dv hol;have hh3:A.in1.in1.in1.handled=Db:=by simp[hh]
     have lI:l≠(s.heap.push {cls:=.type "set",dict:=none,data:=.set #[] 0 (.fresh 0 0 X5)}).objs.size:=by rw[fJ];exact dJ (jr lS)
     first
     | refine GD (hn ▸ (kt (prog:=prog) (w:=w) hh3 _ l lI Wy).toS) s.heap.objs.size ?hf (λi v k e1 e2=>hi i v k e1 e2) hb all.length 0 _ (by lia) (eU _) ⟨⟨_,dC _ rfl,rfl,rfl⟩,_,cW _ YM,rfl,nl,rfl⟩ ?h0 ?hR
     | refine GD (hn ▸ (Walks.tuple (prog:=prog) (w:=w) hh3 _ l lI Wy).toS) s.heap.objs.size ?hf (λi v k e1 e2=>hi i v k e1 e2) hb all.length 0 _ (by lia) (eU _) ⟨⟨_,dC _ rfl,rfl,rfl⟩,_,cW _ YM,rfl,nl,rfl⟩ ?h0 ?hR
     case hf=>rw[fJ];simp only[de,dA,e9,fM];exact⟨dJ (fB _),ib lS⟩
     case h0=>exact jK ((PyProof.Rows.setObjOf_fresh (knd:=knd) X5).setOf (cW _ hS) (by unfold ZV;lia)) (λ_=>rfl) Z'
     case hR=>intro s' hm Yl;obtain⟨h',g',d',tk',os'⟩:=s';have eg:g'=s.gens:=hm.gens;have ed:d'=s.drawn:=hm.drawn;have eo:os'=s.os:=hm.os;subst eg;subst ed;subst eo;refine c9 ?_;show pi _ _ (ret Value.none) _ _ _;refine c9 ⟨Z',h',tk',Z',Yl,λb o e=>?_⟩;have hb:=dv e;refine hm.heap b o ?_ (cW _ (cW _ e));rw[fJ];simp only[de,dA,e9,fM];exact⟨dJ hb,dJ (jr hb)⟩
   .cases r₂ with
    | error e=>exact hr₂
    | ok fl₂=>
     cases fl₂ with
     | ret r=>
      obtain⟨rfl,h',tk,rfl,Yl,hk'⟩:=hr₂
      repeat (any_goals(first|assumption|wp_step))
      exact h _ _ Yl hk'
     | _=>exact hr₂.elim
  | _=>exact hr.elim
end
end L2
namespace HT
open PySem PyProof.Rows
variable {prog:Pg}{w:Wo}{A:Ar}{E:QQX}{s:Sd}
def zC{t sl:Uf}{vl vu:Vl}{lo hi:Option Int}{Q:QQX}(ht:IsTup s.heap t Wy)(hs:s.heap.IsSliceOf sl vl vu .none)(pl:IsPart vl lo)(pu:IsPart vu hi) (hw:sX Wy.size 0 lo=0/\sX Wy.size Wy.size hi=Wy.size) (h:Q (.ref t) s):pi (Tk prog w) A (wT (.ref t) (.ref sl)) Q E s:=by
 obtain⟨os,Zj,Y1,XM⟩:=id hs;have hTs:s.TypeIs (.ref sl) "slice":=⟨os,Zj,Y1⟩;unfold wT
 try with_reducible refine eB ?_
 first|refine cR (c9 ?_)|skip
 refine cR (jp ht.typeIs (by decide) ?_);refine cR (fG (name:=Str.ofString "__getitem__") ht.typeIs fu (gc fu ht.typeIs kF ?_ (kX _ _)));show pi _ _ (Builtin.Tuple.tupleItemsOf (.ref t)>>=_) _ _ s;refine cR (tupleItemsOf_ ht ?_);refine cR (jG hTs ?_);rw[cX (by decide)];refine cR (wu hs pl pu ?_);have yes:(((sX Wy.size 0 lo:Nat):Int)==0&&(1:Int)==1&&(sX Wy.size Wy.size hi - sX Wy.size 0 lo)==Wy.size)=pc:=by rw[hw.1,hw.2];simp
 show pi _ _ (if (((sX Wy.size 0 lo:Nat):Int)==0&&(1:Int)==1&&(sX Wy.size Wy.size hi - sX Wy.size 0 lo)==Wy.size)=pc then _ else _) _ _ s;rw[cX yes];have hT:=ht.typeIs;obtain⟨hp,g,d,tk,o⟩:=s
 repeat (any_goals(first|assumption|wp_step))
 exact⟨_,Z',c9 h⟩
end HT
namespace L2
variable {X:Cx}{p p2 pos Ym:Pos}{e:zn}{te:TE}
section
def VI(K:qx):V->Option Int->Option Int->Hp->VK->Prop:=λx lo hi H Q=>∃a xs,x=.ref a/\vb K H a xs/\(HT.sX xs.length 0 lo=0/\HT.sX xs.length xs.length hi=xs.length)/\Q (.ref a) H
def Rw:TN X (VI X.K):=by
 intro Wx s Y H x v vl vu lo hi sl Q I rx hs pl pu h;obtain⟨a,xs,rfl,hx,hw,q⟩:=h;cases rx;obtain⟨its,r,ht,hz⟩:=I.tuple hx;have WD:its.toArray.size=xs.length:=by rw[dg];exact r.length.symm
 exact⟨"tuple",_,fu.lookup,ht.typeIs,HT.zC ht hs pl pu (by rw[WD];exact hw) ⟨.ref a,H,I,Z',q⟩⟩
local instance (priority:=5000) keyBEq:BEq rq:=instBEqOfDecidableEq
local instance (priority:=5000) keyLaw:LawfulBEq rq:=inferInstanceAs (LawfulBEq (Sum Int Str))
def NN(K:qx)(te:TE):TE:=λY H Q=>te Y H λx H1=>∃a,∃ss:QQQ,x=.ref a/\(zb K H1 a (ss.map V.str)\/vb K H1 a (ss.map V.str))/\ss.length+1<ZV/\Q (.int (tJ ss).length) H1
def G6{ss:QQQ}(r:qF (ss.map V.str) us):us.length=ss.length/\∀(i:Nat) (v:Vl) (k:rq),us[i]?=Fa v->(ss.map λx=>(Sum.inr x:rq))[i]?=Fa k->(rP P w).is k v=pc/\v.scannable=pc:=by
 refine⟨by rw[<-r.length,cQ],λi v k e1 e2=>?_⟩;rw[dq]at e2;cases q:ss[i]? with
 | none=>rw[q]at e2;cases e2
 | some x=>rw[q]at e2;cases e2;obtain⟨u,e3,t,rfl⟩:=r.get (i:=i) (x:=V.str x) (by rw[dq,q];rfl);rw[e3]at e1;cases e1;exact⟨Az P w x t,Z'⟩
def LU{ss:QQQ}:(tJ (ss.map λx=>(Sum.inr x:rq))).length=(tJ ss).length:=by
 have go:∀(l acc:QQQ),(l.map λx=>(Sum.inr x:rq)).foldl (λacc k=>if k∈acc then acc else acc++[k]) (acc.map Sum.inr)=(l.foldl (λacc k=>if k∈acc then acc else acc++[k]) acc).map Sum.inr:=by
  intro l;induction l with
  | nil=>intro acc;rfl
  | cons k r ih=>
   intro acc;rw[dW,fU,fU];have hm:(Sum.inr k:rq)∈acc.map Sum.inr↔k∈acc:=by
    rw[dw];constructor
    .rintro ⟨y,h1,h2⟩;cases h2;exact h1
    .exact λh=>⟨k,h,Z'⟩
   by_cases h:k∈acc
   .rw[cX h,cX (hm.mpr h)];exact ih acc
   .rw[cV h,cV λz=>h (hm.mp z)];have:=ih (acc++[k]);rw[dB]at this;exact this
 have:=go ss [];unfold tJ;rw[fO]at this;rw[this,cQ]
def Km(hc:X.calm=pc)(he:PE X e te)(hg1:Gl X "len")(Wz:X.mg "len"=Db)(hg2:Gl X "set")(WO:X.mg "set"=Db)(b1:No "len"=Fa (.builtin "len"))(b2:No "set"=Fa (.type "set")) (hs:Tl [e] X.env=[(lf,wp e X.env)]:=by rfl):PE X (.Call (.Name "len" p) [.Call (.Name "set" p2) [e] [] Ym] [] pos) (NN X.K te):=by
 intro Wx s Y H Q I h;refine gg (yJ I hg1 Wz b1 ?_);refine iN ?_ Z' Z';show pi _ _ (spliced ((lf,wp (.Call (.Name "set" p2) [e] [] Ym) X.env)::sB pos (Tl [] X.env))) _ _ s;refine jf ?_;refine gg (yJ I hg2 WO b2 ?_);refine fT ?_ hs Z';rw[hs];show pi _ _ (spliced ((lf,wp e X.env)::sB Ym (Tl [] X.env))) _ _ s;refine jf (sG (he Wx s Y H _ I h) λu s1 ⟨x,H1,I1,r1,a,ss,ex,hq,hb,q⟩=>jo ?_);subst ex;obtain rfl:u=Value.ref a:=r1;have Xo:(ss.map λx=>(Sum.inr x:rq)).length+1<ZV:=by rw[cQ];exact hb
 have WC:∀(h':Go) (tk:Nat),h'.SetOf (rP X.prog X.w) s1.heap.objs.size (λx=>decide (x∈tJ (ss.map λx=>(Sum.inr x:rq)))) (tJ (ss.map λx=>(Sum.inr x:rq))).length->(∀b o,s1.heap.get? b=Fa o->h'.get? b=Fa o)->
   pi (Tk X.prog X.w) X.A (spliced (sB pos (Tl [] X.env))) (λvs s₁=>pi (Tk X.prog X.w) X.A (call (.builtin "len") (.ref s1.heap.objs.size::vs)) (EP X Wx Y Q) X.xe s₁) X.xe {s1 with heap:=h',toks:=tk}:=λh' tk hS keep=>by
  refine jo ?_;obtain⟨o,es,ep,t,ho,hex,hd,_,_,hz,hf,hn⟩:=hS;have WL:(es.size:Int)<2 ^ 63:=by have:ZV=4096:=rfl;lia
  refine call_len_set ho hex hd hf WL ?_;refine⟨.int es.size,H1,I1.kept keep,⟨_,Z'⟩,?_⟩;rw[hn,LU];exact q
 rcases hq with hq|hq
 .obtain⟨its,r,pl,hz⟩:=I1.list hq;obtain⟨k1,k2⟩:=G6 (P:=X.prog) (w:=X.w) r;exact L2.zp (knd:=rP X.prog X.w) (all:=ss.map λx=>(Sum.inr x:rq)) (I1.ok.hd hc) (.inl pl.isList) (by rw[dg,k1,cQ]) (λi v k e1 e2=>k2 i v k (by simpa using e1) e2) Xo WC
 .obtain⟨its,r,pl,hz⟩:=I1.tuple hq;obtain⟨k1,k2⟩:=G6 (P:=X.prog) (w:=X.w) r;exact L2.zp (knd:=rP X.prog X.w) (all:=ss.map λx=>(Sum.inr x:rq)) (I1.ok.hd hc) (.inr pl) (by rw[dg,k1,cQ]) (λi v k e1 e2=>k2 i v k (by simpa using e1) e2) Xo WC
end
variable {Wx:T0 (Uf × Obj)}{Y:St}{H:Hp}{s:Sd}
theorem DF(I:Inv X Wx Y H s):∀(ts:QXQ) (kvs:T0 (rq×V)),ts.length=kvs.length->(∀(j:Nat) (t:Uf) (p:rq×V),ts[j]?=Fa t->kvs[j]?=Fa p->vb X.K H t [kV p.1,p.2])->
  ∃(us:T0 Vl) (all:T0 (rq×Vl)),us.length=kvs.length/\KV kvs all/\∀(j:Nat) (t:Uf) (p:rq×Vl),ts[j]?=Fa t->all[j]?=Fa p->∃u,us[j]?=Fa u/\s.heap.IsTuple t #[u,p.2]/\(rP X.prog X.w).is p.1 u=pc
 | [],[],_,_=>⟨[],[],Z',.nil,λj t p e=>by simp at e⟩
 | [],_::_,h,_=>by simp at h
 | _::_,[],h,_=>by simp at h
 | t::ts,(k,v)::kvs,h,hq=>by
  obtain⟨us,all,h1,h2,h3⟩:=DF I ts kvs (by simpa using h) (λj t p e1 e2=>hq (j+1) t p (by simpa using e1) (by simpa using e2));obtain⟨its,r,pl,_⟩:=I.tuple (hq 0 t (k,v) (by simp) (by simp));cases r with
  | cons r1 r2=>
   cases r2 with
   | cons r3 r4=>
    cases r4;rename_i u w;refine⟨u::us,(k,w)::all,by simpa using h1,.cons ⟨Z',r3⟩ h2,λj t' p e1 e2=>?_⟩;cases j with
    | zero=>
     have e1':t=t':=by simpa using e1
     have YG:(k,w)=p:=by simpa using e2
     subst e1' YG;exact⟨u,by simp,pl,GT r1⟩
    | succ j=>simpa using h3 j t' p (by simpa using e1) (by simpa using e2)
theorem La:∀{kvs:T0 (rq×V)} {all:T0 (rq×Vl)},KV kvs all->all.map (·.1)=kvs.map (·.1)
 | _,_,.nil=>rfl
 | _,_,.cons r rs=>by rw[dW,dW,La rs,r.1]
def HA(hc:X.calm=pc):zO X (.type "dict") (λxs H Q=>∃l,∃ts:QXQ,∃kvs:T0 (rq×V),xs=[V.ref l]/\zb X.K H l (ts.map V.ref)/\ts.length=kvs.length/\
  (∀(j:Nat) (t:Uf) (p:rq×V),ts[j]?=Fa t->kvs[j]?=Fa p->vb X.K H t [kV p.1,p.2])/\(kvs.map (·.1)).Nodup/\∀d,H d=Db->Q (.ref d) (upd H d (.dK kvs))):=by
 intro Wx s Y H xs us Q I r h;obtain⟨l,ts,kvs,rfl,hl,WD,hq,hnd,q⟩:=h;obtain⟨u,rfl,ru⟩:=yA r;cases ru;obtain⟨its,rv,⟨⟨c1,d1,t1,sl1⟩,n,g1,e1,e2,e3⟩,hz⟩:=I.list hl;simp only at e1 e2 e3;subst e1 e2 e3;obtain⟨ks,all,h1,h2,h3⟩:=DF I ts kvs WD hq;have la:all.length=kvs.length:=(jm h2).symm;have li:its.length=kvs.length:=by rw[<-rv.length,cQ,WD]
 have zl:all.length<=Ch:=by rw[la,<-WD];simpa using hz
 have at_:∀(j:Nat) (p:rq×Vl),all[j]?=Fa p->∃t,ts[j]?=Fa t:=λj p e=>by have:=(cU.mp e).1;exact⟨ts[j],cS (by lia)⟩
 refine AN (knd:=rP X.prog X.w) (all:=all) (λj=>(ks[j]?).getD .none) (λj=>(ts[j]?).getD 0) (I.ok.hd hc) g1 (λj v e=>?_) (by rw[dg,li,la]) (λj p e=>?_) (λj p e=>?_) zl λh' tk hD keep=>?_
 .have e':its[j]?=Fa v:=by simpa using e
  have hj:=(cU.mp e').1;have hj2:j<ts.length:=by lia
  obtain⟨w,e4,e5⟩:=rv.get (i:=j) (x:=V.ref ts[j]) (by rw[dq,cS hj2];rfl);rw[e']at e4;cases e4;show v=Value.ref ((ts[j]?).getD 0);rw[cS hj2];exact e5
 .obtain⟨t,et⟩:=at_ j p e;obtain⟨u,e4,e5,_⟩:=h3 j t p et e;show s.heap.IsTuple ((ts[j]?).getD 0) #[(ks[j]?).getD .none,p.2];rw[et,e4];exact e5
 .obtain⟨t,et⟩:=at_ j p e;obtain⟨u,e4,_,e6⟩:=h3 j t p et e;show(rP X.prog X.w).is p.1 ((ks[j]?).getD .none)=pc;rw[e4];exact e6
 .rw[merged_nil_of_nodup all (by rw[La h2];exact hnd)]at hD;have fr:=I.mQ.fresh (cZ s.heap.objs.size);exact⟨.ref s.heap.objs.size,_,I.laid (t':=tk) (o:=.dK kvs) keep (cZ _) (MS (by rw[<-la];exact zl) (gw.mpr (dG (dJ I.big))) h2 hD),Z',q _ fr⟩
def U4:R2:=λx y H Q=>∃a v,x=.ref a/\Ei H a y (Fa v)/\Q v H
def OK(hu:X.A.units+1<ZP):S6 X U4:=by
 intro value WK Wx s Y H x y o i Q I rx ry h hs;obtain⟨a,v,rfl,g,q⟩:=h;obtain rfl:o=Value.ref a:=rx;have hT:=FZ I g;have h2:pi (Tk X.prog X.w) X.A (wT (.ref a) i) (EP X Wx Y Q) X.xe s:=JW hu I g ry λw' s3 I3 YE=>⟨v,H,I3,YE,q⟩;unfold subscriptTail;refine cR ?_;rw[kc hT.not_modules];refine cR (iP hT jx.lookup ?_);have WC:pi (Tk X.prog X.w) X.A (subscripted WK lf (.ref a) i) (λr s₃=>pi (Tk X.prog X.w) X.A (letTemporaryGo value (.ref a) r>>=λ_=>pure r) (EP X Wx Y Q) X.xe s₃) X.xe s:=by rw[hs];exact wpAny_operating (d9 h2 (λr s₃ h₃=>cR (ku (c9 h₃))) λ_ _ x=>x)
 first
  | exact c9 (cR WC)
  | exact cR (c9 (cR WC))
  | exact cR WC
def Q2(hu:X.A.units+1<ZP):xU X (Op .In) (λx y H Q=>∃a o,y=.ref a/\Ei H a x o/\Q (.bl o.isSome) H):=by intro Wx s Y H x y v u Q I rx ry h;obtain⟨a,o,rfl,g,q⟩:=h;obtain rfl:u=Value.ref a:=ry;exact Vr hu I g rx λs3 I3=>⟨.bl o.isSome,H,I3,Z',q⟩
variable {prog:Pg}{w:Wo}{A:Ar}{E:QQX}{a:Uf}{U:Type}{k:Str}{tk:Tok}
section
variable {R:U→Vl→Prop}{D:T0 (Str × U)}
def y8(T:KTD.TabOf R s.heap a D):s.TypeIs (.ref a) "dict":=let⟨_,o,_,_,ho,hc,_⟩:=T;⟨o,ho,hc.1⟩
def Je{Q:Option Vl->Sd->Prop}(T:KTD.TabOf R s.heap a D)(h1:∀d v,KTD.datumAt k D=Fa d->R d v->Q (Fa v) {s with toks:=s.toks+1})(h2:KTD.datumAt k D=Db->Q Db {s with toks:=s.toks+1}):
  pi (Tk prog w) A (dictGet a (.str k tk)) Q E s:=by
 obtain⟨_,o,es,ep,ho,hc,hd,hr⟩:=T;have hq:Q (findBy (λk v=>v.isStr k) es k) {s with toks:=s.toks+1}:=by
  have hf:findBy (λk v=>v.isStr k) es k=(es.toList.find? λe=>e.key.isStr k).map (·.val):=by obtain⟨l⟩:=es;simp[findBy]
  rw[hf];cases hat:KTD.datumAt k D with
  | none=>rw[hr.find_none hat];exact h2 hat
  | some d=>obtain⟨v,hv,hfl⟩:=hr.find_some hat;rw[hv];exact h1 d v hat hfl
 have Xe:(es.all λe=>isExactStrKey e.key)=pc:=by
  obtain⟨l⟩:=es
  simpa using hr.exact
 unfold dictGet
 try with_reducible refine eB ?_
 refine cR (lJ (cR (KTD.kt_dictFind_strs (s:={s with toks:=s.toks+1}) ho hd Xe ?_)));rw[findBy_of_findIdx?]at hq;cases hi:es.findIdx? λe=>e.key.isStr k with
 | none=>rw[hi]at hq;exact c9 hq
 | some i=>rw[hi]at hq;exact cR (wpAny_dictEntries (s:={s with toks:=s.toks+1}) ho hd (c9 hq))
def Sr{Q:QQX}(T:KTD.TabOf R s.heap a D)(h:Q (.bool (KTD.datumAt k D).isSome) {s with toks:=s.toks+1}):pi (Tk prog w) A (Op .In (.str k tk) (.ref a)) Q E s:=by
 have hT:=y8 T;show pi _ _ (do return .bool (<-contains (.ref a) (.str k tk))) Q E s;refine cR ?_;unfold contains
 try with_reducible refine eB ?_
 refine cR (iP hT ji.lookup ?_);show pi _ _ (if (Fa (Value.builtin "dict.__contains__")==Fa Value.none)=pc then _ else _) _ E s;rw[cV (by rw[beq_builtin_none];exact dh)];refine cR (wpAny_callSpecialUnlessNone?_slot (name:=Str.ofString "__contains__") hT ji (gc ji hT entry_dict_contains ?_ (args_dict_contains _ _)));show pi _ _ (dictGet a (.str k tk)>>=_) _ _ s;refine cR (Je T (λd v ha _=>?_) λhn=>?_)
 .rw[ha]at h;show pi _ _ (ret (.bool pc)) _ _ _;exact c9 ⟨_,Z',fk (c9 h)⟩
 .rw[hn]at h;show pi _ _ (Builtin.Dict.pendingKey? a (.str k tk)>>=_) _ _ _;exact cR (wpAny_pendingKey_other T.1 (c9 ⟨_,Z',fk (c9 h)⟩))
def KQ{Q:QQX}{d:U}(T:KTD.TabOf R s.heap a D)(hd:KTD.datumAt k D=Fa d)(h:∀v,R d v->Q v {s with toks:=s.toks+1}):pi (Tk prog w) A (wT (.ref a) (.str k tk)) Q E s:=by
 have hT:=y8 T;unfold wT
 try with_reducible refine eB ?_
 refine cR (jp hT (by decide) ?_);refine cR (fG (name:=Str.ofString "__getitem__") hT lD (gc lD hT entry_dict_getitem ?_ (args_dict_getitem _ _)));show pi _ _ (dictGet a (.str k tk)>>=_) _ _ s;refine cR (Je T (λd' v ha hv=>c9 ⟨v,Z',c9 (h v ?_)⟩) λhn=>?_)
 .rw[hd]at ha;cases ha;exact hv
 .rw[hd]at hn;cases hn
end
def Nk(K:qx)(mg:QQZ)(x:Str)(F:T0 (Str×QQQ)):Prop:=∃a o es ep,mg x=Fa (.ref a)/\(a==IN)=lf/\K.lookup a=Fa o/\o.ExactDict/\o.data=.dict es ep/\
 KTD.Rows (λ(ss:QQQ) v=>∃t,v=Value.ref t/\vb K (λ_=>Db) t (ss.map V.str)) es.toList F
variable {x:Str}{F:T0 (Str × QQQ)}
def Jb{K:qx}(h:vb K (λ_=>Db) t xs):vb K H t xs:=by
 rcases h with(h|⟨o,h⟩)|h
 .cases h
 .cases h
 .exact .inr h
def GR{K:qx}(T:Nk K mg x F):∃a,mg x=Fa (.ref a)/\∀h:Go,K.In h->KTD.TabOf (λ(ss:QQQ) v=>∃t,v=Value.ref t/\vb K (λ_=>Db) t (ss.map V.str)) h a F:=by obtain⟨a,o,es,ep,h1,h2,h3,h4,h5,h6⟩:=T;exact⟨a,h1,λh hk=>⟨h2,o,es,ep,hk a o h3,h4,h5,h6⟩⟩
noncomputable def Vb(x:Str):It:=⟨λi _=>i<x.cps.size,λi H v H'=>H'=H/\∃c,x.cps[i]?=Fa c/\v=.str ⟨#[c]⟩,λi _=>i=x.cps.size⟩
def Gj{K:qx}{ty:String}{x:Str}{t:Tok}(it:Uf)(W:∀A':Ar,A'.handled=Db->Walks P w A' it [it] [it] x.cps.size (SignAt x) (λi h=>h.IsStrIter it ty x t i)) (hself:∀(A:Ar) (i:Nat) (s:Sd) (Q:QQX) (E:QQX),s.heap.IsStrIter it ty x t i->Q (.ref it) s->pi (Tk P w) A (pyIter (.ref it)) Q E s) (hn:["enumerate","zip","dict_itemiterator","dict_reverseitemiterator","odict_iterator","itertools.zip_longest","itertools.pairwise"].contains ty=lf):Gn P w K tg (Vb x) [it] it (λi h=>h.IsStrIter it ty x t i) where
 mem:=by simp
 obj:=λi h st b hb=>by
  obtain rfl:b=it:=by simpa using hb
  obtain⟨o,e,c,d⟩:=st;exact⟨o,e,λv z=>by rw[d]at z;cases z⟩
 keep:=λi h h' st k=>by obtain⟨o,e,r⟩:=st;exact⟨o,k it (by simp) o e,r⟩
 item:=by intro X hP hw hK hc i Wx s Y H E I hf st hg;subst hP hw hK;obtain⟨f0,f1,f2,f3,f4,f5⟩:=hf it (by simp);refine(W X.A (I.ok.hd hc)).item i s _ _ hg st λv h' tk hv XW kp=>?_;obtain⟨c,u,e1,e2⟩:=hv;have I1:Inv X Wx Y H {s with heap:=h',toks:=tk}:=I.turned (t':=tk) (λb o hb e=>kp b o (by simpa using hb) e) f0 f1 f3 f4 f5;obtain⟨o,e,cl,d⟩:=id XW;exact⟨v,Z',Jd (s:={s with heap:=h',toks:=tk}) e cl d hn ⟨.str ⟨#[c]⟩,H,I1,⟨u,e2⟩,⟨Z',c,e1,Z'⟩,XW,λb hb=>(hf b hb).1⟩⟩
 done:=by intro X hP hw hK hc i Wx s Y H E I hf st hg;subst hP hw hK;obtain⟨f0,f1,f2,f3,f4,f5⟩:=hf it (by simp);obtain rfl:i=x.cps.size:=hg;exact(W X.A (I.ok.hd hc)).done s _ _ st λh' tk kp=>⟨Z',I.turned (t':=tk) (λb o hb e=>kp b o (by simpa using hb) e) f0 f1 f3 f4 f5⟩
 self:=hself
variable {tg:zn}
def O0(hc:X.calm=pc)(hl:PE X l tl):PI X tg l (λY H R=>tl Y H λx H1=>(∃a,x=.ref a/\(((∃xs,zb X.K H1 a xs)/\R (UR X.K a) H1)\/((∃xs,vb X.K H1 a xs)/\R (Vg X.K a) H1)))\/∃z,x=.str z/\R (Vb z) H1):=by
 intro Wx s Y H R I h;refine sG (hl Wx s Y H _ I h) λv s1 zz=>x5 zz λx H1 I1 r1 q1=>?_;rcases q1 with⟨a,e,q1⟩|⟨z,e,q⟩
 .subst e;cases r1;rcases q1 with⟨⟨xs,hq⟩,q⟩|⟨⟨xs,hq⟩,q⟩
  .obtain⟨its,rv,p,hz⟩:=I1.list hq;refine gH p.isList ?_;refine⟨s1.heap.objs.size,[s1.heap.objs.size],_,_,H1,Z',I1.kept (t':=s1.toks) λb o e=>cW _ e,Kq a _,⟨_,dC _ Z',Z',Z'⟩,λb hb=>?_,q⟩;obtain rfl:b=s1.heap.objs.size:=by simpa using hb
   exact I1.nV (cZ _) (I1.mQ.fresh (cZ _))
  .obtain⟨its,rv,p,hz⟩:=I1.tuple hq;refine iq (show s1.heap.IsTuple a its.toArray from p) ?_;refine⟨s1.heap.objs.size,[s1.heap.objs.size],_,_,H1,Z',I1.kept (t':=s1.toks) λb o e=>cW _ e,Hf a _,⟨_,dC _ Z',Z',Z'⟩,λb hb=>?_,q⟩;obtain rfl:b=s1.heap.objs.size:=by simpa using hb
   exact I1.nV (cZ _) (I1.mQ.fresh (cZ _))
 .subst e;obtain⟨t,rfl⟩:=r1;have fp:∀b∈[s1.heap.objs.size],AU X Wx H1 b:=λb hb=>by
   obtain rfl:b=s1.heap.objs.size:=by simpa using hb
   exact I1.nV (cZ _) (I1.mQ.fresh (cZ _))
  cases ha:z.cps.all (·<128)
  .refine wpAny_pyIter_wide ha ?_;exact⟨s1.heap.objs.size,[s1.heap.objs.size],_,_,H1,Z',I1.kept (t':=s1.toks) λb o e=>cW _ e,Gj _ (λA' hA=>Walks.strWide hA _ z t) (λA i s Q E st h=>wpAny_pyIter_striter_wide st h) (by decide),⟨_,dC _ Z',Z',Z'⟩,fp,q⟩
  .refine wpAny_pyIter_ascii ha ?_;exact⟨s1.heap.objs.size,[s1.heap.objs.size],_,_,H1,Z',I1.kept (t':=s1.toks) λb o e=>cW _ e,Gj _ (λA' hA=>Walks.strAscii hA _ z t) (λA i s Q E st h=>wpAny_pyIter_striter_ascii st h) (by decide),⟨_,dC _ Z',Z',Z'⟩,fp,q⟩
end L2
namespace L2
inductive AW{α0:Sort u}{α1:Sort v}(p:α0->α1->Prop):Prop
 | mk (a0:α0) (a1:α1) (h:p a0 a1):AW p
inductive De{α0:Sort u}{α1:Sort v}{α2:Sort w}(p:α0->α1->α2->Prop):Prop
 | mk (a0:α0) (a1:α1) (a2:α2) (h:p a0 a1 a2):De p
def x7{α:Sort u}{β:Sort v}{γ:Sort w}{p q r s:α->β->γ->Prop}{C:Prop}(h:De λa b c=>p a b c/\q a b c/\r a b c/\s a b c)(f:∀a b c,p a b c->q a b c->r a b c->s a b c->C):C:=by obtain⟨a,b,c,h1,h2,h3,h4⟩:=h;exact f a b c h1 h2 h3 h4
def KM{α:Sort u}{β:Sort v}{γ:Sort w}{p q r s s1 s2 s3:α->β->γ->Prop}{C:Prop}(h:De λa b c=>p a b c/\q a b c/\r a b c/\s a b c/\s1 a b c/\s2 a b c/\s3 a b c)(f:∀a b c,p a b c->q a b c->r a b c->s a b c->s1 a b c->s2 a b c->s3 a b c->C):C:=by obtain⟨a,b,c,h1,h2,h3,h4,h5,h6,h7⟩:=h;exact f a b c h1 h2 h3 h4 h5 h6 h7
inductive BE{α0:Sort u}{α1:Sort v}{α2:Sort w}{α3:Sort u1}(p:α0->α1->α2->α3->Prop):Prop
 | mk (a0:α0) (a1:α1) (a2:α2) (a3:α3) (h:p a0 a1 a2 a3):BE p
inductive FT{α0:Sort u}{α1:Sort v}{α2:Sort w}{α3:Sort u1}{α4:Sort u2}(p:α0->α1->α2->α3->α4->Prop):Prop
 | mk (a0:α0) (a1:α1) (a2:α2) (a3:α3) (a4:α4) (h:p a0 a1 a2 a3 a4):FT p
inductive JE{α0:Sort u}{α1:Sort v}{α2:Sort w}{α3:Sort u1}{α4:Sort u2}{α5:Sort u3}(p:α0->α1->α2->α3->α4->α5->Prop):Prop
 | mk (a0:α0) (a1:α1) (a2:α2) (a3:α3) (a4:α4) (a5:α5) (h:p a0 a1 a2 a3 a4 a5):JE p
inductive S4{α0:Sort u}{α1:Sort v}{α2:Sort w}{α3:Sort u1}{α4:Sort u2}{α5:Sort u3}{α6:Sort u4}(p:α0->α1->α2->α3->α4->α5->α6->Prop):Prop
 | mk (a0:α0) (a1:α1) (a2:α2) (a3:α3) (a4:α4) (a5:α5) (a6:α6) (h:p a0 a1 a2 a3 a4 a5 a6):S4 p
inductive SY{α0:Sort u}{α1:Sort v}{α2:Sort w}{α3:Sort u1}{α4:Sort u2}{α5:Sort u3}{α6:Sort u4}{α7:Sort u5}(p:α0->α1->α2->α3->α4->α5->α6->α7->Prop):Prop
 | mk (a0:α0) (a1:α1) (a2:α2) (a3:α3) (a4:α4) (a5:α5) (a6:α6) (a7:α7) (h:p a0 a1 a2 a3 a4 a5 a6 a7):SY p
inductive Tb{α0:Sort u}{α1:Sort v}{α2:Sort w}{α3:Sort u1}{α4:Sort u2}{α5:Sort u3}{α6:Sort u4}{α7:Sort u5}{α8:Sort u6}(p:α0->α1->α2->α3->α4->α5->α6->α7->α8->Prop):Prop
 | mk (a0:α0) (a1:α1) (a2:α2) (a3:α3) (a4:α4) (a5:α5) (a6:α6) (a7:α7) (a8:α8) (h:p a0 a1 a2 a3 a4 a5 a6 a7 a8):Tb p
inductive LZ{α0:Sort u}{α1:Sort v}{α2:Sort w}{α3:Sort u1}{α4:Sort u2}{α5:Sort u3}{α6:Sort u4}{α7:Sort u5}{α8:Sort u6}{α9:Sort u7}(p:α0->α1->α2->α3->α4->α5->α6->α7->α8->α9->Prop):Prop
 | mk (a0:α0) (a1:α1) (a2:α2) (a3:α3) (a4:α4) (a5:α5) (a6:α6) (a7:α7) (a8:α8) (a9:α9) (h:p a0 a1 a2 a3 a4 a5 a6 a7 a8 a9):LZ p
end L2
namespace L2
open PySem
def TU(a C:Uf)(h:Go):Prop:=AW λoe vs=>h.get? a=Fa oe/\oe.cls=.ref C/\oe.data=.fields vs/\oe.dict=Db
end L2
namespace L3
open L2
inductive D where
 | mL|bl (b:Bool)|int (i:Int)|str (x:Str)|tup (ds:List D)|ref (a:Uf)|ty (n:String)
 | rl (ds:List D)
def OC(K:qx)(H:Hp)(a:Uf)(xs:T0 V):Prop:=(∃o,H a=Fa (.frz o (.lst xs)))\/
 ∃(o:Obj) (its:Array Vl) (n:Nat),K.lookup a=Fa o/\o.cls=.type "list"/\o.dict=Db/\o.data=.seq its n/\its.size<=Ch/\qF xs its.toList
def OC.sq{K:qx}(h:OC K H a xs):zb K H a xs:=by
 rcases h with⟨o,h⟩|h
 .exact .inl (.inr ⟨o,h⟩)
 .exact .inr h
mutual
def rV(K:qx)(H:Hp):D->V->Prop
 | .mL,v=>v=.mL
 | .bl b,v=>v=.bl b
 | .int i,v=>v=.int i
 | .str x,v=>v=.str x
 | .ref a,v=>v=.ref a
 | .ty n,v=>v=.ty n
 | .tup ds,v=>∃a xs,v=.ref a/\vb K H a xs/\qk K H ds xs
 | .rl ds,v=>∃a xs,v=.ref a/\OC K H a xs/\qk K H ds xs
def qk(K:qx)(H:Hp):T0 D->T0 V->Prop
 | [],xs=>xs=[]
 | d::ds,xs=>∃x r,xs=x::r/\rV K H d x/\qk K H ds r
end
structure qQ(K:qx)(H H':Hp):Prop where
 t:∀a xs,vb K H a xs->vb K H' a xs
 f:∀a o xs,H a=Fa (.frz o (.lst xs))->H' a=Fa (.frz o (.lst xs))
def qQ.refl{K:qx}:qQ K H H:=⟨λ_ _ h=>h,λ_ _ _ h=>h⟩
def qQ.trans{K:qx}(a:qQ K H H1)(b:qQ K H1 H2):qQ K H H2:=⟨λc xs h=>b.t c xs (a.t c xs h),λc o xs h=>b.f c o xs (a.f c o xs h)⟩
def qQ.upd{K:qx}(h:∀xs,¬Rd H p (.tup xs))(h':∀u xs,H p≠Fa (.frz u (.lst xs))):qQ K H (upd H p o):=⟨λa xs q=>by
 rcases q with q|q
 .have ne:a≠p:=λz=>h xs (z ▸ q);rcases q with q|⟨u,q⟩
  .exact .inl (.inl (by rw[pZ ne];exact q))
  .exact .inl (.inr ⟨u,by rw[pZ ne];exact q⟩)
 .exact .inr q,λa u xs q=>by
 have ne:a≠p:=λz=>h' u xs (z ▸ q);rw[pZ ne];exact q⟩
def qQ.new{K:qx}{H:Hp}{p:Uf}(h:H p=Db):qQ K H (L2.upd H p o):=.upd (λxs q=>by
 rcases q with q|⟨u,q⟩<;>(rw[h]at q;cases q)) λu xs q=>by rw[h]at q;cases q
def OC.mono{K:qx}(e:qQ K H H')(h:OC K H a xs):OC K H' a xs:=by
 rcases h with⟨o,h⟩|h
 .exact .inl ⟨o,e.f a o xs h⟩
 .exact .inr h
mutual
theorem rV.mono{K:qx}(e:qQ K H H'):∀{d:D} {v:V},rV K H d v->rV K H' d v
 | .mL,_,h=>h
 | .bl _,_,h=>h
 | .int _,_,h=>h
 | .str _,_,h=>h
 | .ref _,_,h=>h
 | .ty _,_,h=>h
 | .tup ds,v,h=>by unfold rV at h ⊢;obtain⟨a,xs,e1,e2,e3⟩:=h;exact⟨a,xs,e1,e.t _ _ e2,qk.mono e e3⟩
 | .rl ds,v,h=>by unfold rV at h ⊢;obtain⟨a,xs,e1,e2,e3⟩:=h;exact⟨a,xs,e1,e2.mono e,qk.mono e e3⟩
theorem qk.mono{K:qx}(e:qQ K H H'):∀{ds:T0 D} {xs:T0 V},qk K H ds xs->qk K H' ds xs
 | [],_,h=>h
 | d::ds,xs,h=>by unfold qk at h ⊢;obtain⟨x,r,e1,e2,e3⟩:=h;exact⟨x,r,e1,rV.mono e e2,qk.mono e e3⟩
end
variable {K:qx}{H H':Hp}
def qk.nil:qk K H [] []:=by unfold qk;rfl
def qk.cons(a:rV K H d x)(b:qk K H ds xs):qk K H (d::ds) (x::xs):=by unfold qk;exact⟨x,xs,Z',a,b⟩
def qk.inv{d:D}{ds:T0 D}(h:qk K H (d::ds) xs):∃x r,xs=x::r/\rV K H d x/\qk K H ds r:=by unfold qk at h;exact h
def qk.nil_inv(h:qk K H [] xs):xs=[]:=by unfold qk at h;exact h
theorem qk.length:∀{ds:T0 D} {xs:T0 V},qk K H ds xs->ds.length=xs.length
 | [],_,h=>by rw[h.nil_inv];rfl
 | d::ds,_,h=>by obtain⟨x,r,rfl,_,e⟩:=h.inv;simp[qk.length e]
theorem qk.get:∀{ds:T0 D} {xs:T0 V} {i:Nat} {d:D},qk K H ds xs->ds[i]?=Fa d->∃x,xs[i]?=Fa x/\rV K H d x
 | [],_,_,_,_,e=>by simp at e
 | d::ds,_,0,_,h,e=>by obtain⟨x,r,rfl,a,_⟩:=h.inv;simp at e;subst e;exact⟨x,by simp,a⟩
 | d::ds,_,i+1,_,h,e=>by obtain⟨x,r,rfl,_,b⟩:=h.inv;obtain⟨y,e1,e2⟩:=qk.get b (by simpa using e);exact⟨y,by simpa using e1,e2⟩
theorem qk.append:∀{ds es:T0 D} {xs ys:T0 V},qk K H ds xs->qk K H es ys->qk K H (ds++es) (xs++ys)
 | [],_,_,_,h,g=>by rw[h.nil_inv];exact g
 | d::ds,_,_,_,h,g=>by obtain⟨x,r,rfl,a,b⟩:=h.inv;exact .cons a (qk.append b g)
theorem qk.take:∀{ds:T0 D} {xs:T0 V} (n:Nat),qk K H ds xs->qk K H (ds.take n) (xs.take n)
 | _,_,0,_=>by simp only[List.take_zero];exact .nil
 | [],_,n+1,h=>by rw[h.nil_inv];exact .nil
 | d::ds,_,n+1,h=>by obtain⟨x,r,rfl,a,b⟩:=h.inv;exact .cons a (qk.take n b)
theorem qk.drop:∀{ds:T0 D} {xs:T0 V} (n:Nat),qk K H ds xs->qk K H (ds.drop n) (xs.drop n)
 | _,_,0,h=>h
 | [],_,n+1,h=>by rw[h.nil_inv];exact .nil
 | d::ds,_,n+1,h=>by obtain⟨x,r,rfl,a,b⟩:=h.inv;exact qk.drop n b
def qk.snoc(h:qk K H ds xs)(a:rV K H d x):qk K H (ds++[d]) (xs++[x]):=h.append (.cons a .nil)
theorem qk.ints:∀{ns:T0 Int},qk K H (ns.map D.int) (ns.map V.int)
 | []=>.nil
 | n::r=>.cons (by unfold rV;rfl) qk.ints
def rV.tup(q:vb K H a xs)(h:qk K H ds xs):rV K H (.tup ds) (.ref a):=by unfold rV;exact⟨a,xs,Z',q,h⟩
def rV.mP{ds:T0 D}(h:rV K H (.tup ds) v):∃a xs,v=.ref a/\vb K H a xs/\qk K H ds xs:=by unfold rV at h;exact h
def rV.m9{ds:T0 D}(h:rV K H (.rl ds) v):∃a xs,v=.ref a/\OC K H a xs/\qk K H ds xs:=by unfold rV at h;exact h
def rV.int{i:Int}:rV K H (.int i) (.int i):=by unfold rV;rfl
def rV.bl{i:Bool}:rV K H (.bl i) (.bl i):=by unfold rV;rfl
def rV.str{i:Str}:rV K H (.str i) (.str i):=by unfold rV;rfl
def rV.ref{i:Uf}:rV K H (.ref i) (.ref i):=by unfold rV;rfl
def rV.mL:rV K H .mL .mL:=by unfold rV;rfl
def rV.int_inv{i:Int}(h:rV K H (.int i) v):v=.int i:=by unfold rV at h;exact h
def rV.mK{i:Bool}(h:rV K H (.bl i) v):v=.bl i:=by unfold rV at h;exact h
def rV.str_inv{i:Str}(h:rV K H (.str i) v):v=.str i:=by unfold rV at h;exact h
def rV.mG{i:Uf}(h:rV K H (.ref i) v):v=.ref i:=by unfold rV at h;exact h
def rV.og{i:String}(h:rV K H (.ty i) v):v=.ty i:=by unfold rV at h;exact h
def rV.mJ{v:V}(h:rV K H .mL v):v=.mL:=by unfold rV at h;exact h
inductive uP where
 | lst (ds:List D)
 | ins (C:Uf) (fs:List (Str×D))
 | dk (kvs:List (rq×D))
 | exc (C:Uf)
abbrev Mp:=Uf->Option uP
noncomputable def pI(M:Mp)(a:Uf)(c:uP):Mp:=λb=>if b=a then Fa c else M b
def pU:pI M a c a=Fa c:=by unfold pI;rw[cX Z']
def ua{a b:Uf}(h:b≠a):pI M a c b=M b:=by unfold pI;rw[cV h]
def rK:pI (pI M a c) a d=pI M a d:=by funext b;unfold pI;split<;>rfl
def MB{M:Mp}{a b:Uf}{c:uP}(h:M a=Fa c)(h':M b=Db):a≠b:=by intro e;subst e;rw[h]at h';cases h'
def By(K:qx)(H:Hp)(fs:T0 (Str×D))(vs:T0 (Str×V)):Prop:=vs.map (·.1)=fs.map (·.1)/\qk K H (fs.map (·.2)) (vs.map (·.2))
def xx(K:qx)(H:Hp)(a:Uf):uP->Prop
 | .lst ds=>∃xs,H a=Fa (.lst xs)/\qk K H ds xs
 | .ins C fs=>∃dx vs,H a=Fa (.ins C dx vs)/\Cls K C/\(∀f,f∈fs.map (·.1)->ue K C f)/\By K H fs vs
 | .dk kvs=>∃vs,H a=Fa (.dK vs)/\vs.map (·.1)=kvs.map (·.1)/\qk K H (kvs.map (·.2)) (vs.map (·.2))
 | .exc C=>H a=Fa (.ext (TU a C))
def HM(K:qx)(H:Hp)(M:Mp):Prop:=∀a c,M a=Fa c->xx K H a c
variable {M:Mp}
def By.mono(e:qQ K H H')(h:By K H fs vs):By K H' fs vs:=⟨h.1,h.2.mono e⟩
def xx.keep(e:qQ K H H')(k:H' a=H a)(h:xx K H a c):xx K H' a c:=by
 cases c with
 | lst ds=>obtain⟨xs,e1,e2⟩:=h;exact⟨xs,by rw[k];exact e1,e2.mono e⟩
 | ins C fs=>obtain⟨dx,vs,e1,c,n,e2⟩:=h;exact⟨dx,vs,by rw[k];exact e1,c,n,e2.mono e⟩
 | dk kvs=>obtain⟨vs,e1,e2,e3⟩:=h;exact⟨vs,by rw[k];exact e1,e2,e3.mono e⟩
 | exc C=>exact k.trans h
def xx.there(h:xx K H a c):∃o,H a=Fa o/\(∀xs,¬Rd H a (.tup xs))/\∀u xs,H a≠Fa (.frz u (.lst xs)):=by
 have go:∀o,H a=Fa o->(∀xs,o≠.tup xs)->(∀u v,o≠.frz u v)->∃o,H a=Fa o/\(∀xs,¬Rd H a (.tup xs))/\∀u xs,H a≠Fa (.frz u (.lst xs)):=λo e n1 n2=>⟨o,e,λxs q=>by
  rcases q with q|⟨u,q⟩
  .rw[e]at q;exact n1 xs (cY q)
  .rw[e]at q;exact n2 u _ (cY q),λu xs q=>by rw[e]at q;exact n2 u _ (cY q)⟩
 cases c with
 | lst ds=>obtain⟨xs,e1,e2⟩:=h;exact go _ e1 (λ_ z=>by cases z) λ_ _ z=>by cases z
 | ins C fs=>obtain⟨dx,vs,e1,e2⟩:=h;exact go _ e1 (λ_ z=>by cases z) λ_ _ z=>by cases z
 | dk kvs=>obtain⟨vs,e1,e2,e3⟩:=h;exact go _ e1 (λ_ z=>by cases z) λ_ _ z=>by cases z
 | exc C=>exact go _ h (λ_ z=>by cases z) λ_ _ z=>by cases z
def HM.fresh(h:HM K H M){p:Uf}(n:H p=Db):M p=Db:=by
 cases e:M p with
 | none=>rfl
 | some c=>obtain⟨o,q,_⟩:=(h p c e).there;rw[n]at q;cases q
def HM.keep(h:HM K H M)(e:qQ K H H')(k:∀a c,M a=Fa c->H' a=H a):HM K H' M:=λa c q=>(h a c q).keep e (k a c q)
def HM.add(h:HM K H M){p:Uf}{o:HO}(n:H p=Db):HM K (upd H p o) M:=h.keep (.new n) λa c q=>by obtain⟨u,e,_⟩:=(h a c q).there;rw[pZ (qP e n)]
def HM.new(h:HM K H M){p:Uf}{o:HO}{c:uP}(n:H p=Db)(ok:xx K (upd H p o) p c):HM K (upd H p o) (pI M p c):=λa d q=>by
 by_cases e:a=p
 .subst e;rw[pU]at q;cases q;exact ok
 .rw[ua e]at q;exact h.add n a d q
def HM.put(h:HM K H M){p:Uf}{o:HO}{c c0:uP}(e0:M p=Fa c0)(ok:qQ K H (upd H p o)->xx K (upd H p o) p c):HM K (upd H p o) (pI M p c)/\qQ K H (upd H p o):=by
 obtain⟨u,eu,nt,nf⟩:=(h p c0 e0).there;have x:qQ K H (upd H p o):=.upd nt nf;refine⟨λa d q=>?_,x⟩;by_cases e:a=p
 .subst e;rw[pU]at q;cases q;exact ok x
 .rw[ua e]at q;exact(h a d q).keep x (pZ e)
abbrev St:=L2.St
abbrev vf:=T0 (Option D)
abbrev DK:=D->Mp->Prop
abbrev T3:=vf->Mp->DK->Prop
abbrev AE:=vf->Mp->(Bool->Mp->Prop)->Prop
abbrev xZ:=vf->Mp->(T0 D->Mp->Prop)->Prop
structure GO where
 nx:vf->Mp->Prop
 rt:DK
 bk:vf->Mp->Prop:=λ_ _=>False
 ct:vf->Mp->Prop:=λ_ _=>False
abbrev xS:=GO->vf->Mp->Prop
def yY(K:qx)(H:Hp)(Y:St)(U:vf):Prop:=∀(i:Nat) (d:D),U[i]?=Fa (Fa d)->∃v,Y[i]?=Fa (Fa v)/\rV K H d v
def yY.mono{K:qx}(e:qQ K H H')(h:yY K H Y U):yY K H' Y U:=λi d q=>by obtain⟨v,e1,e2⟩:=h i d q;exact⟨v,e1,e2.mono e⟩
def yY.set{K:qx}{i:Nat}(h:yY K H Y U)(hv:rV K H d v)(hi:i<Y.length):yY K H (Y.set i (Fa v)) (U.set i (Fa d)):=λj e q=>by
 by_cases hj:j=i
 .subst hj;rw[eI hi];by_cases hl:j<U.length
  .rw[eI hl]at q;cases q;exact⟨v,Z',hv⟩
  .rw[gC (by simpa using hl)]at q;cases q
 .rw[eP (dG hj)]at q ⊢;exact h j e q
def lo(K:qx)(t:T3):TE:=λY H Q'=>De λU M Q=>yY K H Y U/\HM K H M/\t U M Q/\∀v H' d M',rV K H' d v->HM K H' M'->qQ K H H'->Q d M'->Q' v H'
def SX(K:qx)(t:AE):TT:=λY H Q'=>De λU M Q=>yY K H Y U/\HM K H M/\t U M Q/\∀b H' M',HM K H' M'->qQ K H H'->Q b M'->Q' b H'
def Wc(K:qx)(t:xZ):TA:=λY H Q'=>De λU M Q=>yY K H Y U/\HM K H M/\t U M Q/\∀vs H' ds M',qk K H' ds vs->HM K H' M'->qQ K H H'->Q ds M'->Q' vs H'
def U9(K:qx)(t:xS):TS:=λD' Y H=>De λU M D=>yY K H Y U/\HM K H M/\t D U M/\(∀σ' H' δ' M',yY K H' σ' δ'->HM K H' M'->qQ K H H'->σ'.length=Y.length->D.nx δ' M'->D'.nx σ' H')/\
 (∀v H' d M',rV K H' d v->HM K H' M'->qQ K H H'->D.rt d M'->D'.rt v H')/\(∀σ' H' δ' M',yY K H' σ' δ'->HM K H' M'->qQ K H H'->σ'.length=Y.length->D.bk δ' M'->D'.bk σ' H')/\
 (∀σ' H' δ' M',yY K H' σ' δ'->HM K H' M'->qQ K H H'->σ'.length=Y.length->D.ct δ' M'->D'.ct σ' H')
def E3(X:Cx)(e:zn)(t:T3):Prop:=PE X e (lo X.K t)
def B3(X:Cx)(e:zn)(t:AE):Prop:=PT X e (SX X.K t)
def A3(X:Cx)(es:T0 zn)(t:xZ):Prop:=PA X es (Wc X.K t)
def S3(X:Cx)(st:wE)(t:xS):Prop:=PS X st (U9 X.K t)
def Hg(X:Cx)(st:T0 wE)(t:xS):Prop:=B4 X st (U9 X.K t)
def PE.mono{t t':TE}(h:PE X e t)(m:∀Y H Q,t' Y H Q->t Y H Q):PE X e t':=λWx s Y H Q I q=>h Wx s Y H Q I (m Y H Q q)
def PT.mono{t t':TT}(h:PT X e t)(m:∀Y H Q,t' Y H Q->t Y H Q):PT X e t':=λWx s Y H Q I q=>h Wx s Y H Q I (m Y H Q q)
def PA.mono{t t':TA}(h:PA X e t)(m:∀Y H Q,t' Y H Q->t Y H Q):PA X e t':=λpos Wx s Y H Q I q=>h pos Wx s Y H Q I (m Y H Q q)
def PS.mono{t t':TS}(h:PS X e t)(m:∀D Y H,t' D Y H->t D Y H):PS X e t':=λWx s Y H D I q=>h Wx s Y H D I (m D Y H q)
def B4.mono{t t':TS}(h:B4 X e t)(m:∀D Y H,t' D Y H->t D Y H):B4 X e t':=λWx s Y H D I q=>h Wx s Y H D I (m D Y H q)
def PS.nO{t t':TS}(h:PS X e t)(m:∀D Y H,Y.length=X.N.length->t' D Y H->t D Y H):PS X e t':=λWx s Y H D I q=>h Wx s Y H D I (m D Y H I.len q)
def vR{K:qx}{Q':VK}{Q:DK}(x:qQ K H H1)(f:∀v H' d M',rV K H' d v->HM K H' M'->qQ K H H'->Q d M'->Q' v H'):∀v H' d M',rV K H' d v->HM K H' M'->qQ K H1 H'->Q d M'->Q' v H':=
 λv H' d M' a b c e=>f v H' d M' a b (x.trans c) e
variable {X:Cx}{pos:Pos}
def v3(i:Nat):T3:=λU M Q=>(U.getD i Db).elim False λd=>Q d M
def J7{U:vf}{i:Nat}{P:D->Prop}(h:(U.getD i Db).elim False P):∃d,U[i]?=Fa (Fa d)/\P d:=by
 cases e:U[i]? with
 | none=>rw[gD,e]at h;exact h.elim
 | some o=>
  rw[gD,e]at h;cases o with
  | none=>exact h.elim
  | some d=>exact⟨d,Z',h⟩
def Q3(i:Nat){x:Str}(h:PE X (.Name x pos) (Ek i)):E3 X (.Name x pos) (v3 i):=PE.mono h λY H Q' zz=>x7 zz λU M Q hs hm ht k=>by obtain⟨d,e,q⟩:=J7 ht;obtain⟨v,e1,e2⟩:=hs i d e;exact⟨v,e1,k v H d M e2 hm .refl q⟩
def c3(d:D):T3:=λ_ M Q=>Q d M
def pC{i j}:E3 X (.Constant (.int i) j pos) (c3 (.int i)):=PE.mono R6 λY H Q' zz=>x7 zz λU M Q hs hm ht k=>k _ H _ M .int hm .refl ht
def vJ{i j}:E3 X (.Constant (.bool i) j pos) (c3 (.bl i)):=PE.mono Tt λY H Q' zz=>x7 zz λU M Q hs hm ht k=>k _ H _ M .bl hm .refl ht
def pD{i j}:E3 X (.Constant (.str i) j pos) (c3 (.str i)):=PE.mono Rk λY H Q' zz=>x7 zz λU M Q hs hm ht k=>k _ H _ M .str hm .refl ht
def se{j}:E3 X (.Constant .none j pos) (c3 .mL):=PE.mono Ru λY H Q' zz=>x7 zz λU M Q hs hm ht k=>k _ H _ M .mL hm .refl ht
noncomputable def oC(M:Mp)(a:Uf):Option (T0 D):=match M a with
 | some (.lst ds)=>Fa ds
 | _=>Db
noncomputable def yP(x:Str)(n:Int):Str:=⟨(List.replicate n.toNat x.cps).foldl (·++·) #[]⟩
def UT(op:ZX)(x y:D)(M:Mp)(Q:DK):Prop:=match op,x,y with
 | .Add,.int i,.int j=>Q (.int (i+j)) M
 | .Add,.str i,.str j=>i.length+j.length<=Ch/\Q (.str (i++j)) M
 | .Add,.tup i,.tup j=>i≠[]/\i.length+j.length<=Ch/\Q (.tup (i++j)) M
 | .Add,.ref a,.ref b=>(oC M a).elim False λi=>(oC M b).elim False λj=>i.length+j.length<=Ch/\∀p,M p=Db->Q (.ref p) (pI M p (.lst (i++j)))
 | .Add,.rl i,.ref b=>(oC M b).elim False λj=>i.length+j.length<=Ch/\∀p,M p=Db->Q (.ref p) (pI M p (.lst (i++j)))
 | .Sub,.int i,.int j=>Q (.int (i - j)) M
 | .Mult,.int i,.int j=>C4 i j/\Q (.int (i*j)) M
 | .Mult,.str i,.int j=>(j<4096/\-4096<j/\i.length<4096)/\Q (.str (yP i j)) M
 | .FloorDiv,.int i,.int j=>UD i j/\Q (.int (i / j)) M
 | .Mod,.int i,.int j=>0<j/\Q (.int (i % j)) M
 | _,_,_=>False
def o3(op:ZX)(ta tb:T3):T3:=λU M Q=>ta U M λx M1=>tb U M1 λy M2=>UT op x y M2 Q
def Up(K:qx)(H:Hp)(Q':VK)(Q:DK):Prop:=∀v H' d M',rV K H' d v->HM K H' M'->qQ K H H'->Q d M'->Q' v H'
variable {ta tb:T3}
section
def qv{K:qx}{ds:T0 D}(hm:HM K H M)(h:oC M a=Fa ds):∃xs,zb K H a xs/\qk K H ds xs/\Rd H a (.lst xs):=by
 unfold oC at h;cases e:M a with
 | none=>rw[e]at h;cases h
 | some c=>
  rw[e]at h;have ok:=hm a c e;cases c with
  | lst es=>cases h;obtain⟨xs,e1,e2⟩:=ok;exact⟨xs,.inl (.inl e1),e2,.inl e1⟩
  | ins _ _=>cases h
  | dk _=>cases h
  | exc _=>cases h
def qZ{α:Type}{o:Option α}{P:α->Prop}(h:o.elim False P):∃a,o=Fa a/\P a:=by
 cases o with
 | none=>exact h.elim
 | some a=>exact⟨a,Z',h⟩
def IQ:xU X (dL .Add) (λx y H Q=>∃l b xs zs,x=.ref l/\y=.ref b/\zb X.K H l xs/\zb X.K H b zs/\xs.length+zs.length<=Ch/\∀p,H p=Db->Q (.ref p) (upd H p (.lst (xs++zs)))):=by
 intro Wx s Y H x y v u Q I rx ry h;obtain⟨l,b,xs,zs,rfl,rfl,hH,hB,hz,q⟩:=h;cases rx;cases ry;obtain⟨its,r,⟨⟨c1,d1,t1,sl1⟩,n,g1,e1,_,f1⟩,_⟩:=I.list hH;obtain⟨Yv,r2,⟨⟨c2,d2,t2,sl2⟩,m,g2,e2,_,f2⟩,_⟩:=I.list hB;simp only at e1 f1 e2 f2;subst e1 f1 e2 f2;have hl:=r.length;have hl2:=r2.length;refine kW ⟨_,g1,Z'⟩ ⟨_,g2,Z'⟩ noFill_list_add seq_list_add PySem.F.slot_list_add PySem.F.entry_list_add (PySem.F.args_list_add_2 _ _) (list_addW l b its.toArray Yv.toArray n m d1 d2 sl1 sl2 (by rw[dg,dg];lia)) ⟨g1,g2,?_⟩;have ea:its.toArray++Yv.toArray=(its++Yv).toArray:=by simp
 rw[ea];exact⟨.ref _,_,I.oQ (t':=s.toks) (r.append r2) (by rw[cT];lia),Z',q _ I.fresh⟩
def Ja(x:Array Nat):∀k,((List.replicate k x).foldl (·++·) #[]:Array Nat).size=k*x.size:=by
 have go:∀(k:Nat) (acc:Array Nat),((List.replicate k x).foldl (·++·) acc).size=acc.size+k*x.size:=by
  intro k;induction k with
  | zero=>intro acc;simp
  | succ k ih=>intro acc;rw[eG,fU,ih,Array.size_append,mv];lia
 intro k;rw[go];simp
def Pw:xU X (dL .Mult) (λx y H Q=>∃i j,x=.str i/\y=.int j/\(j<4096/\-4096<j/\i.length<4096)/\Q (.str (yP i j)) H):=by
 intro Wx s Y H x y v u Q I rx ry h;obtain⟨i,j,rfl,rfl,⟨h1,h2,h3⟩,q⟩:=h;obtain⟨t,rfl⟩:=rx;obtain⟨t',rfl⟩:=ry;refine PySem.P.mul_str ?_ ?_ ?_ ?_
 .rw[eO (by lia),eO (by lia)];rfl
 .intro h0 _;have:(4096:Int)<=(2 ^ 63 - 1) / j:=by
   have:(4096:Int)*j<=2 ^ 63 - 1:=by lia
   exact(Int.le_ediv_iff_mul_le (by lia)).mpr this
  lia
 .intro h0 _;have hm:i.length*j.toNat<=4096*4096:=ke (by lia) (by lia);have hz:=dN;unfold Builtin.Str.tooLong;exact eO (by lia)
 .by_cases h0:j<1
  .rw[cX h0];have e:yP i j=Str.empty:=by unfold yP;rw[show j.toNat=0 by lia];rfl
   rw[e]at q;exact⟨by decide,⟨.str Str.empty,H,I.tok _,⟨_,Z'⟩,q⟩⟩
  .rw[cV h0];by_cases hj:(j==1||i.length==0)=pc
   .rw[cX hj];have e:yP i j=i:=by
     have hj':j=1\/i.length=0:=by simpa using hj
     unfold yP;rcases hj' with z|z
     .subst z;show(⟨#[]++i.cps⟩:Str)=i;simp
     .have ec:i.cps=#[]:=Array.size_eq_zero_iff.mp z;have er:∀k:Nat,((List.replicate k (#[]:Array Nat)).foldl (·++·) #[]:Array Nat)=#[]:=by
       intro k;induction k with
       | zero=>rfl
       | succ k ih=>rw[eG,fU];simpa using ih
      rw[ec,er,<-ec]
    rw[e]at q;exact⟨.str i,H,I,⟨t,Z'⟩,q⟩
   .rw[cV hj];refine⟨?_,⟨.str _,H,I.tok _,⟨_,Z'⟩,q⟩⟩;have hz:=dN;have hm:j.toNat*i.length<=4096*4096:=ke (by lia) (by lia);show((List.replicate j.toNat i.cps).foldl (·++·) #[]:Array Nat).size<=_;rw[Ja];have X6:j.toNat*i.cps.size<=4096*4096:=hm;lia
def R3(K:qx)(f:D->D->Mp->DK->Prop):R2:=λvx vy H Q'=>BE λx y M Q=>rV K H x vx/\rV K H y vy/\HM K H M/\f x y M Q/\Up K H Q' Q
def Wq(op:ZX):xU X (dL op) (R3 X.K (UT op)):=by
 intro Wx s Y H vx vy v u Q' I rx ry h;obtain⟨x,y,M,Q,hx,hy,hm,q,k⟩:=h;unfold UT at q;split at q
 .cases hx.int_inv;cases hy.int_inv;exact R1 Wx s Y H _ _ v u Q' I rx ry ⟨_,_,Z',Z',k _ _ _ _ .int hm .refl q⟩
 .cases hx.str_inv;cases hy.str_inv;exact Ig Wx s Y H _ _ v u Q' I rx ry ⟨_,_,Z',Z',q.1,k _ _ _ _ .str hm .refl q.2⟩
 .rename_i i j;obtain⟨q1,q2,q3⟩:=q;obtain⟨a,xs,rfl,ha,Yc⟩:=hx.mP;obtain⟨b,ys,rfl,hb,Xo⟩:=hy.mP;have l1:=Yc.length;have l2:=Xo.length;refine Qb Wx s Y H _ _ v u Q' I rx ry ⟨a,b,xs,ys,Z',Z',ha,hb,λz=>q1 (by rw[z]at l1;exact fQ.mp l1),by lia,λz=>?_,λz p hp=>?_⟩
  .refine k _ _ _ _ (.tup ha ?_) hm .refl q3;rw[z]at Xo;have e0:j=[]:=fQ.mp (by simpa using Xo.length);rw[e0,dO];exact Yc
  .have e:qQ X.K H (upd H p (.tup (xs++ys))):=.new hp;exact k _ _ _ _ (.tup (.of qh) ((Yc.append Xo).mono e)) (hm.add hp) e q3
 .obtain⟨i,ei,q⟩:=qZ q;obtain⟨j,ej,q1,q2⟩:=qZ q;cases hx.mG;cases hy.mG;obtain⟨xs,rx',Zp,_⟩:=qv hm ei;obtain⟨ys,ry',hys,_⟩:=qv hm ej;have l1:=Zp.length;have l2:=hys.length;refine IQ Wx s Y H _ _ v u Q' I rx ry ⟨_,_,xs,ys,Z',Z',rx',ry',by lia,λp hp=>?_⟩;have e:qQ X.K H (upd H p (.lst (xs++ys))):=.new hp;exact k _ _ _ _ .ref (hm.new (c:=.lst (i++j)) hp ⟨_,qh,(Zp.append hys).mono e⟩) e (q2 p (hm.fresh hp))
 .obtain⟨j,ej,q1,q2⟩:=qZ q;obtain⟨l,xs,rfl,rx',Zp⟩:=hx.m9;cases hy.mG;obtain⟨ys,ry',hys,_⟩:=qv hm ej;have l1:=Zp.length;have l2:=hys.length;refine IQ Wx s Y H _ _ v u Q' I rx ry ⟨_,_,xs,ys,Z',Z',rx'.sq,ry',by lia,λp hp=>?_⟩;have e:qQ X.K H (upd H p (.lst (xs++ys))):=.new hp;exact k _ _ _ _ .ref (hm.new (c:=.lst (_++j)) hp ⟨_,qh,(Zp.append hys).mono e⟩) e (q2 p (hm.fresh hp))
 .cases hx.int_inv;cases hy.int_inv;exact Q9 Wx s Y H _ _ v u Q' I rx ry ⟨_,_,Z',Z',k _ _ _ _ .int hm .refl q⟩
 .cases hx.int_inv;cases hy.int_inv;exact RQ Wx s Y H _ _ v u Q' I rx ry ⟨_,_,Z',Z',q.1,k _ _ _ _ .int hm .refl q.2⟩
 .cases hx.str_inv;cases hy.int_inv;exact Pw Wx s Y H _ _ v u Q' I rx ry ⟨_,_,Z',Z',q.1,k _ _ _ _ .str hm .refl q.2⟩
 .cases hx.int_inv;cases hy.int_inv;exact NY Wx s Y H _ _ v u Q' I rx ry ⟨_,_,Z',Z',q.1,k _ _ _ _ .int hm .refl q.2⟩
 .cases hx.int_inv;cases hy.int_inv;exact QN Wx s Y H _ _ v u Q' I rx ry ⟨_,_,Z',Z',q.1,k _ _ _ _ .int hm .refl q.2⟩
 .exact q.elim
variable {a b:zn}
def Hj{f:D->D->Mp->DK->Prop}:∀Y H Q',lo X.K (λU M Q=>ta U M λx M1=>tb U M1 λy M2=>f x y M2 Q) Y H Q'->Tq (R3 X.K f) (lo X.K ta) (lo X.K tb) Y H Q':=λY H Q' zz=>x7 zz λU M Q hs hm ht k=>⟨U,M,_,hs,hm,ht,λv H1 x M1 hx Wz e1 q1=>⟨U,M1,_,hs.mono e1,Wz,q1,λu H2 y M2 hy WO e2 q2=>⟨x,y,M2,Q,hx.mono e2,hy,WO,q2,vR (e1.trans e2) k⟩⟩⟩
def qc(ha:E3 X a ta)(hb:E3 X b tb):E3 X (.BinOp a op b pos) (o3 op ta tb):=PE.mono (QA (Wq op) ha hb) Hj
end
noncomputable def sE(f:D->D->Option Bool):T0 D->T0 D->Option Bool
 | x::a,y::b=>(f x y).bind λp=>(sE f a b).map λq=>p&&q
 | _,_=>Fa pc
noncomputable def yk(M:Mp):Nat->D->D->Option Bool
 | 0,_,_=>Db
 | n+1,x,y=>match x,y with
  | .mL,.mL=>Fa pc
  | .bl a,.bl b=>Fa (a==b)
  | .int a,.int b=>Fa (a==b)
  | .str a,.str b=>Fa (a==b)
  | .mL,.bl _=>Fa lf
  | .mL,.int _=>Fa lf
  | .mL,.str _=>Fa lf
  | .bl _,.mL=>Fa lf
  | .bl _,.str _=>Fa lf
  | .int _,.mL=>Fa lf
  | .int _,.str _=>Fa lf
  | .str _,.mL=>Fa lf
  | .str _,.bl _=>Fa lf
  | .str _,.int _=>Fa lf
  | .tup a,.tup b=>(sE (yk M n) a b).map λp=>p&&a.length==b.length
  | .ref a,.ref b=>(oC M a).bind λi=>(oC M b).bind λj=>if i.length=j.length then sE (yk M n) i j else Fa lf
  | _,_=>Db
variable {Wx:T0 (Uf × Obj)}{Y:St}{s:Sd}
theorem yL{f:D->D->Option Bool}:∀{ds es:T0 D} {xs:T0 V} {b:Bool},qk X.K H ds xs->qk X.K H es xs->(∀x y v b,rV X.K H x v->rV X.K H y v->f x y=Fa b->b=pc)->sE f ds es=Fa b->b=pc
 | [],[],_,_,_,_,_,e=>(cY e).symm
 | [],_::_,_,_,h,g,_,_=>by have h1:=h.length;have h2:=g.length;rw[<-h1]at h2;simp at h2
 | _::_,[],_,_,h,g,_,_=>by have h1:=h.length;have h2:=g.length;rw[<-h1]at h2;simp at h2
 | d::ds,e::es,xs,b,h,g,k,q=>by
  obtain⟨x,r,rfl,h1,h2⟩:=h.inv;obtain⟨x',r',e',g1,g2⟩:=g.inv;cases e';unfold sE at q;cases p1:f d e with
  | none=>rw[p1]at q;cases q
  | some b1=>
   rw[p1]at q;cases p2:sE f ds es with
   | none=>rw[p2]at q;cases q
   | some b2=>rw[p2]at q;have q':(b1&&b2)=b:=cY q;rw[<-q',k _ _ _ _ h1 g1 p1,yL h2 g2 k p2];rfl
theorem zE(I:Inv X Wx Y H s)(hm:HM X.K H M):∀(n:Nat) (x y:D) (v:V) (b:Bool),rV X.K H x v->rV X.K H y v->yk M n x y=Fa b->b=pc
 | 0,_,_,_,_,_,_,e=>by cases e
 | n+1,x,y,v,b,hx,hy,e=>by
  unfold yk at e;split at e
  .exact(cY e).symm
  .rw[hx.mK]at hy;cases hy.mK;exact(cY e).symm.trans (by simp)
  .rw[hx.int_inv]at hy;cases hy.int_inv;exact(cY e).symm.trans (by simp)
  .rw[hx.str_inv]at hy;cases hy.str_inv;exact(cY e).symm.trans (by simp)
  .rw[hx.mJ]at hy;cases hy.mK
  .rw[hx.mJ]at hy;cases hy.int_inv
  .rw[hx.mJ]at hy;cases hy.str_inv
  .rw[hx.mK]at hy;cases hy.mJ
  .rw[hx.mK]at hy;cases hy.str_inv
  .rw[hx.int_inv]at hy;cases hy.mJ
  .rw[hx.int_inv]at hy;cases hy.str_inv
  .rw[hx.str_inv]at hy;cases hy.mJ
  .rw[hx.str_inv]at hy;cases hy.mK
  .rw[hx.str_inv]at hy;cases hy.int_inv
  .obtain⟨a,xs,rfl,h1,h2⟩:=hx.mP;obtain⟨a',ys,e',g1,g2⟩:=hy.mP;cases e';rw[I.ni g1 h1]at g2;cases p:sE (yk M n) _ _ with
   | none=>rw[p]at e;cases e
   | some b1=>rw[p]at e;have e':=cY e;rw[<-e',yL h2 g2 (zE I hm n) p,h2.length,g2.length];simp
  .rw[hx.mG]at hy;cases hy.mG;cases p:oC M _ with
   | none=>rw[p]at e;cases e
   | some i=>rw[p]at e;have e:(if i.length=i.length then sE (yk M n) i i else Fa lf)=Fa b:=e;rw[cX Z']at e;obtain⟨xs,_,h2,_⟩:=qv hm p;exact yL h2 h2 (zE I hm n) e
  .cases e
theorem CL{A:Ar}:∀{ds es:T0 D} {xs ys:T0 V} {us ws:T0 Vl} {b:Bool},sE f ds es=Fa b->qk X.K H ds xs->qk X.K H es ys->qF xs us->qF ys ws->
  (∀x y b vx vy u w,f x y=Fa b->rV X.K H x vx->rV X.K H y vy->qL vx u->qL vy w->SeqAt.EqAt A s u w b)->
  ∃e:Nat->Bool,(∀j (h1:j<us.length) (h2:j<ws.length),SeqAt.EqAt A s us[j] ws[j] (e j))/\(List.range (min us.length ws.length)).all e=b
 | [],es,xs,ys,us,ws,b,q,hx,hy,rx,ry,k=>by
  have e1:=hx.nil_inv;subst e1;cases rx;refine⟨λ_=>pc,λj h1=>absurd h1 (by simp),?_⟩;have q':Fa pc=Fa b:=by cases es<;>exact q
  simpa using(cY q')
 | d::ds,[],xs,ys,us,ws,b,q,hx,hy,rx,ry,k=>by
  have e1:=hy.nil_inv;subst e1;cases ry;refine⟨λ_=>pc,λj _ h2=>absurd h2 (by simp),?_⟩;have q':Fa pc=Fa b:=q
  simpa using(cY q')
 | d::ds,e::es,xs,ys,us,ws,b,q,hx,hy,rx,ry,k=>by
  obtain⟨x,r,rfl,h1,h2⟩:=hx.inv;obtain⟨y,r',rfl,g1,g2⟩:=hy.inv;cases rx with
  | cons r1 r2=>
   cases ry with
   | cons t1 t2=>
    unfold sE at q;cases p1:f d e with
    | none=>rw[p1]at q;cases q
    | some b1=>
     rw[p1]at q;cases p2:sE f ds es with
     | none=>rw[p2]at q;cases q
     | some b2=>
      rw[p2]at q;have q':(b1&&b2)=b:=cY q;obtain⟨e',he,ha⟩:=CL p2 h2 g2 r2 t2 k;refine⟨λj=>match j with|0=>b1|j+1=>e' j,λj l1 l2=>?_,?_⟩
      .cases j with
       | zero=>exact k _ _ _ _ _ _ _ p1 h1 g1 r1 t1
       | succ j=>exact he j (by simpa using l1) (by simpa using l2)
      .rw[<-q',<-ha];simp only[dS];rw[Nat.succ_min_succ,List.range_succ_eq_map,gv,mw];rfl
theorem EG(I:Inv X Wx Y H s)(hm:HM X.K H M):∀(n:Nat) (A:Ar) (x y:D) (b:Bool) (vx vy:V) (u w:Vl),A.units+n<ZP->yk M n x y=Fa b->rV X.K H x vx->rV X.K H y vy->qL vx u->qL vy w->
  SeqAt.RcAt A s u w b/\SeqAt.EqAt A s u w b/\SeqAt.RcNeAt A s u w (!b)
 | 0,_,_,_,_,_,_,_,_,_,e,_,_,_,_=>by cases e
 | n+1,A,x,y,b,vx,vy,u,w,hu,e,hx,hy,rx,ry=>by
  have hu1:A.units<ZP:=by lia
  have hui:A.in1.units+n<ZP:=by show A.units+1+n<ZP;lia
  unfold yk at e;split at e
  .cases hx.mJ;cases hy.mJ;cases rx;cases ry;cases e;exact⟨.none_none,.same _,.none_none⟩
  .cases hx.mK;cases hy.mK;cases rx;cases ry;cases e;exact⟨.bool_bool _ _,.bool_bool _ _,.bool_bool _ _⟩
  .cases hx.int_inv;cases hy.int_inv;obtain⟨t,rfl⟩:=rx;obtain⟨t',rfl⟩:=ry;cases e;exact⟨.int_int _ _ _ _,.int_int _ _ _ _,.int_int _ _ _ _⟩
  .cases hx.str_inv;cases hy.str_inv;obtain⟨t,rfl⟩:=rx;obtain⟨t',rfl⟩:=ry;cases e;exact⟨.str_str _ _ _ _,.str_str _ _ _ _,.str_str _ _ _ _⟩
  .cases hx.mJ;cases hy.mK;cases rx;cases ry;cases e;exact⟨.none_bool _,.none_bool _,.none_bool _⟩
  .cases hx.mJ;cases hy.int_inv;cases rx;obtain⟨t',rfl⟩:=ry;cases e;exact⟨.none_int _ _,.none_int _ _,.none_int _ _⟩
  .cases hx.mJ;cases hy.str_inv;cases rx;obtain⟨t',rfl⟩:=ry;cases e;exact⟨.none_str _ _,.none_str _ _,.none_str _ _⟩
  .cases hx.mK;cases hy.mJ;cases rx;cases ry;cases e;exact⟨.bool_none _,.bool_none _,.bool_none _⟩
  .cases hx.mK;cases hy.str_inv;cases rx;obtain⟨t',rfl⟩:=ry;cases e;exact⟨.bool_str _ _ _,.bool_str _ _ _,.bool_str _ _ _⟩
  .cases hx.int_inv;cases hy.mJ;obtain⟨t,rfl⟩:=rx;cases ry;cases e;exact⟨.int_none _ _,.int_none _ _,.int_none _ _⟩
  .cases hx.int_inv;cases hy.str_inv;obtain⟨t,rfl⟩:=rx;obtain⟨t',rfl⟩:=ry;cases e;exact⟨.int_str _ _ _ _,.int_str _ _ _ _,.int_str _ _ _ _⟩
  .cases hx.str_inv;cases hy.mJ;obtain⟨t,rfl⟩:=rx;cases ry;cases e;exact⟨.str_none _ _,.str_none _ _,.str_none _ _⟩
  .cases hx.str_inv;cases hy.mK;obtain⟨t,rfl⟩:=rx;cases ry;cases e;exact⟨.str_bool _ _ _,.str_bool _ _ _,.str_bool _ _ _⟩
  .cases hx.str_inv;cases hy.int_inv;obtain⟨t,rfl⟩:=rx;obtain⟨t',rfl⟩:=ry;cases e;exact⟨.str_int _ _ _ _,.str_int _ _ _ _,.str_int _ _ _ _⟩
  .rename_i da db;obtain⟨a1,xs,rfl,h1,h2⟩:=hx.mP;obtain⟨a2,ys,rfl,g1,g2⟩:=hy.mP;cases rx;cases ry;obtain⟨us,r1,p1,_⟩:=I.tuple h1;obtain⟨ws,r2,p2,_⟩:=I.tuple g1;cases p:sE (yk M n) da db with
   | none=>rw[p]at e;cases e
   | some b1=>
    have e0:=e;rw[p]at e;have e':(b1&&da.length==db.length)=b:=cY e;obtain⟨f,hf,ha⟩:=CL (A:=A.in1) (s:=s) p h2 g2 r1 r2 λx y b vx vy u w q1 q2 q3 q4 q5=>(EG I hm n A.in1 x y b vx vy u w hui q1 q2 q3 q4 q5).2.1;have hb:((List.range (min us.toArray.size ws.toArray.size)).all f&&us.toArray.size==ws.toArray.size)=b:=by rw[dg,dg,ha,<-e',<-r1.length,<-r2.length,h2.length,g2.length]
    have hf':∀j (l1:j<us.toArray.size) (l2:j<ws.toArray.size),SeqAt.EqAt A.in1 s us.toArray[j] ws.toArray[j] (f j):=λj l1 l2=>by simpa using hf j (by simpa using l1) (by simpa using l2)
    have c1:SeqAt.RcAt A s (.ref a1) (.ref a2) b:=by rw[<-hb];exact .tuples p1 p2 hu1 hf'
    have c3:SeqAt.RcNeAt A s (.ref a1) (.ref a2) (!b):=by have:=SeqAt.RcNeAt.tuples p1 p2 hu1 hf';rw[hb]at this;exact this
    refine⟨c1,?_,c3⟩;by_cases ea:a1=a2
    .subst ea;have:b=pc:=zE I hm (n+1) (.tup da) (.tup db) (.ref a1) b hx hy (by unfold yk;exact e0);rw[this];exact .same _
    .exact .of_refs ea c1
  .cases hx.mG;cases hy.mG;cases rx;cases ry;rename_i a1 a2;have e0:=e;cases p:oC M a1 with
   | none=>rw[p]at e;cases e
   | some i=>
    cases p':oC M a2 with
    | none=>rw[p,p']at e;cases e
    | some j=>
     rw[p,p']at e;have e:(if i.length=j.length then sE (yk M n) i j else Fa lf)=Fa b:=e;obtain⟨xs,q1,h2,_⟩:=qv hm p;obtain⟨ys,q2,g2,_⟩:=qv hm p';obtain⟨us,r1,p1,_⟩:=I.list q1;obtain⟨ws,r2,p2,_⟩:=I.list q2;have WC:SeqAt.RcAt A s (.ref a1) (.ref a2) b/\SeqAt.RcNeAt A s (.ref a1) (.ref a2) (!b):=by
      by_cases hl:i.length=j.length
      .rw[cX hl]at e;obtain⟨f,hf,ha⟩:=CL (A:=A.in1) (s:=s) e h2 g2 r1 r2 λx y b vx vy u w q1 q2 q3 q4 q5=>(EG I hm n A.in1 x y b vx vy u w hui q1 q2 q3 q4 q5).2.1;have hsz:us.toArray.size=ws.toArray.size:=by rw[dg,dg,<-r1.length,<-r2.length,<-h2.length,<-g2.length];exact hl
       have hf':∀j (l1:j<us.toArray.size) (l2:j<ws.toArray.size),SeqAt.EqAt A.in1 s us.toArray[j] ws.toArray[j] (f j):=λj l1 l2=>by simpa using hf j (by simpa using l1) (by simpa using l2)
       have hb:(List.range us.toArray.size).all f=b:=by rw[<-ha];rw[dg,dg]at hsz;rw[dg,<-hsz,Nat.min_self]
       rw[<-hb];exact⟨.lists p1.isList p2.isList hsz hu1 hf',.lists p1.isList p2.isList hsz hu1 hf'⟩
      .rw[cV hl]at e;cases e;have hsz:(us.toArray.size != ws.toArray.size)=pc:=by
        rw[dg,dg,<-r1.length,<-r2.length,<-h2.length,<-g2.length]
        simpa using hl
       exact⟨.lists_lengths p1.isList p2.isList hsz hu1,.lists_lengths p1.isList p2.isList hsz hu1⟩
     refine⟨WC.1,?_,WC.2⟩;by_cases ea:a1=a2
     .subst ea;have:b=pc:=zE I hm (n+1) (.ref a1) (.ref a1) (.ref a1) b .ref .ref (by unfold yk;exact e0);rw[this];exact .same _
     .exact .of_refs ea WC.1
  .cases e
noncomputable def uW:D->Bool
 | .mL=>pc
 | .bl _=>pc
 | .int _=>pc
 | .str _=>pc
 | _=>lf
noncomputable def Qh:D->D->Bool
 | .mL,.mL=>pc
 | .bl a,.bl b=>a==b
 | .bl a,.int b=>(if a then 1 else 0)==b
 | .int a,.bl b=>a==(if b then 1 else 0)
 | .int a,.int b=>a==b
 | .str a,.str b=>a==b
 | _,_=>lf
noncomputable def inD(x:D)(ds:T0 D):Bool:=ds.any λy=>Qh y x
noncomputable def Nd(M:Mp):D->Option (T0 D)
 | .tup ds=>Fa ds
 | .ref a=>oC M a
 | .rl ds=>Fa ds
 | _=>Db
noncomputable def Du(i j:Str):Bool:=!(Builtin.Str.occurrences j i 0 j.length 1).isEmpty
def SA(Yb:Bool)(x y:D)(M:Mp)(Q:DK):Prop:=match x,y with
 | .str i,.str j=>Q (.bl (if Yb then !Du i j else Du i j)) M
 | _,_=>(Nd M y).elim False λds=>uW x=pc/\ds.all uW=pc/\Q (.bl (if Yb then !inD x ds else inD x ds)) M
def Pr(op:CmpOp)(x y:D)(M:Mp)(Q:DK):Prop:=match op with
 | .Eq=>(yk M 9 x y).elim False λb=>Q (.bl b) M
 | .NotEq=>(yk M 9 x y).elim False λb=>Q (.bl (!b)) M
 | .Lt=>match x,y with|.int i,.int j=>Q (.bl (decide (i<j))) M|_,_=>False
 | .LtE=>match x,y with|.int i,.int j=>Q (.bl (decide (i<=j))) M|_,_=>False
 | .Gt=>match x,y with|.int i,.int j=>Q (.bl (decide (j<i))) M|_,_=>False
 | .GtE=>match x,y with|.int i,.int j=>Q (.bl (decide (j<=i))) M|_,_=>False
 | .Is=>match y with|.mL=>Q (.bl (match x with|.mL=>pc|_=>lf)) M|_=>False
 | .IsNot=>match y with|.mL=>Q (.bl (match x with|.mL=>lf|_=>pc)) M|_=>False
 | .In=>SA lf x y M Q
 | .NotIn=>SA pc x y M Q
def k3(op:CmpOp)(ta tb:T3):T3:=λU M Q=>ta U M λx M1=>tb U M1 λy M2=>Pr op x y M2 Q
def zu(h:rV K H d v)(f:uW d=pc):yz v=pc:=by
 cases d with
 | mL=>rw[h.mJ];rfl
 | bl _=>rw[h.mK];rfl
 | int _=>rw[h.int_inv];rfl
 | str _=>rw[h.str_inv];rfl
 | _=>cases f
def Jx(h:rV K H d v)(g:rV K H e w)(f:uW d=pc)(f':uW e=pc):NB v w=Qh d e:=by
 cases d with
 | mL=>
  rw[h.mJ];cases e with
  | mL=>rw[g.mJ];rfl
  | bl _=>rw[g.mK];rfl
  | int _=>rw[g.int_inv];rfl
  | str _=>rw[g.str_inv];rfl
  | _=>cases f'
 | bl _=>
  rw[h.mK];cases e with
  | mL=>rw[g.mJ];rfl
  | bl _=>rw[g.mK];rfl
  | int _=>rw[g.int_inv];rfl
  | str _=>rw[g.str_inv];rfl
  | _=>cases f'
 | int _=>
  rw[h.int_inv];cases e with
  | mL=>rw[g.mJ];rfl
  | bl _=>rw[g.mK];rfl
  | int _=>rw[g.int_inv];rfl
  | str _=>rw[g.str_inv];rfl
  | _=>cases f'
 | str _=>
  rw[h.str_inv];cases e with
  | mL=>rw[g.mJ];rfl
  | bl _=>rw[g.mK];rfl
  | int _=>rw[g.int_inv];rfl
  | str _=>rw[g.str_inv];rfl
  | _=>cases f'
 | _=>cases f
theorem Eu:∀{ds:T0 D} {xs:T0 V},qk K H ds xs->ds.all uW=pc->xs.all yz=pc
 | [],_,h,_=>by rw[h.nil_inv];rfl
 | d::ds,_,h,f=>by obtain⟨x,r,rfl,h1,h2⟩:=h.inv;rw[gv,dQ]at f ⊢;exact⟨zu h1 f.1,Eu h2 f.2⟩
theorem LS(g:rV K H e w)(f':uW e=pc):∀{ds:T0 D} {xs:T0 V},qk K H ds xs->ds.all uW=pc->inV w xs=inD e ds
 | [],_,h,_=>by rw[h.nil_inv];rfl
 | d::ds,_,h,f=>by obtain⟨x,r,rfl,h1,h2⟩:=h.inv;rw[gv,dQ]at f;show(NB x w||inV w r)=(Qh d e||inD e ds);rw[Jx h1 g f.1 f',LS g f' h2 f.2]
def FP(hm:HM K H M){y:D}{v:V}{ds:T0 D}(h:rV K H y v)(q:Nd M y=Fa ds):∃p xs,v=.ref p/\(zb K H p xs\/vb K H p xs)/\qk K H ds xs:=by
 cases y with
 | tup es=>cases q;obtain⟨a,xs,rfl,h1,h2⟩:=h.mP;exact⟨a,xs,Z',.inr h1,h2⟩
 | ref a=>cases h.mG;obtain⟨xs,h1,h2,_⟩:=qv hm q;exact⟨a,xs,Z',.inl h1,h2⟩
 | rl es=>cases q;obtain⟨a,xs,rfl,h1,h2⟩:=h.m9;exact⟨a,xs,Z',.inl h1.sq,h2⟩
 | _=>cases q
variable {c:zn}{tc:T3}
section
def Kx(op:CmpOp)(hu:X.A.units+9<ZP):xU X (Op op) (R3 X.K (Pr op)):=by
 intro Wx s Y H vx vy v u Q' I rx ry h;obtain⟨x,y,M,Q,hx,hy,hm,q,k⟩:=h;have bk:∀b,Q (.bl b) M->EP X Wx Y Q' (.bool b) s:=λb q=>⟨.bl b,H,I,Z',k _ _ _ _ .bl hm .refl q⟩;have inn:∀Yb:Bool,((Nd M y).elim False λds=>uW x=pc/\ds.all uW=pc/\Q (.bl (if Yb then !inD x ds else inD x ds)) M)->VN X.K Yb vx vy H Q':=λYb q=>by obtain⟨ds,e,f1,f2,q⟩:=qZ q;obtain⟨p,xs,rfl,h1,h2⟩:=FP hm hy e;refine⟨p,xs,Z',h1,zu hx f1,Eu h2 f2,?_⟩;rw[LS hx f1 h2 f2];exact k _ _ _ _ .bl hm .refl q
 cases op with
 | Eq=>obtain⟨b,e,q⟩:=qZ q;exact(EG I hm 9 X.A x y b vx vy v u hu e hx hy rx ry).1 _ _ _ _ (bk b q)
 | NotEq=>obtain⟨b,e,q⟩:=qZ q;exact(EG I hm 9 X.A x y b vx vy v u hu e hx hy rx ry).2.2 _ _ _ _ (bk _ q)
 | Lt=>
  cases x<;>first|exact q.elim|skip
  cases y<;>first|exact q.elim|skip
  cases hx.int_inv;cases hy.int_inv;exact T7 Wx s Y H _ _ v u Q' I rx ry ⟨_,_,Z',Z',k _ _ _ _ .bl hm .refl q⟩
 | LtE=>
  cases x<;>first|exact q.elim|skip
  cases y<;>first|exact q.elim|skip
  cases hx.int_inv;cases hy.int_inv;exact Td Wx s Y H _ _ v u Q' I rx ry ⟨_,_,Z',Z',k _ _ _ _ .bl hm .refl q⟩
 | Gt=>
  cases x<;>first|exact q.elim|skip
  cases y<;>first|exact q.elim|skip
  cases hx.int_inv;cases hy.int_inv;exact UA Wx s Y H _ _ v u Q' I rx ry ⟨_,_,Z',Z',k _ _ _ _ .bl hm .refl q⟩
 | GtE=>
  cases x<;>first|exact q.elim|skip
  cases y<;>first|exact q.elim|skip
  cases hx.int_inv;cases hy.int_inv;exact Ts Wx s Y H _ _ v u Q' I rx ry ⟨_,_,Z',Z',k _ _ _ _ .bl hm .refl q⟩
 | Is=>
  cases y<;>first|exact q.elim|skip
  cases hy.mJ;refine SB Wx s Y H _ _ v u Q' I rx ry ⟨Z',k _ _ _ _ ?_ hm .refl q⟩;cases x with
  | mL=>rw[hx.mJ];exact .bl
  | bl _=>rw[hx.mK];exact .bl
  | int _=>rw[hx.int_inv];exact .bl
  | str _=>rw[hx.str_inv];exact .bl
  | tup _=>obtain⟨a,xs,rfl,_⟩:=hx.mP;exact .bl
  | ref _=>rw[hx.mG];exact .bl
  | ty _=>rw[hx.og];exact .bl
  | rl _=>obtain⟨a,xs,rfl,_⟩:=hx.m9;exact .bl
 | IsNot=>
  cases y<;>first|exact q.elim|skip
  cases hy.mJ;refine NQ Wx s Y H _ _ v u Q' I rx ry ⟨Z',k _ _ _ _ ?_ hm .refl q⟩;cases x with
  | mL=>rw[hx.mJ];exact .bl
  | bl _=>rw[hx.mK];exact .bl
  | int _=>rw[hx.int_inv];exact .bl
  | str _=>rw[hx.str_inv];exact .bl
  | tup _=>obtain⟨a,xs,rfl,_⟩:=hx.mP;exact .bl
  | ref _=>rw[hx.mG];exact .bl
  | ty _=>rw[hx.og];exact .bl
  | rl _=>obtain⟨a,xs,rfl,_⟩:=hx.m9;exact .bl
 | In=>
  have q:SA lf x y M Q:=q;unfold SA at q;split at q
  .cases hx.str_inv;cases hy.str_inv;exact J8 Wx s Y H _ _ v u Q' I rx ry ⟨_,_,Z',Z',k _ _ _ _ .bl hm .refl q⟩
  .exact Kj Wx s Y H _ _ v u Q' I rx ry (inn lf q)
 | NotIn=>
  have q:SA pc x y M Q:=q;unfold SA at q;split at q
  .cases hx.str_inv;cases hy.str_inv;exact Fx Wx s Y H _ _ v u Q' I rx ry ⟨_,_,Z',Z',k _ _ _ _ .bl hm .refl q⟩
  .exact Fp Wx s Y H _ _ v u Q' I rx ry (inn pc q)
variable {a b:zn}
def qa{op:CmpOp}(hu:X.A.units+9<ZP)(ha:E3 X a ta)(hb:E3 X b tb)(hm:ZL op b=lf:=by first|exact Hy _|with_unfolding_all rfl):E3 X (.Compare a [op] [b] pos) (k3 op ta tb):=PE.mono (IA (Kx op hu) ha hb hm) Hj
def b3(t:T3):AE:=λU M Q=>t U M λd M1=>match d with|.bl c=>Q c M1|_=>False
def uV(h:E3 X e t)(he:∀W5,isTrue e X.env W5=(do let v<-W5;ZR e.pos;TD [v] (truthy v)):=by intro _;rfl):B3 X e (b3 t):=PT.mono (Sh h he) λY H Q' zz=>x7 zz λU M Q hs hm ht k=>
 ⟨U,M,_,hs,hm,ht,λv H1 d M1 hd Wz e1 q1=>by
  cases d with
  | bl c=>exact⟨c,hd.mK,k c H1 M1 Wz e1 q1⟩
  | _=>exact q1.elim⟩
def pH{op:CmpOp}(hu:X.A.units+9<ZP)(ha:E3 X a ta)(hb:E3 X b tb)(hm:ZL op b=lf:=by first|exact Hy _|with_unfolding_all rfl):B3 X (.Compare a [op] [b] pos) (b3 (k3 op ta tb)):=PT.mono (IE (Kx op hu) ha hb hm) λY H Q' zz=>x7 zz λU M Q hs hm ht k=>
 Hj Y H _ ⟨U,M,_,hs,hm,ht,λv H1 d M1 hd Wz e1 q1=>by
  cases d with
  | bl c=>exact⟨c,hd.mK,k c H1 M1 Wz e1 q1⟩
  | _=>exact q1.elim⟩
end
variable {tA tB:AE}{rest:T0 zn}
section
variable {a b:zn}
def Pz(t u:AE):AE:=λU M Q=>t U M λc M1=>if c=pc then u U M1 Q else Q lf M1
def Wk(t u:AE):AE:=λU M Q=>t U M λc M1=>if c=pc then Q pc M1 else u U M1 Q
def Uq(t:AE):AE:=λU M Q=>t U M λc M1=>Q (!c) M1
def W3(X:Cx)(e:zn)(t:AE):Prop:=PW X e (SX X.K t)
def PW.mono{t t':TT}(h:PW X e t)(m:∀Y H Q,t' Y H Q->t Y H Q):PW X e t':=λwh Wx s Y H Q I q=>h wh Wx s Y H Q I (m Y H Q q)
def W3.b3(h:W3 X e t):B3 X e t:=PW.pt h
def vF(h:B3 X a tA):W3 X (.BoolOp .And [a] pos) tA:=NR h
def vU(h:B3 X a tA):W3 X (.BoolOp .Or [a] pos) tA:=Ss h
def wH(ha:B3 X a tA)(hb:W3 X (.BoolOp .And (b::rest) pos) tB):W3 X (.BoolOp .And (a::b::rest) pos) (Pz tA tB):=PW.mono (SJ ha hb) λY H Q' zz=>x7 zz λU M Q hs hm ht k=>
 ⟨U,M,_,hs,hm,ht,λc H1 M1 Wz e1 q1=>by
  cases c with
  | true=>exact(cX Z').mpr ⟨U,M1,Q,hs.mono e1,Wz,(cX Z').mp q1,λb H' M' x1 x2 x3=>k b H' M' x1 (e1.trans x2) x3⟩
  | false=>exact(cV dh).mpr (k lf H1 M1 Wz e1 ((cV dh).mp q1))⟩
def ww(ha:B3 X a tA)(hb:W3 X (.BoolOp .Or (b::rest) pos) tB):W3 X (.BoolOp .Or (a::b::rest) pos) (Wk tA tB):=PW.mono (Tw ha hb) λY H Q' zz=>x7 zz λU M Q hs hm ht k=>
 ⟨U,M,_,hs,hm,ht,λc H1 M1 Wz e1 q1=>by
  cases c with
  | true=>exact(cX Z').mpr (k pc H1 M1 Wz e1 ((cX Z').mp q1))
  | false=>exact(cV dh).mpr ⟨U,M1,Q,hs.mono e1,Wz,(cV dh).mp q1,λb H' M' x1 x2 x3=>k b H' M' x1 (e1.trans x2) x3⟩⟩
def wO(ha:B3 X a tA):B3 X (.UnaryOp .Not a pos) (Uq tA):=PT.mono (Rc ha) λY H Q' zz=>x7 zz λU M Q hs hm ht k=>⟨U,M,_,hs,hm,ht,λc H1 M1 Wz e1 q1=>k _ H1 M1 Wz e1 q1⟩
def UJ(ta tb:T3):T3:=λU M Q=>ta U M λd M1=>match d with|.bl c=>if c=pc then tb U M1 Q else Q (.bl lf) M1|_=>False
def Vf(ta tb:T3):T3:=λU M Q=>ta U M λd M1=>match d with|.bl c=>if c=pc then Q (.bl pc) M1 else tb U M1 Q|_=>False
def Ud(ta:T3):T3:=λU M Q=>ta U M λd M1=>match d with|.bl c=>Q (.bl (!c)) M1|_=>False
def sf{op}(h:E3 X a ta):E3 X (.BoolOp op [a] pos) ta:=RZ h
def sI(ha:E3 X a ta)(hb:E3 X (.BoolOp .And (b::rest) pos) tb):E3 X (.BoolOp .And (a::b::rest) pos) (UJ ta tb):=PE.mono (Sm ha hb) λY H Q' zz=>x7 zz λU M Q hs hm ht k=>
 ⟨U,M,_,hs,hm,ht,λv H1 d M1 hd Wz e1 q1=>by
  cases d with
  | bl c=>
   refine⟨c,hd.mK,?_⟩;cases c with
   | true=>exact(cX Z').mpr ⟨U,M1,Q,hs.mono e1,Wz,(cX Z').mp q1,vR e1 k⟩
   | false=>exact(cV dh).mpr (k _ H1 _ M1 .bl Wz e1 ((cV dh).mp q1))
  | _=>exact q1.elim⟩
def Jp(ha:E3 X a ta)(hb:E3 X (.BoolOp .Or (b::rest) pos) tb):E3 X (.BoolOp .Or (a::b::rest) pos) (Vf ta tb):=PE.mono (Uz ha hb) λY H Q' zz=>x7 zz λU M Q hs hm ht k=>
 ⟨U,M,_,hs,hm,ht,λv H1 d M1 hd Wz e1 q1=>by
  cases d with
  | bl c=>
   refine⟨c,hd.mK,?_⟩;cases c with
   | true=>exact(cX Z').mpr (k _ H1 _ M1 .bl Wz e1 ((cX Z').mp q1))
   | false=>exact(cV dh).mpr ⟨U,M1,Q,hs.mono e1,Wz,(cV dh).mp q1,vR e1 k⟩
  | _=>exact q1.elim⟩
def Sn(ha:E3 X a ta):E3 X (.UnaryOp .Not a pos) (Ud ta):=PE.mono (RC ha) λY H Q' zz=>x7 zz λU M Q hs hm ht k=>
 ⟨U,M,_,hs,hm,ht,λv H1 d M1 hd Wz e1 q1=>by
  cases d with
  | bl c=>exact⟨c,hd.mK,k _ H1 _ M1 .bl Wz e1 q1⟩
  | _=>exact q1.elim⟩
def Wh(t:AE)(ta tb:T3):T3:=λU M Q=>t U M λc M1=>if c=pc then ta U M1 Q else tb U M1 Q
def Qp(hc:B3 X c tA)(ha:E3 X a ta)(hb:E3 X b tb):E3 X (.IfExp c a b pos) (Wh tA ta tb):=PE.mono (Lg hc ha hb) λY H Q' zz=>x7 zz λU M Q hs hm ht k=>
 ⟨U,M,_,hs,hm,ht,λc H1 M1 Wz e1 q1=>by
  cases c with
  | true=>exact(cX Z').mpr ⟨U,M1,Q,hs.mono e1,Wz,(cX Z').mp q1,vR e1 k⟩
  | false=>exact(cV dh).mpr ⟨U,M1,Q,hs.mono e1,Wz,(cV dh).mp q1,vR e1 k⟩⟩
def VU(x y:D)(M:Mp)(Q:DK):Prop:=match x,y with
 | .tup ds,.int i=>(vA ds i).elim False λd=>Q d M
 | .ref a,.int i=>(oC M a).elim False λds=>(vA ds i).elim False λd=>Q d M
 | .rl ds,.int i=>(vA ds i).elim False λd=>Q d M
 | .str z,.int i=>z.length<=Ch/\(vA z.cps.toList i).elim False λc=>Q (.str ⟨#[c]⟩) M
 | _,_=>False
def i3(ta tb:T3):T3:=λU M Q=>ta U M λx M1=>tb U M1 λy M2=>VU x y M2 Q
def EF{K:qx}{d:D}(h:qk K H ds xs)(e:vA ds i=Fa d):∃v,vA xs i=Fa v/\rV K H d v:=by
 unfold vA at e ⊢;rw[<-h.length];cases q:E8 ds.length i with
 | none=>rw[q]at e;cases e
 | some j=>rw[q]at e;exact h.get e
def Wr:S6 X (R3 X.K VU):=by
 intro value WK Wx s Y H vx vy v u Q' I rx ry h hs;obtain⟨x,y,M,Q,hx,hy,hm,q,k⟩:=h;unfold VU at q;split at q
 .obtain⟨d,e,q⟩:=qZ q;obtain⟨p,xs,rfl,h1,h2⟩:=hx.mP;cases hy.int_inv;obtain⟨w,e1,e2⟩:=EF h2 e;exact RF value WK Wx s Y H _ _ v u Q' I rx ry ⟨p,xs,_,w,Z',Z',h1,e1,k _ _ _ _ e2 hm .refl q⟩ hs
 .obtain⟨ds,e0,q⟩:=qZ q;obtain⟨d,e,q⟩:=qZ q;cases hx.mG;cases hy.int_inv;obtain⟨xs,h1,h2,_⟩:=qv hm e0;obtain⟨w,e1,e2⟩:=EF h2 e;exact Jv value WK Wx s Y H _ _ v u Q' I rx ry ⟨_,xs,_,w,Z',Z',h1,e1,k _ _ _ _ e2 hm .refl q⟩ hs
 .obtain⟨d,e,q⟩:=qZ q;obtain⟨p,xs,rfl,h1,h2⟩:=hx.m9;cases hy.int_inv;obtain⟨w,e1,e2⟩:=EF h2 e;exact Jv value WK Wx s Y H _ _ v u Q' I rx ry ⟨p,xs,_,w,Z',Z',h1.sq,e1,k _ _ _ _ e2 hm .refl q⟩ hs
 .obtain⟨q1,q⟩:=q;obtain⟨c,e,q⟩:=qZ q;cases hx.str_inv;cases hy.int_inv;exact RN value WK Wx s Y H _ _ v u Q' I rx ry ⟨_,_,c,Z',Z',q1,e,k _ _ _ _ .str hm .refl q⟩ hs
 .exact q.elim
def pK(ha:E3 X a ta)(hb:E3 X b tb)(hs:Bq b:=by exact λ_ _=>rfl):E3 X (.Subscript a b pos) (i3 ta tb):=PE.mono (Mq Wr ha hb hs) Hj
noncomputable def tM(ds:T0 D)(lo hi:Option Int):T0 D:=(ds.drop (HT.sX ds.length 0 lo)).take (HT.sX ds.length ds.length hi - HT.sX ds.length 0 lo)
def Es{K:qx}(q:qk K H ds xs):qk K H (tM ds l h) (CA xs l h):=by unfold tM CA;rw[q.length];exact(q.drop _).take _
abbrev SW:=vf->Mp->(Option Int->Mp->Prop)->Prop
def Wg(K:qx)(t:SW):TO:=λY H Q'=>De λU M Q=>yY K H Y U/\HM K H M/\t U M Q/\∀o H' M',HM K H' M'->qQ K H H'->Q o M'->Q' o H'
def O3(X:Cx)(e:Option zn)(t:SW):Prop:=PO X e (Wg X.K t)
def PH:SW:=λ_ M Q=>Q Db M
def T5(t:T3):SW:=λU M Q=>t U M λd M1=>match d with|.int i=>Q (Fa i) M1|_=>False
def PO.mono{t t':TO}(h:PO X e t)(m:∀Y H Q,t' Y H Q->t Y H Q):PO X e t':=λWx s Y H Q I q=>h Wx s Y H Q I (m Y H Q q)
def sC:O3 X Db PH:=PO.mono P' λY H Q' zz=>x7 zz λU M Q hs hm ht k=>k Db H M hm .refl ht
def rR(h:E3 X e t):O3 X (Fa e) (T5 t):=PO.mono (P3 h) λY H Q' zz=>x7 zz λU M Q hs hm ht k=>
 ⟨U,M,_,hs,hm,ht,λv H1 d M1 hd Wz e1 q1=>by
  cases d with
  | int i=>exact⟨i,hd.int_inv,k (Fa i) H1 M1 Wz e1 q1⟩
  | _=>exact q1.elim⟩
def VY(x:D)(lo hi:Option Int)(M:Mp)(Q:DK):Prop:=match x with
 | .tup ds=>Q (.tup (tM ds lo hi)) M
 | .ref a=>(oC M a).elim False λds=>∀p,M p=Db->Q (.ref p) (pI M p (.lst (tM ds lo hi)))
 | .rl ds=>∀p,M p=Db->Q (.ref p) (pI M p (.lst (tM ds lo hi)))
 | _=>False
def s3(te:T3)(tl th:SW):T3:=λU M Q=>te U M λx M1=>tl U M1 λl M2=>th U M2 λu M3=>VY x l u M3 Q
def VF(K:qx):V->Option Int->Option Int->Hp->VK->Prop:=λvx l u H Q'=>De λx M Q=>rV K H x vx/\HM K H M/\VY x l u M Q/\Up K H Q' Q
def PX{ds:T0 D}{lo hi:Option Int}(h:HT.sX ds.length 0 lo=0/\HT.sX ds.length ds.length hi=ds.length):tM ds lo hi=ds:=by unfold tM;rw[h.1,h.2,jb,kZ,fj]
def Vx:TN X (VF X.K):=by
 intro Wx s Y H vx v vl vu l u sl Q' I rx YN pl pu h;obtain⟨x,M,Q,hx,hm,q,k⟩:=h;cases x with
 | tup ds=>
  have q2:Q (.tup (tM ds l u)) M:=q;obtain⟨a,xs,rfl,h1,h2⟩:=hx.mP;by_cases q1:HT.sX ds.length 0 l=0/\HT.sX ds.length ds.length u=ds.length
  .rw[PX q1]at q2;exact Rw Wx s Y H _ v vl vu l u sl Q' I rx YN pl pu ⟨a,xs,Z',h1,by rw[<-h2.length];exact q1,k _ _ _ _ hx hm .refl q2⟩
  refine R9 Wx s Y H _ v vl vu l u sl Q' I rx YN pl pu ⟨a,xs,Z',h1,by rw[<-h2.length];exact q1,λp hp=>?_⟩;have e:qQ X.K H (upd H p (.tup (CA xs l u))):=.new hp;exact k _ _ _ _ (.tup (.of qh) ((Es h2).mono e)) (hm.add hp) e q2
 | ref a=>obtain⟨ds,e0,q⟩:=qZ q;cases hx.mG;obtain⟨xs,h1,h2,_⟩:=qv hm e0;refine Jn Wx s Y H _ v vl vu l u sl Q' I rx YN pl pu ⟨a,xs,Z',h1,λp hp=>?_⟩;have e:qQ X.K H (upd H p (.lst (CA xs l u))):=.new hp;exact k _ _ _ _ .ref (hm.new (c:=.lst (tM ds l u)) hp ⟨_,qh,(Es h2).mono e⟩) e (q p (hm.fresh hp))
 | rl ds=>obtain⟨a,xs,rfl,h1,h2⟩:=hx.m9;refine Jn Wx s Y H _ v vl vu l u sl Q' I rx YN pl pu ⟨a,xs,Z',h1.sq,λp hp=>?_⟩;have e:qQ X.K H (upd H p (.lst (CA xs l u))):=.new hp;exact k _ _ _ _ .ref (hm.new (c:=.lst (tM ds l u)) hp ⟨_,qh,(Es h2).mono e⟩) e (q p (hm.fresh hp))
 | _=>exact q.elim
def rC{lo hi:Option zn}{p2:Pos}(he:E3 X e te)(hl:O3 X lo tl)(hu:O3 X hi th):E3 X (.Subscript e (.Slice lo hi Db p2) pos) (s3 te tl th):=PE.mono (Mv Vx he hl hu) λY H Q' zz=>x7 zz λU M Q hs hm ht k=>⟨U,M,_,hs,hm,ht,λv H1 x M1 hx Wz e1 q1=>⟨U,M1,_,hs.mono e1,Wz,q1,λl H2 M2 WO e2 q2=>⟨U,M2,_,hs.mono (e1.trans e2),WO,q2,λu H3 M3 Xs e3 q3=>⟨x,M3,Q,hx.mono (e2.trans e3),Xs,q3,vR (e1.trans (e2.trans e3)) k⟩⟩⟩⟩
def xk:xZ:=λ_ M Q=>Q [] M
def uS(ta:T3)(tr:xZ):xZ:=λU M Q=>ta U M λx M1=>tr U M1 λxs M2=>Q (x::xs) M2
def sL:A3 X [] xk:=PA.mono Rm λY H Q' zz=>x7 zz λU M Q hs hm ht k=>k [] H [] M .nil hm .refl ht
def pY(ha:E3 X e te)(hr:A3 X es t)(hs:Bv X e es:=by rfl):A3 X (e::es) (uS te t):=PA.mono (O7 ha hr hs) λY H Q' zz=>x7 zz λU M Q hs hm ht k=>⟨U,M,_,hs,hm,ht,λv H1 x M1 hx Wz e1 q1=>⟨U,M1,_,hs.mono e1,Wz,q1,λvs H2 xs M2 Zp WO e2 q2=>k _ H2 _ M2 (.cons (hx.mono e2) Zp) WO (e1.trans e2) q2⟩⟩
def VS(t:xZ):T3:=λU M Q=>t U M λds M1=>ds.length<=Ch/\Q (.tup ds) M1
def S'(t:xZ):T3:=λU M Q=>t U M λds M1=>ds.length<=Ch/\∀p,M1 p=Db->Q (.ref p) (pI M1 p (.lst ds))
def pQ{x1}(h:A3 X es t):E3 X (.Tuple es x1 pos) (VS t):=PE.mono (R8 h) λY H Q' zz=>x7 zz λU M Q hs hm ht k=>
 ⟨U,M,_,hs,hm,ht,λvs H1 ds M1 XM Wz e1 q1=>⟨by rw[<-XM.length];exact q1.1,λp hp=>by
  have e:qQ X.K H1 (upd H1 p (.tup vs)):=.new hp;exact k _ _ _ M1 (.tup (.of qh) (XM.mono e)) (Wz.add hp) (e1.trans e) q1.2⟩⟩
def qN(h:A3 X es t):E3 X (.List es pos) (S' t):=PE.mono (SL h) λY H Q' zz=>x7 zz λU M Q hs hm ht k=>
 ⟨U,M,_,hs,hm,ht,λvs H1 ds M1 XM Wz e1 q1=>⟨by rw[<-XM.length];exact q1.1,λp hp=>by
  have e:qQ X.K H1 (upd H1 p (.lst vs)):=.new hp;exact k _ _ _ _ .ref (Wz.new (c:=.lst ds) hp ⟨_,qh,XM.mono e⟩) (e1.trans e) (q1.2 p (Wz.fresh hp))⟩⟩
def uz(t u:xS):xS:=λD U M=>t {D with nx:=u D} U M
def We:xS:=λD U M=>D.nx U M
def pL:Hg X [] We:=B4.mono Pe λD' Y H zz=>KM zz λU M D hs hm ht k1 k2 k3 k4=>k1 Y H U M hs hm .refl Z' ht
def pz{st:wE}{rest:T0 wE}(h1:S3 X st t)(h2:Hg X rest u):Hg X (st::rest) (uz t u):=B4.mono (NA h1 h2) λD' Y H zz=>KM zz λU M D hs hm ht k1 k2 k3 k4=>
 ⟨U,M,{D with nx:=u D},hs,hm,ht,λσ1 H1 δ1 M1 Zq Wz e1 l1 q1=>⟨δ1,M1,D,Zq,Wz,q1,λσ' H' δ' M' x1 x2 x3 x4 x5=>k1 σ' H' δ' M' x1 x2 (e1.trans x3) (x4.trans l1) x5,λv H' d M' x1 x2 x3 x4=>k2 v H' d M' x1 x2 (e1.trans x3) x4,λσ' H' δ' M' x1 x2 x3 x4 x5=>k3 σ' H' δ' M' x1 x2 (e1.trans x3) (x4.trans l1) x5,λσ' H' δ' M' x1 x2 x3 x4 x5=>k4 σ' H' δ' M' x1 x2 (e1.trans x3) (x4.trans l1) x5⟩,k2,k3,k4⟩
def pA{st:wE}(h1:S3 X st t):Hg X [st] t:=B4.mono (Fw h1) λD' Y H h=>h
def TR(te:T3):xS:=λD U M=>te U M λ_ M1=>D.nx U M1
def pR(he:E3 X e te)(X4:ZB e Db pos.line X.env=pure lf:=by rfl):S3 X (.Expr e pos) (TR te):=PS.mono (OX he X4) λD' Y H zz=>KM zz λU M D hs hm ht k1 k2 k3 k4=>⟨U,M,_,hs,hm,ht,λv H1 d M1 hd Wz e1 q1=>k1 Y H1 U M1 (hs.mono e1) Wz e1 Z' q1⟩
def On(te:T3):xS:=λD U M=>te U M D.rt
def pF(he:E3 X e te):S3 X (.Return (Fa e) pos) (On te):=PS.mono (QY he) λD' Y H zz=>KM zz λU M D hs hm ht k1 k2 k3 k4=>⟨U,M,_,hs,hm,ht,λv H1 d M1 hd Wz e1 q1=>k2 v H1 d M1 hd Wz e1 q1⟩
def Sa(c:AE)(t u:xS):xS:=λD U M=>c U M λb M1=>if b=pc then t D U M1 else u D U M1
def pS{tc:AE}(hc:B3 X c tc)(ha:Hg X as t)(hb:Hg X bs u):S3 X (.If c as bs pos) (Sa tc t u):=PS.mono (Uv hc ha hb) λD' Y H zz=>KM zz λU M D hs hm ht k1 k2 k3 k4=>
 ⟨U,M,_,hs,hm,ht,λb H1 M1 Wz e1 q1=>by
  have up:∀t:xS,t D U M1->U9 X.K t D' Y H1:=λt q=>⟨U,M1,D,hs.mono e1,Wz,q,λσ' H' δ' M' x1 x2 x3 x4 x5=>k1 σ' H' δ' M' x1 x2 (e1.trans x3) x4 x5,λv H' d M' x1 x2 x3 x4=>k2 v H' d M' x1 x2 (e1.trans x3) x4,λσ' H' δ' M' x1 x2 x3 x4 x5=>k3 σ' H' δ' M' x1 x2 (e1.trans x3) x4 x5,λσ' H' δ' M' x1 x2 x3 x4 x5=>k4 σ' H' δ' M' x1 x2 (e1.trans x3) x4 x5⟩
  cases b with
  | true=>exact(cX Z').mpr (up t ((cX Z').mp q1))
  | false=>exact(cV dh).mpr (up u ((cV dh).mp q1))⟩
def Sy:xS:=λ_ _ _=>False
def FX{st:wE}:S3 X st Sy:=PS.mono MM λD' Y H ⟨U,M,D,hs,hm,ht,_⟩=>ht
abbrev Dj:=D->vf->Mp->(vf->Mp->Prop)->Prop
def UO(K:qx)(g:Dj):TG:=λv Y H Q'=>BE λd U M Q=>rV K H d v/\yY K H Y U/\HM K H M/\g d U M Q/\∀σ' H' δ' M',yY K H' σ' δ'->HM K H' M'->qQ K H H'->σ'.length=Y.length->Q δ' M'->Q' σ' H'
def G3(X:Cx)(e:zn)(g:Dj):Prop:=PG X e (UO X.K g)
def PG.nO{t t':TG}(h:PG X e t)(m:∀v Y H Q,Y.length=X.N.length->t' v Y H Q->t v Y H Q):PG X e t':=λWx s Y H v u Q I r q=>h Wx s Y H v u Q I r (m v Y H Q I.len q)
def sF(i:Nat):Dj:=λd U M Q=>Q (U.set i (Fa d)) M
def IS{i:Nat}{x:Str}(hN:X.N.Nodup)(hi:X.N[i]?=Fa x)(hx:KI X.env.scope x)(hf:KJ X x:=by first|exact .inl Z'|exact .inr Z'|assumption):G3 X (.Name x pos) (sF i):=
 PG.nO (OS hN hi hx hf) λv Y H Q' hl ⟨d,U,M,Q,hd,hs,hm,ht,k⟩=>k _ H _ M (hs.set hd (by rw[hl];exact(cU.mp hi).1)) hm .refl (by simp) ht
abbrev Di:=T0 D->vf->Mp->(vf->Mp->Prop)->Prop
def Vz(K:qx)(g:Di):Om:=λvs Y H Q'=>BE λds U M Q=>qk K H ds vs/\yY K H Y U/\HM K H M/\g ds U M Q/\∀σ' H' δ' M',yY K H' σ' δ'->HM K H' M'->qQ K H H'->σ'.length=Y.length->Q δ' M'->Q' σ' H'
def Ta(X:Cx)(es:T0 zn)(g:Di):Prop:=ND X es (Vz X.K g)
def ND.mono{t t':Om}(h:ND X e t)(m:∀v Y H Q,t' v Y H Q->t v Y H Q):ND X e t':=λWx s Y H v u Q I r q=>h Wx s Y H v u Q I r (m v Y H Q q)
def PG.mono{t t':TG}(h:PG X e t)(m:∀v Y H Q,t' v Y H Q->t v Y H Q):PG X e t':=λWx s Y H v u Q I r q=>h Wx s Y H v u Q I r (m v Y H Q q)
def Iu:Di:=λds U M Q=>match ds with|[]=>Q U M|_=>False
def Cf(t:Dj)(u:Di):Di:=λds U M Q=>match ds with|d::r=>t d U M λδ' M'=>u r δ' M' Q|[]=>False
def ud:Ta X [] Iu:=ND.mono Pf λvs Y H Q' ⟨ds,U,M,Q,hd,hs,hm,ht,k⟩=>by
 cases ds with
 | nil=>exact⟨hd.nil_inv,k Y H U M hs hm .refl Z' ht⟩
 | cons _ _=>exact ht.elim
def qD(h1:G3 X e t)(h2:Ta X es u)(hs:(Rs (e::es) X.env).map (·.2)=assign e X.env::(Rs es X.env).map (·.2):=by rfl):Ta X (e::es) (Cf t u):=
 ND.mono (KS h1 h2 hs) λvs Y H Q' ⟨ds,U,M,Q,hd,hs,hm,ht,k⟩=>by
 cases ds with
 | nil=>exact ht.elim
 | cons d r=>obtain⟨x,xr,rfl,hx,hr⟩:=hd.inv;exact⟨x,xr,Z',d,U,M,_,hx,hs,hm,ht,λσ1 H1 δ1 M1 Zq Wz e1 l1 q1=>⟨r,δ1,M1,Q,hr.mono e1,Zq,Wz,q1,λσ' H' δ' M' x1 x2 x3 x4 x5=>k σ' H' δ' M' x1 x2 (e1.trans x3) (x4.trans l1) x5⟩⟩
def Qy(n:Nat)(t:Di):Dj:=λd U M Q=>match d with|.tup ds=>ds.length=n/\t ds U M Q|_=>False
def vk{n:Nat}(hc:X.calm=pc)(h:Ta X es t)(hn:(Rs es X.env).length=n:=by rfl)(WT:(Rs es X.env).findIdx? (·.1)=Db:=by rfl):G3 X (.Tuple es k pos) (Qy n t):=
 PG.mono (SK hc h hn WT) λv Y H Q' ⟨d,U,M,Q,hd,hs,hm,ht,k⟩=>by
 cases d with
 | tup ds=>obtain⟨a,xs,rfl,h1,h2⟩:=hd.mP;exact⟨a,xs,Z',h1,by rw[<-h2.length];exact ht.1,ds,U,M,Q,h2,hs,hm,ht.2,k⟩
 | _=>exact ht.elim
def Gb(te:T3)(g:Dj):xS:=λD U M=>te U M λx M1=>g x U M1 D.nx
def HB(he:E3 X e te)(hg:G3 X tg g)(hs:swapsWithSole [tg] e pos.line X.env=pure lf:=by rfl)(hw:swappedStores [tg] e X.env=pure Db:=by rfl)
  (h1:(Rs [tg] X.env).map (·.2)=[assign tg X.env]:=by rfl):S3 X (.Assign [tg] e pos) (Gb te g):=PS.mono (SE he hg hs hw h1) λD' Y H zz=>KM zz λU M D hs hm ht k1 k2 k3 k4=>
 ⟨U,M,_,hs,hm,ht,λv H1 d M1 hd Wz e1 q1=>⟨d,U,M1,_,hd,hs.mono e1,Wz,q1,λσ' H' δ' M' x1 x2 x3 x4 x5=>k1 σ' H' δ' M' x1 x2 (e1.trans x3) x4 x5⟩⟩
def Q6{i:Nat}{x:Str}(hN:X.N.Nodup)(hi:X.N[i]?=Fa x)(hx:KI X.env.scope x)(he:E3 X e te)(X4:ZB e (Fa (.Name x WI)) pos.line X.env=pure lf:=by rfl)
  (hf:KJ X x:=by first|exact .inl Z'|exact .inr Z'|assumption):S3 X (.Assign [.Name x WI] e pos) (Gb te (sF i)):=PS.nO (K9 hN hi hx he X4 hf) λD' Y H hl zz=>KM zz λU M D hs hm ht k1 k2 k3 k4=>
 ⟨U,M,_,hs,hm,ht,λv H1 d M1 hd Wz e1 q1=>k1 _ H1 _ M1 ((hs.mono e1).set hd (by rw[hl];exact(cU.mp hi).1)) Wz e1 (by simp) q1⟩
end
abbrev rj:=T0 D->Mp->DK->Prop
def NH(K:qx)(sp:rj):Sp:=λvs H Q' _=>De λds M Q=>qk K H ds vs/\HM K H M/\sp ds M Q/\Up K H Q' Q
noncomputable def wR(N:QQQ)(ds:T0 D):vf:=ds.map Fa++List.replicate (N.length - ds.length) Db
def DT{K:qx}(h:qk K H ds vs):yY K H (L2.start N vs) (wR N ds):=λi d q=>by
 unfold wR at q;unfold L2.start;by_cases hi:i<ds.length
 .rw[eW (by simpa using hi),dq]at q;cases e:ds[i]? with
  | none=>rw[e]at q;cases q
  | some d'=>rw[e]at q;cases q;obtain⟨v,e1,e2⟩:=h.get e;refine⟨v,?_,e2⟩;rw[eW (by rw[cQ,<-h.length];exact hi),dq,e1];rfl
 .rw[eE (by simpa using hi),jR]at q;split at q<;>cases q
variable {P:Pg}{w:Wo}{mg:QQZ}{base:Go}
abbrev SV(P:Pg)(w:Wo)(K:qx)(mg:QQZ)(base:Go)(k:Nat)(f:Uf)(fd:Ix)(ps:QQQ)(sp:rj):Prop:=xw P w K mg base NG k f fd ps (NH K sp)
variable {k:Nat}{f C:Uf}{fd:Ix}{ps:QQQ}{sp:rj}{x m fn:Str}{p WB:Pos}{e o:zn}{es:T0 zn}{t:xZ}
def BK(sp:rj)(t:xZ):T3:=λU M Q=>t U M λds M1=>sp ds M1 Q
def NS(F:SV X.prog X.w X.K X.mg X.base k f fd ps sp)(hr:rZ k X.A)(hg:Gl X x)(hm:X.mg x=Fa (.ref f))(hk:W.keepIn X.K (.ref f)=pc)(hb:uO X.K fd ps [])(ha:A3 X (e::es) t) (WQ:zI x:=by decide) (he:Bv X e es:=by rfl) (WN:CS X pos es:=by rfl):
  E3 X (.Call (.Name x p) (e::es) [] pos) (BK sp t):=PE.mono (Pc F hr hg hm hk hb .nil (G5 (X:=X)) ha WQ he WN) λY H Q' zz=>x7 zz λU M Q hs hm ht k=>
 ⟨U,M,_,hs,hm,ht,λvs H1 ds M1 hd Wz e1 q1=>⟨ds,M1,Q,by rw[dO];exact hd,Wz,q1,vR e1 k⟩⟩
def C3(X:Cx)(f:Vl)(r:rj):Prop:=zO X f λvs H Q'=>∃ds M Q,qk X.K H ds vs/\HM X.K H M/\r ds M Q/\Up X.K H Q' Q
def pV{id:String}(hc:C3 X (.builtin id) r)(hg:Gl X x)(hm:X.mg x=Db)(hv:No x=Fa (.builtin id))(ha:A3 X (e::es) t)(hn:x≠"__name__":=by decide)(WQ:zI x:=by decide)
  (he:Bv X e es:=by rfl) (WN:CS X pos es:=by rfl):E3 X (.Call (.Name x p) (e::es) [] pos) (BK r t):=
 PE.mono (Mu hc hg hm hv ha hn WQ he WN) λY H Q' zz=>x7 zz λU M Q hs hm ht k=>⟨U,M,_,hs,hm,ht,λvs H1 ds M1 hd Wz e1 q1=>⟨ds,M1,Q,hd,Wz,q1,vR e1 k⟩⟩
def qB{T:String}(hc:C3 X (.type T) r)(hg:Gl X x)(hm:X.mg x=Db)(hv:No x=Fa (.type T))(ha:A3 X (e::es) t)(hn:x≠"__name__":=by decide)(WQ:zI x:=by decide)
  (he:Bv X e es:=by rfl) (WN:CS X pos es:=by rfl):E3 X (.Call (.Name x p) (e::es) [] pos) (BK r t):=
 PE.mono (JM hc hg hm hv ha hn WQ he WN) λY H Q' zz=>x7 zz λU M Q hs hm ht k=>⟨U,M,_,hs,hm,ht,λvs H1 ds M1 hd Wz e1 q1=>⟨ds,M1,Q,hd,Wz,q1,vR e1 k⟩⟩
def SU(ds:T0 D)(M:Mp)(Q:DK):Prop:=match ds with
 | [.str z]=>z.length<=Ch/\Q (.int z.length) M
 | [.tup es]=>Q (.int es.length) M
 | [.ref a]=>(oC M a).elim False λes=>Q (.int es.length) M
 | [.rl es]=>Q (.int es.length) M
 | _=>False
def sA{K:qx}{d:D}(h:qk K H [d] vs):∃v,vs=[v]/\rV K H d v:=by obtain⟨x,r,rfl,a,b⟩:=h.inv;rw[b.nil_inv];exact⟨x,Z',a⟩
def IW{K:qx}{d e:D}(h:qk K H [d,e] vs):∃v u,vs=[v,u]/\rV K H d v/\rV K H e u:=by obtain⟨x,r,rfl,a,b⟩:=h.inv;obtain⟨y,rfl,c⟩:=sA b;exact⟨x,y,Z',a,c⟩
def qw:C3 X (.builtin "len") SU:=by
 intro Wx s Y H vs us Q' I rv h;obtain⟨ds,M,Q,hd,hm,q,k⟩:=h;unfold SU at q;split at q
 .obtain⟨v,rfl,hv⟩:=sA hd;cases hv.str_inv;exact Fl Wx s Y H _ us Q' I rv ⟨_,Z',q.1,k _ _ _ _ .int hm .refl q.2⟩
 .obtain⟨v,rfl,hv⟩:=sA hd;obtain⟨a,xs,rfl,h1,h2⟩:=hv.mP;exact xb Wx s Y H _ us Q' I rv ⟨a,xs,Z',.inr h1,k _ _ _ _ (by rw[<-h2.length];exact .int) hm .refl q⟩
 .obtain⟨v,rfl,hv⟩:=sA hd;obtain⟨es,e0,q⟩:=qZ q;cases hv.mG;obtain⟨xs,h1,h2,_⟩:=qv hm e0;exact xb Wx s Y H _ us Q' I rv ⟨_,xs,Z',.inl h1,k _ _ _ _ (by rw[<-h2.length];exact .int) hm .refl q⟩
 .obtain⟨v,rfl,hv⟩:=sA hd;obtain⟨a,xs,rfl,h1,h2⟩:=hv.m9;exact xb Wx s Y H _ us Q' I rv ⟨a,xs,Z',.inl h1.sq,k _ _ _ _ (by rw[<-h2.length];exact .int) hm .refl q⟩
 .exact q.elim
def UK(ds:T0 D)(M:Mp)(Q:DK):Prop:=match ds with
 | [.int i,.int j]=>Q (.int (if j<i then j else i)) M
 | _=>False
def RE(hc:X.calm=pc):C3 X (.builtin "min") UK:=by
 intro Wx s Y H vs us Q' I rv h;obtain⟨ds,M,Q,hd,hm,q,k⟩:=h;unfold UK at q;split at q
 .obtain⟨v,u,rfl,hv,hw⟩:=IW hd;cases hv.int_inv;cases hw.int_inv;exact Ka hc Wx s Y H _ us Q' I rv ⟨_,_,Z',k _ _ _ _ .int hm .refl q⟩
 .exact q.elim
def Nz(ds:T0 D)(M:Mp)(Q:DK):Prop:=match ds with
 | [.tup es]=>Q (.tup es) M
 | [.ref a]=>(oC M a).elim False λes=>Q (.tup es) M
 | [.rl es]=>Q (.tup es) M
 | _=>False
def uN:C3 X (.type "tuple") Nz:=by
 intro Wx s Y H vs us Q' I rv h;obtain⟨ds,M,Q,hd,hm,q,k⟩:=h;unfold Nz at q;split at q
 .obtain⟨v,rfl,hv⟩:=sA hd;obtain⟨a,xs,rfl,h1,h2⟩:=id hv.mP;exact we Wx s Y H _ us Q' I rv ⟨a,xs,Z',.inr ⟨h1,k _ _ _ _ hv hm .refl q⟩⟩
 .obtain⟨v,rfl,hv⟩:=sA hd;obtain⟨es,e0,q⟩:=qZ q;cases hv.mG;obtain⟨xs,h1,h2,_⟩:=qv hm e0;refine we Wx s Y H _ us Q' I rv ⟨_,xs,Z',.inl ⟨h1,λl hl=>?_⟩⟩;have e:qQ X.K H (upd H l (.tup xs)):=.new hl;exact k _ _ _ _ (.tup (.of qh) (h2.mono e)) (hm.add hl) e q
 .obtain⟨v,rfl,hv⟩:=sA hd;obtain⟨a,xs,rfl,h1,h2⟩:=hv.m9;refine we Wx s Y H _ us Q' I rv ⟨_,xs,Z',.inl ⟨h1.sq,λl hl=>?_⟩⟩;have e:qQ X.K H (upd H l (.tup xs)):=.new hl;exact k _ _ _ _ (.tup (.of qh) (h2.mono e)) (hm.add hl) e q
 .exact q.elim
def Ql(ds:T0 D)(M:Mp)(Q:DK):Prop:=match ds with
 | [d]=>(Nd M d).elim False λes=>∀p,M p=Db->Q (.ref p) (pI M p (.lst es))
 | _=>False
def tZ:C3 X (.type "list") Ql:=by
 intro Wx s Y H vs us Q' I rv h;obtain⟨ds,M,Q,hd,hm,q,k⟩:=h;unfold Ql at q;split at q
 .obtain⟨v,rfl,hv⟩:=sA hd;obtain⟨es,e0,q⟩:=qZ q;obtain⟨p,xs,rfl,h1,h2⟩:=FP hm hv e0;refine FE Wx s Y H _ us Q' I rv ⟨p,xs,Z',h1,λl hl=>?_⟩;have e:qQ X.K H (upd H l (.lst xs)):=.new hl;exact k _ _ _ _ .ref (hm.new (c:=.lst es) hl ⟨_,qh,h2.mono e⟩) e (q l (hm.fresh hl))
 .exact q.elim
theorem wI{K:qx}{f:Str}:∀{fs:T0 (Str×D)} {vs:T0 (Str×V)},By K H fs vs->(∀d,fs.lookup f=Fa d->∃v,vs.lookup f=Fa v/\rV K H d v)/\(fs.lookup f=Db->vs.lookup f=Db)
 | [],[],_=>⟨λd e=>by simp at e,λ_=>rfl⟩
 | [],_::_,h=>by have:=h.1;simp at this
 | _::_,[],h=>by have:=h.1;simp at this
 | (g,d)::fs,(g',v)::vs,h=>by
  have h1:g'=g/\vs.map (·.1)=fs.map (·.1):=by
   have:=h.1
   simpa using this
  obtain⟨x,r,e,a,b⟩:=h.2.inv;have e':v::vs.map (·.2)=x::r:=e;cases e';obtain⟨i1,i2⟩:=wI (f:=f) (fs:=fs) (vs:=vs) ⟨h1.2,b⟩;rw[h1.1];refine⟨λd' e=>?_,λe=>?_⟩
  .rw[eK]at e ⊢;cases q:f==g with
   | true=>rw[q]at e;cases e;exact⟨v,Z',a⟩
   | false=>rw[q]at e;exact i1 d' e
  .rw[eK]at e ⊢;cases q:f==g with
   | true=>rw[q]at e;cases e
   | false=>rw[q]at e;exact i2 e
theorem IH{f:Str}{d:D}:∀{fs:T0 (Str×D)},fs.lookup f=Fa d->f∈fs.map (·.1)
 | [],h=>by simp at h
 | (g,e)::r,h=>by
  rw[eK]at h;cases q:f==g with
  | true=>
   have z:f=g:=by simpa using q
   rw[z,dW];exact dI
  | false=>rw[q]at h;simp[IH h]
def Aq(o:Option uP)(F:Uf->T0 (Str×D)->Prop):Prop:=match o with
 | some (.ins C fs)=>F C fs
 | _=>False
def pB{o:Option uP}{F:Uf->T0 (Str×D)->Prop}{C:Uf}{fs:T0 (Str×D)}(e:o=Fa (.ins C fs))(h:F C fs):Aq o F:=by rw[e];exact h
def yc{o:Option uP}(h:Aq o F):∃C fs,o=Fa (.ins C fs)/\F C fs:=by
 unfold Aq at h;split at h
 .exact⟨_,_,Z',h⟩
 .exact h.elim
def VC(f:Str)(ta:T3):T3:=λU M Q=>ta U M λx M1=>match x with
 | .ref a=>Aq (M1 a) λ_ fs=>(fs.lookup f).elim False λd=>Q d M1
 | _=>False
def pG{f:Str}(he:E3 X o ta)(hb:At o f X.env (wp o X.env)=wp o X.env:=by rfl):E3 X (.Attribute o f pos) (VC f ta):=PE.mono (Re he hb) λY H Q' zz=>x7 zz λU M Q hs hm ht k=>
 ⟨U,M,_,hs,hm,ht,λv H1 d M1 hd Wz e1 q1=>by
  cases d with
  | ref a=>cases hd.mG;obtain⟨C,fs,e,q1⟩:=yc q1;obtain⟨d,e2,q⟩:=qZ q1;obtain⟨dx,vs,h1,cl,na,fo⟩:=Wz a _ e;obtain⟨v,e3,hv⟩:=(wI fo).1 d e2;exact⟨a,C,dx,vs,v,Z',h1,cl,na f (IH e2),e3,k v H1 d M1 hv Wz e1 q⟩
  | _=>exact q1.elim⟩
noncomputable def wc(f:Str)(v:D):T0 (Str×D)->T0 (Str×D)
 | []=>[(f,v)]
 | (g,u)::r=>if g=f then(g,v)::r else(g,u)::wc f v r
theorem E5{K:qx}{f:Str}(hv:rV K H d v):∀{fs:T0 (Str×D)} {vs:T0 (Str×V)},By K H fs vs->By K H (wc f d fs) (vD f v vs)
 | [],[],_=>⟨Z',.cons hv .nil⟩
 | [],_::_,h=>by have:=h.1;simp at this
 | _::_,[],h=>by have:=h.1;simp at this
 | (g,e)::fs,(g',u)::vs,h=>by
  have h1:g'=g/\vs.map (·.1)=fs.map (·.1):=by
   have:=h.1
   simpa using this
  obtain⟨x,r,e1,a,b⟩:=h.2.inv;have e':u::vs.map (·.2)=x::r:=e1;cases e';obtain⟨hg,ht⟩:=h1;subst hg;rw[show wc f d ((g',e)::fs)=(if g'=f then(g',d)::fs else(g',e)::wc f d fs)from Z',show vD f v ((g',u)::vs)=(if g'=f then(g',v)::vs else(g',u)::vD f v vs)from Z'];by_cases q:g'=f
  .rw[cX q,cX q];exact⟨by simpa using ht,.cons hv b⟩
  .rw[cV q,cV q];obtain⟨i1,i2⟩:=E5 hv (fs:=fs) (vs:=vs) ⟨ht,b⟩;exact⟨by simpa using i1,.cons a i2⟩
theorem Ck{f:Str}:∀{fs:T0 (Str×D)} {g:Str},g∈(wc f d fs).map (·.1)->g=f\/g∈fs.map (·.1)
 | [],g,h=>.inl (by simpa [wc]using h)
 | (k,e)::r,g,h=>by
  rw[show wc f d ((k,e)::r)=(if k=f then(k,d)::r else(k,e)::wc f d r)from Z']at h;by_cases q:k=f
  .rw[cX q]at h;exact .inr (by simpa using h)
  .rw[cV q]at h;rw[dW,de]at h;rcases h with h|h
   .exact .inr (by simp[h])
   .rcases Ck h with z|z
    .exact .inl z
    .exact .inr (by simp;right;simpa using z)
def T1(K:qx)(f:Str)(ta tv:T3):xS:=λD U M=>tv U M λy M1=>ta U M1 λx M2=>match x with
 | .ref a=>Aq (M2 a) λC fs=>ue K C f/\fs.length<1000/\D.nx U (pI M2 a (.ins C (wc f y fs)))
 | _=>False
def qe{f:Str}(ha:E3 X o ta)(hv:E3 X value tv)(X4:ZB value (Fa (.Attribute o f WI)) pos.line X.env=pure lf:=by rfl):S3 X (.Assign [.Attribute o f WI] value pos) (T1 X.K f ta tv):=
 PS.mono (RK ha hv X4) λD' Y H zz=>KM zz λU M D hs hm ht k1 k2 k3 k4=>
 ⟨U,M,_,hs,hm,ht,λy H1 dy M1 hy Wz e1 q1=>⟨U,M1,_,hs.mono e1,Wz,q1,λv H2 d M2 hd WO e2 q2=>by
  cases d with
  | ref a=>
   cases hd.mG;obtain⟨C,fs,e,q2⟩:=yc q2;obtain⟨na,hl,q⟩:=q2;obtain⟨dx,vs,h1,cl,nn,fo⟩:=WO a _ e;have WD:vs.length=fs.length:=by have:=eJ List.length fo.1;simpa using this
   refine⟨a,C,dx,vs,Z',h1,cl,na,by lia,?_⟩;obtain⟨Xs,e3⟩:=WO.put (p:=a) (o:=.ins C dx (vD f y vs)) (c:=.ins C (wc f dy fs)) e λx=>⟨dx,_,qh,cl,λg hg=>by
    rcases Ck hg with z|z
    .rw[z];exact na
    .exact nn g z,E5 ((hy.mono e2).mono x) (fo.mono x)⟩
   exact k1 Y _ U _ (hs.mono (e1.trans (e2.trans e3))) Xs (e1.trans (e2.trans e3)) Z' q
  | _=>exact q2.elim⟩⟩
def Qt(C:Uf)(sp:rj)(t:xZ):T3:=λU M Q=>t U M λds M1=>∀x,M1 x=Db->sp (.ref x::ds) (pI M1 x (.ins C [])) λd M2=>d=.mL/\Q (.ref x) M2
def MU{K:qx}{xa dx:Uf}(hm:HM K H M)(cl:Cls K C)(h1:H xa=Db)(h2:H dx=Db)(ne:dx≠xa):HM K (upd (upd H dx (.own xa)) xa (.ins C dx [])) (pI M xa (.ins C []))/\qQ K H (upd (upd H dx (.own xa)) xa (.ins C dx [])):=by
 have Xh:upd H dx (.own xa) xa=Db:=by rw[pZ (dG ne)];exact h1
 exact⟨(hm.add (p:=dx) (o:=.own xa) h2).new Xh ⟨dx,[],qh,cl,λg hg=>by simp at hg,Z',.nil⟩,qQ.trans (.new h2) (.new Xh)⟩
def OG(cl:Cls X.K C)(Mk':Mk X.K C f)(F:SV X.prog X.w X.K X.mg X.base k f fd ps sp)(hr:rZ (k+1) X.A)(hg:Gl X x)(hm:X.mg x=Fa (.ref C))(hb:uO X.K fd ps [])(ha:A3 X (e::es) t) (WQ:zI x:=by decide) (he:Bv X e es:=by rfl) (WN:CS X pos es:=by rfl):
  E3 X (.Call (.Name x p) (e::es) [] pos) (Qt C sp t):=PE.mono (P7 Mk' F hr hg hm hb .nil (G5 (X:=X)) ha WQ he WN) λY H Q' zz=>x7 zz λU M Q hs hm ht k=>
 ⟨U,M,_,hs,hm,ht,λvs H1 ds M1 hd Wz e1 q1=>λxa dx n1 n2 ne=>by
  obtain⟨WO,e2⟩:=MU Wz cl n1 n2 ne;refine⟨.ref xa::ds,_,_,?_,WO,q1 xa (Wz.fresh n1),λv H3 d M3 hd3 Xs e3 q3=>?_⟩
  .rw[dO];exact .cons .ref (hd.mono e2)
  .obtain⟨z,q3⟩:=q3;subst z;exact⟨hd3.mJ,k _ H3 _ M3 .ref Xs (e1.trans (e2.trans e3)) q3⟩⟩
def HJ(m:Str)(R:Uf->Sp->Prop)(ta:TE)(t:TA):TE:=λY H Q=>ta Y H λx H1=>∃a C dx fs sp,x=.ref a/\H1 a=Fa (.ins C dx fs)/\fs.lookup m=Db/\R C sp/\t Y H1 λvs H2=>sp (x::vs) H2 Q E0
def xJ(P:Pg)(w:Wo)(K:qx)(mg:QQZ)(base:Go)(k:Nat)(m:Str)(C:Uf)(sp:Sp):Prop:=Cls K C/\∃f fd ps,vE K C m f/\xw P w K mg base NG k f fd ps sp/\uO K fd ps []
def MC{R:Uf->Sp->Prop}{ta:TE}{t:TA}{pl:Sem Bool}(he:PE X o ta)(hR:∀C sp,R C sp->xJ X.prog X.w X.K X.mg X.base k m C sp)(hr:rZ k X.A)(ha:PA X (e::es) t) (WT:Bv X e es:=by rfl) (WN:CS X pos es:=by rfl)
  (ht:wp (.Call (.Attribute o m WB) (e::es) [] pos) X.env=(do
   let ov<-wp o X.env
   ZR WB.atName
   let(f,first)<-TD [ov] (ZN ov m pl)
   ZT pos f first (sB pos (Tl (e::es) X.env)) (sK pos (Ps [] X.env))):=by rfl):
  PE X (.Call (.Attribute o m WB) (e::es) [] pos) (HJ m R ta t):=by
 intro Wx s Y H Q I h;refine jX (pl:=pl) (sG (he Wx s Y H _ I h) λu s1 zz=>?_) ht;obtain⟨x,H1,I1,rx,a,C,dx,fs,sp,ex,ea,l,hRC,q⟩:=zz;obtain⟨c,f,fd,ps,hm,F,hb⟩:=hR C sp hRC;subst ex;obtain rfl:u=Value.ref a:=rx;refine B' I1 ea c hm l ?_;refine iM (first:=[.ref a]) (h₀:=X.base) I.ok.mod.oK hm.kp (sG (ha pos Wx s1 Y H1 _ I1 q) λus s2 zz=>x5 zz λvs H2 I2 r q2=>⟨I2.nA,?_⟩) WT WN;exact Fu (us:=.ref a::us) (vs:=.ref a::vs) F hr hb .nil (G5 (X:=X)) I2 (.cons Z' r) (by rw[dO];exact q2)
def Kz{R:Uf->Sp->Prop}{ta:TE}{pl:Sem Bool}(he:PE X o ta)(hR:∀C sp,R C sp->xJ X.prog X.w X.K X.mg X.base k m C sp)(hr:rZ k X.A) (ht:wp (.Call (.Attribute o m WB) [] [] pos) X.env=(do
   let ov<-wp o X.env
   ZR WB.atName
   let(f,first)<-TD [ov] (ZN ov m pl)
   ZT pos f first (sB pos (Tl [] X.env)) (sK pos (Ps [] X.env))):=by rfl):
  PE X (.Call (.Attribute o m WB) [] [] pos) (HJ m R ta Ur):=by
 intro Wx s Y H Q I h;refine jX (pl:=pl) (sG (he Wx s Y H _ I h) λu s1 zz=>?_) ht;obtain⟨x,H1,I1,rx,a,C,dx,fs,sp,ex,ea,l,hRC,q⟩:=zz;obtain⟨c,f,fd,ps,hm,F,hb⟩:=hR C sp hRC;subst ex;obtain rfl:u=Value.ref a:=rx;refine B' I1 ea c hm l ?_;exact W.callWith_K0 (first:=[.ref a]) I1.nA hm.kp (Fu (us:=[.ref a]) (vs:=[.ref a]) F hr hb .nil (G5 (X:=X)) I1 (.cons Z' .nil) (by rw[dO];exact q))
def AB(m:Str)(R:Uf->rj->Prop)(ta:T3)(t:xZ):T3:=λU M Q=>ta U M λx M1=>match x with
 | .ref a=>Aq (M1 a) λC fs=>fs.lookup m=Db/\∃sp,R C sp/\t U M1 λds M2=>sp (x::ds) M2 Q
 | _=>False
def VT(K:qx)(R:Uf->rj->Prop):Uf->Sp->Prop:=λC sp'=>∃sp,R C sp/\sp'=NH K sp
def IJ:∀Y H Q',lo X.K (AB m R ta t) Y H Q'->HJ m (VT X.K R) (lo X.K ta) (Wc X.K t) Y H Q':=λY H Q' zz=>x7 zz λU M Q hs hm ht k=>
 ⟨U,M,_,hs,hm,ht,λv H1 d M1 hd Wz e1 q1=>by
  cases d with
  | ref a=>cases hd.mG;obtain⟨C,fs,e,q1⟩:=yc q1;obtain⟨hn,sp,hR,q⟩:=q1;obtain⟨dx,vs,h1,cl,na,fo⟩:=Wz a _ e;exact⟨a,C,dx,vs,_,Z',h1,(wI fo).2 hn,⟨sp,hR,Z'⟩,U,M1,_,hs.mono e1,Wz,q,λus H2 ds M2 XM WO e2 q2=>⟨.ref a::ds,M2,Q,.cons .ref XM,WO,q2,vR (e1.trans e2) k⟩⟩
  | _=>exact q1.elim⟩
def Ff{R:Uf->rj->Prop}{pl:Sem Bool}(he:E3 X o ta)(hR:∀C sp,R C sp->xJ X.prog X.w X.K X.mg X.base k m C (NH X.K sp))(hr:rZ k X.A)(ha:A3 X (e::es) t) (WT:Bv X e es:=by rfl) (WN:CS X pos es:=by rfl)
  (ht:wp (.Call (.Attribute o m WB) (e::es) [] pos) X.env=(do
   let ov<-wp o X.env
   ZR WB.atName
   let(f,first)<-TD [ov] (ZN ov m pl)
   ZT pos f first (sB pos (Tl (e::es) X.env)) (sK pos (Ps [] X.env))):=by rfl):
  E3 X (.Call (.Attribute o m WB) (e::es) [] pos) (AB m R ta t):=PE.mono (MC (R:=VT X.K R) he (λC sp' ⟨sp,h,z⟩=>by rw[z];exact hR C sp h) hr ha WT WN ht) IJ
def CD{R:Uf->rj->Prop}{pl:Sem Bool}(he:E3 X o ta)(hR:∀C sp,R C sp->xJ X.prog X.w X.K X.mg X.base k m C (NH X.K sp))(hr:rZ k X.A) (ht:wp (.Call (.Attribute o m WB) [] [] pos) X.env=(do
   let ov<-wp o X.env
   ZR WB.atName
   let(f,first)<-TD [ov] (ZN ov m pl)
   ZT pos f first (sB pos (Tl [] X.env)) (sK pos (Ps [] X.env))):=by rfl):
  E3 X (.Call (.Attribute o m WB) [] [] pos) (AB m R ta xk):=PE.mono (Kz (R:=VT X.K R) he (λC sp' ⟨sp,h,z⟩=>by rw[z];exact hR C sp h) hr ht) λY H Q' h=>by
 obtain⟨U,M,Q,hs,hm,ht,k⟩:=IJ (t:=xk) Y H Q' h;refine⟨U,M,Q,hs,hm,ht,λv H' d M' x1 x2 x3 x4=>?_⟩;obtain⟨a,C,dx,fs,sp,e1,e2,e3,e4,δ',WA,Q'',y1,y2,y3,y4⟩:=k v H' d M' x1 x2 x3 x4;exact⟨a,C,dx,fs,sp,e1,e2,e3,e4,y4 [] H' [] WA .nil y2 .refl y3⟩
structure G9(K:qx)(H1:Hp)(J:It)(ds:List D)(ok:Mp->Prop):Prop where
 go:∀i H M,i<ds.length->HM K H M->ok M->qQ K H1 H->J.go i H
 oS:∀i d H M x H',ds[i]?=Fa d->HM K H M->ok M->qQ K H1 H->J.oS i H x H'->rV K H' d x/\HM K H' M/\qQ K H H'
 stop:∀H M,HM K H M->ok M->qQ K H1 H->J.stop ds.length H
abbrev NC:=vf->Mp->(T0 D->(Mp->Prop)->Mp->Prop)->Prop
def V9(K:qx)(wi:NC):TI:=λY H R'=>De λU M R=>yY K H Y U/\HM K H M/\wi U M R/\∀J H1 ds ok M1,G9 K H1 J ds ok->HM K H1 M1->qQ K H H1->ok M1->R ds ok M1->R' J H1
def I3(X:Cx)(tg iter:zn)(wi:NC):Prop:=PI X tg iter (V9 X.K wi)
def PI.mono{t t':TI}(h:PI X tg e t)(m:∀Y H Q,t' Y H Q->t Y H Q):PI X tg e t':=λWx s Y H Q I q=>h Wx s Y H Q I (m Y H Q q)
variable {H1:Hp}
def Nt:G9 K H1 (UR K a) ds (λM=>oC M a=Fa ds) where
 go:=λi H M hi hm ok _=>by obtain⟨xs,h1,h2,_⟩:=qv hm ok;obtain⟨x,e,_⟩:=h2.get (cS hi);exact⟨xs,x,h1,e⟩
 oS:=λi d H M x H' hd hm ok _ y=>by obtain⟨xs,h1,h2,_⟩:=qv hm ok;obtain⟨e,y⟩:=y;subst e;obtain⟨x',e,hx⟩:=h2.get hd;have:=y xs h1;rw[e]at this;cases this;exact⟨hx,hm,.refl⟩
 stop:=λH M hm ok _=>by obtain⟨xs,h1,h2,_⟩:=qv hm ok;exact⟨xs,h1,by rw[h2.length];exact cZ _⟩
def NX(h1:vb K H1 a xs)(h2:qk K H1 ds xs):G9 K H1 (Vg K a) ds (λ_=>True) where
 go:=λi H M hi hm ok e1=>by obtain⟨x,e,_⟩:=h2.get (cS hi);exact⟨xs,x,e1.t _ _ h1,e⟩
 oS:=λi d H M x H' hd hm ok e1 y=>by obtain⟨e,y⟩:=y;subst e;obtain⟨x',e,hx⟩:=h2.get hd;have:=y xs (e1.t _ _ h1);rw[e]at this;cases this;exact⟨hx.mono e1,hm,.refl⟩
 stop:=λH M hm ok e1=>⟨xs,e1.t _ _ h1,by rw[h2.length];exact cZ _⟩
def SG(h1:OC K H1 a xs)(h2:qk K H1 ds xs):G9 K H1 (UR K a) ds (λ_=>True) where
 go:=λi H M hi hm ok e1=>by obtain⟨x,e,_⟩:=h2.get (cS hi);exact⟨xs,x,(h1.mono e1).sq,e⟩
 oS:=λi d H M x H' hd hm ok e1 y=>by obtain⟨e,y⟩:=y;subst e;obtain⟨x',e,hx⟩:=h2.get hd;have:=y xs (h1.mono e1).sq;rw[e]at this;cases this;exact⟨hx.mono e1,hm,.refl⟩
 stop:=λH M hm ok e1=>⟨xs,(h1.mono e1).sq,by rw[h2.length];exact cZ _⟩
def Ky{lo:Int}:G9 K H1 (UQ lo n) ((List.range n).map λi=>D.int (lo+(i:Nat))) (λ_=>True) where
 go:=λi H M hi hm ok e1=>by
  have z:i<n:=by simpa using hi
  exact z
 oS:=λi d H M x H' hd hm ok e1 y=>by
  obtain⟨e,y⟩:=y;subst e;subst y;have hi:i<n:=by
   have:=(cU.mp hd).1
   simpa using this
  have hd':d=D.int (lo+(i:Nat)):=by rw[dq,kG hi]at hd;exact(cY hd).symm
  subst hd';exact⟨.int,hm,.refl⟩
 stop:=λH M hm ok e1=>by show n<=_;simp
variable {scope:wS}{ix:T0 (Option Nat)}{N':QQQ}{iter Xn:zn}{W8:T0 zn}{wi:NC}{g:Dj}{tt:AE}{te:T3}{tg:zn}
def UL(t:T3):NC:=λU M R=>t U M λx M1=>match x with
 | .tup ds=>R ds (λ_=>True) M1
 | .ref a=>(oC M1 a).elim False λds=>R ds (λM=>oC M a=Fa ds) M1
 | .rl ds=>R ds (λ_=>True) M1
 | .str z=>R (z.cps.toList.map λc=>D.str ⟨#[c]⟩) (λ_=>True) M1
 | _=>False
def Of{K:qx}:G9 K H1 (Vb z) (z.cps.toList.map λc=>D.str ⟨#[c]⟩) (λ_=>True) where
 go:=λi H M hi hm ok _=>by
  show i<z.cps.size
  simpa using hi
 oS:=λi d H M x H' hd hm ok _ y=>by obtain⟨e,c,e1,e2⟩:=y;subst e e2;rw[dq,Array.getElem?_toList,e1]at hd;cases hd;exact⟨.str,hm,.refl⟩
 stop:=λH M hm ok _=>by show _=z.cps.size;simp
def qC{t:T3}(h:E3 X l t)(hc:X.calm=pc:=by rfl):I3 X tg l (UL t):=PI.mono (O0 hc h) λY H R' zz=>x7 zz λU M R hs hm ht k=>
 ⟨U,M,_,hs,hm,ht,λv H1 d M1 hd Wz e1 q1=>by
  cases d with
  | tup ds=>obtain⟨a,xs,rfl,h1,h2⟩:=hd.mP;exact .inl ⟨a,Z',.inr ⟨⟨xs,h1⟩,k _ H1 ds _ M1 (NX h1 h2) Wz e1 trivial q1⟩⟩
  | ref a=>cases hd.mG;obtain⟨ds,e0,q⟩:=qZ q1;obtain⟨xs,h1,h2,_⟩:=qv Wz e0;exact .inl ⟨a,Z',.inl ⟨⟨xs,h1⟩,k _ H1 ds _ M1 Nt Wz e1 e0 q⟩⟩
  | str z=>exact .inr ⟨z,hd.str_inv,k _ H1 _ _ M1 Of Wz e1 trivial q1⟩
  | rl ds=>obtain⟨a,xs,rfl,h1,h2⟩:=hd.m9;exact .inl ⟨a,Z',.inl ⟨⟨xs,h1.sq⟩,k _ H1 ds _ M1 (SG h1 h2) Wz e1 trivial q1⟩⟩
  | _=>exact q1.elim⟩
def Tc(t:xZ):NC:=λU M R=>t U M λds M1=>match ds with
 | [.int j]=>(-(2 ^ 62)<=j/\j<2 ^ 62)/\R ((List.range j.toNat).map λi=>D.int (0+(i:Nat))) (λ_=>True) M1
 | [.int i,.int j]=>(-(2 ^ 62)<=i/\i<2 ^ 62/\-(2 ^ 62)<=j/\j<2 ^ 62)/\R ((List.range (j - i).toNat).map λn=>D.int (i+(n:Nat))) (λ_=>True) M1
 | _=>False
def ve{a:zn}{ta:xZ}(hg:Gl X "range")(hm:X.mg "range"=Db)(ha:A3 X [a] ta)(hs:Tl [a] X.env=[(lf,wp a X.env)]:=by rfl):I3 X tg (.Call (.Name "range" p) [a] [] pos) (Tc λU M Q=>ta U M λds M1=>ds.length=1/\Q ds M1):=
 PI.mono (JZ hg hm ha hs) λY H R' zz=>x7 zz λU M R hs hm ht k=>⟨U,M,_,hs,hm,ht,λvs H1 ds M1 hd Wz e1 q1=>by
  obtain⟨hl,q1⟩:=q1;split at q1
  .obtain⟨v,rfl,hv⟩:=sA hd;cases hv.int_inv;exact⟨_,Z',q1.1.1,q1.1.2,k _ H1 _ _ M1 Ky Wz e1 trivial q1.2⟩
  .simp at hl
  .exact q1.elim⟩
def Fd(g:Dj)(tb:xS)(ok:Mp->Prop)(E:GO):T0 D->vf->Mp->Prop
 | [],U,M=>E.nx U M
 | d::r,U,M=>g d U M λδ2 M2=>tb {E with nx:=λδ' M'=>ok M'/\Fd g tb ok E r δ' M',ct:=λδ' M'=>ok M'/\Fd g tb ok E r δ' M',bk:=E.nx} δ2 M2
def RM(wi:NC)(g:Dj)(tb:xS):xS:=λE U M=>wi U M λds ok M1=>Fd g tb ok E ds U M1
def uw{tb:xS}(hp:PassesOwn (Tk X.prog X.w) X.A X.env X.xe)(hc:X.calm=pc)(hi:I3 X tg iter wi)(hg:G3 X tg g)(hb:Hg X body tb) (hs:∀x,ZM iter X.env x=pure x:=by intro _;rfl):S3 X (.For tg iter body [] pos) (RM wi g tb):=PS.mono (QO hp hc hi hg hb hs) λD' Y H zz=>KM zz λU M E hs hm ht k1 k2 k3 k4=>
 ⟨U,M,_,hs,hm,ht,λJ H1 ds ok M1 S Wz e1 ok1 q1=>by
  refine⟨λi m σ' H'=>m=ds.length - i/\i<=ds.length/\∃δ' M',yY X.K H' σ' δ'/\HM X.K H' M'/\ok M'/\qQ X.K H1 H'/\σ'.length=Y.length/\Fd g tb ok E (ds.drop i) δ' M',⟨ds.length,by simp,eU _,U,M1,hs.mono e1,Wz,ok1,.refl,Z',by simpa using q1⟩,?_⟩
  rintro i m σ' H' ⟨rfl,hi,δ',M',Y5,X6,Zr,e',l',q'⟩
  by_cases WL:i<ds.length
  .rw[gi WL]at q';refine .inr ⟨S.go i H' M' WL X6 Zr e',λσ2 H2=>∃δ2 M2,yY X.K H2 σ2 δ2/\HM X.K H2 M2/\ok M2/\qQ X.K H1 H2/\σ2.length=Y.length/\Fd g tb ok E (ds.drop (i+1)) δ2 M2,λσ2 H2 z=>⟨ds.length - (i+1),by lia,Z',WL,z⟩,λx H2 y=>?_⟩;obtain⟨hx,WO,e2⟩:=S.oS i ds[i] H' M' x H2 (cS WL) X6 Zr e' y;refine⟨ds[i],δ',M',_,hx,Y5.mono e2,WO,q',λσ3 H3 δ3 M3 x1 x2 x3 x4 x5=>?_⟩;refine⟨δ3,M3,_,x1,x2,x5,λσ4 H4 δ4 M4 y1 y2 y3 y4 y5=>?_,λv H4 d M4 y1 y2 y3 y4=>?_,λσ4 H4 δ4 M4 y1 y2 y3 y4 y5=>?_,λσ4 H4 δ4 M4 y1 y2 y3 y4 y5=>?_⟩
   .exact⟨δ4,M4,y1,y2,y5.1,e'.trans (e2.trans (x3.trans y3)),by rw[y4,x4,l'],y5.2⟩
   .exact k2 v H4 d M4 y1 y2 (e1.trans (e'.trans (e2.trans (x3.trans y3)))) y4
   .exact k1 σ4 H4 δ4 M4 y1 y2 (e1.trans (e'.trans (e2.trans (x3.trans y3)))) (by rw[y4,x4,l']) y5
   .exact⟨δ4,M4,y1,y2,y5.1,e'.trans (e2.trans (x3.trans y3)),by rw[y4,x4,l'],y5.2⟩
  .have e:i=ds.length:=by lia
   subst e;rw[jL]at q';exact .inl ⟨S.stop H' M' X6 Zr e',k1 σ' H' δ' M' Y5 X6 (e1.trans e') l' q'⟩⟩
noncomputable def Ot(ix:T0 (Option Nat))(U:vf):vf:=ix.map λo=>o.bind λi=>(U[i]?).join
def O9{K:qx}(h:yY K H Y U):yY K H (OH ix Y) (Ot ix U):=λi d q=>by
 unfold Ot at q;unfold OH;rw[dq]at q ⊢;cases e:ix[i]? with
 | none=>rw[e]at q;cases q
 | some o=>
  rw[e]at q;cases o with
  | none=>cases q
  | some j=>
   have q':(U[j]?).join=Fa d:=cY q;have e4:U[j]?=Fa (Fa d):=by
    cases r:U[j]? with
    | none=>rw[r]at q';cases q'
    | some w=>rw[r]at q';exact eJ Fa q'
   obtain⟨v,e5,hv⟩:=h j d e4;refine⟨v,?_,hv⟩;show Fa ((Y[j]?).join)=Fa (Fa v);rw[e5];rfl
def uM(g:Dj)(tt:AE)(te:T3)(ok:Mp->Prop)(Q:DK):T0 D->T0 D->vf->Mp->Prop
 | [],acc,_,M=>acc.length<=Ch/\∀p,M p=Db->Q (.ref p) (pI M p (.lst acc))
 | d::r,acc,U,M=>acc.length<Ch/\g d U M λδ2 M2=>tt δ2 M2 λb M3=>if b=pc then te δ2 M3 λy M4=>ok M4/\uM g tt te ok Q r (acc++[y]) δ2 M4 else ok M3/\uM g tt te ok Q r acc δ2 M3
def MK(ix:T0 (Option Nat))(wi:NC)(g:Dj)(tt:AE)(te:T3):T3:=λU M Q=>wi U M λds ok M1=>uM g tt te ok Q ds [] (Ot ix U) M1
def F3(X:Cx)(W8:T0 zn)(t:AE):Prop:=PF X W8 (SX X.K t)
def PF.mono{e:T0 zn}{t t':TT}(h:PF X e t)(m:∀Y H Q,t' Y H Q->t Y H Q):PF X e t':=λWx s Y H Q I q=>h Wx s Y H Q I (m Y H Q q)
def B7:AE:=λ_ M Q=>Q pc M
def rS:F3 X [] B7:=PF.mono Q4 λY H Q' zz=>x7 zz λU M Q hs hm ht k=>k pc H M hm .refl ht
def uD{t:AE}(h:B3 X c t):F3 X [c] t:=Ro h
def Ji:∀Y H Q',lo X.K (MK ix wi g tt te) Y H Q'->Mo ix (V9 X.K wi) (UO X.K g) (SX X.K tt) (lo X.K te) Y H Q':=λY H Q' zz=>x7 zz λU M Q hs hm ht k=>
 ⟨U,M,_,hs,hm,ht,λJ H1 ds ok M1 S Wz e1 ok1 q1=>by
  refine⟨λi m ys σ' H'=>m=ds.length - i/\i<=ds.length/\∃δ' M' acc,yY X.K H' σ' δ'/\HM X.K H' M'/\qk X.K H' acc ys/\ok M'/\qQ X.K H1 H'/\uM g tt te ok Q (ds.drop i) acc δ' M',⟨ds.length,by simp,eU _,Ot ix U,M1,[],O9 (hs.mono e1),Wz,.nil,ok1,.refl,by simpa using q1⟩,?_⟩
  rintro i m ys σ' H' ⟨rfl,hi,δ',M',acc,Y5,X6,Yc,Zr,e',q'⟩
  by_cases WL:i<ds.length
  .rw[gi WL]at q';obtain⟨hz,q'⟩:=q';refine .inr ⟨S.go i H' M' WL X6 Zr e',by rw[<-Yc.length];exact hz,λx H2 y=>?_⟩;obtain⟨hx,WO,e2⟩:=S.oS i ds[i] H' M' x H2 (cS WL) X6 Zr e' y;refine⟨ds[i],δ',M',_,hx,Y5.mono e2,WO,q',λσ3 H3 δ3 M3 x1 x2 x3 x4 x5=>?_⟩;refine⟨δ3,M3,_,x1,x2,x5,λb H4 M4 y2 y3 y5=>?_⟩;cases b with
   | true=>rw[cX Z']at y5 ⊢;refine⟨δ3,M4,_,x1.mono y3,y2,y5,λv H5 d M5 z1 z2 z3 z4=>⟨ds.length - (i+1),by lia,Z',WL,δ3,M5,acc++[d],x1.mono (y3.trans z3),z2,(Yc.mono (e2.trans (x3.trans (y3.trans z3)))).snoc z1,z4.1,e'.trans (e2.trans (x3.trans (y3.trans z3))),z4.2⟩⟩
   | false=>rw[cV dh]at y5 ⊢;exact⟨ds.length - (i+1),by lia,Z',WL,δ3,M4,acc,x1.mono y3,y2,Yc.mono (e2.trans (x3.trans y3)),y5.1,e'.trans (e2.trans (x3.trans y3)),y5.2⟩
  .have e:i=ds.length:=by lia
   subst e;rw[jL]at q';refine .inl ⟨S.stop H' M' X6 Zr e',by rw[<-Yc.length];exact q'.1,λp hp=>?_⟩;have e5:qQ X.K H' (upd H' p (.lst ys)):=.new hp;exact k _ _ _ _ .ref (X6.new (c:=.lst acc) hp ⟨_,qh,Yc.mono e5⟩) (e1.trans (e'.trans e5)) (q'.2 p (X6.fresh hp))⟩
def qI(hc:X.calm=pc)(S:sm X scope ix N')(hi:I3 X tg iter wi)(hg:∀{C s0 H0 ex},G3 (X.comp scope N' C s0 H0 ex) tg g)(ht:∀{C s0 H0 ex},F3 (X.comp scope N' C s0 H0 ex) W8 tt)(he:∀{C s0 H0 ex},E3 (X.comp scope N' C s0 H0 ex) Xn te) (hs:∀x,ZM iter X.env x=pure x:=by intro _;rfl):E3 X (.ListComp Xn [⟨tg,iter,W8,0⟩] scope pos) (MK ix wi g tt te):=PE.mono (NZ (g:=UO X.K g) (tt:=SX X.K tt) (te:=lo X.K te) hc S hi (λ_ _ _ _=>hg) (λ_ _ _ _=>ht) (λ_ _ _ _=>he) hs) Ji
def tj{i:Nat}{x:Str}{px Yk:Pos}(hN:X.N.Nodup)(YK:X.N[i]?=Fa x)(hx:KI X.env.scope x)(hc:X.calm=pc)(S:sm X scope ix N')(hi:I3 X tg iter wi)(hg:∀{C s0 H0 ex},G3 (X.comp scope N' C s0 H0 ex) tg g)(ht:∀{C s0 H0 ex},F3 (X.comp scope N' C s0 H0 ex) W8 tt) (he:∀{C s0 H0 ex},E3 (X.comp scope N' C s0 H0 ex) Xn te) (X4:ZB (.ListComp Xn [⟨tg,iter,W8,0⟩] scope pos) (Fa (.Name x px)) Yk.line X.env=pure pc:=by rfl)
  (hf:KJ X x:=by first|exact .inl Z'|exact .inr Z'|assumption) (hs:∀x,ZM iter X.env x=pure x:=by intro _;rfl):
  S3 X (.Assign [.Name x px] (.ListComp Xn [⟨tg,iter,W8,0⟩] scope pos) Yk) (Gb (MK ix wi g tt te) (sF i)):=PS.nO (HL (g:=UO X.K g) (tt:=SX X.K tt) (te:=lo X.K te) hN YK hx hc S hi (λ_ _ _ _=>hg) (λ_ _ _ _=>ht) (λ_ _ _ _=>he) X4 hf hs) λD' Y H hl zz=>KM zz λU M D hs hm ht k1 k2 k3 k4=>
 Ji Y H _ ⟨U,M,_,hs,hm,ht,λv H1 d M1 hd Wz e1 q1=>k1 _ H1 _ M1 ((hs.mono e1).set hd (by rw[hl];exact(cU.mp YK).1)) Wz e1 (by simp) q1⟩
def V7(hr:rZ k A):A.units+9<ZP:=by have:=hr.units;lia
noncomputable def HP(sc:wS)(N:QQQ)(scope:wS)(ix:T0 (Option Nat))(N':QQQ):Bool:=
 (scope.kind==.function)&&(scope.names.all λy=>!(y.2==.cell))&&(scope.names.all λy=>!(y.2==.local)||(scope.names.lookup y.1==Fa .local))&&
 (scope.names.all λy=>!(y.2==.free)||(sc.names.lookup y.1==Fa .cell)||(sc.names.lookup y.1==Fa .free))&&(ix.length==N'.length)&&
 ((ix.zip N').all λp=>match p.1 with|none=>pc|some i=>(N[i]?==Fa p.2)&&(scope.names.lookup p.2==Fa .free))
def TZ{X:Cx}(h:HP X.env.scope X.N scope ix N'=pc):sm X scope ix N':=by
 unfold HP at h;simp only[dQ]at h;obtain⟨⟨⟨⟨⟨h1,h2⟩,h3⟩,h4⟩,h5⟩,h6⟩:=h;refine⟨by simpa using h1,λy hy e=>?_,λy hy e=>?_,λy hy e=>?_,by simpa using h5,λj i x e1 e2=>?_⟩
 .have:=eY.mp h2 y hy;rw[e]at this;simp at this
 .have:=eY.mp h3 y hy;rw[e]at this
  simpa using this
 .have:=eY.mp h4 y hy;rw[e]at this
  simpa using this
 .have hm:(Fa i,x)∈ix.zip N':=by
   have:(ix.zip N')[j]?=Fa (Fa i,x):=by rw[List.getElem?_zip_eq_some];exact⟨e1,e2⟩
   exact eZ this
  have:=eY.mp h6 _ hm
  simpa using this
section
variable {a b:zn}
def Jl(op Xm:CmpOp)(ta tb tc:T3):T3:=λU M Q=>ta U M λx M1=>tb U M1 λy M2=>Pr op x y M2 λz M3=>match z with
 | .bl k=>if k=pc then tc U M3 λw M4=>Pr Xm y w M4 Q else Q (.bl lf) M3
 | _=>False
def ut{op Xm:CmpOp}(hu:X.A.units+9<ZP)(ha:E3 X a ta)(hb:E3 X b tb)(hc:E3 X c tc)(hmk:lastMarks [op,Xm] [b,c]=lf:=by rfl):
  E3 X (.Compare a [op,Xm] [b,c] pos) (Jl op Xm ta tb tc):=PE.mono (Lr (Kx op hu) (Kx Xm hu) ha hb hc hmk) λY H Q' zz=>x7 zz λU M Q hs hm ht k=>
 ⟨U,M,_,hs,hm,ht,λv H1 x M1 hx Wz e1 q1=>⟨U,M1,_,hs.mono e1,Wz,q1,λu H2 y M2 hy WO e2 q2=>⟨x,y,M2,_,hx.mono e2,hy,WO,q2,λw H3 z M3 hz Xs e3 q3=>by
  cases z with
  | bl c=>
   refine⟨c,hz.mK,?_⟩;cases c with
   | true=>refine(cX Z').mpr ⟨U,M3,_,hs.mono (e1.trans (e2.trans e3)),Xs,(cX Z').mp q3,λw' H4 d M4 hd hm4 e4 q4=>⟨y,d,M4,Q,hy.mono (e3.trans e4),hd,hm4,q4,vR (e1.trans (e2.trans (e3.trans e4))) k⟩⟩
   | false=>exact(cV dh).mpr (k _ H3 _ M3 .bl Xs (e1.trans (e2.trans e3)) ((cV dh).mp q3))
  | _=>exact q3.elim⟩⟩⟩
def Gc{op Xm:CmpOp}(hu:X.A.units+9<ZP)(ha:E3 X a ta)(hb:E3 X b tb)(hc:E3 X c tc)(hmk:lastMarks [op,Xm] [b,c]=lf:=by rfl):
  B3 X (.Compare a [op,Xm] [b,c] pos) (b3 (Jl op Xm ta tb tc)):=PT.mono (K8 (Kx op hu) (Kx Xm hu) ha hb hc hmk) λY H Q' zz=>x7 zz λU M Q hs hm ht k=>
 ⟨U,M,_,hs,hm,ht,λv H1 x M1 hx Wz e1 q1=>⟨U,M1,_,hs.mono e1,Wz,q1,λu H2 y M2 hy WO e2 q2=>⟨x,y,M2,_,hx.mono e2,hy,WO,q2,λw H3 z M3 hz Xs e3 q3=>by
  cases z with
  | bl c=>
   refine⟨c,hz.mK,?_⟩;cases c with
   | true=>
    refine(cX Z').mpr ⟨U,M3,_,hs.mono (e1.trans (e2.trans e3)),Xs,(cX Z').mp q3,λw' H4 d M4 hd hm4 e4 q4=>⟨y,d,M4,_,hy.mono (e3.trans e4),hd,hm4,q4,λw5 H5 d5 M5 hd5 hm5 e5 q5=>?_⟩⟩;cases d5 with
    | bl c5=>exact⟨c5,hd5.mK,k c5 H5 M5 hm5 (e1.trans (e2.trans (e3.trans (e4.trans e5)))) q5⟩
    | _=>exact q5.elim
   | false=>exact(cV dh).mpr ⟨lf,Z',k lf H3 M3 Xs (e1.trans (e2.trans e3)) ((cV dh).mp q3)⟩
  | _=>exact q3.elim⟩⟩⟩
noncomputable def GA:T0 D->Option (T0 Bool)
 | []=>Fa []
 | .bl b::r=>(GA r).map (b::·)
 | _::_=>Db
theorem Fz{K:qx}:∀{ds:T0 D} {bs:T0 Bool} {xs:T0 V} {us:T0 Vl},GA ds=Fa bs->qk K H ds xs->qF xs us->us=bs.map Value.bool
 | [],bs,xs,us,e,h,r=>by cases e;have:=h.nil_inv;subst this;cases r;rfl
 | d::ds,bs,xs,us,e,h,r=>by
  cases d with
  | bl b=>
   obtain⟨y,ys,rfl,h1,h2⟩:=h.inv;cases h1.mK;unfold GA at e;cases q:GA ds with
   | none=>rw[q]at e;cases e
   | some cs=>
    rw[q]at e;cases e;cases r with
    | cons r1 r2=>cases r1;rw[Fz q h2 r2];rfl
  | _=>cases e
def Uh(ds:T0 D)(M:Mp)(Q:DK):Prop:=match ds with
 | [.ref a]=>(oC M a).elim False λes=>(GA es).elim False λbs=>Q (.bl (bs.all id)) M
 | _=>False
def Fh(hc:X.calm=pc):C3 X (.builtin "all") Uh:=by
 intro Wx s Y H vs us Q' I rv h;obtain⟨ds,M,Q,hd,hm,q,k⟩:=h;unfold Uh at q;split at q
 .rename_i a;obtain⟨v,rfl,hv⟩:=sA hd;obtain⟨es,e0,q⟩:=qZ q;obtain⟨bs,e1,q⟩:=qZ q;cases hv.mG;obtain⟨u,rfl,ru⟩:=yA rv;cases ru;obtain⟨xs,h1,h2,_⟩:=qv hm e0;obtain⟨its,r,pl,hz⟩:=I.list h1;have Zs:=Fz e1 h2 r;subst Zs;have WR:a≠s.heap.objs.size:=by obtain⟨o,_,e,_⟩:=pl;exact dJ (dv e)
  refine call_all_walk (gH pl.isList ?_);refine⟨s.heap.objs.size,_,_,_,_,_,λi=>(bs[i]?).getD pc,Z',kt (A:=X.A.in1) (I.ok.hd hc) _ a WR (bs.map Value.bool).toArray,⟨⟨_,dC _ Z',Z',Z'⟩,?_⟩,λi v s' Q E hP hQ=>?_,λh' tk hk=>?_⟩
  .obtain⟨o,n,e,c,d,q⟩:=pl;exact⟨o,cW _ e,c,n,q⟩
  .simp only[iJ,dq]at hP;cases e2:bs[i]? with
   | none=>rw[e2]at hP;cases hP
   | some b=>rw[e2]at hP;cases hP;have hQ:Q ((bs[i]?).getD pc) s':=hQ;rw[e2]at hQ;exact fk hQ
  .have ea:(List.range (bs.map Value.bool).toArray.size).all (λi=>(bs[i]?).getD pc)=bs.all id:=by
    rw[dg,cQ];rw[gk,eY,eY];constructor
    .intro z b hb;obtain⟨i,hi,e⟩:=gR hb;have:=z i (gf.mpr hi);rw[cS hi,e]at this;exact this
    .intro z i hi;have Yw:=gf.mp hi;rw[cS Yw];exact z _ (gO Yw)
   rw[ea];refine⟨.bl (bs.all id),H,?_,Z',k _ _ _ _ .bl hm .refl q⟩;exact I.kept (h':=h') (t':=tk) λb o e=>hk b o (by simpa using dJ (dv e)) (cW _ e)
 .exact q.elim
noncomputable def AX(x:D):T0 D->Option Nat
 | []=>Db
 | d::r=>if Qh d x=pc then Fa 0 else(AX x r).map (·+1)
theorem Jz{K:qx}{e:D}{w:V}(g:rV K H e w)(fe:uW e=pc):∀{ds:T0 D} {xs:T0 V} {us:T0 Vl} {j:Nat},qk K H ds xs->qF xs us->ds.all uW=pc->AX e ds=Fa j->
  ∃h:j<us.length,Em w us[j]=pc/\∀m (hm:m<us.length),m<j->Em w us[m]=lf
 | [],_,_,_,_,_,_,q=>by cases q
 | d::ds,_,us,j,h,r,fl,q=>by
  obtain⟨y,ys,rfl,h1,h2⟩:=h.inv;rw[gv,dQ]at fl;cases r with
  | @cons _ u _ us' r1 r2=>
   have eu:Em w u=Qh d e:=by rw[Ih r1 (zu h1 fl.1),Jx h1 g fl.1 fe]
   unfold AX at q;by_cases hq:Qh d e=pc
   .rw[cX hq]at q;cases q;exact⟨by simp,by simpa [eu]using hq,λm _ hm=>absurd hm (Nat.not_lt_zero m)⟩
   .rw[cV hq]at q;cases q2:AX e ds with
    | none=>rw[q2]at q;cases q
    | some j'=>
     rw[q2]at q;cases q;obtain⟨hl,e1,e2⟩:=Jz g fe h2 r2 fl.2 q2;refine⟨by simpa using hl,by simpa using e1,λm hm WL=>?_⟩;cases m with
     | zero=>simpa [eu]using hq
     | succ m=>simpa using e2 m (by simpa using hm) (by have z:m+1<j'+1:=WL;lia)
def Rh(x:D)(ds:T0 D)(M:Mp)(Q:DK):Prop:=match x,ds with
 | .ref a,[y]=>(oC M a).elim False λes=>uW y=pc/\es.all uW=pc/\(AX y es).elim False λj=>Q (.int (j:Nat)) M
 | _,_=>False
def M3(X:Cx)(id:String)(r:D->T0 D->Mp->DK->Prop):Prop:=VV X id λvx vs H Q'=>∃x ds M Q,rV X.K H x vx/\qk X.K H ds vs/\HM X.K H M/\r x ds M Q/\Up X.K H Q' Q
def Lx:M3 X "list.index" Rh:=by
 intro Wx s Y H vx vs v us Q' I rx rv h;obtain⟨x,ds,M,Q,hx,hd,hm,q,k⟩:=h;unfold Rh at q;split at q
 .rename_i a y;obtain⟨es,e0,f1,f2,q⟩:=qZ q;obtain⟨j,e1,q⟩:=qZ q;cases hx.mG;cases rx;obtain⟨w,rfl,hw⟩:=sA hd;obtain⟨u,rfl,ru⟩:=yA rv;obtain⟨xs,h1,h2,rd⟩:=qv hm e0;obtain⟨hz,its,n,r,g⟩:=rd.ok I.mQ;obtain⟨hl,p1,p2⟩:=Jz hw f1 h2 r f2 e1;have hlz:its.length<=Ch:=by rw[<-r.length];exact hz
  have h63:=yS;refine jw F.slot_list_index ⟨_,g,Z'⟩ F.entry_list_index (F.args_list_index_2 _ _) (SeqAt.list_indexAt a its.toArray n Db #[] u (Em w) j (by simpa using hl) (by lia) (by simpa using p1) λm hm WL=>by simpa using p2 m (by simpa using hm) WL) ⟨g,?_,?_⟩
  .intro z hz';exact wn ru (zu hw f1) r (Eu h2 f2) z (by simpa using hz')
  .exact⟨.int (j:Nat),H,I.tok _,⟨_,Z'⟩,k _ _ _ _ .int hm .refl q⟩
 .exact q.elim
def Qk(M:Mp):D->Prop
 | .ref a=>(oC M a).isSome=pc
 | _=>False
def Vn(r:D->T0 D->Mp->DK->Prop)(to:T3)(t:xZ):T3:=λU M Q=>to U M λx M1=>Qk M1 x/\t U M1 λds M2=>r x ds M2 Q
def Rz{K:qx}{x:D}(hm:HM K H M)(h:rV K H x v)(l:Qk M x):UZ K "list" v H:=by
 cases x with
 | ref a=>cases h.mG;obtain⟨ds,e⟩:=jE.mp (show(oC M a).isSome=pc from l);obtain⟨xs,h1,_⟩:=qv hm e;exact .inl ⟨Z',xs,h1⟩
 | _=>exact l.elim
def Qx{id:String}(slot:Slot "list" name id)(hty:typeOf (.builtin id)=pure (.type "method_descriptor"))(hm:M3 X id r)(ho:E3 X o ta)(ha:A3 X (e::es) t) (WV:At o name X.env (wp o X.env)=wp o X.env:=by rfl)
  (XN:((sB pos (Tl (e::es) X.env)).all (λx=>!x.1)&&(sK pos (Ps [] X.env)).all (λx=>x.1.isSome)
   &&decide ((e::es).length+([]:T0 ZS).length+(if ([]:T0 ZS).isEmpty then 0 else 1)<30))=pc:=by rfl)
  (W6:(WB.endLine==pos.line)=pc:=by rfl) (hs:Bv X e es:=by rfl) (WP:CS X pos es:=by rfl):
  E3 X (.Call (.Attribute o name WB) (e::es) [] pos) (Vn r ta t):=PE.mono (Uo PySem.F.plainAttrs_list slot hty hm ho ha WV XN W6 hs WP) λY H Q' zz=>x7 zz λU M Q hs hm ht k=>
 ⟨U,M,_,hs,hm,ht,λv H1 x M1 hx Wz e1 q1=>⟨Rz Wz hx q1.1,U,M1,_,hs.mono e1,Wz,q1.2,λvs H2 ds M2 XM WO e2 q2=>⟨x,ds,M2,Q,hx.mono e2,XM,WO,q2,vR (e1.trans e2) k⟩⟩⟩
def xK(ho:E3 X o ta)(ha:A3 X (e::es) t) (WV:At o "index" X.env (wp o X.env)=wp o X.env:=by rfl)
  (XN:((sB pos (Tl (e::es) X.env)).all (λx=>!x.1)&&(sK pos (Ps [] X.env)).all (λx=>x.1.isSome)
   &&decide ((e::es).length+([]:T0 ZS).length+(if ([]:T0 ZS).isEmpty then 0 else 1)<30))=pc:=by rfl)
  (W6:(WB.endLine==pos.line)=pc:=by rfl) (hs:Bv X e es:=by rfl) (WP:CS X pos es:=by rfl):
  E3 X (.Call (.Attribute o "index" WB) (e::es) [] pos) (Vn Rh ta t):=Qx PySem.F.slot_list_index PySem.F.type_list_index Lx ho ha WV XN W6 hs WP
structure LY(K:qx)(C:Uf)(m:Str)(f:Uf):Prop where
 hg:W.specialIn K (.ref C) "__getattribute__"=Fa (Fa (.builtin "type.__getattribute__"))
 rd:W.readsIn K C (.type "type")=pc
 fc:W.findCls K (.ref C) (.type "type") m=Fa (.val (.ref f))
def Pn{sp:Sp}{t:TA}{pl:Sem Bool}(cm:LY X.K C m f)(F:xw X.prog X.w X.K X.mg X.base NG k f fd ps sp)(hr:rZ k X.A)(hg:Gl X x)(hm:X.mg x=Fa (.ref C))(hk:W.keepIn X.K (.ref f)=pc)(hb:uO X.K fd ps [])(ha:PA X (e::es) t) (WQ:zI x:=by decide) (WT:Bv X e es:=by rfl) (WN:CS X pos es:=by rfl)
  (ht:wp (.Call (.Attribute (.Name x p) m WB) (e::es) [] pos) X.env=(do
   let ov<-wp (.Name x p) X.env
   ZR WB.atName
   let(f,first)<-TD [ov] (ZN ov m pl)
   ZT pos f first (sB pos (Tl (e::es) X.env)) (sK pos (Ps [] X.env))):=by rfl):
  PE X (.Call (.Attribute (.Name x p) m WB) (e::es) [] pos) (λY H Q=>t Y H λvs H1=>sp vs H1 Q E0):=by
 intro Wx s Y H Q I h;refine jX (pl:=pl) (wN I hg hm ?_ WQ) ht;refine W.method_cls I.nA cm.hg (W.cls_value I.nA cm.rd cm.fc Z' ?_);refine iM (first:=[]) (h₀:=X.base) I.ok.mod.oK hk (sG (ha pos Wx _ Y H _ (I.tok _) h) λus s2 zz=>x5 zz λvs H2 I2 r q2=>⟨I2.nA,?_⟩) WT WN;exact Fu F hr hb .nil (G5 (X:=X)) I2 r (by rw[dO];exact q2)
def NT{pl:Sem Bool}(cm:LY X.K C m f)(F:SV X.prog X.w X.K X.mg X.base k f fd ps sp)(hr:rZ k X.A)(hg:Gl X x)(hm:X.mg x=Fa (.ref C))(hk:W.keepIn X.K (.ref f)=pc)(hb:uO X.K fd ps [])(ha:A3 X (e::es) t) (WQ:zI x:=by decide) (WT:Bv X e es:=by rfl) (WN:CS X pos es:=by rfl)
  (ht:wp (.Call (.Attribute (.Name x p) m WB) (e::es) [] pos) X.env=(do
   let ov<-wp (.Name x p) X.env
   ZR WB.atName
   let(f,first)<-TD [ov] (ZN ov m pl)
   ZT pos f first (sB pos (Tl (e::es) X.env)) (sK pos (Ps [] X.env))):=by rfl):
  E3 X (.Call (.Attribute (.Name x p) m WB) (e::es) [] pos) (BK sp t):=PE.mono (Pn cm F hr hg hm hk hb ha WQ WT WN ht) λY H Q' zz=>x7 zz λU M Q hs hm ht k=>
 ⟨U,M,_,hs,hm,ht,λvs H1 ds M1 hd Wz e1 q1=>⟨ds,M1,Q,hd,Wz,q1,vR e1 k⟩⟩
def qo:No "len"=Fa (.builtin "len"):=by decide+kernel
def QU:No "min"=Fa (.builtin "min"):=by decide+kernel
def Ep:No "all"=Fa (.builtin "all"):=by decide+kernel
def uL:No "tuple"=Fa (.type "tuple"):=by decide+kernel
def tX:No "list"=Fa (.type "list"):=by decide+kernel
def Ec:No "dict"=Fa (.type "dict"):=by decide+kernel
def FM:No "enumerate"=Fa (.type "enumerate"):=by decide+kernel
def RJ:No "zip"=Fa (.type "zip"):=by decide+kernel
end
theorem _root_.L2.Inv.drawn{ch:QXQ}{T:Uf}{xs:T0 V}{h':Go}{tk:Nat}(I:Inv X Wx Y H s)(Xv:∀b∈ch,AU X Wx H b)(k:∀b o,b∉ch->s.heap.get? b=Fa o->h'.get? b=Fa o)(hT:s.heap.objs.size<=T)(hx:xs.length<=Ch) (rv:qF xs its) (ht:E2 h' T its.toArray):Inv X Wx Y (upd H T (.tup xs)) {s with heap:=h',toks:=tk}:=by
 have YO:H T=Db:=I.mQ.fresh hT;have nT:∀b o,s.heap.get? b=Fa o->b≠T:=λb o e=>dJ (dE (dv e) hT);refine I.step (g':=s.gens) (d':=s.drawn) (ch:=ch) (λb hb=>⟨(Xv b hb).2.2.2.1,(Xv b hb).2.1,(Xv b hb).2.2.2.2.1,(Xv b hb).2.2.2.2.2⟩) (λb o _ _ hc e _=>k b o hc e) (λb o _ _ hc e _=>⟨o.slots,k b o hc e⟩) (λb o _ e n=>by rw[pZ (nT b o e)];exact n)
  (λb o hc e=>⟨o,k b o hc e⟩) (λb ys e=>by rw[pZ (qP e YO)];exact e) (λb o u e=>by rw[pZ (qP e YO)];exact e) (λb ps e=>⟨#[],by rw[pZ (qP e YO),e];simp⟩) (λm hm=>?_) (λb u e=>?_) I.bare
 .obtain⟨o,es,ep,ho,r⟩:=hm;exact⟨o,es,ep,k _ o (λz=>(Xv _ z).2.1 Z') ho,r⟩
 .by_cases hb:b=T
  .subst hb;rw[qh]at e;cases e;exact⟨hx,its,rv,ht⟩
  .rw[pZ hb]at e;refine(I.mQ b u e).nk (λc v hc q=>k c v (λz=>?_) q) (λc q=>by rw[pZ (qP q YO)];exact q) (λc ys q=>by rw[pZ (qP q YO)];exact q);have n:=(Xv c z).1;rcases hc with y|y
   .rw[y,e]at n;cases n
   .rw[y]at n;cases n
noncomputable def Vh(K:qx)(a:Uf):It:=
 ⟨λi H=>∃xs x,zb K H a xs/\xs[i]?=Fa x,λi H x H'=>∃p y,x=.ref p/\H p=Db/\H'=upd H p (.tup [.int (i:Nat),y])/\∀xs,zb K H a xs->xs[i]?=Fa y,λi H=>∃xs,zb K H a xs/\xs.length<=i⟩
def Kk{K:qx}(a e it:Uf)(hei:e≠it):Gn P w K (.Tuple WX n tp) (Vh K a) [e,it] e (λi h=>(∃Xg,IsEnum h e it (i:Nat) Xg)/\h.IsListIter it a i) where
 mem:=by simp
 obj:=λi h st b hb=>by
  obtain⟨⟨Xg,he⟩,o,e1,c,d⟩:=st;rcases de.mp hb with rfl|hb
  .exact⟨_,he,λv z=>by cases z⟩
  .rw[df.mp hb];exact⟨o,e1,λv z=>by rw[d]at z;cases z⟩
 keep:=λi h h' st k=>by obtain⟨⟨Xg,he⟩,hi⟩:=st;exact⟨⟨Xg,k e (by simp) _ he⟩,hi.at λo q=>k it (by simp) o q⟩
 item:=by
  intro X hP hw hK hc i Wx s Y H E I hf st hg;subst hP hw hK;obtain⟨xs,x,hq,hx⟩:=hg;obtain⟨its,rv,p,hz⟩:=I.list hq;obtain⟨u,hu,ru⟩:=rv.get hx;obtain⟨⟨Xg,he⟩,hi⟩:=st;refine wpAny_pyNext_enum_item he hi p.isList (x:=u) (by simpa using hu) hei λh1 ho Yd hT hsz hk=>?_;refine⟨_,Z',wpAny_letOwnedTupleGo_enum ho λh2 he2 Yf=>?_⟩;have helt:e<s.heap.objs.size:=dv he;have hilt:it<s.heap.objs.size:=by obtain⟨o,q,_⟩:=hi;exact dv q
  have kk:∀b o,b∉[e,it]->s.heap.get? b=Fa o->h2.get? b=Fa o:=λb o hb q=>(Yf.2 b λz=>hb (by simp[z])).trans (hk b o (λz=>hb (by simp[z])) (λz=>hb (by simp[z])) q);have hT2:h2.get? s.heap.objs.size=Fa {cls:=.type "tuple",data:=.seq #[.int (i:Nat) s.toks,u]}:=(Yf.2 _ (ib helt)).trans hT;have YO:H s.heap.objs.size=Db:=I.mQ.fresh (cZ _);have I2:=I.drawn (ch:=[e,it]) (T:=s.heap.objs.size) (xs:=[.int (i:Nat),x]) (its:=[.int (i:Nat) s.toks,u]) (h':=h2) (tk:=s.toks+1) hf kk (cZ _) (by show 2<=Ch;decide) (.cons ⟨_,Z'⟩ (.cons ru .nil)) ⟨_,hT2,Z',⟨_,Z'⟩,Z'⟩;refine⟨.ref s.heap.objs.size,_,I2,Z',⟨_,x,Z',YO,Z',λys hy=>by rw[I.nR hy hq];exact hx⟩,⟨⟨_,by simpa using he2⟩,Yd.extBut Yf.extBut (dG hei)⟩,λb hb=>?_⟩;have Xo:b<s.heap.objs.size:=by
   rcases de.mp hb with z|z
   .rw[z];exact helt
   .rw[df.mp z];exact hilt
  rw[pZ (dJ Xo)];exact(hf b hb).1
 done:=by intro X hP hw hK hc i Wx s Y H E I hf st hg;subst hP hw hK;obtain⟨xs,hq,hx⟩:=hg;obtain⟨its,rv,p,hz⟩:=I.list hq;obtain⟨⟨Xg,he⟩,hi⟩:=st;have hl:=rv.length;obtain⟨f0,f1,f2,f3,f4,f5⟩:=hf it (by simp);exact wpAny_pyNext_enum_end (I.ok.hd hc) he hi p.isList (by simp;lia) λh' eb=>⟨Z',I.turned (t':=s.toks) (λb o hb q=>eb b o hb q) f0 f1 f3 f4 f5⟩
 self:=λ_ _ _ _ _ st h=>by obtain⟨⟨Xg,he⟩,_⟩:=st;exact lE he h
variable {tp:Pos}{WX:T0 zn}{n:Nat}
def ON{a:zn}{ta:TA}(hg:Gl X "enumerate")(hm:X.mg "enumerate"=Db)(ha:PA X [a] ta)(hs:Tl [a] X.env=[(lf,wp a X.env)]:=by rfl):
  PI X (.Tuple WX n tp) (.Call (.Name "enumerate" p) [a] [] pos) (λY H R=>ta Y H λvs H1=>∃l,vs=[.ref l]/\(∃xs,zb X.K H1 l xs)/\R (Vh X.K l) H1):=by
 intro Wx s Y H R I h;refine Call_ (yJ I hg hm FM (fT (sG (ha pos Wx s Y H _ I h) λus s1 zz=>x5 zz λvs H1 I1 r1 q1=>?_) hs Z'));obtain⟨l,e,⟨xs,hq⟩,q⟩:=q1;subst e;obtain⟨u,rfl,ru⟩:=yA r1;cases ru;obtain⟨its,rv,pl,hz⟩:=I1.list hq;refine call_enumerate_list pl.isList λh' he hi hsz hk=>?_;refine lE he ?_;have I2:Inv X Wx Y H1 {s1 with heap:=h'}:=I1.kept (t':=s1.toks) hk;refine⟨s1.heap.objs.size+1,[s1.heap.objs.size+1,s1.heap.objs.size],_,_,H1,Z',I2,Kk l _ _ (Nat.succ_ne_self _),⟨⟨_,he⟩,hi⟩,λb hb=>?_,q⟩;have Xo:s1.heap.objs.size<=b:=by
  rcases de.mp hb with z|z
  .rw[z];exact hW _
  .rw[df.mp z];exact cZ _
 exact I1.nV Xo (I1.mQ.fresh Xo)
noncomputable def uC:Nat->T0 D->T0 D
 | _,[]=>[]
 | i,d::r=>.tup [.int (i:Nat),d]::uC (i+1) r
theorem zj:∀{ds:T0 D} {i j:Nat},(uC j ds)[i]?=(ds[i]?).map λd=>D.tup [.int ((j+i:Nat):Int),d]
 | [],i,j=>by simp[uC]
 | d::r,0,j=>by simp[uC]
 | d::r,i+1,j=>by show(uC (j+1) r)[i]?=_;rw[zj];simp only[List.getElem?_cons_succ];rw[show j+1+i=j+(i+1)by lia]
theorem vm:∀{ds:T0 D} {j:Nat},(uC j ds).length=ds.length
 | [],j=>rfl
 | d::r,j=>by simp[uC,vm]
def Mg{K:qx}:G9 K H1 (Vh K a) (uC 0 ds) (λM=>oC M a=Fa ds) where
 go:=λi H M hi hm ok _=>by rw[vm]at hi;obtain⟨xs,h1,h2,_⟩:=qv hm ok;obtain⟨x,e,_⟩:=h2.get (cS hi);exact⟨xs,x,h1,e⟩
 oS:=λi d H M x H' hd hm ok _ y=>by
  obtain⟨xs,h1,h2,_⟩:=qv hm ok;obtain⟨p,z,rfl,hp,rfl,y⟩:=y;rw[zj]at hd;cases e:ds[i]? with
  | none=>rw[e]at hd;cases hd
  | some d'=>rw[e]at hd;cases hd;obtain⟨x',e',hx⟩:=h2.get e;have w1:=y xs h1;rw[e']at w1;have w2:x'=z:=cY w1;subst w2;have ex:qQ K H (upd H p (.tup [.int (i:Nat),x'])):=.new hp;refine⟨.tup (.of qh) (.cons (by rw[mx];exact .int) (.cons (hx.mono ex) .nil)),hm.add hp,ex⟩
 stop:=λH M hm ok _=>by obtain⟨xs,h1,h2,_⟩:=qv hm ok;exact⟨xs,h1,by rw[vm,h2.length];exact cZ _⟩
def RW(t:xZ):NC:=λU M R=>t U M λds M1=>match ds with
 | [.ref a]=>(oC M1 a).elim False λes=>R (uC 0 es) (λM=>oC M a=Fa es) M1
 | _=>False
def xg{a:zn}{ta:xZ}(hg:Gl X "enumerate")(hm:X.mg "enumerate"=Db)(ha:A3 X [a] ta)(hs:Tl [a] X.env=[(lf,wp a X.env)]:=by rfl):I3 X (.Tuple WX n tp) (.Call (.Name "enumerate" p) [a] [] pos) (RW ta):=
 PI.mono (ON hg hm ha hs) λY H R' zz=>x7 zz λU M R hs hm ht k=>⟨U,M,_,hs,hm,ht,λvs H1 ds M1 hd Wz e1 q1=>by
  split at q1
  .obtain⟨v,rfl,hv⟩:=sA hd;cases hv.mG;obtain⟨es,e0,q⟩:=qZ q1;obtain⟨xs,h1,h2,_⟩:=qv Wz e0;exact⟨_,Z',⟨xs,h1⟩,k _ H1 _ _ M1 Mg Wz e1 e0 q⟩
  .exact q1.elim⟩
variable {prog:Pg}{A:Ar}{E:QQX}
def Ie{it t:Uf}{i:Nat}{its:Array Vl}{x:Vl}{Q:QQX}(hi:s.heap.IsTupleIter it t i)(ht:s.heap.IsTuple t its)(hx:its[i]?=Fa x) (hQ:∀g,g.IsTupleIter it t (i+1)->Heap.SameBut it s.heap g->Q x {s with heap:=g}):pi (Tk prog w) A (Builtin.SmallTypes.nextOf (.ref it)) Q E s:=by
 obtain⟨ob,e1,e2,e3⟩:=id hi;obtain⟨ot,e4,_,nt,e5⟩:=ht;unfold Builtin.SmallTypes.nextOf;refine cR (fG (name:=Str.ofString "__next__") hi.typeIs gF (gc gF hi.typeIs jj ?_ (jc _)));show pi (Tk prog w) _ (field (.ref it) 0>>=_) _ _ s;refine cR (fh e1 e3 (x:=.ref t) Z' ?_);show pi (Tk prog w) _ (if (Value.ref t==Value.none)=pc then _ else _) _ _ s;rw[cV (show ¬(Value.ref t==Value.none)=pc from dh)];show pi (Tk prog w) _ (field (.ref it) 1>>=_) _ _ s;refine cR (fh e1 e3 (x:=.int i 0) Z' ?_);show pi (Tk prog w) _ (seqItems? (.ref t)>>=_) _ _ s;refine cR (gx e4 e5 ?_);simp only[iB,hx];refine cR (ie e1 e3 (by simp) (c9 ⟨x,Z',c9 (hQ _ ⟨_,fE _ e1 (Obj.isFreed_of_fields (k9 e3 _)),(Obj.cls_mapFields ..).trans e2,?_⟩ (kH ..))⟩));rw[k9 e3];simp[wP]
def BS{it t:Uf}{i:Nat}{its:Array Vl}{Q:QQX}(hh:A.handled=Db)(hi:s.heap.IsTupleIter it t i)(ht:s.heap.IsTuple t its)(hx:its[i]?=Db) (hE:∀g e,Heap.ExtBut it s.heap g->(∃o,g.get? e=Fa o/\o.cls=.type "StopIteration")->E (.ref e) {s with heap:=g}):pi (Tk prog w) A (Builtin.SmallTypes.nextOf (.ref it)) Q E s:=by
 obtain⟨ob,e1,e2,e3⟩:=id hi;obtain⟨ot,e4,_,nt,e5⟩:=ht;unfold Builtin.SmallTypes.nextOf;refine cR (fG (name:=Str.ofString "__next__") hi.typeIs gF (gc gF hi.typeIs jj ?_ (jc _)));show pi (Tk prog w) _ (field (.ref it) 0>>=_) _ _ s;refine cR (fh e1 e3 (x:=.ref t) Z' ?_);show pi (Tk prog w) _ (if (Value.ref t==Value.none)=pc then _ else _) _ _ s;rw[cV (show ¬(Value.ref t==Value.none)=pc from dh)];show pi (Tk prog w) _ (field (.ref it) 1>>=_) _ _ s;refine cR (fh e1 e3 (x:=.int i 0) Z' ?_);show pi (Tk prog w) _ (seqItems? (.ref t)>>=_) _ _ s;refine cR (gx e4 e5 ?_);simp only[iB,hx];refine cR (kr (cR (ie e1 e3 (by simp) ?_)));show pi (Tk prog w) _ (newExc (.type "StopIteration") []>>=_) _ _ _;refine cR ?_;simp only[newExc,newTuple];refine cR (fR ?_ (by size_fits));refine cR (m:=firstArgMember _ _) (wpAny_of_eq (a:=Value.none) (by first|rfl|(simp only[firstArgMember];rfl)) ?_);refine fR ?_ (by size_fits);simp only[raiseNew];refine cR (wpAny_handled ?_)
 first|rw[show A.in1.handled=Db from hh]|rw[hh]
 refine cR (c9 (wpAny_throw (hE _ _ (((kH ..).extBut.push _).push _) ⟨_,dC _ Z',Z'⟩)))
def yh{prog:Pg}{w:Wo}{A:Ar}(hh:A.handled=Db)(it t:Uf)(WR:t≠it)(its:Array Vl):
  Draws prog w A it [it,t] its.size (λi v=>its[i]?=Fa v) (λi h=>h.IsTupleIter it t i/\h.IsTuple t its) where
 live:=λi h st=>let⟨o,ho,_⟩:=st.1;⟨o,ho⟩
 frame:=λi h g st hk=>by obtain⟨⟨o,e1,e2⟩,⟨o',e3,e4⟩⟩:=st;exact⟨⟨o,hk it (by simp) o e1,e2⟩,⟨o',hk t (by simp) o' e3,e4⟩⟩
 item:=λi s Q E hi st hQ=>Ie st.1 st.2 (x:=its[i]) (by simp[hi]) λg hg hs=>hQ _ g s.toks (by simp[hi]) ⟨hg,st.2.extBut hs.extBut WR⟩ hs
 done:=λs Q E st hE=>BS hh st.1 st.2 (by simp) hE
structure zV(z TI TO i1 i2:Uf)(f1 f2:QXQ):Prop where
 a1:TI≠z
 a2:TO≠z
 a3:i1≠z
 a4:i2≠z
 a5:TI≠TO
 a6:TI≠i1
 a7:TI≠i2
 a8:TO≠i1
 a9:TO≠i2
 pq:i1≠i2
 b1:z∉f1
 b2:TO∉f1
 b3:i2∉f1
 c1:z∉f2
 c2:TO∉f2
 c3:i1∉f2
variable {z TI TO i1 i2:Uf}{f1 f2:QXQ}{n1 n2 k1 k2:Nat}{P1 P2:Nat→Vl→Prop}{S1 S2:Nat→Go→Prop}
section
variable {a b:Vl}
def sr{St:Nat->Go->Prop}(Dr:Draws prog w A it fp n Pt St){i:Nat}{h g:Go}{c:Uf}(st:St i h)(hs:Heap.SameBut c h g)(hc:c∉fp):St i g:=
 Dr.frame _ _ _ st λd hd o e=>(hs.2 d λq=>hc (q ▸ hd)).trans e
def KG{Q:QQX}(D1:Draws prog w A i1 f1 n1 P1 S1)(D2:Draws prog w A i2 f2 n2 P2 S2)(WS:zV z TI TO i1 i2 f1 f2)(hz:TW s.heap z TI TO .none)(hI:ZK s.heap TI (.ref i1) (.ref i2))(hO:ZK s.heap TO a b) (Xc:S1 k1 s.heap) (WW:S2 k2 s.heap) (l1:k1<n1) (l2:k2<n2) (hQ:∀x y g tk,P1 k1 x->P2 k2 y->TW g z TI TO (wP s.heap.objs.size)->ZK g TO x y->S1 (k1+1) g->S2 (k2+1) g->ZK g s.heap.objs.size x y->g.objs.size=s.heap.objs.size+1->
   (∀c o,c≠z->c≠TO->c≠i1->c≠i2->s.heap.get? c=Fa o->g.get? c=Fa o)->Q (.ref s.heap.objs.size) {s with heap:=g,toks:=tk}):
  pi (Tk prog w) A (Builtin.«zip.__next__» ⟨[.ref z],[]⟩) (λWC s'=>∃v,WC=.done (.ret v)/\Q v s') E s:=by
 show pi (Tk prog w) A (field (.ref z) 2>>=_) _ _ _;refine cR (fh hz Z' (x:=.bool lf) Z' ?_);show pi (Tk prog w) A (field (.ref z) 3>>=_) _ _ _;refine cR (fh hz Z' (x:=.ref TI) Z' (cR (gx hI Z' ?_)));show pi (Tk prog w) A (Builtin.SmallTypes.ownedTupleIsFree (.ref z)>>=_) _ _ _;refine cR ?_;unfold Builtin.SmallTypes.ownedTupleIsFree;refine cR (fh hz Z' (x:=.none) Z' (c9 ?_));simp only[iZ];refine cR (kr (cR (fh hz Z' (x:=.ref TO) Z' (cR (gA hz (by simp) λg1 z1 Yn=>?_)))));replace z1:TW g1 z TI TO .ellipsis:=z1;refine cR ?_;simp only[lQ,lZ,jV,j8];refine cR (cR (iF ?_));show pi (Tk prog w) A (Builtin.SmallTypes.nextOf (.ref i1)>>=_) _ _ _;have Yo:S1 k1 g1:=sr D1 Xc Yn WS.b1;refine cR (D1.item k1 _ _ _ l1 Yo λx g2 tk2 px st1b Xy=>c9 ?_);replace Xy:Heap.SameBut i1 g1 g2:=Xy;have o2:ZK g2 TO a b:=Xy.extBut _ _ WS.a8 (Yn.extBut _ _ WS.a2 hO);refine cR (gx o2 Z' (cR (iQ o2 λg3 o3 XG=>?_)));replace o3:ZK g3 TO x b:=o3;replace XG:Heap.SameBut TO g2 g3:=XG;refine cR (lH (c9 (cR (cR (iF ?_)))));show pi (Tk prog w) A (Builtin.SmallTypes.nextOf (.ref i2)>>=_) _ _ _;have YQ:S2 k2 g3:=sr D2 (sr D2 (sr D2 WW Yn WS.c1) Xy WS.c3) XG WS.c2;refine cR (D2.item k2 _ _ _ l2 YQ λy g4 tk4 py st2b Yx=>c9 ?_);replace Yx:Heap.SameBut i2 g3 g4:=Yx;have o4:ZK g4 TO x b:=Yx.extBut _ _ WS.a9 o3;refine cR (gx o4 Z' (cR (iQ o4 λg5 o5 Yy=>?_)));replace o5:ZK g5 TO x y:=o5;replace Yy:Heap.SameBut TO g4 g5:=Yy;refine cR (lH (c9 (c9 (cR (gx o5 Z' (cR (wpAny_newTuple ?_)))))));have esz:g5.objs.size=s.heap.objs.size:=by rw[Yy.1,Yx.1,XG.1,Xy.1,Yn.1]
 have z5:TW g5 z TI TO .ellipsis:=Yy.extBut _ _ WS.a2.symm (Yx.extBut _ _ WS.a4.symm (XG.extBut _ _ WS.a2.symm (Xy.extBut _ _ WS.a3.symm z1)));have kp:∀c o,c≠z->c≠TO->c≠i1->c≠i2->s.heap.get? c=Fa o->g5.get? c=Fa o:=λc o q1 q2 q3 q4 q=>Yy.extBut _ _ q2 (Yx.extBut _ _ q4 (XG.extBut _ _ q2 (Xy.extBut _ _ q3 (Yn.extBut _ _ q1 q))));have st1c:S1 (k1+1) g5:=sr D1 (sr D1 (sr D1 st1b XG WS.b2) Yx WS.b3) Yy WS.b2;have st2c:S2 (k2+1) g5:=sr D2 st2b Yy WS.c2;have zlt:z<g5.objs.size:=dv z5;show pi (Tk prog w) A (Builtin.SmallTypes.ownedTupleHandOut (.ref z) (.ref g5.objs.size)>>=_) _ _ _;refine cR ?_;unfold Builtin.SmallTypes.ownedTupleHandOut;have z6:TW (g5.push {cls:=.type "tuple",data:=.seq #[x,y]}) z TI TO .ellipsis:=cW _ z5;refine cR (gA z6 (by simp) λg7 z7 sb7=>?_);replace z7:TW g7 z TI TO (wP g5.objs.size):=z7;refine gA z7 (by simp) λg8 z8 sb8=>?_;replace z8:TW g8 z TI TO (wP g5.objs.size):=z8;have up:∀c o,c≠z->g5.get? c=Fa o->g8.get? c=Fa o:=λc o q1 q=>sb8.extBut _ _ q1 (sb7.extBut _ _ q1 (cW _ q));have tu:ZK g8 g5.objs.size x y:=sb8.extBut _ _ (ib zlt) (sb7.extBut _ _ (ib zlt) (dC _ Z'));have es8:g8.objs.size=g5.objs.size+1:=by rw[sb8.1,sb7.1,fJ]
 rw[esz]at z8 tu es8;refine c9 ⟨_,Z',?_⟩;show Q (.ref g5.objs.size) _;rw[esz];exact hQ x y g8 _ px py z8 (up _ _ WS.a2 o5) (D1.frame _ _ _ st1c λc hc o q=>up c o (λr=>WS.b1 (r ▸ hc)) q) (D2.frame _ _ _ st2c λc hc o q=>up c o (λr=>WS.c1 (r ▸ hc)) q) tu es8 λc o q1 q2 q3 q4 q=>up c o q1 (kp c o q1 q2 q3 q4 q)
def MJ{Q:Fin->Sd->Prop}(D1:Draws prog w A i1 f1 n1 P1 S1)(D2:Draws prog w A i2 f2 n2 P2 S2)(WS:zV z TI TO i1 i2 f1 f2)(hz:TW s.heap z TI TO .none)(hI:ZK s.heap TI (.ref i1) (.ref i2))(hO:ZK s.heap TO a b) (Xc:S1 k1 s.heap) (WW:S2 k1 s.heap) (Zt:k1=n1\/(k1<n1/\k1=n2)) (hE:∀g e,(∀c o,c≠z->c≠TO->c≠i1->c≠i2->s.heap.get? c=Fa o->g.get? c=Fa o)->(∃o,g.get? e=Fa o/\o.cls=.type "StopIteration")->∀tk,E (.ref e) {s with heap:=g,toks:=tk}):
  pi (Tk prog w) A (Builtin.«zip.__next__» ⟨[.ref z],[]⟩) Q E s:=by
 show pi (Tk prog w) A (field (.ref z) 2>>=_) _ _ _;refine cR (fh hz Z' (x:=.bool lf) Z' ?_);show pi (Tk prog w) A (field (.ref z) 3>>=_) _ _ _;refine cR (fh hz Z' (x:=.ref TI) Z' (cR (gx hI Z' ?_)));show pi (Tk prog w) A (Builtin.SmallTypes.ownedTupleIsFree (.ref z)>>=_) _ _ _;refine cR ?_;unfold Builtin.SmallTypes.ownedTupleIsFree;refine cR (fh hz Z' (x:=.none) Z' (c9 ?_));simp only[iZ];refine cR (kr (cR (fh hz Z' (x:=.ref TO) Z' (cR (gA hz (by simp) λg1 z1 Yn=>?_)))));replace z1:TW g1 z TI TO .ellipsis:=z1;refine cR ?_;simp only[lQ,lZ,jV,j8];refine cR (cR (iF ?_));show pi (Tk prog w) A (Builtin.SmallTypes.nextOf (.ref i1)>>=_) _ _ _;have Yo:S1 k1 g1:=sr D1 Xc Yn WS.b1;rcases Zt with he|⟨WL,he⟩
 .rw[he]at Yo;refine cR (D1.done _ _ _ Yo λg2 e Xy hx=>?_);obtain⟨oe,g,Zu⟩:=hx;have z2:TW g2 z TI TO .ellipsis:=Xy _ _ WS.a3.symm z1;have hez:e≠z:=λq=>by subst q;rw[z2]at g;cases g;simp at Zu
  exact gA z2 (by simp) λg3 _ XG=>hE g3 e (λc o q1 _ q3 _ q=>XG.extBut _ _ q1 (Xy _ _ q3 (Yn.extBut _ _ q1 q))) ⟨oe,XG.extBut _ _ hez g,Zu⟩ _
 .refine cR (D1.item k1 _ _ _ WL Yo λx g2 tk2 px st1b Xy=>c9 ?_);replace Xy:Heap.SameBut i1 g1 g2:=Xy;have o2:ZK g2 TO a b:=Xy.extBut _ _ WS.a8 (Yn.extBut _ _ WS.a2 hO);refine cR (gx o2 Z' (cR (iQ o2 λg3 o3 XG=>?_)));replace XG:Heap.SameBut TO g2 g3:=XG;refine cR (lH (c9 (cR (cR (iF ?_)))));show pi (Tk prog w) A (Builtin.SmallTypes.nextOf (.ref i2)>>=_) _ _ _;have YQ:S2 k1 g3:=sr D2 (sr D2 (sr D2 WW Yn WS.c1) Xy WS.c3) XG WS.c2;rw[he]at YQ;refine cR (D2.done _ _ _ YQ λg4 e Yx hx=>?_);obtain⟨oe,g,Zu⟩:=hx;have z4:TW g4 z TI TO .ellipsis:=Yx _ _ WS.a4.symm (XG.extBut _ _ WS.a2.symm (Xy.extBut _ _ WS.a3.symm z1));have hez:e≠z:=λq=>by subst q;rw[z4]at g;cases g;simp at Zu
  exact gA z4 (by simp) λg5 _ Yy=>hE g5 e (λc o q1 q2 q3 q4 q=>Yy.extBut _ _ q1 (Yx _ _ q4 (XG.extBut _ _ q2 (Xy.extBut _ _ q3 (Yn.extBut _ _ q1 q))))) ⟨oe,Yy.extBut _ _ hez g,Zu⟩ _
end
abbrev UV(h:Go)(t:Uf):Go:=h.push {cls:=.type "tuple_iterator",data:=.fields #[.ref t,.int 0 0]}
abbrev UU(h:Go)(t u:Uf):Go:=(UV h t).push {cls:=.type "tuple_iterator",data:=.fields #[.ref u,.int 0 0]}
abbrev UP(h:Go)(t u:Uf):Go:=(UU h t u).push {cls:=.type "tuple",data:=.seq #[.ref h.objs.size,.ref (UV h t).objs.size]}
abbrev UX(h:Go)(t u:Uf):Go:=(UP h t u).push {cls:=.type "tuple",data:=.seq #[.none,.none]}
abbrev S5(h:Go)(t u:Uf):Go:=(UX h t u).push {cls:=.type "zip",data:=.fields #[.none,.bool lf,.bool lf,.ref (UU h t u).objs.size,.ref (UP h t u).objs.size]}
def Dl(t u:Uf)(xs ys:Array Vl):
  Meets (Builtin.«zip.__new__» ⟨[.type "zip",.ref t,.ref u],[]⟩) (λ_ R s=>s.heap.IsTuple t xs/\s.heap.IsTuple u ys/\R (.ok (.ret (.ref (UX s.heap t u).objs.size))) {s with heap:=S5 s.heap t u}):=
 .of_wp λprog w A R s h=>by
  obtain⟨hp,g,d,tk,os⟩:=s;obtain⟨e1,e2,h⟩:=h;have YL:=sub_zip;have q1:Heap.IsTuple (Shared.heap ⟨hp,g,d,tk,os⟩) t xs:=e1;have q2:Heap.IsTuple (Shared.heap ⟨hp.push {cls:=.type "tuple_iterator",data:=.fields #[.ref t,.int 0 0]},g,d,tk,os⟩) u ys:=Heap.IsTuple.push e2 _
  wp_walk using iq q1,iq q2
  exact⟨_,Z',h⟩
def EQ{t u:Uf}{xs ys:Array Vl}{Q:QQX}(ht:s.heap.IsTuple t xs)(hu:s.heap.IsTuple u ys) (h:∀g,TW g (s.heap.objs.size+4) (s.heap.objs.size+2) (s.heap.objs.size+3) .none->ZK g (s.heap.objs.size+2) (.ref s.heap.objs.size) (.ref (s.heap.objs.size+1))->ZK g (s.heap.objs.size+3) .none .none->
   g.IsTupleIter s.heap.objs.size t 0->g.IsTupleIter (s.heap.objs.size+1) u 0->(∀c o,s.heap.get? c=Fa o->g.get? c=Fa o)->Q (.ref (s.heap.objs.size+4)) {s with heap:=g}):
  pi (Tk prog w) A (call (.type "zip") [.ref t,.ref u]) Q E s:=by
 refine callType_new F.called_zip (by decide) (F.typeCall_zip_2 _ _) (F.newCall_zip_2 _ _) (λobj=>F.args_object_init_3 obj _ _) F.entry_zip_new (Dl t u xs ys) ⟨ht,hu,?_⟩;have m1:(UV s.heap t).objs.size=s.heap.objs.size+1:=fJ ..;have m2:(UU s.heap t u).objs.size=s.heap.objs.size+2:=by rw[fJ,m1]
 have m3:(UP s.heap t u).objs.size=s.heap.objs.size+3:=by rw[fJ,m2]
 have m4:(UX s.heap t u).objs.size=s.heap.objs.size+4:=by rw[fJ,m3]
 have up:∀{h:Go} {c:Uf} {o p:Obj},h.get? c=Fa o->(h.push p).get? c=Fa o:=λq=>cW _ q;have r5:(S5 s.heap t u).get? (UX s.heap t u).objs.size=Fa _:=dC _ Z';have r4:(S5 s.heap t u).get? (UP s.heap t u).objs.size=Fa _:=up (dC _ Z');have r3:(S5 s.heap t u).get? (UU s.heap t u).objs.size=Fa _:=up (up (dC _ Z'));have r2:(S5 s.heap t u).get? (UV s.heap t).objs.size=Fa _:=up (up (up (dC _ Z')));have r1:(S5 s.heap t u).get? s.heap.objs.size=Fa _:=up (up (up (up (dC _ Z'))));show _/\_;rw[m2,m3,m4]at r5;rw[m1,m2]at r3;rw[m3]at r4;rw[m1]at r2;rw[m4];exact⟨⟨_,r5,Z'⟩,h _ r5 r3 r4 ⟨_,r1,Z',Z'⟩ ⟨_,r2,Z',Z'⟩ λc o q=>up (up (up (up (up q))))⟩
def GC{z TI TO i1 i2:Uf}{n1 n2 k:Nat}{P1 P2:Nat->Vl->Prop}{S1 S2:Nat->Go->Prop}{Q:Option Vl->Sd->Prop}(D1:Draws prog w A.in1 i1 f1 n1 P1 S1)(D2:Draws prog w A.in1 i2 f2 n2 P2 S2)(WS:zV z TI TO i1 i2 f1 f2) (hz:TW s.heap z TI TO .none) (hI:ZK s.heap TI (.ref i1) (.ref i2)) (hO:ZK s.heap TO a b) (Xc:S1 k s.heap) (WW:S2 k s.heap) (l1:k<n1) (l2:k<n2) (hQ:∀x y g tk,P1 k x->P2 k y->TW g z TI TO (wP s.heap.objs.size)->ZK g TO x y->S1 (k+1) g->S2 (k+1) g->ZK g s.heap.objs.size x y->g.objs.size=s.heap.objs.size+1->
   (∀c o,c≠z->c≠TO->c≠i1->c≠i2->s.heap.get? c=Fa o->g.get? c=Fa o)->Q (Fa (.ref s.heap.objs.size)) {s with heap:=g,toks:=tk}):pi (Tk prog w) A (pyNext (.ref z)) Q E s:=by
 have hT:s.TypeIs (.ref z) "zip":=⟨_,hz,Z'⟩;unfold pyNext;refine cR (kD (fG (name:=Str.ofString "__next__") hT iR (gc iR hT lR ?_ (lF _))));exact KG D1 D2 WS hz hI hO Xc WW l1 l2 λx y g tk q1 q2 q3 q4 q5 q6 q7 q8 q9=>c9 (hQ x y g tk q1 q2 q3 q4 q5 q6 q7 q8 q9)
def AL{z TI TO i1 i2:Uf}{n1 n2 k:Nat}{P1 P2:Nat->Vl->Prop}{S1 S2:Nat->Go->Prop}{Q:Option Vl->Sd->Prop}(D1:Draws prog w A.in1 i1 f1 n1 P1 S1)(D2:Draws prog w A.in1 i2 f2 n2 P2 S2)(WS:zV z TI TO i1 i2 f1 f2) (hz:TW s.heap z TI TO .none) (hI:ZK s.heap TI (.ref i1) (.ref i2)) (hO:ZK s.heap TO a b) (Xc:S1 k s.heap) (WW:S2 k s.heap) (Zt:k=n1\/(k<n1/\k=n2)) (hQ:∀g tk,(∀c o,c≠z->c≠TO->c≠i1->c≠i2->s.heap.get? c=Fa o->g.get? c=Fa o)->Q Db {s with heap:=g,toks:=tk}):pi (Tk prog w) A (pyNext (.ref z)) Q E s:=by
 have hT:s.TypeIs (.ref z) "zip":=⟨_,hz,Z'⟩;unfold pyNext;refine cR (kD (fG (name:=Str.ofString "__next__") hT iR (gc iR hT lR (MJ D1 D2 WS hz hI hO Xc WW Zt λg e kp hx tk=>?_) (lF _))));obtain⟨o,e1,e2⟩:=hx;exact cR (wpAny_isInstance (T:="StopIteration") (b:=true) ⟨o,e1,e2⟩ isSubtype_stop (c9 (hQ g tk kp)))
def EJ(I:Inv X Wx Y H s)(f:AU X Wx H b)(q:vb X.K H a xs):a≠b:=by
 rintro rfl
 rcases q with q|⟨o,its,n,hk,_⟩
 .have z:=f.1;rcases q with q|⟨u,q⟩<;>(rw[q]at z;cases z)
 .have e:=I.mod.oK a o hk;rcases f.2.2.2.1 with z|z
  .exact I.ok.nQ a o e z
  .exact absurd (dE (dv e) (dY I.ok.oa z)) (eN _)
noncomputable def Vj(K:qx)(a b:Uf):It:=
 ⟨λi H=>∃xs ys x y,vb K H a xs/\vb K H b ys/\xs[i]?=Fa x/\ys[i]?=Fa y,λi H v H'=>∃p x y,v=.ref p/\H p=Db/\H'=upd H p (.tup [x,y])/\(∀xs,vb K H a xs->xs[i]?=Fa x)/\(∀ys,vb K H b ys->ys[i]?=Fa y),λi H=>∃xs ys,vb K H a xs/\vb K H b ys/\i=min xs.length ys.length⟩
def KY{P:Pg}{w:Wo}{K:qx}{WX:T0 zn}{n:Nat}{tp:Pos}(a b z TI TO i1 i2:Uf)(a1:TI≠z)(a2:TO≠z)(a3:i1≠z)(a4:i2≠z)(a5:TI≠TO)(a6:TI≠i1)(a7:TI≠i2)(a8:TO≠i1)(a9:TO≠i2)(pq:i1≠i2):
  Gn P w K (.Tuple WX n tp) (Vj K a b) [z,TI,TO,i1,i2] z (λi h=>TW h z TI TO .none/\ZK h TI (.ref i1) (.ref i2)/\(∃u v,ZK h TO u v)/\h.IsTupleIter i1 a i/\h.IsTupleIter i2 b i) where
 mem:=by simp
 obj:=λi h st c hc=>by
  obtain⟨h1,h2,⟨u,v,h3⟩,⟨o4,h4,_,d4⟩,⟨o5,h5,_,d5⟩⟩:=st;simp only[de,dA,e9]at hc;rcases hc with rfl|rfl|rfl|rfl|rfl
  .exact⟨_,h1,λv z=>by cases z⟩
  .exact⟨_,h2,λv z=>by cases z⟩
  .exact⟨_,h3,λv z=>by cases z⟩
  .exact⟨_,h4,λv z=>by rw[d4]at z;cases z⟩
  .exact⟨_,h5,λv z=>by rw[d5]at z;cases z⟩
 keep:=λi h h' st k=>by obtain⟨h1,h2,⟨u,v,h3⟩,⟨o4,h4,c4⟩,⟨o5,h5,c5⟩⟩:=st;exact⟨k z (by simp) _ h1,k TI (by simp) _ h2,⟨u,v,k TO (by simp) _ h3⟩,⟨o4,k i1 (by simp) _ h4,c4⟩,⟨o5,k i2 (by simp) _ h5,c5⟩⟩
 item:=by
  intro X hP hw hK hc i Wx s Y H E I hf st hg;subst hP hw hK;obtain⟨xs,ys,x,y,hx,hy,ex,ey⟩:=hg;obtain⟨its,rx,px,_⟩:=I.tuple hx;obtain⟨Yv,ry,py,_⟩:=I.tuple hy;obtain⟨u,eu,ru⟩:=rx.get ex;obtain⟨v,ev,rv⟩:=ry.get ey;obtain⟨h1,h2,⟨p,q,h3⟩,h4,h5⟩:=st;have hh:X.A.in1.handled=Db:=I.ok.hd hc;have fa:∀c∈[z,TI,TO,i1,i2],a≠c:=λc hc=>EJ I (hf c hc) hx;have fb:∀c∈[z,TI,TO,i1,i2],b≠c:=λc hc=>EJ I (hf c hc) hy;have WS:zV z TI TO i1 i2 [i1,a] [i2,b]:=⟨a1,a2,a3,a4,a5,a6,a7,a8,a9,pq,by
   simp only[de,dA,e9,fM];exact⟨dG a3,dG (fa z (by simp))⟩,by
   simp only[de,dA,e9,fM];exact⟨a8,dG (fa TO (by simp))⟩,by
   simp only[de,dA,e9,fM];exact⟨dG pq,dG (fa i2 (by simp))⟩,by
   simp only[de,dA,e9,fM];exact⟨dG a4,dG (fb z (by simp))⟩,by
   simp only[de,dA,e9,fM];exact⟨a9,dG (fb TO (by simp))⟩,by
   simp only[de,dA,e9,fM];exact⟨pq,dG (fb i1 (by simp))⟩⟩
  have l1:i<its.toArray.size:=by
   have:=(cU.mp eu).1
   simpa using this
  have l2:i<Yv.toArray.size:=by
   have:=(cU.mp ev).1
   simpa using this
  refine GC (yh hh i1 a (fa i1 (by simp)) its.toArray) (yh hh i2 b (fb i2 (by simp)) Yv.toArray) WS h1 h2 h3 ⟨h4,px⟩ ⟨h5,py⟩ l1 l2 λx' y' g tk e1 e2 z1 o1 s1 s2 t1 sz kp=>?_;have e1':x'=u:=by
   have:its[i]?=Fa x':=by simpa using e1
   rw[eu]at this;exact(cY this).symm
  have YG:y'=v:=by
   have:Yv[i]?=Fa y':=by simpa using e2
   rw[ev]at this;exact(cY this).symm
  subst e1' YG;refine⟨_,Z',wpAny_letOwnedTupleGo_zip z1 λg2 z2 sb=>?_⟩;have zlt:z<s.heap.objs.size:=dv h1;have kk:∀c o,c∉[z,TI,TO,i1,i2]->s.heap.get? c=Fa o->g2.get? c=Fa o:=λc o hc e=>by simp only[de,dA,e9,fM]at hc;exact(sb.2 c hc.1).trans (kp c o hc.1 hc.2.2.1 hc.2.2.2.1 hc.2.2.2.2 e)
  have t2:g2.get? s.heap.objs.size=Fa {cls:=.type "tuple",data:=.seq #[x',y']}:=(sb.2 _ (ib zlt)).trans t1;have YO:H s.heap.objs.size=Db:=I.mQ.fresh (cZ _);have I2:=I.drawn (ch:=[z,TI,TO,i1,i2]) (T:=s.heap.objs.size) (xs:=[x,y]) (its:=[x',y']) (h':=g2) (tk:=tk) hf kk (cZ _) (by show 2<=Ch;decide) (.cons ru (.cons rv .nil)) ⟨_,t2,Z',⟨_,Z'⟩,Z'⟩;refine⟨.ref s.heap.objs.size,_,I2,Z',⟨_,x,y,Z',YO,Z',λxs' hx'=>by rw[I.ni hx' hx];exact ex,λys' hy'=>by rw[I.ni hy' hy];exact ey⟩,?_,λc hc=>?_⟩
  .obtain⟨o4,g4,c4⟩:=s1.1;obtain⟨o5,g5,c5⟩:=s2.1;exact⟨z2,(sb.2 _ a1).trans (kp _ _ a1 a5 a6 a7 h2),⟨_,_,(sb.2 _ a2).trans o1⟩,⟨o4,(sb.2 _ a3).trans g4,c4⟩,⟨o5,(sb.2 _ a4).trans g5,c5⟩⟩
  .have n0:=(hf c hc).1;obtain⟨o,eo⟩:∃o,s.heap.get? c=Fa o:=by
    obtain⟨o4,g4,_⟩:=h4;obtain⟨o5,g5,_⟩:=h5;simp only[de,dA,e9]at hc;rcases hc with rfl|rfl|rfl|rfl|rfl
    .exact⟨_,h1⟩
    .exact⟨_,h2⟩
    .exact⟨_,h3⟩
    .exact⟨_,g4⟩
    .exact⟨_,g5⟩
   rw[pZ (dJ (dv eo))];exact n0
 done:=by
  intro X hP hw hK hc i Wx s Y H E I hf st hg;subst hP hw hK;obtain⟨xs,ys,hx,hy,hi⟩:=hg;obtain⟨its,rx,px,_⟩:=I.tuple hx;obtain⟨Yv,ry,py,_⟩:=I.tuple hy;obtain⟨h1,h2,⟨p,q,h3⟩,h4,h5⟩:=st;have hh:X.A.in1.handled=Db:=I.ok.hd hc;have fa:∀c∈[z,TI,TO,i1,i2],a≠c:=λc hc=>EJ I (hf c hc) hx;have fb:∀c∈[z,TI,TO,i1,i2],b≠c:=λc hc=>EJ I (hf c hc) hy;have WS:zV z TI TO i1 i2 [i1,a] [i2,b]:=⟨a1,a2,a3,a4,a5,a6,a7,a8,a9,pq,by
   simp only[de,dA,e9,fM];exact⟨dG a3,dG (fa z (by simp))⟩,by
   simp only[de,dA,e9,fM];exact⟨a8,dG (fa TO (by simp))⟩,by
   simp only[de,dA,e9,fM];exact⟨dG pq,dG (fa i2 (by simp))⟩,by
   simp only[de,dA,e9,fM];exact⟨dG a4,dG (fb z (by simp))⟩,by
   simp only[de,dA,e9,fM];exact⟨a9,dG (fb TO (by simp))⟩,by
   simp only[de,dA,e9,fM];exact⟨pq,dG (fb i1 (by simp))⟩⟩
  have e1:=rx.length;have e2:=ry.length;refine AL (yh hh i1 a (fa i1 (by simp)) its.toArray) (yh hh i2 b (fb i2 (by simp)) Yv.toArray) WS h1 h2 h3 ⟨h4,px⟩ ⟨h5,py⟩ (by simp only[dg];lia) λg tk kp=>⟨Z',?_⟩;have kk:∀c o,c∉[z,TI,TO,i1,i2]->s.heap.get? c=Fa o->g.get? c=Fa o:=λc o hc e=>by simp only[de,dA,e9,fM]at hc;exact kp c o hc.1 hc.2.2.1 hc.2.2.2.1 hc.2.2.2.2 e
  refine I.step (g':=s.gens) (d':=s.drawn) (t':=tk) (ch:=[z,TI,TO,i1,i2]) (λc hc=>⟨(hf c hc).2.2.2.1,(hf c hc).2.1,(hf c hc).2.2.2.2.1,(hf c hc).2.2.2.2.2⟩) ?_ ?_ (λc o _ e n=>n) ?_ (λ_ _ e=>e) (λ_ _ _ e=>e) (λc ps e=>⟨#[],by rw[e];simp⟩) ?_ ?_ I.bare
  .exact λc o _ _ hc e _=>kk c o hc e
  .exact λc o _ _ hc e _=>⟨o.slots,kk c o hc e⟩
  .exact λc o hc e=>⟨o,kk c o hc e⟩
  .intro m hm;obtain⟨o,es,ep,ho,r⟩:=hm;exact⟨o,es,ep,kk _ o (λy=>(hf _ y).2.1 Z') ho,r⟩
  .intro c u e;refine(I.mQ c u e).nk (λd v hd q=>kk d v (λy=>?_) q) (λ_ q=>q) λ_ _ q=>q;have n:=(hf d y).1;rcases hd with x|x
   .rw[x,e]at n;cases n
   .rw[x]at n;cases n
 self:=λ_ _ _ _ _ st h=>lT st.1 h
def RH{a b:zn}{ta:TA}(hg:Gl X "zip")(hm:X.mg "zip"=Db)(ha:PA X [a,b] ta)(hs:Tl [a,b] X.env=[(lf,wp a X.env),(lf,wp b X.env)]:=by rfl)(Yf:Tl [b] X.env=[(lf,wp b X.env)]:=by rfl):
  PI X (.Tuple WX n tp) (.Call (.Name "zip" p) [a,b] [] pos) (λY H R=>ta Y H λvs H1=>∃l m,vs=[.ref l,.ref m]/\(∃xs,vb X.K H1 l xs)/\(∃xs,vb X.K H1 m xs)/\R (Vj X.K l m) H1):=by
 intro Wx s Y H R I h;refine Call_ (yJ I hg hm RJ (fT (sG (ha pos Wx s Y H _ I h) λus s1 zz=>x5 zz λvs H1 I1 r1 q1=>?_) (by rw[hs,Yf]) (by rw[Yf];rfl)));obtain⟨l,m,e,⟨xs,hx⟩,⟨ys,hy⟩,q⟩:=q1;subst e;obtain⟨u,v,rfl,ru,rv⟩:=QC r1;cases ru;cases rv;obtain⟨its,_,px,_⟩:=I1.tuple hx;obtain⟨Yv,_,py,_⟩:=I1.tuple hy;refine EQ px py λg h1 h2 h3 h4 h5 hk=>lT h1 ?_;have I2:Inv X Wx Y H1 {s1 with heap:=g}:=I1.kept (t':=s1.toks) hk;refine⟨s1.heap.objs.size+4,[s1.heap.objs.size+4,s1.heap.objs.size+2,s1.heap.objs.size+3,s1.heap.objs.size,s1.heap.objs.size+1],_,_,H1,Z',I2,KY l m _ _ _ _ _ ?_ ?_ ?_ ?_ ?_ ?_ ?_ ?_ ?_ ?_,⟨h1,h2,⟨_,_,h3⟩,h4,h5⟩,λb hb=>?_,q⟩
 .exact λz=>by have z:s1.heap.objs.size+2=s1.heap.objs.size+4:=z;lia
 .exact λz=>by have z:s1.heap.objs.size+3=s1.heap.objs.size+4:=z;lia
 .exact λz=>by have z:s1.heap.objs.size=s1.heap.objs.size+4:=z;lia
 .exact λz=>by have z:s1.heap.objs.size+1=s1.heap.objs.size+4:=z;lia
 .exact λz=>by have z:s1.heap.objs.size+2=s1.heap.objs.size+3:=z;lia
 .exact λz=>by have z:s1.heap.objs.size+2=s1.heap.objs.size:=z;lia
 .exact λz=>by have z:s1.heap.objs.size+2=s1.heap.objs.size+1:=z;lia
 .exact λz=>by have z:s1.heap.objs.size+3=s1.heap.objs.size:=z;lia
 .exact λz=>by have z:s1.heap.objs.size+3=s1.heap.objs.size+1:=z;lia
 .exact λz=>by have z:s1.heap.objs.size=s1.heap.objs.size+1:=z;lia
 .have Xo:s1.heap.objs.size<=b:=by
   simp only[de,dA,e9]at hb;rcases hb with rfl|rfl|rfl|rfl|rfl
   .exact iG _ _
   .exact iG _ _
   .exact iG _ _
   .exact cZ _
   .exact iG _ _
  exact I1.nV Xo (I1.mQ.fresh Xo)
noncomputable def AO:T0 D->T0 D->T0 D
 | x::a,y::b=>.tup [x,y]::AO a b
 | _,_=>[]
theorem Jt:∀{ds es:T0 D} {i:Nat},(AO ds es)[i]?=(ds[i]?).bind λd=>(es[i]?).map λe=>D.tup [d,e]
 | [],es,i=>by simp[AO]
 | d::ds,[],i=>by simp[AO]
 | d::ds,e::es,0=>by simp[AO]
 | d::ds,e::es,i+1=>by show(AO ds es)[i]?=_;rw[Jt];simp
theorem EL:∀{ds es:T0 D},(AO ds es).length=min ds.length es.length
 | [],es=>by simp[AO]
 | d::ds,[]=>by simp[AO]
 | d::ds,e::es=>by show(AO ds es).length+1=_;rw[EL];simp only[dS];lia
def P9{K:qx}{ds es:T0 D}(h1:vb K H1 a xs)(h2:qk K H1 ds xs)(g1:vb K H1 b ys)(g2:qk K H1 es ys):G9 K H1 (Vj K a b) (AO ds es) (λ_=>True) where
 go:=λi H M hi hm ok e1=>by rw[EL]at hi;obtain⟨x,ex,_⟩:=h2.get (cS (show i<ds.length by lia));obtain⟨y,ey,_⟩:=g2.get (cS (show i<es.length by lia));exact⟨xs,ys,x,y,e1.t _ _ h1,e1.t _ _ g1,ex,ey⟩
 oS:=λi d H M v H' hd hm ok e1 y=>by
  obtain⟨p,x,z,rfl,hp,rfl,y1,y2⟩:=y;rw[Jt]at hd;cases e:ds[i]? with
  | none=>rw[e]at hd;cases hd
  | some d'=>
   cases e':es[i]? with
   | none=>rw[e,e']at hd;cases hd
   | some d''=>rw[e,e']at hd;cases hd;obtain⟨x',q1,hx⟩:=h2.get e;obtain⟨z',q2,hz⟩:=g2.get e';have w1:=y1 xs (e1.t _ _ h1);have w2:=y2 ys (e1.t _ _ g1);rw[q1]at w1;rw[q2]at w2;have v1:x'=x:=cY w1;have v2:z'=z:=cY w2;subst v1 v2;have ex:qQ K H (upd H p (.tup [x',z'])):=.new hp;exact⟨.tup (.of qh) (.cons (hx.mono (e1.trans ex)) (.cons (hz.mono (e1.trans ex)) .nil)),hm.add hp,ex⟩
 stop:=λH M hm ok e1=>⟨xs,ys,e1.t _ _ h1,e1.t _ _ g1,by rw[EL,h2.length,g2.length]⟩
def Ux(t:xZ):NC:=λU M R=>t U M λds M1=>match ds with
 | [.tup a,.tup b]=>R (AO a b) (λ_=>True) M1
 | _=>False
def Ri{a b:zn}{ta:xZ}(hg:Gl X "zip")(hm:X.mg "zip"=Db)(ha:A3 X [a,b] ta)(hs:Tl [a,b] X.env=[(lf,wp a X.env),(lf,wp b X.env)]:=by rfl)(Yf:Tl [b] X.env=[(lf,wp b X.env)]:=by rfl):
  I3 X (.Tuple WX n tp) (.Call (.Name "zip" p) [a,b] [] pos) (Ux ta):=
 PI.mono (RH hg hm ha hs Yf) λY H R' zz=>x7 zz λU M R hs hm ht k=>⟨U,M,_,hs,hm,ht,λvs H1 ds M1 hd Wz e1 q1=>by
  split at q1
  .obtain⟨v,u,rfl,hv,hw⟩:=IW hd;obtain⟨l,xs,rfl,h1,h2⟩:=hv.mP;obtain⟨m,ys,rfl,g1,g2⟩:=hw.mP;exact⟨l,m,Z',⟨xs,h1⟩,⟨ys,g1⟩,k _ H1 _ _ M1 (P9 h1 h2 g1 g2) Wz e1 trivial q1⟩
  .exact q1.elim⟩
def qG(M M':Mp):Prop:=∀a c,M a=Fa c->M' a=Fa c
def qG.refl:qG M M:=λ_ _ h=>h
def qG.trans{M M1 M2:Mp}(a:qG M M1)(b:qG M1 M2):qG M M2:=λx c h=>b x c (a x c h)
def qG.new{M:Mp}{p:Uf}{c:uP}(h:M p=Db):qG M (pI M p c):=λx d q=>by rw[ua (MB q h)];exact q
def qG.lst{ds:T0 D}(s:qG M M')(h:oC M a=Fa ds):oC M' a=Fa ds:=by
 unfold oC at h ⊢;cases e:M a with
 | none=>rw[e]at h;cases h
 | some c=>rw[s a c e];rw[e]at h;exact h
def HM.sub{K:qx}(h:HM K H M')(s:qG M M'):HM K H M:=λa c q=>h a c (s a c q)
def T9{st:wE}{sp:rj}(F:OD K x qual st f fd)(S:sW N ps (qg st))(len:∀ds M Q,sp ds M Q->ds.length=ps.length) (WU:∀(WJ:Vl) (A:Ar) (outer:T0 Env) (s:Sd) (H:Hp) (E:XK),rZ k (A.deeper (ZJ qual (qg st) s.heap.objs.size f WJ))->
   ∃t,Hg (vv NG P w K mg base N qual (qg st) f WJ A outer s H E).oy (rT st) t/\∀ds M Q,sp ds M Q->t {nx:=λ_ M'=>∃WA,qG WA M'/\Q .mL WA,rt:=λd M'=>∃WA,qG WA M'/\Q d WA} (wR N ds) M):SV P w K mg base (k+1) f fd ps sp:=by
 refine F.ok S (λvs H Q E h=>?_) (λWJ A outer s H vs Q' E hr h=>?_)
 .obtain⟨ds,M,Q,hd,_,hs,_⟩:=h;rw[<-hd.length];exact len ds M Q hs
 .obtain⟨ds,M,Q,hd,hm,hs,k⟩:=h;obtain⟨t,ht,hb⟩:=WU WJ A outer s H E hr;exact⟨_,ht,wR N ds,M,_,DT hd,hm,hb ds M Q hs,λσ' H' δ' M' _ x2 x3 _ ⟨WA,y1,y2⟩=>k .mL H' .mL WA .mL (x2.sub y1) x3 y2,λv H' d M' x1 x2 x3 ⟨WA,y1,y2⟩=>k v H' d WA x1 (x2.sub y1) x3 y2,λ_ _ _ _ _ _ _ _ z=>z,λ_ _ _ _ _ _ _ _ z=>z⟩
theorem CB{g:Dj}{te:T3}{ok:Mp->Prop}{Q:DK}{f:D->D}{M:Mp}(J:vf->Prop)(mQ:ok M):∀(ds acc:T0 D) (U:vf),J U->acc.length+ds.length<=Ch->
  (∀d∈ds,∀U,J U->∀k:vf->DK,(∀δ',J δ'->k δ' (f d) M)->g d U M λδ2 M2=>te δ2 M2 (k δ2))->(∀p,M p=Db->Q (.ref p) (pI M p (.lst (acc++ds.map f))))->uM g B7 te ok Q ds acc U M
 | [],acc,U,_,hl,_,hq=>⟨by simpa using hl,by simpa using hq⟩
 | d::r,acc,U,hj,hl,ht,hq=>by
  rw[dS]at hl;refine⟨by lia,?_⟩;refine ht d dI U hj (λδ2 y M4=>ok M4/\uM g B7 te ok Q r (acc++[y]) δ2 M4) λδ' hj'=>⟨mQ,CB (f:=f) J mQ r (acc++[f d]) δ' hj' ?_ (λe he=>ht e (dz _ he)) ?_⟩
  .rw[cT,dM];lia
  .simpa using hq
def qV{te:T3}{ok:Mp->Prop}{Q:DK}{f:D->D}{M:Mp}(mQ:ok M):∀(ds acc:T0 D) (U:vf),acc.length+ds.length<=Ch->(∀d∈ds,∀k:DK,k (f d) M->te (U.set i (Fa d)) M k)->
  (∀p,M p=Db->Q (.ref p) (pI M p (.lst (acc++ds.map f))))->uM (sF i) B7 te ok Q ds acc U M:=λds acc U hl ht hq=>
 CB (f:=f) (λδ'=>∀d,δ'.set i (Fa d)=U.set i (Fa d)) mQ ds acc U (λ_=>rfl) hl (λd hd δ' hj k hk=>by
  show te (δ'.set i (Fa d)) M (k (δ'.set i (Fa d)));rw[hj d];exact ht d hd _ (hk _ λe=>by rw[iS])) hq
theorem yg{α:Type}(f:α->Bool):∀l:List α,GA (l.map λx=>D.bl (f x))=Fa (l.map f)
 | []=>rfl
 | x::r=>by show(GA (r.map λx=>D.bl (f x))).map (f x::·)=_;rw[yg f r];rfl
def pM{p:Uf}{ds:T0 D}:oC (pI M p (.lst ds)) p=Fa ds:=by unfold oC;rw[pU]
def i'{α:Type}{o:Option α}{P:α->Prop}{x:α}(e:o=Fa x)(h:P x):o.elim False P:=by rw[e];exact h
noncomputable def pk{l:T0 D}(h:decide (l.length<=100)=pc):l.length<=Ch:=by have z:=dN;have:=fL h;lia
theorem Bw{g:Dj}{tb:xS}{ok:Mp->Prop}{E:GO}(J:vf->Mp->Prop)(mQ:∀U M,J U M->ok M):∀(ds:T0 D) (U:vf) (M:Mp),J U M->
  (∀d∈ds,∀U M,J U M->∀nx:vf->Mp->Prop,(∀δ' M',J δ' M'->nx δ' M')->g d U M λδ2 M2=>tb {E with nx:=nx,ct:=nx,bk:=E.nx} δ2 M2)->(∀U M,J U M->E.nx U M)->Fd g tb ok E ds U M
 | [],U,M,j,_,hn=>hn U M j
 | d::r,U,M,j,ht,hn=>ht d dI U M j (λδ' M'=>ok M'/\Fd g tb ok E r δ' M') λδ' M' j'=>⟨mQ δ' M' j',Bw J mQ r δ' M' j' (λe he=>ht e (dz _ he)) hn⟩
theorem vh{g:Dj}{tb:xS}{ok:Mp->Prop}{E:GO}(all:T0 D)(J:T0 D->vf->Mp->Prop)(mQ:∀p U M,J p U M->ok M):∀(ds pre:T0 D) (U:vf) (M:Mp),pre++ds=all->J pre U M->
  (∀pre d post,pre++d::post=all->∀U M,J pre U M->∀nx:vf->Mp->Prop,(∀δ' M',J (pre++[d]) δ' M'->nx δ' M')->g d U M λδ2 M2=>tb {E with nx:=nx,ct:=nx,bk:=E.nx} δ2 M2)->(∀U M,J all U M->E.nx U M)->Fd g tb ok E ds U M
 | [],pre,U,M,e,j,_,hn=>hn U M (by rw[<-e,dO];exact j)
 | d::r,pre,U,M,e,j,ht,hn=>ht pre d r e U M j (λδ' M'=>ok M'/\Fd g tb ok E r δ' M') λδ' M' j'=>⟨mQ _ δ' M' j',vh all J mQ r (pre++[d]) δ' M' (by rw[<-e,eh];rfl) j' ht hn⟩
def HK{c:Bool}{A B:Prop}(h:c=lf)(hb:B):if c=pc then A else B:=by subst h;exact EO hb
def zH{c:Bool}{A B:Prop}(h:c=pc)(ha:A):if c=pc then A else B:=by subst h;exact Lw ha
def S0{t u:xS}{E:GO}{U:vf}{M:Mp}(R:vf->Mp->Prop)(h2:∀nx:vf->Mp->Prop,(∀δ' M',R δ' M'->nx δ' M')->t {E with nx:=nx} U M)(h1:∀δ' M',R δ' M'->u E δ' M'):uz t u E U M:=h2 (u E) h1
def Tx{K:qx}{ns:T0 Int}(hO:MP H)(hS:zb K H a (ns.map V.int)):rV K H (.rl (ns.map D.int)) (.ref a):=by
 have r:OC K H a (ns.map V.int):=by
  rcases hS with h|h
  .rcases h with h|⟨o,h⟩
   .rcases hO a with z|⟨o,xs,z⟩<;>(rw[h]at z;cases z)
   .exact .inl ⟨o,h⟩
  .exact .inr h
 unfold rV;exact⟨a,_,Z',r,.ints⟩
def Rv{K:qx}{sp:rj}{ns:T0 Int}(hO:MP H)(hS:zb K H a (ns.map V.int))(h:sp [.rl (ns.map D.int)] (λ_=>Db) λd _=>d=.bl pc):NH K sp [.ref a] H (λv _=>v=.bl pc) λ_ _ _=>False:=
 ⟨_,λ_=>Db,_,.cons (Tx hO hS) .nil,λ_ _ z=>(by cases z),h,λv H' d M' x1 _ _ x4=>by subst x4;exact x1.mK⟩
def K2{l:W.OpenLaw}{q:Pg}{Xl:QQQ}{XP:(QQZ)->Go->Prop}{YP:Wo->Go->Prop}{d:DefRec}{K:Params->qx}{x:Str}{sp:rj}(hn:l.most=Fa 63)(Y2:d.params.defaults=[])(hr:rZ k callerA) (hY:∀(w:Wo) (h:Go),YP w h->(K w.params).In h) (X3:∀ns:T0 Int,ns.length<=63->sp [.rl (ns.map D.int)] (λ_=>Db) λd _=>d=.bl pc) (F:∀(w:Wo) (mg:QQZ) (fa:Uf) (h:Go),(K w.params).In h->h.Ns wv mg->mg d.name=Fa (.ref fa)->
   ∃fd:Ix,(∀(s:Sd) (u:Vl),BindsTo s fd ⟨[u],[]⟩ [(x,u)])/\∀base:Go,(K w.params).In base->base.Ns wv mg->SV l.prog w (K w.params) mg base k fa fd [x] sp):
  W.WalkO q Xl XP YP l.row.toRowW d [] (λf vs=>PySem.call f vs):=
 L2.PV (n:=63) (k:=k) (x:=x) (CX:=λ_=>NG) (sp:=λw=>NH (K w.params) sp) hn (by decide) Y2 hr hY F (λ_ _ a ns hl hO hS=>Rv hO hS (X3 ns hl)) λ_ _ _ _ _ z=>z
def KD(K:qx)(mg:QQZ)(x:Str)(d:D):Prop:=AW λv u=>mg x=Fa u/\qL v u/\∀H,rV K H d v
def Sq{K:qx}{mg:QQZ}{x y:Str}{t:Tok}(h:mg x=Fa (.str y t)):KD K mg x (.str y):=⟨.str y,_,h,⟨t,Z'⟩,λ_=>.str⟩
def vV{K:qx}{mg:QQZ}{x:Str}{y:Int}{t:Tok}(h:mg x=Fa (.int y t)):KD K mg x (.int y):=⟨.int y,_,h,⟨t,Z'⟩,λ_=>.int⟩
def ur{K:qx}{a:Uf}{ss:QQQ}{us:T0 Vl}{n:Nat}{sl:Array (Option Vl)}(h:K.lookup a=Fa ⟨.type "tuple",Db,.seq us.toArray n,sl⟩)(r:qF (ss.map V.str) us)(hz:us.length<=1000):vb K (λ_=>Db) a (ss.map V.str):=
 .inr ⟨_,us.toArray,n,h,Z',Z',Z',by rw[dg,dN];lia,by simpa using r⟩
theorem Ac{K:qx}:∀{ss:QQQ},qk K H (ss.map D.str) (ss.map V.str)
 | []=>.nil
 | _::_=>.cons .str Ac
def N0{K:qx}{mg:QQZ}{x:Str}{a:Uf}{ss:QQQ}(h:mg x=Fa (.ref a))(q:vb K (λ_=>Db) a (ss.map V.str)):KD K mg x (.tup (ss.map D.str)):=
 ⟨.ref a,_,h,Z',λ_=>.tup (Jb q) Ac⟩
variable {d:D}{i:zn}{td tk:T3}{F:T0 (Str × QQQ)}
def sO(hg:Gl X x)(h:KD X.K X.mg x d)(hd:zI x:=by decide):E3 X (.Name x pos) (c3 d):=by obtain⟨v,u,hm,r,hh⟩:=h;exact PE.mono (Fo hg hm r hd) λY H Q' zz=>x7 zz λU M Q hs hm ht k=>k _ H _ M (hh H) hm .refl ht
def VM(F:T0 (Str×QQQ))(ta:T3):T3:=λU M Q=>ta U M λx M1=>match x with|.str k=>Q (.bl (KTD.datumAt k F).isSome) M1|_=>False
def Uj(F:T0 (Str×QQQ))(ta:T3):T3:=λU M Q=>ta U M λx M1=>match x with|.str k=>(KTD.datumAt k F).elim False λss=>Q (.tup (ss.map D.str)) M1|_=>False
def Mc(T:Nk X.K X.mg x F)(hg:Gl X x)(he:E3 X e ta)(hd:zI x:=by decide)(hmk:ZL .In (.Name x p)=lf:=by rfl):E3 X (.Compare e [.In] [.Name x p] pos) (VM F ta):=by
 obtain⟨a,hm,T⟩:=GR T;refine PE.mono (IA (r:=λy z H Q=>∃k,y=.str k/\z=.ref a/\Q (.bl (KTD.datumAt k F).isSome) H) (λWx s Y H y z v u Q I ry rz ⟨k,e1,e2,q⟩=>?_) he (Fo (v:=.ref a) hg hm Z' hd) hmk) λY H Q' zz=>x7 zz λU M Q hs hm ht k=>⟨U,M,_,hs,hm,ht,λv H1 d M1 hd Wz e1 q1=>?_⟩
 .subst e1 e2;obtain⟨t,rfl⟩:=ry;obtain rfl:u=Value.ref a:=rz;exact Sr (T s.heap I.nA) ⟨.bl (KTD.datumAt k F).isSome,H,I.tok _,Z',q⟩
 .cases d with
  | str k'=>exact⟨k',hd.str_inv,Z',k _ _ _ _ .bl Wz e1 q1⟩
  | _=>exact q1.elim
def JS(T:Nk X.K X.mg x F)(hg:Gl X x)(he:E3 X e ta)(hd:zI x:=by decide)(hs:Bq e:=by exact λ_ _=>rfl):E3 X (.Subscript (.Name x p) e pos) (Uj F ta):=by
 obtain⟨a,hm,T⟩:=GR T;refine PE.mono (Mq (r:=λz y H Q=>∃k ss,y=.str k/\z=.ref a/\KTD.datumAt k F=Fa ss/\∀t,vb X.K H t (ss.map V.str)->Q (.ref t) H) (λvalue WK Wx s Y H z y o i Q I rz ry ⟨k,ss,e1,e2,e3,q⟩ hs=>?_) (Fo (v:=.ref a) hg hm Z' hd) he hs) λY H Q' zz=>x7 zz λU M Q hs hm ht k=>⟨U,M,_,hs,hm,ht,λv H1 d M1 hd Wz e1 q1=>?_⟩
 .subst e1 e2;obtain⟨t,rfl⟩:=ry;obtain rfl:o=Value.ref a:=rz;have hT:=y8 (s:=s) (T s.heap I.nA);have h2:pi (Tk X.prog X.w) X.A (wT (.ref a) (.str k t)) (EP X Wx Y Q) X.xe s:=KQ (T s.heap I.nA) e3 λv ⟨t',e4,q4⟩=>⟨.ref t',H,I.tok _,e4,q t' (Jb q4)⟩;unfold subscriptTail;refine cR ?_;rw[kc hT.not_modules];refine cR (iP hT jx.lookup ?_);have WC:pi (Tk X.prog X.w) X.A (subscripted WK lf (.ref a) (.str k t)) (λr s₃=>pi (Tk X.prog X.w) X.A (letTemporaryGo value (.ref a) r>>=λ_=>pure r) (EP X Wx Y Q) X.xe s₃) X.xe s:=by rw[hs];exact wpAny_operating (d9 h2 (λr s₃ h₃=>cR (ku (c9 h₃))) λ_ _ x=>x)
  first
   | exact c9 (cR WC)
   | exact cR (c9 (cR WC))
   | exact cR WC
 .cases d with
  | str k'=>obtain⟨ss,e4,q2⟩:=qZ q1;exact⟨k',ss,hd.str_inv,Z',e4,λt qt=>k _ _ _ _ (.tup qt Ac) Wz e1 q2⟩
  | _=>exact q1.elim
noncomputable def zS(M:Mp)(a:Uf):Option (T0 (rq×D)):=match M a with
 | some (.dk kvs)=>Fa kvs
 | _=>Db
noncomputable def vC(kvs:T0 (rq×D))(k:rq):Option D:=(kvs.find? λp=>decide (p.1=k)).map (·.2)
def Cb{K:qx}{kvs:T0 (rq×D)}(hm:HM K H M)(h:zS M a=Fa kvs):∃vs,H a=Fa (.dK vs)/\vs.map (·.1)=kvs.map (·.1)/\qk K H (kvs.map (·.2)) (vs.map (·.2)):=by
 unfold zS at h;cases e:M a with
 | none=>rw[e]at h;cases h
 | some c=>
  rw[e]at h;have ok:=hm a c e;cases c with
  | dk es=>cases h;exact ok
  | ins _ _=>cases h
  | lst _=>cases h
  | exc _=>cases h
theorem Fv{K:qx}{k:rq}:∀{kvs:T0 (rq×D)} {vs:T0 (rq×V)},vs.map (·.1)=kvs.map (·.1)->qk K H (kvs.map (·.2)) (vs.map (·.2))->(∀d,vC kvs k=Fa d->∃v,wU vs k=Fa v/\rV K H d v)/\(vC kvs k=Db->wU vs k=Db)
 | [],[],_,_=>⟨λd z=>(by cases z),λ_=>rfl⟩
 | [],_::_,e,_=>by cases e
 | _::_,[],e,_=>by cases e
 | (j,d)::kvs,(j',v)::vs,e,h=>by
  have e1:j'=j:=by simpa using(gG e).1
  subst e1;obtain⟨x,r,e2,h1,h2⟩:=h.inv;obtain⟨e3,e4⟩:=gG e2;subst e3 e4;have ih:=Fv (k:=k) (kvs:=kvs) (vs:=vs) (gG e).2 h2;by_cases hk:j'=k
  .have g:vC ((j',d)::kvs) k=Fa d:=by simp[vC,hk]
   have g':wU ((j',v)::vs) k=Fa v:=by simp[wU,hk]
   rw[g,g'];exact⟨λd' z=>by cases z;exact⟨v,Z',h1⟩,λz=>by cases z⟩
  .have g:vC ((j',d)::kvs) k=vC kvs k:=by simp[vC,hk]
   have g':wU ((j',v)::vs) k=wU vs k:=by simp[wU,hk]
   rw[g,g'];exact ih
def Lo(x y:D)(M:Mp)(Q:DK):Prop:=match x,y with
 | .ref a,.str k=>(zS M a).elim False λkvs=>(vC kvs (.inr k)).elim False λd=>Q d M
 | _,_=>False
def Uc(td tk:T3):T3:=λU M Q=>td U M λx M1=>tk U M1 λy M2=>Lo x y M2 Q
def zQ(hu:X.A.units+9<ZP)(ho:E3 X o td)(hi:E3 X i tk)(hs:Bq i:=by exact λ_ _=>rfl):E3 X (.Subscript o i pos) (Uc td tk):=by
 refine PE.mono (Mq (r:=R3 X.K Lo) (λvalue WK Wx s Y H vx vy v u Q' I rx ry h hs=>?_) ho hi hs) Hj;obtain⟨x,y,M,Q,hx,hy,hm,q,k⟩:=h;unfold Lo at q;split at q
 .rename_i a0 k0;obtain⟨kvs,e1,q⟩:=qZ q;obtain⟨d,e2,q⟩:=qZ q;cases hx.mG;cases hy.str_inv;obtain⟨vs,h1,h2,h3⟩:=Cb hm e1;obtain⟨w,e3,hw⟩:=(Fv h2 h3).1 d e2;refine OK (by lia) value WK Wx s Y H _ _ v u Q' I rx ry ⟨_,w,Z',?_,k _ _ _ _ hw hm .refl q⟩ hs;have g:=Ei.k (k:=Sum.inr k0) h1;rw[e3]at g;exact g
 .exact q.elim
def Q7(Yb:Bool)(x y:D)(M:Mp)(Q:DK):Prop:=match x,y with
 | .str k,.ref a=>(zS M a).elim False λkvs=>Q (.bl (if Yb then !(vC kvs (.inr k)).isSome else(vC kvs (.inr k)).isSome)) M
 | _,_=>False
def Ma{K:qx}{k:rq}{kvs:T0 (rq×D)}{vs:T0 (rq×V)}(h2:vs.map (·.1)=kvs.map (·.1))(h3:qk K H (kvs.map (·.2)) (vs.map (·.2))):(wU vs k).isSome=(vC kvs k).isSome:=by
 obtain⟨a,b⟩:=Fv (k:=k) h2 h3;cases e:vC kvs k with
 | none=>rw[b e];rfl
 | some d=>obtain⟨v,e3,_⟩:=a d e;rw[e3];rfl
def U7(Yb:Bool)(tk td:T3):T3:=λU M Q=>tk U M λx M1=>td U M1 λy M2=>Q7 Yb x y M2 Q
def TM(hu:X.A.units+9<ZP):xU X (Op .In) (R3 X.K (Q7 lf)):=λWx s Y H vx vy v u Q' I rx ry h=>by
 obtain⟨x,y,M,Q,hx,hy,hm,q,k⟩:=h;unfold Q7 at q;split at q
 .obtain⟨kvs,e1,q⟩:=qZ q;cases hy.mG;cases hx.str_inv;obtain⟨vs,h1,h2,h3⟩:=Cb hm e1;refine Q2 (by lia) Wx s Y H _ _ v u Q' I rx ry ⟨_,_,Z',Ei.k (k:=Sum.inr _) h1,?_⟩;rw[Ma h2 h3];exact k _ _ _ _ .bl hm .refl q
 .exact q.elim
def Ln(hu:X.A.units+9<ZP)(hi:E3 X i tk)(ho:E3 X o td)(hm:ZL .In o=lf:=by first|exact Hy _|with_unfolding_all rfl):B3 X (.Compare i [.In] [o] pos) (b3 (U7 lf tk td)):=PT.mono (IE (TM hu) hi ho hm) λY H Q' zz=>x7 zz λU M Q hs hm ht k=>
 Hj Y H _ ⟨U,M,_,hs,hm,ht,λv H1 d M1 hd Wz e1 q1=>by
  cases d with
  | bl c=>exact⟨c,hd.mK,k c H1 M1 Wz e1 q1⟩
  | _=>exact q1.elim⟩
noncomputable def wK:T0 D->Option (T0 (rq×D))
 | []=>Fa []
 | .tup [.str k,d]::r=>(wK r).map ((.inr k,d)::·)
 | _::_=>Db
theorem D4{K:qx}:∀{es:T0 D} {kvs:T0 (rq×D)} {xs:T0 V},wK es=Fa kvs->qk K H es xs->∃(ts:QXQ) (vs:T0 (rq×V)),xs=ts.map V.ref/\ts.length=vs.length/\vs.map (·.1)=kvs.map (·.1)/\qk K H (kvs.map (·.2)) (vs.map (·.2))/\
  ∀(j:Nat) (t:Uf) (p:rq×V),ts[j]?=Fa t->vs[j]?=Fa p->vb K H t [kV p.1,p.2]
 | [],_,_,e,h=>by cases e;exact⟨[],[],h.nil_inv,Z',Z',.nil,λj t p z=>by simp at z⟩
 | d::es,kvs,xs,e,h=>by
  obtain⟨x,r,rfl,h1,h2⟩:=h.inv;unfold wK at e;split at e
  .rename_i z;cases z
  .rename_i k d' r' z;cases z;cases q:wK es with
   | none=>rw[q]at e;cases e
   | some kvs'=>
    rw[q]at e;cases e;obtain⟨ts,vs,e1,e2,e3,e4,e5⟩:=D4 q h2;obtain⟨a,ys,rfl,g1,g2⟩:=h1.mP;obtain⟨y,r1,rfl,g3,g4⟩:=g2.inv;obtain⟨w,r2,rfl,g5,g6⟩:=g4.inv;cases g6.nil_inv;cases g3.str_inv;refine⟨a::ts,(.inr k,w)::vs,by rw[e1];rfl,by simpa using e2,by rw[dW,dW,e3],.cons g5 e4,λj t p z1 z2=>?_⟩;cases j with
    | zero=>
     have z1':a=t:=by simpa using z1
     have z2':(Sum.inr k,w)=p:=by simpa using z2
     subst z1' z2';exact g1
    | succ j=>exact e5 j t p (by simpa using z1) (by simpa using z2)
  .cases e
def QF(ds:T0 D)(M:Mp)(Q:DK):Prop:=match ds with
 | [.ref a]=>(oC M a).elim False λes=>(wK es).elim False λkvs=>(kvs.map (·.1)).Nodup/\∀p,M p=Db->Q (.ref p) (pI M p (.dk kvs))
 | _=>False
def Eh(hc:X.calm=pc):C3 X (.type "dict") QF:=by
 intro Wx s Y H vs us Q' I rv h;obtain⟨ds,M,Q,hd,hm,q,k⟩:=h;unfold QF at q;split at q
 .obtain⟨es,e1,q⟩:=qZ q;obtain⟨kvs,e2,hnd,q⟩:=qZ q;obtain⟨v,rfl,hv⟩:=sA hd;cases hv.mG;obtain⟨xs,h1,h2,_⟩:=qv hm e1;obtain⟨ts,ws,rfl,f2,f3,f4,f5⟩:=D4 e2 h2;refine HA hc Wx s Y H _ us Q' I rv ⟨_,ts,ws,Z',h1,f2,f5,by rw[f3];exact hnd,λd hd=>?_⟩;have e:qQ X.K H (upd H d (.dK ws)):=.new hd;exact k _ _ _ _ .ref (hm.new (c:=.dk kvs) hd ⟨_,qh,f3,f4.mono e⟩) e (q d (hm.fresh hd))
 .exact q.elim
def HG:No "set"=Fa (.type "set"):=by decide+kernel
noncomputable def Cm:T0 D->Option (QQQ)
 | []=>Fa []
 | .str x::r=>(Cm r).map (x::·)
 | _::_=>Db
theorem xT:∀ss:QQQ,Cm (ss.map D.str)=Fa ss
 | []=>rfl
 | x::r=>by show(Cm (r.map D.str)).map (x::·)=_;rw[xT r];rfl
theorem Gi{K:qx}:∀{ds:T0 D} {ss:QQQ} {xs:T0 V},Cm ds=Fa ss->qk K H ds xs->xs=ss.map V.str
 | [],_,_,e,h=>by cases e;exact h.nil_inv
 | d::ds,_,_,e,h=>by
  obtain⟨x,r,rfl,h1,h2⟩:=h.inv;cases d with
  | str z=>
   unfold Cm at e;cases q:Cm ds with
   | none=>rw[q]at e;cases e
   | some ss=>rw[q]at e;cases e;rw[h1.str_inv,Gi q h2];rfl
  | _=>cases e
def Qi(ta:T3):T3:=λU M Q=>ta U M λx M1=>(Nd M1 x).elim False λes=>(Cm es).elim False λss=>ss.length<4000/\Q (.int (tJ ss).length) M1
def Au(hc:X.calm=pc)(he:E3 X e ta)(hg1:Gl X "len")(Wz:X.mg "len"=Db)(hg2:Gl X "set")(WO:X.mg "set"=Db)(b1:No "len"=Fa (.builtin "len"))(b2:No "set"=Fa (.type "set")) (hs:Tl [e] X.env=[(lf,wp e X.env)]:=by rfl):E3 X (.Call (.Name "len" p) [.Call (.Name "set" p2) [e] [] Ym] [] pos) (Qi ta):=
 PE.mono (Km hc he hg1 Wz hg2 WO b1 b2 hs) λY H Q' zz=>x7 zz λU M Q hs hm ht k=>⟨U,M,_,hs,hm,ht,λv H1 d M1 hd Wz e1 q1=>by
  obtain⟨es,e2,q1⟩:=qZ q1;obtain⟨ss,e3,hz,q1⟩:=qZ q1;obtain⟨a,xs,rfl,h1,h2⟩:=FP Wz hd e2;rw[Gi e3 h2]at h1;have z:ZV=4096:=rfl;exact⟨a,ss,Z',h1,by lia,k _ _ _ _ .int Wz e1 q1⟩⟩
def Si(x:D)(ds:T0 D)(M:Mp)(Q:DK):Prop:=match x,ds with
 | .ref a,[y]=>(oC M a).elim False λes=>es.length<Ch/\Q .mL (pI M a (.lst (es++[y])))
 | _,_=>False
def qm{es:T0 D}(h:oC M a=Fa es):M a=Fa (.lst es):=by
 unfold oC at h;split at h
 .rename_i e;rw[e];cases h;rfl
 .cases h
def Er{K:qx}{es:T0 D}(hm:HM K H M)(h:oC M a=Fa es):∃xs,H a=Fa (.lst xs)/\qk K H es xs:=hm a _ (qm h)
def Kg:M3 X "list.append" Si:=by
 intro Wx s Y H vx vs v us Q' I rx rv h;obtain⟨x,ds,M,Q,hx,hd,hm,q,k⟩:=h;unfold Si at q;split at q
 .obtain⟨es,e1,hz,q⟩:=qZ q;obtain⟨w,rfl,hw⟩:=sA hd;cases hx.mG;obtain⟨xs,h1,h2⟩:=Er hm e1;refine J6 Wx s Y H _ _ v us Q' I rx rv ⟨_,xs,w,Z',Z',h1,by rw[<-h2.length];exact hz,?_⟩;obtain⟨WO,ex⟩:=hm.put (c:=.lst (es++[_])) (qm e1) λex=>⟨_,qh,(h2.mono ex).snoc (hw.mono ex)⟩;exact k _ _ _ _ .mL WO ex q
 .exact q.elim
def rG(ho:E3 X o ta)(ha:A3 X (e::es) t)(WV:At o "append" X.env (wp o X.env)=wp o X.env:=by rfl)
  (XN:((sB pos (Tl (e::es) X.env)).all (λx=>!x.1)&&(sK pos (Ps [] X.env)).all (λx=>x.1.isSome)&&decide ((e::es).length+([]:T0 ZS).length+(if ([]:T0 ZS).isEmpty then 0 else 1)<30))=pc:=by rfl)
  (W6:(WB.endLine==pos.line)=pc:=by rfl) (hs:Bv X e es:=by rfl) (WP:CS X pos es:=by rfl):
  E3 X (.Call (.Attribute o "append" WB) (e::es) [] pos) (Vn Si ta t):=Qx PySem.F.slot_list_append PySem.F.type_list_append Kg ho ha WV XN W6 hs WP
def qG.none{M M2:Mp}{q:Uf}(s:qG M M2)(h:M2 q=Db):M q=Db:=by
 cases e:M q with
 | none=>rfl
 | some c=>rw[s q c e]at h;cases h
def qG.upd{M M2:Mp}{c:uP}(s:qG M M2):qG (pI M q c) (pI M2 q c):=λx d h=>by
 by_cases e:x=q
 .subst e;rw[pU]at h ⊢;exact h
 .rw[ua e]at h ⊢;exact s x d h
def qG.dk{ds:T0 (rq×D)}(s:qG M M')(h:zS M a=Fa ds):zS M' a=Fa ds:=by
 unfold zS at h ⊢;cases e:M a with
 | none=>rw[e]at h;cases h
 | some c=>rw[s a c e];rw[e]at h;exact h
def rY(p:Uf)(M M':Mp):Prop:=∀b c,b≠p->M b=Fa c->M' b=Fa c
def qG.keep{p:Uf}(s:qG M M'):rY p M M':=λb c _ h=>s b c h
def rY.trans{M M1 M2:Mp}{p:Uf}(a:rY p M M1)(b:rY p M1 M2):rY p M M2:=λx c n h=>b x c n (a x c n h)
def rY.put{p:Uf}{c:uP}:rY p M (pI M p c):=λb d n h=>by rw[ua n];exact h
def rY.lst{p a:Uf}{ds:T0 D}(k:rY p M M')(n:a≠p)(h:oC M a=Fa ds):oC M' a=Fa ds:=by have:=k a _ n (qm h);unfold oC;rw[this]
def rY.dk{p a:Uf}{ds:T0 (rq×D)}(k:rY p M M')(n:a≠p)(h:zS M a=Fa ds):zS M' a=Fa ds:=by
 unfold zS at h ⊢;cases e:M a with
 | none=>rw[e]at h;cases h
 | some c=>rw[k a c n e];rw[e]at h;exact h
def pW{a p C:Uf}{ds:T0 D}{fs:T0 (Str×D)}(h:oC M a=Fa ds)(hp:M p=Fa (.ins C fs)):a≠p:=λz=>by subst z;rw[qm h]at hp;cases hp
def BU{a p C:Uf}{ds:T0 (rq×D)}{fs:T0 (Str×D)}(h:zS M a=Fa ds)(hp:M p=Fa (.ins C fs)):a≠p:=λz=>by subst z;unfold zS at h;rw[hp]at h;cases h
def sS{M:Mp}{p:Uf}{ds:T0 D}(h:M p=Fa (.lst ds)):oC M p=Fa ds:=by unfold oC;rw[h]
def DP{M:Mp}{p:Uf}{ds:T0 (rq×D)}(h:M p=Fa (.dk ds)):zS M p=Fa ds:=by unfold zS;rw[h]
def sY{N:Mp}{p q C:Uf}{fs fs':T0 (Str×D)}{c:uP}(hp:N p=Fa (.ins C fs))(hq:N q=Db):
  q≠p/\pI N q c p=Fa (.ins C fs)/\rY p N (pI (pI N q c) p (.ins C fs'))/\pI (pI N q c) p (.ins C fs') q=Fa c/\pI (pI N q c) p (.ins C fs') p=Fa (.ins C fs'):=by
 have n:p≠q:=MB hp hq;refine⟨dG n,by rw[ua n];exact hp,(qG.new hq).keep.trans .put,by rw[ua (dG n),pU],pU⟩
theorem Bu{g:Dj}{te:T3}{ok:Mp->Prop}{Q:DK}(all:T0 D)(J:T0 D->T0 D->vf->Mp->Prop)(mQ:∀p acc U M,J p acc U M->ok M):∀(ds pre acc:T0 D) (U:vf) (M:Mp),pre++ds=all->acc.length+ds.length<=Ch->J pre acc U M->
  (∀pre d post,pre++d::post=all->∀acc U M,J pre acc U M->∀k:vf->DK,(∀δ2 y M4,J (pre++[d]) (acc++[y]) δ2 M4->k δ2 y M4)->g d U M λδ2 M2=>te δ2 M2 (k δ2))->
  (∀acc U M,J all acc U M->∀p,M p=Db->Q (.ref p) (pI M p (.lst acc)))->uM g B7 te ok Q ds acc U M
 | [],pre,acc,U,M,e,hl,j,_,hq=>⟨by simpa using hl,hq acc U M (by rw[<-e,dO];exact j)⟩
 | d::r,pre,acc,U,M,e,hl,j,ht,hq=>by rw[dS]at hl;refine⟨by lia,?_⟩;refine ht pre d r e acc U M j (λδ2 y M4=>ok M4/\uM g B7 te ok Q r (acc++[y]) δ2 M4) λδ2 y M4 j'=>⟨mQ _ _ _ _ j',Bu all J mQ r (pre++[d]) (acc++[y]) δ2 M4 (by rw[<-e,eh];rfl) ?_ j' ht hq⟩;rw[cT,dM];lia
noncomputable def MO:Nat->D->Bool
 | _,.mL=>pc
 | _,.bl _=>pc
 | _,.int _=>pc
 | _,.str _=>pc
 | n+1,.tup ds=>ds.all (MO n)
 | _,_=>lf
theorem yZ{f:D->D->Option Bool}:∀ds:T0 D,(∀d∈ds,f d d=Fa pc)->sE f ds ds=Fa pc
 | [],_=>rfl
 | d::r,h=>by show(f d d).bind (λp=>(sE f r r).map λq=>p&&q)=Fa pc;rw[h d dI,yZ r λe he=>h e (dz _ he)];rfl
theorem G4:∀(n:Nat) (d:D),MO n d=pc->yk M (n+1) d d=Fa pc
 | _,.mL,_=>rfl
 | _,.bl _,_=>by simp[yk]
 | _,.int _,_=>by simp[yk]
 | _,.str _,_=>by simp[yk]
 | n+1,.tup ds,h=>by have h:ds.all (MO n)=pc:=h;show(sE (yk M (n+1)) ds ds).map (λp=>p&&ds.length==ds.length)=Fa pc;rw[yZ ds λd hd=>G4 n d (eY.mp h d hd)];simp
 | 0,.tup _,h=>by cases h
 | 0,.ref _,h=>by cases h
 | _+1,.ref _,h=>by cases h
 | 0,.ty _,h=>by cases h
 | _+1,.ty _,h=>by cases h
 | 0,.rl _,h=>by cases h
 | _+1,.rl _,h=>by cases h
def Kd{ds:T0 D}(ha:oC M a=Fa ds)(hb:oC M b=Fa ds)(h:∀d∈ds,yk M n d d=Fa pc):yk M (n+1) (.ref a) (.ref b)=Fa pc:=by show(oC M a).bind (λi=>(oC M b).bind λj=>if i.length=j.length then sE (yk M n) i j else Fa lf)=Fa pc;rw[ha,hb];show(if ds.length=ds.length then sE (yk M n) ds ds else Fa lf)=Fa pc;rw[cX Z'];exact yZ ds h
def QM(tc:AE)(tb:xS):xS:=λE U M=>∃W:Nat->vf->Mp->Prop,(∃m,W m U M)/\∀m U M,W m U M->
 tc U M λb M1=>if b=pc then tb {E with nx:=λδ' M'=>∃m',m'<m/\W m' δ' M',ct:=λδ' M'=>∃m',m'<m/\W m' δ' M',bk:=E.nx} U M1 else E.nx U M1
def Ml{tc:AE}{tb:xS}(hp:PassesOwn (Tk X.prog X.w) X.A X.env X.xe)(hc:B3 X c tc)(hb:Hg X body tb):S3 X (.While c body [] pos) (QM tc tb):=
 PS.mono (LG hp hc hb) λD' Y H ⟨U,M,E,hs,hm,⟨W,⟨m0,w0⟩,turn⟩,k1,k2,k3,k4⟩=>by
 refine⟨λm σ' H'=>∃δ' M',yY X.K H' σ' δ'/\HM X.K H' M'/\qQ X.K H H'/\σ'.length=Y.length/\W m δ' M',⟨m0,U,M,hs,hm,.refl,Z',w0⟩,?_⟩
 rintro m σ1 H1 ⟨δ1,M1,Zq,Wz,e1,l1,w1⟩
 refine⟨δ1,M1,_,Zq,Wz,turn m δ1 M1 w1,λb H2 M2 WO e2 q2=>?_⟩;cases b with
 | false=>rw[cV dh]at q2 ⊢;exact k1 σ1 H2 δ1 M2 (Zq.mono e2) WO (e1.trans e2) l1 q2
 | true=>
  rw[cX Z']at q2 ⊢;refine⟨λσ' H'=>∃δ' M',yY X.K H' σ' δ'/\HM X.K H' M'/\qQ X.K H H'/\σ'.length=Y.length/\∃m',m'<m/\W m' δ' M',?_,δ1,M2,_,Zq.mono e2,WO,q2,?_,?_,?_,?_⟩
  .rintro σ' H' ⟨δ',M',a1,a2,a3,a4,m',lt,w⟩
   exact⟨m',lt,δ',M',a1,a2,a3,a4,w⟩
  .exact λσ' H' δ' M' y1 y2 y3 y4 y5=>⟨δ',M',y1,y2,e1.trans (e2.trans y3),by rw[y4,l1],y5⟩
  .exact λv H' d M' y1 y2 y3 y4=>k2 v H' d M' y1 y2 (e1.trans (e2.trans y3)) y4
  .exact λσ' H' δ' M' y1 y2 y3 y4 y5=>k1 σ' H' δ' M' y1 y2 (e1.trans (e2.trans y3)) (by rw[y4,l1]) y5
  .exact λσ' H' δ' M' y1 y2 y3 y4 y5=>⟨δ',M',y1,y2,e1.trans (e2.trans y3),by rw[y4,l1],y5⟩
noncomputable def Q0(op:ZX)(x y:D):Option D:=match op,x,y with
 | .Add,.int i,.int j=>Fa (.int (i+j))
 | .Sub,.int i,.int j=>Fa (.int (i - j))
 | _,_,_=>Db
def RS(op:ZX):V->V->Hp->VK->Prop:=λvx vy H Q=>match op,vx,vy with
 | .Add,.int i,.int j=>Q (.int (i+j)) H
 | .Sub,.int i,.int j=>Q (.int (i - j)) H
 | _,_,_=>False
def R7:PB X op (RS op):=by
 intro Wx s Y H x y u v Q I rx ry h;unfold RS at h;split at h
 .exact RP Wx s Y H _ _ u v Q I rx ry ⟨_,_,Z',Z',h⟩
 .exact QZ Wx s Y H _ _ u v Q I rx ry ⟨_,_,Z',Z',h⟩
 .exact h.elim
def O1{K:qx}{x y z:D}{Q:VK}(hx:rV K H x vx)(hy:rV K H y vy)(e:Q0 op x y=Fa z)(k:∀vz,rV K H z vz->Q vz H):RS op vx vy H Q:=by
 unfold Q0 at e;split at e
 .cases e;cases hx.int_inv;cases hy.int_inv;exact k _ .int
 .cases e;cases hx.int_inv;cases hy.int_inv;exact k _ .int
 .cases e
def TC(K:qx)(f:Str)(op:ZX)(ta tv:T3):xS:=λE U M=>ta U M λx M1=>match x with
 | .ref a=>Aq (M1 a) λC fs=>ue K C f/\(fs.lookup f).elim False λd=>tv U M1 λy M2=>(Q0 op d y).elim False λz=>Aq (M2 a) λC' fs'=>C'=C/\fs'.length<1000/\E.nx U (pI M2 a (.ins C (wc f z fs')))
 | _=>False
def DZ{f:Str}(ha:E3 X o ta)(hv:E3 X value tv):S3 X (.AugAssign (.Attribute o f YD) op value pos) (TC X.K f op ta tv):=
 PS.mono (JK ha hv R7) λD' Y H zz=>KM zz λU M E hs hm ht k1 k2 k3 k4=>
 ⟨U,M,_,hs,hm,ht,λv H1 d M1 hd Wz e1 q1=>by
  cases d with
  | ref a=>
   cases hd.mG;obtain⟨C,fs,e,q1⟩:=yc q1;obtain⟨na,q1⟩:=q1;obtain⟨d,ed,q1⟩:=qZ q1;obtain⟨dx,vs,h1,cl,nn,fo⟩:=Wz a _ e;obtain⟨w,ew,hw⟩:=(wI fo).1 d ed;refine⟨a,C,dx,vs,w,Z',h1,cl,na,ew,U,M1,_,hs.mono e1,Wz,q1,λu H2 y M2 hy WO e2 q2=>?_⟩;obtain⟨z,ez,q2⟩:=qZ q2;obtain⟨C',fs',e',q2⟩:=yc q2;obtain⟨rfl,hl,q2⟩:=q2;refine O1 (hw.mono e2) hy ez λvz hz=>?_;obtain⟨Zh,vs',Xh,cl',nn',fo'⟩:=WO a _ e';have WD:vs'.length=fs'.length:=by have:=eJ List.length fo'.1;simpa using this
   refine⟨Zh,vs',Xh,by lia,?_⟩;obtain⟨Xs,e3⟩:=WO.put (p:=a) (o:=.ins C' Zh (vD f vz vs')) (c:=.ins C' (wc f z fs')) e' λx=>⟨Zh,_,qh,cl',λg hg=>by
    rcases Ck hg with q|q
    .rw[q];exact na
    .exact nn' g q,E5 (hz.mono x) (fo'.mono x)⟩
   exact k1 Y _ U _ (hs.mono (e1.trans (e2.trans e3))) Xs (e1.trans (e2.trans e3)) Z' q2
  | _=>exact q1.elim⟩
theorem tF{i:Nat}{tt:AE}{te:T3}{ok:Mp->Prop}{Q:DK}{f:D->D}{t:D->Bool}{M:Mp}(mQ:ok M):∀(ds acc:T0 D) (U:vf),acc.length+ds.length<=Ch->
  (∀d∈ds,∀k:Bool->Mp->Prop,k (t d) M->tt (U.set i (Fa d)) M k)->(∀d∈ds,t d=pc->∀k:DK,k (f d) M->te (U.set i (Fa d)) M k)->
  (∀p,M p=Db->Q (.ref p) (pI M p (.lst (acc++(ds.filter t).map f))))->uM (sF i) tt te ok Q ds acc U M
 | [],acc,U,hl,_,_,hq=>⟨by simpa using hl,by simpa using hq⟩
 | d::r,acc,U,hl,ht,he,hq=>by
  rw[dS]at hl;refine⟨by lia,?_⟩;show tt (U.set i (Fa d)) M _;refine ht d dI _ ?_;have z:∀e:D,(U.set i (Fa d)).set i (Fa e)=U.set i (Fa e):=λe=>by rw[iS]
  cases q:t d with
  | true=>
   rw[cX Z'];refine he d dI q _ ⟨mQ,tF (f:=f) (t:=t) mQ r (acc++[f d]) _ ?_ (λe m k h=>?_) (λe m h0 k h=>?_) ?_⟩
   .rw[cT,dM];lia
   .rw[z];exact ht e (dz _ m) k h
   .rw[z];exact he e (dz _ m) h0 k h
   .intro p hp;have:=hq p hp;rw[gT q]at this
    simpa using this
  | false=>
   rw[cV dh];refine⟨mQ,tF (f:=f) (t:=t) mQ r acc _ (by lia) (λe m k h=>?_) (λe m h0 k h=>?_) ?_⟩
   .rw[z];exact ht e (dz _ m) k h
   .rw[z];exact he e (dz _ m) h0 k h
   .intro p hp;have:=hq p hp;rw[gU (by rw[q];exact dh)]at this;exact this
section
variable {a:zn}
def Vp(ta:T3):T3:=λU M Q=>ta U M λx M1=>match x with|.int i=>Q (.int (-i)) M1|_=>False
def uQ(ha:E3 X a ta):E3 X (.UnaryOp .USub a pos) (Vp ta):=PE.mono (Ti Se ha) λY H Q' zz=>x7 zz λU M Q hs hm ht k=>
 ⟨U,M,_,hs,hm,ht,λv H1 d M1 hd Wz e1 q1=>by
  cases d with
  | int i=>cases hd.int_inv;exact⟨i,Z',k _ H1 _ M1 .int Wz e1 q1⟩
  | _=>exact q1.elim⟩
end
end L3
namespace L2
open PySem.W
variable {prog:Pg}{w:Wo}{A:Ar}{E:QQX}{s:Sd}
end L2
namespace L3
open L2
variable {X:Cx}{pos:Pos}{a b o i:zn}{ta tb ti to:T3}
def TH(to ti:T3):Dj:=λd U M Q=>to U M λx M1=>ti U M1 λy M2=>match x,y with
 | .ref p,.int k=>(oC M2 p).elim False λes=>(E8 es.length k).elim False λj=>Q U (pI M2 p (.lst (es.set j d)))
 | _,_=>False
theorem qk.set{K:qx}(hv:rV K H d v):∀{ds:T0 D} {xs:T0 V} (j:Nat),qk K H ds xs->qk K H (ds.set j d) (xs.set j v)
 | [],_,j,h=>by rw[h.nil_inv];simp only[List.set_nil];exact .nil
 | e::ds,_,0,h=>by obtain⟨x,r,rfl,h1,h2⟩:=h.inv;exact .cons hv h2
 | e::ds,_,j+1,h=>by obtain⟨x,r,rfl,h1,h2⟩:=h.inv;exact .cons h1 (qk.set hv j h2)
def Sf(ho:E3 X o to)(hi:E3 X i ti) (ha:∀v,assign (.Subscript o i pos) X.env v=(do
   let ov<-TD [v] (wp o X.env);let iv<-TD [v,ov] (wp i X.env)
   ZR pos
   TD [v,ov,iv] (setItem ov iv v)
   release [v,ov,iv] []):=by intro _;rfl):G3 X (.Subscript o i pos) (TH to ti):=
 PG.mono (RY ho hi Lf ha) λv Y H Q' ⟨d,U,M,Q,hd,hs,hm,ht,k⟩=>
 ⟨U,M,_,hs,hm,ht,λvx H1 x M1 hx Wz e1 q1=>⟨U,M1,_,hs.mono e1,Wz,q1,λvy H2 y M2 hy WO e2 q2=>by
  cases x with
  | ref p=>
   cases y with
   | int j0=>obtain⟨es,f1,q2⟩:=qZ q2;obtain⟨j,f2,q2⟩:=qZ q2;cases(hx.mono e2).mG;cases hy.int_inv;obtain⟨xs,h1,h2⟩:=Er WO f1;refine⟨p,xs,j0,j,Z',Z',h1,by rw[<-h2.length];exact f2,?_⟩;have hd2:=hd.mono (e1.trans e2);obtain⟨Xs,e3⟩:=WO.put (o:=.lst (xs.set j v)) (c:=.lst (es.set j d)) (qm f1) λex=>⟨_,qh,(h2.mono ex).set (hd2.mono ex) j⟩;exact k Y _ U _ (hs.mono (e1.trans (e2.trans e3))) Xs (e1.trans (e2.trans e3)) Z' q2
   | _=>exact q2.elim
  | _=>exact q2.elim⟩⟩
end L3
namespace L2
variable {prog:Pg}{w:Wo}{A:Ar}{E:QQX}{s:Sd}{X:Cx}
end L2
namespace L3
open L2
variable {X:Cx}{pos WB p:Pos}{a b o e i value:zn}{es:T0 zn}{ta tb ti to tv td tk:T3}{t:xZ}
def Rg(x y:D)(M:Mp)(Q:DK):Prop:=match x,y with
 | .ref a,.int k=>(oC M a).elim False λes=>(0<=k/\k<=1000/\es.length<=1000)/\∀p,M p=Db->Q (.ref p) (pI M p (.lst (List.replicate k.toNat es).flatten))
 | _,_=>False
theorem Jo{K:qx}(h:qk K H ds xs):∀n:Nat,qk K H (List.replicate n ds).flatten (List.replicate n xs).flatten
 | 0=>.nil
 | n+1=>by rw[eG,eG,fK,fK];exact h.append (Jo h n)
def SN:xU X (dL .Mult) (R3 X.K Rg):=λWx s Y H vx vy v u Q' I rx ry h=>by
 obtain⟨x,y,M,Q,hx,hy,hm,q,k⟩:=h;unfold Rg at q;split at q
 .obtain⟨es,e1,⟨q1,q2,q3⟩,q⟩:=qZ q;cases hx.mG;cases hy.int_inv;obtain⟨xs,h1,h2⟩:=Er hm e1;have hz:=dN;have hl:=h2.length;refine QV Wx s Y H _ _ v u Q' I rx ry ⟨_,_,xs,Z',Z',h1,by lia,by lia,?_,λpp hp=>?_⟩
  .exact dY (ke (show xs.length<=1000 by lia) (show Int.toNat _<=1000 by lia)) (by rw[hz];decide)
  .exact k _ _ _ _ .ref (hm.new (c:=.lst _) hp ⟨_,qh,(Jo h2 _).mono (.new hp)⟩) (.new hp) (q pp (hm.fresh hp))
 .exact q.elim
def Tu(ta tb:T3):T3:=λU M Q=>ta U M λx M1=>tb U M1 λy M2=>Rg x y M2 Q
def BY(ha:E3 X a ta)(hb:E3 X b tb):E3 X (.BinOp a .Mult b pos) (Tu ta tb):=PE.mono (QA SN ha hb) Hj
noncomputable def B6(kvs:T0 (rq×D))(k:rq)(v:D):T0 (rq×D):=if (kvs.any λkv=>decide (kv.1=k))=pc then kvs.map (λkv=>if kv.1=k then(kv.1,v)else kv)else kvs++[(k,v)]
theorem G2{κ α β:Type}{k:κ}[DecidableEq κ]:∀{xs:T0 (κ×α)} {ys:T0 (κ×β)},xs.map (·.1)=ys.map (·.1)->(xs.any λkv=>decide (kv.1=k))=ys.any λkv=>decide (kv.1=k)
 | [],[],_=>rfl
 | [],_::_,e=>by cases e
 | _::_,[],e=>by cases e
 | x::xs,y::ys,e=>by obtain⟨e1,e2⟩:=gG e;rw[fY,fY,G2 e2];have e1:x.1=y.1:=e1;rw[e1]
def J4{K:qx}{k:rq}(hv:rV K H d v){kvs:T0 (rq×D)}{vs:T0 (rq×V)}(h1:vs.map (·.1)=kvs.map (·.1))(h2:qk K H (kvs.map (·.2)) (vs.map (·.2))):
  (yM vs k v).map (·.1)=(B6 kvs k d).map (·.1)/\qk K H ((B6 kvs k d).map (·.2)) ((yM vs k v).map (·.2)):=by
 have go:∀{kvs:T0 (rq×D)} {vs:T0 (rq×V)},vs.map (·.1)=kvs.map (·.1)->qk K H (kvs.map (·.2)) (vs.map (·.2))->
   (vs.map (λkv=>if kv.1=k then(kv.1,v)else kv)).map (·.1)=(kvs.map (λkv=>if kv.1=k then(kv.1,d)else kv)).map (·.1)/\qk K H ((kvs.map (λkv=>if kv.1=k then(kv.1,d)else kv)).map (·.2)) ((vs.map (λkv=>if kv.1=k then(kv.1,v)else kv)).map (·.2)):=λ{kvs}=>by
  induction kvs with
  | nil=>intro vs e h;cases vs with
   | nil=>exact⟨Z',.nil⟩
   | cons _ _=>cases e
  | cons c r ih=>intro vs e h;cases vs with
   | nil=>cases e
   | cons w ws=>
    obtain⟨e1,e2⟩:=gG e;obtain⟨x,xr,e3,g1,g2⟩:=h.inv;obtain⟨e4,e5⟩:=gG e3;subst e4 e5;obtain⟨i1,i2⟩:=ih e2 g2;have e1:w.1=c.1:=e1;by_cases hk:c.1=k
    .have w1:(if w.1=k then(w.1,v)else w)=(w.1,v):=cX (e1.trans hk);have w2:(if c.1=k then(c.1,d)else c)=(c.1,d):=cX hk;simp only[dW,w1,w2];exact⟨by rw[i1,e1],.cons hv i2⟩
    .have w1:(if w.1=k then(w.1,v)else w)=w:=cV λz=>hk (e1.symm.trans z);have w2:(if c.1=k then(c.1,d)else c)=c:=cV hk;simp only[dW,w1,w2];exact⟨by rw[i1,e1],.cons g1 i2⟩
 unfold yM B6;rw[G2 (k:=k) h1];by_cases hk:(kvs.any λkv=>decide (kv.1=k))=pc
 .rw[cX hk,cX hk];exact go h1 h2
 .rw[cV hk,cV hk];exact⟨by rw[dB,dB,h1];rfl,by rw[dB,dB];exact h2.append (.cons hv .nil)⟩
def UE(td tk tv:T3):xS:=λD U M=>tv U M λv M1=>td U M1 λx M2=>tk U M2 λy M3=>match x,y with
 | .ref a,.str k=>(zS M3 a).elim False λkvs=>kvs.length<Ch/\D.nx U (pI M3 a (.dk (B6 kvs (.inr k) v)))
 | _,_=>False
def zL{a:Uf}{kvs:T0 (rq×D)}(h:zS M a=Fa kvs):M a=Fa (.dk kvs):=by
 unfold zS at h;split at h
 .rename_i e;rw[e];cases h;rfl
 .cases h
def OT(hu:X.A.units+9<ZP)(ho:E3 X o td)(hi:E3 X i tk)(hv:E3 X value tv)(hs:ZB value (Fa (.Subscript o i WI)) pos.line X.env=pure lf:=by rfl):S3 X (.Assign [.Subscript o i WI] value pos) (UE td tk tv):=
 PS.mono (N8 (by lia) ho hi hv hs) λD' Y H zz=>KM zz λU M D hs hm ht k1 k2 k3 k4=>
 ⟨U,M,_,hs,hm,ht,λv H1 d M1 hd Wz e1 q1=>⟨U,M1,_,hs.mono e1,Wz,q1,λvx H2 x M2 hx WO e2 q2=>⟨U,M2,_,hs.mono (e1.trans e2),WO,q2,λvy H3 y M3 hy Xs e3 q3=>by
  split at q3
  .rename_i a0 k0;obtain⟨kvs,f1,f2,q3⟩:=qZ q3;cases(hx.mono e3).mG;cases hy.str_inv;obtain⟨vs,h1,h2,h3⟩:=Cb Xs f1;have hl:vs.length=kvs.length:=by have:=eJ List.length h2;simpa using this
   refine⟨_,_,Z',LN.k (k:=Sum.inr k0) h1 (by lia),?_⟩;have hd3:=hd.mono (e2.trans e3);obtain⟨hm4,e4⟩:=Xs.put (o:=.dK (yM vs (Sum.inr k0) v)) (c:=.dk (B6 kvs (.inr k0) d)) (zL f1) λex=>by obtain⟨g1,g2⟩:=J4 (k:=Sum.inr k0) (hd3.mono ex) h2 (h3.mono ex);exact⟨_,qh,g1,g2⟩
   exact k1 Y _ U _ (hs.mono (e1.trans (e2.trans (e3.trans e4)))) hm4 (e1.trans (e2.trans (e3.trans e4))) Z' q3
  .exact q3.elim⟩⟩⟩
variable {Wx:T0 (Uf × Obj)}{Y:St}{H:Hp}{s:Sd}{tp:Pos}{WX:T0 zn}{n:Nat}
end L3
namespace L2
open Builtin Builtin.Str
variable {prog:Pg}{w:Wo}{A:Ar}{E:QQX}{s:Sd}{X:Cx}
end L2
namespace L3
open L2 Builtin Builtin.Str
variable {X:Cx}{pos WB:Pos}{o e:zn}{es:T0 zn}{ta:T3}{t:xZ}
@[irreducible] def SsI (X:Cx) (st:T0 wE) (t:xS):Prop:=Hg X st t
@[irreducible] def SI (X:Cx) (st:wE) (t:xS):Prop:=S3 X st t
@[irreducible] def EI (X:Cx) (e:zn) (t:T3):Prop:=E3 X e t
@[irreducible] def AI (X:Cx) (es:T0 zn) (t:xZ):Prop:=A3 X es t
variable {prog:Pg}{w:Wo}{A:Ar}{E:QQX}{s:Sd}{Wx:T0 (Uf × Obj)}{Y:St}{H:Hp}{p tp:Pos}{WX:T0 zn}{n:Nat}
theorem wA{g:Dj}{tt:AE}{te:T3}{ok:Mp->Prop}{Q:DK}(all:T0 D)(J:T0 D->T0 D->vf->Mp->Prop)(mQ:∀p acc U M,J p acc U M->ok M):∀(ds pre acc:T0 D) (U:vf) (M:Mp),pre++ds=all->acc.length+ds.length<=Ch->J pre acc U M->
  (∀pre d post,pre++d::post=all->∀acc U M,J pre acc U M->∀(k:vf->DK) (k2:vf->Mp->Prop),(∀δ2 y M4,J (pre++[d]) (acc++[y]) δ2 M4->k δ2 y M4)->(∀δ2 M3,J (pre++[d]) acc δ2 M3->k2 δ2 M3)->g d U M λδ2 M2=>tt δ2 M2 λb M3=>if b=pc then te δ2 M3 (k δ2)else k2 δ2 M3)->
  (∀acc U M,J all acc U M->∀p,M p=Db->Q (.ref p) (pI M p (.lst acc)))->uM g tt te ok Q ds acc U M
 | [],pre,acc,U,M,e,hl,j,_,hq=>⟨by simpa using hl,hq acc U M (by rw[<-e,dO];exact j)⟩
 | d::r,pre,acc,U,M,e,hl,j,ht,hq=>by rw[dS]at hl;refine⟨by lia,?_⟩;refine ht pre d r e acc U M j (λδ2 y M4=>ok M4/\uM g tt te ok Q r (acc++[y]) δ2 M4) (λδ2 M3=>ok M3/\uM g tt te ok Q r acc δ2 M3) (λδ2 y M4 j'=>⟨mQ _ _ _ _ j',wA all J mQ r (pre++[d]) (acc++[y]) δ2 M4 (by rw[<-e,eh];rfl) ?_ j' ht hq⟩) λδ2 M3 j'=>⟨mQ _ _ _ _ j',wA all J mQ r (pre++[d]) acc δ2 M3 (by rw[<-e,eh];rfl) (by lia) j' ht hq⟩;rw[cT,dM];lia
end L3
namespace L2
noncomputable def Cx.nX(X:Cx)(E:QQX):Cx:={X with xe:=E}
def Inv.nX{E:QQX}{Wx:QQY}(I:Inv X Wx Y H s):Inv (X.nX E) Wx Y H s:=
 ⟨⟨I.ok.mod,I.ok.kind,I.ok.glob,I.ok.blt,I.ok.above,I.ok.inj,I.ok.has,I.ok.oz,I.ok.hd,I.ok.frames,I.ok.oM,I.ok.o9,I.ok.bs,I.ok.oa,I.ok.nQ,I.ok.nW,I.ok.nF,I.ok.oo⟩,I.os,I.bare,I.base,I.loc,I.cell,I.free,I.mX,I.pin,I.mQ,I.len⟩
def Inv.xeOf{X:Cx}{E:QQX}{Wx:QQY}(I:Inv (X.nX E) Wx Y H s):Inv X Wx Y H s:=
 ⟨⟨I.ok.mod,I.ok.kind,I.ok.glob,I.ok.blt,I.ok.above,I.ok.inj,I.ok.has,I.ok.oz,I.ok.hd,I.ok.frames,I.ok.oM,I.ok.o9,I.ok.bs,I.ok.oa,I.ok.nQ,I.ok.nW,I.ok.nF,I.ok.oo⟩,I.os,I.bare,I.base,I.loc,I.cell,I.free,I.mX,I.pin,I.mQ,I.len⟩
end L2
namespace L3
open L2
end L3
namespace L2
end L2
namespace L3
open L2
variable {X:Cx}{pos p tp kpos:Pos}{WX:T0 zn}{n:Nat}
end L3
namespace L2
variable {prog:Pg}{w:Wo}{A:Ar}{E:QQX}{s:Sd}{a:Uf}{U:Type}{k:Str}{tk:Tok}
section
variable {R:U→Vl→Prop}{D:T0 (Str × U)}
end
end L2
namespace L3
open L2
variable {X:Cx}{pos p:Pos}{x:Str}{d:D}{e o i:zn}{ta tb td tk:T3}{F:T0 (Str × QQQ)}
end L3
namespace L2
def Lu(h:Go)(e:Uf)(cls:Vl)(dx tb:Option Uf)(F:Vl):Prop:=
 ∃oe vs,h.get? e=Fa oe/\oe.cls=cls/\oe.dict=dx/\oe.data=.fields vs/\1<vs.size/\vs[1]?=Fa (tb.elim Value.none Value.ref)/\∀T,tb=Fa T->T≠e/\∃oT ts,h.get? T=Fa oT/\oT.data=.fields ts/\3<ts.size/\ts[3]?=Fa F
def Py(h:Go)(e:Uf)(cls:Vl)(dx tb:Option Uf):Prop:=Lu h e cls dx tb Value.none
theorem BI{h base:Go}:∀{l:T0 Env} {b:Uf},h.FunFrames base l->b∈wj l->∃o,h.get? b=Fa o/\∀vs,o.data≠.fields vs
 | [],b,_,hb=>by cases hb
 | env::r,b,hF,hb=>by
  obtain⟨_,⟨L,o,hL,_,ho,hd⟩,hr⟩:=hF;have e:wj (env::r)=L::wj r:=by unfold wj;rw[fV,hL]
  rw[e]at hb;rcases de.mp hb with z|z
  .rw[z];exact⟨o,ho,hd⟩
  .exact BI hr z
def DD{h base:Go}{l:T0 Env}{b:Uf}{o:Obj}{vs:Array Vl}(hF:h.FunFrames base l)(ho:h.get? b=Fa o)(hd:o.data=.fields vs):b∉wj l:=λhb=>by obtain⟨o',Xd,hn⟩:=BI hF hb;rw[ho]at Xd;cases Xd;exact hn vs hd
variable {M:Model}{A:Ar}{s:Sd}{base:Go}{env:Env}{outer:T0 Env}{L e:Uf}{cls:Vl}{dx:Option Uf}{Q:Unit→Sd→Prop}
section
variable {E:QQX}
def OE{XS:Vl}{YR:Bool}{oe:Obj}{vs:Array Vl}{Xf:Env}(hcf:Xf.frame=Fa L)(Yz:A.frames=Fa (env::outer))(hF:s.heap.FunFrames base (env::outer))(hL:env.frame=Fa L)(ho:s.heap.get? e=Fa oe)(hd:oe.data=.fields vs)(h1:1<vs.size) (k:∀(h':Go) (T:Uf),s.heap.get? T=Db->(∀b o,s.heap.get? b=Fa o->b∉wj (env::outer)->b≠e->h'.get? b=Fa o)->(∀b o,s.heap.get? b=Fa o->b∈wj (env::outer)->∃sl,h'.get? b=Fa {o with slots:=sl})->
   (∃oe',h'.get? e=Fa oe'/\oe'.cls=oe.cls/\oe'.dict=oe.dict/\oe'.data=.fields (vs.setIfInBounds 1 (.ref T)))->(∃oT ts,h'.get? T=Fa oT/\oT.data=.fields ts/\3<ts.size/\ts[3]?=Fa (wP ↑L))->Q () {s with heap:=h'}):
  pi M A (do
   let a<-PySem.frameOf Xf;let pl<-entryPlaceOf L YR;let b<-EntryCells.newEntry XS a Value.none (wP ↑L) Value.none pl
   setField (Value.ref e) 1 b) Q E s:=by
 have ne:=DD hF ho hd;unfold PySem.frameOf;refine cR (cR (wpAny_frameEnvs Yz (cR ?_)));have ed:List.dropWhile (λx=>x.frame != Xf.frame) (env::outer)=env::outer:=by rw[List.dropWhile_cons,cV (by rw[hL,hcf];simp)]
 rw[ed];unfold frameObject;refine cR (wpAny_readyFrames_fun hF λXh hs=>?_);obtain⟨z1,z2,z3⟩:=hs;rw[hL];refine c9 (c9 ?_);refine cR (wpAny_entryPlaceOf λpl hp=>?_);refine cR ?_;unfold EntryCells.newEntry newFields;have WD:([XS,Value.ref L,Value.none,wP ↑L,Value.none]++if pl.isEmpty=pc then List.replicate 6 Value.none else pl).length=11:=by rw[cT];rcases hp with rfl|⟨_,_,_,_,_,_,_,rfl⟩<;>rfl
 have hfl:([XS,Value.ref L,Value.none,wP ↑L,Value.none]++if pl.isEmpty=pc then List.replicate 6 Value.none else pl)[3]?=Fa (wP ↑L):=rfl;generalize ([XS,Value.ref L,Value.none,wP ↑L,Value.none]++if pl.isEmpty=pc then List.replicate 6 Value.none else pl)=fs at WD hfl ⊢;refine fR ?_ (by
  show fs.toArray.size<=_;rw[dg,WD];decide)
 have e1:Xh.get? e=Fa oe:=by rw[z2 e ne];exact ho
 have e2:(Xh.push {cls:=.type "traceback",data:=.fields fs.toArray}).get? e=Fa oe:=cW _ e1;refine ie e2 hd h1 ?_;have tn:s.heap.get? Xh.objs.size=Db:=gJ (by rw[z1];exact cZ _);have te:Xh.objs.size≠e:=λz=>by rw[z,ho]at tn;cases tn
 obtain⟨oc,od,Zv,Xr⟩:=oe;obtain rfl:Zv=.fields vs:=hd;have up:∀b,e≠b->((Xh.push {cls:=.type "traceback",data:=.fields fs.toArray}).update e (Obj.mapFields λx=>x.setIfInBounds 1 (.ref Xh.objs.size))).get? b=(Xh.push {cls:=.type "traceback",data:=.fields fs.toArray}).get? b:=λb z=>fX _ _ z;refine k _ Xh.objs.size tn (λb o hb nf ne'=>?_) (λb o hb hf=>?_) ⟨_,fE _ e2 Z',Z',Z',Z'⟩ ⟨_,fs.toArray,(up _ (dG te)).trans (dC _ Z'),Z',by rw[dg,WD];decide,by rw[iJ];exact hfl⟩
 .rw[up b (dG ne')];exact cW _ (by rw[z2 b nf];exact hb)
 .obtain⟨sl,q⟩:=z3 b o hb;refine⟨sl,?_⟩;rw[up b (λz=>ne (z ▸ hf))];exact cW _ q
def Sv{E₁:QQX}{tb:Option Uf}{F:Vl}{Xf:Env}(hcf:Xf.frame=Fa L)(Yz:A.frames=Fa (env::outer))(hF:s.heap.FunFrames base (env::outer))(hL:env.frame=Fa L)(hx:Lu s.heap e cls dx tb F)(hFL:(F==wP ↑L)=lf) (k:∀(h':Go) (T:Uf),s.heap.get? T=Db->(∀b o,s.heap.get? b=Fa o->b∉wj (env::outer)->b≠e->tb≠Fa b->h'.get? b=Fa o)->(∀b o,s.heap.get? b=Fa o->b∈wj (env::outer)->∃sl,h'.get? b=Fa {o with slots:=sl})->
   (∀b,h'.get? b=Db->s.heap.get? b=Db)->Lu h' e cls dx (Fa T) (wP ↑L)->Q () {s with heap:=h'}):pi M A (noteFrame (.ref e) Xf) Q E₁ s:=by
 obtain⟨oe,vs,ho,hc,Yp,hd,h1,hv,hT⟩:=hx;have ne:=DD hF ho hd;unfold noteFrame;rw[hcf];refine cR (fh ho hd hv ?_);have WC:∀(s1:Sd) (oe1:Obj),s1.gens=s.gens->s1.drawn=s.drawn->s1.toks=s.toks->s1.os=s.os->s1.heap.FunFrames base (env::outer)->s1.heap.get? e=Fa oe1->oe1.cls=cls->oe1.dict=dx->oe1.data=.fields vs->(∀b o,s.heap.get? b=Fa o->b∉wj (env::outer)->b≠e->tb≠Fa b->s1.heap.get? b=Fa o)->
   (∀b o,s.heap.get? b=Fa o->b∈wj (env::outer)->s1.heap.get? b=Fa o)->(∀b,s1.heap.get? b=Db↔s.heap.get? b=Db)->∀(XS:Vl) (YR:Bool),pi M A (do
   let a<-PySem.frameOf Xf;let pl<-entryPlaceOf L YR;let b<-EntryCells.newEntry XS a Value.none (wP ↑L) Value.none pl
   setField (Value.ref e) 1 b) Q E₁ s1:=by
  intro s1 oe1 g1 g2 g3 g4 hF1 ho1 hc1 hdx1 hd1 kb kf kn XS YR;refine OE hcf Yz hF1 hL ho1 hd1 h1 λh' T tn k1 k2 ⟨oe',he',Zu,hdxe,hde⟩ ⟨oT,ts,XH,Ye,h3,h3v⟩=>?_;have te:T≠e:=λz=>by rw[z,ho1]at tn;cases tn
  have:=k h' T ((kn T).mp tn) (λb o hb nf nb nt=>k1 b o (kb b o hb nf nb nt) nf nb) (λb o hb hf=>k2 b o (kf b o hb hf) hf) (λb hb=>?_) ⟨oe',vs.setIfInBounds 1 (.ref T),he',Zu.trans hc1,hdxe.trans hdx1,hde,by rw[jM];exact h1,by rw[ij h1];rfl,λT' eT=>?_⟩
  .show Q () {heap:=_,gens:=s1.gens,drawn:=s1.drawn,toks:=s1.toks,os:=s1.os};rw[g1,g2,g3,g4];exact this
  .refine(kn b).mp ?_;cases q:s1.heap.get? b with
   | none=>rfl
   | some o=>
    by_cases z:b=e
    .rw[z,he']at hb;cases hb
    .by_cases zf:b∈wj (env::outer)
     .obtain⟨sl,q2⟩:=k2 b o q zf;rw[q2]at hb;cases hb
     .rw[k1 b o q zf z]at hb;cases hb
  .cases eT;exact⟨te,oT,ts,XH,Ye,h3,h3v⟩
 cases tb with
 | none=>rw[cV (show ¬((Db:Option Uf).elim Value.none Value.ref != Value.none)=pc by decide+kernel)];exact WC s oe Z' Z' Z' Z' hF ho hc Yp hd (λb o hb _ _ _=>hb) (λb o hb _=>hb) (λb=>.rfl) _ _
 | some T=>
  obtain⟨nTe,oT,ts,XH,Ye,h3,hn⟩:=hT T Z';rw[cX (show((Fa T:Option Uf).elim Value.none Value.ref != Value.none)=pc by rfl)];refine cR (fh XH Ye hn ?_);rw[cV (by rw[hFL];exact dh)];refine cR (ie XH Ye h3 ?_);have up:∀b,T≠b->(s.heap.update T (Obj.mapFields λx=>x.setIfInBounds 3 .none)).get? b=s.heap.get? b:=λb z=>fX _ _ z;have nf:∀b o,s.heap.get? b=Fa o->(∀vs,o.data≠.fields vs)->T≠b:=λb o hb hn z=>by rw[<-z,XH]at hb;cases hb;exact hn ts Ye
  have sz:∀b,(s.heap.update T (Obj.mapFields λx=>x.setIfInBounds 3 .none)).get? b=Db↔s.heap.get? b=Db:=λb=>by
   by_cases z:T=b
   .rw[<-z];obtain⟨oc,od,Zv,Xr⟩:=oT;obtain rfl:Zv=.fields ts:=Ye;rw[fE _ XH Z',XH];exact⟨(λq=>by cases q),(λq=>by cases q)⟩
   .rw[up b z]
  exact WC {s with heap:=s.heap.update T (Obj.mapFields λx=>x.setIfInBounds 3 .none)} oe Z' Z' Z' Z' (mB (λb o hb hn=>⟨o,(up b (nf b o hb hn)).trans hb,Z'⟩) hF) ((up e nTe).trans ho) hc Yp hd
   (λb o hb _ _ nt=>(up b λz=>nt (by rw[z])).trans hb) (λb o hb hf=>by
    obtain⟨o',Xd,hn⟩:=BI hF hf;rw[hb]at Xd;cases Xd;exact(up b (nf b o hb hn)).trans hb) sz _ _
def Li{T:Uf}{F:Vl}(x:Option Uf)(hx:Lu s.heap e cls dx (Fa T) F)(k:∀h':Go,(∀b,T≠b->h'.get? b=s.heap.get? b)->(∀b,h'.get? b=Db↔s.heap.get? b=Db)->Lu h' e cls dx (Fa T) (x.elim .none λf=>wP f)->Q () {s with heap:=h'}):pi M A (setFlight (.ref e) x) Q E s:=by
 obtain⟨oe,vs,ho,hc,Yp,hd,h1,hv,hT⟩:=hx;obtain⟨nTe,oT,ts,XH,Ye,h3,hn⟩:=hT T Z';unfold setFlight;refine cR (fh ho hd hv ?_);rw[cX (by rfl)];refine ie XH Ye h3 ?_;obtain⟨oc,od,Zv,Xr⟩:=oT;obtain rfl:Zv=.fields ts:=Ye;have up:∀b,T≠b->(s.heap.update T (Obj.mapFields λy=>y.setIfInBounds 3 (x.elim .none λf=>wP f))).get? b=s.heap.get? b:=λb z=>fX _ _ z;refine k _ up (λb=>?_) ⟨oe,vs,(up e nTe).trans ho,hc,Yp,hd,h1,hv,λT' eT=>?_⟩
 .by_cases z:T=b
  .rw[<-z,fE _ XH Z',XH];exact⟨(λq=>by cases q),(λq=>by cases q)⟩
  .rw[up b z]
 .cases eT;exact⟨nTe,_,ts.setIfInBounds 3 (x.elim .none λf=>wP f),fE _ XH Z',Z',by rw[jM];exact h3,by rw[ij h3]⟩
def Jq{E₁ E₂:QQX}{tb:Option Uf}(Yz:A.frames=Fa (env::outer))(hF:s.heap.FunFrames base (env::outer))(hL:env.frame=Fa L)(hx:Py s.heap e cls dx tb) (k:∀(h':Go) (T:Uf),s.heap.get? T=Db->(∀b o,s.heap.get? b=Fa o->b∉wj (env::outer)->b≠e->tb≠Fa b->h'.get? b=Fa o)->(∀b o,s.heap.get? b=Fa o->b∈wj (env::outer)->∃sl,h'.get? b=Fa {o with slots:=sl})->
   Py h' e cls dx (Fa T)->Q () {s with heap:=h'}):pi M A (noteFrame (.ref e) env) (λ_ s₂=>pi M A (setFlight (.ref e) Db) Q E₂ s₂) E₁ s:=by
 refine Sv hL Yz hF hL hx (dD.mpr λz=>by have:=fg.mp z;cases this) λh' T tn k1 k2 _ x'=>?_;refine Li Db x' λh2 up _ x2=>k h2 T tn (λb o hb nf nb nt=>?_) (λb o hb hf=>?_) x2
 .have tb:T≠b:=λz=>by rw[z,hb]at tn;cases tn
  exact(up b tb).trans (k1 b o hb nf nb nt)
 .have tb:T≠b:=λz=>by rw[z,hb]at tn;cases tn
  obtain⟨sl,q⟩:=k2 b o hb hf;exact⟨sl,(up b tb).trans q⟩
def Oc{tb:Option Uf}(Yz:A.frames=Fa (env::outer))(hF:s.heap.FunFrames base (env::outer))(hL:env.frame=Fa L)(hx:Py s.heap e cls dx tb) (k:∀(h':Go) (T:Uf),s.heap.get? T=Db->(∀b o,s.heap.get? b=Fa o->b∉wj (env::outer)->b≠e->tb≠Fa b->h'.get? b=Fa o)->(∀b o,s.heap.get? b=Fa o->b∈wj (env::outer)->∃sl,h'.get? b=Fa {o with slots:=sl})->
   Py h' e cls dx (Fa T)->Q () {s with heap:=h'}):pi M A (leaving env (.ref e)) Q E s:=cR (Jq Yz hF hL hx k)
end
def Cs(P:Pg)(w:Wo):KL:=λouter H s E ev s'=>FT λe C dx H' tb=>ev=.ref e/\E (.ref C) dx H'/\s'.os=s.os/\ZW s'.gens/\Un (wj outer) [] H H' s.heap s'.heap/\yu P w H' s'.heap/\
 Py s'.heap e (.ref C) dx (Fa tb)/\s.heap.get? e=Db/\s.heap.get? tb=Db/\H' e=Db/\H' tb=Db
def yq{o:HO}(x:sV P w H h a o):∃ob,h.get? a=Fa ob:=by
 cases o with
 | lst xs=>obtain⟨_,_,_,_,e⟩:=x;exact⟨_,e⟩
 | tup xs=>obtain⟨_,_,_,o,e,_⟩:=x;exact⟨_,e⟩
 | dK kvs=>obtain⟨_,_,_,_,o,_,_,e,_⟩:=x;exact⟨_,e⟩
 | dT kvs=>obtain⟨_,_,_,_,o,_,_,e,_⟩:=x;exact⟨_,e⟩
 | set S n=>obtain⟨o,_,_,_,e,_⟩:=x;exact⟨_,e⟩
 | ins C dx fs=>obtain⟨_,_,_,e,_⟩:=x;exact⟨_,e⟩
 | own y=>exact x
 | xd fs=>obtain⟨_,⟨_,_,_,e,_⟩,_⟩:=x;exact⟨_,e⟩
 | rng lo hi=>obtain⟨_,_,_,e⟩:=x;exact⟨_,e⟩
 | frz ob u=>obtain⟨e,_⟩:=x;exact⟨_,e⟩
 | tbl ps=>exact⟨_,x⟩
 | met f y=>exact⟨_,x⟩
 | ext φ=>obtain⟨_,e,_⟩:=x;exact e
def zP{T:Uf}(mQ:yu P w H h)(tn:h.get? T=Db):H T=Db:=by
 cases z:H T with
 | none=>rfl
 | some o=>obtain⟨ob,hob⟩:=yq (mQ T o z);rw[hob]at tn;cases tn
variable {P:Pg}{w:Wo}{K:qx}{mg:QQZ}{N:QQQ}{qual:Str}{scope:wS}{f:Uf}{cd:Vl}{s0:Sd}{H0:Hp}
section
variable {E:XK}
def F4(u:Un fs ex H H' h h')(hex:ex=[]){b:Uf}(hb:h'.get? b=Db):h.get? b=Db:=by
 cases q:h.get? b with
 | none=>rfl
 | some o=>obtain⟨o',e⟩:=u.there b o q (by rw[hex];simp);rw[e]at hb;cases hb
def L5{Wx:QQY}{e C T:Uf}{tb dx:Option Uf}{h':Go}(I:Inv (vv (Cs P w) P w K mg base N qual scope f cd A outer s0 H0 E) Wx Y H s)(he:s0.heap.get? e=Db)(Xg:∀T,tb=Fa T->s0.heap.get? T=Db/\H T=Db)(hn:H e=Db)(q:E (.ref C) dx H)(hT:s0.heap.get? T=Db/\H T=Db) (k1:∀b o,s.heap.get? b=Fa o->b∉wj (ZJ qual scope s0.heap.objs.size f cd::outer)->b≠e->tb≠Fa b->h'.get? b=Fa o) (k2:∀b o,s.heap.get? b=Fa o->b∈wj (ZJ qual scope s0.heap.objs.size f cd::outer)->∃sl,h'.get? b=Fa {o with slots:=sl}) (x':Py h' e (.ref C) dx (Fa T)):
  Cs P w outer H0 s0 E (.ref e) {s with heap:=h'}:=by
 have Xj:=I.nJ;have WM:∀b o,H b=Fa o->∀u,s.heap.get? b=Fa u->h'.get? b=Fa u:=λb o hb u hu=>k1 b u hu (λz=>by rw[Xj b z]at hb;cases hb) (λz=>by rw[z,hn]at hb;cases hb) (λz=>by rw[(Xg b z).2]at hb;cases hb);have oldf:∀b o,s0.heap.get? b=Fa o->b∉wj [ZJ qual scope s0.heap.objs.size f cd]:=λb o hb z=>by
  have:b=s0.heap.objs.size:=by have hz:b∈[s0.heap.objs.size]:=z;exact df.mp hz
  rw[this]at hb;exact absurd (dv hb) (eN _)
 have fr:∀b,b∈wj (ZJ qual scope s0.heap.objs.size f cd::outer)->b∈wj [ZJ qual scope s0.heap.objs.size f cd]\/b∈wj outer:=λb hb=>by
  have hb:b∈s0.heap.objs.size::wj outer:=hb;rcases de.mp hb with z|z
  .exact .inl (by rw[z];exact dI)
  .exact .inr z
 have WY:Un (wj outer) [] H0 H s0.heap s.heap:=I.base;refine⟨e,C,dx,H,T,Z',q,I.os,I.bare,⟨λb o hb h0 nf ne=>?_,λb o hb h0 hf ne=>?_,WY.free,λb o hb ne=>?_,WY.nC,WY.nu,WY.nI⟩,λb o hb=>?_,x',he,hT.1,hn,hT.2⟩
 .have hs:=WY.keep b o hb h0 nf ne;refine k1 b o hs (λz=>?_) (λz=>by rw[z,he]at hb;cases hb) λz=>by rw[(Xg b z).1]at hb;cases hb
  rcases fr b z with z|z
  .exact oldf b o hb z
  .exact nf z
 .obtain⟨sl,hs⟩:=WY.slot b o hb h0 hf ne;have:b∈wj (ZJ qual scope s0.heap.objs.size f cd::outer):=dz _ hf;obtain⟨X2,h2⟩:=k2 b _ hs this;exact⟨X2,h2⟩
 .obtain⟨o',hs⟩:=WY.there b o hb ne;by_cases z:b∈wj (ZJ qual scope s0.heap.objs.size f cd::outer)
  .obtain⟨sl,h2⟩:=k2 b o' hs z;exact⟨_,h2⟩
  .exact⟨o',k1 b o' hs z (λz=>by rw[z,he]at hb;cases hb) λz=>by rw[(Xg b z).1]at hb;cases hb⟩
 .refine(I.mQ b o hb).nk (λb' u Xo hu=>?_) (λ_ q=>q) λ_ _ q=>q;rcases Xo with z|z
  .subst z;exact WM b' o hb u hu
  .exact WM b' _ z u hu
def TJ{Wx:QQY}{e C:Uf}{tb dx:Option Uf}(I:Inv (vv (Cs P w) P w K mg base N qual scope f cd A outer s0 H0 E) Wx Y H s)(hx:Py s.heap e (.ref C) dx tb)(he:s0.heap.get? e=Db)(hT:∀T,tb=Fa T->s0.heap.get? T=Db/\H T=Db)(hn:H e=Db)(q:E (.ref C) dx H):
  (vv (Cs P w) P w K mg base N qual scope f cd A outer s0 H0 E).xe (.ref e) s:=
 Oc (base:=base) (outer:=outer) I.ok.frames I.stack Z' hx λh' T tn k1 k2 x'=>L5 I he hT hn q ⟨F4 (show Un (wj outer) [] H0 H s0.heap s.heap from I.base) Z' tn,zP I.mQ tn⟩ k1 k2 x'
end
section
variable {E:XK}
end
def NF(d:Uf)(f:Str)(v:V)(h:Go):Prop:=∃u,h.Ns1 d (λy=>if y=f then Fa u else Db)/\qL v u
end L2
namespace L3
open L2
abbrev XR:=Uf->Option (Str×D)->Mp->Prop
abbrev F7:=T0 D->Mp->DK->XR->Prop
def Ua(K:qx)(H:Hp)(dx:Option Uf)(y:Option (Str×D)):Prop:=(dx=Db/\y=Db)\/BE λd f z v=>dx=Fa d/\y=Fa (f,z)/\H d=Fa (.ext (NF d f v))/\rV K H z v
def T4(K:qx)(R:XR)(E:XK):Prop:=∀C dx H M y,HM K H M->Ua K H dx y->R C y M->E (.ref C) dx H
def VH(K:qx)(sp:F7):Sp:=λvs H Q' E=>BE λds M Q R=>qk K H ds vs/\HM K H M/\sp ds M Q R/\Up K H Q' Q/\T4 K R E
abbrev RU(P:Pg)(w:Wo)(K:qx)(mg:QQZ)(base:Go)(k:Nat)(f:Uf)(fd:Ix)(ps:QQQ)(sp:F7):Prop:=xw P w K mg base (Cs P w) k f fd ps (VH K sp)
variable {X:Cx}{x:Str}{p pos np WG:Pos}{e:zn}{es:T0 zn}{t:xZ}{k:Nat}{f C:Uf}{fd:Ix}{ps:QQQ}{sp:F7}{R:XR}{E:XK}{P:Pg}{w:Wo}{K:qx}{mg:QQZ}{base:Go}{N:QQQ}{qual:Str}{scope:wS}{cd:Vl}{A:Ar}{outer:T0 Env}{s0:Sd}{H0:Hp}{ta:xZ}
def Ue{st:wE}{sp:F7}(F:OD K x qual st f fd)(S:sW N ps (qg st))(len:∀ds M Q R,sp ds M Q R->ds.length=ps.length) (WU:∀(WJ:Vl) (A:Ar) (outer:T0 Env) (s:Sd) (H:Hp) (E:XK) (R:XR),rZ k (A.deeper (ZJ qual (qg st) s.heap.objs.size f WJ))->T4 K R E->
   ∃t,Hg (vv (Cs P w) P w K mg base N qual (qg st) f WJ A outer s H E) (rT st) t/\∀ds M Q,sp ds M Q R->t {nx:=λ_ M'=>∃WA,qG WA M'/\Q .mL WA,rt:=λd M'=>∃WA,qG WA M'/\Q d WA} (wR N ds) M):RU P w K mg base (k+1) f fd ps sp:=by
 obtain⟨oc,od,kV,Xb,pm,an,WJ,ct,Xr,rfl,lk,Xx⟩:=F.ex;refine LR lk Xx S (λvs H Q E h=>?_) λA outer s H vs Q' E hr h=>?_
 .obtain⟨ds,M,Q,R,hd,_,hs,_⟩:=h;rw[<-hd.length];exact len ds M Q R hs
 .obtain⟨ds,M,Q,R,hd,hm,hs,k,hR⟩:=h;obtain⟨t,ht,hb⟩:=WU WJ A outer s H E R hr hR;exact⟨_,ht,wR N ds,M,_,DT hd,hm,hb ds M Q hs,λσ' H' δ' M' _ x2 x3 _ ⟨WA,y1,y2⟩=>k .mL H' .mL WA .mL (x2.sub y1) x3 y2,λv H' d M' x1 x2 x3 ⟨WA,y1,y2⟩=>k v H' d WA x1 (x2.sub y1) x3 y2,λ_ _ _ _ _ _ _ _ z=>z,λ_ _ _ _ _ _ _ _ z=>z⟩
end L3
namespace L2
def TKept(H H':Hp):Prop:=(∀b xs,H b=Fa (.tup xs)->H' b=Fa (.tup xs))/\∀b o u,H b=Fa (.frz o u)->H' b=Fa (.frz o u)
def VD(X:Cx)(Wx:QQY)(Y:St)(J:Hp->Prop)(E:XK)(ev:Vl)(s':Sd):Prop:=AW λH s=>J H/\Inv X Wx Y H s/\Cs X.prog X.w X.stack H s E ev s'
def TB(X:Cx)(Wx:QQY)(Y:St)(J:Hp->Prop)(E:XK)(ev:Vl)(s':Sd):Prop:=S4 λa C dx H' tb H1 s1=>ev=.ref a/\E (.ref C) dx H'/\Inv X Wx Y H' s'/\Py s'.heap a (.ref C) dx (Fa tb)/\H' a=Db/\H' tb=Db/\J H1/\TKept H1 H'/\Inv X Wx Y H1 s1/\s1.heap.get? a=Db
def SS{M:Model}{E₁ E₂:QQX}{Wx:QQY}{E:XK}{outer:T0 Env}{L:Uf}(h:VD X Wx Y J E ev s')(WT:X.stack=X.env::outer)(hL:X.env.frame=Fa L):
  pi M X.A (noteFrame ev X.env) (λ_ s₂=>pi M X.A (setFlight ev Db) (λ_ s₃=>TB X Wx Y J E ev s₃) E₂ s₂) E₁ s':=by
 obtain⟨H,s,jH,I,e,C,dx,H',tb,rfl,q,os,bare,un,mQ,x,he,ht,ne,nt⟩:=h;obtain⟨hh,g,d,t,os'⟩:=s';obtain rfl:os'=s.os:=os;have I':=I.call (h':=hh) (g':=g) (d':=d) (t':=t) (ch:=[]) un mQ bare (λb z=>absurd z (by simp));have hF:=I'.stack;have Xj:=I'.nJ;have Yz:=I.ok.frames;rw[WT]at hF Yz;refine Jq (base:=X.base) (outer:=outer) Yz hF hL x λh' T tn k1 k2 x'=>?_;have WM:∀b o,H' b=Fa o->∀u,hh.get? b=Fa u->h'.get? b=Fa u:=λb o hb u hu=>k1 b u hu (λz=>by rw[Xj b (by rw[WT];exact z)]at hb;cases hb) (λz=>by rw[z,ne]at hb;cases hb) (λz=>by cases z;rw[nt]at hb;cases hb);have un':Un (wj X.stack) [] H H' s.heap h':=by
  refine⟨λb o hb h0 nf nx=>?_,λb o hb h0 hf nx=>?_,un.free,λb o hb nx=>?_,un.nC,un.nu,un.nI⟩
  .exact k1 b o (un.keep b o hb h0 nf nx) (λz=>nf (by rw[WT];exact z)) (λz=>by rw[z,he]at hb;cases hb) λz=>by cases z;rw[ht]at hb;cases hb
  .obtain⟨sl,hs⟩:=un.slot b o hb h0 hf nx;obtain⟨X2,h2⟩:=k2 b _ hs (by rw[<-WT];exact hf);exact⟨X2,h2⟩
  .obtain⟨o',hs⟩:=un.there b o hb nx;by_cases z:b∈wj (X.env::outer)
   .obtain⟨sl,h2⟩:=k2 b o' hs z;exact⟨_,h2⟩
   .exact⟨o',k1 b o' hs z (λz=>by rw[z,he]at hb;cases hb) λz=>by cases z;rw[ht]at hb;cases hb⟩
 have Zm:yu X.prog X.w H' h':=λb o hb=>(mQ b o hb).nk (λb' u Xo hu=>by
  rcases Xo with z|z
  .subst z;exact WM b' o hb u hu
  .exact WM b' _ z u hu) (λ_ q=>q) λ_ _ q=>q
 have I3:Inv X Wx Y H' {heap:=h',gens:=g,drawn:=d,toks:=t,os:=s.os}:=Inv.call (s:=s) (ch:=[]) I un' Zm bare (λb z=>absurd z (by simp));refine⟨e,C,dx,H',T,H,s,Z',q,I3,x',ne,?_,jH,⟨un.nC,un.nu⟩,I,he⟩;cases z:H' T with
 | none=>rfl
 | some o=>obtain⟨ob,hob⟩:=yq (mQ T o z);have tn:hh.get? T=Db:=tn;rw[hob]at tn;cases tn
variable {X:Cx}{Wx:T0 (Uf × Obj)}{Y σ':St}{H H1:Hp}{s s1:Sd}{ev:Vl}{E':QQX}{a:Uf}
def Inv.adopt{o:HO}(I:Inv X Wx Y H s)(I1:Inv X Wx σ' H1 s1)(n1:s1.heap.get? a=Db)(hn:H a=Db)(ok:sV X.prog X.w (upd H a o) s.heap a o):Inv X Wx Y (upd H a o) s:=by
 have ne:∀b ob,s1.heap.get? b=Fa ob->b≠a:=λb ob e z=>by rw[z,n1]at e;cases e
 have nh:∀b ob,H b=Fa ob->b≠a:=λb ob e z=>by rw[z,hn]at e;cases e
 refine⟨I.ok,I.os,I.bare,⟨I.base.keep,I.base.slot,λb o' e h0 hb=>?_,I.base.there,λb xs e=>?_,λb o' u e=>?_,λb ps e=>?_⟩,I.loc,I.cell,?_,λx c e=>?_,λp hp=>?_,λb ob e=>?_,I.len⟩
 .obtain⟨o2,e2⟩:=I1.base.there b o' e hb;rw[pZ (ne b o2 e2)];exact I.base.free b o' e h0 hb
 .have:=I.base.nC b xs e;rw[pZ (nh b _ this)];exact this
 .have:=I.base.nu b o' u e;rw[pZ (nh b _ this)];exact this
 .obtain⟨more,this⟩:=I.base.nI b ps e;exact⟨more,by rw[pZ (nh b _ this)];exact this⟩
 .obtain⟨m,⟨o2,_,_,e2,_⟩,_⟩:=I1.loc;rw[pZ (ne _ o2 e2)];exact I.free
 .obtain⟨v,o2,e2,_⟩:=I1.cell x c e;rw[pZ (ne _ o2 e2)];exact I.mX x c e
 .obtain⟨e1,e2,e3,e4,e5⟩:=I.pin p hp;exact⟨e1,by rw[pZ (ne _ _ (I1.pin p hp).1)];exact e2,e3,e4,e5⟩
 .by_cases z:b=a
  .subst z;rw[qh]at e;cases e;exact ok
  .rw[pZ z]at e;exact(I.mQ b ob e).nk (λ_ _ _ q=>q) (λb' q=>by rw[pZ (nh b' _ q)];exact q) λb' xs q=>by rw[pZ (nh b' _ q)];exact q
def Inv.locs{h':Go}{m':QQZ}(I:Inv X Wx Y H s)(hn:h'.Ns X.env.locals m')(hs:Heap.SameBut X.env.locals s.heap h')(hl:σ'.length=X.N.length) (hm:∀m,s.heap.Ns X.env.locals m->(∀(i:Nat) (x:Str) (v:V),X.N[i]?=Fa x->Y[i]?=Fa (Fa v)->R5 X.env.scope x->∃u,qL v u/\Uu X.env s.heap m x u)->∀(i:Nat) (x:Str) (v:V),X.N[i]?=Fa x->σ'[i]?=Fa (Fa v)->R5 X.env.scope x->∃u,qL v u/\((X.env.kindOf x=Fa .local/\m' x=Fa u)\/((X.env.kindOf x=Fa .cell\/X.env.kindOf x=Fa .free)/\∃c,X.env.cells.lookup x=Fa c/\s.heap.IsCell c (Fa u)))):Inv X Wx σ' H {s with heap:=h'}:=by
 obtain⟨m,Zw,hl0⟩:=id I.loc;obtain⟨oL,_,_,hoL,_⟩:=id Zw;have pb:=I.pb;refine⟨I.ok,I.os,I.bare,⟨λb o e n hb hx=>?_,λb o e n hb hx=>?_,I.base.free,λb o e hx=>?_,I.base.nC,I.base.nu,I.base.nI⟩,⟨_,hn,λj y v' e1 e2 e3=>?_⟩,λy c e=>?_,I.free,I.mX,λp hp=>?_,λb ob e=>?_,hl⟩
 .exact(hs.2 b (dJ (dE (dv e) I.ok.above))).trans (I.base.keep b o e n hb hx)
 .obtain⟨sl,e1⟩:=I.base.slot b o e n hb hx;exact⟨sl,(hs.2 b (dJ (dE (dv e) I.ok.above))).trans e1⟩
 .obtain⟨o',e1⟩:=I.base.there b o e hx;exact⟨o',(hs.2 b (dJ (dE (dv e) I.ok.above))).trans e1⟩
 .obtain⟨u,r,q⟩:=hm m Zw hl0 j y v' e1 e2 e3;refine⟨u,r,?_⟩;rcases q with q|⟨k,c,e,z⟩
  .exact .inl q
  .exact .inr ⟨k,c,e,z.sameBut hs (pb y c e)⟩
 .obtain⟨w',z⟩:=I.cell y c e;exact⟨w',z.sameBut hs (pb y c e)⟩
 .obtain⟨e,n,ne,nf,d⟩:=I.pin p hp;exact⟨(hs.2 p.1 ne).trans e,n,ne,nf,d⟩
 .refine(I.mQ b ob e).nk (λc w' hc q=>(hs.2 c ?_).trans q) (λ_ q=>q) λ_ _ q=>q
  rintro rfl
  rcases hc with hc|hc
  .rw[<-hc,I.free]at e;cases e
  .rw[I.free]at hc;cases hc
def ym{M:Model}{A:Ar}{E:QQX}{i:Nat}{n:Str}{pos:Pos}{Q:Unit->Sd->Prop}(I:Inv X Wx Y H s)(hN:X.N.Nodup)(hi:X.N[i]?=Fa n)(hk:X.env.scope.names.lookup n=Fa .local) (h:∀s',Inv X Wx (Y.set i Db) H s'->Q () s'):pi M A (do
   bindName X.env n Value.none
   unbindBehindTheSuite X.env n pos) Q E s:=by
 have hiσ:i<Y.length:=by rw[I.len];exact(cU.mp hi).1
 refine cR (wpAny_bindName (xP (v:=.mL) I hN hi (.inl hk) Z' (λs1 I1=>?_) (.inr hk)));have Ze:(X.env.scope.kind==.class||(X.env.scope.kind==.module&&X.env.locals != X.env.globals))=lf:=by rw[I.ok.kind];rfl
 obtain⟨m,hn,hl⟩:=id I1.loc;obtain⟨u,ru,lk⟩:=hl i n .mL hi (by rw[eI hiσ]) (.inl hk);have em:m n=Fa u:=by
  rcases lk with⟨_,e⟩|⟨k,_⟩
  .exact e
  .have hk':X.env.kindOf n=Fa .local:=hk;rw[hk']at k;rcases k with k|k<;>cases k
 unfold unbindBehindTheSuite;refine iF (wpAny_unbindName_local hk hn em Ze λh' u' XF hs=>h _ ?_);refine I1.locs XF hs (by simpa using I.len) λm2 WO hl2 j y v' e1 e2 e3=>?_;have hj:j≠i:=λz=>by subst z;rw[eI hiσ]at e2;cases e2
 rw[eP (dG hj)]at e2;obtain⟨u2,r2,q2⟩:=hl j y v' e1 (by rw[eP (dG hj)];exact e2) e3;refine⟨u2,r2,?_⟩;rcases q2 with⟨k,e⟩|q2
 .refine .inl ⟨k,?_⟩;have:y≠n:=λe=>hj (B9 hN e1 (e ▸ hi));simp[this,e]
 .exact .inr q2
noncomputable def Cx.marked(X:Cx)(ev:Vl)(E:QQX):Cx:={X with A:=X.A.mark (Fa ev),calm:=false,xe:=E}
def Inv.mark(I:Inv X Wx Y H s):Inv (X.marked ev E') Wx Y H s:=
 ⟨⟨I.ok.mod,I.ok.kind,I.ok.glob,I.ok.blt,I.ok.above,I.ok.inj,I.ok.has,I.ok.oz,(λz=>by cases z),I.ok.frames,I.ok.oM,I.ok.o9,I.ok.bs,I.ok.oa,I.ok.nQ,I.ok.nW,I.ok.nF,I.ok.oo⟩,I.os,I.bare,I.base,I.loc,I.cell,I.free,I.mX,I.pin,I.mQ,I.len⟩
def Inv.unmark(ok:X.Ok)(I:Inv (X.marked ev E') Wx Y H s):Inv X Wx Y H s:=⟨ok,I.os,I.bare,I.base,I.loc,I.cell,I.free,I.mX,I.pin,I.mQ,I.len⟩
def SP.unmark(ok:X.Ok){D:ES}{f:Flow}(h:SP (X.marked ev E') Wx D f s):SP X Wx D f s:=by
 cases f with
 | next=>obtain⟨a,b,I,q⟩:=h;exact⟨a,b,I.unmark ok,q⟩
 | brk=>obtain⟨a,b,I,q⟩:=h;exact⟨a,b,I.unmark ok,q⟩
 | cont=>obtain⟨a,b,I,q⟩:=h;exact⟨a,b,I.unmark ok,q⟩
 | ret v=>obtain⟨a,b,c,I,q⟩:=h;exact⟨a,b,c,I.unmark ok,q⟩
def BR{M:Model}{h:Go}{a:Uf}{o:Obj}(ho:h.get? a=Fa o):W.Looks M h (typeOf (.ref a)) o.cls:=by intro A Q E s k q;unfold typeOf;exact cR (wpAny_load (k a o ho) (c9 q))
def F0{M:Model}{A:Ar}{E:QQX}{a C T:Uf}{Q:Unit->Sd->Prop}(x:Py s.heap a (.ref C) dx (Fa T))(h:∀h':Go,(∀b,h'.get? b=s.heap.get? b)->Q () {s with heap:=h'}):pi M A (setFlight (.ref a) Db) Q E s:=by
 obtain⟨oe,vs,ho,hc,_,hd,h1,hv,hT⟩:=x;obtain⟨nTe,oT,ts,XH,Ye,h3,hn⟩:=hT T Z';unfold setFlight;refine cR (fh ho hd hv ?_);rw[cX (by rfl)];refine ie XH Ye h3 (h _ λb=>?_);by_cases z:T=b
 .subst z;obtain⟨oc,od,Zv,Xr⟩:=oT;obtain rfl:Zv=.fields ts:=Ye;rw[fE _ XH Z',XH];show Fa (Obj.mk oc od (.fields (ts.setIfInBounds 3 .none)) Xr)=_;have:ts.setIfInBounds 3 .none=ts:=by
   apply Array.ext
   .simp
   .intro i h1 h2;rw[Array.getElem_setIfInBounds];split
    .rename_i e;subst e;rw[Array.getElem?_eq_getElem h3]at hn;exact(cY hn).symm
    .rfl
  rw[this]
 .exact fX _ _ z
def QP(X:Cx)(e:zn)(t:St->Hp->VK->(Hp->Prop)->XK->Prop):Prop:=∀(Wx:QQY) (s:Sd) (Y:St) (H:Hp) (Q:VK) (J:Hp->Prop) (E:XK),Inv X Wx Y H s->t Y H Q J E->pi (Tk X.prog X.w) X.A (wp e X.env) (EP X Wx Y Q) (VD X Wx Y J E) s
def Wa(X:Cx)(st:wE)(t:ES->St->Hp->(Hp->Prop)->XK->Prop):Prop:=∀(Wx:QQY) (s:Sd) (Y:St) (H:Hp) (D:ES) (J:Hp->Prop) (E:XK),Inv X Wx Y H s->t D Y H J E->pi (Tk X.prog X.w) X.A (exec st X.env) (SP X Wx D) (VD X Wx Y J E) s
def Og{X:Cx}{i:Nat}{x:Str}{te:St->Hp->VK->(Hp->Prop)->XK->Prop}{pos WI:Pos}(hN:X.N.Nodup)(hi:X.N[i]?=Fa x)(hx:KI X.env.scope x)(he:QP X e te)(hs:ZB e (Fa (.Name x WI)) pos.line X.env=pure lf:=by rfl)(hf:KJ X x:=by first|exact .inl Z'|exact .inr Z'|assumption):
  Wa X (.Assign [.Name x WI] e pos) (λD Y H J E=>te Y H (λv H'=>D.nx (Y.set i (Fa v)) H') J E):=by
 intro Wx s Y H D J E I h;refine lz (sG (he Wx s Y H _ J E I h) λv s1 zz=>x5 zz λy H1 I1 r1 q1=>?_) hs;exact xP I1 hN hi hx r1 (λs2 I2=>⟨_,H1,I2,q1⟩) hf
variable {k:Nat}{f C:Uf}{fd:Ix}{ps:QQQ}{sp:Sp}{Xk:T0 V}{ds:T0 Vl}{m:Str}{p pos WB:Pos}{e o:zn}{es:T0 zn}{t:TA}
section
variable {x:Str}
def Mn(F:xw X.prog X.w X.K X.mg X.base (Cs X.prog X.w) k f fd ps sp)(hr:rZ k X.A)(hg:Gl X x)(hm:X.mg x=Fa (.ref f))(hk:W.keepIn X.K (.ref f)=pc)(hb:uO X.K fd ps ds)(hd:qF Xk ds) (ha:PA (X.nX λ_ _=>False) (e::es) t) (WQ:zI x:=by decide) (he:Bv X e es:=by rfl) (WN:CS X pos es:=by rfl):
  QP X (.Call (.Name x p) (e::es) [] pos) (λY H Q J E=>t Y H λvs H1=>J H1/\sp (vs++Xk) H1 Q E):=by
 intro Wx s Y H Q J E I h;refine gg (wN I hg hm ?_ WQ);refine iM (h₀:=X.base) I.ok.mod.oK hk (d9 (ha pos Wx s Y H _ I.nX h) (λus s1 ⟨vs,H1,I1,r,jH,q⟩=>⟨I1.nA,?_⟩) λ_ _ z=>z.elim) he WN;have I1:=I1.xeOf;have r2:qF (vs++Xk) (us++ds):=r.append hd;have hl:(us++ds).length=ps.length:=by rw[<-r2.length];exact F.len _ _ _ _ q
 refine iz (gM (F.run X.A X.stack s1 H1 ⟨us,[]⟩ (us++ds) (vs++Xk) Q E hr I1.oi (hb s1 us I1.nA hl) r2 q) λr s' hq=>?_);cases r with
 | error e=>exact⟨H1,s1,jH,I1,hq⟩
 | ok fl=>
  cases fl with
  | ret u=>exact I1.after hq
  | next=>exact False.elim hq
  | brk=>exact False.elim hq
  | cont=>exact False.elim hq
end
structure KR(K:qx)(C:Uf):Prop where
 hd:(W.clsIn K C).isSome=pc
 ga:W.findIn K (.ref C) "__getattribute__"=Fa (Fa (.builtin "BaseException.__getattribute__"))
 gt:W.findIn K (.ref C) "__getattr__"=Fa Db
 ha:W.findIn K (.ref C) "__class__"=Fa (Fa (.builtin "object.__class__"))
 hn:W.specialIn K (.builtin "object.__class__") "__get__"=Fa (Fa (.builtin "getset_descriptor.__get__"))
 htk:W.takesIn K (.builtin "object.__class__")=Fa pc
 hm:W.mroIn K C (.type "object")=Fa pc
 hb:W.mroIn K C (.type "BaseException")=Fa pc
def OP:builtinKind "BaseException.__getattribute__"=Fa Manifest.AttrKind.slot:=by decide+kernel
def Le:splitId "BaseException.__getattribute__"=Fa ("BaseException","__getattribute__"):=by decide+kernel
variable {prog:Pg}{w:Wo}{A:Ar}{E:QQX}{K:qx}{ox:Obj}
section
variable {x:Uf}
def LC{Y6:Vl}{Q:Unit->Sd->Prop}{M:Model}(c:KR K C)(X:K.In s.heap)(hx:s.heap.get? x=Fa ox)(hc:ox.cls=.ref C)(hq:Q () s):pi M A (checkBuiltinCall "BaseException.__getattribute__" {pos:=[Value.ref x,Y6]}) Q E s:=by
 unfold checkBuiltinCall;simp only[OP,Le];unfold isInstance;refine cR (cR ?_);refine(BR hx).at ?_;rw[hc];refine(W.looks_mroIn X c.hb).at ?_;rw[cV (by decide)];have ha:=F.args_bexc_ga (Value.ref x) Y6;unfold argsOk at ha;have:∀t:Sem Unit,t=pure ()->pi M A t Q E s:=λt z=>by rw[z];exact c9 hq
 exact this _ ha
end
end L2
namespace L3
open L2
theorem _root_.L2.TKept.ext{K:qx}(h:TKept H H'):qQ K H H':=⟨λa xs q=>by
 rcases q with(q|⟨u,q⟩)|q
 .exact .inl (.inl (h.1 a xs q))
 .exact .inl (.inr ⟨u,h.2 a u _ q⟩)
 .exact .inr q,λa o xs q=>h.2 a o _ q⟩
abbrev SZ:=vf->Mp->DK->XR->Prop
def Ww(K:qx)(t:SZ):St->Hp->VK->(Hp->Prop)->XK->Prop:=λY H Q' J E=>BE λU M Q R=>yY K H Y U/\HM K H M/\t U M Q R/\(∀v H' d M',rV K H' d v->HM K H' M'->qQ K H H'->Q d M'->Q' v H')/\(∀H1,qQ K H H1->J H1)/\T4 K R E
def Wf(X:Cx)(e:zn)(t:SZ):Prop:=QP X e (Ww X.K t)
def QP.mono{t t':St->Hp->VK->(Hp->Prop)->XK->Prop}(h:QP X e t)(m:∀Y H Q J E,t' Y H Q J E->t Y H Q J E):QP X e t':=λWx s Y H Q J E I q=>h Wx s Y H Q J E I (m Y H Q J E q)
variable {X:Cx}{x:Str}{p pos np WG:Pos}{e:zn}{es:T0 zn}{t:xZ}{k:Nat}{f C:Uf}{fd:Ix}{ps:QQQ}{sp:F7}
def Nh(F:RU X.prog X.w X.K X.mg X.base k f fd ps sp)(hr:rZ k X.A)(hg:Gl X x)(hm:X.mg x=Fa (.ref f))(hk:W.keepIn X.K (.ref f)=pc)(hb:uO X.K fd ps [])(ha:A3 (X.nX λ_ _=>False) (e::es) t) (WQ:zI x:=by decide) (he:Bv X e es:=by rfl) (WN:CS X pos es:=by rfl):
  Wf X (.Call (.Name x p) (e::es) [] pos) (λU M Q R=>t U M λds M1=>sp ds M1 Q R):=QP.mono (Mn F hr hg hm hk hb .nil ha WQ he WN) λY H Q' J E ⟨U,M,Q,R,hs,hm,ht,k,kJ,kR⟩=>
 ⟨U,M,_,hs,hm,ht,λvs H1 ds M1 hd Wz e1 q1=>⟨kJ H1 e1,ds,M1,Q,R,by rw[dO];exact hd,Wz,q1,vR e1 k,kR⟩⟩
variable {b₀:wE}{XZ:T0 wE}{cn n:Str}{cnp X7 WB Zx:Pos}{Cc L:Uf}{outer:T0 Env}{i ix:Nat}{te:SZ}{th:xS}
def yY.unset{K:qx}{i:Nat}(h:yY K H Y U):yY K H (Y.set i Db) (U.set i Db):=λj e q=>by
 by_cases hj:j=i
 .subst hj;by_cases hl:j<U.length
  .rw[eI hl]at q;cases q
  .rw[gC (by simpa using hl)]at q;cases q
 .rw[eP (dG hj)]at q ⊢;exact h j e q
end L3
namespace L2
noncomputable def BV(es:Array DictEntry):Bool:=es.toList.all λe=>match e.key with|.str _ _=>pc|_=>lf
def Cw{es:Array DictEntry}(h:BV es=pc):StrKeys es:=λe he=>by
 have:=eY.mp h e (km.mpr he);cases z:e.key with
 | str n t=>exact⟨n,t,Z'⟩
 | _=>rw[z]at this;cases this
abbrev Ny:T0 Vl:=[.type "ValueError",.type "Exception",.type "BaseException",.type "object"]
def PD{K:qx}{t:Vl}{C:Uf}{cd:ClassData}{b:Bool}(q0:W.subIn K (.ref C) (.type "BaseException")=Fa pc)(q1:W.clsIn K C=Fa cd)(q2:W.typeIn K (.ref C)=Fa (.type "type"))(s:W.subIn K t (.ref C)=Fa b):W.exmOne K t (.ref C)=Fa b:=by unfold W.exmOne;rw[q0,cX (by rfl)];unfold W.kitCls;simp only;rw[q1,q2,cX (by rfl)];exact s
end L2
namespace L3
open L2
end L3
namespace L2
theorem Cn(self:Vl):∀own:QXQ,refuseLoop self "__setattr__" (own.map Value.ref++Ny)=pure ()
 | []=>jN.passes self
 | c::r=>by show refuseLoop self "__setattr__" (.ref c::(r.map Value.ref++Ny))=pure ();rw[refuseLoop_ref];exact Cn self r
variable {prog:Pg}{w:Wo}{A:Ar}{s:Sd}{K:qx}{x C:Uf}{ox:Obj}{own:QXQ}{name:Str}{v:Vl}
section
variable {E:QQX}{cd:ClassData}
def Ou{Q:Unit->Sd->Prop}(X:K.In s.heap)(I:W.InstAt s.heap x ox C Db)(hs:W.findIn K (.ref C) "__setattr__"=Fa (Fa (.builtin "object.__setattr__")))(hc:W.clsIn K C=Fa cd)(hm:cd.mro=own.map Value.ref++Ny)(ht:W.takerIn K C name=Fa Db)(hd:cd.hasDict=pc) (h:∀h' d t,(∀b o,b≠x->s.heap.get? b=Fa o->h'.get? b=Fa o)->h'.get? x=Fa {ox with dict:=some d}->s.heap.get? d=Db->d≠x->h'.Ns1 d (λy=>if y=name then Fa v else Db)->Q () {s with heap:=h',toks:=t}):pi (Tk prog w) A (setAttr (.ref x) name v) Q E s:=by
 refine W.set_plain X I hs ?_;have SF:=jN;have ne:cd.mro.isEmpty=lf:=by rw[hm];cases own<;>rfl
 have has:cd.mro.contains (.type "object")=pc:=by
  rw[hm,List.contains_eq_any_beq,ma];have:Ny.any (Value.type "object"==·)=pc:=by decide+kernel
  rw[this,lb]
 have sub:W.Looks (Tk prog w) s.heap (isInstance (.ref x) (.type "object")) pc:=I.type.andThen (W.looks_mroIn X (by unfold W.mroIn;rw[hc,lU,cV (by rw[ne];decide),has]));refine iO SF.slot.plain SF.entry (@PySem.W.check_slot (Tk prog w) _ _ {s with toks:=s.toks+1} "object.__setattr__" "object" "__setattr__" (.ref x) [.str name s.toks,v] [] _ SF.kind SF.split sub (SF.args (.ref x) (.str name s.toks) v) ?_);obtain⟨attr,ha,hr⟩:=Option.bind_eq_some_iff.mp ht;have hmro:W.Looks (Tk prog w) s.heap (mroOf (.ref C)) cd.mro:=(kA X hc).andThen .now;have L3':W.Looks (Tk prog w) s.heap (Builtin.ObjectAttr.storeTaker? attr) Db:=by
  cases attr with
  | none=>exact .now
  | some a=>
   obtain⟨b,hb,hr⟩:=iD.mp hr;refine(W.looks_takesIn X hb).andThen ?_;cases b
   .exact .now
   .cases hr
 rw[W.osa_eq,refuse_eq];refine cR (cR (I.type.here (s:={s with toks:=s.toks+1}) (cR (hmro.here (s:={s with toks:=s.toks+1}) ?_))));rw[hm,Cn];refine c9 (cR (I.type.here (s:={s with toks:=s.toks+1}) (cR ((iY X ha).here (s:={s with toks:=s.toks+1}) (cR (L3'.here (s:={s with toks:=s.toks+1}) ?_))))));obtain⟨hx,hcl,hn,Yp⟩:=I;obtain⟨oc,odi,oda,Xr⟩:=ox;dsimp only at hcl Yp;subst hcl;cases odi with
 | some _=>exact Yp.elim
 | none=>
  refine cR (c9 (cR (cR (wpAny_loadPart hx (cR (mq (s:={s with toks:=s.toks+1}) (kA X hc) ?_))))));rw[hd];rw[cV (by decide)];obtain⟨hh,g,dr,tk,os⟩:=s;dsimp only at hx h ⊢;rw[cV (by simp[typeHasDict])];split
  .cases hn
  .have y1:(hh.push W.emptyDict).get? x=Fa ⟨.ref C,Db,oda,Xr⟩:=cW _ hx;have nx:x≠hh.objs.size:=λz=>eN _ (z ▸ dv hx);refine cR (wpAny_alloc' (cR (wpAny_update' y1 (c9 ?_))));have e0:((hh.push W.emptyDict).update x λo=>{o with dict:=some hh.objs.size}).Ns hh.objs.size (λ_=>Db):=⟨W.emptyDict,#[],_,(kI _ _ _ _ nx.symm).trans (dC hh Z'),Z',λe he=>absurd he (by simp),λ_=>rfl⟩;refine cR (c9 (cR (wpAny_nsSet1 (lB e0) λh' n1 sb=>?_)));obtain⟨oD,esD,epD,g1,g2,g3⟩:=n1.count (Within.cons name v Within.nil);refine cR (lL g1 (g2 ▸ lM (dY g3 (by rw[dN,dM];decide))) (c9 (h h' hh.objs.size _ (λb o hb z=>?_) ?_ (gJ (cZ _)) nx.symm n1)))
   .exact(sb.2 b λy=>eN _ (y ▸ dv z)).trans ((kI _ _ _ _ hb).trans (cW _ z))
   .refine(sb.2 x nx).trans (fE _ y1 ?_);have fr:=(Heap.get?_some_iff.mp hx).2;cases oda with
    | _=>first|rfl|exact fr
end
variable {nm q:Str}{bs bm X0:T0 Vl}{hdct:Bool}{sn:QQQ}{sub:T0 Vl}{ab:Bool}{col:Option Bool}{dd:Option Uf}{k0 k1 k2 k3 k5:Option Vl}{B Bn newId nid W0 zr:String}{bmN:T0 Vl}{h:Go}{g:Array GenState}{d:Drawn}{t:Nat}{os:OsState}
section
variable {E:QQX}{N:Uf}
abbrev PR(C t:Uf):Obj:={cls:=.ref C,data:=.fields #[.ref t,.none,.none,.none,.bool lf,.none]}
def A5(Fn:ZO Bn newId zr bmN)(hBn:X0.contains (.type Bn)=pc)(F:ZO B nid W0 X0)(T:OwnTail h X0 bm){mN:QQZ}{us:T0 Vl}{fI:Uf}{oI:Obj}{Q:PySem.Fin->Sd->Prop} (hC:h.get? C=Fa (ZQ nm q C N bs bm hdct sn sub ab col dd k0 k1 k2 k3 k5 newId)) (hn:h.Ns N mN) (hi:mN "__init__"=Fa (.ref fI)) (hf:h.get? fI=Fa oI) (hfc:oI.cls=.type "function") (WD:us.length<=Ch) (hq:∀h' e,Heap.MadeExcOf h h' e (.ref C) us->pi (Tk prog w) A (call (.ref fI) (.ref e::us)) (λr s'=>r=.none/\Q (.done (.ret (.ref e))) s') E ⟨h',g,d,t,os⟩):
  pi (Tk prog w) A (Builtin.«type.__call__» ⟨.ref C::us,[]⟩) Q E ⟨h,g,d,t,os⟩:=by
 repeat (first|with_reducible refine h9 hC ?_|with_reducible refine wpAny_madeBy_exc hC ?_|wp_step)
 refine codeAny_call_builtin_code (jh _ Fn.quiet) (wpAny_check_new_subU Fn hBn T hC (codeAny_exc_new_subU Fn hBn F T hC ?_ WD));have kp:∀b o,h.get? b=Fa o->((h.push {cls:=.type "tuple",data:=.seq us.toArray}).push (PR C h.objs.size)).get? b=Fa o:=λb o z=>cW _ (cW _ z);have gE:((h.push {cls:=.type "tuple",data:=.seq us.toArray}).push (PR C h.objs.size)).get? (h.objs.size+1)=Fa (PR C h.objs.size):=by heap_get
 have hC2:=kp _ _ hC;have Zg:((h.push {cls:=.type "tuple",data:=.seq us.toArray}).push (PR C h.objs.size)).Ns N mN:=let⟨o,es,ep,e,r⟩:=hn;⟨o,es,ep,kp _ _ e,r⟩;have cC:(Value.ref C::bm).contains (.ref C)=pc:=by rw[ir,eQ,ic]
 have T2:=T.keeps kp;show pi _ _ _ _ _ _;unfold isInstance
 repeat (first|with_reducible refine h9 gE ?_|(with_reducible refine kK hC2 ?_;rw[cC])|wp_step)
 show pi _ _ (typeLookup (.ref C) _) _ _ _;refine wpAny_typeLookup_tail hC2 Zg T2 F.mroIs F.init.lookup ?_;rw[hi];refine eB (cR ?_);unfold bindSpecial;refine cR (jG (T:="function") ⟨_,kp _ _ hf,hfc⟩ ?_);rw[cX (by decide)];refine c9 (cR (d9 (hq _ (h.objs.size+1) ⟨kp,gJ (hW _),h.objs.size,gE,gJ (cZ _),cW _ (Heap.get?_push_at Z' Z')⟩) (λr s' hr=>?_) λ_ _ z=>z));obtain⟨rfl,hQ⟩:=hr
 wp_walk
 exact hQ
def Hq(Fn:ZO Bn newId zr bmN)(hBn:X0.contains (.type Bn)=pc)(F:ZO B nid W0 X0)(T:OwnTail h X0 bm){mN:QQZ}{us:T0 Vl}{fI:Uf}{oI:Obj}{Q:QQX} (hC:h.get? C=Fa (ZQ nm q C N bs bm hdct sn sub ab col dd k0 k1 k2 k3 k5 newId)) (hn:h.Ns N mN) (hi:mN "__init__"=Fa (.ref fI)) (hf:h.get? fI=Fa oI) (hfc:oI.cls=.type "function") (WD:us.length<=Ch) (hq:∀h' e,Heap.MadeExcOf h h' e (.ref C) us->pi (Tk prog w) (A.under (.builtin "type.__call__" ⟨.ref C::us,[]⟩)) (call (.ref fI) (.ref e::us)) (λr s'=>r=.none/\Q (.ref e) s') E ⟨h',g,d,t,os⟩):
  pi (Tk prog w) A (call (.ref C) us) Q E ⟨h,g,d,t,os⟩:=by
 have f1:=tc_lookup;have f2:=tc_bind (.ref C);have hT:(⟨h,g,d,t,os⟩:Sd).TypeIs (.ref C) "type":=⟨_,hC,Z'⟩;refine iz (codeAny_of_tree ?_);show pi _ _ (callAny (.ref C) _) _ _ _
 repeat (any_goals(first|assumption|with_reducible refine h9 hC ?_|wp_step))
 exact⟨Z',codeAny_call_builtin_at (jh _ (by decide+kernel)) entry_typeCall (wpAny_check_type_call_sub hC (A5 Fn hBn F T hC hn hi hf hfc WD hq))⟩
end
variable {M:Model}{env:Env}
section
variable {E:QQX}{N:Uf}
def Ip(h:Go)(e C:Uf)(dx:Option Uf):Prop:=AW λt sl=>h.get? e=Fa ⟨.ref C,dx,.fields #[.ref t,.none,.none,.none,.bool lf,.none],sl⟩
def GW{x:Sem Vl}{Q:Flow->Sd->Prop}(WV:bm.contains (.type "BaseException")=pc)(hh:A.handled=Db) (h:pi M A x (λv s₁=>∃e dx,v=.ref e/\s₁.heap.get? C=Fa (ZQ nm q C N bs bm hdct sn sub ab col dd k0 k1 k2 k3 k5 newId)/\Ip s₁.heap e C dx/\E (.ref e) s₁) E s):
  pi M A (raiseStmt env (Fa x) Db) Q E s:=by
 have cB:(Value.ref C::bm).contains (.type "BaseException")=pc:=by rw[ir,WV,lb]
 unfold raiseStmt;refine cR (d9 h (λv s₁ ⟨e,dx,ev,hC,⟨t,sl,he⟩,hE⟩=>?_) λ_ _ z=>z);subst ev;obtain⟨hp,g,d,tk,os⟩:=s₁
 repeat (first|with_reducible refine h9 he ?_|with_reducible refine h9 hC ?_|(with_reducible refine kK hC ?_;rw[cB])|wp_step)
 exact wpAny_raiseNew_none hh hE
def GE(Fn:ZO Bn newId zr bmN)(hBn:X0.contains (.type Bn)=pc)(F:ZO B nid W0 X0){mN:QQZ}{fI:Uf}{x:Str}{np WG pos:Pos}{args:T0 zn}{Q:Flow->Sd->Prop} (WV:bm.contains (.type "BaseException")=pc) (hh:A.handled=Db) (WP:(sB WG (Tl args env)).any (·.1)=lf) (hi:mN "__init__"=Fa (.ref fI)) (h:pi (Tk prog w) A (wp (.Name x np) env) (λf s₁=>f=.ref C/\pi (Tk prog w) A (evalArgs (.ref C) pc (sB WG (Tl args env)) []) (λa s₂=>a.kw=[]/\a.pos.length<=Ch/\s₂.heap.get? C=Fa (ZQ nm q C N bs bm hdct sn sub ab col dd k0 k1 k2 k3 k5 newId)/\s₂.heap.Ns N mN/\OwnTail s₂.heap X0 bm/\(∃oI,s₂.heap.get? fI=Fa oI/\oI.cls=.type "function")/\
    ∀h' e,Heap.MadeExcOf s₂.heap h' e (.ref C) a.pos->pi (Tk prog w) (A.under (.builtin "type.__call__" ⟨.ref C::a.pos,[]⟩)) (call (.ref fI) (.ref e::a.pos))
     (λr s'=>r=.none/\∃dx,s'.heap.get? C=Fa (ZQ nm q C N bs bm hdct sn sub ab col dd k0 k1 k2 k3 k5 newId)/\Ip s'.heap e C dx/\E (.ref e) s') E {s₂ with heap:=h'}) E s₁) E s):
  pi (Tk prog w) A (exec (.Raise (Fa (.Call (.Name x np) args [] WG)) Db pos) env) Q E s:=by
 rw[arm_exec_Raise];refine cR (gX (GW (C:=C) (nm:=nm) (q:=q) (N:=N) (bs:=bs) (bm:=bm) (hdct:=hdct) (sn:=sn) (sub:=sub) (ab:=ab) (col:=col) (dd:=dd) (k0:=k0) (k1:=k1) (k2:=k2) (k3:=k3) (k5:=k5) (newId:=newId) WV hh ?_));refine cR (d9 (wpAny_Call_ofName (d9 h (λf s₁ ⟨ef,h₁⟩=>?_) λ_ _ z=>z)) (λv s₃ h₃=>cR (gX (c9 h₃))) λ_ _ z=>z);subst ef;unfold ZT;refine cR (eB (d9 h₁ (λa s₂ h₂=>cR (gX ?_)) λ_ _ z=>z));obtain⟨WB,akw⟩:=a;obtain⟨hkw,WD,hC,hn,T,⟨oI,hf,hfc⟩,h₂⟩:=h₂;obtain rfl:akw=[]:=hkw;obtain⟨hp,g,d,tk,os⟩:=s₂;simp only[WP];refine cR (wpAny_keeperOf_exc hC (cR (Hq Fn hBn F T hC hn hi hf hfc WD λh' e hm=>d9 (h₂ h' e hm) (λr s' ⟨z,dx,c1,c2,c3⟩=>⟨z,cR (eB (wpAny_point (c9 ⟨e,dx,Z',c1,c2,c3⟩)))⟩) λ_ _ z=>z)))
end
def x0(a C:Uf)(h:Go):Prop:=Ip h a C Db
def x1(a C d:Uf)(h:Go):Prop:=Ip h a C (Fa d)
structure yU(K:qx)(C:Uf)(f:Str):Prop where
 sa:W.findIn K (.ref C) "__setattr__"=Fa (Fa (.builtin "object.__setattr__"))
 cd:∃cd own,W.clsIn K C=Fa cd/\cd.mro=List.map Value.ref own++Ny/\cd.hasDict=pc
 tk:W.takerIn K C f=Fa Db
variable {X:Cx}{Wx:T0 (Uf × Obj)}{Y σ':St}{H H1:Hp}{s1:Sd}{a:Uf}
section
variable {f:Str}
def Gq{A:Ar}{E:QQX}{Q:Unit->Sd->Prop}(I:Inv X Wx Y H s)(e:H a=Fa (.ext (x0 a C)))(ry:qL y u)(st:yU X.K C f)(h:∀d s',H d=Db->d≠a->Inv X Wx Y (upd (upd H a (.ext (x1 a C d))) d (.ext (NF d f y))) s'->Q () s'):pi (Tk X.prog X.w) A (setAttr (.ref a) f u) Q E s:=by obtain⟨⟨t,sl,ho⟩,_,_⟩:=I.mQ a _ e;obtain⟨cd,own,c1,c2,c3⟩:=st.cd;refine Ou I.nA ⟨ho,Z',Z',trivial⟩ st.sa c1 c2 st.tk c3 λh' d tk k1 k2 dn da n1=>h d _ (zP I.mQ dn) da ?_;have I2:=I.write (t':=tk) (x:=a) (e:=a) (o:=.ext (x1 a C d)) (by rw[e];exact True.intro) (.inl Z') k1 ⟨_,k2⟩ ⟨⟨t,sl,k2⟩,⟨_,k2⟩,λh1 h2 ⟨t',X2,z⟩ kk=>⟨t',X2,kk _ z⟩⟩;refine I2.adopt I dn (by rw[pZ da];exact zP I.mQ dn) ⟨⟨u,n1,ry⟩,?_,λh1 h2 ⟨u,n,r⟩ kk=>⟨u,n.at kk,r⟩⟩;obtain⟨o,_,_,z,_⟩:=n1;exact⟨o,z⟩
def Inv.drop{φ:Go->Prop}(I:Inv X Wx Y H s)(ea:H a=Fa (.ext φ)):Inv X Wx Y (λb=>if b=a then Db else H b) s:=by
 have less:∀b,H b=Db->(if b=a then Db else H b)=Db:=λb e=>by split<;>first|rfl|exact e
 have keep:∀b o,H b=Fa o->(∀φ,o≠.ext φ)->(if b=a then Db else H b)=Fa o:=λb o e n=>by
  rw[cV]
  .exact e
  .intro z;rw[z,ea]at e;exact n φ (cY e).symm
 refine⟨I.ok,I.os,I.bare,⟨I.base.keep,I.base.slot,λb o e h0 hb=>less b (I.base.free b o e h0 hb),I.base.there,λb xs e=>keep b _ (I.base.nC b xs e) (λ_ z=>nomatch z),λb o u e=>keep b _ (I.base.nu b o u e) (λ_ z=>nomatch z),λb ps e=>?_⟩,I.loc,I.cell,less _ I.free,λx c e=>less _ (I.mX x c e),λp hp=>⟨(I.pin p hp).1,less _ (I.pin p hp).2.1,(I.pin p hp).2.2⟩,λb ob e=>?_,I.len⟩
 .obtain⟨more,z⟩:=I.base.nI b ps e;exact⟨more,keep b _ z (λ_ z=>nomatch z)⟩
 .have e':H b=Fa ob:=by
   by_cases z:b=a
   .rw[cX z]at e;cases e
   .rw[cV z]at e;exact e
  exact(I.mQ b ob e').nk (λ_ _ _ q=>q) (λb' q=>keep b' _ q (λ_ z=>nomatch z)) λb' xs q=>keep b' _ q (λ_ z=>nomatch z)
end
def LB(K:qx)(ta tv:TE)(f:Str):TS:=λD Y H=>tv Y H λy H1=>ta Y H1 λx H2=>∃a C,x=.ref a/\H2 a=Fa (.ext (x0 a C))/\yU K C f/\∀d,H2 d=Db->d≠a->D.nx Y (upd (upd H2 a (.ext (x1 a C d))) d (.ext (NF d f y)))
def P5{f:Str}{pos WI:Pos}{ta tv:TE}(ha:PE X o ta)(hv:PE X value tv)(hs:ZB value (Fa (.Attribute o f WI)) pos.line X.env=pure lf:=by rfl):PS X (.Assign [.Attribute o f WI] value pos) (LB X.K ta tv f):=by intro Wx s Y H D I h;refine iL (sG (hv Wx s Y H _ I h) λu s1 zz=>x5 zz λy H1 I1 ry q=>sG (ha Wx s1 Y H1 _ I1 q) λov s2 zz=>?_) hs;obtain⟨x,H2,I2,rx,a,C,ex,ea,st,q2⟩:=zz;subst ex;obtain rfl:ov=Value.ref a:=rx;exact Gq I2 ea ry st λd s3 dn da I3=>⟨Y,_,I3,q2 d dn da⟩
def wq(K:qx)(f:Str):Sp:=λvs H Q _=>De λe C y=>vs=[.ref e,y]/\H e=Fa (.ext (x0 e C))/\yU K C f/\∀d,H d=Db->d≠e->Q .mL (upd (upd H e (.ext (x1 e C d))) d (.ext (NF d f y)))
variable {qual:Str}{scope:wS}{outer:T0 Env}{s0:Sd}{H0:Hp}{P:Pg}{mg:QQZ}{base:Go}
section
def Nq{x qual y1 y2 fl:Str}{st:wE}(F:OD K x qual st f fd)(S:sW [y1,y2] [y1,y2] (qg st)) (hb:∀(WJ:Vl) (A:Ar) (outer:T0 Env) (s:Sd) (H:Hp) (E:XK),B4 (vv (Cs P w) P w K mg base [y1,y2] qual (qg st) f WJ A outer s H E) (rT st) (LB K (Ek 0) (Ek 1) fl)):xw P w K mg base (Cs P w) 1 f fd [y1,y2] (wq K fl):=by
 obtain⟨oc,od,kV,Xb,pm,an,WJ,ct,Xr,rfl,lk,Xx⟩:=F.ex;refine LR lk Xx S (λvs H Q E h=>?_) λA outer s H vs Q' E hr h=>⟨_,hb WJ A outer s H E,?_⟩
 .obtain⟨e,C,y,rfl,_⟩:=h;rfl
 .obtain⟨e,C,y,rfl,h1,h2,q⟩:=h;exact⟨y,Z',.ref e,Z',e,C,Z',h1,h2,q⟩
def IR(K:qx)(C fI:Uf):Prop:=
 ∃nm q N bs bm X0 hdct sn sub ab col dd k0 k1 k2 k3 k5,∃B Bn newId nid W0 zr:String,∃bmN,∃mN:QQZ,ZO Bn newId zr bmN/\X0.contains (Value.type Bn)=pc/\ZO B nid W0 X0/\bm.contains (Value.type "BaseException")=pc/\mN "__init__"=Fa (.ref fI)/\
  ∀h:Go,K.In h->h.get? C=Fa (ZQ nm q C N bs bm hdct sn sub ab col dd k0 k1 k2 k3 k5 newId)/\h.Ns N mN/\OwnTail h X0 bm/\∃oI,h.get? fI=Fa oI/\oI.cls=.type "function"
variable {N:QQQ}{f:Uf}{cd:Vl}{E:XK}
def JH{X:Cx}(hX:X=vv (Cs P w) P w K mg base N qual scope f cd A outer s0 H0 E){C fI:Uf}{fdI:Ix}{ps:QQQ}{fl:Str}{k:Nat}{x:Str}{np WG pos:Pos}{e:zn}{ta:TA}(hC:IR X.K C fI)(F:xw X.prog X.w X.K X.mg X.base (Cs X.prog X.w) k fI fdI ps (wq X.K fl))(hr:rZ (k+1) X.A)(hb:uO X.K fdI ps [])(st:yU X.K C fl) (hg:Gl X x) (hm:X.mg x=Fa (.ref C)) (ha:PA X [e] ta) (hs:Tl [e] X.env=[(lf,wp e X.env)]:=by rfl) (WQ:zI x:=by decide):
  PS X (.Raise (Fa (.Call (.Name x np) [e] [] WG)) Db pos) (λ_ Y H=>ta Y H λvs H1=>∃y,vs=[y]/\∀d,H1 d=Db->E (.ref C) (Fa d) (upd H1 d (.ext (NF d fl y)))):=by
 intro Wx s Y H D I h;obtain⟨nm,q,N',bs,bm,X0,hdct,sn,sub,ab,col,dd,k0,k1,k2,k3,k5,B,Bn,newId,nid,W0,zr,bmN,mN,f1,f2,f3,f4,f5,Yu⟩:=hC;have hcalm:X.A.handled=Db:=I.ok.hd (by rw[hX];rfl);refine GE (nm:=nm) (q:=q) (N:=N') (bs:=bs) (hdct:=hdct) (sn:=sn) (sub:=sub) (ab:=ab) (col:=col) (dd:=dd) (k0:=k0) (k1:=k1) (k2:=k2) (k3:=k3) (k5:=k5) f1 f2 f3 f4 hcalm (by rw[hs];rfl) f5 (wN I hg hm ⟨Z',?_⟩ WQ);rw[hs];refine evalArgs_kwB Z' ?_;have Yc:=ha WG Wx s Y H _ I h;rw[hs]at Yc;refine sG Yc λus s1 zz=>?_;obtain⟨vs,H1,I1,r1,y,ey,q1⟩:=zz;subst ey;obtain⟨u,rfl,ru⟩:=yA r1;refine wpAny_evalAll_nil ?_;obtain⟨c1,c2,c3,c4⟩:=Yu s1.heap I1.nA;refine⟨Z',by show 1<=Ch;rw[dN];decide,c1,c2,c3,c4,λh' e' md=>?_⟩;obtain⟨mk,mn,t,mt,_⟩:=md;have hn:H1 e'=Db:=zP I1.mQ mn;have I2:Inv X Wx Y H1 {s1 with heap:=h'}:=I1.kept (t':=s1.toks) mk;have I3:Inv X Wx Y (upd H1 e' (.ext (x0 e' C))) {s1 with heap:=h'}:=I2.adopt I1 mn hn ⟨⟨t,_,mt⟩,⟨_,mt⟩,λh1 h2 ⟨t',X2,z⟩ kk=>⟨t',X2,kk _ z⟩⟩;have r2:qF [V.ref e',y] [Value.ref e',u]:=.cons Z' (.cons ru .nil);have X3:wq X.K fl [V.ref e',y] (upd H1 e' (.ext (x0 e' C))) (λv H2=>v=.mL/\∃d,d≠e'/\H1 d=Db/\H2=upd (upd H1 e' (.ext (x1 e' C d))) d (.ext (NF d fl y))) (λ_ _ _=>False):=⟨e',C,y,Z',qh,st,λd dn da=>⟨Z',d,da,by rw[pZ da]at dn;exact dn,by rw[Oy]⟩⟩;have hl:([Value.ref e',u]:T0 Vl).length=ps.length:=by rw[<-r2.length];exact F.len _ _ _ _ X3
 refine iz (gM (F.run _ X.stack _ _ ⟨[Value.ref e',u],[]⟩ [Value.ref e',u] _ _ _ (hr.make C [u] []) (I3.oi.make C [u] []) (hb _ [Value.ref e',u] I3.nA hl) r2 X3) λr s' Yg=>?_);cases r with
 | error ev=>obtain⟨_,_,_,_,_,_,z,_⟩:=Yg;exact z.elim
 | ok fw=>
  cases fw with
  | ret uv=>
   obtain⟨v,H',I4,rv,ev,d,da,dn,eH⟩:=I3.after Yg;subst ev eH;obtain⟨⟨t',X2,md⟩,_,_⟩:=I4.mQ e' _ (by rw[pZ (dG da)];exact qh);have I5:Inv X Wx Y (upd H1 d (.ext (NF d fl y))) _:=(funext λb=>by
    by_cases z:b=e'
    .subst z;rw[cX Z',pZ (dG da),hn]
    .rw[cV z];by_cases z2:b=d
     .subst z2;rw[qh,qh]
     .rw[pZ z2,pZ z2,pZ z]:(λb=>if b=e' then Db else upd (upd H1 e' (.ext (x1 e' C d))) d (.ext (NF d fl y)) b)=upd H1 d (.ext (NF d fl y))) ▸ I4.drop (a:=e') (φ:=x1 e' C d) (by rw[pZ (dG da)];exact qh)
   refine⟨rv,Fa d,(Yu s'.heap I4.nA).1,⟨t',X2,md⟩,?_⟩;subst hX;have WY:Un (wj outer) [] H0 H1 s0.heap s1.heap:=I1.base;exact TJ I5 (tb:=none) ⟨_,_,md,Z',Z',Z',(by show 1<6;decide),Z',λT z=>by cases z⟩ (F4 WY Z' mn) (λT z=>by cases z) (by rw[pZ (dG da)];exact hn) (q1 d dn)
  | next=>exact False.elim Yg
  | brk=>exact False.elim Yg
  | cont=>exact False.elim Yg
end
end L2
namespace L3
open L2
variable {P:Pg}{w:Wo}{K:qx}{mg:QQZ}{base:Go}{N:QQQ}{qual:Str}{scope:wS}{f:Uf}{cd:Vl}{A:Ar}{outer:T0 Env}{s0:Sd}{H0:Hp}{E:XK}{x:Str}{np WG pos:Pos}{e:zn}{C fI:Uf}{fdI:Ix}{ps:QQQ}{fl:Str}{k:Nat}{R:XR}{ta:xZ}
def Pd(C:Uf)(R:XR)(f:Str)(ta:xZ):xS:=λ_ U M=>ta U M λds M1=>∃z,ds=[z]/\R C (Fa (f,z)) M1
def JQ(hC:IR K C fI)(F:xw P w K mg base (Cs P w) k fI fdI ps (wq K fl))(hr:rZ (k+1) (vv (Cs P w) P w K mg base N qual scope f cd A outer s0 H0 E).A)(hb:uO K fdI ps [])(st:yU K C fl)(_:W.findIn K (.ref C) "__init__"=Fa (Fa (.ref fI)))(hg:Gl (vv (Cs P w) P w K mg base N qual scope f cd A outer s0 H0 E) x)(hm:mg x=Fa (.ref C))(hR:T4 K R E)(ha:A3 (vv (Cs P w) P w K mg base N qual scope f cd A outer s0 H0 E) [e] ta) (hs:Tl [e] (vv (Cs P w) P w K mg base N qual scope f cd A outer s0 H0 E).env=[(lf,wp e (vv (Cs P w) P w K mg base N qual scope f cd A outer s0 H0 E).env)]:=by rfl) (WQ:zI x:=by decide):
  S3 (vv (Cs P w) P w K mg base N qual scope f cd A outer s0 H0 E) (.Raise (Fa (.Call (.Name x np) [e] [] WG)) Db pos) (Pd C R fl ta):=
 PS.mono (JH Z' hC F hr hb st hg hm ha hs WQ) λD' Y H ⟨U,M,D,hs,hm,ht,_⟩=>⟨U,M,_,hs,hm,ht,λvs H1 ds M1 hd Wz e1 q1=>by
  obtain⟨z,rfl,r⟩:=q1;obtain⟨v,rfl,hv⟩:=sA hd;exact⟨v,Z',λd dn=>hR C (Fa d) _ M1 _ (Wz.add dn) (.inr ⟨d,fl,z,v,Z',Z',qh,hv.mono (.new dn)⟩) r⟩⟩
variable {X:Cx}{b₀:wE}{XZ:T0 wE}{cn:Str}{cnp X7 epos:Pos}{Cc L:Uf}{te:SZ}{th:xS}
end L3
namespace L2
def Lj{K:qx}{C C2 N fI:Uf}{nm q:Str}{bs sub:T0 Vl}{hdct ab:Bool}{sn:QQQ}{col:Option Bool}{dd od1 od2 dd2:Option Uf}{k0 k1 k2 k3 k5:Option Vl}{oc1 oc2 c0:Vl}{es1 es2:Array DictEntry}{ep1 ep2:Nat}{sl1 sl2 Vx:Array (Option Vl)}{cd2:ClassData}{oI:Obj} (l1:K.lookup C=Fa (ZQ nm q C N bs (.ref C2::Ny) hdct sn sub ab col dd k0 k1 k2 k3 k5 "ValueError.__new__")) (n1:K.lookup N=Fa ⟨oc1,od1,.dict es1 ep1,sl1⟩) (s1:BV es1=pc) (i1:nsFind es1 "__init__"=Fa (.ref fI)) (l2:K.lookup C2=Fa ⟨c0,dd2,.cls cd2,Vx⟩) (n2:K.lookup cd2.ns=Fa ⟨oc2,od2,.dict es2 ep2,sl2⟩) (s2:BV es2=pc) (i2:nsFind es2 "__init__"=Db) (l3:K.lookup fI=Fa oI) (hf:W.isFn K (.ref fI)=pc):IR K C fI:=by
 have hc:oI.cls=.type "function":=by have hf:=fg.mp hf;unfold W.typeIn at hf;simp only at hf;rw[l3]at hf;exact cY hf
 refine⟨nm,q,N,bs,.ref C2::Ny,Ny,hdct,sn,sub,ab,col,dd,k0,k1,k2,k3,k5,"ValueError","ValueError","ValueError.__new__","ValueError.__new__","ValueError.__init__","ValueError.__init__",Ny,λn=>nsFind es1 n,kx,by decide+kernel,kx,?_,i1,λh X=>⟨X C _ l1,⟨_,es1,ep1,X N _ n1,Z',Cw s1,λ_=>rfl⟩,.own (X C2 _ l2) ⟨_,es2,ep2,X _ _ n2,Z',Cw s2,λ_=>rfl⟩ i2 .base,oI,X fI _ l3,hc⟩⟩;rw[ir];have:Ny.contains (.type "BaseException")=pc:=by decide+kernel
 rw[this,lb]
def Ki{K:qx}{C C2 N:Uf}{nm q f:Str}{bs sub:T0 Vl}{ab:Bool}{sn:QQQ}{col:Option Bool}{dd:Option Uf}{k0 k1 k2 k3 k5:Option Vl}(l1:K.lookup C=Fa (ZQ nm q C N bs (.ref C2::Ny) pc sn sub ab col dd k0 k1 k2 k3 k5 "ValueError.__new__"))(sa:W.findIn K (.ref C) "__setattr__"=Fa (Fa (.builtin "object.__setattr__")))(tk:W.findIn K (.ref C) f=Fa Db):yU K C f:=by refine⟨sa,⟨_,[C,C2],by unfold W.clsIn;rw[l1],Z',Z'⟩,?_⟩;unfold W.takerIn;rw[tk];rfl
end L2
namespace L3
open L2
variable {X:Cx}{pos WB:Pos}{o e:zn}{es:T0 zn}{ta:T3}{t:xZ}
structure FA where
 f:Uf
 d:Ix
 p:QQQ
structure DG(K:qx)(st:wE)(py qual:Str)(ps:QQQ)(x:FA):Prop where
 pe:x.p=ps
 fn:OD K py qual st x.f x.d
 b:uO K x.d x.p []
 ty:W.isFn K (.ref x.f)=pc
structure TG(K:qx)(mg:QQZ)(st:wE)(py:Str)(ps:QQQ)(x:FA):Prop extends DG K st py py ps x where
 mg:mg py=Fa (.ref x.f)
structure MG(K:qx)(C:Uf)(st:wE)(py qual:Str)(ps:QQQ)(x:FA):Prop extends DG K st py qual ps x where
 at_:W.findIn K (.ref C) py=Fa (Fa (.ref x.f))
structure CG(K:qx)(mg:QQZ)(nm:Str)(C:Uf):Prop extends Cls K C where
 mg:mg nm=Fa (.ref C)
def DG.kp{K:qx}{st:wE}{x:FA}(h:DG K st py qual ps x):W.keepIn K (.ref x.f)=pc:=h.fn.kp
def MG.nj{K:qx}{st:wE}{x:FA}(h:MG K C st py qual ps x):vE K C py x.f:=⟨h.at_,h.ty,h.toDG.kp⟩
def zB(K:qx)(C:Uf)(fs:QQQ):Prop:=∀f,fs.contains f=pc->ue K C f
def tE{K:qx}:zB K C []:=λf h=>by simp at h
def pT{K:qx}{C:Uf}{g:Str}(h:W.findIn K (.ref C) g=Fa Db)(r:zB K C fs):zB K C (g::fs):=λf q=>by
 rw[ir,gZ]at q;rcases q with q|q
 .rw[xz q];exact h
 .exact r f q
abbrev Fq(P:Pg)(w:Wo)(K:qx)(mg:QQZ)(base:Go)(k:Nat)(x:FA)(sp:rj):Prop:=SV P w K mg base k x.f x.d x.p sp
abbrev U6(P:Pg)(w:Wo)(K:qx)(mg:QQZ)(base:Go)(k:Nat)(x:FA)(sp:F7):Prop:=RU P w K mg base k x.f x.d x.p sp
noncomputable def Rb(N P:QQQ)(sc:wS):Bool:=sc.kind==.function&&(!sc.isCoroutine&&(!sc.isGenerator&&(decide N.Nodup&&(decide (N.take P.length=P)&&((P.all λx=>sc.names.lookup x==Fa .local||sc.names.lookup x==Fa .cell)&&sc.names.all λy=>!(y.2==.free))))))
def Wu{N P:QQQ}(h:Rb N P sc=pc):sW N P sc:=by
 unfold Rb at h;simp only[dQ,gI,fg,eA]at h;obtain⟨h1,h2,h3,h4,h5,h6,h7⟩:=h;refine⟨h1,h2,h3,h4,h5,λx hx=>?_,λy hy e=>?_⟩
 .have:=eY.mp h6 x hx
  simpa using this
 .have:=eY.mp h7 y hy;rw[e]at this;simp at this
variable {P:Pg}{w:Wo}{K:qx}{mg:QQZ}{base:Go}
def VE{st:wE}{sp:rj}(F:DG K st x qual ps fa)(S:sW N ps (qg st))(len:∀ds M Q,sp ds M Q->ds.length=ps.length) (WU:∀(WJ:Vl) (A:Ar) (outer:T0 Env) (s:Sd) (H:Hp) (E:XK),rZ k (A.deeper (ZJ qual (qg st) s.heap.objs.size fa.f WJ))->
   ∃t,Hg (vv NG P w K mg base N qual (qg st) fa.f WJ A outer s H E).oy (rT st) t/\∀ds M Q,sp ds M Q->t {nx:=λ_ M'=>∃WA,qG WA M'/\Q .mL WA,rt:=λd M'=>∃WA,qG WA M'/\Q d WA} (wR N ds) M):Fq P w K mg base (k+1) fa sp:=by
 unfold Fq;rw[F.pe];exact T9 F.fn S len WU
def T6{st:wE}{sp:F7}(F:DG K st x qual ps fa)(S:sW N ps (qg st))(len:∀ds M Q R,sp ds M Q R->ds.length=ps.length) (WU:∀(WJ:Vl) (A:Ar) (outer:T0 Env) (s:Sd) (H:Hp) (E:XK) (R:XR),rZ k (A.deeper (ZJ qual (qg st) s.heap.objs.size fa.f WJ))->T4 K R E->
   ∃t,Hg (vv (Cs P w) P w K mg base N qual (qg st) fa.f WJ A outer s H E) (rT st) t/\∀ds M Q,sp ds M Q R->t {nx:=λ_ M'=>∃WA,qG WA M'/\Q .mL WA,rt:=λd M'=>∃WA,qG WA M'/\Q d WA} (wR N ds) M):U6 P w K mg base (k+1) fa sp:=by
 unfold U6;rw[F.pe];exact Ue F.fn S len WU
variable {k n:Nat}{f C:Uf}{fa:FA}{st:wE}{qual:Str}{ps:QQQ}{sp:rj}{x m:Str}{p:Pos}
def pN(F:Fq X.prog X.w X.K X.mg X.base k fa sp)(hr:rZ n X.A)(T:TG X.K X.mg st x ps fa)(ha:A3 X (e::es) t)(hn:k<=n:=by first|decide|lia)(hg:Gl X x:=by rfl)
  (WQ:zI x:=by decide) (he:Bv X e es:=by rfl) (WN:CS X pos es:=by rfl):
  E3 X (.Call (.Name x p) (e::es) [] pos) (BK sp t):=NS F (hr.mono hn) hg T.mg T.toDG.kp T.b ha WQ he WN
def vj(F:Fq X.prog X.w X.K X.mg X.base k fa sp)(hr:rZ n X.A)(c:CG X.K X.mg x C)(i:Mk X.K C fa.f)(T:DG X.K st m qual ps fa)(ha:A3 X (e::es) t)(hn:k+1<=n:=by first|decide|lia)(hg:Gl X x:=by rfl)
  (WQ:zI x:=by decide) (he:Bv X e es:=by rfl) (WN:CS X pos es:=by rfl):
  E3 X (.Call (.Name x p) (e::es) [] pos) (Qt C sp t):=OG c.toCls i F (hr.mono hn) hg c.mg T.b ha WQ he WN
def qb{pl:Sem Bool}(he:E3 X o ta)(c:Cls X.K C)(T:MG X.K C st m qual ps fa)(F:Fq X.prog X.w X.K X.mg X.base k fa sp)(hr:rZ n X.A)(ha:A3 X (e::es) t)(hn:k<=n:=by first|decide|lia)
  (WT:Bv X e es:=by rfl) (WN:CS X pos es:=by rfl)
  (ht:wp (.Call (.Attribute o m WB) (e::es) [] pos) X.env=(do
   let ov<-wp o X.env
   ZR WB.atName
   let(f,first)<-TD [ov] (ZN ov m pl)
   ZT pos f first (sB pos (Tl (e::es) X.env)) (sK pos (Ps [] X.env))):=by rfl):
  E3 X (.Call (.Attribute o m WB) (e::es) [] pos) (AB m (λD s=>D=C/\s=sp) ta t):=
 Ff (R:=λD s=>D=C/\s=sp) he (λD s ⟨e1,e2⟩=>by subst e1 e2;exact⟨c,_,_,_,T.nj,F,T.b⟩) (hr.mono hn) ha WT WN ht
def yr{pl:Sem Bool}(he:E3 X o ta)(c:Cls X.K C)(T:MG X.K C st m qual ps fa)(F:Fq X.prog X.w X.K X.mg X.base k fa sp)(hr:rZ n X.A)(hn:k<=n:=by first|decide|lia)
  (ht:wp (.Call (.Attribute o m WB) [] [] pos) X.env=(do
   let ov<-wp o X.env
   ZR WB.atName
   let(f,first)<-TD [ov] (ZN ov m pl)
   ZT pos f first (sB pos (Tl [] X.env)) (sK pos (Ps [] X.env))):=by rfl):
  E3 X (.Call (.Attribute o m WB) [] [] pos) (AB m (λD s=>D=C/\s=sp) ta xk):=
 CD (R:=λD s=>D=C/\s=sp) he (λD s ⟨e1,e2⟩=>by subst e1 e2;exact⟨c,_,_,_,T.nj,F,T.b⟩) (hr.mono hn) ht
def yD{pl:Sem Bool}(cm:LY X.K C m fa.f)(F:Fq X.prog X.w X.K X.mg X.base k fa sp)(hr:rZ n X.A)(c:CG X.K X.mg x C)(T:DG X.K st m qual ps fa)(ha:A3 X (e::es) t)(hn:k<=n:=by first|decide|lia)(hg:Gl X x:=by rfl)
  (WQ:zI x:=by decide) (WT:Bv X e es:=by rfl) (WN:CS X pos es:=by rfl)
  (ht:wp (.Call (.Attribute (.Name x p) m WB) (e::es) [] pos) X.env=(do
   let ov<-wp (.Name x p) X.env
   ZR WB.atName
   let(f,first)<-TD [ov] (ZN ov m pl)
   ZT pos f first (sB pos (Tl (e::es) X.env)) (sK pos (Ps [] X.env))):=by rfl):
  E3 X (.Call (.Attribute (.Name x p) m WB) (e::es) [] pos) (BK sp t):=NT cm F (hr.mono hn) hg c.mg T.kp T.b ha WQ WT WN ht
variable {h:Go}{py:Str}{od an:Option Uf}{sl:Array (Option Vl)}{kv dc pm cd ct:Vl}
def IV{fd:Ix}{oc:Vl}(l:K.lookup f=Fa ⟨oc,od,.func fd,sl⟩):W.keepIn K (.ref f)=pc:=by unfold W.keepIn;simp only;rw[l]
def O5{fd:Ix}(l:K.lookup f=Fa ⟨.type "function",od,.func fd,sl⟩):W.isFn K (.ref f)=pc:=by unfold W.isFn W.typeIn;simp only;rw[l];rfl
abbrev m8(py qual:Str)(st:wE)(ps:QQQ):Prop:=∀(kV Xb pm:Vl) (an:Option Uf) (WJ ct:Vl) (us:T0 Vl),us.length=ps.length->bindArgs (W.fnOf py qual (uj st) (rT st) (qg st) .none kV Xb pm an WJ ct) ⟨us,[]⟩=pure (ps.zip us)
def Qr(l:K.lookup f=Fa ⟨.type "function",od,.func (W.fnOf py qual (uj st) (rT st) (qg st) .none kv dc pm an cd ct),sl⟩)(k:W.codeIn K cd qual=pc)(hb:m8 py qual st ps):
  DG K st py qual ps ⟨f,W.fnOf py qual (uj st) (rT st) (qg st) .none kv dc pm an cd ct,ps⟩:=⟨Z',Nr l k (IV l),(Nr l k (IV l)).binds hb,O5 l⟩
def qr(X:K.In h)(G:h.Ns wv mg)(a:W.nsIn K wv py=Fa (Fa (.ref f)))(l:K.lookup f=Fa ⟨.type "function",od,.func (W.fnOf py py (uj st) (rT st) (qg st) .none kv dc pm an cd ct),sl⟩)(k:W.codeIn K cd py=pc)(hb:m8 py py st ps):
  TG K mg st py ps ⟨f,W.fnOf py py (uj st) (rT st) (qg st) .none kv dc pm an cd ct,ps⟩:=⟨Qr l k hb,W.mg_of X G a⟩
def qd(a:W.findIn K (.ref C) py=Fa (Fa (.ref f)))(l:K.lookup f=Fa ⟨.type "function",od,.func (W.fnOf py qual (uj st) (rT st) (qg st) .none kv dc pm an cd ct),sl⟩)(k:W.codeIn K cd qual=pc)(hb:m8 py qual st ps):
  MG K C st py qual ps ⟨f,W.fnOf py qual (uj st) (rT st) (qg st) .none kv dc pm an cd ct,ps⟩:=⟨Qr l k hb,a⟩
def wG(X:K.In h)(G:h.Ns wv mg)(a:W.nsIn K wv py=Fa (Fa (.ref C)))(h1:W.plainGet K C Str.empty=pc)(h2:W.hasDictIn K C=pc)(h3:W.plainOver K C=pc)(h4:W.findIn K (.ref C) "__setattr__"=Fa (Fa (.builtin "object.__setattr__"))):CG K mg py C:=⟨⟨h1,h2,h3,h4⟩,W.mg_of X G a⟩
def Uk(h1:(W.clsIn K C).isSome=pc)(h2:W.findIn K (.ref C) "__getattribute__"=Fa (Fa (.builtin "BaseException.__getattribute__")))(h3:W.findIn K (.ref C) "__getattr__"=Fa Db)(h4:W.findIn K (.ref C) "__class__"=Fa (Fa (.builtin "object.__class__"))) (h5:W.specialIn K (.builtin "object.__class__") "__get__"=Fa (Fa (.builtin "getset_descriptor.__get__"))) (h6:W.takesIn K (.builtin "object.__class__")=Fa pc) (h7:W.mroIn K C (.type "object")=Fa pc) (h8:W.mroIn K C (.type "BaseException")=Fa pc):KR K C:=⟨h1,h2,h3,h4,h5,h6,h7,h8⟩
def PY{x:Str}{a:Uf}{es:T0 DictEntry}{ep:Nat}(h:mg x=Fa (.ref a))(s:(a==IN)=lf)(l:K.lookup a=Fa ⟨.type "dict",Db,.dict es.toArray ep,#[]⟩) (r:KTD.Rows (λ(ss:QQQ) v=>∃t,v=Value.ref t/\vb K (λ_=>Db) t (ss.map V.str)) es T):Nk K mg x T:=⟨a,_,_,_,h,s,l,⟨Z',Z',Z'⟩,Z',by simpa using r⟩
def LX{x qual y1 y2 fl:Str}{st:wE}(F:DG K st x qual [y1,y2] fa)(S:sW [y1,y2] [y1,y2] (qg st)) (hb:∀(WJ:Vl) (A:Ar) (outer:T0 Env) (s:Sd) (H:Hp) (E:XK),B4 (vv (Cs P w) P w K mg base [y1,y2] qual (qg st) fa.f WJ A outer s H E) (rT st) (LB K (Ek 0) (Ek 1) fl)):xw P w K mg base (Cs P w) 1 fa.f fa.d fa.p (wq K fl):=by
 rw[F.pe];exact Nq F.fn S hb
def To(ds:T0 D)(M:Mp)(Q:DK):Prop:=match ds with
 | [.ref a]=>(oC M a).elim False λes=>(GA es).elim False λbs=>Q (.bl (bs.any id)) M
 | _=>False
def Rn(hc:X.calm=pc):C3 X (.builtin "any") To:=by
 intro Wx s Y H vs us Q' I rv h;obtain⟨ds,M,Q,hd,hm,q,k⟩:=h;unfold To at q;split at q
 .rename_i a;obtain⟨v,rfl,hv⟩:=sA hd;obtain⟨es,e0,q⟩:=qZ q;obtain⟨bs,e1,q⟩:=qZ q;cases hv.mG;obtain⟨u,rfl,ru⟩:=yA rv;cases ru;obtain⟨xs,h1,h2,_⟩:=qv hm e0;obtain⟨its,r,pl,hz⟩:=I.list h1;have Zs:=Fz e1 h2 r;subst Zs;have WR:a≠s.heap.objs.size:=by obtain⟨o,_,e,_⟩:=pl;exact dJ (dv e)
  refine call_any_walk (gH pl.isList ?_);refine⟨s.heap.objs.size,_,_,_,_,_,λi=>(bs[i]?).getD lf,Z',kt (A:=X.A.in1) (I.ok.hd hc) _ a WR (bs.map Value.bool).toArray,⟨⟨_,dC _ Z',Z',Z'⟩,?_⟩,λi v s' Q E hP hQ=>?_,λh' tk hk=>?_⟩
  .obtain⟨o,n,e,c,d,q⟩:=pl;exact⟨o,cW _ e,c,n,q⟩
  .simp only[iJ,dq]at hP;cases e2:bs[i]? with
   | none=>rw[e2]at hP;cases hP
   | some b=>rw[e2]at hP;cases hP;have hQ:Q ((bs[i]?).getD lf) s':=hQ;rw[e2]at hQ;exact fk hQ
  .have ea:(List.range (bs.map Value.bool).toArray.size).any (λi=>(bs[i]?).getD lf)=bs.any id:=by
    rw[dg,cQ];rw[gk,gy,gy];constructor
    .rintro ⟨i,hi,z⟩
     have Yw:=gf.mp hi;rw[cS Yw]at z;exact⟨_,gO Yw,z⟩
    .rintro ⟨b,hb,z⟩
     obtain⟨i,hi,e⟩:=gR hb;refine⟨i,gf.mpr hi,?_⟩;rw[cS hi,e];exact z
   rw[ea];refine⟨.bl (bs.any id),H,?_,Z',k _ _ _ _ .bl hm .refl q⟩;exact I.kept (h':=h') (t':=tk) λb o e=>hk b o (by simpa using dJ (dv e)) (cW _ e)
 .exact q.elim
def SO:No "any"=Fa (.builtin "any"):=by decide+kernel
end L3
namespace L2
def JX(a C d:Uf)(h:Go):Prop:=AW λoe vs=>h.get? a=Fa oe/\oe.cls=.ref C/\oe.data=.fields vs/\oe.dict=Fa d
structure OB(K:qx)(C:Uf)(f:Str):Prop where
 ci:KR K C
 hh:W.hasDictIn K C=pc
 tk:W.findIn K (.ref C) f=Fa Db
def LF{h:Go}{d:Uf}{m:QQZ}{f:Str}{u:Vl}(x:h.Ns1 d m)(e:m f=Fa u):∃od,h.get? d=Fa od/\W.lookIn f od=Fa (Fa u):=by obtain⟨o,es,ep,e1,e2,_,_,e3⟩:=x;refine⟨o,e1,?_⟩;have e3:=e3 f;rw[e]at e3;unfold nsFind findBy at e3;rw[<-kU]at e3;obtain⟨en,h1,h2⟩:=iD.mp e3;unfold W.lookIn;rw[e2];dsimp only;rw[h1];exact eJ (λz=>Fa (Fa z)) h2
variable {prog:Pg}{w:Wo}{A:Ar}{E:QQX}{s:Sd}{K:qx}{x C:Uf}{ox od:Obj}{f:Str}{v:Vl}
def K4{tk:Tok}{Q:PySem.Fin->Sd->Prop}(X:K.In s.heap)(I:W.InstAt s.heap x ox C (Fa od))(hf:W.findObj K C (Fa od) f=Fa (.value v))(h:Q (.done (.ret v)) s):pi (Tk prog w) A (Builtin.«object.__getattribute__» {pos:=[.ref x,.str f tk]}) Q E s:=by have L0:=I.type (M:=Tk prog w);unfold Builtin.«object.__getattribute__» slotArgs;refine cR ?_;rw[cV (by simp)];dsimp only;rw[cV (by simp)];refine c9 ?_;dsimp only;refine cR ?_;unfold Builtin.ObjectAttr.attrName;refine c9 (cR (L0.at (cR ((W.looks_find X I hf).at ?_))));exact c9 h
def O6{Zf:Bool}{Q:QQX}(c:OB K C f)(X:K.In s.heap)(I:W.InstAt s.heap x ox C (Fa od))(hl:W.lookIn f od=Fa (Fa v))(hv:W.handedIn v=pc)(h:Q v {s with toks:=s.toks+1}):pi (Tk prog w) A (getAttr (.ref x) f Zf) Q E s:=by have L0:=I.type (M:=Tk prog w);unfold getAttr getAttrBy;refine cR (wpAny_mkText (eB (cR (L0.at (cR ((iY X c.ci.ga).at ?_))))));dsimp only;rw[cV (by simp)];unfold getAttrByItsOwn;refine cR ?_;unfold hookBefore;rw[cX (by rfl)];refine(iY X c.ci.gt).at (cR (kD (eB ?_)));unfold callGetattribute;rw[cV (by simp;intro _;rfl)];unfold boundAndCalled;refine cR ?_;rw[kg.ga.bind (.ref x)];refine c9 ?_;refine iz (iO kg.ga.plain F.entry_bexc_ga (LC c.ci X I.at_ I.cls ?_));exact K4 X I (W.findObj_own c.hh c.tk Z' hl) (W.handed_on hv h)
variable {X:Cx}{e:zn}{pos:Pos}{ta:TE}
noncomputable def Nm:V->Bool
 | .str _=>pc
 | .int _=>pc
 | .bl _=>pc
 | .mL=>pc
 | _=>lf
def FQ{v:V}(r:qL v u)(p:Nm v=pc):W.handedIn u=pc:=by
 cases v<;>first
  | (cases r;rfl)
  | (obtain⟨t,rfl⟩:=r;rfl)
  | cases p
def Nw(K:qx)(ta:TE)(f:Str):TE:=λY H Q=>ta Y H λx H1=>BE λa C d v=>x=.ref a/\H1 a=Fa (.ext (JX a C d))/\H1 d=Fa (.ext (NF d f v))/\OB K C f/\Nm v=pc/\Q v H1
def Qe(he:PE X e ta)(hb:At e f X.env (wp e X.env)=wp e X.env):PE X (.Attribute e f pos) (Nw X.K ta f):=by intro Wx s Y H Q I h;refine JA hb (sG (he Wx s Y H _ I h) λu s1 zz=>?_);obtain⟨x,H1,I1,rx,a,C,d,v,ex,ea,ed,c,p,q⟩:=zz;subst ex;obtain rfl:u=Value.ref a:=rx;obtain⟨⟨oe,vs,e1,e2,e3,e4⟩,_,_⟩:=I1.mQ a _ ea;obtain⟨⟨u,n1,r⟩,_,_⟩:=I1.mQ d _ ed;obtain⟨od,g1,g2⟩:=LF n1 (cX Z');exact O6 (ox:=oe) c I1.nA ⟨e1,e2,by unfold W.notCls;rw[e3],by rw[e4];exact g1⟩ g2 (FQ r p) ⟨v,H1,I1.tok _,r,q⟩
def OZ{a C d:Uf}(x:JX a C d h):sV P w H h a (.ext (JX a C d)):=by refine⟨x,?_,λh1 h2 ⟨oe,vs,e1,e2,e3,e4⟩ k=>⟨oe,vs,k oe e1,e2,e3,e4⟩⟩;obtain⟨oe,_,e,_⟩:=x;exact⟨oe,e⟩
def OW{st b₀:wE}{XZ:T0 wE}{cn n:Str}{cnp X7 pos:Pos}{Cc L:Uf}{outer:T0 Env}{i:Nat}{t:ES->St->Hp->(Hp->Prop)->XK->Prop}(hb:Wa X st t)(WT:X.stack=X.env::outer)(hL:X.env.frame=Fa L)(hg:Gl X cn)(hm:X.mg cn=Fa (.ref Cc)) (hN:X.N.Nodup) (hi:X.N[i]?=Fa n) (hk:X.env.scope.names.lookup n=Fa .local) (hs:∀ev E',B4 (X.marked ev E') (b₀::XZ) th) (WQ:zI cn:=by decide):
  PS X (.Try [st] [.ExceptHandler (Fa (.Name cn cnp)) (Fa n) (b₀::XZ) X7] [] [] pos) (λD Y H=>∃(J:Hp->Prop) (E:XK),t D Y H J E/\∀C dx H1 H',J H1->TKept H1 H'->E (.ref C) dx H'->∃d,dx=Fa d/\W.exmOne X.K (.ref C) (.ref Cc)=Fa pc/\
   ∀a,H' a=Db->th {nx:=λσ' H2=>D.nx (σ'.set i Db) H2,rt:=D.rt,bk:=λσ' H2=>D.bk (σ'.set i Db) H2,ct:=λσ' H2=>D.ct (σ'.set i Db) H2} (Y.set i (Fa (.ref a))) (upd H' a (.ext (JX a C d)))):=by
 intro Wx s Y H D I ⟨J,E,h,hh⟩;refine wpAny_Try_except (d9 (Q:=λf s'=>SP X Wx D f s') (jC (sG (hb Wx s Y H D J E I h) λf s1 q=>?_)) (λf s1 q=>?_) λev s1 x=>?_)
 .cases f with
  | next=>exact gY q
  | brk=>exact q
  | cont=>exact q
  | ret v=>exact q
 .cases f with
  | next=>exact gY q
  | brk=>exact q
  | cont=>exact q
  | ret v=>exact q
 .refine d9 (SS x WT hL) (λ_ s2 y=>sG y λ_ s3 z=>?_) λ_ _ z=>z;obtain⟨a,C,dx,H',tb,H1,s1,rfl,q,I3,x3,na,nt,jH,tk,I1,n1⟩:=z;obtain⟨d,rfl,Wz,h1⟩:=hh C dx H1 H' jH tk q;refine wpAny_handleBy_cons (codeAny_handlers_test (wN (X:=X.marked (.ref a) λ_ _=>False) I3.mark hg hm ?_ WQ)) (by intro z;cases z);obtain⟨oe,vs,ho,hc,Yp,hd,_⟩:=id x3;refine W.exm_one I3.nA (BR ho) (by rw[hc];exact Wz) _ _ _ _ (λ_ _ z=>z) ?_;refine codeAny_handlers_suite_as (F0 x3 λh' hh'=>?_);have I4:Inv X Wx Y H' {s3 with heap:=h'}:=I3.kept (t':=s3.toks) λb u z=>by rw[hh' b];exact z
  have I5:Inv X Wx Y (upd H' a (.ext (JX a C d))) {s3 with heap:=h'}:=I4.adopt I1 n1 na (OZ ⟨oe,vs,by show h'.get? a=_;rw[hh' a];exact ho,hc,hd,Yp⟩);refine xP (v:=.ref a) I5 hN hi (.inl hk) Z' (λs6 I6=>?_) (.inr hk);refine d9 (hs (.ref a) _ Wx _ _ _ _ I6.mark (h1 a na)) (λf s7 q7=>?_) λ_ _ z=>z;have q7:=SP.unmark I.ok q7;cases f with
  | next=>obtain⟨σ',H2,I7,q⟩:=q7;exact ym I7 hN hi hk λs8 I8=>⟨_,H2,I8,q⟩
  | brk=>obtain⟨σ',H2,I7,q⟩:=q7;exact ym I7 hN hi hk λs8 I8=>⟨_,H2,I8,q⟩
  | cont=>obtain⟨σ',H2,I7,q⟩:=q7;exact ym I7 hN hi hk λs8 I8=>⟨_,H2,I8,q⟩
  | ret v=>obtain⟨y,σ',H2,I7,r,q⟩:=q7;exact ym I7 hN hi hk λs8 I8=>⟨y,_,H2,I8,r,q⟩
end L2
namespace L3
open L2
variable {X:Cx}{cn n x:Str}{e:zn}{cnp X7 pos WB Zx p1 p2 p3 p4:Pos}{Cc L:Uf}{outer:T0 Env}{i ix:Nat}{te:SZ}{fl:Str}
def UC(K:qx)(ix i:Nat)(Cc:Uf)(fl:Str)(te:SZ):xS:=λD U M=>∃R,te U M (λd M1=>D.nx (U.set ix (Fa d)) M1) R/\∀C y M',R C y M'->W.exmOne K (.ref C) (.ref Cc)=Fa pc/\OB K C fl/\∃z,y=Fa (fl,.str z)/\D.nx ((U.set ix (Fa (.str z))).set i Db) M'
def O8(he:Wf X e te)(WT:X.stack=X.env::outer)(hL:X.env.frame=Fa L)(hg:Gl X cn)(hm:X.mg cn=Fa (.ref Cc))(hN:X.N.Nodup)(YK:X.N[ix]?=Fa x)(hx:X.env.scope.names.lookup x=Fa .local)(hi:X.N[i]?=Fa n)(hk:X.env.scope.names.lookup n=Fa .local)(WR:ix≠i) (hd:zI n:=by decide) (Xx:(n==("__classdict__":Str))=lf:=by decide) (hab:At (.Name n p2) fl X.env (wp (.Name n p2) X.env)=wp (.Name n p2) X.env:=by rfl) (hsw2:ZB (.Attribute (.Name n p2) fl p3) (Fa (.Name x p1)) p4.line X.env=pure lf:=by rfl)
  (WQ:zI cn:=by decide) (X4:ZB e (Fa (.Name x Zx)) WB.line X.env=pure lf:=by rfl):
  S3 X (.Try [.Assign [.Name x Zx] e WB] [.ExceptHandler (Fa (.Name cn cnp)) (Fa n) [.Assign [.Name x p1] (.Attribute (.Name n p2) fl p3) p4] X7] [] [] pos) (UC X.K ix i Cc fl te):=
 PS.nO (OW (th:=Os (Nw X.K (Ek i) fl) (IY ix)) (Og hN YK (.inl hx) he X4 (.inr hx)) WT hL hg hm hN hi hk (λev E'=>Fw (K9 (X:=X.marked ev E') (te:=Nw X.K (Ek i) fl) hN YK (.inl hx) (Qe (X:=X.marked ev E') (Lk (X:=X.marked ev E') hi (.inl hk) hd Xx) hab) hsw2 (.inr hx))) WQ) λD' Y H hl ⟨U,M,D,hs,hm,⟨R,ht,hh⟩,k1,k2,k3,k4⟩=>by
  refine⟨λH1=>qQ X.K H H1,λcv d H'=>∃C M' y,cv=.ref C/\HM X.K H' M'/\Ua X.K H' d y/\R C y M',⟨U,M,_,R,hs,hm,ht,λv H1 d M1 hd Wz e1 q1=>?_,λ_ z=>z,λC dx H' M' y h1 h0 h2=>⟨C,M',y,Z',h1,h0,h2⟩⟩,λC dx H1 H' jH tk ⟨C',M',y,ec,X6,Yp,r⟩=>?_⟩
  .exact k1 _ H1 _ M1 ((hs.mono e1).set hd (by rw[hl];exact(cU.mp YK).1)) Wz e1 (by simp) q1
  .cases ec;obtain⟨r1,c,z,ey,q⟩:=hh C y M' r;rcases Yp with⟨_,z⟩|⟨d,f,z',v,ed,ez,hd,hv⟩
   .rw[ey]at z;cases z
   .rw[ey]at ez;cases ez;have hiσ:i<Y.length:=by rw[hl];exact(cU.mp hi).1
    refine⟨d,ed,r1,λa na=>⟨.ref a,by rw[eI hiσ],a,C,d,v,Z',qh,?_,c,?_,?_⟩⟩
    .rw[pZ]
     .exact hd
     .intro z;rw[z,na]at hd;cases hd
    .rw[hv.str_inv];rfl
    .have e1:qQ X.K H H':=jH.trans (L2.TKept.ext tk);have e2:qQ X.K H' (upd H' a (.ext (JX a C d))):=.new na;have s1:=(hs.mono (e1.trans e2)).set (i:=ix) (hv.mono e2) (by rw[hl];exact(cU.mp YK).1);have s2:=s1.unset (i:=i);refine k1 _ _ _ M' ?_ (X6.add na) (e1.trans e2) (by simp) q;rw[List.set_comm _ _ WR.symm,iS];exact s2
end L3
namespace L2
variable {prog:Pg}{w:Wo}{A:Ar}{E:QQX}{s:Sd}
theorem D7{it t:Uf}{Wy:Array Vl}(WR:t≠it):∀(n i:Nat) (s:Sd) (Q:T0 Vl->Sd->Prop),s.heap.IsListIter it t i->s.heap.IsList t Wy->i+n<=Wy.size->
  (∀h',h'.IsListIter it t (i+n)->Heap.SameBut it s.heap h'->Q ((Wy.toList.drop i).take n) {s with heap:=h'})->pi (Tk prog w) A (draw (.ref it) n) Q E s
 | 0,i,s,Q,hit,_,_,hQ=>by show pi _ _ (pure []) Q E s;exact c9 (by simpa using hQ s.heap hit (Heap.SameBut.refl ..))
 | n+1,i,s,Q,hit,ht,Zy,hQ=>by
  have WL:i<Wy.size:=by lia
  show pi _ _ (pyNext (.ref it)>>=_) Q E s;refine cR (j3 hit ht (x:=Wy[i]) (by simp[WL]) λh₁ Zz hs₁=>?_);refine cR (eB (D7 WR n (i+1) _ _ Zz (ht.extBut hs₁.extBut WR) (by lia) λh₂ hit₂ hs₂=>c9 ?_));have hd:Wy.toList.drop i=Wy[i]::Wy.toList.drop (i+1):=by simp[gi,WL]
  have:=hQ h₂ (by rw[show i+(n+1)=i+1+n by lia];exact hit₂) (hs₁.trans hs₂);rw[hd,List.take_succ_cons]at this;exact this
def zU{t:Uf}{Wy:Array Vl}{Q:T0 Vl->Sd->Prop}(hh:A.handled=Db)(ht:s.heap.IsList t Wy) (hQ:∀h',Heap.ExtBut s.heap.objs.size s.heap h'->Q Wy.toList {s with heap:=h'}):pi (Tk prog w) A (unpackItems (.ref t) Wy.size Db) Q E s:=by
 have WL:t≠s.heap.objs.size:=by obtain⟨o,ho,_⟩:=ht;exact dJ (dv ho)
 unfold unpackItems;refine cR ?_
 .unfold notIterableAtAll;refine cR (iP ht.typeIs slot_list_iter.lookup ?_);refine c9 ?_;simp only[lh,ko];refine cR (eB (gH ht ?_));refine cR (eB (D7 WL Wy.size 0 _ _ ⟨_,dC _ Z',Z',Z'⟩ (ht.push _) (by lia) λh₁ Zz hs₁=>?_));have Xe:List.take Wy.size (List.drop 0 Wy.toList)=Wy.toList:=by rw[jb];exact hZ (by simp)
  rw[Xe];rw[cV (by simp)];have ht₁:h₁.IsList t Wy:=(ht.push _).extBut hs₁.extBut WL;refine cR (eB (j7 hh Zz ht₁ (by simp) λh₂ he₂=>?_));simp only[Option.isSome_none,lh,ko];refine c9 (hQ h₂ λb o hb e=>he₂ b o hb (hs₁.extBut b o hb (cW _ e)))
def zG{env:Env}{WX:T0 zn}{x1}{pos:Pos}{t:Uf}{Wy:Array Vl}{Q:Unit->Sd->Prop}(hh:A.handled=Db)(ht:s.heap.IsList t Wy) (hn:(Rs WX env).length=Wy.size) (hstar:(Rs WX env).findIdx? (·.1)=Db) (h:∀h',Heap.ExtBut s.heap.objs.size s.heap h'->pi (Tk prog w) A (assignInOrder ((Rs WX env).map (·.2)) Wy.toList) Q E {s with heap:=h'}):
  pi (Tk prog w) A (assign (.Tuple WX x1 pos) env (.ref t)) Q E s:=by
 rw[arm_assign_Tuple];refine cR (gX ?_);unfold unpack;rw[hn,hstar];exact cR (eB (zU hh ht h))
end L2
namespace L3
open L2
variable {X:Cx}{pos:Pos}
def Rq(n:Nat)(t:Di):Dj:=λd U M Q=>match d with|.ref a=>(oC M a).elim False λds=>ds.length=n/\t ds U M Q|_=>False
def NM{t:Di}{n:Nat}(hc:X.calm=pc)(h:Ta X es t)(hn:(Rs es X.env).length=n:=by rfl)(WT:(Rs es X.env).findIdx? (·.1)=Db:=by rfl):G3 X (.Tuple es k pos) (Rq n t):=by
 intro Wx s Y H v u Q' I r ⟨d,U,M,Q,hd,hs,hm,ht,kq⟩;cases d with
 | ref a=>
  obtain⟨ds,e,hl,ht⟩:=qZ ht;cases hd.mG;cases r;obtain⟨xs,h1,h2,_⟩:=qv hm e;obtain⟨its,rv,pl,hz⟩:=I.list h1;have hx:xs.length=n:=by rw[<-hl];exact h2.length.symm
  refine zG (I.ok.hd hc) pl.isList (by simp[hn,<-hx,rv.length]) WT λh' hx=>?_;have I1:Inv X Wx Y H {s with heap:=h'}:=I.kept (t':=s.toks) λb o e=>hx b o (dJ (dv e)) e;exact h Wx _ Y H xs _ Q' I1 (by simpa using rv) ⟨ds,U,M,Q,h2,hs,hm,ht,kq⟩
 | _=>exact ht.elim
end L3
namespace L3
open L2
def NE(i:Nat){X:Cx}{pos:Pos}{x:Str}(h1:X.N[i]?=Fa x:=by rfl)(h2:R5 X.env.scope x:=by first|exact Or.inl Z'|exact Or.inr (Or.inl Z')|exact Or.inr (Or.inr Z'))(h3:zI x:=by decide)(h4:(x==("__classdict__":Str))=lf:=by decide):E3 X (.Name x pos) (v3 i):=Q3 i (pv i h1 h2 h3 h4)
variable {X:Cx}{pos:Pos}
def Wt{N:QQQ}(h:decide N.Nodup=pc):N.Nodup:=fL h
def pO(i:Nat){x:Str}{e:zn}{te:T3}{WI:Pos}{ps:QQQ}{sc:wS}(S:sW X.N ps sc)(he:E3 X e te)(hi:X.N[i]?=Fa x:=by rfl)(hx:KI X.env.scope x:=by first|exact Or.inl Z'|exact Or.inr Z')(X4:ZB e (Fa (.Name x WI)) pos.line X.env=pure lf:=by rfl)(hf:KJ X x:=by first|exact .inl Z'|exact .inr Z'|assumption):S3 X (.Assign [.Name x WI] e pos) (Gb te (sF i)):=Q6 S.nd hi hx he X4 hf
def rD(i:Nat){x:Str}{ps:QQQ}{sc:wS}(S:sW X.N ps sc)(hi:X.N[i]?=Fa x:=by rfl)(hx:KI X.env.scope x:=by first|exact Or.inl Z'|exact Or.inr Z')(hf:KJ X x:=by first|exact .inl Z'|exact .inr Z'|assumption):G3 X (.Name x pos) (sF i):=IS S.nd hi hx hf
def qA(i:Nat){x:Str}(hN:decide X.N.Nodup=pc:=by kernel_rfl)(hi:X.N[i]?=Fa x:=by rfl)(hx:KI X.env.scope x:=by first|exact Or.inl Z'|exact Or.inr Z')(hf:KJ X x:=by first|exact .inl Z'|exact .inr Z'|assumption):G3 X (.Name x pos) (sF i):=IS (Wt hN) hi hx hf
abbrev Sc(n:Nat)(N:QQQ)(s:wE):=sW N (N.take n) (qg s)
def sk{n:Nat}{s:wE}(h:Rb N (N.take n) (qg s)=pc:=by decide+kernel):Sc n N s:=Wu h
def ql(h0:E3 X e0 t0)(g0:Tl [e0] X.env=(lf,wp e0 X.env)::Tl [] X.env:=by rfl):A3 X [e0] (uS t0 xk):=(pY h0 sL g0)
def r6(h0:E3 X e0 t0)(h1:E3 X e1 t1)(g0:Tl [e0,e1] X.env=(lf,wp e0 X.env)::Tl [e1] X.env:=by rfl)(g1:Tl [e1] X.env=(lf,wp e1 X.env)::Tl [] X.env:=by rfl):A3 X [e0,e1] (uS t0 (uS t1 xk)):=(pY h0 (pY h1 sL g1) g0)
def rk(h0:E3 X e0 t0)(h1:E3 X e1 t1)(h2:E3 X e2 t2)(g0:Tl [e0,e1,e2] X.env=(lf,wp e0 X.env)::Tl [e1,e2] X.env:=by rfl)(g1:Tl [e1,e2] X.env=(lf,wp e1 X.env)::Tl [e2] X.env:=by rfl)(g2:Tl [e2] X.env=(lf,wp e2 X.env)::Tl [] X.env:=by rfl):A3 X [e0,e1,e2] (uS t0 (uS t1 (uS t2 xk))):=(pY h0 (pY h1 (pY h2 sL g2) g1) g0)
abbrev v0:=@NE 0
abbrev U1:=@NE 1
abbrev U2:=@NE 2
abbrev U3:=@NE 3
abbrev v5:=@NE 5
abbrev v4:=@NE 4
abbrev v6:=@NE 6
abbrev v7:=@NE 7
abbrev v8:=@NE 8
abbrev v9:=@NE 9
variable {P:Pg}{w:Wo}{K:qx}{mg:QQZ}{base:Go}
def fq{st:wE}{sp:rj}(F:DG K st x qual ps fa)(S:sW N ps (qg st)) (hb:∀{WJ:Vl} {A:Ar} {outer:T0 Env} {s:Sd} {H:Hp} {E:XK},rZ k (A.deeper (ZJ qual (qg st) s.heap.objs.size fa.f WJ))->(A.deeper (ZJ qual (qg st) s.heap.objs.size fa.f WJ)).units+9<ZP->
   ∃t,Hg (vv NG P w K mg base N qual (qg st) fa.f WJ A outer s H E).oy (rT st) t/\∀ds M Q,sp ds M Q->t {nx:=λ_ M'=>∃WA,qG WA M'/\Q .mL WA,rt:=λd M'=>∃WA,qG WA M'/\Q d WA} (wR N ds) M) (len:∀ds M Q,sp ds M Q->ds.length=ps.length:=by walk_at "l"):Fq P w K mg base (k+1) fa sp:=VE F S len λ_ _ _ _ _ _ h=>hb h (V7 h)
def xu{X:Cx}(h:HP X.env.scope X.N scope ix N'=pc:=by kernel_rfl):sm X scope ix N':=TZ h
end L3
namespace Z
section
open L2 L3
def vX{M:L3.Mp}{x:PySem.Addr}{ds:T0 L3.D}(h:M x=Db):∃M',M'=L3.pI M x (.lst ds)/\qG M M'/\L3.oC M' x=Fa ds:=⟨_,Z',qG.new h,L3.pM⟩
def qX(i:Nat):wE:=PySem.Challenge.pw_callboard_k45_whole_stories_of_calls.main.body.getD i (.Pass ⟨0,0,0,0⟩)
abbrev tm(i j:Nat):wE:=NI (qX i) j
def CO:Sc 3 ["board","caller","target","wishes"] (qX 5):=sk
def tD:Sc 3 ["board","caller","target","free","members","place","in_turn"] (qX 6):=sk
def uX:Sc 3 ["board","caller","target","phones"] (qX 7):=sk
def zT:Sc 2 ["wanted","target"] (qX 8):=sk
def wB:Sc 4 ["board","caller","target","way","come_to","steps","fits","wanted"] (qX 9):=sk
def yH:Sc 2 ["board","phone"] (qX 11):=sk
def wC:Sc 3 ["board","phone","target","word"] (qX 12):=sk
def Mh:Sc 3 ["word","phone","calls"] (qX 13):=sk
def tR:Sc 4 ["board","word","phone","numbers","calls","due"] (qX 14):=sk
def yE:Sc 3 ["board","word","number"] (qX 15):=sk
def Cu:Sc 2 ["board","deed","word"] (qX 16):=sk
def tT:Sc 3 ["board","number","steps","last","target","fits"] (qX 17):=sk
def uG:Sc 4 ["board","number","target","phones","members","place"] (qX 18):=sk
def xA:Sc 3 ["board","number","target","talk","members"] (qX 19):=sk
def xO:Sc 3 ["board","number","end","word"] (qX 20):=sk
def wm:Sc 2 ["board","number","call","told","end","steps","last"] (qX 21):=sk
def zi:Sc 3 ["board","phone","target","number"] (qX 22):=sk
def CH:Sc 3 ["board","phone","number","call"] (qX 23):=sk
def yB:Sc 2 ["board","call","wishes"] (qX 24):=sk
def Cg:Sc 3 ["board","number","fits","wish"] (qX 25):=sk
def tH:Sc 1 ["board","number","call","fits"] (qX 26):=sk
def tz:Sc 2 ["board","deed","word","phone","number","call","kept","others"] (qX 27):=sk
def LW:Sc 2 ["board","deed","word"] (qX 28):=sk
def HZ:Sc 2 ["board","deed","word","begun"] (qX 29):=sk
def An:Sc 1 ["answers"] (qX 31):=sk
def GL:Sc 2 ["call","word"] (qX 33):=sk
def CV:Sc 2 ["call","phone"] (qX 34):=sk
def xN:Sc 2 ["call","event","word"] (qX 35):=sk
def Hx:Sc 3 ["board","caller","target"] (qX 38):=sk
def Ce:Sc 1 ["told","word"] (qX 49):=sk
def OM:Sc 2 ["holds","words"] (qX 64):=sk
def Hz:Sc 1 ["text"] (qX 65):=sk
def Dv:Sc 1 ["things"] (qX 66):=sk
def E6:Sc 3 ["chosen","known","most"] (qX 67):=sk
def tY:Sc 1 ["phones","name","lines","rank"] (qX 68):=sk
def uc:Sc 2 ["groups","phone_names","name","manner","members"] (qX 69):=sk
def Dn:Sc 4 ["kind","part","phone_names","names"] (qX 70):=sk
def tV:Sc 3 ["wish","phone_names","names","form","parts","kind","part"] (qX 71):=sk
def uT:Sc 3 ["wishes","phone_names","names","on","wish"] (qX 72):=sk
def vW:Sc 3 ["phones","groups","wishes","phone_names","names"] (qX 73):=sk
def Kv:Sc 2 ["_law_script","_law_k"] (qX 76):=sk
def GM:Sc 3 ["_law_cell","_law_factor","_law_many"] (qX 77):=sk
def uh:Sc 2 ["_law_seed","_law_which","_law_letters","_law_size","_law_place","_law_rest","_law_letter"] (qX 78):=sk
def xM:Sc 3 ["_law_row","_law_cell","_law_most","_law_first","_law_size"] (qX 79):=sk
def uJ:Sc 2 ["_law_seed","_law_most","_law_phones_here","_law_k","_law_lines"] (qX 80):=sk
def uK:Sc 2 ["_law_seed","_law_own","_law_groups_here","_law_g","_law_manner"] (qX 81):=sk
def sZ:Sc 3 ["_law_cell","_law_own","_law_names_here","_law_a","_law_place","_law_b","_law_c","_law_pick","_law_first"] (qX 82):=sk
def sv:Sc 2 ["_law_script","_law_most","_law_seed","_law_phones_here","_law_own","_law_groups_here","_law_names_here","_law_wishes","_law_k","_law_cell"] (qX 83):=sk
def C8:Sc 1 ["_law_call"] (qX 84):=sk
def A7:Sc 2 ["_law_board","_law_states"] (qX 85):=sk
def rH:Sc 4 ["_law_board","_law_cell","_law_word_here","_law_states","_law_some_here","_law_k","_law_people_here","_law_a","_law_m"] (qX 86):=sk
def uF:Sc 4 ["_law_cell","_law_own","_law_names_here","_law_many","_law_a","_law_b","_law_k","_law_m","_law_some_here"] (qX 87):=sk
def rJ:Sc 4 ["_law_board","_law_cell","_law_own","_law_names_here","_law_word_here","_law_states","_law_found","_law_a"] (qX 88):=sk
def vS:Sc 2 ["_law_script","_law_most","_law_phones_here","_law_groups_here","_law_wishes"] (qX 89):=sk
def zx:Sc 1 ["_law_board","_law_own"] (qX 90):=sk
def xB:Sc 2 ["_law_board","_law_deed_here","_law_told","e"] (qX 91):=sk
def FW:Sc 2 ["_law_state","_law_word_here"] (qX 92):=sk
def Ej:Sc 2 ["_law_state","_law_word_here"] (qX 93):=sk
def yF:Sc 2 ["_law_events","_law_caller","_law_way_here","_law_froms"] (qX 94):=sk
def vd:Sc 1 ["_law_events","_law_state","_law_event"] (qX 95):=sk
def xD:Sc 1 ["_law_script","_law_board","_law_own","_law_names_here","_law_cell","_law_stories","_law_event","_law_k"] (qX 96):=sk
def Cv:Sc 2 ["self","word"] (tm 3 0):=sk
def C5:Sc 3 ["self","plan","hour"] (tm 36 0):=sk
def FI:Sc 4 ["self","phones","groups","wishes"] (tm 74 0):=sk
def Ae:Sc 2 ["self","phone"] (tm 36 3):=sk
def GZ:Sc 2 ["self","told"] (tm 40 0):=sk
def ER:Sc 2 ["self","told"] (tm 41 0):=sk
def A6:Sc 2 ["self","told"] (tm 42 0):=sk
def CW:Sc 2 ["self","told"] (tm 44 0):=sk
def CF:Sc 2 ["self","told"] (tm 46 0):=sk
def FN:Sc 2 ["self","told"] (tm 47 0):=sk
def BF:Sc 2 ["self","told"] (tm 48 0):=sk
def yx:Sc 1 ["self"] (tm 74 2):=sk
def xV:Sc 2 ["self","event","word"] (tm 36 12):=sk
def Fs:Sc 2 ["self","told"] (tm 39 0):=sk
def CY:Sc 1 ["self"] (tm 74 1):=sk
def zW:Sc 2 ["self","phone"] (tm 36 2):=sk
def Fg:Sc 2 ["self","caller"] (tm 32 0):=sk
def yK:Sc 2 ["self","phone"] (tm 32 2):=sk
def yX:Sc 2 ["self","phone"] (tm 32 5):=sk
def yt:Sc 2 ["self","phone"] (tm 32 4):=sk
def Af:Sc 2 ["self","leg"] (tm 36 10):=sk
def ya:Sc 4 ["self","merged","kept","members","call"] (tm 36 11):=sk
def vq:Sc 1 ["self","call"] (tm 36 9):=sk
def yW:Sc 2 ["self","phone"] (tm 32 8):=sk
def Cr:Sc 2 ["self","phone"] (tm 36 4):=sk
def Ag:Sc 2 ["self","phone"] (tm 36 5):=sk
def Dh:Sc 2 ["self","phone"] (tm 36 1):=sk
def Dd:Sc 2 ["self","phone"] (tm 74 3):=sk
def xf:Sc 2 ["self","phone"] (tm 32 7):=sk
def C0:Sc 2 ["self","phone"] (tm 32 6):=sk
def Cp:Sc 2 ["self","call"] (tm 39 4):=sk
def Aj:Sc 2 ["self","call"] (tm 46 2):=sk
def Fe:Sc 1 ["self"] (tm 39 1):=sk
def Dq:Sc 2 ["self","phone"] (tm 32 3):=sk
def GY:Sc 2 ["self","phone"] (tm 32 1):=sk
def EH:Sc 1 ["self"] (tm 40 1):=sk
def C6:Sc 1 ["self"] (tm 41 1):=sk
def Ab:Sc 1 ["self"] (tm 42 1):=sk
def Dc:Sc 1 ["self"] (tm 47 1):=sk
def Bf:Sc 1 ["self"] (tm 48 1):=sk
def GV:Sc 4 ["self","board","caller","target"] (tm 40 2):=sk
def ED:Sc 4 ["self","board","caller","target"] (tm 41 2):=sk
def B0:Sc 4 ["self","board","caller","target"] (tm 43 0):=sk
def Dt:Sc 4 ["self","board","caller","target"] (tm 44 2):=sk
def Ee:Sc 4 ["self","board","caller","target"] (tm 45 0):=sk
def Co:Sc 4 ["self","board","caller","target"] (tm 46 1):=sk
def Et:Sc 4 ["self","board","caller","target"] (tm 47 2):=sk
def vi:Sc 4 ["self","board","caller","target","talk","members"] (tm 48 3):=sk
def CP:Sc 2 ["self","name"] (tm 74 6):=sk
def zo:Sc 2 ["self","name"] (tm 74 5):=sk
def zk:Sc 2 ["self","hour"] (tm 44 1):=sk
def zD:Sc 1 ["self"] (tm 36 8):=sk
def zt:Sc 2 ["self","phone"] (tm 36 6):=sk
def vg:Sc 3 ["self","plan","members","rank"] (tm 48 2):=sk
def zM:Sc 3 ["self","caller","target"] (tm 36 7):=sk
def Ez:Sc 2 ["self","phone"] (tm 74 4):=sk
noncomputable def J1:T0 (Str×QQQ):=[("bar",["phone","names"]),("shut",["name","phones"]),("always",["name","name"]),("night",["name","name","hour","hour"]),("busy",["name","name"]),("silent",["name","name","turns"]),("wait",["phone"]),("breaks",["phone"])]
set_option genInjectivity false in
structure Ad where
 (aN aO aP aQ aR aa aS aT aU aV aW aX aY aZ a0 ab a1 a2 a3 a4 a5 a6 a7 J L ac a8 a9 M ba m ad ae N bb bc bd be bf bg O i af P bh bi bj bk bl bm bn bo bp bq br bs bt bu bv bw ag H ah ai Q aj ak A al am an ao R k E bx S ap T aq U bz bA bB ar bC bD bE bF bG au q av l bH bI aw ax z ay az aA aB aC aD aE aF aG aH aI V bJ bK bL bM aJ aK:FA)
 (e c B r t X w n x u v o h b2 F:Uf)
structure Gl(K:qx)(mg:QQZ)(a:Ad):Prop where
 e:CG K mg "Call" a.e
 c:CG K mg "Board" a.c
 B:CG K mg "Wish" a.B
 r:CG K mg "Bar" a.r
 t:CG K mg "Shut" a.t
 X:CG K mg "Forward" a.X
 w:CG K mg "Always" a.w
 n:CG K mg "Night" a.n
 x:CG K mg "Busy" a.x
 u:CG K mg "Silent" a.u
 v:CG K mg "Wait" a.v
 o:CG K mg "Breaks" a.o
 h:CG K mg "Plan" a.h
 cP:mg "CallError"=Fa (.ref a.b2)
 bW:mg "NoDeed"=Fa (.ref a.F)
 aN:TG K mg (qX 5) "fitting" ["board","caller","target"] a.aN
 aO:TG K mg (qX 6) "rung_phones" ["board","caller","target"] a.aO
 aP:TG K mg (qX 7) "end_without_wish" ["board","caller","target"] a.aP
 aQ:TG K mg (qX 8) "end_as_wanted" ["wanted","target"] a.aQ
 aR:TG K mg (qX 9) "route" ["board","caller","target","way"] a.aR
 aa:TG K mg (qX 11) "word_for_idling" ["board","phone"] a.aa
 aS:TG K mg (qX 12) "word_for_call" ["board","phone","target"] a.aS
 aT:TG K mg (qX 13) "suits" ["word","phone","calls"] a.aT
 aU:TG K mg (qX 14) "word_for_numbers" ["board","word","phone","numbers"] a.aU
 aV:TG K mg (qX 15) "word_for_switch" ["board","word","number"] a.aV
 aW:TG K mg (qX 16) "refusal" ["board","deed"] a.aW
 aX:TG K mg (qX 17) "take_steps" ["board","number","steps"] a.aX
 aY:TG K mg (qX 18) "start_ringing" ["board","number","target","phones"] a.aY
 aZ:TG K mg (qX 19) "break_in" ["board","number","target"] a.aZ
 a0:TG K mg (qX 20) "come_to_end" ["board","number","end"] a.a0
 ab:TG K mg (qX 21) "go_on" ["board","number"] a.ab
 a1:TG K mg (qX 22) "make_call" ["board","phone","target"] a.a1
 a2:TG K mg (qX 23) "hang_up" ["board","phone","number"] a.a2
 a3:TG K mg (qX 24) "due_wishes" ["board","call"] a.a3
 a4:TG K mg (qX 25) "send_on" ["board","number","fits"] a.a4
 a5:TG K mg (qX 26) "let_turn_pass" ["board"] a.a5
 a6:TG K mg (qX 27) "event_of" ["board","deed"] a.a6
 a7:TG K mg (qX 28) "act" ["board","deed"] a.a7
 J:TG K mg (qX 29) "do" ["board","deed"] a.J
 L:TG K mg (qX 31) "place_of_true" ["answers"] a.L
 ac:TG K mg (qX 33) "end_call" ["call","word"] a.ac
 a8:TG K mg (qX 34) "drop_phone" ["call","phone"] a.a8
 a9:TG K mg (qX 35) "change_call" ["call","event"] a.a9
 M:TG K mg (qX 38) "is_busy" ["board","caller","target"] a.M
 ba:TG K mg (qX 49) "wish_of" ["told"] a.ba
 m:TG K mg (qX 64) "need" ["holds","words"] a.m
 ad:TG K mg (qX 65) "is_name" ["text"] a.ad
 ae:TG K mg (qX 66) "all_unlike" ["things"] a.ae
 N:TG K mg (qX 67) "is_choice" ["chosen","known","most"] a.N
 bb:TG K mg (qX 68) "check_phones" ["phones"] a.bb
 bc:TG K mg (qX 69) "check_groups" ["groups","phone_names"] a.bc
 bd:TG K mg (qX 70) "part_holds" ["kind","part","phone_names","names"] a.bd
 be:TG K mg (qX 71) "check_wish" ["wish","phone_names","names"] a.be
 bf:TG K mg (qX 72) "check_wishes" ["wishes","phone_names","names"] a.bf
 bg:TG K mg (qX 73) "check_plan" ["phones","groups","wishes"] a.bg
 O:TG K mg (qX 76) "_law_at" ["_law_script","_law_k"] a.O
 i:TG K mg (qX 77) "_law_draw" ["_law_cell","_law_factor","_law_many"] a.i
 af:TG K mg (qX 78) "_law_word" ["_law_seed","_law_which"] a.af
 P:TG K mg (qX 79) "_law_some" ["_law_row","_law_cell","_law_most"] a.P
 bh:TG K mg (qX 80) "_law_phones" ["_law_seed","_law_most"] a.bh
 bi:TG K mg (qX 81) "_law_groups" ["_law_seed","_law_own"] a.bi
 bj:TG K mg (qX 82) "_law_wish" ["_law_cell","_law_own","_law_names_here"] a.bj
 bk:TG K mg (qX 83) "_law_plan" ["_law_script","_law_most"] a.bk
 bl:TG K mg (qX 84) "_law_people" ["_law_call"] a.bl
 bm:TG K mg (qX 85) "_law_of_state" ["_law_board","_law_states"] a.bm
 bn:TG K mg (qX 86) "_law_on_call" ["_law_board","_law_cell","_law_word_here","_law_states"] a.bn
 bo:TG K mg (qX 87) "_law_any" ["_law_cell","_law_own","_law_names_here","_law_many"] a.bo
 bp:TG K mg (qX 88) "_law_deed" ["_law_board","_law_cell","_law_own","_law_names_here"] a.bp
 bq:TG K mg (qX 89) "_law_made" ["_law_script","_law_most"] a.bq
 br:TG K mg (qX 90) "_law_names" ["_law_board"] a.br
 bs:TG K mg (qX 91) "_law_done" ["_law_board","_law_deed_here"] a.bs
 bt:TG K mg (qX 92) "_law_next" ["_law_state","_law_word_here"] a.bt
 bu:TG K mg (qX 93) "_law_after" ["_law_state","_law_word_here"] a.bu
 bv:TG K mg (qX 94) "_law_way" ["_law_events","_law_caller"] a.bv
 bw:TG K mg (qX 95) "_law_story" ["_law_events"] a.bw
 ag:TG K mg (qX 96) "law" ["_law_script"] a.ag
 H:MG K a.F (tm 3 0) "__init__" "NoDeed.__init__" ["self","word"] a.H
 ah:MG K a.c (tm 36 0) "__init__" "Board.__init__" ["self","plan","hour"] a.ah
 ai:MG K a.h (tm 74 0) "__init__" "Plan.__init__" ["self","phones","groups","wishes"] a.ai
 Q:MG K a.c (tm 36 3) "talk_of" "Board.talk_of" ["self","phone"] a.Q
 aj:MG K a.r (tm 40 0) "__init__" "Bar.__init__" ["self","told"] a.aj
 ak:MG K a.t (tm 41 0) "__init__" "Shut.__init__" ["self","told"] a.ak
 A:MG K a.X (tm 42 0) "__init__" "Forward.__init__" ["self","told"] a.A
 al:MG K a.n (tm 44 0) "__init__" "Night.__init__" ["self","told"] a.al
 am:MG K a.u (tm 46 0) "__init__" "Silent.__init__" ["self","told"] a.am
 an:MG K a.v (tm 47 0) "__init__" "Wait.__init__" ["self","told"] a.an
 ao:MG K a.o (tm 48 0) "__init__" "Breaks.__init__" ["self","told"] a.ao
 R:MG K a.h (tm 74 2) "phone_names" "Plan.phone_names" ["self"] a.R
 k:MG K a.c (tm 36 12) "apply" "Board.apply" ["self","event"] a.k
 E:MG K a.B (tm 39 0) "__init__" "Wish.__init__" ["self","told"] a.E
 bx:MG K a.h (tm 74 1) "names" "Plan.names" ["self"] a.bx
 S:MG K a.c (tm 36 2) "is_free" "Board.is_free" ["self","phone"] a.S
 ap:MG K a.e (tm 32 0) "__init__" "Call.__init__" ["self","caller"] a.ap
 T:MG K a.e (tm 32 2) "talks_with" "Call.talks_with" ["self","phone"] a.T
 aq:MG K a.e (tm 32 5) "waits_with" "Call.waits_with" ["self","phone"] a.aq
 U:MG K a.e (tm 32 4) "is_tried_by" "Call.is_tried_by" ["self","phone"] a.U
 bz:MG K a.c (tm 36 10) "add_leg" "Board.add_leg" ["self","leg"] a.bz
 bA:MG K a.c (tm 36 11) "merge" "Board.merge" ["self","merged","kept","members"] a.bA
 bB:MG K a.c (tm 36 9) "pass_turn" "Board.pass_turn" ["self"] a.bB
 ar:MG K a.e (tm 32 8) "other_than" "Call.other_than" ["self","phone"] a.ar
 bC:MG K a.c (tm 36 4) "bound" "Board.bound" ["self","phone"] a.bC
 bD:MG K a.c (tm 36 5) "calling" "Board.calling" ["self","phone"] a.bD
 bE:MG K a.c (tm 36 1) "used" "Board.used" ["self","phone"] a.bE
 bF:MG K a.h (tm 74 3) "lines" "Plan.lines" ["self","phone"] a.bF
 bG:MG K a.e (tm 32 7) "can_be_left_by" "Call.can_be_left_by" ["self","phone"] a.bG
 au:MG K a.e (tm 32 6) "pairs" "Call.pairs" ["self","phone"] a.au
 q:MG K a.B (tm 39 4) "is_due" "Wish.is_due" ["self","call"] a.q
 av:MG K a.u (tm 46 2) "is_due" "Silent.is_due" ["self","call"] a.av
 l:MG K a.B (tm 39 1) "told" "Wish.told" ["self"] a.l
 bH:MG K a.e (tm 32 3) "binds" "Call.binds" ["self","phone"] a.bH
 bI:MG K a.e (tm 32 1) "has" "Call.has" ["self","phone"] a.bI
 aw:MG K a.r (tm 40 1) "wants" "Bar.wants" ["self"] a.aw
 ax:MG K a.t (tm 41 1) "wants" "Shut.wants" ["self"] a.ax
 z:MG K a.X (tm 42 1) "wants" "Forward.wants" ["self"] a.z
 ay:MG K a.v (tm 47 1) "wants" "Wait.wants" ["self"] a.ay
 az:MG K a.o (tm 48 1) "wants" "Breaks.wants" ["self"] a.az
 aA:MG K a.r (tm 40 2) "fits" "Bar.fits" ["self","board","caller","target"] a.aA
 aB:MG K a.t (tm 41 2) "fits" "Shut.fits" ["self","board","caller","target"] a.aB
 aC:MG K a.w (tm 43 0) "fits" "Always.fits" ["self","board","caller","target"] a.aC
 aD:MG K a.n (tm 44 2) "fits" "Night.fits" ["self","board","caller","target"] a.aD
 aE:MG K a.x (tm 45 0) "fits" "Busy.fits" ["self","board","caller","target"] a.aE
 aF:MG K a.u (tm 46 1) "fits" "Silent.fits" ["self","board","caller","target"] a.aF
 aG:MG K a.v (tm 47 2) "fits" "Wait.fits" ["self","board","caller","target"] a.aG
 aH:MG K a.o (tm 48 3) "fits" "Breaks.fits" ["self","board","caller","target"] a.aH
 aI:MG K a.h (tm 74 6) "manner" "Plan.manner" ["self","name"] a.aI
 V:MG K a.h (tm 74 5) "phones_of" "Plan.phones_of" ["self","name"] a.V
 bJ:MG K a.n (tm 44 1) "has_hour" "Night.has_hour" ["self","hour"] a.bJ
 bK:MG K a.c (tm 36 8) "hour_now" "Board.hour_now" ["self"] a.bK
 bL:MG K a.c (tm 36 6) "waits_at" "Board.waits_at" ["self","phone"] a.bL
 bM:MG K a.o (tm 48 2) "outranks" "Breaks.outranks" ["self","plan","members"] a.bM
 aJ:MG K a.c (tm 36 7) "ringable" "Board.ringable" ["self","caller","target"] a.aJ
 aK:MG K a.h (tm 74 4) "rank" "Plan.rank" ["self","phone"] a.aK
 b3:IR K a.F a.H.f
 b4:yU K a.F "word"
 b5:OB K a.F "word"
 b6:W.exmOne K (.ref a.F) (.ref a.F)=Fa pc
 b7:Mk K a.c a.ah.f
 b8:Mk K a.h a.ai.f
 b9:Mk K a.r a.aj.f
 ca:Mk K a.t a.ak.f
 cb:Mk K a.w a.A.f
 cc:Mk K a.n a.al.f
 cd:Mk K a.x a.A.f
 ce:Mk K a.u a.am.f
 cf:Mk K a.v a.an.f
 cg:Mk K a.o a.ao.f
 ch:Mk K a.e a.ap.f
 ci:vE K a.r "is_due" a.q.f
 cj:vE K a.t "is_due" a.q.f
 ck:vE K a.w "is_due" a.q.f
 cl:vE K a.n "is_due" a.q.f
 cm:vE K a.x "is_due" a.q.f
 cn:vE K a.v "is_due" a.q.f
 co:vE K a.o "is_due" a.q.f
 cp:vE K a.r "told" a.l.f
 cq:vE K a.t "told" a.l.f
 cr:vE K a.w "told" a.l.f
 cs:vE K a.n "told" a.l.f
 ct:vE K a.x "told" a.l.f
 cu:vE K a.u "told" a.l.f
 cv:vE K a.v "told" a.l.f
 cw:vE K a.o "told" a.l.f
 cx:vE K a.w "wants" a.z.f
 cy:vE K a.n "wants" a.z.f
 cz:vE K a.x "wants" a.z.f
 cA:vE K a.u "wants" a.z.f
 aL:LY K a.B "__init__" a.E.f
 bX:LY K a.X "__init__" a.A.f
 C:zB K a.c ["plan","hour","turn","calls","legs","nexts","on","log"]
 Y:zB K a.h ["phones","groups","wishes","on","phone_rows","group_rows"]
 bP:zB K a.r ["form","phone","targets"]
 bQ:zB K a.t ["form","target","callers"]
 bR:zB K a.w ["form","target","goal"]
 aM:zB K a.n ["form","target","goal","first","last"]
 bS:zB K a.x ["form","target","goal"]
 bN:zB K a.u ["form","target","goal","turns"]
 bY:zB K a.v ["form","phone"]
 bZ:zB K a.o ["form","phone"]
 j:zB K a.e ["state","caller","way","at","members","holder","since","word"]
 Z:mg "range"=Db
 g:mg "len"=Db
 bT:mg "dict"=Db
 y:mg "list"=Db
 bU:mg "set"=Db
 cB:mg "min"=Db
 I:mg "tuple"=Db
 bO:mg "all"=Db
 bV:mg "enumerate"=Db
 cC:mg "zip"=Db
 cD:mg "any"=Db
 cE:KD K mg "MOST_PHONES" (.int 8)
 cF:KD K mg "MOST_LINES" (.int 3)
 cG:KD K mg "MOST_RANK" (.int 9)
 cH:KD K mg "MOST_GROUPS" (.int 3)
 cI:KD K mg "MANNERS" (.tup ((["all","turns"]:QQQ).map D.str))
 cJ:KD K mg "MOST_MEMBERS" (.int 4)
 cK:KD K mg "MOST_WISHES" (.int 16)
 cL:KD K mg "MOST_SIGNS" (.int 6)
 cM:KD K mg "LETTERS" (.str "abcdefghijklmnopqrstuvwxyz")
 b0:Nk K mg "FORMS" J1
 b1:KD K mg "MOST_LISTED" (.int 6)
 cN:KD K mg "LAST_HOUR" (.int 23)
 cO:KD K mg "MOST_TURNS" (.int 9)
noncomputable def draw(c f m:Int):Int:=(c % 2147483647+5)*f % 2147483629 / 89 % m
def qS{c f m:Int}(h:0<m):0<=draw c f m:=eR _ (by lia)
def qO{c f m:Int}(h:0<m):draw c f m<m:=eM _ h
def JD:rj:=λds M Q=>De λc f m=>ds=[.int c,.int f,.int m]/\0<m/\Q (.int (draw c f m)) M
noncomputable def um:Str:="abcdefghijklmnopqrstuvwxyz"
noncomputable def ug(i:Int):Str:=⟨#[97+i.toNat]⟩
noncomputable def size(s:Int):Int:=1+s % 6
def ui(s:Int):Int:=s / 6 % size s
def word(s v:Int):Str:=yP (ug (s / 36 % 26)) (ui s)++ug ((s / 936+v) % 26)++yP (ug (s / 36 % 26)) (size s - 1 - ui s)
def OI:rj:=λds M Q=>AW λs v=>ds=[.int s,.int v]/\Q (.str (word s v)) M
noncomputable def cell(ns:T0 Int)(i:Int):Int:=if 0<=i/\i<ns.length then ns.getD i.toNat 0 else 0
def UI:rj:=λds M Q=>AW λns i=>ds=[.rl (ns.map D.int),.int i]/\Q (.int (cell ns i)) M
def F1(c:Int):0<size c:=by unfold size;have:=eR c (show(6:Int)≠0 by decide);lia
def IG(c:Int):size c<=6:=by unfold size;have:=eM c (show(0:Int)<6 by decide);lia
def Gz(i n:Int):(yP (ug i) n).length=n.toNat:=by show((List.replicate n.toNat (ug i).cps).foldl (·++·) #[]:Array Nat).size=n.toNat;rw[Ja];show n.toNat*1=n.toNat;lia
def AG:um.length<=Ch:=by decide+kernel
variable {P:Pg}{w:Wo}{K:qx}{mg:QQZ}{base:Go}{a:Ad}(G:Gl K mg a)
def qK:Fq P w K mg base 1 a.i JD:=by
 refine fq G.i.toDG GM (λr u=>⟨_,(pA (pF (qc (qc (qc (qc (qc (qc v0 pC) pC) U1) pC) pC) U2))),?_⟩)
 rintro ds M Q ⟨c,f,m,rfl,hm,q⟩
 refine⟨by decide,.inl ?_,by decide,⟨by decide,by decide⟩,hm,M,.refl,q⟩;have h1:0<=c % 2147483647:=eR _ (by decide);have h2:c % 2147483647<2147483647:=eM _ (by decide);exact⟨by lia,by lia⟩
def D0{i:Int}(h0:0<=i)(h1:i<26):vA um.cps.toList i=Fa (97+i.toNat):=by
 obtain⟨n,rfl⟩:=d6 h0;have hn:n<26:=by lia
 have key:∀n:_root_.Fin 26,vA um.cps.toList ((n.val:Nat):Int)=Fa (97+n.val):=by decide+kernel
 exact key ⟨n,hn⟩
def IP:Fq P w K mg base 1 a.af OI:=by
 refine fq G.af.toDG uh (λr u=>⟨_,(pz (pO 2 uh pD)
 (pz (pO 3 uh (qc pC (qc v0 pC)))
 (pz (pO 4 uh (qc (qc v0 pC) U3))
 (pz (pO 5 uh (pK U2 (qc (qc v0 pC) pC)))
 (pz (pO 6 uh (pK U2 (qc (qc (qc v0 pC) U1) pC)))
 (pA (pF (qc (qc (qc v5 v4) v6) (qc v5 (qc (qc U3 pC) v4)))))))))),?_⟩)
 rintro ds M Q ⟨c,v,rfl,q⟩
 have hs:=F1 c;have hs6:=IG c;have hp0:0<=ui c:=eR _ (by lia);have Xz:ui c<size c:=eM _ hs;have l1:=Gz (c / 36 % 26) (ui c);have l2:=Gz (c / 36 % 26) (size c - 1 - ui c);have hz:=dN;refine⟨by decide,⟨by decide,by decide⟩,hs,⟨by decide,by decide⟩,by decide,AG,i' (D0 (eR _ (by decide)) (eM _ (by decide))) ?_⟩;refine⟨⟨by decide,by decide⟩,by decide,AG,i' (D0 (eR _ (by decide)) (eM _ (by decide))) ?_⟩;refine⟨⟨?_,?_,?_⟩,?_,⟨?_,?_,?_⟩,?_,M,.refl,q⟩
 .show ui c<4096;lia
 .show -4096<ui c;lia
 .show(1:Nat)<4096;decide
 .show(yP (ug (c / 36 % 26)) (ui c)).length+1<=Ch;lia
 .show size c - 1 - ui c<4096;lia
 .show -4096<size c - 1 - ui c;lia
 .show(1:Nat)<4096;decide
 .show(yP (ug (c / 36 % 26)) (ui c)++ug ((c / 936+v) % 26)).length+(yP (ug (c / 36 % 26)) (size c - 1 - ui c)).length<=Ch;rw[PySem.size_cat];have:(ug ((c / 936+v) % 26)).length=1:=rfl;lia
def LQ:Fq P w K mg base 1 a.O UI:=by
 refine fq G.O.toDG Kv (λr u=>⟨_,(pz (pS (Gc u pC U1 (pV qw Z' G.g qo (ql v0)))
 (pA (pF (pK v0 U1)))
 pL)
 (pA (pF pC))),?_⟩)
 rintro ds M Q ⟨ns,i,rfl,q⟩
 refine qJ (λh0=>?_) (λh0=>?_)
 .have h0:0<=i:=fL h0;refine qJ (λh1=>?_) (λh1=>?_)
  .have h1:i<((ns.map D.int).length:Int):=fL h1;rw[cQ]at h1;have hi:i.toNat<ns.length:=by lia
   have e:vA (ns.map D.int) i=Fa (D.int (ns.getD i.toNat 0)):=by
    obtain⟨n,rfl⟩:=d6 h0;have hn:n<ns.length:=by lia
    refine ub ?_;rw[dq,cS hn];simp[hn]
   refine i' e ⟨M,.refl,?_⟩;have:cell ns i=ns.getD i.toNat 0:=by unfold cell;rw[cX ⟨h0,h1⟩]
   rw[<-this];exact q
  .have h1:¬i<((ns.map D.int).length:Int):=λz=>h1 (dP z);rw[cQ]at h1;refine⟨M,.refl,?_⟩;have:cell ns i=0:=by unfold cell;rw[cV (λz=>h1 z.2)]
   rw[<-this];exact q
 .have h0:¬0<=i:=λz=>h0 (dP z);refine⟨M,.refl,?_⟩;have:cell ns i=0:=by unfold cell;rw[cV (λz=>h0 z.1)]
  rw[<-this];exact q
inductive Wi where
 | bar (x:Str) (ns:QQQ)|shut (x:Str) (ns:QQQ)|always (x y:Str)|night (x y:Str) (f l:Int)|busy (x y:Str)|silent (x y:Str) (n:Int)|wait (x:Str)|breaks (x:Str)
abbrev names(ns:QQQ):D:=.tup (ns.map D.str)
noncomputable def Wi.told:Wi->T0 D
 | .bar x ns=>[.str "bar",.str x,names ns]
 | .shut x ns=>[.str "shut",.str x,names ns]
 | .always x y=>[.str "always",.str x,.str y]
 | .night x y f l=>[.str "night",.str x,.str y,.int f,.int l]
 | .busy x y=>[.str "busy",.str x,.str y]
 | .silent x y n=>[.str "silent",.str x,.str y,.int n]
 | .wait x=>[.str "wait",.str x]
 | .breaks x=>[.str "breaks",.str x]
noncomputable def Wi.cls(a:Ad):Wi->Uf
 | .bar _ _=>a.r
 | .shut _ _=>a.t
 | .always _ _=>a.w
 | .night _ _ _ _=>a.n
 | .busy _ _=>a.x
 | .silent _ _ _=>a.u
 | .wait _=>a.v
 | .breaks _=>a.o
noncomputable def Wi.more:Wi->T0 (Str×D)
 | .bar x ns=>[("phone",.str x),("targets",names ns)]
 | .shut x ns=>[("target",.str x),("callers",names ns)]
 | .always x y=>[("target",.str x),("goal",.str y)]
 | .night x y f l=>[("target",.str x),("goal",.str y),("first",.int f),("last",.int l)]
 | .busy x y=>[("target",.str x),("goal",.str y)]
 | .silent x y n=>[("target",.str x),("goal",.str y),("turns",.int n)]
 | .wait x=>[("phone",.str x)]
 | .breaks x=>[("phone",.str x)]
noncomputable def Wi.nK(v:Wi):T0 (Str×D):=("form",.tup v.told)::v.more
abbrev BP(ns:QQQ)(i:Int):Str:=ns.getD i.toNat Str.empty
def xo(row:QQQ)(c m:Int):Nat:=(1+draw c 40692 (if (row.length:Int)<m then(row.length:Int)else m)).toNat
def UG(row:QQQ)(c:Int)(j:Nat):Str:=BP row ((draw c 69621 row.length+(0+(j:Nat))) % row.length)
def vI(row:QQQ)(c m:Int):QQQ:=(List.range (xo row c m)).map (UG row c)
def PL:rj:=λds M Q=>BE λr c m row=>ds=[.ref r,.int c,.int m]/\oC M r=Fa (row.map D.str)/\row≠[]/\0<m/\row.length<=64/\Q (names (vI row c m)) M
def IM{row:QQQ}(h:row≠[])(x:Int):vA (row.map D.str) (x % row.length)=Fa (D.str (BP row (x % row.length))):=by
 have hl:0<row.length:=eV.mpr h;have h0:0<=x % row.length:=eR _ (by lia);have h1:x % row.length<row.length:=eM _ (by lia);obtain⟨n,hn⟩:=d6 h0;rw[hn]at h1 ⊢;have XF:n<row.length:=by lia
 refine ub ?_;rw[dq,cS XF];simp[BP,XF]
def yq:Fq P w K mg base 2 a.P PL:=by
 refine fq G.P.toDG xM (λr u=>⟨_,(pz (pO 3 xM (pN (qK G) r G.i (rk U1 pC (pV qw Z' G.g qo (ql v0)))))
 (pz (pO 4 xM (qc pC (pN (qK G) r G.i (rk U1 pC (pV (RE Z') Z' G.cB QU (r6 U2 (pV qw Z' G.g qo (ql v0))))))))
 (pA (pF (qB uN Z' G.I uL (ql (qI Z' (xu (ix:=[Db,Fa 0,Fa 3]) (N':=["_law_j","_law_row","_law_first"])) (ve Z' G.Z (ql v4)) (qA 0) rS (pK U1 (qc (qc U2 v0) (pV qw Z' G.g qo (ql U1))))))))))),?_⟩)
 rintro ds M Q ⟨r,c,m,row,rfl,hl,WR,hm,h64,q⟩
 have WD:0<row.length:=eV.mpr WR;have hz:=dN;have el:((row.map D.str).length:Int)=row.length:=by rw[cQ]
 refine i' hl ⟨c,69621,_,Z',by rw[el];lia,?_⟩;refine i' hl ⟨c,40692,_,Z',by rw[el];split<;>lia,?_⟩;rw[el];have d0:=qS (c:=c) (f:=40692) (m:=if (row.length:Int)<m then(row.length:Int)else m) (by split<;>lia);have d1:=qO (c:=c) (f:=40692) (m:=if (row.length:Int)<m then(row.length:Int)else m) (by split<;>lia);have d2:draw c 40692 (if (row.length:Int)<m then(row.length:Int)else m)<row.length+1:=by refine Int.lt_of_lt_of_le d1 ?_;split<;>lia
 refine⟨Z',⟨?_,?_⟩,qV (f:=λd=>match d with|.int j=>D.str (BP row ((draw c 69621 row.length+j) % row.length))|_=>.mL) trivial _ [] _ ?_ (λd hd k hk=>?_) λp hp=>?_⟩
 .show -(2 ^ 62)<=1+draw c 40692 (if (row.length:Int)<m then(row.length:Int)else m);lia
 .show 1+draw c 40692 (if (row.length:Int)<m then(row.length:Int)else m)<2 ^ 62;lia
 .rw[cQ,eD];show 0+xo row c m<=Ch;unfold xo;lia
 .obtain⟨j,_,rfl⟩:=dw.mp hd;refine i' hl ⟨by rw[el];lia,i' hl ?_⟩;rw[el];exact i' (IM WR _) hk
 .refine i' (x:=(vI row c m).map D.str) ?_ ⟨M,.new hp,q⟩;unfold oC;rw[pU];show Fa ([]++((List.range (xo row c m)).map λi=>D.int (0+(i:Nat))).map _)=_;rw[dX,dZ];unfold vI;rw[dZ];rfl
def wF(c:Int)(own all:QQQ):Wi:=
 let x:=BP own (draw c 16807 own.length);let pl:=draw c 39373 all.length;let y:=BP all pl;let z:=BP all ((pl+1+draw c 742938285 ((all.length:Int) - 1)) % all.length);let k:=draw c 1226874159 12
 if k=0 then .bar x (vI all c 3)
 else if k=1 then .shut y (vI own c 3)
 else if k=2 then .always y z
 else if k<5 then .night y z (draw c 22695477 24) ((draw c 22695477 24+1+draw c 48271 23) % 24)
 else if k<7 then .busy y z
 else if k<9 then .silent y z ([1,1,2,3,9].getD (draw c 950706376 5).toNat 0)
 else if k=9 then .wait x
 else .breaks x
def Ph:rj:=λds M Q=>FT λc o n own all=>ds=[.int c,.ref o,.ref n]/\oC M o=Fa (own.map D.str)/\oC M n=Fa (all.map D.str)/\own≠[]/\2<=all.length/\own.length<=64/\all.length<=64/\Q (.tup (wF c own all).told) M
def Hr{row:QQQ}{x:Int}(h0:0<=x)(h1:x<row.length):vA (row.map D.str) x=Fa (D.str (BP row x)):=by
 obtain⟨n,rfl⟩:=d6 h0;have XF:n<row.length:=by lia
 refine ub ?_;rw[dq,cS XF];simp[BP,XF]
def PQ:Fq P w K mg base 3 a.bj Ph:=by
 refine fq G.bj.toDG sZ (λr u=>⟨_,(pz (pO 3 sZ (pK U1 (pN (qK G) r G.i (rk v0 pC (pV qw Z' G.g qo (ql U1))))))
 (pz (pO 4 sZ (pN (qK G) r G.i (rk v0 pC (pV qw Z' G.g qo (ql U2)))))
 (pz (pO 5 sZ (pK U2 v4))
 (pz (pO 6 sZ (pK U2 (qc (qc (qc v4 pC) (pN (qK G) r G.i (rk v0 pC (qc (pV qw Z' G.g qo (ql U2)) pC)))) (pV qw Z' G.g qo (ql U2)))))
 (pz (pO 7 sZ (pN (qK G) r G.i (rk v0 pC pC)))
 (pz (pS (pH u v7 pC)
 (pA (pF (pQ (rk pD U3 (pN (yq G) r G.P (rk U2 v0 pC))))))
 pL)
 (pz (pS (pH u v7 pC)
 (pA (pF (pQ (rk pD v5 (pN (yq G) r G.P (rk U1 v0 pC))))))
 pL)
 (pz (pS (pH u v7 pC)
 (pA (pF (pQ (rk pD v5 v6))))
 pL)
 (pz (pS (pH u v7 pC)
 (pz (pO 8 sZ (pN (qK G) r G.i (rk v0 pC pC)))
 (pA (pF (pQ (pY pD (pY v5 (rk v6 v8 (qc (qc (qc v8 pC) (pN (qK G) r G.i (rk v0 pC pC))) pC))))))))
 pL)
 (pz (pS (pH u v7 pC)
 (pA (pF (pQ (rk pD v5 v6))))
 pL)
 (pz (pS (pH u v7 pC)
 (pA (pF (pQ (pY pD (rk v5 v6 (pK (pQ (pY pC (pY pC (rk pC pC pC)))) (pN (qK G) r G.i (rk v0 pC pC))))))))
 pL)
 (pz (pS (pH u v7 pC)
 (pA (pF (pQ (r6 pD U3))))
 pL)
 (pA (pF (pQ (r6 pD U3)))))))))))))))),?_⟩)
 rintro ds M Q ⟨c,o,n,own,all,rfl,ho,hn,WR,h2,l1,l2,q⟩
 have WD:0<own.length:=eV.mpr WR;have hne2:all≠[]:=λz=>by rw[z]at h2;simp at h2
 have e1:((own.map D.str).length:Int)=own.length:=by rw[cQ]
 have e2:((all.map D.str).length:Int)=all.length:=by rw[cQ]
 have p1:(0:Int)<own.length:=by lia
 have p2:(0:Int)<all.length:=by lia
 have p3:(0:Int)<(all.length:Int) - 1:=by lia
 refine i' ho ⟨c,_,_,Z',by rw[e1];exact p1,?_⟩;rw[e1];refine i' ho (i' (Hr (qS p1) (qO p1)) ?_);refine i' hn ⟨c,_,_,Z',by rw[e2];exact p2,?_⟩;rw[e2];refine i' hn (i' (Hr (qS p2) (qO p2)) ?_);refine i' hn ⟨c,_,_,Z',by rw[e2];exact p3,?_⟩;rw[e2];refine i' hn ⟨by rw[e2];exact p2,?_⟩;rw[e2];refine i' hn (i' (IM hne2 _) ?_);refine⟨c,_,_,Z',by decide,?_⟩;have WC:∀t:T0 D,(wF c own all).told=t->∃WA,qG WA M/\Q (.tup t) WA:=λt e=>⟨M,.refl,e ▸ q⟩;have k0:0<=draw c 1226874159 12:=qS (by decide);refine qJ (λh=>?_) (λh=>?_)
 .have h:draw c 1226874159 12=0:=by simpa using h
  refine⟨n,c,3,all,Z',hn,hne2,by decide,l2,pk Z',WC _ ?_⟩;simp only[wF,cX h,Wi.told]
 have h:¬draw c 1226874159 12=0:=by simpa using h
 refine qJ (λg=>?_) (λg=>?_)
 .have g:draw c 1226874159 12=1:=by simpa using g
  refine⟨o,c,3,own,Z',ho,WR,by decide,l1,pk Z',WC _ ?_⟩;simp only[wF,cV h,cX g,Wi.told]
 have g:¬draw c 1226874159 12=1:=by simpa using g
 refine qJ (λi=>?_) (λi=>?_)
 .have i:draw c 1226874159 12=2:=by simpa using i
  refine⟨pk Z',WC _ ?_⟩;simp only[wF,cV h,cV g,cX i,Wi.told]
 have i:¬draw c 1226874159 12=2:=by simpa using i
 refine qJ (λj=>?_) (λj=>?_)
 .have j:draw c 1226874159 12<5:=fL j;refine⟨c,_,_,Z',by decide,c,_,_,Z',by decide,by decide,pk Z',WC _ ?_⟩;simp only[wF,cV h,cV g,cV i,cX j,Wi.told]
 have j:¬draw c 1226874159 12<5:=λz=>j (dP z);refine qJ (λl=>?_) (λl=>?_)
 .have l:draw c 1226874159 12<7:=fL l;refine⟨pk Z',WC _ ?_⟩;simp only[wF,cV h,cV g,cV i,cV j,cX l,Wi.told]
 have l:¬draw c 1226874159 12<7:=λz=>l (dP z);refine qJ (λm=>?_) (λm=>?_)
 .have m:draw c 1226874159 12<9:=fL m;have d0:0<=draw c 950706376 5:=qS (by decide);have d1:draw c 950706376 5<5:=qO (by decide);have e:vA [D.int 1,.int 1,.int 2,.int 3,.int 9] (draw c 950706376 5)=Fa (D.int ([1,1,2,3,9].getD (draw c 950706376 5).toNat 0)):=by
   obtain⟨t,ht⟩:=d6 d0;rw[ht]at d1 ⊢;have:t<5:=by lia
   match t,this with
   | 0,_=>rfl
   | 1,_=>rfl
   | 2,_=>rfl
   | 3,_=>rfl
   | 4,_=>rfl
  refine⟨pk Z',c,_,_,Z',by decide,i' e ⟨pk Z',WC _ ?_⟩⟩;simp only[wF,cV h,cV g,cV i,cV j,cV l,cX m,Wi.told]
 have m:¬draw c 1226874159 12<9:=λz=>m (dP z);refine qJ (λr=>?_) (λr=>?_)
 .have r:draw c 1226874159 12=9:=by simpa using r
  refine⟨pk Z',WC _ ?_⟩;simp only[wF,cV h,cV g,cV i,cV j,cV l,cV m,cX r,Wi.told]
 have r:¬draw c 1226874159 12=9:=by simpa using r
 refine⟨pk Z',WC _ ?_⟩;simp only[wF,cV h,cV g,cV i,cV j,cV l,cV m,cV r,Wi.told]
def Np(K:qx):rj:=λds M Q=>De λp d C=>ds=[.ref p,d]/\M p=Fa (.ins C [])/\ue K C "form"/\Q .mL (pI M p (.ins C [("form",d)]))
def LI(K:qx):rj:=λds M Q=>FT λp t x y C=>ds=[.ref p,.tup t]/\vA t 1=Fa x/\vA t 2=Fa y/\M p=Fa (.ins C [])/\ue K C "form"/\ue K C "target"/\ue K C "goal"/\Q .mL (pI M p (.ins C [("form",.tup t),("target",x),("goal",y)]))
def yd(a:Ad)(k:Wi->Prop):rj:=λds M Q=>AW λp v=>ds=[.ref p,.tup (Wi.told v)]/\k v/\M p=Fa (.ins (v.cls a) [])/\Q .mL (pI M p (.ins (v.cls a) v.nK))
def xX:Fq P w K mg base 1 a.E (Np K):=by
 refine fq G.E.toDG Fs (λr u=>⟨_,(pA (qe v0 U1)),?_⟩)
 rintro ds M Q ⟨p,d,C,rfl,hp,na,q⟩
 exact pB hp ⟨na,by decide,_,.refl,q⟩
def zw:Fq P w K mg base 2 a.A (LI K):=by
 refine fq G.A.toDG A6 (λr u=>⟨_,(pz (pR (yD G.aL (xX G) r G.B G.E.toDG (r6 v0 U1)))
 (pz (qe v0 (pK U1 pC))
 (pA (qe v0 (pK U1 pC))))),?_⟩)
 rintro ds M Q ⟨p,t,x,y,C,rfl,e1,e2,hp,n1,n2,n3,q⟩
 refine⟨p,_,C,Z',hp,n1,i' e1 (pB pU ⟨n2,by show 1<1000;decide,?_⟩)⟩;refine i' e2 (pB pU ⟨n3,by show 2<1000;decide,_,?_,q⟩);rw[rK,rK];exact .refl
def Su:Fq P w K mg base 2 a.aj (yd a λv=>∃x ns,v=.bar x ns):=by
 refine fq G.aj.toDG GZ (λr u=>⟨_,(pz (pR (yD G.aL (xX G) r G.B G.E.toDG (r6 v0 U1)))
 (pz (qe v0 (pK U1 pC))
 (pA (qe v0 (pK U1 pC))))),?_⟩)
 rintro ds M Q ⟨p,v,rfl,⟨x,ns,rfl⟩,hp,q⟩
 refine⟨p,_,_,Z',hp,(G.bP "form" Z'),pB pU ⟨(G.bP "phone" Z'),by show 1<1000;decide,?_⟩⟩;refine pB pU ⟨(G.bP "targets" Z'),by show 2<1000;decide,_,?_,q⟩;rw[rK,rK];exact .refl
def Pp:Fq P w K mg base 2 a.ak (yd a λv=>∃x ns,v=.shut x ns):=by
 refine fq G.ak.toDG ER (λr u=>⟨_,(pz (pR (yD G.aL (xX G) r G.B G.E.toDG (r6 v0 U1)))
 (pz (qe v0 (pK U1 pC))
 (pA (qe v0 (pK U1 pC))))),?_⟩)
 rintro ds M Q ⟨p,v,rfl,⟨x,ns,rfl⟩,hp,q⟩
 refine⟨p,_,_,Z',hp,(G.bQ "form" Z'),pB pU ⟨(G.bQ "target" Z'),by show 1<1000;decide,?_⟩⟩;refine pB pU ⟨(G.bQ "callers" Z'),by show 2<1000;decide,_,?_,q⟩;rw[rK,rK];exact .refl
def Nv:Fq P w K mg base 3 a.al (yd a λv=>∃x y f l,v=.night x y f l):=by
 refine fq G.al.toDG CW (λr u=>⟨_,(pz (pR (yD G.bX (zw G) r G.X G.A.toDG (r6 v0 U1)))
 (pz (qe v0 (pK U1 pC))
 (pA (qe v0 (pK U1 pC))))),?_⟩)
 rintro ds M Q ⟨p,v,rfl,⟨x,y,f,l,rfl⟩,hp,q⟩
 refine⟨p,_,_,_,_,Z',Z',Z',hp,(G.aM "form" Z'),(G.aM "target" Z'),(G.aM "goal" Z'),pB pU ⟨(G.aM "first" Z'),by show 3<1000;decide,?_⟩⟩;refine pB pU ⟨(G.aM "last" Z'),by show 4<1000;decide,_,?_,q⟩;rw[rK,rK];exact .refl
def JF:Fq P w K mg base 3 a.am (yd a λv=>∃x y n,v=.silent x y n):=by
 refine fq G.am.toDG CF (λr u=>⟨_,(pz (pR (yD G.bX (zw G) r G.X G.A.toDG (r6 v0 U1)))
 (pA (qe v0 (pK U1 pC)))),?_⟩)
 rintro ds M Q ⟨p,v,rfl,⟨x,y,n,rfl⟩,hp,q⟩
 refine⟨p,_,_,_,_,Z',Z',Z',hp,(G.bN "form" Z'),(G.bN "target" Z'),(G.bN "goal" Z'),pB pU ⟨(G.bN "turns" Z'),by show 3<1000;decide,_,?_,q⟩⟩;rw[rK];exact .refl
def Pa:Fq P w K mg base 2 a.an (yd a λv=>∃x,v=.wait x):=by
 refine fq G.an.toDG FN (λr u=>⟨_,(pz (pR (yD G.aL (xX G) r G.B G.E.toDG (r6 v0 U1)))
 (pA (qe v0 (pK U1 pC)))),?_⟩)
 rintro ds M Q ⟨p,v,rfl,⟨x,rfl⟩,hp,q⟩
 refine⟨p,_,_,Z',hp,(G.bY "form" Z'),pB pU ⟨(G.bY "phone" Z'),by show 1<1000;decide,_,?_,q⟩⟩;rw[rK];exact .refl
def Kw:Fq P w K mg base 2 a.ao (yd a λv=>∃x,v=.breaks x):=by
 refine fq G.ao.toDG BF (λr u=>⟨_,(pz (pR (yD G.aL (xX G) r G.B G.E.toDG (r6 v0 U1)))
 (pA (qe v0 (pK U1 pC)))),?_⟩)
 rintro ds M Q ⟨p,v,rfl,⟨x,rfl⟩,hp,q⟩
 refine⟨p,_,_,Z',hp,(G.bZ "form" Z'),pB pU ⟨(G.bZ "phone" Z'),by show 1<1000;decide,_,?_,q⟩⟩;rw[rK];exact .refl
def HN(a:Ad):rj:=λds M Q=>∃v:Wi,ds=[.tup v.told]/\∀p,M p=Db->Q (.ref p) (pI M p (.ins (v.cls a) v.nK))
def IB(a:Ad):rj:=λds M Q=>AW λp (v:Wi)=>ds=[.ref p]/\M p=Fa (.ins (v.cls a) v.nK)/\Q (.tup v.told) M
def HS:rj:=λds M Q=>∃p,ds=[.ref p]/\Q (.tup [.str "end"]) M
def Mi:rj:=λds M Q=>∃p,ds=[.ref p]/\Q (.tup [.str "break"]) M
def QL:rj:=λds M Q=>BE λp C fs y=>ds=[.ref p]/\M p=Fa (.ins C fs)/\fs.lookup ("goal":Str)=Fa y/\Q (.tup [.str "to",y]) M
def Qo:rj:=λds M Q=>BE λp C fs y=>ds=[.ref p]/\M p=Fa (.ins C fs)/\fs.lookup ("phone":Str)=Fa y/\Q (.tup [.str "wait",y]) M
def Me(a:Ad):Uf->rj->Prop:=λC sp=>(∃v:Wi,C=v.cls a)/\sp=IB a
def Iw(a:Ad):Uf->rj->Prop:=λC sp=>((C=a.r\/C=a.t)/\sp=HS)\/((C=a.w\/C=a.n\/C=a.x\/C=a.u)/\sp=QL)\/(C=a.v/\sp=Qo)\/(C=a.o/\sp=Mi)
def Ht:Fq P w K mg base 5 a.ba (HN a):=by
 refine fq G.ba.toDG Ce (λr u=>⟨_,(pz (pO 1 Ce (pK v0 pC))
 (pz (pS (pH u U1 pD)
 (pA (pF (vj (Su G) r G.r G.b9 G.aj.toDG (ql v0))))
 pL)
 (pz (pS (pH u U1 pD)
 (pA (pF (vj (Pp G) r G.t G.ca G.ak.toDG (ql v0))))
 pL)
 (pz (pS (pH u U1 pD)
 (pA (pF (vj (zw G) r G.w G.cb G.A.toDG (ql v0))))
 pL)
 (pz (pS (pH u U1 pD)
 (pA (pF (vj (Nv G) r G.n G.cc G.al.toDG (ql v0))))
 pL)
 (pz (pS (pH u U1 pD)
 (pA (pF (vj (zw G) r G.x G.cd G.A.toDG (ql v0))))
 pL)
 (pz (pS (pH u U1 pD)
 (pA (pF (vj (JF G) r G.u G.ce G.am.toDG (ql v0))))
 pL)
 (pz (pS (pH u U1 pD)
 (pA (pF (vj (Pa G) r G.v G.cf G.an.toDG (ql v0))))
 pL)
 (pz (pS (pH u U1 pD)
 (pA (pF (vj (Kw G) r G.o G.cg G.ao.toDG (ql v0))))
 pL)
 (pA FX)))))))))),?_⟩)
 rintro ds M Q ⟨v,rfl,q⟩
 have WC:∀(x:Uf) (c0 c1:uP) (C:Uf) (fs:T0 (Str×D)),M x=Db->Q (.ref x) (pI M x c1)->∃WA,qG WA (pI (pI M x c0) x c1)/\Q (.ref x) WA:=λx c0 c1 C fs hx q=>⟨_,by rw[rK];exact .refl,q⟩;cases v with
 | bar x ns=>exact λp hp=>⟨p,.bar x ns,Z',⟨_,_,Z'⟩,pU,Z',WC p _ _ 0 [] hp (q p hp)⟩
 | shut x ns=>exact λp hp=>⟨p,.shut x ns,Z',⟨_,_,Z'⟩,pU,Z',WC p _ _ 0 [] hp (q p hp)⟩
 | always x y=>exact λp hp=>⟨p,_,_,_,_,Z',Z',Z',pU,(G.bR "form" Z'),(G.bR "target" Z'),(G.bR "goal" Z'),Z',WC p _ _ 0 [] hp (q p hp)⟩
 | night x y f l=>exact λp hp=>⟨p,.night x y f l,Z',⟨_,_,_,_,Z'⟩,pU,Z',WC p _ _ 0 [] hp (q p hp)⟩
 | busy x y=>exact λp hp=>⟨p,_,_,_,_,Z',Z',Z',pU,(G.bS "form" Z'),(G.bS "target" Z'),(G.bS "goal" Z'),Z',WC p _ _ 0 [] hp (q p hp)⟩
 | silent x y n=>exact λp hp=>⟨p,.silent x y n,Z',⟨_,_,_,Z'⟩,pU,Z',WC p _ _ 0 [] hp (q p hp)⟩
 | wait x=>exact λp hp=>⟨p,.wait x,Z',⟨_,Z'⟩,pU,Z',WC p _ _ 0 [] hp (q p hp)⟩
 | breaks x=>exact λp hp=>⟨p,.breaks x,Z',⟨_,Z'⟩,pU,Z',WC p _ _ 0 [] hp (q p hp)⟩
def Ov:Fq P w K mg base 1 a.l (IB a):=by
 refine fq G.l.toDG Fe (λr u=>⟨_,(pA (pF (pG v0))),?_⟩)
 rintro ds M Q ⟨p,v,rfl,hp,q⟩
 exact pB hp (i' Z' ⟨M,.refl,q⟩)
def Oh:Fq P w K mg base 1 a.aw HS:=by
 refine fq G.aw.toDG EH (λr u=>⟨_,(pA (pF (pQ (ql pD)))),?_⟩)
 rintro ds M Q ⟨p,rfl,q⟩
 exact⟨pk Z',M,.refl,q⟩
def Mf:Fq P w K mg base 1 a.ax HS:=by
 refine fq G.ax.toDG C6 (λr u=>⟨_,(pA (pF (pQ (ql pD)))),?_⟩)
 rintro ds M Q ⟨p,rfl,q⟩
 exact⟨pk Z',M,.refl,q⟩
def vG:Fq P w K mg base 1 a.z QL:=by
 refine fq G.z.toDG Ab (λr u=>⟨_,(pA (pF (pQ (r6 pD (pG v0))))),?_⟩)
 rintro ds M Q ⟨p,C,fs,y,rfl,hp,e,q⟩
 exact pB hp (i' e ⟨pk Z',M,.refl,q⟩)
def Lh:Fq P w K mg base 1 a.ay Qo:=by
 refine fq G.ay.toDG Dc (λr u=>⟨_,(pA (pF (pQ (r6 pD (pG v0))))),?_⟩)
 rintro ds M Q ⟨p,C,fs,y,rfl,hp,e,q⟩
 exact pB hp (i' e ⟨pk Z',M,.refl,q⟩)
def HH:Fq P w K mg base 1 a.az Mi:=by
 refine fq G.az.toDG Bf (λr u=>⟨_,(pA (pF (pQ (ql pD)))),?_⟩)
 rintro ds M Q ⟨p,rfl,q⟩
 exact⟨pk Z',M,.refl,q⟩
def Sl:∀C sp,Me a C sp->xJ P w K mg base 1 "told" C (NH K sp):=by
 rintro C sp ⟨⟨v,rfl⟩,rfl⟩
 have F:=Ov (P:=P) (w:=w) (base:=base) G;cases v with
 | bar _ _=>exact⟨G.r.toCls,_,_,_,G.cp,F,G.l.b⟩
 | shut _ _=>exact⟨G.t.toCls,_,_,_,G.cq,F,G.l.b⟩
 | always _ _=>exact⟨G.w.toCls,_,_,_,G.cr,F,G.l.b⟩
 | night _ _ _ _=>exact⟨G.n.toCls,_,_,_,G.cs,F,G.l.b⟩
 | busy _ _=>exact⟨G.x.toCls,_,_,_,G.ct,F,G.l.b⟩
 | silent _ _ _=>exact⟨G.u.toCls,_,_,_,G.cu,F,G.l.b⟩
 | wait _=>exact⟨G.v.toCls,_,_,_,G.cv,F,G.l.b⟩
 | breaks _=>exact⟨G.o.toCls,_,_,_,G.cw,F,G.l.b⟩
def NJ:∀C sp,Iw a C sp->xJ P w K mg base 1 "wants" C (NH K sp):=by
 rintro C sp (⟨rfl|rfl,rfl⟩|⟨rfl|rfl|rfl|rfl,rfl⟩|⟨rfl,rfl⟩|⟨rfl,rfl⟩)
 .exact⟨G.r.toCls,_,_,_,G.aw.nj,Oh G,G.aw.b⟩
 .exact⟨G.t.toCls,_,_,_,G.ax.nj,Mf G,G.ax.b⟩
 .exact⟨G.w.toCls,_,_,_,G.cx,vG G,G.z.b⟩
 .exact⟨G.n.toCls,_,_,_,G.cy,vG G,G.z.b⟩
 .exact⟨G.x.toCls,_,_,_,G.cz,vG G,G.z.b⟩
 .exact⟨G.u.toCls,_,_,_,G.cA,vG G,G.z.b⟩
 .exact⟨G.v.toCls,_,_,_,G.ay.nj,Lh G,G.ay.b⟩
 .exact⟨G.o.toCls,_,_,_,G.az.nj,HH G,G.az.b⟩
def ul(x:Str):Bool:=decide ((1:Int)<=x.length)&&(decide ((x.length:Int)<=6)&&x.cps.toList.all λc=>Du ⟨#[c]⟩ um)
def Hn:rj:=λds M Q=>∃x:Str,ds=[.str x]/\x.length<=1000/\Q (.bl (ul x)) M
def JB:rj:=λds M Q=>∃w,ds=[.bl pc,w]/\Q .mL M
noncomputable def wM(ss:QQQ):Bool:=((tJ ss).length:Int)==(ss.length:Int)
def So(M:Mp)(x:D)(ss:QQQ):Prop:=x=.tup (ss.map D.str)\/∃a,x=.ref a/\oC M a=Fa (ss.map D.str)
def Ke:rj:=λds M Q=>AW λx ss=>ds=[x]/\So M x ss/\ss.length<4000/\Q (.bl (wM ss)) M
def zA{α:Type}(f:α->Bool)(l:List α):(l.map f).all id=l.all f:=by rw[mw];rfl
def qW(x:Str)(ss:QQQ):inD (.str x) (ss.map D.str)=ss.any (·==x):=by unfold inD;rw[jO];rfl
theorem qu:∀ss:QQQ,(ss.map D.str).all uW=pc
 | []=>rfl
 | _::r=>by rw[dW,gv,qu r];rfl
def sH(cs ks:QQQ)(m:Int):Bool:=decide ((1:Int)<=cs.length)&&(decide ((cs.length:Int)<=m)&&(wM cs&&cs.all λc=>ks.any (·==c)))
def Kt:rj:=λds M Q=>BE λcs ks k m=>ds=[.tup (cs.map D.str),.ref k,.int m]/\oC M k=Fa (ks.map D.str)/\cs.length<4000/\Q (.bl (sH cs ks m)) M
def CK:Fq P w K mg base 1 a.ad Hn:=by
 refine fq G.ad.toDG Hz (λr u=>⟨_,(pA (pF (sI (ut u pC (pV qw Z' G.g qo (ql v0)) (sO Z' G.cL)) (sf (pV (Fh Z') Z' G.bO Ep (ql (qI Z' (xu (ix:=[Db]) (N':=["sign"])) (qC v0) (qA 0) rS (qa u v0 (sO Z' G.cM))))))))),?_⟩)
 rintro ds M Q ⟨x,rfl,hl,q⟩
 have hz:=dN;refine⟨by lia,qJ (λh1=>?_) (λh1=>?_)⟩
 .refine qJ (λh2=>?_) (λh2=>?_)
  .refine qV (f:=λd=>match d with|.str z=>D.bl (Du z um)|_=>.mL) trivial _ [] _ ?_ (λd hd k hk=>?_) λp hp=>?_
   .rw[cQ];have:x.cps.toList.length=x.length:=by simp[Str.length]
    simp only[dF];lia
   .obtain⟨c,_,rfl⟩:=dw.mp hd;exact hk
   .refine i' pM ?_;have e:([]++(x.cps.toList.map λc=>D.str ⟨#[c]⟩).map λd=>match d with|.str z=>D.bl (Du z um)|_=>.mL)=x.cps.toList.map λc=>D.bl (Du ⟨#[c]⟩ um):=by rw[dX,dZ];rfl
    rw[e];refine i' (yg (λc=>Du ⟨#[c]⟩ um) x.cps.toList) ⟨M,.new hp,?_⟩;rw[zA];have:ul x=x.cps.toList.all λc=>Du ⟨#[c]⟩ um:=by unfold ul;rw[h1,h2];rfl
    rw[<-this];exact q
  .refine⟨M,.refl,?_⟩;have:ul x=lf:=by
    unfold ul;have h2:decide ((x.length:Int)<=6)=lf:=by simpa using h2
    rw[h2];simp
   rw[<-this];exact q
 .refine⟨M,.refl,?_⟩;have:ul x=lf:=by
   unfold ul;have h1:decide ((1:Int)<=x.length)=lf:=by simpa using h1
   rw[h1];rfl
  rw[<-this];exact q
def sR:Fq P w K mg base 1 a.m JB:=by
 refine fq G.m.toDG OM (λr u=>⟨_,(pA (pS (wO (uV v0))
 (pA FX)
 pL)),?_⟩)
 rintro ds M Q ⟨x,rfl,q⟩
 exact⟨M,.refl,q⟩
def Dy:Fq P w K mg base 1 a.ae Ke:=by
 refine fq G.ae.toDG Dv (λr u=>⟨_,(pA (pF (qa u (Au Z' v0 Z' G.g Z' G.bU qo HG) (pV qw Z' G.g qo (ql v0))))),?_⟩)
 rintro ds M Q ⟨x,ss,rfl,hx,hl,q⟩
 have key:((ss.map D.str).length:Int)=ss.length:=by rw[cQ]
 rcases hx with rfl|⟨b,rfl,hb⟩
 .refine i' (L3.xT ss) ⟨hl,M,.refl,?_⟩;rw[key];exact q
 .refine i' hb (i' (L3.xT ss) ⟨hl,i' hb ⟨M,.refl,?_⟩⟩);rw[key];exact q
def Am:Fq P w K mg base 2 a.N Kt:=by
 refine fq G.N.toDG E6 (λr u=>⟨_,(pA (pF (sI (ut u pC (pV qw Z' G.g qo (ql v0)) U2) (sI (pN (Dy G) r G.ae (ql v0)) (sf (pV (Fh Z') Z' G.bO Ep (ql (qI Z' (xu (ix:=[Db,Fa 1]) (N':=["name","known"])) (qC v0) (qA 0) rS (qa u v0 U1))))))))),?_⟩)
 rintro ds M Q ⟨cs,ks,k,m,rfl,hk,hl,q⟩
 have hz:=dN;have key:((cs.map D.str).length:Int)=cs.length:=by rw[cQ]
 have ZA:∀b:Bool,sH cs ks m=b->∃WA,qG WA M/\Q (.bl b) WA:=λb e=>⟨M,.refl,e ▸ q⟩;refine qJ (λh1=>?_) (λh1=>?_)
 .have h1:decide ((1:Int)<=cs.length)=pc:=by rw[<-key];exact h1
  refine qJ (λh2=>?_) (λh2=>?_)
  .have h2:decide ((cs.length:Int)<=m)=pc:=by rw[<-key];exact h2
   refine⟨_,cs,Z',.inl Z',hl,qJ (λh3=>?_) (λh3=>?_)⟩
   .refine qV (f:=λd=>match d with|.str z=>D.bl (ks.any (·==z))|_=>.mL) trivial _ [] _ ?_ (λd hd k0 hk0=>?_) λp hp=>?_
    .rw[cQ];simp only[dF];lia
    .obtain⟨c,_,rfl⟩:=dw.mp hd;refine i' hk ⟨Z',qu ks,?_⟩;show k0 (.bl (inD (.str c) (ks.map D.str))) M;rw[qW];exact hk0
    .refine i' pM ?_;have e:([]++(cs.map D.str).map λd=>match d with|.str z=>D.bl (ks.any (·==z))|_=>.mL)=cs.map λc=>D.bl (ks.any (·==c)):=by rw[dX,dZ];rfl
     rw[e];refine i' (yg (λc=>ks.any (·==c)) cs) ⟨M,.new hp,?_⟩;rw[zA];have:sH cs ks m=cs.all λc=>ks.any (·==c):=by unfold sH;rw[h1,h2,h3];rfl
     rw[<-this];exact q
   .refine ZA _ ?_;unfold sH;have h3:wM cs=lf:=by simpa using h3
    rw[h3];simp
  .refine ZA _ ?_;unfold sH;have h2:decide ((cs.length:Int)<=m)=lf:=by
    rw[<-key]
    simpa using h2
   rw[h2];simp
 .refine ZA _ ?_;unfold sH;have h1:decide ((1:Int)<=cs.length)=lf:=by
   rw[<-key]
   simpa using h1
  rw[h1];rfl
abbrev uH:=Str×Int×Int
abbrev ux:=Str×Str×QQQ
abbrev vt:=Bool×Wi
noncomputable def rh(p:uH):D:=.tup [.str p.1,.int p.2.1,.int p.2.2]
noncomputable def rF(g:ux):D:=.tup [.str g.1,.str g.2.1,names g.2.2]
noncomputable def xm(w:vt):D:=.tup [.bl w.1,.tup w.2.told]
structure FD(p:uH):Prop where
 len:p.1.length<=1000
 nm:ul p.1=pc
 l1:1<=p.2.1
 l2:p.2.1<=3
 r1:0<=p.2.2
 r2:p.2.2<=9
structure Fk(pn:QQQ)(g:ux):Prop where
 len:g.1.length<=1000
 nm:ul g.1=pc
 man:g.2.1="all"\/g.2.1="turns"
 pk:g.2.2.length<4000
 mem:sH g.2.2 pn 4=pc
def xQ(ss:QQQ)(x:Str):Prop:=ss.any (·==x)=pc
def B5(pn nm:QQQ):Wi->Prop
 | .bar x ns=>xQ pn x/\ns.length<4000/\sH ns nm 6=pc
 | .shut x ns=>xQ nm x/\ns.length<4000/\sH ns pn 6=pc
 | .always x y=>xQ nm x/\xQ nm y/\x≠y
 | .night x y f l=>xQ nm x/\xQ nm y/\x≠y/\(0<=f/\f<=23)/\(0<=l/\l<=23)/\f≠l
 | .busy x y=>xQ nm x/\xQ nm y/\x≠y
 | .silent x y n=>xQ nm x/\xQ nm y/\x≠y/\1<=n/\n<=9
 | .wait x=>xQ pn x
 | .breaks x=>xQ pn x
inductive x8(pn nm:QQQ):Str->D->Prop
 | m7 (x:Str) (h:xQ pn x):x8 pn nm "phone" (.str x)
 | name (x:Str) (h:xQ nm x):x8 pn nm "name" (.str x)
 | mI (cs:QQQ) (l:cs.length<4000) (h:sH cs pn 6=pc):x8 pn nm "phones" (names cs)
 | names (cs:QQQ) (l:cs.length<4000) (h:sH cs nm 6=pc):x8 pn nm "names" (names cs)
 | hour (i:Int) (h0:0<=i) (h1:i<=23):x8 pn nm "hour" (.int i)
 | turns (i:Int) (h0:1<=i) (h1:i<=9):x8 pn nm "turns" (.int i)
def JC:rj:=λds M Q=>JE λk d pl nl (pn nm:QQQ)=>ds=[.str k,d,.ref pl,.ref nl]/\oC M pl=Fa (pn.map D.str)/\oC M nl=Fa (nm.map D.str)/\x8 pn nm k d/\Q (.bl pc) M
def AS:rj:=λds M Q=>AW λr (ps:List uH)=>ds=[.ref r]/\oC M r=Fa (ps.map rh)/\1<=ps.length/\ps.length<=8/\(∀p∈ps,FD p)/\Q .mL M
def A8:rj:=λds M Q=>BE λr (gs:List ux) pl (pn:QQQ)=>ds=[.ref r,.ref pl]/\oC M r=Fa (gs.map rF)/\oC M pl=Fa (pn.map D.str)/\gs.length<=3/\(∀g∈gs,Fk pn g)/\Q .mL M
def Do:rj:=λds M Q=>FT λv pl nl (pn nm:QQQ)=>ds=[.tup (Wi.told v),.ref pl,.ref nl]/\oC M pl=Fa (pn.map D.str)/\oC M nl=Fa (nm.map D.str)/\B5 pn nm v/\Q .mL M
def A0:rj:=λds M Q=>JE λr (ws:List vt) pl nl (pn nm:QQQ)=>ds=[.ref r,.ref pl,.ref nl]/\oC M r=Fa (ws.map xm)/\oC M pl=Fa (pn.map D.str)/\oC M nl=Fa (nm.map D.str)/\ws.length<=16/\(∀w∈ws,B5 pn nm w.2)/\Q .mL M
def V6(h:xQ ss x):inD (.str x) (ss.map D.str)=pc:=by rw[qW];exact h
def Px:Fq P w K mg base 3 a.bd JC:=by
 refine fq G.bd.toDG Dn (λr u=>⟨_,(pz (pS (pH u v0 pD)
 (pA (pF (qa u U1 U2)))
 pL)
 (pz (pS (pH u v0 pD)
 (pA (pF (qa u U1 U3)))
 pL)
 (pz (pS (pH u v0 pD)
 (pA (pF (pN (Am G) r G.N (rk U1 U2 (sO Z' G.b1)))))
 pL)
 (pz (pS (pH u v0 pD)
 (pA (pF (pN (Am G) r G.N (rk U1 U3 (sO Z' G.b1)))))
 pL)
 (pz (pS (pH u v0 pD)
 (pA (pF (ut u pC U1 (sO Z' G.cN))))
 pL)
 (pA (pF (ut u pC U1 (sO Z' G.cO))))))))),?_⟩)
 rintro ds M Q ⟨k,d,pl,nl,pn,nm,rfl,hp,hn,ok,q⟩
 cases ok with
 | m7 x h=>refine i' hp ⟨Z',qu pn,M,.refl,?_⟩;show Q (.bl (inD (.str x) (pn.map D.str))) M;rw[V6 h];exact q
 | name x h=>refine i' hn ⟨Z',qu nm,M,.refl,?_⟩;show Q (.bl (inD (.str x) (nm.map D.str))) M;rw[V6 h];exact q
 | mI cs l h=>exact⟨cs,pn,pl,6,Z',hp,l,M,.refl,by rw[h];exact q⟩
 | names cs l h=>exact⟨cs,nm,nl,6,Z',hn,l,M,.refl,by rw[h];exact q⟩
 | hour i h0 h1=>refine zH (c:=decide (0<=i)) (dP h0) ⟨M,.refl,?_⟩;show Q (.bl (decide (i<=23))) M;rw[dP h1];exact q
 | turns i h0 h1=>refine zH (c:=decide (1<=i)) (dP h0) ⟨M,.refl,?_⟩;show Q (.bl (decide (i<=9))) M;rw[dP h1];exact q
def Bb:Fq P w K mg base 2 a.bb AS:=by
 refine fq G.bb.toDG tY (λr u=>⟨_,(pz (pR (pN (sR G) r G.m (r6 (ut u pC (pV qw Z' G.g qo (ql v0)) (sO Z' G.cE)) pD)))
 (pA (uw eX Z' (qC v0) (vk (n:=3) Z' (qD (rD 1 tY) (qD (rD 2 tY) (qD (rD 3 tY) ud))))
 (pz (pR (pN (sR G) r G.m (r6 (pN (CK G) r G.ad (ql U1)) pD)))
 (pz (pR (pN (sR G) r G.m (r6 (ut u pC U2 (sO Z' G.cF)) pD)))
 (pA (pR (pN (sR G) r G.m (r6 (ut u pC U3 (sO Z' G.cG)) pD))))))))),?_⟩)
 rintro ds M Q ⟨r,ps,rfl,Xi,h1,h8,mQ,q⟩
 have el:((ps.map rh).length:Int)=ps.length:=by rw[cQ]
 refine i' Xi (zH (c:=decide ((1:Int)<=(ps.map rh).length)) (dP (by lia)) ⟨_,by rw[dP (show((ps.map rh).length:Int)<=8 by lia)],i' Xi ?_⟩);refine Bw (λU M'=>M=M'/\∃x y z,U=[Fa (.ref r),x,y,z]) (λU M' j=>by rw[<-j.1];exact Xi) _ _ _ ⟨Z',Db,Db,Db,Z'⟩ ?_ ?_
 .rintro d hd U M' ⟨rfl,x,y,z,rfl⟩ nx WE
  obtain⟨p,hp,rfl⟩:=dw.mp hd;have o:=mQ p hp;refine⟨Z',⟨p.1,Z',o.len,_,by rw[o.nm],?_⟩⟩;refine zH (c:=decide ((1:Int)<=p.2.1)) (dP o.l1) ⟨_,by rw[dP (show p.2.1<=3 from o.l2)],?_⟩;refine zH (c:=decide ((0:Int)<=p.2.2)) (dP o.r1) ⟨_,by rw[dP (show p.2.2<=9 from o.r2)],?_⟩;exact WE _ _ ⟨Z',_,_,_,Z'⟩
 .rintro U M' ⟨rfl,x,y,z,rfl⟩
  exact⟨M,.refl,q⟩
def AQ:Fq P w K mg base 3 a.bc A8:=by
 refine fq G.bc.toDG uc (λr u=>⟨_,(pz (pR (pN (sR G) r G.m (r6 (qa u (pV qw Z' G.g qo (ql v0)) (sO Z' G.cH)) pD)))
 (pA (uw eX Z' (qC v0) (vk (n:=3) Z' (qD (rD 2 uc) (qD (rD 3 uc) (qD (rD 4 uc) ud))))
 (pz (pR (pN (sR G) r G.m (r6 (pN (CK G) r G.ad (ql U2)) pD)))
 (pz (pR (pN (sR G) r G.m (r6 (qa u U3 (sO Z' G.cI)) pD)))
 (pA (pR (pN (sR G) r G.m (r6 (pN (Am G) r G.N (rk v4 U1 (sO Z' G.cJ))) pD))))))))),?_⟩)
 rintro ds M Q ⟨r,gs,pl,pn,rfl,Xi,hp,h3,mQ,q⟩
 have el:((gs.map rF).length:Int)=gs.length:=by rw[cQ]
 refine i' Xi ⟨_,by rw[dP (show((gs.map rF).length:Int)<=3 by lia)],i' Xi ?_⟩;refine Bw (λU M'=>M=M'/\∃x y z,U=[Fa (.ref r),Fa (.ref pl),x,y,z]) (λU M' j=>by rw[<-j.1];exact Xi) _ _ _ ⟨Z',Db,Db,Db,Z'⟩ ?_ ?_
 .rintro d hd U M' ⟨rfl,x,y,z,rfl⟩ nx WE
  obtain⟨g,hg,rfl⟩:=dw.mp hd;have o:=mQ g hg;refine⟨Z',⟨g.1,Z',o.len,_,by rw[o.nm],?_⟩⟩;have hm:inD (.str g.2.1) [.str "all",.str "turns"]=pc:=by rcases o.man with e|e<;>(rw[e];rfl)
  refine⟨Z',Z',.str "a group's manner is all or turns",eJ (λb=>[D.bl b,D.str "a group's manner is all or turns"]) hm,?_⟩;refine⟨g.2.2,pn,pl,4,Z',hp,o.pk,_,by rw[o.mem],?_⟩;exact WE _ _ ⟨Z',_,_,_,Z'⟩
 .rintro U M' ⟨rfl,x,y,z,rfl⟩
  exact⟨M,.refl,q⟩
def C9:Fq P w K mg base 4 a.be Do:=by
 refine fq G.be.toDG tV (λr u=>⟨_,(pz (pR (pN (sR G) r G.m (r6 (Mc G.b0 Z' (pK v0 pC)) pD)))
 (pz (pO 3 tV (JS G.b0 Z' (pK v0 pC)))
 (pz (pO 4 tV (rC v0 (rR pC) sC))
 (pz (pR (pN (sR G) r G.m (r6 (qa u (pV qw Z' G.g qo (ql v4)) (pV qw Z' G.g qo (ql U3))) pD)))
 (pz (uw eX Z' (Ri Z' G.cC (r6 U3 v4)) (vk (n:=2) Z' (qD (rD 5 tV) (qD (rD 6 tV) ud)))
 (pA (pR (pN (sR G) r G.m (r6 (pN (Px G) r G.bd (pY v5 (rk v6 U1 U2))) pD)))))
 (pz (pS (pH u (rC U3 sC (rR pC)) (pQ (r6 pD pD)))
 (pA (pR (pN (sR G) r G.m (r6 (qa u (pK v4 pC) (pK v4 pC)) pD))))
 pL)
 (pA (pS (pH u (rC U3 (rR pC) sC) (pQ (r6 pD pD)))
 (pA (pR (pN (sR G) r G.m (r6 (qa u (pK v4 pC) (pK v4 pC)) pD))))
 pL)))))))),?_⟩)
 rintro ds M Q ⟨v,pl,nl,pn,nm,rfl,hp,hn,ok,q⟩
 have part:∀{k:Str} {d:D} {C:DK},x8 pn nm k d->C (.bl pc) M->JC [.str k,d,.ref pl,.ref nl] M C:=λo c=>⟨_,_,pl,nl,pn,nm,Z',hp,hn,o,c⟩;have need:∀{x:D} {C:DK},C .mL M->JB [.bl pc,x] M C:=λc=>⟨_,Z',c⟩;have ne:∀{x y:Str},x≠y->(!(x==y))=pc:=λh=>by simpa using h
 have nei:∀{x y:Int},x≠y->(!(x==y))=pc:=λh=>by simpa using h
 have WC:∃WA,qG WA M/\Q .mL WA:=⟨M,.refl,q⟩;cases v with
 | bar x ns=>obtain⟨h1,h2,h3⟩:=ok;refine⟨_,Z',_,Z',?_⟩;refine⟨Z',_,_,pl,nl,pn,nm,Z',hp,hn,.m7 x h1,_,Z',trivial,⟨Z',_,_,pl,nl,pn,nm,Z',hp,hn,.names ns h2 h3,_,Z',trivial,?_⟩⟩;exact⟨pk Z',pk Z',WC⟩
 | shut x ns=>obtain⟨h1,h2,h3⟩:=ok;refine⟨_,Z',_,Z',?_⟩;refine⟨Z',_,_,pl,nl,pn,nm,Z',hp,hn,.name x h1,_,Z',trivial,⟨Z',_,_,pl,nl,pn,nm,Z',hp,hn,.mI ns h2 h3,_,Z',trivial,?_⟩⟩;exact⟨pk Z',pk Z',WC⟩
 | always x y=>obtain⟨h1,h2,h3⟩:=ok;refine⟨_,Z',_,Z',?_⟩;refine⟨Z',_,_,pl,nl,pn,nm,Z',hp,hn,.name x h1,_,Z',trivial,⟨Z',_,_,pl,nl,pn,nm,Z',hp,hn,.name y h2,_,Z',trivial,?_⟩⟩;refine⟨pk Z',⟨_,by rw[ne h3],?_⟩⟩;exact⟨pk Z',WC⟩
 | night x y f l=>obtain⟨h1,h2,h3,h4,h5,h6⟩:=ok;refine⟨_,Z',_,Z',?_⟩;refine⟨Z',_,_,pl,nl,pn,nm,Z',hp,hn,.name x h1,_,Z',trivial,⟨Z',_,_,pl,nl,pn,nm,Z',hp,hn,.name y h2,_,Z',trivial,⟨Z',_,_,pl,nl,pn,nm,Z',hp,hn,.hour f h4.1 h4.2,_,Z',trivial,⟨Z',_,_,pl,nl,pn,nm,Z',hp,hn,.hour l h5.1 h5.2,_,Z',trivial,?_⟩⟩⟩⟩;refine⟨pk Z',⟨_,by rw[ne h3],?_⟩⟩;refine⟨pk Z',⟨_,by rw[nei h6],?_⟩⟩;exact WC
 | busy x y=>obtain⟨h1,h2,h3⟩:=ok;refine⟨_,Z',_,Z',?_⟩;refine⟨Z',_,_,pl,nl,pn,nm,Z',hp,hn,.name x h1,_,Z',trivial,⟨Z',_,_,pl,nl,pn,nm,Z',hp,hn,.name y h2,_,Z',trivial,?_⟩⟩;refine⟨pk Z',⟨_,by rw[ne h3],?_⟩⟩;exact⟨pk Z',WC⟩
 | silent x y n=>obtain⟨h1,h2,h3,h4,h5⟩:=ok;refine⟨_,Z',_,Z',?_⟩;refine⟨Z',_,_,pl,nl,pn,nm,Z',hp,hn,.name x h1,_,Z',trivial,⟨Z',_,_,pl,nl,pn,nm,Z',hp,hn,.name y h2,_,Z',trivial,⟨Z',_,_,pl,nl,pn,nm,Z',hp,hn,.turns n h4 h5,_,Z',trivial,?_⟩⟩⟩;refine⟨pk Z',⟨_,by rw[ne h3],?_⟩⟩;exact⟨pk Z',WC⟩
 | wait x=>refine⟨_,Z',_,Z',?_⟩;refine⟨Z',_,_,pl,nl,pn,nm,Z',hp,hn,.m7 x ok,_,Z',trivial,?_⟩;exact⟨pk Z',pk Z',WC⟩
 | breaks x=>refine⟨_,Z',_,Z',?_⟩;refine⟨Z',_,_,pl,nl,pn,nm,Z',hp,hn,.m7 x ok,_,Z',trivial,?_⟩;exact⟨pk Z',pk Z',WC⟩
def Ba:Fq P w K mg base 5 a.bf A0:=by
 refine fq G.bf.toDG uT (λr u=>⟨_,(pz (pR (pN (sR G) r G.m (r6 (qa u (pV qw Z' G.g qo (ql v0)) (sO Z' G.cK)) pD)))
 (pA (uw eX Z' (qC v0) (vk (n:=2) Z' (qD (rD 3 uT) (qD (rD 4 uT) ud)))
 (pA (pR (pN (C9 G) r G.be (rk v4 U1 U2))))))),?_⟩)
 rintro ds M Q ⟨r,ws,pl,nl,pn,nm,rfl,Xi,hp,hn,h16,mQ,q⟩
 have el:((ws.map xm).length:Int)=ws.length:=by rw[cQ]
 refine i' Xi ⟨_,by rw[dP (show((ws.map xm).length:Int)<=16 by lia)],i' Xi ?_⟩;refine Bw (λU M'=>M=M'/\∃x y,U=[Fa (.ref r),Fa (.ref pl),Fa (.ref nl),x,y]) (λU M' j=>by rw[<-j.1];exact Xi) _ _ _ ⟨Z',Db,Db,Z'⟩ ?_ ?_
 .rintro d hd U M' ⟨rfl,x,y,rfl⟩ nx WE
  obtain⟨v,hv,rfl⟩:=dw.mp hd;exact⟨Z',⟨v.2,pl,nl,pn,nm,Z',hp,hn,mQ v hv,WE _ _ ⟨Z',_,_,Z'⟩⟩⟩
 .rintro U M' ⟨rfl,x,y,rfl⟩
  exact⟨M,.refl,q⟩
structure pJ where
 mI:List uH
 groups:List ux
 mH:List vt
noncomputable def pJ.pn(l:pJ):QQQ:=l.mI.map (·.1)
noncomputable def pJ.gn(l:pJ):QQQ:=l.groups.map (·.1)
noncomputable def pJ.nm(l:pJ):QQQ:=l.pn++l.gn
structure rf(l:pJ):Prop where
 p1:1<=l.mI.length
 p8:l.mI.length<=8
 po:∀p∈l.mI,FD p
 g3:l.groups.length<=3
 go:∀g∈l.groups,Fk l.pn g
 nd:l.nm.Nodup
 w16:l.mH.length<=16
 wo:∀w∈l.mH,B5 l.pn l.nm w.2
def D5{ss:QQQ}(h:ss.Nodup):wM ss=pc:=by unfold wM;rw[yT ss h];simp
def Dp:rj:=λds M Q=>BE λr1 r2 r3 (l:pJ)=>ds=[.ref r1,.ref r2,.ref r3]/\oC M r1=Fa (l.mI.map rh)/\oC M r2=Fa (l.groups.map rF)/\oC M r3=Fa (l.mH.map xm)/\rf l/\Q .mL M
noncomputable def Bc:D->D
 | .tup (x::_)=>x
 | _=>.mL
def xi(ps:List uH):(ps.map rh).map Bc=(ps.map (·.1)).map D.str:=by rw[dZ,dZ];rfl
def wX(ps:List ux):(ps.map rF).map Bc=(ps.map (·.1)).map D.str:=by rw[dZ,dZ];rfl
def Dw:Fq P w K mg base 6 a.bg Dp:=by
 refine fq G.bg.toDG vW (λr u=>⟨_,(pz (pR (pN (Bb G) r G.bb (ql v0)))
 (pz (tj (i:=3) vW.nd Z' (Or.inl Z') Z' (xu (ix:=[Db]) (N':=["phone"])) (qC v0) (qA 0) rS (pK v0 pC))
 (pz (pR (pN (AQ G) r G.bc (r6 U1 U3)))
 (pz (pO 4 vW (qc U3 (qI Z' (xu (ix:=[Db]) (N':=["group"])) (qC U1) (qA 0) rS (pK v0 pC))))
 (pz (pR (pN (sR G) r G.m (r6 (pN (Dy G) r G.ae (ql v4)) pD)))
 (pA (pR (pN (Ba G) r G.bf (rk U2 U3 v4))))))))),?_⟩)
 rintro ds M Q ⟨r1,r2,r3,l,rfl,h1,h2,h3,ok,q⟩
 have hz:=dN;have l1:=ok.p8;have l2:=ok.g3;refine⟨r1,l.mI,Z',h1,ok.p1,ok.p8,ok.po,i' h1 ?_⟩;refine qV (f:=Bc) h1 _ [] _ (by rw[cQ];simp only[dF];lia) (λd hd k hk=>?_) λp hp=>?_
 .obtain⟨x,_,rfl⟩:=dw.mp hd;exact hk
 rw[dX,xi];obtain⟨M1,e0,s1,lp⟩:=vX (ds:=(l.mI.map (·.1)).map D.str) hp;rw[<-e0];have lp:oC M1 p=Fa (l.pn.map D.str):=lp;refine⟨r2,l.groups,p,l.pn,Z',s1.lst h2,lp,ok.g3,ok.go,?_⟩;refine i' (s1.lst h2) (qV (f:=Bc) (s1.lst h2) _ [] _ (by rw[cQ];simp only[dF];lia) (λd hd k hk=>?_) λp2 WH=>?_)
 .obtain⟨x,_,rfl⟩:=dw.mp hd;exact hk
 rw[dX,wX];have s2:=qG.new (c:=.lst ((l.groups.map (·.1)).map D.str)) WH;refine i' (s2.lst lp) (i' pM ⟨?_,λp3 hp3=>?_⟩)
 .rw[cQ,cQ,cQ];show(l.mI.map (·.1)).length+_<=_;rw[cQ];lia
 have en:l.pn.map D.str++(l.groups.map (·.1)).map D.str=l.nm.map D.str:=by unfold pJ.nm;rw[dB];rfl
 rw[en];have s3:=s2.trans (qG.new (c:=.lst (l.nm.map D.str)) hp3);have l3:=@pM (pI M1 p2 (.lst ((l.groups.map (·.1)).map D.str))) p3 (l.nm.map D.str);generalize pI (pI M1 p2 (.lst ((l.groups.map (·.1)).map D.str))) p3 (.lst (l.nm.map D.str))=M3 at s3 l3 ⊢;have ln:l.nm.length<4000:=by unfold pJ.nm pJ.pn pJ.gn;rw[cT,cQ,cQ];lia
 refine⟨_,l.nm,Z',.inr ⟨p3,Z',l3⟩,ln,_,by rw[D5 ok.nd],?_⟩;exact⟨r3,l.mH,p,p3,l.pn,l.nm,Z',s3.lst (s1.lst h3),s3.lst lp,l3,ok.w16,ok.wo,M,s1.trans s3,q⟩
noncomputable def Qn(ph gr ws on pr gd:Uf):T0 (Str×D):=[("phones",.ref ph),("groups",.ref gr),("wishes",.ref ws),("on",.ref on),("phone_rows",.ref pr),("group_rows",.ref gd)]
def QX(l:pJ):T0 (rq×D):=l.mI.map λp=>(Sum.inr p.1,rh p)
def Ik(l:pJ):T0 (rq×D):=l.groups.map λg=>(Sum.inr g.1,rF g)
def sN(a:Ad)(M:Mp)(rs:QXQ)(ws:List vt):Prop:=rs.length=ws.length/\∀(i:Nat) (r:Uf) (v:vt),rs[i]?=Fa r->ws[i]?=Fa v->M r=Fa (.ins (v.2.cls a) v.2.nK)
def sU(a:Ad)(M:Mp)(p:Uf)(l:pJ):Prop:=S4 λph gr ws on pr gd (rs:QXQ)=>M p=Fa (.ins a.h (Qn ph gr ws on pr gd))/\oC M ph=Fa (l.mI.map rh)/\oC M gr=Fa (l.groups.map rF)/\
 oC M ws=Fa (rs.map D.ref)/\oC M on=Fa (l.mH.map λw=>D.bl w.1)/\zS M pr=Fa (QX l)/\zS M gd=Fa (Ik l)/\sN a M rs l.mH
def sN.keep{p:Uf}(h:sN a M rs ws)(k:rY p M M')(n:∀r∈rs,r≠p):sN a M' rs ws:=⟨h.1,λi r v e1 e2=>k r _ (n r (eZ e1)) (h.2 i r v e1 e2)⟩
def sN.sub(h:sN a M rs ws)(k:qG M M'):sN a M' rs ws:=⟨h.1,λi r v e1 e2=>k r _ (h.2 i r v e1 e2)⟩
def sU.sub{p:Uf}(h:sU a M p l)(s:qG M M'):sU a M' p l:=by obtain⟨ph,gr,ws,on,pr,gd,rs,h1,h2,h3,h4,h5,h6,h7,h8⟩:=h;exact⟨ph,gr,ws,on,pr,gd,rs,s _ _ h1,s.lst h2,s.lst h3,s.lst h4,s.lst h5,s.dk h6,s.dk h7,h8.sub s⟩
def Oi(a:Ad):rj:=λds M Q=>FT λp r1 r2 r3 (l:pJ)=>ds=[.ref p,.ref r1,.ref r2,.ref r3]/\M p=Fa (.ins a.h [])/\oC M r1=Fa (l.mI.map rh)/\oC M r2=Fa (l.groups.map rF)/\oC M r3=Fa (l.mH.map xm)/\rf l/\
 ∀M',rY p M M'->sU a M' p l->(∀WA,(∀b c,(b=p\/M b=Db)->M' b=Fa c->WA b=Fa c)->sU a WA p l)->Q .mL M'
def rO{p x:Uf}{c:uP}(k:rY p M N)(hp:N p=Fa c)(h:N x=Db):M x=Db:=by
 cases e:M x with
 | none=>rfl
 | some d=>
  have n:x≠p:=λz=>by rw[z,hp]at h;cases h
  rw[k x d n e]at h;cases h
def zL{a:Uf}{es:T0 (rq×D)}(h:zS M a=Fa es):M a=Fa (.dk es):=by
 unfold zS at h;split at h
 .rename_i e;rw[e];cases h;rfl
 .cases h
theorem wW{α:Type}(f:α->Str)(g:α->D):∀l:List α,wK (l.map λx=>D.tup [.str (f x),g x])=Fa (l.map λx=>(Sum.inr (f x),g x))
 | []=>rfl
 | x::r=>by show(wK (r.map λx=>D.tup [.str (f x),g x])).map ((Sum.inr (f x),g x)::·)=_;rw[wW f g r];rfl
def J0{ss:QQQ}(h:ss.Nodup):(ss.map λx=>(Sum.inr x:rq)).Nodup:=by
 induction ss with
 | nil=>exact dU
 | cons x r ih=>obtain⟨h1,h2⟩:=dH.mp h;rw[dW];refine dH.mpr ⟨λz=>h1 ?_,ih h2⟩;obtain⟨y,hy,e⟩:=dw.mp z;cases e;exact hy
def yN{α:Type}{f:α->Str}{g:α->D}{l:List α}(h:(l.map f).Nodup):((l.map λx=>((Sum.inr (f x):rq),g x)).map (·.1)).Nodup:=by rw[dZ];have:=J0 h;rw[dZ]at this;exact this
def Bj(d:D):D:=.tup [Bc d,d]
noncomputable def V5:D->D
 | .tup (x::_)=>x
 | _=>.mL
def RL(ws:List vt):(ws.map xm).map V5=ws.map λw=>D.bl w.1:=by rw[dZ];rfl
def Gs(ps:List uH):(ps.map rh).map Bj=ps.map λp=>D.tup [.str p.1,rh p]:=by rw[dZ];rfl
def Gg(ps:List ux):(ps.map rF).map Bj=ps.map λp=>D.tup [.str p.1,rF p]:=by rw[dZ];rfl
def sN.snoc{r:Uf}{v:vt}(h:sN a M rs ws)(n:M r=Db):sN a (pI M r (.ins (v.2.cls a) v.2.nK)) (rs++[r]) (ws++[v]):=by
 refine⟨by rw[cT,cT,h.1];rfl,λi r' v' e1 e2=>?_⟩;by_cases hi:i<rs.length
 .rw[eW hi]at e1;rw[eW (by rw[<-h.1];exact hi)]at e2;have:=h.2 i r' v' e1 e2;rw[ua (MB this n)];exact this
 .have Yw:i=rs.length:=by have:=(cU.mp e1).1;rw[cT,dM]at this;lia
  subst Yw;rw[eE (cZ _)]at e1;rw[h.1,eE (cZ _)]at e2;simp only[gm,iA,jt]at e1 e2;subst e1 e2;exact pU
def Ol:Fq P w K mg base 7 a.ai (Oi a):=by
 refine fq G.ai.toDG FI (λr u=>⟨_,(pz (pR (pN (Dw G) r G.bg (rk U1 U2 U3)))
 (pz (qe v0 (qB tZ Z' G.y tX (ql U1)))
 (pz (qe v0 (qB tZ Z' G.y tX (ql U2)))
 (pz (qe v0 (qI Z' (xu (ix:=[Db,Db]) (N':=["on","wish"])) (qC U3) (vk (n:=2) Z' (qD (qA 0) (qD (qA 1) ud))) rS (pN (Ht G) r G.ba (ql U1))))
 (pz (qe v0 (qI Z' (xu (ix:=[Db,Db]) (N':=["on","wish"])) (qC U3) (vk (n:=2) Z' (qD (qA 0) (qD (qA 1) ud))) rS v0))
 (pz (qe v0 (qB (Eh Z') Z' G.bT Ec (ql (qI Z' (xu (ix:=[Db]) (N':=["phone"])) (qC U1) (qA 0) rS (pQ (r6 (pK v0 pC) v0))))))
 (pA (qe v0 (qB (Eh Z') Z' G.bT Ec (ql (qI Z' (xu (ix:=[Db]) (N':=["group"])) (qC U2) (qA 0) rS (pQ (r6 (pK v0 pC) v0))))))))))))),?_⟩)
 rintro ds M Q ⟨p,r1,r2,r3,l,rfl,hp,h1,h2,h3,ok,q⟩
 have hz:=dN;have l1:=ok.p8;have l2:=ok.g3;have l3:=ok.w16;refine⟨r1,r2,r3,l,Z',h1,h2,h3,ok,?_⟩;refine i' h1 λph hph=>?_;obtain⟨n1,e1,k1,c1,p1⟩:=sY (fs':=[("phones",.ref ph)]) (c:=.lst (l.mI.map rh)) hp hph;refine pB e1 ⟨(G.Y "phones" Z'),by show 0<1000;decide,?_⟩;show uz _ _ _ _ (pI (pI M ph (.lst (l.mI.map rh))) p (.ins a.h [("phones",.ref ph)]));generalize pI (pI M ph (.lst (l.mI.map rh))) p (.ins a.h [("phones",.ref ph)])=N1 at k1 c1 p1 ⊢;have Xh:=k1.lst (pW h1 hp) h1;have h2':=k1.lst (pW h2 hp) h2;have Y7:=k1.lst (pW h3 hp) h3;have f1:oC N1 ph=Fa (l.mI.map rh):=sS c1;refine i' h2' λgr hgr=>?_;obtain⟨n2,e2,k2,c2,p2⟩:=sY (fs':=[("phones",.ref ph),("groups",.ref gr)]) (c:=.lst (l.groups.map rF)) p1 hgr;refine pB e2 ⟨(G.Y "groups" Z'),by show 1<1000;decide,?_⟩;show uz _ _ _ _ (pI (pI N1 gr (.lst (l.groups.map rF))) p (.ins a.h [("phones",.ref ph),("groups",.ref gr)]));generalize pI (pI N1 gr (.lst (l.groups.map rF))) p (.ins a.h [("phones",.ref ph),("groups",.ref gr)])=N2 at k2 c2 p2 ⊢;have g1:=k2.lst (pW Xh p1) Xh;have g2:=k2.lst (pW h2' p1) h2';have g3:=k2.lst (pW Y7 p1) Y7;have f2:=k2.lst (pW f1 p1) f1;have f3:oC N2 gr=Fa (l.groups.map rF):=sS c2;have kk2:=k1.trans k2;have m2:M gr=Db:=rO k1 p1 hgr;clear Xh h2' Y7 f1 c1 c2 k1 k2 e1 e2;refine i' g3 ?_;refine Bu (l.mH.map xm) (λpre acc U Mx=>(∃x y,U=[x,y])/\qG N2 Mx/\∃rs:QXQ,acc=rs.map D.ref/\(∀r∈rs,N2 r=Db)/\sN a Mx rs (l.mH.take pre.length)) (λpre acc U Mx j=>j.2.1.lst g3) _ [] [] _ _ Z' (by rw[cQ];simp only[dF];lia) ⟨⟨Db,Db,Z'⟩,.refl,[],Z',λr hr=>absurd hr (dA),Z',λi r v e=>by simp at e⟩ ?_ ?_
 .rintro pre d post e acc U Mx ⟨⟨x,y,rfl⟩,sx,rs,rfl,fr,wa⟩ k hk
  obtain⟨v,hv,rfl⟩:∃v,l.mH[pre.length]?=Fa v/\d=xm v:=by
   have:(l.mH.map xm)[pre.length]?=Fa d:=by rw[<-e];simp
   rw[dq]at this;cases z:l.mH[pre.length]? with
   | none=>rw[z]at this;cases this
   | some v=>rw[z]at this;exact⟨v,Z',(cY this).symm⟩
  refine⟨Z',⟨v.2,Z',λr hr=>hk _ _ _ ⟨⟨_,_,Z'⟩,sx.trans (.new hr),rs++[r],?_,λr' hr'=>?_,?_⟩⟩⟩
  .rw[dB];rfl
  .rcases dR.mp hr' with z|z
   .exact fr r' z
   .rw[df.mp z];exact sx.none hr
  .rw[cT,dM,fS,hv];exact wa.snoc hr
 rintro acc U Mx ⟨⟨x,y,rfl⟩,sx,rs,rfl,fr,wa⟩ ws hws
 have wa:sN a Mx rs l.mH:=by rw[cQ,fj]at wa;exact wa
 obtain⟨n3,e3,k3,c3,p3⟩:=sY (fs':=[("phones",.ref ph),("groups",.ref gr),("wishes",.ref ws)]) (c:=.lst (rs.map D.ref)) (sx _ _ p2) hws;refine pB e3 ⟨(G.Y "wishes" Z'),by show 2<1000;decide,?_⟩;show uz _ _ _ _ (pI (pI Mx ws (.lst (rs.map D.ref))) p (.ins a.h [("phones",.ref ph),("groups",.ref gr),("wishes",.ref ws)]));generalize pI (pI Mx ws (.lst (rs.map D.ref))) p (.ins a.h [("phones",.ref ph),("groups",.ref gr),("wishes",.ref ws)])=N3 at k3 c3 p3 ⊢;have px:=sx _ _ p2;have i1:=k3.lst (pW (sx.lst g1) px) (sx.lst g1);have i2:=k3.lst (pW (sx.lst g2) px) (sx.lst g2);have i3:=k3.lst (pW (sx.lst g3) px) (sx.lst g3);have f4:=k3.lst (pW (sx.lst f2) px) (sx.lst f2);have f5:=k3.lst (pW (sx.lst f3) px) (sx.lst f3);have f6:oC N3 ws=Fa (rs.map D.ref):=sS c3;have rp:∀r∈rs,r≠p:=λr hr z=>by have:=fr r hr;rw[z,p2]at this;cases this
 have w3:=wa.keep k3 rp;have kk3:=(kk2.trans sx.keep).trans k3;have m3:M ws=Db:=rO (kk2.trans sx.keep) px hws;have mr:∀r∈rs,M r=Db:=λr hr=>rO kk2 p2 (fr r hr);clear g1 g2 g3 f2 f3 c3 k3 e3 wa px kk2;refine i' i3 (CB (f:=V5) (λU=>∃x y,U=[x,y]) i3 _ [] _ ⟨Db,Db,Z'⟩ (by rw[cQ];simp only[dF];lia) (λd hd U hj k hk=>?_) λon ZC=>?_)
 .obtain⟨x,y,rfl⟩:=hj;obtain⟨v,_,rfl⟩:=dw.mp hd;exact⟨Z',hk _ ⟨_,_,Z'⟩⟩
 rw[dX,RL];obtain⟨n4,e4,k4,c4,p4⟩:=sY (fs':=[("phones",.ref ph),("groups",.ref gr),("wishes",.ref ws),("on",.ref on)]) (c:=.lst (l.mH.map λw=>D.bl w.1)) p3 ZC;refine pB e4 ⟨(G.Y "on" Z'),by show 3<1000;decide,?_⟩;show uz _ _ _ _ (pI (pI N3 on (.lst (l.mH.map λw=>D.bl w.1))) p (.ins a.h [("phones",.ref ph),("groups",.ref gr),("wishes",.ref ws),("on",.ref on)]));generalize pI (pI N3 on (.lst (l.mH.map λw=>D.bl w.1))) p (.ins a.h [("phones",.ref ph),("groups",.ref gr),("wishes",.ref ws),("on",.ref on)])=N4 at k4 c4 p4 ⊢;have j1:=k4.lst (pW i1 p3) i1;have j2:=k4.lst (pW i2 p3) i2;have f7:=k4.lst (pW f4 p3) f4;have f8:=k4.lst (pW f5 p3) f5;have f9:=k4.lst (pW f6 p3) f6;have fa:oC N4 on=Fa (l.mH.map λw=>D.bl w.1):=sS c4;have w4:=w3.keep k4 rp;have YA:=kk3.trans k4;have m4:M on=Db:=rO kk3 p3 ZC;clear i1 i2 i3 f4 f5 f6 c4 k4 e4 w3 kk3;refine i' j1 (qV (f:=Bj) j1 _ [] _ (by rw[cQ];simp only[dF];lia) (λd hd k hk=>?_) λq1 XA=>?_)
 .obtain⟨v,_,rfl⟩:=dw.mp hd;exact⟨pk Z',hk⟩
 rw[dX,Gs];have Y8:=qG.new (c:=.lst (l.mI.map λp=>D.tup [.str p.1,rh p])) XA;refine i' pM (i' (wW (λp:uH=>p.1) rh l.mI) ⟨yN (iu (List.sublist_append_left _ _) ok.nd),λpr hpr=>?_⟩);obtain⟨n5,e5,k5,c5,p5⟩:=sY (fs':=[("phones",.ref ph),("groups",.ref gr),("wishes",.ref ws),("on",.ref on),("phone_rows",.ref pr)]) (c:=.dk (l.mI.map λx=>(Sum.inr x.1,rh x))) (Y8 _ _ p4) hpr;refine pB e5 ⟨(G.Y "phone_rows" Z'),by show 4<1000;decide,?_⟩;have k5:=Y8.keep.trans k5;have Yq:wc "phone_rows" (.ref pr) [("phones",.ref ph),("groups",.ref gr),("wishes",.ref ws),("on",.ref on)]=([("phones",.ref ph),("groups",.ref gr),("wishes",.ref ws),("on",.ref on),("phone_rows",.ref pr)]:T0 (Str×D)):=rfl;rw[Yq];generalize pI (pI (pI N4 q1 (.lst (l.mI.map λp=>D.tup [.str p.1,rh p]))) pr (.dk (l.mI.map λx=>(Sum.inr x.1,rh x)))) p (.ins a.h [("phones",.ref ph),("groups",.ref gr),("wishes",.ref ws),("on",.ref on),("phone_rows",.ref pr)])=N5 at k5 c5 p5 ⊢;have mm:=k5.lst (pW j2 p4) j2;have fb:=k5.lst (pW f7 p4) f7;have fc:=k5.lst (pW f8 p4) f8;have fd:=k5.lst (pW f9 p4) f9;have fe:=k5.lst (pW fa p4) fa;have ff:zS N5 pr=Fa (QX l):=DP c5;have w5:=w4.keep k5 rp;have YB:=YA.trans k5;have m5:M pr=Db:=rO (YA.trans Y8.keep) (Y8 _ _ p4) hpr;clear j1 j2 f7 f8 f9 fa c5 k5 e5 w4 YA;refine i' mm (qV (f:=Bj) mm _ [] _ (by rw[cQ];simp only[dF];lia) (λd hd k hk=>?_) λq2 YS=>?_)
 .obtain⟨v,_,rfl⟩:=dw.mp hd;exact⟨pk Z',hk⟩
 rw[dX,Gg];have sq2:=qG.new (c:=.lst (l.groups.map λg=>D.tup [.str g.1,rF g])) YS;refine i' pM (i' (wW (λp:ux=>p.1) rF l.groups) ⟨yN (iu (jy _ _) ok.nd),λgd hgd=>?_⟩);obtain⟨n6,e6,k6,c6,p6⟩:=sY (fs':=Qn ph gr ws on pr gd) (c:=.dk (Ik l)) (sq2 _ _ p5) hgd;have k6:=sq2.keep.trans k6;refine pB e6 ⟨(G.Y "group_rows" Z'),by show 5<1000;decide,_,.refl,?_⟩;have m6:M gd=Db:=rO (YB.trans sq2.keep) (sq2 _ _ p5) hgd;have w6:=w5.keep k6 rp;have y1:=k6.lst (pW fb p5) fb;have y2:=k6.lst (pW fc p5) fc;have y3:=k6.lst (pW fd p5) fd;have y4:=k6.lst (pW fe p5) fe;have y5:=k6.dk (BU ff p5) ff;refine q _ (YB.trans k6) ⟨ph,gr,ws,on,pr,gd,rs,p6,y1,y2,y3,y4,y5,DP c6,w6⟩ λWA hs=>?_;exact⟨ph,gr,ws,on,pr,gd,rs,hs _ _ (.inl Z') p6,sS (hs _ _ (.inr hph) (qm y1)),sS (hs _ _ (.inr m2) (qm y2)),sS (hs _ _ (.inr m3) (qm y3)),sS (hs _ _ (.inr m4) (qm y4)),DP (hs _ _ (.inr m5) (zL y5)),DP (hs _ _ (.inr m6) c6),w6.1,λi r v e1 e2=>hs _ _ (.inr (mr r (eZ e1))) (w6.2 i r v e1 e2)⟩
theorem yi{α:Type}(f:α->Str)(g:α->D)(k:Str):∀l:List α,vC (l.map λx=>((Sum.inr (f x):rq),g x)) (Sum.inr k)=(l.find? λx=>decide (f x=k)).map g
 | []=>rfl
 | x::r=>by
  have ih:=yi f g k r;unfold vC at ih ⊢;rw[dW,fF,fF];by_cases h:f x=k
  .have h':decide ((Sum.inr (f x):rq)=Sum.inr k)=pc:=dP (by rw[h]);simp[h]
  .have h':¬(Sum.inr (f x):rq)=Sum.inr k:=λz=>h (jZ z);simp only[h,h',decide_false];exact ih
noncomputable def pJ.m7(l:pJ)(x:Str):Option uH:=l.mI.find? λp=>decide (p.1=x)
noncomputable def pJ.group(l:pJ)(x:Str):Option ux:=l.groups.find? λg=>decide (g.1=x)
noncomputable def pJ.mF(l:pJ)(x:Str):QQQ:=(l.group x).elim [x] λg=>g.2.2
noncomputable def pJ.mO(l:pJ)(x:Str):Str:=(l.group x).elim "one" λg=>g.2.1
def GK(l:pJ)(x:Str):vC (QX l) (Sum.inr x)=(l.m7 x).map rh:=yi (λp:uH=>p.1) rh x l.mI
def wD(l:pJ)(x:Str):vC (Ik l) (Sum.inr x)=(l.group x).map rF:=yi (λp:ux=>p.1) rF x l.groups
def yG(a:Ad):rj:=λds M Q=>AW λp (l:pJ)=>ds=[.ref p]/\sU a M p l/\l.mI.length<=100/\∀q,M q=Db->Q (.ref q) (pI M q (.lst (l.pn.map D.str)))
def FS(a:Ad):rj:=λds M Q=>AW λp (l:pJ)=>ds=[.ref p]/\sU a M p l/\l.mI.length<=100/\l.groups.length<=100/\∀q,M q=Db->Q (.ref q) (pI M q (.lst (l.nm.map D.str)))
def ET(a:Ad):rj:=λds M Q=>BE λp x v (l:pJ)=>ds=[.ref p,.str x]/\sU a M p l/\l.m7 x=Fa v/\Q (.int v.2.1) M
def Gf(a:Ad):rj:=λds M Q=>BE λp x v (l:pJ)=>ds=[.ref p,.str x]/\sU a M p l/\l.m7 x=Fa v/\Q (.int v.2.2) M
def z9(a:Ad):rj:=λds M Q=>De λp x (l:pJ)=>ds=[.ref p,.str x]/\sU a M p l/\∀q,M q=Db->Q (.ref q) (pI M q (.lst ((l.mF x).map D.str)))
def Dk(a:Ad):rj:=λds M Q=>De λp x (l:pJ)=>ds=[.ref p,.str x]/\sU a M p l/\Q (.str (l.mO x)) M
def tQ:Fq P w K mg base 1 a.R (yG a):=by
 refine fq G.R.toDG yx (λr u=>⟨_,(pA (pF (qI Z' (xu (ix:=[Db]) (N':=["phone"])) (qC (pG v0)) (qA 0) rS (pK v0 pC)))),?_⟩)
 rintro ds M Q ⟨p,l,rfl,hp,hl,q⟩
 have hz:=dN;obtain⟨ph,gr,ws,on,pr,gd,rs,h1,h2,h3,h4,h5,h6,h7,h8⟩:=hp;refine pB h1 (i' Z' (i' h2 ?_));refine qV (f:=Bc) h2 _ [] _ (by rw[cQ];simp only[dF];lia) (λd hd k hk=>?_) λq1 XA=>?_
 .obtain⟨x,_,rfl⟩:=dw.mp hd;exact hk
 rw[dX,xi];exact⟨_,.refl,q q1 XA⟩
def C1:Fq P w K mg base 2 a.bx (FS a):=by
 refine fq G.bx.toDG CY (λr u=>⟨_,(pA (pF (qc (yr v0 G.h.toCls G.R (tQ G) r) (qI Z' (xu (ix:=[Db]) (N':=["group"])) (qC (pG v0)) (qA 0) rS (pK v0 pC))))),?_⟩)
 rintro ds M Q ⟨p,l,rfl,hp,hl,hl2,q⟩
 have hz:=dN;have WN:=hp;obtain⟨ph,gr,ws,on,pr,gd,rs,h1,h2,h3,h4,h5,h6,h7,h8⟩:=hp;refine pB h1 ⟨Z',_,⟨Z',Z'⟩,p,l,Z',WN,hl,λq1 XA=>?_⟩;obtain⟨M1,e0,s1,e1⟩:=vX (ds:=l.pn.map D.str) XA;rw[<-e0];have Y7:=s1.lst h3;refine pB (s1 _ _ h1) (i' Z' (i' Y7 ?_));refine qV (f:=Bc) Y7 _ [] _ (by rw[cQ];simp only[dF];lia) (λd hd k hk=>?_) λq2 YS=>?_
 .obtain⟨x,_,rfl⟩:=dw.mp hd;exact hk
 rw[dX,wX];have s2:=qG.new (c:=.lst ((l.groups.map (·.1)).map D.str)) YS;refine i' (s2.lst e1) (i' pM ⟨?_,λq3 hq3=>?_⟩)
 .rw[cQ,cQ,cQ];show(l.mI.map (·.1)).length+_<=_;rw[cQ];lia
 have en:l.pn.map D.str++(l.groups.map (·.1)).map D.str=l.nm.map D.str:=by unfold pJ.nm;rw[dB];rfl
 rw[en];exact⟨_,(s1.trans s2).upd,q q3 ((s1.trans s2).none hq3)⟩
def Dg:Fq P w K mg base 1 a.bF (ET a):=by
 refine fq G.bF.toDG Dd (λr u=>⟨_,(pA (pF (pK (zQ u (pG v0) U1) pC))),?_⟩)
 rintro ds M Q ⟨p,x,v,l,rfl,hp,hv,q⟩
 obtain⟨ph,gr,ws,on,pr,gd,rs,h1,h2,h3,h4,h5,h6,h7,h8⟩:=hp;exact pB h1 (i' Z' (i' Z' (i' h6 (i' (x:=rh v) (by rw[GK,hv];rfl) ⟨M,.refl,q⟩))))
def zg:Fq P w K mg base 1 a.aK (Gf a):=by
 refine fq G.aK.toDG Ez (λr u=>⟨_,(pA (pF (pK (zQ u (pG v0) U1) pC))),?_⟩)
 rintro ds M Q ⟨p,x,v,l,rfl,hp,hv,q⟩
 obtain⟨ph,gr,ws,on,pr,gd,rs,h1,h2,h3,h4,h5,h6,h7,h8⟩:=hp;exact pB h1 (i' Z' (i' Z' (i' h6 (i' (x:=rh v) (by rw[GK,hv];rfl) ⟨M,.refl,q⟩))))
def uk:Fq P w K mg base 1 a.V (z9 a):=by
 refine fq G.V.toDG zo (λr u=>⟨_,(pz (pS (Ln u U1 (pG v0))
 (pA (pF (qB tZ Z' G.y tX (ql (pK (zQ u (pG v0) U1) pC)))))
 pL)
 (pA (pF (qN (ql U1))))),?_⟩)
 rintro ds M Q ⟨p,x,l,rfl,hp,q⟩
 obtain⟨ph,gr,ws,on,pr,gd,rs,h1,h2,h3,h4,h5,h6,h7,h8⟩:=hp;refine pB h1 (i' Z' (i' h7 ?_));cases e:l.group x with
 | none=>refine HK (c:=(vC (Ik l) (Sum.inr x)).isSome) (by rw[wD,e];rfl) ⟨pk Z',λq1 XA=>⟨_,.refl,?_⟩⟩;have:=q q1 XA;unfold pJ.mF at this;rw[e]at this;exact this
 | some g=>refine zH (c:=(vC (Ik l) (Sum.inr x)).isSome) (by rw[wD,e];rfl) (pB h1 (i' Z' (i' Z' (i' h7 (i' (x:=rF g) (by rw[wD,e];rfl) λq1 XA=>⟨_,.refl,?_⟩)))));have:=q q1 XA;unfold pJ.mF at this;rw[e]at this;exact this
def xE:Fq P w K mg base 1 a.aI (Dk a):=by
 refine fq G.aI.toDG CP (λr u=>⟨_,(pz (pS (Ln u U1 (pG v0))
 (pA (pF (pK (zQ u (pG v0) U1) pC)))
 pL)
 (pA (pF pD))),?_⟩)
 rintro ds M Q ⟨p,x,l,rfl,hp,q⟩
 obtain⟨ph,gr,ws,on,pr,gd,rs,h1,h2,h3,h4,h5,h6,h7,h8⟩:=hp;refine pB h1 (i' Z' (i' h7 ?_));cases e:l.group x with
 | none=>refine HK (c:=(vC (Ik l) (Sum.inr x)).isSome) (by rw[wD,e];rfl) ⟨M,.refl,?_⟩;unfold pJ.mO at q;rw[e]at q;exact q
 | some g=>refine zH (c:=(vC (Ik l) (Sum.inr x)).isSome) (by rw[wD,e];rfl) (pB h1 (i' Z' (i' Z' (i' h7 (i' (x:=rF g) (by rw[wD,e];rfl) ⟨M,.refl,?_⟩)))));unfold pJ.mO at q;rw[e]at q;exact q
noncomputable def Ox:T0 Int:=[1,1,2,2,3]
noncomputable def Qc:T0 Int:=[0,1,1,2,5,9]
noncomputable def OA:QQQ:=["all","turns"]
noncomputable def GH(t:T0 Int)(i:Int):Int:=t.getD i.toNat 0
def vY(s:Int)(i:Nat):uH:=(word s (0+(i:Nat)),GH Ox (draw (s+17*(0+(i:Nat))*(0+(i:Nat))) 16807 5),GH Qc (draw (s+17*(0+(i:Nat))*(0+(i:Nat))) 39373 6))
def rQ(s m:Int):Nat:=(2+draw s 48271 (m - 1)).toNat
def qE(s m:Int):List uH:=(List.range (rQ s m)).map (vY s)
def Ak(s:Int)(own:QQQ)(i:Nat):ux:=(word s (8+(0+(i:Nat))),BP OA (draw (s+5*(0+(i:Nat))) 742938285 2),vI own (s+11*(0+(i:Nat))) 4)
def vH(s:Int):Nat:=(draw s 69621 3).toNat
def rb(s:Int)(own:QQQ):List ux:=(List.range (vH s)).map (Ak s own)
def Ge{ts:T0 Int}{i:Int}(h0:0<=i)(h1:i<ts.length):vA (ts.map D.int) i=Fa (D.int (GH ts i)):=by
 obtain⟨n,rfl⟩:=d6 h0;have XF:n<ts.length:=by lia
 refine ub ?_;rw[dq,cS XF];simp[GH,XF]
def BC{pre post:T0 D}{d:D}(e:pre++d::post=(List.range n).map λi=>D.int (0+(i:Nat))):d=.int (0+(pre.length:Nat))/\pre.length<n:=by
 have h:((List.range n).map λi=>D.int (0+(i:Nat)))[pre.length]?=Fa d:=by rw[<-e];simp
 have hl:pre.length<n:=by
  have:=(cU.mp h).1
  simpa using this
 rw[dq,kG hl]at h;exact⟨(cY h).symm,hl⟩
def B2{α β:Type}(f:Nat->α)(g:α->β)(n:Nat):((List.range n).map f).map g++[g (f n)]=((List.range (n+1)).map f).map g:=by rw[jY,dB,dB];rfl
def HI:rj:=λds M Q=>AW λs m=>ds=[.int s,.int m]/\2<=m/\m<=100/\∀q,M q=Db->Q (.ref q) (pI M q (.lst ((qE s m).map rh)))
def Hc:rj:=λds M Q=>De λs o own=>ds=[.int s,.ref o]/\oC M o=Fa (own.map D.str)/\own≠[]/\own.length<=64/\∀q,M q=Db->Q (.ref q) (pI M q (.lst ((rb s own).map rF)))
def wY{s m:Int}(h2:2<=m)(h:m<=100):rQ s m<=100/\2<=rQ s m:=by have d0:=qS (c:=s) (f:=48271) (m:=m - 1) (by lia);have d1:=qO (c:=s) (f:=48271) (m:=m - 1) (by lia);unfold rQ;lia
def wQ{s:Int}:vH s<=3:=by have d0:=qS (c:=s) (f:=69621) (m:=3) (by decide);have d1:=qO (c:=s) (f:=69621) (m:=3) (by decide);unfold vH;lia
def Hb:Fq P w K mg base 2 a.bh HI:=by
 refine fq G.bh.toDG uJ (λr u=>⟨_,(pz (pO 2 uJ (qN sL))
 (pz (uw eX Z' (ve Z' G.Z (ql (qc pC (pN (qK G) r G.i (rk v0 pC (qc U1 pC)))))) (rD 3 uJ)
 (pz (pO 4 uJ (pK (pQ (pY pC (pY pC (rk pC pC pC)))) (pN (qK G) r G.i (rk (qc v0 (qc (qc pC U3) U3)) pC pC))))
 (pA (pR (rG U2 (ql (pQ (rk (pN (IP G) r G.af (r6 v0 U3)) v4 (pK (pQ (pY pC (pY pC (pY pC (rk pC pC pC))))) (pN (qK G) r G.i (rk (qc v0 (qc (qc pC U3) U3)) pC pC)))))))))))
 (pA (pF U2)))),?_⟩)
 rintro ds M Q ⟨s,m,rfl,h2,h100,q⟩
 have hz:=dN;have d0:=qS (c:=s) (f:=48271) (m:=m - 1) (by lia);have d1:=qO (c:=s) (f:=48271) (m:=m - 1) (by lia);have nl:=(wY (s:=s) h2 h100).1;refine⟨pk Z',λr hr=>⟨s,_,_,Z',by show 0<m - 1;lia,Z',⟨?_,?_⟩,?_⟩⟩
 .show -(2 ^ 62)<=2+draw s 48271 (m - 1);lia
 .show 2+draw s 48271 (m - 1)<2 ^ 62;lia
 refine vh ((List.range (rQ s m)).map λi=>D.int (0+(i:Nat))) (λpre U M'=>M'=pI M r (.lst (((List.range pre.length).map (vY s)).map rh))/\∃x y,U=[Fa (.int s),Fa (.int m),Fa (.ref r),x,y]) (λ_ _ _ _=>trivial) _ [] _ _ Z' ⟨Z',Db,Db,Z'⟩ ?_ ?_
 .rintro pre d post e U M' ⟨rfl,x,y,rfl⟩ nx WE
  obtain⟨rfl,WL⟩:=BC e;generalize hi:pre.length=i at WL WE ⊢;have cm:C4 (17*(0+(i:Int))) (0+(i:Int)):=.inr ⟨by lia,by lia⟩;have c17:C4 17 (0+(i:Int)):=.inl ⟨by decide,by decide⟩;have t5:vA [D.int 1,.int 1,.int 2,.int 2,.int 3] (draw (s+17*(0+(i:Int))*(0+(i:Int))) 16807 5)=Fa (.int (vY s i).2.1):=Ge (ts:=Ox) (qS (by decide)) (qO (by decide));have t6:vA [D.int 0,.int 1,.int 1,.int 2,.int 5,.int 9] (draw (s+17*(0+(i:Int))*(0+(i:Int))) 39373 6)=Fa (.int (vY s i).2.2):=Ge (ts:=Qc) (qS (by decide)) (qO (by decide));refine⟨pk Z',c17,cm,_,_,_,Z',by decide,i' t5 ?_⟩;refine⟨by show(oC _ r).isSome=pc;rw[pM];rfl,s,_,Z',pk Z',c17,cm,_,_,_,Z',by decide,i' t6 ⟨pk Z',i' pM ⟨?_,?_⟩⟩⟩
  .rw[cQ,cQ,eD];lia
  .refine WE _ _ ⟨?_,_,_,Z'⟩;rw[rK,cT,hi];show pI M r (.lst (_++[rh (vY s i)]))=_;rw[B2];rfl
 .rintro U M' ⟨rfl,x,y,rfl⟩
  refine⟨_,.refl,?_⟩;rw[cQ,eD];exact q r hr
def HD:Fq P w K mg base 3 a.bi Hc:=by
 refine fq G.bi.toDG uK (λr u=>⟨_,(pz (pO 2 uK (qN sL))
 (pz (uw eX Z' (ve Z' G.Z (ql (pN (qK G) r G.i (rk v0 pC pC)))) (rD 3 uK)
 (pz (pO 4 uK (pK (pQ (r6 pD pD)) (pN (qK G) r G.i (rk (qc v0 (qc pC U3)) pC pC))))
 (pA (pR (rG U2 (ql (pQ (rk (pN (IP G) r G.af (r6 v0 (qc pC U3))) v4 (pN (yq G) r G.P (rk U1 (qc v0 (qc pC U3)) pC))))))))))
 (pA (pF U2)))),?_⟩)
 rintro ds M Q ⟨s,o,own,rfl,ho,WR,h64,q⟩
 have hz:=dN;have d0:=qS (c:=s) (f:=69621) (m:=3) (by decide);have d1:=qO (c:=s) (f:=69621) (m:=3) (by decide);have nl:=wQ (s:=s);refine⟨pk Z',λr hr=>⟨s,_,_,Z',by decide,Z',⟨?_,?_⟩,?_⟩⟩
 .show -(2 ^ 62)<=draw s 69621 3;lia
 .show draw s 69621 3<2 ^ 62;lia
 have nor:o≠r:=λz=>by rw[z]at ho;unfold oC at ho;rw[hr]at ho;cases ho
 refine vh ((List.range (vH s)).map λi=>D.int (0+(i:Nat))) (λpre U M'=>M'=pI M r (.lst (((List.range pre.length).map (Ak s own)).map rF))/\∃x y,U=[Fa (.int s),Fa (.ref o),Fa (.ref r),x,y]) (λ_ _ _ _=>trivial) _ [] _ _ Z' ⟨Z',Db,Db,Z'⟩ ?_ ?_
 .rintro pre d post e U M' ⟨rfl,x,y,rfl⟩ nx WE
  obtain⟨rfl,WL⟩:=BC e;generalize hi:pre.length=i at WL WE ⊢;have c5:C4 5 (0+(i:Int)):=.inl ⟨by decide,by decide⟩;have c11:C4 11 (0+(i:Int)):=.inl ⟨by decide,by decide⟩;have tm:vA [D.str "all",.str "turns"] (draw (s+5*(0+(i:Int))) 742938285 2)=Fa (.str (Ak s own i).2.1):=Hr (row:=OA) (qS (by decide)) (qO (by decide));have Xd:oC (pI M r (.lst (((List.range i).map (Ak s own)).map rF))) o=Fa (own.map D.str):=by unfold oC;rw[ua nor];exact ho
  refine⟨pk Z',c5,_,_,_,Z',by decide,i' tm ?_⟩;refine⟨by show(oC _ r).isSome=pc;rw[pM];rfl,s,_,Z',c11,o,_,_,own,Z',Xd,WR,by decide,h64,pk Z',i' pM ⟨?_,?_⟩⟩
  .rw[cQ,cQ,eD];lia
  .refine WE _ _ ⟨?_,_,_,Z'⟩;rw[rK,cT,hi];show pI M r (.lst (_++[rF (Ak s own i)]))=_;rw[B2];rfl
 .rintro U M' ⟨rfl,x,y,rfl⟩
  refine⟨_,.refl,?_⟩;rw[cQ,eD];exact q r hr
def Jf(ns:T0 Int)(own nm:QQQ)(i:Nat):vt:=(decide (0<draw (cell ns (1+(0+(i:Nat)))+31*(0+(i:Nat))*(0+(i:Nat))) 22695477 6),wF (cell ns (1+(0+(i:Nat)))+31*(0+(i:Nat))*(0+(i:Nat))) own nm)
def w9(s:Int):Nat:=(draw s 950706376 11).toNat
def wz(ns:T0 Int)(m:Int):pJ:=
 let s:=cell ns 0;let own:=(qE s m).map (·.1);let gs:=rb s own
 ⟨qE s m,gs,(List.range (w9 s)).map (Jf ns own (own++gs.map (·.1)))⟩
def MF:rj:=λds M Q=>AW λns m=>ds=[.rl (ns.map D.int),.int m]/\2<=m/\m<=8/\∀r1 r2 r3 M',qG M M'->oC M' r1=Fa ((wz ns m).mI.map rh)->oC M' r2=Fa ((wz ns m).groups.map rF)->oC M' r3=Fa ((wz ns m).mH.map xm)->Q (.tup [.ref r1,.ref r2,.ref r3]) M'
def Nb:Fq P w K mg base 4 a.bk MF:=by
 refine fq G.bk.toDG sv (λr u=>⟨_,(pz (pO 2 sv (pN (LQ G) r G.O (r6 v0 pC)))
 (pz (pO 3 sv (pN (Hb G) r G.bh (r6 U2 U1)))
 (pz (tj (i:=4) sv.nd Z' (Or.inl Z') Z' (xu (ix:=[Db]) (N':=["_law_phone"])) (qC U3) (qA 0) rS (pK v0 pC))
 (pz (pO 5 sv (pN (HD G) r G.bi (r6 U2 v4)))
 (pz (pO 6 sv (qc v4 (qI Z' (xu (ix:=[Db]) (N':=["_law_group"])) (qC v5) (qA 0) rS (pK v0 pC))))
 (pz (pO 7 sv (qN sL))
 (pz (uw eX Z' (ve Z' G.Z (ql (pN (qK G) r G.i (rk U2 pC pC)))) (rD 8 sv)
 (pz (pO 9 sv (qc (pN (LQ G) r G.O (r6 v0 (qc pC v8))) (qc (qc pC v8) v8)))
 (pA (pR (rG v7 (ql (pQ (r6 (qa u (pN (qK G) r G.i (rk v9 pC pC)) pC) (pN (PQ G) r G.bj (rk v9 v4 v6))))))))))
 (pA (pF (pQ (rk U3 v5 v7))))))))))),?_⟩)
 rintro ds M Q ⟨ns,m,rfl,h2,h8,q⟩
 have hz:=dN;have pl:=wY (s:=cell ns 0) h2 (by lia);have p8:rQ (cell ns 0) m<=8:=by have d1:=qO (c:=cell ns 0) (f:=48271) (m:=m - 1) (by lia);unfold rQ;lia
 have gl:=wQ (s:=cell ns 0);have lp:(qE (cell ns 0) m).length=rQ (cell ns 0) m:=by unfold qE;rw[cQ,eD]
 refine⟨ns,0,Z',cell ns 0,m,Z',h2,by lia,λr1 Xi=>?_⟩;obtain⟨M1,e0,s1,a1⟩:=vX (ds:=(qE (cell ns 0) m).map rh) Xi;rw[<-e0];refine i' a1 (qV (f:=Bc) a1 _ [] _ (by rw[cQ];simp only[dF];lia) (λd hd k hk=>?_) λo ho=>?_)
 .obtain⟨x,_,rfl⟩:=dw.mp hd;exact hk
 rw[dX,xi];have s2:=s1.trans (qG.new (c:=.lst (((qE (cell ns 0) m).map (·.1)).map D.str)) ho);have b1:=(qG.new (c:=.lst (((qE (cell ns 0) m).map (·.1)).map D.str)) ho).lst a1;have bo:=@pM M1 o (((qE (cell ns 0) m).map (·.1)).map D.str);generalize pI M1 o (.lst (((qE (cell ns 0) m).map (·.1)).map D.str))=M2 at s2 b1 bo ⊢;have ol:((qE (cell ns 0) m).map (·.1)).length=rQ (cell ns 0) m:=by rw[cQ,lp]
 have one:(qE (cell ns 0) m).map (·.1)≠[]:=λz=>by rw[z]at ol;have:0=rQ (cell ns 0) m:=ol;lia
 have WN:wz ns m=⟨qE (cell ns 0) m,rb (cell ns 0) ((qE (cell ns 0) m).map (·.1)),(List.range (w9 (cell ns 0))).map (Jf ns ((qE (cell ns 0) m).map (·.1)) ((qE (cell ns 0) m).map (·.1)++(rb (cell ns 0) ((qE (cell ns 0) m).map (·.1))).map (·.1)))⟩:=rfl;rw[WN]at q;generalize (qE (cell ns 0) m).map (·.1)=own at bo ol one q ⊢;refine⟨cell ns 0,o,own,Z',bo,one,by lia,λr2 YT=>?_⟩;obtain⟨M3,e0,t3,c2⟩:=vX (ds:=(rb (cell ns 0) own).map rF) YT;rw[<-e0];have c1:=t3.lst b1;have co:=t3.lst bo;have s3:=s2.trans t3;have gll:(rb (cell ns 0) own).length=vH (cell ns 0):=by unfold rb;rw[cQ,eD]
 refine i' c2 (qV (f:=Bc) c2 _ [] _ (by rw[cQ];simp only[dF];lia) (λd hd k hk=>?_) λx4 hx4=>?_)
 .obtain⟨x,_,rfl⟩:=dw.mp hd;exact hk
 rw[dX,wX];have t4:=qG.new (c:=.lst (((rb (cell ns 0) own).map (·.1)).map D.str)) hx4;refine i' (t4.lst co) (i' pM ⟨?_,λn hn=>?_⟩)
 .rw[cQ,cQ,cQ];lia
 have en:own.map D.str++((rb (cell ns 0) own).map (·.1)).map D.str=(own++(rb (cell ns 0) own).map (·.1)).map D.str:=by rw[dB]
 rw[en];have nl:(own++(rb (cell ns 0) own).map (·.1)).length=rQ (cell ns 0) m+vH (cell ns 0):=by rw[cT,cQ,ol,gll]
 have t5:=t4.trans (qG.new (c:=.lst ((own++(rb (cell ns 0) own).map (·.1)).map D.str)) hn);have en5:=@pM (pI M3 x4 (.lst (((rb (cell ns 0) own).map (·.1)).map D.str))) n ((own++(rb (cell ns 0) own).map (·.1)).map D.str);have e1:=t5.lst c1;have e2:=t5.lst c2;have eo:=t5.lst co;have s5:=s3.trans t5;generalize pI (pI M3 x4 (.lst (((rb (cell ns 0) own).map (·.1)).map D.str))) n (.lst ((own++(rb (cell ns 0) own).map (·.1)).map D.str))=M5 at s5 e1 e2 eo en5 ⊢;generalize own++(rb (cell ns 0) own).map (·.1)=nm at en5 nl q ⊢;have d0:=qS (c:=cell ns 0) (f:=950706376) (m:=11) (by decide);have d1:=qO (c:=cell ns 0) (f:=950706376) (m:=11) (by decide);refine⟨pk Z',λr3 Y9=>⟨_,_,_,Z',by decide,Z',⟨?_,?_⟩,?_⟩⟩
 .show -(2 ^ 62)<=draw (cell ns 0) 950706376 11;lia
 .show draw (cell ns 0) 950706376 11<2 ^ 62;lia
 have t6:=qG.new (c:=.lst []) Y9;have g3:=@pM M5 r3 [];have no:o≠r3:=λz=>by have:=qm eo;rw[z,Y9]at this;cases this
 have nn:n≠r3:=λz=>by have:=qm en5;rw[z,Y9]at this;cases this
 have n1:r1≠r3:=λz=>by have:=qm e1;rw[z,Y9]at this;cases this
 have n2:r2≠r3:=λz=>by have:=qm e2;rw[z,Y9]at this;cases this
 have f1:=t6.lst e1;have f2:=t6.lst e2;have fo:=t6.lst eo;have fn:=t6.lst en5;have k6:qG M (pI M5 r3 (.lst [])):=s5.trans t6;have nr:M r3=Db:=s5.none Y9;generalize pI M5 r3 (.lst [])=M6 at f1 f2 fo fn k6 g3 ⊢;have wl:w9 (cell ns 0)<=10:=by unfold w9;lia
 refine vh ((List.range (w9 (cell ns 0))).map λi=>D.int (0+(i:Nat))) (λpre U M'=>rY r3 M6 M'/\oC M' r3=Fa (((List.range pre.length).map (Jf ns own nm)).map xm)/\∃x y,U=[Fa (.rl (ns.map D.int)),Fa (.int m),Fa (.int (cell ns 0)),Fa (.ref r1),Fa (.ref o),Fa (.ref r2),Fa (.ref n),Fa (.ref r3),x,y]) (λp U M' j=>trivial) _ [] _ _ Z' ⟨λ_ _ _ h=>h,g3,Db,Db,Z'⟩ ?_ ?_
 .rintro pre d post e U M' ⟨kp,lr,x,y,rfl⟩ nx WE
  obtain⟨rfl,WL⟩:=BC e;generalize hi:pre.length=i at WL WE lr ⊢;have c31:C4 31 (0+(i:Int)):=.inl ⟨by decide,by decide⟩;have cm:C4 (31*(0+(i:Int))) (0+(i:Int)):=.inr ⟨by lia,by lia⟩;refine⟨ns,_,Z',c31,cm,?_⟩;refine⟨by show(oC M' r3).isSome=pc;rw[lr];rfl,_,_,_,Z',by decide,_,o,n,own,nm,Z',kp.lst no fo,kp.lst nn fn,one,by lia,by lia,by lia,pk Z',i' lr ⟨?_,?_⟩⟩
  .rw[cQ,cQ,eD];lia
  .refine WE _ _ ⟨kp.trans .put,?_,_,_,Z'⟩;rw[pM,cT,hi];show Fa (_++[xm (Jf ns own nm i)])=_;rw[B2];rfl
 .rintro U M' ⟨kp,lr,x,y,rfl⟩
  rw[cQ,eD]at lr;exact⟨pk Z',M',.refl,q r1 r2 r3 M' (λb c h=>kp b c (λz=>by rw[z,nr]at h;cases h) (k6 b c h)) (kp.lst n1 f1) (kp.lst n2 f2) lr⟩
theorem BB(x:Array Nat):∀(n:Nat) (acc:Array Nat),((List.replicate n x).foldl (·++·) acc).toList=acc.toList++(List.replicate n x.toList).flatten
 | 0,acc=>by simp
 | n+1,acc=>by rw[eG,fU,BB x n (acc++x),eG,fK,iX,eh]
theorem F2(c:Nat):∀n:Nat,(List.replicate n [c]).flatten=List.replicate n c
 | 0=>rfl
 | n+1=>by rw[eG,fK,F2 c n,eG];rfl
def DY(i n:Int):(yP (ug i) n).cps.toList=List.replicate n.toNat (97+i.toNat):=by show((List.replicate n.toNat (ug i).cps).foldl (·++·) #[]:Array Nat).toList=_;rw[BB];show[]++(List.replicate n.toNat [97+i.toNat]).flatten=_;rw[dX,F2]
def yp(s v:Int):(word s v).cps.toList=List.replicate (ui s).toNat (97+(s / 36 % 26).toNat)++(97+((s / 936+v) % 26).toNat)::List.replicate (size s - 1 - ui s).toNat (97+(s / 36 % 26).toNat):=by show((yP (ug (s / 36 % 26)) (ui s)).cps++(ug ((s / 936+v) % 26)).cps++(yP (ug (s / 36 % 26)) (size s - 1 - ui s)).cps).toList=_;rw[iX,iX,DY,DY];show _++[97+((s / 936+v) % 26).toNat]++_=_;rw[eh];rfl
def BO(s v:Int):1<=(word s v).length/\(word s v).length<=6:=by
 have e:(word s v).length=(word s v).cps.toList.length:=by simp[Str.length]
 rw[e,yp,cT,dS,iI,iI];have h1:=F1 s;have h2:=IG s;have h3:0<=ui s:=eR _ (by lia);have h4:ui s<size s:=eM _ h1;lia
def K6{i:Int}(h0:0<=i)(h1:i<26):Du ⟨#[97+i.toNat]⟩ um=pc:=by
 obtain⟨n,rfl⟩:=d6 h0;have hn:n<26:=by lia
 have key:∀n:_root_.Fin 26,Du ⟨#[97+n.val]⟩ um=pc:=by decide+kernel
 exact key ⟨n,hn⟩
def DI(s v:Int):ul (word s v)=pc:=by
 obtain⟨h1,h2⟩:=BO s v;unfold ul;rw[dP (show(1:Int)<=(word s v).length by lia),dP (show((word s v).length:Int)<=6 by lia),eF,eF,eY];intro c hc;rw[yp]at hc;have k1:=K6 (eR (s / 36) (show(26:Int)≠0 by decide)) (eM (s / 36) (by decide));have k2:=K6 (eR (s / 936+v) (show(26:Int)≠0 by decide)) (eM (s / 936+v) (by decide));rcases dR.mp hc with z|z
 .rw[jP z];exact k1
 .rcases de.mp z with z|z
  .rw[z];exact k2
  .rw[jP z];exact k1
def BW{s u v:Int}(hu:0<=u)(hu':u<26)(hv:0<=v)(hv':v<26)(e:word s u=word s v):u=v:=by
 have e':(word s u).cps.toList=(word s v).cps.toList:=by rw[e]
 rw[yp,yp]at e';have:=(List.append_cancel_left e');have:=(gG this).1;have a1:=eR (s / 936+u) (show(26:Int)≠0 by decide);have a2:=eR (s / 936+v) (show(26:Int)≠0 by decide);have h:(s / 936+u) % 26=(s / 936+v) % 26:=by lia
 lia
def FC{ss:QQQ}{x:Str}(h:x∈ss):xQ ss x:=gy.mpr ⟨x,h,by simp⟩
def Bm{row:QQQ}{i:Int}(h0:0<=i)(h1:i<row.length):BP row i∈row:=by
 obtain⟨n,rfl⟩:=d6 h0;have hn:n<row.length:=by lia
 have:BP row (n:Int)=row[n]:=by simp[BP,hn]
 rw[this];exact gO hn
def Ir{row:QQQ}{i j:Int}(nd:row.Nodup)(h0:0<=i)(h1:i<row.length)(g0:0<=j)(g1:j<row.length)(e:BP row i=BP row j):i=j:=by
 obtain⟨n,rfl⟩:=d6 h0;obtain⟨k,rfl⟩:=d6 g0;have hn:n<row.length:=by lia
 have hk:k<row.length:=by lia
 have e1:BP row (n:Int)=row[n]:=by simp[BP,hn]
 have e2:BP row (k:Int)=row[k]:=by simp[BP,hk]
 rw[e1,e2]at e;have pw:=jz.mp nd;rcases Nat.lt_trichotomy n k with z|z|z
 .exact absurd e (pw n k hn hk z)
 .rw[z]
 .exact absurd e.symm (pw k n hk hn z)
def Ai{α:Type}(f:Nat->α)(n:Nat)(h:∀i j,i<n->j<n->f i=f j->i=j):((List.range n).map f).Nodup:=by refine jz.mpr λi j hi hj WL e=>?_;rw[cQ,eD]at hi hj;rw[lV,lV,lj,lj]at e;have:=h i j hi hj e;lia
def BG{row:QQQ}{c m:Int}(hr:row≠[])(hm:0<m):1<=xo row c m/\(xo row c m:Int)<=m/\xo row c m<=row.length:=by
 have hl:0<row.length:=eV.mpr hr;have d0:=qS (c:=c) (f:=40692) (m:=if (row.length:Int)<m then(row.length:Int)else m) (by split<;>lia);have d1:=qO (c:=c) (f:=40692) (m:=if (row.length:Int)<m then(row.length:Int)else m) (by split<;>lia);unfold xo;by_cases h:(row.length:Int)<m
 .rw[cX h]at d0 d1 ⊢;lia
 .rw[cV h]at d0 d1 ⊢;lia
def B8{row:QQQ}{c:Int}(hr:row≠[])(j:Nat):0<=(draw c 69621 row.length+(0+(j:Nat))) % (row.length:Int)/\(draw c 69621 row.length+(0+(j:Nat))) % (row.length:Int)<row.length:=by have hl:0<row.length:=eV.mpr hr;exact⟨eR _ (by lia),eM _ (by lia)⟩
def IL{d n i j:Int}(hn:0<n)(hi:0<=i)(Yw:i<n)(hj:0<=j)(hj':j<n)(e:(d+i) % n=(d+j) % n):i=j:=by
 have h1:=kh (d+i) n;have h2:=kh (d+j) n;generalize (d+i) / n=a at h1;generalize (d+j) / n=b at h2;have h3:i - j=n*(a - b):=by rw[Int.mul_sub];lia
 rcases Int.lt_trichotomy (a - b) 0 with z|z|z
 .have:n*(a - b)<=n*(-1):=iV (by lia) (by lia);lia
 .rw[z]at h3;lia
 .have:n*1<=n*(a - b):=iV (by lia) (by lia);lia
def Hw{row:QQQ}{c m:Int}(nd:row.Nodup)(hr:row≠[])(hm:0<m):(vI row c m).Nodup:=by have hl:0<row.length:=eV.mpr hr;obtain⟨_,_,l3⟩:=BG (c:=c) hr hm;refine Ai _ _ λi j hi hj e=>?_;obtain⟨a0,a1⟩:=B8 (c:=c) hr i;obtain⟨b0,b1⟩:=B8 (c:=c) hr j;have e':=Ir nd a0 a1 b0 b1 e;have:=IL (d:=draw c 69621 row.length) (n:=row.length) (i:=0+(i:Nat)) (j:=0+(j:Nat)) (by lia) (by lia) (by lia) (by lia) (by lia) e';lia
def xy{row:QQQ}{c m k:Int}(nd:row.Nodup)(hr:row≠[])(hm:0<m)(hk:m<=k):sH (vI row c m) row k=pc:=by
 obtain⟨l1,l2,l3⟩:=BG (c:=c) hr hm;have el:(vI row c m).length=xo row c m:=by unfold vI;rw[cQ,eD]
 unfold sH;rw[el,dP (show(1:Int)<=xo row c m by lia),dP (show(xo row c m:Int)<=k by lia),D5 (Hw nd hr hm),eF,eF,eF,eY];intro x hx;unfold vI at hx;obtain⟨j,_,rfl⟩:=dw.mp hx;obtain⟨a0,a1⟩:=B8 (c:=c) hr j;exact FC (Bm a0 a1)
def BA{row:QQQ}{c m:Int}(hr:row≠[])(hm:0<m)(h:m<=100):(vI row c m).length<4000:=by
 obtain⟨l1,l2,l3⟩:=BG (c:=c) hr hm;have el:(vI row c m).length=xo row c m:=by unfold vI;rw[cQ,eD]
 lia
def PK{c:Int}{own all:QQQ}(no:own.Nodup)(na:all.Nodup)(ho:own≠[])(ha:2<=all.length):B5 own all (wF c own all):=by
 have hl:(0:Int)<own.length:=by have:=eV.mpr ho;lia
 have ha0:all≠[]:=λz=>by rw[z]at ha;simp at ha
 have hx:=FC (Bm (qS (c:=c) (f:=16807) hl) (qO (c:=c) (f:=16807) hl));have p0:=qS (c:=c) (f:=39373) (m:=all.length) (by lia);have p1:=qO (c:=c) (f:=39373) (m:=all.length) (by lia);have e0:=qS (c:=c) (f:=742938285) (m:=(all.length:Int) - 1) (by lia);have e1:=qO (c:=c) (f:=742938285) (m:=(all.length:Int) - 1) (by lia);have z0:=eR (draw c 39373 all.length+1+draw c 742938285 ((all.length:Int) - 1)) (show(all.length:Int)≠0 by lia);have z1:=eM (draw c 39373 all.length+1+draw c 742938285 ((all.length:Int) - 1)) (show(0:Int)<all.length by lia);have hy:=FC (Bm p0 p1);have hzz:=FC (Bm z0 z1);have ne:BP all (draw c 39373 all.length)≠BP all ((draw c 39373 all.length+1+draw c 742938285 ((all.length:Int) - 1)) % all.length):=λz=>by
  have q:=Ir na p0 p1 z0 z1 z;have q2:(draw c 39373 all.length+0) % (all.length:Int)=(draw c 39373 all.length+(1+draw c 742938285 ((all.length:Int) - 1))) % (all.length:Int):=by rw[Int.add_zero,Int.emod_eq_of_lt p0 p1,<-Int.add_assoc];exact q
  have:=IL (by lia) (by lia) (by lia) (by lia) (by lia) q2;lia
 have f0:=qS (c:=c) (f:=22695477) (m:=24) (by decide);have f1:=qO (c:=c) (f:=22695477) (m:=24) (by decide);have g0:=qS (c:=c) (f:=48271) (m:=23) (by decide);have g1:=qO (c:=c) (f:=48271) (m:=23) (by decide);have t0:=qS (c:=c) (f:=950706376) (m:=5) (by decide);have t1:=qO (c:=c) (f:=950706376) (m:=5) (by decide);unfold wF;simp only;split
 .exact⟨hx,BA ha0 (by decide) (by decide),xy na ha0 (by decide) (by decide)⟩
 .split
  .exact⟨hy,BA ho (by decide) (by decide),xy no ho (by decide) (by decide)⟩
  .split
   .exact⟨hy,hzz,ne⟩
   .split
    .refine⟨hy,hzz,ne,⟨f0,by lia⟩,⟨eR _ (by decide),?_⟩,?_⟩
     .have:=eM (draw c 22695477 24+1+draw c 48271 23) (show(0:Int)<24 by decide);lia
     .omega
    .split
     .exact⟨hy,hzz,ne⟩
     .split
      .refine⟨hy,hzz,ne,?_⟩;generalize draw c 950706376 5=d at t0 t1;have:d=0\/d=1\/d=2\/d=3\/d=4:=by lia
       rcases this with z|z|z|z|z<;>(subst z;decide)
      .split
       .exact hx
       .exact hx
def L9(s:Int)(i:Nat):FD (vY s i):=by
 have t0:=qS (c:=s+17*(0+(i:Nat))*(0+(i:Nat))) (f:=16807) (m:=5) (by decide);have t1:=qO (c:=s+17*(0+(i:Nat))*(0+(i:Nat))) (f:=16807) (m:=5) (by decide);have u0:=qS (c:=s+17*(0+(i:Nat))*(0+(i:Nat))) (f:=39373) (m:=6) (by decide);have u1:=qO (c:=s+17*(0+(i:Nat))*(0+(i:Nat))) (f:=39373) (m:=6) (by decide);have a:1<=(vY s i).2.1/\(vY s i).2.1<=3:=by
  show 1<=GH Ox (draw (s+17*(0+(i:Nat))*(0+(i:Nat))) 16807 5)/\GH Ox (draw (s+17*(0+(i:Nat))*(0+(i:Nat))) 16807 5)<=3;generalize draw (s+17*(0+(i:Nat))*(0+(i:Nat))) 16807 5=d at t0 t1;have:d=0\/d=1\/d=2\/d=3\/d=4:=by lia
  rcases this with z|z|z|z|z<;>(subst z;decide)
 have b:0<=(vY s i).2.2/\(vY s i).2.2<=9:=by
  show 0<=GH Qc (draw (s+17*(0+(i:Nat))*(0+(i:Nat))) 39373 6)/\GH Qc (draw (s+17*(0+(i:Nat))*(0+(i:Nat))) 39373 6)<=9;generalize draw (s+17*(0+(i:Nat))*(0+(i:Nat))) 39373 6=d at u0 u1;have:d=0\/d=1\/d=2\/d=3\/d=4\/d=5:=by lia
  rcases this with z|z|z|z|z|z<;>(subst z;decide)
 exact⟨dY (BO s (0+(i:Nat))).2 (by decide),DI _ _,a.1,a.2,b.1,b.2⟩
def LH{s:Int}{own:QQQ}(nd:own.Nodup)(hr:own≠[])(i:Nat):Fk own (Ak s own i):=by
 have t0:=qS (c:=s+5*(0+(i:Nat))) (f:=742938285) (m:=2) (by decide);have t1:=qO (c:=s+5*(0+(i:Nat))) (f:=742938285) (m:=2) (by decide);refine⟨dY (BO s (8+(0+(i:Nat)))).2 (by decide),DI _ _,?_,BA hr (by decide) (by decide),xy nd hr (by decide) (by decide)⟩;show BP OA (draw (s+5*(0+(i:Nat))) 742938285 2)="all"\/BP OA (draw (s+5*(0+(i:Nat))) 742938285 2)="turns";generalize draw (s+5*(0+(i:Nat))) 742938285 2=d at t0 t1;have:d=0\/d=1:=by lia
 rcases this with z|z
 .subst z;exact .inl Z'
 .subst z;exact .inr Z'
def ML(s m:Int):(qE s m).map (·.1)=(List.range (rQ s m)).map λi=>word s (0+(i:Nat)):=by unfold qE;rw[dZ];rfl
def Gr{s m:Int}(h2:2<=m)(h8:m<=8):((qE s m).map (·.1)).Nodup/\∀own,((qE s m).map (·.1)++(rb s own).map (·.1)).Nodup:=by
 have d1:=qO (c:=s) (f:=48271) (m:=m - 1) (by lia);have d0:=qS (c:=s) (f:=48271) (m:=m - 1) (by lia);have p8:rQ s m<=8:=by unfold rQ;lia
 have g3:=wQ (s:=s);have a:((qE s m).map (·.1)).Nodup:=by rw[ML];refine Ai _ _ λi j hi hj e=>?_;have:=BW (by lia) (by lia) (by lia) (by lia) e;lia
 refine⟨a,λown=>?_⟩;have ge:(rb s own).map (·.1)=(List.range (vH s)).map λi=>word s (8+(0+(i:Nat))):=by unfold rb;rw[dZ];rfl
 rw[fm];refine⟨a,?_,λx hx y hy e=>?_⟩
 .rw[ge];refine Ai _ _ λi j hi hj e=>?_;have:=BW (by lia) (by lia) (by lia) (by lia) e;lia
 .rw[ML]at hx;rw[ge]at hy;obtain⟨i,hi,rfl⟩:=dw.mp hx;obtain⟨j,hj,rfl⟩:=dw.mp hy;have hi:=gf.mp hi;have hj:=gf.mp hj;have:=BW (by lia) (by lia) (by lia) (by lia) e;lia
def NW{m:Int}(h2:2<=m)(h8:m<=8):rf (wz ns m):=by
 obtain⟨n1,n2⟩:=Gr (s:=cell ns 0) h2 h8;have pl:=wY (s:=cell ns 0) h2 (by lia);have p8:rQ (cell ns 0) m<=8:=by have d1:=qO (c:=cell ns 0) (f:=48271) (m:=m - 1) (by lia);unfold rQ;lia
 have lp:(qE (cell ns 0) m).length=rQ (cell ns 0) m:=by unfold qE;rw[cQ,eD]
 have ol:((qE (cell ns 0) m).map (·.1)).length=rQ (cell ns 0) m:=by rw[cQ,lp]
 have one:(qE (cell ns 0) m).map (·.1)≠[]:=λz=>by rw[z]at ol;have:0=rQ (cell ns 0) m:=ol;lia
 have gl:(rb (cell ns 0) ((qE (cell ns 0) m).map (·.1))).length=vH (cell ns 0):=by unfold rb;rw[cQ,eD]
 refine⟨?_,?_,λp hp=>?_,?_,λg hg=>?_,n2 _,?_,λv hv=>?_⟩
 .show 1<=(qE (cell ns 0) m).length;lia
 .show(qE (cell ns 0) m).length<=8;lia
 .obtain⟨i,_,rfl⟩:=dw.mp hp;exact L9 _ i
 .show(rb (cell ns 0) ((qE (cell ns 0) m).map (·.1))).length<=3;rw[gl];exact wQ
 .obtain⟨i,_,rfl⟩:=dw.mp hg;exact LH n1 one i
 .show((List.range (w9 (cell ns 0))).map _).length<=16;rw[cQ,eD];have d1:=qO (c:=cell ns 0) (f:=950706376) (m:=11) (by decide);unfold w9;lia
 .obtain⟨i,hi,rfl⟩:=dw.mp hv;refine PK n1 (n2 _) one ?_;show 2<=((qE (cell ns 0) m).map (·.1)++_).length;rw[cT,ol];lia
structure pE where
 st:Str
 cr:Str
 way:QQQ
 at_:QQQ
 ms:QQQ
 hd:Option Str
 si:Int
 wd:Option Str
structure rW where
 i:Nat
 f:Str
 g:Str
 y:Str
inductive Ev
 | new (n:Nat) (x:Str)
 | mT (v:rW)
 | asks (i:Nat) (z:Str) (ns:List Nat)
 | next (z:Str) (n:Int)
 | merge (i j:Nat) (ms:QQQ)
 | turn
 | sw (b:Bool) (i:Nat)
 | rings (i:Nat) (ps:QQQ)
 | quiet (i:Nat)
 | waits (i:Nat) (x:Str)
 | talks (i:Nat) (ms:QQQ)
 | held (i:Nat) (x:Str)
 | leaves (i:Nat) (x:Str)
 | over (i:Nat) (w:Str)
structure qp where
 p:Uf
 h:Int
 t:Int
 calls:List pE
 mU:List rW
 ps:List (Str×Int)
 on:List Bool
 log:List Ev
 fo:QXQ
noncomputable def xW(ns:T0 Nat):D:=.tup (ns.map λn=>D.int (n:Nat))
noncomputable def rW.d(v:rW):D:=.tup [.int (v.i:Nat),.str v.f,.str v.g,.str v.y]
noncomputable def S7(b:Bool):Str:=if b=pc then "on" else "off"
def Ev.d:Ev->D
 | .new n x=>.tup [.str "new",.int (n:Nat),.str x]
 | .mT v=>.tup [.str "leg",.int (v.i:Nat),.str v.f,.str v.g,.str v.y]
 | .asks i z ns=>.tup [.str "asks",.int (i:Nat),.str z,xW ns]
 | .next z n=>.tup [.str "next",.str z,.int n]
 | .merge i j ms=>.tup [.str "merge",.int (i:Nat),.int (j:Nat),names ms]
 | .turn=>.tup [.str "turn"]
 | .sw b i=>.tup [.str (S7 b),.int (i:Nat)]
 | .rings i ps=>.tup [.str "rings",.int (i:Nat),names ps]
 | .quiet i=>.tup [.str "quiet",.int (i:Nat)]
 | .waits i x=>.tup [.str "waits",.int (i:Nat),.str x]
 | .talks i ms=>.tup [.str "talks",.int (i:Nat),names ms]
 | .held i x=>.tup [.str "held",.int (i:Nat),.str x]
 | .leaves i x=>.tup [.str "leaves",.int (i:Nat),.str x]
 | .over i w=>.tup [.str "over",.int (i:Nat),.str w]
noncomputable def hasS(ss:QQQ)(x:Str):Bool:=ss.any (·==x)
noncomputable def rM(ss:QQQ)(x:Str):QQQ:=ss.filter λy=>!(y==x)
noncomputable def vZ(x:Str):pE:=⟨"rings",x,[],[],[],Db,0,Db⟩
noncomputable def pE.over(c:pE)(w:Str):pE:={c with st:="over",wd:=some w,at_:=[],ms:=[],hd:=none}
def pE.drop(c:pE)(x:Str):pE:={c with at_:=rM c.at_ x,ms:=rM c.ms x}
noncomputable def pE.ring(c:pE)(ps:QQQ):pE:={c with st:="rings",at_:=ps,si:=0}
noncomputable def pE.nE(c:pE)(ms:QQQ):pE:={c with st:="talks",ms:=ms,at_:=[],hd:=none}
noncomputable def pE.wait(c:pE)(x:Str):pE:={c with st:="waits",at_:=[x]}
noncomputable def pE.hold(c:pE)(x:Str):pE:={c with st:="held",hd:=some x}
noncomputable def pE.nG(c:pE):pE:={c with at_:=[]}
noncomputable def pE.mem(c:pE)(ms:QQQ):pE:={c with ms:=ms}
noncomputable def pE.go(c:pE)(g:Str):pE:={c with way:=c.way++[g]}
noncomputable def pE.tick(c:pE):pE:=if (c.st=="rings")=pc then{c with si:=c.si+1}else c
noncomputable def rW.to(m k:Nat)(v:rW):rW:=if v.i=m then{v with i:=k}else v
noncomputable def Cq(ps:T0 (Str×Int))(z:Str)(n:Int):T0 (Str×Int):=if ps.any (λp=>decide (p.1=z))=pc then ps.map (λp=>if p.1=z then(p.1,n)else p)else ps++[(z,n)]
noncomputable def xH(V:qp)(i:Nat)(f:pE->pE):qp:={V with calls:=V.calls.modify i f}
noncomputable def qM(V:qp)(e:Ev):qp:={V with log:=V.log++[e]}
def Tr(V:qp):Ev->qp
 | .new _ x=>{V with calls:=V.calls++[vZ x]}
 | .mT v=>{V with mU:=V.mU++[v],calls:=V.calls.modify v.i (·.go v.g)}
 | .asks _ _ _=>V
 | .next z n=>{V with ps:=Cq V.ps z n}
 | .merge i j ms=>{V with calls:=(V.calls.modify i (·.over "merged")).modify j (·.mem ms),mU:=V.mU.map (rW.to i j)}
 | .turn=>{V with t:=V.t+1,calls:=V.calls.map pE.tick}
 | .sw b i=>{V with on:=V.on.set i b}
 | .rings i ps=>xH V i (·.ring ps)
 | .quiet i=>xH V i pE.nG
 | .waits i x=>xH V i (·.wait x)
 | .talks i ms=>xH V i (·.nE ms)
 | .held i x=>xH V i (·.hold x)
 | .leaves i x=>xH V i (·.drop x)
 | .over i w=>xH V i (·.over w)
def pX(V:qp)(e:Ev):qp:=Tr (qM V e) e
def qH(V:qp)(es:T0 Ev):qp:=es.foldl pX V
def Ev.ok(V:qp):Ev->Prop
 | .new _ _=>True
 | .mT v=>v.i<V.calls.length
 | .asks _ _ _=>True
 | .next _ _=>True
 | .merge i j ms=>i<V.calls.length/\j<V.calls.length/\i≠j/\ms.length<=100
 | .turn=>True
 | .sw _ i=>i<V.on.length
 | .rings i ps=>i<V.calls.length/\ps.length<=100
 | .quiet i=>i<V.calls.length
 | .waits i _=>i<V.calls.length
 | .talks i ms=>i<V.calls.length/\ms.length<=100
 | .held i _=>i<V.calls.length
 | .leaves i _=>i<V.calls.length
 | .over i _=>i<V.calls.length
def rL(V:qp)(es fs:T0 Ev):qH V (es++fs)=qH (qH V es) fs:=js ..
theorem Fi:∀(es:T0 Ev) (V:qp),(qH V es).log=V.log++es
 | [],V=>(dO _).symm
 | e::r,V=>by
  show(qH (pX V e) r).log=_;rw[Fi r];have:(pX V e).log=V.log++[e]:=by cases e<;>rfl
  rw[this,eh];rfl
def pE.mS(c:pE)(x:Str):Bool:=(c.st=="talks")&&hasS c.ms x
def pE.hasB(c:pE)(x:Str):Bool:=if (c.st=="rings")=pc then(x==c.cr)||hasS c.at_ x else if (c.st=="waits")=pc then x==c.cr else(c.st=="talks"||c.st=="held")&&hasS c.ms x
def pE.m8(c:pE)(x:Str):Bool:=if (c.st=="held")=pc then hasS c.ms x&&!((c.hd==Fa x))else c.mS x
noncomputable def pE.mR(c:pE)(x:Str):Bool:=(c.st=="rings"||c.st=="waits")&&(x==c.cr)
def pE.mM(c:pE)(x:Str):Bool:=(c.st=="waits")&&hasS c.at_ x
def pE.nq(c:pE)(x:Str):Bool:=c.mR x||(hasS c.at_ x||hasS c.ms x)
noncomputable def pE.mV(c:pE)(x:Str):Bool:=c.mS x&&(c.ms.length==2)
noncomputable def uZ(V:qp)(x:Str):Nat:=(V.calls.filter (·.hasB x)).length
noncomputable def wZ(l:pJ)(x:Str):Int:=(l.m7 x).elim 0 λv=>v.2.1
noncomputable def vP(l:pJ)(x:Str):Int:=(l.m7 x).elim 0 λv=>v.2.2
def tU(l:pJ)(V:qp)(x:Str):Bool:=decide ((uZ V x:Int)<wZ l x)
def uo(l:pJ)(V:qp)(c z:Str):QQQ:=(l.mF z).filter λx=>!(x==c)&&tU l V x
def yb(l:pJ)(V:qp)(c z:Str):Bool:=(uo l V c z).isEmpty
noncomputable def vO(V:qp)(x:Str):Option Nat:=V.calls.findIdx? (·.mS x)
noncomputable def FK(V:qp)(x:Str):Option Nat:=V.calls.findIdx? (·.m8 x)
noncomputable def Js(V:qp)(x:Str):Option Nat:=V.calls.findIdx? (·.mR x)
noncomputable def AF(V:qp)(x:Str):Bool:=V.calls.any (·.mM x)
noncomputable def OV:Option Nat->D
 | none=>.mL
 | some j=>.int (j:Nat)
noncomputable def E9(f l h:Int):Bool:=if f<l then decide (f<=h)&&decide (h<l)else decide (h>=f)||decide (h<l)
def Ij(l:pJ)(x:Str)(ms:QQQ):Bool:=ms.all λm=>decide (vP l m<vP l x)
def Il(l:pJ)(V:qp)(x c z:Str):Bool:=if (!(c==x)||(z==x))=pc then lf else if (!(hasS l.pn z)||!(yb l V c z))=pc then lf else((vO V z).bind (V.calls[·]?)).elim lf λk=>(k.ms.length==2)&&Ij l x k.ms
def Bg(l:pJ)(V:qp)(c z:Str):Wi->Bool
 | .bar x ns=>(c==x)&&hasS ns z
 | .shut x ns=>(z==x)&&hasS ns c
 | .always x _=>z==x
 | .night x _ f m=>(z==x)&&E9 f m ((V.h+V.t) % 24)
 | .busy x _=>(z==x)&&yb l V c z
 | .silent _ _ _=>lf
 | .wait x=>if (!(z==x)||(c==x))=pc then lf else yb l V c z&&!(AF V z)
 | .breaks x=>Il l V x c z
noncomputable def GB(c:pE):Wi->Bool
 | .silent x _ n=>(c.way.getLast?==Fa x)&&decide (n<=c.si)
 | _=>lf
noncomputable def HF(l:pJ)(V:qp)(f:Wi->Bool):T0 Nat:=(List.range V.on.length).filter λi=>V.on.getD i lf&&(l.mH[i]?).elim lf λw=>f w.2
def BN(l:pJ)(V:qp)(c z:Str):T0 Nat:=HF l V (Bg l V c z)
noncomputable def uY(ms:QQQ)(n:Nat):QQQ:=ms.drop n++ms.take n
noncomputable def zv(V:qp)(z:Str):Nat:=((V.ps.find? λp=>decide (p.1=z)).elim 0 λp=>p.2).toNat
def xR(l:pJ)(V:qp)(c z:Str):QQQ:=if (l.mO z=="turns")=pc then((uY (l.mF z) (zv V z)).filter λx=>hasS (uo l V c z) x).take 1 else uo l V c z
inductive vB
 | engaged (z:Str)
 | rings (z:Str) (ps:QQQ)
 | waits (z:Str)
 | breaks (z:Str)
 | barred
 | ring (ns:QQQ)
noncomputable def vB.d:vB->D
 | .engaged z=>.tup [.str "engaged",.str z]
 | .rings z ps=>.tup [.str "rings",.str z,names ps]
 | .waits z=>.tup [.str "waits",.str z]
 | .breaks z=>.tup [.str "breaks",.str z]
 | .barred=>.tup [.str "barred"]
 | .ring ns=>.tup [.str "ring",names ns]
def Gy(l:pJ)(V:qp)(c z:Str):vB:=match xR l V c z with
 | []=>.engaged z
 | x::r=>.rings z (x::r)
noncomputable def I9(z:Str):Wi->Sum vB Str
 | .bar _ _=>.inl .barred
 | .shut _ _=>.inl .barred
 | .always _ y=>.inr y
 | .night _ y _ _=>.inr y
 | .busy _ y=>.inr y
 | .silent _ y _=>.inr y
 | .wait _=>.inl (.waits z)
 | .breaks _=>.inl (.breaks z)
abbrev sd:=T0 (Str×T0 Nat)
def uE(l:pJ)(V:qp)(c:Str):Nat->Str->QQQ->sd->vB×sd
 | 0,_,_,st=>(.barred,st)
 | n+1,z,way,st=>if hasS way z=pc then(.ring (way.drop (way.findIdx (·==z))),st)else
  match BN l V c z with
  | []=>(Gy l V c z,st++[(z,[])])
  | i::r=>(l.mH[i]?).elim (.barred,st) λw=>match I9 z w.2 with
   | .inl e=>(e,st++[(z,i::r)])
   | .inr y=>uE l V c n y (way++[z]) (st++[(z,i::r)])
def tq(l:pJ)(V:qp)(c z:Str)(way:QQQ):vB×sd:=uE l V c (l.nm.length+1) z way []
noncomputable def qT(i:Nat):Option Str->sd->T0 Ev
 | _,[]=>[]
 | none,(z,fs)::r=>.asks i z fs::qT i (Fa z) r
 | some y,(z,fs)::r=>.mT ⟨i,y,z,y⟩::.asks i z fs::qT i (Fa z) r
noncomputable def QB(ms:QQQ)(x:Str):Int:=((ms.findIdx (·==x):Nat)+1) % (ms.length:Int)
def sD(l:pJ)(V:qp)(i:Nat):vB->T0 Ev
 | .rings z ps=>(if (l.mO z=="turns")=pc then[.next z (QB (l.mF z) (ps.headD Str.empty))]else[])++[.rings i ps]
 | .waits z=>[.waits i z]
 | .breaks z=>match vO V z,V.calls[i]? with
  | some j,Fa c=>[.merge i j ((V.calls[j]?).elim [] (·.ms)++[c.cr])]
  | _,_=>[]
 | .engaged _=>[.over i "engaged"]
 | .barred=>[.over i "barred"]
 | .ring _=>[.over i "ring"]
noncomputable def tG(i:Nat)(st:sd):vB->T0 Ev
 | .ring ns=>(st.getLast?).elim [] λs=>[.mT ⟨i,s.1,ns.headD Str.empty,s.1⟩]
 | _=>[]
def vN(l:pJ)(V:qp)(i:Nat):T0 Ev:=(V.calls[i]?).elim [] λc=>
 let r:=tq l V c.cr (c.way.getLastD Str.empty) c.way.dropLast
 qT i Db r.2++(tG i r.2 r.1++sD l V i r.1)
def EM(l:pJ)(V:qp)(y z:Str):T0 Ev:=
 let es:=[Ev.new V.calls.length y,.mT ⟨V.calls.length,y,z,y⟩]
 es++vN l (qH V es) V.calls.length
def va(V:qp)(x:Str)(i:Nat):T0 Ev:=(V.calls[i]?).elim [] λc=>if c.mR x=pc then[.over i "left"]else if hasS c.at_ x=pc then .leaves i x::(if rM c.at_ x=[]then[.over i "refused"]else[])else if 2<c.ms.length then[.leaves i x]else[.over i "done"]
def tI(l:pJ)(V:qp)(i:Nat)(fs:T0 Nat):T0 Ev:=match fs.head?.bind (l.mH[·]?)with
 | some (_,.silent x y _)=>
  let es:=[Ev.asks i x fs,.quiet i,.mT ⟨i,x,y,x⟩]
  es++vN l (qH V es) i
 | _=>[]
def yy(l:pJ)(V:qp)(i:Nat):T0 Nat:=(V.calls[i]?).elim [] λc=>if (c.st=="rings")=pc then HF l V (GB c)else[]
def rB(l:pJ):T0 Nat->qp->T0 Ev
 | [],_=>[]
 | i::r,V=>tI l V i (yy l V i)++rB l r (qH V (tI l V i (yy l V i)))
def Eo(l:pJ)(V:qp):T0 Ev:=.turn::rB l (List.range V.calls.length) (pX V .turn)
inductive uf
 | call (y z:Str)
 | num (w x:Str) (ns:List Int)
 | turn
 | sw (b:Bool) (i:Int)
def uf.d:uf->D
 | .call y z=>.tup [.str "call",.str y,.str z]
 | .num w x ns=>.tup (.str w::.str x::ns.map D.int)
 | .turn=>.tup [.str "turn"]
 | .sw b i=>.tup [.str (S7 b),.int i]
def uf.nv:uf->Prop
 | .num w _ ns=>((w="answer"\/w="hang"\/w="hold"\/w="back")/\ns.length=1)\/((w="hand"\/w="join")/\ns.length=2)
 | _=>True
def uB(V:qp)(x:Str):Option Str:=if (FK V x).isSome=pc then Fa "bound" else if (Js V x).isSome=pc then Fa "calls" else Db
noncomputable def zr(n:Nat)(i:Int):Bool:=decide (0<=i)&&decide (i<(n:Int))
def ID(w x:Str):List pE->Bool
 | []=>lf
 | c::r=>if (w=="answer")=pc then hasS c.at_ x else if (w=="hang")=pc then c.nq x else if (w=="hold")=pc then c.mV x else if (w=="back")=pc then c.hd==Fa x else(c.hd==Fa x)&&(r.head?.elim lf λd=>d.mV x)
noncomputable def tN(V:qp)(ns:T0 Int):List pE:=ns.filterMap λi=>V.calls[i.toNat]?
def F9(l:pJ)(V:qp)(y z:Str):Option Str:=if hasS l.nm z=lf then Fa "name" else if ((uB V y).isNone&&!(tU l V y))=pc then Fa "full" else uB V y
def Mr(l:pJ)(V:qp)(w x:Str)(ns:T0 Int):Option Str:=if ns.all (zr V.calls.length)=lf then Fa "call" else if ID w x (tN V ns)=lf then Fa "call" else if (w=="answer"||w=="back")=lf then Db else
 if ((uB V x).isNone&&((tN V ns).head?.elim lf (λc=>c.mM x)&&!(tU l V x)))=pc then Fa "full" else uB V x
def PU(V:qp)(b:Bool)(i:Int):Option Str:=if zr V.on.length i=lf then Fa "wish" else if (V.on.getD i.toNat lf==b)=pc then Fa "wish" else Db
def xp(l:pJ)(V:qp):uf->Option Str
 | .turn=>Db
 | .sw b i=>PU V b i
 | .call y z=>if hasS l.pn y=lf then Fa "name" else F9 l V y z
 | .num w x ns=>if hasS l.pn x=lf then Fa "name" else Mr l V w x ns
def qy(c:pE)(x:Str):Str:=(rM c.ms x).headD Str.empty
noncomputable def A9(V:qp)(w x:Str)(i:Nat):Ev:=(V.calls[i]?).elim .turn λc=>if (w=="answer")=pc then .talks i [c.cr,x]else if (w=="hold")=pc then .held i x else .talks i c.ms
def DN(V:qp)(w x:Str)(i j:Nat):Ev:=(V.calls[i]?).elim .turn λc=>(V.calls[j]?).elim .turn λd=>.merge i j (if (w=="hand")=pc then[qy c x,qy d x]else[x,qy c x,qy d x])
def xj(l:pJ)(V:qp):uf->T0 Ev
 | .call y z=>EM l V y z
 | .num w x [i]=>if (w=="hang")=pc then va V x i.toNat else[A9 V w x i.toNat]
 | .num w x [i,j]=>[DN V w x i.toNat j.toNat]
 | .num _ _ _=>[]
 | .turn=>Eo l V
 | .sw b i=>[.sw b i.toNat]
structure rN where
 p:Uf
 wy:Uf
structure tW where
 b:Uf
 ca:Uf
 le:Uf
 nx:Uf
 on:Uf
 lo:Uf
 cs:List rN
noncomputable def Gk:Option Str->D
 | none=>.mL
 | some x=>.str x
def rm(c:pE)(wy ad md:Uf):T0 (Str×D):=[("state",.str c.st),("caller",.str c.cr),("way",.ref wy),("at",.ref ad),("members",.ref md),("holder",Gk c.hd),("since",.int c.si),("word",Gk c.wd)]
noncomputable def tP(p:D)(h t:Int)(ca le nx on lo:Uf):T0 (Str×D):=[("plan",p),("hour",.int h),("turn",.int t),("calls",.ref ca),("legs",.ref le),("nexts",.ref nx),("on",.ref on),("log",.ref lo)]
noncomputable def tw(ps:T0 (Str×Int)):T0 (rq×D):=ps.map λp=>((Sum.inr p.1:rq),D.int p.2)
noncomputable def tW.lists(A:tW):QXQ:=A.ca::A.le::A.on::A.lo::A.cs.map (·.wy)
noncomputable def tW.foot(A:tW):QXQ:=A.b::A.nx::(A.lists++A.cs.map (·.p))
def rX(a:Ad)(M:Mp)(L:QXQ)(k:rN)(c:pE):Prop:=AW λad md=>M k.p=Fa (.ins a.e (rm c k.wy ad md))/\oC M k.wy=Fa (c.way.map D.str)/\oC M ad=Fa (c.at_.map D.str)/\oC M md=Fa (c.ms.map D.str)/\ad∉L/\md∉L
structure pP(a:Ad)(M:Mp)(A:tW)(V:qp):Prop where
 at_:M A.b=Fa (.ins a.c (tP (.ref V.p) V.h V.t A.ca A.le A.nx A.on A.lo))
 ca:oC M A.ca=Fa (A.cs.map λk=>D.ref k.p)
 le:oC M A.le=Fa (V.mU.map rW.d)
 nx:zS M A.nx=Fa (tw V.ps)
 on:oC M A.on=Fa (V.on.map D.bl)
 lo:oC M A.lo=Fa (V.log.map Ev.d)
 len:A.cs.length=V.calls.length
 cs:∀(i:Nat) k c,A.cs[i]?=Fa k->V.calls[i]?=Fa c->rX a M (A.lists++V.fo) k c
 nl:A.lists.Nodup
 np:(A.b::A.cs.map (·.p)).Nodup
 fo:∀x∈V.fo,∃c,M x=Fa c
def wJ{F:QXQ}{M:Mp}{p:Uf}{c:uP}(h:∀x∈F,∃c,M x=Fa c):∀x∈F,∃d,pI M p c x=Fa d:=λx hx=>by
 by_cases z:x=p
 .exact⟨c,by rw[z];exact pU⟩
 .obtain⟨d,e⟩:=h x hx;exact⟨d,rY.put x d z e⟩
def rX.sub{k:rN}{c:pE}(h:rX a M L k c)(s:qG M M'):rX a M' L k c:=by obtain⟨ad,md,h1,h2,h3,h4,h5⟩:=h;exact⟨ad,md,s _ _ h1,s.lst h2,s.lst h3,s.lst h4,h5⟩
def pP.sub{A:tW}{V:qp}(h:pP a M A V)(s:qG M M'):pP a M' A V:=⟨s _ _ h.at_,s.lst h.ca,s.lst h.le,s.dk h.nx,s.lst h.on,s.lst h.lo,h.len,λi k c e1 e2=>(h.cs i k c e1 e2).sub s,h.nl,h.np,λx hx=>(h.fo x hx).imp λc e=>s x c e⟩
def rX.nU{k:rN}{c:pE}{x:Uf}{ds:T0 D}(h:rX a M L k c)(kp:rY x M M')(hl:oC M x=Fa ds)(hx:x∈L)(hn:k.wy≠x):rX a M' L k c:=by obtain⟨ad,md,h1,h2,h3,h4,h5,h6⟩:=h;exact⟨ad,md,kp _ _ (λz=>by rw[z,qm hl]at h1;cases h1) h1,kp.lst hn h2,kp.lst (λz=>h5 (z ▸ hx)) h3,kp.lst (λz=>h6 (z ▸ hx)) h4,h5,h6⟩
def rX.nZ{k:rN}{c:pE}{x C:Uf}{fs:T0 (Str×D)}(h:rX a M L k c)(kp:rY x M M')(hi:M x=Fa (.ins C fs))(hn:k.p≠x):rX a M' L k c:=by obtain⟨ad,md,h1,h2,h3,h4,h5⟩:=h;exact⟨ad,md,kp _ _ hn h1,kp.lst (pW h2 hi) h2,kp.lst (pW h3 hi) h3,kp.lst (pW h4 hi) h4,h5⟩
def uR{a p:Uf}{ds:T0 (rq×D)}{es:T0 D}(h:zS M a=Fa ds)(hp:oC M p=Fa es):a≠p:=λz=>by subst z;unfold zS at h;rw[qm hp]at h;cases h
def rX.oZ{k:rN}{c:pE}{x:Uf}{ds:T0 (rq×D)}(h:rX a M L k c)(kp:rY x M M')(hd:zS M x=Fa ds):rX a M' L k c:=by obtain⟨ad,md,h1,h2,h3,h4,h5⟩:=h;exact⟨ad,md,kp _ _ (λz=>by rw[z,zL hd]at h1;cases h1) h1,kp.lst (dG (uR hd h2)) h2,kp.lst (dG (uR hd h3)) h3,kp.lst (dG (uR hd h4)) h4,h5⟩
def qY{α:Type}{l:List α}{i:Nat}{x:α}(h:l[i]?=Fa x):x∈l:=eZ h
def pP.ne{A:tW}{V:qp}(h:pP a M A V):A.ca≠A.le/\A.ca≠A.on/\A.ca≠A.lo/\A.le≠A.on/\A.le≠A.lo/\A.on≠A.lo/\∀k∈A.cs,k.wy≠A.ca/\k.wy≠A.le/\k.wy≠A.on/\k.wy≠A.lo:=by
 have n:=h.nl;unfold tW.lists at n;obtain⟨n1,n⟩:=dH.mp n;obtain⟨n2,n⟩:=dH.mp n;obtain⟨n3,n⟩:=dH.mp n;obtain⟨n4,n⟩:=dH.mp n;have w:∀k∈A.cs,k.wy∈A.cs.map (·.wy):=λk hk=>dw.mpr ⟨k,hk,Z'⟩;refine⟨λz=>n1 (z ▸ by simp),λz=>n1 (z ▸ by simp),λz=>n1 (z ▸ by simp),λz=>n2 (z ▸ by simp),λz=>n2 (z ▸ by simp),λz=>n3 (z ▸ by simp),λk hk=>⟨λz=>n1 ?_,λz=>n2 ?_,λz=>n3 ?_,λz=>n4 ?_⟩⟩
 .rw[<-z];exact dz _ (dz _ (dz _ (w k hk)))
 .rw[<-z];exact dz _ (dz _ (w k hk))
 .rw[<-z];exact dz _ (w k hk)
 .rw[<-z];exact w k hk
def pP.oq{A:tW}{V:qp}(_:pP a M A V):A.ca∈A.lists/\A.le∈A.lists/\A.lo∈A.lists/\(∀k∈A.cs,k.wy∈A.lists)/\A.on∈A.lists:=by unfold tW.lists;refine⟨by simp,by simp,by simp,?_,by simp⟩;exact λk hk=>by simp;exact .inr (.inr (.inr (.inr ⟨k,hk,Z'⟩)))
def pP.oU{A:tW}{V:qp}(h:pP a M A V):A.ca∈A.lists++V.fo/\A.le∈A.lists++V.fo/\A.lo∈A.lists++V.fo/\(∀k∈A.cs,k.wy∈A.lists++V.fo)/\A.on∈A.lists++V.fo:=by obtain⟨h1,h2,h3,h4,h5⟩:=h.oq;exact⟨fz _ h1,fz _ h2,fz _ h3,λk hk=>fz _ (h4 k hk),fz _ h5⟩
def qR(A:tW)(M:Mp)(A':tW)(M':Mp):Prop:=(∀x c,x∉A.foot->M x=Fa c->M' x=Fa c)/\(∀x∈A'.foot,x∈A.foot\/M x=Db)/\(∀(i:Nat) k,A.cs[i]?=Fa k->A'.cs[i]?=Fa k)/\∀x c,M x=Fa c->∃d,M' x=Fa d
def EZ{M:Mp}{p y:Uf}{c d:uP}(h:M y=Fa d):∃e,pI M p c y=Fa e:=by
 by_cases z:y=p
 .exact⟨c,by rw[z];exact pU⟩
 .exact⟨d,rY.put y d z h⟩
def qR.refl{A:tW}:qR A M A M:=⟨λ_ _ _ h=>h,λ_ h=>.inl h,λ_ _ h=>h,λ_ c h=>⟨c,h⟩⟩
def qR.trans{A A1 A2:tW}{M M1 M2:Mp}(s:qR A M A1 M1)(u:qR A1 M1 A2 M2):qR A M A2 M2:=by
 refine⟨λx c n h=>u.1 x c (λz=>?_) (s.1 x c n h),λx hx=>?_,λi k h=>u.2.2.1 i k (s.2.2.1 i k h),λx c h=>(s.2.2.2 x c h).elim λd e=>u.2.2.2 x d e⟩
 .rcases s.2.1 x z with y|y
  .exact n y
  .rw[y]at h;cases h
 .rcases u.2.1 x hx with z|z
  .exact s.2.1 x z
  .by_cases y:x∈A.foot
   .exact .inl y
   .refine .inr ?_;cases e:M x with
    | none=>rfl
    | some c=>rw[s.1 x c y e]at z;cases z
def qR.keep{A:tW}{x:Uf}{c:uP}(h:x∈A.foot)(k:rY x M (pI M x c)):qR A M A (pI M x c):=⟨λy c n e=>k y c (λz=>n (z ▸ h)) e,λ_ h=>.inl h,λ_ _ h=>h,λ_ _ h=>EZ h⟩
def qR.sub{A:tW}(s:qG M M'):qR A M A M':=⟨λy c _ e=>s y c e,λ_ h=>.inl h,λ_ _ h=>h,λx c h=>⟨c,s x c h⟩⟩
def tW.mW(A:tW):A.b∈A.foot/\A.nx∈A.foot/\A.ca∈A.foot/\A.le∈A.foot/\A.lo∈A.foot/\(∀k∈A.cs,k.p∈A.foot)/\∀k∈A.cs,k.wy∈A.foot:=by unfold tW.foot tW.lists;exact⟨by simp,by simp,by simp,by simp,by simp,λk hk=>by simp;exact .inr (.inr (.inr (.inr (.inr (.inr (.inr ⟨k,hk,Z'⟩)))))),λk hk=>by simp;exact .inr (.inr (.inr (.inr (.inr (.inr (.inl ⟨k,hk,Z'⟩))))))⟩
def tW.nS(A:tW){x:Uf}(h:x∈A.lists):x∈A.foot:=by unfold tW.foot;exact dz _ (dz _ (dR.mpr (.inl h)))
variable {M M1:Mp}{A:tW}{V:qp}
def Eg{α:Type}{l:List α}{i j:Nat}{x y:α}(h:(l.set i x)[j]?=Fa y):(j=i/\y=x/\i<l.length)\/(j≠i/\l[j]?=Fa y):=by
 by_cases z:j=i
 .subst z;by_cases hl:j<l.length
  .rw[eI hl]at h;exact .inl ⟨Z',(cY h).symm,hl⟩
  .rw[gC (by rw[ik];lia)]at h;cases h
 .rw[eP (dG z)]at h;exact .inr ⟨z,h⟩
def L7{α β:Type}{f:α->β}{l:List α}{i j:Nat}{x y:α}(nd:(l.map f).Nodup)(h1:l[i]?=Fa x)(h2:l[j]?=Fa y)(e:f x=f y):i=j:=by
 have e1:(l.map f)[i]?=Fa (f x):=by rw[dq,h1];rfl
 have e2:(l.map f)[j]?=Fa (f y):=by rw[dq,h2];rfl
 obtain⟨l1,q1⟩:=cU.mp e1;obtain⟨l2,q2⟩:=cU.mp e2;exact(lK nd).mp (q1.trans (e.trans q2.symm))
def pP.nw(h:pP a M A V):(A.cs.map (·.wy)).Nodup:=(dH.mp (dH.mp (dH.mp (dH.mp h.nl).2).2).2).2
def pP.oW(h:pP a M A V):(A.cs.map (·.p)).Nodup/\∀k∈A.cs,k.p≠A.b:=⟨(dH.mp h.np).2,λk hk z=>(dH.mp h.np).1 (z ▸ dw.mpr ⟨k,hk,Z'⟩)⟩
def pP.ou(h:pP a M A V){es:T0 Ev}:pP a (pI M A.lo (.lst (es.map Ev.d))) A {V with log:=es}/\qR A M A (pI M A.lo (.lst (es.map Ev.d))):=by have kp:rY A.lo M (pI M A.lo (.lst (es.map Ev.d))):=.put;obtain⟨n1,n2,n3,n4,n5,n6,nw⟩:=h.ne;exact⟨⟨kp _ _ (dG (pW h.lo h.at_)) h.at_,kp.lst n3 h.ca,kp.lst n5 h.le,kp.dk (uR h.nx h.lo) h.nx,kp.lst n6 h.on,pM,h.len,λi k c e1 e2=>(h.cs i k c e1 e2).nU kp h.lo h.oU.2.2.1 (nw k (qY e1)).2.2.2,h.nl,h.np,wJ h.fo⟩,.keep A.mW.2.2.2.2.1 kp⟩
def pP.oA(h:pP a M A V){es:List rW}:pP a (pI M A.le (.lst (es.map rW.d))) A {V with mU:=es}/\qR A M A (pI M A.le (.lst (es.map rW.d))):=by have kp:rY A.le M (pI M A.le (.lst (es.map rW.d))):=.put;obtain⟨n1,n2,n3,n4,n5,n6,nw⟩:=h.ne;exact⟨⟨kp _ _ (dG (pW h.le h.at_)) h.at_,kp.lst n1 h.ca,pM,kp.dk (uR h.nx h.le) h.nx,kp.lst (dG n4) h.on,kp.lst (dG n5) h.lo,h.len,λi k c e1 e2=>(h.cs i k c e1 e2).nU kp h.le h.oU.2.1 (nw k (qY e1)).2.1,h.nl,h.np,wJ h.fo⟩,.keep A.mW.2.2.2.1 kp⟩
def pP.oO(h:pP a M A V){bs:T0 Bool}:pP a (pI M A.on (.lst (bs.map D.bl))) A {V with on:=bs}/\qR A M A (pI M A.on (.lst (bs.map D.bl))):=by have kp:rY A.on M (pI M A.on (.lst (bs.map D.bl))):=.put;obtain⟨n1,n2,n3,n4,n5,n6,nw⟩:=h.ne;exact⟨⟨kp _ _ (dG (pW h.on h.at_)) h.at_,kp.lst n2 h.ca,kp.lst n4 h.le,kp.dk (uR h.nx h.on) h.nx,pM,kp.lst (dG n6) h.lo,h.len,λi k c e1 e2=>(h.cs i k c e1 e2).nU kp h.on h.oU.2.2.2.2 (nw k (qY e1)).2.2.1,h.nl,h.np,wJ h.fo⟩,.keep (A.nS h.oq.2.2.2.2) kp⟩
def pP.oN(h:pP a M A V){ps:T0 (Str×Int)}:pP a (pI M A.nx (.dk (tw ps))) A {V with ps:=ps}/\qR A M A (pI M A.nx (.dk (tw ps))):=by have kp:rY A.nx M (pI M A.nx (.dk (tw ps))):=.put;exact⟨⟨kp _ _ (dG (BU h.nx h.at_)) h.at_,kp.lst (dG (uR h.nx h.ca)) h.ca,kp.lst (dG (uR h.nx h.le)) h.le,DP pU,kp.lst (dG (uR h.nx h.on)) h.on,kp.lst (dG (uR h.nx h.lo)) h.lo,h.len,λi k c e1 e2=>(h.cs i k c e1 e2).oZ kp h.nx,h.nl,h.np,wJ h.fo⟩,.keep A.mW.2.1 kp⟩
def pP.putT(h:pP a M A V){t:Int}:pP a (pI M A.b (.ins a.c (tP (.ref V.p) V.h t A.ca A.le A.nx A.on A.lo))) A {V with t:=t}/\qR A M A (pI M A.b (.ins a.c (tP (.ref V.p) V.h t A.ca A.le A.nx A.on A.lo))):=by have kp:rY A.b M (pI M A.b (.ins a.c (tP (.ref V.p) V.h t A.ca A.le A.nx A.on A.lo))):=.put;exact⟨⟨pU,kp.lst (pW h.ca h.at_) h.ca,kp.lst (pW h.le h.at_) h.le,kp.dk (BU h.nx h.at_) h.nx,kp.lst (pW h.on h.at_) h.on,kp.lst (pW h.lo h.at_) h.lo,h.len,λi k c e1 e2=>(h.cs i k c e1 e2).nZ kp h.at_ (h.oW.2 k (qY e1)),h.nl,h.np,wJ h.fo⟩,.keep A.mW.1 kp⟩
def pP.oj(h:pP a M A V){i:Nat}{k:rN}{c c':pE}{ad md:Uf}(e1:A.cs[i]?=Fa k)(e2:V.calls[i]?=Fa c)(ew:c'.way=c.way)(la:oC M ad=Fa (c'.at_.map D.str))(lm:oC M md=Fa (c'.ms.map D.str))(na:ad∉A.lists++V.fo)(nm:md∉A.lists++V.fo):
  pP a (pI M k.p (.ins a.e (rm c' k.wy ad md))) A {V with calls:=V.calls.set i c'}/\qR A M A (pI M k.p (.ins a.e (rm c' k.wy ad md))):=by
 have kp:rY k.p M (pI M k.p (.ins a.e (rm c' k.wy ad md))):=.put;obtain⟨_,_,h1,h2,_⟩:=h.cs i k c e1 e2;refine⟨⟨kp _ _ (dG (h.oW.2 k (qY e1))) h.at_,kp.lst (pW h.ca h1) h.ca,kp.lst (pW h.le h1) h.le,kp.dk (BU h.nx h1) h.nx,kp.lst (pW h.on h1) h.on,kp.lst (pW h.lo h1) h.lo,by rw[h.len,ik],λj k' d f1 f2=>?_,h.nl,h.np,wJ h.fo⟩,.keep (A.mW.2.2.2.2.2.1 k (qY e1)) kp⟩;rcases Eg f2 with⟨rfl,rfl,_⟩|⟨hj,f2⟩
 .rw[e1]at f1;cases f1;exact⟨ad,md,pU,by rw[ew];exact kp.lst (pW h2 h1) h2,kp.lst (pW la h1) la,kp.lst (pW lm h1) lm,na,nm⟩
 .exact(h.cs j k' d f1 f2).nZ kp h1 λz=>hj (L7 h.oW.1 f1 e1 z)
def pP.oB(h:pP a M A V){i:Nat}{k:rN}{c:pE}{ws:QQQ}(e1:A.cs[i]?=Fa k)(e2:V.calls[i]?=Fa c):
  pP a (pI M k.wy (.lst (ws.map D.str))) A {V with calls:=V.calls.set i {c with way:=ws}}/\qR A M A (pI M k.wy (.lst (ws.map D.str))):=by
 have kp:rY k.wy M (pI M k.wy (.lst (ws.map D.str))):=.put;obtain⟨ad,md,h1,h2,h3,h4,h5,h6⟩:=h.cs i k c e1 e2;obtain⟨n1,n2,n3,n4,n5,n6,nw⟩:=h.ne;obtain⟨w1,w2,w3,w4⟩:=nw k (qY e1);have kL:=h.oU.2.2.2.1 k (qY e1);refine⟨⟨kp _ _ (dG (pW h2 h.at_)) h.at_,kp.lst (dG w1) h.ca,kp.lst (dG w2) h.le,kp.dk (uR h.nx h2) h.nx,kp.lst (dG w3) h.on,kp.lst (dG w4) h.lo,by rw[h.len,ik],λj k' d f1 f2=>?_,h.nl,h.np,wJ h.fo⟩,.keep (A.mW.2.2.2.2.2.2 k (qY e1)) kp⟩;rcases Eg f2 with⟨rfl,rfl,_⟩|⟨hj,f2⟩
 .rw[e1]at f1;cases f1;exact⟨ad,md,kp _ _ (dG (pW h2 h1)) h1,pM,kp.lst (λz=>h5 (z ▸ kL)) h3,kp.lst (λz=>h6 (z ▸ kL)) h4,h5,h6⟩
 .exact(h.cs j k' d f1 f2).nU kp h2 kL λz=>hj (L7 h.nw f1 e1 z)
noncomputable def tW.add(A:tW)(k:rN):tW:={A with cs:=A.cs++[k]}
def zY(A:tW)(k:rN):(A.add k).lists=A.lists++[k.wy]:=by unfold tW.add tW.lists;rw[dB];rfl
def pP.dom(h:pP a M A V):(∀x∈A.lists,∃ds,oC M x=Fa ds)/\∀x∈A.foot,∃c,M x=Fa c:=by
 have hc:∀k∈A.cs,(∃ds,oC M k.wy=Fa ds)/\∃c,M k.p=Fa c:=λk hk=>by
  obtain⟨i,hi,e⟩:=gR hk;have e1:A.cs[i]?=Fa k:=by rw[cS hi,e]
  have XI:i<V.calls.length:=by rw[<-h.len];exact hi
  have e2:V.calls[i]?=Fa V.calls[i]:=cS XI;obtain⟨ad,md,h1,h2,_⟩:=h.cs i k _ e1 e2;exact⟨⟨_,h2⟩,_,h1⟩
 have hl:∀x∈A.lists,∃ds,oC M x=Fa ds:=λx hx=>by
  unfold tW.lists at hx;simp only[de,dw]at hx;rcases hx with rfl|rfl|rfl|rfl|⟨k,hk,rfl⟩
  .exact⟨_,h.ca⟩
  .exact⟨_,h.le⟩
  .exact⟨_,h.on⟩
  .exact⟨_,h.lo⟩
  .exact(hc k hk).1
 refine⟨hl,λx hx=>?_⟩;unfold tW.foot at hx;simp only[de,dR,dw]at hx;rcases hx with rfl|rfl|hx|⟨k,hk,rfl⟩
 .exact⟨_,h.at_⟩
 .exact⟨_,zL h.nx⟩
 .obtain⟨ds,e⟩:=hl x hx;exact⟨_,qm e⟩
 .exact(hc k hk).2
def pP.n9(h:pP a M A V){x:Uf}(hx:M x=Db):x∉A.lists:=λz=>by obtain⟨ds,e⟩:=h.dom.1 x z;have:=qm e;rw[hx]at this;cases this
def pP.ny(h:pP a M A V){x:Uf}(hx:M x=Db):x∉A.lists++V.fo:=λz=>by
 rcases dR.mp z with z|z
 .exact h.n9 hx z
 .obtain⟨c,e⟩:=h.fo x z;rw[hx]at e;cases e
def pP.nP(h:pP a M A V){x:Uf}(hx:M x=Db):x∉A.foot:=λz=>by obtain⟨ds,e⟩:=h.dom.2 x z;rw[hx]at e;cases e
def pP.oh(h:pP a M A V)(s:qG M M1){p wy ad md:Uf}{c:pE}(hp:M p=Db)(hw:M wy=Db)(ha:M ad=Db)(hm:M md=Db)(h1:M1 p=Fa (.ins a.e (rm c wy ad md)))(h2:oC M1 wy=Fa (c.way.map D.str))(h3:oC M1 ad=Fa (c.at_.map D.str))(h4:oC M1 md=Fa (c.ms.map D.str))(n1:ad≠wy)(n2:md≠wy):
  pP a (pI M1 A.ca (.lst ((A.cs.map λk=>D.ref k.p)++[.ref p]))) (A.add ⟨p,wy⟩) {V with calls:=V.calls++[c]}/\qR A M (A.add ⟨p,wy⟩) (pI M1 A.ca (.lst ((A.cs.map λk=>D.ref k.p)++[.ref p]))):=by
 have h':=h.sub s;have kp:rY A.ca M1 (pI M1 A.ca (.lst ((A.cs.map λk=>D.ref k.p)++[.ref p]))):=.put;obtain⟨m1,m2,m3,m4,m5,m6,nw⟩:=h.ne;have wL:wy∉A.lists:=h.n9 hw;have cL:=h.oU.1;have nl':∀x,x∉A.lists++V.fo->x≠wy->x∉(A.add ⟨p,wy⟩).lists++V.fo:=λx h1 h2=>by
  rw[zY,dR,dR,df]
  rintro ((z|z)|z)
  .exact h1 (fz _ z)
  .exact h2 z
  .exact h1 (eC _ z)
 have Xg:∀x c,M x=Fa c->x≠wy:=λx c e z=>by rw[z,hw]at e;cases e
 refine⟨⟨kp _ _ (dG (pW h'.ca h'.at_)) h'.at_,?_,kp.lst (dG m1) h'.le,kp.dk (uR h'.nx h'.ca) h'.nx,kp.lst (dG m2) h'.on,kp.lst (dG m3) h'.lo,?_,λi k d e1 e2=>?_,?_,?_,wJ h'.fo⟩,λx d n e=>kp x d (λz=>n (z ▸ A.mW.2.2.1)) (s x d e),λx hx=>?_,λi k e=>by show(A.cs++[(⟨p,wy⟩:rN)])[i]?=Fa k;rw[eW (cU.mp e).1];exact e,λx d e=>EZ (s x d e)⟩
 .show oC _ A.ca=Fa ((A.cs++[(⟨p,wy⟩:rN)]).map λk=>D.ref k.p);rw[dB];exact pM
 .show(A.cs++[(⟨p,wy⟩:rN)]).length=(V.calls++[c]).length;rw[cT,cT,h.len];rfl
 .have e1:(A.cs++[(⟨p,wy⟩:rN)])[i]?=Fa k:=e1;have e2:(V.calls++[c])[i]?=Fa d:=e2;by_cases hi:i<A.cs.length
  .rw[eW hi]at e1;rw[eW (by rw[<-h.len];exact hi)]at e2;obtain⟨ad',md',g1,g2,g3,g4,g5,g6⟩:=(h.cs i k d e1 e2);refine⟨ad',md',kp _ _ (λz=>by have:=s _ _ g1;rw[z,qm h'.ca]at this;cases this) (s _ _ g1),kp.lst (nw k (qY e1)).1 (s.lst g2),kp.lst (λz=>g5 (z ▸ cL)) (s.lst g3),kp.lst (λz=>g6 (z ▸ cL)) (s.lst g4),nl' _ g5 (Xg _ _ (qm g3)),nl' _ g6 (Xg _ _ (qm g4))⟩
  .have Yw:i=A.cs.length:=by have:=(cU.mp e1).1;rw[cT,dM]at this;lia
   subst Yw;rw[eE (cZ _)]at e1;rw[h.len,eE (cZ _)]at e2;simp only[gm,iA,jt]at e1 e2;subst e1 e2;have q1:p≠A.ca:=λz=>by rw[z,qm h'.ca]at h1;cases h1
   have q2:wy≠A.ca:=λz=>wL (z ▸ h.oq.1);exact⟨ad,md,kp p _ q1 h1,kp.lst (a:=wy) q2 h2,kp.lst (λz=>h.ny ha (z ▸ cL)) h3,kp.lst (λz=>h.ny hm (z ▸ cL)) h4,nl' _ (h.ny ha) n1,nl' _ (h.ny hm) n2⟩
 .rw[zY];refine fm.mpr ⟨h.nl,dH.mpr ⟨dA,dU⟩,λx hx y hy=>?_⟩;rw[df]at hy;subst hy;exact λz=>wL (z ▸ hx)
 .show(A.b::(A.cs++[(⟨p,wy⟩:rN)]).map (·.p)).Nodup;rw[dB,<-jQ];refine fm.mpr ⟨h.np,dH.mpr ⟨dA,dU⟩,λx hx y hy=>?_⟩;rw[dW,fO,df]at hy;subst hy;refine λz=>h.nP hp (z ▸ ?_);rcases de.mp hx with y|y
  .rw[y];exact A.mW.1
  .obtain⟨k,hk,rfl⟩:=dw.mp y;exact A.mW.2.2.2.2.2.1 k hk
 .unfold tW.foot at hx;rw[zY]at hx;have hx:x∈A.b::A.nx::(A.lists++[wy]++(A.cs++[(⟨p,wy⟩:rN)]).map (·.p)):=hx;simp only[de,dR,dB,dW,fO,dA,e9]at hx;unfold tW.foot;simp only[de,dR];rcases hx with z|z|(z|z)|(z|z)
  .exact .inl (.inl z)
  .exact .inl (.inr (.inl z))
  .exact .inl (.inr (.inr (.inl z)))
  .exact .inr (by rw[z];exact hw)
  .exact .inl (.inr (.inr (.inr z)))
  .exact .inr (by rw[z];exact hp)
def pP.oG{V:qp}{p:Uf}{es:List rW}(h:pP a M A V)(hp:M p=Db):
  pP a (pI (pI M p (.lst (es.map rW.d))) A.b (.ins a.c (tP (.ref V.p) V.h V.t A.ca p A.nx A.on A.lo))) {A with le:=p} {V with mU:=es}/\qR A M {A with le:=p} (pI (pI M p (.lst (es.map rW.d))) A.b (.ins a.c (tP (.ref V.p) V.h V.t A.ca p A.nx A.on A.lo))):=by
 obtain⟨M1,e0,t,lp⟩:=vX (ds:=es.map rW.d) hp;rw[<-e0];have h1:=h.sub t;have np:p∉A.lists:=h.n9 hp;have nf:p∉A.foot:=h.nP hp;have Xg:∀x c,M x=Fa c->x≠p:=λx c e z=>by rw[z,hp]at e;cases e
 have kp:rY A.b M1 (pI M1 A.b (.ins a.c (tP (.ref V.p) V.h V.t A.ca p A.nx A.on A.lo))):=.put;have sub:∀x,x∉A.lists++V.fo->x≠p->x∉({A with le:=p}:tW).lists++V.fo:=λx h1 h2 z=>by
  rcases dR.mp z with z|z
  rotate_left
  .exact h1 (eC _ z)
  have h1:x∉A.lists:=λy=>h1 (fz _ y);unfold tW.lists at h1 z;simp only[de,fM]at h1 z;rcases z with z|z|z|z|z
  .exact h1.1 z
  .exact h2 z
  .exact h1.2.2.1 z
  .exact h1.2.2.2.1 z
  .exact h1.2.2.2.2 z
 refine⟨⟨pU,kp.lst (pW h1.ca h1.at_) h1.ca,kp.lst (pW lp h1.at_) lp,kp.dk (BU h1.nx h1.at_) h1.nx,kp.lst (pW h1.on h1.at_) h1.on,kp.lst (pW h1.lo h1.at_) h1.lo,h.len,λi k c e1 e2=>?_,?_,h.np,wJ h1.fo⟩,λx c n e=>kp x c (λz=>n (z ▸ A.mW.1)) (t x c e),λx hx=>?_,λi k e=>e,λx d e=>EZ (t x d e)⟩
 .obtain⟨ad,md,g1,g2,g3,g4,g5,g6⟩:=(h.cs i k c e1 e2);obtain⟨ad',md',f1,f2,f3,f4,f5⟩:=((h.cs i k c e1 e2).sub t).nZ kp h1.at_ (h.oW.2 k (qY e1));have q1:=kp _ _ (λz=>h.oW.2 k (qY e1) z) (t _ _ g1);exact⟨ad,md,q1,f2,kp.lst (pW (t.lst g3) h1.at_) (t.lst g3),kp.lst (pW (t.lst g4) h1.at_) (t.lst g4),sub _ g5 (Xg _ _ (qm g3)),sub _ g6 (Xg _ _ (qm g4))⟩
 .have n:=h.nl;unfold tW.lists at n np ⊢;simp only[de,fM]at np;simp only[dH,de,fM]at n ⊢;exact⟨⟨λz=>np.1 z.symm,n.1.2⟩,⟨np.2.2.1,np.2.2.2.1,np.2.2.2.2⟩,n.2.2⟩
 .by_cases z:x=p
  .exact .inr (z ▸ hp)
  .refine .inl ?_;unfold tW.foot tW.lists at hx ⊢;simp only[de,dR]at hx ⊢;rcases hx with y|y|(y|y|y|y|y)|y
   .exact .inl y
   .exact .inr (.inl y)
   .exact .inr (.inr (.inl (.inl y)))
   .exact absurd y z
   .exact .inr (.inr (.inl (.inr (.inr (.inl y)))))
   .exact .inr (.inr (.inl (.inr (.inr (.inr (.inl y))))))
   .exact .inr (.inr (.inl (.inr (.inr (.inr (.inr y))))))
   .exact .inr (.inr (.inr y))
def wx(x:D)(l:T0 D):vA (x::l) 0=Fa x:=by
 unfold vA;have:E8 (x::l).length 0=Fa 0:=by unfold E8;rw[dS];simp
 rw[this];rfl
def xC(f:pE->Str->Bool)(a:Ad):rj:=λds M Q=>BE λL k c x=>ds=[.ref k.p,.str x]/\rX a M L k c/\Q (.bl (f c x)) M
abbrev Hi:=xC pE.hasB
abbrev ze:=xC pE.mS
abbrev Fc:=xC pE.m8
abbrev y9:=xC pE.mR
abbrev vQ:=xC pE.mM
abbrev FL:=xC pE.mV
abbrev xq:=xC pE.nq
noncomputable def PM(x:Str):D->Bool
 | .str y=>!(y==x)
 | _=>lf
def zR(a:Ad):rj:=λds M Q=>JE λL k c x y r=>ds=[.ref k.p,.str x]/\rX a M L k c/\c.ms.length<=100/\rM c.ms x=y::r/\Q (.str y) M
def BJ(ss:QQQ)(x:Str):[]++(List.filter (PM x) (ss.map D.str)).map id=(rM ss x).map D.str:=by rw[dX,je,g9];rfl
def DB{k:Uf}{ks:QQQ}{c:Str}{K:DK}(hk:oC M k=Fa (ks.map D.str))(h:K (.bl (hasS ks c)) M):SA lf (.str c) (.ref k) M K:=by refine i' hk ⟨Z',qu ks,?_⟩;show K (.bl (inD (.str c) (ks.map D.str))) M;rw[qW];exact h
def VX(w x y:Str):inD (.str w) [.str x,.str y]=(w==x||w==y):=by rw[show[D.str x,D.str y]=[x,y].map D.str from rfl,qW,gk];simp only[fY,List.any_nil,kB,gZ,fg];exact⟨λh=>h.imp mh mh,λh=>h.imp mh mh⟩
def Rj:Fq P w K mg base 1 a.bI (Hi a):=by
 refine fq G.bI.toDG GY (λr u=>⟨_,(pz (pS (pH u (pG v0) pD)
 (pA (pF (Jp (qa u U1 (pG v0)) (sf (qa u U1 (pG v0))))))
 pL)
 (pz (pS (pH u (pG v0) pD)
 (pA (pF (qa u U1 (pG v0))))
 pL)
 (pA (pF (sI (qa u (pG v0) (pQ (r6 pD pD))) (sf (qa u U1 (pG v0)))))))),?_⟩)
 rintro ds M Q ⟨L,k,c,x,rfl,⟨ad,md,h1,h2,h3,h4,_⟩,q⟩
 unfold pE.hasB at q;refine pB h1 (i' Z' ?_);refine qJ (c:=c.st=="rings") (λg=>?_) (λg=>?_)
 .rw[cX g]at q;refine pB h1 (i' Z' (qJ (c:=x==c.cr) (λg2=>?_) (λg2=>?_)))
  .rw[g2]at q;exact⟨M,.refl,q⟩
  .rw[show(x==c.cr)=lf from dD.mpr g2,fH]at q;exact pB h1 (i' Z' (DB h3 ⟨M,.refl,q⟩))
 .rw[cV g]at q;refine pB h1 (i' Z' ?_);refine qJ (c:=c.st=="waits") (λg2=>?_) (λg2=>?_)
  .rw[cX g2]at q;exact pB h1 (i' Z' ⟨M,.refl,q⟩)
  .rw[cV g2]at q;refine pB h1 (i' Z' ⟨pk Z',Z',Z',?_⟩);show if inD (.str c.st) [.str "talks",.str "held"]=pc then _ else _
   rw[VX];refine qJ (λg3=>?_) (λg3=>?_)
   .rw[g3,eF]at q;exact pB h1 (i' Z' (DB h4 ⟨M,.refl,q⟩))
   .rw[show(c.st=="talks"||c.st=="held")=lf from dD.mpr g3,eL]at q;exact⟨M,.refl,q⟩
def wg:Fq P w K mg base 1 a.T (ze a):=by
 refine fq G.T.toDG yK (λr u=>⟨_,(pA (pF (sI (qa u (pG v0) pD) (sf (qa u U1 (pG v0)))))),?_⟩)
 rintro ds M Q ⟨L,k,c,x,rfl,⟨ad,md,h1,h2,h3,h4,_⟩,q⟩
 unfold pE.mS at q;refine pB h1 (i' Z' (qJ (c:=c.st=="talks") (λg=>?_) (λg=>?_)))
 .rw[g,eF]at q;exact pB h1 (i' Z' (DB h4 ⟨M,.refl,q⟩))
 .rw[show(c.st=="talks")=lf from dD.mpr g,eL]at q;exact⟨M,.refl,q⟩
def Lc:Fq P w K mg base 2 a.bH (Fc a):=by
 refine fq G.bH.toDG Dq (λr u=>⟨_,(pz (pS (pH u (pG v0) pD)
 (pA (pF (sI (qa u U1 (pG v0)) (sf (qa u U1 (pG v0))))))
 pL)
 (pA (pF (qb v0 G.e.toCls G.T (wg G) r (ql U1))))),?_⟩)
 rintro ds M Q ⟨L,k,c,x,rfl,hc,q⟩
 obtain⟨ad,md,h1,h2,h3,h4,_⟩:=id hc;unfold pE.m8 at q;refine pB h1 (i' Z' ?_);refine qJ (c:=c.st=="held") (λg=>?_) (λg=>?_)
 .rw[cX g]at q;refine pB h1 (i' Z' (i' h4 ⟨Z',qu c.ms,?_⟩));show if inD (.str x) (c.ms.map D.str)=pc then _ else _
  rw[qW];refine qJ (c:=hasS c.ms x) (λg2=>?_) (λg2=>?_)
  .rw[g2,eF]at q;refine pB h1 (i' Z' ?_);cases e:c.hd with
   | none=>rw[e]at q;exact⟨M,.refl,q⟩
   | some y=>
    rw[e]at q;refine⟨M,.refl,?_⟩;rw[show(!(Fa y==Fa x))=!(x==y)from by
     show(!(y==x))=_;rw[mi]]at q
    exact q
  .rw[show hasS c.ms x=lf from dD.mpr g2,eL]at q;exact⟨M,.refl,q⟩
 .rw[cV g]at q;exact pB h1 ⟨Z',_,⟨Z',Z'⟩,L,k,c,x,Z',hc,M,.refl,q⟩
def Ca:Fq P w K mg base 1 a.U (y9 a):=by
 refine fq G.U.toDG yt (λr u=>⟨_,(pA (pF (sI (qa u (pG v0) (pQ (r6 pD pD))) (sf (qa u U1 (pG v0)))))),?_⟩)
 rintro ds M Q ⟨L,k,c,x,rfl,⟨ad,md,h1,h2,h3,h4,_⟩,q⟩
 unfold pE.mR at q;refine pB h1 (i' Z' ⟨pk Z',Z',Z',?_⟩);show if inD (.str c.st) [.str "rings",.str "waits"]=pc then _ else _
 rw[VX];refine qJ (λg3=>?_) (λg3=>?_)
 .rw[g3,eF]at q;exact pB h1 (i' Z' ⟨M,.refl,q⟩)
 .rw[show(c.st=="rings"||c.st=="waits")=lf from dD.mpr g3,eL]at q;exact⟨M,.refl,q⟩
def GS:Fq P w K mg base 1 a.aq (vQ a):=by
 refine fq G.aq.toDG yX (λr u=>⟨_,(pA (pF (sI (qa u (pG v0) pD) (sf (qa u U1 (pG v0)))))),?_⟩)
 rintro ds M Q ⟨L,k,c,x,rfl,⟨ad,md,h1,h2,h3,h4,_⟩,q⟩
 unfold pE.mM at q;refine pB h1 (i' Z' (qJ (c:=c.st=="waits") (λg=>?_) (λg=>?_)))
 .rw[g,eF]at q;exact pB h1 (i' Z' (DB h3 ⟨M,.refl,q⟩))
 .rw[show(c.st=="waits")=lf from dD.mpr g,eL]at q;exact⟨M,.refl,q⟩
def Nu:Fq P w K mg base 2 a.bG (xq a):=by
 refine fq G.bG.toDG xf (λr u=>⟨_,(pA (pF (Jp (qb v0 G.e.toCls G.U (Ca G) r (ql U1)) (Jp (qa u U1 (pG v0)) (sf (qa u U1 (pG v0))))))),?_⟩)
 rintro ds M Q ⟨L,k,c,x,rfl,hc,q⟩
 obtain⟨ad,md,h1,h2,h3,h4,_⟩:=id hc;unfold pE.nq at q;refine pB h1 ⟨Z',_,⟨Z',Z'⟩,L,k,c,x,Z',hc,qJ (c:=c.mR x) (λg=>?_) (λg=>?_)⟩
 .rw[g]at q;exact⟨M,.refl,q⟩
 .rw[show c.mR x=lf from dD.mpr g,fH]at q;refine pB h1 (i' Z' (i' h3 ⟨Z',qu c.at_,?_⟩));show if inD (.str x) (c.at_.map D.str)=pc then _ else _
  rw[qW];refine qJ (c:=hasS c.at_ x) (λg2=>?_) (λg2=>?_)
  .rw[g2]at q;exact⟨M,.refl,q⟩
  .rw[show hasS c.at_ x=lf from dD.mpr g2,fH]at q;exact pB h1 (i' Z' (DB h4 ⟨M,.refl,q⟩))
def G7:Fq P w K mg base 2 a.au (FL a):=by
 refine fq G.au.toDG C0 (λr u=>⟨_,(pA (pF (sI (qb v0 G.e.toCls G.T (wg G) r (ql U1)) (sf (qa u (pV qw Z' G.g qo (ql (pG v0))) pC))))),?_⟩)
 rintro ds M Q ⟨L,k,c,x,rfl,hc,q⟩
 obtain⟨ad,md,h1,h2,h3,h4,_⟩:=id hc;unfold pE.mV at q;refine pB h1 ⟨Z',_,⟨Z',Z'⟩,L,k,c,x,Z',hc,qJ (c:=c.mS x) (λg=>?_) (λg=>?_)⟩
 .rw[g,eF]at q;refine pB h1 (i' Z' (i' h4 ⟨M,.refl,?_⟩));rw[cQ];have:(((c.ms.length:Nat):Int)==2)=(c.ms.length==2):=by rw[gk,fg,fg];lia
  show Q (.bl (((c.ms.length:Nat):Int)==2)) M;rw[this];exact q
 .rw[show c.mS x=lf from dD.mpr g,eL]at q;exact⟨M,.refl,q⟩
def GF:Fq P w K mg base 1 a.ar (zR a):=by
 refine fq G.ar.toDG yW (λr u=>⟨_,(pA (pF (pK (qI Z' (xu (ix:=[Db,Fa 1]) (N':=["member","phone"])) (qC (pG v0)) (qA 0) (uD (pH u v0 U1)) v0) pC))),?_⟩)
 rintro ds M Q ⟨L,k,c,x,y,r,rfl,hc,hl,e,q⟩
 have hz:=dN;obtain⟨ad,md,h1,h2,h3,h4,_⟩:=id hc;refine pB h1 (i' Z' (i' h4 (tF (f:=id) (t:=PM x) h4 _ [] _ (by rw[cQ];simp only[dF];lia) (λd hd k0 hk=>?_) (λd hd _ k0 hk=>?_) λp hp=>?_)))
 .obtain⟨y,hy,rfl⟩:=dw.mp hd;exact hk
 .obtain⟨y,hy,rfl⟩:=dw.mp hd;exact hk
 rw[BJ,e];exact i' pM (i' (wx _ _) ⟨M,.new hp,q⟩)
theorem B1:∀bs:T0 Bool,AX (.bl pc) (bs.map D.bl)=bs.findIdx? id
 | []=>rfl
 | b::r=>by rw[dW,List.findIdx?_cons];unfold AX;rw[B1 r];cases b<;>rfl
theorem KP(x:D):∀ds:T0 D,(AX x ds).isSome=ds.any λd=>Qh d x
 | []=>rfl
 | d::r=>by
  unfold AX;rw[fY];by_cases h:Qh d x=pc
  .rw[cX h,h];rfl
  .rw[cV h,jq,KP x r,show Qh d x=lf from dD.mpr h,fH]
theorem Cd:∀bs:T0 Bool,(bs.map D.bl).all uW=pc
 | []=>rfl
 | _::r=>by rw[dW,gv,Cd r];rfl
structure Rd(a:Ad)(M:Mp)(A:tW)(V:qp)(l:pJ):Prop where
 bd:pP a M A V
 k:V.calls.length<=1000000
 pl:sU a M V.p l
 ok:rf l
 on:V.on.length=l.mH.length
 ms:∀c∈V.calls,(∀x∈c.ms,x∈l.pn)/\c.ms.length<=100
def Rd.sub{V:qp}(h:Rd a M A V l)(s:qG M M'):Rd a M' A V l:=⟨h.bd.sub s,h.k,h.pl.sub s,h.ok,h.on,h.ms⟩
def Mm:rj:=λds M Q=>AW λr bs=>ds=[.ref r]/\oC M r=Fa (List.map D.bl bs)/\Q (OV (bs.findIdx? id)) M
def JO(f:qp->Str->D)(a:Ad):rj:=λds M Q=>De λA V x=>ds=[.ref A.b,.str x]/\pP a M A V/\V.calls.length<=1000000/\Q (f V x) M
def UH(V:qp)(x:Str):D:=.int (uZ V x:Nat)
def LK(V:qp)(x:Str):D:=OV (FK V x)
def AJ(V:qp)(x:Str):D:=OV (vO V x)
def TL(V:qp)(x:Str):D:=OV (Js V x)
def Th(V:qp)(x:Str):D:=.bl (AF V x)
abbrev EV:=JO UH
abbrev Dm:=JO LK
abbrev AZ:=JO AJ
abbrev AY:=JO TL
abbrev zX:=JO Th
def xn(a:Ad):rj:=λds M Q=>BE λA V l x=>ds=[.ref A.b,.str x]/\Rd a M A V l/\x∈l.pn/\Q (.bl (tU l V x)) M
def As(a:Ad):rj:=λds M Q=>FT λA V l c z=>ds=[.ref A.b,.str c,.str z]/\Rd a M A V l/\z∈l.nm/\∀q M',qG M M'->M q=Db->oC M' q=Fa ((uo l V c z).map D.str)->Q (.ref q) M'
def Al(a:Ad):rj:=λds M Q=>AW λA V=>ds=[.ref A.b]/\pP a M A V/\Q (.int ((V.h+V.t) % 24)) M
def Ob(a:Ad):rj:=λds M Q=>FT λA V l c z=>ds=[.ref A.b,.str c,.str z]/\Rd a M A V l/\z∈l.nm/\Q (.bl (yb l V c z)) M
def Jh{V:qp}(h:pP a M A V){pre post:T0 D}{d:D}(e:pre++d::post=A.cs.map λk=>D.ref k.p):∃k c,A.cs[pre.length]?=Fa k/\V.calls[pre.length]?=Fa c/\d=.ref k.p/\rX a M (A.lists++V.fo) k c/\V.calls.take (pre.length+1)=V.calls.take pre.length++[c]:=by
 have h1:(A.cs.map λk=>D.ref k.p)[pre.length]?=Fa d:=by rw[<-e];simp
 rw[dq]at h1;cases z:A.cs[pre.length]? with
 | none=>rw[z]at h1;cases h1
 | some k=>
  rw[z]at h1;have hi:pre.length<V.calls.length:=by rw[<-h.len];exact(cU.mp z).1
  have e2:V.calls[pre.length]?=Fa V.calls[pre.length]:=cS hi;refine⟨k,_,Z',e2,(cY h1).symm,h.cs _ _ _ z e2,?_⟩;rw[fS,e2];rfl
def yV{l:pJ}{x:Str}(h:x∈l.pn):∃v,l.m7 x=Fa v:=by
 obtain⟨p,hp,rfl⟩:=dw.mp h;unfold pJ.m7;cases e:l.mI.find? λq=>decide (q.1=p.1)with
 | some v=>exact⟨v,Z'⟩
 | none=>exact absurd (hG.mp e p hp) (by simp)
def qz:hasS ss x=pc↔x∈ss:=by unfold hasS;rw[gy];exact⟨λ⟨y,hy,e⟩=>xz e ▸ hy,λh=>⟨x,h,eQ _⟩⟩
def JP(h:wM ss=pc):ss.Nodup:=by
 have h:(tJ ss).length=ss.length:=by unfold wM at h;have:=fg.mp h;lia
 suffices key:∀r:QQQ,(tJ r.reverse).length=r.reverse.length->r.reverse.Nodup by have:=key ss.reverse;rw[List.reverse_reverse]at this;exact this h
 intro r;induction r with
 | nil=>intro _;exact dU
 | cons k r ih=>
  intro h;rw[List.reverse_cons]at h ⊢;generalize r.reverse=l at ih h ⊢;rw[ye]at h;split at h
  .have:=Jr l;rw[cT,dM]at h;lia
  .rename_i hk;rw[cT,cT,dM]at h;have h1:=ih (by lia);rw[L8]at hk;refine fm.mpr ⟨h1,by simp,λx hx y hy=>?_⟩;rw[df.mp hy];exact λz=>hk (z ▸ hx)
def HC{m:Int}(h:sH cs ks m=pc):cs≠[]/\(cs.length:Int)<=m/\cs.Nodup/\∀x∈cs,x∈ks:=by unfold sH at h;simp only[dQ,eA,eY]at h;obtain⟨h1,h2,h3,h4⟩:=h;refine⟨λz=>by rw[z]at h1;exact absurd h1 (by decide),h2,JP h3,λx hx=>qz.mp (h4 x hx)⟩
def rf.of(ok:rf l){z:Str}(hz:z∈l.nm):(l.mF z≠[]/\(l.mF z).length<=4/\(l.mF z).Nodup/\∀x∈l.mF z,x∈l.pn)/\(z∈l.pn->l.mF z=[z]/\l.mO z="one"):=by
 have hd:=fm.mp ok.nd;have h1:z∈l.pn->l.group z=Db:=λh=>hG.mpr λg hg e=>hd.2.2 z h g.1 (dw.mpr ⟨g,hg,Z'⟩) (by simpa using e:g.1=z).symm;refine⟨?_,λh=>by unfold pJ.mF pJ.mO;rw[h1 h];exact⟨Z',Z'⟩⟩;unfold pJ.mF;cases e:l.group z with
 | none=>
  have hp:z∈l.pn:=by
   rcases dR.mp hz with h|h
   .exact h
   .obtain⟨g,hg,rfl⟩:=dw.mp h;exact absurd (hG.mp e g hg) (by simp)
  exact⟨fD _ _,by show 1<=4;decide,dH.mpr ⟨dA,dU⟩,λx hx=>by rw[df.mp hx];exact hp⟩
 | some g=>obtain⟨c1,c2,c3,c4⟩:=HC (ok.go g (gj e)).mem;exact⟨c1,by show g.2.2.length<=4;lia,c3,c4⟩
def yf{V:qp}{f:pE->Str->Bool}{m x:Str}{Q:DK}{ok:Mp->Prop}(bd:pP a M A V)(hk:V.calls.length<=1000000)(mQ:ok M)(hm:∀c wy ad md,(rm c wy ad md).lookup m=Db)(q:∀p,M p=Db->Q (.ref p) (pI M p (.lst ((V.calls.map λc=>f c x).map D.bl)))):
  uM (sF 0) B7 (AB m (λC s=>C=a.e/\s=xC f a) (v3 0) (uS (v3 1) xk)) ok Q (A.cs.map λk=>D.ref k.p) [] [Db,Fa (.str x)] M:=by
 have hz:=dN;refine Bu (A.cs.map λk=>D.ref k.p) (λpre acc U M'=>M=M'/\acc=((V.calls.take pre.length).map λc=>f c x).map D.bl/\∃y,U=[y,Fa (.str x)]) (λ_ _ _ M' j=>by rw[<-j.1];exact mQ) _ [] [] _ _ Z' ?_ ⟨Z',Z',Db,Z'⟩ ?_ ?_
 .rw[cQ,bd.len];simp only[dF];lia
 .rintro pre d post e acc U M' ⟨rfl,rfl,y,rfl⟩ k hk
  obtain⟨ka,c,e1,e2,rfl,hc,et⟩:=Jh bd e;obtain⟨_,_,g1,_⟩:=id hc;refine pB g1 ⟨hm _ _ _ _,_,⟨Z',Z'⟩,_,ka,c,x,Z',hc,hk _ _ _ ⟨Z',?_,_,Z'⟩⟩;rw[cT,dM,et,dB,dB];rfl
 .rintro acc U M' ⟨rfl,rfl,y,rfl⟩ p hp
  rw[cQ,bd.len,fj];exact q p hp
def BZ:Fq P w K mg base 1 a.L Mm:=by
 refine fq G.L.toDG An (λr u=>⟨_,(pz (pS (pH u vJ v0)
 (pA (pF (xK v0 (ql vJ))))
 pL)
 (pA (pF se))),?_⟩)
 rintro ds M Q ⟨r,bs,rfl,hr,q⟩
 have ei:inD (.bl pc) (bs.map D.bl)=(bs.findIdx? id).isSome:=by rw[<-B1];exact(KP _ _).symm
 refine i' hr ⟨Z',Cd bs,?_⟩;show if inD (.bl pc) (bs.map D.bl)=pc then _ else _
 rw[ei];cases e:bs.findIdx? id with
 | none=>rw[e]at q;exact⟨M,.refl,q⟩
 | some j=>rw[e]at q;exact Lw ⟨by show(oC M r).isSome=pc;rw[hr];rfl,i' hr ⟨Z',Cd bs,i' ((B1 bs).trans e) ⟨M,.refl,q⟩⟩⟩
def OO:Fq P w K mg base 2 a.bE (EV a):=by
 refine fq G.bE.toDG Dh (λr u=>⟨_,(pA (pF (pV qw Z' G.g qo (ql (qI Z' (xu (ix:=[Db,Fa 1]) (N':=["call","phone"])) (qC (pG v0)) (qA 0) (uD (uV (qb v0 G.e.toCls G.bI (Rj G) r (ql U1)))) v0))))),?_⟩)
 rintro ds M Q ⟨A,V,x,rfl,bd,W1,q⟩
 have hz:=dN;refine pB bd.at_ (i' Z' (i' bd.ca ?_));refine wA (A.cs.map λk=>D.ref k.p) (λpre acc U M'=>M=M'/\acc.length=((V.calls.take pre.length).filter (·.hasB x)).length/\∃y,U=[y,Fa (.str x)]) (λ_ _ _ M' j=>by rw[<-j.1];exact bd.ca) _ [] [] _ _ Z' ?_ ⟨Z',Z',Db,Z'⟩ ?_ ?_
 .rw[cQ,bd.len];simp only[dF];lia
 .rintro pre d post e acc U M' ⟨rfl,ha,y,rfl⟩ k k2 hk X1
  obtain⟨ka,c,e1,e2,rfl,hc,et⟩:=Jh bd e;rw[cT,dM,et,hJ]at hk X1;obtain⟨_,_,g1,_⟩:=id hc;refine pB g1 ⟨Z',_,⟨Z',Z'⟩,_,ka,c,x,Z',hc,?_⟩;refine qJ (c:=c.hasB x) (λg=>?_) (λg=>?_)
  .refine hk _ _ _ ⟨Z',?_,_,Z'⟩;rw[cT,cT,ha,gT (by exact g)];rfl
  .refine X1 _ _ ⟨Z',?_,_,Z'⟩;rw[cT,ha,gU (by exact g)];rfl
 .rintro acc U M' ⟨rfl,ha,y,rfl⟩ p hp
  refine i' pM ⟨M,.new hp,?_⟩;rw[cQ,bd.len,fj]at ha;rw[ha];exact q
def Mt:Fq P w K mg base 3 a.bC (Dm a):=by
 refine fq G.bC.toDG Cr (λr u=>⟨_,(pA (pF (pN (BZ G) r G.L (ql (qI Z' (xu (ix:=[Db,Fa 1]) (N':=["call","phone"])) (qC (pG v0)) (qA 0) rS (qb v0 G.e.toCls G.bH (Lc G) r (ql U1))))))),?_⟩)
 rintro ds M Q ⟨A,V,x,rfl,bd,W1,q⟩
 refine pB bd.at_ (i' Z' (i' bd.ca (yf bd W1 bd.ca (λ_ _ _ _=>rfl) λp hp=>⟨p,_,Z',pM,M,.new hp,?_⟩)));rw[ia];exact q
def HX:Fq P w K mg base 3 a.bD (AY a):=by
 refine fq G.bD.toDG Ag (λr u=>⟨_,(pA (pF (pN (BZ G) r G.L (ql (qI Z' (xu (ix:=[Db,Fa 1]) (N':=["call","phone"])) (qC (pG v0)) (qA 0) rS (qb v0 G.e.toCls G.U (Ca G) r (ql U1))))))),?_⟩)
 rintro ds M Q ⟨A,V,x,rfl,bd,W1,q⟩
 refine pB bd.at_ (i' Z' (i' bd.ca (yf bd W1 bd.ca (λ_ _ _ _=>rfl) λp hp=>⟨p,_,Z',pM,M,.new hp,?_⟩)));rw[ia];exact q
def yO:Fq P w K mg base 3 a.Q (AZ a):=by
 refine fq G.Q.toDG Ae (λr u=>⟨_,(pA (pF (pN (BZ G) r G.L (ql (qI Z' (xu (ix:=[Db,Fa 1]) (N':=["call","phone"])) (qC (pG v0)) (qA 0) rS (qb v0 G.e.toCls G.T (wg G) r (ql U1))))))),?_⟩)
 rintro ds M Q ⟨A,V,x,rfl,bd,W1,q⟩
 refine pB bd.at_ (i' Z' (i' bd.ca (yf bd W1 bd.ca (λ_ _ _ _=>rfl) λp hp=>⟨p,_,Z',pM,M,.new hp,?_⟩)));rw[ia];exact q
def FV:Fq P w K mg base 3 a.bL (zX a):=by
 refine fq G.bL.toDG zt (λr u=>⟨_,(pA (pF (pV (Rn Z') Z' G.cD SO (ql (qI Z' (xu (ix:=[Db,Fa 1]) (N':=["call","phone"])) (qC (pG v0)) (qA 0) rS (qb v0 G.e.toCls G.aq (GS G) r (ql U1))))))),?_⟩)
 rintro ds M Q ⟨A,V,x,rfl,bd,W1,q⟩
 refine pB bd.at_ (i' Z' (i' bd.ca (yf bd W1 bd.ca (λ_ _ _ _=>rfl) λp hp=>i' pM ?_)));rw[dZ];refine i' (yg _ _) ⟨M,.new hp,?_⟩;rw[jO];exact q
def FU:Fq P w K mg base 1 a.bK (Al a):=by
 refine fq G.bK.toDG zD (λr u=>⟨_,(pA (pF (qc (qc (pG v0) (pG v0)) pC))),?_⟩)
 rintro ds M Q ⟨A,V,rfl,bd,q⟩
 exact pB bd.at_ (i' Z' (pB bd.at_ (i' Z' ⟨by decide,M,.refl,q⟩)))
def Md{l:pJ}{x:Str}{v:uH}(h:l.m7 x=Fa v):wZ l x=v.2.1:=by unfold wZ;rw[h];rfl
def yQ:Fq P w K mg base 3 a.S (xn a):=by
 refine fq G.S.toDG zW (λr u=>⟨_,(pA (pF (qa u (qb v0 G.c.toCls G.bE (OO G) r (ql U1)) (qb (pG v0) G.h.toCls G.bF (Dg G) r (ql U1))))),?_⟩)
 rintro ds M Q ⟨A,V,l,x,rfl,rd,hx,q⟩
 obtain⟨ph,gr,ws,X8,pr,gd,rs,i1,_⟩:=rd.pl;obtain⟨v,hv⟩:=yV hx;refine pB rd.bd.at_ ⟨Z',_,⟨Z',Z'⟩,A,V,x,Z',rd.bd,rd.k,?_⟩;refine pB rd.bd.at_ (i' Z' (pB i1 ⟨Z',_,⟨Z',Z'⟩,V.p,x,v,l,Z',rd.pl,hv,?_⟩));unfold tU at q;rw[Md hv]at q;exact⟨M,.refl,q⟩
def AC:Fq P w K mg base 4 a.aJ (As a):=by
 refine fq G.aJ.toDG zM (λr u=>⟨_,(pA (pF (qI Z' (xu (ix:=[Db,Fa 1,Fa 0]) (N':=["phone","caller","self"])) (qC (qb (pG v0) G.h.toCls G.V (uk G) r (ql U2))) (qA 0) (uD (W3.b3 (wH (pH u v0 U1) (vF (uV (qb U2 G.c.toCls G.S (yQ G) r (ql v0))))))) v0))),?_⟩)
 rintro ds M Q ⟨A,V,l,c,z,rfl,rd,XB,q⟩
 obtain⟨ph,gr,ws,X8,pr,gd,rs,i1,_⟩:=rd.pl;obtain⟨⟨_,p4,_,pin⟩,_⟩:=rd.ok.of XB;refine pB rd.bd.at_ (i' Z' (pB i1 ⟨Z',_,⟨Z',Z'⟩,V.p,z,l,Z',rd.pl,λq1 XA=>i' pM ?_⟩));obtain⟨M1,e0,s1,c1⟩:=vX (ds:=List.map D.str (l.mF z)) XA;rw[<-e0];have hz:=dN;have Yr:=rd.sub s1;refine tF (f:=id) (t:=λd=>match d with|.str x=>!(x==c)&&tU l V x|_=>lf) c1 _ [] _ (by rw[cQ];simp only[dF];lia) (λd hd k hk=>?_) (λd hd _ k hk=>?_) λq2 YS=>?_
 .obtain⟨x,hx,rfl⟩:=dw.mp hd;have hk:k (!(x==c)&&tU l V x) M1:=hk;cases e:x==c with
  | true=>rw[e]at hk;refine HK (c:=!(x==c)) (by rw[e];rfl) hk
  | false=>rw[e]at hk;refine zH (c:=!(x==c)) (by rw[e];rfl) (pB Yr.bd.at_ ⟨Z',_,⟨Z',Z'⟩,A,V,l,x,Z',Yr,pin x hx,hk⟩)
 .obtain⟨x,hx,rfl⟩:=dw.mp hd;exact hk
 .have ef:[]++(List.filter (λd=>match d with|.str x=>!(x==c)&&tU l V x|_=>lf) ((l.mF z).map D.str)).map id=(uo l V c z).map D.str:=by rw[dX,je,g9];rfl
  rw[ef];have t2:=qG.new (c:=.lst ((uo l V c z).map D.str)) YS;exact⟨_,.refl,q q2 _ (s1.trans t2) (s1.none YS) pM⟩
def Ft:Fq P w K mg base 5 a.M (Ob a):=by
 refine fq G.M.toDG Hx (λr u=>⟨_,(pA (pF (qa u (pV qw Z' G.g qo (ql (qb v0 G.c.toCls G.aJ (AC G) r (r6 U1 U2)))) pC))),?_⟩)
 rintro ds M Q ⟨A,V,l,c,z,rfl,rd,tg,q⟩
 refine pB rd.bd.at_ ⟨Z',_,⟨Z',Z'⟩,A,V,l,c,z,Z',rd,tg,λq1 M1 s1 XA e1=>i' e1 ⟨M,s1,?_⟩⟩;have e:((((uo l V c z).map D.str).length:Int)==0)=yb l V c z:=by unfold yb;rw[cQ,gk,fg,List.isEmpty_iff,<-fQ];lia
 show Q (.bl ((((uo l V c z).map D.str).length:Int)==0)) M;rw[e];exact q
def xh(a:Ad)(v:Wi):rj:=λds M Q=>JE λp A V l c z=>ds=[.ref p,.ref A.b,.str c,.str z]/\M p=Fa (.ins (v.cls a) v.nK)/\Rd a M A V l/\z∈l.nm/\B5 l.pn l.nm v/\Q (.bl (Bg l V c z v)) M
def QK(a:Ad)(v:Wi):rj:=λds M Q=>BE λp L k c=>ds=[.ref p,.ref (rN.p k)]/\M p=Fa (.ins (v.cls a) v.nK)/\rX a M L k c/\Q (.bl (GB c v)) M
def Gm:rj:=λds M Q=>AW λx y=>ds=[x,y]/\Q (.bl lf) M
def ME(a:Ad):Uf->rj->Prop:=λC sp=>∃v:Wi,C=v.cls a/\sp=xh a v
noncomputable def MW(a:Ad):Wi->rj
 | .silent x y n=>QK a (.silent x y n)
 | _=>Gm
def GG(a:Ad):Uf->rj->Prop:=λC sp=>∃v:Wi,C=v.cls a/\sp=MW a v
def Aw(a:Ad):rj:=λds M Q=>JE λp x y f l h=>ds=[.ref p,.int h]/\M p=Fa (.ins a.n (Wi.night x y f l).nK)/\Q (.bl (E9 f l h)) M
def zc(a:Ad):rj:=λds M Q=>JE λp x q l r ms=>ds=[.ref p,.ref q,.ref r]/\M p=Fa (.ins a.o (Wi.breaks x).nK)/\sU a M q l/\oC M r=Fa (List.map D.str ms)/\ms.length<=100/\x∈l.pn/\(∀m∈ms,m∈l.pn)/\Q (.bl (Ij l x ms)) M
def I0{l:pJ}{x:Str}{v:uH}(h:l.m7 x=Fa v):vP l x=v.2.2:=by unfold vP;rw[h];rfl
def rc{ks:List rN}{i:Nat}{k:rN}(h:ks[i]?=Fa k):vA (ks.map λk=>D.ref k.p) (i:Nat)=Fa (.ref k.p):=ub (by rw[dq,h];rfl)
def K3(ds:T0 D):L3.tM ds (Fa (-1:Int)) Db=ds.drop (ds.length - 1):=by
 unfold L3.tM;have e:HT.sX ds.length 0 (Fa (-1:Int))=ds.length - 1:=by show(if (-1:Int)<0 then((-1:Int)+(ds.length:Int)).toNat else min (-1:Int).toNat ds.length)=ds.length - 1;rw[cX (by decide)];lia
 rw[e];show(ds.drop (ds.length - 1)).take (ds.length - (ds.length - 1))=_;exact hZ (by rw[gb];exact cZ _)
theorem Dz{α:Type}:∀w:List α,w.drop (w.length - 1)=w.getLast?.toList
 | []=>rfl
 | [_]=>rfl
 | _::z::r=>by rw[jT,<-Dz (z::r)];rfl
def NL{p q:Uf}{w:QQQ}(h1:oC M p=Fa ((w.map D.str).drop ((w.map D.str).length - 1)))(h2:oC M q=Fa [D.str x]):yk M 9 (.ref p) (.ref q)=Fa (w.getLast?==Fa x):=by
 have e:(w.map D.str).drop ((w.map D.str).length - 1)=(w.getLast?.toList).map D.str:=by rw[cQ,<-kE];rw[Dz]
 rw[e]at h1;show(oC M p).bind (λi=>(oC M q).bind λj=>if i.length=j.length then sE (yk M 8) i j else Fa lf)=_;rw[h1,h2];cases w.getLast? with
 | none=>rfl
 | some y=>show((Fa (y==x)).bind λp=>(Fa pc).map λq=>p&&q)=Fa (Fa y==Fa x);show Fa ((y==x)&&pc)=_;rw[mj];rfl
def MV(G:Gl K mg a)(x:Str)(ns:QQQ):Fq P w K mg base 6 a.aA (xh a (.bar x ns)):=by
 refine fq G.aA.toDG GV (λr u=>⟨_,(pA (pF (sI (qa u U2 (pG v0)) (sf (qa u U3 (pG v0)))))),?_⟩)
 rintro ds M Q ⟨p,A,V,l,c,z,rfl,hp,_,_,_,q⟩
 refine pB hp ?_;refine qJ (c:=c==x) (λg=>pB hp ⟨Z',qu ns,M,.refl,?_⟩) (λg=>⟨M,.refl,?_⟩)
 .show Q (.bl (inD (.str z) (ns.map D.str))) M;rw[qW];dsimp only[Bg]at q;rw[g,eF]at q;exact q
 .dsimp only[Bg]at q;rw[show(c==x)=lf from dD.mpr g,eL]at q;exact q
def L1(G:Gl K mg a)(x:Str)(ns:QQQ):Fq P w K mg base 6 a.aB (xh a (.shut x ns)):=by
 refine fq G.aB.toDG ED (λr u=>⟨_,(pA (pF (sI (qa u U3 (pG v0)) (sf (qa u U2 (pG v0)))))),?_⟩)
 rintro ds M Q ⟨p,A,V,l,c,z,rfl,hp,_,_,_,q⟩
 refine pB hp ?_;refine qJ (c:=z==x) (λg=>pB hp ⟨Z',qu ns,M,.refl,?_⟩) (λg=>⟨M,.refl,?_⟩)
 .show Q (.bl (inD (.str c) (ns.map D.str))) M;rw[qW];dsimp only[Bg]at q;rw[g,eF]at q;exact q
 .dsimp only[Bg]at q;rw[show(z==x)=lf from dD.mpr g,eL]at q;exact q
def Ld(G:Gl K mg a)(x y:Str):Fq P w K mg base 6 a.aC (xh a (.always x y)):=by
 refine fq G.aC.toDG B0 (λr u=>⟨_,(pA (pF (qa u U3 (pG v0)))),?_⟩)
 rintro ds M Q ⟨p,A,V,l,c,z,rfl,hp,_,_,_,q⟩
 exact pB hp ⟨M,.refl,q⟩
def F':Fq P w K mg base 1 a.bJ (Aw a):=by
 refine fq G.bJ.toDG zk (λr u=>⟨_,(pz (pS (pH u (pG v0) (pG v0))
 (pA (pF (ut u (pG v0) U1 (pG v0))))
 pL)
 (pA (pF (Jp (qa u U1 (pG v0)) (sf (qa u U1 (pG v0))))))),?_⟩)
 rintro ds M Q ⟨p,x,y,f,l,h,rfl,hp,q⟩
 refine pB hp (pB hp ?_);show if (decide (f<l))=pc then _ else _
 unfold E9 at q;by_cases z:f<l
 .rw[cX z]at q;refine zH (dP z) (pB hp ?_);refine qJ (c:=decide (f<=h)) (λg=>?_) (λg=>?_)
  .rw[g,eF]at q;exact pB hp ⟨M,.refl,q⟩
  .rw[show decide (f<=h)=lf from dD.mpr g,eL]at q;exact⟨M,.refl,q⟩
 .rw[cV z]at q;refine HK (eO z) (pB hp ?_);refine qJ (c:=decide (h>=f)) (λg=>?_) (λg=>?_)
  .rw[g,ic]at q;exact⟨M,.refl,q⟩
  .rw[show decide (h>=f)=lf from dD.mpr g,fH]at q;exact pB hp ⟨M,.refl,q⟩
def Ly(G:Gl K mg a)(x y:Str)(f m:Int):Fq P w K mg base 6 a.aD (xh a (.night x y f m)):=by
 refine fq G.aD.toDG Dt (λr u=>⟨_,(pA (pF (sI (qa u U3 (pG v0)) (sf (qb v0 G.n.toCls G.bJ (F' G) r (ql (yr U1 G.c.toCls G.bK (FU G) r))))))),?_⟩)
 rintro ds M Q ⟨p,A,V,l,c,z,rfl,hp,rd,_,_,q⟩
 dsimp only[Bg]at q;refine pB hp ?_;refine qJ (c:=z==x) (λg=>?_) (λg=>?_)
 .rw[g,eF]at q;exact pB hp ⟨Z',_,⟨Z',Z'⟩,pB rd.bd.at_ ⟨Z',_,⟨Z',Z'⟩,A,V,Z',rd.bd,p,x,y,f,m,_,Z',hp,M,.refl,q⟩⟩
 .rw[show(z==x)=lf from dD.mpr g,eL]at q;exact⟨M,.refl,q⟩
def MD(G:Gl K mg a)(x y:Str):Fq P w K mg base 6 a.aE (xh a (.busy x y)):=by
 refine fq G.aE.toDG Ee (λr u=>⟨_,(pA (pF (sI (qa u U3 (pG v0)) (sf (pN (Ft G) r G.M (rk U1 U2 U3)))))),?_⟩)
 rintro ds M Q ⟨p,A,V,l,c,z,rfl,hp,rd,hz,_,q⟩
 dsimp only[Bg]at q;refine pB hp ?_;refine qJ (c:=z==x) (λg=>?_) (λg=>?_)
 .rw[g,eF]at q;exact⟨A,V,l,c,z,Z',rd,hz,M,.refl,q⟩
 .rw[show(z==x)=lf from dD.mpr g,eL]at q;exact⟨M,.refl,q⟩
def LV(G:Gl K mg a)(x y:Str)(n:Int):Fq P w K mg base 6 a.aF (xh a (.silent x y n)):=by
 refine fq G.aF.toDG Co (λr u=>⟨_,(pA (pF vJ)),?_⟩)
 rintro ds M Q ⟨p,A,V,l,c,z,rfl,hp,rd,hz,_,q⟩
 exact⟨M,.refl,q⟩
def MQ(G:Gl K mg a)(x:Str):Fq P w K mg base 6 a.aG (xh a (.wait x)):=by
 refine fq G.aG.toDG Et (λr u=>⟨_,(pz (pS (W3.b3 (ww (pH u U3 (pG v0)) (vU (pH u U2 (pG v0)))))
 (pA (pF vJ))
 pL)
 (pA (pF (sI (pN (Ft G) r G.M (rk U1 U2 U3)) (sf (Sn (qb U1 G.c.toCls G.bL (FV G) r (ql U3)))))))),?_⟩)
 rintro ds M Q ⟨p,A,V,l,c,z,rfl,hp,rd,hz,_,q⟩
 dsimp only[Bg]at q;refine pB hp ?_;refine qJ (c:=!(z==x)) (λg=>?_) (λg=>?_)
 .rw[g,ic]at q;exact⟨M,.refl,q⟩
 rw[show(!(z==x))=lf from dD.mpr g,fH]at q;refine pB hp ?_;refine qJ (c:=c==x) (λg=>?_) (λg=>?_)
 .rw[g]at q;exact⟨M,.refl,q⟩
 rw[cV g]at q;refine⟨A,V,l,c,z,Z',rd,hz,?_⟩;refine qJ (c:=yb l V c z) (λg=>?_) (λg=>?_)
 .rw[g,eF]at q;exact pB rd.bd.at_ ⟨Z',_,⟨Z',Z'⟩,A,V,z,Z',rd.bd,rd.k,M,.refl,q⟩
 .rw[show yb l V c z=lf from dD.mpr g,eL]at q;exact⟨M,.refl,q⟩
def Gw:Fq P w K mg base 2 a.bM (zc a):=by
 refine fq G.bM.toDG vg (λr u=>⟨_,(pz (pO 3 vg (qb U1 G.h.toCls G.aK (zg G) r (ql (pG v0))))
 (pA (pF (pV (Fh Z') Z' G.bO Ep (ql (qI Z' (xu (ix:=[Db,Fa 1,Fa 3]) (N':=["member","plan","rank"])) (qC U2) (qA 0) rS (qa u (qb U1 G.h.toCls G.aK (zg G) r (ql v0)) U2))))))),?_⟩)
 rintro ds M Q ⟨p,x,q,l,r,ms,rfl,hp,pl,lr,h100,hx,hm,k⟩
 have hz:=dN;obtain⟨v,hv⟩:=yV hx;obtain⟨ph,gr,ws,X8,pr,gd,rs,i1,_⟩:=id pl;refine pB i1 ⟨Z',_,⟨Z',Z'⟩,pB hp (i' Z' ⟨q,x,v,l,Z',pl,hv,?_⟩)⟩;refine i' lr (qV (f:=λd=>match d with|.str m=>.bl (decide (vP l m<vP l x))|_=>.mL) lr _ [] _ (by rw[cQ];show 0+ms.length<=Ch;lia) (λd hd k0 hk=>?_) λp1 Xz=>?_)
 .obtain⟨m,hmm,rfl⟩:=dw.mp hd;obtain⟨u,hu⟩:=yV (hm m hmm);have hk:k0 (.bl (decide (vP l m<vP l x))) M:=hk;rw[I0 hu,I0 hv]at hk;exact pB i1 ⟨Z',_,⟨Z',Z'⟩,q,m,u,l,Z',pl,hu,hk⟩
 .have em:[]++(ms.map D.str).map (λd=>match d with|.str m=>.bl (decide (vP l m<vP l x))|_=>.mL)=ms.map λm=>D.bl (decide (vP l m<vP l x)):=by rw[dX,dZ];rfl
  rw[em];refine i' pM (i' (yg (λm=>decide (vP l m<vP l x)) ms) ⟨M,.new Xz,?_⟩);unfold Ij at k;rw[zA];exact k
def Nn(G:Gl K mg a)(x:Str):Fq P w K mg base 6 a.aH (xh a (.breaks x)):=by
 refine fq G.aH.toDG vi (λr u=>⟨_,(pz (pS (W3.b3 (ww (pH u U2 (pG v0)) (vU (pH u U3 (pG v0)))))
 (pA (pF vJ))
 pL)
 (pz (pS (W3.b3 (ww (pH u U3 (yr (pG U1) G.h.toCls G.R (tQ G) r)) (vU (wO (uV (pN (Ft G) r G.M (rk U1 U2 U3)))))))
 (pA (pF vJ))
 pL)
 (pz (pO 4 vi (qb U1 G.c.toCls G.Q (yO G) r (ql U3)))
 (pz (pS (pH u v4 se)
 (pA (pF vJ))
 pL)
 (pz (pO 5 vi (pG (pK (pG U1) v4)))
 (pA (pF (sI (qa u (pV qw Z' G.g qo (ql v5)) pC) (sf (qb v0 G.o.toCls G.bM (Gw G) r (r6 (pG U1) v5))))))))))),?_⟩)
 rintro ds M Q ⟨p,A,V,l,c,z,rfl,hp,rd,XB,hx,q⟩
 have hx:x∈l.pn:=qz.mp hx;obtain⟨ph,gr,ws,X8,pr,gd,rs,i1,_⟩:=rd.pl;have p8:=rd.ok.p8;dsimp only[Bg,Il]at q;refine pB hp ?_;refine qJ (c:=!(c==x)) (λh1=>?_) (λh1=>?_)
 .rw[h1,ic]at q;exact⟨M,.refl,q⟩
 rw[show(!(c==x))=lf from dD.mpr h1,fH]at q;refine pB hp ?_;refine qJ (c:=z==x) (λh2=>?_) (λh2=>?_)
 .rw[h2]at q;exact⟨M,.refl,q⟩
 rw[cV h2]at q;refine pB rd.bd.at_ (i' Z' (pB i1 ⟨Z',_,⟨Z',Z'⟩,V.p,l,Z',rd.pl,by lia,λq1 XA=>i' pM ⟨Z',qu _,?_⟩⟩));have t:=qG.new (c:=.lst (l.pn.map D.str)) XA;have W2:=rd.sub t;generalize pI M q1 (.lst (l.pn.map D.str))=M1 at t W2 ⊢;show if (!(inD (.str z) (l.pn.map D.str)))=pc then _ else _
 rw[qW];refine qJ (c:=!(hasS l.pn z)) (λh3=>?_) (λh3=>?_)
 .rw[h3,ic]at q;exact⟨M,t,q⟩
 rw[show(!(hasS l.pn z))=lf from dD.mpr h3,fH]at q;refine⟨A,V,l,c,z,Z',W2,XB,?_⟩;refine qJ (c:=!(yb l V c z)) (λh4=>?_) (λh4=>?_)
 .rw[h4]at q;exact⟨M,t,q⟩
 rw[cV h4]at q;refine pB W2.bd.at_ ⟨Z',_,⟨Z',Z'⟩,A,V,z,Z',W2.bd,W2.k,?_⟩;cases e:vO V z with
 | none=>rw[e]at q;rw[show AJ V z=.mL from by unfold AJ;rw[e];rfl];exact⟨M,t,q⟩
 | some j=>
  rw[show AJ V z=.int (j:Nat)from by unfold AJ;rw[e];rfl];have hj:j<V.calls.length:=(iE.mp e).1;have e2:V.calls[j]?=Fa V.calls[j]:=cS hj;rw[e]at q;generalize V.calls[j]=k at e2;have q:Q (.bl (((V.calls[j]?).elim lf λk=>(k.ms.length==2)&&Ij l x k.ms))) M:=q;rw[e2]at q;have hj:j<A.cs.length:=by rw[rd.bd.len];exact hj
  have ek:A.cs[j]?=Fa A.cs[j]:=cS hj;obtain⟨ad,md,f1,f2,f3,f4,_⟩:=W2.bd.cs j _ k ek e2;refine pB W2.bd.at_ (i' Z' (i' Z' (i' W2.bd.ca (i' (rc ek) (pB f1 (i' Z' ?_))))));refine i' f4 ?_;have el:((((k.ms.map D.str).length:Nat):Int)==2)=(k.ms.length==2):=by rw[cQ,gk,fg,fg];lia
  show if ((((k.ms.map D.str).length:Nat):Int)==2)=pc then _ else _
  rw[el];have q:Q (.bl ((k.ms.length==2)&&Ij l x k.ms)) M:=q;refine qJ (c:=k.ms.length==2) (λh5=>?_) (λh5=>?_)
  .rw[h5,eF]at q;have hm:=rd.ms k (qY e2);refine pB (t _ _ hp) ⟨Z',_,⟨Z',Z'⟩,pB W2.bd.at_ (i' Z' ⟨p,x,V.p,l,md,k.ms,Z',t _ _ hp,W2.pl,f4,hm.2,hx,hm.1,M,t,q⟩)⟩
  .rw[show(k.ms.length==2)=lf from dD.mpr h5,eL]at q;exact⟨M,t,q⟩
def L4:Fq P w K mg base 1 a.q Gm:=by
 refine fq G.q.toDG Cp (λr u=>⟨_,(pA (pF vJ)),?_⟩)
 rintro ds M Q ⟨x,y,rfl,q⟩
 exact⟨M,.refl,q⟩
def Sw(G:Gl K mg a)(x y:Str)(n:Int):Fq P w K mg base 1 a.av (QK a (.silent x y n)):=by
 refine fq G.av.toDG Aj (λr u=>⟨_,(pA (pF (sI (qa u (rC (pG U1) (rR (uQ pC)) sC) (qN (ql (pG v0)))) (sf (qa u (pG v0) (pG U1)))))),?_⟩)
 rintro ds M Q ⟨p,L,k,c,rfl,hp,⟨ad,md,h1,h2,h3,h4,_⟩,q⟩
 refine pB h1 (i' Z' (i' h2 λp1 Xz=>?_));have t1:=qG.new (c:=.lst (L3.tM (c.way.map D.str) (Fa (-1:Int)) Db)) Xz;have l1:oC (pI M p1 (.lst (L3.tM (c.way.map D.str) (Fa (-1:Int)) Db))) p1=Fa ((c.way.map D.str).drop ((c.way.map D.str).length - 1)):=by rw[pM,K3]
 show Aq (pI M p1 (.lst (L3.tM (c.way.map D.str) (Fa (-1:Int)) Db)) p) _;generalize pI M p1 (.lst (L3.tM (c.way.map D.str) (Fa (-1:Int)) Db))=M1 at t1 l1 ⊢;refine pB (t1 _ _ hp) ⟨pk Z',λp2 WH=>?_⟩;obtain⟨M2,e0,t2,l2⟩:=vX (ds:=[D.str x]) WH;rw[<-e0];show Option.elim (yk M2 9 (.ref p1) (.ref p2)) False _;have s2:=t1.trans t2;refine i' (NL (t2.lst l1) l2) ?_;dsimp only[GB]at q;refine qJ (c:=c.way.getLast?==Fa x) (λg=>?_) (λg=>?_)
 .rw[g,eF]at q;exact pB (s2 _ _ hp) (pB (s2 _ _ h1) ⟨M,s2,q⟩)
 .rw[show(c.way.getLast?==Fa x)=lf from dD.mpr g,eL]at q;exact⟨M,s2,q⟩
def RA:∀C sp,ME a C sp->xJ P w K mg base 6 "fits" C (NH K sp):=by
 rintro C sp ⟨v,rfl,rfl⟩
 cases v with
 | bar x ns=>exact⟨G.r.toCls,_,_,_,G.aA.nj,MV G x ns,G.aA.b⟩
 | shut x ns=>exact⟨G.t.toCls,_,_,_,G.aB.nj,L1 G x ns,G.aB.b⟩
 | always x y=>exact⟨G.w.toCls,_,_,_,G.aC.nj,Ld G x y,G.aC.b⟩
 | night x y f m=>exact⟨G.n.toCls,_,_,_,G.aD.nj,Ly G x y f m,G.aD.b⟩
 | busy x y=>exact⟨G.x.toCls,_,_,_,G.aE.nj,MD G x y,G.aE.b⟩
 | silent x y n=>exact⟨G.u.toCls,_,_,_,G.aF.nj,LV G x y n,G.aF.b⟩
 | wait x=>exact⟨G.v.toCls,_,_,_,G.aG.nj,MQ G x,G.aG.b⟩
 | breaks x=>exact⟨G.o.toCls,_,_,_,G.aH.nj,Nn G x,G.aH.b⟩
def Um:∀C sp,GG a C sp->xJ P w K mg base 1 "is_due" C (NH K sp):=by
 rintro C sp ⟨v,rfl,rfl⟩
 have F:=L4 (P:=P) (w:=w) (base:=base) G;cases v with
 | silent x y n=>exact⟨G.u.toCls,_,_,_,G.av.nj,Sw G x y n,G.av.b⟩
 | bar _ _=>exact⟨G.r.toCls,_,_,_,G.ci,F,G.q.b⟩
 | shut _ _=>exact⟨G.t.toCls,_,_,_,G.cj,F,G.q.b⟩
 | always _ _=>exact⟨G.w.toCls,_,_,_,G.ck,F,G.q.b⟩
 | night _ _ _ _=>exact⟨G.n.toCls,_,_,_,G.cl,F,G.q.b⟩
 | busy _ _=>exact⟨G.x.toCls,_,_,_,G.cm,F,G.q.b⟩
 | wait _=>exact⟨G.v.toCls,_,_,_,G.cn,F,G.q.b⟩
 | breaks _=>exact⟨G.o.toCls,_,_,_,G.co,F,G.q.b⟩
def Jk{es pre post:T0 D}{d:D}(e:pre++d::post=uC 0 es):∃x,es[pre.length]?=Fa x/\d=.tup [.int (pre.length:Nat),x]:=by
 have h:(uC 0 es)[pre.length]?=Fa d:=by rw[<-e];simp
 rw[zj]at h;cases q:es[pre.length]? with
 | none=>rw[q]at h;cases h
 | some x=>rw[q]at h;refine⟨x,Z',?_⟩;have:=(cY h).symm;rw[mx]at this;exact this
def vm(n:Nat):∀es:T0 D,(uC n es).length=es.length:=λes=>by
 have h:∀i:Nat,(uC n es)[i]?=Db↔es[i]?=Db:=λi=>by rw[zj];cases es[i]?<;>simp
 have a:=(h es.length).mpr (gC (cZ _));have b:=(h (uC n es).length).mp (gC (cZ _));rw[List.getElem?_eq_none_iff]at a b;lia
def Jy{l:pJ}{V:qp}{f:Wi->Bool}{tt:AE}{ok:Mp->Prop}{Q:DK}{M:Mp}{rest:T0 (Option D)}(hl:V.on.length=l.mH.length)(h16:l.mH.length<=16)(mQ:ok M) (ht:∀(i:Nat) (w:vt),l.mH[i]?=Fa w->∀(y:Option D) (k:Bool->Mp->Prop),k (f w.2) M->tt (Fa (.int (i:Nat))::y::rest) M k) (q:∀p,M p=Db->Q (.ref p) (pI M p (.lst ((HF l V f).map λn=>D.int (n:Nat))))):
  uM (Qy 2 (Cf (sF 0) (Cf (sF 1) Iu))) (Pz (b3 (v3 1)) tt) (v3 0) ok Q (uC 0 (V.on.map D.bl)) [] (Db::Db::rest) M:=by
 have hz:=dN;refine wA (uC 0 (V.on.map D.bl)) (λpre acc U M'=>M=M'/\acc=((List.range pre.length).filter λi=>V.on.getD i lf&&(l.mH[i]?).elim lf λw=>f w.2).map (λn=>D.int (n:Nat))/\∃y1 y2,U=y1::y2::rest) (λ_ _ _ M' j=>by rw[<-j.1];exact mQ) _ [] [] _ _ Z' ?_ ⟨Z',Z',Db,Db,Z'⟩ ?_ ?_
 .rw[vm,cQ,hl];simp only[dF];lia
 .rintro pre d post e acc U M' ⟨rfl,rfl,y1,y2,rfl⟩ k k2 hk X1
  obtain⟨x,hx,rfl⟩:=Jk e;rw[cT,dM,jY,hJ]at hk X1;rw[dq]at hx;cases eo:V.on[pre.length]? with
  | none=>rw[eo]at hx;cases hx
  | some b=>
   rw[eo]at hx;have hx:D.bl b=x:=cY hx;subst hx;have hi:pre.length<l.mH.length:=by rw[<-hl];exact(cU.mp eo).1
   have ew:l.mH[pre.length]?=Fa l.mH[pre.length]:=cS hi;generalize l.mH[pre.length]=w0 at ew;have eg:V.on.getD pre.length lf=b:=by rw[gD,eo];rfl
   have no:(b&&f w0.2)=lf->k2 (Fa (.int (pre.length:Nat))::Fa (.bl b)::rest) M:=λg=>by refine X1 _ _ ⟨Z',?_,_,_,Z'⟩;rw[gU (by rw[eg,ew];show ¬(b&&f w0.2)=pc;rw[g];exact dh),hU,dO]
   refine⟨Z',?_⟩;show if b=pc then _ else _
   cases b with
   | false=>exact EO (no Z')
   | true=>
    refine Lw (ht _ _ ew _ _ ?_);cases g:f w0.2 with
    | false=>exact EO (no (by rw[g];rfl))
    | true=>refine Lw (hk _ _ _ ⟨Z',?_,_,_,Z'⟩);rw[gT (by rw[eg,ew];show(pc&&f w0.2)=pc;rw[g];rfl),hU,dB];rfl
 .rintro acc U M' ⟨rfl,rfl,y1,y2,rfl⟩ p hp
  rw[vm,cQ];exact q p hp
def Bl(h:sN a M rs ws){i:Nat}{w:vt}(e:ws[i]?=Fa w):∃r,vA (rs.map D.ref) (i:Nat)=Fa (.ref r)/\M r=Fa (.ins (w.2.cls a) w.2.nK):=by
 have hi:i<rs.length:=by rw[h.1];exact(cU.mp e).1
 exact⟨rs[i],ub (by rw[dq,cS hi];rfl),h.2 i _ w (cS hi) e⟩
def MN(ds:T0 D)(m:Nat):L3.tM ds Db (Fa (m:Int))=ds.take m:=by
 unfold L3.tM;rw[HT.zm,HT.EN,jb,kZ];by_cases h:m<=ds.length
 .rw[me h]
 .rw[Nat.min_eq_right (by lia),fj,hZ (by lia)]
def Hs(ds:T0 D)(m:Nat)(h:m<=ds.length):L3.tM ds (Fa (m:Int)) Db=ds.drop m:=by unfold L3.tM;rw[HT.zm,HT.EN,me h];exact hZ (by rw[gb];exact cZ _)
def uu(l:pJ)(V:qp):Prop:=∀z∈l.nm,(l.mO z=="turns")=pc->∃v,V.ps.find? (λp=>decide (p.1=z))=Fa v/\0<=v.2/\v.2<=((l.mF z).length:Int)
def K5{V:qp}(h:uu l V){z:Str}(hz:z∈l.nm)(e:(l.mO z=="turns")=pc):vC (tw V.ps) (.inr z)=Fa (.int (zv V z:Nat))/\zv V z<=(l.mF z).length:=by
 obtain⟨v,e1,e2,e3⟩:=h z hz e;have h1:zv V z=v.2.toNat:=by unfold zv;rw[e1];rfl
 have h2:vC (tw V.ps) (.inr z)=(V.ps.find? λp=>decide (p.1=z)).map λp=>D.int p.2:=yi (λp:Str×Int=>p.1) (λp=>D.int p.2) z V.ps;rw[h2,e1,h1];exact⟨by show Fa (D.int v.2)=Fa (.int (v.2.toNat:Nat));rw[Int.toNat_of_nonneg e2],by lia⟩
def Ia(a:Ad):rj:=λds M Q=>FT λA V l c z=>ds=[.ref A.b,.str c,.str z]/\Rd a M A V l/\z∈l.nm/\Q (xW (BN l V c z)) M
def Oz(a:Ad):rj:=λds M Q=>FT λA V l c z=>ds=[.ref A.b,.str c,.str z]/\Rd a M A V l/\z∈l.nm/\uu l V/\Q (names (xR l V c z)) M
def Ls(a:Ad):rj:=λds M Q=>FT λA V l c z=>ds=[.ref A.b,.str c,.str z]/\Rd a M A V l/\z∈l.nm/\uu l V/\Q (Gy l V c z).d M
def KH:rj:=λds M Q=>De λx r z=>ds=[.tup (.str x::r),.str z]/\Q (if (x=="wait")=pc then(vB.waits z).d else if (x=="break")=pc then(vB.breaks z).d else vB.barred.d) M
def rA(st:sd):T0 D:=st.map λs=>.tup [.str s.1,xW s.2]
def Lb(a:Ad):rj:=λds M Q=>S4 λA V l c z r way=>ds=[.ref A.b,.str c,.str z,.ref r]/\Rd a M A V l/\z∈l.nm/\uu l V/\oC M r=Fa (List.map D.str way)/\way.length<=8000000/\∀q M',qG M M'->M q=Db->oC M' q=Fa (rA (tq l V c z way).2)->Q (.tup [(tq l V c z way).1.d,.ref q]) M'
def EA{V:qp}{f:Wi->Bool}{i:Nat}(h:i∈HF l V f):∃w,l.mH[i]?=Fa w/\f w.2=pc:=by
 have h:=(fv.mp h).2;rw[dQ]at h;cases e:l.mH[i]? with
 | none=>rw[e]at h;cases h.2
 | some w=>rw[e]at h;exact⟨w,Z',h.2⟩
def Jw(l:pJ)(way:QQQ):Nat:=(l.nm.filter λx=>!(hasS way x)).length
def Bs{l:pJ}{z:Str}(hz:z∈l.nm)(h:hasS way z=lf):Jw l (way++[z])<Jw l way:=by
 unfold Jw;have e:(l.nm.filter λx=>!(hasS (way++[z]) x))=(l.nm.filter λx=>!(hasS way x)).filter λx=>!(x==z):=by rw[List.filter_filter];refine List.filter_congr λx _=>?_;unfold hasS;rw[ma];show(!(way.any (·==x)||((z==x)||false)))=_;rw[kB,Bool.not_or,Bool.and_comm,mi]
 rw[e];refine Nat.lt_of_le_of_ne (gh _ _) λg=>?_;have:=kM.mp (List.Sublist.eq_of_length fW g) z (fv.mpr ⟨hz,by rw[h];rfl⟩);simp at this
def BQ(ok:rf l){w:vt}(hw:w∈l.mH){z y:Str}(h:I9 z w.2=.inr y):y∈l.nm:=by
 have o:=ok.wo w hw;cases e:w.2 with
 | bar _ _=>rw[e]at h;cases h
 | shut _ _=>rw[e]at h;cases h
 | always x u=>rw[e]at h o;cases h;exact qz.mp o.2.1
 | night x u f m=>rw[e]at h o;cases h;exact qz.mp o.2.1
 | busy x u=>rw[e]at h o;cases h;exact qz.mp o.2.1
 | silent x u n=>rw[e]at h o;cases h;exact qz.mp o.2.1
 | wait _=>rw[e]at h;cases h
 | breaks _=>rw[e]at h;cases h
theorem Ef(x:Str):∀ss:QQQ,x∈ss->AX (.str x) (ss.map D.str)=Fa (ss.findIdx (·==x))
 | [],h=>by cases h
 | y::r,h=>by
  rw[dW,List.findIdx_cons];unfold AX;show(if (y==x)=pc then Fa 0 else(AX (.str x) (r.map D.str)).map (·+1))=_;cases e:y==x with
  | true=>rfl
  | false=>
   rw[cV dh];have hr:x∈r:=by
    rcases de.mp h with g|g
    .rw[g,eQ]at e;cases e
    .exact g
   rw[Ef x r hr];rfl
def HU:Fq P w K mg base 7 a.aN (Ia a):=by
 refine fq G.aN.toDG CO (λr u=>⟨_,(pz (pO 3 CO (pG (pG v0)))
 (pA (pF (qB uN Z' G.I uL (ql (qI Z' (xu (ix:=[Db,Db,Fa 3,Fa 0,Fa 1,Fa 2]) (N':=["i","on","wishes","board","caller","target"])) (xg Z' G.bV (ql (pG v0))) (vk (n:=2) Z' (qD (qA 0) (qD (qA 1) ud))) (uD (W3.b3 (wH (uV U1) (vF (uV (Ff (R:=ME a) (pK U2 v0) (RA G) (r.mono (by first|decide|lia)) (rk U3 v4 v5))))))) v0)))))),?_⟩)
 rintro ds M Q ⟨A,V,l,c,z,rfl,rd,hz,q⟩
 obtain⟨ph,gr,ws,X8,pr,gd,rs,i1,i2,i3,i4,i5,i6,i7,i8⟩:=rd.pl;refine pB rd.bd.at_ (i' Z' (pB i1 (i' Z' ?_)));refine pB rd.bd.at_ (i' Z' (i' rd.bd.on ?_));refine Jy (rest:=[Fa (.ref ws),Fa (.ref A.b),Fa (.str c),Fa (.str z)]) rd.on rd.ok.w16 rd.bd.on (λi w0 ew y k hk=>?_) λp hp=>i' pM ⟨M,.new hp,q⟩;obtain⟨r,e1,e2⟩:=Bl i8 ew;refine i' i4 (i' e1 (pB e2 ⟨by cases w0.2<;>rfl,_,⟨w0.2,Z',Z'⟩,r,A,V,l,c,z,Z',e2,rd,hz,rd.ok.wo w0 (qY ew),hk⟩))
def OJ:Fq P w K mg base 5 a.aO (Oz a):=by
 refine fq G.aO.toDG tD (λr u=>⟨_,(pz (pO 3 tD (qb v0 G.c.toCls G.aJ (AC G) r (r6 U1 U2)))
 (pz (pS (pH u (qb (pG v0) G.h.toCls G.aI (xE G) r (ql U2)) pD)
 (pA (pF (qB uN Z' G.I uL (ql U3))))
 pL)
 (pz (pO 4 tD (qb (pG v0) G.h.toCls G.V (uk G) r (ql U2)))
 (pz (pO 5 tD (zQ u (pG v0) U2))
 (pz (tj (i:=6) tD.nd Z' (Or.inl Z') Z' (xu (ix:=[Db,Fa 3]) (N':=["phone","free"])) (qC (qc (rC v4 (rR v5) sC) (rC v4 sC (rR v5)))) (qA 0) (uD (pH u v0 U1)) v0)
 (pA (pF (qB uN Z' G.I uL (ql (rC v6 sC (rR pC))))))))))),?_⟩)
 rintro ds M Q ⟨A,V,l,c,z,rfl,rd,XB,nx,q⟩
 have hz:=dN;have bd:=rd.bd;have pl:=rd.pl;obtain⟨ph,gr,ws,X8,pr,gd,rs,i1,_⟩:=rd.pl;obtain⟨⟨_,tf,_⟩,_⟩:=rd.ok.of XB;refine pB bd.at_ ⟨Z',_,⟨Z',Z'⟩,A,V,l,c,z,Z',rd,XB,λq1 M1 s1 XA e1=>?_⟩;refine pB (s1 _ _ bd.at_) (i' Z' (pB (s1 _ _ i1) ⟨Z',_,⟨Z',Z'⟩,V.p,z,l,Z',pl.sub s1,?_⟩));unfold xR at q;cases e:l.mO z=="turns" with
 | false=>rw[e]at q;exact zH (c:=!(l.mO z=="turns")) (by rw[e];rfl) (i' e1 ⟨M,s1,q⟩)
 | true=>
  obtain⟨hn,nl⟩:=K5 nx XB e;generalize zv V z=n at hn nl q;rw[e,cX Z']at q;refine HK (c:=!(l.mO z=="turns")) (by rw[e];rfl) ?_;refine pB (s1 _ _ bd.at_) (i' Z' (pB (s1 _ _ i1) ⟨Z',_,⟨Z',Z'⟩,V.p,z,l,Z',pl.sub s1,λq2 YS=>?_⟩));have s2:=s1.trans (qG.new (c:=.lst ((l.mF z).map D.str)) YS);have c2:=@pM M1 q2 ((l.mF z).map D.str);have e2:=(qG.new (c:=.lst ((l.mF z).map D.str)) YS).lst e1;generalize pI M1 q2 (.lst ((l.mF z).map D.str))=M2 at s2 c2 e2 ⊢;refine pB (s2 _ _ bd.at_) (i' Z' (i' Z' (i' (s2.dk bd.nx) (i' hn ?_))));refine i' c2 λq3 hq3=>?_;rw[Hs _ n (by rw[cQ];exact nl),<-kE];have t3:=qG.new (c:=.lst (((l.mF z).drop n).map D.str)) hq3;have c3':=@pM M2 q3 (((l.mF z).drop n).map D.str);generalize pI M2 q3 (.lst (((l.mF z).drop n).map D.str))=M3 at t3 c3' ⊢;refine i' (t3.lst c2) λq4 hq4=>?_;rw[MN,<-mo];obtain⟨M4,e0,t4,c4⟩:=vX (ds:=((l.mF z).take n).map D.str) hq4;rw[<-e0];refine i' (t4.lst c3') (i' c4 ?_);refine⟨by rw[cQ,cQ,gb,fC];lia,λq5 hq5=>i' pM ?_⟩;rw[<-dB];have t5:=qG.new (c:=.lst ((uY (l.mF z) n).map D.str)) hq5;have c5:=@pM M4 q5 ((uY (l.mF z) n).map D.str);show uM _ _ _ _ _ ((uY (l.mF z) n).map D.str) _ _ (pI M4 q5 (.lst ((uY (l.mF z) n).map D.str)));generalize pI M4 q5 (.lst ((uY (l.mF z) n).map D.str))=M5 at t5 c5 ⊢;have s5:=t3.trans (t4.trans t5);have e5:=s5.lst e2;have tl:(uY (l.mF z) n).length<=200:=by unfold uY;rw[cT,gb,fC];lia
  refine tF (f:=id) (t:=λd=>inD d ((uo l V c z).map D.str)) c5 _ [] _ (by rw[cQ];simp only[dF];lia) (λd hd k hk=>?_) (λd hd _ k hk=>?_) λq6 hq6=>?_
  .obtain⟨x,hx,rfl⟩:=dw.mp hd;exact i' e5 ⟨Z',qu _,hk⟩
  .obtain⟨x,hx,rfl⟩:=dw.mp hd;exact hk
  .have ef:[]++(List.filter (λd=>inD d ((uo l V c z).map D.str)) ((uY (l.mF z) n).map D.str)).map id=((uY (l.mF z) n).filter λx=>hasS (uo l V c z) x).map D.str:=by
    rw[dX,je,g9];have:((λd=>inD d ((uo l V c z).map D.str))∘D.str)=λx=>hasS (uo l V c z) x:=by funext x;exact qW _ _
    rw[this]
   rw[ef];refine i' pM λq7 hq7=>i' pM ?_;rw[show L3.tM (((uY (l.mF z) n).filter λx=>hasS (uo l V c z) x).map D.str) Db (Fa (1:Int))=(((uY (l.mF z) n).filter λx=>hasS (uo l V c z) x).take 1).map D.str from(MN _ 1).trans (mo).symm];exact⟨M,s2.trans (s5.trans ((qG.new hq6).trans (.new hq7))),q⟩
def Mw:Fq P w K mg base 6 a.aP (Ls a):=by
 refine fq G.aP.toDG uX (λr u=>⟨_,(pz (pO 3 uX (pN (OJ G) r G.aO (rk v0 U1 U2)))
 (pz (pS (pH u (pV qw Z' G.g qo (ql U3)) pC)
 (pA (pF (pQ (r6 pD U2))))
 pL)
 (pA (pF (pQ (rk pD U2 U3)))))),?_⟩)
 rintro ds M Q ⟨A,V,l,c,z,rfl,rd,hz,nx,q⟩
 refine⟨A,V,l,c,z,Z',rd,hz,nx,?_⟩;unfold Gy at q;cases e:xR l V c z with
 | nil=>rw[e]at q;exact⟨pk Z',M,.refl,q⟩
 | cons x r=>rw[e]at q;exact⟨pk Z',M,.refl,q⟩
def Kp:Fq P w K mg base 1 a.aQ KH:=by
 refine fq G.aQ.toDG zT (λr u=>⟨_,(pz (pS (pH u (pK v0 pC) pD)
 (pA (pF (pQ (r6 pD U1))))
 pL)
 (pz (pS (pH u (pK v0 pC) pD)
 (pA (pF (pQ (r6 pD U1))))
 pL)
 (pA (pF (pQ (ql pD)))))),?_⟩)
 rintro ds M Q ⟨x,r,z,rfl,q⟩
 refine i' (wx _ _) (qJ (c:=x=="wait") (λg=>?_) (λg=>?_))
 .rw[cX g]at q;exact⟨pk Z',M,.refl,q⟩
 rw[cV g]at q;refine i' (wx _ _) (qJ (c:=x=="break") (λg=>?_) (λg=>?_))
 .rw[cX g]at q;exact⟨pk Z',M,.refl,q⟩
 rw[cV g]at q;exact⟨pk Z',M,.refl,q⟩
def Lz:Fq P w K mg base 8 a.aR (Lb a):=by
 refine fq G.aR.toDG wB (λr u=>⟨_,(pz (pO 4 wB (qB tZ Z' G.y tX (ql U3)))
 (pz (pO 5 wB (qN sL))
 (pz (Ml eX (pH u U2 v4)
 (pz (pR (rG v4 (ql U2)))
 (pz (pO 6 wB (pN (HU G) r G.aN (rk v0 U1 U2)))
 (pz (pR (rG v5 (ql (pQ (r6 U2 v6)))))
 (pz (pS (pH u (pV qw Z' G.g qo (ql v6)) pC)
 (pA (pF (pQ (r6 (pN (Mw G) r G.aP (rk v0 U1 U2)) v5))))
 pL)
 (pz (pO 7 wB (CD (R:=Iw a) (pK (pG (pG v0)) (pK v6 pC)) (NJ G) (r.mono (by first|decide|lia))))
 (pz (pS (pH u (pK v7 pC) pD)
 (pA (pF (pQ (r6 (pN (Kp G) r G.aQ (r6 v7 U2)) v5))))
 pL)
 (pA (pO 2 wB (pK v7 pC))))))))))
 (pA (pF (pQ (r6 (pQ (r6 pD (qB uN Z' G.I uL (ql (rC v4 (rR (xK v4 (ql U2))) sC))))) v5))))))),?_⟩)
 rintro ds M Q ⟨A,V,l,c,z0,r,XT,rfl,rd,hz0,nx,ZD,hw0,q⟩
 have hz:=dN;have p8:=rd.ok.p8;have g3:=rd.ok.g3;have nl:l.nm.length<=11:=by unfold pJ.nm pJ.pn pJ.gn;rw[cT,cQ,cQ];lia
 refine i' ZD λp1 Xz=>⟨pk Z',λp2 WH=>?_⟩;have t1:=qG.new (c:=.lst (XT.map D.str)) Xz;have t2:=qG.new (c:=.lst []) WH;have c1:oC (pI (pI M p1 (.lst (XT.map D.str))) p2 (.lst [])) p1=Fa (XT.map D.str):=t2.lst pM;have c2:=@pM (pI M p1 (.lst (XT.map D.str))) p2 [];have n12:p2≠p1:=λy=>by rw[y,pU]at WH;cases WH
 have m2:M p2=Db:=t1.none WH;have s2:=t1.trans t2;generalize pI (pI M p1 (.lst (XT.map D.str))) p2 (.lst [])=M2 at c1 c2 s2 ⊢;refine⟨λm U M'=>∃z way st,qG M M'/\oC M' p1=Fa (List.map D.str way)/\oC M' p2=Fa (rA st)/\z∈l.nm/\Jw l way<m/\way.length+m<=8000012/\st.length+m<=100/\uE l V c m z way st=tq l V c z0 XT/\∃y6 y7,U=[Fa (.ref A.b),Fa (.str c),Fa (.str z),Fa (.ref r),Fa (.ref p1),Fa (.ref p2),y6,y7],⟨l.nm.length+1,z0,XT,[],s2,c1,c2,hz0,Nat.lt_succ_of_le (gh _ _),by lia,by show 0+(l.nm.length+1)<=100;lia,Z',Db,Db,Z'⟩,?_⟩
 rintro m U M' ⟨z,way,st,sM,l1,l2,XB,WL,hwl,YN,er,y6,y7,rfl⟩
 obtain⟨m,rfl⟩:∃k,m=k+1:=⟨m - 1,by lia⟩;have q2:∀WA,qG M WA->oC WA p2=Fa (rA (uE l V c (m+1) z way st).2)->Q (.tup [(uE l V c (m+1) z way st).1.d,.ref p2]) WA:=λWA s ll=>by rw[er]at ll ⊢;exact q p2 WA s m2 ll
 clear q;unfold uE at er q2;refine i' l1 ⟨Z',qu way,?_⟩;show if (!(inD (.str z) (way.map D.str)))=pc then _ else _
 rw[qW];refine qJ (c:=!(hasS way z)) (λh1=>?_) (λh1=>?_)
 rotate_left
 .
  have h1:hasS way z=pc:=by simpa using h1
  rw[cX h1]at q2;refine⟨by show(oC M' p1).isSome=pc;rw[l1];rfl,i' l1 ⟨Z',qu _,i' (Ef z way (qz.mp h1)) (i' l1 λp3 hp3=>?_)⟩⟩;have Zy:way.findIdx (·==z)<=(way.map D.str).length:=by rw[cQ];exact List.findIdx_le_length
  rw[Hs _ _ Zy,<-kE];refine i' pM ⟨pk Z',pk Z',_,.refl,q2 _ (sM.trans (.new hp3)) ((qG.new hp3).lst l2)⟩
 have h1:hasS way z=lf:=by simpa using h1
 rw[h1,cV dh]at er q2;refine⟨by show(oC M' p1).isSome=pc;rw[l1];rfl,i' l1 ⟨by rw[cQ];lia,?_⟩⟩;have k3:rY p1 M' (pI M' p1 (.lst (way.map D.str++[D.str z]))):=.put;have s3:qG M (pI M' p1 (.lst (way.map D.str++[D.str z]))):=λx d hx=>by rw[ua (MB hx Xz)];exact sM x d hx
 have c3:=k3.lst n12 l2;have l3:oC (pI M' p1 (.lst (way.map D.str++[D.str z]))) p1=Fa ((way++[z]).map D.str):=by rw[pM,dB];rfl
 generalize pI M' p1 (.lst (way.map D.str++[D.str z]))=M3 at s3 c3 l3 ⊢;refine⟨A,V,l,c,z,Z',rd.sub s3,XB,?_⟩;generalize hf:BN l V c z=fs at er q2 ⊢;refine⟨by show(oC M3 p2).isSome=pc;rw[c3];rfl,pk Z',i' c3 ⟨by unfold rA;rw[cQ];lia,?_⟩⟩;have es:rA st++[.tup [.str z,xW fs]]=rA (st++[(z,fs)]):=by unfold rA;rw[dB];rfl
 rw[es];have s4:qG M (pI M3 p2 (.lst (rA (st++[(z,fs)])))):=λx d hx=>by rw[ua (MB hx m2)];exact s3 x d hx
 have c4:=@pM M3 p2 (rA (st++[(z,fs)]));have l4:oC (pI M3 p2 (.lst (rA (st++[(z,fs)])))) p1=Fa ((way++[z]).map D.str):=rY.lst .put (dG n12) l3;generalize pI M3 p2 (.lst (rA (st++[(z,fs)])))=M4 at s4 c4 l4 ⊢;cases fs with
 | nil=>exact⟨A,V,l,c,z,Z',rd.sub s4,XB,nx,pk Z',M4,.refl,q2 M4 s4 c4⟩
 | cons i fr=>
  obtain⟨w0,ew,_⟩:=EA (l:=l) (V:=V) (f:=Bg l V c z) (i:=i) (by show i∈BN l V c z;rw[hf];exact dI);dsimp only at er q2;rw[ew]at er q2;dsimp only[Option.elim]at er q2;obtain⟨ph,gr,ws,X8,pr,gd,rs,i1,i2,i3,i4,i5,i6,i7,i8⟩:=(rd.sub s4).pl;obtain⟨Za,e1,e2⟩:=Bl i8 ew;have hwo:=rd.ok.wo w0 (qY ew);have Zb:∀y,I9 z w0.2=.inr y->y∈l.nm:=λy h=>BQ rd.ok (qY ew) h;refine pB (s4 _ _ rd.bd.at_) (i' Z' (pB i1 (i' Z' (i' (wx _ _) (i' i4 (i' e1 ?_))))));cases hv:w0.2 with
  | bar x ns=>rw[hv]at q2 e2;exact pB e2 ⟨Z',_,.inl ⟨.inl Z',Z'⟩,Za,Z',⟨"end",[],z,Z',pk Z',M4,.refl,q2 M4 s4 c4⟩⟩
  | shut x ns=>rw[hv]at q2 e2;exact pB e2 ⟨Z',_,.inl ⟨.inr Z',Z'⟩,Za,Z',⟨"end",[],z,Z',pk Z',M4,.refl,q2 M4 s4 c4⟩⟩
  | wait x=>rw[hv]at q2 e2;exact pB e2 ⟨Z',_,.inr (.inr (.inl ⟨Z',Z'⟩)),Za,_,_,_,Z',e2,Z',⟨"wait",_,z,Z',pk Z',M4,.refl,q2 M4 s4 c4⟩⟩
  | breaks x=>rw[hv]at q2 e2;exact pB e2 ⟨Z',_,.inr (.inr (.inr ⟨Z',Z'⟩)),Za,Z',⟨"break",_,z,Z',pk Z',M4,.refl,q2 M4 s4 c4⟩⟩
  | always x y=>rw[hv]at er e2 Zb;exact pB e2 ⟨Z',_,.inr (.inl ⟨.inl Z',Z'⟩),Za,_,_,_,Z',e2,Z',⟨m,fB _,y,way++[z],st++[(z,i::fr)],s4,l4,c4,Zb y Z',by have:=Bs XB h1;lia,by rw[cT];show way.length+1+m<=_;lia,by rw[cT];show st.length+1+m<=_;lia,er,_,_,Z'⟩⟩
  | night x y f mm=>rw[hv]at er e2 Zb;exact pB e2 ⟨Z',_,.inr (.inl ⟨.inr (.inl Z'),Z'⟩),Za,_,_,_,Z',e2,Z',⟨m,fB _,y,way++[z],st++[(z,i::fr)],s4,l4,c4,Zb y Z',by have:=Bs XB h1;lia,by rw[cT];show way.length+1+m<=_;lia,by rw[cT];show st.length+1+m<=_;lia,er,_,_,Z'⟩⟩
  | busy x y=>rw[hv]at er e2 Zb;exact pB e2 ⟨Z',_,.inr (.inl ⟨.inr (.inr (.inl Z')),Z'⟩),Za,_,_,_,Z',e2,Z',⟨m,fB _,y,way++[z],st++[(z,i::fr)],s4,l4,c4,Zb y Z',by have:=Bs XB h1;lia,by rw[cT];show way.length+1+m<=_;lia,by rw[cT];show st.length+1+m<=_;lia,er,_,_,Z'⟩⟩
  | silent x y n=>rw[hv]at er e2 Zb;exact pB e2 ⟨Z',_,.inr (.inl ⟨.inr (.inr (.inr Z')),Z'⟩),Za,_,_,_,Z',e2,Z',⟨m,fB _,y,way++[z],st++[(z,i::fr)],s4,l4,c4,Zb y Z',by have:=Bs XB h1;lia,by rw[cT];show way.length+1+m<=_;lia,by rw[cT];show st.length+1+m<=_;lia,er,_,_,Z'⟩⟩
noncomputable def yR(V:qp)(i:Nat)(c:pE):qp:={V with calls:=V.calls.set i c}
def su(V:qp)(i:Nat)(c d:pE):yR (yR V i c) i d=yR V i d:=by unfold yR;rw[iS]
structure CI(a:Ad)(M:Mp)(A:tW)(V:qp)(i:Nat)(k:rN)(c:pE):Prop where
 bd:pP a M A V
 e1:A.cs[i]?=Fa k
 e2:V.calls[i]?=Fa c
noncomputable def cF(x:Str)(wy ad md:Uf)(k:Nat):T0 (Str×D):=List.take (α:=Str×D) k [("state",.str "rings"),("caller",.str x),("way",.ref wy),("at",.ref ad),("members",.ref md),("holder",.mL),("since",.int 0)]
variable {M':Mp}{i:Nat}{k:rN}
section
variable {c:pE}
def CI.cell(h:CI a M A V i k c):rX a M (A.lists++V.fo) k c:=h.bd.cs i k c h.e1 h.e2
def CI.sub(h:CI a M A V i k c)(s:qG M M'):CI a M' A V i k c:=⟨h.bd.sub s,h.e1,h.e2⟩
def CI.put(h:CI a M A V i k c)(c':pE){ad md:Uf}(ew:c'.way=c.way)(la:oC M ad=Fa (c'.at_.map D.str))(lm:oC M md=Fa (c'.ms.map D.str))(na:ad∉A.lists++V.fo)(nm:md∉A.lists++V.fo):
  CI a (pI M k.p (.ins a.e (rm c' k.wy ad md))) A (yR V i c') i k c'/\qR A M A (pI M k.p (.ins a.e (rm c' k.wy ad md))):=by
 obtain⟨b,s⟩:=h.bd.oj h.e1 h.e2 ew la lm na nm;refine⟨⟨b,h.e1,?_⟩,s⟩;show(V.calls.set i c')[i]?=Fa c';rw[eI (cU.mp h.e2).1]
end
inductive Qq(i:Nat)(c:pE):Ev->pE->Prop
 | rings (ps:QQQ):Qq i c (.rings i ps) (c.ring ps)
 | quiet:Qq i c (.quiet i) c.nG
 | waits (x:Str):Qq i c (.waits i x) (c.wait x)
 | talks (ms:QQQ):Qq i c (.talks i ms) (c.nE ms)
 | held (x:Str):Qq i c (.held i x) (c.hold x)
 | leaves (x:Str):Qq i c (.leaves i x) (c.drop x)
 | over (w:Str):Qq i c (.over i w) (c.over w)
def GP(a:Ad):rj:=λds M Q=>AW λp x=>ds=[.ref p,.str x]/\M p=Fa (.ins a.e [])/\∀M' wy ad md,rY p M M'->M wy=Db->M ad=Db->M md=Db->ad≠wy->md≠wy->M' p=Fa (.ins a.e (rm (vZ x) wy ad md))->oC M' wy=Fa []->oC M' ad=Fa []->oC M' md=Fa []->Q .mL M'
def Pk(a:Ad):rj:=λds M Q=>JE λA V i k c w=>ds=[.ref k.p,.str w]/\CI a M A V i k c/\∀M',qR A M A M'->pP a M' A (yR V i (c.over w))->Q .mL M'
def KU(a:Ad):rj:=λds M Q=>JE λA V i k c x=>ds=[.ref k.p,.str x]/\CI a M A V i k c/\c.at_.length<=100/\c.ms.length<=100/\∀M',qR A M A M'->pP a M' A (yR V i (c.drop x))->Q .mL M'
def JL(a:Ad):rj:=λds M Q=>S4 λA V i k c e c'=>ds=[.ref k.p,Ev.d e]/\CI a M A V i k c/\c.at_.length<=100/\c.ms.length<=100/\Qq i c e c'/\∀M',qR A M A M'->pP a M' A (yR V i c')->Q .mL M'
def PJ:Fq P w K mg base 1 a.ap (GP a):=by
 refine fq G.ap.toDG Fg (λr u=>⟨_,(pz (qe v0 pD)
 (pz (qe v0 U1)
 (pz (qe v0 (qN sL))
 (pz (qe v0 (qN sL))
 (pz (qe v0 (qN sL))
 (pz (qe v0 se)
 (pz (qe v0 pC)
 (pA (qe v0 se))))))))),?_⟩)
 rintro ds M Q ⟨p,x,rfl,hb,q⟩
 refine pB hb ⟨(G.j "state" Z'),by show 0<1000;decide,?_⟩;have k1:rY p M (pI M p (.ins a.e [("state",.str "rings")])):=.put;have b1:pI M p (.ins a.e [("state",.str "rings")]) p=Fa (.ins a.e [("state",.str "rings")]):=pU;show uz _ _ _ _ (pI M p (.ins a.e [("state",.str "rings")]));generalize pI M p (.ins a.e [("state",.str "rings")])=N1 at k1 b1 ⊢;refine pB b1 ⟨(G.j "caller" Z'),by show 1<1000;decide,?_⟩;have k2:=k1.trans (rY.put (p:=p) (c:=.ins a.e [("state",.str "rings"),("caller",.str x)]));have b2:pI N1 p (.ins a.e [("state",.str "rings"),("caller",.str x)]) p=Fa (.ins a.e [("state",.str "rings"),("caller",.str x)]):=pU;show uz _ _ _ _ (pI N1 p (.ins a.e [("state",.str "rings"),("caller",.str x)]));generalize pI N1 p (.ins a.e [("state",.str "rings"),("caller",.str x)])=N2 at k2 b2 ⊢;refine⟨pk Z',λwy hwy=>?_⟩;obtain⟨n3,e3,k3,c3,b3⟩:=sY (fs':=(cF x wy 0 0 3)) (c:=.lst []) b2 hwy;refine pB e3 ⟨(G.j "way" Z'),by show 2<1000;decide,?_⟩;show uz _ _ _ _ (pI (pI N2 wy (.lst [])) p (.ins a.e (cF x wy 0 0 3)));generalize pI (pI N2 wy (.lst [])) p (.ins a.e (cF x wy 0 0 3))=N3 at k3 c3 b3 ⊢;have z1:M wy=Db:=rO k2 b2 hwy;have kk3:=k2.trans k3;have l3:oC N3 wy=Fa []:=sS c3;refine⟨pk Z',λad YR=>?_⟩;obtain⟨n4,e4,k4,c4,b4⟩:=sY (fs':=(cF x wy ad 0 4)) (c:=.lst []) b3 YR;refine pB e4 ⟨(G.j "at" Z'),by show 3<1000;decide,?_⟩;show uz _ _ _ _ (pI (pI N3 ad (.lst [])) p (.ins a.e (cF x wy ad 0 4)));generalize pI (pI N3 ad (.lst [])) p (.ins a.e (cF x wy ad 0 4))=N4 at k4 c4 b4 ⊢;have z2:M ad=Db:=rO kk3 b3 YR;have YA:=kk3.trans k4;have naw:ad≠wy:=λz=>by rw[z,c3]at YR;cases YR
 have l4:=k4.lst (pW l3 b3) l3;have m4:oC N4 ad=Fa []:=sS c4;refine⟨pk Z',λmd hmd=>?_⟩;obtain⟨n5,e5,k5,c5,b5⟩:=sY (fs':=(cF x wy ad md 5)) (c:=.lst []) b4 hmd;refine pB e5 ⟨(G.j "members" Z'),by show 4<1000;decide,?_⟩;show uz _ _ _ _ (pI (pI N4 md (.lst [])) p (.ins a.e (cF x wy ad md 5)));generalize pI (pI N4 md (.lst [])) p (.ins a.e (cF x wy ad md 5))=N5 at k5 c5 b5 ⊢;have z3:M md=Db:=rO YA b4 hmd;have YB:=YA.trans k5;have nmw:md≠wy:=λz=>by rw[z,qm l4]at hmd;cases hmd
 have l5:=k5.lst (pW l4 b4) l4;have m5:=k5.lst (pW m4 b4) m4;have o5:oC N5 md=Fa []:=sS c5;refine pB b5 ⟨(G.j "holder" Z'),by show 5<1000;decide,?_⟩;have k6:rY p N5 (pI N5 p (.ins a.e (cF x wy ad md 6))):=.put;have b6:pI N5 p (.ins a.e (cF x wy ad md 6)) p=Fa (.ins a.e (cF x wy ad md 6)):=pU;show uz _ _ _ _ (pI N5 p (.ins a.e (cF x wy ad md 6)));generalize pI N5 p (.ins a.e (cF x wy ad md 6))=N6 at k6 b6 ⊢;refine pB b6 ⟨(G.j "since" Z'),by show 6<1000;decide,?_⟩;have k7:=k6.trans (rY.put (p:=p) (c:=.ins a.e (cF x wy ad md 7)));have b7:pI N6 p (.ins a.e (cF x wy ad md 7)) p=Fa (.ins a.e (cF x wy ad md 7)):=pU;rw[show wc "since" (.int 0) (cF x wy ad md 6)=(cF x wy ad md 7)from Z'];generalize pI N6 p (.ins a.e (cF x wy ad md 7))=N7 at k7 b7 ⊢;refine pB b7 ⟨(G.j "word" Z'),by show 7<1000;decide,_,.refl,?_⟩;have k8:=k7.trans (rY.put (p:=p) (c:=.ins a.e (rm (vZ x) wy ad md)));exact q _ wy ad md (YB.trans k8) z1 z2 z3 naw nmw pU (k8.lst (pW l5 b5) l5) (k8.lst (pW m5 b5) m5) (k8.lst (pW o5 b5) o5)
def II:Fq P w K mg base 1 a.ac (Pk a):=by
 refine fq G.ac.toDG GL (λr u=>⟨_,(pz (qe v0 pD)
 (pz (qe v0 U1)
 (pz (qe v0 (qN sL))
 (pz (qe v0 (qN sL))
 (pA (qe v0 se)))))),?_⟩)
 rintro ds M Q ⟨A,V,i,k,c,w0,rfl,h,q⟩
 obtain⟨ad,md,h1,h2,h3,h4,n1,n2⟩:=h.cell;refine pB h1 ⟨(G.j "state" Z'),by show 8<1000;decide,?_⟩;obtain⟨g1,s1⟩:=h.put {c with st:="over"} Z' h3 h4 n1 n2;show uz _ _ _ _ (pI M k.p (.ins a.e (rm {c with st:="over"} k.wy ad md)));generalize pI M k.p (.ins a.e (rm {c with st:="over"} k.wy ad md))=M1 at g1 s1 ⊢;clear h1 h2 h3 h4 n1 n2;obtain⟨ad,md,h1,h2,h3,h4,n1,n2⟩:=g1.cell;refine pB h1 ⟨(G.j "word" Z'),by show 8<1000;decide,?_⟩;obtain⟨g2,s2⟩:=g1.put {c with st:="over",wd:=some w0} Z' h3 h4 n1 n2;show uz _ _ _ _ (pI M1 k.p (.ins a.e (rm {c with st:="over",wd:=some w0} k.wy ad md)));generalize pI M1 k.p (.ins a.e (rm {c with st:="over",wd:=some w0} k.wy ad md))=M2 at g2 s2 ⊢;clear h1 h2 h3 h4 n1 n2;refine⟨pk Z',λp hp=>?_⟩;have t3:=qG.new (c:=.lst []) hp;have lp:=@pM M2 p [];have np:=g2.bd.ny hp;have YU:=g2.sub t3;have s2':=s2.trans (.sub t3);generalize pI M2 p (.lst [])=M2' at t3 lp YU s2' ⊢;obtain⟨ad,md,h1,h2,h3,h4,n1,n2⟩:=YU.cell;refine pB h1 ⟨(G.j "at" Z'),by show 8<1000;decide,?_⟩;obtain⟨g3,s3⟩:=YU.put {c with st:="over",wd:=some w0,at_:=[]} Z' lp h4 np n2;show uz _ _ _ _ (pI M2' k.p (.ins a.e (rm {c with st:="over",wd:=some w0,at_:=[]} k.wy p md)));generalize pI M2' k.p (.ins a.e (rm {c with st:="over",wd:=some w0,at_:=[]} k.wy p md))=M3 at g3 s3 ⊢;clear h1 h2 h3 h4 n1 n2 lp t3 np g2 YU;refine⟨pk Z',λp2 WH=>?_⟩;have t4:=qG.new (c:=.lst []) WH;have lp:=@pM M3 p2 [];have np:=g3.bd.ny WH;have Zc:=g3.sub t4;have s3':=s3.trans (.sub t4);generalize pI M3 p2 (.lst [])=M3' at t4 lp Zc s3' ⊢;obtain⟨ad,md,h1,h2,h3,h4,n1,n2⟩:=Zc.cell;refine pB h1 ⟨(G.j "members" Z'),by show 8<1000;decide,?_⟩;obtain⟨g4,s4⟩:=Zc.put {c with st:="over",wd:=some w0,at_:=[],ms:=[]} Z' h3 lp n1 np;rw[show wc "members" (.ref p2) (rm {c with st:="over",wd:=some w0,at_:=[]} k.wy ad md)=rm {c with st:="over",wd:=some w0,at_:=[],ms:=[]} k.wy ad p2 from rfl];generalize pI M3' k.p (.ins a.e (rm {c with st:="over",wd:=some w0,at_:=[],ms:=[]} k.wy ad p2))=M4 at g4 s4 ⊢;clear h1 h2 h3 h4 n1 n2 lp t4 np g3 Zc;obtain⟨ad,md,h1,h2,h3,h4,n1,n2⟩:=g4.cell;refine pB h1 ⟨(G.j "holder" Z'),by show 8<1000;decide,_,.refl,?_⟩;obtain⟨g5,s5⟩:=g4.put (c.over w0) Z' h3 h4 n1 n2;refine q _ ((s1.trans s2').trans (s3'.trans (s4.trans s5))) ?_;have:=g5.bd;rw[su,su,su,su]at this;exact this
def Nj:Fq P w K mg base 1 a.a8 (KU a):=by
 refine fq G.a8.toDG CV (λr u=>⟨_,(pz (qe v0 (qI Z' (xu (ix:=[Db,Fa 1]) (N':=["other","phone"])) (qC (pG v0)) (qA 0) (uD (pH u v0 U1)) v0))
 (pA (qe v0 (qI Z' (xu (ix:=[Db,Fa 1]) (N':=["other","phone"])) (qC (pG v0)) (qA 0) (uD (pH u v0 U1)) v0)))),?_⟩)
 rintro ds M Q ⟨A,V,i,k,c,x,rfl,h,la,lm,q⟩
 have hz:=dN;obtain⟨ad,md,h1,h2,h3,h4,n1,n2⟩:=h.cell;refine pB h1 (i' Z' (i' h3 (tF (f:=id) (t:=PM x) h3 _ [] _ (by rw[cQ];simp only[dF];lia) (λd hd k0 hk=>?_) (λd hd _ k0 hk=>?_) λp hp=>?_)))
 .obtain⟨y,hy,rfl⟩:=dw.mp hd;exact hk
 .obtain⟨y,hy,rfl⟩:=dw.mp hd;exact hk
 rw[BJ];have t1:=qG.new (c:=.lst ((rM c.at_ x).map D.str)) hp;have lp:=@pM M p ((rM c.at_ x).map D.str);have np:=h.bd.ny hp;have h':=h.sub t1;have s1:qR A M A (pI M p (.lst ((rM c.at_ x).map D.str))):=.sub t1;generalize pI M p (.lst ((rM c.at_ x).map D.str))=M1 at t1 lp h' s1 ⊢;clear h1 h2 h3 h4 n1 n2;obtain⟨ad,md,h1,h2,h3,h4,n1,n2⟩:=h'.cell;refine pB h1 ⟨(G.j "at" Z'),by show 8<1000;decide,?_⟩;obtain⟨g2,s2⟩:=h'.put {c with at_:=rM c.at_ x} Z' lp h4 np n2;rw[show wc "at" (.ref p) (rm c k.wy ad md)=rm {c with at_:=rM c.at_ x} k.wy p md from rfl];generalize pI M1 k.p (.ins a.e (rm {c with at_:=rM c.at_ x} k.wy p md))=M2 at g2 s2 ⊢;clear h1 h2 h3 h4 n1 n2 lp np;obtain⟨ad,md,h1,h2,h3,h4,n1,n2⟩:=g2.cell;refine pB h1 (i' Z' (i' h4 (tF (f:=id) (t:=PM x) h4 _ [] _ (by rw[cQ];simp only[dF];show 0+c.ms.length<=Ch;lia) (λd hd k0 hk=>?_) (λd hd _ k0 hk=>?_) λp2 WH=>?_)))
 .obtain⟨y,hy,rfl⟩:=dw.mp hd;exact hk
 .obtain⟨y,hy,rfl⟩:=dw.mp hd;exact hk
 rw[BJ];have t3:=qG.new (c:=.lst ((rM c.ms x).map D.str)) WH;have lp:=@pM M2 p2 ((rM c.ms x).map D.str);have np:=g2.bd.ny WH;have YU:=g2.sub t3;have s3:qR A M2 A (pI M2 p2 (.lst ((rM c.ms x).map D.str))):=.sub t3;generalize pI M2 p2 (.lst ((rM c.ms x).map D.str))=M3 at t3 lp YU s3 ⊢;clear h1 h2 h3 h4 n1 n2;obtain⟨ad,md,h1,h2,h3,h4,n1,n2⟩:=YU.cell;refine pB h1 ⟨(G.j "members" Z'),by show 8<1000;decide,_,.refl,?_⟩;obtain⟨g4,s4⟩:=YU.put (c.drop x) Z' h3 lp n1 np;refine q _ ((s1.trans s2).trans (s3.trans s4)) ?_;have:=g4.bd;rw[su]at this;exact this
def KB:Fq P w K mg base 2 a.a9 (JL a):=by
 refine fq G.a9.toDG xN (λr u=>⟨_,(pz (pO 2 xN (pK U1 pC))
 (pA (pS (pH u U2 pD)
 (pz (qe v0 pD)
 (pz (qe v0 (qB tZ Z' G.y tX (ql (pK U1 pC))))
 (pA (qe v0 pC))))
 (pA (pS (pH u U2 pD)
 (pA (qe v0 (qN sL)))
 (pA (pS (pH u U2 pD)
 (pz (qe v0 pD)
 (pA (qe v0 (qN (ql (pK U1 pC))))))
 (pA (pS (pH u U2 pD)
 (pz (qe v0 pD)
 (pz (qe v0 (qB tZ Z' G.y tX (ql (pK U1 pC))))
 (pz (qe v0 (qN sL))
 (pA (qe v0 se)))))
 (pA (pS (pH u U2 pD)
 (pz (qe v0 pD)
 (pA (qe v0 (pK U1 pC))))
 (pA (pS (pH u U2 pD)
 (pA (pR (pN (Nj G) r G.a8 (r6 v0 (pK U1 pC)))))
 (pA (pS (pH u U2 pD)
 (pA (pR (pN (II G) r G.ac (r6 v0 (pK U1 pC)))))
 pL))))))))))))))),?_⟩)
 rintro ds M Q ⟨A,V,i,k,c,e,c',rfl,h,la,lm,hc,q⟩
 cases hc with
 | over w0=>exact⟨A,V,i,k,c,w0,Z',h,λM' s b=>⟨M',.refl,q M' s b⟩⟩
 | leaves x=>exact⟨A,V,i,k,c,x,Z',h,la,lm,λM' s b=>⟨M',.refl,q M' s b⟩⟩
 | quiet=>refine⟨pk Z',λp hp=>?_⟩;obtain⟨M1,e0,t3,lp⟩:=vX (ds:=[]) hp;rw[<-e0];have np:=h.bd.ny hp;have g1:=h.sub t3;obtain⟨ad,md,h1,h2,h3,h4,n1,n2⟩:=g1.cell;refine pB h1 ⟨(G.j "at" Z'),by show 8<1000;decide,_,.refl,?_⟩;obtain⟨g5,s5⟩:=g1.put c.nG Z' lp h4 np n2;exact q _ ((qR.sub t3).trans s5) g5.bd
 | waits x=>obtain⟨ad,md,h1,h2,h3,h4,n1,n2⟩:=h.cell;refine pB h1 ⟨(G.j "state" Z'),by show 8<1000;decide,?_⟩;obtain⟨g1,s1⟩:=h.put {c with st:="waits"} Z' h3 h4 n1 n2;show uz _ _ _ _ (pI M k.p (.ins a.e (rm {c with st:="waits"} k.wy ad md)));generalize pI M k.p (.ins a.e (rm {c with st:="waits"} k.wy ad md))=M1 at g1 s1 ⊢;clear h1 h2 h3 h4 n1 n2;refine⟨pk Z',λp hp=>?_⟩;have t3:=qG.new (c:=.lst [D.str x]) hp;have lp:=@pM M1 p [D.str x];have np:=g1.bd.ny hp;have Ys:=g1.sub t3;generalize pI M1 p (.lst [D.str x])=M1' at t3 lp Ys ⊢;obtain⟨ad,md,h1,h2,h3,h4,n1,n2⟩:=Ys.cell;refine pB h1 ⟨(G.j "at" Z'),by show 8<1000;decide,_,.refl,?_⟩;obtain⟨g5,s5⟩:=Ys.put (c.wait x) Z' lp h4 np n2;refine q _ (s1.trans ((qR.sub t3).trans s5)) ?_;have:=g5.bd;rw[su]at this;exact this
 | held x=>obtain⟨ad,md,h1,h2,h3,h4,n1,n2⟩:=h.cell;refine pB h1 ⟨(G.j "state" Z'),by show 8<1000;decide,?_⟩;obtain⟨g1,s1⟩:=h.put {c with st:="held"} Z' h3 h4 n1 n2;show uz _ _ _ _ (pI M k.p (.ins a.e (rm {c with st:="held"} k.wy ad md)));generalize pI M k.p (.ins a.e (rm {c with st:="held"} k.wy ad md))=M1 at g1 s1 ⊢;clear h1 h2 h3 h4 n1 n2;obtain⟨ad,md,h1,h2,h3,h4,n1,n2⟩:=g1.cell;refine pB h1 ⟨(G.j "holder" Z'),by show 8<1000;decide,_,.refl,?_⟩;obtain⟨g5,s5⟩:=g1.put (c.hold x) Z' h3 h4 n1 n2;refine q _ (s1.trans s5) ?_;have:=g5.bd;rw[su]at this;exact this
 | rings ps=>obtain⟨ad,md,h1,h2,h3,h4,n1,n2⟩:=h.cell;refine pB h1 ⟨(G.j "state" Z'),by show 8<1000;decide,?_⟩;obtain⟨g1,s1⟩:=h.put {c with st:="rings"} Z' h3 h4 n1 n2;show uz _ _ _ _ (pI M k.p (.ins a.e (rm {c with st:="rings"} k.wy ad md)));generalize pI M k.p (.ins a.e (rm {c with st:="rings"} k.wy ad md))=M1 at g1 s1 ⊢;clear h1 h2 h3 h4 n1 n2;refine λp hp=>?_;have t3:=qG.new (c:=.lst (ps.map D.str)) hp;have lp:=@pM M1 p (ps.map D.str);have np:=g1.bd.ny hp;have Ys:=g1.sub t3;have s1':=s1.trans (.sub t3);generalize pI M1 p (.lst (ps.map D.str))=M1' at t3 lp Ys s1' ⊢;obtain⟨ad,md,h1,h2,h3,h4,n1,n2⟩:=Ys.cell;refine pB h1 ⟨(G.j "at" Z'),by show 8<1000;decide,?_⟩;obtain⟨g3,s3⟩:=Ys.put {c with st:="rings",at_:=ps} Z' lp h4 np n2;rw[show wc "at" (.ref p) (rm {c with st:="rings"} k.wy ad md)=rm {c with st:="rings",at_:=ps} k.wy p md from rfl];generalize pI M1' k.p (.ins a.e (rm {c with st:="rings",at_:=ps} k.wy p md))=M3 at g3 s3 ⊢;clear h1 h2 h3 h4 n1 n2 lp t3 np;obtain⟨ad,md,h1,h2,h3,h4,n1,n2⟩:=g3.cell;refine pB h1 ⟨(G.j "since" Z'),by show 8<1000;decide,_,.refl,?_⟩;obtain⟨g5,s5⟩:=g3.put (c.ring ps) Z' h3 h4 n1 n2;refine q _ (s1'.trans (s3.trans s5)) ?_;have:=g5.bd;rw[su,su]at this;exact this
 | talks ms=>obtain⟨ad,md,h1,h2,h3,h4,n1,n2⟩:=h.cell;refine pB h1 ⟨(G.j "state" Z'),by show 8<1000;decide,?_⟩;obtain⟨g1,s1⟩:=h.put {c with st:="talks"} Z' h3 h4 n1 n2;show uz _ _ _ _ (pI M k.p (.ins a.e (rm {c with st:="talks"} k.wy ad md)));generalize pI M k.p (.ins a.e (rm {c with st:="talks"} k.wy ad md))=M1 at g1 s1 ⊢;clear h1 h2 h3 h4 n1 n2;refine λp hp=>?_;have t3:=qG.new (c:=.lst (ms.map D.str)) hp;have lp:=@pM M1 p (ms.map D.str);have np:=g1.bd.ny hp;have Ys:=g1.sub t3;have s1':=s1.trans (.sub t3);generalize pI M1 p (.lst (ms.map D.str))=M1' at t3 lp Ys s1' ⊢;obtain⟨ad,md,h1,h2,h3,h4,n1,n2⟩:=Ys.cell;refine pB h1 ⟨(G.j "members" Z'),by show 8<1000;decide,?_⟩;obtain⟨g3,s3⟩:=Ys.put {c with st:="talks",ms:=ms} Z' h3 lp n1 np;show uz _ _ _ _ (pI M1' k.p (.ins a.e (rm {c with st:="talks",ms:=ms} k.wy ad p)));generalize pI M1' k.p (.ins a.e (rm {c with st:="talks",ms:=ms} k.wy ad p))=M3 at g3 s3 ⊢;clear h1 h2 h3 h4 n1 n2 lp t3 np;refine⟨pk Z',λp2 WH=>?_⟩;have t4:=qG.new (c:=.lst []) WH;have lp:=@pM M3 p2 [];have np:=g3.bd.ny WH;have Zc:=g3.sub t4;have s3':=s3.trans (.sub t4);generalize pI M3 p2 (.lst [])=M3' at t4 lp Zc s3' ⊢;obtain⟨ad,md,h1,h2,h3,h4,n1,n2⟩:=Zc.cell;refine pB h1 ⟨(G.j "at" Z'),by show 8<1000;decide,?_⟩;obtain⟨g4,s4⟩:=Zc.put {c with st:="talks",ms:=ms,at_:=[]} Z' lp h4 np n2;rw[show wc "at" (.ref p2) (rm {c with st:="talks",ms:=ms} k.wy ad md)=rm {c with st:="talks",ms:=ms,at_:=[]} k.wy p2 md from rfl];generalize pI M3' k.p (.ins a.e (rm {c with st:="talks",ms:=ms,at_:=[]} k.wy p2 md))=M4 at g4 s4 ⊢;clear h1 h2 h3 h4 n1 n2 lp t4 np;obtain⟨ad,md,h1,h2,h3,h4,n1,n2⟩:=g4.cell;refine pB h1 ⟨(G.j "holder" Z'),by show 8<1000;decide,_,.refl,?_⟩;obtain⟨g5,s5⟩:=g4.put (c.nE ms) Z' h3 h4 n1 n2;refine q _ (s1'.trans (s3'.trans (s4.trans s5))) ?_;have:=g5.bd;rw[su,su,su]at this;exact this
theorem tL{α:Type}{f:α->α}:∀{l:List α} {i:Nat} {c:α},l[i]?=Fa c->l.modify i f=l.set i (f c)
 | [],_,_,h=>by simp at h
 | _::_,0,_,h=>by cases h;rfl
 | x::r,i+1,c,h=>by rw[List.modify_succ_cons,lq,tL (l:=r) (by simpa using h)]
def HQ(ps:T0 (Str×Int))(z:Str)(n:Int):B6 (tw ps) (.inr z) (.int n)=tw (Cq ps z n):=by
 have ea:((tw ps).any λkv=>decide (kv.1=(Sum.inr z:rq)))=ps.any λp=>decide (p.1=z):=by unfold tw;rw[jO];congr 1;funext p;have:((Sum.inr p.1:rq)=Sum.inr z)=(p.1=z):=propext ⟨λh=>jZ h,λh=>by rw[h]⟩;simp only[Function.comp,this]
 unfold B6 Cq;rw[ea];by_cases h:(ps.any λp=>decide (p.1=z))=pc
 .rw[cX h,cX h];unfold tw;rw[dZ,dZ];refine gS λp _=>?_;by_cases hp:p.1=z
  .simp[hp]
  .have:¬(Sum.inr p.1:rq)=Sum.inr z:=λy=>hp (jZ y);simp[hp]
 .rw[cV h,cV h];unfold tw;rw[dB];rfl
def GI{α:Type}{l:List α}{i:Nat}{x:α}(h:l[i]?=Fa x):l.set i x=l:=by obtain⟨hi,e⟩:=cU.mp h;rw[<-e,List.set_getElem_self]
structure Wd(V:qp):Prop where
 lo:V.log.length<10000000
 le:V.mU.length<10000000
 ca:V.calls.length<=1000000
 ps:V.ps.length<10000000
 cs:∀c∈V.calls,c.way.length<10000000/\c.at_.length<=100/\c.ms.length<=100
def AR(a:Ad):rj:=λds M Q=>FT λA V k c v=>ds=[.ref A.b,rW.d v]/\CI a M A V v.i k c/\V.mU.length<10000000/\c.way.length<10000000/\∀M',qR A M A M'->pP a M' A {yR V v.i (c.go v.g)with mU:=V.mU++[v]}->Q .mL M'
def Df(a:Ad):rj:=λds M Q=>SY λA V i j ki ci cj ms=>ds=[.ref A.b,.int (i:Nat),.int (j:Nat),names ms]/\CI a M A V i ki ci/\V.calls[j]?=Fa cj/\i≠j/\V.mU.length<10000000/\∀M' A',A'.b=A.b->qR A M A' M'->pP a M' A' {yR (yR V i (ci.over "merged")) j (cj.mem ms)with mU:=V.mU.map (rW.to i j)}->Q .mL M'
def zq(a:Ad):rj:=λds M Q=>AW λA V=>ds=[.ref A.b]/\pP a M A V/\∀M',qR A M A M'->pP a M' A {V with t:=V.t+1,calls:=V.calls.map pE.tick}->Q .mL M'
def wb(a:Ad):rj:=λds M Q=>BE λb A V e=>ds=[.ref b,Ev.d e]/\A.b=b/\pP a M A V/\Wd V/\e.ok V/\∀M' A',A'.b=A.b->qR A M A' M'->pP a M' A' (pX V e)->Q .mL M'
noncomputable def RV(m k:Nat):D->D
 | .tup (.int i::r)=>if i=(m:Int)then .tup (.int (k:Nat)::r)else .tup (.int i::r)
 | d=>d
def Sx(m k:Nat)(v:rW):RV m k v.d=(v.to m k).d:=by
 show(if ((v.i:Nat):Int)=(m:Int)then _ else _)=_;unfold rW.to;by_cases h:v.i=m
 .rw[cX h,cX (by rw[h])];rfl
 .rw[cV h,cV (by lia)];rfl
def Ho:Fq P w K mg base 1 a.bz (AR a):=by
 refine fq G.bz.toDG Af (λr u=>⟨_,(pz (pR (rG (pG v0) (ql U1)))
 (pA (pR (rG (pG (pK (pG v0) (pK U1 pC))) (ql (pK U1 pC)))))),?_⟩)
 rintro ds M Q ⟨A,V,k,c,v,rfl,ci,l1,l2,q⟩
 have hz:=dN;have bd:=ci.bd;refine pB bd.at_ (i' Z' ⟨by show(oC M A.le).isSome=pc;rw[bd.le];rfl,i' bd.le ⟨by rw[cQ];lia,?_⟩⟩);obtain⟨b1,s1⟩:=bd.oA (es:=V.mU++[v]);rw[dB]at b1 s1;have b1:pP a (pI M A.le (.lst (V.mU.map rW.d++[v.d]))) A {V with mU:=V.mU++[v]}:=b1;have s1:qR A M A (pI M A.le (.lst (V.mU.map rW.d++[v.d]))):=s1;generalize pI M A.le (.lst (V.mU.map rW.d++[v.d]))=M1 at b1 s1 ⊢;obtain⟨ad,md,h1,h2,h3,h4,n1,n2⟩:=b1.cs v.i k c ci.e1 ci.e2;refine pB b1.at_ (i' Z' (i' b1.ca (i' (rc ci.e1) (pB h1 (i' Z' ⟨by show(oC M1 k.wy).isSome=pc;rw[h2];rfl,i' h2 ⟨by rw[cQ];lia,?_⟩⟩)))));obtain⟨b2,s2⟩:=b1.oB (ws:=c.way++[v.g]) ci.e1 ci.e2;rw[dB]at b2 s2;exact⟨_,.refl,q _ (s1.trans s2) b2⟩
def L6:Fq P w K mg base 2 a.bA (Df a):=by
 refine fq G.bA.toDG ya (λr u=>⟨_,(pz (pR (pN (II G) r G.ac (r6 (pK (pG v0) U1) pD)))
 (pz (qe v0 (qI Z' (xu (ix:=[Db,Fa 1,Fa 2]) (N':=["leg","merged","kept"])) (qC (pG v0)) (qA 0) rS (Qp (pH u (pK v0 pC) U1) (qc (pQ (ql U2)) (rC v0 (rR pC) sC)) v0)))
 (pz (pO 4 ya (pK (pG v0) U2))
 (pA (qe v4 (qB tZ Z' G.y tX (ql U3))))))),?_⟩)
 rintro ds M Q ⟨A,V,i,j,ki,ci,cj,ms,rfl,hi,hj,Xt,l1,q⟩
 have hz:=dN;refine pB hi.bd.at_ (i' Z' (i' Z' (i' hi.bd.ca (i' (rc hi.e1) ⟨A,V,i,ki,ci,"merged",Z',hi,λM1 s1 b1=>?_⟩))));have hj1:(yR V i (ci.over "merged")).calls[j]?=Fa cj:=by show(V.calls.set i _)[j]?=_;rw[eP Xt];exact hj
 have le1:oC M1 A.le=Fa (V.mU.map rW.d):=b1.le;refine pB b1.at_ (i' Z' (i' le1 (qV (f:=RV i j) le1 _ [] _ (by rw[cQ];simp only[dF];lia) (λd hd k hk=>?_) λp hp=>?_)))
 .obtain⟨v,_,rfl⟩:=dw.mp hd;refine i' Z' ?_;have hk:k (if ((v.i:Nat):Int)=(i:Int)then .tup [.int (j:Nat),.str v.f,.str v.g,.str v.y]else .tup [.int (v.i:Nat),.str v.f,.str v.g,.str v.y]) M1:=hk;refine qJ (c:=((v.i:Nat):Int)==(i:Nat)) (λz=>?_) (λz=>?_)
  .rw[cX (xz z)]at hk;exact⟨pk Z',fD _ _,by show 1+3<=Ch;lia,hk⟩
  .rw[cV (λy=>z (by rw[y];exact eQ _))]at hk;exact hk
 have em:[]++(V.mU.map rW.d).map (RV i j)=(V.mU.map (rW.to i j)).map rW.d:=by rw[dX,dZ,dZ];exact gS λv _=>Sx i j v
 rw[em];obtain⟨b2,s2⟩:=b1.oG (es:=V.mU.map (rW.to i j)) hp;have t:=qG.new (c:=.lst ((V.mU.map (rW.to i j)).map rW.d)) hp;refine pB (t _ _ b1.at_) ⟨(G.C "legs" Z'),by show 8<1000;decide,?_⟩;show uz _ _ _ _ (pI (pI M1 p (.lst ((V.mU.map (rW.to i j)).map rW.d))) A.b (.ins a.c (tP (.ref V.p) V.h V.t A.ca p A.nx A.on A.lo)));have b2:pP a (pI (pI M1 p (.lst ((V.mU.map (rW.to i j)).map rW.d))) A.b (.ins a.c (tP (.ref V.p) V.h V.t A.ca p A.nx A.on A.lo))) {A with le:=p} {yR V i (ci.over "merged")with mU:=V.mU.map (rW.to i j)}:=b2;have s2:qR A M1 {A with le:=p} (pI (pI M1 p (.lst ((V.mU.map (rW.to i j)).map rW.d))) A.b (.ins a.c (tP (.ref V.p) V.h V.t A.ca p A.nx A.on A.lo))):=s2;generalize pI (pI M1 p (.lst ((V.mU.map (rW.to i j)).map rW.d))) A.b (.ins a.c (tP (.ref V.p) V.h V.t A.ca p A.nx A.on A.lo))=M2 at b2 s2 ⊢;have hjk:j<A.cs.length:=by rw[hi.bd.len];exact(cU.mp hj).1
 have ej:A.cs[j]?=Fa A.cs[j]:=cS hjk;generalize A.cs[j]=kj at ej;have cj2:CI a M2 {A with le:=p} _ j kj cj:=⟨b2,ej,hj1⟩;refine pB b2.at_ (i' Z' (i' Z' (i' b2.ca (i' (rc ej) ?_))));refine λr ZD=>?_;obtain⟨M3,e0,t3,lr⟩:=vX (ds:=ms.map D.str) ZD;rw[<-e0];have nr:=b2.ny ZD;have cj3:=cj2.sub t3;obtain⟨ad,md,h1,h2,h3,h4,n1,n2⟩:=cj3.cell;refine pB h1 ⟨(G.j "members" Z'),by show 8<1000;decide,_,.refl,?_⟩;obtain⟨g5,s5⟩:=cj3.put (cj.mem ms) Z' h3 lr n1 nr;exact q _ {A with le:=p} Z' (s1.trans (s2.trans ((qR.sub t3).trans s5))) g5.bd
def FF:Fq P w K mg base 1 a.bB (zq a):=by
 refine fq G.bB.toDG vq (λr u=>⟨_,(pz (DZ v0 pC)
 (pA (uw eX Z' (qC (pG v0)) (rD 1 vq)
 (pA (pS (pH u (pG U1) pD)
 (pA (DZ U1 pC))
 pL))))),?_⟩)
 rintro ds M Q ⟨A,V,rfl,bd,q⟩
 refine pB bd.at_ ⟨(G.C "turn" Z'),i' Z' (i' Z' (pB bd.at_ ⟨Z',by show 8<1000;decide,?_⟩))⟩;obtain⟨b1,s1⟩:=bd.putT (t:=V.t+1);rw[show wc "turn" (.int (V.t+1)) (tP (.ref V.p) V.h V.t A.ca A.le A.nx A.on A.lo)=tP (.ref V.p) V.h (V.t+1) A.ca A.le A.nx A.on A.lo from rfl];generalize pI M A.b (.ins a.c (tP (.ref V.p) V.h (V.t+1) A.ca A.le A.nx A.on A.lo))=M1 at b1 s1 ⊢;refine pB b1.at_ (i' Z' (i' b1.ca ?_));refine vh (A.cs.map λk=>D.ref k.p) (λpre U M'=>pP a M' A {V with t:=V.t+1,calls:=(V.calls.take pre.length).map pE.tick++V.calls.drop pre.length}/\qR A M A M'/\∃y,U=[Fa (.ref A.b),y]) (λ_ _ M' j=>j.1.ca) _ [] _ _ Z' ⟨b1,s1,Db,Z'⟩ ?_ ?_
 .rintro pre d post e U M' ⟨b2,s2,y,rfl⟩ nx WE
  have hd:(A.cs.map λk=>D.ref k.p)[pre.length]?=Fa d:=by rw[<-e];simp
  rw[dq]at hd;cases ek:A.cs[pre.length]? with
  | none=>rw[ek]at hd;cases hd
  | some k=>
   rw[ek]at hd;have hd:D.ref k.p=d:=cY hd;subst hd;have hi:pre.length<V.calls.length:=by rw[<-bd.len];exact(cU.mp ek).1
   have ec:V.calls[pre.length]?=Fa V.calls[pre.length]:=cS hi;have ed:V.calls.drop pre.length=V.calls[pre.length]::V.calls.drop (pre.length+1):=gi hi;have et:V.calls.take (pre.length+1)=V.calls.take pre.length++[V.calls[pre.length]]:=by rw[fS,ec];rfl
   generalize V.calls[pre.length]=c at ec ed et;have hl:((V.calls.take pre.length).map pE.tick).length=pre.length:=by rw[cQ,fC];lia
   have ec2:((V.calls.take pre.length).map pE.tick++V.calls.drop pre.length)[pre.length]?=Fa c:=by rw[eE (by rw[hl];exact cZ _),hl,gm,ed];rfl
   rw[cT,dM,et]at WE;have en:((V.calls.take pre.length).map pE.tick++V.calls.drop pre.length).set pre.length c.tick=(V.calls.take pre.length++[c]).map pE.tick++V.calls.drop (pre.length+1):=by rw[kl _ _ (by rw[hl];exact cZ _),hl,gm,ed,dB,eh];rfl
   have ci:CI a M' A _ pre.length k c:=⟨b2,ek,ec2⟩;obtain⟨ad,md,h1,h2,h3,h4,n1,n2⟩:=ci.cell;refine pB h1 (i' Z' ?_);have ht:c.tick=if (c.st=="rings")=pc then{c with si:=c.si+1}else c:=rfl;refine qJ (c:=c.st=="rings") (λg=>?_) (λg=>?_)
   .rw[cX g]at ht;refine pB h1 ⟨(G.j "since" Z'),i' Z' (i' Z' (pB h1 ⟨Z',by show 8<1000;decide,?_⟩))⟩;obtain⟨g5,s5⟩:=ci.put c.tick (by rw[ht]) (by rw[ht];exact h3) (by rw[ht];exact h4) n1 n2;have b5:=g5.bd;unfold yR at b5;rw[en]at b5;rw[ht]at b5 s5;exact WE _ _ ⟨b5,s2.trans s5,_,Z'⟩
   .rw[cV g]at ht;rw[ht,GI ec2]at en;rw[en]at b2;exact WE _ _ ⟨b2,s2,_,Z'⟩
 .rintro U M' ⟨b2,s2,y,rfl⟩
  rw[cQ,bd.len,fj,jL,dO]at b2;exact⟨M',.refl,q M' s2 b2⟩
def qU:Fq P w K mg base 3 a.k (wb a):=by
 refine fq G.k.toDG xV (λr u=>⟨_,(pz (pR (rG (pG v0) (ql U1)))
 (pz (pO 2 xV (pK U1 pC))
 (pA (pS (pH u U2 pD)
 (pA (pR (rG (pG v0) (ql (vj (PJ G) r G.e G.ch G.ap.toDG (ql (pK U1 pC)))))))
 (pA (pS (pH u U2 pD)
 (pA (pR (qb v0 G.c.toCls G.bz (Ho G) r (ql (rC U1 (rR pC) sC)))))
 (pA (pS (pH u U2 pD)
 (pA (OT u (pG v0) (pK U1 pC) (pK U1 pC)))
 (pA (pS (pH u U2 pD)
 (pA (pR (qb v0 G.c.toCls G.bA (L6 G) r (rk (pK U1 pC) (pK U1 pC) (pK U1 pC)))))
 (pA (pS (pH u U2 pD)
 (pA (pR (yr v0 G.c.toCls G.bB (FF G) r)))
 (pA (pS (pH u U2 (pQ (r6 pD pD)))
 (pA (HB (qa u U2 pD) (Sf (pG v0) (pK U1 pC))))
 (pA (pS (pH u U2 pD)
 (pA (pR (pN (KB G) r G.a9 (r6 (pK (pG v0) (pK U1 pC)) U1))))
 pL)))))))))))))))),?_⟩)
 rintro ds M Q ⟨_,A,V,e,rfl,rfl,bd,lim,ev,q⟩
 have hz:=dN;have ll:=lim.lo;have lc:=lim.ca;have lp:=lim.ps;refine pB bd.at_ (i' Z' ⟨by show(oC M A.lo).isSome=pc;rw[bd.lo];rfl,i' bd.lo ⟨by rw[cQ];lia,?_⟩⟩);have hb:=bd.ou (es:=V.log++[e]);rw[dB]at hb;obtain⟨b1,s1⟩:pP a (pI M A.lo (.lst (V.log.map Ev.d++[e.d]))) A (qM V e)/\qR A M A (pI M A.lo (.lst (V.log.map Ev.d++[e.d]))):=hb;show uz _ _ _ _ (pI M A.lo (.lst (V.log.map Ev.d++[e.d])));generalize pI M A.lo (.lst (V.log.map Ev.d++[e.d]))=M1 at b1 s1 ⊢;have YC:∀i,i<V.calls.length->∃k c,A.cs[i]?=Fa k/\V.calls[i]?=Fa c/\c∈V.calls:=λi hi=>by
  have XI:i<A.cs.length:=by rw[bd.len];exact hi
  exact⟨_,_,cS XI,cS hi,gO hi⟩
 have ZE:∀(i:Nat) (k:rN) (c:pE) (c':pE) (f:pE->pE),A.cs[i]?=Fa k->V.calls[i]?=Fa c->f c=c'->pX V e=xH (qM V e) i f->∀(M2:Mp),qR A M1 A M2->pP a M2 A (yR (qM V e) i c')->∃WA,qG WA M2/\Q .mL WA:=λi k c c' f e1 e2 e3 e4 M2 s2 b2=>⟨M2,.refl,q M2 A Z' (s1.trans s2) (by
  rw[e4];unfold xH;rw[show(qM V e).calls=V.calls from rfl,tL e2,e3];exact b2)⟩
 cases e with
 | new n x=>refine pB b1.at_ (i' Z' ⟨by show(oC M1 A.ca).isSome=pc;rw[b1.ca];rfl,λp hp=>⟨p,x,Z',pU,λM2 wy ad md kp z1 z2 z3 n1 n2 h1 h2 h3 h4=>⟨Z',?_⟩⟩⟩);have sp:=qG.new (c:=.ins a.e []) hp;have s2:qG M1 M2:=λy d hy=>kp y d (MB hy hp) (sp y d hy);refine i' (s2.lst b1.ca) ⟨by rw[cQ,b1.len];show V.calls.length<Ch;lia,?_⟩;obtain⟨b3,s3⟩:=b1.oh s2 (c:=vZ x) hp (sp.none z1) (sp.none z2) (sp.none z3) h1 h2 h3 h4 n1 n2;exact⟨_,.refl,q _ (A.add ⟨p,wy⟩) Z' (s1.trans s3) b3⟩
 | mT v=>obtain⟨k,c,ek,ec,hc⟩:=YC v.i ev;refine pB b1.at_ ⟨Z',_,⟨Z',Z'⟩,A,qM V (.mT v),k,c,v,Z',⟨b1,ek,ec⟩,lim.le,(lim.cs c hc).1,λM2 s2 b2=>⟨M2,.refl,q M2 A Z' (s1.trans s2) ?_⟩⟩;show pP a M2 A {qM V (.mT v)with mU:=V.mU++[v],calls:=V.calls.modify v.i (·.go v.g)};rw[tL ec];exact b2
 | next z n=>refine pB b1.at_ (i' Z' (i' b1.nx ⟨by show(tw V.ps).length<Ch;unfold tw;rw[cQ];lia,?_⟩));rw[HQ];obtain⟨b2,s2⟩:=b1.oN (ps:=Cq V.ps z n);exact⟨_,.refl,q _ A Z' (s1.trans s2) b2⟩
 | merge i j ms=>obtain⟨hi,hj,hij,_⟩:=ev;obtain⟨ki,ci,eki,eci,hci⟩:=YC i hi;obtain⟨kj,cj,ekj,ecj,hcj⟩:=YC j hj;refine pB b1.at_ ⟨Z',_,⟨Z',Z'⟩,A,qM V (.merge i j ms),i,j,ki,ci,cj,ms,Z',⟨b1,eki,eci⟩,ecj,hij,lim.le,λM2 A2 eb s2 b2=>⟨M2,.refl,q M2 A2 eb (s1.trans s2) ?_⟩⟩;show pP a M2 A2 {qM V (.merge i j ms)with calls:=(V.calls.modify i (·.over "merged")).modify j (·.mem ms),mU:=V.mU.map (rW.to i j)};rw[tL eci,tL (show(V.calls.set i _)[j]?=Fa cj by rw[eP hij];exact ecj)];exact b2
 | asks i z ns=>exact⟨pk Z',Z',Z',M1,.refl,q M1 A Z' s1 b1⟩
 | turn=>exact pB b1.at_ ⟨Z',_,⟨Z',Z'⟩,A,qM V .turn,Z',b1,λM2 s2 b2=>⟨M2,.refl,q M2 A Z' (s1.trans s2) b2⟩⟩
 | sw b i=>
  have hi:i<V.on.length:=ev;obtain⟨b2,s2⟩:=b1.oO (bs:=V.on.set i b);have es:(V.on.map D.bl).set i (.bl b)=(V.on.set i b).map D.bl:=(my).symm;have ix:E8 (V.on.map D.bl).length (i:Nat)=Fa i:=by rw[cQ];unfold E8;simp[hi]
  have WC:∃WA,qG WA (pI M1 A.on (.lst ((V.on.map D.bl).set i (.bl b))))/\Q .mL WA:=by rw[es];exact⟨_,.refl,q _ A Z' (s1.trans s2) b2⟩
  cases b with
  | true=>exact⟨pk Z',Z',Z',pB b1.at_ (i' Z' (i' b1.on (i' ix WC)))⟩
  | false=>exact⟨pk Z',Z',Z',pB b1.at_ (i' Z' (i' b1.on (i' ix WC)))⟩
 | rings i ps=>obtain⟨k,c,ek,ec,hc⟩:=YC i ev.1;exact⟨pk Z',Z',Z',pB b1.at_ (i' Z' (i' b1.ca (i' (rc ek) ⟨A,qM V _,i,k,c,_,_,Z',⟨b1,ek,ec⟩,(lim.cs c hc).2.1,(lim.cs c hc).2.2,.rings ps,ZE i k c _ _ ek ec Z' Z'⟩)))⟩
 | quiet i=>obtain⟨k,c,ek,ec,hc⟩:=YC i ev;exact⟨pk Z',Z',Z',pB b1.at_ (i' Z' (i' b1.ca (i' (rc ek) ⟨A,qM V _,i,k,c,_,_,Z',⟨b1,ek,ec⟩,(lim.cs c hc).2.1,(lim.cs c hc).2.2,.quiet,ZE i k c _ _ ek ec Z' Z'⟩)))⟩
 | waits i x=>obtain⟨k,c,ek,ec,hc⟩:=YC i ev;exact⟨pk Z',Z',Z',pB b1.at_ (i' Z' (i' b1.ca (i' (rc ek) ⟨A,qM V _,i,k,c,_,_,Z',⟨b1,ek,ec⟩,(lim.cs c hc).2.1,(lim.cs c hc).2.2,.waits x,ZE i k c _ _ ek ec Z' Z'⟩)))⟩
 | talks i ms=>obtain⟨k,c,ek,ec,hc⟩:=YC i ev.1;exact⟨pk Z',Z',Z',pB b1.at_ (i' Z' (i' b1.ca (i' (rc ek) ⟨A,qM V _,i,k,c,_,_,Z',⟨b1,ek,ec⟩,(lim.cs c hc).2.1,(lim.cs c hc).2.2,.talks ms,ZE i k c _ _ ek ec Z' Z'⟩)))⟩
 | held i x=>obtain⟨k,c,ek,ec,hc⟩:=YC i ev;exact⟨pk Z',Z',Z',pB b1.at_ (i' Z' (i' b1.ca (i' (rc ek) ⟨A,qM V _,i,k,c,_,_,Z',⟨b1,ek,ec⟩,(lim.cs c hc).2.1,(lim.cs c hc).2.2,.held x,ZE i k c _ _ ek ec Z' Z'⟩)))⟩
 | leaves i x=>obtain⟨k,c,ek,ec,hc⟩:=YC i ev;exact⟨pk Z',Z',Z',pB b1.at_ (i' Z' (i' b1.ca (i' (rc ek) ⟨A,qM V _,i,k,c,_,_,Z',⟨b1,ek,ec⟩,(lim.cs c hc).2.1,(lim.cs c hc).2.2,.leaves x,ZE i k c _ _ ek ec Z' Z'⟩)))⟩
 | over i w0=>obtain⟨k,c,ek,ec,hc⟩:=YC i ev;exact⟨pk Z',Z',Z',pB b1.at_ (i' Z' (i' b1.ca (i' (rc ek) ⟨A,qM V _,i,k,c,_,_,Z',⟨b1,ek,ec⟩,(lim.cs c hc).2.1,(lim.cs c hc).2.2,.over w0,ZE i k c _ _ ek ec Z' Z'⟩)))⟩
noncomputable def Mj:QQQ:=["barred","ring","engaged","left","refused","done","merged"]
def Qs(o:Bool)(c:pE):Prop:=(c.st="rings"/\c.ms=[]/\c.hd=Db/\c.wd=Db/\(o=pc->c.at_=[])/\(o=lf->c.at_≠[]))\/(o=lf/\((c.st="waits"/\c.ms=[]/\c.hd=Db/\c.wd=Db/\c.at_.length=1)\/(c.st="talks"/\(c.ms.length=2\/c.ms.length=3)/\c.hd=Db/\c.wd=Db/\c.at_=[])\/
 (∃x,c.st="held"/\c.ms.length=2/\c.hd=Fa x/\x∈c.ms/\c.wd=Db/\c.at_=[])\/(c.st="over"/\c.ms=[]/\c.hd=Db/\c.at_=[]/\∃w∈Mj,c.wd=Fa w)))
structure uU(l:pJ)(o:Bool)(c:pE):Prop where
 sh:Qs o c
 cr:c.cr∈l.pn
 at_:∀x∈c.at_,x∈l.pn
 ms:∀x∈c.ms,x∈l.pn
 an:c.at_.Nodup
 mn:c.ms.Nodup
 ca:c.cr∉c.at_
 wy:c.way≠[]/\∀z∈c.way,z∈l.nm
def Bh(c:pE)(x:Str):Prop:=c.m8 x=pc\/c.mR x=pc
structure zy(l:pJ)(V:qp)(o:Option Nat):Prop where
 ok:∀(i:Nat) c,V.calls[i]?=Fa c->uU l (o==Fa i) c
 un:∀(i j:Nat) ci cj x,V.calls[i]?=Fa ci->V.calls[j]?=Fa cj->Bh ci x->Bh cj x->i=j
 ln:∀x∈l.pn,(uZ V x:Int)<=wZ l x
 wt:∀(i j:Nat) ci cj x,V.calls[i]?=Fa ci->V.calls[j]?=Fa cj->ci.mM x=pc->cj.mM x=pc->i=j
 nx:uu l V
abbrev WF(l:pJ)(V:qp):Prop:=zy l V Db
structure Sz(V:qp)(c n:Nat):Prop where
 lo:V.log.length<=n
 le:V.mU.length<=n
 ca:V.calls.length<=c
 ps:V.ps.length<=n
 cs:∀k∈V.calls,k.way.length<=n/\k.at_.length<=100/\k.ms.length<=100
def Sz.mono{V:qp}{c n c' n':Nat}(h:Sz V c n)(hc:c<=c')(hn:n<=n'):Sz V c' n':=⟨dY h.lo hn,dY h.le hn,dY h.ca hc,dY h.ps hn,λk hk=>⟨dY (h.cs k hk).1 hn,(h.cs k hk).2⟩⟩
noncomputable def Ev.nw:Ev->Nat
 | .new _ _=>1
 | _=>0
def Ms(ps:T0 (Str×Int))(z:Str)(n:Int):(Cq ps z n).length<=ps.length+1:=by
 unfold Cq;split
 .rw[cQ];lia
 .rw[cT];exact cZ _
def Jc(ss:QQQ)(x:Str):(rM ss x).length<=ss.length:=gh _ _
def Fj{α:Type}{f:α->α}{l:List α}{i:Nat}{x:α}(h:x∈l.modify i f):x∈l\/∃y∈l,x=f y:=by
 cases e:l[i]? with
 | none=>rw[kN (by simpa using e)]at h;exact .inl h
 | some c=>
  rw[tL e]at h;rcases List.mem_or_eq_of_mem_set h with g|g
  .exact .inl g
  .exact .inr ⟨c,eZ e,g⟩
def Sz.step{V:qp}{c n:Nat}{e:Ev}(h:Sz V c n)(ok:e.ok V):Sz (pX V e) (c+e.nw) (n+1):=by
 have h1:Sz (qM V e) c (n+1):=⟨by show(V.log++[e]).length<=n+1;rw[cT];exact ii h.lo,ju h.le,h.ca,ju h.ps,λk hk=>⟨ju (h.cs k hk).1,(h.cs k hk).2⟩⟩;have md:∀(i:Nat) (f:pE->pE),(∀k∈V.calls,(f k).way=k.way/\(f k).at_.length<=100/\(f k).ms.length<=100)->Sz (xH (qM V e) i f) c (n+1):=λi f hf=>⟨h1.lo,h1.le,by show(V.calls.modify i f).length<=c;rw[fA];exact h.ca,h1.ps,λk hk=>by
  rcases Fj hk with g|⟨y,hy,rfl⟩
  .exact h1.cs k g
  .obtain⟨a1,a2,a3⟩:=hf y hy;exact⟨by rw[a1];exact(h1.cs y hy).1,a2,a3⟩⟩
 cases e with
 | new m x=>
  refine⟨h1.lo,h1.le,by show(V.calls++[vZ x]).length<=c+1;rw[cT];exact ii h.ca,h1.ps,λk hk=>?_⟩;rcases dR.mp hk with g|g
  .exact h1.cs k g
  .rw[df.mp g];exact⟨eU _,eU _,eU _⟩
 | mT v=>
  refine⟨h1.lo,by show(V.mU++[v]).length<=n+1;rw[cT];exact ii h.le,by show(V.calls.modify v.i _).length<=c;rw[fA];exact h.ca,h1.ps,λk hk=>?_⟩;rcases Fj (l:=V.calls) hk with g|⟨y,hy,rfl⟩
  .exact h1.cs k g
  .exact⟨by show(y.way++[v.g]).length<=n+1;rw[cT];exact ii (h.cs y hy).1,(h.cs y hy).2⟩
 | asks i z ns=>exact h1
 | next z m=>exact⟨h1.lo,h1.le,h1.ca,dY (Ms _ _ _) (ii h.ps),h1.cs⟩
 | merge i j ms=>
  have m1:=md i (·.over "merged") λk hk=>⟨Z',eU _,eU _⟩;refine⟨h1.lo,by show(V.mU.map _).length<=n+1;rw[cQ];exact h1.le,by show((V.calls.modify i _).modify j _).length<=c;rw[fA,fA];exact h.ca,h1.ps,λk hk=>?_⟩;rcases Fj (l:=V.calls.modify i (·.over "merged")) hk with g|⟨y,hy,rfl⟩
  .exact m1.cs k g
  .exact⟨(m1.cs y hy).1,(m1.cs y hy).2.1,ok.2.2.2⟩
 | turn=>
  refine⟨h1.lo,h1.le,by show(V.calls.map pE.tick).length<=c;rw[cQ];exact h.ca,h1.ps,λk hk=>?_⟩;obtain⟨y,hy,rfl⟩:=dw.mp hk;have e:y.tick.way=y.way/\y.tick.at_=y.at_/\y.tick.ms=y.ms:=by unfold pE.tick;split<;>exact⟨Z',Z',Z'⟩
  rw[e.1,e.2.1,e.2.2];exact h1.cs y hy
 | sw b i=>exact⟨h1.lo,h1.le,h1.ca,h1.ps,h1.cs⟩
 | rings i ps=>exact md i _ λk hk=>⟨Z',ok.2,(h.cs k hk).2.2⟩
 | quiet i=>exact md i _ λk hk=>⟨Z',eU _,(h.cs k hk).2.2⟩
 | waits i x=>exact md i _ λk hk=>⟨Z',by show 1<=100;decide,(h.cs k hk).2.2⟩
 | talks i ms=>exact md i _ λk hk=>⟨Z',eU _,ok.2⟩
 | held i x=>exact md i _ λk hk=>⟨Z',(h.cs k hk).2.1,(h.cs k hk).2.2⟩
 | leaves i x=>exact md i _ λk hk=>⟨Z',dY (Jc _ _) (h.cs k hk).2.1,dY (Jc _ _) (h.cs k hk).2.2⟩
 | over i w=>exact md i _ λk hk=>⟨Z',eU _,eU _⟩
def RX(V:qp)(e:Ev):(pX V e).p=V.p/\(pX V e).h=V.h/\(pX V e).on.length=V.on.length:=by cases e<;>first|exact⟨Z',Z',Z'⟩|exact⟨Z',Z',ik⟩
structure uy(a:Ad)(M0 M:Mp)(b:Uf)(A:tW)(V:qp)(l:pJ)(c n:Nat):Prop where
 bd:pP a M A V
 pl0:sU a M0 V.p l
 s0:qG M0 M
 fr:∀x∈A.foot,M0 x=Db
 b:A.b=b
 sz:Sz V c n
 ok:rf l
 on:V.on.length=l.mH.length
variable {M0:Mp}{b:Uf}{A':tW}{V':qp}{l:pJ}{n:Nat}
section
variable {c:Nat}
def uy.at_(h:uy a M0 M b A V l c n):M b=Fa (.ins a.c (tP (.ref V.p) V.h V.t A.ca A.le A.nx A.on A.lo)):=h.b ▸ h.bd.at_
def uy.sub(h:uy a M0 M b A V l c n)(s:qG M M'):uy a M0 M' b A V l c n:=⟨h.bd.sub s,h.pl0,h.s0.trans s,h.fr,h.b,h.sz,h.ok,h.on⟩
def uy.pl(h:uy a M0 M b A V l c n):sU a M V.p l:=h.pl0.sub h.s0
def uy.mono(h:uy a M0 M b A V l c n){c' n':Nat}(hc:c<=c')(hn:n<=n'):uy a M0 M b A V l c' n':=⟨h.bd,h.pl0,h.s0,h.fr,h.b,h.sz.mono hc hn,h.ok,h.on⟩
def uy.lim(h:uy a M0 M b A V l c n)(hc:c<=1000000)(hn:n<9000000):Wd V:=⟨iw h.sz.lo (by lia),iw h.sz.le (by lia),dY h.sz.ca hc,iw h.sz.ps (by lia),λk hk=>⟨iw (h.sz.cs k hk).1 (by lia),(h.sz.cs k hk).2⟩⟩
def uy.rd(h:uy a M0 M b A V l c n)(hc:c<=1000000){o:Option Nat}(wf:zy l V o):Rd a M A V l:=⟨h.bd,dY h.sz.ca hc,h.pl,h.ok,h.on,λk hk=>by
 obtain⟨i,hi,e⟩:=gR hk;exact⟨(wf.ok i k (by rw[cS hi,e])).ms,(h.sz.cs k hk).2.2⟩⟩
def uy.call(h:uy a M0 M b A V l c n){i:Nat}{v:pE}(e:V.calls[i]?=Fa v):∃k,CI a M A V i k v:=by
 have hi:i<A.cs.length:=by rw[h.bd.len];exact(cU.mp e).1
 exact⟨A.cs[i],h.bd,cS hi,e⟩
def uy.after(h:uy a M0 M b A V l c n){e:Ev}(ok:e.ok V)(eb:A'.b=A.b)(st:qR A M A' M')(bd:pP a M' A' (pX V e)):uy a M0 M' b A' (pX V e) l (c+e.nw) (n+1):=by
 obtain⟨p1,p2,p3⟩:=RX V e;refine⟨bd,p1 ▸ h.pl0,λx d hx=>st.1 x d (λz=>?_) (h.s0 x d hx),λx hx=>?_,eb.trans h.b,h.sz.step ok,h.ok,p3.trans h.on⟩
 .rw[h.fr x z]at hx;cases hx
 .rcases st.2.1 x hx with z|z
  .exact h.fr x z
  .exact h.s0.none z
end
def FY(l:pJ)(V:qp)(c:Str):vB->Prop
 | .rings z ps=>z∈l.nm/\ps≠[]/\ps=xR l V c z
 | .breaks z=>∃x,x=c/\Il l V x c z=pc
 | .waits z=>z∈l.pn/\z≠c/\AF V z=lf
 | .ring ns=>ns≠[]
 | _=>True
def G0{V:qp}{c z:Str}:(∀x∈xR l V c z,x∈uo l V c z/\x∈l.mF z)/\(xR l V c z).length<=(l.mF z).length:=by
 have hr:∀x∈uo l V c z,x∈l.mF z:=λx hx=>(fv.mp hx).1;unfold xR;split
 .refine⟨λx hx=>?_,?_⟩
  .have hx:=(fv.mp (iT hx)).2;have hx:=qz.mp hx;exact⟨hx,hr x hx⟩
  .cases e:(uY (l.mF z) (zv V z)).filter λx=>hasS (uo l V c z) x with
   | nil=>exact eU _
   | cons y r=>
    have hy:y∈uY (l.mF z) (zv V z):=(fv.mp (by rw[e];exact dI)).1;have hy:y∈l.mF z:=by
     unfold uY at hy;rcases dR.mp hy with q|q
     .exact iU q
     .exact iT q
    rw[fC];have:=j6 hy;lia
 .exact⟨λx hx=>⟨hx,hr x hx⟩,gh _ _⟩
def O2{l:pJ}{V:qp}{c z:Str}(hz:z∈l.nm):FY l V c (Gy l V c z):=by
 unfold Gy;split
 .trivial
 .rename_i x r e;exact⟨hz,fD _ _,e.symm⟩
structure xc(l:pJ)(V:qp)(c:Str)(n:Nat)(st:sd)(r:vB×sd):Prop where
 e:FY l V c r.1
 len:r.2.length<=st.length+n
 nm:∀s∈r.2,s∈st\/s.1∈l.nm
 wy:∀ns,r.1=.ring ns->∀z∈ns,z∈l.nm
theorem xG{V:qp}{c:Str}(ok:rf l):∀(n:Nat) (z:Str) (way:QQQ) (st:sd),z∈l.nm->(∀x∈way,x∈l.nm)->xc l V c n st (uE l V c n z way st)
 | 0,z,way,st,_,_=>⟨trivial,cZ _,λs hs=>.inl hs,λns h=>by cases h⟩
 | n+1,z,way,st,hz,hw=>by
  unfold uE;by_cases h:hasS way z=pc
  .rw[cX h];refine⟨?_,by show st.length<=_;lia,λs hs=>.inl hs,λns e y hy=>?_⟩
   .have h1:way.findIdx (·==z)<way.length:=iH ⟨z,qz.mp h,eQ z⟩;show way.drop _≠[];intro g;have:=eJ List.length g;rw[gb]at this;simp only[dF]at this;lia
   .cases e;exact hw y (iU hy)
  rw[cV h];have sn:∀(fs:T0 Nat),∀s∈st++[(z,fs)],s∈st\/s.1∈l.nm:=λfs s hs=>by
   rcases dR.mp hs with g|g
   .exact .inl g
   .rw[df.mp g];exact .inr hz
  have sl:∀fs:T0 Nat,(st++[(z,fs)]).length=st.length+1:=λfs=>by rw[cT];rfl
  cases hf:BN l V c z with
  | nil=>refine⟨O2 hz,by show(st++[(z,[])]).length<=_;rw[sl];lia,sn [],λns e=>?_⟩;have e:Gy l V c z=.ring ns:=e;unfold Gy at e;split at e<;>cases e
  | cons i r=>
   obtain⟨w,ew,W7⟩:=EA (l:=l) (V:=V) (f:=Bg l V c z) (i:=i) (by show i∈BN l V c z;rw[hf];exact dI);dsimp only;rw[ew];dsimp only[Option.elim];have stop:∀e:vB,FY l V c e->(∀ns,e≠.ring ns)->xc l V c (n+1) st (e,st++[(z,i::r)]):=λe he WR=>⟨he,by show(st++[(z,i::r)]).length<=_;rw[sl];lia,sn _,λns g=>absurd g (WR ns)⟩
   have Xp:∀y,I9 z w.2=.inr y->xc l V c (n+1) st (uE l V c n y (way++[z]) (st++[(z,i::r)])):=λy hy=>by
    have hr:=xG (V:=V) (c:=c) ok n y (way++[z]) (st++[(z,i::r)]) (BQ ok (qY ew) hy) λx hx=>by
     rcases dR.mp hx with g|g
     .exact hw x g
     .rw[df.mp g];exact hz
    refine⟨hr.e,by have:=hr.len;rw[sl]at this;lia,λs hs=>?_,hr.wy⟩;rcases hr.nm s hs with g|g
    .exact sn _ s g
    .exact .inr g
   cases hv:w.2 with
   | bar x ns=>exact stop _ trivial λns g=>by cases g
   | shut x ns=>exact stop _ trivial λns g=>by cases g
   | wait x=>
    rw[hv]at W7;have hf2:(if (!(z==x)||(c==x))=pc then lf else yb l V c z&&!(AF V z))=pc:=W7;have hx:xQ l.pn x:=by have:=ok.wo w (qY ew);rw[hv]at this;exact this
    by_cases g:(!(z==x)||(c==x))=pc
    .rw[cX g]at hf2;cases hf2
    rw[cV g]at hf2;simp only[gZ,gI,fM,jv,dQ]at g hf2;have ezx:=xz g.1;subst ezx;exact stop _ ⟨qz.mp hx,λy=>g.2 (by rw[y];exact eQ _),hf2.2⟩ λns g=>by cases g
   | breaks x=>
    rw[hv]at W7;refine stop _ ⟨x,?_,?_⟩ λns g=>by cases g
    .have W7:Il l V x c z=pc:=W7;unfold Il at W7;by_cases g:(!(c==x)||(z==x))=pc
     .rw[cX g]at W7;cases W7
     .simp only[gZ,gI,fM,jv]at g;exact(xz g.1).symm
    .exact W7
   | always x y=>exact Xp y (by rw[hv];rfl)
   | night x y f m=>exact Xp y (by rw[hv];rfl)
   | busy x y=>exact Xp y (by rw[hv];rfl)
   | silent x y m=>exact Xp y (by rw[hv];rfl)
def F5{V:qp}{x c z:Str}(h:Il l V x c z=pc):∃j k,vO V z=Fa j/\V.calls[j]?=Fa k/\k.st="talks"/\z∈k.ms/\k.ms.length=2/\z≠c:=by
 unfold Il at h;by_cases g:(!(c==x)||(z==x))=pc
 .rw[cX g]at h;cases h
 rw[cV g]at h;simp only[gZ,gI,fM,jv]at g;by_cases g2:(!(hasS l.pn z)||!(yb l V c z))=pc
 .rw[cX g2]at h;cases h
 rw[cV g2]at h;cases e:vO V z with
 | none=>rw[e]at h;cases h
 | some j=>obtain⟨hj,ht,_⟩:=iE.mp e;rw[e]at h;have h:((V.calls[j]?).elim lf λk=>(k.ms.length==2)&&Ij l x k.ms)=pc:=h;rw[cS hj]at h;have h:((V.calls[j].ms.length==2)&&Ij l x V.calls[j].ms)=pc:=h;unfold pE.mS at ht;rw[dQ]at h ht;refine⟨j,V.calls[j],Z',cS hj,xz ht.1,qz.mp ht.2,xz h.1,λy=>?_⟩;rw[y]at g;have:=xz g.1;rw[this,eQ]at g;exact absurd Z' g.2
noncomputable def pE.bare(c:pE):pE:={c with way:=[]}
def tO(V V':qp):Prop:=V'.calls.map pE.bare=V.calls.map pE.bare
def tO.at_{V V':qp}(h:tO V V'){i:Nat}{c:pE}(e:V.calls[i]?=Fa c):∃c',V'.calls[i]?=Fa c'/\c'.bare=c.bare:=by
 have:=eJ (·[i]?) h;simp only[dq,e]at this;cases e':V'.calls[i]? with
 | none=>rw[e']at this;cases this
 | some c'=>rw[e']at this;exact⟨c',Z',cY this⟩
def zK(f:pE->Bool)(hf:∀c,f c.bare=f c)(cs:List pE):(cs.map pE.bare).findIdx? f=cs.findIdx? f:=by rw[ia];congr 1;funext c;exact hf c
def tO.nE{V V':qp}(h:tO V V')(z:Str):vO V' z=vO V z:=by unfold vO;rw[<-zK _ (λ_=>rfl) V'.calls,h,zK _ (λ_=>rfl)]
def tO.ends{V V':qp}(h:tO V V')(i:Nat)(e:vB):sD l V' i e=sD l V i e:=by
 cases e with
 | breaks z=>
  unfold sD;dsimp only;rw[h.nE];have key:∀j:Nat,(V'.calls[j]?).map pE.bare=(V.calls[j]?).map pE.bare:=λj=>by
   have:=eJ (·[j]?) h
   simpa only [dq]using this
  have ki:=key i;cases vO V z with
  | none=>rfl
  | some j=>
   have kj:=key j;cases e1:V.calls[i]? with
   | none=>rw[e1]at ki;rw[show V'.calls[i]?=Db by cases q:V'.calls[i]? with|none=>rfl|some _=>rw[q]at ki;cases ki]
   | some c=>
    rw[e1]at ki;cases e2:V'.calls[i]? with
    | none=>rw[e2]at ki;cases ki
    | some c'=>
     rw[e2]at ki;have k1:c'.cr=c.cr:=by have kb:c'.bare=c.bare:=cY ki;exact show c'.bare.cr=c.bare.cr by rw[kb]
     have k2:(V'.calls[j]?).elim [] pE.ms=(V.calls[j]?).elim [] pE.ms:=by
      cases e3:V.calls[j]? with
      | none=>rw[e3]at kj;rw[show V'.calls[j]?=Db by cases q:V'.calls[j]? with|none=>rfl|some _=>rw[q]at kj;cases kj]
      | some d=>
       rw[e3]at kj;cases e4:V'.calls[j]? with
       | none=>rw[e4]at kj;cases kj
       | some d'=>rw[e4]at kj;exact show d'.bare.ms=d.bare.ms by rw[show d'.bare=d.bare from cY kj]
     dsimp only;rw[k1,k2]
 | _=>rfl
def tO.trans{V V1 V2:qp}(h:tO V V1)(g:tO V1 V2):tO V V2:=Eq.trans g h
def zF(V:qp)(v:rW):tO V (pX V (.mT v)):=by
 show(V.calls.modify v.i (·.go v.g)).map pE.bare=V.calls.map pE.bare;cases e:V.calls[v.i]? with
 | none=>rw[kN (by simpa using e)]
 | some c=>rw[tL e,my,show(c.go v.g).bare=c.bare from rfl,GI (by rw[dq,e];rfl)]
def DO(V:qp)(i:Nat)(z:Str)(ns:T0 Nat):tO V (pX V (.asks i z ns)):=rfl
def tO.len{V V':qp}(h:tO V V'):V'.calls.length=V.calls.length:=by
 have:=eJ List.length h
 rwa [cQ,cQ]at this
noncomputable def Ga:Option Str->sd->Option Str
 | o,[]=>o
 | _,(z,_)::r=>Ga (Fa z) r
noncomputable def Ut(i:Nat)(z:Str)(fs:T0 Nat):Option Str->T0 Ev
 | none=>[.asks i z fs]
 | some y=>[.mT ⟨i,y,z,y⟩,.asks i z fs]
theorem za(i:Nat)(z:Str)(fs:T0 Nat):∀(st:sd) (o:Option Str),qT i o (st++[(z,fs)])=qT i o st++Ut i z fs (Ga o st)
 | [],none=>rfl
 | [],Fa _=>rfl
 | (y,gs)::r,none=>by show .asks i y gs::qT i (Fa y) (r++[(z,fs)])=_;rw[za i z fs r];rfl
 | (y,gs)::r,Fa u=>by show .mT ⟨i,u,y,u⟩::.asks i y gs::qT i (Fa y) (r++[(z,fs)])=_;rw[za i z fs r];rfl
theorem CC(z:Str)(fs:T0 Nat):∀(st:sd) (o:Option Str),Ga o (st++[(z,fs)])=Fa z
 | [],_=>rfl
 | _::r,_=>CC z fs r _
theorem vw(i:Nat):∀(st:sd) (o:Option Str) (V:qp),tO V (qH V (qT i o st))
 | [],_,V=>rfl
 | (y,gs)::r,Db,V=>(DO V i y gs).trans (vw i r (Fa y) _)
 | (y,gs)::r,Fa u,V=>((zF V ⟨i,u,y,u⟩).trans (DO _ i y gs)).trans (vw i r (Fa y) _)
def OU(a:Ad):rj:=λds M Q=>LZ λM0 b A V l c n i st r=>ds=[.ref b,.int ((i:Nat):Int),.ref r]/\uy a M0 M b A V l c n/\c<=1000000/\n<=8000000/\st.length<=100/\i<V.calls.length/\oC M r=Fa (rA st)/\r∉A.foot/\∀M' A',uy a M0 M' b A' (qH V (qT i Db st)) l c (n+2*st.length)->qR A M A' M'->Q .mL M'
def LL(a:Ad):rj:=λds M Q=>LZ λM0 b A V l c n i z ps=>ds=[.ref b,.int ((i:Nat):Int),.str z,names ps]/\uy a M0 M b A V l c n/\c<=1000000/\n<=8000000/\i<V.calls.length/\z∈l.nm/\ps≠[]/\(∀x∈ps,x∈l.mF z)/\ps.length<=100/\∀M' A',uy a M0 M' b A' (qH V (sD l V i (.rings z ps))) l c (n+2)->qR A M A' M'->Q .mL M'
def GX(l:pJ)(V:qp)(i:Nat):vB->Prop
 | .rings z ps=>z∈l.nm/\ps≠[]/\(∀x∈ps,x∈l.mF z)/\ps.length<=100
 | .breaks z=>∃j k,vO V z=Fa j/\V.calls[j]?=Fa k/\i≠j/\k.ms.length=2
 | _=>True
def Nf(a:Ad):rj:=λds M Q=>Tb λM0 b A V l c n i z=>ds=[.ref b,.int ((i:Nat):Int),.str z]/\uy a M0 M b A V l c n/\c<=1000000/\n<=8000000/\i<V.calls.length/\GX l V i (.breaks z)/\∀M' A',uy a M0 M' b A' (qH V (sD l V i (.breaks z))) l c (n+2)->qR A M A' M'->Q .mL M'
def IZ(a:Ad):rj:=λds M Q=>Tb λM0 b A V l c n i e=>ds=[.ref b,.int ((i:Nat):Int),vB.d e]/\uy a M0 M b A V l c n/\c<=1000000/\n<=8000000/\i<V.calls.length/\GX l V i e/\∀M' A',uy a M0 M' b A' (qH V (sD l V i e)) l c (n+2)->qR A M A' M'->Q .mL M'
def NU(a:Ad):rj:=λds M Q=>Tb λM0 b A V l c n i k=>ds=[.ref b,.int ((i:Nat):Int)]/\uy a M0 M b A V l c n/\c<=1000000/\n<=7000000/\zy l V (Fa i)/\V.calls[i]?=Fa k/\∀M' A',uy a M0 M' b A' (qH V (vN l V i)) l c (n+30)->qR A M A' M'->Q .mL M'
def MT(a:Ad):rj:=λds M Q=>Tb λM0 b A V l c n y z=>ds=[.ref b,.str y,.str z]/\uy a M0 M b A V l c n/\c<1000000/\n<=6000000/\zy l (qH V [.new V.calls.length y,.mT ⟨V.calls.length,y,z,y⟩]) (Fa V.calls.length)/\∀M' A',uy a M0 M' b A' (qH V (EM l V y z)) l (c+1) (n+32)->qR A M A' M'->Q .mL M'
def Ll{st:sd}{pre post:T0 D}{d:D}(e:pre++d::post=rA st):∃z fs,st[pre.length]?=Fa (z,fs)/\d=.tup [.str z,xW fs]/\st.take (pre.length+1)=st.take pre.length++[(z,fs)]:=by
 have h:(rA st)[pre.length]?=Fa d:=by rw[<-e];simp
 unfold rA at h;rw[dq]at h;cases q:st[pre.length]? with
 | none=>rw[q]at h;cases h
 | some s=>rw[q]at h;refine⟨s.1,s.2,Z',(cY h).symm,?_⟩;rw[fS,q];rfl
noncomputable def Vq:Option Str->D
 | none=>.mL
 | some x=>.str x
def Oj{ss:QQQ}{x:Str}(h:ss.getLast?=Fa x):vA (ss.map D.str) (-1)=Fa (.str x):=by
 have hp:0<ss.length:=by cases ss with|nil=>cases h|cons _ _=>exact mz _
 unfold vA;have e:E8 (ss.map D.str).length (-1)=Fa (ss.length - 1):=by
  rw[cQ];unfold E8;have:¬((-1:Int)>=0):=by decide
  simp;lia
 rw[e];show(ss.map D.str)[ss.length - 1]?=_;rw[dq,<-im,h];rfl
def zJ(ds:T0 D):L3.tM ds Db (Fa (-1:Int))=ds.dropLast:=by
 unfold L3.tM;have e:HT.sX ds.length ds.length (Fa (-1:Int))=ds.length - 1:=by show(if (-1:Int)<0 then((-1:Int)+(ds.length:Int)).toNat else min (-1:Int).toNat ds.length)=ds.length - 1;rw[cX (by decide)];lia
 rw[e,HT.zm,jb,kZ,List.dropLast_eq_take]
def Qa:Fq P w K mg base 4 a.aX (OU a):=by
 refine fq G.aX.toDG tT (λr u=>⟨_,(pz (pO 3 tT se)
 (pA (uw eX Z' (qC U2) (vk (n:=2) Z' (qD (rD 4 tT) (qD (rD 5 tT) ud)))
 (pz (pS (pH u U3 se)
 (pA (pR (qb v0 G.c.toCls G.k (qU G) r (ql (pQ (pY pD (pY U1 (rk U3 v4 U3))))))))
 pL)
 (pz (pR (qb v0 G.c.toCls G.k (qU G) r (ql (pQ (pY pD (rk U1 v4 v5))))))
 (pA (pO 3 tT v4))))))),?_⟩)
 rintro ds M Q ⟨M0,b,A,V,l,c,n,i,st,r,rfl,cu,hc,hn,WT,hi,lr,nf,q⟩
 refine i' lr (vh (rA st) (λpre U M'=>(∃A',uy a M0 M' b A' (qH V (qT i Db (st.take pre.length))) l c (n+2*pre.length)/\qR A M A' M')/\∃y4 y5,U=[Fa (.ref b),Fa (.int ((i:Nat):Int)),Fa (.ref r),Fa (Vq (Ga Db (st.take pre.length))),y4,y5]) (λpre U M' j=>?_) _ [] _ _ Z' ⟨⟨A,cu,.refl⟩,Db,Db,Z'⟩ ?_ ?_)
 .obtain⟨⟨A',c1,Xc⟩,_⟩:=j;exact sS (Xc.1 r _ nf (qm lr))
 .rintro pre d post e U M' ⟨⟨A',c1,Xc⟩,y4,y5,rfl⟩ nx WE
  obtain⟨z,fs,es,rfl,et⟩:=Ll e;have hp:pre.length<100:=dE (cU.mp es).1 WT;rw[cT,dM,et,za,CC]at WE;have len:∀es,tO V (qH V es)->i<(qH V es).calls.length:=λes h=>by rw[h.len];exact hi
  have Yd:=len _ (vw i (st.take pre.length) Db V);generalize hV:qH V (qT i Db (st.take pre.length))=V1 at c1 Yd;rw[rL,hV]at WE;refine⟨Z',?_⟩;dsimp only[sF,Cf,Iu];have asks:∀(M2:Mp) (A2:tW) (V2:qp) (m:Nat) (y3:Option D),m<9000000->uy a M0 M2 b A2 V2 l c m->qR A M A2 M2->(∀M3 A3,uy a M0 M3 b A3 (pX V2 (.asks i z fs)) l c (m+1)->qR A M A3 M3->nx [Fa (.ref b),Fa (.int ((i:Nat):Int)),Fa (.ref r),Fa (.str z),Fa (.str z),Fa (xW fs)] M3)->Aq (M2 b) λC fs'=>fs'.lookup ("apply":Str)=Db/\∃sp,(C=a.c/\sp=wb a)/\4<=Ch/\sp [.ref b,.tup [.str "asks",.int ((i:Nat):Int),.str z,xW fs]] M2 λ_ M3=>nx [Fa (.ref b),Fa (.int ((i:Nat):Int)),Fa (.ref r),Fa (.str z),Fa (.str z),Fa (xW fs)] M3:=λM2 A2 V2 m y3 hm c2 s2 k=>pB c2.at_ ⟨Z',_,⟨Z',Z'⟩,by rw[dN];decide,b,A2,V2,.asks i z fs,Z',c2.b,c2.bd,c2.lim hc hm,trivial,λM3 A3 eb s3 bd=>k M3 A3 (c2.after trivial eb s3 bd) (s2.trans s3)⟩;cases hl:Ga Db (st.take pre.length)with
  | none=>rw[hl]at WE;refine asks M' A' V1 _ Db (by lia) c1 Xc λM3 A3 c3 s3=>WE _ _ ⟨⟨A3,c3.mono (cZ _) (by lia),s3⟩,_,_,Z'⟩
  | some y=>rw[hl]at WE;refine pB c1.at_ ⟨Z',_,⟨Z',Z'⟩,pk Z',b,A',V1,.mT ⟨i,y,z,y⟩,Z',c1.b,c1.bd,c1.lim hc (by lia),Yd,λM2 A2 eb s2 bd=>?_⟩;have c2:=c1.after (e:=.mT ⟨i,y,z,y⟩) Yd eb s2 bd;refine asks M2 A2 _ _ Db (by lia) c2 (Xc.trans s2) λM3 A3 c3 s3=>WE _ _ ⟨⟨A3,c3.mono (cZ _) (by lia),s3⟩,_,_,Z'⟩
 .rintro U M' ⟨⟨A',c1,Xc⟩,_⟩
  have hl:(rA st).length=st.length:=by unfold rA;rw[cQ]
  rw[hl,fj]at c1;exact⟨M',.refl,q M' A' c1 Xc⟩
def LO:Fq P w K mg base 4 a.aY (LL a):=by
 refine fq G.aY.toDG uG (λr u=>⟨_,(pz (pS (pH u (qb (pG v0) G.h.toCls G.aI (xE G) r (ql U2)) pD)
 (pz (pO 4 uG (qb (pG v0) G.h.toCls G.V (uk G) r (ql U2)))
 (pz (pO 5 uG (qc (qc (xK v4 (ql (pK U3 pC))) pC) (pV qw Z' G.g qo (ql v4))))
 (pA (pR (qb v0 G.c.toCls G.k (qU G) r (ql (pQ (rk pD U2 v5))))))))
 pL)
 (pA (pR (qb v0 G.c.toCls G.k (qU G) r (ql (pQ (rk pD U1 U3))))))),?_⟩)
 rintro ds M Q ⟨M0,b,A,V,l,c,n,i,z,ps,rfl,cu,hc,hn,hi,hz,WR,hm,hps,q⟩
 obtain⟨ph,gr,ws,X8,pr,gd,rs,i1,_⟩:=cu.pl;have pl:=cu.pl;obtain⟨x,ps',rfl⟩:=fZ WR;obtain⟨⟨pne,_⟩,_⟩:=cu.ok.of hz;refine S0 (t:=Sa _ _ _) (λU M'=>(∃A',uy a M0 M' b A' (qH V (if (l.mO z=="turns")=pc then[.next z (QB (l.mF z) x)]else[])) l c (n+1)/\qR A M A' M')/\∃y1 y2,U=[Fa (.ref b),Fa (.int ((i:Nat):Int)),Fa (.str z),Fa (names (x::ps')),y1,y2]) (λnx h=>?_) ?_
 .refine pB cu.at_ (i' Z' (pB i1 ⟨Z',_,⟨Z',Z'⟩,V.p,z,l,Z',pl,?_⟩));refine qJ (c:=l.mO z=="turns") (λg=>?_) (λg=>?_)
  .rw[cX g]at h;refine pB cu.at_ (i' Z' (pB i1 ⟨Z',_,⟨Z',Z'⟩,V.p,z,l,Z',pl,λp hp=>?_⟩));have t:=qG.new (c:=.lst ((l.mF z).map D.str)) hp;have lp:=@pM M p ((l.mF z).map D.str);have cu':=cu.sub t;have YV:qR A M A (pI M p (.lst ((l.mF z).map D.str))):=.sub t;generalize pI M p (.lst ((l.mF z).map D.str))=M1 at t lp cu' YV ⊢;have ej:=Ef x (l.mF z) (hm x dI);have lpos:0<(l.mF z).length:=eV.mpr pne;have el:(((l.mF z).map D.str).length:Int)=(l.mF z).length:=by rw[cQ]
   refine⟨by show(oC M1 p).isSome=pc;rw[lp];rfl,i' (wx _ _) (i' lp ⟨Z',qu _,i' ej (i' lp ⟨by rw[el];lia,?_⟩)⟩)⟩;rw[el];refine pB cu'.at_ ⟨Z',_,⟨Z',Z'⟩,pk Z',b,A,V,.next z (QB (l.mF z) x),Z',cu'.b,cu'.bd,cu'.lim hc (by lia),trivial,λM2 A2 eb st X9=>?_⟩;exact h _ _ ⟨⟨A2,cu'.after (e:=.next z (QB (l.mF z) x)) trivial eb st X9,YV.trans st⟩,_,_,Z'⟩
  .rw[cV g]at h;exact h _ _ ⟨⟨A,cu.mono (cZ _) (by lia),.refl⟩,_,_,Z'⟩
 rintro U M1 ⟨⟨A1,c1,Xc⟩,y1,y2,rfl⟩
 have q:∀M' A',uy a M0 M' b A' (qH V ((if (l.mO z=="turns")=pc then[.next z (QB (l.mF z) x)]else[])++[.rings i (x::ps')])) l c (n+2)->qR A M A' M'->Q .mL M':=q;rw[rL]at q;have Yd:i<(qH V (if (l.mO z=="turns")=pc then[.next z (QB (l.mF z) x)]else[])).calls.length:=by
  split
  .exact hi
  .exact hi
 generalize qH V (if (l.mO z=="turns")=pc then[.next z (QB (l.mF z) x)]else[])=V1 at c1 q Yd;refine pB c1.at_ ⟨Z',_,⟨Z',Z'⟩,pk Z',b,A1,V1,.rings i (x::ps'),Z',c1.b,c1.bd,c1.lim hc (by lia),⟨Yd,hps⟩,λM2 A2 eb WW X9=>?_⟩;exact⟨M2,.refl,q M2 A2 (c1.after (e:=.rings i (x::ps')) ⟨Yd,hps⟩ eb WW X9) (Xc.trans WW)⟩
def MH:Fq P w K mg base 4 a.aZ (Nf a):=by
 refine fq G.aZ.toDG xA (λr u=>⟨_,(pz (pO 3 xA (qb v0 G.c.toCls G.Q (yO G) r (ql U2)))
 (pz (pO 4 xA (qc (qB uN Z' G.I uL (ql (pG (pK (pG v0) U3)))) (pQ (ql (pG (pK (pG v0) U1))))))
 (pA (pR (qb v0 G.c.toCls G.k (qU G) r (ql (pQ (pY pD (rk U1 U3 v4))))))))),?_⟩)
 rintro ds M Q ⟨M0,b,A,V,l,c,n,i,z,rfl,cu,hc,hn,hi,⟨j,k,ej,ek,Xt,X1⟩,q⟩
 have hz:=dN;have ei:V.calls[i]?=Fa V.calls[i]:=cS hi;generalize V.calls[i]=ci at ei;obtain⟨ka,qi⟩:=cu.call ei;obtain⟨kb,qj⟩:=cu.call ek;obtain⟨ad,md,h1,h2,h3,h4,_⟩:=qi.cell;obtain⟨ad',md',g1,g2,g3,g4,_⟩:=qj.cell;have ZF:sD l V i (.breaks z)=[.merge i j (k.ms++[ci.cr])]:=by unfold sD;dsimp only;rw[ej,ei];dsimp only;rw[ek];rfl
 rw[ZF]at q;have ok:(Ev.merge i j (k.ms++[ci.cr])).ok V:=⟨hi,(cU.mp ek).1,Xt,by rw[cT,X1];show 3<=100;decide⟩;refine pB cu.at_ ⟨Z',_,⟨Z',Z'⟩,A,V,z,by rw[cu.b],cu.bd,dY cu.sz.ca hc,?_⟩;rw[show AJ V z=.int (j:Nat)from by unfold AJ;rw[ej];rfl];refine pB cu.at_ (i' Z' (i' Z' (i' cu.bd.ca (i' (rc qj.e1) (pB g1 (i' Z' (i' g4 ?_)))))));refine pB cu.at_ (i' Z' (i' Z' (i' cu.bd.ca (i' (rc qi.e1) (pB h1 (i' Z' ⟨pk Z',?_⟩))))));refine⟨(by intro y;rw[List.map_eq_nil_iff]at y;rw[y]at X1;cases X1),(by rw[cQ,X1];show 2+1<=Ch;lia),?_⟩;rw[show k.ms.map D.str++[D.str ci.cr]=(k.ms++[ci.cr]).map D.str by rw[dB];rfl];refine pB cu.at_ ⟨Z',_,⟨Z',Z'⟩,pk Z',b,A,V,.merge i j (k.ms++[ci.cr]),Z',cu.b,cu.bd,cu.lim hc (by lia),ok,λM2 A2 eb WW X9=>?_⟩;exact⟨M2,.refl,q M2 A2 ((cu.after ok eb WW X9).mono (cZ _) (by lia)) WW⟩
def Pb:Fq P w K mg base 5 a.a0 (IZ a):=by
 refine fq G.a0.toDG xO (λr u=>⟨_,(pz (pO 3 xO (pK U2 pC))
 (pA (pS (pH u U3 pD)
 (pA (pR (pN (LO G) r G.aY (pY v0 (rk U1 (pK U2 pC) (pK U2 pC))))))
 (pA (pS (pH u U3 pD)
 (pA (pR (qb v0 G.c.toCls G.k (qU G) r (ql (pQ (rk pD U1 (pK U2 pC)))))))
 (pA (pS (pH u U3 pD)
 (pA (pR (pN (MH G) r G.aZ (rk v0 U1 (pK U2 pC)))))
 (pA (pR (qb v0 G.c.toCls G.k (qU G) r (ql (pQ (rk pD U1 U3))))))))))))),?_⟩)
 rintro ds M Q ⟨M0,b,A,V,l,c,n,i,e,rfl,cu,hc,hn,hi,he,q⟩
 have one:∀(ev:Ev) (ok:ev.ok V),ev.nw=0->sD l V i e=[ev]->∀M2 A2,A2.b=A.b->qR A M A2 M2->pP a M2 A2 (pX V ev)->∃WA,qG WA M2/\Q .mL WA:=λev ok h0 h1 M2 A2 eb WW X9=>by rw[h1]at q;have c2:=cu.after ok eb WW X9;rw[h0]at c2;exact⟨M2,.refl,q M2 A2 (c2.mono (cZ _) (by lia)) WW⟩
 cases e with
 | rings z ps=>exact⟨M0,b,A,V,l,c,n,i,z,ps,Z',cu,hc,hn,hi,he.1,he.2.1,he.2.2.1,he.2.2.2,λM' A' c1 st=>⟨M',.refl,q M' A' c1 st⟩⟩
 | waits z=>exact pB cu.at_ ⟨Z',_,⟨Z',Z'⟩,pk Z',b,A,V,.waits i z,Z',cu.b,cu.bd,cu.lim hc (by lia),hi,one (.waits i z) hi Z' Z'⟩
 | breaks z=>exact⟨M0,b,A,V,l,c,n,i,z,Z',cu,hc,hn,hi,he,λM' A' c1 st=>⟨M',.refl,q M' A' c1 st⟩⟩
 | engaged z=>exact pB cu.at_ ⟨Z',_,⟨Z',Z'⟩,pk Z',b,A,V,.over i "engaged",Z',cu.b,cu.bd,cu.lim hc (by lia),hi,one (.over i "engaged") hi Z' Z'⟩
 | barred=>exact pB cu.at_ ⟨Z',_,⟨Z',Z'⟩,pk Z',b,A,V,.over i "barred",Z',cu.b,cu.bd,cu.lim hc (by lia),hi,one (.over i "barred") hi Z' Z'⟩
 | ring ns=>exact pB cu.at_ ⟨Z',_,⟨Z',Z'⟩,pk Z',b,A,V,.over i "ring",Z',cu.b,cu.bd,cu.lim hc (by lia),hi,one (.over i "ring") hi Z' Z'⟩
def Hl{V:qp}{i:Nat}{k:pE}{e:vB}(ok:rf l)(wf:zy l V (Fa i))(hk:V.calls[i]?=Fa k)(h:FY l V k.cr e):GX l V i e:=by
 cases e with
 | rings z ps=>obtain⟨hz,WR,rfl⟩:=h;have h1:=(G0 (l:=l) (V:=V) (c:=k.cr) (z:=z));have h2:=(ok.of hz).1.2.1;exact⟨hz,WR,λx hx=>(h1.1 x hx).2,by have:=h1.2;lia⟩
 | breaks z=>
  obtain⟨x,rfl,hb⟩:=h;obtain⟨j,d,e1,e2,e3,e4,e5,_⟩:=F5 hb;refine⟨j,d,e1,e2,λy=>?_,e5⟩;subst y;rw[hk]at e2;cases e2;have sh:=(wf.ok i k hk).sh;rw[show(Fa i==Fa i)=pc from eQ _]at sh;rcases sh with g|g
  .rw[g.1]at e3;exact absurd e3 (by decide)
  .cases g.1
 | _=>trivial
def Jj:Fq P w K mg base 9 a.ab (NU a):=by
 refine fq G.ab.toDG wm (λr u=>⟨_,(pz (pO 2 wm (pK (pG v0) U1))
 (pz (pO 3 wm (pN (Lz G) r G.aR (pY v0 (rk (pG U2) (pK (pG U2) (uQ pC)) (rC (pG U2) sC (rR (uQ pC)))))))
 (pz (pO 4 wm (pK U3 pC))
 (pz (pO 5 wm (pK U3 pC))
 (pz (pR (pN (Qa G) r G.aX (rk v0 U1 v5)))
 (pz (pS (W3.b3 (wH (pH u (pK v4 pC) pD) (vF (pH u (pV qw Z' G.g qo (ql v5)) pC))))
 (pz (pO 6 wm (pK (pK v5 (uQ pC)) pC))
 (pA (pR (qb v0 G.c.toCls G.k (qU G) r (ql (pQ (pY pD (pY U1 (rk v6 (pK (pK v4 pC) pC) v6)))))))))
 pL)
 (pA (pR (pN (Pb G) r G.a0 (rk v0 U1 v4)))))))))),?_⟩)
 rintro ds M Q ⟨M0,b,A,V,l,c,n,i,k,rfl,cu,hc,hn,wf,hk,q⟩
 obtain⟨ka,ci⟩:=cu.call hk;obtain⟨ad,md,h1,h2,h3,h4,n1,n2⟩:=ci.cell;have W4:=wf.ok i k hk;have hi:=(cU.mp hk).1;obtain⟨z,hz⟩:∃z,k.way.getLast?=Fa z:=by
  cases e:k.way.getLast? with
  | none=>exact absurd (ft.mp e) W4.wy.1
  | some z=>exact⟨z,Z'⟩
 have XB:z∈l.nm:=W4.wy.2 z (gp hz);have hdn:∀x∈k.way.dropLast,x∈l.nm:=λx hx=>W4.wy.2 x (gq _ hx);have hwl:=(cu.sz.cs k (qY hk)).1;have hev:vN l V i=qT i Db (tq l V k.cr z k.way.dropLast).2++(tG i (tq l V k.cr z k.way.dropLast).2 (tq l V k.cr z k.way.dropLast).1++sD l V i (tq l V k.cr z k.way.dropLast).1):=by
  unfold vN;rw[hk];have:k.way.getLastD Str.empty=z:=by rw[fN,hz];rfl
  dsimp only[Option.elim];rw[this]
 rw[hev]at q;have ro:xc l V k.cr (l.nm.length+1) [] (tq l V k.cr z k.way.dropLast):=xG cu.ok _ _ _ _ XB hdn;have rl:=ro.len;have eo:=Hl cu.ok wf hk ro.e;have nl:l.nm.length<=11:=by have p8:=cu.ok.p8;have g3:=cu.ok.g3;unfold pJ.nm pJ.pn pJ.gn;rw[cT,cQ,cQ];lia
 have re:=ro.e;refine S0 (t:=Gb _ _) (λU M'=>M=M'/\U=[Fa (.ref b),Fa (.int ((i:Nat):Int)),Fa (.ref ka.p),Db,Db,Db,Db]) (λnx0 h=>pB cu.at_ (i' Z' (i' Z' (i' ci.bd.ca (i' (rc ci.e1) (h _ _ ⟨Z',Z'⟩)))))) ?_
 rintro U _ ⟨rfl,rfl⟩
 refine S0 (t:=Gb _ _) (λU M'=>qG M M'/\∃r,M r=Db/\oC M' r=Fa (rA (tq l V k.cr z k.way.dropLast).2)/\U=[Fa (.ref b),Fa (.int ((i:Nat):Int)),Fa (.ref ka.p),Fa (.tup [(tq l V k.cr z k.way.dropLast).1.d,.ref r]),Db,Db,Db]) (λnx0 h=>?_) ?_
 .refine pB h1 (i' Z' (pB h1 (i' Z' (i' h2 (i' (Oj hz) (pB h1 (i' Z' (i' h2 λp hp=>?_))))))));rw[show L3.tM (k.way.map D.str) Db (Fa (-1:Int))=k.way.dropLast.map D.str from(zJ _).trans (iC).symm];have t:=qG.new (c:=.lst (k.way.dropLast.map D.str)) hp;have lp:=@pM M p (k.way.dropLast.map D.str);refine⟨A,V,l,k.cr,z,p,k.way.dropLast,by rw[cu.b],(cu.rd hc wf).sub t,XB,wf.nx,lp,by rw[gK];lia,λr M' s hr lr=>?_⟩;exact h _ _ ⟨t.trans s,r,t.none hr,lr,Z'⟩
 rintro U M1 ⟨s1,r,hr,lr,rfl⟩
 generalize tq l V k.cr z k.way.dropLast=R at lr ro rl eo re q;obtain⟨e,st⟩:=R;have cu1:=cu.sub s1;have rl:st.length<=0+(l.nm.length+1):=rl;refine⟨M0,b,A,V,l,c,n,i,st,r,Z',cu1,hc,by lia,by lia,hi,lr,cu.bd.nP hr,λM2 A2 c2 WW=>?_⟩;have same:=vw i st Db V;have XI:i<(qH V (qT i Db st)).calls.length:=by rw[same.len];exact hi
 have Zd:oC M2 r=Fa (rA st):=sS (WW.1 r _ (cu.bd.nP hr) (qm lr));rw[rL,rL]at q;have ZF:=λV' (h:tO V V')=>h.ends (l:=l) i e;have hat:∀V',tO V V'->GX l V' i e:=λV' h=>by
  cases e with
  | breaks z'=>obtain⟨j,d,a1,a2,a3,a4⟩:=eo;obtain⟨d',b1,b2⟩:=h.at_ a2;exact⟨j,d',by rw[h.nE];exact a1,b1,a3,by rw[show d'.ms=d.ms from show d'.bare.ms=d.bare.ms by rw[b2]];exact a4⟩
  | rings _ _=>exact eo
  | _=>trivial
 generalize qH V (qT i Db st)=V2 at c2 XI same q;have W9:∀(M3:Mp) (A3:tW) (V3:qp),uy a M0 M3 b A3 V3 l c (n+2*st.length+1)->qR A M A3 M3->tO V V3->i<V3.calls.length->V3=qH V2 (tG i st e)->IZ a [.ref b,.int ((i:Nat):Int),e.d] M3 λ_ M'=>∃WA,qG WA M'/\Q .mL WA:=λM3 A3 V3 c3 s3 XC hi3 e3=>⟨M0,b,A3,V3,l,c,_,i,e,Z',c3,hc,by lia,hi3,hat V3 XC,λM4 A4 c4 s4=>⟨M4,.refl,q M4 A4 (by
  rw[<-e3];rw[ZF V3 XC]at c4;exact c4.mono (cZ _) (by lia)) (s3.trans s4)⟩⟩
 have c2':=c2.mono (cZ c) (show n+2*st.length<=n+2*st.length+1 by lia);have XU:=(qR.sub s1 (A:=A)).trans WW;cases e with
 | ring ns=>
  obtain⟨x,ns',rfl⟩:=fZ (show ns≠[]from re);refine i' Zd ?_;cases hl:st.getLast? with
  | none=>have:st=[]:=ft.mp hl;subst this;exact W9 M2 A2 V2 c2' XU same XI Z'
  | some s0=>
   have X7:0<st.length:=by cases st with|nil=>cases hl|cons _ _=>exact mz _
   have hd:decide ((0:Int)<((rA st).length:Int))=pc:=dP (by unfold rA;rw[cQ];lia);refine zH (c:=decide ((0:Int)<((rA st).length:Int))) hd ?_;have hat1:vA (rA st) (-1)=Fa (.tup [.str s0.1,xW s0.2]):=by
    unfold vA;have e1:E8 (rA st).length (-1)=Fa (st.length - 1):=by unfold rA;rw[cQ];unfold E8;simp;lia
    rw[e1];show(rA st)[st.length - 1]?=_;unfold rA;rw[dq,<-im,hl];rfl
   have hrv:tG i st (.ring (x::ns'))=[.mT ⟨i,s0.1,x,s0.1⟩]:=by unfold tG;dsimp only;rw[hl];rfl
   rw[hrv]at W9;refine i' Zd (i' hat1 ?_);refine pB c2.at_ ⟨Z',_,⟨Z',Z'⟩,i' (wx _ _) ⟨pk Z',b,A2,V2,.mT ⟨i,s0.1,x,s0.1⟩,Z',c2.b,c2.bd,c2.lim hc (by lia),XI,λM3 A3 eb Xq bd3=>?_⟩⟩;have XC:=same.trans (zF V2 ⟨i,s0.1,x,s0.1⟩);exact W9 M3 A3 _ (c2.after (e:=.mT ⟨i,s0.1,x,s0.1⟩) XI eb Xq bd3) (XU.trans Xq) XC (by rw[XC.len];exact hi) Z'
 | rings z' ps=>exact W9 M2 A2 V2 c2' XU same XI Z'
 | waits z'=>exact W9 M2 A2 V2 c2' XU same XI Z'
 | breaks z'=>exact W9 M2 A2 V2 c2' XU same XI Z'
 | engaged z'=>exact W9 M2 A2 V2 c2' XU same XI Z'
 | barred=>exact W9 M2 A2 V2 c2' XU same XI Z'
def My:Fq P w K mg base 10 a.a1 (MT a):=by
 refine fq G.a1.toDG zi (λr u=>⟨_,(pz (pO 3 zi (pV qw Z' G.g qo (ql (pG v0))))
 (pz (pR (qb v0 G.c.toCls G.k (qU G) r (ql (pQ (rk pD U3 U1)))))
 (pz (pR (qb v0 G.c.toCls G.k (qU G) r (ql (pQ (pY pD (pY U3 (rk U1 U2 U1)))))))
 (pA (pR (pN (Jj G) r G.ab (r6 v0 U3))))))),?_⟩)
 rintro ds M Q ⟨M0,b,A,V,l,c,n,y,z,rfl,cu,hc,hn,wf,q⟩
 have lc:((A.cs.map λk=>D.ref k.p).length:Int)=(V.calls.length:Nat):=by rw[cQ,cu.bd.len]
 refine pB cu.at_ (i' Z' (i' cu.bd.ca ?_));rw[lc];refine pB cu.at_ ⟨Z',_,⟨Z',Z'⟩,pk Z',b,A,V,.new V.calls.length y,Z',cu.b,cu.bd,cu.lim (by lia) (by lia),trivial,λM1 A1 eb1 Xc bd1=>?_⟩;have c1:=cu.after (e:=.new V.calls.length y) trivial eb1 Xc bd1;have ok2:(Ev.mT ⟨V.calls.length,y,z,y⟩).ok (pX V (.new V.calls.length y)):=by show V.calls.length<(V.calls++[vZ y]).length;rw[cT];exact fB _
 refine pB c1.at_ ⟨Z',_,⟨Z',Z'⟩,pk Z',b,A1,_,.mT ⟨V.calls.length,y,z,y⟩,Z',c1.b,c1.bd,c1.lim (by show c+1<=_;lia) (by lia),ok2,λM2 A2 eb2 WW X9=>?_⟩;have c2:=c1.after ok2 eb2 WW X9;obtain⟨k,hk⟩:∃k,(qH V [.new V.calls.length y,.mT ⟨V.calls.length,y,z,y⟩]).calls[V.calls.length]?=Fa k:=by
  have:V.calls.length<(qH V [.new V.calls.length y,.mT ⟨V.calls.length,y,z,y⟩]).calls.length:=by show V.calls.length<((V.calls++[vZ y]).modify _ _).length;rw[fA];exact ok2
  exact⟨_,cS this⟩
 refine⟨M0,b,A2,_,l,c+1,n+2,V.calls.length,k,Z',c2,by lia,by lia,wf,hk,λM3 A3 c3 Xq=>⟨M3,.refl,q M3 A3 ?_ (Xc.trans (WW.trans Xq))⟩⟩;unfold EM;rw[rL];exact c3.mono (cZ _) (by lia)
def Ed(V:qp)(x:Str):D:=Gk (uB V x)
abbrev Dx:=JO Ed
def KO(a:Ad):rj:=λds M Q=>FT λA V l x z=>ds=[.ref A.b,.str x,.str z]/\Rd a M A V l/\x∈l.pn/\Q (Gk (F9 l V x z)) M
inductive vL(a:Ad)(M:Mp)(L:QXQ):List rN->List pE->Prop
 | nil:vL a M L [] []
 | cons (k:rN) (c:pE) (ks:List rN) (cs:List pE) (h:rX a M L k c) (r:vL a M L ks cs):vL a M L (k::ks) (c::cs)
def uf.nf(w:Str)(m:Nat):Prop:=((w="answer"\/w="hang"\/w="hold"\/w="back")/\m=1)\/((w="hand"\/w="join")/\m=2)
def Nl(a:Ad):rj:=λds M Q=>JE λwd x r L ks cs=>ds=[.str wd,.str x,.ref r]/\oC M r=Fa (List.map (λk:rN=>D.ref k.p) ks)/\vL a M L ks cs/\uf.nf wd cs.length/\Q (.bl (ID wd x cs)) M
def Iq(a:Ad):rj:=λds M Q=>JE λA V l wd x ns=>ds=[.ref A.b,.str wd,.str x,.tup (List.map D.int ns)]/\Rd a M A V l/\x∈l.pn/\uf.nf wd ns.length/\Q (Gk (Mr l V wd x ns)) M
def SM(a:Ad):rj:=λds M Q=>BE λA V b i=>ds=[.ref A.b,.str (S7 b),.int i]/\pP a M A V/\Q (Gk (PU V b i)) M
def Ic(a:Ad):rj:=λds M Q=>BE λA V l e=>ds=[.ref A.b,uf.d e]/\Rd a M A V l/\e.nv/\Q (Gk (xp l V e)) M
def V8(m:Nat):D->D
 | .int i=>.bl (zr m i)
 | _=>.bl lf
noncomputable def Wb(A:tW):D->D
 | .int i=>(A.cs[i.toNat]?).elim .mL λk=>.ref k.p
 | _=>.mL
theorem Qw{V:qp}(bd:pP a M A V):∀{ns:T0 Int},ns.all (zr V.calls.length)=pc->∃ks,vL a M (A.lists++V.fo) ks (tN V ns)/\(ns.map D.int).map (Wb A)=ks.map (λk:rN=>D.ref k.p)/\(tN V ns).length=ns.length/\∀i∈ns,∃k,0<=i/\A.cs[i.toNat]?=Fa k
 | [],_=>⟨[],.nil,Z',Z',λi hi=>by cases hi⟩
 | i::r,h=>by
  rw[gv,dQ]at h;obtain⟨ks,h1,h2,h3,h4⟩:=Qw bd h.2;have hh:(decide (0<=i)&&decide (i<V.calls.length))=pc:=h.1;rw[dQ,eA,eA]at hh;have hi:i.toNat<V.calls.length:=by lia
  have hk:i.toNat<A.cs.length:=by rw[bd.len];exact hi
  have e1:A.cs[i.toNat]?=Fa A.cs[i.toNat]:=cS hk;have e2:V.calls[i.toNat]?=Fa V.calls[i.toNat]:=cS hi;have ec:tN V (i::r)=V.calls[i.toNat]::tN V r:=by unfold tN;rw[List.filterMap_cons_some (f:=λi:Int=>V.calls[i.toNat]?) e2]
  rw[ec];refine⟨A.cs[i.toNat]::ks,.cons _ _ _ _ (bd.cs _ _ _ e1 e2) h1,?_,eJ Nat.succ h3,λj hj=>?_⟩
  .rw[dW,dW,h2];show(A.cs[i.toNat]?).elim _ _::_=_;rw[e1];rfl
  .rcases de.mp hj with rfl|hj
   .exact⟨_,hh.1,e1⟩
   .exact h4 j hj
def vL.sub(h:vL a M L ks cs)(s:qG M M'):vL a M' L ks cs:=by
 induction h with
 | nil=>exact .nil
 | cons k c ks cs h r ih=>exact .cons k c ks cs (h.sub s) ih
def QQ{bs:T0 Bool}{i:Int}(h:zr bs.length i=pc):vA (bs.map D.bl) i=Fa (.bl (bs.getD i.toNat lf)):=by
 have hh:(decide (0<=i)&&decide (i<bs.length))=pc:=h;rw[dQ,eA,eA]at hh;obtain⟨n,rfl⟩:=d6 hh.1;have hn:n<bs.length:=by lia
 refine ub ?_;rw[dq,cS hn];show Fa (D.bl bs[n])=Fa (.bl (bs.getD n lf));rw[gD,cS hn];rfl
def DH:Fq P w K mg base 4 a.aa (Dx a):=by
 refine fq G.aa.toDG yH (λr u=>⟨_,(pz (pS (pH u (qb v0 G.c.toCls G.bC (Mt G) r (ql U1)) se)
 (pA (pF pD))
 pL)
 (pz (pS (pH u (qb v0 G.c.toCls G.bD (HX G) r (ql U1)) se)
 (pA (pF pD))
 pL)
 (pA (pF se)))),?_⟩)
 rintro ds M Q ⟨A,V,x,rfl,bd,hk,q⟩
 unfold Ed uB at q;refine pB bd.at_ ⟨Z',_,⟨Z',Z'⟩,A,V,x,Z',bd,hk,?_⟩;unfold LK;cases e:FK V x with
 | some j=>rw[e]at q;exact⟨M,.refl,q⟩
 | none=>
  rw[e]at q;refine pB bd.at_ ⟨Z',_,⟨Z',Z'⟩,A,V,x,Z',bd,hk,?_⟩;unfold TL;cases e:Js V x with
  | some j=>rw[e]at q;exact⟨M,.refl,q⟩
  | none=>rw[e]at q;exact⟨M,.refl,q⟩
def Nx:Fq P w K mg base 5 a.aS (KO a):=by
 refine fq G.aS.toDG wC (λr u=>⟨_,(pz (pS (pH u U2 (yr (pG v0) G.h.toCls G.bx (C1 G) r))
 (pA (pF pD))
 pL)
 (pz (pO 3 wC (pN (DH G) r G.aa (r6 v0 U1)))
 (pz (pS (W3.b3 (wH (pH u U3 se) (vF (wO (uV (qb v0 G.c.toCls G.S (yQ G) r (ql U1)))))))
 (pA (pF pD))
 pL)
 (pA (pF U3))))),?_⟩)
 rintro ds M Q ⟨A,V,l,x,z,rfl,rd,hx,q⟩
 obtain⟨ph,gr,ws,X8,pr,gd,rs,i1,_⟩:=rd.pl;have p8:=rd.ok.p8;have g3:=rd.ok.g3;unfold F9 at q;refine pB rd.bd.at_ (i' Z' (pB i1 ⟨Z',_,⟨Z',Z'⟩,V.p,l,Z',rd.pl,by lia,by lia,λp hp=>i' pM ⟨Z',qu _,?_⟩⟩));have t:=qG.new (c:=.lst (l.nm.map D.str)) hp;have W2:=rd.sub t;generalize pI M p (.lst (l.nm.map D.str))=M1 at t W2 ⊢;show if (!(inD (.str z) (l.nm.map D.str)))=pc then _ else _
 rw[qW];refine qJ (c:=!(hasS l.nm z)) (λg=>?_) (λg=>?_)
 .rw[cX (by simpa using g)]at q;exact⟨M,t,q⟩
 rw[cV (by simpa using g)]at q;refine⟨A,V,x,Z',W2.bd,W2.k,?_⟩;unfold Ed;cases e:uB V x with
 | some w0=>rw[e]at q;exact⟨M,t,q⟩
 | none=>
  rw[e]at q;refine pB W2.bd.at_ ⟨Z',_,⟨Z',Z'⟩,A,V,l,x,Z',W2,hx,?_⟩;refine qJ (c:=!(tU l V x)) (λg=>?_) (λg=>?_)
  .rw[g]at q;exact⟨M,t,q⟩
  .rw[show(!(tU l V x))=lf from dD.mpr g]at q;exact⟨M,t,q⟩
def LA:Fq P w K mg base 3 a.aT (Nl a):=by
 refine fq G.aT.toDG Mh (λr u=>⟨_,(pz (pS (pH u v0 pD)
 (pA (pF (qa u U1 (pG (pK U2 pC)))))
 pL)
 (pz (pS (pH u v0 pD)
 (pA (pF (qb (pK U2 pC) G.e.toCls G.bG (Nu G) r (ql U1))))
 pL)
 (pz (pS (pH u v0 pD)
 (pA (pF (qb (pK U2 pC) G.e.toCls G.au (G7 G) r (ql U1))))
 pL)
 (pz (pS (pH u v0 pD)
 (pA (pF (qa u (pG (pK U2 pC)) U1)))
 pL)
 (pA (pF (sI (qa u (pG (pK U2 pC)) U1) (sf (qb (pK U2 pC) G.e.toCls G.au (G7 G) r (ql U1)))))))))),?_⟩)
 rintro ds M Q ⟨wd,x,r,L,ks,cs,rfl,lr,Y1,hw,q⟩
 cases Y1 with
 | nil=>rcases hw with⟨_,h⟩|⟨_,h⟩<;>cases h
 | cons k c ks cs hc Xi=>
 obtain⟨ad,md,h1,h2,h3,h4,_⟩:=id hc;have a0:=wx (.ref k.p) (ks.map λk:rN=>D.ref k.p);have hold:∀K:DK,K (.bl (c.hd==Fa x)) M->Option.elim (yk M 9 (Gk c.hd) (.str x)) False λb=>K (.bl b) M:=λK hK=>by
  cases e:c.hd with
  | none=>rw[e]at hK;exact hK
  | some y=>rw[e]at hK;exact hK
 rcases hw with⟨rfl|rfl|rfl|rfl,h⟩|⟨hw,h⟩
 .exact i' lr (i' a0 (pB h1 (i' Z' (DB h3 ⟨M,.refl,q⟩))))
 .exact i' lr (i' a0 (pB h1 ⟨Z',_,⟨Z',Z'⟩,L,k,c,x,Z',hc,M,.refl,q⟩))
 .exact i' lr (i' a0 (pB h1 ⟨Z',_,⟨Z',Z'⟩,L,k,c,x,Z',hc,M,.refl,q⟩))
 .exact i' lr (i' a0 (pB h1 (i' Z' (hold _ ⟨M,.refl,q⟩))))
 .cases Xi with
  | nil=>cases h
  | cons k' d ks cs hd _=>
   obtain⟨ad',md',f1,_⟩:=id hd;have a1:vA (.ref k.p::.ref k'.p::ks.map λk:rN=>D.ref k.p) 1=Fa (.ref k'.p):=ub (j:=1) Z';have qq:Q (.bl ((c.hd==Fa x)&&d.mV x)) M:=by
    rcases hw with rfl|rfl
    .exact q
    .exact q
   rcases hw with rfl|rfl
   all_goals
    refine i' lr (i' a0 (pB h1 (i' Z' ?_)));cases e:c.hd with
    | none=>rw[e]at qq;exact⟨M,.refl,qq⟩
    | some y=>
     rw[e]at qq;have qq:Q (.bl ((y==x)&&d.mV x)) M:=qq;refine qJ (c:=y==x) (λg=>?_) (λg=>?_)
     .rw[g,eF]at qq;exact i' lr (i' a1 (pB f1 ⟨Z',_,⟨Z',Z'⟩,L,k',d,x,Z',hd,M,.refl,qq⟩))
     .rw[show(y==x)=lf from dD.mpr g,eL]at qq;exact⟨M,.refl,qq⟩
def Oe:Fq P w K mg base 5 a.aU (Iq a):=by
 refine fq G.aU.toDG tR (λr u=>⟨_,(pz (pS (wO (uV (pV (Fh Z') Z' G.bO Ep (ql (qI Z' (xu (ix:=[Db,Fa 0]) (N':=["number","board"])) (qC U3) (qA 0) rS (ut u pC v0 (pV qw Z' G.g qo (ql (pG U1)))))))))
 (pA (pF pD))
 pL)
 (pz (tj (i:=4) tR.nd Z' (Or.inl Z') Z' (xu (ix:=[Db,Fa 0]) (N':=["number","board"])) (qC U3) (qA 0) rS (pK (pG U1) v0))
 (pz (pS (wO (uV (pN (LA G) r G.aT (rk U1 U2 v4))))
 (pA (pF pD))
 pL)
 (pz (pS (pH u U1 (pQ (r6 pD pD)))
 (pA (pF se))
 pL)
 (pz (pO 5 tR (pN (DH G) r G.aa (r6 v0 U2)))
 (pz (pS (W3.b3 (wH (pH u v5 se) (wH (uV (qb (pK v4 pC) G.e.toCls G.aq (GS G) r (ql U2))) (vF (wO (uV (qb v0 G.c.toCls G.S (yQ G) r (ql U2))))))))
 (pA (pF pD))
 pL)
 (pA (pF v5)))))))),?_⟩)
 rintro ds M Q ⟨A,V,l,wd,x,ns,rfl,rd,hx,hw,q⟩
 have hz:=dN;have Zg:ns.length<=2:=by rcases hw with⟨_,h⟩|⟨_,h⟩<;>lia
 have lca:((A.cs.map λk=>D.ref k.p).length:Int)=V.calls.length:=by rw[cQ,rd.bd.len]
 unfold Mr at q;refine qV (f:=V8 V.calls.length) trivial _ [] _ (by rw[cQ];simp only[dF];lia) (λd hd k hk=>?_) λp hp=>?_
 .obtain⟨i,_,rfl⟩:=dw.mp hd;have hk:k (.bl (decide (0<=i)&&decide (i<V.calls.length))) M:=hk;refine qJ (c:=decide (0<=i)) (λg=>?_) (λg=>?_)
  .rw[g,eF]at hk;refine pB rd.bd.at_ (i' Z' (i' rd.bd.ca ?_));rw[lca];exact hk
  .rw[show decide (0<=i)=lf from dD.mpr g,eL]at hk;exact hk
 have em:[]++(ns.map D.int).map (V8 V.calls.length)=ns.map λi=>D.bl (zr V.calls.length i):=by rw[dX,dZ];rfl
 rw[em];have t:=qG.new (c:=.lst (ns.map λi=>D.bl (zr V.calls.length i))) hp;refine i' pM (i' (yg (zr V.calls.length) ns) ?_);have W2:=rd.sub t;generalize pI M p (.lst (ns.map λi=>D.bl (zr V.calls.length i)))=M1 at t W2 ⊢;rw[zA];refine qJ (c:=!(ns.all (zr V.calls.length))) (λg=>?_) (λXe=>?_)
 .rw[cX (by simpa using g)]at q;exact⟨M,t,q⟩
 have Xe:ns.all (zr V.calls.length)=pc:=by simpa using Xe
 rw[cV (by rw[Xe];exact Bool.noConfusion)]at q;obtain⟨ks,hks,eks,lcs,Yu⟩:=Qw W2.bd Xe;refine qV (f:=Wb A) trivial _ [] _ (by rw[cQ];simp only[dF];lia) (λd hd k0 hk=>?_) λp2 WH=>?_
 .obtain⟨i,hi,rfl⟩:=dw.mp hd;obtain⟨k,i0,e1⟩:=Yu i hi;obtain⟨n,rfl⟩:=d6 i0;have e1:A.cs[n]?=Fa k:=e1;have hk:k0 ((A.cs[n]?).elim .mL λk=>.ref k.p) M1:=hk;rw[e1]at hk;exact pB W2.bd.at_ (i' Z' (i' Z' (i' W2.bd.ca (i' (rc e1) hk))))
 rw[dX,eks];obtain⟨M2,e0,t2,l2⟩:=vX (ds:=ks.map λk:rN=>D.ref k.p) WH;rw[<-e0];have YW:=W2.sub t2;have s2:=t.trans t2;have hks:=hks.sub t2;generalize tN V ns=cs at hks lcs q;refine⟨wd,x,p2,_,ks,cs,Z',l2,hks,by rw[lcs];exact hw,?_⟩;refine qJ (c:=!ID wd x cs) (λg=>?_) (λg=>?_)
 .rw[cX (by simpa using g)]at q;exact⟨M,s2,q⟩
 rw[cV (by simpa using g)]at q;have two:∀wd:Str,(wd=="answer"||wd=="back")=pc->Q (Gk (if ((uB V x).isNone&&(cs.head?.elim lf (λc=>c.mM x)&&!(tU l V x)))=pc then Fa "full" else uB V x)) M->cs.length=1->Dx a [.ref A.b,.str x] M2 λdue M3=>uz (Sa (Pz (b3 (k3 .Is (v3 5) (c3 .mL))) (Pz (b3 (AB "waits_with" (λD s=>D=a.e/\s=vQ a) (i3 (v3 4) (c3 (.int 0))) (uS (v3 2) xk))) (Uq (b3 (AB "is_free" (λD s=>D=a.c/\s=xn a) (v3 0) (uS (v3 2) xk)))))) (On (c3 (.str "full"))) We) (On (v3 5)) {nx:=λ_ M'=>∃WA,qG WA M'/\Q .mL WA,rt:=λd M'=>∃WA,qG WA M'/\Q d WA} [Fa (.ref A.b),Fa (.str wd),Fa (.str x),Fa (.tup (ns.map D.int)),Fa (.ref p2),Fa due] M3:=λwd _ q hl=>by
  cases hks with
  | nil=>cases hl
  | cons k c ks cs hc _=>
  have q:Q (Gk (if ((uB V x).isNone&&(c.mM x&&!(tU l V x)))=pc then Fa "full" else uB V x)) M:=q;obtain⟨ad,md,h1,_⟩:=id hc;refine⟨A,V,x,Z',YW.bd,YW.k,?_⟩;unfold Ed;cases e:uB V x with
  | some w0=>rw[e]at q;exact⟨M,s2,q⟩
  | none=>
   rw[e]at q;refine i' l2 (i' (wx _ _) (pB h1 ⟨Z',_,⟨Z',Z'⟩,_,k,c,x,Z',hc,?_⟩));refine qJ (c:=c.mM x) (λg1=>?_) (λg1=>?_)
   .rw[g1]at q;refine pB YW.bd.at_ ⟨Z',_,⟨Z',Z'⟩,A,V,l,x,Z',YW,hx,?_⟩;refine qJ (c:=!(tU l V x)) (λg=>?_) (λg=>?_)
    .rw[g]at q;exact⟨M,s2,q⟩
    .rw[show(!(tU l V x))=lf from dD.mpr g]at q;exact⟨M,s2,q⟩
   .rw[show c.mM x=lf from dD.mpr g1]at q;exact⟨M,s2,q⟩
 rcases hw with⟨rfl|rfl|rfl|rfl,h⟩|⟨rfl|rfl,h⟩
 .exact⟨pk Z',Z',Z',two "answer" Z' q (lcs.trans h)⟩
 .exact⟨pk Z',Z',Z',M,s2,q⟩
 .exact⟨pk Z',Z',Z',M,s2,q⟩
 .exact⟨pk Z',Z',Z',two "back" Z' q (lcs.trans h)⟩
 .exact⟨pk Z',Z',Z',M,s2,q⟩
 .exact⟨pk Z',Z',Z',M,s2,q⟩
def Q1:Fq P w K mg base 1 a.aV (SM a):=by
 refine fq G.aV.toDG yE (λr u=>⟨_,(pz (pS (wO (Gc u pC U2 (pV qw Z' G.g qo (ql (pG v0)))))
 (pA (pF pD))
 pL)
 (pz (pS (pH u (pK (pG v0) U2) (qa u U1 pD))
 (pA (pF pD))
 pL)
 (pA (pF se)))),?_⟩)
 rintro ds M Q ⟨A,V,b,i,rfl,bd,q⟩
 unfold PU at q;have Yu:zr V.on.length i=(decide (0<=i)&&decide (i<V.on.length)):=rfl;have lon:((V.on.map D.bl).length:Int)=V.on.length:=by rw[cQ]
 have no:zr V.on.length i=lf->Q (.str "wish") M:=λh=>by rw[cX h]at q;exact q
 have yes:zr V.on.length i=pc->Q (Gk (if (V.on.getD i.toNat lf==b)=pc then Fa "wish" else Db)) M:=λh=>by rw[h,cV Bool.noConfusion]at q;exact q
 refine qJ (c:=decide (0<=i)) (λg0=>?_) (λg0=>⟨M,.refl,no (by rw[Yu,show decide (0<=i)=lf from dD.mpr g0];rfl)⟩);refine pB bd.at_ (i' Z' (i' bd.on ?_));rw[lon];refine qJ (c:=!(decide (i<(V.on.length:Int)))) (λg1=>⟨M,.refl,no (by rw[Yu,g0,show decide (i<(V.on.length:Int))=lf by simpa using g1];rfl)⟩) (λg1=>?_);have h:zr V.on.length i=pc:=by rw[Yu,g0,show decide (i<(V.on.length:Int))=pc by simpa using g1];rfl
 have q:=yes h;refine pB bd.at_ (i' Z' (i' Z' (i' bd.on (i' (QQ h) ?_))));have es:(S7 b=="on")=b:=by cases b<;>rfl
 show if (V.on.getD i.toNat lf==(S7 b=="on"))=pc then _ else _
 rw[es];refine qJ (λg=>?_) (λg=>?_)
 .rw[cX g]at q;exact⟨M,.refl,q⟩
 .rw[cV g]at q;exact⟨M,.refl,q⟩
def HR:Fq P w K mg base 6 a.aW (Ic a):=by
 refine fq G.aW.toDG Cu (λr u=>⟨_,(pz (pO 2 Cu (pK U1 pC))
 (pz (pS (pH u U2 pD)
 (pA (pF se))
 pL)
 (pz (pS (pH u U2 (pQ (r6 pD pD)))
 (pA (pF (pN (Q1 G) r G.aV (rk v0 U2 (pK U1 pC)))))
 pL)
 (pz (pS (pH u (pK U1 pC) (yr (pG v0) G.h.toCls G.R (tQ G) r))
 (pA (pF pD))
 pL)
 (pz (pS (pH u U2 pD)
 (pA (pF (pN (Nx G) r G.aS (rk v0 (pK U1 pC) (pK U1 pC)))))
 pL)
 (pA (pF (pN (Oe G) r G.aU (pY v0 (rk U2 (pK U1 pC) (rC U1 (rR pC) sC))))))))))),?_⟩)
 rintro ds M Q ⟨A,V,l,e,rfl,rd,hf,q⟩
 obtain⟨ph,gr,ws,X8,pr,gd,rs,i1,_⟩:=rd.pl;have p8:=rd.ok.p8;cases e with
 | turn=>exact⟨M,.refl,q⟩
 | sw b i=>
  cases b with
  | true=>exact⟨pk Z',Z',Z',A,V,pc,i,Z',rd.bd,M,.refl,q⟩
  | false=>exact⟨pk Z',Z',Z',A,V,lf,i,Z',rd.bd,M,.refl,q⟩
 | call x z=>
  have q:Q (Gk (if hasS l.pn x=lf then Fa "name" else F9 l V x z)) M:=q;refine⟨pk Z',Z',Z',?_⟩;refine pB rd.bd.at_ (i' Z' (pB i1 ⟨Z',_,⟨Z',Z'⟩,V.p,l,Z',rd.pl,by lia,λp WH=>i' pM ⟨Z',qu _,?_⟩⟩));have t:=qG.new (c:=.lst (l.pn.map D.str)) WH;have W2:=rd.sub t;generalize pI M p (.lst (l.pn.map D.str))=M1 at t W2 ⊢;show if (!(inD (.str x) (l.pn.map D.str)))=pc then _ else _
  rw[qW];refine qJ (c:=!(hasS l.pn x)) (λg=>?_) (λg=>?_)
  .rw[cX (by simpa using g)]at q;exact⟨M,t,q⟩
  .have g:hasS l.pn x=pc:=by simpa using g
   rw[g,cV Bool.noConfusion]at q;exact⟨A,V,l,x,z,Z',W2,qz.mp g,M,t,q⟩
 | num wd x ns=>
  have q:Q (Gk (if hasS l.pn x=lf then Fa "name" else Mr l V wd x ns)) M:=q;have hf:uf.nf wd ns.length:=hf;have key:∀(M1:Mp),qG M M1->if (!(inD (.str x) (l.pn.map D.str)))=pc then(∃WA,qG WA M1/\Q (.str "name") WA)else Iq a [.ref A.b,.str wd,.str x,.tup (ns.map D.int)] M1 λd M'=>∃WA,qG WA M'/\Q d WA:=λM1 t=>by
   rw[qW];refine qJ (c:=!(hasS l.pn x)) (λg=>?_) (λg=>?_)
   .rw[cX (by simpa using g)]at q;exact⟨M,t,q⟩
   .have g:hasS l.pn x=pc:=by simpa using g
    rw[g,cV Bool.noConfusion]at q;exact⟨A,V,l,wd,x,ns,Z',rd.sub t,qz.mp g,hf,M,t,q⟩
  have one:ns.length=1->∃i,ns=[i]:=List.length_eq_one_iff.mp;have two:ns.length=2->∃i j,ns=[i,j]:=λh=>by
   match ns,h with
   | [i,j],_=>exact⟨i,j,Z'⟩
  rcases id hf with⟨rfl|rfl|rfl|rfl,h⟩|⟨rfl|rfl,h⟩
  .obtain⟨i,rfl⟩:=one h;exact⟨pk Z',Z',Z',pB rd.bd.at_ (i' Z' (pB i1 ⟨Z',_,⟨Z',Z'⟩,V.p,l,Z',rd.pl,by lia,λp WH=>i' pM ⟨Z',qu _,key _ (.new WH)⟩⟩))⟩
  .obtain⟨i,rfl⟩:=one h;exact⟨pk Z',Z',Z',pB rd.bd.at_ (i' Z' (pB i1 ⟨Z',_,⟨Z',Z'⟩,V.p,l,Z',rd.pl,by lia,λp WH=>i' pM ⟨Z',qu _,key _ (.new WH)⟩⟩))⟩
  .obtain⟨i,rfl⟩:=one h;exact⟨pk Z',Z',Z',pB rd.bd.at_ (i' Z' (pB i1 ⟨Z',_,⟨Z',Z'⟩,V.p,l,Z',rd.pl,by lia,λp WH=>i' pM ⟨Z',qu _,key _ (.new WH)⟩⟩))⟩
  .obtain⟨i,rfl⟩:=one h;exact⟨pk Z',Z',Z',pB rd.bd.at_ (i' Z' (pB i1 ⟨Z',_,⟨Z',Z'⟩,V.p,l,Z',rd.pl,by lia,λp WH=>i' pM ⟨Z',qu _,key _ (.new WH)⟩⟩))⟩
  .obtain⟨i,j,rfl⟩:=two h;exact⟨pk Z',Z',Z',pB rd.bd.at_ (i' Z' (pB i1 ⟨Z',_,⟨Z',Z'⟩,V.p,l,Z',rd.pl,by lia,λp WH=>i' pM ⟨Z',qu _,key _ (.new WH)⟩⟩))⟩
  .obtain⟨i,j,rfl⟩:=two h;exact⟨pk Z',Z',Z',pB rd.bd.at_ (i' Z' (pB i1 ⟨Z',_,⟨Z',Z'⟩,V.p,l,Z',rd.pl,by lia,λp WH=>i' pM ⟨Z',qu _,key _ (.new WH)⟩⟩))⟩
def CT(V:qp)(x:Str):Prop:=∀c∈V.calls,¬Bh c x
def FJ{V:qp}(h:uB V x=Db):CT V x:=by
 unfold uB at h;cases e1:FK V x with
 | some j=>rw[e1]at h;cases h
 | none=>
  cases e2:Js V x with
  | some j=>rw[e1,e2]at h;cases h
  | none=>
   intro c hc g;have h1:=jA.mp e1 c hc;have h2:=jA.mp e2 c hc;rcases g with g|g
   .rw[h1]at g;cases g
   .rw[h2]at g;cases g
def sJ{c:pE}(h:c.st="rings"){x:Str}:Bh c x↔x=c.cr:=by unfold Bh pE.m8 pE.mR pE.mS;rw[h];simp(decide:=true)
def DC{c:pE}(h:c.st="waits"){x:Str}:Bh c x↔x=c.cr:=by unfold Bh pE.m8 pE.mR pE.mS;rw[h];simp(decide:=true)
def tK{c:pE}(h:c.st="talks"){x:Str}:Bh c x↔x∈c.ms:=by unfold Bh pE.m8 pE.mR pE.mS;rw[h,<-qz];simp(decide:=true)
def Bz{c:pE}(h:c.st="held"){x:Str}:Bh c x↔x∈c.ms/\c.hd≠Fa x:=by unfold Bh pE.m8 pE.mR;rw[h,<-qz];simp(decide:=true)
def Gd{c:pE}(h:c.st="over"){x:Str}:¬Bh c x:=by unfold Bh pE.m8 pE.mR pE.mS;rw[h];simp(decide:=true)
def sP{c:pE}(h:c.st="rings"){x:Str}:c.hasB x=pc↔x=c.cr\/x∈c.at_:=by unfold pE.hasB;rw[h,<-qz];simp(decide:=true)
def DM{c:pE}(h:c.st="waits"){x:Str}:c.hasB x=pc↔x=c.cr:=by unfold pE.hasB;rw[h];simp(decide:=true)
def sT{c:pE}(h:c.st="talks"\/c.st="held"){x:Str}:c.hasB x=pc↔x∈c.ms:=by unfold pE.hasB;rw[<-qz];rcases h with h|h<;>(rw[h];simp(decide:=true))
def F8{c:pE}(h:c.st="over"){x:Str}:c.hasB x=lf:=by unfold pE.hasB;rw[h];simp(decide:=true)
def sj{c:pE}{x:Str}:c.mM x=pc↔c.st="waits"/\x∈c.at_:=by unfold pE.mM;rw[dQ,fg,qz]
theorem Ex{α:Type}(f:α->Bool):∀{l:List α} {i:Nat} {c:α} (c':α),l[i]?=Fa c->((l.set i c').filter f).length+(if f c=pc then 1 else 0)=(l.filter f).length+(if f c'=pc then 1 else 0)
 | [],_,_,_,h=>by simp at h
 | x::r,0,c,c',h=>by cases h;rw[List.set_cons_zero,gP,gP];split<;>split<;>simp
 | x::r,i+1,c,c',h=>by
  have ih:=Ex f (l:=r) (i:=i) (c:=c) c' (by simpa using h);rw[lq,gP,gP];split
  .rw[dS,dS];lia
  .exact ih
def zy.set{V V':qp}{o o':Option Nat}{i:Nat}{c c':pE}(h:zy l V o)(e:V'.calls=V.calls.set i c')(hc:V.calls[i]?=Fa c)(ho:∀j,j≠i->(o==Fa j)=(o'==Fa j))(ok:uU l (o'==Fa i) c')(he:∀x,Bh c' x->Bh c x\/CT V x)(hu:∀x,c'.hasB x=pc->c.hasB x=pc\/(uZ V x:Int)<wZ l x)(hw:∀x,c'.mM x=pc->c.mM x=pc\/AF V x=lf)(nx:uu l V'):zy l V' o':=by
 have si:∀{j:Nat} {d:pE},V'.calls[j]?=Fa d->(j=i/\d=c')\/(j≠i/\V.calls[j]?=Fa d):=λ{j d} g=>by rw[e]at g;exact(Eg g).imp (λg=>⟨g.1,g.2.1⟩) id
 have key:∀(j:Nat) cj x,j≠i->V.calls[j]?=Fa cj->Bh c' x->Bh cj x->False:=λj cj x hj e1 g1 g2=>by
  rcases he x g1 with z|z
  .exact hj (h.un j i cj c x e1 hc g2 z)
  .exact z cj (qY e1) g2
 have keyw:∀(j:Nat) cj x,j≠i->V.calls[j]?=Fa cj->c'.mM x=pc->cj.mM x=pc->False:=λj cj x hj e1 g1 g2=>by
  rcases hw x g1 with z|z
  .exact hj (h.wt j i cj c x e1 hc g2 z)
  .unfold AF at z;exact absurd g2 (by rw[lA.mp z cj (qY e1)|>dD.mpr];exact Bool.noConfusion)
 refine⟨λj d g=>?_,λm n cm cn x e1 e2 g1 g2=>?_,λx hx=>?_,λm n cm cn x e1 e2 g1 g2=>?_,nx⟩
 .rcases si g with⟨rfl,rfl⟩|⟨hj,g⟩
  .exact ok
  .rw[<-ho j hj];exact h.ok j d g
 .rcases si e1 with⟨rfl,rfl⟩|⟨hm,e1⟩<;>rcases si e2 with⟨rfl,rfl⟩|⟨hn,e2⟩
  .rfl
  .exact(key n cn x hn e2 g1 g2).elim
  .exact(key m cm x hm e1 g2 g1).elim
  .exact h.un m n cm cn x e1 e2 g1 g2
 .have cs:=Ex (λk:pE=>k.hasB x) c' hc;have hl:=h.ln x hx;unfold uZ at hl ⊢;rw[e];by_cases g:c'.hasB x=pc
  .rw[cX g]at cs;rcases hu x g with z|z
   .rw[cX z]at cs;lia
   .unfold uZ at z;lia
  .rw[cV g]at cs;lia
 .rcases si e1 with⟨rfl,rfl⟩|⟨hm,e1⟩<;>rcases si e2 with⟨rfl,rfl⟩|⟨hn,e2⟩
  .rfl
  .exact(keyw n cn x hn e2 g1 g2).elim
  .exact(keyw m cm x hm e1 g2 g1).elim
  .exact h.wt m n cm cn x e1 e2 g1 g2
def zy.add{V V':qp}{c':pE}(h:WF l V)(e:V'.calls=V.calls++[c'])(ok:uU l pc c')(he:∀x,Bh c' x->CT V x)(hu:∀x,c'.hasB x=pc->(uZ V x:Int)<wZ l x)(hw:∀x,c'.mM x=lf)(nx:uu l V'):zy l V' (Fa V.calls.length):=by
 have si:∀{j:Nat} {d:pE},V'.calls[j]?=Fa d->(j=V.calls.length/\d=c')\/(j≠V.calls.length/\V.calls[j]?=Fa d):=λ{j d} g=>by
  rw[e]at g;by_cases z:j<V.calls.length
  .rw[eW z]at g;exact .inr ⟨by lia,g⟩
  .have:=(cU.mp g).1;rw[cT,dM]at this;have z:j=V.calls.length:=by lia
   subst z;rw[eE (cZ _)]at g;simp only[gm,iA,jt]at g;exact .inl ⟨Z',g.symm⟩
 refine⟨λj d g=>?_,λm n cm cn x e1 e2 g1 g2=>?_,λx hx=>?_,λm n cm cn x e1 e2 g1 g2=>?_,nx⟩
 .rcases si g with⟨rfl,rfl⟩|⟨hj,g⟩
  .rw[eQ];exact ok
  .rw[show(Fa V.calls.length==Fa j)=lf by simpa using dG hj];exact h.ok j d g
 .rcases si e1 with⟨rfl,rfl⟩|⟨hm,e1⟩<;>rcases si e2 with⟨rfl,rfl⟩|⟨hn,e2⟩
  .rfl
  .exact(he x g1 cn (qY e2) g2).elim
  .exact(he x g2 cm (qY e1) g1).elim
  .exact h.un m n cm cn x e1 e2 g1 g2
 .have hl:=h.ln x hx;unfold uZ at hl ⊢;rw[e,hJ,cT,gP];split
  .rename_i g;have:=hu x g;unfold uZ at this;simp only[hU,dM];lia
  .simp only[hU,dF];lia
 .rcases si e1 with⟨rfl,rfl⟩|⟨hm,e1⟩<;>rcases si e2 with⟨rfl,rfl⟩|⟨hn,e2⟩
  .rfl
  .rw[hw x]at g1;cases g1
  .rw[hw x]at g2;cases g2
  .exact h.wt m n cm cn x e1 e2 g1 g2
noncomputable def pE.core(c:pE):pE:={c with way:=[],si:=0}
def zd(V V':qp):Prop:=V'.calls.map pE.core=V.calls.map pE.core
def zd.at_{V V':qp}(h:zd V V'){i:Nat}{c':pE}(e:V'.calls[i]?=Fa c'):∃c,V.calls[i]?=Fa c/\c'.core=c.core:=by
 have:=eJ (·[i]?) h;simp only[dq,e]at this;cases e':V.calls[i]? with
 | none=>rw[e']at this;cases this
 | some c=>rw[e']at this;exact⟨c,Z',cY this⟩
def zd.used{V V':qp}(h:zd V V')(x:Str):uZ V' x=uZ V x:=by
 have key:∀cs:List pE,(cs.filter (·.hasB x)).length=((cs.map pE.core).filter (·.hasB x)).length:=λcs=>by rw[g9,cQ];rfl
 unfold uZ;rw[key,h,<-key]
def zd.wf{V V':qp}{o:Option Nat}(h:zd V V')(wf:zy l V o)(hw:∀(i:Nat) c',V'.calls[i]?=Fa c'->c'.way≠[]/\∀z∈c'.way,z∈l.nm)(nx:uu l V'):zy l V' o:=by
 refine⟨λi c' e=>?_,λi j ci cj x e1 e2 g1 g2=>?_,λx hx=>by rw[h.used];exact wf.ln x hx,λi j ci cj x e1 e2 g1 g2=>?_,nx⟩
 .obtain⟨c,ec,ee⟩:=h.at_ e;have k:=wf.ok i c ec;have k1:c'.at_=c.at_:=show c'.core.at_=c.core.at_ by rw[ee]
  have k2:c'.ms=c.ms:=show c'.core.ms=c.core.ms by rw[ee]
  have k3:c'.cr=c.cr:=show c'.core.cr=c.core.cr by rw[ee]
  exact⟨by show Qs _ c'.core;rw[ee];exact k.sh,by rw[k3];exact k.cr,by rw[k1];exact k.at_,by rw[k2];exact k.ms,by rw[k1];exact k.an,by rw[k2];exact k.mn,by rw[k1,k3];exact k.ca,hw i c' e⟩
 .obtain⟨di,a1,a2⟩:=h.at_ e1;obtain⟨dj,b1,b2⟩:=h.at_ e2;exact wf.un i j di dj x a1 b1 (by show Bh di.core x;rw[<-a2];exact g1) (by show Bh dj.core x;rw[<-b2];exact g2)
 .obtain⟨di,a1,a2⟩:=h.at_ e1;obtain⟨dj,b1,b2⟩:=h.at_ e2;exact wf.wt i j di dj x a1 b1 (by show di.core.mM x=pc;rw[<-a2];exact g1) (by show dj.core.mM x=pc;rw[<-b2];exact g2)
def tO.core{V V':qp}(h:tO V V'):zd V V':=by have:=eJ (List.map pE.core) h;rw[dZ,dZ]at this;exact this
def JY(V:qp):zd V (pX V .turn):=by show(V.calls.map pE.tick).map pE.core=V.calls.map pE.core;rw[dZ];refine gS λc _=>?_;show(pE.tick c).core=c.core;unfold pE.tick;split<;>rfl
def Bi{V:qp}(wf:WF l V):WF l (pX V .turn):=(JY V).wf wf (λi c' e=>by
 have e:(V.calls.map pE.tick)[i]?=Fa c':=e;rw[dq]at e;cases q:V.calls[i]? with
 | none=>rw[q]at e;cases e
 | some c=>
  rw[q]at e;have e:c.tick=c':=cY e;have hw:c.tick.way=c.way:=by unfold pE.tick;split<;>rfl
  rw[<-e,hw];exact(wf.ok i c q).wy) wf.nx
def T8{V:qp}{b:Bool}{i:Nat}(wf:WF l V):WF l (pX V (.sw b i)):=⟨wf.ok,wf.un,wf.ln,wf.wt,wf.nx⟩
def Fy{V:qp}{o:Option Nat}{i:Nat}{z:Str}{ns:T0 Nat}(wf:zy l V o):zy l (pX V (.asks i z ns)) o:=⟨wf.ok,wf.un,wf.ln,wf.wt,wf.nx⟩
def HE{V:qp}{o:Option Nat}{v:rW}(wf:zy l V o)(hz:v.g∈l.nm):zy l (pX V (.mT v)) o:=(zF V v).core.wf wf (λi c' e=>by
 have e:(V.calls.modify v.i (·.go v.g))[i]?=Fa c':=e;rw[gu]at e;cases q:V.calls[i]? with
 | none=>rw[q]at e;cases e
 | some c=>
  rw[q]at e;have k:=(wf.ok i c q).wy;have e:(if v.i=i then c.go v.g else c)=c':=cY e;by_cases g:v.i=i
  .rw[cX g]at e;rw[<-e];refine⟨by show c.way++[v.g]≠[];simp,λz hz'=>?_⟩;rcases dR.mp (show z∈c.way++[v.g]from hz')with y|y
   .exact k.2 z y
   .rw[df.mp y];exact hz
  .rw[cV g]at e;rw[<-show c=c' from e];exact k) wf.nx
theorem BD{o:Option Nat}(i:Nat):∀(st:sd) (q:Option Str) {V:qp},zy l V o->(∀s∈st,s.1∈l.nm)->zy l (qH V (qT i q st)) o
 | [],_,V,wf,_=>wf
 | (y,gs)::r,Db,V,wf,h=>BD i r (Fa y) (Fy wf) λs hs=>h s (dz _ hs)
 | (y,gs)::r,Fa u,V,wf,h=>BD i r (Fa y) (Fy (HE wf (h _ dI))) λs hs=>h s (dz _ hs)
def rE{V:qp}{i:Nat}{c:pE}{f:pE->pE}(h:V.calls[i]?=Fa c):(xH V i f).calls=V.calls.set i (f c):=by unfold xH;rw[tL h]
def Bx{i:Nat}:∀j,j≠i->((Fa i:Option Nat)==Fa j)=((Db:Option Nat)==Fa j):=λj hj=>by rw[show((Fa i:Option Nat)==Fa j)=lf by simpa using dG hj];rfl
def TF{V:qp}{i:Nat}{c:pE}(wf:zy l V (Fa i))(hc:V.calls[i]?=Fa c):c.st="rings"/\c.ms=[]/\c.hd=Db/\c.wd=Db/\c.at_=[]:=by
 have sh:=(wf.ok i c hc).sh;rw[eQ]at sh;rcases sh with g|g
 .exact⟨g.1,g.2.1,g.2.2.1,g.2.2.2.1,g.2.2.2.2.1 Z'⟩
 .cases g.1
def Qf{c:pE}{o:Bool}{w:Str}(k:uU l o c)(hw:w∈Mj):uU l lf (c.over w):=⟨.inr ⟨Z',.inr (.inr (.inr ⟨Z',Z',Z',Z',w,hw,Z'⟩))⟩,k.cr,(λx hx=>by cases hx),(λx hx=>by cases hx),dU,dU,(λhx=>by cases hx),k.wy⟩
def wV{V V':qp}{o:Option Nat}{i:Nat}{c:pE}{w:Str}(wf:zy l V o)(hc:V.calls[i]?=Fa c)(ho:o=Db\/o=Fa i)(hw:w∈Mj)(e:V'.calls=V.calls.set i (c.over w))(nx:uu l V'):WF l V':=
 wf.set e hc (λj hj=>by rcases ho with rfl|rfl;rfl;exact Bx j hj) (Qf (wf.ok i c hc) hw) (λx g=>(Gd Z' g).elim) (λx g=>by rw[F8 (c:=c.over w) Z']at g;cases g) (λx g=>by have:=(sj.mp g).1;exact absurd this (show("over":Str)≠"waits" by decide)) nx
def Ib{l:pJ}{V:qp}{c z:Str}(h:(l.mF z).Nodup):(xR l V c z).Nodup:=by
 unfold xR;split
 .cases(uY (l.mF z) (zv V z)).filter λx=>hasS (uo l V c z) x with
  | nil=>exact dU
  | cons y r=>exact dH.mpr ⟨dA,dU⟩
 .exact h.sublist fW
def Lq(ps:T0 (Str×Int))(z:Str)(n:Int)(y:Str):(Cq ps z n).find? (λp=>decide (p.1=y))=if y=z then Fa (z,n)else ps.find? λp=>decide (p.1=y):=by
 unfold Cq;by_cases h:ps.any (λp=>decide (p.1=z))=pc
 .rw[cX h];induction ps with
  | nil=>cases h
  | cons p r ih=>
   rw[dW,fF,fF];by_cases hp:p.1=z
   .rw[cX hp];by_cases hy:y=z
    .rw[cX hy,hy];simp[hp]
    .rw[cV hy];have n1:decide (p.1=y)=lf:=eO (λq=>hy (q.symm.trans hp));simp only[n1];by_cases hr:r.any (λp=>decide (p.1=z))=pc
     .have:=ih hr;rw[cV hy]at this;exact this
     .have hr:∀q∈r,¬q.1=z:=λq hq g=>hr (gy.mpr ⟨q,hq,dP g⟩);rw[show r.map (λp=>if p.1=z then(p.1,n)else p)=r from(gS λq hq=>cV (hr q hq)).trans (je _)]
   .rw[cV hp];have hr:r.any (λp=>decide (p.1=z))=pc:=by
     rw[fY,gZ]at h;rcases h with g|g
     .exact absurd (fL g) hp
     .exact g
    have ih:=ih hr;by_cases hy:y=z
    .rw[cX hy]at ih ⊢;have n1:decide (p.1=y)=lf:=eO (λq=>hp (q.trans hy));simp only[n1];exact ih
    .rw[cV hy]at ih ⊢;cases decide (p.1=y)with
     | true=>rfl
     | false=>exact ih
 .rw[cV h,List.find?_append];have hr:∀q∈ps,¬q.1=z:=λq hq g=>h (gy.mpr ⟨q,hq,dP g⟩);by_cases hy:y=z
  .subst hy;rw[cX Z',hG.mpr λq hq=>by simpa using hr q hq,Option.none_or];simp
  .rw[cV hy,fF,eO (λq:z=y=>hy q.symm)];simp
def K1{V:qp}{z:Str}{n:Int}(h:uu l V)(h0:0<=n)(h1:n<=((l.mF z).length:Int)):uu l (pX V (.next z n)):=λy hy ht=>by
 show ∃v,(Cq V.ps z n).find? _=Fa v/\_;rw[Lq];by_cases e:y=z
 .subst e;rw[cX Z'];exact⟨_,Z',h0,h1⟩
 .rw[cV e];exact h y hy ht
def EW{V:qp}(h:tU l V x=pc):(uZ V x:Int)<wZ l x:=fL h
def JI{V V':qp}{o:Option Nat}{i:Nat}{c:pE}{w x:Str}(wf:zy l V o)(hc:V.calls[i]?=Fa c)(e:V'.calls=V.calls.set i (c.over w))(hx:Bh c x):CT V' x:=λd hd g=>by
 rw[e]at hd;obtain⟨j,hj,ed⟩:=gR hd;have ej:(V.calls.set i (c.over w))[j]?=Fa d:=by rw[cS hj,ed]
 rcases Eg ej with⟨_,rfl,_⟩|⟨WR,ej⟩
 .exact Gd Z' g
 .exact WR (wf.un j i d c x ej hc g hx)
def J2{V V':qp}{i:Nat}{c:pE}{w x:Str}(hc:V.calls[i]?=Fa c)(e:V'.calls=V.calls.set i (c.over w))(hx:c.hasB x=pc):uZ V' x+1=uZ V x:=by
 have:=Ex (λk:pE=>k.hasB x) (c.over w) hc;unfold uZ;rw[e];simp only[hx,iZ,F8 (c:=c.over w) Z']at this
 simpa using this
def Gv{V V':qp}{o:Option Nat}{i j:Nat}{c d:pE}{ms:QQQ}(wf:zy l V o)(ho:o=Db\/o=Fa i)(hc:V.calls[i]?=Fa c)(hd:V.calls[j]?=Fa d)(Xt:i≠j)(e:V'.calls=(V.calls.set i (c.over "merged")).set j (d.mem ms))(nx:uu l V')(dt:d.st="talks")(m1:ms.Nodup)(m2:ms.length=2\/ms.length=3)(m3:∀x∈ms,x∈d.ms\/(Bh c x/\c.hasB x=pc))(m4:∀x∈ms,x∈l.pn):WF l V':=by
 have e1:(xH V i (·.over "merged")).calls=V.calls.set i (c.over "merged"):=rE hc;have w1:WF l (xH V i (·.over "merged")):=wV wf hc ho (by decide) e1 wf.nx;have hd1:(xH V i (·.over "merged")).calls[j]?=Fa d:=by rw[e1,eP Xt];exact hd
 have kd:=w1.ok j d hd1;have kd':d.hd=Db/\d.wd=Db/\d.at_=[]:=by
  rcases kd.sh with g|⟨_,g|g|⟨_,g⟩|g⟩
  .rw[dt]at g;exact absurd g.1 (by decide)
  .rw[dt]at g;exact absurd g.1 (by decide)
  .exact⟨g.2.2.1,g.2.2.2.1,g.2.2.2.2⟩
  .rw[dt]at g;exact absurd g.1 (by decide)
  .rw[dt]at g;exact absurd g.1 (by decide)
 refine w1.set (c':=d.mem ms) (by rw[e,e1]) hd1 (λ_ _=>rfl) ⟨.inr ⟨Z',.inr (.inl ⟨dt,m2,kd'.1,kd'.2.1,kd'.2.2⟩)⟩,kd.cr,kd.at_,m4,kd.an,m1,kd.ca,kd.wy⟩ (λx g=>?_) (λx g=>?_) (λx g=>?_) nx
 .have g:=(tK (c:=d.mem ms) dt).mp g;rcases m3 x g with y|y
  .exact .inl ((tK dt).mpr y)
  .exact .inr (JI wf hc e1 y.1)
 .have g:=(sT (c:=d.mem ms) (.inl dt)).mp g;rcases m3 x g with y|y
  .exact .inl ((sT (.inl dt)).mpr y)
  .have:=J2 hc e1 y.2;have:=wf.ln x (m4 x g);exact .inr (by lia)
 .have:=(sj.mp g).1;rw[show(d.mem ms).st="talks" from dt]at this;exact absurd this (by decide)
def Rt{V V1:qp}{i:Nat}{c:pE}{e:vB}(ok:rf l)(wf:zy l V1 (Fa i))(same:zd V V1)(hc:V1.calls[i]?=Fa c)(he:FY l V c.cr e):WF l (qH V1 (sD l V1 i e)):=by
 obtain⟨p1,p2,p3,p4,p5⟩:=TF wf hc;have k:=wf.ok i c hc;have hi:=(cU.mp hc).1;cases e with
 | rings z ps=>
  obtain⟨hz,WR,rfl⟩:=he;obtain⟨⟨q1,q2,q3,q4⟩,_⟩:=ok.of hz;obtain⟨r1,r2⟩:=G0 (l:=l) (V:=V) (c:=c.cr) (z:=z);generalize hps:xR l V c.cr z=ps at WR r1 r2;have WC:∀V2:qp,V2.calls=V1.calls->uu l V2->WF l (pX V2 (.rings i ps)):=λV2 e2 nx=>by
   have e3:(pX V2 (.rings i ps)).calls=V1.calls.set i (c.ring ps):=by show(xH (qM V2 _) i _).calls=_;rw[rE (c:=c) (by show V2.calls[i]?=_;rw[e2];exact hc)];show V2.calls.set i _=_;rw[e2]
   have free:∀x∈ps,tU l V x=pc/\x≠c.cr:=λx hx=>by have h:=(fv.mp (r1 x hx).1).2;simp only[dQ,gI]at h;exact⟨h.2,by simpa using h.1⟩
   refine wf.set e3 hc Bx ⟨.inl ⟨Z',p2,p3,p4,(λh=>by cases h),λ_=>WR⟩,k.cr,λx hx=>q4 x (r1 x hx).2,k.ms,by rw[<-hps];exact Ib q3,k.mn,λhx=>(free _ hx).2 Z',k.wy⟩ (λx g=>?_) (λx g=>?_) (λx g=>?_) nx
   .exact .inl ((sJ p1).mpr ((sJ (c:=c.ring ps) Z').mp g))
   .rcases(sP (c:=c.ring ps) Z').mp g with y|y
    .exact .inl ((sP p1).mpr (.inl y))
    .refine .inr ?_;rw[same.used];exact EW (free x y).1
   .exact absurd (sj.mp g).1 (show("rings":Str)≠"waits" by decide)
  show WF l (qH V1 ((if (l.mO z=="turns")=pc then _ else _)++[.rings i ps]));rw[rL];by_cases ht:(l.mO z=="turns")=pc
  .rw[cX ht];have lp:0<(l.mF z).length:=eV.mpr q1;refine WC _ Z' (K1 wf.nx (eR _ (by lia)) (Int.le_of_lt (eM _ (by lia))))
  .rw[cV ht];exact WC V1 Z' wf.nx
 | waits z=>
  obtain⟨hz,WR,hw⟩:=he;have e3:(pX V1 (.waits i z)).calls=V1.calls.set i (c.wait z):=rE (V:=qM V1 _) hc;have hw1:AF V1 z=lf:=by
   unfold AF at hw ⊢;have key:∀cs:List pE,cs.any (·.mM z)=(cs.map pE.core).any (·.mM z):=λcs=>by rw[jO];rfl
   rw[key,same,<-key];exact hw
  refine wf.set e3 hc Bx ⟨.inr ⟨Z',.inl ⟨Z',p2,p3,p4,Z'⟩⟩,k.cr,λx hx=>by rw[df.mp hx];exact hz,k.ms,dH.mpr ⟨dA,dU⟩,k.mn,λhx=>WR (df.mp hx).symm,k.wy⟩ (λx g=>?_) (λx g=>?_) (λx g=>?_) wf.nx
  .exact .inl ((sJ p1).mpr ((DC (c:=c.wait z) Z').mp g))
  .exact .inl ((sP p1).mpr (.inl ((DM (c:=c.wait z) Z').mp g)))
  .have:=(sj.mp g).2;rw[df.mp this];exact .inr hw1
 | breaks z=>
  obtain⟨x,rfl,hb⟩:=he;obtain⟨j,d0,t1,t2,t3,t4,t5,t6⟩:=F5 hb;have ht:vO V1 z=Fa j:=by
   rw[<-t1];unfold vO;have key:∀cs:List pE,cs.findIdx? (·.mS z)=(cs.map pE.core).findIdx? (·.mS z):=λcs=>by rw[ia];rfl
   rw[key,same,<-key]
  obtain⟨d,ed,ec⟩:∃d,V1.calls[j]?=Fa d/\d.core=d0.core:=by
   have:=eJ (·[j]?) same;simp only[dq,t2]at this;cases q:V1.calls[j]? with
   | none=>rw[q]at this;cases this
   | some d=>rw[q]at this;exact⟨d,Z',cY this⟩
  have ds:d.st="talks":=by rw[show d.st=d0.st from show d.core.st=d0.core.st by rw[ec]];exact t3
  have dm:d.ms=d0.ms:=show d.core.ms=d0.core.ms by rw[ec]
  have Xt:i≠j:=λy=>by subst y;rw[hc]at ed;cases ed;rw[p1]at ds;exact absurd ds (by decide)
  have ZF:sD l V1 i (.breaks z)=[.merge i j (d.ms++[c.cr])]:=by unfold sD;dsimp only;rw[ht,hc];dsimp only;rw[ed];rfl
  rw[ZF];have ncr:c.cr∉d.ms:=λy=>Xt (wf.un i j c d c.cr hc ed ((sJ p1).mpr Z') ((tK ds).mpr y));have kd:=wf.ok j d ed;refine Gv (V':=pX V1 (.merge i j (d.ms++[c.cr]))) (ms:=d.ms++[c.cr]) wf (.inr Z') hc ed Xt ?_ wf.nx ds ?_ (.inr ?_) (λx hx=>?_) (λx hx=>?_)
  .show(V1.calls.modify i _).modify j _=_;rw[tL hc,tL (show(V1.calls.set i _)[j]?=Fa d by rw[eP Xt];exact ed)]
  .refine fm.mpr ⟨kd.mn,dH.mpr ⟨dA,dU⟩,λx hx y hy q=>ncr ?_⟩;rw[df.mp hy]at q;rw[<-q];exact hx
  .rw[cT,dm,t5];rfl
  .rcases dR.mp hx with y|y
   .exact .inl y
   .rw[df.mp y];exact .inr ⟨(sJ p1).mpr Z',(sP p1).mpr (.inl Z')⟩
  .rcases dR.mp hx with y|y
   .exact kd.ms x y
   .rw[df.mp y];exact k.cr
 | engaged z=>exact wV (V':=pX V1 (.over i "engaged")) wf hc (.inr Z') (by decide) (rE (V:=qM V1 _) hc) wf.nx
 | barred=>exact wV (V':=pX V1 (.over i "barred")) wf hc (.inr Z') (by decide) (rE (V:=qM V1 _) hc) wf.nx
 | ring ns=>exact wV (V':=pX V1 (.over i "ring")) wf hc (.inr Z') (by decide) (rE (V:=qM V1 _) hc) wf.nx
def Qz{V:qp}{i:Nat}{k:pE}(ok:rf l)(wf:zy l V (Fa i))(hk:V.calls[i]?=Fa k):WF l (qH V (vN l V i)):=by
 have W4:=wf.ok i k hk;unfold vN;rw[hk];dsimp only[Option.elim];obtain⟨z,hz⟩:∃z,k.way.getLast?=Fa z:=by
  cases e:k.way.getLast? with
  | none=>exact absurd (ft.mp e) W4.wy.1
  | some z=>exact⟨z,Z'⟩
 rw[show k.way.getLastD Str.empty=z by rw[fN,hz];rfl];have ro:xc l V k.cr (l.nm.length+1) [] (tq l V k.cr z k.way.dropLast):=xG ok _ _ _ _ (W4.wy.2 z (gp hz)) λx hx=>W4.wy.2 x (gq _ hx);generalize tq l V k.cr z k.way.dropLast=R at ro;obtain⟨e,st⟩:=R;have snm:∀s∈st,s.1∈l.nm:=λs hs=>(ro.nm s hs).elim (λh=>by cases h) id;have w1:=BD i st Db wf snm;have Xa:=vw i st Db V;rw[rL,rL];dsimp only;have WC:∀V1:qp,zy l V1 (Fa i)->tO V V1->WF l (qH V1 (sD l V i e)):=λV1 w s=>by
  rw[<-s.ends];obtain⟨c',e1,e2⟩:=s.at_ hk;have hcr:c'.cr=k.cr:=show c'.bare.cr=k.bare.cr by rw[e2]
  exact Rt ok w s.core e1 (by rw[hcr];exact ro.e)
 cases e with
 | ring ns=>
  obtain⟨x,ns',rfl⟩:=fZ (show ns≠[]from ro.e);cases hl:st.getLast? with
  | none=>rw[show tG i st (.ring (x::ns'))=[]by unfold tG;dsimp only;rw[hl];rfl];exact WC _ w1 Xa
  | some s0=>rw[show tG i st (.ring (x::ns'))=[.mT ⟨i,s0.1,x,s0.1⟩]by unfold tG;dsimp only;rw[hl];rfl];exact WC _ (HE (v:=⟨i,s0.1,x,s0.1⟩) w1 (ro.wy _ Z' x dI)) (Xa.trans (zF _ _))
 | rings _ _=>exact WC _ w1 Xa
 | waits _=>exact WC _ w1 Xa
 | breaks _=>exact WC _ w1 Xa
 | engaged _=>exact WC _ w1 Xa
 | barred=>exact WC _ w1 Xa
def FR{V:qp}{y z:Str}(wf:WF l V)(hy:y∈l.pn)(hz:z∈l.nm)(hi:CT V y)(hf:tU l V y=pc):zy l (qH V [.new V.calls.length y,.mT ⟨V.calls.length,y,z,y⟩]) (Fa V.calls.length):=by
 have e:(qH V [.new V.calls.length y,.mT ⟨V.calls.length,y,z,y⟩]).calls=V.calls++[(vZ y).go z]:=by show(V.calls++[vZ y]).modify V.calls.length _=_;rw[tL (c:=vZ y) (by rw[eE (cZ _),gm];rfl),kl _ _ (cZ _),gm];rfl
 refine wf.add e ⟨.inl ⟨Z',Z',Z',Z',λ_=>rfl,(λh=>by cases h)⟩,hy,(λx h=>by cases h),(λx h=>by cases h),dU,dU,(λh=>by cases h),fD _ _,λx h=>by rw[df.mp h];exact hz⟩ (λx h=>?_) (λx h=>?_) (λx=>?_) wf.nx
 .rw[(sJ (c:=(vZ y).go z) Z').mp h];exact hi
 .rcases(sP (c:=(vZ y).go z) Z').mp h with g|g
  .rw[g];exact EW hf
  .cases g
 .cases q:((vZ y).go z).mM x with
  | false=>rfl
  | true=>exact absurd (sj.mp q).1 (show("rings":Str)≠"waits" by decide)
def KZ{V:qp}{y z:Str}:∃k,(qH V [.new V.calls.length y,.mT ⟨V.calls.length,y,z,y⟩]).calls[V.calls.length]?=Fa k:=by
 have:V.calls.length<(qH V [.new V.calls.length y,.mT ⟨V.calls.length,y,z,y⟩]).calls.length:=by show V.calls.length<((V.calls++[vZ y]).modify _ _).length;rw[fA,cT];exact fB _
 exact⟨_,cS this⟩
def Br{V:qp}{i:Nat}{c:pE}{x y:Str}{fs:T0 Nat}(wf:WF l V)(hc:V.calls[i]?=Fa c)(hs:c.st="rings")(hy:y∈l.nm):zy l (qH V [.asks i x fs,.quiet i,.mT ⟨i,x,y,x⟩]) (Fa i):=by
 refine HE (v:=⟨i,x,y,x⟩) ?_ hy;have k:=wf.ok i c hc;have w1:WF l (pX V (.asks i x fs)):=Fy wf;have sh:c.ms=[]/\c.hd=Db/\c.wd=Db:=by
  rcases k.sh with g|⟨_,g|g|⟨_,g⟩|g⟩
  .exact⟨g.2.1,g.2.2.1,g.2.2.2.1⟩
  all_goals(rw[hs]at g;exact absurd g.1 (by decide))
 refine w1.set (i:=i) (c:=c) (c':=c.nG) (rE (V:=qM (pX V (.asks i x fs)) _) hc) hc (λj hj=>(Bx j hj).symm) ?_ (λx g=>.inl ?_) (λx g=>.inl ?_) (λx g=>?_) wf.nx
 .rw[eQ];exact⟨.inl ⟨hs,sh.1,sh.2.1,sh.2.2,λ_=>rfl,(λh=>by cases h)⟩,k.cr,(λx h=>by cases h),k.ms,dU,k.mn,(λh=>by cases h),k.wy⟩
 .exact(sJ hs).mpr ((sJ (c:=c.nG) hs).mp g)
 .rcases(sP (c:=c.nG) hs).mp g with y|y
  .exact(sP hs).mpr (.inl y)
  .cases y
 .have:=(sj.mp g).1;rw[show c.nG.st="rings" from hs]at this;exact absurd this (by decide)
inductive UW(l:pJ)(V:qp)(i:Nat):List Nat->Prop
 | no:UW l V i []
 | on (c:pE) (k:Nat) (r:List Nat) (b:Bool) (x y:Str) (n:Int):V.calls[i]?=Fa c->c.st="rings"->l.mH[k]?=Fa (b,.silent x y n)->c.way.getLast?=Fa x->y∈l.nm->UW l V i (k::r)
def Eb{V:qp}(ok:rf l):UW l V i (yy l V i):=by
 unfold yy;cases e:V.calls[i]? with
 | none=>exact .no
 | some c=>
  dsimp only[Option.elim];by_cases hs:(c.st=="rings")=pc
  .rw[cX hs];cases q:HF l V (GB c)with
   | nil=>exact .no
   | cons k r=>
    obtain⟨⟨b,w⟩,e1,e2⟩:=EA (i:=k) (by rw[q];exact dI);cases w with
    | silent x y n=>unfold GB at e2;rw[dQ,fg]at e2;exact .on c k r b x y n e (xz hs) e1 e2.1 (BQ ok (eZ e1) (z:=Str.empty) Z')
    | _=>cases e2
  .rw[cV hs];exact .no
def yj{l:pJ}{V:qp}{i k:Nat}{r:T0 Nat}{b:Bool}{x y:Str}{n:Int}(h:l.mH[k]?=Fa (b,.silent x y n)):tI l V i (k::r)=[.asks i x (k::r),.quiet i,.mT ⟨i,x,y,x⟩]++vN l (qH V [.asks i x (k::r),.quiet i,.mT ⟨i,x,y,x⟩]) i:=by unfold tI;simp only[List.head?_cons,lU,h]
def Bp{V:qp}{i:Nat}{c:pE}{x y:Str}{fs:T0 Nat}(h:V.calls[i]?=Fa c):(qH V [.asks i x fs,.quiet i,.mT ⟨i,x,y,x⟩]).calls[i]?=Fa (c.nG.go y):=by show((V.calls.modify i pE.nG).modify i _)[i]?=_;rw[gu,gu,h];simp
def FG{V:qp}(ok:rf l)(wf:WF l V):WF l (qH V (tI l V i (yy l V i))):=by
 have d:=Eb (V:=V) (i:=i) ok;generalize yy l V i=fs at d;cases d with
 | no=>exact wf
 | on c k r b x y n hc hs hk hw hy=>rw[yj hk,rL];exact Qz ok (Br wf hc hs hy) (Bp hc)
theorem El(ok:rf l):∀(is:T0 Nat) {V:qp},WF l V->WF l (qH V (rB l is V))
 | [],_,wf=>wf
 | i::r,V,wf=>by unfold rB;rw[rL];exact El ok r (FG ok wf)
theorem DA(l:pJ)(i:Nat):∀(is:T0 Nat) (V:qp),rB l (is++[i]) V=rB l is V++tI l (qH V (rB l is V)) i (yy l (qH V (rB l is V)) i)
 | [],V=>by show tI l V i _++[]=[]++_;rw[dO];rfl
 | j::r,V=>by show tI l V j _++rB l (r++[i]) _=(tI l V j _++rB l r _)++_;rw[DA l i r,eh,show rB l (j::r) V=tI l V j (yy l V j)++rB l r (qH V (tI l V j (yy l V j)))from Z',rL]
def tS{x y:Str}:y∈rM ss x↔y∈ss/\y≠x:=by unfold rM;rw[fv,gI,gw]
theorem xY{x:Str}:∀{ss:QQQ},ss.Nodup->x∈ss->(rM ss x).length+1=ss.length
 | [],_,h=>by cases h
 | y::r,nd,h=>by
  have nd:=dH.mp nd;unfold rM;rw[gP];by_cases e:y=x
  .subst e;rw[show(!(y==y))=lf by simp,cV (by decide),kM.mpr λz hz=>by
    have:z≠y:=λq=>nd.1 (q ▸ hz)
    simpa using this]
   rfl
  .have h:x∈r:=by
    rcases de.mp h with q|q
    .exact absurd q.symm e
    .exact q
   rw[cX (by simpa using e)];have:=xY nd.2 h;unfold rM at this;rw[dS,dS,this]
def PN{V:qp}{i:Nat}{c:pE}{x:Str}(wf:WF l V)(hc:V.calls[i]?=Fa c)(hl:c.nq x=pc):WF l (qH V (va V x i)):=by
 have k:=wf.ok i c hc;unfold va;rw[hc];dsimp only[Option.elim];by_cases h1:c.mR x=pc
 .rw[cX h1];exact wV (V':=pX V (.over i "left")) wf hc (.inl Z') (by decide) (rE (V:=qM V _) hc) wf.nx
 .rw[cV h1];have e1:(pX V (.leaves i x)).calls=V.calls.set i (c.drop x):=rE (V:=qM V _) hc;by_cases h2:hasS c.at_ x=pc
  .rw[cX h2];by_cases h3:rM c.at_ x=[]
   .rw[cX h3];refine wV (V':=pX (pX V (.leaves i x)) (.over i "refused")) wf hc (.inl Z') (by decide) (w:="refused") ?_ wf.nx;have h4:(pX V (.leaves i x)).calls[i]?=Fa (c.drop x):=by rw[e1,eI (cU.mp hc).1]
    show(xH (qM (pX V (.leaves i x)) _) i _).calls=_;rw[rE (V:=qM (pX V (.leaves i x)) _) h4];show(pX V (.leaves i x)).calls.set i _=_;rw[e1,iS];rfl
   .rw[cV h3];have hs:c.st="rings"/\c.ms=[]/\c.hd=Db/\c.wd=Db:=by
     rcases k.sh with g|⟨_,g|g|⟨_,g⟩|g⟩
     .exact⟨g.1,g.2.1,g.2.2.1,g.2.2.2.1⟩
     .exfalso;have:=xY k.an (qz.mp h2);rw[g.2.2.2.2]at this;exact h3 (fQ.mp (by lia))
     .rw[g.2.2.2.2]at h2;cases h2
     .rw[g.2.2.2.2.2]at h2;cases h2
     .rw[g.2.2.2.1]at h2;cases h2
    refine wf.set (V':=pX V (.leaves i x)) (c':=c.drop x) e1 hc (λ_ _=>rfl) ⟨.inl ⟨hs.1,by show rM c.ms x=[];rw[hs.2.1];rfl,hs.2.2.1,hs.2.2.2,(λh=>by cases h),λ_=>h3⟩,k.cr,λy hy=>k.at_ y (tS.mp hy).1,λy hy=>k.ms y (tS.mp hy).1,k.an.sublist fW,k.mn.sublist fW,λhy=>k.ca (tS.mp hy).1,k.wy⟩ (λy g=>?_) (λy g=>?_) (λy g=>?_) wf.nx
    .exact .inl ((sJ hs.1).mpr ((sJ (c:=c.drop x) hs.1).mp g))
    .refine .inl ((sP hs.1).mpr (((sP (c:=c.drop x) hs.1).mp g).imp id λh=>(tS.mp h).1))
    .have:=(sj.mp g).1;rw[show(c.drop x).st="rings" from hs.1]at this;exact absurd this (by decide)
  .rw[cV h2];by_cases h3:2<c.ms.length
   .rw[cX h3];have hx:x∈c.ms:=by unfold pE.nq at hl;rw[dD.mpr h1,dD.mpr h2,fH,fH]at hl;exact qz.mp hl
    have hs:c.st="talks"/\c.ms.length=3/\c.hd=Db/\c.wd=Db/\c.at_=[]:=by
     rcases k.sh with g|⟨_,g|g|⟨_,g⟩|g⟩
     .rw[g.2.1]at h3;cases h3
     .rw[g.2.1]at h3;cases h3
     .exact⟨g.1,g.2.1.elim (λq=>by lia) id,g.2.2⟩
     .omega
     .rw[g.2.1]at h3;cases h3
    have dl:=xY k.mn hx;refine wf.set (V':=pX V (.leaves i x)) (c':=c.drop x) e1 hc (λ_ _=>rfl) ⟨.inr ⟨Z',.inr (.inl ⟨hs.1,.inl (by show(rM c.ms x).length=2;lia),hs.2.2.1,hs.2.2.2.1,by show rM c.at_ x=[];rw[hs.2.2.2.2];rfl⟩)⟩,k.cr,λy hy=>k.at_ y (tS.mp hy).1,λy hy=>k.ms y (tS.mp hy).1,k.an.sublist fW,k.mn.sublist fW,λhy=>k.ca (tS.mp hy).1,k.wy⟩ (λy g=>?_) (λy g=>?_) (λy g=>?_) wf.nx
    .exact .inl ((tK hs.1).mpr (tS.mp ((tK (c:=c.drop x) hs.1).mp g)).1)
    .exact .inl ((sT (.inl hs.1)).mpr (tS.mp ((sT (c:=c.drop x) (.inl hs.1)).mp g)).1)
    .have:=(sj.mp g).1;rw[show(c.drop x).st="talks" from hs.1]at this;exact absurd this (by decide)
   .rw[cV h3];exact wV (V':=pX V (.over i "done")) wf hc (.inl Z') (by decide) (rE (V:=qM V _) hc) wf.nx
def JT{V:qp}{i:Nat}{c:pE}(wf:WF l V)(hc:V.calls[i]?=Fa c)(hx:hasS c.at_ x=pc)(hi:CT V x)(hf:c.mM x=pc->tU l V x=pc):WF l (pX V (.talks i [c.cr,x])):=by
 have k:=wf.ok i c hc;have hx:=qz.mp hx;have WR:c.cr≠x:=λq=>k.ca (q ▸ hx);have hs:(c.st="rings"\/c.st="waits")/\c.wd=Db:=by
  rcases k.sh with g|⟨_,g|g|⟨_,g⟩|g⟩
  .exact⟨.inl g.1,g.2.2.2.1⟩
  .exact⟨.inr g.1,g.2.2.2.1⟩
  .rw[g.2.2.2.2]at hx;cases hx
  .rw[g.2.2.2.2.2]at hx;cases hx
  .rw[g.2.2.2.1]at hx;cases hx
 have ec:Bh c c.cr/\c.hasB c.cr=pc:=by
  rcases hs.1 with g|g
  .exact⟨(sJ g).mpr Z',(sP g).mpr (.inl Z')⟩
  .exact⟨(DC g).mpr Z',(DM g).mpr Z'⟩
 refine wf.set (V':=pX V (.talks i [c.cr,x])) (c':=c.nE [c.cr,x]) (rE (V:=qM V _) hc) hc (λ_ _=>rfl) ⟨.inr ⟨Z',.inr (.inl ⟨Z',.inl Z',Z',hs.2,Z'⟩)⟩,k.cr,(λy h=>by cases h),(λy h=>?_),dU,?_,(λh=>by cases h),k.wy⟩ (λy g=>?_) (λy g=>?_) (λy g=>?_) wf.nx
 .rcases de.mp h with g|g
  .rw[g];exact k.cr
  .rw[df.mp g];exact k.at_ x hx
 .exact dH.mpr ⟨λh=>WR (df.mp h),dH.mpr ⟨dA,dU⟩⟩
 .rcases de.mp ((tK (c:=c.nE [c.cr,x]) Z').mp g)with h|h
  .rw[h];exact .inl ec.1
  .rw[df.mp h];exact .inr hi
 .rcases de.mp ((sT (c:=c.nE [c.cr,x]) (.inl Z')).mp g)with h|h
  .rw[h];exact .inl ec.2
  .rw[df.mp h];rcases hs.1 with q|q
   .exact .inl ((sP q).mpr (.inr hx))
   .exact .inr (EW (hf (sj.mpr ⟨q,hx⟩)))
 .exact absurd (sj.mp g).1 (show("talks":Str)≠"waits" by decide)
def yo{c:pE}{x:Str}:c.mV x=pc↔c.st="talks"/\x∈c.ms/\c.ms.length=2:=by unfold pE.mV pE.mS;rw[dQ,dQ,fg,qz,fg,and_assoc]
def LM{c:pE}(k:uU l lf c)(h:c.st="talks"):c.hd=Db/\c.wd=Db/\c.at_=[]:=by
 rcases k.sh with g|⟨_,g|g|⟨_,g⟩|g⟩
 .rw[h]at g;exact absurd g.1 (by decide)
 .rw[h]at g;exact absurd g.1 (by decide)
 .exact g.2.2
 .rw[h]at g;exact absurd g.1 (by decide)
 .rw[h]at g;exact absurd g.1 (by decide)
def EB{c:pE}{x:Str}(k:uU l lf c)(h:c.hd=Fa x):c.st="held"/\c.ms.length=2/\x∈c.ms/\c.wd=Db/\c.at_=[]:=by
 rcases k.sh with g|⟨_,g|g|⟨y,g⟩|g⟩
 .rw[h]at g;cases g.2.2.1
 .rw[h]at g;cases g.2.2.1
 .rw[h]at g;cases g.2.2.1
 .have e:=g.2.2.1;rw[h]at e;cases e;exact⟨g.1,g.2.1,g.2.2.2⟩
 .rw[h]at g;cases g.2.2.1
def Oq{V:qp}{i:Nat}{c:pE}{x:Str}(wf:WF l V)(hc:V.calls[i]?=Fa c)(hx:c.mV x=pc):WF l (pX V (.held i x)):=by
 have k:=wf.ok i c hc;obtain⟨h1,h2,h3⟩:=yo.mp hx;obtain⟨s1,s2,s3⟩:=LM k h1;refine wf.set (V':=pX V (.held i x)) (c':=c.hold x) (rE (V:=qM V _) hc) hc (λ_ _=>rfl) ⟨.inr ⟨Z',.inr (.inr (.inl ⟨x,Z',h3,Z',h2,s2,s3⟩))⟩,k.cr,k.at_,k.ms,k.an,k.mn,k.ca,k.wy⟩ (λy g=>.inl ?_) (λy g=>.inl ?_) (λy g=>?_) wf.nx
 .exact(tK h1).mpr ((Bz (c:=c.hold x) Z').mp g).1
 .exact(sT (.inl h1)).mpr ((sT (c:=c.hold x) (.inr Z')).mp g)
 .exact absurd (sj.mp g).1 (show("held":Str)≠"waits" by decide)
def OL{V:qp}{i:Nat}{c:pE}{x:Str}(wf:WF l V)(hc:V.calls[i]?=Fa c)(hx:c.hd=Fa x)(hi:CT V x):WF l (pX V (.talks i c.ms)):=by
 have k:=wf.ok i c hc;obtain⟨h1,h2,h3,h4,h5⟩:=EB k hx;refine wf.set (V':=pX V (.talks i c.ms)) (c':=c.nE c.ms) (rE (V:=qM V _) hc) hc (λ_ _=>rfl) ⟨.inr ⟨Z',.inr (.inl ⟨Z',.inl h2,Z',h4,Z'⟩)⟩,k.cr,(λy h=>by cases h),k.ms,dU,k.mn,(λh=>by cases h),k.wy⟩ (λy g=>?_) (λy g=>.inl ?_) (λy g=>?_) wf.nx
 .have g:=(tK (c:=c.nE c.ms) Z').mp g;by_cases e:y=x
  .rw[e];exact .inr hi
  .exact .inl ((Bz h1).mpr ⟨g,λq=>e (cY (q.symm.trans hx))⟩)
 .exact(sT (.inr h1)).mpr ((sT (c:=c.nE c.ms) (.inl Z')).mp g)
 .exact absurd (sj.mp g).1 (show("talks":Str)≠"waits" by decide)
def DE{c:pE}{x:Str}(nd:c.ms.Nodup)(h2:c.ms.length=2)(hx:x∈c.ms):qy c x∈c.ms/\qy c x≠x:=by
 have dl:=xY nd hx;obtain⟨y,r,e⟩:=List.exists_cons_of_length_pos (show 0<(rM c.ms x).length by lia);have hm:y∈rM c.ms x:=by rw[e];exact dI
 unfold qy;rw[e];exact tS.mp hm
def EC{V:qp}{i j:Nat}{c d:pE}{w x:Str}(wf:WF l V)(hc:V.calls[i]?=Fa c)(hd:V.calls[j]?=Fa d)(h1:c.hd=Fa x)(h2:d.mV x=pc):i≠j/\WF l (pX V (.merge i j (if (w=="hand")=pc then[qy c x,qy d x]else[x,qy c x,qy d x]))):=by
 have k:=wf.ok i c hc;have kd:=wf.ok j d hd;obtain⟨c1,c2,c3,c4,c5⟩:=EB k h1;obtain⟨d1,d2,d3⟩:=yo.mp h2;obtain⟨a1,a2⟩:=DE k.mn c2 c3;obtain⟨b1,b2⟩:=DE kd.mn d3 d2;have Xt:i≠j:=λq=>by subst q;rw[hc]at hd;cases hd;rw[c1]at d1;exact absurd d1 (by decide)
 refine⟨Xt,?_⟩;have ea:Bh c (qy c x):=(Bz c1).mpr ⟨a1,λq=>a2 (cY (q.symm.trans h1))⟩;have ab:qy c x≠qy d x:=λq=>Xt (wf.un i j c d _ hc hd ea (by rw[q];exact(tK d1).mpr b1));generalize hms:(if (w=="hand")=pc then[qy c x,qy d x]else[x,qy c x,qy d x])=ms;have mm:∀y∈ms,y=x\/y=qy c x\/y=qy d x:=λy hy=>by
  rw[<-hms]at hy;split at hy
  .rcases de.mp hy with g|g
   .exact .inr (.inl g)
   .exact .inr (.inr (df.mp g))
  .rcases de.mp hy with g|g
   .exact .inl g
   .rcases de.mp g with g|g
    .exact .inr (.inl g)
    .exact .inr (.inr (df.mp g))
 have n2:[qy c x,qy d x].Nodup:=dH.mpr ⟨λh=>ab (df.mp h),dH.mpr ⟨dA,dU⟩⟩;refine Gv (V':=pX V (.merge i j ms)) (ms:=ms) wf (.inl Z') hc hd Xt ?_ wf.nx d1 ?_ ?_ (λy hy=>?_) (λy hy=>?_)
 .show(V.calls.modify i _).modify j _=_;rw[tL hc,tL (show(V.calls.set i _)[j]?=Fa d by rw[eP Xt];exact hd)]
 .rw[<-hms];split
  .exact n2
  .refine dH.mpr ⟨λh=>?_,n2⟩;rcases de.mp h with g|g
   .exact a2 g.symm
   .exact b2 (df.mp g).symm
 .rw[<-hms];split
  .exact .inl Z'
  .exact .inr Z'
 .rcases mm y hy with g|g|g
  .rw[g];exact .inl d2
  .rw[g];exact .inr ⟨ea,(sT (.inr c1)).mpr a1⟩
  .rw[g];exact .inl b1
 .rcases mm y hy with g|g|g
  .rw[g];exact k.ms x c3
  .rw[g];exact k.ms _ a1
  .rw[g];exact kd.ms _ b1
def QT{V:qp}{i:Int}(h:zr V.calls.length i=pc):∃c,V.calls[i.toNat]?=Fa c:=by unfold zr at h;rw[dQ,eA,eA]at h;exact⟨_,cS (by lia)⟩
def Ew{V:qp}{b:Bool}(h:(if ((uB V x).isNone&&b)=pc then Fa ("full":Str)else uB V x)=Db):uB V x=Db/\b=lf:=by
 cases e:uB V x with
 | some w=>rw[e]at h;cases h
 | none=>
  rw[e]at h;cases b with
  | true=>cases h
  | false=>exact⟨Z',Z'⟩
inductive DU(l:pJ)(V:qp)(x:Str):Str->List Int->Prop
 | answer (i:Int) (c:pE):0<=i->V.calls[i.toNat]?=Fa c->hasS c.at_ x=pc->CT V x->(c.mM x=pc->tU l V x=pc)->DU l V x "answer" [i]
 | hang (i:Int) (c:pE):0<=i->V.calls[i.toNat]?=Fa c->c.nq x=pc->DU l V x "hang" [i]
 | hold (i:Int) (c:pE):0<=i->V.calls[i.toNat]?=Fa c->c.mV x=pc->DU l V x "hold" [i]
 | back (i:Int) (c:pE):0<=i->V.calls[i.toNat]?=Fa c->c.hd=Fa x->CT V x->DU l V x "back" [i]
 | two (w:Str) (i j:Int) (c d:pE):0<=i->0<=j->w="hand"\/w="join"->V.calls[i.toNat]?=Fa c->V.calls[j.toNat]?=Fa d->c.hd=Fa x->d.mV x=pc->DU l V x w [i,j]
def Fm{V:qp}{w x:Str}(f:(uf.num w x ns).nv)(h:xp l V (.num w x ns)=Db):x∈l.pn/\DU l V x w ns:=by
 have hp:hasS l.pn x=pc:=by
  cases q:hasS l.pn x with
  | true=>rfl
  | false=>unfold xp at h;dsimp only at h;rw[cX q]at h;cases h
 refine⟨qz.mp hp,?_⟩;unfold xp at h;dsimp only at h;rw[cV (by rw[hp];decide)]at h;unfold Mr at h;cases q1:ns.all (zr V.calls.length)with
 | false=>rw[cX q1]at h;cases h
 | true=>
 rw[cV (by rw[q1];decide)]at h;cases q2:ID w x (tN V ns)with
 | false=>rw[cX q2]at h;cases h
 | true=>
 rw[cV (by rw[q2];decide)]at h;have z:∀i∈ns,0<=i/\∃c,V.calls[i.toNat]?=Fa c:=λi hi=>by have g:=eY.mp q1 i hi;refine⟨?_,QT g⟩;unfold zr at g;rw[dQ,eA]at g;exact g.1
 rcases f with⟨fw,fl⟩|⟨fw,fl⟩
 .match ns,fl with
  | [i],_=>
   obtain⟨hi,c,hc⟩:=z i dI;have ec:tN V [i]=[c]:=by unfold tN;rw[fV,hc];rfl
   rw[ec]at h q2;rcases fw with rfl|rfl|rfl|rfl
   .rw[cV (by decide)]at h;obtain⟨h1,h2⟩:=Ew h;refine .answer i c hi hc q2 (FJ h1) λhw=>?_;have h2:(c.mM x&&!(tU l V x))=lf:=h2;rw[hw]at h2
    simpa using h2
   .exact .hang i c hi hc q2
   .exact .hold i c hi hc q2
   .rw[cV (by decide)]at h;exact .back i c hi hc (xz q2) (FJ (Ew h).1)
 .match ns,fl with
  | [i,j],_=>
   obtain⟨hi,c,hc⟩:=z i dI;obtain⟨hj,d,hd⟩:=z j (dz _ dI);have ec:tN V [i,j]=[c,d]:=by unfold tN;rw[fV,hc];dsimp only;rw[fV,hd];rfl
   rw[ec]at q2;have q3:((c.hd==Fa x)&&d.mV x)=pc:=by rcases fw with rfl|rfl<;>exact q2
   rw[dQ]at q3;exact .two w i j c d hi hj fw hc hd (xz q3.1) q3.2
def Bt{V:qp}{y z:Str}(h:xp l V (.call y z)=Db):y∈l.pn/\z∈l.nm/\CT V y/\tU l V y=pc:=by
 unfold xp at h;dsimp only at h;cases q:hasS l.pn y with
 | false=>rw[cX q]at h;cases h
 | true=>
 rw[cV (by rw[q];decide)]at h;unfold F9 at h;cases q1:hasS l.nm z with
 | false=>rw[cX q1]at h;cases h
 | true=>
 rw[cV (by rw[q1];decide)]at h;obtain⟨h1,h2⟩:=Ew h;exact⟨qz.mp q,qz.mp q1,FJ h1,by simpa using h2⟩
def Te{V:qp}{b:Bool}{i:Int}(h:xp l V (.sw b i)=Db):0<=i/\i.toNat<V.on.length:=by
 unfold xp PU at h;dsimp only at h;cases q:zr V.on.length i with
 | false=>rw[cX q]at h;cases h
 | true=>unfold zr at q;rw[dQ,eA,eA]at q;lia
def xl{V:qp}{w x:Str}{i:Nat}{c:pE}(h:V.calls[i]?=Fa c):A9 V w x i=if (w=="answer")=pc then .talks i [c.cr,x]else if (w=="hold")=pc then .held i x else .talks i c.ms:=by unfold A9;rw[h];rfl
def E1{V:qp}{w x:Str}{i j:Nat}{c d:pE}(h:V.calls[i]?=Fa c)(g:V.calls[j]?=Fa d):DN V w x i j=.merge i j (if (w=="hand")=pc then[qy c x,qy d x]else[x,qy c x,qy d x]):=by unfold DN;rw[h,g];rfl
def TK{V:qp}{e:uf}(ok:rf l)(wf:WF l V)(f:e.nv)(h:xp l V e=Db):WF l (qH V (xj l V e)):=by
 cases e with
 | call y z=>obtain⟨h1,h2,h3,h4⟩:=Bt h;obtain⟨k,hk⟩:=KZ (V:=V) (y:=y) (z:=z);show WF l (qH V (_++vN l _ _));rw[rL];exact Qz ok (FR wf h1 h2 h3 h4) hk
 | turn=>exact El ok _ (Bi wf)
 | sw b i=>exact T8 wf
 | num w x ns=>
  obtain⟨_,n⟩:=Fm f h;cases n with
  | answer i c hi hc h1 h2 h3=>show WF l (pX V (A9 V "answer" x i.toNat));rw[xl hc];exact JT wf hc h1 h2 h3
  | hang i c hi hc h1=>exact PN wf hc h1
  | hold i c hi hc h1=>show WF l (pX V (A9 V "hold" x i.toNat));rw[xl hc];exact Oq wf hc h1
  | back i c hi hc h1 h2=>show WF l (pX V (A9 V "back" x i.toNat));rw[xl hc];exact OL wf hc h1 h2
  | two _ i j c d hi hj hw hc hd h1 h2=>show WF l (pX V (DN V w x i.toNat j.toNat));rw[E1 hc hd];exact(EC wf hc hd h1 h2).2
def P4(a:Ad):rj:=λds M Q=>LZ λM0 b A V l c n x i k=>ds=[.ref b,.str x,.int ((i:Nat):Int)]/\uy a M0 M b A V l c n/\c<=1000000/\n<=7000000/\V.calls[i]?=Fa k/\∀M' A',uy a M0 M' b A' (qH V (va V x i)) l c (n+2)->qR A M A' M'->Q .mL M'
def PP(a:Ad):rj:=λds M Q=>JE λA V l L k c=>ds=[.ref A.b,.ref (rN.p k)]/\Rd a M A V l/\rX a M L k c/\Q (xW (HF l V (GB c))) M
def Pv(a:Ad):rj:=λds M Q=>LZ λM0 b A V l c n i k r=>ds=[.ref b,.int ((i:Nat):Int),xW (k::r)]/\uy a M0 M b A V l c n/\c<=1000000/\n<=6900000/\WF l V/\UW l V i (k::r)/\∀M' A',uy a M0 M' b A' (qH V (tI l V i (k::r))) l c (n+33)->qR A M A' M'->Q .mL M'
def OR(a:Ad):rj:=λds M Q=>S4 λM0 b A V l c n=>ds=[.ref b]/\uy a M0 M b A V l c n/\c<=10000/\n<=6000000/\WF l V/\∀M' A',uy a M0 M' b A' (qH V (Eo l V)) l c (n+1+33*c)->qR A M A' M'->Q .mL M'
def Sj{a:Ad}{M:Mp}{c:pE}{v:Wi}{r:Uf}{Q:DK}(h:M r=Fa (.ins (v.cls a) v.nK))(hk:rX a M L k c)(q:Q (.bl (GB c v)) M):MW a v [.ref r,.ref k.p] M Q:=by
 cases v with
 | silent x y n=>exact⟨r,L,k,c,Z',h,hk,q⟩
 | _=>exact⟨_,_,Z',q⟩
def P0:Fq P w K mg base 4 a.a2 (P4 a):=by
 refine fq G.a2.toDG CH (λr u=>⟨_,(pz (pO 3 CH (pK (pG v0) U2))
 (pA (pS (uV (qb U3 G.e.toCls G.U (Ca G) r (ql U1)))
 (pA (pR (qb v0 G.c.toCls G.k (qU G) r (ql (pQ (rk pD U2 pD))))))
 (pA (pS (pH u U1 (pG U3))
 (pz (pR (qb v0 G.c.toCls G.k (qU G) r (ql (pQ (rk pD U2 U1)))))
 (pA (pS (pH u (pV qw Z' G.g qo (ql (pG U3))) pC)
 (pA (pR (qb v0 G.c.toCls G.k (qU G) r (ql (pQ (rk pD U2 pD))))))
 pL)))
 (pA (pS (pH u (pV qw Z' G.g qo (ql (pG U3))) pC)
 (pA (pR (qb v0 G.c.toCls G.k (qU G) r (ql (pQ (rk pD U2 U1))))))
 (pA (pR (qb v0 G.c.toCls G.k (qU G) r (ql (pQ (rk pD U2 pD))))))))))))),?_⟩)
 rintro ds M Q ⟨M0,b,A,V,l,cc,n,x,i,c,rfl,cu,YZ,hn,hc,q⟩
 obtain⟨ka,ci⟩:=cu.call hc;obtain⟨ad,md,h1,h2,h3,h4,n1,n2⟩:=ci.cell;have hi:=(cU.mp hc).1;refine pB cu.at_ (i' Z' (i' Z' (i' ci.bd.ca (i' (rc ci.e1) ?_))));refine pB h1 ⟨Z',_,⟨Z',Z'⟩,_,ka,c,x,Z',ci.cell,?_⟩;unfold va at q;rw[hc]at q;dsimp only[Option.elim]at q;have over:∀(w0:Str),(∀M' A',uy a M0 M' b A' (qH V [.over i w0]) l cc (n+2)->qR A M A' M'->Q .mL M')->∀(M1:Mp) (A1:tW),A1.b=A.b->qR A M A1 M1->pP a M1 A1 (pX V (.over i w0))->∃WA,qG WA M1/\Q .mL WA:=λw0 q M1 A1 eb st bd=>⟨M1,.refl,q M1 A1 ((cu.after (e:=.over i w0) hi eb st bd).mono (cZ _) (by lia)) st⟩;refine qJ (c:=c.mR x) (λg=>?_) (λg=>?_)
 .rw[cX g]at q;exact pB cu.at_ ⟨Z',_,⟨Z',Z'⟩,pk Z',b,A,V,.over i "left",Z',cu.b,cu.bd,cu.lim YZ (by lia),hi,over "left" q⟩
 rw[cV g]at q;refine pB h1 (i' Z' (i' h3 ⟨Z',qu _,?_⟩));show if inD (.str x) (c.at_.map D.str)=pc then _ else _
 rw[qW];refine qJ (c:=hasS c.at_ x) (λg2=>?_) (λg2=>?_)
 .rw[cX g2]at q;refine pB cu.at_ ⟨Z',_,⟨Z',Z'⟩,pk Z',b,A,V,.leaves i x,Z',cu.b,cu.bd,cu.lim YZ (by lia),hi,λM1 A1 eb st bd=>?_⟩;have c1:=cu.after (e:=.leaves i x) hi eb st bd;have Y1:(pX V (.leaves i x)).calls=V.calls.set i (c.drop x):=rE (V:=qM V _) hc;have hc1:(pX V (.leaves i x)).calls[i]?=Fa (c.drop x):=by rw[Y1,eI hi]
  obtain⟨ad',md',g1,YU,g3,g4,_⟩:=c1.bd.cs i ka _ (st.2.2.1 i ka ci.e1) hc1;have le0:((((c.drop x).at_.map D.str).length:Int)==0)=decide (rM c.at_ x=[]):=by rw[cQ,gk,fg,eA];show((rM c.at_ x).length:Int)=0↔_;rw[<-fQ];lia
  refine pB g1 (i' Z' (i' g3 ?_));refine qJ (c:=(((c.drop x).at_.map D.str).length:Int)==0) (λg5=>?_) (λg5=>?_)
  .rw[le0,eA]at g5;rw[cX g5]at q;have Yd:i<(pX V (.leaves i x)).calls.length:=(cU.mp hc1).1;refine pB c1.at_ ⟨Z',_,⟨Z',Z'⟩,pk Z',b,A1,_,.over i "refused",Z',c1.b,c1.bd,c1.lim YZ (by lia),Yd,λM2 A2 eb2 WW X9=>?_⟩;exact⟨M2,.refl,q M2 A2 (c1.after (e:=.over i "refused") Yd eb2 WW X9) (st.trans WW)⟩
  .rw[le0,eA]at g5;rw[cV g5]at q;exact⟨M1,.refl,q M1 A1 (c1.mono (cZ _) (by lia)) st⟩
 .rw[cV g2]at q;refine pB h1 (i' Z' (i' h4 ?_));have lm:decide ((2:Int)<((c.ms.map D.str).length:Int))=decide (2<c.ms.length):=by rw[cQ,gk,eA,eA];lia
  refine qJ (c:=decide ((2:Int)<((c.ms.map D.str).length:Int))) (λg3=>?_) (λg3=>?_)
  .rw[lm,eA]at g3;rw[cX g3]at q;refine pB cu.at_ ⟨Z',_,⟨Z',Z'⟩,pk Z',b,A,V,.leaves i x,Z',cu.b,cu.bd,cu.lim YZ (by lia),hi,λM1 A1 eb st bd=>?_⟩;exact⟨M1,.refl,q M1 A1 ((cu.after (e:=.leaves i x) hi eb st bd).mono (cZ _) (by lia)) st⟩
  .rw[lm,eA]at g3;rw[cV g3]at q;exact pB cu.at_ ⟨Z',_,⟨Z',Z'⟩,pk Z',b,A,V,.over i "done",Z',cu.b,cu.bd,cu.lim YZ (by lia),hi,over "done" q⟩
def Ow:Fq P w K mg base 2 a.a3 (PP a):=by
 refine fq G.a3.toDG yB (λr u=>⟨_,(pz (pO 2 yB (pG (pG v0)))
 (pA (pF (qB uN Z' G.I uL (ql (qI Z' (xu (ix:=[Db,Db,Fa 2,Fa 1]) (N':=["i","on","wishes","call"])) (xg Z' G.bV (ql (pG v0))) (vk (n:=2) Z' (qD (qA 0) (qD (qA 1) ud))) (uD (W3.b3 (wH (uV U1) (vF (uV (Ff (R:=GG a) (pK U2 v0) (Um G) (r.mono (by first|decide|lia)) (ql U3))))))) v0)))))),?_⟩)
 rintro ds M Q ⟨A,V,l,L,k,c,rfl,rd,hk,q⟩
 obtain⟨ph,gr,ws,X8,pr,gd,rs,i1,i2,i3,i4,i5,i6,i7,i8⟩:=rd.pl;refine pB rd.bd.at_ (i' Z' (pB i1 (i' Z' ?_)));refine pB rd.bd.at_ (i' Z' (i' rd.bd.on ?_));refine Jy (rest:=[Fa (.ref ws),Fa (.ref k.p)]) rd.on rd.ok.w16 rd.bd.on (λi w0 ew y kk hkk=>?_) λp hp=>i' pM ⟨M,.new hp,q⟩;obtain⟨r,e1,e2⟩:=Bl i8 ew;exact i' i4 (i' e1 (pB e2 ⟨by cases w0.2<;>rfl,_,⟨w0.2,Z',Z'⟩,Sj e2 hk hkk⟩))
def Pq:Fq P w K mg base 10 a.a4 (Pv a):=by
 refine fq G.a4.toDG Cg (λr u=>⟨_,(pz (pO 3 Cg (CD (R:=Me a) (pK (pG (pG v0)) (pK U2 pC)) (Sl G) (r.mono (by first|decide|lia))))
 (pz (pR (qb v0 G.c.toCls G.k (qU G) r (ql (pQ (pY pD (rk U1 (pK U3 pC) U2))))))
 (pz (pR (qb v0 G.c.toCls G.k (qU G) r (ql (pQ (r6 pD U1)))))
 (pz (pR (qb v0 G.c.toCls G.k (qU G) r (ql (pQ (pY pD (pY U1 (rk (pK U3 pC) (pK U3 pC) (pK U3 pC))))))))
 (pA (pR (pN (Jj G) r G.ab (r6 v0 U1)))))))),?_⟩)
 rintro ds M Q ⟨M0,b,A,V,l,c,n,i,k,r,rfl,cu,hc,hn,wf,du,q⟩
 obtain⟨ph,gr,ws,X8,pr,gd,rs,i1,i2,i3,i4,i5,i6,i7,i8⟩:=cu.pl;cases du with
 | on k0 _ _ b0 x y m hk hs hw hl hy=>
  have hi:=(cU.mp hk).1;rw[yj hw]at q;rw[rL]at q;obtain⟨r0,e1,e2⟩:=Bl i8 hw;refine pB cu.at_ (i' Z' (pB i1 (i' Z' (i' (wx _ _) (i' i4 (i' e1 (pB e2 ⟨Z',_,⟨⟨.silent x y m,Z'⟩,Z'⟩,r0,.silent x y m,Z',e2,?_⟩)))))));refine pB cu.at_ ⟨Z',_,⟨Z',Z'⟩,pk Z',b,A,V,.asks i x (k::r),Z',cu.b,cu.bd,cu.lim hc (by lia),trivial,λM1 A1 eb1 Xc bd1=>?_⟩;have c1:=cu.after (e:=.asks i x (k::r)) trivial eb1 Xc bd1;refine pB c1.at_ ⟨Z',_,⟨Z',Z'⟩,pk Z',b,A1,_,.quiet i,Z',c1.b,c1.bd,c1.lim hc (by lia),hi,λM2 A2 eb2 WW X9=>?_⟩;have c2:=c1.after (e:=.quiet i) hi eb2 WW X9;have XI:i<(pX (pX V (.asks i x (k::r))) (.quiet i)).calls.length:=by show i<(V.calls.modify i pE.nG).length;rw[fA];exact hi
  refine pB c2.at_ ⟨Z',_,⟨Z',Z'⟩,pk Z',b,A2,_,.mT ⟨i,x,y,x⟩,Z',c2.b,c2.bd,c2.lim hc (by lia),XI,λM3 A3 eb3 Xq bd3=>?_⟩;have c3:=c2.after (e:=.mT ⟨i,x,y,x⟩) XI eb3 Xq bd3;exact⟨M0,b,A3,_,l,c,n+3,i,_,Z',c3,hc,by lia,Br wf hk hs hy,Bp hk,λM4 A4 c4 st4=>⟨M4,.refl,q M4 A4 (c4.mono (cZ _) (by lia)) (Xc.trans (WW.trans (Xq.trans st4)))⟩⟩
def NP:Fq P w K mg base 11 a.a5 (OR a):=by
 refine fq G.a5.toDG tH (λr u=>⟨_,(pz (pR (qb v0 G.c.toCls G.k (qU G) r (ql (pQ (ql pD)))))
 (pA (uw eX Z' (xg Z' G.bV (ql (qB tZ Z' G.y tX (ql (pG v0))))) (vk (n:=2) Z' (qD (rD 1 tH) (qD (rD 2 tH) ud)))
 (pA (pS (pH u (pG U2) pD)
 (pz (pO 3 tH (pN (Ow G) r G.a3 (r6 v0 U2)))
 (pA (pS (pH u (pV qw Z' G.g qo (ql U3)) pC)
 (pA (pR (pN (Pq G) r G.a4 (rk v0 U1 U3))))
 pL)))
 pL))))),?_⟩)
 rintro ds M Q ⟨M0,b,A,V,l,c,n,rfl,cu,hc,hn,wf,q⟩
 refine pB cu.at_ ⟨Z',_,⟨Z',Z'⟩,pk Z',b,A,V,.turn,Z',cu.b,cu.bd,cu.lim (by lia) (by lia),trivial,λM1 A1 eb st bd=>?_⟩;have c1:=cu.after (e:=.turn) trivial eb st bd;have wf1:=Bi wf;have lv:(pX V .turn).calls.length=V.calls.length:=cQ ..;have ev:Eo l V=.turn::rB l (List.range V.calls.length) (pX V .turn):=rfl;rw[ev,<-lv]at q;have q:∀M' A',uy a M0 M' b A' (qH (pX V .turn) (rB l (List.range (pX V .turn).calls.length) (pX V .turn))) l c (n+1+33*c)->qR A M A' M'->Q .mL M':=q;have c1:uy a M0 M1 b A1 (pX V .turn) l c (n+1):=c1;generalize pX V .turn=V1 at c1 wf1 q bd;refine pB c1.at_ (i' Z' (i' c1.bd.ca λr hr=>i' pM ?_));obtain⟨M2,e0,t,lr⟩:=vX (ds:=A1.cs.map λk=>D.ref k.p) hr;rw[<-e0];have nf:=c1.bd.nP hr;have c2:=c1.sub t;have cl:V1.calls.length<=c:=c1.sz.ca;refine vh (uC 0 (A1.cs.map λk=>D.ref k.p)) (λpre U M'=>(∃A',uy a M0 M' b A' (qH V1 (rB l (List.range pre.length) V1)) l c (n+1+33*pre.length)/\qR A1 M2 A' M')/\∃y1 y2 y3,U=[Fa (.ref b),y1,y2,y3]) (λpre U M' j=>?_) _ [] _ _ Z' ⟨⟨A1,c2,.refl⟩,Db,Db,Db,Z'⟩ ?_ ?_
 .obtain⟨⟨A',c3,Xq⟩,_⟩:=j;exact sS (Xq.1 r _ nf (qm lr))
 .rintro pre d post e U M' ⟨⟨A',c3,Xq⟩,y1,y2,y3,rfl⟩ nx WE
  rw[cT,dM,jY,DA,rL]at WE;have wf3:=El cu.ok (List.range pre.length) wf1;generalize qH V1 (rB l (List.range pre.length) V1)=V3 at c3 wf3 WE;obtain⟨x,hx,rfl⟩:=Jk e;rw[dq]at hx;cases ek:A1.cs[pre.length]? with
  | none=>rw[ek]at hx;cases hx
  | some k=>
   rw[ek]at hx;have hx:D.ref k.p=x:=cY hx;subst hx;have hp:pre.length<c:=by have:=(cU.mp ek).1;rw[c1.bd.len]at this;lia
   have ek3:=Xq.2.2.1 _ k ek;have hi:pre.length<V3.calls.length:=by rw[<-c3.bd.len];exact(cU.mp ek3).1
   have ec:V3.calls[pre.length]?=Fa V3.calls[pre.length]:=cS hi;generalize V3.calls[pre.length]=cv at ec;have ca:=c3.bd.cs _ k cv ek3 ec;obtain⟨ad,md,g1,_⟩:=ca;refine⟨Z',pB g1 (i' Z' ?_)⟩;have hdv:yy l V3 pre.length=if (cv.st=="rings")=pc then HF l V3 (GB cv)else[]:=by unfold yy;rw[ec];rfl
   have mL:yy l V3 pre.length=[]->∀y1' y2' y3',nx [Fa (.ref b),y1',y2',y3'] M':=λh0 y1' y2' y3'=>WE _ _ ⟨⟨A',by rw[h0];exact c3.mono (cZ _) (by lia),Xq⟩,_,_,_,Z'⟩;have du:=Eb (V:=V3) (i:=pre.length) cu.ok;refine qJ (c:=cv.st=="rings") (λg=>?_) (λg=>mL (by rw[hdv,cV g]) _ _ _);rw[cX g]at hdv;refine⟨A',V3,l,_,k,cv,by rw[c3.b],c3.rd (by lia) wf3,c3.bd.cs _ k cv ek3 ec,?_⟩;rw[<-hdv];cases hdq:yy l V3 pre.length with
   | nil=>exact mL hdq _ _ _
   | cons k0 r0=>rw[hdq]at du WE;refine zH (dP (by rw[cQ];show(0:Int)<((k0::r0).length:Nat);rw[dS];lia)) ?_;exact⟨M0,b,A',V3,l,c,_,pre.length,k0,r0,Z',c3,by lia,by lia,wf3,du,λM4 A4 c4 st4=>WE _ _ ⟨⟨A4,c4.mono (cZ _) (by lia),Xq.trans st4⟩,_,_,_,Z'⟩⟩
 .rintro U M' ⟨⟨A',c3,Xq⟩,y1,y2,y3,rfl⟩
  have hl:(uC 0 (A1.cs.map λk=>D.ref k.p)).length=V1.calls.length:=by rw[vm,cQ,c1.bd.len]
  rw[hl]at c3;exact⟨M',.refl,q M' A' (c3.mono (cZ _) (by lia)) (st.trans ((qR.sub t).trans Xq))⟩
inductive Qj(l:pJ)(V:qp):uf->Ev->Prop
 | sw (b:Bool) (i:Nat):i<V.on.length->Qj l V (.sw b (i:Nat)) (.sw b i)
 | answer (x:Str) (i:Nat) (c:pE):V.calls[i]?=Fa c->Qj l V (.num "answer" x [(i:Nat)]) (.talks i [c.cr,x])
 | hold (x:Str) (i:Nat) (c:pE):V.calls[i]?=Fa c->Qj l V (.num "hold" x [(i:Nat)]) (.held i x)
 | back (x:Str) (i:Nat) (c:pE):V.calls[i]?=Fa c->Qj l V (.num "back" x [(i:Nat)]) (.talks i c.ms)
 | two (w x:Str) (i j:Nat) (c d:pE):i≠j->w="hand"\/w="join"->V.calls[i]?=Fa c->V.calls[j]?=Fa d->rM c.ms x≠[]->rM d.ms x≠[]->Qj l V (.num w x [(i:Nat),(j:Nat)]) (.merge i j (if (w=="hand")=pc then[qy c x,qy d x]else[x,qy c x,qy d x]))
def G8(a:Ad):rj:=λds M Q=>FT λA V l e ev=>ds=[.ref A.b,uf.d e]/\Rd a M A V l/\Qj l V e ev/\Q ev.d M
def RT(a:Ad):rj:=λds M Q=>SY λM0 b A V l c n e=>ds=[.ref b,uf.d e]/\uy a M0 M b A V l c n/\c<10000/\n<=5000000/\WF l V/\e.nv/\xp l V e=Db/\∀M' A',uy a M0 M' b A' (qH V (xj l V e)) l (c+1) (n+40+33*c)->qR A M A' M'->Q .mL M'
def VZ(a:Ad)(M0 M:Mp)(b:Uf)(A:tW)(V:qp)(l:pJ)(c n:Nat)(e:uf)(Q:DK):Prop:=xp l V e=Db->∀M' A' r,uy a M0 M' b A' (qH V (xj l V e)) l (c+1) (n+40+33*c)->qR A M A' M'->M' r=Db->Q (.ref r) (pI M' r (.lst ((xj l V e).map Ev.d)))
def Ui(a:Ad):F7:=λds M Q R=>SY λM0 b A V l c n e=>ds=[.ref b,uf.d e]/\uy a M0 M b A V l c n/\c<10000/\n<=5000000/\WF l V/\e.nv/\VZ a M0 M b A V l c n e Q/\(∀w,xp l V e=Fa w->R a.F (Fa ("word",.str w)) M)
def Rd.call{V:qp}(rd:Rd a M A V l){i:Nat}{c:pE}(e:V.calls[i]?=Fa c):∃k,A.cs[i]?=Fa k/\rX a M (A.lists++V.fo) k c:=by
 have hi:i<A.cs.length:=by rw[rd.bd.len];exact(cU.mp e).1
 exact⟨A.cs[i],cS hi,rd.bd.cs i _ c (cS hi) e⟩
def yI{i:Int}(h:0<=i):∃m:Nat,i=(m:Int):=d6 h
def Ju{c:pE}{x:Str}(nd:c.ms.Nodup)(h2:c.ms.length=2)(hx:x∈c.ms):rM c.ms x≠[]:=λz=>by have:=xY nd hx;rw[z]at this;simp only[dF]at this;lia
def MX:Fq P w K mg base 2 a.a6 (G8 a):=by
 refine fq G.a6.toDG tz (λr u=>⟨_,(pz (pO 2 tz (pK U1 pC))
 (pz (pS (pH u U2 (pQ (r6 pD pD)))
 (pA (pF (pQ (r6 U2 (pK U1 pC)))))
 pL)
 (pz (pO 3 tz (pK U1 pC))
 (pz (pO 4 tz (pK U1 pC))
 (pz (pO 5 tz (pK (pG v0) v4))
 (pz (pS (pH u U2 pD)
 (pA (pF (pQ (rk pD v4 (pQ (r6 (pG v5) U3))))))
 pL)
 (pz (pS (pH u U2 pD)
 (pA (pF (pQ (rk pD v4 U3))))
 pL)
 (pz (pS (pH u U2 pD)
 (pA (pF (pQ (rk pD v4 (qB uN Z' G.I uL (ql (pG v5)))))))
 pL)
 (pz (pO 6 tz (pK U1 pC))
 (pz (pO 7 tz (pQ (r6 (qb v5 G.e.toCls G.ar (GF G) r (ql U3)) (qb (pK (pG v0) v6) G.e.toCls G.ar (GF G) r (ql U3)))))
 (pz (pS (pH u U2 pD)
 (pA (pF (pQ (pY pD (rk v4 v6 v7)))))
 pL)
 (pA (pF (pQ (pY pD (rk v4 v6 (qc (pQ (ql U3)) v7))))))))))))))))),?_⟩)
 rintro ds M Q ⟨A,V,l,e,ev,rfl,rd,sg,q⟩
 cases sg with
 | sw b i hi=>
  cases b with
  | true=>exact⟨pk Z',Z',Z',pk Z',M,.refl,q⟩
  | false=>exact⟨pk Z',Z',Z',pk Z',M,.refl,q⟩
 | answer x i c hc=>obtain⟨k,ek,ca⟩:=rd.call hc;obtain⟨ad,md,h1,h2,h3,h4,n1,n2⟩:=ca;refine⟨pk Z',Z',Z',?_⟩;refine pB rd.bd.at_ (i' Z' (i' Z' (i' rd.bd.ca (i' (rc ek) ?_))));exact pB h1 (i' Z' ⟨pk Z',pk Z',M,.refl,q⟩)
 | hold x i c hc=>obtain⟨k,ek,ca⟩:=rd.call hc;refine⟨pk Z',Z',Z',?_⟩;refine pB rd.bd.at_ (i' Z' (i' Z' (i' rd.bd.ca (i' (rc ek) ?_))));exact⟨pk Z',M,.refl,q⟩
 | back x i c hc=>obtain⟨k,ek,ca⟩:=rd.call hc;obtain⟨ad,md,h1,h2,h3,h4,n1,n2⟩:=ca;refine⟨pk Z',Z',Z',?_⟩;refine pB rd.bd.at_ (i' Z' (i' Z' (i' rd.bd.ca (i' (rc ek) ?_))));exact pB h1 (i' Z' (i' h4 ⟨pk Z',M,.refl,q⟩))
 | two wd x i j c d Xt hw hc hd nc nd=>
  obtain⟨k,ek,ca⟩:=rd.call hc;obtain⟨k',ek',ca'⟩:=rd.call hd;have ca0:=ca;have ca1:=ca';obtain⟨ad,md,h1,h2,h3,h4,n1,n2⟩:=ca0;obtain⟨ad',md',f1,_⟩:=ca1;obtain⟨y1,r1,e1⟩:=fZ nc;obtain⟨y2,r2,e2⟩:=fZ nd;have o1:qy c x=y1:=by unfold qy;rw[e1];rfl
  have o2:qy d x=y2:=by unfold qy;rw[e2];rfl
  rw[o1,o2]at q;rcases hw with rfl|rfl
  .refine⟨pk Z',Z',Z',?_⟩;refine pB rd.bd.at_ (i' Z' (i' Z' (i' rd.bd.ca (i' (rc ek) ?_))));refine pB h1 ⟨Z',_,⟨Z',Z'⟩,_,k,c,x,y1,r1,Z',ca,(rd.ms c (qY hc)).2,e1,?_⟩;refine pB rd.bd.at_ (i' Z' (i' Z' (i' rd.bd.ca (i' (rc ek') ?_))));refine pB f1 ⟨Z',_,⟨Z',Z'⟩,_,k',d,x,y2,r2,Z',ca',(rd.ms d (qY hd)).2,e2,?_⟩;exact⟨pk Z',pk Z',M,.refl,q⟩
  .refine⟨pk Z',Z',Z',?_⟩;refine pB rd.bd.at_ (i' Z' (i' Z' (i' rd.bd.ca (i' (rc ek) ?_))));refine pB h1 ⟨Z',_,⟨Z',Z'⟩,_,k,c,x,y1,r1,Z',ca,(rd.ms c (qY hc)).2,e1,?_⟩;refine pB rd.bd.at_ (i' Z' (i' Z' (i' rd.bd.ca (i' (rc ek') ?_))));refine pB f1 ⟨Z',_,⟨Z',Z'⟩,_,k',d,x,y2,r2,Z',ca',(rd.ms d (qY hd)).2,e2,?_⟩;exact⟨pk Z',pk Z',fD _ _,by show 1+2<=Ch;have hz:=dN;lia,pk Z',M,.refl,q⟩
def Rx:Fq P w K mg base 12 a.a7 (RT a):=by
 refine fq G.a7.toDG LW (λr u=>⟨_,(pz (pO 2 LW (pK U1 pC))
 (pA (pS (pH u U2 pD)
 (pA (pR (pN (My G) r G.a1 (rk v0 (pK U1 pC) (pK U1 pC)))))
 (pA (pS (pH u U2 pD)
 (pA (pR (pN (P0 G) r G.a2 (rk v0 (pK U1 pC) (pK U1 pC)))))
 (pA (pS (pH u U2 pD)
 (pA (pR (pN (NP G) r G.a5 (ql v0))))
 (pA (pR (qb v0 G.c.toCls G.k (qU G) r (ql (pN (MX G) r G.a6 (r6 v0 U1))))))))))))),?_⟩)
 rintro ds M Q ⟨M0,b,A,V,l,c,n,e,rfl,cu,hc,hn,wf,hf,hr,q⟩
 have rd:=cu.rd (by lia) wf;have one:∀(ev:Ev),Qj l V e ev->xj l V e=[ev]->ev.ok V->ev.nw=0->Aq (M b) λC fs'=>fs'.lookup ("apply":Str)=Db/\∃sp,(C=a.c/\sp=wb a)/\G8 a [.ref b,e.d] M λd M1=>sp [.ref b,d] M1 λ_ M'=>∃WA,qG WA M'/\Q .mL WA:=λev sg he ok h0=>by refine pB cu.at_ ⟨Z',_,⟨Z',Z'⟩,A,V,l,e,ev,by rw[cu.b],rd,sg,b,A,V,ev,Z',cu.b,cu.bd,cu.lim (by lia) (by lia),ok,λM1 A1 eb st bd=>?_⟩;rw[he]at q;have c1:=cu.after ok eb st bd;rw[h0]at c1;exact⟨M1,.refl,q M1 A1 (c1.mono (by lia) (by lia)) st⟩
 cases e with
 | call y z=>obtain⟨h1,h2,h3,h4⟩:=Bt hr;exact⟨M0,b,A,V,l,c,n,y,z,Z',cu,by lia,by lia,FR wf h1 h2 h3 h4,λM' A' c1 st=>⟨M',.refl,q M' A' (c1.mono (by lia) (by lia)) st⟩⟩
 | turn=>exact⟨M0,b,A,V,l,c,n,Z',cu,by lia,by lia,wf,λM' A' c1 st=>⟨M',.refl,q M' A' (c1.mono (by lia) (by lia)) st⟩⟩
 | sw b0 i=>
  obtain⟨h1,h2⟩:=Te hr;obtain⟨i,rfl⟩:=yI h1;cases b0 with
  | true=>exact one (.sw pc i) (.sw pc i h2) Z' h2 Z'
  | false=>exact one (.sw lf i) (.sw lf i h2) Z' h2 Z'
 | num wd x ns=>
  obtain⟨hx,no⟩:=Fm hf hr;cases no with
  | answer i c0 hi hc0 h1 h2 h3=>obtain⟨i,rfl⟩:=yI hi;have lt:=(cU.mp hc0).1;exact one (.talks i [c0.cr,x]) (.answer x i c0 hc0) (eJ (λev=>[ev]) (xl hc0)) ⟨lt,by show 2<=100;decide⟩ Z'
  | hang i c0 hi hc0 h1=>obtain⟨i,rfl⟩:=yI hi;exact⟨M0,b,A,V,l,c,n,x,i,c0,Z',cu,by lia,by lia,hc0,λM' A' c1 st=>⟨M',.refl,q M' A' (c1.mono (by lia) (by lia)) st⟩⟩
  | hold i c0 hi hc0 h1=>obtain⟨i,rfl⟩:=yI hi;have lt:=(cU.mp hc0).1;exact one (.held i x) (.hold x i c0 hc0) (eJ (λev=>[ev]) (xl hc0)) lt Z'
  | back i c0 hi hc0 h1 h2=>obtain⟨i,rfl⟩:=yI hi;have lt:=(cU.mp hc0).1;exact one (.talks i c0.ms) (.back x i c0 hc0) (eJ (λev=>[ev]) (xl hc0)) ⟨lt,(cu.sz.cs c0 (qY hc0)).2.2⟩ Z'
  | two _ i j c0 d0 hi hj hw hc0 hd0 h1 h2=>
   obtain⟨i,rfl⟩:=yI hi;obtain⟨j,rfl⟩:=yI hj;have lt:=(cU.mp hc0).1;have lt':=(cU.mp hd0).1;have Xt:=(EC (w:=wd) wf hc0 hd0 h1 h2).1;have k0:=wf.ok _ c0 hc0;have k1:=wf.ok _ d0 hd0;obtain⟨_,u2,u3,_⟩:=EB k0 h1;obtain⟨_,v2,v3⟩:=yo.mp h2;have sg:=Qj.two (l:=l) wd x i j c0 d0 Xt hw hc0 hd0 (Ju k0.mn u2 u3) (Ju k1.mn v3 v2);have ok:(Ev.merge i j (if (wd=="hand")=pc then[qy c0 x,qy d0 x]else[x,qy c0 x,qy d0 x])).ok V:=⟨lt,lt',Xt,by split;exact(by decide:2<=100);exact(by decide:3<=100)⟩;have he:xj l V (.num wd x [(i:Int),(j:Int)])=[.merge i j (if (wd=="hand")=pc then[qy c0 x,qy d0 x]else[x,qy c0 x,qy d0 x])]:=eJ (λev=>[ev]) (E1 hc0 hd0);rcases hw with rfl|rfl
   .exact one _ sg he ok Z'
   .exact one _ sg he ok Z'
def Kh:xw P w K mg base (Cs P w) 1 a.H.f a.H.d a.H.p (wq K "word"):=
 LX G.H.toDG Cv λWJ A outer s H E=>Fw (P5 (pv 0) (pv 1))
def S8:U6 P w K mg base 13 a.J (Ui a):=by
 refine T6 G.J.toDG HZ (by walk_at "m") (λ_ _ _ _ _ _ R hr hR=>⟨_,(pz (pO 2 HZ (pN (HR G) hr G.aW (r6 v0 U1)))
 (pz (pS (pH (V7 hr) U2 se)
 (pA (JQ G.b3 (Kh G) (hr.mono (by first|decide|lia)) G.H.b G.b4 G.H.at_ Z' G.bW hR (ql U2)))
 pL)
 (pz (pO 3 HZ (pV qw Z' G.g qo (ql (pG v0))))
 (pz (pR (pN (Rx G) hr G.a7 (r6 v0 U1)))
 (pA (pF (rC (pG v0) (rR U3) sC))))))),?_⟩)
 .rintro ds M Q ⟨M0,b,A,V,l,c,n,e,rfl,cu,hc,hn,wf,hf,q,rr⟩
  refine⟨A,V,l,e,by rw[cu.b],cu.rd (by lia) wf,hf,?_⟩;cases er:xp l V e with
  | some w0=>exact⟨_,Z',rr w0 er⟩
  | none=>
   refine pB cu.at_ (i' Z' (i' cu.bd.lo ?_));refine⟨M0,b,A,V,l,c,n,e,Z',cu,hc,hn,wf,hf,er,λM' A' c1 st=>?_⟩;refine pB c1.at_ (i' Z' (i' c1.bd.lo λp hp=>?_));have hcut:L3.tM ((qH V (xj l V e)).log.map Ev.d) (Fa (((V.log.map Ev.d).length:Nat):Int)) Db=(xj l V e).map Ev.d:=by rw[Fi,dB,Hs _ _ (by rw[cT];lia),List.drop_left]
   rw[hcut];exact⟨_,.refl,q er M' A' p c1 st hp⟩
def Qg(a:Ad):rj:=λds M Q=>SY λM0 b A V l c n e=>ds=[.ref b,uf.d e]/\uy a M0 M b A V l c n/\c<10000/\n<=5000000/\WF l V/\e.nv/\VZ a M0 M b A V l c n e Q/\(∀w,xp l V e=Fa w->Q (.str w) M)
def NO:Fq P w K mg base 14 a.bs (Qg a):=by
 refine fq G.bs.toDG xB (λr u=>⟨_,(pz (pO 2 xB se)
 (pz (O8 (ix:=2) (i:=3) (Nh (S8 G) (r.mono (by first|decide|lia)) Z' G.J.mg G.J.toDG.kp G.J.b (r6 v0 U1)) Z' Z' Z' G.bW xB.nd Z' Z' Z' Z' (by decide))
 (pA (pF U2)))),?_⟩)
 rintro ds M Q ⟨M0,b,A,V,l,c,n,e,rfl,cu,hc,hn,wf,hf,q,qf⟩
 refine⟨λC y M'=>C=a.F/\M=M'/\∃w,xp l V e=Fa w/\y=Fa (("word":Str),D.str w),?_,?_⟩
 .exact⟨M0,b,A,V,l,c,n,e,Z',cu,hc,hn,wf,hf,λh M' A' r c1 st hm=>⟨_,.refl,q h M' A' r c1 st hm⟩,λw h=>⟨Z',Z',w,h,Z'⟩⟩
 .rintro C y M' ⟨rfl,rfl,w,h,rfl⟩
  exact⟨G.b6,G.b5,w,Z',M,.refl,qf w h⟩
noncomputable def vT(g:ux):Bool:=g.2.1==("turns":Str)
def vc(l:pJ):T0 (Str×Int):=(l.groups.filter vT).map λg=>(g.1,0)
def V0(p:Uf)(h:Int)(l:pJ)(F:QXQ):qp:=⟨p,h,0,[],[],vc l,l.mH.map (·.1),[],F⟩
def En(a:Ad):rj:=λds M Q=>FT λb p h F (l:pJ)=>ds=[.ref b,.ref p,.int h]/\M b=Fa (.ins a.c [])/\sU a M p l/\rf l/\p≠b/\(∀x∈F,∃c,M x=Fa c)/\∀M' A,A.b=b->rY b M M'->(∀x∈A.foot,x=b\/M x=Db)->pP a M' A (V0 p h l F)->Q .mL M'
noncomputable def Lm(g:D):Bool:=match g with
 | .tup (_::.str m::_)=>m=="turns"
 | _=>lf
def Qv(d:D):D:=.tup [Bc d,.int 0]
def Hh(gs:List ux):((gs.map rF).filter Lm).map Qv=(gs.filter vT).map λg=>D.tup [.str g.1,.int 0]:=by rw[g9,dZ];rfl
def J3(l:pJ):((l.groups.filter vT).map λg=>((Sum.inr g.1:rq),D.int 0))=tw (vc l):=by unfold tw vc;rw[dZ];rfl
noncomputable def bF(p:Uf)(h:Int)(ca le nx Ya:Uf)(k:Nat):T0 (Str×D):=List.take (α:=Str×D) k [("plan",.ref p),("hour",.int h),("turn",.int 0),("calls",.ref ca),("legs",.ref le),("nexts",.ref nx),("on",.ref Ya)]
def Mb:Fq P w K mg base 1 a.ah (En a):=by
 refine fq G.ah.toDG C5 (λr u=>⟨_,(pz (qe v0 U1)
 (pz (qe v0 U2)
 (pz (qe v0 pC)
 (pz (qe v0 (qN sL))
 (pz (qe v0 (qN sL))
 (pz (qe v0 (qB (Eh Z') Z' G.bT Ec (ql (qI Z' (xu (ix:=[Db]) (N':=["group"])) (qC (pG U1)) (qA 0) (uD (pH u (pK v0 pC) pD)) (pQ (r6 (pK v0 pC) pC))))))
 (pz (qe v0 (qB tZ Z' G.y tX (ql (pG U1))))
 (pA (qe v0 (qN sL)))))))))),?_⟩)
 rintro ds M Q ⟨b,p,h,F,l,rfl,hb,⟨ph,gr,ws,on,pr,gd,rs,i1,i2,i3,i4,i5,i6,i7,i8⟩,ok,nbp,hF,q⟩
 have hz:=dN;have l2:=ok.g3;refine pB hb ⟨(G.C "plan" Z'),by show 0<1000;decide,?_⟩;have k1:rY b M (pI M b (.ins a.c [("plan",.ref p)])):=.put;have b1:pI M b (.ins a.c [("plan",.ref p)]) b=Fa (.ins a.c [("plan",.ref p)]):=pU;show uz _ _ _ _ (pI M b (.ins a.c [("plan",.ref p)]));generalize pI M b (.ins a.c [("plan",.ref p)])=N1 at k1 b1 ⊢;refine pB b1 ⟨(G.C "hour" Z'),by show 1<1000;decide,?_⟩;have k2:=k1.trans (rY.put (p:=b) (c:=.ins a.c [("plan",.ref p),("hour",.int h)]));have b2:pI N1 b (.ins a.c [("plan",.ref p),("hour",.int h)]) b=Fa (.ins a.c [("plan",.ref p),("hour",.int h)]):=pU;show uz _ _ _ _ (pI N1 b (.ins a.c [("plan",.ref p),("hour",.int h)]));generalize pI N1 b (.ins a.c [("plan",.ref p),("hour",.int h)])=N2 at k2 b2 ⊢;refine pB b2 ⟨(G.C "turn" Z'),by show 2<1000;decide,?_⟩;have k3:=k2.trans (rY.put (p:=b) (c:=.ins a.c (bF p h 0 0 0 0 3)));have b3:pI N2 b (.ins a.c (bF p h 0 0 0 0 3)) b=Fa (.ins a.c (bF p h 0 0 0 0 3)):=pU;show uz _ _ _ _ (pI N2 b (.ins a.c (bF p h 0 0 0 0 3)));generalize pI N2 b (.ins a.c (bF p h 0 0 0 0 3))=N3 at k3 b3 ⊢;clear k1 k2 b1 b2;refine⟨pk Z',λca hca=>?_⟩;obtain⟨n4,e4,k4,c4,b4⟩:=sY (fs':=(bF p h ca 0 0 0 4)) (c:=.lst []) b3 hca;refine pB e4 ⟨(G.C "calls" Z'),by show 3<1000;decide,?_⟩;show uz _ _ _ _ (pI (pI N3 ca (.lst [])) b (.ins a.c (bF p h ca 0 0 0 4)));generalize pI (pI N3 ca (.lst [])) b (.ins a.c (bF p h ca 0 0 0 4))=N4 at k4 c4 b4 ⊢;have YA:=k3.trans k4;have z1:M ca=Db:=rO k3 b3 hca;have lc4:oC N4 ca=Fa []:=sS c4;refine⟨pk Z',λle Zy=>?_⟩;obtain⟨n5,e5,k5,c5,b5⟩:=sY (fs':=(bF p h ca le 0 0 5)) (c:=.lst []) b4 Zy;refine pB e5 ⟨(G.C "legs" Z'),by show 4<1000;decide,?_⟩;show uz _ _ _ _ (pI (pI N4 le (.lst [])) b (.ins a.c (bF p h ca le 0 0 5)));generalize pI (pI N4 le (.lst [])) b (.ins a.c (bF p h ca le 0 0 5))=N5 at k5 c5 b5 ⊢;have YB:=YA.trans k5;have z2:M le=Db:=rO YA b4 Zy;have le5:oC N5 le=Fa []:=sS c5;have mcl:le≠ca:=λz=>by rw[z,qm lc4]at Zy;cases Zy
 have lc5:=k5.lst (pW lc4 b4) lc4;have p5:=YB _ _ nbp i1;have g5:=YB.lst (pW i3 hb) i3;clear k3 k4 k5 YA lc4 c4 c5 e4 e5 b3 b4;refine pB p5 (i' Z' (i' g5 ?_));refine tF (f:=Qv) (t:=Lm) g5 _ [] _ (by rw[cQ];simp only[dF];lia) (λd hd k hk=>?_) (λd hd _ k hk=>?_) λq1 XA=>?_
 .obtain⟨v,_,rfl⟩:=dw.mp hd;exact hk
 .obtain⟨v,_,rfl⟩:=dw.mp hd;exact⟨pk Z',hk⟩
 rw[dX,Hh];have Y8:=qG.new (c:=.lst ((l.groups.filter vT).map λg=>D.tup [.str g.1,.int 0])) XA;refine i' pM (i' (wW (λg:ux=>g.1) (λ_=>D.int 0) _) ⟨yN (iu (List.Sublist.map _ fW) (iu (jy _ _) ok.nd)),λnx WE=>?_⟩);have z3:M nx=Db:=rO YB b5 (Y8.none WE);obtain⟨n6,e6,k6,c6,b6⟩:=sY (fs':=(bF p h ca le nx 0 6)) (c:=.dk ((l.groups.filter vT).map λg=>((Sum.inr g.1:rq),D.int 0))) (Y8 _ _ b5) WE;refine pB e6 ⟨(G.C "nexts" Z'),by show 5<1000;decide,?_⟩;have k6:=Y8.keep.trans k6;have Yq:wc "nexts" (.ref nx) (bF p h ca le 0 0 5)=(bF p h ca le nx 0 6):=rfl;rw[Yq];generalize pI (pI (pI N5 q1 (.lst ((l.groups.filter vT).map λg=>D.tup [.str g.1,.int 0]))) nx (.dk ((l.groups.filter vT).map λg=>((Sum.inr g.1:rq),D.int 0)))) b (.ins a.c (bF p h ca le nx 0 6))=N6 at k6 b6 c6 ⊢;have x6:zS N6 nx=Fa ((l.groups.filter vT).map λg=>((Sum.inr g.1:rq),D.int 0)):=DP c6;have kk6:=YB.trans k6;have lc6:=k6.lst (pW lc5 b5) lc5;have le6:=k6.lst (pW le5 b5) le5;have p6:=kk6 _ _ nbp i1;have o6:=kk6.lst (pW i5 hb) i5;clear YB k6 lc5 p5 g5 e6 c6;refine pB p6 (i' Z' (i' o6 λYa ZC=>?_));have z4:M Ya=Db:=rO kk6 b6 ZC;obtain⟨n7,e7,k7,c7,b7⟩:=sY (fs':=(bF p h ca le nx Ya 7)) (c:=.lst (l.mH.map λw=>D.bl w.1)) b6 ZC;refine pB e7 ⟨(G.C "on" Z'),by show 6<1000;decide,?_⟩;have Yq:wc "on" (.ref Ya) (bF p h ca le nx 0 6)=(bF p h ca le nx Ya 7):=rfl;rw[Yq];generalize pI (pI N6 Ya (.lst (l.mH.map λw=>D.bl w.1))) b (.ins a.c (bF p h ca le nx Ya 7))=N7 at k7 b7 c7 ⊢;have kk7:=kk6.trans k7;have lc7:=k7.lst (pW lc6 b6) lc6;have le7:=k7.lst (pW le6 b6) le6;have x7:=k7.dk (BU x6 b6) x6;have lo7:oC N7 Ya=Fa ((l.mH.map (·.1)).map D.bl):=by rw[dZ];exact sS c7
 refine⟨pk Z',λlg hlg=>?_⟩;obtain⟨n8,e8,k8,c8,b8⟩:=sY (fs':=tP (.ref p) h 0 ca le nx Ya lg) (c:=.lst []) b7 hlg;refine pB e8 ⟨(G.C "log" Z'),by show 7<1000;decide,_,.refl,?_⟩;have apart:∀{N:Mp} {x y:Uf} {ds:T0 D},N x=Db->oC N y=Fa ds->x≠y:=λ{N x y ds} h1 h2 z=>by have:=qm h2;rw[<-z,h1]at this;cases this
 have y5:=rO kk7 b7 hlg;refine q _ ⟨b,ca,le,nx,Ya,lg,[]⟩ Z' (kk7.trans k8) (λx hx=>?_) ⟨b8,k8.lst (pW lc7 b7) lc7,k8.lst (pW le7 b7) le7,?_,k8.lst (pW lo7 b7) lo7,sS c8,Z',λi k c e=>by simp at e,?_,dH.mpr ⟨dA,dU⟩,λx hx=>?_⟩
 rotate_right
 .by_cases z:x=b
  .exact⟨_,by rw[z];exact b8⟩
  .obtain⟨c,e⟩:=hF x hx;exact⟨c,(kk7.trans k8) x c z e⟩
 .have hx:x∈[b,nx,ca,le,Ya,lg]:=by
   unfold tW.foot tW.lists at hx
   simpa using hx
  simp only[de,dA,e9]at hx;rcases hx with rfl|rfl|rfl|rfl|rfl|rfl
  .exact .inl Z'
  .exact .inr z3
  .exact .inr z1
  .exact .inr z2
  .exact .inr z4
  .exact .inr y5
 .show zS _ nx=Fa (tw (vc l));rw[<-J3];exact k8.dk (BU x7 b7) x7
 .have m1:=apart hlg lc7;have m2:=apart hlg le7;have m3:=apart hlg lo7;have m4:=apart ZC lc6;have m5:=apart ZC le6;show[ca,le,Ya,lg].Nodup;simp only[dH,de,dA,e9,fM,not_false_eq_true,dU,and_true];exact⟨⟨dG mcl,dG m4,dG m1⟩,⟨dG m5,dG m2⟩,dG m3⟩
def SH{p:Uf}{F:QXQ}(ok:rf l):WF l (V0 p h l F):=by
 refine⟨λi c e=>by simp[V0]at e,λi j ci cj x e=>by simp[V0]at e,λx hx=>?_,λi j ci cj x e=>by simp[V0]at e,λz hz ht=>?_⟩
 .show((0:Nat):Int)<=wZ l x;unfold wZ;cases e:l.m7 x with
  | none=>exact Int.le_refl _
  | some v=>have:=(ok.po v (gj e)).l1;show(0:Int)<=v.2.1;lia
 .show ∃v,(vc l).find? (λp=>decide (p.1=z))=Fa v/\_;unfold pJ.mO at ht;cases e:l.group z with
  | none=>rw[e]at ht;exact absurd ht (by decide)
  | some g=>
   rw[e]at ht;have hg:=gj e;have hn:g.1=z:=by simpa using mf e
   have hm:((g.1,0):Str×Int)∈vc l:=dw.mpr ⟨g,fv.mpr ⟨hg,ht⟩,Z'⟩;cases q:(vc l).find? (λp=>decide (p.1=z))with
   | none=>exact absurd (hG.mp q _ hm) (by simp[hn])
   | some v=>refine⟨v,Z',?_⟩;obtain⟨g',_,rfl⟩:=dw.mp (gj q);exact⟨Int.le_refl _,Int.natCast_nonneg _⟩
def Aa(ok:rf l):(vc l).length<=3:=by unfold vc;rw[cQ];exact dY (gh _ _) ok.g3
def Ev.noT:Ev->Prop
 | .turn=>False
 | .sw _ _=>False
 | _=>True
def Ev.noN:Ev->Prop
 | .next _ _=>False
 | _=>True
theorem FH:∀{es:T0 Ev} {V:qp},(∀e∈es,e.noN)->(qH V es).ps=V.ps
 | [],_,_=>rfl
 | e::r,V,h=>(FH (es:=r) (V:=pX V e) λx hx=>h x (dz _ hx)).trans (by have:=h e dI;cases e<;>first|rfl|cases this)
theorem BM(i:Nat):∀(st:sd) (q:Option Str),∀e∈qT i q st,e.noT/\e.noN
 | [],_,e,h=>by unfold qT at h;cases h
 | (y,gs)::r,Db,e,h=>by
  rcases de.mp (show e∈Ev.asks i y gs::qT i (Fa y) r from h)with rfl|h
  .exact⟨trivial,trivial⟩
  .exact BM i r _ e h
 | (y,gs)::r,Fa u,e,h=>by
  rcases de.mp (show e∈Ev.mT ⟨i,u,y,u⟩::Ev.asks i y gs::qT i (Fa y) r from h)with rfl|h
  .exact⟨trivial,trivial⟩
  rcases de.mp h with rfl|h
  .exact⟨trivial,trivial⟩
  .exact BM i r _ e h
def OQ{st:sd}:∀e∈tG i st en,e.noT/\e.noN:=λe h=>by
 unfold tG at h;cases en with
 | ring ns=>
  dsimp only at h;cases q:st.getLast? with
  | none=>rw[q]at h;cases h
  | some s0=>rw[q]at h;rw[df.mp h];exact⟨trivial,trivial⟩
 | _=>cases h
def PZ{ps:T0 (Str×Int)}{z:Str}{n:Int}(h:ps.any (λp=>decide (p.1=z))=pc):(Cq ps z n).length=ps.length:=by unfold Cq;rw[cX h,cQ]
def QS{V V1:qp}(nx:uu l V1)(he:GX l V i en):(qH V1 (sD l V i en)).ps.length=V1.ps.length:=by
 cases en with
 | rings z ps=>
  show(qH V1 ((if (l.mO z=="turns")=pc then[Ev.next z (QB (l.mF z) (ps.headD Str.empty))]else[])++[.rings i ps])).ps.length=_;rw[rL];by_cases ht:(l.mO z=="turns")=pc
  .rw[cX ht];refine PZ ?_;obtain⟨v,e,_⟩:=nx z he.1 ht;exact gy.mpr ⟨v,gj e,by simpa using mf e⟩
  .rw[cV ht];rfl
 | breaks z=>
  unfold sD;dsimp only;split
  .rfl
  .rfl
 | waits z=>rfl
 | engaged z=>rfl
 | barred=>rfl
 | ring ns=>rfl
def Qu{V:qp}{i:Nat}{k:pE}(ok:rf l)(wf:zy l V (Fa i))(hk:V.calls[i]?=Fa k):(qH V (vN l V i)).ps.length=V.ps.length:=by
 have W4:=wf.ok i k hk;unfold vN;rw[hk];dsimp only[Option.elim];obtain⟨z,hz⟩:∃z,k.way.getLast?=Fa z:=by
  cases e:k.way.getLast? with
  | none=>exact absurd (ft.mp e) W4.wy.1
  | some z=>exact⟨z,Z'⟩
 rw[show k.way.getLastD Str.empty=z by rw[fN,hz];rfl];have ro:xc l V k.cr (l.nm.length+1) [] (tq l V k.cr z k.way.dropLast):=xG ok _ _ _ _ (W4.wy.2 z (gp hz)) λx hx=>W4.wy.2 x (gq _ hx);have eo:=Hl ok wf hk ro.e;generalize tq l V k.cr z k.way.dropLast=R at eo;obtain⟨e,st⟩:=R;have e1:(qH (qH V (qT i Db st)) (tG i st e)).ps=V.ps:=(FH λx hx=>(OQ x hx).2).trans (FH λx hx=>(BM i st Db x hx).2);rw[rL,rL];refine(QS (λz hz ht=>?_) eo).trans (eJ List.length e1);rw[e1];exact wf.nx z hz ht
theorem Iv(ok:rf l):∀(is:T0 Nat) {V:qp},WF l V->(qH V (rB l is V)).ps.length=V.ps.length
 | [],V,_=>by unfold rB;rfl
 | i::r,V,wf=>by
  unfold rB;rw[rL];refine(Iv ok r (FG ok wf)).trans ?_;have d:=Eb (V:=V) (i:=i) ok;generalize yy l V i=fs at d;cases d with
  | no=>rfl
  | on c k r b x y n hc hs hk hw hy=>rw[yj hk,rL];exact Qu ok (Br wf hc hs hy) (Bp hc)
def S9{V:qp}{e:uf}(ok:rf l)(wf:WF l V)(f:e.nv)(h:xp l V e=Db):(qH V (xj l V e)).ps.length=V.ps.length:=by
 cases e with
 | call y z=>obtain⟨h1,h2,h3,h4⟩:=Bt h;obtain⟨k,hk⟩:=KZ (V:=V) (y:=y) (z:=z);show(qH V (_++vN l _ _)).ps.length=_;rw[rL];exact Qu ok (FR wf h1 h2 h3 h4) hk
 | turn=>exact Iv ok _ (Bi wf)
 | sw b i=>rfl
 | num w x ns=>
  refine eJ List.length (FH λev hev=>?_);obtain⟨_,n⟩:=Fm f h;cases n with
  | answer i c hi hc h1 h2 h3=>rw[df.mp (show ev∈[A9 V "answer" x i.toNat]from hev),xl hc];trivial
  | hang i c hi hc h1=>
   have hev:ev∈va V x i.toNat:=hev;unfold va at hev;rw[hc]at hev;dsimp only[Option.elim]at hev;split at hev
   .rw[df.mp hev];trivial
   split at hev
   .rcases de.mp hev with rfl|hev
    .trivial
    split at hev
    .rw[df.mp hev];trivial
    .cases hev
   split at hev
   .rw[df.mp hev];trivial
   .rw[df.mp hev];trivial
  | hold i c hi hc h1=>rw[df.mp (show ev∈[A9 V "hold" x i.toNat]from hev),xl hc];trivial
  | back i c hi hc h1 h2=>rw[df.mp (show ev∈[A9 V "back" x i.toNat]from hev),xl hc];trivial
  | two _ i j c d hi hj hw hc hd h1 h2=>rw[df.mp (show ev∈[DN V w x i.toNat j.toNat]from hev),E1 hc hd];trivial
noncomputable def Bk(c:pE):QQQ:=if (c.st=="talks"||c.st=="held")=pc then c.ms else c.cr::c.at_
def JJ(a:Ad):rj:=λds M Q=>De λL k c=>ds=[.ref (rN.p k)]/\rX a M L k c/\c.at_.length<=100/\∀r M',qG M M'->oC M' r=Fa ((Bk c).map D.str)->Q (.ref r) M'
def MI(V:qp)(XD:QQQ):T0 Nat:=(List.range V.calls.length).filter λi=>(V.calls[i]?).elim lf λc=>hasS XD c.st
def NV(a:Ad):rj:=λds M Q=>BE λA V l XD=>ds=[.ref A.b,.tup (List.map D.str XD)]/\Rd a M A V l/\∀r M',qG M M'->oC M' r=Fa ((MI V XD).map λn=>D.int (n:Nat))->Q (.ref r) M'
def QW(V:qp)(XD:QQQ):D->Bool
 | .int n=>(V.calls[n.toNat]?).elim lf λc=>hasS XD c.st
 | _=>lf
def Kr:Fq P w K mg base 1 a.bl (JJ a):=by
 refine fq G.bl.toDG C8 (λr u=>⟨_,(pz (pS (W3.b3 (ww (pH u (pG v0) pD) (vU (pH u (pG v0) pD))))
 (pA (pF (qB tZ Z' G.y tX (ql (pG v0)))))
 pL)
 (pA (pF (qc (qN (ql (pG v0))) (qB tZ Z' G.y tX (ql (pG v0))))))),?_⟩)
 rintro ds M Q ⟨L,k,c,rfl,⟨ad,md,h1,h2,h3,h4,_⟩,ha,q⟩
 have hz:=dN;unfold Bk at q;refine pB h1 (i' Z' (qJ (c:=c.st=="talks") (λg=>?_) (λg=>?_)))
 .rw[g,ic,cX Z']at q;exact pB h1 (i' Z' (i' h4 λr hr=>⟨_,.refl,q r _ (.new hr) pM⟩))
 rw[dD.mpr g,fH]at q;refine pB h1 (i' Z' (qJ (c:=c.st=="held") (λg=>?_) (λg=>?_)))
 .rw[cX g]at q;exact pB h1 (i' Z' (i' h4 λr hr=>⟨_,.refl,q r _ (.new hr) pM⟩))
 rw[cV g]at q;refine pB h1 (i' Z' ⟨pk Z',λr1 Xi=>?_⟩);obtain⟨M1,e0,t1,l1⟩:=vX (ds:=[D.str c.cr]) Xi;rw[<-e0];show Aq (M1 k.p) _;refine pB (t1 _ _ h1) (i' Z' (i' (t1.lst h3) λr2 YT=>?_));have t2:=qG.new (c:=.lst (c.at_.map D.str)) YT;refine i' (t2.lst l1) (i' pM ⟨?_,λr3 Y9=>⟨_,.refl,q r3 _ (t1.trans (t2.trans (.new Y9))) pM⟩⟩);rw[cQ];show 1+c.at_.length<=Ch;lia
def Pm:Fq P w K mg base 1 a.bm (NV a):=by
 refine fq G.bm.toDG A7 (λr u=>⟨_,(pA (pF (qI Z' (xu (ix:=[Db,Fa 0,Fa 1]) (N':=["_law_k","_law_board","_law_states"])) (ve Z' G.Z (ql (pV qw Z' G.g qo (ql (pG v0))))) (qA 0) (uD (pH u (pG (pK (pG U1) v0)) U2)) v0))),?_⟩)
 rintro ds M Q ⟨A,V,l,XD,rfl,rd,q⟩
 have hz:=dN;have lc:((A.cs.map λk=>D.ref k.p).length:Int)=(V.calls.length:Nat):=by rw[cQ,rd.bd.len]
 have hb:=rd.k;refine pB rd.bd.at_ (i' Z' (i' rd.bd.ca ?_));rw[lc];refine⟨Z',⟨by lia,by lia⟩,?_⟩;refine tF (f:=id) (t:=QW V XD) trivial _ [] _ (by rw[cQ,eD];simp only[dF];lia) (λd hd k hk=>?_) (λd hd _ k hk=>?_) λr hr=>?_
 .obtain⟨i,hi,rfl⟩:=dw.mp hd;rw[gf]at hi;have hi:i<V.calls.length:=by lia
  obtain⟨k',ek,⟨ad,md,h1,_⟩⟩:=rd.call (cS hi);have ea:vA (A.cs.map λk=>D.ref k.p) (0+(i:Nat))=Fa (.ref k'.p):=by rw[lu];exact rc ek
  refine pB rd.bd.at_ (i' Z' (i' Z' (i' rd.bd.ca (i' ea (pB h1 (i' Z' (i' Z' ⟨Z',qu _,?_⟩)))))));show k (inD (.str V.calls[i].st) (XD.map D.str)) M;rw[qW];have e1:QW V XD (.int (0+(i:Nat)))=hasS XD V.calls[i].st:=by show(V.calls[(0+(i:Int)).toNat]?).elim lf _=_;rw[show(0+(i:Int)).toNat=i by lia,cS hi];rfl
  show k (hasS XD V.calls[i].st) M;rw[<-e1];exact hk
 .exact hk
 .refine⟨_,.refl,q r _ (.new hr) (pM.trans (eJ Fa ?_))⟩;rw[dX,je,g9,show(((V.calls.length:Nat):Int)).toNat=V.calls.length from rfl];unfold MI;have e1:(QW V XD∘λi:Nat=>D.int (0+(i:Nat)))=λi=>(V.calls[i]?).elim lf λc=>hasS XD c.st:=funext λi=>by show(V.calls[(0+(i:Int)).toNat]?).elim lf _=_;rw[show(0+(i:Int)).toNat=i by lia]
  rw[e1];exact gS λi _=>by rw[lu]
noncomputable def GN:Str->QQQ:=λw=>if (w=="answer")=pc then["rings","waits"]else if (w=="hold")=pc then["talks"]else if (w=="hang")=pc then["rings","waits","talks","held"]else["held"]
def RD(w:Str):Prop:=w="answer"\/w="hang"\/w="hold"\/w="back"\/w="hand"\/w="join"
def KF(a:Ad):rj:=λds M Q=>FT λA V l c w=>ds=[.ref A.b,.int c,.str w,.tup ((GN w).map D.str)]/\Rd a M A V l/\WF l V/\(∀k∈V.calls,k.at_.length<=100)/\RD w/\∀M',qG M M'->Q .mL M'/\∀e:uf,e.nv->Q e.d M'
def Rl{n:Nat}{a b:Uf}{ds:T0 D}(ha:oC M a=Fa ds)(hb:oC M b=Fa []):yk M (n+1) (.ref a) (.ref b)=Fa ds.isEmpty:=by
 show(oC M a).bind (λi=>(oC M b).bind λj=>if i.length=j.length then sE (yk M n) i j else Fa lf)=_;rw[ha,hb];cases ds with
 | nil=>rfl
 | cons x r=>rfl
def uI{α:Type}(f:α->D){xs:List α}(h:xs≠[])(c k:Int):(0:Int)<((xs.map f).length:Nat)/\∃x∈xs,vA (xs.map f) (draw c k ((xs.map f).length:Nat))=Fa (f x):=by
 have hp:(0:Int)<((xs.map f).length:Nat):=by have:=eV.mpr h;rw[cQ];lia
 have d0:=qS (c:=c) (f:=k) hp;have d1:=qO (c:=c) (f:=k) hp;obtain⟨n,e⟩:=d6 d0;rw[e]at d1 ⊢;have hn:n<xs.length:=by rw[cQ]at d1;lia
 exact⟨hp,xs[n],gO hn,ub (by rw[dq,cS hn];rfl)⟩
def SD{V:qp}{i:Nat}(h:i∈MI V XD):∃c,V.calls[i]?=Fa c/\c.st∈XD:=by
 have h:=(fv.mp h).2;cases e:V.calls[i]? with
 | none=>rw[e]at h;cases h
 | some c=>rw[e]at h;exact⟨c,Z',qz.mp h⟩
def Ea{c:pE}(k:uU l lf c)(h:c.st≠"over"):Bk c≠[]:=by
 unfold Bk;split
 .rename_i g;rcases k.sh with z|⟨_,z|z|⟨_,z⟩|z⟩
  .rw[z.1]at g;exact absurd g (by decide)
  .rw[z.1]at g;exact absurd g (by decide)
  .intro y;rw[y]at z;rcases z.2.1 with u|u<;>cases u
  .intro y;rw[y]at z;cases z.2.1
  .exact absurd z.1 h
 .exact fD _ _
def UB{c:pE}(k:uU l lf c)(h:c.st∈GN "answer"):c.at_≠[]:=by
 have h:c.st="rings"\/c.st="waits":=by
  rcases de.mp h with g|g
  .exact .inl g
  .exact .inr (df.mp g)
 rcases k.sh with z|⟨_,z|z|⟨_,z⟩|z⟩
 .exact z.2.2.2.2.2 Z'
 .intro y;rw[y]at z;cases z.2.2.2.2
 all_goals(rw[z.1]at h;exact absurd h (by decide))
def IT{c:pE}(k:uU l lf c)(h:c.st="held"):∃x,c.hd=Fa x:=by
 rcases k.sh with z|⟨_,z|z|⟨x,z⟩|z⟩
 .rw[h]at z;exact absurd z.1 (by decide)
 .rw[h]at z;exact absurd z.1 (by decide)
 .rw[h]at z;exact absurd z.1 (by decide)
 .exact⟨x,z.2.2.1⟩
 .rw[h]at z;exact absurd z.1 (by decide)
def J5:Fq P w K mg base 4 a.bn (KF a):=by
 refine fq G.bn.toDG rH (λr u=>⟨_,(pz (pO 4 rH (pN (Pm G) r G.bm (r6 v0 U3)))
 (pz (pS (pH u v4 (qN sL))
 (pA (pF se))
 pL)
 (pz (pO 5 rH (pK v4 (pN (qK G) r G.i (rk U1 pC (pV qw Z' G.g qo (ql v4))))))
 (pz (pO 6 rH (pN (Kr G) r G.bl (ql (pK (pG v0) v5))))
 (pz (pS (pH u U2 pD)
 (pA (pO 6 rH (qB tZ Z' G.y tX (ql (pG (pK (pG v0) v5))))))
 pL)
 (pz (pS (W3.b3 (ww (pH u U2 pD) (ww (pH u U2 pD) (vU (pH u U2 pD)))))
 (pA (pO 6 rH (qN (ql (pG (pK (pG v0) v5))))))
 pL)
 (pz (pO 7 rH (pK v6 (pN (qK G) r G.i (rk U1 pC (pV qw Z' G.g qo (ql v6))))))
 (pz (pS (W3.b3 (ww (pH u U2 pD) (vU (pH u U2 pD))))
 (pz (pO 8 rH (qb v0 G.c.toCls G.Q (yO G) r (ql v7)))
 (pA (pF (pQ (pY U2 (rk v7 v5 (Qp (pH u v8 se) pC v8)))))))
 pL)
 (pA (pF (pQ (rk U2 v7 v5)))))))))))),?_⟩)
 rintro ds M Q ⟨A,V,l,c,wd,rfl,rd,wf,ha,ho,q⟩
 have hz:=dN;refine⟨A,V,l,GN wd,Z',rd,λr M1 s1 lr=>?_⟩;refine⟨pk Z',λr0 ZD=>?_⟩;have t2:=qG.new (c:=.lst []) ZD;have Zd:=t2.lst lr;refine i' (Rl Zd pM) ?_;have s2:=s1.trans t2;generalize pI M1 r0 (.lst [])=M2 at s2 Zd ⊢;clear t2 lr ZD s1;refine qJ (c:=((MI V (GN wd)).map λn=>D.int (n:Nat)).isEmpty) (λ_=>⟨M2,.refl,(q M2 s2).1⟩) (λg=>?_);have gne:MI V (GN wd)≠[]:=λz=>g (by rw[z];rfl);obtain⟨hp,i,hi,ei⟩:=uI (λn:Nat=>D.int (n:Nat)) gne c 40692;obtain⟨cv,hc,hs⟩:=SD hi;have YW:=rd.sub s2;obtain⟨k,ek,ca⟩:=YW.call hc;have ca0:=ca;obtain⟨ad,md,h1,h2,h3,h4,_⟩:=ca0;have W4:=wf.ok i cv hc;refine i' Zd ⟨c,_,_,Z',hp,i' Zd (i' ei ?_)⟩;refine pB YW.bd.at_ (i' Z' (i' Z' (i' YW.bd.ca (i' (rc ek) ?_))));refine⟨_,k,cv,Z',ca,ha cv (qY hc),λr3 M3 s3 lr3=>?_⟩;have Xh:=s3 _ _ h1;have q3:=λM' (s:qG M3 M')=>q M' (s2.trans (s3.trans s));have YX:=YW.sub s3;have Y7:=s3.lst h3;clear q Zd s2 h1 h2 h3 h4 ca;rcases ho with rfl|rfl|rfl|rfl|rfl|rfl
 .
  refine pB YX.bd.at_ (i' Z' (i' Z' (i' YX.bd.ca (i' (rc ek) (pB Xh (i' Z' (i' Y7 λr4 ZG=>?_)))))));obtain⟨WH,x,hx,ex⟩:=uI D.str (UB W4 hs) c 742938285;refine i' pM ⟨c,_,_,Z',WH,i' pM (i' ex ?_)⟩;exact⟨pk Z',_,.refl,(q3 _ (.new ZG)).2 (.num "answer" x [(i:Nat)]) (.inl ⟨.inl Z',Z'⟩)⟩
 .
  obtain⟨WH,x,hx,ex⟩:=uI D.str (Ea W4 (λz=>by rw[z]at hs;exact absurd hs (by decide))) c 742938285;refine i' lr3 ⟨c,_,_,Z',WH,i' lr3 (i' ex ?_)⟩;exact⟨pk Z',_,.refl,(q3 _ .refl).2 (.num "hang" x [(i:Nat)]) (.inl ⟨.inr (.inl Z'),Z'⟩)⟩
 .
  obtain⟨WH,x,hx,ex⟩:=uI D.str (Ea W4 (λz=>by rw[z]at hs;exact absurd hs (by decide))) c 742938285;refine i' lr3 ⟨c,_,_,Z',WH,i' lr3 (i' ex ?_)⟩;exact⟨pk Z',_,.refl,(q3 _ .refl).2 (.num "hold" x [(i:Nat)]) (.inl ⟨.inr (.inr (.inl Z')),Z'⟩)⟩
 .
  obtain⟨y,hy⟩:=IT W4 (df.mp hs);refine pB YX.bd.at_ (i' Z' (i' Z' (i' YX.bd.ca (i' (rc ek) (pB Xh (i' Z' ⟨pk Z',λr4 ZG=>?_⟩))))));rw[show Gk cv.hd=.str y by rw[hy];rfl];obtain⟨WH,x,hx,ex⟩:=uI D.str (fD y []) c 742938285;refine i' pM ⟨c,_,_,Z',WH,i' pM (i' ex ?_)⟩;exact⟨pk Z',_,.refl,(q3 _ (.new ZG)).2 (.num "back" x [(i:Nat)]) (.inl ⟨.inr (.inr (.inr Z')),Z'⟩)⟩
 all_goals
  obtain⟨y,hy⟩:=IT W4 (df.mp hs);refine pB YX.bd.at_ (i' Z' (i' Z' (i' YX.bd.ca (i' (rc ek) (pB Xh (i' Z' ⟨pk Z',λr4 ZG=>?_⟩))))));rw[show Gk cv.hd=.str y by rw[hy];rfl];obtain⟨WH,x,hx,ex⟩:=uI D.str (fD y []) c 742938285;refine i' pM ⟨c,_,_,Z',WH,i' pM (i' ex ?_)⟩;have t4:=qG.new (c:=.lst [D.str y]) ZG;refine pB (t4 _ _ YX.bd.at_) ⟨Z',_,⟨Z',Z'⟩,A,V,x,Z',YX.bd.sub t4,YX.k,?_⟩;unfold AJ;cases vO V x with
  | none=>first|exact⟨pk Z',_,.refl,(q3 _ t4).2 (.num "hand" x [(i:Nat),(0:Nat)]) (.inr ⟨.inl Z',Z'⟩)⟩|exact⟨pk Z',_,.refl,(q3 _ t4).2 (.num "join" x [(i:Nat),(0:Nat)]) (.inr ⟨.inr Z',Z'⟩)⟩
  | some j=>first|exact⟨pk Z',_,.refl,(q3 _ t4).2 (.num "hand" x [(i:Nat),(j:Nat)]) (.inr ⟨.inl Z',Z'⟩)⟩|exact⟨pk Z',_,.refl,(q3 _ t4).2 (.num "join" x [(i:Nat),(j:Nat)]) (.inr ⟨.inr Z',Z'⟩)⟩
def Jm:rj:=λds M Q=>JE λc o n own nm m=>ds=[.int c,.ref o,.ref n,.int ((m:Nat):Int)]/\oC M o=Fa (List.map D.str own)/\oC M n=Fa (List.map D.str nm)/\own.length<=100/\nm.length<=100/\m<=1000000/\∀M' (e:uf),qG M M'->e.nv->Q e.d M'
def Lv(a:Ad):rj:=λds M Q=>SY λA V l c o n own nm=>ds=[.ref A.b,.int c,.ref o,.ref n]/\Rd a M A V l/\WF l V/\(∀k∈V.calls,k.at_.length<=100)/\oC M o=Fa (List.map D.str own)/\oC M n=Fa (List.map D.str nm)/\own≠[]/\nm≠[]/\own.length<=100/\nm.length<=100/\∀M' (e:uf),qG M M'->e.nv->Q e.d M'
def Jg{α:Type}(f:α->D){xs:List α}(h:xs≠[]){m:Int}(hm:m=(xs.length:Nat))(c k:Int):(0:Int)<m/\∃x∈xs,vA (xs.map f) (draw c k m)=Fa (f x):=by have:=uI f h c k;rw[cQ,<-hm]at this;exact this
def Od{α:Type}(xs:List α)(x:α):xs++[x]≠[]:=by simp
noncomputable def Hu:QQQ:=["call","call","call","call","call","answer","answer","answer","answer","answer","hang","hang","hold","hold","hold","back","hand","join","turn","turn","turn"]
theorem DR(d:D):∀n:Nat,(List.replicate n [d]).flatten=List.replicate n d
 | 0=>rfl
 | n+1=>by rw[eG,fK,DR d n,eG];rfl
noncomputable def zz:Str:="zzzzzz"
noncomputable def KN(a b:Str)(k m:Int):List uf:=[.call a b,.num "answer" a [k],.num "hang" a [k],.num "hold" a [k],.num "back" a [k],.num "hand" a [k,m],.num "join" a [k,m],.turn,.sw pc k,.sw lf k]
def L'{a b:Str}{k m:Int}{e:uf}(h:e∈KN a b k m):e.nv:=by
 unfold KN at h;simp only[de,dA,e9]at h;rcases h with rfl|rfl|rfl|rfl|rfl|rfl|rfl|rfl|rfl|rfl
 .trivial
 .exact .inl ⟨.inl Z',Z'⟩
 .exact .inl ⟨.inr (.inl Z'),Z'⟩
 .exact .inl ⟨.inr (.inr (.inl Z')),Z'⟩
 .exact .inl ⟨.inr (.inr (.inr Z')),Z'⟩
 .exact .inr ⟨.inl Z',Z'⟩
 .exact .inr ⟨.inr Z',Z'⟩
 .trivial
 .trivial
 .trivial
def P6:Fq P w K mg base 2 a.bo Jm:=by
 refine fq G.bo.toDG uF (λr u=>⟨_,(pz (pO 4 uF (pK (qc U2 (qN (ql pD))) (pN (qK G) r G.i (rk v0 pC (qc (pV qw Z' G.g qo (ql U2)) pC)))))
 (pz (pO 5 uF (pK (qc U2 (qN (ql pD))) (pN (qK G) r G.i (rk v0 pC (qc (pV qw Z' G.g qo (ql U2)) pC)))))
 (pz (pO 6 uF (qc (pN (qK G) r G.i (rk v0 pC (qc U3 pC))) pC))
 (pz (pO 7 uF (qc (pN (qK G) r G.i (rk v0 pC (qc U3 pC))) pC))
 (pz (pO 8 uF (qN (pY (pQ (rk pD v4 v5)) (pY (pQ (rk pD v4 v6)) (pY (pQ (rk pD v4 v6)) (rk (pQ (rk pD v4 v6)) (pQ (rk pD v4 v6)) (pQ (pY pD (rk v4 v6 v7)))))))))
 (pA (pF (pK (qc v8 (qN (pY (pQ (pY pD (rk v4 v6 v7))) (rk (pQ (ql pD)) (pQ (r6 pD v6)) (pQ (r6 pD v6)))))) (pN (qK G) r G.i (rk v0 pC pC)))))))))),?_⟩)
 rintro ds M Q ⟨c,o,n,own,nm,m,rfl,ho,hn,ol,nl,ml,q⟩
 have hz:=dN;have add:∀{M1:Mp} {p:Uf} {xs:QQQ} (f:Int) (nx:DK),qG M M1->oC M1 p=Fa (xs.map D.str)->xs.length<=100->(∀x M',qG M M'->nx (.str x) M')->∀r1,M1 r1=Db->(oC (pI M1 r1 (.lst [D.str zz])) p).elim False λi=>(oC (pI M1 r1 (.lst [D.str zz])) r1).elim False λj=>i.length+j.length<=Ch/\∀r2,pI M1 r1 (.lst [D.str zz]) r2=Db->(oC (pI (pI M1 r1 (.lst [D.str zz])) r2 (.lst (i++j))) p).elim False λys=>JD [.int c,.int f,.int ((ys.length:Nat)+1)] (pI (pI M1 r1 (.lst [D.str zz])) r2 (.lst (i++j))) λy M2=>match y with
  | .int n=>(oC M2 r2).elim False λzs=>(vA zs n).elim False λd=>nx d M2
  | _=>False:=λ{M1 p xs} f nx s hx lx WE r1 Xi=>by
  have t1:=qG.new (c:=.lst [D.str zz]) Xi;refine i' (t1.lst hx) (i' pM ⟨by rw[cQ];show xs.length+1<=Ch;lia,λr2 YT=>?_⟩);have t2:=qG.new (c:=.lst (xs.map D.str++[D.str zz])) YT;obtain⟨hp,x,_,ex⟩:=Jg D.str (Od xs zz) (m:=((xs.map D.str).length:Nat)+1) (by rw[cQ,cT];rfl) c f;rw[dB]at ex;exact i' ((t1.trans t2).lst hx) ⟨c,f,_,Z',hp,i' pM (i' ex (WE x _ (s.trans (t1.trans t2))))⟩
 refine⟨pk Z',add 16807 _ .refl hn nl λx M1 s1=>⟨pk Z',add 39373 _ s1 (s1.lst hn) nl λy M2 s2=>?_⟩⟩;refine⟨c,_,_,Z',by show(0:Int)<(m:Nat)+2;lia,⟨c,_,_,Z',by show(0:Int)<(m:Nat)+2;lia,?_⟩⟩;generalize draw c 69621 ((m:Nat)+2) - 1=k0;refine⟨pk Z',pk Z',pk Z',pk Z',pk Z',pk Z',pk Z',λr8 hr8=>⟨pk Z',pk Z',pk Z',pk Z',pk Z',λr9 hr9=>?_⟩⟩;have t8:=qG.new (c:=.lst (((KN x y k0 (draw c 22695477 ((m:Nat)+2) - 1)).take 6).map uf.d)) hr8;have t9:=qG.new (c:=.lst (((KN x y k0 (draw c 22695477 ((m:Nat)+2) - 1)).drop 6).map uf.d)) hr9;refine i' (t9.lst pM) (i' pM ⟨by show 6+4<=Ch;lia,λr10 hr10=>?_⟩);obtain⟨hp,e,he,ee⟩:=Jg uf.d (xs:=KN x y k0 (draw c 22695477 ((m:Nat)+2) - 1)) (fD _ _) (m:=10) Z' c 1664525;exact⟨c,_,_,Z',hp,i' pM (i' ee ⟨_,.refl,q _ e (s2.trans (t8.trans (t9.trans (.new hr10)))) (L' he)⟩)⟩
def Na:Fq P w K mg base 5 a.bp (Lv a):=by
 refine fq G.bp.toDG rJ (λr u=>⟨_,(pz (pO 4 rJ (qc (qc (qc (qc (qc (BY (qN (ql pD)) pC) (BY (qN (ql pD)) pC)) (BY (qN (ql pD)) pC)) (BY (qN (ql pD)) pC)) (qN (rk pD pD pD))) (BY (qN (ql pD)) pC)))
 (pz (pO 4 rJ (pK v4 (pN (qK G) r G.i (rk U1 pC (pV qw Z' G.g qo (ql v4))))))
 (pz (pO 5 rJ (pQ (pY pD (rk pD pD pD))))
 (pz (pS (pH u v4 pD)
 (pA (pO 5 rJ (pQ (r6 pD pD))))
 pL)
 (pz (pS (pH u v4 pD)
 (pA (pO 5 rJ (pQ (ql pD))))
 pL)
 (pz (pS (W3.b3 (ww (pH u v4 pD) (ww (pH u v4 pD) (vU (pH u v4 pD)))))
 (pA (pO 5 rJ (pQ (ql pD))))
 pL)
 (pz (pS (pH u v4 pD)
 (pA (pF (pQ (ql pD))))
 pL)
 (pz (pS (pH u (pN (qK G) r G.i (rk U1 pC pC)) pC)
 (pA (pF (pN (P6 G) r G.bo (pY U1 (rk U2 U3 (pV qw Z' G.g qo (ql (pG v0))))))))
 pL)
 (pz (pO 6 rJ se)
 (pz (pS (pH u v4 pD)
 (pA (pO 6 rJ (pN (J5 G) r G.bn (pY v0 (rk U1 v4 v5)))))
 pL)
 (pz (pS (pH u v6 se)
 (pz (pO 7 rJ (pK U2 (pN (qK G) r G.i (rk U1 pC (pV qw Z' G.g qo (ql U2))))))
 (pA (pO 6 rJ (pQ (rk pD v7 (pK U3 (pN (qK G) r G.i (rk U1 pC (pV qw Z' G.g qo (ql U3))))))))))
 pL)
 (pA (pF v6))))))))))))),?_⟩)
 rintro ds M Q ⟨A,V,l,c,o,n,own,nm,rfl,rd,wf,ha,ho,hn,one,nne,ol,nl,q⟩
 have hz:=dN;refine S0 (t:=Gb _ _) (λU M'=>qG M M'/\∃r,oC M' r=Fa (Hu.map D.str)/\U=[Fa (.ref A.b),Fa (.int c),Fa (.ref o),Fa (.ref n),Fa (.ref r),Db,Db,Db]) (λnx h=>?_) ?_
 .have Yt:∀{N:Mp} {U:vf} (w0:Str) (m:Int) (nx:DK),qG M N->(0<=m/\m<=10)->(∀r N',qG M N'->qG N N'->oC N' r=Fa ((List.replicate m.toNat w0).map D.str)->nx (.ref r) N')->Tu (S' (uS (L3.c3 (.str w0)) xk)) (L3.c3 (.int m)) U N nx:=λ{N U} w0 m nx sn hm WE=>by refine⟨pk Z',λr1 Xi=>?_⟩;refine i' pM ⟨⟨by lia,by lia,by show 1<=1000;decide⟩,λr2 YT=>?_⟩;have t:=(qG.new (c:=.lst [D.str w0]) Xi).trans (qG.new (c:=.lst (List.replicate m.toNat [D.str w0]).flatten) YT);refine WE r2 _ (sn.trans t) t (pM.trans (eJ Fa ?_));rw[List.map_replicate];exact DR _ _
  have XE:∀{N:Mp} {p r:Uf} {xs ys:QQQ} (nx:DK),qG M N->oC N p=Fa (xs.map D.str)->oC N r=Fa (ys.map D.str)->xs.length+ys.length<=100->(∀r N',qG M N'->oC N' r=Fa ((xs++ys).map D.str)->nx (.ref r) N')->UT .Add (.ref p) (.ref r) N nx:=λ{N p r xs ys} nx sn hx hy hl WE=>by refine i' hx (i' hy ⟨by rw[cQ,cQ];lia,λr2 YT=>?_⟩);refine WE r2 _ (sn.trans (.new YT)) (pM.trans (eJ Fa ?_));rw[dB]
  dsimp only[Gb,o3];refine Yt "call" 5 _ .refl (by decide) λp1 N1 s1 _ l1=>Yt "answer" 5 _ s1 (by decide) λq2 N2 s2 t2 l2=>XE _ s2 (t2.lst l1) l2 (by decide) λp2 N3 s3 l3=>Yt "hang" 2 _ s3 (by decide) λq4 N4 s4 t4 l4=>XE _ s4 (t4.lst l3) l4 (by decide) λp5 N5 s5 l5=>Yt "hold" 3 _ s5 (by decide) λq6 N6 s6 t6 l6=>XE _ s6 (t6.lst l5) l6 (by decide) λp7 N7 s7 l7=>⟨pk Z',λr8 hr8=>?_⟩;have t8:=qG.new (c:=.lst ((["back","hand","join"]:QQQ).map D.str)) hr8;exact XE (ys:=["back","hand","join"]) _ (s7.trans t8) (t8.lst l7) pM (by decide) λp9 N9 s9 l9=>Yt "turn" 3 _ s9 (by decide) λq10 N10 s10 t10 l10=>XE _ s10 (t10.lst l9) l10 (by decide) λp11 N11 s11 l11=>h _ _ ⟨s11,p11,l11,Z'⟩
 rintro U M1 ⟨s1,r,lr,rfl⟩
 have s1n:=s1.lst hn;have s1o:=s1.lst ho;obtain⟨hp,w0,hw,ew⟩:=uI D.str (show Hu≠[]from fD _ _) c 48271;refine i' lr ⟨c,_,_,Z',hp,i' lr (i' ew ?_)⟩;obtain⟨Xz,x1,hx1,ex1⟩:=uI D.str one c 16807;obtain⟨WH,x2,hx2,ex2⟩:=uI D.str nne c 39373;have Yr:=rd.sub s1;have lc:((A.cs.map λk=>D.ref k.p).length:Int)=(V.calls.length:Nat):=by rw[cQ,rd.bd.len]
 clear lr hp ew;have hw:w0="call"\/w0="turn"\/RD w0:=by unfold Hu at hw;simp only[de,dA,e9]at hw;unfold RD;rcases hw with h|h|h|h|h|h|h|h|h|h|h|h|h|h|h|h|h|h|h|h|h<;>simp[h]
 have WC:∀M' (e:uf),qG M1 M'->e.nv->∃WA,qG WA M'/\Q e.d WA:=λM' e s f=>⟨M',.refl,q M' e (s1.trans s) f⟩;rcases hw with rfl|rfl|hw
 .refine⟨pk Z',c,_,_,Z',by decide,qJ (c:=draw c 950706376 9==0) (λ_=>pB Yr.bd.at_ (i' Z' (i' Yr.bd.ca ?_))) (λ_=>?_)⟩
  .rw[lc];exact⟨c,o,n,own,nm,V.calls.length,Z',s1o,s1n,ol,nl,rd.k,WC⟩
  exact i' s1o ⟨c,_,_,Z',Xz,i' s1o (i' ex1 (i' s1n ⟨c,_,_,Z',WH,i' s1n (i' ex2 ⟨pk Z',WC M1 (.call x1 x2) .refl trivial⟩)⟩))⟩
 .exact⟨pk Z',pk Z',WC M1 .turn .refl trivial⟩
 have lany:Jm [.int c,.ref o,.ref n,.int ((V.calls.length:Nat):Int)] M1 λd M'=>∃WA,qG WA M'/\Q d WA:=⟨c,o,n,own,nm,V.calls.length,Z',s1o,s1n,ol,nl,rd.k,WC⟩;have hw':=hw;rcases hw with rfl|rfl|rfl|rfl|rfl|rfl
 all_goals
  first
   | refine⟨pk rfl,pk rfl,c,_,_,rfl,by decide,qJ (c:=draw c 950706376 9==0) (λ_=>pB Yr.bd.at_ (i' rfl (i' Yr.bd.ca ?_))) (λ_=>⟨A,V,l,c,_,rfl,Yr,wf,ha,hw',λM' s=>⟨?_,λe f=>?_⟩⟩)⟩
   | refine⟨pk rfl,c,_,_,rfl,by decide,qJ (c:=draw c 950706376 9==0) (λ_=>pB Yr.bd.at_ (i' rfl (i' Yr.bd.ca ?_))) (λ_=>⟨A,V,l,c,_,rfl,Yr,wf,ha,hw',λM' s=>⟨?_,λe f=>?_⟩⟩)⟩
  .rw[lc];exact lany
  .exact i' (s.lst s1o) ⟨c,_,_,Z',Xz,i' (s.lst s1o) (i' ex1 (i' (s.lst s1n) ⟨c,_,_,Z',WH,i' (s.lst s1n) (i' ex2 ⟨pk Z',WC M' (.call x1 x2) s trivial⟩)⟩))⟩
  .cases e with
   | call y z=>exact WC M' (.call y z) s f
   | num v y ns=>exact WC M' (.num v y ns) s f
   | turn=>exact WC M' .turn s f
   | sw b i=>exact WC M' (.sw b i) s f
def Ko{x:Uf}{c:uP}(st:qR A M A' M')(h:x∉A.foot)(hx:M x=Fa c):x∉A'.foot:=λz=>by
 rcases st.2.1 x z with y|y
 .exact h y
 .rw[hx]at y;cases y
noncomputable def Hk(A:tW)(M:Mp):Mp:=λx=>if x∈A.foot then Db else M x
def FO{A:tW}{x:Uf}{ds:T0 D}(h:oC M x=Fa ds)(n:x∉A.foot):oC (Hk A M) x=Fa ds:=sS (by unfold Hk;rw[cV n];exact qm h)
structure Lp(a:Ad)(M0 N M:Mp)(b:Uf)(A:tW)(V:qp)(l:pJ)(m:Nat):Prop where
 cu:uy a M0 M b A V l (1+m) (3+2200*m)
 wf:WF l V
 ps:V.ps.length<=3
 own:∀x c,N x=Fa c->M x=Fa c/\x∉A.foot
variable {N:Mp}{m:Nat}
def Lp.s(g:Lp a M0 N M b A V l m):qG N M:=λx c e=>(g.own x c e).1
def Lp.sub(g:Lp a M0 N M b A V l m)(s:qG M M'):Lp a M0 N M' b A V l m:=⟨g.cu.sub s,g.wf,g.ps,λx c e=>⟨s x c (g.own x c e).1,(g.own x c e).2⟩⟩
def Lp.nk(g:Lp a M0 N M b A V l m):Lp a M0 N M b A V l (m+1):=⟨g.cu.mono (by lia) (by lia),g.wf,g.ps,g.own⟩
def Lp.after{e:uf}(g:Lp a M0 N M b A V l m)(hm:m<=63)(f:e.nv)(hr:xp l V e=Db)(cu:uy a M0 M' b A' (qH V (xj l V e)) l (1+m+1) (3+2200*m+40+33*(1+m)))(st:qR A M A' M'):Lp a M0 N M' b A' (qH V (xj l V e)) l (m+1):=⟨cu.mono (by lia) (by lia),TK g.cu.ok g.wf f hr,by rw[S9 g.cu.ok g.wf f hr];exact g.ps,λx c h=>⟨st.1 x c (g.own x c h).2 (g.own x c h).1,Ko st (g.own x c h).2 (g.own x c h).1⟩⟩
def Lp.rd(g:Lp a M0 N M b A V l m)(hm:m<=64):Rd a M A V l:=g.cu.rd (by lia) g.wf
def Lp.mk0(cu:uy a M0 M b A V l 1 3)(wf:WF l V)(ps:V.ps.length<=3):Lp a M0 (Hk A M) M b A V l 0:=⟨cu,wf,ps,λx c e=>by
 unfold Hk at e;split at e
 .cases e
 .rename_i h;exact⟨e,h⟩⟩
def Lp.start{b p:Uf}{A:tW}(ok:rf l)(pl:sU a M0 p l)(hb:M0 b=Db)(eb:A.b=b)(kp:rY b (pI M0 b (.ins a.c [])) M)(fr:∀x∈A.foot,x=b\/pI M0 b (.ins a.c []) x=Db)(bd:pP a M A (V0 p h l [])):uy a M0 M b A (V0 p h l []) l 1 3/\WF l (V0 p h l [])/\(V0 p h l []).ps.length<=3:=by
 have t:=qG.new (c:=.ins a.c []) hb;refine⟨⟨bd,pl,λx c e=>kp x c (MB e hb) (t x c e),λx hx=>?_,eb,⟨eU _,eU _,eU _,Aa ok,λk hk=>by cases hk⟩,ok,cQ ..⟩,SH ok,Aa ok⟩;rcases fr x hx with z|z
 .rw[z];exact hb
 .exact t.none z
def Im{m:Int}(h2:2<=m)(h:m<=100):2<=(wz ns m).mI.length:=by have:=(wY (s:=cell ns 0) h2 h).2;show 2<=((List.range (rQ (cell ns 0) m)).map _).length;rw[cQ,eD];exact this
def Qm(ns:T0 Int):Int:=draw (cell ns 0) 22695477 24
def RI(a:Ad):rj:=λds M Q=>AW λns m=>ds=[.rl (List.map D.int ns),.int m]/\2<=m/\m<=8/\∀M0 M' A p,qG M M0->(∀N,(∀x c,M x=Db->M0 x=Fa c->N x=Fa c)->sU a N p (wz ns m))->uy a M0 M' A.b A (V0 p (Qm ns) (wz ns m) []) (wz ns m) 1 3->Q (.ref A.b) M'
def KA(a:Ad):rj:=λds M Q=>De λA V l=>ds=[.ref (tW.b A)]/\Rd a M A V l/\∀M' r ro rn,qG M M'->M ro=Db->M rn=Db->oC M' r=Fa [.ref ro,.ref rn]->oC M' ro=Fa (l.pn.map D.str)->oC M' rn=Fa (l.nm.map D.str)->Q (.ref r) M'
def RG:Fq P w K mg base 10 a.bq (RI a):=by
 refine fq G.bq.toDG vS (λr u=>⟨_,(pz (HB (pN (Nb G) r G.bk (r6 v0 U1)) (vk (n:=3) Z' (qD (rD 2 vS) (qD (rD 3 vS) (qD (rD 4 vS) ud)))))
 (pA (pF (vj (Mb G) r G.c G.b7 G.ah.toDG (r6 (vj (Ol G) r G.h G.b8 G.ai.toDG (rk U2 U3 v4)) (pN (qK G) r G.i (rk (pN (LQ G) r G.O (r6 v0 pC)) pC pC))))))),?_⟩)
 rintro ds M Q ⟨ns,m,rfl,h2,h8,q⟩
 have ok:rf (wz ns m):=NW h2 h8;refine⟨ns,m,Z',h2,h8,λr1 r2 r3 M1 s1 e1 e2 e3=>⟨Z',?_⟩⟩;generalize wz ns m=l at e1 e2 e3 ok q;refine λp hp=>?_;have t2:=qG.new (c:=.ins a.h []) hp;refine⟨p,r1,r2,r3,l,Z',pU,t2.lst e1,t2.lst e2,t2.lst e3,ok,λM2 kp pa pf=>⟨Z',?_⟩⟩;have s2:qG M1 M2:=λx c e=>kp x c (MB e hp) (t2 x c e);refine⟨ns,0,Z',_,_,_,Z',by decide,λb hb=>?_⟩;have t5:=qG.new (c:=.ins a.c []) hb;have npb:p≠b:=λz=>by obtain⟨ph,gr,ws,X8,pr,gd,rs,i1,_⟩:=pa;rw[z,hb]at i1;cases i1
 refine⟨b,p,_,[],l,Z',pU,pa.sub t5,ok,npb,(λx hx=>by cases hx),λM5 A eb kp fr bd=>⟨Z',M5,.refl,?_⟩⟩;obtain⟨cu,_⟩:=Lp.start ok pa hb eb kp fr bd;subst eb;exact q M2 M5 A p (s1.trans s2) (λN H=>pf N λx c hx e=>H x c (hx.elim (λz=>by rw[z];exact s1.none hp) λz=>s1.none (t2.none z)) e) cu
def Ks:Fq P w K mg base 1 a.br (KA a):=by
 refine fq G.br.toDG zx (λr u=>⟨_,(pz (tj (i:=1) zx.nd Z' (Or.inl Z') Z' (xu (ix:=[Db]) (N':=["_law_phone"])) (qC (pG (pG v0))) (qA 0) rS (pK v0 pC))
 (pA (pF (qN (r6 U1 (qc U1 (qI Z' (xu (ix:=[Db]) (N':=["_law_group"])) (qC (pG (pG v0))) (qA 0) rS (pK v0 pC)))))))),?_⟩)
 rintro ds M Q ⟨A,V,l,rfl,rd,q⟩
 have hz:=dN;have p8:=rd.ok.p8;have g3:=rd.ok.g3;have pl:l.pn.length=l.mI.length:=cQ ..;obtain⟨ph,gr,ws,X8,pr,gd,rs,i1,i2,i3,_⟩:=rd.pl;refine pB rd.bd.at_ (i' Z' (pB i1 (i' Z' (i' i2 (qV (f:=Bc) i2 _ [] _ (by rw[cQ];simp only[dF];lia) (λd hd k hk=>?_) λro hro=>?_)))))
 .obtain⟨x,_,rfl⟩:=dw.mp hd;exact hk
 rw[dX,xi];obtain⟨M3,e0,t3,lo⟩:=vX (ds:=(l.mI.map (·.1)).map D.str) hro;rw[<-e0];have lo:oC M3 ro=Fa (l.pn.map D.str):=lo;show Aq (M3 A.b) _;refine pB (t3 _ _ rd.bd.at_) (i' Z' (pB (t3 _ _ i1) (i' Z' (i' (t3.lst i3) (qV (f:=Bc) (t3.lst i3) _ [] _ (by rw[cQ];simp only[dF];lia) (λd hd k hk=>?_) λp hp=>?_)))))
 .obtain⟨x,_,rfl⟩:=dw.mp hd;exact hk
 rw[dX,wX];have t:=qG.new (c:=.lst ((l.groups.map (·.1)).map D.str)) hp;refine i' (t.lst lo) (i' pM ⟨by rw[cQ,cQ,cQ];lia,λrn hrn=>⟨pk Z',λr hr=>?_⟩⟩);have t2:=t.trans (.new (c:=.lst (l.pn.map D.str++(l.groups.map (·.1)).map D.str)) hrn);have t3':=t2.trans (.new (c:=.lst [D.ref ro,.ref rn]) hr);refine⟨_,.refl,q _ r ro rn (t3.trans t3') hro ((t3.trans t).none hrn) pM (t3'.lst lo) ((qG.new hr).lst ?_)⟩;rw[pM,<-dB];rfl
def Gh(w:QQQ):Prop:=w.dropLast.Nodup/\∃z,w.getLast?=Fa z/\z∈w.dropLast
def CQ(V:qp)(i:Nat)(P:pE->Prop):Prop:=∃c,V.calls[i]?=Fa c/\P c
def pE.mY(c:pE):Prop:=c.way≠[]/\c.way.Nodup
def Ev.tells(V:qp):Ev->Prop
 | .new n _=>n=V.calls.length
 | .mT v=>CQ V v.i λc=>c.st="rings"/\c.at_=[]/\c.way.Nodup/\v.f=c.way.getLastD c.cr/\v.y=v.f
 | .asks i _ _=>CQ V i λc=>c.st="rings"/\c.mY
 | .quiet i=>CQ V i λc=>c.st="rings"/\c.mY
 | .rings i _=>CQ V i λc=>c.st="rings"/\c.mY
 | .waits i _=>CQ V i λc=>c.st="rings"/\c.mY
 | .talks i _=>CQ V i λc=>((c.st="rings"/\c.at_≠[])\/c.st="waits"\/c.st="held")/\c.mY
 | .held i _=>CQ V i λc=>c.st="talks"/\c.mY
 | .leaves i _=>CQ V i λc=>((c.st="rings"/\c.at_≠[])\/c.st="waits"\/c.st="talks")/\c.mY
 | .over i w=>CQ V i λc=>c.st≠"over"/\((w≠"ring"/\c.mY)\/(w="ring"/\Gh c.way))
 | .merge i j _=>i≠j/\CQ V i λc=>c.st≠"over"/\c.mY
 | _=>True
def uA:qp->T0 Ev->Prop
 | _,[]=>True
 | V,e::r=>e.tells V/\uA (pX V e) r
theorem wk:∀{V:qp} {es fs:T0 Ev},uA V es->uA (qH V es) fs->uA V (es++fs)
 | _,[],_,_,h=>h
 | _,_::_,_,h,g=>⟨h.1,wk h.2 g⟩
noncomputable def Ev.num:Ev->Option Nat
 | .new n _=>Fa n
 | .mT v=>Fa v.i
 | .asks i _ _=>Fa i
 | .merge i _ _=>Fa i
 | .rings i _=>Fa i
 | .quiet i=>Fa i
 | .waits i _=>Fa i
 | .talks i _=>Fa i
 | .held i _=>Fa i
 | .leaves i _=>Fa i
 | .over i _=>Fa i
 | _=>Db
noncomputable def sQ(es:T0 Ev)(i:Nat):T0 Ev:=es.filter λe=>e.num==Fa i
noncomputable def Ev.om:Ev->Option rW
 | .mT v=>Fa v
 | _=>Db
noncomputable def GU(ss:QQQ)(s:Str):Bool:=ss.any (·==s)
def vM(s:Str):Ev->Bool
 | .talks _ _=>GU ["rings","waits","held"] s
 | .held _ _=>s=="talks"
 | .leaves _ _=>GU ["rings","waits","talks"] s
 | .mT _=>GU ["goes","rings"] s
 | .rings _ _=>GU ["goes","rings"] s
 | .waits _ _=>GU ["goes","rings"] s
 | .quiet _=>GU ["goes","rings"] s
 | .asks _ _ _=>GU ["goes","rings"] s
 | _=>!(s=="over")&&!(s=="merged")
noncomputable def Cz(s:Str):Ev->Str
 | .rings _ _=>"rings"
 | .waits _ _=>"waits"
 | .talks _ _=>"talks"
 | .held _ _=>"held"
 | .over _ _=>"over"
 | .merge _ _ _=>"merged"
 | .quiet _=>"goes"
 | _=>s
def CU:Str->T0 Ev->Bool
 | _,[]=>pc
 | s,e::r=>vM s e&&CU (Cz s e) r
def Ap(s:Str)(T:T0 Ev):Str:=T.foldl Cz s
theorem zZ:∀(T:T0 Ev) (s:Str) (e:Ev),CU s (T++[e])=(CU s T&&vM (Ap s T) e)
 | [],s,e=>by show(vM s e&&pc)=(pc&&vM s e);rw[mj,eF]
 | x::r,s,e=>by show(vM s x&&CU (Cz s x) (r++[e]))=((vM s x&&CU (Cz s x) r)&&vM (Ap (Cz s x) r) e);rw[zZ r,Bool.and_assoc]
def yl(T:T0 Ev)(s:Str)(e:Ev):Ap s (T++[e])=Cz (Ap s T) e:=by unfold Ap;rw[js];rfl
def QJ(s:Str)(c:pE):Prop:=(s="goes"/\c.st="rings"/\c.at_=[])\/(s="merged"/\c.st="over")\/(s=c.st/\(c.st="rings"\/c.st="waits"\/c.st="talks"\/c.st="held"\/c.st="over"))
structure x9(i:Nat)(c:pE)(S:List Ev):Prop where
 hd:∃T,S=.new i c.cr::T/\CU "goes" T=pc/\QJ (Ap "goes" T) c/\(T=[]->c.way=[])/\(T≠[]->∃v T',T=.mT v::T')
 lg:∃ls,S.filterMap Ev.om=ls/\ls.map (·.g)=c.way/\ls.map (·.f)=(c.cr::c.way).dropLast/\ls.map (·.y)=ls.map (·.f)
 nd:(c.way.Nodup/\S.getLast?≠Fa (.over i "ring"))\/(Gh c.way/\(S.getLast?=Fa (.over i "ring")\/(c.st="rings"/\c.at_=[])))
 wd:∀w,S.getLast?=Fa (.over i w)->c.wd=Fa w
noncomputable def pE.nY(c:pE):Str×Str×QQQ×QQQ×Option Str:=(c.st,c.cr,c.way,c.at_,c.wd)
def x9.same{c c':pE}(h:x9 i c S)(e:c'.nY=c.nY):x9 i c' S:=by
 unfold pE.nY at e;injection e with e1 e
 injection e with e2 e
 injection e with e3 e
 injection e with e4 e5
 obtain⟨T,a,b,r,d,f⟩:=h.hd;obtain⟨ls,g1,g2,g3,g4⟩:=h.lg;refine⟨⟨T,by rw[e2];exact a,b,?_,by rw[e3];exact d,f⟩,⟨ls,g1,by rw[e3];exact g2,by rw[e2,e3];exact g3,g4⟩,?_,λw hw=>by rw[e5];exact h.wd w hw⟩
 .unfold QJ at r ⊢;rw[e1,e4];exact r
 .rw[e3,e1,e4];exact h.nd
def x9.add{c c':pE}{e:Ev}(h:x9 i c S)(hw:c.way≠[])(h1:c'.cr=c.cr)(h2:c'.way=c.way)(nl:e.om=Db)(nx:∀s,QJ s c->vM s e=pc/\QJ (Cz s e) c')(nd:(c.way.Nodup/\e≠.over i "ring")\/(Gh c.way/\e=.over i "ring"))(wd:∀w,e=.over i w->c'.wd=Fa w):x9 i c' (S++[e]):=by
 obtain⟨T,a,b,r,d,f⟩:=h.hd;obtain⟨ls,g1,g2,g3,g4⟩:=h.lg;have hT:T≠[]:=λz=>hw (d z);have gl:(S++[e]).getLast?=Fa e:=gL;refine⟨⟨T++[e],by rw[a,h1];rfl,by rw[zZ,b,(nx _ r).1];rfl,by rw[yl];exact(nx _ r).2,λz=>absurd z (by simp),λ_=>?_⟩,⟨ls,?_,by rw[h2];exact g2,by rw[h1,h2];exact g3,g4⟩,?_,λw hw=>wd w ?_⟩
 .obtain⟨v,T',rfl⟩:=f hT;exact⟨v,T'++[e],Z'⟩
 .rw[iK,g1,iy nl,jk,dO]
 .rw[gl,h2];rcases nd with nd|nd
  .exact .inl ⟨nd.1,λz=>nd.2 (cY z)⟩
  .exact .inr ⟨nd.1,.inl (eJ Fa nd.2)⟩
 .rw[gl]at hw;exact cY hw
def x9.mT{v:rW}{c:pE}(h:x9 v.i c S)(h1:c.st="rings")(h2:c.at_=[])(h3:c.way.Nodup)(h4:v.f=c.way.getLastD c.cr)(h5:v.y=v.f):x9 v.i (c.go v.g) (S++[.mT v]):=by
 obtain⟨T,a,b,r,d,f⟩:=h.hd;obtain⟨ls,g1,g2,g3,g4⟩:=h.lg;have gl:(S++[Ev.mT v]).getLast?=Fa (.mT v):=gL;have nx:vM (Ap "goes" T) (.mT v)=pc:=by
  rcases r with r|r|r
  .rw[r.1];rfl
  .rw[r.2]at h1;exact absurd h1 (by decide)
  .rw[r.1,h1];rfl
 refine⟨⟨T++[.mT v],by rw[a];rfl,by rw[zZ,b,nx];rfl,by rw[yl];exact r,λz=>absurd z (by simp),λ_=>?_⟩,⟨ls++[v],?_,?_,?_,?_⟩,?_,λw hw=>?_⟩
 .cases T with
  | nil=>exact⟨v,[],Z'⟩
  | cons x T=>obtain⟨v',T',e⟩:=f (by simp);exact⟨v',T'++[.mT v],by rw[e];rfl⟩
 .rw[iK,g1];rfl
 .rw[dB,g2];rfl
 .rw[dB,g3];show(c.cr::c.way).dropLast++[v.f]=(c.cr::(c.way++[v.g])).dropLast;rw[<-jQ,fP,h4];cases c.way with
  | nil=>rfl
  | cons x r=>
   rw[jd (by simp)];have:(x::r).dropLast++[(x::r).getLastD c.cr]=x::r:=by rw[List.getLastD_cons,<-List.getLast_eq_getLastD (by simp),List.dropLast_concat_getLast]
   rw[jQ,this]
 .rw[dB,dB,g4];show _++[v.y]=_++[v.f];rw[h5]
 .rw[gl];by_cases z:v.g∈c.way
  .refine .inr ⟨⟨?_,v.g,?_,?_⟩,.inr ⟨h1,h2⟩⟩
   .show(c.way++[v.g]).dropLast.Nodup;rw[fP];exact h3
   .show(c.way++[v.g]).getLast?=_;exact gL
   .show v.g∈(c.way++[v.g]).dropLast;rw[fP];exact z
  .refine .inl ⟨?_,λy=>by cases y⟩;show(c.way++[v.g]).Nodup;rw[fm];exact⟨h3,dH.mpr ⟨dA,dU⟩,λy hy z' hz e=>z (by rw[<-df.mp hz,<-e];exact hy)⟩
 .rw[gl]at hw;cases hw
structure xt(V:qp)(es:List Ev):Prop where
 ok:∀(i:Nat) c,V.calls[i]?=Fa c->x9 i c (sQ es i)
 lt:∀e∈es,∀n,e.num=Fa n->n<V.calls.length
def GQ{es:T0 Ev}{e:Ev}{i:Nat}(h:e.num=Fa i):sQ (es++[e]) i=sQ es i++[e]:=by unfold sQ;rw[hJ,gT (by rw[h];exact eQ _),hU]
def Ao{es:T0 Ev}{e:Ev}{i:Nat}(h:e.num≠Fa i):sQ (es++[e]) i=sQ es i:=by unfold sQ;rw[hJ,gU (p:=λe:Ev=>e.num==Fa i) (λz=>h (xz z)),hU,dO]
def xt.to{V V':qp}{es:T0 Ev}{e:Ev}(t:xt V es)(hl:V.calls.length<=V'.calls.length)(hn:∀n,e.num=Fa n->n<V'.calls.length)(h:∀(k:Nat) c',V'.calls[k]?=Fa c'->(e.num≠Fa k/\∃c,V.calls[k]?=Fa c/\c'.nY=c.nY)\/(e.num=Fa k/\x9 k c' (sQ es k++[e]))):xt V' (es++[e]):=by
 refine⟨λk c' hc=>?_,λx hx n XF=>?_⟩
 .rcases h k c' hc with⟨h1,c,h2,h3⟩|⟨h1,h2⟩
  .rw[Ao h1];exact(t.ok k c h2).same h3
  .rw[GQ h1];exact h2
 .rcases dR.mp hx with z|z
  .exact dE (t.lt x z n XF) hl
  .rw[df.mp z]at XF;exact hn n XF
def xt.one{V V':qp}{es:T0 Ev}{e:Ev}{i:Nat}{c:pE}{g:pE->pE}(t:xt V es)(hv:V'.calls=V.calls.modify i g)(hc:V.calls[i]?=Fa c)(hn:e.num=Fa i)(h:x9 i c (sQ es i)->x9 i (g c) (sQ es i++[e])):xt V' (es++[e]):=by
 have lt:=(cU.mp hc).1;have hl:V'.calls.length=V.calls.length:=by rw[hv,fA]
 refine t.to (jD hl.symm) (λn z=>by rw[hn]at z;cases z;rw[hl];exact lt) λk c' hk=>?_;rw[hv,gu]at hk;by_cases z:i=k
 .subst z;rw[hc]at hk;simp at hk;exact .inr ⟨hn,hk ▸ h (t.ok i c hc)⟩
 .simp[z]at hk;exact .inl ⟨λy=>z (by rw[hn]at y;exact cY y),c',hk,Z'⟩
def DV{V:qp}{es:T0 Ev}{e:Ev}(t:xt V es)(f:e.tells V):xt (pX V e) (es++[e]):=by
 have rr:∀{s:Str} {c:pE},QJ s c->c.st="rings"->s="goes"\/s="rings":=λ{s c} r h=>by
  rcases r with r|r|r
  .exact .inl r.1
  .rw[r.2]at h;exact absurd h (by decide)
  .exact .inr (r.1.trans h)
 have ro:∀{s:Str} {c:pE},QJ s c->c.st≠"over"->(!(s=="over")&&!(s=="merged"))=pc:=λ{s c} r h=>by
  rcases r with r|r|r
  .rw[r.1];decide+kernel
  .exact absurd r.2 h
  .rcases r.2 with z|z|z|z|z
   .rw[r.1,z];decide+kernel
   .rw[r.1,z];decide+kernel
   .rw[r.1,z];decide+kernel
   .rw[r.1,z];decide+kernel
   .exact absurd z h
 have is:∀{s:Str} {c:pE} {x:Str},QJ s c->c.st=x->x≠"rings"->x≠"over"->s=x:=λ{s c x} r h n1 n2=>by
  rcases r with r|r|r
  .exact absurd (h.symm.trans r.2.1) n1
  .exact absurd (h.symm.trans r.2) n2
  .exact r.1.trans h
 have ra:∀{s:Str} {c:pE},QJ s c->c.st="rings"/\c.at_≠[]->s="rings":=λ{s c} r h=>by
  rcases r with r|r|r
  .exact absurd r.2.2 h.2
  .rw[r.2]at h;exact absurd h.1 (by decide)
  .exact r.1.trans h.1
 have gr:∀{s:Str},s="goes"\/s="rings"->GU ["goes","rings"] s=pc:=λh=>by rcases h with rfl|rfl<;>rfl
 cases e with
 | new n x=>
  have f:n=V.calls.length:=f;subst f;refine t.to (by show _<=(V.calls++[vZ x]).length;rw[cT];lia) (λn z=>by cases z;show _<(V.calls++[vZ x]).length;rw[cT];exact fB _) λk c' hk=>?_;have hk:(V.calls++[vZ x])[k]?=Fa c':=hk;rw[List.getElem?_append]at hk;split at hk
  .rename_i lt;exact .inl ⟨λz=>by cases z;exact absurd lt (eN _),c',hk,Z'⟩
  .rename_i lt;have ek:k=V.calls.length:=by
    cases em:k - V.calls.length with
    | zero=>lia
    | succ m=>rw[em]at hk;cases hk
   subst ek;rw[gm]at hk;cases hk;refine .inr ⟨Z',?_⟩;have e0:sQ es V.calls.length=[]:=List.filter_eq_nil_iff.mpr λe he z=>eN _ (t.lt e he _ (xz z));rw[e0];exact⟨⟨[],Z',Z',.inl ⟨Z',Z',Z'⟩,λ_=>rfl,λz=>absurd Z' z⟩,⟨[],Z',Z',Z',Z'⟩,.inl ⟨dU,λz=>by cases z⟩,λw z=>by cases z⟩
 | mT v=>obtain⟨c,hc,h1,h2,h3,h4,h5⟩:=f;exact t.one (V':=pX V (.mT v)) (g:=(·.go v.g)) Z' hc Z' λs=>s.mT h1 h2 h3 h4 h5
 | asks i z ns=>obtain⟨c,hc,h1,h2,h3⟩:=f;refine t.one (V':=pX V (.asks i z ns)) (g:=id) (by rw[List.modify_id];rfl) hc Z' λs=>s.add h2 Z' Z' Z' (λs r=>⟨gr (rr r h1),r⟩) (.inl ⟨h3,λz=>by cases z⟩) λw z=>by cases z
 | next z n=>exact t.to (cZ _) (λn z=>by cases z) λk c' hk=>.inl ⟨(λz=>by cases z),c',hk,Z'⟩
 | sw b i=>exact t.to (cZ _) (λn z=>by cases z) λk c' hk=>.inl ⟨(λz=>by cases z),c',hk,Z'⟩
 | turn=>
  refine t.to (by show _<=(V.calls.map pE.tick).length;rw[cQ];exact cZ _) (λn z=>by cases z) λk c' hk=>.inl ⟨(λz=>by cases z),?_⟩;have hk:(V.calls.map pE.tick)[k]?=Fa c':=hk;rw[dq]at hk;cases e:V.calls[k]? with
  | none=>rw[e]at hk;cases hk
  | some c=>rw[e]at hk;cases hk;refine⟨c,Z',?_⟩;unfold pE.tick;split<;>rfl
 | quiet i=>obtain⟨c,hc,h1,h2,h3⟩:=f;exact t.one (V':=pX V (.quiet i)) (g:=pE.nG) Z' hc Z' λs=>s.add h2 Z' Z' Z' (λs r=>⟨gr (rr r h1),.inl ⟨Z',h1,Z'⟩⟩) (.inl ⟨h3,λz=>by cases z⟩) λw z=>by cases z
 | rings i ps=>obtain⟨c,hc,h1,h2,h3⟩:=f;exact t.one (V':=pX V (.rings i ps)) (g:=(·.ring ps)) Z' hc Z' λs=>s.add h2 Z' Z' Z' (λs r=>⟨gr (rr r h1),.inr (.inr ⟨Z',.inl Z'⟩)⟩) (.inl ⟨h3,λz=>by cases z⟩) λw z=>by cases z
 | waits i x=>obtain⟨c,hc,h1,h2,h3⟩:=f;exact t.one (V':=pX V (.waits i x)) (g:=(·.wait x)) Z' hc Z' λs=>s.add h2 Z' Z' Z' (λs r=>⟨gr (rr r h1),.inr (.inr ⟨Z',.inr (.inl Z')⟩)⟩) (.inl ⟨h3,λz=>by cases z⟩) λw z=>by cases z
 | talks i ms=>
  obtain⟨c,hc,h1,h2,h3⟩:=f;refine t.one (V':=pX V (.talks i ms)) (g:=(·.nE ms)) Z' hc Z' λs=>s.add h2 Z' Z' Z' (λs r=>⟨?_,.inr (.inr ⟨Z',.inr (.inr (.inl Z'))⟩)⟩) (.inl ⟨h3,λz=>by cases z⟩) λw z=>by cases z
  rcases h1 with z|z|z
  .rw[ra r z];rfl
  .rw[is r z (by decide) (by decide)];rfl
  .rw[is r z (by decide) (by decide)];rfl
 | held i x=>obtain⟨c,hc,h1,h2,h3⟩:=f;exact t.one (V':=pX V (.held i x)) (g:=(·.hold x)) Z' hc Z' λs=>s.add h2 Z' Z' Z' (λs r=>⟨by rw[is r h1 (by decide) (by decide)];rfl,.inr (.inr ⟨Z',.inr (.inr (.inr (.inl Z')))⟩)⟩) (.inl ⟨h3,λz=>by cases z⟩) λw z=>by cases z
 | leaves i x=>
  obtain⟨c,hc,h1,h2,h3⟩:=f;refine t.one (V':=pX V (.leaves i x)) (g:=(·.drop x)) Z' hc Z' λs=>s.add h2 Z' Z' Z' (λs r=>?_) (.inl ⟨h3,λz=>by cases z⟩) λw z=>by cases z
  rcases h1 with z|z|z
  .rw[ra r z];exact⟨Z',.inr (.inr ⟨z.1.symm,.inl z.1⟩)⟩
  .rw[is r z (by decide) (by decide)];exact⟨Z',.inr (.inr ⟨z.symm,.inr (.inl z)⟩)⟩
  .rw[is r z (by decide) (by decide)];exact⟨Z',.inr (.inr ⟨z.symm,.inr (.inr (.inl z))⟩)⟩
 | over i w=>
  obtain⟨c,hc,h1,h2⟩:=f;have hw:c.way≠[]:=by
   rcases h2 with h2|h2
   .exact h2.2.1
   .obtain⟨_,z,hz,_⟩:=h2.2;intro y;rw[y]at hz;cases hz
  refine t.one (V':=pX V (.over i w)) (g:=(·.over w)) Z' hc Z' λs=>s.add hw Z' Z' Z' (λs r=>⟨ro r h1,.inr (.inr ⟨Z',.inr (.inr (.inr (.inr Z')))⟩)⟩) ?_ λw' z=>by cases z;rfl
  rcases h2 with h2|h2
  .exact .inl ⟨h2.2.2,λz=>h2.1 (by injection z)⟩
  .exact .inr ⟨h2.2,by rw[h2.1]⟩
 | merge i j ms=>
  obtain⟨hij,c,hc,h1,h2,h3⟩:=f;have lt:=(cU.mp hc).1;have hl:(pX V (.merge i j ms)).calls.length=V.calls.length:=by show((V.calls.modify i _).modify j _).length=_;rw[fA,fA]
  refine t.to (jD hl.symm) (λn z=>by cases z;rw[hl];exact lt) λk c' hk=>?_;have hk:((V.calls.modify i (·.over "merged")).modify j (·.mem ms))[k]?=Fa c':=hk;rw[gu,gu]at hk;by_cases z:i=k
  .subst z;rw[hc]at hk;simp[hij.symm]at hk;refine .inr ⟨Z',hk ▸ (t.ok i c hc).add h2 Z' Z' Z' (λs r=>⟨ro r h1,.inr (.inl ⟨Z',Z'⟩)⟩) (.inl ⟨h3,λz=>by cases z⟩) λw z=>by cases z⟩
  .refine .inl ⟨λy=>z (by cases y;rfl),?_⟩;cases e:V.calls[k]? with
   | none=>rw[e]at hk;simp at hk
   | some d=>
    rw[e]at hk;refine⟨d,Z',?_⟩;by_cases y:j=k
    .simp[z,y]at hk;rw[<-hk];rfl
    .simp[z,y]at hk;rw[<-hk]
theorem Ct:∀{es:T0 Ev} {V:qp} {gs:T0 Ev},xt V gs->uA V es->xt (qH V es) (gs++es)
 | [],V,gs,h,_=>by rw[dO];exact h
 | e::r,V,gs,h,f=>by have:=Ct (es:=r) (DV h f.1) f.2;rw[eh]at this;exact this
def E7{w:QQQ}{z:Str}(h:w.Nodup)(n:z∉w):(w++[z]).Nodup:=by rw[fm];exact⟨h,dH.mpr ⟨dA,dU⟩,λy hy z' hz e=>n (by rw[<-df.mp hz,<-e];exact hy)⟩
structure VO(z:Str)(way:QQQ)(st:sd)(r:vB×sd)(new:sd):Prop where
 e:r.2=st++new
 nd:(way++new.map (·.1)).Nodup
 hd:new=[]\/∃fs r,new=(z,fs)::r
 rg:∀ns,r.1=.ring ns->ns.headD Str.empty∈way++new.map (·.1)
 em:new=[]->∀ns,r.1=.ring ns->z∈way
theorem Gx{V:qp}{c:Str}:∀(n:Nat) (z:Str) (way:QQQ) (st:sd),way.Nodup->∃new,VO z way st (uE l V c n z way st) new
 | 0,z,way,st,h=>⟨[],(dO _).symm,by rw[fO,dO];exact h,.inl Z',(λns e=>by cases e),λ_ ns e=>by cases e⟩
 | n+1,z,way,st,h=>by
  unfold uE;by_cases hz:hasS way z=pc
  .rw[cX hz];refine⟨[],(dO _).symm,by rw[fO,dO];exact h,.inl Z',λns e=>?_,λ_ _ _=>qz.mp hz⟩;have h1:way.findIdx (·==z)<way.length:=iH ⟨z,qz.mp hz,eQ z⟩;cases e;rw[fO,dO,gi h1];exact gO h1
  rw[cV hz];have nz:z∉way:=λy=>hz (qz.mpr y);have stop:∀(e:vB) (fs:T0 Nat),(∀ns,e≠.ring ns)->∃new,VO z way st (e,st++[(z,fs)]) new:=λe fs WR=>⟨[(z,fs)],Z',E7 h nz,.inr ⟨fs,[],Z'⟩,λns g=>absurd g (WR ns),λz=>by cases z⟩
  cases hf:BN l V c z with
  | nil=>
   refine stop _ [] λns e=>?_
   unfold Gy at e;split at e<;>cases e
  | cons i r=>
   dsimp only;cases ew:l.mH[i]? with
   | none=>exact⟨[],(dO _).symm,by rw[fO,dO];exact h,.inl Z',(λns e=>by cases e),λ_ ns e=>by cases e⟩
   | some w=>
    dsimp only[Option.elim];have Xp:∀y,∃new,VO z way st (uE l V c n y (way++[z]) (st++[(z,i::r)])) new:=λy=>by
     obtain⟨new,a,b,d,f,_⟩:=Gx n y (way++[z]) (st++[(z,i::r)]) (E7 h nz);refine⟨(z,i::r)::new,by rw[a,eh];rfl,?_,.inr ⟨_,new,Z'⟩,λns e=>?_,λz=>by cases z⟩
     .rw[eh]at b;exact b
     .have:=f ns e;rw[eh]at this;exact this
    cases hv:w.2 with
    | bar x ns=>exact stop _ _ λns g=>by cases g
    | shut x ns=>exact stop _ _ λns g=>by cases g
    | wait x=>exact stop _ _ λns g=>by cases g
    | breaks x=>exact stop _ _ λns g=>by cases g
    | always x y=>exact Xp y
    | night x y a b=>exact Xp y
    | busy x y=>exact Xp y
    | silent x y n=>exact Xp y
structure vp(V:qp)(i:Nat)(w:QQQ):Prop where
 c:∃c,V.calls[i]?=Fa c/\c.st="rings"/\c.at_=[]/\c.way=w
def vp.mT{V:qp}{v:rW}{w:QQQ}(h:vp V v.i w):vp (pX V (.mT v)) v.i (w++[v.g]):=by obtain⟨c,a,b,d,e⟩:=h.c;refine⟨c.go v.g,?_,b,d,by rw[<-e];rfl⟩;show(V.calls.modify v.i _)[v.i]?=_;rw[gW,a];rfl
def vp.asks{V:qp}{w:QQQ}{z:Str}{fs:T0 Nat}(h:vp V i w):vp (pX V (.asks i z fs)) i w:=⟨h.c⟩
def vp.oP{V:qp}{v:rW}{w:QQQ}{u:Str}(h:vp V v.i w)(nd:w.Nodup)(hu:w.getLast?=Fa u)(e:v.f=u)(e2:v.y=v.f):(Ev.mT v).tells V:=by obtain⟨c,a,b,d,rfl⟩:=h.c;exact⟨c,a,b,d,nd,by rw[e,fN,hu];rfl,e2⟩
def vp.mY{V:qp}{w:QQQ}(h:vp V i w)(ne:w≠[])(nd:w.Nodup):CQ V i λc=>c.st="rings"/\c.mY:=by obtain⟨c,a,b,d,rfl⟩:=h.c;exact⟨c,a,b,ne,nd⟩
theorem AH(i:Nat):∀(st:sd) {V:qp} {w:QQQ} {u:Str},vp V i w->w.getLast?=Fa u->(w++st.map (·.1)).Nodup->uA V (qT i (Fa u) st)/\vp (qH V (qT i (Fa u) st)) i (w++st.map (·.1))
 | [],V,w,u,h,_,nd=>⟨trivial,by rw[fO,dO];exact h⟩
 | (y,fs)::r,V,w,u,h,hu,nd=>by
  have e:w++((y,fs)::r).map (·.1)=(w++[y])++r.map (·.1):=by rw[eh];rfl
  rw[e]at nd ⊢;have nd1:=(fm.mp nd).1;have h1:vp (pX V (.mT ⟨i,u,y,u⟩)) i (w++[y]):=h.mT (v:=⟨i,u,y,u⟩);have h2:=h1.asks (z:=y) (fs:=fs);obtain⟨a,b⟩:=AH i r (u:=y) h2 gL nd;exact⟨⟨h.oP (v:=⟨i,u,y,u⟩) (fm.mp nd1).1 hu Z' Z',h1.mY (by simp) nd1,a⟩,b⟩
def F6{V:qp}{i:Nat}{k:pE}(ok:rf l)(wf:zy l V (Fa i))(hk:V.calls[i]?=Fa k)(hd:k.way.dropLast.Nodup):uA V (vN l V i):=by
 have W4:=wf.ok i k hk;have pe:=TF wf hk;have ow:vp V i k.way:=⟨k,hk,pe.1,pe.2.2.2.2,Z'⟩;unfold vN;rw[hk];dsimp only[Option.elim];obtain⟨z,hz⟩:∃z,k.way.getLast?=Fa z:=by
  cases e:k.way.getLast? with
  | none=>exact absurd (ft.mp e) W4.wy.1
  | some z=>exact⟨z,Z'⟩
 have hz2:k.way.dropLast++[z]=k.way:=by obtain⟨ys,e⟩:=jB.mp hz;rw[e,fP]
 rw[show k.way.getLastD Str.empty=z by rw[fN,hz];rfl];have ro:xc l V k.cr (l.nm.length+1) [] (tq l V k.cr z k.way.dropLast):=xG ok _ _ _ _ (W4.wy.2 z (gp hz)) λx hx=>W4.wy.2 x (gq _ hx);have eo:=Hl ok wf hk ro.e;by_cases hr:hasS k.way.dropLast z=pc
 .have:tq l V k.cr z k.way.dropLast=(.ring (k.way.dropLast.drop (k.way.dropLast.findIdx (·==z))),[]):=by unfold tq uE;rw[cX hr]
  rw[this];refine⟨⟨k,hk,by rw[pe.1];decide,.inr ⟨Z',hd,z,hz,qz.mp hr⟩⟩,trivial⟩
 have nd:k.way.Nodup:=by rw[<-hz2];exact E7 hd λy=>hr (qz.mpr y)
 obtain⟨new,a,b,d,f,em⟩:=Gx (l:=l) (V:=V) (c:=k.cr) (l.nm.length+1) z k.way.dropLast [] hd;have a:(tq l V k.cr z k.way.dropLast).2=[]++new:=a;have f:∀ns,(tq l V k.cr z k.way.dropLast).1=.ring ns->ns.headD Str.empty∈k.way.dropLast++new.map (·.1):=f;have em:new=[]->∀ns,(tq l V k.cr z k.way.dropLast).1=.ring ns->z∈k.way.dropLast:=em;generalize tq l V k.cr z k.way.dropLast=R at eo a f em;obtain⟨e,st⟩:=R;have a:st=new:=a;subst a;dsimp only at f eo em ⊢;have h1:uA V (qT i Db st)/\∃w,vp (qH V (qT i Db st)) i w/\w.Nodup/\w≠[]/\(∀s,st.getLast?=Fa s->w.getLast?=Fa s.1)/\∀ns,e=.ring ns->ns.headD Str.empty∈w:=by
  rcases d with rfl|⟨fs,r,rfl⟩
  .refine⟨trivial,k.way,ow,nd,W4.wy.1,(λs hs=>by cases hs),λns hns=>?_⟩;have:=f ns hns;rw[fO,dO]at this;exact gq _ this
  .have ew:k.way.dropLast++((z,fs)::r).map (·.1)=k.way++r.map (·.1):=by show k.way.dropLast++([z]++r.map (·.1))=_;rw[<-eh,hz2]
   rw[ew]at b f;obtain⟨t1,t2⟩:=AH i r (u:=z) (ow.asks (z:=z) (fs:=fs)) hz b;refine⟨⟨ow.mY W4.wy.1 nd,t1⟩,_,t2,b,by rw[ne_eq,List.append_eq_nil_iff];exact λy=>W4.wy.1 y.1,λs hs=>?_,f⟩;rw[List.getLast?_append];cases r with
   | nil=>cases hs;rw[fO,List.getLast?_nil];exact hz
   | cons x r=>
    have hs:(x::r).getLast?=Fa s:=by rw[<-hs];exact(jT ..).symm
    rw[List.getLast?_map,hs];rfl
 obtain⟨t,w,o,nw,ne,hl,hf⟩:=h1;refine wk t ?_;generalize qH V (qT i Db st)=V1 at o;cases e with
 | ring ns=>
  unfold tG sD;dsimp only;cases hs:st.getLast? with
  | none=>exact absurd (qz.mpr (em (ft.mp hs) ns Z')) hr
  | some s=>have o2:=o.mT (v:=⟨i,s.1,ns.headD Str.empty,s.1⟩);refine⟨o.oP (v:=⟨i,s.1,ns.headD Str.empty,s.1⟩) nw (hl s hs) Z' Z',?_,trivial⟩;obtain⟨c,c1,c2,c3,c4⟩:=o2.c;refine⟨c,c1,by rw[c2];decide,.inr ⟨Z',?_⟩⟩;rw[c4];exact⟨by rw[fP];exact nw,_,gL,by rw[fP];exact hf ns Z'⟩
 | rings z ps=>
  show uA V1 ((if (l.mO z=="turns")=pc then _ else _)++[.rings i ps]);split
  .exact⟨trivial,o.mY ne nw,trivial⟩
  .exact⟨o.mY ne nw,trivial⟩
 | waits z=>exact⟨o.mY ne nw,trivial⟩
 | breaks z=>
  obtain⟨j,d,t1,t2,t3,t4⟩:=eo;have ZF:sD l V i (.breaks z)=[.merge i j (d.ms++[k.cr])]:=by unfold sD;dsimp only;rw[t1,hk];dsimp only;rw[t2];rfl
  show uA V1 ([]++sD l V i (.breaks z));rw[ZF];obtain⟨c,c1,c2,c3,c4⟩:=o.c;exact⟨⟨t3,c,c1,by rw[c2];decide,by rw[c4];exact ne,by rw[c4];exact nw⟩,trivial⟩
 | engaged z=>obtain⟨c,c1,c2,c3,c4⟩:=o.c;exact⟨⟨c,c1,by rw[c2];decide,.inl ⟨by decide,by rw[c4];exact ne,by rw[c4];exact nw⟩⟩,trivial⟩
 | barred=>obtain⟨c,c1,c2,c3,c4⟩:=o.c;exact⟨⟨c,c1,by rw[c2];decide,.inl ⟨by decide,by rw[c4];exact ne,by rw[c4];exact nw⟩⟩,trivial⟩
def x9.live{c:pE}(h:x9 i c S)(k:uU l lf c)(ho:c.st≠"over"):c.way.Nodup:=by
 rcases h.nd with z|⟨_,z|z⟩
 .exact z.1
 .obtain⟨T,a,b,r,d,f⟩:=h.hd;have e:Ap "goes" T="over":=by
   obtain⟨ys,e⟩:=jB.mp z;rw[a]at e;cases ys with
   | nil=>cases e
   | cons y ys=>have:T=ys++[.over i "ring"]:=(gG e).2;rw[this,yl];rfl
  rw[e]at r;rcases r with r|r|r
  .exact absurd r.1 (by decide)
  .exact absurd r.1 (by decide)
  .exact absurd r.1.symm ho
 .rcases k.sh with s|s
  .exact absurd z.2 (s.2.2.2.2.2 Z')
  .rcases s.2 with s|s|⟨_,s⟩|s
   .rw[s.1]at z;exact absurd z.1 (by decide)
   .rw[s.1]at z;exact absurd z.1 (by decide)
   .rw[s.1]at z;exact absurd z.1 (by decide)
   .rw[s.1]at z;exact absurd z.1 (by decide)
def xt.mY{V:qp}{es:T0 Ev}{i:Nat}{c:pE}(t:xt V es)(wf:WF l V)(hc:V.calls[i]?=Fa c)(ho:c.st≠"over"):c.mY:=⟨(wf.ok i c hc).wy.1,(t.ok i c hc).live (wf.ok i c hc) ho⟩
def H9{V:qp}{es:T0 Ev}(ok:rf l)(wf:WF l V)(t:xt V es):uA V (tI l V i (yy l V i)):=by
 have d:=Eb (V:=V) (i:=i) ok;generalize yy l V i=fs at d;cases d with
 | no=>trivial
 | on c k r b x y n hc hs hk hw hy=>
  have fi:=t.mY wf hc (by rw[hs];decide);rw[yj hk];refine wk ⟨⟨c,hc,hs,fi⟩,⟨c,hc,hs,fi⟩,?_,trivial⟩ (F6 ok (Br wf hc hs hy) (Bp hc) ?_)
  .refine⟨c.nG,?_,hs,Z',fi.2,?_,Z'⟩
   .show(V.calls.modify i pE.nG)[i]?=_;rw[gW,hc];rfl
   .show x=c.way.getLastD c.cr;rw[fN,hw];rfl
  .show(c.way++[y]).dropLast.Nodup;rw[fP];exact fi.2
theorem BH(ok:rf l):∀(is:T0 Nat) {V:qp} {es:T0 Ev},WF l V->xt V es->uA V (rB l is V)
 | [],V,_,_,_=>by unfold rB;trivial
 | i::r,V,es,wf,t=>by unfold rB;have s:=H9 (i:=i) ok wf t;exact wk s (BH ok r (FG ok wf) (Ct t s))
def Nc{V:qp}{es:T0 Ev}{e:uf}(ok:rf l)(wf:WF l V)(t:xt V es)(f:e.nv)(h:xp l V e=Db):uA V (xj l V e):=by
 have held:∀{i:Nat} {c:pE} {x:Str},V.calls[i]?=Fa c->c.hd=Fa x->c.st="held":=λ{i c x} hc h=>by
  rcases(wf.ok i c hc).sh with s|s
  .rw[s.2.2.1]at h;cases h
  .rcases s.2 with s|s|⟨_,s⟩|s
   .rw[s.2.2.1]at h;cases h
   .rw[s.2.2.1]at h;cases h
   .exact s.1
   .rw[s.2.2.1]at h;cases h
 have at_:∀{i:Nat} {c:pE} {x:Str},V.calls[i]?=Fa c->hasS c.at_ x=pc->(c.st="rings"/\c.at_≠[])\/c.st="waits":=λ{i c x} hc h=>by
  have ne:c.at_≠[]:=λz=>by rw[z]at h;cases h
  rcases(wf.ok i c hc).sh with s|s
  .exact .inl ⟨s.1,ne⟩
  .rcases s.2 with s|s|⟨_,s⟩|s
   .exact .inr s.1
   .exact absurd s.2.2.2.2 ne
   .exact absurd s.2.2.2.2.2 ne
   .exact absurd s.2.2.2.1 ne
 cases e with
 | call y z=>
  obtain⟨h1,h2,h3,h4⟩:=Bt h;have hk:(qH V [.new V.calls.length y,.mT ⟨V.calls.length,y,z,y⟩]).calls[V.calls.length]?=Fa ((vZ y).go z):=by show((V.calls++[vZ y]).modify V.calls.length _)[V.calls.length]?=_;rw[gW,eE (cZ _),gm];rfl
  refine wk ⟨Z',?_,trivial⟩ (F6 ok (FR wf h1 h2 h3 h4) hk dU);refine⟨vZ y,?_,Z',Z',dU,Z',Z'⟩;show(V.calls++[vZ y])[V.calls.length]?=_;rw[eE (cZ _),gm];rfl
 | turn=>exact⟨trivial,BH ok _ (Bi wf) (DV t trivial)⟩
 | sw b i=>exact⟨trivial,trivial⟩
 | num w x ns=>
  obtain⟨_,n⟩:=Fm f h;cases n with
  | answer i c hi hc h1 h2 h3=>
   show uA V [A9 V "answer" x i.toNat];rw[xl hc];have a:=at_ hc h1;refine⟨⟨c,hc,?_,t.mY wf hc λz=>?_⟩,trivial⟩
   .rcases a with a|a
    .exact .inl a
    .exact .inr (.inl a)
   .rcases a with a|a
    .rw[z]at a;exact absurd a.1 (by decide)
    .rw[z]at a;exact absurd a (by decide)
  | hang i c hi hc h1=>
   have no:c.st≠"over":=λz=>by
    rcases(wf.ok _ c hc).sh with s|s
    .rw[z]at s;exact absurd s.1 (by decide)
    .rcases s.2 with s|s|⟨_,s⟩|s
     .rw[z]at s;exact absurd s.1 (by decide)
     .rw[z]at s;exact absurd s.1 (by decide)
     .rw[z]at s;exact absurd s.1 (by decide)
     .unfold pE.nq pE.mR at h1;rw[s.2.2.2.1,s.2.1,z]at h1;rw[show(("over":Str)=="rings"||("over":Str)=="waits")=lf by decide+kernel]at h1;have h1:(lf&&(x==c.cr)||(lf||false))=pc:=h1;rw[eL]at h1;cases h1
   have fi:=t.mY wf hc no;show uA V (va V x i.toNat);unfold va;rw[hc];dsimp only[Option.elim];split
   .exact⟨⟨c,hc,no,.inl ⟨by decide,fi⟩⟩,trivial⟩
   split
   .rename_i ha;refine⟨⟨c,hc,?_,fi⟩,?_⟩
    .rcases at_ hc ha with a|a
     .exact .inl a
     .exact .inr (.inl a)
    .split
     .refine⟨⟨c.drop x,?_,no,.inl ⟨by decide,fi⟩⟩,trivial⟩;show(V.calls.modify i.toNat _)[i.toNat]?=_;rw[gW,hc];rfl
     .trivial
   split
   .rename_i h2;refine⟨⟨c,hc,?_,fi⟩,trivial⟩;rcases(wf.ok _ c hc).sh with s|s
    .rw[s.2.1]at h2;exact absurd h2 (by decide)
    .rcases s.2 with s|s|⟨_,s⟩|s
     .exact .inr (.inl s.1)
     .exact .inr (.inr s.1)
     .rw[s.2.1]at h2;exact absurd h2 (by decide)
     .exact absurd s.1 no
   .exact⟨⟨c,hc,no,.inl ⟨by decide,fi⟩⟩,trivial⟩
  | hold i c hi hc h1=>show uA V [A9 V "hold" x i.toNat];rw[xl hc];have s:=(yo.mp h1).1;exact⟨⟨c,hc,s,t.mY wf hc (by rw[s];decide)⟩,trivial⟩
  | back i c hi hc h1 h2=>show uA V [A9 V "back" x i.toNat];rw[xl hc];have s:=held hc h1;exact⟨⟨c,hc,.inr (.inr s),t.mY wf hc (by rw[s];decide)⟩,trivial⟩
  | two _ i j c d hi hj hw hc hd h1 h2=>show uA V [DN V w x i.toNat j.toNat];rw[E1 hc hd];have s:=held hc h1;exact⟨⟨(EC (w:=w) wf hc hd h1 h2).1,c,hc,by rw[s];decide,t.mY wf hc (by rw[s];decide)⟩,trivial⟩
def Ev.word:Ev->Str
 | .new _ _=>"new"
 | .mT _=>"leg"
 | .asks _ _ _=>"asks"
 | .next _ _=>"next"
 | .merge _ _ _=>"merge"
 | .turn=>"turn"
 | .sw b _=>S7 b
 | .rings _ _=>"rings"
 | .quiet _=>"quiet"
 | .waits _ _=>"waits"
 | .talks _ _=>"talks"
 | .held _ _=>"held"
 | .leaves _ _=>"leaves"
 | .over _ _=>"over"
def Ra:rj:=λds M Q=>AW λs (e:Ev)=>ds=[.str s,.str e.word]/\Q (.bl (vM s e)) M
def SC:rj:=λds M Q=>AW λs (e:Ev)=>ds=[.str s,.str e.word]/\Q (.str (Cz s e)) M
def Sk:Fq P w K mg base 1 a.bt Ra:=by
 refine fq G.bt.toDG FW (λr u=>⟨_,(pz (pS (pH u U1 pD)
 (pA (pF (qa u v0 (pQ (rk pD pD pD)))))
 pL)
 (pz (pS (pH u U1 pD)
 (pA (pF (qa u v0 pD)))
 pL)
 (pz (pS (pH u U1 pD)
 (pA (pF (qa u v0 (pQ (rk pD pD pD)))))
 pL)
 (pz (pS (pH u U1 (pQ (pY pD (rk pD pD pD))))
 (pA (pF (qa u v0 (pQ (r6 pD pD)))))
 pL)
 (pz (pS (pH u U1 pD)
 (pA (pF (qa u v0 (pQ (r6 pD pD)))))
 pL)
 (pA (pF (sI (qa u v0 pD) (sf (qa u v0 pD)))))))))),?_⟩)
 rintro ds M Q ⟨s,e,rfl,q⟩
 have W9:vM s e=(!(s=="over")&&!(s=="merged"))->if (!(s=="over"))=pc then(∃WA,qG WA M/\Q (.bl (!(s=="merged"))) WA)else ∃WA,qG WA M/\Q (.bl lf) WA:=λh=>by
  rw[h]at q;cases e:(!(s=="over"))with
  | true=>rw[e]at q;exact Lw ⟨M,.refl,q⟩
  | false=>rw[e]at q;exact EO ⟨M,.refl,q⟩
 cases e with
 | talks i ms=>exact⟨pk Z',Z',Z',M,.refl,by rw[show inD (.str s) [.str "rings",.str "waits",.str "held"]=_ from qW s ["rings","waits","held"]];exact q⟩
 | held i x=>exact⟨M,.refl,q⟩
 | leaves i x=>exact⟨pk Z',Z',Z',M,.refl,by rw[show inD (.str s) [.str "rings",.str "waits",.str "talks"]=_ from qW s ["rings","waits","talks"]];exact q⟩
 | asks i z ns=>exact⟨pk Z',Z',Z',pk Z',Z',Z',M,.refl,by rw[show inD (.str s) [.str "goes",.str "rings"]=_ from qW s ["goes","rings"]];exact q⟩
 | mT v=>exact⟨pk Z',Z',Z',pk Z',Z',Z',M,.refl,by rw[show inD (.str s) [.str "goes",.str "rings"]=_ from qW s ["goes","rings"]];exact q⟩
 | rings i ps=>exact⟨pk Z',Z',Z',pk Z',Z',Z',M,.refl,by rw[show inD (.str s) [.str "goes",.str "rings"]=_ from qW s ["goes","rings"]];exact q⟩
 | waits i x=>exact⟨pk Z',Z',Z',pk Z',Z',Z',M,.refl,by rw[show inD (.str s) [.str "goes",.str "rings"]=_ from qW s ["goes","rings"]];exact q⟩
 | quiet i=>exact⟨pk Z',Z',Z',pk Z',Z',Z',M,.refl,by rw[show inD (.str s) [.str "goes",.str "rings"]=_ from qW s ["goes","rings"]];exact q⟩
 | sw b i=>cases b<;>exact⟨pk Z',Z',Z',W9 Z'⟩
 | _=>exact⟨pk Z',Z',Z',W9 Z'⟩
def Q5:Fq P w K mg base 1 a.bu SC:=by
 refine fq G.bu.toDG Ej (λr u=>⟨_,(pz (pS (pH u U1 (pQ (pY pD (pY pD (rk pD pD pD)))))
 (pA (pF U1))
 pL)
 (pz (pS (pH u U1 pD)
 (pA (pF pD))
 pL)
 (pz (pS (pH u U1 pD)
 (pA (pF pD))
 pL)
 (pA (pF v0))))),?_⟩)
 rintro ds M Q ⟨s,e,rfl,q⟩
 cases e with
 | sw b i=>cases b<;>exact⟨pk Z',Z',Z',M,.refl,q⟩
 | _=>exact⟨pk Z',Z',Z',M,.refl,q⟩
theorem Ha:∀{xs ys:QQQ},xs.Nodup->(∀x∈xs,x∈ys)->xs.length<=ys.length
 | [],_,_,_=>eU _
 | x::xs,ys,nd,h=>by
  obtain⟨n1,n2⟩:=dH.mp nd;have hx:=h x dI;have:=Ha (xs:=xs) (ys:=ys.erase x) n2 λy hy=>by have ne:y≠x:=λz=>n1 (by rw[<-z];exact hy);exact(List.mem_erase_of_ne ne).mpr (h y (dz _ hy))
  rw[List.length_erase_of_mem hx]at this;have l:=j6 hx;rw[dS];lia
def Bo{α:Type}{f:α->D}{xs:List α}{k:Nat}{d:D}(h:(xs.map f)[k]?=Fa d):∃x,xs[k]?=Fa x/\d=f x:=by
 rw[dq]at h;cases e:xs[k]? with
 | none=>rw[e]at h;cases h
 | some x=>rw[e]at h;exact⟨x,Z',(cY h).symm⟩
def xI{α:Type}{f:α->D}{ss:List α}{x:α}(h:ss.getLast?=Fa x):vA (ss.map f) (-1)=Fa (f x):=by
 have ne:ss≠[]:=λz=>by rw[z]at h;cases h
 have lt:0<ss.length:=eV.mpr ne;have e:E8 (ss.map f).length (-1)=Fa (ss.length - 1):=by rw[cQ];unfold E8;rw[cV (by decide)];rw[cX (by lia)];congr 1;lia
 unfold vA;rw[e];show(ss.map f)[ss.length - 1]?=_;rw[dq,<-im,h];rfl
structure QG(i:Nat)(cr:Str)(w:QQQ)(S:List Ev):Prop where
 num:∀e∈S,e.num=Fa i
 lg:∃ls,S.filterMap Ev.om=ls/\ls.map (·.g)=w/\ls.map (·.f)=(cr::w).dropLast/\ls.map (·.y)=ls.map (·.f)
 ne:w≠[]
 nd:(w.Nodup/\S.getLast?≠Fa (.over i "ring"))\/(Gh w/\S.getLast?=Fa (.over i "ring"))
 ln:w.length<4000
 sz:S.length<=8000000
 s0:S≠[]
def Pj:rj:=λds M Q=>FT λr cr (i:Nat) w S=>ds=[.ref r,.str cr]/\oC M r=Fa (S.map Ev.d)/\QG i cr w S/\Q (.bl pc) M
def OF:Fq P w K mg base 1 a.bv Pj:=by
 refine fq G.bv.toDG yF (λr u=>⟨_,(pz (tj (i:=2) yF.nd Z' (Or.inl Z') Z' (xu (ix:=[Db]) (N':=["_law_event"])) (qC v0) (qA 0) (uD (pH u (pK v0 pC) pD)) (pK v0 pC))
 (pz (tj (i:=3) yF.nd Z' (Or.inl Z') Z' (xu (ix:=[Db]) (N':=["_law_event"])) (qC v0) (qA 0) (uD (pH u (pK v0 pC) pD)) (pK v0 pC))
 (pz (pS (W3.b3 (ww (pH u U3 (qc (qN (ql U1)) (rC U2 sC (rR (uQ pC))))) (vU (pH u U2 (qN sL)))))
 (pA (pF vJ))
 pL)
 (pz (pS (pH u (qI Z' (xu (ix:=[Db]) (N':=["_law_event"])) (qC v0) (qA 0) (uD (pH u (pK v0 pC) pD)) (pK v0 pC)) U3)
 (pA (pF vJ))
 pL)
 (pz (pS (W3.b3 (wH (pH u (pK (pK v0 (uQ pC)) pC) pD) (vF (pH u (pK (pK v0 (uQ pC)) pC) pD))))
 (pA (pF (sI (qa u (pK U2 (uQ pC)) (rC U2 sC (rR (uQ pC)))) (sf (qa u (Au Z' (rC U2 sC (rR (uQ pC))) Z' G.g Z' G.bU qo HG) (qc (pV qw Z' G.g qo (ql U2)) pC))))))
 pL)
 (pA (pF (qa u (Au Z' U2 Z' G.g Z' G.bU qo HG) (pV qw Z' G.g qo (ql U2)))))))))),?_⟩)
 rintro ds M Q ⟨r,cr,i,wy,S,rfl,hS,wo,q⟩
 have hz:=dN;obtain⟨ls,g1,g2,g3,g4⟩:=wo.lg;have wsz:=wo.sz;rw[jd wo.ne]at g3;have str:∀{N:Mp} {x y:Uf} {ss:QQQ},oC N x=Fa (ss.map D.str)->oC N y=Fa (ss.map D.str)->yk N 9 (.ref x) (.ref y)=Fa pc:=λh1 h2=>Kd h1 h2 λd hd=>by obtain⟨v,_,rfl⟩:=dw.mp hd;exact G4 7 _ Z'
 have cmp:∀(n:Int) (pr:rW->Str) (hn:∀v:rW,vA [D.str "leg",.int (v.i:Nat),.str v.f,.str v.g,.str v.y] n=Fa (.str (pr v))) {N:Mp} (nx:DK),oC N r=Fa (S.map Ev.d)->(∀p,N p=Db->nx (.ref p) (pI N p (.lst ((ls.map pr).map D.str))))->uM (sF 0) (b3 (k3 .Eq (i3 (v3 0) (c3 (.int 0))) (c3 (.str "leg")))) (i3 (v3 0) (c3 (.int n))) (λM=>oC M r=Fa (S.map Ev.d)) nx (S.map Ev.d) [] [Db] N:=λn pr hn {N} nx lr WE=>by
  refine wA (S.map Ev.d) (λpre acc U M2=>N=M2/\acc=(((S.take pre.length).filterMap Ev.om).map pr).map D.str/\∃y,U=[y]) (λ_ _ _ M' j=>by rw[<-j.1];exact lr) _ [] [] _ _ Z' ?_ ⟨Z',Z',Db,Z'⟩ ?_ ?_
  .rw[cQ];simp only[dF];lia
  .rintro pre d post e acc U _ ⟨rfl,ha,y0,rfl⟩ k k2 hk X1
   obtain⟨ev,hev,rfl⟩:=Bo (show(S.map Ev.d)[pre.length]?=Fa d by rw[<-e];simp);rw[cT,dM,fS,hev,jl,iK]at hk X1;cases ev with
   | mT v=>refine i' (hn v) (hk _ _ _ ⟨Z',?_,_,Z'⟩);rw[ha,dB,dB];rfl
   | sw b i=>cases b<;>exact X1 _ _ ⟨Z',by rw[ha,iy Z',jk,dO],_,Z'⟩
   | _=>exact X1 _ _ ⟨Z',by rw[ha,iy Z',jk,dO],_,Z'⟩
  .rintro acc U _ ⟨rfl,ha,y0,rfl⟩ p hp
   rw[cQ,fj,g1]at ha;rw[ha];exact WE p hp
 refine i' hS (cmp 3 (·.g) (λ_=>rfl) _ hS λp1 Xz=>?_);rw[g2];obtain⟨M1,e0,t1,l1⟩:=vX (ds:=wy.map D.str) Xz;rw[<-e0];dsimp only[sF];refine i' (t1.lst hS) (cmp 2 (·.f) (λ_=>rfl) _ (t1.lst hS) λp2 WH=>?_);rw[g3];have t2:=t1.trans (.new (c:=.lst ((cr::wy.dropLast).map D.str)) WH);have l1:=(qG.new (c:=.lst ((cr::wy.dropLast).map D.str)) WH).lst l1;have l2:=@pM M1 p2 ((cr::wy.dropLast).map D.str);generalize pI M1 p2 (.lst ((cr::wy.dropLast).map D.str))=M2 at t2 l1 l2 ⊢;dsimp only[sF];refine⟨pk Z',λp3 hp3=>?_⟩;obtain⟨M3,e0,u3,l3⟩:=vX (ds:=[D.str cr]) hp3;rw[<-e0];refine i' (u3.lst l1) λp4 hp4=>?_;rw[zJ,<-iC];have u4:=qG.new (c:=.lst (wy.dropLast.map D.str)) hp4;have lw:wy.dropLast.length<=4000:=by rw[gK];have:=wo.ln;lia
 refine i' (u4.lst l3) (i' pM ⟨by rw[cQ];show 1+_<=_;lia,λp5 hp5=>?_⟩);have u5:=u3.trans (u4.trans (.new (c:=.lst ([D.str cr]++wy.dropLast.map D.str)) hp5));have l5:oC (pI (pI M3 p4 (.lst (wy.dropLast.map D.str))) p5 (.lst ([D.str cr]++wy.dropLast.map D.str))) p5=Fa ((cr::wy.dropLast).map D.str):=pM;generalize pI (pI M3 p4 (.lst (wy.dropLast.map D.str))) p5 (.lst ([D.str cr]++wy.dropLast.map D.str))=M5 at u5 l5 ⊢;have l2:=u5.lst l2;have l1:=u5.lst l1;have t5:=t2.trans u5;show Option.elim (yk M5 9 (.ref p2) (.ref p5)) False _;refine i' (str l2 l5) (EO ?_);refine⟨pk Z',λp6 hp6=>?_⟩;obtain⟨M6,e0,u6,l6⟩:=vX (ds:=[]) hp6;rw[<-e0];have l2:=u6.lst l2;have l1:=u6.lst l1;have t6:=t5.trans u6;show Option.elim (yk M6 9 (.ref p1) (.ref p6)) False _;refine i' (x:=false) ?_ (EO ?_)
 .show(oC M6 p1).bind (λi=>(oC M6 p6).bind λj=>if i.length=j.length then sE (yk M6 8) i j else Fa lf)=_;rw[l1,l6];show(if (wy.map D.str).length=0 then _ else Fa lf)=_;rw[cV (by rw[cQ];exact λz=>wo.ne (fQ.mp z))]
 refine i' (t6.lst hS) (cmp 4 (·.y) (λ_=>rfl) _ (t6.lst hS) λp7 hp7=>?_);rw[g4,g3];obtain⟨M7,e0,u7,l7⟩:=vX (ds:=(cr::wy.dropLast).map D.str) hp7;rw[<-e0];have l2:=u7.lst l2;have l1:=u7.lst l1;have t7:=t6.trans u7;show Option.elim (yk M7 9 (.ref p7) (.ref p2)) False _;refine i' (str l7 l2) (EO ?_);have wln:=wo.ln;have WC:wy.Nodup->On (k3 CmpOp.Eq (Qi (v3 2)) (BK SU (uS (v3 2) xk))) {nx:=λx M'=>∃WA,qG WA M'/\Q D.mL WA,rt:=λd M'=>∃WA,qG WA M'/\Q d WA} [Fa (D.ref r),Fa (.str cr),Fa (.ref p1),Fa (.ref p2)] M7:=λnd=>by refine i' l1 (i' (L3.xT wy) ⟨wln,i' l1 ⟨M,t7,?_⟩⟩);rw[cQ,yT wy nd,eQ];exact q
 obtain⟨el,hel⟩:∃el,S.getLast?=Fa el:=by
  cases e:S.getLast? with
  | none=>exact absurd (ft.mp e) wo.s0
  | some el=>exact⟨el,Z'⟩
 have lS:=t7.lst hS;refine i' lS (i' (xI hel) ?_);have go:el≠.over i "ring"->wy.Nodup:=λn=>by
  rcases wo.nd with z|z
  .exact z.1
  .rw[hel]at z;exact absurd (cY z.2) n
 cases el with
 | over j x=>
  have hj:=wo.num _ (gp hel);cases hj;refine i' lS (i' (xI hel) ?_);by_cases z:x="ring"
  .subst z;have rg:Gh wy:=by
    rcases wo.nd with z|z
    .exact absurd hel z.2
    .exact z.1
   obtain⟨nd,y,hy,hm⟩:=rg;refine i' l1 (i' (xI hy) (i' l1 λp8 hp8=>?_));rw[zJ,<-iC];obtain⟨M8,e0,u8,l8⟩:=vX (ds:=wy.dropLast.map D.str) hp8;rw[<-e0];refine i' l8 ⟨Z',qu _,?_⟩;refine zH (c:=inD (.str y) (wy.dropLast.map D.str)) (by rw[qW];exact qz.mpr hm) ?_;refine i' (u8.lst l1) λp9 hp9=>?_;rw[zJ,<-iC];obtain⟨M9,e0,u9,l9⟩:=vX (ds:=wy.dropLast.map D.str) hp9;rw[<-e0];refine i' l9 (i' (L3.xT wy.dropLast) ⟨by rw[gK];lia,i' ((u8.trans u9).lst l1) ⟨M,t7.trans (u8.trans u9),?_⟩⟩);rw[cQ,yT _ nd,gK];have l0:=eV.mpr wo.ne;rw[show(((wy.length - 1:Nat):Int)==((wy.length:Nat):Int) - 1)=pc from fg.mpr (by lia)];exact q
  .refine HK (beq_false_of_ne z) (WC (go λy=>z (by injection y)))
 | sw b i=>cases b<;>exact WC (go Ev.noConfusion)
 | _=>exact WC (go Ev.noConfusion)
def Vs(e:Ev):∃rest,e.d=.tup (.str e.word::rest):=by cases e<;>exact⟨_,Z'⟩
def SQ(x y:D)(l:T0 D):vA (x::y::l) 1=Fa y:=by show vA _ ((1:Nat):Int)=_;exact ub Z'
def R4(x:D)(l:T0 D):L3.tM (x::l) (Fa 1) Db=l:=by
 unfold L3.tM;have e:HT.sX (x::l).length 0 (Fa (1:Int))=1:=by rw[show HT.sX (x::l).length 0 (Fa (1:Int))=min 1 (x::l).length from HT.EN _ _ 1,dS];lia
 rw[e,HT.zm,dS,Nat.add_sub_cancel];show l.take l.length=l;exact fj
theorem IK:∀{T:T0 Ev} {s:Str} {k:Nat} {e:Ev},CU s T=pc->T[k]?=Fa e->vM (Ap s (T.take k)) e=pc
 | x::r,s,0,e,h,hk=>by cases hk;exact(ky.mp (show(vM s x&&CU (Cz s x) r)=pc from h)).1
 | x::r,s,k+1,e,h,hk=>IK (T:=r) (s:=Cz s x) (k:=k) (ky.mp (show(vM s x&&CU (Cz s x) r)=pc from h)).2 hk
structure IX(i:Nat)(cr:Str)(w:QQQ)(S:List Ev):Prop where
 hd:∃v T,S=.new i cr::.mT v::T/\CU "goes" (.mT v::T)=pc/\Ap "goes" (.mT v::T)≠"goes"
 wy:QG i cr w S
def KC:rj:=λds M Q=>FT λr cr (i:Nat) w S=>ds=[.ref r]/\oC M r=Fa (S.map Ev.d)/\IX i cr w S/\Q (.bl pc) M
def Kb:Fq P w K mg base 2 a.bw KC:=by
 refine fq G.bw.toDG vd (λr u=>⟨_,(pz (pS (W3.b3 (ww (pH u (pK (pK v0 pC) pC) pD) (ww (pH u (pV qw Z' G.g qo (ql v0)) pC) (vU (pH u (pK (pK v0 pC) pC) pD)))))
 (pA (pF vJ))
 pL)
 (pz (pO 1 vd pD)
 (pz (uw eX Z' (qC (rC v0 (rR pC) sC)) (rD 2 vd)
 (pz (pS (wO (uV (pN (Sk G) r G.bt (r6 U1 (pK U2 pC)))))
 (pA (pF vJ))
 pL)
 (pA (pO 1 vd (pN (Q5 G) r G.bu (r6 U1 (pK U2 pC)))))))
 (pA (pF (sI (qa u U1 pD) (sf (pN (OF G) r G.bv (r6 v0 (pK (pK v0 pC) pC)))))))))),?_⟩)
 rintro ds M Q ⟨r,cr,i,wy,S,rfl,hS,so,q⟩
 have wo:=so.wy;obtain⟨v,T,eS,hb,hs⟩:=so.hd;have Yl:oC M r=Fa ((Ev.new i cr).d::(Ev.mT v).d::T.map Ev.d):=by rw[hS,eS];rfl
 refine i' Yl (i' (wx _ _) ?_);refine i' Yl (i' Yl (i' (SQ _ _ _) ?_));dsimp only[sF];refine i' Yl λp hp=>?_;rw[R4];obtain⟨M1,e0,t1,l1⟩:=vX (ds:=(Ev.mT v).d::T.map Ev.d) hp;rw[<-e0];have l1:oC M1 p=Fa ((Ev.mT v::T).map Ev.d):=l1;generalize Ev.mT v::T=TT at l1 hb hs;refine i' l1 ?_;refine vh (TT.map Ev.d) (λpre U M'=>M1=M'/\∃y2,U=[Fa (.ref r),Fa (.str (Ap "goes" (TT.take pre.length))),y2]) (λ_ _ _ j=>by rw[<-j.1];exact l1) _ [] _ _ Z' ⟨Z',Db,Z'⟩ ?_ ?_
 .rintro pre d post e U _ ⟨rfl,y2,rfl⟩ nx WE
  obtain⟨ev,he,rfl⟩:=Bo (show(TT.map Ev.d)[pre.length]?=Fa d by rw[<-e];simp);have hn:=IK hb he;rw[cT,dM,fS,he,jl,yl]at WE;generalize Ap "goes" (TT.take pre.length)=sx at hn WE;obtain⟨rest,hrest⟩:=Vs ev;rw[hrest];dsimp only[sF];refine i' (wx _ _) ⟨sx,ev,Z',?_⟩;rw[hn];refine EO ?_;refine i' (wx _ _) ⟨sx,ev,Z',WE _ _ ⟨Z',_,Z'⟩⟩
 .rintro U _ ⟨rfl,y2,rfl⟩
  rw[cQ,fj];refine zH (c:=!(Ap "goes" TT=="goes")) (by rw[beq_false_of_ne hs];rfl) ?_;refine i' (t1.lst Yl) (i' (wx _ _) ⟨r,cr,i,wy,S,Z',t1.lst hS,wo,M,t1,q⟩)
def x9.oR{c:pE}(h:x9 i c S)(ok:rf l)(k:uU l lf c)(num:∀e∈S,e.num=Fa i)(sz:S.length<=8000000):IX i c.cr c.way S:=by
 obtain⟨T,a,b,r,d,f⟩:=h.hd;have hT:T≠[]:=λz=>k.wy.1 (d z);obtain⟨v,T',eT⟩:=f hT;have pnd:¬(c.st="rings"/\c.at_=[]):=λz=>by
  rcases k.sh with s|s
  .exact absurd z.2 (s.2.2.2.2.2 Z')
  .rcases s.2 with s|s|⟨_,s⟩|s
   .rw[s.1]at z;exact absurd z.1 (by decide)
   .rw[s.1]at z;exact absurd z.1 (by decide)
   .rw[s.1]at z;exact absurd z.1 (by decide)
   .rw[s.1]at z;exact absurd z.1 (by decide)
 have nl:l.nm.length<=11:=by have p8:=ok.p8;have g3:=ok.g3;unfold pJ.nm pJ.pn pJ.gn;rw[cT,cQ,cQ];lia
 refine⟨⟨v,T',by rw[a,eT],by rw[<-eT];exact b,λz=>?_⟩,num,h.lg,k.wy.1,?_,?_,sz,by rw[a];exact fD _ _⟩
 .rw[<-eT]at z;rw[z]at r;rcases r with r|r|r
  .exact pnd r.2
  .exact absurd r.1 (by decide)
  .rcases r.2 with y|y|y|y|y
   .rw[y]at r;exact absurd r.1 (by decide)
   .rw[y]at r;exact absurd r.1 (by decide)
   .rw[y]at r;exact absurd r.1 (by decide)
   .rw[y]at r;exact absurd r.1 (by decide)
   .rw[y]at r;exact absurd r.1 (by decide)
 .rcases h.nd with z|⟨z,y|y⟩
  .exact .inl z
  .exact .inr ⟨z,y⟩
  .exact absurd y pnd
 .rcases h.nd with z|⟨z,_⟩
  .have:=Ha z.1 k.wy.2;lia
  .have:=Ha z.1 λx hx=>k.wy.2 x (gq _ hx);rw[gK]at this;lia
structure C7(M M':Mp)(Xu:Uf)(ps:QXQ)(es:List Ev):Prop where
 s:qG M M'
 l:oC M' Xu=Fa (ps.map D.ref)
 nd:ps.Nodup
 ne:∀p∈ps,M p=Db/\p≠Xu
 rw_:∀(k:Nat) p,ps[k]?=Fa p->oC M' p=Fa ((sQ es k).map Ev.d)
def Qd{p:Uf}{c:uP}(s:qG M M')(h:M p=Db):qG M (pI M' p c):=λx d e=>by rw[ua (MB e h)];exact s x d e
def C7.put{ps:QXQ}{es:T0 Ev}{e:Ev}{k:Nat}{p:Uf}(h:C7 M M' Xu ps es)(hn:e.num=Fa k)(hp:ps[k]?=Fa p):C7 M (pI M' p (.lst ((sQ es k).map Ev.d++[e.d]))) Xu ps (es++[e]):=by
 obtain⟨n1,n2⟩:=h.ne p (eZ hp);refine⟨Qd h.s n1,rY.put.lst n2.symm h.l,h.nd,h.ne,λm q hq=>?_⟩;by_cases z:m=k
 .subst z;rw[hp]at hq;cases hq;rw[GQ hn,pM,dB];rfl
 .rw[Ao (λy=>z (by rw[hn]at y;exact(cY y).symm))];refine rY.put.lst (λy=>z ?_) (h.rw_ m q hq);exact(List.getElem?_inj (cU.mp hq).1 h.nd).mp (by rw[hq,hp,y])
def C7.skip{ps:QXQ}{es:T0 Ev}{e:Ev}(h:C7 M M' Xu ps es)(hn:e.num=Db):C7 M M' Xu ps (es++[e]):=⟨h.s,h.l,h.nd,h.ne,λm q hq=>by rw[Ao (by rw[hn];exact λy=>by cases y)];exact h.rw_ m q hq⟩
def DS(es:T0 Ev)(i:Nat):(sQ es i).length<=es.length:=gh _ _
def JR{es:T0 Ev}{e:Ev}(h:e∈sQ es i):e.num=Fa i:=xz (fv.mp h).2
seal L3.E3 L3.B3 L3.A3 L3.S3 L3.Hg
def MY:rj:=λds M Q=>∃ns:T0 Int,ds=[.rl (ns.map D.int)]/\ns.length<=63/\Q (.bl pc) M
def RO:Fq P w K mg base 17 a.ag MY:=by
 refine fq G.ag.toDG xD (λr u=>⟨_,(pz (pO 1 xD (pN (RG G) r G.bq (r6 v0 pC)))
 (pz (HB (pN (Ks G) r G.br (ql U1)) (NM (n:=2) Z' (qD (rD 2 xD) (qD (rD 3 xD) ud))))
 (pz (uw eX Z' (qC (rC v0 (rR pC) (rR pC))) (rD 4 xD)
 (pA (pR (pN (NO G) r G.bs (r6 U1 (pN (Na G) r G.bp (pY U1 (rk v4 U2 U3))))))))
 (pz (tj (i:=5) xD.nd Z' (Or.inl Z') Z' (xu (ix:=[Db]) (N':=["_law_call"])) (qC (pG U1)) (qA 0) rS (qN sL))
 (pz (uw eX Z' (qC (pG U1)) (rD 6 xD)
 (pA (pS (pH u (pK v6 pC) (pQ (pY pD (rk pD pD pD))))
 (pA (pR (rG (pK v5 (pK v6 pC)) (ql v6))))
 pL)))
 (pz (uw eX Z' (ve Z' G.Z (ql (pV qw Z' G.g qo (ql v5)))) (rD 7 xD)
 (pA (pS (W3.b3 (ww (wO (uV (pN (Kb G) r G.bw (ql (pK v5 v7))))) (vU (W3.b3 (wH (pH u (pK (pK (pK v5 v7) (uQ pC)) pC) pD) (vF (pH u (pG (pK (pG U1) v7)) (pK (pK (pK v5 v7) (uQ pC)) pC))))))))
 (pA (pF vJ))
 pL)))
 (pA (pF vJ)))))))),?_⟩)
 rintro ds M Q ⟨ns,rfl,hns,q⟩
 have hz:=dN;refine⟨ns,8,Z',by decide,by decide,λM0 M1 A p s0 _ cu=>?_⟩;have WH:2<=(wz ns 8).mI.length:=Im (by decide) (by decide);generalize wz ns 8=l at cu WH;generalize Qm ns=h at cu;have p8:=cu.ok.p8;have g3:=cu.ok.g3;have pl:l.pn.length=l.mI.length:=cQ ..;have nl:l.nm.length=l.mI.length+l.groups.length:=by unfold pJ.nm pJ.pn pJ.gn;rw[cT,cQ,cQ]
 have ok:=cu.ok;refine⟨A,_,l,Z',cu.rd (by decide) (SH cu.ok),λM2 r ro rn s2 hro hrn lr lo ln=>i' lr ⟨Z',?_⟩⟩;dsimp only[sF,Cf,Iu];have nro:=cu.bd.nP hro;have nrn:=cu.bd.nP hrn;refine S0 (t:=RM _ _ _) (λU M'=>∃A' V' y4,Lp a M0 M M' A.b A' V' l 63/\xt V' V'.log/\U=[Fa (.rl (ns.map D.int)),Fa (.ref A.b),Fa (.ref ro),Fa (.ref rn),y4,Db,Db,Db]) (λnx0 Zw=>?_) ?_
 .refine λsl YN=>i' pM ?_;have t7:=qG.new (c:=.lst (L3.tM (ns.map D.int) (Fa 1) (Fa 64))) YN;have l7:=@pM M2 sl (L3.tM (ns.map D.int) (Fa 1) (Fa 64));have hL:(L3.tM (ns.map D.int) (Fa 1) (Fa 64)).length<=63:=by unfold L3.tM;rw[fC,gb,cQ];lia
  have hLi:∀d∈L3.tM (ns.map D.int) (Fa 1) (Fa 64),∃c,d=.int c:=λd hd=>by unfold L3.tM at hd;obtain⟨c,_,rfl⟩:=dw.mp (iU (iT hd));exact⟨c,Z'⟩
  generalize L3.tM (ns.map D.int) (Fa 1) (Fa 64)=L at t7 l7 hL hLi ⊢;have n7:sl∉A.foot:=(cu.sub s2).bd.nP YN;have lo:=t7.lst lo;have ln:=t7.lst ln;have s7:=s2.trans t7;generalize pI M2 sl (.lst L)=M3 at l7 lo ln s7 ⊢;have i9:=Lp.mk0 (cu.sub s7) (SH ok) (Aa ok);have l7:=FO l7 n7;have lo:=FO lo nro;have ln:=FO ln nrn;have q0:qG M (Hk A M3):=λx c e=>by unfold Hk;have e1:=s0 x c e;rw[cV λz=>by rw[cu.fr x z]at e1;cases e1];exact s7 x c (cu.s0 x c (s0 x c e))
  have t0:xt (V0 p h l []) (V0 p h l []).log:=⟨λi c hc=>(by cases hc),λe he=>(by cases he)⟩;generalize V0 p h l []=V at i9 t0;generalize Hk A M3=N at i9 l7 lo ln q0;generalize A.b=b at i9 Zw ⊢;refine vh L (λpre U M'=>(∃A V,Lp a M0 N M' b A V l pre.length/\xt V V.log)/\∃y4,U=[Fa (.rl (ns.map D.int)),Fa (.ref b),Fa (.ref ro),Fa (.ref rn),y4,Db,Db,Db]) (λ_ _ M' j=>by obtain⟨A,V,g,_⟩:=j.1;exact g.s.lst l7) _ [] _ _ Z' ⟨⟨A,V,i9,t0⟩,Db,Z'⟩ ?_ ?_
  .clear i9 t0 n7 s7 t7 YN
   rintro pre d post e U M' ⟨⟨A,V,g,t⟩,y4,rfl⟩ nx2 WE
   have hx:L[pre.length]?=Fa d:=by rw[<-e];simp
   have pl5:pre.length<63:=dE (cU.mp hx).1 hL;obtain⟨c0,rfl⟩:=hLi d (qY hx);rw[cT,dM]at WE;generalize pre.length=m at g pl5 WE;dsimp only[sF];have eb:=g.cu.b;subst eb;refine⟨A,V,l,_,ro,rn,l.pn,l.nm,Z',g.rd (by lia),g.wf,λk hk=>(g.cu.sz.cs k hk).2.1,g.s.lst lo,g.s.lst ln,λz=>by rw[z]at pl;simp only[dF]at pl;lia,λz=>by rw[z]at nl;simp only[dF]at nl;lia,by lia,by lia,λM2 e s f=>?_⟩;have g:=g.sub s;refine⟨M0,A.b,A,V,l,_,_,e,Z',g.cu,by lia,by lia,g.wf,f,λhr M4 A4 r c4 st4 ZG=>?_,λw0 _=>WE _ _ ⟨⟨A,V,g.nk,t⟩,_,Z'⟩⟩;refine WE _ _ ⟨⟨A4,_,(g.after (by lia) f hr c4 st4).sub (.new ZG),?_⟩,_,Z'⟩;rw[Fi];exact Ct t (Nc ok g.wf t f hr)
  .rintro U M' ⟨⟨A,V,g,t⟩,y4,rfl⟩
   exact Zw _ _ ⟨A,V,y4,⟨g.cu.mono (by lia) (by lia),g.wf,g.ps,λx c e=>g.own x c (q0 x c e)⟩,t,Z'⟩
 .clear nro nrn lr lo ln hro hrn s2
  rintro U M' ⟨A',V',y4,g,t,rfl⟩
  have sM:=g.s;have eb:=g.cu.b;have hca:=g.cu.sz.ca;have hlo:=g.cu.sz.lo;have cl:=g.cu.bd.len;refine pB g.cu.at_ (i' Z' (i' g.cu.bd.ca ?_));refine Bu (A'.cs.map λk=>D.ref k.p) (λpre acc U M2=>(∃ps:QXQ,acc=ps.map D.ref/\ps.length=pre.length/\ps.Nodup/\(∀p∈ps,M' p=Db/\oC M2 p=Fa [])/\qG M' M2)/\∃y,U=[y]) (λ_ _ _ M2 j=>by obtain⟨ps,_,_,_,_,s⟩:=j.1;exact s.lst g.cu.bd.ca) _ [] [] _ _ Z' ?_ ⟨⟨[],Z',Z',dU,(λp hp=>by cases hp),.refl⟩,Db,Z'⟩ ?_ ?_
  .rw[cQ,cl];simp only[dF];lia
  .rintro pre d post e acc U M2 ⟨⟨ps,ha,hl,nd,hp,s⟩,y0,rfl⟩ k hk
   refine⟨pk Z',λp1 Xz=>hk _ _ _ ⟨⟨ps++[p1],by rw[ha,dB];rfl,by rw[cT,cT,hl];rfl,?_,λp2 WH=>?_,s.trans (.new Xz)⟩,_,Z'⟩⟩
   .rw[fm];exact⟨nd,dH.mpr ⟨dA,dU⟩,λy hy z hz e=>by
     rw[df.mp hz]at e;exact MB (qm (hp y hy).2) Xz e⟩
   .rcases dR.mp WH with z|z
    .exact⟨(hp p2 z).1,(qG.new Xz).lst (hp p2 z).2⟩
    .rw[df.mp z];exact⟨s.none Xz,pM⟩
  rintro acc U M2 ⟨⟨ps,ha,hl,nd,hp,s⟩,y0,rfl⟩ Xu ZH
  rw[cQ,cl]at hl;subst ha;have YV:C7 M' (pI M2 Xu (.lst (ps.map D.ref))) Xu ps []:=⟨s.trans (.new ZH),pM,nd,λp h=>⟨(hp p h).1,MB (qm (hp p h).2) ZH⟩,λk p h=>(qG.new ZH).lst (hp p (eZ h)).2⟩;generalize pI M2 Xu (.lst (ps.map D.ref))=M3 at YV ⊢;dsimp only[sF];refine S0 (t:=RM _ _ _) (λU M4=>C7 M' M4 Xu ps V'.log/\∃y6,U=[Fa (.rl (ns.map D.int)),Fa (.ref A.b),Fa (.ref ro),Fa (.ref rn),y4,Fa (.ref Xu),y6,Db]) (λnx0 Zw=>?_) ?_
  .refine pB ((YV.s) _ _ g.cu.at_) (i' Z' (i' (YV.s.lst g.cu.bd.lo) ?_));refine vh (V'.log.map Ev.d) (λpre U M4=>C7 M' M4 Xu ps (V'.log.take pre.length)/\∃y6,U=[Fa (.rl (ns.map D.int)),Fa (.ref A.b),Fa (.ref ro),Fa (.ref rn),y4,Fa (.ref Xu),y6,Db]) (λ_ _ _ j=>j.1.s.lst g.cu.bd.lo) _ [] _ _ Z' ⟨YV,Db,Z'⟩ ?_ ?_
   .clear YV
    rintro pre d post e U M4 ⟨st,y6,rfl⟩ nx WE
    obtain⟨ev,he,rfl⟩:=Bo (show(V'.log.map Ev.d)[pre.length]?=Fa d by rw[<-e];simp);rw[cT,dM,fS,he,jl]at WE;have key:∀k,ev.num=Fa k->∃p,vA (ps.map D.ref) (k:Nat)=Fa (.ref p)/\oC M4 p=Fa ((sQ (V'.log.take pre.length) k).map Ev.d)/\((sQ (V'.log.take pre.length) k).map Ev.d).length<Ch/\C7 M' (pI M4 p (.lst ((sQ (V'.log.take pre.length) k).map Ev.d++[ev.d]))) Xu ps (V'.log.take pre.length++[ev]):=λk hk=>by have lt:=t.lt ev (eZ he) k hk;have ZI:ps[k]?=Fa (ps[k]'(by rw[hl];exact lt)):=cS _;refine⟨_,ub (by rw[dq,ZI];rfl),st.rw_ k _ ZI,?_,st.put hk ZI⟩;rw[cQ];have:=DS (V'.log.take pre.length) k;rw[fC]at this;lia
    cases ev with
    | turn=>exact⟨pk Z',Z',Z',WE _ _ ⟨st.skip Z',_,Z'⟩⟩
    | next z n=>exact⟨pk Z',Z',Z',WE _ _ ⟨st.skip Z',_,Z'⟩⟩
    | sw b i=>cases b<;>exact⟨pk Z',Z',Z',WE _ _ ⟨st.skip Z',_,Z'⟩⟩
    | _=>obtain⟨p,a1,a2,a3,a4⟩:=key _ Z';exact⟨pk Z',Z',Z',i' st.l (i' a1 ⟨eJ Option.isSome a2,i' a2 ⟨a3,WE _ _ ⟨a4,_,Z'⟩⟩⟩)⟩
   .rintro U M4 ⟨st,y6,rfl⟩
    rw[cQ,fj]at st;exact Zw _ _ ⟨st,y6,Z'⟩
  .clear YV
   rintro U M4 ⟨st,y6,rfl⟩
   have cu4:=g.cu.sub st.s;refine i' st.l ⟨Z',?_⟩;rw[cQ,hl];refine⟨⟨by lia,by lia⟩,?_⟩;rw[iB];refine vh ((List.range V'.calls.length).map λi=>D.int (0+(i:Nat))) (λpre U M5=>M4=M5/\∃y6 y7,U=[Fa (.rl (ns.map D.int)),Fa (.ref A.b),Fa (.ref ro),Fa (.ref rn),y4,Fa (.ref Xu),y6,y7]) (λ_ _ _ _=>trivial) _ [] _ _ Z' ⟨Z',y6,Db,Z'⟩ ?_ ?_
   .rintro pre d post e U _ ⟨rfl,y6,y7,rfl⟩ nx WE
    obtain⟨k,hk,rfl⟩:=Bo (show((List.range V'.calls.length).map λi=>D.int (0+(i:Nat)))[pre.length]?=Fa d by rw[<-e];simp);have lt:=gf.mp (eZ hk);rw[lu];have hc:V'.calls[k]?=Fa V'.calls[k]:=cS lt;generalize V'.calls[k]=c at hc;have hka:A'.cs[k]?=Fa (A'.cs[k]'(by rw[cl];exact lt)):=cS _;generalize A'.cs[k]'(by rw[cl];exact lt)=ka at hka;have ZI:ps[k]?=Fa (ps[k]'(by rw[hl];exact lt)):=cS _;generalize ps[k]'(by rw[hl];exact lt)=p at ZI;obtain⟨ad,md,f1,_⟩:=cu4.bd.cs k ka c hka hc;have so:=(t.ok k c hc).oR ok (g.wf.ok k c hc) (λe he=>JR he) (by have:=DS V'.log k;lia);have wd:=(t.ok k c hc).wd;have lp:=st.rw_ k p ZI;have ak:vA (ps.map D.ref) (k:Nat)=Fa (.ref p):=ub (by rw[dq,ZI];rfl);generalize sQ V'.log k=S at so wd lp;dsimp only[sF];refine i' st.l (i' ak ⟨p,c.cr,k,c.way,S,Z',lp,so,EO ?_⟩);obtain⟨el,hel⟩:∃el,S.getLast?=Fa el:=by
     cases e:S.getLast? with
     | none=>exact absurd (ft.mp e) so.wy.s0
     | some el=>exact⟨el,Z'⟩
    refine i' st.l (i' ak (i' lp (i' (xI hel) ?_)));cases el with
    | over j x=>have hj:=so.wy.num _ (gp hel);cases hj;have hw:=wd x hel;refine pB cu4.at_ (i' Z' (i' Z' (i' cu4.bd.ca (i' (rc hka) (pB f1 (i' Z' ?_))))));rw[hw];refine i' st.l (i' ak (i' lp (i' (xI hel) ?_)));exact HK (c:=!(x==x)) (by rw[eQ];rfl) (WE _ _ ⟨Z',_,_,Z'⟩)
    | sw b i=>cases b<;>exact WE _ _ ⟨Z',_,_,Z'⟩
    | _=>exact WE _ _ ⟨Z',_,_,Z'⟩
   .rintro U _ ⟨rfl,y6,y7,rfl⟩
    exact⟨M,sM.trans st.s,q⟩
end
end Z
end
structure PySem.W.Fast:Prop where(tw9907100457980805791 tw9905482243656872207 tw9640046896588722417 tw8762641017348957170 tw8463615369996673959 tw8268077600745304194 tw7917367147244473812 tw7027628198689096941 tw6617857241413732451 tw6591807765523386114 tw3632862884730192881 tw2289160467541929053 tw18359632652766575806 tw16397982530160757800 tw15944089791558591352 tw13853361863326225444 tw13706745473655297425 tw13657294333140604776 tw13635106260707258662 tw13615940262202640579 tw12993327355295817557 tw1285513845656112410 tw12782918857359059306 tw12684712033290493418 tw1127788522366823175 tw1105932711287019453 tw10747189302583230013 tw10594309783889294172 tw10594290341836453977 tw9395671983463877367 tw5829230484545577703 tw11537193071211599660 tw7667679731058057239 tw5574523696109914303 tw10524373484511916882 tw15969287838032482697 tw11861953254332344596 tw4006559010429927712 tw13402096287059736284 tw9784986013092556147 tw14841713242729939458 tw266779871889450123 tw3343930435292077 tw5456566896616645515 tw6140258528236679522 tw3034724830636832212 tw538541549524020726 tw414275438363187856 tw1353922062476514379 tw4294377763624945191 tw1256391782583146695 tw17373871556425086713 tw4953873691619028383 tw14729200463606631460 tw8912435743261861933 tw6392554364173953796 tw16830361828173382983 tw18417656719422333067 tw16623230433765414364 tw7402162312238085495 tw18279309008481925996 tw5831466724946062909 tw6802799644323582294 tw2482112165446076252 tw17293607652761006220 tw127634487991379915 tw10603649230068215645 tw7643522873884292872 tw8284230882900014368 tw5433137326170040601 tw8673931199009491225 tw2455457260895088903 tw15577816028065099903 tw6220337620668435241 tw11545979298113540370 tw11586971229259158688 tw15301559772169128173 tw10442006764905953729 tw1219493067928895386 tw18075948800715889973 tw4932875939025515930 tw7449119565405591770 tw15728259829468017314 tw5665330535791638206 tw8797482401635405593 tw4972622236705249391 tw14307593786167868740 tw4827654162646019047 tw5438025260881032795 tw9262174191905090932 tw5661697320735785947 tw12763446518822641533 tw17864287953214671459 tw6288087699186010922 tw584968357507770955 tw5712359342477777482 tw16312942095864649833 tw7434994408587552740 tw9725583175072842034 tw11206296150273070592 tw6295248099357137727 tw4835302405364808193 tw17078883432586915380 tw7874310192010129273 tw11165496333042109837 tw12316700773942130726 tw2878637742622579759 tw5987347842664230905 tw9609566749322480075 tw16252141123822435752 tw10903152895215012584 tw9853482934418363876 tw3055288961738456920 tw12961976754489107984 tw6892892309624239509 tw9026074559443649401 tw9616190008150604611 tw10080156792285112659 tw10031475579740532672 tw12338388883557597732 tw3735265373830671620 tw550200596981961402 tw15841568855487481131 tw7973366250437218828 tw6431651910967563196 tw18220854382693016967 tw12777187100108211886 tw18059940464020744401 tw2758428852639233941 tw13837604539516170008 tw5492971872222335786 tw6629977177943022531 tw4568969321824874393 tw3902588727753987423 tw7417370476533519332 tw9941092638157559814 tw10451103224109620304 tw10817216274224225719 tw10449276160543867017 tw4898303937729938313 tw15394574850234056335 tw10422229345146427939 tw12860070816059356710 tw16218148645344184004 tw2144391695177203063 tw11837128201174782791 tw16482905370720155463 tw4868415476860516018 tw11917835640110673266 tw14206632944342209144 tw13578950109721848581 tw15750744648077596795 tw15095360322101695308 tw7722835392400179860 tw17847859146097857041 tw4176070884393891392 tw16172105390282298468 tw13824481986699007404 tw1299578222253934447 tw12025777760902448285 tw6878893633849996048 tw1012424929344460252 tw3801319239441778239 tw326246139470199546 tw10565551320891301124 tw15269742256970221543 tw17209681899981294927 tw2382955323073815181 tw9745977137586519910 tw15225754426115646629 tw11957438095119225273 tw12703522138799504919 tw5819591019959411593 tw8971476113687976199 tw17591502889316963109 tw13787905581925542180 tw11977960725045030864 tw16318421964446492641 tw4160521624102814713 tw5732391387207210249 tw6877547778462144394 tw15866887182587686380 tw16228181429392912857 tw10749877606485461837 tw9815596032000309351 tw1240360312355324038 tw14627904497568550560 tw11784604005561408836 tw8197531789081440316 tw10484399606418112252 tw7883887810520684008 tw6002913011184274596 tw7537446210542626464 tw315105065987029237 tw3781609315740595498 tw16765208537269485918 tw8932667998949879319 tw10448226259787825986 tw1673122952099357562 tw7109189705941582014 tw9408577643799173602 tw5201156152254973546 tw2989258575312458288 tw15362476313142247221 tw4731814882580133270 tw17867927757742464075 tw8858394303114340282 tw8700063833662868608 tw13568156066479458017 tw15979495238680212035 tw1118306843962552012 tw5255937299126757525 tw10810619626482281167 tw3681394100922877522 tw4993431490536369968 tw2268194082289633681 tw9240755700311982474 tw6090674572508420773 tw14068935139150626558 tw13797614888214331536 tw10528404778963297080 tw17611135990106835214 tw14894830578116767507 tw7734744466142333874 tw17972381225679453387 tw958826887625970337 tw16451323134894364110 tw6815717122971630367 tw2208553420754096870 tw8748161115313217005 tw4566341553213977632 tw13194688572490757214 tw7393406211410188106 tw6579824454351893914 tw13730453725950415758 tw5043326512458989817 tw17774661816847459879 tw13922926209322517031 tw16987976318498501784 tw16908461199322333815 tw9111716335695468213 tw15106804262115286162 tw12991991954857094056 tw6827070814387772070 tw16604599352803355032 tw14003618862599468470 tw12232380584254051940 tw7719907928341300044 tw18260281296438870533 tw8754089258901938282 tw10397406789173549224 tw16170316010018344658 tw2724264123609918068 tw13372777252914997135 tw16222709217051435061 tw3171827847506006688 tw13467570717667145262 tw3677712538834446753 tw15278478193673608654 tw15363108765628267031 tw16581283353523344842 tw14434793551609464645 tw2081001633719356113 tw3288664456956293179 tw7653225357608587581 tw11473554218118128541 tw14701599783194303685 tw4674954500325969409 tw9755701935906128519 tw5829435368772579252 tw16552780209209921422 tw2840558562799562452 tw7729619398756907437 tw17366678946924505707 tw5162595127476654107 tw15011607589636084413 tw16838139160498646644 tw14149007421483531841 tw9174459902876271499 tw3209252899967891423 tw18434008000402741784 tw1015474186750537785 tw5562271589859447662 tw4659314514197759451 tw18045014367781986347 tw2490427673728736587 tw16806811109684637651 tw7616747588785772484 tw143582929989074381 tw14075768929814244039 tw6584311258278100082 tw5586198390906435409 tw4552320863877511762 tw1515154421472965976 tw16379980526600549266 tw14537572837011740146 tw5460238289909059964 tw3466288885873716066 tw13024682995715048219 tw12852253706606746068 tw2455737611226190231 tw9137041528556429493 tw8304018128005730948 tw4418023074576617689 tw17975279393184634635 tw17609666558620405394 tw2578270496530489255 tw11986391385157149885 tw2552838895603708400 tw12577251078228618709 tw75436849838284860 tw5769746202362783943 tw7188899059287228851 tw10601369533167515276 tw12455166906836575580 tw18086090815226408767 tw10355759390011234021 tw9954816463044844102 tw510450553818203549 tw15443234126102507421 tw296921438929204202 tw14226907967052333381 tw13906578128438989897 tw4263088996589845985 tw8345891510081004647 tw9662940646235018257 tw1555653937125430999 tw57083176310031274 tw4686987384413998272 tw4344468147007208968 tw6292784612796372347 tw14168756492211935412 tw17539139461681007667 tw17037002890007425678 tw12342439783385141158 tw13296726371845618554 tw3389630943735302768 tw12719565361070886201 tw5585979772458178730 tw5487782051084574523 tw9361432596069336342 tw161734329157876216 tw14256835868417237681 tw10980016036726990563 tw17827809881045588036 tw8192239968728928332 tw3585979064363627072 tw5417015539945648147 tw13412542093073852763 tw15948405296337853646 tw12701232166942843746 tw916601905660588630 tw12987270455100805814 tw17757641028133556315 tw2090647626296987900 tw4046364263124201846 tw18190734980112092557 tw6918418836949236195 tw14590625483579159759 tw6307772189868043228 tw12307258214210499369 tw170028436720796123 tw4278920596903257785 tw13753645786201447285 tw6977751222023565060 tw7253618179475601634 tw754967145158513279 tw9617125701708693224 tw17235893394060511078 tw3990358708737889830 tw17818943864800406873 tw17766900296396966081 tw13902304509437871211 tw8660647071136121532 tw4374182751587967451 tw17452127129529216405 tw11726324088933177714 tw14614733189279194858 tw6779891276810866736 tw17910863515296791070 tw15175937502587666605 tw15138200714159196364 tw12039214199884658722 tw5678379892667099969 tw10943245150527900795 tw2966229984260369974 tw14781020920936277067 tw2594778104759445266 tw16795152496286320357 tw15734389127969441081 tw14059973347743353954 tw12392879403097973709 tw13310319493163950010 tw6356523969523633451 tw2083095173000434069 tw10370998693460270595 tw7366354285282887539 tw6507370211040393711 tw5716293083648827048 tw5201017301762807235 tw3656296556954000885 tw10254409577111674905 tw21914045429914879 tw17802641686436815102 tw6572971496489656795 tw6070458001770565610 tw5584453995178184274 tw16682533854057702977 tw13734280565282608060 tw12816668275321318599 tw10359428962521919808 tw3403840246794332001 tw16172222309835421953 tw15242435342300485062 tw9448911809117291167 tw8533146655674691078 tw3965227450265846501 tw16143620252749997128 tw12242291446423093562 tw369844629599832228 tw2638550392041235402 tw17656735458476486446 tw17336971322595886938 tw9617681748756197668 tw12319496867148934826 tw8074363754391831379 tw16884677591674255479 tw2878470377416555120 tw7832611944052674869 tw7053395471529291681 tw18224357405656661104 tw5115903405950304398 tw9354890035407606381 tw17529336829029919782 tw2325029336900419762 tw11285419618316893084 tw5596072880611146960 tw17421274658035761341 tw16564382438340972724 tw14316529672934848795 tw6148090609192004588 tw8653462610541259593 tw1582865621360181681 tw2312886034286733175 tw5261186903369999775 tw4320254336270480059 tw15885440315519472045 tw15077614710359220911 tw6164109960063130181 tw7569785465319311102 tw4483236221354550149 tw3461904446850324781 tw17367797468917401724 tw16347289924289996638 tw15068682513458638155 tw10052743728720382713 tw9764505525642370523 tw6461462868614197302 tw1700315331412140973 tw11458912881539136656 tw8612316041869036578 tw4771086054936886086 tw11281957197295444825 tw13957915813100239188 tw7036973154023177474 tw10807941402305818619 tw976761200795372824 tw7558274979524885840 tw606599279337550121 tw16637738871966493190 tw9021251278188748658 tw7598966109818020274 tw7357345287871810251 tw18034398700303281830 tw12954362920663227336 tw2958578771506896625 tw14481552300689711797 tw1359467839578779104 tw12410453063508941558 tw10206639317985116823 tw9234141033152125885 tw2751565113522771917 tw9282005812610484727 tw15043092781626180074 tw13530401019779714384 tw1651305004414403090 tw4606124905781662845 tw17775787045002070895 tw17652711311097710121 tw16051540440976652618 tw14301222194780841971 tw14198732776030377406 tw10972878130731247895 tw10801305493428985402 tw10720453167437083021 tw7953825185985133157 tw4167873701976961404 tw1940757432466470097 tw11342445533226511637 tw7004521539241381416 tw354369343243013884 tw10159714664786894872 tw13033479554593874077 tw12320621174527422121 tw11119641285089541396 tw1102546379287862265 tw1967826780033841349 tw10793738583350207596 tw6050560194411852714 tw16442265043823520944 tw5990853385059908951 tw17746793529758326561 tw10905793985721076981 tw8111336459027076907 tw17952733270755373232 tw14327717418340922180 tw5266432515874260068 tw319446890153566426 tw17633644050289978257 tw17178130751123314127 tw14065222521735686681 tw3550038609086261998 tw9337066718011744288 tw10578321124783554097 tw17502349940066391834 tw14548088034595974768 tw10063470046024483915 tw6856248558292843912 tw18183381687135642575 tw2115755542559891993 tw17264622655347810452 tw12317917471331629635 tw11300255726074946061 tw9615088326723002516 tw4125326100149863618 tw3716005838604749029 tw18318318470413542094 tw16172888065332183952 tw14278716294989351534 tw2828443427668093210 tw2423236030643540145 tw8646268952593281544 tw7336553975354229996 tw4854312500665819999 tw2825490465501640673 tw15619953405244835911 tw7117445471416885680 tw16117975942826118107 tw15259362494245465420 tw11932031458684074380 tw7454221937729680754 tw2091486479229713692 tw3605210038130263129 tw1561498890184951932 tw11476167174323261660 tw16201975044863478289 tw11611324666071161872 tw571919580538111 tw10990823605078392725 tw3850158884648655831 tw3376634202107654749 tw7953010763349075284 tw3149114644248162845 tw12629900505066713683 tw10985245121120176309 tw3822923814770779886 tw9257130419753912065 tw8840489391852149524 tw6357007774043799250 tw4742862558464200168 tw2971728035033197729 tw2713194317821000313 tw17281568148071226786 tw15125677217384666007 tw14906566655682153359 tw13449978054819426010 tw1104831372946875320 tw10789390179063621919 tw6700601263296620832 tw2082338567245600403 tw14482637931265627250 tw3937868535672192648 tw4545008172876772464 tw2297880525544837525 tw17195648178567554042 tw13677535853156786341 tw11211966543920036306 tw9380970779716855557 tw9200906584457322215 tw5013326901080610056 tw4946840195131130697 tw4692737470114819392 tw2997447882716711932 tw18061806513138036337 tw17754590190395547759 tw14097589552622697464 tw12111462015786204737 tw6208835097577106316 tw252161779257652371 tw14361919511773133353 tw11248794315287623560 tw9943180722443930530 tw9599301401918347787 tw17943151147085158375 tw17183342307398539452 tw14602361174334258652 tw9269302074275535496 tw8590568180296592440 tw7669860405902082435 tw610788080149531202 tw6086951328663977025 tw6024466438379914584 tw17882464059006255154 tw16254666337623220850 tw16170332888288610615 tw15567769050735046014 tw1387615780988184597 tw12903658475029249900 tw10858061176555886014 tw4119404458320505150 tw13195972245967814637 tw12042409349328253139 tw9718320627529593997 tw14055677726886638375 tw13496659778644427066 tw7428236856189086808 tw6243075016028506550 tw16882604854708152743 tw8982304243159474416 tw11136505844814214509 tw14086553536905014862:True)
open PySem PySem.W PyProof.Rows L2 L3
def xZqN:Option Obj->Option Obj
|some ⟨_,_,.freed,_⟩=>none
|o=>o
def xZqP (h:Heap):List Nat->Nat->List Obj->List (Option Obj)
|[],_,_=>[]
|a::l,i,r=>bif i.ble a then xZqN (r.drop (a-i)).head?::xZqP h l a (r.drop (a-i)) else h.get? a::xZqP h l i r
theorem xZqQ (h:Heap):∀l i r,r=h.objs.toList.drop i->xZqP h l i r=l.map h.get?
|[],_,_,_=>rfl
|a::l,i,r,e=>by
 unfold xZqP;cases z:i.ble a with
 |false=>exact congrArg (h.get? a::·) (xZqQ h l i r e)
 |true=>
  have d:r.drop (a-i)=h.objs.toList.drop a:=by have:=Nat.le_of_ble_eq_true z;rw [e,List.drop_drop];congr 1;omega
  show xZqN (r.drop (a-i)).head?::xZqP h l a (r.drop (a-i))=_;rw [xZqQ h l a _ d,d,List.head?_drop,Array.getElem?_toList];rfl
def xZqH (K:Params->Frag) (as:List Addr) (e:∀P,as=(K P).map (·.1)) (_:Unit):Hook:=⟨_,λs=>xZqP s.heap as 0 s.heap.objs.toList,λw=>(K w.params).map λp=>some p.2,InK K,λw s x=>InK.of e w s ((xZqQ s.heap as 0 s.heap.objs.toList rfl).symm.trans x),InK.keeps⟩
local macro_rules|`(tactic|o_head ($f $k $a $e))=>`(tactic|o_head (xZqH $k $a $e ()))
set_option maxRecDepth 100000 in
set_option maxHeartbeats 0 in
theorem PySem.Challenge.cw_callboard_k45_whole_stories_of_calls_holds : PySem.Challenge.rw_callboard_k45_whole_stories_of_calls.Holds := by
 w_on;o_law;k_head;(case hw=>w_witness2)
 k_fill
 refine L3.K2 (l:=PySem.Challenge.rw_callboard_k45_whole_stories_of_calls) (sp:=Z.MY) (k:=17) (x:="_law_script") rfl rfl ⟨rfl,by decide,by decide⟩ (λ_ _ Y=>Y) (λns hl=>⟨ns,rfl,hl,rfl⟩) ?F;case F=>
  intro w mg fa h KX G hmg;suffices h:∃a:Z.Ad,Z.Gl _ mg a/\∀(s:Shared) (u:Value),BindsTo s a.ag.d ⟨[u],[]⟩ [("_law_script",u)]by obtain⟨a,g,hb⟩:=h;have e:=hmg.symm.trans g.ag.mg;cases e;exact⟨a.ag.d,hb,λbase _ _=>g.ag.pe ▸ Z.RO g⟩
  refine'⟨⟨_,_,_,_,_,_,_,_,_,_,_,_,_,_,_,_,_,_,_,_,_,_,_,_,_,_,_,_,_,_,_,_,_,_,_,_,_,_,_,_,_,_,_,_,_,_,_,_,_,_,_,_,_,_,_,_,_,_,_,_,_,_,_,_,_,_,_,_,_,_,_,_,_,_,_,_,_,_,_,_,_,_,_,_,_,_,_,_,_,_,_,_,_,_,_,_,_,_,_,_,_,_,_,_,_,_,_,_,_,_,_,_,_,_,_,_,_,_,_,_,_,_,_,_,_,_,_,_,_,_,_,_⟩,⟨wG KX G ..,wG KX G ..,wG KX G ..,wG KX G ..,wG KX G ..,wG KX G ..,wG KX G ..,wG KX G ..,wG KX G ..,wG KX G ..,wG KX G ..,wG KX G ..,wG KX G ..,PySem.W.mg_of KX G ?_,PySem.W.mg_of KX G ?_,qr KX G ..,qr KX G ..,qr KX G ..,qr KX G ..,qr KX G ..,qr KX G ..,qr KX G ..,qr KX G ..,qr KX G ..,qr KX G ..,qr KX G ..,qr KX G ..,qr KX G ..,qr KX G ..,qr KX G ..,qr KX G ..,qr KX G ..,qr KX G ..,qr KX G ..,qr KX G ..,qr KX G ..,qr KX G ..,qr KX G ..,qr KX G ..,qr KX G ..,qr KX G ..,qr KX G ..,qr KX G ..,qr KX G ..,qr KX G ..,qr KX G ..,qr KX G ..,qr KX G ..,qr KX G ..,qr KX G ..,qr KX G ..,qr KX G ..,qr KX G ..,qr KX G ..,qr KX G ..,qr KX G ..,qr KX G ..,qr KX G ..,qr KX G ..,qr KX G ..,qr KX G ..,qr KX G ..,qr KX G ..,qr KX G ..,qr KX G ..,qr KX G ..,qr KX G ..,qr KX G ..,qr KX G ..,qr KX G ..,qr KX G ..,qr KX G ..,qr KX G ..,qr KX G ..,qr KX G ..,qr KX G ..,qd ..,qd ..,qd ..,qd ..,qd ..,qd ..,qd ..,qd ..,qd ..,qd ..,qd ..,qd ..,qd ..,qd ..,qd ..,qd ..,qd ..,qd ..,qd ..,qd ..,qd ..,qd ..,qd ..,qd ..,qd ..,qd ..,qd ..,qd ..,qd ..,qd ..,qd ..,qd ..,qd ..,qd ..,qd ..,qd ..,qd ..,qd ..,qd ..,qd ..,qd ..,qd ..,qd ..,qd ..,qd ..,qd ..,qd ..,qd ..,qd ..,qd ..,qd ..,qd ..,qd ..,qd ..,qd ..,qd ..,Lj ?_ ?_ ?_ ?_ ?_ ?_ ?_ ?_ ?_ ?_,Ki ?_ ?_ ?_,⟨Uk ?_ ?_ ?_ ?_ ?_ ?_ ?_ ?_,?_,?_⟩,PD ?_ ?_ ?_ ?_,⟨?_,?_,?_,?_⟩,⟨?_,?_,?_,?_⟩,⟨?_,?_,?_,?_⟩,⟨?_,?_,?_,?_⟩,⟨?_,?_,?_,?_⟩,⟨?_,?_,?_,?_⟩,⟨?_,?_,?_,?_⟩,⟨?_,?_,?_,?_⟩,⟨?_,?_,?_,?_⟩,⟨?_,?_,?_,?_⟩,⟨?_,?_,?_,?_⟩,⟨?_,?_,?_⟩,⟨?_,?_,?_⟩,⟨?_,?_,?_⟩,⟨?_,?_,?_⟩,⟨?_,?_,?_⟩,⟨?_,?_,?_⟩,⟨?_,?_,?_⟩,⟨?_,?_,?_⟩,⟨?_,?_,?_⟩,⟨?_,?_,?_⟩,⟨?_,?_,?_⟩,⟨?_,?_,?_⟩,⟨?_,?_,?_⟩,⟨?_,?_,?_⟩,⟨?_,?_,?_⟩,⟨?_,?_,?_⟩,⟨?_,?_,?_⟩,⟨?_,?_,?_⟩,⟨?_,?_,?_⟩,⟨?_,?_,?_⟩,⟨?_,?_,?_⟩,(pT ?_ (pT ?_ (pT ?_ (pT ?_ (pT ?_ (pT ?_ (pT ?_ (pT ?_ tE)))))))),(pT ?_ (pT ?_ (pT ?_ (pT ?_ (pT ?_ (pT ?_ tE)))))),(pT ?_ (pT ?_ (pT ?_ tE))),(pT ?_ (pT ?_ (pT ?_ tE))),(pT ?_ (pT ?_ (pT ?_ tE))),(pT ?_ (pT ?_ (pT ?_ (pT ?_ (pT ?_ tE))))),(pT ?_ (pT ?_ (pT ?_ tE))),(pT ?_ (pT ?_ (pT ?_ (pT ?_ tE)))),(pT ?_ (pT ?_ tE)),(pT ?_ (pT ?_ tE)),(pT ?_ (pT ?_ (pT ?_ (pT ?_ (pT ?_ (pT ?_ (pT ?_ (pT ?_ tE)))))))),PySem.W.mg_none_of KX G ?_,PySem.W.mg_none_of KX G ?_,PySem.W.mg_none_of KX G ?_,PySem.W.mg_none_of KX G ?_,PySem.W.mg_none_of KX G ?_,PySem.W.mg_none_of KX G ?_,PySem.W.mg_none_of KX G ?_,PySem.W.mg_none_of KX G ?_,PySem.W.mg_none_of KX G ?_,PySem.W.mg_none_of KX G ?_,PySem.W.mg_none_of KX G ?_,vV (PySem.W.mg_of KX G ?_),vV (PySem.W.mg_of KX G ?_),vV (PySem.W.mg_of KX G ?_),vV (PySem.W.mg_of KX G ?_),N0 (PySem.W.mg_of KX G ?_) (ur (ss:=["all","turns"]) ?_ (.cons ⟨_,rfl⟩ (.cons ⟨_,rfl⟩ .nil)) (Nat.le_of_ble_eq_true rfl)),vV (PySem.W.mg_of KX G ?_),vV (PySem.W.mg_of KX G ?_),vV (PySem.W.mg_of KX G ?_),Sq (PySem.W.mg_of KX G ?_),PY (es:=[⟨_,.str "bar" _,.ref _⟩,⟨_,.str "shut" _,.ref _⟩,⟨_,.str "always" _,.ref _⟩,⟨_,.str "night" _,.ref _⟩,⟨_,.str "busy" _,.ref _⟩,⟨_,.str "silent" _,.ref _⟩,⟨_,.str "wait" _,.ref _⟩,⟨_,.str "breaks" _,.ref _⟩]) (PySem.W.mg_of KX G ?_) ?_ ?_ (.cons rfl ⟨_,rfl,(ur (ss:=["phone","names"]) ?_ (.cons ⟨_,rfl⟩ (.cons ⟨_,rfl⟩ .nil)) (Nat.le_of_ble_eq_true rfl))⟩ (.cons rfl ⟨_,rfl,(ur (ss:=["name","phones"]) ?_ (.cons ⟨_,rfl⟩ (.cons ⟨_,rfl⟩ .nil)) (Nat.le_of_ble_eq_true rfl))⟩ (.cons rfl ⟨_,rfl,(ur (ss:=["name","name"]) ?_ (.cons ⟨_,rfl⟩ (.cons ⟨_,rfl⟩ .nil)) (Nat.le_of_ble_eq_true rfl))⟩ (.cons rfl ⟨_,rfl,(ur (ss:=["name","name","hour","hour"]) ?_ (.cons ⟨_,rfl⟩ (.cons ⟨_,rfl⟩ (.cons ⟨_,rfl⟩ (.cons ⟨_,rfl⟩ .nil)))) (Nat.le_of_ble_eq_true rfl))⟩ (.cons rfl ⟨_,rfl,(ur (ss:=["name","name"]) ?_ (.cons ⟨_,rfl⟩ (.cons ⟨_,rfl⟩ .nil)) (Nat.le_of_ble_eq_true rfl))⟩ (.cons rfl ⟨_,rfl,(ur (ss:=["name","name","turns"]) ?_ (.cons ⟨_,rfl⟩ (.cons ⟨_,rfl⟩ (.cons ⟨_,rfl⟩ .nil))) (Nat.le_of_ble_eq_true rfl))⟩ (.cons rfl ⟨_,rfl,(ur (ss:=["phone"]) ?_ (.cons ⟨_,rfl⟩ .nil) (Nat.le_of_ble_eq_true rfl))⟩ (.cons rfl ⟨_,rfl,(ur (ss:=["phone"]) ?_ (.cons ⟨_,rfl⟩ .nil) (Nat.le_of_ble_eq_true rfl))⟩ .nil)))))))),vV (PySem.W.mg_of KX G ?_),vV (PySem.W.mg_of KX G ?_),vV (PySem.W.mg_of KX G ?_)⟩,λs u=>.of_eq rfl⟩
  all_goals try first|k_is|(intro _ _ _ _ _ _ us hl;rcases us with _|⟨_,_|⟨_,_|⟨_,_|⟨_,_|⟨_,_|⟨_,_|⟨_,us⟩⟩⟩⟩⟩⟩⟩<;>first|rfl|(exfalso;revert hl;simp;done))|rfl
