import PyProof.Rows.All
import Wide.All
import OpenK.AllK
import Wide.FinOn
import PyProof.EqAt
import PyProof.EqKinds
import PyProof.TupleCall
import PyProof.AttrMiss
import PyProof.IsiH_list
import PyProof.Rows.SetFrom
import KE.KDictOf
import KE.KTab
import PyProof.AutoListH
import KE.KSortTup
import KE.KItemsList
import KE.KEqDict
import KE.KIntText
import Lean
import PyProof.RulesRaise
import PyProof.RulesTry
import KE.KTryDeep
import KE.KTryMore
import KE.KTryOn
import KE.TryInHelper
import KE.TryLedger
import PyProof.ExcArgsOwn
import PyProof.ExcAttrAll.ValueError
import KE.KIsAll
import PyProof.ExcBaseAll.ValueError
import PyProof.InstStoreFacts
import PyProof.ExcInit
import PyProof.SeqI3
import PyProof.ConsumeWalk
import PySem.Challenge.RW_callboard_k44_turns_pass
set_option genInjectivity false
set_option genSizeOfSpec false
set_option genSizeOf false
set_option Elab.async false
set_option linter.all false
set_option maxRecDepth 100000
set_option maxHeartbeats 4000000
noncomputable section
open LawfulBEq renaming eq_of_beq->Ix
open List renaming length_map->cW,getElem?_eq_some_iff->cY,length_append->cZ,getElem?_eq_getElem->c9,mem_cons->dh,getElem?_map->dz,mem_singleton->dA,size_toArray->dB,mem_cons_of_mem->dE,mem_map->dF,not_mem_nil->dG,mem_cons_self->dI,length_nil->dJ,map_append->dM,length_singleton->dQ,mem_append->dU,nodup_cons->dW,map_cons->dY,nil_append->d6,mem_append_right->eh,length_range->eA,length_cons->eB,map_map->eC,replicate_succ->eJ,nodup_nil->eK,append_assoc->eM,append_nil->eN,getElem?_set_self->eO,mem_append_left->eP,lookup_cons->eQ,all_eq_true->eS,getElem?_set_ne->eX,getElem?_append_right->fi,length_modify->fj,getElem?_append_left->fk,length_take->fm,take_length->fv,mem_filter->fC,all_cons->fD,length_pos_iff->fG,exists_cons_of_ne_nil->fK,find?_cons->fM,cons_ne_nil->fP,flatten_cons->fS,filter_sublist->fT,getLast?_eq_none_iff->fU,length_filter_le->fW,mem_range->fZ,mem_of_getElem?->gb,nodup_append->gf,foldl_cons->gh,filterMap_cons->gi,any_cons->gk,getD_eq_getElem?_getD->gm,length_drop->gp,drop_eq_getElem_cons->gv,mem_of_find?_eq_some->gw,take_add_one->gB,length_eq_zero_iff->gD,filter_cons_of_pos->gF,filter_cons_of_neg->gG,getElem_of_mem->gI,getElem?_eq_none->gN,filter_map->gO,getLast?_eq_getElem?->gU,any_eq_true->gX,filter_cons->gY,map_congr_left->g9,find?_eq_none->hZ,filter_nil->h9,take_of_length_le->ia,findIdx?_map->ie,take_zero->ii,getElem_mem->ip,getElem?_modify->ir,length_set->iy,getLastD_eq_getLast?->iz,contains_cons->iF,filter_append->iH,getElem?_cons_zero->iJ,map_id->iL,findIdx?_eq_some_iff_getElem->iM,length_replicate->iP,getElem?_toArray->iQ,map_nil->iV,set_set->ja,range_succ->jb,mem_of_mem_take->jc,mem_of_mem_drop->jd,mem_of_getLast?->je,dropLast_subset->jf,getElem?_range->jh,drop_zero->jm,filter_congr->jz,sublist_append_right->jE,pairwise_iff_getElem->jF,findIdx?_eq_none_iff->jG,getElem?_take_of_lt->jK,drop_length->jP,any_map->jS,eq_of_mem_replicate->jT,getElem?_replicate->jU,of_mem_zip->jW,forIn_cons->jX,length_pos_of_mem->kc,forIn_nil->kg,set_append_right->ku,map_drop->kK,filter_eq_self->kS,modify_eq_self->kT,map_eq_nil_iff->kU,mem_filterMap->k9,getElem_range->lD,set_cons_succ->lE,any_eq_false->lJ,foldl_append->lM,getElem_inj->lW,zipIdx_cons->mi,getElem_map->mv,nodup_range->mw,zipIdx_nil->mB,any_append->mC,find?_some->mD,map_take->mG,all_map->mK,map_set->mM
open PySem renaming wpAny_bind->cX,wpAny_pure->dq,sizeLine_eq->dP,wpAny_mono->eD,wpAny_holding->eI,wpAny_field->fu,wpAny_truthy_bool->fz,wpAny_callSpecial?_slot->fO,wpAny_newObj_type->gc,wpAny_call_entry->gq,wpAny_Call_Name_kw->gu,codeAny_mono->gy,wpAny_seqItems->gJ,wpAny_setField_rec->gL,wpAny_passesOwn->gM,wpAny_pyIter_list->gR,mem_of_lookup->gZ,wpAny_standAt->hG,wpAny_execs_nil->hJ,codeAny_builtin->hU,wpAny_loadPart_at->ic,wpAny_setField->ij,wpAny_call->il,codeAny_call_builtin->io,wpAny_pyIter_tuple->iE,wpAny_onRaise->iN,plainObj_wpAny_Assign_Attribute->iR,call_meets->iU,wpAny_specialOf->iX,wpAny_updateSeq_pair->iY,isSubtype_type->jl,tupleKind_room_in1->jp,slot_dict_contains->jr,wpAny_sequenceKey->jw,wpAny_execs_cons->jI,wpAny_typeOf->jM,wpAny_comprehension_free->jO,codeAny_of_tree->jY,wpAny_pyNext_list_item->j5,wpAny_Call_method_late->j8,wpAny_pyNext_list_end->ke,builtinLookup_eq_fast->kh,weight_type_call_type->kl,getitemInPython_of_ne->km,wpAny_rule->kA,wpAny_letTemporaryGo->kC,plainId_quiet->kH,wpAny_attempt->kI,wpAny_isSubtype_exc->kP,concat_meets->lh,seqIndex_neg->ls,wpAny_assign_Name->lG,wpAny_Assign_Name->lH,slot_list_getitem->lL,slot_dict_getitem->lO,wpAny_pyIter_enum->lP,seqIndex_of->lT,wpAny_letGo->lU,wpAny_pyHash_str->lV,wpAny_lookBehind->lX,pastItsLine_dict->lY,noFill_tuple_add->l0,check_set_init_1->mh,wpAny_pyIter_zip->mo,wpAny_Name->mx,typeIs_int->my,Addr->Uf,sizeLine->Ch,wpAny->pi,model->Tk,starEach->Tl,bootBuiltins->zn,Expr->Go,Heap->No,eval->wp,keywordEach->Op,compareOp->Ps,attributeBase->Rs,assignEach->At,backTo->wv,mainGlobals->xz,FuncData->sB,swapsWith->ZB,backToKw->TD,holding->wE,Stmt->sK,IsPair->xL,Keyword->IN,binaryOp->wP,NameKind->wS,behindInMarks->wT,foldedSetIterable->AT,sysModules->XV,getMethod->TW,ExcBaseFacts->o0,rawInt->X',cLine->Y',scanBound->XXa,excClassObj->XXb,standAt->XXc,Scope->XXd,getItem->XXe,sliceBounds->XXf,callWith->XXg,letOwnedTupleGo->XXh,codeAny->XXi,IsZip->XXj,Operator->XYa
def de:=@if_neg
def dg:=@if_pos
def dX:=@decide_eq_true
def eF:=@decide_eq_true_eq
def eW:=@decide_eq_false
def eY:=@congrArg
def eZ:=@or_false
def e9:=@beq_self_eq_true
def fA:=@beq_iff_eq
def fH:=@of_decide_eq_true
def fN:=@not_or
def gH:=@beq_eq_false_iff_ne
def jk:=@if_true
def ky:=@if_false
open PySem.Heap renaming get?_push_of_some->df,lt_size->dD,get?_push_size->dN,size_push->fB,get?_update_self->fL,get?_update_other->gj,get?_none_of_le->gT,get?_update_ne->kO
open Option.some renaming inj->dv,injEq->jy
open Nat renaming le_refl->dw,ne_of_lt->dO,lt_of_lt_of_le->dR,le_trans->d9,zero_le->eE,lt_irrefl->ft,lt_succ_self->fE,le_succ->gx,ne_of_gt->gW,lt_succ_of_lt->ib,sub_self->ik,succ_le_succ->iq,lt_of_le_of_lt->iI,le_add_right->iO,le_succ_of_le->jA,lt_trans->jN,min_eq_left->j3,mul_le_mul->ko,le_of_lt->kZ,sub_zero->lz,succ_pos->lF,le_of_eq->mI,succ_mul->mJ,zero_add->mL
open Bool renaming false_ne_true->dC,eq_false_iff->dH,and_eq_true->dZ,true_and->eL,false_and->fh,false_or->fQ,eq_iff_iff->gz,not_eq_true'->gS,or_eq_true->hW,true_or->ig,not_eq_false->jB,or_false->kG,or_true->lB,false_eq_true->lC,beq_comm->mF,true->pc,false->lf
open Ne renaming symm->dS
open Int renaming eq_ofNat_of_zero_le->eG,emod_lt_of_pos->eV,emod_nonneg->fg,toNat_natCast->fR,zero_add->gA,mul_le_mul_of_nonneg_left->jg,emod_add_mul_ediv->kt
open PySem.PassesOwn renaming never->eU
open PySem.F renaming called_set->fF,slot_tuple_iterator_next->gP,slot_list_getattribute->iA,slot_zip_next->iZ,args_tuple_iterator_next_1->jn,entry_tuple_iterator_next->js,slot_dict_getitem->jC,args_tuple_add_2->jL,store_ValueError->jR,entry_tuple_add->jV,slot_tuple_add->j6,attrBase_ValueError->kr,excBase_ValueError->kD,entry_type_call->lN,args_zip_next_1->lQ,typeCall_set_1->me,entry_set_init->mf,entry_zip_next->mj,slot_int_rmul->mz
open PyProof.Rows renaming slot_tuple_getitem->fJ,callWith_type1->gg,SetOf_congr->iC,callWith_builtin1->iT,setObjOf_fresh->jq,subscriptTail_builtinR->j7,entry_tuple_getitem->kM,args_tuple_getitem->lj,envOfC->dL,AllBare->XXk
open PySem.W renaming kia_one->gC,callWith_K->iS,looks_findIn->jj,methodCall_KW->jZ,plainGet_of->kE,looks_clsIn->kF,kitx_list->lR,cellsFrom_some->lZ
open PyProof.Rows.F renaming plain_set_update_loop->gK,entry_set_update_loop->iB
open List.cons renaming inj->gQ
open PySem.Around renaming under_plainId->im,under_plain->ly
open Array renaming getElem?_setIfInBounds_self_of_lt->iu,length_toList->iw,toList_append->ji,getElem?_eq_getElem->jD,size_setIfInBounds->jQ,mem_toList_iff->kx,append_assoc->kY,find?_toList->lb
open PySem.Code renaming quiet_builtin->iD
open List.Nodup renaming sublist->iG
open Option renaming map_eq_some_iff->iK,map_some->iW,isSome_map->jx,isSome_iff_exists->jJ,getD_none->ma,bind_some->mq,some->Fa,none->Db
open PySem.Calls renaming spliced_cons->jo,Name_function_global->ju,spliced_nil->jv,callWith_builtin->j9,evalArgs_plain->kz
open PySem.Paired renaming length->jt,snoc->mP
open Sum.inr renaming inj->j4
open PySem.Walks renaming list->kB
open PySem.Heap.SameBut renaming update->kN
open Std.Legacy.Range renaming forIn_eq_forIn_range'->kQ
open PySem.SeqAt.EqAt renaming int_str->kW,str_int->kX
open PySem.Obj renaming data_mapFields->lA
open PySem.Heap.Ns1 renaming of_empty->lK
open Eq renaming symm->mE
open PySem.W.Looks renaming here->mH
open PySem.Heap.FunFrames renaming of_keeps->mO
open PySem.Moved renaming trans->mQ
open PySem.Heap.IsSliceOf renaming new->mR
abbrev qM:=PySem.W.Frag
local macro_rules | `(tactic| walk_at "l") => `(tactic| (intro _ _ _ h; repeat (first | (obtain ⟨e, _⟩ := h; subst e; rfl; done) | (cases h; rename_i h))))
local macro_rules | `(tactic| walk_at "m") => `(tactic| (intro _ _ _ _ h; repeat (first | (obtain ⟨e, _⟩ := h; subst e; rfl; done) | (cases h; rename_i h))))
abbrev Vl:=PySem.Value
abbrev Sd:=PySem.Shared
abbrev Pg:=PySem.Program
abbrev Ar:=PySem.Around
theorem Z'{α:Sort _}{a:α}:a=a:=rfl
abbrev Wo:=PySem.World
abbrev T0(α:Type _):=List α
abbrev QQQ:=List PySem.Str
abbrev QQX:=PySem.Value->PySem.Shared->Prop
abbrev QQY:=List (PySem.Addr×PySem.Obj)
abbrev QQZ:=PySem.Str->Option PySem.Value
abbrev QXQ:=List PySem.Addr
section
open PySem PySem.Spec PyProof.Rows
namespace L2
def x5{α:Sort u}{β:Sort v}{p q r:α->β->Prop}{C:Prop}(h:∃a b,p a b/\q a b/\r a b)(f:∀a b,p a b->q a b->r a b->C):C:=by obtain⟨a,b,h1,h2,h3⟩:=h;exact f a b h1 h2 h3
abbrev rP:=Sum Int Str
noncomputable def EO:rP->Vl->Bool
 | .inl k,v=>Value.isInt k v
 | .inr x,v=>Value.isStrOf x v
noncomputable def Wr(w:Wo):rP->Int
 | .inl k=>hashInt k
 | .inr x=>hashStr w x
def sU:∀{k:rP} {v:Vl},EO k v=pc->(∃i t,k=Sum.inl i/\v=Value.int i t)\/(∃x t,k=Sum.inr x/\v=Value.str x t)
 | .inl i,v,h=>by obtain⟨t,e⟩:=Value.isInt_shape (k:=i) (v:=v) h;exact .inl ⟨i,t,Z',e⟩
 | .inr x,v,h=>by obtain⟨t,e⟩:=Value.isStrOf_shape (x:=x) (v:=v) h;exact .inr ⟨x,t,Z',e⟩
def K9(i:Int)(t:Tok):EO (.inl i) (.int i t)=pc:=by simp[EO,Value.isInt]
def Ld(x:Str)(t:Tok):EO (.inr x) (.str x t)=pc:=by simp[EO,Value.isStrOf]
def Sf(a b:Int):decide ((Sum.inl a:rP)=Sum.inl b)=(a==b):=by
 by_cases e:a=b
 .subst e;simp
 .have h:¬(Sum.inl a:rP)=Sum.inl b:=λq=>e (Sum.inl.inj q);rw[eW h];exact(gH.mpr e).symm
def RV(a b:Str):decide ((Sum.inr a:rP)=Sum.inr b)=decide (a=b):=by
 by_cases e:a=b
 .subst e;simp
 .have h:¬(Sum.inr a:rP)=Sum.inr b:=λq=>e (j4 q);rw[eW h,eW e]
def TZ(a:Int)(b:Str):decide ((Sum.inl a:rP)=Sum.inr b)=lf:=eW (λq=>nomatch q)
def Tn(a:Str)(b:Int):decide ((Sum.inr a:rP)=Sum.inl b)=lf:=eW (λq=>nomatch q)
noncomputable def rY(prog:Pg)(w:Wo):PySem.KeyKind prog w rP where
 is:=EO
 hash:=Wr w
 inj:=λv a b ha hb=>by
  rcases sU ha with⟨i,t,rfl,rfl⟩|⟨x,t,rfl,rfl⟩
  .rcases sU hb with⟨j,u,rfl,e⟩|⟨y,u,rfl,e⟩
   .injection e with e1 _;rw[e1]
   .exact nomatch e
  .rcases sU hb with⟨j,u,rfl,e⟩|⟨y,u,rfl,e⟩
   .exact nomatch e
   .injection e with e1 _;rw[e1]
 byValue:=λk v h=>by rcases sU h with⟨i,t,rfl,rfl⟩|⟨x,t,rfl,rfl⟩<;>rfl
 pyHash:=λhv h=>by
  rcases sU hv with⟨i,t,rfl,rfl⟩|⟨x,t,rfl,rfl⟩
  .exact wpAny_pyHash_int h
  .exact lV h
 eqBool:=λhu hv h=>by
  rcases sU hu with⟨i,t,rfl,rfl⟩|⟨x,t,rfl,rfl⟩
  .rcases sU hv with⟨j,u,rfl,rfl⟩|⟨y,u,rfl,rfl⟩
   .rw[Sf]at h;exact wpAny_eqBool_int h
   .rw[TZ]at h;exact kW i t y u _ _ _ _ h
  .rcases sU hv with⟨j,u,rfl,rfl⟩|⟨y,u,rfl,rfl⟩
   .rw[Tn]at h;exact kX x t j u _ _ _ _ h
   .rw[RV]at h;exact wpAny_eqBool_str h
 «strs»:=λk x t v h=>by
  rcases sU h with⟨i,u,rfl,e⟩|⟨y,u,rfl,e⟩
  .exact nomatch e
  .injection e with e1 _
   subst e1;cases v<;>rfl
def G2(prog:Pg)(w:Wo)(i:Int)(t:Tok):(rY prog w).is (.inl i) (.int i t)=pc:=K9 i t
def Bj(prog:Pg)(w:Wo)(x:Str)(t:Tok):(rY prog w).is (.inr x) (.str x t)=pc:=Ld x t
inductive V where
 | mY|bl (b:Bool)|int (i:Int)|str (x:Str)|byt (b:Array UInt8)|flt (b:UInt64)|ref (a:Uf)|ty (n:String)
 deriving DecidableEq
def rb:V->Vl->Prop
 | .mY,u=>u=Value.none
 | .bl b,u=>u=Value.bool b
 | .int i,u=>∃t,u=Value.int i t
 | .str x,u=>∃t,u=Value.str x t
 | .byt b,u=>∃t,u=Value.bytes b t
 | .flt b,u=>∃t,u=Value.float b t
 | .ref a,u=>u=Value.ref a
 | .ty n,u=>u=Value.type n
abbrev qT:T0 V->T0 Vl->Prop:=Paired rb
def qT.length(r:qT xs us):xs.length=us.length:=jt r
theorem qT.get:∀{xs:T0 V} {us:T0 Vl} {i:Nat} {x:V},qT xs us->xs[i]?=Fa x->∃u,us[i]?=Fa u/\rb x u
 | _,_,_,_,.nil,e=>by simp at e
 | _,_,0,_,.cons r _,e=>by simp at e;subst e;exact⟨_,Z',r⟩
 | _,_,i+1,x,.cons _ t,e=>by obtain⟨u,h1,h2⟩:=qT.get (i:=i) (x:=x) t (by simpa using e);exact⟨u,by simpa using h1,h2⟩
theorem qT.set(r:rb x u):∀{xs:T0 V} {us:T0 Vl} (i:Nat),qT xs us->qT (xs.set i x) (us.set i u)
 | _,_,_,.nil=>.nil
 | _,_,0,.cons _ t=>.cons r t
 | _,_,i+1,.cons q t=>.cons q (qT.set r i t)
theorem qT.append:∀{xs ys:T0 V} {us ws:T0 Vl},qT xs us->qT ys ws->qT (xs++ys) (us++ws)
 | _,_,_,_,.nil,s=>s
 | _,_,_,_,.cons r t,s=>.cons r (qT.append t s)
theorem qT.take:∀{xs:T0 V} {us:T0 Vl} (n:Nat),qT xs us->qT (xs.take n) (us.take n)
 | _,_,0,_=>.nil
 | _,_,_+1,.nil=>.nil
 | _,_,n+1,.cons r t=>.cons r (qT.take n t)
theorem qT.drop:∀{xs:T0 V} {us:T0 Vl} (n:Nat),qT xs us->qT (xs.drop n) (us.drop n)
 | _,_,0,r=>r
 | _,_,_+1,.nil=>.nil
 | _,_,n+1,.cons _ t=>qT.drop n t
def yW:Option V->Option Vl->Prop
 | some v,Fa u=>rb v u
 | none,none=>True
 | _,_=>False
def KV{κ:Type}:T0 (κ×V)->T0 (κ×Vl)->Prop:=Paired λ(p:κ×V) (q:κ×Vl)=>p.1=q.1/\rb p.2 q.2
noncomputable def kV:rP->V
 | .inl i=>.int i
 | .inr x=>.str x
inductive HO where
 | lst (xs:List V)
 | tup (xs:List V)
 | dK (kvs:List (rP×V))|dT (kvs:List (List rP×V))
 | set (S:Int->Bool) (n:Nat)
 | ins (C dx:Uf) (fs:List (Str×V))
 | own (x:Uf)
 | xd (fs:List (Str×V))
 | met (f x:Uf)
 | rng (lo hi:Int)
 | frz (o:Obj) (u:HO)
 | tbl (ps:Array Vl)
 | ext (φ:No->Prop)
abbrev Hp:=Uf->Option HO
noncomputable def upd(H:Hp)(a:Uf)(o:HO):Hp:=λb=>if b=a then Fa o else H b
def qC:upd H a o a=Fa o:=by unfold upd;rw[dg Z']
def qw{a b:Uf}(h:b≠a):upd H a o b=H b:=by unfold upd;rw[de h]
def QD:upd (upd H a o) a u=upd H a u:=by funext b;unfold upd;split<;>rfl
def Uw{H:Hp}{a b:Uf}{o u:HO}(h:H a=Fa o)(h':H b=Fa u)(d:o≠u):a≠b:=by intro e;subst e;rw[h]at h';exact d (dv h')
def rB{H:Hp}{a b:Uf}{o:HO}(h:H a=Fa o)(h':H b=Db):a≠b:=by intro e;subst e;rw[h]at h';cases h'
section
variable (P:Pg)(w:Wo)
def DR(h:No)(a:Uf)(its:Array Vl):Prop:=∃o,h.get? a=Fa o/\o.cls=.type "tuple"/\(∃n,o.data=.seq its n)/\o.dict=Db
def sV(H:Hp)(h:No)(a:Uf):HO->Prop
 | .lst xs=>xs.length<=Ch/\∃(its:T0 Vl) (n:Nat),qT xs its/\h.get? a=Fa {cls:=.type "list",data:=.seq its.toArray n}
 | .tup xs=>xs.length<=Ch/\∃its:T0 Vl,qT xs its/\DR h a its.toArray
 | .dK kvs=>kvs.length<=Ch/\(a==XV)=lf/\∃vs,KV kvs vs/\h.DictOf (rY P w) a vs
 | .dT kvs=>kvs.length<=Ch/\(a==XV)=lf/\∃xs:T0 (List rP×Uf×Vl),Paired (λ(p:List rP×V) (q:List rP×Uf×Vl)=>p.1=q.1/\H q.2.1=Fa (.tup (p.1.map kV))/\rb p.2 q.2.2) kvs xs/\
   ∃o es ep,h.get? a=Fa o/\o.ExactDict/\o.data=.dict es ep/\es.toList=xs.map (entryOfKey (tupleKind (rY P w)))/\(xs.map (·.1)).Nodup
 | .set S n=>h.SetOf (intKind P w) a S n
 | .ins C dx fs=>H dx=Fa (.own a)/\fs.length<=1000/\dx≠a/\h.get? a=Fa (W.instObj C dx)/\
   ∃mA,h.Ns1 dx mA/\(∀f,yW (fs.lookup f) (mA f))/\PySem.Within mA (fs.map (·.1))
 | .own _=>∃o,h.get? a=Fa o
 | .xd fs=>∃mA,h.Ns1 a mA/\∀f,yW (fs.lookup f) (mA f)
 | .rng lo hi=>∃t u v,h.get? a=Fa {cls:=.type "range",data:=.fields #[.int lo t,.int hi u,.int 1 v]}
 | .frz o u=>h.get? a=Fa o/\sV H h a u
 | .tbl ps=>h.get? a=Fa {cls:=.none,data:=.fields ps}
 | .met f x=>h.get? a=Fa (W.methodObj (.ref f) (.ref x))
 | .ext φ=>φ h/\(∃o,h.get? a=Fa o)/\∀h1 h2:No,φ h1->(∀o,h1.get? a=Fa o->h2.get? a=Fa o)->φ h2
def yV(H:Hp)(h:No):Prop:=∀a o,H a=Fa o->sV P w H h a o
end
variable {H H':Hp}{h h':No}
section
variable {P:Pg}{w:Wo}{a:Uf}{o:HO}
def DR.is(x:DR h a its):IsTup h a its:=let⟨o,e,c,d,_⟩:=x;⟨o,e,c,d⟩
def DR.new(h:No)(XO:Array Vl):DR (h.push {cls:=.type "tuple",data:=.seq XO}) h.objs.size XO:=⟨_,dN _ Z',Z',⟨_,Z'⟩,Z'⟩
def sV.lt(x:sV P w H h a o):a<h.objs.size:=by
 cases o with
 | lst xs=>obtain⟨_,_,_,_,e⟩:=x;exact dD e
 | tup xs=>obtain⟨_,_,_,_,e,_⟩:=x;exact dD e
 | dK kvs=>obtain⟨_,_,_,_,o,_,_,e,_⟩:=x;exact dD e
 | dT kvs=>obtain⟨_,_,_,_,o,_,_,e,_⟩:=x;exact dD e
 | set S n=>obtain⟨o,_,_,_,e,_⟩:=x;exact dD e
 | ins C dx fs=>obtain⟨_,_,_,e,_⟩:=x;exact dD e
 | own y=>obtain⟨_,e⟩:=x;exact dD e
 | xd fs=>obtain⟨_,⟨_,_,_,e,_⟩,_⟩:=x;exact dD e
 | rng lo hi=>obtain⟨_,_,_,e⟩:=x;exact dD e
 | frz ob u=>obtain⟨e,_⟩:=x;exact dD e
 | tbl ps=>exact dD (show h.get? a=Fa _ from x)
 | met f y=>exact dD (show h.get? a=Fa _ from x)
 | ext φ=>obtain⟨_,⟨_,e⟩,_⟩:=x;exact dD e
theorem Paired.oP{α β:Type}{F G:α->β->Prop}:∀{l₁:List α} {l₂:List β},Paired F l₁ l₂->(∀a b,F a b->G a b)->Paired G l₁ l₂
 | _,_,.nil,_=>.nil
 | _,_,.cons r t,f=>.cons (f _ _ r) (Paired.oP t f)
def sV.nK(x:sV P w H h a o)(k:∀b u,(b=a\/H b=Fa (.own a))->h.get? b=Fa u->h'.get? b=Fa u) (ho:∀b,H b=Fa (.own a)->H' b=Fa (.own a)) (ht:∀b xs,H b=Fa (.tup xs)->H' b=Fa (.tup xs)):sV P w H' h' a o:=by
 induction o with
 | lst xs=>obtain⟨z,its,n,r,e⟩:=x;exact⟨z,its,n,r,k _ _ (.inl Z') e⟩
 | tup xs=>obtain⟨z,its,r,ob,e,c⟩:=x;exact⟨z,its,r,ob,k _ _ (.inl Z') e,c⟩
 | dK kvs=>obtain⟨z,y,vs,r,ob,es,ep,e,c⟩:=x;exact⟨z,y,vs,r,ob,es,ep,k _ _ (.inl Z') e,c⟩
 | dT kvs=>obtain⟨z,y,xs,r,ob,es,ep,e,c⟩:=x;exact⟨z,y,xs,Paired.oP r λp q z=>⟨z.1,ht _ _ z.2.1,z.2.2⟩,ob,es,ep,k _ _ (.inl Z') e,c⟩
 | set S n=>obtain⟨ob,es,ep,t,e,c⟩:=x;exact⟨ob,es,ep,t,k _ _ (.inl Z') e,c⟩
 | ins C dx fs=>obtain⟨d,z,ne,e,mA,⟨od,es,ep,e2,c⟩,r⟩:=x;exact⟨ho _ d,z,ne,k _ _ (.inl Z') e,mA,⟨od,es,ep,k _ _ (.inr d) e2,c⟩,r⟩
 | own y=>obtain⟨ob,e⟩:=x;exact⟨ob,k _ _ (.inl Z') e⟩
 | xd fs=>obtain⟨mA,⟨od,es,ep,e,c⟩,r⟩:=x;exact⟨mA,⟨od,es,ep,k _ _ (.inl Z') e,c⟩,r⟩
 | rng lo hi=>obtain⟨t,u,v,e⟩:=x;exact⟨t,u,v,k _ _ (.inl Z') e⟩
 | frz ob u ih=>obtain⟨e,q⟩:=x;exact⟨k _ _ (.inl Z') e,ih q⟩
 | tbl ps=>have e:h.get? a=Fa {cls:=.none,data:=.fields ps}:=x;show h'.get? a=Fa {cls:=.none,data:=.fields ps};exact k a _ (.inl Z') e
 | met f y=>have e:h.get? a=Fa (W.methodObj (.ref f) (.ref y)):=x;show h'.get? a=Fa (W.methodObj (.ref f) (.ref y));exact k a _ (.inl Z') e
 | ext φ=>obtain⟨p,⟨o,e⟩,st⟩:=x;exact⟨st _ _ p λo q=>k _ _ (.inl Z') q,⟨o,k _ _ (.inl Z') e⟩,st⟩
def yV.lt(x:yV P w H h)(e:H a=Fa o):a<h.objs.size:=(x a o e).lt
def yV.fresh(x:yV P w H h)(e:h.objs.size<=a):H a=Db:=by
 cases q:H a with
 | none=>rfl
 | some u=>exact absurd (dR (x.lt q) e) (ft _)
def yV.kept(x:yV P w H h)(k:∀b u,h.get? b=Fa u->h'.get? b=Fa u):yV P w H h':=λa o e=>(x a o e).nK (λb u _ q=>k b u q) (λ_ q=>q) λ_ _ q=>q
def yV.laid(x:yV P w H h)(k:∀b u,h.get? b=Fa u->h'.get? b=Fa u)(hp:h.objs.size<=a)(new:sV P w (upd H a o) h' a o):yV P w (upd H a o) h':=λb u e=>by
 have hn:=x.fresh hp;by_cases hb:b=a
 .subst hb;rw[qC]at e;cases e;exact new
 .rw[qw hb]at e;exact(x b u e).nK (λc v _ q=>k c v q) (λc q=>by rw[qw (rB q hn)];exact q) λc xs q=>by rw[qw (rB q hn)];exact q
end
def Rd(H:Hp)(a:Uf)(u:HO):Prop:=H a=Fa u\/∃o,H a=Fa (.frz o u)
def Rd.ok(r:Rd H a u)(x:yV P w H h):sV P w H h a u:=by
 rcases r with r|⟨o,r⟩
 .exact x a u r
 .obtain⟨_,q⟩:=x a _ r;exact q
def VL:Option HO->Prop
 | some (.lst _)=>True
 | some (.dK _)=>True
 | some (.dT _)=>True
 | some (.set _ _)=>True
 | some (.ins _ _ _)=>True
 | some (.ext _)=>True
 | _=>False
variable {o':HO}
section
variable {P:Pg}{w:Wo}{x e:Uf}
def yV.write(ok:yV P w H h)(mu:VL (H x))(he:e=x\/H e=Fa (.own x))(k:∀b u,b≠e->h.get? b=Fa u->h'.get? b=Fa u)(heo:∃u,h'.get? e=Fa u) (new:sV P w (upd H x o') h' x o'):yV P w (upd H x o') h':=λb u q=>by
 have nown:∀c y,H c=Fa (.own y)->c≠x:=λc y r z=>by subst z;rw[r]at mu;exact mu
 have ntup:∀c xs,H c=Fa (.tup xs)->c≠x:=λc xs r z=>by subst z;rw[r]at mu;exact mu
 by_cases hb:b=x
 .subst hb;rw[qC]at q;cases q;exact new
 .rw[qw hb]at q;by_cases hbe:b=e
  .have q':H b=Fa (.own x):=by
    rcases he with z|z
    .exact absurd (hbe.trans z) hb
    .rw[hbe];exact z
   rw[q]at q';cases q';obtain⟨v,hv⟩:=heo;exact⟨v,by rw[hbe];exact hv⟩
  .refine(ok b u q).nK (λc v hc r=>k c v ?_ r) (λc r=>by rw[qw (nown c b r)];exact r) λc xs r=>by rw[qw (ntup c xs r)];exact r
   rcases hc with rfl|hc
   .exact hbe
   .rintro rfl
    rcases he with z|z
    .exact nown c b hc z
    .rw[hc]at z;cases z;exact hb Z'
end
structure Un(fs ex:QXQ)(H H':Hp)(h h':No):Prop where
 keep:∀b o,h.get? b=Fa o->H b=Db->b∉fs->b∉ex->h'.get? b=Fa o
 slot:∀b o,h.get? b=Fa o->H b=Db->b∈fs->b∉ex->∃sl,h'.get? b=Fa {o with slots:=sl}
 free:∀b o,h.get? b=Fa o->H b=Db->b∉ex->H' b=Db
 there:∀b o,h.get? b=Fa o->b∉ex->∃o',h'.get? b=Fa o'
 nO:∀b xs,H b=Fa (.tup xs)->H' b=Fa (.tup xs)
 nJ:∀b o u,H b=Fa (.frz o u)->H' b=Fa (.frz o u)
 nR:∀b ps,H b=Fa (.tbl ps)->∃more,H' b=Fa (.tbl (ps++more))
variable {ex ex':QXQ}{H1 H2:Hp}{h1 h2:No}
section
variable {fs fs':QXQ}{a x e:Uf}{o:HO}
def Un.any(u:Un fs ex H H1 h h1){b:Uf}{ob:Obj}(q:h.get? b=Fa ob)(n:H b=Db)(hx:b∉ex):∃sl,h1.get? b=Fa {ob with slots:=sl}:=by
 by_cases hb:b∈fs
 .exact u.slot b ob q n hb hx
 .exact⟨ob.slots,u.keep b ob q n hb hx⟩
def Un.trans(a:Un fs ex H H1 h h1)(b:Un fs ex H1 H2 h1 h2):Un fs ex H H2 h h2 where
 keep:=λc ob q n hc hx=>b.keep c ob (a.keep c ob q n hc hx) (a.free c ob q n hx) hc hx
 slot:=λc ob q n hc hx=>by obtain⟨sl,e1⟩:=a.slot c ob q n hc hx;obtain⟨Zi,e2⟩:=b.slot c _ e1 (a.free c ob q n hx) hc hx;exact⟨Zi,e2⟩
 free:=λc ob q n hx=>by obtain⟨o',e1⟩:=a.there c ob q hx;exact b.free c o' e1 (a.free c ob q n hx) hx
 there:=λc ob q hx=>by obtain⟨o',e1⟩:=a.there c ob q hx;exact b.there c o' e1 hx
 nO:=λc xs q=>b.nO c xs (a.nO c xs q)
 nJ:=λc ob xs q=>b.nJ c ob xs (a.nJ c ob xs q)
 nR:=λc ps q=>by obtain⟨m1,e1⟩:=a.nR c ps q;obtain⟨m2,e2⟩:=b.nR c _ e1;exact⟨m1++m2,by rw[e2,kY]⟩
def Un.kept(k:∀b u,h.get? b=Fa u->h'.get? b=Fa u):Un fs ex H H h h':=
 ⟨λb ob q _ _ _=>k b ob q,λb ob q _ _ _=>⟨ob.slots,k b ob q⟩,λ_ _ _ n _=>n,λb ob q _=>⟨ob,k b ob q⟩,λ_ _ q=>q,λ_ _ _ q=>q,λ_ ps q=>⟨#[],by rw[q];simp⟩⟩
def Un.refl:Un fs ex H H h h:=Un.kept λ_ _ q=>q
def Un.laid(k:∀b u,h.get? b=Fa u->h'.get? b=Fa u)(hp:h.objs.size<=a)(hn:H a=Db):Un fs ex H (upd H a o) h h' where
 keep:=λb u q _ _ _=>k b u q
 slot:=λb u q _ _ _=>⟨u.slots,k b u q⟩
 free:=λb u q n _=>by rw[qw (dO (dR (dD q) hp))];exact n
 there:=λb u q _=>⟨u,k b u q⟩
 nO:=λb xs q=>by rw[qw (rB q hn)];exact q
 nJ:=λb u xs q=>by rw[qw (rB q hn)];exact q
 nR:=λb ps q=>⟨#[],by rw[qw (rB q hn),q];simp⟩
def Un.write(mu:VL (H x))(he:e=x\/H e=Fa (.own x))(k:∀b u,b≠e->h.get? b=Fa u->h'.get? b=Fa u)(heo:∃u,h'.get? e=Fa u):Un fs ex H (upd H x o) h h':=by
 have hx:∀b,H b=Db->b≠x:=λb n z=>by subst z;rw[n]at mu;exact mu
 have hb:∀b,H b=Db->b≠e:=λb n z=>by
  subst z;rcases he with r|r
  .exact hx b n r
  .rw[n]at r;cases r
 have hm:∀b u,H b=Fa u->¬VL (Fa u)->b≠x:=λb u q nm z=>by subst z;rw[q]at mu;exact nm mu
 refine⟨λb u q n _ _=>k b u (hb b n) q,λb u q n _ _=>⟨u.slots,k b u (hb b n) q⟩,λb u q n _=>by rw[qw (hx b n)];exact n,λb u q _=>?_,λb xs q=>by rw[qw (hm b _ q λz=>z)];exact q,λb u xs q=>by rw[qw (hm b _ q λz=>z)];exact q,λb ps q=>⟨#[],by rw[qw (hm b _ q λz=>z),q];simp⟩⟩
 by_cases hbe:b=e
 .subst hbe;exact heo
 .exact⟨u,k b u hbe q⟩
end
noncomputable def We(h:No)(H:Hp):QXQ:=(List.range h.objs.size).filter λa=>(H a).isSome
noncomputable def E8(h:No)(H:Hp):No:=W.hideAll h (We h H)
def Kx(h:No)(H:Hp):(E8 h H).objs.size=h.objs.size:=W.hideAll_size _ _
def MR{h:No}{H:Hp}{b:Uf}{o:Obj}(e:h.get? b=Fa o)(n:H b=Db):(E8 h H).get? b=Fa o:=
 W.hideAll_get _ e λhm=>by have q:(H b).isSome=pc:=(fC.mp hm).2;rw[n]at q;simp at q
def Rf{b:Uf}{o:Obj}(e:(E8 h H).get? b=Fa o):h.get? b=Fa o/\H b=Db:=by
 have e':h.get? b=Fa o:=W.of_hideAll (We h H) e;refine⟨e',?_⟩;cases q:H b with
 | none=>rfl
 | some x=>have hm:b∈We h H:=fC.mpr ⟨fZ.mpr (dD e'),by simp[q]⟩;have z:(E8 h H).get? b=Db:=W.hideAll_none (We h H) hm;rw[z]at e;cases e
structure Mod(K:qM)(mg:QQZ)(base:No):Prop where
 oM:K.In base
 glob:base.Ns xz mg
 blt:∃mb,base.Ns builtinsNs mb/\∀x:Str,x≠"__name__"->mb x=zn x
 nolimit:base.NoLimit
structure Cx where
 prog:Pg
 w:Wo
 K:qM
 mg:QQZ
 base:No
 A:Ar
 N:QQQ
 s₀:Sd
 H₀:Hp
 env:Env
 outer:List Env
 stack:List Env
 ex:QXQ
 fn:Str->Bool
 calm:Bool
 pn:QQY
 xe:QQX
abbrev Bt(X:Cx)(e:Go)(es:T0 Go):Prop:=Tl (e::es) X.env=(lf,wp e X.env)::Tl es X.env
abbrev Cg(X:Cx)(p:Pos)(es:T0 Go):Prop:=(wv p (Tl es X.env)).any (·.1)=lf
abbrev zm(x:Str):Prop:=(x==("__debug__":Str))=lf
abbrev Lq(X:Cx)(x:Str):Prop:=X.fn x=pc\/X.env.scope.names.lookup x=Fa .local
noncomputable def wW(l:T0 Env):QXQ:=l.filterMap (·.frame)
abbrev Cx.fs(X:Cx):QXQ:=wW X.outer
def SX(sc:XXd)(x:Str):Prop:=sc.names.lookup x=Fa .local\/sc.names.lookup x=Fa .cell\/sc.names.lookup x=Fa .free
def Lm(sc:XXd)(x:Str):Prop:=sc.names.lookup x=Fa .local\/sc.names.lookup x=Fa .cell
def Vx(env:Env)(h:No)(m:QQZ)(x:Str)(u:Vl):Prop:=
 (env.kindOf x=Fa .local/\m x=Fa u)\/((env.kindOf x=Fa .cell\/env.kindOf x=Fa .free)/\∃c,env.cells.lookup x=Fa c/\h.IsCell c (Fa u))
structure Cx.Ok(X:Cx):Prop where
 mod:Mod X.K X.mg X.base
 kind:X.env.scope.kind=.function
 glob:X.env.globals=xz
 blt:X.env.builtins=builtinsNs
 above:X.s₀.heap.objs.size<=X.env.locals
 inj:∀x y c,X.env.cells.lookup x=Fa c->X.env.cells.lookup y=Fa c->x=y
 has:∀x,(X.env.kindOf x=Fa .cell\/X.env.kindOf x=Fa .free)->∃c,X.env.cells.lookup x=Fa c
 oH:∀x c,X.fn x=pc->X.env.cells.lookup x=Fa c->X.s₀.heap.objs.size<=c
 hd:X.calm=pc->X.A.handled=Db
 frames:X.A.frames=Fa X.stack
 oX:X.stack=X.outer\/(X.stack=X.env::X.outer/\X.env.frame=Fa X.env.locals)
 pF:∀b∈X.ex,b≠X.env.locals/\∀x c,X.env.cells.lookup x=Fa c->c≠b
 bs:∀b o,X.base.get? b=Fa o->X.s₀.heap.get? b=Fa o/\X.H₀ b=Db
 oy:X.base.objs.size<=X.s₀.heap.objs.size
 og:∀b o,X.base.get? b=Fa o->b∉X.ex
 oj:∀b∈X.ex,b∉X.fs
 nP:X.s₀.heap.FunFrames X.base X.outer
 oG:∀b∈X.fs,X.H₀ b=Db
structure Inv(X:Cx)(XN:QQY)(Y:List (Option V))(H:Hp)(s:Sd):Prop where
 ok:X.Ok
 os:s.os=X.s₀.os
 bare:XXk s.gens
 base:Un X.fs X.ex X.H₀ H X.s₀.heap s.heap
 loc:∃m,s.heap.Ns X.env.locals m/\∀(i:Nat) (x:Str) (v:V),X.N[i]?=Fa x->Y[i]?=Fa (Fa v)->SX X.env.scope x->∃u,rb v u/\Vx X.env s.heap m x u
 cell:∀x c,X.env.cells.lookup x=Fa c->∃v,s.heap.IsCell c v
 free:H X.env.locals=Db
 nv:∀x c,X.env.cells.lookup x=Fa c->H c=Db
 pin:∀p∈X.pn++XN,s.heap.get? p.1=Fa p.2/\H p.1=Db/\p.1≠X.env.locals/\p.1∉X.fs/\∀v,p.2.data≠.cell v
 m9:yV X.prog X.w H s.heap
 len:Y.length=X.N.length
variable {X:Cx}{XN:T0 (Uf × Obj)}{s:Sd}
section
variable {Y:T0 (Option V)}
def Cx.Ok.nofr(ok:X.Ok){b:Uf}{o:Obj}(e:X.base.get? b=Fa o):b∉X.fs:=λhb=>by have:=(ok.nP.mem hb).1;rw[e]at this;cases this
def Inv.bs(I:Inv X XN Y H s):∀b o,X.base.get? b=Fa o->s.heap.get? b=Fa o/\H b=Db:=λb o e=>⟨I.base.keep b o (I.ok.bs b o e).1 (I.ok.bs b o e).2 (I.ok.nofr e) (I.ok.og b o e),I.base.free b o (I.ok.bs b o e).1 (I.ok.bs b o e).2 (I.ok.og b o e)⟩
def Inv.bk(I:Inv X XN Y H s):∀b o,X.base.get? b=Fa o->s.heap.get? b=Fa o:=λb o e=>(I.bs b o e).1
def Inv.mod(I:Inv X XN Y H s):Mod X.K X.mg X.base:=I.ok.mod
def Inv.nA(I:Inv X XN Y H s):X.K.In s.heap:=I.ok.mod.oM.keeps I.bk
def Inv.lt(I:Inv X XN Y H s):X.env.locals<s.heap.objs.size:=let⟨_,hn,_⟩:=I.loc;hn.lt
def Inv.sz(I:Inv X XN Y H s):X.s₀.heap.objs.size<=s.heap.objs.size:=d9 I.ok.above (kZ I.lt)
def Inv.oZ(I:Inv X XN Y H s){a:Uf}(h:s.heap.objs.size<=a):a∉X.fs:=λhb=>by obtain⟨_,o,ho,_⟩:=I.ok.nP.mem hb;exact absurd (dR (dD ho) (d9 I.sz h)) (ft _)
def Inv.pG(I:Inv X XN Y H s):∀x c,X.env.cells.lookup x=Fa c->c≠X.env.locals:=λx c e z=>by obtain⟨v,o,ho,hd⟩:=I.cell x c e;obtain⟨m,⟨o',es,ep,Yx,hd',_⟩,_⟩:=I.loc;rw[z,Yx]at ho;cases ho;rw[hd']at hd;cases hd
def Inv.nP(I:Inv X XN Y H s):s.heap.FunFrames X.base X.outer:=by
 have all:∀(l:T0 Env),(∀b∈wW l,b∈X.fs)->X.s₀.heap.FunFrames X.base l->s.heap.FunFrames X.base l:=by
  intro l;induction l with
  | nil=>intro _ _;trivial
  | cons env r ih=>intro hs hl;obtain⟨hk,⟨L,o,hf,hn,ho,hd⟩,hr⟩:=hl;have hL:L∈X.fs:=hs L (by unfold wW;rw[gi,hf];exact dI);obtain⟨sl,e⟩:=I.base.slot L o ho (I.ok.oG L hL) hL λz=>I.ok.oj L z hL;exact⟨hk,⟨L,_,hf,hn,e,hd⟩,ih (λb hb=>hs b (by unfold wW;rw[gi,hf];exact dE _ hb)) hr⟩
 exact all X.outer (λ_ hb=>hb) I.ok.nP
def Inv.stack(I:Inv X XN Y H s):s.heap.FunFrames X.base X.stack:=by
 rcases I.ok.oX with e|⟨e,hf⟩
 .rw[e];exact I.nP
 .rw[e];obtain⟨m,hn,_⟩:=I.loc;refine .cons (by rw[I.ok.kind];decide) hf hn ?_ I.nP;exact gT (d9 I.ok.oy I.ok.above)
def Inv.nM(I:Inv X XN Y H s):∀b∈wW X.stack,b∈X.env.locals::X.fs:=λb hb=>by
 rcases I.ok.oX with e|⟨e,hf⟩
 .rw[e]at hb;exact dE _ hb
 .rw[e]at hb;unfold wW at hb;rw[gi,hf]at hb;exact hb
def Inv.nU(I:Inv X XN Y H s):∀b∈wW X.stack,H b=Db:=λb hb=>by
 rcases dh.mp (I.nM b hb)with e|hb
 .rw[e];exact I.free
 .obtain⟨_,o,ho,_⟩:=I.ok.nP.mem hb;exact I.base.free b o ho (I.ok.oG b hb) λz=>I.ok.oj b z hb
def Inv.step{g':Array GenState}{t':Nat}{d':Drawn}{ch:QXQ}(I:Inv X XN Y H s) (YO:∀b∈ch,(b∈X.ex\/X.s₀.heap.objs.size<=b)/\b≠X.env.locals/\(∀x c,X.env.cells.lookup x=Fa c->c≠b)/\∀p∈X.pn++XN,p.1≠b) (keep:∀b o,b≠X.env.locals->b∉X.fs->b∉ch->s.heap.get? b=Fa o->H b=Db->h'.get? b=Fa o) (slot:∀b o,b≠X.env.locals->b∈X.fs->b∉ch->s.heap.get? b=Fa o->H b=Db->∃sl,h'.get? b=Fa {o with slots:=sl}) (free:∀b o,b∉ch->s.heap.get? b=Fa o->H b=Db->H' b=Db)
  (there:∀b o,b∉ch->s.heap.get? b=Fa o->∃o',h'.get? b=Fa o')
  (nO:∀b xs,H b=Fa (.tup xs)->H' b=Fa (.tup xs)) (nJ:∀b o u,H b=Fa (.frz o u)->H' b=Fa (.frz o u)) (nR:∀b ps,H b=Fa (.tbl ps)->∃more,H' b=Fa (.tbl (ps++more)))
  (ns:∀m,s.heap.Ns X.env.locals m->h'.Ns X.env.locals m) (m9:yV X.prog X.w H' h') (hg:XXk g'):
  Inv X XN Y H' {s with heap:=h',gens:=g',drawn:=d',toks:=t'}:=by
 have neL:∀b o,X.s₀.heap.get? b=Fa o->b≠X.env.locals:=λb o e=>dO (dR (dD e) I.ok.above);have neC:∀b o,X.s₀.heap.get? b=Fa o->b∉X.ex->b∉ch:=λb o e hx hb=>by
  rcases(YO b hb).1 with z|z
  .exact hx z
  .exact absurd (dR (dD e) z) (ft _)
 have cellK:∀x c,X.env.cells.lookup x=Fa c->∀v,s.heap.IsCell c v->h'.IsCell c v:=λx c e v ⟨o,ho,hd⟩=>by
  have nch:c∉ch:=λz=>(YO c z).2.2.1 x c e Z';by_cases hc:c∈X.fs
  .obtain⟨sl,q⟩:=slot c o (I.pG x c e) hc nch ho (I.nv x c e);exact⟨_,q,hd⟩
  .exact⟨o,keep c o (I.pG x c e) hc nch ho (I.nv x c e),hd⟩
 refine⟨I.ok,I.os,hg,⟨λb o e n hb hx=>?_,λb o e n hb hx=>?_,λb o e n hx=>?_,λb o e hx=>?_,λb xs e=>nO b xs (I.base.nO b xs e),λb o xs e=>nJ b o xs (I.base.nJ b o xs e),λb ps e=>?_⟩,?_,λx c e=>?_,?_,λx c e=>?_,λp hp=>?_,m9,I.len⟩
 .exact keep b o (neL b o e) hb (neC b o e hx) (I.base.keep b o e n hb hx) (I.base.free b o e n hx)
 .obtain⟨sl,e1⟩:=I.base.slot b o e n hb hx;obtain⟨Zi,e2⟩:=slot b _ (neL b o e) hb (neC b o e hx) e1 (I.base.free b o e n hx);exact⟨Zi,e2⟩
 .obtain⟨o',e1⟩:=I.base.there b o e hx;exact free b o' (neC b o e hx) e1 (I.base.free b o e n hx)
 .obtain⟨o',e1⟩:=I.base.there b o e hx;exact there b o' (neC b o e hx) e1
 .obtain⟨m1,e1⟩:=I.base.nR b ps e;obtain⟨m2,e2⟩:=nR b _ e1;exact⟨m1++m2,by rw[e2,kY]⟩
 .obtain⟨m,hn,hl⟩:=I.loc;refine⟨m,ns m hn,λi x v e1 e2 e3=>?_⟩;obtain⟨u,r,l⟩:=hl i x v e1 e2 e3;refine⟨u,r,?_⟩;rcases l with l|⟨k,c,e,z⟩
  .exact .inl l
  .exact .inr ⟨k,c,e,cellK x c e _ z⟩
 .obtain⟨v,z⟩:=I.cell x c e;exact⟨v,cellK x c e v z⟩
 .obtain⟨m,⟨o,_,_,ho,_⟩,_⟩:=I.loc;exact free _ o (λz=>(YO _ z).2.1 Z') ho I.free
 .obtain⟨v,o,ho,hd⟩:=I.cell x c e;exact free c o (λz=>(YO c z).2.2.1 x c e Z') ho (I.nv x c e)
 .obtain⟨e,n,ne,nf,d⟩:=I.pin p hp;have nch:p.1∉ch:=λz=>(YO p.1 z).2.2.2 p hp Z';exact⟨keep p.1 p.2 ne nf nch e n,free p.1 p.2 nch e n,ne,nf,d⟩
def Inv.un{t':Nat}(I:Inv X XN Y H s)(u:Un X.fs [] H H' s.heap h')(m9:yV X.prog X.w H' h'):Inv X XN Y H' {s with heap:=h',toks:=t'}:=by
 obtain⟨m,⟨o,es,ep,ho,r⟩,_⟩:=id I.loc;obtain⟨sl,hL⟩:=u.any ho I.free (by simp);exact I.step (g':=s.gens) (d':=s.drawn) (ch:=[]) (λ_ z=>nomatch z) (λb o _ hb _ e n=>u.keep b o e n hb (by simp)) (λb o _ hb _ e n=>u.slot b o e n hb (by simp)) (λb o _ e n=>u.free b o e n (by simp)) (λb o _ e=>u.there b o e (by simp)) u.nO u.nJ u.nR (λm' hm=>by
  obtain⟨o',es',ep',Yx,r'⟩:=hm;rw[ho]at Yx;cases Yx;exact⟨_,es',ep',hL,r'⟩) m9 I.bare
def Inv.call{t':Nat}{d':Drawn}(I:Inv X XN Y H s)(u:Un (wW X.stack) ch H H' s.heap h')(m9:yV X.prog X.w H' h')(hg:XXk g') (YO:∀b∈ch,(b∈X.ex\/X.s₀.heap.objs.size<=b)/\b≠X.env.locals/\(∀x c,X.env.cells.lookup x=Fa c->c≠b)/\∀p∈X.pn++XN,p.1≠b):
  Inv X XN Y H' {s with heap:=h',gens:=g',drawn:=d',toks:=t'}:=by
 obtain⟨m,⟨o,es,ep,ho,r⟩,_⟩:=id I.loc;obtain⟨sl,hL⟩:=u.any ho I.free λz=>(YO _ z).2.1 Z';exact I.step (ch:=ch) YO (λb o hL hb hc e n=>u.keep b o e n (λz=>(dh.mp (I.nM b z)).elim hL hb) hc) (λb o _ _ hc e n=>u.any e n hc) (λb o hc e n=>u.free b o e n hc) (λb o hc e=>u.there b o e hc) u.nO u.nJ u.nR (λm' hm=>by
  obtain⟨o',es',ep',Yx,r'⟩:=hm;rw[ho]at Yx;cases Yx;exact⟨_,es',ep',hL,r'⟩) m9 hg
def Inv.turned{t':Nat}{it:Uf}(I:Inv X XN Y H s)(k:∀b o,b≠it->s.heap.get? b=Fa o->h'.get? b=Fa o)(hn:H it=Db)(hL:it≠X.env.locals) (h1:it∈X.ex\/X.s₀.heap.objs.size<=it) (h2:∀x c,X.env.cells.lookup x=Fa c->c≠it) (h3:∀p∈X.pn++XN,p.1≠it):Inv X XN Y H {s with heap:=h',toks:=t'}:=by
 have nit:∀b u,H b=Fa u->b≠it:=λb u e z=>by rw[z,hn]at e;cases e
 refine I.step (g':=s.gens) (d':=s.drawn) (ch:=[it]) (λb hb=>?_) (λb o _ _ hc e _=>k b o (λz=>hc (by simp[z])) e) (λb o _ _ hc e _=>⟨o.slots,k b o (λz=>hc (by simp[z])) e⟩) (λ_ _ _ _ n=>n)
  (λb o hc e=>⟨o,k b o (λz=>hc (by simp[z])) e⟩) (λ_ _ e=>e) (λ_ _ _ e=>e) (λb ps e=>⟨#[],by rw[e];simp⟩) (λm hm=>?_) (λb u e=>?_) I.bare
 .have e:b=it:=by simpa using hb
  subst e;exact⟨h1,hL,h2,h3⟩
 .obtain⟨o,es,ep,ho,r⟩:=hm;exact⟨o,es,ep,k _ o (dS hL) ho,r⟩
 .refine(I.m9 b u e).nK (λc v hc q=>k c v ?_ q) (λ_ q=>q) λ_ _ q=>q;rcases hc with z|z
  .rw[z];exact nit b u e
  .exact nit c _ z
def Inv.tok(I:Inv X XN Y H s)(t:Nat):Inv X XN Y H {s with toks:=t}:=I.un (h':=s.heap) (t':=t) Un.refl I.m9
def Inv.kept{t':Nat}(I:Inv X XN Y H s)(k:∀b u,s.heap.get? b=Fa u->h'.get? b=Fa u):Inv X XN Y H {s with heap:=h',toks:=t'}:=I.un (Un.kept k) (I.m9.kept k)
def Inv.laid{a:Uf}{t':Nat}(I:Inv X XN Y H s)(k:∀b u,s.heap.get? b=Fa u->h'.get? b=Fa u)(hp:s.heap.objs.size<=a)(new:sV X.prog X.w (upd H a o) h' a o):
  Inv X XN Y (upd H a o) {s with heap:=h',toks:=t'}:=I.un (Un.laid k hp (I.m9.fresh hp)) (I.m9.laid k hp new)
def Inv.write{x e:Uf}{t':Nat}(I:Inv X XN Y H s)(mu:VL (H x))(he:e=x\/H e=Fa (.own x))(k:∀b u,b≠e->s.heap.get? b=Fa u->h'.get? b=Fa u)(heo:∃u,h'.get? e=Fa u) (new:sV X.prog X.w (upd H x o) h' x o):Inv X XN Y (upd H x o) {s with heap:=h',toks:=t'}:=I.un (Un.write mu he k heo) (I.m9.write mu he k heo new)
def Inv.nY{YQ:QQY}(I:Inv X XN Y H s)(h:∀p∈YQ,s.heap.get? p.1=Fa p.2/\H p.1=Db/\p.1≠X.env.locals/\p.1∉X.fs/\∀v,p.2.data≠.cell v):Inv X YQ Y H s:=
 ⟨I.ok,I.os,I.bare,I.base,I.loc,I.cell,I.free,I.nv,λp hp=>(dU.mp hp).elim (λz=>I.pin p (eP _ z)) (h p),I.m9,I.len⟩
def CD{N:QQQ}(hN:N.Nodup){i j:Nat}{x:Str}(a:N[i]?=Fa x)(b:N[j]?=Fa x):i=j:=by obtain⟨h1,e1⟩:=cY.mp a;obtain⟨h2,e2⟩:=cY.mp b;exact(lW hN).mp (e1.trans e2.symm)
def En{M:Model}{A:Ar}{E:QQX}{i:Nat}{x:Str}{Q:Unit->Sd->Prop}(I:Inv X XN Y H s)(hN:X.N.Nodup)(hi:X.N[i]?=Fa x)(hx:Lm X.env.scope x)(r:rb v u) (h:∀s',Inv X XN (Y.set i (Fa v)) H s'->(∃a,Heap.SameBut a s.heap s'.heap/\(a=X.env.locals\/X.env.cells.lookup x=Fa a))->Q () s') (hf:Lq X x:=by first|exact .inl Z'|exact .inr Z'|assumption):pi M A (storeName X.env x u) Q E s:=by
 obtain⟨m,hn,hl⟩:=id I.loc;have hcls:(X.env.scope.kind==.class||(X.env.scope.kind==.module&&X.env.locals != X.env.globals))=lf:=by rw[I.ok.kind];rfl
 have hiσ:i<Y.length:=by rw[I.len];exact(cY.mp hi).1
 have pG:=I.pG;have X7:∀{a:Uf} {h':No},(∃o,s.heap.get? a=Fa o/\H a=Db)->Heap.SameBut a s.heap h'->yV X.prog X.w H h':=λ{a h'} ha hs b ob e=>by
  obtain⟨_,_,YB⟩:=ha;refine(I.m9 b ob e).nK (λc w' hc q=>(hs.2 c ?_).trans q) (λ_ q=>q) λ_ _ q=>q
  rintro rfl
  rcases hc with rfl|hc
  .rw[YB]at e;cases e
  .rw[YB]at hc;cases hc
 rcases hx with hk|hk
 .refine wpAny_storeName_local hk hn (λh' Zp hs=>?_) hcls;obtain⟨oL,_,_,hoL,_⟩:=id hn;refine h _ ⟨I.ok,I.os,I.bare,⟨λb o e n hb hx=>?_,λb o e n hb hx=>?_,I.base.free,λb o e hx=>?_,I.base.nO,I.base.nJ,I.base.nR⟩,⟨_,Zp,λj y v' e1 e2 e3=>?_⟩,λy c e=>?_,I.free,I.nv,λp hp=>?_,X7 ⟨oL,hoL,I.free⟩ hs,by simpa using I.len⟩ ⟨_,hs,.inl Z'⟩
  .exact(hs.2 b (dO (dR (dD e) I.ok.above))).trans (I.base.keep b o e n hb hx)
  .obtain⟨sl,e1⟩:=I.base.slot b o e n hb hx;exact⟨sl,(hs.2 b (dO (dR (dD e) I.ok.above))).trans e1⟩
  .obtain⟨o',e1⟩:=I.base.there b o e hx;exact⟨o',(hs.2 b (dO (dR (dD e) I.ok.above))).trans e1⟩
  .by_cases hj:j=i
   .subst hj;rw[hi]at e1;cases e1;rw[eO hiσ]at e2;cases e2;exact⟨u,r,.inl ⟨hk,by simp⟩⟩
   .rw[eX (dS hj)]at e2;obtain⟨u',r',q⟩:=hl j y v' e1 e2 e3;refine⟨u',r',?_⟩;rcases q with⟨k,e⟩|⟨k,c,e,z⟩
    .refine .inl ⟨k,?_⟩;have:y≠x:=λe=>hj (CD hN e1 (e ▸ hi));simp[this,e]
    .exact .inr ⟨k,c,e,z.sameBut hs (pG y c e)⟩
  .obtain⟨w',z⟩:=I.cell y c e;exact⟨w',z.sameBut hs (pG y c e)⟩
  .obtain⟨e,n,ne,nf,d⟩:=I.pin p hp;exact⟨(hs.2 p.1 ne).trans e,n,ne,nf,d⟩
 .have hfn:X.fn x=pc:=by
   rcases hf with z|z
   .exact z
   .rw[z]at hk;cases hk
  obtain⟨c,hc⟩:=I.ok.has x (.inl hk);obtain⟨w',z⟩:=I.cell x c hc;refine wpAny_storeName_cell I.ok.kind hk hc z (λh' hc' hs=>?_);obtain⟨oc,hoc,hocd⟩:=id z;refine h {s with heap:=h'} ⟨I.ok,I.os,I.bare,⟨λb o e n hb hx=>?_,λb o e n hb hx=>?_,I.base.free,λb o e hx=>?_,I.base.nO,I.base.nJ,I.base.nR⟩,⟨m,hn.sameBut hs (dS (pG x c hc)),λj y v' e1 e2 e3=>?_⟩,λy c' e=>?_,I.free,I.nv,λp hp=>?_,X7 ⟨oc,hoc,I.nv x c hc⟩ hs,by simpa using I.len⟩ ⟨c,hs,.inr hc⟩
  .exact(hs.2 b (dO (dR (dD e) (I.ok.oH x c hfn hc)))).trans (I.base.keep b o e n hb hx)
  .obtain⟨sl,e1⟩:=I.base.slot b o e n hb hx;exact⟨sl,(hs.2 b (dO (dR (dD e) (I.ok.oH x c hfn hc)))).trans e1⟩
  .obtain⟨o',e1⟩:=I.base.there b o e hx;exact⟨o',(hs.2 b (dO (dR (dD e) (I.ok.oH x c hfn hc)))).trans e1⟩
  .by_cases hj:j=i
   .subst hj;rw[hi]at e1;cases e1;rw[eO hiσ]at e2;cases e2;exact⟨u,r,.inr ⟨.inl hk,c,hc,hc'⟩⟩
   .rw[eX (dS hj)]at e2;obtain⟨u',r',q⟩:=hl j y v' e1 e2 e3;refine⟨u',r',?_⟩;rcases q with q|⟨k,c',e,z'⟩
    .exact .inl q
    .refine .inr ⟨k,c',e,z'.sameBut hs ?_⟩
     rintro rfl
     exact hj (CD hN e1 (I.ok.inj _ _ _ e hc ▸ hi))
  .by_cases hcc:c'=c
   .subst hcc;exact⟨_,hc'⟩
   .obtain⟨w2,z2⟩:=I.cell y c' e;exact⟨w2,z2.sameBut hs hcc⟩
  .obtain⟨e,n,ne,nf,d⟩:=I.pin p hp;refine⟨(hs.2 p.1 ?_).trans e,n,ne,nf,d⟩;intro q;rw[q,hoc]at e;have q':oc=p.2:=dv e;exact d w' (by rw[<-q'];exact hocd)
def xT{M:Model}{A:Ar}{E:QQX}{i:Nat}{x:Str}{Q:Unit->Sd->Prop}(I:Inv X XN Y H s)(hN:X.N.Nodup)(hi:X.N[i]?=Fa x)(hx:Lm X.env.scope x)(r:rb v u) (h:∀s',Inv X XN (Y.set i (Fa v)) H s'->Q () s') (hf:Lq X x:=by first|exact .inl Z'|exact .inr Z'|assumption):pi M A (storeName X.env x u) Q E s:=
 En I hN hi hx r (λs' I' _=>h s' I') hf
def Inv.pb{s':Sd}(I:Inv X XN Y H s)(ho:s'.os=s.os)(u:Un (wW X.stack) ch H H' s.heap s'.heap)(m9:yV X.prog X.w H' s'.heap)(hg:XXk s'.gens) (YO:∀b∈ch,(b∈X.ex\/X.s₀.heap.objs.size<=b)/\b≠X.env.locals/\(∀x c,X.env.cells.lookup x=Fa c->c≠b)/\∀p∈X.pn++XN,p.1≠b):Inv X XN Y H' s':=by
 obtain⟨h',g',d',t',o'⟩:=s';have e:o'=s.os:=ho;subst e;exact I.call (g':=g') (t':=t') (d':=d') u m9 hg YO
end
abbrev XK:=Vl->Option Uf->Hp->Prop
abbrev St:=T0 (Option V)
abbrev VK:=V->Hp->Prop
abbrev TE:=St->Hp->VK->Prop
abbrev TT:=St->Hp->(Bool->Hp->Prop)->Prop
abbrev TA:=St->Hp->(T0 V->Hp->Prop)->Prop
structure FY where
 nx:St->Hp->Prop
 rt:VK
 bk:St->Hp->Prop:=λ_ _=>False
 ct:St->Hp->Prop:=λ_ _=>False
abbrev TS:=FY->St->Hp->Prop
def EP(X:Cx)(XN:QQY)(Y:St)(Q:VK)(u:Vl)(s':Sd):Prop:=∃v H',Inv X XN Y H' s'/\rb v u/\Q v H'
def TP(X:Cx)(XN:QQY)(Y:St)(Q:Bool->Hp->Prop)(b:Bool)(s':Sd):Prop:=∃H',Inv X XN Y H' s'/\Q b H'
def AP(X:Cx)(XN:QQY)(Y:St)(Q:T0 V->Hp->Prop)(us:T0 Vl)(s':Sd):Prop:=∃vs H',Inv X XN Y H' s'/\qT vs us/\Q vs H'
def SP(X:Cx)(XN:QQY)(D:FY)(f:Flow)(s':Sd):Prop:=
 match f with
 | .next=>∃σ' H',Inv X XN σ' H' s'/\D.nx σ' H'
 | .brk=>∃σ' H',Inv X XN σ' H' s'/\D.bk σ' H'
 | .cont=>∃σ' H',Inv X XN σ' H' s'/\D.ct σ' H'
 | .ret u=>∃v σ' H',Inv X XN σ' H' s'/\rb v u/\D.rt v H'
def PE(X:Cx)(e:Go)(t:TE):Prop:=
 ∀(XN:QQY) (s:Sd) (Y:St) (H:Hp) (Q:VK),Inv X XN Y H s->t Y H Q->pi (Tk X.prog X.w) X.A (wp e X.env) (EP X XN Y Q) X.xe s
def PT(X:Cx)(e:Go)(t:TT):Prop:=
 ∀(XN:QQY) (s:Sd) (Y:St) (H:Hp) (Q:Bool->Hp->Prop),Inv X XN Y H s->t Y H Q->pi (Tk X.prog X.w) X.A (isTrue e X.env (wp e X.env)) (TP X XN Y Q) X.xe s
def PW(X:Cx)(e:Go)(t:TT):Prop:=
 ∀(Yq:Sem Vl) (XN:QQY) (s:Sd) (Y:St) (H:Hp) (Q:Bool->Hp->Prop),Inv X XN Y H s->t Y H Q->pi (Tk X.prog X.w) X.A (isTrue e X.env Yq) (TP X XN Y Q) X.xe s
def PW.pt(h:PW X e t):PT X e t:=h _
def PA(X:Cx)(es:T0 Go)(t:TA):Prop:=
 ∀(pos:Pos) (XN:QQY) (s:Sd) (Y:St) (H:Hp) (Q:T0 V->Hp->Prop),Inv X XN Y H s->t Y H Q->pi (Tk X.prog X.w) X.A (spliced (wv pos (Tl es X.env))) (AP X XN Y Q) X.xe s
def PS(X:Cx)(st:sK)(t:TS):Prop:=
 ∀(XN:QQY) (s:Sd) (Y:St) (H:Hp) (D:FY),Inv X XN Y H s->t D Y H->pi (Tk X.prog X.w) X.A (exec st X.env) (SP X XN D) X.xe s
def Cq(X:Cx)(st:T0 sK)(t:TS):Prop:=
 ∀(XN:QQY) (s:Sd) (Y:St) (H:Hp) (D:FY),Inv X XN Y H s->t D Y H->pi (Tk X.prog X.w) X.A (execs st X.env) (SP X XN D) X.xe s
def sZ{α:Type}{t:Sem α}{Q Q':α->Sd->Prop}{M:Model}{A:Ar}{E:QQX}{s:Sd}(h:pi M A t Q E s)(hQ:∀a s,Q a s->Q' a s):pi M A t Q' E s:=eD h hQ λ_ _ x=>x
variable {tA tB':TT}{ta tb:TE}{pos:Pos}
section
def Gi(i:Nat):TE:=λY H Q=>∃v,Y[i]?=Fa (Fa v)/\Q v H
def tC(v:V):TE:=λ_ H Q=>Q v H
def Ov{i:Nat}{x:Str}(hN:X.N[i]?=Fa x)(hv:SX X.env.scope x)(hd:zm x:=by decide)(YR:(x==("__classdict__":Str))=lf:=by decide):PE X (.Name x pos) (Gi i):=by
 intro XN s Y H Q I h;obtain⟨v,e,h⟩:=h;obtain⟨m,hn,hl⟩:=I.loc;obtain⟨u,r,l⟩:=hl i x v hN e hv;have XT:EP X XN Y Q u s:=⟨v,H,I,r,h⟩;rcases l with⟨hk,hm⟩|⟨hk,c,hc,hcell⟩
 .exact mx (wpAny_loadName_local I.ok.kind hk hn hm XT) hd
 .rcases hk with hk|hk
  .exact mx (wpAny_loadName_cell I.ok.kind hk hc hcell XT) hd
  .exact mx (wpAny_loadName_free I.ok.kind hk hc hcell XT YR) hd
def Ts{i j pos}:PE X (.Constant (.int i) j pos) (tC (.int i)):=λ_ _ _ H _ I h=>wpAny_Constant_int ⟨.int i,H,I.tok _,⟨_,Z'⟩,h⟩
def Vu{b j pos}:PE X (.Constant (.bool b) j pos) (tC (.bl b)):=λ_ _ _ H _ I h=>Constant_bool ⟨.bl b,H,I,Z',h⟩
def T5{j pos}:PE X (.Constant .none j pos) (tC .mY):=λ_ _ _ H _ I h=>Constant_none ⟨.mY,H,I,Z',h⟩
def T9{x j pos}:PE X (.Constant (.str x) j pos) (tC (.str x)):=λ_ _ _ H _ I h=>Calls.Constant_str ⟨.str x,H,I.tok _,⟨_,Z'⟩,h⟩
def Gl(X:Cx)(x:Str):Prop:=X.env.kindOf x=Fa .globalImplicit
def xq{E:QQX}{XN:QQY}{u:Vl}{Q:QQX}(I:Inv X XN Y H s)(hg:Gl X x)(hm:X.mg x=Fa u)(h:Q u s) (hd:zm x:=by decide):pi (Tk X.prog X.w) X.A (wp (.Name x pos) X.env) Q E s:=
 ju I.ok.kind hg (Calls.loadGlobal_global (by rw[I.ok.glob];exact I.mod.glob.keeps I.bk) hm h) hd
def ya{E:QQX}{XN:QQY}{u:Vl}{Q:QQX}(I:Inv X XN Y H s)(hg:Gl X x)(hm:X.mg x=Db)(hv:zn x=Fa u)(h:Q u s) (hn:x≠"__name__":=by decide) (hd:zm x:=by decide):pi (Tk X.prog X.w) X.A (wp (.Name x pos) X.env) Q E s:=by
 obtain⟨mb,h1,h2⟩:=I.mod.blt;exact ju I.ok.kind hg (Calls.loadGlobal_builtin (by rw[I.ok.glob];exact I.mod.glob.keeps I.bk) hm (by rw[I.ok.blt];exact h1.keeps I.bk) ((h2 x hn).trans hv) h) hd
def FP{u:Vl}(hg:Gl X x)(hm:X.mg x=Fa u)(r:rb v u)(hd:zm x:=by decide):PE X (.Name x pos) (tC v):=
 λ_ _ _ H _ I h=>xq I hg hm ⟨v,H,I,r,h⟩ hd
def Q5{u:Vl}(hg:Gl X x)(hm:X.mg x=Db)(hv:zn x=Fa u)(r:rb v u)(hn:x≠"__name__":=by decide)(hd:zm x:=by decide):PE X (.Name x pos) (tC v):=
 λ_ _ _ H _ I h=>ya I hg hm hv ⟨v,H,I,r,h⟩ hn hd
variable {a b:Go}
def tB(t:TE):TT:=λY H Q=>t Y H λx H1=>∃c,x=.bl c/\Q c H1
def SL(h:PE X e t)(he:∀Yq,isTrue e X.env Yq=(do let v<-Yq;XXc e.pos;wE [v] (truthy v)):=by intro _;rfl):PT X e (tB t):=by intro XN s Y H Q I hw;refine isTrue_plain (sZ (h XN s Y H _ I hw) λv s1 zz=>x5 zz λx H1 I1 r1 q1=>?_) (he _);obtain⟨d,rfl,q⟩:=q1;cases r1;exact fz ⟨H1,I1,q⟩
variable {rest:T0 Go}
def Xe(t u:TT):TT:=λY H Q=>t Y H λc H1=>if c=pc then u Y H1 Q else Q lf H1
def Xw(t u:TT):TT:=λY H Q=>t Y H λc H1=>if c=pc then Q pc H1 else u Y H1 Q
def WE(t:TT):TT:=λY H Q=>t Y H λc H1=>Q (!c) H1
def Q2(ha:PT X a tA):PW X (.BoolOp .And [a] pos) tA:=by
 intro wh XN s Y H Q I h;refine isTrue_and (sZ (ha XN s Y H Q I h) λc s1 e=>?_);cases c with
 | true=>exact isTrue_and_nil e
 | false=>exact e
def Sv(ha:PT X a tA):PW X (.BoolOp .Or [a] pos) tA:=by
 intro wh XN s Y H Q I h;refine isTrue_or (sZ (ha XN s Y H Q I h) λc s1 e=>?_);cases c with
 | false=>exact isTrue_or_nil e
 | true=>exact e
def TR(ha:PT X a tA)(hb:PW X (.BoolOp .And (b::rest) pos) tB'):PW X (.BoolOp .And (a::b::rest) pos) (Xe tA tB'):=by
 intro wh XN s Y H Q I h;refine isTrue_and (sZ (ha XN s Y H _ I h) λc s1 ⟨H1,I1,q1⟩=>?_);cases c with
 | true=>exact hb wh XN s1 Y H1 Q I1 q1
 | false=>exact⟨H1,I1,q1⟩
def UY(ha:PT X a tA)(hb:PW X (.BoolOp .Or (b::rest) pos) tB'):PW X (.BoolOp .Or (a::b::rest) pos) (Xw tA tB'):=by
 intro wh XN s Y H Q I h;refine isTrue_or (sZ (ha XN s Y H _ I h) λc s1 ⟨H1,I1,q1⟩=>?_);cases c with
 | true=>exact⟨H1,I1,q1⟩
 | false=>exact hb wh XN s1 Y H1 Q I1 q1
def Sx(ha:PT X a tA):PT X (.UnaryOp .Not a pos) (WE tA):=by intro XN s Y H Q I h;exact isTrue_not (ha XN s Y H (λc H1=>Q (!c) H1) I h)
def VA(ta tb:TE):TE:=λY H Q=>ta Y H λx H1=>∃c,x=.bl c/\if c=pc then tb Y H1 Q else Q (.bl lf) H1
def WW(ta tb:TE):TE:=λY H Q=>ta Y H λx H1=>∃c,x=.bl c/\if c=pc then Q (.bl pc) H1 else tb Y H1 Q
def US(ta:TE):TE:=λY H Q=>ta Y H λx H1=>∃c,x=.bl c/\Q (.bl (!c)) H1
def TY{op}(h:PE X a t):PE X (.BoolOp op [a] pos) t:=λXN s Y H Q I hw=>BoolOp_one (h XN s Y H Q I hw)
def Sa(ha:PE X a ta)(hb:PE X (.BoolOp .And (b::rest) pos) tb):PE X (.BoolOp .And (a::b::rest) pos) (VA ta tb):=by
 intro XN s Y H Q I h;refine BoolOp_and (sZ (ha XN s Y H _ I h) λv s1 zz=>x5 zz λx H1 I1 r1 q1=>?_);obtain⟨c,rfl,q1⟩:=q1;cases r1;refine fz ?_;cases c with
 | true=>exact hb XN s1 Y H1 Q I1 q1
 | false=>exact⟨.bl lf,H1,I1,Z',q1⟩
def Vr(ha:PE X a ta)(hb:PE X (.BoolOp .Or (b::rest) pos) tb):PE X (.BoolOp .Or (a::b::rest) pos) (WW ta tb):=by
 intro XN s Y H Q I h;refine BoolOp_or (sZ (ha XN s Y H _ I h) λv s1 zz=>x5 zz λx H1 I1 r1 q1=>?_);obtain⟨c,rfl,q1⟩:=q1;cases r1;refine fz ?_;cases c with
 | false=>exact hb XN s1 Y H1 Q I1 q1
 | true=>exact⟨.bl pc,H1,I1,Z',q1⟩
def TM(ha:PE X a ta):PE X (.UnaryOp .Not a pos) (US ta):=by intro XN s Y H Q I h;refine UnaryOp_ (sZ (ha XN s Y H _ I h) λv s1 zz=>x5 zz λx H1 I1 r1 q1=>?_);obtain⟨c,rfl,q1⟩:=q1;cases r1;exact not_of (fz ⟨.bl (!c),H1,I1,Z',q1⟩)
def XI(t:TT)(ta tb:TE):TE:=λY H Q=>t Y H λc H1=>if c=pc then ta Y H1 Q else tb Y H1 Q
def Od(hc:PT X c tA)(ha:PE X a ta)(hb:PE X b tb):PE X (.IfExp c a b pos) (XI tA ta tb):=by
 intro XN s Y H Q I h;refine wpAny_IfExp (sZ (hc XN s Y H _ I h) λd s1 ⟨H1,I1,q1⟩=>?_);cases d with
 | true=>exact ha XN s1 Y H1 Q I1 q1
 | false=>exact hb XN s1 Y H1 Q I1 q1
end
def zJ(K:qM)(H:Hp)(a:Uf)(xs:T0 V):Prop:=
 Rd H a (.lst xs)\/
  ∃(o:Obj) (its:Array Vl) (n:Nat),K.lookup a=Fa o/\o.cls=.type "list"/\o.dict=Db/\o.data=.seq its n/\its.size<=Ch/\qT xs its.toList
def vA(K:qM)(H:Hp)(a:Uf)(xs:T0 V):Prop:=
 Rd H a (.tup xs)\/
  ∃(o:Obj) (its:Array Vl) (n:Nat),K.lookup a=Fa o/\o.cls=.type "tuple"/\o.dict=Db/\o.data=.seq its n/\its.size<=Ch/\qT xs its.toList
noncomputable def WQ:Vl->Option V
 | .none=>Fa .mY
 | .bool b=>Fa (.bl b)
 | .int i _=>Fa (.int i)
 | .str x _=>Fa (.str x)
 | .bytes b _=>Fa (.byt b)
 | .float b _=>Fa (.flt b)
 | .ref a=>Fa (.ref a)
 | .type n=>Fa (.ty n)
 | _=>Db
def rb.abs(r:rb x u):WQ u=Fa x:=by
 cases x with
 | mY=>cases r;rfl
 | bl _=>cases r;rfl
 | int _=>obtain⟨t,rfl⟩:=r;rfl
 | str _=>obtain⟨t,rfl⟩:=r;rfl
 | byt _=>obtain⟨t,rfl⟩:=r;rfl
 | flt _=>obtain⟨t,rfl⟩:=r;rfl
 | ref _=>cases r;rfl
 | ty _=>cases r;rfl
def rb.inj(r:rb x u)(q:rb y u):x=y:=dv (r.abs.symm.trans q.abs)
theorem qT.inj:∀{xs ys:T0 V} {us:T0 Vl},qT xs us->qT ys us->xs=ys
 | _,_,_,.nil,.nil=>rfl
 | _,_,_,.cons r t,.cons r' t'=>by rw[r.inj r',qT.inj t t']
variable {xs ys:T0 V}
section
variable {Y:St}{a:Uf}
def vA.of{K:qM}(h:H a=Fa (.tup xs)):vA K H a xs:=.inl (.inl h)
def Inv.list(I:Inv X XN Y H s)(h:zJ X.K H a xs):∃its:T0 Vl,qT xs its/\PlainL s.heap a its.toArray/\xs.length<=Ch:=by
 rcases h with h|⟨o,its,n,hk,hc,hd,hs,hz,r⟩
 .obtain⟨z,its,n,r,e⟩:=h.ok I.m9;exact⟨its,r,⟨_,n,e,Z',Z',Z'⟩,z⟩
 .refine⟨its.toList,r,⟨o,n,I.nA a o hk,hc,hd,by simpa using hs⟩,?_⟩;have e:=r.length;simp only[iw]at e;lia
def Inv.oJ(I:Inv X XN Y H s)(h:vA X.K H a xs):∃its:T0 Vl,qT xs its/\DR s.heap a its.toArray/\xs.length<=Ch:=by
 rcases h with h|⟨o,its,n,hk,hc,hd,hs,hz,r⟩
 .obtain⟨z,its,r,p⟩:=h.ok I.m9;exact⟨its,r,p,z⟩
 .refine⟨its.toList,r,⟨o,I.nA a o hk,hc,⟨n,by simpa using hs⟩,hd⟩,?_⟩;have e:=r.length;simp only[iw]at e;lia
def Inv.tuple(I:Inv X XN Y H s)(h:vA X.K H a xs):∃its:T0 Vl,qT xs its/\IsTup s.heap a its.toArray/\xs.length<=Ch:=by
 rcases h with h|⟨o,its,n,hk,hc,hd,hs,hz,r⟩
 .obtain⟨z,its,r,p⟩:=h.ok I.m9;exact⟨its,r,p.is,z⟩
 .refine⟨its.toList,r,⟨o,I.nA a o hk,hc,n,by simpa using hs⟩,?_⟩;have e:=r.length;simp only[iw]at e;lia
def Inv.oa(I:Inv X XN Y H s)(h:zJ X.K H a xs)(h':zJ X.K H a ys):xs=ys:=by
 obtain⟨its,r,⟨o,n,e,_,_,d⟩,_⟩:=I.list h;obtain⟨its',r',⟨o',n',e',_,_,d'⟩,_⟩:=I.list h';rw[e]at e';cases e';rw[d]at d';injection d' with d1 _
 have:its=its':=by simpa using eY Array.toList d1
 subst this;exact r.inj r'
def Inv.nF(I:Inv X XN Y H s)(h:vA X.K H a xs)(h':vA X.K H a ys):xs=ys:=by
 obtain⟨its,r,⟨o,e,_,n,d⟩,_⟩:=I.tuple h;obtain⟨its',r',⟨o',e',_,n',d'⟩,_⟩:=I.tuple h';rw[e]at e';cases e';rw[d]at d';injection d' with d1 _
 have:its=its':=by simpa using eY Array.toList d1
 subst this;exact r.inj r'
end
abbrev Cx.nX(X:Cx)(E:QQX):Cx:={X with xe:=E}
abbrev Cx.oQ(X:Cx):Cx:=X.nX λ_ _=>False
def Cx.Ok.nX{X:Cx}(ok:X.Ok)(E:QQX):(X.nX E).Ok:=
 ⟨ok.mod,ok.kind,ok.glob,ok.blt,ok.above,ok.inj,ok.has,ok.oH,ok.hd,ok.frames,ok.oX,ok.pF,ok.bs,ok.oy,ok.og,ok.oj,ok.nP,ok.oG⟩
def Cx.Ok.nE{X:Cx}{E:QQX}(ok:(X.nX E).Ok):X.Ok:=
 ⟨ok.mod,ok.kind,ok.glob,ok.blt,ok.above,ok.inj,ok.has,ok.oH,ok.hd,ok.frames,ok.oX,ok.pF,ok.bs,ok.oy,ok.og,ok.oj,ok.nP,ok.oG⟩
section
variable {Y:St}{E:QQX}
def Inv.nX(I:Inv X XN Y H s)(E:QQX):Inv (X.nX E) XN Y H s:=⟨I.ok.nX E,I.os,I.bare,I.base,I.loc,I.cell,I.free,I.nv,I.pin,I.m9,I.len⟩
def Inv.nE(I:Inv (X.nX E) XN Y H s):Inv X XN Y H s:=⟨I.ok.nE,I.os,I.bare,I.base,I.loc,I.cell,I.free,I.nv,I.pin,I.m9,I.len⟩
def SP.nE{D:FY}(h:SP (X.nX E) XN D f s'):SP X XN D f s':=by
 cases f with
 | next=>obtain⟨σ',H',I,q⟩:=h;exact⟨σ',H',I.nE,q⟩
 | brk=>obtain⟨σ',H',I,q⟩:=h;exact⟨σ',H',I.nE,q⟩
 | cont=>obtain⟨σ',H',I,q⟩:=h;exact⟨σ',H',I.nE,q⟩
 | ret u=>obtain⟨v,σ',H',I,r,q⟩:=h;exact⟨v,σ',H',I.nE,r,q⟩
def Cq.oQ{st:T0 sK}(h:Cq X.oQ st t):Cq X st t:=λXN s Y H D I hw=>eD (h XN s Y H D (I.nX _) hw) (λ_ _ q=>q.nE) λ_ _ z=>False.elim z
end
variable {st:sK}{u:TS}{te:TE}
section
variable {rest:T0 sK}{t:TS}{e:Go}
def UH:TS:=λD Y H=>D.nx Y H
def W8(t u:TS):TS:=λD Y H=>t {D with nx:=u D} Y H
def PK:Cq X [] UH:=λ_ _ Y H _ I h=>hJ ⟨Y,H,I,h⟩
def M9(h1:PS X st t)(h2:Cq X rest u):Cq X (st::rest) (W8 t u):=by
 intro XN s Y H D I h;refine jI (sZ (h1 XN s Y H {D with nx:=u D} I h) λf s1 q=>?_);cases f with
 | next=>obtain⟨σ',H',I',q⟩:=q;exact h2 XN s1 σ' H' D I' q
 | ret v=>exact q
 | brk=>exact q
 | cont=>exact q
def FC(h1:PS X st t):Cq X [st] t:=by
 intro XN s Y H D I h;refine jI (sZ (h1 XN s Y H D I h) λf s1 q=>?_);cases f with
 | next=>exact hJ q
 | ret v=>exact q
 | brk=>exact q
 | cont=>exact q
def Inv.quiet{XN:QQY}(I:Inv X XN Y H s):interactive X.env=lf:=by simp[interactive,I.ok.kind]
def UN(te:TE):TS:=λD Y H=>te Y H λ_ H1=>D.nx Y H1
def Q7(he:PE X e te)(hs:ZB e Db pos.line X.env=pure lf:=by rfl):PS X (.Expr e pos) (UN te):=by intro XN s Y H D I h;exact wpAny_Expr_any (sZ (he XN s Y H _ I h) λv s1 zz=>x5 zz λx H1 I1 r1 q1=>⟨Y,H1,I1,q1⟩) I.quiet hs
def Xb(te:TE):TS:=λD Y H=>te Y H D.rt
def TL(he:PE X e te):PS X (.Return (Fa e) pos) (Xb te):=by intro XN s Y H D I h;exact wpAny_Return_some (sZ (he XN s Y H _ I h) λv s1 zz=>x5 zz λx H1 I1 r1 q1=>⟨x,Y,H1,I1,r1,q1⟩)
def WC(c:TT)(t u:TS):TS:=λD Y H=>c Y H λb H1=>if b=pc then t D Y H1 else u D Y H1
def UW(hc:PT X c tc)(ha:Cq X a t)(hb:Cq X b u):PS X (.If c a b pos) (WC tc t u):=by
 intro XN s Y H D I h;refine wpAny_If (sZ (hc XN s Y H _ I h) λd s1 ⟨H1,I1,q1⟩=>?_);cases d with
 | true=>exact ha XN s1 Y H1 D I1 q1
 | false=>exact hb XN s1 Y H1 D I1 q1
def Tt:TS:=λ_ _ _=>False
def Nn:PS X st Tt:=λ_ _ _ _ _ _ h=>h.elim
end
abbrev TG:=V->St->Hp->(St->Hp->Prop)->Prop
abbrev OW:=T0 V->St->Hp->(St->Hp->Prop)->Prop
def PG(X:Cx)(Yk:Go)(t:TG):Prop:=
 ∀(XN:QQY) (s:Sd) (Y:St) (H:Hp) (v:V) (u:Vl) (Q:St->Hp->Prop),Inv X XN Y H s->rb v u->t v Y H Q->
  pi (Tk X.prog X.w) X.A (assign Yk X.env u) (λ_ s'=>∃σ' H',Inv X XN σ' H' s'/\Q σ' H') X.xe s
def OG(X:Cx)(ts:T0 Go)(t:OW):Prop:=
 ∀(XN:QQY) (s:Sd) (Y:St) (H:Hp) (vs:T0 V) (us:T0 Vl) (Q:St->Hp->Prop),Inv X XN Y H s->qT vs us->t vs Y H Q->
  pi (Tk X.prog X.w) X.A (assignInOrder ((At ts X.env).map (·.2)) us) (λ_ s'=>∃σ' H',Inv X XN σ' H' s'/\Q σ' H') X.xe s
abbrev Ss:=V->V->V->Hp->(Hp->Prop)->Prop
def VH(X:Cx)(t:Ss):Prop:=
 ∀(XN:QQY) (s:Sd) (Y:St) (H:Hp) (o i v:V) (ov iv u:Vl) (Q:Hp->Prop),Inv X XN Y H s->rb o ov->rb i iv->rb v u->t o i v H Q->
  pi (Tk X.prog X.w) X.A (setItem ov iv u) (λ_ s'=>∃H',Inv X XN Y H' s'/\Q H') X.xe s
def Jl(i:Nat):TG:=λv Y H Q=>Q (Y.set i (Fa v)) H
def Qe{i:Nat}{x:Str}(hN:X.N.Nodup)(hi:X.N[i]?=Fa x)(hx:Lm X.env.scope x)(hf:Lq X x:=by first|exact .inl Z'|exact .inr Z'|assumption):PG X (.Name x pos) (Jl i):=by intro XN s Y H v u Q I r h;exact lG (xT I hN hi hx r (λs' I'=>⟨_,H,I',h⟩) hf)
def W':OW:=λvs Y H Q=>vs=[]/\Q Y H
def Uz(t:TG)(u:OW):OW:=λvs Y H Q=>∃v r,vs=v::r/\t v Y H λσ' H'=>u r σ' H' Q
def QX:OG X [] W':=by intro XN s Y H vs us Q I r h;obtain⟨e,h⟩:=h;subst e;cases r;exact assignInOrder_nil ⟨Y,H,I,h⟩
def LS{u:OW}(h1:PG X e t)(h2:OG X es u) (hs:(At (e::es) X.env).map (·.2)=assign e X.env::(At es X.env).map (·.2):=by rfl):OG X (e::es) (Uz t u):=by
 intro XN s Y H vs us Q I r h;obtain⟨v,vr,e1,h⟩:=h;subst e1;cases r with
 | cons r rr=>rw[hs];refine assignInOrder_cons (sZ (h1 XN s Y H _ _ _ I r h) λ_ s1 ⟨σ1,H1,I1,q1⟩=>?_);exact h2 XN s1 σ1 H1 _ _ Q I1 rr q1
def W2(K:qM)(n:Nat)(t:OW):TG:=λv Y H Q=>∃a xs,v=.ref a/\vA K H a xs/\xs.length=n/\t xs Y H Q
def TQ{n:Nat}(hc:X.calm=pc)(h:OG X es t) (hn:(At es X.env).length=n:=by rfl) (Yb:(At es X.env).findIdx? (·.1)=Db:=by rfl):PG X (.Tuple es k pos) (W2 X.K n t):=by
 intro XN s Y H v u Q I r hw;obtain⟨a,xs,e1,hq,hl,hw⟩:=hw;subst e1;cases r;obtain⟨its,rv,ht,hz⟩:=I.tuple hq;refine assign_Tuple_tuple (I.ok.hd hc) ht (by simp[hn,<-hl,rv.length]) Yb λh' hx=>?_;have I1:Inv X XN Y H {s with heap:=h'}:=I.kept (t':=s.toks) λb o e=>hx b o (dO (dD e)) e;exact h XN _ Y H xs _ Q I1 (by simpa using rv) hw
def Xa(to ti:TE)(t:Ss):TG:=λv Y H Q=>to Y H λo H1=>ti Y H1 λi H2=>t o i v H2 λH3=>Q Y H3
def Uc(ho:PE X o to)(hi:PE X i ti)(hs:VH X t) (ha:∀v,assign (.Subscript o i pos) X.env v=(do
   let ov<-wE [v] (wp o X.env);let iv<-wE [v,ov] (wp i X.env)
   XXc pos
   wE [v,ov,iv] (setItem ov iv v)
   release [v,ov,iv] []):=by intro _;rfl):PG X (.Subscript o i pos) (Xa to ti t):=by
 intro XN s Y H v u Q I r h;rw[ha];refine cX (eI (sZ (ho XN s Y H _ I h) λov s1 zz=>x5 zz λx H1 I1 r1 q1=>?_));refine cX (eI (sZ (hi XN s1 Y H1 _ I1 q1) λiv s2 zz=>x5 zz λy H2 I2 r2 q2=>?_));refine cX (hG (cX (eI (sZ (hs XN s2 Y H2 x y v ov iv u _ I2 r1 r2 r q2) λ_ s3 ⟨H3,I3,q3⟩=>?_))));exact wpAny_release ⟨Y,H3,I3,q3⟩
def PH(te:TE)(g:TG):TS:=λD Y H=>te Y H λx H1=>g x Y H1 D.nx
def Ug(he:PE X e te)(hg:PG X tg g)(hs:swapsWithSole [tg] e pos.line X.env=pure lf:=by rfl)(hw:swappedStores [tg] e X.env=pure Db:=by rfl)
  (h1:(At [tg] X.env).map (·.2)=[assign tg X.env]:=by rfl):PS X (.Assign [tg] e pos) (PH te g):=by
 intro XN s Y H D I h;refine wpAny_Assign_stores (sZ (he XN s Y H _ I h) λv s1 zz=>x5 zz λx H1 I1 r1 q1=>?_) hs hw;rw[h1];exact sZ (hg XN s1 Y H1 x v _ I1 r1 q1) λ_ s2 q=>q
def Mf{i:Nat}{x:Str}(hN:X.N.Nodup)(hi:X.N[i]?=Fa x)(hx:Lm X.env.scope x)(he:PE X e te)(hs:ZB e (Fa (.Name x X1)) pos.line X.env=pure lf:=by rfl)(hf:Lq X x:=by first|exact .inl Z'|exact .inr Z'|assumption):
  PS X (.Assign [.Name x X1] e pos) (PH te (Jl i)):=by
 intro XN s Y H D I h;refine lH (sZ (he XN s Y H _ I h) λv s1 zz=>x5 zz λy H1 I1 r1 q1=>?_) hs;exact xT I1 hN hi hx r1 (λs2 I2=>⟨_,H1,I2,q1⟩) hf
def SE(c:TT)(tb:TS):TS:=λD Y H=>∃W:Nat->St->Hp->Prop,(∃m,W m Y H)/\∀m Y H,W m Y H->
 c Y H λb H1=>if b=pc then ∃N:St->Hp->Prop,(∀σ' H',N σ' H'->∃m',m'<m/\W m' σ' H')/\tb {D with nx:=N,ct:=N,bk:=D.nx} Y H1 else D.nx Y H1
def Lz{tb:TS}(hp:PassesOwn (Tk X.prog X.w) X.A X.env X.xe)(hc:PT X c tc)(hb:Cq X body tb):PS X (.While c body [] pos) (SE tc tb):=by
 intro XN s Y H D I h;obtain⟨W,⟨m0,w0⟩,turn⟩:=h;refine wpAny_While (codeAny_whileLoop (λn s'=>∃σ' H',Inv X XN σ' H' s'/\W n σ' H') ?_ m0 ⟨Y,H,I,w0⟩)
 rintro n s1 ⟨σ1,H1,I1,w1⟩
 refine gM hp (sZ (hc XN s1 σ1 H1 _ I1 (turn n σ1 H1 w1)) λb s2 ⟨H2,I2,q2⟩=>?_);cases b with
 | true=>
  obtain⟨N,hN,q2⟩:=q2;rw[dg Z'];refine gM hp (sZ (hb XN s2 σ1 H2 _ I2 q2) λf s3 q3=>?_);cases f with
  | next=>obtain⟨σ3,H3,I3,n3⟩:=q3;obtain⟨m',hm,w3⟩:=hN σ3 H3 n3;exact⟨m',hm,σ3,H3,I3,w3⟩
  | cont=>obtain⟨σ3,H3,I3,n3⟩:=q3;obtain⟨m',hm,w3⟩:=hN σ3 H3 n3;exact⟨m',hm,σ3,H3,I3,w3⟩
  | brk=>exact q3
  | ret v=>exact q3
 | false=>rw[de dC];exact hJ ⟨σ1,H2,I2,q2⟩
structure It where
 go:Nat->Hp->Prop
 pz:Nat->Hp->V->Hp->Prop
 stop:Nat->Hp->Prop
def BF(X:Cx)(XN:QQY)(H:Hp)(b:Uf):Prop:=
 H b=Db/\b≠X.env.locals/\b∉X.fs/\(b∈X.ex\/X.s₀.heap.objs.size<=b)/\(∀x c,X.env.cells.lookup x=Fa c->c≠b)/\∀p∈X.pn++XN,p.1≠b
def Inv.oo{XN:QQY}{H H':Hp}{b:Uf}(I:Inv X XN Y H s)(hb:s.heap.objs.size<=b)(hn:H' b=Db):BF X XN H' b:=by
 refine⟨hn,gW (dR I.lt hb),I.oZ hb,.inr (d9 I.sz hb),λx c e z=>?_,λp hp z=>?_⟩
 .obtain⟨v,q⟩:=I.cell x c e;exact absurd (dR q.lt (by rw[z];exact hb)) (ft _)
 .exact absurd (dR (dD (I.pin p hp).1) (by rw[z];exact hb)) (ft _)
structure GA(P:Pg)(w:Wo)(K:qM)(tg:Go)(J:It)(fp:QXQ)(it:Uf)(tn:Nat->No->Prop):Prop where
 mem:it∈fp
 obj:∀i h,tn i h->∀b∈fp,∃o,h.get? b=Fa o/\∀v,o.data≠.cell v
 keep:∀i h h',tn i h->(∀b∈fp,∀o,h.get? b=Fa o->h'.get? b=Fa o)->tn i h'
 item:∀(X:Cx),X.prog=P->X.w=w->X.K=K->X.calm=pc->∀(i:Nat) (XN:QQY) (s:Sd) (Y:St) (H:Hp) (E:QQX),Inv X XN Y H s->(∀b∈fp,BF X XN H b)->tn i s.heap->J.go i H->
  pi (Tk P w) X.A (pyNext (.ref it)) (λr s1=>∃u,r=Fa u/\
   pi (Tk P w) X.A (XXh tg (.ref it) u) (λ_ s2=>∃x H',Inv X XN Y H' s2/\rb x u/\J.pz i H x H'/\tn (i+1) s2.heap/\∀b∈fp,H' b=Db) E s1) E s
 done:∀(X:Cx),X.prog=P->X.w=w->X.K=K->X.calm=pc->∀(i:Nat) (XN:QQY) (s:Sd) (Y:St) (H:Hp) (E:QQX),Inv X XN Y H s->(∀b∈fp,BF X XN H b)->tn i s.heap->J.stop i H->
  pi (Tk P w) X.A (pyNext (.ref it)) (λr s1=>r=Db/\Inv X XN Y H s1) E s
 self:∀(A:Ar) (i:Nat) (s:Sd) (Q:QQX) (E:QQX),tn i s.heap->Q (.ref it) s->pi (Tk P w) A (pyIter (.ref it)) Q E s
abbrev TI:=St->Hp->(It->Hp->Prop)->Prop
def Xn(X:Cx)(XN:QQY)(Y:St)(tg:Go)(R:It->Hp->Prop)(itv:Vl)(s2:Sd):Prop:=
 ∃(it:Uf) (fp:QXQ) (tn:Nat->No->Prop) (J:It) (H':Hp),itv=.ref it/\Inv X XN Y H' s2/\GA X.prog X.w X.K tg J fp it tn/\tn 0 s2.heap/\(∀b∈fp,BF X XN H' b)/\R J H'
def PI(X:Cx)(tg iter:Go)(wi:TI):Prop:=
 ∀(XN:QQY) (s:Sd) (Y:St) (H:Hp) (R:It->Hp->Prop),Inv X XN Y H s->wi Y H R->
  pi (Tk X.prog X.w) X.A (wp iter X.env) (λv s1=>pi (Tk X.prog X.w) X.A (pyIter v) (Xn X XN Y tg R) X.xe s1) X.xe s
def JT{M:Model}{A:Ar}{E:QQX}{s:Sd}{tg:Go}{it:Uf}{u:Vl}{o:Obj}{n:String}{vs:Array Vl}{Q:Unit->Sd->Prop}(ho:s.heap.get? it=Fa o)(hc:o.cls=.type n)(hd:o.data=.fields vs) (hn:["enumerate","zip","dict_itemiterator","dict_reverseitemiterator","odict_iterator","itertools.zip_longest","itertools.pairwise"].contains n=lf) (hQ:Q () s):pi M A (XXh tg (.ref it) u) Q E s:=by
  unfold XXh;cases tg<;>first
    | exact dq hQ
    | (cases u<;>first
        | exact dq hQ
        | (refine cX (wpAny_load ho ?_)
           rw[hc,hd];show pi M A (if (["enumerate","zip","dict_itemiterator","dict_reverseitemiterator","odict_iterator","itertools.zip_longest","itertools.pairwise"].contains n&&vs[0]?==Fa (X' _))=pc then _ else _) Q E s;rw[de (by intro h;rw[hn,fh]at h;cases h)];exact dq hQ))
noncomputable def Wb(K:qM)(a:Uf):It:=
 ⟨λi H=>∃xs x,zJ K H a xs/\xs[i]?=Fa x,λi H x H'=>H'=H/\∀xs,zJ K H a xs->xs[i]?=Fa x,λi H=>∃xs,zJ K H a xs/\xs.length<=i⟩
noncomputable def WV(K:qM)(a:Uf):It:=
 ⟨λi H=>∃xs x,vA K H a xs/\xs[i]?=Fa x,λi H x H'=>H'=H/\∀xs,vA K H a xs->xs[i]?=Fa x,λi H=>∃xs,vA K H a xs/\xs.length<=i⟩
noncomputable def Wf(lo:Int)(n:Nat):It:=⟨λi _=>i<n,λi H x H'=>H'=H/\x=.int (lo+i),λi _=>n<=i⟩
def K5{K:qM}(a it:Uf):GA P w K tg (Wb K a) [it] it (λi h=>h.IsListIter it a i) where
 mem:=by simp
 obj:=λi h st b hb=>by
  have e:b=it:=by simpa using hb
  subst e;obtain⟨o,e,c,d⟩:=st;exact⟨o,e,λv z=>by rw[d]at z;cases z⟩
 keep:=λi h h' st k=>st.at λo e=>k it (by simp) o e
 item:=by intro X hP hw hK hc i XN s Y H E I hf st hg;subst hP hw hK;obtain⟨xs,x,hq,hx⟩:=hg;obtain⟨its,rv,p,hz⟩:=I.list hq;obtain⟨u,hu,ru⟩:=rv.get hx;obtain⟨f0,f1,f2,f3,f4,f5⟩:=hf it (by simp);refine j5 st p.isList (x:=u) (by simpa using hu) λh' Zb sb=>?_;have I1:Inv X XN Y H {s with heap:=h'}:=I.turned (t':=s.toks) (λb o hb e=>(sb.2 b hb).trans e) f0 f1 f3 f4 f5;obtain⟨o,e,c,d⟩:=id Zb;exact⟨u,Z',JT (s:={s with heap:=h'}) e c d (by decide) ⟨x,H,I1,ru,⟨Z',λys hy=>by rw[I.oa hy hq];exact hx⟩,Zb,λb hb=>(hf b hb).1⟩⟩
 done:=by intro X hP hw hK hc i XN s Y H E I hf st hg;subst hP hw hK;obtain⟨xs,hq,hx⟩:=hg;obtain⟨its,rv,p,hz⟩:=I.list hq;obtain⟨f0,f1,f2,f3,f4,f5⟩:=hf it (by simp);have hl:=rv.length;exact ke (I.ok.hd hc) st p.isList (by simp;lia) λh' eb=>⟨Z',I.turned (t':=s.toks) (λb o hb e=>eb b o hb e) f0 f1 f3 f4 f5⟩
 self:=λ_ _ _ _ _ st h=>wpAny_pyIter_listiter st h
def Ii{K:qM}(a it:Uf):GA P w K tg (WV K a) [it] it (λi h=>h.IsTupleIter it a i) where
 mem:=by simp
 obj:=λi h st b hb=>by
  have e:b=it:=by simpa using hb
  subst e;obtain⟨o,e,c,d⟩:=st;exact⟨o,e,λv z=>by rw[d]at z;cases z⟩
 keep:=λi h h' st k=>st.at λo e=>k it (by simp) o e
 item:=by intro X hP hw hK hc i XN s Y H E I hf st hg;subst hP hw hK;obtain⟨xs,x,hq,hx⟩:=hg;obtain⟨its,rv,p,hz⟩:=I.tuple hq;obtain⟨u,hu,ru⟩:=rv.get hx;obtain⟨f0,f1,f2,f3,f4,f5⟩:=hf it (by simp);refine wpAny_pyNext_tuple_item st (show s.heap.IsTuple a its.toArray from p) (x:=u) (by simpa using hu) λh' Zb sb=>?_;have I1:Inv X XN Y H {s with heap:=h'}:=I.turned (t':=s.toks) (λb o hb e=>(sb.2 b hb).trans e) f0 f1 f3 f4 f5;obtain⟨o,e,c,d⟩:=id Zb;exact⟨u,Z',JT (s:={s with heap:=h'}) e c d (by decide) ⟨x,H,I1,ru,⟨Z',λys hy=>by rw[I.nF hy hq];exact hx⟩,Zb,λb hb=>(hf b hb).1⟩⟩
 done:=by intro X hP hw hK hc i XN s Y H E I hf st hg;subst hP hw hK;obtain⟨xs,hq,hx⟩:=hg;obtain⟨its,rv,p,hz⟩:=I.tuple hq;obtain⟨f0,f1,f2,f3,f4,f5⟩:=hf it (by simp);have hl:=rv.length;exact wpAny_pyNext_tuple_end (I.ok.hd hc) st (show s.heap.IsTuple a its.toArray from p) (by simp;lia) λh' eb=>⟨Z',I.turned (t':=s.toks) (λb o hb e=>eb b o hb e) f0 f1 f3 f4 f5⟩
 self:=λ_ _ _ _ _ st h=>wpAny_pyIter_tupleiter st h
def IR{K:qM}(it:Uf)(lo:Int)(n:Nat):GA P w K tg (Wf lo n) [it] it (λi h=>IsRangeIter h it (lo+(i:Nat)*1) ((n:Int) - (i:Nat)) 1) where
 mem:=by simp
 obj:=λi h st b hb=>by
  have e:b=it:=by simpa using hb
  subst e;exact⟨_,st,λv z=>by
   have z':Data.fields _=Data.cell v:=z;cases z'⟩
 keep:=λi h h' st k=>k it (by simp) _ st
 item:=by intro X hP hw hK hc i XN s Y H E I hf st hg;subst hP hw hK;obtain⟨f0,f1,f2,f3,f4,f5⟩:=hf it (by simp);have W:=Walks.range (prog:=X.prog) (w:=X.w) (I.ok.hd hc) it lo 1 n;refine W.item i s _ _ hg st λv h' tk hv Zb kk=>?_;obtain⟨t,rfl⟩:=hv;have I1:Inv X XN Y H {s with heap:=h',toks:=tk}:=I.turned (λb o hb e=>kk b o (by simpa using hb) e) f0 f1 f3 f4 f5;refine⟨_,Z',JT (s:={s with heap:=h',toks:=tk}) (n:="range_iterator") Zb Z' Z' (by decide) ⟨.int (lo+i),H,I1,⟨t,?_⟩,⟨Z',Z'⟩,Zb,λb hb=>(hf b hb).1⟩⟩;rw[Int.mul_one]
 done:=by intro X hP hw hK hc i XN s Y H E I hf st hg;subst hP hw hK;obtain⟨f0,f1,f2,f3,f4,f5⟩:=hf it (by simp);exact wpAny_pyNext_range_end (I.ok.hd hc) st (by have:n<=i:=hg;lia) λh' eb=>⟨Z',I.turned (t':=s.toks) (λb o hb e=>eb b o hb e) f0 f1 f3 f4 f5⟩
 self:=λ_ _ _ _ _ st h=>wpAny_pyIter_rangeiter st h
variable {tg:Go}
def NI{XN:QQY}{R:It->Hp->Prop}{E:QQX}{lo hi:Int}{t u v:Tok}{tk:Nat}(I:Inv X XN Y H s)(h1:-(2 ^ 62)<=lo)(h2:lo<2 ^ 62)(h3:-(2 ^ 62)<=hi)(h4:hi<2 ^ 62) (q:R (Wf lo (hi - lo).toNat) H):pi (Tk X.prog X.w) X.A (pyIter (.ref s.heap.objs.size)) (Xn X XN Y tg R) E {s with heap:=s.heap.push {cls:=.type "range",data:=.fields #[.int lo t,.int hi u,.int 1 v]},toks:=tk}:=by
 refine wpAny_pyIter_range (IsRange.new ..) (small_one h1 h2 h3 h4) ?_;have I1:Inv X XN Y H {s with heap:=s.heap.push {cls:=.type "range",data:=.fields #[.int lo t,.int hi u,.int 1 v]},toks:=tk}:=I.kept λb o e=>df _ e;refine⟨(s.heap.push {cls:=.type "range",data:=.fields #[.int lo t,.int hi u,.int 1 v]}).objs.size,[(s.heap.push {cls:=.type "range",data:=.fields #[.int lo t,.int hi u,.int 1 v]}).objs.size],_,_,H,Z',I1.kept (t':=tk) λb o e=>df _ e,IR _ lo (hi - lo).toNat,?_,λb hb=>?_,q⟩
 .have e1:lo+((0:Nat):Int)*1=lo:=by simp
  have e2:(((hi - lo).toNat:Nat):Int) - ((0:Nat):Int)=Builtin.Range.rangeSize lo hi 1:=by rw[rangeSize_one];split<;>lia
  show IsRangeIter _ _ (lo+((0:Nat):Int)*1) ((((hi - lo).toNat:Nat):Int) - ((0:Nat):Int)) 1;rw[e1,e2];exact dN _ Z'
 .have e:b=(s.heap.push {cls:=.type "range",data:=.fields #[.int lo t,.int hi u,.int 1 v]}).objs.size:=by simpa using hb
  subst e;exact I1.oo (dw _) (I1.m9.fresh (dw _))
def Vf(ta:TA):TI:=λY H R=>ta Y H λvs H1=>∃j:Int,vs=[.int j]/\-(2 ^ 62)<=j/\j<2 ^ 62/\R (Wf 0 j.toNat) H1
def Lj{a:Go}{ta:TA}(hg:Gl X "range")(hm:X.mg "range"=Db)(ha:PA X [a] ta)(hs:Tl [a] X.env=[(lf,wp a X.env)]:=by rfl):PI X tg (.Call (.Name "range" p) [a] [] pos) (Vf ta):=by
 intro XN s Y H R I h;refine Call_ (ya I hg hm boot_range (gg (sZ (ha pos XN s Y H _ I h) λus s1 zz=>x5 zz λvs H1 I1 r1 q1=>?_) hs Z'));obtain⟨j,e,q1,q2,q⟩:=q1;subst e;cases r1 with
 | cons r rr=>cases rr;obtain⟨t,rfl⟩:=r;exact call_range_1 (NI I1 (by lia) (by lia) q1 q2 (by simpa using q))
def Wk(wi:TI)(g:TG)(tb:TS):TS:=λD Y H=>wi Y H λJ H1=>∃W:Nat->Nat->St->Hp->Prop,(∃m,W 0 m Y H1)/\∀i m Y H,W i m Y H->
 (J.stop i H/\D.nx Y H)\/(J.go i H/\∃N:St->Hp->Prop,(∀σ' H',N σ' H'->∃m',m'<m/\W (i+1) m' σ' H')/\∀x H',J.pz i H x H'->g x Y H' λσ2 H2=>tb {D with nx:=N,ct:=N,bk:=D.nx} σ2 H2)
noncomputable def CK(fp:QXQ)(h:No):QQY:=fp.filterMap λb=>(h.get? b).map λo=>(b,o)
def vX{fp:QXQ}{h:No}{b:Uf}{o:Obj}(hb:b∈fp)(e:h.get? b=Fa o):(b,o)∈CK fp h:=k9.mpr ⟨b,hb,by rw[e];rfl⟩
def KM{p:Uf×Obj}(hp:p∈CK fp h):p.1∈fp/\h.get? p.1=Fa p.2:=by
 obtain⟨b,hb,e⟩:=k9.mp hp;cases q:h.get? b with
 | none=>rw[q]at e;cases e
 | some o=>rw[q]at e;have e':(b,o)=p:=dv e;subst e';exact⟨hb,q⟩
def Inv.pinned{XN:QQY}{fp:QXQ}(I:Inv X XN Y H s)(hf:∀b∈fp,BF X XN H b)(ho:∀b∈fp,∃o,s.heap.get? b=Fa o/\∀v,o.data≠.cell v):Inv X (XN++CK fp s.heap) Y H s:=
 I.nY λp hp=>(dU.mp hp).elim (λz=>I.pin p (eh _ z)) λz=>by obtain⟨hb,e⟩:=KM z;obtain⟨f0,f1,f2,_⟩:=hf p.1 hb;obtain⟨o,e',d⟩:=ho p.1 hb;rw[e]at e';cases e';exact⟨e,f0,f1,f2,d⟩
def Inv.ny{XN pl:QQY}(I:Inv X (XN++pl) Y H s):Inv X XN Y H s:=I.nY λp hp=>I.pin p (eh _ (eP _ hp))
def RT{tb:TS}(hp:PassesOwn (Tk X.prog X.w) X.A X.env X.xe)(hc:X.calm=pc)(hi:PI X tg iter wi)(hg:PG X tg g)(hb:Cq X body tb) (hs:∀x,AT iter X.env x=pure x:=by intro _;rfl):PS X (.For tg iter body [] pos) (Wk wi g tb):=by
 intro XN s Y H D I h;refine wpAny_For (sZ (hi XN s Y H _ I h) λv s1 h1=>sZ h1 λitv s2 h2=>?_) hs;obtain⟨it,fp,tn,J,H2,e,I2,T,Ya,f2,W,⟨m0,w0⟩,turn⟩:=h2;subst e;have Y3:∀{H':Hp},(∀b∈fp,H' b=Db)->∀b∈fp,BF X XN H' b:=λhn b hb=>⟨hn b hb,(f2 b hb).2⟩;refine codeAny_forLoop_any (λn s'=>∃i σ' H',Inv X XN σ' H' s'/\tn i s'.heap/\(∀b∈fp,H' b=Db)/\W i n σ' H') ?_ m0 ⟨0,Y,H2,I2,Ya,λb hb=>(f2 b hb).1,w0⟩
 rintro n s3 ⟨i,σ3,H3,I3,Yp,fr3,w3⟩
 rcases turn i n σ3 H3 w3 with⟨stop,qn⟩|⟨go,N,hN,step⟩
 .refine gM hp (sZ (T.done X Z' Z' Z' hc i XN s3 σ3 H3 X.xe I3 (Y3 fr3) Yp stop) λr s4 ⟨hr,I4⟩=>?_);subst hr;exact hJ ⟨σ3,H3,I4,qn⟩
 .refine gM hp (sZ (T.item X Z' Z' Z' hc i XN s3 σ3 H3 X.xe I3 (Y3 fr3) Yp go) λr s4 ⟨u,hr,h4⟩=>?_);subst hr;refine gM hp (sZ h4 λ_ s5 zz=>?_);obtain⟨x,H5,I5,r5,y5,Zj,fr5⟩:=zz;have I5':=I5.pinned (Y3 fr5) (T.obj _ _ Zj);refine gM hp (sZ (hg _ s5 σ3 H5 x u _ I5' r5 (step x H5 y5)) λ_ s6 ⟨σ6,H6,I6,q6⟩=>?_);refine gM hp (sZ (hb _ s6 σ6 H6 _ I6 q6) λf s7 q7=>?_);have again:∀{σ7:St} {H7:Hp},Inv X (XN++CK fp s5.heap) σ7 H7 s7->N σ7 H7->∃m,m<n/\∃i σ' H',Inv X XN σ' H' s7/\tn i s7.heap/\(∀b∈fp,H' b=Db)/\W i m σ' H':=λ{σ7 H7} I7 n7=>by obtain⟨m',hm,w7⟩:=hN σ7 H7 n7;refine⟨m',hm,i+1,σ7,H7,I7.ny,T.keep _ _ _ Zj λb hb o e=>(I7.pin (b,o) (eh _ (eh _ (vX hb e)))).1,λb hb=>?_,w7⟩;obtain⟨o,e,d⟩:=T.obj _ _ Zj b hb;exact(I7.pin (b,o) (eh _ (eh _ (vX hb e)))).2.1
  cases f with
  | next=>obtain⟨σ7,H7,I7,n7⟩:=q7;exact again I7 n7
  | cont=>obtain⟨σ7,H7,I7,n7⟩:=q7;exact again I7 n7
  | brk=>obtain⟨σ7,H7,I7,q7⟩:=q7;exact⟨σ7,H7,I7.ny,q7⟩
  | ret v=>obtain⟨x7,σ7,H7,I7,r7,q7⟩:=q7;exact⟨x7,σ7,H7,I7.ny,r7,q7⟩
abbrev R2:=V->V->Hp->VK->Prop
def yj(X:Cx)(f:Vl->Vl->Sem Vl)(r:R2):Prop:=
 ∀(XN:QQY) (s:Sd) (Y:St) (H:Hp) (x y:V) (v u:Vl) (Q:VK),Inv X XN Y H s->rb x v->rb y u->r x y H Q->
  pi (Tk X.prog X.w) X.A (f v u) (EP X XN Y Q) X.xe s
def Wt(X:Cx)(f:Vl->Sem Vl)(r:V->Hp->VK->Prop):Prop:=
 ∀(XN:QQY) (s:Sd) (Y:St) (H:Hp) (x:V) (v:Vl) (Q:VK),Inv X XN Y H s->rb x v->r x H Q->
  pi (Tk X.prog X.w) X.A (f v) (EP X XN Y Q) X.xe s
def Av(X:Cx)(f:Vl)(r:T0 V->Hp->VK->Prop):Prop:=
 ∀(XN:QQY) (s:Sd) (Y:St) (H:Hp) (xs:T0 V) (us:T0 Vl) (Q:VK),Inv X XN Y H s->qT xs us->r xs H Q->
  pi (Tk X.prog X.w) X.A (call f us) (EP X XN Y Q) X.xe s
def UQ(r:R2)(ta tb:TE):TE:=λY H Q=>ta Y H λx H1=>tb Y H1 λy H2=>r x y H2 Q
def XC(r:V->Hp->VK->Prop)(ta:TE):TE:=λY H Q=>ta Y H λx H1=>r x H1 Q
def rI(C:Int->Int->Prop)(g:Int->Int->V):R2:=λx y H Q=>∃i j,x=.int i/\y=.int j/\C i j/\Q (g i j) H
def RN(g:Int->Int->V):R2:=λx y H Q=>∃i j,x=.int i/\y=.int j/\Q (g i j) H
def rU(g:Int->V):V->Hp->VK->Prop:=λx H Q=>∃i,x=.int i/\Q (g i) H
variable {tc:TE}
section
variable {a b c:Go}
def Sm(ha:PE X a ta)(hb:PE X b tb){XN:QQY}{s:Sd}{Y:St}{H:Hp}{R:V->V->Hp->Prop}(I:Inv X XN Y H s) (h:ta Y H λx H1=>tb Y H1 λy H2=>R x y H2) {Q:QQX} {f:Vl->Vl->Sem Vl} (hf:∀v u s2 x y H2,Inv X XN Y H2 s2->rb x v->rb y u->R x y H2->pi (Tk X.prog X.w) X.A (f v u) Q X.xe s2):
  pi (Tk X.prog X.w) X.A (wp a X.env) (λv s₁=>pi (Tk X.prog X.w) X.A (wp b X.env) (λu s₂=>pi (Tk X.prog X.w) X.A (f v u) Q X.xe s₂) X.xe s₁) X.xe s:=by
 refine sZ (ha XN s Y H _ I h) λv s1 zz=>x5 zz λx H1 I1 r1 q1=>?_;refine sZ (hb XN s1 Y H1 _ I1 q1) λu s2 zz=>x5 zz λy H2 I2 r2 q2=>?_;exact hf v u s2 x y H2 I2 r1 r2 q2
def RG{op:XYa}(ho:yj X (wP op) r)(ha:PE X a ta)(hb:PE X b tb):PE X (.BinOp a op b pos) (UQ r ta tb):=by intro XN s Y H Q I h;exact wpAny_BinOp (Sm ha hb I h λv u s2 x y H2 I2 rx ry q=>ho XN s2 Y H2 x y v u Q I2 rx ry q)
def UR{op:UnaryOp}(ho:Wt X (unaryOp op) r)(ha:PE X a ta):PE X (.UnaryOp op a pos) (XC r ta):=by intro XN s Y H Q I h;exact UnaryOp_ (sZ (ha XN s Y H _ I h) λv s1 zz=>x5 zz λx H1 I1 r1 q1=>ho XN s1 Y H1 x v Q I1 r1 q1)
def Wj{f:Vl->Vl->Sem Vl}{C:Int->Int->Prop}{g:Int->Int->Int} (rule:∀(i j:Int) (t u:Tok) (s:Sd) (Q:QQX) (E:QQX),C i j->Q (.int (g i j) s.toks) {s with toks:=s.toks+1}->pi (Tk X.prog X.w) X.A (f (.int i t) (.int j u)) Q E s):
  yj X f (rI C λi j=>.int (g i j)):=by
 intro XN s Y H x y v u Q I rx ry h;obtain⟨i,j,rfl,rfl,hc,q⟩:=h;obtain⟨t,rfl⟩:=rx;obtain⟨t',rfl⟩:=ry;exact rule i j t t' s _ _ hc ⟨.int (g i j),H,I.tok _,⟨_,Z'⟩,q⟩
def UA{f:Vl->Vl->Sem Vl}{g:Int->Int->Int} (rule:∀(i j:Int) (t u:Tok) (s:Sd) (Q:QQX) (E:QQX),Q (.int (g i j) s.toks) {s with toks:=s.toks+1}->pi (Tk X.prog X.w) X.A (f (.int i t) (.int j u)) Q E s):
  yj X f (RN λi j=>.int (g i j)):=by
 intro XN s Y H x y v u Q I rx ry h;obtain⟨i,j,rfl,rfl,q⟩:=h;obtain⟨t,rfl⟩:=rx;obtain⟨t',rfl⟩:=ry;exact rule i j t t' s _ _ ⟨.int (g i j),H,I.tok _,⟨_,Z'⟩,q⟩
def Re{f:Vl->Vl->Sem Vl}{g:Int->Int->Bool} (rule:∀(i j:Int) (t u:Tok) (s:Sd) (Q:QQX) (E:QQX),Q (.bool (g i j)) s->pi (Tk X.prog X.w) X.A (f (.int i t) (.int j u)) Q E s):
  yj X f (RN λi j=>.bl (g i j)):=by
 intro XN s Y H x y v u Q I rx ry h;obtain⟨i,j,rfl,rfl,q⟩:=h;obtain⟨t,rfl⟩:=rx;obtain⟨t',rfl⟩:=ry;exact rule i j t t' s _ _ ⟨.bl (g i j),H,I,Z',q⟩
def Ux(i j:Int):Prop:=0<j/\j<1073741824
def DB(i j:Int):Prop:=(-(2 ^ 64)<i/\i<2 ^ 64)\/(-(2 ^ 64)<j/\j<2 ^ 64)
def DB.ok(h:DB i j):IntMulOk i j:=by
 rcases h with⟨h1,h2⟩|⟨h1,h2⟩
 .exact .of_left (intBits_le_64 h1 h2)
 .exact .of_right (intBits_le_64 h1 h2)
def Sb:yj X (wP .Add) (RN λi j=>.int (i+j)):=UA λ_ _ _ _ _ _ _ q=>add_int q
def Tv:yj X (wP .Sub) (RN λi j=>.int (i - j)):=UA λ_ _ _ _ _ _ _ q=>sub_int q
def So:yj X (wP .Mult) (rI DB λi j=>.int (i*j)):=Wj λ_ _ _ _ _ _ _ hc q=>mul_int q hc.ok
def Qj:yj X (wP .FloorDiv) (rI Ux λi j=>.int (i / j)):=Wj λi j _ _ _ _ _ hc q=>by have h1:(0:Int)<j:=hc.1;have h2:j<1073741824:=hc.2;exact floordiv_int (by lia) (by rw[Int.fdiv_eq_ediv_of_nonneg i (by lia)];exact q) (.inl (PyProof.noPylong_small (by lia)))
def S8:yj X (wP .Mod) (rI (λ_ j=>0<j) λi j=>.int (i % j)):=Wj λi j _ _ _ _ _ hc q=>by have h1:(0:Int)<j:=hc;exact mod_int' (by lia) (by rw[Int.fmod_eq_emod_of_nonneg i (by lia)];exact q)
def XD{f:Vl->Sem Vl}{g:Int->Int} (rule:∀(i:Int) (t:Tok) (s:Sd) (Q:QQX) (E:QQX),Q (.int (g i) s.toks) {s with toks:=s.toks+1}->pi (Tk X.prog X.w) X.A (f (.int i t)) Q E s):
  Wt X f (rU λi=>.int (g i)):=by
 intro XN s Y H x v Q I rx h;obtain⟨i,rfl,q⟩:=h;obtain⟨t,rfl⟩:=rx;exact rule i t s _ _ ⟨.int (g i),H,I.tok _,⟨_,Z'⟩,q⟩
def TK:Wt X (unaryOp .USub) (rU λi=>.int (-i)):=XD λ_ _ _ _ _ q=>neg_int q
end
section
variable {a b c:Go}
def IT{XN:QQY}{Q:VK}{k k':Bool}(I:Inv X XN Y H s)(q:Q (.bl k) H)(e:k=k'):EP X XN Y Q (.bool k') s:=by subst e;exact⟨.bl k,H,I,Z',q⟩
def Vk:yj X (Ps .Lt) (RN λi j=>.bl (decide (i<j))):=Re λ_ _ _ _ _ _ _ q=>lt_int q
def VZ:yj X (Ps .LtE) (RN λi j=>.bl (decide (i<=j))):=Re λ_ _ _ _ _ _ _ q=>le_int q
def VN:yj X (Ps .Gt) (RN λi j=>.bl (decide (j<i))):=Re λ_ _ _ _ _ _ _ q=>gt_int q
def VU:yj X (Ps .GtE) (RN λi j=>.bl (decide (j<=i))):=Re λ_ _ _ _ _ _ _ q=>ge_int q
def Kc:yj X (Ps .In) (λx y H Q=>∃i j,x=.str i/\y=.str j/\Q (.bl (!(Builtin.Str.occurrences j i 0 j.length 1).isEmpty)) H):=by intro XN s Y H x y v u Q I rx ry h;obtain⟨i,j,rfl,rfl,q⟩:=h;obtain⟨t,rfl⟩:=rx;obtain⟨t',rfl⟩:=ry;exact in_str (IT I q Z')
def SY:yj X (Ps .Is) (λx y H Q=>y=.mY/\Q (.bl (decide (x=.mY))) H):=by
 intro XN s Y H x y v u Q I rx ry h;obtain⟨rfl,q⟩:=h;cases ry;refine is_none_gen (IT I q ?_);cases x<;>first
  | (cases rx;rfl)
  | (obtain⟨t,rfl⟩:=rx;rfl)
def Qy:yj X (Ps .IsNot) (λx y H Q=>y=.mY/\Q (.bl (!decide (x=.mY))) H):=by
 intro XN s Y H x y v u Q I rx ry h;obtain⟨rfl,q⟩:=h;cases ry;refine isnot_none_gen (IT I q ?_);cases x<;>first
  | (cases rx;rfl)
  | (obtain⟨t,rfl⟩:=rx;rfl)
def HW(b:Go){op:CmpOp}(h:op≠.In:=by decide)(h2:op≠.NotIn:=by decide):wT op b=lf:=by
 have e1:(op==CmpOp.In)=lf:=by cases op<;>first|rfl|exact absurd Z' h
 have e2:(op==CmpOp.NotIn)=lf:=by cases op<;>first|rfl|exact absurd Z' h2
 cases b<;>simp[wT,e1,e2]
def Jh{op:CmpOp}(ho:yj X (Ps op) r)(ha:PE X a ta)(hb:PE X b tb)(hm:wT op b=lf):PE X (.Compare a [op] [b] pos) (UQ r ta tb):=by intro XN s Y H Q I h;exact wpAny_Compare1 (Sm ha hb I h λv u s2 x y H2 I2 rx ry q=>ho XN s2 Y H2 x y v u Q I2 rx ry q) hm
def RF(t:TE):TT:=λY H Q=>t Y H λx H'=>∃k,x=.bl k/\Q k H'
def JV{op:CmpOp}(ho:yj X (Ps op) r)(ha:PE X a ta)(hb:PE X b tb)(hm:wT op b=lf):PT X (.Compare a [op] [b] pos) (RF (UQ r ta tb)):=by
 intro XN s Y H Q I h;refine wpAny_isTrue_Compare1 (sZ (ha XN s Y H _ I h) λv s1 zz=>x5 zz λx H1 I1 r1 q1=>sZ (hb XN s1 Y H1 _ I1 q1) λu s2 zz=>x5 zz λy H2 I2 r2 q2=>
  sZ (ho XN s2 Y H2 x y v u _ I2 r1 r2 q2) λc s3 zz=>?_) hm
 obtain⟨z,H3,I3,r3,k,e,q3⟩:=zz;subst e;cases r3;exact fz ⟨H3,I3,q3⟩
def Ob(r r':R2)(ta tb tc:TE):TE:=λY H Q=>ta Y H λx H1=>tb Y H1 λy H2=>r x y H2 λz H3=>∃k,z=.bl k/\
 (if k=pc then tc Y H3 λw' H4=>r' y w' H4 Q else Q (.bl lf) H3)
def Oa{op YH:CmpOp}(ho:yj X (Ps op) r)(Yx:yj X (Ps YH) r')(ha:PE X a ta)(hb:PE X b tb)(hc:PE X c tc) (hm:lastMarks [op,YH] [b,c]=lf:=by with_unfolding_all rfl):PE X (.Compare a [op,YH] [b,c] pos) (Ob r r' ta tb tc):=by
 intro XN s Y H Q I h;refine Compare_chain (sZ (ha XN s Y H _ I h) λv s1 zz=>x5 zz λx H1 I1 r1 q1=>chain_link (sZ (hb XN s1 Y H1 _ I1 q1) λu s2 zz=>x5 zz λy H2 I2 r2 q2=>
  sZ (ho XN s2 Y H2 x y v u _ I2 r1 r2 q2) λd s3 zz=>?_)) hm
 obtain⟨z,H3,I3,r3,k,e,q3⟩:=zz;subst e;cases r3;refine fz ?_;cases k with
 | false=>exact ite_ff ⟨.bl lf,H3,I3,Z',q3⟩
 | true=>exact ite_tt (chain_last (sZ (hc XN s3 Y H3 _ I3 q3) λw' s4 zz=>x5 zz λz' H4 I4 r4 q4=>Yx XN s4 Y H4 y z' u w' Q I4 r2 r4 q4))
def Ms{op YH:CmpOp}(ho:yj X (Ps op) r)(Yx:yj X (Ps YH) r')(ha:PE X a ta)(hb:PE X b tb)(hc:PE X c tc) (hm:lastMarks [op,YH] [b,c]=lf:=by with_unfolding_all rfl):PT X (.Compare a [op,YH] [b,c] pos) (RF (Ob r r' ta tb tc)):=by
 intro XN s Y H Q I h;refine isTrue_chain (sZ (ha XN s Y H _ I h) λv s1 zz=>x5 zz λx H1 I1 r1 q1=>test_link (sZ (hb XN s1 Y H1 _ I1 q1) λu s2 zz=>x5 zz λy H2 I2 r2 q2=>
  sZ (ho XN s2 Y H2 x y v u _ I2 r1 r2 q2) λd s3 zz=>?_)) hm
 obtain⟨z,H3,I3,r3,k,e,q3⟩:=zz;subst e;cases r3;refine fz ?_;cases k with
 | false=>obtain⟨k',e',q'⟩:=q3;cases e';exact ite_ff ⟨H3,I3,q'⟩
 | true=>refine ite_tt (test_last (sZ (hc XN s3 Y H3 _ I3 q3) λw' s4 zz=>x5 zz λz' H4 I4 r4 q4=>sZ (Yx XN s4 Y H4 y z' u w' _ I4 r2 r4 q4) λd' s5 zz=>?_));obtain⟨z2,H5,I5,r5,k2,e2,q5⟩:=zz;subst e2;cases r5;exact fz ⟨H5,I5,q5⟩
def zy:(Ch:Nat)<2 ^ 63:=by rw[dP];decide
def IH:yj X (wP .Add) (λx y H Q=>∃i j,x=.str i/\y=.str j/\i.length+j.length<=Ch/\Q (.str (i++j)) H):=by intro XN s Y H x y v u Q I rx ry h;obtain⟨i,j,rfl,rfl,hz,q⟩:=h;obtain⟨t,rfl⟩:=rx;obtain⟨t',rfl⟩:=ry;exact add_str (λt' tk=>⟨.str (i++j),H,I.tok _,⟨_,Z'⟩,q⟩) hz
def yu{x:V}(r:qT [x] us):∃u,us=[u]/\rb x u:=by
 cases r with
 | cons r1 r2=>cases r2;exact⟨_,Z',r1⟩
def Lx{x y:V}(r:qT [x,y] us):∃u w',us=[u,w']/\rb x u/\rb y w':=by
 cases r with
 | cons r1 r2=>
  cases r2 with
  | cons r3 r4=>cases r4;exact⟨_,_,Z',r1,r3⟩
def Kf(hc:X.calm=pc):Av X (.builtin "min") (λxs H Q=>∃i j,xs=[.int i,.int j]/\Q (.int (if j<i then j else i)) H):=by
 intro XN s Y H xs us Q I r h;obtain⟨i,j,rfl,q⟩:=h;obtain⟨u,w',rfl,⟨t,rfl⟩,⟨t',rfl⟩⟩:=Lx r;refine min_two_ints (I.ok.hd hc) λh' tk k=>⟨_,H,I.kept k,?_,q⟩;by_cases hj:j<i
 .rw[dg hj,dg hj];exact⟨_,Z'⟩
 .rw[de hj,de hj];exact⟨_,Z'⟩
end
structure IQ(h:No)(x dx C:Uf)(mA:QQZ):Prop where
 obj:h.get? x=Fa (W.instObj C dx)
 ns:h.Ns1 dx mA
 ne:dx≠x
def K8{h:No}{dx:Uf}{mA:QQZ}(n:h.Ns1 dx mA):∃od,h.get? dx=Fa od/\∀name,W.lookIn name od=Fa (mA name):=by
 obtain⟨o,es,ep,ho,hd,hk,_,hm⟩:=n;refine⟨o,ho,λname=>?_⟩;have e:=hm name;unfold nsFind findBy at e;rw[<-lb]at e;unfold W.lookIn;rw[hd];dsimp only;split
 .rename_i y q;rw[q]at e;exact eY Fa e
 .rename_i q;rw[q]at e;have a:es.toList.any (·.refKey)=lf:=by rw[lJ];intro y hy;obtain⟨z,t,hkey⟩:=hk y (kx.mp hy);simp[DictEntry.refKey,hkey]
  have a':¬es.toList.any (·.refKey)=pc:=by rw[a];exact dC
  rw[de a'];exact eY Fa e
def IQ.look(I:IQ h x dx C mA):∃od,W.InstAt h x (W.instObj C dx) C (Fa od)/\∀name,W.lookIn name od=Fa (mA name):=
 let⟨od,ho,hl⟩:=K8 I.ns
 ⟨od,⟨I.obj,Z',Z',ho⟩,hl⟩
variable {prog:Pg}{A:Ar}{K:qM}{dx C:Uf}{mA:QQZ}{name:Str}
section
variable {w:Wo}{E:QQX}{x f:Uf}{v:Vl}
def O4{expr:Bool}{Q:QQX}(X:K.In s.heap)(I:IQ s.heap x dx C mA)(hg:W.plainGet K C name=pc)(hh:W.hasDictIn K C=pc) (ha:W.findIn K (.ref C) name=Fa Db) (hv:mA name=Fa v) (hv':W.handedIn v=pc) (h:Q v {s with toks:=s.toks+1}):
  pi (Tk prog w) A (getAttr (.ref x) name expr) Q E s:=by
 obtain⟨od,J,hl⟩:=I.look;exact W.get_value X J (kE hg).1 (W.findObj_own hh ha Z' (by rw[hl,hv])) hv' h
def MV{pl:Sem Bool}{Q:Vl×T0 Vl->Sd->Prop}(X:K.In s.heap)(I:IQ s.heap x dx C mA)(hg:W.plainGet K C name=pc) (hf:W.findIn K (.ref C) name=Fa (Fa (.ref f))) (ht:W.isFn K (.ref f)=pc) (hv:mA name=Db) (h:Q (.ref f,[.ref x]) s):
  pi (Tk prog w) A (TW (.ref x) name pl) Q E s:=by
 obtain⟨od,J,hl⟩:=I.look;exact W.method_fn X J (kE hg).1 (kE hg).2 hf (fA.mp ht) (by show(W.lookIn name od).map (·.isSome)=Fa lf;rw[hl,hv];rfl) h
def OY{Q:Unit->Sd->Prop}(X:K.In s.heap)(I:IQ s.heap x dx C mA) (hs:W.findIn K (.ref C) "__setattr__"=Fa (Fa (.builtin "object.__setattr__"))) (hp:W.plainOver K C=pc) (ht:W.takerIn K C name=Fa Db) (hh:W.hasDictIn K C=pc) (hw:PySem.Within mA ns) (hsz:ns.length<=Ch) (h:∀h',IQ h' x dx C (λy=>if y=name then Fa v else mA y)->Heap.SameBut dx s.heap h'->Q () {s with heap:=h',toks:=s.toks+2}):
  pi (Tk prog w) A (setAttr (.ref x) name v) Q E s:=by
 obtain⟨od,J,hl⟩:=I.look;refine W.set_plain X J hs (W.osa_open (s:={s with toks:=s.toks+1}) (r:=none) X J hp ht λb=>?_);obtain⟨cd,hc,hd'⟩:=W.any_some hh;have hx:s.heap.get? x=Fa ⟨.ref C,Fa dx,.plain,#[]⟩:=I.obj;refine cX (dq (cX (cX (wpAny_loadPart hx (cX (mH (s:={s with toks:=s.toks+1}) (kF X hc) ?_))))));rw[hd'];refine dq (a:=some dx) (cX (dq (cX ?_)));refine wpAny_nsSet1 (s:={s with toks:=s.toks+1}) I.ns λh' hn2 Zv=>?_;obtain⟨oD,esD,epD,hoD,Hc,hcD⟩:=hn2.count (PySem.Within.cons name v hw);refine cX (lX hoD (by rw[Hc];exact lY (d9 hcD (by rw[eB];lia))) ?_);exact dq (h _ ⟨(Zv.2 _ (dS I.ne)).trans I.obj,hn2,I.ne⟩ Zv)
def Mb{vs:T0 Vl}{kw:T0 (Str×Vl)}(X:K.In s.heap)(hm:W.makesIn K C=pc) (hi:W.findIn K (.ref C) "__init__"=Fa (Fa (.ref f))) (hf:W.typeIn K (.ref f)=Fa (.type "function")) (h:XXi (Tk prog w) (A.under (.builtin "type.__call__" ⟨.ref C::vs,kw⟩)) (.call (.ref f) ⟨.ref (s.heap.objs.size+1)::vs,kw⟩) (W.InitBack (s.heap.objs.size+1) R) {s with heap:=(s.heap.push W.emptyDict).push (W.instObj C s.heap.objs.size)}):
  XXi (Tk prog w) A (.call (.ref C) ⟨vs,kw⟩) R s:=by
 obtain⟨hh,g,d,t,os⟩:=s;exact W.make_core (W.makes_of X hm) (jj X hi) (λself=>W.bind_fn X self hf) (.inl Z') h
end
noncomputable def wn(f:Str)(v:V):T0 (Str×V)->T0 (Str×V)
 | []=>[(f,v)]
 | (g,x)::r=>if g=f then(g,v)::r else(g,x)::wn f v r
theorem Bi(f g:Str)(v:V):∀fs:T0 (Str×V),(wn f v fs).lookup g=if g=f then Fa v else fs.lookup g
 | []=>by
  show List.lookup g [(f,v)]=_;by_cases h:g=f
  .have hb:(g==f)=pc:=fA.mpr h;simp only[List.lookup,hb,dg h]
  .have hb:(g==f)=lf:=gH.mpr h;simp only[List.lookup,hb,de h]
 | (k,x)::r=>by
  have ih:=Bi f g v r;rw[show wn f v ((k,x)::r)=(if k=f then(k,v)::r else(k,x)::wn f v r)from Z'];by_cases hk:k=f
  .rw[dg hk];by_cases h:g=k
   .have hb:(g==k)=pc:=fA.mpr h;simp only[List.lookup,hb,dg (h.trans hk)]
   .have hb:(g==k)=lf:=gH.mpr h;simp only[List.lookup,hb,de (λe:g=f=>h (e.trans hk.symm))]
  .rw[de hk];by_cases h:g=k
   .have hb:(g==k)=pc:=fA.mpr h;simp only[List.lookup,hb,de (λe:g=f=>hk (h.symm.trans e))]
   .have hb:(g==k)=lf:=gH.mpr h;simp only[List.lookup,hb];exact ih
theorem AB(f:Str)(v:V):∀fs:T0 (Str×V),f∈(wn f v fs).map (·.1)/\∀g,g∈fs.map (·.1)->g∈(wn f v fs).map (·.1)
 | []=>⟨by simp[wn],λg h=>by simp at h⟩
 | (k,x)::r=>by
  obtain⟨i1,i2⟩:=AB f v r;rw[show wn f v ((k,x)::r)=(if k=f then(k,v)::r else(k,x)::wn f v r)from Z'];by_cases hk:k=f
  .rw[dg hk];subst hk;exact⟨by simp,λg h=>by simpa using h⟩
  .rw[de hk];refine⟨?_,λg h=>?_⟩
   .rw[dY];exact dE _ i1
   .rw[dY]at h ⊢;rcases dh.mp h with e|e
    .exact dh.mpr (.inl e)
    .exact dE _ (i2 g e)
theorem Bh(f:Str)(v:V):∀fs:T0 (Str×V),(wn f v fs).length<=fs.length+1
 | []=>by simp[wn]
 | (k,x)::r=>by
  have ih:=Bh f v r;rw[show wn f v ((k,x)::r)=(if k=f then(k,v)::r else(k,x)::wn f v r)from Z'];by_cases hk:k=f
  .rw[dg hk,eB,eB];lia
  .rw[de hk,eB,eB];lia
def yW.some_of{v:V}(r:yW (Fa v) o):∃u,o=Fa u/\rb v u:=by
 cases o with
 | none=>exact(show False from r).elim
 | some u=>exact⟨u,Z',r⟩
def yW.none_of{o:Option Vl}(r:yW Db o):o=Db:=by
 cases o with
 | none=>rfl
 | some u=>exact(show False from r).elim
def Kt{u:Vl}(r:rb v u):W.handedIn u=pc:=by
 cases v with
 | mY=>cases(show u=Value.none from r);rfl
 | bl b=>cases(show u=Value.bool b from r);rfl
 | int i=>obtain⟨t,e⟩:=(show ∃t,u=Value.int i t from r);cases e;rfl
 | str x=>obtain⟨t,e⟩:=(show ∃t,u=Value.str x t from r);cases e;rfl
 | byt b=>obtain⟨t,e⟩:=(show ∃t,u=Value.bytes b t from r);cases e;rfl
 | flt b=>obtain⟨t,e⟩:=(show ∃t,u=Value.float b t from r);cases e;rfl
 | ref a=>cases(show u=Value.ref a from r);rfl
 | ty n=>cases(show u=Value.type n from r);rfl
section
variable {P:Pg}{w:Wo}{a:Uf}{fs fs':T0 (Str × V)}
def B0(m9:yV P w H h)(e:H a=Fa (.ins C dx fs)):∃mA,IQ h a dx C mA/\(∀f,yW (fs.lookup f) (mA f))/\PySem.Within mA (fs.map (·.1))/\fs.length<=1000/\H dx=Fa (.own a):=by obtain⟨d,z,ne,ob,mA,n,r,q⟩:=(show sV P w H h a (.ins C dx fs)from m9 a _ e);exact⟨mA,⟨ob,n,ne⟩,r,q,z,d⟩
end
structure Cls(K:qM)(C:Uf):Prop where
 pg:W.plainGet K C Str.empty=pc
 hd:W.hasDictIn K C=pc
 po:W.plainOver K C=pc
 sa:W.findIn K (.ref C) "__setattr__"=Fa (Fa (.builtin "object.__setattr__"))
def Cls.get{K:qM}(c:Cls K C)(f:Str):W.plainGet K C f=pc:=c.pg
def uI(K:qM)(C:Uf)(f:Str):Prop:=W.findIn K (.ref C) f=Fa Db
def uI.o9{K:qM}(n:uI K C f):W.takerIn K C f=Fa Db:=by unfold W.takerIn;rw[show W.findIn K (.ref C) f=Fa Db from n];rfl
structure wu(K:qM)(C:Uf)(m:Str)(f:Uf):Prop where
 at_:W.findIn K (.ref C) m=Fa (Fa (.ref f))
 fn:W.isFn K (.ref f)=pc
 kp:W.keepIn K (.ref f)=pc
section
variable {Y:St}{a:Uf}{fs:T0 (Str × V)}{f:Str}{v:V}{E:QQX}
def CN{b:Bool}{Q:QQX}(I:Inv X XN Y H s)(e:H a=Fa (.ins C dx fs))(c:Cls X.K C)(n:uI X.K C f)(l:fs.lookup f=Fa v) (h:∀u s',Inv X XN Y H s'->rb v u->Q u s'):pi (Tk X.prog X.w) A (getAttr (.ref a) f b) Q E s:=by
 obtain⟨mA,O,r,_,_,_⟩:=B0 I.m9 e;obtain⟨u,hu,ru⟩:=yW.some_of (v:=v) (o:=mA f) (by rw[<-l];exact r f);exact O4 I.nA O (c.get f) c.hd n hu (Kt ru) (h u _ (I.tok _) ru)
def Dw{pl:Sem Bool}{Q:Vl×T0 Vl->Sd->Prop}(I:Inv X XN Y H s)(e:H a=Fa (.ins C dx fs))(c:Cls X.K C)(k:wu X.K C m g)(l:fs.lookup m=Db) (h:Q (.ref g,[.ref a]) s):pi (Tk X.prog X.w) A (TW (.ref a) m pl) Q E s:=by
 obtain⟨mA,O,r,_,_,_⟩:=B0 I.m9 e;have hn:mA m=Db:=yW.none_of (by rw[<-l];exact r m);exact MV I.nA O (c.get m) k.at_ k.fn hn h
def Ck{u:Vl}{Q:Unit->Sd->Prop}(I:Inv X XN Y H s)(e:H a=Fa (.ins C dx fs))(c:Cls X.K C)(n:uI X.K C f)(hl:fs.length<1000)(ry:rb y u) (h:∀s',Inv X XN Y (upd H a (.ins C dx (wn f y fs))) s'->Q () s'):pi (Tk X.prog X.w) A (setAttr (.ref a) f u) Q E s:=by
 obtain⟨mA,O,r,wi,_,ho⟩:=B0 I.m9 e;have hz:(fs.map (·.1)).length<=Ch:=by rw[cW,dP];lia
 refine OY I.nA O c.sa c.po n.o9 c.hd wi hz λh' O' sb=>h _ ?_;have hd:∃o,h'.get? dx=Fa o:=let⟨o,_,_,e',_⟩:=O'.ns;⟨o,e'⟩;refine I.write (x:=a) (e:=dx) (by rw[e];exact True.intro) (.inr ho) (λb q hb z=>(sb.2 b hb).trans z) hd ?_;refine⟨by rw[qw O.ne];exact ho,?_,O.ne,O'.obj,_,O'.ns,λg=>?_,λg hg=>?_⟩
 .have:=Bh f y fs;lia
 .show yW ((wn f y fs).lookup g) (if g=f then Fa u else mA g);rw[Bi];by_cases q:g=f
  .rw[dg q,dg q];exact ry
  .rw[de q,de q];exact r g
 .by_cases q:g=f
  .rw[q];exact(AB f y fs).1
  .refine(AB f y fs).2 g (wi g λz=>hg ?_);show(if g=f then Fa u else mA g)=Db;rw[de q];exact z
def Inv.made(I:Inv X XN Y H s):Inv X XN Y (upd (upd H s.heap.objs.size (.own (s.heap.objs.size+1))) (s.heap.objs.size+1) (.ins C s.heap.objs.size [])) {s with heap:=(s.heap.push W.emptyDict).push (W.instObj C s.heap.objs.size)}:=by
 have e1:(s.heap.push W.emptyDict).get? s.heap.objs.size=Fa W.emptyDict:=dN s.heap Z';have e2:((s.heap.push W.emptyDict).push (W.instObj C s.heap.objs.size)).get? (s.heap.objs.size+1)=Fa (W.instObj C s.heap.objs.size):=by
  have:=dN (s.heap.push W.emptyDict) (o:=W.instObj C s.heap.objs.size) Z'
  rwa [fB]at this
 have e3:(s.heap.push W.emptyDict).Ns s.heap.objs.size (λ_=>Db):=⟨W.emptyDict,#[],_,e1,Z',(λe he=>absurd he (by simp)),λ_=>rfl⟩;have I1:=I.laid (a:=s.heap.objs.size) (o:=.own (s.heap.objs.size+1)) (h':=s.heap.push W.emptyDict) (t':=s.toks) (λb u q=>df _ q) (dw _) ⟨_,e1⟩;refine I1.laid (a:=s.heap.objs.size+1) (o:=.ins C s.heap.objs.size []) (t':=s.toks) (λb u q=>df _ q) (mI (fB _ _)) ?_;have ne:s.heap.objs.size≠s.heap.objs.size+1:=dO (fE _);refine⟨by rw[qw ne,qC],eE _,ne,e2,λ_=>Db,(lK e3).at λo q=>df _ q,λ_=>True.intro,λy hy=>absurd Z' hy⟩
def JO{prog:Pg}{w:Wo}{env:Env}{e:Go}{f:Str}{s:Sd}{Q:QQX}(hb:Rs e f env (wp e env)=wp e env) (h:pi (Tk prog w) A (wp e env) (λo s₁=>pi (Tk prog w) A (getAttr o f pc) Q E s₁) E s):pi (Tk prog w) A (wp (.Attribute e f pos) env) Q E s:=
 Attribute_any_ h (by rw[arm_eval_Attribute,hb])
end
def WX(K:qM)(ta:TE)(f:Str):TE:=λY H Q=>ta Y H λx H1=>∃a C dx fs v,x=.ref a/\H1 a=Fa (.ins C dx fs)/\Cls K C/\uI K C f/\fs.lookup f=Fa v/\Q v H1
def WM(K:qM)(ta tv:TE)(f:Str):TS:=λD Y H=>tv Y H λy H1=>ta Y H1 λx H2=>∃a C dx fs,x=.ref a/\H2 a=Fa (.ins C dx fs)/\Cls K C/\uI K C f/\fs.length<1000/\
 D.nx Y (upd H2 a (.ins C dx (wn f y fs)))
def Rc(X:Cx)(op:XYa)(rd:V->V->Hp->VK->Prop):Prop:=
 ∀(XN:QQY) (s:Sd) (Y:St) (H:Hp) (x y:V) (u v:Vl) (Q:VK),Inv X XN Y H s->rb x u->rb y v->rd x y H Q->pi (Tk X.prog X.w) X.A (inplaceOp op u v) (EP X XN Y Q) X.xe s
def O9(K:qM)(ta tv:TE)(rd:V->V->Hp->VK->Prop)(f:Str):TS:=λD Y H=>ta Y H λx H1=>∃a C dx fs v,x=.ref a/\H1 a=Fa (.ins C dx fs)/\Cls K C/\uI K C f/\fs.lookup f=Fa v/\
 tv Y H1 λy H2=>rd v y H2 λz H3=>∃dx' fs',H3 a=Fa (.ins C dx' fs')/\fs'.length<1000/\D.nx Y (upd H3 a (.ins C dx' (wn f z fs')))
variable {value:Go}{X1 ZZ:Pos}{tv:TE}
section
variable {o e:Go}{f:Str}
def Se(he:PE X e ta)(hb:Rs e f X.env (wp e X.env)=wp e X.env):PE X (.Attribute e f pos) (WX X.K ta f):=by intro XN s Y H Q I h;refine JO hb (sZ (he XN s Y H _ I h) λu s1 zz=>?_);obtain⟨x,H1,I1,rx,a,C,dx,fs,v,ex,ea,c,n,l,q⟩:=zz;subst ex;obtain rfl:u=Value.ref a:=rx;exact CN I1 ea c n l λu' s2 I2 ru=>⟨v,H1,I2,ru,q⟩
def Ud(ha:PE X o ta)(hv:PE X value tv)(hs:ZB value (Fa (.Attribute o f X1)) pos.line X.env=pure lf):PS X (.Assign [.Attribute o f X1] value pos) (WM X.K ta tv f):=by intro XN s Y H D I h;refine iR (sZ (hv XN s Y H _ I h) λu s1 zz=>x5 zz λy H1 I1 ry q=>sZ (ha XN s1 Y H1 _ I1 q) λov s2 zz=>?_) hs;obtain⟨x,H2,I2,rx,a,C,dx,fs,ex,ea,c,n,l,q2⟩:=zz;subst ex;obtain rfl:ov=Value.ref a:=rx;exact Ck I2 ea c n l ry λs3 I3=>⟨Y,_,I3,q2⟩
def Ks(ha:PE X o ta)(hv:PE X value tv)(hop:Rc X op rd):PS X (.AugAssign (.Attribute o f ZZ) op value pos) (O9 X.K ta tv rd f):=by intro XN s Y H D I h;refine wpAny_AugAssign_AttributeAny (sZ (ha XN s Y H _ I h) λov s1 zz=>?_);obtain⟨x,H1,I1,rx,a,C,dx,fs,v,ex,ea,c,n,l,q⟩:=zz;subst ex;obtain rfl:ov=Value.ref a:=rx;refine CN I1 ea c n l λu s2 I2 ru=>sZ (hv XN s2 Y H1 _ I2 q) λw3 s3 zz=>x5 zz λy H2 I3 ry q3=>sZ (hop XN s3 Y H2 v y u w3 _ I3 ru ry q3) λw4 s4 zz=>?_;obtain⟨z,H3,I4,rz,dx',fs',ea',l',q4⟩:=zz;exact Ck I4 ea' c n l' rz λs5 I5=>⟨Y,_,I5,q4⟩
def WA:V->V->Hp->VK->Prop:=λx y H Q=>∃i j,x=.int i/\y=.int j/\Q (.int (i+j)) H
def WL:V->V->Hp->VK->Prop:=λx y H Q=>∃i j,x=.int i/\y=.int j/\Q (.int (i - j)) H
def R6:Rc X .Add WA:=by
 rintro XN s Y H x y u v Q I rx ry ⟨i,j,rfl,rfl,q⟩
 obtain⟨t,rfl⟩:=(show ∃t,u=Value.int i t from rx);obtain⟨t',rfl⟩:=(show ∃t',v=Value.int j t' from ry);exact PyProof.Rows.iadd_int ⟨.int (i+j),H,I.tok _,⟨_,Z'⟩,q⟩
def S':Rc X .Sub WL:=by
 rintro XN s Y H x y u v Q I rx ry ⟨i,j,rfl,rfl,q⟩
 obtain⟨t,rfl⟩:=(show ∃t,u=Value.int i t from rx);obtain⟨t',rfl⟩:=(show ∃t',v=Value.int j t' from ry);exact PyProof.Rows.isub_int ⟨.int (i - j),H,I.tok _,⟨_,Z'⟩,q⟩
end
variable {Q:QQX}
section
variable {Y:St}{E:QQX}{c:Vl}{b:Bool}
inductive BI(K:qM)(H:Hp):V->Vl->Prop where
 | mY:BI K H .mY (.type "NoneType")
 | bl (x:Bool):BI K H (.bl x) (.type "bool")
 | int (i:Int):BI K H (.int i) (.type "int")
 | str (x:Str):BI K H (.str x) (.type "str")
 | flt (x:UInt64):BI K H (.flt x) (.type "float")
 | lst {a:Uf} {xs:List V} (e:H a=Fa (.lst xs)):BI K H (.ref a) (.type "list")
 | frz {a:Uf} {o:Obj} {xs:List V} (e:H a=Fa (.frz o (.lst xs))):BI K H (.ref a) (.type "list")
 | tup {a:Uf} {xs:List V} (e:H a=Fa (.tup xs)):BI K H (.ref a) (.type "tuple")
 | dK {a:Uf} {kvs:List (rP×V)} (e:H a=Fa (.dK kvs)):BI K H (.ref a) (.type "dict")
 | dT {a:Uf} {kvs:List (List rP×V)} (e:H a=Fa (.dT kvs)):BI K H (.ref a) (.type "dict")
 | ins {a C dx:Uf} {fs:List (Str×V)} (e:H a=Fa (.ins C dx fs)) (cl:Cls K C) (ha:W.findIn K (.ref C) "__class__"=Fa (Fa (.builtin "object.__class__")))
   (hn:W.specialIn K (.builtin "object.__class__") "__get__"=Fa (Fa (.builtin "getset_descriptor.__get__"))) (htk:W.takesIn K (.builtin "object.__class__")=Fa pc)
   (hm:W.mroIn K C (.type "object")=Fa pc):BI K H (.ref a) (.ref C)
def vk{u t:Vl}(I:Inv X XN Y H s)(rx:rb x u)(ty:BI X.K H x t)(e:W.kitOne X.K t c=Fa b)(h:∀tk,Q (.bool b) {s with toks:=tk}):
  pi (Tk X.prog X.w) A (call (.builtin "isinstance") [u,c]) Q E s:=by
 cases ty with
 | mY=>cases(show u=Value.none from rx);exact gC W.kitx_none I.nA True.intro e (λz=>nomatch z) h
 | bl y=>cases(show u=Value.bool y from rx);exact gC W.kitx_bool I.nA True.intro e (λz=>nomatch z) h
 | int i=>obtain⟨t,q⟩:=(show ∃t,u=Value.int i t from rx);cases q;exact gC W.kitx_int I.nA True.intro e (λz=>nomatch z) h
 | str y=>obtain⟨t,q⟩:=(show ∃t,u=Value.str y t from rx);cases q;exact gC W.kitx_str I.nA True.intro e (λz=>nomatch z) h
 | flt y=>obtain⟨t,q⟩:=(show ∃t,u=Value.float y t from rx);cases q;exact gC W.kitx_float I.nA True.intro e (λz=>nomatch z) h
 | @lst a xs ea=>cases(show u=Value.ref a from rx);obtain⟨_,_,n,_,h1⟩:=(show sV X.prog X.w H s.heap a (.lst xs)from I.m9 a _ ea);exact gC lR I.nA ⟨_,h1,Z'⟩ e (λz=>nomatch z) h
 | @frz a ob xs ea=>cases(show u=Value.ref a from rx);obtain⟨_,_,_,n,_,h1⟩:=(show sV X.prog X.w H s.heap a (.frz ob (.lst xs))from I.m9 a _ ea);exact gC lR I.nA ⟨_,h1,Z'⟩ e (λz=>nomatch z) h
 | @tup a xs ea=>cases(show u=Value.ref a from rx);obtain⟨_,_,_,p⟩:=(show sV X.prog X.w H s.heap a (.tup xs)from I.m9 a _ ea);obtain⟨o,h1,h2,_⟩:=p;exact gC W.kitx_tuple I.nA ⟨o,h1,h2⟩ e (λz=>nomatch z) h
 | @dK a kvs ea=>cases(show u=Value.ref a from rx);obtain⟨_,_,vs,_,p⟩:=(show sV X.prog X.w H s.heap a (.dK kvs)from I.m9 a _ ea);obtain⟨o,es,ep,h1,h2,_⟩:=p;exact gC W.kitx_dict I.nA ⟨o,h1,h2.1⟩ e (λz=>nomatch z) h
 | @dT a kvs ea=>cases(show u=Value.ref a from rx);obtain⟨_,_,xs,_,o,es,ep,h1,h2,_⟩:=(show sV X.prog X.w H s.heap a (.dT kvs)from I.m9 a _ ea);exact gC W.kitx_dict I.nA ⟨o,h1,h2.1⟩ e (λz=>nomatch z) h
 | @ins a C dx fs ea cl ha hn htk hm=>cases(show u=Value.ref a from rx);obtain⟨mA,O,_⟩:=B0 I.m9 ea;obtain⟨od,J,_⟩:=O.look;exact gC (W.kitx_own (cl.get _) cl.hd ha hn htk hm) I.nA J e (λz=>nomatch z) h
end
structure sJ(k:Nat)(A:Ar):Prop where
 hd:A.handled=Db
 dp:A.depth+3*k+5<recursionLimit
 un:A.units+16*k+200<Y'
def sJ.mono{j k:Nat}(r:sJ k A)(h:j<=k):sJ j A:=⟨r.hd,by have:=r.dp;lia,by have:=r.un;lia⟩
def sJ.deeper{k:Nat}(r:sJ (k+1) A)(env:Env):sJ k (A.deeper env):=
 ⟨r.hd,by have:=r.dp;show A.depth+1+3*k+5<_;lia,by have:=r.un;show A.units+3+16*k+200<_;lia⟩
def IM{A:Ar}{C:Uf}{us:T0 Vl}{kw:T0 (Str×Vl)}:(A.under (.builtin "type.__call__" ⟨.ref C::us,kw⟩)).depth=A.depth+1:=by first|rfl|simp[Around.under,Code.weight,Code.isCreation,Code.isGuard,Code.isCaller,Code.frames,Code.isFrame,guardIds]
def HS{A:Ar}{C:Uf}{us:T0 Vl}{kw:T0 (Str×Vl)}:(A.under (.builtin "type.__call__" ⟨.ref C::us,kw⟩)).units=A.units+1:=by first|rfl|simp[Around.under,Code.cUnits,Code.frames,Code.isFrame]
def sJ.make{k:Nat}(r:sJ (k+1) A)(C:Uf)(us:T0 Vl)(kw:T0 (Str×Vl)):sJ k (A.under (.builtin "type.__call__" ⟨.ref C::us,kw⟩)):=
 ⟨r.hd,by have:=r.dp;rw[IM];lia,by have:=r.un;rw[HS];lia⟩
def sJ.depth(r:sJ k A):A.depth<recursionLimit:=by have:=r.dp;lia
def sJ.units(r:sJ k A):A.units+64<Y':=by have:=r.un;lia
def Vh:TA:=λ_ H Q=>Q [] H
def UU(ta:TE)(tr:TA):TA:=λY H Q=>ta Y H λx H1=>tr Y H1 λxs H2=>Q (x::xs) H2
variable {es:T0 Go}
section
variable {e:Go}{t:TA}
def SW:PA X [] Vh:=λ_ _ _ _ H Q I h=>jv ⟨[],H,I,.nil,h⟩
def Pe(ha:PE X e te)(hr:PA X es t)(hs:Bt X e es:=by rfl):PA X (e::es) (UU te t):=by intro pos XN s Y H Q I h;rw[hs];show pi _ _ (spliced ((lf,wp e X.env)::wv pos (Tl es X.env))) _ _ s;refine jo (sZ (ha XN s Y H _ I h) λu s1 zz=>x5 zz λx H1 I1 r1 q1=>?_);exact sZ (hr pos XN s1 Y H1 _ I1 q1) λus s2 zz=>x5 zz λxs H2 I2 r2 q2=>⟨x::xs,H2,I2,.cons r1 r2,q2⟩
def W1(t:TA):TE:=λY H Q=>t Y H λxs H1=>xs.length<=Ch/\∀p,H1 p=Db->Q (.ref p) (upd H1 p (.tup xs))
def WK(t:TA):TE:=λY H Q=>t Y H λxs H1=>xs.length<=Ch/\∀p,H1 p=Db->Q (.ref p) (upd H1 p (.lst xs))
def SR{x1}(h:PA X es t):PE X (.Tuple es x1 pos) (W1 t):=by intro XN s Y H Q I hq;refine wpAny_Tuple_spliced (sZ (h pos XN s Y H _ I hq) λus s1 ⟨xs,H1,I1,r,z,q⟩=>⟨by rw[<-r.length];exact z,?_⟩);have hf:H1 s1.heap.objs.size=Db:=I1.m9.fresh (dw _);refine⟨.ref s1.heap.objs.size,upd H1 s1.heap.objs.size (.tup xs),I1.laid (t':=s1.toks) (λb u e=>df _ e) (dw _) ?_,Z',q _ hf⟩;exact⟨z,us,r,⟨_,dN _ Z',Z',⟨_,Z'⟩,Z'⟩⟩
def R7(h:PA X es t):PE X (.List es pos) (WK t):=by intro XN s Y H Q I hq;refine wpAny_List_spliced (sZ (h pos XN s Y H _ I hq) λus s1 ⟨xs,H1,I1,r,z,q⟩=>⟨by rw[<-r.length];exact z,?_⟩);have hf:H1 s1.heap.objs.size=Db:=I1.m9.fresh (dw _);refine⟨.ref s1.heap.objs.size,upd H1 s1.heap.objs.size (.lst xs),I1.laid (t':=s1.toks) (λb u e=>df _ e) (dw _) ?_,Z',q _ hf⟩;exact⟨z,us,0,r,dN _ Z'⟩
end
abbrev Sp:=T0 V->Hp->VK->XK->Prop
abbrev Lo:=T0 Env->Hp->Sd->XK->Vl->Sd->Prop
structure Ij(P:Pg)(w:Wo)(K:qM)(mg:QQZ)(base:No)(A:Ar)(outer:List Env)(s:Sd)(H:Hp):Prop where
 frames:A.frames=Fa outer
 mod:Mod K mg base
 bs:∀b o,base.get? b=Fa o->s.heap.get? b=Fa o/\H b=Db
 oy:base.objs.size<=s.heap.objs.size
 nP:s.heap.FunFrames base outer
 oG:∀b∈wW outer,H b=Db
 m9:yV P w H s.heap
 bare:XXk s.gens
def CE(outer:T0 Env)(P:Pg)(w:Wo)(H:Hp)(s:Sd)(Q:VK)(u:Vl)(s':Sd):Prop:=
 ∃v H',s'.os=s.os/\XXk s'.gens/\Un (wW outer) [] H H' s.heap s'.heap/\yV P w H' s'.heap/\rb v u/\Q v H'
def CR(CX:Lo)(outer:T0 Env)(P:Pg)(w:Wo)(H:Hp)(s:Sd)(Q:VK)(E:XK)(r:Result)(s':Sd):Prop:=
 match r with
 | .ok (.ret u)=>CE outer P w H s Q u s'
 | .ok _=>False
 | .error e=>CX outer H s E e s'
structure xP(P:Pg)(w:Wo)(K:qM)(mg:QQZ)(base:No)(CX:Lo)(k:Nat)(f:Uf)(fd:sB)(ps:QQQ)(sp:Sp):Prop where
 len:∀vs H Q E,sp vs H Q E->vs.length=ps.length
 run:∀(A:Ar) (outer:List Env) (s:Sd) (H:Hp) (args:Args) (us:List Vl) (vs:List V) (Q:VK) (E:XK),sJ k A->Ij P w K mg base A outer s H->BindsTo s fd args (ps.zip us)->qT vs us->sp vs H Q E->
  XXi (Tk P w) A (.call (.ref f) args) (CR CX outer P w H s Q E) s
def Ij.make{K:qM}(e:Ij P w K mg base A outer s H)(C:Uf)(us:T0 Vl)(kw:T0 (Str×Vl)):
  Ij P w K mg base (A.under (.builtin "type.__call__" ⟨.ref C::us,kw⟩)) outer s H:=⟨by first|exact e.frames|(simpa [Around.under,Code.envs,Code.isFrame,pushEnvs]using e.frames),e.mod,e.bs,e.oy,e.nP,e.oG,e.m9,e.bare⟩
variable {s':Sd}
section
variable {Y:St}
def Inv.oC(I:Inv X XN Y H s):Ij X.prog X.w X.K X.mg X.base X.A X.stack s H:=
 ⟨I.ok.frames,I.ok.mod,I.bs,d9 I.ok.oy I.sz,I.stack,I.nU,I.m9,I.bare⟩
def Inv.after{Q:VK}{u:Vl}(I:Inv X XN Y H s)(h:CE X.stack X.prog X.w H s Q u s'):EP X XN Y Q u s':=by obtain⟨v,H',os,bare,un,m9,r,q⟩:=h;obtain⟨hh,g,d,t,os'⟩:=s';obtain rfl:os'=s.os:=os;exact⟨v,H',I.call (h':=hh) (g':=g) (d':=d) (t':=t) (ch:=[]) un m9 bare (λb z=>absurd z (by simp)),r,q⟩
end
def Vj(sp:Sp)(YC:T0 V)(E:XK)(t:TA):TE:=λY H Q=>t Y H λvs H1=>sp (vs++YC) H1 Q E
def UT(C:Uf)(sp:Sp)(YC:T0 V)(E:XK)(t:TA):TE:=λY H Q=>t Y H λvs H1=>∀x dx,H1 x=Db->H1 dx=Db->dx≠x->
 sp (.ref x::(vs++YC)) (upd (upd H1 dx (.own x)) x (.ins C dx [])) (λv H2=>v=.mY/\Q (.ref x) H2) E
def vt(K:qM)(fd:sB)(ps:QQQ)(ds:T0 Vl):Prop:=
 ∀(s:Sd) (us:T0 Vl),K.In s.heap->(us++ds).length=ps.length->BindsTo s fd ⟨us,[]⟩ (ps.zip (us++ds))
def vt.all{K:qM}{fd:sB}{ps:QQQ}(h:∀us:T0 Vl,us.length=ps.length->bindArgs fd ⟨us,[]⟩=pure (ps.zip us)):vt K fd ps []:=λs us _ hl=>by rw[eN]at hl ⊢;exact .of_eq (h us hl)
def Dj(CX:Lo)(X:Cx)(E:XK):Prop:=∀(XN:QQY) (Y:St) (H:Hp) (s:Sd) (e:Vl) (s':Sd),Inv X XN Y H s->CX X.stack H s E e s'->X.xe e s'
variable {CX:Lo}{k:Nat}{fd:sB}{ps:QQQ}{sp:Sp}{YC:T0 V}{ds:T0 Vl}{m:Str}{p XS:Pos}
section
variable {f:Uf}{E:XK}{x:Str}{e o:Go}{t:TA}
def F8{XN:QQY}{Q:VK}(F:xP X.prog X.w X.K X.mg X.base CX k f fd ps sp)(hr:sJ k X.A)(hb:vt X.K fd ps ds)(hd:qT YC ds)(hx:Dj CX X E) (I:Inv X XN Y H s) (r:qT vs us) (h:sp (vs++YC) H Q E):pi (Tk X.prog X.w) X.A (call (.ref f) us) (EP X XN Y Q) X.xe s:=by
 have r2:qT (vs++YC) (us++ds):=r.append hd;have hl:(us++ds).length=ps.length:=by rw[<-r2.length];exact F.len _ _ _ _ h
 refine il (gy (F.run X.A X.stack s H ⟨us,[]⟩ (us++ds) (vs++YC) Q E hr I.oC (hb s us I.nA hl) r2 h) λr s' hq=>?_);cases r with
 | error e=>exact hx XN Y H s e s' I hq
 | ok fl=>
  cases fl with
  | ret u=>exact I.after hq
  | next=>exact False.elim hq
  | brk=>exact False.elim hq
  | cont=>exact False.elim hq
def QI(F:xP X.prog X.w X.K X.mg X.base CX k f fd ps sp)(hr:sJ k X.A)(hg:Gl X x)(hm:X.mg x=Fa (.ref f))(hk:W.keepIn X.K (.ref f)=pc)(hb:vt X.K fd ps ds)(hd:qT YC ds)(hx:Dj CX X E) (ha:PA X (e::es) t) (Yc:zm x:=by decide) (he:Bt X e es:=by rfl) (X8:Cg X pos es:=by rfl):
  PE X (.Call (.Name x p) (e::es) [] pos) (Vj sp YC E t):=by
 intro XN s Y H Q I h;refine gu (xq I hg hm ?_ Yc);refine iS (h₀:=X.base) I.ok.mod.oM hk (sZ (ha pos XN s Y H _ I h) λus s1 zz=>x5 zz λvs H1 I1 r q=>⟨I1.nA,?_⟩) he X8;exact F8 F hr hb hd hx I1 r q
structure Mk(K:qM)(C f:Uf):Prop where
 makes:W.makesIn K C=pc
 init:W.findIn K (.ref C) "__init__"=Fa (Fa (.ref f))
 fn:W.isFn K (.ref f)=pc
 kp:W.keepIn K (.ref C)=pc
def LJ{XN:QQY}{Q:VK}(M:Mk X.K C f)(F:xP X.prog X.w X.K X.mg X.base CX k f fd ps sp)(hr:sJ (k+1) X.A)(hb:vt X.K fd ps ds)(hd:qT YC ds) (hx:Dj CX X E) (I:Inv X XN Y H s) (r:qT vs us) (h:∀x dx,H x=Db->H dx=Db->dx≠x->sp (.ref x::(vs++YC)) (upd (upd H dx (.own x)) x (.ins C dx [])) (λv H2=>v=.mY/\Q (.ref x) H2) E):
  pi (Tk X.prog X.w) X.A (call (.ref C) us) (EP X XN Y Q) X.xe s:=by
 have hq:=h (s.heap.objs.size+1) s.heap.objs.size (I.m9.fresh (gx _)) (I.m9.fresh (dw _)) (dO (fE _));have I2:=Inv.made (C:=C) I;have r2:qT (V.ref (s.heap.objs.size+1)::(vs++YC)) (Value.ref (s.heap.objs.size+1)::(us++ds)):=.cons Z' (r.append hd);have hl:(Value.ref (s.heap.objs.size+1)::us++ds).length=ps.length:=by have e:=r2.length;rw[F.len _ _ _ _ hq]at e;exact e.symm
 refine il (Mb (f:=f) I.nA M.makes M.init (fA.mp M.fn) (gy (F.run _ X.stack _ _ ⟨Value.ref (s.heap.objs.size+1)::us,[]⟩ (Value.ref (s.heap.objs.size+1)::(us++ds)) _ _ E (hr.make C us [])
  (I2.oC.make C us []) (hb _ (Value.ref (s.heap.objs.size+1)::us) I2.nA hl) r2 hq) λr s' Zw=>?_))
 cases r with
 | error e=>exact hx XN Y _ _ e s' I2 Zw
 | ok fl=>
  cases fl with
  | ret u=>obtain⟨v,H',I3,rv,ev,q3⟩:=I2.after Zw;subst ev;exact⟨rv,⟨V.ref (s.heap.objs.size+1),H',I3,Z',q3⟩⟩
  | next=>exact False.elim Zw
  | brk=>exact False.elim Zw
  | cont=>exact False.elim Zw
def Q4(M:Mk X.K C f)(F:xP X.prog X.w X.K X.mg X.base CX k f fd ps sp)(hr:sJ (k+1) X.A)(hg:Gl X x)(hm:X.mg x=Fa (.ref C))(hb:vt X.K fd ps ds)(hd:qT YC ds)(hx:Dj CX X E) (ha:PA X (e::es) t) (Yc:zm x:=by decide) (he:Bt X e es:=by rfl) (X8:Cg X pos es:=by rfl):
  PE X (.Call (.Name x p) (e::es) [] pos) (UT C sp YC E t):=by
 intro XN s Y H Q I h;refine gu (xq I hg hm ?_ Yc);refine iS (h₀:=X.base) I.ok.mod.oM M.kp (sZ (ha pos XN s Y H _ I h) λus s1 zz=>x5 zz λvs H1 I1 r q=>⟨I1.nA,?_⟩) he X8;exact LJ M F hr hb hd hx I1 r q
end
variable {g:T0 Vl→T0 Vl→T0 Vl}{gV:T0 V→T0 V→T0 V}{ks:QQQ}{kpos:Pos}{kws:T0 IN}{tk:TA}{nm:Option Str}
section
variable {f:Uf}{E:XK}{x:Str}{e o:Go}{t:TA}
end
structure tT(N P:QQQ)(sc:XXd):Prop where
 kind:sc.kind=.function
 co:sc.isCoroutine=lf
 gen:sc.isGenerator=lf
 nd:N.Nodup
 pre:N.take P.length=P
 par:∀x∈P,sc.names.lookup x=Fa .local\/sc.names.lookup x=Fa .cell
 pH:∀y∈sc.names,y.2≠.free
theorem Ez{kindOf:Str->Option wS}{x:Str}:∀{binds:T0 (Str×Vl)} {m:QQZ},(∀v,(x,v)∉binds)->bindL kindOf binds m x=m x
 | [],_,_=>rfl
 | (n,v)::r,m,h=>by
  unfold bindL;rw[Ez λw hw=>h w (dE _ hw)];split
  .have:x≠n:=by rintro rfl;exact h v dI
   simp[this]
  .rfl
theorem EC{kindOf:Str->Option wS}{x:Str}:∀{binds:T0 (Str×Vl)} {m:QQZ},(∀v,(x,v)∉binds)->bindC kindOf binds m x=m x
 | [],_,_=>rfl
 | (n,v)::r,m,h=>by
  unfold bindC;rw[EC λw hw=>h w (dE _ hw)];split
  .rfl
  .have:x≠n:=by rintro rfl;exact h v dI
   simp[this]
theorem ER{kindOf:Str->Option wS}{x:Str}{v:Vl}:∀{P:QQQ} {vs:T0 Vl} {i:Nat} {m:QQZ},P.Nodup->P[i]?=Fa x->vs[i]?=Fa v->kindOf x=Fa .local->
  bindL kindOf (P.zip vs) m x=Fa v
 | [],_,_,_,_,h,_,_=>by simp at h
 | _::_,[],_,_,_,_,h,_=>by simp at h
 | p::P,w::vs,0,m,nd,h1,h2,hk=>by simp at h1 h2;subst h1;subst h2;show bindL kindOf ((p,w)::P.zip vs) m p=_;unfold bindL;rw[Ez λv hv=>(dW.mp nd).1 (jW hv).1,dg hk];simp
 | p::P,w::vs,i+1,m,nd,h1,h2,hk=>by show bindL kindOf ((p,w)::P.zip vs) m x=_;unfold bindL;exact ER (i:=i) (dW.mp nd).2 (by simpa using h1) (by simpa using h2) hk
theorem El{kindOf:Str->Option wS}{x:Str}{v:Vl}:∀{P:QQQ} {vs:T0 Vl} {i:Nat} {m:QQZ},P.Nodup->P[i]?=Fa x->vs[i]?=Fa v->kindOf x≠Fa .local->
  bindC kindOf (P.zip vs) m x=Fa v
 | [],_,_,_,_,h,_,_=>by simp at h
 | _::_,[],_,_,_,_,h,_=>by simp at h
 | p::P,w::vs,0,m,nd,h1,h2,hk=>by simp at h1 h2;subst h1;subst h2;show bindC kindOf ((p,w)::P.zip vs) m p=_;unfold bindC;rw[EC λv hv=>(dW.mp nd).1 (jW hv).1,de hk];simp
 | p::P,w::vs,i+1,m,nd,h1,h2,hk=>by show bindC kindOf ((p,w)::P.zip vs) m x=_;unfold bindC;exact El (i:=i) (dW.mp nd).2 (by simpa using h1) (by simpa using h2) hk
noncomputable def start(N:QQQ)(vs:T0 V):St:=vs.map Fa++List.replicate (N.length - vs.length) Db
noncomputable def vW(CX:Lo)(P:Pg)(w:Wo)(K:qM)(mg:QQZ)(base:No)(N:QQQ)(qual:Str)(scope:XXd)(f:Uf)(cd:Vl)(A:Ar)(outer:T0 Env)(s:Sd)(H:Hp)(E:XK):Cx where
 prog:=P
 w:=w
 K:=K
 mg:=mg
 base:=base
 A:=A.deeper (dL qual scope s.heap.objs.size f cd)
 N:=N
 s₀:=s
 H₀:=H
 env:=dL qual scope s.heap.objs.size f cd
 outer:=outer
 stack:=dL qual scope s.heap.objs.size f cd::outer
 ex:=[]
 calm:=true
 fn:=λ_=>pc
 pn:=[]
 xe:=λe s'=>pi (Tk P w) (A.deeper (dL qual scope s.heap.objs.size f cd)) (leaving (dL qual scope s.heap.objs.size f cd) e) (λ_ s''=>CX outer H s E e s'') (λe' s''=>CX outer H s E e' s'') s'
def GN{sc:XXd}{n:Nat}{x:Str}(h:sc.names.lookup x=Fa .cell):∃c,(cellsFrom n sc.names []).lookup x=Fa c:=by have q:=lZ sc.names n [] (.inl h);exact jJ.mp q
def Lc{CX:Lo}{K:qM}{qual:Str}{f:Uf}{cd:Vl}{A:Ar}{E:XK}{vs:T0 V} (S:tT N ps scope) (hd:A.handled=Db) (e0:Ij P w K mg base A outer s H) (hl:vs.length=ps.length) (r:qT vs us) (x:InCallC s s.heap.objs.size (bindL (dL qual scope s.heap.objs.size f cd).kindOf (ps.zip us) λ_=>Db) (cellsFrom (s.heap.objs.size+1) scope.names []) (bindC (dL qual scope s.heap.objs.size f cd).kindOf (ps.zip us) λ_=>Db) s1):
  Inv (vW CX P w K mg base N qual scope f cd A outer s H E) [] (start N vs) H s1:=by
 have X8:ps.length<=N.length:=by have:=eY List.length S.pre;rw[fm]at this;lia
 obtain⟨h1,tk,rfl,hk⟩:=x.done;have noA:∀b:Uf,b∉(vW CX P w K mg base N qual scope f cd A outer s H E).ex:=λb z=>absurd (show b∈([]:QXQ)from z) (by simp);refine⟨⟨e0.mod,S.kind,Z',Z',dw _,λy z c h1 h2=>?_,λy hy=>?_,λy c _ h=>?_,λ_=>hd,Around.frames_deeper e0.frames,.inr ⟨Z',Z'⟩,λb z=>absurd z (noA b),e0.bs,e0.oy,λb _ _=>noA b,λb z=>absurd z (noA b),e0.nP,e0.oG⟩,Z',e0.bare,Un.kept hk,⟨_,x.toInCall.ns,λi y v h1 h2 h3=>?_⟩,λy c h=>⟨_,x.cell y c h⟩,e0.m9.fresh (dw _),λy c h=>?_,λp hp=>absurd (show p∈([]:QQY)from hp) (by simp),e0.m9.kept hk,?_⟩
 .exact name_of_addr x.apart (gZ h1) (gZ h2)
 .have hy:scope.names.lookup y=Fa .cell\/scope.names.lookup y=Fa .free:=hy;rcases hy with hy|hy
  .exact GN hy
  .exact absurd Z' (S.pH _ (gZ hy))
 .exact kZ (x.above y c (gZ h))
 .have hi:i<vs.length:=by
   unfold start at h2;by_cases hi:i<vs.length
   .exact hi
   .rw[fi (by simpa using hi)]at h2;rw[jU]at h2;split at h2<;>cases h2
  have ha:vs[i]?=Fa v:=by
   unfold start at h2;rw[fk (by simpa using hi),dz]at h2;cases e:vs[i]? with
   | none=>rw[e]at h2;cases h2
   | some a=>rw[e]at h2;cases h2;rfl
  obtain⟨u,hu,rv⟩:=r.get ha;have hp:ps[i]?=Fa y:=by rw[<-S.pre,jK (by lia)];exact h1
  have ndP:ps.Nodup:=by rw[<-S.pre];exact S.nd.sublist (List.take_sublist _ _)
  refine⟨u,rv,?_⟩;rcases S.par y (gb hp)with k|k
  .exact .inl ⟨k,ER ndP hp hu k⟩
  .obtain⟨c,e⟩:=GN (n:=s.heap.objs.size+1) k;refine .inr ⟨.inl k,c,e,?_⟩;have q:=x.cell y c e;rw[El ndP hp hu (by show scope.names.lookup y≠_;rw[k];decide)]at q;exact q
 .exact e0.m9.fresh (kZ (x.above y c (gZ h)))
 .unfold start;show _=N.length;rw[cZ,cW,iP];lia
def MS{CX:Lo}{P:Pg}{w:Wo}{K:qM}{mg:QQZ}{base:No}{f:Uf}{dV kV Yv pm X2 ct oc:Vl}{an od:Option Uf} {YD:Array (Option Vl)} {N ps:QQQ} {sp:Sp} (lk:K.lookup f=Fa ⟨oc,od,.func (W.fnOf name qual params body scope dV kV Yv pm an X2 ct),YD⟩) (YR:W.codeIn K X2 qual=pc) (S:tT N ps scope) (len:∀vs H Q E,sp vs H Q E->vs.length=ps.length) (Ye:∀(A:Ar) (outer:T0 Env) (s:Sd) (H:Hp) (vs:T0 V) (Q:VK) (E:XK),sJ k (A.deeper (dL qual scope s.heap.objs.size f X2))->sp vs H Q E->
   ∃t,Cq (vW CX P w K mg base N qual scope f X2 A outer s H E) body t/\t {nx:=λ_ H'=>Q .mY H',rt:=Q} (start N vs) H):
  xP P w K mg base CX (k+1) f (W.fnOf name qual params body scope dV kV Yv pm an X2 ct) ps sp:=by
 refine⟨len,λA outer s H args us vs Q E hr e0 hb r Zk=>?_⟩;have hl:=len _ _ _ _ Zk;have KX:K.In s.heap:=e0.mod.oM.keeps λb o e=>(e0.bs b o e).1;have lim:s.heap.NoLimit:=e0.mod.nolimit.keeps λb o e=>(e0.bs b o e).1;have hkind:∀y∈ps.zip us,scope.names.lookup y.1=Fa .local\/(scope.names.lookup y.1=Fa .cell/\((cellsFrom (s.heap.objs.size+1) scope.names []).lookup y.1).isSome=pc):=λ⟨n,v⟩ hy=>by
  rcases S.par n (jW hy).1 with q|q
  .exact .inl q
  .exact .inr ⟨q,lZ _ _ _ (.inl q)⟩
 refine codeAny_call_function hr.depth (KX _ _ lk) Z' S.co S.gen Z' (W.codeRec_of KX YR) (hb _ _ _ _ ?_);refine wpAny_newFunctionEnv_cells S.kind hkind λenv he s1 x=>?_;subst he;refine⟨lim.keeps x.toInCall.keep,codeAny_func ?_⟩;obtain⟨t,ht,hq⟩:=Ye A outer s H vs Q E (hr.deeper _) Zk;have I:Inv (vW CX P w K mg base N qual scope f X2 A outer s H E) [] (start N vs) H s1:=Lc S hr.hd e0 hl r x;refine eD (ht [] s1 (start N vs) H _ I hq) (λfl s' hs=>?_) λe s' hs=>hs;have XT:∀{σ':St} {H':Hp} {v:V} {u:Vl},Inv (vW CX P w K mg base N qual scope f X2 A outer s H E) [] σ' H' s'->rb v u->Q v H'->CE outer P w H s Q u s':=
  λ{σ' H' v u} J rv q=>⟨v,H',J.os,J.bare,J.base,J.m9,rv,q⟩
 cases fl with
 | ret u=>obtain⟨v,σ',H',J,rv,q⟩:=hs;exact XT J rv q
 | next=>obtain⟨σ',H',J,q⟩:=hs;exact XT (v:=V.mY) (u:=Value.none) J Z' q
 | brk=>obtain⟨_,_,_,q⟩:=hs;exact False.elim q
 | cont=>obtain⟨_,_,_,q⟩:=hs;exact False.elim q
variable {id T:String}{r:T0 V→Hp→VK→Prop}
section
variable {x:Str}{e:Go}{t:TA}
def Xm(r:T0 V->Hp->VK->Prop)(t:TA):TE:=λY H Q=>t Y H λvs H1=>r vs H1 Q
def Ng(hc:Av X (.builtin id) r)(hg:Gl X x)(hm:X.mg x=Db)(hv:zn x=Fa (.builtin id))(ha:PA X (e::es) t)(hn:x≠"__name__":=by decide)(Yc:zm x:=by decide)
  (he:Bt X e es:=by rfl) (X8:Cg X pos es:=by rfl):PE X (.Call (.Name x p) (e::es) [] pos) (Xm r t):=by
 intro XN s Y H Q I h;refine gu (ya I hg hm hv ?_ hn Yc);exact iT (sZ (ha pos XN s Y H _ I h) λus s1 zz=>x5 zz λvs H1 I1 r1 q1=>hc XN s1 Y H1 vs us Q I1 r1 q1) he X8
def K2(hc:Av X (.type T) r)(hg:Gl X x)(hm:X.mg x=Db)(hv:zn x=Fa (.type T))(ha:PA X (e::es) t)(hn:x≠"__name__":=by decide)(Yc:zm x:=by decide)
  (he:Bt X e es:=by rfl) (X8:Cg X pos es:=by rfl):PE X (.Call (.Name x p) (e::es) [] pos) (Xm r t):=by
 intro XN s Y H Q I h;refine gu (ya I hg hm hv ?_ hn Yc);exact gg (sZ (ha pos XN s Y H _ I h) λus s1 zz=>x5 zz λvs H1 I1 r1 q1=>hc XN s1 Y H1 vs us Q I1 r1 q1) he X8
end
end L2
namespace HT
open PySem PyProof.Rows
section
open PySem.SeqAt
open PySem.AutoSeq1 (wpAny_loadPart')
open PySem.MeetsSeq PySem.MeetsSeq2 PySem.MeetsSeq3
end
variable {prog:Pg}{w:Wo}{A:Ar}{E:QQX}{s:Sd}
def OT{vs ws:T0 Vl}{Q:QQX}(ht:IsTup s.heap t vs.toArray)(hb:IsTup s.heap b ws.toArray)(hv:vs≠[]) (h1:ws=[]->Q (.ref t) s) (h2:ws≠[]->Q (.ref s.heap.objs.size) {s with heap:=s.heap.push {cls:=.type "tuple",data:=.seq (vs++ws).toArray}})
  (hsz:vs.length+ws.length<=Ch):pi (Tk prog w) A (wP .Add (.ref t) (.ref b)) Q E s:=by
 obtain⟨⟨cls,dd,data,sl⟩,ho,hc,n,hd⟩:=id ht;obtain⟨⟨cls2,dd2,data2,sl2⟩,ho2,hc2,n2,hd2⟩:=id hb;simp only at hc hd hc2 hd2;subst hc hd hc2 hd2;have e:vs.toArray++ws.toArray=(vs++ws).toArray:=by simp
 by_cases hw:ws=[]
 .exact lh ⟨_,ho,Z'⟩ ⟨_,ho2,Z'⟩ l0 seq_tuple_add j6 jV (jL _ _)
   (tuple_addW1 t b vs.toArray ws.toArray n n2 dd dd2 sl sl2 (by simpa using hv) (by simp[hw])) ⟨ho,ho2,h1 hw⟩
 .refine lh ⟨_,ho,Z'⟩ ⟨_,ho2,Z'⟩ l0 seq_tuple_add j6 jV (jL _ _)
   (tuple_addW2 t b vs.toArray ws.toArray n n2 dd dd2 sl sl2 (by simpa using hv) (by simpa using hw) (by rw[dB,dB];exact hsz)) ⟨ho,ho2,?_⟩
  rw[e];exact h2 hw
noncomputable def tV(n d:Nat):Option Int->Nat
 | none=>d
 | some v=>if v<0 then(v+(n:Int)).toNat else min v.toNat n
def Cm(n d:Nat):tV n d Db=d:=rfl
def Jj(n d k:Nat):tV n d (Fa (k:Int))=min k n:=by show(if (k:Int)<0 then((k:Int)+(n:Int)).toNat else min (k:Int).toNat n)=min k n;rw[de (by lia),fR]
def Sy(n d:Nat)(hd:d<=n)(o:Option Int):tV n d o<=n:=by
 cases o with
 | none=>exact hd
 | some v=>
  show(if v<0 then(v+(n:Int)).toNat else min v.toNat n)<=n;by_cases hv:v<0
  .rw[dg hv];lia
  .rw[de hv];exact Nat.min_le_right _ _
def JZ(v:Int)(n d:Nat):(if v<0 then max (v+(n:Int)) 0 else min v (n:Int))=((tV n d (Fa v):Nat):Int):=by
 show(if v<0 then max (v+(n:Int)) 0 else min v (n:Int))=(((if v<0 then(v+(n:Int)).toNat else min v.toNat n):Nat):Int);by_cases hv:v<0
 .simp only[dg hv];lia
 .simp only[de hv];lia
def IW(lo hi:Option Int)(n:Nat):Builtin.Slice.sliceAdjust lo hi 1 (n:Int)=(((tV n 0 lo:Nat):Int),((tV n n hi:Nat):Int)):=by
 have h1:¬((1:Int)<0):=by lia
 unfold Builtin.Slice.sliceAdjust;simp only[h1,ky];refine Prod.ext ?_ ?_
 .cases lo with
  | none=>rfl
  | some v=>exact JZ v n 0
 .cases hi with
  | none=>rfl
  | some v=>exact JZ v n n
def HL(i j:Nat):Builtin.Slice.slicePlaces (i:Int) (j:Int) 1=j - i:=by
 unfold Builtin.Slice.slicePlaces;have h1:(1:Int)>0:=by lia
 simp only[h1,jk,Int.ediv_one];split<;>lia
def Ct{Q:Option Int->Sd->Prop}(p:IsPart v o)(h:Q o s):pi (Tk prog w) A (Builtin.Slice.slicePartIndex v) Q E s:=by
 cases p with
 | none=>exact slicePart_none h
 | int i t=>exact slicePart_int h
def xj{sl:Uf}{vl vu:Vl}{lo hi:Option Int}{Q:Int×Int×Nat->Sd->Prop}(hs:s.heap.IsSliceOf sl vl vu .none)(pl:IsPart vl lo)(pu:IsPart vu hi) (h:Q (((tV n 0 lo:Nat):Int),1,tV n n hi - tV n 0 lo) s):pi (Tk prog w) A (Builtin.Slice.sliceApplied (.ref sl) (pure (n:Int))) Q E s:=by
 obtain⟨os,hos,hcs,YS⟩:=id hs;unfold Builtin.Slice.sliceApplied Builtin.Slice.sliceFields;refine cX (cX (fu hos YS (x:=vl) Z' (cX (fu hos YS (x:=vu) Z' (cX (fu hos YS (x:=.none) Z' (dq ?_)))))));refine cX (slicePart_none ?_);show pi _ _ (if ((1:Int)==0)=pc then _ else _) _ _ s;rw[de (by decide)];refine cX (Ct pl (cX (Ct pu (cX (dq ?_)))));show pi _ _ (match Builtin.Slice.sliceAdjust lo hi 1 (n:Int)with|(lo,hi)=>pure (lo,(1:Int),Builtin.Slice.slicePlaces lo hi 1)) _ _ s;rw[IW lo hi n];show pi _ _ (pure (((tV n 0 lo:Nat):Int),(1:Int),Builtin.Slice.slicePlaces ((tV n 0 lo:Nat):Int) ((tV n n hi:Nat):Int) 1)) _ _ s;rw[HL];exact dq h
def N8(xs:Array Vl)(i k:Nat):((List.range k).filterMap λ(m:Nat)=>xs[((i:Int)+(m:Int)*1).toNat]?).toArray=((xs.toList.drop i).take k).toArray:=by
 have e:(λ(m:Nat)=>xs[((i:Int)+(m:Int)*1).toNat]?)=λm=>xs[i+m]?:=by
  funext m;have:((i:Int)+(m:Int)*1).toNat=i+m:=by lia
  rw[this]
 rw[e];have:=pick_run xs i k;rw[List.filterMap_map]at this;have e2:((λx=>xs[x]?)∘λx=>i+x)=λm=>xs[i+m]?:=rfl;rw[e2]at this;rw[this]
def zZ{t sl:Uf}{vl vu:Vl}{lo hi:Option Int}{Q:QQX}(ht:IsTup s.heap t XO)(hs:s.heap.IsSliceOf sl vl vu .none)(pl:IsPart vl lo)(pu:IsPart vu hi) (hw:¬(tV XO.size 0 lo=0/\tV XO.size XO.size hi=XO.size)) (h:Q (.ref s.heap.objs.size) {s with heap:=s.heap.push {cls:=.type "tuple",data:=.seq ((XO.toList.drop (tV XO.size 0 lo)).take (tV XO.size XO.size hi - tV XO.size 0 lo)).toArray}})
  (hsz:XO.size<=Ch):pi (Tk prog w) A (XXe (.ref t) (.ref sl)) Q E s:=by
 have Zc:sizeOk (.seq ((XO.toList.drop (tV XO.size 0 lo)).take (tV XO.size XO.size hi - tV XO.size 0 lo)).toArray):=by show((XO.toList.drop (tV XO.size 0 lo)).take (tV XO.size XO.size hi - tV XO.size 0 lo)).toArray.size<=Ch;rw[dB,fm,gp,iw];lia
 have hj:tV XO.size XO.size hi<=XO.size:=Sy _ _ (dw _) hi;obtain⟨os,hos,hcs,YS⟩:=id hs;have hTs:s.TypeIs (.ref sl) "slice":=⟨os,hos,hcs⟩;unfold XXe
 try with_reducible refine eI ?_
 first|refine cX (dq ?_)|skip
 refine cX (jw ht.typeIs (by decide) ?_);refine cX (fO (name:=Str.ofString "__getitem__") ht.typeIs fJ
  (gq fJ ht.typeIs kM ?_ (lj _ _)))
 show pi _ _ (Builtin.Tuple.tupleItemsOf (.ref t)>>=_) _ _ s;refine cX (tupleItemsOf_ ht ?_);refine cX (jM hTs ?_);rw[dg (by decide)];refine cX (xj hs pl pu ?_);have hno:¬((((tV XO.size 0 lo:Nat):Int)==0&&(1:Int)==1&&(tV XO.size XO.size hi - tV XO.size 0 lo)==XO.size)=pc):=by intro q;rw[dZ,dZ]at q;have q1:((tV XO.size 0 lo:Nat):Int)=0:=Ix q.1.1;have q2:tV XO.size XO.size hi - tV XO.size 0 lo=XO.size:=Ix q.2;exact hw ⟨by lia,by lia⟩
 show pi _ _ (if (((tV XO.size 0 lo:Nat):Int)==0&&(1:Int)==1&&(tV XO.size XO.size hi - tV XO.size 0 lo)==XO.size)=pc then _ else _) _ _ s;rw[de hno,N8]
 first
  | exact cX (m:=Builtin.Tuple.tupleExact _) (gc (dq ⟨_,rfl,dq h⟩) Zc)
  | exact cX (m:=Builtin.Tuple.tupleExact _) (gc (cX (dq (dq ⟨_,rfl,dq h⟩))) Zc)
  | exact cX (cX (m:=Builtin.Tuple.tupleExact _) (gc (dq (dq ⟨_,rfl,dq h⟩)) Zc))
  | exact cX (cX (m:=Builtin.Tuple.tupleExact _) (gc (dq ⟨_,rfl,dq h⟩) Zc))
end HT
namespace L2
abbrev TO:=St->Hp->(Option Int->Hp->Prop)->Prop
def PO(X:Cx)(e:Option Go)(t:TO):Prop:=
 ∀(XN:QQY) (s:Sd) (Y:St) (H:Hp) (Q:Option Int->Hp->Prop),Inv X XN Y H s->t Y H Q->
  pi (Tk X.prog X.w) X.A (evalPart e X.env) (λu s'=>∃o H',Inv X XN Y H' s'/\IsPart u o/\Q o H') X.xe s
def Qh:TO:=λ_ H Q=>Q Db H
def Vq(t:TE):TO:=λY H Q=>t Y H λx H1=>∃i,x=.int i/\Q (Fa i) H1
variable {X:Cx}{e:Go}{te:TE}{lo hi:Option Go}{tl th:TO}{pos p2:Pos}
def QR:PO X Db Qh:=by intro XN s Y H Q I h;rw[evalPart_none];exact dq ⟨Db,H,I,.none,h⟩
def Pq(h:PE X e te):PO X (Fa e) (Vq te):=by intro XN s Y H Q I hw;rw[evalPart_some];refine sZ (h XN s Y H _ I hw) λu s1 zz=>x5 zz λx H1 I1 r1 q1=>?_;obtain⟨i,rfl,q⟩:=q1;obtain⟨t,rfl⟩:=r1;exact⟨Fa i,H1,I1,.int i t,q⟩
def UM(X:Cx)(r:V->Option Int->Option Int->Hp->VK->Prop):Prop:=
 ∀(XN:QQY) (s:Sd) (Y:St) (H:Hp) (x:V) (v vl vu:Vl) (lo hi:Option Int) (sl:Uf) (Q:VK),Inv X XN Y H s->rb x v->s.heap.IsSliceOf sl vl vu .none->IsPart vl lo->IsPart vu hi->r x lo hi H Q->
  ∃T id,typeLookup (.type T) "__getitem__"=pure (Fa (.builtin id))/\s.TypeIs v T/\pi (Tk X.prog X.w) X.A (XXe v (.ref sl)) (EP X XN Y Q) X.xe s
def Xv(r:V->Option Int->Option Int->Hp->VK->Prop)(te:TE)(tl th:TO):TE:=λY H Q=>te Y H λx H1=>tl Y H1 λl H2=>th Y H2 λu H3=>r x l u H3 Q
def LR(hr:UM X r)(he:PE X e te)(hl:PO X lo tl)(hu:PO X hi th):PE X (.Subscript e (.Slice lo hi Db p2) pos) (Xv r te tl th):=by intro XN s Y H Q I h;refine Subscript_ (sZ (he XN s Y H _ I h) λv s1 zz=>x5 zz λx H1 I1 r1 q1=>?_);refine wpAny_Slice (sZ (hl XN s1 Y H1 _ I1 q1) λvl s2 zz=>x5 zz λl H2 I2 pl q2=>sZ (hu XN s2 Y H2 _ I2 q2) λvu s3 zz=>x5 zz λu H3 I3 pu q3=>?_);rw[evalPart_none];refine dq ?_;have I4:Inv X XN Y H3 {s3 with heap:=s3.heap.push {cls:=.type "slice",data:=.fields #[vl,vu,.none]}}:=I3.kept (t':=s3.toks) λb ob q=>df _ q;obtain⟨T,id,hT,ht,hg⟩:=hr XN {s3 with heap:=s3.heap.push {cls:=.type "slice",data:=.fields #[vl,vu,.none]}} Y H3 x v vl vu l u s3.heap.objs.size Q I4 r1 (mR ..) pl pu q3;show pi (Tk X.prog X.w) X.A (subscriptTail e (.Slice lo hi Db p2) v (.ref s3.heap.objs.size)) (EP X XN Y Q) X.xe {s3 with heap:=s3.heap.push {cls:=.type "slice",data:=.fields #[vl,vu,.none]}};exact tail_any (ops:=[.ref s3.heap.objs.size,v]) ht hT hg (by with_unfolding_all rfl)
noncomputable def CH(xs:T0 V)(lo hi:Option Int):T0 V:=(xs.drop (HT.tV xs.length 0 lo)).take (HT.tV xs.length xs.length hi - HT.tV xs.length 0 lo)
def Bl(xs:T0 V)(lo hi:Option Int):(CH xs lo hi).length<=xs.length:=by unfold CH;rw[fm,gp];lia
def Ww(K:qM):V->Option Int->Option Int->Hp->VK->Prop:=λx lo hi H Q=>∃a xs,x=.ref a/\vA K H a xs/\
 ¬(HT.tV xs.length 0 lo=0/\HT.tV xs.length xs.length hi=xs.length)/\∀p,H p=Db->Q (.ref p) (upd H p (.tup (CH xs lo hi)))
def Sh:UM X (Ww X.K):=by
 intro XN s Y H x v vl vu lo hi sl Q I rx hs pl pu h;obtain⟨a,xs,rfl,hx,hw,q⟩:=h;cases rx;obtain⟨its,r,ht,hz⟩:=I.tuple hx;have XW:its.toArray.size=xs.length:=by rw[dB];exact r.length.symm
 refine⟨"tuple",_,fJ.lookup,ht.typeIs,?_⟩;refine HT.zZ ht hs pl pu (by rw[XW];exact hw) ?_ (by rw[XW];exact hz);rw[XW];refine⟨.ref s.heap.objs.size,_,I.laid (t':=s.toks) (o:=.tup (CH xs lo hi)) (λb ob q=>df _ q) (dw _) ?_,Z',q _ (I.m9.fresh (dw _))⟩;exact⟨d9 (Bl xs lo hi) hz,_,(r.drop (HT.tV xs.length 0 lo)).take (HT.tV xs.length xs.length hi - HT.tV xs.length 0 lo),DR.new _ _⟩
def UI(K:qM):R2:=λx y H Q=>∃a b xs ys,x=.ref a/\y=.ref b/\vA K H a xs/\vA K H b ys/\xs≠[]/\xs.length+ys.length<=Ch/\
 (ys=[]->Q (.ref a) H)/\(ys≠[]->∀p,H p=Db->Q (.ref p) (upd H p (.tup (xs++ys))))
def qT.nZ(r:qT xs us):us=[]↔xs=[]:=by
 cases r with
 | nil=>simp
 | cons _ _=>simp
def Pk:yj X (wP .Add) (UI X.K):=by intro XN s Y H x y v u Q I rx ry h;obtain⟨a,b,xs,ys,rfl,rfl,ha,hb,hx,hz,q1,q2⟩:=h;cases rx;cases ry;obtain⟨its,r1,p1,_⟩:=I.tuple ha;obtain⟨its2,r2,p2,_⟩:=I.tuple hb;refine HT.OT p1 p2 (λz=>hx (r1.nZ.mp z)) (λz=>⟨.ref a,H,I,Z',q1 (r2.nZ.mp z)⟩) (λz=>?_) (by rw[<-r1.length,<-r2.length];exact hz);refine⟨.ref s.heap.objs.size,_,I.laid (t':=s.toks) (o:=.tup (xs++ys)) (λb ob q=>df _ q) (dw _) ?_,Z',q2 (λw=>z (r2.nZ.mpr w)) _ (I.m9.fresh (dw _))⟩;exact⟨by rw[cZ];exact hz,_,r1.append r2,DR.new _ _⟩
noncomputable def F4(n:Nat)(i:Int):Option Nat:=if 0<=i then(if i<n then Fa i.toNat else Db)else if -(n:Int)<=i then Fa (i+n).toNat else Db
noncomputable def vY{α:Type}(xs:List α)(i:Int):Option α:=(F4 xs.length i).bind λj=>xs[j]?
def Ji{j:Nat}(h:F4 n i=Fa j):seqIndex? i n=Fa j/\j<n/\-(n:Int)<=i/\i<n:=by
 unfold F4 at h;by_cases h0:0<=i
 .rw[dg h0]at h;by_cases h1:i<n
  .rw[dg h1]at h;have e:i.toNat=j:=dv h;exact⟨by rw[lT h0 h1,e],by lia,by lia,h1⟩
  .rw[de h1]at h;cases h
 .rw[de h0]at h;by_cases h1:-(n:Int)<=i
  .rw[dg h1]at h;have e:(i+n).toNat=j:=dv h;exact⟨by rw[ls (by lia) h1,e],by lia,h1,by lia⟩
  .rw[de h1]at h;cases h
def FZ{α:Type}{xs:List α}{i:Int}{v:α}(h:vY xs i=Fa v):∃j,seqIndex? i xs.length=Fa j/\xs[j]?=Fa v/\j<xs.length/\-(xs.length:Int)<=i/\i<xs.length:=by
 unfold vY at h;cases e:F4 xs.length i with
 | none=>rw[e]at h;cases h
 | some j=>rw[e]at h;obtain⟨h1,h2,h3,h4⟩:=Ji e;exact⟨j,h1,h,h2,h3,h4⟩
def tU{α:Type}{xs:List α}{j:Nat}{v:α}(h:xs[j]?=Fa v):vY xs (j:Int)=Fa v:=by
 have hj:j<xs.length:=(cY.mp h).1;have e:F4 xs.length (j:Int)=Fa j:=by unfold F4;rw[dg (by lia),dg (by lia)];simp
 unfold vY;rw[e];exact h
def B2(b:Go):Prop:=∀o i,subscripted b lf o i=operate [o,i] (XXe o i)
def Uq(X:Cx)(r:R2):Prop:=
 ∀(value X3:Go) (XN:QQY) (s:Sd) (Y:St) (H:Hp) (x y:V) (v u:Vl) (Q:VK),Inv X XN Y H s->rb x v->rb y u->r x y H Q->
  subscripted X3 lf v u=operate [v,u] (XXe v u)->pi (Tk X.prog X.w) X.A (subscriptTail value X3 v u) (EP X XN Y Q) X.xe s
def Xc(X:Cx)(id:String)(r:V->T0 V->Hp->VK->Prop):Prop:=
 ∀(XN:QQY) (s:Sd) (Y:St) (H:Hp) (x:V) (xs:T0 V) (v:Vl) (us:T0 Vl) (Q:VK),Inv X XN Y H s->rb x v->qT xs us->r x xs H Q->
  pi (Tk X.prog X.w) X.A (call (.builtin id) (v::us)) (EP X XN Y Q) X.xe s
variable {o:Go}{es:T0 Go}{to:TE}{t:TA}{name:Str}{XS XY:Pos}{T id:String}{r:V→T0 V→Hp→VK→Prop}{a:Go}{ta tb:TE}
section
variable {b:Go}
def NU{r:R2}(hr:Uq X r)(ha:PE X a ta)(hb:PE X b tb)(hs:B2 b):PE X (.Subscript a b pos) (UQ r ta tb):=by intro XN s Y H Q I h;exact Subscript_ (Sm ha hb I h λv u s2 x y H2 I2 rx ry q=>hr a b XN s2 Y H2 x y v u Q I2 rx ry q (hs _ _))
def WN(K:qM):R2:=λx y H Q=>∃p xs i v,x=.ref p/\y=.int i/\zJ K H p xs/\vY xs i=Fa v/\Q v H
def WZ(K:qM):R2:=λx y H Q=>∃p xs i v,x=.ref p/\y=.int i/\vA K H p xs/\vY xs i=Fa v/\Q v H
def Ws:R2:=λx y H Q=>∃z i c,x=.str z/\y=.int i/\z.length<=Ch/\vY z.cps.toList i=Fa c/\Q (.str ⟨#[c]⟩) H
def JB:Uq X (WN X.K):=by
 intro value X3 XN s Y H x y v u Q I rx ry h hs;obtain⟨p,xs,i,z,rfl,rfl,hq,he,q⟩:=h;cases rx;obtain⟨t,rfl⟩:=ry;obtain⟨its,r,pl,hz⟩:=I.list hq;obtain⟨j,h1,h2,h3,h4,h5⟩:=FZ he;obtain⟨w,ew,YZ⟩:=r.get h2;have hl:=r.length;have hn:=zy;have XT:EP X XN Y Q w s:=⟨z,H,I,YZ,q⟩;by_cases h0:0<=i
 .have hj:i.toNat=j:=by rw[lT h0 h5]at h1;exact dv h1
  exact item_listR pl.isList h0 (by lia) (by rw[hj];simpa using ew) XT hs
 .have hj:(i+(its.toArray.size:Int)).toNat=j:=by rw[ls (by lia) h4]at h1;rw[dB,<-hl];exact dv h1
  exact j7 (x:=w) pl.isList.typeIs lL.lookup
   (wpAny_getItem_list_neg (Q:=λr s'=>r=w/\EP X XN Y Q r s') pl.isList (by lia) (by rw[dB]<;>lia) (by lia) (by rw[hj];simpa using ew) ⟨Z',XT⟩) hs
def SH:Uq X (WZ X.K):=by
 intro value X3 XN s Y H x y v u Q I rx ry h hs;obtain⟨p,xs,i,z,rfl,rfl,hq,he,q⟩:=h;cases rx;obtain⟨t,rfl⟩:=ry;obtain⟨its,r,pl,hz⟩:=I.tuple hq;obtain⟨j,h1,h2,h3,h4,h5⟩:=FZ he;obtain⟨w,ew,YZ⟩:=r.get h2;have hl:=r.length;have hn:=zy;have XT:EP X XN Y Q w s:=⟨z,H,I,YZ,q⟩;exact j7 (x:=w) pl.typeIs slot_tuple_getitem.lookup
  (getItem_tuple (j:=j) (Q:=λr s'=>r=w/\EP X XN Y Q r s') pl (by lia) (by lia) (by rw[dB,<-hl];exact h1) (by simpa using ew) ⟨Z',XT⟩) hs
def Ta:Uq X Ws:=by
 intro value X3 XN s Y H x y v u Q I rx ry h hs;obtain⟨z,i,c,rfl,rfl,hz,he,q⟩:=h;obtain⟨t,rfl⟩:=rx;obtain⟨t',rfl⟩:=ry;obtain⟨j,h1,h2,h3,h4,h5⟩:=FZ he;have hl:z.cps.toList.length=z.length:=by simp[Str.length]
 rw[hl]at h1 h4 h5;have hn:=zy;exact tail_any (typeIs_str s z t) slot_str_getitem.lookup (getItem_str (c:=c) (by
  have e1:decide (i< -(2 ^ 63:Int))=lf:=eW (by lia);have e2:decide (i>=2 ^ 63)=lf:=eW (by lia);rw[e1,e2,kG]) (by rw[h1];simpa using h2) ⟨.str ⟨#[c]⟩,H,I.tok _,⟨_,Z'⟩,q⟩) hs
def IB(its:T0 Vl)(n j:Nat)(u:Vl):Obj.mapSeq (·.setIfInBounds j u) {cls:=.type "list",data:=.seq its.toArray n}={cls:=.type "list",data:=.seq (its.set j u).toArray n}:=by simp[Obj.mapSeq]
def Inv.lst{p:Uf}{xs:T0 V}(I:Inv X XN Y H s)(h:H p=Fa (.lst xs)):
  ∃(its:T0 Vl) (n:Nat),qT xs its/\s.heap.get? p=Fa {cls:=.type "list",data:=.seq its.toArray n}/\xs.length<=Ch:=by
 obtain⟨z,its,n,r,e⟩:=I.m9 p _ h;exact⟨its,n,r,e,z⟩
def Inv.oU{p:Uf}{xs ys:T0 V}{its its':T0 Vl}{n n':Nat}{f:Obj->Obj}(I:Inv X XN Y H s)(h:H p=Fa (.lst xs)) (ho:s.heap.get? p=Fa {cls:=.type "list",data:=.seq its.toArray n}) (hf:f {cls:=.type "list",data:=.seq its.toArray n}={cls:=.type "list",data:=.seq its'.toArray n'}) (r:qT ys its') (hz:ys.length<=Ch) (t:Nat):
  Inv X XN Y (upd H p (.lst ys)) {s with heap:=s.heap.update p f,toks:=t}:=by
 have e:(s.heap.update p f).get? p=Fa {cls:=.type "list",data:=.seq its'.toArray n'}:=by rw[fL f ho (by rw[hf]<;>rfl),hf]
 refine I.write (x:=p) (e:=p) (by rw[h];trivial) (.inl Z') (λb u hb q=>(gj _ _ (dS hb)).trans q) ⟨_,e⟩ ?_;exact⟨hz,its',n',r,e⟩
def Vo:V->V->V->Hp->(Hp->Prop)->Prop:=λo i v H Q=>∃p xs k j,o=.ref p/\i=.int k/\H p=Fa (.lst xs)/\F4 xs.length k=Fa j/\Q (upd H p (.lst (xs.set j v)))
def NS:VH X Vo:=by
 intro XN s Y H o i v ov iv u Q I ro ri rv h;obtain⟨p,xs,k,j,rfl,rfl,hp,hj,q⟩:=h;cases ro;obtain⟨t,rfl⟩:=ri;obtain⟨its,n,r,ho,hz⟩:=I.lst hp;obtain⟨h1,h2,h3,h4⟩:=Ji hj;have hl:=r.length;have hn:=zy;have I':Inv X XN Y (upd H p (.lst (xs.set j v))) {s with heap:=s.heap.update p (Obj.mapSeq (·.setIfInBounds j u))}:=
  I.oU hp ho (IB its n j u) (r.set rv j) (by rw[iy];exact hz) s.toks
 by_cases h0:0<=k
 .have hk:k.toNat=j:=by rw[lT h0 h4]at h1;exact dv h1
  exact W.ki_setAt ho h0 (by lia) (by rw[dB,<-hl];exact h4) (by rw[hk];exact⟨_,I',q⟩)
 .have hk:(k+(its.toArray.size:Int)).toNat=j:=by rw[ls (by lia) h3]at h1;rw[dB,<-hl];exact dv h1
  exact W.ki_setBack ho (by lia) (by rw[dB,<-hl];exact h3) (by lia) (by rw[hk];exact⟨_,I',q⟩)
def FH(lo hi:Option Int)(n:Nat):(XXf lo hi Db n).1=((HT.tV n 0 lo:Nat):Int)/\(XXf lo hi Db n).2.1=((HT.tV n n hi:Nat):Int)/\(XXf lo hi Db n).2.2=1:=by
 refine⟨?_,?_,Z'⟩
 .cases lo with
  | none=>simp[XXf,HT.tV]
  | some i=>
   simp only[XXf,HT.tV,ma,show(1:Int)>0 by decide,jk];by_cases h:i<0
   .simp only[h,jk]<;>lia
   .simp only[h,ky]<;>lia
 .cases hi with
  | none=>simp[XXf,HT.tV]
  | some i=>
   simp only[XXf,HT.tV,ma,show(1:Int)>0 by decide,jk];by_cases h:i<0
   .simp only[h,jk]<;>lia
   .simp only[h,ky]<;>lia
def DU(its:T0 Vl)(lo hi:Option Int):slicePick its.toArray lo hi Db=((its.drop (HT.tV its.length 0 lo)).take (HT.tV its.length its.length hi - HT.tV its.length 0 lo)).toArray:=by obtain⟨h1,h2,h3⟩:=FH lo hi its.toArray.size;unfold slicePick;rw[h1,h2,h3];simp only[sliceRange_one,pick_run,dB]<;>rfl
def WT(K:qM):V->Option Int->Option Int->Hp->VK->Prop:=λx lo hi H Q=>∃a xs,x=.ref a/\zJ K H a xs/\∀p,H p=Db->Q (.ref p) (upd H p (.lst (CH xs lo hi)))
def Jw:UM X (WT X.K):=by intro XN s Y H x v vl vu lo hi sl Q I rx hs pl pu h;obtain⟨a,xs,rfl,hx,q⟩:=h;cases rx;obtain⟨its,r,ht,hz⟩:=I.list hx;have XW:=r.length;refine⟨"list",_,lL.lookup,ht.isList.typeIs,?_⟩;refine wpAny_getItem_list_slice ht.isList hs pl pu .none (by simp) ?_ (by rw[dB]<;>lia);rw[DU,<-XW];refine⟨.ref s.heap.objs.size,_,I.laid (t':=s.toks) (o:=.lst (CH xs lo hi)) (λb ob q=>df _ q) (dw _) ?_,Z',q _ (I.m9.fresh (dw _))⟩;exact⟨d9 (Bl xs lo hi) hz,_,0,(r.drop (HT.tV xs.length 0 lo)).take (HT.tV xs.length xs.length hi - HT.tV xs.length 0 lo),dN _ Z'⟩
noncomputable def yZ:V->Bool
 | .mY=>pc
 | .bl _=>pc
 | .int _=>pc
 | .str _=>pc
 | _=>lf
noncomputable def OL:V->V->Bool
 | .mY,.mY=>pc
 | .bl a,.bl b=>a==b
 | .bl a,.int b=>(if a then 1 else 0)==b
 | .int a,.bl b=>a==(if b then 1 else 0)
 | .int a,.int b=>a==b
 | .str a,.str b=>a==b
 | _,_=>lf
def SO(ry:rb y u)(rx:rb x v)(fy:yZ y=pc)(fx:yZ x=pc):SeqAt.EqAt A s u v (OL y x):=by
 cases y with
 | mY=>
  cases ry;cases x with
  | mY=>cases rx;exact SeqAt.EqAt.same _
  | bl b=>cases rx;exact SeqAt.EqAt.none_bool b
  | int b=>obtain⟨t,rfl⟩:=rx;exact SeqAt.EqAt.none_int b t
  | str b=>obtain⟨t,rfl⟩:=rx;exact SeqAt.EqAt.none_str b t
  | _=>exact absurd (show lf=pc from fx) dC
 | bl a=>
  cases ry;cases x with
  | mY=>cases rx;exact SeqAt.EqAt.bool_none a
  | bl b=>cases rx;exact SeqAt.EqAt.bool_bool a b
  | int b=>obtain⟨t,rfl⟩:=rx;exact SeqAt.EqAt.bool_int a b t
  | str b=>obtain⟨t,rfl⟩:=rx;exact SeqAt.EqAt.bool_str a b t
  | _=>exact absurd (show lf=pc from fx) dC
 | int a=>
  obtain⟨t',rfl⟩:=ry;cases x with
  | mY=>cases rx;exact SeqAt.EqAt.int_none a t'
  | bl b=>cases rx;exact SeqAt.EqAt.int_bool a t' b
  | int b=>obtain⟨t,rfl⟩:=rx;exact SeqAt.EqAt.int_int a t' b t
  | str b=>obtain⟨t,rfl⟩:=rx;exact kW a t' b t
  | _=>exact absurd (show lf=pc from fx) dC
 | str a=>
  obtain⟨t',rfl⟩:=ry;cases x with
  | mY=>cases rx;exact SeqAt.EqAt.str_none a t'
  | bl b=>cases rx;exact SeqAt.EqAt.str_bool a t' b
  | int b=>obtain⟨t,rfl⟩:=rx;exact kX a t' b t
  | str b=>obtain⟨t,rfl⟩:=rx;exact SeqAt.EqAt.str_str a t' b t
  | _=>exact absurd (show lf=pc from fx) dC
 | _=>exact absurd (show lf=pc from fy) dC
noncomputable def EH(x:V)(u:Vl):Bool:=match u with
 | .none=>OL .mY x
 | .bool b=>OL (.bl b) x
 | .int i _=>OL (.int i) x
 | .str z _=>OL (.str z) x
 | _=>lf
def Ig(r:rb y u)(f:yZ y=pc):EH x u=OL y x:=by
 cases y with
 | mY=>cases r;rfl
 | bl b=>cases r;rfl
 | int i=>obtain⟨t,rfl⟩:=r;rfl
 | str z=>obtain⟨t,rfl⟩:=r;rfl
 | _=>exact absurd (show lf=pc from f) dC
theorem zT:∀{xs:T0 V} {us:T0 Vl},qT xs us->xs.all yZ=pc->us.any (EH x)=xs.any λy=>OL y x
 | _,_,.nil,_=>rfl
 | y::xs,u::us,.cons r t,f=>by rw[fD,dZ]at f;rw[gk,gk,Ig r f.1,zT t f.2]
theorem vU(rx:rb x v)(fx:yZ x=pc):∀{xs:T0 V} {us:T0 Vl},qT xs us->xs.all yZ=pc->∀u∈us,SeqAt.EqAt A s u v (EH x u)
 | _,_,.nil,_=>λu hu=>by cases hu
 | y::xs,u::us,.cons r t,f=>λu' hu=>by
  rw[fD,dZ]at f;rcases dh.mp hu with rfl|hu
  .rw[Ig r f.1];exact SO r rx f.1 fx
  .exact vU rx fx t f.2 u' hu
noncomputable def inV(x:V)(xs:T0 V):Bool:=xs.any λy=>OL y x
def WI(K:qM)(Zq:Bool):R2:=λx y H Q=>∃p xs,y=.ref p/\(zJ K H p xs\/vA K H p xs)/\yZ x=pc/\xs.all yZ=pc/\Q (.bl (if Zq then !inV x xs else inV x xs)) H
def Kj:yj X (Ps .In) (WI X.K lf):=by
 intro XN s Y H x y v u Q I rx ry h;obtain⟨p,xs,rfl,hq,fx,fs,q⟩:=h;cases ry;rcases hq with hq|hq
 .obtain⟨its,r,pl,hz⟩:=I.list hq;refine SeqAt.in_listAt (EH x) pl.isList (λw hw=>vU rx fx r fs w (by simpa using hw)) ⟨.bl _,H,I,Z',?_⟩;rw[show its.toArray.any (EH x)=its.any (EH x)by simp,zT r fs];exact q
 .obtain⟨its,r,pl,hz⟩:=I.tuple hq;refine SeqAt.in_tupleAt (EH x) pl (λw hw=>vU rx fx r fs w (by simpa using hw)) ⟨.bl _,H,I,Z',?_⟩;rw[show its.toArray.any (EH x)=its.any (EH x)by simp,zT r fs];exact q
def E5:yj X (Ps .NotIn) (WI X.K pc):=by
 intro XN s Y H x y v u Q I rx ry h;obtain⟨p,xs,rfl,hq,fx,fs,q⟩:=h;cases ry;rcases hq with hq|hq
 .obtain⟨its,r,pl,hz⟩:=I.list hq;refine SeqAt.notIn_listAt (EH x) pl.isList (λw hw=>vU rx fx r fs w (by simpa using hw)) ⟨.bl _,H,I,Z',?_⟩;rw[show its.toArray.any (EH x)=its.any (EH x)by simp,zT r fs];exact q
 .obtain⟨its,r,pl,hz⟩:=I.tuple hq;refine SeqAt.notIn_tupleAt (EH x) pl (λw hw=>vU rx fx r fs w (by simpa using hw)) ⟨.bl _,H,I,Z',?_⟩;rw[show its.toArray.any (EH x)=its.any (EH x)by simp,zT r fs];exact q
def Fh:yj X (Ps .NotIn) (λx y H Q=>∃i j,x=.str i/\y=.str j/\Q (.bl (!(!(Builtin.Str.occurrences j i 0 j.length 1).isEmpty))) H):=by intro XN s Y H x y v u Q I rx ry h;obtain⟨i,j,rfl,rfl,q⟩:=h;obtain⟨t,rfl⟩:=rx;obtain⟨t',rfl⟩:=ry;exact notIn_str ⟨.bl _,H,I,Z',q⟩
def xD:Av X (.builtin "len") (λxs H Q=>∃p ys,xs=[.ref p]/\(zJ X.K H p ys\/vA X.K H p ys)/\Q (.int ys.length) H):=by
 intro XN s Y H xs us Q I r h;obtain⟨p,ys,rfl,hq,q⟩:=h;obtain⟨u,rfl,rx⟩:=yu r;cases rx;have hn:=zy;rcases hq with hq|hq
 .obtain⟨its,r',pl,hz⟩:=I.list hq;have XW:=r'.length;exact Calls.call_len_list pl.isList (by simp only[dB]<;>lia) ⟨.int ys.length,H,I.tok _,⟨s.toks+1,by rw[dB,XW]⟩,q⟩
 .obtain⟨its,r',pl,hz⟩:=I.tuple hq;have XW:=r'.length;exact len_tuple pl (by simp only[dB]<;>lia) ⟨.int ys.length,H,I.tok _,⟨s.toks+1,by rw[dB,XW]⟩,q⟩
def FK:Av X (.builtin "len") (λxs H Q=>∃z,xs=[.str z]/\z.length<=Ch/\Q (.int z.length) H):=by intro XN s Y H xs us Q I r h;obtain⟨z,rfl,hz,q⟩:=h;obtain⟨u,rfl,t,rfl⟩:=yu r;have hn:=zy;exact len_str (by lia) ⟨.int z.length,H,I.tok _,⟨_,Z'⟩,q⟩
def FI:Av X (.type "list") (λxs H Q=>∃p ys,xs=[.ref p]/\(zJ X.K H p ys\/vA X.K H p ys)/\∀l,H l=Db->Q (.ref l) (upd H l (.lst ys))):=by
 intro XN s Y H xs us Q I r h;obtain⟨p,ys,rfl,hq,q⟩:=h;obtain⟨u,rfl,rx⟩:=yu r;cases rx;have XT:∀(its:T0 Vl),qT ys its->ys.length<=Ch->∀(h':No) (c':Nat),(∀b o',s.heap.get? b=Fa o'->h'.get? b=Fa o')->
   h'.get? s.heap.objs.size=Fa {cls:=.type "list",dict:=none,data:=.seq its.toArray c',slots:=#[]}->EP X XN Y Q (.ref s.heap.objs.size) {s with heap:=h'}:=λits r' hz h' c' kp e=>
  ⟨.ref s.heap.objs.size,_,I.laid (t':=s.toks) kp (dw _) (show sV X.prog X.w _ h' _ (.lst ys)from⟨hz,its,c',r',e⟩),Z',q _ (I.m9.fresh (dw _))⟩
 rcases hq with hq|hq
 .obtain⟨its,r',pl,hz⟩:=I.list hq;have XW:=r'.length;obtain⟨o,ho,hc,n,hd⟩:=pl.isList;exact call_list_seq p (.inl Z') ho hc hd (λh' c' kp e=>XT its r' hz h' c' kp e) (by simp only[dB]<;>lia)
 .obtain⟨its,r',pl,hz⟩:=I.tuple hq;have XW:=r'.length;obtain⟨o,ho,hc,n,hd⟩:=pl;exact call_list_seq p (.inr Z') ho hc hd (λh' c' kp e=>XT its r' hz h' c' kp e) (by simp only[dB]<;>lia)
def wM:Av X (.type "tuple") (λxs H Q=>∃p ys,xs=[.ref p]/\((zJ X.K H p ys/\∀l,H l=Db->Q (.ref l) (upd H l (.tup ys)))\/(vA X.K H p ys/\Q (.ref p) H))):=by
 intro XN s Y H xs us Q I r h;obtain⟨p,ys,rfl,h⟩:=h;obtain⟨u,rfl,rx⟩:=yu r;cases rx;rcases h with⟨hq,q⟩|⟨hq,q⟩
 .obtain⟨its,r',pl,hz⟩:=I.list hq;have XW:=r'.length;refine call_tuple_list pl.isList (λh' kp=>?_) (by simp only[dB]<;>lia);have I1:Inv X XN Y H {s with heap:=h'}:=I.kept (t':=s.toks) kp;have I2:Inv X XN Y (upd H h'.objs.size (.tup ys)) {s with heap:=h'.push {cls:=.type "tuple",data:=.seq its.toArray}}:=
   I1.laid (t':=s.toks) (λb o e=>df _ e) (dw _) (show sV X.prog X.w _ _ _ (.tup ys)from⟨hz,its,r',DR.new _ _⟩)
  exact⟨.ref h'.objs.size,_,I2,Z',q _ (I1.m9.fresh (dw _))⟩
 .obtain⟨its,r',pl,hz⟩:=I.tuple hq;exact call_tuple_same pl ⟨.ref p,H,I,Z',q⟩
def WO(K:qM)(T:String)(x:V)(H:Hp):Prop:=match x with
 | .str _=>T="str"
 | .int _=>T="int"
 | .ref p=>(T="list"/\∃xs,zJ K H p xs)\/(T="tuple"/\∃o,K.lookup p=Fa o/\o.cls=.type "tuple"/\o.dict=Db)\/
   (T="dict"/\((∃kvs,H p=Fa (.dK kvs))\/∃kvs,H p=Fa (.dT kvs)))\/(T="set"/\∃S n,H p=Fa (.set S n))
 | _=>False
def S6(I:Inv X XN Y H s)(r:rb x v)(ty:WO X.K T x H):
  s.TypeIs v T/\∀a,v=.ref a->∃ob,s.heap.get? a=Fa ob/\ob.dict=Db:=by
 cases x with
 | str z=>obtain⟨t,rfl⟩:=r;cases(show T="str" from ty);exact⟨typeIs_str s z t,λ_ e=>nomatch e⟩
 | int i=>obtain⟨t,rfl⟩:=r;cases(show T="int" from ty);exact⟨my s i t,λ_ e=>nomatch e⟩
 | ref p=>
  cases r;rcases ty with⟨rfl,xs,hq⟩|⟨rfl,o,hk,hc,hd⟩|⟨rfl,hk⟩|⟨rfl,S,n,hk⟩
  .obtain⟨its,_,pl,_⟩:=I.list hq;refine⟨pl.isList.typeIs,λa e=>?_⟩;cases e;obtain⟨o,n,e,c,hd,_⟩:=pl;exact⟨o,e,hd⟩
  .refine⟨⟨o,I.nA p o hk,hc⟩,λa e=>?_⟩;cases e;exact⟨o,I.nA _ o hk,hd⟩
  .have z:∃o,s.heap.get? p=Fa o/\o.ExactDict:=by
    rcases hk with⟨kvs,hk⟩|⟨kvs,hk⟩
    .obtain⟨_,_,_,_,o,_,_,e,ex,_⟩:=I.m9 p _ hk;exact⟨o,e,ex⟩
    .obtain⟨_,_,_,_,o,_,_,e,ex,_⟩:=I.m9 p _ hk;exact⟨o,e,ex⟩
   obtain⟨o,e,ex⟩:=z;refine⟨⟨o,e,ex.1⟩,λa e2=>?_⟩;cases e2;exact⟨o,e,ex.2.1⟩
  .obtain⟨o,_,_,_,e,ex,_⟩:=I.m9 p _ hk;refine⟨⟨o,e,ex.1⟩,λa e2=>?_⟩;cases e2;exact⟨o,e,ex.2.1⟩
 | _=>exact False.elim ty
def Xy(K:qM)(T:String)(r:V->T0 V->Hp->VK->Prop)(to:TE)(t:TA):TE:=λY H Q=>to Y H λx H1=>WO K T x H1/\t Y H1 λxs H2=>r x xs H2 Q
def Ve(pa:PlainAttrs T)(slot:Slot T name id)(hty:typeOf (.builtin id)=pure (.type "method_descriptor"))(hm:Xc X id r)(ho:PE X o to)(ha:PA X (e::es) t) (X5:Rs o name X.env (wp o X.env)=wp o X.env:=by rfl)
  (Yr:((wv XY (Tl (e::es) X.env)).all (λx=>!x.1)&&(TD XY (Op [] X.env)).all (λx=>x.1.isSome)
   &&decide ((e::es).length+([]:T0 IN).length+(if ([]:T0 IN).isEmpty then 0 else 1)<30))=pc:=by rfl)
  (Yf:(XS.endLine==XY.line)=pc:=by rfl) (hs:Bt X e es:=by rfl) (X0:Cg X XY es:=by rfl):
  PE X (.Call (.Attribute o name XS) (e::es) [] XY) (Xy X.K T r to t):=by
 intro XN s Y H Q I h;refine j8 X5 Yr Yf Z' (sZ (ho XN s Y H _ I h) λv s1 zz=>?_);obtain⟨x,H1,I1,r1,ty,q1⟩:=zz;obtain⟨h1,h2⟩:=S6 I1 r1 ty;refine⟨T,id,pa,slot,hty,h1,h2,?_⟩;have hA:=ha XY XN s1 Y H1 _ I1 q1;rw[hs]at hA ⊢;refine j9 (by show(lf||(wv XY (Tl es X.env)).any (·.1))=lf;rw[X0]<;>rfl) (kz ?_);exact sZ hA λus s2 zz=>x5 zz λvs H2 I2 r2 q2=>hm XN s2 Y H2 x vs v us Q I2 r1 r2 q2
end
def XG(X:Cx)(id:String)(r:V->T0 V->Hp->VK->Prop):Prop:=
 ∀(XN:QQY) (s:Sd) (Y:St) (H:Hp) (x:V) (xs:T0 V) (v:Vl) (us:T0 Vl) (Q:VK),Inv X XN Y H s->rb x v->qT xs us->r x xs H Q->
  pi (Tk X.prog X.w) X.A (call (.builtin id) (v::us)) (EP X XN Y Q) X.xe s
def qT.one:∀{x:V} {us:T0 Vl},qT [x] us->∃u,us=[u]/\rb x u
 | _,_,.cons r .nil=>⟨_,Z',r⟩
theorem qT.rep(h:qT xs us):∀k:Nat,qT (List.replicate k xs).flatten (List.replicate k us).flatten
 | 0=>.nil
 | k+1=>by rw[eJ,eJ,fS,fS];exact qT.append h (qT.rep h k)
theorem Ei(its:T0 Vl):∀(k:Nat) (acc:T0 Vl),List.foldl (λx1 x2=>x1++x2) acc.toArray (List.replicate k its.toArray)=(acc++(List.replicate k its).flatten).toArray
 | 0,acc=>by simp
 | k+1,acc=>by
  have e:acc.toArray++its.toArray=(acc++its).toArray:=by simp
  have e2:(acc++its)++(List.replicate k its).flatten=acc++(List.replicate (k+1) its).flatten:=by rw[eJ,fS,eM]
  rw[<-e2,<-Ei its k (acc++its),<-e,eJ,gh]
variable {XN:T0 (Uf × Obj)}{Y:St}{H:Hp}{s:Sd}{l:Uf}{xs ys zs:T0 V}
section
variable {b:Uf}
def Inv.lset{its its':T0 Vl}{n:Nat}{f:Array Vl->Array Vl}{t':Nat}(I:Inv X XN Y H s)(hH:H l=Fa (.lst xs)) (e:s.heap.get? l=Fa {cls:=.type "list",data:=.seq its.toArray n}) (hf:f its.toArray=its'.toArray) (hv:qT ys its') (hz:ys.length<=Ch):
  Inv X XN Y (upd H l (.lst ys)) {s with heap:=s.heap.update l (Obj.mapSeq f),toks:=t'}:=by
 have q:=PySem.IsL.update e f;rw[hf]at q;refine I.write (x:=l) (e:=l) (by rw[hH];exact trivial) (.inl Z') (λb' u hb hu=>(gj s.heap (Obj.mapSeq f) (dS hb)).trans hu) ⟨_,q⟩ ?_;exact⟨hz,its',_,hv,q⟩
def Inv.pD{t':Nat}(I:Inv X XN Y H s)(hv:qT ys its)(hz:ys.length<=Ch):
  Inv X XN Y (upd H s.heap.objs.size (.lst ys)) {s with heap:=s.heap.push {cls:=.type "list",data:=.seq its.toArray},toks:=t'}:=
 I.laid (λ_ _ q=>df _ q) (dw _) ⟨hz,its,0,hv,dN _ Z'⟩
def Inv.fresh(I:Inv X XN Y H s):H s.heap.objs.size=Db:=I.m9.fresh (dw _)
def Inv.pq(I:Inv X XN Y H s)(hH:H l=Fa (.lst xs)):xs.length<=Ch/\∃(its:T0 Vl) (n:Nat),qT xs its/\xs.length=its.length/\s.heap.get? l=Fa {cls:=.type "list",data:=.seq its.toArray n}:=by obtain⟨z,its,n,r,e⟩:=I.m9 l _ hH;exact⟨z,its,n,r,r.length,e⟩
def Ma{n:Nat}(h:n<=Ch):Builtin.List.listTooLong n=lf:=by unfold Builtin.List.listTooLong;exact eW (by lia)
end
def O2:V->T0 V->Hp->VK->Prop:=λx vs H Q=>∃l xs y,x=.ref l/\vs=[y]/\H l=Fa (.lst xs)/\xs.length<Ch/\Q .mY (upd H l (.lst (xs++[y])))
def KS:XG X "list.append" O2:=by intro XN s Y H x vs v us Q I rx rv h;obtain⟨l,xs,y,rfl,rfl,hH,hz,q⟩:=h;cases rx;obtain⟨u,rfl,ru⟩:=rv.one;obtain⟨z,its,n,r,hl,e⟩:=I.pq hH;refine iU F.slot_list_append ⟨_,e,Z'⟩ F.entry_list_append (F.args_list_append_2 _ _) (PySem.list_append l its.toArray n u (by rw[dB];lia)) ⟨e,?_⟩;refine⟨.mY,_,I.lset (its':=its++[u]) hH e (by simp) (r.append (.cons ru .nil)) ?_,Z',q⟩;rw[cZ,dQ];lia
def WD:R2:=λx y H Q=>∃l k xs,x=.ref l/\y=.int k/\H l=Fa (.lst xs)/\-(2 ^ 63)<=k/\k<2 ^ 63/\xs.length*k.toNat<=Ch/\
 ∀p,H p=Db->Q (.ref p) (upd H p (.lst (List.replicate k.toNat xs).flatten))
def PV{α:Type}(xs:List α)(k:Nat):(List.replicate k xs).flatten.length=k*xs.length:=by
 induction k with
 | zero=>simp
 | succ k ih=>rw[eJ,fS,cZ,ih,mJ,Nat.add_comm]
def Ui:yj X (wP .Mult) WD:=by
 intro XN s Y H x y v u Q I rx ry h;obtain⟨l,k,xs,rfl,rfl,hH,h1,h2,hz,q⟩:=h;cases rx;obtain⟨t,rfl⟩:=ry;obtain⟨z,its,n,r,hl,e⟩:=I.pq hH;have XW:its.toArray.size*k.toNat<=Ch:=by rw[dB,<-hl];exact hz
 have hcap:¬its.toArray.size*k.toNat>(2 ^ 63 - 1) / 8:=by
  have:(Ch:Nat)<=(2 ^ 63 - 1) / 8:=by decide
  lia
 have Ys:¬(!Builtin.List.listFitsIndex k)=pc:=by rw[fitsIndex_both h1 h2];exact dC
 have hlong:¬Builtin.List.listTooLong (its.toArray.size*k.toNat)=pc:=by rw[Ma XW];exact dC
 have Zx:List.foldl (λx1 x2=>x1++x2) #[] (List.replicate (if its.toArray.isEmpty=pc then 0 else k.toNat) its.toArray)=(List.replicate k.toNat its).flatten.toArray:=by
  have f0:∀m:Nat,List.foldl (λx1 x2=>x1++x2) #[] (List.replicate m its.toArray)=(List.replicate m its).flatten.toArray:=λm=>by have:=Ei its m [];rw[d6]at this;exact this
  rw[f0];cases its with
  | nil=>simp
  | cons a r'=>rw[de (by simp)]
 refine wpAny_binaryOp_repeat_ref (T:="list") (U:="int") (by decide) ⟨_,e,Z'⟩ (λs'=>my s' k t) noFill_list_mul F.fills_int_mul mz repeat_list F.slot_int_index.lookup
  (iU mz (my s k t) F.entry_int_rmul (F.args_int_rmul_2 _ _) (int___rmul___int_list k t l its.toArray n)
   ⟨e,Z',⟨_,e,Z'⟩,iU F.slot_list_mul ⟨_,e,Z'⟩ F.entry_list_mul (F.args_list_mul_2 _ _) (AutoListH.list___mul___list_int_3 l its.toArray n k t Ys hcap hlong) ⟨e,?_⟩⟩)
 rw[Zx];exact⟨.ref _,_,I.pD (t':=s.toks) (r.rep k.toNat) (by rw[PV,Nat.mul_comm];exact hz),Z',q _ I.fresh⟩
variable {prog:Pg}{w:Wo}{A:Ar}{E:QQX}
end L2
namespace Att
open PySem PySem.W PySem.Calls PyProof.Rows
def BB:∀(ns:T0 Int) (vs:T0 Vl),WellAll P h vs (ns.map WData.int)->IntsAre vs ns:=by
 intro ns;induction ns with
 | nil=>intro vs w;rw[iV]at w;cases w;exact .nil
 | cons n ns ih=>
  intro vs w;rw[dY]at w;cases w with
  | cons a b=>cases a;exact .cons _ _ (ih _ b)
def Kw{l:OpenLaw}{n:Nat}(hn:l.most=Fa n){P:Params}{h:No}{args:T0 WData}{vals:T0 Vl} (Z0:l.row.toRowW.claim.pre args=pc) (Z1:WellAll P h vals args):
  ∃a vs ns,vals=[Value.ref a]/\args=[WData.list (ns.map WData.int)]/\h.get? a=Fa {cls:=.type "list",data:=.seq vs.toArray}/\IntsAre vs ns/\ns.length<=n:=by
 have hsh:WShape.hasAll [] args [.list .int]=pc:=(pre_splitW Z0).1;have hc:l.pre.holds [] {args:=args}=pc:=(pre_splitW Z0).2;obtain⟨d,r,rfl,h1,h2⟩:=hasAllW_cons hsh;obtain rfl:=hasAllW_nil h2;obtain⟨xs,rfl,h3⟩:=hasW_list h1;obtain⟨ns,rfl⟩:=items_int h3;have XW:ns.length<=n:=by
  unfold OpenLaw.pre at hc;have h4:(WTm.not (.lt (.lit (.int (n:Int))) (.len (.arg 0)))).holds [] {args:=[.list (ns.map .int)]}=pc:=by have h4:=(holds_andW hc).1;rw[hn]at h4;exact h4
  have h5:=condW_of h4 (w_not (w_lt w_lit (w_len_list (w_arg Z'))));rw[cW]at h5;refine Nat.le_of_not_lt λq=>?_;have q':(n:Int)<((ns.length:Nat):Int):=by lia
  first
   | (rw[dX q']at h5;exact absurd h5 (by decide))
   | (simp at h5;lia)
 cases Z1 with
 | cons w1 w2=>
  cases w2;cases w1 with
  | list ho Yy=>exact⟨_,_,ns,Z',Z',ho,BB ns _ Yy,XW⟩
def KB(l:OpenLaw)(args:T0 WData):l.row.toRowW.claim.post args (.bool pc) args=pc:=
 postW_of (r:=l.row.toRowW) (X:=(pc==pc))
  (show WShape.has [] (.bool pc) .bool=pc by first|rfl|decide|simp[WShape.has,WShape.arms,WShape.armsAll])
  (show(WTm.eq .res (.lit (.bool pc))).value [] {args:=args,res:=some (.bool pc),after:=args}=Fa (.bool (pc==pc))from w_eq_bool (w_res Z') w_lit) Z'
def attach_call{l:OpenLaw}{n:Nat}{YP:Wo->No->Prop}{d:DefRec} (hn:l.most=Fa n) (hdf:d.params.defaults=[]) (call:∀(w:Wo) (s₀ s₁:Sd) (mg mb:QQZ) (fa:Uf) (o:Obj) (pm cd Yv:Vl) (a:Uf) (vs:T0 Vl) (ns:T0 Int),Ground q YE [] XP w s₀ mg mb s₁.heap->YP w s₁.heap->
   s₁.heap.get? fa=Fa o->o.data=.func (docDef d.name d.params d.body d.scope pm cd Yv)->s₁.heap.CodeRec cd d.name->mg d.name=Fa (.ref fa)->
   s₁.heap.get? a=Fa {cls:=.type "list",data:=.seq vs.toArray}->IntsAre vs ns->ns.length<=n->s₁.gens=#[]->
   XXi (Tk l.prog w) callerA (.call (.ref fa) ⟨[.ref a],[]⟩) (λr s'=>r=.ok (.ret (.bool pc))/\OldK s₁.heap s'.heap/\s'.os=s₁.os/\XXk s'.gens) s₁):
  WalkO q YE XP YP l.row.toRowW d [] (λf vs=>PySem.call f vs):=by
 intro w s₀ s₁ mg mb G Y fa o pm cd Yv dV kV ho hd YR hD hmg hg args vals as Z0 hlay hrd Z1 hlo;obtain rfl:dV=.none:=Dflts.none hD hdf;obtain rfl:kV=.none:=Dflts.noKw hD;obtain⟨a,vs,ns,rfl,rfl,hobj,Zy,XW⟩:=Kw hn Z0 Z1;refine enter_call (gy (call w s₀ s₁ mg mb fa o pm cd Yv a vs ns G Y ho (fd_plain hd) YR hmg hobj Zy XW hg) λr s' hq=>?_);obtain⟨rfl,h2,h3,h4⟩:=hq;exact⟨.inl ⟨.bool pc,.bool pc,[],Z',λ_=>rfl,.bool pc,KB l _,λ_=>⟨List.Pairwise.nil,λ_ hm=>(nomatch hm)⟩⟩,h2,h3,h4⟩
variable {prog:Pg}{w:Wo}{A:Ar}{E:QQX}{s:Sd}{K:Frag}
end Att
namespace L2
theorem Ek:∀{vs:T0 Vl} {ns:T0 Int},IntsAre vs ns->qT (ns.map V.int) vs
 | _,_,.nil=>.nil
 | _,_,.cons n t h=>.cons ⟨t,Z'⟩ (Ek h)
def Oj(H:Hp):Prop:=∀b,H b=Db\/∃o xs,H b=Fa (.frz o (.lst xs))
def MF{P:Pg}{w:Wo}{K:qM}{mg mb:QQZ}{CX:Lo}{fa a:Uf}{fd:sB}{x:Str}{sp:Sp}{s₁:Sd}{vs:T0 Vl} (KX:K.In s₁.heap) (hns:s₁.heap.Ns xz mg) (hb:s₁.heap.Ns builtinsNs mb) (hbb:∀x:Str,x≠"__name__"->mb x=zn x) (hlim:s₁.heap.NoLimit) (hg:s₁.gens=#[]) (ha:s₁.heap.get? a=Fa {cls:=.type "list",data:=.seq vs.toArray}) (hi:IntsAre vs ns) (hl:ns.length<=Ch) (hr:sJ k callerA)
  (F:∀base:No,K.In base->base.Ns xz mg->xP P w K mg base CX k fa fd [x] sp) (hbind:∀(s:Sd) (u:Vl),BindsTo s fd ⟨[u],[]⟩ [(x,u)])
  (Zk:∀H:Hp,Oj H->zJ K H a (ns.map V.int)->sp [.ref a] H (λv _=>v=.bl pc) λ_ _ _=>False)
  (hCX:∀H e s',CX [] H s₁ (λ_ _ _=>False) e s'->False):
  XXi (Tk P w) callerA (.call (.ref fa) ⟨[.ref a],[]⟩) (λr s'=>r=.ok (.ret (.bool pc))/\OldK s₁.heap s'.heap/\s'.os=s₁.os/\XXk s'.gens) s₁:=by
 have rv:=Ek hi;have lenV:=hi.length;have core:∀H:Hp,Oj H->zJ K H a (ns.map V.int)->yV P w H s₁.heap->(∀b,H b≠Db->b=a)->(H a≠Db->K.lookup a=Db)->
   XXi (Tk P w) callerA (.call (.ref fa) ⟨[.ref a],[]⟩) (λr s'=>r=.ok (.ret (.bool pc))/\OldK s₁.heap s'.heap/\s'.os=s₁.os/\XXk s'.gens) s₁:=by
  intro H hO hS m9 hA hK;have Zd:∀{b:Uf} {o:Obj},s₁.heap.get? b=Fa o->H b=Db->(E8 s₁.heap H).get? b=Fa o:=λe n=>MR e n;have noA:∀{b:Uf} {o:Obj} {es:Array DictEntry} {ep:Nat},s₁.heap.get? b=Fa o->o.data=.dict es ep->H b=Db:=λ{b o es ep} e d=>by
   cases q:H b with
   | none=>rfl
   | some u=>have e':b=a:=hA b (by rw[q];simp);subst e';rw[ha]at e;cases e;have d':Data.seq vs.toArray _=Data.dict es ep:=d;cases d'
  have nsK:∀{b:Uf} {m:QQZ},s₁.heap.Ns b m->(E8 s₁.heap H).Ns b m:=λ{b m} ⟨o,es,ep,e,d,r⟩=>⟨o,es,ep,Zd e (noA e d),d,r⟩;have hKb:K.In (E8 s₁.heap H):=λb o e=>Zd (KX b o e) (by
   cases q:H b with
   | none=>rfl
   | some u=>
    have e':b=a:=hA b (by rw[q];simp);subst e';rw[hK (by rw[q];simp)]at e;cases e)
  have hM:Mod K mg (E8 s₁.heap H):=⟨hKb,nsK hns,⟨mb,nsK hb,hbb⟩,let⟨mc,h1,h2⟩:=hlim;⟨mc,nsK h1,h2⟩⟩;have e0:Ij P w K mg (E8 s₁.heap H) callerA [] s₁ H:=⟨Z',hM,λb o e=>Rf e,mI (Kx _ _),trivial,λb hb=>absurd (show b∈([]:QXQ)from hb) (by simp),m9,.of_eq hg⟩;refine gy ((F _ hKb (nsK hns)).run callerA [] s₁ H ⟨[.ref a],[]⟩ [.ref a] [.ref a] _ _ hr e0 (hbind s₁ (.ref a)) (.cons Z' .nil) (Zk H hO hS)) λr s' h=>?_;cases r with
  | error e=>exact(hCX H e s' h).elim
  | ok fl=>
   cases fl with
   | next=>exact False.elim h
   | brk=>exact False.elim h
   | cont=>exact False.elim h
   | ret u=>
    obtain⟨v,H',os,bare,un,hok',r',q⟩:=h;have q':v=.bl pc:=q;subst q';obtain rfl:u=Value.bool pc:=r';refine⟨Z',OldK.of_keep λb o e=>?_,os,bare⟩;cases q:H b with
    | none=>exact un.keep b o e q (by intro z;exact absurd (show b∈([]:QXQ)from z) (by simp)) (by simp)
    | some u=>
     rcases hO b with z|⟨ob,xs,z⟩
     .rw[q]at z;cases z
     .have z2:=un.nJ b ob _ z;obtain⟨e1,_⟩:=m9 b _ z;obtain⟨e2,_⟩:=hok' b _ z2;rw[e]at e1;cases e1;exact e2
 cases hk:K.lookup a with
 | some o=>have e:=KX a o hk;rw[ha]at e;cases e;refine core (λ_=>Db) (λ_=>.inl Z') (.inr ⟨_,vs.toArray,_,hk,Z',Z',Z',by rw[dB,lenV];exact hl,by simpa using rv⟩) (λb u z=>by have z':(Db:Option HO)=Fa u:=z;cases z') (λb z=>absurd Z' z) λz=>absurd Z' z
 | none=>
  refine core (λb=>if b=a then Fa (.frz {cls:=.type "list",data:=.seq vs.toArray} (.lst (ns.map V.int)))else Db) (λb=>?_) (.inl (.inr ⟨{cls:=.type "list",data:=.seq vs.toArray},dg Z'⟩)) (λb u z=>?_) (λb z=>?_) λ_=>hk
  .by_cases hb:b=a
   .exact .inr ⟨_,_,dg hb⟩
   .exact .inl (de hb)
  .by_cases hb:b=a
   .have z':=(dg hb).symm.trans z;cases z';subst hb;exact⟨ha,by rw[cW];exact hl,vs,_,rv,ha⟩
   .have z':=(de hb).symm.trans z;cases z'
  .by_cases hb:b=a
   .exact hb
   .exact absurd (de hb) z
def PZ{l:W.OpenLaw}{n k:Nat}{q:Pg}{YE:QQQ}{XP:(QQZ)->No->Prop}{YP:Wo->No->Prop}{d:DefRec}{K:Params->qM}{CX:Wo->Lo}{sp:Wo->Sp}{x:Str} (hn:l.most=Fa n) (hn2:n<=Ch) (hdf:d.params.defaults=[]) (hr:sJ k callerA) (hY:∀(w:Wo) (h:No),YP w h->(K w.params).In h) (F:∀(w:Wo) (mg:QQZ) (fa:Uf) (h:No),(K w.params).In h->h.Ns xz mg->mg d.name=Fa (.ref fa)->
   ∃fd:sB,(∀(s:Sd) (u:Vl),BindsTo s fd ⟨[u],[]⟩ [(x,u)])/\
    ∀base:No,(K w.params).In base->base.Ns xz mg->xP l.prog w (K w.params) mg base (CX w) k fa fd [x] (sp w))
  (Zk:∀(w:Wo) (H:Hp) (a:Uf) (ns:T0 Int),ns.length<=n->Oj H->zJ (K w.params) H a (ns.map V.int)->sp w [.ref a] H (λv _=>v=.bl pc) λ_ _ _=>False)
  (hCX:∀(w:Wo) (H:Hp) (s:Sd) (e:Vl) (s':Sd),CX w [] H s (λ_ _ _=>False) e s'->False):
  W.WalkO q YE XP YP l.row.toRowW d [] (λf vs=>PySem.call f vs):=by
 refine Att.attach_call hn hdf λw s₀ s₁ mg mb fa o pm cd Yv a vs ns G Y ho hd YR hmg hobj Zy XW hg=>?_;have KX:=hY w _ Y;obtain⟨fd,hb,hF⟩:=F w mg fa _ KX G.T.g hmg;exact MF KX G.T.g G.T.b G.T.builtins G.T.nolimit hg hobj Zy (d9 XW hn2) hr hF hb (λH hO hS=>Zk w H a ns XW hO hS) λH e s'=>hCX w H s₁ e s'
noncomputable def Pv(s:sK)(j:Nat):sK:=match s with
 | .ClassDef _ _ _ body _ _ _ _ _ _ _=>body.getD j (.Pass ⟨0,0,0,0⟩)
 | _=>.Pass ⟨0,0,0,0⟩
noncomputable def uT(s:sK):Arguments:=match s with
 | .FunctionDef _ a _ _ _ _ _ _ _ _=>a
 | _=>{posonlyargs:=[],args:=[],vararg:=none,kwonlyargs:=[],kw_defaults:=[],kwarg:=none,defaults:=[]}
noncomputable def su(s:sK):T0 sK:=match s with
 | .FunctionDef _ _ b _ _ _ _ _ _ _=>b
 | _=>[]
noncomputable def qz(s:sK):XXd:=match s with
 | .FunctionDef _ _ _ _ _ _ sc _ _ _=>sc
 | _=>{kind:=.function,names:=[],isGenerator:=false,isCoroutine:=false}
abbrev OF:Lo:=λ_ _ _ _ _ _=>False
abbrev E0:XK:=λ_ _ _=>False
def GY:Dj OF X E0:=λ_ _ _ _ _ _ _ h=>h.elim
structure Pz(K:qM)(x qual:Str)(st:sK)(f:Uf)(fd:sB):Prop where
 ex:∃(oc:Vl) (od:Option Uf) (kV Yv pm:Vl) (an:Option Uf) (X2 ct:Vl) (YD:Array (Option Vl)),
  fd=W.fnOf x qual (uT st) (su st) (qz st) .none kV Yv pm an X2 ct/\K.lookup f=Fa ⟨oc,od,.func fd,YD⟩/\W.codeIn K X2 qual=pc
 kp:W.keepIn K (.ref f)=pc
variable {P:Pg}{K:qM}{mg:QQZ}{base:No}
section
variable {w:Wo}
def Pz.ok{st:sK}{sp:Sp}(F:Pz K x qual st f fd)(S:tT N ps (qz st))(len:∀vs H Q E,sp vs H Q E->vs.length=ps.length) (Ye:∀(X2:Vl) (A:Ar) (outer:T0 Env) (s:Sd) (H:Hp) (vs:T0 V) (Q:VK) (E:XK),sJ k (A.deeper (dL qual (qz st) s.heap.objs.size f X2))->sp vs H Q E->
   ∃t,Cq (vW OF P w K mg base N qual (qz st) f X2 A outer s H E).oQ (su st) t/\t {nx:=λ_ H'=>Q .mY H',rt:=Q} (start N vs) H):xP P w K mg base OF (k+1) f fd ps sp:=by
 obtain⟨oc,od,kV,Yv,pm,an,X2,ct,YD,rfl,lk,YR⟩:=F.ex;refine MS lk YR S len λA outer s H vs Q E hr Zk=>?_;obtain⟨t,h,q⟩:=Ye X2 A outer s H vs Q E hr Zk;exact⟨t,h.oQ,q⟩
def Pz.binds{st:sK}{ps:QQQ}(F:Pz K x qual st f fd) (h:∀(kV Yv pm:Vl) (an:Option Uf) (X2 ct:Vl) (us:T0 Vl),us.length=ps.length->bindArgs (W.fnOf x qual (uT st) (su st) (qz st) .none kV Yv pm an X2 ct) ⟨us,[]⟩=pure (ps.zip us)):vt K fd ps []:=by
 obtain⟨oc,od,kV,Yv,pm,an,X2,ct,YD,rfl,lk,YR⟩:=F.ex;exact .all (h kV Yv pm an X2 ct)
def LD{st:sK}{oc:Vl}{od an:Option Uf}{YD:Array (Option Vl)}{kV Yv pm X2 ct:Vl}(l:K.lookup f=Fa ⟨oc,od,.func (W.fnOf x qual (uT st) (su st) (qz st) .none kV Yv pm an X2 ct),YD⟩) (c:W.codeIn K X2 qual=pc) (k:W.keepIn K (.ref f)=pc):Pz K x qual st f (W.fnOf x qual (uT st) (su st) (qz st) .none kV Yv pm an X2 ct):=⟨⟨oc,od,kV,Yv,pm,an,X2,ct,YD,Z',l,c⟩,k⟩
end
variable {X:Cx}
def pv(i:Nat){x:Str}{pos:Pos}(hN:X.N[i]?=Fa x:=by rfl)(hv:SX X.env.scope x:=by first|exact Or.inl Z'|exact Or.inr (Or.inl Z')|exact Or.inr (Or.inr Z'))(hd:zm x:=by decide)
  (YR:(x==("__classdict__":Str))=lf:=by decide):PE X (.Name x pos) (Gi i):=Ov hN hv hd YR
def O8{A B:Prop}(h:B):if lf=pc then A else B:=by rw[de dC];exact h
def LG{A B:Prop}(h:A):if pc=pc then A else B:=by rw[dg Z'];exact h
def qU{c A B:Prop}[Decidable c](h1:c->A)(h2:¬c->B):if c then A else B:=by
 by_cases h:c
 .rw[dg h];exact h1 h
 .rw[de h];exact h2 h
def Qg(H H':Hp):Prop:=∀b o,H b=Fa o->H' b=Fa o
def Qg.trans(a:Qg H H1)(b:Qg H1 H2):Qg H H2:=λc o h=>b c o (a c o h)
section
variable {κ:Type}[DecidableEq κ]
noncomputable def xy(kvs:T0 (κ×V))(k:κ):Option V:=(kvs.find? λkv=>decide (kv.1=k)).map (·.2)
noncomputable def zd(kvs:T0 (κ×V))(k:κ)(v:V):T0 (κ×V):=
 if (kvs.any λkv=>decide (kv.1=k))=pc then kvs.map (λkv=>if kv.1=k then(kv.1,v)else kv)else kvs++[(k,v)]
def C0{p:κ×V}{r:T0 (κ×V)}{k:κ}(e:p.1=k):xy (p::r) k=Fa p.2:=by simp[xy,fM,e]
def CV{p:κ×V}{r:T0 (κ×V)}{k:κ}(e:¬p.1=k):xy (p::r) k=xy r k:=by simp[xy,fM,e]
theorem GJ(k:κ):∀kvs:T0 (κ×V),(kvs.any λkv=>decide (kv.1=k))=(xy kvs k).isSome
 | []=>rfl
 | p::r=>by
  rw[gk];by_cases e:p.1=k
  .simp only[C0 e,dX e,ig,Option.isSome_some]
  .rw[CV e,eW e,fQ];exact GJ k r
def Bg(kvs:T0 (κ×V))(k:κ)(v:V):(zd kvs k v).length<=kvs.length+1:=by
 unfold zd;split
 .rw[cW];lia
 .rw[cZ,eB,dJ];lia
def yW.nN(r:yW o u):o.isSome=u.isSome:=by
 cases o with
 | none=>cases u with
  | none=>rfl
  | some _=>exact(show False from r).elim
 | some _=>cases u with
  | none=>exact(show False from r).elim
  | some _=>rfl
def KV.val(r:KV kvs vs)(k:κ):yW (xy kvs k) (valueAt vs k):=by
 unfold KV at r;induction r with
 | nil=>exact True.intro
 | @cons p q ps qs h t ih=>
  obtain⟨h1,h2⟩:=h;by_cases e:p.1=k
  .have e':q.1=k:=h1.symm.trans e;have b:valueAt (q::qs) k=Fa q.2:=by simp[valueAt,fM,e']
   rw[C0 e,b];exact h2
  .have e':¬q.1=k:=λz=>e (h1.trans z);have b:valueAt (q::qs) k=valueAt qs k:=by simp[valueAt,fM,e']
   rw[CV e,b];exact ih
def KV.any(r:KV kvs vs)(k:κ):(kvs.any λkv=>decide (kv.1=k))=vs.any λkv=>decide (kv.1=k):=by
 unfold KV at r;induction r with
 | nil=>rfl
 | cons h t ih=>rw[gk,gk,ih,h.1]
def KV.oR(r:KV kvs vs)(k:κ){y:V}{u:Vl}(ry:rb y u):
  KV (kvs.map λkv=>if kv.1=k then(kv.1,y)else kv) (vs.map λkv=>if kv.1=k then(kv.1,u)else kv):=by
 unfold KV at r ⊢;induction r with
 | nil=>exact .nil
 | @cons p q ps qs h t ih=>
  rw[dY,dY];refine .cons ?_ ih;obtain⟨h1,h2⟩:=h;by_cases e:p.1=k
  .rw[dg e,dg (h1.symm.trans e)];exact⟨h1,ry⟩
  .rw[de e,de (λz=>e (h1.trans z))];exact⟨h1,h2⟩
def KV.put(r:KV kvs vs)(k:κ){y:V}{u:Vl}(ry:rb y u):KV (zd kvs k y) (stored vs k u):=by
 unfold zd stored;rw[r.any k];by_cases e:(vs.any λkv=>decide (kv.1=k))=pc
 .rw[dg e,dg e];exact r.oR k ry
 .rw[de e,de e];exact mP r ⟨Z',ry⟩
def KV.length(r:KV kvs vs):kvs.length=vs.length:=jt r
end
def GZ(r:rb (kV k) u):(rY P w).is k u=pc:=by
 cases k with
 | inl i=>obtain⟨t,e⟩:=(show ∃t,u=Value.int i t from r);subst e;exact G2 P w i t
 | inr x=>obtain⟨t,e⟩:=(show ∃t,u=Value.str x t from r);subst e;exact Bj P w x t
theorem EJ:∀{ks:List rP} {us:T0 Vl},qT (ks.map kV) us->ItemsAre (rY P w) ks us
 | [],_,r=>by rw[iV]at r;cases r;exact .nil
 | k::ks,_,r=>by
  rw[dY]at r;cases r with
  | cons h t=>exact .cons (GZ h) (EJ t)
abbrev KT(H:Hp):T0 (List rP×V)->T0 (List rP×Uf×Vl)->Prop:=Paired λp q=>p.1=q.1/\H q.2.1=Fa (.tup (p.1.map kV))/\rb p.2 q.2.2
def KT.val(r:KT H kvs xs)(k:List rP):yW (xy kvs k) ((atKey xs k).map (·.2)):=by
 induction r with
 | nil=>exact True.intro
 | @cons p q ps qs h t ih=>
  obtain⟨h1,_,h2⟩:=h;by_cases e:p.1=k
  .have e':q.1=k:=h1.symm.trans e;have b:atKey (q::qs) k=Fa q.2:=by simp[atKey,fM,e']
   rw[C0 e,b];exact h2
  .have e':¬q.1=k:=λz=>e (h1.trans z);have b:atKey (q::qs) k=atKey qs k:=by simp[atKey,fM,e']
   rw[CV e,b];exact ih
def KT.oR(r:KT H kvs xs)(k:List rP){y:V}{u:Vl}(ry:rb y u):
  KT H (kvs.map λkv=>if kv.1=k then(kv.1,y)else kv) (xs.map (putAt k u)):=by
 induction r with
 | nil=>exact .nil
 | @cons p q ps qs h t ih=>
  rw[dY,dY];refine .cons ?_ ih;obtain⟨h1,h2,h3⟩:=h;unfold putAt;by_cases e:p.1=k
  .rw[dg e,dg (h1.symm.trans e)];exact⟨h1,h2,ry⟩
  .rw[de e,de (λz=>e (h1.trans z))];exact⟨h1,h2,h3⟩
def KT.put(r:KT H kvs xs)(k:List rP){b:Uf}{y:V}{u:Vl}(hb:H b=Fa (.tup (k.map kV)))(ry:rb y u):
  KT H (zd kvs k y) (storedH xs k b u):=by
 have e:(kvs.any λkv=>decide (kv.1=k))=(atKey xs k).isSome:=by rw[GJ,(r.val k).nN,jx]
 unfold zd storedH;rw[e];by_cases q:(atKey xs k).isSome=pc
 .rw[dg q,dg q];exact r.oR k ry
 .rw[de q,de q];exact mP r ⟨Z',hb,ry⟩
def KT.keeps{H H':Hp}(r:KT H kvs xs)(ht:∀b ys,H b=Fa (.tup ys)->H' b=Fa (.tup ys)):KT H' kvs xs:=
 Paired.oP r λ_ _ z=>⟨z.1,ht _ _ z.2.1,z.2.2⟩
variable {H:Hp}{h:No}{a:Uf}
section
variable {w:Wo}
def Ro(ok:yV P w H h)(e:Rd H a u):sV P w H h a u:=e.ok ok
def J5{kvs:T0 (rP×V)}(ok:yV P w H h)(e:Rd H a (.dK kvs)):kvs.length<=Ch/\(a==XV)=lf/\∃vs,KV kvs vs/\h.DictOf (rY P w) a vs:=
 show sV P w H h a (.dK kvs)from Ro ok e
def UJ{kvs:T0 (rP×V)}(ok:yV P w H h)(e:H a=Fa (.dK kvs)):kvs.length<=Ch/\(a==XV)=lf/\∃vs,KV kvs vs/\h.DictOf (rY P w) a vs:=J5 ok (.inl e)
def Ff{ks:List rP}(ok:yV P w H h)(e:H a=Fa (.tup (ks.map kV))):(tupleKind (rY P w)).is h ks a:=by obtain⟨_,its,r,o,h1,h2,⟨n,h3⟩,_⟩:=(show sV P w H h a (.tup (ks.map kV))from ok a _ e);exact⟨o,its.toArray,n,h1,h2,h3,by simpa using EJ r⟩
def JN{kvs:T0 (List rP×V)}(ok:yV P w H h)(e:Rd H a (.dT kvs)):kvs.length<=Ch/\(a==XV)=lf/\
  ∃xs,KT H kvs xs/\h.DictOfH (tupleKind (rY P w)) a xs:=by
 obtain⟨z,y,xs,r,o,es,ep,h1,h2,h3,h4,h5⟩:=(show sV P w H h a (.dT kvs)from Ro ok e);refine⟨z,y,xs,r,o,es,ep,h1,h2,h3,h4,λx hx=>?_,h5⟩;have all:∀{l:T0 (List rP×V)} {m:T0 (List rP×Uf×Vl)},KT H l m->∀x∈m,(tupleKind (rY P w)).is h x.1 x.2.1:=by
  intro l m q;induction q with
  | nil=>intro x hx;exact nomatch hx
  | @cons p q ps qs hq t ih=>
   intro x hx;rcases dh.mp hx with e|hx
   .subst e;exact Ff ok (by rw[<-hq.1];exact hq.2.1)
   .exact ih x hx
 exact all r x hx
def VT{kvs:T0 (List rP×V)}(ok:yV P w H h)(e:H a=Fa (.dT kvs)):kvs.length<=Ch/\(a==XV)=lf/\
  ∃xs,KT H kvs xs/\h.DictOfH (tupleKind (rY P w)) a xs:=JN ok (.inl e)
end
def Fg(H:Hp)(a:Uf)(y:V)(r:Option V):Prop:=
 (∃kvs k,Rd H a (.dK kvs)/\y=kV k/\r=xy kvs k)\/∃kvs k b,Rd H a (.dT kvs)/\y=.ref b/\H b=Fa (.tup (k.map kV))/\r=xy kvs k
def Oh(H:Hp)(a:Uf)(y v:V)(H':Hp):Prop:=
 (∃kvs k,H a=Fa (.dK kvs)/\y=kV k/\kvs.length<Ch/\H'=upd H a (.dK (zd kvs k v)))\/
 ∃kvs k b,H a=Fa (.dT kvs)/\y=.ref b/\H b=Fa (.tup (k.map kV))/\kvs.length<Ch/\H'=upd H a (.dT (zd kvs k v))
def Fg.k{H:Hp}{a:Uf}{kvs:T0 (rP×V)}{k:rP}(e:H a=Fa (.dK kvs)):Fg H a (kV k) (xy kvs k):=.inl ⟨kvs,k,.inl e,Z',Z'⟩
def Oh.k{H:Hp}{a:Uf}{kvs:T0 (rP×V)}{k:rP}(e:H a=Fa (.dK kvs))(hl:kvs.length<Ch):Oh H a (kV k) v (upd H a (.dK (zd kvs k v))):=.inl ⟨kvs,k,e,Z',hl,Z'⟩
variable {XN:T0 (Uf × Obj)}{Y:St}{y v:V}{u r:Vl}
section
variable {s:Sd}{o:Option V}{A:Ar}{E:QQX}
def Inv.big(I:Inv X XN Y H s):XV<s.heap.objs.size:=by have h:xz<s.heap.objs.size:=(I.mod.glob.keeps I.bk).lt;exact jN (by decide) h
def KO{Q:QQX}(hu:A.units+1<Y')(I:Inv X XN Y H s)(g:Fg H a y (Fa v))(ry:rb y u)(h:∀w' s',Inv X XN Y H s'->rb v w'->Q w' s'):
  pi (Tk X.prog X.w) A (XXe (.ref a) u) Q E s:=by
 rcases g with⟨kvs,k,e,ey,l⟩|⟨kvs,k,b,e,ey,eb,l⟩
 .subst ey;obtain⟨z,hd,vs,Y4,dd⟩:=J5 I.m9 e;obtain⟨w',hw,YZ⟩:=yW.some_of (v:=v) (o:=valueAt vs k) (by rw[l];exact Y4.val k);exact wpAny_getItem_of (GZ ry) dd.mapOf hw (h w' _ (I.tok _) YZ)
 .subst ey;cases(show u=Value.ref b from ry);obtain⟨z,hd,xs,Y4,dd⟩:=JN I.m9 e;obtain⟨w',hw,YZ⟩:=yW.some_of (v:=v) (o:=(atKey xs k).map (·.2)) (by rw[l];exact Y4.val k);obtain⟨p,hp,X4⟩:=iK.mp hw;refine wpAny_getItem_heap (jp hu) (Ff I.m9 eb) dd hp ?_;rw[X4];exact h w' _ (I.tok _) YZ
def WH{Q:QQX}(hu:A.units+1<Y')(I:Inv X XN Y H s)(g:Fg H a y o)(ry:rb y u)(h:∀s',Inv X XN Y H s'->Q (.bool o.isSome) s'):
  pi (Tk X.prog X.w) A (Ps .In u (.ref a)) Q E s:=by
 rcases g with⟨kvs,k,e,ey,l⟩|⟨kvs,k,b,e,ey,eb,l⟩
 .subst ey;obtain⟨z,hd,vs,Y4,dd⟩:=J5 I.m9 e;refine wpAny_in_of (GZ ry) hd dd.mapOf ?_;rw[<-(Y4.val k).nN,<-l];exact h _ (I.tok _)
 .subst ey;cases(show u=Value.ref b from ry);obtain⟨z,hd,xs,Y4,dd⟩:=JN I.m9 e;refine wpAny_in_heap (jp hu) (Ff I.m9 eb) hd dd ?_;have q:=(Y4.val k).nN;rw[jx]at q;rw[<-q,<-l];exact h _ (I.tok _)
def J7{t':Nat}(I:Inv X XN Y H s)(mu:VL (H a))(hs:Heap.SameBut a s.heap h')(he:∃q,h'.get? a=Fa q)(new:sV X.prog X.w (upd H a ob) h' a ob):
  Inv X XN Y (upd H a ob) {s with heap:=h',toks:=t'}:=
 I.write (x:=a) (e:=a) mu (.inl Z') (λb q hb z=>(hs.2 b hb).trans z) he new
def Nb{H':Hp}{h':No}{kvs:T0 (rP×V)}(z:kvs.length<=Ch)(hd:(a==XV)=lf)(Y4:KV kvs vs)(dd:h'.DictOf (rY P w) a vs):
  sV P w H' h' a (.dK kvs):=⟨z,hd,vs,Y4,dd⟩
def Kg{Q:Unit->Sd->Prop}(hu:A.units+1<Y')(I:Inv X XN Y H s)(g:Oh H a y v H')(ry:rb y u)(rv:rb v r)(h:∀s',Inv X XN Y H' s'->Q () s'):
  pi (Tk X.prog X.w) A (setItem (.ref a) u r) Q E s:=by
 rcases g with⟨kvs,k,e,ey,l,eH⟩|⟨kvs,k,b,e,ey,eb,l,eH⟩
 .subst ey eH;obtain⟨z,hd,vs,Y4,dd⟩:=UJ I.m9 e;have hz:vs.length<=Ch:=by rw[<-Y4.length];exact z
  have hl:(zd kvs k v).length<=Ch:=by have:=Bg kvs k v;lia
  refine wpAny_setItem_pairs (hsz:=hz) (GZ ry) dd λh' dd' hs=>h _ ?_;have he:∃q,h'.get? a=Fa q:=let⟨q,_,_,hq,_⟩:=dd';⟨q,hq⟩;exact J7 I (by rw[e];exact True.intro) hs he (Nb hl hd (Y4.put k rv) dd')
 .subst ey eH;cases(show u=Value.ref b from ry);obtain⟨z,hd,xs,Y4,dd⟩:=VT I.m9 e;have hz:xs.length<=Ch:=by rw[<-jt Y4];exact z
  have hl:(zd kvs k v).length<=Ch:=by have:=Bg kvs k v;lia
  refine wpAny_setItem_heap (hsz:=hz) (jp hu) (Ff I.m9 eb) dd λh' dd' hs=>h _ ?_;obtain⟨q,es,ep,hq,h2,h3,h4,_,h5⟩:=dd';refine J7 I (by rw[e];exact True.intro) hs ⟨q,hq⟩ ⟨hl,hd,_,(Y4.put k eb rv).keeps λc ys ec=>?_,q,es,ep,hq,h2,h3,h4,h5⟩;rw[qw (Uw ec e (λz=>nomatch z))];exact ec
end
variable {kvs:T0 (rP × V)}{k:rP}
section
variable {s:Sd}{A:Ar}{E:QQX}
end
def GF{XN:QQY}(I:Inv X XN Y H s)(g:Fg H a y o):s.TypeIs (.ref a) "dict":=by
 rcases g with⟨kvs,k,e,_,_⟩|⟨kvs,k,b,e,_,_,_⟩
 .obtain⟨_,_,vs,_,dd⟩:=J5 I.m9 e;exact dd.typeIs
 .obtain⟨_,_,xs,_,dd⟩:=JN I.m9 e;exact dd.typeIs
def Vc(td ty tv:TE):TS:=λD Y H=>tv Y H λv H1=>td Y H1 λx H2=>ty Y H2 λy H3=>∃a H4,x=.ref a/\Oh H3 a y v H4/\D.nx Y H4
variable {i e value:Go}{pos X1 ZZ:Pos}{td ty tv:TE}
section
variable {o:Go}
def QT(hu:X.A.units+1<Y')(ho:PE X o td)(hi:PE X i ty)(hv:PE X value tv)(hs:ZB value (Fa (.Subscript o i X1)) pos.line X.env=pure lf):
  PS X (.Assign [.Subscript o i X1] value pos) (Vc td ty tv):=by
 intro XN s Y H D I h;refine wpAny_Assign_Subscript (sZ (hv XN s Y H _ I h) λr s1 zz=>x5 zz λv H1 I1 rv q1=>sZ (ho XN s1 Y H1 _ I1 q1) λu s2 zz=>x5 zz λx H2 I2 rx q2=>sZ (hi XN s2 Y H2 _ I2 q2) λiv s3 zz=>?_) hs;obtain⟨y,H3,I3,ry,a,H4,ex,g,q3⟩:=zz;subst ex;obtain rfl:u=Value.ref a:=rx;exact Kg hu I3 g ry rv λs4 I4=>⟨Y,H4,I4,q3⟩
end
structure M1(X:Cx)(o:Go)(m:Str)(XS:Pos)(e:Go)(XY:Pos):Prop where
 base:Rs o m X.env (wp o X.env)=wp o X.env
 pI:((wv XY (Tl [e] X.env)).all (λx=>!x.1)&&(TD XY (Op [] X.env)).all (λx=>x.1.isSome)
  &&decide (([e]:List Go).length+([]:List IN).length+(if ([]:List IN).isEmpty then 0 else 1)<30))=pc
 line:(XS.endLine==XY.line)=pc
 trees:wv XY (Tl [e] X.env)=[(lf,wp e X.env)]
structure M2(X:Cx)(o:Go)(m:Str)(XS:Pos)(e f:Go)(XY:Pos):Prop where
 base:Rs o m X.env (wp o X.env)=wp o X.env
 pI:((wv XY (Tl [e,f] X.env)).all (λx=>!x.1)&&(TD XY (Op [] X.env)).all (λx=>x.1.isSome)
  &&decide (([e,f]:List Go).length+([]:List IN).length+(if ([]:List IN).isEmpty then 0 else 1)<30))=pc
 line:(XS.endLine==XY.line)=pc
 trees:wv XY (Tl [e,f] X.env)=[(lf,wp e X.env),(lf,wp f X.env)]
variable {d:V}
section
variable {s:Sd}{o:Option V}{A:Ar}{E:QQX}
end
variable {f:Go}{XS XY:Pos}{tx:TE}
section
variable {o:Go}
end
section
variable {s:Sd}{A:Ar}{E:QQX}
end
section
variable {s:Sd}{A:Ar}{E:QQX}
end
section
variable {κ:Type}[DecidableEq κ]
end
noncomputable def BJ(env:Env):T0 (Str×wS)->T0 (Str×Uf)->T0 (Str×Uf)
 | [],acc=>acc
 | (n,k)::r,acc=>BJ env r (if k==.free then(n,(env.cells.lookup n).getD 0)::acc else acc)
theorem Hq{env:Env}{f:(Str×wS)->T0 (Str×Uf)->Sem (ForInStep (T0 (Str×Uf)))} (hf:∀x cs,(x.2=.free->∃c,env.cells.lookup x.1=Fa c)->f x cs=pure (.yield (if x.2==.free then(x.1,(env.cells.lookup x.1).getD 0)::cs else cs))):
  ∀(l:T0 (Str×wS)) (acc:T0 (Str×Uf)),(∀x∈l,x.2=.free->∃c,env.cells.lookup x.1=Fa c)->forIn l acc f=pure (BJ env l acc)
 | [],acc,_=>by rw[kg];rfl
 | (n,k)::r,acc,h=>by rw[jX,hf (n,k) acc (h _ dI),pure_bind];exact Hq hf r _ λx hx=>h x (dE _ hx)
def yY{scope:XXd}{env:Env}(h:∀x∈scope.names,x.2=.free->∃c,env.cells.lookup x.1=Fa c):closureFor scope env=pure (BJ env scope.names []):=by
 unfold closureFor;have e:=Hq (env:=env) (f:=λ(x:Str×wS) (cs:T0 (Str×Uf))=>(do
   if x.2==.free then
    let a<-cellOf env x.1
    pure (ForInStep.yield ((x.1,a)::cs))
   else pure (ForInStep.yield cs))) (λx cs hx=>by
  cases hk:x.2==NameKind.free with
  | false=>simp
  | true=>
   obtain⟨c,hc⟩:=hx (by simpa using hk);simp[cellOf,hc]) scope.names [] h
 first
  | exact(eY (·>>=pure) e).trans (by simp)
  | (simp only[bind_pure];exact e)
  | (rw[<-e];rfl)
theorem LH{env:Env}{x:Str}{c:Uf}:∀{l:T0 (Str×wS)} {acc:T0 (Str×Uf)},(∀x∈l,x.2=.free->∃c,env.cells.lookup x.1=Fa c)->(∀x c,acc.lookup x=Fa c->env.cells.lookup x=Fa c)->(BJ env l acc).lookup x=Fa c->env.cells.lookup x=Fa c
 | [],acc,_,ha,h=>ha x c h
 | (n,k)::r,acc,hl,ha,h=>by
  refine LH (l:=r) (acc:=if k==.free then(n,(env.cells.lookup n).getD 0)::acc else acc) (λy hy=>hl y (dE _ hy)) (λy d hd=>?_) h;cases hk:k==NameKind.free with
  | false=>rw[hk]at hd;exact ha y d (by simpa using hd)
  | true=>
   rw[hk,dg Z']at hd;obtain⟨e,he⟩:=hl (n,k) dI (by simpa using hk);rw[eQ]at hd;cases hy:y==n with
   | true=>
    rw[hy]at hd;have yn:y=n:=by simpa using hy
    subst yn;have he:env.cells.lookup y=Fa e:=he;rw[he]at hd ⊢;exact hd
   | false=>rw[hy]at hd;exact ha y d hd
theorem Om{x:Str}:∀{l:T0 (Str×wS)} {acc:T0 (Str×Uf)},(∃c,acc.lookup x=Fa c)->∃c,(BJ env l acc).lookup x=Fa c
 | [],_,h=>h
 | (n,k)::r,acc,h=>by
  refine Om (l:=r) ?_;cases hk:k==NameKind.free with
  | false=>simpa using h
  | true=>
   rw[dg Z',eQ];cases hy:x==n with
   | true=>exact⟨_,Z'⟩
   | false=>exact h
theorem Ic{x:Str}:∀{l:T0 (Str×wS)} {acc:T0 (Str×Uf)},l.lookup x=Fa .free->∃c,(BJ env l acc).lookup x=Fa c
 | [],_,h=>by simp at h
 | (n,k)::r,acc,h=>by
  rw[eQ]at h;cases hy:x==n with
  | true=>rw[hy]at h;have hk:k=.free:=dv h;subst hk;refine Om (l:=r) ⟨(env.cells.lookup n).getD 0,?_⟩;show List.lookup x (if NameKind.free==NameKind.free then(n,(env.cells.lookup n).getD 0)::acc else acc)=Fa ((env.cells.lookup n).getD 0);rw[dg (by rfl),eQ,hy]
  | false=>rw[hy]at h;exact Ic (l:=r) h
theorem uY{env:Env}{x:Str}:∀{l:T0 (Str×wS)},(l.map λ(n,k)=>if (k==NameKind.free&&env.scope.kind==.function&&env.kindOf n==Fa .cell)then(n,NameKind.cell)else(n,k)).lookup x
   = (l.lookup x).map λk=>if (k==NameKind.free&&env.scope.kind==.function&&env.kindOf x==Fa .cell)then NameKind.cell else k
 | []=>rfl
 | (n,k)::r=>by
  rw[dY];show List.lookup x ((if (k==NameKind.free&&env.scope.kind==.function&&env.kindOf n==Fa .cell)=pc then(n,NameKind.cell)else(n,k))::_)=_;cases hy:x==n with
  | true=>
   have yn:x=n:=by simpa using hy
   subst yn;by_cases hc:(k==NameKind.free&&env.scope.kind==.function&&env.kindOf x==Fa .cell)=pc
   .rw[dg hc,eQ,eQ,hy];simp only[iW];rw[dg hc]
   .rw[de hc,eQ,eQ,hy];simp only[iW];rw[de hc]
  | false=>
   by_cases hc:(k==NameKind.free&&env.scope.kind==.function&&env.kindOf n==Fa .cell)=pc
   .rw[dg hc,eQ,eQ,hy];exact uY
   .rw[de hc,eQ,eQ,hy];exact uY
noncomputable def Ph(ix:T0 (Option Nat))(Y:St):St:=ix.map λo=>o.bind λi=>(Y[i]?).join
abbrev Cx.comp(X:Cx)(scope:XXd)(N':QQQ)(C:Uf)(s0:Sd)(H0:Hp)(ex:QXQ):Cx:=
 {X with N:=N',s₀:=s0,H₀:=H0,env:=compEnvC scope (BJ X.env scope.names []) C X.env,outer:=X.stack,ex:=ex,fn:=λ_=>lf,pn:=[],xe:=λ_ _=>False}
structure sQ(X:Cx)(scope:XXd)(ix:List (Option Nat))(N':QQQ):Prop where
 kind:scope.kind=.function
 oO:∀y∈scope.names,y.2≠.cell
 nam:∀y∈scope.names,y.2=.local->scope.names.lookup y.1=Fa .local
 fre:∀y∈scope.names,y.2=.free->X.env.scope.names.lookup y.1=Fa .cell\/X.env.scope.names.lookup y.1=Fa .free
 len:ix.length=N'.length
 at_:∀(j i:Nat) (x:Str),ix[j]?=Fa (Fa i)->N'[j]?=Fa x->X.N[i]?=Fa x/\scope.names.lookup x=Fa .free
variable {scope:XXd}{ix:T0 (Option Nat)}{N':QQQ}{fp:QXQ}
section
variable {s:Sd}
def sQ.cells(S:sQ X scope ix N')(ok:X.Ok):∀x∈scope.names,x.2=.free->∃c,X.env.cells.lookup x.1=Fa c:=λx hx hk=>ok.has x.1 (S.fre x hx hk)
def sQ.sub(S:sQ X scope ix N')(ok:X.Ok){x:Str}{c:Uf}(h:(BJ X.env scope.names []).lookup x=Fa c):X.env.cells.lookup x=Fa c:=LH (S.cells ok) (λ_ _ z=>by simp at z) h
theorem vS{x:Str}{k:wS}:∀{l:T0 (Str×wS)},l.lookup x=Fa k->(x,k)∈l
 | [],h=>by simp at h
 | (n,j)::r,h=>by
  rw[eQ]at h;cases hy:x==n with
  | true=>
   rw[hy]at h;have yn:x=n:=by simpa using hy
   subst yn;rw[dv h];exact dI
  | false=>rw[hy]at h;exact dE _ (vS h)
def Inv.comp{C:Uf}{h1:No}{tk:Nat}(I:Inv X XN Y H s)(S:sQ X scope ix N')(hf:∀b∈fp,BF X XN H b)(XZ:∀b∈fp,b<s.heap.objs.size)(hC:s.heap.objs.size<=C) (k:∀b o,s.heap.get? b=Fa o->h1.get? b=Fa o) (hn:h1.Ns C (λ_=>Db)):Inv (X.comp scope N' C s H fp) (X.pn++XN) (Ph ix Y) H {s with heap:=h1,toks:=tk}:=by
 have sub:∀{x:Str} {c:Uf},(BJ X.env scope.names []).lookup x=Fa c->X.env.cells.lookup x=Fa c:=λh=>S.sub I.ok h;refine⟨⟨I.ok.mod,S.kind,I.ok.glob,I.ok.blt,hC,λx y c e1 e2=>I.ok.inj x y c (sub e1) (sub e2),λx hx=>?_,λ_ _ z=>(dC z).elim,I.ok.hd,I.ok.frames,.inl Z',λb hb=>⟨dO (dR (XZ b hb) hC),λx c e=>(hf b hb).2.2.2.2.1 x c (sub e)⟩,I.bs,d9 I.ok.oy I.sz,λb o e hb=>?_,λb hb hfs=>?_,I.stack,I.nU⟩,Z',I.bare,Un.kept k,⟨_,hn,λi x v e1 e2 e3=>?_⟩,λx c e=>?_,I.m9.fresh hC,λx c e=>I.nv x c (sub e),λp hp=>?_,I.m9.kept k,?_⟩
 .have hx:(relabel scope X.env).names.lookup x=Fa .cell\/(relabel scope X.env).names.lookup x=Fa .free:=hx;have e:(relabel scope X.env).names.lookup x=(scope.names.lookup x).map λk=>if (k==NameKind.free&&X.env.scope.kind==.function&&X.env.kindOf x==Fa .cell)then NameKind.cell else k:=uY
  rw[e]at hx;cases q:scope.names.lookup x with
  | none=>rw[q]at hx;rcases hx with hx|hx<;>simp at hx
  | some kd=>
   cases kd with
   | free=>exact Ic q
   | cell=>exact absurd Z' (S.oO _ (vS q))
   | _=>rw[q]at hx;rcases hx with hx|hx<;>simp at hx
 .rcases(hf b hb).2.2.2.1 with z|z
  .exact I.ok.og b o e z
  .exact absurd (dR (dD e) (d9 I.ok.oy z)) (ft _)
 .rcases dh.mp (I.nM b hfs)with z|z
  .exact(hf b hb).2.1 z
  .exact(hf b hb).2.2.1 z
 .have Z2:(ix[i]?).map (λo=>o.bind λi=>(Y[i]?).join)=Fa (Fa v):=by have z:(Ph ix Y)[i]?=Fa (Fa v):=e2;unfold Ph at z;rw[dz]at z;exact z
  cases q:ix[i]? with
  | none=>rw[q]at Z2;cases Z2
  | some o=>
   rw[q]at Z2;cases o with
   | none=>cases Z2
   | some j=>
    have Z3:(Y[j]?).join=Fa v:=dv Z2;have e4:Y[j]?=Fa (Fa v):=by
     cases r:Y[j]? with
     | none=>rw[r]at Z3;cases Z3
     | some w=>rw[r]at Z3;exact eY Fa Z3
    obtain⟨n1,n2⟩:=S.at_ i j x q e1;obtain⟨m,hm,hl⟩:=I.loc;have hk:=S.fre _ (vS n2) Z';have hv:SX X.env.scope x:=by
     rcases hk with z|z
     .exact .inr (.inl z)
     .exact .inr (.inr z)
    obtain⟨u,ru,lk⟩:=hl j x v n1 e4 hv;refine⟨u,ru,?_⟩;have hk':X.env.kindOf x=Fa .cell\/X.env.kindOf x=Fa .free:=hk;rcases lk with⟨z,_⟩|⟨_,c,hc,hcell⟩
    .rcases hk' with y|y<;>(rw[y]at z;cases z)
    .obtain⟨c',hc'⟩:=Ic (env:=X.env) (acc:=[]) n2;have:=sub hc';rw[hc]at this;cases this;refine .inr ⟨?_,c,hc',hcell.keeps k⟩;show(relabel scope X.env).names.lookup x=Fa .cell\/(relabel scope X.env).names.lookup x=Fa .free;have e:(relabel scope X.env).names.lookup x=(scope.names.lookup x).map λk=>if (k==NameKind.free&&X.env.scope.kind==.function&&X.env.kindOf x==Fa .cell)then NameKind.cell else k:=uY
     rw[e,n2];simp only[iW];split
     .exact .inl Z'
     .exact .inr Z'
 .obtain⟨v,q⟩:=I.cell x c (sub e);exact⟨v,q.keeps k⟩
 .obtain⟨e,n,ne,nf,d⟩:=I.pin p (by simpa using hp);refine⟨k _ _ e,n,dO (dR (dD e) hC),λz=>?_,d⟩;rcases dh.mp (I.nM p.1 z)with y|y
  .exact ne y
  .exact nf y
 .show(Ph ix Y).length=N'.length;unfold Ph;rw[cW];exact S.len
end
section
variable {prog:Pg}{w:Wo}{A:Ar}{R:Result→Sd→Prop}{s:Sd}
def yy{YI Yk iter:Go}{Yt:T0 Go}{scope:XXd}{pos:Pos}{it acc:Vl}{env:Env}(I:Nat->Sd->Prop){EX:QQX}(hEX:∀e s',EX e s'->notedBy (Tk prog w) A env (λx s'=>R (.error x) s') e s') (turn:∀n s,I n s->pi (Tk prog w) A (pyNext it) (λr s₁=>match r with
   | none=>R (.ok .next) s₁
   | some v=>pi (Tk prog w) A (XXh Yk it v) (λ_ s₁=>pi (Tk prog w) A (assign Yk env v) (λ_ s₂=>
     pi (Tk prog w) A (forIn Yt pc λc r=>if r=pc then do let ok<-isTrue c env (wp c env);pure (ForInStep.yield ok)else pure (ForInStep.yield r)) (λok s₃=>
      if ok=pc then pi (Tk prog w) A (wp YI env) (λx s₄=>
       pi (Tk prog w) A (call (.builtin "list.append") [acc,x]) (λ_ s₅=>∃m,m<n/\I m s₅) (λ_ _=>False) s₄) EX s₃
      else ∃m,m<n/\I m s₃) (λ_ _=>False) s₂) (λ_ _=>False) s₁) (λ_ _=>False) s₁) (λ_ _=>False) s)
  (n:Nat) (h:I n s):
  XXi (Tk prog w) A (.compLoop (.ListComp YI [⟨Yk,iter,Yt,0⟩] scope pos) 0 it acc env) R s:=by
 refine codeAny_loop Z' I (λn s hI=>?_) n h;show pi _ A ((compTurn (.ListComp YI [⟨Yk,iter,Yt,0⟩] scope pos) 0 it acc env).onRaise (λx=>do noteFrame x env;theTreesLotGoes x)) _ _ s;refine wpAny_noted ?_;rw[compTurn_list];refine cX (hG (cX (eD (turn n s hI) (λr s₁ h₁=>?_) λ_ _ h'=>h'.elim)));cases r with
 | none=>exact dq h₁
 | some v=>
  refine cX (eD h₁ (λ_ s₁' h₁'=>?_) λ_ _ h'=>h'.elim);refine cX (eD h₁' (λ_ s₂ h₂=>cX (eD h₂ (λok s₃ h₃=>?_) λ_ _ h'=>h'.elim)) λ_ _ h'=>h'.elim);cases ok with
  | false=>exact dq ⟨Z',h₃⟩
  | true=>exact cX (cX (eD h₃ (λx s₄ h₄=>cX (eD h₄ (λ_ s₅ h₅=>dq (dq ⟨Z',h₅⟩)) λ_ _ h'=>h'.elim)) hEX))
end
def PF(X:Cx)(Yt:T0 Go)(t:TT):Prop:=
 ∀(XN:QQY) (s:Sd) (Y:St) (H:Hp) (Q:Bool->Hp->Prop),Inv X XN Y H s->t Y H Q->
  pi (Tk X.prog X.w) X.A (forIn Yt pc λc r=>if r=pc then do let ok<-isTrue c X.env (wp c X.env);pure (ForInStep.yield ok)else pure (ForInStep.yield r)) (TP X XN Y Q) X.xe s
def Vd:TT:=λ_ H Q=>Q pc H
def SU:PF X [] Vd:=λ_ _ _ H _ I h=>wpAny_tests_nil ⟨H,I,h⟩
def Sn(h:PT X c t):PF X [c] t:=λXN s Y H Q I q=>wpAny_tests_one (h XN s Y H Q I q)
def RI(ix:T0 (Option Nat))(g:TG)(tt:TT)(te:TE)(Y:St)(J:It)(Q:VK)(H:Hp):Prop:=
 ∃W:Nat->Nat->T0 V->St->Hp->Prop,(∃m,W 0 m [] (Ph ix Y) H)/\∀i m ys σ' H,W i m ys σ' H->
  (J.stop i H/\ys.length<=Ch/\∀D,H D=Db->Q (.ref D) (upd H D (.lst ys)))\/
  (J.go i H/\ys.length<Ch/\∀x H',J.pz i H x H'->g x σ' H' λσ2 H2=>tt σ2 H2 λb H3=>if b=pc then te σ2 H3 λy H4=>∃m',m'<m/\W (i+1) m' (ys++[y]) σ2 H4 else ∃m',m'<m/\W (i+1) m' ys σ2 H3)
def Lr(ix:T0 (Option Nat))(wi:TI)(g:TG)(tt:TT)(te:TE):TE:=λY H Q=>wi Y H λJ H1=>RI ix g tt te Y J Q H1
variable {tg iter YI:Go}{Yt:T0 Go}{g:TG}{tt:TT}{te:TE}{J:It}{it:Uf}{tn:Nat→No→Prop}{Q:VK}
section
variable {s:Sd}
def Cy{XP:Uf->Sd->Hp->QXQ->QQY->St->Vl->Sd->Prop}{RR:Vl->Uf->Result->Sd->Prop}{E:QQX}(hc:X.calm=pc)(S:sQ X scope ix N')(I:Inv X XN Y H s)(T:GA X.prog X.w X.K tg J fp it tn)(st:tn 0 s.heap)(hf:∀b∈fp,BF X XN H b) (hg:∀C s0 H0 ex,PG (X.comp scope N' C s0 H0 ex) tg g) (ht:∀C s0 H0 ex,PF (X.comp scope N' C s0 H0 ex) Yt tt) (he:∀C s0 H0 ex XN s Y H Q,Inv (X.comp scope N' C s0 H0 ex) XN Y H s->te Y H Q->pi (Tk X.prog X.w) X.A (wp YI (X.comp scope N' C s0 H0 ex).env) (EP (X.comp scope N' C s0 H0 ex) XN Y Q) (XP C s0 H0 ex XN Y) s) (hx:∀C D e s',s.heap.objs.size<=C->(∃YQ σ',(∀b∈fp,∃o,(b,o)∈YQ)/\XP C s H fp YQ σ' e s')->notedBy (Tk X.prog X.w) X.A (compEnvC scope (BJ X.env scope.names []) C X.env) (λx s'=>RR D C (.error x) s') e s') (hw:RI ix g tt te Y J Q H) (XT:∀D C s' H' m,s.heap.objs.size<=C->H' C=Db->s'.heap.Ns C m->Inv X XN Y H' s'->Q (.ref D) H'->RR (.ref D) C (.ok .next) s'):
  pi (Tk X.prog X.w) X.A (newList []) (λacc s₃=>pi (Tk X.prog X.w) X.A (newFunctionEnv scope X.env.globals (BJ X.env scope.names []) [] X.env.qual Db .none (Fa X.env)) (λYz s₄=>
   XXi (Tk X.prog X.w) X.A (.compStart (.ListComp YI [⟨tg,iter,Yt,0⟩] scope pos) 0 (.ref it) acc {Yz with scope:=relabel scope X.env}) (RR acc Yz.locals) s₄) E s₃) E s:=by
 obtain⟨W,⟨m0,w0⟩,turn⟩:=hw;have XZ:∀b∈fp,b<s.heap.objs.size:=λb hb=>by obtain⟨o,e,_⟩:=T.obj _ _ st b hb;exact dD e
 refine gc (wpAny_newFunctionEnv S.oO (by intro y hy;simp at hy) (λh₁ Zz Z4=>?_) S.kind);dsimp only at Zz Z4 ⊢;generalize hH2:s.heap.push {cls:=.type "list",dict:=none,data:=.seq ([]:T0 Vl).toArray}=H2 at Zz Z4 ⊢;have hC:H2.objs.size=s.heap.objs.size+1:=by rw[<-hH2,fB]
 have hDC:s.heap.objs.size≠H2.objs.size:=by rw[hC];exact dO (fE _)
 have Z5:s.heap.objs.size<=H2.objs.size:=by rw[hC];exact gx _
 have below:∀b,b<s.heap.objs.size->b≠H2.objs.size/\b≠s.heap.objs.size:=λb hb=>⟨by rw[hC];exact dO (ib hb),dO hb⟩;have old:∀b o,s.heap.get? b=Fa o->h₁.get? b=Fa o:=λb o e=>Z4.extBut b o (below b (dD e)).1 (df _ (hH2 ▸ df _ e));have hacc:h₁.get? s.heap.objs.size=Fa {cls:=.type "list",data:=.seq ([]:T0 Vl).toArray 0}:=Z4.extBut _ _ hDC (df _ (hH2 ▸ dN _ Z'));have Zz:h₁.Ns H2.objs.size (λ_=>Db):=Zz;have Y3:∀{H':Hp} {pl:QQY},(∀b∈fp,H' b=Db)->(∀p∈pl,p.1∉fp)->∀b∈fp,BF (X.comp scope N' H2.objs.size s H fp) (X.pn++XN++pl) H' b:=λ{H' pl} hn X8 b hb=>by
  refine⟨hn b hb,dO (dR (XZ b hb) Z5),λz=>?_,.inl hb,λx c e=>(hf b hb).2.2.2.2.1 x c (S.sub I.ok e),λp hp=>?_⟩
  .rcases dh.mp (I.nM b z)with y|y
   .exact(hf b hb).2.1 y
   .exact(hf b hb).2.2.1 y
  .rcases dU.mp (show p∈X.pn++XN++pl by simpa using hp)with z|z
   .exact(hf b hb).2.2.2.2.2 p z
   .intro q;exact X8 p z (q ▸ hb)
 have loop:∀s₃:Sd,s₃={s with heap:=h₁,toks:=s.toks+([]:T0 (Str×Vl)).length}->
   XXi (Tk X.prog X.w) X.A (.compLoop (.ListComp YI [⟨tg,iter,Yt,0⟩] scope pos) 0 (.ref it) (.ref s.heap.objs.size) (compEnvC scope (BJ X.env scope.names []) H2.objs.size X.env))
    (RR (.ref s.heap.objs.size) H2.objs.size) s₃:=by
  rintro s₃ rfl
  refine yy (hEX:=λe s' z=>hx _ _ e s' Z5 z) (λn s'=>∃(i:Nat) (ys:T0 V) (us:T0 Vl) (k:Nat) (σ':St) (H':Hp),Inv (X.comp scope N' H2.objs.size s H fp) (X.pn++XN) σ' H' s'/\tn i s'.heap/\(∀b∈fp,H' b=Db)/\H' s.heap.objs.size=Db/\
   s'.heap.get? s.heap.objs.size=Fa {cls:=.type "list",data:=.seq us.toArray k}/\qT ys us/\ys.length<=Ch/\W i n ys σ' H') ?_ m0
   ⟨0,[],[],0,Ph ix Y,H,I.comp S hf XZ Z5 old Zz,T.keep _ _ _ st λb _ o e=>old b o e,λb hb=>(hf b hb).1,I.m9.fresh (dw _),hacc,.nil,eE _,w0⟩
  rintro n s' ⟨i,ys,us,k,σ',H',I',Zb,fr',hD',Yx,rv',hz',w'⟩
  have cellD:∀x c,(X.comp scope N' H2.objs.size s H fp).env.cells.lookup x=Fa c->c≠s.heap.objs.size:=λx c e=>by obtain⟨v,q⟩:=I.cell x c (S.sub I.ok e);exact dO q.lt
  have pinD:∀p∈X.pn++XN,p.1≠s.heap.objs.size:=λp hp=>dO (dD (I.pin p hp).1);have dfs:s.heap.objs.size∉(X.comp scope N' H2.objs.size s H fp).fs:=λz=>by
   rcases dh.mp (I.nM _ z)with y|y
   .exact absurd I.lt (by rw[<-y];exact ft _)
   .exact I.oZ (dw _) y
  have dfp:s.heap.objs.size∉fp:=λz=>absurd (XZ _ z) (ft _);have IpD:Inv (X.comp scope N' H2.objs.size s H fp) (X.pn++XN++[(s.heap.objs.size,{cls:=.type "list",data:=.seq us.toArray k})]) σ' H' s':=I'.nY λp hp=>by
   rcases dU.mp hp with z|z
   .exact I'.pin p (eh _ z)
   .have e:p=(s.heap.objs.size,{cls:=.type "list",data:=.seq us.toArray k}):=by simpa using z
    subst e;exact⟨Yx,hD',hDC,dfs,λv z=>by cases z⟩
  have pfp:∀p∈[((s.heap.objs.size,{cls:=.type "list",data:=.seq us.toArray k}):Uf×Obj)],p.1∉fp:=λp hp=>by
   have e:p=(s.heap.objs.size,{cls:=.type "list",data:=.seq us.toArray k}):=by simpa using hp
   subst e;exact dfp
  rcases turn i n ys σ' H' w' with⟨stop,hz,q⟩|⟨go,hz,step⟩
  .refine eD (T.done (X.comp scope N' H2.objs.size s H fp) Z' Z' Z' hc i _ s' σ' H' (λ_ _=>False) IpD (Y3 fr' pfp) Zb stop) (λr s1 ⟨hr,I1⟩=>?_) λ_ _ z=>z;subst hr;show RR _ _ _ _;have ho1:s1.heap.get? s.heap.objs.size=Fa {cls:=.type "list",data:=.seq us.toArray k}:=(I1.pin (s.heap.objs.size,{cls:=.type "list",data:=.seq us.toArray k}) (by simp)).1;obtain⟨m,hnC,_⟩:=id I1.loc;refine XT _ _ s1 (upd H' s.heap.objs.size (.lst ys)) m Z5 (by rw[qw (dS hDC)];exact I1.free) hnC ?_ (q _ hD');have nD:∀b o,s.heap.get? b=Fa o->b≠s.heap.objs.size:=λb o e=>(below b (dD e)).2;have hD0:H s.heap.objs.size=Db:=I.m9.fresh (dw _);refine I.pb (s':=s1) (ch:=fp) I1.os ⟨λb o e n1 n2 n3=>?_,λb o e n1 n2 n3=>?_,λb o e n1 n2=>?_,λb o e n1=>?_,λb xs e=>?_,λb o u e=>?_,λb ps e=>?_⟩ (λb u e=>?_) I1.bare λb hb=>⟨(hf b hb).2.2.2.1,(hf b hb).2.1,(hf b hb).2.2.2.2.1,(hf b hb).2.2.2.2.2⟩
   .exact I1.base.keep b o e n1 n2 n3
   .exact I1.base.slot b o e n1 n2 n3
   .rw[qw (nD b o e)];exact I1.base.free b o e n1 n2
   .exact I1.base.there b o e n1
   .rw[qw (rB e hD0)];exact I1.base.nO b xs e
   .rw[qw (rB e hD0)];exact I1.base.nJ b o u e
   .obtain⟨more,z⟩:=I1.base.nR b ps e;exact⟨more,by rw[qw (rB e hD0)];exact z⟩
   .by_cases hb:b=s.heap.objs.size
    .subst hb;rw[qC]at e;cases e;exact⟨hz,us,k,rv',ho1⟩
    .rw[qw hb]at e;exact(I1.m9 b u e).nK (λc v _ z=>z) (λc z=>by rw[qw (rB z hD')];exact z) (λc xs z=>by rw[qw (rB z hD')];exact z)
  .refine eD (T.item (X.comp scope N' H2.objs.size s H fp) Z' Z' Z' hc i _ s' σ' H' (λ_ _=>False) IpD (Y3 fr' pfp) Zb go) (λr s1 ⟨v,hr,h4⟩=>?_) λ_ _ z=>z;subst hr;show pi _ _ (XXh tg (.ref it) v) _ _ s1;refine eD h4 (λ_ s2 zz=>?_) λ_ _ z=>z;obtain⟨x,H5,I5,r5,y5,Zj,fr5⟩:=zz;have I5':=I5.pinned (Y3 fr5 pfp) (T.obj _ _ Zj);refine eD (hg H2.objs.size s H fp _ s2 σ' H5 x v _ I5' r5 (step x H5 y5)) (λ_ s3 ⟨σ6,H6,I6,q6⟩=>?_) λ_ _ z=>z;refine eD (ht H2.objs.size s H fp _ s3 σ6 H6 _ I6 q6) (λok s4 ⟨H7,I7,q7⟩=>?_) λ_ _ z=>z;have facts:∀{σ7:St} {H7:Hp} {s7:Sd},Inv (X.comp scope N' H2.objs.size s H fp) (X.pn++XN++[(s.heap.objs.size,{cls:=.type "list",data:=.seq us.toArray k})]++CK fp s2.heap) σ7 H7 s7->
     tn (i+1) s7.heap/\(∀b∈fp,H7 b=Db)/\H7 s.heap.objs.size=Db/\s7.heap.get? s.heap.objs.size=Fa {cls:=.type "list",data:=.seq us.toArray k}:=λ{σ7 H7 s7} K7=>by
    have pd:=K7.pin (s.heap.objs.size,{cls:=.type "list",data:=.seq us.toArray k}) (by simp);refine⟨T.keep _ _ _ Zj λb hb o e=>(K7.pin (b,o) (eh _ (eh _ (vX hb e)))).1,λb hb=>?_,pd.2.1,pd.1⟩;obtain⟨o,e,d⟩:=T.obj _ _ Zj b hb;exact(K7.pin (b,o) (eh _ (eh _ (vX hb e)))).2.1
   cases ok with
   | false=>rw[de dC]at q7 ⊢;obtain⟨m',hm,w7⟩:=q7;obtain⟨t7,f7,d7,o7⟩:=facts I7;exact⟨m',hm,i+1,ys,us,k,σ6,H7,I7.ny.ny,t7,f7,d7,o7,rv',hz',w7⟩
   | true=>
    rw[dg Z']at q7 ⊢;refine eD (he H2.objs.size s H fp _ s4 σ6 H7 _ I7 q7) (λyv s5 ⟨y,H8,I8,r8,m',hm,w8⟩=>?_) λ_ _ z=>⟨_,_,λb hb=>(by
     obtain⟨o,e,_⟩:=T.obj _ _ Zj b hb;exact⟨o,eh _ (vX hb e)⟩),z⟩
    obtain⟨t8,f8,d8,o8⟩:=facts I8;have hsz:us.toArray.size<=Ch:=by rw[dB,<-rv'.length];exact hz'
    refine append_at (hsz:=hsz) o8 λh' sb od=>?_;refine⟨m',hm,i+1,ys++[y],us++[yv],k+1,σ6,H8,?_,T.keep _ _ _ t8 λb hb o e=>(sb.2 b λq=>dfp (q ▸ hb)).trans e,f8,d8,?_,rv'.append (.cons r8 .nil),?_,w8⟩
    .exact I8.ny.ny.turned (it:=s.heap.objs.size) (t':=s5.toks) (λb o hb e=>(sb.2 b hb).trans e) d8 hDC (.inr (dw _)) cellD (by simpa using pinD)
    .rw[od,List.push_toArray]
    .rw[cZ,dQ];exact hz
 exact codeAny_compStart_list (loop _ Z') (T.self _ 0 _ _ _ (T.keep _ _ _ st λb _ o e=>old b o e) (loop _ Z'))
def Inv.letGo{C:Uf}(I:Inv X XN Y H s)(I':Inv X XN σ' H' s')(hC:s.heap.objs.size<=C)(hn:H' C=Db)(hs:Heap.SameBut C s'.heap h'):Inv X XN σ' H' {s' with heap:=h'}:=
 I'.turned (t':=s'.toks) (it:=C) (λb o hb e=>(hs.2 b hb).trans e) hn (λz=>absurd (dR I.lt hC) (by rw[z];exact ft _)) (.inr (d9 I.sz hC))
  (λx c e z=>by
   obtain⟨v,r⟩:=I.cell x c e;exact absurd (dR r.lt hC) (by rw[z];exact ft _))
  (λp hp z=>absurd (dR (dD (I.pin p hp).1) hC) (by rw[z];exact ft _))
def OP(hc:X.calm=pc)(S:sQ X scope ix N')(hi:PI X tg iter wi)(hg:∀C s0 H0 ex,PG (X.comp scope N' C s0 H0 ex) tg g)(ht:∀C s0 H0 ex,PF (X.comp scope N' C s0 H0 ex) Yt tt)(he:∀C s0 H0 ex,PE (X.comp scope N' C s0 H0 ex) YI te) (hs:∀x,AT iter X.env x=pure x:=by intro _;rfl):PE X (.ListComp YI [⟨tg,iter,Yt,0⟩] scope pos) (Lr ix wi g tt te):=by
 intro XN s Y H Q I h;rw[eval_ListComp];refine jO (use:=none) Z' hs (yY (S.cells I.ok)) S.kind S.nam (eD (hi XN s Y H _ I h) (λxv s₁ h₁=>eD h₁ (λitv s₂ h₂=>?_) λ_ _ e=>e) λ_ _ e=>e);obtain⟨it,fp,tn,J,H2,e,I2,T,Ya,f2,hw⟩:=h₂;subst e;refine Cy (RR:=λacc C=>compPost (Tk X.prog X.w) X.A X.xe Db (EP X XN Y Q) acc C) hc S I2 T Ya f2 hg ht (XP:=λ_ _ _ _ _ _ _ _=>False) he (λ_ _ _ _ _ z=>by obtain⟨_,_,_,z⟩:=z;exact z.elim) hw λD C s' H' m hCs hCn hn I3 q=>?_;exact⟨m,hn,λh' Z6=>⟨.ref D,_,I2.letGo I3 hCs hCn Z6,Z',q⟩⟩
def Ia{i:Nat}{x:Str}{px ZA:Pos}(hN:X.N.Nodup)(Z7:X.N[i]?=Fa x)(hx:Lm X.env.scope x)(hc:X.calm=pc)(S:sQ X scope ix N')(hi:PI X tg iter wi)(hg:∀C s0 H0 ex,PG (X.comp scope N' C s0 H0 ex) tg g)(ht:∀C s0 H0 ex,PF (X.comp scope N' C s0 H0 ex) Yt tt) (he:∀C s0 H0 ex,PE (X.comp scope N' C s0 H0 ex) YI te) (Zl:ZB (.ListComp YI [⟨tg,iter,Yt,0⟩] scope pos) (Fa (.Name x px)) ZA.line X.env=pure pc) (hf:Lq X x:=by first|exact .inl Z'|exact .inr Z'|assumption) (hs:∀x,AT iter X.env x=pure x:=by intro _;rfl):
  PS X (.Assign [.Name x px] (.ListComp YI [⟨tg,iter,Yt,0⟩] scope pos) ZA) (PH (Lr ix wi g tt te) (Jl i)):=by
 intro XN s Y H D I h;rw[exec_Assign_Name_used _ _ _ _ Zl];refine cX (hG (cX ?_));show pi _ X.A (do let _<-comprehension (.ListComp YI [⟨tg,iter,Yt,0⟩] scope pos) scope X.env _ (newList []) lf (wp iter X.env) (Fa (assign (.Name x px) X.env))) _ _ s;refine cX (eD (jO (use:=some (assign (.Name x px) X.env)) (Q:=λ_ s'=>SP X XN D .next s') Z' hs (yY (S.cells I.ok)) S.kind S.nam
  (eD (hi XN s Y H _ I h) (λxv s₁ h₁=>eD h₁ (λitv s₂ h₂=>?_) λ_ _ e=>e) λ_ _ e=>e)) (λ_ s' hq=>dq (dq hq)) λ_ _ e=>e)
 obtain⟨it,fp,tn,J,H2,e,I2,T,Ya,f2,hw⟩:=h₂;subst e;refine Cy (RR:=λacc C=>compPost (Tk X.prog X.w) X.A X.xe (Fa (assign (.Name x px) X.env)) (λ_ s'=>SP X XN D .next s') acc C) hc S I2 T Ya f2 hg ht (XP:=λ_ _ _ _ _ _ _ _=>False) he (λ_ _ _ _ _ z=>by obtain⟨_,_,_,z⟩:=z;exact z.elim) hw λDa C s' H' m hCs hCn hn I3 q=>?_;show pi _ X.A (assign (.Name x px) X.env (.ref Da)) _ _ _;refine lG (En I3 hN Z7 hx (v:=.ref Da) Z' (λs4 I4 ⟨a,sb,ha⟩=>?_) hf);have ca:C≠a:=λz=>by
  rcases ha with y|y
  .exact absurd (dR I2.lt hCs) (by rw[z,y];exact ft _)
  .obtain⟨v,r⟩:=I2.cell x a y;exact absurd (dR r.lt hCs) (by rw[z];exact ft _)
 exact⟨m,hn.sameBut sb ca,λh' Z6=>⟨_,H',I2.letGo I4 hCs hCn Z6,q⟩⟩
end
def By:typeLookup (.type "list") "__getattr__"=pure Db:=by rw[typeLookup_type,kh];kernel_rfl
def Gq:typeLookup (.type "list") "keys"=pure Db:=by rw[typeLookup_type,kh];kernel_rfl
section
variable {prog:Pg}{w:Wo}{A:Ar}{E:QQX}
def Mc(a:Uf)(u:Tok)(its:Array Vl)(n:Nat)(sl:Array (Option Vl)):
  Meets (Builtin.«object.__getattribute__» ⟨[.ref a,.str "keys" u],[]⟩) λA R s=>s.heap.get? a=Fa ⟨.type "list",Db,.seq its n,sl⟩/\A.handled=Db/\∀h' tk e,Heap.NewAttrErr s.heap h' e (.ref a) "keys"->R (.error (.ref e)) {s with heap:=h',toks:=tk}:=
 Meets.of_wp λprog w A R s hs=>by
  obtain⟨hp,g,d,tk,os⟩:=s;obtain⟨h1,h2,h3⟩:=hs;have hT:(⟨hp,g,d,tk,os⟩:Sd).TypeIs (.ref a) "list":=⟨_,h1,Z'⟩;have f1:=Gq;unfold Builtin.«object.__getattribute__»
  repeat (any_goals(first|assumption|wp_step))
  exact wpAny_raiseAttrError h2 h3 (attrMsg_fits (by decide+kernel) (by decide))
def FS{s:Sd}{a:Uf}{its:Array Vl}{n:Nat}{sl:Array (Option Vl)}{Q:Option Vl->Sd->Prop}(ha:s.heap.get? a=Fa ⟨.type "list",Db,.seq its n,sl⟩)(hA:A.handled=Db) (h:∀h' tk,(∀b o,s.heap.get? b=Fa o->h'.get? b=Fa o)->Q Db {s with heap:=h',toks:=tk}):pi (Tk prog w) A (getAttr? (.ref a) "keys") Q E s:=by
 obtain⟨hp,g,d,tk,os⟩:=s;have hT:(⟨hp,g,d,tk,os⟩:Sd).TypeIs (.ref a) "list":=⟨_,ha,Z'⟩;have f1:=sub_AttributeError;have f3:=iA.lookup;have f4:=iA.bind (.ref a);have f5:=By;unfold getAttr? getAttrBy? getAttrBy
 repeat (any_goals(first|assumption|((with_reducible show pi _ _ (call (Value.builtin "list.__getattribute__") _ _) _ _ _);refine iU iA hT F.entry_list_ga (F.args_list_getattribute_2 _ _) (Mc a _ its n sl) ⟨ha,hA,λh' tk' e hx=>?_⟩)|wp_step))
 obtain⟨t',u',he⟩:=hx.there;show pi _ _ (getattributeRaised _ _ _ _ _ _ _) _ _ _;unfold getattributeRaised
 repeat (any_goals(first|assumption|wp_step))
 all_goals first|exact h _ _ hx.keeps|skip
end
def Bd:entryFor table "dict.update.loop"=Fa Builtin.«dict.update.loop»:=entryFor_of_tree (by kernel_rfl)
def ww:plainId "dict.update.loop"=pc:=by decide+kernel
section
variable {prog:Pg}{w:Wo}{A:Ar}{E:QQX}{R:Result→Sd→Prop}{κ:Type}[DecidableEq κ]{knd:PySem.KeyKind prog w κ}
 {I:Uf} {fp wr:QXQ} {G:Array GenState->Array GenState->Prop} {P:Nat->Vl->Prop} {St:Nat->Sd->Prop}
def QJ{s:Sd}{t:Uf}{x y:Vl}{Q:T0 Vl->Sd->Prop}(h:s.heap.IsTuple t #[x,y])(q:Q [x,y] s):pi (Tk prog w) A (Builtin.Dict.pairItems (.ref t)) Q E s:=by
 obtain⟨⟨oc,od,oda,YD⟩,h1,h2,n,h3⟩:=h;simp only at h2 h3;subst h2 h3;have hT:s.TypeIs (.ref t) "tuple":=⟨_,h1,Z'⟩;obtain⟨hp,g,d,tk,os⟩:=s;unfold Builtin.Dict.pairItems
 repeat (any_goals(first|assumption|wp_step))
def KG{all:T0 (κ×Vl)}(W:WalksS prog w A.in1 I fp wr G all.length P St)(d:Uf)(hdf:d∉fp)(kv:Nat->Vl)(tp:Nat->Uf)(hP:∀i v,P i v->v=.ref (tp i))(hw:∀j,j<all.length->tp j∉wr/\tp j≠d) (hk:∀j p,all[j]?=Fa p->knd.is p.1 (kv j)=pc) (hz:all.length<=Ch):
  ∀(k i:Nat) (z:Int) (s:Sd),all.length - i=k->i<=all.length->St i s->(∀j p,all[j]?=Fa p->s.heap.IsTuple (tp j) #[kv j,p.2])->s.heap.DictOf knd d (merged [] (all.take i))->
   (∀s',Moved (d::wr) G s s'->s'.heap.DictOf knd d (merged [] all)->R (.ok (.ret .none)) s')->XXi (Tk prog w) A (.builtin "dict.update.loop" ⟨[.ref d,.ref I,.int z 0,.none],[]⟩) R s:=by
 have hdw:d∉wr:=λh=>hdf (W.sub _ h);have ZC:∀b∈wr,b∈d::wr:=λb hb=>dE _ hb;intro k;induction k with
 | zero=>
  intro i z s hk0 hi Yb hT hD hR;have ZM:i=all.length:=by lia
  subst ZM;refine hU Bd ?_;rw[im ww _];show pi _ A.in1 (pyNext (.ref I)>>=_) _ _ s;refine cX (W.done s _ _ Yb λs' hm=>?_);show pi _ A.in1 (Builtin.Dict.addKeywords d []>>=_) _ _ s';refine cX (dq (dq (hR s' (hm.mono ZC) ?_)));rw[fv]at hD;obtain⟨o,es,ep,ho,rest⟩:=hD;exact⟨o,es,ep,hm.heap d _ hdw ho,rest⟩
 | succ k ih=>
  intro i z s hk0 hi Yb hT hD hR;have XZ:i<all.length:=by lia
  have Y5:all[i]?=Fa all[i]:=c9 XZ;refine hU Bd ?_;rw[im ww _];show pi _ A.in1 (pyNext (.ref I)>>=_) _ _ s;refine cX (W.item i s _ _ XZ Yb λv s' hPv hst' hm=>?_);obtain rfl:=hP i v hPv;have hT':∀j p,all[j]?=Fa p->s'.heap.IsTuple (tp j) #[kv j,p.2]:=λj p e=>by obtain⟨o,h1,h2⟩:=hT j p e;exact⟨o,hm.heap _ _ (hw j (cY.mp e).1).1 h1,h2⟩
  have hD':s'.heap.DictOf knd d (merged [] (all.take i)):=by obtain⟨o,es,ep,ho,rest⟩:=hD;exact⟨o,es,ep,hm.heap d _ hdw ho,rest⟩
  show pi _ A.in1 (wE [Value.ref (tp i)] _>>=_) _ _ s';refine cX (eI (cX (wpAny_tryCatch (QJ (hT' i _ Y5) ?_))));show pi _ A.in1 (wE [kv i,all[i].2] (dictSet d (kv i) all[i].2)) _ _ s';refine eI ?_;unfold dictSet;refine eI (cX (knd.pyHash (hk i _ Y5) ?_));have hl:(merged [] (all.take i)).length<=Ch:=by have:=merged_length_le [] (all.take i);rw[fm]at this;simp only[dJ]at this;lia
  refine wpAny_dictSetHashed_pairs (hsz:=hl) (hk i _ Y5) hD' λh' dd hs=>?_;rw[<-merged_take_succ [] all i _ Y5]at dd;refine dq ⟨kH ww _,ih (i+1) _ _ (by lia) XZ (W.frame _ s' _ _ hst' (gx _) λb hb o e=>?_) (λj p e=>?_) dd λs'' hm'' hD''=>?_⟩
  .rw[hs.2 b (λz:b=d=>hdf (z ▸ hb))];exact e
  .obtain⟨o,h1,h2⟩:=hT' j p e;refine⟨o,?_,h2⟩;show h'.get? (tp j)=Fa o;rw[hs.2 _ (hw j (cY.mp e).1).2];exact h1
  .refine hR s'' (mQ W.gtrans ((hm.mono ZC).then_heap (gx _) λb o hb e=>?_) hm'') hD'';rw[hs.2 b (λz:b=d=>hb (by rw[z];exact dI))];exact e
end
section
variable {prog:Pg}{w:Wo}{A:Ar}{E:QQX}{κ:Type}[DecidableEq κ]{knd:PySem.KeyKind prog w κ}{s:Sd}
def Bp{l:Uf}{its:Array Vl}{n:Nat}{sl:Array (Option Vl)}{all:T0 (κ×Vl)}{Q:QQX}(kv:Nat->Vl)(tp:Nat->Uf)(hh:A.handled=Db)(hl:s.heap.get? l=Fa ⟨.type "list",Db,.seq its n,sl⟩) (hits:∀(j:Nat) (v:Vl),its[j]?=Fa v->v=.ref (tp j)) (XW:its.size=all.length) (hT:∀j p,all[j]?=Fa p->s.heap.IsTuple (tp j) #[kv j,p.2]) (hk:∀j p,all[j]?=Fa p->knd.is p.1 (kv j)=pc) (hz:all.length<=Ch) (h:∀h' tk,h'.DictOf knd s.heap.objs.size (merged [] all)->(∀b o,s.heap.get? b=Fa o->h'.get? b=Fa o)->Q (.ref s.heap.objs.size) {s with heap:=h',toks:=tk}):
  pi (Tk prog w) A (call (.type "dict") [.ref l]) Q E s:=by
 refine callType_codes (Q₁:=λobj s₁=>obj=Value.ref s.heap.objs.size/\s₁={s with heap:=s.heap.push {cls:=.type "dict",data:=.dict #[]}}) PySem.F.kt_called_dict (PySem.F.kt_typeCall_dict_1 _) F.entry_dict_init (kt_code_dict_new _ ⟨Z',Z'⟩) ?_
 rintro obj s₁ ⟨rfl,rfl⟩
 have Zx:(s.heap.push {cls:=.type "dict",data:=.dict #[]}).DictOf knd s.heap.objs.size []:=Heap.DictOf.new s.heap;have hl':(s.heap.push {cls:=.type "dict",data:=.dict #[]}).get? l=Fa ⟨.type "list",Db,.seq its n,sl⟩:=df _ hl;have hTl:Shared.TypeIs {s with heap:=s.heap.push {cls:=.type "dict",data:=.dict #[]}} (.ref l) "list":=⟨_,hl',Z'⟩;have lsz:l<s.heap.objs.size:=dD hl;refine⟨Zx.typeIs,F.args_dict_init_2 _ _,?_⟩;unfold Builtin.«dict.__init__»;refine cX ?_;unfold Builtin.Dict.selfAndRest;refine cX (wpAny_notOrdered_dict Zx.typeIs ?_);show pi _ _ (pure (s.heap.objs.size,[Value.ref l])) _ _ _;refine dq ?_;show pi _ _ (Builtin.Dict.updateFrom "dict.__init__" s.heap.objs.size (.ref l) [] .none) _ _ _;unfold Builtin.Dict.updateFrom;refine cX (jM hTl ?_);rw[dg (by decide)];refine cX (FS hl' (by simpa using hh) λh' tk keep=>?_);have hl2:h'.IsList l its:=⟨_,keep _ _ hl',Z',n,Z'⟩;show pi _ _ (rule _>>=_) _ _ _;refine cX (kA (cX (gR hl2 ?_)));have nd:h'.objs.size>s.heap.objs.size:=by have z:h'.get? s.heap.objs.size=Fa _:=keep _ _ (dN _ Z');exact dD z
 have hDn:h'.DictOf knd s.heap.objs.size []:=by obtain⟨o,es,ep,ho,rest⟩:=Zx;exact⟨o,es,ep,keep _ _ ho,rest⟩
 have hTs:∀j p,all[j]?=Fa p->h'.IsTuple (tp j) #[kv j,p.2]:=λj p e=>by obtain⟨o,h1,h2⟩:=hT j p e;exact⟨o,keep _ _ (df _ h1),h2⟩
 have X9:l≠h'.objs.size:=dO (jN lsz nd);have W:=(kB (prog:=prog) (w:=w) (A:=A.in1.in1) (by simpa using hh) h'.objs.size l X9 its).toS;rw[XW]at W;refine dq ⟨kH ww _,KG (A:=A.in1) W s.heap.objs.size ?_ kv tp (λi v e=>hits i v e) (λj hj=>?_) hk hz all.length 0 0 _ (by lia) (eE _) ⟨⟨_,dN _ Z',Z',Z'⟩,hl2.push _⟩ (λj p e=>(hTs j p e).push _) ?_ λs' hm hD=>?_⟩
 .simp only[dh,dG,eZ,fN];exact⟨dO nd,gW lsz⟩
 .have hj':all[j]?=Fa all[j]:=c9 hj;obtain⟨o,h1,_⟩:=hT j _ hj';have tsz:=dD h1;simp only[dh,dG,eZ];exact⟨dO (jN tsz nd),dO tsz⟩
 .obtain⟨o,es,ep,ho,rest⟩:=hDn;exact⟨o,es,ep,df _ ho,rest⟩
 .obtain⟨h2,g2,d2,t2,o2⟩:=s';have eg:g2=s.gens:=hm.gens;have ed:d2=s.drawn:=hm.drawn;have eo:o2=s.os:=hm.os;subst eg ed eo;refine⟨Z',h h2 t2 hD λb o e=>?_⟩;have hb:=dD e;refine hm.heap b o ?_ (df _ (keep _ _ (df _ e)));simp only[dh,dG,eZ,fN];exact⟨dO hb,dO (jN hb nd)⟩
end
noncomputable def tN{κ:Type}[DecidableEq κ](l:List κ):List κ:=l.foldl (λacc k=>if k∈acc then acc else acc++[k]) []
def yR{κ:Type}[DecidableEq κ](l:List κ)(k:κ):tN (l++[k])=if k∈tN l then tN l else tN l++[k]:=by unfold tN;rw[lM];rfl
def IZ{κ:Type}[DecidableEq κ]:∀l:List κ,(tN l).length<=l.length:=by
 have go:∀(l acc:List κ),(l.foldl (λacc k=>if k∈acc then acc else acc++[k]) acc).length<=acc.length+l.length:=by
  intro l;induction l with
  | nil=>intro acc;simp
  | cons k r ih=>
   intro acc;rw[gh];refine d9 (ih _) ?_;split
   .simp only[eB];lia
   .simp only[eB,cZ,dJ];lia
 intro l;have:=go l []
 simpa [tN]using this
def NL{κ:Type}[DecidableEq κ](x:κ):∀l:List κ,x∈tN l↔x∈l:=by
 have go:∀(l acc:List κ),x∈l.foldl (λacc k=>if k∈acc then acc else acc++[k]) acc↔x∈acc\/x∈l:=by
  intro l;induction l with
  | nil=>intro acc;simp
  | cons k r ih=>
   intro acc;rw[gh,ih];by_cases h:k∈acc
   .rw[dg h,dh];constructor
    .rintro (z|z)
     .exact .inl z
     .exact .inr (.inr z)
    .rintro (z|z|z)
     .exact .inl z
     .subst z;exact .inl h
     .exact .inr z
   .rw[de h,dU,dA,dh,or_assoc]
 intro l;have:=go l []
 simpa [tN]using this
def IS{κ:Type}[DecidableEq κ]:∀l:List κ,l.Nodup->tN l=l:=by
 have go:∀(l acc:List κ),(acc++l).Nodup->l.foldl (λacc k=>if k∈acc then acc else acc++[k]) acc=acc++l:=by
  intro l;induction l with
  | nil=>intro acc _;simp
  | cons k r ih=>
   intro acc h;have hk:k∉acc:=λz=>by rw[gf]at h;exact h.2.2 k z k dI Z'
   rw[gh,de hk,ih]
   .rw[eM];rfl
   .rw[eM];exact h
 intro l h;have:=go l [] (by simpa using h)
 simpa [tN]using this
section
variable {prog:Pg}{w:Wo}{A:Ar}{E:QQX}{R:Result→Sd→Prop}{κ:Type}[DecidableEq κ][BEq κ][LawfulBEq κ]{knd:PySem.KeyKind prog w κ}
 {I:Uf} {fp wr:QXQ} {G:Array GenState->Array GenState->Prop} {P:Nat->Vl->Prop} {St:Nat->Sd->Prop}
def Hj{all:List κ}(W:WalksS prog w A.in1 I fp wr G all.length P St)(S:Uf)(hSf:S∉fp)(hval:∀i v k,P i v->all[i]?=Fa k->knd.is k v=pc/\v.scannable=pc)(hb:all.length+1<XXa):
  ∀(n i:Nat) (s:Sd),all.length - i=n->i<=all.length->St i s->s.heap.SetOf knd S (λx=>decide (x∈tN (all.take i))) (tN (all.take i)).length->
   (∀s',Moved (S::wr) G s s'->s'.heap.SetOf knd S (λx=>decide (x∈tN all)) (tN all).length->R (.ok (.ret .none)) s')->XXi (Tk prog w) A (.builtin "set.update.loop" ⟨[.ref S,.ref I],[]⟩) R s:=by
 have hSw:S∉wr:=λh=>hSf (W.sub _ h);have up:∀b∈wr,b∈S::wr:=λb hb=>dE _ hb;have kept:∀{s s':Sd} {T:κ->Bool} {m:Nat},Moved wr G s s'->s.heap.SetOf knd S T m->s'.heap.SetOf knd S T m:=λhm ⟨o,es,ep,t,ho,rest⟩=>⟨o,es,ep,t,hm.heap S _ hSw ho,rest⟩;intro n;induction n with
 | zero=>
  intro i s h0 hi Yb hS hR;obtain rfl:i=all.length:=by lia
  refine hU iB ?_;rw[im gK _];rw[fv]at hS;exact cX (W.done s _ _ Yb λs' hm=>dq (hR s' (hm.mono up) (kept hm hS)))
 | succ n ih=>
  intro i s h0 hi Yb hS hR;have XZ:i<all.length:=by lia
  have Y5:all[i]?=Fa all[i]:=c9 XZ;refine hU iB ?_;rw[im gK _];refine cX (W.item i s _ _ XZ Yb λv s' hP hst' hm=>?_);obtain⟨k1,k2⟩:=hval i v _ hP Y5;have Z8:=kept hm hS;show pi _ A.in1 (wE [v] (setAdd S v)>>=_) _ _ s';refine cX (eI ?_);unfold setAdd;refine eI (cX (knd.pyHash k1 ?_));have room:(tN (all.take i)).length+1<XXa:=by have h1:=IZ (all.take i);rw[fm]at h1;lia
  refine wpAny_setAddHashed_of (knd:=knd) (s:={s' with toks:=s'.toks+1}) k1 k2 Z8 room λh' hsb hS2=>?_;have et:all.take (i+1)=all.take i++[all[i]]:=by rw[gB,Y5];rfl
  have hSi:h'.SetOf knd S (λx=>decide (x∈tN (all.take (i+1)))) (tN (all.take (i+1))).length:=by
   refine iC hS2 (λx=>?_) ?_
   .rw[et];by_cases XQ:all[i]∈tN (all.take i)
    .rw[yR,dg XQ];by_cases hx:x=all[i]
     .subst hx;simp[XQ]
     .simp[hx]
    .rw[yR,de XQ];by_cases hx:x=all[i]
     .subst hx;simp
     .simp[hx]
   .rw[et,yR];by_cases XQ:all[i]∈tN (all.take i)
    .rw[dg XQ];simp[XQ]
    .rw[de XQ];simp[XQ]
  refine dq ⟨kH gK _,ih (i+1) _ (by lia) XZ (W.frame _ s' _ _ hst' (gx _) λb hb o e=>?_) hSi λs'' hm'' hS''=>?_⟩
  .rw[hsb.2 b (λz:b=S=>hSf (z ▸ hb))];exact e
  .refine hR s'' (mQ W.gtrans ((hm.mono up).then_heap (gx _) λb o hb e=>?_) hm'') hS'';rw[hsb.2 b (λz:b=S=>hb (by rw[z];exact dI))];exact e
end
def Fm:isSubtype (.type "list") (.type "set")=pure lf:=by rw[jl];kernel_rfl
def BG:isSubtype (.type "list") (.type "frozenset")=pure lf:=by rw[jl];kernel_rfl
section
variable {prog:Pg}{w:Wo}{A:Ar}{E:QQX}{κ:Type}[DecidableEq κ][BEq κ][LawfulBEq κ]{knd:PySem.KeyKind prog w κ}{s:Sd}
set_option maxHeartbeats 4000000 in
def D8{l:Uf}{XO:Array Vl}{all:List κ}{Q:QQX}(hh:A.handled=Db)(hl:s.heap.IsList l XO)(hn:XO.size=all.length)(hi:∀(i:Nat) (v:Vl) (k:κ),XO[i]?=Fa v->all[i]?=Fa k->knd.is k v=pc/\v.scannable=pc)(hb:all.length+1<XXa) (h:∀(h':No) (tk:Nat),h'.SetOf knd s.heap.objs.size (λx=>decide (x∈tN all)) (tN all).length->(∀b o,s.heap.get? b=Fa o->h'.get? b=Fa o)->Q (.ref s.heap.objs.size) {s with heap:=h',toks:=tk}):
  pi (Tk prog w) A (call (.type "set") [.ref l]) Q E s:=by
 obtain⟨c,tl,hmro⟩:=fF.mro;have hmade:=fF.made;have ZC:=fF.sub;refine il (jY ?_);show pi _ _ (callAny (.type "set") _) _ _ _;refine dq ⟨iD _ (by decide+kernel),hU lN ?_⟩;rw[ly (kl "set" [.ref l] []) Z'];have h1:=fF.notType;have h2:=fF.canCreate;have hct:=me (.ref l)
 repeat (any_goals(first|assumption|wp_step))
 have fresh:∀Yi:Bool,(s.heap.push {cls:=.type "set",dict:=none,data:=.set #[] 0 (.fresh 0 0 Yi)}).get? s.heap.objs.size=Fa {cls:=.type "set",dict:=none,data:=.set #[] 0 (.fresh 0 0 Yi)}:=λYi=>dN _ Z';refine gy (code_set_new_1 (.ref l) (E:=E) (Q₁:=λobj s₁=>∃Yi:Bool,obj=Value.ref s.heap.objs.size/\s₁={s with heap:=s.heap.push {cls:=.type "set",dict:=none,data:=.set #[] 0 (.fresh 0 0 Yi)}}) λYi=>⟨Yi,Z',Z'⟩) λr s₁ hr=>?_;cases r with
 | error e=>exact hr
 | ok fl=>
  cases fl with
  | ret obj=>
   obtain⟨Yi,rfl,rfl⟩:=hr;have hS:=fresh Yi;have hT:Shared.TypeIs {s with heap:=s.heap.push {cls:=.type "set",dict:=none,data:=.set #[] 0 (.fresh 0 0 Yi)}} (.ref s.heap.objs.size) "set":=⟨_,hS,Z'⟩;have hli:=fF.init.lookup;have hbi:=fF.init.bind (.ref s.heap.objs.size)
   repeat (any_goals(first|assumption|wp_step))
   refine gy (io (R:=wants (λr s₂=>r=.none/\∃h' tk,s₂={s with heap:=h',toks:=tk}/\h'.SetOf knd s.heap.objs.size (λx=>decide (x∈tN all)) (tN all).length/\(∀b o,s.heap.get? b=Fa o->h'.get? b=Fa o)) E) fF.init.plain mf (mh hT ?_)) λr₂ s₂ hr₂=>?_
   .obtain⟨ol,hol,hcl,nl,hdl⟩:=hl;obtain⟨ocls,ZD,odata,Y6⟩:=ol;simp only at hcl hdl;subst hcl;subst hdl;have hol':(s.heap.push {cls:=.type "set",dict:=none,data:=.set #[] 0 (.fresh 0 0 Yi)}).get? l=Fa {cls:=.type "list",dict:=ZD,data:=.seq XO nl,slots:=Y6}:=df _ hol;have hsls:=Fm;have hslf:=BG;have hnd:(Value.type "list"==Value.type "dict")=lf:=by decide
    have hl1:(s.heap.push {cls:=.type "set",dict:=none,data:=.set #[] 0 (.fresh 0 0 Yi)}).IsList l XO:=⟨_,hol',Z',nl,Z'⟩;unfold Builtin.«set.__init__» noKeywords Builtin.Frozenset.updateFrom;generalize hPI:pyIter=PI
    wp_walk
    subst hPI;refine gR hl1 ?_;refine cX (wpAny_runValue ?_);have lS:l<s.heap.objs.size:=dD hol;have hh3:A.in1.in1.in1.handled=Db:=by simp[hh]
    have lI:l≠(s.heap.push {cls:=.type "set",dict:=none,data:=.set #[] 0 (.fresh 0 0 Yi)}).objs.size:=by rw[fB];exact dO (ib lS)
    have W:=(kB (prog:=prog) (w:=w) hh3 _ l lI XO).toS;rw[hn]at W;refine Hj W s.heap.objs.size ?hf (λi v k e1 e2=>hi i v k e1 e2) hb all.length 0 _ (by lia) (eE _) ⟨⟨_,dN _ Z',Z',Z'⟩,(hl1.push _)⟩ ?h0 ?hR;case hf=>rw[fB];simp only[dh,dG,eZ,fN];exact⟨dO (fE _),gW lS⟩
    case h0=>exact iC ((jq (knd:=knd) Yi).setOf (df _ hS) (by unfold XXa;lia)) (λ_=>rfl) Z'
    case hR=>intro s' hm Z8;obtain⟨h',g',d',tk',os'⟩:=s';have eg:g'=s.gens:=hm.gens;have ed:d'=s.drawn:=hm.drawn;have eo:os'=s.os:=hm.os;subst eg;subst ed;subst eo;refine dq ?_;show pi _ _ (ret Value.none) _ _ _;refine dq ⟨Z',h',tk',Z',Z8,λb o e=>?_⟩;have hb:=dD e;refine hm.heap b o ?_ (df _ (df _ e));rw[fB];simp only[dh,dG,eZ,fN];exact⟨dO hb,dO (ib hb)⟩
   .cases r₂ with
    | error e=>exact hr₂
    | ok fl₂=>
     cases fl₂ with
     | ret r=>
      obtain⟨rfl,h',tk,rfl,Z8,hk'⟩:=hr₂
      repeat (any_goals(first|assumption|wp_step))
      exact h _ _ Z8 hk'
     | _=>exact hr₂.elim
  | _=>exact hr.elim
end
def Dz:isSubtype (.type "tuple") (.type "set")=pure lf:=by rw[jl];kernel_rfl
def A0:isSubtype (.type "tuple") (.type "frozenset")=pure lf:=by rw[jl];kernel_rfl
section
variable {prog:Pg}{w:Wo}{A:Ar}{E:QQX}{κ:Type}[DecidableEq κ][BEq κ][LawfulBEq κ]{knd:PySem.KeyKind prog w κ}{s:Sd}
set_option maxHeartbeats 4000000 in
def Dp{l:Uf}{XO:Array Vl}{all:List κ}{Q:QQX}(hh:A.handled=Db)(hl:s.heap.IsTuple l XO)(hn:XO.size=all.length)(hi:∀(i:Nat) (v:Vl) (k:κ),XO[i]?=Fa v->all[i]?=Fa k->knd.is k v=pc/\v.scannable=pc)(hb:all.length+1<XXa) (h:∀(h':No) (tk:Nat),h'.SetOf knd s.heap.objs.size (λx=>decide (x∈tN all)) (tN all).length->(∀b o,s.heap.get? b=Fa o->h'.get? b=Fa o)->Q (.ref s.heap.objs.size) {s with heap:=h',toks:=tk}):
  pi (Tk prog w) A (call (.type "set") [.ref l]) Q E s:=by
 obtain⟨c,tl,hmro⟩:=fF.mro;have hmade:=fF.made;have ZC:=fF.sub;refine il (jY ?_);show pi _ _ (callAny (.type "set") _) _ _ _;refine dq ⟨iD _ (by decide+kernel),hU lN ?_⟩;rw[ly (kl "set" [.ref l] []) Z'];have h1:=fF.notType;have h2:=fF.canCreate;have hct:=me (.ref l)
 repeat (any_goals(first|assumption|wp_step))
 have fresh:∀Yi:Bool,(s.heap.push {cls:=.type "set",dict:=none,data:=.set #[] 0 (.fresh 0 0 Yi)}).get? s.heap.objs.size=Fa {cls:=.type "set",dict:=none,data:=.set #[] 0 (.fresh 0 0 Yi)}:=λYi=>dN _ Z';refine gy (code_set_new_1 (.ref l) (E:=E) (Q₁:=λobj s₁=>∃Yi:Bool,obj=Value.ref s.heap.objs.size/\s₁={s with heap:=s.heap.push {cls:=.type "set",dict:=none,data:=.set #[] 0 (.fresh 0 0 Yi)}}) λYi=>⟨Yi,Z',Z'⟩) λr s₁ hr=>?_;cases r with
 | error e=>exact hr
 | ok fl=>
  cases fl with
  | ret obj=>
   obtain⟨Yi,rfl,rfl⟩:=hr;have hS:=fresh Yi;have hT:Shared.TypeIs {s with heap:=s.heap.push {cls:=.type "set",dict:=none,data:=.set #[] 0 (.fresh 0 0 Yi)}} (.ref s.heap.objs.size) "set":=⟨_,hS,Z'⟩;have hli:=fF.init.lookup;have hbi:=fF.init.bind (.ref s.heap.objs.size)
   repeat (any_goals(first|assumption|wp_step))
   refine gy (io (R:=wants (λr s₂=>r=.none/\∃h' tk,s₂={s with heap:=h',toks:=tk}/\h'.SetOf knd s.heap.objs.size (λx=>decide (x∈tN all)) (tN all).length/\(∀b o,s.heap.get? b=Fa o->h'.get? b=Fa o)) E) fF.init.plain mf (mh hT ?_)) λr₂ s₂ hr₂=>?_
   .obtain⟨ol,hol,hcl,nl,hdl⟩:=hl;obtain⟨ocls,ZD,odata,Y6⟩:=ol;simp only at hcl hdl;subst hcl;subst hdl;have hol':(s.heap.push {cls:=.type "set",dict:=none,data:=.set #[] 0 (.fresh 0 0 Yi)}).get? l=Fa {cls:=.type "tuple",dict:=ZD,data:=.seq XO nl,slots:=Y6}:=df _ hol;have hsls:=Dz;have hslf:=A0;have hnd:(Value.type "tuple"==Value.type "dict")=lf:=by decide
    have hl1:(s.heap.push {cls:=.type "set",dict:=none,data:=.set #[] 0 (.fresh 0 0 Yi)}).IsTuple l XO:=⟨_,hol',Z',nl,Z'⟩;unfold Builtin.«set.__init__» noKeywords Builtin.Frozenset.updateFrom;generalize hPI:pyIter=PI
    wp_walk
    subst hPI;refine iE hl1 ?_;refine cX (wpAny_runValue ?_);have lS:l<s.heap.objs.size:=dD hol;have hh3:A.in1.in1.in1.handled=Db:=by simp[hh]
    have lI:l≠(s.heap.push {cls:=.type "set",dict:=none,data:=.set #[] 0 (.fresh 0 0 Yi)}).objs.size:=by rw[fB];exact dO (ib lS)
    have W:=(Walks.tuple (prog:=prog) (w:=w) hh3 _ l lI XO).toS;rw[hn]at W;refine Hj W s.heap.objs.size ?hf (λi v k e1 e2=>hi i v k e1 e2) hb all.length 0 _ (by lia) (eE _) ⟨⟨_,dN _ Z',Z',Z'⟩,(hl1.push _)⟩ ?h0 ?hR;case hf=>rw[fB];simp only[dh,dG,eZ,fN];exact⟨dO (fE _),gW lS⟩
    case h0=>exact iC ((jq (knd:=knd) Yi).setOf (df _ hS) (by unfold XXa;lia)) (λ_=>rfl) Z'
    case hR=>intro s' hm Z8;obtain⟨h',g',d',tk',os'⟩:=s';have eg:g'=s.gens:=hm.gens;have ed:d'=s.drawn:=hm.drawn;have eo:os'=s.os:=hm.os;subst eg;subst ed;subst eo;refine dq ?_;show pi _ _ (ret Value.none) _ _ _;refine dq ⟨Z',h',tk',Z',Z8,λb o e=>?_⟩;have hb:=dD e;refine hm.heap b o ?_ (df _ (df _ e));rw[fB];simp only[dh,dG,eZ,fN];exact⟨dO hb,dO (ib hb)⟩
   .cases r₂ with
    | error e=>exact hr₂
    | ok fl₂=>
     cases fl₂ with
     | ret r=>
      obtain⟨rfl,h',tk,rfl,Z8,hk'⟩:=hr₂
      repeat (any_goals(first|assumption|wp_step))
      exact h _ _ Z8 hk'
     | _=>exact hr₂.elim
  | _=>exact hr.elim
end
end L2
namespace HT
open PySem PyProof.Rows
variable {prog:Pg}{w:Wo}{A:Ar}{E:QQX}{s:Sd}
def Af{t sl:Uf}{vl vu:Vl}{lo hi:Option Int}{Q:QQX}(ht:IsTup s.heap t XO)(hs:s.heap.IsSliceOf sl vl vu .none)(pl:IsPart vl lo)(pu:IsPart vu hi) (hw:tV XO.size 0 lo=0/\tV XO.size XO.size hi=XO.size) (h:Q (.ref t) s):pi (Tk prog w) A (XXe (.ref t) (.ref sl)) Q E s:=by
 obtain⟨os,hos,hcs,YS⟩:=id hs;have hTs:s.TypeIs (.ref sl) "slice":=⟨os,hos,hcs⟩;unfold XXe
 try with_reducible refine eI ?_
 first|refine cX (dq ?_)|skip
 refine cX (jw ht.typeIs (by decide) ?_);refine cX (fO (name:=Str.ofString "__getitem__") ht.typeIs fJ (gq fJ ht.typeIs kM ?_ (lj _ _)));show pi _ _ (Builtin.Tuple.tupleItemsOf (.ref t)>>=_) _ _ s;refine cX (tupleItemsOf_ ht ?_);refine cX (jM hTs ?_);rw[dg (by decide)];refine cX (xj hs pl pu ?_);have yes:(((tV XO.size 0 lo:Nat):Int)==0&&(1:Int)==1&&(tV XO.size XO.size hi - tV XO.size 0 lo)==XO.size)=pc:=by rw[hw.1,hw.2];simp
 show pi _ _ (if (((tV XO.size 0 lo:Nat):Int)==0&&(1:Int)==1&&(tV XO.size XO.size hi - tV XO.size 0 lo)==XO.size)=pc then _ else _) _ _ s;rw[dg yes];have hT:=ht.typeIs;obtain⟨hp,g,d,tk,o⟩:=s
 repeat (any_goals(first|assumption|wp_step))
 exact⟨_,Z',dq h⟩
end HT
namespace L2
variable {X:Cx}{p p2 pos ZE:Pos}{e:Go}{te:TE}
section
def W5(K:qM):V->Option Int->Option Int->Hp->VK->Prop:=λx lo hi H Q=>∃a xs,x=.ref a/\vA K H a xs/\(HT.tV xs.length 0 lo=0/\HT.tV xs.length xs.length hi=xs.length)/\Q (.ref a) H
def RS:UM X (W5 X.K):=by
 intro XN s Y H x v vl vu lo hi sl Q I rx hs pl pu h;obtain⟨a,xs,rfl,hx,hw,q⟩:=h;cases rx;obtain⟨its,r,ht,hz⟩:=I.tuple hx;have XW:its.toArray.size=xs.length:=by rw[dB];exact r.length.symm
 exact⟨"tuple",_,fJ.lookup,ht.typeIs,HT.Af ht hs pl pu (by rw[XW];exact hw) ⟨.ref a,H,I,Z',q⟩⟩
local instance (priority:=5000) keyBEq:BEq rP:=instBEqOfDecidableEq
local instance (priority:=5000) keyLaw:LawfulBEq rP:=inferInstanceAs (LawfulBEq (Sum Int Str))
def OS(K:qM)(te:TE):TE:=λY H Q=>te Y H λx H1=>∃a,∃ss:QQQ,x=.ref a/\(zJ K H1 a (ss.map V.str)\/vA K H1 a (ss.map V.str))/\ss.length+1<XXa/\Q (.int (tN ss).length) H1
def GH{ss:QQQ}(r:qT (ss.map V.str) us):us.length=ss.length/\∀(i:Nat) (v:Vl) (k:rP),us[i]?=Fa v->(ss.map λx=>(Sum.inr x:rP))[i]?=Fa k->(rY P w).is k v=pc/\v.scannable=pc:=by
 refine⟨by rw[<-r.length,cW],λi v k e1 e2=>?_⟩;rw[dz]at e2;cases q:ss[i]? with
 | none=>rw[q]at e2;cases e2
 | some x=>rw[q]at e2;cases e2;obtain⟨u,e3,t,rfl⟩:=r.get (i:=i) (x:=V.str x) (by rw[dz,q];rfl);rw[e3]at e1;cases e1;exact⟨Bj P w x t,Z'⟩
def Md{ss:QQQ}:(tN (ss.map λx=>(Sum.inr x:rP))).length=(tN ss).length:=by
 have go:∀(l acc:QQQ),(l.map λx=>(Sum.inr x:rP)).foldl (λacc k=>if k∈acc then acc else acc++[k]) (acc.map Sum.inr)=(l.foldl (λacc k=>if k∈acc then acc else acc++[k]) acc).map Sum.inr:=by
  intro l;induction l with
  | nil=>intro acc;rfl
  | cons k r ih=>
   intro acc;rw[dY,gh,gh];have hm:(Sum.inr k:rP)∈acc.map Sum.inr↔k∈acc:=by
    rw[dF];constructor
    .rintro ⟨y,h1,h2⟩;cases h2;exact h1
    .exact λh=>⟨k,h,Z'⟩
   by_cases h:k∈acc
   .rw[dg h,dg (hm.mpr h)];exact ih acc
   .rw[de h,de λz=>h (hm.mp z)];have:=ih (acc++[k]);rw[dM]at this;exact this
 have:=go ss [];unfold tN;rw[iV]at this;rw[this,cW]
def K1(hc:X.calm=pc)(he:PE X e te)(hg1:Gl X "len")(XQ:X.mg "len"=Db)(hg2:Gl X "set")(X6:X.mg "set"=Db)(b1:zn "len"=Fa (.builtin "len"))(b2:zn "set"=Fa (.type "set")) (hs:Tl [e] X.env=[(lf,wp e X.env)]:=by rfl):PE X (.Call (.Name "len" p) [.Call (.Name "set" p2) [e] [] ZE] [] pos) (OS X.K te):=by
 intro XN s Y H Q I h;refine gu (ya I hg1 XQ b1 ?_);refine iT ?_ Z' Z';show pi _ _ (spliced ((lf,wp (.Call (.Name "set" p2) [e] [] ZE) X.env)::wv pos (Tl [] X.env))) _ _ s;refine jo ?_;refine gu (ya I hg2 X6 b2 ?_);refine gg ?_ hs Z';rw[hs];show pi _ _ (spliced ((lf,wp e X.env)::wv ZE (Tl [] X.env))) _ _ s;refine jo (sZ (he XN s Y H _ I h) λu s1 ⟨x,H1,I1,r1,a,ss,ex,hq,hb,q⟩=>jv ?_);subst ex;obtain rfl:u=Value.ref a:=r1;have YJ:(ss.map λx=>(Sum.inr x:rP)).length+1<XXa:=by rw[cW];exact hb
 have XT:∀(h':No) (tk:Nat),h'.SetOf (rY X.prog X.w) s1.heap.objs.size (λx=>decide (x∈tN (ss.map λx=>(Sum.inr x:rP)))) (tN (ss.map λx=>(Sum.inr x:rP))).length->(∀b o,s1.heap.get? b=Fa o->h'.get? b=Fa o)->
   pi (Tk X.prog X.w) X.A (spliced (wv pos (Tl [] X.env))) (λvs s₁=>pi (Tk X.prog X.w) X.A (call (.builtin "len") (.ref s1.heap.objs.size::vs)) (EP X XN Y Q) X.xe s₁) X.xe {s1 with heap:=h',toks:=tk}:=λh' tk hS keep=>by
  refine jv ?_;obtain⟨o,es,ep,t,ho,hex,hd,_,_,hz,hf,hn⟩:=hS;have XZ:(es.size:Int)<2 ^ 63:=by have:XXa=4096:=rfl;lia
  refine call_len_set ho hex hd hf XZ ?_;refine⟨.int es.size,H1,I1.kept keep,⟨_,Z'⟩,?_⟩;rw[hn,Md];exact q
 rcases hq with hq|hq
 .obtain⟨its,r,pl,hz⟩:=I1.list hq;obtain⟨k1,k2⟩:=GH (P:=X.prog) (w:=X.w) r;exact L2.D8 (knd:=rY X.prog X.w) (all:=ss.map λx=>(Sum.inr x:rP)) (I1.ok.hd hc) pl.isList (by rw[dB,k1,cW]) (λi v k e1 e2=>k2 i v k (by simpa using e1) e2) YJ XT
 .obtain⟨its,r,pl,hz⟩:=I1.tuple hq;obtain⟨k1,k2⟩:=GH (P:=X.prog) (w:=X.w) r;exact L2.Dp (knd:=rY X.prog X.w) (all:=ss.map λx=>(Sum.inr x:rP)) (I1.ok.hd hc) pl (by rw[dB,k1,cW]) (λi v k e1 e2=>k2 i v k (by simpa using e1) e2) YJ XT
end
variable {XN:T0 (Uf × Obj)}{Y:St}{H:Hp}{s:Sd}
theorem Eu(I:Inv X XN Y H s):∀(ts:QXQ) (kvs:T0 (rP×V)),ts.length=kvs.length->(∀(j:Nat) (t:Uf) (p:rP×V),ts[j]?=Fa t->kvs[j]?=Fa p->vA X.K H t [kV p.1,p.2])->
  ∃(us:T0 Vl) (all:T0 (rP×Vl)),us.length=kvs.length/\KV kvs all/\∀(j:Nat) (t:Uf) (p:rP×Vl),ts[j]?=Fa t->all[j]?=Fa p->∃u,us[j]?=Fa u/\s.heap.IsTuple t #[u,p.2]/\(rY X.prog X.w).is p.1 u=pc
 | [],[],_,_=>⟨[],[],Z',.nil,λj t p e=>by simp at e⟩
 | [],_::_,h,_=>by simp at h
 | _::_,[],h,_=>by simp at h
 | t::ts,(k,v)::kvs,h,hq=>by
  obtain⟨us,all,h1,h2,h3⟩:=Eu I ts kvs (by simpa using h) (λj t p e1 e2=>hq (j+1) t p (by simpa using e1) (by simpa using e2));obtain⟨its,r,pl,_⟩:=I.tuple (hq 0 t (k,v) (by simp) (by simp));cases r with
  | cons r1 r2=>
   cases r2 with
   | cons r3 r4=>
    cases r4;rename_i u w;refine⟨u::us,(k,w)::all,by simpa using h1,.cons ⟨Z',r3⟩ h2,λj t' p e1 e2=>?_⟩;cases j with
    | zero=>
     have e1':t=t':=by simpa using e1
     have Z2:(k,w)=p:=by simpa using e2
     subst e1' Z2;exact⟨u,by simp,pl,GZ r1⟩
    | succ j=>simpa using h3 j t' p (by simpa using e1) (by simpa using e2)
theorem NV:∀{kvs:T0 (rP×V)} {all:T0 (rP×Vl)},KV kvs all->all.map (·.1)=kvs.map (·.1)
 | _,_,.nil=>rfl
 | _,_,.cons r rs=>by rw[dY,dY,NV rs,r.1]
def Iy(hc:X.calm=pc):Av X (.type "dict") (λxs H Q=>∃l,∃ts:QXQ,∃kvs:T0 (rP×V),xs=[V.ref l]/\zJ X.K H l (ts.map V.ref)/\ts.length=kvs.length/\
  (∀(j:Nat) (t:Uf) (p:rP×V),ts[j]?=Fa t->kvs[j]?=Fa p->vA X.K H t [kV p.1,p.2])/\(kvs.map (·.1)).Nodup/\∀d,H d=Db->Q (.ref d) (upd H d (.dK kvs))):=by
 intro XN s Y H xs us Q I r h;obtain⟨l,ts,kvs,rfl,hl,XW,hq,hnd,q⟩:=h;obtain⟨u,rfl,ru⟩:=yu r;cases ru;obtain⟨its,rv,⟨⟨c1,d1,t1,sl1⟩,n,g1,e1,e2,e3⟩,hz⟩:=I.list hl;simp only at e1 e2 e3;subst e1 e2 e3;obtain⟨ks,all,h1,h2,h3⟩:=Eu I ts kvs XW hq;have la:all.length=kvs.length:=(jt h2).symm;have li:its.length=kvs.length:=by rw[<-rv.length,cW,XW]
 have zl:all.length<=Ch:=by rw[la,<-XW];simpa using hz
 have at_:∀(j:Nat) (p:rP×Vl),all[j]?=Fa p->∃t,ts[j]?=Fa t:=λj p e=>by have:=(cY.mp e).1;exact⟨ts[j],c9 (by lia)⟩
 refine Bp (knd:=rY X.prog X.w) (all:=all) (λj=>(ks[j]?).getD .none) (λj=>(ts[j]?).getD 0) (I.ok.hd hc) g1 (λj v e=>?_) (by rw[dB,li,la]) (λj p e=>?_) (λj p e=>?_) zl λh' tk hD keep=>?_
 .have e':its[j]?=Fa v:=by simpa using e
  have hj:=(cY.mp e').1;have hj2:j<ts.length:=by lia
  obtain⟨w,e4,e5⟩:=rv.get (i:=j) (x:=V.ref ts[j]) (by rw[dz,c9 hj2];rfl);rw[e']at e4;cases e4;show v=Value.ref ((ts[j]?).getD 0);rw[c9 hj2];exact e5
 .obtain⟨t,et⟩:=at_ j p e;obtain⟨u,e4,e5,_⟩:=h3 j t p et e;show s.heap.IsTuple ((ts[j]?).getD 0) #[(ks[j]?).getD .none,p.2];rw[et,e4];exact e5
 .obtain⟨t,et⟩:=at_ j p e;obtain⟨u,e4,_,e6⟩:=h3 j t p et e;show(rY X.prog X.w).is p.1 ((ks[j]?).getD .none)=pc;rw[e4];exact e6
 .rw[merged_nil_of_nodup all (by rw[NV h2];exact hnd)]at hD;have fr:=I.m9.fresh (dw s.heap.objs.size);exact⟨.ref s.heap.objs.size,_,I.laid (t':=tk) (o:=.dK kvs) keep (dw _) (Nb (by rw[<-la];exact zl) (gH.mpr (dS (dO I.big))) h2 hD),Z',q _ fr⟩
def Wl:R2:=λx y H Q=>∃a v,x=.ref a/\Fg H a y (Fa v)/\Q v H
def QN(hu:X.A.units+1<Y'):Uq X Wl:=by
 intro value X3 XN s Y H x y o i Q I rx ry h hs;obtain⟨a,v,rfl,g,q⟩:=h;obtain rfl:o=Value.ref a:=rx;have hT:=GF I g;have h2:pi (Tk X.prog X.w) X.A (XXe (.ref a) i) (EP X XN Y Q) X.xe s:=KO hu I g ry λw' s3 I3 YZ=>⟨v,H,I3,YZ,q⟩;unfold subscriptTail;refine cX ?_;rw[km hT.not_modules];refine cX (iX hT jC.lookup ?_);have XT:pi (Tk X.prog X.w) X.A (subscripted X3 lf (.ref a) i) (λr s₃=>pi (Tk X.prog X.w) X.A (letTemporaryGo value (.ref a) r>>=λ_=>pure r) (EP X XN Y Q) X.xe s₃) X.xe s:=by rw[hs];exact wpAny_operating (eD h2 (λr s₃ h₃=>cX (kC (dq h₃))) λ_ _ x=>x)
 first
  | exact dq (cX XT)
  | exact cX (dq (cX XT))
  | exact cX XT
def Sl(hu:X.A.units+1<Y'):yj X (Ps .In) (λx y H Q=>∃a o,y=.ref a/\Fg H a x o/\Q (.bl o.isSome) H):=by intro XN s Y H x y v u Q I rx ry h;obtain⟨a,o,rfl,g,q⟩:=h;obtain rfl:u=Value.ref a:=ry;exact WH hu I g rx λs3 I3=>⟨.bl o.isSome,H,I3,Z',q⟩
variable {prog:Pg}{w:Wo}{A:Ar}{E:QQX}{a:Uf}{U:Type}{k:Str}{tk:Tok}
section
variable {R:U→Vl→Prop}{D:T0 (Str × U)}
def zr(T:KTD.TabOf R s.heap a D):s.TypeIs (.ref a) "dict":=let⟨_,o,_,_,ho,hc,_⟩:=T;⟨o,ho,hc.1⟩
def Jc{Q:Option Vl->Sd->Prop}(T:KTD.TabOf R s.heap a D)(h1:∀d v,KTD.datumAt k D=Fa d->R d v->Q (Fa v) {s with toks:=s.toks+1})(h2:KTD.datumAt k D=Db->Q Db {s with toks:=s.toks+1}):
  pi (Tk prog w) A (dictGet a (.str k tk)) Q E s:=by
 obtain⟨_,o,es,ep,ho,hc,hd,hr⟩:=T;have hq:Q (findBy (λk v=>v.isStr k) es k) {s with toks:=s.toks+1}:=by
  have hf:findBy (λk v=>v.isStr k) es k=(es.toList.find? λe=>e.key.isStr k).map (·.val):=by obtain⟨l⟩:=es;simp[findBy]
  rw[hf];cases hat:KTD.datumAt k D with
  | none=>rw[hr.find_none hat];exact h2 hat
  | some d=>obtain⟨v,hv,hfl⟩:=hr.find_some hat;rw[hv];exact h1 d v hat hfl
 have Yy:(es.all λe=>isExactStrKey e.key)=pc:=by
  obtain⟨l⟩:=es
  simpa using hr.exact
 unfold dictGet
 try with_reducible refine eI ?_
 refine cX (lV (cX (KTD.kt_dictFind_strs (s:={s with toks:=s.toks+1}) ho hd Yy ?_)));rw[findBy_of_findIdx?]at hq;cases hi:es.findIdx? λe=>e.key.isStr k with
 | none=>rw[hi]at hq;exact dq hq
 | some i=>rw[hi]at hq;exact cX (wpAny_dictEntries (s:={s with toks:=s.toks+1}) ho hd (dq hq))
def TC{Q:QQX}(T:KTD.TabOf R s.heap a D)(h:Q (.bool (KTD.datumAt k D).isSome) {s with toks:=s.toks+1}):pi (Tk prog w) A (Ps .In (.str k tk) (.ref a)) Q E s:=by
 have hT:=zr T;show pi _ _ (do return .bool (<-contains (.ref a) (.str k tk))) Q E s;refine cX ?_;unfold contains
 try with_reducible refine eI ?_
 refine cX (iX hT jr.lookup ?_);show pi _ _ (if (Fa (Value.builtin "dict.__contains__")==Fa Value.none)=pc then _ else _) _ E s;rw[de (by rw[beq_builtin_none];exact dC)];refine cX (wpAny_callSpecialUnlessNone?_slot (name:=Str.ofString "__contains__") hT jr (gq jr hT entry_dict_contains ?_ (args_dict_contains _ _)));show pi _ _ (dictGet a (.str k tk)>>=_) _ _ s;refine cX (Jc T (λd v ha _=>?_) λhn=>?_)
 .rw[ha]at h;show pi _ _ (ret (.bool pc)) _ _ _;exact dq ⟨_,Z',fz (dq h)⟩
 .rw[hn]at h;show pi _ _ (Builtin.Dict.pendingKey? a (.str k tk)>>=_) _ _ _;exact cX (wpAny_pendingKey_other T.1 (dq ⟨_,Z',fz (dq h)⟩))
def Np{Q:QQX}{d:U}(T:KTD.TabOf R s.heap a D)(hd:KTD.datumAt k D=Fa d)(h:∀v,R d v->Q v {s with toks:=s.toks+1}):pi (Tk prog w) A (XXe (.ref a) (.str k tk)) Q E s:=by
 have hT:=zr T;unfold XXe
 try with_reducible refine eI ?_
 refine cX (jw hT (by decide) ?_);refine cX (fO (name:=Str.ofString "__getitem__") hT lO (gq lO hT entry_dict_getitem ?_ (args_dict_getitem _ _)));show pi _ _ (dictGet a (.str k tk)>>=_) _ _ s;refine cX (Jc T (λd' v ha hv=>dq ⟨v,Z',dq (h v ?_)⟩) λhn=>?_)
 .rw[hd]at ha;cases ha;exact hv
 .rw[hd]at hn;cases hn
end
def ND(K:qM)(mg:QQZ)(x:Str)(F:T0 (Str×QQQ)):Prop:=∃a o es ep,mg x=Fa (.ref a)/\(a==XV)=lf/\K.lookup a=Fa o/\o.ExactDict/\o.data=.dict es ep/\
 KTD.Rows (λ(ss:QQQ) v=>∃t,v=Value.ref t/\vA K (λ_=>Db) t (ss.map V.str)) es.toList F
variable {x:Str}{F:T0 (Str × QQQ)}
def JK{K:qM}(h:vA K (λ_=>Db) t xs):vA K H t xs:=by
 rcases h with(h|⟨o,h⟩)|h
 .cases h
 .cases h
 .exact .inr h
def Hk{K:qM}(T:ND K mg x F):∃a,mg x=Fa (.ref a)/\∀h:No,K.In h->KTD.TabOf (λ(ss:QQQ) v=>∃t,v=Value.ref t/\vA K (λ_=>Db) t (ss.map V.str)) h a F:=by obtain⟨a,o,es,ep,h1,h2,h3,h4,h5,h6⟩:=T;exact⟨a,h1,λh hk=>⟨h2,o,es,ep,hk a o h3,h4,h5,h6⟩⟩
noncomputable def Wp(x:Str):It:=⟨λi _=>i<x.cps.size,λi H v H'=>H'=H/\∃c,x.cps[i]?=Fa c/\v=.str ⟨#[c]⟩,λi _=>i=x.cps.size⟩
def Hv{K:qM}{ty:String}{x:Str}{t:Tok}(it:Uf)(W:∀A':Ar,A'.handled=Db->Walks P w A' it [it] [it] x.cps.size (SignAt x) (λi h=>h.IsStrIter it ty x t i)) (hself:∀(A:Ar) (i:Nat) (s:Sd) (Q:QQX) (E:QQX),s.heap.IsStrIter it ty x t i->Q (.ref it) s->pi (Tk P w) A (pyIter (.ref it)) Q E s) (hn:["enumerate","zip","dict_itemiterator","dict_reverseitemiterator","odict_iterator","itertools.zip_longest","itertools.pairwise"].contains ty=lf):GA P w K tg (Wp x) [it] it (λi h=>h.IsStrIter it ty x t i) where
 mem:=by simp
 obj:=λi h st b hb=>by
  obtain rfl:b=it:=by simpa using hb
  obtain⟨o,e,c,d⟩:=st;exact⟨o,e,λv z=>by rw[d]at z;cases z⟩
 keep:=λi h h' st k=>by obtain⟨o,e,r⟩:=st;exact⟨o,k it (by simp) o e,r⟩
 item:=by intro X hP hw hK hc i XN s Y H E I hf st hg;subst hP hw hK;obtain⟨f0,f1,f2,f3,f4,f5⟩:=hf it (by simp);refine(W X.A (I.ok.hd hc)).item i s _ _ hg st λv h' tk hv Zb kp=>?_;obtain⟨c,u,e1,e2⟩:=hv;have I1:Inv X XN Y H {s with heap:=h',toks:=tk}:=I.turned (t':=tk) (λb o hb e=>kp b o (by simpa using hb) e) f0 f1 f3 f4 f5;obtain⟨o,e,cl,d⟩:=id Zb;exact⟨v,Z',JT (s:={s with heap:=h',toks:=tk}) e cl d hn ⟨.str ⟨#[c]⟩,H,I1,⟨u,e2⟩,⟨Z',c,e1,Z'⟩,Zb,λb hb=>(hf b hb).1⟩⟩
 done:=by intro X hP hw hK hc i XN s Y H E I hf st hg;subst hP hw hK;obtain⟨f0,f1,f2,f3,f4,f5⟩:=hf it (by simp);obtain rfl:i=x.cps.size:=hg;exact(W X.A (I.ok.hd hc)).done s _ _ st λh' tk kp=>⟨Z',I.turned (t':=tk) (λb o hb e=>kp b o (by simpa using hb) e) f0 f1 f3 f4 f5⟩
 self:=hself
variable {tg:Go}
def Qc(hc:X.calm=pc)(hl:PE X l tl):PI X tg l (λY H R=>tl Y H λx H1=>(∃a,x=.ref a/\(((∃xs,zJ X.K H1 a xs)/\R (Wb X.K a) H1)\/((∃xs,vA X.K H1 a xs)/\R (WV X.K a) H1)))\/∃z,x=.str z/\R (Wp z) H1):=by
 intro XN s Y H R I h;refine sZ (hl XN s Y H _ I h) λv s1 zz=>x5 zz λx H1 I1 r1 q1=>?_;rcases q1 with⟨a,e,q1⟩|⟨z,e,q⟩
 .subst e;cases r1;rcases q1 with⟨⟨xs,hq⟩,q⟩|⟨⟨xs,hq⟩,q⟩
  .obtain⟨its,rv,p,hz⟩:=I1.list hq;refine gR p.isList ?_;refine⟨s1.heap.objs.size,[s1.heap.objs.size],_,_,H1,Z',I1.kept (t':=s1.toks) λb o e=>df _ e,K5 a _,⟨_,dN _ Z',Z',Z'⟩,λb hb=>?_,q⟩;obtain rfl:b=s1.heap.objs.size:=by simpa using hb
   exact I1.oo (dw _) (I1.m9.fresh (dw _))
  .obtain⟨its,rv,p,hz⟩:=I1.tuple hq;refine iE (show s1.heap.IsTuple a its.toArray from p) ?_;refine⟨s1.heap.objs.size,[s1.heap.objs.size],_,_,H1,Z',I1.kept (t':=s1.toks) λb o e=>df _ e,Ii a _,⟨_,dN _ Z',Z',Z'⟩,λb hb=>?_,q⟩;obtain rfl:b=s1.heap.objs.size:=by simpa using hb
   exact I1.oo (dw _) (I1.m9.fresh (dw _))
 .subst e;obtain⟨t,rfl⟩:=r1;have fp:∀b∈[s1.heap.objs.size],BF X XN H1 b:=λb hb=>by
   obtain rfl:b=s1.heap.objs.size:=by simpa using hb
   exact I1.oo (dw _) (I1.m9.fresh (dw _))
  cases ha:z.cps.all (·<128)
  .refine wpAny_pyIter_wide ha ?_;exact⟨s1.heap.objs.size,[s1.heap.objs.size],_,_,H1,Z',I1.kept (t':=s1.toks) λb o e=>df _ e,Hv _ (λA' hA=>Walks.strWide hA _ z t) (λA i s Q E st h=>wpAny_pyIter_striter_wide st h) (by decide),⟨_,dN _ Z',Z',Z'⟩,fp,q⟩
  .refine wpAny_pyIter_ascii ha ?_;exact⟨s1.heap.objs.size,[s1.heap.objs.size],_,_,H1,Z',I1.kept (t':=s1.toks) λb o e=>df _ e,Hv _ (λA' hA=>Walks.strAscii hA _ z t) (λA i s Q E st h=>wpAny_pyIter_striter_ascii st h) (by decide),⟨_,dN _ Z',Z',Z'⟩,fp,q⟩
end L2
namespace L2
inductive CP{α0:Sort u}{α1:Sort v}(p:α0->α1->Prop):Prop
 | mk (a0:α0) (a1:α1) (h:p a0 a1):CP p
inductive Ea{α0:Sort u}{α1:Sort v}{α2:Sort w}(p:α0->α1->α2->Prop):Prop
 | mk (a0:α0) (a1:α1) (a2:α2) (h:p a0 a1 a2):Ea p
def x7{α:Sort u}{β:Sort v}{γ:Sort w}{p q r s:α->β->γ->Prop}{C:Prop}(h:Ea λa b c=>p a b c/\q a b c/\r a b c/\s a b c)(f:∀a b c,p a b c->q a b c->r a b c->s a b c->C):C:=by obtain⟨a,b,c,h1,h2,h3,h4⟩:=h;exact f a b c h1 h2 h3 h4
def Ln{α:Sort u}{β:Sort v}{γ:Sort w}{p q r s s1 s2 s3:α->β->γ->Prop}{C:Prop}(h:Ea λa b c=>p a b c/\q a b c/\r a b c/\s a b c/\s1 a b c/\s2 a b c/\s3 a b c)(f:∀a b c,p a b c->q a b c->r a b c->s a b c->s1 a b c->s2 a b c->s3 a b c->C):C:=by obtain⟨a,b,c,h1,h2,h3,h4,h5,h6,h7⟩:=h;exact f a b c h1 h2 h3 h4 h5 h6 h7
inductive CO{α0:Sort u}{α1:Sort v}{α2:Sort w}{α3:Sort u1}(p:α0->α1->α2->α3->Prop):Prop
 | mk (a0:α0) (a1:α1) (a2:α2) (a3:α3) (h:p a0 a1 a2 a3):CO p
inductive HE{α0:Sort u}{α1:Sort v}{α2:Sort w}{α3:Sort u1}{α4:Sort u2}(p:α0->α1->α2->α3->α4->Prop):Prop
 | mk (a0:α0) (a1:α1) (a2:α2) (a3:α3) (a4:α4) (h:p a0 a1 a2 a3 a4):HE p
inductive K0{α0:Sort u}{α1:Sort v}{α2:Sort w}{α3:Sort u1}{α4:Sort u2}{α5:Sort u3}(p:α0->α1->α2->α3->α4->α5->Prop):Prop
 | mk (a0:α0) (a1:α1) (a2:α2) (a3:α3) (a4:α4) (a5:α5) (h:p a0 a1 a2 a3 a4 a5):K0 p
inductive Ry{α0:Sort u}{α1:Sort v}{α2:Sort w}{α3:Sort u1}{α4:Sort u2}{α5:Sort u3}{α6:Sort u4}(p:α0->α1->α2->α3->α4->α5->α6->Prop):Prop
 | mk (a0:α0) (a1:α1) (a2:α2) (a3:α3) (a4:α4) (a5:α5) (a6:α6) (h:p a0 a1 a2 a3 a4 a5 a6):Ry p
inductive OX{α0:Sort u}{α1:Sort v}{α2:Sort w}{α3:Sort u1}{α4:Sort u2}{α5:Sort u3}{α6:Sort u4}{α7:Sort u5}(p:α0->α1->α2->α3->α4->α5->α6->α7->Prop):Prop
 | mk (a0:α0) (a1:α1) (a2:α2) (a3:α3) (a4:α4) (a5:α5) (a6:α6) (a7:α7) (h:p a0 a1 a2 a3 a4 a5 a6 a7):OX p
inductive VB{α0:Sort u}{α1:Sort v}{α2:Sort w}{α3:Sort u1}{α4:Sort u2}{α5:Sort u3}{α6:Sort u4}{α7:Sort u5}{α8:Sort u6}(p:α0->α1->α2->α3->α4->α5->α6->α7->α8->Prop):Prop
 | mk (a0:α0) (a1:α1) (a2:α2) (a3:α3) (a4:α4) (a5:α5) (a6:α6) (a7:α7) (a8:α8) (h:p a0 a1 a2 a3 a4 a5 a6 a7 a8):VB p
inductive Oi{α0:Sort u}{α1:Sort v}{α2:Sort w}{α3:Sort u1}{α4:Sort u2}{α5:Sort u3}{α6:Sort u4}{α7:Sort u5}{α8:Sort u6}{α9:Sort u7}(p:α0->α1->α2->α3->α4->α5->α6->α7->α8->α9->Prop):Prop
 | mk (a0:α0) (a1:α1) (a2:α2) (a3:α3) (a4:α4) (a5:α5) (a6:α6) (a7:α7) (a8:α8) (a9:α9) (h:p a0 a1 a2 a3 a4 a5 a6 a7 a8 a9):Oi p
inductive VM{α0:Sort u}{α1:Sort v}{α2:Sort w}{α3:Sort u1}{α4:Sort u2}{α5:Sort u3}{α6:Sort u4}{α7:Sort u5}{α8:Sort u6}{α9:Sort u7}{α10:Sort u8}(p:α0->α1->α2->α3->α4->α5->α6->α7->α8->α9->α10->Prop):Prop
 | mk (a0:α0) (a1:α1) (a2:α2) (a3:α3) (a4:α4) (a5:α5) (a6:α6) (a7:α7) (a8:α8) (a9:α9) (pJ:α10) (h:p a0 a1 a2 a3 a4 a5 a6 a7 a8 a9 pJ):VM p
end L2
namespace L2
open PySem
def Vv(a C:Uf)(h:No):Prop:=CP λoe vs=>h.get? a=Fa oe/\oe.cls=.ref C/\oe.data=.fields vs/\oe.dict=Db
end L2
namespace L3
open L2
inductive D where
 | mY|bl (b:Bool)|int (i:Int)|str (x:Str)|tup (ds:List D)|ref (a:Uf)|ty (n:String)
 | rl (ds:List D)
def PM(K:qM)(H:Hp)(a:Uf)(xs:T0 V):Prop:=(∃o,H a=Fa (.frz o (.lst xs)))\/
 ∃(o:Obj) (its:Array Vl) (n:Nat),K.lookup a=Fa o/\o.cls=.type "list"/\o.dict=Db/\o.data=.seq its n/\its.size<=Ch/\qT xs its.toList
def PM.sq{K:qM}(h:PM K H a xs):zJ K H a xs:=by
 rcases h with⟨o,h⟩|h
 .exact .inl (.inr ⟨o,h⟩)
 .exact .inr h
mutual
def sj(K:qM)(H:Hp):D->V->Prop
 | .mY,v=>v=.mY
 | .bl b,v=>v=.bl b
 | .int i,v=>v=.int i
 | .str x,v=>v=.str x
 | .ref a,v=>v=.ref a
 | .ty n,v=>v=.ty n
 | .tup ds,v=>∃a xs,v=.ref a/\vA K H a xs/\qF K H ds xs
 | .rl ds,v=>∃a xs,v=.ref a/\PM K H a xs/\qF K H ds xs
def qF(K:qM)(H:Hp):T0 D->T0 V->Prop
 | [],xs=>xs=[]
 | d::ds,xs=>∃x r,xs=x::r/\sj K H d x/\qF K H ds r
end
structure rA(K:qM)(H H':Hp):Prop where
 t:∀a xs,vA K H a xs->vA K H' a xs
 f:∀a o xs,H a=Fa (.frz o (.lst xs))->H' a=Fa (.frz o (.lst xs))
def rA.refl{K:qM}:rA K H H:=⟨λ_ _ h=>h,λ_ _ _ h=>h⟩
def rA.trans{K:qM}(a:rA K H H1)(b:rA K H1 H2):rA K H H2:=⟨λc xs h=>b.t c xs (a.t c xs h),λc o xs h=>b.f c o xs (a.f c o xs h)⟩
def rA.upd{K:qM}(h:∀xs,¬Rd H p (.tup xs))(h':∀u xs,H p≠Fa (.frz u (.lst xs))):rA K H (upd H p o):=⟨λa xs q=>by
 rcases q with q|q
 .have ne:a≠p:=λz=>h xs (z ▸ q);rcases q with q|⟨u,q⟩
  .exact .inl (.inl (by rw[qw ne];exact q))
  .exact .inl (.inr ⟨u,by rw[qw ne];exact q⟩)
 .exact .inr q,λa u xs q=>by
 have ne:a≠p:=λz=>h' u xs (z ▸ q);rw[qw ne];exact q⟩
def rA.new{K:qM}{H:Hp}{p:Uf}(h:H p=Db):rA K H (L2.upd H p o):=.upd (λxs q=>by
 rcases q with q|⟨u,q⟩<;>(rw[h]at q;cases q)) λu xs q=>by rw[h]at q;cases q
def PM.mono{K:qM}(e:rA K H H')(h:PM K H a xs):PM K H' a xs:=by
 rcases h with⟨o,h⟩|h
 .exact .inl ⟨o,e.f a o xs h⟩
 .exact .inr h
mutual
theorem sj.mono{K:qM}(e:rA K H H'):∀{d:D} {v:V},sj K H d v->sj K H' d v
 | .mY,_,h=>h
 | .bl _,_,h=>h
 | .int _,_,h=>h
 | .str _,_,h=>h
 | .ref _,_,h=>h
 | .ty _,_,h=>h
 | .tup ds,v,h=>by unfold sj at h ⊢;obtain⟨a,xs,e1,e2,e3⟩:=h;exact⟨a,xs,e1,e.t _ _ e2,qF.mono e e3⟩
 | .rl ds,v,h=>by unfold sj at h ⊢;obtain⟨a,xs,e1,e2,e3⟩:=h;exact⟨a,xs,e1,e2.mono e,qF.mono e e3⟩
theorem qF.mono{K:qM}(e:rA K H H'):∀{ds:T0 D} {xs:T0 V},qF K H ds xs->qF K H' ds xs
 | [],_,h=>h
 | d::ds,xs,h=>by unfold qF at h ⊢;obtain⟨x,r,e1,e2,e3⟩:=h;exact⟨x,r,e1,sj.mono e e2,qF.mono e e3⟩
end
variable {K:qM}{H H':Hp}
def qF.nil:qF K H [] []:=by unfold qF;rfl
def qF.cons(a:sj K H d x)(b:qF K H ds xs):qF K H (d::ds) (x::xs):=by unfold qF;exact⟨x,xs,Z',a,b⟩
def qF.inv{d:D}{ds:T0 D}(h:qF K H (d::ds) xs):∃x r,xs=x::r/\sj K H d x/\qF K H ds r:=by unfold qF at h;exact h
def qF.nil_inv(h:qF K H [] xs):xs=[]:=by unfold qF at h;exact h
theorem qF.length:∀{ds:T0 D} {xs:T0 V},qF K H ds xs->ds.length=xs.length
 | [],_,h=>by rw[h.nil_inv];rfl
 | d::ds,_,h=>by obtain⟨x,r,rfl,_,e⟩:=h.inv;simp[qF.length e]
theorem qF.get:∀{ds:T0 D} {xs:T0 V} {i:Nat} {d:D},qF K H ds xs->ds[i]?=Fa d->∃x,xs[i]?=Fa x/\sj K H d x
 | [],_,_,_,_,e=>by simp at e
 | d::ds,_,0,_,h,e=>by obtain⟨x,r,rfl,a,_⟩:=h.inv;simp at e;subst e;exact⟨x,by simp,a⟩
 | d::ds,_,i+1,_,h,e=>by obtain⟨x,r,rfl,_,b⟩:=h.inv;obtain⟨y,e1,e2⟩:=qF.get b (by simpa using e);exact⟨y,by simpa using e1,e2⟩
theorem qF.append:∀{ds es:T0 D} {xs ys:T0 V},qF K H ds xs->qF K H es ys->qF K H (ds++es) (xs++ys)
 | [],_,_,_,h,g=>by rw[h.nil_inv];exact g
 | d::ds,_,_,_,h,g=>by obtain⟨x,r,rfl,a,b⟩:=h.inv;exact .cons a (qF.append b g)
theorem qF.take:∀{ds:T0 D} {xs:T0 V} (n:Nat),qF K H ds xs->qF K H (ds.take n) (xs.take n)
 | _,_,0,_=>by simp only[ii];exact .nil
 | [],_,n+1,h=>by rw[h.nil_inv];exact .nil
 | d::ds,_,n+1,h=>by obtain⟨x,r,rfl,a,b⟩:=h.inv;exact .cons a (qF.take n b)
theorem qF.drop:∀{ds:T0 D} {xs:T0 V} (n:Nat),qF K H ds xs->qF K H (ds.drop n) (xs.drop n)
 | _,_,0,h=>h
 | [],_,n+1,h=>by rw[h.nil_inv];exact .nil
 | d::ds,_,n+1,h=>by obtain⟨x,r,rfl,a,b⟩:=h.inv;exact qF.drop n b
def qF.snoc(h:qF K H ds xs)(a:sj K H d x):qF K H (ds++[d]) (xs++[x]):=h.append (.cons a .nil)
theorem qF.ints:∀{ns:T0 Int},qF K H (ns.map D.int) (ns.map V.int)
 | []=>.nil
 | n::r=>.cons (by unfold sj;rfl) qF.ints
def sj.tup(q:vA K H a xs)(h:qF K H ds xs):sj K H (.tup ds) (.ref a):=by unfold sj;exact⟨a,xs,Z',q,h⟩
def sj.mZ{ds:T0 D}(h:sj K H (.tup ds) v):∃a xs,v=.ref a/\vA K H a xs/\qF K H ds xs:=by unfold sj at h;exact h
def sj.nz{ds:T0 D}(h:sj K H (.rl ds) v):∃a xs,v=.ref a/\PM K H a xs/\qF K H ds xs:=by unfold sj at h;exact h
def sj.int{i:Int}:sj K H (.int i) (.int i):=by unfold sj;rfl
def sj.bl{i:Bool}:sj K H (.bl i) (.bl i):=by unfold sj;rfl
def sj.str{i:Str}:sj K H (.str i) (.str i):=by unfold sj;rfl
def sj.ref{i:Uf}:sj K H (.ref i) (.ref i):=by unfold sj;rfl
def sj.mY:sj K H .mY .mY:=by unfold sj;rfl
def sj.int_inv{i:Int}(h:sj K H (.int i) v):v=.int i:=by unfold sj at h;exact h
def sj.mX{i:Bool}(h:sj K H (.bl i) v):v=.bl i:=by unfold sj at h;exact h
def sj.str_inv{i:Str}(h:sj K H (.str i) v):v=.str i:=by unfold sj at h;exact h
def sj.mU{i:Uf}(h:sj K H (.ref i) v):v=.ref i:=by unfold sj at h;exact h
def sj.oh{i:String}(h:sj K H (.ty i) v):v=.ty i:=by unfold sj at h;exact h
def sj.mW{v:V}(h:sj K H .mY v):v=.mY:=by unfold sj at h;exact h
inductive uG where
 | lst (ds:List D)
 | ins (C:Uf) (fs:List (Str×D))
 | dk (kvs:List (rP×D))
 | exc (C:Uf)
abbrev Mp:=Uf->Option uG
noncomputable def pT(M:Mp)(a:Uf)(c:uG):Mp:=λb=>if b=a then Fa c else M b
def qh:pT M a c a=Fa c:=by unfold pT;rw[dg Z']
def uW{a b:Uf}(h:b≠a):pT M a c b=M b:=by unfold pT;rw[de h]
def r6:pT (pT M a c) a d=pT M a d:=by funext b;unfold pT;split<;>rfl
def OJ{M:Mp}{a b:Uf}{c:uG}(h:M a=Fa c)(h':M b=Db):a≠b:=by intro e;subst e;rw[h]at h';cases h'
def Ce(K:qM)(H:Hp)(fs:T0 (Str×D))(vs:T0 (Str×V)):Prop:=vs.map (·.1)=fs.map (·.1)/\qF K H (fs.map (·.2)) (vs.map (·.2))
def xZ(K:qM)(H:Hp)(a:Uf):uG->Prop
 | .lst ds=>∃xs,H a=Fa (.lst xs)/\qF K H ds xs
 | .ins C fs=>∃dx vs,H a=Fa (.ins C dx vs)/\Cls K C/\(∀f,f∈fs.map (·.1)->uI K C f)/\Ce K H fs vs
 | .dk kvs=>∃vs,H a=Fa (.dK vs)/\vs.map (·.1)=kvs.map (·.1)/\qF K H (kvs.map (·.2)) (vs.map (·.2))
 | .exc C=>H a=Fa (.ext (Vv a C))
def HM(K:qM)(H:Hp)(M:Mp):Prop:=∀a c,M a=Fa c->xZ K H a c
variable {M:Mp}
def Ce.mono(e:rA K H H')(h:Ce K H fs vs):Ce K H' fs vs:=⟨h.1,h.2.mono e⟩
def xZ.keep(e:rA K H H')(k:H' a=H a)(h:xZ K H a c):xZ K H' a c:=by
 cases c with
 | lst ds=>obtain⟨xs,e1,e2⟩:=h;exact⟨xs,by rw[k];exact e1,e2.mono e⟩
 | ins C fs=>obtain⟨dx,vs,e1,c,n,e2⟩:=h;exact⟨dx,vs,by rw[k];exact e1,c,n,e2.mono e⟩
 | dk kvs=>obtain⟨vs,e1,e2,e3⟩:=h;exact⟨vs,by rw[k];exact e1,e2,e3.mono e⟩
 | exc C=>exact k.trans h
def xZ.there(h:xZ K H a c):∃o,H a=Fa o/\(∀xs,¬Rd H a (.tup xs))/\∀u xs,H a≠Fa (.frz u (.lst xs)):=by
 have go:∀o,H a=Fa o->(∀xs,o≠.tup xs)->(∀u v,o≠.frz u v)->∃o,H a=Fa o/\(∀xs,¬Rd H a (.tup xs))/\∀u xs,H a≠Fa (.frz u (.lst xs)):=λo e n1 n2=>⟨o,e,λxs q=>by
  rcases q with q|⟨u,q⟩
  .rw[e]at q;exact n1 xs (dv q)
  .rw[e]at q;exact n2 u _ (dv q),λu xs q=>by rw[e]at q;exact n2 u _ (dv q)⟩
 cases c with
 | lst ds=>obtain⟨xs,e1,e2⟩:=h;exact go _ e1 (λ_ z=>by cases z) λ_ _ z=>by cases z
 | ins C fs=>obtain⟨dx,vs,e1,e2⟩:=h;exact go _ e1 (λ_ z=>by cases z) λ_ _ z=>by cases z
 | dk kvs=>obtain⟨vs,e1,e2,e3⟩:=h;exact go _ e1 (λ_ z=>by cases z) λ_ _ z=>by cases z
 | exc C=>exact go _ h (λ_ z=>by cases z) λ_ _ z=>by cases z
def HM.fresh(h:HM K H M){p:Uf}(n:H p=Db):M p=Db:=by
 cases e:M p with
 | none=>rfl
 | some c=>obtain⟨o,q,_⟩:=(h p c e).there;rw[n]at q;cases q
def HM.keep(h:HM K H M)(e:rA K H H')(k:∀a c,M a=Fa c->H' a=H a):HM K H' M:=λa c q=>(h a c q).keep e (k a c q)
def HM.add(h:HM K H M){p:Uf}{o:HO}(n:H p=Db):HM K (upd H p o) M:=h.keep (.new n) λa c q=>by obtain⟨u,e,_⟩:=(h a c q).there;rw[qw (rB e n)]
def HM.new(h:HM K H M){p:Uf}{o:HO}{c:uG}(n:H p=Db)(ok:xZ K (upd H p o) p c):HM K (upd H p o) (pT M p c):=λa d q=>by
 by_cases e:a=p
 .subst e;rw[qh]at q;cases q;exact ok
 .rw[uW e]at q;exact h.add n a d q
def HM.put(h:HM K H M){p:Uf}{o:HO}{c c0:uG}(e0:M p=Fa c0)(ok:rA K H (upd H p o)->xZ K (upd H p o) p c):HM K (upd H p o) (pT M p c)/\rA K H (upd H p o):=by
 obtain⟨u,eu,nt,nf⟩:=(h p c0 e0).there;have x:rA K H (upd H p o):=.upd nt nf;refine⟨λa d q=>?_,x⟩;by_cases e:a=p
 .subst e;rw[qh]at q;cases q;exact ok x
 .rw[uW e]at q;exact(h a d q).keep x (qw e)
abbrev St:=L2.St
abbrev vO:=T0 (Option D)
abbrev DK:=D->Mp->Prop
abbrev T3:=vO->Mp->DK->Prop
abbrev Bf:=vO->Mp->(Bool->Mp->Prop)->Prop
abbrev xR:=vO->Mp->(T0 D->Mp->Prop)->Prop
structure Ht where
 nx:vO->Mp->Prop
 rt:DK
 bk:vO->Mp->Prop:=λ_ _=>False
 ct:vO->Mp->Prop:=λ_ _=>False
abbrev yo:=Ht->vO->Mp->Prop
def zA(K:qM)(H:Hp)(Y:St)(U:vO):Prop:=∀(i:Nat) (d:D),U[i]?=Fa (Fa d)->∃v,Y[i]?=Fa (Fa v)/\sj K H d v
def zA.mono{K:qM}(e:rA K H H')(h:zA K H Y U):zA K H' Y U:=λi d q=>by obtain⟨v,e1,e2⟩:=h i d q;exact⟨v,e1,e2.mono e⟩
def zA.set{K:qM}{i:Nat}(h:zA K H Y U)(hv:sj K H d v)(hi:i<Y.length):zA K H (Y.set i (Fa v)) (U.set i (Fa d)):=λj e q=>by
 by_cases hj:j=i
 .subst hj;rw[eO hi];by_cases hl:j<U.length
  .rw[eO hl]at q;cases q;exact⟨v,Z',hv⟩
  .rw[gN (by simpa using hl)]at q;cases q
 .rw[eX (dS hj)]at q ⊢;exact h j e q
def lo(K:qM)(t:T3):TE:=λY H Q'=>Ea λU M Q=>zA K H Y U/\HM K H M/\t U M Q/\∀v H' d M',sj K H' d v->HM K H' M'->rA K H H'->Q d M'->Q' v H'
def Um(K:qM)(t:Bf):TT:=λY H Q'=>Ea λU M Q=>zA K H Y U/\HM K H M/\t U M Q/\∀b H' M',HM K H' M'->rA K H H'->Q b M'->Q' b H'
def Xg(K:qM)(t:xR):TA:=λY H Q'=>Ea λU M Q=>zA K H Y U/\HM K H M/\t U M Q/\∀vs H' ds M',qF K H' ds vs->HM K H' M'->rA K H H'->Q ds M'->Q' vs H'
def WS(K:qM)(t:yo):TS:=λD' Y H=>Ea λU M D=>zA K H Y U/\HM K H M/\t D U M/\(∀σ' H' δ' M',zA K H' σ' δ'->HM K H' M'->rA K H H'->σ'.length=Y.length->D.nx δ' M'->D'.nx σ' H')/\
 (∀v H' d M',sj K H' d v->HM K H' M'->rA K H H'->D.rt d M'->D'.rt v H')/\(∀σ' H' δ' M',zA K H' σ' δ'->HM K H' M'->rA K H H'->σ'.length=Y.length->D.bk δ' M'->D'.bk σ' H')/\
 (∀σ' H' δ' M',zA K H' σ' δ'->HM K H' M'->rA K H H'->σ'.length=Y.length->D.ct δ' M'->D'.ct σ' H')
def E3(X:Cx)(e:Go)(t:T3):Prop:=PE X e (lo X.K t)
def B3(X:Cx)(e:Go)(t:Bf):Prop:=PT X e (Um X.K t)
def A3(X:Cx)(es:T0 Go)(t:xR):Prop:=PA X es (Xg X.K t)
def S3(X:Cx)(st:sK)(t:yo):Prop:=PS X st (WS X.K t)
def HK(X:Cx)(st:T0 sK)(t:yo):Prop:=Cq X st (WS X.K t)
def PE.mono{t t':TE}(h:PE X e t)(m:∀Y H Q,t' Y H Q->t Y H Q):PE X e t':=λXN s Y H Q I q=>h XN s Y H Q I (m Y H Q q)
def PT.mono{t t':TT}(h:PT X e t)(m:∀Y H Q,t' Y H Q->t Y H Q):PT X e t':=λXN s Y H Q I q=>h XN s Y H Q I (m Y H Q q)
def PA.mono{t t':TA}(h:PA X e t)(m:∀Y H Q,t' Y H Q->t Y H Q):PA X e t':=λpos XN s Y H Q I q=>h pos XN s Y H Q I (m Y H Q q)
def PS.mono{t t':TS}(h:PS X e t)(m:∀D Y H,t' D Y H->t D Y H):PS X e t':=λXN s Y H D I q=>h XN s Y H D I (m D Y H q)
def Cq.mono{t t':TS}(h:Cq X e t)(m:∀D Y H,t' D Y H->t D Y H):Cq X e t':=λXN s Y H D I q=>h XN s Y H D I (m D Y H q)
def PS.n9{t t':TS}(h:PS X e t)(m:∀D Y H,Y.length=X.N.length->t' D Y H->t D Y H):PS X e t':=λXN s Y H D I q=>h XN s Y H D I (m D Y H I.len q)
def wb{K:qM}{Q':VK}{Q:DK}(x:rA K H H1)(f:∀v H' d M',sj K H' d v->HM K H' M'->rA K H H'->Q d M'->Q' v H'):∀v H' d M',sj K H' d v->HM K H' M'->rA K H1 H'->Q d M'->Q' v H':=
 λv H' d M' a b c e=>f v H' d M' a b (x.trans c) e
variable {X:Cx}{pos:Pos}
def v3(i:Nat):T3:=λU M Q=>(U.getD i Db).elim False λd=>Q d M
def K3{U:vO}{i:Nat}{P:D->Prop}(h:(U.getD i Db).elim False P):∃d,U[i]?=Fa (Fa d)/\P d:=by
 cases e:U[i]? with
 | none=>rw[gm,e]at h;exact h.elim
 | some o=>
  rw[gm,e]at h;cases o with
  | none=>exact h.elim
  | some d=>exact⟨d,Z',h⟩
def R0(i:Nat){x:Str}(h:PE X (.Name x pos) (Gi i)):E3 X (.Name x pos) (v3 i):=PE.mono h λY H Q' zz=>x7 zz λU M Q hs hm ht k=>by obtain⟨d,e,q⟩:=K3 ht;obtain⟨v,e1,e2⟩:=hs i d e;exact⟨v,e1,k v H d M e2 hm .refl q⟩
def c3(d:D):T3:=λ_ M Q=>Q d M
def pN{i j}:E3 X (.Constant (.int i) j pos) (c3 (.int i)):=PE.mono Ts λY H Q' zz=>x7 zz λU M Q hs hm ht k=>k _ H _ M .int hm .refl ht
def y0{i j}:E3 X (.Constant (.bool i) j pos) (c3 (.bl i)):=PE.mono Vu λY H Q' zz=>x7 zz λU M Q hs hm ht k=>k _ H _ M .bl hm .refl ht
def pO{i j}:E3 X (.Constant (.str i) j pos) (c3 (.str i)):=PE.mono T9 λY H Q' zz=>x7 zz λU M Q hs hm ht k=>k _ H _ M .str hm .refl ht
def sL{j}:E3 X (.Constant .none j pos) (c3 .mY):=PE.mono T5 λY H Q' zz=>x7 zz λU M Q hs hm ht k=>k _ H _ M .mY hm .refl ht
def UC{n:String}(hg:Gl X x)(hm:X.mg x=Db)(hv:zn x=Fa (.type n))(hn:x≠"__name__":=by decide)(hd:zm x:=by decide):E3 X (.Name x pos) (c3 (.ty n)):=
 PE.mono (Q5 (v:=.ty n) hg hm hv Z' hn hd) λY H Q' zz=>x7 zz λU M Q hs hm ht k=>k _ H _ M (by unfold sj;rfl) hm .refl ht
noncomputable def pq(M:Mp)(a:Uf):Option (T0 D):=match M a with
 | some (.lst ds)=>Fa ds
 | _=>Db
noncomputable def zE(x:Str)(n:Int):Str:=⟨(List.replicate n.toNat x.cps).foldl (·++·) #[]⟩
def Wd(op:XYa)(x y:D)(M:Mp)(Q:DK):Prop:=match op,x,y with
 | .Add,.int i,.int j=>Q (.int (i+j)) M
 | .Add,.str i,.str j=>i.length+j.length<=Ch/\Q (.str (i++j)) M
 | .Add,.tup i,.tup j=>i≠[]/\i.length+j.length<=Ch/\Q (.tup (i++j)) M
 | .Add,.ref a,.ref b=>(pq M a).elim False λi=>(pq M b).elim False λj=>i.length+j.length<=Ch/\∀p,M p=Db->Q (.ref p) (pT M p (.lst (i++j)))
 | .Add,.rl i,.ref b=>(pq M b).elim False λj=>i.length+j.length<=Ch/\∀p,M p=Db->Q (.ref p) (pT M p (.lst (i++j)))
 | .Sub,.int i,.int j=>Q (.int (i - j)) M
 | .Mult,.int i,.int j=>DB i j/\Q (.int (i*j)) M
 | .Mult,.str i,.int j=>(j<4096/\-4096<j/\i.length<4096)/\Q (.str (zE i j)) M
 | .FloorDiv,.int i,.int j=>Ux i j/\Q (.int (i / j)) M
 | .Mod,.int i,.int j=>0<j/\Q (.int (i % j)) M
 | _,_,_=>False
def o3(op:XYa)(ta tb:T3):T3:=λU M Q=>ta U M λx M1=>tb U M1 λy M2=>Wd op x y M2 Q
def Up(K:qM)(H:Hp)(Q':VK)(Q:DK):Prop:=∀v H' d M',sj K H' d v->HM K H' M'->rA K H H'->Q d M'->Q' v H'
variable {ta tb:T3}
section
def qO{K:qM}{ds:T0 D}(hm:HM K H M)(h:pq M a=Fa ds):∃xs,zJ K H a xs/\qF K H ds xs/\Rd H a (.lst xs):=by
 unfold pq at h;cases e:M a with
 | none=>rw[e]at h;cases h
 | some c=>
  rw[e]at h;have ok:=hm a c e;cases c with
  | lst es=>cases h;obtain⟨xs,e1,e2⟩:=ok;exact⟨xs,.inl (.inl e1),e2,.inl e1⟩
  | ins _ _=>cases h
  | dk _=>cases h
  | exc _=>cases h
def rD{α:Type}{o:Option α}{P:α->Prop}(h:o.elim False P):∃a,o=Fa a/\P a:=by
 cases o with
 | none=>exact h.elim
 | some a=>exact⟨a,Z',h⟩
def Ja:yj X (wP .Add) (λx y H Q=>∃l b xs zs,x=.ref l/\y=.ref b/\zJ X.K H l xs/\zJ X.K H b zs/\xs.length+zs.length<=Ch/\∀p,H p=Db->Q (.ref p) (upd H p (.lst (xs++zs)))):=by
 intro XN s Y H x y v u Q I rx ry h;obtain⟨l,b,xs,zs,rfl,rfl,hH,hB,hz,q⟩:=h;cases rx;cases ry;obtain⟨its,r,⟨⟨c1,d1,t1,sl1⟩,n,g1,e1,_,f1⟩,_⟩:=I.list hH;obtain⟨ZN,r2,⟨⟨c2,d2,t2,sl2⟩,m,g2,e2,_,f2⟩,_⟩:=I.list hB;simp only at e1 f1 e2 f2;subst e1 f1 e2 f2;have hl:=r.length;have hl2:=r2.length;refine lh ⟨_,g1,Z'⟩ ⟨_,g2,Z'⟩ noFill_list_add seq_list_add PySem.F.slot_list_add PySem.F.entry_list_add (PySem.F.args_list_add_2 _ _) (list_addW l b its.toArray ZN.toArray n m d1 d2 sl1 sl2 (by rw[dB,dB];lia)) ⟨g1,g2,?_⟩;have ea:its.toArray++ZN.toArray=(its++ZN).toArray:=by simp
 rw[ea];exact⟨.ref _,_,I.pD (t':=s.toks) (r.append r2) (by rw[cZ];lia),Z',q _ I.fresh⟩
def Jn(x:Array Nat):∀k,((List.replicate k x).foldl (·++·) #[]:Array Nat).size=k*x.size:=by
 have go:∀(k:Nat) (acc:Array Nat),((List.replicate k x).foldl (·++·) acc).size=acc.size+k*x.size:=by
  intro k;induction k with
  | zero=>intro acc;simp
  | succ k ih=>intro acc;rw[eJ,gh,ih,Array.size_append,mJ];lia
 intro k;rw[go];simp
def Px:yj X (wP .Mult) (λx y H Q=>∃i j,x=.str i/\y=.int j/\(j<4096/\-4096<j/\i.length<4096)/\Q (.str (zE i j)) H):=by
 intro XN s Y H x y v u Q I rx ry h;obtain⟨i,j,rfl,rfl,⟨h1,h2,h3⟩,q⟩:=h;obtain⟨t,rfl⟩:=rx;obtain⟨t',rfl⟩:=ry;refine PySem.P.mul_str ?_ ?_ ?_ ?_
 .rw[eW (by lia),eW (by lia)];rfl
 .intro h0 _;have:(4096:Int)<=(2 ^ 63 - 1) / j:=by
   have:(4096:Int)*j<=2 ^ 63 - 1:=by lia
   exact(Int.le_ediv_iff_mul_le (by lia)).mpr this
  lia
 .intro h0 _;have hm:i.length*j.toNat<=4096*4096:=ko (by lia) (by lia);have hz:=dP;unfold Builtin.Str.tooLong;exact eW (by lia)
 .by_cases h0:j<1
  .rw[dg h0];have e:zE i j=Str.empty:=by unfold zE;rw[show j.toNat=0 by lia];rfl
   rw[e]at q;exact⟨by decide,⟨.str Str.empty,H,I.tok _,⟨_,Z'⟩,q⟩⟩
  .rw[de h0];by_cases hj:(j==1||i.length==0)=pc
   .rw[dg hj];have e:zE i j=i:=by
     have hj':j=1\/i.length=0:=by simpa using hj
     unfold zE;rcases hj' with z|z
     .subst z;show(⟨#[]++i.cps⟩:Str)=i;simp
     .have ec:i.cps=#[]:=Array.size_eq_zero_iff.mp z;have er:∀k:Nat,((List.replicate k (#[]:Array Nat)).foldl (·++·) #[]:Array Nat)=#[]:=by
       intro k;induction k with
       | zero=>rfl
       | succ k ih=>rw[eJ,gh];simpa using ih
      rw[ec,er,<-ec]
    rw[e]at q;exact⟨.str i,H,I,⟨t,Z'⟩,q⟩
   .rw[de hj];refine⟨?_,⟨.str _,H,I.tok _,⟨_,Z'⟩,q⟩⟩;have hz:=dP;have hm:j.toNat*i.length<=4096*4096:=ko (by lia) (by lia);show((List.replicate j.toNat i.cps).foldl (·++·) #[]:Array Nat).size<=_;rw[Jn];have Zm:j.toNat*i.cps.size<=4096*4096:=hm;lia
def R3(K:qM)(f:D->D->Mp->DK->Prop):R2:=λvx vy H Q'=>CO λx y M Q=>sj K H x vx/\sj K H y vy/\HM K H M/\f x y M Q/\Up K H Q' Q
def Xz(op:XYa):yj X (wP op) (R3 X.K (Wd op)):=by
 intro XN s Y H vx vy v u Q' I rx ry h;obtain⟨x,y,M,Q,hx,hy,hm,q,k⟩:=h;unfold Wd at q;split at q
 .cases hx.int_inv;cases hy.int_inv;exact Sb XN s Y H _ _ v u Q' I rx ry ⟨_,_,Z',Z',k _ _ _ _ .int hm .refl q⟩
 .cases hx.str_inv;cases hy.str_inv;exact IH XN s Y H _ _ v u Q' I rx ry ⟨_,_,Z',Z',q.1,k _ _ _ _ .str hm .refl q.2⟩
 .rename_i i j;obtain⟨q1,q2,q3⟩:=q;obtain⟨a,xs,rfl,ha,Zr⟩:=hx.mZ;obtain⟨b,ys,rfl,hb,YJ⟩:=hy.mZ;have l1:=Zr.length;have l2:=YJ.length;refine Pk XN s Y H _ _ v u Q' I rx ry ⟨a,b,xs,ys,Z',Z',ha,hb,λz=>q1 (by rw[z]at l1;exact gD.mp l1),by lia,λz=>?_,λz p hp=>?_⟩
  .refine k _ _ _ _ (.tup ha ?_) hm .refl q3;rw[z]at YJ;have e0:j=[]:=gD.mp (by simpa using YJ.length);rw[e0,eN];exact Zr
  .have e:rA X.K H (upd H p (.tup (xs++ys))):=.new hp;exact k _ _ _ _ (.tup (.of qC) ((Zr.append YJ).mono e)) (hm.add hp) e q3
 .obtain⟨i,ei,q⟩:=rD q;obtain⟨j,ej,q1,q2⟩:=rD q;cases hx.mU;cases hy.mU;obtain⟨xs,rx',hxs,_⟩:=qO hm ei;obtain⟨ys,ry',hys,_⟩:=qO hm ej;have l1:=hxs.length;have l2:=hys.length;refine Ja XN s Y H _ _ v u Q' I rx ry ⟨_,_,xs,ys,Z',Z',rx',ry',by lia,λp hp=>?_⟩;have e:rA X.K H (upd H p (.lst (xs++ys))):=.new hp;exact k _ _ _ _ .ref (hm.new (c:=.lst (i++j)) hp ⟨_,qC,(hxs.append hys).mono e⟩) e (q2 p (hm.fresh hp))
 .obtain⟨j,ej,q1,q2⟩:=rD q;obtain⟨l,xs,rfl,rx',hxs⟩:=hx.nz;cases hy.mU;obtain⟨ys,ry',hys,_⟩:=qO hm ej;have l1:=hxs.length;have l2:=hys.length;refine Ja XN s Y H _ _ v u Q' I rx ry ⟨_,_,xs,ys,Z',Z',rx'.sq,ry',by lia,λp hp=>?_⟩;have e:rA X.K H (upd H p (.lst (xs++ys))):=.new hp;exact k _ _ _ _ .ref (hm.new (c:=.lst (_++j)) hp ⟨_,qC,(hxs.append hys).mono e⟩) e (q2 p (hm.fresh hp))
 .cases hx.int_inv;cases hy.int_inv;exact Tv XN s Y H _ _ v u Q' I rx ry ⟨_,_,Z',Z',k _ _ _ _ .int hm .refl q⟩
 .cases hx.int_inv;cases hy.int_inv;exact So XN s Y H _ _ v u Q' I rx ry ⟨_,_,Z',Z',q.1,k _ _ _ _ .int hm .refl q.2⟩
 .cases hx.str_inv;cases hy.int_inv;exact Px XN s Y H _ _ v u Q' I rx ry ⟨_,_,Z',Z',q.1,k _ _ _ _ .str hm .refl q.2⟩
 .cases hx.int_inv;cases hy.int_inv;exact Qj XN s Y H _ _ v u Q' I rx ry ⟨_,_,Z',Z',q.1,k _ _ _ _ .int hm .refl q.2⟩
 .cases hx.int_inv;cases hy.int_inv;exact S8 XN s Y H _ _ v u Q' I rx ry ⟨_,_,Z',Z',q.1,k _ _ _ _ .int hm .refl q.2⟩
 .exact q.elim
variable {a b:Go}
def HP{f:D->D->Mp->DK->Prop}:∀Y H Q',lo X.K (λU M Q=>ta U M λx M1=>tb U M1 λy M2=>f x y M2 Q) Y H Q'->UQ (R3 X.K f) (lo X.K ta) (lo X.K tb) Y H Q':=λY H Q' zz=>x7 zz λU M Q hs hm ht k=>⟨U,M,_,hs,hm,ht,λv H1 x M1 hx XQ e1 q1=>⟨U,M1,_,hs.mono e1,XQ,q1,λu H2 y M2 hy X6 e2 q2=>⟨x,y,M2,Q,hx.mono e2,hy,X6,q2,wb (e1.trans e2) k⟩⟩⟩
def qu(ha:E3 X a ta)(hb:E3 X b tb):E3 X (.BinOp a op b pos) (o3 op ta tb):=PE.mono (RG (Xz op) ha hb) HP
end
noncomputable def tG(f:D->D->Option Bool):T0 D->T0 D->Option Bool
 | x::a,y::b=>(f x y).bind λp=>(tG f a b).map λq=>p&&q
 | _,_=>Fa pc
noncomputable def zK(M:Mp):Nat->D->D->Option Bool
 | 0,_,_=>Db
 | n+1,x,y=>match x,y with
  | .mY,.mY=>Fa pc
  | .bl a,.bl b=>Fa (a==b)
  | .int a,.int b=>Fa (a==b)
  | .str a,.str b=>Fa (a==b)
  | .mY,.bl _=>Fa lf
  | .mY,.int _=>Fa lf
  | .mY,.str _=>Fa lf
  | .bl _,.mY=>Fa lf
  | .bl _,.str _=>Fa lf
  | .int _,.mY=>Fa lf
  | .int _,.str _=>Fa lf
  | .str _,.mY=>Fa lf
  | .str _,.bl _=>Fa lf
  | .str _,.int _=>Fa lf
  | .tup a,.tup b=>(tG (zK M n) a b).map λp=>p&&a.length==b.length
  | .ref a,.ref b=>(pq M a).bind λi=>(pq M b).bind λj=>if i.length=j.length then tG (zK M n) i j else Fa lf
  | _,_=>Db
variable {XN:T0 (Uf × Obj)}{Y:St}{s:Sd}
theorem zw{f:D->D->Option Bool}:∀{ds es:T0 D} {xs:T0 V} {b:Bool},qF X.K H ds xs->qF X.K H es xs->(∀x y v b,sj X.K H x v->sj X.K H y v->f x y=Fa b->b=pc)->tG f ds es=Fa b->b=pc
 | [],[],_,_,_,_,_,e=>(dv e).symm
 | [],_::_,_,_,h,g,_,_=>by have h1:=h.length;have h2:=g.length;rw[<-h1]at h2;simp at h2
 | _::_,[],_,_,h,g,_,_=>by have h1:=h.length;have h2:=g.length;rw[<-h1]at h2;simp at h2
 | d::ds,e::es,xs,b,h,g,k,q=>by
  obtain⟨x,r,rfl,h1,h2⟩:=h.inv;obtain⟨x',r',e',g1,g2⟩:=g.inv;cases e';unfold tG at q;cases p1:f d e with
  | none=>rw[p1]at q;cases q
  | some b1=>
   rw[p1]at q;cases p2:tG f ds es with
   | none=>rw[p2]at q;cases q
   | some b2=>rw[p2]at q;have q':(b1&&b2)=b:=dv q;rw[<-q',k _ _ _ _ h1 g1 p1,zw h2 g2 k p2];rfl
theorem Aa(I:Inv X XN Y H s)(hm:HM X.K H M):∀(n:Nat) (x y:D) (v:V) (b:Bool),sj X.K H x v->sj X.K H y v->zK M n x y=Fa b->b=pc
 | 0,_,_,_,_,_,_,e=>by cases e
 | n+1,x,y,v,b,hx,hy,e=>by
  unfold zK at e;split at e
  .exact(dv e).symm
  .rw[hx.mX]at hy;cases hy.mX;exact(dv e).symm.trans (by simp)
  .rw[hx.int_inv]at hy;cases hy.int_inv;exact(dv e).symm.trans (by simp)
  .rw[hx.str_inv]at hy;cases hy.str_inv;exact(dv e).symm.trans (by simp)
  .rw[hx.mW]at hy;cases hy.mX
  .rw[hx.mW]at hy;cases hy.int_inv
  .rw[hx.mW]at hy;cases hy.str_inv
  .rw[hx.mX]at hy;cases hy.mW
  .rw[hx.mX]at hy;cases hy.str_inv
  .rw[hx.int_inv]at hy;cases hy.mW
  .rw[hx.int_inv]at hy;cases hy.str_inv
  .rw[hx.str_inv]at hy;cases hy.mW
  .rw[hx.str_inv]at hy;cases hy.mX
  .rw[hx.str_inv]at hy;cases hy.int_inv
  .obtain⟨a,xs,rfl,h1,h2⟩:=hx.mZ;obtain⟨a',ys,e',g1,g2⟩:=hy.mZ;cases e';rw[I.nF g1 h1]at g2;cases p:tG (zK M n) _ _ with
   | none=>rw[p]at e;cases e
   | some b1=>rw[p]at e;have e':=dv e;rw[<-e',zw h2 g2 (Aa I hm n) p,h2.length,g2.length];simp
  .rw[hx.mU]at hy;cases hy.mU;cases p:pq M _ with
   | none=>rw[p]at e;cases e
   | some i=>rw[p]at e;have e:(if i.length=i.length then tG (zK M n) i i else Fa lf)=Fa b:=e;rw[dg Z']at e;obtain⟨xs,_,h2,_⟩:=qO hm p;exact zw h2 h2 (Aa I hm n) e
  .cases e
theorem CU{A:Ar}:∀{ds es:T0 D} {xs ys:T0 V} {us ws:T0 Vl} {b:Bool},tG f ds es=Fa b->qF X.K H ds xs->qF X.K H es ys->qT xs us->qT ys ws->
  (∀x y b vx vy u w,f x y=Fa b->sj X.K H x vx->sj X.K H y vy->rb vx u->rb vy w->SeqAt.EqAt A s u w b)->
  ∃e:Nat->Bool,(∀j (h1:j<us.length) (h2:j<ws.length),SeqAt.EqAt A s us[j] ws[j] (e j))/\(List.range (min us.length ws.length)).all e=b
 | [],es,xs,ys,us,ws,b,q,hx,hy,rx,ry,k=>by
  have e1:=hx.nil_inv;subst e1;cases rx;refine⟨λ_=>pc,λj h1=>absurd h1 (by simp),?_⟩;have q':Fa pc=Fa b:=by cases es<;>exact q
  simpa using(dv q')
 | d::ds,[],xs,ys,us,ws,b,q,hx,hy,rx,ry,k=>by
  have e1:=hy.nil_inv;subst e1;cases ry;refine⟨λ_=>pc,λj _ h2=>absurd h2 (by simp),?_⟩;have q':Fa pc=Fa b:=q
  simpa using(dv q')
 | d::ds,e::es,xs,ys,us,ws,b,q,hx,hy,rx,ry,k=>by
  obtain⟨x,r,rfl,h1,h2⟩:=hx.inv;obtain⟨y,r',rfl,g1,g2⟩:=hy.inv;cases rx with
  | cons r1 r2=>
   cases ry with
   | cons t1 t2=>
    unfold tG at q;cases p1:f d e with
    | none=>rw[p1]at q;cases q
    | some b1=>
     rw[p1]at q;cases p2:tG f ds es with
     | none=>rw[p2]at q;cases q
     | some b2=>
      rw[p2]at q;have q':(b1&&b2)=b:=dv q;obtain⟨e',he,ha⟩:=CU p2 h2 g2 r2 t2 k;refine⟨λj=>match j with|0=>b1|j+1=>e' j,λj l1 l2=>?_,?_⟩
      .cases j with
       | zero=>exact k _ _ _ _ _ _ _ p1 h1 g1 r1 t1
       | succ j=>exact he j (by simpa using l1) (by simpa using l2)
      .rw[<-q',<-ha];simp only[eB];rw[Nat.succ_min_succ,List.range_succ_eq_map,fD,mK];rfl
theorem Ga(I:Inv X XN Y H s)(hm:HM X.K H M):∀(n:Nat) (A:Ar) (x y:D) (b:Bool) (vx vy:V) (u w:Vl),A.units+n<Y'->zK M n x y=Fa b->sj X.K H x vx->sj X.K H y vy->rb vx u->rb vy w->
  SeqAt.RcAt A s u w b/\SeqAt.EqAt A s u w b/\SeqAt.RcNeAt A s u w (!b)
 | 0,_,_,_,_,_,_,_,_,_,e,_,_,_,_=>by cases e
 | n+1,A,x,y,b,vx,vy,u,w,hu,e,hx,hy,rx,ry=>by
  have hu1:A.units<Y':=by lia
  have hui:A.in1.units+n<Y':=by show A.units+1+n<Y';lia
  unfold zK at e;split at e
  .cases hx.mW;cases hy.mW;cases rx;cases ry;cases e;exact⟨.none_none,.same _,.none_none⟩
  .cases hx.mX;cases hy.mX;cases rx;cases ry;cases e;exact⟨.bool_bool _ _,.bool_bool _ _,.bool_bool _ _⟩
  .cases hx.int_inv;cases hy.int_inv;obtain⟨t,rfl⟩:=rx;obtain⟨t',rfl⟩:=ry;cases e;exact⟨.int_int _ _ _ _,.int_int _ _ _ _,.int_int _ _ _ _⟩
  .cases hx.str_inv;cases hy.str_inv;obtain⟨t,rfl⟩:=rx;obtain⟨t',rfl⟩:=ry;cases e;exact⟨.str_str _ _ _ _,.str_str _ _ _ _,.str_str _ _ _ _⟩
  .cases hx.mW;cases hy.mX;cases rx;cases ry;cases e;exact⟨.none_bool _,.none_bool _,.none_bool _⟩
  .cases hx.mW;cases hy.int_inv;cases rx;obtain⟨t',rfl⟩:=ry;cases e;exact⟨.none_int _ _,.none_int _ _,.none_int _ _⟩
  .cases hx.mW;cases hy.str_inv;cases rx;obtain⟨t',rfl⟩:=ry;cases e;exact⟨.none_str _ _,.none_str _ _,.none_str _ _⟩
  .cases hx.mX;cases hy.mW;cases rx;cases ry;cases e;exact⟨.bool_none _,.bool_none _,.bool_none _⟩
  .cases hx.mX;cases hy.str_inv;cases rx;obtain⟨t',rfl⟩:=ry;cases e;exact⟨.bool_str _ _ _,.bool_str _ _ _,.bool_str _ _ _⟩
  .cases hx.int_inv;cases hy.mW;obtain⟨t,rfl⟩:=rx;cases ry;cases e;exact⟨.int_none _ _,.int_none _ _,.int_none _ _⟩
  .cases hx.int_inv;cases hy.str_inv;obtain⟨t,rfl⟩:=rx;obtain⟨t',rfl⟩:=ry;cases e;exact⟨.int_str _ _ _ _,.int_str _ _ _ _,.int_str _ _ _ _⟩
  .cases hx.str_inv;cases hy.mW;obtain⟨t,rfl⟩:=rx;cases ry;cases e;exact⟨.str_none _ _,.str_none _ _,.str_none _ _⟩
  .cases hx.str_inv;cases hy.mX;obtain⟨t,rfl⟩:=rx;cases ry;cases e;exact⟨.str_bool _ _ _,.str_bool _ _ _,.str_bool _ _ _⟩
  .cases hx.str_inv;cases hy.int_inv;obtain⟨t,rfl⟩:=rx;obtain⟨t',rfl⟩:=ry;cases e;exact⟨.str_int _ _ _ _,.str_int _ _ _ _,.str_int _ _ _ _⟩
  .rename_i da db;obtain⟨a1,xs,rfl,h1,h2⟩:=hx.mZ;obtain⟨a2,ys,rfl,g1,g2⟩:=hy.mZ;cases rx;cases ry;obtain⟨us,r1,p1,_⟩:=I.tuple h1;obtain⟨ws,r2,p2,_⟩:=I.tuple g1;cases p:tG (zK M n) da db with
   | none=>rw[p]at e;cases e
   | some b1=>
    have e0:=e;rw[p]at e;have e':(b1&&da.length==db.length)=b:=dv e;obtain⟨f,hf,ha⟩:=CU (A:=A.in1) (s:=s) p h2 g2 r1 r2 λx y b vx vy u w q1 q2 q3 q4 q5=>(Ga I hm n A.in1 x y b vx vy u w hui q1 q2 q3 q4 q5).2.1;have hb:((List.range (min us.toArray.size ws.toArray.size)).all f&&us.toArray.size==ws.toArray.size)=b:=by rw[dB,dB,ha,<-e',<-r1.length,<-r2.length,h2.length,g2.length]
    have hf':∀j (l1:j<us.toArray.size) (l2:j<ws.toArray.size),SeqAt.EqAt A.in1 s us.toArray[j] ws.toArray[j] (f j):=λj l1 l2=>by simpa using hf j (by simpa using l1) (by simpa using l2)
    have c1:SeqAt.RcAt A s (.ref a1) (.ref a2) b:=by rw[<-hb];exact .tuples p1 p2 hu1 hf'
    have c3:SeqAt.RcNeAt A s (.ref a1) (.ref a2) (!b):=by have:=SeqAt.RcNeAt.tuples p1 p2 hu1 hf';rw[hb]at this;exact this
    refine⟨c1,?_,c3⟩;by_cases ea:a1=a2
    .subst ea;have:b=pc:=Aa I hm (n+1) (.tup da) (.tup db) (.ref a1) b hx hy (by unfold zK;exact e0);rw[this];exact .same _
    .exact .of_refs ea c1
  .cases hx.mU;cases hy.mU;cases rx;cases ry;rename_i a1 a2;have e0:=e;cases p:pq M a1 with
   | none=>rw[p]at e;cases e
   | some i=>
    cases p':pq M a2 with
    | none=>rw[p,p']at e;cases e
    | some j=>
     rw[p,p']at e;have e:(if i.length=j.length then tG (zK M n) i j else Fa lf)=Fa b:=e;obtain⟨xs,q1,h2,_⟩:=qO hm p;obtain⟨ys,q2,g2,_⟩:=qO hm p';obtain⟨us,r1,p1,_⟩:=I.list q1;obtain⟨ws,r2,p2,_⟩:=I.list q2;have XT:SeqAt.RcAt A s (.ref a1) (.ref a2) b/\SeqAt.RcNeAt A s (.ref a1) (.ref a2) (!b):=by
      by_cases hl:i.length=j.length
      .rw[dg hl]at e;obtain⟨f,hf,ha⟩:=CU (A:=A.in1) (s:=s) e h2 g2 r1 r2 λx y b vx vy u w q1 q2 q3 q4 q5=>(Ga I hm n A.in1 x y b vx vy u w hui q1 q2 q3 q4 q5).2.1;have hsz:us.toArray.size=ws.toArray.size:=by rw[dB,dB,<-r1.length,<-r2.length,<-h2.length,<-g2.length];exact hl
       have hf':∀j (l1:j<us.toArray.size) (l2:j<ws.toArray.size),SeqAt.EqAt A.in1 s us.toArray[j] ws.toArray[j] (f j):=λj l1 l2=>by simpa using hf j (by simpa using l1) (by simpa using l2)
       have hb:(List.range us.toArray.size).all f=b:=by rw[<-ha];rw[dB,dB]at hsz;rw[dB,<-hsz,Nat.min_self]
       rw[<-hb];exact⟨.lists p1.isList p2.isList hsz hu1 hf',.lists p1.isList p2.isList hsz hu1 hf'⟩
      .rw[de hl]at e;cases e;have hsz:(us.toArray.size != ws.toArray.size)=pc:=by
        rw[dB,dB,<-r1.length,<-r2.length,<-h2.length,<-g2.length]
        simpa using hl
       exact⟨.lists_lengths p1.isList p2.isList hsz hu1,.lists_lengths p1.isList p2.isList hsz hu1⟩
     refine⟨XT.1,?_,XT.2⟩;by_cases ea:a1=a2
     .subst ea;have:b=pc:=Aa I hm (n+1) (.ref a1) (.ref a1) (.ref a1) b .ref .ref (by unfold zK;exact e0);rw[this];exact .same _
     .exact .of_refs ea XT.1
  .cases e
noncomputable def ve:D->Bool
 | .mY=>pc
 | .bl _=>pc
 | .int _=>pc
 | .str _=>pc
 | _=>lf
noncomputable def Po:D->D->Bool
 | .mY,.mY=>pc
 | .bl a,.bl b=>a==b
 | .bl a,.int b=>(if a then 1 else 0)==b
 | .int a,.bl b=>a==(if b then 1 else 0)
 | .int a,.int b=>a==b
 | .str a,.str b=>a==b
 | _,_=>lf
noncomputable def inD(x:D)(ds:T0 D):Bool:=ds.any λy=>Po y x
noncomputable def Ox(M:Mp):D->Option (T0 D)
 | .tup ds=>Fa ds
 | .ref a=>pq M a
 | .rl ds=>Fa ds
 | _=>Db
noncomputable def DL(i j:Str):Bool:=!(Builtin.Str.occurrences j i 0 j.length 1).isEmpty
def Su(Zq:Bool)(x y:D)(M:Mp)(Q:DK):Prop:=match x,y with
 | .str i,.str j=>Q (.bl (if Zq then !DL i j else DL i j)) M
 | _,_=>(Ox M y).elim False λds=>ve x=pc/\ds.all ve=pc/\Q (.bl (if Zq then !inD x ds else inD x ds)) M
def Qd(op:CmpOp)(x y:D)(M:Mp)(Q:DK):Prop:=match op with
 | .Eq=>(zK M 9 x y).elim False λb=>Q (.bl b) M
 | .NotEq=>(zK M 9 x y).elim False λb=>Q (.bl (!b)) M
 | .Lt=>match x,y with|.int i,.int j=>Q (.bl (decide (i<j))) M|_,_=>False
 | .LtE=>match x,y with|.int i,.int j=>Q (.bl (decide (i<=j))) M|_,_=>False
 | .Gt=>match x,y with|.int i,.int j=>Q (.bl (decide (j<i))) M|_,_=>False
 | .GtE=>match x,y with|.int i,.int j=>Q (.bl (decide (j<=i))) M|_,_=>False
 | .Is=>match y with|.mY=>Q (.bl (match x with|.mY=>pc|_=>lf)) M|_=>False
 | .IsNot=>match y with|.mY=>Q (.bl (match x with|.mY=>lf|_=>pc)) M|_=>False
 | .In=>Su lf x y M Q
 | .NotIn=>Su pc x y M Q
def k3(op:CmpOp)(ta tb:T3):T3:=λU M Q=>ta U M λx M1=>tb U M1 λy M2=>Qd op x y M2 Q
def yk(h:sj K H d v)(f:ve d=pc):yZ v=pc:=by
 cases d with
 | mY=>rw[h.mW];rfl
 | bl _=>rw[h.mX];rfl
 | int _=>rw[h.int_inv];rfl
 | str _=>rw[h.str_inv];rfl
 | _=>cases f
def J4(h:sj K H d v)(g:sj K H e w)(f:ve d=pc)(f':ve e=pc):OL v w=Po d e:=by
 cases d with
 | mY=>
  rw[h.mW];cases e with
  | mY=>rw[g.mW];rfl
  | bl _=>rw[g.mX];rfl
  | int _=>rw[g.int_inv];rfl
  | str _=>rw[g.str_inv];rfl
  | _=>cases f'
 | bl _=>
  rw[h.mX];cases e with
  | mY=>rw[g.mW];rfl
  | bl _=>rw[g.mX];rfl
  | int _=>rw[g.int_inv];rfl
  | str _=>rw[g.str_inv];rfl
  | _=>cases f'
 | int _=>
  rw[h.int_inv];cases e with
  | mY=>rw[g.mW];rfl
  | bl _=>rw[g.mX];rfl
  | int _=>rw[g.int_inv];rfl
  | str _=>rw[g.str_inv];rfl
  | _=>cases f'
 | str _=>
  rw[h.str_inv];cases e with
  | mY=>rw[g.mW];rfl
  | bl _=>rw[g.mX];rfl
  | int _=>rw[g.int_inv];rfl
  | str _=>rw[g.str_inv];rfl
  | _=>cases f'
 | _=>cases f
theorem BY:∀{ds:T0 D} {xs:T0 V},qF K H ds xs->ds.all ve=pc->xs.all yZ=pc
 | [],_,h,_=>by rw[h.nil_inv];rfl
 | d::ds,_,h,f=>by obtain⟨x,r,rfl,h1,h2⟩:=h.inv;rw[fD,dZ]at f ⊢;exact⟨yk h1 f.1,BY h2 f.2⟩
theorem LF(g:sj K H e w)(f':ve e=pc):∀{ds:T0 D} {xs:T0 V},qF K H ds xs->ds.all ve=pc->inV w xs=inD e ds
 | [],_,h,_=>by rw[h.nil_inv];rfl
 | d::ds,_,h,f=>by obtain⟨x,r,rfl,h1,h2⟩:=h.inv;rw[fD,dZ]at f;show(OL x w||inV w r)=(Po d e||inD e ds);rw[J4 h1 g f.1 f',LF g f' h2 f.2]
def FW(hm:HM K H M){y:D}{v:V}{ds:T0 D}(h:sj K H y v)(q:Ox M y=Fa ds):∃p xs,v=.ref p/\(zJ K H p xs\/vA K H p xs)/\qF K H ds xs:=by
 cases y with
 | tup es=>cases q;obtain⟨a,xs,rfl,h1,h2⟩:=h.mZ;exact⟨a,xs,Z',.inr h1,h2⟩
 | ref a=>cases h.mU;obtain⟨xs,h1,h2,_⟩:=qO hm q;exact⟨a,xs,Z',.inl h1,h2⟩
 | rl es=>cases q;obtain⟨a,xs,rfl,h1,h2⟩:=h.nz;exact⟨a,xs,Z',.inl h1.sq,h2⟩
 | _=>cases q
variable {c:Go}{tc:T3}
section
def KR(op:CmpOp)(hu:X.A.units+9<Y'):yj X (Ps op) (R3 X.K (Qd op)):=by
 intro XN s Y H vx vy v u Q' I rx ry h;obtain⟨x,y,M,Q,hx,hy,hm,q,k⟩:=h;have bk:∀b,Q (.bl b) M->EP X XN Y Q' (.bool b) s:=λb q=>⟨.bl b,H,I,Z',k _ _ _ _ .bl hm .refl q⟩;have inn:∀Zq:Bool,((Ox M y).elim False λds=>ve x=pc/\ds.all ve=pc/\Q (.bl (if Zq then !inD x ds else inD x ds)) M)->WI X.K Zq vx vy H Q':=λZq q=>by obtain⟨ds,e,f1,f2,q⟩:=rD q;obtain⟨p,xs,rfl,h1,h2⟩:=FW hm hy e;refine⟨p,xs,Z',h1,yk hx f1,BY h2 f2,?_⟩;rw[LF hx f1 h2 f2];exact k _ _ _ _ .bl hm .refl q
 cases op with
 | Eq=>obtain⟨b,e,q⟩:=rD q;exact(Ga I hm 9 X.A x y b vx vy v u hu e hx hy rx ry).1 _ _ _ _ (bk b q)
 | NotEq=>obtain⟨b,e,q⟩:=rD q;exact(Ga I hm 9 X.A x y b vx vy v u hu e hx hy rx ry).2.2 _ _ _ _ (bk _ q)
 | Lt=>
  cases x<;>first|exact q.elim|skip
  cases y<;>first|exact q.elim|skip
  cases hx.int_inv;cases hy.int_inv;exact Vk XN s Y H _ _ v u Q' I rx ry ⟨_,_,Z',Z',k _ _ _ _ .bl hm .refl q⟩
 | LtE=>
  cases x<;>first|exact q.elim|skip
  cases y<;>first|exact q.elim|skip
  cases hx.int_inv;cases hy.int_inv;exact VZ XN s Y H _ _ v u Q' I rx ry ⟨_,_,Z',Z',k _ _ _ _ .bl hm .refl q⟩
 | Gt=>
  cases x<;>first|exact q.elim|skip
  cases y<;>first|exact q.elim|skip
  cases hx.int_inv;cases hy.int_inv;exact VN XN s Y H _ _ v u Q' I rx ry ⟨_,_,Z',Z',k _ _ _ _ .bl hm .refl q⟩
 | GtE=>
  cases x<;>first|exact q.elim|skip
  cases y<;>first|exact q.elim|skip
  cases hx.int_inv;cases hy.int_inv;exact VU XN s Y H _ _ v u Q' I rx ry ⟨_,_,Z',Z',k _ _ _ _ .bl hm .refl q⟩
 | Is=>
  cases y<;>first|exact q.elim|skip
  cases hy.mW;refine SY XN s Y H _ _ v u Q' I rx ry ⟨Z',k _ _ _ _ ?_ hm .refl q⟩;cases x with
  | mY=>rw[hx.mW];exact .bl
  | bl _=>rw[hx.mX];exact .bl
  | int _=>rw[hx.int_inv];exact .bl
  | str _=>rw[hx.str_inv];exact .bl
  | tup _=>obtain⟨a,xs,rfl,_⟩:=hx.mZ;exact .bl
  | ref _=>rw[hx.mU];exact .bl
  | ty _=>rw[hx.oh];exact .bl
  | rl _=>obtain⟨a,xs,rfl,_⟩:=hx.nz;exact .bl
 | IsNot=>
  cases y<;>first|exact q.elim|skip
  cases hy.mW;refine Qy XN s Y H _ _ v u Q' I rx ry ⟨Z',k _ _ _ _ ?_ hm .refl q⟩;cases x with
  | mY=>rw[hx.mW];exact .bl
  | bl _=>rw[hx.mX];exact .bl
  | int _=>rw[hx.int_inv];exact .bl
  | str _=>rw[hx.str_inv];exact .bl
  | tup _=>obtain⟨a,xs,rfl,_⟩:=hx.mZ;exact .bl
  | ref _=>rw[hx.mU];exact .bl
  | ty _=>rw[hx.oh];exact .bl
  | rl _=>obtain⟨a,xs,rfl,_⟩:=hx.nz;exact .bl
 | In=>
  have q:Su lf x y M Q:=q;unfold Su at q;split at q
  .cases hx.str_inv;cases hy.str_inv;exact Kc XN s Y H _ _ v u Q' I rx ry ⟨_,_,Z',Z',k _ _ _ _ .bl hm .refl q⟩
  .exact Kj XN s Y H _ _ v u Q' I rx ry (inn lf q)
 | NotIn=>
  have q:Su pc x y M Q:=q;unfold Su at q;split at q
  .cases hx.str_inv;cases hy.str_inv;exact Fh XN s Y H _ _ v u Q' I rx ry ⟨_,_,Z',Z',k _ _ _ _ .bl hm .refl q⟩
  .exact E5 XN s Y H _ _ v u Q' I rx ry (inn pc q)
variable {a b:Go}
def qG{op:CmpOp}(hu:X.A.units+9<Y')(ha:E3 X a ta)(hb:E3 X b tb)(hm:wT op b=lf:=by first|exact HW _|with_unfolding_all rfl):E3 X (.Compare a [op] [b] pos) (k3 op ta tb):=PE.mono (Jh (KR op hu) ha hb hm) HP
def b3(t:T3):Bf:=λU M Q=>t U M λd M1=>match d with|.bl c=>Q c M1|_=>False
def vH(h:E3 X e t)(he:∀Yq,isTrue e X.env Yq=(do let v<-Yq;XXc e.pos;wE [v] (truthy v)):=by intro _;rfl):B3 X e (b3 t):=PT.mono (SL h he) λY H Q' zz=>x7 zz λU M Q hs hm ht k=>
 ⟨U,M,_,hs,hm,ht,λv H1 d M1 hd XQ e1 q1=>by
  cases d with
  | bl c=>exact⟨c,hd.mX,k c H1 M1 XQ e1 q1⟩
  | _=>exact q1.elim⟩
def pW{op:CmpOp}(hu:X.A.units+9<Y')(ha:E3 X a ta)(hb:E3 X b tb)(hm:wT op b=lf:=by first|exact HW _|with_unfolding_all rfl):B3 X (.Compare a [op] [b] pos) (b3 (k3 op ta tb)):=PT.mono (JV (KR op hu) ha hb hm) λY H Q' zz=>x7 zz λU M Q hs hm ht k=>
 HP Y H _ ⟨U,M,_,hs,hm,ht,λv H1 d M1 hd XQ e1 q1=>by
  cases d with
  | bl c=>exact⟨c,hd.mX,k c H1 M1 XQ e1 q1⟩
  | _=>exact q1.elim⟩
end
variable {tA tB:Bf}{rest:T0 Go}
section
variable {a b:Go}
def PU(t u:Bf):Bf:=λU M Q=>t U M λc M1=>if c=pc then u U M1 Q else Q lf M1
def XM(t u:Bf):Bf:=λU M Q=>t U M λc M1=>if c=pc then Q pc M1 else u U M1 Q
def VI(t:Bf):Bf:=λU M Q=>t U M λc M1=>Q (!c) M1
def W3(X:Cx)(e:Go)(t:Bf):Prop:=PW X e (Um X.K t)
def PW.mono{t t':TT}(h:PW X e t)(m:∀Y H Q,t' Y H Q->t Y H Q):PW X e t':=λwh XN s Y H Q I q=>h wh XN s Y H Q I (m Y H Q q)
def W3.b3(h:W3 X e t):B3 X e t:=PW.pt h
def vN(h:B3 X a tA):W3 X (.BoolOp .And [a] pos) tA:=Q2 h
def zb(h:B3 X a tA):W3 X (.BoolOp .Or [a] pos) tA:=Sv h
def vv(ha:B3 X a tA)(hb:W3 X (.BoolOp .And (b::rest) pos) tB):W3 X (.BoolOp .And (a::b::rest) pos) (PU tA tB):=PW.mono (TR ha hb) λY H Q' zz=>x7 zz λU M Q hs hm ht k=>
 ⟨U,M,_,hs,hm,ht,λc H1 M1 XQ e1 q1=>by
  cases c with
  | true=>exact(dg Z').mpr ⟨U,M1,Q,hs.mono e1,XQ,(dg Z').mp q1,λb H' M' x1 x2 x3=>k b H' M' x1 (e1.trans x2) x3⟩
  | false=>exact(de dC).mpr (k lf H1 M1 XQ e1 ((de dC).mp q1))⟩
def zR(ha:B3 X a tA)(hb:W3 X (.BoolOp .Or (b::rest) pos) tB):W3 X (.BoolOp .Or (a::b::rest) pos) (XM tA tB):=PW.mono (UY ha hb) λY H Q' zz=>x7 zz λU M Q hs hm ht k=>
 ⟨U,M,_,hs,hm,ht,λc H1 M1 XQ e1 q1=>by
  cases c with
  | true=>exact(dg Z').mpr (k pc H1 M1 XQ e1 ((dg Z').mp q1))
  | false=>exact(de dC).mpr ⟨U,M1,Q,hs.mono e1,XQ,(de dC).mp q1,λb H' M' x1 x2 x3=>k b H' M' x1 (e1.trans x2) x3⟩⟩
def xX(ha:B3 X a tA):B3 X (.UnaryOp .Not a pos) (VI tA):=PT.mono (Sx ha) λY H Q' zz=>x7 zz λU M Q hs hm ht k=>⟨U,M,_,hs,hm,ht,λc H1 M1 XQ e1 q1=>k _ H1 M1 XQ e1 q1⟩
def U9(ta tb:T3):T3:=λU M Q=>ta U M λd M1=>match d with|.bl c=>if c=pc then tb U M1 Q else Q (.bl lf) M1|_=>False
def W7(ta tb:T3):T3:=λU M Q=>ta U M λd M1=>match d with|.bl c=>if c=pc then Q (.bl pc) M1 else tb U M1 Q|_=>False
def Va(ta:T3):T3:=λU M Q=>ta U M λd M1=>match d with|.bl c=>Q (.bl (!c)) M1|_=>False
def tJ{op}(h:E3 X a ta):E3 X (.BoolOp op [a] pos) ta:=TY h
def tY(ha:E3 X a ta)(hb:E3 X (.BoolOp .And (b::rest) pos) tb):E3 X (.BoolOp .And (a::b::rest) pos) (U9 ta tb):=PE.mono (Sa ha hb) λY H Q' zz=>x7 zz λU M Q hs hm ht k=>
 ⟨U,M,_,hs,hm,ht,λv H1 d M1 hd XQ e1 q1=>by
  cases d with
  | bl c=>
   refine⟨c,hd.mX,?_⟩;cases c with
   | true=>exact(dg Z').mpr ⟨U,M1,Q,hs.mono e1,XQ,(dg Z').mp q1,wb e1 k⟩
   | false=>exact(de dC).mpr (k _ H1 _ M1 .bl XQ e1 ((de dC).mp q1))
  | _=>exact q1.elim⟩
def J8(ha:E3 X a ta)(hb:E3 X (.BoolOp .Or (b::rest) pos) tb):E3 X (.BoolOp .Or (a::b::rest) pos) (W7 ta tb):=PE.mono (Vr ha hb) λY H Q' zz=>x7 zz λU M Q hs hm ht k=>
 ⟨U,M,_,hs,hm,ht,λv H1 d M1 hd XQ e1 q1=>by
  cases d with
  | bl c=>
   refine⟨c,hd.mX,?_⟩;cases c with
   | true=>exact(dg Z').mpr (k _ H1 _ M1 .bl XQ e1 ((dg Z').mp q1))
   | false=>exact(de dC).mpr ⟨U,M1,Q,hs.mono e1,XQ,(de dC).mp q1,wb e1 k⟩
  | _=>exact q1.elim⟩
def SS(ha:E3 X a ta):E3 X (.UnaryOp .Not a pos) (Va ta):=PE.mono (TM ha) λY H Q' zz=>x7 zz λU M Q hs hm ht k=>
 ⟨U,M,_,hs,hm,ht,λv H1 d M1 hd XQ e1 q1=>by
  cases d with
  | bl c=>exact⟨c,hd.mX,k _ H1 _ M1 .bl XQ e1 q1⟩
  | _=>exact q1.elim⟩
def XE(t:Bf)(ta tb:T3):T3:=λU M Q=>t U M λc M1=>if c=pc then ta U M1 Q else tb U M1 Q
def Rw(hc:B3 X c tA)(ha:E3 X a ta)(hb:E3 X b tb):E3 X (.IfExp c a b pos) (XE tA ta tb):=PE.mono (Od hc ha hb) λY H Q' zz=>x7 zz λU M Q hs hm ht k=>
 ⟨U,M,_,hs,hm,ht,λc H1 M1 XQ e1 q1=>by
  cases c with
  | true=>exact(dg Z').mpr ⟨U,M1,Q,hs.mono e1,XQ,(dg Z').mp q1,wb e1 k⟩
  | false=>exact(de dC).mpr ⟨U,M1,Q,hs.mono e1,XQ,(de dC).mp q1,wb e1 k⟩⟩
def Wm(x y:D)(M:Mp)(Q:DK):Prop:=match x,y with
 | .tup ds,.int i=>(vY ds i).elim False λd=>Q d M
 | .ref a,.int i=>(pq M a).elim False λds=>(vY ds i).elim False λd=>Q d M
 | .rl ds,.int i=>(vY ds i).elim False λd=>Q d M
 | .str z,.int i=>z.length<=Ch/\(vY z.cps.toList i).elim False λc=>Q (.str ⟨#[c]⟩) M
 | _,_=>False
def i3(ta tb:T3):T3:=λU M Q=>ta U M λx M1=>tb U M1 λy M2=>Wm x y M2 Q
def F6{K:qM}{d:D}(h:qF K H ds xs)(e:vY ds i=Fa d):∃v,vY xs i=Fa v/\sj K H d v:=by
 unfold vY at e ⊢;rw[<-h.length];cases q:F4 ds.length i with
 | none=>rw[q]at e;cases e
 | some j=>rw[q]at e;exact h.get e
def XJ:Uq X (R3 X.K Wm):=by
 intro value X3 XN s Y H vx vy v u Q' I rx ry h hs;obtain⟨x,y,M,Q,hx,hy,hm,q,k⟩:=h;unfold Wm at q;split at q
 .obtain⟨d,e,q⟩:=rD q;obtain⟨p,xs,rfl,h1,h2⟩:=hx.mZ;cases hy.int_inv;obtain⟨w,e1,e2⟩:=F6 h2 e;exact SH value X3 XN s Y H _ _ v u Q' I rx ry ⟨p,xs,_,w,Z',Z',h1,e1,k _ _ _ _ e2 hm .refl q⟩ hs
 .obtain⟨ds,e0,q⟩:=rD q;obtain⟨d,e,q⟩:=rD q;cases hx.mU;cases hy.int_inv;obtain⟨xs,h1,h2,_⟩:=qO hm e0;obtain⟨w,e1,e2⟩:=F6 h2 e;exact JB value X3 XN s Y H _ _ v u Q' I rx ry ⟨_,xs,_,w,Z',Z',h1,e1,k _ _ _ _ e2 hm .refl q⟩ hs
 .obtain⟨d,e,q⟩:=rD q;obtain⟨p,xs,rfl,h1,h2⟩:=hx.nz;cases hy.int_inv;obtain⟨w,e1,e2⟩:=F6 h2 e;exact JB value X3 XN s Y H _ _ v u Q' I rx ry ⟨p,xs,_,w,Z',Z',h1.sq,e1,k _ _ _ _ e2 hm .refl q⟩ hs
 .obtain⟨q1,q⟩:=q;obtain⟨c,e,q⟩:=rD q;cases hx.str_inv;cases hy.int_inv;exact Ta value X3 XN s Y H _ _ v u Q' I rx ry ⟨_,_,c,Z',Z',q1,e,k _ _ _ _ .str hm .refl q⟩ hs
 .exact q.elim
def pV(ha:E3 X a ta)(hb:E3 X b tb)(hs:B2 b:=by exact λ_ _=>rfl):E3 X (.Subscript a b pos) (i3 ta tb):=PE.mono (NU XJ ha hb hs) HP
noncomputable def ut(ds:T0 D)(lo hi:Option Int):T0 D:=(ds.drop (HT.tV ds.length 0 lo)).take (HT.tV ds.length ds.length hi - HT.tV ds.length 0 lo)
def Gr{K:qM}(q:qF K H ds xs):qF K H (ut ds l h) (CH xs l h):=by unfold ut CH;rw[q.length];exact(q.drop _).take _
abbrev Uo:=vO->Mp->(Option Int->Mp->Prop)->Prop
def XB(K:qM)(t:Uo):TO:=λY H Q'=>Ea λU M Q=>zA K H Y U/\HM K H M/\t U M Q/\∀o H' M',HM K H' M'->rA K H H'->Q o M'->Q' o H'
def O3(X:Cx)(e:Option Go)(t:Uo):Prop:=PO X e (XB X.K t)
def P3:Uo:=λ_ M Q=>Q Db M
def VY(t:T3):Uo:=λU M Q=>t U M λd M1=>match d with|.int i=>Q (Fa i) M1|_=>False
def PO.mono{t t':TO}(h:PO X e t)(m:∀Y H Q,t' Y H Q->t Y H Q):PO X e t':=λXN s Y H Q I q=>h XN s Y H Q I (m Y H Q q)
def uk:O3 X Db P3:=PO.mono QR λY H Q' zz=>x7 zz λU M Q hs hm ht k=>k Db H M hm .refl ht
def tL(h:E3 X e t):O3 X (Fa e) (VY t):=PO.mono (Pq h) λY H Q' zz=>x7 zz λU M Q hs hm ht k=>
 ⟨U,M,_,hs,hm,ht,λv H1 d M1 hd XQ e1 q1=>by
  cases d with
  | int i=>exact⟨i,hd.int_inv,k (Fa i) H1 M1 XQ e1 q1⟩
  | _=>exact q1.elim⟩
def Xp(x:D)(lo hi:Option Int)(M:Mp)(Q:DK):Prop:=match x with
 | .tup ds=>Q (.tup (ut ds lo hi)) M
 | .ref a=>(pq M a).elim False λds=>∀p,M p=Db->Q (.ref p) (pT M p (.lst (ut ds lo hi)))
 | .rl ds=>∀p,M p=Db->Q (.ref p) (pT M p (.lst (ut ds lo hi)))
 | _=>False
def s3(te:T3)(tl th:Uo):T3:=λU M Q=>te U M λx M1=>tl U M1 λl M2=>th U M2 λu M3=>Xp x l u M3 Q
def WU(K:qM):V->Option Int->Option Int->Hp->VK->Prop:=λvx l u H Q'=>Ea λx M Q=>sj K H x vx/\HM K H M/\Xp x l u M Q/\Up K H Q' Q
def Pp{ds:T0 D}{lo hi:Option Int}(h:HT.tV ds.length 0 lo=0/\HT.tV ds.length ds.length hi=ds.length):ut ds lo hi=ds:=by unfold ut;rw[h.1,h.2,jm,lz,fv]
def Wh:UM X (WU X.K):=by
 intro XN s Y H vx v vl vu l u sl Q' I rx ZO pl pu h;obtain⟨x,M,Q,hx,hm,q,k⟩:=h;cases x with
 | tup ds=>
  have q2:Q (.tup (ut ds l u)) M:=q;obtain⟨a,xs,rfl,h1,h2⟩:=hx.mZ;by_cases q1:HT.tV ds.length 0 l=0/\HT.tV ds.length ds.length u=ds.length
  .rw[Pp q1]at q2;exact RS XN s Y H _ v vl vu l u sl Q' I rx ZO pl pu ⟨a,xs,Z',h1,by rw[<-h2.length];exact q1,k _ _ _ _ hx hm .refl q2⟩
  refine Sh XN s Y H _ v vl vu l u sl Q' I rx ZO pl pu ⟨a,xs,Z',h1,by rw[<-h2.length];exact q1,λp hp=>?_⟩;have e:rA X.K H (upd H p (.tup (CH xs l u))):=.new hp;exact k _ _ _ _ (.tup (.of qC) ((Gr h2).mono e)) (hm.add hp) e q2
 | ref a=>obtain⟨ds,e0,q⟩:=rD q;cases hx.mU;obtain⟨xs,h1,h2,_⟩:=qO hm e0;refine Jw XN s Y H _ v vl vu l u sl Q' I rx ZO pl pu ⟨a,xs,Z',h1,λp hp=>?_⟩;have e:rA X.K H (upd H p (.lst (CH xs l u))):=.new hp;exact k _ _ _ _ .ref (hm.new (c:=.lst (ut ds l u)) hp ⟨_,qC,(Gr h2).mono e⟩) e (q p (hm.fresh hp))
 | rl ds=>obtain⟨a,xs,rfl,h1,h2⟩:=hx.nz;refine Jw XN s Y H _ v vl vu l u sl Q' I rx ZO pl pu ⟨a,xs,Z',h1.sq,λp hp=>?_⟩;have e:rA X.K H (upd H p (.lst (CH xs l u))):=.new hp;exact k _ _ _ _ .ref (hm.new (c:=.lst (ut ds l u)) hp ⟨_,qC,(Gr h2).mono e⟩) e (q p (hm.fresh hp))
 | _=>exact q.elim
def sW{lo hi:Option Go}{p2:Pos}(he:E3 X e te)(hl:O3 X lo tl)(hu:O3 X hi th):E3 X (.Subscript e (.Slice lo hi Db p2) pos) (s3 te tl th):=PE.mono (LR Wh he hl hu) λY H Q' zz=>x7 zz λU M Q hs hm ht k=>⟨U,M,_,hs,hm,ht,λv H1 x M1 hx XQ e1 q1=>⟨U,M1,_,hs.mono e1,XQ,q1,λl H2 M2 X6 e2 q2=>⟨U,M2,_,hs.mono (e1.trans e2),X6,q2,λu H3 M3 YL e3 q3=>⟨x,M3,Q,hx.mono (e2.trans e3),YL,q3,wb (e1.trans (e2.trans e3)) k⟩⟩⟩⟩
def yA:xR:=λ_ M Q=>Q [] M
def we(ta:T3)(tr:xR):xR:=λU M Q=>ta U M λx M1=>tr U M1 λxs M2=>Q (x::xs) M2
def so:A3 X [] yA:=PA.mono SW λY H Q' zz=>x7 zz λU M Q hs hm ht k=>k [] H [] M .nil hm .refl ht
def qo(ha:E3 X e te)(hr:A3 X es t)(hs:Bt X e es:=by rfl):A3 X (e::es) (we te t):=PA.mono (Pe ha hr hs) λY H Q' zz=>x7 zz λU M Q hs hm ht k=>⟨U,M,_,hs,hm,ht,λv H1 x M1 hx XQ e1 q1=>⟨U,M1,_,hs.mono e1,XQ,q1,λvs H2 xs M2 hxs X6 e2 q2=>k _ H2 _ M2 (.cons (hx.mono e2) hxs) X6 (e1.trans e2) q2⟩⟩
def Wz(t:xR):T3:=λU M Q=>t U M λds M1=>ds.length<=Ch/\Q (.tup ds) M1
def U5(t:xR):T3:=λU M Q=>t U M λds M1=>ds.length<=Ch/\∀p,M1 p=Db->Q (.ref p) (pT M1 p (.lst ds))
def qd{x1}(h:A3 X es t):E3 X (.Tuple es x1 pos) (Wz t):=PE.mono (SR h) λY H Q' zz=>x7 zz λU M Q hs hm ht k=>
 ⟨U,M,_,hs,hm,ht,λvs H1 ds M1 YS XQ e1 q1=>⟨by rw[<-YS.length];exact q1.1,λp hp=>by
  have e:rA X.K H1 (upd H1 p (.tup vs)):=.new hp;exact k _ _ _ M1 (.tup (.of qC) (YS.mono e)) (XQ.add hp) (e1.trans e) q1.2⟩⟩
def qQ(h:A3 X es t):E3 X (.List es pos) (U5 t):=PE.mono (R7 h) λY H Q' zz=>x7 zz λU M Q hs hm ht k=>
 ⟨U,M,_,hs,hm,ht,λvs H1 ds M1 YS XQ e1 q1=>⟨by rw[<-YS.length];exact q1.1,λp hp=>by
  have e:rA X.K H1 (upd H1 p (.lst vs)):=.new hp;exact k _ _ _ _ .ref (XQ.new (c:=.lst ds) hp ⟨_,qC,YS.mono e⟩) (e1.trans e) (q1.2 p (XQ.fresh hp))⟩⟩
def vc(t u:yo):yo:=λD U M=>t {D with nx:=u D} U M
def W6:yo:=λD U M=>D.nx U M
def pZ:HK X [] W6:=Cq.mono PK λD' Y H zz=>Ln zz λU M D hs hm ht k1 k2 k3 k4=>k1 Y H U M hs hm .refl Z' ht
def pK{st:sK}{rest:T0 sK}(h1:S3 X st t)(h2:HK X rest u):HK X (st::rest) (vc t u):=Cq.mono (M9 h1 h2) λD' Y H zz=>Ln zz λU M D hs hm ht k1 k2 k3 k4=>
 ⟨U,M,{D with nx:=u D},hs,hm,ht,λσ1 H1 δ1 M1 hs1 XQ e1 l1 q1=>⟨δ1,M1,D,hs1,XQ,q1,λσ' H' δ' M' x1 x2 x3 x4 x5=>k1 σ' H' δ' M' x1 x2 (e1.trans x3) (x4.trans l1) x5,λv H' d M' x1 x2 x3 x4=>k2 v H' d M' x1 x2 (e1.trans x3) x4,λσ' H' δ' M' x1 x2 x3 x4 x5=>k3 σ' H' δ' M' x1 x2 (e1.trans x3) (x4.trans l1) x5,λσ' H' δ' M' x1 x2 x3 x4 x5=>k4 σ' H' δ' M' x1 x2 (e1.trans x3) (x4.trans l1) x5⟩,k2,k3,k4⟩
def pL{st:sK}(h1:S3 X st t):HK X [st] t:=Cq.mono (FC h1) λD' Y H h=>h
def Vi(te:T3):yo:=λD U M=>te U M λ_ M1=>D.nx U M1
def qe(he:E3 X e te)(Zl:ZB e Db pos.line X.env=pure lf:=by rfl):S3 X (.Expr e pos) (Vi te):=PS.mono (Q7 he Zl) λD' Y H zz=>Ln zz λU M D hs hm ht k1 k2 k3 k4=>⟨U,M,_,hs,hm,ht,λv H1 d M1 hd XQ e1 q1=>k1 Y H1 U M1 (hs.mono e1) XQ e1 Z' q1⟩
def S7(te:T3):yo:=λD U M=>te U M D.rt
def pS(he:E3 X e te):S3 X (.Return (Fa e) pos) (S7 te):=PS.mono (TL he) λD' Y H zz=>Ln zz λU M D hs hm ht k1 k2 k3 k4=>⟨U,M,_,hs,hm,ht,λv H1 d M1 hd XQ e1 q1=>k2 v H1 d M1 hd XQ e1 q1⟩
def MY(c:Bf)(t u:yo):yo:=λD U M=>c U M λb M1=>if b=pc then t D U M1 else u D U M1
def qg{tc:Bf}(hc:B3 X c tc)(ha:HK X as t)(hb:HK X bs u):S3 X (.If c as bs pos) (MY tc t u):=PS.mono (UW hc ha hb) λD' Y H zz=>Ln zz λU M D hs hm ht k1 k2 k3 k4=>
 ⟨U,M,_,hs,hm,ht,λb H1 M1 XQ e1 q1=>by
  have up:∀t:yo,t D U M1->WS X.K t D' Y H1:=λt q=>⟨U,M1,D,hs.mono e1,XQ,q,λσ' H' δ' M' x1 x2 x3 x4 x5=>k1 σ' H' δ' M' x1 x2 (e1.trans x3) x4 x5,λv H' d M' x1 x2 x3 x4=>k2 v H' d M' x1 x2 (e1.trans x3) x4,λσ' H' δ' M' x1 x2 x3 x4 x5=>k3 σ' H' δ' M' x1 x2 (e1.trans x3) x4 x5,λσ' H' δ' M' x1 x2 x3 x4 x5=>k4 σ' H' δ' M' x1 x2 (e1.trans x3) x4 x5⟩
  cases b with
  | true=>exact(dg Z').mpr (up t ((dg Z').mp q1))
  | false=>exact(de dC).mpr (up u ((de dC).mp q1))⟩
def TF:yo:=λ_ _ _=>False
def GQ{st:sK}:S3 X st TF:=PS.mono Nn λD' Y H ⟨U,M,D,hs,hm,ht,_⟩=>ht
abbrev DJ:=D->vO->Mp->(vO->Mp->Prop)->Prop
def V7(K:qM)(g:DJ):TG:=λv Y H Q'=>CO λd U M Q=>sj K H d v/\zA K H Y U/\HM K H M/\g d U M Q/\∀σ' H' δ' M',zA K H' σ' δ'->HM K H' M'->rA K H H'->σ'.length=Y.length->Q δ' M'->Q' σ' H'
def G3(X:Cx)(e:Go)(g:DJ):Prop:=PG X e (V7 X.K g)
def PG.n9{t t':TG}(h:PG X e t)(m:∀v Y H Q,Y.length=X.N.length->t' v Y H Q->t v Y H Q):PG X e t':=λXN s Y H v u Q I r q=>h XN s Y H v u Q I r (m v Y H Q I.len q)
def sC(i:Nat):DJ:=λd U M Q=>Q (U.set i (Fa d)) M
def J2{i:Nat}{x:Str}(hN:X.N.Nodup)(hi:X.N[i]?=Fa x)(hx:Lm X.env.scope x)(hf:Lq X x:=by first|exact .inl Z'|exact .inr Z'|assumption):G3 X (.Name x pos) (sC i):=
 PG.n9 (Qe hN hi hx hf) λv Y H Q' hl ⟨d,U,M,Q,hd,hs,hm,ht,k⟩=>k _ H _ M (hs.set hd (by rw[hl];exact(cY.mp hi).1)) hm .refl (by simp) ht
abbrev DE:=T0 D->vO->Mp->(vO->Mp->Prop)->Prop
def Wg(K:qM)(g:DE):OW:=λvs Y H Q'=>CO λds U M Q=>qF K H ds vs/\zA K H Y U/\HM K H M/\g ds U M Q/\∀σ' H' δ' M',zA K H' σ' δ'->HM K H' M'->rA K H H'->σ'.length=Y.length->Q δ' M'->Q' σ' H'
def VP(X:Cx)(es:T0 Go)(g:DE):Prop:=OG X es (Wg X.K g)
def OG.mono{t t':OW}(h:OG X e t)(m:∀v Y H Q,t' v Y H Q->t v Y H Q):OG X e t':=λXN s Y H v u Q I r q=>h XN s Y H v u Q I r (m v Y H Q q)
def PG.mono{t t':TG}(h:PG X e t)(m:∀v Y H Q,t' v Y H Q->t v Y H Q):PG X e t':=λXN s Y H v u Q I r q=>h XN s Y H v u Q I r (m v Y H Q q)
def Cj:DE:=λds U M Q=>match ds with|[]=>Q U M|_=>False
def yf(t:DJ)(u:DE):DE:=λds U M Q=>match ds with|d::r=>t d U M λδ' M'=>u r δ' M' Q|[]=>False
def tK:VP X [] Cj:=OG.mono QX λvs Y H Q' ⟨ds,U,M,Q,hd,hs,hm,ht,k⟩=>by
 cases ds with
 | nil=>exact⟨hd.nil_inv,k Y H U M hs hm .refl Z' ht⟩
 | cons _ _=>exact ht.elim
def qE(h1:G3 X e t)(h2:VP X es u)(hs:(At (e::es) X.env).map (·.2)=assign e X.env::(At es X.env).map (·.2):=by rfl):VP X (e::es) (yf t u):=
 OG.mono (LS h1 h2 hs) λvs Y H Q' ⟨ds,U,M,Q,hd,hs,hm,ht,k⟩=>by
 cases ds with
 | nil=>exact ht.elim
 | cons d r=>obtain⟨x,xr,rfl,hx,hr⟩:=hd.inv;exact⟨x,xr,Z',d,U,M,_,hx,hs,hm,ht,λσ1 H1 δ1 M1 hs1 XQ e1 l1 q1=>⟨r,δ1,M1,Q,hr.mono e1,hs1,XQ,q1,λσ' H' δ' M' x1 x2 x3 x4 x5=>k σ' H' δ' M' x1 x2 (e1.trans x3) (x4.trans l1) x5⟩⟩
def Ru(n:Nat)(t:DE):DJ:=λd U M Q=>match d with|.tup ds=>ds.length=n/\t ds U M Q|_=>False
def uX{n:Nat}(hc:X.calm=pc)(h:VP X es t)(hn:(At es X.env).length=n:=by rfl)(Yb:(At es X.env).findIdx? (·.1)=Db:=by rfl):G3 X (.Tuple es k pos) (Ru n t):=
 PG.mono (TQ hc h hn Yb) λv Y H Q' ⟨d,U,M,Q,hd,hs,hm,ht,k⟩=>by
 cases d with
 | tup ds=>obtain⟨a,xs,rfl,h1,h2⟩:=hd.mZ;exact⟨a,xs,Z',h1,by rw[<-h2.length];exact ht.1,ds,U,M,Q,h2,hs,hm,ht.2,k⟩
 | _=>exact ht.elim
def Hi(te:T3)(g:DJ):yo:=λD U M=>te U M λx M1=>g x U M1 D.nx
def E1(he:E3 X e te)(hg:G3 X tg g)(hs:swapsWithSole [tg] e pos.line X.env=pure lf:=by rfl)(hw:swappedStores [tg] e X.env=pure Db:=by rfl)
  (h1:(At [tg] X.env).map (·.2)=[assign tg X.env]:=by rfl):S3 X (.Assign [tg] e pos) (Hi te g):=PS.mono (Ug he hg hs hw h1) λD' Y H zz=>Ln zz λU M D hs hm ht k1 k2 k3 k4=>
 ⟨U,M,_,hs,hm,ht,λv H1 d M1 hd XQ e1 q1=>⟨d,U,M1,_,hd,hs.mono e1,XQ,q1,λσ' H' δ' M' x1 x2 x3 x4 x5=>k1 σ' H' δ' M' x1 x2 (e1.trans x3) x4 x5⟩⟩
def Sj{i:Nat}{x:Str}(hN:X.N.Nodup)(hi:X.N[i]?=Fa x)(hx:Lm X.env.scope x)(he:E3 X e te)(Zl:ZB e (Fa (.Name x X1)) pos.line X.env=pure lf:=by rfl)
  (hf:Lq X x:=by first|exact .inl Z'|exact .inr Z'|assumption):S3 X (.Assign [.Name x X1] e pos) (Hi te (sC i)):=PS.n9 (Mf hN hi hx he Zl hf) λD' Y H hl zz=>Ln zz λU M D hs hm ht k1 k2 k3 k4=>
 ⟨U,M,_,hs,hm,ht,λv H1 d M1 hd XQ e1 q1=>k1 _ H1 _ M1 ((hs.mono e1).set hd (by rw[hl];exact(cY.mp hi).1)) XQ e1 (by simp) q1⟩
end
abbrev rO:=T0 D->Mp->DK->Prop
def OH(K:qM)(sp:rO):Sp:=λvs H Q' _=>Ea λds M Q=>qF K H ds vs/\HM K H M/\sp ds M Q/\Up K H Q' Q
noncomputable def xl(N:QQQ)(ds:T0 D):vO:=ds.map Fa++List.replicate (N.length - ds.length) Db
def Er{K:qM}(h:qF K H ds vs):zA K H (L2.start N vs) (xl N ds):=λi d q=>by
 unfold xl at q;unfold L2.start;by_cases hi:i<ds.length
 .rw[fk (by simpa using hi),dz]at q;cases e:ds[i]? with
  | none=>rw[e]at q;cases q
  | some d'=>rw[e]at q;cases q;obtain⟨v,e1,e2⟩:=h.get e;refine⟨v,?_,e2⟩;rw[fk (by rw[cW,<-h.length];exact hi),dz,e1];rfl
 .rw[fi (by simpa using hi),jU]at q;split at q<;>cases q
variable {P:Pg}{w:Wo}{mg:QQZ}{base:No}
abbrev Us(P:Pg)(w:Wo)(K:qM)(mg:QQZ)(base:No)(k:Nat)(f:Uf)(fd:sB)(ps:QQQ)(sp:rO):Prop:=xP P w K mg base OF k f fd ps (OH K sp)
variable {k:Nat}{f C:Uf}{fd:sB}{ps:QQQ}{sp:rO}{x m fn:Str}{p XS:Pos}{e o:Go}{es:T0 Go}{t:xR}
def EU(sp:rO)(t:xR):T3:=λU M Q=>t U M λds M1=>sp ds M1 Q
def O0(F:Us X.prog X.w X.K X.mg X.base k f fd ps sp)(hr:sJ k X.A)(hg:Gl X x)(hm:X.mg x=Fa (.ref f))(hk:W.keepIn X.K (.ref f)=pc)(hb:vt X.K fd ps [])(ha:A3 X (e::es) t) (Yc:zm x:=by decide) (he:Bt X e es:=by rfl) (X8:Cg X pos es:=by rfl):
  E3 X (.Call (.Name x p) (e::es) [] pos) (EU sp t):=PE.mono (QI F hr hg hm hk hb .nil (GY (X:=X)) ha Yc he X8) λY H Q' zz=>x7 zz λU M Q hs hm ht k=>
 ⟨U,M,_,hs,hm,ht,λvs H1 ds M1 hd XQ e1 q1=>⟨ds,M1,Q,by rw[eN];exact hd,XQ,q1,wb e1 k⟩⟩
def C3(X:Cx)(f:Vl)(r:rO):Prop:=Av X f λvs H Q'=>∃ds M Q,qF X.K H ds vs/\HM X.K H M/\r ds M Q/\Up X.K H Q' Q
def qm{id:String}(hc:C3 X (.builtin id) r)(hg:Gl X x)(hm:X.mg x=Db)(hv:zn x=Fa (.builtin id))(ha:A3 X (e::es) t)(hn:x≠"__name__":=by decide)(Yc:zm x:=by decide)
  (he:Bt X e es:=by rfl) (X8:Cg X pos es:=by rfl):E3 X (.Call (.Name x p) (e::es) [] pos) (EU r t):=
 PE.mono (Ng hc hg hm hv ha hn Yc he X8) λY H Q' zz=>x7 zz λU M Q hs hm ht k=>⟨U,M,_,hs,hm,ht,λvs H1 ds M1 hd XQ e1 q1=>⟨ds,M1,Q,hd,XQ,q1,wb e1 k⟩⟩
def qK{T:String}(hc:C3 X (.type T) r)(hg:Gl X x)(hm:X.mg x=Db)(hv:zn x=Fa (.type T))(ha:A3 X (e::es) t)(hn:x≠"__name__":=by decide)(Yc:zm x:=by decide)
  (he:Bt X e es:=by rfl) (X8:Cg X pos es:=by rfl):E3 X (.Call (.Name x p) (e::es) [] pos) (EU r t):=
 PE.mono (K2 hc hg hm hv ha hn Yc he X8) λY H Q' zz=>x7 zz λU M Q hs hm ht k=>⟨U,M,_,hs,hm,ht,λvs H1 ds M1 hd XQ e1 q1=>⟨ds,M1,Q,hd,XQ,q1,wb e1 k⟩⟩
def UD(ds:T0 D)(M:Mp)(Q:DK):Prop:=match ds with
 | [.str z]=>z.length<=Ch/\Q (.int z.length) M
 | [.tup es]=>Q (.int es.length) M
 | [.ref a]=>(pq M a).elim False λes=>Q (.int es.length) M
 | [.rl es]=>Q (.int es.length) M
 | _=>False
def sG{K:qM}{d:D}(h:qF K H [d] vs):∃v,vs=[v]/\sj K H d v:=by obtain⟨x,r,rfl,a,b⟩:=h.inv;rw[b.nil_inv];exact⟨x,Z',a⟩
def FM{K:qM}{d e:D}(h:qF K H [d,e] vs):∃v u,vs=[v,u]/\sj K H d v/\sj K H e u:=by obtain⟨x,r,rfl,a,b⟩:=h.inv;obtain⟨y,rfl,c⟩:=sG b;exact⟨x,y,Z',a,c⟩
def qP:C3 X (.builtin "len") UD:=by
 intro XN s Y H vs us Q' I rv h;obtain⟨ds,M,Q,hd,hm,q,k⟩:=h;unfold UD at q;split at q
 .obtain⟨v,rfl,hv⟩:=sG hd;cases hv.str_inv;exact FK XN s Y H _ us Q' I rv ⟨_,Z',q.1,k _ _ _ _ .int hm .refl q.2⟩
 .obtain⟨v,rfl,hv⟩:=sG hd;obtain⟨a,xs,rfl,h1,h2⟩:=hv.mZ;exact xD XN s Y H _ us Q' I rv ⟨a,xs,Z',.inr h1,k _ _ _ _ (by rw[<-h2.length];exact .int) hm .refl q⟩
 .obtain⟨v,rfl,hv⟩:=sG hd;obtain⟨es,e0,q⟩:=rD q;cases hv.mU;obtain⟨xs,h1,h2,_⟩:=qO hm e0;exact xD XN s Y H _ us Q' I rv ⟨_,xs,Z',.inl h1,k _ _ _ _ (by rw[<-h2.length];exact .int) hm .refl q⟩
 .obtain⟨v,rfl,hv⟩:=sG hd;obtain⟨a,xs,rfl,h1,h2⟩:=hv.nz;exact xD XN s Y H _ us Q' I rv ⟨a,xs,Z',.inl h1.sq,k _ _ _ _ (by rw[<-h2.length];exact .int) hm .refl q⟩
 .exact q.elim
def UV(ds:T0 D)(M:Mp)(Q:DK):Prop:=match ds with
 | [.int i,.int j]=>Q (.int (if j<i then j else i)) M
 | _=>False
def Uk(hc:X.calm=pc):C3 X (.builtin "min") UV:=by
 intro XN s Y H vs us Q' I rv h;obtain⟨ds,M,Q,hd,hm,q,k⟩:=h;unfold UV at q;split at q
 .obtain⟨v,u,rfl,hv,hw⟩:=FM hd;cases hv.int_inv;cases hw.int_inv;exact Kf hc XN s Y H _ us Q' I rv ⟨_,_,Z',k _ _ _ _ .int hm .refl q⟩
 .exact q.elim
def NQ(ds:T0 D)(M:Mp)(Q:DK):Prop:=match ds with
 | [.tup es]=>Q (.tup es) M
 | [.ref a]=>(pq M a).elim False λes=>Q (.tup es) M
 | [.rl es]=>Q (.tup es) M
 | _=>False
def uC:C3 X (.type "tuple") NQ:=by
 intro XN s Y H vs us Q' I rv h;obtain⟨ds,M,Q,hd,hm,q,k⟩:=h;unfold NQ at q;split at q
 .obtain⟨v,rfl,hv⟩:=sG hd;obtain⟨a,xs,rfl,h1,h2⟩:=id hv.mZ;exact wM XN s Y H _ us Q' I rv ⟨a,xs,Z',.inr ⟨h1,k _ _ _ _ hv hm .refl q⟩⟩
 .obtain⟨v,rfl,hv⟩:=sG hd;obtain⟨es,e0,q⟩:=rD q;cases hv.mU;obtain⟨xs,h1,h2,_⟩:=qO hm e0;refine wM XN s Y H _ us Q' I rv ⟨_,xs,Z',.inl ⟨h1,λl hl=>?_⟩⟩;have e:rA X.K H (upd H l (.tup xs)):=.new hl;exact k _ _ _ _ (.tup (.of qC) (h2.mono e)) (hm.add hl) e q
 .obtain⟨v,rfl,hv⟩:=sG hd;obtain⟨a,xs,rfl,h1,h2⟩:=hv.nz;refine wM XN s Y H _ us Q' I rv ⟨_,xs,Z',.inl ⟨h1.sq,λl hl=>?_⟩⟩;have e:rA X.K H (upd H l (.tup xs)):=.new hl;exact k _ _ _ _ (.tup (.of qC) (h2.mono e)) (hm.add hl) e q
 .exact q.elim
def Rn(ds:T0 D)(M:Mp)(Q:DK):Prop:=match ds with
 | [d]=>(Ox M d).elim False λes=>∀p,M p=Db->Q (.ref p) (pT M p (.lst es))
 | _=>False
def uj:C3 X (.type "list") Rn:=by
 intro XN s Y H vs us Q' I rv h;obtain⟨ds,M,Q,hd,hm,q,k⟩:=h;unfold Rn at q;split at q
 .obtain⟨v,rfl,hv⟩:=sG hd;obtain⟨es,e0,q⟩:=rD q;obtain⟨p,xs,rfl,h1,h2⟩:=FW hm hv e0;refine FI XN s Y H _ us Q' I rv ⟨p,xs,Z',h1,λl hl=>?_⟩;have e:rA X.K H (upd H l (.lst xs)):=.new hl;exact k _ _ _ _ .ref (hm.new (c:=.lst es) hl ⟨_,qC,h2.mono e⟩) e (q l (hm.fresh hl))
 .exact q.elim
theorem xk{K:qM}{f:Str}:∀{fs:T0 (Str×D)} {vs:T0 (Str×V)},Ce K H fs vs->(∀d,fs.lookup f=Fa d->∃v,vs.lookup f=Fa v/\sj K H d v)/\(fs.lookup f=Db->vs.lookup f=Db)
 | [],[],_=>⟨λd e=>by simp at e,λ_=>rfl⟩
 | [],_::_,h=>by have:=h.1;simp at this
 | _::_,[],h=>by have:=h.1;simp at this
 | (g,d)::fs,(g',v)::vs,h=>by
  have h1:g'=g/\vs.map (·.1)=fs.map (·.1):=by
   have:=h.1
   simpa using this
  obtain⟨x,r,e,a,b⟩:=h.2.inv;have e':v::vs.map (·.2)=x::r:=e;cases e';obtain⟨i1,i2⟩:=xk (f:=f) (fs:=fs) (vs:=vs) ⟨h1.2,b⟩;rw[h1.1];refine⟨λd' e=>?_,λe=>?_⟩
  .rw[eQ]at e ⊢;cases q:f==g with
   | true=>rw[q]at e;cases e;exact⟨v,Z',a⟩
   | false=>rw[q]at e;exact i1 d' e
  .rw[eQ]at e ⊢;cases q:f==g with
   | true=>rw[q]at e;cases e
   | false=>rw[q]at e;exact i2 e
theorem JA{f:Str}{d:D}:∀{fs:T0 (Str×D)},fs.lookup f=Fa d->f∈fs.map (·.1)
 | [],h=>by simp at h
 | (g,e)::r,h=>by
  rw[eQ]at h;cases q:f==g with
  | true=>
   have z:f=g:=by simpa using q
   rw[z,dY];exact dI
  | false=>rw[q]at h;simp[JA h]
def AG(o:Option uG)(F:Uf->T0 (Str×D)->Prop):Prop:=match o with
 | some (.ins C fs)=>F C fs
 | _=>False
def pM{o:Option uG}{F:Uf->T0 (Str×D)->Prop}{C:Uf}{fs:T0 (Str×D)}(e:o=Fa (.ins C fs))(h:F C fs):AG o F:=by rw[e];exact h
def ye{o:Option uG}(h:AG o F):∃C fs,o=Fa (.ins C fs)/\F C fs:=by
 unfold AG at h;split at h
 .exact⟨_,_,Z',h⟩
 .exact h.elim
def Wu(f:Str)(ta:T3):T3:=λU M Q=>ta U M λx M1=>match x with
 | .ref a=>AG (M1 a) λ_ fs=>(fs.lookup f).elim False λd=>Q d M1
 | _=>False
def pQ{f:Str}(he:E3 X o ta)(hb:Rs o f X.env (wp o X.env)=wp o X.env:=by rfl):E3 X (.Attribute o f pos) (Wu f ta):=PE.mono (Se he hb) λY H Q' zz=>x7 zz λU M Q hs hm ht k=>
 ⟨U,M,_,hs,hm,ht,λv H1 d M1 hd XQ e1 q1=>by
  cases d with
  | ref a=>cases hd.mU;obtain⟨C,fs,e,q1⟩:=ye q1;obtain⟨d,e2,q⟩:=rD q1;obtain⟨dx,vs,h1,cl,na,fo⟩:=XQ a _ e;obtain⟨v,e3,hv⟩:=(xk fo).1 d e2;exact⟨a,C,dx,vs,v,Z',h1,cl,na f (JA e2),e3,k v H1 d M1 hv XQ e1 q⟩
  | _=>exact q1.elim⟩
noncomputable def wN(f:Str)(v:D):T0 (Str×D)->T0 (Str×D)
 | []=>[(f,v)]
 | (g,u)::r=>if g=f then(g,v)::r else(g,u)::wN f v r
theorem F9{K:qM}{f:Str}(hv:sj K H d v):∀{fs:T0 (Str×D)} {vs:T0 (Str×V)},Ce K H fs vs->Ce K H (wN f d fs) (wn f v vs)
 | [],[],_=>⟨Z',.cons hv .nil⟩
 | [],_::_,h=>by have:=h.1;simp at this
 | _::_,[],h=>by have:=h.1;simp at this
 | (g,e)::fs,(g',u)::vs,h=>by
  have h1:g'=g/\vs.map (·.1)=fs.map (·.1):=by
   have:=h.1
   simpa using this
  obtain⟨x,r,e1,a,b⟩:=h.2.inv;have e':u::vs.map (·.2)=x::r:=e1;cases e';obtain⟨hg,ht⟩:=h1;subst hg;rw[show wN f d ((g',e)::fs)=(if g'=f then(g',d)::fs else(g',e)::wN f d fs)from Z',show wn f v ((g',u)::vs)=(if g'=f then(g',v)::vs else(g',u)::wn f v vs)from Z'];by_cases q:g'=f
  .rw[dg q,dg q];exact⟨by simpa using ht,.cons hv b⟩
  .rw[de q,de q];obtain⟨i1,i2⟩:=F9 hv (fs:=fs) (vs:=vs) ⟨ht,b⟩;exact⟨by simpa using i1,.cons a i2⟩
theorem Dl{f:Str}:∀{fs:T0 (Str×D)} {g:Str},g∈(wN f d fs).map (·.1)->g=f\/g∈fs.map (·.1)
 | [],g,h=>.inl (by simpa [wN]using h)
 | (k,e)::r,g,h=>by
  rw[show wN f d ((k,e)::r)=(if k=f then(k,d)::r else(k,e)::wN f d r)from Z']at h;by_cases q:k=f
  .rw[dg q]at h;exact .inr (by simpa using h)
  .rw[de q]at h;rw[dY,dh]at h;rcases h with h|h
   .exact .inr (by simp[h])
   .rcases Dl h with z|z
    .exact .inl z
    .exact .inr (by simp;right;simpa using z)
def Vg(K:qM)(f:Str)(ta tv:T3):yo:=λD U M=>tv U M λy M1=>ta U M1 λx M2=>match x with
 | .ref a=>AG (M2 a) λC fs=>uI K C f/\fs.length<1000/\D.nx U (pT M2 a (.ins C (wN f y fs)))
 | _=>False
def qy{f:Str}(ha:E3 X o ta)(hv:E3 X value tv)(Zl:ZB value (Fa (.Attribute o f X1)) pos.line X.env=pure lf:=by rfl):S3 X (.Assign [.Attribute o f X1] value pos) (Vg X.K f ta tv):=
 PS.mono (Ud ha hv Zl) λD' Y H zz=>Ln zz λU M D hs hm ht k1 k2 k3 k4=>
 ⟨U,M,_,hs,hm,ht,λy H1 dy M1 hy XQ e1 q1=>⟨U,M1,_,hs.mono e1,XQ,q1,λv H2 d M2 hd X6 e2 q2=>by
  cases d with
  | ref a=>
   cases hd.mU;obtain⟨C,fs,e,q2⟩:=ye q2;obtain⟨na,hl,q⟩:=q2;obtain⟨dx,vs,h1,cl,nn,fo⟩:=X6 a _ e;have XW:vs.length=fs.length:=by have:=eY List.length fo.1;simpa using this
   refine⟨a,C,dx,vs,Z',h1,cl,na,by lia,?_⟩;obtain⟨YL,e3⟩:=X6.put (p:=a) (o:=.ins C dx (wn f y vs)) (c:=.ins C (wN f dy fs)) e λx=>⟨dx,_,qC,cl,λg hg=>by
    rcases Dl hg with z|z
    .rw[z];exact na
    .exact nn g z,F9 ((hy.mono e2).mono x) (fo.mono x)⟩
   exact k1 Y _ U _ (hs.mono (e1.trans (e2.trans e3))) YL (e1.trans (e2.trans e3)) Z' q
  | _=>exact q2.elim⟩⟩
def Rv(C:Uf)(sp:rO)(t:xR):T3:=λU M Q=>t U M λds M1=>∀x,M1 x=Db->sp (.ref x::ds) (pT M1 x (.ins C [])) λd M2=>d=.mY/\Q (.ref x) M2
def OB{K:qM}{xa dx:Uf}(hm:HM K H M)(cl:Cls K C)(h1:H xa=Db)(h2:H dx=Db)(ne:dx≠xa):HM K (upd (upd H dx (.own xa)) xa (.ins C dx [])) (pT M xa (.ins C []))/\rA K H (upd (upd H dx (.own xa)) xa (.ins C dx [])):=by
 have YA:upd H dx (.own xa) xa=Db:=by rw[qw (dS ne)];exact h1
 exact⟨(hm.add (p:=dx) (o:=.own xa) h2).new YA ⟨dx,[],qC,cl,λg hg=>by simp at hg,Z',.nil⟩,rA.trans (.new h2) (.new YA)⟩
def Qu(cl:Cls X.K C)(Mk':Mk X.K C f)(F:Us X.prog X.w X.K X.mg X.base k f fd ps sp)(hr:sJ (k+1) X.A)(hg:Gl X x)(hm:X.mg x=Fa (.ref C))(hb:vt X.K fd ps [])(ha:A3 X (e::es) t) (Yc:zm x:=by decide) (he:Bt X e es:=by rfl) (X8:Cg X pos es:=by rfl):
  E3 X (.Call (.Name x p) (e::es) [] pos) (Rv C sp t):=PE.mono (Q4 Mk' F hr hg hm hb .nil (GY (X:=X)) ha Yc he X8) λY H Q' zz=>x7 zz λU M Q hs hm ht k=>
 ⟨U,M,_,hs,hm,ht,λvs H1 ds M1 hd XQ e1 q1=>λxa dx n1 n2 ne=>by
  obtain⟨X6,e2⟩:=OB XQ cl n1 n2 ne;refine⟨.ref xa::ds,_,_,?_,X6,q1 xa (XQ.fresh n1),λv H3 d M3 hd3 YL e3 q3=>?_⟩
  .rw[eN];exact .cons .ref (hd.mono e2)
  .obtain⟨z,q3⟩:=q3;subst z;exact⟨hd3.mW,k _ H3 _ M3 .ref YL (e1.trans (e2.trans e3)) q3⟩⟩
def ID(m:Str)(R:Uf->Sp->Prop)(ta:TE)(t:TA):TE:=λY H Q=>ta Y H λx H1=>∃a C dx fs sp,x=.ref a/\H1 a=Fa (.ins C dx fs)/\fs.lookup m=Db/\R C sp/\t Y H1 λvs H2=>sp (x::vs) H2 Q E0
def yq(P:Pg)(w:Wo)(K:qM)(mg:QQZ)(base:No)(k:Nat)(m:Str)(C:Uf)(sp:Sp):Prop:=Cls K C/\∃f fd ps,wu K C m f/\xP P w K mg base OF k f fd ps sp/\vt K fd ps []
def Nu{R:Uf->Sp->Prop}{ta:TE}{t:TA}{pl:Sem Bool}(he:PE X o ta)(hR:∀C sp,R C sp->yq X.prog X.w X.K X.mg X.base k m C sp)(hr:sJ k X.A)(ha:PA X (e::es) t) (Yb:Bt X e es:=by rfl) (X8:Cg X pos es:=by rfl)
  (ht:wp (.Call (.Attribute o m XS) (e::es) [] pos) X.env=(do
   let ov<-wp o X.env
   XXc XS.atName
   let(f,first)<-wE [ov] (TW ov m pl)
   XXg pos f first (wv pos (Tl (e::es) X.env)) (TD pos (Op [] X.env))):=by rfl):
  PE X (.Call (.Attribute o m XS) (e::es) [] pos) (ID m R ta t):=by
 intro XN s Y H Q I h;refine jZ (pl:=pl) (sZ (he XN s Y H _ I h) λu s1 zz=>?_) ht;obtain⟨x,H1,I1,rx,a,C,dx,fs,sp,ex,ea,l,hRC,q⟩:=zz;obtain⟨c,f,fd,ps,hm,F,hb⟩:=hR C sp hRC;subst ex;obtain rfl:u=Value.ref a:=rx;refine Dw I1 ea c hm l ?_;refine iS (first:=[.ref a]) (h₀:=X.base) I.ok.mod.oM hm.kp (sZ (ha pos XN s1 Y H1 _ I1 q) λus s2 zz=>x5 zz λvs H2 I2 r q2=>⟨I2.nA,?_⟩) Yb X8;exact F8 (us:=.ref a::us) (vs:=.ref a::vs) F hr hb .nil (GY (X:=X)) I2 (.cons Z' r) (by rw[eN];exact q2)
def Lf{R:Uf->Sp->Prop}{ta:TE}{pl:Sem Bool}(he:PE X o ta)(hR:∀C sp,R C sp->yq X.prog X.w X.K X.mg X.base k m C sp)(hr:sJ k X.A) (ht:wp (.Call (.Attribute o m XS) [] [] pos) X.env=(do
   let ov<-wp o X.env
   XXc XS.atName
   let(f,first)<-wE [ov] (TW ov m pl)
   XXg pos f first (wv pos (Tl [] X.env)) (TD pos (Op [] X.env))):=by rfl):
  PE X (.Call (.Attribute o m XS) [] [] pos) (ID m R ta Vh):=by
 intro XN s Y H Q I h;refine jZ (pl:=pl) (sZ (he XN s Y H _ I h) λu s1 zz=>?_) ht;obtain⟨x,H1,I1,rx,a,C,dx,fs,sp,ex,ea,l,hRC,q⟩:=zz;obtain⟨c,f,fd,ps,hm,F,hb⟩:=hR C sp hRC;subst ex;obtain rfl:u=Value.ref a:=rx;refine Dw I1 ea c hm l ?_;exact W.callWith_K0 (first:=[.ref a]) I1.nA hm.kp (F8 (us:=[.ref a]) (vs:=[.ref a]) F hr hb .nil (GY (X:=X)) I1 (.cons Z' .nil) (by rw[eN];exact q))
def Bb(m:Str)(R:Uf->rO->Prop)(ta:T3)(t:xR):T3:=λU M Q=>ta U M λx M1=>match x with
 | .ref a=>AG (M1 a) λC fs=>fs.lookup m=Db/\∃sp,R C sp/\t U M1 λds M2=>sp (x::ds) M2 Q
 | _=>False
def W0(K:qM)(R:Uf->rO->Prop):Uf->Sp->Prop:=λC sp'=>∃sp,R C sp/\sp'=OH K sp
def Jb:∀Y H Q',lo X.K (Bb m R ta t) Y H Q'->ID m (W0 X.K R) (lo X.K ta) (Xg X.K t) Y H Q':=λY H Q' zz=>x7 zz λU M Q hs hm ht k=>
 ⟨U,M,_,hs,hm,ht,λv H1 d M1 hd XQ e1 q1=>by
  cases d with
  | ref a=>cases hd.mU;obtain⟨C,fs,e,q1⟩:=ye q1;obtain⟨hn,sp,hR,q⟩:=q1;obtain⟨dx,vs,h1,cl,na,fo⟩:=XQ a _ e;exact⟨a,C,dx,vs,_,Z',h1,(xk fo).2 hn,⟨sp,hR,Z'⟩,U,M1,_,hs.mono e1,XQ,q,λus H2 ds M2 YS X6 e2 q2=>⟨.ref a::ds,M2,Q,.cons .ref YS,X6,q2,wb (e1.trans e2) k⟩⟩
  | _=>exact q1.elim⟩
def FG{R:Uf->rO->Prop}{pl:Sem Bool}(he:E3 X o ta)(hR:∀C sp,R C sp->yq X.prog X.w X.K X.mg X.base k m C (OH X.K sp))(hr:sJ k X.A)(ha:A3 X (e::es) t) (Yb:Bt X e es:=by rfl) (X8:Cg X pos es:=by rfl)
  (ht:wp (.Call (.Attribute o m XS) (e::es) [] pos) X.env=(do
   let ov<-wp o X.env
   XXc XS.atName
   let(f,first)<-wE [ov] (TW ov m pl)
   XXg pos f first (wv pos (Tl (e::es) X.env)) (TD pos (Op [] X.env))):=by rfl):
  E3 X (.Call (.Attribute o m XS) (e::es) [] pos) (Bb m R ta t):=PE.mono (Nu (R:=W0 X.K R) he (λC sp' ⟨sp,h,z⟩=>by rw[z];exact hR C sp h) hr ha Yb X8 ht) Jb
def Ci{R:Uf->rO->Prop}{pl:Sem Bool}(he:E3 X o ta)(hR:∀C sp,R C sp->yq X.prog X.w X.K X.mg X.base k m C (OH X.K sp))(hr:sJ k X.A) (ht:wp (.Call (.Attribute o m XS) [] [] pos) X.env=(do
   let ov<-wp o X.env
   XXc XS.atName
   let(f,first)<-wE [ov] (TW ov m pl)
   XXg pos f first (wv pos (Tl [] X.env)) (TD pos (Op [] X.env))):=by rfl):
  E3 X (.Call (.Attribute o m XS) [] [] pos) (Bb m R ta yA):=PE.mono (Lf (R:=W0 X.K R) he (λC sp' ⟨sp,h,z⟩=>by rw[z];exact hR C sp h) hr ht) λY H Q' h=>by
 obtain⟨U,M,Q,hs,hm,ht,k⟩:=Jb (t:=yA) Y H Q' h;refine⟨U,M,Q,hs,hm,ht,λv H' d M' x1 x2 x3 x4=>?_⟩;obtain⟨a,C,dx,fs,sp,e1,e2,e3,e4,δ',XU,Q'',y1,y2,y3,y4⟩:=k v H' d M' x1 x2 x3 x4;exact⟨a,C,dx,fs,sp,e1,e2,e3,e4,y4 [] H' [] XU .nil y2 .refl y3⟩
structure G6(K:qM)(H1:Hp)(J:It)(ds:List D)(ok:Mp->Prop):Prop where
 go:∀i H M,i<ds.length->HM K H M->ok M->rA K H1 H->J.go i H
 pz:∀i d H M x H',ds[i]?=Fa d->HM K H M->ok M->rA K H1 H->J.pz i H x H'->sj K H' d x/\HM K H' M/\rA K H H'
 stop:∀H M,HM K H M->ok M->rA K H1 H->J.stop ds.length H
abbrev OI:=vO->Mp->(T0 D->(Mp->Prop)->Mp->Prop)->Prop
def Xt(K:qM)(wi:OI):TI:=λY H R'=>Ea λU M R=>zA K H Y U/\HM K H M/\wi U M R/\∀J H1 ds ok M1,G6 K H1 J ds ok->HM K H1 M1->rA K H H1->ok M1->R ds ok M1->R' J H1
def I3(X:Cx)(tg iter:Go)(wi:OI):Prop:=PI X tg iter (Xt X.K wi)
def PI.mono{t t':TI}(h:PI X tg e t)(m:∀Y H Q,t' Y H Q->t Y H Q):PI X tg e t':=λXN s Y H Q I q=>h XN s Y H Q I (m Y H Q q)
variable {H1:Hp}
def ML:G6 K H1 (Wb K a) ds (λM=>pq M a=Fa ds) where
 go:=λi H M hi hm ok _=>by obtain⟨xs,h1,h2,_⟩:=qO hm ok;obtain⟨x,e,_⟩:=h2.get (c9 hi);exact⟨xs,x,h1,e⟩
 pz:=λi d H M x H' hd hm ok _ y=>by obtain⟨xs,h1,h2,_⟩:=qO hm ok;obtain⟨e,y⟩:=y;subst e;obtain⟨x',e,hx⟩:=h2.get hd;have:=y xs h1;rw[e]at this;cases this;exact⟨hx,hm,.refl⟩
 stop:=λH M hm ok _=>by obtain⟨xs,h1,h2,_⟩:=qO hm ok;exact⟨xs,h1,by rw[h2.length];exact dw _⟩
def PN(h1:vA K H1 a xs)(h2:qF K H1 ds xs):G6 K H1 (WV K a) ds (λ_=>True) where
 go:=λi H M hi hm ok e1=>by obtain⟨x,e,_⟩:=h2.get (c9 hi);exact⟨xs,x,e1.t _ _ h1,e⟩
 pz:=λi d H M x H' hd hm ok e1 y=>by obtain⟨e,y⟩:=y;subst e;obtain⟨x',e,hx⟩:=h2.get hd;have:=y xs (e1.t _ _ h1);rw[e]at this;cases this;exact⟨hx.mono e1,hm,.refl⟩
 stop:=λH M hm ok e1=>⟨xs,e1.t _ _ h1,by rw[h2.length];exact dw _⟩
def R5(h1:PM K H1 a xs)(h2:qF K H1 ds xs):G6 K H1 (Wb K a) ds (λ_=>True) where
 go:=λi H M hi hm ok e1=>by obtain⟨x,e,_⟩:=h2.get (c9 hi);exact⟨xs,x,(h1.mono e1).sq,e⟩
 pz:=λi d H M x H' hd hm ok e1 y=>by obtain⟨e,y⟩:=y;subst e;obtain⟨x',e,hx⟩:=h2.get hd;have:=y xs (h1.mono e1).sq;rw[e]at this;cases this;exact⟨hx.mono e1,hm,.refl⟩
 stop:=λH M hm ok e1=>⟨xs,(h1.mono e1).sq,by rw[h2.length];exact dw _⟩
def Ka{lo:Int}:G6 K H1 (Wf lo n) ((List.range n).map λi=>D.int (lo+(i:Nat))) (λ_=>True) where
 go:=λi H M hi hm ok e1=>by
  have z:i<n:=by simpa using hi
  exact z
 pz:=λi d H M x H' hd hm ok e1 y=>by
  obtain⟨e,y⟩:=y;subst e;subst y;have hi:i<n:=by
   have:=(cY.mp hd).1
   simpa using this
  have hd':d=D.int (lo+(i:Nat)):=by rw[dz,jh hi]at hd;exact(dv hd).symm
  subst hd';exact⟨.int,hm,.refl⟩
 stop:=λH M hm ok e1=>by show n<=_;simp
variable {scope:XXd}{ix:T0 (Option Nat)}{N':QQQ}{iter YI:Go}{Yt:T0 Go}{wi:OI}{g:DJ}{tt:Bf}{te:T3}{tg:Go}
def UP(t:T3):OI:=λU M R=>t U M λx M1=>match x with
 | .tup ds=>R ds (λ_=>True) M1
 | .ref a=>(pq M1 a).elim False λds=>R ds (λM=>pq M a=Fa ds) M1
 | .rl ds=>R ds (λ_=>True) M1
 | .str z=>R (z.cps.toList.map λc=>D.str ⟨#[c]⟩) (λ_=>True) M1
 | _=>False
def O1{K:qM}:G6 K H1 (Wp z) (z.cps.toList.map λc=>D.str ⟨#[c]⟩) (λ_=>True) where
 go:=λi H M hi hm ok _=>by
  show i<z.cps.size
  simpa using hi
 pz:=λi d H M x H' hd hm ok _ y=>by obtain⟨e,c,e1,e2⟩:=y;subst e e2;rw[dz,Array.getElem?_toList,e1]at hd;cases hd;exact⟨.str,hm,.refl⟩
 stop:=λH M hm ok _=>by show _=z.cps.size;simp
def qZ{t:T3}(h:E3 X l t)(hc:X.calm=pc:=by rfl):I3 X tg l (UP t):=PI.mono (Qc hc h) λY H R' zz=>x7 zz λU M R hs hm ht k=>
 ⟨U,M,_,hs,hm,ht,λv H1 d M1 hd XQ e1 q1=>by
  cases d with
  | tup ds=>obtain⟨a,xs,rfl,h1,h2⟩:=hd.mZ;exact .inl ⟨a,Z',.inr ⟨⟨xs,h1⟩,k _ H1 ds _ M1 (PN h1 h2) XQ e1 trivial q1⟩⟩
  | ref a=>cases hd.mU;obtain⟨ds,e0,q⟩:=rD q1;obtain⟨xs,h1,h2,_⟩:=qO XQ e0;exact .inl ⟨a,Z',.inl ⟨⟨xs,h1⟩,k _ H1 ds _ M1 ML XQ e1 e0 q⟩⟩
  | str z=>exact .inr ⟨z,hd.str_inv,k _ H1 _ _ M1 O1 XQ e1 trivial q1⟩
  | rl ds=>obtain⟨a,xs,rfl,h1,h2⟩:=hd.nz;exact .inl ⟨a,Z',.inl ⟨⟨xs,h1.sq⟩,k _ H1 ds _ M1 (R5 h1 h2) XQ e1 trivial q1⟩⟩
  | _=>exact q1.elim⟩
def VE(t:xR):OI:=λU M R=>t U M λds M1=>match ds with
 | [.int j]=>(-(2 ^ 62)<=j/\j<2 ^ 62)/\R ((List.range j.toNat).map λi=>D.int (0+(i:Nat))) (λ_=>True) M1
 | [.int i,.int j]=>(-(2 ^ 62)<=i/\i<2 ^ 62/\-(2 ^ 62)<=j/\j<2 ^ 62)/\R ((List.range (j - i).toNat).map λn=>D.int (i+(n:Nat))) (λ_=>True) M1
 | _=>False
def uK{a:Go}{ta:xR}(hg:Gl X "range")(hm:X.mg "range"=Db)(ha:A3 X [a] ta)(hs:Tl [a] X.env=[(lf,wp a X.env)]:=by rfl):I3 X tg (.Call (.Name "range" p) [a] [] pos) (VE λU M Q=>ta U M λds M1=>ds.length=1/\Q ds M1):=
 PI.mono (Lj hg hm ha hs) λY H R' zz=>x7 zz λU M R hs hm ht k=>⟨U,M,_,hs,hm,ht,λvs H1 ds M1 hd XQ e1 q1=>by
  obtain⟨hl,q1⟩:=q1;split at q1
  .obtain⟨v,rfl,hv⟩:=sG hd;cases hv.int_inv;exact⟨_,Z',q1.1.1,q1.1.2,k _ H1 _ _ M1 Ka XQ e1 trivial q1.2⟩
  .simp at hl
  .exact q1.elim⟩
def Fy(g:DJ)(tb:yo)(ok:Mp->Prop)(E:Ht):T0 D->vO->Mp->Prop
 | [],U,M=>E.nx U M
 | d::r,U,M=>g d U M λδ2 M2=>tb {E with nx:=λδ' M'=>ok M'/\Fy g tb ok E r δ' M',ct:=λδ' M'=>ok M'/\Fy g tb ok E r δ' M',bk:=E.nx} δ2 M2
def Tu(wi:OI)(g:DJ)(tb:yo):yo:=λE U M=>wi U M λds ok M1=>Fy g tb ok E ds U M1
def ur{tb:yo}(hp:PassesOwn (Tk X.prog X.w) X.A X.env X.xe)(hc:X.calm=pc)(hi:I3 X tg iter wi)(hg:G3 X tg g)(hb:HK X body tb) (hs:∀x,AT iter X.env x=pure x:=by intro _;rfl):S3 X (.For tg iter body [] pos) (Tu wi g tb):=PS.mono (RT hp hc hi hg hb hs) λD' Y H zz=>Ln zz λU M E hs hm ht k1 k2 k3 k4=>
 ⟨U,M,_,hs,hm,ht,λJ H1 ds ok M1 S XQ e1 ok1 q1=>by
  refine⟨λi m σ' H'=>m=ds.length - i/\i<=ds.length/\∃δ' M',zA X.K H' σ' δ'/\HM X.K H' M'/\ok M'/\rA X.K H1 H'/\σ'.length=Y.length/\Fy g tb ok E (ds.drop i) δ' M',⟨ds.length,by simp,eE _,U,M1,hs.mono e1,XQ,ok1,.refl,Z',by simpa using q1⟩,?_⟩
  rintro i m σ' H' ⟨rfl,hi,δ',M',Z6,Zm,ok',e',l',q'⟩
  by_cases XZ:i<ds.length
  .rw[gv XZ]at q';refine .inr ⟨S.go i H' M' XZ Zm ok' e',λσ2 H2=>∃δ2 M2,zA X.K H2 σ2 δ2/\HM X.K H2 M2/\ok M2/\rA X.K H1 H2/\σ2.length=Y.length/\Fy g tb ok E (ds.drop (i+1)) δ2 M2,λσ2 H2 z=>⟨ds.length - (i+1),by lia,Z',XZ,z⟩,λx H2 y=>?_⟩;obtain⟨hx,X6,e2⟩:=S.pz i ds[i] H' M' x H2 (c9 XZ) Zm ok' e' y;refine⟨ds[i],δ',M',_,hx,Z6.mono e2,X6,q',λσ3 H3 δ3 M3 x1 x2 x3 x4 x5=>?_⟩;refine⟨δ3,M3,_,x1,x2,x5,λσ4 H4 δ4 M4 y1 y2 y3 y4 y5=>?_,λv H4 d M4 y1 y2 y3 y4=>?_,λσ4 H4 δ4 M4 y1 y2 y3 y4 y5=>?_,λσ4 H4 δ4 M4 y1 y2 y3 y4 y5=>?_⟩
   .exact⟨δ4,M4,y1,y2,y5.1,e'.trans (e2.trans (x3.trans y3)),by rw[y4,x4,l'],y5.2⟩
   .exact k2 v H4 d M4 y1 y2 (e1.trans (e'.trans (e2.trans (x3.trans y3)))) y4
   .exact k1 σ4 H4 δ4 M4 y1 y2 (e1.trans (e'.trans (e2.trans (x3.trans y3)))) (by rw[y4,x4,l']) y5
   .exact⟨δ4,M4,y1,y2,y5.1,e'.trans (e2.trans (x3.trans y3)),by rw[y4,x4,l'],y5.2⟩
  .have e:i=ds.length:=by lia
   subst e;rw[jP]at q';exact .inl ⟨S.stop H' M' Zm ok' e',k1 σ' H' δ' M' Z6 Zm (e1.trans e') l' q'⟩⟩
noncomputable def Pw(ix:T0 (Option Nat))(U:vO):vO:=ix.map λo=>o.bind λi=>(U[i]?).join
def QE{K:qM}(h:zA K H Y U):zA K H (Ph ix Y) (Pw ix U):=λi d q=>by
 unfold Pw at q;unfold Ph;rw[dz]at q ⊢;cases e:ix[i]? with
 | none=>rw[e]at q;cases q
 | some o=>
  rw[e]at q;cases o with
  | none=>cases q
  | some j=>
   have q':(U[j]?).join=Fa d:=dv q;have e4:U[j]?=Fa (Fa d):=by
    cases r:U[j]? with
    | none=>rw[r]at q';cases q'
    | some w=>rw[r]at q';exact eY Fa q'
   obtain⟨v,e5,hv⟩:=h j d e4;refine⟨v,?_,hv⟩;show Fa ((Y[j]?).join)=Fa (Fa v);rw[e5];rfl
def vE(g:DJ)(tt:Bf)(te:T3)(ok:Mp->Prop)(Q:DK):T0 D->T0 D->vO->Mp->Prop
 | [],acc,_,M=>acc.length<=Ch/\∀p,M p=Db->Q (.ref p) (pT M p (.lst acc))
 | d::r,acc,U,M=>acc.length<Ch/\g d U M λδ2 M2=>tt δ2 M2 λb M3=>if b=pc then te δ2 M3 λy M4=>ok M4/\vE g tt te ok Q r (acc++[y]) δ2 M4 else ok M3/\vE g tt te ok Q r acc δ2 M3
def LQ(ix:T0 (Option Nat))(wi:OI)(g:DJ)(tt:Bf)(te:T3):T3:=λU M Q=>wi U M λds ok M1=>vE g tt te ok Q ds [] (Pw ix U) M1
def F3(X:Cx)(Yt:T0 Go)(t:Bf):Prop:=PF X Yt (Um X.K t)
def PF.mono{e:T0 Go}{t t':TT}(h:PF X e t)(m:∀Y H Q,t' Y H Q->t Y H Q):PF X e t':=λXN s Y H Q I q=>h XN s Y H Q I (m Y H Q q)
def CJ:Bf:=λ_ M Q=>Q pc M
def sD:F3 X [] CJ:=PF.mono SU λY H Q' zz=>x7 zz λU M Q hs hm ht k=>k pc H M hm .refl ht
def vV{t:Bf}(h:B3 X c t):F3 X [c] t:=Sn h
def J1:∀Y H Q',lo X.K (LQ ix wi g tt te) Y H Q'->Lr ix (Xt X.K wi) (V7 X.K g) (Um X.K tt) (lo X.K te) Y H Q':=λY H Q' zz=>x7 zz λU M Q hs hm ht k=>
 ⟨U,M,_,hs,hm,ht,λJ H1 ds ok M1 S XQ e1 ok1 q1=>by
  refine⟨λi m ys σ' H'=>m=ds.length - i/\i<=ds.length/\∃δ' M' acc,zA X.K H' σ' δ'/\HM X.K H' M'/\qF X.K H' acc ys/\ok M'/\rA X.K H1 H'/\vE g tt te ok Q (ds.drop i) acc δ' M',⟨ds.length,by simp,eE _,Pw ix U,M1,[],QE (hs.mono e1),XQ,.nil,ok1,.refl,by simpa using q1⟩,?_⟩
  rintro i m ys σ' H' ⟨rfl,hi,δ',M',acc,Z6,Zm,Zr,ok',e',q'⟩
  by_cases XZ:i<ds.length
  .rw[gv XZ]at q';obtain⟨hz,q'⟩:=q';refine .inr ⟨S.go i H' M' XZ Zm ok' e',by rw[<-Zr.length];exact hz,λx H2 y=>?_⟩;obtain⟨hx,X6,e2⟩:=S.pz i ds[i] H' M' x H2 (c9 XZ) Zm ok' e' y;refine⟨ds[i],δ',M',_,hx,Z6.mono e2,X6,q',λσ3 H3 δ3 M3 x1 x2 x3 x4 x5=>?_⟩;refine⟨δ3,M3,_,x1,x2,x5,λb H4 M4 y2 y3 y5=>?_⟩;cases b with
   | true=>rw[dg Z']at y5 ⊢;refine⟨δ3,M4,_,x1.mono y3,y2,y5,λv H5 d M5 z1 z2 z3 z4=>⟨ds.length - (i+1),by lia,Z',XZ,δ3,M5,acc++[d],x1.mono (y3.trans z3),z2,(Zr.mono (e2.trans (x3.trans (y3.trans z3)))).snoc z1,z4.1,e'.trans (e2.trans (x3.trans (y3.trans z3))),z4.2⟩⟩
   | false=>rw[de dC]at y5 ⊢;exact⟨ds.length - (i+1),by lia,Z',XZ,δ3,M4,acc,x1.mono y3,y2,Zr.mono (e2.trans (x3.trans y3)),y5.1,e'.trans (e2.trans (x3.trans y3)),y5.2⟩
  .have e:i=ds.length:=by lia
   subst e;rw[jP]at q';refine .inl ⟨S.stop H' M' Zm ok' e',by rw[<-Zr.length];exact q'.1,λp hp=>?_⟩;have e5:rA X.K H' (upd H' p (.lst ys)):=.new hp;exact k _ _ _ _ .ref (Zm.new (c:=.lst acc) hp ⟨_,qC,Zr.mono e5⟩) (e1.trans (e'.trans e5)) (q'.2 p (Zm.fresh hp))⟩
def ra(hc:X.calm=pc)(S:sQ X scope ix N')(hi:I3 X tg iter wi)(hg:∀{C s0 H0 ex},G3 (X.comp scope N' C s0 H0 ex) tg g)(ht:∀{C s0 H0 ex},F3 (X.comp scope N' C s0 H0 ex) Yt tt)(he:∀{C s0 H0 ex},E3 (X.comp scope N' C s0 H0 ex) YI te) (hs:∀x,AT iter X.env x=pure x:=by intro _;rfl):E3 X (.ListComp YI [⟨tg,iter,Yt,0⟩] scope pos) (LQ ix wi g tt te):=PE.mono (OP (g:=V7 X.K g) (tt:=Um X.K tt) (te:=lo X.K te) hc S hi (λ_ _ _ _=>hg) (λ_ _ _ _=>ht) (λ_ _ _ _=>he) hs) J1
def vP{i:Nat}{x:Str}{px ZA:Pos}(hN:X.N.Nodup)(Z7:X.N[i]?=Fa x)(hx:Lm X.env.scope x)(hc:X.calm=pc)(S:sQ X scope ix N')(hi:I3 X tg iter wi)(hg:∀{C s0 H0 ex},G3 (X.comp scope N' C s0 H0 ex) tg g)(ht:∀{C s0 H0 ex},F3 (X.comp scope N' C s0 H0 ex) Yt tt) (he:∀{C s0 H0 ex},E3 (X.comp scope N' C s0 H0 ex) YI te) (Zl:ZB (.ListComp YI [⟨tg,iter,Yt,0⟩] scope pos) (Fa (.Name x px)) ZA.line X.env=pure pc:=by rfl)
  (hf:Lq X x:=by first|exact .inl Z'|exact .inr Z'|assumption) (hs:∀x,AT iter X.env x=pure x:=by intro _;rfl):
  S3 X (.Assign [.Name x px] (.ListComp YI [⟨tg,iter,Yt,0⟩] scope pos) ZA) (Hi (LQ ix wi g tt te) (sC i)):=PS.n9 (Ia (g:=V7 X.K g) (tt:=Um X.K tt) (te:=lo X.K te) hN Z7 hx hc S hi (λ_ _ _ _=>hg) (λ_ _ _ _=>ht) (λ_ _ _ _=>he) Zl hf hs) λD' Y H hl zz=>Ln zz λU M D hs hm ht k1 k2 k3 k4=>
 J1 Y H _ ⟨U,M,_,hs,hm,ht,λv H1 d M1 hd XQ e1 q1=>k1 _ H1 _ M1 ((hs.mono e1).set hd (by rw[hl];exact(cY.mp Z7).1)) XQ e1 (by simp) q1⟩
def Xh(hr:sJ k A):A.units+9<Y':=by have:=hr.units;lia
noncomputable def HN(sc:XXd)(N:QQQ)(scope:XXd)(ix:T0 (Option Nat))(N':QQQ):Bool:=
 (scope.kind==.function)&&(scope.names.all λy=>!(y.2==.cell))&&(scope.names.all λy=>!(y.2==.local)||(scope.names.lookup y.1==Fa .local))&&
 (scope.names.all λy=>!(y.2==.free)||(sc.names.lookup y.1==Fa .cell)||(sc.names.lookup y.1==Fa .free))&&(ix.length==N'.length)&&
 ((ix.zip N').all λp=>match p.1 with|none=>pc|some i=>(N[i]?==Fa p.2)&&(scope.names.lookup p.2==Fa .free))
def VJ{X:Cx}(h:HN X.env.scope X.N scope ix N'=pc):sQ X scope ix N':=by
 unfold HN at h;simp only[dZ]at h;obtain⟨⟨⟨⟨⟨h1,h2⟩,h3⟩,h4⟩,h5⟩,h6⟩:=h;refine⟨by simpa using h1,λy hy e=>?_,λy hy e=>?_,λy hy e=>?_,by simpa using h5,λj i x e1 e2=>?_⟩
 .have:=eS.mp h2 y hy;rw[e]at this;simp at this
 .have:=eS.mp h3 y hy;rw[e]at this
  simpa using this
 .have:=eS.mp h4 y hy;rw[e]at this
  simpa using this
 .have hm:(Fa i,x)∈ix.zip N':=by
   have:(ix.zip N')[j]?=Fa (Fa i,x):=by rw[List.getElem?_zip_eq_some];exact⟨e1,e2⟩
   exact gb this
  have:=eS.mp h6 _ hm
  simpa using this
section
variable {a b:Go}
def Jq(op YH:CmpOp)(ta tb tc:T3):T3:=λU M Q=>ta U M λx M1=>tb U M1 λy M2=>Qd op x y M2 λz M3=>match z with
 | .bl k=>if k=pc then tc U M3 λw M4=>Qd YH y w M4 Q else Q (.bl lf) M3
 | _=>False
def uN{op YH:CmpOp}(hu:X.A.units+9<Y')(ha:E3 X a ta)(hb:E3 X b tb)(hc:E3 X c tc)(hmk:lastMarks [op,YH] [b,c]=lf:=by rfl):
  E3 X (.Compare a [op,YH] [b,c] pos) (Jq op YH ta tb tc):=PE.mono (Oa (KR op hu) (KR YH hu) ha hb hc hmk) λY H Q' zz=>x7 zz λU M Q hs hm ht k=>
 ⟨U,M,_,hs,hm,ht,λv H1 x M1 hx XQ e1 q1=>⟨U,M1,_,hs.mono e1,XQ,q1,λu H2 y M2 hy X6 e2 q2=>⟨x,y,M2,_,hx.mono e2,hy,X6,q2,λw H3 z M3 hz YL e3 q3=>by
  cases z with
  | bl c=>
   refine⟨c,hz.mX,?_⟩;cases c with
   | true=>refine(dg Z').mpr ⟨U,M3,_,hs.mono (e1.trans (e2.trans e3)),YL,(dg Z').mp q3,λw' H4 d M4 hd hm4 e4 q4=>⟨y,d,M4,Q,hy.mono (e3.trans e4),hd,hm4,q4,wb (e1.trans (e2.trans (e3.trans e4))) k⟩⟩
   | false=>exact(de dC).mpr (k _ H3 _ M3 .bl YL (e1.trans (e2.trans e3)) ((de dC).mp q3))
  | _=>exact q3.elim⟩⟩⟩
def G9{op YH:CmpOp}(hu:X.A.units+9<Y')(ha:E3 X a ta)(hb:E3 X b tb)(hc:E3 X c tc)(hmk:lastMarks [op,YH] [b,c]=lf:=by rfl):
  B3 X (.Compare a [op,YH] [b,c] pos) (b3 (Jq op YH ta tb tc)):=PT.mono (Ms (KR op hu) (KR YH hu) ha hb hc hmk) λY H Q' zz=>x7 zz λU M Q hs hm ht k=>
 ⟨U,M,_,hs,hm,ht,λv H1 x M1 hx XQ e1 q1=>⟨U,M1,_,hs.mono e1,XQ,q1,λu H2 y M2 hy X6 e2 q2=>⟨x,y,M2,_,hx.mono e2,hy,X6,q2,λw H3 z M3 hz YL e3 q3=>by
  cases z with
  | bl c=>
   refine⟨c,hz.mX,?_⟩;cases c with
   | true=>
    refine(dg Z').mpr ⟨U,M3,_,hs.mono (e1.trans (e2.trans e3)),YL,(dg Z').mp q3,λw' H4 d M4 hd hm4 e4 q4=>⟨y,d,M4,_,hy.mono (e3.trans e4),hd,hm4,q4,λw5 H5 d5 M5 hd5 hm5 e5 q5=>?_⟩⟩;cases d5 with
    | bl c5=>exact⟨c5,hd5.mX,k c5 H5 M5 hm5 (e1.trans (e2.trans (e3.trans (e4.trans e5)))) q5⟩
    | _=>exact q5.elim
   | false=>exact(de dC).mpr ⟨lf,Z',k lf H3 M3 YL (e1.trans (e2.trans e3)) ((de dC).mp q3)⟩
  | _=>exact q3.elim⟩⟩⟩
structure WJ(K:qM)(C:Uf):Prop where
 ha:W.findIn K (.ref C) "__class__"=Fa (Fa (.builtin "object.__class__"))
 hn:W.specialIn K (.builtin "object.__class__") "__get__"=Fa (Fa (.builtin "getset_descriptor.__get__"))
 htk:W.takesIn K (.builtin "object.__class__")=Fa pc
 hm:W.mroIn K C (.type "object")=Fa pc
noncomputable def HJ:Option uG->Option Vl
 | some (.lst _)=>Fa (.type "list")
 | some (.ins C _)=>Fa (.ref C)
 | some (.dk _)=>Fa (.type "dict")
 | some (.exc _)=>Db
 | none=>Db
noncomputable def Xf(M:Mp):D->Option Vl
 | .mY=>Fa (.type "NoneType")
 | .bl _=>Fa (.type "bool")
 | .int _=>Fa (.type "int")
 | .str _=>Fa (.type "str")
 | .tup _=>Fa (.type "tuple")
 | .ref a=>HJ (M a)
 | .ty _=>Db
 | .rl _=>Fa (.type "list")
noncomputable def WP:D->Option Vl
 | .ref C=>Fa (.ref C)
 | .ty n=>Fa (.type n)
 | _=>Db
def Rl(K:qM)(ds:T0 D)(M:Mp)(Q:DK):Prop:=match ds with
 | [x,c]=>(Xf M x).elim False λt=>(WP c).elim False λcv=>(∀C,t=.ref C->WJ K C)/\(W.kitOne K t cv).elim False λb=>Q (.bl b) M
 | _=>False
def Kl:C3 X (.builtin "isinstance") (Rl X.K):=by
 intro XN s Y H vs us Q' I rv h;obtain⟨ds,M,Q,hd,hm,q,k⟩:=h;unfold Rl at q;split at q
 .rename_i x c;obtain⟨v,u,rfl,hv,hw⟩:=FM hd;obtain⟨t,et,q⟩:=rD q;obtain⟨cv,ec,hC,q⟩:=rD q;obtain⟨b,eb,qb⟩:=rD q;obtain⟨uv,uw,rfl,Z9,rv2⟩:=Lx rv;have ecv:uw=cv:=by
   cases c with
   | ref C=>cases hw.mU;cases ec;exact rv2
   | ty n=>cases hw.oh;cases ec;exact rv2
   | _=>cases ec
  subst ecv;have XT:∀tk,EP X XN Y Q' (.bool b) {s with toks:=tk}:=λtk=>⟨.bl b,H,I.tok tk,Z',k _ _ _ _ .bl hm .refl qb⟩;cases x with
  | mY=>cases hv.mW;cases et;exact vk I Z9 .mY eb XT
  | bl y=>cases hv.mX;cases et;exact vk I Z9 (.bl y) eb XT
  | int y=>cases hv.int_inv;cases et;exact vk I Z9 (.int y) eb XT
  | str y=>cases hv.str_inv;cases et;exact vk I Z9 (.str y) eb XT
  | tup ds=>obtain⟨a,xs,rfl,h1,h2⟩:=hv.mZ;cases et;cases Z9;obtain⟨its,r,p,_⟩:=I.tuple h1;obtain⟨o,g1,g2,_⟩:=p;exact gC W.kitx_tuple I.nA ⟨o,g1,g2⟩ eb (λz=>nomatch z) XT
  | ref a=>
   cases hv.mU;have et:HJ (M a)=Fa t:=et;cases e:M a with
   | none=>rw[e]at et;cases et
   | some cell=>
    rw[e]at et;have ok:=hm a cell e;cases cell with
    | lst ds=>cases et;obtain⟨xs,e1,_⟩:=ok;exact vk I Z9 (.lst e1) eb XT
    | ins C fs=>cases et;obtain⟨dx,vs,e1,cl,_⟩:=ok;obtain⟨i1,i2,i3,i4⟩:=hC C Z';exact vk I Z9 (.ins e1 cl i1 i2 i3 i4) eb XT
    | dk kvs=>cases et;obtain⟨vs,e1,_⟩:=ok;exact vk I Z9 (.dK e1) eb XT
    | exc C=>cases et
  | ty n=>cases et
  | rl ds=>obtain⟨p,xs,rfl,h1,h2⟩:=hv.nz;cases et;cases Z9;obtain⟨its,r,⟨o,n,g1,g2,_⟩,_⟩:=I.list h1.sq;exact gC lR I.nA ⟨o,g1,g2⟩ eb (λz=>nomatch z) XT
 .exact q.elim
noncomputable def GX:T0 D->Option (T0 Bool)
 | []=>Fa []
 | .bl b::r=>(GX r).map (b::·)
 | _::_=>Db
theorem EW{K:qM}:∀{ds:T0 D} {bs:T0 Bool} {xs:T0 V} {us:T0 Vl},GX ds=Fa bs->qF K H ds xs->qT xs us->us=bs.map Value.bool
 | [],bs,xs,us,e,h,r=>by cases e;have:=h.nil_inv;subst this;cases r;rfl
 | d::ds,bs,xs,us,e,h,r=>by
  cases d with
  | bl b=>
   obtain⟨y,ys,rfl,h1,h2⟩:=h.inv;cases h1.mX;unfold GX at e;cases q:GX ds with
   | none=>rw[q]at e;cases e
   | some cs=>
    rw[q]at e;cases e;cases r with
    | cons r1 r2=>cases r1;rw[EW q h2 r2];rfl
  | _=>cases e
def UL(ds:T0 D)(M:Mp)(Q:DK):Prop:=match ds with
 | [.ref a]=>(pq M a).elim False λes=>(GX es).elim False λbs=>Q (.bl (bs.all id)) M
 | _=>False
def Gj(hc:X.calm=pc):C3 X (.builtin "all") UL:=by
 intro XN s Y H vs us Q' I rv h;obtain⟨ds,M,Q,hd,hm,q,k⟩:=h;unfold UL at q;split at q
 .rename_i a;obtain⟨v,rfl,hv⟩:=sG hd;obtain⟨es,e0,q⟩:=rD q;obtain⟨bs,e1,q⟩:=rD q;cases hv.mU;obtain⟨u,rfl,ru⟩:=yu rv;cases ru;obtain⟨xs,h1,h2,_⟩:=qO hm e0;obtain⟨its,r,pl,hz⟩:=I.list h1;have eits:=EW e1 h2 r;subst eits;have X9:a≠s.heap.objs.size:=by obtain⟨o,_,e,_⟩:=pl;exact dO (dD e)
  refine call_all_walk (gR pl.isList ?_);refine⟨s.heap.objs.size,_,_,_,_,_,λi=>(bs[i]?).getD pc,Z',kB (A:=X.A.in1) (I.ok.hd hc) _ a X9 (bs.map Value.bool).toArray,⟨⟨_,dN _ Z',Z',Z'⟩,?_⟩,λi v s' Q E hP hQ=>?_,λh' tk hk=>?_⟩
  .obtain⟨o,n,e,c,d,q⟩:=pl;exact⟨o,df _ e,c,n,q⟩
  .simp only[iQ,dz]at hP;cases e2:bs[i]? with
   | none=>rw[e2]at hP;cases hP
   | some b=>rw[e2]at hP;cases hP;have hQ:Q ((bs[i]?).getD pc) s':=hQ;rw[e2]at hQ;exact fz hQ
  .have ea:(List.range (bs.map Value.bool).toArray.size).all (λi=>(bs[i]?).getD pc)=bs.all id:=by
    rw[dB,cW];rw[gz,eS,eS];constructor
    .intro z b hb;obtain⟨i,hi,e⟩:=gI hb;have:=z i (fZ.mpr hi);rw[c9 hi,e]at this;exact this
    .intro z i hi;have ZP:=fZ.mp hi;rw[c9 ZP];exact z _ (ip ZP)
   rw[ea];refine⟨.bl (bs.all id),H,?_,Z',k _ _ _ _ .bl hm .refl q⟩;exact I.kept (h':=h') (t':=tk) λb o e=>hk b o (by simpa using dO (dD e)) (df _ e)
 .exact q.elim
noncomputable def AE(x:D):T0 D->Option Nat
 | []=>Db
 | d::r=>if Po d x=pc then Fa 0 else(AE x r).map (·+1)
theorem Fx{K:qM}{e:D}{w:V}(g:sj K H e w)(fe:ve e=pc):∀{ds:T0 D} {xs:T0 V} {us:T0 Vl} {j:Nat},qF K H ds xs->qT xs us->ds.all ve=pc->AE e ds=Fa j->
  ∃h:j<us.length,EH w us[j]=pc/\∀m (hm:m<us.length),m<j->EH w us[m]=lf
 | [],_,_,_,_,_,_,q=>by cases q
 | d::ds,_,us,j,h,r,fl,q=>by
  obtain⟨y,ys,rfl,h1,h2⟩:=h.inv;rw[fD,dZ]at fl;cases r with
  | @cons _ u _ us' r1 r2=>
   have eu:EH w u=Po d e:=by rw[Ig r1 (yk h1 fl.1),J4 h1 g fl.1 fe]
   unfold AE at q;by_cases hq:Po d e=pc
   .rw[dg hq]at q;cases q;exact⟨by simp,by simpa [eu]using hq,λm _ hm=>absurd hm (Nat.not_lt_zero m)⟩
   .rw[de hq]at q;cases q2:AE e ds with
    | none=>rw[q2]at q;cases q
    | some j'=>
     rw[q2]at q;cases q;obtain⟨hl,e1,e2⟩:=Fx g fe h2 r2 fl.2 q2;refine⟨by simpa using hl,by simpa using e1,λm hm XZ=>?_⟩;cases m with
     | zero=>simpa [eu]using hq
     | succ m=>simpa using e2 m (by simpa using hm) (by have z:m+1<j'+1:=XZ;lia)
def Ua(x:D)(ds:T0 D)(M:Mp)(Q:DK):Prop:=match x,ds with
 | .ref a,[y]=>(pq M a).elim False λes=>ve y=pc/\es.all ve=pc/\(AE y es).elim False λj=>Q (.int (j:Nat)) M
 | _,_=>False
def M3(X:Cx)(id:String)(r:D->T0 D->Mp->DK->Prop):Prop:=Xc X id λvx vs H Q'=>∃x ds M Q,sj X.K H x vx/\qF X.K H ds vs/\HM X.K H M/\r x ds M Q/\Up X.K H Q' Q
def NR:M3 X "list.index" Ua:=by
 intro XN s Y H vx vs v us Q' I rx rv h;obtain⟨x,ds,M,Q,hx,hd,hm,q,k⟩:=h;unfold Ua at q;split at q
 .rename_i a y;obtain⟨es,e0,f1,f2,q⟩:=rD q;obtain⟨j,e1,q⟩:=rD q;cases hx.mU;cases rx;obtain⟨w,rfl,hw⟩:=sG hd;obtain⟨u,rfl,ru⟩:=yu rv;obtain⟨xs,h1,h2,rd⟩:=qO hm e0;obtain⟨hz,its,n,r,g⟩:=rd.ok I.m9;obtain⟨hl,p1,p2⟩:=Fx hw f1 h2 r f2 e1;have hlz:its.length<=Ch:=by rw[<-r.length];exact hz
  have h63:=zy;refine iU F.slot_list_index ⟨_,g,Z'⟩ F.entry_list_index (F.args_list_index_2 _ _) (SeqAt.list_indexAt a its.toArray n Db #[] u (EH w) j (by simpa using hl) (by lia) (by simpa using p1) λm hm XZ=>by simpa using p2 m (by simpa using hm) XZ) ⟨g,?_,?_⟩
  .intro z hz';exact vU ru (yk hw f1) r (BY h2 f2) z (by simpa using hz')
  .exact⟨.int (j:Nat),H,I.tok _,⟨_,Z'⟩,k _ _ _ _ .int hm .refl q⟩
 .exact q.elim
def RO(M:Mp):D->Prop
 | .ref a=>(pq M a).isSome=pc
 | _=>False
def Xd(r:D->T0 D->Mp->DK->Prop)(to:T3)(t:xR):T3:=λU M Q=>to U M λx M1=>RO M1 x/\t U M1 λds M2=>r x ds M2 Q
def R9{K:qM}{x:D}(hm:HM K H M)(h:sj K H x v)(l:RO M x):WO K "list" v H:=by
 cases x with
 | ref a=>cases h.mU;obtain⟨ds,e⟩:=jJ.mp (show(pq M a).isSome=pc from l);obtain⟨xs,h1,_⟩:=qO hm e;exact .inl ⟨Z',xs,h1⟩
 | _=>exact l.elim
def RD{id:String}(slot:Slot "list" name id)(hty:typeOf (.builtin id)=pure (.type "method_descriptor"))(hm:M3 X id r)(ho:E3 X o ta)(ha:A3 X (e::es) t) (X5:Rs o name X.env (wp o X.env)=wp o X.env:=by rfl)
  (Yr:((wv pos (Tl (e::es) X.env)).all (λx=>!x.1)&&(TD pos (Op [] X.env)).all (λx=>x.1.isSome)
   &&decide ((e::es).length+([]:T0 IN).length+(if ([]:T0 IN).isEmpty then 0 else 1)<30))=pc:=by rfl)
  (Yf:(XS.endLine==pos.line)=pc:=by rfl) (hs:Bt X e es:=by rfl) (X0:Cg X pos es:=by rfl):
  E3 X (.Call (.Attribute o name XS) (e::es) [] pos) (Xd r ta t):=PE.mono (Ve PySem.F.plainAttrs_list slot hty hm ho ha X5 Yr Yf hs X0) λY H Q' zz=>x7 zz λU M Q hs hm ht k=>
 ⟨U,M,_,hs,hm,ht,λv H1 x M1 hx XQ e1 q1=>⟨R9 XQ hx q1.1,U,M1,_,hs.mono e1,XQ,q1.2,λvs H2 ds M2 YS X6 e2 q2=>⟨x,ds,M2,Q,hx.mono e2,YS,X6,q2,wb (e1.trans e2) k⟩⟩⟩
def yg(ho:E3 X o ta)(ha:A3 X (e::es) t) (X5:Rs o "index" X.env (wp o X.env)=wp o X.env:=by rfl)
  (Yr:((wv pos (Tl (e::es) X.env)).all (λx=>!x.1)&&(TD pos (Op [] X.env)).all (λx=>x.1.isSome)
   &&decide ((e::es).length+([]:T0 IN).length+(if ([]:T0 IN).isEmpty then 0 else 1)<30))=pc:=by rfl)
  (Yf:(XS.endLine==pos.line)=pc:=by rfl) (hs:Bt X e es:=by rfl) (X0:Cg X pos es:=by rfl):
  E3 X (.Call (.Attribute o "index" XS) (e::es) [] pos) (Xd Ua ta t):=RD PySem.F.slot_list_index PySem.F.type_list_index NR ho ha X5 Yr Yf hs X0
structure Ow(K:qM)(C:Uf)(m:Str)(f:Uf):Prop where
 hg:W.specialIn K (.ref C) "__getattribute__"=Fa (Fa (.builtin "type.__getattribute__"))
 rd:W.readsIn K C (.type "type")=pc
 fc:W.findCls K (.ref C) (.type "type") m=Fa (.val (.ref f))
def Pa{sp:Sp}{t:TA}{pl:Sem Bool}(cm:Ow X.K C m f)(F:xP X.prog X.w X.K X.mg X.base OF k f fd ps sp)(hr:sJ k X.A)(hg:Gl X x)(hm:X.mg x=Fa (.ref C))(hk:W.keepIn X.K (.ref f)=pc)(hb:vt X.K fd ps [])(ha:PA X (e::es) t) (Yc:zm x:=by decide) (Yb:Bt X e es:=by rfl) (X8:Cg X pos es:=by rfl)
  (ht:wp (.Call (.Attribute (.Name x p) m XS) (e::es) [] pos) X.env=(do
   let ov<-wp (.Name x p) X.env
   XXc XS.atName
   let(f,first)<-wE [ov] (TW ov m pl)
   XXg pos f first (wv pos (Tl (e::es) X.env)) (TD pos (Op [] X.env))):=by rfl):
  PE X (.Call (.Attribute (.Name x p) m XS) (e::es) [] pos) (λY H Q=>t Y H λvs H1=>sp vs H1 Q E0):=by
 intro XN s Y H Q I h;refine jZ (pl:=pl) (xq I hg hm ?_ Yc) ht;refine W.method_cls I.nA cm.hg (W.cls_value I.nA cm.rd cm.fc Z' ?_);refine iS (first:=[]) (h₀:=X.base) I.ok.mod.oM hk (sZ (ha pos XN _ Y H _ (I.tok _) h) λus s2 zz=>x5 zz λvs H2 I2 r q2=>⟨I2.nA,?_⟩) Yb X8;exact F8 F hr hb .nil (GY (X:=X)) I2 r (by rw[eN];exact q2)
def O6{pl:Sem Bool}(cm:Ow X.K C m f)(F:Us X.prog X.w X.K X.mg X.base k f fd ps sp)(hr:sJ k X.A)(hg:Gl X x)(hm:X.mg x=Fa (.ref C))(hk:W.keepIn X.K (.ref f)=pc)(hb:vt X.K fd ps [])(ha:A3 X (e::es) t) (Yc:zm x:=by decide) (Yb:Bt X e es:=by rfl) (X8:Cg X pos es:=by rfl)
  (ht:wp (.Call (.Attribute (.Name x p) m XS) (e::es) [] pos) X.env=(do
   let ov<-wp (.Name x p) X.env
   XXc XS.atName
   let(f,first)<-wE [ov] (TW ov m pl)
   XXg pos f first (wv pos (Tl (e::es) X.env)) (TD pos (Op [] X.env))):=by rfl):
  E3 X (.Call (.Attribute (.Name x p) m XS) (e::es) [] pos) (EU sp t):=PE.mono (Pa cm F hr hg hm hk hb ha Yc Yb X8 ht) λY H Q' zz=>x7 zz λU M Q hs hm ht k=>
 ⟨U,M,_,hs,hm,ht,λvs H1 ds M1 hd XQ e1 q1=>⟨ds,M1,Q,hd,XQ,q1,wb e1 k⟩⟩
def qL:zn "len"=Fa (.builtin "len"):=by decide+kernel
def SB:zn "min"=Fa (.builtin "min"):=by decide+kernel
def DH:zn "isinstance"=Fa (.builtin "isinstance"):=by decide+kernel
def Gu:zn "all"=Fa (.builtin "all"):=by decide+kernel
def uu:zn "tuple"=Fa (.type "tuple"):=by decide+kernel
def uh:zn "list"=Fa (.type "list"):=by decide+kernel
def SG:zn "str"=Fa (.type "str"):=by decide+kernel
def Gb:zn "dict"=Fa (.type "dict"):=by decide+kernel
def FX:zn "enumerate"=Fa (.type "enumerate"):=by decide+kernel
def RU:zn "zip"=Fa (.type "zip"):=by decide+kernel
end
theorem _root_.L2.Inv.drawn{ch:QXQ}{T:Uf}{xs:T0 V}{h':No}{tk:Nat}(I:Inv X XN Y H s)(YO:∀b∈ch,BF X XN H b)(k:∀b o,b∉ch->s.heap.get? b=Fa o->h'.get? b=Fa o)(hT:s.heap.objs.size<=T)(hx:xs.length<=Ch) (rv:qT xs its) (ht:DR h' T its.toArray):Inv X XN Y (upd H T (.tup xs)) {s with heap:=h',toks:=tk}:=by
 have hT0:H T=Db:=I.m9.fresh hT;have nT:∀b o,s.heap.get? b=Fa o->b≠T:=λb o e=>dO (dR (dD e) hT);refine I.step (g':=s.gens) (d':=s.drawn) (ch:=ch) (λb hb=>⟨(YO b hb).2.2.2.1,(YO b hb).2.1,(YO b hb).2.2.2.2.1,(YO b hb).2.2.2.2.2⟩) (λb o _ _ hc e _=>k b o hc e) (λb o _ _ hc e _=>⟨o.slots,k b o hc e⟩) (λb o _ e n=>by rw[qw (nT b o e)];exact n)
  (λb o hc e=>⟨o,k b o hc e⟩) (λb ys e=>by rw[qw (rB e hT0)];exact e) (λb o u e=>by rw[qw (rB e hT0)];exact e) (λb ps e=>⟨#[],by rw[qw (rB e hT0),e];simp⟩) (λm hm=>?_) (λb u e=>?_) I.bare
 .obtain⟨o,es,ep,ho,r⟩:=hm;exact⟨o,es,ep,k _ o (λz=>(YO _ z).2.1 Z') ho,r⟩
 .by_cases hb:b=T
  .subst hb;rw[qC]at e;cases e;exact⟨hx,its,rv,ht⟩
  .rw[qw hb]at e;refine(I.m9 b u e).nK (λc v hc q=>k c v (λz=>?_) q) (λc q=>by rw[qw (rB q hT0)];exact q) (λc ys q=>by rw[qw (rB q hT0)];exact q);have n:=(YO c z).1;rcases hc with y|y
   .rw[y,e]at n;cases n
   .rw[y]at n;cases n
noncomputable def Wy(K:qM)(a:Uf):It:=
 ⟨λi H=>∃xs x,zJ K H a xs/\xs[i]?=Fa x,λi H x H'=>∃p y,x=.ref p/\H p=Db/\H'=upd H p (.tup [.int (i:Nat),y])/\∀xs,zJ K H a xs->xs[i]?=Fa y,λi H=>∃xs,zJ K H a xs/\xs.length<=i⟩
def Lh{K:qM}(a e it:Uf)(hei:e≠it):GA P w K (.Tuple Yg n tp) (Wy K a) [e,it] e (λi h=>(∃old,IsEnum h e it (i:Nat) old)/\h.IsListIter it a i) where
 mem:=by simp
 obj:=λi h st b hb=>by
  obtain⟨⟨old,he⟩,o,e1,c,d⟩:=st;rcases dh.mp hb with rfl|hb
  .exact⟨_,he,λv z=>by cases z⟩
  .rw[dA.mp hb];exact⟨o,e1,λv z=>by rw[d]at z;cases z⟩
 keep:=λi h h' st k=>by obtain⟨⟨old,he⟩,hi⟩:=st;exact⟨⟨old,k e (by simp) _ he⟩,hi.at λo q=>k it (by simp) o q⟩
 item:=by
  intro X hP hw hK hc i XN s Y H E I hf st hg;subst hP hw hK;obtain⟨xs,x,hq,hx⟩:=hg;obtain⟨its,rv,p,hz⟩:=I.list hq;obtain⟨u,hu,ru⟩:=rv.get hx;obtain⟨⟨old,he⟩,hi⟩:=st;refine wpAny_pyNext_enum_item he hi p.isList (x:=u) (by simpa using hu) hei λh1 ho YF hT hsz hk=>?_;refine⟨_,Z',wpAny_letOwnedTupleGo_enum ho λh2 he2 Zv=>?_⟩;have helt:e<s.heap.objs.size:=dD he;have hilt:it<s.heap.objs.size:=by obtain⟨o,q,_⟩:=hi;exact dD q
  have kk:∀b o,b∉[e,it]->s.heap.get? b=Fa o->h2.get? b=Fa o:=λb o hb q=>(Zv.2 b λz=>hb (by simp[z])).trans (hk b o (λz=>hb (by simp[z])) (λz=>hb (by simp[z])) q);have hT2:h2.get? s.heap.objs.size=Fa {cls:=.type "tuple",data:=.seq #[.int (i:Nat) s.toks,u]}:=(Zv.2 _ (gW helt)).trans hT;have hT0:H s.heap.objs.size=Db:=I.m9.fresh (dw _);have I2:=I.drawn (ch:=[e,it]) (T:=s.heap.objs.size) (xs:=[.int (i:Nat),x]) (its:=[.int (i:Nat) s.toks,u]) (h':=h2) (tk:=s.toks+1) hf kk (dw _) (by show 2<=Ch;decide) (.cons ⟨_,Z'⟩ (.cons ru .nil)) ⟨_,hT2,Z',⟨_,Z'⟩,Z'⟩;refine⟨.ref s.heap.objs.size,_,I2,Z',⟨_,x,Z',hT0,Z',λys hy=>by rw[I.oa hy hq];exact hx⟩,⟨⟨_,by simpa using he2⟩,YF.extBut Zv.extBut (dS hei)⟩,λb hb=>?_⟩;have YJ:b<s.heap.objs.size:=by
   rcases dh.mp hb with z|z
   .rw[z];exact helt
   .rw[dA.mp z];exact hilt
  rw[qw (dO YJ)];exact(hf b hb).1
 done:=by intro X hP hw hK hc i XN s Y H E I hf st hg;subst hP hw hK;obtain⟨xs,hq,hx⟩:=hg;obtain⟨its,rv,p,hz⟩:=I.list hq;obtain⟨⟨old,he⟩,hi⟩:=st;have hl:=rv.length;obtain⟨f0,f1,f2,f3,f4,f5⟩:=hf it (by simp);exact wpAny_pyNext_enum_end (I.ok.hd hc) he hi p.isList (by simp;lia) λh' eb=>⟨Z',I.turned (t':=s.toks) (λb o hb q=>eb b o hb q) f0 f1 f3 f4 f5⟩
 self:=λ_ _ _ _ _ st h=>by obtain⟨⟨old,he⟩,_⟩:=st;exact lP he h
variable {tp:Pos}{Yg:T0 Go}{n:Nat}
def OQ{a:Go}{ta:TA}(hg:Gl X "enumerate")(hm:X.mg "enumerate"=Db)(ha:PA X [a] ta)(hs:Tl [a] X.env=[(lf,wp a X.env)]:=by rfl):
  PI X (.Tuple Yg n tp) (.Call (.Name "enumerate" p) [a] [] pos) (λY H R=>ta Y H λvs H1=>∃l,vs=[.ref l]/\(∃xs,zJ X.K H1 l xs)/\R (Wy X.K l) H1):=by
 intro XN s Y H R I h;refine Call_ (ya I hg hm FX (gg (sZ (ha pos XN s Y H _ I h) λus s1 zz=>x5 zz λvs H1 I1 r1 q1=>?_) hs Z'));obtain⟨l,e,⟨xs,hq⟩,q⟩:=q1;subst e;obtain⟨u,rfl,ru⟩:=yu r1;cases ru;obtain⟨its,rv,pl,hz⟩:=I1.list hq;refine call_enumerate_list pl.isList λh' he hi hsz hk=>?_;refine lP he ?_;have I2:Inv X XN Y H1 {s1 with heap:=h'}:=I1.kept (t':=s1.toks) hk;refine⟨s1.heap.objs.size+1,[s1.heap.objs.size+1,s1.heap.objs.size],_,_,H1,Z',I2,Lh l _ _ (Nat.succ_ne_self _),⟨⟨_,he⟩,hi⟩,λb hb=>?_,q⟩;have YJ:s1.heap.objs.size<=b:=by
  rcases dh.mp hb with z|z
  .rw[z];exact gx _
  .rw[dA.mp z];exact dw _
 exact I1.oo YJ (I1.m9.fresh YJ)
noncomputable def uU:Nat->T0 D->T0 D
 | _,[]=>[]
 | i,d::r=>.tup [.int (i:Nat),d]::uU (i+1) r
theorem Aq:∀{ds:T0 D} {i j:Nat},(uU j ds)[i]?=(ds[i]?).map λd=>D.tup [.int ((j+i:Nat):Int),d]
 | [],i,j=>by simp[uU]
 | d::r,0,j=>by simp[uU]
 | d::r,i+1,j=>by show(uU (j+1) r)[i]?=_;rw[Aq];simp only[List.getElem?_cons_succ];rw[show j+1+i=j+(i+1)by lia]
theorem vT:∀{ds:T0 D} {j:Nat},(uU j ds).length=ds.length
 | [],j=>rfl
 | d::r,j=>by simp[uU,vT]
def Mh{K:qM}:G6 K H1 (Wy K a) (uU 0 ds) (λM=>pq M a=Fa ds) where
 go:=λi H M hi hm ok _=>by rw[vT]at hi;obtain⟨xs,h1,h2,_⟩:=qO hm ok;obtain⟨x,e,_⟩:=h2.get (c9 hi);exact⟨xs,x,h1,e⟩
 pz:=λi d H M x H' hd hm ok _ y=>by
  obtain⟨xs,h1,h2,_⟩:=qO hm ok;obtain⟨p,z,rfl,hp,rfl,y⟩:=y;rw[Aq]at hd;cases e:ds[i]? with
  | none=>rw[e]at hd;cases hd
  | some d'=>rw[e]at hd;cases hd;obtain⟨x',e',hx⟩:=h2.get e;have w1:=y xs h1;rw[e']at w1;have w2:x'=z:=dv w1;subst w2;have ex:rA K H (upd H p (.tup [.int (i:Nat),x'])):=.new hp;refine⟨.tup (.of qC) (.cons (by rw[mL];exact .int) (.cons (hx.mono ex) .nil)),hm.add hp,ex⟩
 stop:=λH M hm ok _=>by obtain⟨xs,h1,h2,_⟩:=qO hm ok;exact⟨xs,h1,by rw[vT,h2.length];exact dw _⟩
def T8(t:xR):OI:=λU M R=>t U M λds M1=>match ds with
 | [.ref a]=>(pq M1 a).elim False λes=>R (uU 0 es) (λM=>pq M a=Fa es) M1
 | _=>False
def vK{a:Go}{ta:xR}(hg:Gl X "enumerate")(hm:X.mg "enumerate"=Db)(ha:A3 X [a] ta)(hs:Tl [a] X.env=[(lf,wp a X.env)]:=by rfl):I3 X (.Tuple Yg n tp) (.Call (.Name "enumerate" p) [a] [] pos) (T8 ta):=
 PI.mono (OQ hg hm ha hs) λY H R' zz=>x7 zz λU M R hs hm ht k=>⟨U,M,_,hs,hm,ht,λvs H1 ds M1 hd XQ e1 q1=>by
  split at q1
  .obtain⟨v,rfl,hv⟩:=sG hd;cases hv.mU;obtain⟨es,e0,q⟩:=rD q1;obtain⟨xs,h1,h2,_⟩:=qO XQ e0;exact⟨_,Z',⟨xs,h1⟩,k _ H1 _ _ M1 Mh XQ e1 e0 q⟩
  .exact q1.elim⟩
variable {prog:Pg}{A:Ar}{E:QQX}
def Iz{it t:Uf}{i:Nat}{its:Array Vl}{x:Vl}{Q:QQX}(hi:s.heap.IsTupleIter it t i)(ht:s.heap.IsTuple t its)(hx:its[i]?=Fa x) (hQ:∀g,g.IsTupleIter it t (i+1)->Heap.SameBut it s.heap g->Q x {s with heap:=g}):pi (Tk prog w) A (Builtin.SmallTypes.nextOf (.ref it)) Q E s:=by
 obtain⟨ob,e1,e2,e3⟩:=id hi;obtain⟨ot,e4,_,nt,e5⟩:=ht;unfold Builtin.SmallTypes.nextOf;refine cX (fO (name:=Str.ofString "__next__") hi.typeIs gP (gq gP hi.typeIs js ?_ (jn _)));show pi (Tk prog w) _ (field (.ref it) 0>>=_) _ _ s;refine cX (fu e1 e3 (x:=.ref t) Z' ?_);show pi (Tk prog w) _ (if (Value.ref t==Value.none)=pc then _ else _) _ _ s;rw[de (show ¬(Value.ref t==Value.none)=pc from dC)];show pi (Tk prog w) _ (field (.ref it) 1>>=_) _ _ s;refine cX (fu e1 e3 (x:=.int i 0) Z' ?_);show pi (Tk prog w) _ (seqItems? (.ref t)>>=_) _ _ s;refine cX (gJ e4 e5 ?_);simp only[fR,hx];refine cX (ij e1 e3 (by simp) (dq ⟨x,Z',dq (hQ _ ⟨_,fL _ e1 (Obj.isFreed_of_fields (lA e3 _)),(Obj.cls_mapFields ..).trans e2,?_⟩ (kN ..))⟩));rw[lA e3];simp[X']
def Cs{it t:Uf}{i:Nat}{its:Array Vl}{Q:QQX}(hh:A.handled=Db)(hi:s.heap.IsTupleIter it t i)(ht:s.heap.IsTuple t its)(hx:its[i]?=Db) (hE:∀g e,Heap.ExtBut it s.heap g->(∃o,g.get? e=Fa o/\o.cls=.type "StopIteration")->E (.ref e) {s with heap:=g}):pi (Tk prog w) A (Builtin.SmallTypes.nextOf (.ref it)) Q E s:=by
 obtain⟨ob,e1,e2,e3⟩:=id hi;obtain⟨ot,e4,_,nt,e5⟩:=ht;unfold Builtin.SmallTypes.nextOf;refine cX (fO (name:=Str.ofString "__next__") hi.typeIs gP (gq gP hi.typeIs js ?_ (jn _)));show pi (Tk prog w) _ (field (.ref it) 0>>=_) _ _ s;refine cX (fu e1 e3 (x:=.ref t) Z' ?_);show pi (Tk prog w) _ (if (Value.ref t==Value.none)=pc then _ else _) _ _ s;rw[de (show ¬(Value.ref t==Value.none)=pc from dC)];show pi (Tk prog w) _ (field (.ref it) 1>>=_) _ _ s;refine cX (fu e1 e3 (x:=.int i 0) Z' ?_);show pi (Tk prog w) _ (seqItems? (.ref t)>>=_) _ _ s;refine cX (gJ e4 e5 ?_);simp only[fR,hx];refine cX (kA (cX (ij e1 e3 (by simp) ?_)));show pi (Tk prog w) _ (newExc (.type "StopIteration") []>>=_) _ _ _;refine cX ?_;simp only[newExc,newTuple];refine cX (gc ?_ (by size_fits));refine cX (m:=firstArgMember _ _) (wpAny_of_eq (a:=Value.none) (by first|rfl|(simp only[firstArgMember];rfl)) ?_);refine gc ?_ (by size_fits);simp only[raiseNew];refine cX (wpAny_handled ?_)
 first|rw[show A.in1.handled=Db from hh]|rw[hh]
 refine cX (dq (wpAny_throw (hE _ _ (((kN ..).extBut.push _).push _) ⟨_,dN _ Z',Z'⟩)))
def yE{prog:Pg}{w:Wo}{A:Ar}(hh:A.handled=Db)(it t:Uf)(X9:t≠it)(its:Array Vl):
  Draws prog w A it [it,t] its.size (λi v=>its[i]?=Fa v) (λi h=>h.IsTupleIter it t i/\h.IsTuple t its) where
 live:=λi h st=>let⟨o,ho,_⟩:=st.1;⟨o,ho⟩
 frame:=λi h g st hk=>by obtain⟨⟨o,e1,e2⟩,⟨o',e3,e4⟩⟩:=st;exact⟨⟨o,hk it (by simp) o e1,e2⟩,⟨o',hk t (by simp) o' e3,e4⟩⟩
 item:=λi s Q E hi st hQ=>Iz st.1 st.2 (x:=its[i]) (by simp[hi]) λg hg hs=>hQ _ g s.toks (by simp[hi]) ⟨hg,st.2.extBut hs.extBut X9⟩ hs
 done:=λs Q E st hE=>Cs hh st.1 st.2 (by simp) hE
structure AM(z TI TO i1 i2:Uf)(f1 f2:QXQ):Prop where
 a1:TI≠z
 a2:TO≠z
 a3:i1≠z
 a4:i2≠z
 a5:TI≠TO
 a6:TI≠i1
 a7:TI≠i2
 a8:TO≠i1
 a9:TO≠i2
 pJ:i1≠i2
 b1:z∉f1
 b2:TO∉f1
 b3:i2∉f1
 c1:z∉f2
 c2:TO∉f2
 c3:i1∉f2
variable {z TI TO i1 i2:Uf}{f1 f2:QXQ}{n1 n2 k1 k2:Nat}{P1 P2:Nat→Vl→Prop}{S1 S2:Nat→No→Prop}
section
variable {a b:Vl}
def sR{St:Nat->No->Prop}(Dr:Draws prog w A it fp n Pt St){i:Nat}{h g:No}{c:Uf}(st:St i h)(hs:Heap.SameBut c h g)(hc:c∉fp):St i g:=
 Dr.frame _ _ _ st λd hd o e=>(hs.2 d λq=>hc (q ▸ hd)).trans e
def Lg{Q:QQX}(D1:Draws prog w A i1 f1 n1 P1 S1)(D2:Draws prog w A i2 f2 n2 P2 S2)(Yd:AM z TI TO i1 i2 f1 f2)(hz:XXj s.heap z TI TO .none)(hI:xL s.heap TI (.ref i1) (.ref i2))(hO:xL s.heap TO a b) (Yw:S1 k1 s.heap) (Ya:S2 k2 s.heap) (l1:k1<n1) (l2:k2<n2) (hQ:∀x y g tk,P1 k1 x->P2 k2 y->XXj g z TI TO (X' s.heap.objs.size)->xL g TO x y->S1 (k1+1) g->S2 (k2+1) g->xL g s.heap.objs.size x y->g.objs.size=s.heap.objs.size+1->
   (∀c o,c≠z->c≠TO->c≠i1->c≠i2->s.heap.get? c=Fa o->g.get? c=Fa o)->Q (.ref s.heap.objs.size) {s with heap:=g,toks:=tk}):
  pi (Tk prog w) A (Builtin.«zip.__next__» ⟨[.ref z],[]⟩) (λXT s'=>∃v,XT=.done (.ret v)/\Q v s') E s:=by
 show pi (Tk prog w) A (field (.ref z) 2>>=_) _ _ _;refine cX (fu hz Z' (x:=.bool lf) Z' ?_);show pi (Tk prog w) A (field (.ref z) 3>>=_) _ _ _;refine cX (fu hz Z' (x:=.ref TI) Z' (cX (gJ hI Z' ?_)));show pi (Tk prog w) A (Builtin.SmallTypes.ownedTupleIsFree (.ref z)>>=_) _ _ _;refine cX ?_;unfold Builtin.SmallTypes.ownedTupleIsFree;refine cX (fu hz Z' (x:=.none) Z' (dq ?_));simp only[jk];refine cX (kA (cX (fu hz Z' (x:=.ref TO) Z' (cX (gL hz (by simp) λg1 z1 ZF=>?_)))));replace z1:XXj g1 z TI TO .ellipsis:=z1;refine cX ?_;simp only[mi,mB,jX,kg];refine cX (cX (iN ?_));show pi (Tk prog w) A (Builtin.SmallTypes.nextOf (.ref i1)>>=_) _ _ _;have ZG:S1 k1 g1:=sR D1 Yw ZF Yd.b1;refine cX (D1.item k1 _ _ _ l1 ZG λx g2 tk2 px st1b YT=>dq ?_);replace YT:Heap.SameBut i1 g1 g2:=YT;have o2:xL g2 TO a b:=YT.extBut _ _ Yd.a8 (ZF.extBut _ _ Yd.a2 hO);refine cX (gJ o2 Z' (cX (iY o2 λg3 o3 Y0=>?_)));replace o3:xL g3 TO x b:=o3;replace Y0:Heap.SameBut TO g2 g3:=Y0;refine cX (lU (dq (cX (cX (iN ?_)))));show pi (Tk prog w) A (Builtin.SmallTypes.nextOf (.ref i2)>>=_) _ _ _;have st2a:S2 k2 g3:=sR D2 (sR D2 (sR D2 Ya ZF Yd.c1) YT Yd.c3) Y0 Yd.c2;refine cX (D2.item k2 _ _ _ l2 st2a λy g4 tk4 py st2b ZQ=>dq ?_);replace ZQ:Heap.SameBut i2 g3 g4:=ZQ;have o4:xL g4 TO x b:=ZQ.extBut _ _ Yd.a9 o3;refine cX (gJ o4 Z' (cX (iY o4 λg5 o5 ZR=>?_)));replace o5:xL g5 TO x y:=o5;replace ZR:Heap.SameBut TO g4 g5:=ZR;refine cX (lU (dq (dq (cX (gJ o5 Z' (cX (wpAny_newTuple ?_)))))));have esz:g5.objs.size=s.heap.objs.size:=by rw[ZR.1,ZQ.1,Y0.1,YT.1,ZF.1]
 have z5:XXj g5 z TI TO .ellipsis:=ZR.extBut _ _ Yd.a2.symm (ZQ.extBut _ _ Yd.a4.symm (Y0.extBut _ _ Yd.a2.symm (YT.extBut _ _ Yd.a3.symm z1)));have kp:∀c o,c≠z->c≠TO->c≠i1->c≠i2->s.heap.get? c=Fa o->g5.get? c=Fa o:=λc o q1 q2 q3 q4 q=>ZR.extBut _ _ q2 (ZQ.extBut _ _ q4 (Y0.extBut _ _ q2 (YT.extBut _ _ q3 (ZF.extBut _ _ q1 q))));have st1c:S1 (k1+1) g5:=sR D1 (sR D1 (sR D1 st1b Y0 Yd.b2) ZQ Yd.b3) ZR Yd.b2;have st2c:S2 (k2+1) g5:=sR D2 st2b ZR Yd.c2;have zlt:z<g5.objs.size:=dD z5;show pi (Tk prog w) A (Builtin.SmallTypes.ownedTupleHandOut (.ref z) (.ref g5.objs.size)>>=_) _ _ _;refine cX ?_;unfold Builtin.SmallTypes.ownedTupleHandOut;have z6:XXj (g5.push {cls:=.type "tuple",data:=.seq #[x,y]}) z TI TO .ellipsis:=df _ z5;refine cX (gL z6 (by simp) λg7 z7 sb7=>?_);replace z7:XXj g7 z TI TO (X' g5.objs.size):=z7;refine gL z7 (by simp) λg8 z8 sb8=>?_;replace z8:XXj g8 z TI TO (X' g5.objs.size):=z8;have up:∀c o,c≠z->g5.get? c=Fa o->g8.get? c=Fa o:=λc o q1 q=>sb8.extBut _ _ q1 (sb7.extBut _ _ q1 (df _ q));have tu:xL g8 g5.objs.size x y:=sb8.extBut _ _ (gW zlt) (sb7.extBut _ _ (gW zlt) (dN _ Z'));have es8:g8.objs.size=g5.objs.size+1:=by rw[sb8.1,sb7.1,fB]
 rw[esz]at z8 tu es8;refine dq ⟨_,Z',?_⟩;show Q (.ref g5.objs.size) _;rw[esz];exact hQ x y g8 _ px py z8 (up _ _ Yd.a2 o5) (D1.frame _ _ _ st1c λc hc o q=>up c o (λr=>Yd.b1 (r ▸ hc)) q) (D2.frame _ _ _ st2c λc hc o q=>up c o (λr=>Yd.c1 (r ▸ hc)) q) tu es8 λc o q1 q2 q3 q4 q=>up c o q1 (kp c o q1 q2 q3 q4 q)
def MM{Q:Fin->Sd->Prop}(D1:Draws prog w A i1 f1 n1 P1 S1)(D2:Draws prog w A i2 f2 n2 P2 S2)(Yd:AM z TI TO i1 i2 f1 f2)(hz:XXj s.heap z TI TO .none)(hI:xL s.heap TI (.ref i1) (.ref i2))(hO:xL s.heap TO a b) (Yw:S1 k1 s.heap) (Ya:S2 k1 s.heap) (hend:k1=n1\/(k1<n1/\k1=n2)) (hE:∀g e,(∀c o,c≠z->c≠TO->c≠i1->c≠i2->s.heap.get? c=Fa o->g.get? c=Fa o)->(∃o,g.get? e=Fa o/\o.cls=.type "StopIteration")->∀tk,E (.ref e) {s with heap:=g,toks:=tk}):
  pi (Tk prog w) A (Builtin.«zip.__next__» ⟨[.ref z],[]⟩) Q E s:=by
 show pi (Tk prog w) A (field (.ref z) 2>>=_) _ _ _;refine cX (fu hz Z' (x:=.bool lf) Z' ?_);show pi (Tk prog w) A (field (.ref z) 3>>=_) _ _ _;refine cX (fu hz Z' (x:=.ref TI) Z' (cX (gJ hI Z' ?_)));show pi (Tk prog w) A (Builtin.SmallTypes.ownedTupleIsFree (.ref z)>>=_) _ _ _;refine cX ?_;unfold Builtin.SmallTypes.ownedTupleIsFree;refine cX (fu hz Z' (x:=.none) Z' (dq ?_));simp only[jk];refine cX (kA (cX (fu hz Z' (x:=.ref TO) Z' (cX (gL hz (by simp) λg1 z1 ZF=>?_)))));replace z1:XXj g1 z TI TO .ellipsis:=z1;refine cX ?_;simp only[mi,mB,jX,kg];refine cX (cX (iN ?_));show pi (Tk prog w) A (Builtin.SmallTypes.nextOf (.ref i1)>>=_) _ _ _;have ZG:S1 k1 g1:=sR D1 Yw ZF Yd.b1;rcases hend with he|⟨XZ,he⟩
 .rw[he]at ZG;refine cX (D1.done _ _ _ ZG λg2 e YT hx=>?_);obtain⟨oe,g,hce⟩:=hx;have z2:XXj g2 z TI TO .ellipsis:=YT _ _ Yd.a3.symm z1;have hez:e≠z:=λq=>by subst q;rw[z2]at g;cases g;simp at hce
  exact gL z2 (by simp) λg3 _ Y0=>hE g3 e (λc o q1 _ q3 _ q=>Y0.extBut _ _ q1 (YT _ _ q3 (ZF.extBut _ _ q1 q))) ⟨oe,Y0.extBut _ _ hez g,hce⟩ _
 .refine cX (D1.item k1 _ _ _ XZ ZG λx g2 tk2 px st1b YT=>dq ?_);replace YT:Heap.SameBut i1 g1 g2:=YT;have o2:xL g2 TO a b:=YT.extBut _ _ Yd.a8 (ZF.extBut _ _ Yd.a2 hO);refine cX (gJ o2 Z' (cX (iY o2 λg3 o3 Y0=>?_)));replace Y0:Heap.SameBut TO g2 g3:=Y0;refine cX (lU (dq (cX (cX (iN ?_)))));show pi (Tk prog w) A (Builtin.SmallTypes.nextOf (.ref i2)>>=_) _ _ _;have st2a:S2 k1 g3:=sR D2 (sR D2 (sR D2 Ya ZF Yd.c1) YT Yd.c3) Y0 Yd.c2;rw[he]at st2a;refine cX (D2.done _ _ _ st2a λg4 e ZQ hx=>?_);obtain⟨oe,g,hce⟩:=hx;have z4:XXj g4 z TI TO .ellipsis:=ZQ _ _ Yd.a4.symm (Y0.extBut _ _ Yd.a2.symm (YT.extBut _ _ Yd.a3.symm z1));have hez:e≠z:=λq=>by subst q;rw[z4]at g;cases g;simp at hce
  exact gL z4 (by simp) λg5 _ ZR=>hE g5 e (λc o q1 q2 q3 q4 q=>ZR.extBut _ _ q1 (ZQ _ _ q4 (Y0.extBut _ _ q2 (YT.extBut _ _ q3 (ZF.extBut _ _ q1 q))))) ⟨oe,ZR.extBut _ _ hez g,hce⟩ _
end
abbrev Wc(h:No)(t:Uf):No:=h.push {cls:=.type "tuple_iterator",data:=.fields #[.ref t,.int 0 0]}
abbrev V8(h:No)(t u:Uf):No:=(Wc h t).push {cls:=.type "tuple_iterator",data:=.fields #[.ref u,.int 0 0]}
abbrev V5(h:No)(t u:Uf):No:=(V8 h t u).push {cls:=.type "tuple",data:=.seq #[.ref h.objs.size,.ref (Wc h t).objs.size]}
abbrev V9(h:No)(t u:Uf):No:=(V5 h t u).push {cls:=.type "tuple",data:=.seq #[.none,.none]}
abbrev Ur(h:No)(t u:Uf):No:=(V9 h t u).push {cls:=.type "zip",data:=.fields #[.none,.bool lf,.bool lf,.ref (V8 h t u).objs.size,.ref (V5 h t u).objs.size]}
def DA(t u:Uf)(xs ys:Array Vl):
  Meets (Builtin.«zip.__new__» ⟨[.type "zip",.ref t,.ref u],[]⟩) (λ_ R s=>s.heap.IsTuple t xs/\s.heap.IsTuple u ys/\R (.ok (.ret (.ref (V9 s.heap t u).objs.size))) {s with heap:=Ur s.heap t u}):=
 .of_wp λprog w A R s h=>by
  obtain⟨hp,g,d,tk,os⟩:=s;obtain⟨e1,e2,h⟩:=h;have ZC:=sub_zip;have q1:Heap.IsTuple (Shared.heap ⟨hp,g,d,tk,os⟩) t xs:=e1;have q2:Heap.IsTuple (Shared.heap ⟨hp.push {cls:=.type "tuple_iterator",data:=.fields #[.ref t,.int 0 0]},g,d,tk,os⟩) u ys:=Heap.IsTuple.push e2 _
  wp_walk using iE q1,iE q2
  exact⟨_,Z',h⟩
def Fu{t u:Uf}{xs ys:Array Vl}{Q:QQX}(ht:s.heap.IsTuple t xs)(hu:s.heap.IsTuple u ys) (h:∀g,XXj g (s.heap.objs.size+4) (s.heap.objs.size+2) (s.heap.objs.size+3) .none->xL g (s.heap.objs.size+2) (.ref s.heap.objs.size) (.ref (s.heap.objs.size+1))->xL g (s.heap.objs.size+3) .none .none->
   g.IsTupleIter s.heap.objs.size t 0->g.IsTupleIter (s.heap.objs.size+1) u 0->(∀c o,s.heap.get? c=Fa o->g.get? c=Fa o)->Q (.ref (s.heap.objs.size+4)) {s with heap:=g}):
  pi (Tk prog w) A (call (.type "zip") [.ref t,.ref u]) Q E s:=by
 refine callType_new F.called_zip (by decide) (F.typeCall_zip_2 _ _) (F.newCall_zip_2 _ _) (λobj=>F.args_object_init_3 obj _ _) F.entry_zip_new (DA t u xs ys) ⟨ht,hu,?_⟩;have m1:(Wc s.heap t).objs.size=s.heap.objs.size+1:=fB ..;have m2:(V8 s.heap t u).objs.size=s.heap.objs.size+2:=by rw[fB,m1]
 have m3:(V5 s.heap t u).objs.size=s.heap.objs.size+3:=by rw[fB,m2]
 have m4:(V9 s.heap t u).objs.size=s.heap.objs.size+4:=by rw[fB,m3]
 have up:∀{h:No} {c:Uf} {o p:Obj},h.get? c=Fa o->(h.push p).get? c=Fa o:=λq=>df _ q;have r5:(Ur s.heap t u).get? (V9 s.heap t u).objs.size=Fa _:=dN _ Z';have r4:(Ur s.heap t u).get? (V5 s.heap t u).objs.size=Fa _:=up (dN _ Z');have r3:(Ur s.heap t u).get? (V8 s.heap t u).objs.size=Fa _:=up (up (dN _ Z'));have r2:(Ur s.heap t u).get? (Wc s.heap t).objs.size=Fa _:=up (up (up (dN _ Z')));have r1:(Ur s.heap t u).get? s.heap.objs.size=Fa _:=up (up (up (up (dN _ Z'))));show _/\_;rw[m2,m3,m4]at r5;rw[m1,m2]at r3;rw[m3]at r4;rw[m1]at r2;rw[m4];exact⟨⟨_,r5,Z'⟩,h _ r5 r3 r4 ⟨_,r1,Z',Z'⟩ ⟨_,r2,Z',Z'⟩ λc o q=>up (up (up (up (up q))))⟩
def G'{z TI TO i1 i2:Uf}{n1 n2 k:Nat}{P1 P2:Nat->Vl->Prop}{S1 S2:Nat->No->Prop}{Q:Option Vl->Sd->Prop}(D1:Draws prog w A.in1 i1 f1 n1 P1 S1)(D2:Draws prog w A.in1 i2 f2 n2 P2 S2)(Yd:AM z TI TO i1 i2 f1 f2) (hz:XXj s.heap z TI TO .none) (hI:xL s.heap TI (.ref i1) (.ref i2)) (hO:xL s.heap TO a b) (Yw:S1 k s.heap) (Ya:S2 k s.heap) (l1:k<n1) (l2:k<n2) (hQ:∀x y g tk,P1 k x->P2 k y->XXj g z TI TO (X' s.heap.objs.size)->xL g TO x y->S1 (k+1) g->S2 (k+1) g->xL g s.heap.objs.size x y->g.objs.size=s.heap.objs.size+1->
   (∀c o,c≠z->c≠TO->c≠i1->c≠i2->s.heap.get? c=Fa o->g.get? c=Fa o)->Q (Fa (.ref s.heap.objs.size)) {s with heap:=g,toks:=tk}):pi (Tk prog w) A (pyNext (.ref z)) Q E s:=by
 have hT:s.TypeIs (.ref z) "zip":=⟨_,hz,Z'⟩;unfold pyNext;refine cX (kI (fO (name:=Str.ofString "__next__") hT iZ (gq iZ hT mj ?_ (lQ _))));exact Lg D1 D2 Yd hz hI hO Yw Ya l1 l2 λx y g tk q1 q2 q3 q4 q5 q6 q7 q8 q9=>dq (hQ x y g tk q1 q2 q3 q4 q5 q6 q7 q8 q9)
def BD{z TI TO i1 i2:Uf}{n1 n2 k:Nat}{P1 P2:Nat->Vl->Prop}{S1 S2:Nat->No->Prop}{Q:Option Vl->Sd->Prop}(D1:Draws prog w A.in1 i1 f1 n1 P1 S1)(D2:Draws prog w A.in1 i2 f2 n2 P2 S2)(Yd:AM z TI TO i1 i2 f1 f2) (hz:XXj s.heap z TI TO .none) (hI:xL s.heap TI (.ref i1) (.ref i2)) (hO:xL s.heap TO a b) (Yw:S1 k s.heap) (Ya:S2 k s.heap) (hend:k=n1\/(k<n1/\k=n2)) (hQ:∀g tk,(∀c o,c≠z->c≠TO->c≠i1->c≠i2->s.heap.get? c=Fa o->g.get? c=Fa o)->Q Db {s with heap:=g,toks:=tk}):pi (Tk prog w) A (pyNext (.ref z)) Q E s:=by
 have hT:s.TypeIs (.ref z) "zip":=⟨_,hz,Z'⟩;unfold pyNext;refine cX (kI (fO (name:=Str.ofString "__next__") hT iZ (gq iZ hT mj (MM D1 D2 Yd hz hI hO Yw Ya hend λg e kp hx tk=>?_) (lQ _))));obtain⟨o,e1,e2⟩:=hx;exact cX (wpAny_isInstance (T:="StopIteration") (b:=true) ⟨o,e1,e2⟩ isSubtype_stop (dq (hQ g tk kp)))
def Gc(I:Inv X XN Y H s)(f:BF X XN H b)(q:vA X.K H a xs):a≠b:=by
 rintro rfl
 rcases q with q|⟨o,its,n,hk,_⟩
 .have z:=f.1;rcases q with q|⟨u,q⟩<;>(rw[q]at z;cases z)
 .have e:=I.mod.oM a o hk;rcases f.2.2.2.1 with z|z
  .exact I.ok.og a o e z
  .exact absurd (dR (dD e) (d9 I.ok.oy z)) (ft _)
noncomputable def Wn(K:qM)(a b:Uf):It:=
 ⟨λi H=>∃xs ys x y,vA K H a xs/\vA K H b ys/\xs[i]?=Fa x/\ys[i]?=Fa y,λi H v H'=>∃p x y,v=.ref p/\H p=Db/\H'=upd H p (.tup [x,y])/\(∀xs,vA K H a xs->xs[i]?=Fa x)/\(∀ys,vA K H b ys->ys[i]?=Fa y),λi H=>∃xs ys,vA K H a xs/\vA K H b ys/\i=min xs.length ys.length⟩
def OD{P:Pg}{w:Wo}{K:qM}{Yg:T0 Go}{n:Nat}{tp:Pos}(a b z TI TO i1 i2:Uf)(a1:TI≠z)(a2:TO≠z)(a3:i1≠z)(a4:i2≠z)(a5:TI≠TO)(a6:TI≠i1)(a7:TI≠i2)(a8:TO≠i1)(a9:TO≠i2)(pJ:i1≠i2):
  GA P w K (.Tuple Yg n tp) (Wn K a b) [z,TI,TO,i1,i2] z (λi h=>XXj h z TI TO .none/\xL h TI (.ref i1) (.ref i2)/\(∃u v,xL h TO u v)/\h.IsTupleIter i1 a i/\h.IsTupleIter i2 b i) where
 mem:=by simp
 obj:=λi h st c hc=>by
  obtain⟨h1,h2,⟨u,v,h3⟩,⟨o4,h4,_,d4⟩,⟨o5,h5,_,d5⟩⟩:=st;simp only[dh,dG,eZ]at hc;rcases hc with rfl|rfl|rfl|rfl|rfl
  .exact⟨_,h1,λv z=>by cases z⟩
  .exact⟨_,h2,λv z=>by cases z⟩
  .exact⟨_,h3,λv z=>by cases z⟩
  .exact⟨_,h4,λv z=>by rw[d4]at z;cases z⟩
  .exact⟨_,h5,λv z=>by rw[d5]at z;cases z⟩
 keep:=λi h h' st k=>by obtain⟨h1,h2,⟨u,v,h3⟩,⟨o4,h4,c4⟩,⟨o5,h5,c5⟩⟩:=st;exact⟨k z (by simp) _ h1,k TI (by simp) _ h2,⟨u,v,k TO (by simp) _ h3⟩,⟨o4,k i1 (by simp) _ h4,c4⟩,⟨o5,k i2 (by simp) _ h5,c5⟩⟩
 item:=by
  intro X hP hw hK hc i XN s Y H E I hf st hg;subst hP hw hK;obtain⟨xs,ys,x,y,hx,hy,ex,ey⟩:=hg;obtain⟨its,rx,px,_⟩:=I.tuple hx;obtain⟨ZN,ry,py,_⟩:=I.tuple hy;obtain⟨u,eu,ru⟩:=rx.get ex;obtain⟨v,ev,rv⟩:=ry.get ey;obtain⟨h1,h2,⟨p,q,h3⟩,h4,h5⟩:=st;have hh:X.A.in1.handled=Db:=I.ok.hd hc;have fa:∀c∈[z,TI,TO,i1,i2],a≠c:=λc hc=>Gc I (hf c hc) hx;have fb:∀c∈[z,TI,TO,i1,i2],b≠c:=λc hc=>Gc I (hf c hc) hy;have Yd:AM z TI TO i1 i2 [i1,a] [i2,b]:=⟨a1,a2,a3,a4,a5,a6,a7,a8,a9,pJ,by
   simp only[dh,dG,eZ,fN];exact⟨dS a3,dS (fa z (by simp))⟩,by
   simp only[dh,dG,eZ,fN];exact⟨a8,dS (fa TO (by simp))⟩,by
   simp only[dh,dG,eZ,fN];exact⟨dS pJ,dS (fa i2 (by simp))⟩,by
   simp only[dh,dG,eZ,fN];exact⟨dS a4,dS (fb z (by simp))⟩,by
   simp only[dh,dG,eZ,fN];exact⟨a9,dS (fb TO (by simp))⟩,by
   simp only[dh,dG,eZ,fN];exact⟨pJ,dS (fb i1 (by simp))⟩⟩
  have l1:i<its.toArray.size:=by
   have:=(cY.mp eu).1
   simpa using this
  have l2:i<ZN.toArray.size:=by
   have:=(cY.mp ev).1
   simpa using this
  refine G' (yE hh i1 a (fa i1 (by simp)) its.toArray) (yE hh i2 b (fb i2 (by simp)) ZN.toArray) Yd h1 h2 h3 ⟨h4,px⟩ ⟨h5,py⟩ l1 l2 λx' y' g tk e1 e2 z1 o1 s1 s2 t1 sz kp=>?_;have e1':x'=u:=by
   have:its[i]?=Fa x':=by simpa using e1
   rw[eu]at this;exact(dv this).symm
  have Z2:y'=v:=by
   have:ZN[i]?=Fa y':=by simpa using e2
   rw[ev]at this;exact(dv this).symm
  subst e1' Z2;refine⟨_,Z',wpAny_letOwnedTupleGo_zip z1 λg2 z2 sb=>?_⟩;have zlt:z<s.heap.objs.size:=dD h1;have kk:∀c o,c∉[z,TI,TO,i1,i2]->s.heap.get? c=Fa o->g2.get? c=Fa o:=λc o hc e=>by simp only[dh,dG,eZ,fN]at hc;exact(sb.2 c hc.1).trans (kp c o hc.1 hc.2.2.1 hc.2.2.2.1 hc.2.2.2.2 e)
  have t2:g2.get? s.heap.objs.size=Fa {cls:=.type "tuple",data:=.seq #[x',y']}:=(sb.2 _ (gW zlt)).trans t1;have hT0:H s.heap.objs.size=Db:=I.m9.fresh (dw _);have I2:=I.drawn (ch:=[z,TI,TO,i1,i2]) (T:=s.heap.objs.size) (xs:=[x,y]) (its:=[x',y']) (h':=g2) (tk:=tk) hf kk (dw _) (by show 2<=Ch;decide) (.cons ru (.cons rv .nil)) ⟨_,t2,Z',⟨_,Z'⟩,Z'⟩;refine⟨.ref s.heap.objs.size,_,I2,Z',⟨_,x,y,Z',hT0,Z',λxs' hx'=>by rw[I.nF hx' hx];exact ex,λys' hy'=>by rw[I.nF hy' hy];exact ey⟩,?_,λc hc=>?_⟩
  .obtain⟨o4,g4,c4⟩:=s1.1;obtain⟨o5,g5,c5⟩:=s2.1;exact⟨z2,(sb.2 _ a1).trans (kp _ _ a1 a5 a6 a7 h2),⟨_,_,(sb.2 _ a2).trans o1⟩,⟨o4,(sb.2 _ a3).trans g4,c4⟩,⟨o5,(sb.2 _ a4).trans g5,c5⟩⟩
  .have n0:=(hf c hc).1;obtain⟨o,eo⟩:∃o,s.heap.get? c=Fa o:=by
    obtain⟨o4,g4,_⟩:=h4;obtain⟨o5,g5,_⟩:=h5;simp only[dh,dG,eZ]at hc;rcases hc with rfl|rfl|rfl|rfl|rfl
    .exact⟨_,h1⟩
    .exact⟨_,h2⟩
    .exact⟨_,h3⟩
    .exact⟨_,g4⟩
    .exact⟨_,g5⟩
   rw[qw (dO (dD eo))];exact n0
 done:=by
  intro X hP hw hK hc i XN s Y H E I hf st hg;subst hP hw hK;obtain⟨xs,ys,hx,hy,hi⟩:=hg;obtain⟨its,rx,px,_⟩:=I.tuple hx;obtain⟨ZN,ry,py,_⟩:=I.tuple hy;obtain⟨h1,h2,⟨p,q,h3⟩,h4,h5⟩:=st;have hh:X.A.in1.handled=Db:=I.ok.hd hc;have fa:∀c∈[z,TI,TO,i1,i2],a≠c:=λc hc=>Gc I (hf c hc) hx;have fb:∀c∈[z,TI,TO,i1,i2],b≠c:=λc hc=>Gc I (hf c hc) hy;have Yd:AM z TI TO i1 i2 [i1,a] [i2,b]:=⟨a1,a2,a3,a4,a5,a6,a7,a8,a9,pJ,by
   simp only[dh,dG,eZ,fN];exact⟨dS a3,dS (fa z (by simp))⟩,by
   simp only[dh,dG,eZ,fN];exact⟨a8,dS (fa TO (by simp))⟩,by
   simp only[dh,dG,eZ,fN];exact⟨dS pJ,dS (fa i2 (by simp))⟩,by
   simp only[dh,dG,eZ,fN];exact⟨dS a4,dS (fb z (by simp))⟩,by
   simp only[dh,dG,eZ,fN];exact⟨a9,dS (fb TO (by simp))⟩,by
   simp only[dh,dG,eZ,fN];exact⟨pJ,dS (fb i1 (by simp))⟩⟩
  have e1:=rx.length;have e2:=ry.length;refine BD (yE hh i1 a (fa i1 (by simp)) its.toArray) (yE hh i2 b (fb i2 (by simp)) ZN.toArray) Yd h1 h2 h3 ⟨h4,px⟩ ⟨h5,py⟩ (by simp only[dB];lia) λg tk kp=>⟨Z',?_⟩;have kk:∀c o,c∉[z,TI,TO,i1,i2]->s.heap.get? c=Fa o->g.get? c=Fa o:=λc o hc e=>by simp only[dh,dG,eZ,fN]at hc;exact kp c o hc.1 hc.2.2.1 hc.2.2.2.1 hc.2.2.2.2 e
  refine I.step (g':=s.gens) (d':=s.drawn) (t':=tk) (ch:=[z,TI,TO,i1,i2]) (λc hc=>⟨(hf c hc).2.2.2.1,(hf c hc).2.1,(hf c hc).2.2.2.2.1,(hf c hc).2.2.2.2.2⟩) ?_ ?_ (λc o _ e n=>n) ?_ (λ_ _ e=>e) (λ_ _ _ e=>e) (λc ps e=>⟨#[],by rw[e];simp⟩) ?_ ?_ I.bare
  .exact λc o _ _ hc e _=>kk c o hc e
  .exact λc o _ _ hc e _=>⟨o.slots,kk c o hc e⟩
  .exact λc o hc e=>⟨o,kk c o hc e⟩
  .intro m hm;obtain⟨o,es,ep,ho,r⟩:=hm;exact⟨o,es,ep,kk _ o (λy=>(hf _ y).2.1 Z') ho,r⟩
  .intro c u e;refine(I.m9 c u e).nK (λd v hd q=>kk d v (λy=>?_) q) (λ_ q=>q) λ_ _ q=>q;have n:=(hf d y).1;rcases hd with x|x
   .rw[x,e]at n;cases n
   .rw[x]at n;cases n
 self:=λ_ _ _ _ _ st h=>mo st.1 h
def SN{a b:Go}{ta:TA}(hg:Gl X "zip")(hm:X.mg "zip"=Db)(ha:PA X [a,b] ta)(hs:Tl [a,b] X.env=[(lf,wp a X.env),(lf,wp b X.env)]:=by rfl)(Zv:Tl [b] X.env=[(lf,wp b X.env)]:=by rfl):
  PI X (.Tuple Yg n tp) (.Call (.Name "zip" p) [a,b] [] pos) (λY H R=>ta Y H λvs H1=>∃l m,vs=[.ref l,.ref m]/\(∃xs,vA X.K H1 l xs)/\(∃xs,vA X.K H1 m xs)/\R (Wn X.K l m) H1):=by
 intro XN s Y H R I h;refine Call_ (ya I hg hm RU (gg (sZ (ha pos XN s Y H _ I h) λus s1 zz=>x5 zz λvs H1 I1 r1 q1=>?_) (by rw[hs,Zv]) (by rw[Zv];rfl)));obtain⟨l,m,e,⟨xs,hx⟩,⟨ys,hy⟩,q⟩:=q1;subst e;obtain⟨u,v,rfl,ru,rv⟩:=Lx r1;cases ru;cases rv;obtain⟨its,_,px,_⟩:=I1.tuple hx;obtain⟨ZN,_,py,_⟩:=I1.tuple hy;refine Fu px py λg h1 h2 h3 h4 h5 hk=>mo h1 ?_;have I2:Inv X XN Y H1 {s1 with heap:=g}:=I1.kept (t':=s1.toks) hk;refine⟨s1.heap.objs.size+4,[s1.heap.objs.size+4,s1.heap.objs.size+2,s1.heap.objs.size+3,s1.heap.objs.size,s1.heap.objs.size+1],_,_,H1,Z',I2,OD l m _ _ _ _ _ ?_ ?_ ?_ ?_ ?_ ?_ ?_ ?_ ?_ ?_,⟨h1,h2,⟨_,_,h3⟩,h4,h5⟩,λb hb=>?_,q⟩
 .exact λz=>by have z:s1.heap.objs.size+2=s1.heap.objs.size+4:=z;lia
 .exact λz=>by have z:s1.heap.objs.size+3=s1.heap.objs.size+4:=z;lia
 .exact λz=>by have z:s1.heap.objs.size=s1.heap.objs.size+4:=z;lia
 .exact λz=>by have z:s1.heap.objs.size+1=s1.heap.objs.size+4:=z;lia
 .exact λz=>by have z:s1.heap.objs.size+2=s1.heap.objs.size+3:=z;lia
 .exact λz=>by have z:s1.heap.objs.size+2=s1.heap.objs.size:=z;lia
 .exact λz=>by have z:s1.heap.objs.size+2=s1.heap.objs.size+1:=z;lia
 .exact λz=>by have z:s1.heap.objs.size+3=s1.heap.objs.size:=z;lia
 .exact λz=>by have z:s1.heap.objs.size+3=s1.heap.objs.size+1:=z;lia
 .exact λz=>by have z:s1.heap.objs.size=s1.heap.objs.size+1:=z;lia
 .have YJ:s1.heap.objs.size<=b:=by
   simp only[dh,dG,eZ]at hb;rcases hb with rfl|rfl|rfl|rfl|rfl
   .exact iO _ _
   .exact iO _ _
   .exact iO _ _
   .exact dw _
   .exact iO _ _
  exact I1.oo YJ (I1.m9.fresh YJ)
noncomputable def BC:T0 D->T0 D->T0 D
 | x::a,y::b=>.tup [x,y]::BC a b
 | _,_=>[]
theorem Jd:∀{ds es:T0 D} {i:Nat},(BC ds es)[i]?=(ds[i]?).bind λd=>(es[i]?).map λe=>D.tup [d,e]
 | [],es,i=>by simp[BC]
 | d::ds,[],i=>by simp[BC]
 | d::ds,e::es,0=>by simp[BC]
 | d::ds,e::es,i+1=>by show(BC ds es)[i]?=_;rw[Jd];simp
theorem Fj:∀{ds es:T0 D},(BC ds es).length=min ds.length es.length
 | [],es=>by simp[BC]
 | d::ds,[]=>by simp[BC]
 | d::ds,e::es=>by show(BC ds es).length+1=_;rw[Fj];simp only[eB];lia
def PC{K:qM}{ds es:T0 D}(h1:vA K H1 a xs)(h2:qF K H1 ds xs)(g1:vA K H1 b ys)(g2:qF K H1 es ys):G6 K H1 (Wn K a b) (BC ds es) (λ_=>True) where
 go:=λi H M hi hm ok e1=>by rw[Fj]at hi;obtain⟨x,ex,_⟩:=h2.get (c9 (show i<ds.length by lia));obtain⟨y,ey,_⟩:=g2.get (c9 (show i<es.length by lia));exact⟨xs,ys,x,y,e1.t _ _ h1,e1.t _ _ g1,ex,ey⟩
 pz:=λi d H M v H' hd hm ok e1 y=>by
  obtain⟨p,x,z,rfl,hp,rfl,y1,y2⟩:=y;rw[Jd]at hd;cases e:ds[i]? with
  | none=>rw[e]at hd;cases hd
  | some d'=>
   cases e':es[i]? with
   | none=>rw[e,e']at hd;cases hd
   | some d''=>rw[e,e']at hd;cases hd;obtain⟨x',q1,hx⟩:=h2.get e;obtain⟨z',q2,hz⟩:=g2.get e';have w1:=y1 xs (e1.t _ _ h1);have w2:=y2 ys (e1.t _ _ g1);rw[q1]at w1;rw[q2]at w2;have v1:x'=x:=dv w1;have v2:z'=z:=dv w2;subst v1 v2;have ex:rA K H (upd H p (.tup [x',z'])):=.new hp;exact⟨.tup (.of qC) (.cons (hx.mono (e1.trans ex)) (.cons (hz.mono (e1.trans ex)) .nil)),hm.add hp,ex⟩
 stop:=λH M hm ok e1=>⟨xs,ys,e1.t _ _ h1,e1.t _ _ g1,by rw[Fj,h2.length,g2.length]⟩
def VR(t:xR):OI:=λU M R=>t U M λds M1=>match ds with
 | [.tup a,.tup b]=>R (BC a b) (λ_=>True) M1
 | _=>False
def Sg{a b:Go}{ta:xR}(hg:Gl X "zip")(hm:X.mg "zip"=Db)(ha:A3 X [a,b] ta)(hs:Tl [a,b] X.env=[(lf,wp a X.env),(lf,wp b X.env)]:=by rfl)(Zv:Tl [b] X.env=[(lf,wp b X.env)]:=by rfl):
  I3 X (.Tuple Yg n tp) (.Call (.Name "zip" p) [a,b] [] pos) (VR ta):=
 PI.mono (SN hg hm ha hs Zv) λY H R' zz=>x7 zz λU M R hs hm ht k=>⟨U,M,_,hs,hm,ht,λvs H1 ds M1 hd XQ e1 q1=>by
  split at q1
  .obtain⟨v,u,rfl,hv,hw⟩:=FM hd;obtain⟨l,xs,rfl,h1,h2⟩:=hv.mZ;obtain⟨m,ys,rfl,g1,g2⟩:=hw.mZ;exact⟨l,m,Z',⟨xs,h1⟩,⟨ys,g1⟩,k _ H1 _ _ M1 (PC h1 h2 g1 g2) XQ e1 trivial q1⟩
  .exact q1.elim⟩
def qJ(M M':Mp):Prop:=∀a c,M a=Fa c->M' a=Fa c
def qJ.refl:qJ M M:=λ_ _ h=>h
def qJ.trans{M M1 M2:Mp}(a:qJ M M1)(b:qJ M1 M2):qJ M M2:=λx c h=>b x c (a x c h)
def qJ.new{M:Mp}{p:Uf}{c:uG}(h:M p=Db):qJ M (pT M p c):=λx d q=>by rw[uW (OJ q h)];exact q
def qJ.lst{ds:T0 D}(s:qJ M M')(h:pq M a=Fa ds):pq M' a=Fa ds:=by
 unfold pq at h ⊢;cases e:M a with
 | none=>rw[e]at h;cases h
 | some c=>rw[s a c e];rw[e]at h;exact h
def HM.sub{K:qM}(h:HM K H M')(s:qJ M M'):HM K H M:=λa c q=>h a c (s a c q)
def U6{st:sK}{sp:rO}(F:Pz K x qual st f fd)(S:tT N ps (qz st))(len:∀ds M Q,sp ds M Q->ds.length=ps.length) (Ye:∀(X2:Vl) (A:Ar) (outer:T0 Env) (s:Sd) (H:Hp) (E:XK),sJ k (A.deeper (dL qual (qz st) s.heap.objs.size f X2))->
   ∃t,HK (vW OF P w K mg base N qual (qz st) f X2 A outer s H E).oQ (su st) t/\∀ds M Q,sp ds M Q->t {nx:=λ_ M'=>∃XU,qJ XU M'/\Q .mY XU,rt:=λd M'=>∃XU,qJ XU M'/\Q d XU} (xl N ds) M):Us P w K mg base (k+1) f fd ps sp:=by
 refine F.ok S (λvs H Q E h=>?_) (λX2 A outer s H vs Q' E hr h=>?_)
 .obtain⟨ds,M,Q,hd,_,hs,_⟩:=h;rw[<-hd.length];exact len ds M Q hs
 .obtain⟨ds,M,Q,hd,hm,hs,k⟩:=h;obtain⟨t,ht,hb⟩:=Ye X2 A outer s H E hr;exact⟨_,ht,xl N ds,M,_,Er hd,hm,hb ds M Q hs,λσ' H' δ' M' _ x2 x3 _ ⟨XU,y1,y2⟩=>k .mY H' .mY XU .mY (x2.sub y1) x3 y2,λv H' d M' x1 x2 x3 ⟨XU,y1,y2⟩=>k v H' d XU x1 (x2.sub y1) x3 y2,λ_ _ _ _ _ _ _ _ z=>z,λ_ _ _ _ _ _ _ _ z=>z⟩
theorem B8{g:DJ}{te:T3}{ok:Mp->Prop}{Q:DK}{f:D->D}{M:Mp}(J:vO->Prop)(m9:ok M):∀(ds acc:T0 D) (U:vO),J U->acc.length+ds.length<=Ch->
  (∀d∈ds,∀U,J U->∀k:vO->DK,(∀δ',J δ'->k δ' (f d) M)->g d U M λδ2 M2=>te δ2 M2 (k δ2))->(∀p,M p=Db->Q (.ref p) (pT M p (.lst (acc++ds.map f))))->vE g CJ te ok Q ds acc U M
 | [],acc,U,_,hl,_,hq=>⟨by simpa using hl,by simpa using hq⟩
 | d::r,acc,U,hj,hl,ht,hq=>by
  rw[eB]at hl;refine⟨by lia,?_⟩;refine ht d dI U hj (λδ2 y M4=>ok M4/\vE g CJ te ok Q r (acc++[y]) δ2 M4) λδ' hj'=>⟨m9,B8 (f:=f) J m9 r (acc++[f d]) δ' hj' ?_ (λe he=>ht e (dE _ he)) ?_⟩
  .rw[cZ,dQ];lia
  .simpa using hq
def rM{te:T3}{ok:Mp->Prop}{Q:DK}{f:D->D}{M:Mp}(m9:ok M):∀(ds acc:T0 D) (U:vO),acc.length+ds.length<=Ch->(∀d∈ds,∀k:DK,k (f d) M->te (U.set i (Fa d)) M k)->
  (∀p,M p=Db->Q (.ref p) (pT M p (.lst (acc++ds.map f))))->vE (sC i) CJ te ok Q ds acc U M:=λds acc U hl ht hq=>
 B8 (f:=f) (λδ'=>∀d,δ'.set i (Fa d)=U.set i (Fa d)) m9 ds acc U (λ_=>rfl) hl (λd hd δ' hj k hk=>by
  show te (δ'.set i (Fa d)) M (k (δ'.set i (Fa d)));rw[hj d];exact ht d hd _ (hk _ λe=>by rw[ja])) hq
theorem yB{α:Type}(f:α->Bool):∀l:List α,GX (l.map λx=>D.bl (f x))=Fa (l.map f)
 | []=>rfl
 | x::r=>by show(GX (r.map λx=>D.bl (f x))).map (f x::·)=_;rw[yB f r];rfl
def pR{p:Uf}{ds:T0 D}:pq (pT M p (.lst ds)) p=Fa ds:=by unfold pq;rw[qh]
def i'{α:Type}{o:Option α}{P:α->Prop}{x:α}(e:o=Fa x)(h:P x):o.elim False P:=by rw[e];exact h
def pI{l:T0 D}(h:decide (l.length<=100)=pc):l.length<=Ch:=by have z:=dP;have:=fH h;lia
theorem BU{g:DJ}{tb:yo}{ok:Mp->Prop}{E:Ht}(J:vO->Mp->Prop)(m9:∀U M,J U M->ok M):∀(ds:T0 D) (U:vO) (M:Mp),J U M->
  (∀d∈ds,∀U M,J U M->∀nx:vO->Mp->Prop,(∀δ' M',J δ' M'->nx δ' M')->g d U M λδ2 M2=>tb {E with nx:=nx,ct:=nx,bk:=E.nx} δ2 M2)->(∀U M,J U M->E.nx U M)->Fy g tb ok E ds U M
 | [],U,M,j,_,hn=>hn U M j
 | d::r,U,M,j,ht,hn=>ht d dI U M j (λδ' M'=>ok M'/\Fy g tb ok E r δ' M') λδ' M' j'=>⟨m9 δ' M' j',BU J m9 r δ' M' j' (λe he=>ht e (dE _ he)) hn⟩
theorem vg{g:DJ}{tb:yo}{ok:Mp->Prop}{E:Ht}(all:T0 D)(J:T0 D->vO->Mp->Prop)(m9:∀p U M,J p U M->ok M):∀(ds pre:T0 D) (U:vO) (M:Mp),pre++ds=all->J pre U M->
  (∀pre d post,pre++d::post=all->∀U M,J pre U M->∀nx:vO->Mp->Prop,(∀δ' M',J (pre++[d]) δ' M'->nx δ' M')->g d U M λδ2 M2=>tb {E with nx:=nx,ct:=nx,bk:=E.nx} δ2 M2)->(∀U M,J all U M->E.nx U M)->Fy g tb ok E ds U M
 | [],pre,U,M,e,j,_,hn=>hn U M (by rw[<-e,eN];exact j)
 | d::r,pre,U,M,e,j,ht,hn=>ht pre d r e U M j (λδ' M'=>ok M'/\Fy g tb ok E r δ' M') λδ' M' j'=>⟨m9 _ δ' M' j',vg all J m9 r (pre++[d]) δ' M' (by rw[<-e,eM];rfl) j' ht hn⟩
def Ny{K:qM}{t:Vl}:W.kitOne K t t=Fa pc:=by unfold W.kitOne;rw[dg (by simp)]
def T7{K:qM}{t c:Vl}{b:Bool}(h:W.kitCls K t c=Fa b)(ne:b=lf->(t==c)=lf):W.kitOne K t c=Fa b:=by
 unfold W.kitOne;by_cases e:(t==c)=pc
 .rw[dg e];cases b with
  | true=>rfl
  | false=>rw[ne Z']at e;cases e
 .rw[de e];exact h
def TB{K:qM}{t:Vl}{b:Bool}(m:W.kitMeta T=pc)(s:W.subIn K t (.type T)=Fa b)(ne:b=lf->(t==.type T)=lf):W.kitOne K t (.type T)=Fa b:=by refine T7 ?_ ne;unfold W.kitCls;simp only;rw[dg m];exact s
def TU:W.kitMeta "str"=pc:=by decide+kernel
def NW{c:Bool}{A B:Prop}(h:c=lf)(hb:B):if c=pc then A else B:=by subst h;exact O8 hb
def Bw{c:Bool}{A B:Prop}(h:c=pc)(ha:A):if c=pc then A else B:=by subst h;exact LG ha
def Rq{t u:yo}{E:Ht}{U:vO}{M:Mp}(R:vO->Mp->Prop)(h2:∀nx:vO->Mp->Prop,(∀δ' M',R δ' M'->nx δ' M')->t {E with nx:=nx} U M)(h1:∀δ' M',R δ' M'->u E δ' M'):vc t u E U M:=h2 (u E) h1
def Vw{K:qM}{ns:T0 Int}(hO:Oj H)(hS:zJ K H a (ns.map V.int)):sj K H (.rl (ns.map D.int)) (.ref a):=by
 have r:PM K H a (ns.map V.int):=by
  rcases hS with h|h
  .rcases h with h|⟨o,h⟩
   .rcases hO a with z|⟨o,xs,z⟩<;>(rw[h]at z;cases z)
   .exact .inl ⟨o,h⟩
  .exact .inr h
 unfold sj;exact⟨a,_,Z',r,.ints⟩
def Si{K:qM}{sp:rO}{ns:T0 Int}(hO:Oj H)(hS:zJ K H a (ns.map V.int))(h:sp [.rl (ns.map D.int)] (λ_=>Db) λd _=>d=.bl pc):OH K sp [.ref a] H (λv _=>v=.bl pc) λ_ _ _=>False:=
 ⟨_,λ_=>Db,_,.cons (Vw hO hS) .nil,λ_ _ z=>(by cases z),h,λv H' d M' x1 _ _ x4=>by subst x4;exact x1.mX⟩
def NB{l:W.OpenLaw}{q:Pg}{YE:QQQ}{XP:(QQZ)->No->Prop}{YP:Wo->No->Prop}{d:DefRec}{K:Params->qM}{x:Str}{sp:rO}(hn:l.most=Fa 63)(hdf:d.params.defaults=[])(hr:sJ k callerA) (hY:∀(w:Wo) (h:No),YP w h->(K w.params).In h) (Zk:∀ns:T0 Int,ns.length<=63->sp [.rl (ns.map D.int)] (λ_=>Db) λd _=>d=.bl pc) (F:∀(w:Wo) (mg:QQZ) (fa:Uf) (h:No),(K w.params).In h->h.Ns xz mg->mg d.name=Fa (.ref fa)->
   ∃fd:sB,(∀(s:Sd) (u:Vl),BindsTo s fd ⟨[u],[]⟩ [(x,u)])/\∀base:No,(K w.params).In base->base.Ns xz mg->Us l.prog w (K w.params) mg base k fa fd [x] sp):
  W.WalkO q YE XP YP l.row.toRowW d [] (λf vs=>PySem.call f vs):=
 L2.PZ (n:=63) (k:=k) (x:=x) (CX:=λ_=>OF) (sp:=λw=>OH (K w.params) sp) hn (by decide) hdf hr hY F (λ_ _ a ns hl hO hS=>Si hO hS (Zk ns hl)) λ_ _ _ _ _ z=>z
def KD(K:qM)(mg:QQZ)(x:Str)(d:D):Prop:=CP λv u=>mg x=Fa u/\rb v u/\∀H,sj K H d v
def RY{K:qM}{mg:QQZ}{x y:Str}{t:Tok}(h:mg x=Fa (.str y t)):KD K mg x (.str y):=⟨.str y,_,h,⟨t,Z'⟩,λ_=>.str⟩
def wV{K:qM}{mg:QQZ}{x:Str}{y:Int}{t:Tok}(h:mg x=Fa (.int y t)):KD K mg x (.int y):=⟨.int y,_,h,⟨t,Z'⟩,λ_=>.int⟩
def uR{K:qM}{a:Uf}{ss:QQQ}{us:T0 Vl}{n:Nat}{sl:Array (Option Vl)}(h:K.lookup a=Fa ⟨.type "tuple",Db,.seq us.toArray n,sl⟩)(r:qT (ss.map V.str) us)(hz:us.length<=1000):vA K (λ_=>Db) a (ss.map V.str):=
 .inr ⟨_,us.toArray,n,h,Z',Z',Z',by rw[dB,dP];lia,by simpa using r⟩
theorem AQ{K:qM}:∀{ss:QQQ},qF K H (ss.map D.str) (ss.map V.str)
 | []=>.nil
 | _::_=>.cons .str AQ
def Q1{K:qM}{mg:QQZ}{x:Str}{a:Uf}{ss:QQQ}(h:mg x=Fa (.ref a))(q:vA K (λ_=>Db) a (ss.map V.str)):KD K mg x (.tup (ss.map D.str)):=
 ⟨.ref a,_,h,Z',λ_=>.tup (JK q) AQ⟩
variable {d:D}{i:Go}{td tk:T3}{F:T0 (Str × QQQ)}
def tz(hg:Gl X x)(h:KD X.K X.mg x d)(hd:zm x:=by decide):E3 X (.Name x pos) (c3 d):=by obtain⟨v,u,hm,r,hh⟩:=h;exact PE.mono (FP hg hm r hd) λY H Q' zz=>x7 zz λU M Q hs hm ht k=>k _ H _ M (hh H) hm .refl ht
def WR(F:T0 (Str×QQQ))(ta:T3):T3:=λU M Q=>ta U M λx M1=>match x with|.str k=>Q (.bl (KTD.datumAt k F).isSome) M1|_=>False
def UB(F:T0 (Str×QQQ))(ta:T3):T3:=λU M Q=>ta U M λx M1=>match x with|.str k=>(KTD.datumAt k F).elim False λss=>Q (.tup (ss.map D.str)) M1|_=>False
def Ni(T:ND X.K X.mg x F)(hg:Gl X x)(he:E3 X e ta)(hd:zm x:=by decide)(hmk:wT .In (.Name x p)=lf:=by rfl):E3 X (.Compare e [.In] [.Name x p] pos) (WR F ta):=by
 obtain⟨a,hm,T⟩:=Hk T;refine PE.mono (Jh (r:=λy z H Q=>∃k,y=.str k/\z=.ref a/\Q (.bl (KTD.datumAt k F).isSome) H) (λXN s Y H y z v u Q I ry rz ⟨k,e1,e2,q⟩=>?_) he (FP (v:=.ref a) hg hm Z' hd) hmk) λY H Q' zz=>x7 zz λU M Q hs hm ht k=>⟨U,M,_,hs,hm,ht,λv H1 d M1 hd XQ e1 q1=>?_⟩
 .subst e1 e2;obtain⟨t,rfl⟩:=ry;obtain rfl:u=Value.ref a:=rz;exact TC (T s.heap I.nA) ⟨.bl (KTD.datumAt k F).isSome,H,I.tok _,Z',q⟩
 .cases d with
  | str k'=>exact⟨k',hd.str_inv,Z',k _ _ _ _ .bl XQ e1 q1⟩
  | _=>exact q1.elim
def Kn(T:ND X.K X.mg x F)(hg:Gl X x)(he:E3 X e ta)(hd:zm x:=by decide)(hs:B2 e:=by exact λ_ _=>rfl):E3 X (.Subscript (.Name x p) e pos) (UB F ta):=by
 obtain⟨a,hm,T⟩:=Hk T;refine PE.mono (NU (r:=λz y H Q=>∃k ss,y=.str k/\z=.ref a/\KTD.datumAt k F=Fa ss/\∀t,vA X.K H t (ss.map V.str)->Q (.ref t) H) (λvalue X3 XN s Y H z y o i Q I rz ry ⟨k,ss,e1,e2,e3,q⟩ hs=>?_) (FP (v:=.ref a) hg hm Z' hd) he hs) λY H Q' zz=>x7 zz λU M Q hs hm ht k=>⟨U,M,_,hs,hm,ht,λv H1 d M1 hd XQ e1 q1=>?_⟩
 .subst e1 e2;obtain⟨t,rfl⟩:=ry;obtain rfl:o=Value.ref a:=rz;have hT:=zr (s:=s) (T s.heap I.nA);have h2:pi (Tk X.prog X.w) X.A (XXe (.ref a) (.str k t)) (EP X XN Y Q) X.xe s:=Np (T s.heap I.nA) e3 λv ⟨t',e4,q4⟩=>⟨.ref t',H,I.tok _,e4,q t' (JK q4)⟩;unfold subscriptTail;refine cX ?_;rw[km hT.not_modules];refine cX (iX hT jC.lookup ?_);have XT:pi (Tk X.prog X.w) X.A (subscripted X3 lf (.ref a) (.str k t)) (λr s₃=>pi (Tk X.prog X.w) X.A (letTemporaryGo value (.ref a) r>>=λ_=>pure r) (EP X XN Y Q) X.xe s₃) X.xe s:=by rw[hs];exact wpAny_operating (eD h2 (λr s₃ h₃=>cX (kC (dq h₃))) λ_ _ x=>x)
  first
   | exact dq (cX XT)
   | exact cX (dq (cX XT))
   | exact cX XT
 .cases d with
  | str k'=>obtain⟨ss,e4,q2⟩:=rD q1;exact⟨k',ss,hd.str_inv,Z',e4,λt qt=>k _ _ _ _ (.tup qt AQ) XQ e1 q2⟩
  | _=>exact q1.elim
noncomputable def Aw(M:Mp)(a:Uf):Option (T0 (rP×D)):=match M a with
 | some (.dk kvs)=>Fa kvs
 | _=>Db
noncomputable def wk(kvs:T0 (rP×D))(k:rP):Option D:=(kvs.find? λp=>decide (p.1=k)).map (·.2)
def Dd{K:qM}{kvs:T0 (rP×D)}(hm:HM K H M)(h:Aw M a=Fa kvs):∃vs,H a=Fa (.dK vs)/\vs.map (·.1)=kvs.map (·.1)/\qF K H (kvs.map (·.2)) (vs.map (·.2)):=by
 unfold Aw at h;cases e:M a with
 | none=>rw[e]at h;cases h
 | some c=>
  rw[e]at h;have ok:=hm a c e;cases c with
  | dk es=>cases h;exact ok
  | ins _ _=>cases h
  | lst _=>cases h
  | exc _=>cases h
theorem Fb{K:qM}{k:rP}:∀{kvs:T0 (rP×D)} {vs:T0 (rP×V)},vs.map (·.1)=kvs.map (·.1)->qF K H (kvs.map (·.2)) (vs.map (·.2))->(∀d,wk kvs k=Fa d->∃v,xy vs k=Fa v/\sj K H d v)/\(wk kvs k=Db->xy vs k=Db)
 | [],[],_,_=>⟨λd z=>(by cases z),λ_=>rfl⟩
 | [],_::_,e,_=>by cases e
 | _::_,[],e,_=>by cases e
 | (j,d)::kvs,(j',v)::vs,e,h=>by
  have e1:j'=j:=by simpa using(gQ e).1
  subst e1;obtain⟨x,r,e2,h1,h2⟩:=h.inv;obtain⟨e3,e4⟩:=gQ e2;subst e3 e4;have ih:=Fb (k:=k) (kvs:=kvs) (vs:=vs) (gQ e).2 h2;by_cases hk:j'=k
  .have g:wk ((j',d)::kvs) k=Fa d:=by simp[wk,hk]
   have g':xy ((j',v)::vs) k=Fa v:=by simp[xy,hk]
   rw[g,g'];exact⟨λd' z=>by cases z;exact⟨v,Z',h1⟩,λz=>by cases z⟩
  .have g:wk ((j',d)::kvs) k=wk kvs k:=by simp[wk,hk]
   have g':xy ((j',v)::vs) k=xy vs k:=by simp[xy,hk]
   rw[g,g'];exact ih
def NZ(x y:D)(M:Mp)(Q:DK):Prop:=match x,y with
 | .ref a,.str k=>(Aw M a).elim False λkvs=>(wk kvs (.inr k)).elim False λd=>Q d M
 | _,_=>False
def VS(td tk:T3):T3:=λU M Q=>td U M λx M1=>tk U M1 λy M2=>NZ x y M2 Q
def zQ(hu:X.A.units+9<Y')(ho:E3 X o td)(hi:E3 X i tk)(hs:B2 i:=by exact λ_ _=>rfl):E3 X (.Subscript o i pos) (VS td tk):=by
 refine PE.mono (NU (r:=R3 X.K NZ) (λvalue X3 XN s Y H vx vy v u Q' I rx ry h hs=>?_) ho hi hs) HP;obtain⟨x,y,M,Q,hx,hy,hm,q,k⟩:=h;unfold NZ at q;split at q
 .rename_i a0 k0;obtain⟨kvs,e1,q⟩:=rD q;obtain⟨d,e2,q⟩:=rD q;cases hx.mU;cases hy.str_inv;obtain⟨vs,h1,h2,h3⟩:=Dd hm e1;obtain⟨w,e3,hw⟩:=(Fb h2 h3).1 d e2;refine QN (by lia) value X3 XN s Y H _ _ v u Q' I rx ry ⟨_,w,Z',?_,k _ _ _ _ hw hm .refl q⟩ hs;have g:=Fg.k (k:=Sum.inr k0) h1;rw[e3]at g;exact g
 .exact q.elim
def Ti(Zq:Bool)(x y:D)(M:Mp)(Q:DK):Prop:=match x,y with
 | .str k,.ref a=>(Aw M a).elim False λkvs=>Q (.bl (if Zq then !(wk kvs (.inr k)).isSome else(wk kvs (.inr k)).isSome)) M
 | _,_=>False
def Nj{K:qM}{k:rP}{kvs:T0 (rP×D)}{vs:T0 (rP×V)}(h2:vs.map (·.1)=kvs.map (·.1))(h3:qF K H (kvs.map (·.2)) (vs.map (·.2))):(xy vs k).isSome=(wk kvs k).isSome:=by
 obtain⟨a,b⟩:=Fb (k:=k) h2 h3;cases e:wk kvs k with
 | none=>rw[b e];rfl
 | some d=>obtain⟨v,e3,_⟩:=a d e;rw[e3];rfl
def W4(Zq:Bool)(tk td:T3):T3:=λU M Q=>tk U M λx M1=>td U M1 λy M2=>Ti Zq x y M2 Q
def Uy(hu:X.A.units+9<Y'):yj X (Ps .In) (R3 X.K (Ti lf)):=λXN s Y H vx vy v u Q' I rx ry h=>by
 obtain⟨x,y,M,Q,hx,hy,hm,q,k⟩:=h;unfold Ti at q;split at q
 .obtain⟨kvs,e1,q⟩:=rD q;cases hy.mU;cases hx.str_inv;obtain⟨vs,h1,h2,h3⟩:=Dd hm e1;refine Sl (by lia) XN s Y H _ _ v u Q' I rx ry ⟨_,_,Z',Fg.k (k:=Sum.inr _) h1,?_⟩;rw[Nj h2 h3];exact k _ _ _ _ .bl hm .refl q
 .exact q.elim
def LK(hu:X.A.units+9<Y')(hi:E3 X i tk)(ho:E3 X o td)(hm:wT .In o=lf:=by first|exact HW _|with_unfolding_all rfl):B3 X (.Compare i [.In] [o] pos) (b3 (W4 lf tk td)):=PT.mono (JV (Uy hu) hi ho hm) λY H Q' zz=>x7 zz λU M Q hs hm ht k=>
 HP Y H _ ⟨U,M,_,hs,hm,ht,λv H1 d M1 hd XQ e1 q1=>by
  cases d with
  | bl c=>exact⟨c,hd.mX,k c H1 M1 XQ e1 q1⟩
  | _=>exact q1.elim⟩
noncomputable def xu:T0 D->Option (T0 (rP×D))
 | []=>Fa []
 | .tup [.str k,d]::r=>(xu r).map ((.inr k,d)::·)
 | _::_=>Db
theorem EK{K:qM}:∀{es:T0 D} {kvs:T0 (rP×D)} {xs:T0 V},xu es=Fa kvs->qF K H es xs->∃(ts:QXQ) (vs:T0 (rP×V)),xs=ts.map V.ref/\ts.length=vs.length/\vs.map (·.1)=kvs.map (·.1)/\qF K H (kvs.map (·.2)) (vs.map (·.2))/\
  ∀(j:Nat) (t:Uf) (p:rP×V),ts[j]?=Fa t->vs[j]?=Fa p->vA K H t [kV p.1,p.2]
 | [],_,_,e,h=>by cases e;exact⟨[],[],h.nil_inv,Z',Z',.nil,λj t p z=>by simp at z⟩
 | d::es,kvs,xs,e,h=>by
  obtain⟨x,r,rfl,h1,h2⟩:=h.inv;unfold xu at e;split at e
  .rename_i z;cases z
  .rename_i k d' r' z;cases z;cases q:xu es with
   | none=>rw[q]at e;cases e
   | some kvs'=>
    rw[q]at e;cases e;obtain⟨ts,vs,e1,e2,e3,e4,e5⟩:=EK q h2;obtain⟨a,ys,rfl,g1,g2⟩:=h1.mZ;obtain⟨y,r1,rfl,g3,g4⟩:=g2.inv;obtain⟨w,r2,rfl,g5,g6⟩:=g4.inv;cases g6.nil_inv;cases g3.str_inv;refine⟨a::ts,(.inr k,w)::vs,by rw[e1];rfl,by simpa using e2,by rw[dY,dY,e3],.cons g5 e4,λj t p z1 z2=>?_⟩;cases j with
    | zero=>
     have z1':a=t:=by simpa using z1
     have z2':(Sum.inr k,w)=p:=by simpa using z2
     subst z1' z2';exact g1
    | succ j=>exact e5 j t p (by simpa using z1) (by simpa using z2)
  .cases e
def RA(ds:T0 D)(M:Mp)(Q:DK):Prop:=match ds with
 | [.ref a]=>(pq M a).elim False λes=>(xu es).elim False λkvs=>(kvs.map (·.1)).Nodup/\∀p,M p=Db->Q (.ref p) (pT M p (.dk kvs))
 | _=>False
def E2(hc:X.calm=pc):C3 X (.type "dict") RA:=by
 intro XN s Y H vs us Q' I rv h;obtain⟨ds,M,Q,hd,hm,q,k⟩:=h;unfold RA at q;split at q
 .obtain⟨es,e1,q⟩:=rD q;obtain⟨kvs,e2,hnd,q⟩:=rD q;obtain⟨v,rfl,hv⟩:=sG hd;cases hv.mU;obtain⟨xs,h1,h2,_⟩:=qO hm e1;obtain⟨ts,ws,rfl,f2,f3,f4,f5⟩:=EK e2 h2;refine Iy hc XN s Y H _ us Q' I rv ⟨_,ts,ws,Z',h1,f2,f5,by rw[f3];exact hnd,λd hd=>?_⟩;have e:rA X.K H (upd H d (.dK ws)):=.new hd;exact k _ _ _ _ .ref (hm.new (c:=.dk kvs) hd ⟨_,qC,f3,f4.mono e⟩) e (q d (hm.fresh hd))
 .exact q.elim
def Te:zn "set"=Fa (.type "set"):=by decide+kernel
noncomputable def B':T0 D->Option (QQQ)
 | []=>Fa []
 | .str x::r=>(B' r).map (x::·)
 | _::_=>Db
theorem Ds:∀ss:QQQ,B' (ss.map D.str)=Fa ss
 | []=>rfl
 | x::r=>by show(B' (r.map D.str)).map (x::·)=_;rw[Ds r];rfl
theorem GS{K:qM}:∀{ds:T0 D} {ss:QQQ} {xs:T0 V},B' ds=Fa ss->qF K H ds xs->xs=ss.map V.str
 | [],_,_,e,h=>by cases e;exact h.nil_inv
 | d::ds,_,_,e,h=>by
  obtain⟨x,r,rfl,h1,h2⟩:=h.inv;cases d with
  | str z=>
   unfold B' at e;cases q:B' ds with
   | none=>rw[q]at e;cases e
   | some ss=>rw[q]at e;cases e;rw[h1.str_inv,GS q h2];rfl
  | _=>cases e
def VW(ta:T3):T3:=λU M Q=>ta U M λx M1=>(Ox M1 x).elim False λes=>(B' es).elim False λss=>ss.length<4000/\Q (.int (tN ss).length) M1
def Kb(hc:X.calm=pc)(he:E3 X e ta)(hg1:Gl X "len")(XQ:X.mg "len"=Db)(hg2:Gl X "set")(X6:X.mg "set"=Db)(b1:zn "len"=Fa (.builtin "len"))(b2:zn "set"=Fa (.type "set")) (hs:Tl [e] X.env=[(lf,wp e X.env)]:=by rfl):E3 X (.Call (.Name "len" p) [.Call (.Name "set" p2) [e] [] ZE] [] pos) (VW ta):=
 PE.mono (K1 hc he hg1 XQ hg2 X6 b1 b2 hs) λY H Q' zz=>x7 zz λU M Q hs hm ht k=>⟨U,M,_,hs,hm,ht,λv H1 d M1 hd XQ e1 q1=>by
  obtain⟨es,e2,q1⟩:=rD q1;obtain⟨ss,e3,hz,q1⟩:=rD q1;obtain⟨a,xs,rfl,h1,h2⟩:=FW XQ hd e2;rw[GS e3 h2]at h1;have z:XXa=4096:=rfl;exact⟨a,ss,Z',h1,by lia,k _ _ _ _ .int XQ e1 q1⟩⟩
def R1(x:D)(ds:T0 D)(M:Mp)(Q:DK):Prop:=match x,ds with
 | .ref a,[y]=>(pq M a).elim False λes=>es.length<Ch/\Q .mY (pT M a (.lst (es++[y])))
 | _,_=>False
def ql{es:T0 D}(h:pq M a=Fa es):M a=Fa (.lst es):=by
 unfold pq at h;split at h
 .rename_i e;rw[e];cases h;rfl
 .cases h
def Gf{K:qM}{es:T0 D}(hm:HM K H M)(h:pq M a=Fa es):∃xs,H a=Fa (.lst xs)/\qF K H es xs:=hm a _ (ql h)
def KA:M3 X "list.append" R1:=by
 intro XN s Y H vx vs v us Q' I rx rv h;obtain⟨x,ds,M,Q,hx,hd,hm,q,k⟩:=h;unfold R1 at q;split at q
 .obtain⟨es,e1,hz,q⟩:=rD q;obtain⟨w,rfl,hw⟩:=sG hd;cases hx.mU;obtain⟨xs,h1,h2⟩:=Gf hm e1;refine KS XN s Y H _ _ v us Q' I rx rv ⟨_,xs,w,Z',Z',h1,by rw[<-h2.length];exact hz,?_⟩;obtain⟨X6,ex⟩:=hm.put (c:=.lst (es++[_])) (ql e1) λex=>⟨_,qC,(h2.mono ex).snoc (hw.mono ex)⟩;exact k _ _ _ _ .mY X6 ex q
 .exact q.elim
def rk(ho:E3 X o ta)(ha:A3 X (e::es) t)(X5:Rs o "append" X.env (wp o X.env)=wp o X.env:=by rfl)
  (Yr:((wv pos (Tl (e::es) X.env)).all (λx=>!x.1)&&(TD pos (Op [] X.env)).all (λx=>x.1.isSome)&&decide ((e::es).length+([]:T0 IN).length+(if ([]:T0 IN).isEmpty then 0 else 1)<30))=pc:=by rfl)
  (Yf:(XS.endLine==pos.line)=pc:=by rfl) (hs:Bt X e es:=by rfl) (X0:Cg X pos es:=by rfl):
  E3 X (.Call (.Attribute o "append" XS) (e::es) [] pos) (Xd R1 ta t):=RD PySem.F.slot_list_append PySem.F.type_list_append KA ho ha X5 Yr Yf hs X0
def qJ.none{M M2:Mp}{q:Uf}(s:qJ M M2)(h:M2 q=Db):M q=Db:=by
 cases e:M q with
 | none=>rfl
 | some c=>rw[s q c e]at h;cases h
def qJ.upd{M M2:Mp}{c:uG}(s:qJ M M2):qJ (pT M q c) (pT M2 q c):=λx d h=>by
 by_cases e:x=q
 .subst e;rw[qh]at h ⊢;exact h
 .rw[uW e]at h ⊢;exact s x d h
def qJ.dk{ds:T0 (rP×D)}(s:qJ M M')(h:Aw M a=Fa ds):Aw M' a=Fa ds:=by
 unfold Aw at h ⊢;cases e:M a with
 | none=>rw[e]at h;cases h
 | some c=>rw[s a c e];rw[e]at h;exact h
def sy(p:Uf)(M M':Mp):Prop:=∀b c,b≠p->M b=Fa c->M' b=Fa c
def qJ.keep{p:Uf}(s:qJ M M'):sy p M M':=λb c _ h=>s b c h
def sy.trans{M M1 M2:Mp}{p:Uf}(a:sy p M M1)(b:sy p M1 M2):sy p M M2:=λx c n h=>b x c n (a x c n h)
def sy.put{p:Uf}{c:uG}:sy p M (pT M p c):=λb d n h=>by rw[uW n];exact h
def sy.lst{p a:Uf}{ds:T0 D}(k:sy p M M')(n:a≠p)(h:pq M a=Fa ds):pq M' a=Fa ds:=by have:=k a _ n (ql h);unfold pq;rw[this]
def sy.dk{p a:Uf}{ds:T0 (rP×D)}(k:sy p M M')(n:a≠p)(h:Aw M a=Fa ds):Aw M' a=Fa ds:=by
 unfold Aw at h ⊢;cases e:M a with
 | none=>rw[e]at h;cases h
 | some c=>rw[k a c n e];rw[e]at h;exact h
def qr{a p C:Uf}{ds:T0 D}{fs:T0 (Str×D)}(h:pq M a=Fa ds)(hp:M p=Fa (.ins C fs)):a≠p:=λz=>by subst z;rw[ql h]at hp;cases hp
def CB{a p C:Uf}{ds:T0 (rP×D)}{fs:T0 (Str×D)}(h:Aw M a=Fa ds)(hp:M p=Fa (.ins C fs)):a≠p:=λz=>by subst z;unfold Aw at h;rw[hp]at h;cases h
def rR{M:Mp}{p:Uf}{ds:T0 D}(h:M p=Fa (.lst ds)):pq M p=Fa ds:=by unfold pq;rw[h]
def Du{M:Mp}{p:Uf}{ds:T0 (rP×D)}(h:M p=Fa (.dk ds)):Aw M p=Fa ds:=by unfold Aw;rw[h]
def tS{N:Mp}{p q C:Uf}{fs fs':T0 (Str×D)}{c:uG}(hp:N p=Fa (.ins C fs))(hq:N q=Db):
  q≠p/\pT N q c p=Fa (.ins C fs)/\sy p N (pT (pT N q c) p (.ins C fs'))/\pT (pT N q c) p (.ins C fs') q=Fa c/\pT (pT N q c) p (.ins C fs') p=Fa (.ins C fs'):=by
 have n:p≠q:=OJ hp hq;refine⟨dS n,by rw[uW n];exact hp,(qJ.new hq).keep.trans .put,by rw[uW (dS n),qh],qh⟩
theorem Ge{g:DJ}{te:T3}{ok:Mp->Prop}{Q:DK}(all:T0 D)(J:T0 D->T0 D->vO->Mp->Prop)(m9:∀p acc U M,J p acc U M->ok M):∀(ds pre acc:T0 D) (U:vO) (M:Mp),pre++ds=all->acc.length+ds.length<=Ch->J pre acc U M->
  (∀pre d post,pre++d::post=all->∀acc U M,J pre acc U M->∀k:vO->DK,(∀δ2 y M4,J (pre++[d]) (acc++[y]) δ2 M4->k δ2 y M4)->g d U M λδ2 M2=>te δ2 M2 (k δ2))->
  (∀acc U M,J all acc U M->∀p,M p=Db->Q (.ref p) (pT M p (.lst acc)))->vE g CJ te ok Q ds acc U M
 | [],pre,acc,U,M,e,hl,j,_,hq=>⟨by simpa using hl,hq acc U M (by rw[<-e,eN];exact j)⟩
 | d::r,pre,acc,U,M,e,hl,j,ht,hq=>by rw[eB]at hl;refine⟨by lia,?_⟩;refine ht pre d r e acc U M j (λδ2 y M4=>ok M4/\vE g CJ te ok Q r (acc++[y]) δ2 M4) λδ2 y M4 j'=>⟨m9 _ _ _ _ j',Ge all J m9 r (pre++[d]) (acc++[y]) δ2 M4 (by rw[<-e,eM];rfl) ?_ j' ht hq⟩;rw[cZ,dQ];lia
noncomputable def wj:Nat->D->Bool
 | _,.mY=>pc
 | _,.bl _=>pc
 | _,.int _=>pc
 | _,.str _=>pc
 | n+1,.tup ds=>ds.all (wj n)
 | _,_=>lf
theorem zF{f:D->D->Option Bool}:∀ds:T0 D,(∀d∈ds,f d d=Fa pc)->tG f ds ds=Fa pc
 | [],_=>rfl
 | d::r,h=>by show(f d d).bind (λp=>(tG f r r).map λq=>p&&q)=Fa pc;rw[h d dI,zF r λe he=>h e (dE _ he)];rfl
theorem GE:∀(n:Nat) (d:D),wj n d=pc->zK M (n+1) d d=Fa pc
 | _,.mY,_=>rfl
 | _,.bl _,_=>by simp[zK]
 | _,.int _,_=>by simp[zK]
 | _,.str _,_=>by simp[zK]
 | n+1,.tup ds,h=>by have h:ds.all (wj n)=pc:=h;show(tG (zK M (n+1)) ds ds).map (λp=>p&&ds.length==ds.length)=Fa pc;rw[zF ds λd hd=>GE n d (eS.mp h d hd)];simp
 | 0,.tup _,h=>by cases h
 | 0,.ref _,h=>by cases h
 | _+1,.ref _,h=>by cases h
 | 0,.ty _,h=>by cases h
 | _+1,.ty _,h=>by cases h
 | 0,.rl _,h=>by cases h
 | _+1,.rl _,h=>by cases h
def Kh{ds:T0 D}(ha:pq M a=Fa ds)(hb:pq M b=Fa ds)(h:∀d∈ds,zK M n d d=Fa pc):zK M (n+1) (.ref a) (.ref b)=Fa pc:=by show(pq M a).bind (λi=>(pq M b).bind λj=>if i.length=j.length then tG (zK M n) i j else Fa lf)=Fa pc;rw[ha,hb];show(if ds.length=ds.length then tG (zK M n) ds ds else Fa lf)=Fa pc;rw[dg Z'];exact zF ds h
def T6(tc:Bf)(tb:yo):yo:=λE U M=>∃W:Nat->vO->Mp->Prop,(∃m,W m U M)/\∀m U M,W m U M->
 tc U M λb M1=>if b=pc then tb {E with nx:=λδ' M'=>∃m',m'<m/\W m' δ' M',ct:=λδ' M'=>∃m',m'<m/\W m' δ' M',bk:=E.nx} U M1 else E.nx U M1
def MP{tc:Bf}{tb:yo}(hp:PassesOwn (Tk X.prog X.w) X.A X.env X.xe)(hc:B3 X c tc)(hb:HK X body tb):S3 X (.While c body [] pos) (T6 tc tb):=
 PS.mono (Lz hp hc hb) λD' Y H ⟨U,M,E,hs,hm,⟨W,⟨m0,w0⟩,turn⟩,k1,k2,k3,k4⟩=>by
 refine⟨λm σ' H'=>∃δ' M',zA X.K H' σ' δ'/\HM X.K H' M'/\rA X.K H H'/\σ'.length=Y.length/\W m δ' M',⟨m0,U,M,hs,hm,.refl,Z',w0⟩,?_⟩
 rintro m σ1 H1 ⟨δ1,M1,hs1,XQ,e1,l1,w1⟩
 refine⟨δ1,M1,_,hs1,XQ,turn m δ1 M1 w1,λb H2 M2 X6 e2 q2=>?_⟩;cases b with
 | false=>rw[de dC]at q2 ⊢;exact k1 σ1 H2 δ1 M2 (hs1.mono e2) X6 (e1.trans e2) l1 q2
 | true=>
  rw[dg Z']at q2 ⊢;refine⟨λσ' H'=>∃δ' M',zA X.K H' σ' δ'/\HM X.K H' M'/\rA X.K H H'/\σ'.length=Y.length/\∃m',m'<m/\W m' δ' M',?_,δ1,M2,_,hs1.mono e2,X6,q2,?_,?_,?_,?_⟩
  .rintro σ' H' ⟨δ',M',a1,a2,a3,a4,m',lt,w⟩
   exact⟨m',lt,δ',M',a1,a2,a3,a4,w⟩
  .exact λσ' H' δ' M' y1 y2 y3 y4 y5=>⟨δ',M',y1,y2,e1.trans (e2.trans y3),by rw[y4,l1],y5⟩
  .exact λv H' d M' y1 y2 y3 y4=>k2 v H' d M' y1 y2 (e1.trans (e2.trans y3)) y4
  .exact λσ' H' δ' M' y1 y2 y3 y4 y5=>k1 σ' H' δ' M' y1 y2 (e1.trans (e2.trans y3)) (by rw[y4,l1]) y5
  .exact λσ' H' δ' M' y1 y2 y3 y4 y5=>⟨δ',M',y1,y2,e1.trans (e2.trans y3),by rw[y4,l1],y5⟩
noncomputable def Td(op:XYa)(x y:D):Option D:=match op,x,y with
 | .Add,.int i,.int j=>Fa (.int (i+j))
 | .Sub,.int i,.int j=>Fa (.int (i - j))
 | _,_,_=>Db
def TH(op:XYa):V->V->Hp->VK->Prop:=λvx vy H Q=>match op,vx,vy with
 | .Add,.int i,.int j=>Q (.int (i+j)) H
 | .Sub,.int i,.int j=>Q (.int (i - j)) H
 | _,_,_=>False
def SC:Rc X op (TH op):=by
 intro XN s Y H x y u v Q I rx ry h;unfold TH at h;split at h
 .exact R6 XN s Y H _ _ u v Q I rx ry ⟨_,_,Z',Z',h⟩
 .exact S' XN s Y H _ _ u v Q I rx ry ⟨_,_,Z',Z',h⟩
 .exact h.elim
def PY{K:qM}{x y z:D}{Q:VK}(hx:sj K H x vx)(hy:sj K H y vy)(e:Td op x y=Fa z)(k:∀vz,sj K H z vz->Q vz H):TH op vx vy H Q:=by
 unfold Td at e;split at e
 .cases e;cases hx.int_inv;cases hy.int_inv;exact k _ .int
 .cases e;cases hx.int_inv;cases hy.int_inv;exact k _ .int
 .cases e
def UG(K:qM)(f:Str)(op:XYa)(ta tv:T3):yo:=λE U M=>ta U M λx M1=>match x with
 | .ref a=>AG (M1 a) λC fs=>uI K C f/\(fs.lookup f).elim False λd=>tv U M1 λy M2=>(Td op d y).elim False λz=>AG (M2 a) λC' fs'=>C'=C/\fs'.length<1000/\E.nx U (pT M2 a (.ins C (wN f z fs')))
 | _=>False
def Ep{f:Str}(ha:E3 X o ta)(hv:E3 X value tv):S3 X (.AugAssign (.Attribute o f ZZ) op value pos) (UG X.K f op ta tv):=
 PS.mono (Ks ha hv SC) λD' Y H zz=>Ln zz λU M E hs hm ht k1 k2 k3 k4=>
 ⟨U,M,_,hs,hm,ht,λv H1 d M1 hd XQ e1 q1=>by
  cases d with
  | ref a=>
   cases hd.mU;obtain⟨C,fs,e,q1⟩:=ye q1;obtain⟨na,q1⟩:=q1;obtain⟨d,ed,q1⟩:=rD q1;obtain⟨dx,vs,h1,cl,nn,fo⟩:=XQ a _ e;obtain⟨w,ew,hw⟩:=(xk fo).1 d ed;refine⟨a,C,dx,vs,w,Z',h1,cl,na,ew,U,M1,_,hs.mono e1,XQ,q1,λu H2 y M2 hy X6 e2 q2=>?_⟩;obtain⟨z,ez,q2⟩:=rD q2;obtain⟨C',fs',e',q2⟩:=ye q2;obtain⟨rfl,hl,q2⟩:=q2;refine PY (hw.mono e2) hy ez λvz hz=>?_;obtain⟨dx',vs',YA,cl',nn',fo'⟩:=X6 a _ e';have XW:vs'.length=fs'.length:=by have:=eY List.length fo'.1;simpa using this
   refine⟨dx',vs',YA,by lia,?_⟩;obtain⟨YL,e3⟩:=X6.put (p:=a) (o:=.ins C' dx' (wn f vz vs')) (c:=.ins C' (wN f z fs')) e' λx=>⟨dx',_,qC,cl',λg hg=>by
    rcases Dl hg with q|q
    .rw[q];exact na
    .exact nn' g q,F9 (hz.mono x) (fo'.mono x)⟩
   exact k1 Y _ U _ (hs.mono (e1.trans (e2.trans e3))) YL (e1.trans (e2.trans e3)) Z' q2
  | _=>exact q1.elim⟩
theorem tP{i:Nat}{tt:Bf}{te:T3}{ok:Mp->Prop}{Q:DK}{f:D->D}{t:D->Bool}{M:Mp}(m9:ok M):∀(ds acc:T0 D) (U:vO),acc.length+ds.length<=Ch->
  (∀d∈ds,∀k:Bool->Mp->Prop,k (t d) M->tt (U.set i (Fa d)) M k)->(∀d∈ds,t d=pc->∀k:DK,k (f d) M->te (U.set i (Fa d)) M k)->
  (∀p,M p=Db->Q (.ref p) (pT M p (.lst (acc++(ds.filter t).map f))))->vE (sC i) tt te ok Q ds acc U M
 | [],acc,U,hl,_,_,hq=>⟨by simpa using hl,by simpa using hq⟩
 | d::r,acc,U,hl,ht,he,hq=>by
  rw[eB]at hl;refine⟨by lia,?_⟩;show tt (U.set i (Fa d)) M _;refine ht d dI _ ?_;have z:∀e:D,(U.set i (Fa d)).set i (Fa e)=U.set i (Fa e):=λe=>by rw[ja]
  cases q:t d with
  | true=>
   rw[dg Z'];refine he d dI q _ ⟨m9,tP (f:=f) (t:=t) m9 r (acc++[f d]) _ ?_ (λe m k h=>?_) (λe m h0 k h=>?_) ?_⟩
   .rw[cZ,dQ];lia
   .rw[z];exact ht e (dE _ m) k h
   .rw[z];exact he e (dE _ m) h0 k h
   .intro p hp;have:=hq p hp;rw[gF q]at this
    simpa using this
  | false=>
   rw[de dC];refine⟨m9,tP (f:=f) (t:=t) m9 r acc _ (by lia) (λe m k h=>?_) (λe m h0 k h=>?_) ?_⟩
   .rw[z];exact ht e (dE _ m) k h
   .rw[z];exact he e (dE _ m) h0 k h
   .intro p hp;have:=hq p hp;rw[gG (by rw[q];exact dC)]at this;exact this
section
variable {a:Go}
def WG(ta:T3):T3:=λU M Q=>ta U M λx M1=>match x with|.int i=>Q (.int (-i)) M1|_=>False
def zg(ha:E3 X a ta):E3 X (.UnaryOp .USub a pos) (WG ta):=PE.mono (UR TK ha) λY H Q' zz=>x7 zz λU M Q hs hm ht k=>
 ⟨U,M,_,hs,hm,ht,λv H1 d M1 hd XQ e1 q1=>by
  cases d with
  | int i=>cases hd.int_inv;exact⟨i,Z',k _ H1 _ M1 .int XQ e1 q1⟩
  | _=>exact q1.elim⟩
end
end L3
namespace L2
open PySem.W
variable {prog:Pg}{w:Wo}{A:Ar}{E:QQX}{s:Sd}
end L2
namespace L3
open L2
variable {X:Cx}{pos:Pos}{a b o i:Go}{ta tb ti to:T3}
def U7(to ti:T3):DJ:=λd U M Q=>to U M λx M1=>ti U M1 λy M2=>match x,y with
 | .ref p,.int k=>(pq M2 p).elim False λes=>(F4 es.length k).elim False λj=>Q U (pT M2 p (.lst (es.set j d)))
 | _,_=>False
theorem qF.set{K:qM}(hv:sj K H d v):∀{ds:T0 D} {xs:T0 V} (j:Nat),qF K H ds xs->qF K H (ds.set j d) (xs.set j v)
 | [],_,j,h=>by rw[h.nil_inv];simp only[List.set_nil];exact .nil
 | e::ds,_,0,h=>by obtain⟨x,r,rfl,h1,h2⟩:=h.inv;exact .cons hv h2
 | e::ds,_,j+1,h=>by obtain⟨x,r,rfl,h1,h2⟩:=h.inv;exact .cons h1 (qF.set hv j h2)
def SZ(ho:E3 X o to)(hi:E3 X i ti) (ha:∀v,assign (.Subscript o i pos) X.env v=(do
   let ov<-wE [v] (wp o X.env);let iv<-wE [v,ov] (wp i X.env)
   XXc pos
   wE [v,ov,iv] (setItem ov iv v)
   release [v,ov,iv] []):=by intro _;rfl):G3 X (.Subscript o i pos) (U7 to ti):=
 PG.mono (Uc ho hi NS ha) λv Y H Q' ⟨d,U,M,Q,hd,hs,hm,ht,k⟩=>
 ⟨U,M,_,hs,hm,ht,λvx H1 x M1 hx XQ e1 q1=>⟨U,M1,_,hs.mono e1,XQ,q1,λvy H2 y M2 hy X6 e2 q2=>by
  cases x with
  | ref p=>
   cases y with
   | int j0=>obtain⟨es,f1,q2⟩:=rD q2;obtain⟨j,f2,q2⟩:=rD q2;cases(hx.mono e2).mU;cases hy.int_inv;obtain⟨xs,h1,h2⟩:=Gf X6 f1;refine⟨p,xs,j0,j,Z',Z',h1,by rw[<-h2.length];exact f2,?_⟩;have hd2:=hd.mono (e1.trans e2);obtain⟨YL,e3⟩:=X6.put (o:=.lst (xs.set j v)) (c:=.lst (es.set j d)) (ql f1) λex=>⟨_,qC,(h2.mono ex).set (hd2.mono ex) j⟩;exact k Y _ U _ (hs.mono (e1.trans (e2.trans e3))) YL (e1.trans (e2.trans e3)) Z' q2
   | _=>exact q2.elim
  | _=>exact q2.elim⟩⟩
end L3
namespace L2
variable {prog:Pg}{w:Wo}{A:Ar}{E:QQX}{s:Sd}{X:Cx}
end L2
namespace L3
open L2
variable {X:Cx}{pos XS p:Pos}{a b o e i value:Go}{es:T0 Go}{ta tb ti to tv td tk:T3}{t:xR}
def Ue(x y:D)(M:Mp)(Q:DK):Prop:=match x,y with
 | .ref a,.int k=>(pq M a).elim False λes=>(0<=k/\k<=1000/\es.length<=1000)/\∀p,M p=Db->Q (.ref p) (pT M p (.lst (List.replicate k.toNat es).flatten))
 | _,_=>False
theorem J3{K:qM}(h:qF K H ds xs):∀n:Nat,qF K H (List.replicate n ds).flatten (List.replicate n xs).flatten
 | 0=>.nil
 | n+1=>by rw[eJ,eJ,fS,fS];exact h.append (J3 h n)
def R4:yj X (wP .Mult) (R3 X.K Ue):=λXN s Y H vx vy v u Q' I rx ry h=>by
 obtain⟨x,y,M,Q,hx,hy,hm,q,k⟩:=h;unfold Ue at q;split at q
 .obtain⟨es,e1,⟨q1,q2,q3⟩,q⟩:=rD q;cases hx.mU;cases hy.int_inv;obtain⟨xs,h1,h2⟩:=Gf hm e1;have hz:=dP;have hl:=h2.length;refine Ui XN s Y H _ _ v u Q' I rx ry ⟨_,_,xs,Z',Z',h1,by lia,by lia,?_,λpp hp=>?_⟩
  .exact d9 (ko (show xs.length<=1000 by lia) (show Int.toNat _<=1000 by lia)) (by rw[hz];decide)
  .exact k _ _ _ _ .ref (hm.new (c:=.lst _) hp ⟨_,qC,(J3 h2 _).mono (.new hp)⟩) (.new hp) (q pp (hm.fresh hp))
 .exact q.elim
def UO(ta tb:T3):T3:=λU M Q=>ta U M λx M1=>tb U M1 λy M2=>Ue x y M2 Q
def C4(ha:E3 X a ta)(hb:E3 X b tb):E3 X (.BinOp a .Mult b pos) (UO ta tb):=PE.mono (RG R4 ha hb) HP
noncomputable def Dh(kvs:T0 (rP×D))(k:rP)(v:D):T0 (rP×D):=if (kvs.any λkv=>decide (kv.1=k))=pc then kvs.map (λkv=>if kv.1=k then(kv.1,v)else kv)else kvs++[(k,v)]
theorem G4{κ α β:Type}{k:κ}[DecidableEq κ]:∀{xs:T0 (κ×α)} {ys:T0 (κ×β)},xs.map (·.1)=ys.map (·.1)->(xs.any λkv=>decide (kv.1=k))=ys.any λkv=>decide (kv.1=k)
 | [],[],_=>rfl
 | [],_::_,e=>by cases e
 | _::_,[],e=>by cases e
 | x::xs,y::ys,e=>by obtain⟨e1,e2⟩:=gQ e;rw[gk,gk,G4 e2];have e1:x.1=y.1:=e1;rw[e1]
def KH{K:qM}{k:rP}(hv:sj K H d v){kvs:T0 (rP×D)}{vs:T0 (rP×V)}(h1:vs.map (·.1)=kvs.map (·.1))(h2:qF K H (kvs.map (·.2)) (vs.map (·.2))):
  (zd vs k v).map (·.1)=(Dh kvs k d).map (·.1)/\qF K H ((Dh kvs k d).map (·.2)) ((zd vs k v).map (·.2)):=by
 have go:∀{kvs:T0 (rP×D)} {vs:T0 (rP×V)},vs.map (·.1)=kvs.map (·.1)->qF K H (kvs.map (·.2)) (vs.map (·.2))->
   (vs.map (λkv=>if kv.1=k then(kv.1,v)else kv)).map (·.1)=(kvs.map (λkv=>if kv.1=k then(kv.1,d)else kv)).map (·.1)/\qF K H ((kvs.map (λkv=>if kv.1=k then(kv.1,d)else kv)).map (·.2)) ((vs.map (λkv=>if kv.1=k then(kv.1,v)else kv)).map (·.2)):=λ{kvs}=>by
  induction kvs with
  | nil=>intro vs e h;cases vs with
   | nil=>exact⟨Z',.nil⟩
   | cons _ _=>cases e
  | cons c r ih=>intro vs e h;cases vs with
   | nil=>cases e
   | cons w ws=>
    obtain⟨e1,e2⟩:=gQ e;obtain⟨x,xr,e3,g1,g2⟩:=h.inv;obtain⟨e4,e5⟩:=gQ e3;subst e4 e5;obtain⟨i1,i2⟩:=ih e2 g2;have e1:w.1=c.1:=e1;by_cases hk:c.1=k
    .have w1:(if w.1=k then(w.1,v)else w)=(w.1,v):=dg (e1.trans hk);have w2:(if c.1=k then(c.1,d)else c)=(c.1,d):=dg hk;simp only[dY,w1,w2];exact⟨by rw[i1,e1],.cons hv i2⟩
    .have w1:(if w.1=k then(w.1,v)else w)=w:=de λz=>hk (e1.symm.trans z);have w2:(if c.1=k then(c.1,d)else c)=c:=de hk;simp only[dY,w1,w2];exact⟨by rw[i1,e1],.cons g1 i2⟩
 unfold zd Dh;rw[G4 (k:=k) h1];by_cases hk:(kvs.any λkv=>decide (kv.1=k))=pc
 .rw[dg hk,dg hk];exact go h1 h2
 .rw[de hk,de hk];exact⟨by rw[dM,dM,h1];rfl,by rw[dM,dM];exact h2.append (.cons hv .nil)⟩
def UE(td tk tv:T3):yo:=λD U M=>tv U M λv M1=>td U M1 λx M2=>tk U M2 λy M3=>match x,y with
 | .ref a,.str k=>(Aw M3 a).elim False λkvs=>kvs.length<Ch/\D.nx U (pT M3 a (.dk (Dh kvs (.inr k) v)))
 | _,_=>False
def yL{a:Uf}{kvs:T0 (rP×D)}(h:Aw M a=Fa kvs):M a=Fa (.dk kvs):=by
 unfold Aw at h;split at h
 .rename_i e;rw[e];cases h;rfl
 .cases h
def ON(hu:X.A.units+9<Y')(ho:E3 X o td)(hi:E3 X i tk)(hv:E3 X value tv)(hs:ZB value (Fa (.Subscript o i X1)) pos.line X.env=pure lf:=by rfl):S3 X (.Assign [.Subscript o i X1] value pos) (UE td tk tv):=
 PS.mono (QT (by lia) ho hi hv hs) λD' Y H zz=>Ln zz λU M D hs hm ht k1 k2 k3 k4=>
 ⟨U,M,_,hs,hm,ht,λv H1 d M1 hd XQ e1 q1=>⟨U,M1,_,hs.mono e1,XQ,q1,λvx H2 x M2 hx X6 e2 q2=>⟨U,M2,_,hs.mono (e1.trans e2),X6,q2,λvy H3 y M3 hy YL e3 q3=>by
  split at q3
  .rename_i a0 k0;obtain⟨kvs,f1,f2,q3⟩:=rD q3;cases(hx.mono e3).mU;cases hy.str_inv;obtain⟨vs,h1,h2,h3⟩:=Dd YL f1;have hl:vs.length=kvs.length:=by have:=eY List.length h2;simpa using this
   refine⟨_,_,Z',Oh.k (k:=Sum.inr k0) h1 (by lia),?_⟩;have hd3:=hd.mono (e2.trans e3);obtain⟨hm4,e4⟩:=YL.put (o:=.dK (zd vs (Sum.inr k0) v)) (c:=.dk (Dh kvs (.inr k0) d)) (yL f1) λex=>by obtain⟨g1,g2⟩:=KH (k:=Sum.inr k0) (hd3.mono ex) h2 (h3.mono ex);exact⟨_,qC,g1,g2⟩
   exact k1 Y _ U _ (hs.mono (e1.trans (e2.trans (e3.trans e4)))) hm4 (e1.trans (e2.trans (e3.trans e4))) Z' q3
  .exact q3.elim⟩⟩⟩
variable {XN:T0 (Uf × Obj)}{Y:St}{H:Hp}{s:Sd}{tp:Pos}{Yg:T0 Go}{n:Nat}
end L3
namespace L2
open Builtin Builtin.Str
variable {prog:Pg}{w:Wo}{A:Ar}{E:QQX}{s:Sd}{X:Cx}
end L2
namespace L3
open L2 Builtin Builtin.Str
variable {X:Cx}{pos XS:Pos}{o e:Go}{es:T0 Go}{ta:T3}{t:xR}
@[irreducible] def SsI (X:Cx) (st:T0 sK) (t:yo):Prop:=HK X st t
@[irreducible] def SI (X:Cx) (st:sK) (t:yo):Prop:=S3 X st t
@[irreducible] def EI (X:Cx) (e:Go) (t:T3):Prop:=E3 X e t
@[irreducible] def AI (X:Cx) (es:T0 Go) (t:xR):Prop:=A3 X es t
variable {prog:Pg}{w:Wo}{A:Ar}{E:QQX}{s:Sd}{XN:T0 (Uf × Obj)}{Y:St}{H:Hp}{p tp:Pos}{Yg:T0 Go}{n:Nat}
theorem yO{g:DJ}{tt:Bf}{te:T3}{ok:Mp->Prop}{Q:DK}(all:T0 D)(J:T0 D->T0 D->vO->Mp->Prop)(m9:∀p acc U M,J p acc U M->ok M):∀(ds pre acc:T0 D) (U:vO) (M:Mp),pre++ds=all->acc.length+ds.length<=Ch->J pre acc U M->
  (∀pre d post,pre++d::post=all->∀acc U M,J pre acc U M->∀(k:vO->DK) (k2:vO->Mp->Prop),(∀δ2 y M4,J (pre++[d]) (acc++[y]) δ2 M4->k δ2 y M4)->(∀δ2 M3,J (pre++[d]) acc δ2 M3->k2 δ2 M3)->g d U M λδ2 M2=>tt δ2 M2 λb M3=>if b=pc then te δ2 M3 (k δ2)else k2 δ2 M3)->
  (∀acc U M,J all acc U M->∀p,M p=Db->Q (.ref p) (pT M p (.lst acc)))->vE g tt te ok Q ds acc U M
 | [],pre,acc,U,M,e,hl,j,_,hq=>⟨by simpa using hl,hq acc U M (by rw[<-e,eN];exact j)⟩
 | d::r,pre,acc,U,M,e,hl,j,ht,hq=>by rw[eB]at hl;refine⟨by lia,?_⟩;refine ht pre d r e acc U M j (λδ2 y M4=>ok M4/\vE g tt te ok Q r (acc++[y]) δ2 M4) (λδ2 M3=>ok M3/\vE g tt te ok Q r acc δ2 M3) (λδ2 y M4 j'=>⟨m9 _ _ _ _ j',yO all J m9 r (pre++[d]) (acc++[y]) δ2 M4 (by rw[<-e,eM];rfl) ?_ j' ht hq⟩) λδ2 M3 j'=>⟨m9 _ _ _ _ j',yO all J m9 r (pre++[d]) acc δ2 M3 (by rw[<-e,eM];rfl) (by lia) j' ht hq⟩;rw[cZ,dQ];lia
end L3
namespace L2
noncomputable def Cx.oq(X:Cx)(E:QQX):Cx:={X with xe:=E}
def Inv.oq{E:QQX}{XN:QQY}(I:Inv X XN Y H s):Inv (X.oq E) XN Y H s:=
 ⟨⟨I.ok.mod,I.ok.kind,I.ok.glob,I.ok.blt,I.ok.above,I.ok.inj,I.ok.has,I.ok.oH,I.ok.hd,I.ok.frames,I.ok.oX,I.ok.pF,I.ok.bs,I.ok.oy,I.ok.og,I.ok.oj,I.ok.nP,I.ok.oG⟩,I.os,I.bare,I.base,I.loc,I.cell,I.free,I.nv,I.pin,I.m9,I.len⟩
def Inv.xeOf{X:Cx}{E:QQX}{XN:QQY}(I:Inv (X.oq E) XN Y H s):Inv X XN Y H s:=
 ⟨⟨I.ok.mod,I.ok.kind,I.ok.glob,I.ok.blt,I.ok.above,I.ok.inj,I.ok.has,I.ok.oH,I.ok.hd,I.ok.frames,I.ok.oX,I.ok.pF,I.ok.bs,I.ok.oy,I.ok.og,I.ok.oj,I.ok.nP,I.ok.oG⟩,I.os,I.bare,I.base,I.loc,I.cell,I.free,I.nv,I.pin,I.m9,I.len⟩
end L2
namespace L3
open L2
end L3
namespace L2
end L2
namespace L3
open L2
variable {X:Cx}{pos p tp kpos:Pos}{Yg:T0 Go}{n:Nat}
end L3
namespace L2
variable {prog:Pg}{w:Wo}{A:Ar}{E:QQX}{s:Sd}{a:Uf}{U:Type}{k:Str}{tk:Tok}
section
variable {R:U→Vl→Prop}{D:T0 (Str × U)}
end
end L2
namespace L3
open L2
variable {X:Cx}{pos p:Pos}{x:Str}{d:D}{e o i:Go}{ta tb td tk:T3}{F:T0 (Str × QQQ)}
end L3
namespace L2
def Ls(h:No)(e:Uf)(cls:Vl)(dx tb:Option Uf)(F:Vl):Prop:=
 ∃oe vs,h.get? e=Fa oe/\oe.cls=cls/\oe.dict=dx/\oe.data=.fields vs/\1<vs.size/\vs[1]?=Fa (tb.elim Value.none Value.ref)/\∀T,tb=Fa T->T≠e/\∃oT ts,h.get? T=Fa oT/\oT.data=.fields ts/\3<ts.size/\ts[3]?=Fa F
def QY(h:No)(e:Uf)(cls:Vl)(dx tb:Option Uf):Prop:=Ls h e cls dx tb Value.none
theorem Df{h base:No}:∀{l:T0 Env} {b:Uf},h.FunFrames base l->b∈wW l->∃o,h.get? b=Fa o/\∀vs,o.data≠.fields vs
 | [],b,_,hb=>by cases hb
 | env::r,b,hF,hb=>by
  obtain⟨_,⟨L,o,hL,_,ho,hd⟩,hr⟩:=hF;have e:wW (env::r)=L::wW r:=by unfold wW;rw[gi,hL]
  rw[e]at hb;rcases dh.mp hb with z|z
  .rw[z];exact⟨o,ho,hd⟩
  .exact Df hr z
def Ef{h base:No}{l:T0 Env}{b:Uf}{o:Obj}{vs:Array Vl}(hF:h.FunFrames base l)(ho:h.get? b=Fa o)(hd:o.data=.fields vs):b∉wW l:=λhb=>by obtain⟨o',Yx,hn⟩:=Df hF hb;rw[ho]at Yx;cases Yx;exact hn vs hd
variable {M:Model}{A:Ar}{s:Sd}{base:No}{env:Env}{outer:T0 Env}{L e:Uf}{cls:Vl}{dx:Option Uf}{Q:Unit→Sd→Prop}
section
variable {E:QQX}
def Pj{Y7:Vl}{had:Bool}{oe:Obj}{vs:Array Vl}{Yz:Env}(hcf:Yz.frame=Fa L)(ZS:A.frames=Fa (env::outer))(hF:s.heap.FunFrames base (env::outer))(hL:env.frame=Fa L)(ho:s.heap.get? e=Fa oe)(hd:oe.data=.fields vs)(h1:1<vs.size) (k:∀(h':No) (T:Uf),s.heap.get? T=Db->(∀b o,s.heap.get? b=Fa o->b∉wW (env::outer)->b≠e->h'.get? b=Fa o)->(∀b o,s.heap.get? b=Fa o->b∈wW (env::outer)->∃sl,h'.get? b=Fa {o with slots:=sl})->
   (∃oe',h'.get? e=Fa oe'/\oe'.cls=oe.cls/\oe'.dict=oe.dict/\oe'.data=.fields (vs.setIfInBounds 1 (.ref T)))->(∃oT ts,h'.get? T=Fa oT/\oT.data=.fields ts/\3<ts.size/\ts[3]?=Fa (X' ↑L))->Q () {s with heap:=h'}):
  pi M A (do
   let a<-PySem.frameOf Yz;let pl<-entryPlaceOf L had;let b<-EntryCells.newEntry Y7 a Value.none (X' ↑L) Value.none pl
   setField (Value.ref e) 1 b) Q E s:=by
 have ne:=Ef hF ho hd;unfold PySem.frameOf;refine cX (cX (wpAny_frameEnvs ZS (cX ?_)));have ed:List.dropWhile (λx=>x.frame != Yz.frame) (env::outer)=env::outer:=by rw[List.dropWhile_cons,de (by rw[hL,hcf];simp)]
 rw[ed];unfold frameObject;refine cX (wpAny_readyFrames_fun hF λYA hs=>?_);obtain⟨z1,z2,z3⟩:=hs;rw[hL];refine dq (dq ?_);refine cX (wpAny_entryPlaceOf λpl hp=>?_);refine cX ?_;unfold EntryCells.newEntry newFields;have XW:([Y7,Value.ref L,Value.none,X' ↑L,Value.none]++if pl.isEmpty=pc then List.replicate 6 Value.none else pl).length=11:=by rw[cZ];rcases hp with rfl|⟨_,_,_,_,_,_,_,rfl⟩<;>rfl
 have hfl:([Y7,Value.ref L,Value.none,X' ↑L,Value.none]++if pl.isEmpty=pc then List.replicate 6 Value.none else pl)[3]?=Fa (X' ↑L):=rfl;generalize ([Y7,Value.ref L,Value.none,X' ↑L,Value.none]++if pl.isEmpty=pc then List.replicate 6 Value.none else pl)=fs at XW hfl ⊢;refine gc ?_ (by
  show fs.toArray.size<=_;rw[dB,XW];decide)
 have e1:YA.get? e=Fa oe:=by rw[z2 e ne];exact ho
 have e2:(YA.push {cls:=.type "traceback",data:=.fields fs.toArray}).get? e=Fa oe:=df _ e1;refine ij e2 hd h1 ?_;have tn:s.heap.get? YA.objs.size=Db:=gT (by rw[z1];exact dw _);have te:YA.objs.size≠e:=λz=>by rw[z,ho]at tn;cases tn
 obtain⟨oc,od,odt,YD⟩:=oe;obtain rfl:odt=.fields vs:=hd;have up:∀b,e≠b->((YA.push {cls:=.type "traceback",data:=.fields fs.toArray}).update e (Obj.mapFields λx=>x.setIfInBounds 1 (.ref YA.objs.size))).get? b=(YA.push {cls:=.type "traceback",data:=.fields fs.toArray}).get? b:=λb z=>gj _ _ z;refine k _ YA.objs.size tn (λb o hb nf ne'=>?_) (λb o hb hf=>?_) ⟨_,fL _ e2 Z',Z',Z',Z'⟩ ⟨_,fs.toArray,(up _ (dS te)).trans (dN _ Z'),Z',by rw[dB,XW];decide,by rw[iQ];exact hfl⟩
 .rw[up b (dS ne')];exact df _ (by rw[z2 b nf];exact hb)
 .obtain⟨sl,q⟩:=z3 b o hb;refine⟨sl,?_⟩;rw[up b (λz=>ne (z ▸ hf))];exact df _ q
def Tb{E₁:QQX}{tb:Option Uf}{F:Vl}{Yz:Env}(hcf:Yz.frame=Fa L)(ZS:A.frames=Fa (env::outer))(hF:s.heap.FunFrames base (env::outer))(hL:env.frame=Fa L)(hx:Ls s.heap e cls dx tb F)(hFL:(F==X' ↑L)=lf) (k:∀(h':No) (T:Uf),s.heap.get? T=Db->(∀b o,s.heap.get? b=Fa o->b∉wW (env::outer)->b≠e->tb≠Fa b->h'.get? b=Fa o)->(∀b o,s.heap.get? b=Fa o->b∈wW (env::outer)->∃sl,h'.get? b=Fa {o with slots:=sl})->
   (∀b,h'.get? b=Db->s.heap.get? b=Db)->Ls h' e cls dx (Fa T) (X' ↑L)->Q () {s with heap:=h'}):pi M A (noteFrame (.ref e) Yz) Q E₁ s:=by
 obtain⟨oe,vs,ho,hc,ZH,hd,h1,hv,hT⟩:=hx;have ne:=Ef hF ho hd;unfold noteFrame;rw[hcf];refine cX (fu ho hd hv ?_);have XT:∀(s1:Sd) (oe1:Obj),s1.gens=s.gens->s1.drawn=s.drawn->s1.toks=s.toks->s1.os=s.os->s1.heap.FunFrames base (env::outer)->s1.heap.get? e=Fa oe1->oe1.cls=cls->oe1.dict=dx->oe1.data=.fields vs->(∀b o,s.heap.get? b=Fa o->b∉wW (env::outer)->b≠e->tb≠Fa b->s1.heap.get? b=Fa o)->
   (∀b o,s.heap.get? b=Fa o->b∈wW (env::outer)->s1.heap.get? b=Fa o)->(∀b,s1.heap.get? b=Db↔s.heap.get? b=Db)->∀(Y7:Vl) (had:Bool),pi M A (do
   let a<-PySem.frameOf Yz;let pl<-entryPlaceOf L had;let b<-EntryCells.newEntry Y7 a Value.none (X' ↑L) Value.none pl
   setField (Value.ref e) 1 b) Q E₁ s1:=by
  intro s1 oe1 g1 g2 g3 g4 hF1 ho1 hc1 hdx1 hd1 kb kf kn Y7 had;refine Pj hcf ZS hF1 hL ho1 hd1 h1 λh' T tn k1 k2 ⟨oe',he',hce,hdxe,hde⟩ ⟨oT,ts,Y1,Zs,h3,h3v⟩=>?_;have te:T≠e:=λz=>by rw[z,ho1]at tn;cases tn
  have:=k h' T ((kn T).mp tn) (λb o hb nf nb nt=>k1 b o (kb b o hb nf nb nt) nf nb) (λb o hb hf=>k2 b o (kf b o hb hf) hf) (λb hb=>?_) ⟨oe',vs.setIfInBounds 1 (.ref T),he',hce.trans hc1,hdxe.trans hdx1,hde,by rw[jQ];exact h1,by rw[iu h1];rfl,λT' eT=>?_⟩
  .show Q () {heap:=_,gens:=s1.gens,drawn:=s1.drawn,toks:=s1.toks,os:=s1.os};rw[g1,g2,g3,g4];exact this
  .refine(kn b).mp ?_;cases q:s1.heap.get? b with
   | none=>rfl
   | some o=>
    by_cases z:b=e
    .rw[z,he']at hb;cases hb
    .by_cases zf:b∈wW (env::outer)
     .obtain⟨sl,q2⟩:=k2 b o q zf;rw[q2]at hb;cases hb
     .rw[k1 b o q zf z]at hb;cases hb
  .cases eT;exact⟨te,oT,ts,Y1,Zs,h3,h3v⟩
 cases tb with
 | none=>rw[de (show ¬((Db:Option Uf).elim Value.none Value.ref != Value.none)=pc by decide+kernel)];exact XT s oe Z' Z' Z' Z' hF ho hc ZH hd (λb o hb _ _ _=>hb) (λb o hb _=>hb) (λb=>.rfl) _ _
 | some T=>
  obtain⟨nTe,oT,ts,Y1,Zs,h3,hn⟩:=hT T Z';rw[dg (show((Fa T:Option Uf).elim Value.none Value.ref != Value.none)=pc by rfl)];refine cX (fu Y1 Zs hn ?_);rw[de (by rw[hFL];exact dC)];refine cX (ij Y1 Zs h3 ?_);have up:∀b,T≠b->(s.heap.update T (Obj.mapFields λx=>x.setIfInBounds 3 .none)).get? b=s.heap.get? b:=λb z=>gj _ _ z;have nf:∀b o,s.heap.get? b=Fa o->(∀vs,o.data≠.fields vs)->T≠b:=λb o hb hn z=>by rw[<-z,Y1]at hb;cases hb;exact hn ts Zs
  have sz:∀b,(s.heap.update T (Obj.mapFields λx=>x.setIfInBounds 3 .none)).get? b=Db↔s.heap.get? b=Db:=λb=>by
   by_cases z:T=b
   .rw[<-z];obtain⟨oc,od,odt,YD⟩:=oT;obtain rfl:odt=.fields ts:=Zs;rw[fL _ Y1 Z',Y1];exact⟨(λq=>by cases q),(λq=>by cases q)⟩
   .rw[up b z]
  exact XT {s with heap:=s.heap.update T (Obj.mapFields λx=>x.setIfInBounds 3 .none)} oe Z' Z' Z' Z' (mO (λb o hb hn=>⟨o,(up b (nf b o hb hn)).trans hb,Z'⟩) hF) ((up e nTe).trans ho) hc ZH hd
   (λb o hb _ _ nt=>(up b λz=>nt (by rw[z])).trans hb) (λb o hb hf=>by
    obtain⟨o',Yx,hn⟩:=Df hF hf;rw[hb]at Yx;cases Yx;exact(up b (nf b o hb hn)).trans hb) sz _ _
def L9{T:Uf}{F:Vl}(x:Option Uf)(hx:Ls s.heap e cls dx (Fa T) F)(k:∀h':No,(∀b,T≠b->h'.get? b=s.heap.get? b)->(∀b,h'.get? b=Db↔s.heap.get? b=Db)->Ls h' e cls dx (Fa T) (x.elim .none λf=>X' f)->Q () {s with heap:=h'}):pi M A (setFlight (.ref e) x) Q E s:=by
 obtain⟨oe,vs,ho,hc,ZH,hd,h1,hv,hT⟩:=hx;obtain⟨nTe,oT,ts,Y1,Zs,h3,hn⟩:=hT T Z';unfold setFlight;refine cX (fu ho hd hv ?_);rw[dg (by rfl)];refine ij Y1 Zs h3 ?_;obtain⟨oc,od,odt,YD⟩:=oT;obtain rfl:odt=.fields ts:=Zs;have up:∀b,T≠b->(s.heap.update T (Obj.mapFields λy=>y.setIfInBounds 3 (x.elim .none λf=>X' f))).get? b=s.heap.get? b:=λb z=>gj _ _ z;refine k _ up (λb=>?_) ⟨oe,vs,(up e nTe).trans ho,hc,ZH,hd,h1,hv,λT' eT=>?_⟩
 .by_cases z:T=b
  .rw[<-z,fL _ Y1 Z',Y1];exact⟨(λq=>by cases q),(λq=>by cases q)⟩
  .rw[up b z]
 .cases eT;exact⟨nTe,_,ts.setIfInBounds 3 (x.elim .none λf=>X' f),fL _ Y1 Z',Z',by rw[jQ];exact h3,by rw[iu h3]⟩
def JI{E₁ E₂:QQX}{tb:Option Uf}(ZS:A.frames=Fa (env::outer))(hF:s.heap.FunFrames base (env::outer))(hL:env.frame=Fa L)(hx:QY s.heap e cls dx tb) (k:∀(h':No) (T:Uf),s.heap.get? T=Db->(∀b o,s.heap.get? b=Fa o->b∉wW (env::outer)->b≠e->tb≠Fa b->h'.get? b=Fa o)->(∀b o,s.heap.get? b=Fa o->b∈wW (env::outer)->∃sl,h'.get? b=Fa {o with slots:=sl})->
   QY h' e cls dx (Fa T)->Q () {s with heap:=h'}):pi M A (noteFrame (.ref e) env) (λ_ s₂=>pi M A (setFlight (.ref e) Db) Q E₂ s₂) E₁ s:=by
 refine Tb hL ZS hF hL hx (dH.mpr λz=>by have:=fA.mp z;cases this) λh' T tn k1 k2 _ x'=>?_;refine L9 Db x' λh2 up _ x2=>k h2 T tn (λb o hb nf nb nt=>?_) (λb o hb hf=>?_) x2
 .have tb:T≠b:=λz=>by rw[z,hb]at tn;cases tn
  exact(up b tb).trans (k1 b o hb nf nb nt)
 .have tb:T≠b:=λz=>by rw[z,hb]at tn;cases tn
  obtain⟨sl,q⟩:=k2 b o hb hf;exact⟨sl,(up b tb).trans q⟩
def PL{tb:Option Uf}(ZS:A.frames=Fa (env::outer))(hF:s.heap.FunFrames base (env::outer))(hL:env.frame=Fa L)(hx:QY s.heap e cls dx tb) (k:∀(h':No) (T:Uf),s.heap.get? T=Db->(∀b o,s.heap.get? b=Fa o->b∉wW (env::outer)->b≠e->tb≠Fa b->h'.get? b=Fa o)->(∀b o,s.heap.get? b=Fa o->b∈wW (env::outer)->∃sl,h'.get? b=Fa {o with slots:=sl})->
   QY h' e cls dx (Fa T)->Q () {s with heap:=h'}):pi M A (leaving env (.ref e)) Q E s:=cX (JI ZS hF hL hx k)
end
def Dt(P:Pg)(w:Wo):Lo:=λouter H s E ev s'=>HE λe C dx H' tb=>ev=.ref e/\E (.ref C) dx H'/\s'.os=s.os/\XXk s'.gens/\Un (wW outer) [] H H' s.heap s'.heap/\yV P w H' s'.heap/\
 QY s'.heap e (.ref C) dx (Fa tb)/\s.heap.get? e=Db/\s.heap.get? tb=Db/\H' e=Db/\H' tb=Db
def yK{o:HO}(x:sV P w H h a o):∃ob,h.get? a=Fa ob:=by
 cases o with
 | lst xs=>obtain⟨_,_,_,_,e⟩:=x;exact⟨_,e⟩
 | tup xs=>obtain⟨_,_,_,o,e,_⟩:=x;exact⟨_,e⟩
 | dK kvs=>obtain⟨_,_,_,_,o,_,_,e,_⟩:=x;exact⟨_,e⟩
 | dT kvs=>obtain⟨_,_,_,_,o,_,_,e,_⟩:=x;exact⟨_,e⟩
 | set S n=>obtain⟨o,_,_,_,e,_⟩:=x;exact⟨_,e⟩
 | ins C dx fs=>obtain⟨_,_,_,e,_⟩:=x;exact⟨_,e⟩
 | own y=>exact x
 | xd fs=>obtain⟨_,⟨_,_,_,e,_⟩,_⟩:=x;exact⟨_,e⟩
 | rng lo hi=>obtain⟨_,_,_,e⟩:=x;exact⟨_,e⟩
 | frz ob u=>obtain⟨e,_⟩:=x;exact⟨_,e⟩
 | tbl ps=>exact⟨_,x⟩
 | met f y=>exact⟨_,x⟩
 | ext φ=>obtain⟨_,e,_⟩:=x;exact e
def zY{T:Uf}(m9:yV P w H h)(tn:h.get? T=Db):H T=Db:=by
 cases z:H T with
 | none=>rfl
 | some o=>obtain⟨ob,hob⟩:=yK (m9 T o z);rw[hob]at tn;cases tn
variable {P:Pg}{w:Wo}{K:qM}{mg:QQZ}{N:QQQ}{qual:Str}{scope:XXd}{f:Uf}{cd:Vl}{s0:Sd}{H0:Hp}
section
variable {E:XK}
def G7(u:Un fs ex H H' h h')(hex:ex=[]){b:Uf}(hb:h'.get? b=Db):h.get? b=Db:=by
 cases q:h.get? b with
 | none=>rfl
 | some o=>obtain⟨o',e⟩:=u.there b o q (by rw[hex];simp);rw[e]at hb;cases hb
def Oq{XN:QQY}{e C T:Uf}{tb dx:Option Uf}{h':No}(I:Inv (vW (Dt P w) P w K mg base N qual scope f cd A outer s0 H0 E) XN Y H s)(he:s0.heap.get? e=Db)(old:∀T,tb=Fa T->s0.heap.get? T=Db/\H T=Db)(hn:H e=Db)(q:E (.ref C) dx H)(hT:s0.heap.get? T=Db/\H T=Db) (k1:∀b o,s.heap.get? b=Fa o->b∉wW (dL qual scope s0.heap.objs.size f cd::outer)->b≠e->tb≠Fa b->h'.get? b=Fa o) (k2:∀b o,s.heap.get? b=Fa o->b∈wW (dL qual scope s0.heap.objs.size f cd::outer)->∃sl,h'.get? b=Fa {o with slots:=sl}) (x':QY h' e (.ref C) dx (Fa T)):
  Dt P w outer H0 s0 E (.ref e) {s with heap:=h'}:=by
 have YB:=I.nU;have X7:∀b o,H b=Fa o->∀u,s.heap.get? b=Fa u->h'.get? b=Fa u:=λb o hb u hu=>k1 b u hu (λz=>by rw[YB b z]at hb;cases hb) (λz=>by rw[z,hn]at hb;cases hb) (λz=>by rw[(old b z).2]at hb;cases hb);have oldf:∀b o,s0.heap.get? b=Fa o->b∉wW [dL qual scope s0.heap.objs.size f cd]:=λb o hb z=>by
  have:b=s0.heap.objs.size:=by have hz:b∈[s0.heap.objs.size]:=z;exact dA.mp hz
  rw[this]at hb;exact absurd (dD hb) (ft _)
 have fr:∀b,b∈wW (dL qual scope s0.heap.objs.size f cd::outer)->b∈wW [dL qual scope s0.heap.objs.size f cd]\/b∈wW outer:=λb hb=>by
  have hb:b∈s0.heap.objs.size::wW outer:=hb;rcases dh.mp hb with z|z
  .exact .inl (by rw[z];exact dI)
  .exact .inr z
 have Yj:Un (wW outer) [] H0 H s0.heap s.heap:=I.base;refine⟨e,C,dx,H,T,Z',q,I.os,I.bare,⟨λb o hb h0 nf ne=>?_,λb o hb h0 hf ne=>?_,Yj.free,λb o hb ne=>?_,Yj.nO,Yj.nJ,Yj.nR⟩,λb o hb=>?_,x',he,hT.1,hn,hT.2⟩
 .have hs:=Yj.keep b o hb h0 nf ne;refine k1 b o hs (λz=>?_) (λz=>by rw[z,he]at hb;cases hb) λz=>by rw[(old b z).1]at hb;cases hb
  rcases fr b z with z|z
  .exact oldf b o hb z
  .exact nf z
 .obtain⟨sl,hs⟩:=Yj.slot b o hb h0 hf ne;have:b∈wW (dL qual scope s0.heap.objs.size f cd::outer):=dE _ hf;obtain⟨Zi,h2⟩:=k2 b _ hs this;exact⟨Zi,h2⟩
 .obtain⟨o',hs⟩:=Yj.there b o hb ne;by_cases z:b∈wW (dL qual scope s0.heap.objs.size f cd::outer)
  .obtain⟨sl,h2⟩:=k2 b o' hs z;exact⟨_,h2⟩
  .exact⟨o',k1 b o' hs z (λz=>by rw[z,he]at hb;cases hb) λz=>by rw[(old b z).1]at hb;cases hb⟩
 .refine(I.m9 b o hb).nK (λb' u YJ hu=>?_) (λ_ q=>q) λ_ _ q=>q;rcases YJ with z|z
  .subst z;exact X7 b' o hb u hu
  .exact X7 b' _ z u hu
def U0{XN:QQY}{e C:Uf}{tb dx:Option Uf}(I:Inv (vW (Dt P w) P w K mg base N qual scope f cd A outer s0 H0 E) XN Y H s)(hx:QY s.heap e (.ref C) dx tb)(he:s0.heap.get? e=Db)(hT:∀T,tb=Fa T->s0.heap.get? T=Db/\H T=Db)(hn:H e=Db)(q:E (.ref C) dx H):
  (vW (Dt P w) P w K mg base N qual scope f cd A outer s0 H0 E).xe (.ref e) s:=
 PL (base:=base) (outer:=outer) I.ok.frames I.stack Z' hx λh' T tn k1 k2 x'=>Oq I he hT hn q ⟨G7 (show Un (wW outer) [] H0 H s0.heap s.heap from I.base) Z' tn,zY I.m9 tn⟩ k1 k2 x'
end
section
variable {E:XK}
end
def OK(d:Uf)(f:Str)(v:V)(h:No):Prop:=∃u,h.Ns1 d (λy=>if y=f then Fa u else Db)/\rb v u
end L2
namespace L3
open L2
abbrev XR:=Uf->Option (Str×D)->Mp->Prop
abbrev Hd:=T0 D->Mp->DK->XR->Prop
def UX(K:qM)(H:Hp)(dx:Option Uf)(y:Option (Str×D)):Prop:=(dx=Db/\y=Db)\/CO λd f z v=>dx=Fa d/\y=Fa (f,z)/\H d=Fa (.ext (OK d f v))/\sj K H z v
def VQ(K:qM)(R:XR)(E:XK):Prop:=∀C dx H M y,HM K H M->UX K H dx y->R C y M->E (.ref C) dx H
def Wx(K:qM)(sp:Hd):Sp:=λvs H Q' E=>CO λds M Q R=>qF K H ds vs/\HM K H M/\sp ds M Q R/\Up K H Q' Q/\VQ K R E
abbrev Uj(P:Pg)(w:Wo)(K:qM)(mg:QQZ)(base:No)(k:Nat)(f:Uf)(fd:sB)(ps:QQQ)(sp:Hd):Prop:=xP P w K mg base (Dt P w) k f fd ps (Wx K sp)
variable {X:Cx}{x:Str}{p pos np XY:Pos}{e:Go}{es:T0 Go}{t:xR}{k:Nat}{f C:Uf}{fd:sB}{ps:QQQ}{sp:Hd}{R:XR}{E:XK}{P:Pg}{w:Wo}{K:qM}{mg:QQZ}{base:No}{N:QQQ}{qual:Str}{scope:XXd}{cd:Vl}{A:Ar}{outer:T0 Env}{s0:Sd}{H0:Hp}{ta:xR}
def Vz{st:sK}{sp:Hd}(F:Pz K x qual st f fd)(S:tT N ps (qz st))(len:∀ds M Q R,sp ds M Q R->ds.length=ps.length) (Ye:∀(X2:Vl) (A:Ar) (outer:T0 Env) (s:Sd) (H:Hp) (E:XK) (R:XR),sJ k (A.deeper (dL qual (qz st) s.heap.objs.size f X2))->VQ K R E->
   ∃t,HK (vW (Dt P w) P w K mg base N qual (qz st) f X2 A outer s H E) (su st) t/\∀ds M Q,sp ds M Q R->t {nx:=λ_ M'=>∃XU,qJ XU M'/\Q .mY XU,rt:=λd M'=>∃XU,qJ XU M'/\Q d XU} (xl N ds) M):Uj P w K mg base (k+1) f fd ps sp:=by
 obtain⟨oc,od,kV,Yv,pm,an,X2,ct,YD,rfl,lk,YR⟩:=F.ex;refine MS lk YR S (λvs H Q E h=>?_) λA outer s H vs Q' E hr h=>?_
 .obtain⟨ds,M,Q,R,hd,_,hs,_⟩:=h;rw[<-hd.length];exact len ds M Q R hs
 .obtain⟨ds,M,Q,R,hd,hm,hs,k,hR⟩:=h;obtain⟨t,ht,hb⟩:=Ye X2 A outer s H E R hr hR;exact⟨_,ht,xl N ds,M,_,Er hd,hm,hb ds M Q hs,λσ' H' δ' M' _ x2 x3 _ ⟨XU,y1,y2⟩=>k .mY H' .mY XU .mY (x2.sub y1) x3 y2,λv H' d M' x1 x2 x3 ⟨XU,y1,y2⟩=>k v H' d XU x1 (x2.sub y1) x3 y2,λ_ _ _ _ _ _ _ _ z=>z,λ_ _ _ _ _ _ _ _ z=>z⟩
end L3
namespace L2
def TKept(H H':Hp):Prop:=(∀b xs,H b=Fa (.tup xs)->H' b=Fa (.tup xs))/\∀b o u,H b=Fa (.frz o u)->H' b=Fa (.frz o u)
def W9(X:Cx)(XN:QQY)(Y:St)(J:Hp->Prop)(E:XK)(ev:Vl)(s':Sd):Prop:=CP λH s=>J H/\Inv X XN Y H s/\Dt X.prog X.w X.stack H s E ev s'
def Uu(X:Cx)(XN:QQY)(Y:St)(J:Hp->Prop)(E:XK)(ev:Vl)(s':Sd):Prop:=Ry λa C dx H' tb H1 s1=>ev=.ref a/\E (.ref C) dx H'/\Inv X XN Y H' s'/\QY s'.heap a (.ref C) dx (Fa tb)/\H' a=Db/\H' tb=Db/\J H1/\TKept H1 H'/\Inv X XN Y H1 s1/\s1.heap.get? a=Db
def SM{M:Model}{E₁ E₂:QQX}{XN:QQY}{E:XK}{outer:T0 Env}{L:Uf}(h:W9 X XN Y J E ev s')(Yb:X.stack=X.env::outer)(hL:X.env.frame=Fa L):
  pi M X.A (noteFrame ev X.env) (λ_ s₂=>pi M X.A (setFlight ev Db) (λ_ s₃=>Uu X XN Y J E ev s₃) E₂ s₂) E₁ s':=by
 obtain⟨H,s,jH,I,e,C,dx,H',tb,rfl,q,os,bare,un,m9,x,he,ht,ne,nt⟩:=h;obtain⟨hh,g,d,t,os'⟩:=s';obtain rfl:os'=s.os:=os;have I':=I.call (h':=hh) (g':=g) (d':=d) (t':=t) (ch:=[]) un m9 bare (λb z=>absurd z (by simp));have hF:=I'.stack;have YB:=I'.nU;have ZS:=I.ok.frames;rw[Yb]at hF ZS;refine JI (base:=X.base) (outer:=outer) ZS hF hL x λh' T tn k1 k2 x'=>?_;have X7:∀b o,H' b=Fa o->∀u,hh.get? b=Fa u->h'.get? b=Fa u:=λb o hb u hu=>k1 b u hu (λz=>by rw[YB b (by rw[Yb];exact z)]at hb;cases hb) (λz=>by rw[z,ne]at hb;cases hb) (λz=>by cases z;rw[nt]at hb;cases hb);have un':Un (wW X.stack) [] H H' s.heap h':=by
  refine⟨λb o hb h0 nf nx=>?_,λb o hb h0 hf nx=>?_,un.free,λb o hb nx=>?_,un.nO,un.nJ,un.nR⟩
  .exact k1 b o (un.keep b o hb h0 nf nx) (λz=>nf (by rw[Yb];exact z)) (λz=>by rw[z,he]at hb;cases hb) λz=>by cases z;rw[ht]at hb;cases hb
  .obtain⟨sl,hs⟩:=un.slot b o hb h0 hf nx;obtain⟨Zi,h2⟩:=k2 b _ hs (by rw[<-Yb];exact hf);exact⟨Zi,h2⟩
  .obtain⟨o',hs⟩:=un.there b o hb nx;by_cases z:b∈wW (X.env::outer)
   .obtain⟨sl,h2⟩:=k2 b o' hs z;exact⟨_,h2⟩
   .exact⟨o',k1 b o' hs z (λz=>by rw[z,he]at hb;cases hb) λz=>by cases z;rw[ht]at hb;cases hb⟩
 have hok':yV X.prog X.w H' h':=λb o hb=>(m9 b o hb).nK (λb' u YJ hu=>by
  rcases YJ with z|z
  .subst z;exact X7 b' o hb u hu
  .exact X7 b' _ z u hu) (λ_ q=>q) λ_ _ q=>q
 have I3:Inv X XN Y H' {heap:=h',gens:=g,drawn:=d,toks:=t,os:=s.os}:=Inv.call (s:=s) (ch:=[]) I un' hok' bare (λb z=>absurd z (by simp));refine⟨e,C,dx,H',T,H,s,Z',q,I3,x',ne,?_,jH,⟨un.nO,un.nJ⟩,I,he⟩;cases z:H' T with
 | none=>rfl
 | some o=>obtain⟨ob,hob⟩:=yK (m9 T o z);have tn:hh.get? T=Db:=tn;rw[hob]at tn;cases tn
variable {X:Cx}{XN:T0 (Uf × Obj)}{Y σ':St}{H H1:Hp}{s s1:Sd}{ev:Vl}{E':QQX}{a:Uf}
def Inv.adopt{o:HO}(I:Inv X XN Y H s)(I1:Inv X XN σ' H1 s1)(n1:s1.heap.get? a=Db)(hn:H a=Db)(ok:sV X.prog X.w (upd H a o) s.heap a o):Inv X XN Y (upd H a o) s:=by
 have ne:∀b ob,s1.heap.get? b=Fa ob->b≠a:=λb ob e z=>by rw[z,n1]at e;cases e
 have nh:∀b ob,H b=Fa ob->b≠a:=λb ob e z=>by rw[z,hn]at e;cases e
 refine⟨I.ok,I.os,I.bare,⟨I.base.keep,I.base.slot,λb o' e h0 hb=>?_,I.base.there,λb xs e=>?_,λb o' u e=>?_,λb ps e=>?_⟩,I.loc,I.cell,?_,λx c e=>?_,λp hp=>?_,λb ob e=>?_,I.len⟩
 .obtain⟨o2,e2⟩:=I1.base.there b o' e hb;rw[qw (ne b o2 e2)];exact I.base.free b o' e h0 hb
 .have:=I.base.nO b xs e;rw[qw (nh b _ this)];exact this
 .have:=I.base.nJ b o' u e;rw[qw (nh b _ this)];exact this
 .obtain⟨more,this⟩:=I.base.nR b ps e;exact⟨more,by rw[qw (nh b _ this)];exact this⟩
 .obtain⟨m,⟨o2,_,_,e2,_⟩,_⟩:=I1.loc;rw[qw (ne _ o2 e2)];exact I.free
 .obtain⟨v,o2,e2,_⟩:=I1.cell x c e;rw[qw (ne _ o2 e2)];exact I.nv x c e
 .obtain⟨e1,e2,e3,e4,e5⟩:=I.pin p hp;exact⟨e1,by rw[qw (ne _ _ (I1.pin p hp).1)];exact e2,e3,e4,e5⟩
 .by_cases z:b=a
  .subst z;rw[qC]at e;cases e;exact ok
  .rw[qw z]at e;exact(I.m9 b ob e).nK (λ_ _ _ q=>q) (λb' q=>by rw[qw (nh b' _ q)];exact q) λb' xs q=>by rw[qw (nh b' _ q)];exact q
def Inv.locs{h':No}{m':QQZ}(I:Inv X XN Y H s)(hn:h'.Ns X.env.locals m')(hs:Heap.SameBut X.env.locals s.heap h')(hl:σ'.length=X.N.length) (hm:∀m,s.heap.Ns X.env.locals m->(∀(i:Nat) (x:Str) (v:V),X.N[i]?=Fa x->Y[i]?=Fa (Fa v)->SX X.env.scope x->∃u,rb v u/\Vx X.env s.heap m x u)->∀(i:Nat) (x:Str) (v:V),X.N[i]?=Fa x->σ'[i]?=Fa (Fa v)->SX X.env.scope x->∃u,rb v u/\((X.env.kindOf x=Fa .local/\m' x=Fa u)\/((X.env.kindOf x=Fa .cell\/X.env.kindOf x=Fa .free)/\∃c,X.env.cells.lookup x=Fa c/\s.heap.IsCell c (Fa u)))):Inv X XN σ' H {s with heap:=h'}:=by
 obtain⟨m,hn0,hl0⟩:=id I.loc;obtain⟨oL,_,_,hoL,_⟩:=id hn0;have pG:=I.pG;refine⟨I.ok,I.os,I.bare,⟨λb o e n hb hx=>?_,λb o e n hb hx=>?_,I.base.free,λb o e hx=>?_,I.base.nO,I.base.nJ,I.base.nR⟩,⟨_,hn,λj y v' e1 e2 e3=>?_⟩,λy c e=>?_,I.free,I.nv,λp hp=>?_,λb ob e=>?_,hl⟩
 .exact(hs.2 b (dO (dR (dD e) I.ok.above))).trans (I.base.keep b o e n hb hx)
 .obtain⟨sl,e1⟩:=I.base.slot b o e n hb hx;exact⟨sl,(hs.2 b (dO (dR (dD e) I.ok.above))).trans e1⟩
 .obtain⟨o',e1⟩:=I.base.there b o e hx;exact⟨o',(hs.2 b (dO (dR (dD e) I.ok.above))).trans e1⟩
 .obtain⟨u,r,q⟩:=hm m hn0 hl0 j y v' e1 e2 e3;refine⟨u,r,?_⟩;rcases q with q|⟨k,c,e,z⟩
  .exact .inl q
  .exact .inr ⟨k,c,e,z.sameBut hs (pG y c e)⟩
 .obtain⟨w',z⟩:=I.cell y c e;exact⟨w',z.sameBut hs (pG y c e)⟩
 .obtain⟨e,n,ne,nf,d⟩:=I.pin p hp;exact⟨(hs.2 p.1 ne).trans e,n,ne,nf,d⟩
 .refine(I.m9 b ob e).nK (λc w' hc q=>(hs.2 c ?_).trans q) (λ_ q=>q) λ_ _ q=>q
  rintro rfl
  rcases hc with hc|hc
  .rw[<-hc,I.free]at e;cases e
  .rw[I.free]at hc;cases hc
def yI{M:Model}{A:Ar}{E:QQX}{i:Nat}{n:Str}{pos:Pos}{Q:Unit->Sd->Prop}(I:Inv X XN Y H s)(hN:X.N.Nodup)(hi:X.N[i]?=Fa n)(hk:X.env.scope.names.lookup n=Fa .local) (h:∀s',Inv X XN (Y.set i Db) H s'->Q () s'):pi M A (do
   bindName X.env n Value.none
   unbindBehindTheSuite X.env n pos) Q E s:=by
 have hiσ:i<Y.length:=by rw[I.len];exact(cY.mp hi).1
 refine cX (wpAny_bindName (xT (v:=.mY) I hN hi (.inl hk) Z' (λs1 I1=>?_) (.inr hk)));have hcls:(X.env.scope.kind==.class||(X.env.scope.kind==.module&&X.env.locals != X.env.globals))=lf:=by rw[I.ok.kind];rfl
 obtain⟨m,hn,hl⟩:=id I1.loc;obtain⟨u,ru,lk⟩:=hl i n .mY hi (by rw[eO hiσ]) (.inl hk);have em:m n=Fa u:=by
  rcases lk with⟨_,e⟩|⟨k,_⟩
  .exact e
  .have hk':X.env.kindOf n=Fa .local:=hk;rw[hk']at k;rcases k with k|k<;>cases k
 unfold unbindBehindTheSuite;refine iN (wpAny_unbindName_local hk hn em hcls λh' u' Zp hs=>h _ ?_);refine I1.locs Zp hs (by simpa using I.len) λm2 X6 hl2 j y v' e1 e2 e3=>?_;have hj:j≠i:=λz=>by subst z;rw[eO hiσ]at e2;cases e2
 rw[eX (dS hj)]at e2;obtain⟨u2,r2,q2⟩:=hl j y v' e1 (by rw[eX (dS hj)];exact e2) e3;refine⟨u2,r2,?_⟩;rcases q2 with⟨k,e⟩|q2
 .refine .inl ⟨k,?_⟩;have:y≠n:=λe=>hj (CD hN e1 (e ▸ hi));simp[this,e]
 .exact .inr q2
noncomputable def Cx.marked(X:Cx)(ev:Vl)(E:QQX):Cx:={X with A:=X.A.mark (Fa ev),calm:=false,xe:=E}
def Inv.mark(I:Inv X XN Y H s):Inv (X.marked ev E') XN Y H s:=
 ⟨⟨I.ok.mod,I.ok.kind,I.ok.glob,I.ok.blt,I.ok.above,I.ok.inj,I.ok.has,I.ok.oH,(λz=>by cases z),I.ok.frames,I.ok.oX,I.ok.pF,I.ok.bs,I.ok.oy,I.ok.og,I.ok.oj,I.ok.nP,I.ok.oG⟩,I.os,I.bare,I.base,I.loc,I.cell,I.free,I.nv,I.pin,I.m9,I.len⟩
def Inv.unmark(ok:X.Ok)(I:Inv (X.marked ev E') XN Y H s):Inv X XN Y H s:=⟨ok,I.os,I.bare,I.base,I.loc,I.cell,I.free,I.nv,I.pin,I.m9,I.len⟩
def SP.unmark(ok:X.Ok){D:FY}{f:Flow}(h:SP (X.marked ev E') XN D f s):SP X XN D f s:=by
 cases f with
 | next=>obtain⟨a,b,I,q⟩:=h;exact⟨a,b,I.unmark ok,q⟩
 | brk=>obtain⟨a,b,I,q⟩:=h;exact⟨a,b,I.unmark ok,q⟩
 | cont=>obtain⟨a,b,I,q⟩:=h;exact⟨a,b,I.unmark ok,q⟩
 | ret v=>obtain⟨a,b,c,I,q⟩:=h;exact⟨a,b,c,I.unmark ok,q⟩
def Cb{M:Model}{h:No}{a:Uf}{o:Obj}(ho:h.get? a=Fa o):W.Looks M h (typeOf (.ref a)) o.cls:=by intro A Q E s k q;unfold typeOf;exact cX (wpAny_load (k a o ho) (dq q))
def HC{M:Model}{A:Ar}{E:QQX}{a C T:Uf}{Q:Unit->Sd->Prop}(x:QY s.heap a (.ref C) dx (Fa T))(h:∀h':No,(∀b,h'.get? b=s.heap.get? b)->Q () {s with heap:=h'}):pi M A (setFlight (.ref a) Db) Q E s:=by
 obtain⟨oe,vs,ho,hc,_,hd,h1,hv,hT⟩:=x;obtain⟨nTe,oT,ts,Y1,Zs,h3,hn⟩:=hT T Z';unfold setFlight;refine cX (fu ho hd hv ?_);rw[dg (by rfl)];refine ij Y1 Zs h3 (h _ λb=>?_);by_cases z:T=b
 .subst z;obtain⟨oc,od,odt,YD⟩:=oT;obtain rfl:odt=.fields ts:=Zs;rw[fL _ Y1 Z',Y1];show Fa (Obj.mk oc od (.fields (ts.setIfInBounds 3 .none)) YD)=_;have:ts.setIfInBounds 3 .none=ts:=by
   apply Array.ext
   .simp
   .intro i h1 h2;rw[Array.getElem_setIfInBounds];split
    .rename_i e;subst e;rw[jD h3]at hn;exact(dv hn).symm
    .rfl
  rw[this]
 .exact gj _ _ z
def RW(X:Cx)(e:Go)(t:St->Hp->VK->(Hp->Prop)->XK->Prop):Prop:=∀(XN:QQY) (s:Sd) (Y:St) (H:Hp) (Q:VK) (J:Hp->Prop) (E:XK),Inv X XN Y H s->t Y H Q J E->pi (Tk X.prog X.w) X.A (wp e X.env) (EP X XN Y Q) (W9 X XN Y J E) s
def Xo(X:Cx)(st:sK)(t:FY->St->Hp->(Hp->Prop)->XK->Prop):Prop:=∀(XN:QQY) (s:Sd) (Y:St) (H:Hp) (D:FY) (J:Hp->Prop) (E:XK),Inv X XN Y H s->t D Y H J E->pi (Tk X.prog X.w) X.A (exec st X.env) (SP X XN D) (W9 X XN Y J E) s
def Pm{X:Cx}{i:Nat}{x:Str}{te:St->Hp->VK->(Hp->Prop)->XK->Prop}{pos X1:Pos}(hN:X.N.Nodup)(hi:X.N[i]?=Fa x)(hx:Lm X.env.scope x)(he:RW X e te)(hs:ZB e (Fa (.Name x X1)) pos.line X.env=pure lf:=by rfl)(hf:Lq X x:=by first|exact .inl Z'|exact .inr Z'|assumption):
  Xo X (.Assign [.Name x X1] e pos) (λD Y H J E=>te Y H (λv H'=>D.nx (Y.set i (Fa v)) H') J E):=by
 intro XN s Y H D J E I h;refine lH (sZ (he XN s Y H _ J E I h) λv s1 zz=>x5 zz λy H1 I1 r1 q1=>?_) hs;exact xT I1 hN hi hx r1 (λs2 I2=>⟨_,H1,I2,q1⟩) hf
variable {k:Nat}{f C:Uf}{fd:sB}{ps:QQQ}{sp:Sp}{YC:T0 V}{ds:T0 Vl}{m:Str}{p pos XS:Pos}{e o:Go}{es:T0 Go}{t:TA}
section
variable {x:Str}
def NG(F:xP X.prog X.w X.K X.mg X.base (Dt X.prog X.w) k f fd ps sp)(hr:sJ k X.A)(hg:Gl X x)(hm:X.mg x=Fa (.ref f))(hk:W.keepIn X.K (.ref f)=pc)(hb:vt X.K fd ps ds)(hd:qT YC ds) (ha:PA (X.oq λ_ _=>False) (e::es) t) (Yc:zm x:=by decide) (he:Bt X e es:=by rfl) (X8:Cg X pos es:=by rfl):
  RW X (.Call (.Name x p) (e::es) [] pos) (λY H Q J E=>t Y H λvs H1=>J H1/\sp (vs++YC) H1 Q E):=by
 intro XN s Y H Q J E I h;refine gu (xq I hg hm ?_ Yc);refine iS (h₀:=X.base) I.ok.mod.oM hk (eD (ha pos XN s Y H _ I.oq h) (λus s1 ⟨vs,H1,I1,r,jH,q⟩=>⟨I1.nA,?_⟩) λ_ _ z=>z.elim) he X8;have I1:=I1.xeOf;have r2:qT (vs++YC) (us++ds):=r.append hd;have hl:(us++ds).length=ps.length:=by rw[<-r2.length];exact F.len _ _ _ _ q
 refine il (gy (F.run X.A X.stack s1 H1 ⟨us,[]⟩ (us++ds) (vs++YC) Q E hr I1.oC (hb s1 us I1.nA hl) r2 q) λr s' hq=>?_);cases r with
 | error e=>exact⟨H1,s1,jH,I1,hq⟩
 | ok fl=>
  cases fl with
  | ret u=>exact I1.after hq
  | next=>exact False.elim hq
  | brk=>exact False.elim hq
  | cont=>exact False.elim hq
end
structure MH(K:qM)(C:Uf):Prop where
 hd:(W.clsIn K C).isSome=pc
 ga:W.findIn K (.ref C) "__getattribute__"=Fa (Fa (.builtin "BaseException.__getattribute__"))
 gt:W.findIn K (.ref C) "__getattr__"=Fa Db
 ha:W.findIn K (.ref C) "__class__"=Fa (Fa (.builtin "object.__class__"))
 hn:W.specialIn K (.builtin "object.__class__") "__get__"=Fa (Fa (.builtin "getset_descriptor.__get__"))
 htk:W.takesIn K (.builtin "object.__class__")=Fa pc
 hm:W.mroIn K C (.type "object")=Fa pc
 hb:W.mroIn K C (.type "BaseException")=Fa pc
def QZ:builtinKind "BaseException.__getattribute__"=Fa Manifest.AttrKind.slot:=by decide+kernel
def Nq:splitId "BaseException.__getattribute__"=Fa ("BaseException","__getattribute__"):=by decide+kernel
variable {prog:Pg}{w:Wo}{A:Ar}{E:QQX}{K:qM}{ox:Obj}
section
variable {x:Uf}
def MQ{nameV:Vl}{Q:Unit->Sd->Prop}{M:Model}(c:MH K C)(X:K.In s.heap)(hx:s.heap.get? x=Fa ox)(hc:ox.cls=.ref C)(hq:Q () s):pi M A (checkBuiltinCall "BaseException.__getattribute__" {pos:=[Value.ref x,nameV]}) Q E s:=by
 unfold checkBuiltinCall;simp only[QZ,Nq];unfold isInstance;refine cX (cX ?_);refine(Cb hx).at ?_;rw[hc];refine(W.looks_mroIn X c.hb).at ?_;rw[de (by decide)];have ha:=F.args_bexc_ga (Value.ref x) nameV;unfold argsOk at ha;have:∀t:Sem Unit,t=pure ()->pi M A t Q E s:=λt z=>by rw[z];exact dq hq
 exact this _ ha
end
end L2
namespace L3
open L2
theorem _root_.L2.TKept.ext{K:qM}(h:TKept H H'):rA K H H':=⟨λa xs q=>by
 rcases q with(q|⟨u,q⟩)|q
 .exact .inl (.inl (h.1 a xs q))
 .exact .inl (.inr ⟨u,h.2 a u _ q⟩)
 .exact .inr q,λa o xs q=>h.2 a o _ q⟩
abbrev Ul:=vO->Mp->DK->XR->Prop
def XA(K:qM)(t:Ul):St->Hp->VK->(Hp->Prop)->XK->Prop:=λY H Q' J E=>CO λU M Q R=>zA K H Y U/\HM K H M/\t U M Q R/\(∀v H' d M',sj K H' d v->HM K H' M'->rA K H H'->Q d M'->Q' v H')/\(∀H1,rA K H H1->J H1)/\VQ K R E
def Xu(X:Cx)(e:Go)(t:Ul):Prop:=RW X e (XA X.K t)
def RW.mono{t t':St->Hp->VK->(Hp->Prop)->XK->Prop}(h:RW X e t)(m:∀Y H Q J E,t' Y H Q J E->t Y H Q J E):RW X e t':=λXN s Y H Q J E I q=>h XN s Y H Q J E I (m Y H Q J E q)
variable {X:Cx}{x:Str}{p pos np XY:Pos}{e:Go}{es:T0 Go}{t:xR}{k:Nat}{f C:Uf}{fd:sB}{ps:QQQ}{sp:Hd}
def Ou(F:Uj X.prog X.w X.K X.mg X.base k f fd ps sp)(hr:sJ k X.A)(hg:Gl X x)(hm:X.mg x=Fa (.ref f))(hk:W.keepIn X.K (.ref f)=pc)(hb:vt X.K fd ps [])(ha:A3 (X.oq λ_ _=>False) (e::es) t) (Yc:zm x:=by decide) (he:Bt X e es:=by rfl) (X8:Cg X pos es:=by rfl):
  Xu X (.Call (.Name x p) (e::es) [] pos) (λU M Q R=>t U M λds M1=>sp ds M1 Q R):=RW.mono (NG F hr hg hm hk hb .nil ha Yc he X8) λY H Q' J E ⟨U,M,Q,R,hs,hm,ht,k,kJ,kR⟩=>
 ⟨U,M,_,hs,hm,ht,λvs H1 ds M1 hd XQ e1 q1=>⟨kJ H1 e1,ds,M1,Q,R,by rw[eN];exact hd,XQ,q1,wb e1 k,kR⟩⟩
variable {b₀:sK}{Ze:T0 sK}{cn n:Str}{cnp Zn XS xpos:Pos}{Cc L:Uf}{outer:T0 Env}{i ix:Nat}{te:Ul}{th:yo}
def zA.unset{K:qM}{i:Nat}(h:zA K H Y U):zA K H (Y.set i Db) (U.set i Db):=λj e q=>by
 by_cases hj:j=i
 .subst hj;by_cases hl:j<U.length
  .rw[eO hl]at q;cases q
  .rw[gN (by simpa using hl)]at q;cases q
 .rw[eX (dS hj)]at q ⊢;exact h j e q
end L3
namespace L2
noncomputable def CM(es:Array DictEntry):Bool:=es.toList.all λe=>match e.key with|.str _ _=>pc|_=>lf
def Cz{es:Array DictEntry}(h:CM es=pc):StrKeys es:=λe he=>by
 have:=eS.mp h e (kx.mpr he);cases z:e.key with
 | str n t=>exact⟨n,t,Z'⟩
 | _=>rw[z]at this;cases this
abbrev LP:T0 Vl:=[.type "ValueError",.type "Exception",.type "BaseException",.type "object"]
def Q9{K:qM}{t:Vl}{C:Uf}{cd:ClassData}{b:Bool}(q0:W.subIn K (.ref C) (.type "BaseException")=Fa pc)(q1:W.clsIn K C=Fa cd)(q2:W.typeIn K (.ref C)=Fa (.type "type"))(s:W.subIn K t (.ref C)=Fa b):W.exmOne K t (.ref C)=Fa b:=by unfold W.exmOne;rw[q0,dg (by rfl)];unfold W.kitCls;simp only;rw[q1,q2,dg (by rfl)];exact s
end L2
namespace L3
open L2
end L3
namespace L2
theorem C1(self:Vl):∀own:QXQ,refuseLoop self "__setattr__" (own.map Value.ref++LP)=pure ()
 | []=>jR.passes self
 | c::r=>by show refuseLoop self "__setattr__" (.ref c::(r.map Value.ref++LP))=pure ();rw[refuseLoop_ref];exact C1 self r
variable {prog:Pg}{w:Wo}{A:Ar}{s:Sd}{K:qM}{x C:Uf}{ox:Obj}{own:QXQ}{name:Str}{v:Vl}
section
variable {E:QQX}{cd:ClassData}
def QL{Q:Unit->Sd->Prop}(X:K.In s.heap)(I:W.InstAt s.heap x ox C Db)(hs:W.findIn K (.ref C) "__setattr__"=Fa (Fa (.builtin "object.__setattr__")))(hc:W.clsIn K C=Fa cd)(hm:cd.mro=own.map Value.ref++LP)(ht:W.takerIn K C name=Fa Db)(hd:cd.hasDict=pc) (h:∀h' d t,(∀b o,b≠x->s.heap.get? b=Fa o->h'.get? b=Fa o)->h'.get? x=Fa {ox with dict:=some d}->s.heap.get? d=Db->d≠x->h'.Ns1 d (λy=>if y=name then Fa v else Db)->Q () {s with heap:=h',toks:=t}):pi (Tk prog w) A (setAttr (.ref x) name v) Q E s:=by
 refine W.set_plain X I hs ?_;have SF:=jR;have ne:cd.mro.isEmpty=lf:=by rw[hm];cases own<;>rfl
 have has:cd.mro.contains (.type "object")=pc:=by
  rw[hm,List.contains_eq_any_beq,mC];have:LP.any (Value.type "object"==·)=pc:=by decide+kernel
  rw[this,lB]
 have sub:W.Looks (Tk prog w) s.heap (isInstance (.ref x) (.type "object")) pc:=I.type.andThen (W.looks_mroIn X (by unfold W.mroIn;rw[hc,mq,de (by rw[ne];decide),has]));refine io SF.slot.plain SF.entry (@PySem.W.check_slot (Tk prog w) _ _ {s with toks:=s.toks+1} "object.__setattr__" "object" "__setattr__" (.ref x) [.str name s.toks,v] [] _ SF.kind SF.split sub (SF.args (.ref x) (.str name s.toks) v) ?_);obtain⟨attr,ha,hr⟩:=Option.bind_eq_some_iff.mp ht;have hmro:W.Looks (Tk prog w) s.heap (mroOf (.ref C)) cd.mro:=(kF X hc).andThen .now;have L3':W.Looks (Tk prog w) s.heap (Builtin.ObjectAttr.storeTaker? attr) Db:=by
  cases attr with
  | none=>exact .now
  | some a=>
   obtain⟨b,hb,hr⟩:=iK.mp hr;refine(W.looks_takesIn X hb).andThen ?_;cases b
   .exact .now
   .cases hr
 rw[W.osa_eq,refuse_eq];refine cX (cX (I.type.here (s:={s with toks:=s.toks+1}) (cX (hmro.here (s:={s with toks:=s.toks+1}) ?_))));rw[hm,C1];refine dq (cX (I.type.here (s:={s with toks:=s.toks+1}) (cX ((jj X ha).here (s:={s with toks:=s.toks+1}) (cX (L3'.here (s:={s with toks:=s.toks+1}) ?_))))));obtain⟨hx,hcl,hn,ZH⟩:=I;obtain⟨oc,odi,oda,YD⟩:=ox;dsimp only at hcl ZH;subst hcl;cases odi with
 | some _=>exact ZH.elim
 | none=>
  refine cX (dq (cX (cX (wpAny_loadPart hx (cX (mH (s:={s with toks:=s.toks+1}) (kF X hc) ?_))))));rw[hd];rw[de (by decide)];obtain⟨hh,g,dr,tk,os⟩:=s;dsimp only at hx h ⊢;rw[de (by simp[typeHasDict])];split
  .cases hn
  .have y1:(hh.push W.emptyDict).get? x=Fa ⟨.ref C,Db,oda,YD⟩:=df _ hx;have nx:x≠hh.objs.size:=λz=>ft _ (z ▸ dD hx);refine cX (wpAny_alloc' (cX (wpAny_update' y1 (dq ?_))));have e0:((hh.push W.emptyDict).update x λo=>{o with dict:=some hh.objs.size}).Ns hh.objs.size (λ_=>Db):=⟨W.emptyDict,#[],_,(kO _ _ _ _ nx.symm).trans (dN hh Z'),Z',λe he=>absurd he (by simp),λ_=>rfl⟩;refine cX (dq (cX (wpAny_nsSet1 (lK e0) λh' n1 sb=>?_)));obtain⟨oD,esD,epD,g1,g2,g3⟩:=n1.count (Within.cons name v Within.nil);refine cX (lX g1 (g2 ▸ lY (d9 g3 (by rw[dP,dQ];decide))) (dq (h h' hh.objs.size _ (λb o hb z=>?_) ?_ (gT (dw _)) nx.symm n1)))
   .exact(sb.2 b λy=>ft _ (y ▸ dD z)).trans ((kO _ _ _ _ hb).trans (df _ z))
   .refine(sb.2 x nx).trans (fL _ y1 ?_);have fr:=(Heap.get?_some_iff.mp hx).2;cases oda with
    | _=>first|rfl|exact fr
end
variable {nm q:Str}{bs bm Zf:T0 Vl}{hdct:Bool}{sn:QQQ}{sub:T0 Vl}{ab:Bool}{col:Option Bool}{dd:Option Uf}{k0 k1 k2 k3 k5:Option Vl}{B Bn newId nid Yl Au:String}{bmN:T0 Vl}{h:No}{g:Array GenState}{d:Drawn}{t:Nat}{os:OsState}
section
variable {E:QQX}{N:Uf}
abbrev QW(C t:Uf):Obj:={cls:=.ref C,data:=.fields #[.ref t,.none,.none,.none,.bool lf,.none]}
def BA(Fn:o0 Bn newId Au bmN)(hBn:Zf.contains (.type Bn)=pc)(F:o0 B nid Yl Zf)(T:OwnTail h Zf bm){mN:QQZ}{us:T0 Vl}{fI:Uf}{oI:Obj}{Q:PySem.Fin->Sd->Prop} (hC:h.get? C=Fa (XXb nm q C N bs bm hdct sn sub ab col dd k0 k1 k2 k3 k5 newId)) (hn:h.Ns N mN) (hi:mN "__init__"=Fa (.ref fI)) (hf:h.get? fI=Fa oI) (hfc:oI.cls=.type "function") (XW:us.length<=Ch) (hq:∀h' e,Heap.MadeExcOf h h' e (.ref C) us->pi (Tk prog w) A (call (.ref fI) (.ref e::us)) (λr s'=>r=.none/\Q (.done (.ret (.ref e))) s') E ⟨h',g,d,t,os⟩):
  pi (Tk prog w) A (Builtin.«type.__call__» ⟨.ref C::us,[]⟩) Q E ⟨h,g,d,t,os⟩:=by
 repeat (first|with_reducible refine ic hC ?_|with_reducible refine wpAny_madeBy_exc hC ?_|wp_step)
 refine codeAny_call_builtin_code (iD _ Fn.quiet) (wpAny_check_new_subU Fn hBn T hC (codeAny_exc_new_subU Fn hBn F T hC ?_ XW));have kp:∀b o,h.get? b=Fa o->((h.push {cls:=.type "tuple",data:=.seq us.toArray}).push (QW C h.objs.size)).get? b=Fa o:=λb o z=>df _ (df _ z);have gE:((h.push {cls:=.type "tuple",data:=.seq us.toArray}).push (QW C h.objs.size)).get? (h.objs.size+1)=Fa (QW C h.objs.size):=by heap_get
 have hC2:=kp _ _ hC;have hn2:((h.push {cls:=.type "tuple",data:=.seq us.toArray}).push (QW C h.objs.size)).Ns N mN:=let⟨o,es,ep,e,r⟩:=hn;⟨o,es,ep,kp _ _ e,r⟩;have cC:(Value.ref C::bm).contains (.ref C)=pc:=by rw[iF,e9,ig]
 have T2:=T.keeps kp;show pi _ _ _ _ _ _;unfold isInstance
 repeat (first|with_reducible refine ic gE ?_|(with_reducible refine kP hC2 ?_;rw[cC])|wp_step)
 show pi _ _ (typeLookup (.ref C) _) _ _ _;refine wpAny_typeLookup_tail hC2 hn2 T2 F.mroIs F.init.lookup ?_;rw[hi];refine eI (cX ?_);unfold bindSpecial;refine cX (jM (T:="function") ⟨_,kp _ _ hf,hfc⟩ ?_);rw[dg (by decide)];refine dq (cX (eD (hq _ (h.objs.size+1) ⟨kp,gT (gx _),h.objs.size,gE,gT (dw _),df _ (Heap.get?_push_at Z' Z')⟩) (λr s' hr=>?_) λ_ _ z=>z));obtain⟨rfl,hQ⟩:=hr
 wp_walk
 exact hQ
def IV(Fn:o0 Bn newId Au bmN)(hBn:Zf.contains (.type Bn)=pc)(F:o0 B nid Yl Zf)(T:OwnTail h Zf bm){mN:QQZ}{us:T0 Vl}{fI:Uf}{oI:Obj}{Q:QQX} (hC:h.get? C=Fa (XXb nm q C N bs bm hdct sn sub ab col dd k0 k1 k2 k3 k5 newId)) (hn:h.Ns N mN) (hi:mN "__init__"=Fa (.ref fI)) (hf:h.get? fI=Fa oI) (hfc:oI.cls=.type "function") (XW:us.length<=Ch) (hq:∀h' e,Heap.MadeExcOf h h' e (.ref C) us->pi (Tk prog w) (A.under (.builtin "type.__call__" ⟨.ref C::us,[]⟩)) (call (.ref fI) (.ref e::us)) (λr s'=>r=.none/\Q (.ref e) s') E ⟨h',g,d,t,os⟩):
  pi (Tk prog w) A (call (.ref C) us) Q E ⟨h,g,d,t,os⟩:=by
 have f1:=tc_lookup;have f2:=tc_bind (.ref C);have hT:(⟨h,g,d,t,os⟩:Sd).TypeIs (.ref C) "type":=⟨_,hC,Z'⟩;refine il (jY ?_);show pi _ _ (callAny (.ref C) _) _ _ _
 repeat (any_goals(first|assumption|with_reducible refine ic hC ?_|wp_step))
 exact⟨Z',codeAny_call_builtin_at (iD _ (by decide+kernel)) entry_typeCall (wpAny_check_type_call_sub hC (BA Fn hBn F T hC hn hi hf hfc XW hq))⟩
end
variable {M:Model}{env:Env}
section
variable {E:QQX}{N:Uf}
def JR(h:No)(e C:Uf)(dx:Option Uf):Prop:=CP λt sl=>h.get? e=Fa ⟨.ref C,dx,.fields #[.ref t,.none,.none,.none,.bool lf,.none],sl⟩
def GL{x:Sem Vl}{Q:Flow->Sd->Prop}(X5:bm.contains (.type "BaseException")=pc)(hh:A.handled=Db) (h:pi M A x (λv s₁=>∃e dx,v=.ref e/\s₁.heap.get? C=Fa (XXb nm q C N bs bm hdct sn sub ab col dd k0 k1 k2 k3 k5 newId)/\JR s₁.heap e C dx/\E (.ref e) s₁) E s):
  pi M A (raiseStmt env (Fa x) Db) Q E s:=by
 have cB:(Value.ref C::bm).contains (.type "BaseException")=pc:=by rw[iF,X5,lB]
 unfold raiseStmt;refine cX (eD h (λv s₁ ⟨e,dx,ev,hC,⟨t,sl,he⟩,hE⟩=>?_) λ_ _ z=>z);subst ev;obtain⟨hp,g,d,tk,os⟩:=s₁
 repeat (first|with_reducible refine ic he ?_|with_reducible refine ic hC ?_|(with_reducible refine kP hC ?_;rw[cB])|wp_step)
 exact wpAny_raiseNew_none hh hE
def He(Fn:o0 Bn newId Au bmN)(hBn:Zf.contains (.type Bn)=pc)(F:o0 B nid Yl Zf){mN:QQZ}{fI:Uf}{x:Str}{np XY pos:Pos}{args:T0 Go}{Q:Flow->Sd->Prop} (X5:bm.contains (.type "BaseException")=pc) (hh:A.handled=Db) (X0:(wv XY (Tl args env)).any (·.1)=lf) (hi:mN "__init__"=Fa (.ref fI)) (h:pi (Tk prog w) A (wp (.Name x np) env) (λf s₁=>f=.ref C/\pi (Tk prog w) A (evalArgs (.ref C) pc (wv XY (Tl args env)) []) (λa s₂=>a.kw=[]/\a.pos.length<=Ch/\s₂.heap.get? C=Fa (XXb nm q C N bs bm hdct sn sub ab col dd k0 k1 k2 k3 k5 newId)/\s₂.heap.Ns N mN/\OwnTail s₂.heap Zf bm/\(∃oI,s₂.heap.get? fI=Fa oI/\oI.cls=.type "function")/\
    ∀h' e,Heap.MadeExcOf s₂.heap h' e (.ref C) a.pos->pi (Tk prog w) (A.under (.builtin "type.__call__" ⟨.ref C::a.pos,[]⟩)) (call (.ref fI) (.ref e::a.pos))
     (λr s'=>r=.none/\∃dx,s'.heap.get? C=Fa (XXb nm q C N bs bm hdct sn sub ab col dd k0 k1 k2 k3 k5 newId)/\JR s'.heap e C dx/\E (.ref e) s') E {s₂ with heap:=h'}) E s₁) E s):
  pi (Tk prog w) A (exec (.Raise (Fa (.Call (.Name x np) args [] XY)) Db pos) env) Q E s:=by
 rw[arm_exec_Raise];refine cX (hG (GL (C:=C) (nm:=nm) (q:=q) (N:=N) (bs:=bs) (bm:=bm) (hdct:=hdct) (sn:=sn) (sub:=sub) (ab:=ab) (col:=col) (dd:=dd) (k0:=k0) (k1:=k1) (k2:=k2) (k3:=k3) (k5:=k5) (newId:=newId) X5 hh ?_));refine cX (eD (wpAny_Call_ofName (eD h (λf s₁ ⟨ef,h₁⟩=>?_) λ_ _ z=>z)) (λv s₃ h₃=>cX (hG (dq h₃))) λ_ _ z=>z);subst ef;unfold XXg;refine cX (eI (eD h₁ (λa s₂ h₂=>cX (hG ?_)) λ_ _ z=>z));obtain⟨XS,akw⟩:=a;obtain⟨hkw,XW,hC,hn,T,⟨oI,hf,hfc⟩,h₂⟩:=h₂;obtain rfl:akw=[]:=hkw;obtain⟨hp,g,d,tk,os⟩:=s₂;simp only[X0];refine cX (wpAny_keeperOf_exc hC (cX (IV Fn hBn F T hC hn hi hf hfc XW λh' e hm=>eD (h₂ h' e hm) (λr s' ⟨z,dx,c1,c2,c3⟩=>⟨z,cX (eI (wpAny_point (dq ⟨e,dx,Z',c1,c2,c3⟩)))⟩) λ_ _ z=>z)))
end
def x0(a C:Uf)(h:No):Prop:=JR h a C Db
def x1(a C d:Uf)(h:No):Prop:=JR h a C (Fa d)
structure zt(K:qM)(C:Uf)(f:Str):Prop where
 sa:W.findIn K (.ref C) "__setattr__"=Fa (Fa (.builtin "object.__setattr__"))
 cd:∃cd own,W.clsIn K C=Fa cd/\cd.mro=List.map Value.ref own++LP/\cd.hasDict=pc
 tk:W.takerIn K C f=Fa Db
variable {X:Cx}{XN:T0 (Uf × Obj)}{Y σ':St}{H H1:Hp}{s1:Sd}{a:Uf}
section
variable {f:Str}
def Hm{A:Ar}{E:QQX}{Q:Unit->Sd->Prop}(I:Inv X XN Y H s)(e:H a=Fa (.ext (x0 a C)))(ry:rb y u)(st:zt X.K C f)(h:∀d s',H d=Db->d≠a->Inv X XN Y (upd (upd H a (.ext (x1 a C d))) d (.ext (OK d f y))) s'->Q () s'):pi (Tk X.prog X.w) A (setAttr (.ref a) f u) Q E s:=by obtain⟨⟨t,sl,ho⟩,_,_⟩:=I.m9 a _ e;obtain⟨cd,own,c1,c2,c3⟩:=st.cd;refine QL I.nA ⟨ho,Z',Z',trivial⟩ st.sa c1 c2 st.tk c3 λh' d tk k1 k2 dn da n1=>h d _ (zY I.m9 dn) da ?_;have I2:=I.write (t':=tk) (x:=a) (e:=a) (o:=.ext (x1 a C d)) (by rw[e];exact True.intro) (.inl Z') k1 ⟨_,k2⟩ ⟨⟨t,sl,k2⟩,⟨_,k2⟩,λh1 h2 ⟨t',Zi,z⟩ kk=>⟨t',Zi,kk _ z⟩⟩;refine I2.adopt I dn (by rw[qw da];exact zY I.m9 dn) ⟨⟨u,n1,ry⟩,?_,λh1 h2 ⟨u,n,r⟩ kk=>⟨u,n.at kk,r⟩⟩;obtain⟨o,_,_,z,_⟩:=n1;exact⟨o,z⟩
def Inv.drop{φ:No->Prop}(I:Inv X XN Y H s)(ea:H a=Fa (.ext φ)):Inv X XN Y (λb=>if b=a then Db else H b) s:=by
 have less:∀b,H b=Db->(if b=a then Db else H b)=Db:=λb e=>by split<;>first|rfl|exact e
 have keep:∀b o,H b=Fa o->(∀φ,o≠.ext φ)->(if b=a then Db else H b)=Fa o:=λb o e n=>by
  rw[de]
  .exact e
  .intro z;rw[z,ea]at e;exact n φ (dv e).symm
 refine⟨I.ok,I.os,I.bare,⟨I.base.keep,I.base.slot,λb o e h0 hb=>less b (I.base.free b o e h0 hb),I.base.there,λb xs e=>keep b _ (I.base.nO b xs e) (λ_ z=>nomatch z),λb o u e=>keep b _ (I.base.nJ b o u e) (λ_ z=>nomatch z),λb ps e=>?_⟩,I.loc,I.cell,less _ I.free,λx c e=>less _ (I.nv x c e),λp hp=>⟨(I.pin p hp).1,less _ (I.pin p hp).2.1,(I.pin p hp).2.2⟩,λb ob e=>?_,I.len⟩
 .obtain⟨more,z⟩:=I.base.nR b ps e;exact⟨more,keep b _ z (λ_ z=>nomatch z)⟩
 .have e':H b=Fa ob:=by
   by_cases z:b=a
   .rw[dg z]at e;cases e
   .rw[de z]at e;exact e
  exact(I.m9 b ob e').nK (λ_ _ _ q=>q) (λb' q=>keep b' _ q (λ_ z=>nomatch z)) λb' xs q=>keep b' _ q (λ_ z=>nomatch z)
end
def Ol(K:qM)(ta tv:TE)(f:Str):TS:=λD Y H=>tv Y H λy H1=>ta Y H1 λx H2=>∃a C,x=.ref a/\H2 a=Fa (.ext (x0 a C))/\zt K C f/\∀d,H2 d=Db->d≠a->D.nx Y (upd (upd H2 a (.ext (x1 a C d))) d (.ext (OK d f y)))
def P9{f:Str}{pos X1:Pos}{ta tv:TE}(ha:PE X o ta)(hv:PE X value tv)(hs:ZB value (Fa (.Attribute o f X1)) pos.line X.env=pure lf:=by rfl):PS X (.Assign [.Attribute o f X1] value pos) (Ol X.K ta tv f):=by intro XN s Y H D I h;refine iR (sZ (hv XN s Y H _ I h) λu s1 zz=>x5 zz λy H1 I1 ry q=>sZ (ha XN s1 Y H1 _ I1 q) λov s2 zz=>?_) hs;obtain⟨x,H2,I2,rx,a,C,ex,ea,st,q2⟩:=zz;subst ex;obtain rfl:ov=Value.ref a:=rx;exact Hm I2 ea ry st λd s3 dn da I3=>⟨Y,_,I3,q2 d dn da⟩
def xf(K:qM)(f:Str):Sp:=λvs H Q _=>Ea λe C y=>vs=[.ref e,y]/\H e=Fa (.ext (x0 e C))/\zt K C f/\∀d,H d=Db->d≠e->Q .mY (upd (upd H e (.ext (x1 e C d))) d (.ext (OK d f y)))
variable {qual:Str}{scope:XXd}{outer:T0 Env}{s0:Sd}{H0:Hp}{P:Pg}{mg:QQZ}{base:No}
section
def Mt{x qual y1 y2 fl:Str}{st:sK}(F:Pz K x qual st f fd)(S:tT [y1,y2] [y1,y2] (qz st)) (hb:∀(X2:Vl) (A:Ar) (outer:T0 Env) (s:Sd) (H:Hp) (E:XK),Cq (vW (Dt P w) P w K mg base [y1,y2] qual (qz st) f X2 A outer s H E) (su st) (Ol K (Gi 0) (Gi 1) fl)):xP P w K mg base (Dt P w) 1 f fd [y1,y2] (xf K fl):=by
 obtain⟨oc,od,kV,Yv,pm,an,X2,ct,YD,rfl,lk,YR⟩:=F.ex;refine MS lk YR S (λvs H Q E h=>?_) λA outer s H vs Q' E hr h=>⟨_,hb X2 A outer s H E,?_⟩
 .obtain⟨e,C,y,rfl,_⟩:=h;rfl
 .obtain⟨e,C,y,rfl,h1,h2,q⟩:=h;exact⟨y,Z',.ref e,Z',e,C,Z',h1,h2,q⟩
def JM(K:qM)(C fI:Uf):Prop:=
 ∃nm q N bs bm Zf hdct sn sub ab col dd k0 k1 k2 k3 k5,∃B Bn newId nid Yl Au:String,∃bmN,∃mN:QQZ,o0 Bn newId Au bmN/\Zf.contains (Value.type Bn)=pc/\o0 B nid Yl Zf/\bm.contains (Value.type "BaseException")=pc/\mN "__init__"=Fa (.ref fI)/\
  ∀h:No,K.In h->h.get? C=Fa (XXb nm q C N bs bm hdct sn sub ab col dd k0 k1 k2 k3 k5 newId)/\h.Ns N mN/\OwnTail h Zf bm/\∃oI,h.get? fI=Fa oI/\oI.cls=.type "function"
variable {N:QQQ}{f:Uf}{cd:Vl}{E:XK}
def KP{X:Cx}(hX:X=vW (Dt P w) P w K mg base N qual scope f cd A outer s0 H0 E){C fI:Uf}{fdI:sB}{ps:QQQ}{fl:Str}{k:Nat}{x:Str}{np XY pos:Pos}{e:Go}{ta:TA}(hC:JM X.K C fI)(F:xP X.prog X.w X.K X.mg X.base (Dt X.prog X.w) k fI fdI ps (xf X.K fl))(hr:sJ (k+1) X.A)(hb:vt X.K fdI ps [])(st:zt X.K C fl) (hg:Gl X x) (hm:X.mg x=Fa (.ref C)) (ha:PA X [e] ta) (hs:Tl [e] X.env=[(lf,wp e X.env)]:=by rfl) (Yc:zm x:=by decide):
  PS X (.Raise (Fa (.Call (.Name x np) [e] [] XY)) Db pos) (λ_ Y H=>ta Y H λvs H1=>∃y,vs=[y]/\∀d,H1 d=Db->E (.ref C) (Fa d) (upd H1 d (.ext (OK d fl y)))):=by
 intro XN s Y H D I h;obtain⟨nm,q,N',bs,bm,Zf,hdct,sn,sub,ab,col,dd,k0,k1,k2,k3,k5,B,Bn,newId,nid,Yl,Au,bmN,mN,f1,f2,f3,f4,f5,ZM⟩:=hC;have hcalm:X.A.handled=Db:=I.ok.hd (by rw[hX];rfl);refine He (nm:=nm) (q:=q) (N:=N') (bs:=bs) (hdct:=hdct) (sn:=sn) (sub:=sub) (ab:=ab) (col:=col) (dd:=dd) (k0:=k0) (k1:=k1) (k2:=k2) (k3:=k3) (k5:=k5) f1 f2 f3 f4 hcalm (by rw[hs];rfl) f5 (xq I hg hm ⟨Z',?_⟩ Yc);rw[hs];refine evalArgs_kwB Z' ?_;have Zr:=ha XY XN s Y H _ I h;rw[hs]at Zr;refine sZ Zr λus s1 zz=>?_;obtain⟨vs,H1,I1,r1,y,ey,q1⟩:=zz;subst ey;obtain⟨u,rfl,ru⟩:=yu r1;refine wpAny_evalAll_nil ?_;obtain⟨c1,c2,c3,c4⟩:=ZM s1.heap I1.nA;refine⟨Z',by show 1<=Ch;rw[dP];decide,c1,c2,c3,c4,λh' e' md=>?_⟩;obtain⟨mk,mn,t,mt,_⟩:=md;have hn:H1 e'=Db:=zY I1.m9 mn;have I2:Inv X XN Y H1 {s1 with heap:=h'}:=I1.kept (t':=s1.toks) mk;have I3:Inv X XN Y (upd H1 e' (.ext (x0 e' C))) {s1 with heap:=h'}:=I2.adopt I1 mn hn ⟨⟨t,_,mt⟩,⟨_,mt⟩,λh1 h2 ⟨t',Zi,z⟩ kk=>⟨t',Zi,kk _ z⟩⟩;have r2:qT [V.ref e',y] [Value.ref e',u]:=.cons Z' (.cons ru .nil);have Zk:xf X.K fl [V.ref e',y] (upd H1 e' (.ext (x0 e' C))) (λv H2=>v=.mY/\∃d,d≠e'/\H1 d=Db/\H2=upd (upd H1 e' (.ext (x1 e' C d))) d (.ext (OK d fl y))) (λ_ _ _=>False):=⟨e',C,y,Z',qC,st,λd dn da=>⟨Z',d,da,by rw[qw da]at dn;exact dn,by rw[QD]⟩⟩;have hl:([Value.ref e',u]:T0 Vl).length=ps.length:=by rw[<-r2.length];exact F.len _ _ _ _ Zk
 refine il (gy (F.run _ X.stack _ _ ⟨[Value.ref e',u],[]⟩ [Value.ref e',u] _ _ _ (hr.make C [u] []) (I3.oC.make C [u] []) (hb _ [Value.ref e',u] I3.nA hl) r2 Zk) λr s' Zw=>?_);cases r with
 | error ev=>obtain⟨_,_,_,_,_,_,z,_⟩:=Zw;exact z.elim
 | ok fw=>
  cases fw with
  | ret uv=>
   obtain⟨v,H',I4,rv,ev,d,da,dn,eH⟩:=I3.after Zw;subst ev eH;obtain⟨⟨t',Zi,md⟩,_,_⟩:=I4.m9 e' _ (by rw[qw (dS da)];exact qC);have I5:Inv X XN Y (upd H1 d (.ext (OK d fl y))) _:=(funext λb=>by
    by_cases z:b=e'
    .subst z;rw[dg Z',qw (dS da),hn]
    .rw[de z];by_cases z2:b=d
     .subst z2;rw[qC,qC]
     .rw[qw z2,qw z2,qw z]:(λb=>if b=e' then Db else upd (upd H1 e' (.ext (x1 e' C d))) d (.ext (OK d fl y)) b)=upd H1 d (.ext (OK d fl y))) ▸ I4.drop (a:=e') (φ:=x1 e' C d) (by rw[qw (dS da)];exact qC)
   refine⟨rv,Fa d,(ZM s'.heap I4.nA).1,⟨t',Zi,md⟩,?_⟩;subst hX;have Yj:Un (wW outer) [] H0 H1 s0.heap s1.heap:=I1.base;exact U0 I5 (tb:=none) ⟨_,_,md,Z',Z',Z',(by show 1<6;decide),Z',λT z=>by cases z⟩ (G7 Yj Z' mn) (λT z=>by cases z) (by rw[qw (dS da)];exact hn) (q1 d dn)
  | next=>exact False.elim Zw
  | brk=>exact False.elim Zw
  | cont=>exact False.elim Zw
end
end L2
namespace L3
open L2
variable {P:Pg}{w:Wo}{K:qM}{mg:QQZ}{base:No}{N:QQQ}{qual:Str}{scope:XXd}{f:Uf}{cd:Vl}{A:Ar}{outer:T0 Env}{s0:Sd}{H0:Hp}{E:XK}{x:Str}{np XY pos:Pos}{e:Go}{C fI:Uf}{fdI:sB}{ps:QQQ}{fl:Str}{k:Nat}{R:XR}{ta:xR}
def Qi(C:Uf)(R:XR)(f:Str)(ta:xR):yo:=λ_ U M=>ta U M λds M1=>∃z,ds=[z]/\R C (Fa (f,z)) M1
def KU(hC:JM K C fI)(F:xP P w K mg base (Dt P w) k fI fdI ps (xf K fl))(hr:sJ (k+1) (vW (Dt P w) P w K mg base N qual scope f cd A outer s0 H0 E).A)(hb:vt K fdI ps [])(st:zt K C fl)(_:W.findIn K (.ref C) "__init__"=Fa (Fa (.ref fI)))(hg:Gl (vW (Dt P w) P w K mg base N qual scope f cd A outer s0 H0 E) x)(hm:mg x=Fa (.ref C))(hR:VQ K R E)(ha:A3 (vW (Dt P w) P w K mg base N qual scope f cd A outer s0 H0 E) [e] ta) (hs:Tl [e] (vW (Dt P w) P w K mg base N qual scope f cd A outer s0 H0 E).env=[(lf,wp e (vW (Dt P w) P w K mg base N qual scope f cd A outer s0 H0 E).env)]:=by rfl) (Yc:zm x:=by decide):
  S3 (vW (Dt P w) P w K mg base N qual scope f cd A outer s0 H0 E) (.Raise (Fa (.Call (.Name x np) [e] [] XY)) Db pos) (Qi C R fl ta):=
 PS.mono (KP Z' hC F hr hb st hg hm ha hs Yc) λD' Y H ⟨U,M,D,hs,hm,ht,_⟩=>⟨U,M,_,hs,hm,ht,λvs H1 ds M1 hd XQ e1 q1=>by
  obtain⟨z,rfl,r⟩:=q1;obtain⟨v,rfl,hv⟩:=sG hd;exact⟨v,Z',λd dn=>hR C (Fa d) _ M1 _ (XQ.add dn) (.inr ⟨d,fl,z,v,Z',Z',qC,hv.mono (.new dn)⟩) r⟩⟩
variable {X:Cx}{b₀:sK}{Ze:T0 sK}{cn:Str}{cnp Zn epos:Pos}{Cc L:Uf}{te:Ul}{th:yo}
end L3
namespace L2
def Nf{K:qM}{C C2 N fI:Uf}{nm q:Str}{bs sub:T0 Vl}{hdct ab:Bool}{sn:QQQ}{col:Option Bool}{dd od1 od2 dd2:Option Uf}{k0 k1 k2 k3 k5:Option Vl}{oc1 oc2 c0:Vl}{es1 es2:Array DictEntry}{ep1 ep2:Nat}{sl1 sl2 Wh:Array (Option Vl)}{cd2:ClassData}{oI:Obj} (l1:K.lookup C=Fa (XXb nm q C N bs (.ref C2::LP) hdct sn sub ab col dd k0 k1 k2 k3 k5 "ValueError.__new__")) (n1:K.lookup N=Fa ⟨oc1,od1,.dict es1 ep1,sl1⟩) (s1:CM es1=pc) (i1:nsFind es1 "__init__"=Fa (.ref fI)) (l2:K.lookup C2=Fa ⟨c0,dd2,.cls cd2,Wh⟩) (n2:K.lookup cd2.ns=Fa ⟨oc2,od2,.dict es2 ep2,sl2⟩) (s2:CM es2=pc) (i2:nsFind es2 "__init__"=Db) (l3:K.lookup fI=Fa oI) (hf:W.isFn K (.ref fI)=pc):JM K C fI:=by
 have hc:oI.cls=.type "function":=by have hf:=fA.mp hf;unfold W.typeIn at hf;simp only at hf;rw[l3]at hf;exact dv hf
 refine⟨nm,q,N,bs,.ref C2::LP,LP,hdct,sn,sub,ab,col,dd,k0,k1,k2,k3,k5,"ValueError","ValueError","ValueError.__new__","ValueError.__new__","ValueError.__init__","ValueError.__init__",LP,λn=>nsFind es1 n,kD,by decide+kernel,kD,?_,i1,λh X=>⟨X C _ l1,⟨_,es1,ep1,X N _ n1,Z',Cz s1,λ_=>rfl⟩,.own (X C2 _ l2) ⟨_,es2,ep2,X _ _ n2,Z',Cz s2,λ_=>rfl⟩ i2 .base,oI,X fI _ l3,hc⟩⟩;rw[iF];have:LP.contains (.type "BaseException")=pc:=by decide+kernel
 rw[this,lB]
def KY{K:qM}{C C2 N:Uf}{nm q f:Str}{bs sub:T0 Vl}{ab:Bool}{sn:QQQ}{col:Option Bool}{dd:Option Uf}{k0 k1 k2 k3 k5:Option Vl}(l1:K.lookup C=Fa (XXb nm q C N bs (.ref C2::LP) pc sn sub ab col dd k0 k1 k2 k3 k5 "ValueError.__new__"))(sa:W.findIn K (.ref C) "__setattr__"=Fa (Fa (.builtin "object.__setattr__")))(tk:W.findIn K (.ref C) f=Fa Db):zt K C f:=by refine⟨sa,⟨_,[C,C2],by unfold W.clsIn;rw[l1],Z',Z'⟩,?_⟩;unfold W.takerIn;rw[tk];rfl
end L2
namespace L3
open L2
noncomputable def Tz(XO:Array Vl)(x:Vl)(i:Nat)(_:Option PySem.Fin×Unit):Sem (ForInStep (Option PySem.Fin×Unit)):=match XO[i]? with
 | some y=>do
  let b<-eqBool y x
  if b=pc then do
   let v<-retInt ↑i
   pure (ForInStep.done (Fa v,()))
  else pure (ForInStep.yield (Db,()))
 | _=>pure (ForInStep.yield (Db,()))
def Ec(l:Uf)(XO:Array Vl)(n:Nat)(dd:Option Uf)(sl:Array (Option Vl))(x:Vl)(e:Vl->Bool)(j:Nat)(hj:j<XO.size)(hit:e XO[j]=pc)(hno:∀m (hm:m<XO.size),m<j->e XO[m]=lf):
  Meets (Builtin.«tuple.index» ⟨[.ref l,x],[]⟩)
   (λA R s=>s.heap.get? l=Fa {cls:=.type "tuple",dict:=dd,data:=.seq XO n,slots:=sl}/\(∀y,y∈XO->SeqAt.EqAt A.in1 s y x (e y))/\R (.ok (.ret (.int j s.toks))) {s with toks:=s.toks+1}):=
 .of_wp λprog w A R s h=>by
  obtain⟨hp,g,d,tk,os⟩:=s;obtain⟨hl,he,h⟩:=h
  wp_walk using wpAny_loadPart' hl
  change pi _ _ (forIn ([:min XO.size XO.size]:Std.Legacy.Range) ((Db,()):Option PySem.Fin×Unit) (Tz XO x)) _ _ _;rw[kQ];have hr:List.range' ([:min XO.size XO.size]:Std.Legacy.Range).start ([:min XO.size XO.size]:Std.Legacy.Range).size ([:min XO.size XO.size]:Std.Legacy.Range).step=List.range' 0 XO.size 1:=by simp[Std.Legacy.Range.size]
  rw[hr];refine eD (wpAny_forIn_list (Tz XO x) (λrest b s'=>b.1=Db/\s'=⟨hp,g,d,tk,os⟩/\∃i,i<=j/\rest=List.range' i (XO.size - i) 1) (λb s'=>b.1=Fa (.done (.ret (.int j tk)))/\s'=⟨hp,g,d,tk+1,os⟩) ?_ ?_ _ _ ⟨Z',Z',0,eE _,Z'⟩) (λb s' hb=>?_) λ_ _ z=>z
  .rintro k rest b s' ⟨hb,rfl,i,hi,er⟩
   have hsz:XO.size - i=(XO.size - i - 1)+1:=by lia
   rw[hsz,List.range'_succ]at er;obtain⟨rfl,rfl⟩:=gQ er;have hk:k<XO.size:=by lia
   unfold Tz;rw[jD hk];refine cX (he XO[k] (Array.getElem_mem hk) prog w _ _ ?_);by_cases hkj:k<j
   .rw[hno k hk hkj];exact dq ⟨Z',Z',k+1,hkj,by rw[Nat.sub_sub]⟩
   .have:k=j:=by lia
    subst this;rw[hit];refine cX ?_
    wp_walk
    exact⟨Z',Z'⟩
  .rintro b s' ⟨_,_,i,hi,er⟩
   have:XO.size - i≠0:=by lia
   have:=eY List.length er;rw[List.length_range']at this;simp at this;lia
  .obtain⟨h1,rfl⟩:=hb;obtain⟨b1,b2⟩:=b;simp only at h1;subst h1;exact dq ⟨_,Z',h⟩
variable {X:Cx}{pos XS:Pos}{o e:Go}{es:T0 Go}{ta:T3}{t:xR}
def Nl(x:D)(ds:T0 D)(M:Mp)(Q:DK):Prop:=match x,ds with
 | .tup es,[y]=>ve y=pc/\es.all ve=pc/\(AE y es).elim False λj=>Q (.int (j:Nat)) M
 | _,_=>False
def Kr:M3 X "tuple.index" Nl:=by
 intro XN s Y H vx vs v us Q' I rx rv h;obtain⟨x,ds,M,Q,hx,hd,hm,q,k⟩:=h;unfold Nl at q;split at q
 .rename_i es y;obtain⟨f1,f2,q⟩:=q;obtain⟨j,e1,q⟩:=rD q;obtain⟨a,xs,rfl,h1,h2⟩:=hx.mZ;cases rx;obtain⟨w,rfl,hw⟩:=sG hd;obtain⟨u,rfl,ru⟩:=yu rv;obtain⟨its,r,⟨ob,g1,g2,n,g3⟩,hz⟩:=I.tuple h1;obtain⟨hl,p1,p2⟩:=Fx hw f1 h2 r f2 e1;obtain⟨oc,od,odt,YD⟩:=ob;cases g2;cases g3;refine iU F.slot_tuple_index ⟨_,g1,Z'⟩ F.entry_tuple_index (F.args_tuple_index_2 _ _) (Ec a its.toArray n od YD u (EH w) j (by simpa using hl) (by simpa using p1) λm hm XZ=>by simpa using p2 m (by simpa using hm) XZ) ⟨g1,?_,?_⟩
  .intro z hz';exact vU ru (yk hw f1) r (BY h2 f2) z (by simpa using hz')
  .exact⟨.int (j:Nat),H,I.tok _,⟨_,Z'⟩,k _ _ _ _ .int hm .refl q⟩
 .exact q.elim
def Uh{id:String}{ta:TA}(slot:Slot "tuple" name id)(hty:typeOf (.builtin id)=pure (.type "method_descriptor"))(hm:Xc X id r)(ho:PE X o to)(ha:PA X (e::es) ta) (X5:Rs o name X.env (wp o X.env)=wp o X.env) (Yr:((wv pos (Tl (e::es) X.env)).all (λx=>!x.1)&&(TD pos (Op [] X.env)).all (λx=>x.1.isSome)&&decide ((e::es).length+([]:T0 IN).length+(if ([]:T0 IN).isEmpty then 0 else 1)<30))=pc) (Yf:(XS.endLine==pos.line)=pc) (hs:Tl (e::es) X.env=(lf,wp e X.env)::Tl es X.env) (X0:(wv pos (Tl es X.env)).any (·.1)=lf):
  PE X (.Call (.Attribute o name XS) (e::es) [] pos) (λY H Q=>to Y H λx H1=>(∃p xs,x=.ref p/\vA X.K H1 p xs)/\ta Y H1 λxs H2=>r x xs H2 Q):=by
 intro XN s Y H Q I h;refine j8 X5 Yr Yf Z' (sZ (ho XN s Y H _ I h) λv s1 ⟨x,H1,I1,r1,⟨p,xs,ex,hq⟩,q1⟩=>?_);subst ex;cases r1;obtain⟨its,_,⟨ob,g1,g2,_,g4⟩,_⟩:=I1.oJ hq;refine⟨"tuple",id,PySem.F.plainAttrs_tuple,slot,hty,⟨ob,g1,g2⟩,λb z=>by cases z;exact⟨ob,g1,g4⟩,?_⟩;have hA:=ha pos XN s1 Y H1 _ I1 q1;rw[hs]at hA ⊢;refine j9 (by show(lf||(wv pos (Tl es X.env)).any (·.1))=lf;rw[X0]<;>rfl) (kz ?_);exact sZ hA λus s2 zz=>x5 zz λvs H2 I2 r2 q2=>hm XN s2 Y H2 (.ref p) vs (.ref p) us Q I2 Z' r2 q2
def Xx(r:D->T0 D->Mp->DK->Prop)(to:T3)(t:xR):T3:=λU M Q=>to U M λx M1=>match x with|.tup z=>t U M1 λds M2=>r (.tup z) ds M2 Q|_=>False
def Ft(ho:E3 X o ta)(ha:A3 X (e::es) t)(X5:Rs o "index" X.env (wp o X.env)=wp o X.env:=by rfl)
  (Yr:((wv pos (Tl (e::es) X.env)).all (λx=>!x.1)&&(TD pos (Op [] X.env)).all (λx=>x.1.isSome)&&decide ((e::es).length+([]:T0 IN).length+(if ([]:T0 IN).isEmpty then 0 else 1)<30))=pc:=by rfl)
  (Yf:(XS.endLine==pos.line)=pc:=by rfl) (hs:Bt X e es:=by rfl) (X0:Cg X pos es:=by rfl):
  E3 X (.Call (.Attribute o "index" XS) (e::es) [] pos) (Xx Nl ta t):=PE.mono (Uh PySem.F.slot_tuple_index PySem.F.type_tuple_index Kr ho ha X5 Yr Yf hs X0) λY H Q' zz=>x7 zz λU M Q hs hm ht k=>
 ⟨U,M,_,hs,hm,ht,λv H1 x M1 hx XQ e1 q1=>by
  cases x with
  | tup z=>obtain⟨a,xs,ev,h1,h2⟩:=id hx.mZ;exact⟨⟨a,xs,ev,h1⟩,U,M1,_,hs.mono e1,XQ,q1,λvs H2 ds M2 YS X6 e2 q2=>⟨.tup z,ds,M2,Q,hx.mono e2,YS,X6,q2,wb (e1.trans e2) k⟩⟩
  | _=>exact q1.elim⟩
structure FA where
 f:Uf
 d:sB
 p:QQQ
structure DG(K:qM)(st:sK)(py qual:Str)(ps:QQQ)(x:FA):Prop where
 pe:x.p=ps
 fn:Pz K py qual st x.f x.d
 b:vt K x.d x.p []
 ty:W.isFn K (.ref x.f)=pc
structure TG(K:qM)(mg:QQZ)(st:sK)(py:Str)(ps:QQQ)(x:FA):Prop extends DG K st py py ps x where
 mg:mg py=Fa (.ref x.f)
structure MG(K:qM)(C:Uf)(st:sK)(py qual:Str)(ps:QQQ)(x:FA):Prop extends DG K st py qual ps x where
 at_:W.findIn K (.ref C) py=Fa (Fa (.ref x.f))
structure CG(K:qM)(mg:QQZ)(nm:Str)(C:Uf):Prop extends Cls K C where
 mg:mg nm=Fa (.ref C)
def DG.kp{K:qM}{st:sK}{x:FA}(h:DG K st py qual ps x):W.keepIn K (.ref x.f)=pc:=h.fn.kp
def MG.nG{K:qM}{st:sK}{x:FA}(h:MG K C st py qual ps x):wu K C py x.f:=⟨h.at_,h.ty,h.toDG.kp⟩
def zN(K:qM)(C:Uf)(fs:QQQ):Prop:=∀f,fs.contains f=pc->uI K C f
def tX{K:qM}:zN K C []:=λf h=>by simp at h
def qk{K:qM}{C:Uf}{g:Str}(h:W.findIn K (.ref C) g=Fa Db)(r:zN K C fs):zN K C (g::fs):=λf q=>by
 rw[iF,hW]at q;rcases q with q|q
 .rw[Ix q];exact h
 .exact r f q
abbrev Fq(P:Pg)(w:Wo)(K:qM)(mg:QQZ)(base:No)(k:Nat)(x:FA)(sp:rO):Prop:=Us P w K mg base k x.f x.d x.p sp
abbrev WB(P:Pg)(w:Wo)(K:qM)(mg:QQZ)(base:No)(k:Nat)(x:FA)(sp:Hd):Prop:=Uj P w K mg base k x.f x.d x.p sp
noncomputable def Th(N P:QQQ)(sc:XXd):Bool:=sc.kind==.function&&(!sc.isCoroutine&&(!sc.isGenerator&&(decide N.Nodup&&(decide (N.take P.length=P)&&((P.all λx=>sc.names.lookup x==Fa .local||sc.names.lookup x==Fa .cell)&&sc.names.all λy=>!(y.2==.free))))))
def XH{N P:QQQ}(h:Th N P sc=pc):tT N P sc:=by
 unfold Th at h;simp only[dZ,gS,fA,eF]at h;obtain⟨h1,h2,h3,h4,h5,h6,h7⟩:=h;refine⟨h1,h2,h3,h4,h5,λx hx=>?_,λy hy e=>?_⟩
 .have:=eS.mp h6 x hx
  simpa using this
 .have:=eS.mp h7 y hy;rw[e]at this;simp at this
variable {P:Pg}{w:Wo}{K:qM}{mg:QQZ}{base:No}
def Wv{st:sK}{sp:rO}(F:DG K st x qual ps fa)(S:tT N ps (qz st))(len:∀ds M Q,sp ds M Q->ds.length=ps.length) (Ye:∀(X2:Vl) (A:Ar) (outer:T0 Env) (s:Sd) (H:Hp) (E:XK),sJ k (A.deeper (dL qual (qz st) s.heap.objs.size fa.f X2))->
   ∃t,HK (vW OF P w K mg base N qual (qz st) fa.f X2 A outer s H E).oQ (su st) t/\∀ds M Q,sp ds M Q->t {nx:=λ_ M'=>∃XU,qJ XU M'/\Q .mY XU,rt:=λd M'=>∃XU,qJ XU M'/\Q d XU} (xl N ds) M):Fq P w K mg base (k+1) fa sp:=by
 unfold Fq;rw[F.pe];exact U6 F.fn S len Ye
def U'{st:sK}{sp:Hd}(F:DG K st x qual ps fa)(S:tT N ps (qz st))(len:∀ds M Q R,sp ds M Q R->ds.length=ps.length) (Ye:∀(X2:Vl) (A:Ar) (outer:T0 Env) (s:Sd) (H:Hp) (E:XK) (R:XR),sJ k (A.deeper (dL qual (qz st) s.heap.objs.size fa.f X2))->VQ K R E->
   ∃t,HK (vW (Dt P w) P w K mg base N qual (qz st) fa.f X2 A outer s H E) (su st) t/\∀ds M Q,sp ds M Q R->t {nx:=λ_ M'=>∃XU,qJ XU M'/\Q .mY XU,rt:=λd M'=>∃XU,qJ XU M'/\Q d XU} (xl N ds) M):WB P w K mg base (k+1) fa sp:=by
 unfold WB;rw[F.pe];exact Vz F.fn S len Ye
variable {k n:Nat}{f C:Uf}{fa:FA}{st:sK}{qual:Str}{ps:QQQ}{sp:rO}{x m:Str}{p:Pos}
def pX(F:Fq X.prog X.w X.K X.mg X.base k fa sp)(hr:sJ n X.A)(T:TG X.K X.mg st x ps fa)(ha:A3 X (e::es) t)(hn:k<=n:=by first|decide|lia)(hg:Gl X x:=by rfl)
  (Yc:zm x:=by decide) (he:Bt X e es:=by rfl) (X8:Cg X pos es:=by rfl):
  E3 X (.Call (.Name x p) (e::es) [] pos) (EU sp t):=O0 F (hr.mono hn) hg T.mg T.toDG.kp T.b ha Yc he X8
def wc(F:Fq X.prog X.w X.K X.mg X.base k fa sp)(hr:sJ n X.A)(c:CG X.K X.mg x C)(i:Mk X.K C fa.f)(T:DG X.K st m qual ps fa)(ha:A3 X (e::es) t)(hn:k+1<=n:=by first|decide|lia)(hg:Gl X x:=by rfl)
  (Yc:zm x:=by decide) (he:Bt X e es:=by rfl) (X8:Cg X pos es:=by rfl):
  E3 X (.Call (.Name x p) (e::es) [] pos) (Rv C sp t):=Qu c.toCls i F (hr.mono hn) hg c.mg T.b ha Yc he X8
def qv{pl:Sem Bool}(he:E3 X o ta)(c:Cls X.K C)(T:MG X.K C st m qual ps fa)(F:Fq X.prog X.w X.K X.mg X.base k fa sp)(hr:sJ n X.A)(ha:A3 X (e::es) t)(hn:k<=n:=by first|decide|lia)
  (Yb:Bt X e es:=by rfl) (X8:Cg X pos es:=by rfl)
  (ht:wp (.Call (.Attribute o m XS) (e::es) [] pos) X.env=(do
   let ov<-wp o X.env
   XXc XS.atName
   let(f,first)<-wE [ov] (TW ov m pl)
   XXg pos f first (wv pos (Tl (e::es) X.env)) (TD pos (Op [] X.env))):=by rfl):
  E3 X (.Call (.Attribute o m XS) (e::es) [] pos) (Bb m (λD s=>D=C/\s=sp) ta t):=
 FG (R:=λD s=>D=C/\s=sp) he (λD s ⟨e1,e2⟩=>by subst e1 e2;exact⟨c,_,_,_,T.nG,F,T.b⟩) (hr.mono hn) ha Yb X8 ht
def yJ{pl:Sem Bool}(he:E3 X o ta)(c:Cls X.K C)(T:MG X.K C st m qual ps fa)(F:Fq X.prog X.w X.K X.mg X.base k fa sp)(hr:sJ n X.A)(hn:k<=n:=by first|decide|lia)
  (ht:wp (.Call (.Attribute o m XS) [] [] pos) X.env=(do
   let ov<-wp o X.env
   XXc XS.atName
   let(f,first)<-wE [ov] (TW ov m pl)
   XXg pos f first (wv pos (Tl [] X.env)) (TD pos (Op [] X.env))):=by rfl):
  E3 X (.Call (.Attribute o m XS) [] [] pos) (Bb m (λD s=>D=C/\s=sp) ta yA):=
 Ci (R:=λD s=>D=C/\s=sp) he (λD s ⟨e1,e2⟩=>by subst e1 e2;exact⟨c,_,_,_,T.nG,F,T.b⟩) (hr.mono hn) ht
def zh{pl:Sem Bool}(cm:Ow X.K C m fa.f)(F:Fq X.prog X.w X.K X.mg X.base k fa sp)(hr:sJ n X.A)(c:CG X.K X.mg x C)(T:DG X.K st m qual ps fa)(ha:A3 X (e::es) t)(hn:k<=n:=by first|decide|lia)(hg:Gl X x:=by rfl)
  (Yc:zm x:=by decide) (Yb:Bt X e es:=by rfl) (X8:Cg X pos es:=by rfl)
  (ht:wp (.Call (.Attribute (.Name x p) m XS) (e::es) [] pos) X.env=(do
   let ov<-wp (.Name x p) X.env
   XXc XS.atName
   let(f,first)<-wE [ov] (TW ov m pl)
   XXg pos f first (wv pos (Tl (e::es) X.env)) (TD pos (Op [] X.env))):=by rfl):
  E3 X (.Call (.Attribute (.Name x p) m XS) (e::es) [] pos) (EU sp t):=O6 cm F (hr.mono hn) hg c.mg T.kp T.b ha Yc Yb X8 ht
variable {h:No}{py:Str}{od an:Option Uf}{sl:Array (Option Vl)}{kv dc pm cd ct:Vl}
def J'{fd:sB}{oc:Vl}(l:K.lookup f=Fa ⟨oc,od,.func fd,sl⟩):W.keepIn K (.ref f)=pc:=by unfold W.keepIn;simp only;rw[l]
def Qx{fd:sB}(l:K.lookup f=Fa ⟨.type "function",od,.func fd,sl⟩):W.isFn K (.ref f)=pc:=by unfold W.isFn W.typeIn;simp only;rw[l];rfl
abbrev nC(py qual:Str)(st:sK)(ps:QQQ):Prop:=∀(kV Yv pm:Vl) (an:Option Uf) (X2 ct:Vl) (us:T0 Vl),us.length=ps.length->bindArgs (W.fnOf py qual (uT st) (su st) (qz st) .none kV Yv pm an X2 ct) ⟨us,[]⟩=pure (ps.zip us)
def Rt(l:K.lookup f=Fa ⟨.type "function",od,.func (W.fnOf py qual (uT st) (su st) (qz st) .none kv dc pm an cd ct),sl⟩)(k:W.codeIn K cd qual=pc)(hb:nC py qual st ps):
  DG K st py qual ps ⟨f,W.fnOf py qual (uT st) (su st) (qz st) .none kv dc pm an cd ct,ps⟩:=⟨Z',LD l k (J' l),(LD l k (J' l)).binds hb,Qx l⟩
def qH(X:K.In h)(G:h.Ns xz mg)(a:W.nsIn K xz py=Fa (Fa (.ref f)))(l:K.lookup f=Fa ⟨.type "function",od,.func (W.fnOf py py (uT st) (su st) (qz st) .none kv dc pm an cd ct),sl⟩)(k:W.codeIn K cd py=pc)(hb:nC py py st ps):
  TG K mg st py ps ⟨f,W.fnOf py py (uT st) (su st) (qz st) .none kv dc pm an cd ct,ps⟩:=⟨Rt l k hb,W.mg_of X G a⟩
def qx(a:W.findIn K (.ref C) py=Fa (Fa (.ref f)))(l:K.lookup f=Fa ⟨.type "function",od,.func (W.fnOf py qual (uT st) (su st) (qz st) .none kv dc pm an cd ct),sl⟩)(k:W.codeIn K cd qual=pc)(hb:nC py qual st ps):
  MG K C st py qual ps ⟨f,W.fnOf py qual (uT st) (su st) (qz st) .none kv dc pm an cd ct,ps⟩:=⟨Rt l k hb,a⟩
def wY(X:K.In h)(G:h.Ns xz mg)(a:W.nsIn K xz py=Fa (Fa (.ref C)))(h1:W.plainGet K C Str.empty=pc)(h2:W.hasDictIn K C=pc)(h3:W.plainOver K C=pc)(h4:W.findIn K (.ref C) "__setattr__"=Fa (Fa (.builtin "object.__setattr__"))):CG K mg py C:=⟨⟨h1,h2,h3,h4⟩,W.mg_of X G a⟩
def UK(h1:(W.clsIn K C).isSome=pc)(h2:W.findIn K (.ref C) "__getattribute__"=Fa (Fa (.builtin "BaseException.__getattribute__")))(h3:W.findIn K (.ref C) "__getattr__"=Fa Db)(h4:W.findIn K (.ref C) "__class__"=Fa (Fa (.builtin "object.__class__"))) (h5:W.specialIn K (.builtin "object.__class__") "__get__"=Fa (Fa (.builtin "getset_descriptor.__get__"))) (h6:W.takesIn K (.builtin "object.__class__")=Fa pc) (h7:W.mroIn K C (.type "object")=Fa pc) (h8:W.mroIn K C (.type "BaseException")=Fa pc):MH K C:=⟨h1,h2,h3,h4,h5,h6,h7,h8⟩
def OV{x:Str}{a:Uf}{es:T0 DictEntry}{ep:Nat}(h:mg x=Fa (.ref a))(s:(a==XV)=lf)(l:K.lookup a=Fa ⟨.type "dict",Db,.dict es.toArray ep,#[]⟩) (r:KTD.Rows (λ(ss:QQQ) v=>∃t,v=Value.ref t/\vA K (λ_=>Db) t (ss.map V.str)) es T):ND K mg x T:=⟨a,_,_,_,h,s,l,⟨Z',Z',Z'⟩,Z',by simpa using r⟩
def Mq{x qual y1 y2 fl:Str}{st:sK}(F:DG K st x qual [y1,y2] fa)(S:tT [y1,y2] [y1,y2] (qz st)) (hb:∀(X2:Vl) (A:Ar) (outer:T0 Env) (s:Sd) (H:Hp) (E:XK),Cq (vW (Dt P w) P w K mg base [y1,y2] qual (qz st) fa.f X2 A outer s H E) (su st) (Ol K (Gi 0) (Gi 1) fl)):xP P w K mg base (Dt P w) 1 fa.f fa.d fa.p (xf K fl):=by
 rw[F.pe];exact Mt F.fn S hb
def VX(ds:T0 D)(M:Mp)(Q:DK):Prop:=match ds with
 | [.ref a]=>(pq M a).elim False λes=>(GX es).elim False λbs=>Q (.bl (bs.any id)) M
 | _=>False
def SQ(hc:X.calm=pc):C3 X (.builtin "any") VX:=by
 intro XN s Y H vs us Q' I rv h;obtain⟨ds,M,Q,hd,hm,q,k⟩:=h;unfold VX at q;split at q
 .rename_i a;obtain⟨v,rfl,hv⟩:=sG hd;obtain⟨es,e0,q⟩:=rD q;obtain⟨bs,e1,q⟩:=rD q;cases hv.mU;obtain⟨u,rfl,ru⟩:=yu rv;cases ru;obtain⟨xs,h1,h2,_⟩:=qO hm e0;obtain⟨its,r,pl,hz⟩:=I.list h1;have eits:=EW e1 h2 r;subst eits;have X9:a≠s.heap.objs.size:=by obtain⟨o,_,e,_⟩:=pl;exact dO (dD e)
  refine call_any_walk (gR pl.isList ?_);refine⟨s.heap.objs.size,_,_,_,_,_,λi=>(bs[i]?).getD lf,Z',kB (A:=X.A.in1) (I.ok.hd hc) _ a X9 (bs.map Value.bool).toArray,⟨⟨_,dN _ Z',Z',Z'⟩,?_⟩,λi v s' Q E hP hQ=>?_,λh' tk hk=>?_⟩
  .obtain⟨o,n,e,c,d,q⟩:=pl;exact⟨o,df _ e,c,n,q⟩
  .simp only[iQ,dz]at hP;cases e2:bs[i]? with
   | none=>rw[e2]at hP;cases hP
   | some b=>rw[e2]at hP;cases hP;have hQ:Q ((bs[i]?).getD lf) s':=hQ;rw[e2]at hQ;exact fz hQ
  .have ea:(List.range (bs.map Value.bool).toArray.size).any (λi=>(bs[i]?).getD lf)=bs.any id:=by
    rw[dB,cW];rw[gz,gX,gX];constructor
    .rintro ⟨i,hi,z⟩
     have ZP:=fZ.mp hi;rw[c9 ZP]at z;exact⟨_,ip ZP,z⟩
    .rintro ⟨b,hb,z⟩
     obtain⟨i,hi,e⟩:=gI hb;refine⟨i,fZ.mpr hi,?_⟩;rw[c9 hi,e];exact z
   rw[ea];refine⟨.bl (bs.any id),H,?_,Z',k _ _ _ _ .bl hm .refl q⟩;exact I.kept (h':=h') (t':=tk) λb o e=>hk b o (by simpa using dO (dD e)) (df _ e)
 .exact q.elim
def Tg:zn "any"=Fa (.builtin "any"):=by decide+kernel
end L3
namespace L2
def KI(a C d:Uf)(h:No):Prop:=CP λoe vs=>h.get? a=Fa oe/\oe.cls=.ref C/\oe.data=.fields vs/\oe.dict=Fa d
structure P8(K:qM)(C:Uf)(f:Str):Prop where
 ci:MH K C
 hh:W.hasDictIn K C=pc
 tk:W.findIn K (.ref C) f=Fa Db
def Mr{h:No}{d:Uf}{m:QQZ}{f:Str}{u:Vl}(x:h.Ns1 d m)(e:m f=Fa u):∃od,h.get? d=Fa od/\W.lookIn f od=Fa (Fa u):=by obtain⟨o,es,ep,e1,e2,_,_,e3⟩:=x;refine⟨o,e1,?_⟩;have e3:=e3 f;rw[e]at e3;unfold nsFind findBy at e3;rw[<-lb]at e3;obtain⟨en,h1,h2⟩:=iK.mp e3;unfold W.lookIn;rw[e2];dsimp only;rw[h1];exact eY (λz=>Fa (Fa z)) h2
variable {prog:Pg}{w:Wo}{A:Ar}{E:QQX}{s:Sd}{K:qM}{x C:Uf}{ox od:Obj}{f:Str}{v:Vl}
def Mz{tk:Tok}{Q:PySem.Fin->Sd->Prop}(X:K.In s.heap)(I:W.InstAt s.heap x ox C (Fa od))(hf:W.findObj K C (Fa od) f=Fa (.value v))(h:Q (.done (.ret v)) s):pi (Tk prog w) A (Builtin.«object.__getattribute__» {pos:=[.ref x,.str f tk]}) Q E s:=by have L0:=I.type (M:=Tk prog w);unfold Builtin.«object.__getattribute__» slotArgs;refine cX ?_;rw[de (by simp)];dsimp only;rw[de (by simp)];refine dq ?_;dsimp only;refine cX ?_;unfold Builtin.ObjectAttr.attrName;refine dq (cX (L0.at (cX ((W.looks_find X I hf).at ?_))));exact dq h
def Qr{expr:Bool}{Q:QQX}(c:P8 K C f)(X:K.In s.heap)(I:W.InstAt s.heap x ox C (Fa od))(hl:W.lookIn f od=Fa (Fa v))(hv:W.handedIn v=pc)(h:Q v {s with toks:=s.toks+1}):pi (Tk prog w) A (getAttr (.ref x) f expr) Q E s:=by have L0:=I.type (M:=Tk prog w);unfold getAttr getAttrBy;refine cX (wpAny_mkText (eI (cX (L0.at (cX ((jj X c.ci.ga).at ?_))))));dsimp only;rw[de (by simp)];unfold getAttrByItsOwn;refine cX ?_;unfold hookBefore;rw[dg (by rfl)];refine(jj X c.ci.gt).at (cX (kI (eI ?_)));unfold callGetattribute;rw[de (by simp;intro _;rfl)];unfold boundAndCalled;refine cX ?_;rw[kr.ga.bind (.ref x)];refine dq ?_;refine il (io kr.ga.plain F.entry_bexc_ga (MQ c.ci X I.at_ I.cls ?_));exact Mz X I (W.findObj_own c.hh c.tk Z' hl) (W.handed_on hv h)
variable {X:Cx}{e:Go}{pos:Pos}{ta:TE}
noncomputable def LZ:V->Bool
 | .str _=>pc
 | .int _=>pc
 | .bl _=>pc
 | .mY=>pc
 | _=>lf
def Fi{v:V}(r:rb v u)(p:LZ v=pc):W.handedIn u=pc:=by
 cases v<;>first
  | (cases r;rfl)
  | (obtain⟨t,rfl⟩:=r;rfl)
  | cases p
def MT(K:qM)(ta:TE)(f:Str):TE:=λY H Q=>ta Y H λx H1=>CO λa C d v=>x=.ref a/\H1 a=Fa (.ext (KI a C d))/\H1 d=Fa (.ext (OK d f v))/\P8 K C f/\LZ v=pc/\Q v H1
def Pu(he:PE X e ta)(hb:Rs e f X.env (wp e X.env)=wp e X.env):PE X (.Attribute e f pos) (MT X.K ta f):=by intro XN s Y H Q I h;refine JO hb (sZ (he XN s Y H _ I h) λu s1 zz=>?_);obtain⟨x,H1,I1,rx,a,C,d,v,ex,ea,ed,c,p,q⟩:=zz;subst ex;obtain rfl:u=Value.ref a:=rx;obtain⟨⟨oe,vs,e1,e2,e3,e4⟩,_,_⟩:=I1.m9 a _ ea;obtain⟨⟨u,n1,r⟩,_,_⟩:=I1.m9 d _ ed;obtain⟨od,g1,g2⟩:=Mr n1 (dg Z');exact Qr (ox:=oe) c I1.nA ⟨e1,e2,by unfold W.notCls;rw[e3],by rw[e4];exact g1⟩ g2 (Fi r p) ⟨v,H1,I1.tok _,r,q⟩
def Qm{a C d:Uf}(x:KI a C d h):sV P w H h a (.ext (KI a C d)):=by refine⟨x,?_,λh1 h2 ⟨oe,vs,e1,e2,e3,e4⟩ k=>⟨oe,vs,k oe e1,e2,e3,e4⟩⟩;obtain⟨oe,_,e,_⟩:=x;exact⟨oe,e⟩
def P7{st b₀:sK}{Ze:T0 sK}{cn n:Str}{cnp Zn pos:Pos}{Cc L:Uf}{outer:T0 Env}{i:Nat}{t:FY->St->Hp->(Hp->Prop)->XK->Prop}(hb:Xo X st t)(Yb:X.stack=X.env::outer)(hL:X.env.frame=Fa L)(hg:Gl X cn)(hm:X.mg cn=Fa (.ref Cc)) (hN:X.N.Nodup) (hi:X.N[i]?=Fa n) (hk:X.env.scope.names.lookup n=Fa .local) (hs:∀ev E',Cq (X.marked ev E') (b₀::Ze) th) (Yc:zm cn:=by decide):
  PS X (.Try [st] [.ExceptHandler (Fa (.Name cn cnp)) (Fa n) (b₀::Ze) Zn] [] [] pos) (λD Y H=>∃(J:Hp->Prop) (E:XK),t D Y H J E/\∀C dx H1 H',J H1->TKept H1 H'->E (.ref C) dx H'->∃d,dx=Fa d/\W.exmOne X.K (.ref C) (.ref Cc)=Fa pc/\
   ∀a,H' a=Db->th {nx:=λσ' H2=>D.nx (σ'.set i Db) H2,rt:=D.rt,bk:=λσ' H2=>D.bk (σ'.set i Db) H2,ct:=λσ' H2=>D.ct (σ'.set i Db) H2} (Y.set i (Fa (.ref a))) (upd H' a (.ext (KI a C d)))):=by
 intro XN s Y H D I ⟨J,E,h,hh⟩;refine wpAny_Try_except (eD (Q:=λf s'=>SP X XN D f s') (jI (sZ (hb XN s Y H D J E I h) λf s1 q=>?_)) (λf s1 q=>?_) λev s1 x=>?_)
 .cases f with
  | next=>exact hJ q
  | brk=>exact q
  | cont=>exact q
  | ret v=>exact q
 .cases f with
  | next=>exact hJ q
  | brk=>exact q
  | cont=>exact q
  | ret v=>exact q
 .refine eD (SM x Yb hL) (λ_ s2 y=>sZ y λ_ s3 z=>?_) λ_ _ z=>z;obtain⟨a,C,dx,H',tb,H1,s1,rfl,q,I3,x3,na,nt,jH,tk,I1,n1⟩:=z;obtain⟨d,rfl,XQ,h1⟩:=hh C dx H1 H' jH tk q;refine wpAny_handleBy_cons (codeAny_handlers_test (xq (X:=X.marked (.ref a) λ_ _=>False) I3.mark hg hm ?_ Yc)) (by intro z;cases z);obtain⟨oe,vs,ho,hc,ZH,hd,_⟩:=id x3;refine W.exm_one I3.nA (Cb ho) (by rw[hc];exact XQ) _ _ _ _ (λ_ _ z=>z) ?_;refine codeAny_handlers_suite_as (HC x3 λh' hh'=>?_);have I4:Inv X XN Y H' {s3 with heap:=h'}:=I3.kept (t':=s3.toks) λb u z=>by rw[hh' b];exact z
  have I5:Inv X XN Y (upd H' a (.ext (KI a C d))) {s3 with heap:=h'}:=I4.adopt I1 n1 na (Qm ⟨oe,vs,by show h'.get? a=_;rw[hh' a];exact ho,hc,hd,ZH⟩);refine xT (v:=.ref a) I5 hN hi (.inl hk) Z' (λs6 I6=>?_) (.inr hk);refine eD (hs (.ref a) _ XN _ _ _ _ I6.mark (h1 a na)) (λf s7 q7=>?_) λ_ _ z=>z;have q7:=SP.unmark I.ok q7;cases f with
  | next=>obtain⟨σ',H2,I7,q⟩:=q7;exact yI I7 hN hi hk λs8 I8=>⟨_,H2,I8,q⟩
  | brk=>obtain⟨σ',H2,I7,q⟩:=q7;exact yI I7 hN hi hk λs8 I8=>⟨_,H2,I8,q⟩
  | cont=>obtain⟨σ',H2,I7,q⟩:=q7;exact yI I7 hN hi hk λs8 I8=>⟨_,H2,I8,q⟩
  | ret v=>obtain⟨y,σ',H2,I7,r,q⟩:=q7;exact yI I7 hN hi hk λs8 I8=>⟨y,_,H2,I8,r,q⟩
end L2
namespace L3
open L2
variable {X:Cx}{cn n x:Str}{e:Go}{cnp Zn pos XS xpos p1 p2 p3 p4:Pos}{Cc L:Uf}{outer:T0 Env}{i ix:Nat}{te:Ul}{fl:Str}
def Ut(K:qM)(ix i:Nat)(Cc:Uf)(fl:Str)(te:Ul):yo:=λD U M=>∃R,te U M (λd M1=>D.nx (U.set ix (Fa d)) M1) R/\∀C y M',R C y M'->W.exmOne K (.ref C) (.ref Cc)=Fa pc/\P8 K C fl/\∃z,y=Fa (fl,.str z)/\D.nx ((U.set ix (Fa (.str z))).set i Db) M'
def Qf(he:Xu X e te)(Yb:X.stack=X.env::outer)(hL:X.env.frame=Fa L)(hg:Gl X cn)(hm:X.mg cn=Fa (.ref Cc))(hN:X.N.Nodup)(Z7:X.N[ix]?=Fa x)(hx:X.env.scope.names.lookup x=Fa .local)(hi:X.N[i]?=Fa n)(hk:X.env.scope.names.lookup n=Fa .local)(X9:ix≠i) (hd:zm n:=by decide) (YR:(n==("__classdict__":Str))=lf:=by decide) (hab:Rs (.Name n p2) fl X.env (wp (.Name n p2) X.env)=wp (.Name n p2) X.env:=by rfl) (hsw2:ZB (.Attribute (.Name n p2) fl p3) (Fa (.Name x p1)) p4.line X.env=pure lf:=by rfl)
  (Yc:zm cn:=by decide) (Zl:ZB e (Fa (.Name x xpos)) XS.line X.env=pure lf:=by rfl):
  S3 X (.Try [.Assign [.Name x xpos] e XS] [.ExceptHandler (Fa (.Name cn cnp)) (Fa n) [.Assign [.Name x p1] (.Attribute (.Name n p2) fl p3) p4] Zn] [] [] pos) (Ut X.K ix i Cc fl te):=
 PS.n9 (P7 (th:=PH (MT X.K (Gi i) fl) (Jl ix)) (Pm hN Z7 (.inl hx) he Zl (.inr hx)) Yb hL hg hm hN hi hk (λev E'=>FC (Mf (X:=X.marked ev E') (te:=MT X.K (Gi i) fl) hN Z7 (.inl hx) (Pu (X:=X.marked ev E') (Ov (X:=X.marked ev E') hi (.inl hk) hd YR) hab) hsw2 (.inr hx))) Yc) λD' Y H hl ⟨U,M,D,hs,hm,⟨R,ht,hh⟩,k1,k2,k3,k4⟩=>by
  refine⟨λH1=>rA X.K H H1,λcv d H'=>∃C M' y,cv=.ref C/\HM X.K H' M'/\UX X.K H' d y/\R C y M',⟨U,M,_,R,hs,hm,ht,λv H1 d M1 hd XQ e1 q1=>?_,λ_ z=>z,λC dx H' M' y h1 h0 h2=>⟨C,M',y,Z',h1,h0,h2⟩⟩,λC dx H1 H' jH tk ⟨C',M',y,ec,Zm,ZH,r⟩=>?_⟩
  .exact k1 _ H1 _ M1 ((hs.mono e1).set hd (by rw[hl];exact(cY.mp Z7).1)) XQ e1 (by simp) q1
  .cases ec;obtain⟨r1,c,z,ey,q⟩:=hh C y M' r;rcases ZH with⟨_,z⟩|⟨d,f,z',v,ed,ez,hd,hv⟩
   .rw[ey]at z;cases z
   .rw[ey]at ez;cases ez;have hiσ:i<Y.length:=by rw[hl];exact(cY.mp hi).1
    refine⟨d,ed,r1,λa na=>⟨.ref a,by rw[eO hiσ],a,C,d,v,Z',qC,?_,c,?_,?_⟩⟩
    .rw[qw]
     .exact hd
     .intro z;rw[z,na]at hd;cases hd
    .rw[hv.str_inv];rfl
    .have e1:rA X.K H H':=jH.trans (L2.TKept.ext tk);have e2:rA X.K H' (upd H' a (.ext (KI a C d))):=.new na;have s1:=(hs.mono (e1.trans e2)).set (i:=ix) (hv.mono e2) (by rw[hl];exact(cY.mp Z7).1);have s2:=s1.unset (i:=i);refine k1 _ _ _ M' ?_ (Zm.add na) (e1.trans e2) (by simp) q;rw[List.set_comm _ _ X9.symm,ja];exact s2
end L3
namespace L2
variable {prog:Pg}{w:Wo}{A:Ar}{E:QQX}{s:Sd}
theorem EF{it t:Uf}{XO:Array Vl}(X9:t≠it):∀(n i:Nat) (s:Sd) (Q:T0 Vl->Sd->Prop),s.heap.IsListIter it t i->s.heap.IsList t XO->i+n<=XO.size->
  (∀h',h'.IsListIter it t (i+n)->Heap.SameBut it s.heap h'->Q ((XO.toList.drop i).take n) {s with heap:=h'})->pi (Tk prog w) A (draw (.ref it) n) Q E s
 | 0,i,s,Q,hit,_,_,hQ=>by show pi _ _ (pure []) Q E s;exact dq (by simpa using hQ s.heap hit (Heap.SameBut.refl ..))
 | n+1,i,s,Q,hit,ht,hle,hQ=>by
  have XZ:i<XO.size:=by lia
  show pi _ _ (pyNext (.ref it)>>=_) Q E s;refine cX (j5 hit ht (x:=XO[i]) (by simp[XZ]) λh₁ hit₁ hs₁=>?_);refine cX (eI (EF X9 n (i+1) _ _ hit₁ (ht.extBut hs₁.extBut X9) (by lia) λh₂ hit₂ hs₂=>dq ?_));have hd:XO.toList.drop i=XO[i]::XO.toList.drop (i+1):=by simp[gv,XZ]
  have:=hQ h₂ (by rw[show i+(n+1)=i+1+n by lia];exact hit₂) (hs₁.trans hs₂);rw[hd,List.take_succ_cons]at this;exact this
def Ay{t:Uf}{XO:Array Vl}{Q:T0 Vl->Sd->Prop}(hh:A.handled=Db)(ht:s.heap.IsList t XO) (hQ:∀h',Heap.ExtBut s.heap.objs.size s.heap h'->Q XO.toList {s with heap:=h'}):pi (Tk prog w) A (unpackItems (.ref t) XO.size Db) Q E s:=by
 have XZ:t≠s.heap.objs.size:=by obtain⟨o,ho,_⟩:=ht;exact dO (dD ho)
 unfold unpackItems;refine cX ?_
 .unfold notIterableAtAll;refine cX (iX ht.typeIs slot_list_iter.lookup ?_);refine dq ?_;simp only[lC,ky];refine cX (eI (gR ht ?_));refine cX (eI (EF XZ XO.size 0 _ _ ⟨_,dN _ Z',Z',Z'⟩ (ht.push _) (by lia) λh₁ hit₁ hs₁=>?_));have Yy:List.take XO.size (List.drop 0 XO.toList)=XO.toList:=by rw[jm];exact ia (by simp)
  rw[Yy];rw[de (by simp)];have ht₁:h₁.IsList t XO:=(ht.push _).extBut hs₁.extBut XZ;refine cX (eI (ke hh hit₁ ht₁ (by simp) λh₂ he₂=>?_));simp only[Option.isSome_none,lC,ky];refine dq (hQ h₂ λb o hb e=>he₂ b o hb (hs₁.extBut b o hb (df _ e)))
def zP{env:Env}{Yg:T0 Go}{x1}{pos:Pos}{t:Uf}{XO:Array Vl}{Q:Unit->Sd->Prop}(hh:A.handled=Db)(ht:s.heap.IsList t XO) (hn:(At Yg env).length=XO.size) (hstar:(At Yg env).findIdx? (·.1)=Db) (h:∀h',Heap.ExtBut s.heap.objs.size s.heap h'->pi (Tk prog w) A (assignInOrder ((At Yg env).map (·.2)) XO.toList) Q E {s with heap:=h'}):
  pi (Tk prog w) A (assign (.Tuple Yg x1 pos) env (.ref t)) Q E s:=by
 rw[arm_assign_Tuple];refine cX (hG ?_);unfold unpack;rw[hn,hstar];exact cX (eI (Ay hh ht h))
end L2
namespace L3
open L2
variable {X:Cx}{pos:Pos}
def Sk(n:Nat)(t:DE):DJ:=λd U M Q=>match d with|.ref a=>(pq M a).elim False λds=>ds.length=n/\t ds U M Q|_=>False
def QA{t:DE}{n:Nat}(hc:X.calm=pc)(h:VP X es t)(hn:(At es X.env).length=n:=by rfl)(Yb:(At es X.env).findIdx? (·.1)=Db:=by rfl):G3 X (.Tuple es k pos) (Sk n t):=by
 intro XN s Y H v u Q' I r ⟨d,U,M,Q,hd,hs,hm,ht,kq⟩;cases d with
 | ref a=>
  obtain⟨ds,e,hl,ht⟩:=rD ht;cases hd.mU;cases r;obtain⟨xs,h1,h2,_⟩:=qO hm e;obtain⟨its,rv,pl,hz⟩:=I.list h1;have hx:xs.length=n:=by rw[<-hl];exact h2.length.symm
  refine zP (I.ok.hd hc) pl.isList (by simp[hn,<-hx,rv.length]) Yb λh' hx=>?_;have I1:Inv X XN Y H {s with heap:=h'}:=I.kept (t':=s.toks) λb o e=>hx b o (dO (dD e)) e;exact h XN _ Y H xs _ Q' I1 (by simpa using rv) ⟨ds,U,M,Q,h2,hs,hm,ht,kq⟩
 | _=>exact ht.elim
end L3
namespace L3
open L2
def OM(i:Nat){X:Cx}{pos:Pos}{x:Str}(h1:X.N[i]?=Fa x:=by rfl)(h2:SX X.env.scope x:=by first|exact Or.inl Z'|exact Or.inr (Or.inl Z')|exact Or.inr (Or.inr Z'))(h3:zm x:=by decide)(h4:(x==("__classdict__":Str))=lf:=by decide):E3 X (.Name x pos) (v3 i):=R0 i (pv i h1 h2 h3 h4)
variable {X:Cx}{pos:Pos}
def XF{N:QQQ}(h:decide N.Nodup=pc):N.Nodup:=fH h
def qc(i:Nat){x:Str}{e:Go}{te:T3}{X1:Pos}{ps:QQQ}{sc:XXd}(S:tT X.N ps sc)(he:E3 X e te)(hi:X.N[i]?=Fa x:=by rfl)(hx:Lm X.env.scope x:=by first|exact Or.inl Z'|exact Or.inr Z')(Zl:ZB e (Fa (.Name x X1)) pos.line X.env=pure lf:=by rfl)(hf:Lq X x:=by first|exact .inl Z'|exact .inr Z'|assumption):S3 X (.Assign [.Name x X1] e pos) (Hi te (sC i)):=Sj S.nd hi hx he Zl hf
def rq(i:Nat){x:Str}{ps:QQQ}{sc:XXd}(S:tT X.N ps sc)(hi:X.N[i]?=Fa x:=by rfl)(hx:Lm X.env.scope x:=by first|exact Or.inl Z'|exact Or.inr Z')(hf:Lq X x:=by first|exact .inl Z'|exact .inr Z'|assumption):G3 X (.Name x pos) (sC i):=J2 S.nd hi hx hf
def qW(i:Nat){x:Str}(hN:decide X.N.Nodup=pc:=by kernel_rfl)(hi:X.N[i]?=Fa x:=by rfl)(hx:Lm X.env.scope x:=by first|exact Or.inl Z'|exact Or.inr Z')(hf:Lq X x:=by first|exact .inl Z'|exact .inr Z'|assumption):G3 X (.Name x pos) (sC i):=J2 (XF hN) hi hx hf
abbrev Sc(n:Nat)(N:QQQ)(s:sK):=tT N (N.take n) (qz s)
def sk{n:Nat}{s:sK}(h:Th N (N.take n) (qz s)=pc:=by decide+kernel):Sc n N s:=XH h
def qA(h0:E3 X e0 t0)(g0:Tl [e0] X.env=(lf,wp e0 X.env)::Tl [] X.env:=by rfl):A3 X [e0] (we t0 yA):=(qo h0 so g0)
def sH(h0:E3 X e0 t0)(h1:E3 X e1 t1)(g0:Tl [e0,e1] X.env=(lf,wp e0 X.env)::Tl [e1] X.env:=by rfl)(g1:Tl [e1] X.env=(lf,wp e1 X.env)::Tl [] X.env:=by rfl):A3 X [e0,e1] (we t0 (we t1 yA)):=(qo h0 (qo h1 so g1) g0)
def rC(h0:E3 X e0 t0)(h1:E3 X e1 t1)(h2:E3 X e2 t2)(g0:Tl [e0,e1,e2] X.env=(lf,wp e0 X.env)::Tl [e1,e2] X.env:=by rfl)(g1:Tl [e1,e2] X.env=(lf,wp e1 X.env)::Tl [e2] X.env:=by rfl)(g2:Tl [e2] X.env=(lf,wp e2 X.env)::Tl [] X.env:=by rfl):A3 X [e0,e1,e2] (we t0 (we t1 (we t2 yA))):=(qo h0 (qo h1 (qo h2 so g2) g1) g0)
abbrev v0:=@OM 0
abbrev U1:=@OM 1
abbrev U2:=@OM 2
abbrev U3:=@OM 3
abbrev v5:=@OM 5
abbrev U4:=@OM 4
abbrev v6:=@OM 6
abbrev v7:=@OM 7
abbrev v8:=@OM 8
abbrev v9:=@OM 9
variable {P:Pg}{w:Wo}{K:qM}{mg:QQZ}{base:No}
def fq{st:sK}{sp:rO}(F:DG K st x qual ps fa)(S:tT N ps (qz st)) (hb:∀{X2:Vl} {A:Ar} {outer:T0 Env} {s:Sd} {H:Hp} {E:XK},sJ k (A.deeper (dL qual (qz st) s.heap.objs.size fa.f X2))->(A.deeper (dL qual (qz st) s.heap.objs.size fa.f X2)).units+9<Y'->
   ∃t,HK (vW OF P w K mg base N qual (qz st) fa.f X2 A outer s H E).oQ (su st) t/\∀ds M Q,sp ds M Q->t {nx:=λ_ M'=>∃XU,qJ XU M'/\Q .mY XU,rt:=λd M'=>∃XU,qJ XU M'/\Q d XU} (xl N ds) M) (len:∀ds M Q,sp ds M Q->ds.length=ps.length:=by walk_at "l"):Fq P w K mg base (k+1) fa sp:=Wv F S len λ_ _ _ _ _ _ h=>hb h (Xh h)
def yH{X:Cx}(h:HN X.env.scope X.N scope ix N'=pc:=by kernel_rfl):sQ X scope ix N':=VJ h
end L3
namespace Z
section
open L2 L3
def rK(i:Nat):sK:=PySem.Challenge.pw_callboard_k44_turns_pass.main.body.getD i (.Pass ⟨0,0,0,0⟩)
abbrev tm(i j:Nat):sK:=Pv (rK i) j
def Dc:Sc 3 ["board","caller","target","wishes"] (rK 5):=sk
def ub:Sc 3 ["board","caller","target","free","members","place","in_turn"] (rK 6):=sk
def vD:Sc 3 ["board","caller","target","phones"] (rK 7):=sk
def AL:Sc 2 ["wanted","target"] (rK 8):=sk
def xh:Sc 4 ["board","caller","target","way","come_to","steps","fits","wanted"] (rK 9):=sk
def zC:Sc 2 ["board","phone"] (rK 11):=sk
def wZ:Sc 3 ["board","phone","target","word"] (rK 12):=sk
def Os:Sc 3 ["word","phone","calls"] (rK 13):=sk
def uo:Sc 4 ["board","word","phone","numbers","calls","due"] (rK 14):=sk
def zD:Sc 3 ["board","word","number"] (rK 15):=sk
def Cu:Sc 2 ["board","deed","word"] (rK 16):=sk
def uA:Sc 3 ["board","number","steps","last","target","fits"] (rK 17):=sk
def vj:Sc 4 ["board","number","target","phones","members","place"] (rK 18):=sk
def yh:Sc 3 ["board","number","target","talk","members"] (rK 19):=sk
def yt:Sc 3 ["board","number","end","word"] (rK 20):=sk
def xi:Sc 2 ["board","number","call","told","end","steps","last"] (rK 21):=sk
def Am:Sc 3 ["board","phone","target","number"] (rK 22):=sk
def C9:Sc 3 ["board","phone","number","call"] (rK 23):=sk
def za:Sc 2 ["board","call","wishes"] (rK 24):=sk
def C7:Sc 3 ["board","number","fits","wish"] (rK 25):=sk
def ui:Sc 1 ["board","number","call","fits"] (rK 26):=sk
def tW:Sc 2 ["board","deed","word","phone","number","call","kept","others"] (rK 27):=sk
def LO:Sc 2 ["board","deed","word"] (rK 28):=sk
def HY:Sc 2 ["board","deed","word","begun"] (rK 29):=sk
def AJ:Sc 1 ["answers"] (rK 31):=sk
def G8:Sc 2 ["call","word"] (rK 33):=sk
def DQ:Sc 2 ["call","phone"] (rK 34):=sk
def yb:Sc 2 ["call","event","word"] (rK 35):=sk
def IU:Sc 3 ["board","caller","target"] (rK 38):=sk
def Dv:Sc 1 ["told","word"] (rK 49):=sk
def QQ:Sc 2 ["holds","words"] (rK 64):=sk
def Iv:Sc 1 ["text"] (rK 65):=sk
def DV:Sc 1 ["things"] (rK 66):=sk
def F2:Sc 3 ["chosen","known","most"] (rK 67):=sk
def uE:Sc 1 ["phones","name","lines","rank"] (rK 68):=sk
def uF:Sc 2 ["groups","phone_names","name","manner","members"] (rK 69):=sk
def DF:Sc 4 ["kind","part","phone_names","names"] (rK 70):=sk
def uy:Sc 3 ["wish","phone_names","names","form","parts","kind","part"] (rK 71):=sk
def vC:Sc 3 ["wishes","phone_names","names","on","wish"] (rK 72):=sk
def wO:Sc 3 ["phones","groups","wishes","phone_names","names"] (rK 73):=sk
def KN:Sc 2 ["_law_script","_law_k"] (rK 76):=sk
def Hn:Sc 3 ["_law_cell","_law_factor","_law_many"] (rK 77):=sk
def uL:Sc 2 ["_law_seed","_law_which","_law_letters","_law_size","_law_place","_law_rest","_law_letter"] (rK 78):=sk
def xU:Sc 3 ["_law_row","_law_cell","_law_most","_law_first","_law_size"] (rK 79):=sk
def vp:Sc 2 ["_law_seed","_law_most","_law_phones_here","_law_k","_law_lines"] (rK 80):=sk
def vn:Sc 2 ["_law_seed","_law_own","_law_groups_here","_law_g","_law_manner"] (rK 81):=sk
def tZ:Sc 3 ["_law_cell","_law_own","_law_names_here","_law_a","_law_place","_law_b","_law_c","_law_pick","_law_first"] (rK 82):=sk
def sX:Sc 2 ["_law_script","_law_most","_law_seed","_law_phones_here","_law_own","_law_groups_here","_law_names_here","_law_wishes","_law_k","_law_cell"] (rK 83):=sk
def DI:Sc 1 ["_law_call"] (rK 84):=sk
def Br:Sc 2 ["_law_board","_law_states"] (rK 85):=sk
def rV:Sc 4 ["_law_board","_law_cell","_law_word_here","_law_states","_law_some_here","_law_k","_law_people_here","_law_a","_law_m"] (rK 86):=sk
def vh:Sc 4 ["_law_cell","_law_own","_law_names_here","_law_many","_law_a","_law_b","_law_k","_law_m","_law_some_here"] (rK 87):=sk
def rW:Sc 4 ["_law_board","_law_cell","_law_own","_law_names_here","_law_word_here","_law_states","_law_found","_law_a"] (rK 88):=sk
def wC:Sc 2 ["_law_script","_law_most","_law_phones_here","_law_groups_here","_law_wishes"] (rK 89):=sk
def zV:Sc 1 ["_law_board","_law_own"] (rK 90):=sk
def yw:Sc 2 ["_law_board","_law_deed_here","_law_told","e"] (rK 91):=sk
def vq:Sc 4 ["_law_board","_law_k","_law_target","_law_phones_here","_law_name","_law_manner","_law_members","_law_place"] (rK 92):=sk
def zI:Sc 5 ["_law_board","_law_k","_law_caller","_law_end_here","_law_steps","_law_m","_law_last"] (rK 93):=sk
def uP:Sc 5 ["_law_board","_law_k","_law_caller","_law_target","_law_way","_law_end_here","_law_steps","_law_due","_law_j"] (rK 94):=sk
def wB:Sc 3 ["_law_board","_law_wishes","_law_call","_law_found","_law_i","_law_told"] (rK 95):=sk
def Co:Sc 3 ["_law_board","_law_due","_law_events","_law_event"] (rK 96):=sk
def tH:Sc 2 ["_law_board","_law_wishes","_law_due","_law_k","_law_call","_law_fits_here","_law_b","_law_c","_law_way"] (rK 97):=sk
def wg:Sc 1 ["_law_script","_law_board","_law_other","_law_wishes","_law_own","_law_names_here","_law_k","_law_cell","_law_deed_here","_law_told"] (rK 98):=sk
def Dn:Sc 2 ["self","word"] (tm 3 0):=sk
def D3:Sc 3 ["self","plan","hour"] (tm 36 0):=sk
def Gs:Sc 4 ["self","phones","groups","wishes"] (tm 74 0):=sk
def ym:Sc 2 ["self","event","word"] (tm 36 12):=sk
def AH:Sc 2 ["self","phone"] (tm 36 3):=sk
def FU:Sc 2 ["self","caller"] (tm 32 0):=sk
def AD:Sc 2 ["self","leg"] (tm 36 10):=sk
def yx:Sc 4 ["self","merged","kept","members","call"] (tm 36 11):=sk
def vR:Sc 1 ["self","call"] (tm 36 9):=sk
def GC:Sc 2 ["self","told"] (tm 40 0):=sk
def E9:Sc 2 ["self","told"] (tm 41 0):=sk
def Bv:Sc 2 ["self","told"] (tm 42 0):=sk
def DS:Sc 2 ["self","told"] (tm 44 0):=sk
def Cn:Sc 2 ["self","told"] (tm 46 0):=sk
def Gw:Sc 2 ["self","told"] (tm 47 0):=sk
def CA:Sc 2 ["self","told"] (tm 48 0):=sk
def zp:Sc 2 ["self","phone"] (tm 32 2):=sk
def yU:Sc 1 ["self"] (tm 74 2):=sk
def E7:Sc 1 ["self"] (tm 40 1):=sk
def Eb:Sc 1 ["self"] (tm 41 1):=sk
def AY:Sc 1 ["self"] (tm 42 1):=sk
def D5:Sc 1 ["self"] (tm 47 1):=sk
def BK:Sc 1 ["self"] (tm 48 1):=sk
def Gn:Sc 2 ["self","told"] (tm 39 0):=sk
def DO:Sc 1 ["self"] (tm 74 1):=sk
def AX:Sc 2 ["self","phone"] (tm 36 2):=sk
def zH:Sc 2 ["self","phone"] (tm 32 5):=sk
def yT:Sc 2 ["self","phone"] (tm 32 4):=sk
def ze:Sc 2 ["self","phone"] (tm 32 8):=sk
def Hu:Sc 4 ["self","board","caller","target"] (tm 40 2):=sk
def Fs:Sc 4 ["self","board","caller","target"] (tm 41 2):=sk
def CZ:Sc 4 ["self","board","caller","target"] (tm 43 0):=sk
def DM:Sc 4 ["self","board","caller","target"] (tm 44 2):=sk
def Gv:Sc 4 ["self","board","caller","target"] (tm 45 0):=sk
def CW:Sc 4 ["self","board","caller","target"] (tm 46 1):=sk
def Gm:Sc 4 ["self","board","caller","target"] (tm 47 2):=sk
def vZ:Sc 4 ["self","board","caller","target","talk","members"] (tm 48 3):=sk
def Dg:Sc 2 ["self","phone"] (tm 36 4):=sk
def A7:Sc 2 ["self","phone"] (tm 36 5):=sk
def DZ:Sc 2 ["self","phone"] (tm 36 1):=sk
def DW:Sc 2 ["self","phone"] (tm 74 3):=sk
def xA:Sc 2 ["self","phone"] (tm 32 7):=sk
def DX:Sc 2 ["self","phone"] (tm 32 6):=sk
def CS:Sc 2 ["self","call"] (tm 39 4):=sk
def AR:Sc 2 ["self","call"] (tm 46 2):=sk
def FF:Sc 1 ["self"] (tm 39 1):=sk
def zS:Sc 2 ["self","hour"] (tm 44 1):=sk
def Ae:Sc 1 ["self"] (tm 36 8):=sk
def zL:Sc 2 ["self","phone"] (tm 36 6):=sk
def vQ:Sc 3 ["self","plan","members","rank"] (tm 48 2):=sk
def zW:Sc 3 ["self","caller","target"] (tm 36 7):=sk
def CF:Sc 2 ["self","name"] (tm 74 6):=sk
def Ac:Sc 2 ["self","name"] (tm 74 5):=sk
def D6:Sc 2 ["self","phone"] (tm 32 3):=sk
def Hg:Sc 2 ["self","phone"] (tm 32 1):=sk
def Fe:Sc 2 ["self","phone"] (tm 74 4):=sk
noncomputable def K6:T0 (Str×QQQ):=[("bar",["phone","names"]),("shut",["name","phones"]),("always",["name","name"]),("night",["name","name","hour","hour"]),("busy",["name","name"]),("silent",["name","name","turns"]),("wait",["phone"]),("breaks",["phone"])]
set_option genInjectivity false in
structure Ad where
 (aR aS aT aU ab ac aV aW aX aY aZ a0 a1 a2 a3 ad a4 a5 a6 a7 a8 a9 ba N O ae bb bc P bd m af ag Q be bf bg bh bi bj R i ah S bk bl bm ai bn bo bp bq br aj bs bt bu bv bw bx L bz ak I al am k M an bA bB bC ao ap A aq ar au av T U aw ax z ay az F bD V aA X aB aC aD aE aF aG aH aI aJ bE bF bG bH bI aK q aL l bJ bK bL bM aM aN Y bN bO aO:FA)
 (e c B r t Z w n x u v o h b3 H:Uf)
structure Gl(K:qM)(mg:QQZ)(a:Ad):Prop where
 e:CG K mg "Call" a.e
 c:CG K mg "Board" a.c
 B:CG K mg "Wish" a.B
 r:CG K mg "Bar" a.r
 t:CG K mg "Shut" a.t
 Z:CG K mg "Forward" a.Z
 w:CG K mg "Always" a.w
 n:CG K mg "Night" a.n
 x:CG K mg "Busy" a.x
 u:CG K mg "Silent" a.u
 v:CG K mg "Wait" a.v
 o:CG K mg "Breaks" a.o
 h:CG K mg "Plan" a.h
 cV:mg "CallError"=Fa (.ref a.b3)
 bX:mg "NoDeed"=Fa (.ref a.H)
 aR:TG K mg (rK 5) "fitting" ["board","caller","target"] a.aR
 aS:TG K mg (rK 6) "rung_phones" ["board","caller","target"] a.aS
 aT:TG K mg (rK 7) "end_without_wish" ["board","caller","target"] a.aT
 aU:TG K mg (rK 8) "end_as_wanted" ["wanted","target"] a.aU
 ab:TG K mg (rK 9) "route" ["board","caller","target","way"] a.ab
 ac:TG K mg (rK 11) "word_for_idling" ["board","phone"] a.ac
 aV:TG K mg (rK 12) "word_for_call" ["board","phone","target"] a.aV
 aW:TG K mg (rK 13) "suits" ["word","phone","calls"] a.aW
 aX:TG K mg (rK 14) "word_for_numbers" ["board","word","phone","numbers"] a.aX
 aY:TG K mg (rK 15) "word_for_switch" ["board","word","number"] a.aY
 aZ:TG K mg (rK 16) "refusal" ["board","deed"] a.aZ
 a0:TG K mg (rK 17) "take_steps" ["board","number","steps"] a.a0
 a1:TG K mg (rK 18) "start_ringing" ["board","number","target","phones"] a.a1
 a2:TG K mg (rK 19) "break_in" ["board","number","target"] a.a2
 a3:TG K mg (rK 20) "come_to_end" ["board","number","end"] a.a3
 ad:TG K mg (rK 21) "go_on" ["board","number"] a.ad
 a4:TG K mg (rK 22) "make_call" ["board","phone","target"] a.a4
 a5:TG K mg (rK 23) "hang_up" ["board","phone","number"] a.a5
 a6:TG K mg (rK 24) "due_wishes" ["board","call"] a.a6
 a7:TG K mg (rK 25) "send_on" ["board","number","fits"] a.a7
 a8:TG K mg (rK 26) "let_turn_pass" ["board"] a.a8
 a9:TG K mg (rK 27) "event_of" ["board","deed"] a.a9
 ba:TG K mg (rK 28) "act" ["board","deed"] a.ba
 N:TG K mg (rK 29) "do" ["board","deed"] a.N
 O:TG K mg (rK 31) "place_of_true" ["answers"] a.O
 ae:TG K mg (rK 33) "end_call" ["call","word"] a.ae
 bb:TG K mg (rK 34) "drop_phone" ["call","phone"] a.bb
 bc:TG K mg (rK 35) "change_call" ["call","event"] a.bc
 P:TG K mg (rK 38) "is_busy" ["board","caller","target"] a.P
 bd:TG K mg (rK 49) "wish_of" ["told"] a.bd
 m:TG K mg (rK 64) "need" ["holds","words"] a.m
 af:TG K mg (rK 65) "is_name" ["text"] a.af
 ag:TG K mg (rK 66) "all_unlike" ["things"] a.ag
 Q:TG K mg (rK 67) "is_choice" ["chosen","known","most"] a.Q
 be:TG K mg (rK 68) "check_phones" ["phones"] a.be
 bf:TG K mg (rK 69) "check_groups" ["groups","phone_names"] a.bf
 bg:TG K mg (rK 70) "part_holds" ["kind","part","phone_names","names"] a.bg
 bh:TG K mg (rK 71) "check_wish" ["wish","phone_names","names"] a.bh
 bi:TG K mg (rK 72) "check_wishes" ["wishes","phone_names","names"] a.bi
 bj:TG K mg (rK 73) "check_plan" ["phones","groups","wishes"] a.bj
 R:TG K mg (rK 76) "_law_at" ["_law_script","_law_k"] a.R
 i:TG K mg (rK 77) "_law_draw" ["_law_cell","_law_factor","_law_many"] a.i
 ah:TG K mg (rK 78) "_law_word" ["_law_seed","_law_which"] a.ah
 S:TG K mg (rK 79) "_law_some" ["_law_row","_law_cell","_law_most"] a.S
 bk:TG K mg (rK 80) "_law_phones" ["_law_seed","_law_most"] a.bk
 bl:TG K mg (rK 81) "_law_groups" ["_law_seed","_law_own"] a.bl
 bm:TG K mg (rK 82) "_law_wish" ["_law_cell","_law_own","_law_names_here"] a.bm
 ai:TG K mg (rK 83) "_law_plan" ["_law_script","_law_most"] a.ai
 bn:TG K mg (rK 84) "_law_people" ["_law_call"] a.bn
 bo:TG K mg (rK 85) "_law_of_state" ["_law_board","_law_states"] a.bo
 bp:TG K mg (rK 86) "_law_on_call" ["_law_board","_law_cell","_law_word_here","_law_states"] a.bp
 bq:TG K mg (rK 87) "_law_any" ["_law_cell","_law_own","_law_names_here","_law_many"] a.bq
 br:TG K mg (rK 88) "_law_deed" ["_law_board","_law_cell","_law_own","_law_names_here"] a.br
 aj:TG K mg (rK 89) "_law_made" ["_law_script","_law_most"] a.aj
 bs:TG K mg (rK 90) "_law_names" ["_law_board"] a.bs
 bt:TG K mg (rK 91) "_law_done" ["_law_board","_law_deed_here"] a.bt
 bu:TG K mg (rK 92) "_law_rung" ["_law_board","_law_k","_law_target","_law_phones_here"] a.bu
 bv:TG K mg (rK 93) "_law_end" ["_law_board","_law_k","_law_caller","_law_end_here","_law_steps"] a.bv
 bw:TG K mg (rK 94) "_law_going" ["_law_board","_law_k","_law_caller","_law_target","_law_way"] a.bw
 bx:TG K mg (rK 95) "_law_fits" ["_law_board","_law_wishes","_law_call"] a.bx
 L:TG K mg (rK 96) "_law_put" ["_law_board","_law_due","_law_events"] a.L
 bz:TG K mg (rK 97) "_law_turn" ["_law_board","_law_wishes"] a.bz
 ak:TG K mg (rK 98) "law" ["_law_script"] a.ak
 I:MG K a.H (tm 3 0) "__init__" "NoDeed.__init__" ["self","word"] a.I
 al:MG K a.c (tm 36 0) "__init__" "Board.__init__" ["self","plan","hour"] a.al
 am:MG K a.h (tm 74 0) "__init__" "Plan.__init__" ["self","phones","groups","wishes"] a.am
 k:MG K a.c (tm 36 12) "apply" "Board.apply" ["self","event"] a.k
 M:MG K a.c (tm 36 3) "talk_of" "Board.talk_of" ["self","phone"] a.M
 an:MG K a.e (tm 32 0) "__init__" "Call.__init__" ["self","caller"] a.an
 bA:MG K a.c (tm 36 10) "add_leg" "Board.add_leg" ["self","leg"] a.bA
 bB:MG K a.c (tm 36 11) "merge" "Board.merge" ["self","merged","kept","members"] a.bB
 bC:MG K a.c (tm 36 9) "pass_turn" "Board.pass_turn" ["self"] a.bC
 ao:MG K a.r (tm 40 0) "__init__" "Bar.__init__" ["self","told"] a.ao
 ap:MG K a.t (tm 41 0) "__init__" "Shut.__init__" ["self","told"] a.ap
 A:MG K a.Z (tm 42 0) "__init__" "Forward.__init__" ["self","told"] a.A
 aq:MG K a.n (tm 44 0) "__init__" "Night.__init__" ["self","told"] a.aq
 ar:MG K a.u (tm 46 0) "__init__" "Silent.__init__" ["self","told"] a.ar
 au:MG K a.v (tm 47 0) "__init__" "Wait.__init__" ["self","told"] a.au
 av:MG K a.o (tm 48 0) "__init__" "Breaks.__init__" ["self","told"] a.av
 T:MG K a.e (tm 32 2) "talks_with" "Call.talks_with" ["self","phone"] a.T
 U:MG K a.h (tm 74 2) "phone_names" "Plan.phone_names" ["self"] a.U
 aw:MG K a.r (tm 40 1) "wants" "Bar.wants" ["self"] a.aw
 ax:MG K a.t (tm 41 1) "wants" "Shut.wants" ["self"] a.ax
 z:MG K a.Z (tm 42 1) "wants" "Forward.wants" ["self"] a.z
 ay:MG K a.v (tm 47 1) "wants" "Wait.wants" ["self"] a.ay
 az:MG K a.o (tm 48 1) "wants" "Breaks.wants" ["self"] a.az
 F:MG K a.B (tm 39 0) "__init__" "Wish.__init__" ["self","told"] a.F
 bD:MG K a.h (tm 74 1) "names" "Plan.names" ["self"] a.bD
 V:MG K a.c (tm 36 2) "is_free" "Board.is_free" ["self","phone"] a.V
 aA:MG K a.e (tm 32 5) "waits_with" "Call.waits_with" ["self","phone"] a.aA
 X:MG K a.e (tm 32 4) "is_tried_by" "Call.is_tried_by" ["self","phone"] a.X
 aB:MG K a.e (tm 32 8) "other_than" "Call.other_than" ["self","phone"] a.aB
 aC:MG K a.r (tm 40 2) "fits" "Bar.fits" ["self","board","caller","target"] a.aC
 aD:MG K a.t (tm 41 2) "fits" "Shut.fits" ["self","board","caller","target"] a.aD
 aE:MG K a.w (tm 43 0) "fits" "Always.fits" ["self","board","caller","target"] a.aE
 aF:MG K a.n (tm 44 2) "fits" "Night.fits" ["self","board","caller","target"] a.aF
 aG:MG K a.x (tm 45 0) "fits" "Busy.fits" ["self","board","caller","target"] a.aG
 aH:MG K a.u (tm 46 1) "fits" "Silent.fits" ["self","board","caller","target"] a.aH
 aI:MG K a.v (tm 47 2) "fits" "Wait.fits" ["self","board","caller","target"] a.aI
 aJ:MG K a.o (tm 48 3) "fits" "Breaks.fits" ["self","board","caller","target"] a.aJ
 bE:MG K a.c (tm 36 4) "bound" "Board.bound" ["self","phone"] a.bE
 bF:MG K a.c (tm 36 5) "calling" "Board.calling" ["self","phone"] a.bF
 bG:MG K a.c (tm 36 1) "used" "Board.used" ["self","phone"] a.bG
 bH:MG K a.h (tm 74 3) "lines" "Plan.lines" ["self","phone"] a.bH
 bI:MG K a.e (tm 32 7) "can_be_left_by" "Call.can_be_left_by" ["self","phone"] a.bI
 aK:MG K a.e (tm 32 6) "pairs" "Call.pairs" ["self","phone"] a.aK
 q:MG K a.B (tm 39 4) "is_due" "Wish.is_due" ["self","call"] a.q
 aL:MG K a.u (tm 46 2) "is_due" "Silent.is_due" ["self","call"] a.aL
 l:MG K a.B (tm 39 1) "told" "Wish.told" ["self"] a.l
 bJ:MG K a.n (tm 44 1) "has_hour" "Night.has_hour" ["self","hour"] a.bJ
 bK:MG K a.c (tm 36 8) "hour_now" "Board.hour_now" ["self"] a.bK
 bL:MG K a.c (tm 36 6) "waits_at" "Board.waits_at" ["self","phone"] a.bL
 bM:MG K a.o (tm 48 2) "outranks" "Breaks.outranks" ["self","plan","members"] a.bM
 aM:MG K a.c (tm 36 7) "ringable" "Board.ringable" ["self","caller","target"] a.aM
 aN:MG K a.h (tm 74 6) "manner" "Plan.manner" ["self","name"] a.aN
 Y:MG K a.h (tm 74 5) "phones_of" "Plan.phones_of" ["self","name"] a.Y
 bN:MG K a.e (tm 32 3) "binds" "Call.binds" ["self","phone"] a.bN
 bO:MG K a.e (tm 32 1) "has" "Call.has" ["self","phone"] a.bO
 aO:MG K a.h (tm 74 4) "rank" "Plan.rank" ["self","phone"] a.aO
 b4:JM K a.H a.I.f
 b5:zt K a.H "word"
 b6:P8 K a.H "word"
 b7:W.exmOne K (.ref a.H) (.ref a.H)=Fa pc
 b8:Mk K a.c a.al.f
 b9:Mk K a.h a.am.f
 ca:Mk K a.e a.an.f
 cb:Mk K a.r a.ao.f
 cc:Mk K a.t a.ap.f
 cd:Mk K a.w a.A.f
 ce:Mk K a.n a.aq.f
 cf:Mk K a.x a.A.f
 cg:Mk K a.u a.ar.f
 ch:Mk K a.v a.au.f
 ci:Mk K a.o a.av.f
 cj:wu K a.w "wants" a.z.f
 ck:wu K a.n "wants" a.z.f
 cl:wu K a.x "wants" a.z.f
 cm:wu K a.u "wants" a.z.f
 cn:wu K a.r "is_due" a.q.f
 co:wu K a.t "is_due" a.q.f
 cp:wu K a.w "is_due" a.q.f
 cq:wu K a.n "is_due" a.q.f
 cr:wu K a.x "is_due" a.q.f
 cs:wu K a.v "is_due" a.q.f
 ct:wu K a.o "is_due" a.q.f
 cu:wu K a.r "told" a.l.f
 cv:wu K a.t "told" a.l.f
 cw:wu K a.w "told" a.l.f
 cx:wu K a.n "told" a.l.f
 cy:wu K a.x "told" a.l.f
 cz:wu K a.u "told" a.l.f
 cA:wu K a.v "told" a.l.f
 cB:wu K a.o "told" a.l.f
 aP:Ow K a.B "__init__" a.F.f
 bY:Ow K a.Z "__init__" a.A.f
 C:zN K a.c ["plan","hour","turn","calls","legs","nexts","on","log"]
 aa:zN K a.h ["phones","groups","wishes","on","phone_rows","group_rows"]
 j:zN K a.e ["state","caller","way","at","members","holder","since","word"]
 bS:zN K a.r ["form","phone","targets"]
 bT:zN K a.t ["form","target","callers"]
 bU:zN K a.w ["form","target","goal"]
 aQ:zN K a.n ["form","target","goal","first","last"]
 bV:zN K a.x ["form","target","goal"]
 bP:zN K a.u ["form","target","goal","turns"]
 bZ:zN K a.v ["form","phone"]
 b0:zN K a.o ["form","phone"]
 cC:W.kitOne K (.type "str") (.type "str")=Fa pc
 cD:W.kitOne K (.type "list") (.type "str")=Fa lf
 bQ:mg "enumerate"=Db
 cE:mg "isinstance"=Db
 cF:mg "str"=Db
 J:mg "range"=Db
 g:mg "len"=Db
 y:mg "list"=Db
 bW:mg "dict"=Db
 E:mg "tuple"=Db
 cG:mg "min"=Db
 cH:mg "set"=Db
 bR:mg "all"=Db
 cI:mg "zip"=Db
 cJ:mg "any"=Db
 cK:KD K mg "MOST_PHONES" (.int 8)
 cL:KD K mg "MOST_LINES" (.int 3)
 cM:KD K mg "MOST_RANK" (.int 9)
 cN:KD K mg "MOST_GROUPS" (.int 3)
 cO:KD K mg "MANNERS" (.tup ((["all","turns"]:QQQ).map D.str))
 cP:KD K mg "MOST_MEMBERS" (.int 4)
 cQ:KD K mg "MOST_WISHES" (.int 16)
 cR:KD K mg "MOST_SIGNS" (.int 6)
 cS:KD K mg "LETTERS" (.str "abcdefghijklmnopqrstuvwxyz")
 b1:ND K mg "FORMS" K6
 b2:KD K mg "MOST_LISTED" (.int 6)
 cT:KD K mg "LAST_HOUR" (.int 23)
 cU:KD K mg "MOST_TURNS" (.int 9)
noncomputable def draw(c f m:Int):Int:=(c % 2147483647+5)*f % 2147483629 / 89 % m
def rH{c f m:Int}(h:0<m):0<=draw c f m:=fg _ (by lia)
def rm{c f m:Int}(h:0<m):draw c f m<m:=eV _ h
def JG:rO:=λds M Q=>Ea λc f m=>ds=[.int c,.int f,.int m]/\0<m/\Q (.int (draw c f m)) M
noncomputable def uO:Str:="abcdefghijklmnopqrstuvwxyz"
noncomputable def uJ(i:Int):Str:=⟨#[97+i.toNat]⟩
noncomputable def size(s:Int):Int:=1+s % 6
def uZ(s:Int):Int:=s / 6 % size s
def xW(s v:Int):Str:=zE (uJ (s / 36 % 26)) (uZ s)++uJ ((s / 936+v) % 26)++zE (uJ (s / 36 % 26)) (size s - 1 - uZ s)
def PD:rO:=λds M Q=>CP λs v=>ds=[.int s,.int v]/\Q (.str (xW s v)) M
noncomputable def cell(ns:T0 Int)(i:Int):Int:=if 0<=i/\i<ns.length then ns.getD i.toNat 0 else 0
def VO:rO:=λds M Q=>CP λns i=>ds=[.rl (ns.map D.int),.int i]/\Q (.int (cell ns i)) M
def Hh(c:Int):0<size c:=by unfold size;have:=fg c (show(6:Int)≠0 by decide);lia
def Js(c:Int):size c<=6:=by unfold size;have:=eV c (show(0:Int)<6 by decide);lia
def G0(i n:Int):(zE (uJ i) n).length=n.toNat:=by show((List.replicate n.toNat (uJ i).cps).foldl (·++·) #[]:Array Nat).size=n.toNat;rw[Jn];show n.toNat*1=n.toNat;lia
def Bk:uO.length<=Ch:=by decide+kernel
variable {P:Pg}{w:Wo}{K:qM}{mg:QQZ}{base:No}{a:Ad}(G:Gl K mg a)
def rc:Fq P w K mg base 1 a.i JG:=by
 refine fq G.i.toDG Hn (λr u=>⟨_,(pL (pS (qu (qu (qu (qu (qu (qu v0 pN) pN) U1) pN) pN) U2))),?_⟩)
 rintro ds M Q ⟨c,f,m,rfl,hm,q⟩
 refine⟨by decide,.inl ?_,by decide,⟨by decide,by decide⟩,hm,M,.refl,q⟩;have h1:0<=c % 2147483647:=fg _ (by decide);have h2:c % 2147483647<2147483647:=eV _ (by decide);exact⟨by lia,by lia⟩
def EQ{i:Int}(h0:0<=i)(h1:i<26):vY uO.cps.toList i=Fa (97+i.toNat):=by
 obtain⟨n,rfl⟩:=eG h0;have hn:n<26:=by lia
 have key:∀n:_root_.Fin 26,vY uO.cps.toList ((n.val:Nat):Int)=Fa (97+n.val):=by decide+kernel
 exact key ⟨n,hn⟩
def Jp:Fq P w K mg base 1 a.ah PD:=by
 refine fq G.ah.toDG uL (λr u=>⟨_,(pK (qc 2 uL pO)
 (pK (qc 3 uL (qu pN (qu v0 pN)))
 (pK (qc 4 uL (qu (qu v0 pN) U3))
 (pK (qc 5 uL (pV U2 (qu (qu v0 pN) pN)))
 (pK (qc 6 uL (pV U2 (qu (qu (qu v0 pN) U1) pN)))
 (pL (pS (qu (qu (qu v5 U4) v6) (qu v5 (qu (qu U3 pN) U4)))))))))),?_⟩)
 rintro ds M Q ⟨c,v,rfl,q⟩
 have hs:=Hh c;have hs6:=Js c;have hp0:0<=uZ c:=fg _ (by lia);have ZT:uZ c<size c:=eV _ hs;have l1:=G0 (c / 36 % 26) (uZ c);have l2:=G0 (c / 36 % 26) (size c - 1 - uZ c);have hz:=dP;refine⟨by decide,⟨by decide,by decide⟩,hs,⟨by decide,by decide⟩,by decide,Bk,i' (EQ (fg _ (by decide)) (eV _ (by decide))) ?_⟩;refine⟨⟨by decide,by decide⟩,by decide,Bk,i' (EQ (fg _ (by decide)) (eV _ (by decide))) ?_⟩;refine⟨⟨?_,?_,?_⟩,?_,⟨?_,?_,?_⟩,?_,M,.refl,q⟩
 .show uZ c<4096;lia
 .show -4096<uZ c;lia
 .show(1:Nat)<4096;decide
 .show(zE (uJ (c / 36 % 26)) (uZ c)).length+1<=Ch;lia
 .show size c - 1 - uZ c<4096;lia
 .show -4096<size c - 1 - uZ c;lia
 .show(1:Nat)<4096;decide
 .show(zE (uJ (c / 36 % 26)) (uZ c)++uJ ((c / 936+v) % 26)).length+(zE (uJ (c / 36 % 26)) (size c - 1 - uZ c)).length<=Ch;rw[PySem.size_cat];have:(uJ ((c / 936+v) % 26)).length=1:=rfl;lia
def Nt:Fq P w K mg base 1 a.R VO:=by
 refine fq G.R.toDG KN (λr u=>⟨_,(pK (qg (G9 u pN U1 (qm qP Z' G.g qL (qA v0)))
 (pL (pS (pV v0 U1)))
 pZ)
 (pL (pS pN))),?_⟩)
 rintro ds M Q ⟨ns,i,rfl,q⟩
 refine qU (λh0=>?_) (λh0=>?_)
 .have h0:0<=i:=fH h0;refine qU (λh1=>?_) (λh1=>?_)
  .have h1:i<((ns.map D.int).length:Int):=fH h1;rw[cW]at h1;have hi:i.toNat<ns.length:=by lia
   have e:vY (ns.map D.int) i=Fa (D.int (ns.getD i.toNat 0)):=by
    obtain⟨n,rfl⟩:=eG h0;have hn:n<ns.length:=by lia
    refine tU ?_;rw[dz,c9 hn];simp[hn]
   refine i' e ⟨M,.refl,?_⟩;have:cell ns i=ns.getD i.toNat 0:=by unfold cell;rw[dg ⟨h0,h1⟩]
   rw[<-this];exact q
  .have h1:¬i<((ns.map D.int).length:Int):=λz=>h1 (dX z);rw[cW]at h1;refine⟨M,.refl,?_⟩;have:cell ns i=0:=by unfold cell;rw[de (λz=>h1 z.2)]
   rw[<-this];exact q
 .have h0:¬0<=i:=λz=>h0 (dX z);refine⟨M,.refl,?_⟩;have:cell ns i=0:=by unfold cell;rw[de (λz=>h0 z.1)]
  rw[<-this];exact q
inductive Wi where
 | bar (x:Str) (ns:QQQ)|shut (x:Str) (ns:QQQ)|always (x y:Str)|night (x y:Str) (f l:Int)|busy (x y:Str)|silent (x y:Str) (n:Int)|wait (x:Str)|breaks (x:Str)
abbrev names(ns:QQQ):D:=.tup (ns.map D.str)
noncomputable def Wi.told:Wi->T0 D
 | .bar x ns=>[.str "bar",.str x,names ns]
 | .shut x ns=>[.str "shut",.str x,names ns]
 | .always x y=>[.str "always",.str x,.str y]
 | .night x y f l=>[.str "night",.str x,.str y,.int f,.int l]
 | .busy x y=>[.str "busy",.str x,.str y]
 | .silent x y n=>[.str "silent",.str x,.str y,.int n]
 | .wait x=>[.str "wait",.str x]
 | .breaks x=>[.str "breaks",.str x]
noncomputable def Wi.cls(a:Ad):Wi->Uf
 | .bar _ _=>a.r
 | .shut _ _=>a.t
 | .always _ _=>a.w
 | .night _ _ _ _=>a.n
 | .busy _ _=>a.x
 | .silent _ _ _=>a.u
 | .wait _=>a.v
 | .breaks _=>a.o
noncomputable def Wi.more:Wi->T0 (Str×D)
 | .bar x ns=>[("phone",.str x),("targets",names ns)]
 | .shut x ns=>[("target",.str x),("callers",names ns)]
 | .always x y=>[("target",.str x),("goal",.str y)]
 | .night x y f l=>[("target",.str x),("goal",.str y),("first",.int f),("last",.int l)]
 | .busy x y=>[("target",.str x),("goal",.str y)]
 | .silent x y n=>[("target",.str x),("goal",.str y),("turns",.int n)]
 | .wait x=>[("phone",.str x)]
 | .breaks x=>[("phone",.str x)]
noncomputable def Wi.nW(v:Wi):T0 (Str×D):=("form",.tup v.told)::v.more
abbrev CC(ns:QQQ)(i:Int):Str:=ns.getD i.toNat Str.empty
def xN(row:QQQ)(c m:Int):Nat:=(1+draw c 40692 (if (row.length:Int)<m then(row.length:Int)else m)).toNat
def UF(row:QQQ)(c:Int)(j:Nat):Str:=CC row ((draw c 69621 row.length+(0+(j:Nat))) % row.length)
def wx(row:QQQ)(c m:Int):QQQ:=(List.range (xN row c m)).map (UF row c)
def QV:rO:=λds M Q=>CO λr c m row=>ds=[.ref r,.int c,.int m]/\pq M r=Fa (row.map D.str)/\row≠[]/\0<m/\row.length<=64/\Q (names (wx row c m)) M
def JQ{row:QQQ}(h:row≠[])(x:Int):vY (row.map D.str) (x % row.length)=Fa (D.str (CC row (x % row.length))):=by
 have hl:0<row.length:=fG.mpr h;have h0:0<=x % row.length:=fg _ (by lia);have h1:x % row.length<row.length:=eV _ (by lia);obtain⟨n,hn⟩:=eG h0;rw[hn]at h1 ⊢;have Zp:n<row.length:=by lia
 refine tU ?_;rw[dz,c9 Zp];simp[CC,Zp]
def yK:Fq P w K mg base 2 a.S QV:=by
 refine fq G.S.toDG xU (λr u=>⟨_,(pK (qc 3 xU (pX (rc G) r G.i (rC U1 pN (qm qP Z' G.g qL (qA v0)))))
 (pK (qc 4 xU (qu pN (pX (rc G) r G.i (rC U1 pN (qm (Uk Z') Z' G.cG SB (sH U2 (qm qP Z' G.g qL (qA v0))))))))
 (pL (pS (qK uC Z' G.E uu (qA (ra Z' (yH (ix:=[Db,Fa 0,Fa 3]) (N':=["_law_j","_law_row","_law_first"])) (uK Z' G.J (qA U4)) (qW 0) sD (pV U1 (qu (qu U2 v0) (qm qP Z' G.g qL (qA U1))))))))))),?_⟩)
 rintro ds M Q ⟨r,c,m,row,rfl,hl,X9,hm,h64,q⟩
 have XW:0<row.length:=fG.mpr X9;have hz:=dP;have el:((row.map D.str).length:Int)=row.length:=by rw[cW]
 refine i' hl ⟨c,69621,_,Z',by rw[el];lia,?_⟩;refine i' hl ⟨c,40692,_,Z',by rw[el];split<;>lia,?_⟩;rw[el];have d0:=rH (c:=c) (f:=40692) (m:=if (row.length:Int)<m then(row.length:Int)else m) (by split<;>lia);have d1:=rm (c:=c) (f:=40692) (m:=if (row.length:Int)<m then(row.length:Int)else m) (by split<;>lia);have d2:draw c 40692 (if (row.length:Int)<m then(row.length:Int)else m)<row.length+1:=by refine Int.lt_of_lt_of_le d1 ?_;split<;>lia
 refine⟨Z',⟨?_,?_⟩,rM (f:=λd=>match d with|.int j=>D.str (CC row ((draw c 69621 row.length+j) % row.length))|_=>.mY) trivial _ [] _ ?_ (λd hd k hk=>?_) λp hp=>?_⟩
 .show -(2 ^ 62)<=1+draw c 40692 (if (row.length:Int)<m then(row.length:Int)else m);lia
 .show 1+draw c 40692 (if (row.length:Int)<m then(row.length:Int)else m)<2 ^ 62;lia
 .rw[cW,eA];show 0+xN row c m<=Ch;unfold xN;lia
 .obtain⟨j,_,rfl⟩:=dF.mp hd;refine i' hl ⟨by rw[el];lia,i' hl ?_⟩;rw[el];exact i' (JQ X9 _) hk
 .refine i' (x:=(wx row c m).map D.str) ?_ ⟨M,.new hp,q⟩;unfold pq;rw[qh];show Fa ([]++((List.range (xN row c m)).map λi=>D.int (0+(i:Nat))).map _)=_;rw[d6,eC];unfold wx;rw[eC];rfl
def xc(c:Int)(own all:QQQ):Wi:=
 let x:=CC own (draw c 16807 own.length);let pl:=draw c 39373 all.length;let y:=CC all pl;let z:=CC all ((pl+1+draw c 742938285 ((all.length:Int) - 1)) % all.length);let k:=draw c 1226874159 12
 if k=0 then .bar x (wx all c 3)
 else if k=1 then .shut y (wx own c 3)
 else if k=2 then .always y z
 else if k<5 then .night y z (draw c 22695477 24) ((draw c 22695477 24+1+draw c 48271 23) % 24)
 else if k<7 then .busy y z
 else if k<9 then .silent y z ([1,1,2,3,9].getD (draw c 950706376 5).toNat 0)
 else if k=9 then .wait x
 else .breaks x
def QU:rO:=λds M Q=>HE λc o n own all=>ds=[.int c,.ref o,.ref n]/\pq M o=Fa (own.map D.str)/\pq M n=Fa (all.map D.str)/\own≠[]/\2<=all.length/\own.length<=64/\all.length<=64/\Q (.tup (xc c own all).told) M
def Ie{row:QQQ}{x:Int}(h0:0<=x)(h1:x<row.length):vY (row.map D.str) x=Fa (D.str (CC row x)):=by
 obtain⟨n,rfl⟩:=eG h0;have Zp:n<row.length:=by lia
 refine tU ?_;rw[dz,c9 Zp];simp[CC,Zp]
def Pi:Fq P w K mg base 3 a.bm QU:=by
 refine fq G.bm.toDG tZ (λr u=>⟨_,(pK (qc 3 tZ (pV U1 (pX (rc G) r G.i (rC v0 pN (qm qP Z' G.g qL (qA U1))))))
 (pK (qc 4 tZ (pX (rc G) r G.i (rC v0 pN (qm qP Z' G.g qL (qA U2)))))
 (pK (qc 5 tZ (pV U2 U4))
 (pK (qc 6 tZ (pV U2 (qu (qu (qu U4 pN) (pX (rc G) r G.i (rC v0 pN (qu (qm qP Z' G.g qL (qA U2)) pN)))) (qm qP Z' G.g qL (qA U2)))))
 (pK (qc 7 tZ (pX (rc G) r G.i (rC v0 pN pN)))
 (pK (qg (pW u v7 pN)
 (pL (pS (qd (rC pO U3 (pX (yK G) r G.S (rC U2 v0 pN))))))
 pZ)
 (pK (qg (pW u v7 pN)
 (pL (pS (qd (rC pO v5 (pX (yK G) r G.S (rC U1 v0 pN))))))
 pZ)
 (pK (qg (pW u v7 pN)
 (pL (pS (qd (rC pO v5 v6))))
 pZ)
 (pK (qg (pW u v7 pN)
 (pK (qc 8 tZ (pX (rc G) r G.i (rC v0 pN pN)))
 (pL (pS (qd (qo pO (qo v5 (rC v6 v8 (qu (qu (qu v8 pN) (pX (rc G) r G.i (rC v0 pN pN))) pN))))))))
 pZ)
 (pK (qg (pW u v7 pN)
 (pL (pS (qd (rC pO v5 v6))))
 pZ)
 (pK (qg (pW u v7 pN)
 (pL (pS (qd (qo pO (rC v5 v6 (pV (qd (qo pN (qo pN (rC pN pN pN)))) (pX (rc G) r G.i (rC v0 pN pN))))))))
 pZ)
 (pK (qg (pW u v7 pN)
 (pL (pS (qd (sH pO U3))))
 pZ)
 (pL (pS (qd (sH pO U3)))))))))))))))),?_⟩)
 rintro ds M Q ⟨c,o,n,own,all,rfl,ho,hn,X9,h2,l1,l2,q⟩
 have XW:0<own.length:=fG.mpr X9;have hne2:all≠[]:=λz=>by rw[z]at h2;simp at h2
 have e1:((own.map D.str).length:Int)=own.length:=by rw[cW]
 have e2:((all.map D.str).length:Int)=all.length:=by rw[cW]
 have p1:(0:Int)<own.length:=by lia
 have p2:(0:Int)<all.length:=by lia
 have p3:(0:Int)<(all.length:Int) - 1:=by lia
 refine i' ho ⟨c,_,_,Z',by rw[e1];exact p1,?_⟩;rw[e1];refine i' ho (i' (Ie (rH p1) (rm p1)) ?_);refine i' hn ⟨c,_,_,Z',by rw[e2];exact p2,?_⟩;rw[e2];refine i' hn (i' (Ie (rH p2) (rm p2)) ?_);refine i' hn ⟨c,_,_,Z',by rw[e2];exact p3,?_⟩;rw[e2];refine i' hn ⟨by rw[e2];exact p2,?_⟩;rw[e2];refine i' hn (i' (JQ hne2 _) ?_);refine⟨c,_,_,Z',by decide,?_⟩;have XT:∀t:T0 D,(xc c own all).told=t->∃XU,qJ XU M/\Q (.tup t) XU:=λt e=>⟨M,.refl,e ▸ q⟩;have k0:0<=draw c 1226874159 12:=rH (by decide);refine qU (λh=>?_) (λh=>?_)
 .have h:draw c 1226874159 12=0:=by simpa using h
  refine⟨n,c,3,all,Z',hn,hne2,by decide,l2,pI Z',XT _ ?_⟩;simp only[xc,dg h,Wi.told]
 have h:¬draw c 1226874159 12=0:=by simpa using h
 refine qU (λg=>?_) (λg=>?_)
 .have g:draw c 1226874159 12=1:=by simpa using g
  refine⟨o,c,3,own,Z',ho,X9,by decide,l1,pI Z',XT _ ?_⟩;simp only[xc,de h,dg g,Wi.told]
 have g:¬draw c 1226874159 12=1:=by simpa using g
 refine qU (λi=>?_) (λi=>?_)
 .have i:draw c 1226874159 12=2:=by simpa using i
  refine⟨pI Z',XT _ ?_⟩;simp only[xc,de h,de g,dg i,Wi.told]
 have i:¬draw c 1226874159 12=2:=by simpa using i
 refine qU (λj=>?_) (λj=>?_)
 .have j:draw c 1226874159 12<5:=fH j;refine⟨c,_,_,Z',by decide,c,_,_,Z',by decide,by decide,pI Z',XT _ ?_⟩;simp only[xc,de h,de g,de i,dg j,Wi.told]
 have j:¬draw c 1226874159 12<5:=λz=>j (dX z);refine qU (λl=>?_) (λl=>?_)
 .have l:draw c 1226874159 12<7:=fH l;refine⟨pI Z',XT _ ?_⟩;simp only[xc,de h,de g,de i,de j,dg l,Wi.told]
 have l:¬draw c 1226874159 12<7:=λz=>l (dX z);refine qU (λm=>?_) (λm=>?_)
 .have m:draw c 1226874159 12<9:=fH m;have d0:0<=draw c 950706376 5:=rH (by decide);have d1:draw c 950706376 5<5:=rm (by decide);have e:vY [D.int 1,.int 1,.int 2,.int 3,.int 9] (draw c 950706376 5)=Fa (D.int ([1,1,2,3,9].getD (draw c 950706376 5).toNat 0)):=by
   obtain⟨t,ht⟩:=eG d0;rw[ht]at d1 ⊢;have:t<5:=by lia
   match t,this with
   | 0,_=>rfl
   | 1,_=>rfl
   | 2,_=>rfl
   | 3,_=>rfl
   | 4,_=>rfl
  refine⟨pI Z',c,_,_,Z',by decide,i' e ⟨pI Z',XT _ ?_⟩⟩;simp only[xc,de h,de g,de i,de j,de l,dg m,Wi.told]
 have m:¬draw c 1226874159 12<9:=λz=>m (dX z);refine qU (λr=>?_) (λr=>?_)
 .have r:draw c 1226874159 12=9:=by simpa using r
  refine⟨pI Z',XT _ ?_⟩;simp only[xc,de h,de g,de i,de j,de l,de m,dg r,Wi.told]
 have r:¬draw c 1226874159 12=9:=by simpa using r
 refine⟨pI Z',XT _ ?_⟩;simp only[xc,de h,de g,de i,de j,de l,de m,de r,Wi.told]
def MC(K:qM):rO:=λds M Q=>Ea λp d C=>ds=[.ref p,d]/\M p=Fa (.ins C [])/\uI K C "form"/\Q .mY (pT M p (.ins C [("form",d)]))
def L7(K:qM):rO:=λds M Q=>HE λp t x y C=>ds=[.ref p,.tup t]/\vY t 1=Fa x/\vY t 2=Fa y/\M p=Fa (.ins C [])/\uI K C "form"/\uI K C "target"/\uI K C "goal"/\Q .mY (pT M p (.ins C [("form",.tup t),("target",x),("goal",y)]))
def yP(a:Ad)(k:Wi->Prop):rO:=λds M Q=>CP λp v=>ds=[.ref p,.tup (Wi.told v)]/\k v/\M p=Fa (.ins (v.cls a) [])/\Q .mY (pT M p (.ins (v.cls a) v.nW))
def yl:Fq P w K mg base 1 a.F (MC K):=by
 refine fq G.F.toDG Gn (λr u=>⟨_,(pL (qy v0 U1)),?_⟩)
 rintro ds M Q ⟨p,d,C,rfl,hp,na,q⟩
 exact pM hp ⟨na,by decide,_,.refl,q⟩
def Ah:Fq P w K mg base 2 a.A (L7 K):=by
 refine fq G.A.toDG Bv (λr u=>⟨_,(pK (qe (zh G.aP (yl G) r G.B G.F.toDG (sH v0 U1)))
 (pK (qy v0 (pV U1 pN))
 (pL (qy v0 (pV U1 pN))))),?_⟩)
 rintro ds M Q ⟨p,t,x,y,C,rfl,e1,e2,hp,n1,n2,n3,q⟩
 refine⟨p,_,C,Z',hp,n1,i' e1 (pM qh ⟨n2,by show 1<1000;decide,?_⟩)⟩;refine i' e2 (pM qh ⟨n3,by show 2<1000;decide,_,?_,q⟩);rw[r6,r6];exact .refl
def Ub:Fq P w K mg base 2 a.ao (yP a λv=>∃x ns,v=.bar x ns):=by
 refine fq G.ao.toDG GC (λr u=>⟨_,(pK (qe (zh G.aP (yl G) r G.B G.F.toDG (sH v0 U1)))
 (pK (qy v0 (pV U1 pN))
 (pL (qy v0 (pV U1 pN))))),?_⟩)
 rintro ds M Q ⟨p,v,rfl,⟨x,ns,rfl⟩,hp,q⟩
 refine⟨p,_,_,Z',hp,(G.bS "form" Z'),pM qh ⟨(G.bS "phone" Z'),by show 1<1000;decide,?_⟩⟩;refine pM qh ⟨(G.bS "targets" Z'),by show 2<1000;decide,_,?_,q⟩;rw[r6,r6];exact .refl
def Pb:Fq P w K mg base 2 a.ap (yP a λv=>∃x ns,v=.shut x ns):=by
 refine fq G.ap.toDG E9 (λr u=>⟨_,(pK (qe (zh G.aP (yl G) r G.B G.F.toDG (sH v0 U1)))
 (pK (qy v0 (pV U1 pN))
 (pL (qy v0 (pV U1 pN))))),?_⟩)
 rintro ds M Q ⟨p,v,rfl,⟨x,ns,rfl⟩,hp,q⟩
 refine⟨p,_,_,Z',hp,(G.bT "form" Z'),pM qh ⟨(G.bT "target" Z'),by show 1<1000;decide,?_⟩⟩;refine pM qh ⟨(G.bT "callers" Z'),by show 2<1000;decide,_,?_,q⟩;rw[r6,r6];exact .refl
def Mn:Fq P w K mg base 3 a.aq (yP a λv=>∃x y f l,v=.night x y f l):=by
 refine fq G.aq.toDG DS (λr u=>⟨_,(pK (qe (zh G.bY (Ah G) r G.Z G.A.toDG (sH v0 U1)))
 (pK (qy v0 (pV U1 pN))
 (pL (qy v0 (pV U1 pN))))),?_⟩)
 rintro ds M Q ⟨p,v,rfl,⟨x,y,f,l,rfl⟩,hp,q⟩
 refine⟨p,_,_,_,_,Z',Z',Z',hp,(G.aQ "form" Z'),(G.aQ "target" Z'),(G.aQ "goal" Z'),pM qh ⟨(G.aQ "first" Z'),by show 3<1000;decide,?_⟩⟩;refine pM qh ⟨(G.aQ "last" Z'),by show 4<1000;decide,_,?_,q⟩;rw[r6,r6];exact .refl
def Lb:Fq P w K mg base 3 a.ar (yP a λv=>∃x y n,v=.silent x y n):=by
 refine fq G.ar.toDG Cn (λr u=>⟨_,(pK (qe (zh G.bY (Ah G) r G.Z G.A.toDG (sH v0 U1)))
 (pL (qy v0 (pV U1 pN)))),?_⟩)
 rintro ds M Q ⟨p,v,rfl,⟨x,y,n,rfl⟩,hp,q⟩
 refine⟨p,_,_,_,_,Z',Z',Z',hp,(G.bP "form" Z'),(G.bP "target" Z'),(G.bP "goal" Z'),pM qh ⟨(G.bP "turns" Z'),by show 3<1000;decide,_,?_,q⟩⟩;rw[r6];exact .refl
def O7:Fq P w K mg base 2 a.au (yP a λv=>∃x,v=.wait x):=by
 refine fq G.au.toDG Gw (λr u=>⟨_,(pK (qe (zh G.aP (yl G) r G.B G.F.toDG (sH v0 U1)))
 (pL (qy v0 (pV U1 pN)))),?_⟩)
 rintro ds M Q ⟨p,v,rfl,⟨x,rfl⟩,hp,q⟩
 refine⟨p,_,_,Z',hp,(G.bZ "form" Z'),pM qh ⟨(G.bZ "phone" Z'),by show 1<1000;decide,_,?_,q⟩⟩;rw[r6];exact .refl
def KL:Fq P w K mg base 2 a.av (yP a λv=>∃x,v=.breaks x):=by
 refine fq G.av.toDG CA (λr u=>⟨_,(pK (qe (zh G.aP (yl G) r G.B G.F.toDG (sH v0 U1)))
 (pL (qy v0 (pV U1 pN)))),?_⟩)
 rintro ds M Q ⟨p,v,rfl,⟨x,rfl⟩,hp,q⟩
 refine⟨p,_,_,Z',hp,(G.b0 "form" Z'),pM qh ⟨(G.b0 "phone" Z'),by show 1<1000;decide,_,?_,q⟩⟩;rw[r6];exact .refl
def Im(a:Ad):rO:=λds M Q=>∃v:Wi,ds=[.tup v.told]/\∀p,M p=Db->Q (.ref p) (pT M p (.ins (v.cls a) v.nW))
def J6(a:Ad):rO:=λds M Q=>CP λp (v:Wi)=>ds=[.ref p]/\M p=Fa (.ins (v.cls a) v.nW)/\Q (.tup v.told) M
def H9:rO:=λds M Q=>∃p,ds=[.ref p]/\Q (.tup [.str "end"]) M
def LB:rO:=λds M Q=>∃p,ds=[.ref p]/\Q (.tup [.str "break"]) M
def RL:rO:=λds M Q=>CO λp C fs y=>ds=[.ref p]/\M p=Fa (.ins C fs)/\fs.lookup ("goal":Str)=Fa y/\Q (.tup [.str "to",y]) M
def RC:rO:=λds M Q=>CO λp C fs y=>ds=[.ref p]/\M p=Fa (.ins C fs)/\fs.lookup ("phone":Str)=Fa y/\Q (.tup [.str "wait",y]) M
def Oy(a:Ad):Uf->rO->Prop:=λC sp=>(∃v:Wi,C=v.cls a)/\sp=J6 a
def Jy(a:Ad):Uf->rO->Prop:=λC sp=>((C=a.r\/C=a.t)/\sp=H9)\/((C=a.w\/C=a.n\/C=a.x\/C=a.u)/\sp=RL)\/(C=a.v/\sp=RC)\/(C=a.o/\sp=LB)
def HF:Fq P w K mg base 5 a.bd (Im a):=by
 refine fq G.bd.toDG Dv (λr u=>⟨_,(pK (qc 1 Dv (pV v0 pN))
 (pK (qg (pW u U1 pO)
 (pL (pS (wc (Ub G) r G.r G.cb G.ao.toDG (qA v0))))
 pZ)
 (pK (qg (pW u U1 pO)
 (pL (pS (wc (Pb G) r G.t G.cc G.ap.toDG (qA v0))))
 pZ)
 (pK (qg (pW u U1 pO)
 (pL (pS (wc (Ah G) r G.w G.cd G.A.toDG (qA v0))))
 pZ)
 (pK (qg (pW u U1 pO)
 (pL (pS (wc (Mn G) r G.n G.ce G.aq.toDG (qA v0))))
 pZ)
 (pK (qg (pW u U1 pO)
 (pL (pS (wc (Ah G) r G.x G.cf G.A.toDG (qA v0))))
 pZ)
 (pK (qg (pW u U1 pO)
 (pL (pS (wc (Lb G) r G.u G.cg G.ar.toDG (qA v0))))
 pZ)
 (pK (qg (pW u U1 pO)
 (pL (pS (wc (O7 G) r G.v G.ch G.au.toDG (qA v0))))
 pZ)
 (pK (qg (pW u U1 pO)
 (pL (pS (wc (KL G) r G.o G.ci G.av.toDG (qA v0))))
 pZ)
 (pL GQ)))))))))),?_⟩)
 rintro ds M Q ⟨v,rfl,q⟩
 have XT:∀(x:Uf) (c0 c1:uG) (C:Uf) (fs:T0 (Str×D)),M x=Db->Q (.ref x) (pT M x c1)->∃XU,qJ XU (pT (pT M x c0) x c1)/\Q (.ref x) XU:=λx c0 c1 C fs hx q=>⟨_,by rw[r6];exact .refl,q⟩;cases v with
 | bar x ns=>exact λp hp=>⟨p,.bar x ns,Z',⟨_,_,Z'⟩,qh,Z',XT p _ _ 0 [] hp (q p hp)⟩
 | shut x ns=>exact λp hp=>⟨p,.shut x ns,Z',⟨_,_,Z'⟩,qh,Z',XT p _ _ 0 [] hp (q p hp)⟩
 | always x y=>exact λp hp=>⟨p,_,_,_,_,Z',Z',Z',qh,(G.bU "form" Z'),(G.bU "target" Z'),(G.bU "goal" Z'),Z',XT p _ _ 0 [] hp (q p hp)⟩
 | night x y f l=>exact λp hp=>⟨p,.night x y f l,Z',⟨_,_,_,_,Z'⟩,qh,Z',XT p _ _ 0 [] hp (q p hp)⟩
 | busy x y=>exact λp hp=>⟨p,_,_,_,_,Z',Z',Z',qh,(G.bV "form" Z'),(G.bV "target" Z'),(G.bV "goal" Z'),Z',XT p _ _ 0 [] hp (q p hp)⟩
 | silent x y n=>exact λp hp=>⟨p,.silent x y n,Z',⟨_,_,_,Z'⟩,qh,Z',XT p _ _ 0 [] hp (q p hp)⟩
 | wait x=>exact λp hp=>⟨p,.wait x,Z',⟨_,Z'⟩,qh,Z',XT p _ _ 0 [] hp (q p hp)⟩
 | breaks x=>exact λp hp=>⟨p,.breaks x,Z',⟨_,Z'⟩,qh,Z',XT p _ _ 0 [] hp (q p hp)⟩
def Rb:Fq P w K mg base 1 a.l (J6 a):=by
 refine fq G.l.toDG FF (λr u=>⟨_,(pL (pS (pQ v0))),?_⟩)
 rintro ds M Q ⟨p,v,rfl,hp,q⟩
 exact pM hp (i' Z' ⟨M,.refl,q⟩)
def Pl:Fq P w K mg base 1 a.aw H9:=by
 refine fq G.aw.toDG E7 (λr u=>⟨_,(pL (pS (qd (qA pO)))),?_⟩)
 rintro ds M Q ⟨p,rfl,q⟩
 exact⟨pI Z',M,.refl,q⟩
def OE:Fq P w K mg base 1 a.ax H9:=by
 refine fq G.ax.toDG Eb (λr u=>⟨_,(pL (pS (qd (qA pO)))),?_⟩)
 rintro ds M Q ⟨p,rfl,q⟩
 exact⟨pI Z',M,.refl,q⟩
def wD:Fq P w K mg base 1 a.z RL:=by
 refine fq G.z.toDG AY (λr u=>⟨_,(pL (pS (qd (sH pO (pQ v0))))),?_⟩)
 rintro ds M Q ⟨p,C,fs,y,rfl,hp,e,q⟩
 exact pM hp (i' e ⟨pI Z',M,.refl,q⟩)
def L5:Fq P w K mg base 1 a.ay RC:=by
 refine fq G.ay.toDG D5 (λr u=>⟨_,(pL (pS (qd (sH pO (pQ v0))))),?_⟩)
 rintro ds M Q ⟨p,C,fs,y,rfl,hp,e,q⟩
 exact pM hp (i' e ⟨pI Z',M,.refl,q⟩)
def Io:Fq P w K mg base 1 a.az LB:=by
 refine fq G.az.toDG BK (λr u=>⟨_,(pL (pS (qd (qA pO)))),?_⟩)
 rintro ds M Q ⟨p,rfl,q⟩
 exact⟨pI Z',M,.refl,q⟩
def TN:∀C sp,Oy a C sp->yq P w K mg base 1 "told" C (OH K sp):=by
 rintro C sp ⟨⟨v,rfl⟩,rfl⟩
 have F:=Rb (P:=P) (w:=w) (base:=base) G;cases v with
 | bar _ _=>exact⟨G.r.toCls,_,_,_,G.cu,F,G.l.b⟩
 | shut _ _=>exact⟨G.t.toCls,_,_,_,G.cv,F,G.l.b⟩
 | always _ _=>exact⟨G.w.toCls,_,_,_,G.cw,F,G.l.b⟩
 | night _ _ _ _=>exact⟨G.n.toCls,_,_,_,G.cx,F,G.l.b⟩
 | busy _ _=>exact⟨G.x.toCls,_,_,_,G.cy,F,G.l.b⟩
 | silent _ _ _=>exact⟨G.u.toCls,_,_,_,G.cz,F,G.l.b⟩
 | wait _=>exact⟨G.v.toCls,_,_,_,G.cA,F,G.l.b⟩
 | breaks _=>exact⟨G.o.toCls,_,_,_,G.cB,F,G.l.b⟩
def Ra:∀C sp,Jy a C sp->yq P w K mg base 1 "wants" C (OH K sp):=by
 rintro C sp (⟨rfl|rfl,rfl⟩|⟨rfl|rfl|rfl|rfl,rfl⟩|⟨rfl,rfl⟩|⟨rfl,rfl⟩)
 .exact⟨G.r.toCls,_,_,_,G.aw.nG,Pl G,G.aw.b⟩
 .exact⟨G.t.toCls,_,_,_,G.ax.nG,OE G,G.ax.b⟩
 .exact⟨G.w.toCls,_,_,_,G.cj,wD G,G.z.b⟩
 .exact⟨G.n.toCls,_,_,_,G.ck,wD G,G.z.b⟩
 .exact⟨G.x.toCls,_,_,_,G.cl,wD G,G.z.b⟩
 .exact⟨G.u.toCls,_,_,_,G.cm,wD G,G.z.b⟩
 .exact⟨G.v.toCls,_,_,_,G.ay.nG,L5 G,G.ay.b⟩
 .exact⟨G.o.toCls,_,_,_,G.az.nG,Io G,G.az.b⟩
def uS(x:Str):Bool:=decide ((1:Int)<=x.length)&&(decide ((x.length:Int)<=6)&&x.cps.toList.all λc=>DL ⟨#[c]⟩ uO)
def HU:rO:=λds M Q=>∃x:Str,ds=[.str x]/\x.length<=1000/\Q (.bl (uS x)) M
def I9:rO:=λds M Q=>∃w,ds=[.bl pc,w]/\Q .mY M
noncomputable def xB(ss:QQQ):Bool:=((tN ss).length:Int)==(ss.length:Int)
def T1(M:Mp)(x:D)(ss:QQQ):Prop:=x=.tup (ss.map D.str)\/∃a,x=.ref a/\pq M a=Fa (ss.map D.str)
def K4:rO:=λds M Q=>CP λx ss=>ds=[x]/\T1 M x ss/\ss.length<4000/\Q (.bl (xB ss)) M
def z9{α:Type}(f:α->Bool)(l:List α):(l.map f).all id=l.all f:=by rw[mK];rfl
def tq(x:Str)(ss:QQQ):inD (.str x) (ss.map D.str)=ss.any (·==x):=by unfold inD;rw[jS];rfl
theorem qN:∀ss:QQQ,(ss.map D.str).all ve=pc
 | []=>rfl
 | _::r=>by rw[dY,fD,qN r];rfl
def tj(cs ks:QQQ)(m:Int):Bool:=decide ((1:Int)<=cs.length)&&(decide ((cs.length:Int)<=m)&&(xB cs&&cs.all λc=>ks.any (·==c)))
def Kz:rO:=λds M Q=>CO λcs ks k m=>ds=[.tup (cs.map D.str),.ref k,.int m]/\pq M k=Fa (ks.map D.str)/\cs.length<4000/\Q (.bl (tj cs ks m)) M
def CQ:Fq P w K mg base 1 a.af HU:=by
 refine fq G.af.toDG Iv (λr u=>⟨_,(pL (pS (tY (uN u pN (qm qP Z' G.g qL (qA v0)) (tz Z' G.cR)) (tJ (qm (Gj Z') Z' G.bR Gu (qA (ra Z' (yH (ix:=[Db]) (N':=["sign"])) (qZ v0) (qW 0) sD (qG u v0 (tz Z' G.cS))))))))),?_⟩)
 rintro ds M Q ⟨x,rfl,hl,q⟩
 have hz:=dP;refine⟨by lia,qU (λh1=>?_) (λh1=>?_)⟩
 .refine qU (λh2=>?_) (λh2=>?_)
  .refine rM (f:=λd=>match d with|.str z=>D.bl (DL z uO)|_=>.mY) trivial _ [] _ ?_ (λd hd k hk=>?_) λp hp=>?_
   .rw[cW];have:x.cps.toList.length=x.length:=by simp[Str.length]
    simp only[dJ];lia
   .obtain⟨c,_,rfl⟩:=dF.mp hd;exact hk
   .refine i' pR ?_;have e:([]++(x.cps.toList.map λc=>D.str ⟨#[c]⟩).map λd=>match d with|.str z=>D.bl (DL z uO)|_=>.mY)=x.cps.toList.map λc=>D.bl (DL ⟨#[c]⟩ uO):=by rw[d6,eC];rfl
    rw[e];refine i' (yB (λc=>DL ⟨#[c]⟩ uO) x.cps.toList) ⟨M,.new hp,?_⟩;rw[z9];have:uS x=x.cps.toList.all λc=>DL ⟨#[c]⟩ uO:=by unfold uS;rw[h1,h2];rfl
    rw[<-this];exact q
  .refine⟨M,.refl,?_⟩;have:uS x=lf:=by
    unfold uS;have h2:decide ((x.length:Int)<=6)=lf:=by simpa using h2
    rw[h2];simp
   rw[<-this];exact q
 .refine⟨M,.refl,?_⟩;have:uS x=lf:=by
   unfold uS;have h1:decide ((1:Int)<=x.length)=lf:=by simpa using h1
   rw[h1];rfl
  rw[<-this];exact q
def tI:Fq P w K mg base 1 a.m I9:=by
 refine fq G.m.toDG QQ (λr u=>⟨_,(pL (qg (xX (vH v0))
 (pL GQ)
 pZ)),?_⟩)
 rintro ds M Q ⟨x,rfl,q⟩
 exact⟨M,.refl,q⟩
def Ej:Fq P w K mg base 1 a.ag K4:=by
 refine fq G.ag.toDG DV (λr u=>⟨_,(pL (pS (qG u (Kb Z' v0 Z' G.g Z' G.cH qL Te) (qm qP Z' G.g qL (qA v0))))),?_⟩)
 rintro ds M Q ⟨x,ss,rfl,hx,hl,q⟩
 have key:((ss.map D.str).length:Int)=ss.length:=by rw[cW]
 rcases hx with rfl|⟨b,rfl,hb⟩
 .refine i' (L3.Ds ss) ⟨hl,M,.refl,?_⟩;rw[key];exact q
 .refine i' hb (i' (L3.Ds ss) ⟨hl,i' hb ⟨M,.refl,?_⟩⟩);rw[key];exact q
def AV:Fq P w K mg base 2 a.Q Kz:=by
 refine fq G.Q.toDG F2 (λr u=>⟨_,(pL (pS (tY (uN u pN (qm qP Z' G.g qL (qA v0)) U2) (tY (pX (Ej G) r G.ag (qA v0)) (tJ (qm (Gj Z') Z' G.bR Gu (qA (ra Z' (yH (ix:=[Db,Fa 1]) (N':=["name","known"])) (qZ v0) (qW 0) sD (qG u v0 U1))))))))),?_⟩)
 rintro ds M Q ⟨cs,ks,k,m,rfl,hk,hl,q⟩
 have hz:=dP;have key:((cs.map D.str).length:Int)=cs.length:=by rw[cW]
 have end_:∀b:Bool,tj cs ks m=b->∃XU,qJ XU M/\Q (.bl b) XU:=λb e=>⟨M,.refl,e ▸ q⟩;refine qU (λh1=>?_) (λh1=>?_)
 .have h1:decide ((1:Int)<=cs.length)=pc:=by rw[<-key];exact h1
  refine qU (λh2=>?_) (λh2=>?_)
  .have h2:decide ((cs.length:Int)<=m)=pc:=by rw[<-key];exact h2
   refine⟨_,cs,Z',.inl Z',hl,qU (λh3=>?_) (λh3=>?_)⟩
   .refine rM (f:=λd=>match d with|.str z=>D.bl (ks.any (·==z))|_=>.mY) trivial _ [] _ ?_ (λd hd k0 hk0=>?_) λp hp=>?_
    .rw[cW];simp only[dJ];lia
    .obtain⟨c,_,rfl⟩:=dF.mp hd;refine i' hk ⟨Z',qN ks,?_⟩;show k0 (.bl (inD (.str c) (ks.map D.str))) M;rw[tq];exact hk0
    .refine i' pR ?_;have e:([]++(cs.map D.str).map λd=>match d with|.str z=>D.bl (ks.any (·==z))|_=>.mY)=cs.map λc=>D.bl (ks.any (·==c)):=by rw[d6,eC];rfl
     rw[e];refine i' (yB (λc=>ks.any (·==c)) cs) ⟨M,.new hp,?_⟩;rw[z9];have:tj cs ks m=cs.all λc=>ks.any (·==c):=by unfold tj;rw[h1,h2,h3];rfl
     rw[<-this];exact q
   .refine end_ _ ?_;unfold tj;have h3:xB cs=lf:=by simpa using h3
    rw[h3];simp
  .refine end_ _ ?_;unfold tj;have h2:decide ((cs.length:Int)<=m)=lf:=by
    rw[<-key]
    simpa using h2
   rw[h2];simp
 .refine end_ _ ?_;unfold tj;have h1:decide ((1:Int)<=cs.length)=lf:=by
   rw[<-key]
   simpa using h1
  rw[h1];rfl
abbrev vi:=Str×Int×Int
abbrev uH:=Str×Str×QQQ
abbrev vJ:=Bool×Wi
noncomputable def rJ(p:vi):D:=.tup [.str p.1,.int p.2.1,.int p.2.2]
noncomputable def rN(g:uH):D:=.tup [.str g.1,.str g.2.1,names g.2.2]
noncomputable def vf(w:vJ):D:=.tup [.bl w.1,.tup w.2.told]
structure FE(p:vi):Prop where
 len:p.1.length<=1000
 nm:uS p.1=pc
 l1:1<=p.2.1
 l2:p.2.1<=3
 r1:0<=p.2.2
 r2:p.2.2<=9
structure FQ(pn:QQQ)(g:uH):Prop where
 len:g.1.length<=1000
 nm:uS g.1=pc
 man:g.2.1="all"\/g.2.1="turns"
 pI:g.2.2.length<4000
 mem:tj g.2.2 pn 4=pc
def yd(ss:QQQ)(x:Str):Prop:=ss.any (·==x)=pc
def Di(pn nm:QQQ):Wi->Prop
 | .bar x ns=>yd pn x/\ns.length<4000/\tj ns nm 6=pc
 | .shut x ns=>yd nm x/\ns.length<4000/\tj ns pn 6=pc
 | .always x y=>yd nm x/\yd nm y/\x≠y
 | .night x y f l=>yd nm x/\yd nm y/\x≠y/\(0<=f/\f<=23)/\(0<=l/\l<=23)/\f≠l
 | .busy x y=>yd nm x/\yd nm y/\x≠y
 | .silent x y n=>yd nm x/\yd nm y/\x≠y/\1<=n/\n<=9
 | .wait x=>yd pn x
 | .breaks x=>yd pn x
inductive x9(pn nm:QQQ):Str->D->Prop
 | nB (x:Str) (h:yd pn x):x9 pn nm "phone" (.str x)
 | name (x:Str) (h:yd nm x):x9 pn nm "name" (.str x)
 | mV (cs:QQQ) (l:cs.length<4000) (h:tj cs pn 6=pc):x9 pn nm "phones" (names cs)
 | names (cs:QQQ) (l:cs.length<4000) (h:tj cs nm 6=pc):x9 pn nm "names" (names cs)
 | hour (i:Int) (h0:0<=i) (h1:i<=23):x9 pn nm "hour" (.int i)
 | turns (i:Int) (h0:1<=i) (h1:i<=9):x9 pn nm "turns" (.int i)
def JJ:rO:=λds M Q=>K0 λk d pl nl (pn nm:QQQ)=>ds=[.str k,d,.ref pl,.ref nl]/\pq M pl=Fa (pn.map D.str)/\pq M nl=Fa (nm.map D.str)/\x9 pn nm k d/\Q (.bl pc) M
def BE:rO:=λds M Q=>CP λr (ps:List vi)=>ds=[.ref r]/\pq M r=Fa (ps.map rJ)/\1<=ps.length/\ps.length<=8/\(∀p∈ps,FE p)/\Q .mY M
def Bo:rO:=λds M Q=>CO λr (gs:List uH) pl (pn:QQQ)=>ds=[.ref r,.ref pl]/\pq M r=Fa (gs.map rN)/\pq M pl=Fa (pn.map D.str)/\gs.length<=3/\(∀g∈gs,FQ pn g)/\Q .mY M
def D4:rO:=λds M Q=>HE λv pl nl (pn nm:QQQ)=>ds=[.tup (Wi.told v),.ref pl,.ref nl]/\pq M pl=Fa (pn.map D.str)/\pq M nl=Fa (nm.map D.str)/\Di pn nm v/\Q .mY M
def Bq:rO:=λds M Q=>K0 λr (ws:List vJ) pl nl (pn nm:QQQ)=>ds=[.ref r,.ref pl,.ref nl]/\pq M r=Fa (ws.map vf)/\pq M pl=Fa (pn.map D.str)/\pq M nl=Fa (nm.map D.str)/\ws.length<=16/\(∀w∈ws,Di pn nm w.2)/\Q .mY M
def Xq(h:yd ss x):inD (.str x) (ss.map D.str)=pc:=by rw[tq];exact h
def Q6:Fq P w K mg base 3 a.bg JJ:=by
 refine fq G.bg.toDG DF (λr u=>⟨_,(pK (qg (pW u v0 pO)
 (pL (pS (qG u U1 U2)))
 pZ)
 (pK (qg (pW u v0 pO)
 (pL (pS (qG u U1 U3)))
 pZ)
 (pK (qg (pW u v0 pO)
 (pL (pS (pX (AV G) r G.Q (rC U1 U2 (tz Z' G.b2)))))
 pZ)
 (pK (qg (pW u v0 pO)
 (pL (pS (pX (AV G) r G.Q (rC U1 U3 (tz Z' G.b2)))))
 pZ)
 (pK (qg (pW u v0 pO)
 (pL (pS (uN u pN U1 (tz Z' G.cT))))
 pZ)
 (pL (pS (uN u pN U1 (tz Z' G.cU))))))))),?_⟩)
 rintro ds M Q ⟨k,d,pl,nl,pn,nm,rfl,hp,hn,ok,q⟩
 cases ok with
 | nB x h=>refine i' hp ⟨Z',qN pn,M,.refl,?_⟩;show Q (.bl (inD (.str x) (pn.map D.str))) M;rw[Xq h];exact q
 | name x h=>refine i' hn ⟨Z',qN nm,M,.refl,?_⟩;show Q (.bl (inD (.str x) (nm.map D.str))) M;rw[Xq h];exact q
 | mV cs l h=>exact⟨cs,pn,pl,6,Z',hp,l,M,.refl,by rw[h];exact q⟩
 | names cs l h=>exact⟨cs,nm,nl,6,Z',hn,l,M,.refl,by rw[h];exact q⟩
 | hour i h0 h1=>refine Bw (c:=decide (0<=i)) (dX h0) ⟨M,.refl,?_⟩;show Q (.bl (decide (i<=23))) M;rw[dX h1];exact q
 | turns i h0 h1=>refine Bw (c:=decide (1<=i)) (dX h0) ⟨M,.refl,?_⟩;show Q (.bl (decide (i<=9))) M;rw[dX h1];exact q
def BH:Fq P w K mg base 2 a.be BE:=by
 refine fq G.be.toDG uE (λr u=>⟨_,(pK (qe (pX (tI G) r G.m (sH (uN u pN (qm qP Z' G.g qL (qA v0)) (tz Z' G.cK)) pO)))
 (pL (ur eU Z' (qZ v0) (uX (n:=3) Z' (qE (rq 1 uE) (qE (rq 2 uE) (qE (rq 3 uE) tK))))
 (pK (qe (pX (tI G) r G.m (sH (pX (CQ G) r G.af (qA U1)) pO)))
 (pK (qe (pX (tI G) r G.m (sH (uN u pN U2 (tz Z' G.cL)) pO)))
 (pL (qe (pX (tI G) r G.m (sH (uN u pN U3 (tz Z' G.cM)) pO))))))))),?_⟩)
 rintro ds M Q ⟨r,ps,rfl,Yn,h1,h8,m9,q⟩
 have el:((ps.map rJ).length:Int)=ps.length:=by rw[cW]
 refine i' Yn (Bw (c:=decide ((1:Int)<=(ps.map rJ).length)) (dX (by lia)) ⟨_,by rw[dX (show((ps.map rJ).length:Int)<=8 by lia)],i' Yn ?_⟩);refine BU (λU M'=>M=M'/\∃x y z,U=[Fa (.ref r),x,y,z]) (λU M' j=>by rw[<-j.1];exact Yn) _ _ _ ⟨Z',Db,Db,Db,Z'⟩ ?_ ?_
 .rintro d hd U M' ⟨rfl,x,y,z,rfl⟩ nx XX
  obtain⟨p,hp,rfl⟩:=dF.mp hd;have o:=m9 p hp;refine⟨Z',⟨p.1,Z',o.len,_,by rw[o.nm],?_⟩⟩;refine Bw (c:=decide ((1:Int)<=p.2.1)) (dX o.l1) ⟨_,by rw[dX (show p.2.1<=3 from o.l2)],?_⟩;refine Bw (c:=decide ((0:Int)<=p.2.2)) (dX o.r1) ⟨_,by rw[dX (show p.2.2<=9 from o.r2)],?_⟩;exact XX _ _ ⟨Z',_,_,_,Z'⟩
 .rintro U M' ⟨rfl,x,y,z,rfl⟩
  exact⟨M,.refl,q⟩
def Bz:Fq P w K mg base 3 a.bf Bo:=by
 refine fq G.bf.toDG uF (λr u=>⟨_,(pK (qe (pX (tI G) r G.m (sH (qG u (qm qP Z' G.g qL (qA v0)) (tz Z' G.cN)) pO)))
 (pL (ur eU Z' (qZ v0) (uX (n:=3) Z' (qE (rq 2 uF) (qE (rq 3 uF) (qE (rq 4 uF) tK))))
 (pK (qe (pX (tI G) r G.m (sH (pX (CQ G) r G.af (qA U2)) pO)))
 (pK (qe (pX (tI G) r G.m (sH (qG u U3 (tz Z' G.cO)) pO)))
 (pL (qe (pX (tI G) r G.m (sH (pX (AV G) r G.Q (rC U4 U1 (tz Z' G.cP))) pO))))))))),?_⟩)
 rintro ds M Q ⟨r,gs,pl,pn,rfl,Yn,hp,h3,m9,q⟩
 have el:((gs.map rN).length:Int)=gs.length:=by rw[cW]
 refine i' Yn ⟨_,by rw[dX (show((gs.map rN).length:Int)<=3 by lia)],i' Yn ?_⟩;refine BU (λU M'=>M=M'/\∃x y z,U=[Fa (.ref r),Fa (.ref pl),x,y,z]) (λU M' j=>by rw[<-j.1];exact Yn) _ _ _ ⟨Z',Db,Db,Db,Z'⟩ ?_ ?_
 .rintro d hd U M' ⟨rfl,x,y,z,rfl⟩ nx XX
  obtain⟨g,hg,rfl⟩:=dF.mp hd;have o:=m9 g hg;refine⟨Z',⟨g.1,Z',o.len,_,by rw[o.nm],?_⟩⟩;have hm:inD (.str g.2.1) [.str "all",.str "turns"]=pc:=by rcases o.man with e|e<;>(rw[e];rfl)
  refine⟨Z',Z',.str "a group's manner is all or turns",eY (λb=>[D.bl b,D.str "a group's manner is all or turns"]) hm,?_⟩;refine⟨g.2.2,pn,pl,4,Z',hp,o.pI,_,by rw[o.mem],?_⟩;exact XX _ _ ⟨Z',_,_,_,Z'⟩
 .rintro U M' ⟨rfl,x,y,z,rfl⟩
  exact⟨M,.refl,q⟩
def Dy:Fq P w K mg base 4 a.bh D4:=by
 refine fq G.bh.toDG uy (λr u=>⟨_,(pK (qe (pX (tI G) r G.m (sH (Ni G.b1 Z' (pV v0 pN)) pO)))
 (pK (qc 3 uy (Kn G.b1 Z' (pV v0 pN)))
 (pK (qc 4 uy (sW v0 (tL pN) uk))
 (pK (qe (pX (tI G) r G.m (sH (qG u (qm qP Z' G.g qL (qA U4)) (qm qP Z' G.g qL (qA U3))) pO)))
 (pK (ur eU Z' (Sg Z' G.cI (sH U3 U4)) (uX (n:=2) Z' (qE (rq 5 uy) (qE (rq 6 uy) tK)))
 (pL (qe (pX (tI G) r G.m (sH (pX (Q6 G) r G.bg (qo v5 (rC v6 U1 U2))) pO)))))
 (pK (qg (pW u (sW U3 uk (tL pN)) (qd (sH pO pO)))
 (pL (qe (pX (tI G) r G.m (sH (qG u (pV U4 pN) (pV U4 pN)) pO))))
 pZ)
 (pL (qg (pW u (sW U3 (tL pN) uk) (qd (sH pO pO)))
 (pL (qe (pX (tI G) r G.m (sH (qG u (pV U4 pN) (pV U4 pN)) pO))))
 pZ)))))))),?_⟩)
 rintro ds M Q ⟨v,pl,nl,pn,nm,rfl,hp,hn,ok,q⟩
 have part:∀{k:Str} {d:D} {C:DK},x9 pn nm k d->C (.bl pc) M->JJ [.str k,d,.ref pl,.ref nl] M C:=λo c=>⟨_,_,pl,nl,pn,nm,Z',hp,hn,o,c⟩;have need:∀{x:D} {C:DK},C .mY M->I9 [.bl pc,x] M C:=λc=>⟨_,Z',c⟩;have ne:∀{x y:Str},x≠y->(!(x==y))=pc:=λh=>by simpa using h
 have nei:∀{x y:Int},x≠y->(!(x==y))=pc:=λh=>by simpa using h
 have XT:∃XU,qJ XU M/\Q .mY XU:=⟨M,.refl,q⟩;cases v with
 | bar x ns=>obtain⟨h1,h2,h3⟩:=ok;refine⟨_,Z',_,Z',?_⟩;refine⟨Z',_,_,pl,nl,pn,nm,Z',hp,hn,.nB x h1,_,Z',trivial,⟨Z',_,_,pl,nl,pn,nm,Z',hp,hn,.names ns h2 h3,_,Z',trivial,?_⟩⟩;exact⟨pI Z',pI Z',XT⟩
 | shut x ns=>obtain⟨h1,h2,h3⟩:=ok;refine⟨_,Z',_,Z',?_⟩;refine⟨Z',_,_,pl,nl,pn,nm,Z',hp,hn,.name x h1,_,Z',trivial,⟨Z',_,_,pl,nl,pn,nm,Z',hp,hn,.mV ns h2 h3,_,Z',trivial,?_⟩⟩;exact⟨pI Z',pI Z',XT⟩
 | always x y=>obtain⟨h1,h2,h3⟩:=ok;refine⟨_,Z',_,Z',?_⟩;refine⟨Z',_,_,pl,nl,pn,nm,Z',hp,hn,.name x h1,_,Z',trivial,⟨Z',_,_,pl,nl,pn,nm,Z',hp,hn,.name y h2,_,Z',trivial,?_⟩⟩;refine⟨pI Z',⟨_,by rw[ne h3],?_⟩⟩;exact⟨pI Z',XT⟩
 | night x y f l=>obtain⟨h1,h2,h3,h4,h5,h6⟩:=ok;refine⟨_,Z',_,Z',?_⟩;refine⟨Z',_,_,pl,nl,pn,nm,Z',hp,hn,.name x h1,_,Z',trivial,⟨Z',_,_,pl,nl,pn,nm,Z',hp,hn,.name y h2,_,Z',trivial,⟨Z',_,_,pl,nl,pn,nm,Z',hp,hn,.hour f h4.1 h4.2,_,Z',trivial,⟨Z',_,_,pl,nl,pn,nm,Z',hp,hn,.hour l h5.1 h5.2,_,Z',trivial,?_⟩⟩⟩⟩;refine⟨pI Z',⟨_,by rw[ne h3],?_⟩⟩;refine⟨pI Z',⟨_,by rw[nei h6],?_⟩⟩;exact XT
 | busy x y=>obtain⟨h1,h2,h3⟩:=ok;refine⟨_,Z',_,Z',?_⟩;refine⟨Z',_,_,pl,nl,pn,nm,Z',hp,hn,.name x h1,_,Z',trivial,⟨Z',_,_,pl,nl,pn,nm,Z',hp,hn,.name y h2,_,Z',trivial,?_⟩⟩;refine⟨pI Z',⟨_,by rw[ne h3],?_⟩⟩;exact⟨pI Z',XT⟩
 | silent x y n=>obtain⟨h1,h2,h3,h4,h5⟩:=ok;refine⟨_,Z',_,Z',?_⟩;refine⟨Z',_,_,pl,nl,pn,nm,Z',hp,hn,.name x h1,_,Z',trivial,⟨Z',_,_,pl,nl,pn,nm,Z',hp,hn,.name y h2,_,Z',trivial,⟨Z',_,_,pl,nl,pn,nm,Z',hp,hn,.turns n h4 h5,_,Z',trivial,?_⟩⟩⟩;refine⟨pI Z',⟨_,by rw[ne h3],?_⟩⟩;exact⟨pI Z',XT⟩
 | wait x=>refine⟨_,Z',_,Z',?_⟩;refine⟨Z',_,_,pl,nl,pn,nm,Z',hp,hn,.nB x ok,_,Z',trivial,?_⟩;exact⟨pI Z',pI Z',XT⟩
 | breaks x=>refine⟨_,Z',_,Z',?_⟩;refine⟨Z',_,_,pl,nl,pn,nm,Z',hp,hn,.nB x ok,_,Z',trivial,?_⟩;exact⟨pI Z',pI Z',XT⟩
def Bu:Fq P w K mg base 5 a.bi Bq:=by
 refine fq G.bi.toDG vC (λr u=>⟨_,(pK (qe (pX (tI G) r G.m (sH (qG u (qm qP Z' G.g qL (qA v0)) (tz Z' G.cQ)) pO)))
 (pL (ur eU Z' (qZ v0) (uX (n:=2) Z' (qE (rq 3 vC) (qE (rq 4 vC) tK)))
 (pL (qe (pX (Dy G) r G.bh (rC U4 U1 U2))))))),?_⟩)
 rintro ds M Q ⟨r,ws,pl,nl,pn,nm,rfl,Yn,hp,hn,h16,m9,q⟩
 have el:((ws.map vf).length:Int)=ws.length:=by rw[cW]
 refine i' Yn ⟨_,by rw[dX (show((ws.map vf).length:Int)<=16 by lia)],i' Yn ?_⟩;refine BU (λU M'=>M=M'/\∃x y,U=[Fa (.ref r),Fa (.ref pl),Fa (.ref nl),x,y]) (λU M' j=>by rw[<-j.1];exact Yn) _ _ _ ⟨Z',Db,Db,Z'⟩ ?_ ?_
 .rintro d hd U M' ⟨rfl,x,y,rfl⟩ nx XX
  obtain⟨v,hv,rfl⟩:=dF.mp hd;exact⟨Z',⟨v.2,pl,nl,pn,nm,Z',hp,hn,m9 v hv,XX _ _ ⟨Z',_,_,Z'⟩⟩⟩
 .rintro U M' ⟨rfl,x,y,rfl⟩
  exact⟨M,.refl,q⟩
structure pU where
 mV:List vi
 groups:List uH
 mT:List vJ
noncomputable def pU.pn(l:pU):QQQ:=l.mV.map (·.1)
noncomputable def pU.gn(l:pU):QQQ:=l.groups.map (·.1)
noncomputable def pU.nm(l:pU):QQQ:=l.pn++l.gn
structure sf(l:pU):Prop where
 p1:1<=l.mV.length
 p8:l.mV.length<=8
 po:∀p∈l.mV,FE p
 g3:l.groups.length<=3
 go:∀g∈l.groups,FQ l.pn g
 nd:l.nm.Nodup
 pE:l.mT.length<=16
 wo:∀w∈l.mT,Di l.pn l.nm w.2
def EL{ss:QQQ}(h:ss.Nodup):xB ss=pc:=by unfold xB;rw[IS ss h];simp
def DY:rO:=λds M Q=>CO λr1 r2 r3 (l:pU)=>ds=[.ref r1,.ref r2,.ref r3]/\pq M r1=Fa (l.mV.map rJ)/\pq M r2=Fa (l.groups.map rN)/\pq M r3=Fa (l.mT.map vf)/\sf l/\Q .mY M
noncomputable def BL:D->D
 | .tup (x::_)=>x
 | _=>.mY
def xw(ps:List vi):(ps.map rJ).map BL=(ps.map (·.1)).map D.str:=by rw[eC,eC];rfl
def xo(ps:List uH):(ps.map rN).map BL=(ps.map (·.1)).map D.str:=by rw[eC,eC];rfl
def DD:Fq P w K mg base 6 a.bj DY:=by
 refine fq G.bj.toDG wO (λr u=>⟨_,(pK (qe (pX (BH G) r G.be (qA v0)))
 (pK (vP (i:=3) wO.nd Z' (Or.inl Z') Z' (yH (ix:=[Db]) (N':=["phone"])) (qZ v0) (qW 0) sD (pV v0 pN))
 (pK (qe (pX (Bz G) r G.bf (sH U1 U3)))
 (pK (qc 4 wO (qu U3 (ra Z' (yH (ix:=[Db]) (N':=["group"])) (qZ U1) (qW 0) sD (pV v0 pN))))
 (pK (qe (pX (tI G) r G.m (sH (pX (Ej G) r G.ag (qA U4)) pO)))
 (pL (qe (pX (Bu G) r G.bi (rC U2 U3 U4))))))))),?_⟩)
 rintro ds M Q ⟨r1,r2,r3,l,rfl,h1,h2,h3,ok,q⟩
 have hz:=dP;have l1:=ok.p8;have l2:=ok.g3;refine⟨r1,l.mV,Z',h1,ok.p1,ok.p8,ok.po,i' h1 ?_⟩;refine rM (f:=BL) h1 _ [] _ (by rw[cW];simp only[dJ];lia) (λd hd k hk=>?_) λp hp=>?_
 .obtain⟨x,_,rfl⟩:=dF.mp hd;exact hk
 rw[d6,xw];have s1:=qJ.new (c:=.lst ((l.mV.map (·.1)).map D.str)) hp;have lp:pq (pT M p (.lst ((l.mV.map (·.1)).map D.str))) p=Fa (l.pn.map D.str):=pR;generalize pT M p (.lst ((l.mV.map (·.1)).map D.str))=M1 at s1 lp ⊢;refine⟨r2,l.groups,p,l.pn,Z',s1.lst h2,lp,ok.g3,ok.go,?_⟩;refine i' (s1.lst h2) (rM (f:=BL) (s1.lst h2) _ [] _ (by rw[cW];simp only[dJ];lia) (λd hd k hk=>?_) λp2 X4=>?_)
 .obtain⟨x,_,rfl⟩:=dF.mp hd;exact hk
 rw[d6,xo];have s2:=qJ.new (c:=.lst ((l.groups.map (·.1)).map D.str)) X4;refine i' (s2.lst lp) (i' pR ⟨?_,λp3 hp3=>?_⟩)
 .rw[cW,cW,cW];show(l.mV.map (·.1)).length+_<=_;rw[cW];lia
 have en:l.pn.map D.str++(l.groups.map (·.1)).map D.str=l.nm.map D.str:=by unfold pU.nm;rw[dM];rfl
 rw[en];have s3:=s2.trans (qJ.new (c:=.lst (l.nm.map D.str)) hp3);have l3:=@pR (pT M1 p2 (.lst ((l.groups.map (·.1)).map D.str))) p3 (l.nm.map D.str);generalize pT (pT M1 p2 (.lst ((l.groups.map (·.1)).map D.str))) p3 (.lst (l.nm.map D.str))=M3 at s3 l3 ⊢;have ln:l.nm.length<4000:=by unfold pU.nm pU.pn pU.gn;rw[cZ,cW,cW];lia
 refine⟨_,l.nm,Z',.inr ⟨p3,Z',l3⟩,ln,_,by rw[EL ok.nd],?_⟩;exact⟨r3,l.mT,p,p3,l.pn,l.nm,Z',s3.lst (s1.lst h3),s3.lst lp,l3,ok.pE,ok.wo,M,s1.trans s3,q⟩
noncomputable def RQ(ph gr ws on pr gd:Uf):T0 (Str×D):=[("phones",.ref ph),("groups",.ref gr),("wishes",.ref ws),("on",.ref on),("phone_rows",.ref pr),("group_rows",.ref gd)]
def SA(l:pU):T0 (rP×D):=l.mV.map λp=>(Sum.inr p.1,rJ p)
def IY(l:pU):T0 (rP×D):=l.groups.map λg=>(Sum.inr g.1,rN g)
def tD(a:Ad)(M:Mp)(rs:QXQ)(ws:List vJ):Prop:=rs.length=ws.length/\∀(i:Nat) (r:Uf) (v:vJ),rs[i]?=Fa r->ws[i]?=Fa v->M r=Fa (.ins (v.2.cls a) v.2.nW)
def sY(a:Ad)(M:Mp)(p:Uf)(l:pU):Prop:=Ry λph gr ws on pr gd (rs:QXQ)=>M p=Fa (.ins a.h (RQ ph gr ws on pr gd))/\pq M ph=Fa (l.mV.map rJ)/\pq M gr=Fa (l.groups.map rN)/\
 pq M ws=Fa (rs.map D.ref)/\pq M on=Fa (l.mT.map λw=>D.bl w.1)/\Aw M pr=Fa (SA l)/\Aw M gd=Fa (IY l)/\tD a M rs l.mT
def tD.keep{p:Uf}(h:tD a M rs ws)(k:sy p M M')(n:∀r∈rs,r≠p):tD a M' rs ws:=⟨h.1,λi r v e1 e2=>k r _ (n r (gb e1)) (h.2 i r v e1 e2)⟩
def tD.sub(h:tD a M rs ws)(k:qJ M M'):tD a M' rs ws:=⟨h.1,λi r v e1 e2=>k r _ (h.2 i r v e1 e2)⟩
def sY.sub{p:Uf}(h:sY a M p l)(s:qJ M M'):sY a M' p l:=by obtain⟨ph,gr,ws,on,pr,gd,rs,h1,h2,h3,h4,h5,h6,h7,h8⟩:=h;exact⟨ph,gr,ws,on,pr,gd,rs,s _ _ h1,s.lst h2,s.lst h3,s.lst h4,s.lst h5,s.dk h6,s.dk h7,h8.sub s⟩
def OU(a:Ad):rO:=λds M Q=>HE λp r1 r2 r3 (l:pU)=>ds=[.ref p,.ref r1,.ref r2,.ref r3]/\M p=Fa (.ins a.h [])/\pq M r1=Fa (l.mV.map rJ)/\pq M r2=Fa (l.groups.map rN)/\pq M r3=Fa (l.mT.map vf)/\sf l/\
 ∀M',sy p M M'->sY a M' p l->(∀XU,(∀b c,(b=p\/M b=Db)->M' b=Fa c->XU b=Fa c)->sY a XU p l)->Q .mY M'
def se{p x:Uf}{c:uG}(k:sy p M N)(hp:N p=Fa c)(h:N x=Db):M x=Db:=by
 cases e:M x with
 | none=>rfl
 | some d=>
  have n:x≠p:=λz=>by rw[z,hp]at h;cases h
  rw[k x d n e]at h;cases h
def yL{a:Uf}{es:T0 (rP×D)}(h:Aw M a=Fa es):M a=Fa (.dk es):=by
 unfold Aw at h;split at h
 .rename_i e;rw[e];cases h;rfl
 .cases h
theorem xm{α:Type}(f:α->Str)(g:α->D):∀l:List α,xu (l.map λx=>D.tup [.str (f x),g x])=Fa (l.map λx=>(Sum.inr (f x),g x))
 | []=>rfl
 | x::r=>by show(xu (r.map λx=>D.tup [.str (f x),g x])).map ((Sum.inr (f x),g x)::·)=_;rw[xm f g r];rfl
def KQ{ss:QQQ}(h:ss.Nodup):(ss.map λx=>(Sum.inr x:rP)).Nodup:=by
 induction ss with
 | nil=>exact eK
 | cons x r ih=>obtain⟨h1,h2⟩:=dW.mp h;rw[dY];refine dW.mpr ⟨λz=>h1 ?_,ih h2⟩;obtain⟨y,hy,e⟩:=dF.mp z;cases e;exact hy
def zc{α:Type}{f:α->Str}{g:α->D}{l:List α}(h:(l.map f).Nodup):((l.map λx=>((Sum.inr (f x):rP),g x)).map (·.1)).Nodup:=by rw[eC];have:=KQ h;rw[eC]at this;exact this
def BQ(d:D):D:=.tup [BL d,d]
noncomputable def Xi:D->D
 | .tup (x::_)=>x
 | _=>.mY
def Sw(ws:List vJ):(ws.map vf).map Xi=ws.map λw=>D.bl w.1:=by rw[eC];rfl
def Hf(ps:List vi):(ps.map rJ).map BQ=ps.map λp=>D.tup [.str p.1,rJ p]:=by rw[eC];rfl
def GV(ps:List uH):(ps.map rN).map BQ=ps.map λp=>D.tup [.str p.1,rN p]:=by rw[eC];rfl
def tD.snoc{r:Uf}{v:vJ}(h:tD a M rs ws)(n:M r=Db):tD a (pT M r (.ins (v.2.cls a) v.2.nW)) (rs++[r]) (ws++[v]):=by
 refine⟨by rw[cZ,cZ,h.1];rfl,λi r' v' e1 e2=>?_⟩;by_cases hi:i<rs.length
 .rw[fk hi]at e1;rw[fk (by rw[<-h.1];exact hi)]at e2;have:=h.2 i r' v' e1 e2;rw[uW (OJ this n)];exact this
 .have ZP:i=rs.length:=by have:=(cY.mp e1).1;rw[cZ,dQ]at this;lia
  subst ZP;rw[fi (dw _)]at e1;rw[h.1,fi (dw _)]at e2;simp only[ik,iJ,jy]at e1 e2;subst e1 e2;exact qh
def Qk:Fq P w K mg base 7 a.am (OU a):=by
 refine fq G.am.toDG Gs (λr u=>⟨_,(pK (qe (pX (DD G) r G.bj (rC U1 U2 U3)))
 (pK (qy v0 (qK uj Z' G.y uh (qA U1)))
 (pK (qy v0 (qK uj Z' G.y uh (qA U2)))
 (pK (qy v0 (ra Z' (yH (ix:=[Db,Db]) (N':=["on","wish"])) (qZ U3) (uX (n:=2) Z' (qE (qW 0) (qE (qW 1) tK))) sD (pX (HF G) r G.bd (qA U1))))
 (pK (qy v0 (ra Z' (yH (ix:=[Db,Db]) (N':=["on","wish"])) (qZ U3) (uX (n:=2) Z' (qE (qW 0) (qE (qW 1) tK))) sD v0))
 (pK (qy v0 (qK (E2 Z') Z' G.bW Gb (qA (ra Z' (yH (ix:=[Db]) (N':=["phone"])) (qZ U1) (qW 0) sD (qd (sH (pV v0 pN) v0))))))
 (pL (qy v0 (qK (E2 Z') Z' G.bW Gb (qA (ra Z' (yH (ix:=[Db]) (N':=["group"])) (qZ U2) (qW 0) sD (qd (sH (pV v0 pN) v0))))))))))))),?_⟩)
 rintro ds M Q ⟨p,r1,r2,r3,l,rfl,hp,h1,h2,h3,ok,q⟩
 have hz:=dP;have l1:=ok.p8;have l2:=ok.g3;have l3:=ok.pE;refine⟨r1,r2,r3,l,Z',h1,h2,h3,ok,?_⟩;refine i' h1 λph hph=>?_;obtain⟨n1,e1,k1,c1,p1⟩:=tS (fs':=[("phones",.ref ph)]) (c:=.lst (l.mV.map rJ)) hp hph;refine pM e1 ⟨(G.aa "phones" Z'),by show 0<1000;decide,?_⟩;show vc _ _ _ _ (pT (pT M ph (.lst (l.mV.map rJ))) p (.ins a.h [("phones",.ref ph)]));generalize pT (pT M ph (.lst (l.mV.map rJ))) p (.ins a.h [("phones",.ref ph)])=N1 at k1 c1 p1 ⊢;have YA:=k1.lst (qr h1 hp) h1;have h2':=k1.lst (qr h2 hp) h2;have h3':=k1.lst (qr h3 hp) h3;have f1:pq N1 ph=Fa (l.mV.map rJ):=rR c1;refine i' h2' λgr hgr=>?_;obtain⟨n2,e2,k2,c2,p2⟩:=tS (fs':=[("phones",.ref ph),("groups",.ref gr)]) (c:=.lst (l.groups.map rN)) p1 hgr;refine pM e2 ⟨(G.aa "groups" Z'),by show 1<1000;decide,?_⟩;show vc _ _ _ _ (pT (pT N1 gr (.lst (l.groups.map rN))) p (.ins a.h [("phones",.ref ph),("groups",.ref gr)]));generalize pT (pT N1 gr (.lst (l.groups.map rN))) p (.ins a.h [("phones",.ref ph),("groups",.ref gr)])=N2 at k2 c2 p2 ⊢;have g1:=k2.lst (qr YA p1) YA;have g2:=k2.lst (qr h2' p1) h2';have g3:=k2.lst (qr h3' p1) h3';have f2:=k2.lst (qr f1 p1) f1;have f3:pq N2 gr=Fa (l.groups.map rN):=rR c2;have kk2:=k1.trans k2;have m2:M gr=Db:=se k1 p1 hgr;clear YA h2' h3' f1 c1 c2 k1 k2 e1 e2;refine i' g3 ?_;refine Ge (l.mT.map vf) (λpre acc U Mx=>(∃x y,U=[x,y])/\qJ N2 Mx/\∃rs:QXQ,acc=rs.map D.ref/\(∀r∈rs,N2 r=Db)/\tD a Mx rs (l.mT.take pre.length)) (λpre acc U Mx j=>j.2.1.lst g3) _ [] [] _ _ Z' (by rw[cW];simp only[dJ];lia) ⟨⟨Db,Db,Z'⟩,.refl,[],Z',λr hr=>absurd hr (dG),Z',λi r v e=>by simp at e⟩ ?_ ?_
 .rintro pre d post e acc U Mx ⟨⟨x,y,rfl⟩,sx,rs,rfl,fr,wa⟩ k hk
  obtain⟨v,hv,rfl⟩:∃v,l.mT[pre.length]?=Fa v/\d=vf v:=by
   have:(l.mT.map vf)[pre.length]?=Fa d:=by rw[<-e];simp
   rw[dz]at this;cases z:l.mT[pre.length]? with
   | none=>rw[z]at this;cases this
   | some v=>rw[z]at this;exact⟨v,Z',(dv this).symm⟩
  refine⟨Z',⟨v.2,Z',λr hr=>hk _ _ _ ⟨⟨_,_,Z'⟩,sx.trans (.new hr),rs++[r],?_,λr' hr'=>?_,?_⟩⟩⟩
  .rw[dM];rfl
  .rcases dU.mp hr' with z|z
   .exact fr r' z
   .rw[dA.mp z];exact sx.none hr
  .rw[cZ,dQ,gB,hv];exact wa.snoc hr
 rintro acc U Mx ⟨⟨x,y,rfl⟩,sx,rs,rfl,fr,wa⟩ ws hws
 have wa:tD a Mx rs l.mT:=by rw[cW,fv]at wa;exact wa
 obtain⟨n3,e3,k3,c3,p3⟩:=tS (fs':=[("phones",.ref ph),("groups",.ref gr),("wishes",.ref ws)]) (c:=.lst (rs.map D.ref)) (sx _ _ p2) hws;refine pM e3 ⟨(G.aa "wishes" Z'),by show 2<1000;decide,?_⟩;show vc _ _ _ _ (pT (pT Mx ws (.lst (rs.map D.ref))) p (.ins a.h [("phones",.ref ph),("groups",.ref gr),("wishes",.ref ws)]));generalize pT (pT Mx ws (.lst (rs.map D.ref))) p (.ins a.h [("phones",.ref ph),("groups",.ref gr),("wishes",.ref ws)])=N3 at k3 c3 p3 ⊢;have px:=sx _ _ p2;have i1:=k3.lst (qr (sx.lst g1) px) (sx.lst g1);have i2:=k3.lst (qr (sx.lst g2) px) (sx.lst g2);have i3:=k3.lst (qr (sx.lst g3) px) (sx.lst g3);have f4:=k3.lst (qr (sx.lst f2) px) (sx.lst f2);have f5:=k3.lst (qr (sx.lst f3) px) (sx.lst f3);have f6:pq N3 ws=Fa (rs.map D.ref):=rR c3;have rp:∀r∈rs,r≠p:=λr hr z=>by have:=fr r hr;rw[z,p2]at this;cases this
 have w3:=wa.keep k3 rp;have kk3:=(kk2.trans sx.keep).trans k3;have m3:M ws=Db:=se (kk2.trans sx.keep) px hws;have mr:∀r∈rs,M r=Db:=λr hr=>se kk2 p2 (fr r hr);clear g1 g2 g3 f2 f3 c3 k3 e3 wa px kk2;refine i' i3 (B8 (f:=Xi) (λU=>∃x y,U=[x,y]) i3 _ [] _ ⟨Db,Db,Z'⟩ (by rw[cW];simp only[dJ];lia) (λd hd U hj k hk=>?_) λon hon=>?_)
 .obtain⟨x,y,rfl⟩:=hj;obtain⟨v,_,rfl⟩:=dF.mp hd;exact⟨Z',hk _ ⟨_,_,Z'⟩⟩
 rw[d6,Sw];obtain⟨n4,e4,k4,c4,p4⟩:=tS (fs':=[("phones",.ref ph),("groups",.ref gr),("wishes",.ref ws),("on",.ref on)]) (c:=.lst (l.mT.map λw=>D.bl w.1)) p3 hon;refine pM e4 ⟨(G.aa "on" Z'),by show 3<1000;decide,?_⟩;show vc _ _ _ _ (pT (pT N3 on (.lst (l.mT.map λw=>D.bl w.1))) p (.ins a.h [("phones",.ref ph),("groups",.ref gr),("wishes",.ref ws),("on",.ref on)]));generalize pT (pT N3 on (.lst (l.mT.map λw=>D.bl w.1))) p (.ins a.h [("phones",.ref ph),("groups",.ref gr),("wishes",.ref ws),("on",.ref on)])=N4 at k4 c4 p4 ⊢;have j1:=k4.lst (qr i1 p3) i1;have j2:=k4.lst (qr i2 p3) i2;have f7:=k4.lst (qr f4 p3) f4;have f8:=k4.lst (qr f5 p3) f5;have f9:=k4.lst (qr f6 p3) f6;have fa:pq N4 on=Fa (l.mT.map λw=>D.bl w.1):=rR c4;have w4:=w3.keep k4 rp;have ZU:=kk3.trans k4;have m4:M on=Db:=se kk3 p3 hon;clear i1 i2 i3 f4 f5 f6 c4 k4 e4 w3 kk3;refine i' j1 (rM (f:=BQ) j1 _ [] _ (by rw[cW];simp only[dJ];lia) (λd hd k hk=>?_) λq1 YM=>?_)
 .obtain⟨v,_,rfl⟩:=dF.mp hd;exact⟨pI Z',hk⟩
 rw[d6,Hf];have sq1:=qJ.new (c:=.lst (l.mV.map λp=>D.tup [.str p.1,rJ p])) YM;refine i' pR (i' (xm (λp:vi=>p.1) rJ l.mV) ⟨zc (iG (List.sublist_append_left _ _) ok.nd),λpr hpr=>?_⟩);obtain⟨n5,e5,k5,c5,p5⟩:=tS (fs':=[("phones",.ref ph),("groups",.ref gr),("wishes",.ref ws),("on",.ref on),("phone_rows",.ref pr)]) (c:=.dk (l.mV.map λx=>(Sum.inr x.1,rJ x))) (sq1 _ _ p4) hpr;refine pM e5 ⟨(G.aa "phone_rows" Z'),by show 4<1000;decide,?_⟩;have k5:=sq1.keep.trans k5;have ZI:wN "phone_rows" (.ref pr) [("phones",.ref ph),("groups",.ref gr),("wishes",.ref ws),("on",.ref on)]=([("phones",.ref ph),("groups",.ref gr),("wishes",.ref ws),("on",.ref on),("phone_rows",.ref pr)]:T0 (Str×D)):=rfl;rw[ZI];generalize pT (pT (pT N4 q1 (.lst (l.mV.map λp=>D.tup [.str p.1,rJ p]))) pr (.dk (l.mV.map λx=>(Sum.inr x.1,rJ x)))) p (.ins a.h [("phones",.ref ph),("groups",.ref gr),("wishes",.ref ws),("on",.ref on),("phone_rows",.ref pr)])=N5 at k5 c5 p5 ⊢;have mm:=k5.lst (qr j2 p4) j2;have fb:=k5.lst (qr f7 p4) f7;have fc:=k5.lst (qr f8 p4) f8;have fd:=k5.lst (qr f9 p4) f9;have fe:=k5.lst (qr fa p4) fa;have ff:Aw N5 pr=Fa (SA l):=Du c5;have w5:=w4.keep k5 rp;have ZV:=ZU.trans k5;have m5:M pr=Db:=se (ZU.trans sq1.keep) (sq1 _ _ p4) hpr;clear j1 j2 f7 f8 f9 fa c5 k5 e5 w4 ZU;refine i' mm (rM (f:=BQ) mm _ [] _ (by rw[cW];simp only[dJ];lia) (λd hd k hk=>?_) λq2 hq2=>?_)
 .obtain⟨v,_,rfl⟩:=dF.mp hd;exact⟨pI Z',hk⟩
 rw[d6,GV];have sq2:=qJ.new (c:=.lst (l.groups.map λg=>D.tup [.str g.1,rN g])) hq2;refine i' pR (i' (xm (λp:uH=>p.1) rN l.groups) ⟨zc (iG (jE _ _) ok.nd),λgd hgd=>?_⟩);obtain⟨n6,e6,k6,c6,p6⟩:=tS (fs':=RQ ph gr ws on pr gd) (c:=.dk (IY l)) (sq2 _ _ p5) hgd;have k6:=sq2.keep.trans k6;refine pM e6 ⟨(G.aa "group_rows" Z'),by show 5<1000;decide,_,.refl,?_⟩;have m6:M gd=Db:=se (ZV.trans sq2.keep) (sq2 _ _ p5) hgd;have w6:=w5.keep k6 rp;have y1:=k6.lst (qr fb p5) fb;have y2:=k6.lst (qr fc p5) fc;have y3:=k6.lst (qr fd p5) fd;have y4:=k6.lst (qr fe p5) fe;have y5:=k6.dk (CB ff p5) ff;refine q _ (ZV.trans k6) ⟨ph,gr,ws,on,pr,gd,rs,p6,y1,y2,y3,y4,y5,Du c6,w6⟩ λXU hs=>?_;exact⟨ph,gr,ws,on,pr,gd,rs,hs _ _ (.inl Z') p6,rR (hs _ _ (.inr hph) (ql y1)),rR (hs _ _ (.inr m2) (ql y2)),rR (hs _ _ (.inr m3) (ql y3)),rR (hs _ _ (.inr m4) (ql y4)),Du (hs _ _ (.inr m5) (yL y5)),Du (hs _ _ (.inr m6) c6),w6.1,λi r v e1 e2=>hs _ _ (.inr (mr r (gb e1))) (w6.2 i r v e1 e2)⟩
theorem yN{α:Type}(f:α->Str)(g:α->D)(k:Str):∀l:List α,wk (l.map λx=>((Sum.inr (f x):rP),g x)) (Sum.inr k)=(l.find? λx=>decide (f x=k)).map g
 | []=>rfl
 | x::r=>by
  have ih:=yN f g k r;unfold wk at ih ⊢;rw[dY,fM,fM];by_cases h:f x=k
  .have h':decide ((Sum.inr (f x):rP)=Sum.inr k)=pc:=dX (by rw[h]);simp[h]
  .have h':¬(Sum.inr (f x):rP)=Sum.inr k:=λz=>h (j4 z);simp only[h,h',decide_false];exact ih
noncomputable def pU.nB(l:pU)(x:Str):Option vi:=l.mV.find? λp=>decide (p.1=x)
noncomputable def pU.group(l:pU)(x:Str):Option uH:=l.groups.find? λg=>decide (g.1=x)
noncomputable def pU.mS(l:pU)(x:Str):QQQ:=(l.group x).elim [x] λg=>g.2.2
noncomputable def pU.m7(l:pU)(x:Str):Str:=(l.group x).elim "one" λg=>g.2.1
def Hw(l:pU)(x:Str):wk (SA l) (Sum.inr x)=(l.nB x).map rJ:=yN (λp:vi=>p.1) rJ x l.mV
def wX(l:pU)(x:Str):wk (IY l) (Sum.inr x)=(l.group x).map rN:=yN (λp:uH=>p.1) rN x l.groups
def zv(a:Ad):rO:=λds M Q=>CP λp (l:pU)=>ds=[.ref p]/\sY a M p l/\l.mV.length<=100/\∀q,M q=Db->Q (.ref q) (pT M q (.lst (l.pn.map D.str)))
def FL(a:Ad):rO:=λds M Q=>CP λp (l:pU)=>ds=[.ref p]/\sY a M p l/\l.mV.length<=100/\l.groups.length<=100/\∀q,M q=Db->Q (.ref q) (pT M q (.lst (l.nm.map D.str)))
def FB(a:Ad):rO:=λds M Q=>CO λp x v (l:pU)=>ds=[.ref p,.str x]/\sY a M p l/\l.nB x=Fa v/\Q (.int v.2.1) M
def GR(a:Ad):rO:=λds M Q=>CO λp x v (l:pU)=>ds=[.ref p,.str x]/\sY a M p l/\l.nB x=Fa v/\Q (.int v.2.2) M
def AZ(a:Ad):rO:=λds M Q=>Ea λp x (l:pU)=>ds=[.ref p,.str x]/\sY a M p l/\∀q,M q=Db->Q (.ref q) (pT M q (.lst ((l.mS x).map D.str)))
def DN(a:Ad):rO:=λds M Q=>Ea λp x (l:pU)=>ds=[.ref p,.str x]/\sY a M p l/\Q (.str (l.m7 x)) M
def uq:Fq P w K mg base 1 a.U (zv a):=by
 refine fq G.U.toDG yU (λr u=>⟨_,(pL (pS (ra Z' (yH (ix:=[Db]) (N':=["phone"])) (qZ (pQ v0)) (qW 0) sD (pV v0 pN)))),?_⟩)
 rintro ds M Q ⟨p,l,rfl,hp,hl,q⟩
 have hz:=dP;obtain⟨ph,gr,ws,on,pr,gd,rs,h1,h2,h3,h4,h5,h6,h7,h8⟩:=hp;refine pM h1 (i' Z' (i' h2 ?_));refine rM (f:=BL) h2 _ [] _ (by rw[cW];simp only[dJ];lia) (λd hd k hk=>?_) λq1 YM=>?_
 .obtain⟨x,_,rfl⟩:=dF.mp hd;exact hk
 rw[d6,xw];exact⟨_,.refl,q q1 YM⟩
def DT:Fq P w K mg base 2 a.bD (FL a):=by
 refine fq G.bD.toDG DO (λr u=>⟨_,(pL (pS (qu (yJ v0 G.h.toCls G.U (uq G) r) (ra Z' (yH (ix:=[Db]) (N':=["group"])) (qZ (pQ v0)) (qW 0) sD (pV v0 pN))))),?_⟩)
 rintro ds M Q ⟨p,l,rfl,hp,hl,hl2,q⟩
 have hz:=dP;have X8:=hp;obtain⟨ph,gr,ws,on,pr,gd,rs,h1,h2,h3,h4,h5,h6,h7,h8⟩:=hp;refine pM h1 ⟨Z',_,⟨Z',Z'⟩,p,l,Z',X8,hl,λq1 YM=>?_⟩;have s1:=qJ.new (c:=.lst (l.pn.map D.str)) YM;have e1:=@pR M q1 (l.pn.map D.str);generalize pT M q1 (.lst (l.pn.map D.str))=M1 at s1 e1 ⊢;have h3':=s1.lst h3;refine pM (s1 _ _ h1) (i' Z' (i' h3' ?_));refine rM (f:=BL) h3' _ [] _ (by rw[cW];simp only[dJ];lia) (λd hd k hk=>?_) λq2 hq2=>?_
 .obtain⟨x,_,rfl⟩:=dF.mp hd;exact hk
 rw[d6,xo];have s2:=qJ.new (c:=.lst ((l.groups.map (·.1)).map D.str)) hq2;refine i' (s2.lst e1) (i' pR ⟨?_,λq3 hq3=>?_⟩)
 .rw[cW,cW,cW];show(l.mV.map (·.1)).length+_<=_;rw[cW];lia
 have en:l.pn.map D.str++(l.groups.map (·.1)).map D.str=l.nm.map D.str:=by unfold pU.nm;rw[dM];rfl
 rw[en];exact⟨_,(s1.trans s2).upd,q q3 ((s1.trans s2).none hq3)⟩
def D7:Fq P w K mg base 1 a.bH (FB a):=by
 refine fq G.bH.toDG DW (λr u=>⟨_,(pL (pS (pV (zQ u (pQ v0) U1) pN))),?_⟩)
 rintro ds M Q ⟨p,x,v,l,rfl,hp,hv,q⟩
 obtain⟨ph,gr,ws,on,pr,gd,rs,h1,h2,h3,h4,h5,h6,h7,h8⟩:=hp;exact pM h1 (i' Z' (i' Z' (i' h6 (i' (x:=rJ v) (by rw[Hw,hv];rfl) ⟨M,.refl,q⟩))))
def zX:Fq P w K mg base 1 a.aO (GR a):=by
 refine fq G.aO.toDG Fe (λr u=>⟨_,(pL (pS (pV (zQ u (pQ v0) U1) pN))),?_⟩)
 rintro ds M Q ⟨p,x,v,l,rfl,hp,hv,q⟩
 obtain⟨ph,gr,ws,on,pr,gd,rs,h1,h2,h3,h4,h5,h6,h7,h8⟩:=hp;exact pM h1 (i' Z' (i' Z' (i' h6 (i' (x:=rJ v) (by rw[Hw,hv];rfl) ⟨M,.refl,q⟩))))
def va:Fq P w K mg base 1 a.Y (AZ a):=by
 refine fq G.Y.toDG Ac (λr u=>⟨_,(pK (qg (LK u U1 (pQ v0))
 (pL (pS (qK uj Z' G.y uh (qA (pV (zQ u (pQ v0) U1) pN)))))
 pZ)
 (pL (pS (qQ (qA U1))))),?_⟩)
 rintro ds M Q ⟨p,x,l,rfl,hp,q⟩
 obtain⟨ph,gr,ws,on,pr,gd,rs,h1,h2,h3,h4,h5,h6,h7,h8⟩:=hp;refine pM h1 (i' Z' (i' h7 ?_));cases e:l.group x with
 | none=>refine NW (c:=(wk (IY l) (Sum.inr x)).isSome) (by rw[wX,e];rfl) ⟨pI Z',λq1 YM=>⟨_,.refl,?_⟩⟩;have:=q q1 YM;unfold pU.mS at this;rw[e]at this;exact this
 | some g=>refine Bw (c:=(wk (IY l) (Sum.inr x)).isSome) (by rw[wX,e];rfl) (pM h1 (i' Z' (i' Z' (i' h7 (i' (x:=rN g) (by rw[wX,e];rfl) λq1 YM=>⟨_,.refl,?_⟩)))));have:=q q1 YM;unfold pU.mS at this;rw[e]at this;exact this
def yz:Fq P w K mg base 1 a.aN (DN a):=by
 refine fq G.aN.toDG CF (λr u=>⟨_,(pK (qg (LK u U1 (pQ v0))
 (pL (pS (pV (zQ u (pQ v0) U1) pN)))
 pZ)
 (pL (pS pO))),?_⟩)
 rintro ds M Q ⟨p,x,l,rfl,hp,q⟩
 obtain⟨ph,gr,ws,on,pr,gd,rs,h1,h2,h3,h4,h5,h6,h7,h8⟩:=hp;refine pM h1 (i' Z' (i' h7 ?_));cases e:l.group x with
 | none=>refine NW (c:=(wk (IY l) (Sum.inr x)).isSome) (by rw[wX,e];rfl) ⟨M,.refl,?_⟩;unfold pU.m7 at q;rw[e]at q;exact q
 | some g=>refine Bw (c:=(wk (IY l) (Sum.inr x)).isSome) (by rw[wX,e];rfl) (pM h1 (i' Z' (i' Z' (i' h7 (i' (x:=rN g) (by rw[wX,e];rfl) ⟨M,.refl,?_⟩)))));unfold pU.m7 at q;rw[e]at q;exact q
noncomputable def PX:T0 Int:=[1,1,2,2,3]
noncomputable def Qw:T0 Int:=[0,1,1,2,5,9]
noncomputable def QK:QQQ:=["all","turns"]
noncomputable def G1(t:T0 Int)(i:Int):Int:=t.getD i.toNat 0
def wU(s:Int)(i:Nat):vi:=(xW s (0+(i:Nat)),G1 PX (draw (s+17*(0+(i:Nat))*(0+(i:Nat))) 16807 5),G1 Qw (draw (s+17*(0+(i:Nat))*(0+(i:Nat))) 39373 6))
def rX(s m:Int):Nat:=(2+draw s 48271 (m - 1)).toNat
def qR(s m:Int):List vi:=(List.range (rX s m)).map (wU s)
def AK(s:Int)(own:QQQ)(i:Nat):uH:=(xW s (8+(0+(i:Nat))),CC QK (draw (s+5*(0+(i:Nat))) 742938285 2),wx own (s+11*(0+(i:Nat))) 4)
def wz(s:Int):Nat:=(draw s 69621 3).toNat
def rG(s:Int)(own:QQQ):List uH:=(List.range (wz s)).map (AK s own)
def GP{ts:T0 Int}{i:Int}(h0:0<=i)(h1:i<ts.length):vY (ts.map D.int) i=Fa (D.int (G1 ts i)):=by
 obtain⟨n,rfl⟩:=eG h0;have Zp:n<ts.length:=by lia
 refine tU ?_;rw[dz,c9 Zp];simp[G1,Zp]
def C6{pre post:T0 D}{d:D}(e:pre++d::post=(List.range n).map λi=>D.int (0+(i:Nat))):d=.int (0+(pre.length:Nat))/\pre.length<n:=by
 have h:((List.range n).map λi=>D.int (0+(i:Nat)))[pre.length]?=Fa d:=by rw[<-e];simp
 have hl:pre.length<n:=by
  have:=(cY.mp h).1
  simpa using this
 rw[dz,jh hl]at h;exact⟨(dv h).symm,hl⟩
def Do{α β:Type}(f:Nat->α)(g:α->β)(n:Nat):((List.range n).map f).map g++[g (f n)]=((List.range (n+1)).map f).map g:=by rw[jb,dM,dM];rfl
def IF:rO:=λds M Q=>CP λs m=>ds=[.int s,.int m]/\2<=m/\m<=100/\∀q,M q=Db->Q (.ref q) (pT M q (.lst ((qR s m).map rJ)))
def Ir:rO:=λds M Q=>Ea λs o own=>ds=[.int s,.ref o]/\pq M o=Fa (own.map D.str)/\own≠[]/\own.length<=64/\∀q,M q=Db->Q (.ref q) (pT M q (.lst ((rG s own).map rN)))
def xE{s m:Int}(h2:2<=m)(h:m<=100):rX s m<=100/\2<=rX s m:=by have d0:=rH (c:=s) (f:=48271) (m:=m - 1) (by lia);have d1:=rm (c:=s) (f:=48271) (m:=m - 1) (by lia);unfold rX;lia
def xG{s:Int}:wz s<=3:=by have d0:=rH (c:=s) (f:=69621) (m:=3) (by decide);have d1:=rm (c:=s) (f:=69621) (m:=3) (by decide);unfold wz;lia
def IE:Fq P w K mg base 2 a.bk IF:=by
 refine fq G.bk.toDG vp (λr u=>⟨_,(pK (qc 2 vp (qQ so))
 (pK (ur eU Z' (uK Z' G.J (qA (qu pN (pX (rc G) r G.i (rC v0 pN (qu U1 pN)))))) (rq 3 vp)
 (pK (qc 4 vp (pV (qd (qo pN (qo pN (rC pN pN pN)))) (pX (rc G) r G.i (rC (qu v0 (qu (qu pN U3) U3)) pN pN))))
 (pL (qe (rk U2 (qA (qd (rC (pX (Jp G) r G.ah (sH v0 U3)) U4 (pV (qd (qo pN (qo pN (qo pN (rC pN pN pN))))) (pX (rc G) r G.i (rC (qu v0 (qu (qu pN U3) U3)) pN pN)))))))))))
 (pL (pS U2)))),?_⟩)
 rintro ds M Q ⟨s,m,rfl,h2,h100,q⟩
 have hz:=dP;have d0:=rH (c:=s) (f:=48271) (m:=m - 1) (by lia);have d1:=rm (c:=s) (f:=48271) (m:=m - 1) (by lia);have nl:=(xE (s:=s) h2 h100).1;refine⟨pI Z',λr hr=>⟨s,_,_,Z',by show 0<m - 1;lia,Z',⟨?_,?_⟩,?_⟩⟩
 .show -(2 ^ 62)<=2+draw s 48271 (m - 1);lia
 .show 2+draw s 48271 (m - 1)<2 ^ 62;lia
 refine vg ((List.range (rX s m)).map λi=>D.int (0+(i:Nat))) (λpre U M'=>M'=pT M r (.lst (((List.range pre.length).map (wU s)).map rJ))/\∃x y,U=[Fa (.int s),Fa (.int m),Fa (.ref r),x,y]) (λ_ _ _ _=>trivial) _ [] _ _ Z' ⟨Z',Db,Db,Z'⟩ ?_ ?_
 .rintro pre d post e U M' ⟨rfl,x,y,rfl⟩ nx XX
  obtain⟨rfl,XZ⟩:=C6 e;generalize hi:pre.length=i at XZ XX ⊢;have cm:DB (17*(0+(i:Int))) (0+(i:Int)):=.inr ⟨by lia,by lia⟩;have c17:DB 17 (0+(i:Int)):=.inl ⟨by decide,by decide⟩;have t5:vY [D.int 1,.int 1,.int 2,.int 2,.int 3] (draw (s+17*(0+(i:Int))*(0+(i:Int))) 16807 5)=Fa (.int (wU s i).2.1):=GP (ts:=PX) (rH (by decide)) (rm (by decide));have t6:vY [D.int 0,.int 1,.int 1,.int 2,.int 5,.int 9] (draw (s+17*(0+(i:Int))*(0+(i:Int))) 39373 6)=Fa (.int (wU s i).2.2):=GP (ts:=Qw) (rH (by decide)) (rm (by decide));refine⟨pI Z',c17,cm,_,_,_,Z',by decide,i' t5 ?_⟩;refine⟨by show(pq _ r).isSome=pc;rw[pR];rfl,s,_,Z',pI Z',c17,cm,_,_,_,Z',by decide,i' t6 ⟨pI Z',i' pR ⟨?_,?_⟩⟩⟩
  .rw[cW,cW,eA];lia
  .refine XX _ _ ⟨?_,_,_,Z'⟩;rw[r6,cZ,hi];show pT M r (.lst (_++[rJ (wU s i)]))=_;rw[Do];rfl
 .rintro U M' ⟨rfl,x,y,rfl⟩
  refine⟨_,.refl,?_⟩;rw[cW,eA];exact q r hr
def Il:Fq P w K mg base 3 a.bl Ir:=by
 refine fq G.bl.toDG vn (λr u=>⟨_,(pK (qc 2 vn (qQ so))
 (pK (ur eU Z' (uK Z' G.J (qA (pX (rc G) r G.i (rC v0 pN pN)))) (rq 3 vn)
 (pK (qc 4 vn (pV (qd (sH pO pO)) (pX (rc G) r G.i (rC (qu v0 (qu pN U3)) pN pN))))
 (pL (qe (rk U2 (qA (qd (rC (pX (Jp G) r G.ah (sH v0 (qu pN U3))) U4 (pX (yK G) r G.S (rC U1 (qu v0 (qu pN U3)) pN))))))))))
 (pL (pS U2)))),?_⟩)
 rintro ds M Q ⟨s,o,own,rfl,ho,X9,h64,q⟩
 have hz:=dP;have d0:=rH (c:=s) (f:=69621) (m:=3) (by decide);have d1:=rm (c:=s) (f:=69621) (m:=3) (by decide);have nl:=xG (s:=s);refine⟨pI Z',λr hr=>⟨s,_,_,Z',by decide,Z',⟨?_,?_⟩,?_⟩⟩
 .show -(2 ^ 62)<=draw s 69621 3;lia
 .show draw s 69621 3<2 ^ 62;lia
 have nor:o≠r:=λz=>by rw[z]at ho;unfold pq at ho;rw[hr]at ho;cases ho
 refine vg ((List.range (wz s)).map λi=>D.int (0+(i:Nat))) (λpre U M'=>M'=pT M r (.lst (((List.range pre.length).map (AK s own)).map rN))/\∃x y,U=[Fa (.int s),Fa (.ref o),Fa (.ref r),x,y]) (λ_ _ _ _=>trivial) _ [] _ _ Z' ⟨Z',Db,Db,Z'⟩ ?_ ?_
 .rintro pre d post e U M' ⟨rfl,x,y,rfl⟩ nx XX
  obtain⟨rfl,XZ⟩:=C6 e;generalize hi:pre.length=i at XZ XX ⊢;have c5:DB 5 (0+(i:Int)):=.inl ⟨by decide,by decide⟩;have c11:DB 11 (0+(i:Int)):=.inl ⟨by decide,by decide⟩;have tm:vY [D.str "all",.str "turns"] (draw (s+5*(0+(i:Int))) 742938285 2)=Fa (.str (AK s own i).2.1):=Ie (row:=QK) (rH (by decide)) (rm (by decide));have Yx:pq (pT M r (.lst (((List.range i).map (AK s own)).map rN))) o=Fa (own.map D.str):=by unfold pq;rw[uW nor];exact ho
  refine⟨pI Z',c5,_,_,_,Z',by decide,i' tm ?_⟩;refine⟨by show(pq _ r).isSome=pc;rw[pR];rfl,s,_,Z',c11,o,_,_,own,Z',Yx,X9,by decide,h64,pI Z',i' pR ⟨?_,?_⟩⟩
  .rw[cW,cW,eA];lia
  .refine XX _ _ ⟨?_,_,_,Z'⟩;rw[r6,cZ,hi];show pT M r (.lst (_++[rN (AK s own i)]))=_;rw[Do];rfl
 .rintro U M' ⟨rfl,x,y,rfl⟩
  refine⟨_,.refl,?_⟩;rw[cW,eA];exact q r hr
def Jf(ns:T0 Int)(own nm:QQQ)(i:Nat):vJ:=(decide (0<draw (cell ns (1+(0+(i:Nat)))+31*(0+(i:Nat))*(0+(i:Nat))) 22695477 6),xc (cell ns (1+(0+(i:Nat)))+31*(0+(i:Nat))*(0+(i:Nat))) own nm)
def xJ(s:Int):Nat:=(draw s 950706376 11).toNat
def xg(ns:T0 Int)(m:Int):pU:=
 let s:=cell ns 0;let own:=(qR s m).map (·.1);let gs:=rG s own
 ⟨qR s m,gs,(List.range (xJ s)).map (Jf ns own (own++gs.map (·.1)))⟩
def Mi:rO:=λds M Q=>CP λns m=>ds=[.rl (ns.map D.int),.int m]/\2<=m/\m<=8/\∀r1 r2 r3 M',qJ M M'->pq M' r1=Fa ((xg ns m).mV.map rJ)->pq M' r2=Fa ((xg ns m).groups.map rN)->pq M' r3=Fa ((xg ns m).mT.map vf)->M r3=Db->Q (.tup [.ref r1,.ref r2,.ref r3]) M'
def GG:Fq P w K mg base 4 a.ai Mi:=by
 refine fq G.ai.toDG sX (λr u=>⟨_,(pK (qc 2 sX (pX (Nt G) r G.R (sH v0 pN)))
 (pK (qc 3 sX (pX (IE G) r G.bk (sH U2 U1)))
 (pK (vP (i:=4) sX.nd Z' (Or.inl Z') Z' (yH (ix:=[Db]) (N':=["_law_phone"])) (qZ U3) (qW 0) sD (pV v0 pN))
 (pK (qc 5 sX (pX (Il G) r G.bl (sH U2 U4)))
 (pK (qc 6 sX (qu U4 (ra Z' (yH (ix:=[Db]) (N':=["_law_group"])) (qZ v5) (qW 0) sD (pV v0 pN))))
 (pK (qc 7 sX (qQ so))
 (pK (ur eU Z' (uK Z' G.J (qA (pX (rc G) r G.i (rC U2 pN pN)))) (rq 8 sX)
 (pK (qc 9 sX (qu (pX (Nt G) r G.R (sH v0 (qu pN v8))) (qu (qu pN v8) v8)))
 (pL (qe (rk v7 (qA (qd (sH (qG u (pX (rc G) r G.i (rC v9 pN pN)) pN) (pX (Pi G) r G.bm (rC v9 U4 v6))))))))))
 (pL (pS (qd (rC U3 v5 v7))))))))))),?_⟩)
 rintro ds M Q ⟨ns,m,rfl,h2,h8,q⟩
 have hz:=dP;have pl:=xE (s:=cell ns 0) h2 (by lia);have p8:rX (cell ns 0) m<=8:=by have d1:=rm (c:=cell ns 0) (f:=48271) (m:=m - 1) (by lia);unfold rX;lia
 have gl:=xG (s:=cell ns 0);have lp:(qR (cell ns 0) m).length=rX (cell ns 0) m:=by unfold qR;rw[cW,eA]
 refine⟨ns,0,Z',cell ns 0,m,Z',h2,by lia,λr1 Yn=>?_⟩;have s1:=qJ.new (c:=.lst ((qR (cell ns 0) m).map rJ)) Yn;have a1:=@pR M r1 ((qR (cell ns 0) m).map rJ);generalize pT M r1 (.lst ((qR (cell ns 0) m).map rJ))=M1 at s1 a1 ⊢;refine i' a1 (rM (f:=BL) a1 _ [] _ (by rw[cW];simp only[dJ];lia) (λd hd k hk=>?_) λo ho=>?_)
 .obtain⟨x,_,rfl⟩:=dF.mp hd;exact hk
 rw[d6,xw];have s2:=s1.trans (qJ.new (c:=.lst (((qR (cell ns 0) m).map (·.1)).map D.str)) ho);have b1:=(qJ.new (c:=.lst (((qR (cell ns 0) m).map (·.1)).map D.str)) ho).lst a1;have bo:=@pR M1 o (((qR (cell ns 0) m).map (·.1)).map D.str);generalize pT M1 o (.lst (((qR (cell ns 0) m).map (·.1)).map D.str))=M2 at s2 b1 bo ⊢;have ol:((qR (cell ns 0) m).map (·.1)).length=rX (cell ns 0) m:=by rw[cW,lp]
 have one:(qR (cell ns 0) m).map (·.1)≠[]:=λz=>by rw[z]at ol;have:0=rX (cell ns 0) m:=ol;lia
 have X8:xg ns m=⟨qR (cell ns 0) m,rG (cell ns 0) ((qR (cell ns 0) m).map (·.1)),(List.range (xJ (cell ns 0))).map (Jf ns ((qR (cell ns 0) m).map (·.1)) ((qR (cell ns 0) m).map (·.1)++(rG (cell ns 0) ((qR (cell ns 0) m).map (·.1))).map (·.1)))⟩:=rfl;rw[X8]at q;generalize (qR (cell ns 0) m).map (·.1)=own at bo ol one q ⊢;refine⟨cell ns 0,o,own,Z',bo,one,by lia,λr2 hr2=>?_⟩;have t3:=qJ.new (c:=.lst ((rG (cell ns 0) own).map rN)) hr2;have c2:=@pR M2 r2 ((rG (cell ns 0) own).map rN);have c1:=t3.lst b1;have co:=t3.lst bo;have s3:=s2.trans t3;generalize pT M2 r2 (.lst ((rG (cell ns 0) own).map rN))=M3 at s3 c1 c2 co ⊢;have gll:(rG (cell ns 0) own).length=wz (cell ns 0):=by unfold rG;rw[cW,eA]
 refine i' c2 (rM (f:=BL) c2 _ [] _ (by rw[cW];simp only[dJ];lia) (λd hd k hk=>?_) λx4 hx4=>?_)
 .obtain⟨x,_,rfl⟩:=dF.mp hd;exact hk
 rw[d6,xo];have t4:=qJ.new (c:=.lst (((rG (cell ns 0) own).map (·.1)).map D.str)) hx4;refine i' (t4.lst co) (i' pR ⟨?_,λn hn=>?_⟩)
 .rw[cW,cW,cW];lia
 have en:own.map D.str++((rG (cell ns 0) own).map (·.1)).map D.str=(own++(rG (cell ns 0) own).map (·.1)).map D.str:=by rw[dM]
 rw[en];have nl:(own++(rG (cell ns 0) own).map (·.1)).length=rX (cell ns 0) m+wz (cell ns 0):=by rw[cZ,cW,ol,gll]
 have t5:=t4.trans (qJ.new (c:=.lst ((own++(rG (cell ns 0) own).map (·.1)).map D.str)) hn);have en5:=@pR (pT M3 x4 (.lst (((rG (cell ns 0) own).map (·.1)).map D.str))) n ((own++(rG (cell ns 0) own).map (·.1)).map D.str);have e1:=t5.lst c1;have e2:=t5.lst c2;have eo:=t5.lst co;have s5:=s3.trans t5;generalize pT (pT M3 x4 (.lst (((rG (cell ns 0) own).map (·.1)).map D.str))) n (.lst ((own++(rG (cell ns 0) own).map (·.1)).map D.str))=M5 at s5 e1 e2 eo en5 ⊢;generalize own++(rG (cell ns 0) own).map (·.1)=nm at en5 nl q ⊢;have d0:=rH (c:=cell ns 0) (f:=950706376) (m:=11) (by decide);have d1:=rm (c:=cell ns 0) (f:=950706376) (m:=11) (by decide);refine⟨pI Z',λr3 Zt=>⟨_,_,_,Z',by decide,Z',⟨?_,?_⟩,?_⟩⟩
 .show -(2 ^ 62)<=draw (cell ns 0) 950706376 11;lia
 .show draw (cell ns 0) 950706376 11<2 ^ 62;lia
 have t6:=qJ.new (c:=.lst []) Zt;have g3:=@pR M5 r3 [];have no:o≠r3:=λz=>by have:=ql eo;rw[z,Zt]at this;cases this
 have nn:n≠r3:=λz=>by have:=ql en5;rw[z,Zt]at this;cases this
 have n1:r1≠r3:=λz=>by have:=ql e1;rw[z,Zt]at this;cases this
 have n2:r2≠r3:=λz=>by have:=ql e2;rw[z,Zt]at this;cases this
 have f1:=t6.lst e1;have f2:=t6.lst e2;have fo:=t6.lst eo;have fn:=t6.lst en5;have k6:qJ M (pT M5 r3 (.lst [])):=s5.trans t6;have nr:M r3=Db:=s5.none Zt;generalize pT M5 r3 (.lst [])=M6 at f1 f2 fo fn k6 g3 ⊢;have wl:xJ (cell ns 0)<=10:=by unfold xJ;lia
 refine vg ((List.range (xJ (cell ns 0))).map λi=>D.int (0+(i:Nat))) (λpre U M'=>sy r3 M6 M'/\pq M' r3=Fa (((List.range pre.length).map (Jf ns own nm)).map vf)/\∃x y,U=[Fa (.rl (ns.map D.int)),Fa (.int m),Fa (.int (cell ns 0)),Fa (.ref r1),Fa (.ref o),Fa (.ref r2),Fa (.ref n),Fa (.ref r3),x,y]) (λp U M' j=>trivial) _ [] _ _ Z' ⟨λ_ _ _ h=>h,g3,Db,Db,Z'⟩ ?_ ?_
 .rintro pre d post e U M' ⟨kp,lr,x,y,rfl⟩ nx XX
  obtain⟨rfl,XZ⟩:=C6 e;generalize hi:pre.length=i at XZ XX lr ⊢;have c31:DB 31 (0+(i:Int)):=.inl ⟨by decide,by decide⟩;have cm:DB (31*(0+(i:Int))) (0+(i:Int)):=.inr ⟨by lia,by lia⟩;refine⟨ns,_,Z',c31,cm,?_⟩;refine⟨by show(pq M' r3).isSome=pc;rw[lr];rfl,_,_,_,Z',by decide,_,o,n,own,nm,Z',kp.lst no fo,kp.lst nn fn,one,by lia,by lia,by lia,pI Z',i' lr ⟨?_,?_⟩⟩
  .rw[cW,cW,eA];lia
  .refine XX _ _ ⟨kp.trans .put,?_,_,_,Z'⟩;rw[pR,cZ,hi];show Fa (_++[vf (Jf ns own nm i)])=_;rw[Do];rfl
 .rintro U M' ⟨kp,lr,x,y,rfl⟩
  rw[cW,eA]at lr;exact⟨pI Z',M',.refl,q r1 r2 r3 M' (λb c h=>kp b c (λz=>by rw[z,nr]at h;cases h) (k6 b c h)) (kp.lst n1 f1) (kp.lst n2 f2) lr nr⟩
theorem CL(x:Array Nat):∀(n:Nat) (acc:Array Nat),((List.replicate n x).foldl (·++·) acc).toList=acc.toList++(List.replicate n x.toList).flatten
 | 0,acc=>by simp
 | n+1,acc=>by rw[eJ,gh,CL x n (acc++x),eJ,fS,ji,eM]
theorem Hs(c:Nat):∀n:Nat,(List.replicate n [c]).flatten=List.replicate n c
 | 0=>rfl
 | n+1=>by rw[eJ,fS,Hs c n,eJ];rfl
def Et(i n:Int):(zE (uJ i) n).cps.toList=List.replicate n.toNat (97+i.toNat):=by show((List.replicate n.toNat (uJ i).cps).foldl (·++·) #[]:Array Nat).toList=_;rw[CL];show[]++(List.replicate n.toNat [97+i.toNat]).flatten=_;rw[d6,Hs]
def yQ(s v:Int):(xW s v).cps.toList=List.replicate (uZ s).toNat (97+(s / 36 % 26).toNat)++(97+((s / 936+v) % 26).toNat)::List.replicate (size s - 1 - uZ s).toNat (97+(s / 36 % 26).toNat):=by show((zE (uJ (s / 36 % 26)) (uZ s)).cps++(uJ ((s / 936+v) % 26)).cps++(zE (uJ (s / 36 % 26)) (size s - 1 - uZ s)).cps).toList=_;rw[ji,ji,Et,Et];show _++[97+((s / 936+v) % 26).toNat]++_=_;rw[eM];rfl
def C8(s v:Int):1<=(xW s v).length/\(xW s v).length<=6:=by
 have e:(xW s v).length=(xW s v).cps.toList.length:=by simp[Str.length]
 rw[e,yQ,cZ,eB,iP,iP];have h1:=Hh s;have h2:=Js s;have h3:0<=uZ s:=fg _ (by lia);have h4:uZ s<size s:=eV _ h1;lia
def NN{i:Int}(h0:0<=i)(h1:i<26):DL ⟨#[97+i.toNat]⟩ uO=pc:=by
 obtain⟨n,rfl⟩:=eG h0;have hn:n<26:=by lia
 have key:∀n:_root_.Fin 26,DL ⟨#[97+n.val]⟩ uO=pc:=by decide+kernel
 exact key ⟨n,hn⟩
def ED(s v:Int):uS (xW s v)=pc:=by
 obtain⟨h1,h2⟩:=C8 s v;unfold uS;rw[dX (show(1:Int)<=(xW s v).length by lia),dX (show((xW s v).length:Int)<=6 by lia),eL,eL,eS];intro c hc;rw[yQ]at hc;have k1:=NN (fg (s / 36) (show(26:Int)≠0 by decide)) (eV (s / 36) (by decide));have k2:=NN (fg (s / 936+v) (show(26:Int)≠0 by decide)) (eV (s / 936+v) (by decide));rcases dU.mp hc with z|z
 .rw[jT z];exact k1
 .rcases dh.mp z with z|z
  .rw[z];exact k2
  .rw[jT z];exact k1
def B9{s u v:Int}(hu:0<=u)(hu':u<26)(hv:0<=v)(hv':v<26)(e:xW s u=xW s v):u=v:=by
 have e':(xW s u).cps.toList=(xW s v).cps.toList:=by rw[e]
 rw[yQ,yQ]at e';have:=(List.append_cancel_left e');have:=(gQ this).1;have a1:=fg (s / 936+u) (show(26:Int)≠0 by decide);have a2:=fg (s / 936+v) (show(26:Int)≠0 by decide);have h:(s / 936+u) % 26=(s / 936+v) % 26:=by lia
 lia
def FJ{ss:QQQ}{x:Str}(h:x∈ss):yd ss x:=gX.mpr ⟨x,h,by simp⟩
def BS{row:QQQ}{i:Int}(h0:0<=i)(h1:i<row.length):CC row i∈row:=by
 obtain⟨n,rfl⟩:=eG h0;have hn:n<row.length:=by lia
 have:CC row (n:Int)=row[n]:=by simp[CC,hn]
 rw[this];exact ip hn
def Je{row:QQQ}{i j:Int}(nd:row.Nodup)(h0:0<=i)(h1:i<row.length)(g0:0<=j)(g1:j<row.length)(e:CC row i=CC row j):i=j:=by
 obtain⟨n,rfl⟩:=eG h0;obtain⟨k,rfl⟩:=eG g0;have hn:n<row.length:=by lia
 have hk:k<row.length:=by lia
 have e1:CC row (n:Int)=row[n]:=by simp[CC,hn]
 have e2:CC row (k:Int)=row[k]:=by simp[CC,hk]
 rw[e1,e2]at e;have pw:=jF.mp nd;rcases Nat.lt_trichotomy n k with z|z|z
 .exact absurd e (pw n k hn hk z)
 .rw[z]
 .exact absurd e.symm (pw k n hk hn z)
def AS{α:Type}(f:Nat->α)(n:Nat)(h:∀i j,i<n->j<n->f i=f j->i=j):((List.range n).map f).Nodup:=by refine jF.mpr λi j hi hj XZ e=>?_;rw[cW,eA]at hi hj;rw[mv,mv,lD,lD]at e;have:=h i j hi hj e;lia
def Cp{row:QQQ}{c m:Int}(hr:row≠[])(hm:0<m):1<=xN row c m/\(xN row c m:Int)<=m/\xN row c m<=row.length:=by
 have hl:0<row.length:=fG.mpr hr;have d0:=rH (c:=c) (f:=40692) (m:=if (row.length:Int)<m then(row.length:Int)else m) (by split<;>lia);have d1:=rm (c:=c) (f:=40692) (m:=if (row.length:Int)<m then(row.length:Int)else m) (by split<;>lia);unfold xN;by_cases h:(row.length:Int)<m
 .rw[dg h]at d0 d1 ⊢;lia
 .rw[de h]at d0 d1 ⊢;lia
def C5{row:QQQ}{c:Int}(hr:row≠[])(j:Nat):0<=(draw c 69621 row.length+(0+(j:Nat))) % (row.length:Int)/\(draw c 69621 row.length+(0+(j:Nat))) % (row.length:Int)<row.length:=by have hl:0<row.length:=fG.mpr hr;exact⟨fg _ (by lia),eV _ (by lia)⟩
def JX{d n i j:Int}(hn:0<n)(hi:0<=i)(ZP:i<n)(hj:0<=j)(hj':j<n)(e:(d+i) % n=(d+j) % n):i=j:=by
 have h1:=kt (d+i) n;have h2:=kt (d+j) n;generalize (d+i) / n=a at h1;generalize (d+j) / n=b at h2;have h3:i - j=n*(a - b):=by rw[Int.mul_sub];lia
 rcases Int.lt_trichotomy (a - b) 0 with z|z|z
 .have:n*(a - b)<=n*(-1):=jg (by lia) (by lia);lia
 .rw[z]at h3;lia
 .have:n*1<=n*(a - b):=jg (by lia) (by lia);lia
def IC{row:QQQ}{c m:Int}(nd:row.Nodup)(hr:row≠[])(hm:0<m):(wx row c m).Nodup:=by have hl:0<row.length:=fG.mpr hr;obtain⟨_,_,l3⟩:=Cp (c:=c) hr hm;refine AS _ _ λi j hi hj e=>?_;obtain⟨a0,a1⟩:=C5 (c:=c) hr i;obtain⟨b0,b1⟩:=C5 (c:=c) hr j;have e':=Je nd a0 a1 b0 b1 e;have:=JX (d:=draw c 69621 row.length) (n:=row.length) (i:=0+(i:Nat)) (j:=0+(j:Nat)) (by lia) (by lia) (by lia) (by lia) (by lia) e';lia
def xS{row:QQQ}{c m k:Int}(nd:row.Nodup)(hr:row≠[])(hm:0<m)(hk:m<=k):tj (wx row c m) row k=pc:=by
 obtain⟨l1,l2,l3⟩:=Cp (c:=c) hr hm;have el:(wx row c m).length=xN row c m:=by unfold wx;rw[cW,eA]
 unfold tj;rw[el,dX (show(1:Int)<=xN row c m by lia),dX (show(xN row c m:Int)<=k by lia),EL (IC nd hr hm),eL,eL,eL,eS];intro x hx;unfold wx at hx;obtain⟨j,_,rfl⟩:=dF.mp hx;obtain⟨a0,a1⟩:=C5 (c:=c) hr j;exact FJ (BS a0 a1)
def CT{row:QQQ}{c m:Int}(hr:row≠[])(hm:0<m)(h:m<=100):(wx row c m).length<4000:=by
 obtain⟨l1,l2,l3⟩:=Cp (c:=c) hr hm;have el:(wx row c m).length=xN row c m:=by unfold wx;rw[cW,eA]
 lia
def Pn{c:Int}{own all:QQQ}(no:own.Nodup)(na:all.Nodup)(ho:own≠[])(ha:2<=all.length):Di own all (xc c own all):=by
 have hl:(0:Int)<own.length:=by have:=fG.mpr ho;lia
 have ha0:all≠[]:=λz=>by rw[z]at ha;simp at ha
 have hx:=FJ (BS (rH (c:=c) (f:=16807) hl) (rm (c:=c) (f:=16807) hl));have p0:=rH (c:=c) (f:=39373) (m:=all.length) (by lia);have p1:=rm (c:=c) (f:=39373) (m:=all.length) (by lia);have e0:=rH (c:=c) (f:=742938285) (m:=(all.length:Int) - 1) (by lia);have e1:=rm (c:=c) (f:=742938285) (m:=(all.length:Int) - 1) (by lia);have z0:=fg (draw c 39373 all.length+1+draw c 742938285 ((all.length:Int) - 1)) (show(all.length:Int)≠0 by lia);have z1:=eV (draw c 39373 all.length+1+draw c 742938285 ((all.length:Int) - 1)) (show(0:Int)<all.length by lia);have hy:=FJ (BS p0 p1);have hzz:=FJ (BS z0 z1);have ne:CC all (draw c 39373 all.length)≠CC all ((draw c 39373 all.length+1+draw c 742938285 ((all.length:Int) - 1)) % all.length):=λz=>by
  have q:=Je na p0 p1 z0 z1 z;have q2:(draw c 39373 all.length+0) % (all.length:Int)=(draw c 39373 all.length+(1+draw c 742938285 ((all.length:Int) - 1))) % (all.length:Int):=by rw[Int.add_zero,Int.emod_eq_of_lt p0 p1,<-Int.add_assoc];exact q
  have:=JX (by lia) (by lia) (by lia) (by lia) (by lia) q2;lia
 have f0:=rH (c:=c) (f:=22695477) (m:=24) (by decide);have f1:=rm (c:=c) (f:=22695477) (m:=24) (by decide);have g0:=rH (c:=c) (f:=48271) (m:=23) (by decide);have g1:=rm (c:=c) (f:=48271) (m:=23) (by decide);have t0:=rH (c:=c) (f:=950706376) (m:=5) (by decide);have t1:=rm (c:=c) (f:=950706376) (m:=5) (by decide);unfold xc;simp only;split
 .exact⟨hx,CT ha0 (by decide) (by decide),xS na ha0 (by decide) (by decide)⟩
 .split
  .exact⟨hy,CT ho (by decide) (by decide),xS no ho (by decide) (by decide)⟩
  .split
   .exact⟨hy,hzz,ne⟩
   .split
    .refine⟨hy,hzz,ne,⟨f0,by lia⟩,⟨fg _ (by decide),?_⟩,?_⟩
     .have:=eV (draw c 22695477 24+1+draw c 48271 23) (show(0:Int)<24 by decide);lia
     .omega
    .split
     .exact⟨hy,hzz,ne⟩
     .split
      .refine⟨hy,hzz,ne,?_⟩;generalize draw c 950706376 5=d at t0 t1;have:d=0\/d=1\/d=2\/d=3\/d=4:=by lia
       rcases this with z|z|z|z|z<;>(subst z;decide)
      .split
       .exact hx
       .exact hx
def NJ(s:Int)(i:Nat):FE (wU s i):=by
 have t0:=rH (c:=s+17*(0+(i:Nat))*(0+(i:Nat))) (f:=16807) (m:=5) (by decide);have t1:=rm (c:=s+17*(0+(i:Nat))*(0+(i:Nat))) (f:=16807) (m:=5) (by decide);have u0:=rH (c:=s+17*(0+(i:Nat))*(0+(i:Nat))) (f:=39373) (m:=6) (by decide);have u1:=rm (c:=s+17*(0+(i:Nat))*(0+(i:Nat))) (f:=39373) (m:=6) (by decide);have a:1<=(wU s i).2.1/\(wU s i).2.1<=3:=by
  show 1<=G1 PX (draw (s+17*(0+(i:Nat))*(0+(i:Nat))) 16807 5)/\G1 PX (draw (s+17*(0+(i:Nat))*(0+(i:Nat))) 16807 5)<=3;generalize draw (s+17*(0+(i:Nat))*(0+(i:Nat))) 16807 5=d at t0 t1;have:d=0\/d=1\/d=2\/d=3\/d=4:=by lia
  rcases this with z|z|z|z|z<;>(subst z;decide)
 have b:0<=(wU s i).2.2/\(wU s i).2.2<=9:=by
  show 0<=G1 Qw (draw (s+17*(0+(i:Nat))*(0+(i:Nat))) 39373 6)/\G1 Qw (draw (s+17*(0+(i:Nat))*(0+(i:Nat))) 39373 6)<=9;generalize draw (s+17*(0+(i:Nat))*(0+(i:Nat))) 39373 6=d at u0 u1;have:d=0\/d=1\/d=2\/d=3\/d=4\/d=5:=by lia
  rcases this with z|z|z|z|z|z<;>(subst z;decide)
 exact⟨d9 (C8 s (0+(i:Nat))).2 (by decide),ED _ _,a.1,a.2,b.1,b.2⟩
def MD{s:Int}{own:QQQ}(nd:own.Nodup)(hr:own≠[])(i:Nat):FQ own (AK s own i):=by
 have t0:=rH (c:=s+5*(0+(i:Nat))) (f:=742938285) (m:=2) (by decide);have t1:=rm (c:=s+5*(0+(i:Nat))) (f:=742938285) (m:=2) (by decide);refine⟨d9 (C8 s (8+(0+(i:Nat)))).2 (by decide),ED _ _,?_,CT hr (by decide) (by decide),xS nd hr (by decide) (by decide)⟩;show CC QK (draw (s+5*(0+(i:Nat))) 742938285 2)="all"\/CC QK (draw (s+5*(0+(i:Nat))) 742938285 2)="turns";generalize draw (s+5*(0+(i:Nat))) 742938285 2=d at t0 t1;have:d=0\/d=1:=by lia
 rcases this with z|z
 .subst z;exact .inl Z'
 .subst z;exact .inr Z'
def LV(s m:Int):(qR s m).map (·.1)=(List.range (rX s m)).map λi=>xW s (0+(i:Nat)):=by unfold qR;rw[eC];rfl
def GK{s m:Int}(h2:2<=m)(h8:m<=8):((qR s m).map (·.1)).Nodup/\∀own,((qR s m).map (·.1)++(rG s own).map (·.1)).Nodup:=by
 have d1:=rm (c:=s) (f:=48271) (m:=m - 1) (by lia);have d0:=rH (c:=s) (f:=48271) (m:=m - 1) (by lia);have p8:rX s m<=8:=by unfold rX;lia
 have g3:=xG (s:=s);have a:((qR s m).map (·.1)).Nodup:=by rw[LV];refine AS _ _ λi j hi hj e=>?_;have:=B9 (by lia) (by lia) (by lia) (by lia) e;lia
 refine⟨a,λown=>?_⟩;have ge:(rG s own).map (·.1)=(List.range (wz s)).map λi=>xW s (8+(0+(i:Nat))):=by unfold rG;rw[eC];rfl
 rw[gf];refine⟨a,?_,λx hx y hy e=>?_⟩
 .rw[ge];refine AS _ _ λi j hi hj e=>?_;have:=B9 (by lia) (by lia) (by lia) (by lia) e;lia
 .rw[LV]at hx;rw[ge]at hy;obtain⟨i,hi,rfl⟩:=dF.mp hx;obtain⟨j,hj,rfl⟩:=dF.mp hy;have hi:=fZ.mp hi;have hj:=fZ.mp hj;have:=B9 (by lia) (by lia) (by lia) (by lia) e;lia
def QM{m:Int}(h2:2<=m)(h8:m<=8):sf (xg ns m):=by
 obtain⟨n1,n2⟩:=GK (s:=cell ns 0) h2 h8;have pl:=xE (s:=cell ns 0) h2 (by lia);have p8:rX (cell ns 0) m<=8:=by have d1:=rm (c:=cell ns 0) (f:=48271) (m:=m - 1) (by lia);unfold rX;lia
 have lp:(qR (cell ns 0) m).length=rX (cell ns 0) m:=by unfold qR;rw[cW,eA]
 have ol:((qR (cell ns 0) m).map (·.1)).length=rX (cell ns 0) m:=by rw[cW,lp]
 have one:(qR (cell ns 0) m).map (·.1)≠[]:=λz=>by rw[z]at ol;have:0=rX (cell ns 0) m:=ol;lia
 have gl:(rG (cell ns 0) ((qR (cell ns 0) m).map (·.1))).length=wz (cell ns 0):=by unfold rG;rw[cW,eA]
 refine⟨?_,?_,λp hp=>?_,?_,λg hg=>?_,n2 _,?_,λv hv=>?_⟩
 .show 1<=(qR (cell ns 0) m).length;lia
 .show(qR (cell ns 0) m).length<=8;lia
 .obtain⟨i,_,rfl⟩:=dF.mp hp;exact NJ _ i
 .show(rG (cell ns 0) ((qR (cell ns 0) m).map (·.1))).length<=3;rw[gl];exact xG
 .obtain⟨i,_,rfl⟩:=dF.mp hg;exact MD n1 one i
 .show((List.range (xJ (cell ns 0))).map _).length<=16;rw[cW,eA];have d1:=rm (c:=cell ns 0) (f:=950706376) (m:=11) (by decide);unfold xJ;lia
 .obtain⟨i,hi,rfl⟩:=dF.mp hv;refine Pn n1 (n2 _) one ?_;show 2<=((qR (cell ns 0) m).map (·.1)++_).length;rw[cZ,ol];lia
structure pP where
 st:Str
 cr:Str
 way:QQQ
 at_:QQQ
 ms:QQQ
 hd:Option Str
 si:Int
 wd:Option Str
structure sP where
 i:Nat
 f:Str
 g:Str
 y:Str
inductive Ev
 | new (n:Nat) (x:Str)
 | leg (v:sP)
 | asks (i:Nat) (z:Str) (ns:List Nat)
 | next (z:Str) (n:Int)
 | merge (i j:Nat) (ms:QQQ)
 | turn
 | sw (b:Bool) (i:Nat)
 | rings (i:Nat) (ps:QQQ)
 | quiet (i:Nat)
 | waits (i:Nat) (x:Str)
 | talks (i:Nat) (ms:QQQ)
 | held (i:Nat) (x:Str)
 | leaves (i:Nat) (x:Str)
 | over (i:Nat) (w:Str)
structure qB where
 p:Uf
 h:Int
 t:Int
 calls:List pP
 nk:List sP
 ps:List (Str×Int)
 on:List Bool
 log:List Ev
 fo:QXQ
noncomputable def vG(ns:T0 Nat):D:=.tup (ns.map λn=>D.int (n:Nat))
noncomputable def sP.d(v:sP):D:=.tup [.int (v.i:Nat),.str v.f,.str v.g,.str v.y]
noncomputable def Vn(b:Bool):Str:=if b=pc then "on" else "off"
def Ev.d:Ev->D
 | .new n x=>.tup [.str "new",.int (n:Nat),.str x]
 | .leg v=>.tup [.str "leg",.int (v.i:Nat),.str v.f,.str v.g,.str v.y]
 | .asks i z ns=>.tup [.str "asks",.int (i:Nat),.str z,vG ns]
 | .next z n=>.tup [.str "next",.str z,.int n]
 | .merge i j ms=>.tup [.str "merge",.int (i:Nat),.int (j:Nat),names ms]
 | .turn=>.tup [.str "turn"]
 | .sw b i=>.tup [.str (Vn b),.int (i:Nat)]
 | .rings i ps=>.tup [.str "rings",.int (i:Nat),names ps]
 | .quiet i=>.tup [.str "quiet",.int (i:Nat)]
 | .waits i x=>.tup [.str "waits",.int (i:Nat),.str x]
 | .talks i ms=>.tup [.str "talks",.int (i:Nat),names ms]
 | .held i x=>.tup [.str "held",.int (i:Nat),.str x]
 | .leaves i x=>.tup [.str "leaves",.int (i:Nat),.str x]
 | .over i w=>.tup [.str "over",.int (i:Nat),.str w]
noncomputable def hasS(ss:QQQ)(x:Str):Bool:=ss.any (·==x)
noncomputable def rZ(ss:QQQ)(x:Str):QQQ:=ss.filter λy=>!(y==x)
noncomputable def zB(x:Str):pP:=⟨"rings",x,[],[],[],Db,0,Db⟩
noncomputable def pP.over(c:pP)(w:Str):pP:={c with st:="over",wd:=some w,at_:=[],ms:=[],hd:=none}
def pP.drop(c:pP)(x:Str):pP:={c with at_:=rZ c.at_ x,ms:=rZ c.ms x}
noncomputable def pP.ring(c:pP)(ps:QQQ):pP:={c with st:="rings",at_:=ps,si:=0}
noncomputable def pP.nS(c:pP)(ms:QQQ):pP:={c with st:="talks",ms:=ms,at_:=[],hd:=none}
noncomputable def pP.wait(c:pP)(x:Str):pP:={c with st:="waits",at_:=[x]}
noncomputable def pP.hold(c:pP)(x:Str):pP:={c with st:="held",hd:=some x}
noncomputable def pP.nL(c:pP):pP:={c with at_:=[]}
noncomputable def pP.mem(c:pP)(ms:QQQ):pP:={c with ms:=ms}
noncomputable def pP.go(c:pP)(g:Str):pP:={c with way:=c.way++[g]}
noncomputable def pP.tick(c:pP):pP:=if (c.st=="rings")=pc then{c with si:=c.si+1}else c
noncomputable def sP.to(m k:Nat)(v:sP):sP:=if v.i=m then{v with i:=k}else v
noncomputable def FD(ps:T0 (Str×Int))(z:Str)(n:Int):T0 (Str×Int):=if ps.any (λp=>decide (p.1=z))=pc then ps.map (λp=>if p.1=z then(p.1,n)else p)else ps++[(z,n)]
noncomputable def yi(V:qB)(i:Nat)(f:pP->pP):qB:={V with calls:=V.calls.modify i f}
noncomputable def rj(V:qB)(e:Ev):qB:={V with log:=V.log++[e]}
def Vb(V:qB):Ev->qB
 | .new _ x=>{V with calls:=V.calls++[zB x]}
 | .leg v=>{V with nk:=V.nk++[v],calls:=V.calls.modify v.i (·.go v.g)}
 | .asks _ _ _=>V
 | .next z n=>{V with ps:=FD V.ps z n}
 | .merge i j ms=>{V with calls:=(V.calls.modify i (·.over "merged")).modify j (·.mem ms),nk:=V.nk.map (sP.to i j)}
 | .turn=>{V with t:=V.t+1,calls:=V.calls.map pP.tick}
 | .sw b i=>{V with on:=V.on.set i b}
 | .rings i ps=>yi V i (·.ring ps)
 | .quiet i=>yi V i pP.nL
 | .waits i x=>yi V i (·.wait x)
 | .talks i ms=>yi V i (·.nS ms)
 | .held i x=>yi V i (·.hold x)
 | .leaves i x=>yi V i (·.drop x)
 | .over i w=>yi V i (·.over w)
def qp(V:qB)(e:Ev):qB:=Vb (rj V e) e
def qI(V:qB)(es:T0 Ev):qB:=es.foldl qp V
def Ev.ok(V:qB):Ev->Prop
 | .new _ _=>True
 | .leg v=>v.i<V.calls.length
 | .asks _ _ _=>True
 | .next _ _=>True
 | .merge i j ms=>i<V.calls.length/\j<V.calls.length/\i≠j/\ms.length<=100
 | .turn=>True
 | .sw _ i=>i<V.on.length
 | .rings i ps=>i<V.calls.length/\ps.length<=100
 | .quiet i=>i<V.calls.length
 | .waits i _=>i<V.calls.length
 | .talks i ms=>i<V.calls.length/\ms.length<=100
 | .held i _=>i<V.calls.length
 | .leaves i _=>i<V.calls.length
 | .over i _=>i<V.calls.length
def Cr:qB->T0 Ev->Prop
 | _,[]=>True
 | V,e::r=>e.ok V/\Cr (qp V e) r
def sI(V:qB)(es fs:T0 Ev):qI V (es++fs)=qI (qI V es) fs:=lM ..
theorem yG:∀{V:qB} {es fs:T0 Ev},Cr V es->Cr (qI V es) fs->Cr V (es++fs)
 | _,[],_,_,h=>h
 | _,_::_,_,h,g=>⟨h.1,yG h.2 g⟩
theorem Gh:∀(es:T0 Ev) (V:qB),(qI V es).log=V.log++es
 | [],V=>(eN _).symm
 | e::r,V=>by
  show(qI (qp V e) r).log=_;rw[Gh r];have:(qp V e).log=V.log++[e]:=by cases e<;>rfl
  rw[this,eM];rfl
def pP.ni(c:pP)(x:Str):Bool:=(c.st=="talks")&&hasS c.ms x
def pP.hasB(c:pP)(x:Str):Bool:=if (c.st=="rings")=pc then(x==c.cr)||hasS c.at_ x else if (c.st=="waits")=pc then x==c.cr else(c.st=="talks"||c.st=="held")&&hasS c.ms x
def pP.nC(c:pP)(x:Str):Bool:=if (c.st=="held")=pc then hasS c.ms x&&!((c.hd==Fa x))else c.ni x
noncomputable def pP.nj(c:pP)(x:Str):Bool:=(c.st=="rings"||c.st=="waits")&&(x==c.cr)
def pP.m8(c:pP)(x:Str):Bool:=(c.st=="waits")&&hasS c.at_ x
def pP.nQ(c:pP)(x:Str):Bool:=c.nj x||(hasS c.at_ x||hasS c.ms x)
noncomputable def pP.nq(c:pP)(x:Str):Bool:=c.ni x&&(c.ms.length==2)
noncomputable def vF(V:qB)(x:Str):Nat:=(V.calls.filter (·.hasB x)).length
noncomputable def xt(l:pU)(x:Str):Int:=(l.nB x).elim 0 λv=>v.2.1
noncomputable def wI(l:pU)(x:Str):Int:=(l.nB x).elim 0 λv=>v.2.2
def uB(l:pU)(V:qB)(x:Str):Bool:=decide ((vF V x:Int)<xt l x)
def vb(l:pU)(V:qB)(c z:Str):QQQ:=(l.mS z).filter λx=>!(x==c)&&uB l V x
def x8(l:pU)(V:qB)(c z:Str):Bool:=(vb l V c z).isEmpty
noncomputable def ux(V:qB)(x:Str):Option Nat:=V.calls.findIdx? (·.ni x)
noncomputable def FT(V:qB)(x:Str):Option Nat:=V.calls.findIdx? (·.nC x)
noncomputable def Jv(V:qB)(x:Str):Option Nat:=V.calls.findIdx? (·.nj x)
noncomputable def Bc(V:qB)(x:Str):Bool:=V.calls.any (·.m8 x)
noncomputable def O5:Option Nat->D
 | none=>.mY
 | some j=>.int (j:Nat)
noncomputable def E6(f l h:Int):Bool:=if f<l then decide (f<=h)&&decide (h<l)else decide (h>=f)||decide (h<l)
def HG(l:pU)(x:Str)(ms:QQQ):Bool:=ms.all λm=>decide (wI l m<wI l x)
def HR(l:pU)(V:qB)(x c z:Str):Bool:=if (!(c==x)||(z==x))=pc then lf else if (!(hasS l.pn z)||!(x8 l V c z))=pc then lf else((ux V z).bind (V.calls[·]?)).elim lf λk=>(k.ms.length==2)&&HG l x k.ms
def Ap(l:pU)(V:qB)(c z:Str):Wi->Bool
 | .bar x ns=>(c==x)&&hasS ns z
 | .shut x ns=>(z==x)&&hasS ns c
 | .always x _=>z==x
 | .night x _ f m=>(z==x)&&E6 f m ((V.h+V.t) % 24)
 | .busy x _=>(z==x)&&x8 l V c z
 | .silent _ _ _=>lf
 | .wait x=>if (!(z==x)||(c==x))=pc then lf else x8 l V c z&&!(Bc V z)
 | .breaks x=>HR l V x c z
noncomputable def w9(c:pP):Wi->Bool
 | .silent x _ n=>(c.way.getLast?==Fa x)&&decide (n<=c.si)
 | _=>lf
noncomputable def BM(l:pU)(V:qB)(f:Wi->Bool):T0 Nat:=(List.range V.on.length).filter λi=>V.on.getD i lf&&(l.mT[i]?).elim lf λw=>f w.2
def zO(l:pU)(V:qB)(c z:Str):T0 Nat:=BM l V (Ap l V c z)
noncomputable def vI(ms:QQQ)(n:Nat):QQQ:=ms.drop n++ms.take n
noncomputable def Al(V:qB)(z:Str):Nat:=((V.ps.find? λp=>decide (p.1=z)).elim 0 λp=>p.2).toNat
def xY(l:pU)(V:qB)(c z:Str):QQQ:=if (l.m7 z=="turns")=pc then((vI (l.mS z) (Al V z)).filter λx=>hasS (vb l V c z) x).take 1 else vb l V c z
inductive vM
 | engaged (z:Str)
 | rings (z:Str) (ps:QQQ)
 | waits (z:Str)
 | breaks (z:Str)
 | barred
 | ring (ns:QQQ)
noncomputable def vM.d:vM->D
 | .engaged z=>.tup [.str "engaged",.str z]
 | .rings z ps=>.tup [.str "rings",.str z,names ps]
 | .waits z=>.tup [.str "waits",.str z]
 | .breaks z=>.tup [.str "breaks",.str z]
 | .barred=>.tup [.str "barred"]
 | .ring ns=>.tup [.str "ring",names ns]
def HH(l:pU)(V:qB)(c z:Str):vM:=match xY l V c z with
 | []=>.engaged z
 | x::r=>.rings z (x::r)
noncomputable def JP(z:Str):Wi->Sum vM Str
 | .bar _ _=>.inl .barred
 | .shut _ _=>.inl .barred
 | .always _ y=>.inr y
 | .night _ y _ _=>.inr y
 | .busy _ y=>.inr y
 | .silent _ y _=>.inr y
 | .wait _=>.inl (.waits z)
 | .breaks _=>.inl (.breaks z)
abbrev sO:=T0 (Str×T0 Nat)
def vw(l:pU)(V:qB)(c:Str):Nat->Str->QQQ->sO->vM×sO
 | 0,_,_,st=>(.barred,st)
 | n+1,z,way,st=>if hasS way z=pc then(.ring (way.drop (way.findIdx (·==z))),st)else
  match zO l V c z with
  | []=>(HH l V c z,st++[(z,[])])
  | i::r=>(l.mT[i]?).elim (.barred,st) λw=>match JP z w.2 with
   | .inl e=>(e,st++[(z,i::r)])
   | .inr y=>vw l V c n y (way++[z]) (st++[(z,i::r)])
def tM(l:pU)(V:qB)(c z:Str)(way:QQQ):vM×sO:=vw l V c (l.nm.length+1) z way []
noncomputable def qY(i:Nat):Option Str->sO->T0 Ev
 | _,[]=>[]
 | none,(z,fs)::r=>.asks i z fs::qY i (Fa z) r
 | some y,(z,fs)::r=>.leg ⟨i,y,z,y⟩::.asks i z fs::qY i (Fa z) r
noncomputable def RB(ms:QQQ)(x:Str):Int:=((ms.findIdx (·==x):Nat)+1) % (ms.length:Int)
def sF(l:pU)(V:qB)(i:Nat):vM->T0 Ev
 | .rings z ps=>(if (l.m7 z=="turns")=pc then[.next z (RB (l.mS z) (ps.headD Str.empty))]else[])++[.rings i ps]
 | .waits z=>[.waits i z]
 | .breaks z=>match ux V z,V.calls[i]? with
  | some j,Fa c=>[.merge i j ((V.calls[j]?).elim [] (·.ms)++[c.cr])]
  | _,_=>[]
 | .engaged _=>[.over i "engaged"]
 | .barred=>[.over i "barred"]
 | .ring _=>[.over i "ring"]
noncomputable def sm(i:Nat)(st:sO):vM->T0 Ev
 | .ring ns=>(st.getLast?).elim [] λs=>[.leg ⟨i,s.1,ns.headD Str.empty,s.1⟩]
 | _=>[]
def uQ(l:pU)(V:qB)(i:Nat):T0 Ev:=(V.calls[i]?).elim [] λc=>
 let r:=tM l V c.cr (c.way.getLastD Str.empty) c.way.dropLast
 qY i Db r.2++(sm i r.2 r.1++sF l V i r.1)
def yF(l:pU)(V:qB)(y z:Str):T0 Ev:=
 let es:=[Ev.new V.calls.length y,.leg ⟨V.calls.length,y,z,y⟩]
 es++uQ l (qI V es) V.calls.length
def xC(V:qB)(x:Str)(i:Nat):T0 Ev:=(V.calls[i]?).elim [] λc=>if c.nj x=pc then[.over i "left"]else if hasS c.at_ x=pc then .leaves i x::(if rZ c.at_ x=[]then[.over i "refused"]else[])else if 2<c.ms.length then[.leaves i x]else[.over i "done"]
def sr(l:pU)(V:qB)(i:Nat)(fs:T0 Nat):T0 Ev:=match fs.head?.bind (l.mT[·]?)with
 | some (_,.silent x y _)=>
  let es:=[Ev.asks i x fs,.quiet i,.leg ⟨i,x,y,x⟩]
  es++uQ l (qI V es) i
 | _=>[]
def wq(l:pU)(V:qB)(i:Nat):T0 Nat:=(V.calls[i]?).elim [] λc=>if (c.st=="rings")=pc then BM l V (w9 c)else[]
def qD(l:pU):T0 Nat->qB->T0 Ev
 | [],_=>[]
 | i::r,V=>sr l V i (wq l V i)++qD l r (qI V (sr l V i (wq l V i)))
def tR(l:pU)(V:qB):T0 Ev:=.turn::qD l (List.range V.calls.length) (qp V .turn)
inductive uz
 | call (y z:Str)
 | num (w x:Str) (ns:List Int)
 | turn
 | sw (b:Bool) (i:Int)
def uz.d:uz->D
 | .call y z=>.tup [.str "call",.str y,.str z]
 | .num w x ns=>.tup (.str w::.str x::ns.map D.int)
 | .turn=>.tup [.str "turn"]
 | .sw b i=>.tup [.str (Vn b),.int i]
def uz.nI:uz->Prop
 | .num w _ ns=>((w="answer"\/w="hang"\/w="hold"\/w="back")/\ns.length=1)\/((w="hand"\/w="join")/\ns.length=2)
 | _=>True
def vd(V:qB)(x:Str):Option Str:=if (FT V x).isSome=pc then Fa "bound" else if (Jv V x).isSome=pc then Fa "calls" else Db
noncomputable def Au(n:Nat)(i:Int):Bool:=decide (0<=i)&&decide (i<(n:Int))
def Jg(w x:Str):List pP->Bool
 | []=>lf
 | c::r=>if (w=="answer")=pc then hasS c.at_ x else if (w=="hang")=pc then c.nQ x else if (w=="hold")=pc then c.nq x else if (w=="back")=pc then c.hd==Fa x else(c.hd==Fa x)&&(r.head?.elim lf λd=>d.nq x)
noncomputable def ug(V:qB)(ns:T0 Int):List pP:=ns.filterMap λi=>V.calls[i.toNat]?
def Hr(l:pU)(V:qB)(y z:Str):Option Str:=if hasS l.nm z=lf then Fa "name" else if ((vd V y).isNone&&!(uB l V y))=pc then Fa "full" else vd V y
def Mj(l:pU)(V:qB)(w x:Str)(ns:T0 Int):Option Str:=if ns.all (Au V.calls.length)=lf then Fa "call" else if Jg w x (ug V ns)=lf then Fa "call" else if (w=="answer"||w=="back")=lf then Db else
 if ((vd V x).isNone&&((ug V ns).head?.elim lf (λc=>c.m8 x)&&!(uB l V x)))=pc then Fa "full" else vd V x
def QH(V:qB)(b:Bool)(i:Int):Option Str:=if Au V.on.length i=lf then Fa "wish" else if (V.on.getD i.toNat lf==b)=pc then Fa "wish" else Db
def yS(l:pU)(V:qB):uz->Option Str
 | .turn=>Db
 | .sw b i=>QH V b i
 | .call y z=>if hasS l.pn y=lf then Fa "name" else Hr l V y z
 | .num w x ns=>if hasS l.pn x=lf then Fa "name" else Mj l V w x ns
def qS(c:pP)(x:Str):Str:=(rZ c.ms x).headD Str.empty
noncomputable def Fz(V:qB)(w x:Str)(i:Nat):Ev:=(V.calls[i]?).elim .turn λc=>if (w=="answer")=pc then .talks i [c.cr,x]else if (w=="hold")=pc then .held i x else .talks i c.ms
def G5(V:qB)(w x:Str)(i j:Nat):Ev:=(V.calls[i]?).elim .turn λc=>(V.calls[j]?).elim .turn λd=>.merge i j (if (w=="hand")=pc then[qS c x,qS d x]else[x,qS c x,qS d x])
def uc(l:pU)(V:qB):uz->T0 Ev
 | .call y z=>yF l V y z
 | .num w x [i]=>if (w=="hang")=pc then xC V x i.toNat else[Fz V w x i.toNat]
 | .num w x [i,j]=>[G5 V w x i.toNat j.toNat]
 | .num _ _ _=>[]
 | .turn=>tR l V
 | .sw b i=>[.sw b i.toNat]
structure rS where
 p:Uf
 wy:Uf
structure sA where
 b:Uf
 ca:Uf
 le:Uf
 nx:Uf
 on:Uf
 lo:Uf
 cs:List rS
noncomputable def Hc:Option Str->D
 | none=>.mY
 | some x=>.str x
def rQ(c:pP)(wy ad md:Uf):T0 (Str×D):=[("state",.str c.st),("caller",.str c.cr),("way",.ref wy),("at",.ref ad),("members",.ref md),("holder",Hc c.hd),("since",.int c.si),("word",Hc c.wd)]
noncomputable def um(p:D)(h t:Int)(ca le nx on lo:Uf):T0 (Str×D):=[("plan",p),("hour",.int h),("turn",.int t),("calls",.ref ca),("legs",.ref le),("nexts",.ref nx),("on",.ref on),("log",.ref lo)]
noncomputable def ua(ps:T0 (Str×Int)):T0 (rP×D):=ps.map λp=>((Sum.inr p.1:rP),D.int p.2)
noncomputable def sA.lists(A:sA):QXQ:=A.ca::A.le::A.on::A.lo::A.cs.map (·.wy)
noncomputable def sA.foot(A:sA):QXQ:=A.b::A.nx::(A.lists++A.cs.map (·.p))
def sv(a:Ad)(M:Mp)(L:QXQ)(k:rS)(c:pP):Prop:=CP λad md=>M k.p=Fa (.ins a.e (rQ c k.wy ad md))/\pq M k.wy=Fa (c.way.map D.str)/\pq M ad=Fa (c.at_.map D.str)/\pq M md=Fa (c.ms.map D.str)/\ad∉L/\md∉L
structure qa(a:Ad)(M:Mp)(A:sA)(V:qB):Prop where
 at_:M A.b=Fa (.ins a.c (um (.ref V.p) V.h V.t A.ca A.le A.nx A.on A.lo))
 ca:pq M A.ca=Fa (A.cs.map λk=>D.ref k.p)
 le:pq M A.le=Fa (V.nk.map sP.d)
 nx:Aw M A.nx=Fa (ua V.ps)
 on:pq M A.on=Fa (V.on.map D.bl)
 lo:pq M A.lo=Fa (V.log.map Ev.d)
 len:A.cs.length=V.calls.length
 cs:∀(i:Nat) k c,A.cs[i]?=Fa k->V.calls[i]?=Fa c->sv a M (A.lists++V.fo) k c
 nl:A.lists.Nodup
 np:(A.b::A.cs.map (·.p)).Nodup
 fo:∀x∈V.fo,∃c,M x=Fa c
def xK{F:QXQ}{M:Mp}{p:Uf}{c:uG}(h:∀x∈F,∃c,M x=Fa c):∀x∈F,∃d,pT M p c x=Fa d:=λx hx=>by
 by_cases z:x=p
 .exact⟨c,by rw[z];exact qh⟩
 .obtain⟨d,e⟩:=h x hx;exact⟨d,sy.put x d z e⟩
def sv.sub{k:rS}{c:pP}(h:sv a M L k c)(s:qJ M M'):sv a M' L k c:=by obtain⟨ad,md,h1,h2,h3,h4,h5⟩:=h;exact⟨ad,md,s _ _ h1,s.lst h2,s.lst h3,s.lst h4,h5⟩
def qa.sub{A:sA}{V:qB}(h:qa a M A V)(s:qJ M M'):qa a M' A V:=⟨s _ _ h.at_,s.lst h.ca,s.lst h.le,s.dk h.nx,s.lst h.on,s.lst h.lo,h.len,λi k c e1 e2=>(h.cs i k c e1 e2).sub s,h.nl,h.np,λx hx=>(h.fo x hx).imp λc e=>s x c e⟩
def sv.oi{k:rS}{c:pP}{x:Uf}{ds:T0 D}(h:sv a M L k c)(kp:sy x M M')(hl:pq M x=Fa ds)(hx:x∈L)(hn:k.wy≠x):sv a M' L k c:=by obtain⟨ad,md,h1,h2,h3,h4,h5,h6⟩:=h;exact⟨ad,md,kp _ _ (λz=>by rw[z,ql hl]at h1;cases h1) h1,kp.lst hn h2,kp.lst (λz=>h5 (z ▸ hx)) h3,kp.lst (λz=>h6 (z ▸ hx)) h4,h5,h6⟩
def sv.ow{k:rS}{c:pP}{x C:Uf}{fs:T0 (Str×D)}(h:sv a M L k c)(kp:sy x M M')(hi:M x=Fa (.ins C fs))(hn:k.p≠x):sv a M' L k c:=by obtain⟨ad,md,h1,h2,h3,h4,h5⟩:=h;exact⟨ad,md,kp _ _ hn h1,kp.lst (qr h2 hi) h2,kp.lst (qr h3 hi) h3,kp.lst (qr h4 hi) h4,h5⟩
def vB{a p:Uf}{ds:T0 (rP×D)}{es:T0 D}(h:Aw M a=Fa ds)(hp:pq M p=Fa es):a≠p:=λz=>by subst z;unfold Aw at h;rw[ql hp]at h;cases h
def sv.pk{k:rS}{c:pP}{x:Uf}{ds:T0 (rP×D)}(h:sv a M L k c)(kp:sy x M M')(hd:Aw M x=Fa ds):sv a M' L k c:=by obtain⟨ad,md,h1,h2,h3,h4,h5⟩:=h;exact⟨ad,md,kp _ _ (λz=>by rw[z,yL hd]at h1;cases h1) h1,kp.lst (dS (vB hd h2)) h2,kp.lst (dS (vB hd h3)) h3,kp.lst (dS (vB hd h4)) h4,h5⟩
def qV{α:Type}{l:List α}{i:Nat}{x:α}(h:l[i]?=Fa x):x∈l:=gb h
def qa.ne{A:sA}{V:qB}(h:qa a M A V):A.ca≠A.le/\A.ca≠A.on/\A.ca≠A.lo/\A.le≠A.on/\A.le≠A.lo/\A.on≠A.lo/\∀k∈A.cs,k.wy≠A.ca/\k.wy≠A.le/\k.wy≠A.on/\k.wy≠A.lo:=by
 have n:=h.nl;unfold sA.lists at n;obtain⟨n1,n⟩:=dW.mp n;obtain⟨n2,n⟩:=dW.mp n;obtain⟨n3,n⟩:=dW.mp n;obtain⟨n4,n⟩:=dW.mp n;have w:∀k∈A.cs,k.wy∈A.cs.map (·.wy):=λk hk=>dF.mpr ⟨k,hk,Z'⟩;refine⟨λz=>n1 (z ▸ by simp),λz=>n1 (z ▸ by simp),λz=>n1 (z ▸ by simp),λz=>n2 (z ▸ by simp),λz=>n2 (z ▸ by simp),λz=>n3 (z ▸ by simp),λk hk=>⟨λz=>n1 ?_,λz=>n2 ?_,λz=>n3 ?_,λz=>n4 ?_⟩⟩
 .rw[<-z];exact dE _ (dE _ (dE _ (w k hk)))
 .rw[<-z];exact dE _ (dE _ (w k hk))
 .rw[<-z];exact dE _ (w k hk)
 .rw[<-z];exact w k hk
def qa.oB{A:sA}{V:qB}(_:qa a M A V):A.ca∈A.lists/\A.le∈A.lists/\A.lo∈A.lists/\(∀k∈A.cs,k.wy∈A.lists)/\A.on∈A.lists:=by unfold sA.lists;refine⟨by simp,by simp,by simp,?_,by simp⟩;exact λk hk=>by simp;exact .inr (.inr (.inr (.inr ⟨k,hk,Z'⟩)))
def qa.pA{A:sA}{V:qB}(h:qa a M A V):A.ca∈A.lists++V.fo/\A.le∈A.lists++V.fo/\A.lo∈A.lists++V.fo/\(∀k∈A.cs,k.wy∈A.lists++V.fo)/\A.on∈A.lists++V.fo:=by obtain⟨h1,h2,h3,h4,h5⟩:=h.oB;exact⟨eP _ h1,eP _ h2,eP _ h3,λk hk=>eP _ (h4 k hk),eP _ h5⟩
def rh(A:sA)(M:Mp)(A':sA)(M':Mp):Prop:=(∀x c,x∉A.foot->M x=Fa c->M' x=Fa c)/\(∀x∈A'.foot,x∈A.foot\/M x=Db)/\(∀(i:Nat) k,A.cs[i]?=Fa k->A'.cs[i]?=Fa k)/\∀x c,M x=Fa c->∃d,M' x=Fa d
def B1{M:Mp}{p y:Uf}{c d:uG}(h:M y=Fa d):∃e,pT M p c y=Fa e:=by
 by_cases z:y=p
 .exact⟨c,by rw[z];exact qh⟩
 .exact⟨d,sy.put y d z h⟩
def rh.refl{A:sA}:rh A M A M:=⟨λ_ _ _ h=>h,λ_ h=>.inl h,λ_ _ h=>h,λ_ c h=>⟨c,h⟩⟩
def rh.trans{A A1 A2:sA}{M M1 M2:Mp}(s:rh A M A1 M1)(u:rh A1 M1 A2 M2):rh A M A2 M2:=by
 refine⟨λx c n h=>u.1 x c (λz=>?_) (s.1 x c n h),λx hx=>?_,λi k h=>u.2.2.1 i k (s.2.2.1 i k h),λx c h=>(s.2.2.2 x c h).elim λd e=>u.2.2.2 x d e⟩
 .rcases s.2.1 x z with y|y
  .exact n y
  .rw[y]at h;cases h
 .rcases u.2.1 x hx with z|z
  .exact s.2.1 x z
  .by_cases y:x∈A.foot
   .exact .inl y
   .refine .inr ?_;cases e:M x with
    | none=>rfl
    | some c=>rw[s.1 x c y e]at z;cases z
def rh.keep{A:sA}{x:Uf}{c:uG}(h:x∈A.foot)(k:sy x M (pT M x c)):rh A M A (pT M x c):=⟨λy c n e=>k y c (λz=>n (z ▸ h)) e,λ_ h=>.inl h,λ_ _ h=>h,λ_ _ h=>B1 h⟩
def rh.sub{A:sA}(s:qJ M M'):rh A M A M':=⟨λy c _ e=>s y c e,λ_ h=>.inl h,λ_ _ h=>h,λx c h=>⟨c,s x c h⟩⟩
def sA.ng(A:sA):A.b∈A.foot/\A.nx∈A.foot/\A.ca∈A.foot/\A.le∈A.foot/\A.lo∈A.foot/\(∀k∈A.cs,k.p∈A.foot)/\∀k∈A.cs,k.wy∈A.foot:=by unfold sA.foot sA.lists;exact⟨by simp,by simp,by simp,by simp,by simp,λk hk=>by simp;exact .inr (.inr (.inr (.inr (.inr (.inr (.inr ⟨k,hk,Z'⟩)))))),λk hk=>by simp;exact .inr (.inr (.inr (.inr (.inr (.inr (.inl ⟨k,hk,Z'⟩))))))⟩
def sA.nV(A:sA){x:Uf}(h:x∈A.lists):x∈A.foot:=by unfold sA.foot;exact dE _ (dE _ (dU.mpr (.inl h)))
variable {M M1:Mp}{A:sA}{V:qB}
def Fd{α:Type}{l:List α}{i j:Nat}{x y:α}(h:(l.set i x)[j]?=Fa y):(j=i/\y=x/\i<l.length)\/(j≠i/\l[j]?=Fa y):=by
 by_cases z:j=i
 .subst z;by_cases hl:j<l.length
  .rw[eO hl]at h;exact .inl ⟨Z',(dv h).symm,hl⟩
  .rw[gN (by rw[iy];lia)]at h;cases h
 .rw[eX (dS z)]at h;exact .inr ⟨z,h⟩
def Mo{α β:Type}{f:α->β}{l:List α}{i j:Nat}{x y:α}(nd:(l.map f).Nodup)(h1:l[i]?=Fa x)(h2:l[j]?=Fa y)(e:f x=f y):i=j:=by
 have e1:(l.map f)[i]?=Fa (f x):=by rw[dz,h1];rfl
 have e2:(l.map f)[j]?=Fa (f y):=by rw[dz,h2];rfl
 obtain⟨l1,q1⟩:=cY.mp e1;obtain⟨l2,q2⟩:=cY.mp e2;exact(lW nd).mp (q1.trans (e.trans q2.symm))
def qa.nw(h:qa a M A V):(A.cs.map (·.wy)).Nodup:=(dW.mp (dW.mp (dW.mp (dW.mp h.nl).2).2).2).2
def qa.pj(h:qa a M A V):(A.cs.map (·.p)).Nodup/\∀k∈A.cs,k.p≠A.b:=⟨(dW.mp h.np).2,λk hk z=>(dW.mp h.np).1 (z ▸ dF.mpr ⟨k,hk,Z'⟩)⟩
def qa.oW(h:qa a M A V){es:T0 Ev}:qa a (pT M A.lo (.lst (es.map Ev.d))) A {V with log:=es}/\rh A M A (pT M A.lo (.lst (es.map Ev.d))):=by have kp:sy A.lo M (pT M A.lo (.lst (es.map Ev.d))):=.put;obtain⟨n1,n2,n3,n4,n5,n6,nw⟩:=h.ne;exact⟨⟨kp _ _ (dS (qr h.lo h.at_)) h.at_,kp.lst n3 h.ca,kp.lst n5 h.le,kp.dk (vB h.nx h.lo) h.nx,kp.lst n6 h.on,pR,h.len,λi k c e1 e2=>(h.cs i k c e1 e2).oi kp h.lo h.pA.2.2.1 (nw k (qV e1)).2.2.2,h.nl,h.np,xK h.fo⟩,.keep A.ng.2.2.2.2.1 kp⟩
def qa.oS(h:qa a M A V){es:List sP}:qa a (pT M A.le (.lst (es.map sP.d))) A {V with nk:=es}/\rh A M A (pT M A.le (.lst (es.map sP.d))):=by have kp:sy A.le M (pT M A.le (.lst (es.map sP.d))):=.put;obtain⟨n1,n2,n3,n4,n5,n6,nw⟩:=h.ne;exact⟨⟨kp _ _ (dS (qr h.le h.at_)) h.at_,kp.lst n1 h.ca,pR,kp.dk (vB h.nx h.le) h.nx,kp.lst (dS n4) h.on,kp.lst (dS n5) h.lo,h.len,λi k c e1 e2=>(h.cs i k c e1 e2).oi kp h.le h.pA.2.1 (nw k (qV e1)).2.1,h.nl,h.np,xK h.fo⟩,.keep A.ng.2.2.2.1 kp⟩
def qa.pB(h:qa a M A V){bs:T0 Bool}:qa a (pT M A.on (.lst (bs.map D.bl))) A {V with on:=bs}/\rh A M A (pT M A.on (.lst (bs.map D.bl))):=by have kp:sy A.on M (pT M A.on (.lst (bs.map D.bl))):=.put;obtain⟨n1,n2,n3,n4,n5,n6,nw⟩:=h.ne;exact⟨⟨kp _ _ (dS (qr h.on h.at_)) h.at_,kp.lst n2 h.ca,kp.lst n4 h.le,kp.dk (vB h.nx h.on) h.nx,pR,kp.lst (dS n6) h.lo,h.len,λi k c e1 e2=>(h.cs i k c e1 e2).oi kp h.on h.pA.2.2.2.2 (nw k (qV e1)).2.2.1,h.nl,h.np,xK h.fo⟩,.keep (A.nV h.oB.2.2.2.2) kp⟩
def qa.pC(h:qa a M A V){ps:T0 (Str×Int)}:qa a (pT M A.nx (.dk (ua ps))) A {V with ps:=ps}/\rh A M A (pT M A.nx (.dk (ua ps))):=by have kp:sy A.nx M (pT M A.nx (.dk (ua ps))):=.put;exact⟨⟨kp _ _ (dS (CB h.nx h.at_)) h.at_,kp.lst (dS (vB h.nx h.ca)) h.ca,kp.lst (dS (vB h.nx h.le)) h.le,Du qh,kp.lst (dS (vB h.nx h.on)) h.on,kp.lst (dS (vB h.nx h.lo)) h.lo,h.len,λi k c e1 e2=>(h.cs i k c e1 e2).pk kp h.nx,h.nl,h.np,xK h.fo⟩,.keep A.ng.2.1 kp⟩
def qa.putT(h:qa a M A V){t:Int}:qa a (pT M A.b (.ins a.c (um (.ref V.p) V.h t A.ca A.le A.nx A.on A.lo))) A {V with t:=t}/\rh A M A (pT M A.b (.ins a.c (um (.ref V.p) V.h t A.ca A.le A.nx A.on A.lo))):=by have kp:sy A.b M (pT M A.b (.ins a.c (um (.ref V.p) V.h t A.ca A.le A.nx A.on A.lo))):=.put;exact⟨⟨qh,kp.lst (qr h.ca h.at_) h.ca,kp.lst (qr h.le h.at_) h.le,kp.dk (CB h.nx h.at_) h.nx,kp.lst (qr h.on h.at_) h.on,kp.lst (qr h.lo h.at_) h.lo,h.len,λi k c e1 e2=>(h.cs i k c e1 e2).ow kp h.at_ (h.pj.2 k (qV e1)),h.nl,h.np,xK h.fo⟩,.keep A.ng.1 kp⟩
def qa.oE(h:qa a M A V){i:Nat}{k:rS}{c c':pP}{ad md:Uf}(e1:A.cs[i]?=Fa k)(e2:V.calls[i]?=Fa c)(ew:c'.way=c.way)(la:pq M ad=Fa (c'.at_.map D.str))(lm:pq M md=Fa (c'.ms.map D.str))(na:ad∉A.lists++V.fo)(nm:md∉A.lists++V.fo):
  qa a (pT M k.p (.ins a.e (rQ c' k.wy ad md))) A {V with calls:=V.calls.set i c'}/\rh A M A (pT M k.p (.ins a.e (rQ c' k.wy ad md))):=by
 have kp:sy k.p M (pT M k.p (.ins a.e (rQ c' k.wy ad md))):=.put;obtain⟨_,_,h1,h2,_⟩:=h.cs i k c e1 e2;refine⟨⟨kp _ _ (dS (h.pj.2 k (qV e1))) h.at_,kp.lst (qr h.ca h1) h.ca,kp.lst (qr h.le h1) h.le,kp.dk (CB h.nx h1) h.nx,kp.lst (qr h.on h1) h.on,kp.lst (qr h.lo h1) h.lo,by rw[h.len,iy],λj k' d f1 f2=>?_,h.nl,h.np,xK h.fo⟩,.keep (A.ng.2.2.2.2.2.1 k (qV e1)) kp⟩;rcases Fd f2 with⟨rfl,rfl,_⟩|⟨hj,f2⟩
 .rw[e1]at f1;cases f1;exact⟨ad,md,qh,by rw[ew];exact kp.lst (qr h2 h1) h2,kp.lst (qr la h1) la,kp.lst (qr lm h1) lm,na,nm⟩
 .exact(h.cs j k' d f1 f2).ow kp h1 λz=>hj (Mo h.pj.1 f1 e1 z)
def qa.oN(h:qa a M A V){i:Nat}{k:rS}{c:pP}{ws:QQQ}(e1:A.cs[i]?=Fa k)(e2:V.calls[i]?=Fa c):
  qa a (pT M k.wy (.lst (ws.map D.str))) A {V with calls:=V.calls.set i {c with way:=ws}}/\rh A M A (pT M k.wy (.lst (ws.map D.str))):=by
 have kp:sy k.wy M (pT M k.wy (.lst (ws.map D.str))):=.put;obtain⟨ad,md,h1,h2,h3,h4,h5,h6⟩:=h.cs i k c e1 e2;obtain⟨n1,n2,n3,n4,n5,n6,nw⟩:=h.ne;obtain⟨w1,w2,w3,w4⟩:=nw k (qV e1);have kL:=h.pA.2.2.2.1 k (qV e1);refine⟨⟨kp _ _ (dS (qr h2 h.at_)) h.at_,kp.lst (dS w1) h.ca,kp.lst (dS w2) h.le,kp.dk (vB h.nx h2) h.nx,kp.lst (dS w3) h.on,kp.lst (dS w4) h.lo,by rw[h.len,iy],λj k' d f1 f2=>?_,h.nl,h.np,xK h.fo⟩,.keep (A.ng.2.2.2.2.2.2 k (qV e1)) kp⟩;rcases Fd f2 with⟨rfl,rfl,_⟩|⟨hj,f2⟩
 .rw[e1]at f1;cases f1;exact⟨ad,md,kp _ _ (dS (qr h2 h1)) h1,pR,kp.lst (λz=>h5 (z ▸ kL)) h3,kp.lst (λz=>h6 (z ▸ kL)) h4,h5,h6⟩
 .exact(h.cs j k' d f1 f2).oi kp h2 kL λz=>hj (Mo h.nw f1 e1 z)
noncomputable def sA.add(A:sA)(k:rS):sA:={A with cs:=A.cs++[k]}
def A9(A:sA)(k:rS):(A.add k).lists=A.lists++[k.wy]:=by unfold sA.add sA.lists;rw[dM];rfl
def qa.oY(h:qa a M A V):(∀x∈A.lists,∃ds,pq M x=Fa ds)/\∀x∈A.foot,∃c,M x=Fa c:=by
 have hc:∀k∈A.cs,(∃ds,pq M k.wy=Fa ds)/\∃c,M k.p=Fa c:=λk hk=>by
  obtain⟨i,hi,e⟩:=gI hk;have e1:A.cs[i]?=Fa k:=by rw[c9 hi,e]
  have Y2:i<V.calls.length:=by rw[<-h.len];exact hi
  have e2:V.calls[i]?=Fa V.calls[i]:=c9 Y2;obtain⟨ad,md,h1,h2,_⟩:=h.cs i k _ e1 e2;exact⟨⟨_,h2⟩,_,h1⟩
 have hl:∀x∈A.lists,∃ds,pq M x=Fa ds:=λx hx=>by
  unfold sA.lists at hx;simp only[dh,dF]at hx;rcases hx with rfl|rfl|rfl|rfl|⟨k,hk,rfl⟩
  .exact⟨_,h.ca⟩
  .exact⟨_,h.le⟩
  .exact⟨_,h.on⟩
  .exact⟨_,h.lo⟩
  .exact(hc k hk).1
 refine⟨hl,λx hx=>?_⟩;unfold sA.foot at hx;simp only[dh,dU,dF]at hx;rcases hx with rfl|rfl|hx|⟨k,hk,rfl⟩
 .exact⟨_,h.at_⟩
 .exact⟨_,yL h.nx⟩
 .obtain⟨ds,e⟩:=hl x hx;exact⟨_,ql e⟩
 .exact(hc k hk).2
def qa.ou(h:qa a M A V){x:Uf}(hx:M x=Db):x∉A.lists:=λz=>by obtain⟨ds,e⟩:=h.oY.1 x z;have:=ql e;rw[hx]at this;cases this
def qa.nH(h:qa a M A V){x:Uf}(hx:M x=Db):x∉A.lists++V.fo:=λz=>by
 rcases dU.mp z with z|z
 .exact h.ou hx z
 .obtain⟨c,e⟩:=h.fo x z;rw[hx]at e;cases e
def qa.nu(h:qa a M A V){x:Uf}(hx:M x=Db):x∉A.foot:=λz=>by obtain⟨ds,e⟩:=h.oY.2 x z;rw[hx]at e;cases e
def qa.oA(h:qa a M A V)(s:qJ M M1){p wy ad md:Uf}{c:pP}(hp:M p=Db)(hw:M wy=Db)(ha:M ad=Db)(hm:M md=Db)(h1:M1 p=Fa (.ins a.e (rQ c wy ad md)))(h2:pq M1 wy=Fa (c.way.map D.str))(h3:pq M1 ad=Fa (c.at_.map D.str))(h4:pq M1 md=Fa (c.ms.map D.str))(n1:ad≠wy)(n2:md≠wy):
  qa a (pT M1 A.ca (.lst ((A.cs.map λk=>D.ref k.p)++[.ref p]))) (A.add ⟨p,wy⟩) {V with calls:=V.calls++[c]}/\rh A M (A.add ⟨p,wy⟩) (pT M1 A.ca (.lst ((A.cs.map λk=>D.ref k.p)++[.ref p]))):=by
 have h':=h.sub s;have kp:sy A.ca M1 (pT M1 A.ca (.lst ((A.cs.map λk=>D.ref k.p)++[.ref p]))):=.put;obtain⟨m1,m2,m3,m4,m5,m6,nw⟩:=h.ne;have wL:wy∉A.lists:=h.ou hw;have cL:=h.pA.1;have nl':∀x,x∉A.lists++V.fo->x≠wy->x∉(A.add ⟨p,wy⟩).lists++V.fo:=λx h1 h2=>by
  rw[A9,dU,dU,dA]
  rintro ((z|z)|z)
  .exact h1 (eP _ z)
  .exact h2 z
  .exact h1 (eh _ z)
 have old:∀x c,M x=Fa c->x≠wy:=λx c e z=>by rw[z,hw]at e;cases e
 refine⟨⟨kp _ _ (dS (qr h'.ca h'.at_)) h'.at_,?_,kp.lst (dS m1) h'.le,kp.dk (vB h'.nx h'.ca) h'.nx,kp.lst (dS m2) h'.on,kp.lst (dS m3) h'.lo,?_,λi k d e1 e2=>?_,?_,?_,xK h'.fo⟩,λx d n e=>kp x d (λz=>n (z ▸ A.ng.2.2.1)) (s x d e),λx hx=>?_,λi k e=>by show(A.cs++[(⟨p,wy⟩:rS)])[i]?=Fa k;rw[fk (cY.mp e).1];exact e,λx d e=>B1 (s x d e)⟩
 .show pq _ A.ca=Fa ((A.cs++[(⟨p,wy⟩:rS)]).map λk=>D.ref k.p);rw[dM];exact pR
 .show(A.cs++[(⟨p,wy⟩:rS)]).length=(V.calls++[c]).length;rw[cZ,cZ,h.len];rfl
 .have e1:(A.cs++[(⟨p,wy⟩:rS)])[i]?=Fa k:=e1;have e2:(V.calls++[c])[i]?=Fa d:=e2;by_cases hi:i<A.cs.length
  .rw[fk hi]at e1;rw[fk (by rw[<-h.len];exact hi)]at e2;obtain⟨ad',md',g1,g2,g3,g4,g5,g6⟩:=(h.cs i k d e1 e2);refine⟨ad',md',kp _ _ (λz=>by have:=s _ _ g1;rw[z,ql h'.ca]at this;cases this) (s _ _ g1),kp.lst (nw k (qV e1)).1 (s.lst g2),kp.lst (λz=>g5 (z ▸ cL)) (s.lst g3),kp.lst (λz=>g6 (z ▸ cL)) (s.lst g4),nl' _ g5 (old _ _ (ql g3)),nl' _ g6 (old _ _ (ql g4))⟩
  .have ZP:i=A.cs.length:=by have:=(cY.mp e1).1;rw[cZ,dQ]at this;lia
   subst ZP;rw[fi (dw _)]at e1;rw[h.len,fi (dw _)]at e2;simp only[ik,iJ,jy]at e1 e2;subst e1 e2;have q1:p≠A.ca:=λz=>by rw[z,ql h'.ca]at h1;cases h1
   have q2:wy≠A.ca:=λz=>wL (z ▸ h.oB.1);exact⟨ad,md,kp p _ q1 h1,kp.lst (a:=wy) q2 h2,kp.lst (λz=>h.nH ha (z ▸ cL)) h3,kp.lst (λz=>h.nH hm (z ▸ cL)) h4,nl' _ (h.nH ha) n1,nl' _ (h.nH hm) n2⟩
 .rw[A9];refine gf.mpr ⟨h.nl,dW.mpr ⟨dG,eK⟩,λx hx y hy=>?_⟩;rw[dA]at hy;subst hy;exact λz=>wL (z ▸ hx)
 .show(A.b::(A.cs++[(⟨p,wy⟩:rS)]).map (·.p)).Nodup;rw[dM,<-List.cons_append];refine gf.mpr ⟨h.np,dW.mpr ⟨dG,eK⟩,λx hx y hy=>?_⟩;rw[dY,iV,dA]at hy;subst hy;refine λz=>h.nu hp (z ▸ ?_);rcases dh.mp hx with y|y
  .rw[y];exact A.ng.1
  .obtain⟨k,hk,rfl⟩:=dF.mp y;exact A.ng.2.2.2.2.2.1 k hk
 .unfold sA.foot at hx;rw[A9]at hx;have hx:x∈A.b::A.nx::(A.lists++[wy]++(A.cs++[(⟨p,wy⟩:rS)]).map (·.p)):=hx;simp only[dh,dU,dM,dY,iV,dG,eZ]at hx;unfold sA.foot;simp only[dh,dU];rcases hx with z|z|(z|z)|(z|z)
  .exact .inl (.inl z)
  .exact .inl (.inr (.inl z))
  .exact .inl (.inr (.inr (.inl z)))
  .exact .inr (by rw[z];exact hw)
  .exact .inl (.inr (.inr (.inr z)))
  .exact .inr (by rw[z];exact hp)
def qa.oV{V:qB}{p:Uf}{es:List sP}(h:qa a M A V)(hp:M p=Db):
  qa a (pT (pT M p (.lst (es.map sP.d))) A.b (.ins a.c (um (.ref V.p) V.h V.t A.ca p A.nx A.on A.lo))) {A with le:=p} {V with nk:=es}/\rh A M {A with le:=p} (pT (pT M p (.lst (es.map sP.d))) A.b (.ins a.c (um (.ref V.p) V.h V.t A.ca p A.nx A.on A.lo))):=by
 have t:=qJ.new (c:=.lst (es.map sP.d)) hp;have lp:=@pR M p (es.map sP.d);have h1:=h.sub t;have np:p∉A.lists:=h.ou hp;have nf:p∉A.foot:=h.nu hp;have old:∀x c,M x=Fa c->x≠p:=λx c e z=>by rw[z,hp]at e;cases e
 generalize pT M p (.lst (es.map sP.d))=M1 at t lp h1 ⊢;have kp:sy A.b M1 (pT M1 A.b (.ins a.c (um (.ref V.p) V.h V.t A.ca p A.nx A.on A.lo))):=.put;have sub:∀x,x∉A.lists++V.fo->x≠p->x∉({A with le:=p}:sA).lists++V.fo:=λx h1 h2 z=>by
  rcases dU.mp z with z|z
  rotate_left
  .exact h1 (eh _ z)
  have h1:x∉A.lists:=λy=>h1 (eP _ y);unfold sA.lists at h1 z;simp only[dh,fN]at h1 z;rcases z with z|z|z|z|z
  .exact h1.1 z
  .exact h2 z
  .exact h1.2.2.1 z
  .exact h1.2.2.2.1 z
  .exact h1.2.2.2.2 z
 refine⟨⟨qh,kp.lst (qr h1.ca h1.at_) h1.ca,kp.lst (qr lp h1.at_) lp,kp.dk (CB h1.nx h1.at_) h1.nx,kp.lst (qr h1.on h1.at_) h1.on,kp.lst (qr h1.lo h1.at_) h1.lo,h.len,λi k c e1 e2=>?_,?_,h.np,xK h1.fo⟩,λx c n e=>kp x c (λz=>n (z ▸ A.ng.1)) (t x c e),λx hx=>?_,λi k e=>e,λx d e=>B1 (t x d e)⟩
 .obtain⟨ad,md,g1,g2,g3,g4,g5,g6⟩:=(h.cs i k c e1 e2);obtain⟨ad',md',f1,f2,f3,f4,f5⟩:=((h.cs i k c e1 e2).sub t).ow kp h1.at_ (h.pj.2 k (qV e1));have q1:=kp _ _ (λz=>h.pj.2 k (qV e1) z) (t _ _ g1);exact⟨ad,md,q1,f2,kp.lst (qr (t.lst g3) h1.at_) (t.lst g3),kp.lst (qr (t.lst g4) h1.at_) (t.lst g4),sub _ g5 (old _ _ (ql g3)),sub _ g6 (old _ _ (ql g4))⟩
 .have n:=h.nl;unfold sA.lists at n np ⊢;simp only[dh,fN]at np;simp only[dW,dh,fN]at n ⊢;exact⟨⟨λz=>np.1 z.symm,n.1.2⟩,⟨np.2.2.1,np.2.2.2.1,np.2.2.2.2⟩,n.2.2⟩
 .by_cases z:x=p
  .exact .inr (z ▸ hp)
  .refine .inl ?_;unfold sA.foot sA.lists at hx ⊢;simp only[dh,dU]at hx ⊢;rcases hx with y|y|(y|y|y|y|y)|y
   .exact .inl y
   .exact .inr (.inl y)
   .exact .inr (.inr (.inl (.inl y)))
   .exact absurd y z
   .exact .inr (.inr (.inl (.inr (.inr (.inl y)))))
   .exact .inr (.inr (.inl (.inr (.inr (.inr (.inl y))))))
   .exact .inr (.inr (.inl (.inr (.inr (.inr (.inr y))))))
   .exact .inr (.inr (.inr y))
def qa.frame{V:qB}(h:qa a M A V)(st:rh A1 M A2 M')(h1:∀x∈A1.foot,x∉A.foot)(h2:∀x∈A1.foot,x∈V.fo\/M x=Db):qa a M' A V:=by
 have hf:∀x∈A.foot,∀c,M x=Fa c->M' x=Fa c:=λx hx c e=>st.1 x c (λz=>h1 x z hx) e;have hl:∀{x:Uf} {ds:T0 D},x∈A.foot->pq M x=Fa ds->pq M' x=Fa ds:=λhx e=>rR (hf _ hx _ (ql e));have ho:∀{x:Uf} {ds:T0 D},x∉A.lists++V.fo->pq M x=Fa ds->pq M' x=Fa ds:=λ{x ds} hx e=>rR (st.1 x _ (λz=>(h2 x z).elim (λy=>hx (eh _ y)) λy=>by rw[ql e]at y;cases y) (ql e));obtain⟨f1,f2,f3,f4,f5,f6,f7⟩:=A.ng;exact⟨hf _ f1 _ h.at_,hl f3 h.ca,hl f4 h.le,Du (hf _ f2 _ (yL h.nx)),hl (A.nV h.oB.2.2.2.2) h.on,hl f5 h.lo,h.len,λi k c e1 e2=>by
  obtain⟨ad,md,g1,g2,g3,g4,g5,g6⟩:=h.cs i k c e1 e2;exact⟨ad,md,hf _ (f6 k (qV e1)) _ g1,hl (f7 k (qV e1)) g2,ho g5 g3,ho g6 g4,g5,g6⟩,h.nl,h.np,λx hx=>(h.fo x hx).elim λc e=>st.2.2.2 x c e⟩
def xO(x:D)(l:T0 D):vY (x::l) 0=Fa x:=by
 unfold vY;have:F4 (x::l).length 0=Fa 0:=by unfold F4;rw[eB];simp
 rw[this];rfl
def yc(f:pP->Str->Bool)(a:Ad):rO:=λds M Q=>CO λL k c x=>ds=[.ref k.p,.str x]/\sv a M L k c/\Q (.bl (f c x)) M
abbrev HI:=yc pP.hasB
abbrev Aj:=yc pP.ni
abbrev F1:=yc pP.nC
abbrev zo:=yc pP.nj
abbrev wG:=yc pP.m8
abbrev Fp:=yc pP.nq
abbrev xQ:=yc pP.nQ
noncomputable def PJ(x:Str):D->Bool
 | .str y=>!(y==x)
 | _=>lf
def zU(a:Ad):rO:=λds M Q=>K0 λL k c x y r=>ds=[.ref k.p,.str x]/\sv a M L k c/\c.ms.length<=100/\rZ c.ms x=y::r/\Q (.str y) M
def De(ss:QQQ)(x:Str):[]++(List.filter (PJ x) (ss.map D.str)).map id=(rZ ss x).map D.str:=by rw[d6,iL,gO];rfl
def Eg{k:Uf}{ks:QQQ}{c:Str}{K:DK}(hk:pq M k=Fa (ks.map D.str))(h:K (.bl (hasS ks c)) M):Su lf (.str c) (.ref k) M K:=by refine i' hk ⟨Z',qN ks,?_⟩;show K (.bl (inD (.str c) (ks.map D.str))) M;rw[tq];exact h
def Xr(w x y:Str):inD (.str w) [.str x,.str y]=(w==x||w==y):=by rw[show[D.str x,D.str y]=[x,y].map D.str from rfl,tq,gz];simp only[gk,List.any_nil,kG,hW,fA];exact⟨λh=>h.imp mE mE,λh=>h.imp mE mE⟩
def S9:Fq P w K mg base 1 a.bO (HI a):=by
 refine fq G.bO.toDG Hg (λr u=>⟨_,(pK (qg (pW u (pQ v0) pO)
 (pL (pS (J8 (qG u U1 (pQ v0)) (tJ (qG u U1 (pQ v0))))))
 pZ)
 (pK (qg (pW u (pQ v0) pO)
 (pL (pS (qG u U1 (pQ v0))))
 pZ)
 (pL (pS (tY (qG u (pQ v0) (qd (sH pO pO))) (tJ (qG u U1 (pQ v0)))))))),?_⟩)
 rintro ds M Q ⟨L,k,c,x,rfl,⟨ad,md,h1,h2,h3,h4,_⟩,q⟩
 unfold pP.hasB at q;refine pM h1 (i' Z' ?_);refine qU (c:=c.st=="rings") (λg=>?_) (λg=>?_)
 .rw[dg g]at q;refine pM h1 (i' Z' (qU (c:=x==c.cr) (λg2=>?_) (λg2=>?_)))
  .rw[g2]at q;exact⟨M,.refl,q⟩
  .rw[show(x==c.cr)=lf from dH.mpr g2,fQ]at q;exact pM h1 (i' Z' (Eg h3 ⟨M,.refl,q⟩))
 .rw[de g]at q;refine pM h1 (i' Z' ?_);refine qU (c:=c.st=="waits") (λg2=>?_) (λg2=>?_)
  .rw[dg g2]at q;exact pM h1 (i' Z' ⟨M,.refl,q⟩)
  .rw[de g2]at q;refine pM h1 (i' Z' ⟨pI Z',Z',Z',?_⟩);show if inD (.str c.st) [.str "talks",.str "held"]=pc then _ else _
   rw[Xr];refine qU (λg3=>?_) (λg3=>?_)
   .rw[g3,eL]at q;exact pM h1 (i' Z' (Eg h4 ⟨M,.refl,q⟩))
   .rw[show(c.st=="talks"||c.st=="held")=lf from dH.mpr g3,fh]at q;exact⟨M,.refl,q⟩
def wR:Fq P w K mg base 1 a.T (Aj a):=by
 refine fq G.T.toDG zp (λr u=>⟨_,(pL (pS (tY (qG u (pQ v0) pO) (tJ (qG u U1 (pQ v0)))))),?_⟩)
 rintro ds M Q ⟨L,k,c,x,rfl,⟨ad,md,h1,h2,h3,h4,_⟩,q⟩
 unfold pP.ni at q;refine pM h1 (i' Z' (qU (c:=c.st=="talks") (λg=>?_) (λg=>?_)))
 .rw[g,eL]at q;exact pM h1 (i' Z' (Eg h4 ⟨M,.refl,q⟩))
 .rw[show(c.st=="talks")=lf from dH.mpr g,fh]at q;exact⟨M,.refl,q⟩
def NM:Fq P w K mg base 2 a.bN (F1 a):=by
 refine fq G.bN.toDG D6 (λr u=>⟨_,(pK (qg (pW u (pQ v0) pO)
 (pL (pS (tY (qG u U1 (pQ v0)) (tJ (qG u U1 (pQ v0))))))
 pZ)
 (pL (pS (qv v0 G.e.toCls G.T (wR G) r (qA U1))))),?_⟩)
 rintro ds M Q ⟨L,k,c,x,rfl,hc,q⟩
 obtain⟨ad,md,h1,h2,h3,h4,_⟩:=id hc;unfold pP.nC at q;refine pM h1 (i' Z' ?_);refine qU (c:=c.st=="held") (λg=>?_) (λg=>?_)
 .rw[dg g]at q;refine pM h1 (i' Z' (i' h4 ⟨Z',qN c.ms,?_⟩));show if inD (.str x) (c.ms.map D.str)=pc then _ else _
  rw[tq];refine qU (c:=hasS c.ms x) (λg2=>?_) (λg2=>?_)
  .rw[g2,eL]at q;refine pM h1 (i' Z' ?_);cases e:c.hd with
   | none=>rw[e]at q;exact⟨M,.refl,q⟩
   | some y=>
    rw[e]at q;refine⟨M,.refl,?_⟩;rw[show(!(Fa y==Fa x))=!(x==y)from by
     show(!(y==x))=_;rw[mF]]at q
    exact q
  .rw[show hasS c.ms x=lf from dH.mpr g2,fh]at q;exact⟨M,.refl,q⟩
 .rw[de g]at q;exact pM h1 ⟨Z',_,⟨Z',Z'⟩,L,k,c,x,Z',hc,M,.refl,q⟩
def Cv:Fq P w K mg base 1 a.X (zo a):=by
 refine fq G.X.toDG yT (λr u=>⟨_,(pL (pS (tY (qG u (pQ v0) (qd (sH pO pO))) (tJ (qG u U1 (pQ v0)))))),?_⟩)
 rintro ds M Q ⟨L,k,c,x,rfl,⟨ad,md,h1,h2,h3,h4,_⟩,q⟩
 unfold pP.nj at q;refine pM h1 (i' Z' ⟨pI Z',Z',Z',?_⟩);show if inD (.str c.st) [.str "rings",.str "waits"]=pc then _ else _
 rw[Xr];refine qU (λg3=>?_) (λg3=>?_)
 .rw[g3,eL]at q;exact pM h1 (i' Z' ⟨M,.refl,q⟩)
 .rw[show(c.st=="rings"||c.st=="waits")=lf from dH.mpr g3,fh]at q;exact⟨M,.refl,q⟩
def Hb:Fq P w K mg base 1 a.aA (wG a):=by
 refine fq G.aA.toDG zH (λr u=>⟨_,(pL (pS (tY (qG u (pQ v0) pO) (tJ (qG u U1 (pQ v0)))))),?_⟩)
 rintro ds M Q ⟨L,k,c,x,rfl,⟨ad,md,h1,h2,h3,h4,_⟩,q⟩
 unfold pP.m8 at q;refine pM h1 (i' Z' (qU (c:=c.st=="waits") (λg=>?_) (λg=>?_)))
 .rw[g,eL]at q;exact pM h1 (i' Z' (Eg h3 ⟨M,.refl,q⟩))
 .rw[show(c.st=="waits")=lf from dH.mpr g,fh]at q;exact⟨M,.refl,q⟩
def LN:Fq P w K mg base 2 a.bI (xQ a):=by
 refine fq G.bI.toDG xA (λr u=>⟨_,(pL (pS (J8 (qv v0 G.e.toCls G.X (Cv G) r (qA U1)) (J8 (qG u U1 (pQ v0)) (tJ (qG u U1 (pQ v0))))))),?_⟩)
 rintro ds M Q ⟨L,k,c,x,rfl,hc,q⟩
 obtain⟨ad,md,h1,h2,h3,h4,_⟩:=id hc;unfold pP.nQ at q;refine pM h1 ⟨Z',_,⟨Z',Z'⟩,L,k,c,x,Z',hc,qU (c:=c.nj x) (λg=>?_) (λg=>?_)⟩
 .rw[g]at q;exact⟨M,.refl,q⟩
 .rw[show c.nj x=lf from dH.mpr g,fQ]at q;refine pM h1 (i' Z' (i' h3 ⟨Z',qN c.at_,?_⟩));show if inD (.str x) (c.at_.map D.str)=pc then _ else _
  rw[tq];refine qU (c:=hasS c.at_ x) (λg2=>?_) (λg2=>?_)
  .rw[g2]at q;exact⟨M,.refl,q⟩
  .rw[show hasS c.at_ x=lf from dH.mpr g2,fQ]at q;exact pM h1 (i' Z' (Eg h4 ⟨M,.refl,q⟩))
def Ha:Fq P w K mg base 2 a.aK (Fp a):=by
 refine fq G.aK.toDG DX (λr u=>⟨_,(pL (pS (tY (qv v0 G.e.toCls G.T (wR G) r (qA U1)) (tJ (qG u (qm qP Z' G.g qL (qA (pQ v0))) pN))))),?_⟩)
 rintro ds M Q ⟨L,k,c,x,rfl,hc,q⟩
 obtain⟨ad,md,h1,h2,h3,h4,_⟩:=id hc;unfold pP.nq at q;refine pM h1 ⟨Z',_,⟨Z',Z'⟩,L,k,c,x,Z',hc,qU (c:=c.ni x) (λg=>?_) (λg=>?_)⟩
 .rw[g,eL]at q;refine pM h1 (i' Z' (i' h4 ⟨M,.refl,?_⟩));rw[cW];have:(((c.ms.length:Nat):Int)==2)=(c.ms.length==2):=by rw[gz,fA,fA];lia
  show Q (.bl (((c.ms.length:Nat):Int)==2)) M;rw[this];exact q
 .rw[show c.ni x=lf from dH.mpr g,fh]at q;exact⟨M,.refl,q⟩
def Hz:Fq P w K mg base 1 a.aB (zU a):=by
 refine fq G.aB.toDG ze (λr u=>⟨_,(pL (pS (pV (ra Z' (yH (ix:=[Db,Fa 1]) (N':=["member","phone"])) (qZ (pQ v0)) (qW 0) (vV (pW u v0 U1)) v0) pN))),?_⟩)
 rintro ds M Q ⟨L,k,c,x,y,r,rfl,hc,hl,e,q⟩
 have hz:=dP;obtain⟨ad,md,h1,h2,h3,h4,_⟩:=id hc;refine pM h1 (i' Z' (i' h4 (tP (f:=id) (t:=PJ x) h4 _ [] _ (by rw[cW];simp only[dJ];lia) (λd hd k0 hk=>?_) (λd hd _ k0 hk=>?_) λp hp=>?_)))
 .obtain⟨y,hy,rfl⟩:=dF.mp hd;exact hk
 .obtain⟨y,hy,rfl⟩:=dF.mp hd;exact hk
 rw[De,e];exact i' pR (i' (xO _ _) ⟨M,.new hp,q⟩)
theorem Dq:∀bs:T0 Bool,AE (.bl pc) (bs.map D.bl)=bs.findIdx? id
 | []=>rfl
 | b::r=>by rw[dY,List.findIdx?_cons];unfold AE;rw[Dq r];cases b<;>rfl
theorem Oe(x:D):∀ds:T0 D,(AE x ds).isSome=ds.any λd=>Po d x
 | []=>rfl
 | d::r=>by
  unfold AE;rw[gk];by_cases h:Po d x=pc
  .rw[dg h,h];rfl
  .rw[de h,jx,Oe x r,show Po d x=lf from dH.mpr h,fQ]
theorem Dx:∀bs:T0 Bool,(bs.map D.bl).all ve=pc
 | []=>rfl
 | _::r=>by rw[dY,fD,Dx r];rfl
structure Rd(a:Ad)(M:Mp)(A:sA)(V:qB)(l:pU):Prop where
 bd:qa a M A V
 k:V.calls.length<=1000000
 pl:sY a M V.p l
 ok:sf l
 on:V.on.length=l.mT.length
 ms:∀c∈V.calls,(∀x∈c.ms,x∈l.pn)/\c.ms.length<=100
def Rd.sub{V:qB}(h:Rd a M A V l)(s:qJ M M'):Rd a M' A V l:=⟨h.bd.sub s,h.k,h.pl.sub s,h.ok,h.on,h.ms⟩
def L1:rO:=λds M Q=>CP λr bs=>ds=[.ref r]/\pq M r=Fa (List.map D.bl bs)/\Q (O5 (bs.findIdx? id)) M
def Ku(f:qB->Str->D)(a:Ad):rO:=λds M Q=>Ea λA V x=>ds=[.ref A.b,.str x]/\qa a M A V/\V.calls.length<=1000000/\Q (f V x) M
def Vp(V:qB)(x:Str):D:=.int (vF V x:Nat)
def LA(V:qB)(x:Str):D:=O5 (FT V x)
def yX(V:qB)(x:Str):D:=O5 (ux V x)
def Vm(V:qB)(x:Str):D:=O5 (Jv V x)
def Vs(V:qB)(x:Str):D:=.bl (Bc V x)
abbrev Fo:=Ku Vp
abbrev DP:=Ku LA
abbrev Bx:=Ku yX
abbrev Bs:=Ku Vm
abbrev AA:=Ku Vs
def xM(a:Ad):rO:=λds M Q=>CO λA V l x=>ds=[.ref A.b,.str x]/\Rd a M A V l/\x∈l.pn/\Q (.bl (uB l V x)) M
def AW(a:Ad):rO:=λds M Q=>HE λA V l c z=>ds=[.ref A.b,.str c,.str z]/\Rd a M A V l/\z∈l.nm/\∀q M',qJ M M'->M q=Db->pq M' q=Fa ((vb l V c z).map D.str)->Q (.ref q) M'
def AN(a:Ad):rO:=λds M Q=>CP λA V=>ds=[.ref A.b]/\qa a M A V/\Q (.int ((V.h+V.t) % 24)) M
def Qo(a:Ad):rO:=λds M Q=>HE λA V l c z=>ds=[.ref A.b,.str c,.str z]/\Rd a M A V l/\z∈l.nm/\Q (.bl (x8 l V c z)) M
def JE{V:qB}(h:qa a M A V){pre post:T0 D}{d:D}(e:pre++d::post=A.cs.map λk=>D.ref k.p):∃k c,A.cs[pre.length]?=Fa k/\V.calls[pre.length]?=Fa c/\d=.ref k.p/\sv a M (A.lists++V.fo) k c/\V.calls.take (pre.length+1)=V.calls.take pre.length++[c]:=by
 have h1:(A.cs.map λk=>D.ref k.p)[pre.length]?=Fa d:=by rw[<-e];simp
 rw[dz]at h1;cases z:A.cs[pre.length]? with
 | none=>rw[z]at h1;cases h1
 | some k=>
  rw[z]at h1;have hi:pre.length<V.calls.length:=by rw[<-h.len];exact(cY.mp z).1
  have e2:V.calls[pre.length]?=Fa V.calls[pre.length]:=c9 hi;refine⟨k,_,Z',e2,(dv h1).symm,h.cs _ _ _ z e2,?_⟩;rw[gB,e2];rfl
def zu{l:pU}{x:Str}(h:x∈l.pn):∃v,l.nB x=Fa v:=by
 obtain⟨p,hp,rfl⟩:=dF.mp h;unfold pU.nB;cases e:l.mV.find? λq=>decide (q.1=p.1)with
 | some v=>exact⟨v,Z'⟩
 | none=>exact absurd (hZ.mp e p hp) (by simp)
def rE:hasS ss x=pc↔x∈ss:=by unfold hasS;rw[gX];exact⟨λ⟨y,hy,e⟩=>Ix e ▸ hy,λh=>⟨x,h,e9 _⟩⟩
def Ko(h:xB ss=pc):ss.Nodup:=by
 have h:(tN ss).length=ss.length:=by unfold xB at h;have:=fA.mp h;lia
 suffices key:∀r:QQQ,(tN r.reverse).length=r.reverse.length->r.reverse.Nodup by have:=key ss.reverse;rw[List.reverse_reverse]at this;exact this h
 intro r;induction r with
 | nil=>intro _;exact eK
 | cons k r ih=>
  intro h;rw[List.reverse_cons]at h ⊢;generalize r.reverse=l at ih h ⊢;rw[yR]at h;split at h
  .have:=IZ l;rw[cZ,dQ]at h;lia
  .rename_i hk;rw[cZ,cZ,dQ]at h;have h1:=ih (by lia);rw[NL]at hk;refine gf.mpr ⟨h1,by simp,λx hx y hy=>?_⟩;rw[dA.mp hy];exact λz=>hk (z ▸ hx)
def IJ{m:Int}(h:tj cs ks m=pc):cs≠[]/\(cs.length:Int)<=m/\cs.Nodup/\∀x∈cs,x∈ks:=by unfold tj at h;simp only[dZ,eF,eS]at h;obtain⟨h1,h2,h3,h4⟩:=h;refine⟨λz=>by rw[z]at h1;exact absurd h1 (by decide),h2,Ko h3,λx hx=>rE.mp (h4 x hx)⟩
def sf.of(ok:sf l){z:Str}(hz:z∈l.nm):(l.mS z≠[]/\(l.mS z).length<=4/\(l.mS z).Nodup/\∀x∈l.mS z,x∈l.pn)/\(z∈l.pn->l.mS z=[z]/\l.m7 z="one"):=by
 have hd:=gf.mp ok.nd;have h1:z∈l.pn->l.group z=Db:=λh=>hZ.mpr λg hg e=>hd.2.2 z h g.1 (dF.mpr ⟨g,hg,Z'⟩) (by simpa using e:g.1=z).symm;refine⟨?_,λh=>by unfold pU.mS pU.m7;rw[h1 h];exact⟨Z',Z'⟩⟩;unfold pU.mS;cases e:l.group z with
 | none=>
  have hp:z∈l.pn:=by
   rcases dU.mp hz with h|h
   .exact h
   .obtain⟨g,hg,rfl⟩:=dF.mp h;exact absurd (hZ.mp e g hg) (by simp)
  exact⟨fP _ _,by show 1<=4;decide,dW.mpr ⟨dG,eK⟩,λx hx=>by rw[dA.mp hx];exact hp⟩
 | some g=>obtain⟨c1,c2,c3,c4⟩:=IJ (ok.go g (gw e)).mem;exact⟨c1,by show g.2.2.length<=4;lia,c3,c4⟩
def yM{V:qB}{f:pP->Str->Bool}{m x:Str}{Q:DK}{ok:Mp->Prop}(bd:qa a M A V)(hk:V.calls.length<=1000000)(m9:ok M)(hm:∀c wy ad md,(rQ c wy ad md).lookup m=Db)(q:∀p,M p=Db->Q (.ref p) (pT M p (.lst ((V.calls.map λc=>f c x).map D.bl)))):
  vE (sC 0) CJ (Bb m (λC s=>C=a.e/\s=yc f a) (v3 0) (we (v3 1) yA)) ok Q (A.cs.map λk=>D.ref k.p) [] [Db,Fa (.str x)] M:=by
 have hz:=dP;refine Ge (A.cs.map λk=>D.ref k.p) (λpre acc U M'=>M=M'/\acc=((V.calls.take pre.length).map λc=>f c x).map D.bl/\∃y,U=[y,Fa (.str x)]) (λ_ _ _ M' j=>by rw[<-j.1];exact m9) _ [] [] _ _ Z' ?_ ⟨Z',Z',Db,Z'⟩ ?_ ?_
 .rw[cW,bd.len];simp only[dJ];lia
 .rintro pre d post e acc U M' ⟨rfl,rfl,y,rfl⟩ k hk
  obtain⟨ka,c,e1,e2,rfl,hc,et⟩:=JE bd e;obtain⟨_,_,g1,_⟩:=id hc;refine pM g1 ⟨hm _ _ _ _,_,⟨Z',Z'⟩,_,ka,c,x,Z',hc,hk _ _ _ ⟨Z',?_,_,Z'⟩⟩;rw[cZ,dQ,et,dM,dM];rfl
 .rintro acc U M' ⟨rfl,rfl,y,rfl⟩ p hp
  rw[cW,bd.len,fv];exact q p hp
def Cw:Fq P w K mg base 1 a.O L1:=by
 refine fq G.O.toDG AJ (λr u=>⟨_,(pK (qg (pW u y0 v0)
 (pL (pS (yg v0 (qA y0))))
 pZ)
 (pL (pS sL))),?_⟩)
 rintro ds M Q ⟨r,bs,rfl,hr,q⟩
 have ei:inD (.bl pc) (bs.map D.bl)=(bs.findIdx? id).isSome:=by rw[<-Dq];exact(Oe _ _).symm
 refine i' hr ⟨Z',Dx bs,?_⟩;show if inD (.bl pc) (bs.map D.bl)=pc then _ else _
 rw[ei];cases e:bs.findIdx? id with
 | none=>rw[e]at q;exact⟨M,.refl,q⟩
 | some j=>rw[e]at q;exact LG ⟨by show(pq M r).isSome=pc;rw[hr];rfl,i' hr ⟨Z',Dx bs,i' ((Dq bs).trans e) ⟨M,.refl,q⟩⟩⟩
def Pd:Fq P w K mg base 2 a.bG (Fo a):=by
 refine fq G.bG.toDG DZ (λr u=>⟨_,(pL (pS (qm qP Z' G.g qL (qA (ra Z' (yH (ix:=[Db,Fa 1]) (N':=["call","phone"])) (qZ (pQ v0)) (qW 0) (vV (vH (qv v0 G.e.toCls G.bO (S9 G) r (qA U1)))) v0))))),?_⟩)
 rintro ds M Q ⟨A,V,x,rfl,bd,Ym,q⟩
 have hz:=dP;refine pM bd.at_ (i' Z' (i' bd.ca ?_));refine yO (A.cs.map λk=>D.ref k.p) (λpre acc U M'=>M=M'/\acc.length=((V.calls.take pre.length).filter (·.hasB x)).length/\∃y,U=[y,Fa (.str x)]) (λ_ _ _ M' j=>by rw[<-j.1];exact bd.ca) _ [] [] _ _ Z' ?_ ⟨Z',Z',Db,Z'⟩ ?_ ?_
 .rw[cW,bd.len];simp only[dJ];lia
 .rintro pre d post e acc U M' ⟨rfl,ha,y,rfl⟩ k k2 hk Zg
  obtain⟨ka,c,e1,e2,rfl,hc,et⟩:=JE bd e;rw[cZ,dQ,et,iH]at hk Zg;obtain⟨_,_,g1,_⟩:=id hc;refine pM g1 ⟨Z',_,⟨Z',Z'⟩,_,ka,c,x,Z',hc,?_⟩;refine qU (c:=c.hasB x) (λg=>?_) (λg=>?_)
  .refine hk _ _ _ ⟨Z',?_,_,Z'⟩;rw[cZ,cZ,ha,gF (by exact g)];rfl
  .refine Zg _ _ ⟨Z',?_,_,Z'⟩;rw[cZ,ha,gG (by exact g)];rfl
 .rintro acc U M' ⟨rfl,ha,y,rfl⟩ p hp
  refine i' pR ⟨M,.new hp,?_⟩;rw[cW,bd.len,fv]at ha;rw[ha];exact q
def LX:Fq P w K mg base 3 a.bE (DP a):=by
 refine fq G.bE.toDG Dg (λr u=>⟨_,(pL (pS (pX (Cw G) r G.O (qA (ra Z' (yH (ix:=[Db,Fa 1]) (N':=["call","phone"])) (qZ (pQ v0)) (qW 0) sD (qv v0 G.e.toCls G.bN (NM G) r (qA U1))))))),?_⟩)
 rintro ds M Q ⟨A,V,x,rfl,bd,Ym,q⟩
 refine pM bd.at_ (i' Z' (i' bd.ca (yM bd Ym bd.ca (λ_ _ _ _=>rfl) λp hp=>⟨p,_,Z',pR,M,.new hp,?_⟩)));rw[ie];exact q
def Ip:Fq P w K mg base 3 a.bF (Bs a):=by
 refine fq G.bF.toDG A7 (λr u=>⟨_,(pL (pS (pX (Cw G) r G.O (qA (ra Z' (yH (ix:=[Db,Fa 1]) (N':=["call","phone"])) (qZ (pQ v0)) (qW 0) sD (qv v0 G.e.toCls G.X (Cv G) r (qA U1))))))),?_⟩)
 rintro ds M Q ⟨A,V,x,rfl,bd,Ym,q⟩
 refine pM bd.at_ (i' Z' (i' bd.ca (yM bd Ym bd.ca (λ_ _ _ _=>rfl) λp hp=>⟨p,_,Z',pR,M,.new hp,?_⟩)));rw[ie];exact q
def xn:Fq P w K mg base 3 a.M (Bx a):=by
 refine fq G.M.toDG AH (λr u=>⟨_,(pL (pS (pX (Cw G) r G.O (qA (ra Z' (yH (ix:=[Db,Fa 1]) (N':=["call","phone"])) (qZ (pQ v0)) (qW 0) sD (qv v0 G.e.toCls G.T (wR G) r (qA U1))))))),?_⟩)
 rintro ds M Q ⟨A,V,x,rfl,bd,Ym,q⟩
 refine pM bd.at_ (i' Z' (i' bd.ca (yM bd Ym bd.ca (λ_ _ _ _=>rfl) λp hp=>⟨p,_,Z',pR,M,.new hp,?_⟩)));rw[ie];exact q
def GD:Fq P w K mg base 3 a.bL (AA a):=by
 refine fq G.bL.toDG zL (λr u=>⟨_,(pL (pS (qm (SQ Z') Z' G.cJ Tg (qA (ra Z' (yH (ix:=[Db,Fa 1]) (N':=["call","phone"])) (qZ (pQ v0)) (qW 0) sD (qv v0 G.e.toCls G.aA (Hb G) r (qA U1))))))),?_⟩)
 rintro ds M Q ⟨A,V,x,rfl,bd,Ym,q⟩
 refine pM bd.at_ (i' Z' (i' bd.ca (yM bd Ym bd.ca (λ_ _ _ _=>rfl) λp hp=>i' pR ?_)));rw[eC];refine i' (yB _ _) ⟨M,.new hp,?_⟩;rw[jS];exact q
def HA:Fq P w K mg base 1 a.bK (AN a):=by
 refine fq G.bK.toDG Ae (λr u=>⟨_,(pL (pS (qu (qu (pQ v0) (pQ v0)) pN))),?_⟩)
 rintro ds M Q ⟨A,V,rfl,bd,q⟩
 exact pM bd.at_ (i' Z' (pM bd.at_ (i' Z' ⟨by decide,M,.refl,q⟩)))
def NX{l:pU}{x:Str}{v:vi}(h:l.nB x=Fa v):xt l x=v.2.1:=by unfold xt;rw[h];rfl
def zx:Fq P w K mg base 3 a.V (xM a):=by
 refine fq G.V.toDG AX (λr u=>⟨_,(pL (pS (qG u (qv v0 G.c.toCls G.bG (Pd G) r (qA U1)) (qv (pQ v0) G.h.toCls G.bH (D7 G) r (qA U1))))),?_⟩)
 rintro ds M Q ⟨A,V,l,x,rfl,rd,hx,q⟩
 obtain⟨ph,gr,ws,Zh,pr,gd,rs,i1,_⟩:=rd.pl;obtain⟨v,hv⟩:=zu hx;refine pM rd.bd.at_ ⟨Z',_,⟨Z',Z'⟩,A,V,x,Z',rd.bd,rd.k,?_⟩;refine pM rd.bd.at_ (i' Z' (pM i1 ⟨Z',_,⟨Z',Z'⟩,V.p,x,v,l,Z',rd.pl,hv,?_⟩));unfold uB at q;rw[NX hv]at q;exact⟨M,.refl,q⟩
def Be:Fq P w K mg base 4 a.aM (AW a):=by
 refine fq G.aM.toDG zW (λr u=>⟨_,(pL (pS (ra Z' (yH (ix:=[Db,Fa 1,Fa 0]) (N':=["phone","caller","self"])) (qZ (qv (pQ v0) G.h.toCls G.Y (va G) r (qA U2))) (qW 0) (vV (W3.b3 (vv (pW u v0 U1) (vN (vH (qv U2 G.c.toCls G.V (zx G) r (qA v0))))))) v0))),?_⟩)
 rintro ds M Q ⟨A,V,l,c,z,rfl,rd,YG,q⟩
 obtain⟨ph,gr,ws,Zh,pr,gd,rs,i1,_⟩:=rd.pl;obtain⟨⟨_,p4,_,pin⟩,_⟩:=rd.ok.of YG;refine pM rd.bd.at_ (i' Z' (pM i1 ⟨Z',_,⟨Z',Z'⟩,V.p,z,l,Z',rd.pl,λq1 YM=>i' pR ?_⟩));have s1:=qJ.new (c:=.lst (List.map D.str (l.mS z))) YM;have c1:=@pR M q1 (List.map D.str (l.mS z));generalize pT M q1 (.lst (List.map D.str (l.mS z)))=M1 at s1 c1 ⊢;have hz:=dP;have ZJ:=rd.sub s1;refine tP (f:=id) (t:=λd=>match d with|.str x=>!(x==c)&&uB l V x|_=>lf) c1 _ [] _ (by rw[cW];simp only[dJ];lia) (λd hd k hk=>?_) (λd hd _ k hk=>?_) λq2 hq2=>?_
 .obtain⟨x,hx,rfl⟩:=dF.mp hd;have hk:k (!(x==c)&&uB l V x) M1:=hk;cases e:x==c with
  | true=>rw[e]at hk;refine NW (c:=!(x==c)) (by rw[e];rfl) hk
  | false=>rw[e]at hk;refine Bw (c:=!(x==c)) (by rw[e];rfl) (pM ZJ.bd.at_ ⟨Z',_,⟨Z',Z'⟩,A,V,l,x,Z',ZJ,pin x hx,hk⟩)
 .obtain⟨x,hx,rfl⟩:=dF.mp hd;exact hk
 .have ef:[]++(List.filter (λd=>match d with|.str x=>!(x==c)&&uB l V x|_=>lf) ((l.mS z).map D.str)).map id=(vb l V c z).map D.str:=by rw[d6,iL,gO];rfl
  rw[ef];have t2:=qJ.new (c:=.lst ((vb l V c z).map D.str)) hq2;exact⟨_,.refl,q q2 _ (s1.trans t2) (s1.none hq2) pR⟩
def F0:Fq P w K mg base 5 a.P (Qo a):=by
 refine fq G.P.toDG IU (λr u=>⟨_,(pL (pS (qG u (qm qP Z' G.g qL (qA (qv v0 G.c.toCls G.aM (Be G) r (sH U1 U2)))) pN))),?_⟩)
 rintro ds M Q ⟨A,V,l,c,z,rfl,rd,tg,q⟩
 refine pM rd.bd.at_ ⟨Z',_,⟨Z',Z'⟩,A,V,l,c,z,Z',rd,tg,λq1 M1 s1 YM e1=>i' e1 ⟨M,s1,?_⟩⟩;have e:((((vb l V c z).map D.str).length:Int)==0)=x8 l V c z:=by unfold x8;rw[cW,gz,fA,List.isEmpty_iff,<-gD];lia
 show Q (.bl ((((vb l V c z).map D.str).length:Int)==0)) M;rw[e];exact q
def xH(a:Ad)(v:Wi):rO:=λds M Q=>K0 λp A V l c z=>ds=[.ref p,.ref A.b,.str c,.str z]/\M p=Fa (.ins (v.cls a) v.nW)/\Rd a M A V l/\z∈l.nm/\Di l.pn l.nm v/\Q (.bl (Ap l V c z v)) M
def RH(a:Ad)(v:Wi):rO:=λds M Q=>CO λp L k c=>ds=[.ref p,.ref (rS.p k)]/\M p=Fa (.ins (v.cls a) v.nW)/\sv a M L k c/\Q (.bl (w9 c v)) M
def Gy:rO:=λds M Q=>CP λx y=>ds=[x,y]/\Q (.bl lf) M
def ME(a:Ad):Uf->rO->Prop:=λC sp=>∃v:Wi,C=v.cls a/\sp=xH a v
noncomputable def My(a:Ad):Wi->rO
 | .silent x y n=>RH a (.silent x y n)
 | _=>Gy
def Hy(a:Ad):Uf->rO->Prop:=λC sp=>∃v:Wi,C=v.cls a/\sp=My a v
def AO(a:Ad):rO:=λds M Q=>K0 λp x y f l h=>ds=[.ref p,.int h]/\M p=Fa (.ins a.n (Wi.night x y f l).nW)/\Q (.bl (E6 f l h)) M
def As(a:Ad):rO:=λds M Q=>K0 λp x q l r ms=>ds=[.ref p,.ref q,.ref r]/\M p=Fa (.ins a.o (Wi.breaks x).nW)/\sY a M q l/\pq M r=Fa (List.map D.str ms)/\ms.length<=100/\x∈l.pn/\(∀m∈ms,m∈l.pn)/\Q (.bl (HG l x ms)) M
def JH{l:pU}{x:Str}{v:vi}(h:l.nB x=Fa v):wI l x=v.2.2:=by unfold wI;rw[h];rfl
def rL{ks:List rS}{i:Nat}{k:rS}(h:ks[i]?=Fa k):vY (ks.map λk=>D.ref k.p) (i:Nat)=Fa (.ref k.p):=tU (by rw[dz,h];rfl)
def Nh(ds:T0 D):L3.ut ds (Fa (-1:Int)) Db=ds.drop (ds.length - 1):=by
 unfold L3.ut;have e:HT.tV ds.length 0 (Fa (-1:Int))=ds.length - 1:=by show(if (-1:Int)<0 then((-1:Int)+(ds.length:Int)).toNat else min (-1:Int).toNat ds.length)=ds.length - 1;rw[dg (by decide)];lia
 rw[e];show(ds.drop (ds.length - 1)).take (ds.length - (ds.length - 1))=_;exact ia (by rw[gp];exact dw _)
theorem Ed{α:Type}:∀w:List α,w.drop (w.length - 1)=w.getLast?.toList
 | []=>rfl
 | [_]=>rfl
 | _::z::r=>by rw[List.getLast?_cons_cons,<-Ed (z::r)];rfl
def Pc{p q:Uf}{w:QQQ}(h1:pq M p=Fa ((w.map D.str).drop ((w.map D.str).length - 1)))(h2:pq M q=Fa [D.str x]):zK M 9 (.ref p) (.ref q)=Fa (w.getLast?==Fa x):=by
 have e:(w.map D.str).drop ((w.map D.str).length - 1)=(w.getLast?.toList).map D.str:=by rw[cW,<-kK];rw[Ed]
 rw[e]at h1;show(pq M p).bind (λi=>(pq M q).bind λj=>if i.length=j.length then tG (zK M 8) i j else Fa lf)=_;rw[h1,h2];cases w.getLast? with
 | none=>rfl
 | some y=>show((Fa (y==x)).bind λp=>(Fa pc).map λq=>p&&q)=Fa (Fa y==Fa x);show Fa ((y==x)&&pc)=_;rw[Bool.and_true];rfl
def MU(G:Gl K mg a)(x:Str)(ns:QQQ):Fq P w K mg base 6 a.aC (xH a (.bar x ns)):=by
 refine fq G.aC.toDG Hu (λr u=>⟨_,(pL (pS (tY (qG u U2 (pQ v0)) (tJ (qG u U3 (pQ v0)))))),?_⟩)
 rintro ds M Q ⟨p,A,V,l,c,z,rfl,hp,_,_,_,q⟩
 refine pM hp ?_;refine qU (c:=c==x) (λg=>pM hp ⟨Z',qN ns,M,.refl,?_⟩) (λg=>⟨M,.refl,?_⟩)
 .show Q (.bl (inD (.str z) (ns.map D.str))) M;rw[tq];dsimp only[Ap]at q;rw[g,eL]at q;exact q
 .dsimp only[Ap]at q;rw[show(c==x)=lf from dH.mpr g,fh]at q;exact q
def Mv(G:Gl K mg a)(x:Str)(ns:QQQ):Fq P w K mg base 6 a.aD (xH a (.shut x ns)):=by
 refine fq G.aD.toDG Fs (λr u=>⟨_,(pL (pS (tY (qG u U3 (pQ v0)) (tJ (qG u U2 (pQ v0)))))),?_⟩)
 rintro ds M Q ⟨p,A,V,l,c,z,rfl,hp,_,_,_,q⟩
 refine pM hp ?_;refine qU (c:=z==x) (λg=>pM hp ⟨Z',qN ns,M,.refl,?_⟩) (λg=>⟨M,.refl,?_⟩)
 .show Q (.bl (inD (.str c) (ns.map D.str))) M;rw[tq];dsimp only[Ap]at q;rw[g,eL]at q;exact q
 .dsimp only[Ap]at q;rw[show(z==x)=lf from dH.mpr g,fh]at q;exact q
def Me(G:Gl K mg a)(x y:Str):Fq P w K mg base 6 a.aE (xH a (.always x y)):=by
 refine fq G.aE.toDG CZ (λr u=>⟨_,(pL (pS (qG u U3 (pQ v0)))),?_⟩)
 rintro ds M Q ⟨p,A,V,l,c,z,rfl,hp,_,_,_,q⟩
 exact pM hp ⟨M,.refl,q⟩
def GI:Fq P w K mg base 1 a.bJ (AO a):=by
 refine fq G.bJ.toDG zS (λr u=>⟨_,(pK (qg (pW u (pQ v0) (pQ v0))
 (pL (pS (uN u (pQ v0) U1 (pQ v0))))
 pZ)
 (pL (pS (J8 (qG u U1 (pQ v0)) (tJ (qG u U1 (pQ v0))))))),?_⟩)
 rintro ds M Q ⟨p,x,y,f,l,h,rfl,hp,q⟩
 refine pM hp (pM hp ?_);show if (decide (f<l))=pc then _ else _
 unfold E6 at q;by_cases z:f<l
 .rw[dg z]at q;refine Bw (dX z) (pM hp ?_);refine qU (c:=decide (f<=h)) (λg=>?_) (λg=>?_)
  .rw[g,eL]at q;exact pM hp ⟨M,.refl,q⟩
  .rw[show decide (f<=h)=lf from dH.mpr g,fh]at q;exact⟨M,.refl,q⟩
 .rw[de z]at q;refine NW (eW z) (pM hp ?_);refine qU (c:=decide (h>=f)) (λg=>?_) (λg=>?_)
  .rw[g,ig]at q;exact⟨M,.refl,q⟩
  .rw[show decide (h>=f)=lf from dH.mpr g,fQ]at q;exact pM hp ⟨M,.refl,q⟩
def Oo(G:Gl K mg a)(x y:Str)(f m:Int):Fq P w K mg base 6 a.aF (xH a (.night x y f m)):=by
 refine fq G.aF.toDG DM (λr u=>⟨_,(pL (pS (tY (qG u U3 (pQ v0)) (tJ (qv v0 G.n.toCls G.bJ (GI G) r (qA (yJ U1 G.c.toCls G.bK (HA G) r))))))),?_⟩)
 rintro ds M Q ⟨p,A,V,l,c,z,rfl,hp,rd,_,_,q⟩
 dsimp only[Ap]at q;refine pM hp ?_;refine qU (c:=z==x) (λg=>?_) (λg=>?_)
 .rw[g,eL]at q;exact pM hp ⟨Z',_,⟨Z',Z'⟩,pM rd.bd.at_ ⟨Z',_,⟨Z',Z'⟩,A,V,Z',rd.bd,p,x,y,f,m,_,Z',hp,M,.refl,q⟩⟩
 .rw[show(z==x)=lf from dH.mpr g,fh]at q;exact⟨M,.refl,q⟩
def NF(G:Gl K mg a)(x y:Str):Fq P w K mg base 6 a.aG (xH a (.busy x y)):=by
 refine fq G.aG.toDG Gv (λr u=>⟨_,(pL (pS (tY (qG u U3 (pQ v0)) (tJ (pX (F0 G) r G.P (rC U1 U2 U3)))))),?_⟩)
 rintro ds M Q ⟨p,A,V,l,c,z,rfl,hp,rd,hz,_,q⟩
 dsimp only[Ap]at q;refine pM hp ?_;refine qU (c:=z==x) (λg=>?_) (λg=>?_)
 .rw[g,eL]at q;exact⟨A,V,l,c,z,Z',rd,hz,M,.refl,q⟩
 .rw[show(z==x)=lf from dH.mpr g,fh]at q;exact⟨M,.refl,q⟩
def Nz(G:Gl K mg a)(x y:Str)(n:Int):Fq P w K mg base 6 a.aH (xH a (.silent x y n)):=by
 refine fq G.aH.toDG CW (λr u=>⟨_,(pL (pS y0)),?_⟩)
 rintro ds M Q ⟨p,A,V,l,c,z,rfl,hp,rd,hz,_,q⟩
 exact⟨M,.refl,q⟩
def OC(G:Gl K mg a)(x:Str):Fq P w K mg base 6 a.aI (xH a (.wait x)):=by
 refine fq G.aI.toDG Gm (λr u=>⟨_,(pK (qg (W3.b3 (zR (pW u U3 (pQ v0)) (zb (pW u U2 (pQ v0)))))
 (pL (pS y0))
 pZ)
 (pL (pS (tY (pX (F0 G) r G.P (rC U1 U2 U3)) (tJ (SS (qv U1 G.c.toCls G.bL (GD G) r (qA U3)))))))),?_⟩)
 rintro ds M Q ⟨p,A,V,l,c,z,rfl,hp,rd,hz,_,q⟩
 dsimp only[Ap]at q;refine pM hp ?_;refine qU (c:=!(z==x)) (λg=>?_) (λg=>?_)
 .rw[g,ig]at q;exact⟨M,.refl,q⟩
 rw[show(!(z==x))=lf from dH.mpr g,fQ]at q;refine pM hp ?_;refine qU (c:=c==x) (λg=>?_) (λg=>?_)
 .rw[g]at q;exact⟨M,.refl,q⟩
 rw[de g]at q;refine⟨A,V,l,c,z,Z',rd,hz,?_⟩;refine qU (c:=x8 l V c z) (λg=>?_) (λg=>?_)
 .rw[g,eL]at q;exact pM rd.bd.at_ ⟨Z',_,⟨Z',Z'⟩,A,V,z,Z',rd.bd,rd.k,M,.refl,q⟩
 .rw[show x8 l V c z=lf from dH.mpr g,fh]at q;exact⟨M,.refl,q⟩
def HD:Fq P w K mg base 2 a.bM (As a):=by
 refine fq G.bM.toDG vQ (λr u=>⟨_,(pK (qc 3 vQ (qv U1 G.h.toCls G.aO (zX G) r (qA (pQ v0))))
 (pL (pS (qm (Gj Z') Z' G.bR Gu (qA (ra Z' (yH (ix:=[Db,Fa 1,Fa 3]) (N':=["member","plan","rank"])) (qZ U2) (qW 0) sD (qG u (qv U1 G.h.toCls G.aO (zX G) r (qA v0)) U2))))))),?_⟩)
 rintro ds M Q ⟨p,x,q,l,r,ms,rfl,hp,pl,lr,h100,hx,hm,k⟩
 have hz:=dP;obtain⟨v,hv⟩:=zu hx;obtain⟨ph,gr,ws,Zh,pr,gd,rs,i1,_⟩:=id pl;refine pM i1 ⟨Z',_,⟨Z',Z'⟩,pM hp (i' Z' ⟨q,x,v,l,Z',pl,hv,?_⟩)⟩;refine i' lr (rM (f:=λd=>match d with|.str m=>.bl (decide (wI l m<wI l x))|_=>.mY) lr _ [] _ (by rw[cW];show 0+ms.length<=Ch;lia) (λd hd k0 hk=>?_) λp1 ZT=>?_)
 .obtain⟨m,hmm,rfl⟩:=dF.mp hd;obtain⟨u,hu⟩:=zu (hm m hmm);have hk:k0 (.bl (decide (wI l m<wI l x))) M:=hk;rw[JH hu,JH hv]at hk;exact pM i1 ⟨Z',_,⟨Z',Z'⟩,q,m,u,l,Z',pl,hu,hk⟩
 .have em:[]++(ms.map D.str).map (λd=>match d with|.str m=>.bl (decide (wI l m<wI l x))|_=>.mY)=ms.map λm=>D.bl (decide (wI l m<wI l x)):=by rw[d6,eC];rfl
  rw[em];refine i' pR (i' (yB (λm=>decide (wI l m<wI l x)) ms) ⟨M,.new ZT,?_⟩);unfold HG at k;rw[z9];exact k
def NY(G:Gl K mg a)(x:Str):Fq P w K mg base 6 a.aJ (xH a (.breaks x)):=by
 refine fq G.aJ.toDG vZ (λr u=>⟨_,(pK (qg (W3.b3 (zR (pW u U2 (pQ v0)) (zb (pW u U3 (pQ v0)))))
 (pL (pS y0))
 pZ)
 (pK (qg (W3.b3 (zR (pW u U3 (yJ (pQ U1) G.h.toCls G.U (uq G) r)) (zb (xX (vH (pX (F0 G) r G.P (rC U1 U2 U3)))))))
 (pL (pS y0))
 pZ)
 (pK (qc 4 vZ (qv U1 G.c.toCls G.M (xn G) r (qA U3)))
 (pK (qg (pW u U4 sL)
 (pL (pS y0))
 pZ)
 (pK (qc 5 vZ (pQ (pV (pQ U1) U4)))
 (pL (pS (tY (qG u (qm qP Z' G.g qL (qA v5)) pN) (tJ (qv v0 G.o.toCls G.bM (HD G) r (sH (pQ U1) v5))))))))))),?_⟩)
 rintro ds M Q ⟨p,A,V,l,c,z,rfl,hp,rd,YG,hx,q⟩
 have hx:x∈l.pn:=rE.mp hx;obtain⟨ph,gr,ws,Zh,pr,gd,rs,i1,_⟩:=rd.pl;have p8:=rd.ok.p8;dsimp only[Ap,HR]at q;refine pM hp ?_;refine qU (c:=!(c==x)) (λh1=>?_) (λh1=>?_)
 .rw[h1,ig]at q;exact⟨M,.refl,q⟩
 rw[show(!(c==x))=lf from dH.mpr h1,fQ]at q;refine pM hp ?_;refine qU (c:=z==x) (λh2=>?_) (λh2=>?_)
 .rw[h2]at q;exact⟨M,.refl,q⟩
 rw[de h2]at q;refine pM rd.bd.at_ (i' Z' (pM i1 ⟨Z',_,⟨Z',Z'⟩,V.p,l,Z',rd.pl,by lia,λq1 YM=>i' pR ⟨Z',qN _,?_⟩⟩));have t:=qJ.new (c:=.lst (l.pn.map D.str)) YM;have Yo:=rd.sub t;generalize pT M q1 (.lst (l.pn.map D.str))=M1 at t Yo ⊢;show if (!(inD (.str z) (l.pn.map D.str)))=pc then _ else _
 rw[tq];refine qU (c:=!(hasS l.pn z)) (λh3=>?_) (λh3=>?_)
 .rw[h3,ig]at q;exact⟨M,t,q⟩
 rw[show(!(hasS l.pn z))=lf from dH.mpr h3,fQ]at q;refine⟨A,V,l,c,z,Z',Yo,YG,?_⟩;refine qU (c:=!(x8 l V c z)) (λh4=>?_) (λh4=>?_)
 .rw[h4]at q;exact⟨M,t,q⟩
 rw[de h4]at q;refine pM Yo.bd.at_ ⟨Z',_,⟨Z',Z'⟩,A,V,z,Z',Yo.bd,Yo.k,?_⟩;cases e:ux V z with
 | none=>rw[e]at q;rw[show yX V z=.mY from by unfold yX;rw[e];rfl];exact⟨M,t,q⟩
 | some j=>
  rw[show yX V z=.int (j:Nat)from by unfold yX;rw[e];rfl];have hj:j<V.calls.length:=(iM.mp e).1;have e2:V.calls[j]?=Fa V.calls[j]:=c9 hj;rw[e]at q;generalize V.calls[j]=k at e2;have q:Q (.bl (((V.calls[j]?).elim lf λk=>(k.ms.length==2)&&HG l x k.ms))) M:=q;rw[e2]at q;have hj:j<A.cs.length:=by rw[rd.bd.len];exact hj
  have ek:A.cs[j]?=Fa A.cs[j]:=c9 hj;obtain⟨ad,md,f1,f2,f3,f4,_⟩:=Yo.bd.cs j _ k ek e2;refine pM Yo.bd.at_ (i' Z' (i' Z' (i' Yo.bd.ca (i' (rL ek) (pM f1 (i' Z' ?_))))));refine i' f4 ?_;have el:((((k.ms.map D.str).length:Nat):Int)==2)=(k.ms.length==2):=by rw[cW,gz,fA,fA];lia
  show if ((((k.ms.map D.str).length:Nat):Int)==2)=pc then _ else _
  rw[el];have q:Q (.bl ((k.ms.length==2)&&HG l x k.ms)) M:=q;refine qU (c:=k.ms.length==2) (λh5=>?_) (λh5=>?_)
  .rw[h5,eL]at q;have hm:=rd.ms k (qV e2);refine pM (t _ _ hp) ⟨Z',_,⟨Z',Z'⟩,pM Yo.bd.at_ (i' Z' ⟨p,x,V.p,l,md,k.ms,Z',t _ _ hp,Yo.pl,f4,hm.2,hx,hm.1,M,t,q⟩)⟩
  .rw[show(k.ms.length==2)=lf from dH.mpr h5,fh]at q;exact⟨M,t,q⟩
def LI:Fq P w K mg base 1 a.q Gy:=by
 refine fq G.q.toDG CS (λr u=>⟨_,(pL (pS y0)),?_⟩)
 rintro ds M Q ⟨x,y,rfl,q⟩
 exact⟨M,.refl,q⟩
def TX(G:Gl K mg a)(x y:Str)(n:Int):Fq P w K mg base 1 a.aL (RH a (.silent x y n)):=by
 refine fq G.aL.toDG AR (λr u=>⟨_,(pL (pS (tY (qG u (sW (pQ U1) (tL (zg pN)) uk) (qQ (qA (pQ v0)))) (tJ (qG u (pQ v0) (pQ U1)))))),?_⟩)
 rintro ds M Q ⟨p,L,k,c,rfl,hp,⟨ad,md,h1,h2,h3,h4,_⟩,q⟩
 refine pM h1 (i' Z' (i' h2 λp1 ZT=>?_));have t1:=qJ.new (c:=.lst (L3.ut (c.way.map D.str) (Fa (-1:Int)) Db)) ZT;have l1:pq (pT M p1 (.lst (L3.ut (c.way.map D.str) (Fa (-1:Int)) Db))) p1=Fa ((c.way.map D.str).drop ((c.way.map D.str).length - 1)):=by rw[pR,Nh]
 show AG (pT M p1 (.lst (L3.ut (c.way.map D.str) (Fa (-1:Int)) Db)) p) _;generalize pT M p1 (.lst (L3.ut (c.way.map D.str) (Fa (-1:Int)) Db))=M1 at t1 l1 ⊢;refine pM (t1 _ _ hp) ⟨pI Z',λp2 X4=>?_⟩;have t2:=qJ.new (c:=.lst [D.str x]) X4;have l2:=@pR M1 p2 [D.str x];show Option.elim (zK (pT M1 p2 (.lst [D.str x])) 9 (.ref p1) (.ref p2)) False _;generalize pT M1 p2 (.lst [D.str x])=M2 at t2 l2 ⊢;have s2:=t1.trans t2;refine i' (Pc (t2.lst l1) l2) ?_;dsimp only[w9]at q;refine qU (c:=c.way.getLast?==Fa x) (λg=>?_) (λg=>?_)
 .rw[g,eL]at q;exact pM (s2 _ _ hp) (pM (s2 _ _ h1) ⟨M,s2,q⟩)
 .rw[show(c.way.getLast?==Fa x)=lf from dH.mpr g,fh]at q;exact⟨M,s2,q⟩
def R8:∀C sp,ME a C sp->yq P w K mg base 6 "fits" C (OH K sp):=by
 rintro C sp ⟨v,rfl,rfl⟩
 cases v with
 | bar x ns=>exact⟨G.r.toCls,_,_,_,G.aC.nG,MU G x ns,G.aC.b⟩
 | shut x ns=>exact⟨G.t.toCls,_,_,_,G.aD.nG,Mv G x ns,G.aD.b⟩
 | always x y=>exact⟨G.w.toCls,_,_,_,G.aE.nG,Me G x y,G.aE.b⟩
 | night x y f m=>exact⟨G.n.toCls,_,_,_,G.aF.nG,Oo G x y f m,G.aF.b⟩
 | busy x y=>exact⟨G.x.toCls,_,_,_,G.aG.nG,NF G x y,G.aG.b⟩
 | silent x y n=>exact⟨G.u.toCls,_,_,_,G.aH.nG,Nz G x y n,G.aH.b⟩
 | wait x=>exact⟨G.v.toCls,_,_,_,G.aI.nG,OC G x,G.aI.b⟩
 | breaks x=>exact⟨G.o.toCls,_,_,_,G.aJ.nG,NY G x,G.aJ.b⟩
def VV:∀C sp,Hy a C sp->yq P w K mg base 1 "is_due" C (OH K sp):=by
 rintro C sp ⟨v,rfl,rfl⟩
 have F:=LI (P:=P) (w:=w) (base:=base) G;cases v with
 | silent x y n=>exact⟨G.u.toCls,_,_,_,G.aL.nG,TX G x y n,G.aL.b⟩
 | bar _ _=>exact⟨G.r.toCls,_,_,_,G.cn,F,G.q.b⟩
 | shut _ _=>exact⟨G.t.toCls,_,_,_,G.co,F,G.q.b⟩
 | always _ _=>exact⟨G.w.toCls,_,_,_,G.cp,F,G.q.b⟩
 | night _ _ _ _=>exact⟨G.n.toCls,_,_,_,G.cq,F,G.q.b⟩
 | busy _ _=>exact⟨G.x.toCls,_,_,_,G.cr,F,G.q.b⟩
 | wait _=>exact⟨G.v.toCls,_,_,_,G.cs,F,G.q.b⟩
 | breaks _=>exact⟨G.o.toCls,_,_,_,G.ct,F,G.q.b⟩
def EZ{es pre post:T0 D}{d:D}(e:pre++d::post=uU 0 es):∃x,es[pre.length]?=Fa x/\d=.tup [.int (pre.length:Nat),x]:=by
 have h:(uU 0 es)[pre.length]?=Fa d:=by rw[<-e];simp
 rw[Aq]at h;cases q:es[pre.length]? with
 | none=>rw[q]at h;cases h
 | some x=>rw[q]at h;refine⟨x,Z',?_⟩;have:=(dv h).symm;rw[mL]at this;exact this
def vT(n:Nat):∀es:T0 D,(uU n es).length=es.length:=λes=>by
 have h:∀i:Nat,(uU n es)[i]?=Db↔es[i]?=Db:=λi=>by rw[Aq];cases es[i]?<;>simp
 have a:=(h es.length).mpr (gN (dw _));have b:=(h (uU n es).length).mp (gN (dw _));rw[List.getElem?_eq_none_iff]at a b;lia
def JW{l:pU}{V:qB}{f:Wi->Bool}{tt:Bf}{ok:Mp->Prop}{Q:DK}{M:Mp}{rest:T0 (Option D)}(hl:V.on.length=l.mT.length)(h16:l.mT.length<=16)(m9:ok M) (ht:∀(i:Nat) (w:vJ),l.mT[i]?=Fa w->∀(y:Option D) (k:Bool->Mp->Prop),k (f w.2) M->tt (Fa (.int (i:Nat))::y::rest) M k) (q:∀p,M p=Db->Q (.ref p) (pT M p (.lst ((BM l V f).map λn=>D.int (n:Nat))))):
  vE (Ru 2 (yf (sC 0) (yf (sC 1) Cj))) (PU (b3 (v3 1)) tt) (v3 0) ok Q (uU 0 (V.on.map D.bl)) [] (Db::Db::rest) M:=by
 have hz:=dP;refine yO (uU 0 (V.on.map D.bl)) (λpre acc U M'=>M=M'/\acc=((List.range pre.length).filter λi=>V.on.getD i lf&&(l.mT[i]?).elim lf λw=>f w.2).map (λn=>D.int (n:Nat))/\∃y1 y2,U=y1::y2::rest) (λ_ _ _ M' j=>by rw[<-j.1];exact m9) _ [] [] _ _ Z' ?_ ⟨Z',Z',Db,Db,Z'⟩ ?_ ?_
 .rw[vT,cW,hl];simp only[dJ];lia
 .rintro pre d post e acc U M' ⟨rfl,rfl,y1,y2,rfl⟩ k k2 hk Zg
  obtain⟨x,hx,rfl⟩:=EZ e;rw[cZ,dQ,jb,iH]at hk Zg;rw[dz]at hx;cases eo:V.on[pre.length]? with
  | none=>rw[eo]at hx;cases hx
  | some b=>
   rw[eo]at hx;have hx:D.bl b=x:=dv hx;subst hx;have hi:pre.length<l.mT.length:=by rw[<-hl];exact(cY.mp eo).1
   have ew:l.mT[pre.length]?=Fa l.mT[pre.length]:=c9 hi;generalize l.mT[pre.length]=w0 at ew;have eg:V.on.getD pre.length lf=b:=by rw[gm,eo];rfl
   have no:(b&&f w0.2)=lf->k2 (Fa (.int (pre.length:Nat))::Fa (.bl b)::rest) M:=λg=>by refine Zg _ _ ⟨Z',?_,_,_,Z'⟩;rw[gG (by rw[eg,ew];show ¬(b&&f w0.2)=pc;rw[g];exact dC),h9,eN]
   refine⟨Z',?_⟩;show if b=pc then _ else _
   cases b with
   | false=>exact O8 (no Z')
   | true=>
    refine LG (ht _ _ ew _ _ ?_);cases g:f w0.2 with
    | false=>exact O8 (no (by rw[g];rfl))
    | true=>refine LG (hk _ _ _ ⟨Z',?_,_,_,Z'⟩);rw[gF (by rw[eg,ew];show(pc&&f w0.2)=pc;rw[g];rfl),h9,dM];rfl
 .rintro acc U M' ⟨rfl,rfl,y1,y2,rfl⟩ p hp
  rw[vT,cW];exact q p hp
def BV(h:tD a M rs ws){i:Nat}{w:vJ}(e:ws[i]?=Fa w):∃r,vY (rs.map D.ref) (i:Nat)=Fa (.ref r)/\M r=Fa (.ins (w.2.cls a) w.2.nW):=by
 have hi:i<rs.length:=by rw[h.1];exact(cY.mp e).1
 exact⟨rs[i],tU (by rw[dz,c9 hi];rfl),h.2 i _ w (c9 hi) e⟩
def MA(ds:T0 D)(m:Nat):L3.ut ds Db (Fa (m:Int))=ds.take m:=by
 unfold L3.ut;rw[HT.Cm,HT.Jj,jm,lz];by_cases h:m<=ds.length
 .rw[j3 h]
 .rw[Nat.min_eq_right (by lia),fv,ia (by lia)]
def IP(ds:T0 D)(m:Nat)(h:m<=ds.length):L3.ut ds (Fa (m:Int)) Db=ds.drop m:=by unfold L3.ut;rw[HT.Cm,HT.Jj,j3 h];exact ia (by rw[gp];exact dw _)
def u9(l:pU)(V:qB):Prop:=∀z∈l.nm,(l.m7 z=="turns")=pc->∃v,V.ps.find? (λp=>decide (p.1=z))=Fa v/\0<=v.2/\v.2<=((l.mS z).length:Int)
def LM{V:qB}(h:u9 l V){z:Str}(hz:z∈l.nm)(e:(l.m7 z=="turns")=pc):wk (ua V.ps) (.inr z)=Fa (.int (Al V z:Nat))/\Al V z<=(l.mS z).length:=by
 obtain⟨v,e1,e2,e3⟩:=h z hz e;have h1:Al V z=v.2.toNat:=by unfold Al;rw[e1];rfl
 have h2:wk (ua V.ps) (.inr z)=(V.ps.find? λp=>decide (p.1=z)).map λp=>D.int p.2:=yN (λp:Str×Int=>p.1) (λp=>D.int p.2) z V.ps;rw[h2,e1,h1];exact⟨by show Fa (D.int v.2)=Fa (.int (v.2.toNat:Nat));rw[Int.toNat_of_nonneg e2],by lia⟩
def IL(a:Ad):rO:=λds M Q=>HE λA V l c z=>ds=[.ref A.b,.str c,.str z]/\Rd a M A V l/\z∈l.nm/\Q (vG (zO l V c z)) M
def Pr(a:Ad):rO:=λds M Q=>HE λA V l c z=>ds=[.ref A.b,.str c,.str z]/\Rd a M A V l/\z∈l.nm/\u9 l V/\Q (names (xY l V c z)) M
def Of(a:Ad):rO:=λds M Q=>HE λA V l c z=>ds=[.ref A.b,.str c,.str z]/\Rd a M A V l/\z∈l.nm/\u9 l V/\Q (HH l V c z).d M
def K':rO:=λds M Q=>Ea λx r z=>ds=[.tup (.str x::r),.str z]/\Q (if (x=="wait")=pc then(vM.waits z).d else if (x=="break")=pc then(vM.breaks z).d else vM.barred.d) M
def qX(st:sO):T0 D:=st.map λs=>.tup [.str s.1,vG s.2]
def MN(a:Ad):rO:=λds M Q=>Ry λA V l c z r way=>ds=[.ref A.b,.str c,.str z,.ref r]/\Rd a M A V l/\z∈l.nm/\u9 l V/\pq M r=Fa (List.map D.str way)/\way.length<=8000000/\∀q M',qJ M M'->M q=Db->pq M' q=Fa (qX (tM l V c z way).2)->Q (.tup [(tM l V c z way).1.d,.ref q]) M'
def Gd{V:qB}{f:Wi->Bool}{i:Nat}(h:i∈BM l V f):∃w,l.mT[i]?=Fa w/\f w.2=pc:=by
 have h:=(fC.mp h).2;rw[dZ]at h;cases e:l.mT[i]? with
 | none=>rw[e]at h;cases h.2
 | some w=>rw[e]at h;exact⟨w,Z',h.2⟩
def Jo(l:pU)(way:QQQ):Nat:=(l.nm.filter λx=>!(hasS way x)).length
def B7{l:pU}{z:Str}(hz:z∈l.nm)(h:hasS way z=lf):Jo l (way++[z])<Jo l way:=by
 unfold Jo;have e:(l.nm.filter λx=>!(hasS (way++[z]) x))=(l.nm.filter λx=>!(hasS way x)).filter λx=>!(x==z):=by rw[List.filter_filter];refine jz λx _=>?_;unfold hasS;rw[mC];show(!(way.any (·==x)||((z==x)||false)))=_;rw[kG,Bool.not_or,Bool.and_comm,mF]
 rw[e];refine Nat.lt_of_le_of_ne (fW _ _) λg=>?_;have:=kS.mp (List.Sublist.eq_of_length fT g) z (fC.mpr ⟨hz,by rw[h];rfl⟩);simp at this
def Cf(ok:sf l){w:vJ}(hw:w∈l.mT){z y:Str}(h:JP z w.2=.inr y):y∈l.nm:=by
 have o:=ok.wo w hw;cases e:w.2 with
 | bar _ _=>rw[e]at h;cases h
 | shut _ _=>rw[e]at h;cases h
 | always x u=>rw[e]at h o;cases h;exact rE.mp o.2.1
 | night x u f m=>rw[e]at h o;cases h;exact rE.mp o.2.1
 | busy x u=>rw[e]at h o;cases h;exact rE.mp o.2.1
 | silent x u n=>rw[e]at h o;cases h;exact rE.mp o.2.1
 | wait _=>rw[e]at h;cases h
 | breaks _=>rw[e]at h;cases h
theorem B5(x:Str):∀ss:QQQ,x∈ss->AE (.str x) (ss.map D.str)=Fa (ss.findIdx (·==x))
 | [],h=>by cases h
 | y::r,h=>by
  rw[dY,List.findIdx_cons];unfold AE;show(if (y==x)=pc then Fa 0 else(AE (.str x) (r.map D.str)).map (·+1))=_;cases e:y==x with
  | true=>rfl
  | false=>
   rw[de dC];have hr:x∈r:=by
    rcases dh.mp h with g|g
    .rw[g,e9]at e;cases e
    .exact g
   rw[B5 x r hr];rfl
def IA:Fq P w K mg base 7 a.aR (IL a):=by
 refine fq G.aR.toDG Dc (λr u=>⟨_,(pK (qc 3 Dc (pQ (pQ v0)))
 (pL (pS (qK uC Z' G.E uu (qA (ra Z' (yH (ix:=[Db,Db,Fa 3,Fa 0,Fa 1,Fa 2]) (N':=["i","on","wishes","board","caller","target"])) (vK Z' G.bQ (qA (pQ v0))) (uX (n:=2) Z' (qE (qW 0) (qE (qW 1) tK))) (vV (W3.b3 (vv (vH U1) (vN (vH (FG (R:=ME a) (pV U2 v0) (R8 G) (r.mono (by first|decide|lia)) (rC U3 U4 v5))))))) v0)))))),?_⟩)
 rintro ds M Q ⟨A,V,l,c,z,rfl,rd,hz,q⟩
 obtain⟨ph,gr,ws,Zh,pr,gd,rs,i1,i2,i3,i4,i5,i6,i7,i8⟩:=rd.pl;refine pM rd.bd.at_ (i' Z' (pM i1 (i' Z' ?_)));refine pM rd.bd.at_ (i' Z' (i' rd.bd.on ?_));refine JW (rest:=[Fa (.ref ws),Fa (.ref A.b),Fa (.str c),Fa (.str z)]) rd.on rd.ok.pE rd.bd.on (λi w0 ew y k hk=>?_) λp hp=>i' pR ⟨M,.new hp,q⟩;obtain⟨r,e1,e2⟩:=BV i8 ew;refine i' i4 (i' e1 (pM e2 ⟨by cases w0.2<;>rfl,_,⟨w0.2,Z',Z'⟩,r,A,V,l,c,z,Z',e2,rd,hz,rd.ok.wo w0 (qV ew),hk⟩))
def Q3:Fq P w K mg base 5 a.aS (Pr a):=by
 refine fq G.aS.toDG ub (λr u=>⟨_,(pK (qc 3 ub (qv v0 G.c.toCls G.aM (Be G) r (sH U1 U2)))
 (pK (qg (pW u (qv (pQ v0) G.h.toCls G.aN (yz G) r (qA U2)) pO)
 (pL (pS (qK uC Z' G.E uu (qA U3))))
 pZ)
 (pK (qc 4 ub (qv (pQ v0) G.h.toCls G.Y (va G) r (qA U2)))
 (pK (qc 5 ub (zQ u (pQ v0) U2))
 (pK (vP (i:=6) ub.nd Z' (Or.inl Z') Z' (yH (ix:=[Db,Fa 3]) (N':=["phone","free"])) (qZ (qu (sW U4 (tL v5) uk) (sW U4 uk (tL v5)))) (qW 0) (vV (pW u v0 U1)) v0)
 (pL (pS (qK uC Z' G.E uu (qA (sW v6 uk (tL pN))))))))))),?_⟩)
 rintro ds M Q ⟨A,V,l,c,z,rfl,rd,YG,nx,q⟩
 have hz:=dP;have bd:=rd.bd;have pl:=rd.pl;obtain⟨ph,gr,ws,Zh,pr,gd,rs,i1,_⟩:=rd.pl;obtain⟨⟨_,tf,_⟩,_⟩:=rd.ok.of YG;refine pM bd.at_ ⟨Z',_,⟨Z',Z'⟩,A,V,l,c,z,Z',rd,YG,λq1 M1 s1 YM e1=>?_⟩;refine pM (s1 _ _ bd.at_) (i' Z' (pM (s1 _ _ i1) ⟨Z',_,⟨Z',Z'⟩,V.p,z,l,Z',pl.sub s1,?_⟩));unfold xY at q;cases e:l.m7 z=="turns" with
 | false=>rw[e]at q;exact Bw (c:=!(l.m7 z=="turns")) (by rw[e];rfl) (i' e1 ⟨M,s1,q⟩)
 | true=>
  obtain⟨hn,nl⟩:=LM nx YG e;generalize Al V z=n at hn nl q;rw[e,dg Z']at q;refine NW (c:=!(l.m7 z=="turns")) (by rw[e];rfl) ?_;refine pM (s1 _ _ bd.at_) (i' Z' (pM (s1 _ _ i1) ⟨Z',_,⟨Z',Z'⟩,V.p,z,l,Z',pl.sub s1,λq2 hq2=>?_⟩));have s2:=s1.trans (qJ.new (c:=.lst ((l.mS z).map D.str)) hq2);have c2:=@pR M1 q2 ((l.mS z).map D.str);have e2:=(qJ.new (c:=.lst ((l.mS z).map D.str)) hq2).lst e1;generalize pT M1 q2 (.lst ((l.mS z).map D.str))=M2 at s2 c2 e2 ⊢;refine pM (s2 _ _ bd.at_) (i' Z' (i' Z' (i' (s2.dk bd.nx) (i' hn ?_))));refine i' c2 λq3 hq3=>?_;rw[IP _ n (by rw[cW];exact nl),<-kK];have t3:=qJ.new (c:=.lst (((l.mS z).drop n).map D.str)) hq3;have c3':=@pR M2 q3 (((l.mS z).drop n).map D.str);generalize pT M2 q3 (.lst (((l.mS z).drop n).map D.str))=M3 at t3 c3' ⊢;refine i' (t3.lst c2) λq4 hq4=>?_;rw[MA,<-mG];have t4:=qJ.new (c:=.lst (((l.mS z).take n).map D.str)) hq4;have c4:=@pR M3 q4 (((l.mS z).take n).map D.str);generalize pT M3 q4 (.lst (((l.mS z).take n).map D.str))=M4 at t4 c4 ⊢;refine i' (t4.lst c3') (i' c4 ?_);refine⟨by rw[cW,cW,gp,fm];lia,λq5 hq5=>i' pR ?_⟩;rw[<-dM];have t5:=qJ.new (c:=.lst ((vI (l.mS z) n).map D.str)) hq5;have c5:=@pR M4 q5 ((vI (l.mS z) n).map D.str);show vE _ _ _ _ _ ((vI (l.mS z) n).map D.str) _ _ (pT M4 q5 (.lst ((vI (l.mS z) n).map D.str)));generalize pT M4 q5 (.lst ((vI (l.mS z) n).map D.str))=M5 at t5 c5 ⊢;have s5:=t3.trans (t4.trans t5);have e5:=s5.lst e2;have tl:(vI (l.mS z) n).length<=200:=by unfold vI;rw[cZ,gp,fm];lia
  refine tP (f:=id) (t:=λd=>inD d ((vb l V c z).map D.str)) c5 _ [] _ (by rw[cW];simp only[dJ];lia) (λd hd k hk=>?_) (λd hd _ k hk=>?_) λq6 hq6=>?_
  .obtain⟨x,hx,rfl⟩:=dF.mp hd;exact i' e5 ⟨Z',qN _,hk⟩
  .obtain⟨x,hx,rfl⟩:=dF.mp hd;exact hk
  .have ef:[]++(List.filter (λd=>inD d ((vb l V c z).map D.str)) ((vI (l.mS z) n).map D.str)).map id=((vI (l.mS z) n).filter λx=>hasS (vb l V c z) x).map D.str:=by
    rw[d6,iL,gO];have:((λd=>inD d ((vb l V c z).map D.str))∘D.str)=λx=>hasS (vb l V c z) x:=by funext x;exact tq _ _
    rw[this]
   rw[ef];refine i' pR λq7 hq7=>i' pR ?_;rw[show L3.ut (((vI (l.mS z) n).filter λx=>hasS (vb l V c z) x).map D.str) Db (Fa (1:Int))=(((vI (l.mS z) n).filter λx=>hasS (vb l V c z) x).take 1).map D.str from(MA _ 1).trans (mG).symm];exact⟨M,s2.trans (s5.trans ((qJ.new hq6).trans (.new hq7))),q⟩
def Mg:Fq P w K mg base 6 a.aT (Of a):=by
 refine fq G.aT.toDG vD (λr u=>⟨_,(pK (qc 3 vD (pX (Q3 G) r G.aS (rC v0 U1 U2)))
 (pK (qg (pW u (qm qP Z' G.g qL (qA U3)) pN)
 (pL (pS (qd (sH pO U2))))
 pZ)
 (pL (pS (qd (rC pO U2 U3)))))),?_⟩)
 rintro ds M Q ⟨A,V,l,c,z,rfl,rd,hz,nx,q⟩
 refine⟨A,V,l,c,z,Z',rd,hz,nx,?_⟩;unfold HH at q;cases e:xY l V c z with
 | nil=>rw[e]at q;exact⟨pI Z',M,.refl,q⟩
 | cons x r=>rw[e]at q;exact⟨pI Z',M,.refl,q⟩
def Kq:Fq P w K mg base 1 a.aU K':=by
 refine fq G.aU.toDG AL (λr u=>⟨_,(pK (qg (pW u (pV v0 pN) pO)
 (pL (pS (qd (sH pO U1))))
 pZ)
 (pK (qg (pW u (pV v0 pN) pO)
 (pL (pS (qd (sH pO U1))))
 pZ)
 (pL (pS (qd (qA pO)))))),?_⟩)
 rintro ds M Q ⟨x,r,z,rfl,q⟩
 refine i' (xO _ _) (qU (c:=x=="wait") (λg=>?_) (λg=>?_))
 .rw[dg g]at q;exact⟨pI Z',M,.refl,q⟩
 rw[de g]at q;refine i' (xO _ _) (qU (c:=x=="break") (λg=>?_) (λg=>?_))
 .rw[dg g]at q;exact⟨pI Z',M,.refl,q⟩
 rw[de g]at q;exact⟨pI Z',M,.refl,q⟩
def GU:Fq P w K mg base 8 a.ab (MN a):=by
 refine fq G.ab.toDG xh (λr u=>⟨_,(pK (qc 4 xh (qK uj Z' G.y uh (qA U3)))
 (pK (qc 5 xh (qQ so))
 (pK (MP eU (pW u U2 U4)
 (pK (qe (rk U4 (qA U2)))
 (pK (qc 6 xh (pX (IA G) r G.aR (rC v0 U1 U2)))
 (pK (qe (rk v5 (qA (qd (sH U2 v6)))))
 (pK (qg (pW u (qm qP Z' G.g qL (qA v6)) pN)
 (pL (pS (qd (sH (pX (Mg G) r G.aT (rC v0 U1 U2)) v5))))
 pZ)
 (pK (qc 7 xh (Ci (R:=Jy a) (pV (pQ (pQ v0)) (pV v6 pN)) (Ra G) (r.mono (by first|decide|lia))))
 (pK (qg (pW u (pV v7 pN) pO)
 (pL (pS (qd (sH (pX (Kq G) r G.aU (sH v7 U2)) v5))))
 pZ)
 (pL (qc 2 xh (pV v7 pN))))))))))
 (pL (pS (qd (sH (qd (sH pO (qK uC Z' G.E uu (qA (sW U4 (tL (yg U4 (qA U2))) uk))))) v5))))))),?_⟩)
 rintro ds M Q ⟨A,V,l,c,z0,r,Y8,rfl,rd,hz0,nx,hr0,hw0,q⟩
 have hz:=dP;have p8:=rd.ok.p8;have g3:=rd.ok.g3;have nl:l.nm.length<=11:=by unfold pU.nm pU.pn pU.gn;rw[cZ,cW,cW];lia
 refine i' hr0 λp1 ZT=>⟨pI Z',λp2 X4=>?_⟩;have t1:=qJ.new (c:=.lst (Y8.map D.str)) ZT;have t2:=qJ.new (c:=.lst []) X4;have c1:pq (pT (pT M p1 (.lst (Y8.map D.str))) p2 (.lst [])) p1=Fa (Y8.map D.str):=t2.lst pR;have c2:=@pR (pT M p1 (.lst (Y8.map D.str))) p2 [];have n12:p2≠p1:=λy=>by rw[y,qh]at X4;cases X4
 have m2:M p2=Db:=t1.none X4;have s2:=t1.trans t2;generalize pT (pT M p1 (.lst (Y8.map D.str))) p2 (.lst [])=M2 at c1 c2 s2 ⊢;refine⟨λm U M'=>∃z way st,qJ M M'/\pq M' p1=Fa (List.map D.str way)/\pq M' p2=Fa (qX st)/\z∈l.nm/\Jo l way<m/\way.length+m<=8000012/\st.length+m<=100/\vw l V c m z way st=tM l V c z0 Y8/\∃y6 y7,U=[Fa (.ref A.b),Fa (.str c),Fa (.str z),Fa (.ref r),Fa (.ref p1),Fa (.ref p2),y6,y7],⟨l.nm.length+1,z0,Y8,[],s2,c1,c2,hz0,Nat.lt_succ_of_le (fW _ _),by lia,by show 0+(l.nm.length+1)<=100;lia,Z',Db,Db,Z'⟩,?_⟩
 rintro m U M' ⟨z,way,st,sM,l1,l2,YG,XZ,Z1,ZO,er,y6,y7,rfl⟩
 obtain⟨m,rfl⟩:∃k,m=k+1:=⟨m - 1,by lia⟩;have q2:∀XU,qJ M XU->pq XU p2=Fa (qX (vw l V c (m+1) z way st).2)->Q (.tup [(vw l V c (m+1) z way st).1.d,.ref p2]) XU:=λXU s ll=>by rw[er]at ll ⊢;exact q p2 XU s m2 ll
 clear q;unfold vw at er q2;refine i' l1 ⟨Z',qN way,?_⟩;show if (!(inD (.str z) (way.map D.str)))=pc then _ else _
 rw[tq];refine qU (c:=!(hasS way z)) (λh1=>?_) (λh1=>?_)
 rotate_left
 .
  have h1:hasS way z=pc:=by simpa using h1
  rw[dg h1]at q2;refine⟨by show(pq M' p1).isSome=pc;rw[l1];rfl,i' l1 ⟨Z',qN _,i' (B5 z way (rE.mp h1)) (i' l1 λp3 hp3=>?_)⟩⟩;have hle:way.findIdx (·==z)<=(way.map D.str).length:=by rw[cW];exact List.findIdx_le_length
  rw[IP _ _ hle,<-kK];refine i' pR ⟨pI Z',pI Z',_,.refl,q2 _ (sM.trans (.new hp3)) ((qJ.new hp3).lst l2)⟩
 have h1:hasS way z=lf:=by simpa using h1
 rw[h1,de dC]at er q2;refine⟨by show(pq M' p1).isSome=pc;rw[l1];rfl,i' l1 ⟨by rw[cW];lia,?_⟩⟩;have k3:sy p1 M' (pT M' p1 (.lst (way.map D.str++[D.str z]))):=.put;have s3:qJ M (pT M' p1 (.lst (way.map D.str++[D.str z]))):=λx d hx=>by rw[uW (OJ hx ZT)];exact sM x d hx
 have c3:=k3.lst n12 l2;have l3:pq (pT M' p1 (.lst (way.map D.str++[D.str z]))) p1=Fa ((way++[z]).map D.str):=by rw[pR,dM];rfl
 generalize pT M' p1 (.lst (way.map D.str++[D.str z]))=M3 at s3 c3 l3 ⊢;refine⟨A,V,l,c,z,Z',rd.sub s3,YG,?_⟩;generalize hf:zO l V c z=fs at er q2 ⊢;refine⟨by show(pq M3 p2).isSome=pc;rw[c3];rfl,pI Z',i' c3 ⟨by unfold qX;rw[cW];lia,?_⟩⟩;have es:qX st++[.tup [.str z,vG fs]]=qX (st++[(z,fs)]):=by unfold qX;rw[dM];rfl
 rw[es];have s4:qJ M (pT M3 p2 (.lst (qX (st++[(z,fs)])))):=λx d hx=>by rw[uW (OJ hx m2)];exact s3 x d hx
 have c4:=@pR M3 p2 (qX (st++[(z,fs)]));have l4:pq (pT M3 p2 (.lst (qX (st++[(z,fs)])))) p1=Fa ((way++[z]).map D.str):=sy.lst .put (dS n12) l3;generalize pT M3 p2 (.lst (qX (st++[(z,fs)])))=M4 at s4 c4 l4 ⊢;cases fs with
 | nil=>exact⟨A,V,l,c,z,Z',rd.sub s4,YG,nx,pI Z',M4,.refl,q2 M4 s4 c4⟩
 | cons i fr=>
  obtain⟨w0,ew,_⟩:=Gd (l:=l) (V:=V) (f:=Ap l V c z) (i:=i) (by show i∈zO l V c z;rw[hf];exact dI);dsimp only at er q2;rw[ew]at er q2;dsimp only[Option.elim]at er q2;obtain⟨ph,gr,ws,Zh,pr,gd,rs,i1,i2,i3,i4,i5,i6,i7,i8⟩:=(rd.sub s4).pl;obtain⟨rw0,e1,e2⟩:=BV i8 ew;have hwo:=rd.ok.wo w0 (qV ew);have hnm:∀y,JP z w0.2=.inr y->y∈l.nm:=λy h=>Cf rd.ok (qV ew) h;refine pM (s4 _ _ rd.bd.at_) (i' Z' (pM i1 (i' Z' (i' (xO _ _) (i' i4 (i' e1 ?_))))));cases hv:w0.2 with
  | bar x ns=>rw[hv]at q2 e2;exact pM e2 ⟨Z',_,.inl ⟨.inl Z',Z'⟩,rw0,Z',⟨"end",[],z,Z',pI Z',M4,.refl,q2 M4 s4 c4⟩⟩
  | shut x ns=>rw[hv]at q2 e2;exact pM e2 ⟨Z',_,.inl ⟨.inr Z',Z'⟩,rw0,Z',⟨"end",[],z,Z',pI Z',M4,.refl,q2 M4 s4 c4⟩⟩
  | wait x=>rw[hv]at q2 e2;exact pM e2 ⟨Z',_,.inr (.inr (.inl ⟨Z',Z'⟩)),rw0,_,_,_,Z',e2,Z',⟨"wait",_,z,Z',pI Z',M4,.refl,q2 M4 s4 c4⟩⟩
  | breaks x=>rw[hv]at q2 e2;exact pM e2 ⟨Z',_,.inr (.inr (.inr ⟨Z',Z'⟩)),rw0,Z',⟨"break",_,z,Z',pI Z',M4,.refl,q2 M4 s4 c4⟩⟩
  | always x y=>rw[hv]at er e2 hnm;exact pM e2 ⟨Z',_,.inr (.inl ⟨.inl Z',Z'⟩),rw0,_,_,_,Z',e2,Z',⟨m,fE _,y,way++[z],st++[(z,i::fr)],s4,l4,c4,hnm y Z',by have:=B7 YG h1;lia,by rw[cZ];show way.length+1+m<=_;lia,by rw[cZ];show st.length+1+m<=_;lia,er,_,_,Z'⟩⟩
  | night x y f mm=>rw[hv]at er e2 hnm;exact pM e2 ⟨Z',_,.inr (.inl ⟨.inr (.inl Z'),Z'⟩),rw0,_,_,_,Z',e2,Z',⟨m,fE _,y,way++[z],st++[(z,i::fr)],s4,l4,c4,hnm y Z',by have:=B7 YG h1;lia,by rw[cZ];show way.length+1+m<=_;lia,by rw[cZ];show st.length+1+m<=_;lia,er,_,_,Z'⟩⟩
  | busy x y=>rw[hv]at er e2 hnm;exact pM e2 ⟨Z',_,.inr (.inl ⟨.inr (.inr (.inl Z')),Z'⟩),rw0,_,_,_,Z',e2,Z',⟨m,fE _,y,way++[z],st++[(z,i::fr)],s4,l4,c4,hnm y Z',by have:=B7 YG h1;lia,by rw[cZ];show way.length+1+m<=_;lia,by rw[cZ];show st.length+1+m<=_;lia,er,_,_,Z'⟩⟩
  | silent x y n=>rw[hv]at er e2 hnm;exact pM e2 ⟨Z',_,.inr (.inl ⟨.inr (.inr (.inr Z')),Z'⟩),rw0,_,_,_,Z',e2,Z',⟨m,fE _,y,way++[z],st++[(z,i::fr)],s4,l4,c4,hnm y Z',by have:=B7 YG h1;lia,by rw[cZ];show way.length+1+m<=_;lia,by rw[cZ];show st.length+1+m<=_;lia,er,_,_,Z'⟩⟩
noncomputable def zj(V:qB)(i:Nat)(c:pP):qB:={V with calls:=V.calls.set i c}
def sT(V:qB)(i:Nat)(c d:pP):zj (zj V i c) i d=zj V i d:=by unfold zj;rw[ja]
structure CI(a:Ad)(M:Mp)(A:sA)(V:qB)(i:Nat)(k:rS)(c:pP):Prop where
 bd:qa a M A V
 e1:A.cs[i]?=Fa k
 e2:V.calls[i]?=Fa c
noncomputable def cF(x:Str)(wy ad md:Uf)(k:Nat):T0 (Str×D):=List.take (α:=Str×D) k [("state",.str "rings"),("caller",.str x),("way",.ref wy),("at",.ref ad),("members",.ref md),("holder",.mY),("since",.int 0)]
variable {M':Mp}{i:Nat}{k:rS}
section
variable {c:pP}
def CI.cell(h:CI a M A V i k c):sv a M (A.lists++V.fo) k c:=h.bd.cs i k c h.e1 h.e2
def CI.sub(h:CI a M A V i k c)(s:qJ M M'):CI a M' A V i k c:=⟨h.bd.sub s,h.e1,h.e2⟩
def CI.put(h:CI a M A V i k c)(c':pP){ad md:Uf}(ew:c'.way=c.way)(la:pq M ad=Fa (c'.at_.map D.str))(lm:pq M md=Fa (c'.ms.map D.str))(na:ad∉A.lists++V.fo)(nm:md∉A.lists++V.fo):
  CI a (pT M k.p (.ins a.e (rQ c' k.wy ad md))) A (zj V i c') i k c'/\rh A M A (pT M k.p (.ins a.e (rQ c' k.wy ad md))):=by
 obtain⟨b,s⟩:=h.bd.oE h.e1 h.e2 ew la lm na nm;refine⟨⟨b,h.e1,?_⟩,s⟩;show(V.calls.set i c')[i]?=Fa c';rw[eO (cY.mp h.e2).1]
end
inductive RP(i:Nat)(c:pP):Ev->pP->Prop
 | rings (ps:QQQ):RP i c (.rings i ps) (c.ring ps)
 | quiet:RP i c (.quiet i) c.nL
 | waits (x:Str):RP i c (.waits i x) (c.wait x)
 | talks (ms:QQQ):RP i c (.talks i ms) (c.nS ms)
 | held (x:Str):RP i c (.held i x) (c.hold x)
 | leaves (x:Str):RP i c (.leaves i x) (c.drop x)
 | over (w:Str):RP i c (.over i w) (c.over w)
def Ho(a:Ad):rO:=λds M Q=>CP λp x=>ds=[.ref p,.str x]/\M p=Fa (.ins a.e [])/\∀M' wy ad md,sy p M M'->M wy=Db->M ad=Db->M md=Db->ad≠wy->md≠wy->M' p=Fa (.ins a.e (rQ (zB x) wy ad md))->pq M' wy=Fa []->pq M' ad=Fa []->pq M' md=Fa []->Q .mY M'
def P'(a:Ad):rO:=λds M Q=>K0 λA V i k c w=>ds=[.ref k.p,.str w]/\CI a M A V i k c/\∀M',rh A M A M'->qa a M' A (zj V i (c.over w))->Q .mY M'
def LC(a:Ad):rO:=λds M Q=>K0 λA V i k c x=>ds=[.ref k.p,.str x]/\CI a M A V i k c/\c.at_.length<=100/\c.ms.length<=100/\∀M',rh A M A M'->qa a M' A (zj V i (c.drop x))->Q .mY M'
def Kk(a:Ad):rO:=λds M Q=>Ry λA V i k c e c'=>ds=[.ref k.p,Ev.d e]/\CI a M A V i k c/\c.at_.length<=100/\c.ms.length<=100/\RP i c e c'/\∀M',rh A M A M'->qa a M' A (zj V i c')->Q .mY M'
def PR:Fq P w K mg base 1 a.an (Ho a):=by
 refine fq G.an.toDG FU (λr u=>⟨_,(pK (qy v0 pO)
 (pK (qy v0 U1)
 (pK (qy v0 (qQ so))
 (pK (qy v0 (qQ so))
 (pK (qy v0 (qQ so))
 (pK (qy v0 sL)
 (pK (qy v0 pN)
 (pL (qy v0 sL))))))))),?_⟩)
 rintro ds M Q ⟨p,x,rfl,hb,q⟩
 refine pM hb ⟨(G.j "state" Z'),by show 0<1000;decide,?_⟩;have k1:sy p M (pT M p (.ins a.e [("state",.str "rings")])):=.put;have b1:pT M p (.ins a.e [("state",.str "rings")]) p=Fa (.ins a.e [("state",.str "rings")]):=qh;show vc _ _ _ _ (pT M p (.ins a.e [("state",.str "rings")]));generalize pT M p (.ins a.e [("state",.str "rings")])=N1 at k1 b1 ⊢;refine pM b1 ⟨(G.j "caller" Z'),by show 1<1000;decide,?_⟩;have k2:=k1.trans (sy.put (p:=p) (c:=.ins a.e [("state",.str "rings"),("caller",.str x)]));have b2:pT N1 p (.ins a.e [("state",.str "rings"),("caller",.str x)]) p=Fa (.ins a.e [("state",.str "rings"),("caller",.str x)]):=qh;show vc _ _ _ _ (pT N1 p (.ins a.e [("state",.str "rings"),("caller",.str x)]));generalize pT N1 p (.ins a.e [("state",.str "rings"),("caller",.str x)])=N2 at k2 b2 ⊢;refine⟨pI Z',λwy hwy=>?_⟩;obtain⟨n3,e3,k3,c3,b3⟩:=tS (fs':=(cF x wy 0 0 3)) (c:=.lst []) b2 hwy;refine pM e3 ⟨(G.j "way" Z'),by show 2<1000;decide,?_⟩;show vc _ _ _ _ (pT (pT N2 wy (.lst [])) p (.ins a.e (cF x wy 0 0 3)));generalize pT (pT N2 wy (.lst [])) p (.ins a.e (cF x wy 0 0 3))=N3 at k3 c3 b3 ⊢;have z1:M wy=Db:=se k2 b2 hwy;have kk3:=k2.trans k3;have l3:pq N3 wy=Fa []:=rR c3;refine⟨pI Z',λad had=>?_⟩;obtain⟨n4,e4,k4,c4,b4⟩:=tS (fs':=(cF x wy ad 0 4)) (c:=.lst []) b3 had;refine pM e4 ⟨(G.j "at" Z'),by show 3<1000;decide,?_⟩;show vc _ _ _ _ (pT (pT N3 ad (.lst [])) p (.ins a.e (cF x wy ad 0 4)));generalize pT (pT N3 ad (.lst [])) p (.ins a.e (cF x wy ad 0 4))=N4 at k4 c4 b4 ⊢;have z2:M ad=Db:=se kk3 b3 had;have ZU:=kk3.trans k4;have naw:ad≠wy:=λz=>by rw[z,c3]at had;cases had
 have l4:=k4.lst (qr l3 b3) l3;have m4:pq N4 ad=Fa []:=rR c4;refine⟨pI Z',λmd hmd=>?_⟩;obtain⟨n5,e5,k5,c5,b5⟩:=tS (fs':=(cF x wy ad md 5)) (c:=.lst []) b4 hmd;refine pM e5 ⟨(G.j "members" Z'),by show 4<1000;decide,?_⟩;show vc _ _ _ _ (pT (pT N4 md (.lst [])) p (.ins a.e (cF x wy ad md 5)));generalize pT (pT N4 md (.lst [])) p (.ins a.e (cF x wy ad md 5))=N5 at k5 c5 b5 ⊢;have z3:M md=Db:=se ZU b4 hmd;have ZV:=ZU.trans k5;have nmw:md≠wy:=λz=>by rw[z,ql l4]at hmd;cases hmd
 have l5:=k5.lst (qr l4 b4) l4;have m5:=k5.lst (qr m4 b4) m4;have o5:pq N5 md=Fa []:=rR c5;refine pM b5 ⟨(G.j "holder" Z'),by show 5<1000;decide,?_⟩;have k6:sy p N5 (pT N5 p (.ins a.e (cF x wy ad md 6))):=.put;have b6:pT N5 p (.ins a.e (cF x wy ad md 6)) p=Fa (.ins a.e (cF x wy ad md 6)):=qh;show vc _ _ _ _ (pT N5 p (.ins a.e (cF x wy ad md 6)));generalize pT N5 p (.ins a.e (cF x wy ad md 6))=N6 at k6 b6 ⊢;refine pM b6 ⟨(G.j "since" Z'),by show 6<1000;decide,?_⟩;have k7:=k6.trans (sy.put (p:=p) (c:=.ins a.e (cF x wy ad md 7)));have b7:pT N6 p (.ins a.e (cF x wy ad md 7)) p=Fa (.ins a.e (cF x wy ad md 7)):=qh;rw[show wN "since" (.int 0) (cF x wy ad md 6)=(cF x wy ad md 7)from Z'];generalize pT N6 p (.ins a.e (cF x wy ad md 7))=N7 at k7 b7 ⊢;refine pM b7 ⟨(G.j "word" Z'),by show 7<1000;decide,_,.refl,?_⟩;have k8:=k7.trans (sy.put (p:=p) (c:=.ins a.e (rQ (zB x) wy ad md)));exact q _ wy ad md (ZV.trans k8) z1 z2 z3 naw nmw qh (k8.lst (qr l5 b5) l5) (k8.lst (qr m5 b5) m5) (k8.lst (qr o5 b5) o5)
def Jx:Fq P w K mg base 1 a.ae (P' a):=by
 refine fq G.ae.toDG G8 (λr u=>⟨_,(pK (qy v0 pO)
 (pK (qy v0 U1)
 (pK (qy v0 (qQ so))
 (pK (qy v0 (qQ so))
 (pL (qy v0 sL)))))),?_⟩)
 rintro ds M Q ⟨A,V,i,k,c,w0,rfl,h,q⟩
 obtain⟨ad,md,h1,h2,h3,h4,n1,n2⟩:=h.cell;refine pM h1 ⟨(G.j "state" Z'),by show 8<1000;decide,?_⟩;obtain⟨g1,s1⟩:=h.put {c with st:="over"} Z' h3 h4 n1 n2;show vc _ _ _ _ (pT M k.p (.ins a.e (rQ {c with st:="over"} k.wy ad md)));generalize pT M k.p (.ins a.e (rQ {c with st:="over"} k.wy ad md))=M1 at g1 s1 ⊢;clear h1 h2 h3 h4 n1 n2;obtain⟨ad,md,h1,h2,h3,h4,n1,n2⟩:=g1.cell;refine pM h1 ⟨(G.j "word" Z'),by show 8<1000;decide,?_⟩;obtain⟨g2,s2⟩:=g1.put {c with st:="over",wd:=some w0} Z' h3 h4 n1 n2;show vc _ _ _ _ (pT M1 k.p (.ins a.e (rQ {c with st:="over",wd:=some w0} k.wy ad md)));generalize pT M1 k.p (.ins a.e (rQ {c with st:="over",wd:=some w0} k.wy ad md))=M2 at g2 s2 ⊢;clear h1 h2 h3 h4 n1 n2;refine⟨pI Z',λp hp=>?_⟩;have t3:=qJ.new (c:=.lst []) hp;have lp:=@pR M2 p [];have np:=g2.bd.nH hp;have g2':=g2.sub t3;have s2':=s2.trans (.sub t3);generalize pT M2 p (.lst [])=M2' at t3 lp g2' s2' ⊢;obtain⟨ad,md,h1,h2,h3,h4,n1,n2⟩:=g2'.cell;refine pM h1 ⟨(G.j "at" Z'),by show 8<1000;decide,?_⟩;obtain⟨g3,s3⟩:=g2'.put {c with st:="over",wd:=some w0,at_:=[]} Z' lp h4 np n2;show vc _ _ _ _ (pT M2' k.p (.ins a.e (rQ {c with st:="over",wd:=some w0,at_:=[]} k.wy p md)));generalize pT M2' k.p (.ins a.e (rQ {c with st:="over",wd:=some w0,at_:=[]} k.wy p md))=M3 at g3 s3 ⊢;clear h1 h2 h3 h4 n1 n2 lp t3 np g2 g2';refine⟨pI Z',λp2 X4=>?_⟩;have t4:=qJ.new (c:=.lst []) X4;have lp:=@pR M3 p2 [];have np:=g3.bd.nH X4;have g3':=g3.sub t4;have s3':=s3.trans (.sub t4);generalize pT M3 p2 (.lst [])=M3' at t4 lp g3' s3' ⊢;obtain⟨ad,md,h1,h2,h3,h4,n1,n2⟩:=g3'.cell;refine pM h1 ⟨(G.j "members" Z'),by show 8<1000;decide,?_⟩;obtain⟨g4,s4⟩:=g3'.put {c with st:="over",wd:=some w0,at_:=[],ms:=[]} Z' h3 lp n1 np;rw[show wN "members" (.ref p2) (rQ {c with st:="over",wd:=some w0,at_:=[]} k.wy ad md)=rQ {c with st:="over",wd:=some w0,at_:=[],ms:=[]} k.wy ad p2 from rfl];generalize pT M3' k.p (.ins a.e (rQ {c with st:="over",wd:=some w0,at_:=[],ms:=[]} k.wy ad p2))=M4 at g4 s4 ⊢;clear h1 h2 h3 h4 n1 n2 lp t4 np g3 g3';obtain⟨ad,md,h1,h2,h3,h4,n1,n2⟩:=g4.cell;refine pM h1 ⟨(G.j "holder" Z'),by show 8<1000;decide,_,.refl,?_⟩;obtain⟨g5,s5⟩:=g4.put (c.over w0) Z' h3 h4 n1 n2;refine q _ ((s1.trans s2').trans (s3'.trans (s4.trans s5))) ?_;have:=g5.bd;rw[sT,sT,sT,sT]at this;exact this
def MB:Fq P w K mg base 1 a.bb (LC a):=by
 refine fq G.bb.toDG DQ (λr u=>⟨_,(pK (qy v0 (ra Z' (yH (ix:=[Db,Fa 1]) (N':=["other","phone"])) (qZ (pQ v0)) (qW 0) (vV (pW u v0 U1)) v0))
 (pL (qy v0 (ra Z' (yH (ix:=[Db,Fa 1]) (N':=["other","phone"])) (qZ (pQ v0)) (qW 0) (vV (pW u v0 U1)) v0)))),?_⟩)
 rintro ds M Q ⟨A,V,i,k,c,x,rfl,h,la,lm,q⟩
 have hz:=dP;obtain⟨ad,md,h1,h2,h3,h4,n1,n2⟩:=h.cell;refine pM h1 (i' Z' (i' h3 (tP (f:=id) (t:=PJ x) h3 _ [] _ (by rw[cW];simp only[dJ];lia) (λd hd k0 hk=>?_) (λd hd _ k0 hk=>?_) λp hp=>?_)))
 .obtain⟨y,hy,rfl⟩:=dF.mp hd;exact hk
 .obtain⟨y,hy,rfl⟩:=dF.mp hd;exact hk
 rw[De];have t1:=qJ.new (c:=.lst ((rZ c.at_ x).map D.str)) hp;have lp:=@pR M p ((rZ c.at_ x).map D.str);have np:=h.bd.nH hp;have h':=h.sub t1;have s1:rh A M A (pT M p (.lst ((rZ c.at_ x).map D.str))):=.sub t1;generalize pT M p (.lst ((rZ c.at_ x).map D.str))=M1 at t1 lp h' s1 ⊢;clear h1 h2 h3 h4 n1 n2;obtain⟨ad,md,h1,h2,h3,h4,n1,n2⟩:=h'.cell;refine pM h1 ⟨(G.j "at" Z'),by show 8<1000;decide,?_⟩;obtain⟨g2,s2⟩:=h'.put {c with at_:=rZ c.at_ x} Z' lp h4 np n2;rw[show wN "at" (.ref p) (rQ c k.wy ad md)=rQ {c with at_:=rZ c.at_ x} k.wy p md from rfl];generalize pT M1 k.p (.ins a.e (rQ {c with at_:=rZ c.at_ x} k.wy p md))=M2 at g2 s2 ⊢;clear h1 h2 h3 h4 n1 n2 lp np;obtain⟨ad,md,h1,h2,h3,h4,n1,n2⟩:=g2.cell;refine pM h1 (i' Z' (i' h4 (tP (f:=id) (t:=PJ x) h4 _ [] _ (by rw[cW];simp only[dJ];show 0+c.ms.length<=Ch;lia) (λd hd k0 hk=>?_) (λd hd _ k0 hk=>?_) λp2 X4=>?_)))
 .obtain⟨y,hy,rfl⟩:=dF.mp hd;exact hk
 .obtain⟨y,hy,rfl⟩:=dF.mp hd;exact hk
 rw[De];have t3:=qJ.new (c:=.lst ((rZ c.ms x).map D.str)) X4;have lp:=@pR M2 p2 ((rZ c.ms x).map D.str);have np:=g2.bd.nH X4;have g2':=g2.sub t3;have s3:rh A M2 A (pT M2 p2 (.lst ((rZ c.ms x).map D.str))):=.sub t3;generalize pT M2 p2 (.lst ((rZ c.ms x).map D.str))=M3 at t3 lp g2' s3 ⊢;clear h1 h2 h3 h4 n1 n2;obtain⟨ad,md,h1,h2,h3,h4,n1,n2⟩:=g2'.cell;refine pM h1 ⟨(G.j "members" Z'),by show 8<1000;decide,_,.refl,?_⟩;obtain⟨g4,s4⟩:=g2'.put (c.drop x) Z' h3 lp n1 np;refine q _ ((s1.trans s2).trans (s3.trans s4)) ?_;have:=g4.bd;rw[sT]at this;exact this
def KC:Fq P w K mg base 2 a.bc (Kk a):=by
 refine fq G.bc.toDG yb (λr u=>⟨_,(pK (qc 2 yb (pV U1 pN))
 (pL (qg (pW u U2 pO)
 (pK (qy v0 pO)
 (pK (qy v0 (qK uj Z' G.y uh (qA (pV U1 pN))))
 (pL (qy v0 pN))))
 (pL (qg (pW u U2 pO)
 (pL (qy v0 (qQ so)))
 (pL (qg (pW u U2 pO)
 (pK (qy v0 pO)
 (pL (qy v0 (qQ (qA (pV U1 pN))))))
 (pL (qg (pW u U2 pO)
 (pK (qy v0 pO)
 (pK (qy v0 (qK uj Z' G.y uh (qA (pV U1 pN))))
 (pK (qy v0 (qQ so))
 (pL (qy v0 sL)))))
 (pL (qg (pW u U2 pO)
 (pK (qy v0 pO)
 (pL (qy v0 (pV U1 pN))))
 (pL (qg (pW u U2 pO)
 (pL (qe (pX (MB G) r G.bb (sH v0 (pV U1 pN)))))
 (pL (qg (pW u U2 pO)
 (pL (qe (pX (Jx G) r G.ae (sH v0 (pV U1 pN)))))
 pZ))))))))))))))),?_⟩)
 rintro ds M Q ⟨A,V,i,k,c,e,c',rfl,h,la,lm,hc,q⟩
 cases hc with
 | over w0=>exact⟨A,V,i,k,c,w0,Z',h,λM' s b=>⟨M',.refl,q M' s b⟩⟩
 | leaves x=>exact⟨A,V,i,k,c,x,Z',h,la,lm,λM' s b=>⟨M',.refl,q M' s b⟩⟩
 | quiet=>refine⟨pI Z',λp hp=>?_⟩;have t3:=qJ.new (c:=.lst []) hp;have lp:=@pR M p [];have np:=h.bd.nH hp;have g1:=h.sub t3;generalize pT M p (.lst [])=M1 at t3 lp g1 ⊢;obtain⟨ad,md,h1,h2,h3,h4,n1,n2⟩:=g1.cell;refine pM h1 ⟨(G.j "at" Z'),by show 8<1000;decide,_,.refl,?_⟩;obtain⟨g5,s5⟩:=g1.put c.nL Z' lp h4 np n2;exact q _ ((rh.sub t3).trans s5) g5.bd
 | waits x=>obtain⟨ad,md,h1,h2,h3,h4,n1,n2⟩:=h.cell;refine pM h1 ⟨(G.j "state" Z'),by show 8<1000;decide,?_⟩;obtain⟨g1,s1⟩:=h.put {c with st:="waits"} Z' h3 h4 n1 n2;show vc _ _ _ _ (pT M k.p (.ins a.e (rQ {c with st:="waits"} k.wy ad md)));generalize pT M k.p (.ins a.e (rQ {c with st:="waits"} k.wy ad md))=M1 at g1 s1 ⊢;clear h1 h2 h3 h4 n1 n2;refine⟨pI Z',λp hp=>?_⟩;have t3:=qJ.new (c:=.lst [D.str x]) hp;have lp:=@pR M1 p [D.str x];have np:=g1.bd.nH hp;have ZK:=g1.sub t3;generalize pT M1 p (.lst [D.str x])=M1' at t3 lp ZK ⊢;obtain⟨ad,md,h1,h2,h3,h4,n1,n2⟩:=ZK.cell;refine pM h1 ⟨(G.j "at" Z'),by show 8<1000;decide,_,.refl,?_⟩;obtain⟨g5,s5⟩:=ZK.put (c.wait x) Z' lp h4 np n2;refine q _ (s1.trans ((rh.sub t3).trans s5)) ?_;have:=g5.bd;rw[sT]at this;exact this
 | held x=>obtain⟨ad,md,h1,h2,h3,h4,n1,n2⟩:=h.cell;refine pM h1 ⟨(G.j "state" Z'),by show 8<1000;decide,?_⟩;obtain⟨g1,s1⟩:=h.put {c with st:="held"} Z' h3 h4 n1 n2;show vc _ _ _ _ (pT M k.p (.ins a.e (rQ {c with st:="held"} k.wy ad md)));generalize pT M k.p (.ins a.e (rQ {c with st:="held"} k.wy ad md))=M1 at g1 s1 ⊢;clear h1 h2 h3 h4 n1 n2;obtain⟨ad,md,h1,h2,h3,h4,n1,n2⟩:=g1.cell;refine pM h1 ⟨(G.j "holder" Z'),by show 8<1000;decide,_,.refl,?_⟩;obtain⟨g5,s5⟩:=g1.put (c.hold x) Z' h3 h4 n1 n2;refine q _ (s1.trans s5) ?_;have:=g5.bd;rw[sT]at this;exact this
 | rings ps=>obtain⟨ad,md,h1,h2,h3,h4,n1,n2⟩:=h.cell;refine pM h1 ⟨(G.j "state" Z'),by show 8<1000;decide,?_⟩;obtain⟨g1,s1⟩:=h.put {c with st:="rings"} Z' h3 h4 n1 n2;show vc _ _ _ _ (pT M k.p (.ins a.e (rQ {c with st:="rings"} k.wy ad md)));generalize pT M k.p (.ins a.e (rQ {c with st:="rings"} k.wy ad md))=M1 at g1 s1 ⊢;clear h1 h2 h3 h4 n1 n2;refine λp hp=>?_;have t3:=qJ.new (c:=.lst (ps.map D.str)) hp;have lp:=@pR M1 p (ps.map D.str);have np:=g1.bd.nH hp;have ZK:=g1.sub t3;have s1':=s1.trans (.sub t3);generalize pT M1 p (.lst (ps.map D.str))=M1' at t3 lp ZK s1' ⊢;obtain⟨ad,md,h1,h2,h3,h4,n1,n2⟩:=ZK.cell;refine pM h1 ⟨(G.j "at" Z'),by show 8<1000;decide,?_⟩;obtain⟨g3,s3⟩:=ZK.put {c with st:="rings",at_:=ps} Z' lp h4 np n2;rw[show wN "at" (.ref p) (rQ {c with st:="rings"} k.wy ad md)=rQ {c with st:="rings",at_:=ps} k.wy p md from rfl];generalize pT M1' k.p (.ins a.e (rQ {c with st:="rings",at_:=ps} k.wy p md))=M3 at g3 s3 ⊢;clear h1 h2 h3 h4 n1 n2 lp t3 np;obtain⟨ad,md,h1,h2,h3,h4,n1,n2⟩:=g3.cell;refine pM h1 ⟨(G.j "since" Z'),by show 8<1000;decide,_,.refl,?_⟩;obtain⟨g5,s5⟩:=g3.put (c.ring ps) Z' h3 h4 n1 n2;refine q _ (s1'.trans (s3.trans s5)) ?_;have:=g5.bd;rw[sT,sT]at this;exact this
 | talks ms=>obtain⟨ad,md,h1,h2,h3,h4,n1,n2⟩:=h.cell;refine pM h1 ⟨(G.j "state" Z'),by show 8<1000;decide,?_⟩;obtain⟨g1,s1⟩:=h.put {c with st:="talks"} Z' h3 h4 n1 n2;show vc _ _ _ _ (pT M k.p (.ins a.e (rQ {c with st:="talks"} k.wy ad md)));generalize pT M k.p (.ins a.e (rQ {c with st:="talks"} k.wy ad md))=M1 at g1 s1 ⊢;clear h1 h2 h3 h4 n1 n2;refine λp hp=>?_;have t3:=qJ.new (c:=.lst (ms.map D.str)) hp;have lp:=@pR M1 p (ms.map D.str);have np:=g1.bd.nH hp;have ZK:=g1.sub t3;have s1':=s1.trans (.sub t3);generalize pT M1 p (.lst (ms.map D.str))=M1' at t3 lp ZK s1' ⊢;obtain⟨ad,md,h1,h2,h3,h4,n1,n2⟩:=ZK.cell;refine pM h1 ⟨(G.j "members" Z'),by show 8<1000;decide,?_⟩;obtain⟨g3,s3⟩:=ZK.put {c with st:="talks",ms:=ms} Z' h3 lp n1 np;show vc _ _ _ _ (pT M1' k.p (.ins a.e (rQ {c with st:="talks",ms:=ms} k.wy ad p)));generalize pT M1' k.p (.ins a.e (rQ {c with st:="talks",ms:=ms} k.wy ad p))=M3 at g3 s3 ⊢;clear h1 h2 h3 h4 n1 n2 lp t3 np;refine⟨pI Z',λp2 X4=>?_⟩;have t4:=qJ.new (c:=.lst []) X4;have lp:=@pR M3 p2 [];have np:=g3.bd.nH X4;have g3':=g3.sub t4;have s3':=s3.trans (.sub t4);generalize pT M3 p2 (.lst [])=M3' at t4 lp g3' s3' ⊢;obtain⟨ad,md,h1,h2,h3,h4,n1,n2⟩:=g3'.cell;refine pM h1 ⟨(G.j "at" Z'),by show 8<1000;decide,?_⟩;obtain⟨g4,s4⟩:=g3'.put {c with st:="talks",ms:=ms,at_:=[]} Z' lp h4 np n2;rw[show wN "at" (.ref p2) (rQ {c with st:="talks",ms:=ms} k.wy ad md)=rQ {c with st:="talks",ms:=ms,at_:=[]} k.wy p2 md from rfl];generalize pT M3' k.p (.ins a.e (rQ {c with st:="talks",ms:=ms,at_:=[]} k.wy p2 md))=M4 at g4 s4 ⊢;clear h1 h2 h3 h4 n1 n2 lp t4 np;obtain⟨ad,md,h1,h2,h3,h4,n1,n2⟩:=g4.cell;refine pM h1 ⟨(G.j "holder" Z'),by show 8<1000;decide,_,.refl,?_⟩;obtain⟨g5,s5⟩:=g4.put (c.nS ms) Z' h3 h4 n1 n2;refine q _ (s1'.trans (s3'.trans (s4.trans s5))) ?_;have:=g5.bd;rw[sT,sT,sT]at this;exact this
theorem ue{α:Type}{f:α->α}:∀{l:List α} {i:Nat} {c:α},l[i]?=Fa c->l.modify i f=l.set i (f c)
 | [],_,_,h=>by simp at h
 | _::_,0,_,h=>by cases h;rfl
 | x::r,i+1,c,h=>by rw[List.modify_succ_cons,lE,ue (l:=r) (by simpa using h)]
def HV(ps:T0 (Str×Int))(z:Str)(n:Int):Dh (ua ps) (.inr z) (.int n)=ua (FD ps z n):=by
 have ea:((ua ps).any λkv=>decide (kv.1=(Sum.inr z:rP)))=ps.any λp=>decide (p.1=z):=by unfold ua;rw[jS];congr 1;funext p;have:((Sum.inr p.1:rP)=Sum.inr z)=(p.1=z):=propext ⟨λh=>j4 h,λh=>by rw[h]⟩;simp only[Function.comp,this]
 unfold Dh FD;rw[ea];by_cases h:(ps.any λp=>decide (p.1=z))=pc
 .rw[dg h,dg h];unfold ua;rw[eC,eC];refine g9 λp _=>?_;by_cases hp:p.1=z
  .simp[hp]
  .have:¬(Sum.inr p.1:rP)=Sum.inr z:=λy=>hp (j4 y);simp[hp]
 .rw[de h,de h];unfold ua;rw[dM];rfl
def GW{α:Type}{l:List α}{i:Nat}{x:α}(h:l[i]?=Fa x):l.set i x=l:=by obtain⟨hi,e⟩:=cY.mp h;rw[<-e,List.set_getElem_self]
structure Xs(V:qB):Prop where
 lo:V.log.length<10000000
 le:V.nk.length<10000000
 ca:V.calls.length<=1000000
 ps:V.ps.length<10000000
 cs:∀c∈V.calls,c.way.length<10000000/\c.at_.length<=100/\c.ms.length<=100
def Bm(a:Ad):rO:=λds M Q=>HE λA V k c v=>ds=[.ref A.b,sP.d v]/\CI a M A V v.i k c/\V.nk.length<10000000/\c.way.length<10000000/\∀M',rh A M A M'->qa a M' A {zj V v.i (c.go v.g)with nk:=V.nk++[v]}->Q .mY M'
def D0(a:Ad):rO:=λds M Q=>OX λA V i j ki ci cj ms=>ds=[.ref A.b,.int (i:Nat),.int (j:Nat),names ms]/\CI a M A V i ki ci/\V.calls[j]?=Fa cj/\i≠j/\V.nk.length<10000000/\∀M' A',A'.b=A.b->rh A M A' M'->qa a M' A' {zj (zj V i (ci.over "merged")) j (cj.mem ms)with nk:=V.nk.map (sP.to i j)}->Q .mY M'
def Ab(a:Ad):rO:=λds M Q=>CP λA V=>ds=[.ref A.b]/\qa a M A V/\∀M',rh A M A M'->qa a M' A {V with t:=V.t+1,calls:=V.calls.map pP.tick}->Q .mY M'
def wQ(a:Ad):rO:=λds M Q=>CO λb A V e=>ds=[.ref b,Ev.d e]/\A.b=b/\qa a M A V/\Xs V/\e.ok V/\∀M' A',A'.b=A.b->rh A M A' M'->qa a M' A' (qp V e)->Q .mY M'
noncomputable def S4(m k:Nat):D->D
 | .tup (.int i::r)=>if i=(m:Int)then .tup (.int (k:Nat)::r)else .tup (.int i::r)
 | d=>d
def Tj(m k:Nat)(v:sP):S4 m k v.d=(v.to m k).d:=by
 show(if ((v.i:Nat):Int)=(m:Int)then _ else _)=_;unfold sP.to;by_cases h:v.i=m
 .rw[dg h,dg (by rw[h])];rfl
 .rw[de h,de (by lia)];rfl
def IX:Fq P w K mg base 1 a.bA (Bm a):=by
 refine fq G.bA.toDG AD (λr u=>⟨_,(pK (qe (rk (pQ v0) (qA U1)))
 (pL (qe (rk (pQ (pV (pQ v0) (pV U1 pN))) (qA (pV U1 pN)))))),?_⟩)
 rintro ds M Q ⟨A,V,k,c,v,rfl,ci,l1,l2,q⟩
 have hz:=dP;have bd:=ci.bd;refine pM bd.at_ (i' Z' ⟨by show(pq M A.le).isSome=pc;rw[bd.le];rfl,i' bd.le ⟨by rw[cW];lia,?_⟩⟩);obtain⟨b1,s1⟩:=bd.oS (es:=V.nk++[v]);rw[dM]at b1 s1;have b1:qa a (pT M A.le (.lst (V.nk.map sP.d++[v.d]))) A {V with nk:=V.nk++[v]}:=b1;have s1:rh A M A (pT M A.le (.lst (V.nk.map sP.d++[v.d]))):=s1;generalize pT M A.le (.lst (V.nk.map sP.d++[v.d]))=M1 at b1 s1 ⊢;obtain⟨ad,md,h1,h2,h3,h4,n1,n2⟩:=b1.cs v.i k c ci.e1 ci.e2;refine pM b1.at_ (i' Z' (i' b1.ca (i' (rL ci.e1) (pM h1 (i' Z' ⟨by show(pq M1 k.wy).isSome=pc;rw[h2];rfl,i' h2 ⟨by rw[cW];lia,?_⟩⟩)))));obtain⟨b2,s2⟩:=b1.oN (ws:=c.way++[v.g]) ci.e1 ci.e2;rw[dM]at b2 s2;exact⟨_,.refl,q _ (s1.trans s2) b2⟩
def MO:Fq P w K mg base 2 a.bB (D0 a):=by
 refine fq G.bB.toDG yx (λr u=>⟨_,(pK (qe (pX (Jx G) r G.ae (sH (pV (pQ v0) U1) pO)))
 (pK (qy v0 (ra Z' (yH (ix:=[Db,Fa 1,Fa 2]) (N':=["leg","merged","kept"])) (qZ (pQ v0)) (qW 0) sD (Rw (pW u (pV v0 pN) U1) (qu (qd (qA U2)) (sW v0 (tL pN) uk)) v0)))
 (pK (qc 4 yx (pV (pQ v0) U2))
 (pL (qy U4 (qK uj Z' G.y uh (qA U3))))))),?_⟩)
 rintro ds M Q ⟨A,V,i,j,ki,ci,cj,ms,rfl,hi,hj,YN,l1,q⟩
 have hz:=dP;refine pM hi.bd.at_ (i' Z' (i' Z' (i' hi.bd.ca (i' (rL hi.e1) ⟨A,V,i,ki,ci,"merged",Z',hi,λM1 s1 b1=>?_⟩))));have hj1:(zj V i (ci.over "merged")).calls[j]?=Fa cj:=by show(V.calls.set i _)[j]?=_;rw[eX YN];exact hj
 have le1:pq M1 A.le=Fa (V.nk.map sP.d):=b1.le;refine pM b1.at_ (i' Z' (i' le1 (rM (f:=S4 i j) le1 _ [] _ (by rw[cW];simp only[dJ];lia) (λd hd k hk=>?_) λp hp=>?_)))
 .obtain⟨v,_,rfl⟩:=dF.mp hd;refine i' Z' ?_;have hk:k (if ((v.i:Nat):Int)=(i:Int)then .tup [.int (j:Nat),.str v.f,.str v.g,.str v.y]else .tup [.int (v.i:Nat),.str v.f,.str v.g,.str v.y]) M1:=hk;refine qU (c:=((v.i:Nat):Int)==(i:Nat)) (λz=>?_) (λz=>?_)
  .rw[dg (Ix z)]at hk;exact⟨pI Z',fP _ _,by show 1+3<=Ch;lia,hk⟩
  .rw[de (λy=>z (by rw[y];exact e9 _))]at hk;exact hk
 have em:[]++(V.nk.map sP.d).map (S4 i j)=(V.nk.map (sP.to i j)).map sP.d:=by rw[d6,eC,eC];exact g9 λv _=>Tj i j v
 rw[em];obtain⟨b2,s2⟩:=b1.oV (es:=V.nk.map (sP.to i j)) hp;have t:=qJ.new (c:=.lst ((V.nk.map (sP.to i j)).map sP.d)) hp;refine pM (t _ _ b1.at_) ⟨(G.C "legs" Z'),by show 8<1000;decide,?_⟩;show vc _ _ _ _ (pT (pT M1 p (.lst ((V.nk.map (sP.to i j)).map sP.d))) A.b (.ins a.c (um (.ref V.p) V.h V.t A.ca p A.nx A.on A.lo)));have b2:qa a (pT (pT M1 p (.lst ((V.nk.map (sP.to i j)).map sP.d))) A.b (.ins a.c (um (.ref V.p) V.h V.t A.ca p A.nx A.on A.lo))) {A with le:=p} {zj V i (ci.over "merged")with nk:=V.nk.map (sP.to i j)}:=b2;have s2:rh A M1 {A with le:=p} (pT (pT M1 p (.lst ((V.nk.map (sP.to i j)).map sP.d))) A.b (.ins a.c (um (.ref V.p) V.h V.t A.ca p A.nx A.on A.lo))):=s2;generalize pT (pT M1 p (.lst ((V.nk.map (sP.to i j)).map sP.d))) A.b (.ins a.c (um (.ref V.p) V.h V.t A.ca p A.nx A.on A.lo))=M2 at b2 s2 ⊢;have hjk:j<A.cs.length:=by rw[hi.bd.len];exact(cY.mp hj).1
 have ej:A.cs[j]?=Fa A.cs[j]:=c9 hjk;generalize A.cs[j]=kj at ej;have cj2:CI a M2 {A with le:=p} _ j kj cj:=⟨b2,ej,hj1⟩;refine pM b2.at_ (i' Z' (i' Z' (i' b2.ca (i' (rL ej) ?_))));refine λr hr0=>?_;have t3:=qJ.new (c:=.lst (ms.map D.str)) hr0;have lr:=@pR M2 r (ms.map D.str);have nr:=b2.nH hr0;have cj3:=cj2.sub t3;generalize pT M2 r (.lst (ms.map D.str))=M3 at t3 lr cj3 ⊢;obtain⟨ad,md,h1,h2,h3,h4,n1,n2⟩:=cj3.cell;refine pM h1 ⟨(G.j "members" Z'),by show 8<1000;decide,_,.refl,?_⟩;obtain⟨g5,s5⟩:=cj3.put (cj.mem ms) Z' h3 lr n1 nr;exact q _ {A with le:=p} Z' (s1.trans (s2.trans ((rh.sub t3).trans s5))) g5.bd
def EY:Fq P w K mg base 1 a.bC (Ab a):=by
 refine fq G.bC.toDG vR (λr u=>⟨_,(pK (Ep v0 pN)
 (pL (ur eU Z' (qZ (pQ v0)) (rq 1 vR)
 (pL (qg (pW u (pQ U1) pO)
 (pL (Ep U1 pN))
 pZ))))),?_⟩)
 rintro ds M Q ⟨A,V,rfl,bd,q⟩
 refine pM bd.at_ ⟨(G.C "turn" Z'),i' Z' (i' Z' (pM bd.at_ ⟨Z',by show 8<1000;decide,?_⟩))⟩;obtain⟨b1,s1⟩:=bd.putT (t:=V.t+1);rw[show wN "turn" (.int (V.t+1)) (um (.ref V.p) V.h V.t A.ca A.le A.nx A.on A.lo)=um (.ref V.p) V.h (V.t+1) A.ca A.le A.nx A.on A.lo from rfl];generalize pT M A.b (.ins a.c (um (.ref V.p) V.h (V.t+1) A.ca A.le A.nx A.on A.lo))=M1 at b1 s1 ⊢;refine pM b1.at_ (i' Z' (i' b1.ca ?_));refine vg (A.cs.map λk=>D.ref k.p) (λpre U M'=>qa a M' A {V with t:=V.t+1,calls:=(V.calls.take pre.length).map pP.tick++V.calls.drop pre.length}/\rh A M A M'/\∃y,U=[Fa (.ref A.b),y]) (λ_ _ M' j=>j.1.ca) _ [] _ _ Z' ⟨b1,s1,Db,Z'⟩ ?_ ?_
 .rintro pre d post e U M' ⟨b2,s2,y,rfl⟩ nx XX
  have hd:(A.cs.map λk=>D.ref k.p)[pre.length]?=Fa d:=by rw[<-e];simp
  rw[dz]at hd;cases ek:A.cs[pre.length]? with
  | none=>rw[ek]at hd;cases hd
  | some k=>
   rw[ek]at hd;have hd:D.ref k.p=d:=dv hd;subst hd;have hi:pre.length<V.calls.length:=by rw[<-bd.len];exact(cY.mp ek).1
   have ec:V.calls[pre.length]?=Fa V.calls[pre.length]:=c9 hi;have ed:V.calls.drop pre.length=V.calls[pre.length]::V.calls.drop (pre.length+1):=gv hi;have et:V.calls.take (pre.length+1)=V.calls.take pre.length++[V.calls[pre.length]]:=by rw[gB,ec];rfl
   generalize V.calls[pre.length]=c at ec ed et;have hl:((V.calls.take pre.length).map pP.tick).length=pre.length:=by rw[cW,fm];lia
   have ec2:((V.calls.take pre.length).map pP.tick++V.calls.drop pre.length)[pre.length]?=Fa c:=by rw[fi (by rw[hl];exact dw _),hl,ik,ed];rfl
   rw[cZ,dQ,et]at XX;have en:((V.calls.take pre.length).map pP.tick++V.calls.drop pre.length).set pre.length c.tick=(V.calls.take pre.length++[c]).map pP.tick++V.calls.drop (pre.length+1):=by rw[ku _ _ (by rw[hl];exact dw _),hl,ik,ed,dM,eM];rfl
   have ci:CI a M' A _ pre.length k c:=⟨b2,ek,ec2⟩;obtain⟨ad,md,h1,h2,h3,h4,n1,n2⟩:=ci.cell;refine pM h1 (i' Z' ?_);have ht:c.tick=if (c.st=="rings")=pc then{c with si:=c.si+1}else c:=rfl;refine qU (c:=c.st=="rings") (λg=>?_) (λg=>?_)
   .rw[dg g]at ht;refine pM h1 ⟨(G.j "since" Z'),i' Z' (i' Z' (pM h1 ⟨Z',by show 8<1000;decide,?_⟩))⟩;obtain⟨g5,s5⟩:=ci.put c.tick (by rw[ht]) (by rw[ht];exact h3) (by rw[ht];exact h4) n1 n2;have b5:=g5.bd;unfold zj at b5;rw[en]at b5;rw[ht]at b5 s5;exact XX _ _ ⟨b5,s2.trans s5,_,Z'⟩
   .rw[de g]at ht;rw[ht,GW ec2]at en;rw[en]at b2;exact XX _ _ ⟨b2,s2,_,Z'⟩
 .rintro U M' ⟨b2,s2,y,rfl⟩
  rw[cW,bd.len,fv,jP,eN]at b2;exact⟨M',.refl,q M' s2 b2⟩
def rF:Fq P w K mg base 3 a.k (wQ a):=by
 refine fq G.k.toDG ym (λr u=>⟨_,(pK (qe (rk (pQ v0) (qA U1)))
 (pK (qc 2 ym (pV U1 pN))
 (pL (qg (pW u U2 pO)
 (pL (qe (rk (pQ v0) (qA (wc (PR G) r G.e G.ca G.an.toDG (qA (pV U1 pN)))))))
 (pL (qg (pW u U2 pO)
 (pL (qe (qv v0 G.c.toCls G.bA (IX G) r (qA (sW U1 (tL pN) uk)))))
 (pL (qg (pW u U2 pO)
 (pL (ON u (pQ v0) (pV U1 pN) (pV U1 pN)))
 (pL (qg (pW u U2 pO)
 (pL (qe (qv v0 G.c.toCls G.bB (MO G) r (rC (pV U1 pN) (pV U1 pN) (pV U1 pN)))))
 (pL (qg (pW u U2 pO)
 (pL (qe (yJ v0 G.c.toCls G.bC (EY G) r)))
 (pL (qg (pW u U2 (qd (sH pO pO)))
 (pL (E1 (qG u U2 pO) (SZ (pQ v0) (pV U1 pN))))
 (pL (qg (pW u U2 pO)
 (pL (qe (pX (KC G) r G.bc (sH (pV (pQ v0) (pV U1 pN)) U1))))
 pZ)))))))))))))))),?_⟩)
 rintro ds M Q ⟨_,A,V,e,rfl,rfl,bd,lim,ev,q⟩
 have hz:=dP;have ll:=lim.lo;have lc:=lim.ca;have lp:=lim.ps;refine pM bd.at_ (i' Z' ⟨by show(pq M A.lo).isSome=pc;rw[bd.lo];rfl,i' bd.lo ⟨by rw[cW];lia,?_⟩⟩);have hb:=bd.oW (es:=V.log++[e]);rw[dM]at hb;obtain⟨b1,s1⟩:qa a (pT M A.lo (.lst (V.log.map Ev.d++[e.d]))) A (rj V e)/\rh A M A (pT M A.lo (.lst (V.log.map Ev.d++[e.d]))):=hb;show vc _ _ _ _ (pT M A.lo (.lst (V.log.map Ev.d++[e.d])));generalize pT M A.lo (.lst (V.log.map Ev.d++[e.d]))=M1 at b1 s1 ⊢;have ZW:∀i,i<V.calls.length->∃k c,A.cs[i]?=Fa k/\V.calls[i]?=Fa c/\c∈V.calls:=λi hi=>by
  have Y2:i<A.cs.length:=by rw[bd.len];exact hi
  exact⟨_,_,c9 Y2,c9 hi,ip hi⟩
 have chg:∀(i:Nat) (k:rS) (c:pP) (c':pP) (f:pP->pP),A.cs[i]?=Fa k->V.calls[i]?=Fa c->f c=c'->qp V e=yi (rj V e) i f->∀(M2:Mp),rh A M1 A M2->qa a M2 A (zj (rj V e) i c')->∃XU,qJ XU M2/\Q .mY XU:=λi k c c' f e1 e2 e3 e4 M2 s2 b2=>⟨M2,.refl,q M2 A Z' (s1.trans s2) (by
  rw[e4];unfold yi;rw[show(rj V e).calls=V.calls from rfl,ue e2,e3];exact b2)⟩
 cases e with
 | new n x=>refine pM b1.at_ (i' Z' ⟨by show(pq M1 A.ca).isSome=pc;rw[b1.ca];rfl,λp hp=>⟨p,x,Z',qh,λM2 wy ad md kp z1 z2 z3 n1 n2 h1 h2 h3 h4=>⟨Z',?_⟩⟩⟩);have sp:=qJ.new (c:=.ins a.e []) hp;have s2:qJ M1 M2:=λy d hy=>kp y d (OJ hy hp) (sp y d hy);refine i' (s2.lst b1.ca) ⟨by rw[cW,b1.len];show V.calls.length<Ch;lia,?_⟩;obtain⟨b3,s3⟩:=b1.oA s2 (c:=zB x) hp (sp.none z1) (sp.none z2) (sp.none z3) h1 h2 h3 h4 n1 n2;exact⟨_,.refl,q _ (A.add ⟨p,wy⟩) Z' (s1.trans s3) b3⟩
 | leg v=>obtain⟨k,c,ek,ec,hc⟩:=ZW v.i ev;refine pM b1.at_ ⟨Z',_,⟨Z',Z'⟩,A,rj V (.leg v),k,c,v,Z',⟨b1,ek,ec⟩,lim.le,(lim.cs c hc).1,λM2 s2 b2=>⟨M2,.refl,q M2 A Z' (s1.trans s2) ?_⟩⟩;show qa a M2 A {rj V (.leg v)with nk:=V.nk++[v],calls:=V.calls.modify v.i (·.go v.g)};rw[ue ec];exact b2
 | next z n=>refine pM b1.at_ (i' Z' (i' b1.nx ⟨by show(ua V.ps).length<Ch;unfold ua;rw[cW];lia,?_⟩));rw[HV];obtain⟨b2,s2⟩:=b1.pC (ps:=FD V.ps z n);exact⟨_,.refl,q _ A Z' (s1.trans s2) b2⟩
 | merge i j ms=>obtain⟨hi,hj,hij,_⟩:=ev;obtain⟨ki,ci,eki,eci,hci⟩:=ZW i hi;obtain⟨kj,cj,ekj,ecj,hcj⟩:=ZW j hj;refine pM b1.at_ ⟨Z',_,⟨Z',Z'⟩,A,rj V (.merge i j ms),i,j,ki,ci,cj,ms,Z',⟨b1,eki,eci⟩,ecj,hij,lim.le,λM2 A2 eb s2 b2=>⟨M2,.refl,q M2 A2 eb (s1.trans s2) ?_⟩⟩;show qa a M2 A2 {rj V (.merge i j ms)with calls:=(V.calls.modify i (·.over "merged")).modify j (·.mem ms),nk:=V.nk.map (sP.to i j)};rw[ue eci,ue (show(V.calls.set i _)[j]?=Fa cj by rw[eX hij];exact ecj)];exact b2
 | asks i z ns=>exact⟨pI Z',Z',Z',M1,.refl,q M1 A Z' s1 b1⟩
 | turn=>exact pM b1.at_ ⟨Z',_,⟨Z',Z'⟩,A,rj V .turn,Z',b1,λM2 s2 b2=>⟨M2,.refl,q M2 A Z' (s1.trans s2) b2⟩⟩
 | sw b i=>
  have hi:i<V.on.length:=ev;obtain⟨b2,s2⟩:=b1.pB (bs:=V.on.set i b);have es:(V.on.map D.bl).set i (.bl b)=(V.on.set i b).map D.bl:=(mM).symm;have ix:F4 (V.on.map D.bl).length (i:Nat)=Fa i:=by rw[cW];unfold F4;simp[hi]
  have XT:∃XU,qJ XU (pT M1 A.on (.lst ((V.on.map D.bl).set i (.bl b))))/\Q .mY XU:=by rw[es];exact⟨_,.refl,q _ A Z' (s1.trans s2) b2⟩
  cases b with
  | true=>exact⟨pI Z',Z',Z',pM b1.at_ (i' Z' (i' b1.on (i' ix XT)))⟩
  | false=>exact⟨pI Z',Z',Z',pM b1.at_ (i' Z' (i' b1.on (i' ix XT)))⟩
 | rings i ps=>obtain⟨k,c,ek,ec,hc⟩:=ZW i ev.1;exact⟨pI Z',Z',Z',pM b1.at_ (i' Z' (i' b1.ca (i' (rL ek) ⟨A,rj V _,i,k,c,_,_,Z',⟨b1,ek,ec⟩,(lim.cs c hc).2.1,(lim.cs c hc).2.2,.rings ps,chg i k c _ _ ek ec Z' Z'⟩)))⟩
 | quiet i=>obtain⟨k,c,ek,ec,hc⟩:=ZW i ev;exact⟨pI Z',Z',Z',pM b1.at_ (i' Z' (i' b1.ca (i' (rL ek) ⟨A,rj V _,i,k,c,_,_,Z',⟨b1,ek,ec⟩,(lim.cs c hc).2.1,(lim.cs c hc).2.2,.quiet,chg i k c _ _ ek ec Z' Z'⟩)))⟩
 | waits i x=>obtain⟨k,c,ek,ec,hc⟩:=ZW i ev;exact⟨pI Z',Z',Z',pM b1.at_ (i' Z' (i' b1.ca (i' (rL ek) ⟨A,rj V _,i,k,c,_,_,Z',⟨b1,ek,ec⟩,(lim.cs c hc).2.1,(lim.cs c hc).2.2,.waits x,chg i k c _ _ ek ec Z' Z'⟩)))⟩
 | talks i ms=>obtain⟨k,c,ek,ec,hc⟩:=ZW i ev.1;exact⟨pI Z',Z',Z',pM b1.at_ (i' Z' (i' b1.ca (i' (rL ek) ⟨A,rj V _,i,k,c,_,_,Z',⟨b1,ek,ec⟩,(lim.cs c hc).2.1,(lim.cs c hc).2.2,.talks ms,chg i k c _ _ ek ec Z' Z'⟩)))⟩
 | held i x=>obtain⟨k,c,ek,ec,hc⟩:=ZW i ev;exact⟨pI Z',Z',Z',pM b1.at_ (i' Z' (i' b1.ca (i' (rL ek) ⟨A,rj V _,i,k,c,_,_,Z',⟨b1,ek,ec⟩,(lim.cs c hc).2.1,(lim.cs c hc).2.2,.held x,chg i k c _ _ ek ec Z' Z'⟩)))⟩
 | leaves i x=>obtain⟨k,c,ek,ec,hc⟩:=ZW i ev;exact⟨pI Z',Z',Z',pM b1.at_ (i' Z' (i' b1.ca (i' (rL ek) ⟨A,rj V _,i,k,c,_,_,Z',⟨b1,ek,ec⟩,(lim.cs c hc).2.1,(lim.cs c hc).2.2,.leaves x,chg i k c _ _ ek ec Z' Z'⟩)))⟩
 | over i w0=>obtain⟨k,c,ek,ec,hc⟩:=ZW i ev;exact⟨pI Z',Z',Z',pM b1.at_ (i' Z' (i' b1.ca (i' (rL ek) ⟨A,rj V _,i,k,c,_,_,Z',⟨b1,ek,ec⟩,(lim.cs c hc).2.1,(lim.cs c hc).2.2,.over w0,chg i k c _ _ ek ec Z' Z'⟩)))⟩
noncomputable def NH:QQQ:=["barred","ring","engaged","left","refused","done","merged"]
def Rp(o:Bool)(c:pP):Prop:=(c.st="rings"/\c.ms=[]/\c.hd=Db/\c.wd=Db/\(o=pc->c.at_=[])/\(o=lf->c.at_≠[]))\/(o=lf/\((c.st="waits"/\c.ms=[]/\c.hd=Db/\c.wd=Db/\c.at_.length=1)\/(c.st="talks"/\(c.ms.length=2\/c.ms.length=3)/\c.hd=Db/\c.wd=Db/\c.at_=[])\/
 (∃x,c.st="held"/\c.ms.length=2/\c.hd=Fa x/\x∈c.ms/\c.wd=Db/\c.at_=[])\/(c.st="over"/\c.ms=[]/\c.hd=Db/\c.at_=[]/\∃w∈NH,c.wd=Fa w)))
structure wJ(l:pU)(o:Bool)(c:pP):Prop where
 sh:Rp o c
 cr:c.cr∈l.pn
 at_:∀x∈c.at_,x∈l.pn
 ms:∀x∈c.ms,x∈l.pn
 an:c.at_.Nodup
 mn:c.ms.Nodup
 ca:c.cr∉c.at_
 wy:c.way≠[]/\∀z∈c.way,z∈l.nm
def BR(c:pP)(x:Str):Prop:=c.nC x=pc\/c.nj x=pc
structure Ax(l:pU)(V:qB)(o:Option Nat):Prop where
 ok:∀(i:Nat) c,V.calls[i]?=Fa c->wJ l (o==Fa i) c
 un:∀(i j:Nat) ci cj x,V.calls[i]?=Fa ci->V.calls[j]?=Fa cj->BR ci x->BR cj x->i=j
 ln:∀x∈l.pn,(vF V x:Int)<=xt l x
 wt:∀(i j:Nat) ci cj x,V.calls[i]?=Fa ci->V.calls[j]?=Fa cj->ci.m8 x=pc->cj.m8 x=pc->i=j
 nx:u9 l V
abbrev WF(l:pU)(V:qB):Prop:=Ax l V Db
structure Sz(V:qB)(c n:Nat):Prop where
 lo:V.log.length<=n
 le:V.nk.length<=n
 ca:V.calls.length<=c
 ps:V.ps.length<=n
 cs:∀k∈V.calls,k.way.length<=n/\k.at_.length<=100/\k.ms.length<=100
def Sz.mono{V:qB}{c n c' n':Nat}(h:Sz V c n)(hc:c<=c')(hn:n<=n'):Sz V c' n':=⟨d9 h.lo hn,d9 h.le hn,d9 h.ca hc,d9 h.ps hn,λk hk=>⟨d9 (h.cs k hk).1 hn,(h.cs k hk).2⟩⟩
noncomputable def Ev.nw:Ev->Nat
 | .new _ _=>1
 | _=>0
def Nc(ps:T0 (Str×Int))(z:Str)(n:Int):(FD ps z n).length<=ps.length+1:=by
 unfold FD;split
 .rw[cW];lia
 .rw[cZ];exact dw _
def Jk(ss:QQQ)(x:Str):(rZ ss x).length<=ss.length:=fW _ _
def E4{α:Type}{f:α->α}{l:List α}{i:Nat}{x:α}(h:x∈l.modify i f):x∈l\/∃y∈l,x=f y:=by
 cases e:l[i]? with
 | none=>rw[kT (by simpa using e)]at h;exact .inl h
 | some c=>
  rw[ue e]at h;rcases List.mem_or_eq_of_mem_set h with g|g
  .exact .inl g
  .exact .inr ⟨c,gb e,g⟩
def Sz.step{V:qB}{c n:Nat}{e:Ev}(h:Sz V c n)(ok:e.ok V):Sz (qp V e) (c+e.nw) (n+1):=by
 have h1:Sz (rj V e) c (n+1):=⟨by show(V.log++[e]).length<=n+1;rw[cZ];exact iq h.lo,jA h.le,h.ca,jA h.ps,λk hk=>⟨jA (h.cs k hk).1,(h.cs k hk).2⟩⟩;have md:∀(i:Nat) (f:pP->pP),(∀k∈V.calls,(f k).way=k.way/\(f k).at_.length<=100/\(f k).ms.length<=100)->Sz (yi (rj V e) i f) c (n+1):=λi f hf=>⟨h1.lo,h1.le,by show(V.calls.modify i f).length<=c;rw[fj];exact h.ca,h1.ps,λk hk=>by
  rcases E4 hk with g|⟨y,hy,rfl⟩
  .exact h1.cs k g
  .obtain⟨a1,a2,a3⟩:=hf y hy;exact⟨by rw[a1];exact(h1.cs y hy).1,a2,a3⟩⟩
 cases e with
 | new m x=>
  refine⟨h1.lo,h1.le,by show(V.calls++[zB x]).length<=c+1;rw[cZ];exact iq h.ca,h1.ps,λk hk=>?_⟩;rcases dU.mp hk with g|g
  .exact h1.cs k g
  .rw[dA.mp g];exact⟨eE _,eE _,eE _⟩
 | leg v=>
  refine⟨h1.lo,by show(V.nk++[v]).length<=n+1;rw[cZ];exact iq h.le,by show(V.calls.modify v.i _).length<=c;rw[fj];exact h.ca,h1.ps,λk hk=>?_⟩;rcases E4 (l:=V.calls) hk with g|⟨y,hy,rfl⟩
  .exact h1.cs k g
  .exact⟨by show(y.way++[v.g]).length<=n+1;rw[cZ];exact iq (h.cs y hy).1,(h.cs y hy).2⟩
 | asks i z ns=>exact h1
 | next z m=>exact⟨h1.lo,h1.le,h1.ca,d9 (Nc _ _ _) (iq h.ps),h1.cs⟩
 | merge i j ms=>
  have m1:=md i (·.over "merged") λk hk=>⟨Z',eE _,eE _⟩;refine⟨h1.lo,by show(V.nk.map _).length<=n+1;rw[cW];exact h1.le,by show((V.calls.modify i _).modify j _).length<=c;rw[fj,fj];exact h.ca,h1.ps,λk hk=>?_⟩;rcases E4 (l:=V.calls.modify i (·.over "merged")) hk with g|⟨y,hy,rfl⟩
  .exact m1.cs k g
  .exact⟨(m1.cs y hy).1,(m1.cs y hy).2.1,ok.2.2.2⟩
 | turn=>
  refine⟨h1.lo,h1.le,by show(V.calls.map pP.tick).length<=c;rw[cW];exact h.ca,h1.ps,λk hk=>?_⟩;obtain⟨y,hy,rfl⟩:=dF.mp hk;have e:y.tick.way=y.way/\y.tick.at_=y.at_/\y.tick.ms=y.ms:=by unfold pP.tick;split<;>exact⟨Z',Z',Z'⟩
  rw[e.1,e.2.1,e.2.2];exact h1.cs y hy
 | sw b i=>exact⟨h1.lo,h1.le,h1.ca,h1.ps,h1.cs⟩
 | rings i ps=>exact md i _ λk hk=>⟨Z',ok.2,(h.cs k hk).2.2⟩
 | quiet i=>exact md i _ λk hk=>⟨Z',eE _,(h.cs k hk).2.2⟩
 | waits i x=>exact md i _ λk hk=>⟨Z',by show 1<=100;decide,(h.cs k hk).2.2⟩
 | talks i ms=>exact md i _ λk hk=>⟨Z',eE _,ok.2⟩
 | held i x=>exact md i _ λk hk=>⟨Z',(h.cs k hk).2.1,(h.cs k hk).2.2⟩
 | leaves i x=>exact md i _ λk hk=>⟨Z',d9 (Jk _ _) (h.cs k hk).2.1,d9 (Jk _ _) (h.cs k hk).2.2⟩
 | over i w=>exact md i _ λk hk=>⟨Z',eE _,eE _⟩
def I0(V:qB)(e:Ev):(qp V e).fo=V.fo:=by cases e<;>rfl
def NP(V:qB)(e:Ev):(qp V e).p=V.p/\(qp V e).h=V.h/\(qp V e).on.length=V.on.length:=by cases e<;>first|exact⟨Z',Z',Z'⟩|exact⟨Z',Z',iy⟩
structure tw(a:Ad)(M0 M:Mp)(b:Uf)(A:sA)(V:qB)(l:pU)(c n:Nat):Prop where
 bd:qa a M A V
 oz:sY a M0 V.p l
 s0:qJ M0 M
 fr:∀x∈A.foot,M0 x=Db
 b:A.b=b
 sz:Sz V c n
 ok:sf l
 on:V.on.length=l.mT.length
variable {M0:Mp}{b:Uf}{A':sA}{V':qB}{l:pU}{n:Nat}
section
variable {c:Nat}
def tw.at_(h:tw a M0 M b A V l c n):M b=Fa (.ins a.c (um (.ref V.p) V.h V.t A.ca A.le A.nx A.on A.lo)):=h.b ▸ h.bd.at_
def tw.sub(h:tw a M0 M b A V l c n)(s:qJ M M'):tw a M0 M' b A V l c n:=⟨h.bd.sub s,h.oz,h.s0.trans s,h.fr,h.b,h.sz,h.ok,h.on⟩
def tw.pl(h:tw a M0 M b A V l c n):sY a M V.p l:=h.oz.sub h.s0
def tw.mono(h:tw a M0 M b A V l c n){c' n':Nat}(hc:c<=c')(hn:n<=n'):tw a M0 M b A V l c' n':=⟨h.bd,h.oz,h.s0,h.fr,h.b,h.sz.mono hc hn,h.ok,h.on⟩
def tw.lim(h:tw a M0 M b A V l c n)(hc:c<=1000000)(hn:n<9000000):Xs V:=⟨iI h.sz.lo (by lia),iI h.sz.le (by lia),d9 h.sz.ca hc,iI h.sz.ps (by lia),λk hk=>⟨iI (h.sz.cs k hk).1 (by lia),(h.sz.cs k hk).2⟩⟩
def tw.rd(h:tw a M0 M b A V l c n)(hc:c<=1000000){o:Option Nat}(wf:Ax l V o):Rd a M A V l:=⟨h.bd,d9 h.sz.ca hc,h.pl,h.ok,h.on,λk hk=>by
 obtain⟨i,hi,e⟩:=gI hk;exact⟨(wf.ok i k (by rw[c9 hi,e])).ms,(h.sz.cs k hk).2.2⟩⟩
def tw.call(h:tw a M0 M b A V l c n){i:Nat}{v:pP}(e:V.calls[i]?=Fa v):∃k,CI a M A V i k v:=by
 have hi:i<A.cs.length:=by rw[h.bd.len];exact(cY.mp e).1
 exact⟨A.cs[i],h.bd,c9 hi,e⟩
def tw.after(h:tw a M0 M b A V l c n){e:Ev}(ok:e.ok V)(eb:A'.b=A.b)(st:rh A M A' M')(bd:qa a M' A' (qp V e)):tw a M0 M' b A' (qp V e) l (c+e.nw) (n+1):=by
 obtain⟨p1,p2,p3⟩:=NP V e;refine⟨bd,p1 ▸ h.oz,λx d hx=>st.1 x d (λz=>?_) (h.s0 x d hx),λx hx=>?_,eb.trans h.b,h.sz.step ok,h.ok,p3.trans h.on⟩
 .rw[h.fr x z]at hx;cases hx
 .rcases st.2.1 x hx with z|z
  .exact h.fr x z
  .exact h.s0.none z
end
def Em(l:pU)(V:qB)(c:Str):vM->Prop
 | .rings z ps=>z∈l.nm/\ps≠[]/\ps=xY l V c z
 | .breaks z=>∃x,x=c/\HR l V x c z=pc
 | .waits z=>z∈l.pn/\z≠c/\Bc V z=lf
 | .ring ns=>ns≠[]
 | _=>True
def Ca{V:qB}{c z:Str}:(∀x∈xY l V c z,x∈vb l V c z/\x∈l.mS z)/\(xY l V c z).length<=(l.mS z).length:=by
 have hr:∀x∈vb l V c z,x∈l.mS z:=λx hx=>(fC.mp hx).1;unfold xY;split
 .refine⟨λx hx=>?_,?_⟩
  .have hx:=(fC.mp (jc hx)).2;have hx:=rE.mp hx;exact⟨hx,hr x hx⟩
  .cases e:(vI (l.mS z) (Al V z)).filter λx=>hasS (vb l V c z) x with
   | nil=>exact eE _
   | cons y r=>
    have hy:y∈vI (l.mS z) (Al V z):=(fC.mp (by rw[e];exact dI)).1;have hy:y∈l.mS z:=by
     unfold vI at hy;rcases dU.mp hy with q|q
     .exact jd q
     .exact jc q
    rw[fm];have:=kc hy;lia
 .exact⟨λx hx=>⟨hx,hr x hx⟩,fW _ _⟩
def Qa{l:pU}{V:qB}{c z:Str}(hz:z∈l.nm):Em l V c (HH l V c z):=by
 unfold HH;split
 .trivial
 .rename_i x r e;exact⟨hz,fP _ _,e.symm⟩
structure xI(l:pU)(V:qB)(c:Str)(n:Nat)(st:sO)(r:vM×sO):Prop where
 e:Em l V c r.1
 len:r.2.length<=st.length+n
 nm:∀s∈r.2,s∈st\/s.1∈l.nm
 wy:∀ns,r.1=.ring ns->∀z∈ns,z∈l.nm
theorem yr{V:qB}{c:Str}(ok:sf l):∀(n:Nat) (z:Str) (way:QQQ) (st:sO),z∈l.nm->(∀x∈way,x∈l.nm)->xI l V c n st (vw l V c n z way st)
 | 0,z,way,st,_,_=>⟨trivial,dw _,λs hs=>.inl hs,λns h=>by cases h⟩
 | n+1,z,way,st,hz,hw=>by
  unfold vw;by_cases h:hasS way z=pc
  .rw[dg h];refine⟨?_,by show st.length<=_;lia,λs hs=>.inl hs,λns e y hy=>?_⟩
   .have h1:way.findIdx (·==z)<way.length:=List.findIdx_lt_length_of_exists ⟨z,rE.mp h,e9 z⟩;show way.drop _≠[];intro g;have:=eY List.length g;rw[gp]at this;simp only[dJ]at this;lia
   .cases e;exact hw y (jd hy)
  rw[de h];have sn:∀(fs:T0 Nat),∀s∈st++[(z,fs)],s∈st\/s.1∈l.nm:=λfs s hs=>by
   rcases dU.mp hs with g|g
   .exact .inl g
   .rw[dA.mp g];exact .inr hz
  have sl:∀fs:T0 Nat,(st++[(z,fs)]).length=st.length+1:=λfs=>by rw[cZ];rfl
  cases hf:zO l V c z with
  | nil=>refine⟨Qa hz,by show(st++[(z,[])]).length<=_;rw[sl];lia,sn [],λns e=>?_⟩;have e:HH l V c z=.ring ns:=e;unfold HH at e;split at e<;>cases e
  | cons i r=>
   obtain⟨w,ew,Ys⟩:=Gd (l:=l) (V:=V) (f:=Ap l V c z) (i:=i) (by show i∈zO l V c z;rw[hf];exact dI);dsimp only;rw[ew];dsimp only[Option.elim];have stop:∀e:vM,Em l V c e->(∀ns,e≠.ring ns)->xI l V c (n+1) st (e,st++[(z,i::r)]):=λe he X9=>⟨he,by show(st++[(z,i::r)]).length<=_;rw[sl];lia,sn _,λns g=>absurd g (X9 ns)⟩
   have goes:∀y,JP z w.2=.inr y->xI l V c (n+1) st (vw l V c n y (way++[z]) (st++[(z,i::r)])):=λy hy=>by
    have hr:=yr (V:=V) (c:=c) ok n y (way++[z]) (st++[(z,i::r)]) (Cf ok (qV ew) hy) λx hx=>by
     rcases dU.mp hx with g|g
     .exact hw x g
     .rw[dA.mp g];exact hz
    refine⟨hr.e,by have:=hr.len;rw[sl]at this;lia,λs hs=>?_,hr.wy⟩;rcases hr.nm s hs with g|g
    .exact sn _ s g
    .exact .inr g
   cases hv:w.2 with
   | bar x ns=>exact stop _ trivial λns g=>by cases g
   | shut x ns=>exact stop _ trivial λns g=>by cases g
   | wait x=>
    rw[hv]at Ys;have hf2:(if (!(z==x)||(c==x))=pc then lf else x8 l V c z&&!(Bc V z))=pc:=Ys;have hx:yd l.pn x:=by have:=ok.wo w (qV ew);rw[hv]at this;exact this
    by_cases g:(!(z==x)||(c==x))=pc
    .rw[dg g]at hf2;cases hf2
    rw[de g]at hf2;simp only[hW,gS,fN,jB,dZ]at g hf2;have ezx:=Ix g.1;subst ezx;exact stop _ ⟨rE.mp hx,λy=>g.2 (by rw[y];exact e9 _),hf2.2⟩ λns g=>by cases g
   | breaks x=>
    rw[hv]at Ys;refine stop _ ⟨x,?_,?_⟩ λns g=>by cases g
    .have Ys:HR l V x c z=pc:=Ys;unfold HR at Ys;by_cases g:(!(c==x)||(z==x))=pc
     .rw[dg g]at Ys;cases Ys
     .simp only[hW,gS,fN,jB]at g;exact(Ix g.1).symm
    .exact Ys
   | always x y=>exact goes y (by rw[hv];rfl)
   | night x y f m=>exact goes y (by rw[hv];rfl)
   | busy x y=>exact goes y (by rw[hv];rfl)
   | silent x y m=>exact goes y (by rw[hv];rfl)
def Cd{V:qB}{x c z:Str}(h:HR l V x c z=pc):∃j k,ux V z=Fa j/\V.calls[j]?=Fa k/\k.st="talks"/\z∈k.ms/\k.ms.length=2/\z≠c:=by
 unfold HR at h;by_cases g:(!(c==x)||(z==x))=pc
 .rw[dg g]at h;cases h
 rw[de g]at h;simp only[hW,gS,fN,jB]at g;by_cases g2:(!(hasS l.pn z)||!(x8 l V c z))=pc
 .rw[dg g2]at h;cases h
 rw[de g2]at h;cases e:ux V z with
 | none=>rw[e]at h;cases h
 | some j=>obtain⟨hj,ht,_⟩:=iM.mp e;rw[e]at h;have h:((V.calls[j]?).elim lf λk=>(k.ms.length==2)&&HG l x k.ms)=pc:=h;rw[c9 hj]at h;have h:((V.calls[j].ms.length==2)&&HG l x V.calls[j].ms)=pc:=h;unfold pP.ni at ht;rw[dZ]at h ht;refine⟨j,V.calls[j],Z',c9 hj,Ix ht.1,rE.mp ht.2,Ix h.1,λy=>?_⟩;rw[y]at g;have:=Ix g.1;rw[this,e9]at g;exact absurd Z' g.2
noncomputable def pP.bare(c:pP):pP:={c with way:=[]}
def ul(V V':qB):Prop:=V'.calls.map pP.bare=V.calls.map pP.bare
def ul.at_{V V':qB}(h:ul V V'){i:Nat}{c:pP}(e:V.calls[i]?=Fa c):∃c',V'.calls[i]?=Fa c'/\c'.bare=c.bare:=by
 have:=eY (·[i]?) h;simp only[dz,e]at this;cases e':V'.calls[i]? with
 | none=>rw[e']at this;cases this
 | some c'=>rw[e']at this;exact⟨c',Z',dv this⟩
def Ai(f:pP->Bool)(hf:∀c,f c.bare=f c)(cs:List pP):(cs.map pP.bare).findIdx? f=cs.findIdx? f:=by rw[ie];congr 1;funext c;exact hf c
def ul.nS{V V':qB}(h:ul V V')(z:Str):ux V' z=ux V z:=by unfold ux;rw[<-Ai _ (λ_=>rfl) V'.calls,h,Ai _ (λ_=>rfl)]
def ul.ends{V V':qB}(h:ul V V')(i:Nat)(e:vM):sF l V' i e=sF l V i e:=by
 cases e with
 | breaks z=>
  unfold sF;dsimp only;rw[h.nS];have key:∀j:Nat,(V'.calls[j]?).map pP.bare=(V.calls[j]?).map pP.bare:=λj=>by
   have:=eY (·[j]?) h
   simpa only [dz]using this
  have ki:=key i;cases ux V z with
  | none=>rfl
  | some j=>
   have kj:=key j;cases e1:V.calls[i]? with
   | none=>rw[e1]at ki;rw[show V'.calls[i]?=Db by cases q:V'.calls[i]? with|none=>rfl|some _=>rw[q]at ki;cases ki]
   | some c=>
    rw[e1]at ki;cases e2:V'.calls[i]? with
    | none=>rw[e2]at ki;cases ki
    | some c'=>
     rw[e2]at ki;have k1:c'.cr=c.cr:=by have kb:c'.bare=c.bare:=dv ki;exact show c'.bare.cr=c.bare.cr by rw[kb]
     have k2:(V'.calls[j]?).elim [] pP.ms=(V.calls[j]?).elim [] pP.ms:=by
      cases e3:V.calls[j]? with
      | none=>rw[e3]at kj;rw[show V'.calls[j]?=Db by cases q:V'.calls[j]? with|none=>rfl|some _=>rw[q]at kj;cases kj]
      | some d=>
       rw[e3]at kj;cases e4:V'.calls[j]? with
       | none=>rw[e4]at kj;cases kj
       | some d'=>rw[e4]at kj;exact show d'.bare.ms=d.bare.ms by rw[show d'.bare=d.bare from dv kj]
     dsimp only;rw[k1,k2]
 | _=>rfl
def ul.trans{V V1 V2:qB}(h:ul V V1)(g:ul V1 V2):ul V V2:=Eq.trans g h
def Ak(V:qB)(v:sP):ul V (qp V (.leg v)):=by
 show(V.calls.modify v.i (·.go v.g)).map pP.bare=V.calls.map pP.bare;cases e:V.calls[v.i]? with
 | none=>rw[kT (by simpa using e)]
 | some c=>rw[ue e,mM,show(c.go v.g).bare=c.bare from rfl,GW (by rw[dz,e];rfl)]
def EG(V:qB)(i:Nat)(z:Str)(ns:T0 Nat):ul V (qp V (.asks i z ns)):=rfl
def ul.len{V V':qB}(h:ul V V'):V'.calls.length=V.calls.length:=by
 have:=eY List.length h
 rwa [cW,cW]at this
noncomputable def An:Option Str->sO->Option Str
 | o,[]=>o
 | _,(z,_)::r=>An (Fa z) r
noncomputable def VF(i:Nat)(z:Str)(fs:T0 Nat):Option Str->T0 Ev
 | none=>[.asks i z fs]
 | some y=>[.leg ⟨i,y,z,y⟩,.asks i z fs]
theorem xp(i:Nat)(z:Str)(fs:T0 Nat):∀(st:sO) (o:Option Str),qY i o (st++[(z,fs)])=qY i o st++VF i z fs (An o st)
 | [],none=>rfl
 | [],Fa _=>rfl
 | (y,gs)::r,none=>by show .asks i y gs::qY i (Fa y) (r++[(z,fs)])=_;rw[xp i z fs r];rfl
 | (y,gs)::r,Fa u=>by show .leg ⟨i,u,y,u⟩::.asks i y gs::qY i (Fa y) (r++[(z,fs)])=_;rw[xp i z fs r];rfl
theorem zG(z:Str)(fs:T0 Nat):∀(st:sO) (o:Option Str),An o (st++[(z,fs)])=Fa z
 | [],_=>rfl
 | _::r,_=>zG z fs r _
def D9(st:sO):An Db st=(st.getLast?).map (·.1):=by
 rcases List.eq_nil_or_concat st with e|⟨r,s,e⟩
 .rw[e];rfl
 .rw[e,List.concat_eq_append,zG,List.getLast?_append];rfl
theorem vm(i:Nat):∀(st:sO) (o:Option Str) (V:qB),ul V (qI V (qY i o st))
 | [],_,V=>rfl
 | (y,gs)::r,Db,V=>(EG V i y gs).trans (vm i r (Fa y) _)
 | (y,gs)::r,Fa u,V=>((Ak V ⟨i,u,y,u⟩).trans (EG _ i y gs)).trans (vm i r (Fa y) _)
def Ql(a:Ad):rO:=λds M Q=>Oi λM0 b A V l c n i st r=>ds=[.ref b,.int ((i:Nat):Int),.ref r]/\tw a M0 M b A V l c n/\c<=1000000/\n<=8000000/\st.length<=100/\i<V.calls.length/\pq M r=Fa (qX st)/\r∉A.foot/\∀M' A',tw a M0 M' b A' (qI V (qY i Db st)) l c (n+2*st.length)->rh A M A' M'->Q .mY M'
def LY(a:Ad):rO:=λds M Q=>Oi λM0 b A V l c n i z ps=>ds=[.ref b,.int ((i:Nat):Int),.str z,names ps]/\tw a M0 M b A V l c n/\c<=1000000/\n<=8000000/\i<V.calls.length/\z∈l.nm/\ps≠[]/\(∀x∈ps,x∈l.mS z)/\ps.length<=100/\∀M' A',tw a M0 M' b A' (qI V (sF l V i (.rings z ps))) l c (n+2)->rh A M A' M'->Q .mY M'
def GM(l:pU)(V:qB)(i:Nat):vM->Prop
 | .rings z ps=>z∈l.nm/\ps≠[]/\(∀x∈ps,x∈l.mS z)/\ps.length<=100
 | .breaks z=>∃j k,ux V z=Fa j/\V.calls[j]?=Fa k/\i≠j/\k.ms.length=2
 | _=>True
def MX(a:Ad):rO:=λds M Q=>VB λM0 b A V l c n i z=>ds=[.ref b,.int ((i:Nat):Int),.str z]/\tw a M0 M b A V l c n/\c<=1000000/\n<=8000000/\i<V.calls.length/\GM l V i (.breaks z)/\∀M' A',tw a M0 M' b A' (qI V (sF l V i (.breaks z))) l c (n+2)->rh A M A' M'->Q .mY M'
def JL(a:Ad):rO:=λds M Q=>VB λM0 b A V l c n i e=>ds=[.ref b,.int ((i:Nat):Int),vM.d e]/\tw a M0 M b A V l c n/\c<=1000000/\n<=8000000/\i<V.calls.length/\GM l V i e/\∀M' A',tw a M0 M' b A' (qI V (sF l V i e)) l c (n+2)->rh A M A' M'->Q .mY M'
def Py(a:Ad):rO:=λds M Q=>VB λM0 b A V l c n i k=>ds=[.ref b,.int ((i:Nat):Int)]/\tw a M0 M b A V l c n/\c<=1000000/\n<=7000000/\Ax l V (Fa i)/\V.calls[i]?=Fa k/\∀M' A',tw a M0 M' b A' (qI V (uQ l V i)) l c (n+30)->rh A M A' M'->Q .mY M'
def Lv(a:Ad):rO:=λds M Q=>VB λM0 b A V l c n y z=>ds=[.ref b,.str y,.str z]/\tw a M0 M b A V l c n/\c<1000000/\n<=6000000/\Ax l (qI V [.new V.calls.length y,.leg ⟨V.calls.length,y,z,y⟩]) (Fa V.calls.length)/\∀M' A',tw a M0 M' b A' (qI V (yF l V y z)) l (c+1) (n+32)->rh A M A' M'->Q .mY M'
def NO{st:sO}{pre post:T0 D}{d:D}(e:pre++d::post=qX st):∃z fs,st[pre.length]?=Fa (z,fs)/\d=.tup [.str z,vG fs]/\st.take (pre.length+1)=st.take pre.length++[(z,fs)]:=by
 have h:(qX st)[pre.length]?=Fa d:=by rw[<-e];simp
 unfold qX at h;rw[dz]at h;cases q:st[pre.length]? with
 | none=>rw[q]at h;cases h
 | some s=>rw[q]at h;refine⟨s.1,s.2,Z',(dv h).symm,?_⟩;rw[gB,q];rfl
noncomputable def WY:Option Str->D
 | none=>.mY
 | some x=>.str x
def Gk{ss:QQQ}{x:Str}(h:ss.getLast?=Fa x):vY (ss.map D.str) (-1)=Fa (.str x):=by
 have hp:0<ss.length:=by cases ss with|nil=>cases h|cons _ _=>exact lF _
 unfold vY;have e:F4 (ss.map D.str).length (-1)=Fa (ss.length - 1):=by
  rw[cW];unfold F4;have:¬((-1:Int)>=0):=by decide
  simp;lia
 rw[e];show(ss.map D.str)[ss.length - 1]?=_;rw[dz,<-gU,h];rfl
def MJ(ds:T0 D):L3.ut ds Db (Fa (-1:Int))=ds.dropLast:=by
 unfold L3.ut;have e:HT.tV ds.length ds.length (Fa (-1:Int))=ds.length - 1:=by show(if (-1:Int)<0 then((-1:Int)+(ds.length:Int)).toNat else min (-1:Int).toNat ds.length)=ds.length - 1;rw[dg (by decide)];lia
 rw[e,HT.Cm,jm,lz,List.dropLast_eq_take]
def Qn:Fq P w K mg base 4 a.a0 (Ql a):=by
 refine fq G.a0.toDG uA (λr u=>⟨_,(pK (qc 3 uA sL)
 (pL (ur eU Z' (qZ U2) (uX (n:=2) Z' (qE (rq 4 uA) (qE (rq 5 uA) tK)))
 (pK (qg (pW u U3 sL)
 (pL (qe (qv v0 G.c.toCls G.k (rF G) r (qA (qd (qo pO (qo U1 (rC U3 U4 U3))))))))
 pZ)
 (pK (qe (qv v0 G.c.toCls G.k (rF G) r (qA (qd (qo pO (rC U1 U4 v5))))))
 (pL (qc 3 uA U4))))))),?_⟩)
 rintro ds M Q ⟨M0,b,A,V,l,c,n,i,st,r,rfl,cu,hc,hn,Yb,hi,lr,nf,q⟩
 refine i' lr (vg (qX st) (λpre U M'=>(∃A',tw a M0 M' b A' (qI V (qY i Db (st.take pre.length))) l c (n+2*pre.length)/\rh A M A' M')/\∃y4 y5,U=[Fa (.ref b),Fa (.int ((i:Nat):Int)),Fa (.ref r),Fa (WY (An Db (st.take pre.length))),y4,y5]) (λpre U M' j=>?_) _ [] _ _ Z' ⟨⟨A,cu,.refl⟩,Db,Db,Z'⟩ ?_ ?_)
 .obtain⟨⟨A',c1,Yw⟩,_⟩:=j;exact rR (Yw.1 r _ nf (ql lr))
 .rintro pre d post e U M' ⟨⟨A',c1,Yw⟩,y4,y5,rfl⟩ nx XX
  obtain⟨z,fs,es,rfl,et⟩:=NO e;have hp:pre.length<100:=dR (cY.mp es).1 Yb;rw[cZ,dQ,et,xp,zG]at XX;have len:∀es,ul V (qI V es)->i<(qI V es).calls.length:=λes h=>by rw[h.len];exact hi
  have YF:=len _ (vm i (st.take pre.length) Db V);generalize hV:qI V (qY i Db (st.take pre.length))=V1 at c1 YF;rw[sI,hV]at XX;refine⟨Z',?_⟩;dsimp only[sC,yf,Cj];have asks:∀(M2:Mp) (A2:sA) (V2:qB) (m:Nat) (y3:Option D),m<9000000->tw a M0 M2 b A2 V2 l c m->rh A M A2 M2->(∀M3 A3,tw a M0 M3 b A3 (qp V2 (.asks i z fs)) l c (m+1)->rh A M A3 M3->nx [Fa (.ref b),Fa (.int ((i:Nat):Int)),Fa (.ref r),Fa (.str z),Fa (.str z),Fa (vG fs)] M3)->AG (M2 b) λC fs'=>fs'.lookup ("apply":Str)=Db/\∃sp,(C=a.c/\sp=wQ a)/\4<=Ch/\sp [.ref b,.tup [.str "asks",.int ((i:Nat):Int),.str z,vG fs]] M2 λ_ M3=>nx [Fa (.ref b),Fa (.int ((i:Nat):Int)),Fa (.ref r),Fa (.str z),Fa (.str z),Fa (vG fs)] M3:=λM2 A2 V2 m y3 hm c2 s2 k=>pM c2.at_ ⟨Z',_,⟨Z',Z'⟩,by rw[dP];decide,b,A2,V2,.asks i z fs,Z',c2.b,c2.bd,c2.lim hc hm,trivial,λM3 A3 eb s3 bd=>k M3 A3 (c2.after trivial eb s3 bd) (s2.trans s3)⟩;cases hl:An Db (st.take pre.length)with
  | none=>rw[hl]at XX;refine asks M' A' V1 _ Db (by lia) c1 Yw λM3 A3 c3 s3=>XX _ _ ⟨⟨A3,c3.mono (dw _) (by lia),s3⟩,_,_,Z'⟩
  | some y=>rw[hl]at XX;refine pM c1.at_ ⟨Z',_,⟨Z',Z'⟩,pI Z',b,A',V1,.leg ⟨i,y,z,y⟩,Z',c1.b,c1.bd,c1.lim hc (by lia),YF,λM2 A2 eb s2 bd=>?_⟩;have c2:=c1.after (e:=.leg ⟨i,y,z,y⟩) YF eb s2 bd;refine asks M2 A2 _ _ Db (by lia) c2 (Yw.trans s2) λM3 A3 c3 s3=>XX _ _ ⟨⟨A3,c3.mono (dw _) (by lia),s3⟩,_,_,Z'⟩
 .rintro U M' ⟨⟨A',c1,Yw⟩,_⟩
  have hl:(qX st).length=st.length:=by unfold qX;rw[cW]
  rw[hl,fv]at c1;exact⟨M',.refl,q M' A' c1 Yw⟩
def Na:Fq P w K mg base 4 a.a1 (LY a):=by
 refine fq G.a1.toDG vj (λr u=>⟨_,(pK (qg (pW u (qv (pQ v0) G.h.toCls G.aN (yz G) r (qA U2)) pO)
 (pK (qc 4 vj (qv (pQ v0) G.h.toCls G.Y (va G) r (qA U2)))
 (pK (qc 5 vj (qu (qu (yg U4 (qA (pV U3 pN))) pN) (qm qP Z' G.g qL (qA U4))))
 (pL (qe (qv v0 G.c.toCls G.k (rF G) r (qA (qd (rC pO U2 v5))))))))
 pZ)
 (pL (qe (qv v0 G.c.toCls G.k (rF G) r (qA (qd (rC pO U1 U3))))))),?_⟩)
 rintro ds M Q ⟨M0,b,A,V,l,c,n,i,z,ps,rfl,cu,hc,hn,hi,hz,X9,hm,hps,q⟩
 obtain⟨ph,gr,ws,Zh,pr,gd,rs,i1,_⟩:=cu.pl;have pl:=cu.pl;obtain⟨x,ps',rfl⟩:=fK X9;obtain⟨⟨pne,_⟩,_⟩:=cu.ok.of hz;refine Rq (t:=MY _ _ _) (λU M'=>(∃A',tw a M0 M' b A' (qI V (if (l.m7 z=="turns")=pc then[.next z (RB (l.mS z) x)]else[])) l c (n+1)/\rh A M A' M')/\∃y1 y2,U=[Fa (.ref b),Fa (.int ((i:Nat):Int)),Fa (.str z),Fa (names (x::ps')),y1,y2]) (λnx h=>?_) ?_
 .refine pM cu.at_ (i' Z' (pM i1 ⟨Z',_,⟨Z',Z'⟩,V.p,z,l,Z',pl,?_⟩));refine qU (c:=l.m7 z=="turns") (λg=>?_) (λg=>?_)
  .rw[dg g]at h;refine pM cu.at_ (i' Z' (pM i1 ⟨Z',_,⟨Z',Z'⟩,V.p,z,l,Z',pl,λp hp=>?_⟩));have t:=qJ.new (c:=.lst ((l.mS z).map D.str)) hp;have lp:=@pR M p ((l.mS z).map D.str);have cu':=cu.sub t;have st0:rh A M A (pT M p (.lst ((l.mS z).map D.str))):=.sub t;generalize pT M p (.lst ((l.mS z).map D.str))=M1 at t lp cu' st0 ⊢;have ej:=B5 x (l.mS z) (hm x dI);have lpos:0<(l.mS z).length:=fG.mpr pne;have el:(((l.mS z).map D.str).length:Int)=(l.mS z).length:=by rw[cW]
   refine⟨by show(pq M1 p).isSome=pc;rw[lp];rfl,i' (xO _ _) (i' lp ⟨Z',qN _,i' ej (i' lp ⟨by rw[el];lia,?_⟩)⟩)⟩;rw[el];refine pM cu'.at_ ⟨Z',_,⟨Z',Z'⟩,pI Z',b,A,V,.next z (RB (l.mS z) x),Z',cu'.b,cu'.bd,cu'.lim hc (by lia),trivial,λM2 A2 eb st Y9=>?_⟩;exact h _ _ ⟨⟨A2,cu'.after (e:=.next z (RB (l.mS z) x)) trivial eb st Y9,st0.trans st⟩,_,_,Z'⟩
  .rw[de g]at h;exact h _ _ ⟨⟨A,cu.mono (dw _) (by lia),.refl⟩,_,_,Z'⟩
 rintro U M1 ⟨⟨A1,c1,Yw⟩,y1,y2,rfl⟩
 have q:∀M' A',tw a M0 M' b A' (qI V ((if (l.m7 z=="turns")=pc then[.next z (RB (l.mS z) x)]else[])++[.rings i (x::ps')])) l c (n+2)->rh A M A' M'->Q .mY M':=q;rw[sI]at q;have YF:i<(qI V (if (l.m7 z=="turns")=pc then[.next z (RB (l.mS z) x)]else[])).calls.length:=by
  split
  .exact hi
  .exact hi
 generalize qI V (if (l.m7 z=="turns")=pc then[.next z (RB (l.mS z) x)]else[])=V1 at c1 q YF;refine pM c1.at_ ⟨Z',_,⟨Z',Z'⟩,pI Z',b,A1,V1,.rings i (x::ps'),Z',c1.b,c1.bd,c1.lim hc (by lia),⟨YF,hps⟩,λM2 A2 eb Ya Y9=>?_⟩;exact⟨M2,.refl,q M2 A2 (c1.after (e:=.rings i (x::ps')) ⟨YF,hps⟩ eb Ya Y9) (Yw.trans Ya)⟩
def LW:Fq P w K mg base 4 a.a2 (MX a):=by
 refine fq G.a2.toDG yh (λr u=>⟨_,(pK (qc 3 yh (qv v0 G.c.toCls G.M (xn G) r (qA U2)))
 (pK (qc 4 yh (qu (qK uC Z' G.E uu (qA (pQ (pV (pQ v0) U3)))) (qd (qA (pQ (pV (pQ v0) U1))))))
 (pL (qe (qv v0 G.c.toCls G.k (rF G) r (qA (qd (qo pO (rC U1 U3 U4))))))))),?_⟩)
 rintro ds M Q ⟨M0,b,A,V,l,c,n,i,z,rfl,cu,hc,hn,hi,⟨j,k,ej,ek,YN,Zg⟩,q⟩
 have hz:=dP;have ei:V.calls[i]?=Fa V.calls[i]:=c9 hi;generalize V.calls[i]=ci at ei;obtain⟨ka,qi⟩:=cu.call ei;obtain⟨kb,qj⟩:=cu.call ek;obtain⟨ad,md,h1,h2,h3,h4,_⟩:=qi.cell;obtain⟨ad',md',g1,g2,g3,g4,_⟩:=qj.cell;have hee:sF l V i (.breaks z)=[.merge i j (k.ms++[ci.cr])]:=by unfold sF;dsimp only;rw[ej,ei];dsimp only;rw[ek];rfl
 rw[hee]at q;have ok:(Ev.merge i j (k.ms++[ci.cr])).ok V:=⟨hi,(cY.mp ek).1,YN,by rw[cZ,Zg];show 3<=100;decide⟩;refine pM cu.at_ ⟨Z',_,⟨Z',Z'⟩,A,V,z,by rw[cu.b],cu.bd,d9 cu.sz.ca hc,?_⟩;rw[show yX V z=.int (j:Nat)from by unfold yX;rw[ej];rfl];refine pM cu.at_ (i' Z' (i' Z' (i' cu.bd.ca (i' (rL qj.e1) (pM g1 (i' Z' (i' g4 ?_)))))));refine pM cu.at_ (i' Z' (i' Z' (i' cu.bd.ca (i' (rL qi.e1) (pM h1 (i' Z' ⟨pI Z',?_⟩))))));refine⟨(by intro y;rw[kU]at y;rw[y]at Zg;cases Zg),(by rw[cW,Zg];show 2+1<=Ch;lia),?_⟩;rw[show k.ms.map D.str++[D.str ci.cr]=(k.ms++[ci.cr]).map D.str by rw[dM];rfl];refine pM cu.at_ ⟨Z',_,⟨Z',Z'⟩,pI Z',b,A,V,.merge i j (k.ms++[ci.cr]),Z',cu.b,cu.bd,cu.lim hc (by lia),ok,λM2 A2 eb Ya Y9=>?_⟩;exact⟨M2,.refl,q M2 A2 ((cu.after ok eb Ya Y9).mono (dw _) (by lia)) Ya⟩
def P6:Fq P w K mg base 5 a.a3 (JL a):=by
 refine fq G.a3.toDG yt (λr u=>⟨_,(pK (qc 3 yt (pV U2 pN))
 (pL (qg (pW u U3 pO)
 (pL (qe (pX (Na G) r G.a1 (qo v0 (rC U1 (pV U2 pN) (pV U2 pN))))))
 (pL (qg (pW u U3 pO)
 (pL (qe (qv v0 G.c.toCls G.k (rF G) r (qA (qd (rC pO U1 (pV U2 pN)))))))
 (pL (qg (pW u U3 pO)
 (pL (qe (pX (LW G) r G.a2 (rC v0 U1 (pV U2 pN)))))
 (pL (qe (qv v0 G.c.toCls G.k (rF G) r (qA (qd (rC pO U1 U3))))))))))))),?_⟩)
 rintro ds M Q ⟨M0,b,A,V,l,c,n,i,e,rfl,cu,hc,hn,hi,he,q⟩
 have one:∀(ev:Ev) (ok:ev.ok V),ev.nw=0->sF l V i e=[ev]->∀M2 A2,A2.b=A.b->rh A M A2 M2->qa a M2 A2 (qp V ev)->∃XU,qJ XU M2/\Q .mY XU:=λev ok h0 h1 M2 A2 eb Ya Y9=>by rw[h1]at q;have c2:=cu.after ok eb Ya Y9;rw[h0]at c2;exact⟨M2,.refl,q M2 A2 (c2.mono (dw _) (by lia)) Ya⟩
 cases e with
 | rings z ps=>exact⟨M0,b,A,V,l,c,n,i,z,ps,Z',cu,hc,hn,hi,he.1,he.2.1,he.2.2.1,he.2.2.2,λM' A' c1 st=>⟨M',.refl,q M' A' c1 st⟩⟩
 | waits z=>exact pM cu.at_ ⟨Z',_,⟨Z',Z'⟩,pI Z',b,A,V,.waits i z,Z',cu.b,cu.bd,cu.lim hc (by lia),hi,one (.waits i z) hi Z' Z'⟩
 | breaks z=>exact⟨M0,b,A,V,l,c,n,i,z,Z',cu,hc,hn,hi,he,λM' A' c1 st=>⟨M',.refl,q M' A' c1 st⟩⟩
 | engaged z=>exact pM cu.at_ ⟨Z',_,⟨Z',Z'⟩,pI Z',b,A,V,.over i "engaged",Z',cu.b,cu.bd,cu.lim hc (by lia),hi,one (.over i "engaged") hi Z' Z'⟩
 | barred=>exact pM cu.at_ ⟨Z',_,⟨Z',Z'⟩,pI Z',b,A,V,.over i "barred",Z',cu.b,cu.bd,cu.lim hc (by lia),hi,one (.over i "barred") hi Z' Z'⟩
 | ring ns=>exact pM cu.at_ ⟨Z',_,⟨Z',Z'⟩,pI Z',b,A,V,.over i "ring",Z',cu.b,cu.bd,cu.lim hc (by lia),hi,one (.over i "ring") hi Z' Z'⟩
def Og{V:qB}{i:Nat}{k:pP}{e:vM}(ok:sf l)(wf:Ax l V (Fa i))(hk:V.calls[i]?=Fa k)(h:Em l V k.cr e):GM l V i e:=by
 cases e with
 | rings z ps=>obtain⟨hz,X9,rfl⟩:=h;have h1:=(Ca (l:=l) (V:=V) (c:=k.cr) (z:=z));have h2:=(ok.of hz).1.2.1;exact⟨hz,X9,λx hx=>(h1.1 x hx).2,by have:=h1.2;lia⟩
 | breaks z=>
  obtain⟨x,rfl,hb⟩:=h;obtain⟨j,d,e1,e2,e3,e4,e5,_⟩:=Cd hb;refine⟨j,d,e1,e2,λy=>?_,e5⟩;subst y;rw[hk]at e2;cases e2;have sh:=(wf.ok i k hk).sh;rw[show(Fa i==Fa i)=pc from e9 _]at sh;rcases sh with g|g
  .rw[g.1]at e3;exact absurd e3 (by decide)
  .cases g.1
 | _=>trivial
def J9:Fq P w K mg base 9 a.ad (Py a):=by
 refine fq G.ad.toDG xi (λr u=>⟨_,(pK (qc 2 xi (pV (pQ v0) U1))
 (pK (qc 3 xi (pX (GU G) r G.ab (qo v0 (rC (pQ U2) (pV (pQ U2) (zg pN)) (sW (pQ U2) uk (tL (zg pN)))))))
 (pK (qc 4 xi (pV U3 pN))
 (pK (qc 5 xi (pV U3 pN))
 (pK (qe (pX (Qn G) r G.a0 (rC v0 U1 v5)))
 (pK (qg (W3.b3 (vv (pW u (pV U4 pN) pO) (vN (pW u (qm qP Z' G.g qL (qA v5)) pN))))
 (pK (qc 6 xi (pV (pV v5 (zg pN)) pN))
 (pL (qe (qv v0 G.c.toCls G.k (rF G) r (qA (qd (qo pO (qo U1 (rC v6 (pV (pV U4 pN) pN) v6)))))))))
 pZ)
 (pL (qe (pX (P6 G) r G.a3 (rC v0 U1 U4)))))))))),?_⟩)
 rintro ds M Q ⟨M0,b,A,V,l,c,n,i,k,rfl,cu,hc,hn,wf,hk,q⟩
 obtain⟨ka,ci⟩:=cu.call hk;obtain⟨ad,md,h1,h2,h3,h4,n1,n2⟩:=ci.cell;have YU:=wf.ok i k hk;have hi:=(cY.mp hk).1;obtain⟨z,hz⟩:∃z,k.way.getLast?=Fa z:=by
  cases e:k.way.getLast? with
  | none=>exact absurd (fU.mp e) YU.wy.1
  | some z=>exact⟨z,Z'⟩
 have YG:z∈l.nm:=YU.wy.2 z (je hz);have hdn:∀x∈k.way.dropLast,x∈l.nm:=λx hx=>YU.wy.2 x (jf _ hx);have Z1:=(cu.sz.cs k (qV hk)).1;have hev:uQ l V i=qY i Db (tM l V k.cr z k.way.dropLast).2++(sm i (tM l V k.cr z k.way.dropLast).2 (tM l V k.cr z k.way.dropLast).1++sF l V i (tM l V k.cr z k.way.dropLast).1):=by
  unfold uQ;rw[hk];have:k.way.getLastD Str.empty=z:=by rw[iz,hz];rfl
  dsimp only[Option.elim];rw[this]
 rw[hev]at q;have ro:xI l V k.cr (l.nm.length+1) [] (tM l V k.cr z k.way.dropLast):=yr cu.ok _ _ _ _ YG hdn;have rl:=ro.len;have eo:=Og cu.ok wf hk ro.e;have nl:l.nm.length<=11:=by have p8:=cu.ok.p8;have g3:=cu.ok.g3;unfold pU.nm pU.pn pU.gn;rw[cZ,cW,cW];lia
 have re:=ro.e;refine Rq (t:=Hi _ _) (λU M'=>M=M'/\U=[Fa (.ref b),Fa (.int ((i:Nat):Int)),Fa (.ref ka.p),Db,Db,Db,Db]) (λnx0 h=>pM cu.at_ (i' Z' (i' Z' (i' ci.bd.ca (i' (rL ci.e1) (h _ _ ⟨Z',Z'⟩)))))) ?_
 rintro U _ ⟨rfl,rfl⟩
 refine Rq (t:=Hi _ _) (λU M'=>qJ M M'/\∃r,M r=Db/\pq M' r=Fa (qX (tM l V k.cr z k.way.dropLast).2)/\U=[Fa (.ref b),Fa (.int ((i:Nat):Int)),Fa (.ref ka.p),Fa (.tup [(tM l V k.cr z k.way.dropLast).1.d,.ref r]),Db,Db,Db]) (λnx0 h=>?_) ?_
 .refine pM h1 (i' Z' (pM h1 (i' Z' (i' h2 (i' (Gk hz) (pM h1 (i' Z' (i' h2 λp hp=>?_))))))));rw[show L3.ut (k.way.map D.str) Db (Fa (-1:Int))=k.way.dropLast.map D.str from(MJ _).trans (List.map_dropLast).symm];have t:=qJ.new (c:=.lst (k.way.dropLast.map D.str)) hp;have lp:=@pR M p (k.way.dropLast.map D.str);refine⟨A,V,l,k.cr,z,p,k.way.dropLast,by rw[cu.b],(cu.rd hc wf).sub t,YG,wf.nx,lp,by rw[List.length_dropLast];lia,λr M' s hr lr=>?_⟩;exact h _ _ ⟨t.trans s,r,t.none hr,lr,Z'⟩
 rintro U M1 ⟨s1,r,hr,lr,rfl⟩
 generalize tM l V k.cr z k.way.dropLast=R at lr ro rl eo re q;obtain⟨e,st⟩:=R;have cu1:=cu.sub s1;have rl:st.length<=0+(l.nm.length+1):=rl;refine⟨M0,b,A,V,l,c,n,i,st,r,Z',cu1,hc,by lia,by lia,hi,lr,cu.bd.nu hr,λM2 A2 c2 Ya=>?_⟩;have same:=vm i st Db V;have Y2:i<(qI V (qY i Db st)).calls.length:=by rw[same.len];exact hi
 have lr2:pq M2 r=Fa (qX st):=rR (Ya.1 r _ (cu.bd.nu hr) (ql lr));rw[sI,sI]at q;have hee:=λV' (h:ul V V')=>h.ends (l:=l) i e;have hat:∀V',ul V V'->GM l V' i e:=λV' h=>by
  cases e with
  | breaks z'=>obtain⟨j,d,a1,a2,a3,a4⟩:=eo;obtain⟨d',b1,b2⟩:=h.at_ a2;exact⟨j,d',by rw[h.nS];exact a1,b1,a3,by rw[show d'.ms=d.ms from show d'.bare.ms=d.bare.ms by rw[b2]];exact a4⟩
  | rings _ _=>exact eo
  | _=>trivial
 generalize qI V (qY i Db st)=V2 at c2 Y2 same q;have YV:∀(M3:Mp) (A3:sA) (V3:qB),tw a M0 M3 b A3 V3 l c (n+2*st.length+1)->rh A M A3 M3->ul V V3->i<V3.calls.length->V3=qI V2 (sm i st e)->JL a [.ref b,.int ((i:Nat):Int),e.d] M3 λ_ M'=>∃XU,qJ XU M'/\Q .mY XU:=λM3 A3 V3 c3 s3 YW hi3 e3=>⟨M0,b,A3,V3,l,c,_,i,e,Z',c3,hc,by lia,hi3,hat V3 YW,λM4 A4 c4 s4=>⟨M4,.refl,q M4 A4 (by
  rw[<-e3];rw[hee V3 YW]at c4;exact c4.mono (dw _) (by lia)) (s3.trans s4)⟩⟩
 have c2':=c2.mono (dw c) (show n+2*st.length<=n+2*st.length+1 by lia);have Za:=(rh.sub s1 (A:=A)).trans Ya;cases e with
 | ring ns=>
  obtain⟨x,ns',rfl⟩:=fK (show ns≠[]from re);refine i' lr2 ?_;cases hl:st.getLast? with
  | none=>have:st=[]:=fU.mp hl;subst this;exact YV M2 A2 V2 c2' Za same Y2 Z'
  | some s0=>
   have Zn:0<st.length:=by cases st with|nil=>cases hl|cons _ _=>exact lF _
   have hd:decide ((0:Int)<((qX st).length:Int))=pc:=dX (by unfold qX;rw[cW];lia);refine Bw (c:=decide ((0:Int)<((qX st).length:Int))) hd ?_;have hat1:vY (qX st) (-1)=Fa (.tup [.str s0.1,vG s0.2]):=by
    unfold vY;have e1:F4 (qX st).length (-1)=Fa (st.length - 1):=by unfold qX;rw[cW];unfold F4;simp;lia
    rw[e1];show(qX st)[st.length - 1]?=_;unfold qX;rw[dz,<-gU,hl];rfl
   have hrv:sm i st (.ring (x::ns'))=[.leg ⟨i,s0.1,x,s0.1⟩]:=by unfold sm;dsimp only;rw[hl];rfl
   rw[hrv]at YV;refine i' lr2 (i' hat1 ?_);refine pM c2.at_ ⟨Z',_,⟨Z',Z'⟩,i' (xO _ _) ⟨pI Z',b,A2,V2,.leg ⟨i,s0.1,x,s0.1⟩,Z',c2.b,c2.bd,c2.lim hc (by lia),Y2,λM3 A3 eb Yp bd3=>?_⟩⟩;have YW:=same.trans (Ak V2 ⟨i,s0.1,x,s0.1⟩);exact YV M3 A3 _ (c2.after (e:=.leg ⟨i,s0.1,x,s0.1⟩) Y2 eb Yp bd3) (Za.trans Yp) YW (by rw[YW.len];exact hi) Z'
 | rings z' ps=>exact YV M2 A2 V2 c2' Za same Y2 Z'
 | waits z'=>exact YV M2 A2 V2 c2' Za same Y2 Z'
 | breaks z'=>exact YV M2 A2 V2 c2' Za same Y2 Z'
 | engaged z'=>exact YV M2 A2 V2 c2' Za same Y2 Z'
 | barred=>exact YV M2 A2 V2 c2' Za same Y2 Z'
def Oc:Fq P w K mg base 10 a.a4 (Lv a):=by
 refine fq G.a4.toDG Am (λr u=>⟨_,(pK (qc 3 Am (qm qP Z' G.g qL (qA (pQ v0))))
 (pK (qe (qv v0 G.c.toCls G.k (rF G) r (qA (qd (rC pO U3 U1)))))
 (pK (qe (qv v0 G.c.toCls G.k (rF G) r (qA (qd (qo pO (qo U3 (rC U1 U2 U1)))))))
 (pL (qe (pX (J9 G) r G.ad (sH v0 U3))))))),?_⟩)
 rintro ds M Q ⟨M0,b,A,V,l,c,n,y,z,rfl,cu,hc,hn,wf,q⟩
 have lc:((A.cs.map λk=>D.ref k.p).length:Int)=(V.calls.length:Nat):=by rw[cW,cu.bd.len]
 refine pM cu.at_ (i' Z' (i' cu.bd.ca ?_));rw[lc];refine pM cu.at_ ⟨Z',_,⟨Z',Z'⟩,pI Z',b,A,V,.new V.calls.length y,Z',cu.b,cu.bd,cu.lim (by lia) (by lia),trivial,λM1 A1 eb1 Yw bd1=>?_⟩;have c1:=cu.after (e:=.new V.calls.length y) trivial eb1 Yw bd1;have ok2:(Ev.leg ⟨V.calls.length,y,z,y⟩).ok (qp V (.new V.calls.length y)):=by show V.calls.length<(V.calls++[zB y]).length;rw[cZ];exact fE _
 refine pM c1.at_ ⟨Z',_,⟨Z',Z'⟩,pI Z',b,A1,_,.leg ⟨V.calls.length,y,z,y⟩,Z',c1.b,c1.bd,c1.lim (by show c+1<=_;lia) (by lia),ok2,λM2 A2 eb2 Ya Y9=>?_⟩;have c2:=c1.after ok2 eb2 Ya Y9;obtain⟨k,hk⟩:∃k,(qI V [.new V.calls.length y,.leg ⟨V.calls.length,y,z,y⟩]).calls[V.calls.length]?=Fa k:=by
  have:V.calls.length<(qI V [.new V.calls.length y,.leg ⟨V.calls.length,y,z,y⟩]).calls.length:=by show V.calls.length<((V.calls++[zB y]).modify _ _).length;rw[fj];exact ok2
  exact⟨_,c9 this⟩
 refine⟨M0,b,A2,_,l,c+1,n+2,V.calls.length,k,Z',c2,by lia,by lia,wf,hk,λM3 A3 c3 Yp=>⟨M3,.refl,q M3 A3 ?_ (Yw.trans (Ya.trans Yp))⟩⟩;unfold yF;rw[sI];exact c3.mono (dw _) (by lia)
def Gg(V:qB)(x:Str):D:=Hc (vd V x)
abbrev ET:=Ku Gg
def L8(a:Ad):rO:=λds M Q=>HE λA V l x z=>ds=[.ref A.b,.str x,.str z]/\Rd a M A V l/\x∈l.pn/\Q (Hc (Hr l V x z)) M
inductive wF(a:Ad)(M:Mp)(L:QXQ):List rS->List pP->Prop
 | nil:wF a M L [] []
 | cons (k:rS) (c:pP) (ks:List rS) (cs:List pP) (h:sv a M L k c) (r:wF a M L ks cs):wF a M L (k::ks) (c::cs)
def uz.nf(w:Str)(m:Nat):Prop:=((w="answer"\/w="hang"\/w="hold"\/w="back")/\m=1)\/((w="hand"\/w="join")/\m=2)
def Ml(a:Ad):rO:=λds M Q=>K0 λwd x r L ks cs=>ds=[.str wd,.str x,.ref r]/\pq M r=Fa (List.map (λk:rS=>D.ref k.p) ks)/\wF a M L ks cs/\uz.nf wd cs.length/\Q (.bl (Jg wd x cs)) M
def JS(a:Ad):rO:=λds M Q=>K0 λA V l wd x ns=>ds=[.ref A.b,.str wd,.str x,.tup (List.map D.int ns)]/\Rd a M A V l/\x∈l.pn/\uz.nf wd ns.length/\Q (Hc (Mj l V wd x ns)) M
def T4(a:Ad):rO:=λds M Q=>CO λA V b i=>ds=[.ref A.b,.str (Vn b),.int i]/\qa a M A V/\Q (Hc (QH V b i)) M
def HX(a:Ad):rO:=λds M Q=>CO λA V l e=>ds=[.ref A.b,uz.d e]/\Rd a M A V l/\e.nI/\Q (Hc (yS l V e)) M
def Xj(m:Nat):D->D
 | .int i=>.bl (Au m i)
 | _=>.bl lf
noncomputable def Xk(A:sA):D->D
 | .int i=>(A.cs[i.toNat]?).elim .mY λk=>.ref k.p
 | _=>.mY
theorem RM{V:qB}(bd:qa a M A V):∀{ns:T0 Int},ns.all (Au V.calls.length)=pc->∃ks,wF a M (A.lists++V.fo) ks (ug V ns)/\(ns.map D.int).map (Xk A)=ks.map (λk:rS=>D.ref k.p)/\(ug V ns).length=ns.length/\∀i∈ns,∃k,0<=i/\A.cs[i.toNat]?=Fa k
 | [],_=>⟨[],.nil,Z',Z',λi hi=>by cases hi⟩
 | i::r,h=>by
  rw[fD,dZ]at h;obtain⟨ks,h1,h2,h3,h4⟩:=RM bd h.2;have hh:(decide (0<=i)&&decide (i<V.calls.length))=pc:=h.1;rw[dZ,eF,eF]at hh;have hi:i.toNat<V.calls.length:=by lia
  have hk:i.toNat<A.cs.length:=by rw[bd.len];exact hi
  have e1:A.cs[i.toNat]?=Fa A.cs[i.toNat]:=c9 hk;have e2:V.calls[i.toNat]?=Fa V.calls[i.toNat]:=c9 hi;have ec:ug V (i::r)=V.calls[i.toNat]::ug V r:=by unfold ug;rw[List.filterMap_cons_some (f:=λi:Int=>V.calls[i.toNat]?) e2]
  rw[ec];refine⟨A.cs[i.toNat]::ks,.cons _ _ _ _ (bd.cs _ _ _ e1 e2) h1,?_,eY Nat.succ h3,λj hj=>?_⟩
  .rw[dY,dY,h2];show(A.cs[i.toNat]?).elim _ _::_=_;rw[e1];rfl
  .rcases dh.mp hj with rfl|hj
   .exact⟨_,hh.1,e1⟩
   .exact h4 j hj
def wF.sub(h:wF a M L ks cs)(s:qJ M M'):wF a M' L ks cs:=by
 induction h with
 | nil=>exact .nil
 | cons k c ks cs h r ih=>exact .cons k c ks cs (h.sub s) ih
def Tr{bs:T0 Bool}{i:Int}(h:Au bs.length i=pc):vY (bs.map D.bl) i=Fa (.bl (bs.getD i.toNat lf)):=by
 have hh:(decide (0<=i)&&decide (i<bs.length))=pc:=h;rw[dZ,eF,eF]at hh;obtain⟨n,rfl⟩:=eG hh.1;have hn:n<bs.length:=by lia
 refine tU ?_;rw[dz,c9 hn];show Fa (D.bl bs[n])=Fa (.bl (bs.getD n lf));rw[gm,c9 hn];rfl
def EM:Fq P w K mg base 4 a.ac (ET a):=by
 refine fq G.ac.toDG zC (λr u=>⟨_,(pK (qg (pW u (qv v0 G.c.toCls G.bE (LX G) r (qA U1)) sL)
 (pL (pS pO))
 pZ)
 (pK (qg (pW u (qv v0 G.c.toCls G.bF (Ip G) r (qA U1)) sL)
 (pL (pS pO))
 pZ)
 (pL (pS sL)))),?_⟩)
 rintro ds M Q ⟨A,V,x,rfl,bd,hk,q⟩
 unfold Gg vd at q;refine pM bd.at_ ⟨Z',_,⟨Z',Z'⟩,A,V,x,Z',bd,hk,?_⟩;unfold LA;cases e:FT V x with
 | some j=>rw[e]at q;exact⟨M,.refl,q⟩
 | none=>
  rw[e]at q;refine pM bd.at_ ⟨Z',_,⟨Z',Z'⟩,A,V,x,Z',bd,hk,?_⟩;unfold Vm;cases e:Jv V x with
  | some j=>rw[e]at q;exact⟨M,.refl,q⟩
  | none=>rw[e]at q;exact⟨M,.refl,q⟩
def OA:Fq P w K mg base 5 a.aV (L8 a):=by
 refine fq G.aV.toDG wZ (λr u=>⟨_,(pK (qg (pW u U2 (yJ (pQ v0) G.h.toCls G.bD (DT G) r))
 (pL (pS pO))
 pZ)
 (pK (qc 3 wZ (pX (EM G) r G.ac (sH v0 U1)))
 (pK (qg (W3.b3 (vv (pW u U3 sL) (vN (xX (vH (qv v0 G.c.toCls G.V (zx G) r (qA U1)))))))
 (pL (pS pO))
 pZ)
 (pL (pS U3))))),?_⟩)
 rintro ds M Q ⟨A,V,l,x,z,rfl,rd,hx,q⟩
 obtain⟨ph,gr,ws,Zh,pr,gd,rs,i1,_⟩:=rd.pl;have p8:=rd.ok.p8;have g3:=rd.ok.g3;unfold Hr at q;refine pM rd.bd.at_ (i' Z' (pM i1 ⟨Z',_,⟨Z',Z'⟩,V.p,l,Z',rd.pl,by lia,by lia,λp hp=>i' pR ⟨Z',qN _,?_⟩⟩));have t:=qJ.new (c:=.lst (l.nm.map D.str)) hp;have Yo:=rd.sub t;generalize pT M p (.lst (l.nm.map D.str))=M1 at t Yo ⊢;show if (!(inD (.str z) (l.nm.map D.str)))=pc then _ else _
 rw[tq];refine qU (c:=!(hasS l.nm z)) (λg=>?_) (λg=>?_)
 .rw[dg (by simpa using g)]at q;exact⟨M,t,q⟩
 rw[de (by simpa using g)]at q;refine⟨A,V,x,Z',Yo.bd,Yo.k,?_⟩;unfold Gg;cases e:vd V x with
 | some w0=>rw[e]at q;exact⟨M,t,q⟩
 | none=>
  rw[e]at q;refine pM Yo.bd.at_ ⟨Z',_,⟨Z',Z'⟩,A,V,l,x,Z',Yo,hx,?_⟩;refine qU (c:=!(uB l V x)) (λg=>?_) (λg=>?_)
  .rw[g]at q;exact⟨M,t,q⟩
  .rw[show(!(uB l V x))=lf from dH.mpr g]at q;exact⟨M,t,q⟩
def Nm:Fq P w K mg base 3 a.aW (Ml a):=by
 refine fq G.aW.toDG Os (λr u=>⟨_,(pK (qg (pW u v0 pO)
 (pL (pS (qG u U1 (pQ (pV U2 pN)))))
 pZ)
 (pK (qg (pW u v0 pO)
 (pL (pS (qv (pV U2 pN) G.e.toCls G.bI (LN G) r (qA U1))))
 pZ)
 (pK (qg (pW u v0 pO)
 (pL (pS (qv (pV U2 pN) G.e.toCls G.aK (Ha G) r (qA U1))))
 pZ)
 (pK (qg (pW u v0 pO)
 (pL (pS (qG u (pQ (pV U2 pN)) U1)))
 pZ)
 (pL (pS (tY (qG u (pQ (pV U2 pN)) U1) (tJ (qv (pV U2 pN) G.e.toCls G.aK (Ha G) r (qA U1)))))))))),?_⟩)
 rintro ds M Q ⟨wd,x,r,L,ks,cs,rfl,lr,hcs,hw,q⟩
 cases hcs with
 | nil=>rcases hw with⟨_,h⟩|⟨_,h⟩<;>cases h
 | cons k c ks cs hc Yn=>
 obtain⟨ad,md,h1,h2,h3,h4,_⟩:=id hc;have a0:=xO (.ref k.p) (ks.map λk:rS=>D.ref k.p);have hold:∀K:DK,K (.bl (c.hd==Fa x)) M->Option.elim (zK M 9 (Hc c.hd) (.str x)) False λb=>K (.bl b) M:=λK hK=>by
  cases e:c.hd with
  | none=>rw[e]at hK;exact hK
  | some y=>rw[e]at hK;exact hK
 rcases hw with⟨rfl|rfl|rfl|rfl,h⟩|⟨hw,h⟩
 .exact i' lr (i' a0 (pM h1 (i' Z' (Eg h3 ⟨M,.refl,q⟩))))
 .exact i' lr (i' a0 (pM h1 ⟨Z',_,⟨Z',Z'⟩,L,k,c,x,Z',hc,M,.refl,q⟩))
 .exact i' lr (i' a0 (pM h1 ⟨Z',_,⟨Z',Z'⟩,L,k,c,x,Z',hc,M,.refl,q⟩))
 .exact i' lr (i' a0 (pM h1 (i' Z' (hold _ ⟨M,.refl,q⟩))))
 .cases Yn with
  | nil=>cases h
  | cons k' d ks cs hd _=>
   obtain⟨ad',md',f1,_⟩:=id hd;have a1:vY (.ref k.p::.ref k'.p::ks.map λk:rS=>D.ref k.p) 1=Fa (.ref k'.p):=tU (j:=1) Z';have qq:Q (.bl ((c.hd==Fa x)&&d.nq x)) M:=by
    rcases hw with rfl|rfl
    .exact q
    .exact q
   rcases hw with rfl|rfl
   all_goals
    refine i' lr (i' a0 (pM h1 (i' Z' ?_)));cases e:c.hd with
    | none=>rw[e]at qq;exact⟨M,.refl,qq⟩
    | some y=>
     rw[e]at qq;have qq:Q (.bl ((y==x)&&d.nq x)) M:=qq;refine qU (c:=y==x) (λg=>?_) (λg=>?_)
     .rw[g,eL]at qq;exact i' lr (i' a1 (pM f1 ⟨Z',_,⟨Z',Z'⟩,L,k',d,x,Z',hd,M,.refl,qq⟩))
     .rw[show(y==x)=lf from dH.mpr g,fh]at qq;exact⟨M,.refl,qq⟩
def Qt:Fq P w K mg base 5 a.aX (JS a):=by
 refine fq G.aX.toDG uo (λr u=>⟨_,(pK (qg (xX (vH (qm (Gj Z') Z' G.bR Gu (qA (ra Z' (yH (ix:=[Db,Fa 0]) (N':=["number","board"])) (qZ U3) (qW 0) sD (uN u pN v0 (qm qP Z' G.g qL (qA (pQ U1)))))))))
 (pL (pS pO))
 pZ)
 (pK (vP (i:=4) uo.nd Z' (Or.inl Z') Z' (yH (ix:=[Db,Fa 0]) (N':=["number","board"])) (qZ U3) (qW 0) sD (pV (pQ U1) v0))
 (pK (qg (xX (vH (pX (Nm G) r G.aW (rC U1 U2 U4))))
 (pL (pS pO))
 pZ)
 (pK (qg (pW u U1 (qd (sH pO pO)))
 (pL (pS sL))
 pZ)
 (pK (qc 5 uo (pX (EM G) r G.ac (sH v0 U2)))
 (pK (qg (W3.b3 (vv (pW u v5 sL) (vv (vH (qv (pV U4 pN) G.e.toCls G.aA (Hb G) r (qA U2))) (vN (xX (vH (qv v0 G.c.toCls G.V (zx G) r (qA U2))))))))
 (pL (pS pO))
 pZ)
 (pL (pS v5)))))))),?_⟩)
 rintro ds M Q ⟨A,V,l,wd,x,ns,rfl,rd,hx,hw,q⟩
 have hz:=dP;have hn2:ns.length<=2:=by rcases hw with⟨_,h⟩|⟨_,h⟩<;>lia
 have lca:((A.cs.map λk=>D.ref k.p).length:Int)=V.calls.length:=by rw[cW,rd.bd.len]
 unfold Mj at q;refine rM (f:=Xj V.calls.length) trivial _ [] _ (by rw[cW];simp only[dJ];lia) (λd hd k hk=>?_) λp hp=>?_
 .obtain⟨i,_,rfl⟩:=dF.mp hd;have hk:k (.bl (decide (0<=i)&&decide (i<V.calls.length))) M:=hk;refine qU (c:=decide (0<=i)) (λg=>?_) (λg=>?_)
  .rw[g,eL]at hk;refine pM rd.bd.at_ (i' Z' (i' rd.bd.ca ?_));rw[lca];exact hk
  .rw[show decide (0<=i)=lf from dH.mpr g,fh]at hk;exact hk
 have em:[]++(ns.map D.int).map (Xj V.calls.length)=ns.map λi=>D.bl (Au V.calls.length i):=by rw[d6,eC];rfl
 rw[em];have t:=qJ.new (c:=.lst (ns.map λi=>D.bl (Au V.calls.length i))) hp;refine i' pR (i' (yB (Au V.calls.length) ns) ?_);have Yo:=rd.sub t;generalize pT M p (.lst (ns.map λi=>D.bl (Au V.calls.length i)))=M1 at t Yo ⊢;rw[z9];refine qU (c:=!(ns.all (Au V.calls.length))) (λg=>?_) (λYy=>?_)
 .rw[dg (by simpa using g)]at q;exact⟨M,t,q⟩
 have Yy:ns.all (Au V.calls.length)=pc:=by simpa using Yy
 rw[de (by rw[Yy];exact Bool.noConfusion)]at q;obtain⟨ks,hks,eks,lcs,ZM⟩:=RM Yo.bd Yy;refine rM (f:=Xk A) trivial _ [] _ (by rw[cW];simp only[dJ];lia) (λd hd k0 hk=>?_) λp2 X4=>?_
 .obtain⟨i,hi,rfl⟩:=dF.mp hd;obtain⟨k,i0,e1⟩:=ZM i hi;obtain⟨n,rfl⟩:=eG i0;have e1:A.cs[n]?=Fa k:=e1;have hk:k0 ((A.cs[n]?).elim .mY λk=>.ref k.p) M1:=hk;rw[e1]at hk;exact pM Yo.bd.at_ (i' Z' (i' Z' (i' Yo.bd.ca (i' (rL e1) hk))))
 rw[d6,eks];have t2:=qJ.new (c:=.lst (ks.map λk:rS=>D.ref k.p)) X4;have l2:=@pR M1 p2 (ks.map λk:rS=>D.ref k.p);have ZX:=Yo.sub t2;have s2:=t.trans t2;generalize pT M1 p2 (.lst (ks.map λk:rS=>D.ref k.p))=M2 at l2 ZX s2 t2 ⊢;have hks:=hks.sub t2;generalize ug V ns=cs at hks lcs q;refine⟨wd,x,p2,_,ks,cs,Z',l2,hks,by rw[lcs];exact hw,?_⟩;refine qU (c:=!Jg wd x cs) (λg=>?_) (λg=>?_)
 .rw[dg (by simpa using g)]at q;exact⟨M,s2,q⟩
 rw[de (by simpa using g)]at q;have two:∀wd:Str,(wd=="answer"||wd=="back")=pc->Q (Hc (if ((vd V x).isNone&&(cs.head?.elim lf (λc=>c.m8 x)&&!(uB l V x)))=pc then Fa "full" else vd V x)) M->cs.length=1->ET a [.ref A.b,.str x] M2 λdue M3=>vc (MY (PU (b3 (k3 .Is (v3 5) (c3 .mY))) (PU (b3 (Bb "waits_with" (λD s=>D=a.e/\s=wG a) (i3 (v3 4) (c3 (.int 0))) (we (v3 2) yA))) (VI (b3 (Bb "is_free" (λD s=>D=a.c/\s=xM a) (v3 0) (we (v3 2) yA)))))) (S7 (c3 (.str "full"))) W6) (S7 (v3 5)) {nx:=λ_ M'=>∃XU,qJ XU M'/\Q .mY XU,rt:=λd M'=>∃XU,qJ XU M'/\Q d XU} [Fa (.ref A.b),Fa (.str wd),Fa (.str x),Fa (.tup (ns.map D.int)),Fa (.ref p2),Fa due] M3:=λwd _ q hl=>by
  cases hks with
  | nil=>cases hl
  | cons k c ks cs hc _=>
  have q:Q (Hc (if ((vd V x).isNone&&(c.m8 x&&!(uB l V x)))=pc then Fa "full" else vd V x)) M:=q;obtain⟨ad,md,h1,_⟩:=id hc;refine⟨A,V,x,Z',ZX.bd,ZX.k,?_⟩;unfold Gg;cases e:vd V x with
  | some w0=>rw[e]at q;exact⟨M,s2,q⟩
  | none=>
   rw[e]at q;refine i' l2 (i' (xO _ _) (pM h1 ⟨Z',_,⟨Z',Z'⟩,_,k,c,x,Z',hc,?_⟩));refine qU (c:=c.m8 x) (λg1=>?_) (λg1=>?_)
   .rw[g1]at q;refine pM ZX.bd.at_ ⟨Z',_,⟨Z',Z'⟩,A,V,l,x,Z',ZX,hx,?_⟩;refine qU (c:=!(uB l V x)) (λg=>?_) (λg=>?_)
    .rw[g]at q;exact⟨M,s2,q⟩
    .rw[show(!(uB l V x))=lf from dH.mpr g]at q;exact⟨M,s2,q⟩
   .rw[show c.m8 x=lf from dH.mpr g1]at q;exact⟨M,s2,q⟩
 rcases hw with⟨rfl|rfl|rfl|rfl,h⟩|⟨rfl|rfl,h⟩
 .exact⟨pI Z',Z',Z',two "answer" Z' q (lcs.trans h)⟩
 .exact⟨pI Z',Z',Z',M,s2,q⟩
 .exact⟨pI Z',Z',Z',M,s2,q⟩
 .exact⟨pI Z',Z',Z',two "back" Z' q (lcs.trans h)⟩
 .exact⟨pI Z',Z',Z',M,s2,q⟩
 .exact⟨pI Z',Z',Z',M,s2,q⟩
def TJ:Fq P w K mg base 1 a.aY (T4 a):=by
 refine fq G.aY.toDG zD (λr u=>⟨_,(pK (qg (xX (G9 u pN U2 (qm qP Z' G.g qL (qA (pQ v0)))))
 (pL (pS pO))
 pZ)
 (pK (qg (pW u (pV (pQ v0) U2) (qG u U1 pO))
 (pL (pS pO))
 pZ)
 (pL (pS sL)))),?_⟩)
 rintro ds M Q ⟨A,V,b,i,rfl,bd,q⟩
 unfold QH at q;have ZM:Au V.on.length i=(decide (0<=i)&&decide (i<V.on.length)):=rfl;have lon:((V.on.map D.bl).length:Int)=V.on.length:=by rw[cW]
 have no:Au V.on.length i=lf->Q (.str "wish") M:=λh=>by rw[dg h]at q;exact q
 have yes:Au V.on.length i=pc->Q (Hc (if (V.on.getD i.toNat lf==b)=pc then Fa "wish" else Db)) M:=λh=>by rw[h,de Bool.noConfusion]at q;exact q
 refine qU (c:=decide (0<=i)) (λg0=>?_) (λg0=>⟨M,.refl,no (by rw[ZM,show decide (0<=i)=lf from dH.mpr g0];rfl)⟩);refine pM bd.at_ (i' Z' (i' bd.on ?_));rw[lon];refine qU (c:=!(decide (i<(V.on.length:Int)))) (λg1=>⟨M,.refl,no (by rw[ZM,g0,show decide (i<(V.on.length:Int))=lf by simpa using g1];rfl)⟩) (λg1=>?_);have h:Au V.on.length i=pc:=by rw[ZM,g0,show decide (i<(V.on.length:Int))=pc by simpa using g1];rfl
 have q:=yes h;refine pM bd.at_ (i' Z' (i' Z' (i' bd.on (i' (Tr h) ?_))));have es:(Vn b=="on")=b:=by cases b<;>rfl
 show if (V.on.getD i.toNat lf==(Vn b=="on"))=pc then _ else _
 rw[es];refine qU (λg=>?_) (λg=>?_)
 .rw[dg g]at q;exact⟨M,.refl,q⟩
 .rw[de g]at q;exact⟨M,.refl,q⟩
def Iq:Fq P w K mg base 6 a.aZ (HX a):=by
 refine fq G.aZ.toDG Cu (λr u=>⟨_,(pK (qc 2 Cu (pV U1 pN))
 (pK (qg (pW u U2 pO)
 (pL (pS sL))
 pZ)
 (pK (qg (pW u U2 (qd (sH pO pO)))
 (pL (pS (pX (TJ G) r G.aY (rC v0 U2 (pV U1 pN)))))
 pZ)
 (pK (qg (pW u (pV U1 pN) (yJ (pQ v0) G.h.toCls G.U (uq G) r))
 (pL (pS pO))
 pZ)
 (pK (qg (pW u U2 pO)
 (pL (pS (pX (OA G) r G.aV (rC v0 (pV U1 pN) (pV U1 pN)))))
 pZ)
 (pL (pS (pX (Qt G) r G.aX (qo v0 (rC U2 (pV U1 pN) (sW U1 (tL pN) uk))))))))))),?_⟩)
 rintro ds M Q ⟨A,V,l,e,rfl,rd,hf,q⟩
 obtain⟨ph,gr,ws,Zh,pr,gd,rs,i1,_⟩:=rd.pl;have p8:=rd.ok.p8;cases e with
 | turn=>exact⟨M,.refl,q⟩
 | sw b i=>
  cases b with
  | true=>exact⟨pI Z',Z',Z',A,V,pc,i,Z',rd.bd,M,.refl,q⟩
  | false=>exact⟨pI Z',Z',Z',A,V,lf,i,Z',rd.bd,M,.refl,q⟩
 | call x z=>
  have q:Q (Hc (if hasS l.pn x=lf then Fa "name" else Hr l V x z)) M:=q;refine⟨pI Z',Z',Z',?_⟩;refine pM rd.bd.at_ (i' Z' (pM i1 ⟨Z',_,⟨Z',Z'⟩,V.p,l,Z',rd.pl,by lia,λp X4=>i' pR ⟨Z',qN _,?_⟩⟩));have t:=qJ.new (c:=.lst (l.pn.map D.str)) X4;have Yo:=rd.sub t;generalize pT M p (.lst (l.pn.map D.str))=M1 at t Yo ⊢;show if (!(inD (.str x) (l.pn.map D.str)))=pc then _ else _
  rw[tq];refine qU (c:=!(hasS l.pn x)) (λg=>?_) (λg=>?_)
  .rw[dg (by simpa using g)]at q;exact⟨M,t,q⟩
  .have g:hasS l.pn x=pc:=by simpa using g
   rw[g,de Bool.noConfusion]at q;exact⟨A,V,l,x,z,Z',Yo,rE.mp g,M,t,q⟩
 | num wd x ns=>
  have q:Q (Hc (if hasS l.pn x=lf then Fa "name" else Mj l V wd x ns)) M:=q;have hf:uz.nf wd ns.length:=hf;have key:∀(M1:Mp),qJ M M1->if (!(inD (.str x) (l.pn.map D.str)))=pc then(∃XU,qJ XU M1/\Q (.str "name") XU)else JS a [.ref A.b,.str wd,.str x,.tup (ns.map D.int)] M1 λd M'=>∃XU,qJ XU M'/\Q d XU:=λM1 t=>by
   rw[tq];refine qU (c:=!(hasS l.pn x)) (λg=>?_) (λg=>?_)
   .rw[dg (by simpa using g)]at q;exact⟨M,t,q⟩
   .have g:hasS l.pn x=pc:=by simpa using g
    rw[g,de Bool.noConfusion]at q;exact⟨A,V,l,wd,x,ns,Z',rd.sub t,rE.mp g,hf,M,t,q⟩
  have one:ns.length=1->∃i,ns=[i]:=List.length_eq_one_iff.mp;have two:ns.length=2->∃i j,ns=[i,j]:=λh=>by
   match ns,h with
   | [i,j],_=>exact⟨i,j,Z'⟩
  rcases id hf with⟨rfl|rfl|rfl|rfl,h⟩|⟨rfl|rfl,h⟩
  .obtain⟨i,rfl⟩:=one h;exact⟨pI Z',Z',Z',pM rd.bd.at_ (i' Z' (pM i1 ⟨Z',_,⟨Z',Z'⟩,V.p,l,Z',rd.pl,by lia,λp X4=>i' pR ⟨Z',qN _,key _ (.new X4)⟩⟩))⟩
  .obtain⟨i,rfl⟩:=one h;exact⟨pI Z',Z',Z',pM rd.bd.at_ (i' Z' (pM i1 ⟨Z',_,⟨Z',Z'⟩,V.p,l,Z',rd.pl,by lia,λp X4=>i' pR ⟨Z',qN _,key _ (.new X4)⟩⟩))⟩
  .obtain⟨i,rfl⟩:=one h;exact⟨pI Z',Z',Z',pM rd.bd.at_ (i' Z' (pM i1 ⟨Z',_,⟨Z',Z'⟩,V.p,l,Z',rd.pl,by lia,λp X4=>i' pR ⟨Z',qN _,key _ (.new X4)⟩⟩))⟩
  .obtain⟨i,rfl⟩:=one h;exact⟨pI Z',Z',Z',pM rd.bd.at_ (i' Z' (pM i1 ⟨Z',_,⟨Z',Z'⟩,V.p,l,Z',rd.pl,by lia,λp X4=>i' pR ⟨Z',qN _,key _ (.new X4)⟩⟩))⟩
  .obtain⟨i,j,rfl⟩:=two h;exact⟨pI Z',Z',Z',pM rd.bd.at_ (i' Z' (pM i1 ⟨Z',_,⟨Z',Z'⟩,V.p,l,Z',rd.pl,by lia,λp X4=>i' pR ⟨Z',qN _,key _ (.new X4)⟩⟩))⟩
  .obtain⟨i,j,rfl⟩:=two h;exact⟨pI Z',Z',Z',pM rd.bd.at_ (i' Z' (pM i1 ⟨Z',_,⟨Z',Z'⟩,V.p,l,Z',rd.pl,by lia,λp X4=>i' pR ⟨Z',qN _,key _ (.new X4)⟩⟩))⟩
def DC(V:qB)(x:Str):Prop:=∀c∈V.calls,¬BR c x
def Fc{V:qB}(h:vd V x=Db):DC V x:=by
 unfold vd at h;cases e1:FT V x with
 | some j=>rw[e1]at h;cases h
 | none=>
  cases e2:Jv V x with
  | some j=>rw[e1,e2]at h;cases h
  | none=>
   intro c hc g;have h1:=jG.mp e1 c hc;have h2:=jG.mp e2 c hc;rcases g with g|g
   .rw[h1]at g;cases g
   .rw[h2]at g;cases g
def tF{c:pP}(h:c.st="rings"){x:Str}:BR c x↔x=c.cr:=by unfold BR pP.nC pP.nj pP.ni;rw[h];simp(decide:=true)
def Ew{c:pP}(h:c.st="waits"){x:Str}:BR c x↔x=c.cr:=by unfold BR pP.nC pP.nj pP.ni;rw[h];simp(decide:=true)
def ud{c:pP}(h:c.st="talks"){x:Str}:BR c x↔x∈c.ms:=by unfold BR pP.nC pP.nj pP.ni;rw[h,<-rE];simp(decide:=true)
def Dk{c:pP}(h:c.st="held"){x:Str}:BR c x↔x∈c.ms/\c.hd≠Fa x:=by unfold BR pP.nC pP.nj;rw[h,<-rE];simp(decide:=true)
def GT{c:pP}(h:c.st="over"){x:Str}:¬BR c x:=by unfold BR pP.nC pP.nj pP.ni;rw[h];simp(decide:=true)
def tE{c:pP}(h:c.st="rings"){x:Str}:c.hasB x=pc↔x=c.cr\/x∈c.at_:=by unfold pP.hasB;rw[h,<-rE];simp(decide:=true)
def Eh{c:pP}(h:c.st="waits"){x:Str}:c.hasB x=pc↔x=c.cr:=by unfold pP.hasB;rw[h];simp(decide:=true)
def tO{c:pP}(h:c.st="talks"\/c.st="held"){x:Str}:c.hasB x=pc↔x∈c.ms:=by unfold pP.hasB;rw[<-rE];rcases h with h|h<;>(rw[h];simp(decide:=true))
def GB{c:pP}(h:c.st="over"){x:Str}:c.hasB x=lf:=by unfold pP.hasB;rw[h];simp(decide:=true)
def sS{c:pP}{x:Str}:c.m8 x=pc↔c.st="waits"/\x∈c.at_:=by unfold pP.m8;rw[dZ,fA,rE]
theorem Fl{α:Type}(f:α->Bool):∀{l:List α} {i:Nat} {c:α} (c':α),l[i]?=Fa c->((l.set i c').filter f).length+(if f c=pc then 1 else 0)=(l.filter f).length+(if f c'=pc then 1 else 0)
 | [],_,_,_,h=>by simp at h
 | x::r,0,c,c',h=>by cases h;rw[List.set_cons_zero,gY,gY];split<;>split<;>simp
 | x::r,i+1,c,c',h=>by
  have ih:=Fl f (l:=r) (i:=i) (c:=c) c' (by simpa using h);rw[lE,gY,gY];split
  .rw[eB,eB];lia
  .exact ih
def Ax.set{V V':qB}{o o':Option Nat}{i:Nat}{c c':pP}(h:Ax l V o)(e:V'.calls=V.calls.set i c')(hc:V.calls[i]?=Fa c)(ho:∀j,j≠i->(o==Fa j)=(o'==Fa j))(ok:wJ l (o'==Fa i) c')(he:∀x,BR c' x->BR c x\/DC V x)(hu:∀x,c'.hasB x=pc->c.hasB x=pc\/(vF V x:Int)<xt l x)(hw:∀x,c'.m8 x=pc->c.m8 x=pc\/Bc V x=lf)(nx:u9 l V'):Ax l V' o':=by
 have si:∀{j:Nat} {d:pP},V'.calls[j]?=Fa d->(j=i/\d=c')\/(j≠i/\V.calls[j]?=Fa d):=λ{j d} g=>by rw[e]at g;exact(Fd g).imp (λg=>⟨g.1,g.2.1⟩) id
 have key:∀(j:Nat) cj x,j≠i->V.calls[j]?=Fa cj->BR c' x->BR cj x->False:=λj cj x hj e1 g1 g2=>by
  rcases he x g1 with z|z
  .exact hj (h.un j i cj c x e1 hc g2 z)
  .exact z cj (qV e1) g2
 have keyw:∀(j:Nat) cj x,j≠i->V.calls[j]?=Fa cj->c'.m8 x=pc->cj.m8 x=pc->False:=λj cj x hj e1 g1 g2=>by
  rcases hw x g1 with z|z
  .exact hj (h.wt j i cj c x e1 hc g2 z)
  .unfold Bc at z;exact absurd g2 (by rw[lJ.mp z cj (qV e1)|>dH.mpr];exact Bool.noConfusion)
 refine⟨λj d g=>?_,λm n cm cn x e1 e2 g1 g2=>?_,λx hx=>?_,λm n cm cn x e1 e2 g1 g2=>?_,nx⟩
 .rcases si g with⟨rfl,rfl⟩|⟨hj,g⟩
  .exact ok
  .rw[<-ho j hj];exact h.ok j d g
 .rcases si e1 with⟨rfl,rfl⟩|⟨hm,e1⟩<;>rcases si e2 with⟨rfl,rfl⟩|⟨hn,e2⟩
  .rfl
  .exact(key n cn x hn e2 g1 g2).elim
  .exact(key m cm x hm e1 g2 g1).elim
  .exact h.un m n cm cn x e1 e2 g1 g2
 .have cs:=Fl (λk:pP=>k.hasB x) c' hc;have hl:=h.ln x hx;unfold vF at hl ⊢;rw[e];by_cases g:c'.hasB x=pc
  .rw[dg g]at cs;rcases hu x g with z|z
   .rw[dg z]at cs;lia
   .unfold vF at z;lia
  .rw[de g]at cs;lia
 .rcases si e1 with⟨rfl,rfl⟩|⟨hm,e1⟩<;>rcases si e2 with⟨rfl,rfl⟩|⟨hn,e2⟩
  .rfl
  .exact(keyw n cn x hn e2 g1 g2).elim
  .exact(keyw m cm x hm e1 g2 g1).elim
  .exact h.wt m n cm cn x e1 e2 g1 g2
def Ax.add{V V':qB}{c':pP}(h:WF l V)(e:V'.calls=V.calls++[c'])(ok:wJ l pc c')(he:∀x,BR c' x->DC V x)(hu:∀x,c'.hasB x=pc->(vF V x:Int)<xt l x)(hw:∀x,c'.m8 x=lf)(nx:u9 l V'):Ax l V' (Fa V.calls.length):=by
 have si:∀{j:Nat} {d:pP},V'.calls[j]?=Fa d->(j=V.calls.length/\d=c')\/(j≠V.calls.length/\V.calls[j]?=Fa d):=λ{j d} g=>by
  rw[e]at g;by_cases z:j<V.calls.length
  .rw[fk z]at g;exact .inr ⟨by lia,g⟩
  .have:=(cY.mp g).1;rw[cZ,dQ]at this;have z:j=V.calls.length:=by lia
   subst z;rw[fi (dw _)]at g;simp only[ik,iJ,jy]at g;exact .inl ⟨Z',g.symm⟩
 refine⟨λj d g=>?_,λm n cm cn x e1 e2 g1 g2=>?_,λx hx=>?_,λm n cm cn x e1 e2 g1 g2=>?_,nx⟩
 .rcases si g with⟨rfl,rfl⟩|⟨hj,g⟩
  .rw[e9];exact ok
  .rw[show(Fa V.calls.length==Fa j)=lf by simpa using dS hj];exact h.ok j d g
 .rcases si e1 with⟨rfl,rfl⟩|⟨hm,e1⟩<;>rcases si e2 with⟨rfl,rfl⟩|⟨hn,e2⟩
  .rfl
  .exact(he x g1 cn (qV e2) g2).elim
  .exact(he x g2 cm (qV e1) g1).elim
  .exact h.un m n cm cn x e1 e2 g1 g2
 .have hl:=h.ln x hx;unfold vF at hl ⊢;rw[e,iH,cZ,gY];split
  .rename_i g;have:=hu x g;unfold vF at this;simp only[h9,dQ];lia
  .simp only[h9,dJ];lia
 .rcases si e1 with⟨rfl,rfl⟩|⟨hm,e1⟩<;>rcases si e2 with⟨rfl,rfl⟩|⟨hn,e2⟩
  .rfl
  .rw[hw x]at g1;cases g1
  .rw[hw x]at g2;cases g2
  .exact h.wt m n cm cn x e1 e2 g1 g2
noncomputable def pP.core(c:pP):pP:={c with way:=[],si:=0}
def Ag(V V':qB):Prop:=V'.calls.map pP.core=V.calls.map pP.core
def Ag.at_{V V':qB}(h:Ag V V'){i:Nat}{c':pP}(e:V'.calls[i]?=Fa c'):∃c,V.calls[i]?=Fa c/\c'.core=c.core:=by
 have:=eY (·[i]?) h;simp only[dz,e]at this;cases e':V.calls[i]? with
 | none=>rw[e']at this;cases this
 | some c=>rw[e']at this;exact⟨c,Z',dv this⟩
def Ag.used{V V':qB}(h:Ag V V')(x:Str):vF V' x=vF V x:=by
 have key:∀cs:List pP,(cs.filter (·.hasB x)).length=((cs.map pP.core).filter (·.hasB x)).length:=λcs=>by rw[gO,cW];rfl
 unfold vF;rw[key,h,<-key]
def Ag.wf{V V':qB}{o:Option Nat}(h:Ag V V')(wf:Ax l V o)(hw:∀(i:Nat) c',V'.calls[i]?=Fa c'->c'.way≠[]/\∀z∈c'.way,z∈l.nm)(nx:u9 l V'):Ax l V' o:=by
 refine⟨λi c' e=>?_,λi j ci cj x e1 e2 g1 g2=>?_,λx hx=>by rw[h.used];exact wf.ln x hx,λi j ci cj x e1 e2 g1 g2=>?_,nx⟩
 .obtain⟨c,ec,ee⟩:=h.at_ e;have k:=wf.ok i c ec;have k1:c'.at_=c.at_:=show c'.core.at_=c.core.at_ by rw[ee]
  have k2:c'.ms=c.ms:=show c'.core.ms=c.core.ms by rw[ee]
  have k3:c'.cr=c.cr:=show c'.core.cr=c.core.cr by rw[ee]
  exact⟨by show Rp _ c'.core;rw[ee];exact k.sh,by rw[k3];exact k.cr,by rw[k1];exact k.at_,by rw[k2];exact k.ms,by rw[k1];exact k.an,by rw[k2];exact k.mn,by rw[k1,k3];exact k.ca,hw i c' e⟩
 .obtain⟨di,a1,a2⟩:=h.at_ e1;obtain⟨dj,b1,b2⟩:=h.at_ e2;exact wf.un i j di dj x a1 b1 (by show BR di.core x;rw[<-a2];exact g1) (by show BR dj.core x;rw[<-b2];exact g2)
 .obtain⟨di,a1,a2⟩:=h.at_ e1;obtain⟨dj,b1,b2⟩:=h.at_ e2;exact wf.wt i j di dj x a1 b1 (by show di.core.m8 x=pc;rw[<-a2];exact g1) (by show dj.core.m8 x=pc;rw[<-b2];exact g2)
def ul.core{V V':qB}(h:ul V V'):Ag V V':=by have:=eY (List.map pP.core) h;rw[eC,eC]at this;exact this
def Kv(V:qB):Ag V (qp V .turn):=by show(V.calls.map pP.tick).map pP.core=V.calls.map pP.core;rw[eC];refine g9 λc _=>?_;show(pP.tick c).core=c.core;unfold pP.tick;split<;>rfl
def BO{V:qB}(wf:WF l V):WF l (qp V .turn):=(Kv V).wf wf (λi c' e=>by
 have e:(V.calls.map pP.tick)[i]?=Fa c':=e;rw[dz]at e;cases q:V.calls[i]? with
 | none=>rw[q]at e;cases e
 | some c=>
  rw[q]at e;have e:c.tick=c':=dv e;have hw:c.tick.way=c.way:=by unfold pP.tick;split<;>rfl
  rw[<-e,hw];exact(wf.ok i c q).wy) wf.nx
def Vt{V:qB}{b:Bool}{i:Nat}(wf:WF l V):WF l (qp V (.sw b i)):=⟨wf.ok,wf.un,wf.ln,wf.wt,wf.nx⟩
def FN{V:qB}{o:Option Nat}{i:Nat}{z:Str}{ns:T0 Nat}(wf:Ax l V o):Ax l (qp V (.asks i z ns)) o:=⟨wf.ok,wf.un,wf.ln,wf.wt,wf.nx⟩
def Iu{V:qB}{o:Option Nat}{v:sP}(wf:Ax l V o)(hz:v.g∈l.nm):Ax l (qp V (.leg v)) o:=(Ak V v).core.wf wf (λi c' e=>by
 have e:(V.calls.modify v.i (·.go v.g))[i]?=Fa c':=e;rw[ir]at e;cases q:V.calls[i]? with
 | none=>rw[q]at e;cases e
 | some c=>
  rw[q]at e;have k:=(wf.ok i c q).wy;have e:(if v.i=i then c.go v.g else c)=c':=dv e;by_cases g:v.i=i
  .rw[dg g]at e;rw[<-e];refine⟨by show c.way++[v.g]≠[];simp,λz hz'=>?_⟩;rcases dU.mp (show z∈c.way++[v.g]from hz')with y|y
   .exact k.2 z y
   .rw[dA.mp y];exact hz
  .rw[de g]at e;rw[<-show c=c' from e];exact k) wf.nx
theorem Dm{o:Option Nat}(i:Nat):∀(st:sO) (q:Option Str) {V:qB},Ax l V o->(∀s∈st,s.1∈l.nm)->Ax l (qI V (qY i q st)) o
 | [],_,V,wf,_=>wf
 | (y,gs)::r,Db,V,wf,h=>Dm i r (Fa y) (FN wf) λs hs=>h s (dE _ hs)
 | (y,gs)::r,Fa u,V,wf,h=>Dm i r (Fa y) (FN (Iu wf (h _ dI))) λs hs=>h s (dE _ hs)
def rT{V:qB}{i:Nat}{c:pP}{f:pP->pP}(h:V.calls[i]?=Fa c):(yi V i f).calls=V.calls.set i (f c):=by unfold yi;rw[ue h]
def BP{i:Nat}:∀j,j≠i->((Fa i:Option Nat)==Fa j)=((Db:Option Nat)==Fa j):=λj hj=>by rw[show((Fa i:Option Nat)==Fa j)=lf by simpa using dS hj];rfl
def Wq{V:qB}{i:Nat}{c:pP}(wf:Ax l V (Fa i))(hc:V.calls[i]?=Fa c):c.st="rings"/\c.ms=[]/\c.hd=Db/\c.wd=Db/\c.at_=[]:=by
 have sh:=(wf.ok i c hc).sh;rw[e9]at sh;rcases sh with g|g
 .exact⟨g.1,g.2.1,g.2.2.1,g.2.2.2.1,g.2.2.2.2.1 Z'⟩
 .cases g.1
def Pf{c:pP}{o:Bool}{w:Str}(k:wJ l o c)(hw:w∈NH):wJ l lf (c.over w):=⟨.inr ⟨Z',.inr (.inr (.inr ⟨Z',Z',Z',Z',w,hw,Z'⟩))⟩,k.cr,(λx hx=>by cases hx),(λx hx=>by cases hx),eK,eK,(λhx=>by cases hx),k.wy⟩
def xF{V V':qB}{o:Option Nat}{i:Nat}{c:pP}{w:Str}(wf:Ax l V o)(hc:V.calls[i]?=Fa c)(ho:o=Db\/o=Fa i)(hw:w∈NH)(e:V'.calls=V.calls.set i (c.over w))(nx:u9 l V'):WF l V':=
 wf.set e hc (λj hj=>by rcases ho with rfl|rfl;rfl;exact BP j hj) (Pf (wf.ok i c hc) hw) (λx g=>(GT Z' g).elim) (λx g=>by rw[GB (c:=c.over w) Z']at g;cases g) (λx g=>by have:=(sS.mp g).1;exact absurd this (show("over":Str)≠"waits" by decide)) nx
def HQ{l:pU}{V:qB}{c z:Str}(h:(l.mS z).Nodup):(xY l V c z).Nodup:=by
 unfold xY;split
 .cases(vI (l.mS z) (Al V z)).filter λx=>hasS (vb l V c z) x with
  | nil=>exact eK
  | cons y r=>exact dW.mpr ⟨dG,eK⟩
 .exact h.sublist fT
def L4(ps:T0 (Str×Int))(z:Str)(n:Int)(y:Str):(FD ps z n).find? (λp=>decide (p.1=y))=if y=z then Fa (z,n)else ps.find? λp=>decide (p.1=y):=by
 unfold FD;by_cases h:ps.any (λp=>decide (p.1=z))=pc
 .rw[dg h];induction ps with
  | nil=>cases h
  | cons p r ih=>
   rw[dY,fM,fM];by_cases hp:p.1=z
   .rw[dg hp];by_cases hy:y=z
    .rw[dg hy,hy];simp[hp]
    .rw[de hy];have n1:decide (p.1=y)=lf:=eW (λq=>hy (q.symm.trans hp));simp only[n1];by_cases hr:r.any (λp=>decide (p.1=z))=pc
     .have:=ih hr;rw[de hy]at this;exact this
     .have hr:∀q∈r,¬q.1=z:=λq hq g=>hr (gX.mpr ⟨q,hq,dX g⟩);rw[show r.map (λp=>if p.1=z then(p.1,n)else p)=r from(g9 λq hq=>de (hr q hq)).trans (iL _)]
   .rw[de hp];have hr:r.any (λp=>decide (p.1=z))=pc:=by
     rw[gk,hW]at h;rcases h with g|g
     .exact absurd (fH g) hp
     .exact g
    have ih:=ih hr;by_cases hy:y=z
    .rw[dg hy]at ih ⊢;have n1:decide (p.1=y)=lf:=eW (λq=>hp (q.trans hy));simp only[n1];exact ih
    .rw[de hy]at ih ⊢;cases decide (p.1=y)with
     | true=>rfl
     | false=>exact ih
 .rw[de h,List.find?_append];have hr:∀q∈ps,¬q.1=z:=λq hq g=>h (gX.mpr ⟨q,hq,dX g⟩);by_cases hy:y=z
  .subst hy;rw[dg Z',hZ.mpr λq hq=>by simpa using hr q hq,Option.none_or];simp
  .rw[de hy,fM,eW (λq:z=y=>hy q.symm)];simp
def NK{V:qB}{z:Str}{n:Int}(h:u9 l V)(h0:0<=n)(h1:n<=((l.mS z).length:Int)):u9 l (qp V (.next z n)):=λy hy ht=>by
 show ∃v,(FD V.ps z n).find? _=Fa v/\_;rw[L4];by_cases e:y=z
 .subst e;rw[dg Z'];exact⟨_,Z',h0,h1⟩
 .rw[de e];exact h y hy ht
def F7{V:qB}(h:uB l V x=pc):(vF V x:Int)<xt l x:=fH h
def Kd{V V':qB}{o:Option Nat}{i:Nat}{c:pP}{w x:Str}(wf:Ax l V o)(hc:V.calls[i]?=Fa c)(e:V'.calls=V.calls.set i (c.over w))(hx:BR c x):DC V' x:=λd hd g=>by
 rw[e]at hd;obtain⟨j,hj,ed⟩:=gI hd;have ej:(V.calls.set i (c.over w))[j]?=Fa d:=by rw[c9 hj,ed]
 rcases Fd ej with⟨_,rfl,_⟩|⟨X9,ej⟩
 .exact GT Z' g
 .exact X9 (wf.un j i d c x ej hc g hx)
def Ki{V V':qB}{i:Nat}{c:pP}{w x:Str}(hc:V.calls[i]?=Fa c)(e:V'.calls=V.calls.set i (c.over w))(hx:c.hasB x=pc):vF V' x+1=vF V x:=by
 have:=Fl (λk:pP=>k.hasB x) (c.over w) hc;unfold vF;rw[e];simp only[hx,jk,GB (c:=c.over w) Z']at this
 simpa using this
def GO{V V':qB}{o:Option Nat}{i j:Nat}{c d:pP}{ms:QQQ}(wf:Ax l V o)(ho:o=Db\/o=Fa i)(hc:V.calls[i]?=Fa c)(hd:V.calls[j]?=Fa d)(YN:i≠j)(e:V'.calls=(V.calls.set i (c.over "merged")).set j (d.mem ms))(nx:u9 l V')(dt:d.st="talks")(m1:ms.Nodup)(m2:ms.length=2\/ms.length=3)(m3:∀x∈ms,x∈d.ms\/(BR c x/\c.hasB x=pc))(m4:∀x∈ms,x∈l.pn):WF l V':=by
 have e1:(yi V i (·.over "merged")).calls=V.calls.set i (c.over "merged"):=rT hc;have w1:WF l (yi V i (·.over "merged")):=xF wf hc ho (by decide) e1 wf.nx;have hd1:(yi V i (·.over "merged")).calls[j]?=Fa d:=by rw[e1,eX YN];exact hd
 have kd:=w1.ok j d hd1;have kd':d.hd=Db/\d.wd=Db/\d.at_=[]:=by
  rcases kd.sh with g|⟨_,g|g|⟨_,g⟩|g⟩
  .rw[dt]at g;exact absurd g.1 (by decide)
  .rw[dt]at g;exact absurd g.1 (by decide)
  .exact⟨g.2.2.1,g.2.2.2.1,g.2.2.2.2⟩
  .rw[dt]at g;exact absurd g.1 (by decide)
  .rw[dt]at g;exact absurd g.1 (by decide)
 refine w1.set (c':=d.mem ms) (by rw[e,e1]) hd1 (λ_ _=>rfl) ⟨.inr ⟨Z',.inr (.inl ⟨dt,m2,kd'.1,kd'.2.1,kd'.2.2⟩)⟩,kd.cr,kd.at_,m4,kd.an,m1,kd.ca,kd.wy⟩ (λx g=>?_) (λx g=>?_) (λx g=>?_) nx
 .have g:=(ud (c:=d.mem ms) dt).mp g;rcases m3 x g with y|y
  .exact .inl ((ud dt).mpr y)
  .exact .inr (Kd wf hc e1 y.1)
 .have g:=(tO (c:=d.mem ms) (.inl dt)).mp g;rcases m3 x g with y|y
  .exact .inl ((tO (.inl dt)).mpr y)
  .have:=Ki hc e1 y.2;have:=wf.ln x (m4 x g);exact .inr (by lia)
 .have:=(sS.mp g).1;rw[show(d.mem ms).st="talks" from dt]at this;exact absurd this (by decide)
def SV{V V1:qB}{i:Nat}{c:pP}{e:vM}(ok:sf l)(wf:Ax l V1 (Fa i))(same:Ag V V1)(hc:V1.calls[i]?=Fa c)(he:Em l V c.cr e):WF l (qI V1 (sF l V1 i e)):=by
 obtain⟨p1,p2,p3,p4,p5⟩:=Wq wf hc;have k:=wf.ok i c hc;have hi:=(cY.mp hc).1;cases e with
 | rings z ps=>
  obtain⟨hz,X9,rfl⟩:=he;obtain⟨⟨q1,q2,q3,q4⟩,_⟩:=ok.of hz;obtain⟨r1,r2⟩:=Ca (l:=l) (V:=V) (c:=c.cr) (z:=z);generalize hps:xY l V c.cr z=ps at X9 r1 r2;have XT:∀V2:qB,V2.calls=V1.calls->u9 l V2->WF l (qp V2 (.rings i ps)):=λV2 e2 nx=>by
   have e3:(qp V2 (.rings i ps)).calls=V1.calls.set i (c.ring ps):=by show(yi (rj V2 _) i _).calls=_;rw[rT (c:=c) (by show V2.calls[i]?=_;rw[e2];exact hc)];show V2.calls.set i _=_;rw[e2]
   have free:∀x∈ps,uB l V x=pc/\x≠c.cr:=λx hx=>by have h:=(fC.mp (r1 x hx).1).2;simp only[dZ,gS]at h;exact⟨h.2,by simpa using h.1⟩
   refine wf.set e3 hc BP ⟨.inl ⟨Z',p2,p3,p4,(λh=>by cases h),λ_=>X9⟩,k.cr,λx hx=>q4 x (r1 x hx).2,k.ms,by rw[<-hps];exact HQ q3,k.mn,λhx=>(free _ hx).2 Z',k.wy⟩ (λx g=>?_) (λx g=>?_) (λx g=>?_) nx
   .exact .inl ((tF p1).mpr ((tF (c:=c.ring ps) Z').mp g))
   .rcases(tE (c:=c.ring ps) Z').mp g with y|y
    .exact .inl ((tE p1).mpr (.inl y))
    .refine .inr ?_;rw[same.used];exact F7 (free x y).1
   .exact absurd (sS.mp g).1 (show("rings":Str)≠"waits" by decide)
  show WF l (qI V1 ((if (l.m7 z=="turns")=pc then _ else _)++[.rings i ps]));rw[sI];by_cases ht:(l.m7 z=="turns")=pc
  .rw[dg ht];have lp:0<(l.mS z).length:=fG.mpr q1;refine XT _ Z' (NK wf.nx (fg _ (by lia)) (Int.le_of_lt (eV _ (by lia))))
  .rw[de ht];exact XT V1 Z' wf.nx
 | waits z=>
  obtain⟨hz,X9,hw⟩:=he;have e3:(qp V1 (.waits i z)).calls=V1.calls.set i (c.wait z):=rT (V:=rj V1 _) hc;have hw1:Bc V1 z=lf:=by
   unfold Bc at hw ⊢;have key:∀cs:List pP,cs.any (·.m8 z)=(cs.map pP.core).any (·.m8 z):=λcs=>by rw[jS];rfl
   rw[key,same,<-key];exact hw
  refine wf.set e3 hc BP ⟨.inr ⟨Z',.inl ⟨Z',p2,p3,p4,Z'⟩⟩,k.cr,λx hx=>by rw[dA.mp hx];exact hz,k.ms,dW.mpr ⟨dG,eK⟩,k.mn,λhx=>X9 (dA.mp hx).symm,k.wy⟩ (λx g=>?_) (λx g=>?_) (λx g=>?_) wf.nx
  .exact .inl ((tF p1).mpr ((Ew (c:=c.wait z) Z').mp g))
  .exact .inl ((tE p1).mpr (.inl ((Eh (c:=c.wait z) Z').mp g)))
  .have:=(sS.mp g).2;rw[dA.mp this];exact .inr hw1
 | breaks z=>
  obtain⟨x,rfl,hb⟩:=he;obtain⟨j,d0,t1,t2,t3,t4,t5,t6⟩:=Cd hb;have ht:ux V1 z=Fa j:=by
   rw[<-t1];unfold ux;have key:∀cs:List pP,cs.findIdx? (·.ni z)=(cs.map pP.core).findIdx? (·.ni z):=λcs=>by rw[ie];rfl
   rw[key,same,<-key]
  obtain⟨d,ed,ec⟩:∃d,V1.calls[j]?=Fa d/\d.core=d0.core:=by
   have:=eY (·[j]?) same;simp only[dz,t2]at this;cases q:V1.calls[j]? with
   | none=>rw[q]at this;cases this
   | some d=>rw[q]at this;exact⟨d,Z',dv this⟩
  have ds:d.st="talks":=by rw[show d.st=d0.st from show d.core.st=d0.core.st by rw[ec]];exact t3
  have dm:d.ms=d0.ms:=show d.core.ms=d0.core.ms by rw[ec]
  have YN:i≠j:=λy=>by subst y;rw[hc]at ed;cases ed;rw[p1]at ds;exact absurd ds (by decide)
  have hee:sF l V1 i (.breaks z)=[.merge i j (d.ms++[c.cr])]:=by unfold sF;dsimp only;rw[ht,hc];dsimp only;rw[ed];rfl
  rw[hee];have ncr:c.cr∉d.ms:=λy=>YN (wf.un i j c d c.cr hc ed ((tF p1).mpr Z') ((ud ds).mpr y));have kd:=wf.ok j d ed;refine GO (V':=qp V1 (.merge i j (d.ms++[c.cr]))) (ms:=d.ms++[c.cr]) wf (.inr Z') hc ed YN ?_ wf.nx ds ?_ (.inr ?_) (λx hx=>?_) (λx hx=>?_)
  .show(V1.calls.modify i _).modify j _=_;rw[ue hc,ue (show(V1.calls.set i _)[j]?=Fa d by rw[eX YN];exact ed)]
  .refine gf.mpr ⟨kd.mn,dW.mpr ⟨dG,eK⟩,λx hx y hy q=>ncr ?_⟩;rw[dA.mp hy]at q;rw[<-q];exact hx
  .rw[cZ,dm,t5];rfl
  .rcases dU.mp hx with y|y
   .exact .inl y
   .rw[dA.mp y];exact .inr ⟨(tF p1).mpr Z',(tE p1).mpr (.inl Z')⟩
  .rcases dU.mp hx with y|y
   .exact kd.ms x y
   .rw[dA.mp y];exact k.cr
 | engaged z=>exact xF (V':=qp V1 (.over i "engaged")) wf hc (.inr Z') (by decide) (rT (V:=rj V1 _) hc) wf.nx
 | barred=>exact xF (V':=qp V1 (.over i "barred")) wf hc (.inr Z') (by decide) (rT (V:=rj V1 _) hc) wf.nx
 | ring ns=>exact xF (V':=qp V1 (.over i "ring")) wf hc (.inr Z') (by decide) (rT (V:=rj V1 _) hc) wf.nx
def Rz{V:qB}{i:Nat}{k:pP}(ok:sf l)(wf:Ax l V (Fa i))(hk:V.calls[i]?=Fa k):WF l (qI V (uQ l V i)):=by
 have YU:=wf.ok i k hk;unfold uQ;rw[hk];dsimp only[Option.elim];obtain⟨z,hz⟩:∃z,k.way.getLast?=Fa z:=by
  cases e:k.way.getLast? with
  | none=>exact absurd (fU.mp e) YU.wy.1
  | some z=>exact⟨z,Z'⟩
 rw[show k.way.getLastD Str.empty=z by rw[iz,hz];rfl];have ro:xI l V k.cr (l.nm.length+1) [] (tM l V k.cr z k.way.dropLast):=yr ok _ _ _ _ (YU.wy.2 z (je hz)) λx hx=>YU.wy.2 x (jf _ hx);generalize tM l V k.cr z k.way.dropLast=R at ro;obtain⟨e,st⟩:=R;have snm:∀s∈st,s.1∈l.nm:=λs hs=>(ro.nm s hs).elim (λh=>by cases h) id;have w1:=Dm i st Db wf snm;have Yu:=vm i st Db V;rw[sI,sI];dsimp only;have XT:∀V1:qB,Ax l V1 (Fa i)->ul V V1->WF l (qI V1 (sF l V i e)):=λV1 w s=>by
  rw[<-s.ends];obtain⟨c',e1,e2⟩:=s.at_ hk;have hcr:c'.cr=k.cr:=show c'.bare.cr=k.bare.cr by rw[e2]
  exact SV ok w s.core e1 (by rw[hcr];exact ro.e)
 cases e with
 | ring ns=>
  obtain⟨x,ns',rfl⟩:=fK (show ns≠[]from ro.e);cases hl:st.getLast? with
  | none=>rw[show sm i st (.ring (x::ns'))=[]by unfold sm;dsimp only;rw[hl];rfl];exact XT _ w1 Yu
  | some s0=>rw[show sm i st (.ring (x::ns'))=[.leg ⟨i,s0.1,x,s0.1⟩]by unfold sm;dsimp only;rw[hl];rfl];exact XT _ (Iu (v:=⟨i,s0.1,x,s0.1⟩) w1 (ro.wy _ Z' x dI)) (Yu.trans (Ak _ _))
 | rings _ _=>exact XT _ w1 Yu
 | waits _=>exact XT _ w1 Yu
 | breaks _=>exact XT _ w1 Yu
 | engaged _=>exact XT _ w1 Yu
 | barred=>exact XT _ w1 Yu
def HZ{V:qB}{y z:Str}(wf:WF l V)(hy:y∈l.pn)(hz:z∈l.nm)(hi:DC V y)(hf:uB l V y=pc):Ax l (qI V [.new V.calls.length y,.leg ⟨V.calls.length,y,z,y⟩]) (Fa V.calls.length):=by
 have e:(qI V [.new V.calls.length y,.leg ⟨V.calls.length,y,z,y⟩]).calls=V.calls++[(zB y).go z]:=by show(V.calls++[zB y]).modify V.calls.length _=_;rw[ue (c:=zB y) (by rw[fi (dw _),ik];rfl),ku _ _ (dw _),ik];rfl
 refine wf.add e ⟨.inl ⟨Z',Z',Z',Z',λ_=>rfl,(λh=>by cases h)⟩,hy,(λx h=>by cases h),(λx h=>by cases h),eK,eK,(λh=>by cases h),fP _ _,λx h=>by rw[dA.mp h];exact hz⟩ (λx h=>?_) (λx h=>?_) (λx=>?_) wf.nx
 .rw[(tF (c:=(zB y).go z) Z').mp h];exact hi
 .rcases(tE (c:=(zB y).go z) Z').mp h with g|g
  .rw[g];exact F7 hf
  .cases g
 .cases q:((zB y).go z).m8 x with
  | false=>rfl
  | true=>exact absurd (sS.mp q).1 (show("rings":Str)≠"waits" by decide)
def L6{V:qB}{y z:Str}:∃k,(qI V [.new V.calls.length y,.leg ⟨V.calls.length,y,z,y⟩]).calls[V.calls.length]?=Fa k:=by
 have:V.calls.length<(qI V [.new V.calls.length y,.leg ⟨V.calls.length,y,z,y⟩]).calls.length:=by show V.calls.length<((V.calls++[zB y]).modify _ _).length;rw[fj,cZ];exact fE _
 exact⟨_,c9 this⟩
def B6{V:qB}{i:Nat}{c:pP}{x y:Str}{fs:T0 Nat}(wf:WF l V)(hc:V.calls[i]?=Fa c)(hs:c.st="rings")(hy:y∈l.nm):Ax l (qI V [.asks i x fs,.quiet i,.leg ⟨i,x,y,x⟩]) (Fa i):=by
 refine Iu (v:=⟨i,x,y,x⟩) ?_ hy;have k:=wf.ok i c hc;have w1:WF l (qp V (.asks i x fs)):=FN wf;have sh:c.ms=[]/\c.hd=Db/\c.wd=Db:=by
  rcases k.sh with g|⟨_,g|g|⟨_,g⟩|g⟩
  .exact⟨g.2.1,g.2.2.1,g.2.2.2.1⟩
  all_goals(rw[hs]at g;exact absurd g.1 (by decide))
 refine w1.set (i:=i) (c:=c) (c':=c.nL) (rT (V:=rj (qp V (.asks i x fs)) _) hc) hc (λj hj=>(BP j hj).symm) ?_ (λx g=>.inl ?_) (λx g=>.inl ?_) (λx g=>?_) wf.nx
 .rw[e9];exact⟨.inl ⟨hs,sh.1,sh.2.1,sh.2.2,λ_=>rfl,(λh=>by cases h)⟩,k.cr,(λx h=>by cases h),k.ms,eK,k.mn,(λh=>by cases h),k.wy⟩
 .exact(tF hs).mpr ((tF (c:=c.nL) hs).mp g)
 .rcases(tE (c:=c.nL) hs).mp g with y|y
  .exact(tE hs).mpr (.inl y)
  .cases y
 .have:=(sS.mp g).1;rw[show c.nL.st="rings" from hs]at this;exact absurd this (by decide)
inductive V6(l:pU)(V:qB)(i:Nat):List Nat->Prop
 | no:V6 l V i []
 | on (c:pP) (k:Nat) (r:List Nat) (b:Bool) (x y:Str) (n:Int):V.calls[i]?=Fa c->c.st="rings"->l.mT[k]?=Fa (b,.silent x y n)->c.way.getLast?=Fa x->y∈l.nm->V6 l V i (k::r)
def F5{V:qB}(ok:sf l):V6 l V i (wq l V i):=by
 unfold wq;cases e:V.calls[i]? with
 | none=>exact .no
 | some c=>
  dsimp only[Option.elim];by_cases hs:(c.st=="rings")=pc
  .rw[dg hs];cases q:BM l V (w9 c)with
   | nil=>exact .no
   | cons k r=>
    obtain⟨⟨b,w⟩,e1,e2⟩:=Gd (i:=k) (by rw[q];exact dI);cases w with
    | silent x y n=>unfold w9 at e2;rw[dZ,fA]at e2;exact .on c k r b x y n e (Ix hs) e1 e2.1 (Cf ok (gb e1) (z:=Str.empty) Z')
    | _=>cases e2
  .rw[de hs];exact .no
def Le{V:qB}:sr l V i []=[]:=rfl
def yC{l:pU}{V:qB}{i k:Nat}{r:T0 Nat}{b:Bool}{x y:Str}{n:Int}(h:l.mT[k]?=Fa (b,.silent x y n)):sr l V i (k::r)=[.asks i x (k::r),.quiet i,.leg ⟨i,x,y,x⟩]++uQ l (qI V [.asks i x (k::r),.quiet i,.leg ⟨i,x,y,x⟩]) i:=by unfold sr;simp only[List.head?_cons,mq,h]
def BN{V:qB}{i:Nat}{c:pP}{x y:Str}{fs:T0 Nat}(h:V.calls[i]?=Fa c):(qI V [.asks i x fs,.quiet i,.leg ⟨i,x,y,x⟩]).calls[i]?=Fa (c.nL.go y):=by show((V.calls.modify i pP.nL).modify i _)[i]?=_;rw[ir,ir,h];simp
def Jt{V:qB}(ok:sf l)(wf:WF l V):WF l (qI V (sr l V i (wq l V i))):=by
 have d:=F5 (V:=V) (i:=i) ok;generalize wq l V i=fs at d;cases d with
 | no=>exact wf
 | on c k r b x y n hc hs hk hw hy=>rw[yC hk,sI];exact Rz ok (B6 wf hc hs hy) (BN hc)
theorem B4(ok:sf l):∀(is:T0 Nat) {V:qB},WF l V->WF l (qI V (qD l is V))
 | [],_,wf=>wf
 | i::r,V,wf=>by unfold qD;rw[sI];exact B4 ok r (Jt ok wf)
theorem AC(l:pU)(i:Nat):∀(is:T0 Nat) (V:qB),qD l (is++[i]) V=qD l is V++sr l (qI V (qD l is V)) i (wq l (qI V (qD l is V)) i)
 | [],V=>by show sr l V i _++[]=[]++_;rw[eN];rfl
 | j::r,V=>by show sr l V j _++qD l (r++[i]) _=(sr l V j _++qD l r _)++_;rw[AC l i r,eM,show qD l (j::r) V=sr l V j (wq l V j)++qD l r (qI V (sr l V j (wq l V j)))from Z',sI]
def uD{x y:Str}:y∈rZ ss x↔y∈ss/\y≠x:=by unfold rZ;rw[fC,gS,gH]
theorem xV{x:Str}:∀{ss:QQQ},ss.Nodup->x∈ss->(rZ ss x).length+1=ss.length
 | [],_,h=>by cases h
 | y::r,nd,h=>by
  have nd:=dW.mp nd;unfold rZ;rw[gY];by_cases e:y=x
  .subst e;rw[show(!(y==y))=lf by simp,de (by decide),kS.mpr λz hz=>by
    have:z≠y:=λq=>nd.1 (q ▸ hz)
    simpa using this]
   rfl
  .have h:x∈r:=by
    rcases dh.mp h with q|q
    .exact absurd q.symm e
    .exact q
   rw[dg (by simpa using e)];have:=xV nd.2 h;unfold rZ at this;rw[eB,eB,this]
def QO{V:qB}{i:Nat}{c:pP}{x:Str}(wf:WF l V)(hc:V.calls[i]?=Fa c)(hl:c.nQ x=pc):WF l (qI V (xC V x i)):=by
 have k:=wf.ok i c hc;unfold xC;rw[hc];dsimp only[Option.elim];by_cases h1:c.nj x=pc
 .rw[dg h1];exact xF (V':=qp V (.over i "left")) wf hc (.inl Z') (by decide) (rT (V:=rj V _) hc) wf.nx
 .rw[de h1];have e1:(qp V (.leaves i x)).calls=V.calls.set i (c.drop x):=rT (V:=rj V _) hc;by_cases h2:hasS c.at_ x=pc
  .rw[dg h2];by_cases h3:rZ c.at_ x=[]
   .rw[dg h3];refine xF (V':=qp (qp V (.leaves i x)) (.over i "refused")) wf hc (.inl Z') (by decide) (w:="refused") ?_ wf.nx;have h4:(qp V (.leaves i x)).calls[i]?=Fa (c.drop x):=by rw[e1,eO (cY.mp hc).1]
    show(yi (rj (qp V (.leaves i x)) _) i _).calls=_;rw[rT (V:=rj (qp V (.leaves i x)) _) h4];show(qp V (.leaves i x)).calls.set i _=_;rw[e1,ja];rfl
   .rw[de h3];have hs:c.st="rings"/\c.ms=[]/\c.hd=Db/\c.wd=Db:=by
     rcases k.sh with g|⟨_,g|g|⟨_,g⟩|g⟩
     .exact⟨g.1,g.2.1,g.2.2.1,g.2.2.2.1⟩
     .exfalso;have:=xV k.an (rE.mp h2);rw[g.2.2.2.2]at this;exact h3 (gD.mp (by lia))
     .rw[g.2.2.2.2]at h2;cases h2
     .rw[g.2.2.2.2.2]at h2;cases h2
     .rw[g.2.2.2.1]at h2;cases h2
    refine wf.set (V':=qp V (.leaves i x)) (c':=c.drop x) e1 hc (λ_ _=>rfl) ⟨.inl ⟨hs.1,by show rZ c.ms x=[];rw[hs.2.1];rfl,hs.2.2.1,hs.2.2.2,(λh=>by cases h),λ_=>h3⟩,k.cr,λy hy=>k.at_ y (uD.mp hy).1,λy hy=>k.ms y (uD.mp hy).1,k.an.sublist fT,k.mn.sublist fT,λhy=>k.ca (uD.mp hy).1,k.wy⟩ (λy g=>?_) (λy g=>?_) (λy g=>?_) wf.nx
    .exact .inl ((tF hs.1).mpr ((tF (c:=c.drop x) hs.1).mp g))
    .refine .inl ((tE hs.1).mpr (((tE (c:=c.drop x) hs.1).mp g).imp id λh=>(uD.mp h).1))
    .have:=(sS.mp g).1;rw[show(c.drop x).st="rings" from hs.1]at this;exact absurd this (by decide)
  .rw[de h2];by_cases h3:2<c.ms.length
   .rw[dg h3];have hx:x∈c.ms:=by unfold pP.nQ at hl;rw[dH.mpr h1,dH.mpr h2,fQ,fQ]at hl;exact rE.mp hl
    have hs:c.st="talks"/\c.ms.length=3/\c.hd=Db/\c.wd=Db/\c.at_=[]:=by
     rcases k.sh with g|⟨_,g|g|⟨_,g⟩|g⟩
     .rw[g.2.1]at h3;cases h3
     .rw[g.2.1]at h3;cases h3
     .exact⟨g.1,g.2.1.elim (λq=>by lia) id,g.2.2⟩
     .omega
     .rw[g.2.1]at h3;cases h3
    have dl:=xV k.mn hx;refine wf.set (V':=qp V (.leaves i x)) (c':=c.drop x) e1 hc (λ_ _=>rfl) ⟨.inr ⟨Z',.inr (.inl ⟨hs.1,.inl (by show(rZ c.ms x).length=2;lia),hs.2.2.1,hs.2.2.2.1,by show rZ c.at_ x=[];rw[hs.2.2.2.2];rfl⟩)⟩,k.cr,λy hy=>k.at_ y (uD.mp hy).1,λy hy=>k.ms y (uD.mp hy).1,k.an.sublist fT,k.mn.sublist fT,λhy=>k.ca (uD.mp hy).1,k.wy⟩ (λy g=>?_) (λy g=>?_) (λy g=>?_) wf.nx
    .exact .inl ((ud hs.1).mpr (uD.mp ((ud (c:=c.drop x) hs.1).mp g)).1)
    .exact .inl ((tO (.inl hs.1)).mpr (uD.mp ((tO (c:=c.drop x) (.inl hs.1)).mp g)).1)
    .have:=(sS.mp g).1;rw[show(c.drop x).st="talks" from hs.1]at this;exact absurd this (by decide)
   .rw[de h3];exact xF (V':=qp V (.over i "done")) wf hc (.inl Z') (by decide) (rT (V:=rj V _) hc) wf.nx
def Ke{V:qB}{i:Nat}{c:pP}(wf:WF l V)(hc:V.calls[i]?=Fa c)(hx:hasS c.at_ x=pc)(hi:DC V x)(hf:c.m8 x=pc->uB l V x=pc):WF l (qp V (.talks i [c.cr,x])):=by
 have k:=wf.ok i c hc;have hx:=rE.mp hx;have X9:c.cr≠x:=λq=>k.ca (q ▸ hx);have hs:(c.st="rings"\/c.st="waits")/\c.wd=Db:=by
  rcases k.sh with g|⟨_,g|g|⟨_,g⟩|g⟩
  .exact⟨.inl g.1,g.2.2.2.1⟩
  .exact⟨.inr g.1,g.2.2.2.1⟩
  .rw[g.2.2.2.2]at hx;cases hx
  .rw[g.2.2.2.2.2]at hx;cases hx
  .rw[g.2.2.2.1]at hx;cases hx
 have ec:BR c c.cr/\c.hasB c.cr=pc:=by
  rcases hs.1 with g|g
  .exact⟨(tF g).mpr Z',(tE g).mpr (.inl Z')⟩
  .exact⟨(Ew g).mpr Z',(Eh g).mpr Z'⟩
 refine wf.set (V':=qp V (.talks i [c.cr,x])) (c':=c.nS [c.cr,x]) (rT (V:=rj V _) hc) hc (λ_ _=>rfl) ⟨.inr ⟨Z',.inr (.inl ⟨Z',.inl Z',Z',hs.2,Z'⟩)⟩,k.cr,(λy h=>by cases h),(λy h=>?_),eK,?_,(λh=>by cases h),k.wy⟩ (λy g=>?_) (λy g=>?_) (λy g=>?_) wf.nx
 .rcases dh.mp h with g|g
  .rw[g];exact k.cr
  .rw[dA.mp g];exact k.at_ x hx
 .exact dW.mpr ⟨λh=>X9 (dA.mp h),dW.mpr ⟨dG,eK⟩⟩
 .rcases dh.mp ((ud (c:=c.nS [c.cr,x]) Z').mp g)with h|h
  .rw[h];exact .inl ec.1
  .rw[dA.mp h];exact .inr hi
 .rcases dh.mp ((tO (c:=c.nS [c.cr,x]) (.inl Z')).mp g)with h|h
  .rw[h];exact .inl ec.2
  .rw[dA.mp h];rcases hs.1 with q|q
   .exact .inl ((tE q).mpr (.inr hx))
   .exact .inr (F7 (hf (sS.mpr ⟨q,hx⟩)))
 .exact absurd (sS.mp g).1 (show("talks":Str)≠"waits" by decide)
def Ba{c:pP}{x:Str}:c.nq x=pc↔c.st="talks"/\x∈c.ms/\c.ms.length=2:=by unfold pP.nq pP.ni;rw[dZ,dZ,fA,rE,fA,and_assoc]
def Nd{c:pP}(k:wJ l lf c)(h:c.st="talks"):c.hd=Db/\c.wd=Db/\c.at_=[]:=by
 rcases k.sh with g|⟨_,g|g|⟨_,g⟩|g⟩
 .rw[h]at g;exact absurd g.1 (by decide)
 .rw[h]at g;exact absurd g.1 (by decide)
 .exact g.2.2
 .rw[h]at g;exact absurd g.1 (by decide)
 .rw[h]at g;exact absurd g.1 (by decide)
def Fv{c:pP}{x:Str}(k:wJ l lf c)(h:c.hd=Fa x):c.st="held"/\c.ms.length=2/\x∈c.ms/\c.wd=Db/\c.at_=[]:=by
 rcases k.sh with g|⟨_,g|g|⟨y,g⟩|g⟩
 .rw[h]at g;cases g.2.2.1
 .rw[h]at g;cases g.2.2.1
 .rw[h]at g;cases g.2.2.1
 .have e:=g.2.2.1;rw[h]at e;cases e;exact⟨g.1,g.2.1,g.2.2.2⟩
 .rw[h]at g;cases g.2.2.1
def PP{V:qB}{i:Nat}{c:pP}{x:Str}(wf:WF l V)(hc:V.calls[i]?=Fa c)(hx:c.nq x=pc):WF l (qp V (.held i x)):=by
 have k:=wf.ok i c hc;obtain⟨h1,h2,h3⟩:=Ba.mp hx;obtain⟨s1,s2,s3⟩:=Nd k h1;refine wf.set (V':=qp V (.held i x)) (c':=c.hold x) (rT (V:=rj V _) hc) hc (λ_ _=>rfl) ⟨.inr ⟨Z',.inr (.inr (.inl ⟨x,Z',h3,Z',h2,s2,s3⟩))⟩,k.cr,k.at_,k.ms,k.an,k.mn,k.ca,k.wy⟩ (λy g=>.inl ?_) (λy g=>.inl ?_) (λy g=>?_) wf.nx
 .exact(ud h1).mpr ((Dk (c:=c.hold x) Z').mp g).1
 .exact(tO (.inl h1)).mpr ((tO (c:=c.hold x) (.inr Z')).mp g)
 .exact absurd (sS.mp g).1 (show("held":Str)≠"waits" by decide)
def Rg{V:qB}{i:Nat}{c:pP}{x:Str}(wf:WF l V)(hc:V.calls[i]?=Fa c)(hx:c.hd=Fa x)(hi:DC V x):WF l (qp V (.talks i c.ms)):=by
 have k:=wf.ok i c hc;obtain⟨h1,h2,h3,h4,h5⟩:=Fv k hx;refine wf.set (V':=qp V (.talks i c.ms)) (c':=c.nS c.ms) (rT (V:=rj V _) hc) hc (λ_ _=>rfl) ⟨.inr ⟨Z',.inr (.inl ⟨Z',.inl h2,Z',h4,Z'⟩)⟩,k.cr,(λy h=>by cases h),k.ms,eK,k.mn,(λh=>by cases h),k.wy⟩ (λy g=>?_) (λy g=>.inl ?_) (λy g=>?_) wf.nx
 .have g:=(ud (c:=c.nS c.ms) Z').mp g;by_cases e:y=x
  .rw[e];exact .inr hi
  .exact .inl ((Dk h1).mpr ⟨g,λq=>e (dv (q.symm.trans hx))⟩)
 .exact(tO (.inr h1)).mpr ((tO (c:=c.nS c.ms) (.inl Z')).mp g)
 .exact absurd (sS.mp g).1 (show("talks":Str)≠"waits" by decide)
def EA{c:pP}{x:Str}(nd:c.ms.Nodup)(h2:c.ms.length=2)(hx:x∈c.ms):qS c x∈c.ms/\qS c x≠x:=by
 have dl:=xV nd hx;obtain⟨y,r,e⟩:=List.exists_cons_of_length_pos (show 0<(rZ c.ms x).length by lia);have hm:y∈rZ c.ms x:=by rw[e];exact dI
 unfold qS;rw[e];exact uD.mp hm
def FR{V:qB}{i j:Nat}{c d:pP}{w x:Str}(wf:WF l V)(hc:V.calls[i]?=Fa c)(hd:V.calls[j]?=Fa d)(h1:c.hd=Fa x)(h2:d.nq x=pc):i≠j/\WF l (qp V (.merge i j (if (w=="hand")=pc then[qS c x,qS d x]else[x,qS c x,qS d x]))):=by
 have k:=wf.ok i c hc;have kd:=wf.ok j d hd;obtain⟨c1,c2,c3,c4,c5⟩:=Fv k h1;obtain⟨d1,d2,d3⟩:=Ba.mp h2;obtain⟨a1,a2⟩:=EA k.mn c2 c3;obtain⟨b1,b2⟩:=EA kd.mn d3 d2;have YN:i≠j:=λq=>by subst q;rw[hc]at hd;cases hd;rw[c1]at d1;exact absurd d1 (by decide)
 refine⟨YN,?_⟩;have ea:BR c (qS c x):=(Dk c1).mpr ⟨a1,λq=>a2 (dv (q.symm.trans h1))⟩;have ab:qS c x≠qS d x:=λq=>YN (wf.un i j c d _ hc hd ea (by rw[q];exact(ud d1).mpr b1));generalize hms:(if (w=="hand")=pc then[qS c x,qS d x]else[x,qS c x,qS d x])=ms;have mm:∀y∈ms,y=x\/y=qS c x\/y=qS d x:=λy hy=>by
  rw[<-hms]at hy;split at hy
  .rcases dh.mp hy with g|g
   .exact .inr (.inl g)
   .exact .inr (.inr (dA.mp g))
  .rcases dh.mp hy with g|g
   .exact .inl g
   .rcases dh.mp g with g|g
    .exact .inr (.inl g)
    .exact .inr (.inr (dA.mp g))
 have n2:[qS c x,qS d x].Nodup:=dW.mpr ⟨λh=>ab (dA.mp h),dW.mpr ⟨dG,eK⟩⟩;refine GO (V':=qp V (.merge i j ms)) (ms:=ms) wf (.inl Z') hc hd YN ?_ wf.nx d1 ?_ ?_ (λy hy=>?_) (λy hy=>?_)
 .show(V.calls.modify i _).modify j _=_;rw[ue hc,ue (show(V.calls.set i _)[j]?=Fa d by rw[eX YN];exact hd)]
 .rw[<-hms];split
  .exact n2
  .refine dW.mpr ⟨λh=>?_,n2⟩;rcases dh.mp h with g|g
   .exact a2 g.symm
   .exact b2 (dA.mp g).symm
 .rw[<-hms];split
  .exact .inl Z'
  .exact .inr Z'
 .rcases mm y hy with g|g|g
  .rw[g];exact .inl d2
  .rw[g];exact .inr ⟨ea,(tO (.inr c1)).mpr a1⟩
  .rw[g];exact .inl b1
 .rcases mm y hy with g|g|g
  .rw[g];exact k.ms x c3
  .rw[g];exact k.ms _ a1
  .rw[g];exact kd.ms _ b1
def Tc{V:qB}{i:Int}(h:Au V.calls.length i=pc):∃c,V.calls[i.toNat]?=Fa c:=by unfold Au at h;rw[dZ,eF,eF]at h;exact⟨_,c9 (by lia)⟩
def Gp{V:qB}{b:Bool}(h:(if ((vd V x).isNone&&b)=pc then Fa ("full":Str)else vd V x)=Db):vd V x=Db/\b=lf:=by
 cases e:vd V x with
 | some w=>rw[e]at h;cases h
 | none=>
  rw[e]at h;cases b with
  | true=>cases h
  | false=>exact⟨Z',Z'⟩
inductive ES(l:pU)(V:qB)(x:Str):Str->List Int->Prop
 | answer (i:Int) (c:pP):0<=i->V.calls[i.toNat]?=Fa c->hasS c.at_ x=pc->DC V x->(c.m8 x=pc->uB l V x=pc)->ES l V x "answer" [i]
 | hang (i:Int) (c:pP):0<=i->V.calls[i.toNat]?=Fa c->c.nQ x=pc->ES l V x "hang" [i]
 | hold (i:Int) (c:pP):0<=i->V.calls[i.toNat]?=Fa c->c.nq x=pc->ES l V x "hold" [i]
 | back (i:Int) (c:pP):0<=i->V.calls[i.toNat]?=Fa c->c.hd=Fa x->DC V x->ES l V x "back" [i]
 | two (w:Str) (i j:Int) (c d:pP):0<=i->0<=j->w="hand"\/w="join"->V.calls[i.toNat]?=Fa c->V.calls[j.toNat]?=Fa d->c.hd=Fa x->d.nq x=pc->ES l V x w [i,j]
def Ik{V:qB}{w x:Str}(f:(uz.num w x ns).nI)(h:yS l V (.num w x ns)=Db):x∈l.pn/\ES l V x w ns:=by
 have hp:hasS l.pn x=pc:=by
  cases q:hasS l.pn x with
  | true=>rfl
  | false=>unfold yS at h;dsimp only at h;rw[dg q]at h;cases h
 refine⟨rE.mp hp,?_⟩;unfold yS at h;dsimp only at h;rw[de (by rw[hp];decide)]at h;unfold Mj at h;cases q1:ns.all (Au V.calls.length)with
 | false=>rw[dg q1]at h;cases h
 | true=>
 rw[de (by rw[q1];decide)]at h;cases q2:Jg w x (ug V ns)with
 | false=>rw[dg q2]at h;cases h
 | true=>
 rw[de (by rw[q2];decide)]at h;have z:∀i∈ns,0<=i/\∃c,V.calls[i.toNat]?=Fa c:=λi hi=>by have g:=eS.mp q1 i hi;refine⟨?_,Tc g⟩;unfold Au at g;rw[dZ,eF]at g;exact g.1
 rcases f with⟨fw,fl⟩|⟨fw,fl⟩
 .match ns,fl with
  | [i],_=>
   obtain⟨hi,c,hc⟩:=z i dI;have ec:ug V [i]=[c]:=by unfold ug;rw[gi,hc];rfl
   rw[ec]at h q2;rcases fw with rfl|rfl|rfl|rfl
   .rw[de (by decide)]at h;obtain⟨h1,h2⟩:=Gp h;refine .answer i c hi hc q2 (Fc h1) λhw=>?_;have h2:(c.m8 x&&!(uB l V x))=lf:=h2;rw[hw]at h2
    simpa using h2
   .exact .hang i c hi hc q2
   .exact .hold i c hi hc q2
   .rw[de (by decide)]at h;exact .back i c hi hc (Ix q2) (Fc (Gp h).1)
 .match ns,fl with
  | [i,j],_=>
   obtain⟨hi,c,hc⟩:=z i dI;obtain⟨hj,d,hd⟩:=z j (dE _ dI);have ec:ug V [i,j]=[c,d]:=by unfold ug;rw[gi,hc];dsimp only;rw[gi,hd];rfl
   rw[ec]at q2;have q3:((c.hd==Fa x)&&d.nq x)=pc:=by rcases fw with rfl|rfl<;>exact q2
   rw[dZ]at q3;exact .two w i j c d hi hj fw hc hd (Ix q3.1) q3.2
def FV{V:qB}{y z:Str}(h:yS l V (.call y z)=Db):y∈l.pn/\z∈l.nm/\DC V y/\uB l V y=pc:=by
 unfold yS at h;dsimp only at h;cases q:hasS l.pn y with
 | false=>rw[dg q]at h;cases h
 | true=>
 rw[de (by rw[q];decide)]at h;unfold Hr at h;cases q1:hasS l.nm z with
 | false=>rw[dg q1]at h;cases h
 | true=>
 rw[de (by rw[q1];decide)]at h;obtain⟨h1,h2⟩:=Gp h;exact⟨rE.mp q,rE.mp q1,Fc h1,by simpa using h2⟩
def Rr{V:qB}{b:Bool}{i:Int}(h:yS l V (.sw b i)=Db):0<=i/\i.toNat<V.on.length:=by
 unfold yS QH at h;dsimp only at h;cases q:Au V.on.length i with
 | false=>rw[dg q]at h;cases h
 | true=>unfold Au at q;rw[dZ,eF,eF]at q;lia
def zM{V:qB}{w x:Str}{i:Nat}{c:pP}(h:V.calls[i]?=Fa c):Fz V w x i=if (w=="answer")=pc then .talks i [c.cr,x]else if (w=="hold")=pc then .held i x else .talks i c.ms:=by unfold Fz;rw[h];rfl
def Ih{V:qB}{w x:Str}{i j:Nat}{c d:pP}(h:V.calls[i]?=Fa c)(g:V.calls[j]?=Fa d):G5 V w x i j=.merge i j (if (w=="hand")=pc then[qS c x,qS d x]else[x,qS c x,qS d x]):=by unfold G5;rw[h,g];rfl
def UZ{V:qB}{e:uz}(ok:sf l)(wf:WF l V)(f:e.nI)(h:yS l V e=Db):WF l (qI V (uc l V e)):=by
 cases e with
 | call y z=>obtain⟨h1,h2,h3,h4⟩:=FV h;obtain⟨k,hk⟩:=L6 (V:=V) (y:=y) (z:=z);show WF l (qI V (_++uQ l _ _));rw[sI];exact Rz ok (HZ wf h1 h2 h3 h4) hk
 | turn=>exact B4 ok _ (BO wf)
 | sw b i=>exact Vt wf
 | num w x ns=>
  obtain⟨_,n⟩:=Ik f h;cases n with
  | answer i c hi hc h1 h2 h3=>show WF l (qp V (Fz V "answer" x i.toNat));rw[zM hc];exact Ke wf hc h1 h2 h3
  | hang i c hi hc h1=>exact QO wf hc h1
  | hold i c hi hc h1=>show WF l (qp V (Fz V "hold" x i.toNat));rw[zM hc];exact PP wf hc h1
  | back i c hi hc h1 h2=>show WF l (qp V (Fz V "back" x i.toNat));rw[zM hc];exact Rg wf hc h1 h2
  | two _ i j c d hi hj hw hc hd h1 h2=>show WF l (qp V (G5 V w x i.toNat j.toNat));rw[Ih hc hd];exact(FR wf hc hd h1 h2).2
def Ri(a:Ad):rO:=λds M Q=>Oi λM0 b A V l c n x i k=>ds=[.ref b,.str x,.int ((i:Nat):Int)]/\tw a M0 M b A V l c n/\c<=1000000/\n<=7000000/\V.calls[i]?=Fa k/\∀M' A',tw a M0 M' b A' (qI V (xC V x i)) l c (n+2)->rh A M A' M'->Q .mY M'
def QP(a:Ad):rO:=λds M Q=>K0 λA V l L k c=>ds=[.ref A.b,.ref (rS.p k)]/\Rd a M A V l/\sv a M L k c/\Q (vG (BM l V (w9 c))) M
def OZ(a:Ad):rO:=λds M Q=>Oi λM0 b A V l c n i k r=>ds=[.ref b,.int ((i:Nat):Int),vG (k::r)]/\tw a M0 M b A V l c n/\c<=1000000/\n<=6900000/\WF l V/\V6 l V i (k::r)/\∀M' A',tw a M0 M' b A' (qI V (sr l V i (k::r))) l c (n+33)->rh A M A' M'->Q .mY M'
def Qb(a:Ad):rO:=λds M Q=>Ry λM0 b A V l c n=>ds=[.ref b]/\tw a M0 M b A V l c n/\c<=10000/\n<=6000000/\WF l V/\∀M' A',tw a M0 M' b A' (qI V (tR l V)) l c (n+1+33*c)->rh A M A' M'->Q .mY M'
def RZ{a:Ad}{M:Mp}{c:pP}{v:Wi}{r:Uf}{Q:DK}(h:M r=Fa (.ins (v.cls a) v.nW))(hk:sv a M L k c)(q:Q (.bl (w9 c v)) M):My a v [.ref r,.ref k.p] M Q:=by
 cases v with
 | silent x y n=>exact⟨r,L,k,c,Z',h,hk,q⟩
 | _=>exact⟨_,_,Z',q⟩
def P5:Fq P w K mg base 4 a.a5 (Ri a):=by
 refine fq G.a5.toDG C9 (λr u=>⟨_,(pK (qc 3 C9 (pV (pQ v0) U2))
 (pL (qg (vH (qv U3 G.e.toCls G.X (Cv G) r (qA U1)))
 (pL (qe (qv v0 G.c.toCls G.k (rF G) r (qA (qd (rC pO U2 pO))))))
 (pL (qg (pW u U1 (pQ U3))
 (pK (qe (qv v0 G.c.toCls G.k (rF G) r (qA (qd (rC pO U2 U1)))))
 (pL (qg (pW u (qm qP Z' G.g qL (qA (pQ U3))) pN)
 (pL (qe (qv v0 G.c.toCls G.k (rF G) r (qA (qd (rC pO U2 pO))))))
 pZ)))
 (pL (qg (pW u (qm qP Z' G.g qL (qA (pQ U3))) pN)
 (pL (qe (qv v0 G.c.toCls G.k (rF G) r (qA (qd (rC pO U2 U1))))))
 (pL (qe (qv v0 G.c.toCls G.k (rF G) r (qA (qd (rC pO U2 pO))))))))))))),?_⟩)
 rintro ds M Q ⟨M0,b,A,V,l,cc,n,x,i,c,rfl,cu,hcc,hn,hc,q⟩
 obtain⟨ka,ci⟩:=cu.call hc;obtain⟨ad,md,h1,h2,h3,h4,n1,n2⟩:=ci.cell;have hi:=(cY.mp hc).1;refine pM cu.at_ (i' Z' (i' Z' (i' ci.bd.ca (i' (rL ci.e1) ?_))));refine pM h1 ⟨Z',_,⟨Z',Z'⟩,_,ka,c,x,Z',ci.cell,?_⟩;unfold xC at q;rw[hc]at q;dsimp only[Option.elim]at q;have over:∀(w0:Str),(∀M' A',tw a M0 M' b A' (qI V [.over i w0]) l cc (n+2)->rh A M A' M'->Q .mY M')->∀(M1:Mp) (A1:sA),A1.b=A.b->rh A M A1 M1->qa a M1 A1 (qp V (.over i w0))->∃XU,qJ XU M1/\Q .mY XU:=λw0 q M1 A1 eb st bd=>⟨M1,.refl,q M1 A1 ((cu.after (e:=.over i w0) hi eb st bd).mono (dw _) (by lia)) st⟩;refine qU (c:=c.nj x) (λg=>?_) (λg=>?_)
 .rw[dg g]at q;exact pM cu.at_ ⟨Z',_,⟨Z',Z'⟩,pI Z',b,A,V,.over i "left",Z',cu.b,cu.bd,cu.lim hcc (by lia),hi,over "left" q⟩
 rw[de g]at q;refine pM h1 (i' Z' (i' h3 ⟨Z',qN _,?_⟩));show if inD (.str x) (c.at_.map D.str)=pc then _ else _
 rw[tq];refine qU (c:=hasS c.at_ x) (λg2=>?_) (λg2=>?_)
 .rw[dg g2]at q;refine pM cu.at_ ⟨Z',_,⟨Z',Z'⟩,pI Z',b,A,V,.leaves i x,Z',cu.b,cu.bd,cu.lim hcc (by lia),hi,λM1 A1 eb st bd=>?_⟩;have c1:=cu.after (e:=.leaves i x) hi eb st bd;have hcs:(qp V (.leaves i x)).calls=V.calls.set i (c.drop x):=rT (V:=rj V _) hc;have hc1:(qp V (.leaves i x)).calls[i]?=Fa (c.drop x):=by rw[hcs,eO hi]
  obtain⟨ad',md',g1,g2',g3,g4,_⟩:=c1.bd.cs i ka _ (st.2.2.1 i ka ci.e1) hc1;have le0:((((c.drop x).at_.map D.str).length:Int)==0)=decide (rZ c.at_ x=[]):=by rw[cW,gz,fA,eF];show((rZ c.at_ x).length:Int)=0↔_;rw[<-gD];lia
  refine pM g1 (i' Z' (i' g3 ?_));refine qU (c:=(((c.drop x).at_.map D.str).length:Int)==0) (λg5=>?_) (λg5=>?_)
  .rw[le0,eF]at g5;rw[dg g5]at q;have YF:i<(qp V (.leaves i x)).calls.length:=(cY.mp hc1).1;refine pM c1.at_ ⟨Z',_,⟨Z',Z'⟩,pI Z',b,A1,_,.over i "refused",Z',c1.b,c1.bd,c1.lim hcc (by lia),YF,λM2 A2 eb2 Ya Y9=>?_⟩;exact⟨M2,.refl,q M2 A2 (c1.after (e:=.over i "refused") YF eb2 Ya Y9) (st.trans Ya)⟩
  .rw[le0,eF]at g5;rw[de g5]at q;exact⟨M1,.refl,q M1 A1 (c1.mono (dw _) (by lia)) st⟩
 .rw[de g2]at q;refine pM h1 (i' Z' (i' h4 ?_));have lm:decide ((2:Int)<((c.ms.map D.str).length:Int))=decide (2<c.ms.length):=by rw[cW,gz,eF,eF];lia
  refine qU (c:=decide ((2:Int)<((c.ms.map D.str).length:Int))) (λg3=>?_) (λg3=>?_)
  .rw[lm,eF]at g3;rw[dg g3]at q;refine pM cu.at_ ⟨Z',_,⟨Z',Z'⟩,pI Z',b,A,V,.leaves i x,Z',cu.b,cu.bd,cu.lim hcc (by lia),hi,λM1 A1 eb st bd=>?_⟩;exact⟨M1,.refl,q M1 A1 ((cu.after (e:=.leaves i x) hi eb st bd).mono (dw _) (by lia)) st⟩
  .rw[lm,eF]at g3;rw[de g3]at q;exact pM cu.at_ ⟨Z',_,⟨Z',Z'⟩,pI Z',b,A,V,.over i "done",Z',cu.b,cu.bd,cu.lim hcc (by lia),hi,over "done" q⟩
def QF:Fq P w K mg base 2 a.a6 (QP a):=by
 refine fq G.a6.toDG za (λr u=>⟨_,(pK (qc 2 za (pQ (pQ v0)))
 (pL (pS (qK uC Z' G.E uu (qA (ra Z' (yH (ix:=[Db,Db,Fa 2,Fa 1]) (N':=["i","on","wishes","call"])) (vK Z' G.bQ (qA (pQ v0))) (uX (n:=2) Z' (qE (qW 0) (qE (qW 1) tK))) (vV (W3.b3 (vv (vH U1) (vN (vH (FG (R:=Hy a) (pV U2 v0) (VV G) (r.mono (by first|decide|lia)) (qA U3))))))) v0)))))),?_⟩)
 rintro ds M Q ⟨A,V,l,L,k,c,rfl,rd,hk,q⟩
 obtain⟨ph,gr,ws,Zh,pr,gd,rs,i1,i2,i3,i4,i5,i6,i7,i8⟩:=rd.pl;refine pM rd.bd.at_ (i' Z' (pM i1 (i' Z' ?_)));refine pM rd.bd.at_ (i' Z' (i' rd.bd.on ?_));refine JW (rest:=[Fa (.ref ws),Fa (.ref k.p)]) rd.on rd.ok.pE rd.bd.on (λi w0 ew y kk hkk=>?_) λp hp=>i' pR ⟨M,.new hp,q⟩;obtain⟨r,e1,e2⟩:=BV i8 ew;exact i' i4 (i' e1 (pM e2 ⟨by cases w0.2<;>rfl,_,⟨w0.2,Z',Z'⟩,RZ e2 hk hkk⟩))
def QC:Fq P w K mg base 10 a.a7 (OZ a):=by
 refine fq G.a7.toDG C7 (λr u=>⟨_,(pK (qc 3 C7 (Ci (R:=Oy a) (pV (pQ (pQ v0)) (pV U2 pN)) (TN G) (r.mono (by first|decide|lia))))
 (pK (qe (qv v0 G.c.toCls G.k (rF G) r (qA (qd (qo pO (rC U1 (pV U3 pN) U2))))))
 (pK (qe (qv v0 G.c.toCls G.k (rF G) r (qA (qd (sH pO U1)))))
 (pK (qe (qv v0 G.c.toCls G.k (rF G) r (qA (qd (qo pO (qo U1 (rC (pV U3 pN) (pV U3 pN) (pV U3 pN))))))))
 (pL (qe (pX (J9 G) r G.ad (sH v0 U1)))))))),?_⟩)
 rintro ds M Q ⟨M0,b,A,V,l,c,n,i,k,r,rfl,cu,hc,hn,wf,du,q⟩
 obtain⟨ph,gr,ws,Zh,pr,gd,rs,i1,i2,i3,i4,i5,i6,i7,i8⟩:=cu.pl;cases du with
 | on k0 _ _ b0 x y m hk hs hw hl hy=>
  have hi:=(cY.mp hk).1;rw[yC hw]at q;rw[sI]at q;obtain⟨r0,e1,e2⟩:=BV i8 hw;refine pM cu.at_ (i' Z' (pM i1 (i' Z' (i' (xO _ _) (i' i4 (i' e1 (pM e2 ⟨Z',_,⟨⟨.silent x y m,Z'⟩,Z'⟩,r0,.silent x y m,Z',e2,?_⟩)))))));refine pM cu.at_ ⟨Z',_,⟨Z',Z'⟩,pI Z',b,A,V,.asks i x (k::r),Z',cu.b,cu.bd,cu.lim hc (by lia),trivial,λM1 A1 eb1 Yw bd1=>?_⟩;have c1:=cu.after (e:=.asks i x (k::r)) trivial eb1 Yw bd1;refine pM c1.at_ ⟨Z',_,⟨Z',Z'⟩,pI Z',b,A1,_,.quiet i,Z',c1.b,c1.bd,c1.lim hc (by lia),hi,λM2 A2 eb2 Ya Y9=>?_⟩;have c2:=c1.after (e:=.quiet i) hi eb2 Ya Y9;have Y2:i<(qp (qp V (.asks i x (k::r))) (.quiet i)).calls.length:=by show i<(V.calls.modify i pP.nL).length;rw[fj];exact hi
  refine pM c2.at_ ⟨Z',_,⟨Z',Z'⟩,pI Z',b,A2,_,.leg ⟨i,x,y,x⟩,Z',c2.b,c2.bd,c2.lim hc (by lia),Y2,λM3 A3 eb3 Yp bd3=>?_⟩;have c3:=c2.after (e:=.leg ⟨i,x,y,x⟩) Y2 eb3 Yp bd3;exact⟨M0,b,A3,_,l,c,n+3,i,_,Z',c3,hc,by lia,B6 wf hk hs hy,BN hk,λM4 A4 c4 st4=>⟨M4,.refl,q M4 A4 (c4.mono (dw _) (by lia)) (Yw.trans (Ya.trans (Yp.trans st4)))⟩⟩
def PB:Fq P w K mg base 11 a.a8 (Qb a):=by
 refine fq G.a8.toDG ui (λr u=>⟨_,(pK (qe (qv v0 G.c.toCls G.k (rF G) r (qA (qd (qA pO)))))
 (pL (ur eU Z' (vK Z' G.bQ (qA (qK uj Z' G.y uh (qA (pQ v0))))) (uX (n:=2) Z' (qE (rq 1 ui) (qE (rq 2 ui) tK)))
 (pL (qg (pW u (pQ U2) pO)
 (pK (qc 3 ui (pX (QF G) r G.a6 (sH v0 U2)))
 (pL (qg (pW u (qm qP Z' G.g qL (qA U3)) pN)
 (pL (qe (pX (QC G) r G.a7 (rC v0 U1 U3))))
 pZ)))
 pZ))))),?_⟩)
 rintro ds M Q ⟨M0,b,A,V,l,c,n,rfl,cu,hc,hn,wf,q⟩
 refine pM cu.at_ ⟨Z',_,⟨Z',Z'⟩,pI Z',b,A,V,.turn,Z',cu.b,cu.bd,cu.lim (by lia) (by lia),trivial,λM1 A1 eb st bd=>?_⟩;have c1:=cu.after (e:=.turn) trivial eb st bd;have wf1:=BO wf;have lv:(qp V .turn).calls.length=V.calls.length:=cW ..;have ev:tR l V=.turn::qD l (List.range V.calls.length) (qp V .turn):=rfl;rw[ev,<-lv]at q;have q:∀M' A',tw a M0 M' b A' (qI (qp V .turn) (qD l (List.range (qp V .turn).calls.length) (qp V .turn))) l c (n+1+33*c)->rh A M A' M'->Q .mY M':=q;have c1:tw a M0 M1 b A1 (qp V .turn) l c (n+1):=c1;generalize qp V .turn=V1 at c1 wf1 q bd;refine pM c1.at_ (i' Z' (i' c1.bd.ca λr hr=>i' pR ?_));have t:=qJ.new (c:=.lst (A1.cs.map λk=>D.ref k.p)) hr;have lr:=@pR M1 r (A1.cs.map λk=>D.ref k.p);have nf:=c1.bd.nu hr;have c2:=c1.sub t;have cl:V1.calls.length<=c:=c1.sz.ca;generalize pT M1 r (.lst (A1.cs.map λk=>D.ref k.p))=M2 at t lr c2 ⊢;refine vg (uU 0 (A1.cs.map λk=>D.ref k.p)) (λpre U M'=>(∃A',tw a M0 M' b A' (qI V1 (qD l (List.range pre.length) V1)) l c (n+1+33*pre.length)/\rh A1 M2 A' M')/\∃y1 y2 y3,U=[Fa (.ref b),y1,y2,y3]) (λpre U M' j=>?_) _ [] _ _ Z' ⟨⟨A1,c2,.refl⟩,Db,Db,Db,Z'⟩ ?_ ?_
 .obtain⟨⟨A',c3,Yp⟩,_⟩:=j;exact rR (Yp.1 r _ nf (ql lr))
 .rintro pre d post e U M' ⟨⟨A',c3,Yp⟩,y1,y2,y3,rfl⟩ nx XX
  rw[cZ,dQ,jb,AC,sI]at XX;have Zu:=B4 cu.ok (List.range pre.length) wf1;generalize qI V1 (qD l (List.range pre.length) V1)=V3 at c3 Zu XX;obtain⟨x,hx,rfl⟩:=EZ e;rw[dz]at hx;cases ek:A1.cs[pre.length]? with
  | none=>rw[ek]at hx;cases hx
  | some k=>
   rw[ek]at hx;have hx:D.ref k.p=x:=dv hx;subst hx;have hp:pre.length<c:=by have:=(cY.mp ek).1;rw[c1.bd.len]at this;lia
   have ek3:=Yp.2.2.1 _ k ek;have hi:pre.length<V3.calls.length:=by rw[<-c3.bd.len];exact(cY.mp ek3).1
   have ec:V3.calls[pre.length]?=Fa V3.calls[pre.length]:=c9 hi;generalize V3.calls[pre.length]=cv at ec;have ca:=c3.bd.cs _ k cv ek3 ec;obtain⟨ad,md,g1,_⟩:=ca;refine⟨Z',pM g1 (i' Z' ?_)⟩;have hdv:wq l V3 pre.length=if (cv.st=="rings")=pc then BM l V3 (w9 cv)else[]:=by unfold wq;rw[ec];rfl
   have mY:wq l V3 pre.length=[]->∀y1' y2' y3',nx [Fa (.ref b),y1',y2',y3'] M':=λh0 y1' y2' y3'=>XX _ _ ⟨⟨A',by rw[h0];exact c3.mono (dw _) (by lia),Yp⟩,_,_,_,Z'⟩;have du:=F5 (V:=V3) (i:=pre.length) cu.ok;refine qU (c:=cv.st=="rings") (λg=>?_) (λg=>mY (by rw[hdv,de g]) _ _ _);rw[dg g]at hdv;refine⟨A',V3,l,_,k,cv,by rw[c3.b],c3.rd (by lia) Zu,c3.bd.cs _ k cv ek3 ec,?_⟩;rw[<-hdv];cases hdq:wq l V3 pre.length with
   | nil=>exact mY hdq _ _ _
   | cons k0 r0=>rw[hdq]at du XX;refine Bw (dX (by rw[cW];show(0:Int)<((k0::r0).length:Nat);rw[eB];lia)) ?_;exact⟨M0,b,A',V3,l,c,_,pre.length,k0,r0,Z',c3,by lia,by lia,Zu,du,λM4 A4 c4 st4=>XX _ _ ⟨⟨A4,c4.mono (dw _) (by lia),Yp.trans st4⟩,_,_,_,Z'⟩⟩
 .rintro U M' ⟨⟨A',c3,Yp⟩,y1,y2,y3,rfl⟩
  have hl:(uU 0 (A1.cs.map λk=>D.ref k.p)).length=V1.calls.length:=by rw[vT,cW,c1.bd.len]
  rw[hl]at c3;exact⟨M',.refl,q M' A' (c3.mono (dw _) (by lia)) (st.trans ((rh.sub t).trans Yp))⟩
inductive Rx(l:pU)(V:qB):uz->Ev->Prop
 | sw (b:Bool) (i:Nat):i<V.on.length->Rx l V (.sw b (i:Nat)) (.sw b i)
 | answer (x:Str) (i:Nat) (c:pP):V.calls[i]?=Fa c->Rx l V (.num "answer" x [(i:Nat)]) (.talks i [c.cr,x])
 | hold (x:Str) (i:Nat) (c:pP):V.calls[i]?=Fa c->Rx l V (.num "hold" x [(i:Nat)]) (.held i x)
 | back (x:Str) (i:Nat) (c:pP):V.calls[i]?=Fa c->Rx l V (.num "back" x [(i:Nat)]) (.talks i c.ms)
 | two (w x:Str) (i j:Nat) (c d:pP):i≠j->w="hand"\/w="join"->V.calls[i]?=Fa c->V.calls[j]?=Fa d->rZ c.ms x≠[]->rZ d.ms x≠[]->Rx l V (.num w x [(i:Nat),(j:Nat)]) (.merge i j (if (w=="hand")=pc then[qS c x,qS d x]else[x,qS c x,qS d x]))
def Gx(a:Ad):rO:=λds M Q=>HE λA V l e ev=>ds=[.ref A.b,uz.d e]/\Rd a M A V l/\Rx l V e ev/\Q ev.d M
def Sr(a:Ad):rO:=λds M Q=>OX λM0 b A V l c n e=>ds=[.ref b,uz.d e]/\tw a M0 M b A V l c n/\c<10000/\n<=5000000/\WF l V/\e.nI/\yS l V e=Db/\∀M' A',tw a M0 M' b A' (qI V (uc l V e)) l (c+1) (n+40+33*c)->rh A M A' M'->Q .mY M'
def Xl(a:Ad)(M0 M:Mp)(b:Uf)(A:sA)(V:qB)(l:pU)(c n:Nat)(e:uz)(Q:DK):Prop:=yS l V e=Db->∀M' A' r,tw a M0 M' b A' (qI V (uc l V e)) l (c+1) (n+40+33*c)->rh A M A' M'->M' r=Db->Q (.ref r) (pT M' r (.lst ((uc l V e).map Ev.d)))
def Uv(a:Ad):Hd:=λds M Q R=>OX λM0 b A V l c n e=>ds=[.ref b,uz.d e]/\tw a M0 M b A V l c n/\c<10000/\n<=5000000/\WF l V/\e.nI/\Xl a M0 M b A V l c n e Q/\(∀w,yS l V e=Fa w->R a.H (Fa ("word",.str w)) M)
def Rd.call{V:qB}(rd:Rd a M A V l){i:Nat}{c:pP}(e:V.calls[i]?=Fa c):∃k,A.cs[i]?=Fa k/\sv a M (A.lists++V.fo) k c:=by
 have hi:i<A.cs.length:=by rw[rd.bd.len];exact(cY.mp e).1
 exact⟨A.cs[i],c9 hi,rd.bd.cs i _ c (c9 hi) e⟩
def zk{i:Int}(h:0<=i):∃m:Nat,i=(m:Int):=eG h
def JY{c:pP}{x:Str}(nd:c.ms.Nodup)(h2:c.ms.length=2)(hx:x∈c.ms):rZ c.ms x≠[]:=λz=>by have:=xV nd hx;rw[z]at this;simp only[dJ]at this;lia
def Lw:Fq P w K mg base 2 a.a9 (Gx a):=by
 refine fq G.a9.toDG tW (λr u=>⟨_,(pK (qc 2 tW (pV U1 pN))
 (pK (qg (pW u U2 (qd (sH pO pO)))
 (pL (pS (qd (sH U2 (pV U1 pN)))))
 pZ)
 (pK (qc 3 tW (pV U1 pN))
 (pK (qc 4 tW (pV U1 pN))
 (pK (qc 5 tW (pV (pQ v0) U4))
 (pK (qg (pW u U2 pO)
 (pL (pS (qd (rC pO U4 (qd (sH (pQ v5) U3))))))
 pZ)
 (pK (qg (pW u U2 pO)
 (pL (pS (qd (rC pO U4 U3))))
 pZ)
 (pK (qg (pW u U2 pO)
 (pL (pS (qd (rC pO U4 (qK uC Z' G.E uu (qA (pQ v5)))))))
 pZ)
 (pK (qc 6 tW (pV U1 pN))
 (pK (qc 7 tW (qd (sH (qv v5 G.e.toCls G.aB (Hz G) r (qA U3)) (qv (pV (pQ v0) v6) G.e.toCls G.aB (Hz G) r (qA U3)))))
 (pK (qg (pW u U2 pO)
 (pL (pS (qd (qo pO (rC U4 v6 v7)))))
 pZ)
 (pL (pS (qd (qo pO (rC U4 v6 (qu (qd (qA U3)) v7))))))))))))))))),?_⟩)
 rintro ds M Q ⟨A,V,l,e,ev,rfl,rd,sg,q⟩
 cases sg with
 | sw b i hi=>
  cases b with
  | true=>exact⟨pI Z',Z',Z',pI Z',M,.refl,q⟩
  | false=>exact⟨pI Z',Z',Z',pI Z',M,.refl,q⟩
 | answer x i c hc=>obtain⟨k,ek,ca⟩:=rd.call hc;obtain⟨ad,md,h1,h2,h3,h4,n1,n2⟩:=ca;refine⟨pI Z',Z',Z',?_⟩;refine pM rd.bd.at_ (i' Z' (i' Z' (i' rd.bd.ca (i' (rL ek) ?_))));exact pM h1 (i' Z' ⟨pI Z',pI Z',M,.refl,q⟩)
 | hold x i c hc=>obtain⟨k,ek,ca⟩:=rd.call hc;refine⟨pI Z',Z',Z',?_⟩;refine pM rd.bd.at_ (i' Z' (i' Z' (i' rd.bd.ca (i' (rL ek) ?_))));exact⟨pI Z',M,.refl,q⟩
 | back x i c hc=>obtain⟨k,ek,ca⟩:=rd.call hc;obtain⟨ad,md,h1,h2,h3,h4,n1,n2⟩:=ca;refine⟨pI Z',Z',Z',?_⟩;refine pM rd.bd.at_ (i' Z' (i' Z' (i' rd.bd.ca (i' (rL ek) ?_))));exact pM h1 (i' Z' (i' h4 ⟨pI Z',M,.refl,q⟩))
 | two wd x i j c d YN hw hc hd nc nd=>
  obtain⟨k,ek,ca⟩:=rd.call hc;obtain⟨k',ek',ca'⟩:=rd.call hd;have ca0:=ca;have ca1:=ca';obtain⟨ad,md,h1,h2,h3,h4,n1,n2⟩:=ca0;obtain⟨ad',md',f1,_⟩:=ca1;obtain⟨y1,r1,e1⟩:=fK nc;obtain⟨y2,r2,e2⟩:=fK nd;have o1:qS c x=y1:=by unfold qS;rw[e1];rfl
  have o2:qS d x=y2:=by unfold qS;rw[e2];rfl
  rw[o1,o2]at q;rcases hw with rfl|rfl
  .refine⟨pI Z',Z',Z',?_⟩;refine pM rd.bd.at_ (i' Z' (i' Z' (i' rd.bd.ca (i' (rL ek) ?_))));refine pM h1 ⟨Z',_,⟨Z',Z'⟩,_,k,c,x,y1,r1,Z',ca,(rd.ms c (qV hc)).2,e1,?_⟩;refine pM rd.bd.at_ (i' Z' (i' Z' (i' rd.bd.ca (i' (rL ek') ?_))));refine pM f1 ⟨Z',_,⟨Z',Z'⟩,_,k',d,x,y2,r2,Z',ca',(rd.ms d (qV hd)).2,e2,?_⟩;exact⟨pI Z',pI Z',M,.refl,q⟩
  .refine⟨pI Z',Z',Z',?_⟩;refine pM rd.bd.at_ (i' Z' (i' Z' (i' rd.bd.ca (i' (rL ek) ?_))));refine pM h1 ⟨Z',_,⟨Z',Z'⟩,_,k,c,x,y1,r1,Z',ca,(rd.ms c (qV hc)).2,e1,?_⟩;refine pM rd.bd.at_ (i' Z' (i' Z' (i' rd.bd.ca (i' (rL ek') ?_))));refine pM f1 ⟨Z',_,⟨Z',Z'⟩,_,k',d,x,y2,r2,Z',ca',(rd.ms d (qV hd)).2,e2,?_⟩;exact⟨pI Z',pI Z',fP _ _,by show 1+2<=Ch;have hz:=dP;lia,pI Z',M,.refl,q⟩
def SK:Fq P w K mg base 12 a.ba (Sr a):=by
 refine fq G.ba.toDG LO (λr u=>⟨_,(pK (qc 2 LO (pV U1 pN))
 (pL (qg (pW u U2 pO)
 (pL (qe (pX (Oc G) r G.a4 (rC v0 (pV U1 pN) (pV U1 pN)))))
 (pL (qg (pW u U2 pO)
 (pL (qe (pX (P5 G) r G.a5 (rC v0 (pV U1 pN) (pV U1 pN)))))
 (pL (qg (pW u U2 pO)
 (pL (qe (pX (PB G) r G.a8 (qA v0))))
 (pL (qe (qv v0 G.c.toCls G.k (rF G) r (qA (pX (Lw G) r G.a9 (sH v0 U1))))))))))))),?_⟩)
 rintro ds M Q ⟨M0,b,A,V,l,c,n,e,rfl,cu,hc,hn,wf,hf,hr,q⟩
 have rd:=cu.rd (by lia) wf;have one:∀(ev:Ev),Rx l V e ev->uc l V e=[ev]->ev.ok V->ev.nw=0->AG (M b) λC fs'=>fs'.lookup ("apply":Str)=Db/\∃sp,(C=a.c/\sp=wQ a)/\Gx a [.ref b,e.d] M λd M1=>sp [.ref b,d] M1 λ_ M'=>∃XU,qJ XU M'/\Q .mY XU:=λev sg he ok h0=>by refine pM cu.at_ ⟨Z',_,⟨Z',Z'⟩,A,V,l,e,ev,by rw[cu.b],rd,sg,b,A,V,ev,Z',cu.b,cu.bd,cu.lim (by lia) (by lia),ok,λM1 A1 eb st bd=>?_⟩;rw[he]at q;have c1:=cu.after ok eb st bd;rw[h0]at c1;exact⟨M1,.refl,q M1 A1 (c1.mono (by lia) (by lia)) st⟩
 cases e with
 | call y z=>obtain⟨h1,h2,h3,h4⟩:=FV hr;exact⟨M0,b,A,V,l,c,n,y,z,Z',cu,by lia,by lia,HZ wf h1 h2 h3 h4,λM' A' c1 st=>⟨M',.refl,q M' A' (c1.mono (by lia) (by lia)) st⟩⟩
 | turn=>exact⟨M0,b,A,V,l,c,n,Z',cu,by lia,by lia,wf,λM' A' c1 st=>⟨M',.refl,q M' A' (c1.mono (by lia) (by lia)) st⟩⟩
 | sw b0 i=>
  obtain⟨h1,h2⟩:=Rr hr;obtain⟨i,rfl⟩:=zk h1;cases b0 with
  | true=>exact one (.sw pc i) (.sw pc i h2) Z' h2 Z'
  | false=>exact one (.sw lf i) (.sw lf i h2) Z' h2 Z'
 | num wd x ns=>
  obtain⟨hx,no⟩:=Ik hf hr;cases no with
  | answer i c0 hi Yh h1 h2 h3=>obtain⟨i,rfl⟩:=zk hi;have lt:=(cY.mp Yh).1;exact one (.talks i [c0.cr,x]) (.answer x i c0 Yh) (eY (λev=>[ev]) (zM Yh)) ⟨lt,by show 2<=100;decide⟩ Z'
  | hang i c0 hi Yh h1=>obtain⟨i,rfl⟩:=zk hi;exact⟨M0,b,A,V,l,c,n,x,i,c0,Z',cu,by lia,by lia,Yh,λM' A' c1 st=>⟨M',.refl,q M' A' (c1.mono (by lia) (by lia)) st⟩⟩
  | hold i c0 hi Yh h1=>obtain⟨i,rfl⟩:=zk hi;have lt:=(cY.mp Yh).1;exact one (.held i x) (.hold x i c0 Yh) (eY (λev=>[ev]) (zM Yh)) lt Z'
  | back i c0 hi Yh h1 h2=>obtain⟨i,rfl⟩:=zk hi;have lt:=(cY.mp Yh).1;exact one (.talks i c0.ms) (.back x i c0 Yh) (eY (λev=>[ev]) (zM Yh)) ⟨lt,(cu.sz.cs c0 (qV Yh)).2.2⟩ Z'
  | two _ i j c0 d0 hi hj hw Yh hd0 h1 h2=>
   obtain⟨i,rfl⟩:=zk hi;obtain⟨j,rfl⟩:=zk hj;have lt:=(cY.mp Yh).1;have lt':=(cY.mp hd0).1;have YN:=(FR (w:=wd) wf Yh hd0 h1 h2).1;have k0:=wf.ok _ c0 Yh;have k1:=wf.ok _ d0 hd0;obtain⟨_,u2,u3,_⟩:=Fv k0 h1;obtain⟨_,v2,v3⟩:=Ba.mp h2;have sg:=Rx.two (l:=l) wd x i j c0 d0 YN hw Yh hd0 (JY k0.mn u2 u3) (JY k1.mn v3 v2);have ok:(Ev.merge i j (if (wd=="hand")=pc then[qS c0 x,qS d0 x]else[x,qS c0 x,qS d0 x])).ok V:=⟨lt,lt',YN,by split;exact(by decide:2<=100);exact(by decide:3<=100)⟩;have he:uc l V (.num wd x [(i:Int),(j:Int)])=[.merge i j (if (wd=="hand")=pc then[qS c0 x,qS d0 x]else[x,qS c0 x,qS d0 x])]:=eY (λev=>[ev]) (Ih Yh hd0);rcases hw with rfl|rfl
   .exact one _ sg he ok Z'
   .exact one _ sg he ok Z'
def Kp:xP P w K mg base (Dt P w) 1 a.I.f a.I.d a.I.p (xf K "word"):=
 Mq G.I.toDG Dn λX2 A outer s H E=>FC (P9 (pv 0) (pv 1))
def VG:WB P w K mg base 13 a.N (Uv a):=by
 refine U' G.N.toDG HY (by walk_at "m") (λ_ _ _ _ _ _ R hr hR=>⟨_,(pK (qc 2 HY (pX (Iq G) hr G.aZ (sH v0 U1)))
 (pK (qg (pW (Xh hr) U2 sL)
 (pL (KU G.b4 (Kp G) (hr.mono (by first|decide|lia)) G.I.b G.b5 G.I.at_ Z' G.bX hR (qA U2)))
 pZ)
 (pK (qc 3 HY (qm qP Z' G.g qL (qA (pQ v0))))
 (pK (qe (pX (SK G) hr G.ba (sH v0 U1)))
 (pL (pS (sW (pQ v0) (tL U3) uk))))))),?_⟩)
 .rintro ds M Q ⟨M0,b,A,V,l,c,n,e,rfl,cu,hc,hn,wf,hf,q,rr⟩
  refine⟨A,V,l,e,by rw[cu.b],cu.rd (by lia) wf,hf,?_⟩;cases er:yS l V e with
  | some w0=>exact⟨_,Z',rr w0 er⟩
  | none=>
   refine pM cu.at_ (i' Z' (i' cu.bd.lo ?_));refine⟨M0,b,A,V,l,c,n,e,Z',cu,hc,hn,wf,hf,er,λM' A' c1 st=>?_⟩;refine pM c1.at_ (i' Z' (i' c1.bd.lo λp hp=>?_));have hcut:L3.ut ((qI V (uc l V e)).log.map Ev.d) (Fa (((V.log.map Ev.d).length:Nat):Int)) Db=(uc l V e).map Ev.d:=by rw[Gh,dM,IP _ _ (by rw[cZ];lia),List.drop_left]
   rw[hcut];exact⟨_,.refl,q er M' A' p c1 st hp⟩
def Qs(a:Ad):rO:=λds M Q=>OX λM0 b A V l c n e=>ds=[.ref b,uz.d e]/\tw a M0 M b A V l c n/\c<10000/\n<=5000000/\WF l V/\e.nI/\Xl a M0 M b A V l c n e Q/\(∀w,yS l V e=Fa w->Q (.str w) M)
def Qp:Fq P w K mg base 14 a.bt (Qs a):=by
 refine fq G.bt.toDG yw (λr u=>⟨_,(pK (qc 2 yw sL)
 (pK (Qf (ix:=2) (i:=3) (Ou (VG G) (r.mono (by first|decide|lia)) Z' G.N.mg G.N.toDG.kp G.N.b (sH v0 U1)) Z' Z' Z' G.bX yw.nd Z' Z' Z' Z' (by decide))
 (pL (pS U2)))),?_⟩)
 rintro ds M Q ⟨M0,b,A,V,l,c,n,e,rfl,cu,hc,hn,wf,hf,q,qf⟩
 refine⟨λC y M'=>C=a.H/\M=M'/\∃w,yS l V e=Fa w/\y=Fa (("word":Str),D.str w),?_,?_⟩
 .exact⟨M0,b,A,V,l,c,n,e,Z',cu,hc,hn,wf,hf,λh M' A' r c1 st hm=>⟨_,.refl,q h M' A' r c1 st hm⟩,λw h=>⟨Z',Z',w,h,Z'⟩⟩
 .rintro C y M' ⟨rfl,rfl,w,h,rfl⟩
  exact⟨G.b7,G.b6,w,Z',M,.refl,qf w h⟩
noncomputable def wA(g:uH):Bool:=g.2.1==("turns":Str)
def vL(l:pU):T0 (Str×Int):=(l.groups.filter wA).map λg=>(g.1,0)
def V0(p:Uf)(h:Int)(l:pU)(F:QXQ):qB:=⟨p,h,0,[],[],vL l,l.mT.map (·.1),[],F⟩
def Fw(a:Ad):rO:=λds M Q=>HE λb p h F (l:pU)=>ds=[.ref b,.ref p,.int h]/\M b=Fa (.ins a.c [])/\sY a M p l/\sf l/\p≠b/\(∀x∈F,∃c,M x=Fa c)/\∀M' A,A.b=b->sy b M M'->(∀x∈A.foot,x=b\/M x=Db)->qa a M' A (V0 p h l F)->Q .mY M'
noncomputable def NE(g:D):Bool:=match g with
 | .tup (_::.str m::_)=>m=="turns"
 | _=>lf
def Rk(d:D):D:=.tup [BL d,.int 0]
def IG(gs:List uH):((gs.map rN).filter NE).map Rk=(gs.filter wA).map λg=>D.tup [.str g.1,.int 0]:=by rw[gO,eC];rfl
def KF(l:pU):((l.groups.filter wA).map λg=>((Sum.inr g.1:rP),D.int 0))=ua (vL l):=by unfold ua vL;rw[eC];rfl
noncomputable def bF(p:Uf)(h:Int)(ca le nx Zo:Uf)(k:Nat):T0 (Str×D):=List.take (α:=Str×D) k [("plan",.ref p),("hour",.int h),("turn",.int 0),("calls",.ref ca),("legs",.ref le),("nexts",.ref nx),("on",.ref Zo)]
def MI:Fq P w K mg base 1 a.al (Fw a):=by
 refine fq G.al.toDG D3 (λr u=>⟨_,(pK (qy v0 U1)
 (pK (qy v0 U2)
 (pK (qy v0 pN)
 (pK (qy v0 (qQ so))
 (pK (qy v0 (qQ so))
 (pK (qy v0 (qK (E2 Z') Z' G.bW Gb (qA (ra Z' (yH (ix:=[Db]) (N':=["group"])) (qZ (pQ U1)) (qW 0) (vV (pW u (pV v0 pN) pO)) (qd (sH (pV v0 pN) pN))))))
 (pK (qy v0 (qK uj Z' G.y uh (qA (pQ U1))))
 (pL (qy v0 (qQ so)))))))))),?_⟩)
 rintro ds M Q ⟨b,p,h,F,l,rfl,hb,⟨ph,gr,ws,on,pr,gd,rs,i1,i2,i3,i4,i5,i6,i7,i8⟩,ok,nbp,hF,q⟩
 have hz:=dP;have l2:=ok.g3;refine pM hb ⟨(G.C "plan" Z'),by show 0<1000;decide,?_⟩;have k1:sy b M (pT M b (.ins a.c [("plan",.ref p)])):=.put;have b1:pT M b (.ins a.c [("plan",.ref p)]) b=Fa (.ins a.c [("plan",.ref p)]):=qh;show vc _ _ _ _ (pT M b (.ins a.c [("plan",.ref p)]));generalize pT M b (.ins a.c [("plan",.ref p)])=N1 at k1 b1 ⊢;refine pM b1 ⟨(G.C "hour" Z'),by show 1<1000;decide,?_⟩;have k2:=k1.trans (sy.put (p:=b) (c:=.ins a.c [("plan",.ref p),("hour",.int h)]));have b2:pT N1 b (.ins a.c [("plan",.ref p),("hour",.int h)]) b=Fa (.ins a.c [("plan",.ref p),("hour",.int h)]):=qh;show vc _ _ _ _ (pT N1 b (.ins a.c [("plan",.ref p),("hour",.int h)]));generalize pT N1 b (.ins a.c [("plan",.ref p),("hour",.int h)])=N2 at k2 b2 ⊢;refine pM b2 ⟨(G.C "turn" Z'),by show 2<1000;decide,?_⟩;have k3:=k2.trans (sy.put (p:=b) (c:=.ins a.c (bF p h 0 0 0 0 3)));have b3:pT N2 b (.ins a.c (bF p h 0 0 0 0 3)) b=Fa (.ins a.c (bF p h 0 0 0 0 3)):=qh;show vc _ _ _ _ (pT N2 b (.ins a.c (bF p h 0 0 0 0 3)));generalize pT N2 b (.ins a.c (bF p h 0 0 0 0 3))=N3 at k3 b3 ⊢;clear k1 k2 b1 b2;refine⟨pI Z',λca hca=>?_⟩;obtain⟨n4,e4,k4,c4,b4⟩:=tS (fs':=(bF p h ca 0 0 0 4)) (c:=.lst []) b3 hca;refine pM e4 ⟨(G.C "calls" Z'),by show 3<1000;decide,?_⟩;show vc _ _ _ _ (pT (pT N3 ca (.lst [])) b (.ins a.c (bF p h ca 0 0 0 4)));generalize pT (pT N3 ca (.lst [])) b (.ins a.c (bF p h ca 0 0 0 4))=N4 at k4 c4 b4 ⊢;have ZU:=k3.trans k4;have z1:M ca=Db:=se k3 b3 hca;have lc4:pq N4 ca=Fa []:=rR c4;refine⟨pI Z',λle hle=>?_⟩;obtain⟨n5,e5,k5,c5,b5⟩:=tS (fs':=(bF p h ca le 0 0 5)) (c:=.lst []) b4 hle;refine pM e5 ⟨(G.C "legs" Z'),by show 4<1000;decide,?_⟩;show vc _ _ _ _ (pT (pT N4 le (.lst [])) b (.ins a.c (bF p h ca le 0 0 5)));generalize pT (pT N4 le (.lst [])) b (.ins a.c (bF p h ca le 0 0 5))=N5 at k5 c5 b5 ⊢;have ZV:=ZU.trans k5;have z2:M le=Db:=se ZU b4 hle;have le5:pq N5 le=Fa []:=rR c5;have mcl:le≠ca:=λz=>by rw[z,ql lc4]at hle;cases hle
 have lc5:=k5.lst (qr lc4 b4) lc4;have p5:=ZV _ _ nbp i1;have g5:=ZV.lst (qr i3 hb) i3;clear k3 k4 k5 ZU lc4 c4 c5 e4 e5 b3 b4;refine pM p5 (i' Z' (i' g5 ?_));refine tP (f:=Rk) (t:=NE) g5 _ [] _ (by rw[cW];simp only[dJ];lia) (λd hd k hk=>?_) (λd hd _ k hk=>?_) λq1 YM=>?_
 .obtain⟨v,_,rfl⟩:=dF.mp hd;exact hk
 .obtain⟨v,_,rfl⟩:=dF.mp hd;exact⟨pI Z',hk⟩
 rw[d6,IG];have sq1:=qJ.new (c:=.lst ((l.groups.filter wA).map λg=>D.tup [.str g.1,.int 0])) YM;refine i' pR (i' (xm (λg:uH=>g.1) (λ_=>D.int 0) _) ⟨zc (iG (List.Sublist.map _ fT) (iG (jE _ _) ok.nd)),λnx XX=>?_⟩);have z3:M nx=Db:=se ZV b5 (sq1.none XX);obtain⟨n6,e6,k6,c6,b6⟩:=tS (fs':=(bF p h ca le nx 0 6)) (c:=.dk ((l.groups.filter wA).map λg=>((Sum.inr g.1:rP),D.int 0))) (sq1 _ _ b5) XX;refine pM e6 ⟨(G.C "nexts" Z'),by show 5<1000;decide,?_⟩;have k6:=sq1.keep.trans k6;have ZI:wN "nexts" (.ref nx) (bF p h ca le 0 0 5)=(bF p h ca le nx 0 6):=rfl;rw[ZI];generalize pT (pT (pT N5 q1 (.lst ((l.groups.filter wA).map λg=>D.tup [.str g.1,.int 0]))) nx (.dk ((l.groups.filter wA).map λg=>((Sum.inr g.1:rP),D.int 0)))) b (.ins a.c (bF p h ca le nx 0 6))=N6 at k6 b6 c6 ⊢;have x6:Aw N6 nx=Fa ((l.groups.filter wA).map λg=>((Sum.inr g.1:rP),D.int 0)):=Du c6;have kk6:=ZV.trans k6;have lc6:=k6.lst (qr lc5 b5) lc5;have le6:=k6.lst (qr le5 b5) le5;have p6:=kk6 _ _ nbp i1;have o6:=kk6.lst (qr i5 hb) i5;clear ZV k6 lc5 p5 g5 e6 c6;refine pM p6 (i' Z' (i' o6 λZo hon=>?_));have z4:M Zo=Db:=se kk6 b6 hon;obtain⟨n7,e7,k7,c7,b7⟩:=tS (fs':=(bF p h ca le nx Zo 7)) (c:=.lst (l.mT.map λw=>D.bl w.1)) b6 hon;refine pM e7 ⟨(G.C "on" Z'),by show 6<1000;decide,?_⟩;have ZI:wN "on" (.ref Zo) (bF p h ca le nx 0 6)=(bF p h ca le nx Zo 7):=rfl;rw[ZI];generalize pT (pT N6 Zo (.lst (l.mT.map λw=>D.bl w.1))) b (.ins a.c (bF p h ca le nx Zo 7))=N7 at k7 b7 c7 ⊢;have kk7:=kk6.trans k7;have lc7:=k7.lst (qr lc6 b6) lc6;have le7:=k7.lst (qr le6 b6) le6;have x7:=k7.dk (CB x6 b6) x6;have lo7:pq N7 Zo=Fa ((l.mT.map (·.1)).map D.bl):=by rw[eC];exact rR c7
 refine⟨pI Z',λlg hlg=>?_⟩;obtain⟨n8,e8,k8,c8,b8⟩:=tS (fs':=um (.ref p) h 0 ca le nx Zo lg) (c:=.lst []) b7 hlg;refine pM e8 ⟨(G.C "log" Z'),by show 7<1000;decide,_,.refl,?_⟩;have apart:∀{N:Mp} {x y:Uf} {ds:T0 D},N x=Db->pq N y=Fa ds->x≠y:=λ{N x y ds} h1 h2 z=>by have:=ql h2;rw[<-z,h1]at this;cases this
 have y5:=se kk7 b7 hlg;refine q _ ⟨b,ca,le,nx,Zo,lg,[]⟩ Z' (kk7.trans k8) (λx hx=>?_) ⟨b8,k8.lst (qr lc7 b7) lc7,k8.lst (qr le7 b7) le7,?_,k8.lst (qr lo7 b7) lo7,rR c8,Z',λi k c e=>by simp at e,?_,dW.mpr ⟨dG,eK⟩,λx hx=>?_⟩
 rotate_right
 .by_cases z:x=b
  .exact⟨_,by rw[z];exact b8⟩
  .obtain⟨c,e⟩:=hF x hx;exact⟨c,(kk7.trans k8) x c z e⟩
 .have hx:x∈[b,nx,ca,le,Zo,lg]:=by
   unfold sA.foot sA.lists at hx
   simpa using hx
  simp only[dh,dG,eZ]at hx;rcases hx with rfl|rfl|rfl|rfl|rfl|rfl
  .exact .inl Z'
  .exact .inr z3
  .exact .inr z1
  .exact .inr z2
  .exact .inr z4
  .exact .inr y5
 .show Aw _ nx=Fa (ua (vL l));rw[<-KF];exact k8.dk (CB x7 b7) x7
 .have m1:=apart hlg lc7;have m2:=apart hlg le7;have m3:=apart hlg lo7;have m4:=apart hon lc6;have m5:=apart hon le6;show[ca,le,Zo,lg].Nodup;simp only[dW,dh,dG,eZ,fN,not_false_eq_true,eK,and_true];exact⟨⟨dS mcl,dS m4,dS m1⟩,⟨dS m5,dS m2⟩,dS m3⟩
def Tp{p:Uf}{F:QXQ}(ok:sf l):WF l (V0 p h l F):=by
 refine⟨λi c e=>by simp[V0]at e,λi j ci cj x e=>by simp[V0]at e,λx hx=>?_,λi j ci cj x e=>by simp[V0]at e,λz hz ht=>?_⟩
 .show((0:Nat):Int)<=xt l x;unfold xt;cases e:l.nB x with
  | none=>exact Int.le_refl _
  | some v=>have:=(ok.po v (gw e)).l1;show(0:Int)<=v.2.1;lia
 .show ∃v,(vL l).find? (λp=>decide (p.1=z))=Fa v/\_;unfold pU.m7 at ht;cases e:l.group z with
  | none=>rw[e]at ht;exact absurd ht (by decide)
  | some g=>
   rw[e]at ht;have hg:=gw e;have hn:g.1=z:=by simpa using mD e
   have hm:((g.1,0):Str×Int)∈vL l:=dF.mpr ⟨g,fC.mpr ⟨hg,ht⟩,Z'⟩;cases q:(vL l).find? (λp=>decide (p.1=z))with
   | none=>exact absurd (hZ.mp q _ hm) (by simp[hn])
   | some v=>refine⟨v,Z',?_⟩;obtain⟨g',_,rfl⟩:=dF.mp (gw q);exact⟨Int.le_refl _,Int.natCast_nonneg _⟩
def Ev.old:Ev->Prop
 | .new _ _=>False
 | _=>True
def NT{V:qB}{e:Ev}(h:e.old):(qp V e).calls.length=V.calls.length:=by
 cases e with
 | new _ _=>cases h
 | merge i j ms=>exact(fj ..).trans (fj ..)
 | turn=>exact cW ..
 | asks _ _ _=>rfl
 | next _ _=>rfl
 | sw _ _=>rfl
 | _=>exact fj ..
theorem Ju:∀{es:T0 Ev} {V:qB},(∀e∈es,e.old)->(qI V es).calls.length=V.calls.length
 | [],_,_=>rfl
 | e::r,V,h=>(Ju (es:=r) (V:=qp V e) λx hx=>h x (dE _ hx)).trans (NT (h e dI))
theorem AF(i:Nat):∀(st:sO) (q:Option Str) {V:qB},i<V.calls.length->Cr V (qY i q st)
 | [],_,V,_=>by unfold qY;trivial
 | (y,gs)::r,Db,V,h=>⟨trivial,AF i r (Fa y) h⟩
 | (y,gs)::r,Fa u,V,h=>⟨h,trivial,AF i r (Fa y) (by
  show i<(V.calls.modify i _).length;rw[fj];exact h)⟩
def Qv{V V1:qB}{e:vM}(h:GM l V i e)(hi:i<V.calls.length)(hl:V1.calls.length=V.calls.length):Cr V1 (sF l V i e):=by
 have YF:i<V1.calls.length:=by rw[hl];exact hi
 cases e with
 | rings z ps=>
  have h4:ps.length<=100:=h.2.2.2;show Cr V1 ((if (l.m7 z=="turns")=pc then _ else _)++[.rings i ps]);split
  .exact⟨trivial,⟨YF,h4⟩,trivial⟩
  .exact⟨⟨YF,h4⟩,trivial⟩
 | waits z=>exact⟨YF,trivial⟩
 | breaks z=>
  obtain⟨j,k,t1,t2,t3,t4⟩:=h;have e1:V.calls[i]?=Fa V.calls[i]:=c9 hi;have hee:sF l V i (.breaks z)=[.merge i j (k.ms++[V.calls[i].cr])]:=by unfold sF;dsimp only;rw[t1,e1];dsimp only;rw[t2];rfl
  rw[hee];exact⟨⟨YF,by rw[hl];exact(cY.mp t2).1,t3,by rw[cZ,t4];exact(by decide:3<=100)⟩,trivial⟩
 | engaged z=>exact⟨YF,trivial⟩
 | barred=>exact⟨YF,trivial⟩
 | ring ns=>exact⟨YF,trivial⟩
def Ly{V:qB}{i:Nat}{k:pP}(ok:sf l)(wf:Ax l V (Fa i))(hk:V.calls[i]?=Fa k):Cr V (uQ l V i):=by
 have YU:=wf.ok i k hk;have hi:=(cY.mp hk).1;unfold uQ;rw[hk];dsimp only[Option.elim];obtain⟨z,hz⟩:∃z,k.way.getLast?=Fa z:=by
  cases e:k.way.getLast? with
  | none=>exact absurd (fU.mp e) YU.wy.1
  | some z=>exact⟨z,Z'⟩
 rw[show k.way.getLastD Str.empty=z by rw[iz,hz];rfl];have ro:xI l V k.cr (l.nm.length+1) [] (tM l V k.cr z k.way.dropLast):=yr ok _ _ _ _ (YU.wy.2 z (je hz)) λx hx=>YU.wy.2 x (jf _ hx);have eo:=Og ok wf hk ro.e;generalize tM l V k.cr z k.way.dropLast=R at ro eo;obtain⟨e,st⟩:=R;have s1:=(vm i st Db V).len;refine yG (AF i st Db hi) (yG ?_ (Qv eo hi ?_))
 .unfold sm;cases e with
  | ring ns=>
   dsimp only;cases st.getLast? with
   | none=>trivial
   | some s0=>exact⟨by show i<_;rw[s1];exact hi,trivial⟩
  | _=>trivial
 .refine(Ju λx hx=>?_).trans s1;unfold sm at hx;cases e with
  | ring ns=>
   dsimp only at hx;cases q:st.getLast? with
   | none=>rw[q]at hx;cases hx
   | some s0=>rw[q]at hx;rw[dA.mp hx];trivial
  | _=>cases hx
def HB{V:qB}(ok:sf l)(wf:WF l V):Cr V (sr l V i (wq l V i)):=by
 have d:=F5 (V:=V) (i:=i) ok;generalize wq l V i=fs at d;cases d with
 | no=>trivial
 | on c k r b x y n hc hs hk hw hy=>rw[yC hk];have hi:=(cY.mp hc).1;exact yG ⟨trivial,hi,(by show i<(V.calls.modify i pP.nL).length;rw[fj];exact hi),trivial⟩ (Ly ok (B6 wf hc hs hy) (BN hc))
theorem Hx(ok:sf l):∀(is:T0 Nat) {V:qB},WF l V->Cr V (qD l is V)
 | [],V,_=>by unfold qD;trivial
 | i::r,V,wf=>by unfold qD;exact yG (HB ok wf) (Hx ok r (Jt ok wf))
def To{V:qB}{e:uz}(ok:sf l)(wf:WF l V)(hm:∀c∈V.calls,c.ms.length<=100)(f:e.nI)(h:yS l V e=Db):Cr V (uc l V e):=by
 cases e with
 | call y z=>obtain⟨h1,h2,h3,h4⟩:=FV h;obtain⟨k,hk⟩:=L6 (V:=V) (y:=y) (z:=z);refine yG ⟨trivial,?_,trivial⟩ (Ly ok (HZ wf h1 h2 h3 h4) hk);show V.calls.length<(V.calls++[zB y]).length;rw[cZ];exact fE _
 | turn=>exact⟨trivial,Hx ok _ (BO wf)⟩
 | sw b i=>exact⟨(Rr h).2,trivial⟩
 | num w x ns=>
  obtain⟨_,n⟩:=Ik f h;cases n with
  | answer i c hi hc h1 h2 h3=>show Cr V [Fz V "answer" x i.toNat];rw[zM hc];exact⟨⟨(cY.mp hc).1,(by decide:2<=100)⟩,trivial⟩
  | hang i c hi hc h1=>
   have lt:=(cY.mp hc).1;show Cr V (xC V x i.toNat);unfold xC;rw[hc];dsimp only[Option.elim];split
   .exact⟨lt,trivial⟩
   split
   .refine⟨lt,?_⟩;split
    .exact⟨by show _<(V.calls.modify _ _).length;rw[fj];exact lt,trivial⟩
    .trivial
   split
   .exact⟨lt,trivial⟩
   .exact⟨lt,trivial⟩
  | hold i c hi hc h1=>show Cr V [Fz V "hold" x i.toNat];rw[zM hc];exact⟨(cY.mp hc).1,trivial⟩
  | back i c hi hc h1 h2=>show Cr V [Fz V "back" x i.toNat];rw[zM hc];exact⟨⟨(cY.mp hc).1,hm c (qV hc)⟩,trivial⟩
  | two _ i j c d hi hj hw hc hd h1 h2=>
   show Cr V [G5 V w x i.toNat j.toNat];rw[Ih hc hd];refine⟨⟨(cY.mp hc).1,(cY.mp hd).1,(FR (w:=w) wf hc hd h1 h2).1,?_⟩,trivial⟩;split
   .exact(by decide:2<=100)
   .exact(by decide:3<=100)
noncomputable def qB.at_(V:qB)(p:Uf)(F:QXQ):qB:={V with p:=p,fo:=F}
def BW(V:qB)(p:Uf)(F:QXQ)(e:Ev):qp (V.at_ p F) e=(qp V e).at_ p F:=by cases e<;>rfl
theorem xx(p:Uf)(F:QXQ):∀(es:T0 Ev) (V:qB),qI (V.at_ p F) es=(qI V es).at_ p F
 | [],_=>rfl
 | e::r,V=>by show qI (qp (V.at_ p F) e) r=_;rw[BW,xx p F r];rfl
theorem Iw(p:Uf)(F:QXQ):∀(es:T0 Ev) (V:qB),Cr V es->Cr (V.at_ p F) es
 | [],_,_=>trivial
 | e::r,V,h=>⟨by cases e<;>exact h.1,by rw[BW];exact Iw p F r _ h.2⟩
def VD(e:Ev):e.nw<=1:=by cases e<;>first|exact dw _|exact eE _
def EB(ok:sf l):(vL l).length<=3:=by unfold vL;rw[cW];exact d9 (fW _ _) ok.g3
def NC{es:T0 Ev}{pre post:T0 D}{d:D}(e:pre++d::post=es.map Ev.d):∃ev,es[pre.length]?=Fa ev/\d=ev.d/\es.take (pre.length+1)=es.take pre.length++[ev]/\es.drop pre.length=ev::es.drop (pre.length+1):=by
 have h:(es.map Ev.d)[pre.length]?=Fa d:=by rw[<-e];simp
 rw[dz]at h;cases q:es[pre.length]? with
 | none=>rw[q]at h;cases h
 | some ev=>rw[q]at h;have hl:=(cY.mp q).1;have eg:es[pre.length]=ev:=(cY.mp q).2;exact⟨ev,Z',(dv h).symm,by rw[List.take_succ,q];rfl,by rw[gv hl,eg]⟩
theorem EN(n:Nat):∀ss:QQQ,(ss.map D.str).all (wj n)=pc
 | []=>rfl
 | s::r=>by rw[dY,fD,EN n r];cases n<;>rfl
theorem EE(n:Nat):∀ss:T0 Nat,(ss.map λi=>D.int (i:Nat)).all (wj n)=pc
 | []=>rfl
 | s::r=>by rw[dY,fD,EE n r];cases n<;>rfl
def QG(e:Ev):wj 6 e.d=pc:=by
 have t:∀ss:QQQ,wj 5 (names ss)=pc:=λss=>EN 4 ss;have u:∀ss:T0 Nat,wj 5 (vG ss)=pc:=λss=>EE 4 ss;cases e with
 | asks i z ns=>show([D.str "asks",.int (i:Nat),.str z,vG ns].all (wj 5))=pc;simp only[fD,u];rfl
 | merge i j ms=>show([D.str "merge",.int (i:Nat),.int (j:Nat),names ms].all (wj 5))=pc;simp only[fD,t];rfl
 | rings i ps=>show([D.str "rings",.int (i:Nat),names ps].all (wj 5))=pc;simp only[fD,t];rfl
 | talks i ps=>show([D.str "talks",.int (i:Nat),names ps].all (wj 5))=pc;simp only[fD,t];rfl
 | _=>rfl
noncomputable def BX(c:pP):QQQ:=if (c.st=="talks"||c.st=="held")=pc then c.ms else c.cr::c.at_
def Ll(a:Ad):rO:=λds M Q=>Ea λL k c=>ds=[.ref (rS.p k)]/\sv a M L k c/\c.at_.length<=100/\∀r M',qJ M M'->pq M' r=Fa ((BX c).map D.str)->Q (.ref r) M'
def LU(V:qB)(YX:QQQ):T0 Nat:=(List.range V.calls.length).filter λi=>(V.calls[i]?).elim lf λc=>hasS YX c.st
def P4(a:Ad):rO:=λds M Q=>CO λA V l YX=>ds=[.ref A.b,.tup (List.map D.str YX)]/\Rd a M A V l/\∀r M',qJ M M'->pq M' r=Fa ((LU V YX).map λn=>D.int (n:Nat))->Q (.ref r) M'
def S0(V:qB)(YX:QQQ):D->Bool
 | .int n=>(V.calls[n.toNat]?).elim lf λc=>hasS YX c.st
 | _=>lf
def Li:Fq P w K mg base 1 a.bn (Ll a):=by
 refine fq G.bn.toDG DI (λr u=>⟨_,(pK (qg (W3.b3 (zR (pW u (pQ v0) pO) (zb (pW u (pQ v0) pO))))
 (pL (pS (qK uj Z' G.y uh (qA (pQ v0)))))
 pZ)
 (pL (pS (qu (qQ (qA (pQ v0))) (qK uj Z' G.y uh (qA (pQ v0))))))),?_⟩)
 rintro ds M Q ⟨L,k,c,rfl,⟨ad,md,h1,h2,h3,h4,_⟩,ha,q⟩
 have hz:=dP;unfold BX at q;refine pM h1 (i' Z' (qU (c:=c.st=="talks") (λg=>?_) (λg=>?_)))
 .rw[g,ig,dg Z']at q;exact pM h1 (i' Z' (i' h4 λr hr=>⟨_,.refl,q r _ (.new hr) pR⟩))
 rw[dH.mpr g,fQ]at q;refine pM h1 (i' Z' (qU (c:=c.st=="held") (λg=>?_) (λg=>?_)))
 .rw[dg g]at q;exact pM h1 (i' Z' (i' h4 λr hr=>⟨_,.refl,q r _ (.new hr) pR⟩))
 rw[de g]at q;refine pM h1 (i' Z' ⟨pI Z',λr1 Yn=>?_⟩);have t1:=qJ.new (c:=.lst [D.str c.cr]) Yn;have l1:=@pR M r1 [D.str c.cr];show AG (pT M r1 (.lst [D.str c.cr]) k.p) _;generalize pT M r1 (.lst [D.str c.cr])=M1 at t1 l1 ⊢;refine pM (t1 _ _ h1) (i' Z' (i' (t1.lst h3) λr2 hr2=>?_));have t2:=qJ.new (c:=.lst (c.at_.map D.str)) hr2;refine i' (t2.lst l1) (i' pR ⟨?_,λr3 Zt=>⟨_,.refl,q r3 _ (t1.trans (t2.trans (.new Zt))) pR⟩⟩);rw[cW];show 1+c.at_.length<=Ch;lia
def Q8:Fq P w K mg base 1 a.bo (P4 a):=by
 refine fq G.bo.toDG Br (λr u=>⟨_,(pL (pS (ra Z' (yH (ix:=[Db,Fa 0,Fa 1]) (N':=["_law_k","_law_board","_law_states"])) (uK Z' G.J (qA (qm qP Z' G.g qL (qA (pQ v0))))) (qW 0) (vV (pW u (pQ (pV (pQ U1) v0)) U2)) v0))),?_⟩)
 rintro ds M Q ⟨A,V,l,YX,rfl,rd,q⟩
 have hz:=dP;have lc:((A.cs.map λk=>D.ref k.p).length:Int)=(V.calls.length:Nat):=by rw[cW,rd.bd.len]
 have hb:=rd.k;refine pM rd.bd.at_ (i' Z' (i' rd.bd.ca ?_));rw[lc];refine⟨Z',⟨by lia,by lia⟩,?_⟩;refine tP (f:=id) (t:=S0 V YX) trivial _ [] _ (by rw[cW,eA];simp only[dJ];lia) (λd hd k hk=>?_) (λd hd _ k hk=>?_) λr hr=>?_
 .obtain⟨i,hi,rfl⟩:=dF.mp hd;rw[fZ]at hi;have hi:i<V.calls.length:=by lia
  obtain⟨k',ek,⟨ad,md,h1,_⟩⟩:=rd.call (c9 hi);have ea:vY (A.cs.map λk=>D.ref k.p) (0+(i:Nat))=Fa (.ref k'.p):=by rw[gA];exact rL ek
  refine pM rd.bd.at_ (i' Z' (i' Z' (i' rd.bd.ca (i' ea (pM h1 (i' Z' (i' Z' ⟨Z',qN _,?_⟩)))))));show k (inD (.str V.calls[i].st) (YX.map D.str)) M;rw[tq];have e1:S0 V YX (.int (0+(i:Nat)))=hasS YX V.calls[i].st:=by show(V.calls[(0+(i:Int)).toNat]?).elim lf _=_;rw[show(0+(i:Int)).toNat=i by lia,c9 hi];rfl
  show k (hasS YX V.calls[i].st) M;rw[<-e1];exact hk
 .exact hk
 .refine⟨_,.refl,q r _ (.new hr) (pR.trans (eY Fa ?_))⟩;rw[d6,iL,gO,show(((V.calls.length:Nat):Int)).toNat=V.calls.length from rfl];unfold LU;have e1:(S0 V YX∘λi:Nat=>D.int (0+(i:Nat)))=λi=>(V.calls[i]?).elim lf λc=>hasS YX c.st:=funext λi=>by show(V.calls[(0+(i:Int)).toNat]?).elim lf _=_;rw[show(0+(i:Int)).toNat=i by lia]
  rw[e1];exact g9 λi _=>by rw[gA]
noncomputable def Hl:Str->QQQ:=λw=>if (w=="answer")=pc then["rings","waits"]else if (w=="hold")=pc then["talks"]else if (w=="hang")=pc then["rings","waits","talks","held"]else["held"]
def Tx(w:Str):Prop:=w="answer"\/w="hang"\/w="hold"\/w="back"\/w="hand"\/w="join"
def KZ(a:Ad):rO:=λds M Q=>HE λA V l c w=>ds=[.ref A.b,.int c,.str w,.tup ((Hl w).map D.str)]/\Rd a M A V l/\WF l V/\(∀k∈V.calls,k.at_.length<=100)/\Tx w/\∀M',qJ M M'->Q .mY M'/\∀e:uz,e.nI->Q e.d M'
def Nr{n:Nat}{a b:Uf}{ds:T0 D}(ha:pq M a=Fa ds)(hb:pq M b=Fa []):zK M (n+1) (.ref a) (.ref b)=Fa ds.isEmpty:=by
 show(pq M a).bind (λi=>(pq M b).bind λj=>if i.length=j.length then tG (zK M n) i j else Fa lf)=_;rw[ha,hb];cases ds with
 | nil=>rfl
 | cons x r=>rfl
def vo{α:Type}(f:α->D){xs:List α}(h:xs≠[])(c k:Int):(0:Int)<((xs.map f).length:Nat)/\∃x∈xs,vY (xs.map f) (draw c k ((xs.map f).length:Nat))=Fa (f x):=by
 have hp:(0:Int)<((xs.map f).length:Nat):=by have:=fG.mpr h;rw[cW];lia
 have d0:=rH (c:=c) (f:=k) hp;have d1:=rm (c:=c) (f:=k) hp;obtain⟨n,e⟩:=eG d0;rw[e]at d1 ⊢;have hn:n<xs.length:=by rw[cW]at d1;lia
 exact⟨hp,xs[n],ip hn,tU (by rw[dz,c9 hn];rfl)⟩
def TV{V:qB}{i:Nat}(h:i∈LU V YX):∃c,V.calls[i]?=Fa c/\c.st∈YX:=by
 have h:=(fC.mp h).2;cases e:V.calls[i]? with
 | none=>rw[e]at h;cases h
 | some c=>rw[e]at h;exact⟨c,Z',rE.mp h⟩
def Ee{c:pP}(k:wJ l lf c)(h:c.st≠"over"):BX c≠[]:=by
 unfold BX;split
 .rename_i g;rcases k.sh with z|⟨_,z|z|⟨_,z⟩|z⟩
  .rw[z.1]at g;exact absurd g (by decide)
  .rw[z.1]at g;exact absurd g (by decide)
  .intro y;rw[y]at z;rcases z.2.1 with u|u<;>cases u
  .intro y;rw[y]at z;cases z.2.1
  .exact absurd z.1 h
 .exact fP _ _
def U8{c:pP}(k:wJ l lf c)(h:c.st∈Hl "answer"):c.at_≠[]:=by
 have h:c.st="rings"\/c.st="waits":=by
  rcases dh.mp h with g|g
  .exact .inl g
  .exact .inr (dA.mp g)
 rcases k.sh with z|⟨_,z|z|⟨_,z⟩|z⟩
 .exact z.2.2.2.2.2 Z'
 .intro y;rw[y]at z;cases z.2.2.2.2
 all_goals(rw[z.1]at h;exact absurd h (by decide))
def Jr{c:pP}(k:wJ l lf c)(h:c.st="held"):∃x,c.hd=Fa x:=by
 rcases k.sh with z|⟨_,z|z|⟨x,z⟩|z⟩
 .rw[h]at z;exact absurd z.1 (by decide)
 .rw[h]at z;exact absurd z.1 (by decide)
 .rw[h]at z;exact absurd z.1 (by decide)
 .exact⟨x,z.2.2.1⟩
 .rw[h]at z;exact absurd z.1 (by decide)
def Ky:Fq P w K mg base 4 a.bp (KZ a):=by
 refine fq G.bp.toDG rV (λr u=>⟨_,(pK (qc 4 rV (pX (Q8 G) r G.bo (sH v0 U3)))
 (pK (qg (pW u U4 (qQ so))
 (pL (pS sL))
 pZ)
 (pK (qc 5 rV (pV U4 (pX (rc G) r G.i (rC U1 pN (qm qP Z' G.g qL (qA U4))))))
 (pK (qc 6 rV (pX (Li G) r G.bn (qA (pV (pQ v0) v5))))
 (pK (qg (pW u U2 pO)
 (pL (qc 6 rV (qK uj Z' G.y uh (qA (pQ (pV (pQ v0) v5))))))
 pZ)
 (pK (qg (W3.b3 (zR (pW u U2 pO) (zR (pW u U2 pO) (zb (pW u U2 pO)))))
 (pL (qc 6 rV (qQ (qA (pQ (pV (pQ v0) v5))))))
 pZ)
 (pK (qc 7 rV (pV v6 (pX (rc G) r G.i (rC U1 pN (qm qP Z' G.g qL (qA v6))))))
 (pK (qg (W3.b3 (zR (pW u U2 pO) (zb (pW u U2 pO))))
 (pK (qc 8 rV (qv v0 G.c.toCls G.M (xn G) r (qA v7)))
 (pL (pS (qd (qo U2 (rC v7 v5 (Rw (pW u v8 sL) pN v8)))))))
 pZ)
 (pL (pS (qd (rC U2 v7 v5)))))))))))),?_⟩)
 rintro ds M Q ⟨A,V,l,c,wd,rfl,rd,wf,ha,ho,q⟩
 have hz:=dP;refine⟨A,V,l,Hl wd,Z',rd,λr M1 s1 lr=>?_⟩;refine⟨pI Z',λr0 hr0=>?_⟩;have t2:=qJ.new (c:=.lst []) hr0;have lr2:=t2.lst lr;refine i' (Nr lr2 pR) ?_;have s2:=s1.trans t2;generalize pT M1 r0 (.lst [])=M2 at s2 lr2 ⊢;clear t2 lr hr0 s1;refine qU (c:=((LU V (Hl wd)).map λn=>D.int (n:Nat)).isEmpty) (λ_=>⟨M2,.refl,(q M2 s2).1⟩) (λg=>?_);have gne:LU V (Hl wd)≠[]:=λz=>g (by rw[z];rfl);obtain⟨hp,i,hi,ei⟩:=vo (λn:Nat=>D.int (n:Nat)) gne c 40692;obtain⟨cv,hc,hs⟩:=TV hi;have ZX:=rd.sub s2;obtain⟨k,ek,ca⟩:=ZX.call hc;have ca0:=ca;obtain⟨ad,md,h1,h2,h3,h4,_⟩:=ca0;have YU:=wf.ok i cv hc;refine i' lr2 ⟨c,_,_,Z',hp,i' lr2 (i' ei ?_)⟩;refine pM ZX.bd.at_ (i' Z' (i' Z' (i' ZX.bd.ca (i' (rL ek) ?_))));refine⟨_,k,cv,Z',ca,ha cv (qV hc),λr3 M3 s3 lr3=>?_⟩;have YA:=s3 _ _ h1;have q3:=λM' (s:qJ M3 M')=>q M' (s2.trans (s3.trans s));have rd3:=ZX.sub s3;have h3':=s3.lst h3;clear q lr2 s2 h1 h2 h3 h4 ca;rcases ho with rfl|rfl|rfl|rfl|rfl|rfl
 .
  refine pM rd3.bd.at_ (i' Z' (i' Z' (i' rd3.bd.ca (i' (rL ek) (pM YA (i' Z' (i' h3' λr4 hr4=>?_)))))));obtain⟨X4,x,hx,ex⟩:=vo D.str (U8 YU hs) c 742938285;refine i' pR ⟨c,_,_,Z',X4,i' pR (i' ex ?_)⟩;exact⟨pI Z',_,.refl,(q3 _ (.new hr4)).2 (.num "answer" x [(i:Nat)]) (.inl ⟨.inl Z',Z'⟩)⟩
 .
  obtain⟨X4,x,hx,ex⟩:=vo D.str (Ee YU (λz=>by rw[z]at hs;exact absurd hs (by decide))) c 742938285;refine i' lr3 ⟨c,_,_,Z',X4,i' lr3 (i' ex ?_)⟩;exact⟨pI Z',_,.refl,(q3 _ .refl).2 (.num "hang" x [(i:Nat)]) (.inl ⟨.inr (.inl Z'),Z'⟩)⟩
 .
  obtain⟨X4,x,hx,ex⟩:=vo D.str (Ee YU (λz=>by rw[z]at hs;exact absurd hs (by decide))) c 742938285;refine i' lr3 ⟨c,_,_,Z',X4,i' lr3 (i' ex ?_)⟩;exact⟨pI Z',_,.refl,(q3 _ .refl).2 (.num "hold" x [(i:Nat)]) (.inl ⟨.inr (.inr (.inl Z')),Z'⟩)⟩
 .
  obtain⟨y,hy⟩:=Jr YU (dA.mp hs);refine pM rd3.bd.at_ (i' Z' (i' Z' (i' rd3.bd.ca (i' (rL ek) (pM YA (i' Z' ⟨pI Z',λr4 hr4=>?_⟩))))));rw[show Hc cv.hd=.str y by rw[hy];rfl];obtain⟨X4,x,hx,ex⟩:=vo D.str (fP y []) c 742938285;refine i' pR ⟨c,_,_,Z',X4,i' pR (i' ex ?_)⟩;exact⟨pI Z',_,.refl,(q3 _ (.new hr4)).2 (.num "back" x [(i:Nat)]) (.inl ⟨.inr (.inr (.inr Z')),Z'⟩)⟩
 all_goals
  obtain⟨y,hy⟩:=Jr YU (dA.mp hs);refine pM rd3.bd.at_ (i' Z' (i' Z' (i' rd3.bd.ca (i' (rL ek) (pM YA (i' Z' ⟨pI Z',λr4 hr4=>?_⟩))))));rw[show Hc cv.hd=.str y by rw[hy];rfl];obtain⟨X4,x,hx,ex⟩:=vo D.str (fP y []) c 742938285;refine i' pR ⟨c,_,_,Z',X4,i' pR (i' ex ?_)⟩;have t4:=qJ.new (c:=.lst [D.str y]) hr4;refine pM (t4 _ _ rd3.bd.at_) ⟨Z',_,⟨Z',Z'⟩,A,V,x,Z',rd3.bd.sub t4,rd3.k,?_⟩;unfold yX;cases ux V x with
  | none=>first|exact⟨pI Z',_,.refl,(q3 _ t4).2 (.num "hand" x [(i:Nat),(0:Nat)]) (.inr ⟨.inl Z',Z'⟩)⟩|exact⟨pI Z',_,.refl,(q3 _ t4).2 (.num "join" x [(i:Nat),(0:Nat)]) (.inr ⟨.inr Z',Z'⟩)⟩
  | some j=>first|exact⟨pI Z',_,.refl,(q3 _ t4).2 (.num "hand" x [(i:Nat),(j:Nat)]) (.inr ⟨.inl Z',Z'⟩)⟩|exact⟨pI Z',_,.refl,(q3 _ t4).2 (.num "join" x [(i:Nat),(j:Nat)]) (.inr ⟨.inr Z',Z'⟩)⟩
def JC:rO:=λds M Q=>K0 λc o n own nm m=>ds=[.int c,.ref o,.ref n,.int ((m:Nat):Int)]/\pq M o=Fa (List.map D.str own)/\pq M n=Fa (List.map D.str nm)/\own.length<=100/\nm.length<=100/\m<=1000000/\∀M' (e:uz),qJ M M'->e.nI->Q e.d M'
def Ot(a:Ad):rO:=λds M Q=>OX λA V l c o n own nm=>ds=[.ref A.b,.int c,.ref o,.ref n]/\Rd a M A V l/\WF l V/\(∀k∈V.calls,k.at_.length<=100)/\pq M o=Fa (List.map D.str own)/\pq M n=Fa (List.map D.str nm)/\own≠[]/\nm≠[]/\own.length<=100/\nm.length<=100/\∀M' (e:uz),qJ M M'->e.nI->Q e.d M'
def Jm{α:Type}(f:α->D){xs:List α}(h:xs≠[]){m:Int}(hm:m=(xs.length:Nat))(c k:Int):(0:Int)<m/\∃x∈xs,vY (xs.map f) (draw c k m)=Fa (f x):=by have:=vo f h c k;rw[cW,<-hm]at this;exact this
def P0{α:Type}(xs:List α)(x:α):xs++[x]≠[]:=by simp
noncomputable def IK:QQQ:=["call","call","call","call","call","answer","answer","answer","answer","answer","hang","hang","hold","hold","hold","back","hand","join","turn","turn","turn"]
theorem Eo(d:D):∀n:Nat,(List.replicate n [d]).flatten=List.replicate n d
 | 0=>rfl
 | n+1=>by rw[eJ,fS,Eo d n,eJ];rfl
noncomputable def zz:Str:="zzzzzz"
noncomputable def Nx(a b:Str)(k m:Int):List uz:=[.call a b,.num "answer" a [k],.num "hang" a [k],.num "hold" a [k],.num "back" a [k],.num "hand" a [k,m],.num "join" a [k,m],.turn,.sw pc k,.sw lf k]
def MK{a b:Str}{k m:Int}{e:uz}(h:e∈Nx a b k m):e.nI:=by
 unfold Nx at h;simp only[dh,dG,eZ]at h;rcases h with rfl|rfl|rfl|rfl|rfl|rfl|rfl|rfl|rfl|rfl
 .trivial
 .exact .inl ⟨.inl Z',Z'⟩
 .exact .inl ⟨.inr (.inl Z'),Z'⟩
 .exact .inl ⟨.inr (.inr (.inl Z')),Z'⟩
 .exact .inl ⟨.inr (.inr (.inr Z')),Z'⟩
 .exact .inr ⟨.inl Z',Z'⟩
 .exact .inr ⟨.inr Z',Z'⟩
 .trivial
 .trivial
 .trivial
def OO:Fq P w K mg base 2 a.bq JC:=by
 refine fq G.bq.toDG vh (λr u=>⟨_,(pK (qc 4 vh (pV (qu U2 (qQ (qA pO))) (pX (rc G) r G.i (rC v0 pN (qu (qm qP Z' G.g qL (qA U2)) pN)))))
 (pK (qc 5 vh (pV (qu U2 (qQ (qA pO))) (pX (rc G) r G.i (rC v0 pN (qu (qm qP Z' G.g qL (qA U2)) pN)))))
 (pK (qc 6 vh (qu (pX (rc G) r G.i (rC v0 pN (qu U3 pN))) pN))
 (pK (qc 7 vh (qu (pX (rc G) r G.i (rC v0 pN (qu U3 pN))) pN))
 (pK (qc 8 vh (qQ (qo (qd (rC pO U4 v5)) (qo (qd (rC pO U4 v6)) (qo (qd (rC pO U4 v6)) (rC (qd (rC pO U4 v6)) (qd (rC pO U4 v6)) (qd (qo pO (rC U4 v6 v7)))))))))
 (pL (pS (pV (qu v8 (qQ (qo (qd (qo pO (rC U4 v6 v7))) (rC (qd (qA pO)) (qd (sH pO v6)) (qd (sH pO v6)))))) (pX (rc G) r G.i (rC v0 pN pN)))))))))),?_⟩)
 rintro ds M Q ⟨c,o,n,own,nm,m,rfl,ho,hn,ol,nl,ml,q⟩
 have hz:=dP;have add:∀{M1:Mp} {p:Uf} {xs:QQQ} (f:Int) (nx:DK),qJ M M1->pq M1 p=Fa (xs.map D.str)->xs.length<=100->(∀x M',qJ M M'->nx (.str x) M')->∀r1,M1 r1=Db->(pq (pT M1 r1 (.lst [D.str zz])) p).elim False λi=>(pq (pT M1 r1 (.lst [D.str zz])) r1).elim False λj=>i.length+j.length<=Ch/\∀r2,pT M1 r1 (.lst [D.str zz]) r2=Db->(pq (pT (pT M1 r1 (.lst [D.str zz])) r2 (.lst (i++j))) p).elim False λys=>JG [.int c,.int f,.int ((ys.length:Nat)+1)] (pT (pT M1 r1 (.lst [D.str zz])) r2 (.lst (i++j))) λy M2=>match y with
  | .int n=>(pq M2 r2).elim False λzs=>(vY zs n).elim False λd=>nx d M2
  | _=>False:=λ{M1 p xs} f nx s hx lx XX r1 Yn=>by
  have t1:=qJ.new (c:=.lst [D.str zz]) Yn;refine i' (t1.lst hx) (i' pR ⟨by rw[cW];show xs.length+1<=Ch;lia,λr2 hr2=>?_⟩);have t2:=qJ.new (c:=.lst (xs.map D.str++[D.str zz])) hr2;obtain⟨hp,x,_,ex⟩:=Jm D.str (P0 xs zz) (m:=((xs.map D.str).length:Nat)+1) (by rw[cW,cZ];rfl) c f;rw[dM]at ex;exact i' ((t1.trans t2).lst hx) ⟨c,f,_,Z',hp,i' pR (i' ex (XX x _ (s.trans (t1.trans t2))))⟩
 refine⟨pI Z',add 16807 _ .refl hn nl λx M1 s1=>⟨pI Z',add 39373 _ s1 (s1.lst hn) nl λy M2 s2=>?_⟩⟩;refine⟨c,_,_,Z',by show(0:Int)<(m:Nat)+2;lia,⟨c,_,_,Z',by show(0:Int)<(m:Nat)+2;lia,?_⟩⟩;generalize draw c 69621 ((m:Nat)+2) - 1=k0;refine⟨pI Z',pI Z',pI Z',pI Z',pI Z',pI Z',pI Z',λr8 hr8=>⟨pI Z',pI Z',pI Z',pI Z',pI Z',λr9 hr9=>?_⟩⟩;have t8:=qJ.new (c:=.lst (((Nx x y k0 (draw c 22695477 ((m:Nat)+2) - 1)).take 6).map uz.d)) hr8;have t9:=qJ.new (c:=.lst (((Nx x y k0 (draw c 22695477 ((m:Nat)+2) - 1)).drop 6).map uz.d)) hr9;refine i' (t9.lst pR) (i' pR ⟨by show 6+4<=Ch;lia,λr10 hr10=>?_⟩);obtain⟨hp,e,he,ee⟩:=Jm uz.d (xs:=Nx x y k0 (draw c 22695477 ((m:Nat)+2) - 1)) (fP _ _) (m:=10) Z' c 1664525;exact⟨c,_,_,Z',hp,i' pR (i' ee ⟨_,.refl,q _ e (s2.trans (t8.trans (t9.trans (.new hr10)))) (MK he)⟩)⟩
def MZ:Fq P w K mg base 5 a.br (Ot a):=by
 refine fq G.br.toDG rW (λr u=>⟨_,(pK (qc 4 rW (qu (qu (qu (qu (qu (C4 (qQ (qA pO)) pN) (C4 (qQ (qA pO)) pN)) (C4 (qQ (qA pO)) pN)) (C4 (qQ (qA pO)) pN)) (qQ (rC pO pO pO))) (C4 (qQ (qA pO)) pN)))
 (pK (qc 4 rW (pV U4 (pX (rc G) r G.i (rC U1 pN (qm qP Z' G.g qL (qA U4))))))
 (pK (qc 5 rW (qd (qo pO (rC pO pO pO))))
 (pK (qg (pW u U4 pO)
 (pL (qc 5 rW (qd (sH pO pO))))
 pZ)
 (pK (qg (pW u U4 pO)
 (pL (qc 5 rW (qd (qA pO))))
 pZ)
 (pK (qg (W3.b3 (zR (pW u U4 pO) (zR (pW u U4 pO) (zb (pW u U4 pO)))))
 (pL (qc 5 rW (qd (qA pO))))
 pZ)
 (pK (qg (pW u U4 pO)
 (pL (pS (qd (qA pO))))
 pZ)
 (pK (qg (pW u (pX (rc G) r G.i (rC U1 pN pN)) pN)
 (pL (pS (pX (OO G) r G.bq (qo U1 (rC U2 U3 (qm qP Z' G.g qL (qA (pQ v0))))))))
 pZ)
 (pK (qc 6 rW sL)
 (pK (qg (pW u U4 pO)
 (pL (qc 6 rW (pX (Ky G) r G.bp (qo v0 (rC U1 U4 v5)))))
 pZ)
 (pK (qg (pW u v6 sL)
 (pK (qc 7 rW (pV U2 (pX (rc G) r G.i (rC U1 pN (qm qP Z' G.g qL (qA U2))))))
 (pL (qc 6 rW (qd (rC pO v7 (pV U3 (pX (rc G) r G.i (rC U1 pN (qm qP Z' G.g qL (qA U3))))))))))
 pZ)
 (pL (pS v6))))))))))))),?_⟩)
 rintro ds M Q ⟨A,V,l,c,o,n,own,nm,rfl,rd,wf,ha,ho,hn,one,nne,ol,nl,q⟩
 have hz:=dP;refine Rq (t:=Hi _ _) (λU M'=>qJ M M'/\∃r,pq M' r=Fa (IK.map D.str)/\U=[Fa (.ref A.b),Fa (.int c),Fa (.ref o),Fa (.ref n),Fa (.ref r),Db,Db,Db]) (λnx h=>?_) ?_
 .have ZL:∀{N:Mp} {U:vO} (w0:Str) (m:Int) (nx:DK),qJ M N->(0<=m/\m<=10)->(∀r N',qJ M N'->qJ N N'->pq N' r=Fa ((List.replicate m.toNat w0).map D.str)->nx (.ref r) N')->UO (U5 (we (L3.c3 (.str w0)) yA)) (L3.c3 (.int m)) U N nx:=λ{N U} w0 m nx sn hm XX=>by refine⟨pI Z',λr1 Yn=>?_⟩;refine i' pR ⟨⟨by lia,by lia,by show 1<=1000;decide⟩,λr2 hr2=>?_⟩;have t:=(qJ.new (c:=.lst [D.str w0]) Yn).trans (qJ.new (c:=.lst (List.replicate m.toNat [D.str w0]).flatten) hr2);refine XX r2 _ (sn.trans t) t (pR.trans (eY Fa ?_));rw[List.map_replicate];exact Eo _ _
  have YY:∀{N:Mp} {p r:Uf} {xs ys:QQQ} (nx:DK),qJ M N->pq N p=Fa (xs.map D.str)->pq N r=Fa (ys.map D.str)->xs.length+ys.length<=100->(∀r N',qJ M N'->pq N' r=Fa ((xs++ys).map D.str)->nx (.ref r) N')->Wd .Add (.ref p) (.ref r) N nx:=λ{N p r xs ys} nx sn hx hy hl XX=>by refine i' hx (i' hy ⟨by rw[cW,cW];lia,λr2 hr2=>?_⟩);refine XX r2 _ (sn.trans (.new hr2)) (pR.trans (eY Fa ?_));rw[dM]
  dsimp only[Hi,o3];refine ZL "call" 5 _ .refl (by decide) λp1 N1 s1 _ l1=>ZL "answer" 5 _ s1 (by decide) λq2 N2 s2 t2 l2=>YY _ s2 (t2.lst l1) l2 (by decide) λp2 N3 s3 l3=>ZL "hang" 2 _ s3 (by decide) λq4 N4 s4 t4 l4=>YY _ s4 (t4.lst l3) l4 (by decide) λp5 N5 s5 l5=>ZL "hold" 3 _ s5 (by decide) λq6 N6 s6 t6 l6=>YY _ s6 (t6.lst l5) l6 (by decide) λp7 N7 s7 l7=>⟨pI Z',λr8 hr8=>?_⟩;have t8:=qJ.new (c:=.lst ((["back","hand","join"]:QQQ).map D.str)) hr8;exact YY (ys:=["back","hand","join"]) _ (s7.trans t8) (t8.lst l7) pR (by decide) λp9 N9 s9 l9=>ZL "turn" 3 _ s9 (by decide) λq10 N10 s10 t10 l10=>YY _ s10 (t10.lst l9) l10 (by decide) λp11 N11 s11 l11=>h _ _ ⟨s11,p11,l11,Z'⟩
 rintro U M1 ⟨s1,r,lr,rfl⟩
 have s1n:=s1.lst hn;have s1o:=s1.lst ho;obtain⟨hp,w0,hw,ew⟩:=vo D.str (show IK≠[]from fP _ _) c 48271;refine i' lr ⟨c,_,_,Z',hp,i' lr (i' ew ?_)⟩;obtain⟨ZT,x1,hx1,ex1⟩:=vo D.str one c 16807;obtain⟨X4,x2,hx2,ex2⟩:=vo D.str nne c 39373;have ZJ:=rd.sub s1;have lc:((A.cs.map λk=>D.ref k.p).length:Int)=(V.calls.length:Nat):=by rw[cW,rd.bd.len]
 clear lr hp ew;have hw:w0="call"\/w0="turn"\/Tx w0:=by unfold IK at hw;simp only[dh,dG,eZ]at hw;unfold Tx;rcases hw with h|h|h|h|h|h|h|h|h|h|h|h|h|h|h|h|h|h|h|h|h<;>simp[h]
 have XT:∀M' (e:uz),qJ M1 M'->e.nI->∃XU,qJ XU M'/\Q e.d XU:=λM' e s f=>⟨M',.refl,q M' e (s1.trans s) f⟩;rcases hw with rfl|rfl|hw
 .refine⟨pI Z',c,_,_,Z',by decide,qU (c:=draw c 950706376 9==0) (λ_=>pM ZJ.bd.at_ (i' Z' (i' ZJ.bd.ca ?_))) (λ_=>?_)⟩
  .rw[lc];exact⟨c,o,n,own,nm,V.calls.length,Z',s1o,s1n,ol,nl,rd.k,XT⟩
  exact i' s1o ⟨c,_,_,Z',ZT,i' s1o (i' ex1 (i' s1n ⟨c,_,_,Z',X4,i' s1n (i' ex2 ⟨pI Z',XT M1 (.call x1 x2) .refl trivial⟩)⟩))⟩
 .exact⟨pI Z',pI Z',XT M1 .turn .refl trivial⟩
 have lany:JC [.int c,.ref o,.ref n,.int ((V.calls.length:Nat):Int)] M1 λd M'=>∃XU,qJ XU M'/\Q d XU:=⟨c,o,n,own,nm,V.calls.length,Z',s1o,s1n,ol,nl,rd.k,XT⟩;have hw':=hw;rcases hw with rfl|rfl|rfl|rfl|rfl|rfl
 all_goals
  first
   | refine⟨pI rfl,pI rfl,c,_,_,rfl,by decide,qU (c:=draw c 950706376 9==0) (λ_=>pM ZJ.bd.at_ (i' rfl (i' ZJ.bd.ca ?_))) (λ_=>⟨A,V,l,c,_,rfl,ZJ,wf,ha,hw',λM' s=>⟨?_,λe f=>?_⟩⟩)⟩
   | refine⟨pI rfl,c,_,_,rfl,by decide,qU (c:=draw c 950706376 9==0) (λ_=>pM ZJ.bd.at_ (i' rfl (i' ZJ.bd.ca ?_))) (λ_=>⟨A,V,l,c,_,rfl,ZJ,wf,ha,hw',λM' s=>⟨?_,λe f=>?_⟩⟩)⟩
  .rw[lc];exact lany
  .exact i' (s.lst s1o) ⟨c,_,_,Z',ZT,i' (s.lst s1o) (i' ex1 (i' (s.lst s1n) ⟨c,_,_,Z',X4,i' (s.lst s1n) (i' ex2 ⟨pI Z',XT M' (.call x1 x2) s trivial⟩)⟩))⟩
  .cases e with
   | call y z=>exact XT M' (.call y z) s f
   | num v y ns=>exact XT M' (.num v y ns) s f
   | turn=>exact XT M' .turn s f
   | sw b i=>exact XT M' (.sw b i) s f
theorem JU:∀(n:Nat) (d:D),wj n d=pc->wj (n+1) d=pc
 | 0,d,h=>by
  cases d with
  | tup ds=>cases h
  | ref _=>cases h
  | ty _=>cases h
  | rl _=>cases h
  | _=>rfl
 | n+1,d,h=>by
  cases d with
  | tup ds=>exact eS.mpr λd hd=>JU n d (eS.mp (show ds.all (wj n)=pc from h) d hd)
  | ref _=>cases h
  | ty _=>cases h
  | rl _=>cases h
  | _=>rfl
noncomputable def xb(A:sA)(M:Mp):Mp:=λx=>if x∈A.foot then Db else M x
def wH{A:sA}{x:Uf}{ds:T0 D}(h:pq M x=Fa ds)(n:x∉A.foot):pq (xb A M) x=Fa ds:=rR (by unfold xb;rw[de n];exact ql h)
structure Lp(a:Ad)(M0 N M:Mp)(b:Uf)(A:sA)(V:qB)(l:pU)(m:Nat):Prop where
 cu:tw a M0 M b A V l (1+m) (3+2200*m)
 wf:WF l V
 ps:V.ps.length<=3
 own:∀x c,N x=Fa c->M x=Fa c/\x∉A.foot
variable {N:Mp}{m:Nat}
def Lp.start{b p:Uf}{A:sA}(ok:sf l)(pl:sY a M0 p l)(hb:M0 b=Db)(eb:A.b=b)(kp:sy b (pT M0 b (.ins a.c [])) M)(fr:∀x∈A.foot,x=b\/pT M0 b (.ins a.c []) x=Db)(bd:qa a M A (V0 p h l [])):tw a M0 M b A (V0 p h l []) l 1 3/\WF l (V0 p h l [])/\(V0 p h l []).ps.length<=3:=by
 have t:=qJ.new (c:=.ins a.c []) hb;refine⟨⟨bd,pl,λx c e=>kp x c (OJ e hb) (t x c e),λx hx=>?_,eb,⟨eE _,eE _,eE _,EB ok,λk hk=>by cases hk⟩,ok,cW ..⟩,Tp ok,EB ok⟩;rcases fr x hx with z|z
 .rw[z];exact hb
 .exact t.none z
def Ib{m:Int}(h2:2<=m)(h:m<=100):2<=(xg ns m).mV.length:=by have:=(xE (s:=cell ns 0) h2 h).2;show 2<=((List.range (rX (cell ns 0) m)).map _).length;rw[cW,eA];exact this
def RE(ns:T0 Int):Int:=draw (cell ns 0) 22695477 24
def Tq(a:Ad):rO:=λds M Q=>CP λns m=>ds=[.rl (List.map D.int ns),.int m]/\2<=m/\m<=8/\∀M0 M' A p,qJ M M0->(∀N,(∀x c,M x=Db->M0 x=Fa c->N x=Fa c)->sY a N p (xg ns m))->tw a M0 M' A.b A (V0 p (RE ns) (xg ns m) []) (xg ns m) 1 3->Q (.ref A.b) M'
def La(a:Ad):rO:=λds M Q=>Ea λA V l=>ds=[.ref (sA.b A)]/\Rd a M A V l/\∀M' r ro rn,qJ M M'->M ro=Db->M rn=Db->pq M' r=Fa [.ref ro,.ref rn]->pq M' ro=Fa (l.pn.map D.str)->pq M' rn=Fa (l.nm.map D.str)->Q (.ref r) M'
def Mm:Fq P w K mg base 10 a.aj (Tq a):=by
 refine fq G.aj.toDG wC (λr u=>⟨_,(pK (E1 (pX (GG G) r G.ai (sH v0 U1)) (uX (n:=3) Z' (qE (rq 2 wC) (qE (rq 3 wC) (qE (rq 4 wC) tK)))))
 (pL (pS (wc (MI G) r G.c G.b8 G.al.toDG (sH (wc (Qk G) r G.h G.b9 G.am.toDG (rC U2 U3 U4)) (pX (rc G) r G.i (rC (pX (Nt G) r G.R (sH v0 pN)) pN pN))))))),?_⟩)
 rintro ds M Q ⟨ns,m,rfl,h2,h8,q⟩
 have ok:sf (xg ns m):=QM h2 h8;refine⟨ns,m,Z',h2,h8,λr1 r2 r3 M1 s1 e1 e2 e3 _=>⟨Z',?_⟩⟩;generalize xg ns m=l at e1 e2 e3 ok q;refine λp hp=>?_;have t2:=qJ.new (c:=.ins a.h []) hp;refine⟨p,r1,r2,r3,l,Z',qh,t2.lst e1,t2.lst e2,t2.lst e3,ok,λM2 kp pa pf=>⟨Z',?_⟩⟩;have s2:qJ M1 M2:=λx c e=>kp x c (OJ e hp) (t2 x c e);refine⟨ns,0,Z',_,_,_,Z',by decide,λb hb=>?_⟩;have t5:=qJ.new (c:=.ins a.c []) hb;have npb:p≠b:=λz=>by obtain⟨ph,gr,ws,Zh,pr,gd,rs,i1,_⟩:=pa;rw[z,hb]at i1;cases i1
 refine⟨b,p,_,[],l,Z',qh,pa.sub t5,ok,npb,(λx hx=>by cases hx),λM5 A eb kp fr bd=>⟨Z',M5,.refl,?_⟩⟩;obtain⟨cu,_⟩:=Lp.start ok pa hb eb kp fr bd;subst eb;exact q M2 M5 A p (s1.trans s2) (λN H=>pf N λx c hx e=>H x c (hx.elim (λz=>by rw[z];exact s1.none hp) λz=>s1.none (t2.none z)) e) cu
def KW:Fq P w K mg base 1 a.bs (La a):=by
 refine fq G.bs.toDG zV (λr u=>⟨_,(pK (vP (i:=1) zV.nd Z' (Or.inl Z') Z' (yH (ix:=[Db]) (N':=["_law_phone"])) (qZ (pQ (pQ v0))) (qW 0) sD (pV v0 pN))
 (pL (pS (qQ (sH U1 (qu U1 (ra Z' (yH (ix:=[Db]) (N':=["_law_group"])) (qZ (pQ (pQ v0))) (qW 0) sD (pV v0 pN)))))))),?_⟩)
 rintro ds M Q ⟨A,V,l,rfl,rd,q⟩
 have hz:=dP;have p8:=rd.ok.p8;have g3:=rd.ok.g3;have pl:l.pn.length=l.mV.length:=cW ..;obtain⟨ph,gr,ws,Zh,pr,gd,rs,i1,i2,i3,_⟩:=rd.pl;refine pM rd.bd.at_ (i' Z' (pM i1 (i' Z' (i' i2 (rM (f:=BL) i2 _ [] _ (by rw[cW];simp only[dJ];lia) (λd hd k hk=>?_) λro hro=>?_)))))
 .obtain⟨x,_,rfl⟩:=dF.mp hd;exact hk
 rw[d6,xw];have t3:=qJ.new (c:=.lst ((l.mV.map (·.1)).map D.str)) hro;have lo:pq (pT M ro (.lst ((l.mV.map (·.1)).map D.str))) ro=Fa (l.pn.map D.str):=pR;show AG (pT M ro (.lst ((l.mV.map (·.1)).map D.str)) A.b) _;generalize pT M ro (.lst ((l.mV.map (·.1)).map D.str))=M3 at lo t3 ⊢;refine pM (t3 _ _ rd.bd.at_) (i' Z' (pM (t3 _ _ i1) (i' Z' (i' (t3.lst i3) (rM (f:=BL) (t3.lst i3) _ [] _ (by rw[cW];simp only[dJ];lia) (λd hd k hk=>?_) λp hp=>?_)))))
 .obtain⟨x,_,rfl⟩:=dF.mp hd;exact hk
 rw[d6,xo];have t:=qJ.new (c:=.lst ((l.groups.map (·.1)).map D.str)) hp;refine i' (t.lst lo) (i' pR ⟨by rw[cW,cW,cW];lia,λrn hrn=>⟨pI Z',λr hr=>?_⟩⟩);have t2:=t.trans (.new (c:=.lst (l.pn.map D.str++(l.groups.map (·.1)).map D.str)) hrn);have t3':=t2.trans (.new (c:=.lst [D.ref ro,.ref rn]) hr);refine⟨_,.refl,q _ r ro rn (t3.trans t3') hro ((t3.trans t).none hrn) pR (t3'.lst lo) ((qJ.new hr).lst ?_)⟩;rw[pR,<-dM];rfl
def Nv{V:qB}{p:Uf}{F:QXQ}(h:WF l V):WF l (V.at_ p F):=⟨h.ok,h.un,h.ln,h.wt,h.nx⟩
theorem zq:∀(es:T0 Ev) (V:qB),(qI V es).fo=V.fo
 | [],_=>rfl
 | e::r,V=>(zq r _).trans (I0 V e)
def JF{x:Uf}{c:uG}(e:xb A M x=Fa c):M x=Fa c/\x∉A.foot:=by
 unfold xb at e;split at e
 .cases e
 .rename_i h;exact⟨e,h⟩
def Az{A:sA}{M:Mp}{x:Uf}{c:uG}(e:M x=Fa c)(n:x∉A.foot):xb A M x=Fa c:=(de n).trans e
def CY{A:sA}{x:Uf}(n:x∈A.foot):xb A M x=Db:=dg n
def Vy{p:Uf}{F F':QXQ}(bd:qa a M A (V0 p h l F))(hF:∀x∈F',∃c,M x=Fa c):qa a M A (V0 p h l F'):=
 ⟨bd.at_,bd.ca,bd.le,bd.nx,bd.on,bd.lo,bd.len,λi k c e1 e2=>by simp[V0]at e2,bd.nl,bd.np,hF⟩
def qa.oK{V:qB}(h:qa a M A V)(st:rh A1 M A2 M')(h1:∀x∈A1.foot,x∉A.foot)(h2:V.fo=A1.foot)(h3:∀x∈A2.foot,∃c,M' x=Fa c):qa a M' A (V.at_ V.p A2.foot):=by
 have b:=h.frame st h1 λx hx=>.inl (h2 ▸ hx);refine⟨b.at_,b.ca,b.le,b.nx,b.on,b.lo,b.len,λi k c e1 e2=>?_,b.nl,b.np,h3⟩;obtain⟨ad,md,g1,g2,g3,g4,g5,g6⟩:=h.cs i k c e1 e2;obtain⟨f1,f2,f3,f4,f5,f6,f7⟩:=A.ng;have no:∀{x:Uf} {ds:T0 D},x∉A.lists++V.fo->pq M x=Fa ds->pq M' x=Fa ds/\x∉A.lists++A2.foot:=λ{x ds} hx e=>by
  have n1:x∉A1.foot:=λz=>hx (eh _ (h2 ▸ z));refine⟨rR (st.1 x _ n1 (ql e)),λz=>?_⟩;rcases dU.mp z with z|z
  .exact hx (eP _ z)
  .rcases st.2.1 x z with y|y
   .exact n1 y
   .rw[ql e]at y;cases y
 have hf:∀x∈A.foot,∀c,M x=Fa c->M' x=Fa c:=λx hx c e=>st.1 x c (λz=>h1 x z hx) e;exact⟨ad,md,hf _ (f6 k (qV e1)) _ g1,rR (hf _ (f7 k (qV e1)) _ (ql g2)),(no g5 g3).1,(no g6 g4).1,(no g5 g3).2,(no g6 g4).2⟩
structure Tw(a:Ad)(N M:Mp)(b:Uf)(A:sA)(V:qB)(l:pU)(c n:Nat)(b2:Uf)(A2:sA)(V2:qB)(l2:pU)(c2 n2:Nat):Prop where
 x:tw a N M b A V l c n
 y:tw a N M b2 A2 V2 l2 c2 n2
 f:V.fo=A2.foot
 g:V2.fo=A.foot
 ne:∀x∈A.foot,x∉A2.foot
variable {b2:Uf}{A2:sA}{V2:qB}{l2:pU}{c' n' c2 n2:Nat}
section
variable {c:Nat}
def Tw.swap(t:Tw a N M b A V l c n b2 A2 V2 l2 c2 n2):Tw a N M b2 A2 V2 l2 c2 n2 b A V l c n:=⟨t.y,t.x,t.g,t.f,λx h z=>t.ne x z h⟩
def Tw.sub(t:Tw a N M b A V l c n b2 A2 V2 l2 c2 n2)(s:qJ M M'):Tw a N M' b A V l c n b2 A2 V2 l2 c2 n2:=⟨t.x.sub s,t.y.sub s,t.f,t.g,t.ne⟩
def Tw.one(t:Tw a N M b A V l c n b2 A2 V2 l2 c2 n2)(st:rh A M A' M')(cu:tw a N M' b A' V' l c' n')(hf:V'.fo=V.fo):Tw a N M' b A' V' l c' n' b2 A2 (V2.at_ V2.p A'.foot) l2 c2 n2:=by
 have dm:=cu.bd.oY.2;refine⟨cu,⟨t.y.bd.oK st t.ne t.g dm,t.y.oz,cu.s0,t.y.fr,t.y.b,⟨t.y.sz.lo,t.y.sz.le,t.y.sz.ca,t.y.sz.ps,t.y.sz.cs⟩,t.y.ok,t.y.on⟩,hf.trans t.f,Z',λx h z=>?_⟩;rcases st.2.1 x h with y|y
 .exact t.ne x y z
 .exact t.y.bd.nu y z
def Tw.mono(t:Tw a N M b A V l c n b2 A2 V2 l2 c2 n2){c3 n3 c4 n4:Nat}(h1:c<=c3)(h2:n<=n3)(h3:c2<=c4)(h4:n2<=n4):Tw a N M b A V l c3 n3 b2 A2 V2 l2 c4 n4:=⟨t.x.mono h1 h2,t.y.mono h3 h4,t.f,t.g,t.ne⟩
end
def qa.refo{V:qB}{F:QXQ}(h:qa a M A V)(s:qJ M M')(hn:∀x∈F,M x=Db)(hF:∀x∈F,∃c,M' x=Fa c):qa a M' A (V.at_ V.p F):=by
 have b:=h.sub s;refine⟨b.at_,b.ca,b.le,b.nx,b.on,b.lo,b.len,λi k c e1 e2=>?_,b.nl,b.np,hF⟩;obtain⟨ad,md,g1,g2,g3,g4,g5,g6⟩:=h.cs i k c e1 e2;have no:∀{x:Uf} {ds:T0 D},x∉A.lists++V.fo->pq M x=Fa ds->x∉A.lists++F:=λ{x ds} hx e z=>by
  rcases dU.mp z with z|z
  .exact hx (eP _ z)
  .have:=hn x z;rw[ql e]at this;cases this
 exact⟨ad,md,s _ _ g1,s.lst g2,s.lst g3,s.lst g4,no g5 g3,no g6 g4⟩
def Tw.join{M01 M1 M3 M02 M4 M2 M:Mp}{V V2:qB}{c n d k:Nat}(c1:tw a M01 M1 b A V l c n)(s1:qJ M1 M3)(s2:qJ M3 M02)(pf:∀N,(∀x c,M3 x=Db->M02 x=Fa c->N x=Fa c)->sY a N V2.p l2)(s4:qJ M02 M4)(c2:tw a M4 M2 b2 A2 V2 l2 d k)(s3:qJ M2 M)(hf:V2.fo=A.foot):Tw a (xb A2 (xb A M)) M b A (V.at_ V.p A2.foot) l c n b2 A2 V2 l2 d k:=by
 have d1:∀x∈A.foot,∃c,M3 x=Fa c:=λx hx=>by obtain⟨c,e⟩:=c1.bd.oY.2 x hx;exact⟨c,s1 x c e⟩
 have s24:=s2.trans s4;have ne:∀x∈A.foot,x∉A2.foot:=λx hx z=>by obtain⟨c,e⟩:=d1 x hx;have:=c2.fr x z;rw[s24 x c e]at this;cases this
 have s23:=c2.s0.trans s3;have s14:=s1.trans s24;have sM:=s14.trans s23;have k1:qJ M01 (xb A2 (xb A M)):=λx c e=>by
  have e1:=c1.s0 x c e;refine Az (Az (sM x c e1) λz=>?_) λz=>?_
  .rw[c1.fr x z]at e;cases e
  .have:=c2.fr x z;rw[s14 _ _ e1]at this;cases this
 have k2:sY a (xb A2 (xb A M)) V2.p l2:=pf _ λx c e1 e2=>Az (Az (s23 x c (s4 x c e2)) λz=>by
  obtain⟨d,e⟩:=d1 x z;rw[e1]at e;cases e) λz=>by have:=c2.fr x z;rw[s4 x c e2]at this;cases this
 have k3:qJ (xb A2 (xb A M)) M:=λx c e=>(JF (JF e).1).1;have d2:∀x∈A2.foot,∃c,M x=Fa c:=λx hx=>by obtain⟨c,e⟩:=c2.bd.oY.2 x hx;exact⟨c,s3 x c e⟩
 refine⟨⟨c1.bd.refo sM (λx hx=>s14.none (c2.fr x hx)) d2,c1.oz.sub k1,k3,λx hx=>?_,c1.b,⟨c1.sz.lo,c1.sz.le,c1.sz.ca,c1.sz.ps,c1.sz.cs⟩,c1.ok,c1.on⟩,⟨c2.bd.sub s3,k2,k3,λx hx=>CY hx,c2.b,c2.sz,c2.ok,c2.on⟩,Z',hf,ne⟩;by_cases z:x∈A2.foot
 .exact CY z
 .exact(de z).trans (CY hx)
def Tw.start{M01 M1 M3 M02 M2 M:Mp}{b b2 p p2:Uf}(c1:tw a M01 M1 b A (V0 p h l []) l 1 3)(s1:qJ M1 M3)(s2:qJ M3 M02)(pf:∀N,(∀x c,M3 x=Db->M02 x=Fa c->N x=Fa c)->sY a N p2 l2)(c2:tw a M02 M2 b2 A2 (V0 p2 h l2 []) l2 1 3)(s3:qJ M2 M):Tw a (xb A2 (xb A M)) M b A (V0 p h l A2.foot) l 1 3 b2 A2 (V0 p2 h l2 A.foot) l2 1 3:=
 Tw.join (V2:=V0 p2 h l2 A.foot) c1 s1 s2 pf .refl ⟨Vy c2.bd (λx hx=>by
  obtain⟨c,e⟩:=c1.bd.oY.2 x hx;exact⟨c,c2.s0 x c (s2 x c (s1 x c e))⟩),c2.oz,c2.s0,c2.fr,c2.b,⟨c2.sz.lo,c2.sz.le,c2.sz.ca,c2.sz.ps,c2.sz.cs⟩,c2.ok,c2.on⟩ s3 Z'
variable {p:Uf}{F:QXQ}
def Rh{c z:Str}:zO l (V.at_ p F) c z=zO l V c z:=by
 have h:Ap l (V.at_ p F) c z=Ap l V c z:=funext λw=>by cases w<;>rfl
 unfold zO;rw[h];rfl
theorem Gz{c:Str}:∀(n:Nat) (z:Str) (way:QQQ) (st:sO),vw l (V.at_ p F) c n z way st=vw l V c n z way st
 | 0,_,_,_=>rfl
 | n+1,z,way,st=>by unfold vw;rw[Rh];simp only[Gz n];rfl
def Rm:uQ l (V.at_ p F) i=uQ l V i:=by
 unfold uQ tM;simp only[Gz];have h:∀e,sF l (V.at_ p F) i e=sF l V i e:=λe=>by cases e<;>rfl
 simp only[h];rfl
def QB:sr l (V.at_ p F) i fs=sr l V i fs:=by
 unfold sr;split
 .dsimp only;rw[xx,Rm]
 .rfl
def SJ:wq l (V.at_ p F) i=wq l V i:=rfl
theorem Fk:∀(is:T0 Nat) (V:qB),qD l is (V.at_ p F)=qD l is V
 | [],_=>rfl
 | i::r,V=>by unfold qD;rw[SJ,QB,xx,Fk r]
def VC(e:uz):uc l (V.at_ p F) e=uc l V e:=by
 cases e with
 | call y z=>show yF l (V.at_ p F) y z=yF l V y z;unfold yF;dsimp only;rw[xx,Rm];rfl
 | num w x ns=>
  match ns with
  | []=>rfl
  | [_]=>rfl
  | [_,_]=>rfl
  | _::_::_::_=>rfl
 | turn=>show tR l (V.at_ p F)=tR l V;unfold tR;rw[BW,Fk];rfl
 | sw b i=>rfl
def Km(l:pU)(V:qB)(i:Nat)(c:Str):vM->T0 Ev
 | .breaks z=>(ux V z).elim [] λj=>[.merge i j ((V.calls[j]?).elim [] (·.ms)++[c])]
 | e=>sF l V i e
def RJ(l:pU)(V:qB)(i:Nat)(c:Str)(r:vM×sO):T0 Ev:=qY i Db r.2++(sm i r.2 r.1++Km l V i c r.1)
theorem Jz{α:Type}(f:α->Str):∀{xs:List α} {x:α},(xs.map f).Nodup->x∈xs->xs.find? (λy=>decide (f y=f x))=Fa x
 | y::r,x,nd,h=>by
  rw[dY,dW]at nd;rcases dh.mp h with rfl|h
  .rw[List.find?_cons_of_pos (by simp)]
  .rw[List.find?_cons_of_neg (by
    simp only[eF];exact λz=>nd.1 (dF.mpr ⟨x,h,z.symm⟩)),Jz f nd.2 h]
def On(a:Ad):rO:=λds M Q=>Ry λA V l (i:Nat) z x ps=>ds=[.ref (sA.b A),.int i,.str z,names (x::ps)]/\Rd a M A V l/\x∈l.mS z/\∀r M',qJ M M'->pq M' r=Fa ((sF l V i (.rings z (x::ps))).map Ev.d)->Q (.ref r) M'
def Qq(a:Ad):rO:=λds M Q=>OX λA V l (i:Nat) c e st q=>ds=[.ref (sA.b A),.int i,.str c,vM.d e,.ref q]/\Rd a M A V l/\pq M q=Fa (qX st)/\Em l V c e/\V.calls.length<=1000000/\∀r M',qJ M M'->pq M' r=Fa ((sm i st e++Km l V i c e).map Ev.d)->Q (.ref r) M'
def Lk(a:Ad):rO:=λds M Q=>OX λA V l (i:Nat) c z r way=>ds=[.ref (sA.b A),.int i,.str c,.str z,.ref r]/\Rd a M A V l/\u9 l V/\z∈l.nm/\(∀x∈way,x∈l.nm)/\pq M r=Fa (List.map D.str way)/\way.length<=800000/\V.calls.length<=1000000/\((RJ l V i c (tM l V c z way)).length<=100->∀q M',qJ M M'->M q=Db->pq M' q=Fa ((RJ l V i c (tM l V c z way)).map Ev.d)->Q (.ref q) M')
def Oz{α:Type}{f:α->D}{xs:List α}{pre post:T0 D}{d:D}(e:pre++d::post=xs.map f):∃x,xs[pre.length]?=Fa x/\d=f x/\xs.take (pre.length+1)=xs.take pre.length++[x]:=by
 have h:(xs.map f)[pre.length]?=Fa d:=by rw[<-e];simp
 rw[dz]at h;cases hx:xs[pre.length]? with
 | none=>rw[hx]at h;cases h
 | some x=>rw[hx]at h;refine⟨x,Z',(dv h).symm,?_⟩;rw[gB,hx];rfl
def FO{M M':Mp}{p:Uf}{c:uG}(hp:M p=Db)(s:qJ M M'):qJ M (pT M' p c):=λx d e=>sy.put x d (OJ e hp) (s x d e)
def Nk{α:Type}{f:α->D}{ss:List α}{x:α}(h:ss.getLast?=Fa x):vY (ss.map f) (-1)=Fa (f x):=by
 have hp:0<ss.length:=by cases ss with|nil=>cases h|cons _ _=>exact lF _
 unfold vY;have e:F4 (ss.map f).length (-1)=Fa (ss.length - 1):=by
  rw[cW];unfold F4;have:¬((-1:Int)>=0):=by decide
  simp;lia
 rw[e];show(ss.map f)[ss.length - 1]?=_;rw[dz,<-gU,h];rfl
theorem yD(i:Nat):∀(st:sO) (o:Option Str),(qY i o st).length<=2*st.length
 | [],none=>eE _
 | [],Fa _=>eE _
 | (z,fs)::r,none=>by have:=yD i r (Fa z);show(qY i (Fa z) r).length+1<=2*(r.length+1);lia
 | (z,fs)::r,Fa y=>by have:=yD i r (Fa z);show(qY i (Fa z) r).length+1+1<=2*(r.length+1);lia
def JD(l:pU)(V:qB)(i:Nat)(c:Str)(en:vM)(st:sO):(RJ l V i c (en,st)).length<=2*st.length+3:=by
 have e1:=yD i st Db;have e2:(sm i st en).length<=1:=by
  unfold sm;split
  .cases st.getLast? with
   | none=>exact eE _
   | some s=>exact dw _
  .exact eE _
 have e3:(Km l V i c en).length<=2:=by
  cases en with
  | rings z ps=>
   show((if _ then _ else _)++[_]:T0 Ev).length<=2;rw[cZ];split
   .exact dw _
   .exact gx _
  | breaks z=>
   show((ux V z).elim [] _).length<=2;cases ux V z with
   | none=>exact eE _
   | some j=>exact gx _
  | _=>exact gx _
 unfold RJ;rw[cZ,cZ];dsimp only;lia
def Es{pre post:T0 D}{d:D}(e:pre++d::post=(List.range n).map λi=>D.int (0+(i:Nat))):d=.int (0+(pre.length:Nat))/\pre.length<n:=by
 have h:((List.range n).map λi=>D.int (0+(i:Nat)))[pre.length]?=Fa d:=by rw[<-e];simp
 have hl:pre.length<n:=by
  have:=(cY.mp h).1
  simpa using this
 rw[dz,jh hl]at h;exact⟨(dv h).symm,hl⟩
def LL:Fq P w K mg base 1 a.bu (On a):=by
 refine fq G.bu.toDG vq (λr u=>⟨_,(pK (ur eU Z' (qZ (pQ (pQ v0))) (uX (n:=3) Z' (qE (rq 4 vq) (qE (rq 5 vq) (qE (rq 6 vq) tK))))
 (pL (qg (W3.b3 (vv (pW u U4 U2) (vN (pW u v5 pO))))
 (pK (qc 7 vq (qu (qu (Ft v6 (qA (pV U3 pN))) pN) (qm qP Z' G.g qL (qA v6))))
 (pL (pS (qQ (sH (qd (rC pO U2 v7)) (qd (rC pO U1 U3)))))))
 pZ)))
 (pL (pS (qQ (qA (qd (rC pO U1 U3))))))),?_⟩)
 rintro ds M Q ⟨A,V,l,i,z,x,ps,rfl,rd,hx,q⟩
 have hz:=dP;obtain⟨ph,gr,ws,Zh,pr,gd,rs,i1,i2,i3,_⟩:=rd.pl;have q1:∀b,(l.m7 z=="turns")=b->∀r,M r=Db->∃M',qJ M' (pT M r (.lst (((if b=pc then[Ev.next z (RB (l.mS z) x)]else[])++[Ev.rings i (x::ps)]).map Ev.d)))/\Q (.ref r) M':=λb hb r hr=>⟨_,.refl,q r _ (.new hr) (by subst hb;exact pR)⟩;refine pM rd.bd.at_ (i' Z' (pM i1 (i' Z' (i' i3 (vg (l.groups.map rN) (λpre U M'=>(M=M'/\∀g∈l.groups.take pre.length,¬(g.1=z/\g.2.1="turns"))/\∃y5 y6 y7 y8,U=[Fa (.ref A.b),Fa (.int (i:Nat)),Fa (.str z),Fa (names (x::ps)),y5,y6,y7,y8]) (λ_ _ M' j=>by rw[<-j.1.1];exact i3) _ [] _ _ Z' ⟨⟨Z',λg hg=>by cases hg⟩,Db,Db,Db,Db,Z'⟩ ?_ ?_)))))
 .rintro pre d post e U M' ⟨⟨rfl,hn⟩,y5,y6,y7,y8,rfl⟩ nx XX
  obtain⟨g,e1,rfl,e2⟩:=Oz e;rw[cZ,dQ,e2]at XX;have go:¬(g.1=z/\g.2.1="turns")->∀g'∈l.groups.take pre.length++[g],¬(g'.1=z/\g'.2.1="turns"):=λh g' hg=>by
   rcases dU.mp hg with y|y
   .exact hn g' y
   .rw[dA.mp y];exact h
  refine⟨Z',?_⟩;dsimp only[sC,yf,Cj];refine qU (c:=g.1==z) (λc1=>?_) (λc1=>XX _ _ ⟨⟨Z',go λy=>c1 (by rw[y.1];exact e9 _)⟩,_,_,_,_,Z'⟩);refine qU (c:=g.2.1=="turns") (λc2=>?_) (λc2=>XX _ _ ⟨⟨Z',go λy=>c2 (by rw[y.2];exact e9 _)⟩,_,_,_,_,Z'⟩);have c1:=Ix c1;have eg:l.group z=Fa g:=by have:=Jz (λg:uH=>g.1) (gf.mp rd.ok.nd).2.1 (qV e1);rw[c1]at this;exact this
  have ep:l.mS z=g.2.2:=by unfold pU.mS;rw[eg];rfl
  have em:l.m7 z=g.2.1:=by unfold pU.m7;rw[eg];rfl
  have q1:=q1 pc (by rw[em];exact c2);rw[ep]at hx q1;have ej:=B5 x g.2.2 hx;have lpos:0<g.2.2.length:=kc hx;have el:((g.2.2.map D.str).length:Int)=g.2.2.length:=by rw[cW]
  refine i' (xO _ _) ⟨Z',qN _,i' ej ⟨by rw[el];lia,?_⟩⟩;rw[el];exact⟨pI Z',pI Z',pI Z',q1⟩
 .rintro U M' ⟨⟨rfl,hn⟩,y5,y6,y7,y8,rfl⟩
  rw[cW,fv]at hn;have em:(l.m7 z=="turns")=lf:=by
   unfold pU.m7;cases eg:l.group z with
   | none=>rfl
   | some g=>have h1:=mD eg;have h2:=gw eg;rw[dH];exact λy=>hn g h2 ⟨fH h1,Ix y⟩
  exact⟨pI Z',pI Z',q1 lf em⟩
def QS:Fq P w K mg base 4 a.bv (Qq a):=by
 refine fq G.bv.toDG zI (λr u=>⟨_,(pK (qg (pW u (pV U3 pN) pO)
 (pL (pS (pX (LL G) r G.bu (qo v0 (rC U1 (pV U3 pN) (pV U3 pN))))))
 pZ)
 (pK (qg (pW u (pV U3 pN) pO)
 (pL (pS (qQ (qA (qd (rC pO U1 (pV U3 pN)))))))
 pZ)
 (pK (qg (pW u (pV U3 pN) pO)
 (pK (qc 5 zI (qv v0 G.c.toCls G.M (xn G) r (qA (pV U3 pN))))
 (pL (pS (qQ (qA (qd (qo pO (rC U1 v5 (qu (qK uC Z' G.E uu (qA (pQ (pV (pQ v0) v5)))) (qd (qA U2)))))))))))
 pZ)
 (pK (qg (W3.b3 (vv (pW u (pV U3 pN) pO) (vN (pW u U4 (qQ so)))))
 (pK (qc 6 zI (pV (pV U4 (zg pN)) pN))
 (pL (pS (qQ (sH (qd (qo pO (qo U1 (rC v6 (pV (pV U3 pN) pN) v6)))) (qd (rC pO U1 pO)))))))
 pZ)
 (pL (pS (qQ (qA (qd (rC pO U1 (pV U3 pN))))))))))),?_⟩)
 rintro ds M Q ⟨A,V,l,i,c,e,st,r,rfl,rd,lr,he,hc,q⟩
 have hz:=dP;have XT:∀es,sm i st e++Km l V i c e=es->∀M1,qJ M M1->∀r,M1 r=Db->∃M',qJ M' (pT M1 r (.lst (es.map Ev.d)))/\Q (.ref r) M':=λes h M1 s r hr=>⟨_,.refl,q r _ (s.trans (.new hr)) (by rw[h];exact pR)⟩;cases e with
 | rings z ps=>obtain⟨hz,X9,hps⟩:=he;obtain⟨x,ps',rfl⟩:=fK X9;have hx:=(Ca.1 x (by rw[<-hps];exact dI)).2;exact⟨A,V,l,i,z,x,ps',Z',rd,hx,λr M' s lr=>⟨M',.refl,q r M' s lr⟩⟩
 | waits z=>exact⟨pI Z',pI Z',XT [.waits i z] Z' M .refl⟩
 | breaks z=>obtain⟨x,rfl,hb⟩:=he;obtain⟨j,k,ej,ek,_,_,Zg,_⟩:=Cd hb;obtain⟨kb,ekb,ca⟩:=rd.call ek;obtain⟨ad',md',g1,g2,g3,g4,_⟩:=ca;refine pM rd.bd.at_ ⟨Z',_,⟨Z',Z'⟩,A,V,z,Z',rd.bd,by lia,?_⟩;rw[show yX V z=.int (j:Nat)from by unfold yX;rw[ej];rfl];refine pM rd.bd.at_ (i' Z' (i' Z' (i' rd.bd.ca (i' (rL ekb) (pM g1 (i' Z' (i' g4 ?_)))))));refine⟨pI Z',(by intro y;rw[kU]at y;rw[y]at Zg;cases Zg),(by rw[cW,Zg];show 2+1<=Ch;lia),?_⟩;rw[show k.ms.map D.str++[D.str x]=(k.ms++[x]).map D.str by rw[dM];rfl];refine⟨pI Z',pI Z',XT [.merge i j (k.ms++[x])] ?_ M .refl⟩;show(ux V z).elim [] _=_;rw[ej];show[Ev.merge i j ((V.calls[j]?).elim [] (·.ms)++[x])]=_;rw[ek];rfl
 | engaged z=>exact⟨pI Z',pI Z',XT [.over i "engaged"] Z' M .refl⟩
 | barred=>exact⟨pI Z',pI Z',XT [.over i "barred"] Z' M .refl⟩
 | ring ns=>
  obtain⟨n0,nr,rfl⟩:=fK (show ns≠[]from he);refine⟨pI Z',λr0 hr0=>?_⟩;have t2:=qJ.new (c:=.lst []) hr0;refine i' (Nr (t2.lst lr) pR) ?_;have lr:=t2.lst lr;generalize pT M r0 (.lst [])=M2 at t2 lr ⊢;cases el:st.getLast? with
  | none=>rw[fU]at el;subst el;exact⟨pI Z',pI Z',XT [.over i "ring"] Z' M2 t2⟩
  | some s=>
   have ne:(qX st).isEmpty=lf:=by cases st with|nil=>cases el|cons _ _=>rfl
   rw[ne];refine LG ?_;refine i' lr (i' (Nk el) (i' (xO _ _) ?_));refine⟨pI Z',pI Z',pI Z',XT [.leg ⟨i,s.1,n0,s.1⟩,.over i "ring"] ?_ M2 t2⟩;show(st.getLast?).elim [] _++_=_;rw[el];rfl
def KJ:Fq P w K mg base 9 a.bw (Lk a):=by
 refine fq G.bw.toDG uP (λr u=>⟨_,(pK (E1 (pX (GU G) r G.ab (qo v0 (rC U2 U3 U4))) (uX (n:=2) Z' (qE (rq 5 uP) (qE (rq 6 uP) tK))))
 (pK (qc 7 uP (qQ so))
 (pK (ur eU Z' (uK Z' G.J (qA (qm qP Z' G.g qL (qA v6)))) (rq 8 uP)
 (pK (qg (pW u v8 pN)
 (pL (qe (rk v7 (qA (qd (qo pO (qo U1 (rC (pV (pV v6 (qu v8 pN)) pN) (pV (pV v6 v8) pN) (pV (pV v6 (qu v8 pN)) pN)))))))))
 pZ)
 (pL (qe (rk v7 (qA (qd (qo pO (rC U1 (pV (pV v6 v8) pN) (pV (pV v6 v8) pN))))))))))
 (pL (pS (qu v7 (pX (QS G) r G.bv (qo v0 (qo U1 (rC U2 v5 v6)))))))))),?_⟩)
 rintro ds M Q ⟨A,V,l,i,c,z,r,way,rfl,rd,wf,YG,hw,lr,Z1,hc,q⟩
 have hz:=dP;have ro:=yr (V:=V) (c:=c) rd.ok (l.nm.length+1) z way [] YG hw;refine⟨A,V,l,c,z,r,way,Z',rd,YG,wf,lr,by lia,λq1 M1 s1 YM l1=>⟨Z',?_⟩⟩;dsimp only[sC,yf,Cj];have ro:xI l V c (l.nm.length+1) [] (tM l V c z way):=ro;have nl:l.nm.length<=11:=by have p8:=rd.ok.p8;have g3:=rd.ok.g3;unfold pU.nm pU.pn pU.gn;rw[cZ,cW,cW];lia
 generalize tM l V c z way=g at l1 q ro ⊢;obtain⟨en,st⟩:=g;have Yb:st.length<=12:=d9 ro.len (by show 0+(l.nm.length+1)<=12;lia);have q:=q (d9 (JD l V i c en st) (by lia));refine⟨pI Z',λdu hdu=>?_⟩;have s2:=qJ.new (c:=.lst []) hdu;have l2:=@pR M1 du [];generalize pT M1 du (.lst [])=M2 at s2 l2 ⊢;dsimp only[sC];refine Rq (t:=Tu _ _ _) (λU M'=>(qJ M1 M'/\pq M' du=Fa ((qY i Db st).map Ev.d))/\∃y,U=[Fa (.ref A.b),Fa (.int (i:Nat)),Fa (.str c),Fa (.str z),Fa (.ref r),Fa en.d,Fa (.ref q1),Fa (.ref du),y]) (λnx XX=>?_) ?_
 .refine i' (s2.lst l1) ⟨Z',⟨?_,?_⟩,?_⟩
  .omega
  .rw[show(qX st).length=st.length from cW ..];lia
  refine vg ((List.range ((qX st).length:Int).toNat).map λn=>D.int (0+(n:Nat))) (λpre U M'=>(qJ M1 M'/\pq M' du=Fa ((qY i Db (st.take pre.length)).map Ev.d))/\∃y,U=[Fa (.ref A.b),Fa (.int (i:Nat)),Fa (.str c),Fa (.str z),Fa (.ref r),Fa en.d,Fa (.ref q1),Fa (.ref du),y]) (λ_ _ _ _=>trivial) _ [] _ _ Z' ⟨⟨s2,l2⟩,Db,Z'⟩ ?_ ?_
  .rintro pre d post e U M' ⟨⟨s3,l3⟩,y,rfl⟩ nx2 YK
   obtain⟨rfl,XZ⟩:=Es e;rw[show(qX st).length=st.length from cW ..,fR]at XZ;rw[cZ,dQ]at YK;generalize pre.length=m at l3 XZ YK;have h1:st[m]?=Fa st[m]:=c9 XZ;generalize st[m]=s1 at h1;obtain⟨z1,f1⟩:=s1;have et:st.take (m+1)=st.take m++[(z1,f1)]:=by rw[gB,h1];rfl
   rw[et,xp]at YK;have e1:vY (qX st) (0+(m:Int))=Fa (.tup [.str z1,vG f1]):=by rw[gA];exact tU (by unfold qX;rw[dz,h1];rfl)
   have lq:=s3.lst l1;have sl:=yD i (st.take m) Db;rw[fm]at sl;refine Rq (t:=MY _ _ _) (λU M4=>(qJ M1 M4/\pq M4 du=Fa ((qY i Db (st.take m)++(match An Db (st.take m)with|none=>[]|some y=>[Ev.leg ⟨i,y,z1,y⟩])).map Ev.d))/\U=[Fa (.ref A.b),Fa (.int (i:Nat)),Fa (.str c),Fa (.str z),Fa (.ref r),Fa en.d,Fa (.ref q1),Fa (.ref du),Fa (.int (0+(m:Nat)))]) (λW6 h=>?_) ?_
   .refine qU (c:=decide ((0+((m:Nat):Int))>0)) (λg=>?_) (λg=>?_)
    .have hm:0<m:=by have:=fH g;lia
     have h0:st[m - 1]?=Fa st[m - 1]:=c9 (by lia);generalize st[m - 1]=s0 at h0;obtain⟨z0,f0⟩:=s0;have e0:vY (qX st) (0+(m:Int) - 1)=Fa (.tup [.str z0,vG f0]):=by rw[show(0+(m:Int) - 1)=((m - 1:Nat):Int)by lia];exact tU (by unfold qX;rw[dz,h0];rfl)
     have el:An Db (st.take m)=Fa z0:=by rw[D9,gU,fm,j3 (by lia),jK (by lia),h0];rfl
     rw[el]at h;refine⟨by show(pq M' du).isSome=pc;rw[l3];rfl,i' lq (i' e0 (i' lq (i' e1 (i' lq (i' e0 ⟨pI Z',i' l3 ⟨?_,h _ _ ⟨⟨FO hdu s3,?_⟩,Z'⟩⟩⟩)))))⟩
     .rw[cW];lia
     .rw[dM];exact pR
    .have hm:m=0:=by
      cases m with
      | zero=>rfl
      | succ k=>exact absurd (dX (by lia)) g
     subst hm;exact h _ _ ⟨⟨s3,by rw[ii]at l3 ⊢;exact l3⟩,Z'⟩
   .rintro U M4 ⟨⟨s4,l4⟩,rfl⟩
    have lq:=s4.lst l1;refine⟨by show(pq M4 du).isSome=pc;rw[l4];rfl,i' lq (i' e1 (i' lq (i' e1 ⟨pI Z',i' l4 ⟨?_,YK _ _ ⟨⟨FO hdu s4,?_⟩,_,Z'⟩⟩⟩)))⟩
    .rw[cW,cZ];split
     .show _+0<_;lia
     .show _+1<_;lia
    .cases An Db (st.take m)with
     | none=>show _=Fa ((qY i Db (st.take m)++[Ev.asks i z1 f1]).map Ev.d);rw[pR,dM,dM,eM];rfl
     | some y=>show _=Fa ((qY i Db (st.take m)++[Ev.leg ⟨i,y,z1,y⟩,.asks i z1 f1]).map Ev.d);rw[pR,dM,dM,eM];rfl
  .rintro U M' ⟨⟨s3,l3⟩,y,rfl⟩
   rw[cW,eA,show(qX st).length=st.length from cW ..,fR,fv]at l3;exact XX _ _ ⟨⟨s3,l3⟩,y,Z'⟩
 .rintro U M' ⟨⟨s3,l3⟩,y,rfl⟩
  have s13:=s1.trans s3;refine⟨A,V,l,i,c,en,st,q1,Z',rd.sub s13,s3.lst l1,ro.e,hc,λr4 M4 s4 l4=>?_⟩;refine i' (s4.lst l3) (i' l4 ⟨?_,λr5 hr5=>⟨_,.refl,q r5 _ (s13.trans (s4.trans (.new hr5))) ((s13.trans s4).none hr5) ?_⟩⟩)
  .have e1:=JD l V i c en st;unfold RJ at e1;rw[cZ]at e1;dsimp only at e1;rw[cW,cW];lia
  .have:pq (pT M4 r5 (.lst ((qY i Db st).map Ev.d++(sm i st en++Km l V i c en).map Ev.d))) r5=Fa ((qY i Db st++(sm i st en++Km l V i c en)).map Ev.d):=by rw[dM (l₁:=qY i Db st)];exact pR
   exact this
def Ev.hits(j:Nat):Ev->Prop
 | .new _ _=>False
 | .merge i _ _=>i=j
 | .rings i _=>i=j
 | .waits i _=>i=j
 | .talks i _=>i=j
 | .held i _=>i=j
 | .over i _=>i=j
 | _=>True
noncomputable def Ao(V:qB)(i:Nat):Option Str:=(V.calls[i]?).map pP.st
def wK{cs:List pP}{i j:Nat}{f:pP->pP}(h:i=j\/∀c,(f c).st=c.st){k:Nat}(hk:k≠j):((cs.modify i f)[k]?).map pP.st=(cs[k]?).map pP.st:=by
 rw[ir];cases cs[k]? with
 | none=>rfl
 | some c=>
  show Fa (if i=k then f c else c).st=Fa c.st;by_cases z:i=k
  .rcases h with h|h
   .exact absurd (z.symm.trans h) hk
   .rw[dg z,h c]
  .rw[de z]
def PQ{V:qB}{e:Ev}{j k:Nat}(h:e.hits j)(hk:k≠j):Ao (qp V e) k=Ao V k:=by
 cases e with
 | new n x=>exact h.elim
 | leg v=>exact wK (cs:=V.calls) (i:=v.i) (f:=(·.go v.g)) (.inr λ_=>rfl) hk
 | merge i m ms=>exact(wK (cs:=V.calls.modify i (·.over "merged")) (i:=m) (f:=(·.mem ms)) (.inr λ_=>rfl) hk).trans (wK (cs:=V.calls) (.inl h) hk)
 | turn=>
  show((V.calls.map pP.tick)[k]?).map pP.st=_;rw[dz];unfold Ao;cases V.calls[k]? with
  | none=>rfl
  | some c=>show Fa c.tick.st=Fa c.st;unfold pP.tick;split<;>rfl
 | rings i ps=>exact wK (cs:=V.calls) (.inl h) hk
 | quiet i=>exact wK (cs:=V.calls) (i:=i) (f:=pP.nL) (.inr λ_=>rfl) hk
 | waits i x=>exact wK (cs:=V.calls) (.inl h) hk
 | talks i ms=>exact wK (cs:=V.calls) (.inl h) hk
 | held i x=>exact wK (cs:=V.calls) (.inl h) hk
 | leaves i x=>exact wK (cs:=V.calls) (i:=i) (f:=(·.drop x)) (.inr λ_=>rfl) hk
 | over i w=>exact wK (cs:=V.calls) (.inl h) hk
 | _=>rfl
theorem II{j k:Nat}(hk:k≠j):∀{es:T0 Ev} {V:qB},(∀e∈es,e.hits j)->Ao (qI V es) k=Ao V k
 | [],_,_=>rfl
 | e::r,V,h=>(II hk (V:=qp V e) λx hx=>h x (dE _ hx)).trans (PQ (h e dI) hk)
theorem zi(i:Nat):∀(st:sO) (o:Option Str),∀e∈qY i o st,e.hits i
 | [],Db,e,h=>by cases h
 | [],Fa _,e,h=>by cases h
 | (z,fs)::r,Db,e,h=>by
  rcases dh.mp h with rfl|h
  .trivial
  .exact zi i r _ e h
 | (z,fs)::r,Fa y,e,h=>by
  rcases dh.mp h with rfl|h
  .trivial
  .rcases dh.mp h with rfl|h
   .trivial
   .exact zi i r _ e h
def Qz{V:qB}:∀e∈uQ l V i,e.hits i:=λe h=>by
 unfold uQ at h;cases hc:V.calls[i]? with
 | none=>rw[hc]at h;cases h
 | some c=>
  rw[hc]at h;dsimp only[Option.elim]at h;generalize tM l V c.cr (c.way.getLastD Str.empty) c.way.dropLast=g at h;rcases dU.mp h with h|h
  .exact zi i _ _ e h
  rcases dU.mp h with h|h
  .unfold sm at h;split at h
   .cases hs:g.2.getLast? with
    | none=>rw[hs]at h;cases h
    | some s=>rw[hs]at h;rw[dA.mp h];trivial
   .cases h
  .unfold sF at h;split at h
   .rcases dU.mp h with h|h
    .split at h
     .rw[dA.mp h];trivial
     .cases h
    .rw[dA.mp h];rfl
   .rw[dA.mp h];rfl
   .split at h
    .rw[dA.mp h];rfl
    .cases h
   .rw[dA.mp h];rfl
   .rw[dA.mp h];rfl
   .rw[dA.mp h];rfl
def Ey{V:qB}:∀e∈sr l V i fs,e.hits i:=λe h=>by
 unfold sr at h;split at h
 .rcases dU.mp h with h|h
  .simp only[dh,dG,eZ]at h;rcases h with rfl|rfl|rfl<;>trivial
  .exact Qz e h
 .cases h
def AU(V:qB)(i:Nat):Bool:=Ao V i==Fa "rings"
def Q0{V:qB}(h:AU V i=lf):wq l V i=[]:=by
 unfold AU Ao at h;unfold wq;cases hc:V.calls[i]? with
 | none=>rfl
 | some c=>rw[hc]at h;dsimp only[Option.elim];rw[de];intro z;have:c.st="rings":=Ix z;rw[iW,this]at h;cases h
theorem yp:∀(is:T0 Nat) (V:qB),is.Nodup->qD l is V=qD l (is.filter (AU V)) V
 | [],_,_=>rfl
 | i::r,V,nd=>by
  rw[dW]at nd;by_cases g:AU V i=pc
  .rw[gF g];unfold qD;rw[yp r _ nd.2];congr 2;refine jz λk hk=>?_;unfold AU;rw[II (j:=i) (k:=k) (λz=>nd.1 (by rw[<-z];exact hk)) Ey]
  .rw[gG g]
   conv=>lhs;unfold qD
   rw[Q0 (dH.mpr g)];exact yp r V nd.2
theorem Ex{k:Nat}:∀{is:T0 Nat} {V:qB},k∉is->Ao (qI V (qD l is V)) k=Ao V k
 | [],_,_=>rfl
 | i::r,V,h=>by unfold qD;rw[sI,Ex λz=>h (dE _ z)];exact II (j:=i) (k:=k) (λz=>h (by rw[z];exact dI)) Ey
def Sq{V:qB}{i:Nat}{c:pP}{y:Str}{way:QQQ}(hc:V.calls[i]?=Fa c)(hw:c.way=way++[y]):uQ l V i=RJ l V i c.cr (tM l V c.cr y way):=by
 unfold uQ;rw[hc];dsimp only[Option.elim];rw[hw,List.getLastD_concat,List.dropLast_concat];unfold RJ;congr 2;generalize (tM l V c.cr y way).1=e;cases e with
 | breaks z=>show(match ux V z,V.calls[i]? with|some j,Fa c=>[Ev.merge i j ((V.calls[j]?).elim [] (·.ms)++[c.cr])]|_,_=>[])=(ux V z).elim [] _;rw[hc];cases ux V z<;>rfl
 | _=>rfl
theorem EV:∀{es fs:T0 Ev} {V:qB},Cr V (es++fs)->Cr V es/\Cr (qI V es) fs
 | [],_,_,h=>⟨trivial,h⟩
 | _::r,_,V,h=>by have:=EV (es:=r) h.2;exact⟨⟨h.1,this.1⟩,this.2⟩
def qa.own{V:qB}{x:Uf}{c:uG}(h:qa a M A V)(h1:x∉A.foot)(h2:x∈V.fo):qa a (pT M x c) A V:=by
 have fo:∀y∈(sA.mk x x x x x x []).foot,y=x:=by
  intro y hy
  simpa [sA.foot,sA.lists]using hy
 exact h.frame (A1:=⟨x,x,x,x,x,x,[]⟩) (rh.keep (sA.ng _).1 sy.put) (λy hy=>by rw[fo y hy];exact h1) λy hy=>.inl (by rw[fo y hy];exact h2)
def tw.own{V:qB}{c n:Nat}{x:Uf}{d:uG}(h:tw a M0 M b A V l c n)(h0:M0 x=Db)(h1:x∉A.foot)(h2:x∈V.fo):tw a M0 (pT M x d) b A V l c n:=
 ⟨h.bd.own h1 h2,h.oz,λy e q=>sy.put y e (λz=>by rw[z,h0]at q;cases q) (h.s0 y e q),h.fr,h.b,h.sz,h.ok,h.on⟩
def tw.more{V:qB}{c n:Nat}{x:Uf}(h:tw a M0 M b A V l c n)(s:qJ M M')(hn:M x=Db)(hx:∃c,M' x=Fa c):tw a M0 M' b A (V.at_ V.p (x::V.fo)) l c n:=by
 have b':=h.bd.sub s;refine⟨⟨b'.at_,b'.ca,b'.le,b'.nx,b'.on,b'.lo,b'.len,λi k c e1 e2=>?_,b'.nl,b'.np,λy hy=>?_⟩,h.oz,h.s0.trans s,h.fr,h.b,⟨h.sz.lo,h.sz.le,h.sz.ca,h.sz.ps,h.sz.cs⟩,h.ok,h.on⟩
 .obtain⟨ad,md,g1,g2,g3,g4,g5,g6⟩:=h.bd.cs i k c e1 e2;have no:∀{y:Uf} {ds:T0 D},y∉A.lists++V.fo->pq M y=Fa ds->y∉A.lists++(x::V.fo):=λ{y ds} hy e z=>by
   rcases dU.mp z with z|z
   .exact hy (eP _ z)
   .rcases dh.mp z with z|z
    .rw[z]at e;have:=ql e;rw[hn]at this;cases this
    .exact hy (eh _ z)
  exact⟨ad,md,s _ _ g1,s.lst g2,s.lst g3,s.lst g4,no g5 g3,no g6 g4⟩
 .rcases dh.mp hy with z|z
  .rw[z];exact hx
  .exact b'.fo y z
def tw.oF{V:qB}{c n:Nat}{F:QXQ}(h:tw a M0 M b A V l c n)(hF:∀x∈F,x∈V.fo):tw a M0 M b A (V.at_ V.p F) l c n:=by
 refine⟨⟨h.bd.at_,h.bd.ca,h.bd.le,h.bd.nx,h.bd.on,h.bd.lo,h.bd.len,λi k c e1 e2=>?_,h.bd.nl,h.bd.np,λy hy=>h.bd.fo y (hF y hy)⟩,h.oz,h.s0,h.fr,h.b,⟨h.sz.lo,h.sz.le,h.sz.ca,h.sz.ps,h.sz.cs⟩,h.ok,h.on⟩;obtain⟨ad,md,g1,g2,g3,g4,g5,g6⟩:=h.bd.cs i k c e1 e2;have no:∀{y:Uf},y∉A.lists++V.fo->y∉A.lists++F:=λ{y} hy z=>by
  rcases dU.mp z with z|z
  .exact hy (eP _ z)
  .exact hy (eh _ (hF y z))
 exact⟨ad,md,g1,g2,g3,g4,no g5,no g6⟩
def tQ(u:Uf)(A:sA)(M:Mp)(A':sA)(M':Mp):Prop:=(∀x c,x∉A.foot->x≠u->M x=Fa c->M' x=Fa c)/\(∀x∈A'.foot,x∈A.foot\/M x=Db)/\(∀(i:Nat) k,A.cs[i]?=Fa k->A'.cs[i]?=Fa k)/\∀x c,M x=Fa c->∃d,M' x=Fa d
def tQ.of(s:rh A M A' M'):tQ u A M A' M':=⟨λx c h _ e=>s.1 x c h e,s.2.1,s.2.2.1,s.2.2.2⟩
def tQ.put{c:uG}:tQ u A M A (pT M u c):=⟨λx d _ n e=>sy.put x d n e,λ_ h=>.inl h,λ_ _ h=>h,λx d e=>B1 e⟩
def tQ.trans{M M1 M2:Mp}(s:tQ u A M A1 M1)(t:tQ u A1 M1 A2 M2):tQ u A M A2 M2:=by
 refine⟨λx c h n e=>t.1 x c (λz=>?_) n (s.1 x c h n e),λx h=>?_,λi k h=>t.2.2.1 i k (s.2.2.1 i k h),λx c e=>?_⟩
 .rcases s.2.1 x z with y|y
  .exact h y
  .rw[e]at y;cases y
 .rcases t.2.1 x h with y|y
  .exact s.2.1 x y
  .right;cases e:M x with
   | none=>rfl
   | some c=>obtain⟨d,e1⟩:=s.2.2.2 x c e;rw[e1]at y;cases y
 .obtain⟨d,e1⟩:=s.2.2.2 x c e;exact t.2.2.2 x d e1
def tQ.to(s:tQ u A M A' M')(h:M u=Db):rh A M A' M':=⟨λx c n e=>s.1 x c n (OJ e h) e,s.2.1,s.2.2.1,s.2.2.2⟩
def tQ.nu{x:Uf}{c:uG}(s:tQ u A M A' M')(h:x∉A.foot)(e:M x=Fa c):x∉A'.foot:=λz=>by
 rcases s.2.1 x z with y|y
 .exact h y
 .rw[e]at y;cases y
def OR(a:Ad):rO:=λds M Q=>VM λM0 b A V l c n u acc r es=>ds=[.ref b,.ref u,.ref r]/\tw a M0 M b A V l c n/\c+es.length<=900000/\n+es.length<=5000000/\(M0 u=Db/\u∉A.foot/\u∈V.fo)/\(pq M u=Fa (List.map Ev.d acc)/\acc.length<=1000000)/\(pq M r=Fa (List.map Ev.d es)/\r∉A.foot/\r≠u)/\Cr V es/\∀M' A',tw a M0 M' b A' (qI V es) l (c+es.length) (n+es.length)->tQ u A M A' M'->pq M' u=Fa ((acc++es).map Ev.d)->u∉A'.foot->Q .mY M'
def Lu(a:Ad):rO:=λds M Q=>Ry λA V l L k c rw=>ds=[.ref (sA.b A),.ref rw,.ref (rS.p k)]/\Rd a M A V l/\sv a M L k c/\c.way≠[]/\pq M rw=Fa (l.mT.map vf)/\Q (vG (BM l V (w9 c))) M
def L'{l:pU}{i:Nat}{w:vJ}(h:l.mT[i]?=Fa w):vY (l.mT.map vf) (0+(i:Int))=Fa (vf w):=by rw[gA];exact tU (by rw[dz,h];rfl)
theorem RK:∀(es:T0 Ev) (V:qB),(qI V es).p=V.p
 | [],_=>rfl
 | e::r,V=>(RK r _).trans (NP V e).1
def Nw(a:Ad):rO:=λds M Q=>OX λM0 b A V l c n rw=>ds=[.ref b,.ref rw]/\tw a M0 M b A V l c n/\c<=100/\n<=500000/\WF l V/\pq M0 rw=Fa (l.mT.map vf)/\∀M' A' u,tw a M0 M' b A' (qI V (tR l V)) l 1000000 5000000->rh A M A' M'->M u=Db->u∉A'.foot->pq M' u=Fa ((tR l V).map Ev.d)->Q (.ref u) M'
def Rj(x y:Str):((Fa x:Option Str)==Fa y)=(x==y):=rfl
def Wa(X:qB):D->Bool
 | .int i=>AU X i.toNat
 | _=>lf
def RX{X:qB}:(((List.range n).map λn=>D.int (0+(n:Nat))).filter (Wa X)).map id=((List.range n).filter (AU X)).map λn=>D.int (n:Nat):=by
 rw[iL,gO];have e:(Wa X∘λn=>D.int (0+((n:Nat):Int)))=AU X:=funext λn=>by show AU X (0+((n:Nat):Int)).toNat=_;rw[gA,fR]
 rw[e];congr 1;funext n;rw[gA]
def BZ:Fq P w K mg base 5 a.L (OR a):=by
 refine fq G.L.toDG Co (λr u=>⟨_,(pL (ur eU Z' (qZ U2) (rq 3 Co)
 (pK (qe (qv v0 G.c.toCls G.k (rF G) r (qA U3)))
 (pL (qe (rk U1 (qA U3))))))),?_⟩)
 rintro ds M Q ⟨M0,b,A,V,l,c,n,u,acc,r,es,rfl,cu,hc,hn,⟨u0,uf,uV⟩,⟨lu,ha⟩,⟨lr,rf,rn⟩,ok,q⟩
 have hz:=dP;refine i' lr (vg (es.map Ev.d) (λpre U M'=>(∃A',tw a M0 M' b A' (qI V (es.take pre.length)) l (c+pre.length) (n+pre.length)/\tQ u A M A' M'/\Cr (qI V (es.take pre.length)) (es.drop pre.length)/\pq M' u=Fa ((acc++es.take pre.length).map Ev.d)/\u∉A'.foot)/\∃y,U=[Fa (.ref b),Fa (.ref u),Fa (.ref r),y]) (λpre U M' j=>?_) _ [] _ _ Z' ⟨⟨A,cu,.of .refl,ok,by rw[dJ,ii,eN];exact lu,uf⟩,Db,Z'⟩ ?_ ?_)
 .obtain⟨⟨A',_,s1,_⟩,_⟩:=j;exact rR (s1.1 r _ rf rn (ql lr))
 .rintro pre d post e U M' ⟨⟨A',c1,s1,o1,l1,uf1⟩,y,rfl⟩ nx XX
  obtain⟨ev,e1,rfl,e2,e3⟩:=NC e;have hp:pre.length<es.length:=(cY.mp e1).1;rw[e3]at o1;rw[cZ,dQ,e2,sI,<-eM,dM]at XX;have fV:u∈(qI V (es.take pre.length)).fo:=by rw[zq];exact uV
  generalize qI V (es.take pre.length)=V1 at c1 o1 XX fV;refine pM c1.at_ ⟨Z',_,⟨Z',Z'⟩,b,A',V1,ev,Z',c1.b,c1.bd,c1.lim (by lia) (by lia),o1.1,λM2 A2 eb2 Ya Y9=>?_⟩;have c2:=(c1.after o1.1 eb2 Ya Y9).mono (c':=c+(pre.length+1)) (n':=n+(pre.length+1)) (Nat.add_le_add_left (VD ev) _) (by lia);have s2:tQ u A' M' A2 M2:=.of Ya;have l2:=rR (Ya.1 u _ uf1 (ql l1));have uf2:=s2.nu uf1 (ql l1);refine⟨by show(pq M2 u).isSome=pc;rw[l2];rfl,i' l2 ⟨by rw[cW,cZ,fm];lia,XX _ _ ⟨⟨A2,c2.own u0 uf2 (by rw[I0];exact fV),s1.trans (s2.trans .put),o1.2,pR,uf2⟩,_,Z'⟩⟩⟩
 .rintro U M' ⟨⟨A',c1,s1,_,l1,uf1⟩,y,rfl⟩
  rw[cW,fv]at c1 l1;exact⟨M',.refl,q M' A' c1 s1 l1 uf1⟩
def MW:Fq P w K mg base 1 a.bx (Lu a):=by
 refine fq G.bx.toDG wB (λr u=>⟨_,(pK (qc 3 wB (qQ so))
 (pK (ur eU Z' (uK Z' G.J (qA (qm qP Z' G.g qL (qA U1)))) (rq 4 wB)
 (pK (qc 5 wB (pV (pV U1 U4) pN))
 (pL (qg (W3.b3 (vv (vH (pV (pQ v0) U4)) (vv (pW u (pV v5 pN) pO) (vv (pW u (pV v5 pN) (pV (pQ U2) (zg pN))) (vN (pW u (pV v5 pN) (pQ U2)))))))
 (pL (qe (rk U3 (qA U4))))
 pZ))))
 (pL (pS (qK uC Z' G.E uu (qA U3)))))),?_⟩)
 rintro ds M Q ⟨A,V,l,L,k,c,YZ,rfl,rd,⟨ad,md,h1,h2,_⟩,wne,lw,q⟩
 have hz:=dP;have pE:=rd.ok.pE;obtain⟨wl,Z1⟩:∃x,c.way.getLast?=Fa x:=by
  cases e:c.way.getLast? with
  | none=>exact absurd (fU.mp e) wne
  | some x=>exact⟨x,Z'⟩
 refine⟨pI Z',λrr hrr=>?_⟩;have t1:=qJ.new (c:=.lst []) hrr;have l1:=@pR M rr [];generalize pT M rr (.lst [])=M1 at t1 l1 ⊢;dsimp only[sC];refine Rq (t:=Tu _ _ _) (λU M'=>(qJ M M'/\pq M' rr=Fa ((BM l V (w9 c)).map λn=>D.int (n:Nat)))/\∃y4 y5,U=[Fa (.ref A.b),Fa (.ref YZ),Fa (.ref k.p),Fa (.ref rr),y4,y5]) (λnx XX=>?_) ?_
 .refine i' (t1.lst lw) ⟨Z',⟨by lia,by rw[cW];lia⟩,?_⟩;rw[cW,fR];have hon:BM l V (w9 c)=(List.range l.mT.length).filter λi=>V.on.getD i lf&&(l.mT[i]?).elim lf λw=>w9 c w.2:=by unfold BM;rw[rd.on]
  rw[hon]at XX;refine vg ((List.range l.mT.length).map λn=>D.int (0+(n:Nat))) (λpre U M'=>(qJ M M'/\pq M' rr=Fa (((List.range pre.length).filter λi=>V.on.getD i lf&&(l.mT[i]?).elim lf λw=>w9 c w.2).map λn=>D.int (n:Nat)))/\∃y4 y5,U=[Fa (.ref A.b),Fa (.ref YZ),Fa (.ref k.p),Fa (.ref rr),y4,y5]) (λ_ _ _ _=>trivial) _ [] _ _ Z' ⟨⟨t1,l1⟩,Db,Db,Z'⟩ ?_ ?_
  .rintro pre d post e U M' ⟨⟨s2,l2⟩,y4,y5,rfl⟩ nx2 YK
   obtain⟨rfl,XZ⟩:=Es e;rw[cZ,dQ,jb,iH]at YK;generalize pre.length=m at l2 XZ YK;have hw:l.mT[m]?=Fa l.mT[m]:=c9 XZ;obtain⟨om,ho⟩:∃om,V.on[m]?=Fa om:=⟨_,c9 (by rw[rd.on];exact XZ)⟩;generalize l.mT[m]=wm at hw;have hf:(V.on.getD m lf&&(l.mT[m]?).elim lf λw=>w9 c w.2)=(om&&w9 c wm.2):=by rw[gm,ho,hw];rfl
   have skip:(om&&w9 c wm.2)=lf->∀y4 y5,nx2 [Fa (.ref A.b),Fa (.ref YZ),Fa (.ref k.p),Fa (.ref rr),y4,y5] M':=λz y4 y5=>YK _ _ ⟨⟨s2,by rw[gG (by rw[hf,z];exact dC),h9,eN];exact l2⟩,_,_,Z'⟩;have aon:vY (V.on.map D.bl) (0+(m:Int))=Fa (.bl om):=by rw[gA];exact tU (by rw[dz,ho];rfl)
   obtain⟨bw,wi⟩:=wm;refine i' (s2.lst lw) (i' (L' hw) ?_);dsimp only[sC];refine pM (s2 _ _ rd.bd.at_) (i' Z' (i' Z' (i' (s2.lst rd.bd.on) (i' aon ?_))));cases om with
   | false=>exact skip Z' _ _
   | true=>
    cases wi with
    | silent x y n=>
     have hd:w9 c (.silent x y n)=((x==wl)&&decide (n<=c.si)):=by
      show((c.way.getLast?==Fa x)&&decide (n<=c.si))=_;rw[Z1];congr 1;by_cases z:x=wl
      .subst z;rw[e9,e9]
      .rw[beq_false_of_ne z,beq_false_of_ne λy=>z (dv y).symm]
     rw[hd]at skip hf;refine pM (s2 _ _ h1) (i' Z' (i' (s2.lst h2) (i' (Gk Z1) ?_)));refine qU (c:=x==wl) (λg1=>?_) (λg1=>skip (by rw[dH.mpr g1];rfl) _ _);refine pM (s2 _ _ h1) (i' Z' ?_);refine qU (c:=decide (n<=c.si)) (λg2=>?_) (λg2=>skip (by rw[dH.mpr g2,Bool.and_false];rfl) _ _);have XW:(((List.range m).filter λi=>V.on.getD i lf&&(l.mT[i]?).elim lf λw=>w9 c w.2).map λn=>D.int (n:Nat)).length<=16:=by rw[cW];have:=fW (λi=>V.on.getD i lf&&(l.mT[i]?).elim lf λw=>w9 c w.2) (List.range m);rw[eA]at this;lia
     refine⟨by show(pq M' rr).isSome=pc;rw[l2];rfl,i' l2 ⟨by lia,YK _ _ ⟨⟨FO hrr s2,?_⟩,_,_,Z'⟩⟩⟩;rw[gF (by rw[hf,g1,g2];rfl),h9,dM,pR,gA];rfl
    | _=>exact skip Z' _ _
  .rintro U M' ⟨⟨s2,l2⟩,y4,y5,rfl⟩
   rw[cW,eA]at l2;exact XX _ _ ⟨⟨s2,l2⟩,_,_,Z'⟩
 .rintro U M' ⟨⟨s2,l2⟩,y4,y5,rfl⟩
  exact i' l2 ⟨M,s2,q⟩
def Mu:Fq P w K mg base 10 a.bz (Nw a):=by
 refine fq G.bz.toDG tH (λr u=>⟨_,(pK (qc 2 tH (qQ so))
 (pK (qe (pX (BZ G) r G.L (rC v0 U2 (qQ (qA (qd (qA pO)))))))
 (pK (ur eU Z' (qZ (ra Z' (yH (ix:=[Db,Fa 0]) (N':=["_law_k","_law_board"])) (uK Z' G.J (qA (qm qP Z' G.g qL (qA (pQ v0))))) (qW 0) (vV (pW u (pQ (pV (pQ U1) v0)) pO)) v0)) (rq 3 tH)
 (pK (qc 4 tH (pV (pQ v0) U3))
 (pK (qc 5 tH (pX (MW G) r G.bx (rC v0 U1 U4)))
 (pL (qg (pW u v5 (qd so))
 (pK (qc 6 tH (pV (pQ U4) (zg pN)))
 (pK (qc 7 tH (pV (pV (pV U1 (pV v5 pN)) pN) pN))
 (pK (qc 8 tH (qK uj Z' G.y uh (qA (pQ U4))))
 (pK (qe (pX (BZ G) r G.L (rC v0 U2 (qQ (rC (qd (qo pO (rC U3 v6 v5))) (qd (sH pO U3)) (qd (qo pO (qo U3 (rC v6 v7 v6)))))))))
 (pL (qe (pX (BZ G) r G.L (rC v0 U2 (pX (KJ G) r G.bw (qo v0 (qo U3 (rC (pQ U4) v7 v8))))))))))))
 pZ)))))
 (pL (pS U2))))),?_⟩)
 .rintro ds M Q ⟨M0,b,A,V,l,c,n,YZ,rfl,cu,hc,hn,wf,lw,q⟩
  have hz:=dP;have ok:=cu.ok;refine⟨pI Z',λu hu=>?_⟩;have u0:M0 u=Db:=cu.s0.none hu;have uf:=cu.bd.nu hu;have t1:=qJ.new (c:=.lst []) hu;have lu:pq (pT M u (.lst [])) u=Fa (([]:T0 Ev).map Ev.d):=pR;have c1:=cu.more t1 hu ⟨_,qh⟩;have sd1:tQ u A M A (pT M u (.lst [])):=.put;generalize pT M u (.lst [])=M1 at t1 lu c1 sd1 ⊢;dsimp only[sC];refine⟨pI Z',pI Z',λr hr=>?_⟩;have rf:=c1.bd.nu hr;have rne:r≠u:=λz=>by have:=ql lu;rw[<-z,hr]at this;cases this
  have t2:=qJ.new (c:=.lst ([Ev.turn].map Ev.d)) hr;refine⟨M0,b,A,V.at_ V.p (u::V.fo),l,c,n,u,[],r,[.turn],Z',c1.sub t2,by show c+1<=900000;lia,by show n+1<=5000000;lia,⟨u0,uf,dI⟩,⟨t2.lst lu,eE _⟩,⟨pR,rf,rne⟩,⟨trivial,trivial⟩,λM2 A2 c2 sd2 lu2 uf2=>?_⟩;have sd:=sd1.trans ((tQ.of (.sub t2)).trans sd2);have wf1:WF l (qp V .turn):=BO wf;have e1:qI (V.at_ V.p (u::V.fo)) [.turn]=(qp V .turn).at_ V.p (u::V.fo):=BW V V.p (u::V.fo) .turn;rw[e1]at c2;have eT:tR l V=.turn::qD l ((List.range V.calls.length).filter (AU (qp V .turn))) (qp V .turn):=eY (Ev.turn::·) (yp _ _ mw);have lc:((qp V .turn).at_ V.p (u::V.fo)).calls.length=V.calls.length:=cW ..;have e2:∀is,qD l is ((qp V .turn).at_ V.p (u::V.fo))=qD l is (qp V .turn):=λis=>Fk is _;have wfX:WF l ((qp V .turn).at_ V.p (u::V.fo)):=Nv wf1;have eR:∀i,AU ((qp V .turn).at_ V.p (u::V.fo)) i=AU (qp V .turn) i:=λ_=>rfl;have fX:u∈((qp V .turn).at_ V.p (u::V.fo)).fo:=dI;have vca:=cu.sz.ca;have XT:∀M' A' cc nn,tw a M0 M' b A' (qI ((qp V .turn).at_ V.p (u::V.fo)) (qD l ((List.range V.calls.length).filter (AU (qp V .turn))) ((qp V .turn).at_ V.p (u::V.fo)))) l cc nn->cc<=1000000->nn<=5000000->tQ u A M A' M'->pq M' u=Fa ((Ev.turn::qD l ((List.range V.calls.length).filter (AU (qp V .turn))) ((qp V .turn).at_ V.p (u::V.fo))).map Ev.d)->u∉A'.foot->Q (.ref u) M':=λM' A' cc nn c3 h1 h2 sd3 l3 uf3=>by
   rw[e2,xx]at c3;rw[e2,<-eT]at l3;have c4:=(c3.oF (F:=V.fo) (λx hx=>dE _ hx)).mono h1 h2;have e5:qI V (tR l V)=qI (qp V .turn) (qD l ((List.range V.calls.length).filter (AU (qp V .turn))) (qp V .turn)):=by rw[eT];rfl
   have pY:=RK (tR l V) V;have fY:=zq (tR l V) V;rw[<-e5]at c4;generalize hY:qI V (tR l V)=Y at c4 pY fY;have c5:tw a M0 M' b A' (Y.at_ V.p V.fo) l 1000000 5000000:=c4;rw[<-pY,<-fY]at c5;exact q M' A' u (hY ▸ c5) (sd3.to hu) hu uf3 l3
  generalize hX:(qp V .turn).at_ V.p (u::V.fo)=X at c2 lc wfX fX XT;have eRX:∀i,AU (qp V .turn) i=AU X i:=λi=>by rw[<-hX];exact(eR i).symm
  have eRf:(List.range V.calls.length).filter (AU (qp V .turn))=(List.range V.calls.length).filter (AU X):=jz λi _=>eRX i;rw[eRf]at XT;have ndr:((List.range V.calls.length).filter (AU X)).Nodup:=mw.sublist fT;have hrs:∀i∈(List.range V.calls.length).filter (AU X),AU X i=pc/\i<X.calls.length:=λi hi=>⟨(fC.mp hi).2,by rw[lc];exact fZ.mp (fC.mp hi).1⟩;have lrs:((List.range V.calls.length).filter (AU X)).length<=V.calls.length:=by
   have:=fW (AU X) (List.range V.calls.length)
   rwa [eA]at this
  refine pM c2.at_ (i' Z' (i' c2.bd.ca ⟨Z',⟨by lia,by rw[cW,c2.bd.len,lc];lia⟩,?_⟩));rw[cW,c2.bd.len,lc,fR];refine tP (f:=id) (t:=Wa X) trivial _ [] _ (by rw[cW,eA];simp only[dJ];lia) (λd hd k0 hk=>?_) (λd hd _ k0 hk=>?_) λrl hrl=>?_
  .obtain⟨i,hi,rfl⟩:=dF.mp hd;have hi:=fZ.mp hi;rw[<-lc]at hi;have Yh:X.calls[i]?=Fa X.calls[i]:=c9 hi;generalize X.calls[i]=cv at Yh;obtain⟨ka,ci⟩:=c2.call Yh;obtain⟨ad,md,h1,_⟩:=ci.cell;have er:Wa X (.int (0+(i:Nat)))=(cv.st=="rings"):=by show AU X (0+((i:Nat):Int)).toNat=_;rw[gA,fR];unfold AU Ao;rw[Yh];exact Rj _ _
   rw[er]at hk;refine pM c2.at_ (i' Z' (i' Z' (i' ci.bd.ca (i' (by rw[gA];exact rL ci.e1) (pM h1 (i' Z' hk))))))
  .exact hk
  rw[d6,RX];generalize (List.range V.calls.length).filter (AU X)=rs at XT ndr hrs lrs ⊢;have t3:=qJ.new (c:=.lst (rs.map λn=>D.int (n:Nat))) hrl;have l3:=@pR M2 rl (rs.map λn=>D.int (n:Nat));have rlf:=c2.bd.nu hrl;have rlu:rl≠u:=λz=>by have:=ql lu2;rw[<-z,hrl]at this;cases this
  have c3:=c2.sub t3;have lu3:=t3.lst lu2;have sd3:tQ u A M A2 (pT M2 rl (.lst (rs.map λn=>D.int (n:Nat)))):=sd.trans (.of (.sub t3));generalize pT M2 rl (.lst (rs.map λn=>D.int (n:Nat)))=M3 at t3 l3 c3 lu3 sd3 ⊢;clear hX eRX eRf eR e1 e2 eT lc t3 hrl c2 lu2 sd sd2 sd1 lu t2 t1 c1;have oneU:(Ev.turn::qD l (rs.take 0) X).map Ev.d=([]++[Ev.turn]).map Ev.d:=by rw[ii];rfl
  refine i' l3 (vg (rs.map λn=>D.int (n:Nat)) (λpre U M'=>(∃A',tw a M0 M' b A' (qI X (qD l (rs.take pre.length) X)) l (c+1+110*pre.length) (n+1+110*pre.length)/\tQ u A2 M3 A' M'/\pq M' u=Fa ((Ev.turn::qD l (rs.take pre.length) X).map Ev.d)/\u∉A'.foot/\(qD l (rs.take pre.length) X).length<=110*pre.length)/\∃y3 y4 y5 y6 y7 y8,U=[Fa (.ref b),Fa (.ref YZ),Fa (.ref u),y3,y4,y5,y6,y7,y8]) (λpre U M' j=>?_) _ [] _ _ Z' ⟨⟨A2,by rw[dJ,ii];exact c3,.of .refl,by rw[dJ,oneU];exact lu3,uf2,by rw[dJ,ii];exact eE _⟩,Db,Db,Db,Db,Db,Db,Z'⟩ ?_ ?_)
  .obtain⟨⟨A',_,s1,_⟩,_⟩:=j;exact rR (s1.1 rl _ rlf rlu (ql l3))
  rotate_left
  .rintro U M' ⟨⟨A',c4,s4,l4,uf4,ll⟩,y3,y4,y5,y6,y7,y8,rfl⟩
   rw[cW,fv]at c4 l4;exact⟨M',.refl,XT M' A' _ _ c4 (by lia) (by lia) (sd3.trans s4) l4 uf4⟩
  clear c3 lu3 sd3 XT uf2
  rintro pre d post e U M' ⟨⟨A',c4,s4,l4,uf4,ll⟩,y3,y4,y5,y6,y7,y8,rfl⟩ nx XX
  obtain⟨i,ei,rfl,et⟩:=Oz e;have hj:pre.length<rs.length:=(cY.mp ei).1;rw[cZ,dQ,et,AC,sI]at XX;have hm:=qV ei;obtain⟨rg,hi⟩:=hrs i hm;have nin:i∉rs.take pre.length:=λz=>by
   obtain⟨m,XQ,X6⟩:=gI z;rw[fm]at XQ;rw[List.getElem_take]at X6;have e5:rs[m]?=Fa i:=by rw[c9 (by lia),X6]
   have:=(List.getElem?_inj (by lia) ndr).mp (e5.trans ei.symm);lia
  have Yp:Ao (qI X (qD l (rs.take pre.length) X)) i=Ao X i:=Ex nin;have Zu:=B4 ok (rs.take pre.length) wfX;have fV3:u∈(qI X (qD l (rs.take pre.length) X)).fo:=by rw[zq];exact fX
  generalize qI X (qD l (rs.take pre.length) X)=V3 at c4 Zu Yp XX fV3;generalize qD l (rs.take pre.length) X=es0 at l4 ll XX;have st4:Ao V3 i=Fa "rings":=by rw[Yp];exact Ix rg
  obtain⟨cv,Yh,hs⟩:∃cv,V3.calls[i]?=Fa cv/\cv.st="rings":=by
   unfold Ao at st4;cases e:V3.calls[i]? with
   | none=>rw[e]at st4;cases st4
   | some cv=>rw[e]at st4;exact⟨cv,Z',dv st4⟩
  obtain⟨ka,ci⟩:=c4.call Yh;obtain⟨ad,md,h1,h2,h3,h4,n1,n2⟩:=ci.cell;have k0:=Zu.ok i cv Yh;generalize pre.length=m at c4 ll XX hj;dsimp only[sC];refine pM c4.at_ (i' Z' (i' Z' (i' ci.bd.ca (i' (rL ci.e1) ?_))));have hdv:wq l V3 i=BM l V3 (w9 cv):=by unfold wq;rw[Yh];show(if (cv.st=="rings")=pc then _ else _)=_;rw[hs];rfl
  refine⟨A',V3,l,_,ka,cv,YZ,by rw[c4.b],c4.rd (by lia) Zu,ci.cell,k0.wy.1,c4.s0.lst lw,?_⟩;rw[<-hdv];have du:=F5 (V:=V3) (i:=i) ok;have oks:=HB (i:=i) ok Zu;cases hdq:wq l V3 i with
  | nil=>rw[hdq,Le,eN]at XX;exact⟨pI Z',XX _ _ ⟨⟨A',c4.mono (by lia) (by lia),s4,l4,uf4,by lia⟩,_,_,_,_,_,_,Z'⟩⟩
  | cons f0 fr=>
   rw[hdq]at du XX oks;cases du with
   | on c' _ _ b' x y n' hc' Z6 hw hx hy=>
    rw[Yh]at hc';cases hc';rw[yC hw]at XX oks;obtain⟨ok1,ok2⟩:=EV oks;have hV4:=BN (x:=x) (y:=y) (fs:=f0::fr) Yh;have wf4:=B6 (x:=x) (y:=y) (fs:=f0::fr) Zu Yh hs hy;have eg:uQ l (qI V3 [.asks i x (f0::fr),.quiet i,.leg ⟨i,x,y,x⟩]) i=RJ l (qI V3 [.asks i x (f0::fr),.quiet i,.leg ⟨i,x,y,x⟩]) i cv.cr (tM l (qI V3 [.asks i x (f0::fr),.quiet i,.leg ⟨i,x,y,x⟩]) cv.cr y cv.way):=Sq (c:=cv.nL.go y) hV4 Z';rw[eg,sI]at XX;rw[eg]at ok2;have aw:vY (l.mT.map vf) (f0:Nat)=Fa (vf (b',.silent x y n')):=tU (by rw[dz,hw];rfl);have lwM:=c4.s0.lst lw;have uM:∃d,M' u=Fa d:=⟨_,ql l4⟩;refine⟨pI Z',?_⟩;refine pM h1 (i' Z' (i' h2 (i' (Gk hx) ?_)));refine i' (xO _ _) (i' lwM (i' aw ?_));refine pM h1 (i' Z' (i' h2 λwy hwy=>?_));have t5:=qJ.new (c:=.lst (cv.way.map D.str)) hwy;have lwy:=@pR M' wy (cv.way.map D.str);have wyf:=c4.bd.nu hwy;have wyu:wy≠u:=λz=>by obtain⟨d,e⟩:=uM;rw[<-z,hwy]at e;cases e
    have c5:=c4.sub t5;have s5:tQ u A2 M3 A' (pT M' wy (.lst (cv.way.map D.str))):=s4.trans (.of (.sub t5));have l5:=t5.lst l4;generalize pT M' wy (.lst (cv.way.map D.str))=M5 at t5 lwy c5 s5 l5 ⊢;dsimp only[sC];refine⟨pI Z',pI Z',pI Z',pI Z',λr1 Yn=>?_⟩;have t6:=qJ.new (c:=.lst ([Ev.asks i x (f0::fr),.quiet i,.leg ⟨i,x,y,x⟩].map Ev.d)) Yn;have r1u:r1≠u:=λz=>by have:=ql l5;rw[<-z,Yn]at this;cases this
    refine⟨M0,b,A',V3,l,_,_,u,.turn::es0,r1,[.asks i x (f0::fr),.quiet i,.leg ⟨i,x,y,x⟩],Z',c5.sub t6,by show _+3<=900000;lia,by show _+3<=5000000;lia,⟨u0,uf4,fV3⟩,⟨t6.lst l5,by show es0.length+1<=1000000;lia⟩,⟨pR,c5.bd.nu Yn,r1u⟩,ok1,λM6 A6 c6 s6 l6 uf6=>?_⟩;have lwy6:=rR (s6.1 wy _ wyf wyu (ql (t6.lst lwy)));have wyf6:=s6.nu wyf (ql (t6.lst lwy));have fV4:u∈(qI V3 [.asks i x (f0::fr),.quiet i,.leg ⟨i,x,y,x⟩]).fo:=by rw[zq];exact fV3
    have ek6:=s6.2.2.1 i ka ci.e1;have ca6:=c6.bd.cs i ka _ ek6 hV4;have s56:=s5.trans ((tQ.of (.sub t6)).trans s6);have wyl:=(c4.sz.cs cv (qV Yh)).1;generalize qI V3 [.asks i x (f0::fr),.quiet i,.leg ⟨i,x,y,x⟩]=V4 at c6 hV4 wf4 ok2 XX ca6 fV4;obtain⟨ad6,md6,g1,_⟩:=ca6;have c6:tw a M0 M6 b A6 V4 l (c+1+110*m+3) (n+1+110*m+3):=c6;have v4:=c6.sz.ca;refine pM g1 (i' Z' ?_);refine⟨A6,V4,l,i,cv.cr,y,wy,cv.way,by rw[c6.b];rfl,c6.rd (by lia) wf4,wf4.nx,hy,k0.wy.2,lwy6,by lia,by lia,λh100 q3 M7 s7 n7 l7=>?_⟩;have q3u:q3≠u:=λz=>by have:=ql l6;rw[<-z,n7]at this;cases this
    refine⟨M0,b,A6,V4,l,_,_,u,_,q3,_,Z',c6.sub s7,by lia,by lia,⟨u0,uf6,fV4⟩,⟨s7.lst l6,by rw[cZ];show es0.length+1+3<=1000000;lia⟩,⟨l7,c6.bd.nu n7,q3u⟩,ok2,λM8 A8 c8 s8 l8 uf8=>XX _ _ ⟨⟨A8,c8.mono (by lia) (by lia),s56.trans ((tQ.of (.sub s7)).trans s8),?_,uf8,?_⟩,_,_,_,_,_,_,Z'⟩⟩
    .rw[l8,eM];rfl
    .rw[cZ,cZ];show es0.length+(3+_)<=_;lia
seal L3.E3 L3.B3 L3.A3 L3.S3 L3.HK
def NA:rO:=λds M Q=>∃ns:T0 Int,ds=[.rl (ns.map D.int)]/\ns.length<=63/\Q (.bl pc) M
def Tf{x:Uf}{ds:T0 D}(h:pq M x=Fa ds):Xf M (.ref x)=Fa (.type "list"):=by show HJ (M x)=_;rw[ql h];rfl
def tw.szs{V V1:qB}{c n c' n':Nat}{p:Uf}{F:QXQ}(h:tw a N M b A V l c n)(z:Sz V1 c' n')(e:V=V1.at_ p F):tw a N M b A V l c' n':=⟨h.bd,h.oz,h.s0,h.fr,h.b,by subst e;exact⟨z.lo,z.le,z.ca,z.ps,z.cs⟩,h.ok,h.on⟩
noncomputable def SD(ns:T0 Int)(b b2 r3 ro rn:Uf)(ys:T0 (Option D)):T0 (Option D):=some (.rl (ns.map D.int))::Fa (.ref b)::Fa (.ref b2)::Fa (.ref r3)::Fa (.ref ro)::Fa (.ref rn)::ys
def J0{e:uz}(f:e.nI)(h:e≠.turn):zK M 9 e.d (.tup [.str "turn"])=Fa lf:=by
 cases e with
 | turn=>exact absurd Z' h
 | call y z=>rfl
 | sw b i=>cases b<;>rfl
 | num w x ns=>rcases f with⟨rfl|rfl|rfl|rfl,_⟩|⟨rfl|rfl,_⟩<;>rfl
def S5:Fq P w K mg base 17 a.ak NA:=by
 refine fq G.ak.toDG wg (λr u=>⟨_,(pK (qc 1 wg (pX (Mm G) r G.aj (sH v0 pN)))
 (pK (qc 2 wg (pX (Mm G) r G.aj (sH v0 pN)))
 (pK (qc 3 wg (pV (pX (GG G) r G.ai (sH v0 pN)) pN))
 (pK (E1 (pX (KW G) r G.bs (qA U1)) (QA (n:=2) Z' (qE (rq 4 wg) (qE (rq 5 wg) tK))))
 (pK (ur eU Z' (vK Z' G.bQ (qA (sW v0 (tL pN) (tL pN)))) (uX (n:=2) Z' (qE (rq 6 wg) (qE (rq 7 wg) tK)))
 (pK (qc 8 wg (pX (MZ G) r G.br (qo U1 (rC v7 U4 v5))))
 (pK (qg (pW u (qu v6 pN) pN)
 (pL (qc 8 wg (qd (qA pO))))
 pZ)
 (pK (qc 9 wg (pX (Qp G) r G.bt (sH U1 v8)))
 (pL (qg (pW u v8 (qd (qA pO)))
 (pL (qg (pW u v9 (pX (Mu G) r G.bz (sH U2 U3)))
 (pL (pS y0))
 pZ))
 (pL (qg (xX (vH (qm Kl Z' G.cE DH (sH v9 (UC Z' G.cF SG)))))
 (pL (qe (pX (BZ G) r G.L (rC U2 (qQ so) v9))))
 pZ))))))))
 (pL (pS y0))))))),?_⟩)
 rintro ds M Q ⟨ns,rfl,hns,q⟩
 have hz:=dP;refine⟨ns,6,Z',by decide,by decide,λM0 M1 A p s0 _ cu=>?_⟩;refine⟨ns,6,Z',by decide,by decide,λM02 M2 A2 p2 s02 pf ZY=>?_⟩;have X4:2<=(xg ns 6).mV.length:=Ib (by decide) (by decide);refine⟨ns,6,Z',by decide,by decide,λr1 r2 r3 Mw sw _ _ lw nr3=>?_⟩;have r3A:=(cu.sub (s02.trans ZY.s0)).bd.nu nr3;have r3B:=ZY.bd.nu nr3;generalize xg ns 6=l at cu ZY X4 pf lw;generalize RE ns=h at cu ZY;have p8:=cu.ok.p8;have g3:=cu.ok.g3;have pl:l.pn.length=l.mV.length:=cW ..;have nl:l.nm.length=l.mV.length+l.groups.length:=by unfold pU.nm pU.pn pU.gn;rw[cZ,cW,cW]
 have cuM:=cu.sub (s02.trans (ZY.s0.trans sw));have cuW:=ZY.sub sw;refine⟨A,_,l,Z',cuM.rd (by decide) (Tp cu.ok),λM3 r ro rn s3 hro hrn lr lo ln=>i' lr ⟨Z',?_⟩⟩;dsimp only[sC,yf,Cj];have nro:=cuM.bd.nu hro;have nrn:=cuM.bd.nu hrn;have nro2:=cuW.bd.nu hro;have nrn2:=cuW.bd.nu hrn;refine λsl ZO=>i' pR ?_;have t7:=qJ.new (c:=.lst (L3.ut (ns.map D.int) (Fa 1) (Fa 64))) ZO;have l7:=@pR M3 sl (L3.ut (ns.map D.int) (Fa 1) (Fa 64));have hL:(L3.ut (ns.map D.int) (Fa 1) (Fa 64)).length<=63:=by unfold L3.ut;rw[fm,gp,cW];lia
 have hLi:∀d∈L3.ut (ns.map D.int) (Fa 1) (Fa 64),∃c,d=.int c:=λd hd=>by unfold L3.ut at hd;obtain⟨c,_,rfl⟩:=dF.mp (jd (jc hd));exact⟨c,Z'⟩
 generalize L3.ut (ns.map D.int) (Fa 1) (Fa 64)=L at t7 l7 hL hLi ⊢;have n7:sl∉A.foot:=(cuM.sub s3).bd.nu ZO;have n72:sl∉A2.foot:=(cuW.sub s3).bd.nu ZO;have lo:=t7.lst lo;have ln:=t7.lst ln;have s7:=sw.trans (s3.trans t7);have lw:=(s3.trans t7).lst lw;generalize pT M3 sl (.lst L)=M4 at l7 lo ln s7 lw ⊢;have i9:=Tw.start cu .refl s02 pf ZY s7;have l7:=wH (wH l7 n7) n72;have lo:=wH (wH lo nro) nro2;have ln:=wH (wH ln nrn) nrn2;have lw:=wH (wH lw r3A) r3B;have sE:=s0.trans (cu.s0.trans (s02.trans (ZY.s0.trans s7)));have wf0:WF l (V0 p h l A2.foot):=Tp cu.ok;have q0:∃N0,qJ M N0/\qJ N0 (xb A2 (xb A M4)):=⟨M,.refl,λx c e=>by
  have e1:=s0 x c e;refine Az (Az (sE x c e) λz=>?_) λz=>?_
  .rw[cu.fr x z]at e1;cases e1
  .have:=ZY.fr x z;rw[s02 _ _ (cu.s0 _ _ e1)]at this;cases this⟩
 obtain⟨N0,n0,n1⟩:=q0;generalize xb A2 (xb A M4)=N at i9 l7 lo ln n1 lw;generalize hb:A.b=b at i9 ⊢;generalize hb2:A2.b=b2 at i9 ⊢;have sN:=n0.trans n1;clear cu ZY cuM cuW pf r3A r3B nro nrn nro2 nrn2 n7 n72 s7 t7 ZO hro hrn lr sE n0 n1;refine vg (uU 0 L) (λpre U M'=>(∃A V A2,Tw a N M' b A V l (1+pre.length) (3+2200*pre.length) b2 A2 (V.at_ p2 A.foot) l (1+pre.length) (3+2200*pre.length)/\WF l V)/\∃y6 y7 y8 y9,U=SD ns b b2 r3 ro rn [y6,y7,y8,y9]) (λ_ _ M' j=>by obtain⟨A,V,A2,g,_⟩:=j.1;exact g.x.s0.lst l7) _ [] _ _ Z' ⟨⟨A,_,A2,i9,wf0⟩,Db,Db,Db,Db,Z'⟩ ?_ ?_
 rotate_left
 .rintro U M' ⟨⟨A,V,A2,t,wf⟩,y6,y7,y8,y9,rfl⟩
  exact⟨M,sN.trans t.x.s0,q⟩
 clear i9 wf0 hb hb2
 rintro pre d post e U M' ⟨⟨A,V,A2,t,wf⟩,y6,y7,y8,y9,rfl⟩ nx2 XX
 obtain⟨dx,hx,rfl⟩:=EZ e;have pl5:pre.length<63:=dR (cY.mp hx).1 hL;obtain⟨c0,rfl⟩:=hLi dx (qV hx);rw[cZ,dQ]at XX;generalize pre.length=m at t pl5 XX;refine⟨Z',?_⟩;dsimp only[sC,yf,Cj];have eb:=t.x.b;subst eb;refine⟨A,V,l,_,ro,rn,l.pn,l.nm,Z',t.x.rd (by lia) wf,wf,λk hk=>(t.x.sz.cs k hk).2.1,t.x.s0.lst lo,t.x.s0.lst ln,λz=>by rw[z]at pl;simp only[dJ]at pl;lia,λz=>by rw[z]at nl;simp only[dJ]at nl;lia,by lia,by lia,λM2 e s f=>?_⟩;have t:=t.sub s;dsimp only[sC];refine Rq (t:=MY _ _ _) (λU M3=>∃e':uz,(e'.nI/\M2=M3)/\U=SD ns A.b b2 r3 ro rn [Fa (.int (m:Nat)),Fa (.int c0),Fa e'.d,y9]) (λnx h=>?_) ?_
 .exact⟨by decide,qU (c:=((m:Nat):Int) % 4==3) (λ_=>⟨pI Z',h _ _ ⟨.turn,⟨trivial,Z'⟩,Z'⟩⟩) (λ_=>h _ _ ⟨e,⟨f,Z'⟩,Z'⟩)⟩
 clear f e
 rintro U M3 ⟨e,⟨f,rfl⟩,rfl⟩
 refine⟨N,A.b,A,V,l,_,_,e,Z',t.x,by lia,by lia,wf,f,λhr M3 A3 r c3 Yp Zt=>?_,λw0 hw0=>?_⟩
 rotate_left
 .have X9:=J0 (M:=M2) f (λz=>by rw[z]at hw0;cases hw0);exact⟨pI Z',i' X9 (i' Z' ⟨λC z=>(by cases z),i' G.cC (XX _ _ ⟨⟨A,V,A2,t.mono (by lia) (by lia) (by lia) (by lia),wf⟩,_,_,_,_,Z'⟩)⟩)⟩
 have ok:=t.x.ok;have ok3:=Iw p2 A3.foot _ V (To ok wf (λk hk=>(t.x.sz.cs k hk).2.2) f hr);have Zu:=UZ ok wf f hr;have t3:=t.one Yp c3 (zq _ _);have nr:=t3.y.bd.nu Zt;have XW:(uc l V e).length<=3+2200*m+40+33*(1+m):=by have:=c3.sz.lo;rw[Gh,cZ]at this;lia
 have eVr:∀F,qI (V.at_ p2 F) (uc l V e)=(qI V (uc l V e)).at_ p2 F:=λF=>xx p2 F _ V;have t4:=t3.sub (.new (c:=.lst ((uc l V e).map Ev.d)) Zt);have lr:=@pR M3 r ((uc l V e).map Ev.d);clear t3 c3 Yp t s Zt;generalize pT M3 r (.lst ((uc l V e).map Ev.d))=M4 at t4 lr ⊢;have next:∀M5 A5 c5 n5,tw a N M5 b2 A5 (qI (V.at_ p2 A3.foot) (uc l V e)) l c5 n5->rh A2 M4 A5 M5->nx2 (SD ns A.b b2 r3 ro rn [Fa (.int (m:Nat)),Fa (.int c0),Fa e.d,Fa (.ref r)]) M5:=λM5 A5 c5 n5 cu5 Zj=>by have t5:=(t4.swap.one Zj cu5 (zq _ _)).swap;rw[eVr]at t5;generalize qI V (uc l V e)=V3 at t5 Zu;have tx:=t5.x.mono (c':=1+(m+1)) (n':=3+2200*(m+1)) (by lia) (by lia);exact XX _ _ ⟨⟨A3,V3.at_ V3.p A5.foot,A5,⟨tx,t5.y.szs tx.sz Z',t5.f,t5.g,t5.ne⟩,Nv Zu⟩,_,_,_,_,Z'⟩
 have ca:=t4.y.sz.ca;refine⟨pI Z',?_⟩;by_cases ht:e=.turn
 .subst ht;refine⟨N,b2,A2,V.at_ p2 A3.foot,l,_,_,r3,Z',t4.y,by lia,by lia,Nv wf,lw,λM5 A5 u c5 Zj hu uf5 l5=>?_⟩;have eT:tR l (V.at_ p2 A3.foot)=uc l V .turn:=VC (V:=V) (p:=p2) (F:=A3.foot) .turn;rw[eT]at c5 l5;have lr5:=rR (Zj.1 r _ nr (ql lr));refine i' (Kh lr5 l5 λd hd=>?_) (O8 (next M5 A5 _ _ c5 Zj));obtain⟨v,_,rfl⟩:=dF.mp hd;exact GE 7 _ (JU 6 _ (QG v))
 .refine i' (J0 (M:=M4) f ht) ?_;refine i' (Tf lr) ⟨λC z=>(by cases z),i' G.cD ?_⟩;refine⟨pI Z',λu hu=>?_⟩;have t1:=qJ.new (c:=.lst []) hu;have c1:=t4.y.more t1 hu ⟨_,qh⟩;have u0:N u=Db:=t4.y.s0.none hu;have ru:r≠u:=λz=>by have:=ql lr;rw[z,hu]at this;cases this
  refine⟨N,b2,A2,_,l,_,_,u,[],r,uc l V e,Z',c1,by lia,by lia,⟨u0,t4.y.bd.nu hu,dI⟩,⟨pR,eE _⟩,⟨t1.lst lr,nr,ru⟩,Iw _ _ _ (V.at_ p2 A3.foot) ok3,λM5 A5 c5 sd5 _ _=>?_⟩;rw[xx]at c5;have c6:=c5.oF (F:=A3.foot) (λx hx=>dE _ hx);have e6:((qI (V.at_ p2 A3.foot) (uc l V e)).at_ p2 (u::A3.foot)).at_ p2 A3.foot=qI (V.at_ p2 A3.foot) (uc l V e):=by rw[eVr];rfl
  exact next M5 A5 _ _ (e6 ▸ c6) ((tQ.put.trans sd5).to hu)
end
end Z
end
structure PySem.W.Fast:Prop where(tw9899003626179221470 tw9874078169775434037 tw9710940513173888916 tw9487487180933539459 tw8303926961427034746 tw770273416281049058 tw694959327113161513 tw610080811460004420 tw6033950321417948064 tw5681226114599842875 tw5078120811823679097 tw4485373535030765949 tw4380947411791683561 tw3703646579132676372 tw3701537333987321963 tw324556601391422164 tw2166565347137699771 tw17839711507994925216 tw16884625498016899520 tw16261896243183689526 tw15815329473078412547 tw1436022687060484327 tw14244880713535320116 tw13600774093728476354 tw12770743643991846015 tw12040126947080623832 tw11274854319905674701 tw10908467535571470086 tw10317402346192943614 tw11446420394921326597 tw910070931810960718 tw7517364025332579006 tw8945205455390070126 tw3560842473895613670 tw12739329155534776915 tw16952855013262838536 tw14273473950703095357 tw1908841759723035505 tw13770573500284183989 tw14844988286437266802 tw15726194981071451011 tw8777266801924025274 tw15819739066323141508 tw504355542401477818 tw13029479875856948963 tw5084237917273112957 tw714542951524409935 tw17472551480615751521 tw12107759645247044602 tw14505647077434054526 tw2742800252644403742 tw16832402977376924408 tw11038057272333227334 tw18270287090602188237 tw7806342776022804228 tw7686211973449425965 tw5996712282835402142 tw17544078983929001552 tw13855537888940847034 tw2853555965412591285 tw13141980349516634865 tw8045702530092340165 tw14012204057099864340 tw9337298367064102197 tw12571187124916779365 tw3219326870881396858 tw2536998670264610100 tw16898735725843309961 tw4486559799673366385 tw7407662646368724504 tw17359480699094581381 tw16761328913411032600 tw16368773127330828766 tw16401013911633685798 tw1873953110943525928 tw1026805795234417811 tw8230052589183187333 tw7248643910971018393 tw251422121886861297 tw13944116044934350404 tw12798841648748870177 tw15861006272354768240 tw10446133054620071403 tw7679906982312935260 tw5380614653223043051 tw18068810615817428139 tw4321554511569444259 tw14693205485536464373 tw15925909599873312487 tw10285788969838985240 tw3137045857743281430 tw4191475187137384941 tw9034529166526844042 tw330420029332631998 tw5527789001977032477 tw17844338633756966666 tw1258093146302650324 tw3755624281400018402 tw5390236109134489082 tw10989135994116221083 tw7647835623729782504 tw12323611345445056093 tw8507752072177025549 tw3195505656127177139 tw10068341313709973841 tw15944425433900302950 tw13911341141982205232 tw15407902713834502776 tw2988757169859697764 tw9328425852744961722 tw6978057104906397304 tw16861187324459738495 tw4389753652450023766 tw16101065660302948856 tw8829050632406861434 tw6611216515603855785 tw13408677594428150797 tw10570190215882026089 tw13804881935324385241 tw14291302795477304289 tw7498544334495580604 tw6135672102809025090 tw11290219822613471257 tw375288115596080210 tw204501822339319697 tw12674961838941710285 tw4192112487585332619 tw16062374509839872090 tw2183369152766468653 tw2888033690705765269 tw2031210872690890725 tw10949036184529395038 tw10796245457850674903 tw11705659308514922112 tw1989170774331080636 tw12987551759439661691 tw17137764515749222850 tw15648518964238606232 tw1577775336340942214 tw18263920634168661517 tw12888612695937215199 tw2468765152973327777 tw18422836351970767502 tw15822089080555101192 tw5135036043224766728 tw846965575788237238 tw6190202020272629631 tw11673492418524533454 tw2283650903808880542 tw460677489734077491 tw4546139928277010541 tw8977938796534827934 tw4485474122641986931 tw4961162280322193273 tw14526174333456770092 tw15719082733200901418 tw14490025976677209765 tw11964323288564462781 tw2993996152983070016 tw8340955266906947857 tw4834267419986728333 tw17869388309366533654 tw5678508984804677620 tw5117979741086025397 tw9681072219124291430 tw14555272777530463563 tw11298298931253654061 tw5983346172607698366 tw574141495693129441 tw3976657504170525430 tw16866575552127534948 tw6385055573610798655 tw13517136840520926540 tw6653504789876594744 tw11251740603377153902 tw909904954151287048 tw9146751091842034142 tw10169466915327973068 tw14783976226578022605 tw101715676095218192 tw2684651798703252984 tw16135185568669861768 tw13519308693327571803 tw2694192779307671877 tw8522008127925051044 tw13212216420157955416 tw16683878748852856126 tw2180507602228822623 tw9551356388477940205 tw5905658182318507797 tw10930182556821993557 tw16305789980142243313 tw7199730434586026345 tw16671468008278285645 tw15314790899208173041 tw6070746943356986268 tw16157533637069285499 tw10010068491709088135 tw12698148492421285742 tw16039636747632816707 tw1110019813734165707 tw8813954496105405671 tw12085516967750907491 tw13492115145140246331 tw7573891703750966529 tw5352741195568635228 tw8299111603312164847 tw13076137995640222714 tw15213618330554378379 tw1524093153378626257 tw6923899117578167056 tw17034870872828707650 tw15897563754266508069 tw10640775152066891452 tw18328678112831006070 tw17815251972072331091 tw16768132445221675009 tw5695388693191421376 tw8661582477739167564 tw15752846329609208155 tw14973072262123445927 tw152106667984062137 tw13524481177088223585 tw1229400819643860791 tw11098141057944036904 tw16391025156350684818 tw12961298907626354483 tw1801006765433066362 tw9269492385380489040 tw6592024215730862711 tw861694983870728895 tw14483028496551790534 tw9477239218156843332 tw5833263394109712497 tw9726092793457282695 tw17297703946993396635 tw17631065896622604267 tw268390266858503351 tw2926937949003376888 tw9467079887810492286 tw14151103219439917950 tw3576161859280394905 tw4706862214588190158 tw7596876991996986844 tw12116975090034426131 tw14000890692158770089 tw16370114005879112447 tw10923599462750283161 tw15741749344488823439 tw7351479850566407053 tw17587967010273830565 tw8673516430457179436 tw6408162651163966779 tw14013856377907224233 tw8468138778753158867 tw564592752802361885 tw3085074878424156307 tw10161466116193249462 tw6566471149974273116 tw7712275551536318961 tw2789608844308660055 tw16161246509396574288 tw15580731536246469239 tw16637947411535788910 tw7204213855943388443 tw4320111454900766700 tw10173732681552899200 tw3821358440297506324 tw4510527535437707508 tw16621499151207477868 tw10088660452925123946 tw2146986032501637424 tw3263250036330381406 tw10481990776928627933 tw7803062249199962237 tw3225806228392220036 tw17367220771431596215 tw12688113851250395930 tw9492768419912004298 tw7787423540206544020 tw1061143774312918557 tw12590002827616784624 tw2310118354053188794 tw1875049629569993478 tw5522115870793430297 tw10447663730370165176 tw7270247768046510615 tw1455184076422872330 tw4400522857258407258 tw3340545554195490096 tw3409395932933567226 tw2678261901604253138 tw500181658922727277 tw5870555409179077668 tw16384804641456183326 tw6327022206545151603 tw12908273296290545664 tw2381137036721529683 tw9013605809401960921 tw2252405224339369203 tw1490690942426769939 tw4852850921335898058 tw15578006162118206691 tw13181789894957147605 tw10076266533760376189 tw7861112154288055278 tw13637143395380558812 tw2335005997242815099 tw3172138898930089133 tw15712720294225968728 tw14109578283249645882 tw2283362040251666195 tw5016407719656914430 tw18431050067911447188 tw10638746831682690369 tw88471803805436284 tw5087202472942491413 tw5002210395714296350 tw8135989797207064882 tw480603896486277989 tw12808599170370025638 tw6377088117965862709 tw7105029540074810982 tw16968634809337500428 tw1421013378439030943 tw546145799237752564 tw3311707046331706612 tw13900255759761025467 tw1365834664133201388 tw18426973944123033672 tw6826220464645155856 tw16004993883029354814 tw13157686241041457984 tw5378540601839083182 tw14345721002457602555 tw16455285160606952081 tw15818313953733926537 tw9493429912337531869 tw5296106026560505898 tw1956331028349908658 tw803742039145270783 tw10613667386977934775 tw13997594251375367371 tw15754957080915838145 tw300660643179797688 tw5512026334970004731 tw10597857477639683690 tw5320414317035827311 tw18156118598240712636 tw6470495088068521977 tw5158785185634023904 tw16897266676964108642 tw347079275173345005 tw1698830022775806373 tw4838678380787139857 tw2209143285338090898 tw13790439529621599778 tw10467237451410020746 tw6668956515325932407 tw1782517541343423715 tw4056741009268440463 tw10763907302566560559 tw6972409609756357258 tw10958115988795762261 tw11828849140414700644 tw10416772434146500303 tw15286813877683033698 tw14259993525685656438 tw6413784018621165749 tw16841141957857559592 tw17468068698583597322 tw14400848536670274360 tw10360657598351687964 tw10674882052316307501 tw9483281675168716643 tw2109241404278524710 tw13255462013198727273 tw11229091567584990783 tw7189002727934484952 tw2190120881341154928 tw17391187599456601983 tw13676666200202506522 tw4822446155173947763 tw17774541178697888917 tw16540556965660008714 tw15401578503935871420 tw7234406761820307131 tw4409957902303002369 tw7070300055240892709 tw4749004637570895492 tw13261025431521478855 tw6098416191337256995 tw2908638397549252906 tw16367073636840547312 tw17162245419894891023 tw1607113979267378170 tw9932954076109178404 tw15720557028894122764 tw14455753904851903672 tw10597490758964573843 tw10191997951855870947 tw11364293254497136779 tw8446154062763632060 tw6814583676111562842 tw10321255773319927682 tw15188136527316695922 tw9534014574784966424 tw6398614866712428188 tw205113084867083158 tw18057461849002139586 tw16180882927997687977 tw4847834473243098279 tw16929107170202370214 tw7587856006252536725 tw5809898052928013841 tw15686946781972734218 tw15481863506560947742 tw1372959391409187056 tw11287788121664064955 tw11168796114831019859 tw8158876387948729904 tw13807064806062271775 tw10512210195804308112 tw8500252026160785164 tw5734868099526841567 tw2931330441348124427 tw2930157441074264137 tw12628570323712458822 tw1134677455882166605 tw4289969689953797719 tw17343242075605872171 tw11522425210565549851 tw9510566203547037435 tw808211869495163085 tw12567060536910699090 tw5726935585657722830 tw8773987074291881153 tw14380376842272889550 tw10990479361781648220 tw8853930381443512912 tw7793237944216064705 tw5780672921296670647 tw2081139132584131780 tw12223709481010671999 tw15468984087457792563 tw10375519776525967605 tw906094193837296605 tw7791620494441852193 tw6576713458868832714 tw5809593094184679060 tw1628775421933183813 tw9748386378388336968 tw5106833792013015776 tw15725730617422424270 tw8710170248423058154 tw17677115512153849220 tw14652990126030380358 tw10860737214650528222 tw8194396925088904428 tw8632650539737997048 tw5639523080072913658 tw5630525157945093845 tw5145833418006787588 tw17973902876192216743 tw15462333393683782535 tw8140960664586364170 tw13988618899176054799 tw11784939701839080324 tw11548485522739729110 tw541082978508549473 tw18104389480219143128 tw16283270009035294623 tw11952879555565061155 tw9539646551346347517 tw5538667301312919683 tw11880230892316650922 tw833046510764327449 tw4772215318507728033 tw5051012908115527208 tw12728304865490262239 tw4783236787325100339 tw17826057261078005114 tw13870083486789870451 tw8410094149114704224 tw7956280412257910985 tw1341717368188923647 tw329721538849013152 tw2143221907412859356 tw16867754118303084209 tw5928836630681367887 tw15727452515803149038 tw6101401278763700772 tw17321195915760081812 tw7670017996992005710 tw6059701516225010849 tw4873375582686714811 tw15658652371081659360 tw4633098563999325075 tw8214909068737425931 tw7116883791875349234 tw2937948395649475284 tw272321318759926894 tw18377146207164615067 tw17309737519362189846 tw16197536718013853992 tw15266415374027474919 tw12981737447868987492 tw6326258379659429333 tw511319544889307020 tw9238663271533265536 tw15569503397085252156 tw507222402663213312 tw2952154408963647785 tw14807593470327646293 tw11434796216027295513 tw1687842492699196404 tw6093210520704088637 tw4306730821289790968 tw1715169576484388514 tw14420614684381828716 tw7281848008371104453 tw13057313451895810555 tw3676525107909157505 tw6901601440636276636 tw6304507199049190096 tw3263437089949464622 tw9482162003379493869 tw8983416674546392666 tw2082255303517232769 tw9564362798354535595 tw4245393116953492086 tw16163149633225352589 tw13430651473653287872 tw3654198432349080215 tw8492894420659478112 tw17443711245932379249 tw5081158231211368043 tw7399000829221445825 tw18148425154959461370 tw99396308737059958 tw14154023966958378761 tw6504623293764218136 tw15755516469892667069 tw7141905500034893796 tw11384667645977541442 tw8729513907134820547 tw10282151758658754237 tw6880359564721660172 tw17356473333738301025 tw15451310666737528183 tw11094591872837020439 tw2915741321894464619 tw15891163890580458464 tw17968116469609056837 tw17412024135291234953 tw18092709648259686278 tw557349003490128400 tw4465181302924098206 tw9655821015423843493 tw2926665469220386570 tw1010657984652931173 tw3628005278936599923 tw9984683918015242101 tw16628007716969745112 tw11947074454932926165 tw5850271230062906293 tw1889880618683264320 tw14782378863733100001 tw2683734183485921710 tw16245465649992329780 tw781194452204202612 tw17366657275834504156 tw16742036688962851325 tw1348039959326501714 tw3314805015776054935 tw8760567367754362744 tw7846043940596647094 tw7016495751322158649 tw249868745302204910 tw18228436502637468733 tw16881978344330119216 tw16849802189121186153 tw16305475084173657771 tw14991051228503727827 tw14276290239758365347 tw11809656178834750800 tw15226561574299392454 tw9604573879840142193 tw2555401381708017267 tw13278108863372969746 tw5234635015840357897 tw5537612299342179403 tw1783207336720229331 tw12926703253330827969 tw11173920094221526460 tw11031416347765016908 tw8082700330919039216 tw779762989180239550 tw7091522736906054485 tw5487806729233427961 tw1964193535255107912 tw18161446082152345120 tw15131587131016194092 tw14806501339949110550 tw11268282659667954193 tw10377740514308769673 tw598675219700819209 tw15314239195421583634 tw14702673467309112933 tw11537191366418922792 tw3177179702358531733 tw2991696987742101173 tw14409071189051569722 tw13229555530088318398 tw10017499541707801763 tw9423486923217650355 tw9198252334532395529 tw8990621920005294553 tw8525369353581073136 tw7623755180099799015 tw6568102194792515342 tw6469487309705760572 tw5888112304929054835 tw5184407637910254594 tw17421354670300000295 tw1690242570700024643 tw15786691336877391289:True)
open PySem PySem.W PyProof.Rows L2 L3
def xZqN:Option Obj->Option Obj
|some ⟨_,_,.freed,_⟩=>none
|o=>o
def xZqP (h:Heap):List Nat->Nat->List Obj->List (Option Obj)
|[],_,_=>[]
|a::l,i,r=>bif i.ble a then xZqN (r.drop (a-i)).head?::xZqP h l a (r.drop (a-i)) else h.get? a::xZqP h l i r
theorem xZqQ (h:Heap):∀l i r,r=h.objs.toList.drop i->xZqP h l i r=l.map h.get?
|[],_,_,_=>rfl
|a::l,i,r,e=>by
 unfold xZqP;cases z:i.ble a with
 |false=>exact congrArg (h.get? a::·) (xZqQ h l i r e)
 |true=>
  have d:r.drop (a-i)=h.objs.toList.drop a:=by have:=Nat.le_of_ble_eq_true z;rw [e,List.drop_drop];congr 1;omega
  show xZqN (r.drop (a-i)).head?::xZqP h l a (r.drop (a-i))=_;rw [xZqQ h l a _ d,d,List.head?_drop,Array.getElem?_toList];rfl
def xZqH (K:Params->Frag) (as:List Addr) (e:∀P,as=(K P).map (·.1)) (_:Unit):Hook:=⟨_,λs=>xZqP s.heap as 0 s.heap.objs.toList,λw=>(K w.params).map λp=>some p.2,InK K,λw s x=>InK.of e w s ((xZqQ s.heap as 0 s.heap.objs.toList rfl).symm.trans x),InK.keeps⟩
local macro_rules|`(tactic|o_head ($f $k $a $e))=>`(tactic|o_head (xZqH $k $a $e ()))
set_option maxRecDepth 100000 in
set_option maxHeartbeats 0 in
theorem PySem.Challenge.cw_callboard_k44_turns_pass_holds : PySem.Challenge.rw_callboard_k44_turns_pass.Holds := by
 w_on;o_law;k_head;(case hw=>w_witness2)
 k_fill
 refine L3.NB (l:=PySem.Challenge.rw_callboard_k44_turns_pass) (sp:=Z.NA) (k:=17) (x:="_law_script") rfl rfl ⟨rfl,by decide,by decide⟩ (λ_ _ Y=>Y) (λns hl=>⟨ns,rfl,hl,rfl⟩) ?F;case F=>
  intro w mg fa h KX G hmg;suffices h:∃a:Z.Ad,Z.Gl _ mg a/\∀(s:Shared) (u:Value),BindsTo s a.ak.d ⟨[u],[]⟩ [("_law_script",u)]by obtain⟨a,g,hb⟩:=h;have e:=hmg.symm.trans g.ak.mg;cases e;exact⟨a.ak.d,hb,λbase _ _=>g.ak.pe ▸ Z.S5 g⟩
  refine'⟨⟨_,_,_,_,_,_,_,_,_,_,_,_,_,_,_,_,_,_,_,_,_,_,_,_,_,_,_,_,_,_,_,_,_,_,_,_,_,_,_,_,_,_,_,_,_,_,_,_,_,_,_,_,_,_,_,_,_,_,_,_,_,_,_,_,_,_,_,_,_,_,_,_,_,_,_,_,_,_,_,_,_,_,_,_,_,_,_,_,_,_,_,_,_,_,_,_,_,_,_,_,_,_,_,_,_,_,_,_,_,_,_,_,_,_,_,_,_,_,_,_,_,_,_,_,_,_,_,_,_,_,_,_,_,_⟩,⟨wY KX G ..,wY KX G ..,wY KX G ..,wY KX G ..,wY KX G ..,wY KX G ..,wY KX G ..,wY KX G ..,wY KX G ..,wY KX G ..,wY KX G ..,wY KX G ..,wY KX G ..,PySem.W.mg_of KX G ?_,PySem.W.mg_of KX G ?_,qH KX G ..,qH KX G ..,qH KX G ..,qH KX G ..,qH KX G ..,qH KX G ..,qH KX G ..,qH KX G ..,qH KX G ..,qH KX G ..,qH KX G ..,qH KX G ..,qH KX G ..,qH KX G ..,qH KX G ..,qH KX G ..,qH KX G ..,qH KX G ..,qH KX G ..,qH KX G ..,qH KX G ..,qH KX G ..,qH KX G ..,qH KX G ..,qH KX G ..,qH KX G ..,qH KX G ..,qH KX G ..,qH KX G ..,qH KX G ..,qH KX G ..,qH KX G ..,qH KX G ..,qH KX G ..,qH KX G ..,qH KX G ..,qH KX G ..,qH KX G ..,qH KX G ..,qH KX G ..,qH KX G ..,qH KX G ..,qH KX G ..,qH KX G ..,qH KX G ..,qH KX G ..,qH KX G ..,qH KX G ..,qH KX G ..,qH KX G ..,qH KX G ..,qH KX G ..,qH KX G ..,qH KX G ..,qH KX G ..,qH KX G ..,qH KX G ..,qH KX G ..,qH KX G ..,qH KX G ..,qH KX G ..,qH KX G ..,qH KX G ..,qx ..,qx ..,qx ..,qx ..,qx ..,qx ..,qx ..,qx ..,qx ..,qx ..,qx ..,qx ..,qx ..,qx ..,qx ..,qx ..,qx ..,qx ..,qx ..,qx ..,qx ..,qx ..,qx ..,qx ..,qx ..,qx ..,qx ..,qx ..,qx ..,qx ..,qx ..,qx ..,qx ..,qx ..,qx ..,qx ..,qx ..,qx ..,qx ..,qx ..,qx ..,qx ..,qx ..,qx ..,qx ..,qx ..,qx ..,qx ..,qx ..,qx ..,qx ..,qx ..,qx ..,qx ..,qx ..,qx ..,Nf ?_ ?_ ?_ ?_ ?_ ?_ ?_ ?_ ?_ ?_,KY ?_ ?_ ?_,⟨UK ?_ ?_ ?_ ?_ ?_ ?_ ?_ ?_,?_,?_⟩,Q9 ?_ ?_ ?_ ?_,⟨?_,?_,?_,?_⟩,⟨?_,?_,?_,?_⟩,⟨?_,?_,?_,?_⟩,⟨?_,?_,?_,?_⟩,⟨?_,?_,?_,?_⟩,⟨?_,?_,?_,?_⟩,⟨?_,?_,?_,?_⟩,⟨?_,?_,?_,?_⟩,⟨?_,?_,?_,?_⟩,⟨?_,?_,?_,?_⟩,⟨?_,?_,?_,?_⟩,⟨?_,?_,?_⟩,⟨?_,?_,?_⟩,⟨?_,?_,?_⟩,⟨?_,?_,?_⟩,⟨?_,?_,?_⟩,⟨?_,?_,?_⟩,⟨?_,?_,?_⟩,⟨?_,?_,?_⟩,⟨?_,?_,?_⟩,⟨?_,?_,?_⟩,⟨?_,?_,?_⟩,⟨?_,?_,?_⟩,⟨?_,?_,?_⟩,⟨?_,?_,?_⟩,⟨?_,?_,?_⟩,⟨?_,?_,?_⟩,⟨?_,?_,?_⟩,⟨?_,?_,?_⟩,⟨?_,?_,?_⟩,⟨?_,?_,?_⟩,⟨?_,?_,?_⟩,(qk ?_ (qk ?_ (qk ?_ (qk ?_ (qk ?_ (qk ?_ (qk ?_ (qk ?_ tX)))))))),(qk ?_ (qk ?_ (qk ?_ (qk ?_ (qk ?_ (qk ?_ tX)))))),(qk ?_ (qk ?_ (qk ?_ (qk ?_ (qk ?_ (qk ?_ (qk ?_ (qk ?_ tX)))))))),(qk ?_ (qk ?_ (qk ?_ tX))),(qk ?_ (qk ?_ (qk ?_ tX))),(qk ?_ (qk ?_ (qk ?_ tX))),(qk ?_ (qk ?_ (qk ?_ (qk ?_ (qk ?_ tX))))),(qk ?_ (qk ?_ (qk ?_ tX))),(qk ?_ (qk ?_ (qk ?_ (qk ?_ tX)))),(qk ?_ (qk ?_ tX)),(qk ?_ (qk ?_ tX)),Ny,TB TU ?_ (λ_=>rfl),PySem.W.mg_none_of KX G ?_,PySem.W.mg_none_of KX G ?_,PySem.W.mg_none_of KX G ?_,PySem.W.mg_none_of KX G ?_,PySem.W.mg_none_of KX G ?_,PySem.W.mg_none_of KX G ?_,PySem.W.mg_none_of KX G ?_,PySem.W.mg_none_of KX G ?_,PySem.W.mg_none_of KX G ?_,PySem.W.mg_none_of KX G ?_,PySem.W.mg_none_of KX G ?_,PySem.W.mg_none_of KX G ?_,PySem.W.mg_none_of KX G ?_,wV (PySem.W.mg_of KX G ?_),wV (PySem.W.mg_of KX G ?_),wV (PySem.W.mg_of KX G ?_),wV (PySem.W.mg_of KX G ?_),Q1 (PySem.W.mg_of KX G ?_) (uR (ss:=["all","turns"]) ?_ (.cons ⟨_,rfl⟩ (.cons ⟨_,rfl⟩ .nil)) (Nat.le_of_ble_eq_true rfl)),wV (PySem.W.mg_of KX G ?_),wV (PySem.W.mg_of KX G ?_),wV (PySem.W.mg_of KX G ?_),RY (PySem.W.mg_of KX G ?_),OV (es:=[⟨_,.str "bar" _,.ref _⟩,⟨_,.str "shut" _,.ref _⟩,⟨_,.str "always" _,.ref _⟩,⟨_,.str "night" _,.ref _⟩,⟨_,.str "busy" _,.ref _⟩,⟨_,.str "silent" _,.ref _⟩,⟨_,.str "wait" _,.ref _⟩,⟨_,.str "breaks" _,.ref _⟩]) (PySem.W.mg_of KX G ?_) ?_ ?_ (.cons rfl ⟨_,rfl,(uR (ss:=["phone","names"]) ?_ (.cons ⟨_,rfl⟩ (.cons ⟨_,rfl⟩ .nil)) (Nat.le_of_ble_eq_true rfl))⟩ (.cons rfl ⟨_,rfl,(uR (ss:=["name","phones"]) ?_ (.cons ⟨_,rfl⟩ (.cons ⟨_,rfl⟩ .nil)) (Nat.le_of_ble_eq_true rfl))⟩ (.cons rfl ⟨_,rfl,(uR (ss:=["name","name"]) ?_ (.cons ⟨_,rfl⟩ (.cons ⟨_,rfl⟩ .nil)) (Nat.le_of_ble_eq_true rfl))⟩ (.cons rfl ⟨_,rfl,(uR (ss:=["name","name","hour","hour"]) ?_ (.cons ⟨_,rfl⟩ (.cons ⟨_,rfl⟩ (.cons ⟨_,rfl⟩ (.cons ⟨_,rfl⟩ .nil)))) (Nat.le_of_ble_eq_true rfl))⟩ (.cons rfl ⟨_,rfl,(uR (ss:=["name","name"]) ?_ (.cons ⟨_,rfl⟩ (.cons ⟨_,rfl⟩ .nil)) (Nat.le_of_ble_eq_true rfl))⟩ (.cons rfl ⟨_,rfl,(uR (ss:=["name","name","turns"]) ?_ (.cons ⟨_,rfl⟩ (.cons ⟨_,rfl⟩ (.cons ⟨_,rfl⟩ .nil))) (Nat.le_of_ble_eq_true rfl))⟩ (.cons rfl ⟨_,rfl,(uR (ss:=["phone"]) ?_ (.cons ⟨_,rfl⟩ .nil) (Nat.le_of_ble_eq_true rfl))⟩ (.cons rfl ⟨_,rfl,(uR (ss:=["phone"]) ?_ (.cons ⟨_,rfl⟩ .nil) (Nat.le_of_ble_eq_true rfl))⟩ .nil)))))))),wV (PySem.W.mg_of KX G ?_),wV (PySem.W.mg_of KX G ?_),wV (PySem.W.mg_of KX G ?_)⟩,λs u=>.of_eq rfl⟩
  all_goals try first|k_is|(intro _ _ _ _ _ _ us hl;rcases us with _|⟨_,_|⟨_,_|⟨_,_|⟨_,_|⟨_,_|⟨_,_|⟨_,us⟩⟩⟩⟩⟩⟩⟩<;>first|rfl|(exfalso;revert hl;simp;done))|rfl
