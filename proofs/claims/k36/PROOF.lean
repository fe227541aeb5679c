import PyProof.Rows.All
import Wide.All
import OpenK.AllK
import Wide.FinOn
import PyProof.EqAt
import PyProof.EqKinds
import PyProof.TupleCall
import PyProof.AttrMiss
import PyProof.IsiH_list
import PyProof.Rows.SetFrom
import KE.KDictOf
import KE.KTab
import PyProof.AutoListH
import KE.KSortTup
import KE.KItemsList
import KE.KEqDict
import KE.KIntText
import Lean
import PyProof.RulesRaise
import PyProof.RulesTry
import KE.KTryDeep
import KE.KTryMore
import KE.KTryOn
import KE.TryInHelper
import KE.TryLedger
import PyProof.ExcArgsOwn
import PyProof.ExcAttrAll.ValueError
import KE.KIsAll
import PyProof.ExcBaseAll.ValueError
import PyProof.InstStoreFacts
import PyProof.ExcInit
import PyProof.SeqI3
import PyProof.ConsumeWalk
import PySem.Challenge.RW_callboard_k36_whole_off_wishes
set_option Elab.async false
set_option linter.all false
set_option maxRecDepth 100000
set_option maxHeartbeats 4000000
open LawfulBEq renaming eq_of_beq->wE
open List renaming length_map->cO,getElem?_eq_getElem->cQ,length_append->cR,getElem?_eq_some_iff->cT,mem_cons->cW,mem_singleton->cX,size_toArray->de,getElem?_map->df,mem_map->dq,not_mem_nil->dv,mem_cons_of_mem->dw,map_append->dz,length_nil->dB,mem_cons_self->dD,length_singleton->dG,mem_append->dI,nodup_cons->dM,map_cons->dN,nil_append->dQ,map_map->dS,length_cons->dU,mem_append_right->dY,length_range->dZ,lookup_cons->eh,all_eq_true->eA,replicate_succ->eB,nodup_nil->eC,append_nil->eJ,getElem?_append_right->eN,getD_eq_getElem?_getD->eO,getElem?_append_left->eP,all_cons->eR,append_assoc->eU,mem_append_left->eV,take_length->eY,mem_of_getElem?->e9,mem_filter->fh,find?_cons->fi,length_take->fk,cons_ne_nil->ft,length_pos_iff->fu,getElem?_set_ne->fz,getElem?_set_self->fA,mem_range->fJ,flatten_cons->fK,filter_map->fM,length_filter_le->fN,foldl_cons->fT,filterMap_cons->fU,map_congr_left->fV,filter_sublist->fW,any_cons->fY,exists_cons_of_ne_nil->fZ,filter_cons->gb,length_modify->gc,mem_of_find?_eq_some->gf,nodup_append->gi,take_add_one->gj,length_eq_zero_iff->gk,length_drop->gp,any_eq_true->gu,getLast?_eq_none_iff->gC,getElem_of_mem->gG,find?_eq_none->gL,findIdx?_map->gP,getElem?_eq_none->gR,getElem_mem->gW,map_id->g9,length_set->hU,drop_eq_getElem_cons->hW,getElem?_zip_eq_some->hZ,getLastD_eq_getLast?->h9,contains_cons->ik,filter_cons_of_pos->iq,filter_cons_of_neg->ir,getElem?_cons_zero->iu,range_succ_eq_map->iz,take_of_length_le->iA,findIdx?_eq_some_iff_getElem->iB,length_replicate->iE,getElem?_toArray->iF,map_nil->iI,range_succ->iM,filter_nil->iN,mem_of_mem_take->iO,mem_of_getLast?->iP,dropLast_subset->iQ,getElem?_modify->iR,filter_append->jc,sublist_append_right->jn,pairwise_iff_getElem->jo,getLast?_eq_getElem?->jp,findIdx?_eq_none_iff->jq,all_map->jy,drop_length->jz,set_set->jA,any_map->jD,eq_of_mem_replicate->jE,getElem?_replicate->jF,of_mem_zip->jJ,forIn_cons->jK,forIn_nil->jU,drop_zero->jZ,set_append_right->j4,mem_of_mem_drop->ke,getElem?_zipIdx->kg,map_drop->kr,getElem?_range->ku,filter_eq_self->kz,modify_eq_self->kA,mem_filterMap->kE,getElem_range->kP,filter_filter->kQ,set_cons_succ->kS,any_eq_false->kU,foldl_append->kY,getLast?_map->lq,getElem_inj->lB,zipIdx_cons->lL,getElem_map->lP,zipIdx_nil->lU,any_append->lW,find?_some->lY,map_take->ma,map_set->mo
open PySem renaming wpAny_bind->cP,wpAny_pure->cZ,sizeLine_eq->dF,wpAny_mono->dW,wpAny_holding->eM,wpAny_field->eX,wpAny_truthy_bool->eZ,wpAny_callSpecial?_slot->fG,wpAny_Call_Name_kw->fO,wpAny_call_entry->fP,wpAny_newObj_type->fQ,codeAny_mono->gg,wpAny_seqItems->gq,wpAny_setField_rec->gw,wpAny_passesOwn->gx,mem_of_lookup->gF,wpAny_execs_nil->gH,codeAny_builtin->gJ,wpAny_pyIter_list->gN,wpAny_loadPart_at->gO,wpAny_setField->gS,wpAny_standAt->gY,wpAny_pyIter_tuple->ij,wpAny_call->ip,plainObj_wpAny_Assign_Attribute->iG,codeAny_call_builtin->iJ,wpAny_updateSeq_pair->iK,isSubtype_type->iW,tupleKind_room_in1->iY,slot_dict_contains->ja,wpAny_onRaise->jf,wpAny_sequenceKey->jg,call_meets->jl,wpAny_execs_cons->js,wpAny_typeOf->jv,wpAny_comprehension_free->jx,codeAny_of_tree->jM,wpAny_specialOf->jN,builtinLookup_eq_fast->jV,weight_type_call_type->jW,getitemInPython_of_ne->jX,wpAny_rule->j7,wpAny_letTemporaryGo->j9,plainId_quiet->ko,wpAny_isSubtype_exc->ky,concat_meets->kF,seqIndex_neg->kH,wpAny_assign_Name->kT,slot_list_getitem->kX,slot_dict_getitem->k9,wpAny_pyIter_enum->lb,seqIndex_of->ls,wpAny_letGo->lu,wpAny_pyHash_str->lz,wpAny_eqBool_int->lA,wpAny_lookBehind->lC,pastItsLine_dict->lD,noFill_tuple_add->lF,check_set_init_1->lK,wpAny_pyIter_zip->lN,wpAny_Name->lQ,typeIs_int->lR,Addr->Uf,sizeLine->Ch,wpAny->pi,model->Tk,starEach->Tl,Expr->zn,bootBuiltins->Go,Heap->No,eval->wp,compareOp->Op,keywordEach->Ps,FuncData->Rs,attributeBase->At,mainGlobals->wv,backTo->Ix,holding->xz,Stmt->sB,swapsWith->ZB,backToKw->dL,IsPair->xL,assignEach->IN,binaryOp->wP,NameKind->wS,behindInMarks->wT,foldedSetIterable->AT,sysModules->XV,getMethod->TW,ExcBaseFacts->o0,rawInt->X',cLine->Y',scanBound->Z',excClassObj->XXa,standAt->XXb,Scope->XXc,Keyword->XXd,getItem->XXe,sliceBounds->XXf,callWith->XXg,letOwnedTupleGo->XXh,codeAny->XXi,IsZip->XXj,Operator->XYa
def cS:=@if_neg
def cV:=@if_pos
def dP:=@decide_eq_true
def dX:=@decide_eq_true_eq
def eE:=@congrArg
def eF:=@or_false
def eI:=@decide_eq_false
def eW:=@beq_iff_eq
def fC:=@beq_self_eq_true
def fF:=@not_or
def fL:=@of_decide_eq_true
def gm:=@beq_eq_false_iff_ne
def iV:=@if_true
def j6:=@if_false
def lj:=@bne_self_eq_false
open PySem.Heap renaming get?_push_of_some->cU,lt_size->dg,get?_push_size->dA,size_push->fg,get?_update_self->fE,get?_update_other->fX,get?_none_of_le->gB,get?_push_ne->iy,size_update->iD,get?_update_ne->iT
open Option.some renaming inj->cY,injEq->ji
open Nat renaming le_refl->c9,ne_of_lt->dC,lt_of_lt_of_le->dJ,le_trans->dR,zero_le->d9,lt_irrefl->eQ,lt_succ_self->fB,lt_succ_of_lt->fR,ne_of_gt->gD,le_succ->gM,sub_self->gT,succ_le_succ->gX,lt_trans->ib,lt_of_le_of_lt->im,le_add_right->iC,le_succ_of_le->jj,le_of_lt->jr,le_of_not_lt->jw,mul_le_mul->jY,sub_zero->kK,min_eq_left->lX,le_of_eq->mf,succ_mul->mi,zero_add->mj,succ_pos->mq
open Bool renaming false_ne_true->dh,eq_false_iff->dE,and_eq_true->dO,true_and->eD,false_and->eL,false_or->fH,eq_iff_iff->gh,not_eq_true'->gA,or_eq_true->gK,true_or->gQ,not_eq_false->jk,or_false->km,false_eq_true->kN,or_true->kO,beq_comm->l8,true->pc,false->lf
open Ne renaming symm->dH
open Int renaming eq_ofNat_of_zero_le->d6,emod_lt_of_pos->eG,emod_nonneg->eK,toNat_natCast->gz,zero_add->io,mul_le_mul_of_nonneg_left->iS,emod_add_mul_ediv->j3
open PySem.PassesOwn renaming never->fj
open PySem.F renaming called_set->fm,slot_tuple_iterator_next->gy,slot_list_getattribute->ic,slot_zip_next->iL,args_tuple_iterator_next_1->iX,entry_tuple_iterator_next->jb,slot_dict_getitem->jm,args_tuple_add_2->ju,store_ValueError->jC,entry_tuple_add->jG,slot_dict_items->jI,slot_tuple_add->jQ,excBase_ValueError->kc,entry_type_call->kZ,args_zip_next_1->lh,typeCall_set_1->lH,entry_set_init->lJ,entry_zip_next->lM,slot_int_rmul->lT
open PyProof.Rows renaming slot_tuple_getitem->fv,callWith_type1->fS,callWith_builtin1->gI,SetOf_congr->ig,setObjOf_fresh->iZ,subscriptTail_builtinR->jR,listUpdate_at->kq,entry_tuple_getitem->kt,args_tuple_getitem->kG,seqEpoch_at->ly,size_push'->lV,seqObj->TD,envOfC->sK,AllBare->XXk
open List.cons renaming inj->fD
open PyProof.Rows.F renaming plain_set_update_loop->gv,entry_set_update_loop->ie
open PySem.Around renaming under_plainId->gU,under_plain->kI
open Array renaming getElem?_setIfInBounds_self_of_lt->gZ,length_toList->hJ,toList_append->iU,size_setIfInBounds->jB,mem_toList_iff->j5,append_assoc->kD
open PySem.Calls renaming spliced_cons->ia,spliced_nil->iw,Name_function_global->je,callWith_builtin->jS
open PySem.Code renaming quiet_builtin->ii
open List.Nodup renaming sublist->il
open PySem.W renaming callWith_K->iH,methodCall_KW->jO,plainGet_of->kh,looks_clsIn->kl,cellsFrom_some->lE,looks_findIn->lZ
open PySem.Paired renaming length->jd,snoc->mw
open Option renaming isSome_map->jh,isSome_iff_exists->jt,map_some->jL,map_eq_some_iff->jT,getD_none->lG,bind_some->lO,some->Fa,none->Db
open Sum.inr renaming inj->jP
open PySem.Walks renaming list->j8
open PySem.Heap.SameBut renaming update->kx
open PySem.SeqAt.EqAt renaming int_str->kB,str_int->kC
open PySem.Obj renaming data_mapFields->kM
open PySem.Heap.Ns1 renaming of_empty->kW
open Eq renaming symm->l0
open PySem.W.Looks renaming here->me
open Prod renaming ext->mh
open PySem.Heap.FunFrames renaming of_keeps->mv
open PySem.Moved renaming trans->mx
open PySem.Heap.IsSliceOf renaming new->my
abbrev qw:=PySem.W.Frag
local macro_rules | `(tactic| walk_at "l") => `(tactic| (intro _ _ _ h; repeat (first | (obtain ⟨e, _⟩ := h; subst e; rfl; done) | (cases h; rename_i h))))
local macro_rules | `(tactic| walk_at "m") => `(tactic| (intro _ _ _ _ h; repeat (first | (obtain ⟨e, _⟩ := h; subst e; rfl; done) | (cases h; rename_i h))))
abbrev Vl:=PySem.Value
abbrev Sd:=PySem.Shared
abbrev Pg:=PySem.Program
abbrev Ar:=PySem.Around
abbrev Wo:=PySem.World
abbrev T0(α:Type _):=List α
abbrev QQQ:=List PySem.Str
abbrev QQX:=PySem.Value->PySem.Shared->Prop
abbrev QQY:=List (PySem.Addr×PySem.Obj)
abbrev QQZ:=PySem.Str->Option PySem.Value
abbrev QXQ:=List PySem.Addr
section
open PySem PySem.Spec PyProof.Rows
namespace L2
def x5{α:Sort u}{β:Sort v}{p q r:α->β->Prop}{C:Prop}(h:∃a b,p a b/\q a b/\r a b)(f:∀a b,p a b->q a b->r a b->C):C:=by obtain⟨a,b,h1,h2,h3⟩:=h;exact f a b h1 h2 h3
abbrev qX:=Sum Int Str
def BQ:qX->Vl->Bool
 | .inl k,v=>Value.isInt k v
 | .inr x,v=>Value.isStrOf x v
def Wa(w:Wo):qX->Int
 | .inl k=>hashInt k
 | .inr x=>hashStr w x
def rW:∀{k:qX} {v:Vl},BQ k v=pc->(∃i t,k=Sum.inl i/\v=Value.int i t)\/(∃x t,k=Sum.inr x/\v=Value.str x t)
 | .inl i,v,h=>by obtain⟨t,e⟩:=Value.isInt_shape (k:=i) (v:=v) h;exact .inl ⟨i,t,rfl,e⟩
 | .inr x,v,h=>by obtain⟨t,e⟩:=Value.isStrOf_shape (x:=x) (v:=v) h;exact .inr ⟨x,t,rfl,e⟩
def J5(i:Int)(t:Tok):BQ (.inl i) (.int i t)=pc:=by simp[BQ,Value.isInt]
def KM(x:Str)(t:Tok):BQ (.inr x) (.str x t)=pc:=by simp[BQ,Value.isStrOf]
def RL(a b:Int):decide ((Sum.inl a:qX)=Sum.inl b)=(a==b):=by
 by_cases e:a=b
 .subst e;simp
 .have h:¬(Sum.inl a:qX)=Sum.inl b:=λq=>e (Sum.inl.inj q);rw[eI h];exact(gm.mpr e).symm
def SK(a b:Str):decide ((Sum.inr a:qX)=Sum.inr b)=decide (a=b):=by
 by_cases e:a=b
 .subst e;simp
 .have h:¬(Sum.inr a:qX)=Sum.inr b:=λq=>e (jP q);rw[eI h,eI e]
def RP(a:Int)(b:Str):decide ((Sum.inl a:qX)=Sum.inr b)=lf:=eI (λq=>nomatch q)
def Q8(a:Str)(b:Int):decide ((Sum.inr a:qX)=Sum.inl b)=lf:=eI (λq=>nomatch q)
def rA(prog:Pg)(w:Wo):PySem.KeyKind prog w qX where
 is:=BQ
 hash:=Wa w
 inj:=λv a b ha hb=>by
  rcases rW ha with⟨i,t,rfl,rfl⟩|⟨x,t,rfl,rfl⟩
  .rcases rW hb with⟨j,u,rfl,e⟩|⟨y,u,rfl,e⟩
   .injection e with e1 _;rw[e1]
   .exact nomatch e
  .rcases rW hb with⟨j,u,rfl,e⟩|⟨y,u,rfl,e⟩
   .exact nomatch e
   .injection e with e1 _;rw[e1]
 byValue:=λk v h=>by rcases rW h with⟨i,t,rfl,rfl⟩|⟨x,t,rfl,rfl⟩<;>rfl
 pyHash:=λhv h=>by
  rcases rW hv with⟨i,t,rfl,rfl⟩|⟨x,t,rfl,rfl⟩
  .exact wpAny_pyHash_int h
  .exact lz h
 eqBool:=λhu hv h=>by
  rcases rW hu with⟨i,t,rfl,rfl⟩|⟨x,t,rfl,rfl⟩
  .rcases rW hv with⟨j,u,rfl,rfl⟩|⟨y,u,rfl,rfl⟩
   .rw[RL]at h;exact lA h
   .rw[RP]at h;exact kB i t y u _ _ _ _ h
  .rcases rW hv with⟨j,u,rfl,rfl⟩|⟨y,u,rfl,rfl⟩
   .rw[Q8]at h;exact kC x t j u _ _ _ _ h
   .rw[SK]at h;exact wpAny_eqBool_str h
 «strs»:=λk x t v h=>by
  rcases rW h with⟨i,u,rfl,e⟩|⟨y,u,rfl,e⟩
  .exact nomatch e
  .injection e with e1 _
   subst e1;cases v<;>rfl
def G6(prog:Pg)(w:Wo)(i:Int)(t:Tok):(rA prog w).is (.inl i) (.int i t)=pc:=J5 i t
def AG(prog:Pg)(w:Wo)(x:Str)(t:Tok):(rA prog w).is (.inr x) (.str x t)=pc:=KM x t
inductive V where
 | mG|bl (b:Bool)|int (i:Int)|str (x:Str)|byt (b:Array UInt8)|flt (b:UInt64)|ref (a:Uf)|ty (n:String)
 deriving DecidableEq
def qQ:V->Vl->Prop
 | .mG,u=>u=Value.none
 | .bl b,u=>u=Value.bool b
 | .int i,u=>∃t,u=Value.int i t
 | .str x,u=>∃t,u=Value.str x t
 | .byt b,u=>∃t,u=Value.bytes b t
 | .flt b,u=>∃t,u=Value.float b t
 | .ref a,u=>u=Value.ref a
 | .ty n,u=>u=Value.type n
abbrev qE:T0 V->T0 Vl->Prop:=Paired qQ
def qE.length(r:qE xs us):xs.length=us.length:=jd r
theorem qE.get:∀{xs:T0 V} {us:T0 Vl} {i:Nat} {x:V},qE xs us->xs[i]?=Fa x->∃u,us[i]?=Fa u/\qQ x u
 | _,_,_,_,.nil,e=>by simp at e
 | _,_,0,_,.cons r _,e=>by simp at e;subst e;exact⟨_,rfl,r⟩
 | _,_,i+1,x,.cons _ t,e=>by obtain⟨u,h1,h2⟩:=qE.get (i:=i) (x:=x) t (by simpa using e);exact⟨u,by simpa using h1,h2⟩
theorem qE.set(r:qQ x u):∀{xs:T0 V} {us:T0 Vl} (i:Nat),qE xs us->qE (xs.set i x) (us.set i u)
 | _,_,_,.nil=>.nil
 | _,_,0,.cons _ t=>.cons r t
 | _,_,i+1,.cons q t=>.cons q (qE.set r i t)
theorem qE.append:∀{xs ys:T0 V} {us ws:T0 Vl},qE xs us->qE ys ws->qE (xs++ys) (us++ws)
 | _,_,_,_,.nil,s=>s
 | _,_,_,_,.cons r t,s=>.cons r (qE.append t s)
theorem qE.take:∀{xs:T0 V} {us:T0 Vl} (n:Nat),qE xs us->qE (xs.take n) (us.take n)
 | _,_,0,_=>.nil
 | _,_,_+1,.nil=>.nil
 | _,_,n+1,.cons r t=>.cons r (qE.take n t)
theorem qE.drop:∀{xs:T0 V} {us:T0 Vl} (n:Nat),qE xs us->qE (xs.drop n) (us.drop n)
 | _,_,0,r=>r
 | _,_,_+1,.nil=>.nil
 | _,_,n+1,.cons _ t=>qE.drop n t
def yu:Option V->Option Vl->Prop
 | some v,Fa u=>qQ v u
 | none,none=>True
 | _,_=>False
def KV{κ:Type}:T0 (κ×V)->T0 (κ×Vl)->Prop:=Paired λ(p:κ×V) (q:κ×Vl)=>p.1=q.1/\qQ p.2 q.2
def kV:qX->V
 | .inl i=>.int i
 | .inr x=>.str x
inductive HO where
 | lst (xs:List V)
 | tup (xs:List V)
 | dK (kvs:List (qX×V))|dT (kvs:List (List qX×V))
 | set (S:Int->Bool) (n:Nat)
 | ins (C dx:Uf) (fs:List (Str×V))
 | own (x:Uf)
 | xd (fs:List (Str×V))
 | met (f x:Uf)
 | rng (lo hi:Int)
 | frz (o:Obj) (u:HO)
 | tbl (ps:Array Vl)
 | ext (φ:No->Prop)
abbrev Hp:=Uf->Option HO
def upd(H:Hp)(a:Uf)(o:HO):Hp:=λb=>if b=a then Fa o else H b
def ql:upd H a o a=Fa o:=by unfold upd;rw[cV rfl]
def qa{a b:Uf}(h:b≠a):upd H a o b=H b:=by unfold upd;rw[cS h]
def Qo:upd (upd H a o) a u=upd H a u:=by funext b;unfold upd;split<;>rfl
def T4{H:Hp}{a b:Uf}{o u:HO}(h:H a=Fa o)(h':H b=Fa u)(d:o≠u):a≠b:=by intro e;subst e;rw[h]at h';exact d (cY h')
def qS{H:Hp}{a b:Uf}{o:HO}(h:H a=Fa o)(h':H b=Db):a≠b:=by intro e;subst e;rw[h]at h';cases h'
section
variable (P:Pg)(w:Wo)
def FL(h:No)(a:Uf)(its:Array Vl):Prop:=∃o,h.get? a=Fa o/\o.cls=.type "tuple"/\(∃n,o.data=.seq its n)/\o.dict=Db
def tD(H:Hp)(h:No)(a:Uf):HO->Prop
 | .lst xs=>xs.length<=Ch/\∃(its:T0 Vl) (n:Nat),qE xs its/\h.get? a=Fa {cls:=.type "list",data:=.seq its.toArray n}
 | .tup xs=>xs.length<=Ch/\∃its:T0 Vl,qE xs its/\FL h a its.toArray
 | .dK kvs=>kvs.length<=Ch/\(a==XV)=lf/\∃vs,KV kvs vs/\h.DictOf (rA P w) a vs
 | .dT kvs=>kvs.length<=Ch/\(a==XV)=lf/\∃xs:T0 (List qX×Uf×Vl),Paired (λ(p:List qX×V) (q:List qX×Uf×Vl)=>p.1=q.1/\H q.2.1=Fa (.tup (p.1.map kV))/\qQ p.2 q.2.2) kvs xs/\
   ∃o es ep,h.get? a=Fa o/\o.ExactDict/\o.data=.dict es ep/\es.toList=xs.map (entryOfKey (tupleKind (rA P w)))/\(xs.map (·.1)).Nodup
 | .set S n=>h.SetOf (intKind P w) a S n
 | .ins C dx fs=>H dx=Fa (.own a)/\fs.length<=1000/\dx≠a/\h.get? a=Fa (W.instObj C dx)/\
   ∃mA,h.Ns1 dx mA/\(∀f,yu (fs.lookup f) (mA f))/\PySem.Within mA (fs.map (·.1))
 | .own _=>∃o,h.get? a=Fa o
 | .xd fs=>∃mA,h.Ns1 a mA/\∀f,yu (fs.lookup f) (mA f)
 | .rng lo hi=>∃t u v,h.get? a=Fa {cls:=.type "range",data:=.fields #[.int lo t,.int hi u,.int 1 v]}
 | .frz o u=>h.get? a=Fa o/\tD H h a u
 | .tbl ps=>h.get? a=Fa {cls:=.none,data:=.fields ps}
 | .met f x=>h.get? a=Fa (W.methodObj (.ref f) (.ref x))
 | .ext φ=>φ h/\(∃o,h.get? a=Fa o)/\∀h1 h2:No,φ h1->(∀o,h1.get? a=Fa o->h2.get? a=Fa o)->φ h2
def yx(H:Hp)(h:No):Prop:=∀a o,H a=Fa o->tD P w H h a o
end
variable {H H':Hp}{h h':No}
section
variable {P:Pg}{w:Wo}{a:Uf}{o:HO}
def FL.is(x:FL h a its):IsTup h a its:=let⟨o,e,c,d,_⟩:=x;⟨o,e,c,d⟩
def FL.new(h:No)(Xd:Array Vl):FL (h.push {cls:=.type "tuple",data:=.seq Xd}) h.objs.size Xd:=⟨_,dA _ rfl,rfl,⟨_,rfl⟩,rfl⟩
def tD.lt(x:tD P w H h a o):a<h.objs.size:=by
 cases o with
 | lst xs=>obtain⟨_,_,_,_,e⟩:=x;exact dg e
 | tup xs=>obtain⟨_,_,_,_,e,_⟩:=x;exact dg e
 | dK kvs=>obtain⟨_,_,_,_,o,_,_,e,_⟩:=x;exact dg e
 | dT kvs=>obtain⟨_,_,_,_,o,_,_,e,_⟩:=x;exact dg e
 | set S n=>obtain⟨o,_,_,_,e,_⟩:=x;exact dg e
 | ins C dx fs=>obtain⟨_,_,_,e,_⟩:=x;exact dg e
 | own y=>obtain⟨_,e⟩:=x;exact dg e
 | xd fs=>obtain⟨_,⟨_,_,_,e,_⟩,_⟩:=x;exact dg e
 | rng lo hi=>obtain⟨_,_,_,e⟩:=x;exact dg e
 | frz ob u=>obtain⟨e,_⟩:=x;exact dg e
 | tbl ps=>exact dg (show h.get? a=Fa _ from x)
 | met f y=>exact dg (show h.get? a=Fa _ from x)
 | ext φ=>obtain⟨_,⟨_,e⟩,_⟩:=x;exact dg e
theorem Paired.oA{α β:Type}{F G:α->β->Prop}:∀{l₁:List α} {l₂:List β},Paired F l₁ l₂->(∀a b,F a b->G a b)->Paired G l₁ l₂
 | _,_,.nil,_=>.nil
 | _,_,.cons r t,f=>.cons (f _ _ r) (Paired.oA t f)
def tD.ng(x:tD P w H h a o)(k:∀b u,(b=a\/H b=Fa (.own a))->h.get? b=Fa u->h'.get? b=Fa u) (ho:∀b,H b=Fa (.own a)->H' b=Fa (.own a)) (ht:∀b xs,H b=Fa (.tup xs)->H' b=Fa (.tup xs)):tD P w H' h' a o:=by
 induction o with
 | lst xs=>obtain⟨z,its,n,r,e⟩:=x;exact⟨z,its,n,r,k _ _ (.inl rfl) e⟩
 | tup xs=>obtain⟨z,its,r,ob,e,c⟩:=x;exact⟨z,its,r,ob,k _ _ (.inl rfl) e,c⟩
 | dK kvs=>obtain⟨z,y,vs,r,ob,es,ep,e,c⟩:=x;exact⟨z,y,vs,r,ob,es,ep,k _ _ (.inl rfl) e,c⟩
 | dT kvs=>obtain⟨z,y,xs,r,ob,es,ep,e,c⟩:=x;exact⟨z,y,xs,Paired.oA r λp q z=>⟨z.1,ht _ _ z.2.1,z.2.2⟩,ob,es,ep,k _ _ (.inl rfl) e,c⟩
 | set S n=>obtain⟨ob,es,ep,t,e,c⟩:=x;exact⟨ob,es,ep,t,k _ _ (.inl rfl) e,c⟩
 | ins C dx fs=>obtain⟨d,z,ne,e,mA,⟨od,es,ep,e2,c⟩,r⟩:=x;exact⟨ho _ d,z,ne,k _ _ (.inl rfl) e,mA,⟨od,es,ep,k _ _ (.inr d) e2,c⟩,r⟩
 | own y=>obtain⟨ob,e⟩:=x;exact⟨ob,k _ _ (.inl rfl) e⟩
 | xd fs=>obtain⟨mA,⟨od,es,ep,e,c⟩,r⟩:=x;exact⟨mA,⟨od,es,ep,k _ _ (.inl rfl) e,c⟩,r⟩
 | rng lo hi=>obtain⟨t,u,v,e⟩:=x;exact⟨t,u,v,k _ _ (.inl rfl) e⟩
 | frz ob u ih=>obtain⟨e,q⟩:=x;exact⟨k _ _ (.inl rfl) e,ih q⟩
 | tbl ps=>have e:h.get? a=Fa {cls:=.none,data:=.fields ps}:=x;show h'.get? a=Fa {cls:=.none,data:=.fields ps};exact k a _ (.inl rfl) e
 | met f y=>have e:h.get? a=Fa (W.methodObj (.ref f) (.ref y)):=x;show h'.get? a=Fa (W.methodObj (.ref f) (.ref y));exact k a _ (.inl rfl) e
 | ext φ=>obtain⟨p,⟨o,e⟩,st⟩:=x;exact⟨st _ _ p λo q=>k _ _ (.inl rfl) q,⟨o,k _ _ (.inl rfl) e⟩,st⟩
def yx.lt(x:yx P w H h)(e:H a=Fa o):a<h.objs.size:=(x a o e).lt
def yx.fresh(x:yx P w H h)(e:h.objs.size<=a):H a=Db:=by
 cases q:H a with
 | none=>rfl
 | some u=>exact absurd (dJ (x.lt q) e) (eQ _)
def yx.kept(x:yx P w H h)(k:∀b u,h.get? b=Fa u->h'.get? b=Fa u):yx P w H h':=λa o e=>(x a o e).ng (λb u _ q=>k b u q) (λ_ q=>q) λ_ _ q=>q
def yx.laid(x:yx P w H h)(k:∀b u,h.get? b=Fa u->h'.get? b=Fa u)(hp:h.objs.size<=a)(new:tD P w (upd H a o) h' a o):yx P w (upd H a o) h':=λb u e=>by
 have hn:=x.fresh hp;by_cases hb:b=a
 .subst hb;rw[ql]at e;cases e;exact new
 .rw[qa hb]at e;exact(x b u e).ng (λc v _ q=>k c v q) (λc q=>by rw[qa (qS q hn)];exact q) λc xs q=>by rw[qa (qS q hn)];exact q
end
def Rd(H:Hp)(a:Uf)(u:HO):Prop:=H a=Fa u\/∃o,H a=Fa (.frz o u)
def Rd.ok(r:Rd H a u)(x:yx P w H h):tD P w H h a u:=by
 rcases r with r|⟨o,r⟩
 .exact x a u r
 .obtain⟨_,q⟩:=x a _ r;exact q
def TV:Option HO->Prop
 | some (.lst _)=>True
 | some (.dK _)=>True
 | some (.dT _)=>True
 | some (.set _ _)=>True
 | some (.ins _ _ _)=>True
 | some (.ext _)=>True
 | _=>False
variable {o':HO}
section
variable {P:Pg}{w:Wo}{x e:Uf}
def yx.write(ok:yx P w H h)(mu:TV (H x))(he:e=x\/H e=Fa (.own x))(k:∀b u,b≠e->h.get? b=Fa u->h'.get? b=Fa u)(heo:∃u,h'.get? e=Fa u) (new:tD P w (upd H x o') h' x o'):yx P w (upd H x o') h':=λb u q=>by
 have nown:∀c y,H c=Fa (.own y)->c≠x:=λc y r z=>by subst z;rw[r]at mu;exact mu
 have ntup:∀c xs,H c=Fa (.tup xs)->c≠x:=λc xs r z=>by subst z;rw[r]at mu;exact mu
 by_cases hb:b=x
 .subst hb;rw[ql]at q;cases q;exact new
 .rw[qa hb]at q;by_cases hbe:b=e
  .have q':H b=Fa (.own x):=by
    rcases he with z|z
    .exact absurd (hbe.trans z) hb
    .rw[hbe];exact z
   rw[q]at q';cases q';obtain⟨v,hv⟩:=heo;exact⟨v,by rw[hbe];exact hv⟩
  .refine(ok b u q).ng (λc v hc r=>k c v ?_ r) (λc r=>by rw[qa (nown c b r)];exact r) λc xs r=>by rw[qa (ntup c xs r)];exact r
   rcases hc with rfl|hc
   .exact hbe
   .rintro rfl
    rcases he with z|z
    .exact nown c b hc z
    .rw[hc]at z;cases z;exact hb rfl
end
structure Un(fs ex:QXQ)(H H':Hp)(h h':No):Prop where
 keep:∀b o,h.get? b=Fa o->H b=Db->b∉fs->b∉ex->h'.get? b=Fa o
 slot:∀b o,h.get? b=Fa o->H b=Db->b∈fs->b∉ex->∃sl,h'.get? b=Fa {o with slots:=sl}
 free:∀b o,h.get? b=Fa o->H b=Db->b∉ex->H' b=Db
 there:∀b o,h.get? b=Fa o->b∉ex->∃o',h'.get? b=Fa o'
 ny:∀b xs,H b=Fa (.tup xs)->H' b=Fa (.tup xs)
 nu:∀b o u,H b=Fa (.frz o u)->H' b=Fa (.frz o u)
 nC:∀b ps,H b=Fa (.tbl ps)->∃more,H' b=Fa (.tbl (ps++more))
variable {ex ex':QXQ}{H1 H2:Hp}{h1 h2:No}
section
variable {fs fs':QXQ}{a x e:Uf}{o:HO}
def Un.any(u:Un fs ex H H1 h h1){b:Uf}{ob:Obj}(q:h.get? b=Fa ob)(n:H b=Db)(hx:b∉ex):∃sl,h1.get? b=Fa {ob with slots:=sl}:=by
 by_cases hb:b∈fs
 .exact u.slot b ob q n hb hx
 .exact⟨ob.slots,u.keep b ob q n hb hx⟩
def Un.trans(a:Un fs ex H H1 h h1)(b:Un fs ex H1 H2 h1 h2):Un fs ex H H2 h h2 where
 keep:=λc ob q n hc hx=>b.keep c ob (a.keep c ob q n hc hx) (a.free c ob q n hx) hc hx
 slot:=λc ob q n hc hx=>by obtain⟨sl,e1⟩:=a.slot c ob q n hc hx;obtain⟨YE,e2⟩:=b.slot c _ e1 (a.free c ob q n hx) hc hx;exact⟨YE,e2⟩
 free:=λc ob q n hx=>by obtain⟨o',e1⟩:=a.there c ob q hx;exact b.free c o' e1 (a.free c ob q n hx) hx
 there:=λc ob q hx=>by obtain⟨o',e1⟩:=a.there c ob q hx;exact b.there c o' e1 hx
 ny:=λc xs q=>b.ny c xs (a.ny c xs q)
 nu:=λc ob xs q=>b.nu c ob xs (a.nu c ob xs q)
 nC:=λc ps q=>by obtain⟨m1,e1⟩:=a.nC c ps q;obtain⟨m2,e2⟩:=b.nC c _ e1;exact⟨m1++m2,by rw[e2,kD]⟩
def Un.kept(k:∀b u,h.get? b=Fa u->h'.get? b=Fa u):Un fs ex H H h h':=
 ⟨λb ob q _ _ _=>k b ob q,λb ob q _ _ _=>⟨ob.slots,k b ob q⟩,λ_ _ _ n _=>n,λb ob q _=>⟨ob,k b ob q⟩,λ_ _ q=>q,λ_ _ _ q=>q,λ_ ps q=>⟨#[],by rw[q];simp⟩⟩
def Un.refl:Un fs ex H H h h:=Un.kept λ_ _ q=>q
def Un.laid(k:∀b u,h.get? b=Fa u->h'.get? b=Fa u)(hp:h.objs.size<=a)(hn:H a=Db):Un fs ex H (upd H a o) h h' where
 keep:=λb u q _ _ _=>k b u q
 slot:=λb u q _ _ _=>⟨u.slots,k b u q⟩
 free:=λb u q n _=>by rw[qa (dC (dJ (dg q) hp))];exact n
 there:=λb u q _=>⟨u,k b u q⟩
 ny:=λb xs q=>by rw[qa (qS q hn)];exact q
 nu:=λb u xs q=>by rw[qa (qS q hn)];exact q
 nC:=λb ps q=>⟨#[],by rw[qa (qS q hn),q];simp⟩
def Un.write(mu:TV (H x))(he:e=x\/H e=Fa (.own x))(k:∀b u,b≠e->h.get? b=Fa u->h'.get? b=Fa u)(heo:∃u,h'.get? e=Fa u):Un fs ex H (upd H x o) h h':=by
 have hx:∀b,H b=Db->b≠x:=λb n z=>by subst z;rw[n]at mu;exact mu
 have hb:∀b,H b=Db->b≠e:=λb n z=>by
  subst z;rcases he with r|r
  .exact hx b n r
  .rw[n]at r;cases r
 have hm:∀b u,H b=Fa u->¬TV (Fa u)->b≠x:=λb u q nm z=>by subst z;rw[q]at mu;exact nm mu
 refine⟨λb u q n _ _=>k b u (hb b n) q,λb u q n _ _=>⟨u.slots,k b u (hb b n) q⟩,λb u q n _=>by rw[qa (hx b n)];exact n,λb u q _=>?_,λb xs q=>by rw[qa (hm b _ q λz=>z)];exact q,λb u xs q=>by rw[qa (hm b _ q λz=>z)];exact q,λb ps q=>⟨#[],by rw[qa (hm b _ q λz=>z),q];simp⟩⟩
 by_cases hbe:b=e
 .subst hbe;exact heo
 .exact⟨u,k b u hbe q⟩
end
def Vd(h:No)(H:Hp):QXQ:=(List.range h.objs.size).filter λa=>(H a).isSome
def Ff(h:No)(H:Hp):No:=W.hideAll h (Vd h H)
def Kn(h:No)(H:Hp):(Ff h H).objs.size=h.objs.size:=W.hideAll_size _ _
def LP{h:No}{H:Hp}{b:Uf}{o:Obj}(e:h.get? b=Fa o)(n:H b=Db):(Ff h H).get? b=Fa o:=
 W.hideAll_get _ e λhm=>by have q:(H b).isSome=pc:=(fh.mp hm).2;rw[n]at q;simp at q
def QD{b:Uf}{o:Obj}(e:(Ff h H).get? b=Fa o):h.get? b=Fa o/\H b=Db:=by
 have e':h.get? b=Fa o:=W.of_hideAll (Vd h H) e;refine⟨e',?_⟩;cases q:H b with
 | none=>rfl
 | some x=>have hm:b∈Vd h H:=fh.mpr ⟨fJ.mpr (dg e'),by simp[q]⟩;have z:(Ff h H).get? b=Db:=W.hideAll_none (Vd h H) hm;rw[z]at e;cases e
structure Mod(K:qw)(mg:QQZ)(base:No):Prop where
 oj:K.In base
 glob:base.Ns wv mg
 blt:∃mb,base.Ns builtinsNs mb/\∀x:Str,x≠"__name__"->mb x=Go x
 nolimit:base.NoLimit
structure Cx where
 prog:Pg
 w:Wo
 K:qw
 mg:QQZ
 base:No
 A:Ar
 N:QQQ
 s₀:Sd
 H₀:Hp
 env:Env
 outer:List Env
 stack:List Env
 ex:QXQ
 fn:Str->Bool
 calm:Bool
 pn:QQY
 xe:QQX
abbrev Bp(X:Cx)(e:zn)(es:T0 zn):Prop:=Tl (e::es) X.env=(lf,wp e X.env)::Tl es X.env
abbrev CU(X:Cx)(p:Pos)(es:T0 zn):Prop:=(Ix p (Tl es X.env)).any (·.1)=lf
abbrev zR(x:Str):Prop:=(x==("__debug__":Str))=lf
abbrev MR(X:Cx)(x:Str):Prop:=X.fn x=pc\/X.env.scope.names.lookup x=Fa .local
def wq(l:T0 Env):QXQ:=l.filterMap (·.frame)
abbrev Cx.fs(X:Cx):QXQ:=wq X.outer
def Uu(sc:XXc)(x:Str):Prop:=sc.names.lookup x=Fa .local\/sc.names.lookup x=Fa .cell\/sc.names.lookup x=Fa .free
def La(sc:XXc)(x:Str):Prop:=sc.names.lookup x=Fa .local\/sc.names.lookup x=Fa .cell
def Vs(env:Env)(h:No)(m:QQZ)(x:Str)(u:Vl):Prop:=
 (env.kindOf x=Fa .local/\m x=Fa u)\/((env.kindOf x=Fa .cell\/env.kindOf x=Fa .free)/\∃c,env.cells.lookup x=Fa c/\h.IsCell c (Fa u))
structure Cx.Ok(X:Cx):Prop where
 mod:Mod X.K X.mg X.base
 kind:X.env.scope.kind=.function
 glob:X.env.globals=wv
 blt:X.env.builtins=builtinsNs
 above:X.s₀.heap.objs.size<=X.env.locals
 inj:∀x y c,X.env.cells.lookup x=Fa c->X.env.cells.lookup y=Fa c->x=y
 has:∀x,(X.env.kindOf x=Fa .cell\/X.env.kindOf x=Fa .free)->∃c,X.env.cells.lookup x=Fa c
 ou:∀x c,X.fn x=pc->X.env.cells.lookup x=Fa c->X.s₀.heap.objs.size<=c
 hd:X.calm=pc->X.A.handled=Db
 frames:X.A.frames=Fa X.stack
 oJ:X.stack=X.outer\/(X.stack=X.env::X.outer/\X.env.frame=Fa X.env.locals)
 oY:∀b∈X.ex,b≠X.env.locals/\∀x c,X.env.cells.lookup x=Fa c->c≠b
 bs:∀b o,X.base.get? b=Fa o->X.s₀.heap.get? b=Fa o/\X.H₀ b=Db
 nW:X.base.objs.size<=X.s₀.heap.objs.size
 nL:∀b o,X.base.get? b=Fa o->b∉X.ex
 nQ:∀b∈X.ex,b∉X.fs
 nj:X.s₀.heap.FunFrames X.base X.outer
 oi:∀b∈X.fs,X.H₀ b=Db
structure Inv(X:Cx)(Xc:QQY)(Y:List (Option V))(H:Hp)(s:Sd):Prop where
 ok:X.Ok
 os:s.os=X.s₀.os
 bare:XXk s.gens
 base:Un X.fs X.ex X.H₀ H X.s₀.heap s.heap
 loc:∃m,s.heap.Ns X.env.locals m/\∀(i:Nat) (x:Str) (v:V),X.N[i]?=Fa x->Y[i]?=Fa (Fa v)->Uu X.env.scope x->∃u,qQ v u/\Vs X.env s.heap m x u
 cell:∀x c,X.env.cells.lookup x=Fa c->∃v,s.heap.IsCell c v
 free:H X.env.locals=Db
 mS:∀x c,X.env.cells.lookup x=Fa c->H c=Db
 pin:∀p∈X.pn++Xc,s.heap.get? p.1=Fa p.2/\H p.1=Db/\p.1≠X.env.locals/\p.1∉X.fs/\∀v,p.2.data≠.cell v
 mK:yx X.prog X.w H s.heap
 len:Y.length=X.N.length
variable {X:Cx}{Xc:T0 (Uf × Obj)}{s:Sd}
section
variable {Y:T0 (Option V)}
def Cx.Ok.nofr(ok:X.Ok){b:Uf}{o:Obj}(e:X.base.get? b=Fa o):b∉X.fs:=λhb=>by have:=(ok.nj.mem hb).1;rw[e]at this;cases this
def Inv.bs(I:Inv X Xc Y H s):∀b o,X.base.get? b=Fa o->s.heap.get? b=Fa o/\H b=Db:=λb o e=>⟨I.base.keep b o (I.ok.bs b o e).1 (I.ok.bs b o e).2 (I.ok.nofr e) (I.ok.nL b o e),I.base.free b o (I.ok.bs b o e).1 (I.ok.bs b o e).2 (I.ok.nL b o e)⟩
def Inv.bk(I:Inv X Xc Y H s):∀b o,X.base.get? b=Fa o->s.heap.get? b=Fa o:=λb o e=>(I.bs b o e).1
def Inv.mod(I:Inv X Xc Y H s):Mod X.K X.mg X.base:=I.ok.mod
def Inv.ni(I:Inv X Xc Y H s):X.K.In s.heap:=I.ok.mod.oj.keeps I.bk
def Inv.lt(I:Inv X Xc Y H s):X.env.locals<s.heap.objs.size:=let⟨_,hn,_⟩:=I.loc;hn.lt
def Inv.sz(I:Inv X Xc Y H s):X.s₀.heap.objs.size<=s.heap.objs.size:=dR I.ok.above (jr I.lt)
def Inv.oN(I:Inv X Xc Y H s){a:Uf}(h:s.heap.objs.size<=a):a∉X.fs:=λhb=>by obtain⟨_,o,ho,_⟩:=I.ok.nj.mem hb;exact absurd (dJ (dg ho) (dR I.sz h)) (eQ _)
def Inv.o9(I:Inv X Xc Y H s):∀x c,X.env.cells.lookup x=Fa c->c≠X.env.locals:=λx c e z=>by obtain⟨v,o,ho,hd⟩:=I.cell x c e;obtain⟨m,⟨o',es,ep,XW,hd',_⟩,_⟩:=I.loc;rw[z,XW]at ho;cases ho;rw[hd']at hd;cases hd
def Inv.nj(I:Inv X Xc Y H s):s.heap.FunFrames X.base X.outer:=by
 have all:∀(l:T0 Env),(∀b∈wq l,b∈X.fs)->X.s₀.heap.FunFrames X.base l->s.heap.FunFrames X.base l:=by
  intro l;induction l with
  | nil=>intro _ _;trivial
  | cons env r ih=>intro hs hl;obtain⟨hk,⟨L,o,hf,hn,ho,hd⟩,hr⟩:=hl;have hL:L∈X.fs:=hs L (by unfold wq;rw[fU,hf];exact dD);obtain⟨sl,e⟩:=I.base.slot L o ho (I.ok.oi L hL) hL λz=>I.ok.nQ L z hL;exact⟨hk,⟨L,_,hf,hn,e,hd⟩,ih (λb hb=>hs b (by unfold wq;rw[fU,hf];exact dw _ hb)) hr⟩
 exact all X.outer (λ_ hb=>hb) I.ok.nj
def Inv.stack(I:Inv X Xc Y H s):s.heap.FunFrames X.base X.stack:=by
 rcases I.ok.oJ with e|⟨e,hf⟩
 .rw[e];exact I.nj
 .rw[e];obtain⟨m,hn,_⟩:=I.loc;refine .cons (by rw[I.ok.kind];decide) hf hn ?_ I.nj;exact gB (dR I.ok.nW I.ok.above)
def Inv.m8(I:Inv X Xc Y H s):∀b∈wq X.stack,b∈X.env.locals::X.fs:=λb hb=>by
 rcases I.ok.oJ with e|⟨e,hf⟩
 .rw[e]at hb;exact dw _ hb
 .rw[e]at hb;unfold wq at hb;rw[fU,hf]at hb;exact hb
def Inv.nB(I:Inv X Xc Y H s):∀b∈wq X.stack,H b=Db:=λb hb=>by
 rcases cW.mp (I.m8 b hb)with e|hb
 .rw[e];exact I.free
 .obtain⟨_,o,ho,_⟩:=I.ok.nj.mem hb;exact I.base.free b o ho (I.ok.oi b hb) λz=>I.ok.nQ b z hb
def Inv.step{g':Array GenState}{t':Nat}{d':Drawn}{ch:QXQ}(I:Inv X Xc Y H s) (Ye:∀b∈ch,(b∈X.ex\/X.s₀.heap.objs.size<=b)/\b≠X.env.locals/\(∀x c,X.env.cells.lookup x=Fa c->c≠b)/\∀p∈X.pn++Xc,p.1≠b) (keep:∀b o,b≠X.env.locals->b∉X.fs->b∉ch->s.heap.get? b=Fa o->H b=Db->h'.get? b=Fa o) (slot:∀b o,b≠X.env.locals->b∈X.fs->b∉ch->s.heap.get? b=Fa o->H b=Db->∃sl,h'.get? b=Fa {o with slots:=sl}) (free:∀b o,b∉ch->s.heap.get? b=Fa o->H b=Db->H' b=Db)
  (there:∀b o,b∉ch->s.heap.get? b=Fa o->∃o',h'.get? b=Fa o')
  (ny:∀b xs,H b=Fa (.tup xs)->H' b=Fa (.tup xs)) (nu:∀b o u,H b=Fa (.frz o u)->H' b=Fa (.frz o u)) (nC:∀b ps,H b=Fa (.tbl ps)->∃more,H' b=Fa (.tbl (ps++more)))
  (ns:∀m,s.heap.Ns X.env.locals m->h'.Ns X.env.locals m) (mK:yx X.prog X.w H' h') (hg:XXk g'):
  Inv X Xc Y H' {s with heap:=h',gens:=g',drawn:=d',toks:=t'}:=by
 have neL:∀b o,X.s₀.heap.get? b=Fa o->b≠X.env.locals:=λb o e=>dC (dJ (dg e) I.ok.above);have neC:∀b o,X.s₀.heap.get? b=Fa o->b∉X.ex->b∉ch:=λb o e hx hb=>by
  rcases(Ye b hb).1 with z|z
  .exact hx z
  .exact absurd (dJ (dg e) z) (eQ _)
 have ZH:∀x c,X.env.cells.lookup x=Fa c->∀v,s.heap.IsCell c v->h'.IsCell c v:=λx c e v ⟨o,ho,hd⟩=>by
  have nch:c∉ch:=λz=>(Ye c z).2.2.1 x c e rfl;by_cases hc:c∈X.fs
  .obtain⟨sl,q⟩:=slot c o (I.o9 x c e) hc nch ho (I.mS x c e);exact⟨_,q,hd⟩
  .exact⟨o,keep c o (I.o9 x c e) hc nch ho (I.mS x c e),hd⟩
 refine⟨I.ok,I.os,hg,⟨λb o e n hb hx=>?_,λb o e n hb hx=>?_,λb o e n hx=>?_,λb o e hx=>?_,λb xs e=>ny b xs (I.base.ny b xs e),λb o xs e=>nu b o xs (I.base.nu b o xs e),λb ps e=>?_⟩,?_,λx c e=>?_,?_,λx c e=>?_,λp hp=>?_,mK,I.len⟩
 .exact keep b o (neL b o e) hb (neC b o e hx) (I.base.keep b o e n hb hx) (I.base.free b o e n hx)
 .obtain⟨sl,e1⟩:=I.base.slot b o e n hb hx;obtain⟨YE,e2⟩:=slot b _ (neL b o e) hb (neC b o e hx) e1 (I.base.free b o e n hx);exact⟨YE,e2⟩
 .obtain⟨o',e1⟩:=I.base.there b o e hx;exact free b o' (neC b o e hx) e1 (I.base.free b o e n hx)
 .obtain⟨o',e1⟩:=I.base.there b o e hx;exact there b o' (neC b o e hx) e1
 .obtain⟨m1,e1⟩:=I.base.nC b ps e;obtain⟨m2,e2⟩:=nC b _ e1;exact⟨m1++m2,by rw[e2,kD]⟩
 .obtain⟨m,hn,hl⟩:=I.loc;refine⟨m,ns m hn,λi x v e1 e2 e3=>?_⟩;obtain⟨u,r,l⟩:=hl i x v e1 e2 e3;refine⟨u,r,?_⟩;rcases l with l|⟨k,c,e,z⟩
  .exact .inl l
  .exact .inr ⟨k,c,e,ZH x c e _ z⟩
 .obtain⟨v,z⟩:=I.cell x c e;exact⟨v,ZH x c e v z⟩
 .obtain⟨m,⟨o,_,_,ho,_⟩,_⟩:=I.loc;exact free _ o (λz=>(Ye _ z).2.1 rfl) ho I.free
 .obtain⟨v,o,ho,hd⟩:=I.cell x c e;exact free c o (λz=>(Ye c z).2.2.1 x c e rfl) ho (I.mS x c e)
 .obtain⟨e,n,ne,nf,d⟩:=I.pin p hp;have nch:p.1∉ch:=λz=>(Ye p.1 z).2.2.2 p hp rfl;exact⟨keep p.1 p.2 ne nf nch e n,free p.1 p.2 nch e n,ne,nf,d⟩
def Inv.un{t':Nat}(I:Inv X Xc Y H s)(u:Un X.fs [] H H' s.heap h')(mK:yx X.prog X.w H' h'):Inv X Xc Y H' {s with heap:=h',toks:=t'}:=by
 obtain⟨m,⟨o,es,ep,ho,r⟩,_⟩:=id I.loc;obtain⟨sl,hL⟩:=u.any ho I.free (by simp);exact I.step (g':=s.gens) (d':=s.drawn) (ch:=[]) (λ_ z=>nomatch z) (λb o _ hb _ e n=>u.keep b o e n hb (by simp)) (λb o _ hb _ e n=>u.slot b o e n hb (by simp)) (λb o _ e n=>u.free b o e n (by simp)) (λb o _ e=>u.there b o e (by simp)) u.ny u.nu u.nC (λm' hm=>by
  obtain⟨o',es',ep',XW,r'⟩:=hm;rw[ho]at XW;cases XW;exact⟨_,es',ep',hL,r'⟩) mK I.bare
def Inv.call{t':Nat}{d':Drawn}(I:Inv X Xc Y H s)(u:Un (wq X.stack) ch H H' s.heap h')(mK:yx X.prog X.w H' h')(hg:XXk g') (Ye:∀b∈ch,(b∈X.ex\/X.s₀.heap.objs.size<=b)/\b≠X.env.locals/\(∀x c,X.env.cells.lookup x=Fa c->c≠b)/\∀p∈X.pn++Xc,p.1≠b):
  Inv X Xc Y H' {s with heap:=h',gens:=g',drawn:=d',toks:=t'}:=by
 obtain⟨m,⟨o,es,ep,ho,r⟩,_⟩:=id I.loc;obtain⟨sl,hL⟩:=u.any ho I.free λz=>(Ye _ z).2.1 rfl;exact I.step (ch:=ch) Ye (λb o hL hb hc e n=>u.keep b o e n (λz=>(cW.mp (I.m8 b z)).elim hL hb) hc) (λb o _ _ hc e n=>u.any e n hc) (λb o hc e n=>u.free b o e n hc) (λb o hc e=>u.there b o e hc) u.ny u.nu u.nC (λm' hm=>by
  obtain⟨o',es',ep',XW,r'⟩:=hm;rw[ho]at XW;cases XW;exact⟨_,es',ep',hL,r'⟩) mK hg
def Inv.turned{t':Nat}{it:Uf}(I:Inv X Xc Y H s)(k:∀b o,b≠it->s.heap.get? b=Fa o->h'.get? b=Fa o)(hn:H it=Db)(hL:it≠X.env.locals) (h1:it∈X.ex\/X.s₀.heap.objs.size<=it) (h2:∀x c,X.env.cells.lookup x=Fa c->c≠it) (h3:∀p∈X.pn++Xc,p.1≠it):Inv X Xc Y H {s with heap:=h',toks:=t'}:=by
 have nit:∀b u,H b=Fa u->b≠it:=λb u e z=>by rw[z,hn]at e;cases e
 refine I.step (g':=s.gens) (d':=s.drawn) (ch:=[it]) (λb hb=>?_) (λb o _ _ hc e _=>k b o (λz=>hc (by simp[z])) e) (λb o _ _ hc e _=>⟨o.slots,k b o (λz=>hc (by simp[z])) e⟩) (λ_ _ _ _ n=>n)
  (λb o hc e=>⟨o,k b o (λz=>hc (by simp[z])) e⟩) (λ_ _ e=>e) (λ_ _ _ e=>e) (λb ps e=>⟨#[],by rw[e];simp⟩) (λm hm=>?_) (λb u e=>?_) I.bare
 .have e:b=it:=by simpa using hb
  subst e;exact⟨h1,hL,h2,h3⟩
 .obtain⟨o,es,ep,ho,r⟩:=hm;exact⟨o,es,ep,k _ o (dH hL) ho,r⟩
 .refine(I.mK b u e).ng (λc v hc q=>k c v ?_ q) (λ_ q=>q) λ_ _ q=>q;rcases hc with z|z
  .rw[z];exact nit b u e
  .exact nit c _ z
def Inv.tok(I:Inv X Xc Y H s)(t:Nat):Inv X Xc Y H {s with toks:=t}:=I.un (h':=s.heap) (t':=t) Un.refl I.mK
def Inv.kept{t':Nat}(I:Inv X Xc Y H s)(k:∀b u,s.heap.get? b=Fa u->h'.get? b=Fa u):Inv X Xc Y H {s with heap:=h',toks:=t'}:=I.un (Un.kept k) (I.mK.kept k)
def Inv.laid{a:Uf}{t':Nat}(I:Inv X Xc Y H s)(k:∀b u,s.heap.get? b=Fa u->h'.get? b=Fa u)(hp:s.heap.objs.size<=a)(new:tD X.prog X.w (upd H a o) h' a o):
  Inv X Xc Y (upd H a o) {s with heap:=h',toks:=t'}:=I.un (Un.laid k hp (I.mK.fresh hp)) (I.mK.laid k hp new)
def Inv.write{x e:Uf}{t':Nat}(I:Inv X Xc Y H s)(mu:TV (H x))(he:e=x\/H e=Fa (.own x))(k:∀b u,b≠e->s.heap.get? b=Fa u->h'.get? b=Fa u)(heo:∃u,h'.get? e=Fa u) (new:tD X.prog X.w (upd H x o) h' x o):Inv X Xc Y (upd H x o) {s with heap:=h',toks:=t'}:=I.un (Un.write mu he k heo) (I.mK.write mu he k heo new)
def Inv.nK{Yf:QQY}(I:Inv X Xc Y H s)(h:∀p∈Yf,s.heap.get? p.1=Fa p.2/\H p.1=Db/\p.1≠X.env.locals/\p.1∉X.fs/\∀v,p.2.data≠.cell v):Inv X Yf Y H s:=
 ⟨I.ok,I.os,I.bare,I.base,I.loc,I.cell,I.free,I.mS,λp hp=>(dI.mp hp).elim (λz=>I.pin p (eV _ z)) (h p),I.mK,I.len⟩
def F7{N:QQQ}(hN:N.Nodup){i j:Nat}{x:Str}(a:N[i]?=Fa x)(b:N[j]?=Fa x):i=j:=by obtain⟨h1,e1⟩:=cT.mp a;obtain⟨h2,e2⟩:=cT.mp b;exact(lB hN).mp (e1.trans e2.symm)
def DT{M:Model}{A:Ar}{E:QQX}{i:Nat}{x:Str}{Q:Unit->Sd->Prop}(I:Inv X Xc Y H s)(hN:X.N.Nodup)(hi:X.N[i]?=Fa x)(hx:La X.env.scope x)(r:qQ v u) (h:∀s',Inv X Xc (Y.set i (Fa v)) H s'->(∃a,Heap.SameBut a s.heap s'.heap/\(a=X.env.locals\/X.env.cells.lookup x=Fa a))->Q () s') (hf:MR X x:=by first|exact .inl rfl|exact .inr rfl|assumption):pi M A (storeName X.env x u) Q E s:=by
 obtain⟨m,hn,hl⟩:=id I.loc;have hcls:(X.env.scope.kind==.class||(X.env.scope.kind==.module&&X.env.locals != X.env.globals))=lf:=by rw[I.ok.kind];rfl
 have hiσ:i<Y.length:=by rw[I.len];exact(cT.mp hi).1
 have o9:=I.o9;have Xs:∀{a:Uf} {h':No},(∃o,s.heap.get? a=Fa o/\H a=Db)->Heap.SameBut a s.heap h'->yx X.prog X.w H h':=λ{a h'} ha hs b ob e=>by
  obtain⟨_,_,X0⟩:=ha;refine(I.mK b ob e).ng (λc w' hc q=>(hs.2 c ?_).trans q) (λ_ q=>q) λ_ _ q=>q
  rintro rfl
  rcases hc with rfl|hc
  .rw[X0]at e;cases e
  .rw[X0]at hc;cases hc
 rcases hx with hk|hk
 .refine wpAny_storeName_local hk hn (λh' Za hs=>?_) hcls;obtain⟨oL,_,_,hoL,_⟩:=id hn;refine h _ ⟨I.ok,I.os,I.bare,⟨λb o e n hb hx=>?_,λb o e n hb hx=>?_,I.base.free,λb o e hx=>?_,I.base.ny,I.base.nu,I.base.nC⟩,⟨_,Za,λj y v' e1 e2 e3=>?_⟩,λy c e=>?_,I.free,I.mS,λp hp=>?_,Xs ⟨oL,hoL,I.free⟩ hs,by simpa using I.len⟩ ⟨_,hs,.inl rfl⟩
  .exact(hs.2 b (dC (dJ (dg e) I.ok.above))).trans (I.base.keep b o e n hb hx)
  .obtain⟨sl,e1⟩:=I.base.slot b o e n hb hx;exact⟨sl,(hs.2 b (dC (dJ (dg e) I.ok.above))).trans e1⟩
  .obtain⟨o',e1⟩:=I.base.there b o e hx;exact⟨o',(hs.2 b (dC (dJ (dg e) I.ok.above))).trans e1⟩
  .by_cases hj:j=i
   .subst hj;rw[hi]at e1;cases e1;rw[fA hiσ]at e2;cases e2;exact⟨u,r,.inl ⟨hk,by simp⟩⟩
   .rw[fz (dH hj)]at e2;obtain⟨u',r',q⟩:=hl j y v' e1 e2 e3;refine⟨u',r',?_⟩;rcases q with⟨k,e⟩|⟨k,c,e,z⟩
    .refine .inl ⟨k,?_⟩;have:y≠x:=λe=>hj (F7 hN e1 (e ▸ hi));simp[this,e]
    .exact .inr ⟨k,c,e,z.sameBut hs (o9 y c e)⟩
  .obtain⟨w',z⟩:=I.cell y c e;exact⟨w',z.sameBut hs (o9 y c e)⟩
  .obtain⟨e,n,ne,nf,d⟩:=I.pin p hp;exact⟨(hs.2 p.1 ne).trans e,n,ne,nf,d⟩
 .have hfn:X.fn x=pc:=by
   rcases hf with z|z
   .exact z
   .rw[z]at hk;cases hk
  obtain⟨c,hc⟩:=I.ok.has x (.inl hk);obtain⟨w',z⟩:=I.cell x c hc;refine wpAny_storeName_cell I.ok.kind hk hc z (λh' hc' hs=>?_);obtain⟨oc,hoc,hocd⟩:=id z;refine h {s with heap:=h'} ⟨I.ok,I.os,I.bare,⟨λb o e n hb hx=>?_,λb o e n hb hx=>?_,I.base.free,λb o e hx=>?_,I.base.ny,I.base.nu,I.base.nC⟩,⟨m,hn.sameBut hs (dH (o9 x c hc)),λj y v' e1 e2 e3=>?_⟩,λy c' e=>?_,I.free,I.mS,λp hp=>?_,Xs ⟨oc,hoc,I.mS x c hc⟩ hs,by simpa using I.len⟩ ⟨c,hs,.inr hc⟩
  .exact(hs.2 b (dC (dJ (dg e) (I.ok.ou x c hfn hc)))).trans (I.base.keep b o e n hb hx)
  .obtain⟨sl,e1⟩:=I.base.slot b o e n hb hx;exact⟨sl,(hs.2 b (dC (dJ (dg e) (I.ok.ou x c hfn hc)))).trans e1⟩
  .obtain⟨o',e1⟩:=I.base.there b o e hx;exact⟨o',(hs.2 b (dC (dJ (dg e) (I.ok.ou x c hfn hc)))).trans e1⟩
  .by_cases hj:j=i
   .subst hj;rw[hi]at e1;cases e1;rw[fA hiσ]at e2;cases e2;exact⟨u,r,.inr ⟨.inl hk,c,hc,hc'⟩⟩
   .rw[fz (dH hj)]at e2;obtain⟨u',r',q⟩:=hl j y v' e1 e2 e3;refine⟨u',r',?_⟩;rcases q with q|⟨k,c',e,z'⟩
    .exact .inl q
    .refine .inr ⟨k,c',e,z'.sameBut hs ?_⟩
     rintro rfl
     exact hj (F7 hN e1 (I.ok.inj _ _ _ e hc ▸ hi))
  .by_cases ZI:c'=c
   .subst ZI;exact⟨_,hc'⟩
   .obtain⟨w2,z2⟩:=I.cell y c' e;exact⟨w2,z2.sameBut hs ZI⟩
  .obtain⟨e,n,ne,nf,d⟩:=I.pin p hp;refine⟨(hs.2 p.1 ?_).trans e,n,ne,nf,d⟩;intro q;rw[q,hoc]at e;have q':oc=p.2:=cY e;exact d w' (by rw[<-q'];exact hocd)
def Gg{M:Model}{A:Ar}{E:QQX}{i:Nat}{x:Str}{Q:Unit->Sd->Prop}(I:Inv X Xc Y H s)(hN:X.N.Nodup)(hi:X.N[i]?=Fa x)(hx:La X.env.scope x)(r:qQ v u) (h:∀s',Inv X Xc (Y.set i (Fa v)) H s'->Q () s') (hf:MR X x:=by first|exact .inl rfl|exact .inr rfl|assumption):pi M A (storeName X.env x u) Q E s:=
 DT I hN hi hx r (λs' I' _=>h s' I') hf
def Inv.oM{s':Sd}(I:Inv X Xc Y H s)(ho:s'.os=s.os)(u:Un (wq X.stack) ch H H' s.heap s'.heap)(mK:yx X.prog X.w H' s'.heap)(hg:XXk s'.gens) (Ye:∀b∈ch,(b∈X.ex\/X.s₀.heap.objs.size<=b)/\b≠X.env.locals/\(∀x c,X.env.cells.lookup x=Fa c->c≠b)/\∀p∈X.pn++Xc,p.1≠b):Inv X Xc Y H' s':=by
 obtain⟨h',g',d',t',o'⟩:=s';have e:o'=s.os:=ho;subst e;exact I.call (g':=g') (t':=t') (d':=d') u mK hg Ye
end
abbrev XK:=Vl->Option Uf->Hp->Prop
abbrev St:=T0 (Option V)
abbrev VK:=V->Hp->Prop
abbrev TE:=St->Hp->VK->Prop
abbrev TT:=St->Hp->(Bool->Hp->Prop)->Prop
abbrev TA:=St->Hp->(T0 V->Hp->Prop)->Prop
structure Ez where
 nx:St->Hp->Prop
 rt:VK
 bk:St->Hp->Prop:=λ_ _=>False
 ct:St->Hp->Prop:=λ_ _=>False
abbrev TS:=Ez->St->Hp->Prop
def EP(X:Cx)(Xc:QQY)(Y:St)(Q:VK)(u:Vl)(s':Sd):Prop:=∃v H',Inv X Xc Y H' s'/\qQ v u/\Q v H'
def TP(X:Cx)(Xc:QQY)(Y:St)(Q:Bool->Hp->Prop)(b:Bool)(s':Sd):Prop:=∃H',Inv X Xc Y H' s'/\Q b H'
def AP(X:Cx)(Xc:QQY)(Y:St)(Q:T0 V->Hp->Prop)(us:T0 Vl)(s':Sd):Prop:=∃vs H',Inv X Xc Y H' s'/\qE vs us/\Q vs H'
def SP(X:Cx)(Xc:QQY)(D:Ez)(f:Flow)(s':Sd):Prop:=
 match f with
 | .next=>∃σ' H',Inv X Xc σ' H' s'/\D.nx σ' H'
 | .brk=>∃σ' H',Inv X Xc σ' H' s'/\D.bk σ' H'
 | .cont=>∃σ' H',Inv X Xc σ' H' s'/\D.ct σ' H'
 | .ret u=>∃v σ' H',Inv X Xc σ' H' s'/\qQ v u/\D.rt v H'
def PE(X:Cx)(e:zn)(t:TE):Prop:=
 ∀(Xc:QQY) (s:Sd) (Y:St) (H:Hp) (Q:VK),Inv X Xc Y H s->t Y H Q->pi (Tk X.prog X.w) X.A (wp e X.env) (EP X Xc Y Q) X.xe s
def PT(X:Cx)(e:zn)(t:TT):Prop:=
 ∀(Xc:QQY) (s:Sd) (Y:St) (H:Hp) (Q:Bool->Hp->Prop),Inv X Xc Y H s->t Y H Q->pi (Tk X.prog X.w) X.A (isTrue e X.env (wp e X.env)) (TP X Xc Y Q) X.xe s
def PW(X:Cx)(e:zn)(t:TT):Prop:=
 ∀(XJ:Sem Vl) (Xc:QQY) (s:Sd) (Y:St) (H:Hp) (Q:Bool->Hp->Prop),Inv X Xc Y H s->t Y H Q->pi (Tk X.prog X.w) X.A (isTrue e X.env XJ) (TP X Xc Y Q) X.xe s
def PW.pt(h:PW X e t):PT X e t:=h _
def PA(X:Cx)(es:T0 zn)(t:TA):Prop:=
 ∀(pos:Pos) (Xc:QQY) (s:Sd) (Y:St) (H:Hp) (Q:T0 V->Hp->Prop),Inv X Xc Y H s->t Y H Q->pi (Tk X.prog X.w) X.A (spliced (Ix pos (Tl es X.env))) (AP X Xc Y Q) X.xe s
def PS(X:Cx)(st:sB)(t:TS):Prop:=
 ∀(Xc:QQY) (s:Sd) (Y:St) (H:Hp) (D:Ez),Inv X Xc Y H s->t D Y H->pi (Tk X.prog X.w) X.A (exec st X.env) (SP X Xc D) X.xe s
def Co(X:Cx)(st:T0 sB)(t:TS):Prop:=
 ∀(Xc:QQY) (s:Sd) (Y:St) (H:Hp) (D:Ez),Inv X Xc Y H s->t D Y H->pi (Tk X.prog X.w) X.A (execs st X.env) (SP X Xc D) X.xe s
def sL{α:Type}{t:Sem α}{Q Q':α->Sd->Prop}{M:Model}{A:Ar}{E:QQX}{s:Sd}(h:pi M A t Q E s)(hQ:∀a s,Q a s->Q' a s):pi M A t Q' E s:=dW h hQ λ_ _ x=>x
variable {tA tB':TT}{ta tb:TE}{pos:Pos}
section
def HH(i:Nat):TE:=λY H Q=>∃v,Y[i]?=Fa (Fa v)/\Q v H
def tC(v:V):TE:=λ_ H Q=>Q v H
def Rx{i:Nat}{x:Str}(hN:X.N[i]?=Fa x)(hv:Uu X.env.scope x)(hd:zR x:=by decide)(Yq:(x==("__classdict__":Str))=lf:=by decide):PE X (.Name x pos) (HH i):=by
 intro Xc s Y H Q I h;obtain⟨v,e,h⟩:=h;obtain⟨m,hn,hl⟩:=I.loc;obtain⟨u,r,l⟩:=hl i x v hN e hv;have Xh:EP X Xc Y Q u s:=⟨v,H,I,r,h⟩;rcases l with⟨hk,hm⟩|⟨hk,c,hc,hcell⟩
 .exact lQ (wpAny_loadName_local I.ok.kind hk hn hm Xh) hd
 .rcases hk with hk|hk
  .exact lQ (wpAny_loadName_cell I.ok.kind hk hc hcell Xh) hd
  .exact lQ (wpAny_loadName_free I.ok.kind hk hc hcell Xh Yq) hd
def Rp{i j pos}:PE X (.Constant (.int i) j pos) (tC (.int i)):=λ_ _ _ H _ I h=>wpAny_Constant_int ⟨.int i,H,I.tok _,⟨_,rfl⟩,h⟩
def U9{b j pos}:PE X (.Constant (.bool b) j pos) (tC (.bl b)):=λ_ _ _ H _ I h=>Constant_bool ⟨.bl b,H,I,rfl,h⟩
def RO{j pos}:PE X (.Constant .none j pos) (tC .mG):=λ_ _ _ H _ I h=>Constant_none ⟨.mG,H,I,rfl,h⟩
def Rb{x j pos}:PE X (.Constant (.str x) j pos) (tC (.str x)):=λ_ _ _ H _ I h=>Calls.Constant_str ⟨.str x,H,I.tok _,⟨_,rfl⟩,h⟩
def Gl(X:Cx)(x:Str):Prop:=X.env.kindOf x=Fa .globalImplicit
def xj{E:QQX}{Xc:QQY}{u:Vl}{Q:QQX}(I:Inv X Xc Y H s)(hg:Gl X x)(hm:X.mg x=Fa u)(h:Q u s) (hd:zR x:=by decide):pi (Tk X.prog X.w) X.A (wp (.Name x pos) X.env) Q E s:=
 je I.ok.kind hg (Calls.loadGlobal_global (by rw[I.ok.glob];exact I.mod.glob.keeps I.bk) hm h) hd
def xB{E:QQX}{Xc:QQY}{u:Vl}{Q:QQX}(I:Inv X Xc Y H s)(hg:Gl X x)(hm:X.mg x=Db)(hv:Go x=Fa u)(h:Q u s) (hn:x≠"__name__":=by decide) (hd:zR x:=by decide):pi (Tk X.prog X.w) X.A (wp (.Name x pos) X.env) Q E s:=by
 obtain⟨mb,h1,h2⟩:=I.mod.blt;exact je I.ok.kind hg (Calls.loadGlobal_builtin (by rw[I.ok.glob];exact I.mod.glob.keeps I.bk) hm (by rw[I.ok.blt];exact h1.keeps I.bk) ((h2 x hn).trans hv) h) hd
def EL{u:Vl}(hg:Gl X x)(hm:X.mg x=Fa u)(r:qQ v u)(hd:zR x:=by decide):PE X (.Name x pos) (tC v):=
 λ_ _ _ H _ I h=>xj I hg hm ⟨v,H,I,r,h⟩ hd
variable {a b:zn}
def tB(t:TE):TT:=λY H Q=>t Y H λx H1=>∃c,x=.bl c/\Q c H1
def SH(h:PE X e t)(he:∀XJ,isTrue e X.env XJ=(do let v<-XJ;XXb e.pos;xz [v] (truthy v)):=by intro _;rfl):PT X e (tB t):=by intro Xc s Y H Q I hw;refine isTrue_plain (sL (h Xc s Y H _ I hw) λv s1 zz=>x5 zz λx H1 I1 r1 q1=>?_) (he _);obtain⟨d,rfl,q⟩:=q1;cases r1;exact eZ ⟨H1,I1,q⟩
variable {rest:T0 zn}
def Wj(t u:TT):TT:=λY H Q=>t Y H λc H1=>if c=pc then u Y H1 Q else Q lf H1
def WS(t u:TT):TT:=λY H Q=>t Y H λc H1=>if c=pc then Q pc H1 else u Y H1 Q
def Wp(t:TT):TT:=λY H Q=>t Y H λc H1=>Q (!c) H1
def PY(ha:PT X a tA):PW X (.BoolOp .And [a] pos) tA:=by
 intro wh Xc s Y H Q I h;refine isTrue_and (sL (ha Xc s Y H Q I h) λc s1 e=>?_);cases c with
 | true=>exact isTrue_and_nil e
 | false=>exact e
def Ss(ha:PT X a tA):PW X (.BoolOp .Or [a] pos) tA:=by
 intro wh Xc s Y H Q I h;refine isTrue_or (sL (ha Xc s Y H Q I h) λc s1 e=>?_);cases c with
 | false=>exact isTrue_or_nil e
 | true=>exact e
def RM(ha:PT X a tA)(hb:PW X (.BoolOp .And (b::rest) pos) tB'):PW X (.BoolOp .And (a::b::rest) pos) (Wj tA tB'):=by
 intro wh Xc s Y H Q I h;refine isTrue_and (sL (ha Xc s Y H _ I h) λc s1 ⟨H1,I1,q1⟩=>?_);cases c with
 | true=>exact hb wh Xc s1 Y H1 Q I1 q1
 | false=>exact⟨H1,I1,q1⟩
def U'(ha:PT X a tA)(hb:PW X (.BoolOp .Or (b::rest) pos) tB'):PW X (.BoolOp .Or (a::b::rest) pos) (WS tA tB'):=by
 intro wh Xc s Y H Q I h;refine isTrue_or (sL (ha Xc s Y H _ I h) λc s1 ⟨H1,I1,q1⟩=>?_);cases c with
 | true=>exact⟨H1,I1,q1⟩
 | false=>exact hb wh Xc s1 Y H1 Q I1 q1
def SV(ha:PT X a tA):PT X (.UnaryOp .Not a pos) (Wp tA):=by intro Xc s Y H Q I h;exact isTrue_not (ha Xc s Y H (λc H1=>Q (!c) H1) I h)
def Uk(ta tb:TE):TE:=λY H Q=>ta Y H λx H1=>∃c,x=.bl c/\if c=pc then tb Y H1 Q else Q (.bl lf) H1
def VE(ta tb:TE):TE:=λY H Q=>ta Y H λx H1=>∃c,x=.bl c/\if c=pc then Q (.bl pc) H1 else tb Y H1 Q
def Ul(ta:TE):TE:=λY H Q=>ta Y H λx H1=>∃c,x=.bl c/\Q (.bl (!c)) H1
def S9{op}(h:PE X a t):PE X (.BoolOp op [a] pos) t:=λXc s Y H Q I hw=>BoolOp_one (h Xc s Y H Q I hw)
def Ry(ha:PE X a ta)(hb:PE X (.BoolOp .And (b::rest) pos) tb):PE X (.BoolOp .And (a::b::rest) pos) (Uk ta tb):=by
 intro Xc s Y H Q I h;refine BoolOp_and (sL (ha Xc s Y H _ I h) λv s1 zz=>x5 zz λx H1 I1 r1 q1=>?_);obtain⟨c,rfl,q1⟩:=q1;cases r1;refine eZ ?_;cases c with
 | true=>exact hb Xc s1 Y H1 Q I1 q1
 | false=>exact⟨.bl lf,H1,I1,rfl,q1⟩
def UN(ha:PE X a ta)(hb:PE X (.BoolOp .Or (b::rest) pos) tb):PE X (.BoolOp .Or (a::b::rest) pos) (VE ta tb):=by
 intro Xc s Y H Q I h;refine BoolOp_or (sL (ha Xc s Y H _ I h) λv s1 zz=>x5 zz λx H1 I1 r1 q1=>?_);obtain⟨c,rfl,q1⟩:=q1;cases r1;refine eZ ?_;cases c with
 | false=>exact hb Xc s1 Y H1 Q I1 q1
 | true=>exact⟨.bl pc,H1,I1,rfl,q1⟩
def S5(ha:PE X a ta):PE X (.UnaryOp .Not a pos) (Ul ta):=by intro Xc s Y H Q I h;refine UnaryOp_ (sL (ha Xc s Y H _ I h) λv s1 zz=>x5 zz λx H1 I1 r1 q1=>?_);obtain⟨c,rfl,q1⟩:=q1;cases r1;exact not_of (eZ ⟨.bl (!c),H1,I1,rfl,q1⟩)
def W6(t:TT)(ta tb:TE):TE:=λY H Q=>t Y H λc H1=>if c=pc then ta Y H1 Q else tb Y H1 Q
def Lo(hc:PT X c tA)(ha:PE X a ta)(hb:PE X b tb):PE X (.IfExp c a b pos) (W6 tA ta tb):=by
 intro Xc s Y H Q I h;refine wpAny_IfExp (sL (hc Xc s Y H _ I h) λd s1 ⟨H1,I1,q1⟩=>?_);cases d with
 | true=>exact ha Xc s1 Y H1 Q I1 q1
 | false=>exact hb Xc s1 Y H1 Q I1 q1
end
def zb(K:qw)(H:Hp)(a:Uf)(xs:T0 V):Prop:=
 Rd H a (.lst xs)\/
  ∃(o:Obj) (its:Array Vl) (n:Nat),K.lookup a=Fa o/\o.cls=.type "list"/\o.dict=Db/\o.data=.seq its n/\its.size<=Ch/\qE xs its.toList
def vn(K:qw)(H:Hp)(a:Uf)(xs:T0 V):Prop:=
 Rd H a (.tup xs)\/
  ∃(o:Obj) (its:Array Vl) (n:Nat),K.lookup a=Fa o/\o.cls=.type "tuple"/\o.dict=Db/\o.data=.seq its n/\its.size<=Ch/\qE xs its.toList
def VZ:Vl->Option V
 | .none=>Fa .mG
 | .bool b=>Fa (.bl b)
 | .int i _=>Fa (.int i)
 | .str x _=>Fa (.str x)
 | .bytes b _=>Fa (.byt b)
 | .float b _=>Fa (.flt b)
 | .ref a=>Fa (.ref a)
 | .type n=>Fa (.ty n)
 | _=>Db
def qQ.abs(r:qQ x u):VZ u=Fa x:=by
 cases x with
 | mG=>cases r;rfl
 | bl _=>cases r;rfl
 | int _=>obtain⟨t,rfl⟩:=r;rfl
 | str _=>obtain⟨t,rfl⟩:=r;rfl
 | byt _=>obtain⟨t,rfl⟩:=r;rfl
 | flt _=>obtain⟨t,rfl⟩:=r;rfl
 | ref _=>cases r;rfl
 | ty _=>cases r;rfl
def qQ.inj(r:qQ x u)(q:qQ y u):x=y:=cY (r.abs.symm.trans q.abs)
theorem qE.inj:∀{xs ys:T0 V} {us:T0 Vl},qE xs us->qE ys us->xs=ys
 | _,_,_,.nil,.nil=>rfl
 | _,_,_,.cons r t,.cons r' t'=>by rw[r.inj r',qE.inj t t']
variable {xs ys:T0 V}
section
variable {Y:St}{a:Uf}
def vn.of{K:qw}(h:H a=Fa (.tup xs)):vn K H a xs:=.inl (.inl h)
def Inv.list(I:Inv X Xc Y H s)(h:zb X.K H a xs):∃its:T0 Vl,qE xs its/\PlainL s.heap a its.toArray/\xs.length<=Ch:=by
 rcases h with h|⟨o,its,n,hk,hc,hd,hs,hz,r⟩
 .obtain⟨z,its,n,r,e⟩:=h.ok I.mK;exact⟨its,r,⟨_,n,e,rfl,rfl,rfl⟩,z⟩
 .refine⟨its.toList,r,⟨o,n,I.ni a o hk,hc,hd,by simpa using hs⟩,?_⟩;have e:=r.length;simp only[hJ]at e;omega
def Inv.tuple(I:Inv X Xc Y H s)(h:vn X.K H a xs):∃its:T0 Vl,qE xs its/\IsTup s.heap a its.toArray/\xs.length<=Ch:=by
 rcases h with h|⟨o,its,n,hk,hc,hd,hs,hz,r⟩
 .obtain⟨z,its,r,p⟩:=h.ok I.mK;exact⟨its,r,p.is,z⟩
 .refine⟨its.toList,r,⟨o,I.ni a o hk,hc,n,by simpa using hs⟩,?_⟩;have e:=r.length;simp only[hJ]at e;omega
def Inv.nN(I:Inv X Xc Y H s)(h:zb X.K H a xs)(h':zb X.K H a ys):xs=ys:=by
 obtain⟨its,r,⟨o,n,e,_,_,d⟩,_⟩:=I.list h;obtain⟨its',r',⟨o',n',e',_,_,d'⟩,_⟩:=I.list h';rw[e]at e';cases e';rw[d]at d';injection d' with d1 _
 have:its=its':=by simpa using eE Array.toList d1
 subst this;exact r.inj r'
def Inv.mY(I:Inv X Xc Y H s)(h:vn X.K H a xs)(h':vn X.K H a ys):xs=ys:=by
 obtain⟨its,r,⟨o,e,_,n,d⟩,_⟩:=I.tuple h;obtain⟨its',r',⟨o',e',_,n',d'⟩,_⟩:=I.tuple h';rw[e]at e';cases e';rw[d]at d';injection d' with d1 _
 have:its=its':=by simpa using eE Array.toList d1
 subst this;exact r.inj r'
end
abbrev Cx.nI(X:Cx)(E:QQX):Cx:={X with xe:=E}
abbrev Cx.om(X:Cx):Cx:=X.nI λ_ _=>False
def Cx.Ok.nI{X:Cx}(ok:X.Ok)(E:QQX):(X.nI E).Ok:=
 ⟨ok.mod,ok.kind,ok.glob,ok.blt,ok.above,ok.inj,ok.has,ok.ou,ok.hd,ok.frames,ok.oJ,ok.oY,ok.bs,ok.nW,ok.nL,ok.nQ,ok.nj,ok.oi⟩
def Cx.Ok.mX{X:Cx}{E:QQX}(ok:(X.nI E).Ok):X.Ok:=
 ⟨ok.mod,ok.kind,ok.glob,ok.blt,ok.above,ok.inj,ok.has,ok.ou,ok.hd,ok.frames,ok.oJ,ok.oY,ok.bs,ok.nW,ok.nL,ok.nQ,ok.nj,ok.oi⟩
section
variable {Y:St}{E:QQX}
def Inv.nI(I:Inv X Xc Y H s)(E:QQX):Inv (X.nI E) Xc Y H s:=⟨I.ok.nI E,I.os,I.bare,I.base,I.loc,I.cell,I.free,I.mS,I.pin,I.mK,I.len⟩
def Inv.mX(I:Inv (X.nI E) Xc Y H s):Inv X Xc Y H s:=⟨I.ok.mX,I.os,I.bare,I.base,I.loc,I.cell,I.free,I.mS,I.pin,I.mK,I.len⟩
def SP.mX{D:Ez}(h:SP (X.nI E) Xc D f s'):SP X Xc D f s':=by
 cases f with
 | next=>obtain⟨σ',H',I,q⟩:=h;exact⟨σ',H',I.mX,q⟩
 | brk=>obtain⟨σ',H',I,q⟩:=h;exact⟨σ',H',I.mX,q⟩
 | cont=>obtain⟨σ',H',I,q⟩:=h;exact⟨σ',H',I.mX,q⟩
 | ret u=>obtain⟨v,σ',H',I,r,q⟩:=h;exact⟨v,σ',H',I.mX,r,q⟩
def Co.om{st:T0 sB}(h:Co X.om st t):Co X st t:=λXc s Y H D I hw=>dW (h Xc s Y H D (I.nI _) hw) (λ_ _ q=>q.mX) λ_ _ z=>False.elim z
end
variable {st:sB}{u:TS}{te:TE}
section
variable {rest:T0 sB}{t:TS}{e:zn}
def TN:TS:=λD Y H=>D.nx Y H
def Wd(t u:TS):TS:=λD Y H=>t {D with nx:=u D} Y H
def OS:Co X [] TN:=λ_ _ Y H _ I h=>gH ⟨Y,H,I,h⟩
def Ln(h1:PS X st t)(h2:Co X rest u):Co X (st::rest) (Wd t u):=by
 intro Xc s Y H D I h;refine js (sL (h1 Xc s Y H {D with nx:=u D} I h) λf s1 q=>?_);cases f with
 | next=>obtain⟨σ',H',I',q⟩:=q;exact h2 Xc s1 σ' H' D I' q
 | ret v=>exact q
 | brk=>exact q
 | cont=>exact q
def Ju(h1:PS X st t):Co X [st] t:=by
 intro Xc s Y H D I h;refine js (sL (h1 Xc s Y H D I h) λf s1 q=>?_);cases f with
 | next=>exact gH q
 | ret v=>exact q
 | brk=>exact q
 | cont=>exact q
def Inv.quiet{Xc:QQY}(I:Inv X Xc Y H s):interactive X.env=lf:=by simp[interactive,I.ok.kind]
def Tx(te:TE):TS:=λD Y H=>te Y H λ_ H1=>D.nx Y H1
def PB(he:PE X e te)(hs:ZB e Db pos.line X.env=pure lf:=by rfl):PS X (.Expr e pos) (Tx te):=by intro Xc s Y H D I h;exact wpAny_Expr_any (sL (he Xc s Y H _ I h) λv s1 zz=>x5 zz λx H1 I1 r1 q1=>⟨Y,H1,I1,q1⟩) I.quiet hs
def VA(te:TE):TS:=λD Y H=>te Y H D.rt
def R8(he:PE X e te):PS X (.Return (Fa e) pos) (VA te):=by intro Xc s Y H D I h;exact wpAny_Return_some (sL (he Xc s Y H _ I h) λv s1 zz=>x5 zz λx H1 I1 r1 q1=>⟨x,Y,H1,I1,r1,q1⟩)
def VT(c:TT)(t u:TS):TS:=λD Y H=>c Y H λb H1=>if b=pc then t D Y H1 else u D Y H1
def U4(hc:PT X c tc)(ha:Co X a t)(hb:Co X b u):PS X (.If c a b pos) (VT tc t u):=by
 intro Xc s Y H D I h;refine wpAny_If (sL (hc Xc s Y H _ I h) λd s1 ⟨H1,I1,q1⟩=>?_);cases d with
 | true=>exact ha Xc s1 Y H1 D I1 q1
 | false=>exact hb Xc s1 Y H1 D I1 q1
def RU:TS:=λ_ _ _=>False
def Mn:PS X st RU:=λ_ _ _ _ _ _ h=>h.elim
end
abbrev TG:=V->St->Hp->(St->Hp->Prop)->Prop
abbrev PU:=T0 V->St->Hp->(St->Hp->Prop)->Prop
def PG(X:Cx)(XF:zn)(t:TG):Prop:=
 ∀(Xc:QQY) (s:Sd) (Y:St) (H:Hp) (v:V) (u:Vl) (Q:St->Hp->Prop),Inv X Xc Y H s->qQ v u->t v Y H Q->
  pi (Tk X.prog X.w) X.A (assign XF X.env u) (λ_ s'=>∃σ' H',Inv X Xc σ' H' s'/\Q σ' H') X.xe s
def NZ(X:Cx)(ts:T0 zn)(t:PU):Prop:=
 ∀(Xc:QQY) (s:Sd) (Y:St) (H:Hp) (vs:T0 V) (us:T0 Vl) (Q:St->Hp->Prop),Inv X Xc Y H s->qE vs us->t vs Y H Q->
  pi (Tk X.prog X.w) X.A (assignInOrder ((IN ts X.env).map (·.2)) us) (λ_ s'=>∃σ' H',Inv X Xc σ' H' s'/\Q σ' H') X.xe s
abbrev Sq:=V->V->V->Hp->(Hp->Prop)->Prop
def Va(X:Cx)(t:Sq):Prop:=
 ∀(Xc:QQY) (s:Sd) (Y:St) (H:Hp) (o i v:V) (ov iv u:Vl) (Q:Hp->Prop),Inv X Xc Y H s->qQ o ov->qQ i iv->qQ v u->t o i v H Q->
  pi (Tk X.prog X.w) X.A (setItem ov iv u) (λ_ s'=>∃H',Inv X Xc Y H' s'/\Q H') X.xe s
def Lz(i:Nat):TG:=λv Y H Q=>Q (Y.set i (Fa v)) H
def QF{i:Nat}{x:Str}(hN:X.N.Nodup)(hi:X.N[i]?=Fa x)(hx:La X.env.scope x)(hf:MR X x:=by first|exact .inl rfl|exact .inr rfl|assumption):PG X (.Name x pos) (Lz i):=by intro Xc s Y H v u Q I r h;exact kT (Gg I hN hi hx r (λs' I'=>⟨_,H,I',h⟩) hf)
def V7:PU:=λvs Y H Q=>vs=[]/\Q Y H
def TQ(t:TG)(u:PU):PU:=λvs Y H Q=>∃v r,vs=v::r/\t v Y H λσ' H'=>u r σ' H' Q
def OT:NZ X [] V7:=by intro Xc s Y H vs us Q I r h;obtain⟨e,h⟩:=h;subst e;cases r;exact assignInOrder_nil ⟨Y,H,I,h⟩
def Nr{u:PU}(h1:PG X e t)(h2:NZ X es u) (hs:(IN (e::es) X.env).map (·.2)=assign e X.env::(IN es X.env).map (·.2):=by rfl):NZ X (e::es) (TQ t u):=by
 intro Xc s Y H vs us Q I r h;obtain⟨v,vr,e1,h⟩:=h;subst e1;cases r with
 | cons r rr=>rw[hs];refine assignInOrder_cons (sL (h1 Xc s Y H _ _ _ I r h) λ_ s1 ⟨σ1,H1,I1,q1⟩=>?_);exact h2 Xc s1 σ1 H1 _ _ Q I1 rr q1
def Wr(K:qw)(n:Nat)(t:PU):TG:=λv Y H Q=>∃a xs,v=.ref a/\vn K H a xs/\xs.length=n/\t xs Y H Q
def Sn{n:Nat}(hc:X.calm=pc)(h:NZ X es t) (hn:(IN es X.env).length=n:=by rfl) (XA:(IN es X.env).findIdx? (·.1)=Db:=by rfl):PG X (.Tuple es k pos) (Wr X.K n t):=by
 intro Xc s Y H v u Q I r hw;obtain⟨a,xs,e1,hq,hl,hw⟩:=hw;subst e1;cases r;obtain⟨its,rv,ht,hz⟩:=I.tuple hq;refine assign_Tuple_tuple (I.ok.hd hc) ht (by simp[hn,<-hl,rv.length]) XA λh' hx=>?_;have I1:Inv X Xc Y H {s with heap:=h'}:=I.kept (t':=s.toks) λb o e=>hx b o (dC (dg e)) e;exact h Xc _ Y H xs _ Q I1 (by simpa using rv) hw
def VI(to ti:TE)(t:Sq):TG:=λv Y H Q=>to Y H λo H1=>ti Y H1 λi H2=>t o i v H2 λH3=>Q Y H3
def SS(ho:PE X o to)(hi:PE X i ti)(hs:Va X t) (ha:∀v,assign (.Subscript o i pos) X.env v=(do
   let ov<-xz [v] (wp o X.env);let iv<-xz [v,ov] (wp i X.env)
   XXb pos
   xz [v,ov,iv] (setItem ov iv v)
   release [v,ov,iv] []):=by intro _;rfl):PG X (.Subscript o i pos) (VI to ti t):=by
 intro Xc s Y H v u Q I r h;rw[ha];refine cP (eM (sL (ho Xc s Y H _ I h) λov s1 zz=>x5 zz λx H1 I1 r1 q1=>?_));refine cP (eM (sL (hi Xc s1 Y H1 _ I1 q1) λiv s2 zz=>x5 zz λy H2 I2 r2 q2=>?_));refine cP (gY (cP (eM (sL (hs Xc s2 Y H2 x y v ov iv u _ I2 r1 r2 r q2) λ_ s3 ⟨H3,I3,q3⟩=>?_))));exact wpAny_release ⟨Y,H3,I3,q3⟩
def RD(te:TE)(g:TG):TS:=λD Y H=>te Y H λx H1=>g x Y H1 D.nx
def Ri(he:PE X e te)(hg:PG X tg g)(hs:swapsWithSole [tg] e pos.line X.env=pure lf:=by rfl)(hw:swappedStores [tg] e X.env=pure Db:=by rfl)
  (h1:(IN [tg] X.env).map (·.2)=[assign tg X.env]:=by rfl):PS X (.Assign [tg] e pos) (RD te g):=by
 intro Xc s Y H D I h;refine wpAny_Assign_stores (sL (he Xc s Y H _ I h) λv s1 zz=>x5 zz λx H1 I1 r1 q1=>?_) hs hw;rw[h1];exact sL (hg Xc s1 Y H1 x v _ I1 r1 q1) λ_ s2 q=>q
def SW{i:Nat}{x:Str}(hN:X.N.Nodup)(hi:X.N[i]?=Fa x)(hx:La X.env.scope x)(he:PE X e te)(hs:ZB e (Fa (.Name x Xo)) pos.line X.env=pure lf:=by rfl)(hf:MR X x:=by first|exact .inl rfl|exact .inr rfl|assumption):
  PS X (.Assign [.Name x Xo] e pos) (RD te (Lz i)):=by
 intro Xc s Y H D I h;refine wpAny_Assign_Name (sL (he Xc s Y H _ I h) λv s1 zz=>x5 zz λy H1 I1 r1 q1=>?_) hs;exact Gg I1 hN hi hx r1 (λs2 I2=>⟨_,H1,I2,q1⟩) hf
def R0(c:TT)(tb:TS):TS:=λD Y H=>∃W:Nat->St->Hp->Prop,(∃m,W m Y H)/\∀m Y H,W m Y H->
 c Y H λb H1=>if b=pc then ∃N:St->Hp->Prop,(∀σ' H',N σ' H'->∃m',m'<m/\W m' σ' H')/\tb {D with nx:=N,ct:=N,bk:=D.nx} Y H1 else D.nx Y H1
def Na{tb:TS}(hp:PassesOwn (Tk X.prog X.w) X.A X.env X.xe)(hc:PT X c tc)(hb:Co X body tb):PS X (.While c body [] pos) (R0 tc tb):=by
 intro Xc s Y H D I h;obtain⟨W,⟨m0,w0⟩,turn⟩:=h;refine wpAny_While (codeAny_whileLoop (λn s'=>∃σ' H',Inv X Xc σ' H' s'/\W n σ' H') ?_ m0 ⟨Y,H,I,w0⟩)
 rintro n s1 ⟨σ1,H1,I1,w1⟩
 refine gx hp (sL (hc Xc s1 σ1 H1 _ I1 (turn n σ1 H1 w1)) λb s2 ⟨H2,I2,q2⟩=>?_);cases b with
 | true=>
  obtain⟨N,hN,q2⟩:=q2;rw[cV rfl];refine gx hp (sL (hb Xc s2 σ1 H2 _ I2 q2) λf s3 q3=>?_);cases f with
  | next=>obtain⟨σ3,H3,I3,n3⟩:=q3;obtain⟨m',hm,w3⟩:=hN σ3 H3 n3;exact⟨m',hm,σ3,H3,I3,w3⟩
  | cont=>obtain⟨σ3,H3,I3,n3⟩:=q3;obtain⟨m',hm,w3⟩:=hN σ3 H3 n3;exact⟨m',hm,σ3,H3,I3,w3⟩
  | brk=>exact q3
  | ret v=>exact q3
 | false=>rw[cS dh];exact gH ⟨σ1,H2,I2,q2⟩
structure It where
 go:Nat->Hp->Prop
 oS:Nat->Hp->V->Hp->Prop
 stop:Nat->Hp->Prop
def AS(X:Cx)(Xc:QQY)(H:Hp)(b:Uf):Prop:=
 H b=Db/\b≠X.env.locals/\b∉X.fs/\(b∈X.ex\/X.s₀.heap.objs.size<=b)/\(∀x c,X.env.cells.lookup x=Fa c->c≠b)/\∀p∈X.pn++Xc,p.1≠b
def Inv.nS{Xc:QQY}{H H':Hp}{b:Uf}(I:Inv X Xc Y H s)(hb:s.heap.objs.size<=b)(hn:H' b=Db):AS X Xc H' b:=by
 refine⟨hn,gD (dJ I.lt hb),I.oN hb,.inr (dR I.sz hb),λx c e z=>?_,λp hp z=>?_⟩
 .obtain⟨v,q⟩:=I.cell x c e;exact absurd (dJ q.lt (by rw[z];exact hb)) (eQ _)
 .exact absurd (dJ (dg (I.pin p hp).1) (by rw[z];exact hb)) (eQ _)
structure F4(P:Pg)(w:Wo)(K:qw)(tg:zn)(J:It)(fp:QXQ)(it:Uf)(tn:Nat->No->Prop):Prop where
 mem:it∈fp
 obj:∀i h,tn i h->∀b∈fp,∃o,h.get? b=Fa o/\∀v,o.data≠.cell v
 keep:∀i h h',tn i h->(∀b∈fp,∀o,h.get? b=Fa o->h'.get? b=Fa o)->tn i h'
 item:∀(X:Cx),X.prog=P->X.w=w->X.K=K->X.calm=pc->∀(i:Nat) (Xc:QQY) (s:Sd) (Y:St) (H:Hp) (E:QQX),Inv X Xc Y H s->(∀b∈fp,AS X Xc H b)->tn i s.heap->J.go i H->
  pi (Tk P w) X.A (pyNext (.ref it)) (λr s1=>∃u,r=Fa u/\
   pi (Tk P w) X.A (XXh tg (.ref it) u) (λ_ s2=>∃x H',Inv X Xc Y H' s2/\qQ x u/\J.oS i H x H'/\tn (i+1) s2.heap/\∀b∈fp,H' b=Db) E s1) E s
 done:∀(X:Cx),X.prog=P->X.w=w->X.K=K->X.calm=pc->∀(i:Nat) (Xc:QQY) (s:Sd) (Y:St) (H:Hp) (E:QQX),Inv X Xc Y H s->(∀b∈fp,AS X Xc H b)->tn i s.heap->J.stop i H->
  pi (Tk P w) X.A (pyNext (.ref it)) (λr s1=>r=Db/\Inv X Xc Y H s1) E s
 self:∀(A:Ar) (i:Nat) (s:Sd) (Q:QQX) (E:QQX),tn i s.heap->Q (.ref it) s->pi (Tk P w) A (pyIter (.ref it)) Q E s
abbrev TI:=St->Hp->(It->Hp->Prop)->Prop
def Wy(X:Cx)(Xc:QQY)(Y:St)(tg:zn)(R:It->Hp->Prop)(itv:Vl)(s2:Sd):Prop:=
 ∃(it:Uf) (fp:QXQ) (tn:Nat->No->Prop) (J:It) (H':Hp),itv=.ref it/\Inv X Xc Y H' s2/\F4 X.prog X.w X.K tg J fp it tn/\tn 0 s2.heap/\(∀b∈fp,AS X Xc H' b)/\R J H'
def PI(X:Cx)(tg iter:zn)(wi:TI):Prop:=
 ∀(Xc:QQY) (s:Sd) (Y:St) (H:Hp) (R:It->Hp->Prop),Inv X Xc Y H s->wi Y H R->
  pi (Tk X.prog X.w) X.A (wp iter X.env) (λv s1=>pi (Tk X.prog X.w) X.A (pyIter v) (Wy X Xc Y tg R) X.xe s1) X.xe s
def IZ{M:Model}{A:Ar}{E:QQX}{s:Sd}{tg:zn}{it:Uf}{u:Vl}{o:Obj}{n:String}{vs:Array Vl}{Q:Unit->Sd->Prop}(ho:s.heap.get? it=Fa o)(hc:o.cls=.type n)(hd:o.data=.fields vs) (hn:["enumerate","zip","dict_itemiterator","dict_reverseitemiterator","odict_iterator","itertools.zip_longest","itertools.pairwise"].contains n=lf) (hQ:Q () s):pi M A (XXh tg (.ref it) u) Q E s:=by
  unfold XXh;cases tg<;>first
    | exact cZ hQ
    | (cases u<;>first
        | exact cZ hQ
        | (refine cP (wpAny_load ho ?_)
           rw[hc,hd];show pi M A (if (["enumerate","zip","dict_itemiterator","dict_reverseitemiterator","odict_iterator","itertools.zip_longest","itertools.pairwise"].contains n&&vs[0]?==Fa (X' _))=pc then _ else _) Q E s;rw[cS (by intro h;rw[hn,eL]at h;cases h)];exact cZ hQ))
def Vr(K:qw)(a:Uf):It:=
 ⟨λi H=>∃xs x,zb K H a xs/\xs[i]?=Fa x,λi H x H'=>H'=H/\∀xs,zb K H a xs->xs[i]?=Fa x,λi H=>∃xs,zb K H a xs/\xs.length<=i⟩
def Ww(K:qw)(a:Uf):It:=
 ⟨λi H=>∃xs x,vn K H a xs/\xs[i]?=Fa x,λi H x H'=>H'=H/\∀xs,vn K H a xs->xs[i]?=Fa x,λi H=>∃xs,vn K H a xs/\xs.length<=i⟩
def Vg(lo:Int)(n:Nat):It:=⟨λi _=>i<n,λi H x H'=>H'=H/\x=.int (lo+i),λi _=>n<=i⟩
def Kz{K:qw}(a it:Uf):F4 P w K tg (Vr K a) [it] it (λi h=>h.IsListIter it a i) where
 mem:=by simp
 obj:=λi h st b hb=>by
  have e:b=it:=by simpa using hb
  subst e;obtain⟨o,e,c,d⟩:=st;exact⟨o,e,λv z=>by rw[d]at z;cases z⟩
 keep:=λi h h' st k=>st.at λo e=>k it (by simp) o e
 item:=by intro X hP hw hK hc i Xc s Y H E I hf st hg;subst hP hw hK;obtain⟨xs,x,hq,hx⟩:=hg;obtain⟨its,rv,p,hz⟩:=I.list hq;obtain⟨u,hu,ru⟩:=rv.get hx;obtain⟨f0,f1,f2,f3,f4,f5⟩:=hf it (by simp);refine wpAny_pyNext_list_item st p.isList (x:=u) (by simpa using hu) λh' X4 sb=>?_;have I1:Inv X Xc Y H {s with heap:=h'}:=I.turned (t':=s.toks) (λb o hb e=>(sb.2 b hb).trans e) f0 f1 f3 f4 f5;obtain⟨o,e,c,d⟩:=id X4;exact⟨u,rfl,IZ (s:={s with heap:=h'}) e c d (by decide) ⟨x,H,I1,ru,⟨rfl,λys hy=>by rw[I.nN hy hq];exact hx⟩,X4,λb hb=>(hf b hb).1⟩⟩
 done:=by intro X hP hw hK hc i Xc s Y H E I hf st hg;subst hP hw hK;obtain⟨xs,hq,hx⟩:=hg;obtain⟨its,rv,p,hz⟩:=I.list hq;obtain⟨f0,f1,f2,f3,f4,f5⟩:=hf it (by simp);have hl:=rv.length;exact wpAny_pyNext_list_end (I.ok.hd hc) st p.isList (by simp;omega) λh' eb=>⟨rfl,I.turned (t':=s.toks) (λb o hb e=>eb b o hb e) f0 f1 f3 f4 f5⟩
 self:=λ_ _ _ _ _ st h=>wpAny_pyIter_listiter st h
def Ih{K:qw}(a it:Uf):F4 P w K tg (Ww K a) [it] it (λi h=>h.IsTupleIter it a i) where
 mem:=by simp
 obj:=λi h st b hb=>by
  have e:b=it:=by simpa using hb
  subst e;obtain⟨o,e,c,d⟩:=st;exact⟨o,e,λv z=>by rw[d]at z;cases z⟩
 keep:=λi h h' st k=>st.at λo e=>k it (by simp) o e
 item:=by intro X hP hw hK hc i Xc s Y H E I hf st hg;subst hP hw hK;obtain⟨xs,x,hq,hx⟩:=hg;obtain⟨its,rv,p,hz⟩:=I.tuple hq;obtain⟨u,hu,ru⟩:=rv.get hx;obtain⟨f0,f1,f2,f3,f4,f5⟩:=hf it (by simp);refine wpAny_pyNext_tuple_item st (show s.heap.IsTuple a its.toArray from p) (x:=u) (by simpa using hu) λh' X4 sb=>?_;have I1:Inv X Xc Y H {s with heap:=h'}:=I.turned (t':=s.toks) (λb o hb e=>(sb.2 b hb).trans e) f0 f1 f3 f4 f5;obtain⟨o,e,c,d⟩:=id X4;exact⟨u,rfl,IZ (s:={s with heap:=h'}) e c d (by decide) ⟨x,H,I1,ru,⟨rfl,λys hy=>by rw[I.mY hy hq];exact hx⟩,X4,λb hb=>(hf b hb).1⟩⟩
 done:=by intro X hP hw hK hc i Xc s Y H E I hf st hg;subst hP hw hK;obtain⟨xs,hq,hx⟩:=hg;obtain⟨its,rv,p,hz⟩:=I.tuple hq;obtain⟨f0,f1,f2,f3,f4,f5⟩:=hf it (by simp);have hl:=rv.length;exact wpAny_pyNext_tuple_end (I.ok.hd hc) st (show s.heap.IsTuple a its.toArray from p) (by simp;omega) λh' eb=>⟨rfl,I.turned (t':=s.toks) (λb o hb e=>eb b o hb e) f0 f1 f3 f4 f5⟩
 self:=λ_ _ _ _ _ st h=>wpAny_pyIter_tupleiter st h
def IB{K:qw}(it:Uf)(lo:Int)(n:Nat):F4 P w K tg (Vg lo n) [it] it (λi h=>IsRangeIter h it (lo+(i:Nat)*1) ((n:Int) - (i:Nat)) 1) where
 mem:=by simp
 obj:=λi h st b hb=>by
  have e:b=it:=by simpa using hb
  subst e;exact⟨_,st,λv z=>by
   have z':Data.fields _=Data.cell v:=z;cases z'⟩
 keep:=λi h h' st k=>k it (by simp) _ st
 item:=by intro X hP hw hK hc i Xc s Y H E I hf st hg;subst hP hw hK;obtain⟨f0,f1,f2,f3,f4,f5⟩:=hf it (by simp);have W:=Walks.range (prog:=X.prog) (w:=X.w) (I.ok.hd hc) it lo 1 n;refine W.item i s _ _ hg st λv h' tk hv X4 kk=>?_;obtain⟨t,rfl⟩:=hv;have I1:Inv X Xc Y H {s with heap:=h',toks:=tk}:=I.turned (λb o hb e=>kk b o (by simpa using hb) e) f0 f1 f3 f4 f5;refine⟨_,rfl,IZ (s:={s with heap:=h',toks:=tk}) (n:="range_iterator") X4 rfl rfl (by decide) ⟨.int (lo+i),H,I1,⟨t,?_⟩,⟨rfl,rfl⟩,X4,λb hb=>(hf b hb).1⟩⟩;rw[Int.mul_one]
 done:=by intro X hP hw hK hc i Xc s Y H E I hf st hg;subst hP hw hK;obtain⟨f0,f1,f2,f3,f4,f5⟩:=hf it (by simp);exact wpAny_pyNext_range_end (I.ok.hd hc) st (by have:n<=i:=hg;omega) λh' eb=>⟨rfl,I.turned (t':=s.toks) (λb o hb e=>eb b o hb e) f0 f1 f3 f4 f5⟩
 self:=λ_ _ _ _ _ st h=>wpAny_pyIter_rangeiter st h
variable {tg:zn}
def K5{Xc:QQY}{R:It->Hp->Prop}{E:QQX}{lo hi:Int}{t u v:Tok}{tk:Nat}(I:Inv X Xc Y H s)(h1:-(2 ^ 62)<=lo)(h2:lo<2 ^ 62)(h3:-(2 ^ 62)<=hi)(h4:hi<2 ^ 62) (q:R (Vg lo (hi - lo).toNat) H):pi (Tk X.prog X.w) X.A (pyIter (.ref s.heap.objs.size)) (Wy X Xc Y tg R) E {s with heap:=s.heap.push {cls:=.type "range",data:=.fields #[.int lo t,.int hi u,.int 1 v]},toks:=tk}:=by
 refine wpAny_pyIter_range (IsRange.new ..) (small_one h1 h2 h3 h4) ?_;have I1:Inv X Xc Y H {s with heap:=s.heap.push {cls:=.type "range",data:=.fields #[.int lo t,.int hi u,.int 1 v]},toks:=tk}:=I.kept λb o e=>cU _ e;refine⟨(s.heap.push {cls:=.type "range",data:=.fields #[.int lo t,.int hi u,.int 1 v]}).objs.size,[(s.heap.push {cls:=.type "range",data:=.fields #[.int lo t,.int hi u,.int 1 v]}).objs.size],_,_,H,rfl,I1.kept (t':=tk) λb o e=>cU _ e,IB _ lo (hi - lo).toNat,?_,λb hb=>?_,q⟩
 .have e1:lo+((0:Nat):Int)*1=lo:=by simp
  have e2:(((hi - lo).toNat:Nat):Int) - ((0:Nat):Int)=Builtin.Range.rangeSize lo hi 1:=by rw[rangeSize_one];split<;>omega
  show IsRangeIter _ _ (lo+((0:Nat):Int)*1) ((((hi - lo).toNat:Nat):Int) - ((0:Nat):Int)) 1;rw[e1,e2];exact dA _ rfl
 .have e:b=(s.heap.push {cls:=.type "range",data:=.fields #[.int lo t,.int hi u,.int 1 v]}).objs.size:=by simpa using hb
  subst e;exact I1.nS (c9 _) (I1.mK.fresh (c9 _))
def Uy(ta:TA):TI:=λY H R=>ta Y H λvs H1=>∃j:Int,vs=[.int j]/\-(2 ^ 62)<=j/\j<2 ^ 62/\R (Vg 0 j.toNat) H1
def Kt{a:zn}{ta:TA}(hg:Gl X "range")(hm:X.mg "range"=Db)(ha:PA X [a] ta)(hs:Tl [a] X.env=[(lf,wp a X.env)]:=by rfl):PI X tg (.Call (.Name "range" p) [a] [] pos) (Uy ta):=by
 intro Xc s Y H R I h;refine Call_ (xB I hg hm boot_range (fS (sL (ha pos Xc s Y H _ I h) λus s1 zz=>x5 zz λvs H1 I1 r1 q1=>?_) hs rfl));obtain⟨j,e,q1,q2,q⟩:=q1;subst e;cases r1 with
 | cons r rr=>cases rr;obtain⟨t,rfl⟩:=r;exact call_range_1 (K5 I1 (by omega) (by omega) q1 q2 (by simpa using q))
def VH(wi:TI)(g:TG)(tb:TS):TS:=λD Y H=>wi Y H λJ H1=>∃W:Nat->Nat->St->Hp->Prop,(∃m,W 0 m Y H1)/\∀i m Y H,W i m Y H->
 (J.stop i H/\D.nx Y H)\/(J.go i H/\∃N:St->Hp->Prop,(∀σ' H',N σ' H'->∃m',m'<m/\W (i+1) m' σ' H')/\∀x H',J.oS i H x H'->g x Y H' λσ2 H2=>tb {D with nx:=N,ct:=N,bk:=D.nx} σ2 H2)
def B2(fp:QXQ)(h:No):QQY:=fp.filterMap λb=>(h.get? b).map λo=>(b,o)
def vD{fp:QXQ}{h:No}{b:Uf}{o:Obj}(hb:b∈fp)(e:h.get? b=Fa o):(b,o)∈B2 fp h:=kE.mpr ⟨b,hb,by rw[e];rfl⟩
def Kr{p:Uf×Obj}(hp:p∈B2 fp h):p.1∈fp/\h.get? p.1=Fa p.2:=by
 obtain⟨b,hb,e⟩:=kE.mp hp;cases q:h.get? b with
 | none=>rw[q]at e;cases e
 | some o=>rw[q]at e;have e':(b,o)=p:=cY e;subst e';exact⟨hb,q⟩
def Inv.pinned{Xc:QQY}{fp:QXQ}(I:Inv X Xc Y H s)(hf:∀b∈fp,AS X Xc H b)(ho:∀b∈fp,∃o,s.heap.get? b=Fa o/\∀v,o.data≠.cell v):Inv X (Xc++B2 fp s.heap) Y H s:=
 I.nK λp hp=>(dI.mp hp).elim (λz=>I.pin p (dY _ z)) λz=>by obtain⟨hb,e⟩:=Kr z;obtain⟨f0,f1,f2,_⟩:=hf p.1 hb;obtain⟨o,e',d⟩:=ho p.1 hb;rw[e]at e';cases e';exact⟨e,f0,f1,f2,d⟩
def Inv.mR{Xc pl:QQY}(I:Inv X (Xc++pl) Y H s):Inv X Xc Y H s:=I.nK λp hp=>I.pin p (dY _ (eV _ hp))
def SZ{tb:TS}(hp:PassesOwn (Tk X.prog X.w) X.A X.env X.xe)(hc:X.calm=pc)(hi:PI X tg iter wi)(hg:PG X tg g)(hb:Co X body tb) (hs:∀x,AT iter X.env x=pure x:=by intro _;rfl):PS X (.For tg iter body [] pos) (VH wi g tb):=by
 intro Xc s Y H D I h;refine wpAny_For (sL (hi Xc s Y H _ I h) λv s1 h1=>sL h1 λitv s2 h2=>?_) hs;obtain⟨it,fp,tn,J,H2,e,I2,T,Xk,f2,W,⟨m0,w0⟩,turn⟩:=h2;subst e;have Yr:∀{H':Hp},(∀b∈fp,H' b=Db)->∀b∈fp,AS X Xc H' b:=λhn b hb=>⟨hn b hb,(f2 b hb).2⟩;refine codeAny_forLoop_any (λn s'=>∃i σ' H',Inv X Xc σ' H' s'/\tn i s'.heap/\(∀b∈fp,H' b=Db)/\W i n σ' H') ?_ m0 ⟨0,Y,H2,I2,Xk,λb hb=>(f2 b hb).1,w0⟩
 rintro n s3 ⟨i,σ3,H3,I3,X9,fr3,w3⟩
 rcases turn i n σ3 H3 w3 with⟨stop,qn⟩|⟨go,N,hN,step⟩
 .refine gx hp (sL (T.done X rfl rfl rfl hc i Xc s3 σ3 H3 X.xe I3 (Yr fr3) X9 stop) λr s4 ⟨hr,I4⟩=>?_);subst hr;exact gH ⟨σ3,H3,I4,qn⟩
 .refine gx hp (sL (T.item X rfl rfl rfl hc i Xc s3 σ3 H3 X.xe I3 (Yr fr3) X9 go) λr s4 ⟨u,hr,h4⟩=>?_);subst hr;refine gx hp (sL h4 λ_ s5 zz=>?_);obtain⟨x,H5,I5,r5,y5,Zb,fr5⟩:=zz;have I5':=I5.pinned (Yr fr5) (T.obj _ _ Zb);refine gx hp (sL (hg _ s5 σ3 H5 x u _ I5' r5 (step x H5 y5)) λ_ s6 ⟨σ6,H6,I6,q6⟩=>?_);refine gx hp (sL (hb _ s6 σ6 H6 _ I6 q6) λf s7 q7=>?_);have again:∀{σ7:St} {H7:Hp},Inv X (Xc++B2 fp s5.heap) σ7 H7 s7->N σ7 H7->∃m,m<n/\∃i σ' H',Inv X Xc σ' H' s7/\tn i s7.heap/\(∀b∈fp,H' b=Db)/\W i m σ' H':=λ{σ7 H7} I7 n7=>by obtain⟨m',hm,w7⟩:=hN σ7 H7 n7;refine⟨m',hm,i+1,σ7,H7,I7.mR,T.keep _ _ _ Zb λb hb o e=>(I7.pin (b,o) (dY _ (dY _ (vD hb e)))).1,λb hb=>?_,w7⟩;obtain⟨o,e,d⟩:=T.obj _ _ Zb b hb;exact(I7.pin (b,o) (dY _ (dY _ (vD hb e)))).2.1
  cases f with
  | next=>obtain⟨σ7,H7,I7,n7⟩:=q7;exact again I7 n7
  | cont=>obtain⟨σ7,H7,I7,n7⟩:=q7;exact again I7 n7
  | brk=>obtain⟨σ7,H7,I7,q7⟩:=q7;exact⟨σ7,H7,I7.mR,q7⟩
  | ret v=>obtain⟨x7,σ7,H7,I7,r7,q7⟩:=q7;exact⟨x7,σ7,H7,I7.mR,r7,q7⟩
abbrev R2:=V->V->Hp->VK->Prop
def xy(X:Cx)(f:Vl->Vl->Sem Vl)(r:R2):Prop:=
 ∀(Xc:QQY) (s:Sd) (Y:St) (H:Hp) (x y:V) (v u:Vl) (Q:VK),Inv X Xc Y H s->qQ x v->qQ y u->r x y H Q->
  pi (Tk X.prog X.w) X.A (f v u) (EP X Xc Y Q) X.xe s
def V8(X:Cx)(f:Vl->Sem Vl)(r:V->Hp->VK->Prop):Prop:=
 ∀(Xc:QQY) (s:Sd) (Y:St) (H:Hp) (x:V) (v:Vl) (Q:VK),Inv X Xc Y H s->qQ x v->r x H Q->
  pi (Tk X.prog X.w) X.A (f v) (EP X Xc Y Q) X.xe s
def zI(X:Cx)(f:Vl)(r:T0 V->Hp->VK->Prop):Prop:=
 ∀(Xc:QQY) (s:Sd) (Y:St) (H:Hp) (xs:T0 V) (us:T0 Vl) (Q:VK),Inv X Xc Y H s->qE xs us->r xs H Q->
  pi (Tk X.prog X.w) X.A (call f us) (EP X Xc Y Q) X.xe s
def T6(r:R2)(ta tb:TE):TE:=λY H Q=>ta Y H λx H1=>tb Y H1 λy H2=>r x y H2 Q
def W8(r:V->Hp->VK->Prop)(ta:TE):TE:=λY H Q=>ta Y H λx H1=>r x H1 Q
def rI(C:Int->Int->Prop)(g:Int->Int->V):R2:=λx y H Q=>∃i j,x=.int i/\y=.int j/\C i j/\Q (g i j) H
def QN(g:Int->Int->V):R2:=λx y H Q=>∃i j,x=.int i/\y=.int j/\Q (g i j) H
def rU(g:Int->V):V->Hp->VK->Prop:=λx H Q=>∃i,x=.int i/\Q (g i) H
variable {tc:TE}
section
variable {a b c:zn}
def RW(ha:PE X a ta)(hb:PE X b tb){Xc:QQY}{s:Sd}{Y:St}{H:Hp}{R:V->V->Hp->Prop}(I:Inv X Xc Y H s) (h:ta Y H λx H1=>tb Y H1 λy H2=>R x y H2) {Q:QQX} {f:Vl->Vl->Sem Vl} (hf:∀v u s2 x y H2,Inv X Xc Y H2 s2->qQ x v->qQ y u->R x y H2->pi (Tk X.prog X.w) X.A (f v u) Q X.xe s2):
  pi (Tk X.prog X.w) X.A (wp a X.env) (λv s₁=>pi (Tk X.prog X.w) X.A (wp b X.env) (λu s₂=>pi (Tk X.prog X.w) X.A (f v u) Q X.xe s₂) X.xe s₁) X.xe s:=by
 refine sL (ha Xc s Y H _ I h) λv s1 zz=>x5 zz λx H1 I1 r1 q1=>?_;refine sL (hb Xc s1 Y H1 _ I1 q1) λu s2 zz=>x5 zz λy H2 I2 r2 q2=>?_;exact hf v u s2 x y H2 I2 r1 r2 q2
def QP{op:XYa}(ho:xy X (wP op) r)(ha:PE X a ta)(hb:PE X b tb):PE X (.BinOp a op b pos) (T6 r ta tb):=by intro Xc s Y H Q I h;exact wpAny_BinOp (RW ha hb I h λv u s2 x y H2 I2 rx ry q=>ho Xc s2 Y H2 x y v u Q I2 rx ry q)
def US{op:UnaryOp}(ho:V8 X (unaryOp op) r)(ha:PE X a ta):PE X (.UnaryOp op a pos) (W8 r ta):=by intro Xc s Y H Q I h;exact UnaryOp_ (sL (ha Xc s Y H _ I h) λv s1 zz=>x5 zz λx H1 I1 r1 q1=>ho Xc s1 Y H1 x v Q I1 r1 q1)
def Wn{f:Vl->Vl->Sem Vl}{C:Int->Int->Prop}{g:Int->Int->Int} (rule:∀(i j:Int) (t u:Tok) (s:Sd) (Q:QQX) (E:QQX),C i j->Q (.int (g i j) s.toks) {s with toks:=s.toks+1}->pi (Tk X.prog X.w) X.A (f (.int i t) (.int j u)) Q E s):
  xy X f (rI C λi j=>.int (g i j)):=by
 intro Xc s Y H x y v u Q I rx ry h;obtain⟨i,j,rfl,rfl,hc,q⟩:=h;obtain⟨t,rfl⟩:=rx;obtain⟨t',rfl⟩:=ry;exact rule i j t t' s _ _ hc ⟨.int (g i j),H,I.tok _,⟨_,rfl⟩,q⟩
def Vb{f:Vl->Vl->Sem Vl}{g:Int->Int->Int} (rule:∀(i j:Int) (t u:Tok) (s:Sd) (Q:QQX) (E:QQX),Q (.int (g i j) s.toks) {s with toks:=s.toks+1}->pi (Tk X.prog X.w) X.A (f (.int i t) (.int j u)) Q E s):
  xy X f (QN λi j=>.int (g i j)):=by
 intro Xc s Y H x y v u Q I rx ry h;obtain⟨i,j,rfl,rfl,q⟩:=h;obtain⟨t,rfl⟩:=rx;obtain⟨t',rfl⟩:=ry;exact rule i j t t' s _ _ ⟨.int (g i j),H,I.tok _,⟨_,rfl⟩,q⟩
def Py{f:Vl->Vl->Sem Vl}{g:Int->Int->Bool} (rule:∀(i j:Int) (t u:Tok) (s:Sd) (Q:QQX) (E:QQX),Q (.bool (g i j)) s->pi (Tk X.prog X.w) X.A (f (.int i t) (.int j u)) Q E s):
  xy X f (QN λi j=>.bl (g i j)):=by
 intro Xc s Y H x y v u Q I rx ry h;obtain⟨i,j,rfl,rfl,q⟩:=h;obtain⟨t,rfl⟩:=rx;obtain⟨t',rfl⟩:=ry;exact rule i j t t' s _ _ ⟨.bl (g i j),H,I,rfl,q⟩
def Ub(i j:Int):Prop:=0<j/\j<1073741824
def Dm(i j:Int):Prop:=(-(2 ^ 64)<i/\i<2 ^ 64)\/(-(2 ^ 64)<j/\j<2 ^ 64)
def Dm.ok(h:Dm i j):IntMulOk i j:=by
 rcases h with⟨h1,h2⟩|⟨h1,h2⟩
 .exact .of_left (intBits_le_64 h1 h2)
 .exact .of_right (intBits_le_64 h1 h2)
def RQ:xy X (wP .Add) (QN λi j=>.int (i+j)):=Vb λ_ _ _ _ _ _ _ q=>add_int q
def Sx:xy X (wP .Sub) (QN λi j=>.int (i - j)):=Vb λ_ _ _ _ _ _ _ q=>sub_int q
def RK:xy X (wP .Mult) (rI Dm λi j=>.int (i*j)):=Wn λ_ _ _ _ _ _ _ hc q=>mul_int q hc.ok
def Qj:xy X (wP .FloorDiv) (rI Ub λi j=>.int (i / j)):=Wn λi j _ _ _ _ _ hc q=>by have h1:(0:Int)<j:=hc.1;have h2:j<1073741824:=hc.2;exact floordiv_int (by omega) (by rw[Int.fdiv_eq_ediv_of_nonneg i (by omega)];exact q) (.inl (PyProof.noPylong_small (by omega)))
def SG:xy X (wP .Mod) (rI (λ_ j=>0<j) λi j=>.int (i % j)):=Wn λi j _ _ _ _ _ hc q=>by have h1:(0:Int)<j:=hc;exact mod_int' (by omega) (by rw[Int.fmod_eq_emod_of_nonneg i (by omega)];exact q)
def W0{f:Vl->Sem Vl}{g:Int->Int} (rule:∀(i:Int) (t:Tok) (s:Sd) (Q:QQX) (E:QQX),Q (.int (g i) s.toks) {s with toks:=s.toks+1}->pi (Tk X.prog X.w) X.A (f (.int i t)) Q E s):
  V8 X f (rU λi=>.int (g i)):=by
 intro Xc s Y H x v Q I rx h;obtain⟨i,rfl,q⟩:=h;obtain⟨t,rfl⟩:=rx;exact rule i t s _ _ ⟨.int (g i),H,I.tok _,⟨_,rfl⟩,q⟩
def Ru:V8 X (unaryOp .USub) (rU λi=>.int (-i)):=W0 λ_ _ _ _ _ q=>neg_int q
end
section
variable {a b c:zn}
def HE{Xc:QQY}{Q:VK}{k k':Bool}(I:Inv X Xc Y H s)(q:Q (.bl k) H)(e:k=k'):EP X Xc Y Q (.bool k') s:=by subst e;exact⟨.bl k,H,I,rfl,q⟩
def UZ:xy X (Op .Lt) (QN λi j=>.bl (decide (i<j))):=Py λ_ _ _ _ _ _ _ q=>lt_int q
def Uc:xy X (Op .LtE) (QN λi j=>.bl (decide (i<=j))):=Py λ_ _ _ _ _ _ _ q=>le_int q
def Uh:xy X (Op .Gt) (QN λi j=>.bl (decide (j<i))):=Py λ_ _ _ _ _ _ _ q=>gt_int q
def T1:xy X (Op .GtE) (QN λi j=>.bl (decide (j<=i))):=Py λ_ _ _ _ _ _ _ q=>ge_int q
def KW:xy X (Op .In) (λx y H Q=>∃i j,x=.str i/\y=.str j/\Q (.bl (!(Builtin.Str.occurrences j i 0 j.length 1).isEmpty)) H):=by intro Xc s Y H x y v u Q I rx ry h;obtain⟨i,j,rfl,rfl,q⟩:=h;obtain⟨t,rfl⟩:=rx;obtain⟨t',rfl⟩:=ry;exact in_str (HE I q rfl)
def RF:xy X (Op .Is) (λx y H Q=>y=.mG/\Q (.bl (decide (x=.mG))) H):=by
 intro Xc s Y H x y v u Q I rx ry h;obtain⟨rfl,q⟩:=h;cases ry;refine is_none_gen (HE I q ?_);cases x<;>first
  | (cases rx;rfl)
  | (obtain⟨t,rfl⟩:=rx;rfl)
def OP:xy X (Op .IsNot) (λx y H Q=>y=.mG/\Q (.bl (!decide (x=.mG))) H):=by
 intro Xc s Y H x y v u Q I rx ry h;obtain⟨rfl,q⟩:=h;cases ry;refine isnot_none_gen (HE I q ?_);cases x<;>first
  | (cases rx;rfl)
  | (obtain⟨t,rfl⟩:=rx;rfl)
def IC(b:zn){op:CmpOp}(h:op≠.In:=by decide)(h2:op≠.NotIn:=by decide):wT op b=lf:=by
 have e1:(op==CmpOp.In)=lf:=by cases op<;>first|rfl|exact absurd rfl h
 have e2:(op==CmpOp.NotIn)=lf:=by cases op<;>first|rfl|exact absurd rfl h2
 cases b<;>simp[wT,e1,e2]
def Ja{op:CmpOp}(ho:xy X (Op op) r)(ha:PE X a ta)(hb:PE X b tb)(hm:wT op b=lf):PE X (.Compare a [op] [b] pos) (T6 r ta tb):=by intro Xc s Y H Q I h;exact wpAny_Compare1 (RW ha hb I h λv u s2 x y H2 I2 rx ry q=>ho Xc s2 Y H2 x y v u Q I2 rx ry q) hm
def Q3(t:TE):TT:=λY H Q=>t Y H λx H'=>∃k,x=.bl k/\Q k H'
def Jj{op:CmpOp}(ho:xy X (Op op) r)(ha:PE X a ta)(hb:PE X b tb)(hm:wT op b=lf):PT X (.Compare a [op] [b] pos) (Q3 (T6 r ta tb)):=by
 intro Xc s Y H Q I h;refine wpAny_isTrue_Compare1 (sL (ha Xc s Y H _ I h) λv s1 zz=>x5 zz λx H1 I1 r1 q1=>sL (hb Xc s1 Y H1 _ I1 q1) λu s2 zz=>x5 zz λy H2 I2 r2 q2=>
  sL (ho Xc s2 Y H2 x y v u _ I2 r1 r2 q2) λc s3 zz=>?_) hm
 obtain⟨z,H3,I3,r3,k,e,q3⟩:=zz;subst e;cases r3;exact eZ ⟨H3,I3,q3⟩
def NS(r r':R2)(ta tb tc:TE):TE:=λY H Q=>ta Y H λx H1=>tb Y H1 λy H2=>r x y H2 λz H3=>∃k,z=.bl k/\
 (if k=pc then tc Y H3 λw' H4=>r' y w' H4 Q else Q (.bl lf) H3)
def Nk{op X5:CmpOp}(ho:xy X (Op op) r)(XW:xy X (Op X5) r')(ha:PE X a ta)(hb:PE X b tb)(hc:PE X c tc) (hm:lastMarks [op,X5] [b,c]=lf:=by with_unfolding_all rfl):PE X (.Compare a [op,X5] [b,c] pos) (NS r r' ta tb tc):=by
 intro Xc s Y H Q I h;refine Compare_chain (sL (ha Xc s Y H _ I h) λv s1 zz=>x5 zz λx H1 I1 r1 q1=>chain_link (sL (hb Xc s1 Y H1 _ I1 q1) λu s2 zz=>x5 zz λy H2 I2 r2 q2=>
  sL (ho Xc s2 Y H2 x y v u _ I2 r1 r2 q2) λd s3 zz=>?_)) hm
 obtain⟨z,H3,I3,r3,k,e,q3⟩:=zz;subst e;cases r3;refine eZ ?_;cases k with
 | false=>exact ite_ff ⟨.bl lf,H3,I3,rfl,q3⟩
 | true=>exact ite_tt (chain_last (sL (hc Xc s3 Y H3 _ I3 q3) λw' s4 zz=>x5 zz λz' H4 I4 r4 q4=>XW Xc s4 Y H4 y z' u w' Q I4 r2 r4 q4))
def NN{op X5:CmpOp}(ho:xy X (Op op) r)(XW:xy X (Op X5) r')(ha:PE X a ta)(hb:PE X b tb)(hc:PE X c tc) (hm:lastMarks [op,X5] [b,c]=lf:=by with_unfolding_all rfl):PT X (.Compare a [op,X5] [b,c] pos) (Q3 (NS r r' ta tb tc)):=by
 intro Xc s Y H Q I h;refine isTrue_chain (sL (ha Xc s Y H _ I h) λv s1 zz=>x5 zz λx H1 I1 r1 q1=>test_link (sL (hb Xc s1 Y H1 _ I1 q1) λu s2 zz=>x5 zz λy H2 I2 r2 q2=>
  sL (ho Xc s2 Y H2 x y v u _ I2 r1 r2 q2) λd s3 zz=>?_)) hm
 obtain⟨z,H3,I3,r3,k,e,q3⟩:=zz;subst e;cases r3;refine eZ ?_;cases k with
 | false=>obtain⟨k',e',q'⟩:=q3;cases e';exact ite_ff ⟨H3,I3,q'⟩
 | true=>refine ite_tt (test_last (sL (hc Xc s3 Y H3 _ I3 q3) λw' s4 zz=>x5 zz λz' H4 I4 r4 q4=>sL (XW Xc s4 Y H4 y z' u w' _ I4 r2 r4 q4) λd' s5 zz=>?_));obtain⟨z2,H5,I5,r5,k2,e2,q5⟩:=zz;subst e2;cases r5;exact eZ ⟨H5,I5,q5⟩
def yZ:(Ch:Nat)<2 ^ 63:=by rw[dF];decide
def Hk:xy X (wP .Add) (λx y H Q=>∃i j,x=.str i/\y=.str j/\i.length+j.length<=Ch/\Q (.str (i++j)) H):=by intro Xc s Y H x y v u Q I rx ry h;obtain⟨i,j,rfl,rfl,hz,q⟩:=h;obtain⟨t,rfl⟩:=rx;obtain⟨t',rfl⟩:=ry;exact add_str (λt' tk=>⟨.str (i++j),H,I.tok _,⟨_,rfl⟩,q⟩) hz
def yA{x:V}(r:qE [x] us):∃u,us=[u]/\qQ x u:=by
 cases r with
 | cons r1 r2=>cases r2;exact⟨_,rfl,r1⟩
def QY{x y:V}(r:qE [x,y] us):∃u w',us=[u,w']/\qQ x u/\qQ y w':=by
 cases r with
 | cons r1 r2=>
  cases r2 with
  | cons r3 r4=>cases r4;exact⟨_,_,rfl,r1,r3⟩
def Ky(hc:X.calm=pc):zI X (.builtin "min") (λxs H Q=>∃i j,xs=[.int i,.int j]/\Q (.int (if j<i then j else i)) H):=by
 intro Xc s Y H xs us Q I r h;obtain⟨i,j,rfl,q⟩:=h;obtain⟨u,w',rfl,⟨t,rfl⟩,⟨t',rfl⟩⟩:=QY r;refine min_two_ints (I.ok.hd hc) λh' tk k=>⟨_,H,I.kept k,?_,q⟩;by_cases hj:j<i
 .rw[cV hj,cV hj];exact⟨_,rfl⟩
 .rw[cS hj,cS hj];exact⟨_,rfl⟩
end
structure HA(h:No)(x dx C:Uf)(mA:QQZ):Prop where
 obj:h.get? x=Fa (W.instObj C dx)
 ns:h.Ns1 dx mA
 ne:dx≠x
def Ki{h:No}{dx:Uf}{mA:QQZ}(n:h.Ns1 dx mA):∃od,h.get? dx=Fa od/\∀name,W.lookIn name od=Fa (mA name):=by
 obtain⟨o,es,ep,ho,hd,hk,_,hm⟩:=n;refine⟨o,ho,λname=>?_⟩;have e:=hm name;unfold nsFind findBy at e;rw[<-Array.find?_toList]at e;unfold W.lookIn;rw[hd];dsimp only;split
 .rename_i y q;rw[q]at e;exact eE Fa e
 .rename_i q;rw[q]at e;have a:es.toList.any (·.refKey)=lf:=by rw[kU];intro y hy;obtain⟨z,t,hkey⟩:=hk y (j5.mp hy);simp[DictEntry.refKey,hkey]
  have a':¬es.toList.any (·.refKey)=pc:=by rw[a];exact dh
  rw[cS a'];exact eE Fa e
def HA.look(I:HA h x dx C mA):∃od,W.InstAt h x (W.instObj C dx) C (Fa od)/\∀name,W.lookIn name od=Fa (mA name):=
 let⟨od,ho,hl⟩:=Ki I.ns
 ⟨od,⟨I.obj,rfl,rfl,ho⟩,hl⟩
variable {prog:Pg}{A:Ar}{K:qw}{dx C:Uf}{mA:QQZ}{name:Str}
section
variable {w:Wo}{E:QQX}{x f:Uf}{v:Vl}
def Qa{expr:Bool}{Q:QQX}(X:K.In s.heap)(I:HA s.heap x dx C mA)(hg:W.plainGet K C name=pc)(hh:W.hasDictIn K C=pc) (ha:W.findIn K (.ref C) name=Fa Db) (hv:mA name=Fa v) (hv':W.handedIn v=pc) (h:Q v {s with toks:=s.toks+1}):
  pi (Tk prog w) A (getAttr (.ref x) name expr) Q E s:=by
 obtain⟨od,J,hl⟩:=I.look;exact W.get_value X J (kh hg).1 (W.findObj_own hh ha rfl (by rw[hl,hv])) hv' h
def LM{pl:Sem Bool}{Q:Vl×T0 Vl->Sd->Prop}(X:K.In s.heap)(I:HA s.heap x dx C mA)(hg:W.plainGet K C name=pc) (hf:W.findIn K (.ref C) name=Fa (Fa (.ref f))) (ht:W.isFn K (.ref f)=pc) (hv:mA name=Db) (h:Q (.ref f,[.ref x]) s):
  pi (Tk prog w) A (TW (.ref x) name pl) Q E s:=by
 obtain⟨od,J,hl⟩:=I.look;exact W.method_fn X J (kh hg).1 (kh hg).2 hf (eW.mp ht) (by show(W.lookIn name od).map (·.isSome)=Fa lf;rw[hl,hv];rfl) h
def O6{Q:Unit->Sd->Prop}(X:K.In s.heap)(I:HA s.heap x dx C mA) (hs:W.findIn K (.ref C) "__setattr__"=Fa (Fa (.builtin "object.__setattr__"))) (hp:W.plainOver K C=pc) (ht:W.takerIn K C name=Fa Db) (hh:W.hasDictIn K C=pc) (hw:PySem.Within mA ns) (hsz:ns.length<=Ch) (h:∀h',HA h' x dx C (λy=>if y=name then Fa v else mA y)->Heap.SameBut dx s.heap h'->Q () {s with heap:=h',toks:=s.toks+2}):
  pi (Tk prog w) A (setAttr (.ref x) name v) Q E s:=by
 obtain⟨od,J,hl⟩:=I.look;refine W.set_plain X J hs (W.osa_open (s:={s with toks:=s.toks+1}) (r:=none) X J hp ht λb=>?_);obtain⟨cd,hc,hd'⟩:=W.any_some hh;have hx:s.heap.get? x=Fa ⟨.ref C,Fa dx,.plain,#[]⟩:=I.obj;refine cP (cZ (cP (cP (wpAny_loadPart hx (cP (me (s:={s with toks:=s.toks+1}) (kl X hc) ?_))))));rw[hd'];refine cZ (a:=some dx) (cP (cZ (cP ?_)));refine wpAny_nsSet1 (s:={s with toks:=s.toks+1}) I.ns λh' ZZ YS=>?_;obtain⟨oD,esD,epD,hoD,CT,hcD⟩:=ZZ.count (PySem.Within.cons name v hw);refine cP (lC hoD (by rw[CT];exact lD (dR hcD (by rw[dU];omega))) ?_);exact cZ (h _ ⟨(YS.2 _ (dH I.ne)).trans I.obj,ZZ,I.ne⟩ YS)
def L7{vs:T0 Vl}{kw:T0 (Str×Vl)}(X:K.In s.heap)(hm:W.makesIn K C=pc) (hi:W.findIn K (.ref C) "__init__"=Fa (Fa (.ref f))) (hf:W.typeIn K (.ref f)=Fa (.type "function")) (h:XXi (Tk prog w) (A.under (.builtin "type.__call__" ⟨.ref C::vs,kw⟩)) (.call (.ref f) ⟨.ref (s.heap.objs.size+1)::vs,kw⟩) (W.InitBack (s.heap.objs.size+1) R) {s with heap:=(s.heap.push W.emptyDict).push (W.instObj C s.heap.objs.size)}):
  XXi (Tk prog w) A (.call (.ref C) ⟨vs,kw⟩) R s:=by
 obtain⟨hh,g,d,t,os⟩:=s;exact W.make_core (W.makes_of X hm) (lZ X hi) (λself=>W.bind_fn X self hf) (.inl rfl) h
end
def vK(f:Str)(v:V):T0 (Str×V)->T0 (Str×V)
 | []=>[(f,v)]
 | (g,x)::r=>if g=f then(g,v)::r else(g,x)::vK f v r
theorem Aw(f g:Str)(v:V):∀fs:T0 (Str×V),(vK f v fs).lookup g=if g=f then Fa v else fs.lookup g
 | []=>by
  show List.lookup g [(f,v)]=_;by_cases h:g=f
  .have hb:(g==f)=pc:=eW.mpr h;simp only[List.lookup,hb,cV h]
  .have hb:(g==f)=lf:=gm.mpr h;simp only[List.lookup,hb,cS h]
 | (k,x)::r=>by
  have ih:=Aw f g v r;rw[show vK f v ((k,x)::r)=(if k=f then(k,v)::r else(k,x)::vK f v r)from rfl];by_cases hk:k=f
  .rw[cV hk];by_cases h:g=k
   .have hb:(g==k)=pc:=eW.mpr h;simp only[List.lookup,hb,cV (h.trans hk)]
   .have hb:(g==k)=lf:=gm.mpr h;simp only[List.lookup,hb,cS (λe:g=f=>h (e.trans hk.symm))]
  .rw[cS hk];by_cases h:g=k
   .have hb:(g==k)=pc:=eW.mpr h;simp only[List.lookup,hb,cS (λe:g=f=>hk (h.symm.trans e))]
   .have hb:(g==k)=lf:=gm.mpr h;simp only[List.lookup,hb];exact ih
theorem Au(f:Str)(v:V):∀fs:T0 (Str×V),f∈(vK f v fs).map (·.1)/\∀g,g∈fs.map (·.1)->g∈(vK f v fs).map (·.1)
 | []=>⟨by simp[vK],λg h=>by simp at h⟩
 | (k,x)::r=>by
  obtain⟨i1,i2⟩:=Au f v r;rw[show vK f v ((k,x)::r)=(if k=f then(k,v)::r else(k,x)::vK f v r)from rfl];by_cases hk:k=f
  .rw[cV hk];subst hk;exact⟨by simp,λg h=>by simpa using h⟩
  .rw[cS hk];refine⟨?_,λg h=>?_⟩
   .rw[dN];exact dw _ i1
   .rw[dN]at h ⊢;rcases cW.mp h with e|e
    .exact cW.mpr (.inl e)
    .exact dw _ (i2 g e)
theorem Ay(f:Str)(v:V):∀fs:T0 (Str×V),(vK f v fs).length<=fs.length+1
 | []=>by simp[vK]
 | (k,x)::r=>by
  have ih:=Ay f v r;rw[show vK f v ((k,x)::r)=(if k=f then(k,v)::r else(k,x)::vK f v r)from rfl];by_cases hk:k=f
  .rw[cV hk,dU,dU];omega
  .rw[cS hk,dU,dU];omega
def yu.some_of{v:V}(r:yu (Fa v) o):∃u,o=Fa u/\qQ v u:=by
 cases o with
 | none=>exact(show False from r).elim
 | some u=>exact⟨u,rfl,r⟩
def yu.none_of{o:Option Vl}(r:yu Db o):o=Db:=by
 cases o with
 | none=>rfl
 | some u=>exact(show False from r).elim
def KL{u:Vl}(r:qQ v u):W.handedIn u=pc:=by
 cases v with
 | mG=>cases(show u=Value.none from r);rfl
 | bl b=>cases(show u=Value.bool b from r);rfl
 | int i=>obtain⟨t,e⟩:=(show ∃t,u=Value.int i t from r);cases e;rfl
 | str x=>obtain⟨t,e⟩:=(show ∃t,u=Value.str x t from r);cases e;rfl
 | byt b=>obtain⟨t,e⟩:=(show ∃t,u=Value.bytes b t from r);cases e;rfl
 | flt b=>obtain⟨t,e⟩:=(show ∃t,u=Value.float b t from r);cases e;rfl
 | ref a=>cases(show u=Value.ref a from r);rfl
 | ty n=>cases(show u=Value.type n from r);rfl
section
variable {P:Pg}{w:Wo}{a:Uf}{fs fs':T0 (Str × V)}
def Ei(mK:yx P w H h)(e:H a=Fa (.ins C dx fs)):∃mA,HA h a dx C mA/\(∀f,yu (fs.lookup f) (mA f))/\PySem.Within mA (fs.map (·.1))/\fs.length<=1000/\H dx=Fa (.own a):=by obtain⟨d,z,ne,ob,mA,n,r,q⟩:=(show tD P w H h a (.ins C dx fs)from mK a _ e);exact⟨mA,⟨ob,n,ne⟩,r,q,z,d⟩
end
structure Cls(K:qw)(C:Uf):Prop where
 pg:W.plainGet K C Str.empty=pc
 hd:W.hasDictIn K C=pc
 po:W.plainOver K C=pc
 sa:W.findIn K (.ref C) "__setattr__"=Fa (Fa (.builtin "object.__setattr__"))
def Cls.get{K:qw}(c:Cls K C)(f:Str):W.plainGet K C f=pc:=c.pg
def ut(K:qw)(C:Uf)(f:Str):Prop:=W.findIn K (.ref C) f=Fa Db
def ut.oQ{K:qw}(n:ut K C f):W.takerIn K C f=Fa Db:=by unfold W.takerIn;rw[show W.findIn K (.ref C) f=Fa Db from n];rfl
structure Xb(K:qw)(C:Uf)(f:Str)(v:V)(u:Vl):Prop where
 at_:W.findIn K (.ref C) f=Fa (Fa u)
 rel:qQ v u
 get:W.specialIn K u "__get__"=Fa Db
 cp:W.copiedNames.contains f=lf
structure vL(K:qw)(C:Uf)(m:Str)(f:Uf):Prop where
 at_:W.findIn K (.ref C) m=Fa (Fa (.ref f))
 fn:W.isFn K (.ref f)=pc
 kp:W.keepIn K (.ref f)=pc
section
variable {Y:St}{a:Uf}{fs:T0 (Str × V)}{f:Str}{v:V}{E:QQX}
def Ct{b:Bool}{Q:QQX}(I:Inv X Xc Y H s)(e:H a=Fa (.ins C dx fs))(c:Cls X.K C)(n:ut X.K C f)(l:fs.lookup f=Fa v) (h:∀u s',Inv X Xc Y H s'->qQ v u->Q u s'):pi (Tk X.prog X.w) A (getAttr (.ref a) f b) Q E s:=by
 obtain⟨mA,O,r,_,_,_⟩:=Ei I.mK e;obtain⟨u,hu,ru⟩:=yu.some_of (v:=v) (o:=mA f) (by rw[<-l];exact r f);exact Qa I.ni O (c.get f) c.hd n hu (KL ru) (h u _ (I.tok _) ru)
def Cw{pl:Sem Bool}{Q:Vl×T0 Vl->Sd->Prop}(I:Inv X Xc Y H s)(e:H a=Fa (.ins C dx fs))(c:Cls X.K C)(k:vL X.K C m g)(l:fs.lookup m=Db) (h:Q (.ref g,[.ref a]) s):pi (Tk X.prog X.w) A (TW (.ref a) m pl) Q E s:=by
 obtain⟨mA,O,r,_,_,_⟩:=Ei I.mK e;have hn:mA m=Db:=yu.none_of (by rw[<-l];exact r m);exact LM I.ni O (c.get m) k.at_ k.fn hn h
def Bv{u:Vl}{Q:Unit->Sd->Prop}(I:Inv X Xc Y H s)(e:H a=Fa (.ins C dx fs))(c:Cls X.K C)(n:ut X.K C f)(hl:fs.length<1000)(ry:qQ y u) (h:∀s',Inv X Xc Y (upd H a (.ins C dx (vK f y fs))) s'->Q () s'):pi (Tk X.prog X.w) A (setAttr (.ref a) f u) Q E s:=by
 obtain⟨mA,O,r,wi,_,ho⟩:=Ei I.mK e;have hz:(fs.map (·.1)).length<=Ch:=by rw[cO,dF];omega
 refine O6 I.ni O c.sa c.po n.oQ c.hd wi hz λh' O' sb=>h _ ?_;have hd:∃o,h'.get? dx=Fa o:=let⟨o,_,_,e',_⟩:=O'.ns;⟨o,e'⟩;refine I.write (x:=a) (e:=dx) (by rw[e];exact True.intro) (.inr ho) (λb q hb z=>(sb.2 b hb).trans z) hd ?_;refine⟨by rw[qa O.ne];exact ho,?_,O.ne,O'.obj,_,O'.ns,λg=>?_,λg hg=>?_⟩
 .have:=Ay f y fs;omega
 .show yu ((vK f y fs).lookup g) (if g=f then Fa u else mA g);rw[Aw];by_cases q:g=f
  .rw[cV q,cV q];exact ry
  .rw[cS q,cS q];exact r g
 .by_cases q:g=f
  .rw[q];exact(Au f y fs).1
  .refine(Au f y fs).2 g (wi g λz=>hg ?_);show(if g=f then Fa u else mA g)=Db;rw[cS q];exact z
def Inv.made(I:Inv X Xc Y H s):Inv X Xc Y (upd (upd H s.heap.objs.size (.own (s.heap.objs.size+1))) (s.heap.objs.size+1) (.ins C s.heap.objs.size [])) {s with heap:=(s.heap.push W.emptyDict).push (W.instObj C s.heap.objs.size)}:=by
 have e1:(s.heap.push W.emptyDict).get? s.heap.objs.size=Fa W.emptyDict:=dA s.heap rfl;have e2:((s.heap.push W.emptyDict).push (W.instObj C s.heap.objs.size)).get? (s.heap.objs.size+1)=Fa (W.instObj C s.heap.objs.size):=by
  have:=dA (s.heap.push W.emptyDict) (o:=W.instObj C s.heap.objs.size) rfl
  rwa [fg]at this
 have e3:(s.heap.push W.emptyDict).Ns s.heap.objs.size (λ_=>Db):=⟨W.emptyDict,#[],_,e1,rfl,(λe he=>absurd he (by simp)),λ_=>rfl⟩;have I1:=I.laid (a:=s.heap.objs.size) (o:=.own (s.heap.objs.size+1)) (h':=s.heap.push W.emptyDict) (t':=s.toks) (λb u q=>cU _ q) (c9 _) ⟨_,e1⟩;refine I1.laid (a:=s.heap.objs.size+1) (o:=.ins C s.heap.objs.size []) (t':=s.toks) (λb u q=>cU _ q) (mf (fg _ _)) ?_;have ne:s.heap.objs.size≠s.heap.objs.size+1:=dC (fB _);refine⟨by rw[qa ne,ql],d9 _,ne,e2,λ_=>Db,(kW e3).at λo q=>cU _ q,λ_=>True.intro,λy hy=>absurd rfl hy⟩
def Qh{prog:Pg}{w:Wo}{env:Env}{e:zn}{f:Str}{s:Sd}{Q:QQX}(hb:At e f env (wp e env)=wp e env) (h:pi (Tk prog w) A (wp e env) (λo s₁=>pi (Tk prog w) A (getAttr o f pc) Q E s₁) E s):pi (Tk prog w) A (wp (.Attribute e f pos) env) Q E s:=
 Attribute_any_ h (by rw[arm_eval_Attribute,hb])
end
def VO(K:qw)(ta:TE)(f:Str):TE:=λY H Q=>ta Y H λx H1=>∃a C dx fs v,x=.ref a/\H1 a=Fa (.ins C dx fs)/\Cls K C/\ut K C f/\fs.lookup f=Fa v/\Q v H1
def Ws(K:qw)(ta tv:TE)(f:Str):TS:=λD Y H=>tv Y H λy H1=>ta Y H1 λx H2=>∃a C dx fs,x=.ref a/\H2 a=Fa (.ins C dx fs)/\Cls K C/\ut K C f/\fs.length<1000/\
 D.nx Y (upd H2 a (.ins C dx (vK f y fs)))
def OF(X:Cx)(op:XYa)(rd:V->V->Hp->VK->Prop):Prop:=
 ∀(Xc:QQY) (s:Sd) (Y:St) (H:Hp) (x y:V) (u v:Vl) (Q:VK),Inv X Xc Y H s->qQ x u->qQ y v->rd x y H Q->pi (Tk X.prog X.w) X.A (inplaceOp op u v) (EP X Xc Y Q) X.xe s
def P5(K:qw)(ta tv:TE)(rd:V->V->Hp->VK->Prop)(f:Str):TS:=λD Y H=>ta Y H λx H1=>∃a C dx fs v,x=.ref a/\H1 a=Fa (.ins C dx fs)/\Cls K C/\ut K C f/\fs.lookup f=Fa v/\
 tv Y H1 λy H2=>rd v y H2 λz H3=>∃Z0 fs',H3 a=Fa (.ins C Z0 fs')/\fs'.length<1000/\D.nx Y (upd H3 a (.ins C Z0 (vK f z fs')))
variable {value:zn}{Xo Zo:Pos}{tv:TE}
section
variable {o e:zn}{f:Str}
def Rr(he:PE X e ta)(hb:At e f X.env (wp e X.env)=wp e X.env):PE X (.Attribute e f pos) (VO X.K ta f):=by intro Xc s Y H Q I h;refine Qh hb (sL (he Xc s Y H _ I h) λu s1 zz=>?_);obtain⟨x,H1,I1,rx,a,C,dx,fs,v,ex,ea,c,n,l,q⟩:=zz;subst ex;obtain rfl:u=Value.ref a:=rx;exact Ct I1 ea c n l λu' s2 I2 ru=>⟨v,H1,I2,ru,q⟩
def RZ(ha:PE X o ta)(hv:PE X value tv)(hs:ZB value (Fa (.Attribute o f Xo)) pos.line X.env=pure lf):PS X (.Assign [.Attribute o f Xo] value pos) (Ws X.K ta tv f):=by intro Xc s Y H D I h;refine iG (sL (hv Xc s Y H _ I h) λu s1 zz=>x5 zz λy H1 I1 ry q=>sL (ha Xc s1 Y H1 _ I1 q) λov s2 zz=>?_) hs;obtain⟨x,H2,I2,rx,a,C,dx,fs,ex,ea,c,n,l,q2⟩:=zz;subst ex;obtain rfl:ov=Value.ref a:=rx;exact Bv I2 ea c n l ry λs3 I3=>⟨Y,_,I3,q2⟩
def K0(ha:PE X o ta)(hv:PE X value tv)(hop:OF X op rd):PS X (.AugAssign (.Attribute o f Zo) op value pos) (P5 X.K ta tv rd f):=by intro Xc s Y H D I h;refine wpAny_AugAssign_AttributeAny (sL (ha Xc s Y H _ I h) λov s1 zz=>?_);obtain⟨x,H1,I1,rx,a,C,dx,fs,v,ex,ea,c,n,l,q⟩:=zz;subst ex;obtain rfl:ov=Value.ref a:=rx;refine Ct I1 ea c n l λu s2 I2 ru=>sL (hv Xc s2 Y H1 _ I2 q) λw3 s3 zz=>x5 zz λy H2 I3 ry q3=>sL (hop Xc s3 Y H2 v y u w3 _ I3 ru ry q3) λw4 s4 zz=>?_;obtain⟨z,H3,I4,rz,Z0,fs',ea',l',q4⟩:=zz;exact Bv I4 ea' c n l' rz λs5 I5=>⟨Y,_,I5,q4⟩
def VS:V->V->Hp->VK->Prop:=λx y H Q=>∃i j,x=.int i/\y=.int j/\Q (.int (i+j)) H
def VM:V->V->Hp->VK->Prop:=λx y H Q=>∃i j,x=.int i/\y=.int j/\Q (.int (i - j)) H
def RG:OF X .Add VS:=by
 rintro Xc s Y H x y u v Q I rx ry ⟨i,j,rfl,rfl,q⟩
 obtain⟨t,rfl⟩:=(show ∃t,u=Value.int i t from rx);obtain⟨t',rfl⟩:=(show ∃t',v=Value.int j t' from ry);exact PyProof.Rows.iadd_int ⟨.int (i+j),H,I.tok _,⟨_,rfl⟩,q⟩
def Su:OF X .Sub VM:=by
 rintro Xc s Y H x y u v Q I rx ry ⟨i,j,rfl,rfl,q⟩
 obtain⟨t,rfl⟩:=(show ∃t,u=Value.int i t from rx);obtain⟨t',rfl⟩:=(show ∃t',v=Value.int j t' from ry);exact PyProof.Rows.isub_int ⟨.int (i - j),H,I.tok _,⟨_,rfl⟩,q⟩
end
variable {Q:QQX}
section
variable {Y:St}{E:QQX}{c:Vl}{b:Bool}
inductive CP(K:qw)(H:Hp):V->Vl->Prop where
 | mG:CP K H .mG (.type "NoneType")
 | bl (x:Bool):CP K H (.bl x) (.type "bool")
 | int (i:Int):CP K H (.int i) (.type "int")
 | str (x:Str):CP K H (.str x) (.type "str")
 | flt (x:UInt64):CP K H (.flt x) (.type "float")
 | lst {a:Uf} {xs:List V} (e:H a=Fa (.lst xs)):CP K H (.ref a) (.type "list")
 | frz {a:Uf} {o:Obj} {xs:List V} (e:H a=Fa (.frz o (.lst xs))):CP K H (.ref a) (.type "list")
 | tup {a:Uf} {xs:List V} (e:H a=Fa (.tup xs)):CP K H (.ref a) (.type "tuple")
 | dK {a:Uf} {kvs:List (qX×V)} (e:H a=Fa (.dK kvs)):CP K H (.ref a) (.type "dict")
 | dT {a:Uf} {kvs:List (List qX×V)} (e:H a=Fa (.dT kvs)):CP K H (.ref a) (.type "dict")
 | ins {a C dx:Uf} {fs:List (Str×V)} (e:H a=Fa (.ins C dx fs)) (cl:Cls K C) (ha:W.findIn K (.ref C) "__class__"=Fa (Fa (.builtin "object.__class__")))
   (hn:W.specialIn K (.builtin "object.__class__") "__get__"=Fa (Fa (.builtin "getset_descriptor.__get__"))) (htk:W.takesIn K (.builtin "object.__class__")=Fa pc)
   (hm:W.mroIn K C (.type "object")=Fa pc):CP K H (.ref a) (.ref C)
end
structure sd(k:Nat)(A:Ar):Prop where
 hd:A.handled=Db
 dp:A.depth+3*k+5<recursionLimit
 un:A.units+16*k+200<Y'
def sd.mono{j k:Nat}(r:sd k A)(h:j<=k):sd j A:=⟨r.hd,by have:=r.dp;omega,by have:=r.un;omega⟩
def sd.deeper{k:Nat}(r:sd (k+1) A)(env:Env):sd k (A.deeper env):=
 ⟨r.hd,by have:=r.dp;show A.depth+1+3*k+5<_;omega,by have:=r.un;show A.units+3+16*k+200<_;omega⟩
def Iw{A:Ar}{C:Uf}{us:T0 Vl}{kw:T0 (Str×Vl)}:(A.under (.builtin "type.__call__" ⟨.ref C::us,kw⟩)).depth=A.depth+1:=by first|rfl|simp[Around.under,Code.weight,Code.isCreation,Code.isGuard,Code.isCaller,Code.frames,Code.isFrame,guardIds]
def Ir{A:Ar}{C:Uf}{us:T0 Vl}{kw:T0 (Str×Vl)}:(A.under (.builtin "type.__call__" ⟨.ref C::us,kw⟩)).units=A.units+1:=by first|rfl|simp[Around.under,Code.cUnits,Code.frames,Code.isFrame]
def sd.make{k:Nat}(r:sd (k+1) A)(C:Uf)(us:T0 Vl)(kw:T0 (Str×Vl)):sd k (A.under (.builtin "type.__call__" ⟨.ref C::us,kw⟩)):=
 ⟨r.hd,by have:=r.dp;rw[Iw];omega,by have:=r.un;rw[Ir];omega⟩
def sd.depth(r:sd k A):A.depth<recursionLimit:=by have:=r.dp;omega
def sd.units(r:sd k A):A.units+64<Y':=by have:=r.un;omega
def UJ:TA:=λ_ H Q=>Q [] H
def TZ(ta:TE)(tr:TA):TA:=λY H Q=>ta Y H λx H1=>tr Y H1 λxs H2=>Q (x::xs) H2
variable {es:T0 zn}
section
variable {e:zn}{t:TA}
def R9:PA X [] UJ:=λ_ _ _ _ H Q I h=>iw ⟨[],H,I,.nil,h⟩
def Qq(ha:PE X e te)(hr:PA X es t)(hs:Bp X e es:=by rfl):PA X (e::es) (TZ te t):=by intro pos Xc s Y H Q I h;rw[hs];show pi _ _ (spliced ((lf,wp e X.env)::Ix pos (Tl es X.env))) _ _ s;refine ia (sL (ha Xc s Y H _ I h) λu s1 zz=>x5 zz λx H1 I1 r1 q1=>?_);exact sL (hr pos Xc s1 Y H1 _ I1 q1) λus s2 zz=>x5 zz λxs H2 I2 r2 q2=>⟨x::xs,H2,I2,.cons r1 r2,q2⟩
def VY(t:TA):TE:=λY H Q=>t Y H λxs H1=>xs.length<=Ch/\∀p,H1 p=Db->Q (.ref p) (upd H1 p (.tup xs))
def VR(t:TA):TE:=λY H Q=>t Y H λxs H1=>xs.length<=Ch/\∀p,H1 p=Db->Q (.ref p) (upd H1 p (.lst xs))
def Sv{x1}(h:PA X es t):PE X (.Tuple es x1 pos) (VY t):=by intro Xc s Y H Q I hq;refine wpAny_Tuple_spliced (sL (h pos Xc s Y H _ I hq) λus s1 ⟨xs,H1,I1,r,z,q⟩=>⟨by rw[<-r.length];exact z,?_⟩);have hf:H1 s1.heap.objs.size=Db:=I1.mK.fresh (c9 _);refine⟨.ref s1.heap.objs.size,upd H1 s1.heap.objs.size (.tup xs),I1.laid (t':=s1.toks) (λb u e=>cU _ e) (c9 _) ?_,rfl,q _ hf⟩;exact⟨z,us,r,⟨_,dA _ rfl,rfl,⟨_,rfl⟩,rfl⟩⟩
def RB(h:PA X es t):PE X (.List es pos) (VR t):=by intro Xc s Y H Q I hq;refine wpAny_List_spliced (sL (h pos Xc s Y H _ I hq) λus s1 ⟨xs,H1,I1,r,z,q⟩=>⟨by rw[<-r.length];exact z,?_⟩);have hf:H1 s1.heap.objs.size=Db:=I1.mK.fresh (c9 _);refine⟨.ref s1.heap.objs.size,upd H1 s1.heap.objs.size (.lst xs),I1.laid (t':=s1.toks) (λb u e=>cU _ e) (c9 _) ?_,rfl,q _ hf⟩;exact⟨z,us,0,r,dA _ rfl⟩
end
abbrev Sp:=T0 V->Hp->VK->XK->Prop
abbrev K3:=T0 Env->Hp->Sd->XK->Vl->Sd->Prop
structure Ij(P:Pg)(w:Wo)(K:qw)(mg:QQZ)(base:No)(A:Ar)(outer:List Env)(s:Sd)(H:Hp):Prop where
 frames:A.frames=Fa outer
 mod:Mod K mg base
 bs:∀b o,base.get? b=Fa o->s.heap.get? b=Fa o/\H b=Db
 nW:base.objs.size<=s.heap.objs.size
 nj:s.heap.FunFrames base outer
 oi:∀b∈wq outer,H b=Db
 mK:yx P w H s.heap
 bare:XXk s.gens
def CE(outer:T0 Env)(P:Pg)(w:Wo)(H:Hp)(s:Sd)(Q:VK)(u:Vl)(s':Sd):Prop:=
 ∃v H',s'.os=s.os/\XXk s'.gens/\Un (wq outer) [] H H' s.heap s'.heap/\yx P w H' s'.heap/\qQ v u/\Q v H'
def CR(CX:K3)(outer:T0 Env)(P:Pg)(w:Wo)(H:Hp)(s:Sd)(Q:VK)(E:XK)(r:Result)(s':Sd):Prop:=
 match r with
 | .ok (.ret u)=>CE outer P w H s Q u s'
 | .ok _=>False
 | .error e=>CX outer H s E e s'
structure xp(P:Pg)(w:Wo)(K:qw)(mg:QQZ)(base:No)(CX:K3)(k:Nat)(f:Uf)(fd:Rs)(ps:QQQ)(sp:Sp):Prop where
 len:∀vs H Q E,sp vs H Q E->vs.length=ps.length
 run:∀(A:Ar) (outer:List Env) (s:Sd) (H:Hp) (args:Args) (us:List Vl) (vs:List V) (Q:VK) (E:XK),sd k A->Ij P w K mg base A outer s H->BindsTo s fd args (ps.zip us)->qE vs us->sp vs H Q E->
  XXi (Tk P w) A (.call (.ref f) args) (CR CX outer P w H s Q E) s
def Ij.make{K:qw}(e:Ij P w K mg base A outer s H)(C:Uf)(us:T0 Vl)(kw:T0 (Str×Vl)):
  Ij P w K mg base (A.under (.builtin "type.__call__" ⟨.ref C::us,kw⟩)) outer s H:=⟨by first|exact e.frames|(simpa [Around.under,Code.envs,Code.isFrame,pushEnvs]using e.frames),e.mod,e.bs,e.nW,e.nj,e.oi,e.mK,e.bare⟩
variable {s':Sd}
section
variable {Y:St}
def Inv.n9(I:Inv X Xc Y H s):Ij X.prog X.w X.K X.mg X.base X.A X.stack s H:=
 ⟨I.ok.frames,I.ok.mod,I.bs,dR I.ok.nW I.sz,I.stack,I.nB,I.mK,I.bare⟩
def Inv.after{Q:VK}{u:Vl}(I:Inv X Xc Y H s)(h:CE X.stack X.prog X.w H s Q u s'):EP X Xc Y Q u s':=by obtain⟨v,H',os,bare,un,mK,r,q⟩:=h;obtain⟨hh,g,d,t,Z1⟩:=s';obtain rfl:Z1=s.os:=os;exact⟨v,H',I.call (h':=hh) (g':=g) (d':=d) (t':=t) (ch:=[]) un mK bare (λb z=>absurd z (by simp)),r,q⟩
end
def U8(sp:Sp)(X1:T0 V)(E:XK)(t:TA):TE:=λY H Q=>t Y H λvs H1=>sp (vs++X1) H1 Q E
def TH(C:Uf)(sp:Sp)(X1:T0 V)(E:XK)(t:TA):TE:=λY H Q=>t Y H λvs H1=>∀x dx,H1 x=Db->H1 dx=Db->dx≠x->
 sp (.ref x::(vs++X1)) (upd (upd H1 dx (.own x)) x (.ins C dx [])) (λv H2=>v=.mG/\Q (.ref x) H2) E
def uX(K:qw)(fd:Rs)(ps:QQQ)(ds:T0 Vl):Prop:=
 ∀(s:Sd) (us:T0 Vl),K.In s.heap->(us++ds).length=ps.length->BindsTo s fd ⟨us,[]⟩ (ps.zip (us++ds))
def uX.all{K:qw}{fd:Rs}{ps:QQQ}(h:∀us:T0 Vl,us.length=ps.length->bindArgs fd ⟨us,[]⟩=pure (ps.zip us)):uX K fd ps []:=λs us _ hl=>by rw[eJ]at hl ⊢;exact .of_eq (h us hl)
def BP(CX:K3)(X:Cx)(E:XK):Prop:=∀(Xc:QQY) (Y:St) (H:Hp) (s:Sd) (e:Vl) (s':Sd),Inv X Xc Y H s->CX X.stack H s E e s'->X.xe e s'
variable {CX:K3}{k:Nat}{fd:Rs}{ps:QQQ}{sp:Sp}{X1:T0 V}{ds:T0 Vl}{m:Str}{p Xf:Pos}
section
variable {f:Uf}{E:XK}{x:Str}{e o:zn}{t:TA}
def Ex{Xc:QQY}{Q:VK}(F:xp X.prog X.w X.K X.mg X.base CX k f fd ps sp)(hr:sd k X.A)(hb:uX X.K fd ps ds)(hd:qE X1 ds)(hx:BP CX X E) (I:Inv X Xc Y H s) (r:qE vs us) (h:sp (vs++X1) H Q E):pi (Tk X.prog X.w) X.A (call (.ref f) us) (EP X Xc Y Q) X.xe s:=by
 have r2:qE (vs++X1) (us++ds):=r.append hd;have hl:(us++ds).length=ps.length:=by rw[<-r2.length];exact F.len _ _ _ _ h
 refine ip (gg (F.run X.A X.stack s H ⟨us,[]⟩ (us++ds) (vs++X1) Q E hr I.n9 (hb s us I.ni hl) r2 h) λr s' hq=>?_);cases r with
 | error e=>exact hx Xc Y H s e s' I hq
 | ok fl=>
  cases fl with
  | ret u=>exact I.after hq
  | next=>exact False.elim hq
  | brk=>exact False.elim hq
  | cont=>exact False.elim hq
def O4(F:xp X.prog X.w X.K X.mg X.base CX k f fd ps sp)(hr:sd k X.A)(hg:Gl X x)(hm:X.mg x=Fa (.ref f))(hk:W.keepIn X.K (.ref f)=pc)(hb:uX X.K fd ps ds)(hd:qE X1 ds)(hx:BP CX X E) (ha:PA X (e::es) t) (Xw:zR x:=by decide) (he:Bp X e es:=by rfl) (Xt:CU X pos es:=by rfl):
  PE X (.Call (.Name x p) (e::es) [] pos) (U8 sp X1 E t):=by
 intro Xc s Y H Q I h;refine fO (xj I hg hm ?_ Xw);refine iH (h₀:=X.base) I.ok.mod.oj hk (sL (ha pos Xc s Y H _ I h) λus s1 zz=>x5 zz λvs H1 I1 r q=>⟨I1.ni,?_⟩) he Xt;exact Ex F hr hb hd hx I1 r q
structure Mk(K:qw)(C f:Uf):Prop where
 makes:W.makesIn K C=pc
 init:W.findIn K (.ref C) "__init__"=Fa (Fa (.ref f))
 fn:W.isFn K (.ref f)=pc
 kp:W.keepIn K (.ref C)=pc
def L'{Xc:QQY}{Q:VK}(M:Mk X.K C f)(F:xp X.prog X.w X.K X.mg X.base CX k f fd ps sp)(hr:sd (k+1) X.A)(hb:uX X.K fd ps ds)(hd:qE X1 ds) (hx:BP CX X E) (I:Inv X Xc Y H s) (r:qE vs us) (h:∀x dx,H x=Db->H dx=Db->dx≠x->sp (.ref x::(vs++X1)) (upd (upd H dx (.own x)) x (.ins C dx [])) (λv H2=>v=.mG/\Q (.ref x) H2) E):
  pi (Tk X.prog X.w) X.A (call (.ref C) us) (EP X Xc Y Q) X.xe s:=by
 have hq:=h (s.heap.objs.size+1) s.heap.objs.size (I.mK.fresh (gM _)) (I.mK.fresh (c9 _)) (dC (fB _));have I2:=Inv.made (C:=C) I;have r2:qE (V.ref (s.heap.objs.size+1)::(vs++X1)) (Value.ref (s.heap.objs.size+1)::(us++ds)):=.cons rfl (r.append hd);have hl:(Value.ref (s.heap.objs.size+1)::us++ds).length=ps.length:=by have e:=r2.length;rw[F.len _ _ _ _ hq]at e;exact e.symm
 refine ip (L7 (f:=f) I.ni M.makes M.init (eW.mp M.fn) (gg (F.run _ X.stack _ _ ⟨Value.ref (s.heap.objs.size+1)::us,[]⟩ (Value.ref (s.heap.objs.size+1)::(us++ds)) _ _ E (hr.make C us [])
  (I2.n9.make C us []) (hb _ (Value.ref (s.heap.objs.size+1)::us) I2.ni hl) r2 hq) λr s' YT=>?_))
 cases r with
 | error e=>exact hx Xc Y _ _ e s' I2 YT
 | ok fl=>
  cases fl with
  | ret u=>obtain⟨v,H',I3,rv,ev,q3⟩:=I2.after YT;subst ev;exact⟨rv,⟨V.ref (s.heap.objs.size+1),H',I3,rfl,q3⟩⟩
  | next=>exact False.elim YT
  | brk=>exact False.elim YT
  | cont=>exact False.elim YT
def O8(M:Mk X.K C f)(F:xp X.prog X.w X.K X.mg X.base CX k f fd ps sp)(hr:sd (k+1) X.A)(hg:Gl X x)(hm:X.mg x=Fa (.ref C))(hb:uX X.K fd ps ds)(hd:qE X1 ds)(hx:BP CX X E) (ha:PA X (e::es) t) (Xw:zR x:=by decide) (he:Bp X e es:=by rfl) (Xt:CU X pos es:=by rfl):
  PE X (.Call (.Name x p) (e::es) [] pos) (TH C sp X1 E t):=by
 intro Xc s Y H Q I h;refine fO (xj I hg hm ?_ Xw);refine iH (h₀:=X.base) I.ok.mod.oj M.kp (sL (ha pos Xc s Y H _ I h) λus s1 zz=>x5 zz λvs H1 I1 r q=>⟨I1.ni,?_⟩) he Xt;exact L' M F hr hb hd hx I1 r q
end
variable {g:T0 Vl→T0 Vl→T0 Vl}{gV:T0 V→T0 V→T0 V}{ks:QQQ}{kpos:Pos}{kws:T0 XXd}{tk:TA}{nm:Option Str}
section
variable {f:Uf}{E:XK}{x:Str}{e o:zn}{t:TA}
structure Wb(K:qw)(fd:Rs)(ps ks:QQQ)(g:List Vl->List Vl->List Vl)(gV:List V->List V->List V):Prop where
 to:∀(s:Sd) (us ws:List Vl),K.In s.heap->(g us ws).length=ps.length->BindsTo s fd ⟨us,ks.zip ws⟩ (ps.zip (g us ws))
 rel:∀{vs:List V} {us:List Vl} {zs:List V} {ws:List Vl},qE vs us->qE zs ws->qE (gV vs zs) (g us ws)
end
structure tJ(N P:QQQ)(sc:XXc):Prop where
 kind:sc.kind=.function
 co:sc.isCoroutine=lf
 gen:sc.isGenerator=lf
 nd:N.Nodup
 pre:N.take P.length=P
 par:∀x∈P,sc.names.lookup x=Fa .local\/sc.names.lookup x=Fa .cell
 oZ:∀y∈sc.names,y.2≠.free
theorem DY{kindOf:Str->Option wS}{x:Str}:∀{binds:T0 (Str×Vl)} {m:QQZ},(∀v,(x,v)∉binds)->bindL kindOf binds m x=m x
 | [],_,_=>rfl
 | (n,v)::r,m,h=>by
  unfold bindL;rw[DY λw hw=>h w (dw _ hw)];split
  .have:x≠n:=by rintro rfl;exact h v dD
   simp[this]
  .rfl
theorem DE{kindOf:Str->Option wS}{x:Str}:∀{binds:T0 (Str×Vl)} {m:QQZ},(∀v,(x,v)∉binds)->bindC kindOf binds m x=m x
 | [],_,_=>rfl
 | (n,v)::r,m,h=>by
  unfold bindC;rw[DE λw hw=>h w (dw _ hw)];split
  .rfl
  .have:x≠n:=by rintro rfl;exact h v dD
   simp[this]
theorem DR{kindOf:Str->Option wS}{x:Str}{v:Vl}:∀{P:QQQ} {vs:T0 Vl} {i:Nat} {m:QQZ},P.Nodup->P[i]?=Fa x->vs[i]?=Fa v->kindOf x=Fa .local->
  bindL kindOf (P.zip vs) m x=Fa v
 | [],_,_,_,_,h,_,_=>by simp at h
 | _::_,[],_,_,_,_,h,_=>by simp at h
 | p::P,w::vs,0,m,nd,h1,h2,hk=>by simp at h1 h2;subst h1;subst h2;show bindL kindOf ((p,w)::P.zip vs) m p=_;unfold bindL;rw[DY λv hv=>(dM.mp nd).1 (jJ hv).1,cV hk];simp
 | p::P,w::vs,i+1,m,nd,h1,h2,hk=>by show bindL kindOf ((p,w)::P.zip vs) m x=_;unfold bindL;exact DR (i:=i) (dM.mp nd).2 (by simpa using h1) (by simpa using h2) hk
theorem DS{kindOf:Str->Option wS}{x:Str}{v:Vl}:∀{P:QQQ} {vs:T0 Vl} {i:Nat} {m:QQZ},P.Nodup->P[i]?=Fa x->vs[i]?=Fa v->kindOf x≠Fa .local->
  bindC kindOf (P.zip vs) m x=Fa v
 | [],_,_,_,_,h,_,_=>by simp at h
 | _::_,[],_,_,_,_,h,_=>by simp at h
 | p::P,w::vs,0,m,nd,h1,h2,hk=>by simp at h1 h2;subst h1;subst h2;show bindC kindOf ((p,w)::P.zip vs) m p=_;unfold bindC;rw[DE λv hv=>(dM.mp nd).1 (jJ hv).1,cS hk];simp
 | p::P,w::vs,i+1,m,nd,h1,h2,hk=>by show bindC kindOf ((p,w)::P.zip vs) m x=_;unfold bindC;exact DS (i:=i) (dM.mp nd).2 (by simpa using h1) (by simpa using h2) hk
def start(N:QQQ)(vs:T0 V):St:=vs.map Fa++List.replicate (N.length - vs.length) Db
def vC(CX:K3)(P:Pg)(w:Wo)(K:qw)(mg:QQZ)(base:No)(N:QQQ)(qual:Str)(scope:XXc)(f:Uf)(cd:Vl)(A:Ar)(outer:T0 Env)(s:Sd)(H:Hp)(E:XK):Cx where
 prog:=P
 w:=w
 K:=K
 mg:=mg
 base:=base
 A:=A.deeper (sK qual scope s.heap.objs.size f cd)
 N:=N
 s₀:=s
 H₀:=H
 env:=sK qual scope s.heap.objs.size f cd
 outer:=outer
 stack:=sK qual scope s.heap.objs.size f cd::outer
 ex:=[]
 calm:=true
 fn:=λ_=>pc
 pn:=[]
 xe:=λe s'=>pi (Tk P w) (A.deeper (sK qual scope s.heap.objs.size f cd)) (leaving (sK qual scope s.heap.objs.size f cd) e) (λ_ Z2=>CX outer H s E e Z2) (λe' Z2=>CX outer H s E e' Z2) s'
def GT{sc:XXc}{n:Nat}{x:Str}(h:sc.names.lookup x=Fa .cell):∃c,(cellsFrom n sc.names []).lookup x=Fa c:=by have q:=lE sc.names n [] (.inl h);exact jt.mp q
def KY{CX:K3}{K:qw}{qual:Str}{f:Uf}{cd:Vl}{A:Ar}{E:XK}{vs:T0 V} (S:tJ N ps scope) (hd:A.handled=Db) (e0:Ij P w K mg base A outer s H) (hl:vs.length=ps.length) (r:qE vs us) (x:InCallC s s.heap.objs.size (bindL (sK qual scope s.heap.objs.size f cd).kindOf (ps.zip us) λ_=>Db) (cellsFrom (s.heap.objs.size+1) scope.names []) (bindC (sK qual scope s.heap.objs.size f cd).kindOf (ps.zip us) λ_=>Db) s1):
  Inv (vC CX P w K mg base N qual scope f cd A outer s H E) [] (start N vs) H s1:=by
 have Xt:ps.length<=N.length:=by have:=eE List.length S.pre;rw[fk]at this;omega
 obtain⟨h1,tk,rfl,hk⟩:=x.done;have noA:∀b:Uf,b∉(vC CX P w K mg base N qual scope f cd A outer s H E).ex:=λb z=>absurd (show b∈([]:QXQ)from z) (by simp);refine⟨⟨e0.mod,S.kind,rfl,rfl,c9 _,λy z c h1 h2=>?_,λy hy=>?_,λy c _ h=>?_,λ_=>hd,Around.frames_deeper e0.frames,.inr ⟨rfl,rfl⟩,λb z=>absurd z (noA b),e0.bs,e0.nW,λb _ _=>noA b,λb z=>absurd z (noA b),e0.nj,e0.oi⟩,rfl,e0.bare,Un.kept hk,⟨_,x.toInCall.ns,λi y v h1 h2 h3=>?_⟩,λy c h=>⟨_,x.cell y c h⟩,e0.mK.fresh (c9 _),λy c h=>?_,λp hp=>absurd (show p∈([]:QQY)from hp) (by simp),e0.mK.kept hk,?_⟩
 .exact name_of_addr x.apart (gF h1) (gF h2)
 .have hy:scope.names.lookup y=Fa .cell\/scope.names.lookup y=Fa .free:=hy;rcases hy with hy|hy
  .exact GT hy
  .exact absurd rfl (S.oZ _ (gF hy))
 .exact jr (x.above y c (gF h))
 .have hi:i<vs.length:=by
   unfold start at h2;by_cases hi:i<vs.length
   .exact hi
   .rw[eN (by simpa using hi)]at h2;rw[jF]at h2;split at h2<;>cases h2
  have ha:vs[i]?=Fa v:=by
   unfold start at h2;rw[eP (by simpa using hi),df]at h2;cases e:vs[i]? with
   | none=>rw[e]at h2;cases h2
   | some a=>rw[e]at h2;cases h2;rfl
  obtain⟨u,hu,rv⟩:=r.get ha;have hp:ps[i]?=Fa y:=by rw[<-S.pre,List.getElem?_take_of_lt (by omega)];exact h1
  have ndP:ps.Nodup:=by rw[<-S.pre];exact S.nd.sublist (List.take_sublist _ _)
  refine⟨u,rv,?_⟩;rcases S.par y (e9 hp)with k|k
  .exact .inl ⟨k,DR ndP hp hu k⟩
  .obtain⟨c,e⟩:=GT (n:=s.heap.objs.size+1) k;refine .inr ⟨.inl k,c,e,?_⟩;have q:=x.cell y c e;rw[DS ndP hp hu (by show scope.names.lookup y≠_;rw[k];decide)]at q;exact q
 .exact e0.mK.fresh (jr (x.above y c (gF h)))
 .unfold start;show _=N.length;rw[cR,cO,iE];omega
def L6{CX:K3}{P:Pg}{w:Wo}{K:qw}{mg:QQZ}{base:No}{f:Uf}{dV kV XT pm Xl ct oc:Vl}{an od:Option Uf} {Ya:Array (Option Vl)} {N ps:QQQ} {sp:Sp} (lk:K.lookup f=Fa ⟨oc,od,.func (W.fnOf name qual params body scope dV kV XT pm an Xl ct),Ya⟩) (Yq:W.codeIn K Xl qual=pc) (S:tJ N ps scope) (len:∀vs H Q E,sp vs H Q E->vs.length=ps.length) (Xy:∀(A:Ar) (outer:T0 Env) (s:Sd) (H:Hp) (vs:T0 V) (Q:VK) (E:XK),sd k (A.deeper (sK qual scope s.heap.objs.size f Xl))->sp vs H Q E->
   ∃t,Co (vC CX P w K mg base N qual scope f Xl A outer s H E) body t/\t {nx:=λ_ H'=>Q .mG H',rt:=Q} (start N vs) H):
  xp P w K mg base CX (k+1) f (W.fnOf name qual params body scope dV kV XT pm an Xl ct) ps sp:=by
 refine⟨len,λA outer s H args us vs Q E hr e0 hb r YF=>?_⟩;have hl:=len _ _ _ _ YF;have KX:K.In s.heap:=e0.mod.oj.keeps λb o e=>(e0.bs b o e).1;have lim:s.heap.NoLimit:=e0.mod.nolimit.keeps λb o e=>(e0.bs b o e).1;have hkind:∀y∈ps.zip us,scope.names.lookup y.1=Fa .local\/(scope.names.lookup y.1=Fa .cell/\((cellsFrom (s.heap.objs.size+1) scope.names []).lookup y.1).isSome=pc):=λ⟨n,v⟩ hy=>by
  rcases S.par n (jJ hy).1 with q|q
  .exact .inl q
  .exact .inr ⟨q,lE _ _ _ (.inl q)⟩
 refine codeAny_call_function hr.depth (KX _ _ lk) rfl S.co S.gen rfl (W.codeRec_of KX Yq) (hb _ _ _ _ ?_);refine wpAny_newFunctionEnv_cells S.kind hkind λenv he s1 x=>?_;subst he;refine⟨lim.keeps x.toInCall.keep,codeAny_func ?_⟩;obtain⟨t,ht,hq⟩:=Xy A outer s H vs Q E (hr.deeper _) YF;have I:Inv (vC CX P w K mg base N qual scope f Xl A outer s H E) [] (start N vs) H s1:=KY S hr.hd e0 hl r x;refine dW (ht [] s1 (start N vs) H _ I hq) (λfl s' hs=>?_) λe s' hs=>hs;have Xh:∀{σ':St} {H':Hp} {v:V} {u:Vl},Inv (vC CX P w K mg base N qual scope f Xl A outer s H E) [] σ' H' s'->qQ v u->Q v H'->CE outer P w H s Q u s':=
  λ{σ' H' v u} J rv q=>⟨v,H',J.os,J.bare,J.base,J.mK,rv,q⟩
 cases fl with
 | ret u=>obtain⟨v,σ',H',J,rv,q⟩:=hs;exact Xh J rv q
 | next=>obtain⟨σ',H',J,q⟩:=hs;exact Xh (v:=V.mG) (u:=Value.none) J rfl q
 | brk=>obtain⟨_,_,_,q⟩:=hs;exact False.elim q
 | cont=>obtain⟨_,_,_,q⟩:=hs;exact False.elim q
variable {id T:String}{r:T0 V→Hp→VK→Prop}
section
variable {x:Str}{e:zn}{t:TA}
def Wz(r:T0 V->Hp->VK->Prop)(t:TA):TE:=λY H Q=>t Y H λvs H1=>r vs H1 Q
def NM(hc:zI X (.builtin id) r)(hg:Gl X x)(hm:X.mg x=Db)(hv:Go x=Fa (.builtin id))(ha:PA X (e::es) t)(hn:x≠"__name__":=by decide)(Xw:zR x:=by decide)
  (he:Bp X e es:=by rfl) (Xt:CU X pos es:=by rfl):PE X (.Call (.Name x p) (e::es) [] pos) (Wz r t):=by
 intro Xc s Y H Q I h;refine fO (xB I hg hm hv ?_ hn Xw);exact gI (sL (ha pos Xc s Y H _ I h) λus s1 zz=>x5 zz λvs H1 I1 r1 q1=>hc Xc s1 Y H1 vs us Q I1 r1 q1) he Xt
def J'(hc:zI X (.type T) r)(hg:Gl X x)(hm:X.mg x=Db)(hv:Go x=Fa (.type T))(ha:PA X (e::es) t)(hn:x≠"__name__":=by decide)(Xw:zR x:=by decide)
  (he:Bp X e es:=by rfl) (Xt:CU X pos es:=by rfl):PE X (.Call (.Name x p) (e::es) [] pos) (Wz r t):=by
 intro Xc s Y H Q I h;refine fO (xB I hg hm hv ?_ hn Xw);exact fS (sL (ha pos Xc s Y H _ I h) λus s1 zz=>x5 zz λvs H1 I1 r1 q1=>hc Xc s1 Y H1 vs us Q I1 r1 q1) he Xt
end
end L2
namespace HT
open PySem PyProof.Rows
section
open PySem.SeqAt
open PySem.AutoSeq1 (wpAny_loadPart')
open PySem.MeetsSeq PySem.MeetsSeq2 PySem.MeetsSeq3
end
variable {prog:Pg}{w:Wo}{A:Ar}{E:QQX}{s:Sd}
def OY{vs ws:T0 Vl}{Q:QQX}(ht:IsTup s.heap t vs.toArray)(hb:IsTup s.heap b ws.toArray)(hv:vs≠[]) (h1:ws=[]->Q (.ref t) s) (h2:ws≠[]->Q (.ref s.heap.objs.size) {s with heap:=s.heap.push {cls:=.type "tuple",data:=.seq (vs++ws).toArray}})
  (hsz:vs.length+ws.length<=Ch):pi (Tk prog w) A (wP .Add (.ref t) (.ref b)) Q E s:=by
 obtain⟨⟨cls,dd,data,sl⟩,ho,hc,n,hd⟩:=id ht;obtain⟨⟨cls2,dd2,data2,sl2⟩,ho2,hc2,n2,hd2⟩:=id hb;simp only at hc hd hc2 hd2;subst hc hd hc2 hd2;have e:vs.toArray++ws.toArray=(vs++ws).toArray:=by simp
 by_cases hw:ws=[]
 .exact kF ⟨_,ho,rfl⟩ ⟨_,ho2,rfl⟩ lF seq_tuple_add jQ jG (ju _ _)
   (tuple_addW1 t b vs.toArray ws.toArray n n2 dd dd2 sl sl2 (by simpa using hv) (by simp[hw])) ⟨ho,ho2,h1 hw⟩
 .refine kF ⟨_,ho,rfl⟩ ⟨_,ho2,rfl⟩ lF seq_tuple_add jQ jG (ju _ _)
   (tuple_addW2 t b vs.toArray ws.toArray n n2 dd dd2 sl sl2 (by simpa using hv) (by simpa using hw) (by rw[de,de];exact hsz)) ⟨ho,ho2,?_⟩
  rw[e];exact h2 hw
def tL(n d:Nat):Option Int->Nat
 | none=>d
 | some v=>if v<0 then(v+(n:Int)).toNat else min v.toNat n
def Ca(n d:Nat):tL n d Db=d:=rfl
def IX(n d k:Nat):tL n d (Fa (k:Int))=min k n:=by show(if (k:Int)<0 then((k:Int)+(n:Int)).toNat else min (k:Int).toNat n)=min k n;rw[cS (by omega),gz]
def R6(n d:Nat)(hd:d<=n)(o:Option Int):tL n d o<=n:=by
 cases o with
 | none=>exact hd
 | some v=>
  show(if v<0 then(v+(n:Int)).toNat else min v.toNat n)<=n;by_cases hv:v<0
  .rw[cV hv];omega
  .rw[cS hv];exact Nat.min_le_right _ _
def Jr(v:Int)(n d:Nat):(if v<0 then max (v+(n:Int)) 0 else min v (n:Int))=((tL n d (Fa v):Nat):Int):=by
 show(if v<0 then max (v+(n:Int)) 0 else min v (n:Int))=(((if v<0 then(v+(n:Int)).toNat else min v.toNat n):Nat):Int);by_cases hv:v<0
 .simp only[cV hv];omega
 .simp only[cS hv];omega
def Hl(lo hi:Option Int)(n:Nat):Builtin.Slice.sliceAdjust lo hi 1 (n:Int)=(((tL n 0 lo:Nat):Int),((tL n n hi:Nat):Int)):=by
 have h1:¬((1:Int)<0):=by omega
 unfold Builtin.Slice.sliceAdjust;simp only[h1,j6];refine mh ?_ ?_
 .cases lo with
  | none=>rfl
  | some v=>exact Jr v n 0
 .cases hi with
  | none=>rfl
  | some v=>exact Jr v n n
def Hw(i j:Nat):Builtin.Slice.slicePlaces (i:Int) (j:Int) 1=j - i:=by
 unfold Builtin.Slice.slicePlaces;have h1:(1:Int)>0:=by omega
 simp only[h1,iV,Int.ediv_one];split<;>omega
def CL{Q:Option Int->Sd->Prop}(p:IsPart v o)(h:Q o s):pi (Tk prog w) A (Builtin.Slice.slicePartIndex v) Q E s:=by
 cases p with
 | none=>exact slicePart_none h
 | int i t=>exact slicePart_int h
def wC{sl:Uf}{vl vu:Vl}{lo hi:Option Int}{Q:Int×Int×Nat->Sd->Prop}(hs:s.heap.IsSliceOf sl vl vu .none)(pl:IsPart vl lo)(pu:IsPart vu hi) (h:Q (((tL n 0 lo:Nat):Int),1,tL n n hi - tL n 0 lo) s):pi (Tk prog w) A (Builtin.Slice.sliceApplied (.ref sl) (pure (n:Int))) Q E s:=by
 obtain⟨os,Z3,ZJ,Ys⟩:=id hs;unfold Builtin.Slice.sliceApplied Builtin.Slice.sliceFields;refine cP (cP (eX Z3 Ys (x:=vl) rfl (cP (eX Z3 Ys (x:=vu) rfl (cP (eX Z3 Ys (x:=.none) rfl (cZ ?_)))))));refine cP (slicePart_none ?_);show pi _ _ (if ((1:Int)==0)=pc then _ else _) _ _ s;rw[cS (by decide)];refine cP (CL pl (cP (CL pu (cP (cZ ?_)))));show pi _ _ (match Builtin.Slice.sliceAdjust lo hi 1 (n:Int)with|(lo,hi)=>pure (lo,(1:Int),Builtin.Slice.slicePlaces lo hi 1)) _ _ s;rw[Hl lo hi n];show pi _ _ (pure (((tL n 0 lo:Nat):Int),(1:Int),Builtin.Slice.slicePlaces ((tL n 0 lo:Nat):Int) ((tL n n hi:Nat):Int) 1)) _ _ s;rw[Hw];exact cZ h
def MZ(xs:Array Vl)(i k:Nat):((List.range k).filterMap λ(m:Nat)=>xs[((i:Int)+(m:Int)*1).toNat]?).toArray=((xs.toList.drop i).take k).toArray:=by
 have e:(λ(m:Nat)=>xs[((i:Int)+(m:Int)*1).toNat]?)=λm=>xs[i+m]?:=by
  funext m;have:((i:Int)+(m:Int)*1).toNat=i+m:=by omega
  rw[this]
 rw[e];have:=pick_run xs i k;rw[List.filterMap_map]at this;have e2:((λx=>xs[x]?)∘λx=>i+x)=λm=>xs[i+m]?:=rfl;rw[e2]at this;rw[this]
def zt{t sl:Uf}{vl vu:Vl}{lo hi:Option Int}{Q:QQX}(ht:IsTup s.heap t Xd)(hs:s.heap.IsSliceOf sl vl vu .none)(pl:IsPart vl lo)(pu:IsPart vu hi) (hw:¬(tL Xd.size 0 lo=0/\tL Xd.size Xd.size hi=Xd.size)) (h:Q (.ref s.heap.objs.size) {s with heap:=s.heap.push {cls:=.type "tuple",data:=.seq ((Xd.toList.drop (tL Xd.size 0 lo)).take (tL Xd.size Xd.size hi - tL Xd.size 0 lo)).toArray}})
  (hsz:Xd.size<=Ch):pi (Tk prog w) A (XXe (.ref t) (.ref sl)) Q E s:=by
 have Yz:sizeOk (.seq ((Xd.toList.drop (tL Xd.size 0 lo)).take (tL Xd.size Xd.size hi - tL Xd.size 0 lo)).toArray):=by show((Xd.toList.drop (tL Xd.size 0 lo)).take (tL Xd.size Xd.size hi - tL Xd.size 0 lo)).toArray.size<=Ch;rw[de,fk,gp,hJ];omega
 have hj:tL Xd.size Xd.size hi<=Xd.size:=R6 _ _ (c9 _) hi;obtain⟨os,Z3,ZJ,Ys⟩:=id hs;have hTs:s.TypeIs (.ref sl) "slice":=⟨os,Z3,ZJ⟩;unfold XXe
 try with_reducible refine eM ?_
 first|refine cP (cZ ?_)|skip
 refine cP (jg ht.typeIs (by decide) ?_);refine cP (fG (name:=Str.ofString "__getitem__") ht.typeIs fv
  (fP fv ht.typeIs kt ?_ (kG _ _)))
 show pi _ _ (Builtin.Tuple.tupleItemsOf (.ref t)>>=_) _ _ s;refine cP (tupleItemsOf_ ht ?_);refine cP (jv hTs ?_);rw[cV (by decide)];refine cP (wC hs pl pu ?_);have hno:¬((((tL Xd.size 0 lo:Nat):Int)==0&&(1:Int)==1&&(tL Xd.size Xd.size hi - tL Xd.size 0 lo)==Xd.size)=pc):=by intro q;rw[dO,dO]at q;have q1:((tL Xd.size 0 lo:Nat):Int)=0:=wE q.1.1;have q2:tL Xd.size Xd.size hi - tL Xd.size 0 lo=Xd.size:=wE q.2;exact hw ⟨by omega,by omega⟩
 show pi _ _ (if (((tL Xd.size 0 lo:Nat):Int)==0&&(1:Int)==1&&(tL Xd.size Xd.size hi - tL Xd.size 0 lo)==Xd.size)=pc then _ else _) _ _ s;rw[cS hno,MZ]
 first
  | exact cP (m:=Builtin.Tuple.tupleExact _) (fQ (cZ ⟨_,rfl,cZ h⟩) Yz)
  | exact cP (m:=Builtin.Tuple.tupleExact _) (fQ (cP (cZ (cZ ⟨_,rfl,cZ h⟩))) Yz)
  | exact cP (cP (m:=Builtin.Tuple.tupleExact _) (fQ (cZ (cZ ⟨_,rfl,cZ h⟩)) Yz))
  | exact cP (cP (m:=Builtin.Tuple.tupleExact _) (fQ (cZ ⟨_,rfl,cZ h⟩) Yz))
end HT
namespace L2
abbrev TO:=St->Hp->(Option Int->Hp->Prop)->Prop
def PO(X:Cx)(e:Option zn)(t:TO):Prop:=
 ∀(Xc:QQY) (s:Sd) (Y:St) (H:Hp) (Q:Option Int->Hp->Prop),Inv X Xc Y H s->t Y H Q->
  pi (Tk X.prog X.w) X.A (evalPart e X.env) (λu s'=>∃o H',Inv X Xc Y H' s'/\IsPart u o/\Q o H') X.xe s
def Oa:TO:=λ_ H Q=>Q Db H
def TU(t:TE):TO:=λY H Q=>t Y H λx H1=>∃i,x=.int i/\Q (Fa i) H1
variable {X:Cx}{e:zn}{te:TE}{lo hi:Option zn}{tl th:TO}{pos p2:Pos}
def O7:PO X Db Oa:=by intro Xc s Y H Q I h;rw[evalPart_none];exact cZ ⟨Db,H,I,.none,h⟩
def OD(h:PE X e te):PO X (Fa e) (TU te):=by intro Xc s Y H Q I hw;rw[evalPart_some];refine sL (h Xc s Y H _ I hw) λu s1 zz=>x5 zz λx H1 I1 r1 q1=>?_;obtain⟨i,rfl,q⟩:=q1;obtain⟨t,rfl⟩:=r1;exact⟨Fa i,H1,I1,.int i t,q⟩
def U0(X:Cx)(r:V->Option Int->Option Int->Hp->VK->Prop):Prop:=
 ∀(Xc:QQY) (s:Sd) (Y:St) (H:Hp) (x:V) (v vl vu:Vl) (lo hi:Option Int) (sl:Uf) (Q:VK),Inv X Xc Y H s->qQ x v->s.heap.IsSliceOf sl vl vu .none->IsPart vl lo->IsPart vu hi->r x lo hi H Q->
  ∃T id,typeLookup (.type T) "__getitem__"=pure (Fa (.builtin id))/\s.TypeIs v T/\pi (Tk X.prog X.w) X.A (XXe v (.ref sl)) (EP X Xc Y Q) X.xe s
def Xa(r:V->Option Int->Option Int->Hp->VK->Prop)(te:TE)(tl th:TO):TE:=λY H Q=>te Y H λx H1=>tl Y H1 λl H2=>th Y H2 λu H3=>r x l u H3 Q
def NT(hr:U0 X r)(he:PE X e te)(hl:PO X lo tl)(hu:PO X hi th):PE X (.Subscript e (.Slice lo hi Db p2) pos) (Xa r te tl th):=by intro Xc s Y H Q I h;refine Subscript_ (sL (he Xc s Y H _ I h) λv s1 zz=>x5 zz λx H1 I1 r1 q1=>?_);refine wpAny_Slice (sL (hl Xc s1 Y H1 _ I1 q1) λvl s2 zz=>x5 zz λl H2 I2 pl q2=>sL (hu Xc s2 Y H2 _ I2 q2) λvu s3 zz=>x5 zz λu H3 I3 pu q3=>?_);rw[evalPart_none];refine cZ ?_;have I4:Inv X Xc Y H3 {s3 with heap:=s3.heap.push {cls:=.type "slice",data:=.fields #[vl,vu,.none]}}:=I3.kept (t':=s3.toks) λb ob q=>cU _ q;obtain⟨T,id,hT,ht,hg⟩:=hr Xc {s3 with heap:=s3.heap.push {cls:=.type "slice",data:=.fields #[vl,vu,.none]}} Y H3 x v vl vu l u s3.heap.objs.size Q I4 r1 (my ..) pl pu q3;show pi (Tk X.prog X.w) X.A (subscriptTail e (.Slice lo hi Db p2) v (.ref s3.heap.objs.size)) (EP X Xc Y Q) X.xe {s3 with heap:=s3.heap.push {cls:=.type "slice",data:=.fields #[vl,vu,.none]}};exact tail_any (ops:=[.ref s3.heap.objs.size,v]) ht hT hg (by with_unfolding_all rfl)
def Cn(xs:T0 V)(lo hi:Option Int):T0 V:=(xs.drop (HT.tL xs.length 0 lo)).take (HT.tL xs.length xs.length hi - HT.tL xs.length 0 lo)
def AH(xs:T0 V)(lo hi:Option Int):(Cn xs lo hi).length<=xs.length:=by unfold Cn;rw[fk,gp];omega
def VP(K:qw):V->Option Int->Option Int->Hp->VK->Prop:=λx lo hi H Q=>∃a xs,x=.ref a/\vn K H a xs/\
 ¬(HT.tL xs.length 0 lo=0/\HT.tL xs.length xs.length hi=xs.length)/\∀p,H p=Db->Q (.ref p) (upd H p (.tup (Cn xs lo hi)))
def S6:U0 X (VP X.K):=by
 intro Xc s Y H x v vl vu lo hi sl Q I rx hs pl pu h;obtain⟨a,xs,rfl,hx,hw,q⟩:=h;cases rx;obtain⟨its,r,ht,hz⟩:=I.tuple hx;have Xi:its.toArray.size=xs.length:=by rw[de];exact r.length.symm
 refine⟨"tuple",_,fv.lookup,ht.typeIs,?_⟩;refine HT.zt ht hs pl pu (by rw[Xi];exact hw) ?_ (by rw[Xi];exact hz);rw[Xi];refine⟨.ref s.heap.objs.size,_,I.laid (t':=s.toks) (o:=.tup (Cn xs lo hi)) (λb ob q=>cU _ q) (c9 _) ?_,rfl,q _ (I.mK.fresh (c9 _))⟩;exact⟨dR (AH xs lo hi) hz,_,(r.drop (HT.tL xs.length 0 lo)).take (HT.tL xs.length xs.length hi - HT.tL xs.length 0 lo),FL.new _ _⟩
def UC(K:qw):R2:=λx y H Q=>∃a b xs ys,x=.ref a/\y=.ref b/\vn K H a xs/\vn K H b ys/\xs≠[]/\xs.length+ys.length<=Ch/\
 (ys=[]->Q (.ref a) H)/\(ys≠[]->∀p,H p=Db->Q (.ref p) (upd H p (.tup (xs++ys))))
def qE.nJ(r:qE xs us):us=[]↔xs=[]:=by
 cases r with
 | nil=>simp
 | cons _ _=>simp
def Pm:xy X (wP .Add) (UC X.K):=by intro Xc s Y H x y v u Q I rx ry h;obtain⟨a,b,xs,ys,rfl,rfl,ha,hb,hx,hz,q1,q2⟩:=h;cases rx;cases ry;obtain⟨its,r1,p1,_⟩:=I.tuple ha;obtain⟨its2,r2,p2,_⟩:=I.tuple hb;refine HT.OY p1 p2 (λz=>hx (r1.nJ.mp z)) (λz=>⟨.ref a,H,I,rfl,q1 (r2.nJ.mp z)⟩) (λz=>?_) (by rw[<-r1.length,<-r2.length];exact hz);refine⟨.ref s.heap.objs.size,_,I.laid (t':=s.toks) (o:=.tup (xs++ys)) (λb ob q=>cU _ q) (c9 _) ?_,rfl,q2 (λw=>z (r2.nJ.mpr w)) _ (I.mK.fresh (c9 _))⟩;exact⟨by rw[cR];exact hz,_,r1.append r2,FL.new _ _⟩
def Gn(n:Nat)(i:Int):Option Nat:=if 0<=i then(if i<n then Fa i.toNat else Db)else if -(n:Int)<=i then Fa (i+n).toNat else Db
def wB{α:Type}(xs:List α)(i:Int):Option α:=(Gn xs.length i).bind λj=>xs[j]?
def JA{j:Nat}(h:Gn n i=Fa j):seqIndex? i n=Fa j/\j<n/\-(n:Int)<=i/\i<n:=by
 unfold Gn at h;by_cases h0:0<=i
 .rw[cV h0]at h;by_cases h1:i<n
  .rw[cV h1]at h;have e:i.toNat=j:=cY h;exact⟨by rw[ls h0 h1,e],by omega,by omega,h1⟩
  .rw[cS h1]at h;cases h
 .rw[cS h0]at h;by_cases h1:-(n:Int)<=i
  .rw[cV h1]at h;have e:(i+n).toNat=j:=cY h;exact⟨by rw[kH (by omega) h1,e],by omega,h1,by omega⟩
  .rw[cS h1]at h;cases h
def ER{α:Type}{xs:List α}{i:Int}{v:α}(h:wB xs i=Fa v):∃j,seqIndex? i xs.length=Fa j/\xs[j]?=Fa v/\j<xs.length/\-(xs.length:Int)<=i/\i<xs.length:=by
 unfold wB at h;cases e:Gn xs.length i with
 | none=>rw[e]at h;cases h
 | some j=>rw[e]at h;obtain⟨h1,h2,h3,h4⟩:=JA e;exact⟨j,h1,h,h2,h3,h4⟩
def uE{α:Type}{xs:List α}{j:Nat}{v:α}(h:xs[j]?=Fa v):wB xs (j:Int)=Fa v:=by
 have hj:j<xs.length:=(cT.mp h).1;have e:Gn xs.length (j:Int)=Fa j:=by unfold Gn;rw[cV (by omega),cV (by omega)];simp
 unfold wB;rw[e];exact h
def Bl(b:zn):Prop:=∀o i,subscripted b lf o i=operate [o,i] (XXe o i)
def Tg(X:Cx)(r:R2):Prop:=
 ∀(value Xm:zn) (Xc:QQY) (s:Sd) (Y:St) (H:Hp) (x y:V) (v u:Vl) (Q:VK),Inv X Xc Y H s->qQ x v->qQ y u->r x y H Q->
  subscripted Xm lf v u=operate [v,u] (XXe v u)->pi (Tk X.prog X.w) X.A (subscriptTail value Xm v u) (EP X Xc Y Q) X.xe s
def WO(X:Cx)(id:String)(r:V->T0 V->Hp->VK->Prop):Prop:=
 ∀(Xc:QQY) (s:Sd) (Y:St) (H:Hp) (x:V) (xs:T0 V) (v:Vl) (us:T0 Vl) (Q:VK),Inv X Xc Y H s->qQ x v->qE xs us->r x xs H Q->
  pi (Tk X.prog X.w) X.A (call (.builtin id) (v::us)) (EP X Xc Y Q) X.xe s
variable {o:zn}{es:T0 zn}{to:TE}{t:TA}{name:Str}{Xf Xj:Pos}{T id:String}{r:V→T0 V→Hp→VK→Prop}{a:zn}{ta tb:TE}
section
variable {b:zn}
def Mv{r:R2}(hr:Tg X r)(ha:PE X a ta)(hb:PE X b tb)(hs:Bl b):PE X (.Subscript a b pos) (T6 r ta tb):=by intro Xc s Y H Q I h;exact Subscript_ (RW ha hb I h λv u s2 x y H2 I2 rx ry q=>hr a b Xc s2 Y H2 x y v u Q I2 rx ry q (hs _ _))
def VG(K:qw):R2:=λx y H Q=>∃p xs i v,x=.ref p/\y=.int i/\zb K H p xs/\wB xs i=Fa v/\Q v H
def Wt(K:qw):R2:=λx y H Q=>∃p xs i v,x=.ref p/\y=.int i/\vn K H p xs/\wB xs i=Fa v/\Q v H
def Vx:R2:=λx y H Q=>∃z i c,x=.str z/\y=.int i/\z.length<=Ch/\wB z.cps.toList i=Fa c/\Q (.str ⟨#[c]⟩) H
def JD:Tg X (VG X.K):=by
 intro value Xm Xc s Y H x y v u Q I rx ry h hs;obtain⟨p,xs,i,z,rfl,rfl,hq,he,q⟩:=h;cases rx;obtain⟨t,rfl⟩:=ry;obtain⟨its,r,pl,hz⟩:=I.list hq;obtain⟨j,h1,h2,h3,h4,h5⟩:=ER he;obtain⟨w,ew,Zp⟩:=r.get h2;have hl:=r.length;have hn:=yZ;have Xh:EP X Xc Y Q w s:=⟨z,H,I,Zp,q⟩;by_cases h0:0<=i
 .have hj:i.toNat=j:=by rw[ls h0 h5]at h1;exact cY h1
  exact item_listR pl.isList h0 (by omega) (by rw[hj];simpa using ew) Xh hs
 .have hj:(i+(its.toArray.size:Int)).toNat=j:=by rw[kH (by omega) h4]at h1;rw[de,<-hl];exact cY h1
  exact jR (x:=w) pl.isList.typeIs kX.lookup
   (wpAny_getItem_list_neg (Q:=λr s'=>r=w/\EP X Xc Y Q r s') pl.isList (by omega) (by rw[de]<;>omega) (by omega) (by rw[hj];simpa using ew) ⟨rfl,Xh⟩) hs
def Rf:Tg X (Wt X.K):=by
 intro value Xm Xc s Y H x y v u Q I rx ry h hs;obtain⟨p,xs,i,z,rfl,rfl,hq,he,q⟩:=h;cases rx;obtain⟨t,rfl⟩:=ry;obtain⟨its,r,pl,hz⟩:=I.tuple hq;obtain⟨j,h1,h2,h3,h4,h5⟩:=ER he;obtain⟨w,ew,Zp⟩:=r.get h2;have hl:=r.length;have hn:=yZ;have Xh:EP X Xc Y Q w s:=⟨z,H,I,Zp,q⟩;exact jR (x:=w) pl.typeIs slot_tuple_getitem.lookup
  (getItem_tuple (j:=j) (Q:=λr s'=>r=w/\EP X Xc Y Q r s') pl (by omega) (by omega) (by rw[de,<-hl];exact h1) (by simpa using ew) ⟨rfl,Xh⟩) hs
def Sh:Tg X Vx:=by
 intro value Xm Xc s Y H x y v u Q I rx ry h hs;obtain⟨z,i,c,rfl,rfl,hz,he,q⟩:=h;obtain⟨t,rfl⟩:=rx;obtain⟨t',rfl⟩:=ry;obtain⟨j,h1,h2,h3,h4,h5⟩:=ER he;have hl:z.cps.toList.length=z.length:=by simp[Str.length]
 rw[hl]at h1 h4 h5;have hn:=yZ;exact tail_any (typeIs_str s z t) slot_str_getitem.lookup (getItem_str (c:=c) (by
  have e1:decide (i< -(2 ^ 63:Int))=lf:=eI (by omega);have e2:decide (i>=2 ^ 63)=lf:=eI (by omega);rw[e1,e2,km]) (by rw[h1];simpa using h2) ⟨.str ⟨#[c]⟩,H,I.tok _,⟨_,rfl⟩,q⟩) hs
def HG(its:T0 Vl)(n j:Nat)(u:Vl):Obj.mapSeq (·.setIfInBounds j u) {cls:=.type "list",data:=.seq its.toArray n}={cls:=.type "list",data:=.seq (its.set j u).toArray n}:=by simp[Obj.mapSeq]
def Inv.lst{p:Uf}{xs:T0 V}(I:Inv X Xc Y H s)(h:H p=Fa (.lst xs)):
  ∃(its:T0 Vl) (n:Nat),qE xs its/\s.heap.get? p=Fa {cls:=.type "list",data:=.seq its.toArray n}/\xs.length<=Ch:=by
 obtain⟨z,its,n,r,e⟩:=I.mK p _ h;exact⟨its,n,r,e,z⟩
def Inv.oz{p:Uf}{xs ys:T0 V}{its its':T0 Vl}{n n':Nat}{f:Obj->Obj}(I:Inv X Xc Y H s)(h:H p=Fa (.lst xs)) (ho:s.heap.get? p=Fa {cls:=.type "list",data:=.seq its.toArray n}) (hf:f {cls:=.type "list",data:=.seq its.toArray n}={cls:=.type "list",data:=.seq its'.toArray n'}) (r:qE ys its') (hz:ys.length<=Ch) (t:Nat):
  Inv X Xc Y (upd H p (.lst ys)) {s with heap:=s.heap.update p f,toks:=t}:=by
 have e:(s.heap.update p f).get? p=Fa {cls:=.type "list",data:=.seq its'.toArray n'}:=by rw[fE f ho (by rw[hf]<;>rfl),hf]
 refine I.write (x:=p) (e:=p) (by rw[h];trivial) (.inl rfl) (λb u hb q=>(fX _ _ (dH hb)).trans q) ⟨_,e⟩ ?_;exact⟨hz,its',n',r,e⟩
def Us:V->V->V->Hp->(Hp->Prop)->Prop:=λo i v H Q=>∃p xs k j,o=.ref p/\i=.int k/\H p=Fa (.lst xs)/\Gn xs.length k=Fa j/\Q (upd H p (.lst (xs.set j v)))
def LF:Va X Us:=by
 intro Xc s Y H o i v ov iv u Q I ro ri rv h;obtain⟨p,xs,k,j,rfl,rfl,hp,hj,q⟩:=h;cases ro;obtain⟨t,rfl⟩:=ri;obtain⟨its,n,r,ho,hz⟩:=I.lst hp;obtain⟨h1,h2,h3,h4⟩:=JA hj;have hl:=r.length;have hn:=yZ;have I':Inv X Xc Y (upd H p (.lst (xs.set j v))) {s with heap:=s.heap.update p (Obj.mapSeq (·.setIfInBounds j u))}:=
  I.oz hp ho (HG its n j u) (r.set rv j) (by rw[hU];exact hz) s.toks
 by_cases h0:0<=k
 .have hk:k.toNat=j:=by rw[ls h0 h4]at h1;exact cY h1
  exact W.ki_setAt ho h0 (by omega) (by rw[de,<-hl];exact h4) (by rw[hk];exact⟨_,I',q⟩)
 .have hk:(k+(its.toArray.size:Int)).toNat=j:=by rw[kH (by omega) h3]at h1;rw[de,<-hl];exact cY h1
  exact W.ki_setBack ho (by omega) (by rw[de,<-hl];exact h3) (by omega) (by rw[hk];exact⟨_,I',q⟩)
def Fl(lo hi:Option Int)(n:Nat):(XXf lo hi Db n).1=((HT.tL n 0 lo:Nat):Int)/\(XXf lo hi Db n).2.1=((HT.tL n n hi:Nat):Int)/\(XXf lo hi Db n).2.2=1:=by
 refine⟨?_,?_,rfl⟩
 .cases lo with
  | none=>simp[XXf,HT.tL]
  | some i=>
   simp only[XXf,HT.tL,lG,show(1:Int)>0 by decide,iV];by_cases h:i<0
   .simp only[h,iV]<;>omega
   .simp only[h,j6]<;>omega
 .cases hi with
  | none=>simp[XXf,HT.tL]
  | some i=>
   simp only[XXf,HT.tL,lG,show(1:Int)>0 by decide,iV];by_cases h:i<0
   .simp only[h,iV]<;>omega
   .simp only[h,j6]<;>omega
def Dx(its:T0 Vl)(lo hi:Option Int):slicePick its.toArray lo hi Db=((its.drop (HT.tL its.length 0 lo)).take (HT.tL its.length its.length hi - HT.tL its.length 0 lo)).toArray:=by obtain⟨h1,h2,h3⟩:=Fl lo hi its.toArray.size;unfold slicePick;rw[h1,h2,h3];simp only[sliceRange_one,pick_run,de]<;>rfl
def Wg(K:qw):V->Option Int->Option Int->Hp->VK->Prop:=λx lo hi H Q=>∃a xs,x=.ref a/\zb K H a xs/\∀p,H p=Db->Q (.ref p) (upd H p (.lst (Cn xs lo hi)))
def Jm:U0 X (Wg X.K):=by intro Xc s Y H x v vl vu lo hi sl Q I rx hs pl pu h;obtain⟨a,xs,rfl,hx,q⟩:=h;cases rx;obtain⟨its,r,ht,hz⟩:=I.list hx;have Xi:=r.length;refine⟨"list",_,kX.lookup,ht.isList.typeIs,?_⟩;refine wpAny_getItem_list_slice ht.isList hs pl pu .none (by simp) ?_ (by rw[de]<;>omega);rw[Dx,<-Xi];refine⟨.ref s.heap.objs.size,_,I.laid (t':=s.toks) (o:=.lst (Cn xs lo hi)) (λb ob q=>cU _ q) (c9 _) ?_,rfl,q _ (I.mK.fresh (c9 _))⟩;exact⟨dR (AH xs lo hi) hz,_,0,(r.drop (HT.tL xs.length 0 lo)).take (HT.tL xs.length xs.length hi - HT.tL xs.length 0 lo),dA _ rfl⟩
def yB:V->Bool
 | .mG=>pc
 | .bl _=>pc
 | .int _=>pc
 | .str _=>pc
 | _=>lf
def N8:V->V->Bool
 | .mG,.mG=>pc
 | .bl a,.bl b=>a==b
 | .bl a,.int b=>(if a then 1 else 0)==b
 | .int a,.bl b=>a==(if b then 1 else 0)
 | .int a,.int b=>a==b
 | .str a,.str b=>a==b
 | _,_=>lf
def S7(ry:qQ y u)(rx:qQ x v)(fy:yB y=pc)(fx:yB x=pc):SeqAt.EqAt A s u v (N8 y x):=by
 cases y with
 | mG=>
  cases ry;cases x with
  | mG=>cases rx;exact SeqAt.EqAt.same _
  | bl b=>cases rx;exact SeqAt.EqAt.none_bool b
  | int b=>obtain⟨t,rfl⟩:=rx;exact SeqAt.EqAt.none_int b t
  | str b=>obtain⟨t,rfl⟩:=rx;exact SeqAt.EqAt.none_str b t
  | _=>exact absurd (show lf=pc from fx) dh
 | bl a=>
  cases ry;cases x with
  | mG=>cases rx;exact SeqAt.EqAt.bool_none a
  | bl b=>cases rx;exact SeqAt.EqAt.bool_bool a b
  | int b=>obtain⟨t,rfl⟩:=rx;exact SeqAt.EqAt.bool_int a b t
  | str b=>obtain⟨t,rfl⟩:=rx;exact SeqAt.EqAt.bool_str a b t
  | _=>exact absurd (show lf=pc from fx) dh
 | int a=>
  obtain⟨t',rfl⟩:=ry;cases x with
  | mG=>cases rx;exact SeqAt.EqAt.int_none a t'
  | bl b=>cases rx;exact SeqAt.EqAt.int_bool a t' b
  | int b=>obtain⟨t,rfl⟩:=rx;exact SeqAt.EqAt.int_int a t' b t
  | str b=>obtain⟨t,rfl⟩:=rx;exact kB a t' b t
  | _=>exact absurd (show lf=pc from fx) dh
 | str a=>
  obtain⟨t',rfl⟩:=ry;cases x with
  | mG=>cases rx;exact SeqAt.EqAt.str_none a t'
  | bl b=>cases rx;exact SeqAt.EqAt.str_bool a t' b
  | int b=>obtain⟨t,rfl⟩:=rx;exact kC a t' b t
  | str b=>obtain⟨t,rfl⟩:=rx;exact SeqAt.EqAt.str_str a t' b t
  | _=>exact absurd (show lf=pc from fx) dh
 | _=>exact absurd (show lf=pc from fy) dh
def Es(x:V)(u:Vl):Bool:=match u with
 | .none=>N8 .mG x
 | .bool b=>N8 (.bl b) x
 | .int i _=>N8 (.int i) x
 | .str z _=>N8 (.str z) x
 | _=>lf
def Ia(r:qQ y u)(f:yB y=pc):Es x u=N8 y x:=by
 cases y with
 | mG=>cases r;rfl
 | bl b=>cases r;rfl
 | int i=>obtain⟨t,rfl⟩:=r;rfl
 | str z=>obtain⟨t,rfl⟩:=r;rfl
 | _=>exact absurd (show lf=pc from f) dh
theorem zM:∀{xs:T0 V} {us:T0 Vl},qE xs us->xs.all yB=pc->us.any (Es x)=xs.any λy=>N8 y x
 | _,_,.nil,_=>rfl
 | y::xs,u::us,.cons r t,f=>by rw[eR,dO]at f;rw[fY,fY,Ia r f.1,zM t f.2]
theorem wF(rx:qQ x v)(fx:yB x=pc):∀{xs:T0 V} {us:T0 Vl},qE xs us->xs.all yB=pc->∀u∈us,SeqAt.EqAt A s u v (Es x u)
 | _,_,.nil,_=>λu hu=>by cases hu
 | y::xs,u::us,.cons r t,f=>λu' hu=>by
  rw[eR,dO]at f;rcases cW.mp hu with rfl|hu
  .rw[Ia r f.1];exact S7 r rx f.1 fx
  .exact wF rx fx t f.2 u' hu
def inV(x:V)(xs:T0 V):Bool:=xs.any λy=>N8 y x
def VQ(K:qw)(YM:Bool):R2:=λx y H Q=>∃p xs,y=.ref p/\(zb K H p xs\/vn K H p xs)/\yB x=pc/\xs.all yB=pc/\Q (.bl (if YM then !inV x xs else inV x xs)) H
def Kx:xy X (Op .In) (VQ X.K lf):=by
 intro Xc s Y H x y v u Q I rx ry h;obtain⟨p,xs,rfl,hq,fx,fs,q⟩:=h;cases ry;rcases hq with hq|hq
 .obtain⟨its,r,pl,hz⟩:=I.list hq;refine SeqAt.in_listAt (Es x) pl.isList (λw hw=>wF rx fx r fs w (by simpa using hw)) ⟨.bl _,H,I,rfl,?_⟩;rw[show its.toArray.any (Es x)=its.any (Es x)by simp,zM r fs];exact q
 .obtain⟨its,r,pl,hz⟩:=I.tuple hq;refine SeqAt.in_tupleAt (Es x) pl (λw hw=>wF rx fx r fs w (by simpa using hw)) ⟨.bl _,H,I,rfl,?_⟩;rw[show its.toArray.any (Es x)=its.any (Es x)by simp,zM r fs];exact q
def Fw:xy X (Op .NotIn) (VQ X.K pc):=by
 intro Xc s Y H x y v u Q I rx ry h;obtain⟨p,xs,rfl,hq,fx,fs,q⟩:=h;cases ry;rcases hq with hq|hq
 .obtain⟨its,r,pl,hz⟩:=I.list hq;refine SeqAt.notIn_listAt (Es x) pl.isList (λw hw=>wF rx fx r fs w (by simpa using hw)) ⟨.bl _,H,I,rfl,?_⟩;rw[show its.toArray.any (Es x)=its.any (Es x)by simp,zM r fs];exact q
 .obtain⟨its,r,pl,hz⟩:=I.tuple hq;refine SeqAt.notIn_tupleAt (Es x) pl (λw hw=>wF rx fx r fs w (by simpa using hw)) ⟨.bl _,H,I,rfl,?_⟩;rw[show its.toArray.any (Es x)=its.any (Es x)by simp,zM r fs];exact q
def FC:xy X (Op .NotIn) (λx y H Q=>∃i j,x=.str i/\y=.str j/\Q (.bl (!(!(Builtin.Str.occurrences j i 0 j.length 1).isEmpty))) H):=by intro Xc s Y H x y v u Q I rx ry h;obtain⟨i,j,rfl,rfl,q⟩:=h;obtain⟨t,rfl⟩:=rx;obtain⟨t',rfl⟩:=ry;exact notIn_str ⟨.bl _,H,I,rfl,q⟩
def xg:zI X (.builtin "len") (λxs H Q=>∃p ys,xs=[.ref p]/\(zb X.K H p ys\/vn X.K H p ys)/\Q (.int ys.length) H):=by
 intro Xc s Y H xs us Q I r h;obtain⟨p,ys,rfl,hq,q⟩:=h;obtain⟨u,rfl,rx⟩:=yA r;cases rx;have hn:=yZ;rcases hq with hq|hq
 .obtain⟨its,r',pl,hz⟩:=I.list hq;have Xi:=r'.length;exact Calls.call_len_list pl.isList (by simp only[de]<;>omega) ⟨.int ys.length,H,I.tok _,⟨s.toks+1,by rw[de,Xi]⟩,q⟩
 .obtain⟨its,r',pl,hz⟩:=I.tuple hq;have Xi:=r'.length;exact len_tuple pl (by simp only[de]<;>omega) ⟨.int ys.length,H,I.tok _,⟨s.toks+1,by rw[de,Xi]⟩,q⟩
def Ep:zI X (.builtin "len") (λxs H Q=>∃z,xs=[.str z]/\z.length<=Ch/\Q (.int z.length) H):=by intro Xc s Y H xs us Q I r h;obtain⟨z,rfl,hz,q⟩:=h;obtain⟨u,rfl,t,rfl⟩:=yA r;have hn:=yZ;exact len_str (by omega) ⟨.int z.length,H,I.tok _,⟨_,rfl⟩,q⟩
def EH:zI X (.type "list") (λxs H Q=>∃p ys,xs=[.ref p]/\(zb X.K H p ys\/vn X.K H p ys)/\∀l,H l=Db->Q (.ref l) (upd H l (.lst ys))):=by
 intro Xc s Y H xs us Q I r h;obtain⟨p,ys,rfl,hq,q⟩:=h;obtain⟨u,rfl,rx⟩:=yA r;cases rx;have Xh:∀(its:T0 Vl),qE ys its->ys.length<=Ch->∀(h':No) (c':Nat),(∀b o',s.heap.get? b=Fa o'->h'.get? b=Fa o')->
   h'.get? s.heap.objs.size=Fa {cls:=.type "list",dict:=none,data:=.seq its.toArray c',slots:=#[]}->EP X Xc Y Q (.ref s.heap.objs.size) {s with heap:=h'}:=λits r' hz h' c' kp e=>
  ⟨.ref s.heap.objs.size,_,I.laid (t':=s.toks) kp (c9 _) (show tD X.prog X.w _ h' _ (.lst ys)from⟨hz,its,c',r',e⟩),rfl,q _ (I.mK.fresh (c9 _))⟩
 rcases hq with hq|hq
 .obtain⟨its,r',pl,hz⟩:=I.list hq;have Xi:=r'.length;obtain⟨o,ho,hc,n,hd⟩:=pl.isList;exact call_list_seq p (.inl rfl) ho hc hd (λh' c' kp e=>Xh its r' hz h' c' kp e) (by simp only[de]<;>omega)
 .obtain⟨its,r',pl,hz⟩:=I.tuple hq;have Xi:=r'.length;obtain⟨o,ho,hc,n,hd⟩:=pl;exact call_list_seq p (.inr rfl) ho hc hd (λh' c' kp e=>Xh its r' hz h' c' kp e) (by simp only[de]<;>omega)
def vY:zI X (.type "tuple") (λxs H Q=>∃p ys,xs=[.ref p]/\((zb X.K H p ys/\∀l,H l=Db->Q (.ref l) (upd H l (.tup ys)))\/(vn X.K H p ys/\Q (.ref p) H))):=by
 intro Xc s Y H xs us Q I r h;obtain⟨p,ys,rfl,h⟩:=h;obtain⟨u,rfl,rx⟩:=yA r;cases rx;rcases h with⟨hq,q⟩|⟨hq,q⟩
 .obtain⟨its,r',pl,hz⟩:=I.list hq;have Xi:=r'.length;refine call_tuple_list pl.isList (λh' kp=>?_) (by simp only[de]<;>omega);have I1:Inv X Xc Y H {s with heap:=h'}:=I.kept (t':=s.toks) kp;have I2:Inv X Xc Y (upd H h'.objs.size (.tup ys)) {s with heap:=h'.push {cls:=.type "tuple",data:=.seq its.toArray}}:=
   I1.laid (t':=s.toks) (λb o e=>cU _ e) (c9 _) (show tD X.prog X.w _ _ _ (.tup ys)from⟨hz,its,r',FL.new _ _⟩)
  exact⟨.ref h'.objs.size,_,I2,rfl,q _ (I1.mK.fresh (c9 _))⟩
 .obtain⟨its,r',pl,hz⟩:=I.tuple hq;exact call_tuple_same pl ⟨.ref p,H,I,rfl,q⟩
def Wq(K:qw)(T:String)(x:V)(H:Hp):Prop:=match x with
 | .str _=>T="str"
 | .int _=>T="int"
 | .ref p=>(T="list"/\∃xs,zb K H p xs)\/(T="tuple"/\∃o,K.lookup p=Fa o/\o.cls=.type "tuple"/\o.dict=Db)\/
   (T="dict"/\((∃kvs,H p=Fa (.dK kvs))\/∃kvs,H p=Fa (.dT kvs)))\/(T="set"/\∃S n,H p=Fa (.set S n))
 | _=>False
def MJ(I:Inv X Xc Y H s)(r:qQ x v)(ty:Wq X.K T x H):
  s.TypeIs v T/\∀a,v=.ref a->∃ob,s.heap.get? a=Fa ob/\ob.dict=Db:=by
 cases x with
 | str z=>obtain⟨t,rfl⟩:=r;cases(show T="str" from ty);exact⟨typeIs_str s z t,λ_ e=>nomatch e⟩
 | int i=>obtain⟨t,rfl⟩:=r;cases(show T="int" from ty);exact⟨lR s i t,λ_ e=>nomatch e⟩
 | ref p=>
  cases r;rcases ty with⟨rfl,xs,hq⟩|⟨rfl,o,hk,hc,hd⟩|⟨rfl,hk⟩|⟨rfl,S,n,hk⟩
  .obtain⟨its,_,pl,_⟩:=I.list hq;refine⟨pl.isList.typeIs,λa e=>?_⟩;cases e;obtain⟨o,n,e,c,hd,_⟩:=pl;exact⟨o,e,hd⟩
  .refine⟨⟨o,I.ni p o hk,hc⟩,λa e=>?_⟩;cases e;exact⟨o,I.ni _ o hk,hd⟩
  .have z:∃o,s.heap.get? p=Fa o/\o.ExactDict:=by
    rcases hk with⟨kvs,hk⟩|⟨kvs,hk⟩
    .obtain⟨_,_,_,_,o,_,_,e,ex,_⟩:=I.mK p _ hk;exact⟨o,e,ex⟩
    .obtain⟨_,_,_,_,o,_,_,e,ex,_⟩:=I.mK p _ hk;exact⟨o,e,ex⟩
   obtain⟨o,e,ex⟩:=z;refine⟨⟨o,e,ex.1⟩,λa e2=>?_⟩;cases e2;exact⟨o,e,ex.2.1⟩
  .obtain⟨o,_,_,_,e,ex,_⟩:=I.mK p _ hk;refine⟨⟨o,e,ex.1⟩,λa e2=>?_⟩;cases e2;exact⟨o,e,ex.2.1⟩
 | _=>exact False.elim ty
def WV(K:qw)(T:String)(r:V->T0 V->Hp->VK->Prop)(to:TE)(t:TA):TE:=λY H Q=>to Y H λx H1=>Wq K T x H1/\t Y H1 λxs H2=>r x xs H2 Q
def TL(pa:PlainAttrs T)(slot:Slot T name id)(hty:typeOf (.builtin id)=pure (.type "method_descriptor"))(hm:WO X id r)(ho:PE X o to)(ha:PA X (e::es) t) (Xp:At o name X.env (wp o X.env)=wp o X.env:=by rfl)
  (Yt:((Ix Xj (Tl (e::es) X.env)).all (λx=>!x.1)&&(dL Xj (Ps [] X.env)).all (λx=>x.1.isSome)
   &&decide ((e::es).length+([]:T0 XXd).length+(if ([]:T0 XXd).isEmpty then 0 else 1)<30))=pc:=by rfl)
  (Xz:(Xf.endLine==Xj.line)=pc:=by rfl) (hs:Bp X e es:=by rfl) (Xu:CU X Xj es:=by rfl):
  PE X (.Call (.Attribute o name Xf) (e::es) [] Xj) (WV X.K T r to t):=by
 intro Xc s Y H Q I h;refine wpAny_Call_method_late Xp Yt Xz rfl (sL (ho Xc s Y H _ I h) λv s1 zz=>?_);obtain⟨x,H1,I1,r1,ty,q1⟩:=zz;obtain⟨h1,h2⟩:=MJ I1 r1 ty;refine⟨T,id,pa,slot,hty,h1,h2,?_⟩;have hA:=ha Xj Xc s1 Y H1 _ I1 q1;rw[hs]at hA ⊢;refine jS (by show(lf||(Ix Xj (Tl es X.env)).any (·.1))=lf;rw[Xu]<;>rfl) (Calls.evalArgs_plain ?_);exact sL hA λus s2 zz=>x5 zz λvs H2 I2 r2 q2=>hm Xc s2 Y H2 x vs v us Q I2 r1 r2 q2
end
def WT(X:Cx)(id:String)(r:V->T0 V->Hp->VK->Prop):Prop:=
 ∀(Xc:QQY) (s:Sd) (Y:St) (H:Hp) (x:V) (xs:T0 V) (v:Vl) (us:T0 Vl) (Q:VK),Inv X Xc Y H s->qQ x v->qE xs us->r x xs H Q->
  pi (Tk X.prog X.w) X.A (call (.builtin id) (v::us)) (EP X Xc Y Q) X.xe s
def qE.one:∀{x:V} {us:T0 Vl},qE [x] us->∃u,us=[u]/\qQ x u
 | _,_,.cons r .nil=>⟨_,rfl,r⟩
theorem qE.rep(h:qE xs us):∀k:Nat,qE (List.replicate k xs).flatten (List.replicate k us).flatten
 | 0=>.nil
 | k+1=>by rw[eB,eB,fK,fK];exact qE.append h (qE.rep h k)
theorem DQ(its:T0 Vl):∀(k:Nat) (acc:T0 Vl),List.foldl (λx1 x2=>x1++x2) acc.toArray (List.replicate k its.toArray)=(acc++(List.replicate k its).flatten).toArray
 | 0,acc=>by simp
 | k+1,acc=>by
  have e:acc.toArray++its.toArray=(acc++its).toArray:=by simp
  have e2:(acc++its)++(List.replicate k its).flatten=acc++(List.replicate (k+1) its).flatten:=by rw[eB,fK,eU]
  rw[<-e2,<-DQ its k (acc++its),<-e,eB,fT]
variable {Xc:T0 (Uf × Obj)}{Y:St}{H:Hp}{s:Sd}{l:Uf}{xs ys zs:T0 V}
section
variable {b:Uf}
def Inv.lset{its its':T0 Vl}{n:Nat}{f:Array Vl->Array Vl}{t':Nat}(I:Inv X Xc Y H s)(hH:H l=Fa (.lst xs)) (e:s.heap.get? l=Fa {cls:=.type "list",data:=.seq its.toArray n}) (hf:f its.toArray=its'.toArray) (hv:qE ys its') (hz:ys.length<=Ch):
  Inv X Xc Y (upd H l (.lst ys)) {s with heap:=s.heap.update l (Obj.mapSeq f),toks:=t'}:=by
 have q:=PySem.IsL.update e f;rw[hf]at q;refine I.write (x:=l) (e:=l) (by rw[hH];exact trivial) (.inl rfl) (λb' u hb hu=>(fX s.heap (Obj.mapSeq f) (dH hb)).trans hu) ⟨_,q⟩ ?_;exact⟨hz,its',_,hv,q⟩
def Inv.oV{t':Nat}(I:Inv X Xc Y H s)(hv:qE ys its)(hz:ys.length<=Ch):
  Inv X Xc Y (upd H s.heap.objs.size (.lst ys)) {s with heap:=s.heap.push {cls:=.type "list",data:=.seq its.toArray},toks:=t'}:=
 I.laid (λ_ _ q=>cU _ q) (c9 _) ⟨hz,its,0,hv,dA _ rfl⟩
def Inv.fresh(I:Inv X Xc Y H s):H s.heap.objs.size=Db:=I.mK.fresh (c9 _)
def Inv.oX(I:Inv X Xc Y H s)(hH:H l=Fa (.lst xs)):xs.length<=Ch/\∃(its:T0 Vl) (n:Nat),qE xs its/\xs.length=its.length/\s.heap.get? l=Fa {cls:=.type "list",data:=.seq its.toArray n}:=by obtain⟨z,its,n,r,e⟩:=I.mK l _ hH;exact⟨z,its,n,r,r.length,e⟩
def ND{n:Nat}(h:n<=Ch):Builtin.List.listTooLong n=lf:=by unfold Builtin.List.listTooLong;exact eI (by omega)
end
def OV:V->T0 V->Hp->VK->Prop:=λx vs H Q=>∃l xs y,x=.ref l/\vs=[y]/\H l=Fa (.lst xs)/\xs.length<Ch/\Q .mG (upd H l (.lst (xs++[y])))
def Kk:WT X "list.append" OV:=by intro Xc s Y H x vs v us Q I rx rv h;obtain⟨l,xs,y,rfl,rfl,hH,hz,q⟩:=h;cases rx;obtain⟨u,rfl,ru⟩:=rv.one;obtain⟨z,its,n,r,hl,e⟩:=I.oX hH;refine jl F.slot_list_append ⟨_,e,rfl⟩ F.entry_list_append (F.args_list_append_2 _ _) (PySem.list_append l its.toArray n u (by rw[de];omega)) ⟨e,?_⟩;refine⟨.mG,_,I.lset (its':=its++[u]) hH e (by simp) (r.append (.cons ru .nil)) ?_,rfl,q⟩;rw[cR,dG];omega
def VC:R2:=λx y H Q=>∃l k xs,x=.ref l/\y=.int k/\H l=Fa (.lst xs)/\-(2 ^ 63)<=k/\k<2 ^ 63/\xs.length*k.toNat<=Ch/\
 ∀p,H p=Db->Q (.ref p) (upd H p (.lst (List.replicate k.toNat xs).flatten))
def Om{α:Type}(xs:List α)(k:Nat):(List.replicate k xs).flatten.length=k*xs.length:=by
 induction k with
 | zero=>simp
 | succ k ih=>rw[eB,fK,cR,ih,mi,Nat.add_comm]
def SL:xy X (wP .Mult) VC:=by
 intro Xc s Y H x y v u Q I rx ry h;obtain⟨l,k,xs,rfl,rfl,hH,h1,h2,hz,q⟩:=h;cases rx;obtain⟨t,rfl⟩:=ry;obtain⟨z,its,n,r,hl,e⟩:=I.oX hH;have Xi:its.toArray.size*k.toNat<=Ch:=by rw[de,<-hl];exact hz
 have hcap:¬its.toArray.size*k.toNat>(2 ^ 63 - 1) / 8:=by
  have:(Ch:Nat)<=(2 ^ 63 - 1) / 8:=by decide
  omega
 have XM:¬(!Builtin.List.listFitsIndex k)=pc:=by rw[fitsIndex_both h1 h2];exact dh
 have hlong:¬Builtin.List.listTooLong (its.toArray.size*k.toNat)=pc:=by rw[ND Xi];exact dh
 have YU:List.foldl (λx1 x2=>x1++x2) #[] (List.replicate (if its.toArray.isEmpty=pc then 0 else k.toNat) its.toArray)=(List.replicate k.toNat its).flatten.toArray:=by
  have f0:∀m:Nat,List.foldl (λx1 x2=>x1++x2) #[] (List.replicate m its.toArray)=(List.replicate m its).flatten.toArray:=λm=>by have:=DQ its m [];rw[dQ]at this;exact this
  rw[f0];cases its with
  | nil=>simp
  | cons a r'=>rw[cS (by simp)]
 refine wpAny_binaryOp_repeat_ref (T:="list") (U:="int") (by decide) ⟨_,e,rfl⟩ (λs'=>lR s' k t) noFill_list_mul F.fills_int_mul lT repeat_list F.slot_int_index.lookup
  (jl lT (lR s k t) F.entry_int_rmul (F.args_int_rmul_2 _ _) (int___rmul___int_list k t l its.toArray n)
   ⟨e,rfl,⟨_,e,rfl⟩,jl F.slot_list_mul ⟨_,e,rfl⟩ F.entry_list_mul (F.args_list_mul_2 _ _) (AutoListH.list___mul___list_int_3 l its.toArray n k t XM hcap hlong) ⟨e,?_⟩⟩)
 rw[YU];exact⟨.ref _,_,I.oV (t':=s.toks) (r.rep k.toNat) (by rw[Om,Nat.mul_comm];exact hz),rfl,q _ I.fresh⟩
variable {prog:Pg}{w:Wo}{A:Ar}{E:QQX}
end L2
namespace Att
open PySem PySem.W PySem.Calls PyProof.Rows
def A6:∀(ns:T0 Int) (vs:T0 Vl),WellAll P h vs (ns.map WData.int)->IntsAre vs ns:=by
 intro ns;induction ns with
 | nil=>intro vs w;rw[iI]at w;cases w;exact .nil
 | cons n ns ih=>
  intro vs w;rw[dN]at w;cases w with
  | cons a b=>cases a;exact .cons _ _ (ih _ b)
def Ke{l:OpenLaw}{n:Nat}(hn:l.most=Fa n){P:Params}{h:No}{args:T0 WData}{Z4:T0 Vl} (Zq:l.row.toRowW.claim.pre args=pc) (hwl:WellAll P h Z4 args):
  ∃a vs ns,Z4=[Value.ref a]/\args=[WData.list (ns.map WData.int)]/\h.get? a=Fa {cls:=.type "list",data:=.seq vs.toArray}/\IntsAre vs ns/\ns.length<=n:=by
 have hsh:WShape.hasAll [] args [.list .int]=pc:=(pre_splitW Zq).1;have hc:l.pre.holds [] {args:=args}=pc:=(pre_splitW Zq).2;obtain⟨d,r,rfl,h1,h2⟩:=hasAllW_cons hsh;obtain rfl:=hasAllW_nil h2;obtain⟨xs,rfl,h3⟩:=hasW_list h1;obtain⟨ns,rfl⟩:=items_int h3;have Xi:ns.length<=n:=by
  unfold OpenLaw.pre at hc;have h4:(WTm.not (.lt (.lit (.int (n:Int))) (.len (.arg 0)))).holds [] {args:=[.list (ns.map .int)]}=pc:=by have h4:=(holds_andW hc).1;rw[hn]at h4;exact h4
  have h5:=condW_of h4 (w_not (w_lt w_lit (w_len_list (w_arg rfl))));rw[cO]at h5;refine jw λq=>?_;have q':(n:Int)<((ns.length:Nat):Int):=by omega
  first
   | (rw[dP q']at h5;exact absurd h5 (by decide))
   | (simp at h5;omega)
 cases hwl with
 | cons w1 w2=>
  cases w2;cases w1 with
  | list ho Yg=>exact⟨_,_,ns,rfl,rfl,ho,A6 ns _ Yg,Xi⟩
def Kv(l:OpenLaw)(args:T0 WData):l.row.toRowW.claim.post args (.bool pc) args=pc:=
 postW_of (r:=l.row.toRowW) (X:=(pc==pc))
  (show WShape.has [] (.bool pc) .bool=pc by first|rfl|decide|simp[WShape.has,WShape.arms,WShape.armsAll])
  (show(WTm.eq .res (.lit (.bool pc))).value [] {args:=args,res:=some (.bool pc),after:=args}=Fa (.bool (pc==pc))from w_eq_bool (w_res rfl) w_lit) rfl
def attach_call{l:OpenLaw}{n:Nat}{YP:Wo->No->Prop}{d:DefRec} (hn:l.most=Fa n) (ZK:d.params.defaults=[]) (call:∀(w:Wo) (s₀ s₁:Sd) (mg mb:QQZ) (fa:Uf) (o:Obj) (pm cd XT:Vl) (a:Uf) (vs:T0 Vl) (ns:T0 Int),Ground q X2 [] XP w s₀ mg mb s₁.heap->YP w s₁.heap->
   s₁.heap.get? fa=Fa o->o.data=.func (docDef d.name d.params d.body d.scope pm cd XT)->s₁.heap.CodeRec cd d.name->mg d.name=Fa (.ref fa)->
   s₁.heap.get? a=Fa {cls:=.type "list",data:=.seq vs.toArray}->IntsAre vs ns->ns.length<=n->s₁.gens=#[]->
   XXi (Tk l.prog w) callerA (.call (.ref fa) ⟨[.ref a],[]⟩) (λr s'=>r=.ok (.ret (.bool pc))/\OldK s₁.heap s'.heap/\s'.os=s₁.os/\XXk s'.gens) s₁):
  WalkO q X2 XP YP l.row.toRowW d [] (λf vs=>PySem.call f vs):=by
 intro w s₀ s₁ mg mb G Y fa o pm cd XT dV kV ho hd Yq hD hmg hg args Z4 as Zq hlay hrd hwl hlo;obtain rfl:dV=.none:=Dflts.none hD ZK;obtain rfl:kV=.none:=Dflts.noKw hD;obtain⟨a,vs,ns,rfl,rfl,Z5,YV,Xi⟩:=Ke hn Zq hwl;refine enter_call (gg (call w s₀ s₁ mg mb fa o pm cd XT a vs ns G Y ho (fd_plain hd) Yq hmg Z5 YV Xi hg) λr s' hq=>?_);obtain⟨rfl,h2,h3,h4⟩:=hq;exact⟨.inl ⟨.bool pc,.bool pc,[],rfl,λ_=>rfl,.bool pc,Kv l _,λ_=>⟨List.Pairwise.nil,λ_ hm=>(nomatch hm)⟩⟩,h2,h3,h4⟩
variable {prog:Pg}{w:Wo}{A:Ar}{E:QQX}{s:Sd}{K:Frag}
end Att
namespace L2
theorem DB:∀{vs:T0 Vl} {ns:T0 Int},IntsAre vs ns->qE (ns.map V.int) vs
 | _,_,.nil=>.nil
 | _,_,.cons n t h=>.cons ⟨t,rfl⟩ (DB h)
def LN(H:Hp):Prop:=∀b,H b=Db\/∃o xs,H b=Fa (.frz o (.lst xs))
def NR{P:Pg}{w:Wo}{K:qw}{mg mb:QQZ}{CX:K3}{fa a:Uf}{fd:Rs}{x:Str}{sp:Sp}{s₁:Sd}{vs:T0 Vl} (KX:K.In s₁.heap) (hns:s₁.heap.Ns wv mg) (hb:s₁.heap.Ns builtinsNs mb) (hbb:∀x:Str,x≠"__name__"->mb x=Go x) (hlim:s₁.heap.NoLimit) (hg:s₁.gens=#[]) (ha:s₁.heap.get? a=Fa {cls:=.type "list",data:=.seq vs.toArray}) (hi:IntsAre vs ns) (hl:ns.length<=Ch) (hr:sd k callerA)
  (F:∀base:No,K.In base->base.Ns wv mg->xp P w K mg base CX k fa fd [x] sp) (hbind:∀(s:Sd) (u:Vl),BindsTo s fd ⟨[u],[]⟩ [(x,u)])
  (YF:∀H:Hp,LN H->zb K H a (ns.map V.int)->sp [.ref a] H (λv _=>v=.bl pc) λ_ _ _=>False)
  (hCX:∀H e s',CX [] H s₁ (λ_ _ _=>False) e s'->False):
  XXi (Tk P w) callerA (.call (.ref fa) ⟨[.ref a],[]⟩) (λr s'=>r=.ok (.ret (.bool pc))/\OldK s₁.heap s'.heap/\s'.os=s₁.os/\XXk s'.gens) s₁:=by
 have rv:=DB hi;have lenV:=hi.length;have core:∀H:Hp,LN H->zb K H a (ns.map V.int)->yx P w H s₁.heap->(∀b,H b≠Db->b=a)->(H a≠Db->K.lookup a=Db)->
   XXi (Tk P w) callerA (.call (.ref fa) ⟨[.ref a],[]⟩) (λr s'=>r=.ok (.ret (.bool pc))/\OldK s₁.heap s'.heap/\s'.os=s₁.os/\XXk s'.gens) s₁:=by
  intro H hO hS mK hA hK;have YA:∀{b:Uf} {o:Obj},s₁.heap.get? b=Fa o->H b=Db->(Ff s₁.heap H).get? b=Fa o:=λe n=>LP e n;have noA:∀{b:Uf} {o:Obj} {es:Array DictEntry} {ep:Nat},s₁.heap.get? b=Fa o->o.data=.dict es ep->H b=Db:=λ{b o es ep} e d=>by
   cases q:H b with
   | none=>rfl
   | some u=>have e':b=a:=hA b (by rw[q];simp);subst e';rw[ha]at e;cases e;have d':Data.seq vs.toArray _=Data.dict es ep:=d;cases d'
  have nsK:∀{b:Uf} {m:QQZ},s₁.heap.Ns b m->(Ff s₁.heap H).Ns b m:=λ{b m} ⟨o,es,ep,e,d,r⟩=>⟨o,es,ep,YA e (noA e d),d,r⟩;have hKb:K.In (Ff s₁.heap H):=λb o e=>YA (KX b o e) (by
   cases q:H b with
   | none=>rfl
   | some u=>
    have e':b=a:=hA b (by rw[q];simp);subst e';rw[hK (by rw[q];simp)]at e;cases e)
  have hM:Mod K mg (Ff s₁.heap H):=⟨hKb,nsK hns,⟨mb,nsK hb,hbb⟩,let⟨mc,h1,h2⟩:=hlim;⟨mc,nsK h1,h2⟩⟩;have e0:Ij P w K mg (Ff s₁.heap H) callerA [] s₁ H:=⟨rfl,hM,λb o e=>QD e,mf (Kn _ _),trivial,λb hb=>absurd (show b∈([]:QXQ)from hb) (by simp),mK,.of_eq hg⟩;refine gg ((F _ hKb (nsK hns)).run callerA [] s₁ H ⟨[.ref a],[]⟩ [.ref a] [.ref a] _ _ hr e0 (hbind s₁ (.ref a)) (.cons rfl .nil) (YF H hO hS)) λr s' h=>?_;cases r with
  | error e=>exact(hCX H e s' h).elim
  | ok fl=>
   cases fl with
   | next=>exact False.elim h
   | brk=>exact False.elim h
   | cont=>exact False.elim h
   | ret u=>
    obtain⟨v,H',os,bare,un,Z6,r',q⟩:=h;have q':v=.bl pc:=q;subst q';obtain rfl:u=Value.bool pc:=r';refine⟨rfl,OldK.of_keep λb o e=>?_,os,bare⟩;cases q:H b with
    | none=>exact un.keep b o e q (by intro z;exact absurd (show b∈([]:QXQ)from z) (by simp)) (by simp)
    | some u=>
     rcases hO b with z|⟨ob,xs,z⟩
     .rw[q]at z;cases z
     .have z2:=un.nu b ob _ z;obtain⟨e1,_⟩:=mK b _ z;obtain⟨e2,_⟩:=Z6 b _ z2;rw[e]at e1;cases e1;exact e2
 cases hk:K.lookup a with
 | some o=>have e:=KX a o hk;rw[ha]at e;cases e;refine core (λ_=>Db) (λ_=>.inl rfl) (.inr ⟨_,vs.toArray,_,hk,rfl,rfl,rfl,by rw[de,lenV];exact hl,by simpa using rv⟩) (λb u z=>by have z':(Db:Option HO)=Fa u:=z;cases z') (λb z=>absurd rfl z) λz=>absurd rfl z
 | none=>
  refine core (λb=>if b=a then Fa (.frz {cls:=.type "list",data:=.seq vs.toArray} (.lst (ns.map V.int)))else Db) (λb=>?_) (.inl (.inr ⟨{cls:=.type "list",data:=.seq vs.toArray},cV rfl⟩)) (λb u z=>?_) (λb z=>?_) λ_=>hk
  .by_cases hb:b=a
   .exact .inr ⟨_,_,cV hb⟩
   .exact .inl (cS hb)
  .by_cases hb:b=a
   .have z':=(cV hb).symm.trans z;cases z';subst hb;exact⟨ha,by rw[cO];exact hl,vs,_,rv,ha⟩
   .have z':=(cS hb).symm.trans z;cases z'
  .by_cases hb:b=a
   .exact hb
   .exact absurd (cS hb) z
def Pu{l:W.OpenLaw}{n k:Nat}{q:Pg}{X2:QQQ}{XP:(QQZ)->No->Prop}{YP:Wo->No->Prop}{d:DefRec}{K:Params->qw}{CX:Wo->K3}{sp:Wo->Sp}{x:Str} (hn:l.most=Fa n) (ZZ:n<=Ch) (ZK:d.params.defaults=[]) (hr:sd k callerA) (hY:∀(w:Wo) (h:No),YP w h->(K w.params).In h) (F:∀(w:Wo) (mg:QQZ) (fa:Uf) (h:No),(K w.params).In h->h.Ns wv mg->mg d.name=Fa (.ref fa)->
   ∃fd:Rs,(∀(s:Sd) (u:Vl),BindsTo s fd ⟨[u],[]⟩ [(x,u)])/\
    ∀base:No,(K w.params).In base->base.Ns wv mg->xp l.prog w (K w.params) mg base (CX w) k fa fd [x] (sp w))
  (YF:∀(w:Wo) (H:Hp) (a:Uf) (ns:T0 Int),ns.length<=n->LN H->zb (K w.params) H a (ns.map V.int)->sp w [.ref a] H (λv _=>v=.bl pc) λ_ _ _=>False)
  (hCX:∀(w:Wo) (H:Hp) (s:Sd) (e:Vl) (s':Sd),CX w [] H s (λ_ _ _=>False) e s'->False):
  W.WalkO q X2 XP YP l.row.toRowW d [] (λf vs=>PySem.call f vs):=by
 refine Att.attach_call hn ZK λw s₀ s₁ mg mb fa o pm cd XT a vs ns G Y ho hd Yq hmg Z5 YV Xi hg=>?_;have KX:=hY w _ Y;obtain⟨fd,hb,hF⟩:=F w mg fa _ KX G.T.g hmg;exact NR KX G.T.g G.T.b G.T.builtins G.T.nolimit hg Z5 YV (dR Xi ZZ) hr hF hb (λH hO hS=>YF w H a ns Xi hO hS) λH e s'=>hCX w H s₁ e s'
def Ou(s:sB)(j:Nat):sB:=match s with
 | .ClassDef _ _ _ body _ _ _ _ _ _ _=>body.getD j (.Pass ⟨0,0,0,0⟩)
 | _=>.Pass ⟨0,0,0,0⟩
def uB(s:sB):Arguments:=match s with
 | .FunctionDef _ a _ _ _ _ _ _ _ _=>a
 | _=>{posonlyargs:=[],args:=[],vararg:=none,kwonlyargs:=[],kw_defaults:=[],kwarg:=none,defaults:=[]}
def rT(s:sB):T0 sB:=match s with
 | .FunctionDef _ _ b _ _ _ _ _ _ _=>b
 | _=>[]
def qe(s:sB):XXc:=match s with
 | .FunctionDef _ _ _ _ _ _ sc _ _ _=>sc
 | _=>{kind:=.function,names:=[],isGenerator:=false,isCoroutine:=false}
abbrev NX:K3:=λ_ _ _ _ _ _=>False
abbrev E0:XK:=λ_ _ _=>False
def Gh:BP NX X E0:=λ_ _ _ _ _ _ _ h=>h.elim
structure Pl(K:qw)(x qual:Str)(st:sB)(f:Uf)(fd:Rs):Prop where
 ex:∃(oc:Vl) (od:Option Uf) (kV XT pm:Vl) (an:Option Uf) (Xl ct:Vl) (Ya:Array (Option Vl)),
  fd=W.fnOf x qual (uB st) (rT st) (qe st) .none kV XT pm an Xl ct/\K.lookup f=Fa ⟨oc,od,.func fd,Ya⟩/\W.codeIn K Xl qual=pc
 kp:W.keepIn K (.ref f)=pc
variable {P:Pg}{K:qw}{mg:QQZ}{base:No}
section
variable {w:Wo}
def Pl.ok{st:sB}{sp:Sp}(F:Pl K x qual st f fd)(S:tJ N ps (qe st))(len:∀vs H Q E,sp vs H Q E->vs.length=ps.length) (Xy:∀(Xl:Vl) (A:Ar) (outer:T0 Env) (s:Sd) (H:Hp) (vs:T0 V) (Q:VK) (E:XK),sd k (A.deeper (sK qual (qe st) s.heap.objs.size f Xl))->sp vs H Q E->
   ∃t,Co (vC NX P w K mg base N qual (qe st) f Xl A outer s H E).om (rT st) t/\t {nx:=λ_ H'=>Q .mG H',rt:=Q} (start N vs) H):xp P w K mg base NX (k+1) f fd ps sp:=by
 obtain⟨oc,od,kV,XT,pm,an,Xl,ct,Ya,rfl,lk,Yq⟩:=F.ex;refine L6 lk Yq S len λA outer s H vs Q E hr YF=>?_;obtain⟨t,h,q⟩:=Xy Xl A outer s H vs Q E hr YF;exact⟨t,h.om,q⟩
def Pl.binds{st:sB}{ps:QQQ}(F:Pl K x qual st f fd) (h:∀(kV XT pm:Vl) (an:Option Uf) (Xl ct:Vl) (us:T0 Vl),us.length=ps.length->bindArgs (W.fnOf x qual (uB st) (rT st) (qe st) .none kV XT pm an Xl ct) ⟨us,[]⟩=pure (ps.zip us)):uX K fd ps []:=by
 obtain⟨oc,od,kV,XT,pm,an,Xl,ct,Ya,rfl,lk,Yq⟩:=F.ex;exact .all (h kV XT pm an Xl ct)
def K8{st:sB}{oc:Vl}{od an:Option Uf}{Ya:Array (Option Vl)}{kV XT pm Xl ct:Vl}(l:K.lookup f=Fa ⟨oc,od,.func (W.fnOf x qual (uB st) (rT st) (qe st) .none kV XT pm an Xl ct),Ya⟩) (c:W.codeIn K Xl qual=pc) (k:W.keepIn K (.ref f)=pc):Pl K x qual st f (W.fnOf x qual (uB st) (rT st) (qe st) .none kV XT pm an Xl ct):=⟨⟨oc,od,kV,XT,pm,an,Xl,ct,Ya,rfl,l,c⟩,k⟩
end
variable {X:Cx}
def pv(i:Nat){x:Str}{pos:Pos}(hN:X.N[i]?=Fa x:=by rfl)(hv:Uu X.env.scope x:=by first|exact Or.inl rfl|exact Or.inr (Or.inl rfl)|exact Or.inr (Or.inr rfl))(hd:zR x:=by decide)
  (Yq:(x==("__classdict__":Str))=lf:=by decide):PE X (.Name x pos) (HH i):=Rx hN hv hd Yq
def Ox{A B:Prop}(h:B):if lf=pc then A else B:=by rw[cS dh];exact h
def Qf{A B:Prop}(h:A):if pc=pc then A else B:=by rw[cV rfl];exact h
def qK{c A B:Prop}[Decidable c](h1:c->A)(h2:¬c->B):if c then A else B:=by
 by_cases h:c
 .rw[cV h];exact h1 h
 .rw[cS h];exact h2 h
def PV(H H':Hp):Prop:=∀b o,H b=Fa o->H' b=Fa o
def PV.trans(a:PV H H1)(b:PV H1 H2):PV H H2:=λc o h=>b c o (a c o h)
section
variable {κ:Type}[DecidableEq κ]
def wM(kvs:T0 (κ×V))(k:κ):Option V:=(kvs.find? λkv=>decide (kv.1=k)).map (·.2)
def yP(kvs:T0 (κ×V))(k:κ)(v:V):T0 (κ×V):=
 if (kvs.any λkv=>decide (kv.1=k))=pc then kvs.map (λkv=>if kv.1=k then(kv.1,v)else kv)else kvs++[(k,v)]
def B8{p:κ×V}{r:T0 (κ×V)}{k:κ}(e:p.1=k):wM (p::r) k=Fa p.2:=by simp[wM,fi,e]
def B5{p:κ×V}{r:T0 (κ×V)}{k:κ}(e:¬p.1=k):wM (p::r) k=wM r k:=by simp[wM,fi,e]
theorem GK(k:κ):∀kvs:T0 (κ×V),(kvs.any λkv=>decide (kv.1=k))=(wM kvs k).isSome
 | []=>rfl
 | p::r=>by
  rw[fY];by_cases e:p.1=k
  .simp only[B8 e,dP e,gQ,Option.isSome_some]
  .rw[B5 e,eI e,fH];exact GK k r
def Az(kvs:T0 (κ×V))(k:κ)(v:V):(yP kvs k v).length<=kvs.length+1:=by
 unfold yP;split
 .rw[cO];omega
 .rw[cR,dU,dB];omega
def yu.nq(r:yu o u):o.isSome=u.isSome:=by
 cases o with
 | none=>cases u with
  | none=>rfl
  | some _=>exact(show False from r).elim
 | some _=>cases u with
  | none=>exact(show False from r).elim
  | some _=>rfl
def KV.val(r:KV kvs vs)(k:κ):yu (wM kvs k) (valueAt vs k):=by
 unfold KV at r;induction r with
 | nil=>exact True.intro
 | @cons p q ps qs h t ih=>
  obtain⟨h1,h2⟩:=h;by_cases e:p.1=k
  .have e':q.1=k:=h1.symm.trans e;have b:valueAt (q::qs) k=Fa q.2:=by simp[valueAt,fi,e']
   rw[B8 e,b];exact h2
  .have e':¬q.1=k:=λz=>e (h1.trans z);have b:valueAt (q::qs) k=valueAt qs k:=by simp[valueAt,fi,e']
   rw[B5 e,b];exact ih
def KV.any(r:KV kvs vs)(k:κ):(kvs.any λkv=>decide (kv.1=k))=vs.any λkv=>decide (kv.1=k):=by
 unfold KV at r;induction r with
 | nil=>rfl
 | cons h t ih=>rw[fY,fY,ih,h.1]
def KV.ow(r:KV kvs vs)(k:κ){y:V}{u:Vl}(ry:qQ y u):
  KV (kvs.map λkv=>if kv.1=k then(kv.1,y)else kv) (vs.map λkv=>if kv.1=k then(kv.1,u)else kv):=by
 unfold KV at r ⊢;induction r with
 | nil=>exact .nil
 | @cons p q ps qs h t ih=>
  rw[dN,dN];refine .cons ?_ ih;obtain⟨h1,h2⟩:=h;by_cases e:p.1=k
  .rw[cV e,cV (h1.symm.trans e)];exact⟨h1,ry⟩
  .rw[cS e,cS (λz=>e (h1.trans z))];exact⟨h1,h2⟩
def KV.put(r:KV kvs vs)(k:κ){y:V}{u:Vl}(ry:qQ y u):KV (yP kvs k y) (stored vs k u):=by
 unfold yP stored;rw[r.any k];by_cases e:(vs.any λkv=>decide (kv.1=k))=pc
 .rw[cV e,cV e];exact r.ow k ry
 .rw[cS e,cS e];exact mw r ⟨rfl,ry⟩
def KV.length(r:KV kvs vs):kvs.length=vs.length:=jd r
end
def GP(r:qQ (kV k) u):(rA P w).is k u=pc:=by
 cases k with
 | inl i=>obtain⟨t,e⟩:=(show ∃t,u=Value.int i t from r);subst e;exact G6 P w i t
 | inr x=>obtain⟨t,e⟩:=(show ∃t,u=Value.str x t from r);subst e;exact AG P w x t
theorem DI:∀{ks:List qX} {us:T0 Vl},qE (ks.map kV) us->ItemsAre (rA P w) ks us
 | [],_,r=>by rw[iI]at r;cases r;exact .nil
 | k::ks,_,r=>by
  rw[dN]at r;cases r with
  | cons h t=>exact .cons (GP h) (DI t)
abbrev KT(H:Hp):T0 (List qX×V)->T0 (List qX×Uf×Vl)->Prop:=Paired λp q=>p.1=q.1/\H q.2.1=Fa (.tup (p.1.map kV))/\qQ p.2 q.2.2
def KT.val(r:KT H kvs xs)(k:List qX):yu (wM kvs k) ((atKey xs k).map (·.2)):=by
 induction r with
 | nil=>exact True.intro
 | @cons p q ps qs h t ih=>
  obtain⟨h1,_,h2⟩:=h;by_cases e:p.1=k
  .have e':q.1=k:=h1.symm.trans e;have b:atKey (q::qs) k=Fa q.2:=by simp[atKey,fi,e']
   rw[B8 e,b];exact h2
  .have e':¬q.1=k:=λz=>e (h1.trans z);have b:atKey (q::qs) k=atKey qs k:=by simp[atKey,fi,e']
   rw[B5 e,b];exact ih
def KT.ow(r:KT H kvs xs)(k:List qX){y:V}{u:Vl}(ry:qQ y u):
  KT H (kvs.map λkv=>if kv.1=k then(kv.1,y)else kv) (xs.map (putAt k u)):=by
 induction r with
 | nil=>exact .nil
 | @cons p q ps qs h t ih=>
  rw[dN,dN];refine .cons ?_ ih;obtain⟨h1,h2,h3⟩:=h;unfold putAt;by_cases e:p.1=k
  .rw[cV e,cV (h1.symm.trans e)];exact⟨h1,h2,ry⟩
  .rw[cS e,cS (λz=>e (h1.trans z))];exact⟨h1,h2,h3⟩
def KT.put(r:KT H kvs xs)(k:List qX){b:Uf}{y:V}{u:Vl}(hb:H b=Fa (.tup (k.map kV)))(ry:qQ y u):
  KT H (yP kvs k y) (storedH xs k b u):=by
 have e:(kvs.any λkv=>decide (kv.1=k))=(atKey xs k).isSome:=by rw[GK,(r.val k).nq,jh]
 unfold yP storedH;rw[e];by_cases q:(atKey xs k).isSome=pc
 .rw[cV q,cV q];exact r.ow k ry
 .rw[cS q,cS q];exact mw r ⟨rfl,hb,ry⟩
def KT.keeps{H H':Hp}(r:KT H kvs xs)(ht:∀b ys,H b=Fa (.tup ys)->H' b=Fa (.tup ys)):KT H' kvs xs:=
 Paired.oA r λ_ _ z=>⟨z.1,ht _ _ z.2.1,z.2.2⟩
variable {H:Hp}{h:No}{a:Uf}
section
variable {w:Wo}
def QW(ok:yx P w H h)(e:Rd H a u):tD P w H h a u:=e.ok ok
def JQ{kvs:T0 (qX×V)}(ok:yx P w H h)(e:Rd H a (.dK kvs)):kvs.length<=Ch/\(a==XV)=lf/\∃vs,KV kvs vs/\h.DictOf (rA P w) a vs:=
 show tD P w H h a (.dK kvs)from QW ok e
def U6{kvs:T0 (qX×V)}(ok:yx P w H h)(e:H a=Fa (.dK kvs)):kvs.length<=Ch/\(a==XV)=lf/\∃vs,KV kvs vs/\h.DictOf (rA P w) a vs:=JQ ok (.inl e)
def Fj{ks:List qX}(ok:yx P w H h)(e:H a=Fa (.tup (ks.map kV))):(tupleKind (rA P w)).is h ks a:=by obtain⟨_,its,r,o,h1,h2,⟨n,h3⟩,_⟩:=(show tD P w H h a (.tup (ks.map kV))from ok a _ e);exact⟨o,its.toArray,n,h1,h2,h3,by simpa using DI r⟩
def IW{kvs:T0 (List qX×V)}(ok:yx P w H h)(e:Rd H a (.dT kvs)):kvs.length<=Ch/\(a==XV)=lf/\
  ∃xs,KT H kvs xs/\h.DictOfH (tupleKind (rA P w)) a xs:=by
 obtain⟨z,y,xs,r,o,es,ep,h1,h2,h3,h4,h5⟩:=(show tD P w H h a (.dT kvs)from QW ok e);refine⟨z,y,xs,r,o,es,ep,h1,h2,h3,h4,λx hx=>?_,h5⟩;have all:∀{l:T0 (List qX×V)} {m:T0 (List qX×Uf×Vl)},KT H l m->∀x∈m,(tupleKind (rA P w)).is h x.1 x.2.1:=by
  intro l m q;induction q with
  | nil=>intro x hx;exact nomatch hx
  | @cons p q ps qs hq t ih=>
   intro x hx;rcases cW.mp hx with e|hx
   .subst e;exact Fj ok (by rw[<-hq.1];exact hq.2.1)
   .exact ih x hx
 exact all r x hx
def TC{kvs:T0 (List qX×V)}(ok:yx P w H h)(e:H a=Fa (.dT kvs)):kvs.length<=Ch/\(a==XV)=lf/\
  ∃xs,KT H kvs xs/\h.DictOfH (tupleKind (rA P w)) a xs:=IW ok (.inl e)
end
def EG(H:Hp)(a:Uf)(y:V)(r:Option V):Prop:=
 (∃kvs k,Rd H a (.dK kvs)/\y=kV k/\r=wM kvs k)\/∃kvs k b,Rd H a (.dT kvs)/\y=.ref b/\H b=Fa (.tup (k.map kV))/\r=wM kvs k
def LU(H:Hp)(a:Uf)(y v:V)(H':Hp):Prop:=
 (∃kvs k,H a=Fa (.dK kvs)/\y=kV k/\kvs.length<Ch/\H'=upd H a (.dK (yP kvs k v)))\/
 ∃kvs k b,H a=Fa (.dT kvs)/\y=.ref b/\H b=Fa (.tup (k.map kV))/\kvs.length<Ch/\H'=upd H a (.dT (yP kvs k v))
def EG.k{H:Hp}{a:Uf}{kvs:T0 (qX×V)}{k:qX}(e:H a=Fa (.dK kvs)):EG H a (kV k) (wM kvs k):=.inl ⟨kvs,k,.inl e,rfl,rfl⟩
def LU.k{H:Hp}{a:Uf}{kvs:T0 (qX×V)}{k:qX}(e:H a=Fa (.dK kvs))(hl:kvs.length<Ch):LU H a (kV k) v (upd H a (.dK (yP kvs k v))):=.inl ⟨kvs,k,e,rfl,hl,rfl⟩
variable {Xc:T0 (Uf × Obj)}{Y:St}{y v:V}{u r:Vl}
section
variable {s:Sd}{o:Option V}{A:Ar}{E:QQX}
def Inv.big(I:Inv X Xc Y H s):XV<s.heap.objs.size:=by have h:wv<s.heap.objs.size:=(I.mod.glob.keeps I.bk).lt;exact ib (by decide) h
def Kh{Q:QQX}(hu:A.units+1<Y')(I:Inv X Xc Y H s)(g:EG H a y (Fa v))(ry:qQ y u)(h:∀w' s',Inv X Xc Y H s'->qQ v w'->Q w' s'):
  pi (Tk X.prog X.w) A (XXe (.ref a) u) Q E s:=by
 rcases g with⟨kvs,k,e,ey,l⟩|⟨kvs,k,b,e,ey,eb,l⟩
 .subst ey;obtain⟨z,hd,vs,rel,dd⟩:=JQ I.mK e;obtain⟨w',hw,Zp⟩:=yu.some_of (v:=v) (o:=valueAt vs k) (by rw[l];exact rel.val k);exact wpAny_getItem_of (GP ry) dd.mapOf hw (h w' _ (I.tok _) Zp)
 .subst ey;cases(show u=Value.ref b from ry);obtain⟨z,hd,xs,rel,dd⟩:=IW I.mK e;obtain⟨w',hw,Zp⟩:=yu.some_of (v:=v) (o:=(atKey xs k).map (·.2)) (by rw[l];exact rel.val k);obtain⟨p,hp,Xn⟩:=jT.mp hw;refine wpAny_getItem_heap (iY hu) (Fj I.mK eb) dd hp ?_;rw[Xn];exact h w' _ (I.tok _) Zp
def Wk{Q:QQX}(hu:A.units+1<Y')(I:Inv X Xc Y H s)(g:EG H a y o)(ry:qQ y u)(h:∀s',Inv X Xc Y H s'->Q (.bool o.isSome) s'):
  pi (Tk X.prog X.w) A (Op .In u (.ref a)) Q E s:=by
 rcases g with⟨kvs,k,e,ey,l⟩|⟨kvs,k,b,e,ey,eb,l⟩
 .subst ey;obtain⟨z,hd,vs,rel,dd⟩:=JQ I.mK e;refine wpAny_in_of (GP ry) hd dd.mapOf ?_;rw[<-(rel.val k).nq,<-l];exact h _ (I.tok _)
 .subst ey;cases(show u=Value.ref b from ry);obtain⟨z,hd,xs,rel,dd⟩:=IW I.mK e;refine wpAny_in_heap (iY hu) (Fj I.mK eb) hd dd ?_;have q:=(rel.val k).nq;rw[jh]at q;rw[<-q,<-l];exact h _ (I.tok _)
def IF{t':Nat}(I:Inv X Xc Y H s)(mu:TV (H a))(hs:Heap.SameBut a s.heap h')(he:∃q,h'.get? a=Fa q)(new:tD X.prog X.w (upd H a ob) h' a ob):
  Inv X Xc Y (upd H a ob) {s with heap:=h',toks:=t'}:=
 I.write (x:=a) (e:=a) mu (.inl rfl) (λb q hb z=>(hs.2 b hb).trans z) he new
def LZ{H':Hp}{h':No}{kvs:T0 (qX×V)}(z:kvs.length<=Ch)(hd:(a==XV)=lf)(rel:KV kvs vs)(dd:h'.DictOf (rA P w) a vs):
  tD P w H' h' a (.dK kvs):=⟨z,hd,vs,rel,dd⟩
def Ka{Q:Unit->Sd->Prop}(hu:A.units+1<Y')(I:Inv X Xc Y H s)(g:LU H a y v H')(ry:qQ y u)(rv:qQ v r)(h:∀s',Inv X Xc Y H' s'->Q () s'):
  pi (Tk X.prog X.w) A (setItem (.ref a) u r) Q E s:=by
 rcases g with⟨kvs,k,e,ey,l,eH⟩|⟨kvs,k,b,e,ey,eb,l,eH⟩
 .subst ey eH;obtain⟨z,hd,vs,rel,dd⟩:=U6 I.mK e;have hz:vs.length<=Ch:=by rw[<-rel.length];exact z
  have hl:(yP kvs k v).length<=Ch:=by have:=Az kvs k v;omega
  refine wpAny_setItem_pairs (hsz:=hz) (GP ry) dd λh' dd' hs=>h _ ?_;have he:∃q,h'.get? a=Fa q:=let⟨q,_,_,hq,_⟩:=dd';⟨q,hq⟩;exact IF I (by rw[e];exact True.intro) hs he (LZ hl hd (rel.put k rv) dd')
 .subst ey eH;cases(show u=Value.ref b from ry);obtain⟨z,hd,xs,rel,dd⟩:=TC I.mK e;have hz:xs.length<=Ch:=by rw[<-jd rel];exact z
  have hl:(yP kvs k v).length<=Ch:=by have:=Az kvs k v;omega
  refine wpAny_setItem_heap (hsz:=hz) (iY hu) (Fj I.mK eb) dd λh' dd' hs=>h _ ?_;obtain⟨q,es,ep,hq,h2,h3,h4,_,h5⟩:=dd';refine IF I (by rw[e];exact True.intro) hs ⟨q,hq⟩ ⟨hl,hd,_,(rel.put k eb rv).keeps λc ys ec=>?_,q,es,ep,hq,h2,h3,h4,h5⟩;rw[qa (T4 ec e (λz=>nomatch z))];exact ec
end
variable {kvs:T0 (qX × V)}{k:qX}
section
variable {s:Sd}{A:Ar}{E:QQX}
end
def F0{Xc:QQY}(I:Inv X Xc Y H s)(g:EG H a y o):s.TypeIs (.ref a) "dict":=by
 rcases g with⟨kvs,k,e,_,_⟩|⟨kvs,k,b,e,_,_,_⟩
 .obtain⟨_,_,vs,_,dd⟩:=JQ I.mK e;exact dd.typeIs
 .obtain⟨_,_,xs,_,dd⟩:=IW I.mK e;exact dd.typeIs
def U7(td ty tv:TE):TS:=λD Y H=>tv Y H λv H1=>td Y H1 λx H2=>ty Y H2 λy H3=>∃a H4,x=.ref a/\LU H3 a y v H4/\D.nx Y H4
variable {i e value:zn}{pos Xo Zo:Pos}{td ty tv:TE}
section
variable {o:zn}
def Oz(hu:X.A.units+1<Y')(ho:PE X o td)(hi:PE X i ty)(hv:PE X value tv)(hs:ZB value (Fa (.Subscript o i Xo)) pos.line X.env=pure lf):
  PS X (.Assign [.Subscript o i Xo] value pos) (U7 td ty tv):=by
 intro Xc s Y H D I h;refine wpAny_Assign_Subscript (sL (hv Xc s Y H _ I h) λr s1 zz=>x5 zz λv H1 I1 rv q1=>sL (ho Xc s1 Y H1 _ I1 q1) λu s2 zz=>x5 zz λx H2 I2 rx q2=>sL (hi Xc s2 Y H2 _ I2 q2) λiv s3 zz=>?_) hs;obtain⟨y,H3,I3,ry,a,H4,ex,g,q3⟩:=zz;subst ex;obtain rfl:u=Value.ref a:=rx;exact Ka hu I3 g ry rv λs4 I4=>⟨Y,H4,I4,q3⟩
end
structure M1(X:Cx)(o:zn)(m:Str)(Xf:Pos)(e:zn)(Xj:Pos):Prop where
 base:At o m X.env (wp o X.env)=wp o X.env
 pb:((Ix Xj (Tl [e] X.env)).all (λx=>!x.1)&&(dL Xj (Ps [] X.env)).all (λx=>x.1.isSome)
  &&decide (([e]:List zn).length+([]:List XXd).length+(if ([]:List XXd).isEmpty then 0 else 1)<30))=pc
 line:(Xf.endLine==Xj.line)=pc
 trees:Ix Xj (Tl [e] X.env)=[(lf,wp e X.env)]
structure M2(X:Cx)(o:zn)(m:Str)(Xf:Pos)(e f:zn)(Xj:Pos):Prop where
 base:At o m X.env (wp o X.env)=wp o X.env
 pb:((Ix Xj (Tl [e,f] X.env)).all (λx=>!x.1)&&(dL Xj (Ps [] X.env)).all (λx=>x.1.isSome)
  &&decide (([e,f]:List zn).length+([]:List XXd).length+(if ([]:List XXd).isEmpty then 0 else 1)<30))=pc
 line:(Xf.endLine==Xj.line)=pc
 trees:Ix Xj (Tl [e,f] X.env)=[(lf,wp e X.env),(lf,wp f X.env)]
variable {d:V}
section
variable {s:Sd}{o:Option V}{A:Ar}{E:QQX}
end
variable {f:zn}{Xf Xj:Pos}{tx:TE}
section
variable {o:zn}
end
section
variable {s:Sd}{A:Ar}{E:QQX}
end
section
variable {s:Sd}{A:Ar}{E:QQX}
end
section
variable {κ:Type}[DecidableEq κ]
end
def A0(env:Env):T0 (Str×wS)->T0 (Str×Uf)->T0 (Str×Uf)
 | [],acc=>acc
 | (n,k)::r,acc=>A0 env r (if k==.free then(n,(env.cells.lookup n).getD 0)::acc else acc)
theorem Hd{env:Env}{f:(Str×wS)->T0 (Str×Uf)->Sem (ForInStep (T0 (Str×Uf)))} (hf:∀x cs,(x.2=.free->∃c,env.cells.lookup x.1=Fa c)->f x cs=pure (.yield (if x.2==.free then(x.1,(env.cells.lookup x.1).getD 0)::cs else cs))):
  ∀(l:T0 (Str×wS)) (acc:T0 (Str×Uf)),(∀x∈l,x.2=.free->∃c,env.cells.lookup x.1=Fa c)->forIn l acc f=pure (A0 env l acc)
 | [],acc,_=>by rw[jU];rfl
 | (n,k)::r,acc,h=>by rw[jK,hf (n,k) acc (h _ dD),pure_bind];exact Hd hf r _ λx hx=>h x (dw _ hx)
def yC{scope:XXc}{env:Env}(h:∀x∈scope.names,x.2=.free->∃c,env.cells.lookup x.1=Fa c):closureFor scope env=pure (A0 env scope.names []):=by
 unfold closureFor;have e:=Hd (env:=env) (f:=λ(x:Str×wS) (cs:T0 (Str×Uf))=>(do
   if x.2==.free then
    let a<-cellOf env x.1
    pure (ForInStep.yield ((x.1,a)::cs))
   else pure (ForInStep.yield cs))) (λx cs hx=>by
  cases hk:x.2==NameKind.free with
  | false=>simp
  | true=>
   obtain⟨c,hc⟩:=hx (by simpa using hk);simp[cellOf,hc]) scope.names [] h
 first
  | exact(eE (·>>=pure) e).trans (by simp)
  | (simp only[bind_pure];exact e)
  | (rw[<-e];rfl)
theorem NQ{env:Env}{x:Str}{c:Uf}:∀{l:T0 (Str×wS)} {acc:T0 (Str×Uf)},(∀x∈l,x.2=.free->∃c,env.cells.lookup x.1=Fa c)->(∀x c,acc.lookup x=Fa c->env.cells.lookup x=Fa c)->(A0 env l acc).lookup x=Fa c->env.cells.lookup x=Fa c
 | [],acc,_,ha,h=>ha x c h
 | (n,k)::r,acc,hl,ha,h=>by
  refine NQ (l:=r) (acc:=if k==.free then(n,(env.cells.lookup n).getD 0)::acc else acc) (λy hy=>hl y (dw _ hy)) (λy d hd=>?_) h;cases hk:k==NameKind.free with
  | false=>rw[hk]at hd;exact ha y d (by simpa using hd)
  | true=>
   rw[hk,cV rfl]at hd;obtain⟨e,he⟩:=hl (n,k) dD (by simpa using hk);rw[eh]at hd;cases hy:y==n with
   | true=>
    rw[hy]at hd;have yn:y=n:=by simpa using hy
    subst yn;have he:env.cells.lookup y=Fa e:=he;rw[he]at hd ⊢;exact hd
   | false=>rw[hy]at hd;exact ha y d hd
theorem Nh{x:Str}:∀{l:T0 (Str×wS)} {acc:T0 (Str×Uf)},(∃c,acc.lookup x=Fa c)->∃c,(A0 env l acc).lookup x=Fa c
 | [],_,h=>h
 | (n,k)::r,acc,h=>by
  refine Nh (l:=r) ?_;cases hk:k==NameKind.free with
  | false=>simpa using h
  | true=>
   rw[cV rfl,eh];cases hy:x==n with
   | true=>exact⟨_,rfl⟩
   | false=>exact h
theorem Ii{x:Str}:∀{l:T0 (Str×wS)} {acc:T0 (Str×Uf)},l.lookup x=Fa .free->∃c,(A0 env l acc).lookup x=Fa c
 | [],_,h=>by simp at h
 | (n,k)::r,acc,h=>by
  rw[eh]at h;cases hy:x==n with
  | true=>rw[hy]at h;have hk:k=.free:=cY h;subst hk;refine Nh (l:=r) ⟨(env.cells.lookup n).getD 0,?_⟩;show List.lookup x (if NameKind.free==NameKind.free then(n,(env.cells.lookup n).getD 0)::acc else acc)=Fa ((env.cells.lookup n).getD 0);rw[cV (by rfl),eh,hy]
  | false=>rw[hy]at h;exact Ii (l:=r) h
theorem uy{env:Env}{x:Str}:∀{l:T0 (Str×wS)},(l.map λ(n,k)=>if (k==NameKind.free&&env.scope.kind==.function&&env.kindOf n==Fa .cell)then(n,NameKind.cell)else(n,k)).lookup x
   = (l.lookup x).map λk=>if (k==NameKind.free&&env.scope.kind==.function&&env.kindOf x==Fa .cell)then NameKind.cell else k
 | []=>rfl
 | (n,k)::r=>by
  rw[dN];show List.lookup x ((if (k==NameKind.free&&env.scope.kind==.function&&env.kindOf n==Fa .cell)=pc then(n,NameKind.cell)else(n,k))::_)=_;cases hy:x==n with
  | true=>
   have yn:x=n:=by simpa using hy
   subst yn;by_cases hc:(k==NameKind.free&&env.scope.kind==.function&&env.kindOf x==Fa .cell)=pc
   .rw[cV hc,eh,eh,hy];simp only[jL];rw[cV hc]
   .rw[cS hc,eh,eh,hy];simp only[jL];rw[cS hc]
  | false=>
   by_cases hc:(k==NameKind.free&&env.scope.kind==.function&&env.kindOf n==Fa .cell)=pc
   .rw[cV hc,eh,eh,hy];exact uy
   .rw[cS hc,eh,eh,hy];exact uy
def Ov(ix:T0 (Option Nat))(Y:St):St:=ix.map λo=>o.bind λi=>(Y[i]?).join
abbrev Cx.comp(X:Cx)(scope:XXc)(N':QQQ)(C:Uf)(s0:Sd)(H0:Hp)(ex:QXQ):Cx:=
 {X with N:=N',s₀:=s0,H₀:=H0,env:=compEnvC scope (A0 X.env scope.names []) C X.env,outer:=X.stack,ex:=ex,fn:=λ_=>lf,pn:=[],xe:=λ_ _=>False}
structure sC(X:Cx)(scope:XXc)(ix:List (Option Nat))(N':QQQ):Prop where
 kind:scope.kind=.function
 oo:∀y∈scope.names,y.2≠.cell
 nam:∀y∈scope.names,y.2=.local->scope.names.lookup y.1=Fa .local
 fre:∀y∈scope.names,y.2=.free->X.env.scope.names.lookup y.1=Fa .cell\/X.env.scope.names.lookup y.1=Fa .free
 len:ix.length=N'.length
 at_:∀(j i:Nat) (x:Str),ix[j]?=Fa (Fa i)->N'[j]?=Fa x->X.N[i]?=Fa x/\scope.names.lookup x=Fa .free
variable {scope:XXc}{ix:T0 (Option Nat)}{N':QQQ}{fp:QXQ}
section
variable {s:Sd}
def sC.cells(S:sC X scope ix N')(ok:X.Ok):∀x∈scope.names,x.2=.free->∃c,X.env.cells.lookup x.1=Fa c:=λx hx hk=>ok.has x.1 (S.fre x hx hk)
def sC.sub(S:sC X scope ix N')(ok:X.Ok){x:Str}{c:Uf}(h:(A0 X.env scope.names []).lookup x=Fa c):X.env.cells.lookup x=Fa c:=NQ (S.cells ok) (λ_ _ z=>by simp at z) h
theorem vw{x:Str}{k:wS}:∀{l:T0 (Str×wS)},l.lookup x=Fa k->(x,k)∈l
 | [],h=>by simp at h
 | (n,j)::r,h=>by
  rw[eh]at h;cases hy:x==n with
  | true=>
   rw[hy]at h;have yn:x=n:=by simpa using hy
   subst yn;rw[cY h];exact dD
  | false=>rw[hy]at h;exact dw _ (vw h)
def Inv.comp{C:Uf}{h1:No}{tk:Nat}(I:Inv X Xc Y H s)(S:sC X scope ix N')(hf:∀b∈fp,AS X Xc H b)(Xr:∀b∈fp,b<s.heap.objs.size)(hC:s.heap.objs.size<=C) (k:∀b o,s.heap.get? b=Fa o->h1.get? b=Fa o) (hn:h1.Ns C (λ_=>Db)):Inv (X.comp scope N' C s H fp) (X.pn++Xc) (Ov ix Y) H {s with heap:=h1,toks:=tk}:=by
 have sub:∀{x:Str} {c:Uf},(A0 X.env scope.names []).lookup x=Fa c->X.env.cells.lookup x=Fa c:=λh=>S.sub I.ok h;refine⟨⟨I.ok.mod,S.kind,I.ok.glob,I.ok.blt,hC,λx y c e1 e2=>I.ok.inj x y c (sub e1) (sub e2),λx hx=>?_,λ_ _ z=>(dh z).elim,I.ok.hd,I.ok.frames,.inl rfl,λb hb=>⟨dC (dJ (Xr b hb) hC),λx c e=>(hf b hb).2.2.2.2.1 x c (sub e)⟩,I.bs,dR I.ok.nW I.sz,λb o e hb=>?_,λb hb hfs=>?_,I.stack,I.nB⟩,rfl,I.bare,Un.kept k,⟨_,hn,λi x v e1 e2 e3=>?_⟩,λx c e=>?_,I.mK.fresh hC,λx c e=>I.mS x c (sub e),λp hp=>?_,I.mK.kept k,?_⟩
 .have hx:(relabel scope X.env).names.lookup x=Fa .cell\/(relabel scope X.env).names.lookup x=Fa .free:=hx;have e:(relabel scope X.env).names.lookup x=(scope.names.lookup x).map λk=>if (k==NameKind.free&&X.env.scope.kind==.function&&X.env.kindOf x==Fa .cell)then NameKind.cell else k:=uy
  rw[e]at hx;cases q:scope.names.lookup x with
  | none=>rw[q]at hx;rcases hx with hx|hx<;>simp at hx
  | some kd=>
   cases kd with
   | free=>exact Ii q
   | cell=>exact absurd rfl (S.oo _ (vw q))
   | _=>rw[q]at hx;rcases hx with hx|hx<;>simp at hx
 .rcases(hf b hb).2.2.2.1 with z|z
  .exact I.ok.nL b o e z
  .exact absurd (dJ (dg e) (dR I.ok.nW z)) (eQ _)
 .rcases cW.mp (I.m8 b hfs)with z|z
  .exact(hf b hb).2.1 z
  .exact(hf b hb).2.2.1 z
 .have Zr:(ix[i]?).map (λo=>o.bind λi=>(Y[i]?).join)=Fa (Fa v):=by have z:(Ov ix Y)[i]?=Fa (Fa v):=e2;unfold Ov at z;rw[df]at z;exact z
  cases q:ix[i]? with
  | none=>rw[q]at Zr;cases Zr
  | some o=>
   rw[q]at Zr;cases o with
   | none=>cases Zr
   | some j=>
    have Zs:(Y[j]?).join=Fa v:=cY Zr;have e4:Y[j]?=Fa (Fa v):=by
     cases r:Y[j]? with
     | none=>rw[r]at Zs;cases Zs
     | some w=>rw[r]at Zs;exact eE Fa Zs
    obtain⟨n1,n2⟩:=S.at_ i j x q e1;obtain⟨m,hm,hl⟩:=I.loc;have hk:=S.fre _ (vw n2) rfl;have hv:Uu X.env.scope x:=by
     rcases hk with z|z
     .exact .inr (.inl z)
     .exact .inr (.inr z)
    obtain⟨u,ru,lk⟩:=hl j x v n1 e4 hv;refine⟨u,ru,?_⟩;have hk':X.env.kindOf x=Fa .cell\/X.env.kindOf x=Fa .free:=hk;rcases lk with⟨z,_⟩|⟨_,c,hc,hcell⟩
    .rcases hk' with y|y<;>(rw[y]at z;cases z)
    .obtain⟨c',hc'⟩:=Ii (env:=X.env) (acc:=[]) n2;have:=sub hc';rw[hc]at this;cases this;refine .inr ⟨?_,c,hc',hcell.keeps k⟩;show(relabel scope X.env).names.lookup x=Fa .cell\/(relabel scope X.env).names.lookup x=Fa .free;have e:(relabel scope X.env).names.lookup x=(scope.names.lookup x).map λk=>if (k==NameKind.free&&X.env.scope.kind==.function&&X.env.kindOf x==Fa .cell)then NameKind.cell else k:=uy
     rw[e,n2];simp only[jL];split
     .exact .inl rfl
     .exact .inr rfl
 .obtain⟨v,q⟩:=I.cell x c (sub e);exact⟨v,q.keeps k⟩
 .obtain⟨e,n,ne,nf,d⟩:=I.pin p (by simpa using hp);refine⟨k _ _ e,n,dC (dJ (dg e) hC),λz=>?_,d⟩;rcases cW.mp (I.m8 p.1 z)with y|y
  .exact ne y
  .exact nf y
 .show(Ov ix Y).length=N'.length;unfold Ov;rw[cO];exact S.len
end
section
variable {prog:Pg}{w:Wo}{A:Ar}{R:Result→Sd→Prop}{s:Sd}
def xU{X6 XF iter:zn}{XN:T0 zn}{scope:XXc}{pos:Pos}{it acc:Vl}{env:Env}(I:Nat->Sd->Prop){EX:QQX}(hEX:∀e s',EX e s'->notedBy (Tk prog w) A env (λx s'=>R (.error x) s') e s') (turn:∀n s,I n s->pi (Tk prog w) A (pyNext it) (λr s₁=>match r with
   | none=>R (.ok .next) s₁
   | some v=>pi (Tk prog w) A (XXh XF it v) (λ_ s₁=>pi (Tk prog w) A (assign XF env v) (λ_ s₂=>
     pi (Tk prog w) A (forIn XN pc λc r=>if r=pc then do let ok<-isTrue c env (wp c env);pure (ForInStep.yield ok)else pure (ForInStep.yield r)) (λok s₃=>
      if ok=pc then pi (Tk prog w) A (wp X6 env) (λx s₄=>
       pi (Tk prog w) A (call (.builtin "list.append") [acc,x]) (λ_ s₅=>∃m,m<n/\I m s₅) (λ_ _=>False) s₄) EX s₃
      else ∃m,m<n/\I m s₃) (λ_ _=>False) s₂) (λ_ _=>False) s₁) (λ_ _=>False) s₁) (λ_ _=>False) s)
  (n:Nat) (h:I n s):
  XXi (Tk prog w) A (.compLoop (.ListComp X6 [⟨XF,iter,XN,0⟩] scope pos) 0 it acc env) R s:=by
 refine codeAny_loop rfl I (λn s hI=>?_) n h;show pi _ A ((compTurn (.ListComp X6 [⟨XF,iter,XN,0⟩] scope pos) 0 it acc env).onRaise (λx=>do noteFrame x env;theTreesLotGoes x)) _ _ s;refine wpAny_noted ?_;rw[compTurn_list];refine cP (gY (cP (dW (turn n s hI) (λr s₁ h₁=>?_) λ_ _ h'=>h'.elim)));cases r with
 | none=>exact cZ h₁
 | some v=>
  refine cP (dW h₁ (λ_ s₁' h₁'=>?_) λ_ _ h'=>h'.elim);refine cP (dW h₁' (λ_ s₂ h₂=>cP (dW h₂ (λok s₃ h₃=>?_) λ_ _ h'=>h'.elim)) λ_ _ h'=>h'.elim);cases ok with
  | false=>exact cZ ⟨rfl,h₃⟩
  | true=>exact cP (cP (dW h₃ (λx s₄ h₄=>cP (dW h₄ (λ_ s₅ h₅=>cZ (cZ ⟨rfl,h₅⟩)) λ_ _ h'=>h'.elim)) hEX))
end
def PF(X:Cx)(XN:T0 zn)(t:TT):Prop:=
 ∀(Xc:QQY) (s:Sd) (Y:St) (H:Hp) (Q:Bool->Hp->Prop),Inv X Xc Y H s->t Y H Q->
  pi (Tk X.prog X.w) X.A (forIn XN pc λc r=>if r=pc then do let ok<-isTrue c X.env (wp c X.env);pure (ForInStep.yield ok)else pure (ForInStep.yield r)) (TP X Xc Y Q) X.xe s
def Uv:TT:=λ_ H Q=>Q pc H
def SR:PF X [] Uv:=λ_ _ _ H _ I h=>wpAny_tests_nil ⟨H,I,h⟩
def RA(h:PT X c t):PF X [c] t:=λXc s Y H Q I q=>wpAny_tests_one (h Xc s Y H Q I q)
def QH(ix:T0 (Option Nat))(g:TG)(tt:TT)(te:TE)(Y:St)(J:It)(Q:VK)(H:Hp):Prop:=
 ∃W:Nat->Nat->T0 V->St->Hp->Prop,(∃m,W 0 m [] (Ov ix Y) H)/\∀i m ys σ' H,W i m ys σ' H->
  (J.stop i H/\ys.length<=Ch/\∀D,H D=Db->Q (.ref D) (upd H D (.lst ys)))\/
  (J.go i H/\ys.length<Ch/\∀x H',J.oS i H x H'->g x σ' H' λσ2 H2=>tt σ2 H2 λb H3=>if b=pc then te σ2 H3 λy H4=>∃m',m'<m/\W (i+1) m' (ys++[y]) σ2 H4 else ∃m',m'<m/\W (i+1) m' ys σ2 H3)
def K9(ix:T0 (Option Nat))(wi:TI)(g:TG)(tt:TT)(te:TE):TE:=λY H Q=>wi Y H λJ H1=>QH ix g tt te Y J Q H1
variable {tg iter X6:zn}{XN:T0 zn}{g:TG}{tt:TT}{te:TE}{J:It}{it:Uf}{tn:Nat→No→Prop}{Q:VK}
section
variable {s:Sd}
def BG{XP:Uf->Sd->Hp->QXQ->QQY->St->Vl->Sd->Prop}{RR:Vl->Uf->Result->Sd->Prop}{E:QQX}(hc:X.calm=pc)(S:sC X scope ix N')(I:Inv X Xc Y H s)(T:F4 X.prog X.w X.K tg J fp it tn)(st:tn 0 s.heap)(hf:∀b∈fp,AS X Xc H b) (hg:∀C s0 H0 ex,PG (X.comp scope N' C s0 H0 ex) tg g) (ht:∀C s0 H0 ex,PF (X.comp scope N' C s0 H0 ex) XN tt) (he:∀C s0 H0 ex Xc s Y H Q,Inv (X.comp scope N' C s0 H0 ex) Xc Y H s->te Y H Q->pi (Tk X.prog X.w) X.A (wp X6 (X.comp scope N' C s0 H0 ex).env) (EP (X.comp scope N' C s0 H0 ex) Xc Y Q) (XP C s0 H0 ex Xc Y) s) (hx:∀C D e s',s.heap.objs.size<=C->(∃Yf σ',(∀b∈fp,∃o,(b,o)∈Yf)/\XP C s H fp Yf σ' e s')->notedBy (Tk X.prog X.w) X.A (compEnvC scope (A0 X.env scope.names []) C X.env) (λx s'=>RR D C (.error x) s') e s') (hw:QH ix g tt te Y J Q H) (Xh:∀D C s' H' m,s.heap.objs.size<=C->H' C=Db->s'.heap.Ns C m->Inv X Xc Y H' s'->Q (.ref D) H'->RR (.ref D) C (.ok .next) s'):
  pi (Tk X.prog X.w) X.A (newList []) (λacc s₃=>pi (Tk X.prog X.w) X.A (newFunctionEnv scope X.env.globals (A0 X.env scope.names []) [] X.env.qual Db .none (Fa X.env)) (λXX s₄=>
   XXi (Tk X.prog X.w) X.A (.compStart (.ListComp X6 [⟨tg,iter,XN,0⟩] scope pos) 0 (.ref it) acc {XX with scope:=relabel scope X.env}) (RR acc XX.locals) s₄) E s₃) E s:=by
 obtain⟨W,⟨m0,w0⟩,turn⟩:=hw;have Xr:∀b∈fp,b<s.heap.objs.size:=λb hb=>by obtain⟨o,e,_⟩:=T.obj _ _ st b hb;exact dg e
 refine fQ (wpAny_newFunctionEnv S.oo (by intro y hy;simp at hy) (λh₁ YW Zt=>?_) S.kind);dsimp only at YW Zt ⊢;generalize hH2:s.heap.push {cls:=.type "list",dict:=none,data:=.seq ([]:T0 Vl).toArray}=H2 at YW Zt ⊢;have hC:H2.objs.size=s.heap.objs.size+1:=by rw[<-hH2,fg]
 have hDC:s.heap.objs.size≠H2.objs.size:=by rw[hC];exact dC (fB _)
 have Zu:s.heap.objs.size<=H2.objs.size:=by rw[hC];exact gM _
 have ZL:∀b,b<s.heap.objs.size->b≠H2.objs.size/\b≠s.heap.objs.size:=λb hb=>⟨by rw[hC];exact dC (fR hb),dC hb⟩;have XI:∀b o,s.heap.get? b=Fa o->h₁.get? b=Fa o:=λb o e=>Zt.extBut b o (ZL b (dg e)).1 (cU _ (hH2 ▸ cU _ e));have hacc:h₁.get? s.heap.objs.size=Fa {cls:=.type "list",data:=.seq ([]:T0 Vl).toArray 0}:=Zt.extBut _ _ hDC (cU _ (hH2 ▸ dA _ rfl));have YW:h₁.Ns H2.objs.size (λ_=>Db):=YW;have Yr:∀{H':Hp} {pl:QQY},(∀b∈fp,H' b=Db)->(∀p∈pl,p.1∉fp)->∀b∈fp,AS (X.comp scope N' H2.objs.size s H fp) (X.pn++Xc++pl) H' b:=λ{H' pl} hn Xt b hb=>by
  refine⟨hn b hb,dC (dJ (Xr b hb) Zu),λz=>?_,.inl hb,λx c e=>(hf b hb).2.2.2.2.1 x c (S.sub I.ok e),λp hp=>?_⟩
  .rcases cW.mp (I.m8 b z)with y|y
   .exact(hf b hb).2.1 y
   .exact(hf b hb).2.2.1 y
  .rcases dI.mp (show p∈X.pn++Xc++pl by simpa using hp)with z|z
   .exact(hf b hb).2.2.2.2.2 p z
   .intro q;exact Xt p z (q ▸ hb)
 have loop:∀s₃:Sd,s₃={s with heap:=h₁,toks:=s.toks+([]:T0 (Str×Vl)).length}->
   XXi (Tk X.prog X.w) X.A (.compLoop (.ListComp X6 [⟨tg,iter,XN,0⟩] scope pos) 0 (.ref it) (.ref s.heap.objs.size) (compEnvC scope (A0 X.env scope.names []) H2.objs.size X.env))
    (RR (.ref s.heap.objs.size) H2.objs.size) s₃:=by
  rintro s₃ rfl
  refine xU (hEX:=λe s' z=>hx _ _ e s' Zu z) (λn s'=>∃(i:Nat) (ys:T0 V) (us:T0 Vl) (k:Nat) (σ':St) (H':Hp),Inv (X.comp scope N' H2.objs.size s H fp) (X.pn++Xc) σ' H' s'/\tn i s'.heap/\(∀b∈fp,H' b=Db)/\H' s.heap.objs.size=Db/\
   s'.heap.get? s.heap.objs.size=Fa {cls:=.type "list",data:=.seq us.toArray k}/\qE ys us/\ys.length<=Ch/\W i n ys σ' H') ?_ m0
   ⟨0,[],[],0,Ov ix Y,H,I.comp S hf Xr Zu XI YW,T.keep _ _ _ st λb _ o e=>XI b o e,λb hb=>(hf b hb).1,I.mK.fresh (c9 _),hacc,.nil,d9 _,w0⟩
  rintro n s' ⟨i,ys,us,k,σ',H',I',X4,fr',hD',XW,rv',hz',w'⟩
  have cellD:∀x c,(X.comp scope N' H2.objs.size s H fp).env.cells.lookup x=Fa c->c≠s.heap.objs.size:=λx c e=>by obtain⟨v,q⟩:=I.cell x c (S.sub I.ok e);exact dC q.lt
  have pinD:∀p∈X.pn++Xc,p.1≠s.heap.objs.size:=λp hp=>dC (dg (I.pin p hp).1);have dfs:s.heap.objs.size∉(X.comp scope N' H2.objs.size s H fp).fs:=λz=>by
   rcases cW.mp (I.m8 _ z)with y|y
   .exact absurd I.lt (by rw[<-y];exact eQ _)
   .exact I.oN (c9 _) y
  have dfp:s.heap.objs.size∉fp:=λz=>absurd (Xr _ z) (eQ _);have IpD:Inv (X.comp scope N' H2.objs.size s H fp) (X.pn++Xc++[(s.heap.objs.size,{cls:=.type "list",data:=.seq us.toArray k})]) σ' H' s':=I'.nK λp hp=>by
   rcases dI.mp hp with z|z
   .exact I'.pin p (dY _ z)
   .have e:p=(s.heap.objs.size,{cls:=.type "list",data:=.seq us.toArray k}):=by simpa using z
    subst e;exact⟨XW,hD',hDC,dfs,λv z=>by cases z⟩
  have pfp:∀p∈[((s.heap.objs.size,{cls:=.type "list",data:=.seq us.toArray k}):Uf×Obj)],p.1∉fp:=λp hp=>by
   have e:p=(s.heap.objs.size,{cls:=.type "list",data:=.seq us.toArray k}):=by simpa using hp
   subst e;exact dfp
  rcases turn i n ys σ' H' w' with⟨stop,hz,q⟩|⟨go,hz,step⟩
  .refine dW (T.done (X.comp scope N' H2.objs.size s H fp) rfl rfl rfl hc i _ s' σ' H' (λ_ _=>False) IpD (Yr fr' pfp) X4 stop) (λr s1 ⟨hr,I1⟩=>?_) λ_ _ z=>z;subst hr;show RR _ _ _ _;have Z7:s1.heap.get? s.heap.objs.size=Fa {cls:=.type "list",data:=.seq us.toArray k}:=(I1.pin (s.heap.objs.size,{cls:=.type "list",data:=.seq us.toArray k}) (by simp)).1;obtain⟨m,hnC,_⟩:=id I1.loc;refine Xh _ _ s1 (upd H' s.heap.objs.size (.lst ys)) m Zu (by rw[qa (dH hDC)];exact I1.free) hnC ?_ (q _ hD');have nD:∀b o,s.heap.get? b=Fa o->b≠s.heap.objs.size:=λb o e=>(ZL b (dg e)).2;have hD0:H s.heap.objs.size=Db:=I.mK.fresh (c9 _);refine I.oM (s':=s1) (ch:=fp) I1.os ⟨λb o e n1 n2 n3=>?_,λb o e n1 n2 n3=>?_,λb o e n1 n2=>?_,λb o e n1=>?_,λb xs e=>?_,λb o u e=>?_,λb ps e=>?_⟩ (λb u e=>?_) I1.bare λb hb=>⟨(hf b hb).2.2.2.1,(hf b hb).2.1,(hf b hb).2.2.2.2.1,(hf b hb).2.2.2.2.2⟩
   .exact I1.base.keep b o e n1 n2 n3
   .exact I1.base.slot b o e n1 n2 n3
   .rw[qa (nD b o e)];exact I1.base.free b o e n1 n2
   .exact I1.base.there b o e n1
   .rw[qa (qS e hD0)];exact I1.base.ny b xs e
   .rw[qa (qS e hD0)];exact I1.base.nu b o u e
   .obtain⟨more,z⟩:=I1.base.nC b ps e;exact⟨more,by rw[qa (qS e hD0)];exact z⟩
   .by_cases hb:b=s.heap.objs.size
    .subst hb;rw[ql]at e;cases e;exact⟨hz,us,k,rv',Z7⟩
    .rw[qa hb]at e;exact(I1.mK b u e).ng (λc v _ z=>z) (λc z=>by rw[qa (qS z hD')];exact z) (λc xs z=>by rw[qa (qS z hD')];exact z)
  .refine dW (T.item (X.comp scope N' H2.objs.size s H fp) rfl rfl rfl hc i _ s' σ' H' (λ_ _=>False) IpD (Yr fr' pfp) X4 go) (λr s1 ⟨v,hr,h4⟩=>?_) λ_ _ z=>z;subst hr;show pi _ _ (XXh tg (.ref it) v) _ _ s1;refine dW h4 (λ_ s2 zz=>?_) λ_ _ z=>z;obtain⟨x,H5,I5,r5,y5,Zb,fr5⟩:=zz;have I5':=I5.pinned (Yr fr5 pfp) (T.obj _ _ Zb);refine dW (hg H2.objs.size s H fp _ s2 σ' H5 x v _ I5' r5 (step x H5 y5)) (λ_ s3 ⟨σ6,H6,I6,q6⟩=>?_) λ_ _ z=>z;refine dW (ht H2.objs.size s H fp _ s3 σ6 H6 _ I6 q6) (λok s4 ⟨H7,I7,q7⟩=>?_) λ_ _ z=>z;have ZM:∀{σ7:St} {H7:Hp} {s7:Sd},Inv (X.comp scope N' H2.objs.size s H fp) (X.pn++Xc++[(s.heap.objs.size,{cls:=.type "list",data:=.seq us.toArray k})]++B2 fp s2.heap) σ7 H7 s7->
     tn (i+1) s7.heap/\(∀b∈fp,H7 b=Db)/\H7 s.heap.objs.size=Db/\s7.heap.get? s.heap.objs.size=Fa {cls:=.type "list",data:=.seq us.toArray k}:=λ{σ7 H7 s7} K7=>by
    have pd:=K7.pin (s.heap.objs.size,{cls:=.type "list",data:=.seq us.toArray k}) (by simp);refine⟨T.keep _ _ _ Zb λb hb o e=>(K7.pin (b,o) (dY _ (dY _ (vD hb e)))).1,λb hb=>?_,pd.2.1,pd.1⟩;obtain⟨o,e,d⟩:=T.obj _ _ Zb b hb;exact(K7.pin (b,o) (dY _ (dY _ (vD hb e)))).2.1
   cases ok with
   | false=>rw[cS dh]at q7 ⊢;obtain⟨m',hm,w7⟩:=q7;obtain⟨t7,f7,d7,o7⟩:=ZM I7;exact⟨m',hm,i+1,ys,us,k,σ6,H7,I7.mR.mR,t7,f7,d7,o7,rv',hz',w7⟩
   | true=>
    rw[cV rfl]at q7 ⊢;refine dW (he H2.objs.size s H fp _ s4 σ6 H7 _ I7 q7) (λyv s5 ⟨y,H8,I8,r8,m',hm,w8⟩=>?_) λ_ _ z=>⟨_,_,λb hb=>(by
     obtain⟨o,e,_⟩:=T.obj _ _ Zb b hb;exact⟨o,dY _ (vD hb e)⟩),z⟩
    obtain⟨t8,f8,d8,o8⟩:=ZM I8;have hsz:us.toArray.size<=Ch:=by rw[de,<-rv'.length];exact hz'
    refine append_at (hsz:=hsz) o8 λh' sb od=>?_;refine⟨m',hm,i+1,ys++[y],us++[yv],k+1,σ6,H8,?_,T.keep _ _ _ t8 λb hb o e=>(sb.2 b λq=>dfp (q ▸ hb)).trans e,f8,d8,?_,rv'.append (.cons r8 .nil),?_,w8⟩
    .exact I8.mR.mR.turned (it:=s.heap.objs.size) (t':=s5.toks) (λb o hb e=>(sb.2 b hb).trans e) d8 hDC (.inr (c9 _)) cellD (by simpa using pinD)
    .rw[od,List.push_toArray]
    .rw[cR,dG];exact hz
 exact codeAny_compStart_list (loop _ rfl) (T.self _ 0 _ _ _ (T.keep _ _ _ st λb _ o e=>XI b o e) (loop _ rfl))
def Inv.letGo{C:Uf}(I:Inv X Xc Y H s)(I':Inv X Xc σ' H' s')(hC:s.heap.objs.size<=C)(hn:H' C=Db)(hs:Heap.SameBut C s'.heap h'):Inv X Xc σ' H' {s' with heap:=h'}:=
 I'.turned (t':=s'.toks) (it:=C) (λb o hb e=>(hs.2 b hb).trans e) hn (λz=>absurd (dJ I.lt hC) (by rw[z];exact eQ _)) (.inr (dR I.sz hC))
  (λx c e z=>by
   obtain⟨v,r⟩:=I.cell x c e;exact absurd (dJ r.lt hC) (by rw[z];exact eQ _))
  (λp hp z=>absurd (dJ (dg (I.pin p hp).1) hC) (by rw[z];exact eQ _))
def OC(hc:X.calm=pc)(S:sC X scope ix N')(hi:PI X tg iter wi)(hg:∀C s0 H0 ex,PG (X.comp scope N' C s0 H0 ex) tg g)(ht:∀C s0 H0 ex,PF (X.comp scope N' C s0 H0 ex) XN tt)(he:∀C s0 H0 ex,PE (X.comp scope N' C s0 H0 ex) X6 te) (hs:∀x,AT iter X.env x=pure x:=by intro _;rfl):PE X (.ListComp X6 [⟨tg,iter,XN,0⟩] scope pos) (K9 ix wi g tt te):=by
 intro Xc s Y H Q I h;rw[eval_ListComp];refine jx (use:=none) rfl hs (yC (S.cells I.ok)) S.kind S.nam (dW (hi Xc s Y H _ I h) (λxv s₁ h₁=>dW h₁ (λitv s₂ h₂=>?_) λ_ _ e=>e) λ_ _ e=>e);obtain⟨it,fp,tn,J,H2,e,I2,T,Xk,f2,hw⟩:=h₂;subst e;refine BG (RR:=λacc C=>compPost (Tk X.prog X.w) X.A X.xe Db (EP X Xc Y Q) acc C) hc S I2 T Xk f2 hg ht (XP:=λ_ _ _ _ _ _ _ _=>False) he (λ_ _ _ _ _ z=>by obtain⟨_,_,_,z⟩:=z;exact z.elim) hw λD C s' H' m hCs hCn hn I3 q=>?_;exact⟨m,hn,λh' ZN=>⟨.ref D,_,I2.letGo I3 hCs hCn ZN,rfl,q⟩⟩
def HR{i:Nat}{x:Str}{px YX:Pos}(hN:X.N.Nodup)(hix:X.N[i]?=Fa x)(hx:La X.env.scope x)(hc:X.calm=pc)(S:sC X scope ix N')(hi:PI X tg iter wi)(hg:∀C s0 H0 ex,PG (X.comp scope N' C s0 H0 ex) tg g)(ht:∀C s0 H0 ex,PF (X.comp scope N' C s0 H0 ex) XN tt) (he:∀C s0 H0 ex,PE (X.comp scope N' C s0 H0 ex) X6 te) (YG:ZB (.ListComp X6 [⟨tg,iter,XN,0⟩] scope pos) (Fa (.Name x px)) YX.line X.env=pure pc) (hf:MR X x:=by first|exact .inl rfl|exact .inr rfl|assumption) (hs:∀x,AT iter X.env x=pure x:=by intro _;rfl):
  PS X (.Assign [.Name x px] (.ListComp X6 [⟨tg,iter,XN,0⟩] scope pos) YX) (RD (K9 ix wi g tt te) (Lz i)):=by
 intro Xc s Y H D I h;rw[exec_Assign_Name_used _ _ _ _ YG];refine cP (gY (cP ?_));show pi _ X.A (do let _<-comprehension (.ListComp X6 [⟨tg,iter,XN,0⟩] scope pos) scope X.env _ (newList []) lf (wp iter X.env) (Fa (assign (.Name x px) X.env))) _ _ s;refine cP (dW (jx (use:=some (assign (.Name x px) X.env)) (Q:=λ_ s'=>SP X Xc D .next s') rfl hs (yC (S.cells I.ok)) S.kind S.nam
  (dW (hi Xc s Y H _ I h) (λxv s₁ h₁=>dW h₁ (λitv s₂ h₂=>?_) λ_ _ e=>e) λ_ _ e=>e)) (λ_ s' hq=>cZ (cZ hq)) λ_ _ e=>e)
 obtain⟨it,fp,tn,J,H2,e,I2,T,Xk,f2,hw⟩:=h₂;subst e;refine BG (RR:=λacc C=>compPost (Tk X.prog X.w) X.A X.xe (Fa (assign (.Name x px) X.env)) (λ_ s'=>SP X Xc D .next s') acc C) hc S I2 T Xk f2 hg ht (XP:=λ_ _ _ _ _ _ _ _=>False) he (λ_ _ _ _ _ z=>by obtain⟨_,_,_,z⟩:=z;exact z.elim) hw λDa C s' H' m hCs hCn hn I3 q=>?_;show pi _ X.A (assign (.Name x px) X.env (.ref Da)) _ _ _;refine kT (DT I3 hN hix hx (v:=.ref Da) rfl (λs4 I4 ⟨a,sb,ha⟩=>?_) hf);have ca:C≠a:=λz=>by
  rcases ha with y|y
  .exact absurd (dJ I2.lt hCs) (by rw[z,y];exact eQ _)
  .obtain⟨v,r⟩:=I2.cell x a y;exact absurd (dJ r.lt hCs) (by rw[z];exact eQ _)
 exact⟨m,hn.sameBut sb ca,λh' ZN=>⟨_,H',I2.letGo I4 hCs hCn ZN,q⟩⟩
end
def AQ:typeLookup (.type "list") "__getattr__"=pure Db:=by rw[typeLookup_type,jV];kernel_rfl
def EB:typeLookup (.type "list") "keys"=pure Db:=by rw[typeLookup_type,jV];kernel_rfl
section
variable {prog:Pg}{w:Wo}{A:Ar}{E:QQX}
def MP(a:Uf)(u:Tok)(its:Array Vl)(n:Nat)(sl:Array (Option Vl)):
  Meets (Builtin.«object.__getattribute__» ⟨[.ref a,.str "keys" u],[]⟩) λA R s=>s.heap.get? a=Fa ⟨.type "list",Db,.seq its n,sl⟩/\A.handled=Db/\∀h' tk e,Heap.NewAttrErr s.heap h' e (.ref a) "keys"->R (.error (.ref e)) {s with heap:=h',toks:=tk}:=
 Meets.of_wp λprog w A R s hs=>by
  obtain⟨hp,g,d,tk,os⟩:=s;obtain⟨h1,h2,h3⟩:=hs;have hT:(⟨hp,g,d,tk,os⟩:Sd).TypeIs (.ref a) "list":=⟨_,h1,rfl⟩;have f1:=EB;unfold Builtin.«object.__getattribute__»
  repeat (any_goals(first|assumption|wp_step))
  exact wpAny_raiseAttrError h2 h3 (attrMsg_fits (by decide+kernel) (by decide))
def EY{s:Sd}{a:Uf}{its:Array Vl}{n:Nat}{sl:Array (Option Vl)}{Q:Option Vl->Sd->Prop}(ha:s.heap.get? a=Fa ⟨.type "list",Db,.seq its n,sl⟩)(hA:A.handled=Db) (h:∀h' tk,(∀b o,s.heap.get? b=Fa o->h'.get? b=Fa o)->Q Db {s with heap:=h',toks:=tk}):pi (Tk prog w) A (getAttr? (.ref a) "keys") Q E s:=by
 obtain⟨hp,g,d,tk,os⟩:=s;have hT:(⟨hp,g,d,tk,os⟩:Sd).TypeIs (.ref a) "list":=⟨_,ha,rfl⟩;have f1:=sub_AttributeError;have f3:=ic.lookup;have f4:=ic.bind (.ref a);have f5:=AQ;unfold getAttr? getAttrBy? getAttrBy
 repeat (any_goals(first|assumption|((with_reducible show pi _ _ (call (Value.builtin "list.__getattribute__") _ _) _ _ _);refine jl ic hT F.entry_list_ga (F.args_list_getattribute_2 _ _) (MP a _ its n sl) ⟨ha,hA,λh' tk' e hx=>?_⟩)|wp_step))
 obtain⟨t',u',he⟩:=hx.there;show pi _ _ (getattributeRaised _ _ _ _ _ _ _) _ _ _;unfold getattributeRaised
 repeat (any_goals(first|assumption|wp_step))
 all_goals first|exact h _ _ hx.keeps|skip
end
def AC:entryFor table "dict.update.loop"=Fa Builtin.«dict.update.loop»:=entryFor_of_tree (by kernel_rfl)
def vW:plainId "dict.update.loop"=pc:=by decide+kernel
section
variable {prog:Pg}{w:Wo}{A:Ar}{E:QQX}{R:Result→Sd→Prop}{κ:Type}[DecidableEq κ]{knd:PySem.KeyKind prog w κ}
 {I:Uf} {fp wr:QXQ} {G:Array GenState->Array GenState->Prop} {P:Nat->Vl->Prop} {St:Nat->Sd->Prop}
def Ol{s:Sd}{t:Uf}{x y:Vl}{Q:T0 Vl->Sd->Prop}(h:s.heap.IsTuple t #[x,y])(q:Q [x,y] s):pi (Tk prog w) A (Builtin.Dict.pairItems (.ref t)) Q E s:=by
 obtain⟨⟨oc,od,oda,Ya⟩,h1,h2,n,h3⟩:=h;simp only at h2 h3;subst h2 h3;have hT:s.TypeIs (.ref t) "tuple":=⟨_,h1,rfl⟩;obtain⟨hp,g,d,tk,os⟩:=s;unfold Builtin.Dict.pairItems
 repeat (any_goals(first|assumption|wp_step))
def Ko{all:T0 (κ×Vl)}(W:WalksS prog w A.in1 I fp wr G all.length P St)(d:Uf)(ZK:d∉fp)(kv:Nat->Vl)(tp:Nat->Uf)(hP:∀i v,P i v->v=.ref (tp i))(hw:∀j,j<all.length->tp j∉wr/\tp j≠d) (hk:∀j p,all[j]?=Fa p->knd.is p.1 (kv j)=pc) (hz:all.length<=Ch):
  ∀(k i:Nat) (z:Int) (s:Sd),all.length - i=k->i<=all.length->St i s->(∀j p,all[j]?=Fa p->s.heap.IsTuple (tp j) #[kv j,p.2])->s.heap.DictOf knd d (merged [] (all.take i))->
   (∀s',Moved (d::wr) G s s'->s'.heap.DictOf knd d (merged [] all)->R (.ok (.ret .none)) s')->XXi (Tk prog w) A (.builtin "dict.update.loop" ⟨[.ref d,.ref I,.int z 0,.none],[]⟩) R s:=by
 have hdw:d∉wr:=λh=>ZK (W.sub _ h);have YY:∀b∈wr,b∈d::wr:=λb hb=>dw _ hb;intro k;induction k with
 | zero=>
  intro i z s hk0 hi XA hT hD hR;have Zc:i=all.length:=by omega
  subst Zc;refine gJ AC ?_;rw[gU vW _];show pi _ A.in1 (pyNext (.ref I)>>=_) _ _ s;refine cP (W.done s _ _ XA λs' hm=>?_);show pi _ A.in1 (Builtin.Dict.addKeywords d []>>=_) _ _ s';refine cP (cZ (cZ (hR s' (hm.mono YY) ?_)));rw[eY]at hD;obtain⟨o,es,ep,ho,rest⟩:=hD;exact⟨o,es,ep,hm.heap d _ hdw ho,rest⟩
 | succ k ih=>
  intro i z s hk0 hi XA hT hD hR;have Xr:i<all.length:=by omega
  have Yu:all[i]?=Fa all[i]:=cQ Xr;refine gJ AC ?_;rw[gU vW _];show pi _ A.in1 (pyNext (.ref I)>>=_) _ _ s;refine cP (W.item i s _ _ Xr XA λv s' hPv Z8 hm=>?_);obtain rfl:=hP i v hPv;have hT':∀j p,all[j]?=Fa p->s'.heap.IsTuple (tp j) #[kv j,p.2]:=λj p e=>by obtain⟨o,h1,h2⟩:=hT j p e;exact⟨o,hm.heap _ _ (hw j (cT.mp e).1).1 h1,h2⟩
  have hD':s'.heap.DictOf knd d (merged [] (all.take i)):=by obtain⟨o,es,ep,ho,rest⟩:=hD;exact⟨o,es,ep,hm.heap d _ hdw ho,rest⟩
  show pi _ A.in1 (xz [Value.ref (tp i)] _>>=_) _ _ s';refine cP (eM (cP (wpAny_tryCatch (Ol (hT' i _ Yu) ?_))));show pi _ A.in1 (xz [kv i,all[i].2] (dictSet d (kv i) all[i].2)) _ _ s';refine eM ?_;unfold dictSet;refine eM (cP (knd.pyHash (hk i _ Yu) ?_));have hl:(merged [] (all.take i)).length<=Ch:=by have:=merged_length_le [] (all.take i);rw[fk]at this;simp only[dB]at this;omega
  refine wpAny_dictSetHashed_pairs (hsz:=hl) (hk i _ Yu) hD' λh' dd hs=>?_;rw[<-merged_take_succ [] all i _ Yu]at dd;refine cZ ⟨ko vW _,ih (i+1) _ _ (by omega) Xr (W.frame _ s' _ _ Z8 (gM _) λb hb o e=>?_) (λj p e=>?_) dd λZ2 Z9 hD''=>?_⟩
  .rw[hs.2 b (λz:b=d=>ZK (z ▸ hb))];exact e
  .obtain⟨o,h1,h2⟩:=hT' j p e;refine⟨o,?_,h2⟩;show h'.get? (tp j)=Fa o;rw[hs.2 _ (hw j (cT.mp e).1).2];exact h1
  .refine hR Z2 (mx W.gtrans ((hm.mono YY).then_heap (gM _) λb o hb e=>?_) Z9) hD'';rw[hs.2 b (λz:b=d=>hb (by rw[z];exact dD))];exact e
end
section
variable {prog:Pg}{w:Wo}{A:Ar}{E:QQX}{κ:Type}[DecidableEq κ]{knd:PySem.KeyKind prog w κ}{s:Sd}
def A8{l:Uf}{its:Array Vl}{n:Nat}{sl:Array (Option Vl)}{all:T0 (κ×Vl)}{Q:QQX}(kv:Nat->Vl)(tp:Nat->Uf)(hh:A.handled=Db)(hl:s.heap.get? l=Fa ⟨.type "list",Db,.seq its n,sl⟩) (hits:∀(j:Nat) (v:Vl),its[j]?=Fa v->v=.ref (tp j)) (Xi:its.size=all.length) (hT:∀j p,all[j]?=Fa p->s.heap.IsTuple (tp j) #[kv j,p.2]) (hk:∀j p,all[j]?=Fa p->knd.is p.1 (kv j)=pc) (hz:all.length<=Ch) (h:∀h' tk,h'.DictOf knd s.heap.objs.size (merged [] all)->(∀b o,s.heap.get? b=Fa o->h'.get? b=Fa o)->Q (.ref s.heap.objs.size) {s with heap:=h',toks:=tk}):
  pi (Tk prog w) A (call (.type "dict") [.ref l]) Q E s:=by
 refine callType_codes (Q₁:=λobj s₁=>obj=Value.ref s.heap.objs.size/\s₁={s with heap:=s.heap.push {cls:=.type "dict",data:=.dict #[]}}) PySem.F.kt_called_dict (PySem.F.kt_typeCall_dict_1 _) F.entry_dict_init (kt_code_dict_new _ ⟨rfl,rfl⟩) ?_
 rintro obj s₁ ⟨rfl,rfl⟩
 have YU:(s.heap.push {cls:=.type "dict",data:=.dict #[]}).DictOf knd s.heap.objs.size []:=Heap.DictOf.new s.heap;have hl':(s.heap.push {cls:=.type "dict",data:=.dict #[]}).get? l=Fa ⟨.type "list",Db,.seq its n,sl⟩:=cU _ hl;have hTl:Shared.TypeIs {s with heap:=s.heap.push {cls:=.type "dict",data:=.dict #[]}} (.ref l) "list":=⟨_,hl',rfl⟩;have lsz:l<s.heap.objs.size:=dg hl;refine⟨YU.typeIs,F.args_dict_init_2 _ _,?_⟩;unfold Builtin.«dict.__init__»;refine cP ?_;unfold Builtin.Dict.selfAndRest;refine cP (wpAny_notOrdered_dict YU.typeIs ?_);show pi _ _ (pure (s.heap.objs.size,[Value.ref l])) _ _ _;refine cZ ?_;show pi _ _ (Builtin.Dict.updateFrom "dict.__init__" s.heap.objs.size (.ref l) [] .none) _ _ _;unfold Builtin.Dict.updateFrom;refine cP (jv hTl ?_);rw[cV (by decide)];refine cP (EY hl' (by simpa using hh) λh' tk keep=>?_);have hl2:h'.IsList l its:=⟨_,keep _ _ hl',rfl,n,rfl⟩;show pi _ _ (rule _>>=_) _ _ _;refine cP (j7 (cP (gN hl2 ?_)));have nd:h'.objs.size>s.heap.objs.size:=by have z:h'.get? s.heap.objs.size=Fa _:=keep _ _ (dA _ rfl);exact dg z
 have hDn:h'.DictOf knd s.heap.objs.size []:=by obtain⟨o,es,ep,ho,rest⟩:=YU;exact⟨o,es,ep,keep _ _ ho,rest⟩
 have hTs:∀j p,all[j]?=Fa p->h'.IsTuple (tp j) #[kv j,p.2]:=λj p e=>by obtain⟨o,h1,h2⟩:=hT j p e;exact⟨o,keep _ _ (cU _ h1),h2⟩
 have XB:l≠h'.objs.size:=dC (ib lsz nd);have W:=(j8 (prog:=prog) (w:=w) (A:=A.in1.in1) (by simpa using hh) h'.objs.size l XB its).toS;rw[Xi]at W;refine cZ ⟨ko vW _,Ko (A:=A.in1) W s.heap.objs.size ?_ kv tp (λi v e=>hits i v e) (λj hj=>?_) hk hz all.length 0 0 _ (by omega) (d9 _) ⟨⟨_,dA _ rfl,rfl,rfl⟩,hl2.push _⟩ (λj p e=>(hTs j p e).push _) ?_ λs' hm hD=>?_⟩
 .simp only[cW,dv,eF,fF];exact⟨dC nd,gD lsz⟩
 .have hj':all[j]?=Fa all[j]:=cQ hj;obtain⟨o,h1,_⟩:=hT j _ hj';have tsz:=dg h1;simp only[cW,dv,eF];exact⟨dC (ib tsz nd),dC tsz⟩
 .obtain⟨o,es,ep,ho,rest⟩:=hDn;exact⟨o,es,ep,cU _ ho,rest⟩
 .obtain⟨h2,g2,d2,t2,o2⟩:=s';have eg:g2=s.gens:=hm.gens;have ed:d2=s.drawn:=hm.drawn;have eo:o2=s.os:=hm.os;subst eg ed eo;refine⟨rfl,h h2 t2 hD λb o e=>?_⟩;have hb:=dg e;refine hm.heap b o ?_ (cU _ (keep _ _ (cU _ e)));simp only[cW,dv,eF,fF];exact⟨dC hb,dC (ib hb nd)⟩
end
def tE{κ:Type}[DecidableEq κ](l:List κ):List κ:=l.foldl (λacc k=>if k∈acc then acc else acc++[k]) []
def ym{κ:Type}[DecidableEq κ](l:List κ)(k:κ):tE (l++[k])=if k∈tE l then tE l else tE l++[k]:=by unfold tE;rw[kY];rfl
def IQ{κ:Type}[DecidableEq κ]:∀l:List κ,(tE l).length<=l.length:=by
 have go:∀(l acc:List κ),(l.foldl (λacc k=>if k∈acc then acc else acc++[k]) acc).length<=acc.length+l.length:=by
  intro l;induction l with
  | nil=>intro acc;simp
  | cons k r ih=>
   intro acc;rw[fT];refine dR (ih _) ?_;split
   .simp only[dU];omega
   .simp only[dU,cR,dB];omega
 intro l;have:=go l []
 simpa [tE]using this
def LQ{κ:Type}[DecidableEq κ](x:κ):∀l:List κ,x∈tE l↔x∈l:=by
 have go:∀(l acc:List κ),x∈l.foldl (λacc k=>if k∈acc then acc else acc++[k]) acc↔x∈acc\/x∈l:=by
  intro l;induction l with
  | nil=>intro acc;simp
  | cons k r ih=>
   intro acc;rw[fT,ih];by_cases h:k∈acc
   .rw[cV h,cW];constructor
    .rintro (z|z)
     .exact .inl z
     .exact .inr (.inr z)
    .rintro (z|z|z)
     .exact .inl z
     .subst z;exact .inl h
     .exact .inr z
   .rw[cS h,dI,cX,cW,or_assoc]
 intro l;have:=go l []
 simpa [tE]using this
def HX{κ:Type}[DecidableEq κ]:∀l:List κ,l.Nodup->tE l=l:=by
 have go:∀(l acc:List κ),(acc++l).Nodup->l.foldl (λacc k=>if k∈acc then acc else acc++[k]) acc=acc++l:=by
  intro l;induction l with
  | nil=>intro acc _;simp
  | cons k r ih=>
   intro acc h;have hk:k∉acc:=λz=>by rw[gi]at h;exact h.2.2 k z k dD rfl
   rw[fT,cS hk,ih]
   .rw[eU];rfl
   .rw[eU];exact h
 intro l h;have:=go l [] (by simpa using h)
 simpa [tE]using this
section
variable {prog:Pg}{w:Wo}{A:Ar}{E:QQX}{R:Result→Sd→Prop}{κ:Type}[DecidableEq κ][BEq κ][LawfulBEq κ]{knd:PySem.KeyKind prog w κ}
 {I:Uf} {fp wr:QXQ} {G:Array GenState->Array GenState->Prop} {P:Nat->Vl->Prop} {St:Nat->Sd->Prop}
def Gf{all:List κ}(W:WalksS prog w A.in1 I fp wr G all.length P St)(S:Uf)(hSf:S∉fp)(hval:∀i v k,P i v->all[i]?=Fa k->knd.is k v=pc/\v.scannable=pc)(hb:all.length+1<Z'):
  ∀(n i:Nat) (s:Sd),all.length - i=n->i<=all.length->St i s->s.heap.SetOf knd S (λx=>decide (x∈tE (all.take i))) (tE (all.take i)).length->
   (∀s',Moved (S::wr) G s s'->s'.heap.SetOf knd S (λx=>decide (x∈tE all)) (tE all).length->R (.ok (.ret .none)) s')->XXi (Tk prog w) A (.builtin "set.update.loop" ⟨[.ref S,.ref I],[]⟩) R s:=by
 have hSw:S∉wr:=λh=>hSf (W.sub _ h);have up:∀b∈wr,b∈S::wr:=λb hb=>dw _ hb;have kept:∀{s s':Sd} {T:κ->Bool} {m:Nat},Moved wr G s s'->s.heap.SetOf knd S T m->s'.heap.SetOf knd S T m:=λhm ⟨o,es,ep,t,ho,rest⟩=>⟨o,es,ep,t,hm.heap S _ hSw ho,rest⟩;intro n;induction n with
 | zero=>
  intro i s h0 hi XA hS hR;obtain rfl:i=all.length:=by omega
  refine gJ ie ?_;rw[gU gv _];rw[eY]at hS;exact cP (W.done s _ _ XA λs' hm=>cZ (hR s' (hm.mono up) (kept hm hS)))
 | succ n ih=>
  intro i s h0 hi XA hS hR;have Xr:i<all.length:=by omega
  have Yu:all[i]?=Fa all[i]:=cQ Xr;refine gJ ie ?_;rw[gU gv _];refine cP (W.item i s _ _ Xr XA λv s' hP Z8 hm=>?_);obtain⟨k1,k2⟩:=hval i v _ hP Yu;have YZ:=kept hm hS;show pi _ A.in1 (xz [v] (setAdd S v)>>=_) _ _ s';refine cP (eM ?_);unfold setAdd;refine eM (cP (knd.pyHash k1 ?_));have room:(tE (all.take i)).length+1<Z':=by have h1:=IQ (all.take i);rw[fk]at h1;omega
  refine wpAny_setAddHashed_of (knd:=knd) (s:={s' with toks:=s'.toks+1}) k1 k2 YZ room λh' hsb hS2=>?_;have et:all.take (i+1)=all.take i++[all[i]]:=by rw[gj,Yu];rfl
  have hSi:h'.SetOf knd S (λx=>decide (x∈tE (all.take (i+1)))) (tE (all.take (i+1))).length:=by
   refine ig hS2 (λx=>?_) ?_
   .rw[et];by_cases Xe:all[i]∈tE (all.take i)
    .rw[ym,cV Xe];by_cases hx:x=all[i]
     .subst hx;simp[Xe]
     .simp[hx]
    .rw[ym,cS Xe];by_cases hx:x=all[i]
     .subst hx;simp
     .simp[hx]
   .rw[et,ym];by_cases Xe:all[i]∈tE (all.take i)
    .rw[cV Xe];simp[Xe]
    .rw[cS Xe];simp[Xe]
  refine cZ ⟨ko gv _,ih (i+1) _ (by omega) Xr (W.frame _ s' _ _ Z8 (gM _) λb hb o e=>?_) hSi λZ2 Z9 hS''=>?_⟩
  .rw[hsb.2 b (λz:b=S=>hSf (z ▸ hb))];exact e
  .refine hR Z2 (mx W.gtrans ((hm.mono up).then_heap (gM _) λb o hb e=>?_) Z9) hS'';rw[hsb.2 b (λz:b=S=>hb (by rw[z];exact dD))];exact e
end
def Eo:isSubtype (.type "list") (.type "set")=pure lf:=by rw[iW];kernel_rfl
def AV:isSubtype (.type "list") (.type "frozenset")=pure lf:=by rw[iW];kernel_rfl
section
variable {prog:Pg}{w:Wo}{A:Ar}{E:QQX}{κ:Type}[DecidableEq κ][BEq κ][LawfulBEq κ]{knd:PySem.KeyKind prog w κ}{s:Sd}
set_option maxHeartbeats 4000000 in
def Dc{l:Uf}{Xd:Array Vl}{all:List κ}{Q:QQX}(hh:A.handled=Db)(hl:s.heap.IsList l Xd)(hn:Xd.size=all.length)(hi:∀(i:Nat) (v:Vl) (k:κ),Xd[i]?=Fa v->all[i]?=Fa k->knd.is k v=pc/\v.scannable=pc)(hb:all.length+1<Z') (h:∀(h':No) (tk:Nat),h'.SetOf knd s.heap.objs.size (λx=>decide (x∈tE all)) (tE all).length->(∀b o,s.heap.get? b=Fa o->h'.get? b=Fa o)->Q (.ref s.heap.objs.size) {s with heap:=h',toks:=tk}):
  pi (Tk prog w) A (call (.type "set") [.ref l]) Q E s:=by
 obtain⟨c,tl,hmro⟩:=fm.mro;have hmade:=fm.made;have YY:=fm.sub;refine ip (jM ?_);show pi _ _ (callAny (.type "set") _) _ _ _;refine cZ ⟨ii _ (by decide+kernel),gJ kZ ?_⟩;rw[kI (jW "set" [.ref l] []) rfl];have h1:=fm.notType;have h2:=fm.canCreate;have hct:=lH (.ref l)
 repeat (any_goals(first|assumption|wp_step))
 have fresh:∀XC:Bool,(s.heap.push {cls:=.type "set",dict:=none,data:=.set #[] 0 (.fresh 0 0 XC)}).get? s.heap.objs.size=Fa {cls:=.type "set",dict:=none,data:=.set #[] 0 (.fresh 0 0 XC)}:=λXC=>dA _ rfl;refine gg (code_set_new_1 (.ref l) (E:=E) (Q₁:=λobj s₁=>∃XC:Bool,obj=Value.ref s.heap.objs.size/\s₁={s with heap:=s.heap.push {cls:=.type "set",dict:=none,data:=.set #[] 0 (.fresh 0 0 XC)}}) λXC=>⟨XC,rfl,rfl⟩) λr s₁ hr=>?_;cases r with
 | error e=>exact hr
 | ok fl=>
  cases fl with
  | ret obj=>
   obtain⟨XC,rfl,rfl⟩:=hr;have hS:=fresh XC;have hT:Shared.TypeIs {s with heap:=s.heap.push {cls:=.type "set",dict:=none,data:=.set #[] 0 (.fresh 0 0 XC)}} (.ref s.heap.objs.size) "set":=⟨_,hS,rfl⟩;have hli:=fm.init.lookup;have hbi:=fm.init.bind (.ref s.heap.objs.size)
   repeat (any_goals(first|assumption|wp_step))
   refine gg (iJ (R:=wants (λr s₂=>r=.none/\∃h' tk,s₂={s with heap:=h',toks:=tk}/\h'.SetOf knd s.heap.objs.size (λx=>decide (x∈tE all)) (tE all).length/\(∀b o,s.heap.get? b=Fa o->h'.get? b=Fa o)) E) fm.init.plain lJ (lK hT ?_)) λr₂ s₂ hr₂=>?_
   .obtain⟨ol,hol,ZO,nl,hdl⟩:=hl;obtain⟨ocls,Y0,odata,Yv⟩:=ol;simp only at ZO hdl;subst ZO;subst hdl;have hol':(s.heap.push {cls:=.type "set",dict:=none,data:=.set #[] 0 (.fresh 0 0 XC)}).get? l=Fa {cls:=.type "list",dict:=Y0,data:=.seq Xd nl,slots:=Yv}:=cU _ hol;have hsls:=Eo;have hslf:=AV;have hnd:(Value.type "list"==Value.type "dict")=lf:=by decide
    have hl1:(s.heap.push {cls:=.type "set",dict:=none,data:=.set #[] 0 (.fresh 0 0 XC)}).IsList l Xd:=⟨_,hol',rfl,nl,rfl⟩;unfold Builtin.«set.__init__» noKeywords Builtin.Frozenset.updateFrom;generalize hPI:pyIter=PI
    wp_walk
    subst hPI;refine gN hl1 ?_;refine cP (wpAny_runValue ?_);have lS:l<s.heap.objs.size:=dg hol;have hh3:A.in1.in1.in1.handled=Db:=by simp[hh]
    have lI:l≠(s.heap.push {cls:=.type "set",dict:=none,data:=.set #[] 0 (.fresh 0 0 XC)}).objs.size:=by rw[fg];exact dC (fR lS)
    have W:=(j8 (prog:=prog) (w:=w) hh3 _ l lI Xd).toS;rw[hn]at W;refine Gf W s.heap.objs.size ?hf (λi v k e1 e2=>hi i v k e1 e2) hb all.length 0 _ (by omega) (d9 _) ⟨⟨_,dA _ rfl,rfl,rfl⟩,(hl1.push _)⟩ ?h0 ?hR;case hf=>rw[fg];simp only[cW,dv,eF,fF];exact⟨dC (fB _),gD lS⟩
    case h0=>exact ig ((iZ (knd:=knd) XC).setOf (cU _ hS) (by unfold Z';omega)) (λ_=>rfl) rfl
    case hR=>intro s' hm YZ;obtain⟨h',g',d',tk',Z1⟩:=s';have eg:g'=s.gens:=hm.gens;have ed:d'=s.drawn:=hm.drawn;have eo:Z1=s.os:=hm.os;subst eg;subst ed;subst eo;refine cZ ?_;show pi _ _ (ret Value.none) _ _ _;refine cZ ⟨rfl,h',tk',rfl,YZ,λb o e=>?_⟩;have hb:=dg e;refine hm.heap b o ?_ (cU _ (cU _ e));rw[fg];simp only[cW,dv,eF,fF];exact⟨dC hb,dC (fR hb)⟩
   .cases r₂ with
    | error e=>exact hr₂
    | ok fl₂=>
     cases fl₂ with
     | ret r=>
      obtain⟨rfl,h',tk,rfl,YZ,hk'⟩:=hr₂
      repeat (any_goals(first|assumption|wp_step))
      exact h _ _ YZ hk'
     | _=>exact hr₂.elim
  | _=>exact hr.elim
end
def Dz:isSubtype (.type "tuple") (.type "set")=pure lf:=by rw[iW];kernel_rfl
def Ah:isSubtype (.type "tuple") (.type "frozenset")=pure lf:=by rw[iW];kernel_rfl
section
variable {prog:Pg}{w:Wo}{A:Ar}{E:QQX}{κ:Type}[DecidableEq κ][BEq κ][LawfulBEq κ]{knd:PySem.KeyKind prog w κ}{s:Sd}
set_option maxHeartbeats 4000000 in
def B1{l:Uf}{Xd:Array Vl}{all:List κ}{Q:QQX}(hh:A.handled=Db)(hl:s.heap.IsTuple l Xd)(hn:Xd.size=all.length)(hi:∀(i:Nat) (v:Vl) (k:κ),Xd[i]?=Fa v->all[i]?=Fa k->knd.is k v=pc/\v.scannable=pc)(hb:all.length+1<Z') (h:∀(h':No) (tk:Nat),h'.SetOf knd s.heap.objs.size (λx=>decide (x∈tE all)) (tE all).length->(∀b o,s.heap.get? b=Fa o->h'.get? b=Fa o)->Q (.ref s.heap.objs.size) {s with heap:=h',toks:=tk}):
  pi (Tk prog w) A (call (.type "set") [.ref l]) Q E s:=by
 obtain⟨c,tl,hmro⟩:=fm.mro;have hmade:=fm.made;have YY:=fm.sub;refine ip (jM ?_);show pi _ _ (callAny (.type "set") _) _ _ _;refine cZ ⟨ii _ (by decide+kernel),gJ kZ ?_⟩;rw[kI (jW "set" [.ref l] []) rfl];have h1:=fm.notType;have h2:=fm.canCreate;have hct:=lH (.ref l)
 repeat (any_goals(first|assumption|wp_step))
 have fresh:∀XC:Bool,(s.heap.push {cls:=.type "set",dict:=none,data:=.set #[] 0 (.fresh 0 0 XC)}).get? s.heap.objs.size=Fa {cls:=.type "set",dict:=none,data:=.set #[] 0 (.fresh 0 0 XC)}:=λXC=>dA _ rfl;refine gg (code_set_new_1 (.ref l) (E:=E) (Q₁:=λobj s₁=>∃XC:Bool,obj=Value.ref s.heap.objs.size/\s₁={s with heap:=s.heap.push {cls:=.type "set",dict:=none,data:=.set #[] 0 (.fresh 0 0 XC)}}) λXC=>⟨XC,rfl,rfl⟩) λr s₁ hr=>?_;cases r with
 | error e=>exact hr
 | ok fl=>
  cases fl with
  | ret obj=>
   obtain⟨XC,rfl,rfl⟩:=hr;have hS:=fresh XC;have hT:Shared.TypeIs {s with heap:=s.heap.push {cls:=.type "set",dict:=none,data:=.set #[] 0 (.fresh 0 0 XC)}} (.ref s.heap.objs.size) "set":=⟨_,hS,rfl⟩;have hli:=fm.init.lookup;have hbi:=fm.init.bind (.ref s.heap.objs.size)
   repeat (any_goals(first|assumption|wp_step))
   refine gg (iJ (R:=wants (λr s₂=>r=.none/\∃h' tk,s₂={s with heap:=h',toks:=tk}/\h'.SetOf knd s.heap.objs.size (λx=>decide (x∈tE all)) (tE all).length/\(∀b o,s.heap.get? b=Fa o->h'.get? b=Fa o)) E) fm.init.plain lJ (lK hT ?_)) λr₂ s₂ hr₂=>?_
   .obtain⟨ol,hol,ZO,nl,hdl⟩:=hl;obtain⟨ocls,Y0,odata,Yv⟩:=ol;simp only at ZO hdl;subst ZO;subst hdl;have hol':(s.heap.push {cls:=.type "set",dict:=none,data:=.set #[] 0 (.fresh 0 0 XC)}).get? l=Fa {cls:=.type "tuple",dict:=Y0,data:=.seq Xd nl,slots:=Yv}:=cU _ hol;have hsls:=Dz;have hslf:=Ah;have hnd:(Value.type "tuple"==Value.type "dict")=lf:=by decide
    have hl1:(s.heap.push {cls:=.type "set",dict:=none,data:=.set #[] 0 (.fresh 0 0 XC)}).IsTuple l Xd:=⟨_,hol',rfl,nl,rfl⟩;unfold Builtin.«set.__init__» noKeywords Builtin.Frozenset.updateFrom;generalize hPI:pyIter=PI
    wp_walk
    subst hPI;refine ij hl1 ?_;refine cP (wpAny_runValue ?_);have lS:l<s.heap.objs.size:=dg hol;have hh3:A.in1.in1.in1.handled=Db:=by simp[hh]
    have lI:l≠(s.heap.push {cls:=.type "set",dict:=none,data:=.set #[] 0 (.fresh 0 0 XC)}).objs.size:=by rw[fg];exact dC (fR lS)
    have W:=(Walks.tuple (prog:=prog) (w:=w) hh3 _ l lI Xd).toS;rw[hn]at W;refine Gf W s.heap.objs.size ?hf (λi v k e1 e2=>hi i v k e1 e2) hb all.length 0 _ (by omega) (d9 _) ⟨⟨_,dA _ rfl,rfl,rfl⟩,(hl1.push _)⟩ ?h0 ?hR;case hf=>rw[fg];simp only[cW,dv,eF,fF];exact⟨dC (fB _),gD lS⟩
    case h0=>exact ig ((iZ (knd:=knd) XC).setOf (cU _ hS) (by unfold Z';omega)) (λ_=>rfl) rfl
    case hR=>intro s' hm YZ;obtain⟨h',g',d',tk',Z1⟩:=s';have eg:g'=s.gens:=hm.gens;have ed:d'=s.drawn:=hm.drawn;have eo:Z1=s.os:=hm.os;subst eg;subst ed;subst eo;refine cZ ?_;show pi _ _ (ret Value.none) _ _ _;refine cZ ⟨rfl,h',tk',rfl,YZ,λb o e=>?_⟩;have hb:=dg e;refine hm.heap b o ?_ (cU _ (cU _ e));rw[fg];simp only[cW,dv,eF,fF];exact⟨dC hb,dC (fR hb)⟩
   .cases r₂ with
    | error e=>exact hr₂
    | ok fl₂=>
     cases fl₂ with
     | ret r=>
      obtain⟨rfl,h',tk,rfl,YZ,hk'⟩:=hr₂
      repeat (any_goals(first|assumption|wp_step))
      exact h _ _ YZ hk'
     | _=>exact hr₂.elim
  | _=>exact hr.elim
end
end L2
namespace HT
open PySem PyProof.Rows
variable {prog:Pg}{w:Wo}{A:Ar}{E:QQX}{s:Sd}
def zy{t sl:Uf}{vl vu:Vl}{lo hi:Option Int}{Q:QQX}(ht:IsTup s.heap t Xd)(hs:s.heap.IsSliceOf sl vl vu .none)(pl:IsPart vl lo)(pu:IsPart vu hi) (hw:tL Xd.size 0 lo=0/\tL Xd.size Xd.size hi=Xd.size) (h:Q (.ref t) s):pi (Tk prog w) A (XXe (.ref t) (.ref sl)) Q E s:=by
 obtain⟨os,Z3,ZJ,Ys⟩:=id hs;have hTs:s.TypeIs (.ref sl) "slice":=⟨os,Z3,ZJ⟩;unfold XXe
 try with_reducible refine eM ?_
 first|refine cP (cZ ?_)|skip
 refine cP (jg ht.typeIs (by decide) ?_);refine cP (fG (name:=Str.ofString "__getitem__") ht.typeIs fv (fP fv ht.typeIs kt ?_ (kG _ _)));show pi _ _ (Builtin.Tuple.tupleItemsOf (.ref t)>>=_) _ _ s;refine cP (tupleItemsOf_ ht ?_);refine cP (jv hTs ?_);rw[cV (by decide)];refine cP (wC hs pl pu ?_);have yes:(((tL Xd.size 0 lo:Nat):Int)==0&&(1:Int)==1&&(tL Xd.size Xd.size hi - tL Xd.size 0 lo)==Xd.size)=pc:=by rw[hw.1,hw.2];simp
 show pi _ _ (if (((tL Xd.size 0 lo:Nat):Int)==0&&(1:Int)==1&&(tL Xd.size Xd.size hi - tL Xd.size 0 lo)==Xd.size)=pc then _ else _) _ _ s;rw[cV yes];have hT:=ht.typeIs;obtain⟨hp,g,d,tk,o⟩:=s
 repeat (any_goals(first|assumption|wp_step))
 exact⟨_,rfl,cZ h⟩
end HT
namespace L2
variable {X:Cx}{p p2 pos Y1:Pos}{e:zn}{te:TE}
section
def Vy(K:qw):V->Option Int->Option Int->Hp->VK->Prop:=λx lo hi H Q=>∃a xs,x=.ref a/\vn K H a xs/\(HT.tL xs.length 0 lo=0/\HT.tL xs.length xs.length hi=xs.length)/\Q (.ref a) H
def Rc:U0 X (Vy X.K):=by
 intro Xc s Y H x v vl vu lo hi sl Q I rx hs pl pu h;obtain⟨a,xs,rfl,hx,hw,q⟩:=h;cases rx;obtain⟨its,r,ht,hz⟩:=I.tuple hx;have Xi:its.toArray.size=xs.length:=by rw[de];exact r.length.symm
 exact⟨"tuple",_,fv.lookup,ht.typeIs,HT.zy ht hs pl pu (by rw[Xi];exact hw) ⟨.ref a,H,I,rfl,q⟩⟩
local instance (priority:=5000) keyBEq:BEq qX:=instBEqOfDecidableEq
local instance (priority:=5000) keyLaw:LawfulBEq qX:=inferInstanceAs (LawfulBEq (Sum Int Str))
def Qy(K:qw)(te:TE):TE:=λY H Q=>te Y H λx H1=>∃a,∃ss:QQQ,x=.ref a/\(zb K H1 a (ss.map V.str)\/vn K H1 a (ss.map V.str))/\ss.length+1<Z'/\Q (.int (tE ss).length) H1
def G7{ss:QQQ}(r:qE (ss.map V.str) us):us.length=ss.length/\∀(i:Nat) (v:Vl) (k:qX),us[i]?=Fa v->(ss.map λx=>(Sum.inr x:qX))[i]?=Fa k->(rA P w).is k v=pc/\v.scannable=pc:=by
 refine⟨by rw[<-r.length,cO],λi v k e1 e2=>?_⟩;rw[df]at e2;cases q:ss[i]? with
 | none=>rw[q]at e2;cases e2
 | some x=>rw[q]at e2;cases e2;obtain⟨u,e3,t,rfl⟩:=r.get (i:=i) (x:=V.str x) (by rw[df,q];rfl);rw[e3]at e1;cases e1;exact⟨AG P w x t,rfl⟩
def Nn{ss:QQQ}:(tE (ss.map λx=>(Sum.inr x:qX))).length=(tE ss).length:=by
 have go:∀(l acc:QQQ),(l.map λx=>(Sum.inr x:qX)).foldl (λacc k=>if k∈acc then acc else acc++[k]) (acc.map Sum.inr)=(l.foldl (λacc k=>if k∈acc then acc else acc++[k]) acc).map Sum.inr:=by
  intro l;induction l with
  | nil=>intro acc;rfl
  | cons k r ih=>
   intro acc;rw[dN,fT,fT];have hm:(Sum.inr k:qX)∈acc.map Sum.inr↔k∈acc:=by
    rw[dq];constructor
    .rintro ⟨y,h1,h2⟩;cases h2;exact h1
    .exact λh=>⟨k,h,rfl⟩
   by_cases h:k∈acc
   .rw[cV h,cV (hm.mpr h)];exact ih acc
   .rw[cS h,cS λz=>h (hm.mp z)];have:=ih (acc++[k]);rw[dz]at this;exact this
 have:=go ss [];unfold tE;rw[iI]at this;rw[this,cO]
def KN(hc:X.calm=pc)(he:PE X e te)(hg1:Gl X "len")(Xe:X.mg "len"=Db)(hg2:Gl X "set")(Xv:X.mg "set"=Db)(b1:Go "len"=Fa (.builtin "len"))(b2:Go "set"=Fa (.type "set")) (hs:Tl [e] X.env=[(lf,wp e X.env)]:=by rfl):PE X (.Call (.Name "len" p) [.Call (.Name "set" p2) [e] [] Y1] [] pos) (Qy X.K te):=by
 intro Xc s Y H Q I h;refine fO (xB I hg1 Xe b1 ?_);refine gI ?_ rfl rfl;show pi _ _ (spliced ((lf,wp (.Call (.Name "set" p2) [e] [] Y1) X.env)::Ix pos (Tl [] X.env))) _ _ s;refine ia ?_;refine fO (xB I hg2 Xv b2 ?_);refine fS ?_ hs rfl;rw[hs];show pi _ _ (spliced ((lf,wp e X.env)::Ix Y1 (Tl [] X.env))) _ _ s;refine ia (sL (he Xc s Y H _ I h) λu s1 ⟨x,H1,I1,r1,a,ss,ex,hq,hb,q⟩=>iw ?_);subst ex;obtain rfl:u=Value.ref a:=r1;have X7:(ss.map λx=>(Sum.inr x:qX)).length+1<Z':=by rw[cO];exact hb
 have Xh:∀(h':No) (tk:Nat),h'.SetOf (rA X.prog X.w) s1.heap.objs.size (λx=>decide (x∈tE (ss.map λx=>(Sum.inr x:qX)))) (tE (ss.map λx=>(Sum.inr x:qX))).length->(∀b o,s1.heap.get? b=Fa o->h'.get? b=Fa o)->
   pi (Tk X.prog X.w) X.A (spliced (Ix pos (Tl [] X.env))) (λvs s₁=>pi (Tk X.prog X.w) X.A (call (.builtin "len") (.ref s1.heap.objs.size::vs)) (EP X Xc Y Q) X.xe s₁) X.xe {s1 with heap:=h',toks:=tk}:=λh' tk hS keep=>by
  refine iw ?_;obtain⟨o,es,ep,t,ho,hex,hd,_,_,hz,hf,hn⟩:=hS;have Xr:(es.size:Int)<2 ^ 63:=by have:Z'=4096:=rfl;omega
  refine call_len_set ho hex hd hf Xr ?_;refine⟨.int es.size,H1,I1.kept keep,⟨_,rfl⟩,?_⟩;rw[hn,Nn];exact q
 rcases hq with hq|hq
 .obtain⟨its,r,pl,hz⟩:=I1.list hq;obtain⟨k1,k2⟩:=G7 (P:=X.prog) (w:=X.w) r;exact L2.Dc (knd:=rA X.prog X.w) (all:=ss.map λx=>(Sum.inr x:qX)) (I1.ok.hd hc) pl.isList (by rw[de,k1,cO]) (λi v k e1 e2=>k2 i v k (by simpa using e1) e2) X7 Xh
 .obtain⟨its,r,pl,hz⟩:=I1.tuple hq;obtain⟨k1,k2⟩:=G7 (P:=X.prog) (w:=X.w) r;exact L2.B1 (knd:=rA X.prog X.w) (all:=ss.map λx=>(Sum.inr x:qX)) (I1.ok.hd hc) pl (by rw[de,k1,cO]) (λi v k e1 e2=>k2 i v k (by simpa using e1) e2) X7 Xh
end
variable {Xc:T0 (Uf × Obj)}{Y:St}{H:Hp}{s:Sd}
theorem DP(I:Inv X Xc Y H s):∀(ts:QXQ) (kvs:T0 (qX×V)),ts.length=kvs.length->(∀(j:Nat) (t:Uf) (p:qX×V),ts[j]?=Fa t->kvs[j]?=Fa p->vn X.K H t [kV p.1,p.2])->
  ∃(us:T0 Vl) (all:T0 (qX×Vl)),us.length=kvs.length/\KV kvs all/\∀(j:Nat) (t:Uf) (p:qX×Vl),ts[j]?=Fa t->all[j]?=Fa p->∃u,us[j]?=Fa u/\s.heap.IsTuple t #[u,p.2]/\(rA X.prog X.w).is p.1 u=pc
 | [],[],_,_=>⟨[],[],rfl,.nil,λj t p e=>by simp at e⟩
 | [],_::_,h,_=>by simp at h
 | _::_,[],h,_=>by simp at h
 | t::ts,(k,v)::kvs,h,hq=>by
  obtain⟨us,all,h1,h2,h3⟩:=DP I ts kvs (by simpa using h) (λj t p e1 e2=>hq (j+1) t p (by simpa using e1) (by simpa using e2));obtain⟨its,r,pl,_⟩:=I.tuple (hq 0 t (k,v) (by simp) (by simp));cases r with
  | cons r1 r2=>
   cases r2 with
   | cons r3 r4=>
    cases r4;rename_i u w;refine⟨u::us,(k,w)::all,by simpa using h1,.cons ⟨rfl,r3⟩ h2,λj t' p e1 e2=>?_⟩;cases j with
    | zero=>
     have e1':t=t':=by simpa using e1
     have Zr:(k,w)=p:=by simpa using e2
     subst e1' Zr;exact⟨u,by simp,pl,GP r1⟩
    | succ j=>simpa using h3 j t' p (by simpa using e1) (by simpa using e2)
theorem L9:∀{kvs:T0 (qX×V)} {all:T0 (qX×Vl)},KV kvs all->all.map (·.1)=kvs.map (·.1)
 | _,_,.nil=>rfl
 | _,_,.cons r rs=>by rw[dN,dN,L9 rs,r.1]
def Ik(hc:X.calm=pc):zI X (.type "dict") (λxs H Q=>∃l,∃ts:QXQ,∃kvs:T0 (qX×V),xs=[V.ref l]/\zb X.K H l (ts.map V.ref)/\ts.length=kvs.length/\
  (∀(j:Nat) (t:Uf) (p:qX×V),ts[j]?=Fa t->kvs[j]?=Fa p->vn X.K H t [kV p.1,p.2])/\(kvs.map (·.1)).Nodup/\∀d,H d=Db->Q (.ref d) (upd H d (.dK kvs))):=by
 intro Xc s Y H xs us Q I r h;obtain⟨l,ts,kvs,rfl,hl,Xi,hq,hnd,q⟩:=h;obtain⟨u,rfl,ru⟩:=yA r;cases ru;obtain⟨its,rv,⟨⟨c1,d1,t1,sl1⟩,n,g1,e1,e2,e3⟩,hz⟩:=I.list hl;simp only at e1 e2 e3;subst e1 e2 e3;obtain⟨ks,all,h1,h2,h3⟩:=DP I ts kvs Xi hq;have la:all.length=kvs.length:=(jd h2).symm;have li:its.length=kvs.length:=by rw[<-rv.length,cO,Xi]
 have zl:all.length<=Ch:=by rw[la,<-Xi];simpa using hz
 have at_:∀(j:Nat) (p:qX×Vl),all[j]?=Fa p->∃t,ts[j]?=Fa t:=λj p e=>by have:=(cT.mp e).1;exact⟨ts[j],cQ (by omega)⟩
 refine A8 (knd:=rA X.prog X.w) (all:=all) (λj=>(ks[j]?).getD .none) (λj=>(ts[j]?).getD 0) (I.ok.hd hc) g1 (λj v e=>?_) (by rw[de,li,la]) (λj p e=>?_) (λj p e=>?_) zl λh' tk hD keep=>?_
 .have e':its[j]?=Fa v:=by simpa using e
  have hj:=(cT.mp e').1;have hj2:j<ts.length:=by omega
  obtain⟨w,e4,e5⟩:=rv.get (i:=j) (x:=V.ref ts[j]) (by rw[df,cQ hj2];rfl);rw[e']at e4;cases e4;show v=Value.ref ((ts[j]?).getD 0);rw[cQ hj2];exact e5
 .obtain⟨t,et⟩:=at_ j p e;obtain⟨u,e4,e5,_⟩:=h3 j t p et e;show s.heap.IsTuple ((ts[j]?).getD 0) #[(ks[j]?).getD .none,p.2];rw[et,e4];exact e5
 .obtain⟨t,et⟩:=at_ j p e;obtain⟨u,e4,_,e6⟩:=h3 j t p et e;show(rA X.prog X.w).is p.1 ((ks[j]?).getD .none)=pc;rw[e4];exact e6
 .rw[merged_nil_of_nodup all (by rw[L9 h2];exact hnd)]at hD;have fr:=I.mK.fresh (c9 s.heap.objs.size);exact⟨.ref s.heap.objs.size,_,I.laid (t':=tk) (o:=.dK kvs) keep (c9 _) (LZ (by rw[<-la];exact zl) (gm.mpr (dH (dC I.big))) h2 hD),rfl,q _ fr⟩
def Vz:R2:=λx y H Q=>∃a v,x=.ref a/\EG H a y (Fa v)/\Q v H
def P4(hu:X.A.units+1<Y'):Tg X Vz:=by
 intro value Xm Xc s Y H x y o i Q I rx ry h hs;obtain⟨a,v,rfl,g,q⟩:=h;obtain rfl:o=Value.ref a:=rx;have hT:=F0 I g;have h2:pi (Tk X.prog X.w) X.A (XXe (.ref a) i) (EP X Xc Y Q) X.xe s:=Kh hu I g ry λw' s3 I3 Zp=>⟨v,H,I3,Zp,q⟩;unfold subscriptTail;refine cP ?_;rw[jX hT.not_modules];refine cP (jN hT jm.lookup ?_);have Xh:pi (Tk X.prog X.w) X.A (subscripted Xm lf (.ref a) i) (λr s₃=>pi (Tk X.prog X.w) X.A (letTemporaryGo value (.ref a) r>>=λ_=>pure r) (EP X Xc Y Q) X.xe s₃) X.xe s:=by rw[hs];exact wpAny_operating (dW h2 (λr s₃ h₃=>cP (j9 (cZ h₃))) λ_ _ x=>x)
 first
  | exact cZ (cP Xh)
  | exact cP (cZ (cP Xh))
  | exact cP Xh
def So(hu:X.A.units+1<Y'):xy X (Op .In) (λx y H Q=>∃a o,y=.ref a/\EG H a x o/\Q (.bl o.isSome) H):=by intro Xc s Y H x y v u Q I rx ry h;obtain⟨a,o,rfl,g,q⟩:=h;obtain rfl:u=Value.ref a:=ry;exact Wk hu I g rx λs3 I3=>⟨.bl o.isSome,H,I3,rfl,q⟩
variable {prog:Pg}{w:Wo}{A:Ar}{E:QQX}{a:Uf}{U:Type}{k:Str}{tk:Tok}
section
variable {R:U→Vl→Prop}{D:T0 (Str × U)}
def yW(T:KTD.TabOf R s.heap a D):s.TypeIs (.ref a) "dict":=let⟨_,o,_,_,ho,hc,_⟩:=T;⟨o,ho,hc.1⟩
def Jp{Q:Option Vl->Sd->Prop}(T:KTD.TabOf R s.heap a D)(h1:∀d v,KTD.datumAt k D=Fa d->R d v->Q (Fa v) {s with toks:=s.toks+1})(h2:KTD.datumAt k D=Db->Q Db {s with toks:=s.toks+1}):
  pi (Tk prog w) A (dictGet a (.str k tk)) Q E s:=by
 obtain⟨_,o,es,ep,ho,hc,hd,hr⟩:=T;have hq:Q (findBy (λk v=>v.isStr k) es k) {s with toks:=s.toks+1}:=by
  have hf:findBy (λk v=>v.isStr k) es k=(es.toList.find? λe=>e.key.isStr k).map (·.val):=by obtain⟨l⟩:=es;simp[findBy]
  rw[hf];cases ZP:KTD.datumAt k D with
  | none=>rw[hr.find_none ZP];exact h2 ZP
  | some d=>obtain⟨v,hv,hfl⟩:=hr.find_some ZP;rw[hv];exact h1 d v ZP hfl
 have Yg:(es.all λe=>isExactStrKey e.key)=pc:=by
  obtain⟨l⟩:=es
  simpa using hr.exact
 unfold dictGet
 try with_reducible refine eM ?_
 refine cP (lz (cP (KTD.kt_dictFind_strs (s:={s with toks:=s.toks+1}) ho hd Yg ?_)));rw[findBy_of_findIdx?]at hq;cases hi:es.findIdx? λe=>e.key.isStr k with
 | none=>rw[hi]at hq;exact cZ hq
 | some i=>rw[hi]at hq;exact cP (wpAny_dictEntries (s:={s with toks:=s.toks+1}) ho hd (cZ hq))
def RC{Q:QQX}(T:KTD.TabOf R s.heap a D)(h:Q (.bool (KTD.datumAt k D).isSome) {s with toks:=s.toks+1}):pi (Tk prog w) A (Op .In (.str k tk) (.ref a)) Q E s:=by
 have hT:=yW T;show pi _ _ (do return .bool (<-contains (.ref a) (.str k tk))) Q E s;refine cP ?_;unfold contains
 try with_reducible refine eM ?_
 refine cP (jN hT ja.lookup ?_);show pi _ _ (if (Fa (Value.builtin "dict.__contains__")==Fa Value.none)=pc then _ else _) _ E s;rw[cS (by rw[beq_builtin_none];exact dh)];refine cP (wpAny_callSpecialUnlessNone?_slot (name:=Str.ofString "__contains__") hT ja (fP ja hT entry_dict_contains ?_ (args_dict_contains _ _)));show pi _ _ (dictGet a (.str k tk)>>=_) _ _ s;refine cP (Jp T (λd v ha _=>?_) λhn=>?_)
 .rw[ha]at h;show pi _ _ (ret (.bool pc)) _ _ _;exact cZ ⟨_,rfl,eZ (cZ h)⟩
 .rw[hn]at h;show pi _ _ (Builtin.Dict.pendingKey? a (.str k tk)>>=_) _ _ _;exact cP (wpAny_pendingKey_other T.1 (cZ ⟨_,rfl,eZ (cZ h)⟩))
def Mw{Q:QQX}{d:U}(T:KTD.TabOf R s.heap a D)(hd:KTD.datumAt k D=Fa d)(h:∀v,R d v->Q v {s with toks:=s.toks+1}):pi (Tk prog w) A (XXe (.ref a) (.str k tk)) Q E s:=by
 have hT:=yW T;unfold XXe
 try with_reducible refine eM ?_
 refine cP (jg hT (by decide) ?_);refine cP (fG (name:=Str.ofString "__getitem__") hT k9 (fP k9 hT entry_dict_getitem ?_ (args_dict_getitem _ _)));show pi _ _ (dictGet a (.str k tk)>>=_) _ _ s;refine cP (Jp T (λd' v ha hv=>cZ ⟨v,rfl,cZ (h v ?_)⟩) λhn=>?_)
 .rw[hd]at ha;cases ha;exact hv
 .rw[hd]at hn;cases hn
end
def Nw(K:qw)(mg:QQZ)(x:Str)(F:T0 (Str×QQQ)):Prop:=∃a o es ep,mg x=Fa (.ref a)/\(a==XV)=lf/\K.lookup a=Fa o/\o.ExactDict/\o.data=.dict es ep/\
 KTD.Rows (λ(ss:QQQ) v=>∃t,v=Value.ref t/\vn K (λ_=>Db) t (ss.map V.str)) es.toList F
variable {x:Str}{F:T0 (Str × QQQ)}
def Ji{K:qw}(h:vn K (λ_=>Db) t xs):vn K H t xs:=by
 rcases h with(h|⟨o,h⟩)|h
 .cases h
 .cases h
 .exact .inr h
def He{K:qw}(T:Nw K mg x F):∃a,mg x=Fa (.ref a)/\∀h:No,K.In h->KTD.TabOf (λ(ss:QQQ) v=>∃t,v=Value.ref t/\vn K (λ_=>Db) t (ss.map V.str)) h a F:=by obtain⟨a,o,es,ep,h1,h2,h3,h4,h5,h6⟩:=T;exact⟨a,h1,λh hk=>⟨h2,o,es,ep,hk a o h3,h4,h5,h6⟩⟩
def Wx(x:Str):It:=⟨λi _=>i<x.cps.size,λi H v H'=>H'=H/\∃c,x.cps[i]?=Fa c/\v=.str ⟨#[c]⟩,λi _=>i=x.cps.size⟩
def GH{K:qw}{ty:String}{x:Str}{t:Tok}(it:Uf)(W:∀A':Ar,A'.handled=Db->Walks P w A' it [it] [it] x.cps.size (SignAt x) (λi h=>h.IsStrIter it ty x t i)) (hself:∀(A:Ar) (i:Nat) (s:Sd) (Q:QQX) (E:QQX),s.heap.IsStrIter it ty x t i->Q (.ref it) s->pi (Tk P w) A (pyIter (.ref it)) Q E s) (hn:["enumerate","zip","dict_itemiterator","dict_reverseitemiterator","odict_iterator","itertools.zip_longest","itertools.pairwise"].contains ty=lf):F4 P w K tg (Wx x) [it] it (λi h=>h.IsStrIter it ty x t i) where
 mem:=by simp
 obj:=λi h st b hb=>by
  obtain rfl:b=it:=by simpa using hb
  obtain⟨o,e,c,d⟩:=st;exact⟨o,e,λv z=>by rw[d]at z;cases z⟩
 keep:=λi h h' st k=>by obtain⟨o,e,r⟩:=st;exact⟨o,k it (by simp) o e,r⟩
 item:=by intro X hP hw hK hc i Xc s Y H E I hf st hg;subst hP hw hK;obtain⟨f0,f1,f2,f3,f4,f5⟩:=hf it (by simp);refine(W X.A (I.ok.hd hc)).item i s _ _ hg st λv h' tk hv X4 kp=>?_;obtain⟨c,u,e1,e2⟩:=hv;have I1:Inv X Xc Y H {s with heap:=h',toks:=tk}:=I.turned (t':=tk) (λb o hb e=>kp b o (by simpa using hb) e) f0 f1 f3 f4 f5;obtain⟨o,e,cl,d⟩:=id X4;exact⟨v,rfl,IZ (s:={s with heap:=h',toks:=tk}) e cl d hn ⟨.str ⟨#[c]⟩,H,I1,⟨u,e2⟩,⟨rfl,c,e1,rfl⟩,X4,λb hb=>(hf b hb).1⟩⟩
 done:=by intro X hP hw hK hc i Xc s Y H E I hf st hg;subst hP hw hK;obtain⟨f0,f1,f2,f3,f4,f5⟩:=hf it (by simp);obtain rfl:i=x.cps.size:=hg;exact(W X.A (I.ok.hd hc)).done s _ _ st λh' tk kp=>⟨rfl,I.turned (t':=tk) (λb o hb e=>kp b o (by simpa using hb) e) f0 f1 f3 f4 f5⟩
 self:=hself
variable {tg:zn}
def PQ(hc:X.calm=pc)(hl:PE X l tl):PI X tg l (λY H R=>tl Y H λx H1=>(∃a,x=.ref a/\(((∃xs,zb X.K H1 a xs)/\R (Vr X.K a) H1)\/((∃xs,vn X.K H1 a xs)/\R (Ww X.K a) H1)))\/∃z,x=.str z/\R (Wx z) H1):=by
 intro Xc s Y H R I h;refine sL (hl Xc s Y H _ I h) λv s1 zz=>x5 zz λx H1 I1 r1 q1=>?_;rcases q1 with⟨a,e,q1⟩|⟨z,e,q⟩
 .subst e;cases r1;rcases q1 with⟨⟨xs,hq⟩,q⟩|⟨⟨xs,hq⟩,q⟩
  .obtain⟨its,rv,p,hz⟩:=I1.list hq;refine gN p.isList ?_;refine⟨s1.heap.objs.size,[s1.heap.objs.size],_,_,H1,rfl,I1.kept (t':=s1.toks) λb o e=>cU _ e,Kz a _,⟨_,dA _ rfl,rfl,rfl⟩,λb hb=>?_,q⟩;obtain rfl:b=s1.heap.objs.size:=by simpa using hb
   exact I1.nS (c9 _) (I1.mK.fresh (c9 _))
  .obtain⟨its,rv,p,hz⟩:=I1.tuple hq;refine ij (show s1.heap.IsTuple a its.toArray from p) ?_;refine⟨s1.heap.objs.size,[s1.heap.objs.size],_,_,H1,rfl,I1.kept (t':=s1.toks) λb o e=>cU _ e,Ih a _,⟨_,dA _ rfl,rfl,rfl⟩,λb hb=>?_,q⟩;obtain rfl:b=s1.heap.objs.size:=by simpa using hb
   exact I1.nS (c9 _) (I1.mK.fresh (c9 _))
 .subst e;obtain⟨t,rfl⟩:=r1;have fp:∀b∈[s1.heap.objs.size],AS X Xc H1 b:=λb hb=>by
   obtain rfl:b=s1.heap.objs.size:=by simpa using hb
   exact I1.nS (c9 _) (I1.mK.fresh (c9 _))
  cases ha:z.cps.all (·<128)
  .refine wpAny_pyIter_wide ha ?_;exact⟨s1.heap.objs.size,[s1.heap.objs.size],_,_,H1,rfl,I1.kept (t':=s1.toks) λb o e=>cU _ e,GH _ (λA' hA=>Walks.strWide hA _ z t) (λA i s Q E st h=>wpAny_pyIter_striter_wide st h) (by decide),⟨_,dA _ rfl,rfl,rfl⟩,fp,q⟩
  .refine wpAny_pyIter_ascii ha ?_;exact⟨s1.heap.objs.size,[s1.heap.objs.size],_,_,H1,rfl,I1.kept (t':=s1.toks) λb o e=>cU _ e,GH _ (λA' hA=>Walks.strAscii hA _ z t) (λA i s Q E st h=>wpAny_pyIter_striter_ascii st h) (by decide),⟨_,dA _ rfl,rfl,rfl⟩,fp,q⟩
end L2
namespace L2
inductive CA{α0:Sort u}{α1:Sort v}(p:α0->α1->Prop):Prop
 | mk (a0:α0) (a1:α1) (h:p a0 a1):CA p
inductive C4{α0:Sort u}{α1:Sort v}{α2:Sort w}(p:α0->α1->α2->Prop):Prop
 | mk (a0:α0) (a1:α1) (a2:α2) (h:p a0 a1 a2):C4 p
def x7{α:Sort u}{β:Sort v}{γ:Sort w}{p q r s:α->β->γ->Prop}{C:Prop}(h:C4 λa b c=>p a b c/\q a b c/\r a b c/\s a b c)(f:∀a b c,p a b c->q a b c->r a b c->s a b c->C):C:=by obtain⟨a,b,c,h1,h2,h3,h4⟩:=h;exact f a b c h1 h2 h3 h4
def K2{α:Sort u}{β:Sort v}{γ:Sort w}{p q r s s1 s2 s3:α->β->γ->Prop}{C:Prop}(h:C4 λa b c=>p a b c/\q a b c/\r a b c/\s a b c/\s1 a b c/\s2 a b c/\s3 a b c)(f:∀a b c,p a b c->q a b c->r a b c->s a b c->s1 a b c->s2 a b c->s3 a b c->C):C:=by obtain⟨a,b,c,h1,h2,h3,h4,h5,h6,h7⟩:=h;exact f a b c h1 h2 h3 h4 h5 h6 h7
inductive CS{α0:Sort u}{α1:Sort v}{α2:Sort w}{α3:Sort u1}(p:α0->α1->α2->α3->Prop):Prop
 | mk (a0:α0) (a1:α1) (a2:α2) (a3:α3) (h:p a0 a1 a2 a3):CS p
inductive Hi{α0:Sort u}{α1:Sort v}{α2:Sort w}{α3:Sort u1}{α4:Sort u2}(p:α0->α1->α2->α3->α4->Prop):Prop
 | mk (a0:α0) (a1:α1) (a2:α2) (a3:α3) (a4:α4) (h:p a0 a1 a2 a3 a4):Hi p
inductive KR{α0:Sort u}{α1:Sort v}{α2:Sort w}{α3:Sort u1}{α4:Sort u2}{α5:Sort u3}(p:α0->α1->α2->α3->α4->α5->Prop):Prop
 | mk (a0:α0) (a1:α1) (a2:α2) (a3:α3) (a4:α4) (a5:α5) (h:p a0 a1 a2 a3 a4 a5):KR p
inductive Sk{α0:Sort u}{α1:Sort v}{α2:Sort w}{α3:Sort u1}{α4:Sort u2}{α5:Sort u3}{α6:Sort u4}(p:α0->α1->α2->α3->α4->α5->α6->Prop):Prop
 | mk (a0:α0) (a1:α1) (a2:α2) (a3:α3) (a4:α4) (a5:α5) (a6:α6) (h:p a0 a1 a2 a3 a4 a5 a6):Sk p
inductive Tf{α0:Sort u}{α1:Sort v}{α2:Sort w}{α3:Sort u1}{α4:Sort u2}{α5:Sort u3}{α6:Sort u4}{α7:Sort u5}(p:α0->α1->α2->α3->α4->α5->α6->α7->Prop):Prop
 | mk (a0:α0) (a1:α1) (a2:α2) (a3:α3) (a4:α4) (a5:α5) (a6:α6) (a7:α7) (h:p a0 a1 a2 a3 a4 a5 a6 a7):Tf p
inductive TY{α0:Sort u}{α1:Sort v}{α2:Sort w}{α3:Sort u1}{α4:Sort u2}{α5:Sort u3}{α6:Sort u4}{α7:Sort u5}{α8:Sort u6}(p:α0->α1->α2->α3->α4->α5->α6->α7->α8->Prop):Prop
 | mk (a0:α0) (a1:α1) (a2:α2) (a3:α3) (a4:α4) (a5:α5) (a6:α6) (a7:α7) (a8:α8) (h:p a0 a1 a2 a3 a4 a5 a6 a7 a8):TY p
inductive KU{α0:Sort u}{α1:Sort v}{α2:Sort w}{α3:Sort u1}{α4:Sort u2}{α5:Sort u3}{α6:Sort u4}{α7:Sort u5}{α8:Sort u6}{α9:Sort u7}(p:α0->α1->α2->α3->α4->α5->α6->α7->α8->α9->Prop):Prop
 | mk (a0:α0) (a1:α1) (a2:α2) (a3:α3) (a4:α4) (a5:α5) (a6:α6) (a7:α7) (a8:α8) (a9:α9) (h:p a0 a1 a2 a3 a4 a5 a6 a7 a8 a9):KU p
inductive VF{α0:Sort u}{α1:Sort v}{α2:Sort w}{α3:Sort u1}{α4:Sort u2}{α5:Sort u3}{α6:Sort u4}{α7:Sort u5}{α8:Sort u6}{α9:Sort u7}{α10:Sort u8}(p:α0->α1->α2->α3->α4->α5->α6->α7->α8->α9->α10->Prop):Prop
 | mk (a0:α0) (a1:α1) (a2:α2) (a3:α3) (a4:α4) (a5:α5) (a6:α6) (a7:α7) (a8:α8) (a9:α9) (pj:α10) (h:p a0 a1 a2 a3 a4 a5 a6 a7 a8 a9 pj):VF p
inductive VU{α0:Sort u}{α1:Sort v}{α2:Sort w}{α3:Sort u1}{α4:Sort u2}{α5:Sort u3}{α6:Sort u4}{α7:Sort u5}{α8:Sort u6}{α9:Sort u7}{α10:Sort u8}{α11:Sort u9}(p:α0->α1->α2->α3->α4->α5->α6->α7->α8->α9->α10->α11->Prop):Prop
 | mk (a0:α0) (a1:α1) (a2:α2) (a3:α3) (a4:α4) (a5:α5) (a6:α6) (a7:α7) (a8:α8) (a9:α9) (pj:α10) (a11:α11) (h:p a0 a1 a2 a3 a4 a5 a6 a7 a8 a9 pj a11):VU p
end L2
namespace L2
open PySem
def UI(a C:Uf)(h:No):Prop:=CA λoe vs=>h.get? a=Fa oe/\oe.cls=.ref C/\oe.data=.fields vs/\oe.dict=Db
end L2
namespace L3
open L2
inductive D where
 | mG|bl (b:Bool)|int (i:Int)|str (x:Str)|tup (ds:List D)|ref (a:Uf)|ty (n:String)
 | rl (ds:List D)
def Qs(K:qw)(H:Hp)(a:Uf)(xs:T0 V):Prop:=(∃o,H a=Fa (.frz o (.lst xs)))\/
 ∃(o:Obj) (its:Array Vl) (n:Nat),K.lookup a=Fa o/\o.cls=.type "list"/\o.dict=Db/\o.data=.seq its n/\its.size<=Ch/\qE xs its.toList
def Qs.sq{K:qw}(h:Qs K H a xs):zb K H a xs:=by
 rcases h with⟨o,h⟩|h
 .exact .inl (.inr ⟨o,h⟩)
 .exact .inr h
mutual
def rQ(K:qw)(H:Hp):D->V->Prop
 | .mG,v=>v=.mG
 | .bl b,v=>v=.bl b
 | .int i,v=>v=.int i
 | .str x,v=>v=.str x
 | .ref a,v=>v=.ref a
 | .ty n,v=>v=.ty n
 | .tup ds,v=>∃a xs,v=.ref a/\vn K H a xs/\qp K H ds xs
 | .rl ds,v=>∃a xs,v=.ref a/\Qs K H a xs/\qp K H ds xs
def qp(K:qw)(H:Hp):T0 D->T0 V->Prop
 | [],xs=>xs=[]
 | d::ds,xs=>∃x r,xs=x::r/\rQ K H d x/\qp K H ds r
end
structure qT(K:qw)(H H':Hp):Prop where
 t:∀a xs,vn K H a xs->vn K H' a xs
 f:∀a o xs,H a=Fa (.frz o (.lst xs))->H' a=Fa (.frz o (.lst xs))
def qT.refl{K:qw}:qT K H H:=⟨λ_ _ h=>h,λ_ _ _ h=>h⟩
def qT.trans{K:qw}(a:qT K H H1)(b:qT K H1 H2):qT K H H2:=⟨λc xs h=>b.t c xs (a.t c xs h),λc o xs h=>b.f c o xs (a.f c o xs h)⟩
def qT.upd{K:qw}(h:∀xs,¬Rd H p (.tup xs))(h':∀u xs,H p≠Fa (.frz u (.lst xs))):qT K H (upd H p o):=⟨λa xs q=>by
 rcases q with q|q
 .have ne:a≠p:=λz=>h xs (z ▸ q);rcases q with q|⟨u,q⟩
  .exact .inl (.inl (by rw[qa ne];exact q))
  .exact .inl (.inr ⟨u,by rw[qa ne];exact q⟩)
 .exact .inr q,λa u xs q=>by
 have ne:a≠p:=λz=>h' u xs (z ▸ q);rw[qa ne];exact q⟩
def qT.new{K:qw}{H:Hp}{p:Uf}(h:H p=Db):qT K H (L2.upd H p o):=.upd (λxs q=>by
 rcases q with q|⟨u,q⟩<;>(rw[h]at q;cases q)) λu xs q=>by rw[h]at q;cases q
def Qs.mono{K:qw}(e:qT K H H')(h:Qs K H a xs):Qs K H' a xs:=by
 rcases h with⟨o,h⟩|h
 .exact .inl ⟨o,e.f a o xs h⟩
 .exact .inr h
mutual
theorem rQ.mono{K:qw}(e:qT K H H'):∀{d:D} {v:V},rQ K H d v->rQ K H' d v
 | .mG,_,h=>h
 | .bl _,_,h=>h
 | .int _,_,h=>h
 | .str _,_,h=>h
 | .ref _,_,h=>h
 | .ty _,_,h=>h
 | .tup ds,v,h=>by unfold rQ at h ⊢;obtain⟨a,xs,e1,e2,e3⟩:=h;exact⟨a,xs,e1,e.t _ _ e2,qp.mono e e3⟩
 | .rl ds,v,h=>by unfold rQ at h ⊢;obtain⟨a,xs,e1,e2,e3⟩:=h;exact⟨a,xs,e1,e2.mono e,qp.mono e e3⟩
theorem qp.mono{K:qw}(e:qT K H H'):∀{ds:T0 D} {xs:T0 V},qp K H ds xs->qp K H' ds xs
 | [],_,h=>h
 | d::ds,xs,h=>by unfold qp at h ⊢;obtain⟨x,r,e1,e2,e3⟩:=h;exact⟨x,r,e1,rQ.mono e e2,qp.mono e e3⟩
end
variable {K:qw}{H H':Hp}
def qp.nil:qp K H [] []:=by unfold qp;rfl
def qp.cons(a:rQ K H d x)(b:qp K H ds xs):qp K H (d::ds) (x::xs):=by unfold qp;exact⟨x,xs,rfl,a,b⟩
def qp.inv{d:D}{ds:T0 D}(h:qp K H (d::ds) xs):∃x r,xs=x::r/\rQ K H d x/\qp K H ds r:=by unfold qp at h;exact h
def qp.nil_inv(h:qp K H [] xs):xs=[]:=by unfold qp at h;exact h
theorem qp.length:∀{ds:T0 D} {xs:T0 V},qp K H ds xs->ds.length=xs.length
 | [],_,h=>by rw[h.nil_inv];rfl
 | d::ds,_,h=>by obtain⟨x,r,rfl,_,e⟩:=h.inv;simp[qp.length e]
theorem qp.get:∀{ds:T0 D} {xs:T0 V} {i:Nat} {d:D},qp K H ds xs->ds[i]?=Fa d->∃x,xs[i]?=Fa x/\rQ K H d x
 | [],_,_,_,_,e=>by simp at e
 | d::ds,_,0,_,h,e=>by obtain⟨x,r,rfl,a,_⟩:=h.inv;simp at e;subst e;exact⟨x,by simp,a⟩
 | d::ds,_,i+1,_,h,e=>by obtain⟨x,r,rfl,_,b⟩:=h.inv;obtain⟨y,e1,e2⟩:=qp.get b (by simpa using e);exact⟨y,by simpa using e1,e2⟩
theorem qp.append:∀{ds es:T0 D} {xs ys:T0 V},qp K H ds xs->qp K H es ys->qp K H (ds++es) (xs++ys)
 | [],_,_,_,h,g=>by rw[h.nil_inv];exact g
 | d::ds,_,_,_,h,g=>by obtain⟨x,r,rfl,a,b⟩:=h.inv;exact .cons a (qp.append b g)
theorem qp.take:∀{ds:T0 D} {xs:T0 V} (n:Nat),qp K H ds xs->qp K H (ds.take n) (xs.take n)
 | _,_,0,_=>by simp only[List.take_zero];exact .nil
 | [],_,n+1,h=>by rw[h.nil_inv];exact .nil
 | d::ds,_,n+1,h=>by obtain⟨x,r,rfl,a,b⟩:=h.inv;exact .cons a (qp.take n b)
theorem qp.drop:∀{ds:T0 D} {xs:T0 V} (n:Nat),qp K H ds xs->qp K H (ds.drop n) (xs.drop n)
 | _,_,0,h=>h
 | [],_,n+1,h=>by rw[h.nil_inv];exact .nil
 | d::ds,_,n+1,h=>by obtain⟨x,r,rfl,a,b⟩:=h.inv;exact qp.drop n b
def qp.snoc(h:qp K H ds xs)(a:rQ K H d x):qp K H (ds++[d]) (xs++[x]):=h.append (.cons a .nil)
theorem qp.ints:∀{ns:T0 Int},qp K H (ns.map D.int) (ns.map V.int)
 | []=>.nil
 | n::r=>.cons (by unfold rQ;rfl) qp.ints
def rQ.tup(q:vn K H a xs)(h:qp K H ds xs):rQ K H (.tup ds) (.ref a):=by unfold rQ;exact⟨a,xs,rfl,q,h⟩
def rQ.mJ{ds:T0 D}(h:rQ K H (.tup ds) v):∃a xs,v=.ref a/\vn K H a xs/\qp K H ds xs:=by unfold rQ at h;exact h
def rQ.mV{ds:T0 D}(h:rQ K H (.rl ds) v):∃a xs,v=.ref a/\Qs K H a xs/\qp K H ds xs:=by unfold rQ at h;exact h
def rQ.int{i:Int}:rQ K H (.int i) (.int i):=by unfold rQ;rfl
def rQ.bl{i:Bool}:rQ K H (.bl i) (.bl i):=by unfold rQ;rfl
def rQ.str{i:Str}:rQ K H (.str i) (.str i):=by unfold rQ;rfl
def rQ.ref{i:Uf}:rQ K H (.ref i) (.ref i):=by unfold rQ;rfl
def rQ.mG:rQ K H .mG .mG:=by unfold rQ;rfl
def rQ.int_inv{i:Int}(h:rQ K H (.int i) v):v=.int i:=by unfold rQ at h;exact h
def rQ.mF{i:Bool}(h:rQ K H (.bl i) v):v=.bl i:=by unfold rQ at h;exact h
def rQ.str_inv{i:Str}(h:rQ K H (.str i) v):v=.str i:=by unfold rQ at h;exact h
def rQ.mC{i:Uf}(h:rQ K H (.ref i) v):v=.ref i:=by unfold rQ at h;exact h
def rQ.nX{i:String}(h:rQ K H (.ty i) v):v=.ty i:=by unfold rQ at h;exact h
def rQ.mE{v:V}(h:rQ K H .mG v):v=.mG:=by unfold rQ at h;exact h
inductive vb where
 | lst (ds:List D)
 | ins (C:Uf) (fs:List (Str×D))
 | dk (kvs:List (qX×D))
 | exc (C:Uf)
abbrev Mp:=Uf->Option vb
def pI(M:Mp)(a:Uf)(c:vb):Mp:=λb=>if b=a then Fa c else M b
def pR:pI M a c a=Fa c:=by unfold pI;rw[cV rfl]
def um{a b:Uf}(h:b≠a):pI M a c b=M b:=by unfold pI;rw[cS h]
def rM:pI (pI M a c) a d=pI M a d:=by funext b;unfold pI;split<;>rfl
def N0{M:Mp}{a b:Uf}{c:vb}(h:M a=Fa c)(h':M b=Db):a≠b:=by intro e;subst e;rw[h]at h';cases h'
def BF(K:qw)(H:Hp)(fs:T0 (Str×D))(vs:T0 (Str×V)):Prop:=vs.map (·.1)=fs.map (·.1)/\qp K H (fs.map (·.2)) (vs.map (·.2))
def xH(K:qw)(H:Hp)(a:Uf):vb->Prop
 | .lst ds=>∃xs,H a=Fa (.lst xs)/\qp K H ds xs
 | .ins C fs=>∃dx vs,H a=Fa (.ins C dx vs)/\Cls K C/\(∀f,f∈fs.map (·.1)->ut K C f)/\BF K H fs vs
 | .dk kvs=>∃vs,H a=Fa (.dK vs)/\vs.map (·.1)=kvs.map (·.1)/\qp K H (kvs.map (·.2)) (vs.map (·.2))
 | .exc C=>H a=Fa (.ext (UI a C))
def HM(K:qw)(H:Hp)(M:Mp):Prop:=∀a c,M a=Fa c->xH K H a c
variable {M:Mp}
def BF.mono(e:qT K H H')(h:BF K H fs vs):BF K H' fs vs:=⟨h.1,h.2.mono e⟩
def xH.keep(e:qT K H H')(k:H' a=H a)(h:xH K H a c):xH K H' a c:=by
 cases c with
 | lst ds=>obtain⟨xs,e1,e2⟩:=h;exact⟨xs,by rw[k];exact e1,e2.mono e⟩
 | ins C fs=>obtain⟨dx,vs,e1,c,n,e2⟩:=h;exact⟨dx,vs,by rw[k];exact e1,c,n,e2.mono e⟩
 | dk kvs=>obtain⟨vs,e1,e2,e3⟩:=h;exact⟨vs,by rw[k];exact e1,e2,e3.mono e⟩
 | exc C=>exact k.trans h
def xH.there(h:xH K H a c):∃o,H a=Fa o/\(∀xs,¬Rd H a (.tup xs))/\∀u xs,H a≠Fa (.frz u (.lst xs)):=by
 have go:∀o,H a=Fa o->(∀xs,o≠.tup xs)->(∀u v,o≠.frz u v)->∃o,H a=Fa o/\(∀xs,¬Rd H a (.tup xs))/\∀u xs,H a≠Fa (.frz u (.lst xs)):=λo e n1 n2=>⟨o,e,λxs q=>by
  rcases q with q|⟨u,q⟩
  .rw[e]at q;exact n1 xs (cY q)
  .rw[e]at q;exact n2 u _ (cY q),λu xs q=>by rw[e]at q;exact n2 u _ (cY q)⟩
 cases c with
 | lst ds=>obtain⟨xs,e1,e2⟩:=h;exact go _ e1 (λ_ z=>by cases z) λ_ _ z=>by cases z
 | ins C fs=>obtain⟨dx,vs,e1,e2⟩:=h;exact go _ e1 (λ_ z=>by cases z) λ_ _ z=>by cases z
 | dk kvs=>obtain⟨vs,e1,e2,e3⟩:=h;exact go _ e1 (λ_ z=>by cases z) λ_ _ z=>by cases z
 | exc C=>exact go _ h (λ_ z=>by cases z) λ_ _ z=>by cases z
def HM.fresh(h:HM K H M){p:Uf}(n:H p=Db):M p=Db:=by
 cases e:M p with
 | none=>rfl
 | some c=>obtain⟨o,q,_⟩:=(h p c e).there;rw[n]at q;cases q
def HM.keep(h:HM K H M)(e:qT K H H')(k:∀a c,M a=Fa c->H' a=H a):HM K H' M:=λa c q=>(h a c q).keep e (k a c q)
def HM.add(h:HM K H M){p:Uf}{o:HO}(n:H p=Db):HM K (upd H p o) M:=h.keep (.new n) λa c q=>by obtain⟨u,e,_⟩:=(h a c q).there;rw[qa (qS e n)]
def HM.new(h:HM K H M){p:Uf}{o:HO}{c:vb}(n:H p=Db)(ok:xH K (upd H p o) p c):HM K (upd H p o) (pI M p c):=λa d q=>by
 by_cases e:a=p
 .subst e;rw[pR]at q;cases q;exact ok
 .rw[um e]at q;exact h.add n a d q
def HM.put(h:HM K H M){p:Uf}{o:HO}{c c0:vb}(e0:M p=Fa c0)(ok:qT K H (upd H p o)->xH K (upd H p o) p c):HM K (upd H p o) (pI M p c)/\qT K H (upd H p o):=by
 obtain⟨u,eu,nt,nf⟩:=(h p c0 e0).there;have x:qT K H (upd H p o):=.upd nt nf;refine⟨λa d q=>?_,x⟩;by_cases e:a=p
 .subst e;rw[pR]at q;cases q;exact ok x
 .rw[um e]at q;exact(h a d q).keep x (qa e)
abbrev St:=L2.St
abbrev vv:=T0 (Option D)
abbrev DK:=D->Mp->Prop
abbrev T3:=vv->Mp->DK->Prop
abbrev AA:=vv->Mp->(Bool->Mp->Prop)->Prop
abbrev xQ:=vv->Mp->(T0 D->Mp->Prop)->Prop
structure Gz where
 nx:vv->Mp->Prop
 rt:DK
 bk:vv->Mp->Prop:=λ_ _=>False
 ct:vv->Mp->Prop:=λ_ _=>False
abbrev xt:=Gz->vv->Mp->Prop
def zS(K:qw)(H:Hp)(Y:St)(U:vv):Prop:=∀(i:Nat) (d:D),U[i]?=Fa (Fa d)->∃v,Y[i]?=Fa (Fa v)/\rQ K H d v
def zS.mono{K:qw}(e:qT K H H')(h:zS K H Y U):zS K H' Y U:=λi d q=>by obtain⟨v,e1,e2⟩:=h i d q;exact⟨v,e1,e2.mono e⟩
def zS.set{K:qw}{i:Nat}(h:zS K H Y U)(hv:rQ K H d v)(hi:i<Y.length):zS K H (Y.set i (Fa v)) (U.set i (Fa d)):=λj e q=>by
 by_cases hj:j=i
 .subst hj;rw[fA hi];by_cases hl:j<U.length
  .rw[fA hl]at q;cases q;exact⟨v,rfl,hv⟩
  .rw[gR (by simpa using hl)]at q;cases q
 .rw[fz (dH hj)]at q ⊢;exact h j e q
def lo(K:qw)(t:T3):TE:=λY H Q'=>C4 λU M Q=>zS K H Y U/\HM K H M/\t U M Q/\∀v H' d M',rQ K H' d v->HM K H' M'->qT K H H'->Q d M'->Q' v H'
def Th(K:qw)(t:AA):TT:=λY H Q'=>C4 λU M Q=>zS K H Y U/\HM K H M/\t U M Q/\∀b H' M',HM K H' M'->qT K H H'->Q b M'->Q' b H'
def WB(K:qw)(t:xQ):TA:=λY H Q'=>C4 λU M Q=>zS K H Y U/\HM K H M/\t U M Q/\∀vs H' ds M',qp K H' ds vs->HM K H' M'->qT K H H'->Q ds M'->Q' vs H'
def Ve(K:qw)(t:xt):TS:=λD' Y H=>C4 λU M D=>zS K H Y U/\HM K H M/\t D U M/\(∀σ' H' δ' M',zS K H' σ' δ'->HM K H' M'->qT K H H'->σ'.length=Y.length->D.nx δ' M'->D'.nx σ' H')/\
 (∀v H' d M',rQ K H' d v->HM K H' M'->qT K H H'->D.rt d M'->D'.rt v H')/\(∀σ' H' δ' M',zS K H' σ' δ'->HM K H' M'->qT K H H'->σ'.length=Y.length->D.bk δ' M'->D'.bk σ' H')/\
 (∀σ' H' δ' M',zS K H' σ' δ'->HM K H' M'->qT K H H'->σ'.length=Y.length->D.ct δ' M'->D'.ct σ' H')
def E3(X:Cx)(e:zn)(t:T3):Prop:=PE X e (lo X.K t)
def B3(X:Cx)(e:zn)(t:AA):Prop:=PT X e (Th X.K t)
def A3(X:Cx)(es:T0 zn)(t:xQ):Prop:=PA X es (WB X.K t)
def S3(X:Cx)(st:sB)(t:xt):Prop:=PS X st (Ve X.K t)
def Hh(X:Cx)(st:T0 sB)(t:xt):Prop:=Co X st (Ve X.K t)
def PE.mono{t t':TE}(h:PE X e t)(m:∀Y H Q,t' Y H Q->t Y H Q):PE X e t':=λXc s Y H Q I q=>h Xc s Y H Q I (m Y H Q q)
def PT.mono{t t':TT}(h:PT X e t)(m:∀Y H Q,t' Y H Q->t Y H Q):PT X e t':=λXc s Y H Q I q=>h Xc s Y H Q I (m Y H Q q)
def PA.mono{t t':TA}(h:PA X e t)(m:∀Y H Q,t' Y H Q->t Y H Q):PA X e t':=λpos Xc s Y H Q I q=>h pos Xc s Y H Q I (m Y H Q q)
def PS.mono{t t':TS}(h:PS X e t)(m:∀D Y H,t' D Y H->t D Y H):PS X e t':=λXc s Y H D I q=>h Xc s Y H D I (m D Y H q)
def Co.mono{t t':TS}(h:Co X e t)(m:∀D Y H,t' D Y H->t D Y H):Co X e t':=λXc s Y H D I q=>h Xc s Y H D I (m D Y H q)
def PS.nM{t t':TS}(h:PS X e t)(m:∀D Y H,Y.length=X.N.length->t' D Y H->t D Y H):PS X e t':=λXc s Y H D I q=>h Xc s Y H D I (m D Y H I.len q)
def vQ{K:qw}{Q':VK}{Q:DK}(x:qT K H H1)(f:∀v H' d M',rQ K H' d v->HM K H' M'->qT K H H'->Q d M'->Q' v H'):∀v H' d M',rQ K H' d v->HM K H' M'->qT K H1 H'->Q d M'->Q' v H':=
 λv H' d M' a b c e=>f v H' d M' a b (x.trans c) e
variable {X:Cx}{pos:Pos}
def v3(i:Nat):T3:=λU M Q=>(U.getD i Db).elim False λd=>Q d M
def Km{U:vv}{i:Nat}{P:D->Prop}(h:(U.getD i Db).elim False P):∃d,U[i]?=Fa (Fa d)/\P d:=by
 cases e:U[i]? with
 | none=>rw[eO,e]at h;exact h.elim
 | some o=>
  rw[eO,e]at h;cases o with
  | none=>exact h.elim
  | some d=>exact⟨d,rfl,h⟩
def RI(i:Nat){x:Str}(h:PE X (.Name x pos) (HH i)):E3 X (.Name x pos) (v3 i):=PE.mono h λY H Q' zz=>x7 zz λU M Q hs hm ht k=>by obtain⟨d,e,q⟩:=Km ht;obtain⟨v,e1,e2⟩:=hs i d e;exact⟨v,e1,k v H d M e2 hm .refl q⟩
def c3(d:D):T3:=λ_ M Q=>Q d M
def pB{i j}:E3 X (.Constant (.int i) j pos) (c3 (.int i)):=PE.mono Rp λY H Q' zz=>x7 zz λU M Q hs hm ht k=>k _ H _ M .int hm .refl ht
def ww{i j}:E3 X (.Constant (.bool i) j pos) (c3 (.bl i)):=PE.mono U9 λY H Q' zz=>x7 zz λU M Q hs hm ht k=>k _ H _ M .bl hm .refl ht
def pC{i j}:E3 X (.Constant (.str i) j pos) (c3 (.str i)):=PE.mono Rb λY H Q' zz=>x7 zz λU M Q hs hm ht k=>k _ H _ M .str hm .refl ht
def sG{j}:E3 X (.Constant .none j pos) (c3 .mG):=PE.mono RO λY H Q' zz=>x7 zz λU M Q hs hm ht k=>k _ H _ M .mG hm .refl ht
def oX(M:Mp)(a:Uf):Option (T0 D):=match M a with
 | some (.lst ds)=>Fa ds
 | _=>Db
def yN(x:Str)(n:Int):Str:=⟨(List.replicate n.toNat x.cps).foldl (·++·) #[]⟩
def Vo(op:XYa)(x y:D)(M:Mp)(Q:DK):Prop:=match op,x,y with
 | .Add,.int i,.int j=>Q (.int (i+j)) M
 | .Add,.str i,.str j=>i.length+j.length<=Ch/\Q (.str (i++j)) M
 | .Add,.tup i,.tup j=>i≠[]/\i.length+j.length<=Ch/\Q (.tup (i++j)) M
 | .Add,.ref a,.ref b=>(oX M a).elim False λi=>(oX M b).elim False λj=>i.length+j.length<=Ch/\∀p,M p=Db->Q (.ref p) (pI M p (.lst (i++j)))
 | .Add,.rl i,.ref b=>(oX M b).elim False λj=>i.length+j.length<=Ch/\∀p,M p=Db->Q (.ref p) (pI M p (.lst (i++j)))
 | .Sub,.int i,.int j=>Q (.int (i - j)) M
 | .Mult,.int i,.int j=>Dm i j/\Q (.int (i*j)) M
 | .Mult,.str i,.int j=>(j<4096/\-4096<j/\i.length<4096)/\Q (.str (yN i j)) M
 | .FloorDiv,.int i,.int j=>Ub i j/\Q (.int (i / j)) M
 | .Mod,.int i,.int j=>0<j/\Q (.int (i % j)) M
 | _,_,_=>False
def o3(op:XYa)(ta tb:T3):T3:=λU M Q=>ta U M λx M1=>tb U M1 λy M2=>Vo op x y M2 Q
def Up(K:qw)(H:Hp)(Q':VK)(Q:DK):Prop:=∀v H' d M',rQ K H' d v->HM K H' M'->qT K H H'->Q d M'->Q' v H'
variable {ta tb:T3}
section
def qB{K:qw}{ds:T0 D}(hm:HM K H M)(h:oX M a=Fa ds):∃xs,zb K H a xs/\qp K H ds xs/\Rd H a (.lst xs):=by
 unfold oX at h;cases e:M a with
 | none=>rw[e]at h;cases h
 | some c=>
  rw[e]at h;have ok:=hm a c e;cases c with
  | lst es=>cases h;obtain⟨xs,e1,e2⟩:=ok;exact⟨xs,.inl (.inl e1),e2,.inl e1⟩
  | ins _ _=>cases h
  | dk _=>cases h
  | exc _=>cases h
def rg{α:Type}{o:Option α}{P:α->Prop}(h:o.elim False P):∃a,o=Fa a/\P a:=by
 cases o with
 | none=>exact h.elim
 | some a=>exact⟨a,rfl,h⟩
def IS:xy X (wP .Add) (λx y H Q=>∃l b xs zs,x=.ref l/\y=.ref b/\zb X.K H l xs/\zb X.K H b zs/\xs.length+zs.length<=Ch/\∀p,H p=Db->Q (.ref p) (upd H p (.lst (xs++zs)))):=by
 intro Xc s Y H x y v u Q I rx ry h;obtain⟨l,b,xs,zs,rfl,rfl,hH,hB,hz,q⟩:=h;cases rx;cases ry;obtain⟨its,r,⟨⟨c1,d1,t1,sl1⟩,n,g1,e1,_,f1⟩,_⟩:=I.list hH;obtain⟨Zd,r2,⟨⟨c2,d2,t2,sl2⟩,m,g2,e2,_,f2⟩,_⟩:=I.list hB;simp only at e1 f1 e2 f2;subst e1 f1 e2 f2;have hl:=r.length;have hl2:=r2.length;refine kF ⟨_,g1,rfl⟩ ⟨_,g2,rfl⟩ noFill_list_add seq_list_add PySem.F.slot_list_add PySem.F.entry_list_add (PySem.F.args_list_add_2 _ _) (list_addW l b its.toArray Zd.toArray n m d1 d2 sl1 sl2 (by rw[de,de];omega)) ⟨g1,g2,?_⟩;have ea:its.toArray++Zd.toArray=(its++Zd).toArray:=by simp
 rw[ea];exact⟨.ref _,_,I.oV (t':=s.toks) (r.append r2) (by rw[cR];omega),rfl,q _ I.fresh⟩
def JC(x:Array Nat):∀k,((List.replicate k x).foldl (·++·) #[]:Array Nat).size=k*x.size:=by
 have go:∀(k:Nat) (acc:Array Nat),((List.replicate k x).foldl (·++·) acc).size=acc.size+k*x.size:=by
  intro k;induction k with
  | zero=>intro acc;simp
  | succ k ih=>intro acc;rw[eB,fT,ih,Array.size_append,mi];omega
 intro k;rw[go];simp
def Pn:xy X (wP .Mult) (λx y H Q=>∃i j,x=.str i/\y=.int j/\(j<4096/\-4096<j/\i.length<4096)/\Q (.str (yN i j)) H):=by
 intro Xc s Y H x y v u Q I rx ry h;obtain⟨i,j,rfl,rfl,⟨h1,h2,h3⟩,q⟩:=h;obtain⟨t,rfl⟩:=rx;obtain⟨t',rfl⟩:=ry;refine PySem.P.mul_str ?_ ?_ ?_ ?_
 .rw[eI (by omega),eI (by omega)];rfl
 .intro h0 _;have:(4096:Int)<=(2 ^ 63 - 1) / j:=by
   have:(4096:Int)*j<=2 ^ 63 - 1:=by omega
   exact(Int.le_ediv_iff_mul_le (by omega)).mpr this
  omega
 .intro h0 _;have hm:i.length*j.toNat<=4096*4096:=jY (by omega) (by omega);have hz:=dF;unfold Builtin.Str.tooLong;exact eI (by omega)
 .by_cases h0:j<1
  .rw[cV h0];have e:yN i j=Str.empty:=by unfold yN;rw[show j.toNat=0 by omega];rfl
   rw[e]at q;exact⟨by decide,⟨.str Str.empty,H,I.tok _,⟨_,rfl⟩,q⟩⟩
  .rw[cS h0];by_cases hj:(j==1||i.length==0)=pc
   .rw[cV hj];have e:yN i j=i:=by
     have hj':j=1\/i.length=0:=by simpa using hj
     unfold yN;rcases hj' with z|z
     .subst z;show(⟨#[]++i.cps⟩:Str)=i;simp
     .have ec:i.cps=#[]:=Array.size_eq_zero_iff.mp z;have er:∀k:Nat,((List.replicate k (#[]:Array Nat)).foldl (·++·) #[]:Array Nat)=#[]:=by
       intro k;induction k with
       | zero=>rfl
       | succ k ih=>rw[eB,fT];simpa using ih
      rw[ec,er,<-ec]
    rw[e]at q;exact⟨.str i,H,I,⟨t,rfl⟩,q⟩
   .rw[cS hj];refine⟨?_,⟨.str _,H,I.tok _,⟨_,rfl⟩,q⟩⟩;have hz:=dF;have hm:j.toNat*i.length<=4096*4096:=jY (by omega) (by omega);show((List.replicate j.toNat i.cps).foldl (·++·) #[]:Array Nat).size<=_;rw[JC];have YH:j.toNat*i.cps.size<=4096*4096:=hm;omega
def R3(K:qw)(f:D->D->Mp->DK->Prop):R2:=λvx vy H Q'=>CS λx y M Q=>rQ K H x vx/\rQ K H y vy/\HM K H M/\f x y M Q/\Up K H Q' Q
def WY(op:XYa):xy X (wP op) (R3 X.K (Vo op)):=by
 intro Xc s Y H vx vy v u Q' I rx ry h;obtain⟨x,y,M,Q,hx,hy,hm,q,k⟩:=h;unfold Vo at q;split at q
 .cases hx.int_inv;cases hy.int_inv;exact RQ Xc s Y H _ _ v u Q' I rx ry ⟨_,_,rfl,rfl,k _ _ _ _ .int hm .refl q⟩
 .cases hx.str_inv;cases hy.str_inv;exact Hk Xc s Y H _ _ v u Q' I rx ry ⟨_,_,rfl,rfl,q.1,k _ _ _ _ .str hm .refl q.2⟩
 .rename_i i j;obtain⟨q1,q2,q3⟩:=q;obtain⟨a,xs,rfl,ha,YN⟩:=hx.mJ;obtain⟨b,ys,rfl,hb,X7⟩:=hy.mJ;have l1:=YN.length;have l2:=X7.length;refine Pm Xc s Y H _ _ v u Q' I rx ry ⟨a,b,xs,ys,rfl,rfl,ha,hb,λz=>q1 (by rw[z]at l1;exact gk.mp l1),by omega,λz=>?_,λz p hp=>?_⟩
  .refine k _ _ _ _ (.tup ha ?_) hm .refl q3;rw[z]at X7;have e0:j=[]:=gk.mp (by simpa using X7.length);rw[e0,eJ];exact YN
  .have e:qT X.K H (upd H p (.tup (xs++ys))):=.new hp;exact k _ _ _ _ (.tup (.of ql) ((YN.append X7).mono e)) (hm.add hp) e q3
 .obtain⟨i,ei,q⟩:=rg q;obtain⟨j,ej,q1,q2⟩:=rg q;cases hx.mC;cases hy.mC;obtain⟨xs,rx',hxs,_⟩:=qB hm ei;obtain⟨ys,ry',hys,_⟩:=qB hm ej;have l1:=hxs.length;have l2:=hys.length;refine IS Xc s Y H _ _ v u Q' I rx ry ⟨_,_,xs,ys,rfl,rfl,rx',ry',by omega,λp hp=>?_⟩;have e:qT X.K H (upd H p (.lst (xs++ys))):=.new hp;exact k _ _ _ _ .ref (hm.new (c:=.lst (i++j)) hp ⟨_,ql,(hxs.append hys).mono e⟩) e (q2 p (hm.fresh hp))
 .obtain⟨j,ej,q1,q2⟩:=rg q;obtain⟨l,xs,rfl,rx',hxs⟩:=hx.mV;cases hy.mC;obtain⟨ys,ry',hys,_⟩:=qB hm ej;have l1:=hxs.length;have l2:=hys.length;refine IS Xc s Y H _ _ v u Q' I rx ry ⟨_,_,xs,ys,rfl,rfl,rx'.sq,ry',by omega,λp hp=>?_⟩;have e:qT X.K H (upd H p (.lst (xs++ys))):=.new hp;exact k _ _ _ _ .ref (hm.new (c:=.lst (_++j)) hp ⟨_,ql,(hxs.append hys).mono e⟩) e (q2 p (hm.fresh hp))
 .cases hx.int_inv;cases hy.int_inv;exact Sx Xc s Y H _ _ v u Q' I rx ry ⟨_,_,rfl,rfl,k _ _ _ _ .int hm .refl q⟩
 .cases hx.int_inv;cases hy.int_inv;exact RK Xc s Y H _ _ v u Q' I rx ry ⟨_,_,rfl,rfl,q.1,k _ _ _ _ .int hm .refl q.2⟩
 .cases hx.str_inv;cases hy.int_inv;exact Pn Xc s Y H _ _ v u Q' I rx ry ⟨_,_,rfl,rfl,q.1,k _ _ _ _ .str hm .refl q.2⟩
 .cases hx.int_inv;cases hy.int_inv;exact Qj Xc s Y H _ _ v u Q' I rx ry ⟨_,_,rfl,rfl,q.1,k _ _ _ _ .int hm .refl q.2⟩
 .cases hx.int_inv;cases hy.int_inv;exact SG Xc s Y H _ _ v u Q' I rx ry ⟨_,_,rfl,rfl,q.1,k _ _ _ _ .int hm .refl q.2⟩
 .exact q.elim
variable {a b:zn}
def HJ{f:D->D->Mp->DK->Prop}:∀Y H Q',lo X.K (λU M Q=>ta U M λx M1=>tb U M1 λy M2=>f x y M2 Q) Y H Q'->T6 (R3 X.K f) (lo X.K ta) (lo X.K tb) Y H Q':=λY H Q' zz=>x7 zz λU M Q hs hm ht k=>⟨U,M,_,hs,hm,ht,λv H1 x M1 hx Xe e1 q1=>⟨U,M1,_,hs.mono e1,Xe,q1,λu H2 y M2 hy Xv e2 q2=>⟨x,y,M2,Q,hx.mono e2,hy,Xv,q2,vQ (e1.trans e2) k⟩⟩⟩
def pW(ha:E3 X a ta)(hb:E3 X b tb):E3 X (.BinOp a op b pos) (o3 op ta tb):=PE.mono (QP (WY op) ha hb) HJ
end
def sW(f:D->D->Option Bool):T0 D->T0 D->Option Bool
 | x::a,y::b=>(f x y).bind λp=>(sW f a b).map λq=>p&&q
 | _,_=>Fa pc
def zc(M:Mp):Nat->D->D->Option Bool
 | 0,_,_=>Db
 | n+1,x,y=>match x,y with
  | .mG,.mG=>Fa pc
  | .bl a,.bl b=>Fa (a==b)
  | .int a,.int b=>Fa (a==b)
  | .str a,.str b=>Fa (a==b)
  | .mG,.bl _=>Fa lf
  | .mG,.int _=>Fa lf
  | .mG,.str _=>Fa lf
  | .bl _,.mG=>Fa lf
  | .bl _,.str _=>Fa lf
  | .int _,.mG=>Fa lf
  | .int _,.str _=>Fa lf
  | .str _,.mG=>Fa lf
  | .str _,.bl _=>Fa lf
  | .str _,.int _=>Fa lf
  | .tup a,.tup b=>(sW (zc M n) a b).map λp=>p&&a.length==b.length
  | .ref a,.ref b=>(oX M a).bind λi=>(oX M b).bind λj=>if i.length=j.length then sW (zc M n) i j else Fa lf
  | _,_=>Db
variable {Xc:T0 (Uf × Obj)}{Y:St}{s:Sd}
theorem yU{f:D->D->Option Bool}:∀{ds es:T0 D} {xs:T0 V} {b:Bool},qp X.K H ds xs->qp X.K H es xs->(∀x y v b,rQ X.K H x v->rQ X.K H y v->f x y=Fa b->b=pc)->sW f ds es=Fa b->b=pc
 | [],[],_,_,_,_,_,e=>(cY e).symm
 | [],_::_,_,_,h,g,_,_=>by have h1:=h.length;have h2:=g.length;rw[<-h1]at h2;simp at h2
 | _::_,[],_,_,h,g,_,_=>by have h1:=h.length;have h2:=g.length;rw[<-h1]at h2;simp at h2
 | d::ds,e::es,xs,b,h,g,k,q=>by
  obtain⟨x,r,rfl,h1,h2⟩:=h.inv;obtain⟨x',r',e',g1,g2⟩:=g.inv;cases e';unfold sW at q;cases p1:f d e with
  | none=>rw[p1]at q;cases q
  | some b1=>
   rw[p1]at q;cases p2:sW f ds es with
   | none=>rw[p2]at q;cases q
   | some b2=>rw[p2]at q;have q':(b1&&b2)=b:=cY q;rw[<-q',k _ _ _ _ h1 g1 p1,yU h2 g2 k p2];rfl
theorem zk(I:Inv X Xc Y H s)(hm:HM X.K H M):∀(n:Nat) (x y:D) (v:V) (b:Bool),rQ X.K H x v->rQ X.K H y v->zc M n x y=Fa b->b=pc
 | 0,_,_,_,_,_,_,e=>by cases e
 | n+1,x,y,v,b,hx,hy,e=>by
  unfold zc at e;split at e
  .exact(cY e).symm
  .rw[hx.mF]at hy;cases hy.mF;exact(cY e).symm.trans (by simp)
  .rw[hx.int_inv]at hy;cases hy.int_inv;exact(cY e).symm.trans (by simp)
  .rw[hx.str_inv]at hy;cases hy.str_inv;exact(cY e).symm.trans (by simp)
  .rw[hx.mE]at hy;cases hy.mF
  .rw[hx.mE]at hy;cases hy.int_inv
  .rw[hx.mE]at hy;cases hy.str_inv
  .rw[hx.mF]at hy;cases hy.mE
  .rw[hx.mF]at hy;cases hy.str_inv
  .rw[hx.int_inv]at hy;cases hy.mE
  .rw[hx.int_inv]at hy;cases hy.str_inv
  .rw[hx.str_inv]at hy;cases hy.mE
  .rw[hx.str_inv]at hy;cases hy.mF
  .rw[hx.str_inv]at hy;cases hy.int_inv
  .obtain⟨a,xs,rfl,h1,h2⟩:=hx.mJ;obtain⟨a',ys,e',g1,g2⟩:=hy.mJ;cases e';rw[I.mY g1 h1]at g2;cases p:sW (zc M n) _ _ with
   | none=>rw[p]at e;cases e
   | some b1=>rw[p]at e;have e':=cY e;rw[<-e',yU h2 g2 (zk I hm n) p,h2.length,g2.length];simp
  .rw[hx.mC]at hy;cases hy.mC;cases p:oX M _ with
   | none=>rw[p]at e;cases e
   | some i=>rw[p]at e;have e:(if i.length=i.length then sW (zc M n) i i else Fa lf)=Fa b:=e;rw[cV rfl]at e;obtain⟨xs,_,h2,_⟩:=qB hm p;exact yU h2 h2 (zk I hm n) e
  .cases e
theorem BA{A:Ar}:∀{ds es:T0 D} {xs ys:T0 V} {us ws:T0 Vl} {b:Bool},sW f ds es=Fa b->qp X.K H ds xs->qp X.K H es ys->qE xs us->qE ys ws->
  (∀x y b vx vy u w,f x y=Fa b->rQ X.K H x vx->rQ X.K H y vy->qQ vx u->qQ vy w->SeqAt.EqAt A s u w b)->
  ∃e:Nat->Bool,(∀j (h1:j<us.length) (h2:j<ws.length),SeqAt.EqAt A s us[j] ws[j] (e j))/\(List.range (min us.length ws.length)).all e=b
 | [],es,xs,ys,us,ws,b,q,hx,hy,rx,ry,k=>by
  have e1:=hx.nil_inv;subst e1;cases rx;refine⟨λ_=>pc,λj h1=>absurd h1 (by simp),?_⟩;have q':Fa pc=Fa b:=by cases es<;>exact q
  simpa using(cY q')
 | d::ds,[],xs,ys,us,ws,b,q,hx,hy,rx,ry,k=>by
  have e1:=hy.nil_inv;subst e1;cases ry;refine⟨λ_=>pc,λj _ h2=>absurd h2 (by simp),?_⟩;have q':Fa pc=Fa b:=q
  simpa using(cY q')
 | d::ds,e::es,xs,ys,us,ws,b,q,hx,hy,rx,ry,k=>by
  obtain⟨x,r,rfl,h1,h2⟩:=hx.inv;obtain⟨y,r',rfl,g1,g2⟩:=hy.inv;cases rx with
  | cons r1 r2=>
   cases ry with
   | cons t1 t2=>
    unfold sW at q;cases p1:f d e with
    | none=>rw[p1]at q;cases q
    | some b1=>
     rw[p1]at q;cases p2:sW f ds es with
     | none=>rw[p2]at q;cases q
     | some b2=>
      rw[p2]at q;have q':(b1&&b2)=b:=cY q;obtain⟨e',he,ha⟩:=BA p2 h2 g2 r2 t2 k;refine⟨λj=>match j with|0=>b1|j+1=>e' j,λj l1 l2=>?_,?_⟩
      .cases j with
       | zero=>exact k _ _ _ _ _ _ _ p1 h1 g1 r1 t1
       | succ j=>exact he j (by simpa using l1) (by simpa using l2)
      .rw[<-q',<-ha];simp only[dU];rw[Nat.succ_min_succ,iz,eR,jy];rfl
theorem EK(I:Inv X Xc Y H s)(hm:HM X.K H M):∀(n:Nat) (A:Ar) (x y:D) (b:Bool) (vx vy:V) (u w:Vl),A.units+n<Y'->zc M n x y=Fa b->rQ X.K H x vx->rQ X.K H y vy->qQ vx u->qQ vy w->
  SeqAt.RcAt A s u w b/\SeqAt.EqAt A s u w b/\SeqAt.RcNeAt A s u w (!b)
 | 0,_,_,_,_,_,_,_,_,_,e,_,_,_,_=>by cases e
 | n+1,A,x,y,b,vx,vy,u,w,hu,e,hx,hy,rx,ry=>by
  have hu1:A.units<Y':=by omega
  have hui:A.in1.units+n<Y':=by show A.units+1+n<Y';omega
  unfold zc at e;split at e
  .cases hx.mE;cases hy.mE;cases rx;cases ry;cases e;exact⟨.none_none,.same _,.none_none⟩
  .cases hx.mF;cases hy.mF;cases rx;cases ry;cases e;exact⟨.bool_bool _ _,.bool_bool _ _,.bool_bool _ _⟩
  .cases hx.int_inv;cases hy.int_inv;obtain⟨t,rfl⟩:=rx;obtain⟨t',rfl⟩:=ry;cases e;exact⟨.int_int _ _ _ _,.int_int _ _ _ _,.int_int _ _ _ _⟩
  .cases hx.str_inv;cases hy.str_inv;obtain⟨t,rfl⟩:=rx;obtain⟨t',rfl⟩:=ry;cases e;exact⟨.str_str _ _ _ _,.str_str _ _ _ _,.str_str _ _ _ _⟩
  .cases hx.mE;cases hy.mF;cases rx;cases ry;cases e;exact⟨.none_bool _,.none_bool _,.none_bool _⟩
  .cases hx.mE;cases hy.int_inv;cases rx;obtain⟨t',rfl⟩:=ry;cases e;exact⟨.none_int _ _,.none_int _ _,.none_int _ _⟩
  .cases hx.mE;cases hy.str_inv;cases rx;obtain⟨t',rfl⟩:=ry;cases e;exact⟨.none_str _ _,.none_str _ _,.none_str _ _⟩
  .cases hx.mF;cases hy.mE;cases rx;cases ry;cases e;exact⟨.bool_none _,.bool_none _,.bool_none _⟩
  .cases hx.mF;cases hy.str_inv;cases rx;obtain⟨t',rfl⟩:=ry;cases e;exact⟨.bool_str _ _ _,.bool_str _ _ _,.bool_str _ _ _⟩
  .cases hx.int_inv;cases hy.mE;obtain⟨t,rfl⟩:=rx;cases ry;cases e;exact⟨.int_none _ _,.int_none _ _,.int_none _ _⟩
  .cases hx.int_inv;cases hy.str_inv;obtain⟨t,rfl⟩:=rx;obtain⟨t',rfl⟩:=ry;cases e;exact⟨.int_str _ _ _ _,.int_str _ _ _ _,.int_str _ _ _ _⟩
  .cases hx.str_inv;cases hy.mE;obtain⟨t,rfl⟩:=rx;cases ry;cases e;exact⟨.str_none _ _,.str_none _ _,.str_none _ _⟩
  .cases hx.str_inv;cases hy.mF;obtain⟨t,rfl⟩:=rx;cases ry;cases e;exact⟨.str_bool _ _ _,.str_bool _ _ _,.str_bool _ _ _⟩
  .cases hx.str_inv;cases hy.int_inv;obtain⟨t,rfl⟩:=rx;obtain⟨t',rfl⟩:=ry;cases e;exact⟨.str_int _ _ _ _,.str_int _ _ _ _,.str_int _ _ _ _⟩
  .rename_i da db;obtain⟨a1,xs,rfl,h1,h2⟩:=hx.mJ;obtain⟨a2,ys,rfl,g1,g2⟩:=hy.mJ;cases rx;cases ry;obtain⟨us,r1,p1,_⟩:=I.tuple h1;obtain⟨ws,r2,p2,_⟩:=I.tuple g1;cases p:sW (zc M n) da db with
   | none=>rw[p]at e;cases e
   | some b1=>
    have e0:=e;rw[p]at e;have e':(b1&&da.length==db.length)=b:=cY e;obtain⟨f,hf,ha⟩:=BA (A:=A.in1) (s:=s) p h2 g2 r1 r2 λx y b vx vy u w q1 q2 q3 q4 q5=>(EK I hm n A.in1 x y b vx vy u w hui q1 q2 q3 q4 q5).2.1;have hb:((List.range (min us.toArray.size ws.toArray.size)).all f&&us.toArray.size==ws.toArray.size)=b:=by rw[de,de,ha,<-e',<-r1.length,<-r2.length,h2.length,g2.length]
    have hf':∀j (l1:j<us.toArray.size) (l2:j<ws.toArray.size),SeqAt.EqAt A.in1 s us.toArray[j] ws.toArray[j] (f j):=λj l1 l2=>by simpa using hf j (by simpa using l1) (by simpa using l2)
    have c1:SeqAt.RcAt A s (.ref a1) (.ref a2) b:=by rw[<-hb];exact .tuples p1 p2 hu1 hf'
    have c3:SeqAt.RcNeAt A s (.ref a1) (.ref a2) (!b):=by have:=SeqAt.RcNeAt.tuples p1 p2 hu1 hf';rw[hb]at this;exact this
    refine⟨c1,?_,c3⟩;by_cases ea:a1=a2
    .subst ea;have:b=pc:=zk I hm (n+1) (.tup da) (.tup db) (.ref a1) b hx hy (by unfold zc;exact e0);rw[this];exact .same _
    .exact .of_refs ea c1
  .cases hx.mC;cases hy.mC;cases rx;cases ry;rename_i a1 a2;have e0:=e;cases p:oX M a1 with
   | none=>rw[p]at e;cases e
   | some i=>
    cases p':oX M a2 with
    | none=>rw[p,p']at e;cases e
    | some j=>
     rw[p,p']at e;have e:(if i.length=j.length then sW (zc M n) i j else Fa lf)=Fa b:=e;obtain⟨xs,q1,h2,_⟩:=qB hm p;obtain⟨ys,q2,g2,_⟩:=qB hm p';obtain⟨us,r1,p1,_⟩:=I.list q1;obtain⟨ws,r2,p2,_⟩:=I.list q2;have Xh:SeqAt.RcAt A s (.ref a1) (.ref a2) b/\SeqAt.RcNeAt A s (.ref a1) (.ref a2) (!b):=by
      by_cases hl:i.length=j.length
      .rw[cV hl]at e;obtain⟨f,hf,ha⟩:=BA (A:=A.in1) (s:=s) e h2 g2 r1 r2 λx y b vx vy u w q1 q2 q3 q4 q5=>(EK I hm n A.in1 x y b vx vy u w hui q1 q2 q3 q4 q5).2.1;have hsz:us.toArray.size=ws.toArray.size:=by rw[de,de,<-r1.length,<-r2.length,<-h2.length,<-g2.length];exact hl
       have hf':∀j (l1:j<us.toArray.size) (l2:j<ws.toArray.size),SeqAt.EqAt A.in1 s us.toArray[j] ws.toArray[j] (f j):=λj l1 l2=>by simpa using hf j (by simpa using l1) (by simpa using l2)
       have hb:(List.range us.toArray.size).all f=b:=by rw[<-ha];rw[de,de]at hsz;rw[de,<-hsz,Nat.min_self]
       rw[<-hb];exact⟨.lists p1.isList p2.isList hsz hu1 hf',.lists p1.isList p2.isList hsz hu1 hf'⟩
      .rw[cS hl]at e;cases e;have hsz:(us.toArray.size != ws.toArray.size)=pc:=by
        rw[de,de,<-r1.length,<-r2.length,<-h2.length,<-g2.length]
        simpa using hl
       exact⟨.lists_lengths p1.isList p2.isList hsz hu1,.lists_lengths p1.isList p2.isList hsz hu1⟩
     refine⟨Xh.1,?_,Xh.2⟩;by_cases ea:a1=a2
     .subst ea;have:b=pc:=zk I hm (n+1) (.ref a1) (.ref a1) (.ref a1) b .ref .ref (by unfold zc;exact e0);rw[this];exact .same _
     .exact .of_refs ea Xh.1
  .cases e
def vk:D->Bool
 | .mG=>pc
 | .bl _=>pc
 | .int _=>pc
 | .str _=>pc
 | _=>lf
def Qw:D->D->Bool
 | .mG,.mG=>pc
 | .bl a,.bl b=>a==b
 | .bl a,.int b=>(if a then 1 else 0)==b
 | .int a,.bl b=>a==(if b then 1 else 0)
 | .int a,.int b=>a==b
 | .str a,.str b=>a==b
 | _,_=>lf
def inD(x:D)(ds:T0 D):Bool:=ds.any λy=>Qw y x
def L4(M:Mp):D->Option (T0 D)
 | .tup ds=>Fa ds
 | .ref a=>oX M a
 | .rl ds=>Fa ds
 | _=>Db
def Dy(i j:Str):Bool:=!(Builtin.Str.occurrences j i 0 j.length 1).isEmpty
def Rv(YM:Bool)(x y:D)(M:Mp)(Q:DK):Prop:=match x,y with
 | .str i,.str j=>Q (.bl (if YM then !Dy i j else Dy i j)) M
 | _,_=>(L4 M y).elim False λds=>vk x=pc/\ds.all vk=pc/\Q (.bl (if YM then !inD x ds else inD x ds)) M
def OH(op:CmpOp)(x y:D)(M:Mp)(Q:DK):Prop:=match op with
 | .Eq=>(zc M 9 x y).elim False λb=>Q (.bl b) M
 | .NotEq=>(zc M 9 x y).elim False λb=>Q (.bl (!b)) M
 | .Lt=>match x,y with|.int i,.int j=>Q (.bl (decide (i<j))) M|_,_=>False
 | .LtE=>match x,y with|.int i,.int j=>Q (.bl (decide (i<=j))) M|_,_=>False
 | .Gt=>match x,y with|.int i,.int j=>Q (.bl (decide (j<i))) M|_,_=>False
 | .GtE=>match x,y with|.int i,.int j=>Q (.bl (decide (j<=i))) M|_,_=>False
 | .Is=>match y with|.mG=>Q (.bl (match x with|.mG=>pc|_=>lf)) M|_=>False
 | .IsNot=>match y with|.mG=>Q (.bl (match x with|.mG=>lf|_=>pc)) M|_=>False
 | .In=>Rv lf x y M Q
 | .NotIn=>Rv pc x y M Q
def k3(op:CmpOp)(ta tb:T3):T3:=λU M Q=>ta U M λx M1=>tb U M1 λy M2=>OH op x y M2 Q
def zC(h:rQ K H d v)(f:vk d=pc):yB v=pc:=by
 cases d with
 | mG=>rw[h.mE];rfl
 | bl _=>rw[h.mF];rfl
 | int _=>rw[h.int_inv];rfl
 | str _=>rw[h.str_inv];rfl
 | _=>cases f
def IL(h:rQ K H d v)(g:rQ K H e w)(f:vk d=pc)(f':vk e=pc):N8 v w=Qw d e:=by
 cases d with
 | mG=>
  rw[h.mE];cases e with
  | mG=>rw[g.mE];rfl
  | bl _=>rw[g.mF];rfl
  | int _=>rw[g.int_inv];rfl
  | str _=>rw[g.str_inv];rfl
  | _=>cases f'
 | bl _=>
  rw[h.mF];cases e with
  | mG=>rw[g.mE];rfl
  | bl _=>rw[g.mF];rfl
  | int _=>rw[g.int_inv];rfl
  | str _=>rw[g.str_inv];rfl
  | _=>cases f'
 | int _=>
  rw[h.int_inv];cases e with
  | mG=>rw[g.mE];rfl
  | bl _=>rw[g.mF];rfl
  | int _=>rw[g.int_inv];rfl
  | str _=>rw[g.str_inv];rfl
  | _=>cases f'
 | str _=>
  rw[h.str_inv];cases e with
  | mG=>rw[g.mE];rfl
  | bl _=>rw[g.mF];rfl
  | int _=>rw[g.int_inv];rfl
  | str _=>rw[g.str_inv];rfl
  | _=>cases f'
 | _=>cases f
theorem Fh:∀{ds:T0 D} {xs:T0 V},qp K H ds xs->ds.all vk=pc->xs.all yB=pc
 | [],_,h,_=>by rw[h.nil_inv];rfl
 | d::ds,_,h,f=>by obtain⟨x,r,rfl,h1,h2⟩:=h.inv;rw[eR,dO]at f ⊢;exact⟨zC h1 f.1,Fh h2 f.2⟩
theorem Mu(g:rQ K H e w)(f':vk e=pc):∀{ds:T0 D} {xs:T0 V},qp K H ds xs->ds.all vk=pc->inV w xs=inD e ds
 | [],_,h,_=>by rw[h.nil_inv];rfl
 | d::ds,_,h,f=>by obtain⟨x,r,rfl,h1,h2⟩:=h.inv;rw[eR,dO]at f;show(N8 x w||inV w r)=(Qw d e||inD e ds);rw[IL h1 g f.1 f',Mu g f' h2 f.2]
def EW(hm:HM K H M){y:D}{v:V}{ds:T0 D}(h:rQ K H y v)(q:L4 M y=Fa ds):∃p xs,v=.ref p/\(zb K H p xs\/vn K H p xs)/\qp K H ds xs:=by
 cases y with
 | tup es=>cases q;obtain⟨a,xs,rfl,h1,h2⟩:=h.mJ;exact⟨a,xs,rfl,.inr h1,h2⟩
 | ref a=>cases h.mC;obtain⟨xs,h1,h2,_⟩:=qB hm q;exact⟨a,xs,rfl,.inl h1,h2⟩
 | rl es=>cases q;obtain⟨a,xs,rfl,h1,h2⟩:=h.mV;exact⟨a,xs,rfl,.inl h1.sq,h2⟩
 | _=>cases q
variable {c:zn}{tc:T3}
section
def Kf(op:CmpOp)(hu:X.A.units+9<Y'):xy X (Op op) (R3 X.K (OH op)):=by
 intro Xc s Y H vx vy v u Q' I rx ry h;obtain⟨x,y,M,Q,hx,hy,hm,q,k⟩:=h;have bk:∀b,Q (.bl b) M->EP X Xc Y Q' (.bool b) s:=λb q=>⟨.bl b,H,I,rfl,k _ _ _ _ .bl hm .refl q⟩;have inn:∀YM:Bool,((L4 M y).elim False λds=>vk x=pc/\ds.all vk=pc/\Q (.bl (if YM then !inD x ds else inD x ds)) M)->VQ X.K YM vx vy H Q':=λYM q=>by obtain⟨ds,e,f1,f2,q⟩:=rg q;obtain⟨p,xs,rfl,h1,h2⟩:=EW hm hy e;refine⟨p,xs,rfl,h1,zC hx f1,Fh h2 f2,?_⟩;rw[Mu hx f1 h2 f2];exact k _ _ _ _ .bl hm .refl q
 cases op with
 | Eq=>obtain⟨b,e,q⟩:=rg q;exact(EK I hm 9 X.A x y b vx vy v u hu e hx hy rx ry).1 _ _ _ _ (bk b q)
 | NotEq=>obtain⟨b,e,q⟩:=rg q;exact(EK I hm 9 X.A x y b vx vy v u hu e hx hy rx ry).2.2 _ _ _ _ (bk _ q)
 | Lt=>
  cases x<;>first|exact q.elim|skip
  cases y<;>first|exact q.elim|skip
  cases hx.int_inv;cases hy.int_inv;exact UZ Xc s Y H _ _ v u Q' I rx ry ⟨_,_,rfl,rfl,k _ _ _ _ .bl hm .refl q⟩
 | LtE=>
  cases x<;>first|exact q.elim|skip
  cases y<;>first|exact q.elim|skip
  cases hx.int_inv;cases hy.int_inv;exact Uc Xc s Y H _ _ v u Q' I rx ry ⟨_,_,rfl,rfl,k _ _ _ _ .bl hm .refl q⟩
 | Gt=>
  cases x<;>first|exact q.elim|skip
  cases y<;>first|exact q.elim|skip
  cases hx.int_inv;cases hy.int_inv;exact Uh Xc s Y H _ _ v u Q' I rx ry ⟨_,_,rfl,rfl,k _ _ _ _ .bl hm .refl q⟩
 | GtE=>
  cases x<;>first|exact q.elim|skip
  cases y<;>first|exact q.elim|skip
  cases hx.int_inv;cases hy.int_inv;exact T1 Xc s Y H _ _ v u Q' I rx ry ⟨_,_,rfl,rfl,k _ _ _ _ .bl hm .refl q⟩
 | Is=>
  cases y<;>first|exact q.elim|skip
  cases hy.mE;refine RF Xc s Y H _ _ v u Q' I rx ry ⟨rfl,k _ _ _ _ ?_ hm .refl q⟩;cases x with
  | mG=>rw[hx.mE];exact .bl
  | bl _=>rw[hx.mF];exact .bl
  | int _=>rw[hx.int_inv];exact .bl
  | str _=>rw[hx.str_inv];exact .bl
  | tup _=>obtain⟨a,xs,rfl,_⟩:=hx.mJ;exact .bl
  | ref _=>rw[hx.mC];exact .bl
  | ty _=>rw[hx.nX];exact .bl
  | rl _=>obtain⟨a,xs,rfl,_⟩:=hx.mV;exact .bl
 | IsNot=>
  cases y<;>first|exact q.elim|skip
  cases hy.mE;refine OP Xc s Y H _ _ v u Q' I rx ry ⟨rfl,k _ _ _ _ ?_ hm .refl q⟩;cases x with
  | mG=>rw[hx.mE];exact .bl
  | bl _=>rw[hx.mF];exact .bl
  | int _=>rw[hx.int_inv];exact .bl
  | str _=>rw[hx.str_inv];exact .bl
  | tup _=>obtain⟨a,xs,rfl,_⟩:=hx.mJ;exact .bl
  | ref _=>rw[hx.mC];exact .bl
  | ty _=>rw[hx.nX];exact .bl
  | rl _=>obtain⟨a,xs,rfl,_⟩:=hx.mV;exact .bl
 | In=>
  have q:Rv lf x y M Q:=q;unfold Rv at q;split at q
  .cases hx.str_inv;cases hy.str_inv;exact KW Xc s Y H _ _ v u Q' I rx ry ⟨_,_,rfl,rfl,k _ _ _ _ .bl hm .refl q⟩
  .exact Kx Xc s Y H _ _ v u Q' I rx ry (inn lf q)
 | NotIn=>
  have q:Rv pc x y M Q:=q;unfold Rv at q;split at q
  .cases hx.str_inv;cases hy.str_inv;exact FC Xc s Y H _ _ v u Q' I rx ry ⟨_,_,rfl,rfl,k _ _ _ _ .bl hm .refl q⟩
  .exact Fw Xc s Y H _ _ v u Q' I rx ry (inn pc q)
variable {a b:zn}
def qh{op:CmpOp}(hu:X.A.units+9<Y')(ha:E3 X a ta)(hb:E3 X b tb)(hm:wT op b=lf:=by first|exact IC _|with_unfolding_all rfl):E3 X (.Compare a [op] [b] pos) (k3 op ta tb):=PE.mono (Ja (Kf op hu) ha hb hm) HJ
def b3(t:T3):AA:=λU M Q=>t U M λd M1=>match d with|.bl c=>Q c M1|_=>False
def uM(h:E3 X e t)(he:∀XJ,isTrue e X.env XJ=(do let v<-XJ;XXb e.pos;xz [v] (truthy v)):=by intro _;rfl):B3 X e (b3 t):=PT.mono (SH h he) λY H Q' zz=>x7 zz λU M Q hs hm ht k=>
 ⟨U,M,_,hs,hm,ht,λv H1 d M1 hd Xe e1 q1=>by
  cases d with
  | bl c=>exact⟨c,hd.mF,k c H1 M1 Xe e1 q1⟩
  | _=>exact q1.elim⟩
def pK{op:CmpOp}(hu:X.A.units+9<Y')(ha:E3 X a ta)(hb:E3 X b tb)(hm:wT op b=lf:=by first|exact IC _|with_unfolding_all rfl):B3 X (.Compare a [op] [b] pos) (b3 (k3 op ta tb)):=PT.mono (Jj (Kf op hu) ha hb hm) λY H Q' zz=>x7 zz λU M Q hs hm ht k=>
 HJ Y H _ ⟨U,M,_,hs,hm,ht,λv H1 d M1 hd Xe e1 q1=>by
  cases d with
  | bl c=>exact⟨c,hd.mF,k c H1 M1 Xe e1 q1⟩
  | _=>exact q1.elim⟩
end
variable {tA tB:AA}{rest:T0 zn}
section
variable {a b:zn}
def OR(t u:AA):AA:=λU M Q=>t U M λc M1=>if c=pc then u U M1 Q else Q lf M1
def W'(t u:AA):AA:=λU M Q=>t U M λc M1=>if c=pc then Q pc M1 else u U M1 Q
def Ud(t:AA):AA:=λU M Q=>t U M λc M1=>Q (!c) M1
def W3(X:Cx)(e:zn)(t:AA):Prop:=PW X e (Th X.K t)
def PW.mono{t t':TT}(h:PW X e t)(m:∀Y H Q,t' Y H Q->t Y H Q):PW X e t':=λwh Xc s Y H Q I q=>h wh Xc s Y H Q I (m Y H Q q)
def W3.b3(h:W3 X e t):B3 X e t:=PW.pt h
def yt(h:B3 X a tA):W3 X (.BoolOp .And [a] pos) tA:=PY h
def xb(h:B3 X a tA):W3 X (.BoolOp .Or [a] pos) tA:=Ss h
def yG(ha:B3 X a tA)(hb:W3 X (.BoolOp .And (b::rest) pos) tB):W3 X (.BoolOp .And (a::b::rest) pos) (OR tA tB):=PW.mono (RM ha hb) λY H Q' zz=>x7 zz λU M Q hs hm ht k=>
 ⟨U,M,_,hs,hm,ht,λc H1 M1 Xe e1 q1=>by
  cases c with
  | true=>exact(cV rfl).mpr ⟨U,M1,Q,hs.mono e1,Xe,(cV rfl).mp q1,λb H' M' x1 x2 x3=>k b H' M' x1 (e1.trans x2) x3⟩
  | false=>exact(cS dh).mpr (k lf H1 M1 Xe e1 ((cS dh).mp q1))⟩
def xF(ha:B3 X a tA)(hb:W3 X (.BoolOp .Or (b::rest) pos) tB):W3 X (.BoolOp .Or (a::b::rest) pos) (W' tA tB):=PW.mono (U' ha hb) λY H Q' zz=>x7 zz λU M Q hs hm ht k=>
 ⟨U,M,_,hs,hm,ht,λc H1 M1 Xe e1 q1=>by
  cases c with
  | true=>exact(cV rfl).mpr (k pc H1 M1 Xe e1 ((cV rfl).mp q1))
  | false=>exact(cS dh).mpr ⟨U,M1,Q,hs.mono e1,Xe,(cS dh).mp q1,λb H' M' x1 x2 x3=>k b H' M' x1 (e1.trans x2) x3⟩⟩
def xc(ha:B3 X a tA):B3 X (.UnaryOp .Not a pos) (Ud tA):=PT.mono (SV ha) λY H Q' zz=>x7 zz λU M Q hs hm ht k=>⟨U,M,_,hs,hm,ht,λc H1 M1 Xe e1 q1=>k _ H1 M1 Xe e1 q1⟩
def UD(ta tb:T3):T3:=λU M Q=>ta U M λd M1=>match d with|.bl c=>if c=pc then tb U M1 Q else Q (.bl lf) M1|_=>False
def Wc(ta tb:T3):T3:=λU M Q=>ta U M λd M1=>match d with|.bl c=>if c=pc then Q (.bl pc) M1 else tb U M1 Q|_=>False
def Ue(ta:T3):T3:=λU M Q=>ta U M λd M1=>match d with|.bl c=>Q (.bl (!c)) M1|_=>False
def sj{op}(h:E3 X a ta):E3 X (.BoolOp op [a] pos) ta:=S9 h
def sV(ha:E3 X a ta)(hb:E3 X (.BoolOp .And (b::rest) pos) tb):E3 X (.BoolOp .And (a::b::rest) pos) (UD ta tb):=PE.mono (Ry ha hb) λY H Q' zz=>x7 zz λU M Q hs hm ht k=>
 ⟨U,M,_,hs,hm,ht,λv H1 d M1 hd Xe e1 q1=>by
  cases d with
  | bl c=>
   refine⟨c,hd.mF,?_⟩;cases c with
   | true=>exact(cV rfl).mpr ⟨U,M1,Q,hs.mono e1,Xe,(cV rfl).mp q1,vQ e1 k⟩
   | false=>exact(cS dh).mpr (k _ H1 _ M1 .bl Xe e1 ((cS dh).mp q1))
  | _=>exact q1.elim⟩
def Jl(ha:E3 X a ta)(hb:E3 X (.BoolOp .Or (b::rest) pos) tb):E3 X (.BoolOp .Or (a::b::rest) pos) (Wc ta tb):=PE.mono (UN ha hb) λY H Q' zz=>x7 zz λU M Q hs hm ht k=>
 ⟨U,M,_,hs,hm,ht,λv H1 d M1 hd Xe e1 q1=>by
  cases d with
  | bl c=>
   refine⟨c,hd.mF,?_⟩;cases c with
   | true=>exact(cV rfl).mpr (k _ H1 _ M1 .bl Xe e1 ((cV rfl).mp q1))
   | false=>exact(cS dh).mpr ⟨U,M1,Q,hs.mono e1,Xe,(cS dh).mp q1,vQ e1 k⟩
  | _=>exact q1.elim⟩
def RX(ha:E3 X a ta):E3 X (.UnaryOp .Not a pos) (Ue ta):=PE.mono (S5 ha) λY H Q' zz=>x7 zz λU M Q hs hm ht k=>
 ⟨U,M,_,hs,hm,ht,λv H1 d M1 hd Xe e1 q1=>by
  cases d with
  | bl c=>exact⟨c,hd.mF,k _ H1 _ M1 .bl Xe e1 q1⟩
  | _=>exact q1.elim⟩
def WX(t:AA)(ta tb:T3):T3:=λU M Q=>t U M λc M1=>if c=pc then ta U M1 Q else tb U M1 Q
def QU(hc:B3 X c tA)(ha:E3 X a ta)(hb:E3 X b tb):E3 X (.IfExp c a b pos) (WX tA ta tb):=PE.mono (Lo hc ha hb) λY H Q' zz=>x7 zz λU M Q hs hm ht k=>
 ⟨U,M,_,hs,hm,ht,λc H1 M1 Xe e1 q1=>by
  cases c with
  | true=>exact(cV rfl).mpr ⟨U,M1,Q,hs.mono e1,Xe,(cV rfl).mp q1,vQ e1 k⟩
  | false=>exact(cS dh).mpr ⟨U,M1,Q,hs.mono e1,Xe,(cS dh).mp q1,vQ e1 k⟩⟩
def Vw(x y:D)(M:Mp)(Q:DK):Prop:=match x,y with
 | .tup ds,.int i=>(wB ds i).elim False λd=>Q d M
 | .ref a,.int i=>(oX M a).elim False λds=>(wB ds i).elim False λd=>Q d M
 | .rl ds,.int i=>(wB ds i).elim False λd=>Q d M
 | .str z,.int i=>z.length<=Ch/\(wB z.cps.toList i).elim False λc=>Q (.str ⟨#[c]⟩) M
 | _,_=>False
def i3(ta tb:T3):T3:=λU M Q=>ta U M λx M1=>tb U M1 λy M2=>Vw x y M2 Q
def FP{K:qw}{d:D}(h:qp K H ds xs)(e:wB ds i=Fa d):∃v,wB xs i=Fa v/\rQ K H d v:=by
 unfold wB at e ⊢;rw[<-h.length];cases q:Gn ds.length i with
 | none=>rw[q]at e;cases e
 | some j=>rw[q]at e;exact h.get e
def WW:Tg X (R3 X.K Vw):=by
 intro value Xm Xc s Y H vx vy v u Q' I rx ry h hs;obtain⟨x,y,M,Q,hx,hy,hm,q,k⟩:=h;unfold Vw at q;split at q
 .obtain⟨d,e,q⟩:=rg q;obtain⟨p,xs,rfl,h1,h2⟩:=hx.mJ;cases hy.int_inv;obtain⟨w,e1,e2⟩:=FP h2 e;exact Rf value Xm Xc s Y H _ _ v u Q' I rx ry ⟨p,xs,_,w,rfl,rfl,h1,e1,k _ _ _ _ e2 hm .refl q⟩ hs
 .obtain⟨ds,e0,q⟩:=rg q;obtain⟨d,e,q⟩:=rg q;cases hx.mC;cases hy.int_inv;obtain⟨xs,h1,h2,_⟩:=qB hm e0;obtain⟨w,e1,e2⟩:=FP h2 e;exact JD value Xm Xc s Y H _ _ v u Q' I rx ry ⟨_,xs,_,w,rfl,rfl,h1,e1,k _ _ _ _ e2 hm .refl q⟩ hs
 .obtain⟨d,e,q⟩:=rg q;obtain⟨p,xs,rfl,h1,h2⟩:=hx.mV;cases hy.int_inv;obtain⟨w,e1,e2⟩:=FP h2 e;exact JD value Xm Xc s Y H _ _ v u Q' I rx ry ⟨p,xs,_,w,rfl,rfl,h1.sq,e1,k _ _ _ _ e2 hm .refl q⟩ hs
 .obtain⟨q1,q⟩:=q;obtain⟨c,e,q⟩:=rg q;cases hx.str_inv;cases hy.int_inv;exact Sh value Xm Xc s Y H _ _ v u Q' I rx ry ⟨_,_,c,rfl,rfl,q1,e,k _ _ _ _ .str hm .refl q⟩ hs
 .exact q.elim
def pL(ha:E3 X a ta)(hb:E3 X b tb)(hs:Bl b:=by exact λ_ _=>rfl):E3 X (.Subscript a b pos) (i3 ta tb):=PE.mono (Mv WW ha hb hs) HJ
def uY(ds:T0 D)(lo hi:Option Int):T0 D:=(ds.drop (HT.tL ds.length 0 lo)).take (HT.tL ds.length ds.length hi - HT.tL ds.length 0 lo)
def EJ{K:qw}(q:qp K H ds xs):qp K H (uY ds l h) (Cn xs l h):=by unfold uY Cn;rw[q.length];exact(q.drop _).take _
abbrev Td:=vv->Mp->(Option Int->Mp->Prop)->Prop
def W1(K:qw)(t:Td):TO:=λY H Q'=>C4 λU M Q=>zS K H Y U/\HM K H M/\t U M Q/\∀o H' M',HM K H' M'->qT K H H'->Q o M'->Q' o H'
def O3(X:Cx)(e:Option zn)(t:Td):Prop:=PO X e (W1 X.K t)
def Qu:Td:=λ_ M Q=>Q Db M
def T5(t:T3):Td:=λU M Q=>t U M λd M1=>match d with|.int i=>Q (Fa i) M1|_=>False
def PO.mono{t t':TO}(h:PO X e t)(m:∀Y H Q,t' Y H Q->t Y H Q):PO X e t':=λXc s Y H Q I q=>h Xc s Y H Q I (m Y H Q q)
def sR:O3 X Db Qu:=PO.mono O7 λY H Q' zz=>x7 zz λU M Q hs hm ht k=>k Db H M hm .refl ht
def sO(h:E3 X e t):O3 X (Fa e) (T5 t):=PO.mono (OD h) λY H Q' zz=>x7 zz λU M Q hs hm ht k=>
 ⟨U,M,_,hs,hm,ht,λv H1 d M1 hd Xe e1 q1=>by
  cases d with
  | int i=>exact⟨i,hd.int_inv,k (Fa i) H1 M1 Xe e1 q1⟩
  | _=>exact q1.elim⟩
def WA(x:D)(lo hi:Option Int)(M:Mp)(Q:DK):Prop:=match x with
 | .tup ds=>Q (.tup (uY ds lo hi)) M
 | .ref a=>(oX M a).elim False λds=>∀p,M p=Db->Q (.ref p) (pI M p (.lst (uY ds lo hi)))
 | .rl ds=>∀p,M p=Db->Q (.ref p) (pI M p (.lst (uY ds lo hi)))
 | _=>False
def s3(te:T3)(tl th:Td):T3:=λU M Q=>te U M λx M1=>tl U M1 λl M2=>th U M2 λu M3=>WA x l u M3 Q
def Wf(K:qw):V->Option Int->Option Int->Hp->VK->Prop:=λvx l u H Q'=>C4 λx M Q=>rQ K H x vx/\HM K H M/\WA x l u M Q/\Up K H Q' Q
def QE{ds:T0 D}{lo hi:Option Int}(h:HT.tL ds.length 0 lo=0/\HT.tL ds.length ds.length hi=ds.length):uY ds lo hi=ds:=by unfold uY;rw[h.1,h.2,jZ,kK,eY]
def Wl:U0 X (Wf X.K):=by
 intro Xc s Y H vx v vl vu l u sl Q' I rx Zv pl pu h;obtain⟨x,M,Q,hx,hm,q,k⟩:=h;cases x with
 | tup ds=>
  have q2:Q (.tup (uY ds l u)) M:=q;obtain⟨a,xs,rfl,h1,h2⟩:=hx.mJ;by_cases q1:HT.tL ds.length 0 l=0/\HT.tL ds.length ds.length u=ds.length
  .rw[QE q1]at q2;exact Rc Xc s Y H _ v vl vu l u sl Q' I rx Zv pl pu ⟨a,xs,rfl,h1,by rw[<-h2.length];exact q1,k _ _ _ _ hx hm .refl q2⟩
  refine S6 Xc s Y H _ v vl vu l u sl Q' I rx Zv pl pu ⟨a,xs,rfl,h1,by rw[<-h2.length];exact q1,λp hp=>?_⟩;have e:qT X.K H (upd H p (.tup (Cn xs l u))):=.new hp;exact k _ _ _ _ (.tup (.of ql) ((EJ h2).mono e)) (hm.add hp) e q2
 | ref a=>obtain⟨ds,e0,q⟩:=rg q;cases hx.mC;obtain⟨xs,h1,h2,_⟩:=qB hm e0;refine Jm Xc s Y H _ v vl vu l u sl Q' I rx Zv pl pu ⟨a,xs,rfl,h1,λp hp=>?_⟩;have e:qT X.K H (upd H p (.lst (Cn xs l u))):=.new hp;exact k _ _ _ _ .ref (hm.new (c:=.lst (uY ds l u)) hp ⟨_,ql,(EJ h2).mono e⟩) e (q p (hm.fresh hp))
 | rl ds=>obtain⟨a,xs,rfl,h1,h2⟩:=hx.mV;refine Jm Xc s Y H _ v vl vu l u sl Q' I rx Zv pl pu ⟨a,xs,rfl,h1.sq,λp hp=>?_⟩;have e:qT X.K H (upd H p (.lst (Cn xs l u))):=.new hp;exact k _ _ _ _ .ref (hm.new (c:=.lst (uY ds l u)) hp ⟨_,ql,(EJ h2).mono e⟩) e (q p (hm.fresh hp))
 | _=>exact q.elim
def rP{lo hi:Option zn}{p2:Pos}(he:E3 X e te)(hl:O3 X lo tl)(hu:O3 X hi th):E3 X (.Subscript e (.Slice lo hi Db p2) pos) (s3 te tl th):=PE.mono (NT Wl he hl hu) λY H Q' zz=>x7 zz λU M Q hs hm ht k=>⟨U,M,_,hs,hm,ht,λv H1 x M1 hx Xe e1 q1=>⟨U,M1,_,hs.mono e1,Xe,q1,λl H2 M2 Xv e2 q2=>⟨U,M2,_,hs.mono (e1.trans e2),Xv,q2,λu H3 M3 Yb e3 q3=>⟨x,M3,Q,hx.mono (e2.trans e3),Yb,q3,vQ (e1.trans (e2.trans e3)) k⟩⟩⟩⟩
def xx:xQ:=λ_ M Q=>Q [] M
def vA(ta:T3)(tr:xQ):xQ:=λU M Q=>ta U M λx M1=>tr U M1 λxs M2=>Q (x::xs) M2
def sF:A3 X [] xx:=PA.mono R9 λY H Q' zz=>x7 zz λU M Q hs hm ht k=>k [] H [] M .nil hm .refl ht
def pX(ha:E3 X e te)(hr:A3 X es t)(hs:Bp X e es:=by rfl):A3 X (e::es) (vA te t):=PA.mono (Qq ha hr hs) λY H Q' zz=>x7 zz λU M Q hs hm ht k=>⟨U,M,_,hs,hm,ht,λv H1 x M1 hx Xe e1 q1=>⟨U,M1,_,hs.mono e1,Xe,q1,λvs H2 xs M2 hxs Xv e2 q2=>k _ H2 _ M2 (.cons (hx.mono e2) hxs) Xv (e1.trans e2) q2⟩⟩
def VD(t:xQ):T3:=λU M Q=>t U M λds M1=>ds.length<=Ch/\Q (.tup ds) M1
def Uz(t:xQ):T3:=λU M Q=>t U M λds M1=>ds.length<=Ch/\∀p,M1 p=Db->Q (.ref p) (pI M1 p (.lst ds))
def pP{x1}(h:A3 X es t):E3 X (.Tuple es x1 pos) (VD t):=PE.mono (Sv h) λY H Q' zz=>x7 zz λU M Q hs hm ht k=>
 ⟨U,M,_,hs,hm,ht,λvs H1 ds M1 Ys Xe e1 q1=>⟨by rw[<-Ys.length];exact q1.1,λp hp=>by
  have e:qT X.K H1 (upd H1 p (.tup vs)):=.new hp;exact k _ _ _ M1 (.tup (.of ql) (Ys.mono e)) (Xe.add hp) (e1.trans e) q1.2⟩⟩
def qO(h:A3 X es t):E3 X (.List es pos) (Uz t):=PE.mono (RB h) λY H Q' zz=>x7 zz λU M Q hs hm ht k=>
 ⟨U,M,_,hs,hm,ht,λvs H1 ds M1 Ys Xe e1 q1=>⟨by rw[<-Ys.length];exact q1.1,λp hp=>by
  have e:qT X.K H1 (upd H1 p (.lst vs)):=.new hp;exact k _ _ _ _ .ref (Xe.new (c:=.lst ds) hp ⟨_,ql,Ys.mono e⟩) (e1.trans e) (q1.2 p (Xe.fresh hp))⟩⟩
def uL(t u:xt):xt:=λD U M=>t {D with nx:=u D} U M
def WM:xt:=λD U M=>D.nx U M
def pN:Hh X [] WM:=Co.mono OS λD' Y H zz=>K2 zz λU M D hs hm ht k1 k2 k3 k4=>k1 Y H U M hs hm .refl rfl ht
def pq{st:sB}{rest:T0 sB}(h1:S3 X st t)(h2:Hh X rest u):Hh X (st::rest) (uL t u):=Co.mono (Ln h1 h2) λD' Y H zz=>K2 zz λU M D hs hm ht k1 k2 k3 k4=>
 ⟨U,M,{D with nx:=u D},hs,hm,ht,λσ1 H1 δ1 M1 hs1 Xe e1 l1 q1=>⟨δ1,M1,D,hs1,Xe,q1,λσ' H' δ' M' x1 x2 x3 x4 x5=>k1 σ' H' δ' M' x1 x2 (e1.trans x3) (x4.trans l1) x5,λv H' d M' x1 x2 x3 x4=>k2 v H' d M' x1 x2 (e1.trans x3) x4,λσ' H' δ' M' x1 x2 x3 x4 x5=>k3 σ' H' δ' M' x1 x2 (e1.trans x3) (x4.trans l1) x5,λσ' H' δ' M' x1 x2 x3 x4 x5=>k4 σ' H' δ' M' x1 x2 (e1.trans x3) (x4.trans l1) x5⟩,k2,k3,k4⟩
def pz{st:sB}(h1:S3 X st t):Hh X [st] t:=Co.mono (Ju h1) λD' Y H h=>h
def Ua(te:T3):xt:=λD U M=>te U M λ_ M1=>D.nx U M1
def pQ(he:E3 X e te)(YG:ZB e Db pos.line X.env=pure lf:=by rfl):S3 X (.Expr e pos) (Ua te):=PS.mono (PB he YG) λD' Y H zz=>K2 zz λU M D hs hm ht k1 k2 k3 k4=>⟨U,M,_,hs,hm,ht,λv H1 d M1 hd Xe e1 q1=>k1 Y H1 U M1 (hs.mono e1) Xe e1 rfl q1⟩
def RV(te:T3):xt:=λD U M=>te U M D.rt
def pG(he:E3 X e te):S3 X (.Return (Fa e) pos) (RV te):=PS.mono (R8 he) λD' Y H zz=>K2 zz λU M D hs hm ht k1 k2 k3 k4=>⟨U,M,_,hs,hm,ht,λv H1 d M1 hd Xe e1 q1=>k2 v H1 d M1 hd Xe e1 q1⟩
def Ma(c:AA)(t u:xt):xt:=λD U M=>c U M λb M1=>if b=pc then t D U M1 else u D U M1
def pT{tc:AA}(hc:B3 X c tc)(ha:Hh X as t)(hb:Hh X bs u):S3 X (.If c as bs pos) (Ma tc t u):=PS.mono (U4 hc ha hb) λD' Y H zz=>K2 zz λU M D hs hm ht k1 k2 k3 k4=>
 ⟨U,M,_,hs,hm,ht,λb H1 M1 Xe e1 q1=>by
  have up:∀t:xt,t D U M1->Ve X.K t D' Y H1:=λt q=>⟨U,M1,D,hs.mono e1,Xe,q,λσ' H' δ' M' x1 x2 x3 x4 x5=>k1 σ' H' δ' M' x1 x2 (e1.trans x3) x4 x5,λv H' d M' x1 x2 x3 x4=>k2 v H' d M' x1 x2 (e1.trans x3) x4,λσ' H' δ' M' x1 x2 x3 x4 x5=>k3 σ' H' δ' M' x1 x2 (e1.trans x3) x4 x5,λσ' H' δ' M' x1 x2 x3 x4 x5=>k4 σ' H' δ' M' x1 x2 (e1.trans x3) x4 x5⟩
  cases b with
  | true=>exact(cV rfl).mpr (up t ((cV rfl).mp q1))
  | false=>exact(cS dh).mpr (up u ((cS dh).mp q1))⟩
def Rt:xt:=λ_ _ _=>False
def Gm{st:sB}:S3 X st Rt:=PS.mono Mn λD' Y H ⟨U,M,D,hs,hm,ht,_⟩=>ht
abbrev DD:=D->vv->Mp->(vv->Mp->Prop)->Prop
def Vm(K:qw)(g:DD):TG:=λv Y H Q'=>CS λd U M Q=>rQ K H d v/\zS K H Y U/\HM K H M/\g d U M Q/\∀σ' H' δ' M',zS K H' σ' δ'->HM K H' M'->qT K H H'->σ'.length=Y.length->Q δ' M'->Q' σ' H'
def G3(X:Cx)(e:zn)(g:DD):Prop:=PG X e (Vm X.K g)
def PG.nM{t t':TG}(h:PG X e t)(m:∀v Y H Q,Y.length=X.N.length->t' v Y H Q->t v Y H Q):PG X e t':=λXc s Y H v u Q I r q=>h Xc s Y H v u Q I r (m v Y H Q I.len q)
def rS(i:Nat):DD:=λd U M Q=>Q (U.set i (Fa d)) M
def Jy{i:Nat}{x:Str}(hN:X.N.Nodup)(hi:X.N[i]?=Fa x)(hx:La X.env.scope x)(hf:MR X x:=by first|exact .inl rfl|exact .inr rfl|assumption):G3 X (.Name x pos) (rS i):=
 PG.nM (QF hN hi hx hf) λv Y H Q' hl ⟨d,U,M,Q,hd,hs,hm,ht,k⟩=>k _ H _ M (hs.set hd (by rw[hl];exact(cT.mp hi).1)) hm .refl (by simp) ht
abbrev G5:=T0 D->vv->Mp->(vv->Mp->Prop)->Prop
def Wv(K:qw)(g:G5):PU:=λvs Y H Q'=>CS λds U M Q=>qp K H ds vs/\zS K H Y U/\HM K H M/\g ds U M Q/\∀σ' H' δ' M',zS K H' σ' δ'->HM K H' M'->qT K H H'->σ'.length=Y.length->Q δ' M'->Q' σ' H'
def Vk(X:Cx)(es:T0 zn)(g:G5):Prop:=NZ X es (Wv X.K g)
def NZ.mono{t t':PU}(h:NZ X e t)(m:∀v Y H Q,t' v Y H Q->t v Y H Q):NZ X e t':=λXc s Y H v u Q I r q=>h Xc s Y H v u Q I r (m v Y H Q q)
def PG.mono{t t':TG}(h:PG X e t)(m:∀v Y H Q,t' v Y H Q->t v Y H Q):PG X e t':=λXc s Y H v u Q I r q=>h Xc s Y H v u Q I r (m v Y H Q q)
def zq:G5:=λds U M Q=>match ds with|[]=>Q U M|_=>False
def wm(t:DD)(u:G5):G5:=λds U M Q=>match ds with|d::r=>t d U M λδ' M'=>u r δ' M' Q|[]=>False
def sQ:Vk X [] zq:=NZ.mono OT λvs Y H Q' ⟨ds,U,M,Q,hd,hs,hm,ht,k⟩=>by
 cases ds with
 | nil=>exact⟨hd.nil_inv,k Y H U M hs hm .refl rfl ht⟩
 | cons _ _=>exact ht.elim
def qk(h1:G3 X e t)(h2:Vk X es u)(hs:(IN (e::es) X.env).map (·.2)=assign e X.env::(IN es X.env).map (·.2):=by rfl):Vk X (e::es) (wm t u):=
 NZ.mono (Nr h1 h2 hs) λvs Y H Q' ⟨ds,U,M,Q,hd,hs,hm,ht,k⟩=>by
 cases ds with
 | nil=>exact ht.elim
 | cons d r=>obtain⟨x,xr,rfl,hx,hr⟩:=hd.inv;exact⟨x,xr,rfl,d,U,M,_,hx,hs,hm,ht,λσ1 H1 δ1 M1 hs1 Xe e1 l1 q1=>⟨r,δ1,M1,Q,hr.mono e1,hs1,Xe,q1,λσ' H' δ' M' x1 x2 x3 x4 x5=>k σ' H' δ' M' x1 x2 (e1.trans x3) (x4.trans l1) x5⟩⟩
def QG(n:Nat)(t:G5):DD:=λd U M Q=>match d with|.tup ds=>ds.length=n/\t ds U M Q|_=>False
def tY{n:Nat}(hc:X.calm=pc)(h:Vk X es t)(hn:(IN es X.env).length=n:=by rfl)(XA:(IN es X.env).findIdx? (·.1)=Db:=by rfl):G3 X (.Tuple es k pos) (QG n t):=
 PG.mono (Sn hc h hn XA) λv Y H Q' ⟨d,U,M,Q,hd,hs,hm,ht,k⟩=>by
 cases d with
 | tup ds=>obtain⟨a,xs,rfl,h1,h2⟩:=hd.mJ;exact⟨a,xs,rfl,h1,by rw[<-h2.length];exact ht.1,ds,U,M,Q,h2,hs,hm,ht.2,k⟩
 | _=>exact ht.elim
def Df(te:T3)(g:DD):xt:=λD U M=>te U M λx M1=>g x U M1 D.nx
def IA(he:E3 X e te)(hg:G3 X tg g)(hs:swapsWithSole [tg] e pos.line X.env=pure lf:=by rfl)(hw:swappedStores [tg] e X.env=pure Db:=by rfl)
  (h1:(IN [tg] X.env).map (·.2)=[assign tg X.env]:=by rfl):S3 X (.Assign [tg] e pos) (Df te g):=PS.mono (Ri he hg hs hw h1) λD' Y H zz=>K2 zz λU M D hs hm ht k1 k2 k3 k4=>
 ⟨U,M,_,hs,hm,ht,λv H1 d M1 hd Xe e1 q1=>⟨d,U,M1,_,hd,hs.mono e1,Xe,q1,λσ' H' δ' M' x1 x2 x3 x4 x5=>k1 σ' H' δ' M' x1 x2 (e1.trans x3) x4 x5⟩⟩
def Q9{i:Nat}{x:Str}(hN:X.N.Nodup)(hi:X.N[i]?=Fa x)(hx:La X.env.scope x)(he:E3 X e te)(YG:ZB e (Fa (.Name x Xo)) pos.line X.env=pure lf:=by rfl)
  (hf:MR X x:=by first|exact .inl rfl|exact .inr rfl|assumption):S3 X (.Assign [.Name x Xo] e pos) (Df te (rS i)):=PS.nM (SW hN hi hx he YG hf) λD' Y H hl zz=>K2 zz λU M D hs hm ht k1 k2 k3 k4=>
 ⟨U,M,_,hs,hm,ht,λv H1 d M1 hd Xe e1 q1=>k1 _ H1 _ M1 ((hs.mono e1).set hd (by rw[hl];exact(cT.mp hi).1)) Xe e1 (by simp) q1⟩
end
abbrev rm:=T0 D->Mp->DK->Prop
def NY(K:qw)(sp:rm):Sp:=λvs H Q' _=>C4 λds M Q=>qp K H ds vs/\HM K H M/\sp ds M Q/\Up K H Q' Q
def wX(N:QQQ)(ds:T0 D):vv:=ds.map Fa++List.replicate (N.length - ds.length) Db
def D3{K:qw}(h:qp K H ds vs):zS K H (L2.start N vs) (wX N ds):=λi d q=>by
 unfold wX at q;unfold L2.start;by_cases hi:i<ds.length
 .rw[eP (by simpa using hi),df]at q;cases e:ds[i]? with
  | none=>rw[e]at q;cases q
  | some d'=>rw[e]at q;cases q;obtain⟨v,e1,e2⟩:=h.get e;refine⟨v,?_,e2⟩;rw[eP (by rw[cO,<-h.length];exact hi),df,e1];rfl
 .rw[eN (by simpa using hi),jF]at q;split at q<;>cases q
variable {P:Pg}{w:Wo}{mg:QQZ}{base:No}
abbrev Ti(P:Pg)(w:Wo)(K:qw)(mg:QQZ)(base:No)(k:Nat)(f:Uf)(fd:Rs)(ps:QQQ)(sp:rm):Prop:=xp P w K mg base NX k f fd ps (NY K sp)
variable {k:Nat}{f C:Uf}{fd:Rs}{ps:QQQ}{sp:rm}{x m fn:Str}{p Xf:Pos}{e o:zn}{es:T0 zn}{t:xQ}
def DL(sp:rm)(t:xQ):T3:=λU M Q=>t U M λds M1=>sp ds M1 Q
def PL(F:Ti X.prog X.w X.K X.mg X.base k f fd ps sp)(hr:sd k X.A)(hg:Gl X x)(hm:X.mg x=Fa (.ref f))(hk:W.keepIn X.K (.ref f)=pc)(hb:uX X.K fd ps [])(ha:A3 X (e::es) t) (Xw:zR x:=by decide) (he:Bp X e es:=by rfl) (Xt:CU X pos es:=by rfl):
  E3 X (.Call (.Name x p) (e::es) [] pos) (DL sp t):=PE.mono (O4 F hr hg hm hk hb .nil (Gh (X:=X)) ha Xw he Xt) λY H Q' zz=>x7 zz λU M Q hs hm ht k=>
 ⟨U,M,_,hs,hm,ht,λvs H1 ds M1 hd Xe e1 q1=>⟨ds,M1,Q,by rw[eJ];exact hd,Xe,q1,vQ e1 k⟩⟩
def C3(X:Cx)(f:Vl)(r:rm):Prop:=zI X f λvs H Q'=>∃ds M Q,qp X.K H ds vs/\HM X.K H M/\r ds M Q/\Up X.K H Q' Q
def pU{id:String}(hc:C3 X (.builtin id) r)(hg:Gl X x)(hm:X.mg x=Db)(hv:Go x=Fa (.builtin id))(ha:A3 X (e::es) t)(hn:x≠"__name__":=by decide)(Xw:zR x:=by decide)
  (he:Bp X e es:=by rfl) (Xt:CU X pos es:=by rfl):E3 X (.Call (.Name x p) (e::es) [] pos) (DL r t):=
 PE.mono (NM hc hg hm hv ha hn Xw he Xt) λY H Q' zz=>x7 zz λU M Q hs hm ht k=>⟨U,M,_,hs,hm,ht,λvs H1 ds M1 hd Xe e1 q1=>⟨ds,M1,Q,hd,Xe,q1,vQ e1 k⟩⟩
def qg{T:String}(hc:C3 X (.type T) r)(hg:Gl X x)(hm:X.mg x=Db)(hv:Go x=Fa (.type T))(ha:A3 X (e::es) t)(hn:x≠"__name__":=by decide)(Xw:zR x:=by decide)
  (he:Bp X e es:=by rfl) (Xt:CU X pos es:=by rfl):E3 X (.Call (.Name x p) (e::es) [] pos) (DL r t):=
 PE.mono (J' hc hg hm hv ha hn Xw he Xt) λY H Q' zz=>x7 zz λU M Q hs hm ht k=>⟨U,M,_,hs,hm,ht,λvs H1 ds M1 hd Xe e1 q1=>⟨ds,M1,Q,hd,Xe,q1,vQ e1 k⟩⟩
def Ts(ds:T0 D)(M:Mp)(Q:DK):Prop:=match ds with
 | [.str z]=>z.length<=Ch/\Q (.int z.length) M
 | [.tup es]=>Q (.int es.length) M
 | [.ref a]=>(oX M a).elim False λes=>Q (.int es.length) M
 | [.rl es]=>Q (.int es.length) M
 | _=>False
def sD{K:qw}{d:D}(h:qp K H [d] vs):∃v,vs=[v]/\rQ K H d v:=by obtain⟨x,r,rfl,a,b⟩:=h.inv;rw[b.nil_inv];exact⟨x,rfl,a⟩
def ID{K:qw}{d e:D}(h:qp K H [d,e] vs):∃v u,vs=[v,u]/\rQ K H d v/\rQ K H e u:=by obtain⟨x,r,rfl,a,b⟩:=h.inv;obtain⟨y,rfl,c⟩:=sD b;exact⟨x,y,rfl,a,c⟩
def qy:C3 X (.builtin "len") Ts:=by
 intro Xc s Y H vs us Q' I rv h;obtain⟨ds,M,Q,hd,hm,q,k⟩:=h;unfold Ts at q;split at q
 .obtain⟨v,rfl,hv⟩:=sD hd;cases hv.str_inv;exact Ep Xc s Y H _ us Q' I rv ⟨_,rfl,q.1,k _ _ _ _ .int hm .refl q.2⟩
 .obtain⟨v,rfl,hv⟩:=sD hd;obtain⟨a,xs,rfl,h1,h2⟩:=hv.mJ;exact xg Xc s Y H _ us Q' I rv ⟨a,xs,rfl,.inr h1,k _ _ _ _ (by rw[<-h2.length];exact .int) hm .refl q⟩
 .obtain⟨v,rfl,hv⟩:=sD hd;obtain⟨es,e0,q⟩:=rg q;cases hv.mC;obtain⟨xs,h1,h2,_⟩:=qB hm e0;exact xg Xc s Y H _ us Q' I rv ⟨_,xs,rfl,.inl h1,k _ _ _ _ (by rw[<-h2.length];exact .int) hm .refl q⟩
 .obtain⟨v,rfl,hv⟩:=sD hd;obtain⟨a,xs,rfl,h1,h2⟩:=hv.mV;exact xg Xc s Y H _ us Q' I rv ⟨a,xs,rfl,.inl h1.sq,k _ _ _ _ (by rw[<-h2.length];exact .int) hm .refl q⟩
 .exact q.elim
def Tp(ds:T0 D)(M:Mp)(Q:DK):Prop:=match ds with
 | [.int i,.int j]=>Q (.int (if j<i then j else i)) M
 | _=>False
def RY(hc:X.calm=pc):C3 X (.builtin "min") Tp:=by
 intro Xc s Y H vs us Q' I rv h;obtain⟨ds,M,Q,hd,hm,q,k⟩:=h;unfold Tp at q;split at q
 .obtain⟨v,u,rfl,hv,hw⟩:=ID hd;cases hv.int_inv;cases hw.int_inv;exact Ky hc Xc s Y H _ us Q' I rv ⟨_,_,rfl,k _ _ _ _ .int hm .refl q⟩
 .exact q.elim
def Me(ds:T0 D)(M:Mp)(Q:DK):Prop:=match ds with
 | [.tup es]=>Q (.tup es) M
 | [.ref a]=>(oX M a).elim False λes=>Q (.tup es) M
 | [.rl es]=>Q (.tup es) M
 | _=>False
def rX:C3 X (.type "tuple") Me:=by
 intro Xc s Y H vs us Q' I rv h;obtain⟨ds,M,Q,hd,hm,q,k⟩:=h;unfold Me at q;split at q
 .obtain⟨v,rfl,hv⟩:=sD hd;obtain⟨a,xs,rfl,h1,h2⟩:=id hv.mJ;exact vY Xc s Y H _ us Q' I rv ⟨a,xs,rfl,.inr ⟨h1,k _ _ _ _ hv hm .refl q⟩⟩
 .obtain⟨v,rfl,hv⟩:=sD hd;obtain⟨es,e0,q⟩:=rg q;cases hv.mC;obtain⟨xs,h1,h2,_⟩:=qB hm e0;refine vY Xc s Y H _ us Q' I rv ⟨_,xs,rfl,.inl ⟨h1,λl hl=>?_⟩⟩;have e:qT X.K H (upd H l (.tup xs)):=.new hl;exact k _ _ _ _ (.tup (.of ql) (h2.mono e)) (hm.add hl) e q
 .obtain⟨v,rfl,hv⟩:=sD hd;obtain⟨a,xs,rfl,h1,h2⟩:=hv.mV;refine vY Xc s Y H _ us Q' I rv ⟨_,xs,rfl,.inl ⟨h1.sq,λl hl=>?_⟩⟩;have e:qT X.K H (upd H l (.tup xs)):=.new hl;exact k _ _ _ _ (.tup (.of ql) (h2.mono e)) (hm.add hl) e q
 .exact q.elim
def QS(ds:T0 D)(M:Mp)(Q:DK):Prop:=match ds with
 | [d]=>(L4 M d).elim False λes=>∀p,M p=Db->Q (.ref p) (pI M p (.lst es))
 | _=>False
def uj:C3 X (.type "list") QS:=by
 intro Xc s Y H vs us Q' I rv h;obtain⟨ds,M,Q,hd,hm,q,k⟩:=h;unfold QS at q;split at q
 .obtain⟨v,rfl,hv⟩:=sD hd;obtain⟨es,e0,q⟩:=rg q;obtain⟨p,xs,rfl,h1,h2⟩:=EW hm hv e0;refine EH Xc s Y H _ us Q' I rv ⟨p,xs,rfl,h1,λl hl=>?_⟩;have e:qT X.K H (upd H l (.lst xs)):=.new hl;exact k _ _ _ _ .ref (hm.new (c:=.lst es) hl ⟨_,ql,h2.mono e⟩) e (q l (hm.fresh hl))
 .exact q.elim
theorem wR{K:qw}{f:Str}:∀{fs:T0 (Str×D)} {vs:T0 (Str×V)},BF K H fs vs->(∀d,fs.lookup f=Fa d->∃v,vs.lookup f=Fa v/\rQ K H d v)/\(fs.lookup f=Db->vs.lookup f=Db)
 | [],[],_=>⟨λd e=>by simp at e,λ_=>rfl⟩
 | [],_::_,h=>by have:=h.1;simp at this
 | _::_,[],h=>by have:=h.1;simp at this
 | (g,d)::fs,(g',v)::vs,h=>by
  have h1:g'=g/\vs.map (·.1)=fs.map (·.1):=by
   have:=h.1
   simpa using this
  obtain⟨x,r,e,a,b⟩:=h.2.inv;have e':v::vs.map (·.2)=x::r:=e;cases e';obtain⟨i1,i2⟩:=wR (f:=f) (fs:=fs) (vs:=vs) ⟨h1.2,b⟩;rw[h1.1];refine⟨λd' e=>?_,λe=>?_⟩
  .rw[eh]at e ⊢;cases q:f==g with
   | true=>rw[q]at e;cases e;exact⟨v,rfl,a⟩
   | false=>rw[q]at e;exact i1 d' e
  .rw[eh]at e ⊢;cases q:f==g with
   | true=>rw[q]at e;cases e
   | false=>rw[q]at e;exact i2 e
theorem Jx{f:Str}{d:D}:∀{fs:T0 (Str×D)},fs.lookup f=Fa d->f∈fs.map (·.1)
 | [],h=>by simp at h
 | (g,e)::r,h=>by
  rw[eh]at h;cases q:f==g with
  | true=>
   have z:f=g:=by simpa using q
   rw[z,dN];exact dD
  | false=>rw[q]at h;simp[Jx h]
def Bc(o:Option vb)(F:Uf->T0 (Str×D)->Prop):Prop:=match o with
 | some (.ins C fs)=>F C fs
 | _=>False
def pA{o:Option vb}{F:Uf->T0 (Str×D)->Prop}{C:Uf}{fs:T0 (Str×D)}(e:o=Fa (.ins C fs))(h:F C fs):Bc o F:=by rw[e];exact h
def ya{o:Option vb}(h:Bc o F):∃C fs,o=Fa (.ins C fs)/\F C fs:=by
 unfold Bc at h;split at h
 .exact⟨_,_,rfl,h⟩
 .exact h.elim
def VX(f:Str)(ta:T3):T3:=λU M Q=>ta U M λx M1=>match x with
 | .ref a=>Bc (M1 a) λ_ fs=>(fs.lookup f).elim False λd=>Q d M1
 | _=>False
def pE{f:Str}(he:E3 X o ta)(hb:At o f X.env (wp o X.env)=wp o X.env:=by rfl):E3 X (.Attribute o f pos) (VX f ta):=PE.mono (Rr he hb) λY H Q' zz=>x7 zz λU M Q hs hm ht k=>
 ⟨U,M,_,hs,hm,ht,λv H1 d M1 hd Xe e1 q1=>by
  cases d with
  | ref a=>cases hd.mC;obtain⟨C,fs,e,q1⟩:=ya q1;obtain⟨d,e2,q⟩:=rg q1;obtain⟨dx,vs,h1,cl,na,fo⟩:=Xe a _ e;obtain⟨v,e3,hv⟩:=(wR fo).1 d e2;exact⟨a,C,dx,vs,v,rfl,h1,cl,na f (Jx e2),e3,k v H1 d M1 hv Xe e1 q⟩
  | _=>exact q1.elim⟩
def wb(f:Str)(v:D):T0 (Str×D)->T0 (Str×D)
 | []=>[(f,v)]
 | (g,u)::r=>if g=f then(g,v)::r else(g,u)::wb f v r
theorem Fk{K:qw}{f:Str}(hv:rQ K H d v):∀{fs:T0 (Str×D)} {vs:T0 (Str×V)},BF K H fs vs->BF K H (wb f d fs) (vK f v vs)
 | [],[],_=>⟨rfl,.cons hv .nil⟩
 | [],_::_,h=>by have:=h.1;simp at this
 | _::_,[],h=>by have:=h.1;simp at this
 | (g,e)::fs,(g',u)::vs,h=>by
  have h1:g'=g/\vs.map (·.1)=fs.map (·.1):=by
   have:=h.1
   simpa using this
  obtain⟨x,r,e1,a,b⟩:=h.2.inv;have e':u::vs.map (·.2)=x::r:=e1;cases e';obtain⟨hg,ht⟩:=h1;subst hg;rw[show wb f d ((g',e)::fs)=(if g'=f then(g',d)::fs else(g',e)::wb f d fs)from rfl,show vK f v ((g',u)::vs)=(if g'=f then(g',v)::vs else(g',u)::vK f v vs)from rfl];by_cases q:g'=f
  .rw[cV q,cV q];exact⟨by simpa using ht,.cons hv b⟩
  .rw[cS q,cS q];obtain⟨i1,i2⟩:=Fk hv (fs:=fs) (vs:=vs) ⟨ht,b⟩;exact⟨by simpa using i1,.cons a i2⟩
theorem CD{f:Str}:∀{fs:T0 (Str×D)} {g:Str},g∈(wb f d fs).map (·.1)->g=f\/g∈fs.map (·.1)
 | [],g,h=>.inl (by simpa [wb]using h)
 | (k,e)::r,g,h=>by
  rw[show wb f d ((k,e)::r)=(if k=f then(k,d)::r else(k,e)::wb f d r)from rfl]at h;by_cases q:k=f
  .rw[cV q]at h;exact .inr (by simpa using h)
  .rw[cS q]at h;rw[dN,cW]at h;rcases h with h|h
   .exact .inr (by simp[h])
   .rcases CD h with z|z
    .exact .inl z
    .exact .inr (by simp;right;simpa using z)
def Tu(K:qw)(f:Str)(ta tv:T3):xt:=λD U M=>tv U M λy M1=>ta U M1 λx M2=>match x with
 | .ref a=>Bc (M2 a) λC fs=>ut K C f/\fs.length<1000/\D.nx U (pI M2 a (.ins C (wb f y fs)))
 | _=>False
def qd{f:Str}(ha:E3 X o ta)(hv:E3 X value tv)(YG:ZB value (Fa (.Attribute o f Xo)) pos.line X.env=pure lf:=by rfl):S3 X (.Assign [.Attribute o f Xo] value pos) (Tu X.K f ta tv):=
 PS.mono (RZ ha hv YG) λD' Y H zz=>K2 zz λU M D hs hm ht k1 k2 k3 k4=>
 ⟨U,M,_,hs,hm,ht,λy H1 dy M1 hy Xe e1 q1=>⟨U,M1,_,hs.mono e1,Xe,q1,λv H2 d M2 hd Xv e2 q2=>by
  cases d with
  | ref a=>
   cases hd.mC;obtain⟨C,fs,e,q2⟩:=ya q2;obtain⟨na,hl,q⟩:=q2;obtain⟨dx,vs,h1,cl,nn,fo⟩:=Xv a _ e;have Xi:vs.length=fs.length:=by have:=eE List.length fo.1;simpa using this
   refine⟨a,C,dx,vs,rfl,h1,cl,na,by omega,?_⟩;obtain⟨Yb,e3⟩:=Xv.put (p:=a) (o:=.ins C dx (vK f y vs)) (c:=.ins C (wb f dy fs)) e λx=>⟨dx,_,ql,cl,λg hg=>by
    rcases CD hg with z|z
    .rw[z];exact na
    .exact nn g z,Fk ((hy.mono e2).mono x) (fo.mono x)⟩
   exact k1 Y _ U _ (hs.mono (e1.trans (e2.trans e3))) Yb (e1.trans (e2.trans e3)) rfl q
  | _=>exact q2.elim⟩⟩
def QT(C:Uf)(sp:rm)(t:xQ):T3:=λU M Q=>t U M λds M1=>∀x,M1 x=Db->sp (.ref x::ds) (pI M1 x (.ins C [])) λd M2=>d=.mG/\Q (.ref x) M2
def MB{K:qw}{xa dx:Uf}(hm:HM K H M)(cl:Cls K C)(h1:H xa=Db)(h2:H dx=Db)(ne:dx≠xa):HM K (upd (upd H dx (.own xa)) xa (.ins C dx [])) (pI M xa (.ins C []))/\qT K H (upd (upd H dx (.own xa)) xa (.ins C dx [])):=by
 have XY:upd H dx (.own xa) xa=Db:=by rw[qa (dH ne)];exact h1
 exact⟨(hm.add (p:=dx) (o:=.own xa) h2).new XY ⟨dx,[],ql,cl,λg hg=>by simp at hg,rfl,.nil⟩,qT.trans (.new h2) (.new XY)⟩
def OL(cl:Cls X.K C)(Mk':Mk X.K C f)(F:Ti X.prog X.w X.K X.mg X.base k f fd ps sp)(hr:sd (k+1) X.A)(hg:Gl X x)(hm:X.mg x=Fa (.ref C))(hb:uX X.K fd ps [])(ha:A3 X (e::es) t) (Xw:zR x:=by decide) (he:Bp X e es:=by rfl) (Xt:CU X pos es:=by rfl):
  E3 X (.Call (.Name x p) (e::es) [] pos) (QT C sp t):=PE.mono (O8 Mk' F hr hg hm hb .nil (Gh (X:=X)) ha Xw he Xt) λY H Q' zz=>x7 zz λU M Q hs hm ht k=>
 ⟨U,M,_,hs,hm,ht,λvs H1 ds M1 hd Xe e1 q1=>λxa dx n1 n2 ne=>by
  obtain⟨Xv,e2⟩:=MB Xe cl n1 n2 ne;refine⟨.ref xa::ds,_,_,?_,Xv,q1 xa (Xe.fresh n1),λv H3 d M3 hd3 Yb e3 q3=>?_⟩
  .rw[eJ];exact .cons .ref (hd.mono e2)
  .obtain⟨z,q3⟩:=q3;subst z;exact⟨hd3.mE,k _ H3 _ M3 .ref Yb (e1.trans (e2.trans e3)) q3⟩⟩
def Iz(m:Str)(R:Uf->Sp->Prop)(ta:TE)(t:TA):TE:=λY H Q=>ta Y H λx H1=>∃a C dx fs sp,x=.ref a/\H1 a=Fa (.ins C dx fs)/\fs.lookup m=Db/\R C sp/\t Y H1 λvs H2=>sp (x::vs) H2 Q E0
def x9(P:Pg)(w:Wo)(K:qw)(mg:QQZ)(base:No)(k:Nat)(m:Str)(C:Uf)(sp:Sp):Prop:=Cls K C/\∃f fd ps,vL K C m f/\xp P w K mg base NX k f fd ps sp/\uX K fd ps []
def L0{R:Uf->Sp->Prop}{ta:TE}{t:TA}{pl:Sem Bool}(he:PE X o ta)(hR:∀C sp,R C sp->x9 X.prog X.w X.K X.mg X.base k m C sp)(hr:sd k X.A)(ha:PA X (e::es) t) (XA:Bp X e es:=by rfl) (Xt:CU X pos es:=by rfl)
  (ht:wp (.Call (.Attribute o m Xf) (e::es) [] pos) X.env=(do
   let ov<-wp o X.env
   XXb Xf.atName
   let(f,first)<-xz [ov] (TW ov m pl)
   XXg pos f first (Ix pos (Tl (e::es) X.env)) (dL pos (Ps [] X.env))):=by rfl):
  PE X (.Call (.Attribute o m Xf) (e::es) [] pos) (Iz m R ta t):=by
 intro Xc s Y H Q I h;refine jO (pl:=pl) (sL (he Xc s Y H _ I h) λu s1 zz=>?_) ht;obtain⟨x,H1,I1,rx,a,C,dx,fs,sp,ex,ea,l,hRC,q⟩:=zz;obtain⟨c,f,fd,ps,hm,F,hb⟩:=hR C sp hRC;subst ex;obtain rfl:u=Value.ref a:=rx;refine Cw I1 ea c hm l ?_;refine iH (first:=[.ref a]) (h₀:=X.base) I.ok.mod.oj hm.kp (sL (ha pos Xc s1 Y H1 _ I1 q) λus s2 zz=>x5 zz λvs H2 I2 r q2=>⟨I2.ni,?_⟩) XA Xt;exact Ex (us:=.ref a::us) (vs:=.ref a::vs) F hr hb .nil (Gh (X:=X)) I2 (.cons rfl r) (by rw[eJ];exact q2)
def J2{R:Uf->Sp->Prop}{ta:TE}{pl:Sem Bool}(he:PE X o ta)(hR:∀C sp,R C sp->x9 X.prog X.w X.K X.mg X.base k m C sp)(hr:sd k X.A) (ht:wp (.Call (.Attribute o m Xf) [] [] pos) X.env=(do
   let ov<-wp o X.env
   XXb Xf.atName
   let(f,first)<-xz [ov] (TW ov m pl)
   XXg pos f first (Ix pos (Tl [] X.env)) (dL pos (Ps [] X.env))):=by rfl):
  PE X (.Call (.Attribute o m Xf) [] [] pos) (Iz m R ta UJ):=by
 intro Xc s Y H Q I h;refine jO (pl:=pl) (sL (he Xc s Y H _ I h) λu s1 zz=>?_) ht;obtain⟨x,H1,I1,rx,a,C,dx,fs,sp,ex,ea,l,hRC,q⟩:=zz;obtain⟨c,f,fd,ps,hm,F,hb⟩:=hR C sp hRC;subst ex;obtain rfl:u=Value.ref a:=rx;refine Cw I1 ea c hm l ?_;exact W.callWith_K0 (first:=[.ref a]) I1.ni hm.kp (Ex (us:=[.ref a]) (vs:=[.ref a]) F hr hb .nil (Gh (X:=X)) I1 (.cons rfl .nil) (by rw[eJ];exact q))
def AF(m:Str)(R:Uf->rm->Prop)(ta:T3)(t:xQ):T3:=λU M Q=>ta U M λx M1=>match x with
 | .ref a=>Bc (M1 a) λC fs=>fs.lookup m=Db/\∃sp,R C sp/\t U M1 λds M2=>sp (x::ds) M2 Q
 | _=>False
def Wm(K:qw)(R:Uf->rm->Prop):Uf->Sp->Prop:=λC sp'=>∃sp,R C sp/\sp'=NY K sp
def Js:∀Y H Q',lo X.K (AF m R ta t) Y H Q'->Iz m (Wm X.K R) (lo X.K ta) (WB X.K t) Y H Q':=λY H Q' zz=>x7 zz λU M Q hs hm ht k=>
 ⟨U,M,_,hs,hm,ht,λv H1 d M1 hd Xe e1 q1=>by
  cases d with
  | ref a=>cases hd.mC;obtain⟨C,fs,e,q1⟩:=ya q1;obtain⟨hn,sp,hR,q⟩:=q1;obtain⟨dx,vs,h1,cl,na,fo⟩:=Xe a _ e;exact⟨a,C,dx,vs,_,rfl,h1,(wR fo).2 hn,⟨sp,hR,rfl⟩,U,M1,_,hs.mono e1,Xe,q,λus H2 ds M2 Ys Xv e2 q2=>⟨.ref a::ds,M2,Q,.cons .ref Ys,Xv,q2,vQ (e1.trans e2) k⟩⟩
  | _=>exact q1.elim⟩
def Eh{R:Uf->rm->Prop}{pl:Sem Bool}(he:E3 X o ta)(hR:∀C sp,R C sp->x9 X.prog X.w X.K X.mg X.base k m C (NY X.K sp))(hr:sd k X.A)(ha:A3 X (e::es) t) (XA:Bp X e es:=by rfl) (Xt:CU X pos es:=by rfl)
  (ht:wp (.Call (.Attribute o m Xf) (e::es) [] pos) X.env=(do
   let ov<-wp o X.env
   XXb Xf.atName
   let(f,first)<-xz [ov] (TW ov m pl)
   XXg pos f first (Ix pos (Tl (e::es) X.env)) (dL pos (Ps [] X.env))):=by rfl):
  E3 X (.Call (.Attribute o m Xf) (e::es) [] pos) (AF m R ta t):=PE.mono (L0 (R:=Wm X.K R) he (λC sp' ⟨sp,h,z⟩=>by rw[z];exact hR C sp h) hr ha XA Xt ht) Js
def BS{R:Uf->rm->Prop}{pl:Sem Bool}(he:E3 X o ta)(hR:∀C sp,R C sp->x9 X.prog X.w X.K X.mg X.base k m C (NY X.K sp))(hr:sd k X.A) (ht:wp (.Call (.Attribute o m Xf) [] [] pos) X.env=(do
   let ov<-wp o X.env
   XXb Xf.atName
   let(f,first)<-xz [ov] (TW ov m pl)
   XXg pos f first (Ix pos (Tl [] X.env)) (dL pos (Ps [] X.env))):=by rfl):
  E3 X (.Call (.Attribute o m Xf) [] [] pos) (AF m R ta xx):=PE.mono (J2 (R:=Wm X.K R) he (λC sp' ⟨sp,h,z⟩=>by rw[z];exact hR C sp h) hr ht) λY H Q' h=>by
 obtain⟨U,M,Q,hs,hm,ht,k⟩:=Js (t:=xx) Y H Q' h;refine⟨U,M,Q,hs,hm,ht,λv H' d M' x1 x2 x3 x4=>?_⟩;obtain⟨a,C,dx,fs,sp,e1,e2,e3,e4,δ',Xg,Q'',y1,y2,y3,y4⟩:=k v H' d M' x1 x2 x3 x4;exact⟨a,C,dx,fs,sp,e1,e2,e3,e4,y4 [] H' [] Xg .nil y2 .refl y3⟩
structure GO(K:qw)(H1:Hp)(J:It)(ds:List D)(ok:Mp->Prop):Prop where
 go:∀i H M,i<ds.length->HM K H M->ok M->qT K H1 H->J.go i H
 oS:∀i d H M x H',ds[i]?=Fa d->HM K H M->ok M->qT K H1 H->J.oS i H x H'->rQ K H' d x/\HM K H' M/\qT K H H'
 stop:∀H M,HM K H M->ok M->qT K H1 H->J.stop ds.length H
abbrev NW:=vv->Mp->(T0 D->(Mp->Prop)->Mp->Prop)->Prop
def WN(K:qw)(wi:NW):TI:=λY H R'=>C4 λU M R=>zS K H Y U/\HM K H M/\wi U M R/\∀J H1 ds ok M1,GO K H1 J ds ok->HM K H1 M1->qT K H H1->ok M1->R ds ok M1->R' J H1
def I3(X:Cx)(tg iter:zn)(wi:NW):Prop:=PI X tg iter (WN X.K wi)
def PI.mono{t t':TI}(h:PI X tg e t)(m:∀Y H Q,t' Y H Q->t Y H Q):PI X tg e t':=λXc s Y H Q I q=>h Xc s Y H Q I (m Y H Q q)
variable {H1:Hp}
def My:GO K H1 (Vr K a) ds (λM=>oX M a=Fa ds) where
 go:=λi H M hi hm ok _=>by obtain⟨xs,h1,h2,_⟩:=qB hm ok;obtain⟨x,e,_⟩:=h2.get (cQ hi);exact⟨xs,x,h1,e⟩
 oS:=λi d H M x H' hd hm ok _ y=>by obtain⟨xs,h1,h2,_⟩:=qB hm ok;obtain⟨e,y⟩:=y;subst e;obtain⟨x',e,hx⟩:=h2.get hd;have:=y xs h1;rw[e]at this;cases this;exact⟨hx,hm,.refl⟩
 stop:=λH M hm ok _=>by obtain⟨xs,h1,h2,_⟩:=qB hm ok;exact⟨xs,h1,by rw[h2.length];exact c9 _⟩
def Pz(h1:vn K H1 a xs)(h2:qp K H1 ds xs):GO K H1 (Ww K a) ds (λ_=>True) where
 go:=λi H M hi hm ok e1=>by obtain⟨x,e,_⟩:=h2.get (cQ hi);exact⟨xs,x,e1.t _ _ h1,e⟩
 oS:=λi d H M x H' hd hm ok e1 y=>by obtain⟨e,y⟩:=y;subst e;obtain⟨x',e,hx⟩:=h2.get hd;have:=y xs (e1.t _ _ h1);rw[e]at this;cases this;exact⟨hx.mono e1,hm,.refl⟩
 stop:=λH M hm ok e1=>⟨xs,e1.t _ _ h1,by rw[h2.length];exact c9 _⟩
def Tb(h1:Qs K H1 a xs)(h2:qp K H1 ds xs):GO K H1 (Vr K a) ds (λ_=>True) where
 go:=λi H M hi hm ok e1=>by obtain⟨x,e,_⟩:=h2.get (cQ hi);exact⟨xs,x,(h1.mono e1).sq,e⟩
 oS:=λi d H M x H' hd hm ok e1 y=>by obtain⟨e,y⟩:=y;subst e;obtain⟨x',e,hx⟩:=h2.get hd;have:=y xs (h1.mono e1).sq;rw[e]at this;cases this;exact⟨hx.mono e1,hm,.refl⟩
 stop:=λH M hm ok e1=>⟨xs,(h1.mono e1).sq,by rw[h2.length];exact c9 _⟩
def Kp{lo:Int}:GO K H1 (Vg lo n) ((List.range n).map λi=>D.int (lo+(i:Nat))) (λ_=>True) where
 go:=λi H M hi hm ok e1=>by
  have z:i<n:=by simpa using hi
  exact z
 oS:=λi d H M x H' hd hm ok e1 y=>by
  obtain⟨e,y⟩:=y;subst e;subst y;have hi:i<n:=by
   have:=(cT.mp hd).1
   simpa using this
  have hd':d=D.int (lo+(i:Nat)):=by rw[df,ku hi]at hd;exact(cY hd).symm
  subst hd';exact⟨.int,hm,.refl⟩
 stop:=λH M hm ok e1=>by show n<=_;simp
variable {scope:XXc}{ix:T0 (Option Nat)}{N':QQQ}{iter X6:zn}{XN:T0 zn}{wi:NW}{g:DD}{tt:AA}{te:T3}{tg:zn}
def Uo(t:T3):NW:=λU M R=>t U M λx M1=>match x with
 | .tup ds=>R ds (λ_=>True) M1
 | .ref a=>(oX M1 a).elim False λds=>R ds (λM=>oX M a=Fa ds) M1
 | .rl ds=>R ds (λ_=>True) M1
 | .str z=>R (z.cps.toList.map λc=>D.str ⟨#[c]⟩) (λ_=>True) M1
 | _=>False
def PD{K:qw}:GO K H1 (Wx z) (z.cps.toList.map λc=>D.str ⟨#[c]⟩) (λ_=>True) where
 go:=λi H M hi hm ok _=>by
  show i<z.cps.size
  simpa using hi
 oS:=λi d H M x H' hd hm ok _ y=>by obtain⟨e,c,e1,e2⟩:=y;subst e e2;rw[df,Array.getElem?_toList,e1]at hd;cases hd;exact⟨.str,hm,.refl⟩
 stop:=λH M hm ok _=>by show _=z.cps.size;simp
def qH{t:T3}(h:E3 X l t)(hc:X.calm=pc:=by rfl):I3 X tg l (Uo t):=PI.mono (PQ hc h) λY H R' zz=>x7 zz λU M R hs hm ht k=>
 ⟨U,M,_,hs,hm,ht,λv H1 d M1 hd Xe e1 q1=>by
  cases d with
  | tup ds=>obtain⟨a,xs,rfl,h1,h2⟩:=hd.mJ;exact .inl ⟨a,rfl,.inr ⟨⟨xs,h1⟩,k _ H1 ds _ M1 (Pz h1 h2) Xe e1 trivial q1⟩⟩
  | ref a=>cases hd.mC;obtain⟨ds,e0,q⟩:=rg q1;obtain⟨xs,h1,h2,_⟩:=qB Xe e0;exact .inl ⟨a,rfl,.inl ⟨⟨xs,h1⟩,k _ H1 ds _ M1 My Xe e1 e0 q⟩⟩
  | str z=>exact .inr ⟨z,hd.str_inv,k _ H1 _ _ M1 PD Xe e1 trivial q1⟩
  | rl ds=>obtain⟨a,xs,rfl,h1,h2⟩:=hd.mV;exact .inl ⟨a,rfl,.inl ⟨⟨xs,h1.sq⟩,k _ H1 ds _ M1 (Tb h1 h2) Xe e1 trivial q1⟩⟩
  | _=>exact q1.elim⟩
def UB(t:xQ):NW:=λU M R=>t U M λds M1=>match ds with
 | [.int j]=>(-(2 ^ 62)<=j/\j<2 ^ 62)/\R ((List.range j.toNat).map λi=>D.int (0+(i:Nat))) (λ_=>True) M1
 | [.int i,.int j]=>(-(2 ^ 62)<=i/\i<2 ^ 62/\-(2 ^ 62)<=j/\j<2 ^ 62)/\R ((List.range (j - i).toNat).map λn=>D.int (i+(n:Nat))) (λ_=>True) M1
 | _=>False
def vp{a:zn}{ta:xQ}(hg:Gl X "range")(hm:X.mg "range"=Db)(ha:A3 X [a] ta)(hs:Tl [a] X.env=[(lf,wp a X.env)]:=by rfl):I3 X tg (.Call (.Name "range" p) [a] [] pos) (UB λU M Q=>ta U M λds M1=>ds.length=1/\Q ds M1):=
 PI.mono (Kt hg hm ha hs) λY H R' zz=>x7 zz λU M R hs hm ht k=>⟨U,M,_,hs,hm,ht,λvs H1 ds M1 hd Xe e1 q1=>by
  obtain⟨hl,q1⟩:=q1;split at q1
  .obtain⟨v,rfl,hv⟩:=sD hd;cases hv.int_inv;exact⟨_,rfl,q1.1.1,q1.1.2,k _ H1 _ _ M1 Kp Xe e1 trivial q1.2⟩
  .simp at hl
  .exact q1.elim⟩
def El(g:DD)(tb:xt)(ok:Mp->Prop)(E:Gz):T0 D->vv->Mp->Prop
 | [],U,M=>E.nx U M
 | d::r,U,M=>g d U M λδ2 M2=>tb {E with nx:=λδ' M'=>ok M'/\El g tb ok E r δ' M',ct:=λδ' M'=>ok M'/\El g tb ok E r δ' M',bk:=E.nx} δ2 M2
def UG(wi:NW)(g:DD)(tb:xt):xt:=λE U M=>wi U M λds ok M1=>El g tb ok E ds U M1
def uZ{tb:xt}(hp:PassesOwn (Tk X.prog X.w) X.A X.env X.xe)(hc:X.calm=pc)(hi:I3 X tg iter wi)(hg:G3 X tg g)(hb:Hh X body tb) (hs:∀x,AT iter X.env x=pure x:=by intro _;rfl):S3 X (.For tg iter body [] pos) (UG wi g tb):=PS.mono (SZ hp hc hi hg hb hs) λD' Y H zz=>K2 zz λU M E hs hm ht k1 k2 k3 k4=>
 ⟨U,M,_,hs,hm,ht,λJ H1 ds ok M1 S Xe e1 YB q1=>by
  refine⟨λi m σ' H'=>m=ds.length - i/\i<=ds.length/\∃δ' M',zS X.K H' σ' δ'/\HM X.K H' M'/\ok M'/\qT X.K H1 H'/\σ'.length=Y.length/\El g tb ok E (ds.drop i) δ' M',⟨ds.length,by simp,d9 _,U,M1,hs.mono e1,Xe,YB,.refl,rfl,by simpa using q1⟩,?_⟩
  rintro i m σ' H' ⟨rfl,hi,δ',M',ZN,YH,ok',e',l',q'⟩
  by_cases Xr:i<ds.length
  .rw[hW Xr]at q';refine .inr ⟨S.go i H' M' Xr YH ok' e',λσ2 H2=>∃δ2 M2,zS X.K H2 σ2 δ2/\HM X.K H2 M2/\ok M2/\qT X.K H1 H2/\σ2.length=Y.length/\El g tb ok E (ds.drop (i+1)) δ2 M2,λσ2 H2 z=>⟨ds.length - (i+1),by omega,rfl,Xr,z⟩,λx H2 y=>?_⟩;obtain⟨hx,Xv,e2⟩:=S.oS i ds[i] H' M' x H2 (cQ Xr) YH ok' e' y;refine⟨ds[i],δ',M',_,hx,ZN.mono e2,Xv,q',λσ3 H3 δ3 M3 x1 x2 x3 x4 x5=>?_⟩;refine⟨δ3,M3,_,x1,x2,x5,λσ4 H4 δ4 M4 y1 y2 y3 y4 y5=>?_,λv H4 d M4 y1 y2 y3 y4=>?_,λσ4 H4 δ4 M4 y1 y2 y3 y4 y5=>?_,λσ4 H4 δ4 M4 y1 y2 y3 y4 y5=>?_⟩
   .exact⟨δ4,M4,y1,y2,y5.1,e'.trans (e2.trans (x3.trans y3)),by rw[y4,x4,l'],y5.2⟩
   .exact k2 v H4 d M4 y1 y2 (e1.trans (e'.trans (e2.trans (x3.trans y3)))) y4
   .exact k1 σ4 H4 δ4 M4 y1 y2 (e1.trans (e'.trans (e2.trans (x3.trans y3)))) (by rw[y4,x4,l']) y5
   .exact⟨δ4,M4,y1,y2,y5.1,e'.trans (e2.trans (x3.trans y3)),by rw[y4,x4,l'],y5.2⟩
  .have e:i=ds.length:=by omega
   subst e;rw[jz]at q';exact .inl ⟨S.stop H' M' YH ok' e',k1 σ' H' δ' M' ZN YH (e1.trans e') l' q'⟩⟩
def PM(ix:T0 (Option Nat))(U:vv):vv:=ix.map λo=>o.bind λi=>(U[i]?).join
def PC{K:qw}(h:zS K H Y U):zS K H (Ov ix Y) (PM ix U):=λi d q=>by
 unfold PM at q;unfold Ov;rw[df]at q ⊢;cases e:ix[i]? with
 | none=>rw[e]at q;cases q
 | some o=>
  rw[e]at q;cases o with
  | none=>cases q
  | some j=>
   have q':(U[j]?).join=Fa d:=cY q;have e4:U[j]?=Fa (Fa d):=by
    cases r:U[j]? with
    | none=>rw[r]at q';cases q'
    | some w=>rw[r]at q';exact eE Fa q'
   obtain⟨v,e5,hv⟩:=h j d e4;refine⟨v,?_,hv⟩;show Fa ((Y[j]?).join)=Fa (Fa v);rw[e5];rfl
def vj(g:DD)(tt:AA)(te:T3)(ok:Mp->Prop)(Q:DK):T0 D->T0 D->vv->Mp->Prop
 | [],acc,_,M=>acc.length<=Ch/\∀p,M p=Db->Q (.ref p) (pI M p (.lst acc))
 | d::r,acc,U,M=>acc.length<Ch/\g d U M λδ2 M2=>tt δ2 M2 λb M3=>if b=pc then te δ2 M3 λy M4=>ok M4/\vj g tt te ok Q r (acc++[y]) δ2 M4 else ok M3/\vj g tt te ok Q r acc δ2 M3
def MA(ix:T0 (Option Nat))(wi:NW)(g:DD)(tt:AA)(te:T3):T3:=λU M Q=>wi U M λds ok M1=>vj g tt te ok Q ds [] (PM ix U) M1
def F3(X:Cx)(XN:T0 zn)(t:AA):Prop:=PF X XN (Th X.K t)
def PF.mono{e:T0 zn}{t t':TT}(h:PF X e t)(m:∀Y H Q,t' Y H Q->t Y H Q):PF X e t':=λXc s Y H Q I q=>h Xc s Y H Q I (m Y H Q q)
def B':AA:=λ_ M Q=>Q pc M
def rH:F3 X [] B':=PF.mono SR λY H Q' zz=>x7 zz λU M Q hs hm ht k=>k pc H M hm .refl ht
def ve{t:AA}(h:B3 X c t):F3 X [c] t:=RA h
def IU:∀Y H Q',lo X.K (MA ix wi g tt te) Y H Q'->K9 ix (WN X.K wi) (Vm X.K g) (Th X.K tt) (lo X.K te) Y H Q':=λY H Q' zz=>x7 zz λU M Q hs hm ht k=>
 ⟨U,M,_,hs,hm,ht,λJ H1 ds ok M1 S Xe e1 YB q1=>by
  refine⟨λi m ys σ' H'=>m=ds.length - i/\i<=ds.length/\∃δ' M' acc,zS X.K H' σ' δ'/\HM X.K H' M'/\qp X.K H' acc ys/\ok M'/\qT X.K H1 H'/\vj g tt te ok Q (ds.drop i) acc δ' M',⟨ds.length,by simp,d9 _,PM ix U,M1,[],PC (hs.mono e1),Xe,.nil,YB,.refl,by simpa using q1⟩,?_⟩
  rintro i m ys σ' H' ⟨rfl,hi,δ',M',acc,ZN,YH,YN,ok',e',q'⟩
  by_cases Xr:i<ds.length
  .rw[hW Xr]at q';obtain⟨hz,q'⟩:=q';refine .inr ⟨S.go i H' M' Xr YH ok' e',by rw[<-YN.length];exact hz,λx H2 y=>?_⟩;obtain⟨hx,Xv,e2⟩:=S.oS i ds[i] H' M' x H2 (cQ Xr) YH ok' e' y;refine⟨ds[i],δ',M',_,hx,ZN.mono e2,Xv,q',λσ3 H3 δ3 M3 x1 x2 x3 x4 x5=>?_⟩;refine⟨δ3,M3,_,x1,x2,x5,λb H4 M4 y2 y3 y5=>?_⟩;cases b with
   | true=>rw[cV rfl]at y5 ⊢;refine⟨δ3,M4,_,x1.mono y3,y2,y5,λv H5 d M5 z1 z2 z3 z4=>⟨ds.length - (i+1),by omega,rfl,Xr,δ3,M5,acc++[d],x1.mono (y3.trans z3),z2,(YN.mono (e2.trans (x3.trans (y3.trans z3)))).snoc z1,z4.1,e'.trans (e2.trans (x3.trans (y3.trans z3))),z4.2⟩⟩
   | false=>rw[cS dh]at y5 ⊢;exact⟨ds.length - (i+1),by omega,rfl,Xr,δ3,M4,acc,x1.mono y3,y2,YN.mono (e2.trans (x3.trans y3)),y5.1,e'.trans (e2.trans (x3.trans y3)),y5.2⟩
  .have e:i=ds.length:=by omega
   subst e;rw[jz]at q';refine .inl ⟨S.stop H' M' YH ok' e',by rw[<-YN.length];exact q'.1,λp hp=>?_⟩;have e5:qT X.K H' (upd H' p (.lst ys)):=.new hp;exact k _ _ _ _ .ref (YH.new (c:=.lst acc) hp ⟨_,ql,YN.mono e5⟩) (e1.trans (e'.trans e5)) (q'.2 p (YH.fresh hp))⟩
def qG(hc:X.calm=pc)(S:sC X scope ix N')(hi:I3 X tg iter wi)(hg:∀{C s0 H0 ex},G3 (X.comp scope N' C s0 H0 ex) tg g)(ht:∀{C s0 H0 ex},F3 (X.comp scope N' C s0 H0 ex) XN tt)(he:∀{C s0 H0 ex},E3 (X.comp scope N' C s0 H0 ex) X6 te) (hs:∀x,AT iter X.env x=pure x:=by intro _;rfl):E3 X (.ListComp X6 [⟨tg,iter,XN,0⟩] scope pos) (MA ix wi g tt te):=PE.mono (OC (g:=Vm X.K g) (tt:=Th X.K tt) (te:=lo X.K te) hc S hi (λ_ _ _ _=>hg) (λ_ _ _ _=>ht) (λ_ _ _ _=>he) hs) IU
def ur{i:Nat}{x:Str}{px YX:Pos}(hN:X.N.Nodup)(hix:X.N[i]?=Fa x)(hx:La X.env.scope x)(hc:X.calm=pc)(S:sC X scope ix N')(hi:I3 X tg iter wi)(hg:∀{C s0 H0 ex},G3 (X.comp scope N' C s0 H0 ex) tg g)(ht:∀{C s0 H0 ex},F3 (X.comp scope N' C s0 H0 ex) XN tt) (he:∀{C s0 H0 ex},E3 (X.comp scope N' C s0 H0 ex) X6 te) (YG:ZB (.ListComp X6 [⟨tg,iter,XN,0⟩] scope pos) (Fa (.Name x px)) YX.line X.env=pure pc:=by rfl)
  (hf:MR X x:=by first|exact .inl rfl|exact .inr rfl|assumption) (hs:∀x,AT iter X.env x=pure x:=by intro _;rfl):
  S3 X (.Assign [.Name x px] (.ListComp X6 [⟨tg,iter,XN,0⟩] scope pos) YX) (Df (MA ix wi g tt te) (rS i)):=PS.nM (HR (g:=Vm X.K g) (tt:=Th X.K tt) (te:=lo X.K te) hN hix hx hc S hi (λ_ _ _ _=>hg) (λ_ _ _ _=>ht) (λ_ _ _ _=>he) YG hf hs) λD' Y H hl zz=>K2 zz λU M D hs hm ht k1 k2 k3 k4=>
 IU Y H _ ⟨U,M,_,hs,hm,ht,λv H1 d M1 hd Xe e1 q1=>k1 _ H1 _ M1 ((hs.mono e1).set hd (by rw[hl];exact(cT.mp hix).1)) Xe e1 (by simp) q1⟩
def WP(hr:sd k A):A.units+9<Y':=by have:=hr.units;omega
def Il(sc:XXc)(N:QQQ)(scope:XXc)(ix:T0 (Option Nat))(N':QQQ):Bool:=
 (scope.kind==.function)&&(scope.names.all λy=>!(y.2==.cell))&&(scope.names.all λy=>!(y.2==.local)||(scope.names.lookup y.1==Fa .local))&&
 (scope.names.all λy=>!(y.2==.free)||(sc.names.lookup y.1==Fa .cell)||(sc.names.lookup y.1==Fa .free))&&(ix.length==N'.length)&&
 ((ix.zip N').all λp=>match p.1 with|none=>pc|some i=>(N[i]?==Fa p.2)&&(scope.names.lookup p.2==Fa .free))
def Uq{X:Cx}(h:Il X.env.scope X.N scope ix N'=pc):sC X scope ix N':=by
 unfold Il at h;simp only[dO]at h;obtain⟨⟨⟨⟨⟨h1,h2⟩,h3⟩,h4⟩,h5⟩,h6⟩:=h;refine⟨by simpa using h1,λy hy e=>?_,λy hy e=>?_,λy hy e=>?_,by simpa using h5,λj i x e1 e2=>?_⟩
 .have:=eA.mp h2 y hy;rw[e]at this;simp at this
 .have:=eA.mp h3 y hy;rw[e]at this
  simpa using this
 .have:=eA.mp h4 y hy;rw[e]at this
  simpa using this
 .have hm:(Fa i,x)∈ix.zip N':=by
   have:(ix.zip N')[j]?=Fa (Fa i,x):=by rw[hZ];exact⟨e1,e2⟩
   exact e9 this
  have:=eA.mp h6 _ hm
  simpa using this
section
variable {a b:zn}
def Jk(op X5:CmpOp)(ta tb tc:T3):T3:=λU M Q=>ta U M λx M1=>tb U M1 λy M2=>OH op x y M2 λz M3=>match z with
 | .bl k=>if k=pc then tc U M3 λw M4=>OH X5 y w M4 Q else Q (.bl lf) M3
 | _=>False
def uA{op X5:CmpOp}(hu:X.A.units+9<Y')(ha:E3 X a ta)(hb:E3 X b tb)(hc:E3 X c tc)(hmk:lastMarks [op,X5] [b,c]=lf:=by rfl):
  E3 X (.Compare a [op,X5] [b,c] pos) (Jk op X5 ta tb tc):=PE.mono (Nk (Kf op hu) (Kf X5 hu) ha hb hc hmk) λY H Q' zz=>x7 zz λU M Q hs hm ht k=>
 ⟨U,M,_,hs,hm,ht,λv H1 x M1 hx Xe e1 q1=>⟨U,M1,_,hs.mono e1,Xe,q1,λu H2 y M2 hy Xv e2 q2=>⟨x,y,M2,_,hx.mono e2,hy,Xv,q2,λw H3 z M3 hz Yb e3 q3=>by
  cases z with
  | bl c=>
   refine⟨c,hz.mF,?_⟩;cases c with
   | true=>refine(cV rfl).mpr ⟨U,M3,_,hs.mono (e1.trans (e2.trans e3)),Yb,(cV rfl).mp q3,λw' H4 d M4 hd hm4 e4 q4=>⟨y,d,M4,Q,hy.mono (e3.trans e4),hd,hm4,q4,vQ (e1.trans (e2.trans (e3.trans e4))) k⟩⟩
   | false=>exact(cS dh).mpr (k _ H3 _ M3 .bl Yb (e1.trans (e2.trans e3)) ((cS dh).mp q3))
  | _=>exact q3.elim⟩⟩⟩
def F5{op X5:CmpOp}(hu:X.A.units+9<Y')(ha:E3 X a ta)(hb:E3 X b tb)(hc:E3 X c tc)(hmk:lastMarks [op,X5] [b,c]=lf:=by rfl):
  B3 X (.Compare a [op,X5] [b,c] pos) (b3 (Jk op X5 ta tb tc)):=PT.mono (NN (Kf op hu) (Kf X5 hu) ha hb hc hmk) λY H Q' zz=>x7 zz λU M Q hs hm ht k=>
 ⟨U,M,_,hs,hm,ht,λv H1 x M1 hx Xe e1 q1=>⟨U,M1,_,hs.mono e1,Xe,q1,λu H2 y M2 hy Xv e2 q2=>⟨x,y,M2,_,hx.mono e2,hy,Xv,q2,λw H3 z M3 hz Yb e3 q3=>by
  cases z with
  | bl c=>
   refine⟨c,hz.mF,?_⟩;cases c with
   | true=>
    refine(cV rfl).mpr ⟨U,M3,_,hs.mono (e1.trans (e2.trans e3)),Yb,(cV rfl).mp q3,λw' H4 d M4 hd hm4 e4 q4=>⟨y,d,M4,_,hy.mono (e3.trans e4),hd,hm4,q4,λw5 H5 d5 M5 hd5 hm5 e5 q5=>?_⟩⟩;cases d5 with
    | bl c5=>exact⟨c5,hd5.mF,k c5 H5 M5 hm5 (e1.trans (e2.trans (e3.trans (e4.trans e5)))) q5⟩
    | _=>exact q5.elim
   | false=>exact(cS dh).mpr ⟨lf,rfl,k lf H3 M3 Yb (e1.trans (e2.trans e3)) ((cS dh).mp q3)⟩
  | _=>exact q3.elim⟩⟩⟩
structure W9(K:qw)(C:Uf):Prop where
 ha:W.findIn K (.ref C) "__class__"=Fa (Fa (.builtin "object.__class__"))
 hn:W.specialIn K (.builtin "object.__class__") "__get__"=Fa (Fa (.builtin "getset_descriptor.__get__"))
 htk:W.takesIn K (.builtin "object.__class__")=Fa pc
 hm:W.mroIn K C (.type "object")=Fa pc
def G8:T0 D->Option (T0 Bool)
 | []=>Fa []
 | .bl b::r=>(G8 r).map (b::·)
 | _::_=>Db
theorem FK{K:qw}:∀{ds:T0 D} {bs:T0 Bool} {xs:T0 V} {us:T0 Vl},G8 ds=Fa bs->qp K H ds xs->qE xs us->us=bs.map Value.bool
 | [],bs,xs,us,e,h,r=>by cases e;have:=h.nil_inv;subst this;cases r;rfl
 | d::ds,bs,xs,us,e,h,r=>by
  cases d with
  | bl b=>
   obtain⟨y,ys,rfl,h1,h2⟩:=h.inv;cases h1.mF;unfold G8 at e;cases q:G8 ds with
   | none=>rw[q]at e;cases e
   | some cs=>
    rw[q]at e;cases e;cases r with
    | cons r1 r2=>cases r1;rw[FK q h2 r2];rfl
  | _=>cases e
def Tq(ds:T0 D)(M:Mp)(Q:DK):Prop:=match ds with
 | [.ref a]=>(oX M a).elim False λes=>(G8 es).elim False λbs=>Q (.bl (bs.all id)) M
 | _=>False
def E1(hc:X.calm=pc):C3 X (.builtin "all") Tq:=by
 intro Xc s Y H vs us Q' I rv h;obtain⟨ds,M,Q,hd,hm,q,k⟩:=h;unfold Tq at q;split at q
 .rename_i a;obtain⟨v,rfl,hv⟩:=sD hd;obtain⟨es,e0,q⟩:=rg q;obtain⟨bs,e1,q⟩:=rg q;cases hv.mC;obtain⟨u,rfl,ru⟩:=yA rv;cases ru;obtain⟨xs,h1,h2,_⟩:=qB hm e0;obtain⟨its,r,pl,hz⟩:=I.list h1;have eits:=FK e1 h2 r;subst eits;have XB:a≠s.heap.objs.size:=by obtain⟨o,_,e,_⟩:=pl;exact dC (dg e)
  refine call_all_walk (gN pl.isList ?_);refine⟨s.heap.objs.size,_,_,_,_,_,λi=>(bs[i]?).getD pc,rfl,j8 (A:=X.A.in1) (I.ok.hd hc) _ a XB (bs.map Value.bool).toArray,⟨⟨_,dA _ rfl,rfl,rfl⟩,?_⟩,λi v s' Q E hP hQ=>?_,λh' tk hk=>?_⟩
  .obtain⟨o,n,e,c,d,q⟩:=pl;exact⟨o,cU _ e,c,n,q⟩
  .simp only[iF,df]at hP;cases e2:bs[i]? with
   | none=>rw[e2]at hP;cases hP
   | some b=>rw[e2]at hP;cases hP;have hQ:Q ((bs[i]?).getD pc) s':=hQ;rw[e2]at hQ;exact eZ hQ
  .have ea:(List.range (bs.map Value.bool).toArray.size).all (λi=>(bs[i]?).getD pc)=bs.all id:=by
    rw[de,cO];rw[gh,eA,eA];constructor
    .intro z b hb;obtain⟨i,hi,e⟩:=gG hb;have:=z i (fJ.mpr hi);rw[cQ hi,e]at this;exact this
    .intro z i hi;have YO:=fJ.mp hi;rw[cQ YO];exact z _ (gW YO)
   rw[ea];refine⟨.bl (bs.all id),H,?_,rfl,k _ _ _ _ .bl hm .refl q⟩;exact I.kept (h':=h') (t':=tk) λb o e=>hk b o (by simpa using dC (dg e)) (cU _ e)
 .exact q.elim
def A9(x:D):T0 D->Option Nat
 | []=>Db
 | d::r=>if Qw d x=pc then Fa 0 else(A9 x r).map (·+1)
theorem JS{K:qw}{e:D}{w:V}(g:rQ K H e w)(fe:vk e=pc):∀{ds:T0 D} {xs:T0 V} {us:T0 Vl} {j:Nat},qp K H ds xs->qE xs us->ds.all vk=pc->A9 e ds=Fa j->
  ∃h:j<us.length,Es w us[j]=pc/\∀m (hm:m<us.length),m<j->Es w us[m]=lf
 | [],_,_,_,_,_,_,q=>by cases q
 | d::ds,_,us,j,h,r,fl,q=>by
  obtain⟨y,ys,rfl,h1,h2⟩:=h.inv;rw[eR,dO]at fl;cases r with
  | @cons _ u _ us' r1 r2=>
   have eu:Es w u=Qw d e:=by rw[Ia r1 (zC h1 fl.1),IL h1 g fl.1 fe]
   unfold A9 at q;by_cases hq:Qw d e=pc
   .rw[cV hq]at q;cases q;exact⟨by simp,by simpa [eu]using hq,λm _ hm=>absurd hm (Nat.not_lt_zero m)⟩
   .rw[cS hq]at q;cases q2:A9 e ds with
    | none=>rw[q2]at q;cases q
    | some j'=>
     rw[q2]at q;cases q;obtain⟨hl,e1,e2⟩:=JS g fe h2 r2 fl.2 q2;refine⟨by simpa using hl,by simpa using e1,λm hm Xr=>?_⟩;cases m with
     | zero=>simpa [eu]using hq
     | succ m=>simpa using e2 m (by simpa using hm) (by have z:m+1<j'+1:=Xr;omega)
def Re(x:D)(ds:T0 D)(M:Mp)(Q:DK):Prop:=match x,ds with
 | .ref a,[y]=>(oX M a).elim False λes=>vk y=pc/\es.all vk=pc/\(A9 y es).elim False λj=>Q (.int (j:Nat)) M
 | _,_=>False
def M3(X:Cx)(id:String)(r:D->T0 D->Mp->DK->Prop):Prop:=WO X id λvx vs H Q'=>∃x ds M Q,rQ X.K H x vx/\qp X.K H ds vs/\HM X.K H M/\r x ds M Q/\Up X.K H Q' Q
def LW:M3 X "list.index" Re:=by
 intro Xc s Y H vx vs v us Q' I rx rv h;obtain⟨x,ds,M,Q,hx,hd,hm,q,k⟩:=h;unfold Re at q;split at q
 .rename_i a y;obtain⟨es,e0,f1,f2,q⟩:=rg q;obtain⟨j,e1,q⟩:=rg q;cases hx.mC;cases rx;obtain⟨w,rfl,hw⟩:=sD hd;obtain⟨u,rfl,ru⟩:=yA rv;obtain⟨xs,h1,h2,rd⟩:=qB hm e0;obtain⟨hz,its,n,r,g⟩:=rd.ok I.mK;obtain⟨hl,p1,p2⟩:=JS hw f1 h2 r f2 e1;have hlz:its.length<=Ch:=by rw[<-r.length];exact hz
  have h63:=yZ;refine jl F.slot_list_index ⟨_,g,rfl⟩ F.entry_list_index (F.args_list_index_2 _ _) (SeqAt.list_indexAt a its.toArray n Db #[] u (Es w) j (by simpa using hl) (by omega) (by simpa using p1) λm hm Xr=>by simpa using p2 m (by simpa using hm) Xr) ⟨g,?_,?_⟩
  .intro z hz';exact wF ru (zC hw f1) r (Fh h2 f2) z (by simpa using hz')
  .exact⟨.int (j:Nat),H,I.tok _,⟨_,rfl⟩,k _ _ _ _ .int hm .refl q⟩
 .exact q.elim
def Q5(M:Mp):D->Prop
 | .ref a=>(oX M a).isSome=pc
 | _=>False
def V5(r:D->T0 D->Mp->DK->Prop)(to:T3)(t:xQ):T3:=λU M Q=>to U M λx M1=>Q5 M1 x/\t U M1 λds M2=>r x ds M2 Q
def Rg{K:qw}{x:D}(hm:HM K H M)(h:rQ K H x v)(l:Q5 M x):Wq K "list" v H:=by
 cases x with
 | ref a=>cases h.mC;obtain⟨ds,e⟩:=jt.mp (show(oX M a).isSome=pc from l);obtain⟨xs,h1,_⟩:=qB hm e;exact .inl ⟨rfl,xs,h1⟩
 | _=>exact l.elim
def QR{id:String}(slot:Slot "list" name id)(hty:typeOf (.builtin id)=pure (.type "method_descriptor"))(hm:M3 X id r)(ho:E3 X o ta)(ha:A3 X (e::es) t) (Xp:At o name X.env (wp o X.env)=wp o X.env:=by rfl)
  (Yt:((Ix pos (Tl (e::es) X.env)).all (λx=>!x.1)&&(dL pos (Ps [] X.env)).all (λx=>x.1.isSome)
   &&decide ((e::es).length+([]:T0 XXd).length+(if ([]:T0 XXd).isEmpty then 0 else 1)<30))=pc:=by rfl)
  (Xz:(Xf.endLine==pos.line)=pc:=by rfl) (hs:Bp X e es:=by rfl) (Xu:CU X pos es:=by rfl):
  E3 X (.Call (.Attribute o name Xf) (e::es) [] pos) (V5 r ta t):=PE.mono (TL PySem.F.plainAttrs_list slot hty hm ho ha Xp Yt Xz hs Xu) λY H Q' zz=>x7 zz λU M Q hs hm ht k=>
 ⟨U,M,_,hs,hm,ht,λv H1 x M1 hx Xe e1 q1=>⟨Rg Xe hx q1.1,U,M1,_,hs.mono e1,Xe,q1.2,λvs H2 ds M2 Ys Xv e2 q2=>⟨x,ds,M2,Q,hx.mono e2,Ys,Xv,q2,vQ (e1.trans e2) k⟩⟩⟩
def xV(ho:E3 X o ta)(ha:A3 X (e::es) t) (Xp:At o "index" X.env (wp o X.env)=wp o X.env:=by rfl)
  (Yt:((Ix pos (Tl (e::es) X.env)).all (λx=>!x.1)&&(dL pos (Ps [] X.env)).all (λx=>x.1.isSome)
   &&decide ((e::es).length+([]:T0 XXd).length+(if ([]:T0 XXd).isEmpty then 0 else 1)<30))=pc:=by rfl)
  (Xz:(Xf.endLine==pos.line)=pc:=by rfl) (hs:Bp X e es:=by rfl) (Xu:CU X pos es:=by rfl):
  E3 X (.Call (.Attribute o "index" Xf) (e::es) [] pos) (V5 Re ta t):=QR PySem.F.slot_list_index PySem.F.type_list_index LW ho ha Xp Yt Xz hs Xu
structure MM(K:qw)(C:Uf)(m:Str)(f:Uf):Prop where
 hg:W.specialIn K (.ref C) "__getattribute__"=Fa (Fa (.builtin "type.__getattribute__"))
 rd:W.readsIn K C (.type "type")=pc
 fc:W.findCls K (.ref C) (.type "type") m=Fa (.val (.ref f))
def PJ{sp:Sp}{t:TA}{pl:Sem Bool}(cm:MM X.K C m f)(F:xp X.prog X.w X.K X.mg X.base NX k f fd ps sp)(hr:sd k X.A)(hg:Gl X x)(hm:X.mg x=Fa (.ref C))(hk:W.keepIn X.K (.ref f)=pc)(hb:uX X.K fd ps [])(ha:PA X (e::es) t) (Xw:zR x:=by decide) (XA:Bp X e es:=by rfl) (Xt:CU X pos es:=by rfl)
  (ht:wp (.Call (.Attribute (.Name x p) m Xf) (e::es) [] pos) X.env=(do
   let ov<-wp (.Name x p) X.env
   XXb Xf.atName
   let(f,first)<-xz [ov] (TW ov m pl)
   XXg pos f first (Ix pos (Tl (e::es) X.env)) (dL pos (Ps [] X.env))):=by rfl):
  PE X (.Call (.Attribute (.Name x p) m Xf) (e::es) [] pos) (λY H Q=>t Y H λvs H1=>sp vs H1 Q E0):=by
 intro Xc s Y H Q I h;refine jO (pl:=pl) (xj I hg hm ?_ Xw) ht;refine W.method_cls I.ni cm.hg (W.cls_value I.ni cm.rd cm.fc rfl ?_);refine iH (first:=[]) (h₀:=X.base) I.ok.mod.oj hk (sL (ha pos Xc _ Y H _ (I.tok _) h) λus s2 zz=>x5 zz λvs H2 I2 r q2=>⟨I2.ni,?_⟩) XA Xt;exact Ex F hr hb .nil (Gh (X:=X)) I2 r (by rw[eJ];exact q2)
def On{pl:Sem Bool}(cm:MM X.K C m f)(F:Ti X.prog X.w X.K X.mg X.base k f fd ps sp)(hr:sd k X.A)(hg:Gl X x)(hm:X.mg x=Fa (.ref C))(hk:W.keepIn X.K (.ref f)=pc)(hb:uX X.K fd ps [])(ha:A3 X (e::es) t) (Xw:zR x:=by decide) (XA:Bp X e es:=by rfl) (Xt:CU X pos es:=by rfl)
  (ht:wp (.Call (.Attribute (.Name x p) m Xf) (e::es) [] pos) X.env=(do
   let ov<-wp (.Name x p) X.env
   XXb Xf.atName
   let(f,first)<-xz [ov] (TW ov m pl)
   XXg pos f first (Ix pos (Tl (e::es) X.env)) (dL pos (Ps [] X.env))):=by rfl):
  E3 X (.Call (.Attribute (.Name x p) m Xf) (e::es) [] pos) (DL sp t):=PE.mono (PJ cm F hr hg hm hk hb ha Xw XA Xt ht) λY H Q' zz=>x7 zz λU M Q hs hm ht k=>
 ⟨U,M,_,hs,hm,ht,λvs H1 ds M1 hd Xe e1 q1=>⟨ds,M1,Q,hd,Xe,q1,vQ e1 k⟩⟩
def qv:Go "len"=Fa (.builtin "len"):=by decide+kernel
def Sj:Go "min"=Fa (.builtin "min"):=by decide+kernel
def Fs:Go "all"=Fa (.builtin "all"):=by decide+kernel
def rZ:Go "tuple"=Fa (.type "tuple"):=by decide+kernel
def uk:Go "list"=Fa (.type "list"):=by decide+kernel
def EA:Go "dict"=Fa (.type "dict"):=by decide+kernel
def FO:Go "enumerate"=Fa (.type "enumerate"):=by decide+kernel
def Ro:Go "zip"=Fa (.type "zip"):=by decide+kernel
end
theorem _root_.L2.Inv.drawn{ch:QXQ}{T:Uf}{xs:T0 V}{h':No}{tk:Nat}(I:Inv X Xc Y H s)(Ye:∀b∈ch,AS X Xc H b)(k:∀b o,b∉ch->s.heap.get? b=Fa o->h'.get? b=Fa o)(hT:s.heap.objs.size<=T)(hx:xs.length<=Ch) (rv:qE xs its) (ht:FL h' T its.toArray):Inv X Xc Y (upd H T (.tup xs)) {s with heap:=h',toks:=tk}:=by
 have Zw:H T=Db:=I.mK.fresh hT;have nT:∀b o,s.heap.get? b=Fa o->b≠T:=λb o e=>dC (dJ (dg e) hT);refine I.step (g':=s.gens) (d':=s.drawn) (ch:=ch) (λb hb=>⟨(Ye b hb).2.2.2.1,(Ye b hb).2.1,(Ye b hb).2.2.2.2.1,(Ye b hb).2.2.2.2.2⟩) (λb o _ _ hc e _=>k b o hc e) (λb o _ _ hc e _=>⟨o.slots,k b o hc e⟩) (λb o _ e n=>by rw[qa (nT b o e)];exact n)
  (λb o hc e=>⟨o,k b o hc e⟩) (λb ys e=>by rw[qa (qS e Zw)];exact e) (λb o u e=>by rw[qa (qS e Zw)];exact e) (λb ps e=>⟨#[],by rw[qa (qS e Zw),e];simp⟩) (λm hm=>?_) (λb u e=>?_) I.bare
 .obtain⟨o,es,ep,ho,r⟩:=hm;exact⟨o,es,ep,k _ o (λz=>(Ye _ z).2.1 rfl) ho,r⟩
 .by_cases hb:b=T
  .subst hb;rw[ql]at e;cases e;exact⟨hx,its,rv,ht⟩
  .rw[qa hb]at e;refine(I.mK b u e).ng (λc v hc q=>k c v (λz=>?_) q) (λc q=>by rw[qa (qS q Zw)];exact q) (λc ys q=>by rw[qa (qS q Zw)];exact q);have n:=(Ye c z).1;rcases hc with y|y
   .rw[y,e]at n;cases n
   .rw[y]at n;cases n
def V9(K:qw)(a:Uf):It:=
 ⟨λi H=>∃xs x,zb K H a xs/\xs[i]?=Fa x,λi H x H'=>∃p y,x=.ref p/\H p=Db/\H'=upd H p (.tup [.int (i:Nat),y])/\∀xs,zb K H a xs->xs[i]?=Fa y,λi H=>∃xs,zb K H a xs/\xs.length<=i⟩
def J6{K:qw}(a e it:Uf)(hei:e≠it):F4 P w K (.Tuple XO n tp) (V9 K a) [e,it] e (λi h=>(∃XI,IsEnum h e it (i:Nat) XI)/\h.IsListIter it a i) where
 mem:=by simp
 obj:=λi h st b hb=>by
  obtain⟨⟨XI,he⟩,o,e1,c,d⟩:=st;rcases cW.mp hb with rfl|hb
  .exact⟨_,he,λv z=>by cases z⟩
  .rw[cX.mp hb];exact⟨o,e1,λv z=>by rw[d]at z;cases z⟩
 keep:=λi h h' st k=>by obtain⟨⟨XI,he⟩,hi⟩:=st;exact⟨⟨XI,k e (by simp) _ he⟩,hi.at λo q=>k it (by simp) o q⟩
 item:=by
  intro X hP hw hK hc i Xc s Y H E I hf st hg;subst hP hw hK;obtain⟨xs,x,hq,hx⟩:=hg;obtain⟨its,rv,p,hz⟩:=I.list hq;obtain⟨u,hu,ru⟩:=rv.get hx;obtain⟨⟨XI,he⟩,hi⟩:=st;refine wpAny_pyNext_enum_item he hi p.isList (x:=u) (by simpa using hu) hei λh1 ho YQ hT hsz hk=>?_;refine⟨_,rfl,wpAny_letOwnedTupleGo_enum ho λh2 he2 YS=>?_⟩;have helt:e<s.heap.objs.size:=dg he;have hilt:it<s.heap.objs.size:=by obtain⟨o,q,_⟩:=hi;exact dg q
  have kk:∀b o,b∉[e,it]->s.heap.get? b=Fa o->h2.get? b=Fa o:=λb o hb q=>(YS.2 b λz=>hb (by simp[z])).trans (hk b o (λz=>hb (by simp[z])) (λz=>hb (by simp[z])) q);have hT2:h2.get? s.heap.objs.size=Fa {cls:=.type "tuple",data:=.seq #[.int (i:Nat) s.toks,u]}:=(YS.2 _ (gD helt)).trans hT;have Zw:H s.heap.objs.size=Db:=I.mK.fresh (c9 _);have I2:=I.drawn (ch:=[e,it]) (T:=s.heap.objs.size) (xs:=[.int (i:Nat),x]) (its:=[.int (i:Nat) s.toks,u]) (h':=h2) (tk:=s.toks+1) hf kk (c9 _) (by show 2<=Ch;decide) (.cons ⟨_,rfl⟩ (.cons ru .nil)) ⟨_,hT2,rfl,⟨_,rfl⟩,rfl⟩;refine⟨.ref s.heap.objs.size,_,I2,rfl,⟨_,x,rfl,Zw,rfl,λys hy=>by rw[I.nN hy hq];exact hx⟩,⟨⟨_,by simpa using he2⟩,YQ.extBut YS.extBut (dH hei)⟩,λb hb=>?_⟩;have X7:b<s.heap.objs.size:=by
   rcases cW.mp hb with z|z
   .rw[z];exact helt
   .rw[cX.mp z];exact hilt
  rw[qa (dC X7)];exact(hf b hb).1
 done:=by intro X hP hw hK hc i Xc s Y H E I hf st hg;subst hP hw hK;obtain⟨xs,hq,hx⟩:=hg;obtain⟨its,rv,p,hz⟩:=I.list hq;obtain⟨⟨XI,he⟩,hi⟩:=st;have hl:=rv.length;obtain⟨f0,f1,f2,f3,f4,f5⟩:=hf it (by simp);exact wpAny_pyNext_enum_end (I.ok.hd hc) he hi p.isList (by simp;omega) λh' eb=>⟨rfl,I.turned (t':=s.toks) (λb o hb q=>eb b o hb q) f0 f1 f3 f4 f5⟩
 self:=λ_ _ _ _ _ st h=>by obtain⟨⟨XI,he⟩,_⟩:=st;exact lb he h
variable {tp:Pos}{XO:T0 zn}{n:Nat}
def Pa{a:zn}{ta:TA}(hg:Gl X "enumerate")(hm:X.mg "enumerate"=Db)(ha:PA X [a] ta)(hs:Tl [a] X.env=[(lf,wp a X.env)]:=by rfl):
  PI X (.Tuple XO n tp) (.Call (.Name "enumerate" p) [a] [] pos) (λY H R=>ta Y H λvs H1=>∃l,vs=[.ref l]/\(∃xs,zb X.K H1 l xs)/\R (V9 X.K l) H1):=by
 intro Xc s Y H R I h;refine Call_ (xB I hg hm FO (fS (sL (ha pos Xc s Y H _ I h) λus s1 zz=>x5 zz λvs H1 I1 r1 q1=>?_) hs rfl));obtain⟨l,e,⟨xs,hq⟩,q⟩:=q1;subst e;obtain⟨u,rfl,ru⟩:=yA r1;cases ru;obtain⟨its,rv,pl,hz⟩:=I1.list hq;refine call_enumerate_list pl.isList λh' he hi hsz hk=>?_;refine lb he ?_;have I2:Inv X Xc Y H1 {s1 with heap:=h'}:=I1.kept (t':=s1.toks) hk;refine⟨s1.heap.objs.size+1,[s1.heap.objs.size+1,s1.heap.objs.size],_,_,H1,rfl,I2,J6 l _ _ (Nat.succ_ne_self _),⟨⟨_,he⟩,hi⟩,λb hb=>?_,q⟩;have X7:s1.heap.objs.size<=b:=by
  rcases cW.mp hb with z|z
  .rw[z];exact gM _
  .rw[cX.mp z];exact c9 _
 exact I1.nS X7 (I1.mK.fresh X7)
def ue:Nat->T0 D->T0 D
 | _,[]=>[]
 | i,d::r=>.tup [.int (i:Nat),d]::ue (i+1) r
theorem zH:∀{ds:T0 D} {i j:Nat},(ue j ds)[i]?=(ds[i]?).map λd=>D.tup [.int ((j+i:Nat):Int),d]
 | [],i,j=>by simp[ue]
 | d::r,0,j=>by simp[ue]
 | d::r,i+1,j=>by show(ue (j+1) r)[i]?=_;rw[zH];simp only[List.getElem?_cons_succ];rw[show j+1+i=j+(i+1)by omega]
theorem uU:∀{ds:T0 D} {j:Nat},(ue j ds).length=ds.length
 | [],j=>rfl
 | d::r,j=>by simp[ue,uU]
def Mf{K:qw}:GO K H1 (V9 K a) (ue 0 ds) (λM=>oX M a=Fa ds) where
 go:=λi H M hi hm ok _=>by rw[uU]at hi;obtain⟨xs,h1,h2,_⟩:=qB hm ok;obtain⟨x,e,_⟩:=h2.get (cQ hi);exact⟨xs,x,h1,e⟩
 oS:=λi d H M x H' hd hm ok _ y=>by
  obtain⟨xs,h1,h2,_⟩:=qB hm ok;obtain⟨p,z,rfl,hp,rfl,y⟩:=y;rw[zH]at hd;cases e:ds[i]? with
  | none=>rw[e]at hd;cases hd
  | some d'=>rw[e]at hd;cases hd;obtain⟨x',e',hx⟩:=h2.get e;have w1:=y xs h1;rw[e']at w1;have w2:x'=z:=cY w1;subst w2;have ex:qT K H (upd H p (.tup [.int (i:Nat),x'])):=.new hp;refine⟨.tup (.of ql) (.cons (by rw[mj];exact .int) (.cons (hx.mono ex) .nil)),hm.add hp,ex⟩
 stop:=λH M hm ok _=>by obtain⟨xs,h1,h2,_⟩:=qB hm ok;exact⟨xs,h1,by rw[uU,h2.length];exact c9 _⟩
def Rw(t:xQ):NW:=λU M R=>t U M λds M1=>match ds with
 | [.ref a]=>(oX M1 a).elim False λes=>R (ue 0 es) (λM=>oX M a=Fa es) M1
 | _=>False
def uH{a:zn}{ta:xQ}(hg:Gl X "enumerate")(hm:X.mg "enumerate"=Db)(ha:A3 X [a] ta)(hs:Tl [a] X.env=[(lf,wp a X.env)]:=by rfl):I3 X (.Tuple XO n tp) (.Call (.Name "enumerate" p) [a] [] pos) (Rw ta):=
 PI.mono (Pa hg hm ha hs) λY H R' zz=>x7 zz λU M R hs hm ht k=>⟨U,M,_,hs,hm,ht,λvs H1 ds M1 hd Xe e1 q1=>by
  split at q1
  .obtain⟨v,rfl,hv⟩:=sD hd;cases hv.mC;obtain⟨es,e0,q⟩:=rg q1;obtain⟨xs,h1,h2,_⟩:=qB Xe e0;exact⟨_,rfl,⟨xs,h1⟩,k _ H1 _ _ M1 Mf Xe e1 e0 q⟩
  .exact q1.elim⟩
variable {prog:Pg}{A:Ar}{E:QQX}
def HW{it t:Uf}{i:Nat}{its:Array Vl}{x:Vl}{Q:QQX}(hi:s.heap.IsTupleIter it t i)(ht:s.heap.IsTuple t its)(hx:its[i]?=Fa x) (hQ:∀g,g.IsTupleIter it t (i+1)->Heap.SameBut it s.heap g->Q x {s with heap:=g}):pi (Tk prog w) A (Builtin.SmallTypes.nextOf (.ref it)) Q E s:=by
 obtain⟨ob,e1,e2,e3⟩:=id hi;obtain⟨ot,e4,_,nt,e5⟩:=ht;unfold Builtin.SmallTypes.nextOf;refine cP (fG (name:=Str.ofString "__next__") hi.typeIs gy (fP gy hi.typeIs jb ?_ (iX _)));show pi (Tk prog w) _ (field (.ref it) 0>>=_) _ _ s;refine cP (eX e1 e3 (x:=.ref t) rfl ?_);show pi (Tk prog w) _ (if (Value.ref t==Value.none)=pc then _ else _) _ _ s;rw[cS (show ¬(Value.ref t==Value.none)=pc from dh)];show pi (Tk prog w) _ (field (.ref it) 1>>=_) _ _ s;refine cP (eX e1 e3 (x:=.int i 0) rfl ?_);show pi (Tk prog w) _ (seqItems? (.ref t)>>=_) _ _ s;refine cP (gq e4 e5 ?_);simp only[gz,hx];refine cP (gS e1 e3 (by simp) (cZ ⟨x,rfl,cZ (hQ _ ⟨_,fE _ e1 (Obj.isFreed_of_fields (kM e3 _)),(Obj.cls_mapFields ..).trans e2,?_⟩ (kx ..))⟩));rw[kM e3];simp[X']
def BD{it t:Uf}{i:Nat}{its:Array Vl}{Q:QQX}(hh:A.handled=Db)(hi:s.heap.IsTupleIter it t i)(ht:s.heap.IsTuple t its)(hx:its[i]?=Db) (hE:∀g e,Heap.ExtBut it s.heap g->(∃o,g.get? e=Fa o/\o.cls=.type "StopIteration")->E (.ref e) {s with heap:=g}):pi (Tk prog w) A (Builtin.SmallTypes.nextOf (.ref it)) Q E s:=by
 obtain⟨ob,e1,e2,e3⟩:=id hi;obtain⟨ot,e4,_,nt,e5⟩:=ht;unfold Builtin.SmallTypes.nextOf;refine cP (fG (name:=Str.ofString "__next__") hi.typeIs gy (fP gy hi.typeIs jb ?_ (iX _)));show pi (Tk prog w) _ (field (.ref it) 0>>=_) _ _ s;refine cP (eX e1 e3 (x:=.ref t) rfl ?_);show pi (Tk prog w) _ (if (Value.ref t==Value.none)=pc then _ else _) _ _ s;rw[cS (show ¬(Value.ref t==Value.none)=pc from dh)];show pi (Tk prog w) _ (field (.ref it) 1>>=_) _ _ s;refine cP (eX e1 e3 (x:=.int i 0) rfl ?_);show pi (Tk prog w) _ (seqItems? (.ref t)>>=_) _ _ s;refine cP (gq e4 e5 ?_);simp only[gz,hx];refine cP (j7 (cP (gS e1 e3 (by simp) ?_)));show pi (Tk prog w) _ (newExc (.type "StopIteration") []>>=_) _ _ _;refine cP ?_;simp only[newExc,newTuple];refine cP (fQ ?_ (by size_fits));refine cP (m:=firstArgMember _ _) (wpAny_of_eq (a:=Value.none) (by first|rfl|(simp only[firstArgMember];rfl)) ?_);refine fQ ?_ (by size_fits);simp only[raiseNew];refine cP (wpAny_handled ?_)
 first|rw[show A.in1.handled=Db from hh]|rw[hh]
 refine cP (cZ (wpAny_throw (hE _ _ (((kx ..).extBut.push _).push _) ⟨_,dA _ rfl,rfl⟩)))
def yh{prog:Pg}{w:Wo}{A:Ar}(hh:A.handled=Db)(it t:Uf)(XB:t≠it)(its:Array Vl):
  Draws prog w A it [it,t] its.size (λi v=>its[i]?=Fa v) (λi h=>h.IsTupleIter it t i/\h.IsTuple t its) where
 live:=λi h st=>let⟨o,ho,_⟩:=st.1;⟨o,ho⟩
 frame:=λi h g st hk=>by obtain⟨⟨o,e1,e2⟩,⟨o',e3,e4⟩⟩:=st;exact⟨⟨o,hk it (by simp) o e1,e2⟩,⟨o',hk t (by simp) o' e3,e4⟩⟩
 item:=λi s Q E hi st hQ=>HW st.1 st.2 (x:=its[i]) (by simp[hi]) λg hg hs=>hQ _ g s.toks (by simp[hi]) ⟨hg,st.2.extBut hs.extBut XB⟩ hs
 done:=λs Q E st hE=>BD hh st.1 st.2 (by simp) hE
structure As(z TI TO i1 i2:Uf)(f1 f2:QXQ):Prop where
 a1:TI≠z
 a2:TO≠z
 a3:i1≠z
 a4:i2≠z
 a5:TI≠TO
 a6:TI≠i1
 a7:TI≠i2
 a8:TO≠i1
 a9:TO≠i2
 pj:i1≠i2
 b1:z∉f1
 b2:TO∉f1
 b3:i2∉f1
 c1:z∉f2
 c2:TO∉f2
 c3:i1∉f2
variable {z TI TO i1 i2:Uf}{f1 f2:QXQ}{n1 n2 k1 k2:Nat}{P1 P2:Nat→Vl→Prop}{S1 S2:Nat→No→Prop}
section
variable {a b:Vl}
def sy{St:Nat->No->Prop}(Dr:Draws prog w A it fp n Pt St){i:Nat}{h g:No}{c:Uf}(st:St i h)(hs:Heap.SameBut c h g)(hc:c∉fp):St i g:=
 Dr.frame _ _ _ st λd hd o e=>(hs.2 d λq=>hc (q ▸ hd)).trans e
def Ks{Q:QQX}(D1:Draws prog w A i1 f1 n1 P1 S1)(D2:Draws prog w A i2 f2 n2 P2 S2)(Xx:As z TI TO i1 i2 f1 f2)(hz:XXj s.heap z TI TO .none)(hI:xL s.heap TI (.ref i1) (.ref i2))(hO:xL s.heap TO a b) (XU:S1 k1 s.heap) (Xk:S2 k2 s.heap) (l1:k1<n1) (l2:k2<n2) (hQ:∀x y g tk,P1 k1 x->P2 k2 y->XXj g z TI TO (X' s.heap.objs.size)->xL g TO x y->S1 (k1+1) g->S2 (k2+1) g->xL g s.heap.objs.size x y->g.objs.size=s.heap.objs.size+1->
   (∀c o,c≠z->c≠TO->c≠i1->c≠i2->s.heap.get? c=Fa o->g.get? c=Fa o)->Q (.ref s.heap.objs.size) {s with heap:=g,toks:=tk}):
  pi (Tk prog w) A (Builtin.«zip.__next__» ⟨[.ref z],[]⟩) (λXh s'=>∃v,Xh=.done (.ret v)/\Q v s') E s:=by
 show pi (Tk prog w) A (field (.ref z) 2>>=_) _ _ _;refine cP (eX hz rfl (x:=.bool lf) rfl ?_);show pi (Tk prog w) A (field (.ref z) 3>>=_) _ _ _;refine cP (eX hz rfl (x:=.ref TI) rfl (cP (gq hI rfl ?_)));show pi (Tk prog w) A (Builtin.SmallTypes.ownedTupleIsFree (.ref z)>>=_) _ _ _;refine cP ?_;unfold Builtin.SmallTypes.ownedTupleIsFree;refine cP (eX hz rfl (x:=.none) rfl (cZ ?_));simp only[iV];refine cP (j7 (cP (eX hz rfl (x:=.ref TO) rfl (cP (gw hz (by simp) λg1 z1 Y2=>?_)))));replace z1:XXj g1 z TI TO .ellipsis:=z1;refine cP ?_;simp only[lL,lU,jK,jU];refine cP (cP (jf ?_));show pi (Tk prog w) A (Builtin.SmallTypes.nextOf (.ref i1)>>=_) _ _ _;have Y3:S1 k1 g1:=sy D1 XU Y2 Xx.b1;refine cP (D1.item k1 _ _ _ l1 Y3 λx g2 tk2 px st1b Yh=>cZ ?_);replace Yh:Heap.SameBut i1 g1 g2:=Yh;have o2:xL g2 TO a b:=Yh.extBut _ _ Xx.a8 (Y2.extBut _ _ Xx.a2 hO);refine cP (gq o2 rfl (cP (iK o2 λg3 o3 Yn=>?_)));replace o3:xL g3 TO x b:=o3;replace Yn:Heap.SameBut TO g2 g3:=Yn;refine cP (lu (cZ (cP (cP (jf ?_)))));show pi (Tk prog w) A (Builtin.SmallTypes.nextOf (.ref i2)>>=_) _ _ _;have Zx:S2 k2 g3:=sy D2 (sy D2 (sy D2 Xk Y2 Xx.c1) Yh Xx.c3) Yn Xx.c2;refine cP (D2.item k2 _ _ _ l2 Zx λy g4 tk4 py st2b Ze=>cZ ?_);replace Ze:Heap.SameBut i2 g3 g4:=Ze;have o4:xL g4 TO x b:=Ze.extBut _ _ Xx.a9 o3;refine cP (gq o4 rfl (cP (iK o4 λg5 o5 Zf=>?_)));replace o5:xL g5 TO x y:=o5;replace Zf:Heap.SameBut TO g4 g5:=Zf;refine cP (lu (cZ (cZ (cP (gq o5 rfl (cP (wpAny_newTuple ?_)))))));have esz:g5.objs.size=s.heap.objs.size:=by rw[Zf.1,Ze.1,Yn.1,Yh.1,Y2.1]
 have z5:XXj g5 z TI TO .ellipsis:=Zf.extBut _ _ Xx.a2.symm (Ze.extBut _ _ Xx.a4.symm (Yn.extBut _ _ Xx.a2.symm (Yh.extBut _ _ Xx.a3.symm z1)));have kp:∀c o,c≠z->c≠TO->c≠i1->c≠i2->s.heap.get? c=Fa o->g5.get? c=Fa o:=λc o q1 q2 q3 q4 q=>Zf.extBut _ _ q2 (Ze.extBut _ _ q4 (Yn.extBut _ _ q2 (Yh.extBut _ _ q3 (Y2.extBut _ _ q1 q))));have st1c:S1 (k1+1) g5:=sy D1 (sy D1 (sy D1 st1b Yn Xx.b2) Ze Xx.b3) Zf Xx.b2;have st2c:S2 (k2+1) g5:=sy D2 st2b Zf Xx.c2;have zlt:z<g5.objs.size:=dg z5;show pi (Tk prog w) A (Builtin.SmallTypes.ownedTupleHandOut (.ref z) (.ref g5.objs.size)>>=_) _ _ _;refine cP ?_;unfold Builtin.SmallTypes.ownedTupleHandOut;have z6:XXj (g5.push {cls:=.type "tuple",data:=.seq #[x,y]}) z TI TO .ellipsis:=cU _ z5;refine cP (gw z6 (by simp) λg7 z7 sb7=>?_);replace z7:XXj g7 z TI TO (X' g5.objs.size):=z7;refine gw z7 (by simp) λg8 z8 sb8=>?_;replace z8:XXj g8 z TI TO (X' g5.objs.size):=z8;have up:∀c o,c≠z->g5.get? c=Fa o->g8.get? c=Fa o:=λc o q1 q=>sb8.extBut _ _ q1 (sb7.extBut _ _ q1 (cU _ q));have tu:xL g8 g5.objs.size x y:=sb8.extBut _ _ (gD zlt) (sb7.extBut _ _ (gD zlt) (dA _ rfl));have es8:g8.objs.size=g5.objs.size+1:=by rw[sb8.1,sb7.1,fg]
 rw[esz]at z8 tu es8;refine cZ ⟨_,rfl,?_⟩;show Q (.ref g5.objs.size) _;rw[esz];exact hQ x y g8 _ px py z8 (up _ _ Xx.a2 o5) (D1.frame _ _ _ st1c λc hc o q=>up c o (λr=>Xx.b1 (r ▸ hc)) q) (D2.frame _ _ _ st2c λc hc o q=>up c o (λr=>Xx.c1 (r ▸ hc)) q) tu es8 λc o q1 q2 q3 q4 q=>up c o q1 (kp c o q1 q2 q3 q4 q)
def K6{Q:Fin->Sd->Prop}(D1:Draws prog w A i1 f1 n1 P1 S1)(D2:Draws prog w A i2 f2 n2 P2 S2)(Xx:As z TI TO i1 i2 f1 f2)(hz:XXj s.heap z TI TO .none)(hI:xL s.heap TI (.ref i1) (.ref i2))(hO:xL s.heap TO a b) (XU:S1 k1 s.heap) (Xk:S2 k1 s.heap) (hend:k1=n1\/(k1<n1/\k1=n2)) (hE:∀g e,(∀c o,c≠z->c≠TO->c≠i1->c≠i2->s.heap.get? c=Fa o->g.get? c=Fa o)->(∃o,g.get? e=Fa o/\o.cls=.type "StopIteration")->∀tk,E (.ref e) {s with heap:=g,toks:=tk}):
  pi (Tk prog w) A (Builtin.«zip.__next__» ⟨[.ref z],[]⟩) Q E s:=by
 show pi (Tk prog w) A (field (.ref z) 2>>=_) _ _ _;refine cP (eX hz rfl (x:=.bool lf) rfl ?_);show pi (Tk prog w) A (field (.ref z) 3>>=_) _ _ _;refine cP (eX hz rfl (x:=.ref TI) rfl (cP (gq hI rfl ?_)));show pi (Tk prog w) A (Builtin.SmallTypes.ownedTupleIsFree (.ref z)>>=_) _ _ _;refine cP ?_;unfold Builtin.SmallTypes.ownedTupleIsFree;refine cP (eX hz rfl (x:=.none) rfl (cZ ?_));simp only[iV];refine cP (j7 (cP (eX hz rfl (x:=.ref TO) rfl (cP (gw hz (by simp) λg1 z1 Y2=>?_)))));replace z1:XXj g1 z TI TO .ellipsis:=z1;refine cP ?_;simp only[lL,lU,jK,jU];refine cP (cP (jf ?_));show pi (Tk prog w) A (Builtin.SmallTypes.nextOf (.ref i1)>>=_) _ _ _;have Y3:S1 k1 g1:=sy D1 XU Y2 Xx.b1;rcases hend with he|⟨Xr,he⟩
 .rw[he]at Y3;refine cP (D1.done _ _ _ Y3 λg2 e Yh hx=>?_);obtain⟨oe,g,hce⟩:=hx;have z2:XXj g2 z TI TO .ellipsis:=Yh _ _ Xx.a3.symm z1;have hez:e≠z:=λq=>by subst q;rw[z2]at g;cases g;simp at hce
  exact gw z2 (by simp) λg3 _ Yn=>hE g3 e (λc o q1 _ q3 _ q=>Yn.extBut _ _ q1 (Yh _ _ q3 (Y2.extBut _ _ q1 q))) ⟨oe,Yn.extBut _ _ hez g,hce⟩ _
 .refine cP (D1.item k1 _ _ _ Xr Y3 λx g2 tk2 px st1b Yh=>cZ ?_);replace Yh:Heap.SameBut i1 g1 g2:=Yh;have o2:xL g2 TO a b:=Yh.extBut _ _ Xx.a8 (Y2.extBut _ _ Xx.a2 hO);refine cP (gq o2 rfl (cP (iK o2 λg3 o3 Yn=>?_)));replace Yn:Heap.SameBut TO g2 g3:=Yn;refine cP (lu (cZ (cP (cP (jf ?_)))));show pi (Tk prog w) A (Builtin.SmallTypes.nextOf (.ref i2)>>=_) _ _ _;have Zx:S2 k1 g3:=sy D2 (sy D2 (sy D2 Xk Y2 Xx.c1) Yh Xx.c3) Yn Xx.c2;rw[he]at Zx;refine cP (D2.done _ _ _ Zx λg4 e Ze hx=>?_);obtain⟨oe,g,hce⟩:=hx;have z4:XXj g4 z TI TO .ellipsis:=Ze _ _ Xx.a4.symm (Yn.extBut _ _ Xx.a2.symm (Yh.extBut _ _ Xx.a3.symm z1));have hez:e≠z:=λq=>by subst q;rw[z4]at g;cases g;simp at hce
  exact gw z4 (by simp) λg5 _ Zf=>hE g5 e (λc o q1 q2 q3 q4 q=>Zf.extBut _ _ q1 (Ze _ _ q4 (Yn.extBut _ _ q2 (Yh.extBut _ _ q3 (Y2.extBut _ _ q1 q))))) ⟨oe,Zf.extBut _ _ hez g,hce⟩ _
end
abbrev Vf(h:No)(t:Uf):No:=h.push {cls:=.type "tuple_iterator",data:=.fields #[.ref t,.int 0 0]}
abbrev Vn(h:No)(t u:Uf):No:=(Vf h t).push {cls:=.type "tuple_iterator",data:=.fields #[.ref u,.int 0 0]}
abbrev Vc(h:No)(t u:Uf):No:=(Vn h t u).push {cls:=.type "tuple",data:=.seq #[.ref h.objs.size,.ref (Vf h t).objs.size]}
abbrev Vh(h:No)(t u:Uf):No:=(Vc h t u).push {cls:=.type "tuple",data:=.seq #[.none,.none]}
abbrev Te(h:No)(t u:Uf):No:=(Vh h t u).push {cls:=.type "zip",data:=.fields #[.none,.bool lf,.bool lf,.ref (Vn h t u).objs.size,.ref (Vc h t u).objs.size]}
def C5(t u:Uf)(xs ys:Array Vl):
  Meets (Builtin.«zip.__new__» ⟨[.type "zip",.ref t,.ref u],[]⟩) (λ_ R s=>s.heap.IsTuple t xs/\s.heap.IsTuple u ys/\R (.ok (.ret (.ref (Vh s.heap t u).objs.size))) {s with heap:=Te s.heap t u}):=
 .of_wp λprog w A R s h=>by
  obtain⟨hp,g,d,tk,os⟩:=s;obtain⟨e1,e2,h⟩:=h;have YY:=sub_zip;have q1:Heap.IsTuple (Shared.heap ⟨hp,g,d,tk,os⟩) t xs:=e1;have q2:Heap.IsTuple (Shared.heap ⟨hp.push {cls:=.type "tuple_iterator",data:=.fields #[.ref t,.int 0 0]},g,d,tk,os⟩) u ys:=Heap.IsTuple.push e2 _
  wp_walk using ij q1,ij q2
  exact⟨_,rfl,h⟩
def Ew{t u:Uf}{xs ys:Array Vl}{Q:QQX}(ht:s.heap.IsTuple t xs)(hu:s.heap.IsTuple u ys) (h:∀g,XXj g (s.heap.objs.size+4) (s.heap.objs.size+2) (s.heap.objs.size+3) .none->xL g (s.heap.objs.size+2) (.ref s.heap.objs.size) (.ref (s.heap.objs.size+1))->xL g (s.heap.objs.size+3) .none .none->
   g.IsTupleIter s.heap.objs.size t 0->g.IsTupleIter (s.heap.objs.size+1) u 0->(∀c o,s.heap.get? c=Fa o->g.get? c=Fa o)->Q (.ref (s.heap.objs.size+4)) {s with heap:=g}):
  pi (Tk prog w) A (call (.type "zip") [.ref t,.ref u]) Q E s:=by
 refine callType_new F.called_zip (by decide) (F.typeCall_zip_2 _ _) (F.newCall_zip_2 _ _) (λobj=>F.args_object_init_3 obj _ _) F.entry_zip_new (C5 t u xs ys) ⟨ht,hu,?_⟩;have m1:(Vf s.heap t).objs.size=s.heap.objs.size+1:=fg ..;have m2:(Vn s.heap t u).objs.size=s.heap.objs.size+2:=by rw[fg,m1]
 have m3:(Vc s.heap t u).objs.size=s.heap.objs.size+3:=by rw[fg,m2]
 have m4:(Vh s.heap t u).objs.size=s.heap.objs.size+4:=by rw[fg,m3]
 have up:∀{h:No} {c:Uf} {o p:Obj},h.get? c=Fa o->(h.push p).get? c=Fa o:=λq=>cU _ q;have r5:(Te s.heap t u).get? (Vh s.heap t u).objs.size=Fa _:=dA _ rfl;have r4:(Te s.heap t u).get? (Vc s.heap t u).objs.size=Fa _:=up (dA _ rfl);have r3:(Te s.heap t u).get? (Vn s.heap t u).objs.size=Fa _:=up (up (dA _ rfl));have r2:(Te s.heap t u).get? (Vf s.heap t).objs.size=Fa _:=up (up (up (dA _ rfl)));have r1:(Te s.heap t u).get? s.heap.objs.size=Fa _:=up (up (up (up (dA _ rfl))));show _/\_;rw[m2,m3,m4]at r5;rw[m1,m2]at r3;rw[m3]at r4;rw[m1]at r2;rw[m4];exact⟨⟨_,r5,rfl⟩,h _ r5 r3 r4 ⟨_,r1,rfl,rfl⟩ ⟨_,r2,rfl,rfl⟩ λc o q=>up (up (up (up (up q))))⟩
def FW{z TI TO i1 i2:Uf}{n1 n2 k:Nat}{P1 P2:Nat->Vl->Prop}{S1 S2:Nat->No->Prop}{Q:Option Vl->Sd->Prop}(D1:Draws prog w A.in1 i1 f1 n1 P1 S1)(D2:Draws prog w A.in1 i2 f2 n2 P2 S2)(Xx:As z TI TO i1 i2 f1 f2) (hz:XXj s.heap z TI TO .none) (hI:xL s.heap TI (.ref i1) (.ref i2)) (hO:xL s.heap TO a b) (XU:S1 k s.heap) (Xk:S2 k s.heap) (l1:k<n1) (l2:k<n2) (hQ:∀x y g tk,P1 k x->P2 k y->XXj g z TI TO (X' s.heap.objs.size)->xL g TO x y->S1 (k+1) g->S2 (k+1) g->xL g s.heap.objs.size x y->g.objs.size=s.heap.objs.size+1->
   (∀c o,c≠z->c≠TO->c≠i1->c≠i2->s.heap.get? c=Fa o->g.get? c=Fa o)->Q (Fa (.ref s.heap.objs.size)) {s with heap:=g,toks:=tk}):pi (Tk prog w) A (pyNext (.ref z)) Q E s:=by
 have hT:s.TypeIs (.ref z) "zip":=⟨_,hz,rfl⟩;unfold pyNext;refine cP (wpAny_attempt (fG (name:=Str.ofString "__next__") hT iL (fP iL hT lM ?_ (lh _))));exact Ks D1 D2 Xx hz hI hO XU Xk l1 l2 λx y g tk q1 q2 q3 q4 q5 q6 q7 q8 q9=>cZ (hQ x y g tk q1 q2 q3 q4 q5 q6 q7 q8 q9)
def AJ{z TI TO i1 i2:Uf}{n1 n2 k:Nat}{P1 P2:Nat->Vl->Prop}{S1 S2:Nat->No->Prop}{Q:Option Vl->Sd->Prop}(D1:Draws prog w A.in1 i1 f1 n1 P1 S1)(D2:Draws prog w A.in1 i2 f2 n2 P2 S2)(Xx:As z TI TO i1 i2 f1 f2) (hz:XXj s.heap z TI TO .none) (hI:xL s.heap TI (.ref i1) (.ref i2)) (hO:xL s.heap TO a b) (XU:S1 k s.heap) (Xk:S2 k s.heap) (hend:k=n1\/(k<n1/\k=n2)) (hQ:∀g tk,(∀c o,c≠z->c≠TO->c≠i1->c≠i2->s.heap.get? c=Fa o->g.get? c=Fa o)->Q Db {s with heap:=g,toks:=tk}):pi (Tk prog w) A (pyNext (.ref z)) Q E s:=by
 have hT:s.TypeIs (.ref z) "zip":=⟨_,hz,rfl⟩;unfold pyNext;refine cP (wpAny_attempt (fG (name:=Str.ofString "__next__") hT iL (fP iL hT lM (K6 D1 D2 Xx hz hI hO XU Xk hend λg e kp hx tk=>?_) (lh _))));obtain⟨o,e1,e2⟩:=hx;exact cP (wpAny_isInstance (T:="StopIteration") (b:=true) ⟨o,e1,e2⟩ isSubtype_stop (cZ (hQ g tk kp)))
def Fc(I:Inv X Xc Y H s)(f:AS X Xc H b)(q:vn X.K H a xs):a≠b:=by
 rintro rfl
 rcases q with q|⟨o,its,n,hk,_⟩
 .have z:=f.1;rcases q with q|⟨u,q⟩<;>(rw[q]at z;cases z)
 .have e:=I.mod.oj a o hk;rcases f.2.2.2.1 with z|z
  .exact I.ok.nL a o e z
  .exact absurd (dJ (dg e) (dR I.ok.nW z)) (eQ _)
def Vv(K:qw)(a b:Uf):It:=
 ⟨λi H=>∃xs ys x y,vn K H a xs/\vn K H b ys/\xs[i]?=Fa x/\ys[i]?=Fa y,λi H v H'=>∃p x y,v=.ref p/\H p=Db/\H'=upd H p (.tup [x,y])/\(∀xs,vn K H a xs->xs[i]?=Fa x)/\(∀ys,vn K H b ys->ys[i]?=Fa y),λi H=>∃xs ys,vn K H a xs/\vn K H b ys/\i=min xs.length ys.length⟩
def Mi{P:Pg}{w:Wo}{K:qw}{XO:T0 zn}{n:Nat}{tp:Pos}(a b z TI TO i1 i2:Uf)(a1:TI≠z)(a2:TO≠z)(a3:i1≠z)(a4:i2≠z)(a5:TI≠TO)(a6:TI≠i1)(a7:TI≠i2)(a8:TO≠i1)(a9:TO≠i2)(pj:i1≠i2):
  F4 P w K (.Tuple XO n tp) (Vv K a b) [z,TI,TO,i1,i2] z (λi h=>XXj h z TI TO .none/\xL h TI (.ref i1) (.ref i2)/\(∃u v,xL h TO u v)/\h.IsTupleIter i1 a i/\h.IsTupleIter i2 b i) where
 mem:=by simp
 obj:=λi h st c hc=>by
  obtain⟨h1,h2,⟨u,v,h3⟩,⟨o4,h4,_,d4⟩,⟨o5,h5,_,d5⟩⟩:=st;simp only[cW,dv,eF]at hc;rcases hc with rfl|rfl|rfl|rfl|rfl
  .exact⟨_,h1,λv z=>by cases z⟩
  .exact⟨_,h2,λv z=>by cases z⟩
  .exact⟨_,h3,λv z=>by cases z⟩
  .exact⟨_,h4,λv z=>by rw[d4]at z;cases z⟩
  .exact⟨_,h5,λv z=>by rw[d5]at z;cases z⟩
 keep:=λi h h' st k=>by obtain⟨h1,h2,⟨u,v,h3⟩,⟨o4,h4,c4⟩,⟨o5,h5,c5⟩⟩:=st;exact⟨k z (by simp) _ h1,k TI (by simp) _ h2,⟨u,v,k TO (by simp) _ h3⟩,⟨o4,k i1 (by simp) _ h4,c4⟩,⟨o5,k i2 (by simp) _ h5,c5⟩⟩
 item:=by
  intro X hP hw hK hc i Xc s Y H E I hf st hg;subst hP hw hK;obtain⟨xs,ys,x,y,hx,hy,ex,ey⟩:=hg;obtain⟨its,rx,px,_⟩:=I.tuple hx;obtain⟨Zd,ry,py,_⟩:=I.tuple hy;obtain⟨u,eu,ru⟩:=rx.get ex;obtain⟨v,ev,rv⟩:=ry.get ey;obtain⟨h1,h2,⟨p,q,h3⟩,h4,h5⟩:=st;have hh:X.A.in1.handled=Db:=I.ok.hd hc;have fa:∀c∈[z,TI,TO,i1,i2],a≠c:=λc hc=>Fc I (hf c hc) hx;have fb:∀c∈[z,TI,TO,i1,i2],b≠c:=λc hc=>Fc I (hf c hc) hy;have Xx:As z TI TO i1 i2 [i1,a] [i2,b]:=⟨a1,a2,a3,a4,a5,a6,a7,a8,a9,pj,by
   simp only[cW,dv,eF,fF];exact⟨dH a3,dH (fa z (by simp))⟩,by
   simp only[cW,dv,eF,fF];exact⟨a8,dH (fa TO (by simp))⟩,by
   simp only[cW,dv,eF,fF];exact⟨dH pj,dH (fa i2 (by simp))⟩,by
   simp only[cW,dv,eF,fF];exact⟨dH a4,dH (fb z (by simp))⟩,by
   simp only[cW,dv,eF,fF];exact⟨a9,dH (fb TO (by simp))⟩,by
   simp only[cW,dv,eF,fF];exact⟨pj,dH (fb i1 (by simp))⟩⟩
  have l1:i<its.toArray.size:=by
   have:=(cT.mp eu).1
   simpa using this
  have l2:i<Zd.toArray.size:=by
   have:=(cT.mp ev).1
   simpa using this
  refine FW (yh hh i1 a (fa i1 (by simp)) its.toArray) (yh hh i2 b (fb i2 (by simp)) Zd.toArray) Xx h1 h2 h3 ⟨h4,px⟩ ⟨h5,py⟩ l1 l2 λx' y' g tk e1 e2 z1 o1 s1 s2 t1 sz kp=>?_;have e1':x'=u:=by
   have:its[i]?=Fa x':=by simpa using e1
   rw[eu]at this;exact(cY this).symm
  have Zr:y'=v:=by
   have:Zd[i]?=Fa y':=by simpa using e2
   rw[ev]at this;exact(cY this).symm
  subst e1' Zr;refine⟨_,rfl,wpAny_letOwnedTupleGo_zip z1 λg2 z2 sb=>?_⟩;have zlt:z<s.heap.objs.size:=dg h1;have kk:∀c o,c∉[z,TI,TO,i1,i2]->s.heap.get? c=Fa o->g2.get? c=Fa o:=λc o hc e=>by simp only[cW,dv,eF,fF]at hc;exact(sb.2 c hc.1).trans (kp c o hc.1 hc.2.2.1 hc.2.2.2.1 hc.2.2.2.2 e)
  have t2:g2.get? s.heap.objs.size=Fa {cls:=.type "tuple",data:=.seq #[x',y']}:=(sb.2 _ (gD zlt)).trans t1;have Zw:H s.heap.objs.size=Db:=I.mK.fresh (c9 _);have I2:=I.drawn (ch:=[z,TI,TO,i1,i2]) (T:=s.heap.objs.size) (xs:=[x,y]) (its:=[x',y']) (h':=g2) (tk:=tk) hf kk (c9 _) (by show 2<=Ch;decide) (.cons ru (.cons rv .nil)) ⟨_,t2,rfl,⟨_,rfl⟩,rfl⟩;refine⟨.ref s.heap.objs.size,_,I2,rfl,⟨_,x,y,rfl,Zw,rfl,λxs' hx'=>by rw[I.mY hx' hx];exact ex,λys' hy'=>by rw[I.mY hy' hy];exact ey⟩,?_,λc hc=>?_⟩
  .obtain⟨o4,g4,c4⟩:=s1.1;obtain⟨o5,g5,c5⟩:=s2.1;exact⟨z2,(sb.2 _ a1).trans (kp _ _ a1 a5 a6 a7 h2),⟨_,_,(sb.2 _ a2).trans o1⟩,⟨o4,(sb.2 _ a3).trans g4,c4⟩,⟨o5,(sb.2 _ a4).trans g5,c5⟩⟩
  .have n0:=(hf c hc).1;obtain⟨o,eo⟩:∃o,s.heap.get? c=Fa o:=by
    obtain⟨o4,g4,_⟩:=h4;obtain⟨o5,g5,_⟩:=h5;simp only[cW,dv,eF]at hc;rcases hc with rfl|rfl|rfl|rfl|rfl
    .exact⟨_,h1⟩
    .exact⟨_,h2⟩
    .exact⟨_,h3⟩
    .exact⟨_,g4⟩
    .exact⟨_,g5⟩
   rw[qa (dC (dg eo))];exact n0
 done:=by
  intro X hP hw hK hc i Xc s Y H E I hf st hg;subst hP hw hK;obtain⟨xs,ys,hx,hy,hi⟩:=hg;obtain⟨its,rx,px,_⟩:=I.tuple hx;obtain⟨Zd,ry,py,_⟩:=I.tuple hy;obtain⟨h1,h2,⟨p,q,h3⟩,h4,h5⟩:=st;have hh:X.A.in1.handled=Db:=I.ok.hd hc;have fa:∀c∈[z,TI,TO,i1,i2],a≠c:=λc hc=>Fc I (hf c hc) hx;have fb:∀c∈[z,TI,TO,i1,i2],b≠c:=λc hc=>Fc I (hf c hc) hy;have Xx:As z TI TO i1 i2 [i1,a] [i2,b]:=⟨a1,a2,a3,a4,a5,a6,a7,a8,a9,pj,by
   simp only[cW,dv,eF,fF];exact⟨dH a3,dH (fa z (by simp))⟩,by
   simp only[cW,dv,eF,fF];exact⟨a8,dH (fa TO (by simp))⟩,by
   simp only[cW,dv,eF,fF];exact⟨dH pj,dH (fa i2 (by simp))⟩,by
   simp only[cW,dv,eF,fF];exact⟨dH a4,dH (fb z (by simp))⟩,by
   simp only[cW,dv,eF,fF];exact⟨a9,dH (fb TO (by simp))⟩,by
   simp only[cW,dv,eF,fF];exact⟨pj,dH (fb i1 (by simp))⟩⟩
  have e1:=rx.length;have e2:=ry.length;refine AJ (yh hh i1 a (fa i1 (by simp)) its.toArray) (yh hh i2 b (fb i2 (by simp)) Zd.toArray) Xx h1 h2 h3 ⟨h4,px⟩ ⟨h5,py⟩ (by simp only[de];omega) λg tk kp=>⟨rfl,?_⟩;have kk:∀c o,c∉[z,TI,TO,i1,i2]->s.heap.get? c=Fa o->g.get? c=Fa o:=λc o hc e=>by simp only[cW,dv,eF,fF]at hc;exact kp c o hc.1 hc.2.2.1 hc.2.2.2.1 hc.2.2.2.2 e
  refine I.step (g':=s.gens) (d':=s.drawn) (t':=tk) (ch:=[z,TI,TO,i1,i2]) (λc hc=>⟨(hf c hc).2.2.2.1,(hf c hc).2.1,(hf c hc).2.2.2.2.1,(hf c hc).2.2.2.2.2⟩) ?_ ?_ (λc o _ e n=>n) ?_ (λ_ _ e=>e) (λ_ _ _ e=>e) (λc ps e=>⟨#[],by rw[e];simp⟩) ?_ ?_ I.bare
  .exact λc o _ _ hc e _=>kk c o hc e
  .exact λc o _ _ hc e _=>⟨o.slots,kk c o hc e⟩
  .exact λc o hc e=>⟨o,kk c o hc e⟩
  .intro m hm;obtain⟨o,es,ep,ho,r⟩:=hm;exact⟨o,es,ep,kk _ o (λy=>(hf _ y).2.1 rfl) ho,r⟩
  .intro c u e;refine(I.mK c u e).ng (λd v hd q=>kk d v (λy=>?_) q) (λ_ q=>q) λ_ _ q=>q;have n:=(hf d y).1;rcases hd with x|x
   .rw[x,e]at n;cases n
   .rw[x]at n;cases n
 self:=λ_ _ _ _ _ st h=>lN st.1 h
def SB{a b:zn}{ta:TA}(hg:Gl X "zip")(hm:X.mg "zip"=Db)(ha:PA X [a,b] ta)(hs:Tl [a,b] X.env=[(lf,wp a X.env),(lf,wp b X.env)]:=by rfl)(YS:Tl [b] X.env=[(lf,wp b X.env)]:=by rfl):
  PI X (.Tuple XO n tp) (.Call (.Name "zip" p) [a,b] [] pos) (λY H R=>ta Y H λvs H1=>∃l m,vs=[.ref l,.ref m]/\(∃xs,vn X.K H1 l xs)/\(∃xs,vn X.K H1 m xs)/\R (Vv X.K l m) H1):=by
 intro Xc s Y H R I h;refine Call_ (xB I hg hm Ro (fS (sL (ha pos Xc s Y H _ I h) λus s1 zz=>x5 zz λvs H1 I1 r1 q1=>?_) (by rw[hs,YS]) (by rw[YS];rfl)));obtain⟨l,m,e,⟨xs,hx⟩,⟨ys,hy⟩,q⟩:=q1;subst e;obtain⟨u,v,rfl,ru,rv⟩:=QY r1;cases ru;cases rv;obtain⟨its,_,px,_⟩:=I1.tuple hx;obtain⟨Zd,_,py,_⟩:=I1.tuple hy;refine Ew px py λg h1 h2 h3 h4 h5 hk=>lN h1 ?_;have I2:Inv X Xc Y H1 {s1 with heap:=g}:=I1.kept (t':=s1.toks) hk;refine⟨s1.heap.objs.size+4,[s1.heap.objs.size+4,s1.heap.objs.size+2,s1.heap.objs.size+3,s1.heap.objs.size,s1.heap.objs.size+1],_,_,H1,rfl,I2,Mi l m _ _ _ _ _ ?_ ?_ ?_ ?_ ?_ ?_ ?_ ?_ ?_ ?_,⟨h1,h2,⟨_,_,h3⟩,h4,h5⟩,λb hb=>?_,q⟩
 .exact λz=>by have z:s1.heap.objs.size+2=s1.heap.objs.size+4:=z;omega
 .exact λz=>by have z:s1.heap.objs.size+3=s1.heap.objs.size+4:=z;omega
 .exact λz=>by have z:s1.heap.objs.size=s1.heap.objs.size+4:=z;omega
 .exact λz=>by have z:s1.heap.objs.size+1=s1.heap.objs.size+4:=z;omega
 .exact λz=>by have z:s1.heap.objs.size+2=s1.heap.objs.size+3:=z;omega
 .exact λz=>by have z:s1.heap.objs.size+2=s1.heap.objs.size:=z;omega
 .exact λz=>by have z:s1.heap.objs.size+2=s1.heap.objs.size+1:=z;omega
 .exact λz=>by have z:s1.heap.objs.size+3=s1.heap.objs.size:=z;omega
 .exact λz=>by have z:s1.heap.objs.size+3=s1.heap.objs.size+1:=z;omega
 .exact λz=>by have z:s1.heap.objs.size=s1.heap.objs.size+1:=z;omega
 .have X7:s1.heap.objs.size<=b:=by
   simp only[cW,dv,eF]at hb;rcases hb with rfl|rfl|rfl|rfl|rfl
   .exact iC _ _
   .exact iC _ _
   .exact iC _ _
   .exact c9 _
   .exact iC _ _
  exact I1.nS X7 (I1.mK.fresh X7)
def AZ:T0 D->T0 D->T0 D
 | x::a,y::b=>.tup [x,y]::AZ a b
 | _,_=>[]
theorem Jh:∀{ds es:T0 D} {i:Nat},(AZ ds es)[i]?=(ds[i]?).bind λd=>(es[i]?).map λe=>D.tup [d,e]
 | [],es,i=>by simp[AZ]
 | d::ds,[],i=>by simp[AZ]
 | d::ds,e::es,0=>by simp[AZ]
 | d::ds,e::es,i+1=>by show(AZ ds es)[i]?=_;rw[Jh];simp
theorem Ej:∀{ds es:T0 D},(AZ ds es).length=min ds.length es.length
 | [],es=>by simp[AZ]
 | d::ds,[]=>by simp[AZ]
 | d::ds,e::es=>by show(AZ ds es).length+1=_;rw[Ej];simp only[dU];omega
def Pc{K:qw}{ds es:T0 D}(h1:vn K H1 a xs)(h2:qp K H1 ds xs)(g1:vn K H1 b ys)(g2:qp K H1 es ys):GO K H1 (Vv K a b) (AZ ds es) (λ_=>True) where
 go:=λi H M hi hm ok e1=>by rw[Ej]at hi;obtain⟨x,ex,_⟩:=h2.get (cQ (show i<ds.length by omega));obtain⟨y,ey,_⟩:=g2.get (cQ (show i<es.length by omega));exact⟨xs,ys,x,y,e1.t _ _ h1,e1.t _ _ g1,ex,ey⟩
 oS:=λi d H M v H' hd hm ok e1 y=>by
  obtain⟨p,x,z,rfl,hp,rfl,y1,y2⟩:=y;rw[Jh]at hd;cases e:ds[i]? with
  | none=>rw[e]at hd;cases hd
  | some d'=>
   cases e':es[i]? with
   | none=>rw[e,e']at hd;cases hd
   | some d''=>rw[e,e']at hd;cases hd;obtain⟨x',q1,hx⟩:=h2.get e;obtain⟨z',q2,hz⟩:=g2.get e';have w1:=y1 xs (e1.t _ _ h1);have w2:=y2 ys (e1.t _ _ g1);rw[q1]at w1;rw[q2]at w2;have v1:x'=x:=cY w1;have v2:z'=z:=cY w2;subst v1 v2;have ex:qT K H (upd H p (.tup [x',z'])):=.new hp;exact⟨.tup (.of ql) (.cons (hx.mono (e1.trans ex)) (.cons (hz.mono (e1.trans ex)) .nil)),hm.add hp,ex⟩
 stop:=λH M hm ok e1=>⟨xs,ys,e1.t _ _ h1,e1.t _ _ g1,by rw[Ej,h2.length,g2.length]⟩
def Tz(t:xQ):NW:=λU M R=>t U M λds M1=>match ds with
 | [.tup a,.tup b]=>R (AZ a b) (λ_=>True) M1
 | _=>False
def Rz{a b:zn}{ta:xQ}(hg:Gl X "zip")(hm:X.mg "zip"=Db)(ha:A3 X [a,b] ta)(hs:Tl [a,b] X.env=[(lf,wp a X.env),(lf,wp b X.env)]:=by rfl)(YS:Tl [b] X.env=[(lf,wp b X.env)]:=by rfl):
  I3 X (.Tuple XO n tp) (.Call (.Name "zip" p) [a,b] [] pos) (Tz ta):=
 PI.mono (SB hg hm ha hs YS) λY H R' zz=>x7 zz λU M R hs hm ht k=>⟨U,M,_,hs,hm,ht,λvs H1 ds M1 hd Xe e1 q1=>by
  split at q1
  .obtain⟨v,u,rfl,hv,hw⟩:=ID hd;obtain⟨l,xs,rfl,h1,h2⟩:=hv.mJ;obtain⟨m,ys,rfl,g1,g2⟩:=hw.mJ;exact⟨l,m,rfl,⟨xs,h1⟩,⟨ys,g1⟩,k _ H1 _ _ M1 (Pc h1 h2 g1 g2) Xe e1 trivial q1⟩
  .exact q1.elim⟩
def qr(M M':Mp):Prop:=∀a c,M a=Fa c->M' a=Fa c
def qr.refl:qr M M:=λ_ _ h=>h
def qr.trans{M M1 M2:Mp}(a:qr M M1)(b:qr M1 M2):qr M M2:=λx c h=>b x c (a x c h)
def qr.new{M:Mp}{p:Uf}{c:vb}(h:M p=Db):qr M (pI M p c):=λx d q=>by rw[um (N0 q h)];exact q
def qr.lst{ds:T0 D}(s:qr M M')(h:oX M a=Fa ds):oX M' a=Fa ds:=by
 unfold oX at h ⊢;cases e:M a with
 | none=>rw[e]at h;cases h
 | some c=>rw[s a c e];rw[e]at h;exact h
def HM.sub{K:qw}(h:HM K H M')(s:qr M M'):HM K H M:=λa c q=>h a c (s a c q)
def UQ{st:sB}{sp:rm}(F:Pl K x qual st f fd)(S:tJ N ps (qe st))(len:∀ds M Q,sp ds M Q->ds.length=ps.length) (Xy:∀(Xl:Vl) (A:Ar) (outer:T0 Env) (s:Sd) (H:Hp) (E:XK),sd k (A.deeper (sK qual (qe st) s.heap.objs.size f Xl))->
   ∃t,Hh (vC NX P w K mg base N qual (qe st) f Xl A outer s H E).om (rT st) t/\∀ds M Q,sp ds M Q->t {nx:=λ_ M'=>∃Xg,qr Xg M'/\Q .mG Xg,rt:=λd M'=>∃Xg,qr Xg M'/\Q d Xg} (wX N ds) M):Ti P w K mg base (k+1) f fd ps sp:=by
 refine F.ok S (λvs H Q E h=>?_) (λXl A outer s H vs Q' E hr h=>?_)
 .obtain⟨ds,M,Q,hd,_,hs,_⟩:=h;rw[<-hd.length];exact len ds M Q hs
 .obtain⟨ds,M,Q,hd,hm,hs,k⟩:=h;obtain⟨t,ht,hb⟩:=Xy Xl A outer s H E hr;exact⟨_,ht,wX N ds,M,_,D3 hd,hm,hb ds M Q hs,λσ' H' δ' M' _ x2 x3 _ ⟨Xg,y1,y2⟩=>k .mG H' .mG Xg .mG (x2.sub y1) x3 y2,λv H' d M' x1 x2 x3 ⟨Xg,y1,y2⟩=>k v H' d Xg x1 (x2.sub y1) x3 y2,λ_ _ _ _ _ _ _ _ z=>z,λ_ _ _ _ _ _ _ _ z=>z⟩
theorem CH{g:DD}{te:T3}{ok:Mp->Prop}{Q:DK}{f:D->D}{M:Mp}(J:vv->Prop)(mK:ok M):∀(ds acc:T0 D) (U:vv),J U->acc.length+ds.length<=Ch->
  (∀d∈ds,∀U,J U->∀k:vv->DK,(∀δ',J δ'->k δ' (f d) M)->g d U M λδ2 M2=>te δ2 M2 (k δ2))->(∀p,M p=Db->Q (.ref p) (pI M p (.lst (acc++ds.map f))))->vj g B' te ok Q ds acc U M
 | [],acc,U,_,hl,_,hq=>⟨by simpa using hl,by simpa using hq⟩
 | d::r,acc,U,hj,hl,ht,hq=>by
  rw[dU]at hl;refine⟨by omega,?_⟩;refine ht d dD U hj (λδ2 y M4=>ok M4/\vj g B' te ok Q r (acc++[y]) δ2 M4) λδ' hj'=>⟨mK,CH (f:=f) J mK r (acc++[f d]) δ' hj' ?_ (λe he=>ht e (dw _ he)) ?_⟩
  .rw[cR,dG];omega
  .simpa using hq
def ra{te:T3}{ok:Mp->Prop}{Q:DK}{f:D->D}{M:Mp}(mK:ok M):∀(ds acc:T0 D) (U:vv),acc.length+ds.length<=Ch->(∀d∈ds,∀k:DK,k (f d) M->te (U.set i (Fa d)) M k)->
  (∀p,M p=Db->Q (.ref p) (pI M p (.lst (acc++ds.map f))))->vj (rS i) B' te ok Q ds acc U M:=λds acc U hl ht hq=>
 CH (f:=f) (λδ'=>∀d,δ'.set i (Fa d)=U.set i (Fa d)) mK ds acc U (λ_=>rfl) hl (λd hd δ' hj k hk=>by
  show te (δ'.set i (Fa d)) M (k (δ'.set i (Fa d)));rw[hj d];exact ht d hd _ (hk _ λe=>by rw[jA])) hq
theorem yo{α:Type}(f:α->Bool):∀l:List α,G8 (l.map λx=>D.bl (f x))=Fa (l.map f)
 | []=>rfl
 | x::r=>by show(G8 (r.map λx=>D.bl (f x))).map (f x::·)=_;rw[yo f r];rfl
def pH{p:Uf}{ds:T0 D}:oX (pI M p (.lst ds)) p=Fa ds:=by unfold oX;rw[pR]
def pk{α:Type}{o:Option α}{P:α->Prop}{x:α}(e:o=Fa x)(h:P x):o.elim False P:=by rw[e];exact h
def pb{l:T0 D}(h:decide (l.length<=100)=pc):l.length<=Ch:=by have z:=dF;have:=fL h;omega
theorem Bi{g:DD}{tb:xt}{ok:Mp->Prop}{E:Gz}(J:vv->Mp->Prop)(mK:∀U M,J U M->ok M):∀(ds:T0 D) (U:vv) (M:Mp),J U M->
  (∀d∈ds,∀U M,J U M->∀nx:vv->Mp->Prop,(∀δ' M',J δ' M'->nx δ' M')->g d U M λδ2 M2=>tb {E with nx:=nx,ct:=nx,bk:=E.nx} δ2 M2)->(∀U M,J U M->E.nx U M)->El g tb ok E ds U M
 | [],U,M,j,_,hn=>hn U M j
 | d::r,U,M,j,ht,hn=>ht d dD U M j (λδ' M'=>ok M'/\El g tb ok E r δ' M') λδ' M' j'=>⟨mK δ' M' j',Bi J mK r δ' M' j' (λe he=>ht e (dw _ he)) hn⟩
theorem wK{g:DD}{tb:xt}{ok:Mp->Prop}{E:Gz}(all:T0 D)(J:T0 D->vv->Mp->Prop)(mK:∀p U M,J p U M->ok M):∀(ds pre:T0 D) (U:vv) (M:Mp),pre++ds=all->J pre U M->
  (∀pre d post,pre++d::post=all->∀U M,J pre U M->∀nx:vv->Mp->Prop,(∀δ' M',J (pre++[d]) δ' M'->nx δ' M')->g d U M λδ2 M2=>tb {E with nx:=nx,ct:=nx,bk:=E.nx} δ2 M2)->(∀U M,J all U M->E.nx U M)->El g tb ok E ds U M
 | [],pre,U,M,e,j,_,hn=>hn U M (by rw[<-e,eJ];exact j)
 | d::r,pre,U,M,e,j,ht,hn=>ht pre d r e U M j (λδ' M'=>ok M'/\El g tb ok E r δ' M') λδ' M' j'=>⟨mK _ δ' M' j',wK all J mK r (pre++[d]) δ' M' (by rw[<-e,eU];rfl) j' ht hn⟩
def Lm{c:Bool}{A B:Prop}(h:c=lf)(hb:B):if c=pc then A else B:=by subst h;exact Ox hb
def AM{c:Bool}{A B:Prop}(h:c=pc)(ha:A):if c=pc then A else B:=by subst h;exact Qf ha
def Pd{t u:xt}{E:Gz}{U:vv}{M:Mp}(R:vv->Mp->Prop)(h2:∀nx:vv->Mp->Prop,(∀δ' M',R δ' M'->nx δ' M')->t {E with nx:=nx} U M)(h1:∀δ' M',R δ' M'->u E δ' M'):uL t u E U M:=h2 (u E) h1
def TM{K:qw}{ns:T0 Int}(hO:LN H)(hS:zb K H a (ns.map V.int)):rQ K H (.rl (ns.map D.int)) (.ref a):=by
 have r:Qs K H a (ns.map V.int):=by
  rcases hS with h|h
  .rcases h with h|⟨o,h⟩
   .rcases hO a with z|⟨o,xs,z⟩<;>(rw[h]at z;cases z)
   .exact .inl ⟨o,h⟩
  .exact .inr h
 unfold rQ;exact⟨a,_,rfl,r,.ints⟩
def Sr{K:qw}{sp:rm}{ns:T0 Int}(hO:LN H)(hS:zb K H a (ns.map V.int))(h:sp [.rl (ns.map D.int)] (λ_=>Db) λd _=>d=.bl pc):NY K sp [.ref a] H (λv _=>v=.bl pc) λ_ _ _=>False:=
 ⟨_,λ_=>Db,_,.cons (TM hO hS) .nil,λ_ _ z=>(by cases z),h,λv H' d M' x1 _ _ x4=>by subst x4;exact x1.mF⟩
def Nq{l:W.OpenLaw}{q:Pg}{X2:QQQ}{XP:(QQZ)->No->Prop}{YP:Wo->No->Prop}{d:DefRec}{K:Params->qw}{x:Str}{sp:rm}(hn:l.most=Fa 63)(ZK:d.params.defaults=[])(hr:sd k callerA) (hY:∀(w:Wo) (h:No),YP w h->(K w.params).In h) (YF:∀ns:T0 Int,ns.length<=63->sp [.rl (ns.map D.int)] (λ_=>Db) λd _=>d=.bl pc) (F:∀(w:Wo) (mg:QQZ) (fa:Uf) (h:No),(K w.params).In h->h.Ns wv mg->mg d.name=Fa (.ref fa)->
   ∃fd:Rs,(∀(s:Sd) (u:Vl),BindsTo s fd ⟨[u],[]⟩ [(x,u)])/\∀base:No,(K w.params).In base->base.Ns wv mg->Ti l.prog w (K w.params) mg base k fa fd [x] sp):
  W.WalkO q X2 XP YP l.row.toRowW d [] (λf vs=>PySem.call f vs):=
 L2.Pu (n:=63) (k:=k) (x:=x) (CX:=λ_=>NX) (sp:=λw=>NY (K w.params) sp) hn (by decide) ZK hr hY F (λ_ _ a ns hl hO hS=>Sr hO hS (YF ns hl)) λ_ _ _ _ _ z=>z
def KD(K:qw)(mg:QQZ)(x:Str)(d:D):Prop:=CA λv u=>mg x=Fa u/\qQ v u/\∀H,rQ K H d v
def RS{K:qw}{mg:QQZ}{x y:Str}{t:Tok}(h:mg x=Fa (.str y t)):KD K mg x (.str y):=⟨.str y,_,h,⟨t,rfl⟩,λ_=>.str⟩
def we{K:qw}{mg:QQZ}{x:Str}{y:Int}{t:Tok}(h:mg x=Fa (.int y t)):KD K mg x (.int y):=⟨.int y,_,h,⟨t,rfl⟩,λ_=>.int⟩
def uI{K:qw}{a:Uf}{ss:QQQ}{us:T0 Vl}{n:Nat}{sl:Array (Option Vl)}(h:K.lookup a=Fa ⟨.type "tuple",Db,.seq us.toArray n,sl⟩)(r:qE (ss.map V.str) us)(hz:us.length<=1000):vn K (λ_=>Db) a (ss.map V.str):=
 .inr ⟨_,us.toArray,n,h,rfl,rfl,rfl,by rw[de,dF];omega,by simpa using r⟩
theorem Ap{K:qw}:∀{ss:QQQ},qp K H (ss.map D.str) (ss.map V.str)
 | []=>.nil
 | _::_=>.cons .str Ap
def O1{K:qw}{mg:QQZ}{x:Str}{a:Uf}{ss:QQQ}(h:mg x=Fa (.ref a))(q:vn K (λ_=>Db) a (ss.map V.str)):KD K mg x (.tup (ss.map D.str)):=
 ⟨.ref a,_,h,rfl,λ_=>.tup (Ji q) Ap⟩
variable {d:D}{i:zn}{td tk:T3}{F:T0 (Str × QQQ)}
def sX(hg:Gl X x)(h:KD X.K X.mg x d)(hd:zR x:=by decide):E3 X (.Name x pos) (c3 d):=by obtain⟨v,u,hm,r,hh⟩:=h;exact PE.mono (EL hg hm r hd) λY H Q' zz=>x7 zz λU M Q hs hm ht k=>k _ H _ M (hh H) hm .refl ht
def VN(F:T0 (Str×QQQ))(ta:T3):T3:=λU M Q=>ta U M λx M1=>match x with|.str k=>Q (.bl (KTD.datumAt k F).isSome) M1|_=>False
def Um(F:T0 (Str×QQQ))(ta:T3):T3:=λU M Q=>ta U M λx M1=>match x with|.str k=>(KTD.datumAt k F).elim False λss=>Q (.tup (ss.map D.str)) M1|_=>False
def Lr(T:Nw X.K X.mg x F)(hg:Gl X x)(he:E3 X e ta)(hd:zR x:=by decide)(hmk:wT .In (.Name x p)=lf:=by rfl):E3 X (.Compare e [.In] [.Name x p] pos) (VN F ta):=by
 obtain⟨a,hm,T⟩:=He T;refine PE.mono (Ja (r:=λy z H Q=>∃k,y=.str k/\z=.ref a/\Q (.bl (KTD.datumAt k F).isSome) H) (λXc s Y H y z v u Q I ry rz ⟨k,e1,e2,q⟩=>?_) he (EL (v:=.ref a) hg hm rfl hd) hmk) λY H Q' zz=>x7 zz λU M Q hs hm ht k=>⟨U,M,_,hs,hm,ht,λv H1 d M1 hd Xe e1 q1=>?_⟩
 .subst e1 e2;obtain⟨t,rfl⟩:=ry;obtain rfl:u=Value.ref a:=rz;exact RC (T s.heap I.ni) ⟨.bl (KTD.datumAt k F).isSome,H,I.tok _,rfl,q⟩
 .cases d with
  | str k'=>exact⟨k',hd.str_inv,rfl,k _ _ _ _ .bl Xe e1 q1⟩
  | _=>exact q1.elim
def Kg(T:Nw X.K X.mg x F)(hg:Gl X x)(he:E3 X e ta)(hd:zR x:=by decide)(hs:Bl e:=by exact λ_ _=>rfl):E3 X (.Subscript (.Name x p) e pos) (Um F ta):=by
 obtain⟨a,hm,T⟩:=He T;refine PE.mono (Mv (r:=λz y H Q=>∃k ss,y=.str k/\z=.ref a/\KTD.datumAt k F=Fa ss/\∀t,vn X.K H t (ss.map V.str)->Q (.ref t) H) (λvalue Xm Xc s Y H z y o i Q I rz ry ⟨k,ss,e1,e2,e3,q⟩ hs=>?_) (EL (v:=.ref a) hg hm rfl hd) he hs) λY H Q' zz=>x7 zz λU M Q hs hm ht k=>⟨U,M,_,hs,hm,ht,λv H1 d M1 hd Xe e1 q1=>?_⟩
 .subst e1 e2;obtain⟨t,rfl⟩:=ry;obtain rfl:o=Value.ref a:=rz;have hT:=yW (s:=s) (T s.heap I.ni);have h2:pi (Tk X.prog X.w) X.A (XXe (.ref a) (.str k t)) (EP X Xc Y Q) X.xe s:=Mw (T s.heap I.ni) e3 λv ⟨t',e4,q4⟩=>⟨.ref t',H,I.tok _,e4,q t' (Ji q4)⟩;unfold subscriptTail;refine cP ?_;rw[jX hT.not_modules];refine cP (jN hT jm.lookup ?_);have Xh:pi (Tk X.prog X.w) X.A (subscripted Xm lf (.ref a) (.str k t)) (λr s₃=>pi (Tk X.prog X.w) X.A (letTemporaryGo value (.ref a) r>>=λ_=>pure r) (EP X Xc Y Q) X.xe s₃) X.xe s:=by rw[hs];exact wpAny_operating (dW h2 (λr s₃ h₃=>cP (j9 (cZ h₃))) λ_ _ x=>x)
  first
   | exact cZ (cP Xh)
   | exact cP (cZ (cP Xh))
   | exact cP Xh
 .cases d with
  | str k'=>obtain⟨ss,e4,q2⟩:=rg q1;exact⟨k',ss,hd.str_inv,rfl,e4,λt qt=>k _ _ _ _ (.tup qt Ap) Xe e1 q2⟩
  | _=>exact q1.elim
def zp(M:Mp)(a:Uf):Option (T0 (qX×D)):=match M a with
 | some (.dk kvs)=>Fa kvs
 | _=>Db
def vJ(kvs:T0 (qX×D))(k:qX):Option D:=(kvs.find? λp=>decide (p.1=k)).map (·.2)
def zr{K:qw}{kvs:T0 (qX×D)}(hm:HM K H M)(h:zp M a=Fa kvs):∃vs,H a=Fa (.dK vs)/\vs.map (·.1)=kvs.map (·.1)/\qp K H (kvs.map (·.2)) (vs.map (·.2)):=by
 unfold zp at h;cases e:M a with
 | none=>rw[e]at h;cases h
 | some c=>
  rw[e]at h;have ok:=hm a c e;cases c with
  | dk es=>cases h;exact ok
  | ins _ _=>cases h
  | lst _=>cases h
  | exc _=>cases h
theorem FG{K:qw}{k:qX}:∀{kvs:T0 (qX×D)} {vs:T0 (qX×V)},vs.map (·.1)=kvs.map (·.1)->qp K H (kvs.map (·.2)) (vs.map (·.2))->(∀d,vJ kvs k=Fa d->∃v,wM vs k=Fa v/\rQ K H d v)/\(vJ kvs k=Db->wM vs k=Db)
 | [],[],_,_=>⟨λd z=>(by cases z),λ_=>rfl⟩
 | [],_::_,e,_=>by cases e
 | _::_,[],e,_=>by cases e
 | (j,d)::kvs,(j',v)::vs,e,h=>by
  have e1:j'=j:=by simpa using(fD e).1
  subst e1;obtain⟨x,r,e2,h1,h2⟩:=h.inv;obtain⟨e3,e4⟩:=fD e2;subst e3 e4;have ih:=FG (k:=k) (kvs:=kvs) (vs:=vs) (fD e).2 h2;by_cases hk:j'=k
  .have g:vJ ((j',d)::kvs) k=Fa d:=by simp[vJ,hk]
   have g':wM ((j',v)::vs) k=Fa v:=by simp[wM,hk]
   rw[g,g'];exact⟨λd' z=>by cases z;exact⟨v,rfl,h1⟩,λz=>by cases z⟩
  .have g:vJ ((j',d)::kvs) k=vJ kvs k:=by simp[vJ,hk]
   have g':wM ((j',v)::vs) k=wM vs k:=by simp[wM,hk]
   rw[g,g'];exact ih
def K4(x y:D)(M:Mp)(Q:DK):Prop:=match x,y with
 | .ref a,.str k=>(zp M a).elim False λkvs=>(vJ kvs (.inr k)).elim False λd=>Q d M
 | _,_=>False
def TR(td tk:T3):T3:=λU M Q=>td U M λx M1=>tk U M1 λy M2=>K4 x y M2 Q
def zD(hu:X.A.units+9<Y')(ho:E3 X o td)(hi:E3 X i tk)(hs:Bl i:=by exact λ_ _=>rfl):E3 X (.Subscript o i pos) (TR td tk):=by
 refine PE.mono (Mv (r:=R3 X.K K4) (λvalue Xm Xc s Y H vx vy v u Q' I rx ry h hs=>?_) ho hi hs) HJ;obtain⟨x,y,M,Q,hx,hy,hm,q,k⟩:=h;unfold K4 at q;split at q
 .rename_i a0 k0;obtain⟨kvs,e1,q⟩:=rg q;obtain⟨d,e2,q⟩:=rg q;cases hx.mC;cases hy.str_inv;obtain⟨vs,h1,h2,h3⟩:=zr hm e1;obtain⟨w,e3,hw⟩:=(FG h2 h3).1 d e2;refine P4 (by omega) value Xm Xc s Y H _ _ v u Q' I rx ry ⟨_,w,rfl,?_,k _ _ _ _ hw hm .refl q⟩ hs;have g:=EG.k (k:=Sum.inr k0) h1;rw[e3]at g;exact g
 .exact q.elim
def Q6(YM:Bool)(x y:D)(M:Mp)(Q:DK):Prop:=match x,y with
 | .str k,.ref a=>(zp M a).elim False λkvs=>Q (.bl (if YM then !(vJ kvs (.inr k)).isSome else(vJ kvs (.inr k)).isSome)) M
 | _,_=>False
def MN{K:qw}{k:qX}{kvs:T0 (qX×D)}{vs:T0 (qX×V)}(h2:vs.map (·.1)=kvs.map (·.1))(h3:qp K H (kvs.map (·.2)) (vs.map (·.2))):(wM vs k).isSome=(vJ kvs k).isSome:=by
 obtain⟨a,b⟩:=FG (k:=k) h2 h3;cases e:vJ kvs k with
 | none=>rw[b e];rfl
 | some d=>obtain⟨v,e3,_⟩:=a d e;rw[e3];rfl
def VJ(YM:Bool)(tk td:T3):T3:=λU M Q=>tk U M λx M1=>td U M1 λy M2=>Q6 YM x y M2 Q
def UK(hu:X.A.units+9<Y'):xy X (Op .In) (R3 X.K (Q6 lf)):=λXc s Y H vx vy v u Q' I rx ry h=>by
 obtain⟨x,y,M,Q,hx,hy,hm,q,k⟩:=h;unfold Q6 at q;split at q
 .obtain⟨kvs,e1,q⟩:=rg q;cases hy.mC;cases hx.str_inv;obtain⟨vs,h1,h2,h3⟩:=zr hm e1;refine So (by omega) Xc s Y H _ _ v u Q' I rx ry ⟨_,_,rfl,EG.k (k:=Sum.inr _) h1,?_⟩;rw[MN h2 h3];exact k _ _ _ _ .bl hm .refl q
 .exact q.elim
def NP(hu:X.A.units+9<Y')(hi:E3 X i tk)(ho:E3 X o td)(hm:wT .In o=lf:=by first|exact IC _|with_unfolding_all rfl):B3 X (.Compare i [.In] [o] pos) (b3 (VJ lf tk td)):=PT.mono (Jj (UK hu) hi ho hm) λY H Q' zz=>x7 zz λU M Q hs hm ht k=>
 HJ Y H _ ⟨U,M,_,hs,hm,ht,λv H1 d M1 hd Xe e1 q1=>by
  cases d with
  | bl c=>exact⟨c,hd.mF,k c H1 M1 Xe e1 q1⟩
  | _=>exact q1.elim⟩
def wO:T0 D->Option (T0 (qX×D))
 | []=>Fa []
 | .tup [.str k,d]::r=>(wO r).map ((.inr k,d)::·)
 | _::_=>Db
theorem D0{K:qw}:∀{es:T0 D} {kvs:T0 (qX×D)} {xs:T0 V},wO es=Fa kvs->qp K H es xs->∃(ts:QXQ) (vs:T0 (qX×V)),xs=ts.map V.ref/\ts.length=vs.length/\vs.map (·.1)=kvs.map (·.1)/\qp K H (kvs.map (·.2)) (vs.map (·.2))/\
  ∀(j:Nat) (t:Uf) (p:qX×V),ts[j]?=Fa t->vs[j]?=Fa p->vn K H t [kV p.1,p.2]
 | [],_,_,e,h=>by cases e;exact⟨[],[],h.nil_inv,rfl,rfl,.nil,λj t p z=>by simp at z⟩
 | d::es,kvs,xs,e,h=>by
  obtain⟨x,r,rfl,h1,h2⟩:=h.inv;unfold wO at e;split at e
  .rename_i z;cases z
  .rename_i k d' r' z;cases z;cases q:wO es with
   | none=>rw[q]at e;cases e
   | some kvs'=>
    rw[q]at e;cases e;obtain⟨ts,vs,e1,e2,e3,e4,e5⟩:=D0 q h2;obtain⟨a,ys,rfl,g1,g2⟩:=h1.mJ;obtain⟨y,r1,rfl,g3,g4⟩:=g2.inv;obtain⟨w,r2,rfl,g5,g6⟩:=g4.inv;cases g6.nil_inv;cases g3.str_inv;refine⟨a::ts,(.inr k,w)::vs,by rw[e1];rfl,by simpa using e2,by rw[dN,dN,e3],.cons g5 e4,λj t p z1 z2=>?_⟩;cases j with
    | zero=>
     have z1':a=t:=by simpa using z1
     have z2':(Sum.inr k,w)=p:=by simpa using z2
     subst z1' z2';exact g1
    | succ j=>exact e5 j t p (by simpa using z1) (by simpa using z2)
  .cases e
def QO(ds:T0 D)(M:Mp)(Q:DK):Prop:=match ds with
 | [.ref a]=>(oX M a).elim False λes=>(wO es).elim False λkvs=>(kvs.map (·.1)).Nodup/\∀p,M p=Db->Q (.ref p) (pI M p (.dk kvs))
 | _=>False
def EM(hc:X.calm=pc):C3 X (.type "dict") QO:=by
 intro Xc s Y H vs us Q' I rv h;obtain⟨ds,M,Q,hd,hm,q,k⟩:=h;unfold QO at q;split at q
 .obtain⟨es,e1,q⟩:=rg q;obtain⟨kvs,e2,hnd,q⟩:=rg q;obtain⟨v,rfl,hv⟩:=sD hd;cases hv.mC;obtain⟨xs,h1,h2,_⟩:=qB hm e1;obtain⟨ts,ws,rfl,f2,f3,f4,f5⟩:=D0 e2 h2;refine Ik hc Xc s Y H _ us Q' I rv ⟨_,ts,ws,rfl,h1,f2,f5,by rw[f3];exact hnd,λd hd=>?_⟩;have e:qT X.K H (upd H d (.dK ws)):=.new hd;exact k _ _ _ _ .ref (hm.new (c:=.dk kvs) hd ⟨_,ql,f3,f4.mono e⟩) e (q d (hm.fresh hd))
 .exact q.elim
def SN:Go "set"=Fa (.type "set"):=by decide+kernel
def Ci:T0 D->Option (QQQ)
 | []=>Fa []
 | .str x::r=>(Ci r).map (x::·)
 | _::_=>Db
theorem BL:∀ss:QQQ,Ci (ss.map D.str)=Fa ss
 | []=>rfl
 | x::r=>by show(Ci (r.map D.str)).map (x::·)=_;rw[BL r];rfl
theorem GV{K:qw}:∀{ds:T0 D} {ss:QQQ} {xs:T0 V},Ci ds=Fa ss->qp K H ds xs->xs=ss.map V.str
 | [],_,_,e,h=>by cases e;exact h.nil_inv
 | d::ds,_,_,e,h=>by
  obtain⟨x,r,rfl,h1,h2⟩:=h.inv;cases d with
  | str z=>
   unfold Ci at e;cases q:Ci ds with
   | none=>rw[q]at e;cases e
   | some ss=>rw[q]at e;cases e;rw[h1.str_inv,GV q h2];rfl
  | _=>cases e
def TK(ta:T3):T3:=λU M Q=>ta U M λx M1=>(L4 M1 x).elim False λes=>(Ci es).elim False λss=>ss.length<4000/\Q (.int (tE ss).length) M1
def KA(hc:X.calm=pc)(he:E3 X e ta)(hg1:Gl X "len")(Xe:X.mg "len"=Db)(hg2:Gl X "set")(Xv:X.mg "set"=Db)(b1:Go "len"=Fa (.builtin "len"))(b2:Go "set"=Fa (.type "set")) (hs:Tl [e] X.env=[(lf,wp e X.env)]:=by rfl):E3 X (.Call (.Name "len" p) [.Call (.Name "set" p2) [e] [] Y1] [] pos) (TK ta):=
 PE.mono (KN hc he hg1 Xe hg2 Xv b1 b2 hs) λY H Q' zz=>x7 zz λU M Q hs hm ht k=>⟨U,M,_,hs,hm,ht,λv H1 d M1 hd Xe e1 q1=>by
  obtain⟨es,e2,q1⟩:=rg q1;obtain⟨ss,e3,hz,q1⟩:=rg q1;obtain⟨a,xs,rfl,h1,h2⟩:=EW Xe hd e2;rw[GV e3 h2]at h1;have z:Z'=4096:=rfl;exact⟨a,ss,rfl,h1,by omega,k _ _ _ _ .int Xe e1 q1⟩⟩
def SE(x:D)(ds:T0 D)(M:Mp)(Q:DK):Prop:=match x,ds with
 | .ref a,[y]=>(oX M a).elim False λes=>es.length<Ch/\Q .mG (pI M a (.lst (es++[y])))
 | _,_=>False
def pY{es:T0 D}(h:oX M a=Fa es):M a=Fa (.lst es):=by
 unfold oX at h;split at h
 .rename_i e;rw[e];cases h;rfl
 .cases h
def FM{K:qw}{es:T0 D}(hm:HM K H M)(h:oX M a=Fa es):∃xs,H a=Fa (.lst xs)/\qp K H es xs:=hm a _ (pY h)
def J4:M3 X "list.append" SE:=by
 intro Xc s Y H vx vs v us Q' I rx rv h;obtain⟨x,ds,M,Q,hx,hd,hm,q,k⟩:=h;unfold SE at q;split at q
 .obtain⟨es,e1,hz,q⟩:=rg q;obtain⟨w,rfl,hw⟩:=sD hd;cases hx.mC;obtain⟨xs,h1,h2⟩:=FM hm e1;refine Kk Xc s Y H _ _ v us Q' I rx rv ⟨_,xs,w,rfl,rfl,h1,by rw[<-h2.length];exact hz,?_⟩;obtain⟨Xv,ex⟩:=hm.put (c:=.lst (es++[_])) (pY e1) λex=>⟨_,ql,(h2.mono ex).snoc (hw.mono ex)⟩;exact k _ _ _ _ .mG Xv ex q
 .exact q.elim
def rF(ho:E3 X o ta)(ha:A3 X (e::es) t)(Xp:At o "append" X.env (wp o X.env)=wp o X.env:=by rfl)
  (Yt:((Ix pos (Tl (e::es) X.env)).all (λx=>!x.1)&&(dL pos (Ps [] X.env)).all (λx=>x.1.isSome)&&decide ((e::es).length+([]:T0 XXd).length+(if ([]:T0 XXd).isEmpty then 0 else 1)<30))=pc:=by rfl)
  (Xz:(Xf.endLine==pos.line)=pc:=by rfl) (hs:Bp X e es:=by rfl) (Xu:CU X pos es:=by rfl):
  E3 X (.Call (.Attribute o "append" Xf) (e::es) [] pos) (V5 SE ta t):=QR PySem.F.slot_list_append PySem.F.type_list_append J4 ho ha Xp Yt Xz hs Xu
def qr.none{M M2:Mp}{q:Uf}(s:qr M M2)(h:M2 q=Db):M q=Db:=by
 cases e:M q with
 | none=>rfl
 | some c=>rw[s q c e]at h;cases h
def qr.upd{M M2:Mp}{c:vb}(s:qr M M2):qr (pI M q c) (pI M2 q c):=λx d h=>by
 by_cases e:x=q
 .subst e;rw[pR]at h ⊢;exact h
 .rw[um e]at h ⊢;exact s x d h
def qr.dk{ds:T0 (qX×D)}(s:qr M M')(h:zp M a=Fa ds):zp M' a=Fa ds:=by
 unfold zp at h ⊢;cases e:M a with
 | none=>rw[e]at h;cases h
 | some c=>rw[s a c e];rw[e]at h;exact h
def so(p:Uf)(M M':Mp):Prop:=∀b c,b≠p->M b=Fa c->M' b=Fa c
def qr.keep{p:Uf}(s:qr M M'):so p M M':=λb c _ h=>s b c h
def so.trans{M M1 M2:Mp}{p:Uf}(a:so p M M1)(b:so p M1 M2):so p M M2:=λx c n h=>b x c n (a x c n h)
def so.put{p:Uf}{c:vb}:so p M (pI M p c):=λb d n h=>by rw[um n];exact h
def so.lst{p a:Uf}{ds:T0 D}(k:so p M M')(n:a≠p)(h:oX M a=Fa ds):oX M' a=Fa ds:=by have:=k a _ n (pY h);unfold oX;rw[this]
def so.dk{p a:Uf}{ds:T0 (qX×D)}(k:so p M M')(n:a≠p)(h:zp M a=Fa ds):zp M' a=Fa ds:=by
 unfold zp at h ⊢;cases e:M a with
 | none=>rw[e]at h;cases h
 | some c=>rw[k a c n e];rw[e]at h;exact h
def pV{a p C:Uf}{ds:T0 D}{fs:T0 (Str×D)}(h:oX M a=Fa ds)(hp:M p=Fa (.ins C fs)):a≠p:=λz=>by subst z;rw[pY h]at hp;cases hp
def Cu{a p C:Uf}{ds:T0 (qX×D)}{fs:T0 (Str×D)}(h:zp M a=Fa ds)(hp:M p=Fa (.ins C fs)):a≠p:=λz=>by subst z;unfold zp at h;rw[hp]at h;cases h
def rY{M:Mp}{p:Uf}{ds:T0 D}(h:M p=Fa (.lst ds)):oX M p=Fa ds:=by unfold oX;rw[h]
def BV{M:Mp}{p:Uf}{ds:T0 (qX×D)}(h:M p=Fa (.dk ds)):zp M p=Fa ds:=by unfold zp;rw[h]
def tK{N:Mp}{p q C:Uf}{fs fs':T0 (Str×D)}{c:vb}(hp:N p=Fa (.ins C fs))(hq:N q=Db):
  q≠p/\pI N q c p=Fa (.ins C fs)/\so p N (pI (pI N q c) p (.ins C fs'))/\pI (pI N q c) p (.ins C fs') q=Fa c/\pI (pI N q c) p (.ins C fs') p=Fa (.ins C fs'):=by
 have n:p≠q:=N0 hp hq;refine⟨dH n,by rw[um n];exact hp,(qr.new hq).keep.trans .put,by rw[um (dH n),pR],pR⟩
theorem yf{g:DD}{te:T3}{ok:Mp->Prop}{Q:DK}(all:T0 D)(J:T0 D->T0 D->vv->Mp->Prop)(mK:∀p acc U M,J p acc U M->ok M):∀(ds pre acc:T0 D) (U:vv) (M:Mp),pre++ds=all->acc.length+ds.length<=Ch->J pre acc U M->
  (∀pre d post,pre++d::post=all->∀acc U M,J pre acc U M->∀k:vv->DK,(∀δ2 y M4,J (pre++[d]) (acc++[y]) δ2 M4->k δ2 y M4)->g d U M λδ2 M2=>te δ2 M2 (k δ2))->
  (∀acc U M,J all acc U M->∀p,M p=Db->Q (.ref p) (pI M p (.lst acc)))->vj g B' te ok Q ds acc U M
 | [],pre,acc,U,M,e,hl,j,_,hq=>⟨by simpa using hl,hq acc U M (by rw[<-e,eJ];exact j)⟩
 | d::r,pre,acc,U,M,e,hl,j,ht,hq=>by rw[dU]at hl;refine⟨by omega,?_⟩;refine ht pre d r e acc U M j (λδ2 y M4=>ok M4/\vj g B' te ok Q r (acc++[y]) δ2 M4) λδ2 y M4 j'=>⟨mK _ _ _ _ j',yf all J mK r (pre++[d]) (acc++[y]) δ2 M4 (by rw[<-e,eU];rfl) ?_ j' ht hq⟩;rw[cR,dG];omega
def sZ:Nat->D->Bool
 | _,.mG=>pc
 | _,.bl _=>pc
 | _,.int _=>pc
 | _,.str _=>pc
 | n+1,.tup ds=>ds.all (sZ n)
 | _,_=>lf
theorem yQ{f:D->D->Option Bool}:∀ds:T0 D,(∀d∈ds,f d d=Fa pc)->sW f ds ds=Fa pc
 | [],_=>rfl
 | d::r,h=>by show(f d d).bind (λp=>(sW f r r).map λq=>p&&q)=Fa pc;rw[h d dD,yQ r λe he=>h e (dw _ he)];rfl
theorem xY:∀(n:Nat) (d:D),sZ n d=pc->zc M (n+1) d d=Fa pc
 | _,.mG,_=>rfl
 | _,.bl _,_=>by simp[zc]
 | _,.int _,_=>by simp[zc]
 | _,.str _,_=>by simp[zc]
 | n+1,.tup ds,h=>by have h:ds.all (sZ n)=pc:=h;show(sW (zc M (n+1)) ds ds).map (λp=>p&&ds.length==ds.length)=Fa pc;rw[yQ ds λd hd=>xY n d (eA.mp h d hd)];simp
 | 0,.tup _,h=>by cases h
 | 0,.ref _,h=>by cases h
 | _+1,.ref _,h=>by cases h
 | 0,.ty _,h=>by cases h
 | _+1,.ty _,h=>by cases h
 | 0,.rl _,h=>by cases h
 | _+1,.rl _,h=>by cases h
def DA{ds:T0 D}(ha:oX M a=Fa ds)(hb:oX M b=Fa ds)(h:∀d∈ds,zc M n d d=Fa pc):zc M (n+1) (.ref a) (.ref b)=Fa pc:=by show(oX M a).bind (λi=>(oX M b).bind λj=>if i.length=j.length then sW (zc M n) i j else Fa lf)=Fa pc;rw[ha,hb];show(if ds.length=ds.length then sW (zc M n) ds ds else Fa lf)=Fa pc;rw[cV rfl];exact yQ ds h
def Ra(tc:AA)(tb:xt):xt:=λE U M=>∃W:Nat->vv->Mp->Prop,(∃m,W m U M)/\∀m U M,W m U M->
 tc U M λb M1=>if b=pc then tb {E with nx:=λδ' M'=>∃m',m'<m/\W m' δ' M',ct:=λδ' M'=>∃m',m'<m/\W m' δ' M',bk:=E.nx} U M1 else E.nx U M1
def K'{tc:AA}{tb:xt}(hp:PassesOwn (Tk X.prog X.w) X.A X.env X.xe)(hc:B3 X c tc)(hb:Hh X body tb):S3 X (.While c body [] pos) (Ra tc tb):=
 PS.mono (Na hp hc hb) λD' Y H ⟨U,M,E,hs,hm,⟨W,⟨m0,w0⟩,turn⟩,k1,k2,k3,k4⟩=>by
 refine⟨λm σ' H'=>∃δ' M',zS X.K H' σ' δ'/\HM X.K H' M'/\qT X.K H H'/\σ'.length=Y.length/\W m δ' M',⟨m0,U,M,hs,hm,.refl,rfl,w0⟩,?_⟩
 rintro m σ1 H1 ⟨δ1,M1,hs1,Xe,e1,l1,w1⟩
 refine⟨δ1,M1,_,hs1,Xe,turn m δ1 M1 w1,λb H2 M2 Xv e2 q2=>?_⟩;cases b with
 | false=>rw[cS dh]at q2 ⊢;exact k1 σ1 H2 δ1 M2 (hs1.mono e2) Xv (e1.trans e2) l1 q2
 | true=>
  rw[cV rfl]at q2 ⊢;refine⟨λσ' H'=>∃δ' M',zS X.K H' σ' δ'/\HM X.K H' M'/\qT X.K H H'/\σ'.length=Y.length/\∃m',m'<m/\W m' δ' M',?_,δ1,M2,_,hs1.mono e2,Xv,q2,?_,?_,?_,?_⟩
  .rintro σ' H' ⟨δ',M',a1,a2,a3,a4,m',lt,w⟩
   exact⟨m',lt,δ',M',a1,a2,a3,a4,w⟩
  .exact λσ' H' δ' M' y1 y2 y3 y4 y5=>⟨δ',M',y1,y2,e1.trans (e2.trans y3),by rw[y4,l1],y5⟩
  .exact λv H' d M' y1 y2 y3 y4=>k2 v H' d M' y1 y2 (e1.trans (e2.trans y3)) y4
  .exact λσ' H' δ' M' y1 y2 y3 y4 y5=>k1 σ' H' δ' M' y1 y2 (e1.trans (e2.trans y3)) (by rw[y4,l1]) y5
  .exact λσ' H' δ' M' y1 y2 y3 y4 y5=>⟨δ',M',y1,y2,e1.trans (e2.trans y3),by rw[y4,l1],y5⟩
def S0(op:XYa)(x y:D):Option D:=match op,x,y with
 | .Add,.int i,.int j=>Fa (.int (i+j))
 | .Sub,.int i,.int j=>Fa (.int (i - j))
 | _,_,_=>Db
def Sa(op:XYa):V->V->Hp->VK->Prop:=λvx vy H Q=>match op,vx,vy with
 | .Add,.int i,.int j=>Q (.int (i+j)) H
 | .Sub,.int i,.int j=>Q (.int (i - j)) H
 | _,_,_=>False
def RT:OF X op (Sa op):=by
 intro Xc s Y H x y u v Q I rx ry h;unfold Sa at h;split at h
 .exact RG Xc s Y H _ _ u v Q I rx ry ⟨_,_,rfl,rfl,h⟩
 .exact Su Xc s Y H _ _ u v Q I rx ry ⟨_,_,rfl,rfl,h⟩
 .exact h.elim
def PN{K:qw}{x y z:D}{Q:VK}(hx:rQ K H x vx)(hy:rQ K H y vy)(e:S0 op x y=Fa z)(k:∀vz,rQ K H z vz->Q vz H):Sa op vx vy H Q:=by
 unfold S0 at e;split at e
 .cases e;cases hx.int_inv;cases hy.int_inv;exact k _ .int
 .cases e;cases hx.int_inv;cases hy.int_inv;exact k _ .int
 .cases e
def UY(K:qw)(f:Str)(op:XYa)(ta tv:T3):xt:=λE U M=>ta U M λx M1=>match x with
 | .ref a=>Bc (M1 a) λC fs=>ut K C f/\(fs.lookup f).elim False λd=>tv U M1 λy M2=>(S0 op d y).elim False λz=>Bc (M2 a) λC' fs'=>C'=C/\fs'.length<1000/\E.nx U (pI M2 a (.ins C (wb f z fs')))
 | _=>False
def D7{f:Str}(ha:E3 X o ta)(hv:E3 X value tv):S3 X (.AugAssign (.Attribute o f Zo) op value pos) (UY X.K f op ta tv):=
 PS.mono (K0 ha hv RT) λD' Y H zz=>K2 zz λU M E hs hm ht k1 k2 k3 k4=>
 ⟨U,M,_,hs,hm,ht,λv H1 d M1 hd Xe e1 q1=>by
  cases d with
  | ref a=>
   cases hd.mC;obtain⟨C,fs,e,q1⟩:=ya q1;obtain⟨na,q1⟩:=q1;obtain⟨d,ed,q1⟩:=rg q1;obtain⟨dx,vs,h1,cl,nn,fo⟩:=Xe a _ e;obtain⟨w,ew,hw⟩:=(wR fo).1 d ed;refine⟨a,C,dx,vs,w,rfl,h1,cl,na,ew,U,M1,_,hs.mono e1,Xe,q1,λu H2 y M2 hy Xv e2 q2=>?_⟩;obtain⟨z,ez,q2⟩:=rg q2;obtain⟨C',fs',e',q2⟩:=ya q2;obtain⟨rfl,hl,q2⟩:=q2;refine PN (hw.mono e2) hy ez λvz hz=>?_;obtain⟨Z0,vs',XY,cl',nn',fo'⟩:=Xv a _ e';have Xi:vs'.length=fs'.length:=by have:=eE List.length fo'.1;simpa using this
   refine⟨Z0,vs',XY,by omega,?_⟩;obtain⟨Yb,e3⟩:=Xv.put (p:=a) (o:=.ins C' Z0 (vK f vz vs')) (c:=.ins C' (wb f z fs')) e' λx=>⟨Z0,_,ql,cl',λg hg=>by
    rcases CD hg with q|q
    .rw[q];exact na
    .exact nn' g q,Fk (hz.mono x) (fo'.mono x)⟩
   exact k1 Y _ U _ (hs.mono (e1.trans (e2.trans e3))) Yb (e1.trans (e2.trans e3)) rfl q2
  | _=>exact q1.elim⟩
theorem sT{i:Nat}{tt:AA}{te:T3}{ok:Mp->Prop}{Q:DK}{f:D->D}{t:D->Bool}{M:Mp}(mK:ok M):∀(ds acc:T0 D) (U:vv),acc.length+ds.length<=Ch->
  (∀d∈ds,∀k:Bool->Mp->Prop,k (t d) M->tt (U.set i (Fa d)) M k)->(∀d∈ds,t d=pc->∀k:DK,k (f d) M->te (U.set i (Fa d)) M k)->
  (∀p,M p=Db->Q (.ref p) (pI M p (.lst (acc++(ds.filter t).map f))))->vj (rS i) tt te ok Q ds acc U M
 | [],acc,U,hl,_,_,hq=>⟨by simpa using hl,by simpa using hq⟩
 | d::r,acc,U,hl,ht,he,hq=>by
  rw[dU]at hl;refine⟨by omega,?_⟩;show tt (U.set i (Fa d)) M _;refine ht d dD _ ?_;have z:∀e:D,(U.set i (Fa d)).set i (Fa e)=U.set i (Fa e):=λe=>by rw[jA]
  cases q:t d with
  | true=>
   rw[cV rfl];refine he d dD q _ ⟨mK,sT (f:=f) (t:=t) mK r (acc++[f d]) _ ?_ (λe m k h=>?_) (λe m h0 k h=>?_) ?_⟩
   .rw[cR,dG];omega
   .rw[z];exact ht e (dw _ m) k h
   .rw[z];exact he e (dw _ m) h0 k h
   .intro p hp;have:=hq p hp;rw[iq q]at this
    simpa using this
  | false=>
   rw[cS dh];refine⟨mK,sT (f:=f) (t:=t) mK r acc _ (by omega) (λe m k h=>?_) (λe m h0 k h=>?_) ?_⟩
   .rw[z];exact ht e (dw _ m) k h
   .rw[z];exact he e (dw _ m) h0 k h
   .intro p hp;have:=hq p hp;rw[ir (by rw[q];exact dh)]at this;exact this
section
variable {a:zn}
def VB(ta:T3):T3:=λU M Q=>ta U M λx M1=>match x with|.int i=>Q (.int (-i)) M1|_=>False
def Fx(ha:E3 X a ta):E3 X (.UnaryOp .USub a pos) (VB ta):=PE.mono (US Ru ha) λY H Q' zz=>x7 zz λU M Q hs hm ht k=>
 ⟨U,M,_,hs,hm,ht,λv H1 d M1 hd Xe e1 q1=>by
  cases d with
  | int i=>cases hd.int_inv;exact⟨i,rfl,k _ H1 _ M1 .int Xe e1 q1⟩
  | _=>exact q1.elim⟩
end
end L3
namespace L2
open PySem.W
def CF{α:Type}(lt:Nat->Nat->Bool):KasT α->α
 | .ret a=>a
 | .ask i j k=>CF lt (k (lt i j))
def vE(n:Nat):KasT (Array Nat)->Bool
 | .ret p=>p.size==n&&p.toList.all λi=>decide (i<n)
 | .ask i j k=>decide (i<n)&&decide (j<n)&&vE n (k pc)&&vE n (k lf)
def Gx{n i j:Nat}{k:Bool->KasT (Array Nat)}(h:vE n (.ask i j k)=pc):i<n/\j<n/\∀b,vE n (k b)=pc:=by simp only[vE,dO,dX]at h;exact⟨h.1.1.1,h.1.1.2,λb=>by cases b;exact h.2;exact h.1.2⟩
theorem FY{cmp:Nat->Nat->(Bool->Sd->Prop)->Sd->Prop}{lt:Nat->Nat->Bool}{n:Nat}{Q:Array Nat->Sd->Prop}(hc:∀i j (C:Bool->Sd->Prop),i<n->j<n->C (lt i j) s->cmp i j C s):
  ∀t:KasT (Array Nat),vE n t=pc->Q (CF lt t) s->t.kasWp cmp Q s
 | .ret _,_,q=>q
 | .ask i j k,hb,q=>by obtain⟨h1,h2,h3⟩:=Gx hb;exact hc i j _ h1 h2 (FY hc (k (lt i j)) (h3 _) q)
theorem IK:∀t:KasT (Array Nat),vE n t=pc->(CF lt t).size=n/\∀i∈(CF lt t).toList,i<n
 | .ret p,hb=>by simp only[vE,dO,eW,eA,dX]at hb;exact hb
 | .ask i j k,hb=>IK (k (lt i j)) ((Gx hb).2.2 _)
def tZ(lt:Nat->Nat->Bool)(n:Nat):T0 Nat:=if n<2 then List.range n else(CF lt (kas_sort n)).toList
def VW:vE 2 (kas_sort 2)=pc:=by decide+kernel
def V6:vE 3 (kas_sort 3)=pc:=by decide+kernel
def Tt{n:Nat}(h2:2<=n)(h3:n<=3):vE n (kas_sort n)=pc:=by
 have:n=2\/n=3:=by omega
 rcases this with rfl|rfl
 .exact VW
 .exact V6
def yi{n:Nat}(h3:n<=3):(tZ lt n).length=n/\∀i∈tZ lt n,i<n:=by
 unfold tZ;by_cases h:n<2
 .rw[cV h,dZ];exact⟨rfl,λi hi=>fJ.mp hi⟩
 .rw[cS h];obtain⟨h1,h2⟩:=IK (lt:=lt) (kas_sort n) (Tt (by omega) h3);exact⟨by rw[hJ];exact h1,h2⟩
variable {prog:Pg}{w:Wo}{A:Ar}{E:QQX}{s:Sd}
def Do{a:Uf}{vs:T0 Vl}{n:Nat}{κ:SortKind}{lt:Nat->Nat->Bool}{P:PySem.Fin->Sd->Prop}(ho:s.heap.get? a=Fa (TD "list" vs.toArray n))(h3:vs.length<=3) (hk:∀h' (Q:SortKind->Sd->Prop),0<vs.length->(∀b o,b≠a->s.heap.get? b=Fa o->h'.get? b=Fa o)->Q κ {s with heap:=h'}->pi (Tk prog w) A (keyKind' vs.toArray) Q (λ_ _=>False) {s with heap:=h'})
  (Xr:∀h' i j (C:Bool->Sd->Prop),(∀b o,b≠a->s.heap.get? b=Fa o->h'.get? b=Fa o)->i<vs.length->j<vs.length->C (lt i j) {s with heap:=h'}->pi (Tk prog w) A (keyLt' κ (vs.getD i .none) (vs.getD j .none)) C (λ_ _=>False) {s with heap:=h'})
  (h:P (.done (.ret .none)) {s with heap:=sortedHeap s.heap a vs (List.toArray ((tZ lt vs.length).map λi=>vs.getD i Value.none))}):
  pi (Tk prog w) A (Builtin.«list.sort» ⟨[.ref a],[]⟩) P E s:=by
 rw[list_sort_plain];have hz:=dF;have ha:a<s.heap.objs.size:=dg ho;refine cP (listItems_at ho rfl ?_);refine cP (kq ho rfl ?_ (by rw[de];omega) (d9 _));obtain⟨e1,Z7⟩:∃e1,(s.heap.update a (Obj.mapSeq λ_=>#[])).get? a=Fa (TD "list" #[] e1):=⟨_,get?_update_seq ho (λ_=>#[])⟩;refine cP (ly Z7 rfl ?_);refine cP (wpAny_newTuple ?_ (by show vs.length<=_;omega));refine cP (wpAny_newList ?_ (d9 _));refine eM ?_;have ho6:(((s.heap.update a (Obj.mapSeq λ_=>#[])).push (TD "tuple" vs.toArray 0)).push (TD "list" #[] 0)).get? a=Fa (TD "list" #[] e1):=by rw[iy _ _ _ (by rw[lV,iD];exact dC (fR ha)),iy _ _ _ (by rw[iD];exact dC ha)];exact Z7
 have keep:∀b o,b≠a->s.heap.get? b=Fa o->(((s.heap.update a (Obj.mapSeq λ_=>#[])).push (TD "tuple" vs.toArray 0)).push (TD "list" #[] 0)).get? b=Fa o:=λb o hb q=>by have Xr:b<s.heap.objs.size:=dg q;rw[iy _ _ _ (by rw[lV,iD];exact dC (fR Xr)),iy _ _ _ (by rw[iD];exact dC Xr),iT _ _ _ _ hb];exact q
 show pi (Tk prog w) A _ P E {s with heap:=((s.heap.update a (Obj.mapSeq λ_=>#[])).push (TD "tuple" vs.toArray 0)).push (TD "list" #[] 0)};dsimp only;have hsz:vs.toArray.size=vs.length:=by simp
 by_cases h2:vs.toArray.size<2
 .rw[cV h2,cV h2];refine cP (cZ ?_);rw[StateT.run_pure];refine cP (cZ ?_);dsimp only;refine cP (ly ho6 rfl ?_);have eo:(arrOf (SortSt.mk' general' (vs.toArray.zip vs.toArray) #[] 7 Db)).map (·.2)=List.toArray ((tZ lt vs.length).map λi=>vs.getD i Value.none):=by
   unfold tZ;rw[cV (by omega)];show((vs.toArray.zip vs.toArray).map (·.2))=_
   match vs,hsz,h2 with
   | [],_,_=>simp
   | [_],_,_=>simp[iM]
   | _::_::_,_,h2=>simp at h2;omega
  rw[eo];refine cP (kq ho6 rfl ?_ (d9 _) (by rw[de,cO,(yi h3).1];omega));simp only[lj,kN,j6];exact cZ h
 .rw[cS h2,cS h2];have g2:2<=vs.length:=by omega
  refine cP (dW (hk _ (λκ' s'=>κ'=κ/\s'={s with heap:=((s.heap.update a (Obj.mapSeq λ_=>#[])).push (TD "tuple" vs.toArray 0)).push (TD "list" #[] 0)}) (by omega) keep ⟨rfl,rfl⟩) ?_ λ_ _ x=>x.elim)
  rintro κ' s' ⟨rfl,rfl⟩
  refine cP (dW (kat_run (ks:=vs) (vs:=vs) (Q:=λX4 s'=>∃p:Array Nat,arrOf X4=p.map (kas_item (vs.toArray.zip vs.toArray))/\failedOf X4=Db/\p.toList=tZ lt vs.length/\s'={s with heap:=((s.heap.update a (Obj.mapSeq λ_=>#[])).push (TD "tuple" vs.toArray 0)).push (TD "list" #[] 0)})
   (G:=λp s'=>p.toList=tZ lt vs.length/\s'={s with heap:=((s.heap.update a (Obj.mapSeq λ_=>#[])).push (TD "tuple" vs.toArray 0)).push (TD "list" #[] 0)})
   rfl g2 (by omega) (λp' X4 s' a1 a2 a3 a4=>⟨p',a2,a3,a4⟩) (FY (n:=vs.length) (lt:=lt) (λi j C hi hj hC=>Xr _ i j C keep hi hj hC) _ (Tt g2 h3) ⟨by unfold tZ;rw[cS (by omega)],rfl⟩)) ?_ λ_ _ e=>e)
  rintro ⟨⟨⟩,X4⟩ s' ⟨p,har,hf,hp,rfl⟩
  dsimp only;have hout:=kat_snds rfl har;rw[hp]at hout;refine cP (ly ho6 rfl ?_);rw[hout];refine cP (kq ho6 rfl ?_ (d9 _) (by rw[de,cO,(yi h3).1];omega));rw[hf];simp only[lj,kN,j6];exact cZ h
def Vi(a b:Str×Int):Bool:=if a.1==b.1 then(if a.2==b.2 then lf else decide (a.2<b.2))else decide (a.1.cps.toList<b.1.cps.toList)
def P6{x y:Uf}{ox oy:Obj}{n k:Nat}{a b:Str×Int}{t1 t2 t3 t4:Tok}{C:Bool->Sd->Prop}(hx:s.heap.get? x=Fa ox)(dx:ox.data=.seq #[.str a.1 t1,.int a.2 t2] n)(hy:s.heap.get? y=Fa oy)(dy:oy.data=.seq #[.str b.1 t3,.int b.2 t4] k)(h:C (Vi a b) s):
  pi (Tk prog w) A (keyLt' (tuples' pc) (.ref x) (.ref y)) C E s:=by
 refine kat_lt hx dx hy dy ?_;show KatLex prog w A pc _ C [(Value.str a.1 t1,Value.str b.1 t3),(Value.int a.2 t2,Value.int b.2 t4)] 0 s;unfold Vi at h;refine kat_cons (eqBool_str ?_);cases e:a.1==b.1 with
 | true=>
  rw[e,cV rfl]at h;refine kat_yes (kat_cons (lA ?_));cases e2:a.2==b.2 with
  | true=>rw[e2,cV rfl]at h;exact kat_yes (kat_nil h)
  | false=>rw[e2,cS dh]at h;exact kat_no (kat_one _ _ (PyProof.Rows.lt_int h))
 | false=>rw[e,cS dh]at h;exact kat_no (oneLt_str h)
def Dp{x:Str}(h:BQ (.inr x) v=pc):∃t,v=.str x t:=by
 rcases rW h with⟨i,t,e,_⟩|⟨y,t,e,e2⟩
 .cases e
 .cases e;exact⟨t,e2⟩
def Fi(ps:T0 (Str×Int))(i j:Nat):Bool:=Vi (ps.getD i ("",0)) (ps.getD j ("",0))
def tj(ps:T0 (Str×Int)):T0 (Str×Int):=(tZ (Fi ps) ps.length).map λi=>ps.getD i ("",0)
def DX{ps:T0 (Str×Int)}(h:ps.length<=3):(tj ps).length=ps.length:=by unfold tj;rw[cO];exact(yi h).1
def Pr(h:No)(a:Uf)(p:Str×Int):Prop:=CA λt1 t2=>h.get? a=Fa {cls:=.type "tuple",data:=.seq #[.str p.1 t1,.int p.2 t2]}
def Pr.inj{p q:Str×Int}(x:Pr h a p)(y:Pr h a q):p=q:=by obtain⟨t1,t2,e1⟩:=x;obtain⟨u1,u2,e2⟩:=y;rw[e1]at e2;have:=cY e2;simp only[Obj.mk.injEq,Data.seq.injEq,Array.mk.injEq,List.cons.injEq,Value.str.injEq,Value.int.injEq]at this;exact mh (by simp_all) (by simp_all)
theorem IY:∀(as:QXQ) (ps:T0 (Str×Int)),as.length=ps.length->(∀(j:Nat) (a:Uf) (p:Str×Int),as[j]?=Fa a->ps[j]?=Fa p->Pr h a p)->∃fs,KatTups h (as.map Value.ref) fs/\fs.length=as.length/\∀v∈fs,∃x t,v=Value.str x t
 | [],[],_,_=>⟨[],.nil,rfl,λv hv=>nomatch hv⟩
 | [],_::_,e,_=>by cases e
 | _::_,[],e,_=>by cases e
 | a::as,p::ps,e,hp=>by
  obtain⟨fs,h1,h2,h3⟩:=IY as ps (by simpa using e) λj a' p' e1 e2=>hp (j+1) a' p' (by simpa using e1) (by simpa using e2);obtain⟨t1,t2,ea⟩:=hp 0 a p rfl rfl;refine⟨.str p.1 t1::fs,.cons ea rfl rfl rfl h1,by simp[h2],λv hv=>?_⟩;rcases cW.mp hv with z|z
  .exact⟨_,_,z⟩
  .exact h3 v z
def GL{r d:Uf}{kvs:T0 (qX×Vl)}{ep:Nat}{ps:T0 (Str×Int)}{Q:QQX}(hh:A.handled=Db)(hv:s.heap.IsItemsView r d)(hm:s.heap.DictAt (rA prog w) d kvs ep)(h3:ps.length<=3) (hp:kvs.length=ps.length) (hps:∀(j:Nat) (k:qX) (x:Vl),kvs[j]?=Fa (k,x)->∃p t,ps[j]?=Fa p/\k=Sum.inr p.1/\x=.int p.2 t) (h:∀(h':No) (tk:Nat) (S:Uf) (ws:QXQ) (e:Nat),(∀b o,s.heap.get? b=Fa o->h'.get? b=Fa o)->r<S->h'.get? S=Fa (TD "list" (ws.map Value.ref).toArray e)->ws.length=ps.length->
    (∀(j:Nat) (a:Uf) (p:Str×Int),ws[j]?=Fa a->(tj ps)[j]?=Fa p->r<a/\a≠S/\Pr h' a p)->Q (.ref S) {s with heap:=h',toks:=tk}):
  pi (Tk prog w) A (call (.builtin "sorted") [.ref r]) Q E s:=by
 have hz:=dF;have hr:r<s.heap.objs.size:=by obtain⟨o,ho,_⟩:=hv;exact dg ho
 refine Calls.call_function_entry kind_sorted plain_sorted entry_sorted (args_sorted1 _) ?_;unfold Builtin.«sorted»;refine cP (m:=checkCount "sorted" 1 1 _) (cZ ?_);refine cP (kdx_collect (A:=A.in1) hh hv hm (by omega) λh1 tk as hk hl hG=>?_);refine cP (wpAny_newList ?_ (by rw[cO];omega));have hl':as.length=ps.length:=by omega
 have pr:∀(j:Nat) (a:Uf) (p:Str×Int),as[j]?=Fa a->ps[j]?=Fa p->Pr h1 a p:=λj a p e1 e2=>by obtain⟨key,k,x,f1,f2,f3⟩:=hG.pairs j a e1;obtain⟨p',t,g1,g2,g3⟩:=hps j k x f1;rw[e2]at g1;cases g1;subst g2 g3;obtain⟨t',rfl⟩:=Dp f2;exact⟨t',t,f3⟩
 have hoL:(h1.push (TD "list" (as.map Value.ref).toArray 0)).get? h1.objs.size=Fa (TD "list" (as.map Value.ref).toArray 0):=dA _ rfl;have pr2:∀h',(∀b o,b≠h1.objs.size->(h1.push (TD "list" (as.map Value.ref).toArray 0)).get? b=Fa o->h'.get? b=Fa o)->∀(j:Nat) (a:Uf) (p:Str×Int),as[j]?=Fa a->ps[j]?=Fa p->Pr h' a p:=λh' kp j a p e1 e2=>by obtain⟨t1,t2,e3⟩:=pr j a p e1 e2;exact⟨t1,t2,kp _ _ (dC (dg e3)) (cU _ e3)⟩
 have gd:∀i,i<as.length->∃a p,as[i]?=Fa a/\ps[i]?=Fa p/\(as.map Value.ref).getD i Value.none=.ref a/\ps.getD i ("",0)=p:=λi hi=>by
  have X8:i<ps.length:=by omega
  refine⟨as[i],ps[i],cQ hi,cQ X8,?_,?_⟩
  .simp[hi]
  .simp[X8]
 have hll:(as.map Value.ref).length=ps.length:=by rw[cO];exact hl'
 show pi _ _ _ _ _ {s with heap:=h1.push (TD "list" (as.map Value.ref).toArray 0),toks:=tk};refine cP (eM (fP slot_list_sort ⟨_,hoL,rfl⟩ entry_list_sort (Do (κ:=tuples' pc) (lt:=Fi ps) (s:={s with heap:=h1.push (TD "list" (as.map Value.ref).toArray 0),toks:=tk}) hoL (by rw[hll];exact h3) (λh' Q' XB kp hq=>?_) (λh' i j C kp hi hj hC=>?_) ⟨_,rfl,?_⟩) (args_list_sort _)))
 .obtain⟨fs,k1,k2,k3⟩:=IY as ps hl' (pr2 h' kp);refine kat_kind (T:=Value.type "str") k1 (by rw[k2];rw[cO]at XB;exact XB) (λv hv=>?_) (by decide) hq;obtain⟨x,t,rfl⟩:=k3 v hv;exact Looks.now
 .rw[cO]at hi hj;obtain⟨a,p,a1,a2,a3,a4⟩:=gd i hi;obtain⟨b,q,b1,b2,b3,b4⟩:=gd j hj;rw[a3,b3];obtain⟨t1,t2,e1⟩:=pr2 h' kp i a p a1 a2;obtain⟨t3,t4,e2⟩:=pr2 h' kp j b q b1 b2;refine P6 (s:={s with heap:=h',toks:=tk}) e1 rfl e2 rfl ?_;show C (Vi p q) _;rw[<-a4,<-b4];exact hC
 .obtain⟨e,he⟩:=sortedHeap_at (h:=h1.push (TD "list" (as.map Value.ref).toArray 0)) (a:=h1.objs.size) (vs:=as.map Value.ref) (out:=List.toArray ((tZ (Fi ps) (as.map Value.ref).length).map λi=>(as.map Value.ref).getD i Value.none)) hoL;have XI:∀b o,h1.get? b=Fa o->(sortedHeap (h1.push (TD "list" (as.map Value.ref).toArray 0)) h1.objs.size (as.map Value.ref) (List.toArray ((tZ (Fi ps) (as.map Value.ref).length).map λi=>(as.map Value.ref).getD i Value.none))).get? b=Fa o:=λb o q=>by have hb:=dg q;rw[sortedHeap_old (dC hb) (by rw[lV];exact fR hb)];exact cU _ q
  have ix:=yi (lt:=Fi ps) h3;have eo:((tZ (Fi ps) (as.map Value.ref).length).map λi=>(as.map Value.ref).getD i Value.none)=((tZ (Fi ps) ps.length).map λi=>as.getD i 0).map Value.ref:=by
   rw[hll,dS];refine fV λi hi=>?_;have:=ix.2 i hi;have YO:i<as.length:=by omega
   simp[YO]
  refine cZ ⟨_,rfl,h _ tk h1.objs.size ((tZ (Fi ps) ps.length).map λi=>as.getD i 0) e (λb o q=>XI b o (hk b o q)) ?_ ?_ ?_ λj a p e1 e2=>?_⟩
  .obtain⟨o,ho,_⟩:=hv;exact dg (hk _ _ ho)
  .rw[he,eo]
  .rw[cO];exact ix.1
  .unfold tj at e2;rw[df]at e1 e2;cases ei:(tZ (Fi ps) ps.length)[j]? with
   | none=>rw[ei]at e1;cases e1
   | some i=>
    rw[ei]at e1 e2;have hi:=ix.2 i (e9 ei);obtain⟨a',p',a1,a2,a3,a4⟩:=gd i (by omega);have ea:a=a':=by have:as.getD i 0=a:=cY e1;rw[<-this];simp[eO,a1]
    have ep:p=p':=by have:ps.getD i ("",0)=p:=cY e2;rw[<-this,a4]
    subst ea ep;have P1:=pr i a p a1 a2;obtain⟨t1,t2,e3⟩:=P1;exact⟨ib hr (hG.above a (e9 a1)),dC (dg e3),t1,t2,XI _ _ e3⟩
def Inv.many{Xc:QQY}{H H':Hp}{h':No}{t':Nat}(I:Inv X Xc Y H s)(k:∀b o,s.heap.get? b=Fa o->h'.get? b=Fa o)(hs:∀b,b<s.heap.objs.size->H' b=H b) (new:∀b o,s.heap.objs.size<=b->H' b=Fa o->tD X.prog X.w H' h' b o):Inv X Xc Y H' {s with heap:=h',toks:=t'}:=by
 have sm:∀b o,H b=Fa o->H' b=Fa o:=λb o e=>by rw[hs b (I.mK.lt e)];exact e
 refine I.step (g':=s.gens) (d':=s.drawn) (ch:=[]) (λb hb=>nomatch hb) (λb o _ _ _ e _=>k b o e) (λb o _ _ _ e _=>⟨o.slots,k b o e⟩) (λb o _ e n=>by rw[hs b (dg e)];exact n)
  (λb o _ e=>⟨o,k b o e⟩) (λb xs e=>sm b _ e) (λb o u e=>sm b _ e) (λb ps e=>⟨#[],by rw[sm b _ e];simp⟩) (λm hm=>?_) (λb u e=>?_) I.bare
 .obtain⟨o,es,ep,ho,r⟩:=hm;exact⟨o,es,ep,k _ o ho,r⟩
 .by_cases hb:b<s.heap.objs.size
  .rw[hs b hb]at e;exact(I.mK b u e).ng (λc v _ q=>k c v q) (λc q=>sm c _ q) λc xs q=>sm c _ q
  .exact new b u (jw hb) e
def RN(te:TE):TE:=λY H Q=>te Y H λv H1=>∃a kvs ps,v=.ref a/\H1 a=Fa (.dK kvs)/\kvs=(ps:T0 (Str×Int)).map (λp=>((Sum.inr p.1:qX),V.int p.2))/\ps.length<=3/\
 ∀(S:Uf) (H2:Hp) (ws:QXQ),H1 S=Db->(∀b o,H1 b=Fa o->H2 b=Fa o)->H2 S=Fa (.lst (ws.map V.ref))->ws.length=ps.length->(∀(j:Nat) (a:Uf) (p:Str×Int),ws[j]?=Fa a->(tj ps)[j]?=Fa p->H2 a=Fa (.tup [.str p.1,.int p.2]))->
  (∀b o,H1 b=Db->H2 b=Fa o->b=S\/∃p:Str×Int,o=.tup [.str p.1,.int p.2])->Q (.ref S) H2
def KJ:Go "sorted"=Fa (.builtin "sorted"):=by decide+kernel
theorem IP:∀{ps:T0 (Str×Int)} {vs:T0 (qX×Vl)},KV (ps.map (λp=>((Sum.inr p.1:qX),V.int p.2))) vs->vs.length=ps.length/\∀(j:Nat) (k:qX) (x:Vl),vs[j]?=Fa (k,x)->∃p t,ps[j]?=Fa p/\k=Sum.inr p.1/\x=.int p.2 t
 | [],_,.nil=>⟨rfl,λj k x e=>by simp at e⟩
 | p::ps,_,.cons r rs=>by
  obtain⟨h1,h2⟩:=IP rs;refine⟨by simp[h1],λj k x e=>?_⟩;cases j with
  | zero=>have e:=cY e;obtain⟨r1,t,r2⟩:=r;subst e;exact⟨p,t,rfl,r1.symm,r2⟩
  | succ j=>exact h2 j k x e
def Er{X:Cx}{te:TE}{p pos Xf Xj:Pos}(hc:X.calm=pc)(he:PE X o te)(hg:Gl X "sorted")(hm:X.mg "sorted"=Db) (Xp:At o "items" X.env (wp o X.env)=wp o X.env:=by rfl) (Xz:(Xf.endLine==Xj.line)=pc:=by rfl):
  PE X (.Call (.Name "sorted" p) [.Call (.Attribute o "items" Xf) [] [] Xj] [] pos) (RN te):=by
 intro Xc s Y H Q I h;refine fO (xB I hg hm KJ ?_);refine gI ?_ rfl rfl;show pi _ _ (spliced ((lf,wp (.Call (.Attribute o "items" Xf) [] [] Xj) X.env)::Ix pos (Tl [] X.env))) _ _ s;refine ia ?_;refine wpAny_Call_method0_late Xp Xz (sL (he Xc s Y H _ I h) λv s1 zz=>?_);obtain⟨x,H1,I1,r1,a,kvs,ps,ex,ea,ek,h3,q⟩:=zz;subst ex;obtain rfl:v=Value.ref a:=r1;obtain⟨h1,h2⟩:=MJ (T:="dict") (x:=.ref a) I1 rfl (.inr (.inr (.inl ⟨rfl,.inl ⟨_,ea⟩⟩)));refine⟨"dict","dict.items",PySem.F.plainAttrs_dict,jI,PySem.F.type_dict_items,h1,h2,jS rfl (PySem.evalArgs_none ?_)⟩;obtain⟨hz,hS,vs,rk,hD⟩:=I1.mK a _ ea;refine call_meetsIn jI h1 PySem.F.entry_dict_items (PySem.F.args_dict_items_1 _) (meets_dict_items (rA X.prog X.w) a hS) ⟨⟨vs,hD⟩,?_⟩;refine iw ?_;obtain⟨ep,ZP⟩:=hD.dictAt;subst ek;obtain⟨g1,g2⟩:=IP rk;refine GL (ps:=ps) (s:={s1 with heap:=s1.heap.push {cls:=.type "dict_items",data:=.fields #[.ref a]}}) (I1.ok.hd hc) ⟨_,dA _ rfl,rfl,rfl⟩ (ZP.push _) h3 g1 g2 λh' tk S ws e k hrS YZ hl hw=>?_;have k':∀b o,s1.heap.get? b=Fa o->h'.get? b=Fa o:=λb o z=>k b o (cU _ z);have Zv:(tj ps).length=ws.length:=by rw[DX h3,hl]
 let H2:Hp:=λb=>if b=S then Fa (.lst (ws.map V.ref))else match (ws.zip (tj ps)).lookup b with
  | some p=>Fa (.tup [.str p.1,.int p.2])
  | none=>H1 b
 have at1:∀b p,(ws.zip (tj ps)).lookup b=Fa p->s1.heap.objs.size<b/\b≠S/\Pr h' b p:=λb p z=>by
  have:(b,p)∈ws.zip (tj ps):=by
   have go:∀l:T0 (Uf×(Str×Int)),l.lookup b=Fa p->(b,p)∈l:=λl=>by
    induction l with
    | nil=>intro z;cases z
    | cons c r ih=>
     intro z;rw[eh]at z;cases q:b==c.1 with
     | true=>
      rw[q]at z;have hb:b=c.1:=by simpa using q
      have:c=(b,p):=mh hb.symm (cY z);rw[this];exact dD
     | false=>rw[q]at z;exact dw _ (ih z)
   exact go _ z
  obtain⟨j,hj⟩:=List.mem_iff_getElem?.mp this;obtain⟨e1,e2⟩:=hZ.mp hj;exact hw j b p e1 e2
 have lowS:s1.heap.objs.size<S:=hrS;have low:∀b,b<s1.heap.objs.size->H2 b=H1 b:=λb hb=>by
  show(if b=S then _ else _)=_;rw[cS (dC (ib hb lowS))];cases z:(ws.zip (tj ps)).lookup b with
  | none=>rfl
  | some p=>exact absurd (at1 b p z).1 (Nat.not_lt_of_lt hb)
 have eS:H2 S=Fa (.lst (ws.map V.ref)):=cV rfl;have fr:∀b,s1.heap.objs.size<=b->H1 b=Db:=λb hb=>I1.mK.fresh hb;have tupAt:∀(j:Nat) (b:Uf) (p:Str×Int),ws[j]?=Fa b->(tj ps)[j]?=Fa p->H2 b=Fa (.tup [.str p.1,.int p.2]):=λj b p e1 e2=>by
  obtain⟨_,n2,n3⟩:=hw j b p e1 e2;show(if b=S then _ else _)=_;rw[cS n2];have mem:(b,p)∈ws.zip (tj ps):=e9 (hZ.mpr ⟨e1,e2⟩);cases z:(ws.zip (tj ps)).lookup b with
  | none=>
   have go:∀l:T0 (Uf×(Str×Int)),(b,p)∈l->l.lookup b≠Db:=λl=>by
    induction l with
    | nil=>intro z;cases z
    | cons c r ih=>
     intro z;rw[eh];cases q:b==c.1 with
     | true=>simp
     | false=>
      rcases cW.mp z with y|y
      .rw[<-y]at q;simp at q
      .exact ih y
   exact absurd z (go _ mem)
  | some p'=>rw[(at1 b p' z).2.2.inj n3]
 have ZQ:∀b u,s1.heap.objs.size<=b->H2 b=Fa u->tD X.prog X.w H2 h' b u/\(b=S\/∃p:Str×Int,u=.tup [.str p.1,.int p.2]):=λb u hb z=>by
  by_cases eb:b=S
  .subst eb;rw[eS]at z;cases z;refine⟨⟨by rw[cO,hl,dF];omega,ws.map Value.ref,e,?_,YZ⟩,.inl rfl⟩;have go:∀l:QXQ,qE (l.map V.ref) (l.map Value.ref):=λl=>by
    induction l with
    | nil=>exact .nil
    | cons c r ih=>exact .cons rfl ih
   exact go ws
  .have z':(match (ws.zip (tj ps)).lookup b with|some p=>Fa (HO.tup [.str p.1,.int p.2])|none=>H1 b)=Fa u:=by have:H2 b=_:=cS eb;rw[this]at z;exact z
   cases y:(ws.zip (tj ps)).lookup b with
   | none=>rw[y,fr b hb]at z';cases z'
   | some p=>rw[y]at z';cases z';obtain⟨_,_,t1,t2,e3⟩:=at1 b p y;exact⟨⟨by show 2<=Ch;rw[dF];decide,[.str p.1 t1,.int p.2 t2],.cons ⟨_,rfl⟩ (.cons ⟨_,rfl⟩ .nil),⟨_,e3,rfl,⟨_,rfl⟩,rfl⟩⟩,.inr ⟨p,rfl⟩⟩
 refine⟨.ref S,H2,I1.many (t':=tk) k' low λb u hb z=>(ZQ b u hb z).1,rfl,q S H2 ws (fr S (jr lowS)) (λb u z=>by rw[low b (I1.mK.lt z)];exact z) eS hl tupAt λb u z1 z2=>?_⟩;by_cases hb:b<s1.heap.objs.size
 .rw[low b hb,z1]at z2;cases z2
 .exact(ZQ b u (jw hb) z2).2
end L2
namespace L3
open L2
def xO(p:Str×Int):D:=.tup [.str p.1,.int p.2]
def Ta(ta:T3):T3:=λU M Q=>ta U M λx M1=>match x with
 | .ref a=>∃ps:T0 (Str×Int),zp M1 a=Fa (ps.map λp=>((Sum.inr p.1:qX),D.int p.2))/\ps.length<=3/\∀S,M1 S=Db->Q (.ref S) (pI M1 S (.lst ((tj ps).map xO)))
 | _=>False
theorem Cj{K:qw}:∀{ps:T0 (Str×Int)} {vs:T0 (qX×V)},vs.map (·.1)=(ps.map λp=>((Sum.inr p.1:qX),D.int p.2)).map (·.1)->qp K H ((ps.map λp=>((Sum.inr p.1:qX),D.int p.2)).map (·.2)) (vs.map (·.2))->vs=ps.map (λp=>((Sum.inr p.1:qX),V.int p.2))
 | [],[],_,_=>rfl
 | [],_::_,e,_=>by cases e
 | _::_,[],e,_=>by cases e
 | p::ps,(k,v)::vs,e,h=>by obtain⟨x,r,e2,h1,h2⟩:=h.inv;obtain⟨e3,e4⟩:=fD e2;obtain⟨f1,f2⟩:=fD e;subst e3 e4;have hk:k=Sum.inr p.1:=f1;have hv:v=V.int p.2:=rQ.int_inv h1;rw[Cj f2 h2,hk,hv];rfl
def E9{X:Cx}{p pos Xf Xj:Pos}(hc:X.calm=pc)(he:E3 X o ta)(hg:Gl X "sorted")(hm:X.mg "sorted"=Db) (Xp:At o "items" X.env (wp o X.env)=wp o X.env:=by rfl) (Xz:(Xf.endLine==Xj.line)=pc:=by rfl):
  E3 X (.Call (.Name "sorted" p) [.Call (.Attribute o "items" Xf) [] [] Xj] [] pos) (Ta ta):=PE.mono (Er hc he hg hm Xp Xz) λY H Q' zz=>x7 zz λU M Q hs hm ht k=>
 ⟨U,M,_,hs,hm,ht,λv H1 d M1 hd Xe e1 q1=>by
  cases d with
  | ref a=>
   cases hd.mC;obtain⟨ps,f1,f2,q⟩:=q1;obtain⟨vs,h1,h2,h3⟩:=zr Xe f1;refine⟨a,vs,ps,rfl,h1,Cj h2 h3,f2,λS H2 ws n1 kp eS hl hw hn=>?_⟩;have ex:qT X.K H1 H2:=⟨λb xs z=>by
    rcases z with(z|⟨u,z⟩)|z
    .exact .inl (.inl (kp _ _ z))
    .exact .inl (.inr ⟨u,kp _ _ z⟩)
    .exact .inr z,λb u xs z=>kp _ _ z⟩
   have hl2:(tj ps).length=ws.length:=by rw[DX f2,hl]
   have hasW:∀(l:T0 (Str×Int)) (us:QXQ),l.length=us.length->(∀(j:Nat) (a:Uf) (p:Str×Int),us[j]?=Fa a->l[j]?=Fa p->H2 a=Fa (.tup [.str p.1,.int p.2]))->qp X.K H2 (l.map xO) (us.map V.ref):=λl=>by
    induction l with
    | nil=>intro us e _;cases us with
     | nil=>exact .nil
     | cons _ _=>cases e
    | cons c r ih=>intro us e hu;cases us with
     | nil=>cases e
     | cons b us=>exact .cons (.tup (.of (hu 0 b c rfl rfl)) (.cons .str (.cons .int .nil))) (ih us (by simpa using e) λj a p e1 e2=>hu (j+1) a p e1 e2)
   refine k _ _ _ _ .ref (λb c z=>?_) (e1.trans ex) (q S (Xe.fresh n1));by_cases eb:b=S
   .subst eb;rw[pR]at z;cases z;exact⟨_,eS,hasW _ _ hl2 hw⟩
   .rw[um eb]at z;have ok:=Xe b c z;obtain⟨u,eu,_⟩:=ok.there;exact ok.keep ex (by rw[eu,kp _ _ eu])
  | _=>exact q1.elim⟩
variable {X:Cx}{pos:Pos}{a b o i:zn}{ta tb ti to:T3}
def T7(to ti:T3):DD:=λd U M Q=>to U M λx M1=>ti U M1 λy M2=>match x,y with
 | .ref p,.int k=>(oX M2 p).elim False λes=>(Gn es.length k).elim False λj=>Q U (pI M2 p (.lst (es.set j d)))
 | _,_=>False
theorem qp.set{K:qw}(hv:rQ K H d v):∀{ds:T0 D} {xs:T0 V} (j:Nat),qp K H ds xs->qp K H (ds.set j d) (xs.set j v)
 | [],_,j,h=>by rw[h.nil_inv];simp only[List.set_nil];exact .nil
 | e::ds,_,0,h=>by obtain⟨x,r,rfl,h1,h2⟩:=h.inv;exact .cons hv h2
 | e::ds,_,j+1,h=>by obtain⟨x,r,rfl,h1,h2⟩:=h.inv;exact .cons h1 (qp.set hv j h2)
def Rj(ho:E3 X o to)(hi:E3 X i ti) (ha:∀v,assign (.Subscript o i pos) X.env v=(do
   let ov<-xz [v] (wp o X.env);let iv<-xz [v,ov] (wp i X.env)
   XXb pos
   xz [v,ov,iv] (setItem ov iv v)
   release [v,ov,iv] []):=by intro _;rfl):G3 X (.Subscript o i pos) (T7 to ti):=
 PG.mono (SS ho hi LF ha) λv Y H Q' ⟨d,U,M,Q,hd,hs,hm,ht,k⟩=>
 ⟨U,M,_,hs,hm,ht,λvx H1 x M1 hx Xe e1 q1=>⟨U,M1,_,hs.mono e1,Xe,q1,λvy H2 y M2 hy Xv e2 q2=>by
  cases x with
  | ref p=>
   cases y with
   | int j0=>obtain⟨es,f1,q2⟩:=rg q2;obtain⟨j,f2,q2⟩:=rg q2;cases(hx.mono e2).mC;cases hy.int_inv;obtain⟨xs,h1,h2⟩:=FM Xv f1;refine⟨p,xs,j0,j,rfl,rfl,h1,by rw[<-h2.length];exact f2,?_⟩;have hd2:=hd.mono (e1.trans e2);obtain⟨Yb,e3⟩:=Xv.put (o:=.lst (xs.set j v)) (c:=.lst (es.set j d)) (pY f1) λex=>⟨_,ql,(h2.mono ex).set (hd2.mono ex) j⟩;exact k Y _ U _ (hs.mono (e1.trans (e2.trans e3))) Yb (e1.trans (e2.trans e3)) rfl q2
   | _=>exact q2.elim
  | _=>exact q2.elim⟩⟩
end L3
namespace L2
variable {prog:Pg}{w:Wo}{A:Ar}{E:QQX}{s:Sd}{X:Cx}
end L2
namespace L3
open L2
variable {X:Cx}{pos Xf p:Pos}{a b o e i value:zn}{es:T0 zn}{ta tb ti to tv td tk:T3}{t:xQ}
def Sw(x y:D)(M:Mp)(Q:DK):Prop:=match x,y with
 | .ref a,.int k=>(oX M a).elim False λes=>(0<=k/\k<=1000/\es.length<=1000)/\∀p,M p=Db->Q (.ref p) (pI M p (.lst (List.replicate k.toNat es).flatten))
 | _,_=>False
theorem JR{K:qw}(h:qp K H ds xs):∀n:Nat,qp K H (List.replicate n ds).flatten (List.replicate n xs).flatten
 | 0=>.nil
 | n+1=>by rw[eB,eB,fK,fK];exact h.append (JR h n)
def SA:xy X (wP .Mult) (R3 X.K Sw):=λXc s Y H vx vy v u Q' I rx ry h=>by
 obtain⟨x,y,M,Q,hx,hy,hm,q,k⟩:=h;unfold Sw at q;split at q
 .obtain⟨es,e1,⟨q1,q2,q3⟩,q⟩:=rg q;cases hx.mC;cases hy.int_inv;obtain⟨xs,h1,h2⟩:=FM hm e1;have hz:=dF;have hl:=h2.length;refine SL Xc s Y H _ _ v u Q' I rx ry ⟨_,_,xs,rfl,rfl,h1,by omega,by omega,?_,λpp hp=>?_⟩
  .exact dR (jY (show xs.length<=1000 by omega) (show Int.toNat _<=1000 by omega)) (by rw[hz];decide)
  .exact k _ _ _ _ .ref (hm.new (c:=.lst _) hp ⟨_,ql,(JR h2 _).mono (.new hp)⟩) (.new hp) (q pp (hm.fresh hp))
 .exact q.elim
def UR(ta tb:T3):T3:=λU M Q=>ta U M λx M1=>tb U M1 λy M2=>Sw x y M2 Q
def Cb(ha:E3 X a ta)(hb:E3 X b tb):E3 X (.BinOp a .Mult b pos) (UR ta tb):=PE.mono (QP SA ha hb) HJ
def BO(kvs:T0 (qX×D))(k:qX)(v:D):T0 (qX×D):=if (kvs.any λkv=>decide (kv.1=k))=pc then kvs.map (λkv=>if kv.1=k then(kv.1,v)else kv)else kvs++[(k,v)]
theorem GS{κ α β:Type}{k:κ}[DecidableEq κ]:∀{xs:T0 (κ×α)} {ys:T0 (κ×β)},xs.map (·.1)=ys.map (·.1)->(xs.any λkv=>decide (kv.1=k))=ys.any λkv=>decide (kv.1=k)
 | [],[],_=>rfl
 | [],_::_,e=>by cases e
 | _::_,[],e=>by cases e
 | x::xs,y::ys,e=>by obtain⟨e1,e2⟩:=fD e;rw[fY,fY,GS e2];have e1:x.1=y.1:=e1;rw[e1]
def KI{K:qw}{k:qX}(hv:rQ K H d v){kvs:T0 (qX×D)}{vs:T0 (qX×V)}(h1:vs.map (·.1)=kvs.map (·.1))(h2:qp K H (kvs.map (·.2)) (vs.map (·.2))):
  (yP vs k v).map (·.1)=(BO kvs k d).map (·.1)/\qp K H ((BO kvs k d).map (·.2)) ((yP vs k v).map (·.2)):=by
 have go:∀{kvs:T0 (qX×D)} {vs:T0 (qX×V)},vs.map (·.1)=kvs.map (·.1)->qp K H (kvs.map (·.2)) (vs.map (·.2))->
   (vs.map (λkv=>if kv.1=k then(kv.1,v)else kv)).map (·.1)=(kvs.map (λkv=>if kv.1=k then(kv.1,d)else kv)).map (·.1)/\qp K H ((kvs.map (λkv=>if kv.1=k then(kv.1,d)else kv)).map (·.2)) ((vs.map (λkv=>if kv.1=k then(kv.1,v)else kv)).map (·.2)):=λ{kvs}=>by
  induction kvs with
  | nil=>intro vs e h;cases vs with
   | nil=>exact⟨rfl,.nil⟩
   | cons _ _=>cases e
  | cons c r ih=>intro vs e h;cases vs with
   | nil=>cases e
   | cons w ws=>
    obtain⟨e1,e2⟩:=fD e;obtain⟨x,xr,e3,g1,g2⟩:=h.inv;obtain⟨e4,e5⟩:=fD e3;subst e4 e5;obtain⟨i1,i2⟩:=ih e2 g2;have e1:w.1=c.1:=e1;by_cases hk:c.1=k
    .have w1:(if w.1=k then(w.1,v)else w)=(w.1,v):=cV (e1.trans hk);have w2:(if c.1=k then(c.1,d)else c)=(c.1,d):=cV hk;simp only[dN,w1,w2];exact⟨by rw[i1,e1],.cons hv i2⟩
    .have w1:(if w.1=k then(w.1,v)else w)=w:=cS λz=>hk (e1.symm.trans z);have w2:(if c.1=k then(c.1,d)else c)=c:=cS hk;simp only[dN,w1,w2];exact⟨by rw[i1,e1],.cons g1 i2⟩
 unfold yP BO;rw[GS (k:=k) h1];by_cases hk:(kvs.any λkv=>decide (kv.1=k))=pc
 .rw[cV hk,cV hk];exact go h1 h2
 .rw[cS hk,cS hk];exact⟨by rw[dz,dz,h1];rfl,by rw[dz,dz];exact h2.append (.cons hv .nil)⟩
def UV(td tk tv:T3):xt:=λD U M=>tv U M λv M1=>td U M1 λx M2=>tk U M2 λy M3=>match x,y with
 | .ref a,.str k=>(zp M3 a).elim False λkvs=>kvs.length<Ch/\D.nx U (pI M3 a (.dk (BO kvs (.inr k) v)))
 | _,_=>False
def yj{a:Uf}{kvs:T0 (qX×D)}(h:zp M a=Fa kvs):M a=Fa (.dk kvs):=by
 unfold zp at h;split at h
 .rename_i e;rw[e];cases h;rfl
 .cases h
def PX(hu:X.A.units+9<Y')(ho:E3 X o td)(hi:E3 X i tk)(hv:E3 X value tv)(hs:ZB value (Fa (.Subscript o i Xo)) pos.line X.env=pure lf:=by rfl):S3 X (.Assign [.Subscript o i Xo] value pos) (UV td tk tv):=
 PS.mono (Oz (by omega) ho hi hv hs) λD' Y H zz=>K2 zz λU M D hs hm ht k1 k2 k3 k4=>
 ⟨U,M,_,hs,hm,ht,λv H1 d M1 hd Xe e1 q1=>⟨U,M1,_,hs.mono e1,Xe,q1,λvx H2 x M2 hx Xv e2 q2=>⟨U,M2,_,hs.mono (e1.trans e2),Xv,q2,λvy H3 y M3 hy Yb e3 q3=>by
  split at q3
  .rename_i a0 k0;obtain⟨kvs,f1,f2,q3⟩:=rg q3;cases(hx.mono e3).mC;cases hy.str_inv;obtain⟨vs,h1,h2,h3⟩:=zr Yb f1;have hl:vs.length=kvs.length:=by have:=eE List.length h2;simpa using this
   refine⟨_,_,rfl,LU.k (k:=Sum.inr k0) h1 (by omega),?_⟩;have hd3:=hd.mono (e2.trans e3);obtain⟨hm4,e4⟩:=Yb.put (o:=.dK (yP vs (Sum.inr k0) v)) (c:=.dk (BO kvs (.inr k0) d)) (yj f1) λex=>by obtain⟨g1,g2⟩:=KI (k:=Sum.inr k0) (hd3.mono ex) h2 (h3.mono ex);exact⟨_,ql,g1,g2⟩
   exact k1 Y _ U _ (hs.mono (e1.trans (e2.trans (e3.trans e4)))) hm4 (e1.trans (e2.trans (e3.trans e4))) rfl q3
  .exact q3.elim⟩⟩⟩
variable {Xc:T0 (Uf × Obj)}{Y:St}{H:Hp}{s:Sd}{tp:Pos}{XO:T0 zn}{n:Nat}
end L3
namespace L2
open Builtin Builtin.Str
variable {prog:Pg}{w:Wo}{A:Ar}{E:QQX}{s:Sd}{X:Cx}
end L2
namespace L3
open L2 Builtin Builtin.Str
variable {X:Cx}{pos Xf:Pos}{o e:zn}{es:T0 zn}{ta:T3}{t:xQ}
@[irreducible] def SsI (X:Cx) (st:T0 sB) (t:xt):Prop:=Hh X st t
@[irreducible] def SI (X:Cx) (st:sB) (t:xt):Prop:=S3 X st t
@[irreducible] def EI (X:Cx) (e:zn) (t:T3):Prop:=E3 X e t
@[irreducible] def AI (X:Cx) (es:T0 zn) (t:xQ):Prop:=A3 X es t
variable {prog:Pg}{w:Wo}{A:Ar}{E:QQX}{s:Sd}{Xc:T0 (Uf × Obj)}{Y:St}{H:Hp}{p tp:Pos}{XO:T0 zn}{n:Nat}
theorem yl{g:DD}{tt:AA}{te:T3}{ok:Mp->Prop}{Q:DK}(all:T0 D)(J:T0 D->T0 D->vv->Mp->Prop)(mK:∀p acc U M,J p acc U M->ok M):∀(ds pre acc:T0 D) (U:vv) (M:Mp),pre++ds=all->acc.length+ds.length<=Ch->J pre acc U M->
  (∀pre d post,pre++d::post=all->∀acc U M,J pre acc U M->∀(k:vv->DK) (k2:vv->Mp->Prop),(∀δ2 y M4,J (pre++[d]) (acc++[y]) δ2 M4->k δ2 y M4)->(∀δ2 M3,J (pre++[d]) acc δ2 M3->k2 δ2 M3)->g d U M λδ2 M2=>tt δ2 M2 λb M3=>if b=pc then te δ2 M3 (k δ2)else k2 δ2 M3)->
  (∀acc U M,J all acc U M->∀p,M p=Db->Q (.ref p) (pI M p (.lst acc)))->vj g tt te ok Q ds acc U M
 | [],pre,acc,U,M,e,hl,j,_,hq=>⟨by simpa using hl,hq acc U M (by rw[<-e,eJ];exact j)⟩
 | d::r,pre,acc,U,M,e,hl,j,ht,hq=>by rw[dU]at hl;refine⟨by omega,?_⟩;refine ht pre d r e acc U M j (λδ2 y M4=>ok M4/\vj g tt te ok Q r (acc++[y]) δ2 M4) (λδ2 M3=>ok M3/\vj g tt te ok Q r acc δ2 M3) (λδ2 y M4 j'=>⟨mK _ _ _ _ j',yl all J mK r (pre++[d]) (acc++[y]) δ2 M4 (by rw[<-e,eU];rfl) ?_ j' ht hq⟩) λδ2 M3 j'=>⟨mK _ _ _ _ j',yl all J mK r (pre++[d]) acc δ2 M3 (by rw[<-e,eU];rfl) (by omega) j' ht hq⟩;rw[cR,dG];omega
end L3
namespace L2
def Cx.nR(X:Cx)(E:QQX):Cx:={X with xe:=E}
def Inv.nR{E:QQX}{Xc:QQY}(I:Inv X Xc Y H s):Inv (X.nR E) Xc Y H s:=
 ⟨⟨I.ok.mod,I.ok.kind,I.ok.glob,I.ok.blt,I.ok.above,I.ok.inj,I.ok.has,I.ok.ou,I.ok.hd,I.ok.frames,I.ok.oJ,I.ok.oY,I.ok.bs,I.ok.nW,I.ok.nL,I.ok.nQ,I.ok.nj,I.ok.oi⟩,I.os,I.bare,I.base,I.loc,I.cell,I.free,I.mS,I.pin,I.mK,I.len⟩
def Inv.xeOf{X:Cx}{E:QQX}{Xc:QQY}(I:Inv (X.nR E) Xc Y H s):Inv X Xc Y H s:=
 ⟨⟨I.ok.mod,I.ok.kind,I.ok.glob,I.ok.blt,I.ok.above,I.ok.inj,I.ok.has,I.ok.ou,I.ok.hd,I.ok.frames,I.ok.oJ,I.ok.oY,I.ok.bs,I.ok.nW,I.ok.nL,I.ok.nQ,I.ok.nj,I.ok.oi⟩,I.os,I.bare,I.base,I.loc,I.cell,I.free,I.mS,I.pin,I.mK,I.len⟩
end L2
namespace L3
open L2
end L3
namespace L2
end L2
namespace L3
open L2
variable {X:Cx}{pos p tp kpos:Pos}{XO:T0 zn}{n:Nat}
end L3
namespace L2
variable {prog:Pg}{w:Wo}{A:Ar}{E:QQX}{s:Sd}{a:Uf}{U:Type}{k:Str}{tk:Tok}
section
variable {R:U→Vl→Prop}{D:T0 (Str × U)}
end
end L2
namespace L3
open L2
variable {X:Cx}{pos p:Pos}{x:Str}{d:D}{e o i:zn}{ta tb td tk:T3}{F:T0 (Str × QQQ)}
end L3
namespace L2
def NA(h:No)(e:Uf)(cls:Vl)(dx tb:Option Uf)(F:Vl):Prop:=
 ∃oe vs,h.get? e=Fa oe/\oe.cls=cls/\oe.dict=dx/\oe.data=.fields vs/\1<vs.size/\vs[1]?=Fa (tb.elim Value.none Value.ref)/\∀T,tb=Fa T->T≠e/\∃oT ts,h.get? T=Fa oT/\oT.data=.fields ts/\3<ts.size/\ts[3]?=Fa F
def QB(h:No)(e:Uf)(cls:Vl)(dx tb:Option Uf):Prop:=NA h e cls dx tb Value.none
theorem BY{h base:No}:∀{l:T0 Env} {b:Uf},h.FunFrames base l->b∈wq l->∃o,h.get? b=Fa o/\∀vs,o.data≠.fields vs
 | [],b,_,hb=>by cases hb
 | env::r,b,hF,hb=>by
  obtain⟨_,⟨L,o,hL,_,ho,hd⟩,hr⟩:=hF;have e:wq (env::r)=L::wq r:=by unfold wq;rw[fU,hL]
  rw[e]at hb;rcases cW.mp hb with z|z
  .rw[z];exact⟨o,ho,hd⟩
  .exact BY hr z
def DU{h base:No}{l:T0 Env}{b:Uf}{o:Obj}{vs:Array Vl}(hF:h.FunFrames base l)(ho:h.get? b=Fa o)(hd:o.data=.fields vs):b∉wq l:=λhb=>by obtain⟨o',XW,hn⟩:=BY hF hb;rw[ho]at XW;cases XW;exact hn vs hd
variable {M:Model}{A:Ar}{s:Sd}{base:No}{env:Env}{outer:T0 Env}{L e:Uf}{cls:Vl}{dx:Option Uf}{Q:Unit→Sd→Prop}
section
variable {E:QQX}
def OX{Yw:Vl}{Zy:Bool}{oe:Obj}{vs:Array Vl}{XX:Env}(hcf:XX.frame=Fa L)(Zg:A.frames=Fa (env::outer))(hF:s.heap.FunFrames base (env::outer))(hL:env.frame=Fa L)(ho:s.heap.get? e=Fa oe)(hd:oe.data=.fields vs)(h1:1<vs.size) (k:∀(h':No) (T:Uf),s.heap.get? T=Db->(∀b o,s.heap.get? b=Fa o->b∉wq (env::outer)->b≠e->h'.get? b=Fa o)->(∀b o,s.heap.get? b=Fa o->b∈wq (env::outer)->∃sl,h'.get? b=Fa {o with slots:=sl})->
   (∃oe',h'.get? e=Fa oe'/\oe'.cls=oe.cls/\oe'.dict=oe.dict/\oe'.data=.fields (vs.setIfInBounds 1 (.ref T)))->(∃oT ts,h'.get? T=Fa oT/\oT.data=.fields ts/\3<ts.size/\ts[3]?=Fa (X' ↑L))->Q () {s with heap:=h'}):
  pi M A (do
   let a<-PySem.frameOf XX;let pl<-entryPlaceOf L Zy;let b<-EntryCells.newEntry Yw a Value.none (X' ↑L) Value.none pl
   setField (Value.ref e) 1 b) Q E s:=by
 have ne:=DU hF ho hd;unfold PySem.frameOf;refine cP (cP (wpAny_frameEnvs Zg (cP ?_)));have ed:List.dropWhile (λx=>x.frame != XX.frame) (env::outer)=env::outer:=by rw[List.dropWhile_cons,cS (by rw[hL,hcf];simp)]
 rw[ed];unfold frameObject;refine cP (wpAny_readyFrames_fun hF λXY hs=>?_);obtain⟨z1,z2,z3⟩:=hs;rw[hL];refine cZ (cZ ?_);refine cP (wpAny_entryPlaceOf λpl hp=>?_);refine cP ?_;unfold EntryCells.newEntry newFields;have Xi:([Yw,Value.ref L,Value.none,X' ↑L,Value.none]++if pl.isEmpty=pc then List.replicate 6 Value.none else pl).length=11:=by rw[cR];rcases hp with rfl|⟨_,_,_,_,_,_,_,rfl⟩<;>rfl
 have hfl:([Yw,Value.ref L,Value.none,X' ↑L,Value.none]++if pl.isEmpty=pc then List.replicate 6 Value.none else pl)[3]?=Fa (X' ↑L):=rfl;generalize ([Yw,Value.ref L,Value.none,X' ↑L,Value.none]++if pl.isEmpty=pc then List.replicate 6 Value.none else pl)=fs at Xi hfl ⊢;refine fQ ?_ (by
  show fs.toArray.size<=_;rw[de,Xi];decide)
 have e1:XY.get? e=Fa oe:=by rw[z2 e ne];exact ho
 have e2:(XY.push {cls:=.type "traceback",data:=.fields fs.toArray}).get? e=Fa oe:=cU _ e1;refine gS e2 hd h1 ?_;have tn:s.heap.get? XY.objs.size=Db:=gB (by rw[z1];exact c9 _);have te:XY.objs.size≠e:=λz=>by rw[z,ho]at tn;cases tn
 obtain⟨oc,od,odt,Ya⟩:=oe;obtain rfl:odt=.fields vs:=hd;have up:∀b,e≠b->((XY.push {cls:=.type "traceback",data:=.fields fs.toArray}).update e (Obj.mapFields λx=>x.setIfInBounds 1 (.ref XY.objs.size))).get? b=(XY.push {cls:=.type "traceback",data:=.fields fs.toArray}).get? b:=λb z=>fX _ _ z;refine k _ XY.objs.size tn (λb o hb nf ne'=>?_) (λb o hb hf=>?_) ⟨_,fE _ e2 rfl,rfl,rfl,rfl⟩ ⟨_,fs.toArray,(up _ (dH te)).trans (dA _ rfl),rfl,by rw[de,Xi];decide,by rw[iF];exact hfl⟩
 .rw[up b (dH ne')];exact cU _ (by rw[z2 b nf];exact hb)
 .obtain⟨sl,q⟩:=z3 b o hb;refine⟨sl,?_⟩;rw[up b (λz=>ne (z ▸ hf))];exact cU _ q
def R7{E₁:QQX}{tb:Option Uf}{F:Vl}{XX:Env}(hcf:XX.frame=Fa L)(Zg:A.frames=Fa (env::outer))(hF:s.heap.FunFrames base (env::outer))(hL:env.frame=Fa L)(hx:NA s.heap e cls dx tb F)(hFL:(F==X' ↑L)=lf) (k:∀(h':No) (T:Uf),s.heap.get? T=Db->(∀b o,s.heap.get? b=Fa o->b∉wq (env::outer)->b≠e->tb≠Fa b->h'.get? b=Fa o)->(∀b o,s.heap.get? b=Fa o->b∈wq (env::outer)->∃sl,h'.get? b=Fa {o with slots:=sl})->
   (∀b,h'.get? b=Db->s.heap.get? b=Db)->NA h' e cls dx (Fa T) (X' ↑L)->Q () {s with heap:=h'}):pi M A (noteFrame (.ref e) XX) Q E₁ s:=by
 obtain⟨oe,vs,ho,hc,ZR,hd,h1,hv,hT⟩:=hx;have ne:=DU hF ho hd;unfold noteFrame;rw[hcf];refine cP (eX ho hd hv ?_);have Xh:∀(s1:Sd) (oe1:Obj),s1.gens=s.gens->s1.drawn=s.drawn->s1.toks=s.toks->s1.os=s.os->s1.heap.FunFrames base (env::outer)->s1.heap.get? e=Fa oe1->oe1.cls=cls->oe1.dict=dx->oe1.data=.fields vs->(∀b o,s.heap.get? b=Fa o->b∉wq (env::outer)->b≠e->tb≠Fa b->s1.heap.get? b=Fa o)->
   (∀b o,s.heap.get? b=Fa o->b∈wq (env::outer)->s1.heap.get? b=Fa o)->(∀b,s1.heap.get? b=Db↔s.heap.get? b=Db)->∀(Yw:Vl) (Zy:Bool),pi M A (do
   let a<-PySem.frameOf XX;let pl<-entryPlaceOf L Zy;let b<-EntryCells.newEntry Yw a Value.none (X' ↑L) Value.none pl
   setField (Value.ref e) 1 b) Q E₁ s1:=by
  intro s1 oe1 g1 g2 g3 g4 hF1 Z7 hc1 hdx1 hd1 kb kf kn Yw Zy;refine OX hcf Zg hF1 hL Z7 hd1 h1 λh' T tn k1 k2 ⟨oe',he',hce,hdxe,hde⟩ ⟨oT,ts,Yo,YR,h3,h3v⟩=>?_;have te:T≠e:=λz=>by rw[z,Z7]at tn;cases tn
  have:=k h' T ((kn T).mp tn) (λb o hb nf nb nt=>k1 b o (kb b o hb nf nb nt) nf nb) (λb o hb hf=>k2 b o (kf b o hb hf) hf) (λb hb=>?_) ⟨oe',vs.setIfInBounds 1 (.ref T),he',hce.trans hc1,hdxe.trans hdx1,hde,by rw[jB];exact h1,by rw[gZ h1];rfl,λT' eT=>?_⟩
  .show Q () {heap:=_,gens:=s1.gens,drawn:=s1.drawn,toks:=s1.toks,os:=s1.os};rw[g1,g2,g3,g4];exact this
  .refine(kn b).mp ?_;cases q:s1.heap.get? b with
   | none=>rfl
   | some o=>
    by_cases z:b=e
    .rw[z,he']at hb;cases hb
    .by_cases zf:b∈wq (env::outer)
     .obtain⟨sl,q2⟩:=k2 b o q zf;rw[q2]at hb;cases hb
     .rw[k1 b o q zf z]at hb;cases hb
  .cases eT;exact⟨te,oT,ts,Yo,YR,h3,h3v⟩
 cases tb with
 | none=>rw[cS (show ¬((Db:Option Uf).elim Value.none Value.ref != Value.none)=pc by decide+kernel)];exact Xh s oe rfl rfl rfl rfl hF ho hc ZR hd (λb o hb _ _ _=>hb) (λb o hb _=>hb) (λb=>.rfl) _ _
 | some T=>
  obtain⟨nTe,oT,ts,Yo,YR,h3,hn⟩:=hT T rfl;rw[cV (show((Fa T:Option Uf).elim Value.none Value.ref != Value.none)=pc by rfl)];refine cP (eX Yo YR hn ?_);rw[cS (by rw[hFL];exact dh)];refine cP (gS Yo YR h3 ?_);have up:∀b,T≠b->(s.heap.update T (Obj.mapFields λx=>x.setIfInBounds 3 .none)).get? b=s.heap.get? b:=λb z=>fX _ _ z;have nf:∀b o,s.heap.get? b=Fa o->(∀vs,o.data≠.fields vs)->T≠b:=λb o hb hn z=>by rw[<-z,Yo]at hb;cases hb;exact hn ts YR
  have sz:∀b,(s.heap.update T (Obj.mapFields λx=>x.setIfInBounds 3 .none)).get? b=Db↔s.heap.get? b=Db:=λb=>by
   by_cases z:T=b
   .rw[<-z];obtain⟨oc,od,odt,Ya⟩:=oT;obtain rfl:odt=.fields ts:=YR;rw[fE _ Yo rfl,Yo];exact⟨(λq=>by cases q),(λq=>by cases q)⟩
   .rw[up b z]
  exact Xh {s with heap:=s.heap.update T (Obj.mapFields λx=>x.setIfInBounds 3 .none)} oe rfl rfl rfl rfl (mv (λb o hb hn=>⟨o,(up b (nf b o hb hn)).trans hb,rfl⟩) hF) ((up e nTe).trans ho) hc ZR hd
   (λb o hb _ _ nt=>(up b λz=>nt (by rw[z])).trans hb) (λb o hb hf=>by
    obtain⟨o',XW,hn⟩:=BY hF hf;rw[hb]at XW;cases XW;exact(up b (nf b o hb hn)).trans hb) sz _ _
def NE{T:Uf}{F:Vl}(x:Option Uf)(hx:NA s.heap e cls dx (Fa T) F)(k:∀h':No,(∀b,T≠b->h'.get? b=s.heap.get? b)->(∀b,h'.get? b=Db↔s.heap.get? b=Db)->NA h' e cls dx (Fa T) (x.elim .none λf=>X' f)->Q () {s with heap:=h'}):pi M A (setFlight (.ref e) x) Q E s:=by
 obtain⟨oe,vs,ho,hc,ZR,hd,h1,hv,hT⟩:=hx;obtain⟨nTe,oT,ts,Yo,YR,h3,hn⟩:=hT T rfl;unfold setFlight;refine cP (eX ho hd hv ?_);rw[cV (by rfl)];refine gS Yo YR h3 ?_;obtain⟨oc,od,odt,Ya⟩:=oT;obtain rfl:odt=.fields ts:=YR;have up:∀b,T≠b->(s.heap.update T (Obj.mapFields λy=>y.setIfInBounds 3 (x.elim .none λf=>X' f))).get? b=s.heap.get? b:=λb z=>fX _ _ z;refine k _ up (λb=>?_) ⟨oe,vs,(up e nTe).trans ho,hc,ZR,hd,h1,hv,λT' eT=>?_⟩
 .by_cases z:T=b
  .rw[<-z,fE _ Yo rfl,Yo];exact⟨(λq=>by cases q),(λq=>by cases q)⟩
  .rw[up b z]
 .cases eT;exact⟨nTe,_,ts.setIfInBounds 3 (x.elim .none λf=>X' f),fE _ Yo rfl,rfl,by rw[jB];exact h3,by rw[gZ h3]⟩
def JN{E₁ E₂:QQX}{tb:Option Uf}(Zg:A.frames=Fa (env::outer))(hF:s.heap.FunFrames base (env::outer))(hL:env.frame=Fa L)(hx:QB s.heap e cls dx tb) (k:∀(h':No) (T:Uf),s.heap.get? T=Db->(∀b o,s.heap.get? b=Fa o->b∉wq (env::outer)->b≠e->tb≠Fa b->h'.get? b=Fa o)->(∀b o,s.heap.get? b=Fa o->b∈wq (env::outer)->∃sl,h'.get? b=Fa {o with slots:=sl})->
   QB h' e cls dx (Fa T)->Q () {s with heap:=h'}):pi M A (noteFrame (.ref e) env) (λ_ s₂=>pi M A (setFlight (.ref e) Db) Q E₂ s₂) E₁ s:=by
 refine R7 hL Zg hF hL hx (dE.mpr λz=>by have:=eW.mp z;cases this) λh' T tn k1 k2 _ x'=>?_;refine NE Db x' λh2 up _ x2=>k h2 T tn (λb o hb nf nb nt=>?_) (λb o hb hf=>?_) x2
 .have tb:T≠b:=λz=>by rw[z,hb]at tn;cases tn
  exact(up b tb).trans (k1 b o hb nf nb nt)
 .have tb:T≠b:=λz=>by rw[z,hb]at tn;cases tn
  obtain⟨sl,q⟩:=k2 b o hb hf;exact⟨sl,(up b tb).trans q⟩
def Oy{tb:Option Uf}(Zg:A.frames=Fa (env::outer))(hF:s.heap.FunFrames base (env::outer))(hL:env.frame=Fa L)(hx:QB s.heap e cls dx tb) (k:∀(h':No) (T:Uf),s.heap.get? T=Db->(∀b o,s.heap.get? b=Fa o->b∉wq (env::outer)->b≠e->tb≠Fa b->h'.get? b=Fa o)->(∀b o,s.heap.get? b=Fa o->b∈wq (env::outer)->∃sl,h'.get? b=Fa {o with slots:=sl})->
   QB h' e cls dx (Fa T)->Q () {s with heap:=h'}):pi M A (leaving env (.ref e)) Q E s:=cP (JN Zg hF hL hx k)
end
def CM(P:Pg)(w:Wo):K3:=λouter H s E ev s'=>Hi λe C dx H' tb=>ev=.ref e/\E (.ref C) dx H'/\s'.os=s.os/\XXk s'.gens/\Un (wq outer) [] H H' s.heap s'.heap/\yx P w H' s'.heap/\
 QB s'.heap e (.ref C) dx (Fa tb)/\s.heap.get? e=Db/\s.heap.get? tb=Db/\H' e=Db/\H' tb=Db
def yg{o:HO}(x:tD P w H h a o):∃ob,h.get? a=Fa ob:=by
 cases o with
 | lst xs=>obtain⟨_,_,_,_,e⟩:=x;exact⟨_,e⟩
 | tup xs=>obtain⟨_,_,_,o,e,_⟩:=x;exact⟨_,e⟩
 | dK kvs=>obtain⟨_,_,_,_,o,_,_,e,_⟩:=x;exact⟨_,e⟩
 | dT kvs=>obtain⟨_,_,_,_,o,_,_,e,_⟩:=x;exact⟨_,e⟩
 | set S n=>obtain⟨o,_,_,_,e,_⟩:=x;exact⟨_,e⟩
 | ins C dx fs=>obtain⟨_,_,_,e,_⟩:=x;exact⟨_,e⟩
 | own y=>exact x
 | xd fs=>obtain⟨_,⟨_,_,_,e,_⟩,_⟩:=x;exact⟨_,e⟩
 | rng lo hi=>obtain⟨_,_,_,e⟩:=x;exact⟨_,e⟩
 | frz ob u=>obtain⟨e,_⟩:=x;exact⟨_,e⟩
 | tbl ps=>exact⟨_,x⟩
 | met f y=>exact⟨_,x⟩
 | ext φ=>obtain⟨_,e,_⟩:=x;exact e
def zB{T:Uf}(mK:yx P w H h)(tn:h.get? T=Db):H T=Db:=by
 cases z:H T with
 | none=>rfl
 | some o=>obtain⟨ob,hob⟩:=yg (mK T o z);rw[hob]at tn;cases tn
variable {P:Pg}{w:Wo}{K:qw}{mg:QQZ}{N:QQQ}{qual:Str}{scope:XXc}{f:Uf}{cd:Vl}{s0:Sd}{H0:Hp}
section
variable {E:XK}
def F1(u:Un fs ex H H' h h')(hex:ex=[]){b:Uf}(hb:h'.get? b=Db):h.get? b=Db:=by
 cases q:h.get? b with
 | none=>rfl
 | some o=>obtain⟨o',e⟩:=u.there b o q (by rw[hex];simp);rw[e]at hb;cases hb
def NF{Xc:QQY}{e C T:Uf}{tb dx:Option Uf}{h':No}(I:Inv (vC (CM P w) P w K mg base N qual scope f cd A outer s0 H0 E) Xc Y H s)(he:s0.heap.get? e=Db)(XI:∀T,tb=Fa T->s0.heap.get? T=Db/\H T=Db)(hn:H e=Db)(q:E (.ref C) dx H)(hT:s0.heap.get? T=Db/\H T=Db) (k1:∀b o,s.heap.get? b=Fa o->b∉wq (sK qual scope s0.heap.objs.size f cd::outer)->b≠e->tb≠Fa b->h'.get? b=Fa o) (k2:∀b o,s.heap.get? b=Fa o->b∈wq (sK qual scope s0.heap.objs.size f cd::outer)->∃sl,h'.get? b=Fa {o with slots:=sl}) (x':QB h' e (.ref C) dx (Fa T)):
  CM P w outer H0 s0 E (.ref e) {s with heap:=h'}:=by
 have X0:=I.nB;have Xs:∀b o,H b=Fa o->∀u,s.heap.get? b=Fa u->h'.get? b=Fa u:=λb o hb u hu=>k1 b u hu (λz=>by rw[X0 b z]at hb;cases hb) (λz=>by rw[z,hn]at hb;cases hb) (λz=>by rw[(XI b z).2]at hb;cases hb);have oldf:∀b o,s0.heap.get? b=Fa o->b∉wq [sK qual scope s0.heap.objs.size f cd]:=λb o hb z=>by
  have:b=s0.heap.objs.size:=by have hz:b∈[s0.heap.objs.size]:=z;exact cX.mp hz
  rw[this]at hb;exact absurd (dg hb) (eQ _)
 have fr:∀b,b∈wq (sK qual scope s0.heap.objs.size f cd::outer)->b∈wq [sK qual scope s0.heap.objs.size f cd]\/b∈wq outer:=λb hb=>by
  have hb:b∈s0.heap.objs.size::wq outer:=hb;rcases cW.mp hb with z|z
  .exact .inl (by rw[z];exact dD)
  .exact .inr z
 have XD:Un (wq outer) [] H0 H s0.heap s.heap:=I.base;refine⟨e,C,dx,H,T,rfl,q,I.os,I.bare,⟨λb o hb h0 nf ne=>?_,λb o hb h0 hf ne=>?_,XD.free,λb o hb ne=>?_,XD.ny,XD.nu,XD.nC⟩,λb o hb=>?_,x',he,hT.1,hn,hT.2⟩
 .have hs:=XD.keep b o hb h0 nf ne;refine k1 b o hs (λz=>?_) (λz=>by rw[z,he]at hb;cases hb) λz=>by rw[(XI b z).1]at hb;cases hb
  rcases fr b z with z|z
  .exact oldf b o hb z
  .exact nf z
 .obtain⟨sl,hs⟩:=XD.slot b o hb h0 hf ne;have:b∈wq (sK qual scope s0.heap.objs.size f cd::outer):=dw _ hf;obtain⟨YE,h2⟩:=k2 b _ hs this;exact⟨YE,h2⟩
 .obtain⟨o',hs⟩:=XD.there b o hb ne;by_cases z:b∈wq (sK qual scope s0.heap.objs.size f cd::outer)
  .obtain⟨sl,h2⟩:=k2 b o' hs z;exact⟨_,h2⟩
  .exact⟨o',k1 b o' hs z (λz=>by rw[z,he]at hb;cases hb) λz=>by rw[(XI b z).1]at hb;cases hb⟩
 .refine(I.mK b o hb).ng (λb' u X7 hu=>?_) (λ_ q=>q) λ_ _ q=>q;rcases X7 with z|z
  .subst z;exact Xs b' o hb u hu
  .exact Xs b' _ z u hu
def UX{Xc:QQY}{e C:Uf}{tb dx:Option Uf}(I:Inv (vC (CM P w) P w K mg base N qual scope f cd A outer s0 H0 E) Xc Y H s)(hx:QB s.heap e (.ref C) dx tb)(he:s0.heap.get? e=Db)(hT:∀T,tb=Fa T->s0.heap.get? T=Db/\H T=Db)(hn:H e=Db)(q:E (.ref C) dx H):
  (vC (CM P w) P w K mg base N qual scope f cd A outer s0 H0 E).xe (.ref e) s:=
 Oy (base:=base) (outer:=outer) I.ok.frames I.stack rfl hx λh' T tn k1 k2 x'=>NF I he hT hn q ⟨F1 (show Un (wq outer) [] H0 H s0.heap s.heap from I.base) rfl tn,zB I.mK tn⟩ k1 k2 x'
end
section
variable {E:XK}
end
def QA(d:Uf)(f:Str)(v:V)(h:No):Prop:=∃u,h.Ns1 d (λy=>if y=f then Fa u else Db)/\qQ v u
end L2
namespace L3
open L2
abbrev XR:=Uf->Option (Str×D)->Mp->Prop
abbrev GI:=T0 D->Mp->DK->XR->Prop
def Tr(K:qw)(H:Hp)(dx:Option Uf)(y:Option (Str×D)):Prop:=(dx=Db/\y=Db)\/CS λd f z v=>dx=Fa d/\y=Fa (f,z)/\H d=Fa (.ext (QA d f v))/\rQ K H z v
def Ui(K:qw)(R:XR)(E:XK):Prop:=∀C dx H M y,HM K H M->Tr K H dx y->R C y M->E (.ref C) dx H
def We(K:qw)(sp:GI):Sp:=λvs H Q' E=>CS λds M Q R=>qp K H ds vs/\HM K H M/\sp ds M Q R/\Up K H Q' Q/\Ui K R E
abbrev SJ(P:Pg)(w:Wo)(K:qw)(mg:QQZ)(base:No)(k:Nat)(f:Uf)(fd:Rs)(ps:QQQ)(sp:GI):Prop:=xp P w K mg base (CM P w) k f fd ps (We K sp)
variable {X:Cx}{x:Str}{p pos np Xj:Pos}{e:zn}{es:T0 zn}{t:xQ}{k:Nat}{f C:Uf}{fd:Rs}{ps:QQQ}{sp:GI}{R:XR}{E:XK}{P:Pg}{w:Wo}{K:qw}{mg:QQZ}{base:No}{N:QQQ}{qual:Str}{scope:XXc}{cd:Vl}{A:Ar}{outer:T0 Env}{s0:Sd}{H0:Hp}{ta:xQ}
def Tv{st:sB}{sp:GI}(F:Pl K x qual st f fd)(S:tJ N ps (qe st))(len:∀ds M Q R,sp ds M Q R->ds.length=ps.length) (Xy:∀(Xl:Vl) (A:Ar) (outer:T0 Env) (s:Sd) (H:Hp) (E:XK) (R:XR),sd k (A.deeper (sK qual (qe st) s.heap.objs.size f Xl))->Ui K R E->
   ∃t,Hh (vC (CM P w) P w K mg base N qual (qe st) f Xl A outer s H E) (rT st) t/\∀ds M Q,sp ds M Q R->t {nx:=λ_ M'=>∃Xg,qr Xg M'/\Q .mG Xg,rt:=λd M'=>∃Xg,qr Xg M'/\Q d Xg} (wX N ds) M):SJ P w K mg base (k+1) f fd ps sp:=by
 obtain⟨oc,od,kV,XT,pm,an,Xl,ct,Ya,rfl,lk,Yq⟩:=F.ex;refine L6 lk Yq S (λvs H Q E h=>?_) λA outer s H vs Q' E hr h=>?_
 .obtain⟨ds,M,Q,R,hd,_,hs,_⟩:=h;rw[<-hd.length];exact len ds M Q R hs
 .obtain⟨ds,M,Q,R,hd,hm,hs,k,hR⟩:=h;obtain⟨t,ht,hb⟩:=Xy Xl A outer s H E R hr hR;exact⟨_,ht,wX N ds,M,_,D3 hd,hm,hb ds M Q hs,λσ' H' δ' M' _ x2 x3 _ ⟨Xg,y1,y2⟩=>k .mG H' .mG Xg .mG (x2.sub y1) x3 y2,λv H' d M' x1 x2 x3 ⟨Xg,y1,y2⟩=>k v H' d Xg x1 (x2.sub y1) x3 y2,λ_ _ _ _ _ _ _ _ z=>z,λ_ _ _ _ _ _ _ _ z=>z⟩
end L3
namespace L2
def TKept(H H':Hp):Prop:=(∀b xs,H b=Fa (.tup xs)->H' b=Fa (.tup xs))/\∀b o u,H b=Fa (.frz o u)->H' b=Fa (.frz o u)
def Wu(X:Cx)(Xc:QQY)(Y:St)(J:Hp->Prop)(E:XK)(ev:Vl)(s':Sd):Prop:=CA λH s=>J H/\Inv X Xc Y H s/\CM X.prog X.w X.stack H s E ev s'
def Uj(X:Cx)(Xc:QQY)(Y:St)(J:Hp->Prop)(E:XK)(ev:Vl)(s':Sd):Prop:=Sk λa C dx H' tb H1 s1=>ev=.ref a/\E (.ref C) dx H'/\Inv X Xc Y H' s'/\QB s'.heap a (.ref C) dx (Fa tb)/\H' a=Db/\H' tb=Db/\J H1/\TKept H1 H'/\Inv X Xc Y H1 s1/\s1.heap.get? a=Db
def S8{M:Model}{E₁ E₂:QQX}{Xc:QQY}{E:XK}{outer:T0 Env}{L:Uf}(h:Wu X Xc Y J E ev s')(XA:X.stack=X.env::outer)(hL:X.env.frame=Fa L):
  pi M X.A (noteFrame ev X.env) (λ_ s₂=>pi M X.A (setFlight ev Db) (λ_ s₃=>Uj X Xc Y J E ev s₃) E₂ s₂) E₁ s':=by
 obtain⟨H,s,jH,I,e,C,dx,H',tb,rfl,q,os,bare,un,mK,x,he,ht,ne,nt⟩:=h;obtain⟨hh,g,d,t,Z1⟩:=s';obtain rfl:Z1=s.os:=os;have I':=I.call (h':=hh) (g':=g) (d':=d) (t':=t) (ch:=[]) un mK bare (λb z=>absurd z (by simp));have hF:=I'.stack;have X0:=I'.nB;have Zg:=I.ok.frames;rw[XA]at hF Zg;refine JN (base:=X.base) (outer:=outer) Zg hF hL x λh' T tn k1 k2 x'=>?_;have Xs:∀b o,H' b=Fa o->∀u,hh.get? b=Fa u->h'.get? b=Fa u:=λb o hb u hu=>k1 b u hu (λz=>by rw[X0 b (by rw[XA];exact z)]at hb;cases hb) (λz=>by rw[z,ne]at hb;cases hb) (λz=>by cases z;rw[nt]at hb;cases hb);have un':Un (wq X.stack) [] H H' s.heap h':=by
  refine⟨λb o hb h0 nf nx=>?_,λb o hb h0 hf nx=>?_,un.free,λb o hb nx=>?_,un.ny,un.nu,un.nC⟩
  .exact k1 b o (un.keep b o hb h0 nf nx) (λz=>nf (by rw[XA];exact z)) (λz=>by rw[z,he]at hb;cases hb) λz=>by cases z;rw[ht]at hb;cases hb
  .obtain⟨sl,hs⟩:=un.slot b o hb h0 hf nx;obtain⟨YE,h2⟩:=k2 b _ hs (by rw[<-XA];exact hf);exact⟨YE,h2⟩
  .obtain⟨o',hs⟩:=un.there b o hb nx;by_cases z:b∈wq (X.env::outer)
   .obtain⟨sl,h2⟩:=k2 b o' hs z;exact⟨_,h2⟩
   .exact⟨o',k1 b o' hs z (λz=>by rw[z,he]at hb;cases hb) λz=>by cases z;rw[ht]at hb;cases hb⟩
 have Z6:yx X.prog X.w H' h':=λb o hb=>(mK b o hb).ng (λb' u X7 hu=>by
  rcases X7 with z|z
  .subst z;exact Xs b' o hb u hu
  .exact Xs b' _ z u hu) (λ_ q=>q) λ_ _ q=>q
 have I3:Inv X Xc Y H' {heap:=h',gens:=g,drawn:=d,toks:=t,os:=s.os}:=Inv.call (s:=s) (ch:=[]) I un' Z6 bare (λb z=>absurd z (by simp));refine⟨e,C,dx,H',T,H,s,rfl,q,I3,x',ne,?_,jH,⟨un.ny,un.nu⟩,I,he⟩;cases z:H' T with
 | none=>rfl
 | some o=>obtain⟨ob,hob⟩:=yg (mK T o z);have tn:hh.get? T=Db:=tn;rw[hob]at tn;cases tn
variable {X:Cx}{Xc:T0 (Uf × Obj)}{Y σ':St}{H H1:Hp}{s s1:Sd}{ev:Vl}{E':QQX}{a:Uf}
def Inv.adopt{o:HO}(I:Inv X Xc Y H s)(I1:Inv X Xc σ' H1 s1)(n1:s1.heap.get? a=Db)(hn:H a=Db)(ok:tD X.prog X.w (upd H a o) s.heap a o):Inv X Xc Y (upd H a o) s:=by
 have ne:∀b ob,s1.heap.get? b=Fa ob->b≠a:=λb ob e z=>by rw[z,n1]at e;cases e
 have nh:∀b ob,H b=Fa ob->b≠a:=λb ob e z=>by rw[z,hn]at e;cases e
 refine⟨I.ok,I.os,I.bare,⟨I.base.keep,I.base.slot,λb o' e h0 hb=>?_,I.base.there,λb xs e=>?_,λb o' u e=>?_,λb ps e=>?_⟩,I.loc,I.cell,?_,λx c e=>?_,λp hp=>?_,λb ob e=>?_,I.len⟩
 .obtain⟨o2,e2⟩:=I1.base.there b o' e hb;rw[qa (ne b o2 e2)];exact I.base.free b o' e h0 hb
 .have:=I.base.ny b xs e;rw[qa (nh b _ this)];exact this
 .have:=I.base.nu b o' u e;rw[qa (nh b _ this)];exact this
 .obtain⟨more,this⟩:=I.base.nC b ps e;exact⟨more,by rw[qa (nh b _ this)];exact this⟩
 .obtain⟨m,⟨o2,_,_,e2,_⟩,_⟩:=I1.loc;rw[qa (ne _ o2 e2)];exact I.free
 .obtain⟨v,o2,e2,_⟩:=I1.cell x c e;rw[qa (ne _ o2 e2)];exact I.mS x c e
 .obtain⟨e1,e2,e3,e4,e5⟩:=I.pin p hp;exact⟨e1,by rw[qa (ne _ _ (I1.pin p hp).1)];exact e2,e3,e4,e5⟩
 .by_cases z:b=a
  .subst z;rw[ql]at e;cases e;exact ok
  .rw[qa z]at e;exact(I.mK b ob e).ng (λ_ _ _ q=>q) (λb' q=>by rw[qa (nh b' _ q)];exact q) λb' xs q=>by rw[qa (nh b' _ q)];exact q
def Cx.marked(X:Cx)(ev:Vl)(E:QQX):Cx:={X with A:=X.A.mark (Fa ev),calm:=false,xe:=E}
def Inv.mark(I:Inv X Xc Y H s):Inv (X.marked ev E') Xc Y H s:=
 ⟨⟨I.ok.mod,I.ok.kind,I.ok.glob,I.ok.blt,I.ok.above,I.ok.inj,I.ok.has,I.ok.ou,(λz=>by cases z),I.ok.frames,I.ok.oJ,I.ok.oY,I.ok.bs,I.ok.nW,I.ok.nL,I.ok.nQ,I.ok.nj,I.ok.oi⟩,I.os,I.bare,I.base,I.loc,I.cell,I.free,I.mS,I.pin,I.mK,I.len⟩
def Inv.unmark(ok:X.Ok)(I:Inv (X.marked ev E') Xc Y H s):Inv X Xc Y H s:=⟨ok,I.os,I.bare,I.base,I.loc,I.cell,I.free,I.mS,I.pin,I.mK,I.len⟩
def SP.unmark(ok:X.Ok){D:Ez}{f:Flow}(h:SP (X.marked ev E') Xc D f s):SP X Xc D f s:=by
 cases f with
 | next=>obtain⟨a,b,I,q⟩:=h;exact⟨a,b,I.unmark ok,q⟩
 | brk=>obtain⟨a,b,I,q⟩:=h;exact⟨a,b,I.unmark ok,q⟩
 | cont=>obtain⟨a,b,I,q⟩:=h;exact⟨a,b,I.unmark ok,q⟩
 | ret v=>obtain⟨a,b,c,I,q⟩:=h;exact⟨a,b,c,I.unmark ok,q⟩
def Ho{M:Model}{h:No}{a:Uf}{o:Obj}(ho:h.get? a=Fa o):W.Looks M h (typeOf (.ref a)) o.cls:=by intro A Q E s k q;unfold typeOf;exact cP (wpAny_load (k a o ho) (cZ q))
def Gy{M:Model}{A:Ar}{E:QQX}{a C T:Uf}{Q:Unit->Sd->Prop}(x:QB s.heap a (.ref C) dx (Fa T))(h:∀h':No,(∀b,h'.get? b=s.heap.get? b)->Q () {s with heap:=h'}):pi M A (setFlight (.ref a) Db) Q E s:=by
 obtain⟨oe,vs,ho,hc,_,hd,h1,hv,hT⟩:=x;obtain⟨nTe,oT,ts,Yo,YR,h3,hn⟩:=hT T rfl;unfold setFlight;refine cP (eX ho hd hv ?_);rw[cV (by rfl)];refine gS Yo YR h3 (h _ λb=>?_);by_cases z:T=b
 .subst z;obtain⟨oc,od,odt,Ya⟩:=oT;obtain rfl:odt=.fields ts:=YR;rw[fE _ Yo rfl,Yo];show Fa (Obj.mk oc od (.fields (ts.setIfInBounds 3 .none)) Ya)=_;have:ts.setIfInBounds 3 .none=ts:=by
   apply Array.ext
   .simp
   .intro i h1 h2;rw[Array.getElem_setIfInBounds];split
    .rename_i e;subst e;rw[Array.getElem?_eq_getElem h3]at hn;exact(cY hn).symm
    .rfl
  rw[this]
 .exact fX _ _ z
def RE(X:Cx)(e:zn)(t:St->Hp->VK->(Hp->Prop)->XK->Prop):Prop:=∀(Xc:QQY) (s:Sd) (Y:St) (H:Hp) (Q:VK) (J:Hp->Prop) (E:XK),Inv X Xc Y H s->t Y H Q J E->pi (Tk X.prog X.w) X.A (wp e X.env) (EP X Xc Y Q) (Wu X Xc Y J E) s
def WG(X:Cx)(st:sB)(t:Ez->St->Hp->(Hp->Prop)->XK->Prop):Prop:=∀(Xc:QQY) (s:Sd) (Y:St) (H:Hp) (D:Ez) (J:Hp->Prop) (E:XK),Inv X Xc Y H s->t D Y H J E->pi (Tk X.prog X.w) X.A (exec st X.env) (SP X Xc D) (Wu X Xc Y J E) s
variable {k:Nat}{f C:Uf}{fd:Rs}{ps:QQQ}{sp:Sp}{X1:T0 V}{ds:T0 Vl}{m:Str}{p pos Xf:Pos}{e o:zn}{es:T0 zn}{t:TA}
section
variable {x:Str}
def Lw(F:xp X.prog X.w X.K X.mg X.base (CM X.prog X.w) k f fd ps sp)(hr:sd k X.A)(hg:Gl X x)(hm:X.mg x=Fa (.ref f))(hk:W.keepIn X.K (.ref f)=pc)(hb:uX X.K fd ps ds)(hd:qE X1 ds) (ha:PA (X.nR λ_ _=>False) (e::es) t) (Xw:zR x:=by decide) (he:Bp X e es:=by rfl) (Xt:CU X pos es:=by rfl):
  RE X (.Call (.Name x p) (e::es) [] pos) (λY H Q J E=>t Y H λvs H1=>J H1/\sp (vs++X1) H1 Q E):=by
 intro Xc s Y H Q J E I h;refine fO (xj I hg hm ?_ Xw);refine iH (h₀:=X.base) I.ok.mod.oj hk (dW (ha pos Xc s Y H _ I.nR h) (λus s1 ⟨vs,H1,I1,r,jH,q⟩=>⟨I1.ni,?_⟩) λ_ _ z=>z.elim) he Xt;have I1:=I1.xeOf;have r2:qE (vs++X1) (us++ds):=r.append hd;have hl:(us++ds).length=ps.length:=by rw[<-r2.length];exact F.len _ _ _ _ q
 refine ip (gg (F.run X.A X.stack s1 H1 ⟨us,[]⟩ (us++ds) (vs++X1) Q E hr I1.n9 (hb s1 us I1.ni hl) r2 q) λr s' hq=>?_);cases r with
 | error e=>exact⟨H1,s1,jH,I1,hq⟩
 | ok fl=>
  cases fl with
  | ret u=>exact I1.after hq
  | next=>exact False.elim hq
  | brk=>exact False.elim hq
  | cont=>exact False.elim hq
end
def OG{st b₀:sB}{X3:T0 sB}{cnp Y4 pos:Pos}{Cc L:Uf}{outer:T0 Env}{t:Ez->St->Hp->(Hp->Prop)->XK->Prop}(hb:WG X st t)(XA:X.stack=X.env::outer)(hL:X.env.frame=Fa L)(hg:Gl X cn)(hm:X.mg cn=Fa (.ref Cc))(hs:∀ev E',Co (X.marked ev E') (b₀::X3) th) (Xw:zR cn:=by decide):
  PS X (.Try [st] [.ExceptHandler (Fa (.Name cn cnp)) Db (b₀::X3) Y4] [] [] pos) (λD Y H=>∃(J:Hp->Prop) (E:XK),t D Y H J E/\∀C dx H1 H',J H1->TKept H1 H'->E (.ref C) dx H'->W.exmOne X.K (.ref C) (.ref Cc)=Fa pc/\th D Y H'):=by
 intro Xc s Y H D I ⟨J,E,h,hh⟩;refine wpAny_Try_except (dW (Q:=λf s'=>SP X Xc D f s') (js (sL (hb Xc s Y H D J E I h) λf s1 q=>?_)) (λf s1 q=>?_) λev s1 x=>?_)
 .cases f with
  | next=>exact gH q
  | brk=>exact q
  | cont=>exact q
  | ret v=>exact q
 .cases f with
  | next=>exact gH q
  | brk=>exact q
  | cont=>exact q
  | ret v=>exact q
 .refine dW (S8 x XA hL) (λ_ s2 y=>sL y λ_ s3 z=>?_) λ_ _ z=>z;obtain⟨a,C,dx,H',tb,H1,s1,rfl,q,I3,x3,na,nt,jH,tk,I1,n1⟩:=z;obtain⟨Xe,h1⟩:=hh C dx H1 H' jH tk q;refine wpAny_handleBy_cons (codeAny_handlers_test (xj (X:=X.marked (.ref a) λ_ _=>False) I3.mark hg hm ?_ Xw)) (by intro z;cases z);obtain⟨oe,vs,ho,hc,_⟩:=id x3;refine W.exm_one I3.ni (Ho ho) (by rw[hc];exact Xe) _ _ _ _ (λ_ _ z=>z) ?_;refine codeAny_handlers_suite (Gy x3 λh' hh'=>?_);have I4:Inv X Xc Y H' {s3 with heap:=h'}:=I3.kept (t':=s3.toks) λb u z=>by rw[hh' b];exact z
  refine dW (hs (.ref a) _ Xc _ Y H' D I4.mark h1) (λf s5 q5=>SP.unmark I.ok q5) λ_ _ z=>z
structure WQ(K:qw)(C:Uf):Prop where
 hd:(W.clsIn K C).isSome=pc
 ga:W.findIn K (.ref C) "__getattribute__"=Fa (Fa (.builtin "BaseException.__getattribute__"))
 gt:W.findIn K (.ref C) "__getattr__"=Fa Db
 ha:W.findIn K (.ref C) "__class__"=Fa (Fa (.builtin "object.__class__"))
 hn:W.specialIn K (.builtin "object.__class__") "__get__"=Fa (Fa (.builtin "getset_descriptor.__get__"))
 htk:W.takesIn K (.builtin "object.__class__")=Fa pc
 hm:W.mroIn K C (.type "object")=Fa pc
 hb:W.mroIn K C (.type "BaseException")=Fa pc
variable {prog:Pg}{w:Wo}{A:Ar}{E:QQX}{K:qw}{ox:Obj}
section
variable {x:Uf}
end
end L2
namespace L3
open L2
theorem _root_.L2.TKept.ext{K:qw}(h:TKept H H'):qT K H H':=⟨λa xs q=>by
 rcases q with(q|⟨u,q⟩)|q
 .exact .inl (.inl (h.1 a xs q))
 .exact .inl (.inr ⟨u,h.2 a u _ q⟩)
 .exact .inr q,λa o xs q=>h.2 a o _ q⟩
abbrev TX:=vv->Mp->DK->XR->Prop
def W2(K:qw)(t:TX):St->Hp->VK->(Hp->Prop)->XK->Prop:=λY H Q' J E=>CS λU M Q R=>zS K H Y U/\HM K H M/\t U M Q R/\(∀v H' d M',rQ K H' d v->HM K H' M'->qT K H H'->Q d M'->Q' v H')/\(∀H1,qT K H H1->J H1)/\Ui K R E
def WI(X:Cx)(e:zn)(t:TX):Prop:=RE X e (W2 X.K t)
def RE.mono{t t':St->Hp->VK->(Hp->Prop)->XK->Prop}(h:RE X e t)(m:∀Y H Q J E,t' Y H Q J E->t Y H Q J E):RE X e t':=λXc s Y H Q J E I q=>h Xc s Y H Q J E I (m Y H Q J E q)
variable {X:Cx}{x:Str}{p pos np Xj:Pos}{e:zn}{es:T0 zn}{t:xQ}{k:Nat}{f C:Uf}{fd:Rs}{ps:QQQ}{sp:GI}
def Nl(F:SJ X.prog X.w X.K X.mg X.base k f fd ps sp)(hr:sd k X.A)(hg:Gl X x)(hm:X.mg x=Fa (.ref f))(hk:W.keepIn X.K (.ref f)=pc)(hb:uX X.K fd ps [])(ha:A3 (X.nR λ_ _=>False) (e::es) t) (Xw:zR x:=by decide) (he:Bp X e es:=by rfl) (Xt:CU X pos es:=by rfl):
  WI X (.Call (.Name x p) (e::es) [] pos) (λU M Q R=>t U M λds M1=>sp ds M1 Q R):=RE.mono (Lw F hr hg hm hk hb .nil ha Xw he Xt) λY H Q' J E ⟨U,M,Q,R,hs,hm,ht,k,kJ,kR⟩=>
 ⟨U,M,_,hs,hm,ht,λvs H1 ds M1 hd Xe e1 q1=>⟨kJ H1 e1,ds,M1,Q,R,by rw[eJ];exact hd,Xe,q1,vQ e1 k,kR⟩⟩
variable {b₀:sB}{X3:T0 sB}{cn n:Str}{cnp Y4 Xf xpos:Pos}{Cc L:Uf}{outer:T0 Env}{i ix:Nat}{te:TX}{th:xt}
end L3
namespace L2
def Bu(es:Array DictEntry):Bool:=es.toList.all λe=>match e.key with|.str _ _=>pc|_=>lf
def CN{es:Array DictEntry}(h:Bu es=pc):StrKeys es:=λe he=>by
 have:=eA.mp h e (j5.mpr he);cases z:e.key with
 | str n t=>exact⟨n,t,rfl⟩
 | _=>rw[z]at this;cases this
abbrev LC:T0 Vl:=[.type "ValueError",.type "Exception",.type "BaseException",.type "object"]
def Qr{K:qw}{t:Vl}{C:Uf}{cd:ClassData}{b:Bool}(q0:W.subIn K (.ref C) (.type "BaseException")=Fa pc)(q1:W.clsIn K C=Fa cd)(q2:W.typeIn K (.ref C)=Fa (.type "type"))(s:W.subIn K t (.ref C)=Fa b):W.exmOne K t (.ref C)=Fa b:=by unfold W.exmOne;rw[q0,cV (by rfl)];unfold W.kitCls;simp only;rw[q1,q2,cV (by rfl)];exact s
end L2
namespace L3
open L2
end L3
namespace L2
theorem BM(self:Vl):∀own:QXQ,refuseLoop self "__setattr__" (own.map Value.ref++LC)=pure ()
 | []=>jC.passes self
 | c::r=>by show refuseLoop self "__setattr__" (.ref c::(r.map Value.ref++LC))=pure ();rw[refuseLoop_ref];exact BM self r
variable {prog:Pg}{w:Wo}{A:Ar}{s:Sd}{K:qw}{x C:Uf}{ox:Obj}{own:QXQ}{name:Str}{v:Vl}
section
variable {E:QQX}{cd:ClassData}
def Pk{Q:Unit->Sd->Prop}(X:K.In s.heap)(I:W.InstAt s.heap x ox C Db)(hs:W.findIn K (.ref C) "__setattr__"=Fa (Fa (.builtin "object.__setattr__")))(hc:W.clsIn K C=Fa cd)(hm:cd.mro=own.map Value.ref++LC)(ht:W.takerIn K C name=Fa Db)(hd:cd.hasDict=pc) (h:∀h' d t,(∀b o,b≠x->s.heap.get? b=Fa o->h'.get? b=Fa o)->h'.get? x=Fa {ox with dict:=some d}->s.heap.get? d=Db->d≠x->h'.Ns1 d (λy=>if y=name then Fa v else Db)->Q () {s with heap:=h',toks:=t}):pi (Tk prog w) A (setAttr (.ref x) name v) Q E s:=by
 refine W.set_plain X I hs ?_;have SF:=jC;have ne:cd.mro.isEmpty=lf:=by rw[hm];cases own<;>rfl
 have has:cd.mro.contains (.type "object")=pc:=by
  rw[hm,List.contains_eq_any_beq,lW];have:LC.any (Value.type "object"==·)=pc:=by decide+kernel
  rw[this,kO]
 have sub:W.Looks (Tk prog w) s.heap (isInstance (.ref x) (.type "object")) pc:=I.type.andThen (W.looks_mroIn X (by unfold W.mroIn;rw[hc,lO,cS (by rw[ne];decide),has]));refine iJ SF.slot.plain SF.entry (@PySem.W.check_slot (Tk prog w) _ _ {s with toks:=s.toks+1} "object.__setattr__" "object" "__setattr__" (.ref x) [.str name s.toks,v] [] _ SF.kind SF.split sub (SF.args (.ref x) (.str name s.toks) v) ?_);obtain⟨attr,ha,hr⟩:=Option.bind_eq_some_iff.mp ht;have hmro:W.Looks (Tk prog w) s.heap (mroOf (.ref C)) cd.mro:=(kl X hc).andThen .now;have L3':W.Looks (Tk prog w) s.heap (Builtin.ObjectAttr.storeTaker? attr) Db:=by
  cases attr with
  | none=>exact .now
  | some a=>
   obtain⟨b,hb,hr⟩:=jT.mp hr;refine(W.looks_takesIn X hb).andThen ?_;cases b
   .exact .now
   .cases hr
 rw[W.osa_eq,refuse_eq];refine cP (cP (I.type.here (s:={s with toks:=s.toks+1}) (cP (hmro.here (s:={s with toks:=s.toks+1}) ?_))));rw[hm,BM];refine cZ (cP (I.type.here (s:={s with toks:=s.toks+1}) (cP ((lZ X ha).here (s:={s with toks:=s.toks+1}) (cP (L3'.here (s:={s with toks:=s.toks+1}) ?_))))));obtain⟨hx,ZO,hn,ZR⟩:=I;obtain⟨oc,odi,oda,Ya⟩:=ox;dsimp only at ZO ZR;subst ZO;cases odi with
 | some _=>exact ZR.elim
 | none=>
  refine cP (cZ (cP (cP (wpAny_loadPart hx (cP (me (s:={s with toks:=s.toks+1}) (kl X hc) ?_))))));rw[hd];rw[cS (by decide)];obtain⟨hh,g,dr,tk,os⟩:=s;dsimp only at hx h ⊢;rw[cS (by simp[typeHasDict])];split
  .cases hn
  .have y1:(hh.push W.emptyDict).get? x=Fa ⟨.ref C,Db,oda,Ya⟩:=cU _ hx;have nx:x≠hh.objs.size:=λz=>eQ _ (z ▸ dg hx);refine cP (wpAny_alloc' (cP (wpAny_update' y1 (cZ ?_))));have e0:((hh.push W.emptyDict).update x λo=>{o with dict:=some hh.objs.size}).Ns hh.objs.size (λ_=>Db):=⟨W.emptyDict,#[],_,(iT _ _ _ _ nx.symm).trans (dA hh rfl),rfl,λe he=>absurd he (by simp),λ_=>rfl⟩;refine cP (cZ (cP (wpAny_nsSet1 (kW e0) λh' n1 sb=>?_)));obtain⟨oD,esD,epD,g1,g2,g3⟩:=n1.count (Within.cons name v Within.nil);refine cP (lC g1 (g2 ▸ lD (dR g3 (by rw[dF,dG];decide))) (cZ (h h' hh.objs.size _ (λb o hb z=>?_) ?_ (gB (c9 _)) nx.symm n1)))
   .exact(sb.2 b λy=>eQ _ (y ▸ dg z)).trans ((iT _ _ _ _ hb).trans (cU _ z))
   .refine(sb.2 x nx).trans (fE _ y1 ?_);have fr:=(Heap.get?_some_iff.mp hx).2;cases oda with
    | _=>first|rfl|exact fr
end
variable {nm q:Str}{bs bm YC:T0 Vl}{hdct:Bool}{sn:QQQ}{sub:T0 Vl}{ab:Bool}{col:Option Bool}{dd:Option Uf}{k0 k1 k2 k3 k5:Option Vl}{B Bn newId nid XG zK:String}{bmN:T0 Vl}{h:No}{g:Array GenState}{d:Drawn}{t:Nat}{os:OsState}
section
variable {E:QQX}{N:Uf}
abbrev Po(C t:Uf):Obj:={cls:=.ref C,data:=.fields #[.ref t,.none,.none,.none,.bool lf,.none]}
def Ba(Fn:o0 Bn newId zK bmN)(hBn:YC.contains (.type Bn)=pc)(F:o0 B nid XG YC)(T:OwnTail h YC bm){mN:QQZ}{us:T0 Vl}{fI:Uf}{oI:Obj}{Q:PySem.Fin->Sd->Prop} (hC:h.get? C=Fa (XXa nm q C N bs bm hdct sn sub ab col dd k0 k1 k2 k3 k5 newId)) (hn:h.Ns N mN) (hi:mN "__init__"=Fa (.ref fI)) (hf:h.get? fI=Fa oI) (hfc:oI.cls=.type "function") (Xi:us.length<=Ch) (hq:∀h' e,Heap.MadeExcOf h h' e (.ref C) us->pi (Tk prog w) A (call (.ref fI) (.ref e::us)) (λr s'=>r=.none/\Q (.done (.ret (.ref e))) s') E ⟨h',g,d,t,os⟩):
  pi (Tk prog w) A (Builtin.«type.__call__» ⟨.ref C::us,[]⟩) Q E ⟨h,g,d,t,os⟩:=by
 repeat (first|with_reducible refine gO hC ?_|with_reducible refine wpAny_madeBy_exc hC ?_|wp_step)
 refine codeAny_call_builtin_code (ii _ Fn.quiet) (wpAny_check_new_subU Fn hBn T hC (codeAny_exc_new_subU Fn hBn F T hC ?_ Xi));have kp:∀b o,h.get? b=Fa o->((h.push {cls:=.type "tuple",data:=.seq us.toArray}).push (Po C h.objs.size)).get? b=Fa o:=λb o z=>cU _ (cU _ z);have gE:((h.push {cls:=.type "tuple",data:=.seq us.toArray}).push (Po C h.objs.size)).get? (h.objs.size+1)=Fa (Po C h.objs.size):=by heap_get
 have hC2:=kp _ _ hC;have ZZ:((h.push {cls:=.type "tuple",data:=.seq us.toArray}).push (Po C h.objs.size)).Ns N mN:=let⟨o,es,ep,e,r⟩:=hn;⟨o,es,ep,kp _ _ e,r⟩;have cC:(Value.ref C::bm).contains (.ref C)=pc:=by rw[ik,fC,gQ]
 have T2:=T.keeps kp;show pi _ _ _ _ _ _;unfold isInstance
 repeat (first|with_reducible refine gO gE ?_|(with_reducible refine ky hC2 ?_;rw[cC])|wp_step)
 show pi _ _ (typeLookup (.ref C) _) _ _ _;refine wpAny_typeLookup_tail hC2 ZZ T2 F.mroIs F.init.lookup ?_;rw[hi];refine eM (cP ?_);unfold bindSpecial;refine cP (jv (T:="function") ⟨_,kp _ _ hf,hfc⟩ ?_);rw[cV (by decide)];refine cZ (cP (dW (hq _ (h.objs.size+1) ⟨kp,gB (gM _),h.objs.size,gE,gB (c9 _),cU _ (Heap.get?_push_at rfl rfl)⟩) (λr s' hr=>?_) λ_ _ z=>z));obtain⟨rfl,hQ⟩:=hr
 wp_walk
 exact hQ
def HD(Fn:o0 Bn newId zK bmN)(hBn:YC.contains (.type Bn)=pc)(F:o0 B nid XG YC)(T:OwnTail h YC bm){mN:QQZ}{us:T0 Vl}{fI:Uf}{oI:Obj}{Q:QQX} (hC:h.get? C=Fa (XXa nm q C N bs bm hdct sn sub ab col dd k0 k1 k2 k3 k5 newId)) (hn:h.Ns N mN) (hi:mN "__init__"=Fa (.ref fI)) (hf:h.get? fI=Fa oI) (hfc:oI.cls=.type "function") (Xi:us.length<=Ch) (hq:∀h' e,Heap.MadeExcOf h h' e (.ref C) us->pi (Tk prog w) (A.under (.builtin "type.__call__" ⟨.ref C::us,[]⟩)) (call (.ref fI) (.ref e::us)) (λr s'=>r=.none/\Q (.ref e) s') E ⟨h',g,d,t,os⟩):
  pi (Tk prog w) A (call (.ref C) us) Q E ⟨h,g,d,t,os⟩:=by
 have f1:=tc_lookup;have f2:=tc_bind (.ref C);have hT:(⟨h,g,d,t,os⟩:Sd).TypeIs (.ref C) "type":=⟨_,hC,rfl⟩;refine ip (jM ?_);show pi _ _ (callAny (.ref C) _) _ _ _
 repeat (any_goals(first|assumption|with_reducible refine gO hC ?_|wp_step))
 exact⟨rfl,codeAny_call_builtin_at (ii _ (by decide+kernel)) entry_typeCall (wpAny_check_type_call_sub hC (Ba Fn hBn F T hC hn hi hf hfc Xi hq))⟩
end
variable {M:Model}{env:Env}
section
variable {E:QQX}{N:Uf}
def Jn(h:No)(e C:Uf)(dx:Option Uf):Prop:=CA λt sl=>h.get? e=Fa ⟨.ref C,dx,.fields #[.ref t,.none,.none,.none,.bool lf,.none],sl⟩
def GD{x:Sem Vl}{Q:Flow->Sd->Prop}(Xp:bm.contains (.type "BaseException")=pc)(hh:A.handled=Db) (h:pi M A x (λv s₁=>∃e dx,v=.ref e/\s₁.heap.get? C=Fa (XXa nm q C N bs bm hdct sn sub ab col dd k0 k1 k2 k3 k5 newId)/\Jn s₁.heap e C dx/\E (.ref e) s₁) E s):
  pi M A (raiseStmt env (Fa x) Db) Q E s:=by
 have cB:(Value.ref C::bm).contains (.type "BaseException")=pc:=by rw[ik,Xp,kO]
 unfold raiseStmt;refine cP (dW h (λv s₁ ⟨e,dx,ev,hC,⟨t,sl,he⟩,hE⟩=>?_) λ_ _ z=>z);subst ev;obtain⟨hp,g,d,tk,os⟩:=s₁
 repeat (first|with_reducible refine gO he ?_|with_reducible refine gO hC ?_|(with_reducible refine ky hC ?_;rw[cB])|wp_step)
 exact wpAny_raiseNew_none hh hE
def Ga(Fn:o0 Bn newId zK bmN)(hBn:YC.contains (.type Bn)=pc)(F:o0 B nid XG YC){mN:QQZ}{fI:Uf}{x:Str}{np Xj pos:Pos}{args:T0 zn}{Q:Flow->Sd->Prop} (Xp:bm.contains (.type "BaseException")=pc) (hh:A.handled=Db) (Xu:(Ix Xj (Tl args env)).any (·.1)=lf) (hi:mN "__init__"=Fa (.ref fI)) (h:pi (Tk prog w) A (wp (.Name x np) env) (λf s₁=>f=.ref C/\pi (Tk prog w) A (evalArgs (.ref C) pc (Ix Xj (Tl args env)) []) (λa s₂=>a.kw=[]/\a.pos.length<=Ch/\s₂.heap.get? C=Fa (XXa nm q C N bs bm hdct sn sub ab col dd k0 k1 k2 k3 k5 newId)/\s₂.heap.Ns N mN/\OwnTail s₂.heap YC bm/\(∃oI,s₂.heap.get? fI=Fa oI/\oI.cls=.type "function")/\
    ∀h' e,Heap.MadeExcOf s₂.heap h' e (.ref C) a.pos->pi (Tk prog w) (A.under (.builtin "type.__call__" ⟨.ref C::a.pos,[]⟩)) (call (.ref fI) (.ref e::a.pos))
     (λr s'=>r=.none/\∃dx,s'.heap.get? C=Fa (XXa nm q C N bs bm hdct sn sub ab col dd k0 k1 k2 k3 k5 newId)/\Jn s'.heap e C dx/\E (.ref e) s') E {s₂ with heap:=h'}) E s₁) E s):
  pi (Tk prog w) A (exec (.Raise (Fa (.Call (.Name x np) args [] Xj)) Db pos) env) Q E s:=by
 rw[arm_exec_Raise];refine cP (gY (GD (C:=C) (nm:=nm) (q:=q) (N:=N) (bs:=bs) (bm:=bm) (hdct:=hdct) (sn:=sn) (sub:=sub) (ab:=ab) (col:=col) (dd:=dd) (k0:=k0) (k1:=k1) (k2:=k2) (k3:=k3) (k5:=k5) (newId:=newId) Xp hh ?_));refine cP (dW (wpAny_Call_ofName (dW h (λf s₁ ⟨ef,h₁⟩=>?_) λ_ _ z=>z)) (λv s₃ h₃=>cP (gY (cZ h₃))) λ_ _ z=>z);subst ef;unfold XXg;refine cP (eM (dW h₁ (λa s₂ h₂=>cP (gY ?_)) λ_ _ z=>z));obtain⟨Xf,akw⟩:=a;obtain⟨hkw,Xi,hC,hn,T,⟨oI,hf,hfc⟩,h₂⟩:=h₂;obtain rfl:akw=[]:=hkw;obtain⟨hp,g,d,tk,os⟩:=s₂;simp only[Xu];refine cP (wpAny_keeperOf_exc hC (cP (HD Fn hBn F T hC hn hi hf hfc Xi λh' e hm=>dW (h₂ h' e hm) (λr s' ⟨z,dx,c1,c2,c3⟩=>⟨z,cP (eM (wpAny_point (cZ ⟨e,dx,rfl,c1,c2,c3⟩)))⟩) λ_ _ z=>z)))
end
def x0(a C:Uf)(h:No):Prop:=Jn h a C Db
def x1(a C d:Uf)(h:No):Prop:=Jn h a C (Fa d)
structure yJ(K:qw)(C:Uf)(f:Str):Prop where
 sa:W.findIn K (.ref C) "__setattr__"=Fa (Fa (.builtin "object.__setattr__"))
 cd:∃cd own,W.clsIn K C=Fa cd/\cd.mro=List.map Value.ref own++LC/\cd.hasDict=pc
 tk:W.takerIn K C f=Fa Db
variable {X:Cx}{Xc:T0 (Uf × Obj)}{Y σ':St}{H H1:Hp}{s1:Sd}{a:Uf}
section
variable {f:Str}
def GY{A:Ar}{E:QQX}{Q:Unit->Sd->Prop}(I:Inv X Xc Y H s)(e:H a=Fa (.ext (x0 a C)))(ry:qQ y u)(st:yJ X.K C f)(h:∀d s',H d=Db->d≠a->Inv X Xc Y (upd (upd H a (.ext (x1 a C d))) d (.ext (QA d f y))) s'->Q () s'):pi (Tk X.prog X.w) A (setAttr (.ref a) f u) Q E s:=by obtain⟨⟨t,sl,ho⟩,_,_⟩:=I.mK a _ e;obtain⟨cd,own,c1,c2,c3⟩:=st.cd;refine Pk I.ni ⟨ho,rfl,rfl,trivial⟩ st.sa c1 c2 st.tk c3 λh' d tk k1 k2 dn da n1=>h d _ (zB I.mK dn) da ?_;have I2:=I.write (t':=tk) (x:=a) (e:=a) (o:=.ext (x1 a C d)) (by rw[e];exact True.intro) (.inl rfl) k1 ⟨_,k2⟩ ⟨⟨t,sl,k2⟩,⟨_,k2⟩,λh1 h2 ⟨t',YE,z⟩ kk=>⟨t',YE,kk _ z⟩⟩;refine I2.adopt I dn (by rw[qa da];exact zB I.mK dn) ⟨⟨u,n1,ry⟩,?_,λh1 h2 ⟨u,n,r⟩ kk=>⟨u,n.at kk,r⟩⟩;obtain⟨o,_,_,z,_⟩:=n1;exact⟨o,z⟩
def Inv.drop{φ:No->Prop}(I:Inv X Xc Y H s)(ea:H a=Fa (.ext φ)):Inv X Xc Y (λb=>if b=a then Db else H b) s:=by
 have less:∀b,H b=Db->(if b=a then Db else H b)=Db:=λb e=>by split<;>first|rfl|exact e
 have keep:∀b o,H b=Fa o->(∀φ,o≠.ext φ)->(if b=a then Db else H b)=Fa o:=λb o e n=>by
  rw[cS]
  .exact e
  .intro z;rw[z,ea]at e;exact n φ (cY e).symm
 refine⟨I.ok,I.os,I.bare,⟨I.base.keep,I.base.slot,λb o e h0 hb=>less b (I.base.free b o e h0 hb),I.base.there,λb xs e=>keep b _ (I.base.ny b xs e) (λ_ z=>nomatch z),λb o u e=>keep b _ (I.base.nu b o u e) (λ_ z=>nomatch z),λb ps e=>?_⟩,I.loc,I.cell,less _ I.free,λx c e=>less _ (I.mS x c e),λp hp=>⟨(I.pin p hp).1,less _ (I.pin p hp).2.1,(I.pin p hp).2.2⟩,λb ob e=>?_,I.len⟩
 .obtain⟨more,z⟩:=I.base.nC b ps e;exact⟨more,keep b _ z (λ_ z=>nomatch z)⟩
 .have e':H b=Fa ob:=by
   by_cases z:b=a
   .rw[cV z]at e;cases e
   .rw[cS z]at e;exact e
  exact(I.mK b ob e').ng (λ_ _ _ q=>q) (λb' q=>keep b' _ q (λ_ z=>nomatch z)) λb' xs q=>keep b' _ q (λ_ z=>nomatch z)
end
def MS(K:qw)(ta tv:TE)(f:Str):TS:=λD Y H=>tv Y H λy H1=>ta Y H1 λx H2=>∃a C,x=.ref a/\H2 a=Fa (.ext (x0 a C))/\yJ K C f/\∀d,H2 d=Db->d≠a->D.nx Y (upd (upd H2 a (.ext (x1 a C d))) d (.ext (QA d f y)))
def Oc{f:Str}{pos Xo:Pos}{ta tv:TE}(ha:PE X o ta)(hv:PE X value tv)(hs:ZB value (Fa (.Attribute o f Xo)) pos.line X.env=pure lf:=by rfl):PS X (.Assign [.Attribute o f Xo] value pos) (MS X.K ta tv f):=by intro Xc s Y H D I h;refine iG (sL (hv Xc s Y H _ I h) λu s1 zz=>x5 zz λy H1 I1 ry q=>sL (ha Xc s1 Y H1 _ I1 q) λov s2 zz=>?_) hs;obtain⟨x,H2,I2,rx,a,C,ex,ea,st,q2⟩:=zz;subst ex;obtain rfl:ov=Value.ref a:=rx;exact GY I2 ea ry st λd s3 dn da I3=>⟨Y,_,I3,q2 d dn da⟩
def wI(K:qw)(f:Str):Sp:=λvs H Q _=>C4 λe C y=>vs=[.ref e,y]/\H e=Fa (.ext (x0 e C))/\yJ K C f/\∀d,H d=Db->d≠e->Q .mG (upd (upd H e (.ext (x1 e C d))) d (.ext (QA d f y)))
variable {qual:Str}{scope:XXc}{outer:T0 Env}{s0:Sd}{H0:Hp}{P:Pg}{mg:QQZ}{base:No}
section
def Lv{x qual y1 y2 fl:Str}{st:sB}(F:Pl K x qual st f fd)(S:tJ [y1,y2] [y1,y2] (qe st)) (hb:∀(Xl:Vl) (A:Ar) (outer:T0 Env) (s:Sd) (H:Hp) (E:XK),Co (vC (CM P w) P w K mg base [y1,y2] qual (qe st) f Xl A outer s H E) (rT st) (MS K (HH 0) (HH 1) fl)):xp P w K mg base (CM P w) 1 f fd [y1,y2] (wI K fl):=by
 obtain⟨oc,od,kV,XT,pm,an,Xl,ct,Ya,rfl,lk,Yq⟩:=F.ex;refine L6 lk Yq S (λvs H Q E h=>?_) λA outer s H vs Q' E hr h=>⟨_,hb Xl A outer s H E,?_⟩
 .obtain⟨e,C,y,rfl,_⟩:=h;rfl
 .obtain⟨e,C,y,rfl,h1,h2,q⟩:=h;exact⟨y,rfl,.ref e,rfl,e,C,rfl,h1,h2,q⟩
def Je(K:qw)(C fI:Uf):Prop:=
 ∃nm q N bs bm YC hdct sn sub ab col dd k0 k1 k2 k3 k5,∃B Bn newId nid XG zK:String,∃bmN,∃mN:QQZ,o0 Bn newId zK bmN/\YC.contains (Value.type Bn)=pc/\o0 B nid XG YC/\bm.contains (Value.type "BaseException")=pc/\mN "__init__"=Fa (.ref fI)/\
  ∀h:No,K.In h->h.get? C=Fa (XXa nm q C N bs bm hdct sn sub ab col dd k0 k1 k2 k3 k5 newId)/\h.Ns N mN/\OwnTail h YC bm/\∃oI,h.get? fI=Fa oI/\oI.cls=.type "function"
variable {N:QQQ}{f:Uf}{cd:Vl}{E:XK}
def KB{X:Cx}(hX:X=vC (CM P w) P w K mg base N qual scope f cd A outer s0 H0 E){C fI:Uf}{fdI:Rs}{ps:QQQ}{fl:Str}{k:Nat}{x:Str}{np Xj pos:Pos}{e:zn}{ta:TA}(hC:Je X.K C fI)(F:xp X.prog X.w X.K X.mg X.base (CM X.prog X.w) k fI fdI ps (wI X.K fl))(hr:sd (k+1) X.A)(hb:uX X.K fdI ps [])(st:yJ X.K C fl) (hg:Gl X x) (hm:X.mg x=Fa (.ref C)) (ha:PA X [e] ta) (hs:Tl [e] X.env=[(lf,wp e X.env)]:=by rfl) (Xw:zR x:=by decide):
  PS X (.Raise (Fa (.Call (.Name x np) [e] [] Xj)) Db pos) (λ_ Y H=>ta Y H λvs H1=>∃y,vs=[y]/\∀d,H1 d=Db->E (.ref C) (Fa d) (upd H1 d (.ext (QA d fl y)))):=by
 intro Xc s Y H D I h;obtain⟨nm,q,N',bs,bm,YC,hdct,sn,sub,ab,col,dd,k0,k1,k2,k3,k5,B,Bn,newId,nid,XG,zK,bmN,mN,f1,f2,f3,f4,f5,Zc⟩:=hC;have hcalm:X.A.handled=Db:=I.ok.hd (by rw[hX];rfl);refine Ga (nm:=nm) (q:=q) (N:=N') (bs:=bs) (hdct:=hdct) (sn:=sn) (sub:=sub) (ab:=ab) (col:=col) (dd:=dd) (k0:=k0) (k1:=k1) (k2:=k2) (k3:=k3) (k5:=k5) f1 f2 f3 f4 hcalm (by rw[hs];rfl) f5 (xj I hg hm ⟨rfl,?_⟩ Xw);rw[hs];refine evalArgs_kwB rfl ?_;have YN:=ha Xj Xc s Y H _ I h;rw[hs]at YN;refine sL YN λus s1 zz=>?_;obtain⟨vs,H1,I1,r1,y,ey,q1⟩:=zz;subst ey;obtain⟨u,rfl,ru⟩:=yA r1;refine wpAny_evalAll_nil ?_;obtain⟨c1,c2,c3,c4⟩:=Zc s1.heap I1.ni;refine⟨rfl,by show 1<=Ch;rw[dF];decide,c1,c2,c3,c4,λh' e' md=>?_⟩;obtain⟨mk,mn,t,mt,_⟩:=md;have hn:H1 e'=Db:=zB I1.mK mn;have I2:Inv X Xc Y H1 {s1 with heap:=h'}:=I1.kept (t':=s1.toks) mk;have I3:Inv X Xc Y (upd H1 e' (.ext (x0 e' C))) {s1 with heap:=h'}:=I2.adopt I1 mn hn ⟨⟨t,_,mt⟩,⟨_,mt⟩,λh1 h2 ⟨t',YE,z⟩ kk=>⟨t',YE,kk _ z⟩⟩;have r2:qE [V.ref e',y] [Value.ref e',u]:=.cons rfl (.cons ru .nil);have YF:wI X.K fl [V.ref e',y] (upd H1 e' (.ext (x0 e' C))) (λv H2=>v=.mG/\∃d,d≠e'/\H1 d=Db/\H2=upd (upd H1 e' (.ext (x1 e' C d))) d (.ext (QA d fl y))) (λ_ _ _=>False):=⟨e',C,y,rfl,ql,st,λd dn da=>⟨rfl,d,da,by rw[qa da]at dn;exact dn,by rw[Qo]⟩⟩;have hl:([Value.ref e',u]:T0 Vl).length=ps.length:=by rw[<-r2.length];exact F.len _ _ _ _ YF
 refine ip (gg (F.run _ X.stack _ _ ⟨[Value.ref e',u],[]⟩ [Value.ref e',u] _ _ _ (hr.make C [u] []) (I3.n9.make C [u] []) (hb _ [Value.ref e',u] I3.ni hl) r2 YF) λr s' YT=>?_);cases r with
 | error ev=>obtain⟨_,_,_,_,_,_,z,_⟩:=YT;exact z.elim
 | ok fw=>
  cases fw with
  | ret uv=>
   obtain⟨v,H',I4,rv,ev,d,da,dn,eH⟩:=I3.after YT;subst ev eH;obtain⟨⟨t',YE,md⟩,_,_⟩:=I4.mK e' _ (by rw[qa (dH da)];exact ql);have I5:Inv X Xc Y (upd H1 d (.ext (QA d fl y))) _:=(funext λb=>by
    by_cases z:b=e'
    .subst z;rw[cV rfl,qa (dH da),hn]
    .rw[cS z];by_cases z2:b=d
     .subst z2;rw[ql,ql]
     .rw[qa z2,qa z2,qa z]:(λb=>if b=e' then Db else upd (upd H1 e' (.ext (x1 e' C d))) d (.ext (QA d fl y)) b)=upd H1 d (.ext (QA d fl y))) ▸ I4.drop (a:=e') (φ:=x1 e' C d) (by rw[qa (dH da)];exact ql)
   refine⟨rv,Fa d,(Zc s'.heap I4.ni).1,⟨t',YE,md⟩,?_⟩;subst hX;have XD:Un (wq outer) [] H0 H1 s0.heap s1.heap:=I1.base;exact UX I5 (tb:=none) ⟨_,_,md,rfl,rfl,rfl,(by show 1<6;decide),rfl,λT z=>by cases z⟩ (F1 XD rfl mn) (λT z=>by cases z) (by rw[qa (dH da)];exact hn) (q1 d dn)
  | next=>exact False.elim YT
  | brk=>exact False.elim YT
  | cont=>exact False.elim YT
end
end L2
namespace L3
open L2
variable {P:Pg}{w:Wo}{K:qw}{mg:QQZ}{base:No}{N:QQQ}{qual:Str}{scope:XXc}{f:Uf}{cd:Vl}{A:Ar}{outer:T0 Env}{s0:Sd}{H0:Hp}{E:XK}{x:Str}{np Xj pos:Pos}{e:zn}{C fI:Uf}{fdI:Rs}{ps:QQQ}{fl:Str}{k:Nat}{R:XR}{ta:xQ}
def Qx(C:Uf)(R:XR)(f:Str)(ta:xQ):xt:=λ_ U M=>ta U M λds M1=>∃z,ds=[z]/\R C (Fa (f,z)) M1
def J1(hC:Je K C fI)(F:xp P w K mg base (CM P w) k fI fdI ps (wI K fl))(hr:sd (k+1) (vC (CM P w) P w K mg base N qual scope f cd A outer s0 H0 E).A)(hb:uX K fdI ps [])(st:yJ K C fl)(_:W.findIn K (.ref C) "__init__"=Fa (Fa (.ref fI)))(hg:Gl (vC (CM P w) P w K mg base N qual scope f cd A outer s0 H0 E) x)(hm:mg x=Fa (.ref C))(hR:Ui K R E)(ha:A3 (vC (CM P w) P w K mg base N qual scope f cd A outer s0 H0 E) [e] ta) (hs:Tl [e] (vC (CM P w) P w K mg base N qual scope f cd A outer s0 H0 E).env=[(lf,wp e (vC (CM P w) P w K mg base N qual scope f cd A outer s0 H0 E).env)]:=by rfl) (Xw:zR x:=by decide):
  S3 (vC (CM P w) P w K mg base N qual scope f cd A outer s0 H0 E) (.Raise (Fa (.Call (.Name x np) [e] [] Xj)) Db pos) (Qx C R fl ta):=
 PS.mono (KB rfl hC F hr hb st hg hm ha hs Xw) λD' Y H ⟨U,M,D,hs,hm,ht,_⟩=>⟨U,M,_,hs,hm,ht,λvs H1 ds M1 hd Xe e1 q1=>by
  obtain⟨z,rfl,r⟩:=q1;obtain⟨v,rfl,hv⟩:=sD hd;exact⟨v,rfl,λd dn=>hR C (Fa d) _ M1 _ (Xe.add dn) (.inr ⟨d,fl,z,v,rfl,rfl,ql,hv.mono (.new dn)⟩) r⟩⟩
variable {X:Cx}{b₀:sB}{X3:T0 sB}{cn:Str}{cnp Y4 Zz:Pos}{Cc L:Uf}{te:TX}{th:xt}
def MI{t:St->Hp->VK->(Hp->Prop)->XK->Prop}(he:RE X e t)(hs:ZB e Db Zz.line X.env=pure lf:=by rfl):WG X (.Expr e Zz) (λD Y H J E=>t Y H (λ_ H'=>D.nx Y H') J E):=by intro Xc s Y H D J E I h;exact wpAny_Expr_any (sL (he Xc s Y H _ J E I h) λv s1 zz=>x5 zz λy H1 I1 r1 q1=>⟨Y,H1,I1,q1⟩) I.quiet hs
def UM(K:qw)(Cc:Uf)(te:TX)(th:xt):xt:=λD U M=>∃R,te U M (λ_ M1=>D.nx U M1) R/\∀C y M',R C y M'->W.exmOne K (.ref C) (.ref Cc)=Fa pc/\th D U M'
def Qi(he:WI X e te)(XA:X.stack=X.env::outer)(hL:X.env.frame=Fa L)(hg:Gl X cn)(hm:X.mg cn=Fa (.ref Cc)) (hs:∀ev E',Hh (X.marked ev E') (b₀::X3) th) (Xw:zR cn:=by decide) (YG:ZB e Db Zz.line X.env=pure lf:=by rfl):
  S3 X (.Try [.Expr e Zz] [.ExceptHandler (Fa (.Name cn cnp)) Db (b₀::X3) Y4] [] [] pos) (UM X.K Cc te th):=
 PS.nM (OG (th:=Ve X.K th) (MI he YG) XA hL hg hm hs Xw) λD' Y H hl ⟨U,M,D,hs,hm,⟨R,ht,hh⟩,k1,k2,k3,k4⟩=>by
  refine⟨λH1=>qT X.K H H1,λcv d H'=>∃C M' y,cv=.ref C/\HM X.K H' M'/\Tr X.K H' d y/\R C y M',⟨U,M,_,R,hs,hm,ht,λv H1 d M1 hd Xe e1 q1=>?_,λ_ z=>z,λC dx H' M' y h1 h0 h2=>⟨C,M',y,rfl,h1,h0,h2⟩⟩,λC dx H1 H' jH tk ⟨C',M',y,ec,YH,ZR,r⟩=>?_⟩
  .exact k1 _ H1 _ M1 (hs.mono e1) Xe e1 rfl q1
  .cases ec;obtain⟨r1,r2⟩:=hh C y M' r;have e1:qT X.K H H':=jH.trans (L2.TKept.ext tk);refine⟨r1,U,M',D,hs.mono e1,YH,r2,λσ2 H2 δ2 M2 y1 y2 y3 y4 y5=>?_,λv H2 d M2 y1 y2 y3 y5=>?_,λσ2 H2 δ2 M2 y1 y2 y3 y4 y5=>?_,λσ2 H2 δ2 M2 y1 y2 y3 y4 y5=>?_⟩
   .exact k1 _ H2 _ M2 y1 y2 (e1.trans y3) y4 y5
   .exact k2 _ H2 _ M2 y1 y2 (e1.trans y3) y5
   .exact k3 _ H2 _ M2 y1 y2 (e1.trans y3) y4 y5
   .exact k4 _ H2 _ M2 y1 y2 (e1.trans y3) y4 y5
end L3
namespace L2
def MV{K:qw}{C C2 N fI:Uf}{nm q:Str}{bs sub:T0 Vl}{hdct ab:Bool}{sn:QQQ}{col:Option Bool}{dd od1 od2 dd2:Option Uf}{k0 k1 k2 k3 k5:Option Vl}{oc1 oc2 c0:Vl}{es1 es2:Array DictEntry}{ep1 ep2:Nat}{sl1 sl2 Wl:Array (Option Vl)}{cd2:ClassData}{oI:Obj} (l1:K.lookup C=Fa (XXa nm q C N bs (.ref C2::LC) hdct sn sub ab col dd k0 k1 k2 k3 k5 "ValueError.__new__")) (n1:K.lookup N=Fa ⟨oc1,od1,.dict es1 ep1,sl1⟩) (s1:Bu es1=pc) (i1:nsFind es1 "__init__"=Fa (.ref fI)) (l2:K.lookup C2=Fa ⟨c0,dd2,.cls cd2,Wl⟩) (n2:K.lookup cd2.ns=Fa ⟨oc2,od2,.dict es2 ep2,sl2⟩) (s2:Bu es2=pc) (i2:nsFind es2 "__init__"=Db) (l3:K.lookup fI=Fa oI) (hf:W.isFn K (.ref fI)=pc):Je K C fI:=by
 have hc:oI.cls=.type "function":=by have hf:=eW.mp hf;unfold W.typeIn at hf;simp only at hf;rw[l3]at hf;exact cY hf
 refine⟨nm,q,N,bs,.ref C2::LC,LC,hdct,sn,sub,ab,col,dd,k0,k1,k2,k3,k5,"ValueError","ValueError","ValueError.__new__","ValueError.__new__","ValueError.__init__","ValueError.__init__",LC,λn=>nsFind es1 n,kc,by decide+kernel,kc,?_,i1,λh X=>⟨X C _ l1,⟨_,es1,ep1,X N _ n1,rfl,CN s1,λ_=>rfl⟩,.own (X C2 _ l2) ⟨_,es2,ep2,X _ _ n2,rfl,CN s2,λ_=>rfl⟩ i2 .base,oI,X fI _ l3,hc⟩⟩;rw[ik];have:LC.contains (.type "BaseException")=pc:=by decide+kernel
 rw[this,kO]
def J9{K:qw}{C C2 N:Uf}{nm q f:Str}{bs sub:T0 Vl}{ab:Bool}{sn:QQQ}{col:Option Bool}{dd:Option Uf}{k0 k1 k2 k3 k5:Option Vl}(l1:K.lookup C=Fa (XXa nm q C N bs (.ref C2::LC) pc sn sub ab col dd k0 k1 k2 k3 k5 "ValueError.__new__"))(sa:W.findIn K (.ref C) "__setattr__"=Fa (Fa (.builtin "object.__setattr__")))(tk:W.findIn K (.ref C) f=Fa Db):yJ K C f:=by refine⟨sa,⟨_,[C,C2],by unfold W.clsIn;rw[l1],rfl,rfl⟩,?_⟩;unfold W.takerIn;rw[tk];rfl
end L2
namespace L3
open L2
variable {X:Cx}{pos Xf:Pos}{o e:zn}{es:T0 zn}{ta:T3}{t:xQ}
structure FA where
 f:Uf
 d:Rs
 p:QQQ
structure DG(K:qw)(st:sB)(py qual:Str)(ps:QQQ)(x:FA):Prop where
 pe:x.p=ps
 fn:Pl K py qual st x.f x.d
 b:uX K x.d x.p []
 ty:W.isFn K (.ref x.f)=pc
structure TG(K:qw)(mg:QQZ)(st:sB)(py:Str)(ps:QQQ)(x:FA):Prop extends DG K st py py ps x where
 mg:mg py=Fa (.ref x.f)
structure MG(K:qw)(C:Uf)(st:sB)(py qual:Str)(ps:QQQ)(x:FA):Prop extends DG K st py qual ps x where
 at_:W.findIn K (.ref C) py=Fa (Fa (.ref x.f))
structure CG(K:qw)(mg:QQZ)(nm:Str)(C:Uf):Prop extends Cls K C where
 mg:mg nm=Fa (.ref C)
def DG.kp{K:qw}{st:sB}{x:FA}(h:DG K st py qual ps x):W.keepIn K (.ref x.f)=pc:=h.fn.kp
def MG.mZ{K:qw}{st:sB}{x:FA}(h:MG K C st py qual ps x):vL K C py x.f:=⟨h.at_,h.ty,h.toDG.kp⟩
def zv(K:qw)(C:Uf)(fs:QQQ):Prop:=∀f,fs.contains f=pc->ut K C f
def tM{K:qw}:zv K C []:=λf h=>by simp at h
def pS{K:qw}{C:Uf}{g:Str}(h:W.findIn K (.ref C) g=Fa Db)(r:zv K C fs):zv K C (g::fs):=λf q=>by
 rw[ik,gK]at q;rcases q with q|q
 .rw[wE q];exact h
 .exact r f q
abbrev Fq(P:Pg)(w:Wo)(K:qw)(mg:QQZ)(base:No)(k:Nat)(x:FA)(sp:rm):Prop:=Ti P w K mg base k x.f x.d x.p sp
abbrev VL(P:Pg)(w:Wo)(K:qw)(mg:QQZ)(base:No)(k:Nat)(x:FA)(sp:GI):Prop:=SJ P w K mg base k x.f x.d x.p sp
def Sl(N P:QQQ)(sc:XXc):Bool:=sc.kind==.function&&(!sc.isCoroutine&&(!sc.isGenerator&&(decide N.Nodup&&(decide (N.take P.length=P)&&((P.all λx=>sc.names.lookup x==Fa .local||sc.names.lookup x==Fa .cell)&&sc.names.all λy=>!(y.2==.free))))))
def W7{N P:QQQ}(h:Sl N P sc=pc):tJ N P sc:=by
 unfold Sl at h;simp only[dO,gA,eW,dX]at h;obtain⟨h1,h2,h3,h4,h5,h6,h7⟩:=h;refine⟨h1,h2,h3,h4,h5,λx hx=>?_,λy hy e=>?_⟩
 .have:=eA.mp h6 x hx
  simpa using this
 .have:=eA.mp h7 y hy;rw[e]at this;simp at this
variable {P:Pg}{w:Wo}{K:qw}{mg:QQZ}{base:No}
def Vt{st:sB}{sp:rm}(F:DG K st x qual ps fa)(S:tJ N ps (qe st))(len:∀ds M Q,sp ds M Q->ds.length=ps.length) (Xy:∀(Xl:Vl) (A:Ar) (outer:T0 Env) (s:Sd) (H:Hp) (E:XK),sd k (A.deeper (sK qual (qe st) s.heap.objs.size fa.f Xl))->
   ∃t,Hh (vC NX P w K mg base N qual (qe st) fa.f Xl A outer s H E).om (rT st) t/\∀ds M Q,sp ds M Q->t {nx:=λ_ M'=>∃Xg,qr Xg M'/\Q .mG Xg,rt:=λd M'=>∃Xg,qr Xg M'/\Q d Xg} (wX N ds) M):Fq P w K mg base (k+1) fa sp:=by
 unfold Fq;rw[F.pe];exact UQ F.fn S len Xy
def UP{st:sB}{sp:GI}(F:DG K st x qual ps fa)(S:tJ N ps (qe st))(len:∀ds M Q R,sp ds M Q R->ds.length=ps.length) (Xy:∀(Xl:Vl) (A:Ar) (outer:T0 Env) (s:Sd) (H:Hp) (E:XK) (R:XR),sd k (A.deeper (sK qual (qe st) s.heap.objs.size fa.f Xl))->Ui K R E->
   ∃t,Hh (vC (CM P w) P w K mg base N qual (qe st) fa.f Xl A outer s H E) (rT st) t/\∀ds M Q,sp ds M Q R->t {nx:=λ_ M'=>∃Xg,qr Xg M'/\Q .mG Xg,rt:=λd M'=>∃Xg,qr Xg M'/\Q d Xg} (wX N ds) M):VL P w K mg base (k+1) fa sp:=by
 unfold VL;rw[F.pe];exact Tv F.fn S len Xy
variable {k n:Nat}{f C:Uf}{fa:FA}{st:sB}{qual:Str}{ps:QQQ}{sp:rm}{x m:Str}{p:Pos}
def pJ(F:Fq X.prog X.w X.K X.mg X.base k fa sp)(hr:sd n X.A)(T:TG X.K X.mg st x ps fa)(ha:A3 X (e::es) t)(hn:k<=n:=by first|decide|omega)(hg:Gl X x:=by rfl)
  (Xw:zR x:=by decide) (he:Bp X e es:=by rfl) (Xt:CU X pos es:=by rfl):
  E3 X (.Call (.Name x p) (e::es) [] pos) (DL sp t):=PL F (hr.mono hn) hg T.mg T.toDG.kp T.b ha Xw he Xt
def uO(F:Fq X.prog X.w X.K X.mg X.base k fa sp)(hr:sd n X.A)(c:CG X.K X.mg x C)(i:Mk X.K C fa.f)(T:DG X.K st m qual ps fa)(ha:A3 X (e::es) t)(hn:k+1<=n:=by first|decide|omega)(hg:Gl X x:=by rfl)
  (Xw:zR x:=by decide) (he:Bp X e es:=by rfl) (Xt:CU X pos es:=by rfl):
  E3 X (.Call (.Name x p) (e::es) [] pos) (QT C sp t):=OL c.toCls i F (hr.mono hn) hg c.mg T.b ha Xw he Xt
def pZ{pl:Sem Bool}(he:E3 X o ta)(c:Cls X.K C)(T:MG X.K C st m qual ps fa)(F:Fq X.prog X.w X.K X.mg X.base k fa sp)(hr:sd n X.A)(ha:A3 X (e::es) t)(hn:k<=n:=by first|decide|omega)
  (XA:Bp X e es:=by rfl) (Xt:CU X pos es:=by rfl)
  (ht:wp (.Call (.Attribute o m Xf) (e::es) [] pos) X.env=(do
   let ov<-wp o X.env
   XXb Xf.atName
   let(f,first)<-xz [ov] (TW ov m pl)
   XXg pos f first (Ix pos (Tl (e::es) X.env)) (dL pos (Ps [] X.env))):=by rfl):
  E3 X (.Call (.Attribute o m Xf) (e::es) [] pos) (AF m (λD s=>D=C/\s=sp) ta t):=
 Eh (R:=λD s=>D=C/\s=sp) he (λD s ⟨e1,e2⟩=>by subst e1 e2;exact⟨c,_,_,_,T.mZ,F,T.b⟩) (hr.mono hn) ha XA Xt ht
def yq{pl:Sem Bool}(he:E3 X o ta)(c:Cls X.K C)(T:MG X.K C st m qual ps fa)(F:Fq X.prog X.w X.K X.mg X.base k fa sp)(hr:sd n X.A)(hn:k<=n:=by first|decide|omega)
  (ht:wp (.Call (.Attribute o m Xf) [] [] pos) X.env=(do
   let ov<-wp o X.env
   XXb Xf.atName
   let(f,first)<-xz [ov] (TW ov m pl)
   XXg pos f first (Ix pos (Tl [] X.env)) (dL pos (Ps [] X.env))):=by rfl):
  E3 X (.Call (.Attribute o m Xf) [] [] pos) (AF m (λD s=>D=C/\s=sp) ta xx):=
 BS (R:=λD s=>D=C/\s=sp) he (λD s ⟨e1,e2⟩=>by subst e1 e2;exact⟨c,_,_,_,T.mZ,F,T.b⟩) (hr.mono hn) ht
def yM{pl:Sem Bool}(cm:MM X.K C m fa.f)(F:Fq X.prog X.w X.K X.mg X.base k fa sp)(hr:sd n X.A)(c:CG X.K X.mg x C)(T:DG X.K st m qual ps fa)(ha:A3 X (e::es) t)(hn:k<=n:=by first|decide|omega)(hg:Gl X x:=by rfl)
  (Xw:zR x:=by decide) (XA:Bp X e es:=by rfl) (Xt:CU X pos es:=by rfl)
  (ht:wp (.Call (.Attribute (.Name x p) m Xf) (e::es) [] pos) X.env=(do
   let ov<-wp (.Name x p) X.env
   XXb Xf.atName
   let(f,first)<-xz [ov] (TW ov m pl)
   XXg pos f first (Ix pos (Tl (e::es) X.env)) (dL pos (Ps [] X.env))):=by rfl):
  E3 X (.Call (.Attribute (.Name x p) m Xf) (e::es) [] pos) (DL sp t):=On cm F (hr.mono hn) hg c.mg T.kp T.b ha Xw XA Xt ht
variable {h:No}{py:Str}{od an:Option Uf}{sl:Array (Option Vl)}{kv dc pm cd ct:Vl}
def Jz{fd:Rs}{oc:Vl}(l:K.lookup f=Fa ⟨oc,od,.func fd,sl⟩):W.keepIn K (.ref f)=pc:=by unfold W.keepIn;simp only;rw[l]
def OK{fd:Rs}(l:K.lookup f=Fa ⟨.type "function",od,.func fd,sl⟩):W.isFn K (.ref f)=pc:=by unfold W.isFn W.typeIn;simp only;rw[l];rfl
abbrev mW(py qual:Str)(st:sB)(ps:QQQ):Prop:=∀(kV XT pm:Vl) (an:Option Uf) (Xl ct:Vl) (us:T0 Vl),us.length=ps.length->bindArgs (W.fnOf py qual (uB st) (rT st) (qe st) .none kV XT pm an Xl ct) ⟨us,[]⟩=pure (ps.zip us)
def QL(l:K.lookup f=Fa ⟨.type "function",od,.func (W.fnOf py qual (uB st) (rT st) (qe st) .none kv dc pm an cd ct),sl⟩)(k:W.codeIn K cd qual=pc)(hb:mW py qual st ps):
  DG K st py qual ps ⟨f,W.fnOf py qual (uB st) (rT st) (qe st) .none kv dc pm an cd ct,ps⟩:=⟨rfl,K8 l k (Jz l),(K8 l k (Jz l)).binds hb,OK l⟩
def qu(X:K.In h)(G:h.Ns wv mg)(a:W.nsIn K wv py=Fa (Fa (.ref f)))(l:K.lookup f=Fa ⟨.type "function",od,.func (W.fnOf py py (uB st) (rT st) (qe st) .none kv dc pm an cd ct),sl⟩)(k:W.codeIn K cd py=pc)(hb:mW py py st ps):
  TG K mg st py ps ⟨f,W.fnOf py py (uB st) (rT st) (qe st) .none kv dc pm an cd ct,ps⟩:=⟨QL l k hb,W.mg_of X G a⟩
def qc(a:W.findIn K (.ref C) py=Fa (Fa (.ref f)))(l:K.lookup f=Fa ⟨.type "function",od,.func (W.fnOf py qual (uB st) (rT st) (qe st) .none kv dc pm an cd ct),sl⟩)(k:W.codeIn K cd qual=pc)(hb:mW py qual st ps):
  MG K C st py qual ps ⟨f,W.fnOf py qual (uB st) (rT st) (qe st) .none kv dc pm an cd ct,ps⟩:=⟨QL l k hb,a⟩
def wA(X:K.In h)(G:h.Ns wv mg)(a:W.nsIn K wv py=Fa (Fa (.ref C)))(h1:W.plainGet K C Str.empty=pc)(h2:W.hasDictIn K C=pc)(h3:W.plainOver K C=pc)(h4:W.findIn K (.ref C) "__setattr__"=Fa (Fa (.builtin "object.__setattr__"))):CG K mg py C:=⟨⟨h1,h2,h3,h4⟩,W.mg_of X G a⟩
def Oe{x:Str}{a:Uf}{es:T0 DictEntry}{ep:Nat}(h:mg x=Fa (.ref a))(s:(a==XV)=lf)(l:K.lookup a=Fa ⟨.type "dict",Db,.dict es.toArray ep,#[]⟩) (r:KTD.Rows (λ(ss:QQQ) v=>∃t,v=Value.ref t/\vn K (λ_=>Db) t (ss.map V.str)) es T):Nw K mg x T:=⟨a,_,_,_,h,s,l,⟨rfl,rfl,rfl⟩,rfl,by simpa using r⟩
def LG{x qual y1 y2 fl:Str}{st:sB}(F:DG K st x qual [y1,y2] fa)(S:tJ [y1,y2] [y1,y2] (qe st)) (hb:∀(Xl:Vl) (A:Ar) (outer:T0 Env) (s:Sd) (H:Hp) (E:XK),Co (vC (CM P w) P w K mg base [y1,y2] qual (qe st) fa.f Xl A outer s H E) (rT st) (MS K (HH 0) (HH 1) fl)):xp P w K mg base (CM P w) 1 fa.f fa.d fa.p (wI K fl):=by
 rw[F.pe];exact Lv F.fn S hb
def UT(ds:T0 D)(M:Mp)(Q:DK):Prop:=match ds with
 | [.ref a]=>(oX M a).elim False λes=>(G8 es).elim False λbs=>Q (.bl (bs.any id)) M
 | _=>False
def SY(hc:X.calm=pc):C3 X (.builtin "any") UT:=by
 intro Xc s Y H vs us Q' I rv h;obtain⟨ds,M,Q,hd,hm,q,k⟩:=h;unfold UT at q;split at q
 .rename_i a;obtain⟨v,rfl,hv⟩:=sD hd;obtain⟨es,e0,q⟩:=rg q;obtain⟨bs,e1,q⟩:=rg q;cases hv.mC;obtain⟨u,rfl,ru⟩:=yA rv;cases ru;obtain⟨xs,h1,h2,_⟩:=qB hm e0;obtain⟨its,r,pl,hz⟩:=I.list h1;have eits:=FK e1 h2 r;subst eits;have XB:a≠s.heap.objs.size:=by obtain⟨o,_,e,_⟩:=pl;exact dC (dg e)
  refine call_any_walk (gN pl.isList ?_);refine⟨s.heap.objs.size,_,_,_,_,_,λi=>(bs[i]?).getD lf,rfl,j8 (A:=X.A.in1) (I.ok.hd hc) _ a XB (bs.map Value.bool).toArray,⟨⟨_,dA _ rfl,rfl,rfl⟩,?_⟩,λi v s' Q E hP hQ=>?_,λh' tk hk=>?_⟩
  .obtain⟨o,n,e,c,d,q⟩:=pl;exact⟨o,cU _ e,c,n,q⟩
  .simp only[iF,df]at hP;cases e2:bs[i]? with
   | none=>rw[e2]at hP;cases hP
   | some b=>rw[e2]at hP;cases hP;have hQ:Q ((bs[i]?).getD lf) s':=hQ;rw[e2]at hQ;exact eZ hQ
  .have ea:(List.range (bs.map Value.bool).toArray.size).any (λi=>(bs[i]?).getD lf)=bs.any id:=by
    rw[de,cO];rw[gh,gu,gu];constructor
    .rintro ⟨i,hi,z⟩
     have YO:=fJ.mp hi;rw[cQ YO]at z;exact⟨_,gW YO,z⟩
    .rintro ⟨b,hb,z⟩
     obtain⟨i,hi,e⟩:=gG hb;refine⟨i,fJ.mpr hi,?_⟩;rw[cQ hi,e];exact z
   rw[ea];refine⟨.bl (bs.any id),H,?_,rfl,k _ _ _ _ .bl hm .refl q⟩;exact I.kept (h':=h') (t':=tk) λb o e=>hk b o (by simpa using dC (dg e)) (cU _ e)
 .exact q.elim
def RH:Go "any"=Fa (.builtin "any"):=by decide+kernel
end L3
namespace L3
open L2
def Hg(i:Nat){X:Cx}{pos:Pos}{x:Str}(h1:X.N[i]?=Fa x:=by rfl)(h2:Uu X.env.scope x:=by first|exact Or.inl rfl|exact Or.inr (Or.inl rfl)|exact Or.inr (Or.inr rfl))(h3:zR x:=by decide)(h4:(x==("__classdict__":Str))=lf:=by decide):E3 X (.Name x pos) (v3 i):=RI i (pv i h1 h2 h3 h4)
variable {X:Cx}{pos:Pos}
def W5{N:QQQ}(h:decide N.Nodup=pc):N.Nodup:=fL h
def pO(i:Nat){x:Str}{e:zn}{te:T3}{Xo:Pos}{ps:QQQ}{sc:XXc}(S:tJ X.N ps sc)(he:E3 X e te)(hi:X.N[i]?=Fa x:=by rfl)(hx:La X.env.scope x:=by first|exact Or.inl rfl|exact Or.inr rfl)(YG:ZB e (Fa (.Name x Xo)) pos.line X.env=pure lf:=by rfl)(hf:MR X x:=by first|exact .inl rfl|exact .inr rfl|assumption):S3 X (.Assign [.Name x Xo] e pos) (Df te (rS i)):=Q9 S.nd hi hx he YG hf
def rC(i:Nat){x:Str}{ps:QQQ}{sc:XXc}(S:tJ X.N ps sc)(hi:X.N[i]?=Fa x:=by rfl)(hx:La X.env.scope x:=by first|exact Or.inl rfl|exact Or.inr rfl)(hf:MR X x:=by first|exact .inl rfl|exact .inr rfl|assumption):G3 X (.Name x pos) (rS i):=Jy S.nd hi hx hf
def qx(i:Nat){x:Str}(hN:decide X.N.Nodup=pc:=by kernel_rfl)(hi:X.N[i]?=Fa x:=by rfl)(hx:La X.env.scope x:=by first|exact Or.inl rfl|exact Or.inr rfl)(hf:MR X x:=by first|exact .inl rfl|exact .inr rfl|assumption):G3 X (.Name x pos) (rS i):=Jy (W5 hN) hi hx hf
abbrev Sc(n:Nat)(N:QQQ)(s:sB):=tJ N (N.take n) (qe s)
def sk{n:Nat}{s:sB}(h:Sl N (N.take n) (qe s)=pc:=by decide+kernel):Sc n N s:=W7 h
def qm(h0:E3 X e0 t0)(g0:Tl [e0] X.env=(lf,wp e0 X.env)::Tl [] X.env:=by rfl):A3 X [e0] (vA t0 xx):=(pX h0 sF g0)
def sf(h0:E3 X e0 t0)(h1:E3 X e1 t1)(g0:Tl [e0,e1] X.env=(lf,wp e0 X.env)::Tl [e1] X.env:=by rfl)(g1:Tl [e1] X.env=(lf,wp e1 X.env)::Tl [] X.env:=by rfl):A3 X [e0,e1] (vA t0 (vA t1 xx)):=(pX h0 (pX h1 sF g1) g0)
def rb(h0:E3 X e0 t0)(h1:E3 X e1 t1)(h2:E3 X e2 t2)(g0:Tl [e0,e1,e2] X.env=(lf,wp e0 X.env)::Tl [e1,e2] X.env:=by rfl)(g1:Tl [e1,e2] X.env=(lf,wp e1 X.env)::Tl [e2] X.env:=by rfl)(g2:Tl [e2] X.env=(lf,wp e2 X.env)::Tl [] X.env:=by rfl):A3 X [e0,e1,e2] (vA t0 (vA t1 (vA t2 xx))):=(pX h0 (pX h1 (pX h2 sF g2) g1) g0)
abbrev v0:=@Hg 0
abbrev U1:=@Hg 1
abbrev U2:=@Hg 2
abbrev U3:=@Hg 3
abbrev v5:=@Hg 5
abbrev v4:=@Hg 4
abbrev v6:=@Hg 6
abbrev v7:=@Hg 7
abbrev v8:=@Hg 8
abbrev v9:=@Hg 9
abbrev V4:=@Hg 12
abbrev Vq:=@Hg 13
abbrev VV:=@Hg 10
abbrev W4:=@Hg 14
abbrev WR:=@Hg 15
abbrev WU:=@Hg 11
variable {P:Pg}{w:Wo}{K:qw}{mg:QQZ}{base:No}
def fq{st:sB}{sp:rm}(F:DG K st x qual ps fa)(S:tJ N ps (qe st)) (hb:∀{Xl:Vl} {A:Ar} {outer:T0 Env} {s:Sd} {H:Hp} {E:XK},sd k (A.deeper (sK qual (qe st) s.heap.objs.size fa.f Xl))->(A.deeper (sK qual (qe st) s.heap.objs.size fa.f Xl)).units+9<Y'->
   ∃t,Hh (vC NX P w K mg base N qual (qe st) fa.f Xl A outer s H E).om (rT st) t/\∀ds M Q,sp ds M Q->t {nx:=λ_ M'=>∃Xg,qr Xg M'/\Q .mG Xg,rt:=λd M'=>∃Xg,qr Xg M'/\Q d Xg} (wX N ds) M) (len:∀ds M Q,sp ds M Q->ds.length=ps.length:=by walk_at "l"):Fq P w K mg base (k+1) fa sp:=Vt F S len λ_ _ _ _ _ _ h=>hb h (WP h)
def xn{X:Cx}(h:Il X.env.scope X.N scope ix N'=pc:=by kernel_rfl):sC X scope ix N':=Uq h
end L3
namespace Z
open L2 L3
def rc(i:Nat):sB:=PySem.Challenge.pw_callboard_k36_whole_off_wishes.main.body.getD i (.Pass ⟨0,0,0,0⟩)
abbrev tm(i j:Nat):sB:=Ou (rc i) j
def BX:Sc 3 ["board","caller","target","wishes"] (rc 1):=sk
def tO:Sc 3 ["board","caller","target","free","members","place","in_turn"] (rc 2):=sk
def vh:Sc 3 ["board","caller","target","phones"] (rc 3):=sk
def An:Sc 2 ["wanted","target"] (rc 4):=sk
def wD:Sc 4 ["board","caller","target","way","come_to","steps","fits","wanted"] (rc 5):=sk
def Aa:Sc 1 ["answers"] (rc 7):=sk
def Gk:Sc 2 ["call","word"] (rc 9):=sk
def Dl:Sc 2 ["call","phone"] (rc 10):=sk
def xC:Sc 2 ["call","event","word"] (rc 11):=sk
def xl:Sc 1 ["call","lists"] (rc 13):=sk
def CJ:Sc 1 ["board","calls"] (rc 14):=sk
def yS:Sc 2 ["board","phone"] (rc 20):=sk
def wu:Sc 3 ["board","phone","target","word"] (rc 21):=sk
def LJ:Sc 3 ["word","phone","calls"] (rc 22):=sk
def ub:Sc 4 ["board","word","phone","numbers","calls","due"] (rc 23):=sk
def y9:Sc 3 ["board","word","number"] (rc 24):=sk
def Cv:Sc 2 ["board","deed","word"] (rc 25):=sk
def ud:Sc 3 ["board","number","steps","last","target","fits"] (rc 26):=sk
def uR:Sc 4 ["board","number","target","phones","members","place"] (rc 27):=sk
def xE:Sc 3 ["board","number","target","talk","members"] (rc 28):=sk
def xJ:Sc 3 ["board","number","end","word"] (rc 29):=sk
def wz:Sc 2 ["board","number","call","told","end","steps","last"] (rc 30):=sk
def zi:Sc 3 ["board","phone","target","number"] (rc 31):=sk
def Bz:Sc 3 ["board","phone","number","call"] (rc 32):=sk
def yz:Sc 2 ["board","call","wishes"] (rc 33):=sk
def BR:Sc 3 ["board","number","fits","wish"] (rc 34):=sk
def tT:Sc 1 ["board","number","call","fits"] (rc 35):=sk
def tP:Sc 2 ["board","deed","word","phone","number","call","kept","others"] (rc 36):=sk
def MC:Sc 2 ["board","deed","word"] (rc 37):=sk
def HI:Sc 2 ["board","deed","word","begun"] (rc 38):=sk
def Hj:Sc 3 ["board","caller","target"] (rc 40):=sk
def CQ:Sc 1 ["told","word"] (rc 51):=sk
def Oo:Sc 2 ["holds","words"] (rc 66):=sk
def Hv:Sc 1 ["text"] (rc 67):=sk
def Dg:Sc 1 ["things"] (rc 68):=sk
def FQ:Sc 3 ["chosen","known","most"] (rc 69):=sk
def uh:Sc 1 ["phones","name","lines","rank"] (rc 70):=sk
def ul:Sc 2 ["groups","phone_names","name","manner","members"] (rc 71):=sk
def Dh:Sc 4 ["kind","part","phone_names","names"] (rc 72):=sk
def ug:Sc 3 ["wish","phone_names","names","form","parts","kind","part"] (rc 73):=sk
def vc:Sc 3 ["wishes","phone_names","names","on","wish"] (rc 74):=sk
def wc:Sc 3 ["phones","groups","wishes","phone_names","names"] (rc 75):=sk
def Kq:Sc 2 ["_law_script","_law_k"] (rc 78):=sk
def FU:Sc 3 ["_law_cell","_law_factor","_law_many"] (rc 79):=sk
def ux:Sc 2 ["_law_seed","_law_which","_law_letters","_law_size","_law_place","_law_rest","_law_sign"] (rc 80):=sk
def xD:Sc 3 ["_law_row","_law_cell","_law_most","_law_first","_law_size"] (rc 81):=sk
def uS:Sc 2 ["_law_seed","_law_most","_law_phones_here","_law_k","_law_lines"] (rc 82):=sk
def uT:Sc 2 ["_law_seed","_law_own","_law_groups_here","_law_g","_law_manner"] (rc 83):=sk
def tQ:Sc 3 ["_law_cell","_law_own","_law_names","_law_a","_law_place","_law_b","_law_c","_law_pick","_law_first"] (rc 84):=sk
def sE:Sc 2 ["_law_script","_law_most","_law_seed","_law_phones_here","_law_own","_law_groups_here","_law_names","_law_wishes","_law_k","_law_cell"] (rc 85):=sk
def C1:Sc 1 ["_law_call"] (rc 86):=sk
def AO:Sc 2 ["_law_board","_law_states"] (rc 87):=sk
def rJ:Sc 4 ["_law_board","_law_cell","_law_word_here","_law_states","_law_some_here","_law_k","_law_people_here","_law_a","_law_m"] (rc 88):=sk
def uQ:Sc 4 ["_law_cell","_law_own","_law_names","_law_many","_law_a","_law_b","_law_k","_law_m","_law_some_here"] (rc 89):=sk
def rG:Sc 4 ["_law_board","_law_cell","_law_own","_law_names","_law_word_here","_law_states","_law_found","_law_a"] (rc 90):=sk
def xw:Sc 2 ["_law_board","_law_deed_here","_law_fine"] (rc 91):=sk
def Fe:Sc 2 ["_law_one","_law_other"] (rc 92):=sk
def rK:Sc 5 ["_law_one","_law_other","_law_caller","_law_target","_law_kept","_law_end","_law_steps","_law_due","_law_found","_law_mapped"] (rc 93):=sk
def tG:Sc 1 ["_law_script","_law_made","_law_wishes","_law_k","_law_on","_law_told","_law_own","_law_names","_law_hour","_law_one","_law_other","_law_kept","_law_cell","_law_deed_here","_law_caller","_law_target"] (rc 94):=sk
def Ck:Sc 2 ["self","word"] (tm 18 0):=sk
def CZ:Sc 3 ["self","plan","hour"] (tm 12 0):=sk
def EF:Sc 4 ["self","phones","groups","wishes"] (tm 76 0):=sk
def GJ:Sc 2 ["self","told"] (tm 42 0):=sk
def EO:Sc 2 ["self","told"] (tm 43 0):=sk
def AW:Sc 2 ["self","told"] (tm 44 0):=sk
def Dq:Sc 2 ["self","told"] (tm 46 0):=sk
def CK:Sc 2 ["self","told"] (tm 48 0):=sk
def FJ:Sc 2 ["self","told"] (tm 49 0):=sk
def Bs:Sc 2 ["self","told"] (tm 50 0):=sk
def z9:Sc 2 ["self","phone"] (tm 12 3):=sk
def EV:Sc 1 ["self"] (tm 42 1):=sk
def Dk:Sc 1 ["self"] (tm 43 1):=sk
def Av:Sc 1 ["self"] (tm 44 1):=sk
def CW:Sc 1 ["self"] (tm 49 1):=sk
def AN:Sc 1 ["self"] (tm 50 1):=sk
def Fd:Sc 2 ["self","told"] (tm 41 0):=sk
def yw:Sc 1 ["self"] (tm 76 2):=sk
def xW:Sc 2 ["self","event","word"] (tm 12 12):=sk
def GR:Sc 4 ["self","board","caller","target"] (tm 42 2):=sk
def FS:Sc 4 ["self","board","caller","target"] (tm 43 2):=sk
def BJ:Sc 4 ["self","board","caller","target"] (tm 45 0):=sk
def De:Sc 4 ["self","board","caller","target"] (tm 46 2):=sk
def Em:Sc 4 ["self","board","caller","target"] (tm 47 0):=sk
def Cr:Sc 4 ["self","board","caller","target"] (tm 48 1):=sk
def E7:Sc 4 ["self","board","caller","target"] (tm 49 2):=sk
def vB:Sc 4 ["self","board","caller","target","talk","members"] (tm 50 3):=sk
def Dw:Sc 1 ["self"] (tm 76 1):=sk
def Ag:Sc 2 ["self","phone"] (tm 12 2):=sk
def E5:Sc 2 ["self","caller"] (tm 8 0):=sk
def yL:Sc 2 ["self","phone"] (tm 8 2):=sk
def yX:Sc 2 ["self","phone"] (tm 8 5):=sk
def yy:Sc 2 ["self","phone"] (tm 8 4):=sk
def Aj:Sc 2 ["self","leg"] (tm 12 10):=sk
def xK:Sc 4 ["self","merged","kept","members","call"] (tm 12 11):=sk
def vG:Sc 1 ["self","call"] (tm 12 9):=sk
def za:Sc 2 ["self","phone"] (tm 8 8):=sk
def zA:Sc 2 ["self","hour"] (tm 46 1):=sk
def zJ:Sc 1 ["self"] (tm 12 8):=sk
def zN:Sc 2 ["self","phone"] (tm 12 6):=sk
def vt:Sc 3 ["self","plan","members","rank"] (tm 50 2):=sk
def zG:Sc 3 ["self","caller","target"] (tm 12 7):=sk
def Ce:Sc 2 ["self","name"] (tm 76 6):=sk
def zP:Sc 2 ["self","name"] (tm 76 5):=sk
def BN:Sc 2 ["self","phone"] (tm 12 4):=sk
def zU:Sc 2 ["self","phone"] (tm 12 5):=sk
def Dd:Sc 2 ["self","phone"] (tm 12 1):=sk
def Dv:Sc 2 ["self","phone"] (tm 76 3):=sk
def wZ:Sc 2 ["self","phone"] (tm 8 7):=sk
def Dn:Sc 2 ["self","phone"] (tm 8 6):=sk
def Cf:Sc 2 ["self","call"] (tm 41 4):=sk
def Ak:Sc 2 ["self","call"] (tm 48 2):=sk
def Fp:Sc 1 ["self"] (tm 41 1):=sk
def E2:Sc 2 ["self","phone"] (tm 76 4):=sk
def Dj:Sc 2 ["self","phone"] (tm 8 3):=sk
def Gr:Sc 2 ["self","phone"] (tm 8 1):=sk
noncomputable def Kd:T0 (Str×QQQ):=[("bar",["phone","names"]),("shut",["name","phones"]),("always",["name","name"]),("night",["name","name","hour","hour"]),("busy",["name","name"]),("silent",["name","name","turns"]),("wait",["phone"]),("breaks",["phone"])]
set_option genInjectivity false in
structure Ad where
 (aR aS aT aU L M ad aV aW aX ae af aY aZ a0 a1 a2 a3 a4 a5 a6 ag a7 a8 a9 ba bb bc bd N O be m ah ai P bf bg bh bi bj bk J i aj Q bl bm bn bo bp bq br bs bt ak bu bv al H R S am an B ao ap aq ar T au av A aw ax F U k ay az aA aB aC aD aE aF bw V aG X aH Y bx bz bA aI bB bC bD bE aJ aK Z bF bG bH bI bJ aL q aM l aN bK bL:FA)
 (e c C r t aa x n y u v o h b1 I:Uf)
structure Gl(K:qw)(mg:QQZ)(a:Ad):Prop where
 e:CG K mg "Call" a.e
 c:CG K mg "Board" a.c
 C:CG K mg "Wish" a.C
 r:CG K mg "Bar" a.r
 t:CG K mg "Shut" a.t
 aa:CG K mg "Forward" a.aa
 x:CG K mg "Always" a.x
 n:CG K mg "Night" a.n
 y:CG K mg "Busy" a.y
 u:CG K mg "Silent" a.u
 v:CG K mg "Wait" a.v
 o:CG K mg "Breaks" a.o
 h:CG K mg "Plan" a.h
 cN:mg "CallError"=Fa (.ref a.b1)
 bT:mg "NoDeed"=Fa (.ref a.I)
 aR:TG K mg (rc 1) "fitting" ["board","caller","target"] a.aR
 aS:TG K mg (rc 2) "rung_phones" ["board","caller","target"] a.aS
 aT:TG K mg (rc 3) "end_without_wish" ["board","caller","target"] a.aT
 aU:TG K mg (rc 4) "end_as_wanted" ["wanted","target"] a.aU
 L:TG K mg (rc 5) "route" ["board","caller","target","way"] a.L
 M:TG K mg (rc 7) "place_of_true" ["answers"] a.M
 ad:TG K mg (rc 9) "end_call" ["call","word"] a.ad
 aV:TG K mg (rc 10) "drop_phone" ["call","phone"] a.aV
 aW:TG K mg (rc 11) "change_call" ["call","event"] a.aW
 aX:TG K mg (rc 13) "call_picture" ["call"] a.aX
 ae:TG K mg (rc 14) "picture" ["board"] a.ae
 af:TG K mg (rc 20) "word_for_idling" ["board","phone"] a.af
 aY:TG K mg (rc 21) "word_for_call" ["board","phone","target"] a.aY
 aZ:TG K mg (rc 22) "suits" ["word","phone","calls"] a.aZ
 a0:TG K mg (rc 23) "word_for_numbers" ["board","word","phone","numbers"] a.a0
 a1:TG K mg (rc 24) "word_for_switch" ["board","word","number"] a.a1
 a2:TG K mg (rc 25) "refusal" ["board","deed"] a.a2
 a3:TG K mg (rc 26) "take_steps" ["board","number","steps"] a.a3
 a4:TG K mg (rc 27) "start_ringing" ["board","number","target","phones"] a.a4
 a5:TG K mg (rc 28) "break_in" ["board","number","target"] a.a5
 a6:TG K mg (rc 29) "come_to_end" ["board","number","end"] a.a6
 ag:TG K mg (rc 30) "go_on" ["board","number"] a.ag
 a7:TG K mg (rc 31) "make_call" ["board","phone","target"] a.a7
 a8:TG K mg (rc 32) "hang_up" ["board","phone","number"] a.a8
 a9:TG K mg (rc 33) "due_wishes" ["board","call"] a.a9
 ba:TG K mg (rc 34) "send_on" ["board","number","fits"] a.ba
 bb:TG K mg (rc 35) "let_turn_pass" ["board"] a.bb
 bc:TG K mg (rc 36) "event_of" ["board","deed"] a.bc
 bd:TG K mg (rc 37) "act" ["board","deed"] a.bd
 N:TG K mg (rc 38) "do" ["board","deed"] a.N
 O:TG K mg (rc 40) "is_busy" ["board","caller","target"] a.O
 be:TG K mg (rc 51) "wish_of" ["told"] a.be
 m:TG K mg (rc 66) "need" ["holds","words"] a.m
 ah:TG K mg (rc 67) "is_name" ["text"] a.ah
 ai:TG K mg (rc 68) "all_unlike" ["things"] a.ai
 P:TG K mg (rc 69) "is_choice" ["chosen","known","most"] a.P
 bf:TG K mg (rc 70) "check_phones" ["phones"] a.bf
 bg:TG K mg (rc 71) "check_groups" ["groups","phone_names"] a.bg
 bh:TG K mg (rc 72) "part_holds" ["kind","part","phone_names","names"] a.bh
 bi:TG K mg (rc 73) "check_wish" ["wish","phone_names","names"] a.bi
 bj:TG K mg (rc 74) "check_wishes" ["wishes","phone_names","names"] a.bj
 bk:TG K mg (rc 75) "check_plan" ["phones","groups","wishes"] a.bk
 J:TG K mg (rc 78) "_law_at" ["_law_script","_law_k"] a.J
 i:TG K mg (rc 79) "_law_draw" ["_law_cell","_law_factor","_law_many"] a.i
 aj:TG K mg (rc 80) "_law_word" ["_law_seed","_law_which"] a.aj
 Q:TG K mg (rc 81) "_law_some" ["_law_row","_law_cell","_law_most"] a.Q
 bl:TG K mg (rc 82) "_law_phones" ["_law_seed","_law_most"] a.bl
 bm:TG K mg (rc 83) "_law_groups" ["_law_seed","_law_own"] a.bm
 bn:TG K mg (rc 84) "_law_wish" ["_law_cell","_law_own","_law_names"] a.bn
 bo:TG K mg (rc 85) "_law_plan" ["_law_script","_law_most"] a.bo
 bp:TG K mg (rc 86) "_law_people" ["_law_call"] a.bp
 bq:TG K mg (rc 87) "_law_of_state" ["_law_board","_law_states"] a.bq
 br:TG K mg (rc 88) "_law_on_call" ["_law_board","_law_cell","_law_word_here","_law_states"] a.br
 bs:TG K mg (rc 89) "_law_any" ["_law_cell","_law_own","_law_names","_law_many"] a.bs
 bt:TG K mg (rc 90) "_law_deed" ["_law_board","_law_cell","_law_own","_law_names"] a.bt
 ak:TG K mg (rc 91) "_law_done" ["_law_board","_law_deed_here"] a.ak
 bu:TG K mg (rc 92) "_law_alike" ["_law_one","_law_other"] a.bu
 bv:TG K mg (rc 93) "_law_same_route" ["_law_one","_law_other","_law_caller","_law_target","_law_kept"] a.bv
 al:TG K mg (rc 94) "law" ["_law_script"] a.al
 H:MG K a.I (tm 18 0) "__init__" "NoDeed.__init__" ["self","word"] a.H
 R:MG K a.c (tm 12 0) "__init__" "Board.__init__" ["self","plan","hour"] a.R
 S:MG K a.h (tm 76 0) "__init__" "Plan.__init__" ["self","phones","groups","wishes"] a.S
 am:MG K a.r (tm 42 0) "__init__" "Bar.__init__" ["self","told"] a.am
 an:MG K a.t (tm 43 0) "__init__" "Shut.__init__" ["self","told"] a.an
 B:MG K a.aa (tm 44 0) "__init__" "Forward.__init__" ["self","told"] a.B
 ao:MG K a.n (tm 46 0) "__init__" "Night.__init__" ["self","told"] a.ao
 ap:MG K a.u (tm 48 0) "__init__" "Silent.__init__" ["self","told"] a.ap
 aq:MG K a.v (tm 49 0) "__init__" "Wait.__init__" ["self","told"] a.aq
 ar:MG K a.o (tm 50 0) "__init__" "Breaks.__init__" ["self","told"] a.ar
 T:MG K a.c (tm 12 3) "talk_of" "Board.talk_of" ["self","phone"] a.T
 au:MG K a.r (tm 42 1) "wants" "Bar.wants" ["self"] a.au
 av:MG K a.t (tm 43 1) "wants" "Shut.wants" ["self"] a.av
 A:MG K a.aa (tm 44 1) "wants" "Forward.wants" ["self"] a.A
 aw:MG K a.v (tm 49 1) "wants" "Wait.wants" ["self"] a.aw
 ax:MG K a.o (tm 50 1) "wants" "Breaks.wants" ["self"] a.ax
 F:MG K a.C (tm 41 0) "__init__" "Wish.__init__" ["self","told"] a.F
 U:MG K a.h (tm 76 2) "phone_names" "Plan.phone_names" ["self"] a.U
 k:MG K a.c (tm 12 12) "apply" "Board.apply" ["self","event"] a.k
 ay:MG K a.r (tm 42 2) "fits" "Bar.fits" ["self","board","caller","target"] a.ay
 az:MG K a.t (tm 43 2) "fits" "Shut.fits" ["self","board","caller","target"] a.az
 aA:MG K a.x (tm 45 0) "fits" "Always.fits" ["self","board","caller","target"] a.aA
 aB:MG K a.n (tm 46 2) "fits" "Night.fits" ["self","board","caller","target"] a.aB
 aC:MG K a.y (tm 47 0) "fits" "Busy.fits" ["self","board","caller","target"] a.aC
 aD:MG K a.u (tm 48 1) "fits" "Silent.fits" ["self","board","caller","target"] a.aD
 aE:MG K a.v (tm 49 2) "fits" "Wait.fits" ["self","board","caller","target"] a.aE
 aF:MG K a.o (tm 50 3) "fits" "Breaks.fits" ["self","board","caller","target"] a.aF
 bw:MG K a.h (tm 76 1) "names" "Plan.names" ["self"] a.bw
 V:MG K a.c (tm 12 2) "is_free" "Board.is_free" ["self","phone"] a.V
 aG:MG K a.e (tm 8 0) "__init__" "Call.__init__" ["self","caller"] a.aG
 X:MG K a.e (tm 8 2) "talks_with" "Call.talks_with" ["self","phone"] a.X
 aH:MG K a.e (tm 8 5) "waits_with" "Call.waits_with" ["self","phone"] a.aH
 Y:MG K a.e (tm 8 4) "is_tried_by" "Call.is_tried_by" ["self","phone"] a.Y
 bx:MG K a.c (tm 12 10) "add_leg" "Board.add_leg" ["self","leg"] a.bx
 bz:MG K a.c (tm 12 11) "merge" "Board.merge" ["self","merged","kept","members"] a.bz
 bA:MG K a.c (tm 12 9) "pass_turn" "Board.pass_turn" ["self"] a.bA
 aI:MG K a.e (tm 8 8) "other_than" "Call.other_than" ["self","phone"] a.aI
 bB:MG K a.n (tm 46 1) "has_hour" "Night.has_hour" ["self","hour"] a.bB
 bC:MG K a.c (tm 12 8) "hour_now" "Board.hour_now" ["self"] a.bC
 bD:MG K a.c (tm 12 6) "waits_at" "Board.waits_at" ["self","phone"] a.bD
 bE:MG K a.o (tm 50 2) "outranks" "Breaks.outranks" ["self","plan","members"] a.bE
 aJ:MG K a.c (tm 12 7) "ringable" "Board.ringable" ["self","caller","target"] a.aJ
 aK:MG K a.h (tm 76 6) "manner" "Plan.manner" ["self","name"] a.aK
 Z:MG K a.h (tm 76 5) "phones_of" "Plan.phones_of" ["self","name"] a.Z
 bF:MG K a.c (tm 12 4) "bound" "Board.bound" ["self","phone"] a.bF
 bG:MG K a.c (tm 12 5) "calling" "Board.calling" ["self","phone"] a.bG
 bH:MG K a.c (tm 12 1) "used" "Board.used" ["self","phone"] a.bH
 bI:MG K a.h (tm 76 3) "lines" "Plan.lines" ["self","phone"] a.bI
 bJ:MG K a.e (tm 8 7) "can_be_left_by" "Call.can_be_left_by" ["self","phone"] a.bJ
 aL:MG K a.e (tm 8 6) "pairs" "Call.pairs" ["self","phone"] a.aL
 q:MG K a.C (tm 41 4) "is_due" "Wish.is_due" ["self","call"] a.q
 aM:MG K a.u (tm 48 2) "is_due" "Silent.is_due" ["self","call"] a.aM
 l:MG K a.C (tm 41 1) "told" "Wish.told" ["self"] a.l
 aN:MG K a.h (tm 76 4) "rank" "Plan.rank" ["self","phone"] a.aN
 bK:MG K a.e (tm 8 3) "binds" "Call.binds" ["self","phone"] a.bK
 bL:MG K a.e (tm 8 1) "has" "Call.has" ["self","phone"] a.bL
 b2:Je K a.I a.H.f
 b3:yJ K a.I "word"
 b4:W.exmOne K (.ref a.I) (.ref a.I)=Fa pc
 bU:Mk K a.c a.R.f
 bV:Mk K a.h a.S.f
 b5:Mk K a.r a.am.f
 b6:Mk K a.t a.an.f
 b7:Mk K a.x a.B.f
 b8:Mk K a.n a.ao.f
 b9:Mk K a.y a.B.f
 ca:Mk K a.u a.ap.f
 cb:Mk K a.v a.aq.f
 cc:Mk K a.o a.ar.f
 cd:Mk K a.e a.aG.f
 ce:vL K a.x "wants" a.A.f
 cf:vL K a.n "wants" a.A.f
 cg:vL K a.y "wants" a.A.f
 ch:vL K a.u "wants" a.A.f
 ci:vL K a.r "is_due" a.q.f
 cj:vL K a.t "is_due" a.q.f
 ck:vL K a.x "is_due" a.q.f
 cl:vL K a.n "is_due" a.q.f
 cm:vL K a.y "is_due" a.q.f
 cn:vL K a.v "is_due" a.q.f
 co:vL K a.o "is_due" a.q.f
 cp:vL K a.r "told" a.l.f
 cq:vL K a.t "told" a.l.f
 cr:vL K a.x "told" a.l.f
 cs:vL K a.n "told" a.l.f
 ct:vL K a.y "told" a.l.f
 cu:vL K a.u "told" a.l.f
 cv:vL K a.v "told" a.l.f
 cw:vL K a.o "told" a.l.f
 aO:MM K a.C "__init__" a.F.f
 bW:MM K a.aa "__init__" a.B.f
 E:zv K a.c ["plan","hour","turn","calls","legs","nexts","on","log"]
 ab:zv K a.h ["phones","groups","wishes","on","phone_rows","group_rows"]
 bO:zv K a.r ["form","phone","targets"]
 bP:zv K a.t ["form","target","callers"]
 bQ:zv K a.x ["form","target","goal"]
 aP:zv K a.n ["form","target","goal","first","last"]
 bR:zv K a.y ["form","target","goal"]
 bM:zv K a.u ["form","target","goal","turns"]
 bX:zv K a.v ["form","phone"]
 bY:zv K a.o ["form","phone"]
 j:zv K a.e ["state","caller","way","at","members","holder","since","word"]
 aQ:mg "enumerate"=Db
 ac:mg "range"=Db
 g:mg "len"=Db
 bS:mg "dict"=Db
 z:mg "list"=Db
 w:mg "tuple"=Db
 cx:mg "sorted"=Db
 cy:mg "min"=Db
 cz:mg "set"=Db
 bN:mg "all"=Db
 cA:mg "zip"=Db
 cB:mg "any"=Db
 cC:KD K mg "MOST_PHONES" (.int 8)
 cD:KD K mg "MOST_LINES" (.int 3)
 cE:KD K mg "MOST_RANK" (.int 9)
 cF:KD K mg "MOST_GROUPS" (.int 3)
 cG:KD K mg "MANNERS" (.tup ((["all","turns"]:QQQ).map D.str))
 cH:KD K mg "MOST_MEMBERS" (.int 4)
 cI:KD K mg "MOST_WISHES" (.int 16)
 cJ:KD K mg "MOST_SIGNS" (.int 6)
 cK:KD K mg "LETTERS" (.str "abcdefghijklmnopqrstuvwxyz")
 bZ:Nw K mg "FORMS" Kd
 b0:KD K mg "MOST_LISTED" (.int 6)
 cL:KD K mg "LAST_HOUR" (.int 23)
 cM:KD K mg "MOST_TURNS" (.int 9)
noncomputable def qC(c f m:Int):Int:=(c % 2147483647+5)*f % 2147483629 / 89 % m
def qW{c f m:Int}(h:0<m):0<=qC c f m:=eK _ (by omega)
def qL{c f m:Int}(h:0<m):qC c f m<m:=eG _ h
def IM:rm:=λds M Q=>C4 λc f m=>ds=[.int c,.int f,.int m]/\0<m/\Q (.int (qC c f m)) M
noncomputable def uF:Str:="abcdefghijklmnopqrstuvwxyz"
noncomputable def uq(i:Int):Str:=⟨#[97+i.toNat]⟩
noncomputable def size(s:Int):Int:=1+s % 6
noncomputable def uC(s:Int):Int:=s / 6 % size s
noncomputable def xZ(s v:Int):Str:=yN (uq (s / 36 % 26)) (uC s)++uq ((s / 936+v) % 26)++yN (uq (s / 36 % 26)) (size s - 1 - uC s)
def Qp:rm:=λds M Q=>CA λs v=>ds=[.int s,.int v]/\Q (.str (xZ s v)) M
noncomputable def cell(ns:T0 Int)(i:Int):Int:=if 0<=i/\i<ns.length then ns.getD i.toNat 0 else 0
def TF:rm:=λds M Q=>CA λns i=>ds=[.rl (ns.map D.int),.int i]/\Q (.int (cell ns i)) M
def Gd(c:Int):0<size c:=by unfold size;have:=eK c (show(6:Int)≠0 by decide);omega
def Jt(c:Int):size c<=6:=by unfold size;have:=eG c (show(0:Int)<6 by decide);omega
def Gp(i n:Int):(yN (uq i) n).length=n.toNat:=by show((List.replicate n.toNat (uq i).cps).foldl (·++·) #[]:Array Nat).size=n.toNat;rw[JC];show n.toNat*1=n.toNat;omega
def AD:uF.length<=Ch:=by decide+kernel
variable {P:Pg}{w:Wo}{K:qw}{mg:QQZ}{base:No}{a:Ad}(G:Gl K mg a)
def qI:Fq P w K mg base 1 a.i IM:=by
 refine fq G.i.toDG FU (λr u=>⟨_,(pz (pG (pW (pW (pW (pW (pW (pW v0 pB) pB) U1) pB) pB) U2))),?_⟩)
 rintro ds M Q ⟨c,f,m,rfl,hm,q⟩
 refine⟨by decide,.inl ?_,by decide,⟨by decide,by decide⟩,hm,M,.refl,q⟩;have h1:0<=c % 2147483647:=eK _ (by decide);have h2:c % 2147483647<2147483647:=eG _ (by decide);exact⟨by omega,by omega⟩
def DN{i:Int}(h0:0<=i)(h1:i<26):wB uF.cps.toList i=Fa (97+i.toNat):=by
 obtain⟨n,rfl⟩:=d6 h0;have hn:n<26:=by omega
 have key:∀n:_root_.Fin 26,wB uF.cps.toList ((n.val:Nat):Int)=Fa (97+n.val):=by decide+kernel
 exact key ⟨n,hn⟩
def JH:Fq P w K mg base 1 a.aj Qp:=by
 refine fq G.aj.toDG ux (λr u=>⟨_,(pq (pO 2 ux pC)
 (pq (pO 3 ux (pW pB (pW v0 pB)))
 (pq (pO 4 ux (pW (pW v0 pB) U3))
 (pq (pO 5 ux (pL U2 (pW (pW v0 pB) pB)))
 (pq (pO 6 ux (pL U2 (pW (pW (pW v0 pB) U1) pB)))
 (pz (pG (pW (pW (pW v5 v4) v6) (pW v5 (pW (pW U3 pB) v4)))))))))),?_⟩)
 rintro ds M Q ⟨c,v,rfl,q⟩
 have hs:=Gd c;have hs6:=Jt c;have hp0:0<=uC c:=eK _ (by omega);have Yp:uC c<size c:=eG _ hs;have l1:=Gp (c / 36 % 26) (uC c);have l2:=Gp (c / 36 % 26) (size c - 1 - uC c);have hz:=dF;refine⟨by decide,⟨by decide,by decide⟩,hs,⟨by decide,by decide⟩,by decide,AD,pk (DN (eK _ (by decide)) (eG _ (by decide))) ?_⟩;refine⟨⟨by decide,by decide⟩,by decide,AD,pk (DN (eK _ (by decide)) (eG _ (by decide))) ?_⟩;refine⟨⟨?_,?_,?_⟩,?_,⟨?_,?_,?_⟩,?_,M,.refl,q⟩
 .show uC c<4096;omega
 .show -4096<uC c;omega
 .show(1:Nat)<4096;decide
 .show(yN (uq (c / 36 % 26)) (uC c)).length+1<=Ch;omega
 .show size c - 1 - uC c<4096;omega
 .show -4096<size c - 1 - uC c;omega
 .show(1:Nat)<4096;decide
 .show(yN (uq (c / 36 % 26)) (uC c)++uq ((c / 936+v) % 26)).length+(yN (uq (c / 36 % 26)) (size c - 1 - uC c)).length<=Ch;rw[PySem.size_cat];have:(uq ((c / 936+v) % 26)).length=1:=rfl;omega
def JO:Fq P w K mg base 1 a.J TF:=by
 refine fq G.J.toDG Kq (λr u=>⟨_,(pq (pT (F5 u pB U1 (pU qy rfl G.g qv (qm v0)))
 (pz (pG (pL v0 U1)))
 pN)
 (pz (pG pB))),?_⟩)
 rintro ds M Q ⟨ns,i,rfl,q⟩
 refine qK (λh0=>?_) (λh0=>?_)
 .have h0:0<=i:=fL h0;refine qK (λh1=>?_) (λh1=>?_)
  .have h1:i<((ns.map D.int).length:Int):=fL h1;rw[cO]at h1;have hi:i.toNat<ns.length:=by omega
   have e:wB (ns.map D.int) i=Fa (D.int (ns.getD i.toNat 0)):=by
    obtain⟨n,rfl⟩:=d6 h0;have hn:n<ns.length:=by omega
    refine uE ?_;rw[df,cQ hn];simp[hn]
   refine pk e ⟨M,.refl,?_⟩;have:cell ns i=ns.getD i.toNat 0:=by unfold cell;rw[cV ⟨h0,h1⟩]
   rw[<-this];exact q
  .have h1:¬i<((ns.map D.int).length:Int):=λz=>h1 (dP z);rw[cO]at h1;refine⟨M,.refl,?_⟩;have:cell ns i=0:=by unfold cell;rw[cS (λz=>h1 z.2)]
   rw[<-this];exact q
 .have h0:¬0<=i:=λz=>h0 (dP z);refine⟨M,.refl,?_⟩;have:cell ns i=0:=by unfold cell;rw[cS (λz=>h0 z.1)]
  rw[<-this];exact q
inductive Wi where
 | bar (x:Str) (ns:QQQ)|shut (x:Str) (ns:QQQ)|always (x y:Str)|night (x y:Str) (f l:Int)|busy (x y:Str)|silent (x y:Str) (n:Int)|wait (x:Str)|breaks (x:Str)
abbrev names(ns:QQQ):D:=.tup (ns.map D.str)
noncomputable def Wi.told:Wi->T0 D
 | .bar x ns=>[.str "bar",.str x,names ns]
 | .shut x ns=>[.str "shut",.str x,names ns]
 | .always x y=>[.str "always",.str x,.str y]
 | .night x y f l=>[.str "night",.str x,.str y,.int f,.int l]
 | .busy x y=>[.str "busy",.str x,.str y]
 | .silent x y n=>[.str "silent",.str x,.str y,.int n]
 | .wait x=>[.str "wait",.str x]
 | .breaks x=>[.str "breaks",.str x]
noncomputable def Wi.cls(a:Ad):Wi->Uf
 | .bar _ _=>a.r
 | .shut _ _=>a.t
 | .always _ _=>a.x
 | .night _ _ _ _=>a.n
 | .busy _ _=>a.y
 | .silent _ _ _=>a.u
 | .wait _=>a.v
 | .breaks _=>a.o
noncomputable def Wi.more:Wi->T0 (Str×D)
 | .bar x ns=>[("phone",.str x),("targets",names ns)]
 | .shut x ns=>[("target",.str x),("callers",names ns)]
 | .always x y=>[("target",.str x),("goal",.str y)]
 | .night x y f l=>[("target",.str x),("goal",.str y),("first",.int f),("last",.int l)]
 | .busy x y=>[("target",.str x),("goal",.str y)]
 | .silent x y n=>[("target",.str x),("goal",.str y),("turns",.int n)]
 | .wait x=>[("phone",.str x)]
 | .breaks x=>[("phone",.str x)]
noncomputable def Wi.nE(v:Wi):T0 (Str×D):=("form",.tup v.told)::v.more
abbrev CB(ns:QQQ)(i:Int):Str:=ns.getD i.toNat Str.empty
noncomputable def xo(row:QQQ)(c m:Int):Nat:=(1+qC c 40692 (if (row.length:Int)<m then(row.length:Int)else m)).toNat
noncomputable def UH(row:QQQ)(c:Int)(j:Nat):Str:=CB row ((qC c 69621 row.length+(0+(j:Nat))) % row.length)
noncomputable def vP(row:QQQ)(c m:Int):QQQ:=(List.range (xo row c m)).map (UH row c)
def P9:rm:=λds M Q=>CS λr c m row=>ds=[.ref r,.int c,.int m]/\oX M r=Fa (row.map D.str)/\row≠[]/\0<m/\row.length<=64/\Q (names (vP row c m)) M
def Jc{row:QQQ}(h:row≠[])(x:Int):wB (row.map D.str) (x % row.length)=Fa (D.str (CB row (x % row.length))):=by
 have hl:0<row.length:=fu.mpr h;have h0:0<=x % row.length:=eK _ (by omega);have h1:x % row.length<row.length:=eG _ (by omega);obtain⟨n,hn⟩:=d6 h0;rw[hn]at h1 ⊢;have Za:n<row.length:=by omega
 refine uE ?_;rw[df,cQ Za];simp[CB,Za]
def yg:Fq P w K mg base 2 a.Q P9:=by
 refine fq G.Q.toDG xD (λr u=>⟨_,(pq (pO 3 xD (pJ (qI G) r G.i (rb U1 pB (pU qy rfl G.g qv (qm v0)))))
 (pq (pO 4 xD (pW pB (pJ (qI G) r G.i (rb U1 pB (pU (RY rfl) rfl G.cy Sj (sf U2 (pU qy rfl G.g qv (qm v0))))))))
 (pz (pG (qg rX rfl G.w rZ (qm (qG rfl (xn (ix:=[Db,Fa 0,Fa 3]) (N':=["_law_j","_law_row","_law_first"])) (vp rfl G.ac (qm v4)) (qx 0) rH (pL U1 (pW (pW U2 v0) (pU qy rfl G.g qv (qm U1))))))))))),?_⟩)
 rintro ds M Q ⟨r,c,m,row,rfl,hl,XB,hm,h64,q⟩
 have Xi:0<row.length:=fu.mpr XB;have hz:=dF;have el:((row.map D.str).length:Int)=row.length:=by rw[cO]
 refine pk hl ⟨c,69621,_,rfl,by rw[el];omega,?_⟩;refine pk hl ⟨c,40692,_,rfl,by rw[el];split<;>omega,?_⟩;rw[el];have d0:=qW (c:=c) (f:=40692) (m:=if (row.length:Int)<m then(row.length:Int)else m) (by split<;>omega);have d1:=qL (c:=c) (f:=40692) (m:=if (row.length:Int)<m then(row.length:Int)else m) (by split<;>omega);have d2:qC c 40692 (if (row.length:Int)<m then(row.length:Int)else m)<row.length+1:=by refine Int.lt_of_lt_of_le d1 ?_;split<;>omega
 refine⟨rfl,⟨?_,?_⟩,ra (f:=λd=>match d with|.int j=>D.str (CB row ((qC c 69621 row.length+j) % row.length))|_=>.mG) trivial _ [] _ ?_ (λd hd k hk=>?_) λp hp=>?_⟩
 .show -(2 ^ 62)<=1+qC c 40692 (if (row.length:Int)<m then(row.length:Int)else m);omega
 .show 1+qC c 40692 (if (row.length:Int)<m then(row.length:Int)else m)<2 ^ 62;omega
 .rw[cO,dZ];show 0+xo row c m<=Ch;unfold xo;omega
 .obtain⟨j,_,rfl⟩:=dq.mp hd;refine pk hl ⟨by rw[el];omega,pk hl ?_⟩;rw[el];exact pk (Jc XB _) hk
 .refine pk (x:=(vP row c m).map D.str) ?_ ⟨M,.new hp,q⟩;unfold oX;rw[pR];show Fa ([]++((List.range (xo row c m)).map λi=>D.int (0+(i:Nat))).map _)=_;rw[dQ,dS];unfold vP;rw[dS];rfl
noncomputable def wJ(c:Int)(own all:QQQ):Wi:=
 let x:=CB own (qC c 16807 own.length);let pl:=qC c 39373 all.length;let y:=CB all pl;let z:=CB all ((pl+1+qC c 742938285 ((all.length:Int) - 1)) % all.length);let k:=qC c 1226874159 12
 if k=0 then .bar x (vP all c 3)
 else if k=1 then .shut y (vP own c 3)
 else if k=2 then .always y z
 else if k<5 then .night y z (qC c 22695477 24) ((qC c 22695477 24+1+qC c 48271 23) % 24)
 else if k<7 then .busy y z
 else if k<9 then .silent y z ([1,1,2,3,9].getD (qC c 950706376 5).toNat 0)
 else if k=9 then .wait x
 else .breaks x
def PR:rm:=λds M Q=>Hi λc o n own all=>ds=[.int c,.ref o,.ref n]/\oX M o=Fa (own.map D.str)/\oX M n=Fa (all.map D.str)/\own≠[]/\2<=all.length/\own.length<=64/\all.length<=64/\Q (.tup (wJ c own all).told) M
def Ig{row:QQQ}{x:Int}(h0:0<=x)(h1:x<row.length):wB (row.map D.str) x=Fa (D.str (CB row x)):=by
 obtain⟨n,rfl⟩:=d6 h0;have Za:n<row.length:=by omega
 refine uE ?_;rw[df,cQ Za];simp[CB,Za]
def Qg:Fq P w K mg base 3 a.bn PR:=by
 refine fq G.bn.toDG tQ (λr u=>⟨_,(pq (pO 3 tQ (pL U1 (pJ (qI G) r G.i (rb v0 pB (pU qy rfl G.g qv (qm U1))))))
 (pq (pO 4 tQ (pJ (qI G) r G.i (rb v0 pB (pU qy rfl G.g qv (qm U2)))))
 (pq (pO 5 tQ (pL U2 v4))
 (pq (pO 6 tQ (pL U2 (pW (pW (pW v4 pB) (pJ (qI G) r G.i (rb v0 pB (pW (pU qy rfl G.g qv (qm U2)) pB)))) (pU qy rfl G.g qv (qm U2)))))
 (pq (pO 7 tQ (pJ (qI G) r G.i (rb v0 pB pB)))
 (pq (pT (pK u v7 pB)
 (pz (pG (pP (rb pC U3 (pJ (yg G) r G.Q (rb U2 v0 pB))))))
 pN)
 (pq (pT (pK u v7 pB)
 (pz (pG (pP (rb pC v5 (pJ (yg G) r G.Q (rb U1 v0 pB))))))
 pN)
 (pq (pT (pK u v7 pB)
 (pz (pG (pP (rb pC v5 v6))))
 pN)
 (pq (pT (pK u v7 pB)
 (pq (pO 8 tQ (pJ (qI G) r G.i (rb v0 pB pB)))
 (pz (pG (pP (pX pC (pX v5 (rb v6 v8 (pW (pW (pW v8 pB) (pJ (qI G) r G.i (rb v0 pB pB))) pB))))))))
 pN)
 (pq (pT (pK u v7 pB)
 (pz (pG (pP (rb pC v5 v6))))
 pN)
 (pq (pT (pK u v7 pB)
 (pz (pG (pP (pX pC (rb v5 v6 (pL (pP (pX pB (pX pB (rb pB pB pB)))) (pJ (qI G) r G.i (rb v0 pB pB))))))))
 pN)
 (pq (pT (pK u v7 pB)
 (pz (pG (pP (sf pC U3))))
 pN)
 (pz (pG (pP (sf pC U3)))))))))))))))),?_⟩)
 rintro ds M Q ⟨c,o,n,own,all,rfl,ho,hn,XB,h2,l1,l2,q⟩
 have Xi:0<own.length:=fu.mpr XB;have hne2:all≠[]:=λz=>by rw[z]at h2;simp at h2
 have e1:((own.map D.str).length:Int)=own.length:=by rw[cO]
 have e2:((all.map D.str).length:Int)=all.length:=by rw[cO]
 have p1:(0:Int)<own.length:=by omega
 have p2:(0:Int)<all.length:=by omega
 have p3:(0:Int)<(all.length:Int) - 1:=by omega
 refine pk ho ⟨c,_,_,rfl,by rw[e1];exact p1,?_⟩;rw[e1];refine pk ho (pk (Ig (qW p1) (qL p1)) ?_);refine pk hn ⟨c,_,_,rfl,by rw[e2];exact p2,?_⟩;rw[e2];refine pk hn (pk (Ig (qW p2) (qL p2)) ?_);refine pk hn ⟨c,_,_,rfl,by rw[e2];exact p3,?_⟩;rw[e2];refine pk hn ⟨by rw[e2];exact p2,?_⟩;rw[e2];refine pk hn (pk (Jc hne2 _) ?_);refine⟨c,_,_,rfl,by decide,?_⟩;have Xh:∀t:T0 D,(wJ c own all).told=t->∃Xg,qr Xg M/\Q (.tup t) Xg:=λt e=>⟨M,.refl,e ▸ q⟩;have k0:0<=qC c 1226874159 12:=qW (by decide);refine qK (λh=>?_) (λh=>?_)
 .have h:qC c 1226874159 12=0:=by simpa using h
  refine⟨n,c,3,all,rfl,hn,hne2,by decide,l2,pb rfl,Xh _ ?_⟩;simp only[wJ,cV h,Wi.told]
 have h:¬qC c 1226874159 12=0:=by simpa using h
 refine qK (λg=>?_) (λg=>?_)
 .have g:qC c 1226874159 12=1:=by simpa using g
  refine⟨o,c,3,own,rfl,ho,XB,by decide,l1,pb rfl,Xh _ ?_⟩;simp only[wJ,cS h,cV g,Wi.told]
 have g:¬qC c 1226874159 12=1:=by simpa using g
 refine qK (λi=>?_) (λi=>?_)
 .have i:qC c 1226874159 12=2:=by simpa using i
  refine⟨pb rfl,Xh _ ?_⟩;simp only[wJ,cS h,cS g,cV i,Wi.told]
 have i:¬qC c 1226874159 12=2:=by simpa using i
 refine qK (λj=>?_) (λj=>?_)
 .have j:qC c 1226874159 12<5:=fL j;refine⟨c,_,_,rfl,by decide,c,_,_,rfl,by decide,by decide,pb rfl,Xh _ ?_⟩;simp only[wJ,cS h,cS g,cS i,cV j,Wi.told]
 have j:¬qC c 1226874159 12<5:=λz=>j (dP z);refine qK (λl=>?_) (λl=>?_)
 .have l:qC c 1226874159 12<7:=fL l;refine⟨pb rfl,Xh _ ?_⟩;simp only[wJ,cS h,cS g,cS i,cS j,cV l,Wi.told]
 have l:¬qC c 1226874159 12<7:=λz=>l (dP z);refine qK (λm=>?_) (λm=>?_)
 .have m:qC c 1226874159 12<9:=fL m;have d0:0<=qC c 950706376 5:=qW (by decide);have d1:qC c 950706376 5<5:=qL (by decide);have e:wB [D.int 1,.int 1,.int 2,.int 3,.int 9] (qC c 950706376 5)=Fa (D.int ([1,1,2,3,9].getD (qC c 950706376 5).toNat 0)):=by
   obtain⟨t,ht⟩:=d6 d0;rw[ht]at d1 ⊢;have:t<5:=by omega
   match t,this with
   | 0,_=>rfl
   | 1,_=>rfl
   | 2,_=>rfl
   | 3,_=>rfl
   | 4,_=>rfl
  refine⟨pb rfl,c,_,_,rfl,by decide,pk e ⟨pb rfl,Xh _ ?_⟩⟩;simp only[wJ,cS h,cS g,cS i,cS j,cS l,cV m,Wi.told]
 have m:¬qC c 1226874159 12<9:=λz=>m (dP z);refine qK (λr=>?_) (λr=>?_)
 .have r:qC c 1226874159 12=9:=by simpa using r
  refine⟨pb rfl,Xh _ ?_⟩;simp only[wJ,cS h,cS g,cS i,cS j,cS l,cS m,cV r,Wi.told]
 have r:¬qC c 1226874159 12=9:=by simpa using r
 refine⟨pb rfl,Xh _ ?_⟩;simp only[wJ,cS h,cS g,cS i,cS j,cS l,cS m,cS r,Wi.told]
def ML(K:qw):rm:=λds M Q=>C4 λp d C=>ds=[.ref p,d]/\M p=Fa (.ins C [])/\ut K C "form"/\Q .mG (pI M p (.ins C [("form",d)]))
def MD(K:qw):rm:=λds M Q=>Hi λp t x y C=>ds=[.ref p,.tup t]/\wB t 1=Fa x/\wB t 2=Fa y/\M p=Fa (.ins C [])/\ut K C "form"/\ut K C "target"/\ut K C "goal"/\Q .mG (pI M p (.ins C [("form",.tup t),("target",x),("goal",y)]))
def ye(a:Ad)(k:Wi->Prop):rm:=λds M Q=>CA λp v=>ds=[.ref p,.tup (Wi.told v)]/\k v/\M p=Fa (.ins (v.cls a) [])/\Q .mG (pI M p (.ins (v.cls a) v.nE))
def xI:Fq P w K mg base 1 a.F (ML K):=by
 refine fq G.F.toDG Fd (λr u=>⟨_,(pz (qd v0 U1)),?_⟩)
 rintro ds M Q ⟨p,d,C,rfl,hp,na,q⟩
 exact pA hp ⟨na,by decide,_,.refl,q⟩
def zw:Fq P w K mg base 2 a.B (MD K):=by
 refine fq G.B.toDG AW (λr u=>⟨_,(pq (pQ (yM G.aO (xI G) r G.C G.F.toDG (sf v0 U1)))
 (pq (qd v0 (pL U1 pB))
 (pz (qd v0 (pL U1 pB))))),?_⟩)
 rintro ds M Q ⟨p,t,x,y,C,rfl,e1,e2,hp,n1,n2,n3,q⟩
 refine⟨p,_,C,rfl,hp,n1,pk e1 (pA pR ⟨n2,by show 1<1000;decide,?_⟩)⟩;refine pk e2 (pA pR ⟨n3,by show 2<1000;decide,_,?_,q⟩);rw[rM,rM];exact .refl
def Rl:Fq P w K mg base 2 a.am (ye a λv=>∃x ns,v=.bar x ns):=by
 refine fq G.am.toDG GJ (λr u=>⟨_,(pq (pQ (yM G.aO (xI G) r G.C G.F.toDG (sf v0 U1)))
 (pq (qd v0 (pL U1 pB))
 (pz (qd v0 (pL U1 pB))))),?_⟩)
 rintro ds M Q ⟨p,v,rfl,⟨x,ns,rfl⟩,hp,q⟩
 refine⟨p,_,_,rfl,hp,(G.bO "form" rfl),pA pR ⟨(G.bO "phone" rfl),by show 1<1000;decide,?_⟩⟩;refine pA pR ⟨(G.bO "targets" rfl),by show 2<1000;decide,_,?_,q⟩;rw[rM,rM];exact .refl
def Of:Fq P w K mg base 2 a.an (ye a λv=>∃x ns,v=.shut x ns):=by
 refine fq G.an.toDG EO (λr u=>⟨_,(pq (pQ (yM G.aO (xI G) r G.C G.F.toDG (sf v0 U1)))
 (pq (qd v0 (pL U1 pB))
 (pz (qd v0 (pL U1 pB))))),?_⟩)
 rintro ds M Q ⟨p,v,rfl,⟨x,ns,rfl⟩,hp,q⟩
 refine⟨p,_,_,rfl,hp,(G.bP "form" rfl),pA pR ⟨(G.bP "target" rfl),by show 1<1000;decide,?_⟩⟩;refine pA pR ⟨(G.bP "callers" rfl),by show 2<1000;decide,_,?_,q⟩;rw[rM,rM];exact .refl
def LY:Fq P w K mg base 3 a.ao (ye a λv=>∃x y f l,v=.night x y f l):=by
 refine fq G.ao.toDG Dq (λr u=>⟨_,(pq (pQ (yM G.bW (zw G) r G.aa G.B.toDG (sf v0 U1)))
 (pq (qd v0 (pL U1 pB))
 (pz (qd v0 (pL U1 pB))))),?_⟩)
 rintro ds M Q ⟨p,v,rfl,⟨x,y,f,l,rfl⟩,hp,q⟩
 refine⟨p,_,_,_,_,rfl,rfl,rfl,hp,(G.aP "form" rfl),(G.aP "target" rfl),(G.aP "goal" rfl),pA pR ⟨(G.aP "first" rfl),by show 3<1000;decide,?_⟩⟩;refine pA pR ⟨(G.aP "last" rfl),by show 4<1000;decide,_,?_,q⟩;rw[rM,rM];exact .refl
def J8:Fq P w K mg base 3 a.ap (ye a λv=>∃x y n,v=.silent x y n):=by
 refine fq G.ap.toDG CK (λr u=>⟨_,(pq (pQ (yM G.bW (zw G) r G.aa G.B.toDG (sf v0 U1)))
 (pz (qd v0 (pL U1 pB)))),?_⟩)
 rintro ds M Q ⟨p,v,rfl,⟨x,y,n,rfl⟩,hp,q⟩
 refine⟨p,_,_,_,_,rfl,rfl,rfl,hp,(G.bM "form" rfl),(G.bM "target" rfl),(G.bM "goal" rfl),pA pR ⟨(G.bM "turns" rfl),by show 3<1000;decide,_,?_,q⟩⟩;rw[rM];exact .refl
def PP:Fq P w K mg base 2 a.aq (ye a λv=>∃x,v=.wait x):=by
 refine fq G.aq.toDG FJ (λr u=>⟨_,(pq (pQ (yM G.aO (xI G) r G.C G.F.toDG (sf v0 U1)))
 (pz (qd v0 (pL U1 pB)))),?_⟩)
 rintro ds M Q ⟨p,v,rfl,⟨x,rfl⟩,hp,q⟩
 refine⟨p,_,_,rfl,hp,(G.bX "form" rfl),pA pR ⟨(G.bX "phone" rfl),by show 1<1000;decide,_,?_,q⟩⟩;rw[rM];exact .refl
def Kc:Fq P w K mg base 2 a.ar (ye a λv=>∃x,v=.breaks x):=by
 refine fq G.ar.toDG Bs (λr u=>⟨_,(pq (pQ (yM G.aO (xI G) r G.C G.F.toDG (sf v0 U1)))
 (pz (qd v0 (pL U1 pB)))),?_⟩)
 rintro ds M Q ⟨p,v,rfl,⟨x,rfl⟩,hp,q⟩
 refine⟨p,_,_,rfl,hp,(G.bY "form" rfl),pA pR ⟨(G.bY "phone" rfl),by show 1<1000;decide,_,?_,q⟩⟩;rw[rM];exact .refl
def Ic(a:Ad):rm:=λds M Q=>∃v:Wi,ds=[.tup v.told]/\∀p,M p=Db->Q (.ref p) (pI M p (.ins (v.cls a) v.nE))
def Jg(a:Ad):rm:=λds M Q=>CA λp (v:Wi)=>ds=[.ref p]/\M p=Fa (.ins (v.cls a) v.nE)/\Q (.tup v.told) M
def HV:rm:=λds M Q=>∃p,ds=[.ref p]/\Q (.tup [.str "end"]) M
def NL:rm:=λds M Q=>∃p,ds=[.ref p]/\Q (.tup [.str "break"]) M
def QK:rm:=λds M Q=>CS λp C fs y=>ds=[.ref p]/\M p=Fa (.ins C fs)/\fs.lookup ("goal":Str)=Fa y/\Q (.tup [.str "to",y]) M
def QQ:rm:=λds M Q=>CS λp C fs y=>ds=[.ref p]/\M p=Fa (.ins C fs)/\fs.lookup ("phone":Str)=Fa y/\Q (.tup [.str "wait",y]) M
def Lc(a:Ad):Uf->rm->Prop:=λC sp=>(∃v:Wi,C=v.cls a)/\sp=Jg a
def JT(a:Ad):Uf->rm->Prop:=λC sp=>((C=a.r\/C=a.t)/\sp=HV)\/((C=a.x\/C=a.n\/C=a.y\/C=a.u)/\sp=QK)\/(C=a.v/\sp=QQ)\/(C=a.o/\sp=NL)
def HL:Fq P w K mg base 5 a.be (Ic a):=by
 refine fq G.be.toDG CQ (λr u=>⟨_,(pq (pO 1 CQ (pL v0 pB))
 (pq (pT (pK u U1 pC)
 (pz (pG (uO (Rl G) r G.r G.b5 G.am.toDG (qm v0))))
 pN)
 (pq (pT (pK u U1 pC)
 (pz (pG (uO (Of G) r G.t G.b6 G.an.toDG (qm v0))))
 pN)
 (pq (pT (pK u U1 pC)
 (pz (pG (uO (zw G) r G.x G.b7 G.B.toDG (qm v0))))
 pN)
 (pq (pT (pK u U1 pC)
 (pz (pG (uO (LY G) r G.n G.b8 G.ao.toDG (qm v0))))
 pN)
 (pq (pT (pK u U1 pC)
 (pz (pG (uO (zw G) r G.y G.b9 G.B.toDG (qm v0))))
 pN)
 (pq (pT (pK u U1 pC)
 (pz (pG (uO (J8 G) r G.u G.ca G.ap.toDG (qm v0))))
 pN)
 (pq (pT (pK u U1 pC)
 (pz (pG (uO (PP G) r G.v G.cb G.aq.toDG (qm v0))))
 pN)
 (pq (pT (pK u U1 pC)
 (pz (pG (uO (Kc G) r G.o G.cc G.ar.toDG (qm v0))))
 pN)
 (pz Gm)))))))))),?_⟩)
 rintro ds M Q ⟨v,rfl,q⟩
 have Xh:∀(x:Uf) (c0 c1:vb) (C:Uf) (fs:T0 (Str×D)),M x=Db->Q (.ref x) (pI M x c1)->∃Xg,qr Xg (pI (pI M x c0) x c1)/\Q (.ref x) Xg:=λx c0 c1 C fs hx q=>⟨_,by rw[rM];exact .refl,q⟩;cases v with
 | bar x ns=>exact λp hp=>⟨p,.bar x ns,rfl,⟨_,_,rfl⟩,pR,rfl,Xh p _ _ 0 [] hp (q p hp)⟩
 | shut x ns=>exact λp hp=>⟨p,.shut x ns,rfl,⟨_,_,rfl⟩,pR,rfl,Xh p _ _ 0 [] hp (q p hp)⟩
 | always x y=>exact λp hp=>⟨p,_,_,_,_,rfl,rfl,rfl,pR,(G.bQ "form" rfl),(G.bQ "target" rfl),(G.bQ "goal" rfl),rfl,Xh p _ _ 0 [] hp (q p hp)⟩
 | night x y f l=>exact λp hp=>⟨p,.night x y f l,rfl,⟨_,_,_,_,rfl⟩,pR,rfl,Xh p _ _ 0 [] hp (q p hp)⟩
 | busy x y=>exact λp hp=>⟨p,_,_,_,_,rfl,rfl,rfl,pR,(G.bR "form" rfl),(G.bR "target" rfl),(G.bR "goal" rfl),rfl,Xh p _ _ 0 [] hp (q p hp)⟩
 | silent x y n=>exact λp hp=>⟨p,.silent x y n,rfl,⟨_,_,_,rfl⟩,pR,rfl,Xh p _ _ 0 [] hp (q p hp)⟩
 | wait x=>exact λp hp=>⟨p,.wait x,rfl,⟨_,rfl⟩,pR,rfl,Xh p _ _ 0 [] hp (q p hp)⟩
 | breaks x=>exact λp hp=>⟨p,.breaks x,rfl,⟨_,rfl⟩,pR,rfl,Xh p _ _ 0 [] hp (q p hp)⟩
def Og:Fq P w K mg base 1 a.l (Jg a):=by
 refine fq G.l.toDG Fp (λr u=>⟨_,(pz (pG (pE v0))),?_⟩)
 rintro ds M Q ⟨p,v,rfl,hp,q⟩
 exact pA hp (pk rfl ⟨M,.refl,q⟩)
def Pp:Fq P w K mg base 1 a.au HV:=by
 refine fq G.au.toDG EV (λr u=>⟨_,(pz (pG (pP (qm pC)))),?_⟩)
 rintro ds M Q ⟨p,rfl,q⟩
 exact⟨pb rfl,M,.refl,q⟩
def L8:Fq P w K mg base 1 a.av HV:=by
 refine fq G.av.toDG Dk (λr u=>⟨_,(pz (pG (pP (qm pC)))),?_⟩)
 rintro ds M Q ⟨p,rfl,q⟩
 exact⟨pb rfl,M,.refl,q⟩
def vT:Fq P w K mg base 1 a.A QK:=by
 refine fq G.A.toDG Av (λr u=>⟨_,(pz (pG (pP (sf pC (pE v0))))),?_⟩)
 rintro ds M Q ⟨p,C,fs,y,rfl,hp,e,q⟩
 exact pA hp (pk e ⟨pb rfl,M,.refl,q⟩)
def LK:Fq P w K mg base 1 a.aw QQ:=by
 refine fq G.aw.toDG CW (λr u=>⟨_,(pz (pG (pP (sf pC (pE v0))))),?_⟩)
 rintro ds M Q ⟨p,C,fs,y,rfl,hp,e,q⟩
 exact pA hp (pk e ⟨pb rfl,M,.refl,q⟩)
def Io:Fq P w K mg base 1 a.ax NL:=by
 refine fq G.ax.toDG AN (λr u=>⟨_,(pz (pG (pP (qm pC)))),?_⟩)
 rintro ds M Q ⟨p,rfl,q⟩
 exact⟨pb rfl,M,.refl,q⟩
def Q7:∀C sp,Lc a C sp->x9 P w K mg base 1 "told" C (NY K sp):=by
 rintro C sp ⟨⟨v,rfl⟩,rfl⟩
 have F:=Og (P:=P) (w:=w) (base:=base) G;cases v with
 | bar _ _=>exact⟨G.r.toCls,_,_,_,G.cp,F,G.l.b⟩
 | shut _ _=>exact⟨G.t.toCls,_,_,_,G.cq,F,G.l.b⟩
 | always _ _=>exact⟨G.x.toCls,_,_,_,G.cr,F,G.l.b⟩
 | night _ _ _ _=>exact⟨G.n.toCls,_,_,_,G.cs,F,G.l.b⟩
 | busy _ _=>exact⟨G.y.toCls,_,_,_,G.ct,F,G.l.b⟩
 | silent _ _ _=>exact⟨G.u.toCls,_,_,_,G.cu,F,G.l.b⟩
 | wait _=>exact⟨G.v.toCls,_,_,_,G.cv,F,G.l.b⟩
 | breaks _=>exact⟨G.o.toCls,_,_,_,G.cw,F,G.l.b⟩
def PZ:∀C sp,JT a C sp->x9 P w K mg base 1 "wants" C (NY K sp):=by
 rintro C sp (⟨rfl|rfl,rfl⟩|⟨rfl|rfl|rfl|rfl,rfl⟩|⟨rfl,rfl⟩|⟨rfl,rfl⟩)
 .exact⟨G.r.toCls,_,_,_,G.au.mZ,Pp G,G.au.b⟩
 .exact⟨G.t.toCls,_,_,_,G.av.mZ,L8 G,G.av.b⟩
 .exact⟨G.x.toCls,_,_,_,G.ce,vT G,G.A.b⟩
 .exact⟨G.n.toCls,_,_,_,G.cf,vT G,G.A.b⟩
 .exact⟨G.y.toCls,_,_,_,G.cg,vT G,G.A.b⟩
 .exact⟨G.u.toCls,_,_,_,G.ch,vT G,G.A.b⟩
 .exact⟨G.v.toCls,_,_,_,G.aw.mZ,LK G,G.aw.b⟩
 .exact⟨G.o.toCls,_,_,_,G.ax.mZ,Io G,G.ax.b⟩
noncomputable def uK(x:Str):Bool:=decide ((1:Int)<=x.length)&&(decide ((x.length:Int)<=6)&&x.cps.toList.all λc=>Dy ⟨#[c]⟩ uF)
def Ib:rm:=λds M Q=>∃x:Str,ds=[.str x]/\x.length<=1000/\Q (.bl (uK x)) M
def Jo:rm:=λds M Q=>∃w,ds=[.bl pc,w]/\Q .mG M
noncomputable def xh(ss:QQQ):Bool:=((tE ss).length:Int)==(ss.length:Int)
def R1(M:Mp)(x:D)(ss:QQQ):Prop:=x=.tup (ss.map D.str)\/∃a,x=.ref a/\oX M a=Fa (ss.map D.str)
def KH:rm:=λds M Q=>CA λx ss=>ds=[x]/\R1 M x ss/\ss.length<4000/\Q (.bl (xh ss)) M
def zF{α:Type}(f:α->Bool)(l:List α):(l.map f).all id=l.all f:=by rw[jy];rfl
def sJ(x:Str)(ss:QQQ):inD (.str x) (ss.map D.str)=ss.any (·==x):=by unfold inD;rw[jD];rfl
theorem qA:∀ss:QQQ,(ss.map D.str).all vk=pc
 | []=>rfl
 | _::r=>by rw[dN,eR,qA r];rfl
noncomputable def sP(cs ks:QQQ)(m:Int):Bool:=decide ((1:Int)<=cs.length)&&(decide ((cs.length:Int)<=m)&&(xh cs&&cs.all λc=>ks.any (·==c)))
def KZ:rm:=λds M Q=>CS λcs ks k m=>ds=[.tup (cs.map D.str),.ref k,.int m]/\oX M k=Fa (ks.map D.str)/\cs.length<4000/\Q (.bl (sP cs ks m)) M
def Cq:Fq P w K mg base 1 a.ah Ib:=by
 refine fq G.ah.toDG Hv (λr u=>⟨_,(pz (pG (sV (uA u pB (pU qy rfl G.g qv (qm v0)) (sX rfl G.cJ)) (sj (pU (E1 rfl) rfl G.bN Fs (qm (qG rfl (xn (ix:=[Db]) (N':=["sign"])) (qH v0) (qx 0) rH (qh u v0 (sX rfl G.cK))))))))),?_⟩)
 rintro ds M Q ⟨x,rfl,hl,q⟩
 have hz:=dF;refine⟨by omega,qK (λh1=>?_) (λh1=>?_)⟩
 .refine qK (λh2=>?_) (λh2=>?_)
  .refine ra (f:=λd=>match d with|.str z=>D.bl (Dy z uF)|_=>.mG) trivial _ [] _ ?_ (λd hd k hk=>?_) λp hp=>?_
   .rw[cO];have:x.cps.toList.length=x.length:=by simp[Str.length]
    simp only[dB];omega
   .obtain⟨c,_,rfl⟩:=dq.mp hd;exact hk
   .refine pk pH ?_;have e:([]++(x.cps.toList.map λc=>D.str ⟨#[c]⟩).map λd=>match d with|.str z=>D.bl (Dy z uF)|_=>.mG)=x.cps.toList.map λc=>D.bl (Dy ⟨#[c]⟩ uF):=by rw[dQ,dS];rfl
    rw[e];refine pk (yo (λc=>Dy ⟨#[c]⟩ uF) x.cps.toList) ⟨M,.new hp,?_⟩;rw[zF];have:uK x=x.cps.toList.all λc=>Dy ⟨#[c]⟩ uF:=by unfold uK;rw[h1,h2];rfl
    rw[<-this];exact q
  .refine⟨M,.refl,?_⟩;have:uK x=lf:=by
    unfold uK;have h2:decide ((x.length:Int)<=6)=lf:=by simpa using h2
    rw[h2];simp
   rw[<-this];exact q
 .refine⟨M,.refl,?_⟩;have:uK x=lf:=by
   unfold uK;have h1:decide ((1:Int)<=x.length)=lf:=by simpa using h1
   rw[h1];rfl
  rw[<-this];exact q
def tw:Fq P w K mg base 1 a.m Jo:=by
 refine fq G.m.toDG Oo (λr u=>⟨_,(pz (pT (xc (uM v0))
 (pz Gm)
 pN)),?_⟩)
 rintro ds M Q ⟨x,rfl,q⟩
 exact⟨M,.refl,q⟩
def Ea:Fq P w K mg base 1 a.ai KH:=by
 refine fq G.ai.toDG Dg (λr u=>⟨_,(pz (pG (qh u (KA rfl v0 rfl G.g rfl G.cz qv SN) (pU qy rfl G.g qv (qm v0))))),?_⟩)
 rintro ds M Q ⟨x,ss,rfl,hx,hl,q⟩
 have key:((ss.map D.str).length:Int)=ss.length:=by rw[cO]
 rcases hx with rfl|⟨b,rfl,hb⟩
 .refine pk (L3.BL ss) ⟨hl,M,.refl,?_⟩;rw[key];exact q
 .refine pk hb (pk (L3.BL ss) ⟨hl,pk hb ⟨M,.refl,?_⟩⟩);rw[key];exact q
def Ae:Fq P w K mg base 2 a.P KZ:=by
 refine fq G.P.toDG FQ (λr u=>⟨_,(pz (pG (sV (uA u pB (pU qy rfl G.g qv (qm v0)) U2) (sV (pJ (Ea G) r G.ai (qm v0)) (sj (pU (E1 rfl) rfl G.bN Fs (qm (qG rfl (xn (ix:=[Db,Fa 1]) (N':=["name","known"])) (qH v0) (qx 0) rH (qh u v0 U1))))))))),?_⟩)
 rintro ds M Q ⟨cs,ks,k,m,rfl,hk,hl,q⟩
 have hz:=dF;have key:((cs.map D.str).length:Int)=cs.length:=by rw[cO]
 have end_:∀b:Bool,sP cs ks m=b->∃Xg,qr Xg M/\Q (.bl b) Xg:=λb e=>⟨M,.refl,e ▸ q⟩;refine qK (λh1=>?_) (λh1=>?_)
 .have h1:decide ((1:Int)<=cs.length)=pc:=by rw[<-key];exact h1
  refine qK (λh2=>?_) (λh2=>?_)
  .have h2:decide ((cs.length:Int)<=m)=pc:=by rw[<-key];exact h2
   refine⟨_,cs,rfl,.inl rfl,hl,qK (λh3=>?_) (λh3=>?_)⟩
   .refine ra (f:=λd=>match d with|.str z=>D.bl (ks.any (·==z))|_=>.mG) trivial _ [] _ ?_ (λd hd k0 hk0=>?_) λp hp=>?_
    .rw[cO];simp only[dB];omega
    .obtain⟨c,_,rfl⟩:=dq.mp hd;refine pk hk ⟨rfl,qA ks,?_⟩;show k0 (.bl (inD (.str c) (ks.map D.str))) M;rw[sJ];exact hk0
    .refine pk pH ?_;have e:([]++(cs.map D.str).map λd=>match d with|.str z=>D.bl (ks.any (·==z))|_=>.mG)=cs.map λc=>D.bl (ks.any (·==c)):=by rw[dQ,dS];rfl
     rw[e];refine pk (yo (λc=>ks.any (·==c)) cs) ⟨M,.new hp,?_⟩;rw[zF];have:sP cs ks m=cs.all λc=>ks.any (·==c):=by unfold sP;rw[h1,h2,h3];rfl
     rw[<-this];exact q
   .refine end_ _ ?_;unfold sP;have h3:xh cs=lf:=by simpa using h3
    rw[h3];simp
  .refine end_ _ ?_;unfold sP;have h2:decide ((cs.length:Int)<=m)=lf:=by
    rw[<-key]
    simpa using h2
   rw[h2];simp
 .refine end_ _ ?_;unfold sP;have h1:decide ((1:Int)<=cs.length)=lf:=by
   rw[<-key]
   simpa using h1
  rw[h1];rfl
abbrev uP:=Str×Int×Int
abbrev uJ:=Str×Str×QQQ
abbrev tI:=Bool×Wi
noncomputable def qY(p:uP):D:=.tup [.str p.1,.int p.2.1,.int p.2.2]
noncomputable def rf(g:uJ):D:=.tup [.str g.1,.str g.2.1,names g.2.2]
noncomputable def tH(w:tI):D:=.tup [.bl w.1,.tup w.2.told]
structure ED(p:uP):Prop where
 len:p.1.length<=1000
 nm:uK p.1=pc
 l1:1<=p.2.1
 l2:p.2.1<=3
 r1:0<=p.2.2
 r2:p.2.2<=9
structure Fv(pn:QQQ)(g:uJ):Prop where
 len:g.1.length<=1000
 nm:uK g.1=pc
 man:g.2.1="all"\/g.2.1="turns"
 pb:g.2.2.length<4000
 mem:sP g.2.2 pn 4=pc
def xA(ss:QQQ)(x:Str):Prop:=ss.any (·==x)=pc
def B4(pn nm:QQQ):Wi->Prop
 | .bar x ns=>xA pn x/\ns.length<4000/\sP ns nm 6=pc
 | .shut x ns=>xA nm x/\ns.length<4000/\sP ns pn 6=pc
 | .always x y=>xA nm x/\xA nm y/\x≠y
 | .night x y f l=>xA nm x/\xA nm y/\x≠y/\(0<=f/\f<=23)/\(0<=l/\l<=23)/\f≠l
 | .busy x y=>xA nm x/\xA nm y/\x≠y
 | .silent x y n=>xA nm x/\xA nm y/\x≠y/\1<=n/\n<=9
 | .wait x=>xA pn x
 | .breaks x=>xA pn x
inductive xN(pn nm:QQQ):Str->D->Prop
 | mU (x:Str) (h:xA pn x):xN pn nm "phone" (.str x)
 | name (x:Str) (h:xA nm x):xN pn nm "name" (.str x)
 | mD (cs:QQQ) (l:cs.length<4000) (h:sP cs pn 6=pc):xN pn nm "phones" (names cs)
 | names (cs:QQQ) (l:cs.length<4000) (h:sP cs nm 6=pc):xN pn nm "names" (names cs)
 | hour (i:Int) (h0:0<=i) (h1:i<=23):xN pn nm "hour" (.int i)
 | turns (i:Int) (h0:1<=i) (h1:i<=9):xN pn nm "turns" (.int i)
def JP:rm:=λds M Q=>KR λk d pl nl (pn nm:QQQ)=>ds=[.str k,d,.ref pl,.ref nl]/\oX M pl=Fa (pn.map D.str)/\oX M nl=Fa (nm.map D.str)/\xN pn nm k d/\Q (.bl pc) M
def Bf:rm:=λds M Q=>CA λr (ps:List uP)=>ds=[.ref r]/\oX M r=Fa (ps.map qY)/\1<=ps.length/\ps.length<=8/\(∀p∈ps,ED p)/\Q .mG M
def Be:rm:=λds M Q=>CS λr (gs:List uJ) pl (pn:QQQ)=>ds=[.ref r,.ref pl]/\oX M r=Fa (gs.map rf)/\oX M pl=Fa (pn.map D.str)/\gs.length<=3/\(∀g∈gs,Fv pn g)/\Q .mG M
def CY:rm:=λds M Q=>Hi λv pl nl (pn nm:QQQ)=>ds=[.tup (Wi.told v),.ref pl,.ref nl]/\oX M pl=Fa (pn.map D.str)/\oX M nl=Fa (nm.map D.str)/\B4 pn nm v/\Q .mG M
def AU:rm:=λds M Q=>KR λr (ws:List tI) pl nl (pn nm:QQQ)=>ds=[.ref r,.ref pl,.ref nl]/\oX M r=Fa (ws.map tH)/\oX M pl=Fa (pn.map D.str)/\oX M nl=Fa (nm.map D.str)/\ws.length<=16/\(∀w∈ws,B4 pn nm w.2)/\Q .mG M
def WJ(h:xA ss x):inD (.str x) (ss.map D.str)=pc:=by rw[sJ];exact h
def OU:Fq P w K mg base 3 a.bh JP:=by
 refine fq G.bh.toDG Dh (λr u=>⟨_,(pq (pT (pK u v0 pC)
 (pz (pG (qh u U1 U2)))
 pN)
 (pq (pT (pK u v0 pC)
 (pz (pG (qh u U1 U3)))
 pN)
 (pq (pT (pK u v0 pC)
 (pz (pG (pJ (Ae G) r G.P (rb U1 U2 (sX rfl G.b0)))))
 pN)
 (pq (pT (pK u v0 pC)
 (pz (pG (pJ (Ae G) r G.P (rb U1 U3 (sX rfl G.b0)))))
 pN)
 (pq (pT (pK u v0 pC)
 (pz (pG (uA u pB U1 (sX rfl G.cL))))
 pN)
 (pz (pG (uA u pB U1 (sX rfl G.cM))))))))),?_⟩)
 rintro ds M Q ⟨k,d,pl,nl,pn,nm,rfl,hp,hn,ok,q⟩
 cases ok with
 | mU x h=>refine pk hp ⟨rfl,qA pn,M,.refl,?_⟩;show Q (.bl (inD (.str x) (pn.map D.str))) M;rw[WJ h];exact q
 | name x h=>refine pk hn ⟨rfl,qA nm,M,.refl,?_⟩;show Q (.bl (inD (.str x) (nm.map D.str))) M;rw[WJ h];exact q
 | mD cs l h=>exact⟨cs,pn,pl,6,rfl,hp,l,M,.refl,by rw[h];exact q⟩
 | names cs l h=>exact⟨cs,nm,nl,6,rfl,hn,l,M,.refl,by rw[h];exact q⟩
 | hour i h0 h1=>refine AM (c:=decide (0<=i)) (dP h0) ⟨M,.refl,?_⟩;show Q (.bl (decide (i<=23))) M;rw[dP h1];exact q
 | turns i h0 h1=>refine AM (c:=decide (1<=i)) (dP h0) ⟨M,.refl,?_⟩;show Q (.bl (decide (i<=9))) M;rw[dP h1];exact q
def AY:Fq P w K mg base 2 a.bf Bf:=by
 refine fq G.bf.toDG uh (λr u=>⟨_,(pq (pQ (pJ (tw G) r G.m (sf (uA u pB (pU qy rfl G.g qv (qm v0)) (sX rfl G.cC)) pC)))
 (pz (uZ fj rfl (qH v0) (tY (n:=3) rfl (qk (rC 1 uh) (qk (rC 2 uh) (qk (rC 3 uh) sQ))))
 (pq (pQ (pJ (tw G) r G.m (sf (pJ (Cq G) r G.ah (qm U1)) pC)))
 (pq (pQ (pJ (tw G) r G.m (sf (uA u pB U2 (sX rfl G.cD)) pC)))
 (pz (pQ (pJ (tw G) r G.m (sf (uA u pB U3 (sX rfl G.cE)) pC))))))))),?_⟩)
 rintro ds M Q ⟨r,ps,rfl,XZ,h1,h8,mK,q⟩
 have el:((ps.map qY).length:Int)=ps.length:=by rw[cO]
 refine pk XZ (AM (c:=decide ((1:Int)<=(ps.map qY).length)) (dP (by omega)) ⟨_,by rw[dP (show((ps.map qY).length:Int)<=8 by omega)],pk XZ ?_⟩);refine Bi (λU M'=>M=M'/\∃x y z,U=[Fa (.ref r),x,y,z]) (λU M' j=>by rw[<-j.1];exact XZ) _ _ _ ⟨rfl,Db,Db,Db,rfl⟩ ?_ ?_
 .rintro d hd U M' ⟨rfl,x,y,z,rfl⟩ nx Xq
  obtain⟨p,hp,rfl⟩:=dq.mp hd;have o:=mK p hp;refine⟨rfl,⟨p.1,rfl,o.len,_,by rw[o.nm],?_⟩⟩;refine AM (c:=decide ((1:Int)<=p.2.1)) (dP o.l1) ⟨_,by rw[dP (show p.2.1<=3 from o.l2)],?_⟩;refine AM (c:=decide ((0:Int)<=p.2.2)) (dP o.r1) ⟨_,by rw[dP (show p.2.2<=9 from o.r2)],?_⟩;exact Xq _ _ ⟨rfl,_,_,_,rfl⟩
 .rintro U M' ⟨rfl,x,y,z,rfl⟩
  exact⟨M,.refl,q⟩
def A7:Fq P w K mg base 3 a.bg Be:=by
 refine fq G.bg.toDG ul (λr u=>⟨_,(pq (pQ (pJ (tw G) r G.m (sf (qh u (pU qy rfl G.g qv (qm v0)) (sX rfl G.cF)) pC)))
 (pz (uZ fj rfl (qH v0) (tY (n:=3) rfl (qk (rC 2 ul) (qk (rC 3 ul) (qk (rC 4 ul) sQ))))
 (pq (pQ (pJ (tw G) r G.m (sf (pJ (Cq G) r G.ah (qm U2)) pC)))
 (pq (pQ (pJ (tw G) r G.m (sf (qh u U3 (sX rfl G.cG)) pC)))
 (pz (pQ (pJ (tw G) r G.m (sf (pJ (Ae G) r G.P (rb v4 U1 (sX rfl G.cH))) pC))))))))),?_⟩)
 rintro ds M Q ⟨r,gs,pl,pn,rfl,XZ,hp,h3,mK,q⟩
 have el:((gs.map rf).length:Int)=gs.length:=by rw[cO]
 refine pk XZ ⟨_,by rw[dP (show((gs.map rf).length:Int)<=3 by omega)],pk XZ ?_⟩;refine Bi (λU M'=>M=M'/\∃x y z,U=[Fa (.ref r),Fa (.ref pl),x,y,z]) (λU M' j=>by rw[<-j.1];exact XZ) _ _ _ ⟨rfl,Db,Db,Db,rfl⟩ ?_ ?_
 .rintro d hd U M' ⟨rfl,x,y,z,rfl⟩ nx Xq
  obtain⟨g,hg,rfl⟩:=dq.mp hd;have o:=mK g hg;refine⟨rfl,⟨g.1,rfl,o.len,_,by rw[o.nm],?_⟩⟩;have hm:inD (.str g.2.1) [.str "all",.str "turns"]=pc:=by rcases o.man with e|e<;>(rw[e];rfl)
  refine⟨rfl,rfl,.str "a group's manner is all or turns",eE (λb=>[D.bl b,D.str "a group's manner is all or turns"]) hm,?_⟩;refine⟨g.2.2,pn,pl,4,rfl,hp,o.pb,_,by rw[o.mem],?_⟩;exact Xq _ _ ⟨rfl,_,_,_,rfl⟩
 .rintro U M' ⟨rfl,x,y,z,rfl⟩
  exact⟨M,.refl,q⟩
def C9:Fq P w K mg base 4 a.bi CY:=by
 refine fq G.bi.toDG ug (λr u=>⟨_,(pq (pQ (pJ (tw G) r G.m (sf (Lr G.bZ rfl (pL v0 pB)) pC)))
 (pq (pO 3 ug (Kg G.bZ rfl (pL v0 pB)))
 (pq (pO 4 ug (rP v0 (sO pB) sR))
 (pq (pQ (pJ (tw G) r G.m (sf (qh u (pU qy rfl G.g qv (qm v4)) (pU qy rfl G.g qv (qm U3))) pC)))
 (pq (uZ fj rfl (Rz rfl G.cA (sf U3 v4)) (tY (n:=2) rfl (qk (rC 5 ug) (qk (rC 6 ug) sQ)))
 (pz (pQ (pJ (tw G) r G.m (sf (pJ (OU G) r G.bh (pX v5 (rb v6 U1 U2))) pC)))))
 (pq (pT (pK u (rP U3 sR (sO pB)) (pP (sf pC pC)))
 (pz (pQ (pJ (tw G) r G.m (sf (qh u (pL v4 pB) (pL v4 pB)) pC))))
 pN)
 (pz (pT (pK u (rP U3 (sO pB) sR) (pP (sf pC pC)))
 (pz (pQ (pJ (tw G) r G.m (sf (qh u (pL v4 pB) (pL v4 pB)) pC))))
 pN)))))))),?_⟩)
 rintro ds M Q ⟨v,pl,nl,pn,nm,rfl,hp,hn,ok,q⟩
 have part:∀{k:Str} {d:D} {C:DK},xN pn nm k d->C (.bl pc) M->JP [.str k,d,.ref pl,.ref nl] M C:=λo c=>⟨_,_,pl,nl,pn,nm,rfl,hp,hn,o,c⟩;have need:∀{x:D} {C:DK},C .mG M->Jo [.bl pc,x] M C:=λc=>⟨_,rfl,c⟩;have ne:∀{x y:Str},x≠y->(!(x==y))=pc:=λh=>by simpa using h
 have nei:∀{x y:Int},x≠y->(!(x==y))=pc:=λh=>by simpa using h
 have Xh:∃Xg,qr Xg M/\Q .mG Xg:=⟨M,.refl,q⟩;cases v with
 | bar x ns=>obtain⟨h1,h2,h3⟩:=ok;refine⟨_,rfl,_,rfl,?_⟩;refine⟨rfl,_,_,pl,nl,pn,nm,rfl,hp,hn,.mU x h1,_,rfl,trivial,⟨rfl,_,_,pl,nl,pn,nm,rfl,hp,hn,.names ns h2 h3,_,rfl,trivial,?_⟩⟩;exact⟨pb rfl,pb rfl,Xh⟩
 | shut x ns=>obtain⟨h1,h2,h3⟩:=ok;refine⟨_,rfl,_,rfl,?_⟩;refine⟨rfl,_,_,pl,nl,pn,nm,rfl,hp,hn,.name x h1,_,rfl,trivial,⟨rfl,_,_,pl,nl,pn,nm,rfl,hp,hn,.mD ns h2 h3,_,rfl,trivial,?_⟩⟩;exact⟨pb rfl,pb rfl,Xh⟩
 | always x y=>obtain⟨h1,h2,h3⟩:=ok;refine⟨_,rfl,_,rfl,?_⟩;refine⟨rfl,_,_,pl,nl,pn,nm,rfl,hp,hn,.name x h1,_,rfl,trivial,⟨rfl,_,_,pl,nl,pn,nm,rfl,hp,hn,.name y h2,_,rfl,trivial,?_⟩⟩;refine⟨pb rfl,⟨_,by rw[ne h3],?_⟩⟩;exact⟨pb rfl,Xh⟩
 | night x y f l=>obtain⟨h1,h2,h3,h4,h5,h6⟩:=ok;refine⟨_,rfl,_,rfl,?_⟩;refine⟨rfl,_,_,pl,nl,pn,nm,rfl,hp,hn,.name x h1,_,rfl,trivial,⟨rfl,_,_,pl,nl,pn,nm,rfl,hp,hn,.name y h2,_,rfl,trivial,⟨rfl,_,_,pl,nl,pn,nm,rfl,hp,hn,.hour f h4.1 h4.2,_,rfl,trivial,⟨rfl,_,_,pl,nl,pn,nm,rfl,hp,hn,.hour l h5.1 h5.2,_,rfl,trivial,?_⟩⟩⟩⟩;refine⟨pb rfl,⟨_,by rw[ne h3],?_⟩⟩;refine⟨pb rfl,⟨_,by rw[nei h6],?_⟩⟩;exact Xh
 | busy x y=>obtain⟨h1,h2,h3⟩:=ok;refine⟨_,rfl,_,rfl,?_⟩;refine⟨rfl,_,_,pl,nl,pn,nm,rfl,hp,hn,.name x h1,_,rfl,trivial,⟨rfl,_,_,pl,nl,pn,nm,rfl,hp,hn,.name y h2,_,rfl,trivial,?_⟩⟩;refine⟨pb rfl,⟨_,by rw[ne h3],?_⟩⟩;exact⟨pb rfl,Xh⟩
 | silent x y n=>obtain⟨h1,h2,h3,h4,h5⟩:=ok;refine⟨_,rfl,_,rfl,?_⟩;refine⟨rfl,_,_,pl,nl,pn,nm,rfl,hp,hn,.name x h1,_,rfl,trivial,⟨rfl,_,_,pl,nl,pn,nm,rfl,hp,hn,.name y h2,_,rfl,trivial,⟨rfl,_,_,pl,nl,pn,nm,rfl,hp,hn,.turns n h4 h5,_,rfl,trivial,?_⟩⟩⟩;refine⟨pb rfl,⟨_,by rw[ne h3],?_⟩⟩;exact⟨pb rfl,Xh⟩
 | wait x=>refine⟨_,rfl,_,rfl,?_⟩;refine⟨rfl,_,_,pl,nl,pn,nm,rfl,hp,hn,.mU x ok,_,rfl,trivial,?_⟩;exact⟨pb rfl,pb rfl,Xh⟩
 | breaks x=>refine⟨_,rfl,_,rfl,?_⟩;refine⟨rfl,_,_,pl,nl,pn,nm,rfl,hp,hn,.mU x ok,_,rfl,trivial,?_⟩;exact⟨pb rfl,pb rfl,Xh⟩
def AX:Fq P w K mg base 5 a.bj AU:=by
 refine fq G.bj.toDG vc (λr u=>⟨_,(pq (pQ (pJ (tw G) r G.m (sf (qh u (pU qy rfl G.g qv (qm v0)) (sX rfl G.cI)) pC)))
 (pz (uZ fj rfl (qH v0) (tY (n:=2) rfl (qk (rC 3 vc) (qk (rC 4 vc) sQ)))
 (pz (pQ (pJ (C9 G) r G.bi (rb v4 U1 U2))))))),?_⟩)
 rintro ds M Q ⟨r,ws,pl,nl,pn,nm,rfl,XZ,hp,hn,h16,mK,q⟩
 have el:((ws.map tH).length:Int)=ws.length:=by rw[cO]
 refine pk XZ ⟨_,by rw[dP (show((ws.map tH).length:Int)<=16 by omega)],pk XZ ?_⟩;refine Bi (λU M'=>M=M'/\∃x y,U=[Fa (.ref r),Fa (.ref pl),Fa (.ref nl),x,y]) (λU M' j=>by rw[<-j.1];exact XZ) _ _ _ ⟨rfl,Db,Db,rfl⟩ ?_ ?_
 .rintro d hd U M' ⟨rfl,x,y,rfl⟩ nx Xq
  obtain⟨v,hv,rfl⟩:=dq.mp hd;exact⟨rfl,⟨v.2,pl,nl,pn,nm,rfl,hp,hn,mK v hv,Xq _ _ ⟨rfl,_,_,rfl⟩⟩⟩
 .rintro U M' ⟨rfl,x,y,rfl⟩
  exact⟨M,.refl,q⟩
structure pF where
 mD:List uP
 groups:List uJ
 mB:List tI
noncomputable def pF.pn(l:pF):QQQ:=l.mD.map (·.1)
noncomputable def pF.gn(l:pF):QQQ:=l.groups.map (·.1)
noncomputable def pF.nm(l:pF):QQQ:=l.pn++l.gn
structure rh(l:pF):Prop where
 p1:1<=l.mD.length
 p8:l.mD.length<=8
 po:∀p∈l.mD,ED p
 g3:l.groups.length<=3
 go:∀g∈l.groups,Fv l.pn g
 nd:l.nm.Nodup
 oh:l.mB.length<=16
 wo:∀w∈l.mB,B4 l.pn l.nm w.2
def D6{ss:QQQ}(h:ss.Nodup):xh ss=pc:=by unfold xh;rw[HX ss h];simp
def Dt:rm:=λds M Q=>CS λr1 r2 r3 (l:pF)=>ds=[.ref r1,.ref r2,.ref r3]/\oX M r1=Fa (l.mD.map qY)/\oX M r2=Fa (l.groups.map rf)/\oX M r3=Fa (l.mB.map tH)/\rh l/\Q .mG M
noncomputable def AK:D->D
 | .tup (x::_)=>x
 | _=>.mG
def w9(ps:List uP):(ps.map qY).map AK=(ps.map (·.1)).map D.str:=by rw[dS,dS];rfl
def xk(ps:List uJ):(ps.map rf).map AK=(ps.map (·.1)).map D.str:=by rw[dS,dS];rfl
def Du:Fq P w K mg base 6 a.bk Dt:=by
 refine fq G.bk.toDG wc (λr u=>⟨_,(pq (pQ (pJ (AY G) r G.bf (qm v0)))
 (pq (ur (i:=3) wc.nd rfl (Or.inl rfl) rfl (xn (ix:=[Db]) (N':=["phone"])) (qH v0) (qx 0) rH (pL v0 pB))
 (pq (pQ (pJ (A7 G) r G.bg (sf U1 U3)))
 (pq (pO 4 wc (pW U3 (qG rfl (xn (ix:=[Db]) (N':=["group"])) (qH U1) (qx 0) rH (pL v0 pB))))
 (pq (pQ (pJ (tw G) r G.m (sf (pJ (Ea G) r G.ai (qm v4)) pC)))
 (pz (pQ (pJ (AX G) r G.bj (rb U2 U3 v4))))))))),?_⟩)
 rintro ds M Q ⟨r1,r2,r3,l,rfl,h1,h2,h3,ok,q⟩
 have hz:=dF;have l1:=ok.p8;have l2:=ok.g3;refine⟨r1,l.mD,rfl,h1,ok.p1,ok.p8,ok.po,pk h1 ?_⟩;refine ra (f:=AK) h1 _ [] _ (by rw[cO];simp only[dB];omega) (λd hd k hk=>?_) λp hp=>?_
 .obtain⟨x,_,rfl⟩:=dq.mp hd;exact hk
 rw[dQ,w9];have s1:=qr.new (c:=.lst ((l.mD.map (·.1)).map D.str)) hp;have lp:oX (pI M p (.lst ((l.mD.map (·.1)).map D.str))) p=Fa (l.pn.map D.str):=pH;generalize pI M p (.lst ((l.mD.map (·.1)).map D.str))=M1 at s1 lp ⊢;refine⟨r2,l.groups,p,l.pn,rfl,s1.lst h2,lp,ok.g3,ok.go,?_⟩;refine pk (s1.lst h2) (ra (f:=AK) (s1.lst h2) _ [] _ (by rw[cO];simp only[dB];omega) (λd hd k hk=>?_) λp2 Xn=>?_)
 .obtain⟨x,_,rfl⟩:=dq.mp hd;exact hk
 rw[dQ,xk];have s2:=qr.new (c:=.lst ((l.groups.map (·.1)).map D.str)) Xn;refine pk (s2.lst lp) (pk pH ⟨?_,λp3 hp3=>?_⟩)
 .rw[cO,cO,cO];show(l.mD.map (·.1)).length+_<=_;rw[cO];omega
 have en:l.pn.map D.str++(l.groups.map (·.1)).map D.str=l.nm.map D.str:=by unfold pF.nm;rw[dz];rfl
 rw[en];have s3:=s2.trans (qr.new (c:=.lst (l.nm.map D.str)) hp3);have l3:=@pH (pI M1 p2 (.lst ((l.groups.map (·.1)).map D.str))) p3 (l.nm.map D.str);generalize pI (pI M1 p2 (.lst ((l.groups.map (·.1)).map D.str))) p3 (.lst (l.nm.map D.str))=M3 at s3 l3 ⊢;have ln:l.nm.length<4000:=by unfold pF.nm pF.pn pF.gn;rw[cR,cO,cO];omega
 refine⟨_,l.nm,rfl,.inr ⟨p3,rfl,l3⟩,ln,_,by rw[D6 ok.nd],?_⟩;exact⟨r3,l.mB,p,p3,l.pn,l.nm,rfl,s3.lst (s1.lst h3),s3.lst lp,l3,ok.oh,ok.wo,M,s1.trans s3,q⟩
noncomputable def Q4(ph gr ws on pr gd:Uf):T0 (Str×D):=[("phones",.ref ph),("groups",.ref gr),("wishes",.ref ws),("on",.ref on),("phone_rows",.ref pr),("group_rows",.ref gd)]
noncomputable def Se(l:pF):T0 (qX×D):=l.mD.map λp=>(Sum.inr p.1,qY p)
noncomputable def Hn(l:pF):T0 (qX×D):=l.groups.map λg=>(Sum.inr g.1,rf g)
def sS(a:Ad)(M:Mp)(rs:QXQ)(ws:List tI):Prop:=rs.length=ws.length/\∀(i:Nat) (r:Uf) (v:tI),rs[i]?=Fa r->ws[i]?=Fa v->M r=Fa (.ins (v.2.cls a) v.2.nE)
def sH(a:Ad)(M:Mp)(p:Uf)(l:pF):Prop:=Sk λph gr ws on pr gd (rs:QXQ)=>M p=Fa (.ins a.h (Q4 ph gr ws on pr gd))/\oX M ph=Fa (l.mD.map qY)/\oX M gr=Fa (l.groups.map rf)/\
 oX M ws=Fa (rs.map D.ref)/\oX M on=Fa (l.mB.map λw=>D.bl w.1)/\zp M pr=Fa (Se l)/\zp M gd=Fa (Hn l)/\sS a M rs l.mB
def sS.keep{p:Uf}(h:sS a M rs ws)(k:so p M M')(n:∀r∈rs,r≠p):sS a M' rs ws:=⟨h.1,λi r v e1 e2=>k r _ (n r (e9 e1)) (h.2 i r v e1 e2)⟩
def sS.sub(h:sS a M rs ws)(k:qr M M'):sS a M' rs ws:=⟨h.1,λi r v e1 e2=>k r _ (h.2 i r v e1 e2)⟩
def sH.sub{p:Uf}(h:sH a M p l)(s:qr M M'):sH a M' p l:=by obtain⟨ph,gr,ws,on,pr,gd,rs,h1,h2,h3,h4,h5,h6,h7,h8⟩:=h;exact⟨ph,gr,ws,on,pr,gd,rs,s _ _ h1,s.lst h2,s.lst h3,s.lst h4,s.lst h5,s.dk h6,s.dk h7,h8.sub s⟩
def OW(a:Ad):rm:=λds M Q=>Hi λp r1 r2 r3 (l:pF)=>ds=[.ref p,.ref r1,.ref r2,.ref r3]/\M p=Fa (.ins a.h [])/\oX M r1=Fa (l.mD.map qY)/\oX M r2=Fa (l.groups.map rf)/\oX M r3=Fa (l.mB.map tH)/\rh l/\
 ∀M',so p M M'->sH a M' p l->(∀Xg,(∀b c,(b=p\/M b=Db)->M' b=Fa c->Xg b=Fa c)->sH a Xg p l)->Q .mG M'
def rL{p x:Uf}{c:vb}(k:so p M N)(hp:N p=Fa c)(h:N x=Db):M x=Db:=by
 cases e:M x with
 | none=>rfl
 | some d=>
  have n:x≠p:=λz=>by rw[z,hp]at h;cases h
  rw[k x d n e]at h;cases h
def yj{a:Uf}{es:T0 (qX×D)}(h:zp M a=Fa es):M a=Fa (.dk es):=by
 unfold zp at h;split at h
 .rename_i e;rw[e];cases h;rfl
 .cases h
theorem wN{α:Type}(f:α->Str)(g:α->D):∀l:List α,wO (l.map λx=>D.tup [.str (f x),g x])=Fa (l.map λx=>(Sum.inr (f x),g x))
 | []=>rfl
 | x::r=>by show(wO (r.map λx=>D.tup [.str (f x),g x])).map ((Sum.inr (f x),g x)::·)=_;rw[wN f g r];rfl
def KO{ss:QQQ}(h:ss.Nodup):(ss.map λx=>(Sum.inr x:qX)).Nodup:=by
 induction ss with
 | nil=>exact eC
 | cons x r ih=>obtain⟨h1,h2⟩:=dM.mp h;rw[dN];refine dM.mpr ⟨λz=>h1 ?_,ih h2⟩;obtain⟨y,hy,e⟩:=dq.mp z;cases e;exact hy
def yK{α:Type}{f:α->Str}{g:α->D}{l:List α}(h:(l.map f).Nodup):((l.map λx=>((Sum.inr (f x):qX),g x)).map (·.1)).Nodup:=by rw[dS];have:=KO h;rw[dS]at this;exact this
noncomputable def Br(d:D):D:=.tup [AK d,d]
noncomputable def WD:D->D
 | .tup (x::_)=>x
 | _=>.mG
def Rh(ws:List tI):(ws.map tH).map WD=ws.map λw=>D.bl w.1:=by rw[dS];rfl
def G'(ps:List uP):(ps.map qY).map Br=ps.map λp=>D.tup [.str p.1,qY p]:=by rw[dS];rfl
def G1(ps:List uJ):(ps.map rf).map Br=ps.map λp=>D.tup [.str p.1,rf p]:=by rw[dS];rfl
def sS.snoc{r:Uf}{v:tI}(h:sS a M rs ws)(n:M r=Db):sS a (pI M r (.ins (v.2.cls a) v.2.nE)) (rs++[r]) (ws++[v]):=by
 refine⟨by rw[cR,cR,h.1];rfl,λi r' v' e1 e2=>?_⟩;by_cases hi:i<rs.length
 .rw[eP hi]at e1;rw[eP (by rw[<-h.1];exact hi)]at e2;have:=h.2 i r' v' e1 e2;rw[um (N0 this n)];exact this
 .have YO:i=rs.length:=by have:=(cT.mp e1).1;rw[cR,dG]at this;omega
  subst YO;rw[eN (c9 _)]at e1;rw[h.1,eN (c9 _)]at e2;simp only[gT,iu,ji]at e1 e2;subst e1 e2;exact pR
def IG:Fq P w K mg base 7 a.S (OW a):=by
 refine fq G.S.toDG EF (λr u=>⟨_,(pq (pQ (pJ (Du G) r G.bk (rb U1 U2 U3)))
 (pq (qd v0 (qg uj rfl G.z uk (qm U1)))
 (pq (qd v0 (qg uj rfl G.z uk (qm U2)))
 (pq (qd v0 (qG rfl (xn (ix:=[Db,Db]) (N':=["on","wish"])) (qH U3) (tY (n:=2) rfl (qk (qx 0) (qk (qx 1) sQ))) rH (pJ (HL G) r G.be (qm U1))))
 (pq (qd v0 (qG rfl (xn (ix:=[Db,Db]) (N':=["on","wish"])) (qH U3) (tY (n:=2) rfl (qk (qx 0) (qk (qx 1) sQ))) rH v0))
 (pq (qd v0 (qg (EM rfl) rfl G.bS EA (qm (qG rfl (xn (ix:=[Db]) (N':=["phone"])) (qH U1) (qx 0) rH (pP (sf (pL v0 pB) v0))))))
 (pz (qd v0 (qg (EM rfl) rfl G.bS EA (qm (qG rfl (xn (ix:=[Db]) (N':=["group"])) (qH U2) (qx 0) rH (pP (sf (pL v0 pB) v0))))))))))))),?_⟩)
 rintro ds M Q ⟨p,r1,r2,r3,l,rfl,hp,h1,h2,h3,ok,q⟩
 have hz:=dF;have l1:=ok.p8;have l2:=ok.g3;have l3:=ok.oh;refine⟨r1,r2,r3,l,rfl,h1,h2,h3,ok,?_⟩;refine pk h1 λph hph=>?_;obtain⟨n1,e1,k1,c1,p1⟩:=tK (fs':=[("phones",.ref ph)]) (c:=.lst (l.mD.map qY)) hp hph;refine pA e1 ⟨(G.ab "phones" rfl),by show 0<1000;decide,?_⟩;show uL _ _ _ _ (pI (pI M ph (.lst (l.mD.map qY))) p (.ins a.h [("phones",.ref ph)]));generalize pI (pI M ph (.lst (l.mD.map qY))) p (.ins a.h [("phones",.ref ph)])=N1 at k1 c1 p1 ⊢;have XY:=k1.lst (pV h1 hp) h1;have h2':=k1.lst (pV h2 hp) h2;have Zh:=k1.lst (pV h3 hp) h3;have f1:oX N1 ph=Fa (l.mD.map qY):=rY c1;refine pk h2' λgr hgr=>?_;obtain⟨n2,e2,k2,c2,p2⟩:=tK (fs':=[("phones",.ref ph),("groups",.ref gr)]) (c:=.lst (l.groups.map rf)) p1 hgr;refine pA e2 ⟨(G.ab "groups" rfl),by show 1<1000;decide,?_⟩;show uL _ _ _ _ (pI (pI N1 gr (.lst (l.groups.map rf))) p (.ins a.h [("phones",.ref ph),("groups",.ref gr)]));generalize pI (pI N1 gr (.lst (l.groups.map rf))) p (.ins a.h [("phones",.ref ph),("groups",.ref gr)])=N2 at k2 c2 p2 ⊢;have g1:=k2.lst (pV XY p1) XY;have g2:=k2.lst (pV h2' p1) h2';have g3:=k2.lst (pV Zh p1) Zh;have f2:=k2.lst (pV f1 p1) f1;have f3:oX N2 gr=Fa (l.groups.map rf):=rY c2;have kk2:=k1.trans k2;have m2:M gr=Db:=rL k1 p1 hgr;clear XY h2' Zh f1 c1 c2 k1 k2 e1 e2;refine pk g3 ?_;refine yf (l.mB.map tH) (λpre acc U Mx=>(∃x y,U=[x,y])/\qr N2 Mx/\∃rs:QXQ,acc=rs.map D.ref/\(∀r∈rs,N2 r=Db)/\sS a Mx rs (l.mB.take pre.length)) (λpre acc U Mx j=>j.2.1.lst g3) _ [] [] _ _ rfl (by rw[cO];simp only[dB];omega) ⟨⟨Db,Db,rfl⟩,.refl,[],rfl,λr hr=>absurd hr (dv),rfl,λi r v e=>by simp at e⟩ ?_ ?_
 .rintro pre d post e acc U Mx ⟨⟨x,y,rfl⟩,sx,rs,rfl,fr,wa⟩ k hk
  obtain⟨v,hv,rfl⟩:∃v,l.mB[pre.length]?=Fa v/\d=tH v:=by
   have:(l.mB.map tH)[pre.length]?=Fa d:=by rw[<-e];simp
   rw[df]at this;cases z:l.mB[pre.length]? with
   | none=>rw[z]at this;cases this
   | some v=>rw[z]at this;exact⟨v,rfl,(cY this).symm⟩
  refine⟨rfl,⟨v.2,rfl,λr hr=>hk _ _ _ ⟨⟨_,_,rfl⟩,sx.trans (.new hr),rs++[r],?_,λr' hr'=>?_,?_⟩⟩⟩
  .rw[dz];rfl
  .rcases dI.mp hr' with z|z
   .exact fr r' z
   .rw[cX.mp z];exact sx.none hr
  .rw[cR,dG,gj,hv];exact wa.snoc hr
 rintro acc U Mx ⟨⟨x,y,rfl⟩,sx,rs,rfl,fr,wa⟩ ws hws
 have wa:sS a Mx rs l.mB:=by rw[cO,eY]at wa;exact wa
 obtain⟨n3,e3,k3,c3,p3⟩:=tK (fs':=[("phones",.ref ph),("groups",.ref gr),("wishes",.ref ws)]) (c:=.lst (rs.map D.ref)) (sx _ _ p2) hws;refine pA e3 ⟨(G.ab "wishes" rfl),by show 2<1000;decide,?_⟩;show uL _ _ _ _ (pI (pI Mx ws (.lst (rs.map D.ref))) p (.ins a.h [("phones",.ref ph),("groups",.ref gr),("wishes",.ref ws)]));generalize pI (pI Mx ws (.lst (rs.map D.ref))) p (.ins a.h [("phones",.ref ph),("groups",.ref gr),("wishes",.ref ws)])=N3 at k3 c3 p3 ⊢;have px:=sx _ _ p2;have i1:=k3.lst (pV (sx.lst g1) px) (sx.lst g1);have i2:=k3.lst (pV (sx.lst g2) px) (sx.lst g2);have i3:=k3.lst (pV (sx.lst g3) px) (sx.lst g3);have f4:=k3.lst (pV (sx.lst f2) px) (sx.lst f2);have f5:=k3.lst (pV (sx.lst f3) px) (sx.lst f3);have f6:oX N3 ws=Fa (rs.map D.ref):=rY c3;have rp:∀r∈rs,r≠p:=λr hr z=>by have:=fr r hr;rw[z,p2]at this;cases this
 have w3:=wa.keep k3 rp;have kk3:=(kk2.trans sx.keep).trans k3;have m3:M ws=Db:=rL (kk2.trans sx.keep) px hws;have mr:∀r∈rs,M r=Db:=λr hr=>rL kk2 p2 (fr r hr);clear g1 g2 g3 f2 f3 c3 k3 e3 wa px kk2;refine pk i3 (CH (f:=WD) (λU=>∃x y,U=[x,y]) i3 _ [] _ ⟨Db,Db,rfl⟩ (by rw[cO];simp only[dB];omega) (λd hd U hj k hk=>?_) λon hon=>?_)
 .obtain⟨x,y,rfl⟩:=hj;obtain⟨v,_,rfl⟩:=dq.mp hd;exact⟨rfl,hk _ ⟨_,_,rfl⟩⟩
 rw[dQ,Rh];obtain⟨n4,e4,k4,c4,p4⟩:=tK (fs':=[("phones",.ref ph),("groups",.ref gr),("wishes",.ref ws),("on",.ref on)]) (c:=.lst (l.mB.map λw=>D.bl w.1)) p3 hon;refine pA e4 ⟨(G.ab "on" rfl),by show 3<1000;decide,?_⟩;show uL _ _ _ _ (pI (pI N3 on (.lst (l.mB.map λw=>D.bl w.1))) p (.ins a.h [("phones",.ref ph),("groups",.ref gr),("wishes",.ref ws),("on",.ref on)]));generalize pI (pI N3 on (.lst (l.mB.map λw=>D.bl w.1))) p (.ins a.h [("phones",.ref ph),("groups",.ref gr),("wishes",.ref ws),("on",.ref on)])=N4 at k4 c4 p4 ⊢;have j1:=k4.lst (pV i1 p3) i1;have j2:=k4.lst (pV i2 p3) i2;have f7:=k4.lst (pV f4 p3) f4;have f8:=k4.lst (pV f5 p3) f5;have f9:=k4.lst (pV f6 p3) f6;have fa:oX N4 on=Fa (l.mB.map λw=>D.bl w.1):=rY c4;have w4:=w3.keep k4 rp;have Zi:=kk3.trans k4;have m4:M on=Db:=rL kk3 p3 hon;clear i1 i2 i3 f4 f5 f6 c4 k4 e4 w3 kk3;refine pk j1 (ra (f:=Br) j1 _ [] _ (by rw[cO];simp only[dB];omega) (λd hd k hk=>?_) λq1 Yc=>?_)
 .obtain⟨v,_,rfl⟩:=dq.mp hd;exact⟨pb rfl,hk⟩
 rw[dQ,G'];have ZS:=qr.new (c:=.lst (l.mD.map λp=>D.tup [.str p.1,qY p])) Yc;refine pk pH (pk (wN (λp:uP=>p.1) qY l.mD) ⟨yK (il (List.sublist_append_left _ _) ok.nd),λpr hpr=>?_⟩);obtain⟨n5,e5,k5,c5,p5⟩:=tK (fs':=[("phones",.ref ph),("groups",.ref gr),("wishes",.ref ws),("on",.ref on),("phone_rows",.ref pr)]) (c:=.dk (l.mD.map λx=>(Sum.inr x.1,qY x))) (ZS _ _ p4) hpr;refine pA e5 ⟨(G.ab "phone_rows" rfl),by show 4<1000;decide,?_⟩;have k5:=ZS.keep.trans k5;have Y5:wb "phone_rows" (.ref pr) [("phones",.ref ph),("groups",.ref gr),("wishes",.ref ws),("on",.ref on)]=([("phones",.ref ph),("groups",.ref gr),("wishes",.ref ws),("on",.ref on),("phone_rows",.ref pr)]:T0 (Str×D)):=rfl;rw[Y5];generalize pI (pI (pI N4 q1 (.lst (l.mD.map λp=>D.tup [.str p.1,qY p]))) pr (.dk (l.mD.map λx=>(Sum.inr x.1,qY x)))) p (.ins a.h [("phones",.ref ph),("groups",.ref gr),("wishes",.ref ws),("on",.ref on),("phone_rows",.ref pr)])=N5 at k5 c5 p5 ⊢;have mm:=k5.lst (pV j2 p4) j2;have fb:=k5.lst (pV f7 p4) f7;have fc:=k5.lst (pV f8 p4) f8;have fd:=k5.lst (pV f9 p4) f9;have fe:=k5.lst (pV fa p4) fa;have ff:zp N5 pr=Fa (Se l):=BV c5;have w5:=w4.keep k5 rp;have Zj:=Zi.trans k5;have m5:M pr=Db:=rL (Zi.trans ZS.keep) (ZS _ _ p4) hpr;clear j1 j2 f7 f8 f9 fa c5 k5 e5 w4 Zi;refine pk mm (ra (f:=Br) mm _ [] _ (by rw[cO];simp only[dB];omega) (λd hd k hk=>?_) λq2 Zk=>?_)
 .obtain⟨v,_,rfl⟩:=dq.mp hd;exact⟨pb rfl,hk⟩
 rw[dQ,G1];have sq2:=qr.new (c:=.lst (l.groups.map λg=>D.tup [.str g.1,rf g])) Zk;refine pk pH (pk (wN (λp:uJ=>p.1) rf l.groups) ⟨yK (il (jn _ _) ok.nd),λgd hgd=>?_⟩);obtain⟨n6,e6,k6,c6,p6⟩:=tK (fs':=Q4 ph gr ws on pr gd) (c:=.dk (Hn l)) (sq2 _ _ p5) hgd;have k6:=sq2.keep.trans k6;refine pA e6 ⟨(G.ab "group_rows" rfl),by show 5<1000;decide,_,.refl,?_⟩;have m6:M gd=Db:=rL (Zj.trans sq2.keep) (sq2 _ _ p5) hgd;have w6:=w5.keep k6 rp;have y1:=k6.lst (pV fb p5) fb;have y2:=k6.lst (pV fc p5) fc;have y3:=k6.lst (pV fd p5) fd;have y4:=k6.lst (pV fe p5) fe;have y5:=k6.dk (Cu ff p5) ff;refine q _ (Zj.trans k6) ⟨ph,gr,ws,on,pr,gd,rs,p6,y1,y2,y3,y4,y5,BV c6,w6⟩ λXg hs=>?_;exact⟨ph,gr,ws,on,pr,gd,rs,hs _ _ (.inl rfl) p6,rY (hs _ _ (.inr hph) (pY y1)),rY (hs _ _ (.inr m2) (pY y2)),rY (hs _ _ (.inr m3) (pY y3)),rY (hs _ _ (.inr m4) (pY y4)),BV (hs _ _ (.inr m5) (yj y5)),BV (hs _ _ (.inr m6) c6),w6.1,λi r v e1 e2=>hs _ _ (.inr (mr r (e9 e1))) (w6.2 i r v e1 e2)⟩
theorem yb{α:Type}(f:α->Str)(g:α->D)(k:Str):∀l:List α,vJ (l.map λx=>((Sum.inr (f x):qX),g x)) (Sum.inr k)=(l.find? λx=>decide (f x=k)).map g
 | []=>rfl
 | x::r=>by
  have ih:=yb f g k r;unfold vJ at ih ⊢;rw[dN,fi,fi];by_cases h:f x=k
  .have h':decide ((Sum.inr (f x):qX)=Sum.inr k)=pc:=dP (by rw[h]);simp[h]
  .have h':¬(Sum.inr (f x):qX)=Sum.inr k:=λz=>h (jP z);simp only[h,h',decide_false];exact ih
noncomputable def pF.mU(l:pF)(x:Str):Option uP:=l.mD.find? λp=>decide (p.1=x)
noncomputable def pF.group(l:pF)(x:Str):Option uJ:=l.groups.find? λg=>decide (g.1=x)
noncomputable def pF.mz(l:pF)(x:Str):QQQ:=(l.group x).elim [x] λg=>g.2.2
noncomputable def pF.mI(l:pF)(x:Str):Str:=(l.group x).elim "one" λg=>g.2.1
def Ha(l:pF)(x:Str):vJ (Se l) (Sum.inr x)=(l.mU x).map qY:=yb (λp:uP=>p.1) qY x l.mD
def wx(l:pF)(x:Str):vJ (Hn l) (Sum.inr x)=(l.group x).map rf:=yb (λp:uJ=>p.1) rf x l.groups
def yH(a:Ad):rm:=λds M Q=>CA λp (l:pF)=>ds=[.ref p]/\sH a M p l/\l.mD.length<=100/\∀q,M q=Db->Q (.ref q) (pI M q (.lst (l.pn.map D.str)))
def E6(a:Ad):rm:=λds M Q=>CA λp (l:pF)=>ds=[.ref p]/\sH a M p l/\l.mD.length<=100/\l.groups.length<=100/\∀q,M q=Db->Q (.ref q) (pI M q (.lst (l.nm.map D.str)))
def E8(a:Ad):rm:=λds M Q=>CS λp x v (l:pF)=>ds=[.ref p,.str x]/\sH a M p l/\l.mU x=Fa v/\Q (.int v.2.1) M
def Gw(a:Ad):rm:=λds M Q=>CS λp x v (l:pF)=>ds=[.ref p,.str x]/\sH a M p l/\l.mU x=Fa v/\Q (.int v.2.2) M
def Am(a:Ad):rm:=λds M Q=>C4 λp x (l:pF)=>ds=[.ref p,.str x]/\sH a M p l/\∀q,M q=Db->Q (.ref q) (pI M q (.lst ((l.mz x).map D.str)))
def CV(a:Ad):rm:=λds M Q=>C4 λp x (l:pF)=>ds=[.ref p,.str x]/\sH a M p l/\Q (.str (l.mI x)) M
def ua:Fq P w K mg base 1 a.U (yH a):=by
 refine fq G.U.toDG yw (λr u=>⟨_,(pz (pG (qG rfl (xn (ix:=[Db]) (N':=["phone"])) (qH (pE v0)) (qx 0) rH (pL v0 pB)))),?_⟩)
 rintro ds M Q ⟨p,l,rfl,hp,hl,q⟩
 have hz:=dF;obtain⟨ph,gr,ws,on,pr,gd,rs,h1,h2,h3,h4,h5,h6,h7,h8⟩:=hp;refine pA h1 (pk rfl (pk h2 ?_));refine ra (f:=AK) h2 _ [] _ (by rw[cO];simp only[dB];omega) (λd hd k hk=>?_) λq1 Yc=>?_
 .obtain⟨x,_,rfl⟩:=dq.mp hd;exact hk
 rw[dQ,w9];exact⟨_,.refl,q q1 Yc⟩
def Di:Fq P w K mg base 2 a.bw (E6 a):=by
 refine fq G.bw.toDG Dw (λr u=>⟨_,(pz (pG (pW (yq v0 G.h.toCls G.U (ua G) r) (qG rfl (xn (ix:=[Db]) (N':=["group"])) (qH (pE v0)) (qx 0) rH (pL v0 pB))))),?_⟩)
 rintro ds M Q ⟨p,l,rfl,hp,hl,hl2,q⟩
 have hz:=dF;have Xt:=hp;obtain⟨ph,gr,ws,on,pr,gd,rs,h1,h2,h3,h4,h5,h6,h7,h8⟩:=hp;refine pA h1 ⟨rfl,_,⟨rfl,rfl⟩,p,l,rfl,Xt,hl,λq1 Yc=>?_⟩;have s1:=qr.new (c:=.lst (l.pn.map D.str)) Yc;have e1:=@pH M q1 (l.pn.map D.str);generalize pI M q1 (.lst (l.pn.map D.str))=M1 at s1 e1 ⊢;have Zh:=s1.lst h3;refine pA (s1 _ _ h1) (pk rfl (pk Zh ?_));refine ra (f:=AK) Zh _ [] _ (by rw[cO];simp only[dB];omega) (λd hd k hk=>?_) λq2 Zk=>?_
 .obtain⟨x,_,rfl⟩:=dq.mp hd;exact hk
 rw[dQ,xk];have s2:=qr.new (c:=.lst ((l.groups.map (·.1)).map D.str)) Zk;refine pk (s2.lst e1) (pk pH ⟨?_,λq3 hq3=>?_⟩)
 .rw[cO,cO,cO];show(l.mD.map (·.1)).length+_<=_;rw[cO];omega
 have en:l.pn.map D.str++(l.groups.map (·.1)).map D.str=l.nm.map D.str:=by unfold pF.nm;rw[dz];rfl
 rw[en];exact⟨_,(s1.trans s2).upd,q q3 ((s1.trans s2).none hq3)⟩
def C8:Fq P w K mg base 1 a.bI (E8 a):=by
 refine fq G.bI.toDG Dv (λr u=>⟨_,(pz (pG (pL (zD u (pE v0) U1) pB))),?_⟩)
 rintro ds M Q ⟨p,x,v,l,rfl,hp,hv,q⟩
 obtain⟨ph,gr,ws,on,pr,gd,rs,h1,h2,h3,h4,h5,h6,h7,h8⟩:=hp;exact pA h1 (pk rfl (pk rfl (pk h6 (pk (x:=qY v) (by rw[Ha,hv];rfl) ⟨M,.refl,q⟩))))
def zo:Fq P w K mg base 1 a.aN (Gw a):=by
 refine fq G.aN.toDG E2 (λr u=>⟨_,(pz (pG (pL (zD u (pE v0) U1) pB))),?_⟩)
 rintro ds M Q ⟨p,x,v,l,rfl,hp,hv,q⟩
 obtain⟨ph,gr,ws,on,pr,gd,rs,h1,h2,h3,h4,h5,h6,h7,h8⟩:=hp;exact pA h1 (pk rfl (pk rfl (pk h6 (pk (x:=qY v) (by rw[Ha,hv];rfl) ⟨M,.refl,q⟩))))
def uz:Fq P w K mg base 1 a.Z (Am a):=by
 refine fq G.Z.toDG zP (λr u=>⟨_,(pq (pT (NP u U1 (pE v0))
 (pz (pG (qg uj rfl G.z uk (qm (pL (zD u (pE v0) U1) pB)))))
 pN)
 (pz (pG (qO (qm U1))))),?_⟩)
 rintro ds M Q ⟨p,x,l,rfl,hp,q⟩
 obtain⟨ph,gr,ws,on,pr,gd,rs,h1,h2,h3,h4,h5,h6,h7,h8⟩:=hp;refine pA h1 (pk rfl (pk h7 ?_));cases e:l.group x with
 | none=>refine Lm (c:=(vJ (Hn l) (Sum.inr x)).isSome) (by rw[wx,e];rfl) ⟨pb rfl,λq1 Yc=>⟨_,.refl,?_⟩⟩;have:=q q1 Yc;unfold pF.mz at this;rw[e]at this;exact this
 | some g=>refine AM (c:=(vJ (Hn l) (Sum.inr x)).isSome) (by rw[wx,e];rfl) (pA h1 (pk rfl (pk rfl (pk h7 (pk (x:=rf g) (by rw[wx,e];rfl) λq1 Yc=>⟨_,.refl,?_⟩)))));have:=q q1 Yc;unfold pF.mz at this;rw[e]at this;exact this
def xu:Fq P w K mg base 1 a.aK (CV a):=by
 refine fq G.aK.toDG Ce (λr u=>⟨_,(pq (pT (NP u U1 (pE v0))
 (pz (pG (pL (zD u (pE v0) U1) pB)))
 pN)
 (pz (pG pC))),?_⟩)
 rintro ds M Q ⟨p,x,l,rfl,hp,q⟩
 obtain⟨ph,gr,ws,on,pr,gd,rs,h1,h2,h3,h4,h5,h6,h7,h8⟩:=hp;refine pA h1 (pk rfl (pk h7 ?_));cases e:l.group x with
 | none=>refine Lm (c:=(vJ (Hn l) (Sum.inr x)).isSome) (by rw[wx,e];rfl) ⟨M,.refl,?_⟩;unfold pF.mI at q;rw[e]at q;exact q
 | some g=>refine AM (c:=(vJ (Hn l) (Sum.inr x)).isSome) (by rw[wx,e];rfl) (pA h1 (pk rfl (pk rfl (pk h7 (pk (x:=rf g) (by rw[wx,e];rfl) ⟨M,.refl,?_⟩)))));unfold pF.mI at q;rw[e]at q;exact q
noncomputable def OM:T0 Int:=[1,1,2,2,3]
noncomputable def Pe:T0 Int:=[0,1,1,2,5,9]
noncomputable def OA:QQQ:=["all","turns"]
noncomputable def G2(t:T0 Int)(i:Int):Int:=t.getD i.toNat 0
noncomputable def wj(s:Int)(i:Nat):uP:=(xZ s (0+(i:Nat)),G2 OM (qC (s+17*(0+(i:Nat))*(0+(i:Nat))) 16807 5),G2 Pe (qC (s+17*(0+(i:Nat))*(0+(i:Nat))) 39373 6))
noncomputable def rV(s m:Int):Nat:=(2+qC s 48271 (m - 1)).toNat
noncomputable def qz(s m:Int):List uP:=(List.range (rV s m)).map (wj s)
noncomputable def zW(s:Int)(own:QQQ)(i:Nat):uJ:=(xZ s (8+(0+(i:Nat))),CB OA (qC (s+5*(0+(i:Nat))) 742938285 2),vP own (s+11*(0+(i:Nat))) 4)
noncomputable def vS(s:Int):Nat:=(qC s 69621 3).toNat
noncomputable def qV(s:Int)(own:QQQ):List uJ:=(List.range (vS s)).map (zW s own)
def Gq{ts:T0 Int}{i:Int}(h0:0<=i)(h1:i<ts.length):wB (ts.map D.int) i=Fa (D.int (G2 ts i)):=by
 obtain⟨n,rfl⟩:=d6 h0;have Za:n<ts.length:=by omega
 refine uE ?_;rw[df,cQ Za];simp[G2,Za]
def BZ{pre post:T0 D}{d:D}(e:pre++d::post=(List.range n).map λi=>D.int (0+(i:Nat))):d=.int (0+(pre.length:Nat))/\pre.length<n:=by
 have h:((List.range n).map λi=>D.int (0+(i:Nat)))[pre.length]?=Fa d:=by rw[<-e];simp
 have hl:pre.length<n:=by
  have:=(cT.mp h).1
  simpa using this
 rw[df,ku hl]at h;exact⟨(cY h).symm,hl⟩
def BK{α β:Type}(f:Nat->α)(g:α->β)(n:Nat):((List.range n).map f).map g++[g (f n)]=((List.range (n+1)).map f).map g:=by rw[iM,dz,dz];rfl
def HQ:rm:=λds M Q=>CA λs m=>ds=[.int s,.int m]/\2<=m/\m<=100/\∀q,M q=Db->Q (.ref q) (pI M q (.lst ((qz s m).map qY)))
def Im:rm:=λds M Q=>C4 λs o own=>ds=[.int s,.ref o]/\oX M o=Fa (own.map D.str)/\own≠[]/\own.length<=64/\∀q,M q=Db->Q (.ref q) (pI M q (.lst ((qV s own).map rf)))
def yY{s m:Int}(h2:2<=m)(h:m<=100):rV s m<=100/\2<=rV s m:=by have d0:=qW (c:=s) (f:=48271) (m:=m - 1) (by omega);have d1:=qL (c:=s) (f:=48271) (m:=m - 1) (by omega);unfold rV;omega
def wW{s:Int}:vS s<=3:=by have d0:=qW (c:=s) (f:=69621) (m:=3) (by decide);have d1:=qL (c:=s) (f:=69621) (m:=3) (by decide);unfold vS;omega
def HS:Fq P w K mg base 2 a.bl HQ:=by
 refine fq G.bl.toDG uS (λr u=>⟨_,(pq (pO 2 uS (qO sF))
 (pq (uZ fj rfl (vp rfl G.ac (qm (pW pB (pJ (qI G) r G.i (rb v0 pB (pW U1 pB)))))) (rC 3 uS)
 (pq (pO 4 uS (pL (pP (pX pB (pX pB (rb pB pB pB)))) (pJ (qI G) r G.i (rb (pW v0 (pW (pW pB U3) U3)) pB pB))))
 (pz (pQ (rF U2 (qm (pP (rb (pJ (JH G) r G.aj (sf v0 U3)) v4 (pL (pP (pX pB (pX pB (pX pB (rb pB pB pB))))) (pJ (qI G) r G.i (rb (pW v0 (pW (pW pB U3) U3)) pB pB)))))))))))
 (pz (pG U2)))),?_⟩)
 rintro ds M Q ⟨s,m,rfl,h2,h100,q⟩
 have hz:=dF;have d0:=qW (c:=s) (f:=48271) (m:=m - 1) (by omega);have d1:=qL (c:=s) (f:=48271) (m:=m - 1) (by omega);have nl:=(yY (s:=s) h2 h100).1;refine⟨pb rfl,λr hr=>⟨s,_,_,rfl,by show 0<m - 1;omega,rfl,⟨?_,?_⟩,?_⟩⟩
 .show -(2 ^ 62)<=2+qC s 48271 (m - 1);omega
 .show 2+qC s 48271 (m - 1)<2 ^ 62;omega
 refine wK ((List.range (rV s m)).map λi=>D.int (0+(i:Nat))) (λpre U M'=>M'=pI M r (.lst (((List.range pre.length).map (wj s)).map qY))/\∃x y,U=[Fa (.int s),Fa (.int m),Fa (.ref r),x,y]) (λ_ _ _ _=>trivial) _ [] _ _ rfl ⟨rfl,Db,Db,rfl⟩ ?_ ?_
 .rintro pre d post e U M' ⟨rfl,x,y,rfl⟩ nx Xq
  obtain⟨rfl,Xr⟩:=BZ e;generalize hi:pre.length=i at Xr Xq ⊢;have cm:Dm (17*(0+(i:Int))) (0+(i:Int)):=.inr ⟨by omega,by omega⟩;have c17:Dm 17 (0+(i:Int)):=.inl ⟨by decide,by decide⟩;have t5:wB [D.int 1,.int 1,.int 2,.int 2,.int 3] (qC (s+17*(0+(i:Int))*(0+(i:Int))) 16807 5)=Fa (.int (wj s i).2.1):=Gq (ts:=OM) (qW (by decide)) (qL (by decide));have t6:wB [D.int 0,.int 1,.int 1,.int 2,.int 5,.int 9] (qC (s+17*(0+(i:Int))*(0+(i:Int))) 39373 6)=Fa (.int (wj s i).2.2):=Gq (ts:=Pe) (qW (by decide)) (qL (by decide));refine⟨pb rfl,c17,cm,_,_,_,rfl,by decide,pk t5 ?_⟩;refine⟨by show(oX _ r).isSome=pc;rw[pH];rfl,s,_,rfl,pb rfl,c17,cm,_,_,_,rfl,by decide,pk t6 ⟨pb rfl,pk pH ⟨?_,?_⟩⟩⟩
  .rw[cO,cO,dZ];omega
  .refine Xq _ _ ⟨?_,_,_,rfl⟩;rw[rM,cR,hi];show pI M r (.lst (_++[qY (wj s i)]))=_;rw[BK];rfl
 .rintro U M' ⟨rfl,x,y,rfl⟩
  refine⟨_,.refl,?_⟩;rw[cO,dZ];exact q r hr
def HP:Fq P w K mg base 3 a.bm Im:=by
 refine fq G.bm.toDG uT (λr u=>⟨_,(pq (pO 2 uT (qO sF))
 (pq (uZ fj rfl (vp rfl G.ac (qm (pJ (qI G) r G.i (rb v0 pB pB)))) (rC 3 uT)
 (pq (pO 4 uT (pL (pP (sf pC pC)) (pJ (qI G) r G.i (rb (pW v0 (pW pB U3)) pB pB))))
 (pz (pQ (rF U2 (qm (pP (rb (pJ (JH G) r G.aj (sf v0 (pW pB U3))) v4 (pJ (yg G) r G.Q (rb U1 (pW v0 (pW pB U3)) pB))))))))))
 (pz (pG U2)))),?_⟩)
 rintro ds M Q ⟨s,o,own,rfl,ho,XB,h64,q⟩
 have hz:=dF;have d0:=qW (c:=s) (f:=69621) (m:=3) (by decide);have d1:=qL (c:=s) (f:=69621) (m:=3) (by decide);have nl:=wW (s:=s);refine⟨pb rfl,λr hr=>⟨s,_,_,rfl,by decide,rfl,⟨?_,?_⟩,?_⟩⟩
 .show -(2 ^ 62)<=qC s 69621 3;omega
 .show qC s 69621 3<2 ^ 62;omega
 have nor:o≠r:=λz=>by rw[z]at ho;unfold oX at ho;rw[hr]at ho;cases ho
 refine wK ((List.range (vS s)).map λi=>D.int (0+(i:Nat))) (λpre U M'=>M'=pI M r (.lst (((List.range pre.length).map (zW s own)).map rf))/\∃x y,U=[Fa (.int s),Fa (.ref o),Fa (.ref r),x,y]) (λ_ _ _ _=>trivial) _ [] _ _ rfl ⟨rfl,Db,Db,rfl⟩ ?_ ?_
 .rintro pre d post e U M' ⟨rfl,x,y,rfl⟩ nx Xq
  obtain⟨rfl,Xr⟩:=BZ e;generalize hi:pre.length=i at Xr Xq ⊢;have c5:Dm 5 (0+(i:Int)):=.inl ⟨by decide,by decide⟩;have c11:Dm 11 (0+(i:Int)):=.inl ⟨by decide,by decide⟩;have tm:wB [D.str "all",.str "turns"] (qC (s+5*(0+(i:Int))) 742938285 2)=Fa (.str (zW s own i).2.1):=Ig (row:=OA) (qW (by decide)) (qL (by decide));have XW:oX (pI M r (.lst (((List.range i).map (zW s own)).map rf))) o=Fa (own.map D.str):=by unfold oX;rw[um nor];exact ho
  refine⟨pb rfl,c5,_,_,_,rfl,by decide,pk tm ?_⟩;refine⟨by show(oX _ r).isSome=pc;rw[pH];rfl,s,_,rfl,c11,o,_,_,own,rfl,XW,XB,by decide,h64,pb rfl,pk pH ⟨?_,?_⟩⟩
  .rw[cO,cO,dZ];omega
  .refine Xq _ _ ⟨?_,_,_,rfl⟩;rw[rM,cR,hi];show pI M r (.lst (_++[rf (zW s own i)]))=_;rw[BK];rfl
 .rintro U M' ⟨rfl,x,y,rfl⟩
  refine⟨_,.refl,?_⟩;rw[cO,dZ];exact q r hr
noncomputable def Jb(ns:T0 Int)(own nm:QQQ)(i:Nat):tI:=(decide (0<qC (cell ns (1+(0+(i:Nat)))+31*(0+(i:Nat))*(0+(i:Nat))) 22695477 6),wJ (cell ns (1+(0+(i:Nat)))+31*(0+(i:Nat))*(0+(i:Nat))) own nm)
noncomputable def xi(s:Int):Nat:=(qC s 950706376 11).toNat
noncomputable def B0(ns:T0 Int)(m:Int):pF:=
 let s:=cell ns 0;let own:=(qz s m).map (·.1);let gs:=qV s own
 ⟨qz s m,gs,(List.range (xi s)).map (Jb ns own (own++gs.map (·.1)))⟩
def MH:rm:=λds M Q=>CA λns m=>ds=[.rl (ns.map D.int),.int m]/\2<=m/\m<=8/\∀r1 r2 r3 M',qr M M'->oX M' r1=Fa ((B0 ns m).mD.map qY)->oX M' r2=Fa ((B0 ns m).groups.map rf)->oX M' r3=Fa ((B0 ns m).mB.map tH)->Q (.tup [.ref r1,.ref r2,.ref r3]) M'
def Lu:Fq P w K mg base 4 a.bo MH:=by
 refine fq G.bo.toDG sE (λr u=>⟨_,(pq (pO 2 sE (pJ (JO G) r G.J (sf v0 pB)))
 (pq (pO 3 sE (pJ (HS G) r G.bl (sf U2 U1)))
 (pq (ur (i:=4) sE.nd rfl (Or.inl rfl) rfl (xn (ix:=[Db]) (N':=["_law_phone"])) (qH U3) (qx 0) rH (pL v0 pB))
 (pq (pO 5 sE (pJ (HP G) r G.bm (sf U2 v4)))
 (pq (pO 6 sE (pW v4 (qG rfl (xn (ix:=[Db]) (N':=["_law_group"])) (qH v5) (qx 0) rH (pL v0 pB))))
 (pq (pO 7 sE (qO sF))
 (pq (uZ fj rfl (vp rfl G.ac (qm (pJ (qI G) r G.i (rb U2 pB pB)))) (rC 8 sE)
 (pq (pO 9 sE (pW (pJ (JO G) r G.J (sf v0 (pW pB v8))) (pW (pW pB v8) v8)))
 (pz (pQ (rF v7 (qm (pP (sf (qh u (pJ (qI G) r G.i (rb v9 pB pB)) pB) (pJ (Qg G) r G.bn (rb v9 v4 v6))))))))))
 (pz (pG (pP (rb U3 v5 v7))))))))))),?_⟩)
 rintro ds M Q ⟨ns,m,rfl,h2,h8,q⟩
 have hz:=dF;have pl:=yY (s:=cell ns 0) h2 (by omega);have p8:rV (cell ns 0) m<=8:=by have d1:=qL (c:=cell ns 0) (f:=48271) (m:=m - 1) (by omega);unfold rV;omega
 have gl:=wW (s:=cell ns 0);have lp:(qz (cell ns 0) m).length=rV (cell ns 0) m:=by unfold qz;rw[cO,dZ]
 refine⟨ns,0,rfl,cell ns 0,m,rfl,h2,by omega,λr1 XZ=>?_⟩;have s1:=qr.new (c:=.lst ((qz (cell ns 0) m).map qY)) XZ;have a1:=@pH M r1 ((qz (cell ns 0) m).map qY);generalize pI M r1 (.lst ((qz (cell ns 0) m).map qY))=M1 at s1 a1 ⊢;refine pk a1 (ra (f:=AK) a1 _ [] _ (by rw[cO];simp only[dB];omega) (λd hd k hk=>?_) λo ho=>?_)
 .obtain⟨x,_,rfl⟩:=dq.mp hd;exact hk
 rw[dQ,w9];have s2:=s1.trans (qr.new (c:=.lst (((qz (cell ns 0) m).map (·.1)).map D.str)) ho);have b1:=(qr.new (c:=.lst (((qz (cell ns 0) m).map (·.1)).map D.str)) ho).lst a1;have bo:=@pH M1 o (((qz (cell ns 0) m).map (·.1)).map D.str);generalize pI M1 o (.lst (((qz (cell ns 0) m).map (·.1)).map D.str))=M2 at s2 b1 bo ⊢;have ol:((qz (cell ns 0) m).map (·.1)).length=rV (cell ns 0) m:=by rw[cO,lp]
 have one:(qz (cell ns 0) m).map (·.1)≠[]:=λz=>by rw[z]at ol;have:0=rV (cell ns 0) m:=ol;omega
 have Xt:B0 ns m=⟨qz (cell ns 0) m,qV (cell ns 0) ((qz (cell ns 0) m).map (·.1)),(List.range (xi (cell ns 0))).map (Jb ns ((qz (cell ns 0) m).map (·.1)) ((qz (cell ns 0) m).map (·.1)++(qV (cell ns 0) ((qz (cell ns 0) m).map (·.1))).map (·.1)))⟩:=rfl;rw[Xt]at q;generalize (qz (cell ns 0) m).map (·.1)=own at bo ol one q ⊢;refine⟨cell ns 0,o,own,rfl,bo,one,by omega,λr2 ZA=>?_⟩;have t3:=qr.new (c:=.lst ((qV (cell ns 0) own).map rf)) ZA;have c2:=@pH M2 r2 ((qV (cell ns 0) own).map rf);have c1:=t3.lst b1;have co:=t3.lst bo;have s3:=s2.trans t3;generalize pI M2 r2 (.lst ((qV (cell ns 0) own).map rf))=M3 at s3 c1 c2 co ⊢;have gll:(qV (cell ns 0) own).length=vS (cell ns 0):=by unfold qV;rw[cO,dZ]
 refine pk c2 (ra (f:=AK) c2 _ [] _ (by rw[cO];simp only[dB];omega) (λd hd k hk=>?_) λx4 hx4=>?_)
 .obtain⟨x,_,rfl⟩:=dq.mp hd;exact hk
 rw[dQ,xk];have t4:=qr.new (c:=.lst (((qV (cell ns 0) own).map (·.1)).map D.str)) hx4;refine pk (t4.lst co) (pk pH ⟨?_,λn hn=>?_⟩)
 .rw[cO,cO,cO];omega
 have en:own.map D.str++((qV (cell ns 0) own).map (·.1)).map D.str=(own++(qV (cell ns 0) own).map (·.1)).map D.str:=by rw[dz]
 rw[en];have nl:(own++(qV (cell ns 0) own).map (·.1)).length=rV (cell ns 0) m+vS (cell ns 0):=by rw[cR,cO,ol,gll]
 have t5:=t4.trans (qr.new (c:=.lst ((own++(qV (cell ns 0) own).map (·.1)).map D.str)) hn);have en5:=@pH (pI M3 x4 (.lst (((qV (cell ns 0) own).map (·.1)).map D.str))) n ((own++(qV (cell ns 0) own).map (·.1)).map D.str);have e1:=t5.lst c1;have e2:=t5.lst c2;have eo:=t5.lst co;have s5:=s3.trans t5;generalize pI (pI M3 x4 (.lst (((qV (cell ns 0) own).map (·.1)).map D.str))) n (.lst ((own++(qV (cell ns 0) own).map (·.1)).map D.str))=M5 at s5 e1 e2 eo en5 ⊢;generalize own++(qV (cell ns 0) own).map (·.1)=nm at en5 nl q ⊢;have d0:=qW (c:=cell ns 0) (f:=950706376) (m:=11) (by decide);have d1:=qL (c:=cell ns 0) (f:=950706376) (m:=11) (by decide);refine⟨pb rfl,λr3 ZT=>⟨_,_,_,rfl,by decide,rfl,⟨?_,?_⟩,?_⟩⟩
 .show -(2 ^ 62)<=qC (cell ns 0) 950706376 11;omega
 .show qC (cell ns 0) 950706376 11<2 ^ 62;omega
 have t6:=qr.new (c:=.lst []) ZT;have g3:=@pH M5 r3 [];have no:o≠r3:=λz=>by have:=pY eo;rw[z,ZT]at this;cases this
 have nn:n≠r3:=λz=>by have:=pY en5;rw[z,ZT]at this;cases this
 have n1:r1≠r3:=λz=>by have:=pY e1;rw[z,ZT]at this;cases this
 have n2:r2≠r3:=λz=>by have:=pY e2;rw[z,ZT]at this;cases this
 have f1:=t6.lst e1;have f2:=t6.lst e2;have fo:=t6.lst eo;have fn:=t6.lst en5;have k6:qr M (pI M5 r3 (.lst [])):=s5.trans t6;have nr:M r3=Db:=s5.none ZT;generalize pI M5 r3 (.lst [])=M6 at f1 f2 fo fn k6 g3 ⊢;have wl:xi (cell ns 0)<=10:=by unfold xi;omega
 refine wK ((List.range (xi (cell ns 0))).map λi=>D.int (0+(i:Nat))) (λpre U M'=>so r3 M6 M'/\oX M' r3=Fa (((List.range pre.length).map (Jb ns own nm)).map tH)/\∃x y,U=[Fa (.rl (ns.map D.int)),Fa (.int m),Fa (.int (cell ns 0)),Fa (.ref r1),Fa (.ref o),Fa (.ref r2),Fa (.ref n),Fa (.ref r3),x,y]) (λp U M' j=>trivial) _ [] _ _ rfl ⟨λ_ _ _ h=>h,g3,Db,Db,rfl⟩ ?_ ?_
 .rintro pre d post e U M' ⟨kp,lr,x,y,rfl⟩ nx Xq
  obtain⟨rfl,Xr⟩:=BZ e;generalize hi:pre.length=i at Xr Xq lr ⊢;have c31:Dm 31 (0+(i:Int)):=.inl ⟨by decide,by decide⟩;have cm:Dm (31*(0+(i:Int))) (0+(i:Int)):=.inr ⟨by omega,by omega⟩;refine⟨ns,_,rfl,c31,cm,?_⟩;refine⟨by show(oX M' r3).isSome=pc;rw[lr];rfl,_,_,_,rfl,by decide,_,o,n,own,nm,rfl,kp.lst no fo,kp.lst nn fn,one,by omega,by omega,by omega,pb rfl,pk lr ⟨?_,?_⟩⟩
  .rw[cO,cO,dZ];omega
  .refine Xq _ _ ⟨kp.trans .put,?_,_,_,rfl⟩;rw[pH,cR,hi];show Fa (_++[tH (Jb ns own nm i)])=_;rw[BK];rfl
 .rintro U M' ⟨kp,lr,x,y,rfl⟩
  rw[cO,dZ]at lr;exact⟨pb rfl,M',.refl,q r1 r2 r3 M' (λb c h=>kp b c (λz=>by rw[z,nr]at h;cases h) (k6 b c h)) (kp.lst n1 f1) (kp.lst n2 f2) lr⟩
theorem BE(x:Array Nat):∀(n:Nat) (acc:Array Nat),((List.replicate n x).foldl (·++·) acc).toList=acc.toList++(List.replicate n x.toList).flatten
 | 0,acc=>by simp
 | n+1,acc=>by rw[eB,fT,BE x n (acc++x),eB,fK,iU,eU]
theorem FT(c:Nat):∀n:Nat,(List.replicate n [c]).flatten=List.replicate n c
 | 0=>rfl
 | n+1=>by rw[eB,fK,FT c n,eB];rfl
def D5(i n:Int):(yN (uq i) n).cps.toList=List.replicate n.toNat (97+i.toNat):=by show((List.replicate n.toNat (uq i).cps).foldl (·++·) #[]:Array Nat).toList=_;rw[BE];show[]++(List.replicate n.toNat [97+i.toNat]).flatten=_;rw[dQ,FT]
def yp(s v:Int):(xZ s v).cps.toList=List.replicate (uC s).toNat (97+(s / 36 % 26).toNat)++(97+((s / 936+v) % 26).toNat)::List.replicate (size s - 1 - uC s).toNat (97+(s / 36 % 26).toNat):=by show((yN (uq (s / 36 % 26)) (uC s)).cps++(uq ((s / 936+v) % 26)).cps++(yN (uq (s / 36 % 26)) (size s - 1 - uC s)).cps).toList=_;rw[iU,iU,D5,D5];show _++[97+((s / 936+v) % 26).toNat]++_=_;rw[eU];rfl
def CC(s v:Int):1<=(xZ s v).length/\(xZ s v).length<=6:=by
 have e:(xZ s v).length=(xZ s v).cps.toList.length:=by simp[Str.length]
 rw[e,yp,cR,dU,iE,iE];have h1:=Gd s;have h2:=Jt s;have h3:0<=uC s:=eK _ (by omega);have h4:uC s<size s:=eG _ h1;omega
def MU{i:Int}(h0:0<=i)(h1:i<26):Dy ⟨#[97+i.toNat]⟩ uF=pc:=by
 obtain⟨n,rfl⟩:=d6 h0;have hn:n<26:=by omega
 have key:∀n:_root_.Fin 26,Dy ⟨#[97+n.val]⟩ uF=pc:=by decide+kernel
 exact key ⟨n,hn⟩
def D9(s v:Int):uK (xZ s v)=pc:=by
 obtain⟨h1,h2⟩:=CC s v;unfold uK;rw[dP (show(1:Int)<=(xZ s v).length by omega),dP (show((xZ s v).length:Int)<=6 by omega),eD,eD,eA];intro c hc;rw[yp]at hc;have k1:=MU (eK (s / 36) (show(26:Int)≠0 by decide)) (eG (s / 36) (by decide));have k2:=MU (eK (s / 936+v) (show(26:Int)≠0 by decide)) (eG (s / 936+v) (by decide));rcases dI.mp hc with z|z
 .rw[jE z];exact k1
 .rcases cW.mp z with z|z
  .rw[z];exact k2
  .rw[jE z];exact k1
def BU{s u v:Int}(hu:0<=u)(hu':u<26)(hv:0<=v)(hv':v<26)(e:xZ s u=xZ s v):u=v:=by
 have e':(xZ s u).cps.toList=(xZ s v).cps.toList:=by rw[e]
 rw[yp,yp]at e';have:=(List.append_cancel_left e');have:=(fD this).1;have a1:=eK (s / 936+u) (show(26:Int)≠0 by decide);have a2:=eK (s / 936+v) (show(26:Int)≠0 by decide);have h:(s / 936+u) % 26=(s / 936+v) % 26:=by omega
 omega
def FR{ss:QQQ}{x:Str}(h:x∈ss):xA ss x:=gu.mpr ⟨x,h,by simp⟩
def Bq{row:QQQ}{i:Int}(h0:0<=i)(h1:i<row.length):CB row i∈row:=by
 obtain⟨n,rfl⟩:=d6 h0;have hn:n<row.length:=by omega
 have:CB row (n:Int)=row[n]:=by simp[CB,hn]
 rw[this];exact gW hn
def JL{row:QQQ}{i j:Int}(nd:row.Nodup)(h0:0<=i)(h1:i<row.length)(g0:0<=j)(g1:j<row.length)(e:CB row i=CB row j):i=j:=by
 obtain⟨n,rfl⟩:=d6 h0;obtain⟨k,rfl⟩:=d6 g0;have hn:n<row.length:=by omega
 have hk:k<row.length:=by omega
 have e1:CB row (n:Int)=row[n]:=by simp[CB,hn]
 have e2:CB row (k:Int)=row[k]:=by simp[CB,hk]
 rw[e1,e2]at e;have pw:=jo.mp nd;rcases Nat.lt_trichotomy n k with z|z|z
 .exact absurd e (pw n k hn hk z)
 .rw[z]
 .exact absurd e.symm (pw k n hk hn z)
def Al{α:Type}(f:Nat->α)(n:Nat)(h:∀i j,i<n->j<n->f i=f j->i=j):((List.range n).map f).Nodup:=by refine jo.mpr λi j hi hj Xr e=>?_;rw[cO,dZ]at hi hj;rw[lP,lP,kP,kP]at e;have:=h i j hi hj e;omega
def B7{row:QQQ}{c m:Int}(hr:row≠[])(hm:0<m):1<=xo row c m/\(xo row c m:Int)<=m/\xo row c m<=row.length:=by
 have hl:0<row.length:=fu.mpr hr;have d0:=qW (c:=c) (f:=40692) (m:=if (row.length:Int)<m then(row.length:Int)else m) (by split<;>omega);have d1:=qL (c:=c) (f:=40692) (m:=if (row.length:Int)<m then(row.length:Int)else m) (by split<;>omega);unfold xo;by_cases h:(row.length:Int)<m
 .rw[cV h]at d0 d1 ⊢;omega
 .rw[cS h]at d0 d1 ⊢;omega
def B9{row:QQQ}{c:Int}(hr:row≠[])(j:Nat):0<=(qC c 69621 row.length+(0+(j:Nat))) % (row.length:Int)/\(qC c 69621 row.length+(0+(j:Nat))) % (row.length:Int)<row.length:=by have hl:0<row.length:=fu.mpr hr;exact⟨eK _ (by omega),eG _ (by omega)⟩
def IE{d n i j:Int}(hn:0<n)(hi:0<=i)(YO:i<n)(hj:0<=j)(hj':j<n)(e:(d+i) % n=(d+j) % n):i=j:=by
 have h1:=j3 (d+i) n;have h2:=j3 (d+j) n;generalize (d+i) / n=a at h1;generalize (d+j) / n=b at h2;have h3:i - j=n*(a - b):=by rw[Int.mul_sub];omega
 rcases Int.lt_trichotomy (a - b) 0 with z|z|z
 .have:n*(a - b)<=n*(-1):=iS (by omega) (by omega);omega
 .rw[z]at h3;omega
 .have:n*1<=n*(a - b):=iS (by omega) (by omega);omega
def Ie{row:QQQ}{c m:Int}(nd:row.Nodup)(hr:row≠[])(hm:0<m):(vP row c m).Nodup:=by have hl:0<row.length:=fu.mpr hr;obtain⟨_,_,l3⟩:=B7 (c:=c) hr hm;refine Al _ _ λi j hi hj e=>?_;obtain⟨a0,a1⟩:=B9 (c:=c) hr i;obtain⟨b0,b1⟩:=B9 (c:=c) hr j;have e':=JL nd a0 a1 b0 b1 e;have:=IE (d:=qC c 69621 row.length) (n:=row.length) (i:=0+(i:Nat)) (j:=0+(j:Nat)) (by omega) (by omega) (by omega) (by omega) (by omega) e';omega
def xM{row:QQQ}{c m k:Int}(nd:row.Nodup)(hr:row≠[])(hm:0<m)(hk:m<=k):sP (vP row c m) row k=pc:=by
 obtain⟨l1,l2,l3⟩:=B7 (c:=c) hr hm;have el:(vP row c m).length=xo row c m:=by unfold vP;rw[cO,dZ]
 unfold sP;rw[el,dP (show(1:Int)<=xo row c m by omega),dP (show(xo row c m:Int)<=k by omega),D6 (Ie nd hr hm),eD,eD,eD,eA];intro x hx;unfold vP at hx;obtain⟨j,_,rfl⟩:=dq.mp hx;obtain⟨a0,a1⟩:=B9 (c:=c) hr j;exact FR (Bq a0 a1)
def Cg{row:QQQ}{c m:Int}(hr:row≠[])(hm:0<m)(h:m<=100):(vP row c m).length<4000:=by
 obtain⟨l1,l2,l3⟩:=B7 (c:=c) hr hm;have el:(vP row c m).length=xo row c m:=by unfold vP;rw[cO,dZ]
 omega
def Ob{c:Int}{own all:QQQ}(no:own.Nodup)(na:all.Nodup)(ho:own≠[])(ha:2<=all.length):B4 own all (wJ c own all):=by
 have hl:(0:Int)<own.length:=by have:=fu.mpr ho;omega
 have ha0:all≠[]:=λz=>by rw[z]at ha;simp at ha
 have hx:=FR (Bq (qW (c:=c) (f:=16807) hl) (qL (c:=c) (f:=16807) hl));have p0:=qW (c:=c) (f:=39373) (m:=all.length) (by omega);have p1:=qL (c:=c) (f:=39373) (m:=all.length) (by omega);have e0:=qW (c:=c) (f:=742938285) (m:=(all.length:Int) - 1) (by omega);have e1:=qL (c:=c) (f:=742938285) (m:=(all.length:Int) - 1) (by omega);have z0:=eK (qC c 39373 all.length+1+qC c 742938285 ((all.length:Int) - 1)) (show(all.length:Int)≠0 by omega);have z1:=eG (qC c 39373 all.length+1+qC c 742938285 ((all.length:Int) - 1)) (show(0:Int)<all.length by omega);have hy:=FR (Bq p0 p1);have hzz:=FR (Bq z0 z1);have ne:CB all (qC c 39373 all.length)≠CB all ((qC c 39373 all.length+1+qC c 742938285 ((all.length:Int) - 1)) % all.length):=λz=>by
  have q:=JL na p0 p1 z0 z1 z;have q2:(qC c 39373 all.length+0) % (all.length:Int)=(qC c 39373 all.length+(1+qC c 742938285 ((all.length:Int) - 1))) % (all.length:Int):=by rw[Int.add_zero,Int.emod_eq_of_lt p0 p1,<-Int.add_assoc];exact q
  have:=IE (by omega) (by omega) (by omega) (by omega) (by omega) q2;omega
 have f0:=qW (c:=c) (f:=22695477) (m:=24) (by decide);have f1:=qL (c:=c) (f:=22695477) (m:=24) (by decide);have g0:=qW (c:=c) (f:=48271) (m:=23) (by decide);have g1:=qL (c:=c) (f:=48271) (m:=23) (by decide);have t0:=qW (c:=c) (f:=950706376) (m:=5) (by decide);have t1:=qL (c:=c) (f:=950706376) (m:=5) (by decide);unfold wJ;simp only;split
 .exact⟨hx,Cg ha0 (by decide) (by decide),xM na ha0 (by decide) (by decide)⟩
 .split
  .exact⟨hy,Cg ho (by decide) (by decide),xM no ho (by decide) (by decide)⟩
  .split
   .exact⟨hy,hzz,ne⟩
   .split
    .refine⟨hy,hzz,ne,⟨f0,by omega⟩,⟨eK _ (by decide),?_⟩,?_⟩
     .have:=eG (qC c 22695477 24+1+qC c 48271 23) (show(0:Int)<24 by decide);omega
     .omega
    .split
     .exact⟨hy,hzz,ne⟩
     .split
      .refine⟨hy,hzz,ne,?_⟩;generalize qC c 950706376 5=d at t0 t1;have:d=0\/d=1\/d=2\/d=3\/d=4:=by omega
       rcases this with z|z|z|z|z<;>(subst z;decide)
      .split
       .exact hx
       .exact hx
def Mz(s:Int)(i:Nat):ED (wj s i):=by
 have t0:=qW (c:=s+17*(0+(i:Nat))*(0+(i:Nat))) (f:=16807) (m:=5) (by decide);have t1:=qL (c:=s+17*(0+(i:Nat))*(0+(i:Nat))) (f:=16807) (m:=5) (by decide);have u0:=qW (c:=s+17*(0+(i:Nat))*(0+(i:Nat))) (f:=39373) (m:=6) (by decide);have u1:=qL (c:=s+17*(0+(i:Nat))*(0+(i:Nat))) (f:=39373) (m:=6) (by decide);have a:1<=(wj s i).2.1/\(wj s i).2.1<=3:=by
  show 1<=G2 OM (qC (s+17*(0+(i:Nat))*(0+(i:Nat))) 16807 5)/\G2 OM (qC (s+17*(0+(i:Nat))*(0+(i:Nat))) 16807 5)<=3;generalize qC (s+17*(0+(i:Nat))*(0+(i:Nat))) 16807 5=d at t0 t1;have:d=0\/d=1\/d=2\/d=3\/d=4:=by omega
  rcases this with z|z|z|z|z<;>(subst z;decide)
 have b:0<=(wj s i).2.2/\(wj s i).2.2<=9:=by
  show 0<=G2 Pe (qC (s+17*(0+(i:Nat))*(0+(i:Nat))) 39373 6)/\G2 Pe (qC (s+17*(0+(i:Nat))*(0+(i:Nat))) 39373 6)<=9;generalize qC (s+17*(0+(i:Nat))*(0+(i:Nat))) 39373 6=d at u0 u1;have:d=0\/d=1\/d=2\/d=3\/d=4\/d=5:=by omega
  rcases this with z|z|z|z|z|z<;>(subst z;decide)
 exact⟨dR (CC s (0+(i:Nat))).2 (by decide),D9 _ _,a.1,a.2,b.1,b.2⟩
def NO{s:Int}{own:QQQ}(nd:own.Nodup)(hr:own≠[])(i:Nat):Fv own (zW s own i):=by
 have t0:=qW (c:=s+5*(0+(i:Nat))) (f:=742938285) (m:=2) (by decide);have t1:=qL (c:=s+5*(0+(i:Nat))) (f:=742938285) (m:=2) (by decide);refine⟨dR (CC s (8+(0+(i:Nat)))).2 (by decide),D9 _ _,?_,Cg hr (by decide) (by decide),xM nd hr (by decide) (by decide)⟩;show CB OA (qC (s+5*(0+(i:Nat))) 742938285 2)="all"\/CB OA (qC (s+5*(0+(i:Nat))) 742938285 2)="turns";generalize qC (s+5*(0+(i:Nat))) 742938285 2=d at t0 t1;have:d=0\/d=1:=by omega
 rcases this with z|z
 .subst z;exact .inl rfl
 .subst z;exact .inr rfl
def MF(s m:Int):(qz s m).map (·.1)=(List.range (rV s m)).map λi=>xZ s (0+(i:Nat)):=by unfold qz;rw[dS];rfl
def GQ{s m:Int}(h2:2<=m)(h8:m<=8):((qz s m).map (·.1)).Nodup/\∀own,((qz s m).map (·.1)++(qV s own).map (·.1)).Nodup:=by
 have d1:=qL (c:=s) (f:=48271) (m:=m - 1) (by omega);have d0:=qW (c:=s) (f:=48271) (m:=m - 1) (by omega);have p8:rV s m<=8:=by unfold rV;omega
 have g3:=wW (s:=s);have a:((qz s m).map (·.1)).Nodup:=by rw[MF];refine Al _ _ λi j hi hj e=>?_;have:=BU (by omega) (by omega) (by omega) (by omega) e;omega
 refine⟨a,λown=>?_⟩;have ge:(qV s own).map (·.1)=(List.range (vS s)).map λi=>xZ s (8+(0+(i:Nat))):=by unfold qV;rw[dS];rfl
 rw[gi];refine⟨a,?_,λx hx y hy e=>?_⟩
 .rw[ge];refine Al _ _ λi j hi hj e=>?_;have:=BU (by omega) (by omega) (by omega) (by omega) e;omega
 .rw[MF]at hx;rw[ge]at hy;obtain⟨i,hi,rfl⟩:=dq.mp hx;obtain⟨j,hj,rfl⟩:=dq.mp hy;have hi:=fJ.mp hi;have hj:=fJ.mp hj;have:=BU (by omega) (by omega) (by omega) (by omega) e;omega
def ON{m:Int}(h2:2<=m)(h8:m<=8):rh (B0 ns m):=by
 obtain⟨n1,n2⟩:=GQ (s:=cell ns 0) h2 h8;have pl:=yY (s:=cell ns 0) h2 (by omega);have p8:rV (cell ns 0) m<=8:=by have d1:=qL (c:=cell ns 0) (f:=48271) (m:=m - 1) (by omega);unfold rV;omega
 have lp:(qz (cell ns 0) m).length=rV (cell ns 0) m:=by unfold qz;rw[cO,dZ]
 have ol:((qz (cell ns 0) m).map (·.1)).length=rV (cell ns 0) m:=by rw[cO,lp]
 have one:(qz (cell ns 0) m).map (·.1)≠[]:=λz=>by rw[z]at ol;have:0=rV (cell ns 0) m:=ol;omega
 have gl:(qV (cell ns 0) ((qz (cell ns 0) m).map (·.1))).length=vS (cell ns 0):=by unfold qV;rw[cO,dZ]
 refine⟨?_,?_,λp hp=>?_,?_,λg hg=>?_,n2 _,?_,λv hv=>?_⟩
 .show 1<=(qz (cell ns 0) m).length;omega
 .show(qz (cell ns 0) m).length<=8;omega
 .obtain⟨i,_,rfl⟩:=dq.mp hp;exact Mz _ i
 .show(qV (cell ns 0) ((qz (cell ns 0) m).map (·.1))).length<=3;rw[gl];exact wW
 .obtain⟨i,_,rfl⟩:=dq.mp hg;exact NO n1 one i
 .show((List.range (xi (cell ns 0))).map _).length<=16;rw[cO,dZ];have d1:=qL (c:=cell ns 0) (f:=950706376) (m:=11) (by decide);unfold xi;omega
 .obtain⟨i,hi,rfl⟩:=dq.mp hv;refine Ob n1 (n2 _) one ?_;show 2<=((qz (cell ns 0) m).map (·.1)++_).length;rw[cR,ol];omega
structure pD where
 st:Str
 cr:Str
 way:QQQ
 at_:QQQ
 ms:QQQ
 hd:Option Str
 si:Int
 wd:Option Str
structure su where
 i:Nat
 f:Str
 g:Str
 y:Str
inductive Ev
 | new (n:Nat) (x:Str)
 | leg (v:su)
 | asks (i:Nat) (z:Str) (ns:List Nat)
 | next (z:Str) (n:Int)
 | merge (i j:Nat) (ms:QQQ)
 | turn
 | sw (b:Bool) (i:Nat)
 | rings (i:Nat) (ps:QQQ)
 | quiet (i:Nat)
 | waits (i:Nat) (x:Str)
 | talks (i:Nat) (ms:QQQ)
 | held (i:Nat) (x:Str)
 | leaves (i:Nat) (x:Str)
 | over (i:Nat) (w:Str)
structure qo where
 p:Uf
 h:Int
 t:Int
 calls:List pD
 mP:List su
 ps:List (Str×Int)
 on:List Bool
 log:List Ev
 fo:QXQ
noncomputable def vF(ns:T0 Nat):D:=.tup (ns.map λn=>D.int (n:Nat))
noncomputable def su.d(v:su):D:=.tup [.int (v.i:Nat),.str v.f,.str v.g,.str v.y]
noncomputable def UE(b:Bool):Str:=if b=pc then "on" else "off"
noncomputable def Ev.d:Ev->D
 | .new n x=>.tup [.str "new",.int (n:Nat),.str x]
 | .leg v=>.tup [.str "leg",.int (v.i:Nat),.str v.f,.str v.g,.str v.y]
 | .asks i z ns=>.tup [.str "asks",.int (i:Nat),.str z,vF ns]
 | .next z n=>.tup [.str "next",.str z,.int n]
 | .merge i j ms=>.tup [.str "merge",.int (i:Nat),.int (j:Nat),names ms]
 | .turn=>.tup [.str "turn"]
 | .sw b i=>.tup [.str (UE b),.int (i:Nat)]
 | .rings i ps=>.tup [.str "rings",.int (i:Nat),names ps]
 | .quiet i=>.tup [.str "quiet",.int (i:Nat)]
 | .waits i x=>.tup [.str "waits",.int (i:Nat),.str x]
 | .talks i ms=>.tup [.str "talks",.int (i:Nat),names ms]
 | .held i x=>.tup [.str "held",.int (i:Nat),.str x]
 | .leaves i x=>.tup [.str "leaves",.int (i:Nat),.str x]
 | .over i w=>.tup [.str "over",.int (i:Nat),.str w]
noncomputable def hasS(ss:QQQ)(x:Str):Bool:=ss.any (·==x)
noncomputable def rN(ss:QQQ)(x:Str):QQQ:=ss.filter λy=>!(y==x)
noncomputable def zO(x:Str):pD:=⟨"rings",x,[],[],[],Db,0,Db⟩
noncomputable def pD.over(c:pD)(w:Str):pD:={c with st:="over",wd:=some w,at_:=[],ms:=[],hd:=none}
noncomputable def pD.drop(c:pD)(x:Str):pD:={c with at_:=rN c.at_ x,ms:=rN c.ms x}
noncomputable def pD.ring(c:pD)(ps:QQQ):pD:={c with st:="rings",at_:=ps,si:=0}
noncomputable def pD.nz(c:pD)(ms:QQQ):pD:={c with st:="talks",ms:=ms,at_:=[],hd:=none}
noncomputable def pD.wait(c:pD)(x:Str):pD:={c with st:="waits",at_:=[x]}
noncomputable def pD.hold(c:pD)(x:Str):pD:={c with st:="held",hd:=some x}
noncomputable def pD.nG(c:pD):pD:={c with at_:=[]}
noncomputable def pD.mem(c:pD)(ms:QQQ):pD:={c with ms:=ms}
noncomputable def pD.go(c:pD)(g:Str):pD:={c with way:=c.way++[g]}
noncomputable def pD.tick(c:pD):pD:=if (c.st=="rings")=pc then{c with si:=c.si+1}else c
noncomputable def su.to(m k:Nat)(v:su):su:=if v.i=m then{v with i:=k}else v
noncomputable def Bw(ps:T0 (Str×Int))(z:Str)(n:Int):T0 (Str×Int):=if ps.any (λp=>decide (p.1=z))=pc then ps.map (λp=>if p.1=z then(p.1,n)else p)else ps++[(z,n)]
noncomputable def xT(V:qo)(i:Nat)(f:pD->pD):qo:={V with calls:=V.calls.modify i f}
noncomputable def qP(V:qo)(e:Ev):qo:={V with log:=V.log++[e]}
noncomputable def U5(V:qo):Ev->qo
 | .new _ x=>{V with calls:=V.calls++[zO x]}
 | .leg v=>{V with mP:=V.mP++[v],calls:=V.calls.modify v.i (·.go v.g)}
 | .asks _ _ _=>V
 | .next z n=>{V with ps:=Bw V.ps z n}
 | .merge i j ms=>{V with calls:=(V.calls.modify i (·.over "merged")).modify j (·.mem ms),mP:=V.mP.map (su.to i j)}
 | .turn=>{V with t:=V.t+1,calls:=V.calls.map pD.tick}
 | .sw b i=>{V with on:=V.on.set i b}
 | .rings i ps=>xT V i (·.ring ps)
 | .quiet i=>xT V i pD.nG
 | .waits i x=>xT V i (·.wait x)
 | .talks i ms=>xT V i (·.nz ms)
 | .held i x=>xT V i (·.hold x)
 | .leaves i x=>xT V i (·.drop x)
 | .over i w=>xT V i (·.over w)
noncomputable def qb(V:qo)(e:Ev):qo:=U5 (qP V e) e
noncomputable def qF(V:qo)(es:T0 Ev):qo:=es.foldl qb V
def Ev.ok(V:qo):Ev->Prop
 | .new _ _=>True
 | .leg v=>v.i<V.calls.length
 | .asks _ _ _=>True
 | .next _ _=>True
 | .merge i j ms=>i<V.calls.length/\j<V.calls.length/\i≠j/\ms.length<=100
 | .turn=>True
 | .sw _ i=>i<V.on.length
 | .rings i ps=>i<V.calls.length/\ps.length<=100
 | .quiet i=>i<V.calls.length
 | .waits i _=>i<V.calls.length
 | .talks i ms=>i<V.calls.length/\ms.length<=100
 | .held i _=>i<V.calls.length
 | .leaves i _=>i<V.calls.length
 | .over i _=>i<V.calls.length
def rO(V:qo)(es fs:T0 Ev):qF V (es++fs)=qF (qF V es) fs:=kY ..
theorem JV:∀(es:T0 Ev) (V:qo),(qF V es).log=V.log++es
 | [],V=>(eJ _).symm
 | e::r,V=>by
  show(qF (qb V e) r).log=_;rw[JV r];have:(qb V e).log=V.log++[e]:=by cases e<;>rfl
  rw[this,eU];rfl
noncomputable def pD.mO(c:pD)(x:Str):Bool:=(c.st=="talks")&&hasS c.ms x
noncomputable def pD.hasB(c:pD)(x:Str):Bool:=if (c.st=="rings")=pc then(x==c.cr)||hasS c.at_ x else if (c.st=="waits")=pc then x==c.cr else(c.st=="talks"||c.st=="held")&&hasS c.ms x
noncomputable def pD.mW(c:pD)(x:Str):Bool:=if (c.st=="held")=pc then hasS c.ms x&&!((c.hd==Fa x))else c.mO x
noncomputable def pD.mM(c:pD)(x:Str):Bool:=(c.st=="rings"||c.st=="waits")&&(x==c.cr)
noncomputable def pD.mH(c:pD)(x:Str):Bool:=(c.st=="waits")&&hasS c.at_ x
noncomputable def pD.m9(c:pD)(x:Str):Bool:=c.mM x||(hasS c.at_ x||hasS c.ms x)
noncomputable def pD.mQ(c:pD)(x:Str):Bool:=c.mO x&&(c.ms.length==2)
noncomputable def vi(V:qo)(x:Str):Nat:=(V.calls.filter (·.hasB x)).length
noncomputable def wQ(l:pF)(x:Str):Int:=(l.mU x).elim 0 λv=>v.2.1
noncomputable def vX(l:pF)(x:Str):Int:=(l.mU x).elim 0 λv=>v.2.2
noncomputable def uf(l:pF)(V:qo)(x:Str):Bool:=decide ((vi V x:Int)<wQ l x)
noncomputable def uD(l:pF)(V:qo)(c z:Str):QQQ:=(l.mz z).filter λx=>!(x==c)&&uf l V x
noncomputable def x8(l:pF)(V:qo)(c z:Str):Bool:=(uD l V c z).isEmpty
noncomputable def vU(V:qo)(x:Str):Option Nat:=V.calls.findIdx? (·.mO x)
noncomputable def ET(V:qo)(x:Str):Option Nat:=V.calls.findIdx? (·.mW x)
noncomputable def Jq(V:qo)(x:Str):Option Nat:=V.calls.findIdx? (·.mM x)
noncomputable def AE(V:qo)(x:Str):Bool:=V.calls.any (·.mH x)
noncomputable def Ot:Option Nat->D
 | none=>.mG
 | some j=>.int (j:Nat)
noncomputable def EZ(f l h:Int):Bool:=if f<l then decide (f<=h)&&decide (h<l)else decide (h>=f)||decide (h<l)
noncomputable def Iu(l:pF)(x:Str)(ms:QQQ):Bool:=ms.all λm=>decide (vX l m<vX l x)
noncomputable def Hm(l:pF)(V:qo)(x c z:Str):Bool:=if (!(c==x)||(z==x))=pc then lf else if (!(hasS l.pn z)||!(x8 l V c z))=pc then lf else((vU V z).bind (V.calls[·]?)).elim lf λk=>(k.ms.length==2)&&Iu l x k.ms
noncomputable def va(l:pF)(V:qo)(c z:Str):Wi->Bool
 | .bar x ns=>(c==x)&&hasS ns z
 | .shut x ns=>(z==x)&&hasS ns c
 | .always x _=>z==x
 | .night x _ f m=>(z==x)&&EZ f m ((V.h+V.t) % 24)
 | .busy x _=>(z==x)&&x8 l V c z
 | .silent _ _ _=>lf
 | .wait x=>if (!(z==x)||(c==x))=pc then lf else x8 l V c z&&!(AE V z)
 | .breaks x=>Hm l V x c z
noncomputable def Fg(c:pD):Wi->Bool
 | .silent x _ n=>(c.way.getLast?==Fa x)&&decide (n<=c.si)
 | _=>lf
noncomputable def vq(l:pF)(V:qo)(f:Wi->Bool):T0 Nat:=(List.range V.on.length).filter λi=>V.on.getD i lf&&(l.mB[i]?).elim lf λw=>f w.2
noncomputable def vN(l:pF)(V:qo)(c z:Str):T0 Nat:=vq l V (va l V c z)
noncomputable def vf(ms:QQQ)(n:Nat):QQQ:=ms.drop n++ms.take n
noncomputable def zx(V:qo)(z:Str):Nat:=((V.ps.find? λp=>decide (p.1=z)).elim 0 λp=>p.2).toNat
noncomputable def xX(l:pF)(V:qo)(c z:Str):QQQ:=if (l.mI z=="turns")=pc then((vf (l.mz z) (zx V z)).filter λx=>hasS (uD l V c z) x).take 1 else uD l V c z
inductive vI
 | engaged (z:Str)
 | rings (z:Str) (ps:QQQ)
 | waits (z:Str)
 | breaks (z:Str)
 | barred
 | ring (ns:QQQ)
noncomputable def vI.d:vI->D
 | .engaged z=>.tup [.str "engaged",.str z]
 | .rings z ps=>.tup [.str "rings",.str z,names ps]
 | .waits z=>.tup [.str "waits",.str z]
 | .breaks z=>.tup [.str "breaks",.str z]
 | .barred=>.tup [.str "barred"]
 | .ring ns=>.tup [.str "ring",names ns]
noncomputable def HC(l:pF)(V:qo)(c z:Str):vI:=match xX l V c z with
 | []=>.engaged z
 | x::r=>.rings z (x::r)
noncomputable def D4(z:Str):Wi->Sum vI Str
 | .bar _ _=>.inl .barred
 | .shut _ _=>.inl .barred
 | .always _ y=>.inr y
 | .night _ y _ _=>.inr y
 | .busy _ y=>.inr y
 | .silent _ y _=>.inr y
 | .wait _=>.inl (.waits z)
 | .breaks _=>.inl (.breaks z)
abbrev sr:=T0 (Str×T0 Nat)
noncomputable def sI(l:pF)(V:qo)(c:Str):Nat->Str->QQQ->sr->vI×sr
 | 0,_,_,st=>(.barred,st)
 | n+1,z,way,st=>if hasS way z=pc then(.ring (way.drop (way.findIdx (·==z))),st)else
  match vN l V c z with
  | []=>(HC l V c z,st++[(z,[])])
  | i::r=>(l.mB[i]?).elim (.barred,st) λw=>match D4 z w.2 with
   | .inl e=>(e,st++[(z,i::r)])
   | .inr y=>sI l V c n y (way++[z]) (st++[(z,i::r)])
noncomputable def se(l:pF)(V:qo)(c z:Str)(way:QQQ):vI×sr:=sI l V c (l.nm.length+1) z way []
noncomputable def rB(i:Nat):Option Str->sr->T0 Ev
 | _,[]=>[]
 | none,(z,fs)::r=>.asks i z fs::rB i (Fa z) r
 | some y,(z,fs)::r=>.leg ⟨i,y,z,y⟩::.asks i z fs::rB i (Fa z) r
noncomputable def Ph(ms:QQQ)(x:Str):Int:=((ms.findIdx (·==x):Nat)+1) % (ms.length:Int)
noncomputable def tz(l:pF)(V:qo)(i:Nat):vI->T0 Ev
 | .rings z ps=>(if (l.mI z=="turns")=pc then[.next z (Ph (l.mz z) (ps.headD Str.empty))]else[])++[.rings i ps]
 | .waits z=>[.waits i z]
 | .breaks z=>match vU V z,V.calls[i]? with
  | some j,Fa c=>[.merge i j ((V.calls[j]?).elim [] (·.ms)++[c.cr])]
  | _,_=>[]
 | .engaged _=>[.over i "engaged"]
 | .barred=>[.over i "barred"]
 | .ring _=>[.over i "ring"]
noncomputable def uo(i:Nat)(st:sr):vI->T0 Ev
 | .ring ns=>(st.getLast?).elim [] λs=>[.leg ⟨i,s.1,ns.headD Str.empty,s.1⟩]
 | _=>[]
noncomputable def uu(l:pF)(V:qo)(i:Nat):T0 Ev:=(V.calls[i]?).elim [] λc=>
 let r:=se l V c.cr (c.way.getLastD Str.empty) c.way.dropLast
 rB i Db r.2++(uo i r.2 r.1++tz l V i r.1)
noncomputable def EQ(l:pF)(V:qo)(y z:Str):T0 Ev:=
 let es:=[Ev.new V.calls.length y,.leg ⟨V.calls.length,y,z,y⟩]
 es++uu l (qF V es) V.calls.length
noncomputable def vm(V:qo)(x:Str)(i:Nat):T0 Ev:=(V.calls[i]?).elim [] λc=>if c.mM x=pc then[.over i "left"]else if hasS c.at_ x=pc then .leaves i x::(if rN c.at_ x=[]then[.over i "refused"]else[])else if 2<c.ms.length then[.leaves i x]else[.over i "done"]
noncomputable def r6(l:pF)(V:qo)(i:Nat)(fs:T0 Nat):T0 Ev:=match fs.head?.bind (l.mB[·]?)with
 | some (_,.silent x y _)=>
  let es:=[Ev.asks i x fs,.quiet i,.leg ⟨i,x,y,x⟩]
  es++uu l (qF V es) i
 | _=>[]
noncomputable def wg(l:pF)(V:qo)(i:Nat):T0 Nat:=(V.calls[i]?).elim [] λc=>if (c.st=="rings")=pc then vq l V (Fg c)else[]
noncomputable def qM(l:pF):T0 Nat->qo->T0 Ev
 | [],_=>[]
 | i::r,V=>r6 l V i (wg l V i)++qM l r (qF V (r6 l V i (wg l V i)))
noncomputable def yk(l:pF)(V:qo):T0 Ev:=.turn::qM l (List.range V.calls.length) (qb V .turn)
inductive tR
 | call (y z:Str)
 | num (w x:Str) (ns:List Int)
 | turn
 | sw (b:Bool) (i:Int)
noncomputable def tR.d:tR->D
 | .call y z=>.tup [.str "call",.str y,.str z]
 | .num w x ns=>.tup (.str w::.str x::ns.map D.int)
 | .turn=>.tup [.str "turn"]
 | .sw b i=>.tup [.str (UE b),.int i]
def tR.nv:tR->Prop
 | .num w _ ns=>((w="answer"\/w="hang"\/w="hold"\/w="back")/\ns.length=1)\/((w="hand"\/w="join")/\ns.length=2)
 | _=>True
noncomputable def uN(V:qo)(x:Str):Option Str:=if (ET V x).isSome=pc then Fa "bound" else if (Jq V x).isSome=pc then Fa "calls" else Db
noncomputable def zK(n:Nat)(i:Int):Bool:=decide (0<=i)&&decide (i<(n:Int))
noncomputable def II(w x:Str):List pD->Bool
 | []=>lf
 | c::r=>if (w=="answer")=pc then hasS c.at_ x else if (w=="hang")=pc then c.m9 x else if (w=="hold")=pc then c.mQ x else if (w=="back")=pc then c.hd==Fa x else(c.hd==Fa x)&&(r.head?.elim lf λd=>d.mQ x)
noncomputable def tS(V:qo)(ns:T0 Int):List pD:=ns.filterMap λi=>V.calls[i.toNat]?
noncomputable def Gu(l:pF)(V:qo)(y z:Str):Option Str:=if hasS l.nm z=lf then Fa "name" else if ((uN V y).isNone&&!(uf l V y))=pc then Fa "full" else uN V y
noncomputable def Nb(l:pF)(V:qo)(w x:Str)(ns:T0 Int):Option Str:=if ns.all (zK V.calls.length)=lf then Fa "call" else if II w x (tS V ns)=lf then Fa "call" else if (w=="answer"||w=="back")=lf then Db else
 if ((uN V x).isNone&&((tS V ns).head?.elim lf (λc=>c.mH x)&&!(uf l V x)))=pc then Fa "full" else uN V x
noncomputable def Qm(V:qo)(b:Bool)(i:Int):Option Str:=if zK V.on.length i=lf then Fa "wish" else if (V.on.getD i.toNat lf==b)=pc then Fa "wish" else Db
noncomputable def wU(l:pF)(V:qo):tR->Option Str
 | .turn=>Db
 | .sw b i=>Qm V b i
 | .call y z=>if hasS l.pn y=lf then Fa "name" else Gu l V y z
 | .num w x ns=>if hasS l.pn x=lf then Fa "name" else Nb l V w x ns
noncomputable def qD(c:pD)(x:Str):Str:=(rN c.ms x).headD Str.empty
noncomputable def C0(V:qo)(w x:Str)(i:Nat):Ev:=(V.calls[i]?).elim .turn λc=>if (w=="answer")=pc then .talks i [c.cr,x]else if (w=="hold")=pc then .held i x else .talks i c.ms
noncomputable def By(V:qo)(w x:Str)(i j:Nat):Ev:=(V.calls[i]?).elim .turn λc=>(V.calls[j]?).elim .turn λd=>.merge i j (if (w=="hand")=pc then[qD c x,qD d x]else[x,qD c x,qD d x])
noncomputable def uW(l:pF)(V:qo):tR->T0 Ev
 | .call y z=>EQ l V y z
 | .num w x [i]=>if (w=="hang")=pc then vm V x i.toNat else[C0 V w x i.toNat]
 | .num w x [i,j]=>[By V w x i.toNat j.toNat]
 | .num _ _ _=>[]
 | .turn=>yk l V
 | .sw b i=>[.sw b i.toNat]
structure rE where
 p:Uf
 wy:Uf
structure tq where
 b:Uf
 ca:Uf
 le:Uf
 nx:Uf
 on:Uf
 lo:Uf
 cs:List rE
noncomputable def CT:Option Str->D
 | none=>.mG
 | some x=>.str x
noncomputable def rj(c:pD)(wy ad md:Uf):T0 (Str×D):=[("state",.str c.st),("caller",.str c.cr),("way",.ref wy),("at",.ref ad),("members",.ref md),("holder",CT c.hd),("since",.int c.si),("word",CT c.wd)]
noncomputable def tX(p:D)(h t:Int)(ca le nx on lo:Uf):T0 (Str×D):=[("plan",p),("hour",.int h),("turn",.int t),("calls",.ref ca),("legs",.ref le),("nexts",.ref nx),("on",.ref on),("log",.ref lo)]
noncomputable def tN(ps:T0 (Str×Int)):T0 (qX×D):=ps.map λp=>((Sum.inr p.1:qX),D.int p.2)
noncomputable def tq.lists(A:tq):QXQ:=A.ca::A.le::A.on::A.lo::A.cs.map (·.wy)
noncomputable def tq.foot(A:tq):QXQ:=A.b::A.nx::(A.lists++A.cs.map (·.p))
def rR(a:Ad)(M:Mp)(L:QXQ)(k:rE)(c:pD):Prop:=CA λad md=>M k.p=Fa (.ins a.e (rj c k.wy ad md))/\oX M k.wy=Fa (c.way.map D.str)/\oX M ad=Fa (c.at_.map D.str)/\oX M md=Fa (c.ms.map D.str)/\ad∉L/\md∉L
structure pM(a:Ad)(M:Mp)(A:tq)(V:qo):Prop where
 at_:M A.b=Fa (.ins a.c (tX (.ref V.p) V.h V.t A.ca A.le A.nx A.on A.lo))
 ca:oX M A.ca=Fa (A.cs.map λk=>D.ref k.p)
 le:oX M A.le=Fa (V.mP.map su.d)
 nx:zp M A.nx=Fa (tN V.ps)
 on:oX M A.on=Fa (V.on.map D.bl)
 lo:oX M A.lo=Fa (V.log.map Ev.d)
 len:A.cs.length=V.calls.length
 cs:∀(i:Nat) k c,A.cs[i]?=Fa k->V.calls[i]?=Fa c->rR a M (A.lists++V.fo) k c
 nl:A.lists.Nodup
 np:(A.b::A.cs.map (·.p)).Nodup
 fo:∀x∈V.fo,∃c,M x=Fa c
def xf{F:QXQ}{M:Mp}{p:Uf}{c:vb}(h:∀x∈F,∃c,M x=Fa c):∀x∈F,∃d,pI M p c x=Fa d:=λx hx=>by
 by_cases z:x=p
 .exact⟨c,by rw[z];exact pR⟩
 .obtain⟨d,e⟩:=h x hx;exact⟨d,so.put x d z e⟩
def rR.sub{k:rE}{c:pD}(h:rR a M L k c)(s:qr M M'):rR a M' L k c:=by obtain⟨ad,md,h1,h2,h3,h4,h5⟩:=h;exact⟨ad,md,s _ _ h1,s.lst h2,s.lst h3,s.lst h4,h5⟩
def pM.sub{A:tq}{V:qo}(h:pM a M A V)(s:qr M M'):pM a M' A V:=⟨s _ _ h.at_,s.lst h.ca,s.lst h.le,s.dk h.nx,s.lst h.on,s.lst h.lo,h.len,λi k c e1 e2=>(h.cs i k c e1 e2).sub s,h.nl,h.np,λx hx=>(h.fo x hx).imp λc e=>s x c e⟩
def rR.nP{k:rE}{c:pD}{x:Uf}{ds:T0 D}(h:rR a M L k c)(kp:so x M M')(hl:oX M x=Fa ds)(hx:x∈L)(hn:k.wy≠x):rR a M' L k c:=by obtain⟨ad,md,h1,h2,h3,h4,h5,h6⟩:=h;exact⟨ad,md,kp _ _ (λz=>by rw[z,pY hl]at h1;cases h1) h1,kp.lst hn h2,kp.lst (λz=>h5 (z ▸ hx)) h3,kp.lst (λz=>h6 (z ▸ hx)) h4,h5,h6⟩
def rR.nV{k:rE}{c:pD}{x C:Uf}{fs:T0 (Str×D)}(h:rR a M L k c)(kp:so x M M')(hi:M x=Fa (.ins C fs))(hn:k.p≠x):rR a M' L k c:=by obtain⟨ad,md,h1,h2,h3,h4,h5⟩:=h;exact⟨ad,md,kp _ _ hn h1,kp.lst (pV h2 hi) h2,kp.lst (pV h3 hi) h3,kp.lst (pV h4 hi) h4,h5⟩
def vd{a p:Uf}{ds:T0 (qX×D)}{es:T0 D}(h:zp M a=Fa ds)(hp:oX M p=Fa es):a≠p:=λz=>by subst z;unfold zp at h;rw[pY hp]at h;cases h
def rR.oO{k:rE}{c:pD}{x:Uf}{ds:T0 (qX×D)}(h:rR a M L k c)(kp:so x M M')(hd:zp M x=Fa ds):rR a M' L k c:=by obtain⟨ad,md,h1,h2,h3,h4,h5⟩:=h;exact⟨ad,md,kp _ _ (λz=>by rw[z,yj hd]at h1;cases h1) h1,kp.lst (dH (vd hd h2)) h2,kp.lst (dH (vd hd h3)) h3,kp.lst (dH (vd hd h4)) h4,h5⟩
def qJ{α:Type}{l:List α}{i:Nat}{x:α}(h:l[i]?=Fa x):x∈l:=e9 h
def pM.ne{A:tq}{V:qo}(h:pM a M A V):A.ca≠A.le/\A.ca≠A.on/\A.ca≠A.lo/\A.le≠A.on/\A.le≠A.lo/\A.on≠A.lo/\∀k∈A.cs,k.wy≠A.ca/\k.wy≠A.le/\k.wy≠A.on/\k.wy≠A.lo:=by
 have n:=h.nl;unfold tq.lists at n;obtain⟨n1,n⟩:=dM.mp n;obtain⟨n2,n⟩:=dM.mp n;obtain⟨n3,n⟩:=dM.mp n;obtain⟨n4,n⟩:=dM.mp n;have w:∀k∈A.cs,k.wy∈A.cs.map (·.wy):=λk hk=>dq.mpr ⟨k,hk,rfl⟩;refine⟨λz=>n1 (z ▸ by simp),λz=>n1 (z ▸ by simp),λz=>n1 (z ▸ by simp),λz=>n2 (z ▸ by simp),λz=>n2 (z ▸ by simp),λz=>n3 (z ▸ by simp),λk hk=>⟨λz=>n1 ?_,λz=>n2 ?_,λz=>n3 ?_,λz=>n4 ?_⟩⟩
 .rw[<-z];exact dw _ (dw _ (dw _ (w k hk)))
 .rw[<-z];exact dw _ (dw _ (w k hk))
 .rw[<-z];exact dw _ (w k hk)
 .rw[<-z];exact w k hk
def pM.og{A:tq}{V:qo}(_:pM a M A V):A.ca∈A.lists/\A.le∈A.lists/\A.lo∈A.lists/\(∀k∈A.cs,k.wy∈A.lists)/\A.on∈A.lists:=by unfold tq.lists;refine⟨by simp,by simp,by simp,?_,by simp⟩;exact λk hk=>by simp;exact .inr (.inr (.inr (.inr ⟨k,hk,rfl⟩)))
def pM.oP{A:tq}{V:qo}(h:pM a M A V):A.ca∈A.lists++V.fo/\A.le∈A.lists++V.fo/\A.lo∈A.lists++V.fo/\(∀k∈A.cs,k.wy∈A.lists++V.fo)/\A.on∈A.lists++V.fo:=by obtain⟨h1,h2,h3,h4,h5⟩:=h.og;exact⟨eV _ h1,eV _ h2,eV _ h3,λk hk=>eV _ (h4 k hk),eV _ h5⟩
def qR(A:tq)(M:Mp)(A':tq)(M':Mp):Prop:=(∀x c,x∉A.foot->M x=Fa c->M' x=Fa c)/\(∀x∈A'.foot,x∈A.foot\/M x=Db)/\(∀(i:Nat) k,A.cs[i]?=Fa k->A'.cs[i]?=Fa k)/\∀x c,M x=Fa c->∃d,M' x=Fa d
def Fb{M:Mp}{p y:Uf}{c d:vb}(h:M y=Fa d):∃e,pI M p c y=Fa e:=by
 by_cases z:y=p
 .exact⟨c,by rw[z];exact pR⟩
 .exact⟨d,so.put y d z h⟩
def qR.refl{A:tq}:qR A M A M:=⟨λ_ _ _ h=>h,λ_ h=>.inl h,λ_ _ h=>h,λ_ c h=>⟨c,h⟩⟩
def qR.trans{A A1 A2:tq}{M M1 M2:Mp}(s:qR A M A1 M1)(u:qR A1 M1 A2 M2):qR A M A2 M2:=by
 refine⟨λx c n h=>u.1 x c (λz=>?_) (s.1 x c n h),λx hx=>?_,λi k h=>u.2.2.1 i k (s.2.2.1 i k h),λx c h=>(s.2.2.2 x c h).elim λd e=>u.2.2.2 x d e⟩
 .rcases s.2.1 x z with y|y
  .exact n y
  .rw[y]at h;cases h
 .rcases u.2.1 x hx with z|z
  .exact s.2.1 x z
  .by_cases y:x∈A.foot
   .exact .inl y
   .refine .inr ?_;cases e:M x with
    | none=>rfl
    | some c=>rw[s.1 x c y e]at z;cases z
def qR.keep{A:tq}{x:Uf}{c:vb}(h:x∈A.foot)(k:so x M (pI M x c)):qR A M A (pI M x c):=⟨λy c n e=>k y c (λz=>n (z ▸ h)) e,λ_ h=>.inl h,λ_ _ h=>h,λ_ _ h=>Fb h⟩
def qR.sub{A:tq}(s:qr M M'):qR A M A M':=⟨λy c _ e=>s y c e,λ_ h=>.inl h,λ_ _ h=>h,λx c h=>⟨c,s x c h⟩⟩
def tq.mL(A:tq):A.b∈A.foot/\A.nx∈A.foot/\A.ca∈A.foot/\A.le∈A.foot/\A.lo∈A.foot/\(∀k∈A.cs,k.p∈A.foot)/\∀k∈A.cs,k.wy∈A.foot:=by unfold tq.foot tq.lists;exact⟨by simp,by simp,by simp,by simp,by simp,λk hk=>by simp;exact .inr (.inr (.inr (.inr (.inr (.inr (.inr ⟨k,hk,rfl⟩)))))),λk hk=>by simp;exact .inr (.inr (.inr (.inr (.inr (.inr (.inl ⟨k,hk,rfl⟩))))))⟩
def tq.nF(A:tq){x:Uf}(h:x∈A.lists):x∈A.foot:=by unfold tq.foot;exact dw _ (dw _ (dI.mpr (.inl h)))
variable {M M1:Mp}{A:tq}{V:qo}
def Eg{α:Type}{l:List α}{i j:Nat}{x y:α}(h:(l.set i x)[j]?=Fa y):(j=i/\y=x/\i<l.length)\/(j≠i/\l[j]?=Fa y):=by
 by_cases z:j=i
 .subst z;by_cases hl:j<l.length
  .rw[fA hl]at h;exact .inl ⟨rfl,(cY h).symm,hl⟩
  .rw[gR (by rw[hU];omega)]at h;cases h
 .rw[fz (dH z)]at h;exact .inr ⟨z,h⟩
def L1{α β:Type}{f:α->β}{l:List α}{i j:Nat}{x y:α}(nd:(l.map f).Nodup)(h1:l[i]?=Fa x)(h2:l[j]?=Fa y)(e:f x=f y):i=j:=by
 have e1:(l.map f)[i]?=Fa (f x):=by rw[df,h1];rfl
 have e2:(l.map f)[j]?=Fa (f y):=by rw[df,h2];rfl
 obtain⟨l1,q1⟩:=cT.mp e1;obtain⟨l2,q2⟩:=cT.mp e2;exact(lB nd).mp (q1.trans (e.trans q2.symm))
def pM.nw(h:pM a M A V):(A.cs.map (·.wy)).Nodup:=(dM.mp (dM.mp (dM.mp (dM.mp h.nl).2).2).2).2
def pM.oW(h:pM a M A V):(A.cs.map (·.p)).Nodup/\∀k∈A.cs,k.p≠A.b:=⟨(dM.mp h.np).2,λk hk z=>(dM.mp h.np).1 (z ▸ dq.mpr ⟨k,hk,rfl⟩)⟩
def pM.oB(h:pM a M A V){es:T0 Ev}:pM a (pI M A.lo (.lst (es.map Ev.d))) A {V with log:=es}/\qR A M A (pI M A.lo (.lst (es.map Ev.d))):=by have kp:so A.lo M (pI M A.lo (.lst (es.map Ev.d))):=.put;obtain⟨n1,n2,n3,n4,n5,n6,nw⟩:=h.ne;exact⟨⟨kp _ _ (dH (pV h.lo h.at_)) h.at_,kp.lst n3 h.ca,kp.lst n5 h.le,kp.dk (vd h.nx h.lo) h.nx,kp.lst n6 h.on,pH,h.len,λi k c e1 e2=>(h.cs i k c e1 e2).nP kp h.lo h.oP.2.2.1 (nw k (qJ e1)).2.2.2,h.nl,h.np,xf h.fo⟩,.keep A.mL.2.2.2.2.1 kp⟩
def pM.oq(h:pM a M A V){es:List su}:pM a (pI M A.le (.lst (es.map su.d))) A {V with mP:=es}/\qR A M A (pI M A.le (.lst (es.map su.d))):=by have kp:so A.le M (pI M A.le (.lst (es.map su.d))):=.put;obtain⟨n1,n2,n3,n4,n5,n6,nw⟩:=h.ne;exact⟨⟨kp _ _ (dH (pV h.le h.at_)) h.at_,kp.lst n1 h.ca,pH,kp.dk (vd h.nx h.le) h.nx,kp.lst (dH n4) h.on,kp.lst (dH n5) h.lo,h.len,λi k c e1 e2=>(h.cs i k c e1 e2).nP kp h.le h.oP.2.1 (nw k (qJ e1)).2.1,h.nl,h.np,xf h.fo⟩,.keep A.mL.2.2.2.1 kp⟩
def pM.oU(h:pM a M A V){bs:T0 Bool}:pM a (pI M A.on (.lst (bs.map D.bl))) A {V with on:=bs}/\qR A M A (pI M A.on (.lst (bs.map D.bl))):=by have kp:so A.on M (pI M A.on (.lst (bs.map D.bl))):=.put;obtain⟨n1,n2,n3,n4,n5,n6,nw⟩:=h.ne;exact⟨⟨kp _ _ (dH (pV h.on h.at_)) h.at_,kp.lst n2 h.ca,kp.lst n4 h.le,kp.dk (vd h.nx h.on) h.nx,pH,kp.lst (dH n6) h.lo,h.len,λi k c e1 e2=>(h.cs i k c e1 e2).nP kp h.on h.oP.2.2.2.2 (nw k (qJ e1)).2.2.1,h.nl,h.np,xf h.fo⟩,.keep (A.nF h.og.2.2.2.2) kp⟩
def pM.oR(h:pM a M A V){ps:T0 (Str×Int)}:pM a (pI M A.nx (.dk (tN ps))) A {V with ps:=ps}/\qR A M A (pI M A.nx (.dk (tN ps))):=by have kp:so A.nx M (pI M A.nx (.dk (tN ps))):=.put;exact⟨⟨kp _ _ (dH (Cu h.nx h.at_)) h.at_,kp.lst (dH (vd h.nx h.ca)) h.ca,kp.lst (dH (vd h.nx h.le)) h.le,BV pR,kp.lst (dH (vd h.nx h.on)) h.on,kp.lst (dH (vd h.nx h.lo)) h.lo,h.len,λi k c e1 e2=>(h.cs i k c e1 e2).oO kp h.nx,h.nl,h.np,xf h.fo⟩,.keep A.mL.2.1 kp⟩
def pM.putT(h:pM a M A V){t:Int}:pM a (pI M A.b (.ins a.c (tX (.ref V.p) V.h t A.ca A.le A.nx A.on A.lo))) A {V with t:=t}/\qR A M A (pI M A.b (.ins a.c (tX (.ref V.p) V.h t A.ca A.le A.nx A.on A.lo))):=by have kp:so A.b M (pI M A.b (.ins a.c (tX (.ref V.p) V.h t A.ca A.le A.nx A.on A.lo))):=.put;exact⟨⟨pR,kp.lst (pV h.ca h.at_) h.ca,kp.lst (pV h.le h.at_) h.le,kp.dk (Cu h.nx h.at_) h.nx,kp.lst (pV h.on h.at_) h.on,kp.lst (pV h.lo h.at_) h.lo,h.len,λi k c e1 e2=>(h.cs i k c e1 e2).nV kp h.at_ (h.oW.2 k (qJ e1)),h.nl,h.np,xf h.fo⟩,.keep A.mL.1 kp⟩
def pM.nY(h:pM a M A V){i:Nat}{k:rE}{c c':pD}{ad md:Uf}(e1:A.cs[i]?=Fa k)(e2:V.calls[i]?=Fa c)(ew:c'.way=c.way)(la:oX M ad=Fa (c'.at_.map D.str))(lm:oX M md=Fa (c'.ms.map D.str))(na:ad∉A.lists++V.fo)(nm:md∉A.lists++V.fo):
  pM a (pI M k.p (.ins a.e (rj c' k.wy ad md))) A {V with calls:=V.calls.set i c'}/\qR A M A (pI M k.p (.ins a.e (rj c' k.wy ad md))):=by
 have kp:so k.p M (pI M k.p (.ins a.e (rj c' k.wy ad md))):=.put;obtain⟨_,_,h1,h2,_⟩:=h.cs i k c e1 e2;refine⟨⟨kp _ _ (dH (h.oW.2 k (qJ e1))) h.at_,kp.lst (pV h.ca h1) h.ca,kp.lst (pV h.le h1) h.le,kp.dk (Cu h.nx h1) h.nx,kp.lst (pV h.on h1) h.on,kp.lst (pV h.lo h1) h.lo,by rw[h.len,hU],λj k' d f1 f2=>?_,h.nl,h.np,xf h.fo⟩,.keep (A.mL.2.2.2.2.2.1 k (qJ e1)) kp⟩;rcases Eg f2 with⟨rfl,rfl,_⟩|⟨hj,f2⟩
 .rw[e1]at f1;cases f1;exact⟨ad,md,pR,by rw[ew];exact kp.lst (pV h2 h1) h2,kp.lst (pV la h1) la,kp.lst (pV lm h1) lm,na,nm⟩
 .exact(h.cs j k' d f1 f2).nV kp h1 λz=>hj (L1 h.oW.1 f1 e1 z)
def pM.oE(h:pM a M A V){i:Nat}{k:rE}{c:pD}{ws:QQQ}(e1:A.cs[i]?=Fa k)(e2:V.calls[i]?=Fa c):
  pM a (pI M k.wy (.lst (ws.map D.str))) A {V with calls:=V.calls.set i {c with way:=ws}}/\qR A M A (pI M k.wy (.lst (ws.map D.str))):=by
 have kp:so k.wy M (pI M k.wy (.lst (ws.map D.str))):=.put;obtain⟨ad,md,h1,h2,h3,h4,h5,h6⟩:=h.cs i k c e1 e2;obtain⟨n1,n2,n3,n4,n5,n6,nw⟩:=h.ne;obtain⟨w1,w2,w3,w4⟩:=nw k (qJ e1);have kL:=h.oP.2.2.2.1 k (qJ e1);refine⟨⟨kp _ _ (dH (pV h2 h.at_)) h.at_,kp.lst (dH w1) h.ca,kp.lst (dH w2) h.le,kp.dk (vd h.nx h2) h.nx,kp.lst (dH w3) h.on,kp.lst (dH w4) h.lo,by rw[h.len,hU],λj k' d f1 f2=>?_,h.nl,h.np,xf h.fo⟩,.keep (A.mL.2.2.2.2.2.2 k (qJ e1)) kp⟩;rcases Eg f2 with⟨rfl,rfl,_⟩|⟨hj,f2⟩
 .rw[e1]at f1;cases f1;exact⟨ad,md,kp _ _ (dH (pV h2 h1)) h1,pH,kp.lst (λz=>h5 (z ▸ kL)) h3,kp.lst (λz=>h6 (z ▸ kL)) h4,h5,h6⟩
 .exact(h.cs j k' d f1 f2).nP kp h2 kL λz=>hj (L1 h.nw f1 e1 z)
noncomputable def tq.add(A:tq)(k:rE):tq:={A with cs:=A.cs++[k]}
def Ab(A:tq)(k:rE):(A.add k).lists=A.lists++[k.wy]:=by unfold tq.add tq.lists;rw[dz];rfl
def pM.oK(h:pM a M A V):(∀x∈A.lists,∃ds,oX M x=Fa ds)/\∀x∈A.foot,∃c,M x=Fa c:=by
 have hc:∀k∈A.cs,(∃ds,oX M k.wy=Fa ds)/\∃c,M k.p=Fa c:=λk hk=>by
  obtain⟨i,hi,e⟩:=gG hk;have e1:A.cs[i]?=Fa k:=by rw[cQ hi,e]
  have X8:i<V.calls.length:=by rw[<-h.len];exact hi
  have e2:V.calls[i]?=Fa V.calls[i]:=cQ X8;obtain⟨ad,md,h1,h2,_⟩:=h.cs i k _ e1 e2;exact⟨⟨_,h2⟩,_,h1⟩
 have hl:∀x∈A.lists,∃ds,oX M x=Fa ds:=λx hx=>by
  unfold tq.lists at hx;simp only[cW,dq]at hx;rcases hx with rfl|rfl|rfl|rfl|⟨k,hk,rfl⟩
  .exact⟨_,h.ca⟩
  .exact⟨_,h.le⟩
  .exact⟨_,h.on⟩
  .exact⟨_,h.lo⟩
  .exact(hc k hk).1
 refine⟨hl,λx hx=>?_⟩;unfold tq.foot at hx;simp only[cW,dI,dq]at hx;rcases hx with rfl|rfl|hx|⟨k,hk,rfl⟩
 .exact⟨_,h.at_⟩
 .exact⟨_,yj h.nx⟩
 .obtain⟨ds,e⟩:=hl x hx;exact⟨_,pY e⟩
 .exact(hc k hk).2
def pM.nU(h:pM a M A V){x:Uf}(hx:M x=Db):x∉A.lists:=λz=>by obtain⟨ds,e⟩:=h.oK.1 x z;have:=pY e;rw[hx]at this;cases this
def pM.m7(h:pM a M A V){x:Uf}(hx:M x=Db):x∉A.lists++V.fo:=λz=>by
 rcases dI.mp z with z|z
 .exact h.nU hx z
 .obtain⟨c,e⟩:=h.fo x z;rw[hx]at e;cases e
def pM.nH(h:pM a M A V){x:Uf}(hx:M x=Db):x∉A.foot:=λz=>by obtain⟨ds,e⟩:=h.oK.2 x z;rw[hx]at e;cases e
def pM.nZ(h:pM a M A V)(s:qr M M1){p wy ad md:Uf}{c:pD}(hp:M p=Db)(hw:M wy=Db)(ha:M ad=Db)(hm:M md=Db)(h1:M1 p=Fa (.ins a.e (rj c wy ad md)))(h2:oX M1 wy=Fa (c.way.map D.str))(h3:oX M1 ad=Fa (c.at_.map D.str))(h4:oX M1 md=Fa (c.ms.map D.str))(n1:ad≠wy)(n2:md≠wy):
  pM a (pI M1 A.ca (.lst ((A.cs.map λk=>D.ref k.p)++[.ref p]))) (A.add ⟨p,wy⟩) {V with calls:=V.calls++[c]}/\qR A M (A.add ⟨p,wy⟩) (pI M1 A.ca (.lst ((A.cs.map λk=>D.ref k.p)++[.ref p]))):=by
 have h':=h.sub s;have kp:so A.ca M1 (pI M1 A.ca (.lst ((A.cs.map λk=>D.ref k.p)++[.ref p]))):=.put;obtain⟨m1,m2,m3,m4,m5,m6,nw⟩:=h.ne;have wL:wy∉A.lists:=h.nU hw;have cL:=h.oP.1;have nl':∀x,x∉A.lists++V.fo->x≠wy->x∉(A.add ⟨p,wy⟩).lists++V.fo:=λx h1 h2=>by
  rw[Ab,dI,dI,cX]
  rintro ((z|z)|z)
  .exact h1 (eV _ z)
  .exact h2 z
  .exact h1 (dY _ z)
 have XI:∀x c,M x=Fa c->x≠wy:=λx c e z=>by rw[z,hw]at e;cases e
 refine⟨⟨kp _ _ (dH (pV h'.ca h'.at_)) h'.at_,?_,kp.lst (dH m1) h'.le,kp.dk (vd h'.nx h'.ca) h'.nx,kp.lst (dH m2) h'.on,kp.lst (dH m3) h'.lo,?_,λi k d e1 e2=>?_,?_,?_,xf h'.fo⟩,λx d n e=>kp x d (λz=>n (z ▸ A.mL.2.2.1)) (s x d e),λx hx=>?_,λi k e=>by show(A.cs++[(⟨p,wy⟩:rE)])[i]?=Fa k;rw[eP (cT.mp e).1];exact e,λx d e=>Fb (s x d e)⟩
 .show oX _ A.ca=Fa ((A.cs++[(⟨p,wy⟩:rE)]).map λk=>D.ref k.p);rw[dz];exact pH
 .show(A.cs++[(⟨p,wy⟩:rE)]).length=(V.calls++[c]).length;rw[cR,cR,h.len];rfl
 .have e1:(A.cs++[(⟨p,wy⟩:rE)])[i]?=Fa k:=e1;have e2:(V.calls++[c])[i]?=Fa d:=e2;by_cases hi:i<A.cs.length
  .rw[eP hi]at e1;rw[eP (by rw[<-h.len];exact hi)]at e2;obtain⟨ad',md',g1,g2,g3,g4,g5,g6⟩:=(h.cs i k d e1 e2);refine⟨ad',md',kp _ _ (λz=>by have:=s _ _ g1;rw[z,pY h'.ca]at this;cases this) (s _ _ g1),kp.lst (nw k (qJ e1)).1 (s.lst g2),kp.lst (λz=>g5 (z ▸ cL)) (s.lst g3),kp.lst (λz=>g6 (z ▸ cL)) (s.lst g4),nl' _ g5 (XI _ _ (pY g3)),nl' _ g6 (XI _ _ (pY g4))⟩
  .have YO:i=A.cs.length:=by have:=(cT.mp e1).1;rw[cR,dG]at this;omega
   subst YO;rw[eN (c9 _)]at e1;rw[h.len,eN (c9 _)]at e2;simp only[gT,iu,ji]at e1 e2;subst e1 e2;have q1:p≠A.ca:=λz=>by rw[z,pY h'.ca]at h1;cases h1
   have q2:wy≠A.ca:=λz=>wL (z ▸ h.og.1);exact⟨ad,md,kp p _ q1 h1,kp.lst (a:=wy) q2 h2,kp.lst (λz=>h.m7 ha (z ▸ cL)) h3,kp.lst (λz=>h.m7 hm (z ▸ cL)) h4,nl' _ (h.m7 ha) n1,nl' _ (h.m7 hm) n2⟩
 .rw[Ab];refine gi.mpr ⟨h.nl,dM.mpr ⟨dv,eC⟩,λx hx y hy=>?_⟩;rw[cX]at hy;subst hy;exact λz=>wL (z ▸ hx)
 .show(A.b::(A.cs++[(⟨p,wy⟩:rE)]).map (·.p)).Nodup;rw[dz,<-List.cons_append];refine gi.mpr ⟨h.np,dM.mpr ⟨dv,eC⟩,λx hx y hy=>?_⟩;rw[dN,iI,cX]at hy;subst hy;refine λz=>h.nH hp (z ▸ ?_);rcases cW.mp hx with y|y
  .rw[y];exact A.mL.1
  .obtain⟨k,hk,rfl⟩:=dq.mp y;exact A.mL.2.2.2.2.2.1 k hk
 .unfold tq.foot at hx;rw[Ab]at hx;have hx:x∈A.b::A.nx::(A.lists++[wy]++(A.cs++[(⟨p,wy⟩:rE)]).map (·.p)):=hx;simp only[cW,dI,dz,dN,iI,dv,eF]at hx;unfold tq.foot;simp only[cW,dI];rcases hx with z|z|(z|z)|(z|z)
  .exact .inl (.inl z)
  .exact .inl (.inr (.inl z))
  .exact .inl (.inr (.inr (.inl z)))
  .exact .inr (by rw[z];exact hw)
  .exact .inl (.inr (.inr (.inr z)))
  .exact .inr (by rw[z];exact hp)
def pM.oF{V:qo}{p:Uf}{es:List su}(h:pM a M A V)(hp:M p=Db):
  pM a (pI (pI M p (.lst (es.map su.d))) A.b (.ins a.c (tX (.ref V.p) V.h V.t A.ca p A.nx A.on A.lo))) {A with le:=p} {V with mP:=es}/\qR A M {A with le:=p} (pI (pI M p (.lst (es.map su.d))) A.b (.ins a.c (tX (.ref V.p) V.h V.t A.ca p A.nx A.on A.lo))):=by
 have t:=qr.new (c:=.lst (es.map su.d)) hp;have lp:=@pH M p (es.map su.d);have h1:=h.sub t;have np:p∉A.lists:=h.nU hp;have nf:p∉A.foot:=h.nH hp;have XI:∀x c,M x=Fa c->x≠p:=λx c e z=>by rw[z,hp]at e;cases e
 generalize pI M p (.lst (es.map su.d))=M1 at t lp h1 ⊢;have kp:so A.b M1 (pI M1 A.b (.ins a.c (tX (.ref V.p) V.h V.t A.ca p A.nx A.on A.lo))):=.put;have sub:∀x,x∉A.lists++V.fo->x≠p->x∉({A with le:=p}:tq).lists++V.fo:=λx h1 h2 z=>by
  rcases dI.mp z with z|z
  rotate_left
  .exact h1 (dY _ z)
  have h1:x∉A.lists:=λy=>h1 (eV _ y);unfold tq.lists at h1 z;simp only[cW,fF]at h1 z;rcases z with z|z|z|z|z
  .exact h1.1 z
  .exact h2 z
  .exact h1.2.2.1 z
  .exact h1.2.2.2.1 z
  .exact h1.2.2.2.2 z
 refine⟨⟨pR,kp.lst (pV h1.ca h1.at_) h1.ca,kp.lst (pV lp h1.at_) lp,kp.dk (Cu h1.nx h1.at_) h1.nx,kp.lst (pV h1.on h1.at_) h1.on,kp.lst (pV h1.lo h1.at_) h1.lo,h.len,λi k c e1 e2=>?_,?_,h.np,xf h1.fo⟩,λx c n e=>kp x c (λz=>n (z ▸ A.mL.1)) (t x c e),λx hx=>?_,λi k e=>e,λx d e=>Fb (t x d e)⟩
 .obtain⟨ad,md,g1,g2,g3,g4,g5,g6⟩:=(h.cs i k c e1 e2);obtain⟨ad',md',f1,f2,f3,f4,f5⟩:=((h.cs i k c e1 e2).sub t).nV kp h1.at_ (h.oW.2 k (qJ e1));have q1:=kp _ _ (λz=>h.oW.2 k (qJ e1) z) (t _ _ g1);exact⟨ad,md,q1,f2,kp.lst (pV (t.lst g3) h1.at_) (t.lst g3),kp.lst (pV (t.lst g4) h1.at_) (t.lst g4),sub _ g5 (XI _ _ (pY g3)),sub _ g6 (XI _ _ (pY g4))⟩
 .have n:=h.nl;unfold tq.lists at n np ⊢;simp only[cW,fF]at np;simp only[dM,cW,fF]at n ⊢;exact⟨⟨λz=>np.1 z.symm,n.1.2⟩,⟨np.2.2.1,np.2.2.2.1,np.2.2.2.2⟩,n.2.2⟩
 .by_cases z:x=p
  .exact .inr (z ▸ hp)
  .refine .inl ?_;unfold tq.foot tq.lists at hx ⊢;simp only[cW,dI]at hx ⊢;rcases hx with y|y|(y|y|y|y|y)|y
   .exact .inl y
   .exact .inr (.inl y)
   .exact .inr (.inr (.inl (.inl y)))
   .exact absurd y z
   .exact .inr (.inr (.inl (.inr (.inr (.inl y)))))
   .exact .inr (.inr (.inl (.inr (.inr (.inr (.inl y))))))
   .exact .inr (.inr (.inl (.inr (.inr (.inr (.inr y))))))
   .exact .inr (.inr (.inr y))
def pM.frame{V:qo}(h:pM a M A V)(st:qR A1 M A2 M')(h1:∀x∈A1.foot,x∉A.foot)(h2:∀x∈A1.foot,x∈V.fo\/M x=Db):pM a M' A V:=by
 have hf:∀x∈A.foot,∀c,M x=Fa c->M' x=Fa c:=λx hx c e=>st.1 x c (λz=>h1 x z hx) e;have hl:∀{x:Uf} {ds:T0 D},x∈A.foot->oX M x=Fa ds->oX M' x=Fa ds:=λhx e=>rY (hf _ hx _ (pY e));have ho:∀{x:Uf} {ds:T0 D},x∉A.lists++V.fo->oX M x=Fa ds->oX M' x=Fa ds:=λ{x ds} hx e=>rY (st.1 x _ (λz=>(h2 x z).elim (λy=>hx (dY _ y)) λy=>by rw[pY e]at y;cases y) (pY e));obtain⟨f1,f2,f3,f4,f5,f6,f7⟩:=A.mL;exact⟨hf _ f1 _ h.at_,hl f3 h.ca,hl f4 h.le,BV (hf _ f2 _ (yj h.nx)),hl (A.nF h.og.2.2.2.2) h.on,hl f5 h.lo,h.len,λi k c e1 e2=>by
  obtain⟨ad,md,g1,g2,g3,g4,g5,g6⟩:=h.cs i k c e1 e2;exact⟨ad,md,hf _ (f6 k (qJ e1)) _ g1,hl (f7 k (qJ e1)) g2,ho g5 g3,ho g6 g4,g5,g6⟩,h.nl,h.np,λx hx=>(h.fo x hx).elim λc e=>st.2.2.2 x c e⟩
def xP(x:D)(l:T0 D):wB (x::l) 0=Fa x:=by
 unfold wB;have:Gn (x::l).length 0=Fa 0:=by unfold Gn;rw[dU];simp
 rw[this];rfl
def xR(f:pD->Str->Bool)(a:Ad):rm:=λds M Q=>CS λL k c x=>ds=[.ref k.p,.str x]/\rR a M L k c/\Q (.bl (f c x)) M
abbrev HU:=xR pD.hasB
abbrev zu:=xR pD.mO
abbrev FH:=xR pD.mW
abbrev yR:=xR pD.mM
abbrev vR:=xR pD.mH
abbrev Fz:=xR pD.mQ
abbrev xq:=xR pD.m9
noncomputable def Qz(x:Str):D->Bool
 | .str y=>!(y==x)
 | _=>lf
def zg(a:Ad):rm:=λds M Q=>KR λL k c x y r=>ds=[.ref k.p,.str x]/\rR a M L k c/\c.ms.length<=100/\rN c.ms x=y::r/\Q (.str y) M
def BH(ss:QQQ)(x:Str):[]++(List.filter (Qz x) (ss.map D.str)).map id=(rN ss x).map D.str:=by rw[dQ,g9,fM];rfl
def Ec{k:Uf}{ks:QQQ}{c:Str}{K:DK}(hk:oX M k=Fa (ks.map D.str))(h:K (.bl (hasS ks c)) M):Rv lf (.str c) (.ref k) M K:=by refine pk hk ⟨rfl,qA ks,?_⟩;show K (.bl (inD (.str c) (ks.map D.str))) M;rw[sJ];exact h
def WE(w x y:Str):inD (.str w) [.str x,.str y]=(w==x||w==y):=by rw[show[D.str x,D.str y]=[x,y].map D.str from rfl,sJ,gh];simp only[fY,List.any_nil,km,gK,eW];exact⟨λh=>h.imp l0 l0,λh=>h.imp l0 l0⟩
def SC:Fq P w K mg base 1 a.bL (HU a):=by
 refine fq G.bL.toDG Gr (λr u=>⟨_,(pq (pT (pK u (pE v0) pC)
 (pz (pG (Jl (qh u U1 (pE v0)) (sj (qh u U1 (pE v0))))))
 pN)
 (pq (pT (pK u (pE v0) pC)
 (pz (pG (qh u U1 (pE v0))))
 pN)
 (pz (pG (sV (qh u (pE v0) (pP (sf pC pC))) (sj (qh u U1 (pE v0)))))))),?_⟩)
 rintro ds M Q ⟨L,k,c,x,rfl,⟨ad,md,h1,h2,h3,h4,_⟩,q⟩
 unfold pD.hasB at q;refine pA h1 (pk rfl ?_);refine qK (c:=c.st=="rings") (λg=>?_) (λg=>?_)
 .rw[cV g]at q;refine pA h1 (pk rfl (qK (c:=x==c.cr) (λg2=>?_) (λg2=>?_)))
  .rw[g2]at q;exact⟨M,.refl,q⟩
  .rw[show(x==c.cr)=lf from dE.mpr g2,fH]at q;exact pA h1 (pk rfl (Ec h3 ⟨M,.refl,q⟩))
 .rw[cS g]at q;refine pA h1 (pk rfl ?_);refine qK (c:=c.st=="waits") (λg2=>?_) (λg2=>?_)
  .rw[cV g2]at q;exact pA h1 (pk rfl ⟨M,.refl,q⟩)
  .rw[cS g2]at q;refine pA h1 (pk rfl ⟨pb rfl,rfl,rfl,?_⟩);show if inD (.str c.st) [.str "talks",.str "held"]=pc then _ else _
   rw[WE];refine qK (λg3=>?_) (λg3=>?_)
   .rw[g3,eD]at q;exact pA h1 (pk rfl (Ec h4 ⟨M,.refl,q⟩))
   .rw[show(c.st=="talks"||c.st=="held")=lf from dE.mpr g3,eL]at q;exact⟨M,.refl,q⟩
def wk:Fq P w K mg base 1 a.X (zu a):=by
 refine fq G.X.toDG yL (λr u=>⟨_,(pz (pG (sV (qh u (pE v0) pC) (sj (qh u U1 (pE v0)))))),?_⟩)
 rintro ds M Q ⟨L,k,c,x,rfl,⟨ad,md,h1,h2,h3,h4,_⟩,q⟩
 unfold pD.mO at q;refine pA h1 (pk rfl (qK (c:=c.st=="talks") (λg=>?_) (λg=>?_)))
 .rw[g,eD]at q;exact pA h1 (pk rfl (Ec h4 ⟨M,.refl,q⟩))
 .rw[show(c.st=="talks")=lf from dE.mpr g,eL]at q;exact⟨M,.refl,q⟩
def Nm:Fq P w K mg base 2 a.bK (FH a):=by
 refine fq G.bK.toDG Dj (λr u=>⟨_,(pq (pT (pK u (pE v0) pC)
 (pz (pG (sV (qh u U1 (pE v0)) (sj (qh u U1 (pE v0))))))
 pN)
 (pz (pG (pZ v0 G.e.toCls G.X (wk G) r (qm U1))))),?_⟩)
 rintro ds M Q ⟨L,k,c,x,rfl,hc,q⟩
 obtain⟨ad,md,h1,h2,h3,h4,_⟩:=id hc;unfold pD.mW at q;refine pA h1 (pk rfl ?_);refine qK (c:=c.st=="held") (λg=>?_) (λg=>?_)
 .rw[cV g]at q;refine pA h1 (pk rfl (pk h4 ⟨rfl,qA c.ms,?_⟩));show if inD (.str x) (c.ms.map D.str)=pc then _ else _
  rw[sJ];refine qK (c:=hasS c.ms x) (λg2=>?_) (λg2=>?_)
  .rw[g2,eD]at q;refine pA h1 (pk rfl ?_);cases e:c.hd with
   | none=>rw[e]at q;exact⟨M,.refl,q⟩
   | some y=>
    rw[e]at q;refine⟨M,.refl,?_⟩;rw[show(!(Fa y==Fa x))=!(x==y)from by
     show(!(y==x))=_;rw[l8]]at q
    exact q
  .rw[show hasS c.ms x=lf from dE.mpr g2,eL]at q;exact⟨M,.refl,q⟩
 .rw[cS g]at q;exact pA h1 ⟨rfl,_,⟨rfl,rfl⟩,L,k,c,x,rfl,hc,M,.refl,q⟩
def CO:Fq P w K mg base 1 a.Y (yR a):=by
 refine fq G.Y.toDG yy (λr u=>⟨_,(pz (pG (sV (qh u (pE v0) (pP (sf pC pC))) (sj (qh u U1 (pE v0)))))),?_⟩)
 rintro ds M Q ⟨L,k,c,x,rfl,⟨ad,md,h1,h2,h3,h4,_⟩,q⟩
 unfold pD.mM at q;refine pA h1 (pk rfl ⟨pb rfl,rfl,rfl,?_⟩);show if inD (.str c.st) [.str "rings",.str "waits"]=pc then _ else _
 rw[WE];refine qK (λg3=>?_) (λg3=>?_)
 .rw[g3,eD]at q;exact pA h1 (pk rfl ⟨M,.refl,q⟩)
 .rw[show(c.st=="rings"||c.st=="waits")=lf from dE.mpr g3,eL]at q;exact⟨M,.refl,q⟩
def Gb:Fq P w K mg base 1 a.aH (vR a):=by
 refine fq G.aH.toDG yX (λr u=>⟨_,(pz (pG (sV (qh u (pE v0) pC) (sj (qh u U1 (pE v0)))))),?_⟩)
 rintro ds M Q ⟨L,k,c,x,rfl,⟨ad,md,h1,h2,h3,h4,_⟩,q⟩
 unfold pD.mH at q;refine pA h1 (pk rfl (qK (c:=c.st=="waits") (λg=>?_) (λg=>?_)))
 .rw[g,eD]at q;exact pA h1 (pk rfl (Ec h3 ⟨M,.refl,q⟩))
 .rw[show(c.st=="waits")=lf from dE.mpr g,eL]at q;exact⟨M,.refl,q⟩
def Le:Fq P w K mg base 2 a.bJ (xq a):=by
 refine fq G.bJ.toDG wZ (λr u=>⟨_,(pz (pG (Jl (pZ v0 G.e.toCls G.Y (CO G) r (qm U1)) (Jl (qh u U1 (pE v0)) (sj (qh u U1 (pE v0))))))),?_⟩)
 rintro ds M Q ⟨L,k,c,x,rfl,hc,q⟩
 obtain⟨ad,md,h1,h2,h3,h4,_⟩:=id hc;unfold pD.m9 at q;refine pA h1 ⟨rfl,_,⟨rfl,rfl⟩,L,k,c,x,rfl,hc,qK (c:=c.mM x) (λg=>?_) (λg=>?_)⟩
 .rw[g]at q;exact⟨M,.refl,q⟩
 .rw[show c.mM x=lf from dE.mpr g,fH]at q;refine pA h1 (pk rfl (pk h3 ⟨rfl,qA c.at_,?_⟩));show if inD (.str x) (c.at_.map D.str)=pc then _ else _
  rw[sJ];refine qK (c:=hasS c.at_ x) (λg2=>?_) (λg2=>?_)
  .rw[g2]at q;exact⟨M,.refl,q⟩
  .rw[show hasS c.at_ x=lf from dE.mpr g2,fH]at q;exact pA h1 (pk rfl (Ec h4 ⟨M,.refl,q⟩))
def FX:Fq P w K mg base 2 a.aL (Fz a):=by
 refine fq G.aL.toDG Dn (λr u=>⟨_,(pz (pG (sV (pZ v0 G.e.toCls G.X (wk G) r (qm U1)) (sj (qh u (pU qy rfl G.g qv (qm (pE v0))) pB))))),?_⟩)
 rintro ds M Q ⟨L,k,c,x,rfl,hc,q⟩
 obtain⟨ad,md,h1,h2,h3,h4,_⟩:=id hc;unfold pD.mQ at q;refine pA h1 ⟨rfl,_,⟨rfl,rfl⟩,L,k,c,x,rfl,hc,qK (c:=c.mO x) (λg=>?_) (λg=>?_)⟩
 .rw[g,eD]at q;refine pA h1 (pk rfl (pk h4 ⟨M,.refl,?_⟩));rw[cO];have:(((c.ms.length:Nat):Int)==2)=(c.ms.length==2):=by rw[gh,eW,eW];omega
  show Q (.bl (((c.ms.length:Nat):Int)==2)) M;rw[this];exact q
 .rw[show c.mO x=lf from dE.mpr g,eL]at q;exact⟨M,.refl,q⟩
def Gi:Fq P w K mg base 1 a.aI (zg a):=by
 refine fq G.aI.toDG za (λr u=>⟨_,(pz (pG (pL (qG rfl (xn (ix:=[Db,Fa 1]) (N':=["member","phone"])) (qH (pE v0)) (qx 0) (ve (pK u v0 U1)) v0) pB))),?_⟩)
 rintro ds M Q ⟨L,k,c,x,y,r,rfl,hc,hl,e,q⟩
 have hz:=dF;obtain⟨ad,md,h1,h2,h3,h4,_⟩:=id hc;refine pA h1 (pk rfl (pk h4 (sT (f:=id) (t:=Qz x) h4 _ [] _ (by rw[cO];simp only[dB];omega) (λd hd k0 hk=>?_) (λd hd _ k0 hk=>?_) λp hp=>?_)))
 .obtain⟨y,hy,rfl⟩:=dq.mp hd;exact hk
 .obtain⟨y,hy,rfl⟩:=dq.mp hd;exact hk
 rw[BH,e];exact pk pH (pk (xP _ _) ⟨M,.new hp,q⟩)
theorem BW:∀bs:T0 Bool,A9 (.bl pc) (bs.map D.bl)=bs.findIdx? id
 | []=>rfl
 | b::r=>by rw[dN,List.findIdx?_cons];unfold A9;rw[BW r];cases b<;>rfl
theorem ME(x:D):∀ds:T0 D,(A9 x ds).isSome=ds.any λd=>Qw d x
 | []=>rfl
 | d::r=>by
  unfold A9;rw[fY];by_cases h:Qw d x=pc
  .rw[cV h,h];rfl
  .rw[cS h,jh,ME x r,show Qw d x=lf from dE.mpr h,fH]
theorem Bt:∀bs:T0 Bool,(bs.map D.bl).all vk=pc
 | []=>rfl
 | _::r=>by rw[dN,eR,Bt r];rfl
structure Rd(a:Ad)(M:Mp)(A:tq)(V:qo)(l:pF):Prop where
 bd:pM a M A V
 k:V.calls.length<=1000000
 pl:sH a M V.p l
 ok:rh l
 on:V.on.length=l.mB.length
 ms:∀c∈V.calls,(∀x∈c.ms,x∈l.pn)/\c.ms.length<=100
def Rd.sub{V:qo}(h:Rd a M A V l)(s:qr M M'):Rd a M' A V l:=⟨h.bd.sub s,h.k,h.pl.sub s,h.ok,h.on,h.ms⟩
def Np:rm:=λds M Q=>CA λr bs=>ds=[.ref r]/\oX M r=Fa (List.map D.bl bs)/\Q (Ot (bs.findIdx? id)) M
def Kw(f:qo->Str->D)(a:Ad):rm:=λds M Q=>C4 λA V x=>ds=[.ref A.b,.str x]/\pM a M A V/\V.calls.length<=1000000/\Q (f V x) M
noncomputable def Ux(V:qo)(x:Str):D:=.int (vi V x:Nat)
noncomputable def LA(V:qo)(x:Str):D:=Ot (ET V x)
noncomputable def AB(V:qo)(x:Str):D:=Ot (vU V x)
noncomputable def Ur(V:qo)(x:Str):D:=Ot (Jq V x)
noncomputable def Tj(V:qo)(x:Str):D:=.bl (AE V x)
abbrev FE:=Kw Ux
abbrev C7:=Kw LA
abbrev Bd:=Kw AB
abbrev Bb:=Kw Ur
abbrev zX:=Kw Tj
def xm(a:Ad):rm:=λds M Q=>CS λA V l x=>ds=[.ref A.b,.str x]/\Rd a M A V l/\x∈l.pn/\Q (.bl (uf l V x)) M
def Ao(a:Ad):rm:=λds M Q=>Hi λA V l c z=>ds=[.ref A.b,.str c,.str z]/\Rd a M A V l/\z∈l.nm/\∀q M',qr M M'->M q=Db->oX M' q=Fa ((uD l V c z).map D.str)->Q (.ref q) M'
def zV(a:Ad):rm:=λds M Q=>CA λA V=>ds=[.ref A.b]/\pM a M A V/\Q (.int ((V.h+V.t) % 24)) M
def P'(a:Ad):rm:=λds M Q=>Hi λA V l c z=>ds=[.ref A.b,.str c,.str z]/\Rd a M A V l/\z∈l.nm/\Q (.bl (x8 l V c z)) M
def EU{V:qo}(h:pM a M A V){pre post:T0 D}{d:D}(e:pre++d::post=A.cs.map λk=>D.ref k.p):∃k c,A.cs[pre.length]?=Fa k/\V.calls[pre.length]?=Fa c/\d=.ref k.p/\rR a M (A.lists++V.fo) k c/\V.calls.take (pre.length+1)=V.calls.take pre.length++[c]:=by
 have h1:(A.cs.map λk=>D.ref k.p)[pre.length]?=Fa d:=by rw[<-e];simp
 rw[df]at h1;cases z:A.cs[pre.length]? with
 | none=>rw[z]at h1;cases h1
 | some k=>
  rw[z]at h1;have hi:pre.length<V.calls.length:=by rw[<-h.len];exact(cT.mp z).1
  have e2:V.calls[pre.length]?=Fa V.calls[pre.length]:=cQ hi;refine⟨k,_,rfl,e2,(cY h1).symm,h.cs _ _ _ z e2,?_⟩;rw[gj,e2];rfl
def y8{l:pF}{x:Str}(h:x∈l.pn):∃v,l.mU x=Fa v:=by
 obtain⟨p,hp,rfl⟩:=dq.mp h;unfold pF.mU;cases e:l.mD.find? λq=>decide (q.1=p.1)with
 | some v=>exact⟨v,rfl⟩
 | none=>exact absurd (gL.mp e p hp) (by simp)
def qU:hasS ss x=pc↔x∈ss:=by unfold hasS;rw[gu];exact⟨λ⟨y,hy,e⟩=>wE e ▸ hy,λh=>⟨x,h,fC _⟩⟩
def J7(h:xh ss=pc):ss.Nodup:=by
 have h:(tE ss).length=ss.length:=by unfold xh at h;have:=eW.mp h;omega
 suffices key:∀r:QQQ,(tE r.reverse).length=r.reverse.length->r.reverse.Nodup by have:=key ss.reverse;rw[List.reverse_reverse]at this;exact this h
 intro r;induction r with
 | nil=>intro _;exact eC
 | cons k r ih=>
  intro h;rw[List.reverse_cons]at h ⊢;generalize r.reverse=l at ih h ⊢;rw[ym]at h;split at h
  .have:=IQ l;rw[cR,dG]at h;omega
  .rename_i hk;rw[cR,cR,dG]at h;have h1:=ih (by omega);rw[LQ]at hk;refine gi.mpr ⟨h1,by simp,λx hx y hy=>?_⟩;rw[cX.mp hy];exact λz=>hk (z ▸ hx)
def Hu{m:Int}(h:sP cs ks m=pc):cs≠[]/\(cs.length:Int)<=m/\cs.Nodup/\∀x∈cs,x∈ks:=by unfold sP at h;simp only[dO,dX,eA]at h;obtain⟨h1,h2,h3,h4⟩:=h;refine⟨λz=>by rw[z]at h1;exact absurd h1 (by decide),h2,J7 h3,λx hx=>qU.mp (h4 x hx)⟩
def rh.of(ok:rh l){z:Str}(hz:z∈l.nm):(l.mz z≠[]/\(l.mz z).length<=4/\(l.mz z).Nodup/\∀x∈l.mz z,x∈l.pn)/\(z∈l.pn->l.mz z=[z]/\l.mI z="one"):=by
 have hd:=gi.mp ok.nd;have h1:z∈l.pn->l.group z=Db:=λh=>gL.mpr λg hg e=>hd.2.2 z h g.1 (dq.mpr ⟨g,hg,rfl⟩) (by simpa using e:g.1=z).symm;refine⟨?_,λh=>by unfold pF.mz pF.mI;rw[h1 h];exact⟨rfl,rfl⟩⟩;unfold pF.mz;cases e:l.group z with
 | none=>
  have hp:z∈l.pn:=by
   rcases dI.mp hz with h|h
   .exact h
   .obtain⟨g,hg,rfl⟩:=dq.mp h;exact absurd (gL.mp e g hg) (by simp)
  exact⟨ft _ _,by show 1<=4;decide,dM.mpr ⟨dv,eC⟩,λx hx=>by rw[cX.mp hx];exact hp⟩
 | some g=>obtain⟨c1,c2,c3,c4⟩:=Hu (ok.go g (gf e)).mem;exact⟨c1,by show g.2.2.length<=4;omega,c3,c4⟩
def yc{V:qo}{f:pD->Str->Bool}{m x:Str}{Q:DK}{ok:Mp->Prop}(bd:pM a M A V)(hk:V.calls.length<=1000000)(mK:ok M)(hm:∀c wy ad md,(rj c wy ad md).lookup m=Db)(q:∀p,M p=Db->Q (.ref p) (pI M p (.lst ((V.calls.map λc=>f c x).map D.bl)))):
  vj (rS 0) B' (AF m (λC s=>C=a.e/\s=xR f a) (v3 0) (vA (v3 1) xx)) ok Q (A.cs.map λk=>D.ref k.p) [] [Db,Fa (.str x)] M:=by
 have hz:=dF;refine yf (A.cs.map λk=>D.ref k.p) (λpre acc U M'=>M=M'/\acc=((V.calls.take pre.length).map λc=>f c x).map D.bl/\∃y,U=[y,Fa (.str x)]) (λ_ _ _ M' j=>by rw[<-j.1];exact mK) _ [] [] _ _ rfl ?_ ⟨rfl,rfl,Db,rfl⟩ ?_ ?_
 .rw[cO,bd.len];simp only[dB];omega
 .rintro pre d post e acc U M' ⟨rfl,rfl,y,rfl⟩ k hk
  obtain⟨ka,c,e1,e2,rfl,hc,et⟩:=EU bd e;obtain⟨_,_,g1,_⟩:=id hc;refine pA g1 ⟨hm _ _ _ _,_,⟨rfl,rfl⟩,_,ka,c,x,rfl,hc,hk _ _ _ ⟨rfl,?_,_,rfl⟩⟩;rw[cR,dG,et,dz,dz];rfl
 .rintro acc U M' ⟨rfl,rfl,y,rfl⟩ p hp
  rw[cO,bd.len,eY];exact q p hp
def Cm:Fq P w K mg base 1 a.M Np:=by
 refine fq G.M.toDG Aa (λr u=>⟨_,(pq (pT (pK u ww v0)
 (pz (pG (xV v0 (qm ww))))
 pN)
 (pz (pG sG))),?_⟩)
 rintro ds M Q ⟨r,bs,rfl,hr,q⟩
 have ei:inD (.bl pc) (bs.map D.bl)=(bs.findIdx? id).isSome:=by rw[<-BW];exact(ME _ _).symm
 refine pk hr ⟨rfl,Bt bs,?_⟩;show if inD (.bl pc) (bs.map D.bl)=pc then _ else _
 rw[ei];cases e:bs.findIdx? id with
 | none=>rw[e]at q;exact⟨M,.refl,q⟩
 | some j=>rw[e]at q;exact Qf ⟨by show(oX M r).isSome=pc;rw[hr];rfl,pk hr ⟨rfl,Bt bs,pk ((BW bs).trans e) ⟨M,.refl,q⟩⟩⟩
def OE:Fq P w K mg base 2 a.bH (FE a):=by
 refine fq G.bH.toDG Dd (λr u=>⟨_,(pz (pG (pU qy rfl G.g qv (qm (qG rfl (xn (ix:=[Db,Fa 1]) (N':=["call","phone"])) (qH (pE v0)) (qx 0) (ve (uM (pZ v0 G.e.toCls G.bL (SC G) r (qm U1)))) v0))))),?_⟩)
 rintro ds M Q ⟨A,V,x,rfl,bd,XE,q⟩
 have hz:=dF;refine pA bd.at_ (pk rfl (pk bd.ca ?_));refine yl (A.cs.map λk=>D.ref k.p) (λpre acc U M'=>M=M'/\acc.length=((V.calls.take pre.length).filter (·.hasB x)).length/\∃y,U=[y,Fa (.str x)]) (λ_ _ _ M' j=>by rw[<-j.1];exact bd.ca) _ [] [] _ _ rfl ?_ ⟨rfl,rfl,Db,rfl⟩ ?_ ?_
 .rw[cO,bd.len];simp only[dB];omega
 .rintro pre d post e acc U M' ⟨rfl,ha,y,rfl⟩ k k2 hk YI
  obtain⟨ka,c,e1,e2,rfl,hc,et⟩:=EU bd e;rw[cR,dG,et,jc]at hk YI;obtain⟨_,_,g1,_⟩:=id hc;refine pA g1 ⟨rfl,_,⟨rfl,rfl⟩,_,ka,c,x,rfl,hc,?_⟩;refine qK (c:=c.hasB x) (λg=>?_) (λg=>?_)
  .refine hk _ _ _ ⟨rfl,?_,_,rfl⟩;rw[cR,cR,ha,iq (by exact g)];rfl
  .refine YI _ _ ⟨rfl,?_,_,rfl⟩;rw[cR,ha,ir (by exact g)];rfl
 .rintro acc U M' ⟨rfl,ha,y,rfl⟩ p hp
  refine pk pH ⟨M,.new hp,?_⟩;rw[cO,bd.len,eY]at ha;rw[ha];exact q
def Lg:Fq P w K mg base 3 a.bF (C7 a):=by
 refine fq G.bF.toDG BN (λr u=>⟨_,(pz (pG (pJ (Cm G) r G.M (qm (qG rfl (xn (ix:=[Db,Fa 1]) (N':=["call","phone"])) (qH (pE v0)) (qx 0) rH (pZ v0 G.e.toCls G.bK (Nm G) r (qm U1))))))),?_⟩)
 rintro ds M Q ⟨A,V,x,rfl,bd,XE,q⟩
 refine pA bd.at_ (pk rfl (pk bd.ca (yc bd XE bd.ca (λ_ _ _ _=>rfl) λp hp=>⟨p,_,rfl,pH,M,.new hp,?_⟩)));rw[gP];exact q
def Iy:Fq P w K mg base 3 a.bG (Bb a):=by
 refine fq G.bG.toDG zU (λr u=>⟨_,(pz (pG (pJ (Cm G) r G.M (qm (qG rfl (xn (ix:=[Db,Fa 1]) (N':=["call","phone"])) (qH (pE v0)) (qx 0) rH (pZ v0 G.e.toCls G.Y (CO G) r (qm U1))))))),?_⟩)
 rintro ds M Q ⟨A,V,x,rfl,bd,XE,q⟩
 refine pA bd.at_ (pk rfl (pk bd.ca (yc bd XE bd.ca (λ_ _ _ _=>rfl) λp hp=>⟨p,_,rfl,pH,M,.new hp,?_⟩)));rw[gP];exact q
def yF:Fq P w K mg base 3 a.T (Bd a):=by
 refine fq G.T.toDG z9 (λr u=>⟨_,(pz (pG (pJ (Cm G) r G.M (qm (qG rfl (xn (ix:=[Db,Fa 1]) (N':=["call","phone"])) (qH (pE v0)) (qx 0) rH (pZ v0 G.e.toCls G.X (wk G) r (qm U1))))))),?_⟩)
 rintro ds M Q ⟨A,V,x,rfl,bd,XE,q⟩
 refine pA bd.at_ (pk rfl (pk bd.ca (yc bd XE bd.ca (λ_ _ _ _=>rfl) λp hp=>⟨p,_,rfl,pH,M,.new hp,?_⟩)));rw[gP];exact q
def F2:Fq P w K mg base 3 a.bD (zX a):=by
 refine fq G.bD.toDG zN (λr u=>⟨_,(pz (pG (pU (SY rfl) rfl G.cB RH (qm (qG rfl (xn (ix:=[Db,Fa 1]) (N':=["call","phone"])) (qH (pE v0)) (qx 0) rH (pZ v0 G.e.toCls G.aH (Gb G) r (qm U1))))))),?_⟩)
 rintro ds M Q ⟨A,V,x,rfl,bd,XE,q⟩
 refine pA bd.at_ (pk rfl (pk bd.ca (yc bd XE bd.ca (λ_ _ _ _=>rfl) λp hp=>pk pH ?_)));rw[dS];refine pk (yo _ _) ⟨M,.new hp,?_⟩;rw[jD];exact q
def G4:Fq P w K mg base 1 a.bC (zV a):=by
 refine fq G.bC.toDG zJ (λr u=>⟨_,(pz (pG (pW (pW (pE v0) (pE v0)) pB))),?_⟩)
 rintro ds M Q ⟨A,V,rfl,bd,q⟩
 exact pA bd.at_ (pk rfl (pA bd.at_ (pk rfl ⟨by decide,M,.refl,q⟩)))
def Ld{l:pF}{x:Str}{v:uP}(h:l.mU x=Fa v):wQ l x=v.2.1:=by unfold wQ;rw[h];rfl
def yO:Fq P w K mg base 3 a.V (xm a):=by
 refine fq G.V.toDG Ag (λr u=>⟨_,(pz (pG (qh u (pZ v0 G.c.toCls G.bH (OE G) r (qm U1)) (pZ (pE v0) G.h.toCls G.bI (C8 G) r (qm U1))))),?_⟩)
 rintro ds M Q ⟨A,V,l,x,rfl,rd,hx,q⟩
 obtain⟨ph,gr,ws,YJ,pr,gd,rs,i1,_⟩:=rd.pl;obtain⟨v,hv⟩:=y8 hx;refine pA rd.bd.at_ ⟨rfl,_,⟨rfl,rfl⟩,A,V,x,rfl,rd.bd,rd.k,?_⟩;refine pA rd.bd.at_ (pk rfl (pA i1 ⟨rfl,_,⟨rfl,rfl⟩,V.p,x,v,l,rfl,rd.pl,hv,?_⟩));unfold uf at q;rw[Ld hv]at q;exact⟨M,.refl,q⟩
def Ax:Fq P w K mg base 4 a.aJ (Ao a):=by
 refine fq G.aJ.toDG zG (λr u=>⟨_,(pz (pG (qG rfl (xn (ix:=[Db,Fa 1,Fa 0]) (N':=["phone","caller","self"])) (qH (pZ (pE v0) G.h.toCls G.Z (uz G) r (qm U2))) (qx 0) (ve (W3.b3 (yG (pK u v0 U1) (yt (uM (pZ U2 G.c.toCls G.V (yO G) r (qm v0))))))) v0))),?_⟩)
 rintro ds M Q ⟨A,V,l,c,z,rfl,rd,XQ,q⟩
 obtain⟨ph,gr,ws,YJ,pr,gd,rs,i1,_⟩:=rd.pl;obtain⟨⟨_,p4,_,pin⟩,_⟩:=rd.ok.of XQ;refine pA rd.bd.at_ (pk rfl (pA i1 ⟨rfl,_,⟨rfl,rfl⟩,V.p,z,l,rfl,rd.pl,λq1 Yc=>pk pH ?_⟩));have s1:=qr.new (c:=.lst (List.map D.str (l.mz z))) Yc;have c1:=@pH M q1 (List.map D.str (l.mz z));generalize pI M q1 (.lst (List.map D.str (l.mz z)))=M1 at s1 c1 ⊢;have hz:=dF;have Y6:=rd.sub s1;refine sT (f:=id) (t:=λd=>match d with|.str x=>!(x==c)&&uf l V x|_=>lf) c1 _ [] _ (by rw[cO];simp only[dB];omega) (λd hd k hk=>?_) (λd hd _ k hk=>?_) λq2 Zk=>?_
 .obtain⟨x,hx,rfl⟩:=dq.mp hd;have hk:k (!(x==c)&&uf l V x) M1:=hk;cases e:x==c with
  | true=>rw[e]at hk;refine Lm (c:=!(x==c)) (by rw[e];rfl) hk
  | false=>rw[e]at hk;refine AM (c:=!(x==c)) (by rw[e];rfl) (pA Y6.bd.at_ ⟨rfl,_,⟨rfl,rfl⟩,A,V,l,x,rfl,Y6,pin x hx,hk⟩)
 .obtain⟨x,hx,rfl⟩:=dq.mp hd;exact hk
 .have ef:[]++(List.filter (λd=>match d with|.str x=>!(x==c)&&uf l V x|_=>lf) ((l.mz z).map D.str)).map id=(uD l V c z).map D.str:=by rw[dQ,g9,fM];rfl
  rw[ef];have t2:=qr.new (c:=.lst ((uD l V c z).map D.str)) Zk;exact⟨_,.refl,q q2 _ (s1.trans t2) (s1.none Zk) pH⟩
def FF:Fq P w K mg base 5 a.O (P' a):=by
 refine fq G.O.toDG Hj (λr u=>⟨_,(pz (pG (qh u (pU qy rfl G.g qv (qm (pZ v0 G.c.toCls G.aJ (Ax G) r (sf U1 U2)))) pB))),?_⟩)
 rintro ds M Q ⟨A,V,l,c,z,rfl,rd,tg,q⟩
 refine pA rd.bd.at_ ⟨rfl,_,⟨rfl,rfl⟩,A,V,l,c,z,rfl,rd,tg,λq1 M1 s1 Yc e1=>pk e1 ⟨M,s1,?_⟩⟩;have e:((((uD l V c z).map D.str).length:Int)==0)=x8 l V c z:=by unfold x8;rw[cO,gh,eW,List.isEmpty_iff,<-gk];omega
 show Q (.bl ((((uD l V c z).map D.str).length:Int)==0)) M;rw[e];exact q
def wY(a:Ad)(v:Wi):rm:=λds M Q=>KR λp A V l c z=>ds=[.ref p,.ref A.b,.str c,.str z]/\M p=Fa (.ins (v.cls a) v.nE)/\Rd a M A V l/\z∈l.nm/\B4 l.pn l.nm v/\Q (.bl (va l V c z v)) M
def QM(a:Ad)(v:Wi):rm:=λds M Q=>CS λp L k c=>ds=[.ref p,.ref (rE.p k)]/\M p=Fa (.ins (v.cls a) v.nE)/\rR a M L k c/\Q (.bl (Fg c v)) M
def GX:rm:=λds M Q=>CA λx y=>ds=[x,y]/\Q (.bl lf) M
def NK(a:Ad):Uf->rm->Prop:=λC sp=>∃v:Wi,C=v.cls a/\sp=wY a v
noncomputable def Ny(a:Ad):Wi->rm
 | .silent x y n=>QM a (.silent x y n)
 | _=>GX
def GM(a:Ad):Uf->rm->Prop:=λC sp=>∃v:Wi,C=v.cls a/\sp=Ny a v
def Aq(a:Ad):rm:=λds M Q=>KR λp x y f l h=>ds=[.ref p,.int h]/\M p=Fa (.ins a.n (Wi.night x y f l).nE)/\Q (.bl (EZ f l h)) M
def zE(a:Ad):rm:=λds M Q=>KR λp x q l r ms=>ds=[.ref p,.ref q,.ref r]/\M p=Fa (.ins a.o (Wi.breaks x).nE)/\sH a M q l/\oX M r=Fa (List.map D.str ms)/\ms.length<=100/\x∈l.pn/\(∀m∈ms,m∈l.pn)/\Q (.bl (Iu l x ms)) M
def I9{l:pF}{x:Str}{v:uP}(h:l.mU x=Fa v):vX l x=v.2.2:=by unfold vX;rw[h];rfl
def rq{ks:List rE}{i:Nat}{k:rE}(h:ks[i]?=Fa k):wB (ks.map λk=>D.ref k.p) (i:Nat)=Fa (.ref k.p):=uE (by rw[df,h];rfl)
def Mm(ds:T0 D):L3.uY ds (Fa (-1:Int)) Db=ds.drop (ds.length - 1):=by
 unfold L3.uY;have e:HT.tL ds.length 0 (Fa (-1:Int))=ds.length - 1:=by show(if (-1:Int)<0 then((-1:Int)+(ds.length:Int)).toNat else min (-1:Int).toNat ds.length)=ds.length - 1;rw[cV (by decide)];omega
 rw[e];show(ds.drop (ds.length - 1)).take (ds.length - (ds.length - 1))=_;exact iA (by rw[gp];exact c9 _)
theorem DC{α:Type}:∀w:List α,w.drop (w.length - 1)=w.getLast?.toList
 | []=>rfl
 | [_]=>rfl
 | _::z::r=>by rw[List.getLast?_cons_cons,<-DC (z::r)];rfl
def Pq{p q:Uf}{w:QQQ}(h1:oX M p=Fa ((w.map D.str).drop ((w.map D.str).length - 1)))(h2:oX M q=Fa [D.str x]):zc M 9 (.ref p) (.ref q)=Fa (w.getLast?==Fa x):=by
 have e:(w.map D.str).drop ((w.map D.str).length - 1)=(w.getLast?.toList).map D.str:=by rw[cO,<-kr];rw[DC]
 rw[e]at h1;show(oX M p).bind (λi=>(oX M q).bind λj=>if i.length=j.length then sW (zc M 8) i j else Fa lf)=_;rw[h1,h2];cases w.getLast? with
 | none=>rfl
 | some y=>show((Fa (y==x)).bind λp=>(Fa pc).map λq=>p&&q)=Fa (Fa y==Fa x);show Fa ((y==x)&&pc)=_;rw[Bool.and_true];rfl
def Ni(G:Gl K mg a)(x:Str)(ns:QQQ):Fq P w K mg base 6 a.ay (wY a (.bar x ns)):=by
 refine fq G.ay.toDG GR (λr u=>⟨_,(pz (pG (sV (qh u U2 (pE v0)) (sj (qh u U3 (pE v0)))))),?_⟩)
 rintro ds M Q ⟨p,A,V,l,c,z,rfl,hp,_,_,_,q⟩
 refine pA hp ?_;refine qK (c:=c==x) (λg=>pA hp ⟨rfl,qA ns,M,.refl,?_⟩) (λg=>⟨M,.refl,?_⟩)
 .show Q (.bl (inD (.str z) (ns.map D.str))) M;rw[sJ];dsimp only[va]at q;rw[g,eD]at q;exact q
 .dsimp only[va]at q;rw[show(c==x)=lf from dE.mpr g,eL]at q;exact q
def MO(G:Gl K mg a)(x:Str)(ns:QQQ):Fq P w K mg base 6 a.az (wY a (.shut x ns)):=by
 refine fq G.az.toDG FS (λr u=>⟨_,(pz (pG (sV (qh u U3 (pE v0)) (sj (qh u U2 (pE v0)))))),?_⟩)
 rintro ds M Q ⟨p,A,V,l,c,z,rfl,hp,_,_,_,q⟩
 refine pA hp ?_;refine qK (c:=z==x) (λg=>pA hp ⟨rfl,qA ns,M,.refl,?_⟩) (λg=>⟨M,.refl,?_⟩)
 .show Q (.bl (inD (.str c) (ns.map D.str))) M;rw[sJ];dsimp only[va]at q;rw[g,eD]at q;exact q
 .dsimp only[va]at q;rw[show(z==x)=lf from dE.mpr g,eL]at q;exact q
def Lk(G:Gl K mg a)(x y:Str):Fq P w K mg base 6 a.aA (wY a (.always x y)):=by
 refine fq G.aA.toDG BJ (λr u=>⟨_,(pz (pG (qh u U3 (pE v0)))),?_⟩)
 rintro ds M Q ⟨p,A,V,l,c,z,rfl,hp,_,_,_,q⟩
 exact pA hp ⟨M,.refl,q⟩
def Hb:Fq P w K mg base 1 a.bB (Aq a):=by
 refine fq G.bB.toDG zA (λr u=>⟨_,(pq (pT (pK u (pE v0) (pE v0))
 (pz (pG (uA u (pE v0) U1 (pE v0))))
 pN)
 (pz (pG (Jl (qh u U1 (pE v0)) (sj (qh u U1 (pE v0))))))),?_⟩)
 rintro ds M Q ⟨p,x,y,f,l,h,rfl,hp,q⟩
 refine pA hp (pA hp ?_);show if (decide (f<l))=pc then _ else _
 unfold EZ at q;by_cases z:f<l
 .rw[cV z]at q;refine AM (dP z) (pA hp ?_);refine qK (c:=decide (f<=h)) (λg=>?_) (λg=>?_)
  .rw[g,eD]at q;exact pA hp ⟨M,.refl,q⟩
  .rw[show decide (f<=h)=lf from dE.mpr g,eL]at q;exact⟨M,.refl,q⟩
 .rw[cS z]at q;refine Lm (eI z) (pA hp ?_);refine qK (c:=decide (h>=f)) (λg=>?_) (λg=>?_)
  .rw[g,gQ]at q;exact⟨M,.refl,q⟩
  .rw[show decide (h>=f)=lf from dE.mpr g,fH]at q;exact pA hp ⟨M,.refl,q⟩
def MX(G:Gl K mg a)(x y:Str)(f m:Int):Fq P w K mg base 6 a.aB (wY a (.night x y f m)):=by
 refine fq G.aB.toDG De (λr u=>⟨_,(pz (pG (sV (qh u U3 (pE v0)) (sj (pZ v0 G.n.toCls G.bB (Hb G) r (qm (yq U1 G.c.toCls G.bC (G4 G) r))))))),?_⟩)
 rintro ds M Q ⟨p,A,V,l,c,z,rfl,hp,rd,_,_,q⟩
 dsimp only[va]at q;refine pA hp ?_;refine qK (c:=z==x) (λg=>?_) (λg=>?_)
 .rw[g,eD]at q;exact pA hp ⟨rfl,_,⟨rfl,rfl⟩,pA rd.bd.at_ ⟨rfl,_,⟨rfl,rfl⟩,A,V,rfl,rd.bd,p,x,y,f,m,_,rfl,hp,M,.refl,q⟩⟩
 .rw[show(z==x)=lf from dE.mpr g,eL]at q;exact⟨M,.refl,q⟩
def NU(G:Gl K mg a)(x y:Str):Fq P w K mg base 6 a.aC (wY a (.busy x y)):=by
 refine fq G.aC.toDG Em (λr u=>⟨_,(pz (pG (sV (qh u U3 (pE v0)) (sj (pJ (FF G) r G.O (rb U1 U2 U3)))))),?_⟩)
 rintro ds M Q ⟨p,A,V,l,c,z,rfl,hp,rd,hz,_,q⟩
 dsimp only[va]at q;refine pA hp ?_;refine qK (c:=z==x) (λg=>?_) (λg=>?_)
 .rw[g,eD]at q;exact⟨A,V,l,c,z,rfl,rd,hz,M,.refl,q⟩
 .rw[show(z==x)=lf from dE.mpr g,eL]at q;exact⟨M,.refl,q⟩
def Mo(G:Gl K mg a)(x y:Str)(n:Int):Fq P w K mg base 6 a.aD (wY a (.silent x y n)):=by
 refine fq G.aD.toDG Cr (λr u=>⟨_,(pz (pG ww)),?_⟩)
 rintro ds M Q ⟨p,A,V,l,c,z,rfl,hp,rd,hz,_,q⟩
 exact⟨M,.refl,q⟩
def LB(G:Gl K mg a)(x:Str):Fq P w K mg base 6 a.aE (wY a (.wait x)):=by
 refine fq G.aE.toDG E7 (λr u=>⟨_,(pq (pT (W3.b3 (xF (pK u U3 (pE v0)) (xb (pK u U2 (pE v0)))))
 (pz (pG ww))
 pN)
 (pz (pG (sV (pJ (FF G) r G.O (rb U1 U2 U3)) (sj (RX (pZ U1 G.c.toCls G.bD (F2 G) r (qm U3)))))))),?_⟩)
 rintro ds M Q ⟨p,A,V,l,c,z,rfl,hp,rd,hz,_,q⟩
 dsimp only[va]at q;refine pA hp ?_;refine qK (c:=!(z==x)) (λg=>?_) (λg=>?_)
 .rw[g,gQ]at q;exact⟨M,.refl,q⟩
 rw[show(!(z==x))=lf from dE.mpr g,fH]at q;refine pA hp ?_;refine qK (c:=c==x) (λg=>?_) (λg=>?_)
 .rw[g]at q;exact⟨M,.refl,q⟩
 rw[cS g]at q;refine⟨A,V,l,c,z,rfl,rd,hz,?_⟩;refine qK (c:=x8 l V c z) (λg=>?_) (λg=>?_)
 .rw[g,eD]at q;exact pA rd.bd.at_ ⟨rfl,_,⟨rfl,rfl⟩,A,V,z,rfl,rd.bd,rd.k,M,.refl,q⟩
 .rw[show x8 l V c z=lf from dE.mpr g,eL]at q;exact⟨M,.refl,q⟩
def FV:Fq P w K mg base 2 a.bE (zE a):=by
 refine fq G.bE.toDG vt (λr u=>⟨_,(pq (pO 3 vt (pZ U1 G.h.toCls G.aN (zo G) r (qm (pE v0))))
 (pz (pG (pU (E1 rfl) rfl G.bN Fs (qm (qG rfl (xn (ix:=[Db,Fa 1,Fa 3]) (N':=["member","plan","rank"])) (qH U2) (qx 0) rH (qh u (pZ U1 G.h.toCls G.aN (zo G) r (qm v0)) U2))))))),?_⟩)
 rintro ds M Q ⟨p,x,q,l,r,ms,rfl,hp,pl,lr,h100,hx,hm,k⟩
 have hz:=dF;obtain⟨v,hv⟩:=y8 hx;obtain⟨ph,gr,ws,YJ,pr,gd,rs,i1,_⟩:=id pl;refine pA i1 ⟨rfl,_,⟨rfl,rfl⟩,pA hp (pk rfl ⟨q,x,v,l,rfl,pl,hv,?_⟩)⟩;refine pk lr (ra (f:=λd=>match d with|.str m=>.bl (decide (vX l m<vX l x))|_=>.mG) lr _ [] _ (by rw[cO];show 0+ms.length<=Ch;omega) (λd hd k0 hk=>?_) λp1 Yp=>?_)
 .obtain⟨m,hmm,rfl⟩:=dq.mp hd;obtain⟨u,hu⟩:=y8 (hm m hmm);have hk:k0 (.bl (decide (vX l m<vX l x))) M:=hk;rw[I9 hu,I9 hv]at hk;exact pA i1 ⟨rfl,_,⟨rfl,rfl⟩,q,m,u,l,rfl,pl,hu,hk⟩
 .have em:[]++(ms.map D.str).map (λd=>match d with|.str m=>.bl (decide (vX l m<vX l x))|_=>.mG)=ms.map λm=>D.bl (decide (vX l m<vX l x)):=by rw[dQ,dS];rfl
  rw[em];refine pk pH (pk (yo (λm=>decide (vX l m<vX l x)) ms) ⟨M,.new Yp,?_⟩);unfold Iu at k;rw[zF];exact k
def NJ(G:Gl K mg a)(x:Str):Fq P w K mg base 6 a.aF (wY a (.breaks x)):=by
 refine fq G.aF.toDG vB (λr u=>⟨_,(pq (pT (W3.b3 (xF (pK u U2 (pE v0)) (xb (pK u U3 (pE v0)))))
 (pz (pG ww))
 pN)
 (pq (pT (W3.b3 (xF (pK u U3 (yq (pE U1) G.h.toCls G.U (ua G) r)) (xb (xc (uM (pJ (FF G) r G.O (rb U1 U2 U3)))))))
 (pz (pG ww))
 pN)
 (pq (pO 4 vB (pZ U1 G.c.toCls G.T (yF G) r (qm U3)))
 (pq (pT (pK u v4 sG)
 (pz (pG ww))
 pN)
 (pq (pO 5 vB (pE (pL (pE U1) v4)))
 (pz (pG (sV (qh u (pU qy rfl G.g qv (qm v5)) pB) (sj (pZ v0 G.o.toCls G.bE (FV G) r (sf (pE U1) v5))))))))))),?_⟩)
 rintro ds M Q ⟨p,A,V,l,c,z,rfl,hp,rd,XQ,hx,q⟩
 have hx:x∈l.pn:=qU.mp hx;obtain⟨ph,gr,ws,YJ,pr,gd,rs,i1,_⟩:=rd.pl;have p8:=rd.ok.p8;dsimp only[va,Hm]at q;refine pA hp ?_;refine qK (c:=!(c==x)) (λh1=>?_) (λh1=>?_)
 .rw[h1,gQ]at q;exact⟨M,.refl,q⟩
 rw[show(!(c==x))=lf from dE.mpr h1,fH]at q;refine pA hp ?_;refine qK (c:=z==x) (λh2=>?_) (λh2=>?_)
 .rw[h2]at q;exact⟨M,.refl,q⟩
 rw[cS h2]at q;refine pA rd.bd.at_ (pk rfl (pA i1 ⟨rfl,_,⟨rfl,rfl⟩,V.p,l,rfl,rd.pl,by omega,λq1 Yc=>pk pH ⟨rfl,qA _,?_⟩⟩));have t:=qr.new (c:=.lst (l.pn.map D.str)) Yc;have XH:=rd.sub t;generalize pI M q1 (.lst (l.pn.map D.str))=M1 at t XH ⊢;show if (!(inD (.str z) (l.pn.map D.str)))=pc then _ else _
 rw[sJ];refine qK (c:=!(hasS l.pn z)) (λh3=>?_) (λh3=>?_)
 .rw[h3,gQ]at q;exact⟨M,t,q⟩
 rw[show(!(hasS l.pn z))=lf from dE.mpr h3,fH]at q;refine⟨A,V,l,c,z,rfl,XH,XQ,?_⟩;refine qK (c:=!(x8 l V c z)) (λh4=>?_) (λh4=>?_)
 .rw[h4]at q;exact⟨M,t,q⟩
 rw[cS h4]at q;refine pA XH.bd.at_ ⟨rfl,_,⟨rfl,rfl⟩,A,V,z,rfl,XH.bd,XH.k,?_⟩;cases e:vU V z with
 | none=>rw[e]at q;rw[show AB V z=.mG from by unfold AB;rw[e];rfl];exact⟨M,t,q⟩
 | some j=>
  rw[show AB V z=.int (j:Nat)from by unfold AB;rw[e];rfl];have hj:j<V.calls.length:=(iB.mp e).1;have e2:V.calls[j]?=Fa V.calls[j]:=cQ hj;rw[e]at q;generalize V.calls[j]=k at e2;have q:Q (.bl (((V.calls[j]?).elim lf λk=>(k.ms.length==2)&&Iu l x k.ms))) M:=q;rw[e2]at q;have hj:j<A.cs.length:=by rw[rd.bd.len];exact hj
  have ek:A.cs[j]?=Fa A.cs[j]:=cQ hj;obtain⟨ad,md,f1,f2,f3,f4,_⟩:=XH.bd.cs j _ k ek e2;refine pA XH.bd.at_ (pk rfl (pk rfl (pk XH.bd.ca (pk (rq ek) (pA f1 (pk rfl ?_))))));refine pk f4 ?_;have el:((((k.ms.map D.str).length:Nat):Int)==2)=(k.ms.length==2):=by rw[cO,gh,eW,eW];omega
  show if ((((k.ms.map D.str).length:Nat):Int)==2)=pc then _ else _
  rw[el];have q:Q (.bl ((k.ms.length==2)&&Iu l x k.ms)) M:=q;refine qK (c:=k.ms.length==2) (λh5=>?_) (λh5=>?_)
  .rw[h5,eD]at q;have hm:=rd.ms k (qJ e2);refine pA (t _ _ hp) ⟨rfl,_,⟨rfl,rfl⟩,pA XH.bd.at_ (pk rfl ⟨p,x,V.p,l,md,k.ms,rfl,t _ _ hp,XH.pl,f4,hm.2,hx,hm.1,M,t,q⟩)⟩
  .rw[show(k.ms.length==2)=lf from dE.mpr h5,eL]at q;exact⟨M,t,q⟩
def Ml:Fq P w K mg base 1 a.q GX:=by
 refine fq G.q.toDG Cf (λr u=>⟨_,(pz (pG ww)),?_⟩)
 rintro ds M Q ⟨x,y,rfl,q⟩
 exact⟨M,.refl,q⟩
def S'(G:Gl K mg a)(x y:Str)(n:Int):Fq P w K mg base 1 a.aM (QM a (.silent x y n)):=by
 refine fq G.aM.toDG Ak (λr u=>⟨_,(pz (pG (sV (qh u (rP (pE U1) (sO (Fx pB)) sR) (qO (qm (pE v0)))) (sj (qh u (pE v0) (pE U1)))))),?_⟩)
 rintro ds M Q ⟨p,L,k,c,rfl,hp,⟨ad,md,h1,h2,h3,h4,_⟩,q⟩
 refine pA h1 (pk rfl (pk h2 λp1 Yp=>?_));have t1:=qr.new (c:=.lst (L3.uY (c.way.map D.str) (Fa (-1:Int)) Db)) Yp;have l1:oX (pI M p1 (.lst (L3.uY (c.way.map D.str) (Fa (-1:Int)) Db))) p1=Fa ((c.way.map D.str).drop ((c.way.map D.str).length - 1)):=by rw[pH,Mm]
 show Bc (pI M p1 (.lst (L3.uY (c.way.map D.str) (Fa (-1:Int)) Db)) p) _;generalize pI M p1 (.lst (L3.uY (c.way.map D.str) (Fa (-1:Int)) Db))=M1 at t1 l1 ⊢;refine pA (t1 _ _ hp) ⟨pb rfl,λp2 Xn=>?_⟩;have t2:=qr.new (c:=.lst [D.str x]) Xn;have l2:=@pH M1 p2 [D.str x];show Option.elim (zc (pI M1 p2 (.lst [D.str x])) 9 (.ref p1) (.ref p2)) False _;generalize pI M1 p2 (.lst [D.str x])=M2 at t2 l2 ⊢;have s2:=t1.trans t2;refine pk (Pq (t2.lst l1) l2) ?_;dsimp only[Fg]at q;refine qK (c:=c.way.getLast?==Fa x) (λg=>?_) (λg=>?_)
 .rw[g,eD]at q;exact pA (s2 _ _ hp) (pA (s2 _ _ h1) ⟨M,s2,q⟩)
 .rw[show(c.way.getLast?==Fa x)=lf from dE.mpr g,eL]at q;exact⟨M,s2,q⟩
def R4:∀C sp,NK a C sp->x9 P w K mg base 6 "fits" C (NY K sp):=by
 rintro C sp ⟨v,rfl,rfl⟩
 cases v with
 | bar x ns=>exact⟨G.r.toCls,_,_,_,G.ay.mZ,Ni G x ns,G.ay.b⟩
 | shut x ns=>exact⟨G.t.toCls,_,_,_,G.az.mZ,MO G x ns,G.az.b⟩
 | always x y=>exact⟨G.x.toCls,_,_,_,G.aA.mZ,Lk G x y,G.aA.b⟩
 | night x y f m=>exact⟨G.n.toCls,_,_,_,G.aB.mZ,MX G x y f m,G.aB.b⟩
 | busy x y=>exact⟨G.y.toCls,_,_,_,G.aC.mZ,NU G x y,G.aC.b⟩
 | silent x y n=>exact⟨G.u.toCls,_,_,_,G.aD.mZ,Mo G x y n,G.aD.b⟩
 | wait x=>exact⟨G.v.toCls,_,_,_,G.aE.mZ,LB G x,G.aE.b⟩
 | breaks x=>exact⟨G.o.toCls,_,_,_,G.aF.mZ,NJ G x,G.aF.b⟩
def UO:∀C sp,GM a C sp->x9 P w K mg base 1 "is_due" C (NY K sp):=by
 rintro C sp ⟨v,rfl,rfl⟩
 have F:=Ml (P:=P) (w:=w) (base:=base) G;cases v with
 | silent x y n=>exact⟨G.u.toCls,_,_,_,G.aM.mZ,S' G x y n,G.aM.b⟩
 | bar _ _=>exact⟨G.r.toCls,_,_,_,G.ci,F,G.q.b⟩
 | shut _ _=>exact⟨G.t.toCls,_,_,_,G.cj,F,G.q.b⟩
 | always _ _=>exact⟨G.x.toCls,_,_,_,G.ck,F,G.q.b⟩
 | night _ _ _ _=>exact⟨G.n.toCls,_,_,_,G.cl,F,G.q.b⟩
 | busy _ _=>exact⟨G.y.toCls,_,_,_,G.cm,F,G.q.b⟩
 | wait _=>exact⟨G.v.toCls,_,_,_,G.cn,F,G.q.b⟩
 | breaks _=>exact⟨G.o.toCls,_,_,_,G.co,F,G.q.b⟩
def Bo{es pre post:T0 D}{d:D}(e:pre++d::post=ue 0 es):∃x,es[pre.length]?=Fa x/\d=.tup [.int (pre.length:Nat),x]:=by
 have h:(ue 0 es)[pre.length]?=Fa d:=by rw[<-e];simp
 rw[zH]at h;cases q:es[pre.length]? with
 | none=>rw[q]at h;cases h
 | some x=>rw[q]at h;refine⟨x,rfl,?_⟩;have:=(cY h).symm;rw[mj]at this;exact this
def uU(n:Nat):∀es:T0 D,(ue n es).length=es.length:=λes=>by
 have h:∀i:Nat,(ue n es)[i]?=Db↔es[i]?=Db:=λi=>by rw[zH];cases es[i]?<;>simp
 have a:=(h es.length).mpr (gR (c9 _));have b:=(h (ue n es).length).mp (gR (c9 _));rw[List.getElem?_eq_none_iff]at a b;omega
def JE{l:pF}{V:qo}{f:Wi->Bool}{tt:AA}{ok:Mp->Prop}{Q:DK}{M:Mp}{rest:T0 (Option D)}(hl:V.on.length=l.mB.length)(h16:l.mB.length<=16)(mK:ok M) (ht:∀(i:Nat) (w:tI),l.mB[i]?=Fa w->∀(y:Option D) (k:Bool->Mp->Prop),k (f w.2) M->tt (Fa (.int (i:Nat))::y::rest) M k) (q:∀p,M p=Db->Q (.ref p) (pI M p (.lst ((vq l V f).map λn=>D.int (n:Nat))))):
  vj (QG 2 (wm (rS 0) (wm (rS 1) zq))) (OR (b3 (v3 1)) tt) (v3 0) ok Q (ue 0 (V.on.map D.bl)) [] (Db::Db::rest) M:=by
 have hz:=dF;refine yl (ue 0 (V.on.map D.bl)) (λpre acc U M'=>M=M'/\acc=((List.range pre.length).filter λi=>V.on.getD i lf&&(l.mB[i]?).elim lf λw=>f w.2).map (λn=>D.int (n:Nat))/\∃y1 y2,U=y1::y2::rest) (λ_ _ _ M' j=>by rw[<-j.1];exact mK) _ [] [] _ _ rfl ?_ ⟨rfl,rfl,Db,Db,rfl⟩ ?_ ?_
 .rw[uU,cO,hl];simp only[dB];omega
 .rintro pre d post e acc U M' ⟨rfl,rfl,y1,y2,rfl⟩ k k2 hk YI
  obtain⟨x,hx,rfl⟩:=Bo e;rw[cR,dG,iM,jc]at hk YI;rw[df]at hx;cases eo:V.on[pre.length]? with
  | none=>rw[eo]at hx;cases hx
  | some b=>
   rw[eo]at hx;have hx:D.bl b=x:=cY hx;subst hx;have hi:pre.length<l.mB.length:=by rw[<-hl];exact(cT.mp eo).1
   have ew:l.mB[pre.length]?=Fa l.mB[pre.length]:=cQ hi;generalize l.mB[pre.length]=w0 at ew;have eg:V.on.getD pre.length lf=b:=by rw[eO,eo];rfl
   have no:(b&&f w0.2)=lf->k2 (Fa (.int (pre.length:Nat))::Fa (.bl b)::rest) M:=λg=>by refine YI _ _ ⟨rfl,?_,_,_,rfl⟩;rw[ir (by rw[eg,ew];show ¬(b&&f w0.2)=pc;rw[g];exact dh),iN,eJ]
   refine⟨rfl,?_⟩;show if b=pc then _ else _
   cases b with
   | false=>exact Ox (no rfl)
   | true=>
    refine Qf (ht _ _ ew _ _ ?_);cases g:f w0.2 with
    | false=>exact Ox (no (by rw[g];rfl))
    | true=>refine Qf (hk _ _ _ ⟨rfl,?_,_,_,rfl⟩);rw[iq (by rw[eg,ew];show(pc&&f w0.2)=pc;rw[g];rfl),iN,dz];rfl
 .rintro acc U M' ⟨rfl,rfl,y1,y2,rfl⟩ p hp
  rw[uU,cO];exact q p hp
def Bh(h:sS a M rs ws){i:Nat}{w:tI}(e:ws[i]?=Fa w):∃r,wB (rs.map D.ref) (i:Nat)=Fa (.ref r)/\M r=Fa (.ins (w.2.cls a) w.2.nE):=by
 have hi:i<rs.length:=by rw[h.1];exact(cT.mp e).1
 exact⟨rs[i],uE (by rw[df,cQ hi];rfl),h.2 i _ w (cQ hi) e⟩
def Iv(ds:T0 D)(m:Nat):L3.uY ds Db (Fa (m:Int))=ds.take m:=by
 unfold L3.uY;rw[HT.Ca,HT.IX,jZ,kK];by_cases h:m<=ds.length
 .rw[lX h]
 .rw[Nat.min_eq_right (by omega),eY,iA (by omega)]
def Hy(ds:T0 D)(m:Nat)(h:m<=ds.length):L3.uY ds (Fa (m:Int)) Db=ds.drop m:=by unfold L3.uY;rw[HT.Ca,HT.IX,lX h];exact iA (by rw[gp];exact c9 _)
def uG(l:pF)(V:qo):Prop:=∀z∈l.nm,(l.mI z=="turns")=pc->∃v,V.ps.find? (λp=>decide (p.1=z))=Fa v/\0<=v.2/\v.2<=((l.mz z).length:Int)
def LS{V:qo}(h:uG l V){z:Str}(hz:z∈l.nm)(e:(l.mI z=="turns")=pc):vJ (tN V.ps) (.inr z)=Fa (.int (zx V z:Nat))/\zx V z<=(l.mz z).length:=by
 obtain⟨v,e1,e2,e3⟩:=h z hz e;have h1:zx V z=v.2.toNat:=by unfold zx;rw[e1];rfl
 have h2:vJ (tN V.ps) (.inr z)=(V.ps.find? λp=>decide (p.1=z)).map λp=>D.int p.2:=yb (λp:Str×Int=>p.1) (λp=>D.int p.2) z V.ps;rw[h2,e1,h1];exact⟨by show Fa (D.int v.2)=Fa (.int (v.2.toNat:Nat));rw[Int.toNat_of_nonneg e2],by omega⟩
def HB(a:Ad):rm:=λds M Q=>Hi λA V l c z=>ds=[.ref A.b,.str c,.str z]/\Rd a M A V l/\z∈l.nm/\Q (vF (vN l V c z)) M
def Ow(a:Ad):rm:=λds M Q=>Hi λA V l c z=>ds=[.ref A.b,.str c,.str z]/\Rd a M A V l/\z∈l.nm/\uG l V/\Q (names (xX l V c z)) M
def Nx(a:Ad):rm:=λds M Q=>Hi λA V l c z=>ds=[.ref A.b,.str c,.str z]/\Rd a M A V l/\z∈l.nm/\uG l V/\Q (HC l V c z).d M
def J0:rm:=λds M Q=>C4 λx r z=>ds=[.tup (.str x::r),.str z]/\Q (if (x=="wait")=pc then(vI.waits z).d else if (x=="break")=pc then(vI.breaks z).d else vI.barred.d) M
noncomputable def qN(st:sr):T0 D:=st.map λs=>.tup [.str s.1,vF s.2]
def MW(a:Ad):rm:=λds M Q=>Sk λA V l c z r way=>ds=[.ref A.b,.str c,.str z,.ref r]/\Rd a M A V l/\z∈l.nm/\uG l V/\oX M r=Fa (List.map D.str way)/\way.length<=8000000/\∀q M',qr M M'->M q=Db->oX M' q=Fa (qN (se l V c z way).2)->Q (.tup [(se l V c z way).1.d,.ref q]) M'
def zj{V:qo}{f:Wi->Bool}{i:Nat}(h:i∈vq l V f):∃w,l.mB[i]?=Fa w/\f w.2=pc:=by
 have h:=(fh.mp h).2;rw[dO]at h;cases e:l.mB[i]? with
 | none=>rw[e]at h;cases h.2
 | some w=>rw[e]at h;exact⟨w,rfl,h.2⟩
noncomputable def JJ(l:pF)(way:QQQ):Nat:=(l.nm.filter λx=>!(hasS way x)).length
def Bg{l:pF}{z:Str}(hz:z∈l.nm)(h:hasS way z=lf):JJ l (way++[z])<JJ l way:=by
 unfold JJ;have e:(l.nm.filter λx=>!(hasS (way++[z]) x))=(l.nm.filter λx=>!(hasS way x)).filter λx=>!(x==z):=by rw[kQ];refine List.filter_congr λx _=>?_;unfold hasS;rw[lW];show(!(way.any (·==x)||((z==x)||false)))=_;rw[km,Bool.not_or,Bool.and_comm,l8]
 rw[e];refine Nat.lt_of_le_of_ne (fN _ _) λg=>?_;have:=kz.mp (List.Sublist.eq_of_length fW g) z (fh.mpr ⟨hz,by rw[h];rfl⟩);simp at this
def Cd(ok:rh l){w:tI}(hw:w∈l.mB){z y:Str}(h:D4 z w.2=.inr y):y∈l.nm:=by
 have o:=ok.wo w hw;cases e:w.2 with
 | bar _ _=>rw[e]at h;cases h
 | shut _ _=>rw[e]at h;cases h
 | always x u=>rw[e]at h o;cases h;exact qU.mp o.2.1
 | night x u f m=>rw[e]at h o;cases h;exact qU.mp o.2.1
 | busy x u=>rw[e]at h o;cases h;exact qU.mp o.2.1
 | silent x u n=>rw[e]at h o;cases h;exact qU.mp o.2.1
 | wait _=>rw[e]at h;cases h
 | breaks _=>rw[e]at h;cases h
theorem Fu(x:Str):∀ss:QQQ,x∈ss->A9 (.str x) (ss.map D.str)=Fa (ss.findIdx (·==x))
 | [],h=>by cases h
 | y::r,h=>by
  rw[dN,List.findIdx_cons];unfold A9;show(if (y==x)=pc then Fa 0 else(A9 (.str x) (r.map D.str)).map (·+1))=_;cases e:y==x with
  | true=>rfl
  | false=>
   rw[cS dh];have hr:x∈r:=by
    rcases cW.mp h with g|g
    .rw[g,fC]at e;cases e
    .exact g
   rw[Fu x r hr];rfl
def Ip:Fq P w K mg base 7 a.aR (HB a):=by
 refine fq G.aR.toDG BX (λr u=>⟨_,(pq (pO 3 BX (pE (pE v0)))
 (pz (pG (qg rX rfl G.w rZ (qm (qG rfl (xn (ix:=[Db,Db,Fa 3,Fa 0,Fa 1,Fa 2]) (N':=["i","on","wishes","board","caller","target"])) (uH rfl G.aQ (qm (pE v0))) (tY (n:=2) rfl (qk (qx 0) (qk (qx 1) sQ))) (ve (W3.b3 (yG (uM U1) (yt (uM (Eh (R:=NK a) (pL U2 v0) (R4 G) (r.mono (by first|decide|omega)) (rb U3 v4 v5))))))) v0)))))),?_⟩)
 rintro ds M Q ⟨A,V,l,c,z,rfl,rd,hz,q⟩
 obtain⟨ph,gr,ws,YJ,pr,gd,rs,i1,i2,i3,i4,i5,i6,i7,i8⟩:=rd.pl;refine pA rd.bd.at_ (pk rfl (pA i1 (pk rfl ?_)));refine pA rd.bd.at_ (pk rfl (pk rd.bd.on ?_));refine JE (rest:=[Fa (.ref ws),Fa (.ref A.b),Fa (.str c),Fa (.str z)]) rd.on rd.ok.oh rd.bd.on (λi w0 ew y k hk=>?_) λp hp=>pk pH ⟨M,.new hp,q⟩;obtain⟨r,e1,e2⟩:=Bh i8 ew;refine pk i4 (pk e1 (pA e2 ⟨by cases w0.2<;>rfl,_,⟨w0.2,rfl,rfl⟩,r,A,V,l,c,z,rfl,e2,rd,hz,rd.ok.wo w0 (qJ ew),hk⟩))
def PH:Fq P w K mg base 5 a.aS (Ow a):=by
 refine fq G.aS.toDG tO (λr u=>⟨_,(pq (pO 3 tO (pZ v0 G.c.toCls G.aJ (Ax G) r (sf U1 U2)))
 (pq (pT (pK u (pZ (pE v0) G.h.toCls G.aK (xu G) r (qm U2)) pC)
 (pz (pG (qg rX rfl G.w rZ (qm U3))))
 pN)
 (pq (pO 4 tO (pZ (pE v0) G.h.toCls G.Z (uz G) r (qm U2)))
 (pq (pO 5 tO (zD u (pE v0) U2))
 (pq (ur (i:=6) tO.nd rfl (Or.inl rfl) rfl (xn (ix:=[Db,Fa 3]) (N':=["phone","free"])) (qH (pW (rP v4 (sO v5) sR) (rP v4 sR (sO v5)))) (qx 0) (ve (pK u v0 U1)) v0)
 (pz (pG (qg rX rfl G.w rZ (qm (rP v6 sR (sO pB))))))))))),?_⟩)
 rintro ds M Q ⟨A,V,l,c,z,rfl,rd,XQ,nx,q⟩
 have hz:=dF;have bd:=rd.bd;have pl:=rd.pl;obtain⟨ph,gr,ws,YJ,pr,gd,rs,i1,_⟩:=rd.pl;obtain⟨⟨_,tf,_⟩,_⟩:=rd.ok.of XQ;refine pA bd.at_ ⟨rfl,_,⟨rfl,rfl⟩,A,V,l,c,z,rfl,rd,XQ,λq1 M1 s1 Yc e1=>?_⟩;refine pA (s1 _ _ bd.at_) (pk rfl (pA (s1 _ _ i1) ⟨rfl,_,⟨rfl,rfl⟩,V.p,z,l,rfl,pl.sub s1,?_⟩));unfold xX at q;cases e:l.mI z=="turns" with
 | false=>rw[e]at q;exact AM (c:=!(l.mI z=="turns")) (by rw[e];rfl) (pk e1 ⟨M,s1,q⟩)
 | true=>
  obtain⟨hn,nl⟩:=LS nx XQ e;generalize zx V z=n at hn nl q;rw[e,cV rfl]at q;refine Lm (c:=!(l.mI z=="turns")) (by rw[e];rfl) ?_;refine pA (s1 _ _ bd.at_) (pk rfl (pA (s1 _ _ i1) ⟨rfl,_,⟨rfl,rfl⟩,V.p,z,l,rfl,pl.sub s1,λq2 Zk=>?_⟩));have s2:=s1.trans (qr.new (c:=.lst ((l.mz z).map D.str)) Zk);have c2:=@pH M1 q2 ((l.mz z).map D.str);have e2:=(qr.new (c:=.lst ((l.mz z).map D.str)) Zk).lst e1;generalize pI M1 q2 (.lst ((l.mz z).map D.str))=M2 at s2 c2 e2 ⊢;refine pA (s2 _ _ bd.at_) (pk rfl (pk rfl (pk (s2.dk bd.nx) (pk hn ?_))));refine pk c2 λq3 hq3=>?_;rw[Hy _ n (by rw[cO];exact nl),<-kr];have t3:=qr.new (c:=.lst (((l.mz z).drop n).map D.str)) hq3;have c3':=@pH M2 q3 (((l.mz z).drop n).map D.str);generalize pI M2 q3 (.lst (((l.mz z).drop n).map D.str))=M3 at t3 c3' ⊢;refine pk (t3.lst c2) λq4 hq4=>?_;rw[Iv,<-ma];have t4:=qr.new (c:=.lst (((l.mz z).take n).map D.str)) hq4;have c4:=@pH M3 q4 (((l.mz z).take n).map D.str);generalize pI M3 q4 (.lst (((l.mz z).take n).map D.str))=M4 at t4 c4 ⊢;refine pk (t4.lst c3') (pk c4 ?_);refine⟨by rw[cO,cO,gp,fk];omega,λq5 hq5=>pk pH ?_⟩;rw[<-dz];have t5:=qr.new (c:=.lst ((vf (l.mz z) n).map D.str)) hq5;have c5:=@pH M4 q5 ((vf (l.mz z) n).map D.str);show vj _ _ _ _ _ ((vf (l.mz z) n).map D.str) _ _ (pI M4 q5 (.lst ((vf (l.mz z) n).map D.str)));generalize pI M4 q5 (.lst ((vf (l.mz z) n).map D.str))=M5 at t5 c5 ⊢;have s5:=t3.trans (t4.trans t5);have e5:=s5.lst e2;have tl:(vf (l.mz z) n).length<=200:=by unfold vf;rw[cR,gp,fk];omega
  refine sT (f:=id) (t:=λd=>inD d ((uD l V c z).map D.str)) c5 _ [] _ (by rw[cO];simp only[dB];omega) (λd hd k hk=>?_) (λd hd _ k hk=>?_) λq6 hq6=>?_
  .obtain⟨x,hx,rfl⟩:=dq.mp hd;exact pk e5 ⟨rfl,qA _,hk⟩
  .obtain⟨x,hx,rfl⟩:=dq.mp hd;exact hk
  .have ef:[]++(List.filter (λd=>inD d ((uD l V c z).map D.str)) ((vf (l.mz z) n).map D.str)).map id=((vf (l.mz z) n).filter λx=>hasS (uD l V c z) x).map D.str:=by
    rw[dQ,g9,fM];have:((λd=>inD d ((uD l V c z).map D.str))∘D.str)=λx=>hasS (uD l V c z) x:=by funext x;exact sJ _ _
    rw[this]
   rw[ef];refine pk pH λq7 hq7=>pk pH ?_;rw[show L3.uY (((vf (l.mz z) n).filter λx=>hasS (uD l V c z) x).map D.str) Db (Fa (1:Int))=(((vf (l.mz z) n).filter λx=>hasS (uD l V c z) x).take 1).map D.str from(Iv _ 1).trans (ma).symm];exact⟨M,s2.trans (s5.trans ((qr.new hq6).trans (.new hq7))),q⟩
def MY:Fq P w K mg base 6 a.aT (Nx a):=by
 refine fq G.aT.toDG vh (λr u=>⟨_,(pq (pO 3 vh (pJ (PH G) r G.aS (rb v0 U1 U2)))
 (pq (pT (pK u (pU qy rfl G.g qv (qm U3)) pB)
 (pz (pG (pP (sf pC U2))))
 pN)
 (pz (pG (pP (rb pC U2 U3)))))),?_⟩)
 rintro ds M Q ⟨A,V,l,c,z,rfl,rd,hz,nx,q⟩
 refine⟨A,V,l,c,z,rfl,rd,hz,nx,?_⟩;unfold HC at q;cases e:xX l V c z with
 | nil=>rw[e]at q;exact⟨pb rfl,M,.refl,q⟩
 | cons x r=>rw[e]at q;exact⟨pb rfl,M,.refl,q⟩
def JX:Fq P w K mg base 1 a.aU J0:=by
 refine fq G.aU.toDG An (λr u=>⟨_,(pq (pT (pK u (pL v0 pB) pC)
 (pz (pG (pP (sf pC U1))))
 pN)
 (pq (pT (pK u (pL v0 pB) pC)
 (pz (pG (pP (sf pC U1))))
 pN)
 (pz (pG (pP (qm pC)))))),?_⟩)
 rintro ds M Q ⟨x,r,z,rfl,q⟩
 refine pk (xP _ _) (qK (c:=x=="wait") (λg=>?_) (λg=>?_))
 .rw[cV g]at q;exact⟨pb rfl,M,.refl,q⟩
 rw[cS g]at q;refine pk (xP _ _) (qK (c:=x=="break") (λg=>?_) (λg=>?_))
 .rw[cV g]at q;exact⟨pb rfl,M,.refl,q⟩
 rw[cS g]at q;exact⟨pb rfl,M,.refl,q⟩
def Cy:Fq P w K mg base 8 a.L (MW a):=by
 refine fq G.L.toDG wD (λr u=>⟨_,(pq (pO 4 wD (qg uj rfl G.z uk (qm U3)))
 (pq (pO 5 wD (qO sF))
 (pq (K' fj (pK u U2 v4)
 (pq (pQ (rF v4 (qm U2)))
 (pq (pO 6 wD (pJ (Ip G) r G.aR (rb v0 U1 U2)))
 (pq (pQ (rF v5 (qm (pP (sf U2 v6)))))
 (pq (pT (pK u (pU qy rfl G.g qv (qm v6)) pB)
 (pz (pG (pP (sf (pJ (MY G) r G.aT (rb v0 U1 U2)) v5))))
 pN)
 (pq (pO 7 wD (BS (R:=JT a) (pL (pE (pE v0)) (pL v6 pB)) (PZ G) (r.mono (by first|decide|omega))))
 (pq (pT (pK u (pL v7 pB) pC)
 (pz (pG (pP (sf (pJ (JX G) r G.aU (sf v7 U2)) v5))))
 pN)
 (pz (pO 2 wD (pL v7 pB))))))))))
 (pz (pG (pP (sf (pP (sf pC (qg rX rfl G.w rZ (qm (rP v4 (sO (xV v4 (qm U2))) sR))))) v5))))))),?_⟩)
 rintro ds M Q ⟨A,V,l,c,z0,r,Yx,rfl,rd,hz0,nx,hr0,hw0,q⟩
 have hz:=dF;have p8:=rd.ok.p8;have g3:=rd.ok.g3;have nl:l.nm.length<=11:=by unfold pF.nm pF.pn pF.gn;rw[cR,cO,cO];omega
 refine pk hr0 λp1 Yp=>⟨pb rfl,λp2 Xn=>?_⟩;have t1:=qr.new (c:=.lst (Yx.map D.str)) Yp;have t2:=qr.new (c:=.lst []) Xn;have c1:oX (pI (pI M p1 (.lst (Yx.map D.str))) p2 (.lst [])) p1=Fa (Yx.map D.str):=t2.lst pH;have c2:=@pH (pI M p1 (.lst (Yx.map D.str))) p2 [];have n12:p2≠p1:=λy=>by rw[y,pR]at Xn;cases Xn
 have m2:M p2=Db:=t1.none Xn;have s2:=t1.trans t2;generalize pI (pI M p1 (.lst (Yx.map D.str))) p2 (.lst [])=M2 at c1 c2 s2 ⊢;refine⟨λm U M'=>∃z way st,qr M M'/\oX M' p1=Fa (List.map D.str way)/\oX M' p2=Fa (qN st)/\z∈l.nm/\JJ l way<m/\way.length+m<=8000012/\st.length+m<=100/\sI l V c m z way st=se l V c z0 Yx/\∃y6 y7,U=[Fa (.ref A.b),Fa (.str c),Fa (.str z),Fa (.ref r),Fa (.ref p1),Fa (.ref p2),y6,y7],⟨l.nm.length+1,z0,Yx,[],s2,c1,c2,hz0,Nat.lt_succ_of_le (fN _ _),by omega,by show 0+(l.nm.length+1)<=100;omega,rfl,Db,Db,rfl⟩,?_⟩
 rintro m U M' ⟨z,way,st,sM,l1,l2,XQ,Xr,hwl,Zv,er,y6,y7,rfl⟩
 obtain⟨m,rfl⟩:∃k,m=k+1:=⟨m - 1,by omega⟩;have q2:∀Xg,qr M Xg->oX Xg p2=Fa (qN (sI l V c (m+1) z way st).2)->Q (.tup [(sI l V c (m+1) z way st).1.d,.ref p2]) Xg:=λXg s ll=>by rw[er]at ll ⊢;exact q p2 Xg s m2 ll
 clear q;unfold sI at er q2;refine pk l1 ⟨rfl,qA way,?_⟩;show if (!(inD (.str z) (way.map D.str)))=pc then _ else _
 rw[sJ];refine qK (c:=!(hasS way z)) (λh1=>?_) (λh1=>?_)
 rotate_left
 .
  have h1:hasS way z=pc:=by simpa using h1
  rw[cV h1]at q2;refine⟨by show(oX M' p1).isSome=pc;rw[l1];rfl,pk l1 ⟨rfl,qA _,pk (Fu z way (qU.mp h1)) (pk l1 λp3 hp3=>?_)⟩⟩;have hle:way.findIdx (·==z)<=(way.map D.str).length:=by rw[cO];exact List.findIdx_le_length
  rw[Hy _ _ hle,<-kr];refine pk pH ⟨pb rfl,pb rfl,_,.refl,q2 _ (sM.trans (.new hp3)) ((qr.new hp3).lst l2)⟩
 have h1:hasS way z=lf:=by simpa using h1
 rw[h1,cS dh]at er q2;refine⟨by show(oX M' p1).isSome=pc;rw[l1];rfl,pk l1 ⟨by rw[cO];omega,?_⟩⟩;have k3:so p1 M' (pI M' p1 (.lst (way.map D.str++[D.str z]))):=.put;have s3:qr M (pI M' p1 (.lst (way.map D.str++[D.str z]))):=λx d hx=>by rw[um (N0 hx Yp)];exact sM x d hx
 have c3:=k3.lst n12 l2;have l3:oX (pI M' p1 (.lst (way.map D.str++[D.str z]))) p1=Fa ((way++[z]).map D.str):=by rw[pH,dz];rfl
 generalize pI M' p1 (.lst (way.map D.str++[D.str z]))=M3 at s3 c3 l3 ⊢;refine⟨A,V,l,c,z,rfl,rd.sub s3,XQ,?_⟩;generalize hf:vN l V c z=fs at er q2 ⊢;refine⟨by show(oX M3 p2).isSome=pc;rw[c3];rfl,pb rfl,pk c3 ⟨by unfold qN;rw[cO];omega,?_⟩⟩;have es:qN st++[.tup [.str z,vF fs]]=qN (st++[(z,fs)]):=by unfold qN;rw[dz];rfl
 rw[es];have s4:qr M (pI M3 p2 (.lst (qN (st++[(z,fs)])))):=λx d hx=>by rw[um (N0 hx m2)];exact s3 x d hx
 have c4:=@pH M3 p2 (qN (st++[(z,fs)]));have l4:oX (pI M3 p2 (.lst (qN (st++[(z,fs)])))) p1=Fa ((way++[z]).map D.str):=so.lst .put (dH n12) l3;generalize pI M3 p2 (.lst (qN (st++[(z,fs)])))=M4 at s4 c4 l4 ⊢;cases fs with
 | nil=>exact⟨A,V,l,c,z,rfl,rd.sub s4,XQ,nx,pb rfl,M4,.refl,q2 M4 s4 c4⟩
 | cons i fr=>
  obtain⟨w0,ew,_⟩:=zj (l:=l) (V:=V) (f:=va l V c z) (i:=i) (by show i∈vN l V c z;rw[hf];exact dD);dsimp only at er q2;rw[ew]at er q2;dsimp only[Option.elim]at er q2;obtain⟨ph,gr,ws,YJ,pr,gd,rs,i1,i2,i3,i4,i5,i6,i7,i8⟩:=(rd.sub s4).pl;obtain⟨ZU,e1,e2⟩:=Bh i8 ew;have hwo:=rd.ok.wo w0 (qJ ew);have ZV:∀y,D4 z w0.2=.inr y->y∈l.nm:=λy h=>Cd rd.ok (qJ ew) h;refine pA (s4 _ _ rd.bd.at_) (pk rfl (pA i1 (pk rfl (pk (xP _ _) (pk i4 (pk e1 ?_))))));cases hv:w0.2 with
  | bar x ns=>rw[hv]at q2 e2;exact pA e2 ⟨rfl,_,.inl ⟨.inl rfl,rfl⟩,ZU,rfl,⟨"end",[],z,rfl,pb rfl,M4,.refl,q2 M4 s4 c4⟩⟩
  | shut x ns=>rw[hv]at q2 e2;exact pA e2 ⟨rfl,_,.inl ⟨.inr rfl,rfl⟩,ZU,rfl,⟨"end",[],z,rfl,pb rfl,M4,.refl,q2 M4 s4 c4⟩⟩
  | wait x=>rw[hv]at q2 e2;exact pA e2 ⟨rfl,_,.inr (.inr (.inl ⟨rfl,rfl⟩)),ZU,_,_,_,rfl,e2,rfl,⟨"wait",_,z,rfl,pb rfl,M4,.refl,q2 M4 s4 c4⟩⟩
  | breaks x=>rw[hv]at q2 e2;exact pA e2 ⟨rfl,_,.inr (.inr (.inr ⟨rfl,rfl⟩)),ZU,rfl,⟨"break",_,z,rfl,pb rfl,M4,.refl,q2 M4 s4 c4⟩⟩
  | always x y=>rw[hv]at er e2 ZV;exact pA e2 ⟨rfl,_,.inr (.inl ⟨.inl rfl,rfl⟩),ZU,_,_,_,rfl,e2,rfl,⟨m,fB _,y,way++[z],st++[(z,i::fr)],s4,l4,c4,ZV y rfl,by have:=Bg XQ h1;omega,by rw[cR];show way.length+1+m<=_;omega,by rw[cR];show st.length+1+m<=_;omega,er,_,_,rfl⟩⟩
  | night x y f mm=>rw[hv]at er e2 ZV;exact pA e2 ⟨rfl,_,.inr (.inl ⟨.inr (.inl rfl),rfl⟩),ZU,_,_,_,rfl,e2,rfl,⟨m,fB _,y,way++[z],st++[(z,i::fr)],s4,l4,c4,ZV y rfl,by have:=Bg XQ h1;omega,by rw[cR];show way.length+1+m<=_;omega,by rw[cR];show st.length+1+m<=_;omega,er,_,_,rfl⟩⟩
  | busy x y=>rw[hv]at er e2 ZV;exact pA e2 ⟨rfl,_,.inr (.inl ⟨.inr (.inr (.inl rfl)),rfl⟩),ZU,_,_,_,rfl,e2,rfl,⟨m,fB _,y,way++[z],st++[(z,i::fr)],s4,l4,c4,ZV y rfl,by have:=Bg XQ h1;omega,by rw[cR];show way.length+1+m<=_;omega,by rw[cR];show st.length+1+m<=_;omega,er,_,_,rfl⟩⟩
  | silent x y n=>rw[hv]at er e2 ZV;exact pA e2 ⟨rfl,_,.inr (.inl ⟨.inr (.inr (.inr rfl)),rfl⟩),ZU,_,_,_,rfl,e2,rfl,⟨m,fB _,y,way++[z],st++[(z,i::fr)],s4,l4,c4,ZV y rfl,by have:=Bg XQ h1;omega,by rw[cR];show way.length+1+m<=_;omega,by rw[cR];show st.length+1+m<=_;omega,er,_,_,rfl⟩⟩
noncomputable def yI(V:qo)(i:Nat)(c:pD):qo:={V with calls:=V.calls.set i c}
def sv(V:qo)(i:Nat)(c d:pD):yI (yI V i c) i d=yI V i d:=by unfold yI;rw[jA]
structure CI(a:Ad)(M:Mp)(A:tq)(V:qo)(i:Nat)(k:rE)(c:pD):Prop where
 bd:pM a M A V
 e1:A.cs[i]?=Fa k
 e2:V.calls[i]?=Fa c
noncomputable def cF(x:Str)(wy ad md:Uf)(k:Nat):T0 (Str×D):=List.take (α:=Str×D) k [("state",.str "rings"),("caller",.str x),("way",.ref wy),("at",.ref ad),("members",.ref md),("holder",.mG),("since",.int 0)]
variable {M':Mp}{i:Nat}{k:rE}
section
variable {c:pD}
def CI.cell(h:CI a M A V i k c):rR a M (A.lists++V.fo) k c:=h.bd.cs i k c h.e1 h.e2
def CI.sub(h:CI a M A V i k c)(s:qr M M'):CI a M' A V i k c:=⟨h.bd.sub s,h.e1,h.e2⟩
def CI.put(h:CI a M A V i k c)(c':pD){ad md:Uf}(ew:c'.way=c.way)(la:oX M ad=Fa (c'.at_.map D.str))(lm:oX M md=Fa (c'.ms.map D.str))(na:ad∉A.lists++V.fo)(nm:md∉A.lists++V.fo):
  CI a (pI M k.p (.ins a.e (rj c' k.wy ad md))) A (yI V i c') i k c'/\qR A M A (pI M k.p (.ins a.e (rj c' k.wy ad md))):=by
 obtain⟨b,s⟩:=h.bd.nY h.e1 h.e2 ew la lm na nm;refine⟨⟨b,h.e1,?_⟩,s⟩;show(V.calls.set i c')[i]?=Fa c';rw[fA (cT.mp h.e2).1]
end
inductive Q2(i:Nat)(c:pD):Ev->pD->Prop
 | rings (ps:QQQ):Q2 i c (.rings i ps) (c.ring ps)
 | quiet:Q2 i c (.quiet i) c.nG
 | waits (x:Str):Q2 i c (.waits i x) (c.wait x)
 | talks (ms:QQQ):Q2 i c (.talks i ms) (c.nz ms)
 | held (x:Str):Q2 i c (.held i x) (c.hold x)
 | leaves (x:Str):Q2 i c (.leaves i x) (c.drop x)
 | over (w:Str):Q2 i c (.over i w) (c.over w)
def Gc(a:Ad):rm:=λds M Q=>CA λp x=>ds=[.ref p,.str x]/\M p=Fa (.ins a.e [])/\∀M' wy ad md,so p M M'->M wy=Db->M ad=Db->M md=Db->ad≠wy->md≠wy->M' p=Fa (.ins a.e (rj (zO x) wy ad md))->oX M' wy=Fa []->oX M' ad=Fa []->oX M' md=Fa []->Q .mG M'
def OO(a:Ad):rm:=λds M Q=>KR λA V i k c w=>ds=[.ref k.p,.str w]/\CI a M A V i k c/\∀M',qR A M A M'->pM a M' A (yI V i (c.over w))->Q .mG M'
def LI(a:Ad):rm:=λds M Q=>KR λA V i k c x=>ds=[.ref k.p,.str x]/\CI a M A V i k c/\c.at_.length<=100/\c.ms.length<=100/\∀M',qR A M A M'->pM a M' A (yI V i (c.drop x))->Q .mG M'
def KQ(a:Ad):rm:=λds M Q=>Sk λA V i k c e c'=>ds=[.ref k.p,Ev.d e]/\CI a M A V i k c/\c.at_.length<=100/\c.ms.length<=100/\Q2 i c e c'/\∀M',qR A M A M'->pM a M' A (yI V i c')->Q .mG M'
def Pj:Fq P w K mg base 1 a.aG (Gc a):=by
 refine fq G.aG.toDG E5 (λr u=>⟨_,(pq (qd v0 pC)
 (pq (qd v0 U1)
 (pq (qd v0 (qO sF))
 (pq (qd v0 (qO sF))
 (pq (qd v0 (qO sF))
 (pq (qd v0 sG)
 (pq (qd v0 pB)
 (pz (qd v0 sG))))))))),?_⟩)
 rintro ds M Q ⟨p,x,rfl,hb,q⟩
 refine pA hb ⟨(G.j "state" rfl),by show 0<1000;decide,?_⟩;have k1:so p M (pI M p (.ins a.e [("state",.str "rings")])):=.put;have b1:pI M p (.ins a.e [("state",.str "rings")]) p=Fa (.ins a.e [("state",.str "rings")]):=pR;show uL _ _ _ _ (pI M p (.ins a.e [("state",.str "rings")]));generalize pI M p (.ins a.e [("state",.str "rings")])=N1 at k1 b1 ⊢;refine pA b1 ⟨(G.j "caller" rfl),by show 1<1000;decide,?_⟩;have k2:=k1.trans (so.put (p:=p) (c:=.ins a.e [("state",.str "rings"),("caller",.str x)]));have b2:pI N1 p (.ins a.e [("state",.str "rings"),("caller",.str x)]) p=Fa (.ins a.e [("state",.str "rings"),("caller",.str x)]):=pR;show uL _ _ _ _ (pI N1 p (.ins a.e [("state",.str "rings"),("caller",.str x)]));generalize pI N1 p (.ins a.e [("state",.str "rings"),("caller",.str x)])=N2 at k2 b2 ⊢;refine⟨pb rfl,λwy hwy=>?_⟩;obtain⟨n3,e3,k3,c3,b3⟩:=tK (fs':=(cF x wy 0 0 3)) (c:=.lst []) b2 hwy;refine pA e3 ⟨(G.j "way" rfl),by show 2<1000;decide,?_⟩;show uL _ _ _ _ (pI (pI N2 wy (.lst [])) p (.ins a.e (cF x wy 0 0 3)));generalize pI (pI N2 wy (.lst [])) p (.ins a.e (cF x wy 0 0 3))=N3 at k3 c3 b3 ⊢;have z1:M wy=Db:=rL k2 b2 hwy;have kk3:=k2.trans k3;have l3:oX N3 wy=Fa []:=rY c3;refine⟨pb rfl,λad Zy=>?_⟩;obtain⟨n4,e4,k4,c4,b4⟩:=tK (fs':=(cF x wy ad 0 4)) (c:=.lst []) b3 Zy;refine pA e4 ⟨(G.j "at" rfl),by show 3<1000;decide,?_⟩;show uL _ _ _ _ (pI (pI N3 ad (.lst [])) p (.ins a.e (cF x wy ad 0 4)));generalize pI (pI N3 ad (.lst [])) p (.ins a.e (cF x wy ad 0 4))=N4 at k4 c4 b4 ⊢;have z2:M ad=Db:=rL kk3 b3 Zy;have Zi:=kk3.trans k4;have naw:ad≠wy:=λz=>by rw[z,c3]at Zy;cases Zy
 have l4:=k4.lst (pV l3 b3) l3;have m4:oX N4 ad=Fa []:=rY c4;refine⟨pb rfl,λmd hmd=>?_⟩;obtain⟨n5,e5,k5,c5,b5⟩:=tK (fs':=(cF x wy ad md 5)) (c:=.lst []) b4 hmd;refine pA e5 ⟨(G.j "members" rfl),by show 4<1000;decide,?_⟩;show uL _ _ _ _ (pI (pI N4 md (.lst [])) p (.ins a.e (cF x wy ad md 5)));generalize pI (pI N4 md (.lst [])) p (.ins a.e (cF x wy ad md 5))=N5 at k5 c5 b5 ⊢;have z3:M md=Db:=rL Zi b4 hmd;have Zj:=Zi.trans k5;have nmw:md≠wy:=λz=>by rw[z,pY l4]at hmd;cases hmd
 have l5:=k5.lst (pV l4 b4) l4;have m5:=k5.lst (pV m4 b4) m4;have o5:oX N5 md=Fa []:=rY c5;refine pA b5 ⟨(G.j "holder" rfl),by show 5<1000;decide,?_⟩;have k6:so p N5 (pI N5 p (.ins a.e (cF x wy ad md 6))):=.put;have b6:pI N5 p (.ins a.e (cF x wy ad md 6)) p=Fa (.ins a.e (cF x wy ad md 6)):=pR;show uL _ _ _ _ (pI N5 p (.ins a.e (cF x wy ad md 6)));generalize pI N5 p (.ins a.e (cF x wy ad md 6))=N6 at k6 b6 ⊢;refine pA b6 ⟨(G.j "since" rfl),by show 6<1000;decide,?_⟩;have k7:=k6.trans (so.put (p:=p) (c:=.ins a.e (cF x wy ad md 7)));have b7:pI N6 p (.ins a.e (cF x wy ad md 7)) p=Fa (.ins a.e (cF x wy ad md 7)):=pR;rw[show wb "since" (.int 0) (cF x wy ad md 6)=(cF x wy ad md 7)from rfl];generalize pI N6 p (.ins a.e (cF x wy ad md 7))=N7 at k7 b7 ⊢;refine pA b7 ⟨(G.j "word" rfl),by show 7<1000;decide,_,.refl,?_⟩;have k8:=k7.trans (so.put (p:=p) (c:=.ins a.e (rj (zO x) wy ad md)));exact q _ wy ad md (Zj.trans k8) z1 z2 z3 naw nmw pR (k8.lst (pV l5 b5) l5) (k8.lst (pV m5 b5) m5) (k8.lst (pV o5 b5) o5)
def IT:Fq P w K mg base 1 a.ad (OO a):=by
 refine fq G.ad.toDG Gk (λr u=>⟨_,(pq (qd v0 pC)
 (pq (qd v0 U1)
 (pq (qd v0 (qO sF))
 (pq (qd v0 (qO sF))
 (pz (qd v0 sG)))))),?_⟩)
 rintro ds M Q ⟨A,V,i,k,c,w0,rfl,h,q⟩
 obtain⟨ad,md,h1,h2,h3,h4,n1,n2⟩:=h.cell;refine pA h1 ⟨(G.j "state" rfl),by show 8<1000;decide,?_⟩;obtain⟨g1,s1⟩:=h.put {c with st:="over"} rfl h3 h4 n1 n2;show uL _ _ _ _ (pI M k.p (.ins a.e (rj {c with st:="over"} k.wy ad md)));generalize pI M k.p (.ins a.e (rj {c with st:="over"} k.wy ad md))=M1 at g1 s1 ⊢;clear h1 h2 h3 h4 n1 n2;obtain⟨ad,md,h1,h2,h3,h4,n1,n2⟩:=g1.cell;refine pA h1 ⟨(G.j "word" rfl),by show 8<1000;decide,?_⟩;obtain⟨g2,s2⟩:=g1.put {c with st:="over",wd:=some w0} rfl h3 h4 n1 n2;show uL _ _ _ _ (pI M1 k.p (.ins a.e (rj {c with st:="over",wd:=some w0} k.wy ad md)));generalize pI M1 k.p (.ins a.e (rj {c with st:="over",wd:=some w0} k.wy ad md))=M2 at g2 s2 ⊢;clear h1 h2 h3 h4 n1 n2;refine⟨pb rfl,λp hp=>?_⟩;have t3:=qr.new (c:=.lst []) hp;have lp:=@pH M2 p [];have np:=g2.bd.m7 hp;have ZC:=g2.sub t3;have s2':=s2.trans (.sub t3);generalize pI M2 p (.lst [])=M2' at t3 lp ZC s2' ⊢;obtain⟨ad,md,h1,h2,h3,h4,n1,n2⟩:=ZC.cell;refine pA h1 ⟨(G.j "at" rfl),by show 8<1000;decide,?_⟩;obtain⟨g3,s3⟩:=ZC.put {c with st:="over",wd:=some w0,at_:=[]} rfl lp h4 np n2;show uL _ _ _ _ (pI M2' k.p (.ins a.e (rj {c with st:="over",wd:=some w0,at_:=[]} k.wy p md)));generalize pI M2' k.p (.ins a.e (rj {c with st:="over",wd:=some w0,at_:=[]} k.wy p md))=M3 at g3 s3 ⊢;clear h1 h2 h3 h4 n1 n2 lp t3 np g2 ZC;refine⟨pb rfl,λp2 Xn=>?_⟩;have t4:=qr.new (c:=.lst []) Xn;have lp:=@pH M3 p2 [];have np:=g3.bd.m7 Xn;have ZW:=g3.sub t4;have s3':=s3.trans (.sub t4);generalize pI M3 p2 (.lst [])=M3' at t4 lp ZW s3' ⊢;obtain⟨ad,md,h1,h2,h3,h4,n1,n2⟩:=ZW.cell;refine pA h1 ⟨(G.j "members" rfl),by show 8<1000;decide,?_⟩;obtain⟨g4,s4⟩:=ZW.put {c with st:="over",wd:=some w0,at_:=[],ms:=[]} rfl h3 lp n1 np;rw[show wb "members" (.ref p2) (rj {c with st:="over",wd:=some w0,at_:=[]} k.wy ad md)=rj {c with st:="over",wd:=some w0,at_:=[],ms:=[]} k.wy ad p2 from rfl];generalize pI M3' k.p (.ins a.e (rj {c with st:="over",wd:=some w0,at_:=[],ms:=[]} k.wy ad p2))=M4 at g4 s4 ⊢;clear h1 h2 h3 h4 n1 n2 lp t4 np g3 ZW;obtain⟨ad,md,h1,h2,h3,h4,n1,n2⟩:=g4.cell;refine pA h1 ⟨(G.j "holder" rfl),by show 8<1000;decide,_,.refl,?_⟩;obtain⟨g5,s5⟩:=g4.put (c.over w0) rfl h3 h4 n1 n2;refine q _ ((s1.trans s2').trans (s3'.trans (s4.trans s5))) ?_;have:=g5.bd;rw[sv,sv,sv,sv]at this;exact this
def Lf:Fq P w K mg base 1 a.aV (LI a):=by
 refine fq G.aV.toDG Dl (λr u=>⟨_,(pq (qd v0 (qG rfl (xn (ix:=[Db,Fa 1]) (N':=["other","phone"])) (qH (pE v0)) (qx 0) (ve (pK u v0 U1)) v0))
 (pz (qd v0 (qG rfl (xn (ix:=[Db,Fa 1]) (N':=["other","phone"])) (qH (pE v0)) (qx 0) (ve (pK u v0 U1)) v0)))),?_⟩)
 rintro ds M Q ⟨A,V,i,k,c,x,rfl,h,la,lm,q⟩
 have hz:=dF;obtain⟨ad,md,h1,h2,h3,h4,n1,n2⟩:=h.cell;refine pA h1 (pk rfl (pk h3 (sT (f:=id) (t:=Qz x) h3 _ [] _ (by rw[cO];simp only[dB];omega) (λd hd k0 hk=>?_) (λd hd _ k0 hk=>?_) λp hp=>?_)))
 .obtain⟨y,hy,rfl⟩:=dq.mp hd;exact hk
 .obtain⟨y,hy,rfl⟩:=dq.mp hd;exact hk
 rw[BH];have t1:=qr.new (c:=.lst ((rN c.at_ x).map D.str)) hp;have lp:=@pH M p ((rN c.at_ x).map D.str);have np:=h.bd.m7 hp;have h':=h.sub t1;have s1:qR A M A (pI M p (.lst ((rN c.at_ x).map D.str))):=.sub t1;generalize pI M p (.lst ((rN c.at_ x).map D.str))=M1 at t1 lp h' s1 ⊢;clear h1 h2 h3 h4 n1 n2;obtain⟨ad,md,h1,h2,h3,h4,n1,n2⟩:=h'.cell;refine pA h1 ⟨(G.j "at" rfl),by show 8<1000;decide,?_⟩;obtain⟨g2,s2⟩:=h'.put {c with at_:=rN c.at_ x} rfl lp h4 np n2;rw[show wb "at" (.ref p) (rj c k.wy ad md)=rj {c with at_:=rN c.at_ x} k.wy p md from rfl];generalize pI M1 k.p (.ins a.e (rj {c with at_:=rN c.at_ x} k.wy p md))=M2 at g2 s2 ⊢;clear h1 h2 h3 h4 n1 n2 lp np;obtain⟨ad,md,h1,h2,h3,h4,n1,n2⟩:=g2.cell;refine pA h1 (pk rfl (pk h4 (sT (f:=id) (t:=Qz x) h4 _ [] _ (by rw[cO];simp only[dB];show 0+c.ms.length<=Ch;omega) (λd hd k0 hk=>?_) (λd hd _ k0 hk=>?_) λp2 Xn=>?_)))
 .obtain⟨y,hy,rfl⟩:=dq.mp hd;exact hk
 .obtain⟨y,hy,rfl⟩:=dq.mp hd;exact hk
 rw[BH];have t3:=qr.new (c:=.lst ((rN c.ms x).map D.str)) Xn;have lp:=@pH M2 p2 ((rN c.ms x).map D.str);have np:=g2.bd.m7 Xn;have ZC:=g2.sub t3;have s3:qR A M2 A (pI M2 p2 (.lst ((rN c.ms x).map D.str))):=.sub t3;generalize pI M2 p2 (.lst ((rN c.ms x).map D.str))=M3 at t3 lp ZC s3 ⊢;clear h1 h2 h3 h4 n1 n2;obtain⟨ad,md,h1,h2,h3,h4,n1,n2⟩:=ZC.cell;refine pA h1 ⟨(G.j "members" rfl),by show 8<1000;decide,_,.refl,?_⟩;obtain⟨g4,s4⟩:=ZC.put (c.drop x) rfl h3 lp n1 np;refine q _ ((s1.trans s2).trans (s3.trans s4)) ?_;have:=g4.bd;rw[sv]at this;exact this
def JW:Fq P w K mg base 2 a.aW (KQ a):=by
 refine fq G.aW.toDG xC (λr u=>⟨_,(pq (pO 2 xC (pL U1 pB))
 (pz (pT (pK u U2 pC)
 (pq (qd v0 pC)
 (pq (qd v0 (qg uj rfl G.z uk (qm (pL U1 pB))))
 (pz (qd v0 pB))))
 (pz (pT (pK u U2 pC)
 (pz (qd v0 (qO sF)))
 (pz (pT (pK u U2 pC)
 (pq (qd v0 pC)
 (pz (qd v0 (qO (qm (pL U1 pB))))))
 (pz (pT (pK u U2 pC)
 (pq (qd v0 pC)
 (pq (qd v0 (qg uj rfl G.z uk (qm (pL U1 pB))))
 (pq (qd v0 (qO sF))
 (pz (qd v0 sG)))))
 (pz (pT (pK u U2 pC)
 (pq (qd v0 pC)
 (pz (qd v0 (pL U1 pB))))
 (pz (pT (pK u U2 pC)
 (pz (pQ (pJ (Lf G) r G.aV (sf v0 (pL U1 pB)))))
 (pz (pT (pK u U2 pC)
 (pz (pQ (pJ (IT G) r G.ad (sf v0 (pL U1 pB)))))
 pN))))))))))))))),?_⟩)
 rintro ds M Q ⟨A,V,i,k,c,e,c',rfl,h,la,lm,hc,q⟩
 cases hc with
 | over w0=>exact⟨A,V,i,k,c,w0,rfl,h,λM' s b=>⟨M',.refl,q M' s b⟩⟩
 | leaves x=>exact⟨A,V,i,k,c,x,rfl,h,la,lm,λM' s b=>⟨M',.refl,q M' s b⟩⟩
 | quiet=>refine⟨pb rfl,λp hp=>?_⟩;have t3:=qr.new (c:=.lst []) hp;have lp:=@pH M p [];have np:=h.bd.m7 hp;have g1:=h.sub t3;generalize pI M p (.lst [])=M1 at t3 lp g1 ⊢;obtain⟨ad,md,h1,h2,h3,h4,n1,n2⟩:=g1.cell;refine pA h1 ⟨(G.j "at" rfl),by show 8<1000;decide,_,.refl,?_⟩;obtain⟨g5,s5⟩:=g1.put c.nG rfl lp h4 np n2;exact q _ ((qR.sub t3).trans s5) g5.bd
 | waits x=>obtain⟨ad,md,h1,h2,h3,h4,n1,n2⟩:=h.cell;refine pA h1 ⟨(G.j "state" rfl),by show 8<1000;decide,?_⟩;obtain⟨g1,s1⟩:=h.put {c with st:="waits"} rfl h3 h4 n1 n2;show uL _ _ _ _ (pI M k.p (.ins a.e (rj {c with st:="waits"} k.wy ad md)));generalize pI M k.p (.ins a.e (rj {c with st:="waits"} k.wy ad md))=M1 at g1 s1 ⊢;clear h1 h2 h3 h4 n1 n2;refine⟨pb rfl,λp hp=>?_⟩;have t3:=qr.new (c:=.lst [D.str x]) hp;have lp:=@pH M1 p [D.str x];have np:=g1.bd.m7 hp;have Y7:=g1.sub t3;generalize pI M1 p (.lst [D.str x])=M1' at t3 lp Y7 ⊢;obtain⟨ad,md,h1,h2,h3,h4,n1,n2⟩:=Y7.cell;refine pA h1 ⟨(G.j "at" rfl),by show 8<1000;decide,_,.refl,?_⟩;obtain⟨g5,s5⟩:=Y7.put (c.wait x) rfl lp h4 np n2;refine q _ (s1.trans ((qR.sub t3).trans s5)) ?_;have:=g5.bd;rw[sv]at this;exact this
 | held x=>obtain⟨ad,md,h1,h2,h3,h4,n1,n2⟩:=h.cell;refine pA h1 ⟨(G.j "state" rfl),by show 8<1000;decide,?_⟩;obtain⟨g1,s1⟩:=h.put {c with st:="held"} rfl h3 h4 n1 n2;show uL _ _ _ _ (pI M k.p (.ins a.e (rj {c with st:="held"} k.wy ad md)));generalize pI M k.p (.ins a.e (rj {c with st:="held"} k.wy ad md))=M1 at g1 s1 ⊢;clear h1 h2 h3 h4 n1 n2;obtain⟨ad,md,h1,h2,h3,h4,n1,n2⟩:=g1.cell;refine pA h1 ⟨(G.j "holder" rfl),by show 8<1000;decide,_,.refl,?_⟩;obtain⟨g5,s5⟩:=g1.put (c.hold x) rfl h3 h4 n1 n2;refine q _ (s1.trans s5) ?_;have:=g5.bd;rw[sv]at this;exact this
 | rings ps=>obtain⟨ad,md,h1,h2,h3,h4,n1,n2⟩:=h.cell;refine pA h1 ⟨(G.j "state" rfl),by show 8<1000;decide,?_⟩;obtain⟨g1,s1⟩:=h.put {c with st:="rings"} rfl h3 h4 n1 n2;show uL _ _ _ _ (pI M k.p (.ins a.e (rj {c with st:="rings"} k.wy ad md)));generalize pI M k.p (.ins a.e (rj {c with st:="rings"} k.wy ad md))=M1 at g1 s1 ⊢;clear h1 h2 h3 h4 n1 n2;refine λp hp=>?_;have t3:=qr.new (c:=.lst (ps.map D.str)) hp;have lp:=@pH M1 p (ps.map D.str);have np:=g1.bd.m7 hp;have Y7:=g1.sub t3;have s1':=s1.trans (.sub t3);generalize pI M1 p (.lst (ps.map D.str))=M1' at t3 lp Y7 s1' ⊢;obtain⟨ad,md,h1,h2,h3,h4,n1,n2⟩:=Y7.cell;refine pA h1 ⟨(G.j "at" rfl),by show 8<1000;decide,?_⟩;obtain⟨g3,s3⟩:=Y7.put {c with st:="rings",at_:=ps} rfl lp h4 np n2;rw[show wb "at" (.ref p) (rj {c with st:="rings"} k.wy ad md)=rj {c with st:="rings",at_:=ps} k.wy p md from rfl];generalize pI M1' k.p (.ins a.e (rj {c with st:="rings",at_:=ps} k.wy p md))=M3 at g3 s3 ⊢;clear h1 h2 h3 h4 n1 n2 lp t3 np;obtain⟨ad,md,h1,h2,h3,h4,n1,n2⟩:=g3.cell;refine pA h1 ⟨(G.j "since" rfl),by show 8<1000;decide,_,.refl,?_⟩;obtain⟨g5,s5⟩:=g3.put (c.ring ps) rfl h3 h4 n1 n2;refine q _ (s1'.trans (s3.trans s5)) ?_;have:=g5.bd;rw[sv,sv]at this;exact this
 | talks ms=>obtain⟨ad,md,h1,h2,h3,h4,n1,n2⟩:=h.cell;refine pA h1 ⟨(G.j "state" rfl),by show 8<1000;decide,?_⟩;obtain⟨g1,s1⟩:=h.put {c with st:="talks"} rfl h3 h4 n1 n2;show uL _ _ _ _ (pI M k.p (.ins a.e (rj {c with st:="talks"} k.wy ad md)));generalize pI M k.p (.ins a.e (rj {c with st:="talks"} k.wy ad md))=M1 at g1 s1 ⊢;clear h1 h2 h3 h4 n1 n2;refine λp hp=>?_;have t3:=qr.new (c:=.lst (ms.map D.str)) hp;have lp:=@pH M1 p (ms.map D.str);have np:=g1.bd.m7 hp;have Y7:=g1.sub t3;have s1':=s1.trans (.sub t3);generalize pI M1 p (.lst (ms.map D.str))=M1' at t3 lp Y7 s1' ⊢;obtain⟨ad,md,h1,h2,h3,h4,n1,n2⟩:=Y7.cell;refine pA h1 ⟨(G.j "members" rfl),by show 8<1000;decide,?_⟩;obtain⟨g3,s3⟩:=Y7.put {c with st:="talks",ms:=ms} rfl h3 lp n1 np;show uL _ _ _ _ (pI M1' k.p (.ins a.e (rj {c with st:="talks",ms:=ms} k.wy ad p)));generalize pI M1' k.p (.ins a.e (rj {c with st:="talks",ms:=ms} k.wy ad p))=M3 at g3 s3 ⊢;clear h1 h2 h3 h4 n1 n2 lp t3 np;refine⟨pb rfl,λp2 Xn=>?_⟩;have t4:=qr.new (c:=.lst []) Xn;have lp:=@pH M3 p2 [];have np:=g3.bd.m7 Xn;have ZW:=g3.sub t4;have s3':=s3.trans (.sub t4);generalize pI M3 p2 (.lst [])=M3' at t4 lp ZW s3' ⊢;obtain⟨ad,md,h1,h2,h3,h4,n1,n2⟩:=ZW.cell;refine pA h1 ⟨(G.j "at" rfl),by show 8<1000;decide,?_⟩;obtain⟨g4,s4⟩:=ZW.put {c with st:="talks",ms:=ms,at_:=[]} rfl lp h4 np n2;rw[show wb "at" (.ref p2) (rj {c with st:="talks",ms:=ms} k.wy ad md)=rj {c with st:="talks",ms:=ms,at_:=[]} k.wy p2 md from rfl];generalize pI M3' k.p (.ins a.e (rj {c with st:="talks",ms:=ms,at_:=[]} k.wy p2 md))=M4 at g4 s4 ⊢;clear h1 h2 h3 h4 n1 n2 lp t4 np;obtain⟨ad,md,h1,h2,h3,h4,n1,n2⟩:=g4.cell;refine pA h1 ⟨(G.j "holder" rfl),by show 8<1000;decide,_,.refl,?_⟩;obtain⟨g5,s5⟩:=g4.put (c.nz ms) rfl h3 h4 n1 n2;refine q _ (s1'.trans (s3'.trans (s4.trans s5))) ?_;have:=g5.bd;rw[sv,sv,sv]at this;exact this
theorem tV{α:Type}{f:α->α}:∀{l:List α} {i:Nat} {c:α},l[i]?=Fa c->l.modify i f=l.set i (f c)
 | [],_,_,h=>by simp at h
 | _::_,0,_,h=>by cases h;rfl
 | x::r,i+1,c,h=>by rw[List.modify_succ_cons,kS,tV (l:=r) (by simpa using h)]
def Hr(ps:T0 (Str×Int))(z:Str)(n:Int):BO (tN ps) (.inr z) (.int n)=tN (Bw ps z n):=by
 have ea:((tN ps).any λkv=>decide (kv.1=(Sum.inr z:qX)))=ps.any λp=>decide (p.1=z):=by unfold tN;rw[jD];congr 1;funext p;have:((Sum.inr p.1:qX)=Sum.inr z)=(p.1=z):=propext ⟨λh=>jP h,λh=>by rw[h]⟩;simp only[Function.comp,this]
 unfold BO Bw;rw[ea];by_cases h:(ps.any λp=>decide (p.1=z))=pc
 .rw[cV h,cV h];unfold tN;rw[dS,dS];refine fV λp _=>?_;by_cases hp:p.1=z
  .simp[hp]
  .have:¬(Sum.inr p.1:qX)=Sum.inr z:=λy=>hp (jP y);simp[hp]
 .rw[cS h,cS h];unfold tN;rw[dz];rfl
def Gj{α:Type}{l:List α}{i:Nat}{x:α}(h:l[i]?=Fa x):l.set i x=l:=by obtain⟨hi,e⟩:=cT.mp h;rw[<-e,List.set_getElem_self]
structure WK(V:qo):Prop where
 lo:V.log.length<10000000
 le:V.mP.length<10000000
 ca:V.calls.length<=1000000
 ps:V.ps.length<10000000
 cs:∀c∈V.calls,c.way.length<10000000/\c.at_.length<=100/\c.ms.length<=100
def AR(a:Ad):rm:=λds M Q=>Hi λA V k c v=>ds=[.ref A.b,su.d v]/\CI a M A V v.i k c/\V.mP.length<10000000/\c.way.length<10000000/\∀M',qR A M A M'->pM a M' A {yI V v.i (c.go v.g)with mP:=V.mP++[v]}->Q .mG M'
def C6(a:Ad):rm:=λds M Q=>Tf λA V i j ki ci cj ms=>ds=[.ref A.b,.int (i:Nat),.int (j:Nat),names ms]/\CI a M A V i ki ci/\V.calls[j]?=Fa cj/\i≠j/\V.mP.length<10000000/\∀M' A',A'.b=A.b->qR A M A' M'->pM a M' A' {yI (yI V i (ci.over "merged")) j (cj.mem ms)with mP:=V.mP.map (su.to i j)}->Q .mG M'
def zQ(a:Ad):rm:=λds M Q=>CA λA V=>ds=[.ref A.b]/\pM a M A V/\∀M',qR A M A M'->pM a M' A {V with t:=V.t+1,calls:=V.calls.map pD.tick}->Q .mG M'
def wn(a:Ad):rm:=λds M Q=>CS λb A V e=>ds=[.ref b,Ev.d e]/\A.b=b/\pM a M A V/\WK V/\e.ok V/\∀M' A',A'.b=A.b->qR A M A' M'->pM a M' A' (qb V e)->Q .mG M'
noncomputable def Sg(m k:Nat):D->D
 | .tup (.int i::r)=>if i=(m:Int)then .tup (.int (k:Nat)::r)else .tup (.int i::r)
 | d=>d
def R5(m k:Nat)(v:su):Sg m k v.d=(v.to m k).d:=by
 show(if ((v.i:Nat):Int)=(m:Int)then _ else _)=_;unfold su.to;by_cases h:v.i=m
 .rw[cV h,cV (by rw[h])];rfl
 .rw[cS h,cS (by omega)];rfl
def HY:Fq P w K mg base 1 a.bx (AR a):=by
 refine fq G.bx.toDG Aj (λr u=>⟨_,(pq (pQ (rF (pE v0) (qm U1)))
 (pz (pQ (rF (pE (pL (pE v0) (pL U1 pB))) (qm (pL U1 pB)))))),?_⟩)
 rintro ds M Q ⟨A,V,k,c,v,rfl,ci,l1,l2,q⟩
 have hz:=dF;have bd:=ci.bd;refine pA bd.at_ (pk rfl ⟨by show(oX M A.le).isSome=pc;rw[bd.le];rfl,pk bd.le ⟨by rw[cO];omega,?_⟩⟩);obtain⟨b1,s1⟩:=bd.oq (es:=V.mP++[v]);rw[dz]at b1 s1;have b1:pM a (pI M A.le (.lst (V.mP.map su.d++[v.d]))) A {V with mP:=V.mP++[v]}:=b1;have s1:qR A M A (pI M A.le (.lst (V.mP.map su.d++[v.d]))):=s1;generalize pI M A.le (.lst (V.mP.map su.d++[v.d]))=M1 at b1 s1 ⊢;obtain⟨ad,md,h1,h2,h3,h4,n1,n2⟩:=b1.cs v.i k c ci.e1 ci.e2;refine pA b1.at_ (pk rfl (pk b1.ca (pk (rq ci.e1) (pA h1 (pk rfl ⟨by show(oX M1 k.wy).isSome=pc;rw[h2];rfl,pk h2 ⟨by rw[cO];omega,?_⟩⟩)))));obtain⟨b2,s2⟩:=b1.oE (ws:=c.way++[v.g]) ci.e1 ci.e2;rw[dz]at b2 s2;exact⟨_,.refl,q _ (s1.trans s2) b2⟩
def Md:Fq P w K mg base 2 a.bz (C6 a):=by
 refine fq G.bz.toDG xK (λr u=>⟨_,(pq (pQ (pJ (IT G) r G.ad (sf (pL (pE v0) U1) pC)))
 (pq (qd v0 (qG rfl (xn (ix:=[Db,Fa 1,Fa 2]) (N':=["leg","merged","kept"])) (qH (pE v0)) (qx 0) rH (QU (pK u (pL v0 pB) U1) (pW (pP (qm U2)) (rP v0 (sO pB) sR)) v0)))
 (pq (pO 4 xK (pL (pE v0) U2))
 (pz (qd v4 (qg uj rfl G.z uk (qm U3))))))),?_⟩)
 rintro ds M Q ⟨A,V,i,j,ki,ci,cj,ms,rfl,hi,hj,Yd,l1,q⟩
 have hz:=dF;refine pA hi.bd.at_ (pk rfl (pk rfl (pk hi.bd.ca (pk (rq hi.e1) ⟨A,V,i,ki,ci,"merged",rfl,hi,λM1 s1 b1=>?_⟩))));have hj1:(yI V i (ci.over "merged")).calls[j]?=Fa cj:=by show(V.calls.set i _)[j]?=_;rw[fz Yd];exact hj
 have le1:oX M1 A.le=Fa (V.mP.map su.d):=b1.le;refine pA b1.at_ (pk rfl (pk le1 (ra (f:=Sg i j) le1 _ [] _ (by rw[cO];simp only[dB];omega) (λd hd k hk=>?_) λp hp=>?_)))
 .obtain⟨v,_,rfl⟩:=dq.mp hd;refine pk rfl ?_;have hk:k (if ((v.i:Nat):Int)=(i:Int)then .tup [.int (j:Nat),.str v.f,.str v.g,.str v.y]else .tup [.int (v.i:Nat),.str v.f,.str v.g,.str v.y]) M1:=hk;refine qK (c:=((v.i:Nat):Int)==(i:Nat)) (λz=>?_) (λz=>?_)
  .rw[cV (wE z)]at hk;exact⟨pb rfl,ft _ _,by show 1+3<=Ch;omega,hk⟩
  .rw[cS (λy=>z (by rw[y];exact fC _))]at hk;exact hk
 have em:[]++(V.mP.map su.d).map (Sg i j)=(V.mP.map (su.to i j)).map su.d:=by rw[dQ,dS,dS];exact fV λv _=>R5 i j v
 rw[em];obtain⟨b2,s2⟩:=b1.oF (es:=V.mP.map (su.to i j)) hp;have t:=qr.new (c:=.lst ((V.mP.map (su.to i j)).map su.d)) hp;refine pA (t _ _ b1.at_) ⟨(G.E "legs" rfl),by show 8<1000;decide,?_⟩;show uL _ _ _ _ (pI (pI M1 p (.lst ((V.mP.map (su.to i j)).map su.d))) A.b (.ins a.c (tX (.ref V.p) V.h V.t A.ca p A.nx A.on A.lo)));have b2:pM a (pI (pI M1 p (.lst ((V.mP.map (su.to i j)).map su.d))) A.b (.ins a.c (tX (.ref V.p) V.h V.t A.ca p A.nx A.on A.lo))) {A with le:=p} {yI V i (ci.over "merged")with mP:=V.mP.map (su.to i j)}:=b2;have s2:qR A M1 {A with le:=p} (pI (pI M1 p (.lst ((V.mP.map (su.to i j)).map su.d))) A.b (.ins a.c (tX (.ref V.p) V.h V.t A.ca p A.nx A.on A.lo))):=s2;generalize pI (pI M1 p (.lst ((V.mP.map (su.to i j)).map su.d))) A.b (.ins a.c (tX (.ref V.p) V.h V.t A.ca p A.nx A.on A.lo))=M2 at b2 s2 ⊢;have hjk:j<A.cs.length:=by rw[hi.bd.len];exact(cT.mp hj).1
 have ej:A.cs[j]?=Fa A.cs[j]:=cQ hjk;generalize A.cs[j]=kj at ej;have cj2:CI a M2 {A with le:=p} _ j kj cj:=⟨b2,ej,hj1⟩;refine pA b2.at_ (pk rfl (pk rfl (pk b2.ca (pk (rq ej) ?_))));refine λr hr0=>?_;have t3:=qr.new (c:=.lst (ms.map D.str)) hr0;have lr:=@pH M2 r (ms.map D.str);have nr:=b2.m7 hr0;have cj3:=cj2.sub t3;generalize pI M2 r (.lst (ms.map D.str))=M3 at t3 lr cj3 ⊢;obtain⟨ad,md,h1,h2,h3,h4,n1,n2⟩:=cj3.cell;refine pA h1 ⟨(G.j "members" rfl),by show 8<1000;decide,_,.refl,?_⟩;obtain⟨g5,s5⟩:=cj3.put (cj.mem ms) rfl h3 lr n1 nr;exact q _ {A with le:=p} rfl (s1.trans (s2.trans ((qR.sub t3).trans s5))) g5.bd
def Ft:Fq P w K mg base 1 a.bA (zQ a):=by
 refine fq G.bA.toDG vG (λr u=>⟨_,(pq (D7 v0 pB)
 (pz (uZ fj rfl (qH (pE v0)) (rC 1 vG)
 (pz (pT (pK u (pE U1) pC)
 (pz (D7 U1 pB))
 pN))))),?_⟩)
 rintro ds M Q ⟨A,V,rfl,bd,q⟩
 refine pA bd.at_ ⟨(G.E "turn" rfl),pk rfl (pk rfl (pA bd.at_ ⟨rfl,by show 8<1000;decide,?_⟩))⟩;obtain⟨b1,s1⟩:=bd.putT (t:=V.t+1);rw[show wb "turn" (.int (V.t+1)) (tX (.ref V.p) V.h V.t A.ca A.le A.nx A.on A.lo)=tX (.ref V.p) V.h (V.t+1) A.ca A.le A.nx A.on A.lo from rfl];generalize pI M A.b (.ins a.c (tX (.ref V.p) V.h (V.t+1) A.ca A.le A.nx A.on A.lo))=M1 at b1 s1 ⊢;refine pA b1.at_ (pk rfl (pk b1.ca ?_));refine wK (A.cs.map λk=>D.ref k.p) (λpre U M'=>pM a M' A {V with t:=V.t+1,calls:=(V.calls.take pre.length).map pD.tick++V.calls.drop pre.length}/\qR A M A M'/\∃y,U=[Fa (.ref A.b),y]) (λ_ _ M' j=>j.1.ca) _ [] _ _ rfl ⟨b1,s1,Db,rfl⟩ ?_ ?_
 .rintro pre d post e U M' ⟨b2,s2,y,rfl⟩ nx Xq
  have hd:(A.cs.map λk=>D.ref k.p)[pre.length]?=Fa d:=by rw[<-e];simp
  rw[df]at hd;cases ek:A.cs[pre.length]? with
  | none=>rw[ek]at hd;cases hd
  | some k=>
   rw[ek]at hd;have hd:D.ref k.p=d:=cY hd;subst hd;have hi:pre.length<V.calls.length:=by rw[<-bd.len];exact(cT.mp ek).1
   have ec:V.calls[pre.length]?=Fa V.calls[pre.length]:=cQ hi;have ed:V.calls.drop pre.length=V.calls[pre.length]::V.calls.drop (pre.length+1):=hW hi;have et:V.calls.take (pre.length+1)=V.calls.take pre.length++[V.calls[pre.length]]:=by rw[gj,ec];rfl
   generalize V.calls[pre.length]=c at ec ed et;have hl:((V.calls.take pre.length).map pD.tick).length=pre.length:=by rw[cO,fk];omega
   have ec2:((V.calls.take pre.length).map pD.tick++V.calls.drop pre.length)[pre.length]?=Fa c:=by rw[eN (by rw[hl];exact c9 _),hl,gT,ed];rfl
   rw[cR,dG,et]at Xq;have en:((V.calls.take pre.length).map pD.tick++V.calls.drop pre.length).set pre.length c.tick=(V.calls.take pre.length++[c]).map pD.tick++V.calls.drop (pre.length+1):=by rw[j4 _ _ (by rw[hl];exact c9 _),hl,gT,ed,dz,eU];rfl
   have ci:CI a M' A _ pre.length k c:=⟨b2,ek,ec2⟩;obtain⟨ad,md,h1,h2,h3,h4,n1,n2⟩:=ci.cell;refine pA h1 (pk rfl ?_);have ht:c.tick=if (c.st=="rings")=pc then{c with si:=c.si+1}else c:=rfl;refine qK (c:=c.st=="rings") (λg=>?_) (λg=>?_)
   .rw[cV g]at ht;refine pA h1 ⟨(G.j "since" rfl),pk rfl (pk rfl (pA h1 ⟨rfl,by show 8<1000;decide,?_⟩))⟩;obtain⟨g5,s5⟩:=ci.put c.tick (by rw[ht]) (by rw[ht];exact h3) (by rw[ht];exact h4) n1 n2;have b5:=g5.bd;unfold yI at b5;rw[en]at b5;rw[ht]at b5 s5;exact Xq _ _ ⟨b5,s2.trans s5,_,rfl⟩
   .rw[cS g]at ht;rw[ht,Gj ec2]at en;rw[en]at b2;exact Xq _ _ ⟨b2,s2,_,rfl⟩
 .rintro U M' ⟨b2,s2,y,rfl⟩
  rw[cO,bd.len,eY,jz,eJ]at b2;exact⟨M',.refl,q M' s2 b2⟩
def qZ:Fq P w K mg base 3 a.k (wn a):=by
 refine fq G.k.toDG xW (λr u=>⟨_,(pq (pQ (rF (pE v0) (qm U1)))
 (pq (pO 2 xW (pL U1 pB))
 (pz (pT (pK u U2 pC)
 (pz (pQ (rF (pE v0) (qm (uO (Pj G) r G.e G.cd G.aG.toDG (qm (pL U1 pB)))))))
 (pz (pT (pK u U2 pC)
 (pz (pQ (pZ v0 G.c.toCls G.bx (HY G) r (qm (rP U1 (sO pB) sR)))))
 (pz (pT (pK u U2 pC)
 (pz (PX u (pE v0) (pL U1 pB) (pL U1 pB)))
 (pz (pT (pK u U2 pC)
 (pz (pQ (pZ v0 G.c.toCls G.bz (Md G) r (rb (pL U1 pB) (pL U1 pB) (pL U1 pB)))))
 (pz (pT (pK u U2 pC)
 (pz (pQ (yq v0 G.c.toCls G.bA (Ft G) r)))
 (pz (pT (pK u U2 (pP (sf pC pC)))
 (pz (IA (qh u U2 pC) (Rj (pE v0) (pL U1 pB))))
 (pz (pT (pK u U2 pC)
 (pz (pQ (pJ (JW G) r G.aW (sf (pL (pE v0) (pL U1 pB)) U1))))
 pN)))))))))))))))),?_⟩)
 rintro ds M Q ⟨_,A,V,e,rfl,rfl,bd,lim,ev,q⟩
 have hz:=dF;have ll:=lim.lo;have lc:=lim.ca;have lp:=lim.ps;refine pA bd.at_ (pk rfl ⟨by show(oX M A.lo).isSome=pc;rw[bd.lo];rfl,pk bd.lo ⟨by rw[cO];omega,?_⟩⟩);have hb:=bd.oB (es:=V.log++[e]);rw[dz]at hb;obtain⟨b1,s1⟩:pM a (pI M A.lo (.lst (V.log.map Ev.d++[e.d]))) A (qP V e)/\qR A M A (pI M A.lo (.lst (V.log.map Ev.d++[e.d]))):=hb;show uL _ _ _ _ (pI M A.lo (.lst (V.log.map Ev.d++[e.d])));generalize pI M A.lo (.lst (V.log.map Ev.d++[e.d]))=M1 at b1 s1 ⊢;have Zl:∀i,i<V.calls.length->∃k c,A.cs[i]?=Fa k/\V.calls[i]?=Fa c/\c∈V.calls:=λi hi=>by
  have X8:i<A.cs.length:=by rw[bd.len];exact hi
  exact⟨_,_,cQ X8,cQ hi,gW hi⟩
 have chg:∀(i:Nat) (k:rE) (c:pD) (c':pD) (f:pD->pD),A.cs[i]?=Fa k->V.calls[i]?=Fa c->f c=c'->qb V e=xT (qP V e) i f->∀(M2:Mp),qR A M1 A M2->pM a M2 A (yI (qP V e) i c')->∃Xg,qr Xg M2/\Q .mG Xg:=λi k c c' f e1 e2 e3 e4 M2 s2 b2=>⟨M2,.refl,q M2 A rfl (s1.trans s2) (by
  rw[e4];unfold xT;rw[show(qP V e).calls=V.calls from rfl,tV e2,e3];exact b2)⟩
 cases e with
 | new n x=>refine pA b1.at_ (pk rfl ⟨by show(oX M1 A.ca).isSome=pc;rw[b1.ca];rfl,λp hp=>⟨p,x,rfl,pR,λM2 wy ad md kp z1 z2 z3 n1 n2 h1 h2 h3 h4=>⟨rfl,?_⟩⟩⟩);have sp:=qr.new (c:=.ins a.e []) hp;have s2:qr M1 M2:=λy d hy=>kp y d (N0 hy hp) (sp y d hy);refine pk (s2.lst b1.ca) ⟨by rw[cO,b1.len];show V.calls.length<Ch;omega,?_⟩;obtain⟨b3,s3⟩:=b1.nZ s2 (c:=zO x) hp (sp.none z1) (sp.none z2) (sp.none z3) h1 h2 h3 h4 n1 n2;exact⟨_,.refl,q _ (A.add ⟨p,wy⟩) rfl (s1.trans s3) b3⟩
 | leg v=>obtain⟨k,c,ek,ec,hc⟩:=Zl v.i ev;refine pA b1.at_ ⟨rfl,_,⟨rfl,rfl⟩,A,qP V (.leg v),k,c,v,rfl,⟨b1,ek,ec⟩,lim.le,(lim.cs c hc).1,λM2 s2 b2=>⟨M2,.refl,q M2 A rfl (s1.trans s2) ?_⟩⟩;show pM a M2 A {qP V (.leg v)with mP:=V.mP++[v],calls:=V.calls.modify v.i (·.go v.g)};rw[tV ec];exact b2
 | next z n=>refine pA b1.at_ (pk rfl (pk b1.nx ⟨by show(tN V.ps).length<Ch;unfold tN;rw[cO];omega,?_⟩));rw[Hr];obtain⟨b2,s2⟩:=b1.oR (ps:=Bw V.ps z n);exact⟨_,.refl,q _ A rfl (s1.trans s2) b2⟩
 | merge i j ms=>obtain⟨hi,hj,hij,_⟩:=ev;obtain⟨ki,ci,eki,eci,hci⟩:=Zl i hi;obtain⟨kj,cj,ekj,ecj,hcj⟩:=Zl j hj;refine pA b1.at_ ⟨rfl,_,⟨rfl,rfl⟩,A,qP V (.merge i j ms),i,j,ki,ci,cj,ms,rfl,⟨b1,eki,eci⟩,ecj,hij,lim.le,λM2 A2 eb s2 b2=>⟨M2,.refl,q M2 A2 eb (s1.trans s2) ?_⟩⟩;show pM a M2 A2 {qP V (.merge i j ms)with calls:=(V.calls.modify i (·.over "merged")).modify j (·.mem ms),mP:=V.mP.map (su.to i j)};rw[tV eci,tV (show(V.calls.set i _)[j]?=Fa cj by rw[fz hij];exact ecj)];exact b2
 | asks i z ns=>exact⟨pb rfl,rfl,rfl,M1,.refl,q M1 A rfl s1 b1⟩
 | turn=>exact pA b1.at_ ⟨rfl,_,⟨rfl,rfl⟩,A,qP V .turn,rfl,b1,λM2 s2 b2=>⟨M2,.refl,q M2 A rfl (s1.trans s2) b2⟩⟩
 | sw b i=>
  have hi:i<V.on.length:=ev;obtain⟨b2,s2⟩:=b1.oU (bs:=V.on.set i b);have es:(V.on.map D.bl).set i (.bl b)=(V.on.set i b).map D.bl:=(mo).symm;have ix:Gn (V.on.map D.bl).length (i:Nat)=Fa i:=by rw[cO];unfold Gn;simp[hi]
  have Xh:∃Xg,qr Xg (pI M1 A.on (.lst ((V.on.map D.bl).set i (.bl b))))/\Q .mG Xg:=by rw[es];exact⟨_,.refl,q _ A rfl (s1.trans s2) b2⟩
  cases b with
  | true=>exact⟨pb rfl,rfl,rfl,pA b1.at_ (pk rfl (pk b1.on (pk ix Xh)))⟩
  | false=>exact⟨pb rfl,rfl,rfl,pA b1.at_ (pk rfl (pk b1.on (pk ix Xh)))⟩
 | rings i ps=>obtain⟨k,c,ek,ec,hc⟩:=Zl i ev.1;exact⟨pb rfl,rfl,rfl,pA b1.at_ (pk rfl (pk b1.ca (pk (rq ek) ⟨A,qP V _,i,k,c,_,_,rfl,⟨b1,ek,ec⟩,(lim.cs c hc).2.1,(lim.cs c hc).2.2,.rings ps,chg i k c _ _ ek ec rfl rfl⟩)))⟩
 | quiet i=>obtain⟨k,c,ek,ec,hc⟩:=Zl i ev;exact⟨pb rfl,rfl,rfl,pA b1.at_ (pk rfl (pk b1.ca (pk (rq ek) ⟨A,qP V _,i,k,c,_,_,rfl,⟨b1,ek,ec⟩,(lim.cs c hc).2.1,(lim.cs c hc).2.2,.quiet,chg i k c _ _ ek ec rfl rfl⟩)))⟩
 | waits i x=>obtain⟨k,c,ek,ec,hc⟩:=Zl i ev;exact⟨pb rfl,rfl,rfl,pA b1.at_ (pk rfl (pk b1.ca (pk (rq ek) ⟨A,qP V _,i,k,c,_,_,rfl,⟨b1,ek,ec⟩,(lim.cs c hc).2.1,(lim.cs c hc).2.2,.waits x,chg i k c _ _ ek ec rfl rfl⟩)))⟩
 | talks i ms=>obtain⟨k,c,ek,ec,hc⟩:=Zl i ev.1;exact⟨pb rfl,rfl,rfl,pA b1.at_ (pk rfl (pk b1.ca (pk (rq ek) ⟨A,qP V _,i,k,c,_,_,rfl,⟨b1,ek,ec⟩,(lim.cs c hc).2.1,(lim.cs c hc).2.2,.talks ms,chg i k c _ _ ek ec rfl rfl⟩)))⟩
 | held i x=>obtain⟨k,c,ek,ec,hc⟩:=Zl i ev;exact⟨pb rfl,rfl,rfl,pA b1.at_ (pk rfl (pk b1.ca (pk (rq ek) ⟨A,qP V _,i,k,c,_,_,rfl,⟨b1,ek,ec⟩,(lim.cs c hc).2.1,(lim.cs c hc).2.2,.held x,chg i k c _ _ ek ec rfl rfl⟩)))⟩
 | leaves i x=>obtain⟨k,c,ek,ec,hc⟩:=Zl i ev;exact⟨pb rfl,rfl,rfl,pA b1.at_ (pk rfl (pk b1.ca (pk (rq ek) ⟨A,qP V _,i,k,c,_,_,rfl,⟨b1,ek,ec⟩,(lim.cs c hc).2.1,(lim.cs c hc).2.2,.leaves x,chg i k c _ _ ek ec rfl rfl⟩)))⟩
 | over i w0=>obtain⟨k,c,ek,ec,hc⟩:=Zl i ev;exact⟨pb rfl,rfl,rfl,pA b1.at_ (pk rfl (pk b1.ca (pk (rq ek) ⟨A,qP V _,i,k,c,_,_,rfl,⟨b1,ek,ec⟩,(lim.cs c hc).2.1,(lim.cs c hc).2.2,.over w0,chg i k c _ _ ek ec rfl rfl⟩)))⟩
noncomputable def Nz:QQQ:=["barred","ring","engaged","left","refused","done","merged"]
def Q1(o:Bool)(c:pD):Prop:=(c.st="rings"/\c.ms=[]/\c.hd=Db/\c.wd=Db/\(o=pc->c.at_=[])/\(o=lf->c.at_≠[]))\/(o=lf/\((c.st="waits"/\c.ms=[]/\c.hd=Db/\c.wd=Db/\c.at_.length=1)\/(c.st="talks"/\(c.ms.length=2\/c.ms.length=3)/\c.hd=Db/\c.wd=Db/\c.at_=[])\/
 (∃x,c.st="held"/\c.ms.length=2/\c.hd=Fa x/\x∈c.ms/\c.wd=Db/\c.at_=[])\/(c.st="over"/\c.ms=[]/\c.hd=Db/\c.at_=[]/\∃w∈Nz,c.wd=Fa w)))
structure vZ(l:pF)(o:Bool)(c:pD):Prop where
 sh:Q1 o c
 cr:c.cr∈l.pn
 at_:∀x∈c.at_,x∈l.pn
 ms:∀x∈c.ms,x∈l.pn
 an:c.at_.Nodup
 mn:c.ms.Nodup
 ca:c.cr∉c.at_
 wy:c.way≠[]/\∀z∈c.way,z∈l.nm
def Bj(c:pD)(x:Str):Prop:=c.mW x=pc\/c.mM x=pc
structure zT(l:pF)(V:qo)(o:Option Nat):Prop where
 ok:∀(i:Nat) c,V.calls[i]?=Fa c->vZ l (o==Fa i) c
 un:∀(i j:Nat) ci cj x,V.calls[i]?=Fa ci->V.calls[j]?=Fa cj->Bj ci x->Bj cj x->i=j
 ln:∀x∈l.pn,(vi V x:Int)<=wQ l x
 wt:∀(i j:Nat) ci cj x,V.calls[i]?=Fa ci->V.calls[j]?=Fa cj->ci.mH x=pc->cj.mH x=pc->i=j
 nx:uG l V
abbrev WF(l:pF)(V:qo):Prop:=zT l V Db
structure Sz(V:qo)(c n:Nat):Prop where
 lo:V.log.length<=n
 le:V.mP.length<=n
 ca:V.calls.length<=c
 ps:V.ps.length<=n
 cs:∀k∈V.calls,k.way.length<=n/\k.at_.length<=100/\k.ms.length<=100
def Sz.mono{V:qo}{c n c' n':Nat}(h:Sz V c n)(hc:c<=c')(hn:n<=n'):Sz V c' n':=⟨dR h.lo hn,dR h.le hn,dR h.ca hc,dR h.ps hn,λk hk=>⟨dR (h.cs k hk).1 hn,(h.cs k hk).2⟩⟩
noncomputable def Ev.nw:Ev->Nat
 | .new _ _=>1
 | _=>0
def LO(ps:T0 (Str×Int))(z:Str)(n:Int):(Bw ps z n).length<=ps.length+1:=by
 unfold Bw;split
 .rw[cO];omega
 .rw[cR];exact c9 _
def I0(ss:QQQ)(x:Str):(rN ss x).length<=ss.length:=fN _ _
def Fo{α:Type}{f:α->α}{l:List α}{i:Nat}{x:α}(h:x∈l.modify i f):x∈l\/∃y∈l,x=f y:=by
 cases e:l[i]? with
 | none=>rw[kA (by simpa using e)]at h;exact .inl h
 | some c=>
  rw[tV e]at h;rcases List.mem_or_eq_of_mem_set h with g|g
  .exact .inl g
  .exact .inr ⟨c,e9 e,g⟩
def Sz.step{V:qo}{c n:Nat}{e:Ev}(h:Sz V c n)(ok:e.ok V):Sz (qb V e) (c+e.nw) (n+1):=by
 have h1:Sz (qP V e) c (n+1):=⟨by show(V.log++[e]).length<=n+1;rw[cR];exact gX h.lo,jj h.le,h.ca,jj h.ps,λk hk=>⟨jj (h.cs k hk).1,(h.cs k hk).2⟩⟩;have md:∀(i:Nat) (f:pD->pD),(∀k∈V.calls,(f k).way=k.way/\(f k).at_.length<=100/\(f k).ms.length<=100)->Sz (xT (qP V e) i f) c (n+1):=λi f hf=>⟨h1.lo,h1.le,by show(V.calls.modify i f).length<=c;rw[gc];exact h.ca,h1.ps,λk hk=>by
  rcases Fo hk with g|⟨y,hy,rfl⟩
  .exact h1.cs k g
  .obtain⟨a1,a2,a3⟩:=hf y hy;exact⟨by rw[a1];exact(h1.cs y hy).1,a2,a3⟩⟩
 cases e with
 | new m x=>
  refine⟨h1.lo,h1.le,by show(V.calls++[zO x]).length<=c+1;rw[cR];exact gX h.ca,h1.ps,λk hk=>?_⟩;rcases dI.mp hk with g|g
  .exact h1.cs k g
  .rw[cX.mp g];exact⟨d9 _,d9 _,d9 _⟩
 | leg v=>
  refine⟨h1.lo,by show(V.mP++[v]).length<=n+1;rw[cR];exact gX h.le,by show(V.calls.modify v.i _).length<=c;rw[gc];exact h.ca,h1.ps,λk hk=>?_⟩;rcases Fo (l:=V.calls) hk with g|⟨y,hy,rfl⟩
  .exact h1.cs k g
  .exact⟨by show(y.way++[v.g]).length<=n+1;rw[cR];exact gX (h.cs y hy).1,(h.cs y hy).2⟩
 | asks i z ns=>exact h1
 | next z m=>exact⟨h1.lo,h1.le,h1.ca,dR (LO _ _ _) (gX h.ps),h1.cs⟩
 | merge i j ms=>
  have m1:=md i (·.over "merged") λk hk=>⟨rfl,d9 _,d9 _⟩;refine⟨h1.lo,by show(V.mP.map _).length<=n+1;rw[cO];exact h1.le,by show((V.calls.modify i _).modify j _).length<=c;rw[gc,gc];exact h.ca,h1.ps,λk hk=>?_⟩;rcases Fo (l:=V.calls.modify i (·.over "merged")) hk with g|⟨y,hy,rfl⟩
  .exact m1.cs k g
  .exact⟨(m1.cs y hy).1,(m1.cs y hy).2.1,ok.2.2.2⟩
 | turn=>
  refine⟨h1.lo,h1.le,by show(V.calls.map pD.tick).length<=c;rw[cO];exact h.ca,h1.ps,λk hk=>?_⟩;obtain⟨y,hy,rfl⟩:=dq.mp hk;have e:y.tick.way=y.way/\y.tick.at_=y.at_/\y.tick.ms=y.ms:=by unfold pD.tick;split<;>exact⟨rfl,rfl,rfl⟩
  rw[e.1,e.2.1,e.2.2];exact h1.cs y hy
 | sw b i=>exact⟨h1.lo,h1.le,h1.ca,h1.ps,h1.cs⟩
 | rings i ps=>exact md i _ λk hk=>⟨rfl,ok.2,(h.cs k hk).2.2⟩
 | quiet i=>exact md i _ λk hk=>⟨rfl,d9 _,(h.cs k hk).2.2⟩
 | waits i x=>exact md i _ λk hk=>⟨rfl,by show 1<=100;decide,(h.cs k hk).2.2⟩
 | talks i ms=>exact md i _ λk hk=>⟨rfl,d9 _,ok.2⟩
 | held i x=>exact md i _ λk hk=>⟨rfl,(h.cs k hk).2.1,(h.cs k hk).2.2⟩
 | leaves i x=>exact md i _ λk hk=>⟨rfl,dR (I0 _ _) (h.cs k hk).2.1,dR (I0 _ _) (h.cs k hk).2.2⟩
 | over i w=>exact md i _ λk hk=>⟨rfl,d9 _,d9 _⟩
def P3(V:qo)(e:Ev):(qb V e).fo=V.fo:=by cases e<;>rfl
def Rm(V:qo)(e:Ev):(qb V e).p=V.p/\(qb V e).h=V.h/\(qb V e).on.length=V.on.length:=by cases e<;>first|exact⟨rfl,rfl,rfl⟩|exact⟨rfl,rfl,hU⟩
structure uw(a:Ad)(M0 M:Mp)(b:Uf)(A:tq)(V:qo)(l:pF)(c n:Nat):Prop where
 bd:pM a M A V
 oH:sH a M0 V.p l
 s0:qr M0 M
 fr:∀x∈A.foot,M0 x=Db
 b:A.b=b
 sz:Sz V c n
 ok:rh l
 on:V.on.length=l.mB.length
variable {M0:Mp}{b:Uf}{A':tq}{V':qo}{l:pF}{n:Nat}
section
variable {c:Nat}
def uw.at_(h:uw a M0 M b A V l c n):M b=Fa (.ins a.c (tX (.ref V.p) V.h V.t A.ca A.le A.nx A.on A.lo)):=h.b ▸ h.bd.at_
def uw.sub(h:uw a M0 M b A V l c n)(s:qr M M'):uw a M0 M' b A V l c n:=⟨h.bd.sub s,h.oH,h.s0.trans s,h.fr,h.b,h.sz,h.ok,h.on⟩
def uw.pl(h:uw a M0 M b A V l c n):sH a M V.p l:=h.oH.sub h.s0
def uw.mono(h:uw a M0 M b A V l c n){c' n':Nat}(hc:c<=c')(hn:n<=n'):uw a M0 M b A V l c' n':=⟨h.bd,h.oH,h.s0,h.fr,h.b,h.sz.mono hc hn,h.ok,h.on⟩
def uw.lim(h:uw a M0 M b A V l c n)(hc:c<=1000000)(hn:n<9000000):WK V:=⟨im h.sz.lo (by omega),im h.sz.le (by omega),dR h.sz.ca hc,im h.sz.ps (by omega),λk hk=>⟨im (h.sz.cs k hk).1 (by omega),(h.sz.cs k hk).2⟩⟩
def uw.rd(h:uw a M0 M b A V l c n)(hc:c<=1000000){o:Option Nat}(wf:zT l V o):Rd a M A V l:=⟨h.bd,dR h.sz.ca hc,h.pl,h.ok,h.on,λk hk=>by
 obtain⟨i,hi,e⟩:=gG hk;exact⟨(wf.ok i k (by rw[cQ hi,e])).ms,(h.sz.cs k hk).2.2⟩⟩
def uw.call(h:uw a M0 M b A V l c n){i:Nat}{v:pD}(e:V.calls[i]?=Fa v):∃k,CI a M A V i k v:=by
 have hi:i<A.cs.length:=by rw[h.bd.len];exact(cT.mp e).1
 exact⟨A.cs[i],h.bd,cQ hi,e⟩
def uw.after(h:uw a M0 M b A V l c n){e:Ev}(ok:e.ok V)(eb:A'.b=A.b)(st:qR A M A' M')(bd:pM a M' A' (qb V e)):uw a M0 M' b A' (qb V e) l (c+e.nw) (n+1):=by
 obtain⟨p1,p2,p3⟩:=Rm V e;refine⟨bd,p1 ▸ h.oH,λx d hx=>st.1 x d (λz=>?_) (h.s0 x d hx),λx hx=>?_,eb.trans h.b,h.sz.step ok,h.ok,p3.trans h.on⟩
 .rw[h.fr x z]at hx;cases hx
 .rcases st.2.1 x hx with z|z
  .exact h.fr x z
  .exact h.s0.none z
end
def GF(l:pF)(V:qo)(c:Str):vI->Prop
 | .rings z ps=>z∈l.nm/\ps≠[]/\ps=xX l V c z
 | .breaks z=>∃x,x=c/\Hm l V x c z=pc
 | .waits z=>z∈l.pn/\z≠c/\AE V z=lf
 | .ring ns=>ns≠[]
 | _=>True
def F8{V:qo}{c z:Str}:(∀x∈xX l V c z,x∈uD l V c z/\x∈l.mz z)/\(xX l V c z).length<=(l.mz z).length:=by
 have hr:∀x∈uD l V c z,x∈l.mz z:=λx hx=>(fh.mp hx).1;unfold xX;split
 .refine⟨λx hx=>?_,?_⟩
  .have hx:=(fh.mp (iO hx)).2;have hx:=qU.mp hx;exact⟨hx,hr x hx⟩
  .cases e:(vf (l.mz z) (zx V z)).filter λx=>hasS (uD l V c z) x with
   | nil=>exact d9 _
   | cons y r=>
    have hy:y∈vf (l.mz z) (zx V z):=(fh.mp (by rw[e];exact dD)).1;have hy:y∈l.mz z:=by
     unfold vf at hy;rcases dI.mp hy with q|q
     .exact ke q
     .exact iO q
    rw[fk];have:=List.length_pos_of_mem hy;omega
 .exact⟨λx hx=>⟨hx,hr x hx⟩,fN _ _⟩
def Pv{l:pF}{V:qo}{c z:Str}(hz:z∈l.nm):GF l V c (HC l V c z):=by
 unfold HC;split
 .trivial
 .rename_i x r e;exact⟨hz,ft _ _,e.symm⟩
structure yd(l:pF)(V:qo)(c:Str)(n:Nat)(st:sr)(r:vI×sr):Prop where
 e:GF l V c r.1
 len:r.2.length<=st.length+n
 nm:∀s∈r.2,s∈st\/s.1∈l.nm
 wy:∀ns,r.1=.ring ns->∀z∈ns,z∈l.nm
theorem xS{V:qo}{c:Str}(ok:rh l):∀(n:Nat) (z:Str) (way:QQQ) (st:sr),z∈l.nm->(∀x∈way,x∈l.nm)->yd l V c n st (sI l V c n z way st)
 | 0,z,way,st,_,_=>⟨trivial,c9 _,λs hs=>.inl hs,λns h=>by cases h⟩
 | n+1,z,way,st,hz,hw=>by
  unfold sI;by_cases h:hasS way z=pc
  .rw[cV h];refine⟨?_,by show st.length<=_;omega,λs hs=>.inl hs,λns e y hy=>?_⟩
   .have h1:way.findIdx (·==z)<way.length:=List.findIdx_lt_length_of_exists ⟨z,qU.mp h,fC z⟩;show way.drop _≠[];intro g;have:=eE List.length g;rw[gp]at this;simp only[dB]at this;omega
   .cases e;exact hw y (ke hy)
  rw[cS h];have sn:∀(fs:T0 Nat),∀s∈st++[(z,fs)],s∈st\/s.1∈l.nm:=λfs s hs=>by
   rcases dI.mp hs with g|g
   .exact .inl g
   .rw[cX.mp g];exact .inr hz
  have sl:∀fs:T0 Nat,(st++[(z,fs)]).length=st.length+1:=λfs=>by rw[cR];rfl
  cases hf:vN l V c z with
  | nil=>refine⟨Pv hz,by show(st++[(z,[])]).length<=_;rw[sl];omega,sn [],λns e=>?_⟩;have e:HC l V c z=.ring ns:=e;unfold HC at e;split at e<;>cases e
  | cons i r=>
   obtain⟨w,ew,XM⟩:=zj (l:=l) (V:=V) (f:=va l V c z) (i:=i) (by show i∈vN l V c z;rw[hf];exact dD);dsimp only;rw[ew];dsimp only[Option.elim];have stop:∀e:vI,GF l V c e->(∀ns,e≠.ring ns)->yd l V c (n+1) st (e,st++[(z,i::r)]):=λe he XB=>⟨he,by show(st++[(z,i::r)]).length<=_;rw[sl];omega,sn _,λns g=>absurd g (XB ns)⟩
   have ZD:∀y,D4 z w.2=.inr y->yd l V c (n+1) st (sI l V c n y (way++[z]) (st++[(z,i::r)])):=λy hy=>by
    have hr:=xS (V:=V) (c:=c) ok n y (way++[z]) (st++[(z,i::r)]) (Cd ok (qJ ew) hy) λx hx=>by
     rcases dI.mp hx with g|g
     .exact hw x g
     .rw[cX.mp g];exact hz
    refine⟨hr.e,by have:=hr.len;rw[sl]at this;omega,λs hs=>?_,hr.wy⟩;rcases hr.nm s hs with g|g
    .exact sn _ s g
    .exact .inr g
   cases hv:w.2 with
   | bar x ns=>exact stop _ trivial λns g=>by cases g
   | shut x ns=>exact stop _ trivial λns g=>by cases g
   | wait x=>
    rw[hv]at XM;have hf2:(if (!(z==x)||(c==x))=pc then lf else x8 l V c z&&!(AE V z))=pc:=XM;have hx:xA l.pn x:=by have:=ok.wo w (qJ ew);rw[hv]at this;exact this
    by_cases g:(!(z==x)||(c==x))=pc
    .rw[cV g]at hf2;cases hf2
    rw[cS g]at hf2;simp only[gK,gA,fF,jk,dO]at g hf2;have ezx:=wE g.1;subst ezx;exact stop _ ⟨qU.mp hx,λy=>g.2 (by rw[y];exact fC _),hf2.2⟩ λns g=>by cases g
   | breaks x=>
    rw[hv]at XM;refine stop _ ⟨x,?_,?_⟩ λns g=>by cases g
    .have XM:Hm l V x c z=pc:=XM;unfold Hm at XM;by_cases g:(!(c==x)||(z==x))=pc
     .rw[cV g]at XM;cases XM
     .simp only[gK,gA,fF,jk]at g;exact(wE g.1).symm
    .exact XM
   | always x y=>exact ZD y (by rw[hv];rfl)
   | night x y f m=>exact ZD y (by rw[hv];rfl)
   | busy x y=>exact ZD y (by rw[hv];rfl)
   | silent x y m=>exact ZD y (by rw[hv];rfl)
def Gs{V:qo}{x c z:Str}(h:Hm l V x c z=pc):∃j k,vU V z=Fa j/\V.calls[j]?=Fa k/\k.st="talks"/\z∈k.ms/\k.ms.length=2/\z≠c:=by
 unfold Hm at h;by_cases g:(!(c==x)||(z==x))=pc
 .rw[cV g]at h;cases h
 rw[cS g]at h;simp only[gK,gA,fF,jk]at g;by_cases g2:(!(hasS l.pn z)||!(x8 l V c z))=pc
 .rw[cV g2]at h;cases h
 rw[cS g2]at h;cases e:vU V z with
 | none=>rw[e]at h;cases h
 | some j=>obtain⟨hj,ht,_⟩:=iB.mp e;rw[e]at h;have h:((V.calls[j]?).elim lf λk=>(k.ms.length==2)&&Iu l x k.ms)=pc:=h;rw[cQ hj]at h;have h:((V.calls[j].ms.length==2)&&Iu l x V.calls[j].ms)=pc:=h;unfold pD.mO at ht;rw[dO]at h ht;refine⟨j,V.calls[j],rfl,cQ hj,wE ht.1,qU.mp ht.2,wE h.1,λy=>?_⟩;rw[y]at g;have:=wE g.1;rw[this,fC]at g;exact absurd rfl g.2
noncomputable def pD.bare(c:pD):pD:={c with way:=[]}
def tW(V V':qo):Prop:=V'.calls.map pD.bare=V.calls.map pD.bare
def tW.at_{V V':qo}(h:tW V V'){i:Nat}{c:pD}(e:V.calls[i]?=Fa c):∃c',V'.calls[i]?=Fa c'/\c'.bare=c.bare:=by
 have:=eE (·[i]?) h;simp only[df,e]at this;cases e':V'.calls[i]? with
 | none=>rw[e']at this;cases this
 | some c'=>rw[e']at this;exact⟨c',rfl,cY this⟩
def zd(f:pD->Bool)(hf:∀c,f c.bare=f c)(cs:List pD):(cs.map pD.bare).findIdx? f=cs.findIdx? f:=by rw[gP];congr 1;funext c;exact hf c
def tW.nz{V V':qo}(h:tW V V')(z:Str):vU V' z=vU V z:=by unfold vU;rw[<-zd _ (λ_=>rfl) V'.calls,h,zd _ (λ_=>rfl)]
def tW.ends{V V':qo}(h:tW V V')(i:Nat)(e:vI):tz l V' i e=tz l V i e:=by
 cases e with
 | breaks z=>
  unfold tz;dsimp only;rw[h.nz];have key:∀j:Nat,(V'.calls[j]?).map pD.bare=(V.calls[j]?).map pD.bare:=λj=>by
   have:=eE (·[j]?) h
   simpa only [df]using this
  have ki:=key i;cases vU V z with
  | none=>rfl
  | some j=>
   have kj:=key j;cases e1:V.calls[i]? with
   | none=>rw[e1]at ki;rw[show V'.calls[i]?=Db by cases q:V'.calls[i]? with|none=>rfl|some _=>rw[q]at ki;cases ki]
   | some c=>
    rw[e1]at ki;cases e2:V'.calls[i]? with
    | none=>rw[e2]at ki;cases ki
    | some c'=>
     rw[e2]at ki;have k1:c'.cr=c.cr:=by have kb:c'.bare=c.bare:=cY ki;exact show c'.bare.cr=c.bare.cr by rw[kb]
     have k2:(V'.calls[j]?).elim [] pD.ms=(V.calls[j]?).elim [] pD.ms:=by
      cases e3:V.calls[j]? with
      | none=>rw[e3]at kj;rw[show V'.calls[j]?=Db by cases q:V'.calls[j]? with|none=>rfl|some _=>rw[q]at kj;cases kj]
      | some d=>
       rw[e3]at kj;cases e4:V'.calls[j]? with
       | none=>rw[e4]at kj;cases kj
       | some d'=>rw[e4]at kj;exact show d'.bare.ms=d.bare.ms by rw[show d'.bare=d.bare from cY kj]
     dsimp only;rw[k1,k2]
 | _=>rfl
def tW.trans{V V1 V2:qo}(h:tW V V1)(g:tW V1 V2):tW V V2:=Eq.trans g h
def ze(V:qo)(v:su):tW V (qb V (.leg v)):=by
 show(V.calls.modify v.i (·.go v.g)).map pD.bare=V.calls.map pD.bare;cases e:V.calls[v.i]? with
 | none=>rw[kA (by simpa using e)]
 | some c=>rw[tV e,mo,show(c.go v.g).bare=c.bare from rfl,Gj (by rw[df,e];rfl)]
def DZ(V:qo)(i:Nat)(z:Str)(ns:T0 Nat):tW V (qb V (.asks i z ns)):=rfl
def tW.len{V V':qo}(h:tW V V'):V'.calls.length=V.calls.length:=by
 have:=eE List.length h
 rwa [cO,cO]at this
noncomputable def FZ:Option Str->sr->Option Str
 | o,[]=>o
 | _,(z,_)::r=>FZ (Fa z) r
noncomputable def UF(i:Nat)(z:Str)(fs:T0 Nat):Option Str->T0 Ev
 | none=>[.asks i z fs]
 | some y=>[.leg ⟨i,y,z,y⟩,.asks i z fs]
theorem yE(i:Nat)(z:Str)(fs:T0 Nat):∀(st:sr) (o:Option Str),rB i o (st++[(z,fs)])=rB i o st++UF i z fs (FZ o st)
 | [],none=>rfl
 | [],Fa _=>rfl
 | (y,gs)::r,none=>by show .asks i y gs::rB i (Fa y) (r++[(z,fs)])=_;rw[yE i z fs r];rfl
 | (y,gs)::r,Fa u=>by show .leg ⟨i,u,y,u⟩::.asks i y gs::rB i (Fa y) (r++[(z,fs)])=_;rw[yE i z fs r];rfl
theorem Bx(z:Str)(fs:T0 Nat):∀(st:sr) (o:Option Str),FZ o (st++[(z,fs)])=Fa z
 | [],_=>rfl
 | _::r,_=>Bx z fs r _
theorem vH(i:Nat):∀(st:sr) (o:Option Str) (V:qo),tW V (qF V (rB i o st))
 | [],_,V=>rfl
 | (y,gs)::r,Db,V=>(DZ V i y gs).trans (vH i r (Fa y) _)
 | (y,gs)::r,Fa u,V=>((ze V ⟨i,u,y,u⟩).trans (DZ _ i y gs)).trans (vH i r (Fa y) _)
def P0(a:Ad):rm:=λds M Q=>KU λM0 b A V l c n i st r=>ds=[.ref b,.int ((i:Nat):Int),.ref r]/\uw a M0 M b A V l c n/\c<=1000000/\n<=8000000/\st.length<=100/\i<V.calls.length/\oX M r=Fa (qN st)/\r∉A.foot/\∀M' A',uw a M0 M' b A' (qF V (rB i Db st)) l c (n+2*st.length)->qR A M A' M'->Q .mG M'
def NV(a:Ad):rm:=λds M Q=>KU λM0 b A V l c n i z ps=>ds=[.ref b,.int ((i:Nat):Int),.str z,names ps]/\uw a M0 M b A V l c n/\c<=1000000/\n<=8000000/\i<V.calls.length/\z∈l.nm/\ps≠[]/\(∀x∈ps,x∈l.mz z)/\ps.length<=100/\∀M' A',uw a M0 M' b A' (qF V (tz l V i (.rings z ps))) l c (n+2)->qR A M A' M'->Q .mG M'
def G0(l:pF)(V:qo)(i:Nat):vI->Prop
 | .rings z ps=>z∈l.nm/\ps≠[]/\(∀x∈ps,x∈l.mz z)/\ps.length<=100
 | .breaks z=>∃j k,vU V z=Fa j/\V.calls[j]?=Fa k/\i≠j/\k.ms.length=2
 | _=>True
def LR(a:Ad):rm:=λds M Q=>TY λM0 b A V l c n i z=>ds=[.ref b,.int ((i:Nat):Int),.str z]/\uw a M0 M b A V l c n/\c<=1000000/\n<=8000000/\i<V.calls.length/\G0 l V i (.breaks z)/\∀M' A',uw a M0 M' b A' (qF V (tz l V i (.breaks z))) l c (n+2)->qR A M A' M'->Q .mG M'
def JK(a:Ad):rm:=λds M Q=>TY λM0 b A V l c n i e=>ds=[.ref b,.int ((i:Nat):Int),vI.d e]/\uw a M0 M b A V l c n/\c<=1000000/\n<=8000000/\i<V.calls.length/\G0 l V i e/\∀M' A',uw a M0 M' b A' (qF V (tz l V i e)) l c (n+2)->qR A M A' M'->Q .mG M'
def Qc(a:Ad):rm:=λds M Q=>TY λM0 b A V l c n i k=>ds=[.ref b,.int ((i:Nat):Int)]/\uw a M0 M b A V l c n/\c<=1000000/\n<=7000000/\zT l V (Fa i)/\V.calls[i]?=Fa k/\∀M' A',uw a M0 M' b A' (qF V (uu l V i)) l c (n+30)->qR A M A' M'->Q .mG M'
def Ng(a:Ad):rm:=λds M Q=>TY λM0 b A V l c n y z=>ds=[.ref b,.str y,.str z]/\uw a M0 M b A V l c n/\c<1000000/\n<=6000000/\zT l (qF V [.new V.calls.length y,.leg ⟨V.calls.length,y,z,y⟩]) (Fa V.calls.length)/\∀M' A',uw a M0 M' b A' (qF V (EQ l V y z)) l (c+1) (n+32)->qR A M A' M'->Q .mG M'
def GG{st:sr}{pre post:T0 D}{d:D}(e:pre++d::post=qN st):∃z fs,st[pre.length]?=Fa (z,fs)/\d=.tup [.str z,vF fs]/\st.take (pre.length+1)=st.take pre.length++[(z,fs)]:=by
 have h:(qN st)[pre.length]?=Fa d:=by rw[<-e];simp
 unfold qN at h;rw[df]at h;cases q:st[pre.length]? with
 | none=>rw[q]at h;cases h
 | some s=>rw[q]at h;refine⟨s.1,s.2,rfl,(cY h).symm,?_⟩;rw[gj,q];rfl
noncomputable def Vu:Option Str->D
 | none=>.mG
 | some x=>.str x
def Oj{ss:QQQ}{x:Str}(h:ss.getLast?=Fa x):wB (ss.map D.str) (-1)=Fa (.str x):=by
 have hp:0<ss.length:=by cases ss with|nil=>cases h|cons _ _=>exact mq _
 unfold wB;have e:Gn (ss.map D.str).length (-1)=Fa (ss.length - 1):=by
  rw[cO];unfold Gn;have:¬((-1:Int)>=0):=by decide
  simp;omega
 rw[e];show(ss.map D.str)[ss.length - 1]?=_;rw[df,<-jp,h];rfl
def LH(ds:T0 D):L3.uY ds Db (Fa (-1:Int))=ds.dropLast:=by
 unfold L3.uY;have e:HT.tL ds.length ds.length (Fa (-1:Int))=ds.length - 1:=by show(if (-1:Int)<0 then((-1:Int)+(ds.length:Int)).toNat else min (-1:Int).toNat ds.length)=ds.length - 1;rw[cV (by decide)];omega
 rw[e,HT.Ca,jZ,kK,List.dropLast_eq_take]
def Os:Fq P w K mg base 4 a.a3 (P0 a):=by
 refine fq G.a3.toDG ud (λr u=>⟨_,(pq (pO 3 ud sG)
 (pz (uZ fj rfl (qH U2) (tY (n:=2) rfl (qk (rC 4 ud) (qk (rC 5 ud) sQ)))
 (pq (pT (pK u U3 sG)
 (pz (pQ (pZ v0 G.c.toCls G.k (qZ G) r (qm (pP (pX pC (pX U1 (rb U3 v4 U3))))))))
 pN)
 (pq (pQ (pZ v0 G.c.toCls G.k (qZ G) r (qm (pP (pX pC (rb U1 v4 v5))))))
 (pz (pO 3 ud v4))))))),?_⟩)
 rintro ds M Q ⟨M0,b,A,V,l,c,n,i,st,r,rfl,cu,hc,hn,XA,hi,lr,nf,q⟩
 refine pk lr (wK (qN st) (λpre U M'=>(∃A',uw a M0 M' b A' (qF V (rB i Db (st.take pre.length))) l c (n+2*pre.length)/\qR A M A' M')/\∃y4 y5,U=[Fa (.ref b),Fa (.int ((i:Nat):Int)),Fa (.ref r),Fa (Vu (FZ Db (st.take pre.length))),y4,y5]) (λpre U M' j=>?_) _ [] _ _ rfl ⟨⟨A,cu,.refl⟩,Db,Db,rfl⟩ ?_ ?_)
 .obtain⟨⟨A',c1,XU⟩,_⟩:=j;exact rY (XU.1 r _ nf (pY lr))
 .rintro pre d post e U M' ⟨⟨A',c1,XU⟩,y4,y5,rfl⟩ nx Xq
  obtain⟨z,fs,es,rfl,et⟩:=GG e;have hp:pre.length<100:=dJ (cT.mp es).1 XA;rw[cR,dG,et,yE,Bx]at Xq;have len:∀es,tW V (qF V es)->i<(qF V es).calls.length:=λes h=>by rw[h.len];exact hi
  have YQ:=len _ (vH i (st.take pre.length) Db V);generalize hV:qF V (rB i Db (st.take pre.length))=V1 at c1 YQ;rw[rO,hV]at Xq;refine⟨rfl,?_⟩;dsimp only[rS,wm,zq];have asks:∀(M2:Mp) (A2:tq) (V2:qo) (m:Nat) (y3:Option D),m<9000000->uw a M0 M2 b A2 V2 l c m->qR A M A2 M2->(∀M3 A3,uw a M0 M3 b A3 (qb V2 (.asks i z fs)) l c (m+1)->qR A M A3 M3->nx [Fa (.ref b),Fa (.int ((i:Nat):Int)),Fa (.ref r),Fa (.str z),Fa (.str z),Fa (vF fs)] M3)->Bc (M2 b) λC fs'=>fs'.lookup ("apply":Str)=Db/\∃sp,(C=a.c/\sp=wn a)/\4<=Ch/\sp [.ref b,.tup [.str "asks",.int ((i:Nat):Int),.str z,vF fs]] M2 λ_ M3=>nx [Fa (.ref b),Fa (.int ((i:Nat):Int)),Fa (.ref r),Fa (.str z),Fa (.str z),Fa (vF fs)] M3:=λM2 A2 V2 m y3 hm c2 s2 k=>pA c2.at_ ⟨rfl,_,⟨rfl,rfl⟩,by rw[dF];decide,b,A2,V2,.asks i z fs,rfl,c2.b,c2.bd,c2.lim hc hm,trivial,λM3 A3 eb s3 bd=>k M3 A3 (c2.after trivial eb s3 bd) (s2.trans s3)⟩;cases hl:FZ Db (st.take pre.length)with
  | none=>rw[hl]at Xq;refine asks M' A' V1 _ Db (by omega) c1 XU λM3 A3 c3 s3=>Xq _ _ ⟨⟨A3,c3.mono (c9 _) (by omega),s3⟩,_,_,rfl⟩
  | some y=>rw[hl]at Xq;refine pA c1.at_ ⟨rfl,_,⟨rfl,rfl⟩,pb rfl,b,A',V1,.leg ⟨i,y,z,y⟩,rfl,c1.b,c1.bd,c1.lim hc (by omega),YQ,λM2 A2 eb s2 bd=>?_⟩;have c2:=c1.after (e:=.leg ⟨i,y,z,y⟩) YQ eb s2 bd;refine asks M2 A2 _ _ Db (by omega) c2 (XU.trans s2) λM3 A3 c3 s3=>Xq _ _ ⟨⟨A3,c3.mono (c9 _) (by omega),s3⟩,_,_,rfl⟩
 .rintro U M' ⟨⟨A',c1,XU⟩,_⟩
  have hl:(qN st).length=st.length:=by unfold qN;rw[cO]
  rw[hl,eY]at c1;exact⟨M',.refl,q M' A' c1 XU⟩
def Mh:Fq P w K mg base 4 a.a4 (NV a):=by
 refine fq G.a4.toDG uR (λr u=>⟨_,(pq (pT (pK u (pZ (pE v0) G.h.toCls G.aK (xu G) r (qm U2)) pC)
 (pq (pO 4 uR (pZ (pE v0) G.h.toCls G.Z (uz G) r (qm U2)))
 (pq (pO 5 uR (pW (pW (xV v4 (qm (pL U3 pB))) pB) (pU qy rfl G.g qv (qm v4))))
 (pz (pQ (pZ v0 G.c.toCls G.k (qZ G) r (qm (pP (rb pC U2 v5))))))))
 pN)
 (pz (pQ (pZ v0 G.c.toCls G.k (qZ G) r (qm (pP (rb pC U1 U3))))))),?_⟩)
 rintro ds M Q ⟨M0,b,A,V,l,c,n,i,z,ps,rfl,cu,hc,hn,hi,hz,XB,hm,hps,q⟩
 obtain⟨ph,gr,ws,YJ,pr,gd,rs,i1,_⟩:=cu.pl;have pl:=cu.pl;obtain⟨x,ps',rfl⟩:=fZ XB;obtain⟨⟨pne,_⟩,_⟩:=cu.ok.of hz;refine Pd (t:=Ma _ _ _) (λU M'=>(∃A',uw a M0 M' b A' (qF V (if (l.mI z=="turns")=pc then[.next z (Ph (l.mz z) x)]else[])) l c (n+1)/\qR A M A' M')/\∃y1 y2,U=[Fa (.ref b),Fa (.int ((i:Nat):Int)),Fa (.str z),Fa (names (x::ps')),y1,y2]) (λnx h=>?_) ?_
 .refine pA cu.at_ (pk rfl (pA i1 ⟨rfl,_,⟨rfl,rfl⟩,V.p,z,l,rfl,pl,?_⟩));refine qK (c:=l.mI z=="turns") (λg=>?_) (λg=>?_)
  .rw[cV g]at h;refine pA cu.at_ (pk rfl (pA i1 ⟨rfl,_,⟨rfl,rfl⟩,V.p,z,l,rfl,pl,λp hp=>?_⟩));have t:=qr.new (c:=.lst ((l.mz z).map D.str)) hp;have lp:=@pH M p ((l.mz z).map D.str);have cu':=cu.sub t;have st0:qR A M A (pI M p (.lst ((l.mz z).map D.str))):=.sub t;generalize pI M p (.lst ((l.mz z).map D.str))=M1 at t lp cu' st0 ⊢;have ej:=Fu x (l.mz z) (hm x dD);have lpos:0<(l.mz z).length:=fu.mpr pne;have el:(((l.mz z).map D.str).length:Int)=(l.mz z).length:=by rw[cO]
   refine⟨by show(oX M1 p).isSome=pc;rw[lp];rfl,pk (xP _ _) (pk lp ⟨rfl,qA _,pk ej (pk lp ⟨by rw[el];omega,?_⟩)⟩)⟩;rw[el];refine pA cu'.at_ ⟨rfl,_,⟨rfl,rfl⟩,pb rfl,b,A,V,.next z (Ph (l.mz z) x),rfl,cu'.b,cu'.bd,cu'.lim hc (by omega),trivial,λM2 A2 eb st YK=>?_⟩;exact h _ _ ⟨⟨A2,cu'.after (e:=.next z (Ph (l.mz z) x)) trivial eb st YK,st0.trans st⟩,_,_,rfl⟩
  .rw[cS g]at h;exact h _ _ ⟨⟨A,cu.mono (c9 _) (by omega),.refl⟩,_,_,rfl⟩
 rintro U M1 ⟨⟨A1,c1,XU⟩,y1,y2,rfl⟩
 have q:∀M' A',uw a M0 M' b A' (qF V ((if (l.mI z=="turns")=pc then[.next z (Ph (l.mz z) x)]else[])++[.rings i (x::ps')])) l c (n+2)->qR A M A' M'->Q .mG M':=q;rw[rO]at q;have YQ:i<(qF V (if (l.mI z=="turns")=pc then[.next z (Ph (l.mz z) x)]else[])).calls.length:=by
  split
  .exact hi
  .exact hi
 generalize qF V (if (l.mI z=="turns")=pc then[.next z (Ph (l.mz z) x)]else[])=V1 at c1 q YQ;refine pA c1.at_ ⟨rfl,_,⟨rfl,rfl⟩,pb rfl,b,A1,V1,.rings i (x::ps'),rfl,c1.b,c1.bd,c1.lim hc (by omega),⟨YQ,hps⟩,λM2 A2 eb Xk YK=>?_⟩;exact⟨M2,.refl,q M2 A2 (c1.after (e:=.rings i (x::ps')) ⟨YQ,hps⟩ eb Xk YK) (XU.trans Xk)⟩
def Nj:Fq P w K mg base 4 a.a5 (LR a):=by
 refine fq G.a5.toDG xE (λr u=>⟨_,(pq (pO 3 xE (pZ v0 G.c.toCls G.T (yF G) r (qm U2)))
 (pq (pO 4 xE (pW (qg rX rfl G.w rZ (qm (pE (pL (pE v0) U3)))) (pP (qm (pE (pL (pE v0) U1))))))
 (pz (pQ (pZ v0 G.c.toCls G.k (qZ G) r (qm (pP (pX pC (rb U1 U3 v4))))))))),?_⟩)
 rintro ds M Q ⟨M0,b,A,V,l,c,n,i,z,rfl,cu,hc,hn,hi,⟨j,k,ej,ek,Yd,YI⟩,q⟩
 have hz:=dF;have ei:V.calls[i]?=Fa V.calls[i]:=cQ hi;generalize V.calls[i]=ci at ei;obtain⟨ka,qi⟩:=cu.call ei;obtain⟨kb,qj⟩:=cu.call ek;obtain⟨ad,md,h1,h2,h3,h4,_⟩:=qi.cell;obtain⟨ad',md',g1,g2,g3,g4,_⟩:=qj.cell;have hee:tz l V i (.breaks z)=[.merge i j (k.ms++[ci.cr])]:=by unfold tz;dsimp only;rw[ej,ei];dsimp only;rw[ek];rfl
 rw[hee]at q;have ok:(Ev.merge i j (k.ms++[ci.cr])).ok V:=⟨hi,(cT.mp ek).1,Yd,by rw[cR,YI];show 3<=100;decide⟩;refine pA cu.at_ ⟨rfl,_,⟨rfl,rfl⟩,A,V,z,by rw[cu.b],cu.bd,dR cu.sz.ca hc,?_⟩;rw[show AB V z=.int (j:Nat)from by unfold AB;rw[ej];rfl];refine pA cu.at_ (pk rfl (pk rfl (pk cu.bd.ca (pk (rq qj.e1) (pA g1 (pk rfl (pk g4 ?_)))))));refine pA cu.at_ (pk rfl (pk rfl (pk cu.bd.ca (pk (rq qi.e1) (pA h1 (pk rfl ⟨pb rfl,?_⟩))))));refine⟨(by intro y;rw[List.map_eq_nil_iff]at y;rw[y]at YI;cases YI),(by rw[cO,YI];show 2+1<=Ch;omega),?_⟩;rw[show k.ms.map D.str++[D.str ci.cr]=(k.ms++[ci.cr]).map D.str by rw[dz];rfl];refine pA cu.at_ ⟨rfl,_,⟨rfl,rfl⟩,pb rfl,b,A,V,.merge i j (k.ms++[ci.cr]),rfl,cu.b,cu.bd,cu.lim hc (by omega),ok,λM2 A2 eb Xk YK=>?_⟩;exact⟨M2,.refl,q M2 A2 ((cu.after ok eb Xk YK).mono (c9 _) (by omega)) Xk⟩
def Od:Fq P w K mg base 5 a.a6 (JK a):=by
 refine fq G.a6.toDG xJ (λr u=>⟨_,(pq (pO 3 xJ (pL U2 pB))
 (pz (pT (pK u U3 pC)
 (pz (pQ (pJ (Mh G) r G.a4 (pX v0 (rb U1 (pL U2 pB) (pL U2 pB))))))
 (pz (pT (pK u U3 pC)
 (pz (pQ (pZ v0 G.c.toCls G.k (qZ G) r (qm (pP (rb pC U1 (pL U2 pB)))))))
 (pz (pT (pK u U3 pC)
 (pz (pQ (pJ (Nj G) r G.a5 (rb v0 U1 (pL U2 pB)))))
 (pz (pQ (pZ v0 G.c.toCls G.k (qZ G) r (qm (pP (rb pC U1 U3))))))))))))),?_⟩)
 rintro ds M Q ⟨M0,b,A,V,l,c,n,i,e,rfl,cu,hc,hn,hi,he,q⟩
 have one:∀(ev:Ev) (ok:ev.ok V),ev.nw=0->tz l V i e=[ev]->∀M2 A2,A2.b=A.b->qR A M A2 M2->pM a M2 A2 (qb V ev)->∃Xg,qr Xg M2/\Q .mG Xg:=λev ok h0 h1 M2 A2 eb Xk YK=>by rw[h1]at q;have c2:=cu.after ok eb Xk YK;rw[h0]at c2;exact⟨M2,.refl,q M2 A2 (c2.mono (c9 _) (by omega)) Xk⟩
 cases e with
 | rings z ps=>exact⟨M0,b,A,V,l,c,n,i,z,ps,rfl,cu,hc,hn,hi,he.1,he.2.1,he.2.2.1,he.2.2.2,λM' A' c1 st=>⟨M',.refl,q M' A' c1 st⟩⟩
 | waits z=>exact pA cu.at_ ⟨rfl,_,⟨rfl,rfl⟩,pb rfl,b,A,V,.waits i z,rfl,cu.b,cu.bd,cu.lim hc (by omega),hi,one (.waits i z) hi rfl rfl⟩
 | breaks z=>exact⟨M0,b,A,V,l,c,n,i,z,rfl,cu,hc,hn,hi,he,λM' A' c1 st=>⟨M',.refl,q M' A' c1 st⟩⟩
 | engaged z=>exact pA cu.at_ ⟨rfl,_,⟨rfl,rfl⟩,pb rfl,b,A,V,.over i "engaged",rfl,cu.b,cu.bd,cu.lim hc (by omega),hi,one (.over i "engaged") hi rfl rfl⟩
 | barred=>exact pA cu.at_ ⟨rfl,_,⟨rfl,rfl⟩,pb rfl,b,A,V,.over i "barred",rfl,cu.b,cu.bd,cu.lim hc (by omega),hi,one (.over i "barred") hi rfl rfl⟩
 | ring ns=>exact pA cu.at_ ⟨rfl,_,⟨rfl,rfl⟩,pb rfl,b,A,V,.over i "ring",rfl,cu.b,cu.bd,cu.lim hc (by omega),hi,one (.over i "ring") hi rfl rfl⟩
def Nv{V:qo}{i:Nat}{k:pD}{e:vI}(ok:rh l)(wf:zT l V (Fa i))(hk:V.calls[i]?=Fa k)(h:GF l V k.cr e):G0 l V i e:=by
 cases e with
 | rings z ps=>obtain⟨hz,XB,rfl⟩:=h;have h1:=(F8 (l:=l) (V:=V) (c:=k.cr) (z:=z));have h2:=(ok.of hz).1.2.1;exact⟨hz,XB,λx hx=>(h1.1 x hx).2,by have:=h1.2;omega⟩
 | breaks z=>
  obtain⟨x,rfl,hb⟩:=h;obtain⟨j,d,e1,e2,e3,e4,e5,_⟩:=Gs hb;refine⟨j,d,e1,e2,λy=>?_,e5⟩;subst y;rw[hk]at e2;cases e2;have sh:=(wf.ok i k hk).sh;rw[show(Fa i==Fa i)=pc from fC _]at sh;rcases sh with g|g
  .rw[g.1]at e3;exact absurd e3 (by decide)
  .cases g.1
 | _=>trivial
def JF:Fq P w K mg base 9 a.ag (Qc a):=by
 refine fq G.ag.toDG wz (λr u=>⟨_,(pq (pO 2 wz (pL (pE v0) U1))
 (pq (pO 3 wz (pJ (Cy G) r G.L (pX v0 (rb (pE U2) (pL (pE U2) (Fx pB)) (rP (pE U2) sR (sO (Fx pB)))))))
 (pq (pO 4 wz (pL U3 pB))
 (pq (pO 5 wz (pL U3 pB))
 (pq (pQ (pJ (Os G) r G.a3 (rb v0 U1 v5)))
 (pq (pT (W3.b3 (yG (pK u (pL v4 pB) pC) (yt (pK u (pU qy rfl G.g qv (qm v5)) pB))))
 (pq (pO 6 wz (pL (pL v5 (Fx pB)) pB))
 (pz (pQ (pZ v0 G.c.toCls G.k (qZ G) r (qm (pP (pX pC (pX U1 (rb v6 (pL (pL v4 pB) pB) v6)))))))))
 pN)
 (pz (pQ (pJ (Od G) r G.a6 (rb v0 U1 v4)))))))))),?_⟩)
 rintro ds M Q ⟨M0,b,A,V,l,c,n,i,k,rfl,cu,hc,hn,wf,hk,q⟩
 obtain⟨ka,ci⟩:=cu.call hk;obtain⟨ad,md,h1,h2,h3,h4,n1,n2⟩:=ci.cell;have Yi:=wf.ok i k hk;have hi:=(cT.mp hk).1;obtain⟨z,hz⟩:∃z,k.way.getLast?=Fa z:=by
  cases e:k.way.getLast? with
  | none=>exact absurd (gC.mp e) Yi.wy.1
  | some z=>exact⟨z,rfl⟩
 have XQ:z∈l.nm:=Yi.wy.2 z (iP hz);have hdn:∀x∈k.way.dropLast,x∈l.nm:=λx hx=>Yi.wy.2 x (iQ _ hx);have hwl:=(cu.sz.cs k (qJ hk)).1;have hev:uu l V i=rB i Db (se l V k.cr z k.way.dropLast).2++(uo i (se l V k.cr z k.way.dropLast).2 (se l V k.cr z k.way.dropLast).1++tz l V i (se l V k.cr z k.way.dropLast).1):=by
  unfold uu;rw[hk];have:k.way.getLastD Str.empty=z:=by rw[h9,hz];rfl
  dsimp only[Option.elim];rw[this]
 rw[hev]at q;have ro:yd l V k.cr (l.nm.length+1) [] (se l V k.cr z k.way.dropLast):=xS cu.ok _ _ _ _ XQ hdn;have rl:=ro.len;have eo:=Nv cu.ok wf hk ro.e;have nl:l.nm.length<=11:=by have p8:=cu.ok.p8;have g3:=cu.ok.g3;unfold pF.nm pF.pn pF.gn;rw[cR,cO,cO];omega
 have re:=ro.e;refine Pd (t:=Df _ _) (λU M'=>M=M'/\U=[Fa (.ref b),Fa (.int ((i:Nat):Int)),Fa (.ref ka.p),Db,Db,Db,Db]) (λnx0 h=>pA cu.at_ (pk rfl (pk rfl (pk ci.bd.ca (pk (rq ci.e1) (h _ _ ⟨rfl,rfl⟩)))))) ?_
 rintro U _ ⟨rfl,rfl⟩
 refine Pd (t:=Df _ _) (λU M'=>qr M M'/\∃r,M r=Db/\oX M' r=Fa (qN (se l V k.cr z k.way.dropLast).2)/\U=[Fa (.ref b),Fa (.int ((i:Nat):Int)),Fa (.ref ka.p),Fa (.tup [(se l V k.cr z k.way.dropLast).1.d,.ref r]),Db,Db,Db]) (λnx0 h=>?_) ?_
 .refine pA h1 (pk rfl (pA h1 (pk rfl (pk h2 (pk (Oj hz) (pA h1 (pk rfl (pk h2 λp hp=>?_))))))));rw[show L3.uY (k.way.map D.str) Db (Fa (-1:Int))=k.way.dropLast.map D.str from(LH _).trans (List.map_dropLast).symm];have t:=qr.new (c:=.lst (k.way.dropLast.map D.str)) hp;have lp:=@pH M p (k.way.dropLast.map D.str);refine⟨A,V,l,k.cr,z,p,k.way.dropLast,by rw[cu.b],(cu.rd hc wf).sub t,XQ,wf.nx,lp,by rw[List.length_dropLast];omega,λr M' s hr lr=>?_⟩;exact h _ _ ⟨t.trans s,r,t.none hr,lr,rfl⟩
 rintro U M1 ⟨s1,r,hr,lr,rfl⟩
 generalize se l V k.cr z k.way.dropLast=R at lr ro rl eo re q;obtain⟨e,st⟩:=R;have cu1:=cu.sub s1;have rl:st.length<=0+(l.nm.length+1):=rl;refine⟨M0,b,A,V,l,c,n,i,st,r,rfl,cu1,hc,by omega,by omega,hi,lr,cu.bd.nH hr,λM2 A2 c2 Xk=>?_⟩;have same:=vH i st Db V;have X8:i<(qF V (rB i Db st)).calls.length:=by rw[same.len];exact hi
 have ZX:oX M2 r=Fa (qN st):=rY (Xk.1 r _ (cu.bd.nH hr) (pY lr));rw[rO,rO]at q;have hee:=λV' (h:tW V V')=>h.ends (l:=l) i e;have ZP:∀V',tW V V'->G0 l V' i e:=λV' h=>by
  cases e with
  | breaks z'=>obtain⟨j,d,a1,a2,a3,a4⟩:=eo;obtain⟨d',b1,b2⟩:=h.at_ a2;exact⟨j,d',by rw[h.nz];exact a1,b1,a3,by rw[show d'.ms=d.ms from show d'.bare.ms=d.bare.ms by rw[b2]];exact a4⟩
  | rings _ _=>exact eo
  | _=>trivial
 generalize qF V (rB i Db st)=V2 at c2 X8 same q;have Yj:∀(M3:Mp) (A3:tq) (V3:qo),uw a M0 M3 b A3 V3 l c (n+2*st.length+1)->qR A M A3 M3->tW V V3->i<V3.calls.length->V3=qF V2 (uo i st e)->JK a [.ref b,.int ((i:Nat):Int),e.d] M3 λ_ M'=>∃Xg,qr Xg M'/\Q .mG Xg:=λM3 A3 V3 c3 s3 Yk hi3 e3=>⟨M0,b,A3,V3,l,c,_,i,e,rfl,c3,hc,by omega,hi3,ZP V3 Yk,λM4 A4 c4 s4=>⟨M4,.refl,q M4 A4 (by
  rw[<-e3];rw[hee V3 Yk]at c4;exact c4.mono (c9 _) (by omega)) (s3.trans s4)⟩⟩
 have c2':=c2.mono (c9 c) (show n+2*st.length<=n+2*st.length+1 by omega);have Yy:=(qR.sub s1 (A:=A)).trans Xk;cases e with
 | ring ns=>
  obtain⟨x,Zm,rfl⟩:=fZ (show ns≠[]from re);refine pk ZX ?_;cases hl:st.getLast? with
  | none=>have:st=[]:=gC.mp hl;subst this;exact Yj M2 A2 V2 c2' Yy same X8 rfl
  | some s0=>
   have Y4:0<st.length:=by cases st with|nil=>cases hl|cons _ _=>exact mq _
   have hd:decide ((0:Int)<((qN st).length:Int))=pc:=dP (by unfold qN;rw[cO];omega);refine AM (c:=decide ((0:Int)<((qN st).length:Int))) hd ?_;have hat1:wB (qN st) (-1)=Fa (.tup [.str s0.1,vF s0.2]):=by
    unfold wB;have e1:Gn (qN st).length (-1)=Fa (st.length - 1):=by unfold qN;rw[cO];unfold Gn;simp;omega
    rw[e1];show(qN st)[st.length - 1]?=_;unfold qN;rw[df,<-jp,hl];rfl
   have hrv:uo i st (.ring (x::Zm))=[.leg ⟨i,s0.1,x,s0.1⟩]:=by unfold uo;dsimp only;rw[hl];rfl
   rw[hrv]at Yj;refine pk ZX (pk hat1 ?_);refine pA c2.at_ ⟨rfl,_,⟨rfl,rfl⟩,pk (xP _ _) ⟨pb rfl,b,A2,V2,.leg ⟨i,s0.1,x,s0.1⟩,rfl,c2.b,c2.bd,c2.lim hc (by omega),X8,λM3 A3 eb X9 bd3=>?_⟩⟩;have Yk:=same.trans (ze V2 ⟨i,s0.1,x,s0.1⟩);exact Yj M3 A3 _ (c2.after (e:=.leg ⟨i,s0.1,x,s0.1⟩) X8 eb X9 bd3) (Yy.trans X9) Yk (by rw[Yk.len];exact hi) rfl
 | rings z' ps=>exact Yj M2 A2 V2 c2' Yy same X8 rfl
 | waits z'=>exact Yj M2 A2 V2 c2' Yy same X8 rfl
 | breaks z'=>exact Yj M2 A2 V2 c2' Yy same X8 rfl
 | engaged z'=>exact Yj M2 A2 V2 c2' Yy same X8 rfl
 | barred=>exact Yj M2 A2 V2 c2' Yy same X8 rfl
def LV:Fq P w K mg base 10 a.a7 (Ng a):=by
 refine fq G.a7.toDG zi (λr u=>⟨_,(pq (pO 3 zi (pU qy rfl G.g qv (qm (pE v0))))
 (pq (pQ (pZ v0 G.c.toCls G.k (qZ G) r (qm (pP (rb pC U3 U1)))))
 (pq (pQ (pZ v0 G.c.toCls G.k (qZ G) r (qm (pP (pX pC (pX U3 (rb U1 U2 U1)))))))
 (pz (pQ (pJ (JF G) r G.ag (sf v0 U3))))))),?_⟩)
 rintro ds M Q ⟨M0,b,A,V,l,c,n,y,z,rfl,cu,hc,hn,wf,q⟩
 have lc:((A.cs.map λk=>D.ref k.p).length:Int)=(V.calls.length:Nat):=by rw[cO,cu.bd.len]
 refine pA cu.at_ (pk rfl (pk cu.bd.ca ?_));rw[lc];refine pA cu.at_ ⟨rfl,_,⟨rfl,rfl⟩,pb rfl,b,A,V,.new V.calls.length y,rfl,cu.b,cu.bd,cu.lim (by omega) (by omega),trivial,λM1 A1 eb1 XU bd1=>?_⟩;have c1:=cu.after (e:=.new V.calls.length y) trivial eb1 XU bd1;have ok2:(Ev.leg ⟨V.calls.length,y,z,y⟩).ok (qb V (.new V.calls.length y)):=by show V.calls.length<(V.calls++[zO y]).length;rw[cR];exact fB _
 refine pA c1.at_ ⟨rfl,_,⟨rfl,rfl⟩,pb rfl,b,A1,_,.leg ⟨V.calls.length,y,z,y⟩,rfl,c1.b,c1.bd,c1.lim (by show c+1<=_;omega) (by omega),ok2,λM2 A2 ZY Xk YK=>?_⟩;have c2:=c1.after ok2 ZY Xk YK;obtain⟨k,hk⟩:∃k,(qF V [.new V.calls.length y,.leg ⟨V.calls.length,y,z,y⟩]).calls[V.calls.length]?=Fa k:=by
  have:V.calls.length<(qF V [.new V.calls.length y,.leg ⟨V.calls.length,y,z,y⟩]).calls.length:=by show V.calls.length<((V.calls++[zO y]).modify _ _).length;rw[gc];exact ok2
  exact⟨_,cQ this⟩
 refine⟨M0,b,A2,_,l,c+1,n+2,V.calls.length,k,rfl,c2,by omega,by omega,wf,hk,λM3 A3 c3 X9=>⟨M3,.refl,q M3 A3 ?_ (XU.trans (Xk.trans X9))⟩⟩;unfold EQ;rw[rO];exact c3.mono (c9 _) (by omega)
noncomputable def En(V:qo)(x:Str):D:=CT (uN V x)
abbrev DM:=Kw En
def Lj(a:Ad):rm:=λds M Q=>Hi λA V l x z=>ds=[.ref A.b,.str x,.str z]/\Rd a M A V l/\x∈l.pn/\Q (CT (Gu l V x z)) M
inductive vO(a:Ad)(M:Mp)(L:QXQ):List rE->List pD->Prop
 | nil:vO a M L [] []
 | cons (k:rE) (c:pD) (ks:List rE) (cs:List pD) (h:rR a M L k c) (r:vO a M L ks cs):vO a M L (k::ks) (c::cs)
def tR.nf(w:Str)(m:Nat):Prop:=((w="answer"\/w="hang"\/w="hold"\/w="back")/\m=1)\/((w="hand"\/w="join")/\m=2)
def LD(a:Ad):rm:=λds M Q=>KR λwd x r L ks cs=>ds=[.str wd,.str x,.ref r]/\oX M r=Fa (List.map (λk:rE=>D.ref k.p) ks)/\vO a M L ks cs/\tR.nf wd cs.length/\Q (.bl (II wd x cs)) M
def Jd(a:Ad):rm:=λds M Q=>KR λA V l wd x ns=>ds=[.ref A.b,.str wd,.str x,.tup (List.map D.int ns)]/\Rd a M A V l/\x∈l.pn/\tR.nf wd ns.length/\Q (CT (Nb l V wd x ns)) M
def SO(a:Ad):rm:=λds M Q=>CS λA V b i=>ds=[.ref A.b,.str (UE b),.int i]/\pM a M A V/\Q (CT (Qm V b i)) M
def HN(a:Ad):rm:=λds M Q=>CS λA V l e=>ds=[.ref A.b,tR.d e]/\Rd a M A V l/\e.nv/\Q (CT (wU l V e)) M
noncomputable def WC(m:Nat):D->D
 | .int i=>.bl (zK m i)
 | _=>.bl lf
noncomputable def WL(A:tq):D->D
 | .int i=>(A.cs[i.toNat]?).elim .mG λk=>.ref k.p
 | _=>.mG
theorem QI{V:qo}(bd:pM a M A V):∀{ns:T0 Int},ns.all (zK V.calls.length)=pc->∃ks,vO a M (A.lists++V.fo) ks (tS V ns)/\(ns.map D.int).map (WL A)=ks.map (λk:rE=>D.ref k.p)/\(tS V ns).length=ns.length/\∀i∈ns,∃k,0<=i/\A.cs[i.toNat]?=Fa k
 | [],_=>⟨[],.nil,rfl,rfl,λi hi=>by cases hi⟩
 | i::r,h=>by
  rw[eR,dO]at h;obtain⟨ks,h1,h2,h3,h4⟩:=QI bd h.2;have hh:(decide (0<=i)&&decide (i<V.calls.length))=pc:=h.1;rw[dO,dX,dX]at hh;have hi:i.toNat<V.calls.length:=by omega
  have hk:i.toNat<A.cs.length:=by rw[bd.len];exact hi
  have e1:A.cs[i.toNat]?=Fa A.cs[i.toNat]:=cQ hk;have e2:V.calls[i.toNat]?=Fa V.calls[i.toNat]:=cQ hi;have ec:tS V (i::r)=V.calls[i.toNat]::tS V r:=by unfold tS;rw[List.filterMap_cons_some (f:=λi:Int=>V.calls[i.toNat]?) e2]
  rw[ec];refine⟨A.cs[i.toNat]::ks,.cons _ _ _ _ (bd.cs _ _ _ e1 e2) h1,?_,eE Nat.succ h3,λj hj=>?_⟩
  .rw[dN,dN,h2];show(A.cs[i.toNat]?).elim _ _::_=_;rw[e1];rfl
  .rcases cW.mp hj with rfl|hj
   .exact⟨_,hh.1,e1⟩
   .exact h4 j hj
def vO.sub(h:vO a M L ks cs)(s:qr M M'):vO a M' L ks cs:=by
 induction h with
 | nil=>exact .nil
 | cons k c ks cs h r ih=>exact .cons k c ks cs (h.sub s) ih
def RJ{bs:T0 Bool}{i:Int}(h:zK bs.length i=pc):wB (bs.map D.bl) i=Fa (.bl (bs.getD i.toNat lf)):=by
 have hh:(decide (0<=i)&&decide (i<bs.length))=pc:=h;rw[dO,dX,dX]at hh;obtain⟨n,rfl⟩:=d6 hh.1;have hn:n<bs.length:=by omega
 refine uE ?_;rw[df,cQ hn];show Fa (D.bl bs[n])=Fa (.bl (bs.getD n lf));rw[eO,cQ hn];rfl
def Eb:Fq P w K mg base 4 a.af (DM a):=by
 refine fq G.af.toDG yS (λr u=>⟨_,(pq (pT (pK u (pZ v0 G.c.toCls G.bF (Lg G) r (qm U1)) sG)
 (pz (pG pC))
 pN)
 (pq (pT (pK u (pZ v0 G.c.toCls G.bG (Iy G) r (qm U1)) sG)
 (pz (pG pC))
 pN)
 (pz (pG sG)))),?_⟩)
 rintro ds M Q ⟨A,V,x,rfl,bd,hk,q⟩
 unfold En uN at q;refine pA bd.at_ ⟨rfl,_,⟨rfl,rfl⟩,A,V,x,rfl,bd,hk,?_⟩;unfold LA;cases e:ET V x with
 | some j=>rw[e]at q;exact⟨M,.refl,q⟩
 | none=>
  rw[e]at q;refine pA bd.at_ ⟨rfl,_,⟨rfl,rfl⟩,A,V,x,rfl,bd,hk,?_⟩;unfold Ur;cases e:Jq V x with
  | some j=>rw[e]at q;exact⟨M,.refl,q⟩
  | none=>rw[e]at q;exact⟨M,.refl,q⟩
def Nu:Fq P w K mg base 5 a.aY (Lj a):=by
 refine fq G.aY.toDG wu (λr u=>⟨_,(pq (pT (pK u U2 (yq (pE v0) G.h.toCls G.bw (Di G) r))
 (pz (pG pC))
 pN)
 (pq (pO 3 wu (pJ (Eb G) r G.af (sf v0 U1)))
 (pq (pT (W3.b3 (yG (pK u U3 sG) (yt (xc (uM (pZ v0 G.c.toCls G.V (yO G) r (qm U1)))))))
 (pz (pG pC))
 pN)
 (pz (pG U3))))),?_⟩)
 rintro ds M Q ⟨A,V,l,x,z,rfl,rd,hx,q⟩
 obtain⟨ph,gr,ws,YJ,pr,gd,rs,i1,_⟩:=rd.pl;have p8:=rd.ok.p8;have g3:=rd.ok.g3;unfold Gu at q;refine pA rd.bd.at_ (pk rfl (pA i1 ⟨rfl,_,⟨rfl,rfl⟩,V.p,l,rfl,rd.pl,by omega,by omega,λp hp=>pk pH ⟨rfl,qA _,?_⟩⟩));have t:=qr.new (c:=.lst (l.nm.map D.str)) hp;have XH:=rd.sub t;generalize pI M p (.lst (l.nm.map D.str))=M1 at t XH ⊢;show if (!(inD (.str z) (l.nm.map D.str)))=pc then _ else _
 rw[sJ];refine qK (c:=!(hasS l.nm z)) (λg=>?_) (λg=>?_)
 .rw[cV (by simpa using g)]at q;exact⟨M,t,q⟩
 rw[cS (by simpa using g)]at q;refine⟨A,V,x,rfl,XH.bd,XH.k,?_⟩;unfold En;cases e:uN V x with
 | some w0=>rw[e]at q;exact⟨M,t,q⟩
 | none=>
  rw[e]at q;refine pA XH.bd.at_ ⟨rfl,_,⟨rfl,rfl⟩,A,V,l,x,rfl,XH,hx,?_⟩;refine qK (c:=!(uf l V x)) (λg=>?_) (λg=>?_)
  .rw[g]at q;exact⟨M,t,q⟩
  .rw[show(!(uf l V x))=lf from dE.mpr g]at q;exact⟨M,t,q⟩
def Nc:Fq P w K mg base 3 a.aZ (LD a):=by
 refine fq G.aZ.toDG LJ (λr u=>⟨_,(pq (pT (pK u v0 pC)
 (pz (pG (qh u U1 (pE (pL U2 pB)))))
 pN)
 (pq (pT (pK u v0 pC)
 (pz (pG (pZ (pL U2 pB) G.e.toCls G.bJ (Le G) r (qm U1))))
 pN)
 (pq (pT (pK u v0 pC)
 (pz (pG (pZ (pL U2 pB) G.e.toCls G.aL (FX G) r (qm U1))))
 pN)
 (pq (pT (pK u v0 pC)
 (pz (pG (qh u (pE (pL U2 pB)) U1)))
 pN)
 (pz (pG (sV (qh u (pE (pL U2 pB)) U1) (sj (pZ (pL U2 pB) G.e.toCls G.aL (FX G) r (qm U1)))))))))),?_⟩)
 rintro ds M Q ⟨wd,x,r,L,ks,cs,rfl,lr,ZJ,hw,q⟩
 cases ZJ with
 | nil=>rcases hw with⟨_,h⟩|⟨_,h⟩<;>cases h
 | cons k c ks cs hc XZ=>
 obtain⟨ad,md,h1,h2,h3,h4,_⟩:=id hc;have a0:=xP (.ref k.p) (ks.map λk:rE=>D.ref k.p);have hold:∀K:DK,K (.bl (c.hd==Fa x)) M->Option.elim (zc M 9 (CT c.hd) (.str x)) False λb=>K (.bl b) M:=λK hK=>by
  cases e:c.hd with
  | none=>rw[e]at hK;exact hK
  | some y=>rw[e]at hK;exact hK
 rcases hw with⟨rfl|rfl|rfl|rfl,h⟩|⟨hw,h⟩
 .exact pk lr (pk a0 (pA h1 (pk rfl (Ec h3 ⟨M,.refl,q⟩))))
 .exact pk lr (pk a0 (pA h1 ⟨rfl,_,⟨rfl,rfl⟩,L,k,c,x,rfl,hc,M,.refl,q⟩))
 .exact pk lr (pk a0 (pA h1 ⟨rfl,_,⟨rfl,rfl⟩,L,k,c,x,rfl,hc,M,.refl,q⟩))
 .exact pk lr (pk a0 (pA h1 (pk rfl (hold _ ⟨M,.refl,q⟩))))
 .cases XZ with
  | nil=>cases h
  | cons k' d ks cs hd _=>
   obtain⟨ad',md',f1,_⟩:=id hd;have a1:wB (.ref k.p::.ref k'.p::ks.map λk:rE=>D.ref k.p) 1=Fa (.ref k'.p):=uE (j:=1) rfl;have qq:Q (.bl ((c.hd==Fa x)&&d.mQ x)) M:=by
    rcases hw with rfl|rfl
    .exact q
    .exact q
   rcases hw with rfl|rfl
   all_goals
    refine pk lr (pk a0 (pA h1 (pk rfl ?_)));cases e:c.hd with
    | none=>rw[e]at qq;exact⟨M,.refl,qq⟩
    | some y=>
     rw[e]at qq;have qq:Q (.bl ((y==x)&&d.mQ x)) M:=qq;refine qK (c:=y==x) (λg=>?_) (λg=>?_)
     .rw[g,eD]at qq;exact pk lr (pk a1 (pA f1 ⟨rfl,_,⟨rfl,rfl⟩,L,k',d,x,rfl,hd,M,.refl,qq⟩))
     .rw[show(y==x)=lf from dE.mpr g,eL]at qq;exact⟨M,.refl,qq⟩
def P8:Fq P w K mg base 5 a.a0 (Jd a):=by
 refine fq G.a0.toDG ub (λr u=>⟨_,(pq (pT (xc (uM (pU (E1 rfl) rfl G.bN Fs (qm (qG rfl (xn (ix:=[Db,Fa 0]) (N':=["number","board"])) (qH U3) (qx 0) rH (uA u pB v0 (pU qy rfl G.g qv (qm (pE U1)))))))))
 (pz (pG pC))
 pN)
 (pq (ur (i:=4) ub.nd rfl (Or.inl rfl) rfl (xn (ix:=[Db,Fa 0]) (N':=["number","board"])) (qH U3) (qx 0) rH (pL (pE U1) v0))
 (pq (pT (xc (uM (pJ (Nc G) r G.aZ (rb U1 U2 v4))))
 (pz (pG pC))
 pN)
 (pq (pT (pK u U1 (pP (sf pC pC)))
 (pz (pG sG))
 pN)
 (pq (pO 5 ub (pJ (Eb G) r G.af (sf v0 U2)))
 (pq (pT (W3.b3 (yG (pK u v5 sG) (yG (uM (pZ (pL v4 pB) G.e.toCls G.aH (Gb G) r (qm U2))) (yt (xc (uM (pZ v0 G.c.toCls G.V (yO G) r (qm U2))))))))
 (pz (pG pC))
 pN)
 (pz (pG v5)))))))),?_⟩)
 rintro ds M Q ⟨A,V,l,wd,x,ns,rfl,rd,hx,hw,q⟩
 have hz:=dF;have ZZ:ns.length<=2:=by rcases hw with⟨_,h⟩|⟨_,h⟩<;>omega
 have lca:((A.cs.map λk=>D.ref k.p).length:Int)=V.calls.length:=by rw[cO,rd.bd.len]
 unfold Nb at q;refine ra (f:=WC V.calls.length) trivial _ [] _ (by rw[cO];simp only[dB];omega) (λd hd k hk=>?_) λp hp=>?_
 .obtain⟨i,_,rfl⟩:=dq.mp hd;have hk:k (.bl (decide (0<=i)&&decide (i<V.calls.length))) M:=hk;refine qK (c:=decide (0<=i)) (λg=>?_) (λg=>?_)
  .rw[g,eD]at hk;refine pA rd.bd.at_ (pk rfl (pk rd.bd.ca ?_));rw[lca];exact hk
  .rw[show decide (0<=i)=lf from dE.mpr g,eL]at hk;exact hk
 have em:[]++(ns.map D.int).map (WC V.calls.length)=ns.map λi=>D.bl (zK V.calls.length i):=by rw[dQ,dS];rfl
 rw[em];have t:=qr.new (c:=.lst (ns.map λi=>D.bl (zK V.calls.length i))) hp;refine pk pH (pk (yo (zK V.calls.length) ns) ?_);have XH:=rd.sub t;generalize pI M p (.lst (ns.map λi=>D.bl (zK V.calls.length i)))=M1 at t XH ⊢;rw[zF];refine qK (c:=!(ns.all (zK V.calls.length))) (λg=>?_) (λYg=>?_)
 .rw[cV (by simpa using g)]at q;exact⟨M,t,q⟩
 have Yg:ns.all (zK V.calls.length)=pc:=by simpa using Yg
 rw[cS (by rw[Yg];exact Bool.noConfusion)]at q;obtain⟨ks,hks,eks,lcs,Zc⟩:=QI XH.bd Yg;refine ra (f:=WL A) trivial _ [] _ (by rw[cO];simp only[dB];omega) (λd hd k0 hk=>?_) λp2 Xn=>?_
 .obtain⟨i,hi,rfl⟩:=dq.mp hd;obtain⟨k,i0,e1⟩:=Zc i hi;obtain⟨n,rfl⟩:=d6 i0;have e1:A.cs[n]?=Fa k:=e1;have hk:k0 ((A.cs[n]?).elim .mG λk=>.ref k.p) M1:=hk;rw[e1]at hk;exact pA XH.bd.at_ (pk rfl (pk rfl (pk XH.bd.ca (pk (rq e1) hk))))
 rw[dQ,eks];have t2:=qr.new (c:=.lst (ks.map λk:rE=>D.ref k.p)) Xn;have l2:=@pH M1 p2 (ks.map λk:rE=>D.ref k.p);have YD:=XH.sub t2;have s2:=t.trans t2;generalize pI M1 p2 (.lst (ks.map λk:rE=>D.ref k.p))=M2 at l2 YD s2 t2 ⊢;have hks:=hks.sub t2;generalize tS V ns=cs at hks lcs q;refine⟨wd,x,p2,_,ks,cs,rfl,l2,hks,by rw[lcs];exact hw,?_⟩;refine qK (c:=!II wd x cs) (λg=>?_) (λg=>?_)
 .rw[cV (by simpa using g)]at q;exact⟨M,s2,q⟩
 rw[cS (by simpa using g)]at q;have two:∀wd:Str,(wd=="answer"||wd=="back")=pc->Q (CT (if ((uN V x).isNone&&(cs.head?.elim lf (λc=>c.mH x)&&!(uf l V x)))=pc then Fa "full" else uN V x)) M->cs.length=1->DM a [.ref A.b,.str x] M2 λdue M3=>uL (Ma (OR (b3 (k3 .Is (v3 5) (c3 .mG))) (OR (b3 (AF "waits_with" (λD s=>D=a.e/\s=vR a) (i3 (v3 4) (c3 (.int 0))) (vA (v3 2) xx))) (Ud (b3 (AF "is_free" (λD s=>D=a.c/\s=xm a) (v3 0) (vA (v3 2) xx)))))) (RV (c3 (.str "full"))) WM) (RV (v3 5)) {nx:=λ_ M'=>∃Xg,qr Xg M'/\Q .mG Xg,rt:=λd M'=>∃Xg,qr Xg M'/\Q d Xg} [Fa (.ref A.b),Fa (.str wd),Fa (.str x),Fa (.tup (ns.map D.int)),Fa (.ref p2),Fa due] M3:=λwd _ q hl=>by
  cases hks with
  | nil=>cases hl
  | cons k c ks cs hc _=>
  have q:Q (CT (if ((uN V x).isNone&&(c.mH x&&!(uf l V x)))=pc then Fa "full" else uN V x)) M:=q;obtain⟨ad,md,h1,_⟩:=id hc;refine⟨A,V,x,rfl,YD.bd,YD.k,?_⟩;unfold En;cases e:uN V x with
  | some w0=>rw[e]at q;exact⟨M,s2,q⟩
  | none=>
   rw[e]at q;refine pk l2 (pk (xP _ _) (pA h1 ⟨rfl,_,⟨rfl,rfl⟩,_,k,c,x,rfl,hc,?_⟩));refine qK (c:=c.mH x) (λg1=>?_) (λg1=>?_)
   .rw[g1]at q;refine pA YD.bd.at_ ⟨rfl,_,⟨rfl,rfl⟩,A,V,l,x,rfl,YD,hx,?_⟩;refine qK (c:=!(uf l V x)) (λg=>?_) (λg=>?_)
    .rw[g]at q;exact⟨M,s2,q⟩
    .rw[show(!(uf l V x))=lf from dE.mpr g]at q;exact⟨M,s2,q⟩
   .rw[show c.mH x=lf from dE.mpr g1]at q;exact⟨M,s2,q⟩
 rcases hw with⟨rfl|rfl|rfl|rfl,h⟩|⟨rfl|rfl,h⟩
 .exact⟨pb rfl,rfl,rfl,two "answer" rfl q (lcs.trans h)⟩
 .exact⟨pb rfl,rfl,rfl,M,s2,q⟩
 .exact⟨pb rfl,rfl,rfl,M,s2,q⟩
 .exact⟨pb rfl,rfl,rfl,two "back" rfl q (lcs.trans h)⟩
 .exact⟨pb rfl,rfl,rfl,M,s2,q⟩
 .exact⟨pb rfl,rfl,rfl,M,s2,q⟩
def SD:Fq P w K mg base 1 a.a1 (SO a):=by
 refine fq G.a1.toDG y9 (λr u=>⟨_,(pq (pT (xc (F5 u pB U2 (pU qy rfl G.g qv (qm (pE v0)))))
 (pz (pG pC))
 pN)
 (pq (pT (pK u (pL (pE v0) U2) (qh u U1 pC))
 (pz (pG pC))
 pN)
 (pz (pG sG)))),?_⟩)
 rintro ds M Q ⟨A,V,b,i,rfl,bd,q⟩
 unfold Qm at q;have Zc:zK V.on.length i=(decide (0<=i)&&decide (i<V.on.length)):=rfl;have lon:((V.on.map D.bl).length:Int)=V.on.length:=by rw[cO]
 have no:zK V.on.length i=lf->Q (.str "wish") M:=λh=>by rw[cV h]at q;exact q
 have yes:zK V.on.length i=pc->Q (CT (if (V.on.getD i.toNat lf==b)=pc then Fa "wish" else Db)) M:=λh=>by rw[h,cS Bool.noConfusion]at q;exact q
 refine qK (c:=decide (0<=i)) (λg0=>?_) (λg0=>⟨M,.refl,no (by rw[Zc,show decide (0<=i)=lf from dE.mpr g0];rfl)⟩);refine pA bd.at_ (pk rfl (pk bd.on ?_));rw[lon];refine qK (c:=!(decide (i<(V.on.length:Int)))) (λg1=>⟨M,.refl,no (by rw[Zc,g0,show decide (i<(V.on.length:Int))=lf by simpa using g1];rfl)⟩) (λg1=>?_);have h:zK V.on.length i=pc:=by rw[Zc,g0,show decide (i<(V.on.length:Int))=pc by simpa using g1];rfl
 have q:=yes h;refine pA bd.at_ (pk rfl (pk rfl (pk bd.on (pk (RJ h) ?_))));have es:(UE b=="on")=b:=by cases b<;>rfl
 show if (V.on.getD i.toNat lf==(UE b=="on"))=pc then _ else _
 rw[es];refine qK (λg=>?_) (λg=>?_)
 .rw[cV g]at q;exact⟨M,.refl,q⟩
 .rw[cS g]at q;exact⟨M,.refl,q⟩
def HF:Fq P w K mg base 6 a.a2 (HN a):=by
 refine fq G.a2.toDG Cv (λr u=>⟨_,(pq (pO 2 Cv (pL U1 pB))
 (pq (pT (pK u U2 pC)
 (pz (pG sG))
 pN)
 (pq (pT (pK u U2 (pP (sf pC pC)))
 (pz (pG (pJ (SD G) r G.a1 (rb v0 U2 (pL U1 pB)))))
 pN)
 (pq (pT (pK u (pL U1 pB) (yq (pE v0) G.h.toCls G.U (ua G) r))
 (pz (pG pC))
 pN)
 (pq (pT (pK u U2 pC)
 (pz (pG (pJ (Nu G) r G.aY (rb v0 (pL U1 pB) (pL U1 pB)))))
 pN)
 (pz (pG (pJ (P8 G) r G.a0 (pX v0 (rb U2 (pL U1 pB) (rP U1 (sO pB) sR))))))))))),?_⟩)
 rintro ds M Q ⟨A,V,l,e,rfl,rd,hf,q⟩
 obtain⟨ph,gr,ws,YJ,pr,gd,rs,i1,_⟩:=rd.pl;have p8:=rd.ok.p8;cases e with
 | turn=>exact⟨M,.refl,q⟩
 | sw b i=>
  cases b with
  | true=>exact⟨pb rfl,rfl,rfl,A,V,pc,i,rfl,rd.bd,M,.refl,q⟩
  | false=>exact⟨pb rfl,rfl,rfl,A,V,lf,i,rfl,rd.bd,M,.refl,q⟩
 | call x z=>
  have q:Q (CT (if hasS l.pn x=lf then Fa "name" else Gu l V x z)) M:=q;refine⟨pb rfl,rfl,rfl,?_⟩;refine pA rd.bd.at_ (pk rfl (pA i1 ⟨rfl,_,⟨rfl,rfl⟩,V.p,l,rfl,rd.pl,by omega,λp Xn=>pk pH ⟨rfl,qA _,?_⟩⟩));have t:=qr.new (c:=.lst (l.pn.map D.str)) Xn;have XH:=rd.sub t;generalize pI M p (.lst (l.pn.map D.str))=M1 at t XH ⊢;show if (!(inD (.str x) (l.pn.map D.str)))=pc then _ else _
  rw[sJ];refine qK (c:=!(hasS l.pn x)) (λg=>?_) (λg=>?_)
  .rw[cV (by simpa using g)]at q;exact⟨M,t,q⟩
  .have g:hasS l.pn x=pc:=by simpa using g
   rw[g,cS Bool.noConfusion]at q;exact⟨A,V,l,x,z,rfl,XH,qU.mp g,M,t,q⟩
 | num wd x ns=>
  have q:Q (CT (if hasS l.pn x=lf then Fa "name" else Nb l V wd x ns)) M:=q;have hf:tR.nf wd ns.length:=hf;have key:∀(M1:Mp),qr M M1->if (!(inD (.str x) (l.pn.map D.str)))=pc then(∃Xg,qr Xg M1/\Q (.str "name") Xg)else Jd a [.ref A.b,.str wd,.str x,.tup (ns.map D.int)] M1 λd M'=>∃Xg,qr Xg M'/\Q d Xg:=λM1 t=>by
   rw[sJ];refine qK (c:=!(hasS l.pn x)) (λg=>?_) (λg=>?_)
   .rw[cV (by simpa using g)]at q;exact⟨M,t,q⟩
   .have g:hasS l.pn x=pc:=by simpa using g
    rw[g,cS Bool.noConfusion]at q;exact⟨A,V,l,wd,x,ns,rfl,rd.sub t,qU.mp g,hf,M,t,q⟩
  have one:ns.length=1->∃i,ns=[i]:=List.length_eq_one_iff.mp;have two:ns.length=2->∃i j,ns=[i,j]:=λh=>by
   match ns,h with
   | [i,j],_=>exact⟨i,j,rfl⟩
  rcases id hf with⟨rfl|rfl|rfl|rfl,h⟩|⟨rfl|rfl,h⟩
  .obtain⟨i,rfl⟩:=one h;exact⟨pb rfl,rfl,rfl,pA rd.bd.at_ (pk rfl (pA i1 ⟨rfl,_,⟨rfl,rfl⟩,V.p,l,rfl,rd.pl,by omega,λp Xn=>pk pH ⟨rfl,qA _,key _ (.new Xn)⟩⟩))⟩
  .obtain⟨i,rfl⟩:=one h;exact⟨pb rfl,rfl,rfl,pA rd.bd.at_ (pk rfl (pA i1 ⟨rfl,_,⟨rfl,rfl⟩,V.p,l,rfl,rd.pl,by omega,λp Xn=>pk pH ⟨rfl,qA _,key _ (.new Xn)⟩⟩))⟩
  .obtain⟨i,rfl⟩:=one h;exact⟨pb rfl,rfl,rfl,pA rd.bd.at_ (pk rfl (pA i1 ⟨rfl,_,⟨rfl,rfl⟩,V.p,l,rfl,rd.pl,by omega,λp Xn=>pk pH ⟨rfl,qA _,key _ (.new Xn)⟩⟩))⟩
  .obtain⟨i,rfl⟩:=one h;exact⟨pb rfl,rfl,rfl,pA rd.bd.at_ (pk rfl (pA i1 ⟨rfl,_,⟨rfl,rfl⟩,V.p,l,rfl,rd.pl,by omega,λp Xn=>pk pH ⟨rfl,qA _,key _ (.new Xn)⟩⟩))⟩
  .obtain⟨i,j,rfl⟩:=two h;exact⟨pb rfl,rfl,rfl,pA rd.bd.at_ (pk rfl (pA i1 ⟨rfl,_,⟨rfl,rfl⟩,V.p,l,rfl,rd.pl,by omega,λp Xn=>pk pH ⟨rfl,qA _,key _ (.new Xn)⟩⟩))⟩
  .obtain⟨i,j,rfl⟩:=two h;exact⟨pb rfl,rfl,rfl,pA rd.bd.at_ (pk rfl (pA i1 ⟨rfl,_,⟨rfl,rfl⟩,V.p,l,rfl,rd.pl,by omega,λp Xn=>pk pH ⟨rfl,qA _,key _ (.new Xn)⟩⟩))⟩
def Ds(V:qo)(x:Str):Prop:=∀c∈V.calls,¬Bj c x
def Et{V:qo}(h:uN V x=Db):Ds V x:=by
 unfold uN at h;cases e1:ET V x with
 | some j=>rw[e1]at h;cases h
 | none=>
  cases e2:Jq V x with
  | some j=>rw[e1,e2]at h;cases h
  | none=>
   intro c hc g;have h1:=jq.mp e1 c hc;have h2:=jq.mp e2 c hc;rcases g with g|g
   .rw[h1]at g;cases g
   .rw[h2]at g;cases g
def sU{c:pD}(h:c.st="rings"){x:Str}:Bj c x↔x=c.cr:=by unfold Bj pD.mW pD.mM pD.mO;rw[h];simp(decide:=true)
def DW{c:pD}(h:c.st="waits"){x:Str}:Bj c x↔x=c.cr:=by unfold Bj pD.mW pD.mM pD.mO;rw[h];simp(decide:=true)
def tU{c:pD}(h:c.st="talks"){x:Str}:Bj c x↔x∈c.ms:=by unfold Bj pD.mW pD.mM pD.mO;rw[h,<-qU];simp(decide:=true)
def Cp{c:pD}(h:c.st="held"){x:Str}:Bj c x↔x∈c.ms/\c.hd≠Fa x:=by unfold Bj pD.mW pD.mM;rw[h,<-qU];simp(decide:=true)
def GW{c:pD}(h:c.st="over"){x:Str}:¬Bj c x:=by unfold Bj pD.mW pD.mM pD.mO;rw[h];simp(decide:=true)
def sY{c:pD}(h:c.st="rings"){x:Str}:c.hasB x=pc↔x=c.cr\/x∈c.at_:=by unfold pD.hasB;rw[h,<-qU];simp(decide:=true)
def Ed{c:pD}(h:c.st="waits"){x:Str}:c.hasB x=pc↔x=c.cr:=by unfold pD.hasB;rw[h];simp(decide:=true)
def tF{c:pD}(h:c.st="talks"\/c.st="held"){x:Str}:c.hasB x=pc↔x∈c.ms:=by unfold pD.hasB;rw[<-qU];rcases h with h|h<;>(rw[h];simp(decide:=true))
def GZ{c:pD}(h:c.st="over"){x:Str}:c.hasB x=lf:=by unfold pD.hasB;rw[h];simp(decide:=true)
def sA{c:pD}{x:Str}:c.mH x=pc↔c.st="waits"/\x∈c.at_:=by unfold pD.mH;rw[dO,eW,qU]
theorem EC{α:Type}(f:α->Bool):∀{l:List α} {i:Nat} {c:α} (c':α),l[i]?=Fa c->((l.set i c').filter f).length+(if f c=pc then 1 else 0)=(l.filter f).length+(if f c'=pc then 1 else 0)
 | [],_,_,_,h=>by simp at h
 | x::r,0,c,c',h=>by cases h;rw[List.set_cons_zero,gb,gb];split<;>split<;>simp
 | x::r,i+1,c,c',h=>by
  have ih:=EC f (l:=r) (i:=i) (c:=c) c' (by simpa using h);rw[kS,gb,gb];split
  .rw[dU,dU];omega
  .exact ih
def zT.set{V V':qo}{o o':Option Nat}{i:Nat}{c c':pD}(h:zT l V o)(e:V'.calls=V.calls.set i c')(hc:V.calls[i]?=Fa c)(ho:∀j,j≠i->(o==Fa j)=(o'==Fa j))(ok:vZ l (o'==Fa i) c')(he:∀x,Bj c' x->Bj c x\/Ds V x)(hu:∀x,c'.hasB x=pc->c.hasB x=pc\/(vi V x:Int)<wQ l x)(hw:∀x,c'.mH x=pc->c.mH x=pc\/AE V x=lf)(nx:uG l V'):zT l V' o':=by
 have si:∀{j:Nat} {d:pD},V'.calls[j]?=Fa d->(j=i/\d=c')\/(j≠i/\V.calls[j]?=Fa d):=λ{j d} g=>by rw[e]at g;exact(Eg g).imp (λg=>⟨g.1,g.2.1⟩) id
 have key:∀(j:Nat) cj x,j≠i->V.calls[j]?=Fa cj->Bj c' x->Bj cj x->False:=λj cj x hj e1 g1 g2=>by
  rcases he x g1 with z|z
  .exact hj (h.un j i cj c x e1 hc g2 z)
  .exact z cj (qJ e1) g2
 have keyw:∀(j:Nat) cj x,j≠i->V.calls[j]?=Fa cj->c'.mH x=pc->cj.mH x=pc->False:=λj cj x hj e1 g1 g2=>by
  rcases hw x g1 with z|z
  .exact hj (h.wt j i cj c x e1 hc g2 z)
  .unfold AE at z;exact absurd g2 (by rw[kU.mp z cj (qJ e1)|>dE.mpr];exact Bool.noConfusion)
 refine⟨λj d g=>?_,λm n cm cn x e1 e2 g1 g2=>?_,λx hx=>?_,λm n cm cn x e1 e2 g1 g2=>?_,nx⟩
 .rcases si g with⟨rfl,rfl⟩|⟨hj,g⟩
  .exact ok
  .rw[<-ho j hj];exact h.ok j d g
 .rcases si e1 with⟨rfl,rfl⟩|⟨hm,e1⟩<;>rcases si e2 with⟨rfl,rfl⟩|⟨hn,e2⟩
  .rfl
  .exact(key n cn x hn e2 g1 g2).elim
  .exact(key m cm x hm e1 g2 g1).elim
  .exact h.un m n cm cn x e1 e2 g1 g2
 .have cs:=EC (λk:pD=>k.hasB x) c' hc;have hl:=h.ln x hx;unfold vi at hl ⊢;rw[e];by_cases g:c'.hasB x=pc
  .rw[cV g]at cs;rcases hu x g with z|z
   .rw[cV z]at cs;omega
   .unfold vi at z;omega
  .rw[cS g]at cs;omega
 .rcases si e1 with⟨rfl,rfl⟩|⟨hm,e1⟩<;>rcases si e2 with⟨rfl,rfl⟩|⟨hn,e2⟩
  .rfl
  .exact(keyw n cn x hn e2 g1 g2).elim
  .exact(keyw m cm x hm e1 g2 g1).elim
  .exact h.wt m n cm cn x e1 e2 g1 g2
def zT.add{V V':qo}{c':pD}(h:WF l V)(e:V'.calls=V.calls++[c'])(ok:vZ l pc c')(he:∀x,Bj c' x->Ds V x)(hu:∀x,c'.hasB x=pc->(vi V x:Int)<wQ l x)(hw:∀x,c'.mH x=lf)(nx:uG l V'):zT l V' (Fa V.calls.length):=by
 have si:∀{j:Nat} {d:pD},V'.calls[j]?=Fa d->(j=V.calls.length/\d=c')\/(j≠V.calls.length/\V.calls[j]?=Fa d):=λ{j d} g=>by
  rw[e]at g;by_cases z:j<V.calls.length
  .rw[eP z]at g;exact .inr ⟨by omega,g⟩
  .have:=(cT.mp g).1;rw[cR,dG]at this;have z:j=V.calls.length:=by omega
   subst z;rw[eN (c9 _)]at g;simp only[gT,iu,ji]at g;exact .inl ⟨rfl,g.symm⟩
 refine⟨λj d g=>?_,λm n cm cn x e1 e2 g1 g2=>?_,λx hx=>?_,λm n cm cn x e1 e2 g1 g2=>?_,nx⟩
 .rcases si g with⟨rfl,rfl⟩|⟨hj,g⟩
  .rw[fC];exact ok
  .rw[show(Fa V.calls.length==Fa j)=lf by simpa using dH hj];exact h.ok j d g
 .rcases si e1 with⟨rfl,rfl⟩|⟨hm,e1⟩<;>rcases si e2 with⟨rfl,rfl⟩|⟨hn,e2⟩
  .rfl
  .exact(he x g1 cn (qJ e2) g2).elim
  .exact(he x g2 cm (qJ e1) g1).elim
  .exact h.un m n cm cn x e1 e2 g1 g2
 .have hl:=h.ln x hx;unfold vi at hl ⊢;rw[e,jc,cR,gb];split
  .rename_i g;have:=hu x g;unfold vi at this;simp only[iN,dG];omega
  .simp only[iN,dB];omega
 .rcases si e1 with⟨rfl,rfl⟩|⟨hm,e1⟩<;>rcases si e2 with⟨rfl,rfl⟩|⟨hn,e2⟩
  .rfl
  .rw[hw x]at g1;cases g1
  .rw[hw x]at g2;cases g2
  .exact h.wt m n cm cn x e1 e2 g1 g2
noncomputable def pD.core(c:pD):pD:={c with way:=[],si:=0}
def zL(V V':qo):Prop:=V'.calls.map pD.core=V.calls.map pD.core
def zL.at_{V V':qo}(h:zL V V'){i:Nat}{c':pD}(e:V'.calls[i]?=Fa c'):∃c,V.calls[i]?=Fa c/\c'.core=c.core:=by
 have:=eE (·[i]?) h;simp only[df,e]at this;cases e':V.calls[i]? with
 | none=>rw[e']at this;cases this
 | some c=>rw[e']at this;exact⟨c,rfl,cY this⟩
def zL.used{V V':qo}(h:zL V V')(x:Str):vi V' x=vi V x:=by
 have key:∀cs:List pD,(cs.filter (·.hasB x)).length=((cs.map pD.core).filter (·.hasB x)).length:=λcs=>by rw[fM,cO];rfl
 unfold vi;rw[key,h,<-key]
def zL.wf{V V':qo}{o:Option Nat}(h:zL V V')(wf:zT l V o)(hw:∀(i:Nat) c',V'.calls[i]?=Fa c'->c'.way≠[]/\∀z∈c'.way,z∈l.nm)(nx:uG l V'):zT l V' o:=by
 refine⟨λi c' e=>?_,λi j ci cj x e1 e2 g1 g2=>?_,λx hx=>by rw[h.used];exact wf.ln x hx,λi j ci cj x e1 e2 g1 g2=>?_,nx⟩
 .obtain⟨c,ec,ee⟩:=h.at_ e;have k:=wf.ok i c ec;have k1:c'.at_=c.at_:=show c'.core.at_=c.core.at_ by rw[ee]
  have k2:c'.ms=c.ms:=show c'.core.ms=c.core.ms by rw[ee]
  have k3:c'.cr=c.cr:=show c'.core.cr=c.core.cr by rw[ee]
  exact⟨by show Q1 _ c'.core;rw[ee];exact k.sh,by rw[k3];exact k.cr,by rw[k1];exact k.at_,by rw[k2];exact k.ms,by rw[k1];exact k.an,by rw[k2];exact k.mn,by rw[k1,k3];exact k.ca,hw i c' e⟩
 .obtain⟨di,a1,a2⟩:=h.at_ e1;obtain⟨dj,b1,b2⟩:=h.at_ e2;exact wf.un i j di dj x a1 b1 (by show Bj di.core x;rw[<-a2];exact g1) (by show Bj dj.core x;rw[<-b2];exact g2)
 .obtain⟨di,a1,a2⟩:=h.at_ e1;obtain⟨dj,b1,b2⟩:=h.at_ e2;exact wf.wt i j di dj x a1 b1 (by show di.core.mH x=pc;rw[<-a2];exact g1) (by show dj.core.mH x=pc;rw[<-b2];exact g2)
def tW.core{V V':qo}(h:tW V V'):zL V V':=by have:=eE (List.map pD.core) h;rw[dS,dS]at this;exact this
def Kl(V:qo):zL V (qb V .turn):=by show(V.calls.map pD.tick).map pD.core=V.calls.map pD.core;rw[dS];refine fV λc _=>?_;show(pD.tick c).core=c.core;unfold pD.tick;split<;>rfl
def Eu{V:qo}(wf:WF l V):WF l (qb V .turn):=(Kl V).wf wf (λi c' e=>by
 have e:(V.calls.map pD.tick)[i]?=Fa c':=e;rw[df]at e;cases q:V.calls[i]? with
 | none=>rw[q]at e;cases e
 | some c=>
  rw[q]at e;have e:c.tick=c':=cY e;have hw:c.tick.way=c.way:=by unfold pD.tick;split<;>rfl
  rw[<-e,hw];exact(wf.ok i c q).wy) wf.nx
def T8{V:qo}{b:Bool}{i:Nat}(wf:WF l V):WF l (qb V (.sw b i)):=⟨wf.ok,wf.un,wf.ln,wf.wt,wf.nx⟩
def Ek{V:qo}{o:Option Nat}{i:Nat}{z:Str}{ns:T0 Nat}(wf:zT l V o):zT l (qb V (.asks i z ns)) o:=⟨wf.ok,wf.un,wf.ln,wf.wt,wf.nx⟩
def Hz{V:qo}{o:Option Nat}{v:su}(wf:zT l V o)(hz:v.g∈l.nm):zT l (qb V (.leg v)) o:=(ze V v).core.wf wf (λi c' e=>by
 have e:(V.calls.modify v.i (·.go v.g))[i]?=Fa c':=e;rw[iR]at e;cases q:V.calls[i]? with
 | none=>rw[q]at e;cases e
 | some c=>
  rw[q]at e;have k:=(wf.ok i c q).wy;have e:(if v.i=i then c.go v.g else c)=c':=cY e;by_cases g:v.i=i
  .rw[cV g]at e;rw[<-e];refine⟨by show c.way++[v.g]≠[];simp,λz hz'=>?_⟩;rcases dI.mp (show z∈c.way++[v.g]from hz')with y|y
   .exact k.2 z y
   .rw[cX.mp y];exact hz
  .rw[cS g]at e;rw[<-show c=c' from e];exact k) wf.nx
theorem Cz{o:Option Nat}(i:Nat):∀(st:sr) (q:Option Str) {V:qo},zT l V o->(∀s∈st,s.1∈l.nm)->zT l (qF V (rB i q st)) o
 | [],_,V,wf,_=>wf
 | (y,gs)::r,Db,V,wf,h=>Cz i r (Fa y) (Ek wf) λs hs=>h s (dw _ hs)
 | (y,gs)::r,Fa u,V,wf,h=>Cz i r (Fa y) (Ek (Hz wf (h _ dD))) λs hs=>h s (dw _ hs)
def rD{V:qo}{i:Nat}{c:pD}{f:pD->pD}(h:V.calls[i]?=Fa c):(xT V i f).calls=V.calls.set i (f c):=by unfold xT;rw[tV h]
def Bm{i:Nat}:∀j,j≠i->((Fa i:Option Nat)==Fa j)=((Db:Option Nat)==Fa j):=λj hj=>by rw[show((Fa i:Option Nat)==Fa j)=lf by simpa using dH hj];rfl
def Wh{V:qo}{i:Nat}{c:pD}(wf:zT l V (Fa i))(hc:V.calls[i]?=Fa c):c.st="rings"/\c.ms=[]/\c.hd=Db/\c.wd=Db/\c.at_=[]:=by
 have sh:=(wf.ok i c hc).sh;rw[fC]at sh;rcases sh with g|g
 .exact⟨g.1,g.2.1,g.2.2.1,g.2.2.2.1,g.2.2.2.2.1 rfl⟩
 .cases g.1
def O2{c:pD}{o:Bool}{w:Str}(k:vZ l o c)(hw:w∈Nz):vZ l lf (c.over w):=⟨.inr ⟨rfl,.inr (.inr (.inr ⟨rfl,rfl,rfl,rfl,w,hw,rfl⟩))⟩,k.cr,(λx hx=>by cases hx),(λx hx=>by cases hx),eC,eC,(λhx=>by cases hx),k.wy⟩
def wV{V V':qo}{o:Option Nat}{i:Nat}{c:pD}{w:Str}(wf:zT l V o)(hc:V.calls[i]?=Fa c)(ho:o=Db\/o=Fa i)(hw:w∈Nz)(e:V'.calls=V.calls.set i (c.over w))(nx:uG l V'):WF l V':=
 wf.set e hc (λj hj=>by rcases ho with rfl|rfl;rfl;exact Bm j hj) (O2 (wf.ok i c hc) hw) (λx g=>(GW rfl g).elim) (λx g=>by rw[GZ (c:=c.over w) rfl]at g;cases g) (λx g=>by have:=(sA.mp g).1;exact absurd this (show("over":Str)≠"waits" by decide)) nx
def Hs{l:pF}{V:qo}{c z:Str}(h:(l.mz z).Nodup):(xX l V c z).Nodup:=by
 unfold xX;split
 .cases(vf (l.mz z) (zx V z)).filter λx=>hasS (uD l V c z) x with
  | nil=>exact eC
  | cons y r=>exact dM.mpr ⟨dv,eC⟩
 .exact h.sublist fW
def Nd(ps:T0 (Str×Int))(z:Str)(n:Int)(y:Str):(Bw ps z n).find? (λp=>decide (p.1=y))=if y=z then Fa (z,n)else ps.find? λp=>decide (p.1=y):=by
 unfold Bw;by_cases h:ps.any (λp=>decide (p.1=z))=pc
 .rw[cV h];induction ps with
  | nil=>cases h
  | cons p r ih=>
   rw[dN,fi,fi];by_cases hp:p.1=z
   .rw[cV hp];by_cases hy:y=z
    .rw[cV hy,hy];simp[hp]
    .rw[cS hy];have n1:decide (p.1=y)=lf:=eI (λq=>hy (q.symm.trans hp));simp only[n1];by_cases hr:r.any (λp=>decide (p.1=z))=pc
     .have:=ih hr;rw[cS hy]at this;exact this
     .have hr:∀q∈r,¬q.1=z:=λq hq g=>hr (gu.mpr ⟨q,hq,dP g⟩);rw[show r.map (λp=>if p.1=z then(p.1,n)else p)=r from(fV λq hq=>cS (hr q hq)).trans (g9 _)]
   .rw[cS hp];have hr:r.any (λp=>decide (p.1=z))=pc:=by
     rw[fY,gK]at h;rcases h with g|g
     .exact absurd (fL g) hp
     .exact g
    have ih:=ih hr;by_cases hy:y=z
    .rw[cV hy]at ih ⊢;have n1:decide (p.1=y)=lf:=eI (λq=>hp (q.trans hy));simp only[n1];exact ih
    .rw[cS hy]at ih ⊢;cases decide (p.1=y)with
     | true=>rfl
     | false=>exact ih
 .rw[cS h,List.find?_append];have hr:∀q∈ps,¬q.1=z:=λq hq g=>h (gu.mpr ⟨q,hq,dP g⟩);by_cases hy:y=z
  .subst hy;rw[cV rfl,gL.mpr λq hq=>by simpa using hr q hq,Option.none_or];simp
  .rw[cS hy,fi,eI (λq:z=y=>hy q.symm)];simp
def Mq{V:qo}{z:Str}{n:Int}(h:uG l V)(h0:0<=n)(h1:n<=((l.mz z).length:Int)):uG l (qb V (.next z n)):=λy hy ht=>by
 show ∃v,(Bw V.ps z n).find? _=Fa v/\_;rw[Nd];by_cases e:y=z
 .subst e;rw[cV rfl];exact⟨_,rfl,h0,h1⟩
 .rw[cS e];exact h y hy ht
def FB{V:qo}(h:uf l V x=pc):(vi V x:Int)<wQ l x:=fL h
def JY{V V':qo}{o:Option Nat}{i:Nat}{c:pD}{w x:Str}(wf:zT l V o)(hc:V.calls[i]?=Fa c)(e:V'.calls=V.calls.set i (c.over w))(hx:Bj c x):Ds V' x:=λd hd g=>by
 rw[e]at hd;obtain⟨j,hj,ed⟩:=gG hd;have ej:(V.calls.set i (c.over w))[j]?=Fa d:=by rw[cQ hj,ed]
 rcases Eg ej with⟨_,rfl,_⟩|⟨XB,ej⟩
 .exact GW rfl g
 .exact XB (wf.un j i d c x ej hc g hx)
def Ku{V V':qo}{i:Nat}{c:pD}{w x:Str}(hc:V.calls[i]?=Fa c)(e:V'.calls=V.calls.set i (c.over w))(hx:c.hasB x=pc):vi V' x+1=vi V x:=by
 have:=EC (λk:pD=>k.hasB x) (c.over w) hc;unfold vi;rw[e];simp only[hx,iV,GZ (c:=c.over w) rfl]at this
 simpa using this
def GN{V V':qo}{o:Option Nat}{i j:Nat}{c d:pD}{ms:QQQ}(wf:zT l V o)(ho:o=Db\/o=Fa i)(hc:V.calls[i]?=Fa c)(hd:V.calls[j]?=Fa d)(Yd:i≠j)(e:V'.calls=(V.calls.set i (c.over "merged")).set j (d.mem ms))(nx:uG l V')(dt:d.st="talks")(m1:ms.Nodup)(m2:ms.length=2\/ms.length=3)(m3:∀x∈ms,x∈d.ms\/(Bj c x/\c.hasB x=pc))(m4:∀x∈ms,x∈l.pn):WF l V':=by
 have e1:(xT V i (·.over "merged")).calls=V.calls.set i (c.over "merged"):=rD hc;have w1:WF l (xT V i (·.over "merged")):=wV wf hc ho (by decide) e1 wf.nx;have hd1:(xT V i (·.over "merged")).calls[j]?=Fa d:=by rw[e1,fz Yd];exact hd
 have kd:=w1.ok j d hd1;have kd':d.hd=Db/\d.wd=Db/\d.at_=[]:=by
  rcases kd.sh with g|⟨_,g|g|⟨_,g⟩|g⟩
  .rw[dt]at g;exact absurd g.1 (by decide)
  .rw[dt]at g;exact absurd g.1 (by decide)
  .exact⟨g.2.2.1,g.2.2.2.1,g.2.2.2.2⟩
  .rw[dt]at g;exact absurd g.1 (by decide)
  .rw[dt]at g;exact absurd g.1 (by decide)
 refine w1.set (c':=d.mem ms) (by rw[e,e1]) hd1 (λ_ _=>rfl) ⟨.inr ⟨rfl,.inr (.inl ⟨dt,m2,kd'.1,kd'.2.1,kd'.2.2⟩)⟩,kd.cr,kd.at_,m4,kd.an,m1,kd.ca,kd.wy⟩ (λx g=>?_) (λx g=>?_) (λx g=>?_) nx
 .have g:=(tU (c:=d.mem ms) dt).mp g;rcases m3 x g with y|y
  .exact .inl ((tU dt).mpr y)
  .exact .inr (JY wf hc e1 y.1)
 .have g:=(tF (c:=d.mem ms) (.inl dt)).mp g;rcases m3 x g with y|y
  .exact .inl ((tF (.inl dt)).mpr y)
  .have:=Ku hc e1 y.2;have:=wf.ln x (m4 x g);exact .inr (by omega)
 .have:=(sA.mp g).1;rw[show(d.mem ms).st="talks" from dt]at this;exact absurd this (by decide)
def Sb{V V1:qo}{i:Nat}{c:pD}{e:vI}(ok:rh l)(wf:zT l V1 (Fa i))(same:zL V V1)(hc:V1.calls[i]?=Fa c)(he:GF l V c.cr e):WF l (qF V1 (tz l V1 i e)):=by
 obtain⟨p1,p2,p3,p4,p5⟩:=Wh wf hc;have k:=wf.ok i c hc;have hi:=(cT.mp hc).1;cases e with
 | rings z ps=>
  obtain⟨hz,XB,rfl⟩:=he;obtain⟨⟨q1,q2,q3,q4⟩,_⟩:=ok.of hz;obtain⟨r1,r2⟩:=F8 (l:=l) (V:=V) (c:=c.cr) (z:=z);generalize hps:xX l V c.cr z=ps at XB r1 r2;have Xh:∀V2:qo,V2.calls=V1.calls->uG l V2->WF l (qb V2 (.rings i ps)):=λV2 e2 nx=>by
   have e3:(qb V2 (.rings i ps)).calls=V1.calls.set i (c.ring ps):=by show(xT (qP V2 _) i _).calls=_;rw[rD (c:=c) (by show V2.calls[i]?=_;rw[e2];exact hc)];show V2.calls.set i _=_;rw[e2]
   have free:∀x∈ps,uf l V x=pc/\x≠c.cr:=λx hx=>by have h:=(fh.mp (r1 x hx).1).2;simp only[dO,gA]at h;exact⟨h.2,by simpa using h.1⟩
   refine wf.set e3 hc Bm ⟨.inl ⟨rfl,p2,p3,p4,(λh=>by cases h),λ_=>XB⟩,k.cr,λx hx=>q4 x (r1 x hx).2,k.ms,by rw[<-hps];exact Hs q3,k.mn,λhx=>(free _ hx).2 rfl,k.wy⟩ (λx g=>?_) (λx g=>?_) (λx g=>?_) nx
   .exact .inl ((sU p1).mpr ((sU (c:=c.ring ps) rfl).mp g))
   .rcases(sY (c:=c.ring ps) rfl).mp g with y|y
    .exact .inl ((sY p1).mpr (.inl y))
    .refine .inr ?_;rw[same.used];exact FB (free x y).1
   .exact absurd (sA.mp g).1 (show("rings":Str)≠"waits" by decide)
  show WF l (qF V1 ((if (l.mI z=="turns")=pc then _ else _)++[.rings i ps]));rw[rO];by_cases ht:(l.mI z=="turns")=pc
  .rw[cV ht];have lp:0<(l.mz z).length:=fu.mpr q1;refine Xh _ rfl (Mq wf.nx (eK _ (by omega)) (Int.le_of_lt (eG _ (by omega))))
  .rw[cS ht];exact Xh V1 rfl wf.nx
 | waits z=>
  obtain⟨hz,XB,hw⟩:=he;have e3:(qb V1 (.waits i z)).calls=V1.calls.set i (c.wait z):=rD (V:=qP V1 _) hc;have hw1:AE V1 z=lf:=by
   unfold AE at hw ⊢;have key:∀cs:List pD,cs.any (·.mH z)=(cs.map pD.core).any (·.mH z):=λcs=>by rw[jD];rfl
   rw[key,same,<-key];exact hw
  refine wf.set e3 hc Bm ⟨.inr ⟨rfl,.inl ⟨rfl,p2,p3,p4,rfl⟩⟩,k.cr,λx hx=>by rw[cX.mp hx];exact hz,k.ms,dM.mpr ⟨dv,eC⟩,k.mn,λhx=>XB (cX.mp hx).symm,k.wy⟩ (λx g=>?_) (λx g=>?_) (λx g=>?_) wf.nx
  .exact .inl ((sU p1).mpr ((DW (c:=c.wait z) rfl).mp g))
  .exact .inl ((sY p1).mpr (.inl ((Ed (c:=c.wait z) rfl).mp g)))
  .have:=(sA.mp g).2;rw[cX.mp this];exact .inr hw1
 | breaks z=>
  obtain⟨x,rfl,hb⟩:=he;obtain⟨j,d0,t1,t2,t3,t4,t5,t6⟩:=Gs hb;have ht:vU V1 z=Fa j:=by
   rw[<-t1];unfold vU;have key:∀cs:List pD,cs.findIdx? (·.mO z)=(cs.map pD.core).findIdx? (·.mO z):=λcs=>by rw[gP];rfl
   rw[key,same,<-key]
  obtain⟨d,ed,ec⟩:∃d,V1.calls[j]?=Fa d/\d.core=d0.core:=by
   have:=eE (·[j]?) same;simp only[df,t2]at this;cases q:V1.calls[j]? with
   | none=>rw[q]at this;cases this
   | some d=>rw[q]at this;exact⟨d,rfl,cY this⟩
  have ds:d.st="talks":=by rw[show d.st=d0.st from show d.core.st=d0.core.st by rw[ec]];exact t3
  have dm:d.ms=d0.ms:=show d.core.ms=d0.core.ms by rw[ec]
  have Yd:i≠j:=λy=>by subst y;rw[hc]at ed;cases ed;rw[p1]at ds;exact absurd ds (by decide)
  have hee:tz l V1 i (.breaks z)=[.merge i j (d.ms++[c.cr])]:=by unfold tz;dsimp only;rw[ht,hc];dsimp only;rw[ed];rfl
  rw[hee];have ncr:c.cr∉d.ms:=λy=>Yd (wf.un i j c d c.cr hc ed ((sU p1).mpr rfl) ((tU ds).mpr y));have kd:=wf.ok j d ed;refine GN (V':=qb V1 (.merge i j (d.ms++[c.cr]))) (ms:=d.ms++[c.cr]) wf (.inr rfl) hc ed Yd ?_ wf.nx ds ?_ (.inr ?_) (λx hx=>?_) (λx hx=>?_)
  .show(V1.calls.modify i _).modify j _=_;rw[tV hc,tV (show(V1.calls.set i _)[j]?=Fa d by rw[fz Yd];exact ed)]
  .refine gi.mpr ⟨kd.mn,dM.mpr ⟨dv,eC⟩,λx hx y hy q=>ncr ?_⟩;rw[cX.mp hy]at q;rw[<-q];exact hx
  .rw[cR,dm,t5];rfl
  .rcases dI.mp hx with y|y
   .exact .inl y
   .rw[cX.mp y];exact .inr ⟨(sU p1).mpr rfl,(sY p1).mpr (.inl rfl)⟩
  .rcases dI.mp hx with y|y
   .exact kd.ms x y
   .rw[cX.mp y];exact k.cr
 | engaged z=>exact wV (V':=qb V1 (.over i "engaged")) wf hc (.inr rfl) (by decide) (rD (V:=qP V1 _) hc) wf.nx
 | barred=>exact wV (V':=qb V1 (.over i "barred")) wf hc (.inr rfl) (by decide) (rD (V:=qP V1 _) hc) wf.nx
 | ring ns=>exact wV (V':=qb V1 (.over i "ring")) wf hc (.inr rfl) (by decide) (rD (V:=qP V1 _) hc) wf.nx
def QZ{V:qo}{i:Nat}{k:pD}(ok:rh l)(wf:zT l V (Fa i))(hk:V.calls[i]?=Fa k):WF l (qF V (uu l V i)):=by
 have Yi:=wf.ok i k hk;unfold uu;rw[hk];dsimp only[Option.elim];obtain⟨z,hz⟩:∃z,k.way.getLast?=Fa z:=by
  cases e:k.way.getLast? with
  | none=>exact absurd (gC.mp e) Yi.wy.1
  | some z=>exact⟨z,rfl⟩
 rw[show k.way.getLastD Str.empty=z by rw[h9,hz];rfl];have ro:yd l V k.cr (l.nm.length+1) [] (se l V k.cr z k.way.dropLast):=xS ok _ _ _ _ (Yi.wy.2 z (iP hz)) λx hx=>Yi.wy.2 x (iQ _ hx);generalize se l V k.cr z k.way.dropLast=R at ro;obtain⟨e,st⟩:=R;have snm:∀s∈st,s.1∈l.nm:=λs hs=>(ro.nm s hs).elim (λh=>by cases h) id;have w1:=Cz i st Db wf snm;have XS:=vH i st Db V;rw[rO,rO];dsimp only;have Xh:∀V1:qo,zT l V1 (Fa i)->tW V V1->WF l (qF V1 (tz l V i e)):=λV1 w s=>by
  rw[<-s.ends];obtain⟨c',e1,e2⟩:=s.at_ hk;have hcr:c'.cr=k.cr:=show c'.bare.cr=k.bare.cr by rw[e2]
  exact Sb ok w s.core e1 (by rw[hcr];exact ro.e)
 cases e with
 | ring ns=>
  obtain⟨x,Zm,rfl⟩:=fZ (show ns≠[]from ro.e);cases hl:st.getLast? with
  | none=>rw[show uo i st (.ring (x::Zm))=[]by unfold uo;dsimp only;rw[hl];rfl];exact Xh _ w1 XS
  | some s0=>rw[show uo i st (.ring (x::Zm))=[.leg ⟨i,s0.1,x,s0.1⟩]by unfold uo;dsimp only;rw[hl];rfl];exact Xh _ (Hz (v:=⟨i,s0.1,x,s0.1⟩) w1 (ro.wy _ rfl x dD)) (XS.trans (ze _ _))
 | rings _ _=>exact Xh _ w1 XS
 | waits _=>exact Xh _ w1 XS
 | breaks _=>exact Xh _ w1 XS
 | engaged _=>exact Xh _ w1 XS
 | barred=>exact Xh _ w1 XS
def Ht{V:qo}{y z:Str}(wf:WF l V)(hy:y∈l.pn)(hz:z∈l.nm)(hi:Ds V y)(hf:uf l V y=pc):zT l (qF V [.new V.calls.length y,.leg ⟨V.calls.length,y,z,y⟩]) (Fa V.calls.length):=by
 have e:(qF V [.new V.calls.length y,.leg ⟨V.calls.length,y,z,y⟩]).calls=V.calls++[(zO y).go z]:=by show(V.calls++[zO y]).modify V.calls.length _=_;rw[tV (c:=zO y) (by rw[eN (c9 _),gT];rfl),j4 _ _ (c9 _),gT];rfl
 refine wf.add e ⟨.inl ⟨rfl,rfl,rfl,rfl,λ_=>rfl,(λh=>by cases h)⟩,hy,(λx h=>by cases h),(λx h=>by cases h),eC,eC,(λh=>by cases h),ft _ _,λx h=>by rw[cX.mp h];exact hz⟩ (λx h=>?_) (λx h=>?_) (λx=>?_) wf.nx
 .rw[(sU (c:=(zO y).go z) rfl).mp h];exact hi
 .rcases(sY (c:=(zO y).go z) rfl).mp h with g|g
  .rw[g];exact FB hf
  .cases g
 .cases q:((zO y).go z).mH x with
  | false=>rfl
  | true=>exact absurd (sA.mp q).1 (show("rings":Str)≠"waits" by decide)
def NI{V:qo}{y z:Str}:∃k,(qF V [.new V.calls.length y,.leg ⟨V.calls.length,y,z,y⟩]).calls[V.calls.length]?=Fa k:=by
 have:V.calls.length<(qF V [.new V.calls.length y,.leg ⟨V.calls.length,y,z,y⟩]).calls.length:=by show V.calls.length<((V.calls++[zO y]).modify _ _).length;rw[gc,cR];exact fB _
 exact⟨_,cQ this⟩
def Fy{V:qo}{i:Nat}{c:pD}{x y:Str}{fs:T0 Nat}(wf:WF l V)(hc:V.calls[i]?=Fa c)(hs:c.st="rings")(hy:y∈l.nm):zT l (qF V [.asks i x fs,.quiet i,.leg ⟨i,x,y,x⟩]) (Fa i):=by
 refine Hz (v:=⟨i,x,y,x⟩) ?_ hy;have k:=wf.ok i c hc;have w1:WF l (qb V (.asks i x fs)):=Ek wf;have sh:c.ms=[]/\c.hd=Db/\c.wd=Db:=by
  rcases k.sh with g|⟨_,g|g|⟨_,g⟩|g⟩
  .exact⟨g.2.1,g.2.2.1,g.2.2.2.1⟩
  all_goals(rw[hs]at g;exact absurd g.1 (by decide))
 refine w1.set (i:=i) (c:=c) (c':=c.nG) (rD (V:=qP (qb V (.asks i x fs)) _) hc) hc (λj hj=>(Bm j hj).symm) ?_ (λx g=>.inl ?_) (λx g=>.inl ?_) (λx g=>?_) wf.nx
 .rw[fC];exact⟨.inl ⟨hs,sh.1,sh.2.1,sh.2.2,λ_=>rfl,(λh=>by cases h)⟩,k.cr,(λx h=>by cases h),k.ms,eC,k.mn,(λh=>by cases h),k.wy⟩
 .exact(sU hs).mpr ((sU (c:=c.nG) hs).mp g)
 .rcases(sY (c:=c.nG) hs).mp g with y|y
  .exact(sY hs).mpr (.inl y)
  .cases y
 .have:=(sA.mp g).1;rw[show c.nG.st="rings" from hs]at this;exact absurd this (by decide)
inductive Vj(l:pF)(V:qo)(i:Nat):List Nat->Prop
 | no:Vj l V i []
 | on (c:pD) (k:Nat) (r:List Nat) (b:Bool) (x y:Str) (n:Int):V.calls[i]?=Fa c->c.st="rings"->l.mB[k]?=Fa (b,.silent x y n)->c.way.getLast?=Fa x->y∈l.nm->Vj l V i (k::r)
def Iq{V:qo}(ok:rh l):Vj l V i (wg l V i):=by
 unfold wg;cases e:V.calls[i]? with
 | none=>exact .no
 | some c=>
  dsimp only[Option.elim];by_cases hs:(c.st=="rings")=pc
  .rw[cV hs];cases q:vq l V (Fg c)with
   | nil=>exact .no
   | cons k r=>
    obtain⟨⟨b,w⟩,e1,e2⟩:=zj (i:=k) (by rw[q];exact dD);cases w with
    | silent x y n=>unfold Fg at e2;rw[dO,eW]at e2;exact .on c k r b x y n e (wE hs) e1 e2.1 (Cd ok (e9 e1) (z:=Str.empty) rfl)
    | _=>cases e2
  .rw[cS hs];exact .no
def zY{l:pF}{V:qo}{i k:Nat}{r:T0 Nat}{b:Bool}{x y:Str}{n:Int}(h:l.mB[k]?=Fa (b,.silent x y n)):r6 l V i (k::r)=[.asks i x (k::r),.quiet i,.leg ⟨i,x,y,x⟩]++uu l (qF V [.asks i x (k::r),.quiet i,.leg ⟨i,x,y,x⟩]) i:=by unfold r6;simp only[List.head?_cons,lO,h]
def FN{V:qo}{i:Nat}{c:pD}{x y:Str}{fs:T0 Nat}(h:V.calls[i]?=Fa c):(qF V [.asks i x fs,.quiet i,.leg ⟨i,x,y,x⟩]).calls[i]?=Fa (c.nG.go y):=by show((V.calls.modify i pD.nG).modify i _)[i]?=_;rw[iR,iR,h];simp
def IV{V:qo}(ok:rh l)(wf:WF l V):WF l (qF V (r6 l V i (wg l V i))):=by
 have d:=Iq (V:=V) (i:=i) ok;generalize wg l V i=fs at d;cases d with
 | no=>exact wf
 | on c k r b x y n hc hs hk hw hy=>rw[zY hk,rO];exact QZ ok (Fy wf hc hs hy) (FN hc)
theorem EN(ok:rh l):∀(is:T0 Nat) {V:qo},WF l V->WF l (qF V (qM l is V))
 | [],_,wf=>wf
 | i::r,V,wf=>by unfold qM;rw[rO];exact EN ok r (IV ok wf)
theorem DV(l:pF)(i:Nat):∀(is:T0 Nat) (V:qo),qM l (is++[i]) V=qM l is V++r6 l (qF V (qM l is V)) i (wg l (qF V (qM l is V)) i)
 | [],V=>by show r6 l V i _++[]=[]++_;rw[eJ];rfl
 | j::r,V=>by show r6 l V j _++qM l (r++[i]) _=(r6 l V j _++qM l r _)++_;rw[DV l i r,eU,show qM l (j::r) V=r6 l V j (wg l V j)++qM l r (qF V (r6 l V j (wg l V j)))from rfl,rO]
def uc{x y:Str}:y∈rN ss x↔y∈ss/\y≠x:=by unfold rN;rw[fh,gA,gm]
theorem xG{x:Str}:∀{ss:QQQ},ss.Nodup->x∈ss->(rN ss x).length+1=ss.length
 | [],_,h=>by cases h
 | y::r,nd,h=>by
  have nd:=dM.mp nd;unfold rN;rw[gb];by_cases e:y=x
  .subst e;rw[show(!(y==y))=lf by simp,cS (by decide),kz.mpr λz hz=>by
    have:z≠y:=λq=>nd.1 (q ▸ hz)
    simpa using this]
   rfl
  .have h:x∈r:=by
    rcases cW.mp h with q|q
    .exact absurd q.symm e
    .exact q
   rw[cV (by simpa using e)];have:=xG nd.2 h;unfold rN at this;rw[dU,dU,this]
def O9{V:qo}{i:Nat}{c:pD}{x:Str}(wf:WF l V)(hc:V.calls[i]?=Fa c)(hl:c.m9 x=pc):WF l (qF V (vm V x i)):=by
 have k:=wf.ok i c hc;unfold vm;rw[hc];dsimp only[Option.elim];by_cases h1:c.mM x=pc
 .rw[cV h1];exact wV (V':=qb V (.over i "left")) wf hc (.inl rfl) (by decide) (rD (V:=qP V _) hc) wf.nx
 .rw[cS h1];have e1:(qb V (.leaves i x)).calls=V.calls.set i (c.drop x):=rD (V:=qP V _) hc;by_cases h2:hasS c.at_ x=pc
  .rw[cV h2];by_cases h3:rN c.at_ x=[]
   .rw[cV h3];refine wV (V':=qb (qb V (.leaves i x)) (.over i "refused")) wf hc (.inl rfl) (by decide) (w:="refused") ?_ wf.nx;have h4:(qb V (.leaves i x)).calls[i]?=Fa (c.drop x):=by rw[e1,fA (cT.mp hc).1]
    show(xT (qP (qb V (.leaves i x)) _) i _).calls=_;rw[rD (V:=qP (qb V (.leaves i x)) _) h4];show(qb V (.leaves i x)).calls.set i _=_;rw[e1,jA];rfl
   .rw[cS h3];have hs:c.st="rings"/\c.ms=[]/\c.hd=Db/\c.wd=Db:=by
     rcases k.sh with g|⟨_,g|g|⟨_,g⟩|g⟩
     .exact⟨g.1,g.2.1,g.2.2.1,g.2.2.2.1⟩
     .exfalso;have:=xG k.an (qU.mp h2);rw[g.2.2.2.2]at this;exact h3 (gk.mp (by omega))
     .rw[g.2.2.2.2]at h2;cases h2
     .rw[g.2.2.2.2.2]at h2;cases h2
     .rw[g.2.2.2.1]at h2;cases h2
    refine wf.set (V':=qb V (.leaves i x)) (c':=c.drop x) e1 hc (λ_ _=>rfl) ⟨.inl ⟨hs.1,by show rN c.ms x=[];rw[hs.2.1];rfl,hs.2.2.1,hs.2.2.2,(λh=>by cases h),λ_=>h3⟩,k.cr,λy hy=>k.at_ y (uc.mp hy).1,λy hy=>k.ms y (uc.mp hy).1,k.an.sublist fW,k.mn.sublist fW,λhy=>k.ca (uc.mp hy).1,k.wy⟩ (λy g=>?_) (λy g=>?_) (λy g=>?_) wf.nx
    .exact .inl ((sU hs.1).mpr ((sU (c:=c.drop x) hs.1).mp g))
    .refine .inl ((sY hs.1).mpr (((sY (c:=c.drop x) hs.1).mp g).imp id λh=>(uc.mp h).1))
    .have:=(sA.mp g).1;rw[show(c.drop x).st="rings" from hs.1]at this;exact absurd this (by decide)
  .rw[cS h2];by_cases h3:2<c.ms.length
   .rw[cV h3];have hx:x∈c.ms:=by unfold pD.m9 at hl;rw[dE.mpr h1,dE.mpr h2,fH,fH]at hl;exact qU.mp hl
    have hs:c.st="talks"/\c.ms.length=3/\c.hd=Db/\c.wd=Db/\c.at_=[]:=by
     rcases k.sh with g|⟨_,g|g|⟨_,g⟩|g⟩
     .rw[g.2.1]at h3;cases h3
     .rw[g.2.1]at h3;cases h3
     .exact⟨g.1,g.2.1.elim (λq=>by omega) id,g.2.2⟩
     .omega
     .rw[g.2.1]at h3;cases h3
    have dl:=xG k.mn hx;refine wf.set (V':=qb V (.leaves i x)) (c':=c.drop x) e1 hc (λ_ _=>rfl) ⟨.inr ⟨rfl,.inr (.inl ⟨hs.1,.inl (by show(rN c.ms x).length=2;omega),hs.2.2.1,hs.2.2.2.1,by show rN c.at_ x=[];rw[hs.2.2.2.2];rfl⟩)⟩,k.cr,λy hy=>k.at_ y (uc.mp hy).1,λy hy=>k.ms y (uc.mp hy).1,k.an.sublist fW,k.mn.sublist fW,λhy=>k.ca (uc.mp hy).1,k.wy⟩ (λy g=>?_) (λy g=>?_) (λy g=>?_) wf.nx
    .exact .inl ((tU hs.1).mpr (uc.mp ((tU (c:=c.drop x) hs.1).mp g)).1)
    .exact .inl ((tF (.inl hs.1)).mpr (uc.mp ((tF (c:=c.drop x) (.inl hs.1)).mp g)).1)
    .have:=(sA.mp g).1;rw[show(c.drop x).st="talks" from hs.1]at this;exact absurd this (by decide)
   .rw[cS h3];exact wV (V':=qb V (.over i "done")) wf hc (.inl rfl) (by decide) (rD (V:=qP V _) hc) wf.nx
def KC{V:qo}{i:Nat}{c:pD}(wf:WF l V)(hc:V.calls[i]?=Fa c)(hx:hasS c.at_ x=pc)(hi:Ds V x)(hf:c.mH x=pc->uf l V x=pc):WF l (qb V (.talks i [c.cr,x])):=by
 have k:=wf.ok i c hc;have hx:=qU.mp hx;have XB:c.cr≠x:=λq=>k.ca (q ▸ hx);have hs:(c.st="rings"\/c.st="waits")/\c.wd=Db:=by
  rcases k.sh with g|⟨_,g|g|⟨_,g⟩|g⟩
  .exact⟨.inl g.1,g.2.2.2.1⟩
  .exact⟨.inr g.1,g.2.2.2.1⟩
  .rw[g.2.2.2.2]at hx;cases hx
  .rw[g.2.2.2.2.2]at hx;cases hx
  .rw[g.2.2.2.1]at hx;cases hx
 have ec:Bj c c.cr/\c.hasB c.cr=pc:=by
  rcases hs.1 with g|g
  .exact⟨(sU g).mpr rfl,(sY g).mpr (.inl rfl)⟩
  .exact⟨(DW g).mpr rfl,(Ed g).mpr rfl⟩
 refine wf.set (V':=qb V (.talks i [c.cr,x])) (c':=c.nz [c.cr,x]) (rD (V:=qP V _) hc) hc (λ_ _=>rfl) ⟨.inr ⟨rfl,.inr (.inl ⟨rfl,.inl rfl,rfl,hs.2,rfl⟩)⟩,k.cr,(λy h=>by cases h),(λy h=>?_),eC,?_,(λh=>by cases h),k.wy⟩ (λy g=>?_) (λy g=>?_) (λy g=>?_) wf.nx
 .rcases cW.mp h with g|g
  .rw[g];exact k.cr
  .rw[cX.mp g];exact k.at_ x hx
 .exact dM.mpr ⟨λh=>XB (cX.mp h),dM.mpr ⟨dv,eC⟩⟩
 .rcases cW.mp ((tU (c:=c.nz [c.cr,x]) rfl).mp g)with h|h
  .rw[h];exact .inl ec.1
  .rw[cX.mp h];exact .inr hi
 .rcases cW.mp ((tF (c:=c.nz [c.cr,x]) (.inl rfl)).mp g)with h|h
  .rw[h];exact .inl ec.2
  .rw[cX.mp h];rcases hs.1 with q|q
   .exact .inl ((sY q).mpr (.inr hx))
   .exact .inr (FB (hf (sA.mpr ⟨q,hx⟩)))
 .exact absurd (sA.mp g).1 (show("talks":Str)≠"waits" by decide)
def Ai{c:pD}{x:Str}:c.mQ x=pc↔c.st="talks"/\x∈c.ms/\c.ms.length=2:=by unfold pD.mQ pD.mO;rw[dO,dO,eW,qU,eW,and_assoc]
def NG{c:pD}(k:vZ l lf c)(h:c.st="talks"):c.hd=Db/\c.wd=Db/\c.at_=[]:=by
 rcases k.sh with g|⟨_,g|g|⟨_,g⟩|g⟩
 .rw[h]at g;exact absurd g.1 (by decide)
 .rw[h]at g;exact absurd g.1 (by decide)
 .exact g.2.2
 .rw[h]at g;exact absurd g.1 (by decide)
 .rw[h]at g;exact absurd g.1 (by decide)
def FD{c:pD}{x:Str}(k:vZ l lf c)(h:c.hd=Fa x):c.st="held"/\c.ms.length=2/\x∈c.ms/\c.wd=Db/\c.at_=[]:=by
 rcases k.sh with g|⟨_,g|g|⟨y,g⟩|g⟩
 .rw[h]at g;cases g.2.2.1
 .rw[h]at g;cases g.2.2.1
 .rw[h]at g;cases g.2.2.1
 .have e:=g.2.2.1;rw[h]at e;cases e;exact⟨g.1,g.2.1,g.2.2.2⟩
 .rw[h]at g;cases g.2.2.1
def OZ{V:qo}{i:Nat}{c:pD}{x:Str}(wf:WF l V)(hc:V.calls[i]?=Fa c)(hx:c.mQ x=pc):WF l (qb V (.held i x)):=by
 have k:=wf.ok i c hc;obtain⟨h1,h2,h3⟩:=Ai.mp hx;obtain⟨s1,s2,s3⟩:=NG k h1;refine wf.set (V':=qb V (.held i x)) (c':=c.hold x) (rD (V:=qP V _) hc) hc (λ_ _=>rfl) ⟨.inr ⟨rfl,.inr (.inr (.inl ⟨x,rfl,h3,rfl,h2,s2,s3⟩))⟩,k.cr,k.at_,k.ms,k.an,k.mn,k.ca,k.wy⟩ (λy g=>.inl ?_) (λy g=>.inl ?_) (λy g=>?_) wf.nx
 .exact(tU h1).mpr ((Cp (c:=c.hold x) rfl).mp g).1
 .exact(tF (.inl h1)).mpr ((tF (c:=c.hold x) (.inr rfl)).mp g)
 .exact absurd (sA.mp g).1 (show("held":Str)≠"waits" by decide)
def Qe{V:qo}{i:Nat}{c:pD}{x:Str}(wf:WF l V)(hc:V.calls[i]?=Fa c)(hx:c.hd=Fa x)(hi:Ds V x):WF l (qb V (.talks i c.ms)):=by
 have k:=wf.ok i c hc;obtain⟨h1,h2,h3,h4,h5⟩:=FD k hx;refine wf.set (V':=qb V (.talks i c.ms)) (c':=c.nz c.ms) (rD (V:=qP V _) hc) hc (λ_ _=>rfl) ⟨.inr ⟨rfl,.inr (.inl ⟨rfl,.inl h2,rfl,h4,rfl⟩)⟩,k.cr,(λy h=>by cases h),k.ms,eC,k.mn,(λh=>by cases h),k.wy⟩ (λy g=>?_) (λy g=>.inl ?_) (λy g=>?_) wf.nx
 .have g:=(tU (c:=c.nz c.ms) rfl).mp g;by_cases e:y=x
  .rw[e];exact .inr hi
  .exact .inl ((Cp h1).mpr ⟨g,λq=>e (cY (q.symm.trans hx))⟩)
 .exact(tF (.inr h1)).mpr ((tF (c:=c.nz c.ms) (.inl rfl)).mp g)
 .exact absurd (sA.mp g).1 (show("talks":Str)≠"waits" by decide)
def DO{c:pD}{x:Str}(nd:c.ms.Nodup)(h2:c.ms.length=2)(hx:x∈c.ms):qD c x∈c.ms/\qD c x≠x:=by
 have dl:=xG nd hx;obtain⟨y,r,e⟩:=List.exists_cons_of_length_pos (show 0<(rN c.ms x).length by omega);have hm:y∈rN c.ms x:=by rw[e];exact dD
 unfold qD;rw[e];exact uc.mp hm
def JM{V:qo}{i j:Nat}{c d:pD}{w x:Str}(wf:WF l V)(hc:V.calls[i]?=Fa c)(hd:V.calls[j]?=Fa d)(h1:c.hd=Fa x)(h2:d.mQ x=pc):i≠j/\WF l (qb V (.merge i j (if (w=="hand")=pc then[qD c x,qD d x]else[x,qD c x,qD d x]))):=by
 have k:=wf.ok i c hc;have kd:=wf.ok j d hd;obtain⟨c1,c2,c3,c4,c5⟩:=FD k h1;obtain⟨d1,d2,d3⟩:=Ai.mp h2;obtain⟨a1,a2⟩:=DO k.mn c2 c3;obtain⟨b1,b2⟩:=DO kd.mn d3 d2;have Yd:i≠j:=λq=>by subst q;rw[hc]at hd;cases hd;rw[c1]at d1;exact absurd d1 (by decide)
 refine⟨Yd,?_⟩;have ea:Bj c (qD c x):=(Cp c1).mpr ⟨a1,λq=>a2 (cY (q.symm.trans h1))⟩;have ab:qD c x≠qD d x:=λq=>Yd (wf.un i j c d _ hc hd ea (by rw[q];exact(tU d1).mpr b1));generalize hms:(if (w=="hand")=pc then[qD c x,qD d x]else[x,qD c x,qD d x])=ms;have mm:∀y∈ms,y=x\/y=qD c x\/y=qD d x:=λy hy=>by
  rw[<-hms]at hy;split at hy
  .rcases cW.mp hy with g|g
   .exact .inr (.inl g)
   .exact .inr (.inr (cX.mp g))
  .rcases cW.mp hy with g|g
   .exact .inl g
   .rcases cW.mp g with g|g
    .exact .inr (.inl g)
    .exact .inr (.inr (cX.mp g))
 have n2:[qD c x,qD d x].Nodup:=dM.mpr ⟨λh=>ab (cX.mp h),dM.mpr ⟨dv,eC⟩⟩;refine GN (V':=qb V (.merge i j ms)) (ms:=ms) wf (.inl rfl) hc hd Yd ?_ wf.nx d1 ?_ ?_ (λy hy=>?_) (λy hy=>?_)
 .show(V.calls.modify i _).modify j _=_;rw[tV hc,tV (show(V.calls.set i _)[j]?=Fa d by rw[fz Yd];exact hd)]
 .rw[<-hms];split
  .exact n2
  .refine dM.mpr ⟨λh=>?_,n2⟩;rcases cW.mp h with g|g
   .exact a2 g.symm
   .exact b2 (cX.mp g).symm
 .rw[<-hms];split
  .exact .inl rfl
  .exact .inr rfl
 .rcases mm y hy with g|g|g
  .rw[g];exact .inl d2
  .rw[g];exact .inr ⟨ea,(tF (.inr c1)).mpr a1⟩
  .rw[g];exact .inl b1
 .rcases mm y hy with g|g|g
  .rw[g];exact k.ms x c3
  .rw[g];exact k.ms _ a1
  .rw[g];exact kd.ms _ b1
def SU{V:qo}{i:Int}(h:zK V.calls.length i=pc):∃c,V.calls[i.toNat]?=Fa c:=by unfold zK at h;rw[dO,dX,dX]at h;exact⟨_,cQ (by omega)⟩
def Ey{V:qo}{b:Bool}(h:(if ((uN V x).isNone&&b)=pc then Fa ("full":Str)else uN V x)=Db):uN V x=Db/\b=lf:=by
 cases e:uN V x with
 | some w=>rw[e]at h;cases h
 | none=>
  rw[e]at h;cases b with
  | true=>cases h
  | false=>exact⟨rfl,rfl⟩
inductive DH(l:pF)(V:qo)(x:Str):Str->List Int->Prop
 | answer (i:Int) (c:pD):0<=i->V.calls[i.toNat]?=Fa c->hasS c.at_ x=pc->Ds V x->(c.mH x=pc->uf l V x=pc)->DH l V x "answer" [i]
 | hang (i:Int) (c:pD):0<=i->V.calls[i.toNat]?=Fa c->c.m9 x=pc->DH l V x "hang" [i]
 | hold (i:Int) (c:pD):0<=i->V.calls[i.toNat]?=Fa c->c.mQ x=pc->DH l V x "hold" [i]
 | back (i:Int) (c:pD):0<=i->V.calls[i.toNat]?=Fa c->c.hd=Fa x->Ds V x->DH l V x "back" [i]
 | two (w:Str) (i j:Int) (c d:pD):0<=i->0<=j->w="hand"\/w="join"->V.calls[i.toNat]?=Fa c->V.calls[j.toNat]?=Fa d->c.hd=Fa x->d.mQ x=pc->DH l V x w [i,j]
def H9{V:qo}{w x:Str}(f:(tR.num w x ns).nv)(h:wU l V (.num w x ns)=Db):x∈l.pn/\DH l V x w ns:=by
 have hp:hasS l.pn x=pc:=by
  cases q:hasS l.pn x with
  | true=>rfl
  | false=>unfold wU at h;dsimp only at h;rw[cV q]at h;cases h
 refine⟨qU.mp hp,?_⟩;unfold wU at h;dsimp only at h;rw[cS (by rw[hp];decide)]at h;unfold Nb at h;cases q1:ns.all (zK V.calls.length)with
 | false=>rw[cV q1]at h;cases h
 | true=>
 rw[cS (by rw[q1];decide)]at h;cases q2:II w x (tS V ns)with
 | false=>rw[cV q2]at h;cases h
 | true=>
 rw[cS (by rw[q2];decide)]at h;have z:∀i∈ns,0<=i/\∃c,V.calls[i.toNat]?=Fa c:=λi hi=>by have g:=eA.mp q1 i hi;refine⟨?_,SU g⟩;unfold zK at g;rw[dO,dX]at g;exact g.1
 rcases f with⟨fw,fl⟩|⟨fw,fl⟩
 .match ns,fl with
  | [i],_=>
   obtain⟨hi,c,hc⟩:=z i dD;have ec:tS V [i]=[c]:=by unfold tS;rw[fU,hc];rfl
   rw[ec]at h q2;rcases fw with rfl|rfl|rfl|rfl
   .rw[cS (by decide)]at h;obtain⟨h1,h2⟩:=Ey h;refine .answer i c hi hc q2 (Et h1) λhw=>?_;have h2:(c.mH x&&!(uf l V x))=lf:=h2;rw[hw]at h2
    simpa using h2
   .exact .hang i c hi hc q2
   .exact .hold i c hi hc q2
   .rw[cS (by decide)]at h;exact .back i c hi hc (wE q2) (Et (Ey h).1)
 .match ns,fl with
  | [i,j],_=>
   obtain⟨hi,c,hc⟩:=z i dD;obtain⟨hj,d,hd⟩:=z j (dw _ dD);have ec:tS V [i,j]=[c,d]:=by unfold tS;rw[fU,hc];dsimp only;rw[fU,hd];rfl
   rw[ec]at q2;have q3:((c.hd==Fa x)&&d.mQ x)=pc:=by rcases fw with rfl|rfl<;>exact q2
   rw[dO]at q3;exact .two w i j c d hi hj fw hc hd (wE q3.1) q3.2
def EE{V:qo}{y z:Str}(h:wU l V (.call y z)=Db):y∈l.pn/\z∈l.nm/\Ds V y/\uf l V y=pc:=by
 unfold wU at h;dsimp only at h;cases q:hasS l.pn y with
 | false=>rw[cV q]at h;cases h
 | true=>
 rw[cS (by rw[q];decide)]at h;unfold Gu at h;cases q1:hasS l.nm z with
 | false=>rw[cV q1]at h;cases h
 | true=>
 rw[cS (by rw[q1];decide)]at h;obtain⟨h1,h2⟩:=Ey h;exact⟨qU.mp q,qU.mp q1,Et h1,by simpa using h2⟩
def T9{V:qo}{b:Bool}{i:Int}(h:wU l V (.sw b i)=Db):0<=i/\i.toNat<V.on.length:=by
 unfold wU Qm at h;dsimp only at h;cases q:zK V.on.length i with
 | false=>rw[cV q]at h;cases h
 | true=>unfold zK at q;rw[dO,dX,dX]at q;omega
def zh{V:qo}{w x:Str}{i:Nat}{c:pD}(h:V.calls[i]?=Fa c):C0 V w x i=if (w=="answer")=pc then .talks i [c.cr,x]else if (w=="hold")=pc then .held i x else .talks i c.ms:=by unfold C0;rw[h];rfl
def Hx{V:qo}{w x:Str}{i j:Nat}{c d:pD}(h:V.calls[i]?=Fa c)(g:V.calls[j]?=Fa d):By V w x i j=.merge i j (if (w=="hand")=pc then[qD c x,qD d x]else[x,qD c x,qD d x]):=by unfold By;rw[h,g];rfl
def UU{V:qo}{e:tR}(ok:rh l)(wf:WF l V)(f:e.nv)(h:wU l V e=Db):WF l (qF V (uW l V e)):=by
 cases e with
 | call y z=>obtain⟨h1,h2,h3,h4⟩:=EE h;obtain⟨k,hk⟩:=NI (V:=V) (y:=y) (z:=z);show WF l (qF V (_++uu l _ _));rw[rO];exact QZ ok (Ht wf h1 h2 h3 h4) hk
 | turn=>exact EN ok _ (Eu wf)
 | sw b i=>exact T8 wf
 | num w x ns=>
  obtain⟨_,n⟩:=H9 f h;cases n with
  | answer i c hi hc h1 h2 h3=>show WF l (qb V (C0 V "answer" x i.toNat));rw[zh hc];exact KC wf hc h1 h2 h3
  | hang i c hi hc h1=>exact O9 wf hc h1
  | hold i c hi hc h1=>show WF l (qb V (C0 V "hold" x i.toNat));rw[zh hc];exact OZ wf hc h1
  | back i c hi hc h1 h2=>show WF l (qb V (C0 V "back" x i.toNat));rw[zh hc];exact Qe wf hc h1 h2
  | two _ i j c d hi hj hw hc hd h1 h2=>show WF l (qb V (By V w x i.toNat j.toNat));rw[Hx hc hd];exact(JM wf hc hd h1 h2).2
def Pi(a:Ad):rm:=λds M Q=>KU λM0 b A V l c n x i k=>ds=[.ref b,.str x,.int ((i:Nat):Int)]/\uw a M0 M b A V l c n/\c<=1000000/\n<=7000000/\V.calls[i]?=Fa k/\∀M' A',uw a M0 M' b A' (qF V (vm V x i)) l c (n+2)->qR A M A' M'->Q .mG M'
def Pw(a:Ad):rm:=λds M Q=>KR λA V l L k c=>ds=[.ref A.b,.ref (rE.p k)]/\Rd a M A V l/\rR a M L k c/\Q (vF (vq l V (Fg c))) M
def Qn(a:Ad):rm:=λds M Q=>KU λM0 b A V l c n i k r=>ds=[.ref b,.int ((i:Nat):Int),vF (k::r)]/\uw a M0 M b A V l c n/\c<=1000000/\n<=6900000/\WF l V/\Vj l V i (k::r)/\∀M' A',uw a M0 M' b A' (qF V (r6 l V i (k::r))) l c (n+33)->qR A M A' M'->Q .mG M'
def Oi(a:Ad):rm:=λds M Q=>Sk λM0 b A V l c n=>ds=[.ref b]/\uw a M0 M b A V l c n/\c<=10000/\n<=6000000/\WF l V/\∀M' A',uw a M0 M' b A' (qF V (yk l V)) l c (n+1+33*c)->qR A M A' M'->Q .mG M'
def Si{a:Ad}{M:Mp}{c:pD}{v:Wi}{r:Uf}{Q:DK}(h:M r=Fa (.ins (v.cls a) v.nE))(hk:rR a M L k c)(q:Q (.bl (Fg c v)) M):Ny a v [.ref r,.ref k.p] M Q:=by
 cases v with
 | silent x y n=>exact⟨r,L,k,c,rfl,h,hk,q⟩
 | _=>exact⟨_,_,rfl,q⟩
def PK:Fq P w K mg base 4 a.a8 (Pi a):=by
 refine fq G.a8.toDG Bz (λr u=>⟨_,(pq (pO 3 Bz (pL (pE v0) U2))
 (pz (pT (uM (pZ U3 G.e.toCls G.Y (CO G) r (qm U1)))
 (pz (pQ (pZ v0 G.c.toCls G.k (qZ G) r (qm (pP (rb pC U2 pC))))))
 (pz (pT (pK u U1 (pE U3))
 (pq (pQ (pZ v0 G.c.toCls G.k (qZ G) r (qm (pP (rb pC U2 U1)))))
 (pz (pT (pK u (pU qy rfl G.g qv (qm (pE U3))) pB)
 (pz (pQ (pZ v0 G.c.toCls G.k (qZ G) r (qm (pP (rb pC U2 pC))))))
 pN)))
 (pz (pT (pK u (pU qy rfl G.g qv (qm (pE U3))) pB)
 (pz (pQ (pZ v0 G.c.toCls G.k (qZ G) r (qm (pP (rb pC U2 U1))))))
 (pz (pQ (pZ v0 G.c.toCls G.k (qZ G) r (qm (pP (rb pC U2 pC))))))))))))),?_⟩)
 rintro ds M Q ⟨M0,b,A,V,l,cc,n,x,i,c,rfl,cu,ZI,hn,hc,q⟩
 obtain⟨ka,ci⟩:=cu.call hc;obtain⟨ad,md,h1,h2,h3,h4,n1,n2⟩:=ci.cell;have hi:=(cT.mp hc).1;refine pA cu.at_ (pk rfl (pk rfl (pk ci.bd.ca (pk (rq ci.e1) ?_))));refine pA h1 ⟨rfl,_,⟨rfl,rfl⟩,_,ka,c,x,rfl,ci.cell,?_⟩;unfold vm at q;rw[hc]at q;dsimp only[Option.elim]at q;have over:∀(w0:Str),(∀M' A',uw a M0 M' b A' (qF V [.over i w0]) l cc (n+2)->qR A M A' M'->Q .mG M')->∀(M1:Mp) (A1:tq),A1.b=A.b->qR A M A1 M1->pM a M1 A1 (qb V (.over i w0))->∃Xg,qr Xg M1/\Q .mG Xg:=λw0 q M1 A1 eb st bd=>⟨M1,.refl,q M1 A1 ((cu.after (e:=.over i w0) hi eb st bd).mono (c9 _) (by omega)) st⟩;refine qK (c:=c.mM x) (λg=>?_) (λg=>?_)
 .rw[cV g]at q;exact pA cu.at_ ⟨rfl,_,⟨rfl,rfl⟩,pb rfl,b,A,V,.over i "left",rfl,cu.b,cu.bd,cu.lim ZI (by omega),hi,over "left" q⟩
 rw[cS g]at q;refine pA h1 (pk rfl (pk h3 ⟨rfl,qA _,?_⟩));show if inD (.str x) (c.at_.map D.str)=pc then _ else _
 rw[sJ];refine qK (c:=hasS c.at_ x) (λg2=>?_) (λg2=>?_)
 .rw[cV g2]at q;refine pA cu.at_ ⟨rfl,_,⟨rfl,rfl⟩,pb rfl,b,A,V,.leaves i x,rfl,cu.b,cu.bd,cu.lim ZI (by omega),hi,λM1 A1 eb st bd=>?_⟩;have c1:=cu.after (e:=.leaves i x) hi eb st bd;have ZJ:(qb V (.leaves i x)).calls=V.calls.set i (c.drop x):=rD (V:=qP V _) hc;have hc1:(qb V (.leaves i x)).calls[i]?=Fa (c.drop x):=by rw[ZJ,fA hi]
  obtain⟨ad',md',g1,ZC,g3,g4,_⟩:=c1.bd.cs i ka _ (st.2.2.1 i ka ci.e1) hc1;have le0:((((c.drop x).at_.map D.str).length:Int)==0)=decide (rN c.at_ x=[]):=by rw[cO,gh,eW,dX];show((rN c.at_ x).length:Int)=0↔_;rw[<-gk];omega
  refine pA g1 (pk rfl (pk g3 ?_));refine qK (c:=(((c.drop x).at_.map D.str).length:Int)==0) (λg5=>?_) (λg5=>?_)
  .rw[le0,dX]at g5;rw[cV g5]at q;have YQ:i<(qb V (.leaves i x)).calls.length:=(cT.mp hc1).1;refine pA c1.at_ ⟨rfl,_,⟨rfl,rfl⟩,pb rfl,b,A1,_,.over i "refused",rfl,c1.b,c1.bd,c1.lim ZI (by omega),YQ,λM2 A2 ZY Xk YK=>?_⟩;exact⟨M2,.refl,q M2 A2 (c1.after (e:=.over i "refused") YQ ZY Xk YK) (st.trans Xk)⟩
  .rw[le0,dX]at g5;rw[cS g5]at q;exact⟨M1,.refl,q M1 A1 (c1.mono (c9 _) (by omega)) st⟩
 .rw[cS g2]at q;refine pA h1 (pk rfl (pk h4 ?_));have lm:decide ((2:Int)<((c.ms.map D.str).length:Int))=decide (2<c.ms.length):=by rw[cO,gh,dX,dX];omega
  refine qK (c:=decide ((2:Int)<((c.ms.map D.str).length:Int))) (λg3=>?_) (λg3=>?_)
  .rw[lm,dX]at g3;rw[cV g3]at q;refine pA cu.at_ ⟨rfl,_,⟨rfl,rfl⟩,pb rfl,b,A,V,.leaves i x,rfl,cu.b,cu.bd,cu.lim ZI (by omega),hi,λM1 A1 eb st bd=>?_⟩;exact⟨M1,.refl,q M1 A1 ((cu.after (e:=.leaves i x) hi eb st bd).mono (c9 _) (by omega)) st⟩
  .rw[lm,dX]at g3;rw[cS g3]at q;exact pA cu.at_ ⟨rfl,_,⟨rfl,rfl⟩,pb rfl,b,A,V,.over i "done",rfl,cu.b,cu.bd,cu.lim ZI (by omega),hi,over "done" q⟩
def OI:Fq P w K mg base 2 a.a9 (Pw a):=by
 refine fq G.a9.toDG yz (λr u=>⟨_,(pq (pO 2 yz (pE (pE v0)))
 (pz (pG (qg rX rfl G.w rZ (qm (qG rfl (xn (ix:=[Db,Db,Fa 2,Fa 1]) (N':=["i","on","wishes","call"])) (uH rfl G.aQ (qm (pE v0))) (tY (n:=2) rfl (qk (qx 0) (qk (qx 1) sQ))) (ve (W3.b3 (yG (uM U1) (yt (uM (Eh (R:=GM a) (pL U2 v0) (UO G) (r.mono (by first|decide|omega)) (qm U3))))))) v0)))))),?_⟩)
 rintro ds M Q ⟨A,V,l,L,k,c,rfl,rd,hk,q⟩
 obtain⟨ph,gr,ws,YJ,pr,gd,rs,i1,i2,i3,i4,i5,i6,i7,i8⟩:=rd.pl;refine pA rd.bd.at_ (pk rfl (pA i1 (pk rfl ?_)));refine pA rd.bd.at_ (pk rfl (pk rd.bd.on ?_));refine JE (rest:=[Fa (.ref ws),Fa (.ref k.p)]) rd.on rd.ok.oh rd.bd.on (λi w0 ew y kk hkk=>?_) λp hp=>pk pH ⟨M,.new hp,q⟩;obtain⟨r,e1,e2⟩:=Bh i8 ew;exact pk i4 (pk e1 (pA e2 ⟨by cases w0.2<;>rfl,_,⟨w0.2,rfl,rfl⟩,Si e2 hk hkk⟩))
def Ql:Fq P w K mg base 10 a.ba (Qn a):=by
 refine fq G.ba.toDG BR (λr u=>⟨_,(pq (pO 3 BR (BS (R:=Lc a) (pL (pE (pE v0)) (pL U2 pB)) (Q7 G) (r.mono (by first|decide|omega))))
 (pq (pQ (pZ v0 G.c.toCls G.k (qZ G) r (qm (pP (pX pC (rb U1 (pL U3 pB) U2))))))
 (pq (pQ (pZ v0 G.c.toCls G.k (qZ G) r (qm (pP (sf pC U1)))))
 (pq (pQ (pZ v0 G.c.toCls G.k (qZ G) r (qm (pP (pX pC (pX U1 (rb (pL U3 pB) (pL U3 pB) (pL U3 pB))))))))
 (pz (pQ (pJ (JF G) r G.ag (sf v0 U1)))))))),?_⟩)
 rintro ds M Q ⟨M0,b,A,V,l,c,n,i,k,r,rfl,cu,hc,hn,wf,du,q⟩
 obtain⟨ph,gr,ws,YJ,pr,gd,rs,i1,i2,i3,i4,i5,i6,i7,i8⟩:=cu.pl;cases du with
 | on k0 _ _ b0 x y m hk hs hw hl hy=>
  have hi:=(cT.mp hk).1;rw[zY hw]at q;rw[rO]at q;obtain⟨r0,e1,e2⟩:=Bh i8 hw;refine pA cu.at_ (pk rfl (pA i1 (pk rfl (pk (xP _ _) (pk i4 (pk e1 (pA e2 ⟨rfl,_,⟨⟨.silent x y m,rfl⟩,rfl⟩,r0,.silent x y m,rfl,e2,?_⟩)))))));refine pA cu.at_ ⟨rfl,_,⟨rfl,rfl⟩,pb rfl,b,A,V,.asks i x (k::r),rfl,cu.b,cu.bd,cu.lim hc (by omega),trivial,λM1 A1 eb1 XU bd1=>?_⟩;have c1:=cu.after (e:=.asks i x (k::r)) trivial eb1 XU bd1;refine pA c1.at_ ⟨rfl,_,⟨rfl,rfl⟩,pb rfl,b,A1,_,.quiet i,rfl,c1.b,c1.bd,c1.lim hc (by omega),hi,λM2 A2 ZY Xk YK=>?_⟩;have c2:=c1.after (e:=.quiet i) hi ZY Xk YK;have X8:i<(qb (qb V (.asks i x (k::r))) (.quiet i)).calls.length:=by show i<(V.calls.modify i pD.nG).length;rw[gc];exact hi
  refine pA c2.at_ ⟨rfl,_,⟨rfl,rfl⟩,pb rfl,b,A2,_,.leg ⟨i,x,y,x⟩,rfl,c2.b,c2.bd,c2.lim hc (by omega),X8,λM3 A3 eb3 X9 bd3=>?_⟩;have c3:=c2.after (e:=.leg ⟨i,x,y,x⟩) X8 eb3 X9 bd3;exact⟨M0,b,A3,_,l,c,n+3,i,_,rfl,c3,hc,by omega,Fy wf hk hs hy,FN hk,λM4 A4 c4 st4=>⟨M4,.refl,q M4 A4 (c4.mono (c9 _) (by omega)) (XU.trans (Xk.trans (X9.trans st4)))⟩⟩
def Px:Fq P w K mg base 11 a.bb (Oi a):=by
 refine fq G.bb.toDG tT (λr u=>⟨_,(pq (pQ (pZ v0 G.c.toCls G.k (qZ G) r (qm (pP (qm pC)))))
 (pz (uZ fj rfl (uH rfl G.aQ (qm (qg uj rfl G.z uk (qm (pE v0))))) (tY (n:=2) rfl (qk (rC 1 tT) (qk (rC 2 tT) sQ)))
 (pz (pT (pK u (pE U2) pC)
 (pq (pO 3 tT (pJ (OI G) r G.a9 (sf v0 U2)))
 (pz (pT (pK u (pU qy rfl G.g qv (qm U3)) pB)
 (pz (pQ (pJ (Ql G) r G.ba (rb v0 U1 U3))))
 pN)))
 pN))))),?_⟩)
 rintro ds M Q ⟨M0,b,A,V,l,c,n,rfl,cu,hc,hn,wf,q⟩
 refine pA cu.at_ ⟨rfl,_,⟨rfl,rfl⟩,pb rfl,b,A,V,.turn,rfl,cu.b,cu.bd,cu.lim (by omega) (by omega),trivial,λM1 A1 eb st bd=>?_⟩;have c1:=cu.after (e:=.turn) trivial eb st bd;have wf1:=Eu wf;have lv:(qb V .turn).calls.length=V.calls.length:=cO ..;have ev:yk l V=.turn::qM l (List.range V.calls.length) (qb V .turn):=rfl;rw[ev,<-lv]at q;have q:∀M' A',uw a M0 M' b A' (qF (qb V .turn) (qM l (List.range (qb V .turn).calls.length) (qb V .turn))) l c (n+1+33*c)->qR A M A' M'->Q .mG M':=q;have c1:uw a M0 M1 b A1 (qb V .turn) l c (n+1):=c1;generalize qb V .turn=V1 at c1 wf1 q bd;refine pA c1.at_ (pk rfl (pk c1.bd.ca λr hr=>pk pH ?_));have t:=qr.new (c:=.lst (A1.cs.map λk=>D.ref k.p)) hr;have lr:=@pH M1 r (A1.cs.map λk=>D.ref k.p);have nf:=c1.bd.nH hr;have c2:=c1.sub t;have cl:V1.calls.length<=c:=c1.sz.ca;generalize pI M1 r (.lst (A1.cs.map λk=>D.ref k.p))=M2 at t lr c2 ⊢;refine wK (ue 0 (A1.cs.map λk=>D.ref k.p)) (λpre U M'=>(∃A',uw a M0 M' b A' (qF V1 (qM l (List.range pre.length) V1)) l c (n+1+33*pre.length)/\qR A1 M2 A' M')/\∃y1 y2 y3,U=[Fa (.ref b),y1,y2,y3]) (λpre U M' j=>?_) _ [] _ _ rfl ⟨⟨A1,c2,.refl⟩,Db,Db,Db,rfl⟩ ?_ ?_
 .obtain⟨⟨A',c3,X9⟩,_⟩:=j;exact rY (X9.1 r _ nf (pY lr))
 .rintro pre d post e U M' ⟨⟨A',c3,X9⟩,y1,y2,y3,rfl⟩ nx Xq
  rw[cR,dG,iM,DV,rO]at Xq;have wf3:=EN cu.ok (List.range pre.length) wf1;generalize qF V1 (qM l (List.range pre.length) V1)=V3 at c3 wf3 Xq;obtain⟨x,hx,rfl⟩:=Bo e;rw[df]at hx;cases ek:A1.cs[pre.length]? with
  | none=>rw[ek]at hx;cases hx
  | some k=>
   rw[ek]at hx;have hx:D.ref k.p=x:=cY hx;subst hx;have hp:pre.length<c:=by have:=(cT.mp ek).1;rw[c1.bd.len]at this;omega
   have ek3:=X9.2.2.1 _ k ek;have hi:pre.length<V3.calls.length:=by rw[<-c3.bd.len];exact(cT.mp ek3).1
   have ec:V3.calls[pre.length]?=Fa V3.calls[pre.length]:=cQ hi;generalize V3.calls[pre.length]=cv at ec;have ca:=c3.bd.cs _ k cv ek3 ec;obtain⟨ad,md,g1,_⟩:=ca;refine⟨rfl,pA g1 (pk rfl ?_)⟩;have hdv:wg l V3 pre.length=if (cv.st=="rings")=pc then vq l V3 (Fg cv)else[]:=by unfold wg;rw[ec];rfl
   have mG:wg l V3 pre.length=[]->∀y1' y2' y3',nx [Fa (.ref b),y1',y2',y3'] M':=λh0 y1' y2' y3'=>Xq _ _ ⟨⟨A',by rw[h0];exact c3.mono (c9 _) (by omega),X9⟩,_,_,_,rfl⟩;have du:=Iq (V:=V3) (i:=pre.length) cu.ok;refine qK (c:=cv.st=="rings") (λg=>?_) (λg=>mG (by rw[hdv,cS g]) _ _ _);rw[cV g]at hdv;refine⟨A',V3,l,_,k,cv,by rw[c3.b],c3.rd (by omega) wf3,c3.bd.cs _ k cv ek3 ec,?_⟩;rw[<-hdv];cases hdq:wg l V3 pre.length with
   | nil=>exact mG hdq _ _ _
   | cons k0 r0=>rw[hdq]at du Xq;refine AM (dP (by rw[cO];show(0:Int)<((k0::r0).length:Nat);rw[dU];omega)) ?_;exact⟨M0,b,A',V3,l,c,_,pre.length,k0,r0,rfl,c3,by omega,by omega,wf3,du,λM4 A4 c4 st4=>Xq _ _ ⟨⟨A4,c4.mono (c9 _) (by omega),X9.trans st4⟩,_,_,_,rfl⟩⟩
 .rintro U M' ⟨⟨A',c3,X9⟩,y1,y2,y3,rfl⟩
  have hl:(ue 0 (A1.cs.map λk=>D.ref k.p)).length=V1.calls.length:=by rw[uU,cO,c1.bd.len]
  rw[hl]at c3;exact⟨M',.refl,q M' A' (c3.mono (c9 _) (by omega)) (st.trans ((qR.sub t).trans X9))⟩
inductive QV(l:pF)(V:qo):tR->Ev->Prop
 | sw (b:Bool) (i:Nat):i<V.on.length->QV l V (.sw b (i:Nat)) (.sw b i)
 | answer (x:Str) (i:Nat) (c:pD):V.calls[i]?=Fa c->QV l V (.num "answer" x [(i:Nat)]) (.talks i [c.cr,x])
 | hold (x:Str) (i:Nat) (c:pD):V.calls[i]?=Fa c->QV l V (.num "hold" x [(i:Nat)]) (.held i x)
 | back (x:Str) (i:Nat) (c:pD):V.calls[i]?=Fa c->QV l V (.num "back" x [(i:Nat)]) (.talks i c.ms)
 | two (w x:Str) (i j:Nat) (c d:pD):i≠j->w="hand"\/w="join"->V.calls[i]?=Fa c->V.calls[j]?=Fa d->rN c.ms x≠[]->rN d.ms x≠[]->QV l V (.num w x [(i:Nat),(j:Nat)]) (.merge i j (if (w=="hand")=pc then[qD c x,qD d x]else[x,qD c x,qD d x]))
def Gv(a:Ad):rm:=λds M Q=>Hi λA V l e ev=>ds=[.ref A.b,tR.d e]/\Rd a M A V l/\QV l V e ev/\Q ev.d M
def SX(a:Ad):rm:=λds M Q=>Tf λM0 b A V l c n e=>ds=[.ref b,tR.d e]/\uw a M0 M b A V l c n/\c<10000/\n<=5000000/\WF l V/\e.nv/\wU l V e=Db/\∀M' A',uw a M0 M' b A' (qF V (uW l V e)) l (c+1) (n+40+33*c)->qR A M A' M'->Q .mG M'
def WZ(a:Ad)(M0 M:Mp)(b:Uf)(A:tq)(V:qo)(l:pF)(c n:Nat)(e:tR)(Q:DK):Prop:=wU l V e=Db->∀M' A' r,uw a M0 M' b A' (qF V (uW l V e)) l (c+1) (n+40+33*c)->qR A M A' M'->M' r=Db->Q (.ref r) (pI M' r (.lst ((uW l V e).map Ev.d)))
def UA(a:Ad):GI:=λds M Q R=>Tf λM0 b A V l c n e=>ds=[.ref b,tR.d e]/\uw a M0 M b A V l c n/\c<10000/\n<=5000000/\WF l V/\e.nv/\WZ a M0 M b A V l c n e Q/\(∀w,wU l V e=Fa w->R a.I (Fa ("word",.str w)) M)
def Rd.call{V:qo}(rd:Rd a M A V l){i:Nat}{c:pD}(e:V.calls[i]?=Fa c):∃k,A.cs[i]?=Fa k/\rR a M (A.lists++V.fo) k c:=by
 have hi:i<A.cs.length:=by rw[rd.bd.len];exact(cT.mp e).1
 exact⟨A.cs[i],cQ hi,rd.bd.cs i _ c (cQ hi) e⟩
def yT{i:Int}(h:0<=i):∃m:Nat,i=(m:Int):=d6 h
def Jv{c:pD}{x:Str}(nd:c.ms.Nodup)(h2:c.ms.length=2)(hx:x∈c.ms):rN c.ms x≠[]:=λz=>by have:=xG nd hx;rw[z]at this;simp only[dB]at this;omega
def Ll:Fq P w K mg base 2 a.bc (Gv a):=by
 refine fq G.bc.toDG tP (λr u=>⟨_,(pq (pO 2 tP (pL U1 pB))
 (pq (pT (pK u U2 (pP (sf pC pC)))
 (pz (pG (pP (sf U2 (pL U1 pB)))))
 pN)
 (pq (pO 3 tP (pL U1 pB))
 (pq (pO 4 tP (pL U1 pB))
 (pq (pO 5 tP (pL (pE v0) v4))
 (pq (pT (pK u U2 pC)
 (pz (pG (pP (rb pC v4 (pP (sf (pE v5) U3))))))
 pN)
 (pq (pT (pK u U2 pC)
 (pz (pG (pP (rb pC v4 U3))))
 pN)
 (pq (pT (pK u U2 pC)
 (pz (pG (pP (rb pC v4 (qg rX rfl G.w rZ (qm (pE v5)))))))
 pN)
 (pq (pO 6 tP (pL U1 pB))
 (pq (pO 7 tP (pP (sf (pZ v5 G.e.toCls G.aI (Gi G) r (qm U3)) (pZ (pL (pE v0) v6) G.e.toCls G.aI (Gi G) r (qm U3)))))
 (pq (pT (pK u U2 pC)
 (pz (pG (pP (pX pC (rb v4 v6 v7)))))
 pN)
 (pz (pG (pP (pX pC (rb v4 v6 (pW (pP (qm U3)) v7))))))))))))))))),?_⟩)
 rintro ds M Q ⟨A,V,l,e,ev,rfl,rd,sg,q⟩
 cases sg with
 | sw b i hi=>
  cases b with
  | true=>exact⟨pb rfl,rfl,rfl,pb rfl,M,.refl,q⟩
  | false=>exact⟨pb rfl,rfl,rfl,pb rfl,M,.refl,q⟩
 | answer x i c hc=>obtain⟨k,ek,ca⟩:=rd.call hc;obtain⟨ad,md,h1,h2,h3,h4,n1,n2⟩:=ca;refine⟨pb rfl,rfl,rfl,?_⟩;refine pA rd.bd.at_ (pk rfl (pk rfl (pk rd.bd.ca (pk (rq ek) ?_))));exact pA h1 (pk rfl ⟨pb rfl,pb rfl,M,.refl,q⟩)
 | hold x i c hc=>obtain⟨k,ek,ca⟩:=rd.call hc;refine⟨pb rfl,rfl,rfl,?_⟩;refine pA rd.bd.at_ (pk rfl (pk rfl (pk rd.bd.ca (pk (rq ek) ?_))));exact⟨pb rfl,M,.refl,q⟩
 | back x i c hc=>obtain⟨k,ek,ca⟩:=rd.call hc;obtain⟨ad,md,h1,h2,h3,h4,n1,n2⟩:=ca;refine⟨pb rfl,rfl,rfl,?_⟩;refine pA rd.bd.at_ (pk rfl (pk rfl (pk rd.bd.ca (pk (rq ek) ?_))));exact pA h1 (pk rfl (pk h4 ⟨pb rfl,M,.refl,q⟩))
 | two wd x i j c d Yd hw hc hd nc nd=>
  obtain⟨k,ek,ca⟩:=rd.call hc;obtain⟨k',ek',ca'⟩:=rd.call hd;have ca0:=ca;have ca1:=ca';obtain⟨ad,md,h1,h2,h3,h4,n1,n2⟩:=ca0;obtain⟨ad',md',f1,_⟩:=ca1;obtain⟨y1,r1,e1⟩:=fZ nc;obtain⟨y2,r2,e2⟩:=fZ nd;have o1:qD c x=y1:=by unfold qD;rw[e1];rfl
  have o2:qD d x=y2:=by unfold qD;rw[e2];rfl
  rw[o1,o2]at q;rcases hw with rfl|rfl
  .refine⟨pb rfl,rfl,rfl,?_⟩;refine pA rd.bd.at_ (pk rfl (pk rfl (pk rd.bd.ca (pk (rq ek) ?_))));refine pA h1 ⟨rfl,_,⟨rfl,rfl⟩,_,k,c,x,y1,r1,rfl,ca,(rd.ms c (qJ hc)).2,e1,?_⟩;refine pA rd.bd.at_ (pk rfl (pk rfl (pk rd.bd.ca (pk (rq ek') ?_))));refine pA f1 ⟨rfl,_,⟨rfl,rfl⟩,_,k',d,x,y2,r2,rfl,ca',(rd.ms d (qJ hd)).2,e2,?_⟩;exact⟨pb rfl,pb rfl,M,.refl,q⟩
  .refine⟨pb rfl,rfl,rfl,?_⟩;refine pA rd.bd.at_ (pk rfl (pk rfl (pk rd.bd.ca (pk (rq ek) ?_))));refine pA h1 ⟨rfl,_,⟨rfl,rfl⟩,_,k,c,x,y1,r1,rfl,ca,(rd.ms c (qJ hc)).2,e1,?_⟩;refine pA rd.bd.at_ (pk rfl (pk rfl (pk rd.bd.ca (pk (rq ek') ?_))));refine pA f1 ⟨rfl,_,⟨rfl,rfl⟩,_,k',d,x,y2,r2,rfl,ca',(rd.ms d (qJ hd)).2,e2,?_⟩;exact⟨pb rfl,pb rfl,ft _ _,by show 1+2<=Ch;have hz:=dF;omega,pb rfl,M,.refl,q⟩
def Rn:Fq P w K mg base 12 a.bd (SX a):=by
 refine fq G.bd.toDG MC (λr u=>⟨_,(pq (pO 2 MC (pL U1 pB))
 (pz (pT (pK u U2 pC)
 (pz (pQ (pJ (LV G) r G.a7 (rb v0 (pL U1 pB) (pL U1 pB)))))
 (pz (pT (pK u U2 pC)
 (pz (pQ (pJ (PK G) r G.a8 (rb v0 (pL U1 pB) (pL U1 pB)))))
 (pz (pT (pK u U2 pC)
 (pz (pQ (pJ (Px G) r G.bb (qm v0))))
 (pz (pQ (pZ v0 G.c.toCls G.k (qZ G) r (qm (pJ (Ll G) r G.bc (sf v0 U1))))))))))))),?_⟩)
 rintro ds M Q ⟨M0,b,A,V,l,c,n,e,rfl,cu,hc,hn,wf,hf,hr,q⟩
 have rd:=cu.rd (by omega) wf;have one:∀(ev:Ev),QV l V e ev->uW l V e=[ev]->ev.ok V->ev.nw=0->Bc (M b) λC fs'=>fs'.lookup ("apply":Str)=Db/\∃sp,(C=a.c/\sp=wn a)/\Gv a [.ref b,e.d] M λd M1=>sp [.ref b,d] M1 λ_ M'=>∃Xg,qr Xg M'/\Q .mG Xg:=λev sg he ok h0=>by refine pA cu.at_ ⟨rfl,_,⟨rfl,rfl⟩,A,V,l,e,ev,by rw[cu.b],rd,sg,b,A,V,ev,rfl,cu.b,cu.bd,cu.lim (by omega) (by omega),ok,λM1 A1 eb st bd=>?_⟩;rw[he]at q;have c1:=cu.after ok eb st bd;rw[h0]at c1;exact⟨M1,.refl,q M1 A1 (c1.mono (by omega) (by omega)) st⟩
 cases e with
 | call y z=>obtain⟨h1,h2,h3,h4⟩:=EE hr;exact⟨M0,b,A,V,l,c,n,y,z,rfl,cu,by omega,by omega,Ht wf h1 h2 h3 h4,λM' A' c1 st=>⟨M',.refl,q M' A' (c1.mono (by omega) (by omega)) st⟩⟩
 | turn=>exact⟨M0,b,A,V,l,c,n,rfl,cu,by omega,by omega,wf,λM' A' c1 st=>⟨M',.refl,q M' A' (c1.mono (by omega) (by omega)) st⟩⟩
 | sw b0 i=>
  obtain⟨h1,h2⟩:=T9 hr;obtain⟨i,rfl⟩:=yT h1;cases b0 with
  | true=>exact one (.sw pc i) (.sw pc i h2) rfl h2 rfl
  | false=>exact one (.sw lf i) (.sw lf i h2) rfl h2 rfl
 | num wd x ns=>
  obtain⟨hx,no⟩:=H9 hf hr;cases no with
  | answer i c0 hi hc0 h1 h2 h3=>obtain⟨i,rfl⟩:=yT hi;have lt:=(cT.mp hc0).1;exact one (.talks i [c0.cr,x]) (.answer x i c0 hc0) (eE (λev=>[ev]) (zh hc0)) ⟨lt,by show 2<=100;decide⟩ rfl
  | hang i c0 hi hc0 h1=>obtain⟨i,rfl⟩:=yT hi;exact⟨M0,b,A,V,l,c,n,x,i,c0,rfl,cu,by omega,by omega,hc0,λM' A' c1 st=>⟨M',.refl,q M' A' (c1.mono (by omega) (by omega)) st⟩⟩
  | hold i c0 hi hc0 h1=>obtain⟨i,rfl⟩:=yT hi;have lt:=(cT.mp hc0).1;exact one (.held i x) (.hold x i c0 hc0) (eE (λev=>[ev]) (zh hc0)) lt rfl
  | back i c0 hi hc0 h1 h2=>obtain⟨i,rfl⟩:=yT hi;have lt:=(cT.mp hc0).1;exact one (.talks i c0.ms) (.back x i c0 hc0) (eE (λev=>[ev]) (zh hc0)) ⟨lt,(cu.sz.cs c0 (qJ hc0)).2.2⟩ rfl
  | two _ i j c0 d0 hi hj hw hc0 hd0 h1 h2=>
   obtain⟨i,rfl⟩:=yT hi;obtain⟨j,rfl⟩:=yT hj;have lt:=(cT.mp hc0).1;have lt':=(cT.mp hd0).1;have Yd:=(JM (w:=wd) wf hc0 hd0 h1 h2).1;have k0:=wf.ok _ c0 hc0;have k1:=wf.ok _ d0 hd0;obtain⟨_,u2,u3,_⟩:=FD k0 h1;obtain⟨_,v2,v3⟩:=Ai.mp h2;have sg:=QV.two (l:=l) wd x i j c0 d0 Yd hw hc0 hd0 (Jv k0.mn u2 u3) (Jv k1.mn v3 v2);have ok:(Ev.merge i j (if (wd=="hand")=pc then[qD c0 x,qD d0 x]else[x,qD c0 x,qD d0 x])).ok V:=⟨lt,lt',Yd,by split;exact(by decide:2<=100);exact(by decide:3<=100)⟩;have he:uW l V (.num wd x [(i:Int),(j:Int)])=[.merge i j (if (wd=="hand")=pc then[qD c0 x,qD d0 x]else[x,qD c0 x,qD d0 x])]:=eE (λev=>[ev]) (Hx hc0 hd0);rcases hw with rfl|rfl
   .exact one _ sg he ok rfl
   .exact one _ sg he ok rfl
def KG:xp P w K mg base (CM P w) 1 a.H.f a.H.d a.H.p (wI K "word"):=
 LG G.H.toDG Ck λXl A outer s H E=>Ju (Oc (pv 0) (pv 1))
def UW:VL P w K mg base 13 a.N (UA a):=by
 refine UP G.N.toDG HI (by walk_at "m") (λ_ _ _ _ _ _ R hr hR=>⟨_,(pq (pO 2 HI (pJ (HF G) hr G.a2 (sf v0 U1)))
 (pq (pT (pK (WP hr) U2 sG)
 (pz (J1 G.b2 (KG G) (hr.mono (by first|decide|omega)) G.H.b G.b3 G.H.at_ rfl G.bT hR (qm U2)))
 pN)
 (pq (pO 3 HI (pU qy rfl G.g qv (qm (pE v0))))
 (pq (pQ (pJ (Rn G) hr G.bd (sf v0 U1)))
 (pz (pG (rP (pE v0) (sO U3) sR))))))),?_⟩)
 .rintro ds M Q ⟨M0,b,A,V,l,c,n,e,rfl,cu,hc,hn,wf,hf,q,rr⟩
  refine⟨A,V,l,e,by rw[cu.b],cu.rd (by omega) wf,hf,?_⟩;cases er:wU l V e with
  | some w0=>exact⟨_,rfl,rr w0 er⟩
  | none=>
   refine pA cu.at_ (pk rfl (pk cu.bd.lo ?_));refine⟨M0,b,A,V,l,c,n,e,rfl,cu,hc,hn,wf,hf,er,λM' A' c1 st=>?_⟩;refine pA c1.at_ (pk rfl (pk c1.bd.lo λp hp=>?_));have hcut:L3.uY ((qF V (uW l V e)).log.map Ev.d) (Fa (((V.log.map Ev.d).length:Nat):Int)) Db=(uW l V e).map Ev.d:=by rw[JV,dz,Hy _ _ (by rw[cR];omega),List.drop_left]
   rw[hcut];exact⟨_,.refl,q er M' A' p c1 st hp⟩
def P7(a:Ad):rm:=λds M Q=>Tf λM0 b A V l c n e=>ds=[.ref b,tR.d e]/\uw a M0 M b A V l c n/\c<10000/\n<=5000000/\WF l V/\e.nv/\(wU l V e=Db->∀M' A',uw a M0 M' b A' (qF V (uW l V e)) l (c+1) (n+40+33*c)->qR A M A' M'->Q (.bl pc) M')/\(wU l V e≠Db->Q (.bl lf) M)
def JI:Fq P w K mg base 14 a.ak (P7 a):=by
 refine fq G.ak.toDG xw (λr u=>⟨_,(pq (pO 2 xw ww)
 (pq (Qi (Nl (UW G) (r.mono (by first|decide|omega)) rfl G.N.mg G.N.toDG.kp G.N.b (sf v0 U1)) rfl rfl rfl G.bT (λev E'=>
 (pz (pO 2 xw ww))))
 (pz (pG U2)))),?_⟩)
 rintro ds M Q ⟨M0,b,A,V,l,c,n,e,rfl,cu,hc,hn,wf,hf,q,qf⟩
 refine⟨λC _ M'=>(C=a.I/\wU l V e≠Db)/\M=M',?_,?_⟩
 .exact⟨M0,b,A,V,l,c,n,e,rfl,cu,hc,hn,wf,hf,λh M' A' r c1 st hm=>⟨M',.new hm,q h M' A' c1 st⟩,λw h=>⟨⟨rfl,by rw[h];exact λz=>nomatch z⟩,rfl⟩⟩
 .rintro C y M' ⟨⟨rfl,h⟩,rfl⟩
  exact⟨G.b4,M,.refl,qf h⟩
noncomputable def vM(g:uJ):Bool:=g.2.1==("turns":Str)
noncomputable def vo(l:pF):T0 (Str×Int):=(l.groups.filter vM).map λg=>(g.1,0)
noncomputable def V0(p:Uf)(h:Int)(l:pF)(F:QXQ):qo:=⟨p,h,0,[],[],vo l,l.mB.map (·.1),[],F⟩
def ES(a:Ad):rm:=λds M Q=>Hi λb p h F (l:pF)=>ds=[.ref b,.ref p,.int h]/\M b=Fa (.ins a.c [])/\sH a M p l/\rh l/\p≠b/\(∀x∈F,∃c,M x=Fa c)/\∀M' A,A.b=b->so b M M'->(∀x∈A.foot,x=b\/M x=Db)->pM a M' A (V0 p h l F)->Q .mG M'
noncomputable def Nf(g:D):Bool:=match g with
 | .tup (_::.str m::_)=>m=="turns"
 | _=>lf
noncomputable def QJ(d:D):D:=.tup [AK d,.int 0]
def Hq(gs:List uJ):((gs.map rf).filter Nf).map QJ=(gs.filter vM).map λg=>D.tup [.str g.1,.int 0]:=by rw[fM,dS];rfl
def KP(l:pF):((l.groups.filter vM).map λg=>((Sum.inr g.1:qX),D.int 0))=tN (vo l):=by unfold tN vo;rw[dS];rfl
noncomputable def bF(p:Uf)(h:Int)(ca le nx YL:Uf)(k:Nat):T0 (Str×D):=List.take (α:=Str×D) k [("plan",.ref p),("hour",.int h),("turn",.int 0),("calls",.ref ca),("legs",.ref le),("nexts",.ref nx),("on",.ref YL)]
def Hf:Fq P w K mg base 1 a.R (ES a):=by
 refine fq G.R.toDG CZ (λr u=>⟨_,(pq (qd v0 U1)
 (pq (qd v0 U2)
 (pq (qd v0 pB)
 (pq (qd v0 (qO sF))
 (pq (qd v0 (qO sF))
 (pq (qd v0 (qg (EM rfl) rfl G.bS EA (qm (qG rfl (xn (ix:=[Db]) (N':=["group"])) (qH (pE U1)) (qx 0) (ve (pK u (pL v0 pB) pC)) (pP (sf (pL v0 pB) pB))))))
 (pq (qd v0 (qg uj rfl G.z uk (qm (pE U1))))
 (pz (qd v0 (qO sF)))))))))),?_⟩)
 rintro ds M Q ⟨b,p,h,F,l,rfl,hb,⟨ph,gr,ws,on,pr,gd,rs,i1,i2,i3,i4,i5,i6,i7,i8⟩,ok,nbp,hF,q⟩
 have hz:=dF;have l2:=ok.g3;refine pA hb ⟨(G.E "plan" rfl),by show 0<1000;decide,?_⟩;have k1:so b M (pI M b (.ins a.c [("plan",.ref p)])):=.put;have b1:pI M b (.ins a.c [("plan",.ref p)]) b=Fa (.ins a.c [("plan",.ref p)]):=pR;show uL _ _ _ _ (pI M b (.ins a.c [("plan",.ref p)]));generalize pI M b (.ins a.c [("plan",.ref p)])=N1 at k1 b1 ⊢;refine pA b1 ⟨(G.E "hour" rfl),by show 1<1000;decide,?_⟩;have k2:=k1.trans (so.put (p:=b) (c:=.ins a.c [("plan",.ref p),("hour",.int h)]));have b2:pI N1 b (.ins a.c [("plan",.ref p),("hour",.int h)]) b=Fa (.ins a.c [("plan",.ref p),("hour",.int h)]):=pR;show uL _ _ _ _ (pI N1 b (.ins a.c [("plan",.ref p),("hour",.int h)]));generalize pI N1 b (.ins a.c [("plan",.ref p),("hour",.int h)])=N2 at k2 b2 ⊢;refine pA b2 ⟨(G.E "turn" rfl),by show 2<1000;decide,?_⟩;have k3:=k2.trans (so.put (p:=b) (c:=.ins a.c (bF p h 0 0 0 0 3)));have b3:pI N2 b (.ins a.c (bF p h 0 0 0 0 3)) b=Fa (.ins a.c (bF p h 0 0 0 0 3)):=pR;show uL _ _ _ _ (pI N2 b (.ins a.c (bF p h 0 0 0 0 3)));generalize pI N2 b (.ins a.c (bF p h 0 0 0 0 3))=N3 at k3 b3 ⊢;clear k1 k2 b1 b2;refine⟨pb rfl,λca hca=>?_⟩;obtain⟨n4,e4,k4,c4,b4⟩:=tK (fs':=(bF p h ca 0 0 0 4)) (c:=.lst []) b3 hca;refine pA e4 ⟨(G.E "calls" rfl),by show 3<1000;decide,?_⟩;show uL _ _ _ _ (pI (pI N3 ca (.lst [])) b (.ins a.c (bF p h ca 0 0 0 4)));generalize pI (pI N3 ca (.lst [])) b (.ins a.c (bF p h ca 0 0 0 4))=N4 at k4 c4 b4 ⊢;have Zi:=k3.trans k4;have z1:M ca=Db:=rL k3 b3 hca;have lc4:oX N4 ca=Fa []:=rY c4;refine⟨pb rfl,λle hle=>?_⟩;obtain⟨n5,e5,k5,c5,b5⟩:=tK (fs':=(bF p h ca le 0 0 5)) (c:=.lst []) b4 hle;refine pA e5 ⟨(G.E "legs" rfl),by show 4<1000;decide,?_⟩;show uL _ _ _ _ (pI (pI N4 le (.lst [])) b (.ins a.c (bF p h ca le 0 0 5)));generalize pI (pI N4 le (.lst [])) b (.ins a.c (bF p h ca le 0 0 5))=N5 at k5 c5 b5 ⊢;have Zj:=Zi.trans k5;have z2:M le=Db:=rL Zi b4 hle;have le5:oX N5 le=Fa []:=rY c5;have mcl:le≠ca:=λz=>by rw[z,pY lc4]at hle;cases hle
 have lc5:=k5.lst (pV lc4 b4) lc4;have p5:=Zj _ _ nbp i1;have g5:=Zj.lst (pV i3 hb) i3;clear k3 k4 k5 Zi lc4 c4 c5 e4 e5 b3 b4;refine pA p5 (pk rfl (pk g5 ?_));refine sT (f:=QJ) (t:=Nf) g5 _ [] _ (by rw[cO];simp only[dB];omega) (λd hd k hk=>?_) (λd hd _ k hk=>?_) λq1 Yc=>?_
 .obtain⟨v,_,rfl⟩:=dq.mp hd;exact hk
 .obtain⟨v,_,rfl⟩:=dq.mp hd;exact⟨pb rfl,hk⟩
 rw[dQ,Hq];have ZS:=qr.new (c:=.lst ((l.groups.filter vM).map λg=>D.tup [.str g.1,.int 0])) Yc;refine pk pH (pk (wN (λg:uJ=>g.1) (λ_=>D.int 0) _) ⟨yK (il (List.Sublist.map _ fW) (il (jn _ _) ok.nd)),λnx Xq=>?_⟩);have z3:M nx=Db:=rL Zj b5 (ZS.none Xq);obtain⟨n6,e6,k6,c6,b6⟩:=tK (fs':=(bF p h ca le nx 0 6)) (c:=.dk ((l.groups.filter vM).map λg=>((Sum.inr g.1:qX),D.int 0))) (ZS _ _ b5) Xq;refine pA e6 ⟨(G.E "nexts" rfl),by show 5<1000;decide,?_⟩;have k6:=ZS.keep.trans k6;have Y5:wb "nexts" (.ref nx) (bF p h ca le 0 0 5)=(bF p h ca le nx 0 6):=rfl;rw[Y5];generalize pI (pI (pI N5 q1 (.lst ((l.groups.filter vM).map λg=>D.tup [.str g.1,.int 0]))) nx (.dk ((l.groups.filter vM).map λg=>((Sum.inr g.1:qX),D.int 0)))) b (.ins a.c (bF p h ca le nx 0 6))=N6 at k6 b6 c6 ⊢;have x6:zp N6 nx=Fa ((l.groups.filter vM).map λg=>((Sum.inr g.1:qX),D.int 0)):=BV c6;have kk6:=Zj.trans k6;have lc6:=k6.lst (pV lc5 b5) lc5;have le6:=k6.lst (pV le5 b5) le5;have p6:=kk6 _ _ nbp i1;have o6:=kk6.lst (pV i5 hb) i5;clear Zj k6 lc5 p5 g5 e6 c6;refine pA p6 (pk rfl (pk o6 λYL hon=>?_));have z4:M YL=Db:=rL kk6 b6 hon;obtain⟨n7,e7,k7,c7,b7⟩:=tK (fs':=(bF p h ca le nx YL 7)) (c:=.lst (l.mB.map λw=>D.bl w.1)) b6 hon;refine pA e7 ⟨(G.E "on" rfl),by show 6<1000;decide,?_⟩;have Y5:wb "on" (.ref YL) (bF p h ca le nx 0 6)=(bF p h ca le nx YL 7):=rfl;rw[Y5];generalize pI (pI N6 YL (.lst (l.mB.map λw=>D.bl w.1))) b (.ins a.c (bF p h ca le nx YL 7))=N7 at k7 b7 c7 ⊢;have kk7:=kk6.trans k7;have lc7:=k7.lst (pV lc6 b6) lc6;have le7:=k7.lst (pV le6 b6) le6;have x7:=k7.dk (Cu x6 b6) x6;have lo7:oX N7 YL=Fa ((l.mB.map (·.1)).map D.bl):=by rw[dS];exact rY c7
 refine⟨pb rfl,λlg hlg=>?_⟩;obtain⟨n8,e8,k8,c8,b8⟩:=tK (fs':=tX (.ref p) h 0 ca le nx YL lg) (c:=.lst []) b7 hlg;refine pA e8 ⟨(G.E "log" rfl),by show 7<1000;decide,_,.refl,?_⟩;have apart:∀{N:Mp} {x y:Uf} {ds:T0 D},N x=Db->oX N y=Fa ds->x≠y:=λ{N x y ds} h1 h2 z=>by have:=pY h2;rw[<-z,h1]at this;cases this
 have y5:=rL kk7 b7 hlg;refine q _ ⟨b,ca,le,nx,YL,lg,[]⟩ rfl (kk7.trans k8) (λx hx=>?_) ⟨b8,k8.lst (pV lc7 b7) lc7,k8.lst (pV le7 b7) le7,?_,k8.lst (pV lo7 b7) lo7,rY c8,rfl,λi k c e=>by simp at e,?_,dM.mpr ⟨dv,eC⟩,λx hx=>?_⟩
 rotate_right
 .by_cases z:x=b
  .exact⟨_,by rw[z];exact b8⟩
  .obtain⟨c,e⟩:=hF x hx;exact⟨c,(kk7.trans k8) x c z e⟩
 .have hx:x∈[b,nx,ca,le,YL,lg]:=by
   unfold tq.foot tq.lists at hx
   simpa using hx
  simp only[cW,dv,eF]at hx;rcases hx with rfl|rfl|rfl|rfl|rfl|rfl
  .exact .inl rfl
  .exact .inr z3
  .exact .inr z1
  .exact .inr z2
  .exact .inr z4
  .exact .inr y5
 .show zp _ nx=Fa (tN (vo l));rw[<-KP];exact k8.dk (Cu x7 b7) x7
 .have m1:=apart hlg lc7;have m2:=apart hlg le7;have m3:=apart hlg lo7;have m4:=apart hon lc6;have m5:=apart hon le6;show[ca,le,YL,lg].Nodup;simp only[dM,cW,dv,eF,fF,not_false_eq_true,eC,and_true];exact⟨⟨dH mcl,dH m4,dH m1⟩,⟨dH m5,dH m2⟩,dH m3⟩
def TJ{p:Uf}{F:QXQ}(ok:rh l):WF l (V0 p h l F):=by
 refine⟨λi c e=>by simp[V0]at e,λi j ci cj x e=>by simp[V0]at e,λx hx=>?_,λi j ci cj x e=>by simp[V0]at e,λz hz ht=>?_⟩
 .show((0:Nat):Int)<=wQ l x;unfold wQ;cases e:l.mU x with
  | none=>exact Int.le_refl _
  | some v=>have:=(ok.po v (gf e)).l1;show(0:Int)<=v.2.1;omega
 .show ∃v,(vo l).find? (λp=>decide (p.1=z))=Fa v/\_;unfold pF.mI at ht;cases e:l.group z with
  | none=>rw[e]at ht;exact absurd ht (by decide)
  | some g=>
   rw[e]at ht;have hg:=gf e;have hn:g.1=z:=by simpa using lY e
   have hm:((g.1,0):Str×Int)∈vo l:=dq.mpr ⟨g,fh.mpr ⟨hg,ht⟩,rfl⟩;cases q:(vo l).find? (λp=>decide (p.1=z))with
   | none=>exact absurd (gL.mp q _ hm) (by simp[hn])
   | some v=>refine⟨v,rfl,?_⟩;obtain⟨g',_,rfl⟩:=dq.mp (gf q);exact⟨Int.le_refl _,Int.natCast_nonneg _⟩
noncomputable def qo.at_(V:qo)(p:Uf)(F:QXQ):qo:={V with p:=p,fo:=F}
noncomputable def AL(c:pD):D:=.tup [.str c.st,.str c.cr,.tup (c.way.map D.str),.tup (c.at_.map D.str),.tup (c.ms.map D.str),CT c.hd,.int c.si,CT c.wd]
noncomputable def Uw(V:qo):D:=.tup [.int V.t,.tup (V.calls.map AL),.tup ((tj V.ps).map xO),.tup (V.on.map D.bl)]
def QC(a:Ad):rm:=λds M Q=>C4 λL k c=>ds=[.ref k.p]/\rR a M L k c/\Q (AL c) M
def HZ(a:Ad):rm:=λds M Q=>CA λA V=>ds=[.ref A.b]/\pM a M A V/\V.calls.length<=10000/\V.ps.length<=3/\Q (Uw V) M
def Ac(ok:rh l):(vo l).length<=3:=by unfold vo;rw[cO];exact dR (fN _ _) ok.g3
def Oq:Fq P w K mg base 1 a.aX (QC a):=by
 refine fq G.aX.toDG xl (λr u=>⟨_,(pq (pO 1 xl (pP (rb (qg rX rfl G.w rZ (qm (pE v0))) (qg rX rfl G.w rZ (qm (pE v0))) (qg rX rfl G.w rZ (qm (pE v0))))))
 (pz (pG (pW (pW (pP (sf (pE v0) (pE v0))) U1) (pP (rb (pE v0) (pE v0) (pE v0))))))),?_⟩)
 rintro ds M Q ⟨L,k,c,rfl,⟨ad,md,h1,h2,h3,h4,_⟩,q⟩
 have hz:=dF;refine pA h1 (pk rfl (pk h2 (pA h1 (pk rfl (pk h3 (pA h1 (pk rfl (pk h4 ⟨pb rfl,?_⟩))))))));refine pA h1 (pk rfl (pA h1 (pk rfl ⟨pb rfl,ft _ _,by show 2+3<=Ch;omega,?_⟩)));exact pA h1 (pk rfl (pA h1 (pk rfl (pA h1 (pk rfl ⟨pb rfl,ft _ _,by show 5+3<=Ch;omega,M,.refl,q⟩)))))
def BI:Fq P w K mg base 2 a.ae (HZ a):=by
 refine fq G.ae.toDG CJ (λr u=>⟨_,(pq (pO 1 CJ (qg rX rfl G.w rZ (qm (qG rfl (xn (ix:=[Db]) (N':=["call"])) (qH (pE v0)) (qx 0) rH (pJ (Oq G) r G.aX (qm v0))))))
 (pz (pG (pP (pX (pE v0) (rb U1 (qg rX rfl G.w rZ (qm (E9 rfl (pE v0) rfl G.cx))) (qg rX rfl G.w rZ (qm (pE v0))))))))),?_⟩)
 rintro ds M Q ⟨A,V,rfl,bd,XE,h3,q⟩
 have hz:=dF;refine pA bd.at_ (pk rfl (pk bd.ca ?_));refine yf (A.cs.map λk=>D.ref k.p) (λpre acc U M'=>M=M'/\acc=(V.calls.take pre.length).map AL/\∃y,U=[y]) (λ_ _ _ M' j=>by rw[<-j.1];exact bd.ca) _ [] [] _ _ rfl ?_ ⟨rfl,rfl,Db,rfl⟩ ?_ ?_
 .rw[cO,bd.len];simp only[dB];omega
 .rintro pre d post e acc U M' ⟨rfl,rfl,y,rfl⟩ k hk
  obtain⟨ka,c,e1,e2,rfl,hc,et⟩:=EU bd e;refine⟨_,ka,c,rfl,hc,hk _ _ _ ⟨rfl,?_,_,rfl⟩⟩;rw[cR,dG,et,dz];rfl
 .rintro acc U M' ⟨rfl,rfl,y,rfl⟩ p1 Yp
  rw[cO,bd.len,eY];refine pk pH ?_;have s1:=qr.new (c:=.lst (V.calls.map AL)) Yp;generalize pI M p1 (.lst (V.calls.map AL))=M1 at s1 ⊢;refine pA (s1 _ _ bd.at_) (pk rfl (pA (s1 _ _ bd.at_) (pk rfl ⟨V.ps,s1.dk bd.nx,h3,λS hS=>pk pH ?_⟩)));have s2:=s1.trans (qr.new (c:=.lst ((tj V.ps).map xO)) hS);generalize pI M1 S (.lst ((tj V.ps).map xO))=M2 at s2 ⊢;exact pA (s2 _ _ bd.at_) (pk rfl (pk (s2.lst bd.on) ⟨pb rfl,M,s2,q⟩))
def Ev.oC:Ev->Prop
 | .turn=>False
 | .sw _ _=>False
 | _=>True
def Ev.noN:Ev->Prop
 | .next _ _=>False
 | _=>True
theorem E4:∀{es:T0 Ev} {V:qo},(∀e∈es,e.noN)->(qF V es).ps=V.ps
 | [],_,_=>rfl
 | e::r,V,h=>(E4 (es:=r) (V:=qb V e) λx hx=>h x (dw _ hx)).trans (by have:=h e dD;cases e<;>first|rfl|cases this)
theorem zm(i:Nat):∀(st:sr) (q:Option Str),∀e∈rB i q st,e.oC/\e.noN
 | [],_,e,h=>by unfold rB at h;cases h
 | (y,gs)::r,Db,e,h=>by
  rcases cW.mp (show e∈Ev.asks i y gs::rB i (Fa y) r from h)with rfl|h
  .exact⟨trivial,trivial⟩
  .exact zm i r _ e h
 | (y,gs)::r,Fa u,e,h=>by
  rcases cW.mp (show e∈Ev.leg ⟨i,u,y,u⟩::Ev.asks i y gs::rB i (Fa y) r from h)with rfl|h
  .exact⟨trivial,trivial⟩
  rcases cW.mp h with rfl|h
  .exact⟨trivial,trivial⟩
  .exact zm i r _ e h
def IJ{st:sr}:∀e∈uo i st en,e.oC/\e.noN:=λe h=>by
 unfold uo at h;cases en with
 | ring ns=>
  dsimp only at h;cases q:st.getLast? with
  | none=>rw[q]at h;cases h
  | some s0=>rw[q]at h;rw[cX.mp h];exact⟨trivial,trivial⟩
 | _=>cases h
def Pb{V:qo}:∀e∈tz l V i en,e.oC:=λe h=>by
 cases en with
 | rings z ps=>
  rcases dI.mp (show e∈(if (l.mI z=="turns")=pc then[Ev.next z (Ph (l.mz z) (ps.headD Str.empty))]else[])++[.rings i ps]from h)with g|g
  .split at g
   .rw[cX.mp g];trivial
   .cases g
  .rw[cX.mp g];trivial
 | breaks z=>
  unfold tz at h;dsimp only at h;split at h
  .rw[cX.mp h];trivial
  .cases h
 | waits z=>rw[cX.mp h];trivial
 | engaged z=>rw[cX.mp h];trivial
 | barred=>rw[cX.mp h];trivial
 | ring ns=>rw[cX.mp h];trivial
def Nt{V:qo}:∀e∈uu l V i,e.oC:=λe h=>by
 unfold uu at h;cases q:V.calls[i]? with
 | none=>rw[q]at h;cases h
 | some c=>
  rw[q]at h;dsimp only[Option.elim]at h;rcases dI.mp h with h|h
  .exact(zm i _ _ e h).1
  rcases dI.mp h with h|h
  .exact(IJ e h).1
  .exact Pb e h
def GA{V:qo}:∀e∈r6 l V i fs,e.oC:=λe h=>by
 unfold r6 at h;split at h
 .rename_i x y n _;dsimp only at h;rcases dI.mp h with h|h
  .simp only[cW,dv,eF]at h;rcases h with rfl|rfl|rfl<;>trivial
  .exact Nt e h
 .cases h
theorem GE:∀(is:T0 Nat) (V:qo),∀e∈qM l is V,e.oC
 | [],_,e,h=>by unfold qM at h;cases h
 | i::r,V,e,h=>by
  unfold qM at h;rcases dI.mp h with h|h
  .exact GA e h
  .exact GE r _ e h
def Qb{ps:T0 (Str×Int)}{z:Str}{n:Int}(h:ps.any (λp=>decide (p.1=z))=pc):(Bw ps z n).length=ps.length:=by unfold Bw;rw[cV h,cO]
def Sm{V V1:qo}(nx:uG l V1)(he:G0 l V i en):(qF V1 (tz l V i en)).ps.length=V1.ps.length:=by
 cases en with
 | rings z ps=>
  show(qF V1 ((if (l.mI z=="turns")=pc then[Ev.next z (Ph (l.mz z) (ps.headD Str.empty))]else[])++[.rings i ps])).ps.length=_;rw[rO];by_cases ht:(l.mI z=="turns")=pc
  .rw[cV ht];refine Qb ?_;obtain⟨v,e,_⟩:=nx z he.1 ht;exact gu.mpr ⟨v,gf e,by simpa using lY e⟩
  .rw[cS ht];rfl
 | breaks z=>
  unfold tz;dsimp only;split
  .rfl
  .rfl
 | waits z=>rfl
 | engaged z=>rfl
 | barred=>rfl
 | ring ns=>rfl
def QX{V:qo}{i:Nat}{k:pD}(ok:rh l)(wf:zT l V (Fa i))(hk:V.calls[i]?=Fa k):(qF V (uu l V i)).ps.length=V.ps.length:=by
 have Yi:=wf.ok i k hk;unfold uu;rw[hk];dsimp only[Option.elim];obtain⟨z,hz⟩:∃z,k.way.getLast?=Fa z:=by
  cases e:k.way.getLast? with
  | none=>exact absurd (gC.mp e) Yi.wy.1
  | some z=>exact⟨z,rfl⟩
 rw[show k.way.getLastD Str.empty=z by rw[h9,hz];rfl];have ro:yd l V k.cr (l.nm.length+1) [] (se l V k.cr z k.way.dropLast):=xS ok _ _ _ _ (Yi.wy.2 z (iP hz)) λx hx=>Yi.wy.2 x (iQ _ hx);have eo:=Nv ok wf hk ro.e;generalize se l V k.cr z k.way.dropLast=R at eo;obtain⟨e,st⟩:=R;have e1:(qF (qF V (rB i Db st)) (uo i st e)).ps=V.ps:=(E4 λx hx=>(IJ x hx).2).trans (E4 λx hx=>(zm i st Db x hx).2);rw[rO,rO];refine(Sm (λz hz ht=>?_) eo).trans (eE List.length e1);rw[e1];exact wf.nx z hz ht
theorem JU(ok:rh l):∀(is:T0 Nat) {V:qo},WF l V->(qF V (qM l is V)).ps.length=V.ps.length
 | [],V,_=>by unfold qM;rfl
 | i::r,V,wf=>by
  unfold qM;rw[rO];refine(JU ok r (IV ok wf)).trans ?_;have d:=Iq (V:=V) (i:=i) ok;generalize wg l V i=fs at d;cases d with
  | no=>rfl
  | on c k r b x y n hc hs hk hw hy=>rw[zY hk,rO];exact QX ok (Fy wf hc hs hy) (FN hc)
def TB{V:qo}{e:tR}(ok:rh l)(wf:WF l V)(f:e.nv)(h:wU l V e=Db):(qF V (uW l V e)).ps.length=V.ps.length:=by
 cases e with
 | call y z=>obtain⟨h1,h2,h3,h4⟩:=EE h;obtain⟨k,hk⟩:=NI (V:=V) (y:=y) (z:=z);show(qF V (_++uu l _ _)).ps.length=_;rw[rO];exact QX ok (Ht wf h1 h2 h3 h4) hk
 | turn=>exact JU ok _ (Eu wf)
 | sw b i=>rfl
 | num w x ns=>
  refine eE List.length (E4 λev hev=>?_);obtain⟨_,n⟩:=H9 f h;cases n with
  | answer i c hi hc h1 h2 h3=>rw[cX.mp (show ev∈[C0 V "answer" x i.toNat]from hev),zh hc];trivial
  | hang i c hi hc h1=>
   have hev:ev∈vm V x i.toNat:=hev;unfold vm at hev;rw[hc]at hev;dsimp only[Option.elim]at hev;split at hev
   .rw[cX.mp hev];trivial
   split at hev
   .rcases cW.mp hev with rfl|hev
    .trivial
    split at hev
    .rw[cX.mp hev];trivial
    .cases hev
   split at hev
   .rw[cX.mp hev];trivial
   .rw[cX.mp hev];trivial
  | hold i c hi hc h1=>rw[cX.mp (show ev∈[C0 V "hold" x i.toNat]from hev),zh hc];trivial
  | back i c hi hc h1 h2=>rw[cX.mp (show ev∈[C0 V "back" x i.toNat]from hev),zh hc];trivial
  | two _ i j c d hi hj hw hc hd h1 h2=>rw[cX.mp (show ev∈[By V w x i.toNat j.toNat]from hev),Hx hc hd];trivial
theorem Af(n:Nat):∀ss:QQQ,(ss.map D.str).all (sZ n)=pc
 | []=>rfl
 | s::r=>by rw[dN,eR,Af n r];cases n<;>rfl
theorem Ee(n:Nat):∀ss:T0 Nat,(ss.map λi=>D.int (i:Nat)).all (sZ n)=pc
 | []=>rfl
 | s::r=>by rw[dN,eR,Ee n r];cases n<;>rfl
theorem Ge(n:Nat):∀ss:T0 Bool,(ss.map D.bl).all (sZ n)=pc
 | []=>rfl
 | s::r=>by rw[dN,eR,Ge n r];cases n<;>rfl
def MK{n:Nat}(V:qo):sZ (n+4) (Uw V)=pc:=by
 have c1:∀c∈V.calls,sZ (n+2) (AL c)=pc:=λc hc=>by
  have h0:∀o:Option Str,sZ (n+1) (CT o)=pc:=λo=>by cases o<;>rfl
  have t:∀ss:QQQ,sZ (n+1) (.tup (ss.map D.str))=pc:=λss=>Af n ss;show([D.str c.st,.str c.cr,.tup (c.way.map D.str),.tup (c.at_.map D.str),.tup (c.ms.map D.str),CT c.hd,.int c.si,CT c.wd].all (sZ (n+1)))=pc;simp only[eR,t,h0];rfl
 have c2:sZ (n+3) (.tup (V.calls.map AL))=pc:=by show(V.calls.map AL).all (sZ (n+2))=pc;rw[jy,eA];exact c1
 have c3:sZ (n+3) (.tup ((tj V.ps).map L3.xO))=pc:=by show((tj V.ps).map L3.xO).all (sZ (n+2))=pc;rw[jy,eA];exact λx _=>rfl
 have c4:sZ (n+3) (.tup (V.on.map D.bl))=pc:=Ge (n+2) _;show([D.int V.t,.tup (V.calls.map AL),.tup ((tj V.ps).map L3.xO),.tup (V.on.map D.bl)].all (sZ (n+3)))=pc;simp only[eR,c2,c3,c4];rfl
noncomputable def Bk(c:pD):QQQ:=if (c.st=="talks"||c.st=="held")=pc then c.ms else c.cr::c.at_
def KF(a:Ad):rm:=λds M Q=>C4 λL k c=>ds=[.ref (rE.p k)]/\rR a M L k c/\c.at_.length<=100/\∀r M',qr M M'->oX M' r=Fa ((Bk c).map D.str)->Q (.ref r) M'
noncomputable def Mc(V:qo)(Yl:QQQ):T0 Nat:=(List.range V.calls.length).filter λi=>(V.calls[i]?).elim lf λc=>hasS Yl c.st
def Qv(a:Ad):rm:=λds M Q=>CS λA V l Yl=>ds=[.ref A.b,.tup (List.map D.str Yl)]/\Rd a M A V l/\∀r M',qr M M'->oX M' r=Fa ((Mc V Yl).map λn=>D.int (n:Nat))->Q (.ref r) M'
noncomputable def SQ(V:qo)(Yl:QQQ):D->Bool
 | .int n=>(V.calls[n.toNat]?).elim lf λc=>hasS Yl c.st
 | _=>lf
def J3:Fq P w K mg base 1 a.bp (KF a):=by
 refine fq G.bp.toDG C1 (λr u=>⟨_,(pq (pT (W3.b3 (xF (pK u (pE v0) pC) (xb (pK u (pE v0) pC))))
 (pz (pG (qg uj rfl G.z uk (qm (pE v0)))))
 pN)
 (pz (pG (pW (qO (qm (pE v0))) (qg uj rfl G.z uk (qm (pE v0))))))),?_⟩)
 rintro ds M Q ⟨L,k,c,rfl,⟨ad,md,h1,h2,h3,h4,_⟩,ha,q⟩
 have hz:=dF;unfold Bk at q;refine pA h1 (pk rfl (qK (c:=c.st=="talks") (λg=>?_) (λg=>?_)))
 .rw[g,gQ,cV rfl]at q;exact pA h1 (pk rfl (pk h4 λr hr=>⟨_,.refl,q r _ (.new hr) pH⟩))
 rw[dE.mpr g,fH]at q;refine pA h1 (pk rfl (qK (c:=c.st=="held") (λg=>?_) (λg=>?_)))
 .rw[cV g]at q;exact pA h1 (pk rfl (pk h4 λr hr=>⟨_,.refl,q r _ (.new hr) pH⟩))
 rw[cS g]at q;refine pA h1 (pk rfl ⟨pb rfl,λr1 XZ=>?_⟩);have t1:=qr.new (c:=.lst [D.str c.cr]) XZ;have l1:=@pH M r1 [D.str c.cr];show Bc (pI M r1 (.lst [D.str c.cr]) k.p) _;generalize pI M r1 (.lst [D.str c.cr])=M1 at t1 l1 ⊢;refine pA (t1 _ _ h1) (pk rfl (pk (t1.lst h3) λr2 ZA=>?_));have t2:=qr.new (c:=.lst (c.at_.map D.str)) ZA;refine pk (t2.lst l1) (pk pH ⟨?_,λr3 ZT=>⟨_,.refl,q r3 _ (t1.trans (t2.trans (.new ZT))) pH⟩⟩);rw[cO];show 1+c.at_.length<=Ch;omega
def Oh:Fq P w K mg base 1 a.bq (Qv a):=by
 refine fq G.bq.toDG AO (λr u=>⟨_,(pz (pG (qG rfl (xn (ix:=[Db,Fa 0,Fa 1]) (N':=["_law_k","_law_board","_law_states"])) (vp rfl G.ac (qm (pU qy rfl G.g qv (qm (pE v0))))) (qx 0) (ve (pK u (pE (pL (pE U1) v0)) U2)) v0))),?_⟩)
 rintro ds M Q ⟨A,V,l,Yl,rfl,rd,q⟩
 have hz:=dF;have lc:((A.cs.map λk=>D.ref k.p).length:Int)=(V.calls.length:Nat):=by rw[cO,rd.bd.len]
 have hb:=rd.k;refine pA rd.bd.at_ (pk rfl (pk rd.bd.ca ?_));rw[lc];refine⟨rfl,⟨by omega,by omega⟩,?_⟩;refine sT (f:=id) (t:=SQ V Yl) trivial _ [] _ (by rw[cO,dZ];simp only[dB];omega) (λd hd k hk=>?_) (λd hd _ k hk=>?_) λr hr=>?_
 .obtain⟨i,hi,rfl⟩:=dq.mp hd;rw[fJ]at hi;have hi:i<V.calls.length:=by omega
  obtain⟨k',ek,⟨ad,md,h1,_⟩⟩:=rd.call (cQ hi);have ea:wB (A.cs.map λk=>D.ref k.p) (0+(i:Nat))=Fa (.ref k'.p):=by rw[io];exact rq ek
  refine pA rd.bd.at_ (pk rfl (pk rfl (pk rd.bd.ca (pk ea (pA h1 (pk rfl (pk rfl ⟨rfl,qA _,?_⟩)))))));show k (inD (.str V.calls[i].st) (Yl.map D.str)) M;rw[sJ];have e1:SQ V Yl (.int (0+(i:Nat)))=hasS Yl V.calls[i].st:=by show(V.calls[(0+(i:Int)).toNat]?).elim lf _=_;rw[show(0+(i:Int)).toNat=i by omega,cQ hi];rfl
  show k (hasS Yl V.calls[i].st) M;rw[<-e1];exact hk
 .exact hk
 .refine⟨_,.refl,q r _ (.new hr) (pH.trans (eE Fa ?_))⟩;rw[dQ,g9,fM,show(((V.calls.length:Nat):Int)).toNat=V.calls.length from rfl];unfold Mc;have e1:(SQ V Yl∘λi:Nat=>D.int (0+(i:Nat)))=λi=>(V.calls[i]?).elim lf λc=>hasS Yl c.st:=funext λi=>by show(V.calls[(0+(i:Int)).toNat]?).elim lf _=_;rw[show(0+(i:Int)).toNat=i by omega]
  rw[e1];exact fV λi _=>by rw[io]
noncomputable def GC:Str->QQQ:=λw=>if (w=="answer")=pc then["rings","waits"]else if (w=="hold")=pc then["talks"]else if (w=="hang")=pc then["rings","waits","talks","held"]else["held"]
def Sy(w:Str):Prop:=w="answer"\/w="hang"\/w="hold"\/w="back"\/w="hand"\/w="join"
def K1(a:Ad):rm:=λds M Q=>Hi λA V l c w=>ds=[.ref A.b,.int c,.str w,.tup ((GC w).map D.str)]/\Rd a M A V l/\WF l V/\(∀k∈V.calls,k.at_.length<=100)/\Sy w/\∀M',qr M M'->Q .mG M'/\∀e:tR,e.nv->Q e.d M'
def Rq{n:Nat}{a b:Uf}{ds:T0 D}(ha:oX M a=Fa ds)(hb:oX M b=Fa []):zc M (n+1) (.ref a) (.ref b)=Fa ds.isEmpty:=by
 show(oX M a).bind (λi=>(oX M b).bind λj=>if i.length=j.length then sW (zc M n) i j else Fa lf)=_;rw[ha,hb];cases ds with
 | nil=>rfl
 | cons x r=>rfl
def ui{α:Type}(f:α->D){xs:List α}(h:xs≠[])(c k:Int):(0:Int)<((xs.map f).length:Nat)/\∃x∈xs,wB (xs.map f) (qC c k ((xs.map f).length:Nat))=Fa (f x):=by
 have hp:(0:Int)<((xs.map f).length:Nat):=by have:=fu.mpr h;rw[cO];omega
 have d0:=qW (c:=c) (f:=k) hp;have d1:=qL (c:=c) (f:=k) hp;obtain⟨n,e⟩:=d6 d0;rw[e]at d1 ⊢;have hn:n<xs.length:=by rw[cO]at d1;omega
 exact⟨hp,xs[n],gW hn,uE (by rw[df,cQ hn];rfl)⟩
def Sf{V:qo}{i:Nat}(h:i∈Mc V Yl):∃c,V.calls[i]?=Fa c/\c.st∈Yl:=by
 have h:=(fh.mp h).2;cases e:V.calls[i]? with
 | none=>rw[e]at h;cases h
 | some c=>rw[e]at h;exact⟨c,rfl,qU.mp h⟩
def DJ{c:pD}(k:vZ l lf c)(h:c.st≠"over"):Bk c≠[]:=by
 unfold Bk;split
 .rename_i g;rcases k.sh with z|⟨_,z|z|⟨_,z⟩|z⟩
  .rw[z.1]at g;exact absurd g (by decide)
  .rw[z.1]at g;exact absurd g (by decide)
  .intro y;rw[y]at z;rcases z.2.1 with u|u<;>cases u
  .intro y;rw[y]at z;cases z.2.1
  .exact absurd z.1 h
 .exact ft _ _
def Ug{c:pD}(k:vZ l lf c)(h:c.st∈GC "answer"):c.at_≠[]:=by
 have h:c.st="rings"\/c.st="waits":=by
  rcases cW.mp h with g|g
  .exact .inl g
  .exact .inr (cX.mp g)
 rcases k.sh with z|⟨_,z|z|⟨_,z⟩|z⟩
 .exact z.2.2.2.2.2 rfl
 .intro y;rw[y]at z;cases z.2.2.2.2
 all_goals(rw[z.1]at h;exact absurd h (by decide))
def JB{c:pD}(k:vZ l lf c)(h:c.st="held"):∃x,c.hd=Fa x:=by
 rcases k.sh with z|⟨_,z|z|⟨x,z⟩|z⟩
 .rw[h]at z;exact absurd z.1 (by decide)
 .rw[h]at z;exact absurd z.1 (by decide)
 .rw[h]at z;exact absurd z.1 (by decide)
 .exact⟨x,z.2.2.1⟩
 .rw[h]at z;exact absurd z.1 (by decide)
def KS:Fq P w K mg base 4 a.br (K1 a):=by
 refine fq G.br.toDG rJ (λr u=>⟨_,(pq (pO 4 rJ (pJ (Oh G) r G.bq (sf v0 U3)))
 (pq (pT (pK u v4 (qO sF))
 (pz (pG sG))
 pN)
 (pq (pO 5 rJ (pL v4 (pJ (qI G) r G.i (rb U1 pB (pU qy rfl G.g qv (qm v4))))))
 (pq (pO 6 rJ (pJ (J3 G) r G.bp (qm (pL (pE v0) v5))))
 (pq (pT (pK u U2 pC)
 (pz (pO 6 rJ (qg uj rfl G.z uk (qm (pE (pL (pE v0) v5))))))
 pN)
 (pq (pT (W3.b3 (xF (pK u U2 pC) (xF (pK u U2 pC) (xb (pK u U2 pC)))))
 (pz (pO 6 rJ (qO (qm (pE (pL (pE v0) v5))))))
 pN)
 (pq (pO 7 rJ (pL v6 (pJ (qI G) r G.i (rb U1 pB (pU qy rfl G.g qv (qm v6))))))
 (pq (pT (W3.b3 (xF (pK u U2 pC) (xb (pK u U2 pC))))
 (pq (pO 8 rJ (pZ v0 G.c.toCls G.T (yF G) r (qm v7)))
 (pz (pG (pP (pX U2 (rb v7 v5 (QU (pK u v8 sG) pB v8)))))))
 pN)
 (pz (pG (pP (rb U2 v7 v5)))))))))))),?_⟩)
 rintro ds M Q ⟨A,V,l,c,wd,rfl,rd,wf,ha,ho,q⟩
 have hz:=dF;refine⟨A,V,l,GC wd,rfl,rd,λr M1 s1 lr=>?_⟩;refine⟨pb rfl,λr0 hr0=>?_⟩;have t2:=qr.new (c:=.lst []) hr0;have ZX:=t2.lst lr;refine pk (Rq ZX pH) ?_;have s2:=s1.trans t2;generalize pI M1 r0 (.lst [])=M2 at s2 ZX ⊢;clear t2 lr hr0 s1;refine qK (c:=((Mc V (GC wd)).map λn=>D.int (n:Nat)).isEmpty) (λ_=>⟨M2,.refl,(q M2 s2).1⟩) (λg=>?_);have gne:Mc V (GC wd)≠[]:=λz=>g (by rw[z];rfl);obtain⟨hp,i,hi,ei⟩:=ui (λn:Nat=>D.int (n:Nat)) gne c 40692;obtain⟨cv,hc,hs⟩:=Sf hi;have YD:=rd.sub s2;obtain⟨k,ek,ca⟩:=YD.call hc;have ca0:=ca;obtain⟨ad,md,h1,h2,h3,h4,_⟩:=ca0;have Yi:=wf.ok i cv hc;refine pk ZX ⟨c,_,_,rfl,hp,pk ZX (pk ei ?_)⟩;refine pA YD.bd.at_ (pk rfl (pk rfl (pk YD.bd.ca (pk (rq ek) ?_))));refine⟨_,k,cv,rfl,ca,ha cv (qJ hc),λr3 M3 s3 lr3=>?_⟩;have XY:=s3 _ _ h1;have q3:=λM' (s:qr M3 M')=>q M' (s2.trans (s3.trans s));have ZE:=YD.sub s3;have Zh:=s3.lst h3;clear q ZX s2 h1 h2 h3 h4 ca;rcases ho with rfl|rfl|rfl|rfl|rfl|rfl
 .
  refine pA ZE.bd.at_ (pk rfl (pk rfl (pk ZE.bd.ca (pk (rq ek) (pA XY (pk rfl (pk Zh λr4 hr4=>?_)))))));obtain⟨Xn,x,hx,ex⟩:=ui D.str (Ug Yi hs) c 742938285;refine pk pH ⟨c,_,_,rfl,Xn,pk pH (pk ex ?_)⟩;exact⟨pb rfl,_,.refl,(q3 _ (.new hr4)).2 (.num "answer" x [(i:Nat)]) (.inl ⟨.inl rfl,rfl⟩)⟩
 .
  obtain⟨Xn,x,hx,ex⟩:=ui D.str (DJ Yi (λz=>by rw[z]at hs;exact absurd hs (by decide))) c 742938285;refine pk lr3 ⟨c,_,_,rfl,Xn,pk lr3 (pk ex ?_)⟩;exact⟨pb rfl,_,.refl,(q3 _ .refl).2 (.num "hang" x [(i:Nat)]) (.inl ⟨.inr (.inl rfl),rfl⟩)⟩
 .
  obtain⟨Xn,x,hx,ex⟩:=ui D.str (DJ Yi (λz=>by rw[z]at hs;exact absurd hs (by decide))) c 742938285;refine pk lr3 ⟨c,_,_,rfl,Xn,pk lr3 (pk ex ?_)⟩;exact⟨pb rfl,_,.refl,(q3 _ .refl).2 (.num "hold" x [(i:Nat)]) (.inl ⟨.inr (.inr (.inl rfl)),rfl⟩)⟩
 .
  obtain⟨y,hy⟩:=JB Yi (cX.mp hs);refine pA ZE.bd.at_ (pk rfl (pk rfl (pk ZE.bd.ca (pk (rq ek) (pA XY (pk rfl ⟨pb rfl,λr4 hr4=>?_⟩))))));rw[show CT cv.hd=.str y by rw[hy];rfl];obtain⟨Xn,x,hx,ex⟩:=ui D.str (ft y []) c 742938285;refine pk pH ⟨c,_,_,rfl,Xn,pk pH (pk ex ?_)⟩;exact⟨pb rfl,_,.refl,(q3 _ (.new hr4)).2 (.num "back" x [(i:Nat)]) (.inl ⟨.inr (.inr (.inr rfl)),rfl⟩)⟩
 all_goals
  obtain⟨y,hy⟩:=JB Yi (cX.mp hs);refine pA ZE.bd.at_ (pk rfl (pk rfl (pk ZE.bd.ca (pk (rq ek) (pA XY (pk rfl ⟨pb rfl,λr4 hr4=>?_⟩))))));rw[show CT cv.hd=.str y by rw[hy];rfl];obtain⟨Xn,x,hx,ex⟩:=ui D.str (ft y []) c 742938285;refine pk pH ⟨c,_,_,rfl,Xn,pk pH (pk ex ?_)⟩;have t4:=qr.new (c:=.lst [D.str y]) hr4;refine pA (t4 _ _ ZE.bd.at_) ⟨rfl,_,⟨rfl,rfl⟩,A,V,x,rfl,ZE.bd.sub t4,ZE.k,?_⟩;unfold AB;cases vU V x with
  | none=>first|exact⟨pb rfl,_,.refl,(q3 _ t4).2 (.num "hand" x [(i:Nat),(0:Nat)]) (.inr ⟨.inl rfl,rfl⟩)⟩|exact⟨pb rfl,_,.refl,(q3 _ t4).2 (.num "join" x [(i:Nat),(0:Nat)]) (.inr ⟨.inr rfl,rfl⟩)⟩
  | some j=>first|exact⟨pb rfl,_,.refl,(q3 _ t4).2 (.num "hand" x [(i:Nat),(j:Nat)]) (.inr ⟨.inl rfl,rfl⟩)⟩|exact⟨pb rfl,_,.refl,(q3 _ t4).2 (.num "join" x [(i:Nat),(j:Nat)]) (.inr ⟨.inr rfl,rfl⟩)⟩
def Jf:rm:=λds M Q=>KR λc o n own nm m=>ds=[.int c,.ref o,.ref n,.int ((m:Nat):Int)]/\oX M o=Fa (List.map D.str own)/\oX M n=Fa (List.map D.str nm)/\own.length<=100/\nm.length<=100/\m<=1000000/\∀M' (e:tR),qr M M'->e.nv->Q e.d M'
def NC(a:Ad):rm:=λds M Q=>Tf λA V l c o n own nm=>ds=[.ref A.b,.int c,.ref o,.ref n]/\Rd a M A V l/\WF l V/\(∀k∈V.calls,k.at_.length<=100)/\oX M o=Fa (List.map D.str own)/\oX M n=Fa (List.map D.str nm)/\own≠[]/\nm≠[]/\own.length<=100/\nm.length<=100/\∀M' (e:tR),qr M M'->e.nv->Q e.d M'
def IR{α:Type}(f:α->D){xs:List α}(h:xs≠[]){m:Int}(hm:m=(xs.length:Nat))(c k:Int):(0:Int)<m/\∃x∈xs,wB (xs.map f) (qC c k m)=Fa (f x):=by have:=ui f h c k;rw[cO,<-hm]at this;exact this
def Qk{α:Type}(xs:List α)(x:α):xs++[x]≠[]:=by simp
noncomputable def HK:QQQ:=["call","call","call","call","call","answer","answer","answer","answer","answer","hang","hang","hold","hold","hold","back","hand","join","turn","turn","turn"]
theorem D8(d:D):∀n:Nat,(List.replicate n [d]).flatten=List.replicate n d
 | 0=>rfl
 | n+1=>by rw[eB,fK,D8 d n,eB];rfl
noncomputable def zz:Str:="zzzzzz"
noncomputable def Mb(a b:Str)(k m:Int):List tR:=[.call a b,.num "answer" a [k],.num "hang" a [k],.num "hold" a [k],.num "back" a [k],.num "hand" a [k,m],.num "join" a [k,m],.turn,.sw pc k,.sw lf k]
def Li{a b:Str}{k m:Int}{e:tR}(h:e∈Mb a b k m):e.nv:=by
 unfold Mb at h;simp only[cW,dv,eF]at h;rcases h with rfl|rfl|rfl|rfl|rfl|rfl|rfl|rfl|rfl|rfl
 .trivial
 .exact .inl ⟨.inl rfl,rfl⟩
 .exact .inl ⟨.inr (.inl rfl),rfl⟩
 .exact .inl ⟨.inr (.inr (.inl rfl)),rfl⟩
 .exact .inl ⟨.inr (.inr (.inr rfl)),rfl⟩
 .exact .inr ⟨.inl rfl,rfl⟩
 .exact .inr ⟨.inr rfl,rfl⟩
 .trivial
 .trivial
 .trivial
def OQ:Fq P w K mg base 2 a.bs Jf:=by
 refine fq G.bs.toDG uQ (λr u=>⟨_,(pq (pO 4 uQ (pL (pW U1 (qO (qm pC))) (pJ (qI G) r G.i (rb v0 pB (pW (pU qy rfl G.g qv (qm U1)) pB)))))
 (pq (pO 5 uQ (pL (pW U2 (qO (qm pC))) (pJ (qI G) r G.i (rb v0 pB (pW (pU qy rfl G.g qv (qm U2)) pB)))))
 (pq (pO 6 uQ (pW (pJ (qI G) r G.i (rb v0 pB (pW U3 pB))) pB))
 (pq (pO 7 uQ (pW (pJ (qI G) r G.i (rb v0 pB (pW U3 pB))) pB))
 (pq (pO 8 uQ (qO (pX (pP (rb pC v4 v5)) (pX (pP (rb pC v4 v6)) (pX (pP (rb pC v4 v6)) (rb (pP (rb pC v4 v6)) (pP (rb pC v4 v6)) (pP (pX pC (rb v4 v6 v7)))))))))
 (pz (pG (pL (pW v8 (qO (pX (pP (pX pC (rb v4 v6 v7))) (rb (pP (qm pC)) (pP (sf pC v6)) (pP (sf pC v6)))))) (pJ (qI G) r G.i (rb v0 pB pB)))))))))),?_⟩)
 rintro ds M Q ⟨c,o,n,own,nm,m,rfl,ho,hn,ol,nl,ml,q⟩
 have hz:=dF;have add:∀{M1:Mp} {p:Uf} {xs:QQQ} (f:Int) (nx:DK),qr M M1->oX M1 p=Fa (xs.map D.str)->xs.length<=100->(∀x M',qr M M'->nx (.str x) M')->∀r1,M1 r1=Db->(oX (pI M1 r1 (.lst [D.str zz])) p).elim False λi=>(oX (pI M1 r1 (.lst [D.str zz])) r1).elim False λj=>i.length+j.length<=Ch/\∀r2,pI M1 r1 (.lst [D.str zz]) r2=Db->(oX (pI (pI M1 r1 (.lst [D.str zz])) r2 (.lst (i++j))) p).elim False λys=>IM [.int c,.int f,.int ((ys.length:Nat)+1)] (pI (pI M1 r1 (.lst [D.str zz])) r2 (.lst (i++j))) λy M2=>match y with
  | .int n=>(oX M2 r2).elim False λzs=>(wB zs n).elim False λd=>nx d M2
  | _=>False:=λ{M1 p xs} f nx s hx lx Xq r1 XZ=>by
  have t1:=qr.new (c:=.lst [D.str zz]) XZ;refine pk (t1.lst hx) (pk pH ⟨by rw[cO];show xs.length+1<=Ch;omega,λr2 ZA=>?_⟩);have t2:=qr.new (c:=.lst (xs.map D.str++[D.str zz])) ZA;obtain⟨hp,x,_,ex⟩:=IR D.str (Qk xs zz) (m:=((xs.map D.str).length:Nat)+1) (by rw[cO,cR];rfl) c f;rw[dz]at ex;exact pk ((t1.trans t2).lst hx) ⟨c,f,_,rfl,hp,pk pH (pk ex (Xq x _ (s.trans (t1.trans t2))))⟩
 refine⟨pb rfl,add 16807 _ .refl ho ol λx M1 s1=>⟨pb rfl,add 39373 _ s1 (s1.lst hn) nl λy M2 s2=>?_⟩⟩;refine⟨c,_,_,rfl,by show(0:Int)<(m:Nat)+2;omega,⟨c,_,_,rfl,by show(0:Int)<(m:Nat)+2;omega,?_⟩⟩;generalize qC c 69621 ((m:Nat)+2) - 1=k0;refine⟨pb rfl,pb rfl,pb rfl,pb rfl,pb rfl,pb rfl,pb rfl,λr8 hr8=>⟨pb rfl,pb rfl,pb rfl,pb rfl,pb rfl,λr9 hr9=>?_⟩⟩;have t8:=qr.new (c:=.lst (((Mb x y k0 (qC c 22695477 ((m:Nat)+2) - 1)).take 6).map tR.d)) hr8;have t9:=qr.new (c:=.lst (((Mb x y k0 (qC c 22695477 ((m:Nat)+2) - 1)).drop 6).map tR.d)) hr9;refine pk (t9.lst pH) (pk pH ⟨by show 6+4<=Ch;omega,λr10 hr10=>?_⟩);obtain⟨hp,e,he,ee⟩:=IR tR.d (xs:=Mb x y k0 (qC c 22695477 ((m:Nat)+2) - 1)) (ft _ _) (m:=10) rfl c 1664525;exact⟨c,_,_,rfl,hp,pk pH (pk ee ⟨_,.refl,q _ e (s2.trans (t8.trans (t9.trans (.new hr10)))) (Li he)⟩)⟩
def Mt:Fq P w K mg base 5 a.bt (NC a):=by
 refine fq G.bt.toDG rG (λr u=>⟨_,(pq (pO 4 rG (pW (pW (pW (pW (pW (Cb (qO (qm pC)) pB) (Cb (qO (qm pC)) pB)) (Cb (qO (qm pC)) pB)) (Cb (qO (qm pC)) pB)) (qO (rb pC pC pC))) (Cb (qO (qm pC)) pB)))
 (pq (pO 4 rG (pL v4 (pJ (qI G) r G.i (rb U1 pB (pU qy rfl G.g qv (qm v4))))))
 (pq (pO 5 rG (pP (pX pC (rb pC pC pC))))
 (pq (pT (pK u v4 pC)
 (pz (pO 5 rG (pP (sf pC pC))))
 pN)
 (pq (pT (pK u v4 pC)
 (pz (pO 5 rG (pP (qm pC))))
 pN)
 (pq (pT (W3.b3 (xF (pK u v4 pC) (xF (pK u v4 pC) (xb (pK u v4 pC)))))
 (pz (pO 5 rG (pP (qm pC))))
 pN)
 (pq (pT (pK u v4 pC)
 (pz (pG (pP (qm pC))))
 pN)
 (pq (pT (pK u (pJ (qI G) r G.i (rb U1 pB pB)) pB)
 (pz (pG (pJ (OQ G) r G.bs (pX U1 (rb U2 U3 (pU qy rfl G.g qv (qm (pE v0))))))))
 pN)
 (pq (pO 6 rG sG)
 (pq (pT (pK u v4 pC)
 (pz (pO 6 rG (pJ (KS G) r G.br (pX v0 (rb U1 v4 v5)))))
 pN)
 (pq (pT (pK u v6 sG)
 (pq (pO 7 rG (pL U2 (pJ (qI G) r G.i (rb U1 pB (pU qy rfl G.g qv (qm U2))))))
 (pz (pO 6 rG (pP (rb pC v7 (pL U3 (pJ (qI G) r G.i (rb U1 pB (pU qy rfl G.g qv (qm U3))))))))))
 pN)
 (pz (pG v6))))))))))))),?_⟩)
 rintro ds M Q ⟨A,V,l,c,o,n,own,nm,rfl,rd,wf,ha,ho,hn,one,nne,ol,nl,q⟩
 have hz:=dF;refine Pd (t:=Df _ _) (λU M'=>qr M M'/\∃r,oX M' r=Fa (HK.map D.str)/\U=[Fa (.ref A.b),Fa (.int c),Fa (.ref o),Fa (.ref n),Fa (.ref r),Db,Db,Db]) (λnx h=>?_) ?_
 .have Y8:∀{N:Mp} {U:vv} (w0:Str) (m:Int) (nx:DK),qr M N->(0<=m/\m<=10)->(∀r N',qr M N'->qr N N'->oX N' r=Fa ((List.replicate m.toNat w0).map D.str)->nx (.ref r) N')->UR (Uz (vA (L3.c3 (.str w0)) xx)) (L3.c3 (.int m)) U N nx:=λ{N U} w0 m nx sn hm Xq=>by refine⟨pb rfl,λr1 XZ=>?_⟩;refine pk pH ⟨⟨by omega,by omega,by show 1<=1000;decide⟩,λr2 ZA=>?_⟩;have t:=(qr.new (c:=.lst [D.str w0]) XZ).trans (qr.new (c:=.lst (List.replicate m.toNat [D.str w0]).flatten) ZA);refine Xq r2 _ (sn.trans t) t (pH.trans (eE Fa ?_));rw[List.map_replicate];exact D8 _ _
  have Ym:∀{N:Mp} {p r:Uf} {xs ys:QQQ} (nx:DK),qr M N->oX N p=Fa (xs.map D.str)->oX N r=Fa (ys.map D.str)->xs.length+ys.length<=100->(∀r N',qr M N'->oX N' r=Fa ((xs++ys).map D.str)->nx (.ref r) N')->Vo .Add (.ref p) (.ref r) N nx:=λ{N p r xs ys} nx sn hx hy hl Xq=>by refine pk hx (pk hy ⟨by rw[cO,cO];omega,λr2 ZA=>?_⟩);refine Xq r2 _ (sn.trans (.new ZA)) (pH.trans (eE Fa ?_));rw[dz]
  dsimp only[Df,o3];refine Y8 "call" 5 _ .refl (by decide) λp1 N1 s1 _ l1=>Y8 "answer" 5 _ s1 (by decide) λq2 N2 s2 t2 l2=>Ym _ s2 (t2.lst l1) l2 (by decide) λp2 N3 s3 l3=>Y8 "hang" 2 _ s3 (by decide) λq4 N4 s4 t4 l4=>Ym _ s4 (t4.lst l3) l4 (by decide) λp5 N5 s5 l5=>Y8 "hold" 3 _ s5 (by decide) λq6 N6 s6 t6 l6=>Ym _ s6 (t6.lst l5) l6 (by decide) λp7 N7 s7 l7=>⟨pb rfl,λr8 hr8=>?_⟩;have t8:=qr.new (c:=.lst ((["back","hand","join"]:QQQ).map D.str)) hr8;exact Ym (ys:=["back","hand","join"]) _ (s7.trans t8) (t8.lst l7) pH (by decide) λp9 N9 s9 l9=>Y8 "turn" 3 _ s9 (by decide) λq10 N10 s10 t10 l10=>Ym _ s10 (t10.lst l9) l10 (by decide) λp11 N11 s11 l11=>h _ _ ⟨s11,p11,l11,rfl⟩
 rintro U M1 ⟨s1,r,lr,rfl⟩
 have s1n:=s1.lst hn;have s1o:=s1.lst ho;obtain⟨hp,w0,hw,ew⟩:=ui D.str (show HK≠[]from ft _ _) c 48271;refine pk lr ⟨c,_,_,rfl,hp,pk lr (pk ew ?_)⟩;obtain⟨Yp,x1,hx1,ex1⟩:=ui D.str one c 16807;obtain⟨Xn,x2,hx2,ex2⟩:=ui D.str nne c 39373;have Y6:=rd.sub s1;have lc:((A.cs.map λk=>D.ref k.p).length:Int)=(V.calls.length:Nat):=by rw[cO,rd.bd.len]
 clear lr hp ew;have hw:w0="call"\/w0="turn"\/Sy w0:=by unfold HK at hw;simp only[cW,dv,eF]at hw;unfold Sy;rcases hw with h|h|h|h|h|h|h|h|h|h|h|h|h|h|h|h|h|h|h|h|h<;>simp[h]
 have Xh:∀M' (e:tR),qr M1 M'->e.nv->∃Xg,qr Xg M'/\Q e.d Xg:=λM' e s f=>⟨M',.refl,q M' e (s1.trans s) f⟩;rcases hw with rfl|rfl|hw
 .refine⟨pb rfl,c,_,_,rfl,by decide,qK (c:=qC c 950706376 9==0) (λ_=>pA Y6.bd.at_ (pk rfl (pk Y6.bd.ca ?_))) (λ_=>?_)⟩
  .rw[lc];exact⟨c,o,n,own,nm,V.calls.length,rfl,s1o,s1n,ol,nl,rd.k,Xh⟩
  exact pk s1o ⟨c,_,_,rfl,Yp,pk s1o (pk ex1 (pk s1n ⟨c,_,_,rfl,Xn,pk s1n (pk ex2 ⟨pb rfl,Xh M1 (.call x1 x2) .refl trivial⟩)⟩))⟩
 .exact⟨pb rfl,pb rfl,Xh M1 .turn .refl trivial⟩
 have lany:Jf [.int c,.ref o,.ref n,.int ((V.calls.length:Nat):Int)] M1 λd M'=>∃Xg,qr Xg M'/\Q d Xg:=⟨c,o,n,own,nm,V.calls.length,rfl,s1o,s1n,ol,nl,rd.k,Xh⟩;have hw':=hw;rcases hw with rfl|rfl|rfl|rfl|rfl|rfl
 all_goals
  first
   | refine⟨pb rfl,pb rfl,c,_,_,rfl,by decide,qK (c:=qC c 950706376 9==0) (λ_=>pA Y6.bd.at_ (pk rfl (pk Y6.bd.ca ?_))) (λ_=>⟨A,V,l,c,_,rfl,Y6,wf,ha,hw',λM' s=>⟨?_,λe f=>?_⟩⟩)⟩
   | refine⟨pb rfl,c,_,_,rfl,by decide,qK (c:=qC c 950706376 9==0) (λ_=>pA Y6.bd.at_ (pk rfl (pk Y6.bd.ca ?_))) (λ_=>⟨A,V,l,c,_,rfl,Y6,wf,ha,hw',λM' s=>⟨?_,λe f=>?_⟩⟩)⟩
  .rw[lc];exact lany
  .exact pk (s.lst s1o) ⟨c,_,_,rfl,Yp,pk (s.lst s1o) (pk ex1 (pk (s.lst s1n) ⟨c,_,_,rfl,Xn,pk (s.lst s1n) (pk ex2 ⟨pb rfl,Xh M' (.call x1 x2) s trivial⟩)⟩))⟩
  .cases e with
   | call y z=>exact Xh M' (.call y z) s f
   | num v y ns=>exact Xh M' (.num v y ns) s f
   | turn=>exact Xh M' .turn s f
   | sw b i=>exact Xh M' (.sw b i) s f
noncomputable def wG(A:tq)(M:Mp):Mp:=λx=>if x∈A.foot then Db else M x
def vV{A:tq}{x:Uf}{ds:T0 D}(h:oX M x=Fa ds)(n:x∉A.foot):oX (wG A M) x=Fa ds:=rY (by unfold wG;rw[cS n];exact pY h)
structure Lp(a:Ad)(M0 N M:Mp)(b:Uf)(A:tq)(V:qo)(l:pF)(m:Nat):Prop where
 cu:uw a M0 M b A V l (1+m) (3+2200*m)
 wf:WF l V
 ps:V.ps.length<=3
 own:∀x c,N x=Fa c->M x=Fa c/\x∉A.foot
variable {N:Mp}{m:Nat}
def Lp.start{b p:Uf}{A:tq}(ok:rh l)(pl:sH a M0 p l)(hb:M0 b=Db)(eb:A.b=b)(kp:so b (pI M0 b (.ins a.c [])) M)(fr:∀x∈A.foot,x=b\/pI M0 b (.ins a.c []) x=Db)(bd:pM a M A (V0 p h l [])):uw a M0 M b A (V0 p h l []) l 1 3/\WF l (V0 p h l [])/\(V0 p h l []).ps.length<=3:=by
 have t:=qr.new (c:=.ins a.c []) hb;refine⟨⟨bd,pl,λx c e=>kp x c (N0 e hb) (t x c e),λx hx=>?_,eb,⟨d9 _,d9 _,d9 _,Ac ok,λk hk=>by cases hk⟩,ok,cO ..⟩,TJ ok,Ac ok⟩;rcases fr x hx with z|z
 .rw[z];exact hb
 .exact t.none z
def UL{V:qo}{p:Uf}{F:QXQ}(h:WF l V):WF l (V.at_ p F):=⟨h.ok,h.un,h.ln,h.wt,h.nx⟩
theorem Lb:∀(es:T0 Ev) (V:qo),(qF V es).fo=V.fo
 | [],_=>rfl
 | e::r,V=>(Lb r _).trans (P3 V e)
def JG{x:Uf}{c:vb}(e:wG A M x=Fa c):M x=Fa c/\x∉A.foot:=by
 unfold wG at e;split at e
 .cases e
 .rename_i h;exact⟨e,h⟩
def zZ{A:tq}{M:Mp}{x:Uf}{c:vb}(e:M x=Fa c)(n:x∉A.foot):wG A M x=Fa c:=(cS n).trans e
def Cs{A:tq}{x:Uf}(n:x∈A.foot):wG A M x=Db:=cV n
def Ut{p:Uf}{F F':QXQ}(bd:pM a M A (V0 p h l F))(hF:∀x∈F',∃c,M x=Fa c):pM a M A (V0 p h l F'):=
 ⟨bd.at_,bd.ca,bd.le,bd.nx,bd.on,bd.lo,bd.len,λi k c e1 e2=>by simp[V0]at e2,bd.nl,bd.np,hF⟩
def pM.oG{V:qo}(h:pM a M A V)(st:qR A1 M A2 M')(h1:∀x∈A1.foot,x∉A.foot)(h2:V.fo=A1.foot)(h3:∀x∈A2.foot,∃c,M' x=Fa c):pM a M' A (V.at_ V.p A2.foot):=by
 have b:=h.frame st h1 λx hx=>.inl (h2 ▸ hx);refine⟨b.at_,b.ca,b.le,b.nx,b.on,b.lo,b.len,λi k c e1 e2=>?_,b.nl,b.np,h3⟩;obtain⟨ad,md,g1,g2,g3,g4,g5,g6⟩:=h.cs i k c e1 e2;obtain⟨f1,f2,f3,f4,f5,f6,f7⟩:=A.mL;have no:∀{x:Uf} {ds:T0 D},x∉A.lists++V.fo->oX M x=Fa ds->oX M' x=Fa ds/\x∉A.lists++A2.foot:=λ{x ds} hx e=>by
  have n1:x∉A1.foot:=λz=>hx (dY _ (h2 ▸ z));refine⟨rY (st.1 x _ n1 (pY e)),λz=>?_⟩;rcases dI.mp z with z|z
  .exact hx (eV _ z)
  .rcases st.2.1 x z with y|y
   .exact n1 y
   .rw[pY e]at y;cases y
 have hf:∀x∈A.foot,∀c,M x=Fa c->M' x=Fa c:=λx hx c e=>st.1 x c (λz=>h1 x z hx) e;exact⟨ad,md,hf _ (f6 k (qJ e1)) _ g1,rY (hf _ (f7 k (qJ e1)) _ (pY g2)),(no g5 g3).1,(no g6 g4).1,(no g5 g3).2,(no g6 g4).2⟩
structure Tw(a:Ad)(N M:Mp)(b:Uf)(A:tq)(V:qo)(l:pF)(c n:Nat)(b2:Uf)(A2:tq)(V2:qo)(l2:pF)(c2 n2:Nat):Prop where
 x:uw a N M b A V l c n
 y:uw a N M b2 A2 V2 l2 c2 n2
 f:V.fo=A2.foot
 g:V2.fo=A.foot
 ne:∀x∈A.foot,x∉A2.foot
variable {b2:Uf}{A2:tq}{V2:qo}{l2:pF}{c' n' c2 n2:Nat}
section
variable {c:Nat}
def Tw.swap(t:Tw a N M b A V l c n b2 A2 V2 l2 c2 n2):Tw a N M b2 A2 V2 l2 c2 n2 b A V l c n:=⟨t.y,t.x,t.g,t.f,λx h z=>t.ne x z h⟩
def Tw.sub(t:Tw a N M b A V l c n b2 A2 V2 l2 c2 n2)(s:qr M M'):Tw a N M' b A V l c n b2 A2 V2 l2 c2 n2:=⟨t.x.sub s,t.y.sub s,t.f,t.g,t.ne⟩
def Tw.one(t:Tw a N M b A V l c n b2 A2 V2 l2 c2 n2)(st:qR A M A' M')(cu:uw a N M' b A' V' l c' n')(hf:V'.fo=V.fo):Tw a N M' b A' V' l c' n' b2 A2 (V2.at_ V2.p A'.foot) l2 c2 n2:=by
 have dm:=cu.bd.oK.2;refine⟨cu,⟨t.y.bd.oG st t.ne t.g dm,t.y.oH,cu.s0,t.y.fr,t.y.b,⟨t.y.sz.lo,t.y.sz.le,t.y.sz.ca,t.y.sz.ps,t.y.sz.cs⟩,t.y.ok,t.y.on⟩,hf.trans t.f,rfl,λx h z=>?_⟩;rcases st.2.1 x h with y|y
 .exact t.ne x y z
 .exact t.y.bd.nH y z
def Tw.mono(t:Tw a N M b A V l c n b2 A2 V2 l2 c2 n2){c3 n3 c4 n4:Nat}(h1:c<=c3)(h2:n<=n3)(h3:c2<=c4)(h4:n2<=n4):Tw a N M b A V l c3 n3 b2 A2 V2 l2 c4 n4:=⟨t.x.mono h1 h2,t.y.mono h3 h4,t.f,t.g,t.ne⟩
end
def pM.refo{V:qo}{F:QXQ}(h:pM a M A V)(s:qr M M')(hn:∀x∈F,M x=Db)(hF:∀x∈F,∃c,M' x=Fa c):pM a M' A (V.at_ V.p F):=by
 have b:=h.sub s;refine⟨b.at_,b.ca,b.le,b.nx,b.on,b.lo,b.len,λi k c e1 e2=>?_,b.nl,b.np,hF⟩;obtain⟨ad,md,g1,g2,g3,g4,g5,g6⟩:=h.cs i k c e1 e2;have no:∀{x:Uf} {ds:T0 D},x∉A.lists++V.fo->oX M x=Fa ds->x∉A.lists++F:=λ{x ds} hx e z=>by
  rcases dI.mp z with z|z
  .exact hx (eV _ z)
  .have:=hn x z;rw[pY e]at this;cases this
 exact⟨ad,md,s _ _ g1,s.lst g2,s.lst g3,s.lst g4,no g5 g3,no g6 g4⟩
def Tw.join{M01 M1 M3 M02 M4 M2 M:Mp}{V V2:qo}{c n d k:Nat}(c1:uw a M01 M1 b A V l c n)(s1:qr M1 M3)(s2:qr M3 M02)(pf:∀N,(∀x c,M3 x=Db->M02 x=Fa c->N x=Fa c)->sH a N V2.p l2)(s4:qr M02 M4)(c2:uw a M4 M2 b2 A2 V2 l2 d k)(s3:qr M2 M)(hf:V2.fo=A.foot):Tw a (wG A2 (wG A M)) M b A (V.at_ V.p A2.foot) l c n b2 A2 V2 l2 d k:=by
 have d1:∀x∈A.foot,∃c,M3 x=Fa c:=λx hx=>by obtain⟨c,e⟩:=c1.bd.oK.2 x hx;exact⟨c,s1 x c e⟩
 have s24:=s2.trans s4;have ne:∀x∈A.foot,x∉A2.foot:=λx hx z=>by obtain⟨c,e⟩:=d1 x hx;have:=c2.fr x z;rw[s24 x c e]at this;cases this
 have s23:=c2.s0.trans s3;have Zn:=s1.trans s24;have sM:=Zn.trans s23;have k1:qr M01 (wG A2 (wG A M)):=λx c e=>by
  have e1:=c1.s0 x c e;refine zZ (zZ (sM x c e1) λz=>?_) λz=>?_
  .rw[c1.fr x z]at e;cases e
  .have:=c2.fr x z;rw[Zn _ _ e1]at this;cases this
 have k2:sH a (wG A2 (wG A M)) V2.p l2:=pf _ λx c e1 e2=>zZ (zZ (s23 x c (s4 x c e2)) λz=>by
  obtain⟨d,e⟩:=d1 x z;rw[e1]at e;cases e) λz=>by have:=c2.fr x z;rw[s4 x c e2]at this;cases this
 have k3:qr (wG A2 (wG A M)) M:=λx c e=>(JG (JG e).1).1;have d2:∀x∈A2.foot,∃c,M x=Fa c:=λx hx=>by obtain⟨c,e⟩:=c2.bd.oK.2 x hx;exact⟨c,s3 x c e⟩
 refine⟨⟨c1.bd.refo sM (λx hx=>Zn.none (c2.fr x hx)) d2,c1.oH.sub k1,k3,λx hx=>?_,c1.b,⟨c1.sz.lo,c1.sz.le,c1.sz.ca,c1.sz.ps,c1.sz.cs⟩,c1.ok,c1.on⟩,⟨c2.bd.sub s3,k2,k3,λx hx=>Cs hx,c2.b,c2.sz,c2.ok,c2.on⟩,rfl,hf,ne⟩;by_cases z:x∈A2.foot
 .exact Cs z
 .exact(cS z).trans (Cs hx)
def Tw.start{M01 M1 M3 M02 M2 M:Mp}{b b2 p p2:Uf}(c1:uw a M01 M1 b A (V0 p h l []) l 1 3)(s1:qr M1 M3)(s2:qr M3 M02)(pf:∀N,(∀x c,M3 x=Db->M02 x=Fa c->N x=Fa c)->sH a N p2 l2)(c2:uw a M02 M2 b2 A2 (V0 p2 h l2 []) l2 1 3)(s3:qr M2 M):Tw a (wG A2 (wG A M)) M b A (V0 p h l A2.foot) l 1 3 b2 A2 (V0 p2 h l2 A.foot) l2 1 3:=
 Tw.join (V2:=V0 p2 h l2 A.foot) c1 s1 s2 pf .refl ⟨Ut c2.bd (λx hx=>by
  obtain⟨c,e⟩:=c1.bd.oK.2 x hx;exact⟨c,c2.s0 x c (s2 x c (s1 x c e))⟩),c2.oH,c2.s0,c2.fr,c2.b,⟨c2.sz.lo,c2.sz.le,c2.sz.ca,c2.sz.ps,c2.sz.cs⟩,c2.ok,c2.on⟩ s3 rfl
noncomputable def pF.less(l:pF):pF:={l with mB:=l.mB.filter (·.1)}
noncomputable def Ev.less:Ev->Ev
 | .asks i z _=>.asks i z []
 | e=>e
def Ev.nO:Ev->Prop
 | .sw _ _=>False
 | _=>True
abbrev vg(es fs:T0 Ev):Prop:=es.map Ev.less=fs.map Ev.less
noncomputable def qo.re(V:qo)(p:Uf)(F:QXQ)(on:T0 Bool)(lg:T0 Ev):qo:={V with p:=p,fo:=F,on:=on,log:=lg}
def O5{V:qo}{p:Uf}{F:QXQ}{on:T0 Bool}{lg:T0 Ev}{e f:Ev}(h:e.less=f.less)(ns:e.nO):qb (V.re p F on lg) f=(qb V e).re p F on (lg++[f]):=by
 cases e<;>cases f<;>first
  | (exact ns.elim)
  | (cases h;done)
  | rfl
  | (cases h;rfl)
theorem BC{p:Uf}{F:QXQ}:∀{es fs:T0 Ev} {V:qo} {lg:T0 Ev},vg es fs->(∀e∈es,e.nO)->qF (V.re p F on lg) fs=(qF V es).re p F on (lg++fs)
 | [],[],V,lg,_,_=>by rw[eJ];rfl
 | [],_::_,_,_,h,_=>by cases h
 | _::_,[],_,_,h,_=>by cases h
 | e::es,f::fs,V,lg,h,ns=>by have h1:e.less=f.less:=(fD h).1;have h2:vg es fs:=(fD h).2;show qF (qb (V.re p F on lg) f) fs=(qF (qb V e) es).re p F on (lg++f::fs);rw[O5 h1 (ns e dD),BC h2 λx hx=>ns x (dw _ hx),eU];rfl
theorem GU{α:Type}(q:α->Bool):∀ws:List α,((List.range ws.length).find? λi=>(ws[i]?).elim lf q).bind (ws[·]?)=ws.find? q
 | []=>rfl
 | w::r=>by
  rw[dU,iz,fi,fi];show(match q w with|true=>Fa 0|false=>_).bind _=_;cases hq:q w with
  | true=>rfl
  | false=>
   rw[<-GU q r];dsimp only;rw[List.find?_map];cases e:(List.range r.length).find? λi=>(r[i]?).elim lf q with
   | none=>have:(List.range r.length).find? ((λi=>((w::r)[i]?).elim lf q)∘Nat.succ)=Db:=e;rw[this];rfl
   | some i=>have:(List.range r.length).find? ((λi=>((w::r)[i]?).elim lf q)∘Nat.succ)=Fa i:=e;rw[this];rfl
abbrev yV(l:pF)(V:qo):Prop:=V.on=l.mB.map (·.1)
def DF(h:yV l V)(f:Wi->Bool):(vq l V f).head?.bind (l.mB[·]?)=l.mB.find? λw=>w.1&&f w.2:=by
 rw[<-GU];unfold vq;rw[h,cO,List.head?_filter];congr 2;funext i;rw[eO,df];cases l.mB[i]? with
 | none=>rfl
 | some w=>rfl
def OJ{α:Type}(p q:α->Bool)(ws:List α):(ws.filter p).find? (λw=>p w&&q w)=ws.find? λw=>p w&&q w:=by rw[List.find?_filter];congr 1;funext w;cases p w<;>simp
noncomputable abbrev qo.mT(V:qo)(l:pF)(p:Uf)(F:QXQ)(lg:T0 Ev):qo:=V.re p F (l.less.mB.map (·.1)) lg
variable {p:Uf}{F:QXQ}{lg:T0 Ev}
def Mg(c z:Str)(on:T0 Bool):va l.less (V.re p F on lg) c z=va l V c z:=funext λw=>by cases w<;>rfl
def B6(h:yV l V)(f:Wi->Bool):(vq l.less (V.mT l p F lg) f).head?.bind (l.less.mB[·]?)=(vq l V f).head?.bind (l.mB[·]?):=by rw[DF (l:=l.less) rfl,DF h];exact OJ (λw=>w.1) (λw=>f w.2) l.mB
def yr{V:qo}{f:Wi->Bool}:vq l V f=[]/\(vq l V f).head?.bind (l.mB[·]?)=Db\/∃i r w,vq l V f=i::r/\l.mB[i]?=Fa w/\(vq l V f).head?.bind (l.mB[·]?)=Fa w:=by
 cases e:vq l V f with
 | nil=>exact .inl ⟨rfl,rfl⟩
 | cons i r=>obtain⟨w,hw,_⟩:=zj (l:=l) (V:=V) (f:=f) (i:=i) (by rw[e];exact dD);exact .inr ⟨i,r,w,rfl,hw,hw⟩
theorem F6(h:yV l V){c:Str}:∀(n:Nat) (z:Str) (way:QQQ) (st Xk:sr),Xk.map (·.1)=st.map (·.1)->(sI l.less (V.mT l p F lg) c n z way Xk).1=(sI l V c n z way st).1/\(sI l.less (V.mT l p F lg) c n z way Xk).2.map (·.1)=(sI l V c n z way st).2.map (·.1)
 | 0,_,_,_,_,e=>⟨rfl,e⟩
 | n+1,z,way,st,Xk,e=>by
  unfold sI;by_cases hw:hasS way z=pc
  .rw[cV hw,cV hw];exact⟨rfl,e⟩
  rw[cS hw,cS hw];have ef:vN l.less (V.mT l p F lg) c z=vq l.less (V.mT l p F lg) (va l V c z):=by unfold vN;rw[Mg]
  rw[ef];have hd:=B6 (p:=p) (F:=F) (lg:=lg) h (va l V c z);unfold vN;have snoc:∀(fs fs2:T0 Nat),(Xk++[(z,fs2)]).map (·.1)=(st++[(z,fs)]).map (·.1):=λfs fs2=>by rw[dz,dz,e];rfl
  rcases yr (l:=l) (V:=V) (f:=va l V c z)with⟨e1,e2⟩|⟨i,r,w,e1,e2,e3⟩
  .rcases yr (l:=l.less) (V:=V.mT l p F lg) (f:=va l V c z)with⟨g1,g2⟩|⟨i',r',w',g1,g2,g3⟩
   .rw[e1,g1];exact⟨rfl,snoc _ _⟩
   .rw[g3,e2]at hd;cases hd
  .rcases yr (l:=l.less) (V:=V.mT l p F lg) (f:=va l V c z)with⟨g1,g2⟩|⟨i',r',w',g1,g2,g3⟩
   .rw[g2,e3]at hd;cases hd
   .rw[g3,e3]at hd;cases hd;rw[e1,g1];dsimp only;rw[e2,g2];dsimp only[Option.elim];cases D4 z w.2 with
    | inl en=>exact⟨rfl,snoc _ _⟩
    | inr y=>exact F6 h n y _ _ _ (snoc _ _)
theorem GB(i:Nat):∀(o:Option Str) (st Xk:sr),Xk.map (·.1)=st.map (·.1)->vg (rB i o st) (rB i o Xk)
 | _,[],[],_=>by cases ‹Option Str›<;>rfl
 | _,[],_::_,h=>by cases h
 | _,_::_,[],h=>by cases h
 | o,(z,fs)::r,(z2,fs2)::r2,h=>by
  have h1:z2=z:=(fD h).1;have h2:r2.map (·.1)=r.map (·.1):=(fD h).2;subst h1;have ih:=GB i (Fa z2) r r2 h2;cases o with
  | none=>exact eE (Ev.asks i z2 []::·) ih
  | some y=>exact eE (λx=>Ev.leg ⟨i,y,z2,y⟩::Ev.asks i z2 []::x) ih
def Qt{st Xk:sr}(h:Xk.map (·.1)=st.map (·.1)):(Xk.getLast?).map (·.1)=(st.getLast?).map (·.1):=by rw[<-lq,h,lq]
def wH{a b c d:T0 Ev}(h:vg a b)(g:vg c d):vg (a++c) (b++d):=by show(a++c).map _=(b++d).map _;rw[dz,dz,h,g]
def Q0(h:yV l V){i:Nat}:vg (uu l V i) (uu l.less (V.mT l p F lg) i):=by
 unfold uu;show vg ((V.calls[i]?).elim [] _) ((V.calls[i]?).elim [] _);cases V.calls[i]? with
 | none=>rfl
 | some c=>
  dsimp only[Option.elim];have r:=F6 (p:=p) (F:=F) (lg:=lg) h (c:=c.cr) (l.nm.length+1) (c.way.getLastD Str.empty) c.way.dropLast [] [] rfl;have r:(se l.less (V.mT l p F lg) c.cr (c.way.getLastD Str.empty) c.way.dropLast).1=(se l V c.cr (c.way.getLastD Str.empty) c.way.dropLast).1/\(se l.less (V.mT l p F lg) c.cr (c.way.getLastD Str.empty) c.way.dropLast).2.map (·.1)=(se l V c.cr (c.way.getLastD Str.empty) c.way.dropLast).2.map (·.1):=r;generalize se l.less (V.mT l p F lg) c.cr (c.way.getLastD Str.empty) c.way.dropLast=g2 at r ⊢;generalize se l V c.cr (c.way.getLastD Str.empty) c.way.dropLast=g1 at r ⊢;obtain⟨e1,s1⟩:=g1;obtain⟨e2,s2⟩:=g2;obtain⟨r1,r2⟩:=r;dsimp only at r1 r2 ⊢;subst r1;refine wH (GB i Db _ _ r2) (wH ?_ ?_)
  .cases e2 with
   | ring ns=>
    show vg ((s1.getLast?).elim [] _) ((s2.getLast?).elim [] _);have:=Qt r2;cases h1:s1.getLast?<;>cases h2:s2.getLast?<;>rw[h1,h2]at this
    .cases this
    .cases this
    .have:=cY this;dsimp only[Option.elim]at this ⊢;rw[this]
   | _=>rfl
  .cases e2<;>rfl
def S4(h:yV l V){i:Nat}:(wg l.less (V.mT l p F lg) i).head?.bind (l.less.mB[·]?)=(wg l V i).head?.bind (l.mB[·]?):=by
 unfold wg;show((V.calls[i]?).elim [] _).head?.bind _=((V.calls[i]?).elim [] _).head?.bind _;cases V.calls[i]? with
 | none=>rfl
 | some c=>
  dsimp only[Option.elim];by_cases hs:(c.st=="rings")=pc
  .rw[cV hs,cV hs];exact B6 h (Fg c)
  .rw[cS hs,cS hs];rfl
def Lq{e:Ev}(h:e.oC):e.nO:=by cases e<;>first|exact h.elim|trivial
def Rk:∀e∈uu l V i,e.nO:=λe h=>Lq (Nt e h)
def G9:∀e∈r6 l V i fs,e.nO:=λe h=>Lq (GA e h)
def FI{es:T0 Ev}{V:qo}(h:∀e∈es,e.nO):(qF V es).on=V.on:=by
 induction es generalizing V with
 | nil=>rfl
 | cons e r ih=>show(qF (qb V e) r).on=V.on;rw[ih λx hx=>h x (dw _ hx)];have:=h e dD;cases e<;>first|exact this.elim|rfl
def OB(h:yV l V){i:Nat}:vg (r6 l V i (wg l V i)) (r6 l.less (V.mT l p F lg) i (wg l.less (V.mT l p F lg) i)):=by
 have hd:=S4 (p:=p) (F:=F) (lg:=lg) h (i:=i);generalize wg l.less (V.mT l p F lg) i=f2 at hd ⊢;generalize wg l V i=f1 at hd ⊢;unfold r6;rw[hd];split
 .rename_i x y _ _;dsimp only;have al:vg [Ev.asks i x f1,.quiet i,.leg ⟨i,x,y,x⟩] [Ev.asks i x f2,.quiet i,.leg ⟨i,x,y,x⟩]:=rfl;have ns:∀e∈[Ev.asks i x f1,.quiet i,.leg ⟨i,x,y,x⟩],e.nO:=λe he=>by simp only[cW,dv,eF]at he;rcases he with rfl|rfl|rfl<;>trivial
  refine wH al ?_;rw[BC al ns];exact Q0 ((FI ns).trans h)
 .rfl
theorem Jw:∀(is:T0 Nat) (V:qo) (lg:T0 Ev),yV l V->vg (qM l is V) (qM l.less is (V.mT l p F lg))
 | [],_,_,_=>rfl
 | i::r,V,lg,h=>by have al:=OB (p:=p) (F:=F) (lg:=lg) h (i:=i);unfold qM;refine wH al ?_;rw[BC al G9];exact Jw r _ _ ((FI G9).trans h)
def NH(is:T0 Nat)(V:qo):∀e∈qM l is V,e.nO:=λe h=>Lq (GE is V e h)
def tR.nO:tR->Prop
 | .sw _ _=>False
 | _=>True
def Tn(h:yV l V){e:tR}(hs:e.nO):vg (uW l V e) (uW l.less (V.mT l p F lg) e):=by
 cases e with
 | call y z=>
  show vg (_++_) (_++_);have ns:∀e∈[Ev.new V.calls.length y,.leg ⟨V.calls.length,y,z,y⟩],e.nO:=λe he=>by simp only[cW,dv,eF]at he;rcases he with rfl|rfl<;>trivial
  refine wH rfl ?_;show vg _ (uu l.less (qF (V.mT l p F lg) [Ev.new V.calls.length y,.leg ⟨V.calls.length,y,z,y⟩]) V.calls.length);rw[BC (es:=[Ev.new V.calls.length y,.leg ⟨V.calls.length,y,z,y⟩]) rfl ns];exact Q0 ((FI ns).trans h)
 | num w x ms=>
  match ms with
  | []=>rfl
  | [_]=>rfl
  | [_,_]=>rfl
  | _::_::_::_=>rfl
 | turn=>show vg (yk l V) (yk l.less (V.mT l p F lg));unfold yk;refine eE (Ev.turn::·) ?_;have:=Jw (l:=l) (p:=p) (F:=F) (List.range V.calls.length) (qb V .turn) (lg++[.turn]) h;exact this
 | sw b i=>exact hs.elim
def Lh:∀e∈vm V x i,e.nO:=λe h=>by
 unfold vm at h;cases hc:V.calls[i]? with
 | none=>rw[hc]at h;cases h
 | some c=>
  rw[hc]at h;dsimp only[Option.elim]at h;split at h
  .rw[cX.mp h];trivial
  split at h
  .rcases cW.mp h with rfl|h
   .trivial
   .split at h
    .rw[cX.mp h];trivial
    .cases h
  split at h
  .rw[cX.mp h];trivial
  .rw[cX.mp h];trivial
def NB{e:tR}(hs:e.nO):∀v∈uW l V e,v.nO:=λv h=>by
 cases e with
 | call y z=>
  rcases dI.mp (show v∈[Ev.new V.calls.length y,.leg ⟨V.calls.length,y,z,y⟩]++uu l _ _ from h)with h|h
  .simp only[cW,dv,eF]at h;rcases h with rfl|rfl<;>trivial
  .exact Rk v h
 | turn=>
  rcases cW.mp (show v∈Ev.turn::qM l _ _ from h)with rfl|h
  .trivial
  .exact NH _ _ v h
 | sw b i=>exact hs.elim
 | num w x ms=>
  match ms with
  | []=>cases h
  | [i]=>
   unfold uW at h;dsimp only at h;split at h
   .exact Lh v h
   .rw[cX.mp h];unfold C0;cases V.calls[i.toNat]? with
    | none=>trivial
    | some c=>
     dsimp only[Option.elim];split
     .trivial
     .split<;>trivial
  | [i,j]=>
   rw[cX.mp (show v∈[By V w x i.toNat j.toNat]from h)];unfold By;cases V.calls[i.toNat]? with
   | none=>trivial
   | some c=>
    cases V.calls[j.toNat]? with
    | none=>trivial
    | some d=>trivial
  | _::_::_::_=>cases h
def Lx{e:tR}(hs:e.nO):wU l.less (V.mT l p F lg) e=wU l V e:=by
 cases e with
 | sw b i=>exact hs.elim
 | _=>rfl
noncomputable def uV(l:pF):T0 Nat:=(List.range l.mB.length).filter λi=>(l.mB[i]?).elim lf (·.1)
noncomputable def Tc(l:pF)(s:Str×T0 Nat):Str×T0 Nat:=(s.1,s.2.map λj=>(uV l).getD j 0)
theorem yD{α:Type}(q:α->Bool)(g:α->Nat):∀K:List α,((List.range K.length).filter λj=>(K[j]?).elim lf q).map (λj=>(K.map g).getD j 0)=(K.filter q).map g
 | []=>rfl
 | x::r=>by
  have ih:=yD q g r;rw[dU,iz,gb,fM,gb];have e1:((λj=>((x::r)[j]?).elim lf q)∘Nat.succ)=λj=>(r[j]?).elim lf q:=rfl;rw[e1];have e2:(((List.range r.length).filter λj=>(r[j]?).elim lf q).map Nat.succ).map (λj=>((x::r).map g).getD j 0)=(r.filter q).map g:=by rw[dS,<-ih];rfl
  show List.map _ (if q x=pc then 0::_ else _)=_;by_cases hq:q x=pc
  .rw[cV hq,cV hq,dN,e2,dN];rfl
  .rw[cS hq,cS hq,e2]
def Fm{α:Type}(q:α->Bool)(ws:List α):(List.range ws.length).filter (λj=>(ws[j]?).elim lf q)=(ws.zipIdx.filter λx=>q x.1).map (·.2):=by
 rw[<-yD (λx:α×Nat=>q x.1) (·.2) ws.zipIdx,List.length_zipIdx];have e:∀j,(ws.zipIdx[j]?).elim lf (λx:α×Nat=>q x.1)=(ws[j]?).elim lf q:=λj=>by rw[kg];cases ws[j]?<;>rfl
 simp only[e];have e2:∀j∈(List.range ws.length).filter (λj=>(ws[j]?).elim lf q),(ws.zipIdx.map (·.2)).getD j 0=j:=λj hj=>by have:=fJ.mp (fh.mp hj).1;rw[eO,df,kg,cQ this];simp
 rw[fV e2,List.map_id']
def Ls{V:qo}(h:yV l V)(f:Wi->Bool):vq l V f=(List.range l.mB.length).filter λi=>(l.mB[i]?).elim lf λw=>w.1&&f w.2:=by unfold vq;rw[h,cO];congr 1;funext i;rw[eO,df];cases l.mB[i]?<;>rfl
def Hc:l.less.mB=(l.mB.zipIdx.filter λx=>x.1.1).map (·.1):=by
 show l.mB.filter (·.1)=_
 conv=>lhs;rw[<-List.zipIdx_map_fst 0 l.mB]
 rw[fM];rfl
def LX(h:yV l V)(f:Wi->Bool):vq l V f=(vq l.less (V.mT l p F lg) f).map λj=>(uV l).getD j 0:=by
 rw[Ls h,Ls (l:=l.less) rfl,Fm (λw:tI=>w.1&&f w.2)];have hk:uV l=(l.mB.zipIdx.filter λx=>x.1.1).map (·.2):=Fm (λw:tI=>w.1) l.mB;have e:∀(K:T0 (tI×Nat)),((List.range (K.map (·.1)).length).filter λi=>((K.map (·.1))[i]?).elim lf λw=>w.1&&f w.2)=(List.range K.length).filter λj=>(K[j]?).elim lf λx=>x.1.1&&f x.1.2:=λK=>by rw[cO];congr 1;funext i;rw[df];cases K[i]?<;>rfl
 rw[hk,Hc,e,yD (λx:tI×Nat=>x.1.1&&f x.1.2) (·.2),kQ];congr 2;funext x;cases x.1.1<;>simp
theorem BB(h:yV l V){c:Str}:∀(n:Nat) (z:Str) (way:QQQ) (st Xk:sr),st=Xk.map (Tc l)->(sI l V c n z way st).1=(sI l.less (V.mT l p F lg) c n z way Xk).1/\(sI l V c n z way st).2=(sI l.less (V.mT l p F lg) c n z way Xk).2.map (Tc l)
 | 0,_,_,_,_,e=>⟨rfl,e⟩
 | n+1,z,way,st,Xk,e=>by
  unfold sI;by_cases hw:hasS way z=pc
  .rw[cV hw,cV hw];exact⟨rfl,e⟩
  rw[cS hw,cS hw];have ef:vN l.less (V.mT l p F lg) c z=vq l.less (V.mT l p F lg) (va l V c z):=by unfold vN;rw[Mg]
  rw[ef];have hd:=B6 (p:=p) (F:=F) (lg:=lg) h (va l V c z);have hk:=LX (p:=p) (F:=F) (lg:=lg) h (va l V c z);unfold vN;have snoc:∀(fs fs2:T0 Nat),fs=fs2.map (λj=>(uV l).getD j 0)->(st++[(z,fs)])=(Xk++[(z,fs2)]).map (Tc l):=λfs fs2 hf=>by rw[dz,e,hf];rfl
  rcases yr (l:=l) (V:=V) (f:=va l V c z)with⟨e1,e2⟩|⟨i,r,w,e1,e2,e3⟩
  .rcases yr (l:=l.less) (V:=V.mT l p F lg) (f:=va l V c z)with⟨g1,g2⟩|⟨i',r',w',g1,g2,g3⟩
   .rw[e1,g1];exact⟨rfl,snoc _ _ rfl⟩
   .rw[g3,e2]at hd;cases hd
  .rcases yr (l:=l.less) (V:=V.mT l p F lg) (f:=va l V c z)with⟨g1,g2⟩|⟨i',r',w',g1,g2,g3⟩
   .rw[g2,e3]at hd;cases hd
   .rw[g3,e3]at hd;cases hd;rw[e1,g1]at hk ⊢;dsimp only;rw[e2,g2];dsimp only[Option.elim];cases D4 z w.2 with
    | inl en=>exact⟨rfl,snoc _ _ hk⟩
    | inr y=>exact BB h n y _ _ _ (snoc _ _ hk)
def O0{j:Nat}{f:Wi->Bool}(hj:j∈vq l.less (V.mT l p F lg) f):j<(uV l).length:=by have hk:uV l=(l.mB.zipIdx.filter λx=>x.1.1).map (·.2):=Fm (λw:tI=>w.1) l.mB;obtain⟨w,hw,_⟩:=zj hj;have:=(cT.mp hw).1;rw[Hc,cO]at this;rw[hk,cO];exact this
theorem Ef{V:qo}{c:Str}(Pf:T0 Nat->Prop)(h0:Pf [])(hf:∀z,Pf (vN l V c z)):∀(n:Nat) (z:Str) (way:QQQ) (st:sr),(∀s∈st,Pf s.2)->∀s∈(sI l V c n z way st).2,Pf s.2
 | 0,_,_,_,h=>h
 | n+1,z,way,st,h=>by
  unfold sI;have more:∀fs,Pf fs->∀s∈st++[(z,fs)],Pf s.2:=λfs hf s hs=>by
   rcases dI.mp hs with y|y
   .exact h s y
   .rw[cX.mp y];exact hf
  have hz:=hf z;split
  .exact h
  .split
   .exact more [] h0
   .rename_i i r e;rw[e]at hz;cases l.mB[i]? with
    | none=>exact h
    | some w=>
     dsimp only[Option.elim];split
     .exact more _ hz
     .exact Ef Pf h0 hf n _ _ _ (more _ hz)
def Kb(V:qo):sZ 8 (.tup [.int V.t,.tup (V.calls.map AL),.tup ((tj V.ps).map xO)])=pc:=by
 have h:[D.int V.t,.tup (V.calls.map AL),.tup ((tj V.ps).map xO),.tup (V.on.map D.bl)].all (sZ 7)=pc:=MK (n:=4) V;show[D.int V.t,.tup (V.calls.map AL),.tup ((tj V.ps).map xO)].all (sZ 7)=pc;rw[eA]at h ⊢;exact λx hx=>h x (by
  simp only[cW,dv,eF]at hx ⊢;rcases hx with h|h|h
  .exact .inl h
  .exact .inr (.inl h)
  .exact .inr (.inr (.inl h)))
def Mr(e:vI):sZ 8 e.d=pc:=by
 have t:∀ss:QQQ,sZ 7 (names ss)=pc:=λss=>Af 6 ss;cases e with
 | rings z ps=>show([D.str "rings",.str z,names ps].all (sZ 7))=pc;simp only[eR,t];rfl
 | ring ns=>show([D.str "ring",names ns].all (sZ 7))=pc;simp only[eR,t];rfl
 | _=>rfl
def Qd(ok:rh l):rh l.less:=⟨ok.p1,ok.p8,ok.po,ok.g3,ok.go,ok.nd,dR (fN _ _) ok.oh,λw hw=>ok.wo w (fh.mp hw).1⟩
def IH{V:qo}{p:Uf}{F:QXQ}{on:T0 Bool}{lg:T0 Ev}(h:WF l V):WF l.less (V.re p F on lg):=⟨λi c e=>by
  have k:=h.ok i c e;exact⟨k.sh,k.cr,k.at_,k.ms,k.an,k.mn,k.ca,k.wy⟩,h.un,h.ln,h.wt,h.nx⟩
def Mj(a:Ad):rm:=λds M Q=>Sk λA V A2 p F on lg=>ds=[.ref (tq.b A),.ref (tq.b A2)]/\pM a M A V/\pM a M A2 (V.re p F on lg)/\V.calls.length<=10000/\V.ps.length<=3/\Q (.bl pc) M
def JZ(a:Ad):rm:=λds M Q=>KU λA V A2 p F lg l c z rk=>ds=[.ref (tq.b A),.ref (tq.b A2),.str c,.str z,.ref rk]/\Rd a M A V l/\Rd a M A2 (V.mT l p F lg) l.less/\WF l V/\yV l V/\z∈l.nm/\oX M rk=Fa ((uV l).map λn=>D.int (n:Nat))/\Q (.bl pc) M
def LL:Fq P w K mg base 3 a.bu (Mj a):=by
 refine fq G.bu.toDG Fe (λr u=>⟨_,(pz (pG (sV (qh u (rP (pJ (BI G) r G.ae (qm v0)) sR (sO pB)) (rP (pJ (BI G) r G.ae (qm U1)) sR (sO pB))) (sj (qh u (pE v0) (pE U1)))))),?_⟩)
 rintro ds M Q ⟨A,V,A2,p,F,on,lg,rfl,b1,b2,hc,ps,q⟩
 refine⟨A,V,rfl,b1,hc,ps,A2,_,rfl,b2,hc,ps,?_⟩;refine pk (xY 8 _ (Kb V)) ?_;have el:zc M 9 (.ref A.le) (.ref A2.le)=Fa pc:=DA b1.le b2.le λd hd=>by obtain⟨v,_,rfl⟩:=dq.mp hd;exact xY 7 _ rfl
 exact pA b1.at_ (pk rfl (pA b2.at_ (pk rfl (pk el ⟨M,.refl,q⟩))))
def Kj:Fq P w K mg base 9 a.bv (JZ a):=by
 refine fq G.bv.toDG rK (λr u=>⟨_,(pq (IA (pJ (Cy G) r G.L (pX v0 (rb U2 U3 (qO sF)))) (tY (n:=2) rfl (qk (rC 5 rK) (qk (rC 6 rK) sQ))))
 (pq (IA (pJ (Cy G) r G.L (pX U1 (rb U2 U3 (qO sF)))) (tY (n:=2) rfl (qk (rC 7 rK) (qk (rC 8 rK) sQ))))
 (pq (ur (i:=9) rK.nd rfl (Or.inl rfl) rfl (xn (ix:=[Db,Db,Fa 4]) (N':=["_law_name","_law_fits","_law_kept"])) (qH v8) (tY (n:=2) rfl (qk (qx 0) (qk (qx 1) sQ))) rH (pP (sf v0 (qg rX rfl G.w rZ (qm (qG rfl (xn (ix:=[Db,Fa 2]) (N':=["_law_i","_law_kept"])) (qH U1) (qx 0) rH (pL U1 v0)))))))
 (pz (pG (sV (qh u v5 v7) (sj (qh u v6 v9)))))))),?_⟩)
 .rintro ds M Q ⟨A,V,A2,p,F,lg,l,c,z,rk,rfl,rd,YD,wf,oa,XQ,lk,q⟩
  have hz:=dF;have rk0:=BB (p:=p) (F:=F) (lg:=lg) oa (c:=c) (l.nm.length+1) z [] [] [] rfl;have sk0:=Ef (l:=l.less) (V:=V.mT l p F lg) (c:=c) (λfs=>(∀j∈fs,j<(uV l).length)/\fs.length<=16) ⟨(λj hj=>by cases hj),d9 _⟩ (λz=>⟨λj hj=>O0 hj,by
   have h1:(vN l.less (V.mT l p F lg) c z).length<=(List.range (l.less.mB.map (·.1)).length).length:=fN _ _;rw[dZ,cO]at h1;exact dR h1 YD.ok.oh⟩) (l.nm.length+1) z [] [] (λs hs=>by cases hs)
  have ro:=xS (V:=V.mT l p F lg) (c:=c) YD.ok (l.nm.length+1) z [] [] XQ (λx hx=>by cases hx);refine⟨pb rfl,λe1 he1=>?_⟩;have t1:=qr.new (c:=.lst []) he1;refine⟨A,V,l,c,z,e1,[],rfl,rd.sub t1,XQ,wf.nx,pH,d9 _,λq1 M1 s1 Yc l1=>⟨rfl,?_⟩⟩;dsimp only[rS,wm,zq];have s1:=t1.trans s1;refine⟨pb rfl,λe2 he2=>?_⟩;have t2:=qr.new (c:=.lst []) he2;refine⟨A2,V.mT l p F lg,l.less,c,z,e2,[],rfl,YD.sub (s1.trans t2),XQ,(IH wf).nx,pH,d9 _,λq2 M2 s2 Zk l2=>⟨rfl,?_⟩⟩;dsimp only[rS,wm,zq];have s2:=t2.trans s2;have l1:=s2.lst l1;have lk:=(s1.trans s2).lst lk;have s02:=s1.trans s2;have rk1:(se l V c z []).1=(se l.less (V.mT l p F lg) c z []).1/\(se l V c z []).2=(se l.less (V.mT l p F lg) c z []).2.map (Tc l):=rk0;have sk1:∀s∈(se l.less (V.mT l p F lg) c z []).2,(∀j∈s.2,j<(uV l).length)/\s.2.length<=16:=sk0;have ln:(se l.less (V.mT l p F lg) c z []).2.length<=100:=dR ro.len (by
   have p8:=rd.ok.p8;have g3:=rd.ok.g3;show 0+(l.nm.length+1)<=100;unfold pF.nm pF.pn pF.gn;rw[cR,cO,cO];omega)
  rw[rk1.2]at l1;generalize se l V c z []=g1 at rk1 ⊢;generalize se l.less (V.mT l p F lg) c z []=g2 at l1 l2 rk1 sk1 ln ⊢;obtain⟨en,st⟩:=g1;obtain⟨en2,Xk⟩:=g2;obtain⟨rfl,_⟩:=rk1;dsimp only at l1 l2 sk1 ln ⊢;refine pk l2 (yf (qN Xk) (λpre acc U M'=>(qr M2 M'/\acc=qN ((Xk.take pre.length).map (Tc l)))/\∃y0 y1,U=[y0,y1,Fa (.ref rk)]) (λ_ _ _ M' j=>j.1.1.lst l2) _ [] [] _ _ rfl (by rw[show(qN Xk).length=Xk.length from cO ..,dB];omega) ⟨⟨.refl,rfl⟩,Db,Db,rfl⟩ ?_ ?_)
  .rintro pre d post e acc U M' ⟨⟨s3,rfl⟩,y0,y1,rfl⟩ k hk
   obtain⟨z1,fs,es,rfl,et⟩:=GG e;rw[cR,dG,et]at hk;have hm:=qJ es;have lk:=s3.lst lk;refine⟨rfl,?_⟩;dsimp only[rS,wm,zq];refine yf (fs.map λn=>D.int (n:Nat)) (λpre acc U Xg=>(M'=Xg/\acc=(fs.take pre.length).map λj=>D.int ((uV l).getD j 0:Nat))/\∃y,U=[y,Fa (.ref rk)]) (λ_ _ _ _ _=>trivial) _ [] [] _ _ rfl (by rw[cO,dB];have:=(sk1 _ hm).2;dsimp only at this;omega) ⟨⟨rfl,rfl⟩,Db,rfl⟩ ?_ ?_
   .rintro ZF d post2 e2 acc2 U Xg ⟨⟨rfl,rfl⟩,y,rfl⟩ k2 YI
    have h:(fs.map λn=>D.int (n:Nat))[ZF.length]?=Fa d:=by rw[<-e2];simp
    rw[df]at h;cases hx:fs[ZF.length]? with
    | none=>rw[hx]at h;cases h
    | some j=>
     rw[hx]at h;cases h;have hj:=(sk1 _ hm).1 j (qJ hx);have et2:fs.take (ZF.length+1)=fs.take ZF.length++[j]:=by rw[gj,hx];rfl
     rw[cR,dG,et2,dz]at YI;refine pk lk (pk (uE (v:=.int ((uV l).getD j 0:Nat)) ?_) (YI _ _ _ ⟨⟨rfl,rfl⟩,_,rfl⟩));rw[df,cQ hj,eO,cQ hj];rfl
   .rintro acc2 U Xg ⟨⟨rfl,rfl⟩,y,rfl⟩ p1 Yp
    rw[cO,eY];refine pk pH ⟨pb rfl,hk _ _ _ ⟨⟨s3.trans (.new Yp),?_⟩,_,_,rfl⟩⟩;unfold qN;rw[dz,dz];congr 1;show _=[D.tup [.str z1,vF (fs.map λj=>(uV l).getD j 0)]];unfold vF;rw[dS];rfl
  .rintro acc U M' ⟨⟨s3,rfl⟩,y0,y1,rfl⟩ p1 Yp
   rw[show(qN Xk).length=Xk.length from cO ..,eY];have s4:=qr.new (c:=.lst (qN (Xk.map (Tc l)))) Yp;refine pk (xY 8 _ (Mr en)) ?_;refine pk (DA ((s3.trans s4).lst l1) pH λd hd=>?_) ⟨M,s02.trans (s3.trans s4),q⟩;obtain⟨x,_,rfl⟩:=dq.mp hd;have u:sZ 6 (vF x.2)=pc:=Ee 5 x.2;refine xY 7 _ ?_;show([D.str x.1,vF x.2].all (sZ 6))=pc;simp only[eR,u];rfl
seal L3.E3 L3.B3 L3.A3 L3.S3 L3.Hh
def MT:rm:=λds M Q=>∃ns:T0 Int,ds=[.rl (ns.map D.int)]/\ns.length<=63/\Q (.bl pc) M
noncomputable def WH:D->Bool
 | .tup (.bl b::_)=>b
 | _=>lf
def MQ(l:pF):((l.mB.map tH).filter WH).map id=l.less.mB.map tH:=by rw[g9,fM];rfl
noncomputable def Vp(l:pF):D->Bool
 | .int i=>(l.mB[i.toNat]?).elim lf (·.1)
 | _=>lf
def Ms(l:pF):(((List.range l.mB.length).map λn=>D.int (0+(n:Nat))).filter (Vp l)).map id=(uV l).map λn=>D.int (n:Nat):=by
 rw[g9,fM];have e:(Vp l∘λn=>D.int (0+((n:Nat):Int)))=λi=>(l.mB[i]?).elim lf (·.1):=funext λn=>by show(l.mB[(0+((n:Nat):Int)).toNat]?).elim lf (·.1)=_;rw[io,gz]
 rw[e];unfold uV;congr 1;funext n;rw[io]
def Ly{l:pF}{i:Nat}{w:tI}(h:l.mB[i]?=Fa w):wB (l.mB.map tH) (0+(i:Int))=Fa (tH w):=by rw[io];exact uE (by rw[df,h];rfl)
def L5{α:Type}{f:α->D}{xs:List α}{pre post:T0 D}{d:D}(e:pre++d::post=ue 0 (xs.map f)):∃x,xs[pre.length]?=Fa x/\d=.tup [.int (pre.length:Nat),f x]/\xs.take (pre.length+1)=xs.take pre.length++[x]:=by
 obtain⟨y,h,rfl⟩:=Bo e;rw[df]at h;cases hx:xs[pre.length]? with
 | none=>rw[hx]at h;cases h
 | some x=>rw[hx]at h;cases h;exact⟨x,rfl,rfl,by rw[gj,hx];rfl⟩
def To(ok:rh l){ws:List tI}(h:ws.map (·.2)=l.mB.map (·.2)):rh {l with mB:=ws}:=⟨ok.p1,ok.p8,ok.po,ok.g3,ok.go,ok.nd,by
  have:=eE List.length h;rw[cO,cO]at this;show ws.length<=16;rw[this];exact ok.oh,λw hw=>by
  have:w.2∈l.mB.map (·.2):=by rw[<-h];exact dq.mpr ⟨w,hw,rfl⟩
  obtain⟨u,hu,e⟩:=dq.mp this;rw[<-e];exact ok.wo u hu⟩
noncomputable def F9(ns:T0 Int)(r1 r2 r3 w0:Uf)(ys:T0 (Option D)):T0 (Option D):=some (.rl (ns.map D.int))::Fa (.tup [.ref r1,.ref r2,.ref r3])::Fa (.ref w0)::ys
def SM:Fq P w K mg base 17 a.al MT:=by
 refine fq G.al.toDG tG (λr u=>⟨_,(pq (pO 1 tG (pJ (Lu G) r G.bo (sf v0 pB)))
 (pq (pO 2 tG (qO sF))
 (pq (uZ fj rfl (uH rfl G.aQ (qm (pL U1 pB))) (tY (n:=2) rfl (qk (rC 3 tG) (qk (tY (n:=2) rfl (qk (rC 4 tG) (qk (rC 5 tG) sQ))) sQ)))
 (pz (pQ (rF U2 (qm (pP (sf (sV v4 (sj (qh u (pJ (qI G) r G.i (rb (pW (pJ (JO G) r G.J (sf v0 (pW pB U3))) U3) pB pB)) pB))) v5)))))))
 (pq (ur (i:=6) tG.nd rfl (Or.inl rfl) rfl (xn (ix:=[Db]) (N':=["_law_phone"])) (qH (pL U1 pB)) (qx 0) rH (pL v0 pB))
 (pq (pO 7 tG (pW v6 (qG rfl (xn (ix:=[Db]) (N':=["_law_group"])) (qH (pL U1 pB)) (qx 0) rH (pL v0 pB))))
 (pq (pO 8 tG (pW (pJ (JO G) r G.J (sf v0 pB)) pB))
 (pq (pO 9 tG (uO (Hf G) r G.c G.bU G.R.toDG (sf (uO (IG G) r G.h G.bV G.S.toDG (rb (pL U1 pB) (pL U1 pB) U2)) v8)))
 (pq (pO 10 tG (uO (Hf G) r G.c G.bU G.R.toDG (sf (uO (IG G) r G.h G.bV G.S.toDG (rb (pL U1 pB) (pL U1 pB) (qG rfl (xn (ix:=[Db]) (N':=["_law_pair"])) (qH U2) (qx 0) (ve (uM (pL v0 pB))) v0))) v8)))
 (pq (ur (i:=11) tG.nd rfl (Or.inl rfl) rfl (xn (ix:=[Db,Fa 2]) (N':=["_law_i","_law_wishes"])) (vp rfl G.ac (qm (pU qy rfl G.g qv (qm U2)))) (qx 0) (ve (uM (pL (pL U1 v0) pB))) v0)
 (pq (uZ fj rfl (uH rfl G.aQ (qm (pW (rP v0 sR (sO pB)) (qO (qm pB))))) (tY (n:=2) rfl (qk (rC 3 tG) (qk (rC 12 tG) sQ)))
 (pq (pO 13 tG (pJ (Mt G) r G.bt (pX v9 (rb (pW V4 (pW (pW pB U3) U3)) v6 v7))))
 (pq (pT (W3.b3 (xF (pK u (pL Vq pB) pC) (xb (pK u (pL Vq pB) pC))))
 (pz (pO 13 tG (pP (qm pC))))
 pN)
 (pq (pT (W3.b3 (xF (pK u (pJ (JI G) r G.ak (sf v9 Vq)) (pJ (JI G) r G.ak (sf VV Vq))) (xb (xc (uM (pJ (LL G) r G.bu (sf v9 VV)))))))
 (pz (pG ww))
 pN)
 (pq (pO 14 tG (pL v6 (pJ (qI G) r G.i (rb (pW V4 U3) pB (pU qy rfl G.g qv (qm v6))))))
 (pq (pO 15 tG (pL v7 (pJ (qI G) r G.i (rb (pW V4 U3) pB (pU qy rfl G.g qv (qm v7))))))
 (pz (pT (xc (uM (pJ (Kj G) r G.bv (pX v9 (pX VV (rb W4 WR WU))))))
 (pz (pG ww))
 pN))))))))
 (pz (pG ww)))))))))))),?_⟩)
 rintro ds M Q ⟨ns,rfl,hns,q⟩
 have hz:=dF;have ok:rh (B0 ns 5):=ON (by decide) (by decide);refine⟨ns,5,rfl,by decide,by decide,λr1 r2 r3 M1 s1 h1 h2 h3=>?_⟩;generalize B0 ns 5=l at h1 h2 h3 ok;dsimp only[rS,wm,zq];refine⟨pb rfl,λw0 hw0=>?_⟩;have t1:=qr.new (c:=.lst []) hw0;have lw:=@pH M1 w0 [];generalize pI M1 w0 (.lst [])=M2 at t1 lw ⊢;dsimp only[rS];refine Pd (t:=UG _ _ _) (λU M'=>∃ws:List tI,(qr M1 M'/\oX M' w0=Fa (ws.map tH)/\ws.map (·.2)=l.mB.map (·.2))/\∃y3 y4 y5,U=F9 ns r1 r2 r3 w0 [y3,y4,y5,Db,Db,Db,Db,Db,Db,Db,Db,Db,Db]) (λnx h=>?_) ?_
 .have Zh:=t1.lst h3;refine pk Zh (wK (ue 0 (l.mB.map tH)) (λpre U M'=>∃ws:List tI,(qr M1 M'/\oX M' w0=Fa (ws.map tH)/\ws.map (·.2)=(l.mB.take pre.length).map (·.2))/\∃y3 y4 y5,U=F9 ns r1 r2 r3 w0 [y3,y4,y5,Db,Db,Db,Db,Db,Db,Db,Db,Db,Db]) (λ_ _ M' j=>by obtain⟨ws,j,_⟩:=j;exact j.1.lst h3) _ [] _ _ rfl ⟨[],⟨t1,lw,rfl⟩,Db,Db,Db,rfl⟩ ?_ ?_)
  .rintro pre d post e U M' ⟨ws,⟨s3,l3,ew⟩,y3,y4,y5,rfl⟩ nx2 Xq
   obtain⟨w,e1,rfl,e2⟩:=L5 e;have hp:pre.length<l.mB.length:=(cT.mp e1).1;have oh:=ok.oh;have wl:ws.length<=16:=by have:=eE List.length ew;rw[cO,cO,fk]at this;omega
   rw[cR,dG,e2,dz]at Xq;have go:∀(b:Bool) y3 y4 y5,nx2 (F9 ns r1 r2 r3 w0 [y3,y4,y5,Db,Db,Db,Db,Db,Db,Db,Db,Db,Db]) (pI M' w0 (.lst (ws.map tH++[tH (b,w.2)]))):=λb y3 y4 y5=>Xq _ _ ⟨ws++[(b,w.2)],⟨λx d e=>so.put x d (N0 e hw0) (s3 x d e),by rw[dz];exact pH,by rw[dz,ew];rfl⟩,y3,y4,y5,rfl⟩;obtain⟨b,wi⟩:=w;refine⟨rfl,⟨rfl,?_⟩⟩;dsimp only[rS,wm,zq];refine⟨by show(oX M' w0).isSome=pc;rw[l3];rfl,?_⟩;cases b with
   | true=>exact⟨ns,_,rfl,_,_,_,rfl,by decide,pb rfl,pk l3 ⟨by rw[cO];omega,go _ _ _ _⟩⟩
   | false=>exact⟨pb rfl,pk l3 ⟨by rw[cO];omega,go lf _ _ _⟩⟩
  .rintro U M' ⟨ws,⟨s3,l3,ew⟩,y3,y4,y5,rfl⟩
   rw[uU,cO,eY]at ew;exact h _ _ ⟨ws,⟨s3,l3,ew⟩,_,_,_,rfl⟩
 rintro U M3 ⟨ws,⟨s3,lw,ew⟩,y3,y4,y5,rfl⟩
 obtain⟨l1,YB,e1,e2,e3⟩:∃l1:pF,rh l1/\l1.mD=l.mD/\l1.groups=l.groups/\l1.mB=ws:=⟨_,To ok ew,rfl,rfl,rfl⟩;rw[<-e1]at h1;rw[<-e2]at h2;rw[<-e3]at lw;have h1:=s3.lst h1;have h2:=s3.lst h2;have s01:=s1.trans s3;clear ew e1 e2 e3 s3 s1 t1 h3 hw0 ok ws;clear l;have p1:=YB.p1;have p8:=YB.p8;have g3:=YB.g3;have oh:=YB.oh;have pl:l1.pn.length=l1.mD.length:=cO ..;have nl:l1.nm.length=l1.mD.length+l1.groups.length:=by unfold pF.nm pF.pn pF.gn;rw[cR,cO,cO]
 refine pk h1 (ra (f:=AK) h1 _ [] _ (by rw[cO];simp only[dB];omega) (λd hd k hk=>?_) λro hro=>?_)
 .obtain⟨x,_,rfl⟩:=dq.mp hd;exact hk
 rw[dQ,w9];have t3:=qr.new (c:=.lst ((l1.mD.map (·.1)).map D.str)) hro;have lo:oX (pI M3 ro (.lst ((l1.mD.map (·.1)).map D.str))) ro=Fa (l1.pn.map D.str):=pH;have h1:=t3.lst h1;have h2:=t3.lst h2;have lw:=t3.lst lw;have s03:=s01.trans t3;generalize pI M3 ro (.lst ((l1.mD.map (·.1)).map D.str))=M4 at lo h1 h2 lw s03 ⊢;clear t3 hro s01;dsimp only[rS];refine Pd (t:=Df _ _) (λU M'=>qr M4 M'/\∃rn,oX M' rn=Fa (l1.nm.map D.str)/\U=F9 ns r1 r2 r3 w0 [y3,y4,y5,Fa (.ref ro),Fa (.ref rn),Db,Db,Db,Db,Db,Db,Db,Db]) (λnx h=>?_) ?_
 .refine pk h2 (ra (f:=AK) h2 _ [] _ (by rw[cO];simp only[dB];omega) (λd hd k hk=>?_) λp hp=>?_)
  .obtain⟨x,_,rfl⟩:=dq.mp hd;exact hk
  .rw[dQ,xk];have t:=qr.new (c:=.lst ((l1.groups.map (·.1)).map D.str)) hp;refine pk (t.lst lo) (pk pH ⟨by rw[cO,cO,cO];omega,λp2 Xn=>h _ _ ⟨t.trans (.new Xn),p2,?_,rfl⟩⟩);rw[pH,<-dz];rfl
 rintro U M5 ⟨s5,rn,ln,rfl⟩
 have lo:=s5.lst lo;have h1:=s5.lst h1;have h2:=s5.lst h2;have lw:=s5.lst lw;have s05:=s03.trans s5;clear s5 s03;refine Pd (t:=Df _ _) (λU M'=>M5=M'/\∃h:Int,U=F9 ns r1 r2 r3 w0 [y3,y4,y5,Fa (.ref ro),Fa (.ref rn),Fa (.int h),Db,Db,Db,Db,Db,Db,Db]) (λnx hh=>⟨ns,0,rfl,by decide,hh _ _ ⟨rfl,_,rfl⟩⟩) ?_
 rintro U M' ⟨rfl,h,rfl⟩
 refine λp hp=>?_;have t2:=qr.new (c:=.ins a.h []) hp;refine⟨p,r1,r2,w0,l1,rfl,pR,t2.lst h1,t2.lst h2,t2.lst lw,YB,λM6 kp pa _=>⟨rfl,λb hb=>?_⟩⟩;have s6:qr M5 M6:=λx c e=>kp x c (N0 e hp) (t2 x c e);have t5:=qr.new (c:=.ins a.c []) hb;have npb:p≠b:=λz=>by obtain⟨ph,gr,ws,YJ,pr,gd,rs,i1,_⟩:=pa;rw[z,hb]at i1;cases i1
 refine⟨b,p,_,[],l1,rfl,pR,pa.sub t5,YB,npb,(λx hx=>by cases hx),λM7 A eb kp7 fr bd=>⟨rfl,?_⟩⟩;obtain⟨cu,_⟩:=Lp.start YB pa hb eb kp7 fr bd;have s7:=s6.trans cu.s0;clear kp kp7 fr bd t2 t5 npb hp hb pa;have lw:=s7.lst lw;dsimp only[rS];refine pk lw (sT (f:=id) (t:=WH) lw _ [] _ (by rw[cO];simp only[dB];omega) (λd hd k0 hk=>?_) (λd hd _ k0 hk=>?_) λr4 hr4=>?_)
 .obtain⟨w,_,rfl⟩:=dq.mp hd;exact hk
 .exact hk
 rw[dQ,MQ];have t4:=qr.new (c:=.lst (l1.less.mB.map tH)) hr4;have h4:=@pH M7 r4 (l1.less.mB.map tH);generalize pI M7 r4 (.lst (l1.less.mB.map tH))=M8 at t4 h4 ⊢;have ok2:=Qd YB;have s8:=s7.trans t4;refine λp2 ZG=>?_;have t6:=qr.new (c:=.ins a.h []) ZG;refine⟨p2,r1,r2,r4,l1.less,rfl,pR,(s8.trans t6).lst h1,(s8.trans t6).lst h2,t6.lst h4,ok2,λM9 kp pa2 pf=>⟨rfl,λb2 hb2=>?_⟩⟩;have s9:qr M8 M9:=λx c e=>kp x c (N0 e ZG) (t6 x c e);have t7:=qr.new (c:=.ins a.c []) hb2;have npb:p2≠b2:=λz=>by obtain⟨ph,gr,ws,YJ,pr,gd,rs,i1,_⟩:=pa2;rw[z,hb2]at i1;cases i1
 refine⟨b2,p2,_,[],l1.less,rfl,pR,pa2.sub t7,ok2,npb,(λx hx=>by cases hx),λM10 A2 ZY kp6 fr bd=>⟨rfl,?_⟩⟩;obtain⟨Y9,_⟩:=Lp.start ok2 pa2 hb2 ZY kp6 fr bd;have pf':∀N,(∀x c,M8 x=Db->M9 x=Fa c->N x=Fa c)->sH a N p2 l1.less:=λN H=>pf N λx c hx e=>H x c (hx.elim (λz=>by rw[z];exact ZG) λz=>t6.none z) e;clear kp kp6 fr bd t6 t7 npb pf hb2 ZG pa2;subst eb;subst ZY;have s510:=s8.trans (s9.trans Y9.s0);have lw:=(t4.trans (s9.trans Y9.s0)).lst lw;dsimp only[rS];refine pk lw ⟨rfl,⟨by omega,by rw[cO];omega⟩,?_⟩;rw[cO,gz];refine sT (f:=id) (t:=Vp l1) trivial _ [] _ (by rw[cO,dZ];simp only[dB];omega) (λd hd k0 hk=>?_) (λd hd _ k0 hk=>?_) λrk hrk=>?_
 .obtain⟨n,hn,rfl⟩:=dq.mp hd;have hn:=fJ.mp hn;have hw:l1.mB[n]?=Fa l1.mB[n]:=cQ hn;have e:Vp l1 (.int (0+(n:Nat)))=l1.mB[n].1:=by show(l1.mB[(0+((n:Nat):Int)).toNat]?).elim lf (·.1)=_;rw[io,gz,hw];rfl
  rw[e]at hk;exact pk lw (pk (Ly hw) hk)
 .exact hk
 rw[dQ,Ms];have t11:=qr.new (c:=.lst ((uV l1).map λn=>D.int (n:Nat))) hrk;have lk:=@pH M10 rk ((uV l1).map λn=>D.int (n:Nat));have nk:rk∉A.foot:=(cu.sub (t4.trans (s9.trans Y9.s0))).bd.nH hrk;have nk2:rk∉A2.foot:=Y9.bd.nH hrk;generalize pI M10 rk (.lst ((uV l1).map λn=>D.int (n:Nat)))=M11 at t11 lk ⊢;clear hrk;have nA:∀{x ds},oX M5 x=Fa ds->x∉A.foot/\x∉A2.foot:=λ{x ds} e=>⟨(λz=>by
  have:=cu.fr x z;rw[s6 x _ (pY e)]at this;cases this),(λz=>by
  have:=Y9.fr x z;rw[(s8.trans s9) x _ (pY e)]at this;cases this)⟩
 dsimp only[rS];intro sl Zv;rw[show L3.uY (ns.map D.int) Db (Fa (63:Int))=(ns.map D.int).take 63 from Iv _ 63];have t12:=qr.new (c:=.lst ((ns.map D.int).take 63)) Zv;have l12:=@pH M11 sl ((ns.map D.int).take 63);generalize pI M11 sl (.lst ((ns.map D.int).take 63))=M12 at t12 l12 ⊢;refine⟨pb rfl,λp8 hp8=>?_⟩;have t13:=qr.new (c:=.lst [D.int 1]) hp8;have l13:=@pH M12 p8 [D.int 1];generalize pI M12 p8 (.lst [D.int 1])=M13 at t13 l13 ⊢;refine pk (t13.lst l12) (pk l13 ⟨by rw[fk,cO];show min 63 ns.length+1<=Ch;omega,λr5 hr5=>pk pH ?_⟩);have hL:((ns.map D.int).take 63++[D.int 1]).length<=64:=by rw[cR,fk,cO];show min 63 ns.length+1<=64;omega
 have hLi:∀d∈(ns.map D.int).take 63++[D.int 1],∃c,d=.int c:=λd hd=>by
  rcases dI.mp hd with z|z
  .obtain⟨c,_,rfl⟩:=dq.mp (iO z);exact⟨c,rfl⟩
  .rw[cX]at z;exact⟨1,z⟩
 generalize (ns.map D.int).take 63++[D.int 1]=L at hL hLi ⊢;have t14:=qr.new (c:=.lst L) hr5;have l14:=@pH M13 r5 L;have s13:=t11.trans (t12.trans t13);have Zn:=s13.trans t14;have n5:r5∉A.foot:=(cu.sub (t4.trans (s9.trans (Y9.s0.trans s13)))).bd.nH hr5;have n52:r5∉A2.foot:=(Y9.sub s13).bd.nH hr5;generalize pI M13 r5 (.lst L)=M14 at t14 l14 Zn ⊢;have i9:=Tw.start cu t4 s9 pf' Y9 Zn;have l5:=vV (vV l14 n5) n52;have lk:=vV (vV ((t12.trans (t13.trans t14)).lst lk) nk) nk2;have ln':=vV (vV ((s510.trans Zn).lst ln) (nA ln).1) (nA ln).2;have lo':=vV (vV ((s510.trans Zn).lst lo) (nA lo).1) (nA lo).2;have wf0:WF l1 (V0 p h l1 A2.foot):=TJ YB;have ps0:(V0 p h l1 A2.foot).ps.length<=3:=Ac YB;have sN:qr M (wG A2 (wG A M14)):=λx c e=>by
  have e1:=s6 x c (s05 x c e);have e2:=s9 x c (t4 x c (cu.s0 x c e1));refine zZ (zZ (Zn x c (Y9.s0 x c e2)) λz=>?_) λz=>?_
  .rw[cu.fr x z]at e1;cases e1
  .rw[Y9.fr x z]at e2;cases e2
 generalize wG A2 (wG A M14)=N at i9 l5 lo' ln' lk sN;generalize A.b=b at i9 ⊢;generalize A2.b=b2 at i9 ⊢;have pne:l1.pn≠[]:=λz=>by rw[z]at pl;simp only[dB]at pl;omega
 have nne:l1.nm≠[]:=λz=>by rw[z]at nl;simp only[dB]at nl;omega
 clear cu Y9 pf' n5 n52 Zn t14 hr5 l13 t13 hp8 l12 t12 Zv nA nk nk2 t11 s510 s8 s9 s7 s6 s05 t4 lw h1 h2 lo ln;refine wK (ue 0 L) (λpre U M'=>(∃A V A2 lg,Tw a N M' b A V l1 (1+pre.length) (3+2200*pre.length) b2 A2 (V.mT l1 p2 A.foot lg) l1.less (1+pre.length) (3+2200*pre.length)/\WF l1 V/\yV l1 V/\V.ps.length<=3)/\∃y3 y12 y13 y14 y15,U=F9 ns r1 r2 r3 w0 [y3,y4,y5,Fa (.ref ro),Fa (.ref rn),Fa (.int h),Fa (.ref b),Fa (.ref b2),Fa (.ref rk),y12,y13,y14,y15]) (λ_ _ M' j=>by obtain⟨A,V,A2,lg,g,_⟩:=j.1;exact g.x.s0.lst l5) _ [] _ _ rfl ⟨⟨A,_,A2,[],i9,wf0,rfl,ps0⟩,_,Db,Db,Db,Db,rfl⟩ ?_ ?_
 rotate_left
 .rintro U M' ⟨⟨A,V,A2,lg,t,_⟩,_⟩
  exact⟨M,sN.trans t.x.s0,q⟩
 clear i9 wf0 ps0
 rintro pre d post e U M' ⟨⟨A,V,A2,lg,t,wf,oa,ps⟩,y3,y12,y13,y14,y15,rfl⟩ nx2 Xq
 obtain⟨dx,hx,rfl⟩:=Bo e;have pl5:pre.length<64:=dJ (cT.mp hx).1 hL;obtain⟨c0,rfl⟩:=hLi dx (qJ hx);rw[cR,dG]at Xq;generalize pre.length=m at t pl5 Xq;refine⟨rfl,?_⟩;dsimp only[rS,wm,zq];refine⟨.inl ⟨by decide,by decide⟩,.inr ⟨by omega,by omega⟩,?_⟩;have eb:=t.x.b;subst eb;refine⟨A,V,l1,_,ro,rn,l1.pn,l1.nm,rfl,t.x.rd (by omega) wf,wf,λk hk=>(t.x.sz.cs k hk).2.1,t.x.s0.lst lo',t.x.s0.lst ln',pne,nne,by omega,by omega,λM2 e s f=>?_⟩;have t:=t.sub s;dsimp only[rS];refine Pd (t:=Ma _ _ _) (λU M3=>∃e':tR,(e'.nO/\e'.nv/\M2=M3)/\U=F9 ns r1 r2 r3 w0 [Fa (.int (m:Nat)),y4,y5,Fa (.ref ro),Fa (.ref rn),Fa (.int h),Fa (.ref A.b),Fa (.ref b2),Fa (.ref rk),Fa (.int c0),Fa e'.d,y14,y15]) (λnx hh=>?_) ?_
 .cases e with
  | call y z=>exact hh _ _ ⟨.call y z,⟨trivial,f,rfl⟩,rfl⟩
  | turn=>exact hh _ _ ⟨.turn,⟨trivial,f,rfl⟩,rfl⟩
  | sw b0 i=>
   cases b0 with
   | true=>exact⟨pb rfl,hh _ _ ⟨.turn,⟨trivial,trivial,rfl⟩,rfl⟩⟩
   | false=>exact⟨pb rfl,hh _ _ ⟨.turn,⟨trivial,trivial,rfl⟩,rfl⟩⟩
  | num wd x ms=>have f':=f;rcases f' with⟨rfl|rfl|rfl|rfl,_⟩|⟨rfl|rfl,_⟩<;>exact pk (xP _ _) (pk (xP _ _) (hh _ _ ⟨.num _ x ms,⟨trivial,f,rfl⟩,rfl⟩))
 rintro U M3 ⟨e',⟨Zm,f',rfl⟩,rfl⟩
 refine Pd (t:=Ma _ _ _) (λU M3=>(∃A' V A2 lg,Tw a N M3 A.b A' V l1 (1+(m+1)) (3+2200*(m+1)) b2 A2 (V.mT l1 p2 A'.foot lg) l1.less (1+(m+1)) (3+2200*(m+1))/\WF l1 V/\yV l1 V/\V.ps.length<=3)/\U=F9 ns r1 r2 r3 w0 [Fa (.int (m:Nat)),y4,y5,Fa (.ref ro),Fa (.ref rn),Fa (.int h),Fa (.ref A.b),Fa (.ref b2),Fa (.ref rk),Fa (.int c0),Fa e'.d,y14,y15]) (λnx hh=>?_) ?_
 .refine⟨N,A.b,A,V,l1,_,_,e',rfl,t.x,by omega,by omega,wf,f',λhr M4 A4 c4 st4=>?_,λhr=>?_⟩
  .have t4:=t.one st4 c4 (Lb _ _);have wf3:=UU t.x.ok wf f' hr;have ps3:(qF V (uW l1 V e')).ps.length<=3:=by rw[TB t.x.ok wf f' hr];exact ps
   have oa3:yV l1 (qF V (uW l1 V e')):=(FI (NB Zm)).trans oa;refine⟨N,b2,A2,V.mT l1 p2 A4.foot lg,l1.less,_,_,e',rfl,t4.y,by omega,by omega,IH wf,f',λhr' M5 A5 c5 Zb=>?_,λhr'=>absurd ((Lx Zm).trans hr) hr'⟩;have al:=Tn (p:=p2) (F:=A4.foot) (lg:=lg) oa Zm;rw[BC al (NB Zm)]at c5;have t5:=((t4.swap.one Zb c5 rfl).swap).mono (c3:=1+(m+1)) (n3:=3+2200*(m+1)) (c4:=1+(m+1)) (n4:=3+2200*(m+1)) (by omega) (by omega) (by omega) (by omega);generalize qF V (uW l1 V e')=V3 at t5 wf3 ps3 oa3;have e1:=t5.x.b;have e2:=t5.y.b;have ca:V3.calls.length<=_:=t5.x.sz.ca;exact⟨A4,V3.at_ V3.p A5.foot,A5,p2,A4.foot,_,_,by rw[e1,e2],t5.x.bd,t5.y.bd,by show V3.calls.length<=10000;omega,ps3,hh _ _ ⟨⟨A4,V3.at_ V3.p A5.foot,A5,_,t5,UL wf3,oa3,ps3⟩,rfl⟩⟩
  .have t5:=t.mono (c3:=1+(m+1)) (n3:=3+2200*(m+1)) (c4:=1+(m+1)) (n4:=3+2200*(m+1)) (by omega) (by omega) (by omega) (by omega);have e2:=t.y.b;have ca:=t.x.sz.ca;exact⟨N,b2,A2,V.mT l1 p2 A.foot lg,l1.less,_,_,e',rfl,t.y,by omega,by omega,IH wf,f',(λhr'=>absurd ((Lx Zm).symm.trans hr') hr),λ_=>⟨A,V,A2,p2,A.foot,_,_,by rw[e2],t.x.bd,t.y.bd,by omega,ps,hh _ _ ⟨⟨A,V,A2,_,t5,wf,oa,ps⟩,rfl⟩⟩⟩
 clear t wf oa ps
 rintro U M3 ⟨⟨A',V,A2,lg,t,wf,oa,ps⟩,rfl⟩
 obtain⟨hp,x,_,ax⟩:=ui D.str (xs:=l1.pn) pne (c0+(m:Nat)) 1664525;refine pk (t.x.s0.lst lo') ⟨_,_,_,rfl,hp,pk (t.x.s0.lst lo') (pk ax ?_)⟩;obtain⟨hq,z,XQ,az⟩:=ui D.str (xs:=l1.nm) nne (c0+(m:Nat)) 22695477;refine pk (t.x.s0.lst ln') ⟨_,_,_,rfl,hq,pk (t.x.s0.lst ln') (pk az ?_)⟩;have e1:=t.x.b;have e2:=t.y.b;exact⟨A',V,A2,p2,_,lg,l1,x,z,rk,by rw[e1,e2],t.x.rd (by omega) wf,t.y.rd (by omega) (IH wf),wf,oa,XQ,t.x.s0.lst lk,Ox (Xq _ _ ⟨⟨A',V,A2,lg,t,wf,oa,ps⟩,_,_,_,_,_,rfl⟩)⟩
end Z
end
structure PySem.W.Fast:Prop where(tw9682582045295878428 tw9459415564831425322 tw8936534566770008738 tw8127412100331094055 tw6684483719595254863 tw6641510700473956881 tw602154239026646269 tw6009299346830082751 tw5666526777511241542 tw5515082454604768171 tw4940445881645738396 tw3527013957203341272 tw2875688529177675732 tw2383480930769950201 tw2212859028718387141 tw17090897426013364740 tw16716013472989282257 tw16628771707237116506 tw16581109170917101963 tw16145340073804030280 tw1535743938111925069 tw15098836917011713716 tw15089412408122698404 tw1504530102769864118 tw14213384440145686531 tw13435435090086708717 tw13025293115750185060 tw12269520302875824710 tw1182651738906234128 tw11233983318080179519 tw7888941828582797676 tw3225435567036522424 tw11330689152442609927 tw6750553693015723886 tw15346508115062825511 tw2875243605865783006 tw17998146007356449174 tw48743420427531594 tw9313298953409776105 tw5756840438534381536 tw15006429732840217872 tw12870154984680512517 tw15989164288684736053 tw5907247479261005516 tw17682106022423298100 tw11646597648828559368 tw10362993133813212115 tw18426689847592440551 tw15963469703668472923 tw17596673385805653458 tw15515409820301642768 tw15983556077060220105 tw4217379169918795179 tw2129984598979112447 tw1011885228829064461 tw14868061867013265960 tw7220140375303250284 tw7052647454761945555 tw8118980933667007839 tw2570466388182964321 tw3644602328497645349 tw10514919202806720687 tw15961672604375194982 tw8840785195650129099 tw6054917969279430806 tw11722919314653615085 tw3621161321093883193 tw5036785727134847450 tw4614584966691708168 tw582928300903484120 tw7039426725851609411 tw15388531135997519834 tw2403308958913620264 tw16487918920023299665 tw14214174953914099284 tw8310238067817307306 tw2270738828228016581 tw16405043950160183467 tw17343512440089707619 tw6869171046110043476 tw575055425296494419 tw1561503390096216615 tw11507194464595774864 tw16128815239487004869 tw1879270928447425034 tw16896076758209405447 tw6914024897853225021 tw16030309744833429499 tw5942706897292791485 tw1930800383825922598 tw17684119847712770926 tw11111247217752898393 tw18317853453766259627 tw17993580452722702255 tw608945761360223482 tw7534176625542726431 tw15087582780127252601 tw15802337973897197476 tw17613247405747731065 tw14825315394864132826 tw7960951320352865471 tw6050595577409969372 tw13013154638313946096 tw14669338557229654926 tw12900313112085667826 tw13462961065299296711 tw2093859305721010158 tw7621687564081149674 tw14257782668568066772 tw12169385502451575040 tw13411885701204338834 tw13021142666407684986 tw16766555527881167329 tw1949038812763702024 tw4567401102966749219 tw5807051019596232771 tw14219373587861039952 tw15820959684897397927 tw3853298956632669995 tw16435317580905991525 tw88295205946786895 tw13068154939415277514 tw9910236050060137539 tw15981391247628944974 tw14452166875876761697 tw6576658444253446779 tw14592446872134074902 tw8945134252817059280 tw17703910204800044359 tw7955250661301841746 tw8575204541960442838 tw3883786171122118522 tw1779973192901692548 tw14908058945303751588 tw16809333898533066277 tw12660995496126001154 tw2025321822508719604 tw41856928897625690 tw636887371918090713 tw5463767924234124480 tw8275419166519796282 tw1023443307734470485 tw14259235720791879080 tw10163790890460837603 tw11163535196321205257 tw7209588648451949884 tw12338142124127380506 tw7677597846218034286 tw1749651226002250991 tw5993201406438966314 tw4457718032051729386 tw2900291948000924889 tw13439593251486819471 tw16364872099655205185 tw6212086301139342134 tw548739952278362474 tw1315593182688431083 tw11632325484384459675 tw13711787426214021965 tw3176909643513682956 tw8234600980619475942 tw11204184553724876590 tw15600467505676695841 tw893389130698300096 tw1673909714219805754 tw14161089059432413874 tw7417796877313583790 tw14910805000538561237 tw2712555966762441652 tw10638962629733070875 tw745927650775357461 tw7177157445921367980 tw12502385042992073510 tw6846495210325853790 tw6657929373354664466 tw7645679387925028382 tw689925099887962614 tw11952665494996761498 tw18142298814911518913 tw4216974025335459205 tw13993894386627863385 tw18044808082298086509 tw877532994577587089 tw15187298674911613822 tw1401458068040407010 tw6126448192518922682 tw15495304364381077733 tw15078547077892331733 tw9877433297747136748 tw12812510720087828783 tw14668661239821517638 tw9201688816443932592 tw7350249710146928389 tw1094076031214687871 tw8295640395991434664 tw14757779267383647345 tw9498445204015286704 tw8018649228016467267 tw15162972313353240315 tw14876987300915089882 tw12560979620555519720 tw17695182846578740390 tw10377531305926175945 tw15439235148497171438 tw1524324590063232713 tw15225692506030362652 tw17205898039275922179 tw10287833990766194472 tw3777873118844875775 tw8821627308414584605 tw11088658628451071898 tw17987551790670706094 tw12935860533766303332 tw75958941275100718 tw3941622561237485026 tw7105984132814235941 tw865765555753452360 tw8307983860208827908 tw15966148236059179433 tw9572336421787782879 tw17627483091004001662 tw13574349338487807405 tw4609979359204082798 tw15116716762875197782 tw15447196193056204844 tw15358724503352537944 tw5881819782078795839 tw10401941040137656908 tw14110711500027915369 tw969584717721753074 tw15641016005707755430 tw1184620615417742905 tw4109904853272296726 tw7854146097382334785 tw13017459452961248968 tw13500051401369553500 tw18369614133849207562 tw6619129600053782786 tw17997043561914770099 tw10128306737019771082 tw6593270234565705899 tw827586140137020136 tw6452170011743174739 tw12473335875127493217 tw18310412669313776452 tw15832719133812310827 tw8106864645642746932 tw15225980260087449207 tw10696839738683649732 tw7154717719203503695 tw6087327450353967430 tw9847561022422038210 tw2687843828814174784 tw18226732731641680804 tw11815700295053820682 tw9821224928055678787 tw11471867325475909127 tw3118727628932205214 tw14399420841037879488 tw3132111937490992405 tw425144561434921652 tw3035928263331346647 tw4895496482412484654 tw13920250852629136875 tw1297233836742519355 tw2128588019496522310 tw4876607399021595098 tw1021205036802721250 tw8314606622341223298 tw2622967135303942303 tw13433440682600306352 tw15355588962054543769 tw9889437928978125420 tw16052552577147655878 tw49461376626162063 tw1225480607623180198 tw17551093662615345804 tw11907579050848203132 tw11739218942752601603 tw10626608391456051302 tw2377407647433433035 tw16910578731151934542 tw1903562465294638967 tw14102139219451875900 tw13481937564187793462 tw9694585376502370734 tw12026779351533854608 tw4249041202588197925 tw18332562541204221582 tw3601413831571088076 tw509576958616812264 tw11482601919852964546 tw4438887572361744325 tw3460854152055708585 tw9755607226539243364 tw10929716647171830809 tw9970748689314053138 tw5491615220321032989 tw197981410432740574 tw11741772086986956260 tw8049612939844689677 tw11880415885867843225 tw2350464546915053151 tw3544553222301981142 tw15554352052349282257 tw3303911452816632239 tw16027266812466714998 tw1378249678912725256 tw16434943002662584060 tw16714109728931108589 tw7080584088305205825 tw15167895991821282340 tw10896645085801365434 tw6623650089440117014 tw14832898133353318577 tw9331884054252259502 tw2861395125041363071 tw6615687768012424391 tw10428482829834572199 tw9239070374972588639 tw8144877361332707733 tw3341151516000413478 tw13896014306127452117 tw4194233181482665621 tw15597529903800113950 tw524099022666655327 tw15149051393485057893 tw6160619249493660083 tw1598850981517849247 tw14934567430442938691 tw15573774185743107227 tw12312714520782000068 tw14899262432150891161 tw17620178124003441179 tw11095058413999822440 tw5290416277228953017 tw2476598307594693020 tw12517726194073363044 tw7950207746979975141 tw16293526966298875987 tw9430061539178617766 tw17146907604005668889 tw2105920948904277529 tw17698470502089692645 tw3769944718547386470 tw15474302751644707394 tw14904626170656323772 tw16317004994813151039 tw15222108438955103951 tw4305304758678260906 tw11571599714772958493 tw4286530230163416633 tw12923949050633026227 tw8920918498712592249 tw16128502349695942558 tw2500607668101223328 tw12125775609072253241 tw1743732045088239789 tw15211458534561766034 tw4566375261954783372 tw4135174603374375515 tw4786888407556527809 tw13969848156722230777 tw8987660282148121572 tw9066200282454370081 tw5857520283710634738 tw14191762742491048633 tw6745322035141648731 tw15235684256042601654 tw14114585720321545081 tw9124489427153827478 tw8563889760819086680 tw8325736665934883993 tw7984974121154988999 tw5853079131644984272 tw5990447735496508049 tw2875367387383368704 tw7704535991504803353 tw5203451698619995479 tw14729255842691972528 tw15182627611742792543 tw18438843619178414920 tw1671315654702961584 tw13472414742747638507 tw11395671343571542427 tw9470864339528831687 tw5725966939046749554 tw18046529725909910078 tw1721924441856716703 tw4336596183694564143 tw13870390688671160 tw4708440012150804323 tw12219381948714634817 tw11943626250424353173 tw7318896069777253583 tw9757478502753171721 tw8235995966706837017 tw6113572740416352444 tw2875615727822155628 tw16166672611348293607 tw1624348374556891379 tw16134078913656647654 tw8028277439661433173 tw4013045810682871022 tw3335413256531373755 tw16064921086135293095 tw14790352083468992210 tw11806860578468333202 tw5084426657968996816 tw4297676596900307573 tw15509321915501485629 tw12728496031771008179 tw8424041567572366627 tw5968613620098019696 tw413768040641975431 tw15985879964742920863 tw11531257105047576819 tw11089995677989802241 tw3806765080827073590 tw2764025631733237190 tw18315587458174757065 tw15208286598060378082 tw10631699859125790157 tw8891601184286643901 tw17033142659037075450 tw2040104921809890445 tw18048841371373493072 tw16652976805194284346 tw9401835013327037204 tw2351281254035857029 tw16405328500713819091 tw12469298680826376990 tw6900809658809103243 tw1743732350598332240 tw706963660998704748 tw5567133244361462530 tw3930719871981410388 tw3350561536282645724 tw17347622701793448489 tw16450570509725008694 tw6051433591842830237 tw4001420078696677781 tw2452820660981267377 tw133464756837319796 tw800480897451188231 tw13821768839820464109 tw1279479916145037957 tw8901660569233875939 tw17822456501842423723 tw15706094725622429560 tw14751297772795556189 tw11185988439378000226 tw8982950936164583242 tw5231700943889558194 tw3358719494804435644 tw2115032895078909288 tw9397387319776963148 tw1614698268780137555 tw2904488872720747141 tw11788122555149304198 tw6685128560142756452 tw15122737662918848019 tw13585809523049592978 tw2984727048995495623 tw2188587137456651090 tw13793084357878329167 tw7234431503257049173 tw14110083357766662424 tw5375499118760741683 tw10875504573258661535 tw458506954246976484 tw12831203454074425916 tw1143256837983588034 tw5879398740244759702 tw1955545868144990369 tw17367457922582932881 tw16026569447690495828 tw1694782999847676865 tw12281294221421191565 tw11861432021345573031 tw6219314993923609385 tw7581267848959890688 tw626226201896312267 tw5896252951519379459 tw3623056969900873823 tw17241704824532147333 tw16972711112155599431 tw16949446078097299947 tw14285664120765000346 tw12563101552614263801 tw3510126609032876290 tw13865063918290673732 tw5003646317209990370 tw17327859535180426527 tw5316084850217420175 tw1571652463075558040 tw17887633354560941610 tw16116113883206131121 tw18214764968788319987 tw16791514029644117992 tw13950272995367416479 tw1868951718250757696 tw1045958842705492266 tw5345845990476043031 tw15219180577081575174 tw3774267797005777766 tw16824759542606630873 tw15573579469884977101 tw7065410654945615240 tw684988612163813723 tw13211860786989137194 tw8903491442953728681 tw5278742233596360660 tw16687262589727278937 tw1259017181583630428 tw18022336310705782519 tw16268959145390067154 tw7161407671646250002 tw11904221125688587561 tw15362346729090226659 tw13133219508584188667 tw7095428423320303001 tw7301593088562629094 tw1991298204959976029 tw2968936257575878619 tw18367370861931794310 tw14189161800700425868 tw12685789854500626984 tw11918535628922582267 tw11903520617486837582 tw10134188736013905602 tw7022323601293497414 tw17524873223541481056 tw13896418165928554772 tw13029687171686480570 tw14587359581709820353 tw13915935957287026782 tw5485496103743314879 tw3627027805678195768 tw11716097278293738712 tw9742529796383740816 tw9808904375332101933 tw14153900615759031138 tw12982321881395578388 tw18177032607647613837 tw9648506165425306244 tw4140091487772913380 tw9172696249090028859 tw16807067516088102199 tw5198609086587411485 tw5297396163191527037 tw18261733733603161940 tw12845341016641114520 tw12337567277824204798 tw12441809108072511015 tw8621623892768918746 tw4904636312569030539 tw3049656657235457563 tw15348498823861646374 tw1926787706573419668 tw960862697771254190 tw18125810916750805525 tw17262972344426550570 tw14973559641523075390 tw12507000144041341321 tw11863860408590832365 tw11727745604684826211 tw10990384253964945081 tw10723634182001678774 tw10566329838339039487 tw10027030594221327239 tw63302108283184 tw17958936060827054372 tw917926525303030506 tw11668230672510804861 tw5298255384091182933 tw5230451381189954019 tw41574266346615620 tw1713618196899183556 tw1270501090450034343 tw11052966596390034914 tw8297947732929920450 tw7561401681446589585 tw7484155713805223197 tw4785895775351072989 tw4642772790685557291 tw2517049338003500789 tw16466576904493845065 tw16411271412525024523 tw14415614117926373636 tw13683717411195238305 tw5080780224649432886 tw13539395116273537608 tw11564559148368900828 tw10615153979591508464 tw8592277920371314313 tw3349721162086056813 tw18420120406374806970 tw14318983959580157631 tw1313718316667565999 tw9869439714265607459 tw9550354736088954538 tw9507031180097510788 tw9283692450007674727 tw810995306054490771 tw6254684950603072795 tw6209434300227705719 tw3954975514440245593 tw1972908993362037295 tw16071011960824501399 tw12315613154944386963 tw12144569608454869961 tw11951707957822703790 tw6237729684851693918 tw18148069112875681876 tw16542011632306689148 tw1129787970655983440 tw5259351956959528795 tw1590479495798814095 tw12626212895058592063 tw2373006777694461889 tw10650339329126313793 tw14367493867165371385 tw4589962129517947847 tw13713379089083504097 tw10459371822904807378:True)
open PySem PySem.W PyProof.Rows L2 L3
set_option maxRecDepth 100000 in
set_option maxHeartbeats 0 in
theorem PySem.Challenge.cw_callboard_k36_whole_off_wishes_holds : PySem.Challenge.rw_callboard_k36_whole_off_wishes.Holds := by
 w_on;o_law;k_head;(case hw=>w_witness2)
 k_fill
 refine L3.Nq (l:=PySem.Challenge.rw_callboard_k36_whole_off_wishes) (sp:=Z.MT) (k:=17) (x:="_law_script") rfl rfl ⟨rfl,by decide,by decide⟩ (λw h Y=>PySem.W.kIn_of Y) (λns hl=>⟨ns,rfl,hl,rfl⟩) ?F;case F=>
  intro w mg fa h KX G hmg;suffices h:∃a:Z.Ad,Z.Gl _ mg a/\∀(s:Shared) (u:Value),BindsTo s a.al.d ⟨[u],[]⟩ [("_law_script",u)]by obtain⟨a,g,hb⟩:=h;have e:=hmg.symm.trans g.al.mg;cases e;exact⟨a.al.d,hb,λbase _ _=>g.al.pe ▸ Z.SM g⟩
  refine'⟨⟨_,_,_,_,_,_,_,_,_,_,_,_,_,_,_,_,_,_,_,_,_,_,_,_,_,_,_,_,_,_,_,_,_,_,_,_,_,_,_,_,_,_,_,_,_,_,_,_,_,_,_,_,_,_,_,_,_,_,_,_,_,_,_,_,_,_,_,_,_,_,_,_,_,_,_,_,_,_,_,_,_,_,_,_,_,_,_,_,_,_,_,_,_,_,_,_,_,_,_,_,_,_,_,_,_,_,_,_,_,_,_,_,_,_,_,_,_,_,_,_,_,_,_,_,_,_,_,_,_,_⟩,⟨wA KX G ..,wA KX G ..,wA KX G ..,wA KX G ..,wA KX G ..,wA KX G ..,wA KX G ..,wA KX G ..,wA KX G ..,wA KX G ..,wA KX G ..,wA KX G ..,wA KX G ..,PySem.W.mg_of KX G ?_,PySem.W.mg_of KX G ?_,qu KX G ..,qu KX G ..,qu KX G ..,qu KX G ..,qu KX G ..,qu KX G ..,qu KX G ..,qu KX G ..,qu KX G ..,qu KX G ..,qu KX G ..,qu KX G ..,qu KX G ..,qu KX G ..,qu KX G ..,qu KX G ..,qu KX G ..,qu KX G ..,qu KX G ..,qu KX G ..,qu KX G ..,qu KX G ..,qu KX G ..,qu KX G ..,qu KX G ..,qu KX G ..,qu KX G ..,qu KX G ..,qu KX G ..,qu KX G ..,qu KX G ..,qu KX G ..,qu KX G ..,qu KX G ..,qu KX G ..,qu KX G ..,qu KX G ..,qu KX G ..,qu KX G ..,qu KX G ..,qu KX G ..,qu KX G ..,qu KX G ..,qu KX G ..,qu KX G ..,qu KX G ..,qu KX G ..,qu KX G ..,qu KX G ..,qu KX G ..,qu KX G ..,qu KX G ..,qu KX G ..,qu KX G ..,qu KX G ..,qu KX G ..,qu KX G ..,qu KX G ..,qu KX G ..,qc ..,qc ..,qc ..,qc ..,qc ..,qc ..,qc ..,qc ..,qc ..,qc ..,qc ..,qc ..,qc ..,qc ..,qc ..,qc ..,qc ..,qc ..,qc ..,qc ..,qc ..,qc ..,qc ..,qc ..,qc ..,qc ..,qc ..,qc ..,qc ..,qc ..,qc ..,qc ..,qc ..,qc ..,qc ..,qc ..,qc ..,qc ..,qc ..,qc ..,qc ..,qc ..,qc ..,qc ..,qc ..,qc ..,qc ..,qc ..,qc ..,qc ..,qc ..,qc ..,qc ..,qc ..,qc ..,qc ..,MV ?_ ?_ ?_ ?_ ?_ ?_ ?_ ?_ ?_ ?_,J9 ?_ ?_ ?_,Qr ?_ ?_ ?_ ?_,⟨?_,?_,?_,?_⟩,⟨?_,?_,?_,?_⟩,⟨?_,?_,?_,?_⟩,⟨?_,?_,?_,?_⟩,⟨?_,?_,?_,?_⟩,⟨?_,?_,?_,?_⟩,⟨?_,?_,?_,?_⟩,⟨?_,?_,?_,?_⟩,⟨?_,?_,?_,?_⟩,⟨?_,?_,?_,?_⟩,⟨?_,?_,?_,?_⟩,⟨?_,?_,?_⟩,⟨?_,?_,?_⟩,⟨?_,?_,?_⟩,⟨?_,?_,?_⟩,⟨?_,?_,?_⟩,⟨?_,?_,?_⟩,⟨?_,?_,?_⟩,⟨?_,?_,?_⟩,⟨?_,?_,?_⟩,⟨?_,?_,?_⟩,⟨?_,?_,?_⟩,⟨?_,?_,?_⟩,⟨?_,?_,?_⟩,⟨?_,?_,?_⟩,⟨?_,?_,?_⟩,⟨?_,?_,?_⟩,⟨?_,?_,?_⟩,⟨?_,?_,?_⟩,⟨?_,?_,?_⟩,⟨?_,?_,?_⟩,⟨?_,?_,?_⟩,(pS ?_ (pS ?_ (pS ?_ (pS ?_ (pS ?_ (pS ?_ (pS ?_ (pS ?_ tM)))))))),(pS ?_ (pS ?_ (pS ?_ (pS ?_ (pS ?_ (pS ?_ tM)))))),(pS ?_ (pS ?_ (pS ?_ tM))),(pS ?_ (pS ?_ (pS ?_ tM))),(pS ?_ (pS ?_ (pS ?_ tM))),(pS ?_ (pS ?_ (pS ?_ (pS ?_ (pS ?_ tM))))),(pS ?_ (pS ?_ (pS ?_ tM))),(pS ?_ (pS ?_ (pS ?_ (pS ?_ tM)))),(pS ?_ (pS ?_ tM)),(pS ?_ (pS ?_ tM)),(pS ?_ (pS ?_ (pS ?_ (pS ?_ (pS ?_ (pS ?_ (pS ?_ (pS ?_ tM)))))))),PySem.W.mg_none_of KX G ?_,PySem.W.mg_none_of KX G ?_,PySem.W.mg_none_of KX G ?_,PySem.W.mg_none_of KX G ?_,PySem.W.mg_none_of KX G ?_,PySem.W.mg_none_of KX G ?_,PySem.W.mg_none_of KX G ?_,PySem.W.mg_none_of KX G ?_,PySem.W.mg_none_of KX G ?_,PySem.W.mg_none_of KX G ?_,PySem.W.mg_none_of KX G ?_,PySem.W.mg_none_of KX G ?_,we (PySem.W.mg_of KX G ?_),we (PySem.W.mg_of KX G ?_),we (PySem.W.mg_of KX G ?_),we (PySem.W.mg_of KX G ?_),O1 (PySem.W.mg_of KX G ?_) (uI (ss:=["all","turns"]) ?_ (.cons ⟨_,rfl⟩ (.cons ⟨_,rfl⟩ .nil)) (Nat.le_of_ble_eq_true rfl)),we (PySem.W.mg_of KX G ?_),we (PySem.W.mg_of KX G ?_),we (PySem.W.mg_of KX G ?_),RS (PySem.W.mg_of KX G ?_),Oe (es:=[⟨_,.str "bar" _,.ref _⟩,⟨_,.str "shut" _,.ref _⟩,⟨_,.str "always" _,.ref _⟩,⟨_,.str "night" _,.ref _⟩,⟨_,.str "busy" _,.ref _⟩,⟨_,.str "silent" _,.ref _⟩,⟨_,.str "wait" _,.ref _⟩,⟨_,.str "breaks" _,.ref _⟩]) (PySem.W.mg_of KX G ?_) ?_ ?_ (.cons rfl ⟨_,rfl,(uI (ss:=["phone","names"]) ?_ (.cons ⟨_,rfl⟩ (.cons ⟨_,rfl⟩ .nil)) (Nat.le_of_ble_eq_true rfl))⟩ (.cons rfl ⟨_,rfl,(uI (ss:=["name","phones"]) ?_ (.cons ⟨_,rfl⟩ (.cons ⟨_,rfl⟩ .nil)) (Nat.le_of_ble_eq_true rfl))⟩ (.cons rfl ⟨_,rfl,(uI (ss:=["name","name"]) ?_ (.cons ⟨_,rfl⟩ (.cons ⟨_,rfl⟩ .nil)) (Nat.le_of_ble_eq_true rfl))⟩ (.cons rfl ⟨_,rfl,(uI (ss:=["name","name","hour","hour"]) ?_ (.cons ⟨_,rfl⟩ (.cons ⟨_,rfl⟩ (.cons ⟨_,rfl⟩ (.cons ⟨_,rfl⟩ .nil)))) (Nat.le_of_ble_eq_true rfl))⟩ (.cons rfl ⟨_,rfl,(uI (ss:=["name","name"]) ?_ (.cons ⟨_,rfl⟩ (.cons ⟨_,rfl⟩ .nil)) (Nat.le_of_ble_eq_true rfl))⟩ (.cons rfl ⟨_,rfl,(uI (ss:=["name","name","turns"]) ?_ (.cons ⟨_,rfl⟩ (.cons ⟨_,rfl⟩ (.cons ⟨_,rfl⟩ .nil))) (Nat.le_of_ble_eq_true rfl))⟩ (.cons rfl ⟨_,rfl,(uI (ss:=["phone"]) ?_ (.cons ⟨_,rfl⟩ .nil) (Nat.le_of_ble_eq_true rfl))⟩ (.cons rfl ⟨_,rfl,(uI (ss:=["phone"]) ?_ (.cons ⟨_,rfl⟩ .nil) (Nat.le_of_ble_eq_true rfl))⟩ .nil)))))))),we (PySem.W.mg_of KX G ?_),we (PySem.W.mg_of KX G ?_),we (PySem.W.mg_of KX G ?_)⟩,λs u=>.of_eq rfl⟩
  all_goals try first|k_is|(intro _ _ _ _ _ _ us hl;rcases us with _|⟨_,_|⟨_,_|⟨_,_|⟨_,_|⟨_,_|⟨_,_|⟨_,us⟩⟩⟩⟩⟩⟩⟩<;>first|rfl|(exfalso;revert hl;simp;done))|rfl
