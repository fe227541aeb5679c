import PyProof.Rows.All
import Wide.All
import OpenK.AllK
import Wide.FinOn
import PyProof.EqAt
import PyProof.EqKinds
import PyProof.TupleCall
import PyProof.AttrMiss
import PyProof.IsiH_list
import PyProof.Rows.SetFrom
import KE.KDictOf
import KE.KTab
import PyProof.AutoListH
import KE.KSortTup
import KE.KItemsList
import KE.KEqDict
import KE.KIntText
import Lean
import PyProof.RulesRaise
import PyProof.RulesTry
import KE.KTryDeep
import KE.KTryMore
import KE.KTryOn
import KE.TryInHelper
import KE.TryLedger
import PyProof.ExcArgsOwn
import PyProof.ExcAttrAll.ValueError
import KE.KIsAll
import PyProof.ExcBaseAll.ValueError
import PyProof.InstStoreFacts
import PyProof.ExcInit
import PyProof.SeqI3
import PyProof.ConsumeWalk
import PyProof.Rows.SortWalk
import PyProof.ListRange
import PySem.Challenge.RW_callboard_k56_longer_logs
set_option genInjectivity false
set_option genSizeOfSpec false
set_option genSizeOf false
set_option Elab.async false
set_option linter.all false
set_option maxRecDepth 100000
set_option maxHeartbeats 4000000
noncomputable section
open LawfulBEq renaming eq_of_beq->ZB
open List renaming length_map->cR,getElem?_eq_getElem->cT,length_append->cU,getElem?_eq_some_iff->cV,mem_singleton->c9,mem_cons->dg,size_toArray->dh,getElem?_map->dq,mem_map->dw,mem_cons_of_mem->dz,length_nil->dB,mem_cons_self->dD,length_singleton->dE,map_append->dF,mem_append->dM,nodup_cons->dN,not_mem_nil->dP,map_map->dU,map_cons->dW,nil_append->dX,length_cons->dY,replicate_succ->eh,mem_append_right->eA,length_range->eB,append_nil->eD,nodup_nil->eE,getElem?_append_left->eF,lookup_cons->eI,append_assoc->eN,getElem?_append_right->eP,find?_cons->eQ,all_eq_true->eS,mem_of_getElem?->eZ,take_of_length_le->e9,length_take->fg,take_length->fh,length_pos_iff->fi,mem_append_left->fm,getElem?_set_ne->ft,getElem?_set_self->fu,cons_ne_nil->fz,mem_filter->fB,flatten_cons->fG,take_add_one->fH,map_congr_left->fK,getElem?_eq_none->fL,any_eq_true->fM,length_modify->fN,foldl_cons->fQ,filterMap_cons->fS,filter_sublist->fT,length_zipWith->fU,any_cons->fX,exists_cons_of_ne_nil->fY,length_drop->fZ,mem_range->gc,find?_eq_none->gg,mem_of_find?_eq_some->gh,getLast?_eq_none_iff->gi,nodup_append->gk,all_cons->gm,length_eq_zero_iff->gp,filter_cons->gv,length_filter_le->gA,getElem?_zipWith->gB,getD_eq_getElem?_getD->gC,getLastD_eq_getLast?->gK,getElem?_modify->gL,findIdx?_eq_some_iff_getElem->gM,getElem_of_mem->gR,filter_cons_of_pos->gS,filter_cons_of_neg->gT,filter_map->gY,findIdx?_map->hG,getElem_mem->ia,mem_of_getLast?->ib,dropLast_subset->ic,length_set->ii,drop_eq_getElem_cons->il,contains_cons->iw,filter_append->iz,getElem?_cons_zero->iB,foldl_append->iD,map_take->iE,length_replicate->iF,getElem?_toArray->iH,map_nil->iM,filter_nil->iP,getElem?_range->iS,drop_zero->iW,map_id->iY,map_drop->jg,sublist_append_right->jp,pairwise_iff_getElem->jq,getLast?_eq_getElem?->jr,findIdx?_eq_none_iff->js,drop_length->jA,set_set->jB,any_map->jE,eq_of_mem_replicate->jF,getElem?_replicate->jG,of_mem_zip->jK,forIn_cons->jL,range_succ->jP,forIn_nil->jW,set_append_right->j4,mem_of_mem_take->kg,mem_of_mem_drop->kh,filter_eq_self->kx,modify_eq_self->ky,mem_filterMap->kD,getElem_range->kN,set_cons_succ->kO,any_eq_false->kS,find?_append->kZ,getElem_inj->ls,zipIdx_cons->lC,getElem_map->lG,zipIdx_nil->lM,any_append->lN,find?_some->lO,take_left'->lP,all_map->lX,map_set->lZ
open PySem renaming wpAny_bind->cS,wpAny_pure->df,sizeLine_eq->dH,wpAny_mono->d6,wpAny_field->eV,wpAny_holding->eW,wpAny_truthy_bool->eX,wpAny_callSpecial?_slot->fC,wpAny_newObj_type->fO,wpAny_call_entry->gb,wpAny_Call_Name_kw->gf,wpAny_seqItems->gq,wpAny_setField_rec->gy,wpAny_passesOwn->gz,codeAny_mono->gN,mem_of_lookup->gQ,wpAny_execs_nil->gU,wpAny_pyIter_list->gZ,wpAny_loadPart_at->g9,wpAny_setField->hZ,wpAny_standAt->ie,codeAny_builtin->ik,tupleKind_room_in1->ip,wpAny_pyIter_tuple->iu,plainObj_wpAny_Assign_Attribute->iI,wpAny_call->iJ,wpAny_updateSeq_pair->iN,isSubtype_type->iV,slot_dict_contains->ja,wpAny_onRaise->jf,wpAny_sequenceKey->ji,call_meets->jn,wpAny_execs_cons->jt,wpAny_typeOf->jv,wpAny_comprehension_free->jx,wpAny_specialOf->jN,builtinLookup_eq_fast->jX,getitemInPython_of_ne->jY,wpAny_rule->j7,codeAny_call_builtin->j9,wpAny_letTemporaryGo->kc,plainId_quiet->ko,wpAny_isSubtype_exc->ku,concat_meets->kF,seqIndex_neg->kH,wpAny_assign_Name->kP,wpAny_Assign_Name->kQ,slot_list_getitem->kU,slot_dict_getitem->kW,wpAny_pyIter_enum->kX,seqIndex_of->k9,wpAny_letGo->lh,wpAny_pyHash_str->lj,wpAny_lookBehind->lu,pastItsLine_dict->lw,noFill_tuple_add->lz,wpAny_pyIter_zip->lE,wpAny_Name->lH,typeIs_int->lJ,Addr->lf,sizeLine->Uf,wpAny->Ch,model->pi,starEach->Tk,Expr->Tl,bootBuiltins->zn,Heap->Go,eval->No,compareOp->wp,keywordEach->Op,mainGlobals->Ps,FuncData->Rs,backTo->At,swapsWith->wv,holding->Ix,Stmt->xz,IsPair->sB,sysModules->TD,attributeBase->wE,backToKw->dL,assignEach->xL,cLine->IN,binaryOp->wP,NameKind->wS,behindInMarks->wT,foldedSetIterable->AT,getMethod->XV,ExcBaseFacts->TW,rawInt->o0,excClassObj->Z7,standAt->u8,Scope->Z8,Keyword->Z9,getItem->W',sliceBounds->X',callWith->Y',letOwnedTupleGo->XXa,codeAny->XXb,scanBound->XXc,IsZip->XXd,Operator->XXf
def cW:=@if_neg
def cX:=@if_pos
def dI:=@decide_eq_true
def dZ:=@decide_eq_false
def d9:=@decide_eq_true_eq
def eC:=@congrArg
def eU:=@beq_self_eq_true
def eY:=@beq_iff_eq
def fJ:=@of_decide_eq_true
def fP:=@or_false
def fR:=@beq_eq_false_iff_ne
def hW:=@not_or
def iU:=@if_true
def lA:=@if_false
open PySem.Heap renaming get?_push_of_some->cY,lt_size->dA,get?_push_size->dG,get?_update_self->fA,size_push->fF,get?_update_other->fV,get?_none_of_le->gJ,get?_update_ne->kt
open Nat renaming le_refl->cZ,lt_of_lt_of_le->dJ,ne_of_lt->dO,le_trans->dS,zero_le->eK,lt_irrefl->eO,lt_succ_self->fD,min_self->fW,succ_le_succ->gu,le_succ->gw,le_succ_of_le->gH,sub_self->gP,ne_of_gt->hJ,min_eq_left->im,lt_of_le_of_lt->iA,lt_succ_of_lt->jk,lt_trans->jw,sub_zero->jz,mul_le_mul->jZ,le_of_lt->kC,le_of_eq->kE,zero_add->kI,succ_mul->lV,add_comm->lW,succ_pos->l0
open Option.some renaming inj->de,injEq->jl
open Bool renaming false_ne_true->dv,eq_false_iff->dC,and_eq_true->dR,true_and->eG,false_and->eM,false_or->fE,eq_iff_iff->gj,not_eq_true'->gG,or_eq_true->gX,true_or->hU,or_false->je,not_eq_false->jm,or_true->kM,beq_comm->lT,true->Db,false->pc
open Ne renaming symm->dQ
open Int renaming eq_ofNat_of_zero_le->d4,emod_lt_of_pos->eJ,emod_nonneg->eL,mul_le_mul_of_nonneg_left->iQ,le_refl->iZ,toNat_natCast->jh,emod_add_mul_ediv->j3,add_zero->lY,zero_add->l8
open PySem.PassesOwn renaming never->eR
open PyProof.Rows renaming callWith_type1->fj,slot_tuple_getitem->fk,callWith_builtin1->iL,SetOf_congr->jy,subscriptTail_builtinR->jS,entry_tuple_getitem->kq,args_tuple_getitem->kG,envOfC->sK,AllBare->XXe
open PyProof.Rows.F renaming plain_set_update_loop->gx,entry_set_update_loop->ir
open PySem.F renaming slot_tuple_iterator_next->gD,called_set->gO,slot_list_getattribute->iq,slot_dict_get->iG,slot_zip_next->iO,args_tuple_iterator_next_1->iX,entry_tuple_iterator_next->jb,slot_dict_getitem->jo,args_tuple_add_2->ju,store_ValueError->jD,entry_tuple_add->jI,args_dict_get_3->jJ,slot_tuple_add->jR,entry_dict_get->jV,excBase_ValueError->ke,args_zip_next_1->kY,entry_zip_next->lD,slot_int_rmul->lK
open List.cons renaming inj->gF
open PySem.Calls renaming spliced_cons->gW,spliced_nil->iC,Name_function_global->jd,callWith_builtin->jT,evalArgs_plain->j6
open PySem.Around renaming under_plainId->h9
open Array renaming getElem?_setIfInBounds_self_of_lt->ig,length_toList->iR,toList_append->iT,size_setIfInBounds->jC,mem_toList_iff->j5,append_assoc->kB
open Option renaming isSome_iff_exists->io,isSome_map->jj,map_some->jM,map_eq_some_iff->jU,getD_none->lB,bind_some->lF,some->ga,none->Fa
open List.Nodup renaming sublist->iy
open PySem.W renaming callWith_K->iK,methodCall_KW->jO,plainGet_of->kl,looks_clsIn->km,cellsFrom_some->ly,looks_findIn->lQ
open PySem.Code renaming quiet_builtin->i9
open PySem.Paired renaming length->jc,snoc->me
open Sum.inr renaming inj->jQ
open PySem.Walks renaming list->j8
open PySem.Heap.SameBut renaming update->kr
open PySem.SeqAt.EqAt renaming int_str->kz,str_int->kA
open PySem.Obj renaming data_mapFields->kK
open PySem.Heap.Ns1 renaming of_empty->kT
open PySem.Heap.DictOf renaming new->lL
open Eq renaming symm->lR
open PySem.W.Looks renaming here->lU
open PySem.Heap.FunFrames renaming of_keeps->ma
open PySem.Moved renaming trans->mf
open PySem.Heap.IsSliceOf renaming new->mh
abbrev qk:=PySem.W.Frag
local macro_rules | `(tactic| walk_at "l") => `(tactic| (intro _ _ _ h; repeat (first | (obtain ⟨e, _⟩ := h; subst e; rfl; done) | (cases h; rename_i h))))
local macro_rules | `(tactic| walk_at "m") => `(tactic| (intro _ _ _ _ h; repeat (first | (obtain ⟨e, _⟩ := h; subst e; rfl; done) | (cases h; rename_i h))))
abbrev Vl:=PySem.Value
abbrev Sd:=PySem.Shared
abbrev Pg:=PySem.Program
abbrev Ar:=PySem.Around
theorem Z'{α:Sort _}{a:α}:a=a:=rfl
abbrev Wo:=PySem.World
abbrev T0(α:Type _):=List α
abbrev QQQ:=List PySem.Str
abbrev QQX:=PySem.Value->PySem.Shared->Prop
abbrev QQY:=List (PySem.Addr×PySem.Obj)
abbrev QQZ:=PySem.Str->Option PySem.Value
abbrev QXQ:=List PySem.Addr
section
open PySem PySem.Spec PyProof.Rows
namespace L2
def x5{α:Sort u}{β:Sort v}{p q r:α->β->Prop}{C:Prop}(h:∃a b,p a b/\q a b/\r a b)(f:∀a b,p a b->q a b->r a b->C):C:=by obtain⟨a,b,h1,h2,h3⟩:=h;exact f a b h1 h2 h3
abbrev qJ:=Sum Int Str
noncomputable def D9:qJ->Vl->Bool
 | .inl k,v=>Value.isInt k v
 | .inr x,v=>Value.isStrOf x v
noncomputable def Vs(w:Wo):qJ->Int
 | .inl k=>hashInt k
 | .inr x=>hashStr w x
def rW:∀{k:qJ} {v:Vl},D9 k v=Db->(∃i t,k=Sum.inl i/\v=Value.int i t)\/(∃x t,k=Sum.inr x/\v=Value.str x t)
 | .inl i,v,h=>by obtain⟨t,e⟩:=Value.isInt_shape (k:=i) (v:=v) h;exact .inl ⟨i,t,Z',e⟩
 | .inr x,v,h=>by obtain⟨t,e⟩:=Value.isStrOf_shape (x:=x) (v:=v) h;exact .inr ⟨x,t,Z',e⟩
def J8(i:Int)(t:Tok):D9 (.inl i) (.int i t)=Db:=by simp[D9,Value.isInt]
def JS(x:Str)(t:Tok):D9 (.inr x) (.str x t)=Db:=by simp[D9,Value.isStrOf]
def SW(a b:Int):decide ((Sum.inl a:qJ)=Sum.inl b)=(a==b):=by
 by_cases e:a=b
 .subst e;simp
 .have h:¬(Sum.inl a:qJ)=Sum.inl b:=λq=>e (Sum.inl.inj q);rw[dZ h];exact(fR.mpr e).symm
def Sm(a b:Str):decide ((Sum.inr a:qJ)=Sum.inr b)=decide (a=b):=by
 by_cases e:a=b
 .subst e;simp
 .have h:¬(Sum.inr a:qJ)=Sum.inr b:=λq=>e (jQ q);rw[dZ h,dZ e]
def Sr(a:Int)(b:Str):decide ((Sum.inl a:qJ)=Sum.inr b)=pc:=dZ (λq=>nomatch q)
def Q4(a:Str)(b:Int):decide ((Sum.inr a:qJ)=Sum.inl b)=pc:=dZ (λq=>nomatch q)
noncomputable def rf(prog:Pg)(w:Wo):PySem.KeyKind prog w qJ where
 is:=D9
 hash:=Vs w
 inj:=λv a b ha hb=>by
  rcases rW ha with⟨i,t,rfl,rfl⟩|⟨x,t,rfl,rfl⟩
  .rcases rW hb with⟨j,u,rfl,e⟩|⟨y,u,rfl,e⟩
   .injection e with e1 _;rw[e1]
   .exact nomatch e
  .rcases rW hb with⟨j,u,rfl,e⟩|⟨y,u,rfl,e⟩
   .exact nomatch e
   .injection e with e1 _;rw[e1]
 byValue:=λk v h=>by rcases rW h with⟨i,t,rfl,rfl⟩|⟨x,t,rfl,rfl⟩<;>rfl
 pyHash:=λhv h=>by
  rcases rW hv with⟨i,t,rfl,rfl⟩|⟨x,t,rfl,rfl⟩
  .exact wpAny_pyHash_int h
  .exact lj h
 eqBool:=λhu hv h=>by
  rcases rW hu with⟨i,t,rfl,rfl⟩|⟨x,t,rfl,rfl⟩
  .rcases rW hv with⟨j,u,rfl,rfl⟩|⟨y,u,rfl,rfl⟩
   .rw[SW]at h;exact wpAny_eqBool_int h
   .rw[Sr]at h;exact kz i t y u _ _ _ _ h
  .rcases rW hv with⟨j,u,rfl,rfl⟩|⟨y,u,rfl,rfl⟩
   .rw[Q4]at h;exact kA x t j u _ _ _ _ h
   .rw[Sm]at h;exact wpAny_eqBool_str h
 «strs»:=λk x t v h=>by
  rcases rW h with⟨i,u,rfl,e⟩|⟨y,u,rfl,e⟩
  .exact nomatch e
  .injection e with e1 _
   subst e1;cases v<;>rfl
def Ga(prog:Pg)(w:Wo)(i:Int)(t:Tok):(rf prog w).is (.inl i) (.int i t)=Db:=J8 i t
def Av(prog:Pg)(w:Wo)(x:Str)(t:Tok):(rf prog w).is (.inr x) (.str x t)=Db:=JS x t
inductive V where
 | mx|bl (b:Bool)|int (i:Int)|str (x:Str)|byt (b:Array UInt8)|flt (b:UInt64)|ref (a:lf)|ty (n:String)
 deriving DecidableEq
def qz:V->Vl->Prop
 | .mx,u=>u=Value.none
 | .bl b,u=>u=Value.bool b
 | .int i,u=>∃t,u=Value.int i t
 | .str x,u=>∃t,u=Value.str x t
 | .byt b,u=>∃t,u=Value.bytes b t
 | .flt b,u=>∃t,u=Value.float b t
 | .ref a,u=>u=Value.ref a
 | .ty n,u=>u=Value.type n
abbrev qo:T0 V->T0 Vl->Prop:=Paired qz
def qo.length(r:qo xs us):xs.length=us.length:=jc r
theorem qo.get:∀{xs:T0 V} {us:T0 Vl} {i:Nat} {x:V},qo xs us->xs[i]?=ga x->∃u,us[i]?=ga u/\qz x u
 | _,_,_,_,.nil,e=>by simp at e
 | _,_,0,_,.cons r _,e=>by simp at e;subst e;exact⟨_,Z',r⟩
 | _,_,i+1,x,.cons _ t,e=>by obtain⟨u,h1,h2⟩:=qo.get (i:=i) (x:=x) t (by simpa using e);exact⟨u,by simpa using h1,h2⟩
theorem qo.set(r:qz x u):∀{xs:T0 V} {us:T0 Vl} (i:Nat),qo xs us->qo (xs.set i x) (us.set i u)
 | _,_,_,.nil=>.nil
 | _,_,0,.cons _ t=>.cons r t
 | _,_,i+1,.cons q t=>.cons q (qo.set r i t)
theorem qo.append:∀{xs ys:T0 V} {us ws:T0 Vl},qo xs us->qo ys ws->qo (xs++ys) (us++ws)
 | _,_,_,_,.nil,s=>s
 | _,_,_,_,.cons r t,s=>.cons r (qo.append t s)
theorem qo.take:∀{xs:T0 V} {us:T0 Vl} (n:Nat),qo xs us->qo (xs.take n) (us.take n)
 | _,_,0,_=>.nil
 | _,_,_+1,.nil=>.nil
 | _,_,n+1,.cons r t=>.cons r (qo.take n t)
theorem qo.drop:∀{xs:T0 V} {us:T0 Vl} (n:Nat),qo xs us->qo (xs.drop n) (us.drop n)
 | _,_,0,r=>r
 | _,_,_+1,.nil=>.nil
 | _,_,n+1,.cons _ t=>qo.drop n t
def xg:Option V->Option Vl->Prop
 | some v,ga u=>qz v u
 | none,none=>True
 | _,_=>False
def KV{κ:Type}:T0 (κ×V)->T0 (κ×Vl)->Prop:=Paired λ(p:κ×V) (q:κ×Vl)=>p.1=q.1/\qz p.2 q.2
noncomputable def kV:qJ->V
 | .inl i=>.int i
 | .inr x=>.str x
inductive HO where
 | lst (xs:List V)
 | tup (xs:List V)
 | dK (kvs:List (qJ×V))|dT (kvs:List (List qJ×V))
 | set (S:Int->Bool) (n:Nat)
 | ins (C dx:lf) (fs:List (Str×V))
 | own (x:lf)
 | xd (fs:List (Str×V))
 | met (f x:lf)
 | rng (lo hi:Int)
 | frz (o:Obj) (u:HO)
 | tbl (ps:Array Vl)
 | ext (φ:Go->Prop)
abbrev Hp:=lf->Option HO
noncomputable def upd(H:Hp)(a:lf)(o:HO):Hp:=λb=>if b=a then ga o else H b
def pR:upd H a o a=ga o:=by unfold upd;rw[cX Z']
def pN{a b:lf}(h:b≠a):upd H a o b=H b:=by unfold upd;rw[cW h]
def Pr:upd (upd H a o) a u=upd H a u:=by funext b;unfold upd;split<;>rfl
def Uv{H:Hp}{a b:lf}{o u:HO}(h:H a=ga o)(h':H b=ga u)(d:o≠u):a≠b:=by intro e;subst e;rw[h]at h';exact d (de h')
def qE{H:Hp}{a b:lf}{o:HO}(h:H a=ga o)(h':H b=Fa):a≠b:=by intro e;subst e;rw[h]at h';cases h'
section
variable (P:Pg)(w:Wo)
def E1(h:Go)(a:lf)(its:Array Vl):Prop:=∃o,h.get? a=ga o/\o.cls=.type "tuple"/\(∃n,o.data=.seq its n)/\o.dict=Fa
def sG(H:Hp)(h:Go)(a:lf):HO->Prop
 | .lst xs=>xs.length<=Uf/\∃(its:T0 Vl) (n:Nat),qo xs its/\h.get? a=ga {cls:=.type "list",data:=.seq its.toArray n}
 | .tup xs=>xs.length<=Uf/\∃its:T0 Vl,qo xs its/\E1 h a its.toArray
 | .dK kvs=>kvs.length<=Uf/\(a==TD)=pc/\∃vs,KV kvs vs/\h.DictOf (rf P w) a vs
 | .dT kvs=>kvs.length<=Uf/\(a==TD)=pc/\∃xs:T0 (List qJ×lf×Vl),Paired (λ(p:List qJ×V) (q:List qJ×lf×Vl)=>p.1=q.1/\H q.2.1=ga (.tup (p.1.map kV))/\qz p.2 q.2.2) kvs xs/\
   ∃o es ep,h.get? a=ga o/\o.ExactDict/\o.data=.dict es ep/\es.toList=xs.map (entryOfKey (tupleKind (rf P w)))/\(xs.map (·.1)).Nodup
 | .set S n=>h.SetOf (intKind P w) a S n
 | .ins C dx fs=>H dx=ga (.own a)/\fs.length<=1000/\dx≠a/\h.get? a=ga (W.instObj C dx)/\
   ∃mA,h.Ns1 dx mA/\(∀f,xg (fs.lookup f) (mA f))/\PySem.Within mA (fs.map (·.1))
 | .own _=>∃o,h.get? a=ga o
 | .xd fs=>∃mA,h.Ns1 a mA/\∀f,xg (fs.lookup f) (mA f)
 | .rng lo hi=>∃t u v,h.get? a=ga {cls:=.type "range",data:=.fields #[.int lo t,.int hi u,.int 1 v]}
 | .frz o u=>h.get? a=ga o/\sG H h a u
 | .tbl ps=>h.get? a=ga {cls:=.none,data:=.fields ps}
 | .met f x=>h.get? a=ga (W.methodObj (.ref f) (.ref x))
 | .ext φ=>φ h/\(∃o,h.get? a=ga o)/\∀h1 h2:Go,φ h1->(∀o,h1.get? a=ga o->h2.get? a=ga o)->φ h2
def yg(H:Hp)(h:Go):Prop:=∀a o,H a=ga o->sG P w H h a o
end
variable {H H':Hp}{h h':Go}
section
variable {P:Pg}{w:Wo}{a:lf}{o:HO}
def E1.is(x:E1 h a its):IsTup h a its:=let⟨o,e,c,d,_⟩:=x;⟨o,e,c,d⟩
def E1.new(h:Go)(W6:Array Vl):E1 (h.push {cls:=.type "tuple",data:=.seq W6}) h.objs.size W6:=⟨_,dG _ Z',Z',⟨_,Z'⟩,Z'⟩
def sG.lt(x:sG P w H h a o):a<h.objs.size:=by
 cases o with
 | lst xs=>obtain⟨_,_,_,_,e⟩:=x;exact dA e
 | tup xs=>obtain⟨_,_,_,_,e,_⟩:=x;exact dA e
 | dK kvs=>obtain⟨_,_,_,_,o,_,_,e,_⟩:=x;exact dA e
 | dT kvs=>obtain⟨_,_,_,_,o,_,_,e,_⟩:=x;exact dA e
 | set S n=>obtain⟨o,_,_,_,e,_⟩:=x;exact dA e
 | ins C dx fs=>obtain⟨_,_,_,e,_⟩:=x;exact dA e
 | own y=>obtain⟨_,e⟩:=x;exact dA e
 | xd fs=>obtain⟨_,⟨_,_,_,e,_⟩,_⟩:=x;exact dA e
 | rng lo hi=>obtain⟨_,_,_,e⟩:=x;exact dA e
 | frz ob u=>obtain⟨e,_⟩:=x;exact dA e
 | tbl ps=>exact dA (show h.get? a=ga _ from x)
 | met f y=>exact dA (show h.get? a=ga _ from x)
 | ext φ=>obtain⟨_,⟨_,e⟩,_⟩:=x;exact dA e
theorem Paired.nX{α β:Type}{F G:α->β->Prop}:∀{l₁:List α} {l₂:List β},Paired F l₁ l₂->(∀a b,F a b->G a b)->Paired G l₁ l₂
 | _,_,.nil,_=>.nil
 | _,_,.cons r t,f=>.cons (f _ _ r) (Paired.nX t f)
def sG.m9(x:sG P w H h a o)(k:∀b u,(b=a\/H b=ga (.own a))->h.get? b=ga u->h'.get? b=ga u) (ho:∀b,H b=ga (.own a)->H' b=ga (.own a)) (ht:∀b xs,H b=ga (.tup xs)->H' b=ga (.tup xs)):sG P w H' h' a o:=by
 induction o with
 | lst xs=>obtain⟨z,its,n,r,e⟩:=x;exact⟨z,its,n,r,k _ _ (.inl Z') e⟩
 | tup xs=>obtain⟨z,its,r,ob,e,c⟩:=x;exact⟨z,its,r,ob,k _ _ (.inl Z') e,c⟩
 | dK kvs=>obtain⟨z,y,vs,r,ob,es,ep,e,c⟩:=x;exact⟨z,y,vs,r,ob,es,ep,k _ _ (.inl Z') e,c⟩
 | dT kvs=>obtain⟨z,y,xs,r,ob,es,ep,e,c⟩:=x;exact⟨z,y,xs,Paired.nX r λp q z=>⟨z.1,ht _ _ z.2.1,z.2.2⟩,ob,es,ep,k _ _ (.inl Z') e,c⟩
 | set S n=>obtain⟨ob,es,ep,t,e,c⟩:=x;exact⟨ob,es,ep,t,k _ _ (.inl Z') e,c⟩
 | ins C dx fs=>obtain⟨d,z,ne,e,mA,⟨od,es,ep,e2,c⟩,r⟩:=x;exact⟨ho _ d,z,ne,k _ _ (.inl Z') e,mA,⟨od,es,ep,k _ _ (.inr d) e2,c⟩,r⟩
 | own y=>obtain⟨ob,e⟩:=x;exact⟨ob,k _ _ (.inl Z') e⟩
 | xd fs=>obtain⟨mA,⟨od,es,ep,e,c⟩,r⟩:=x;exact⟨mA,⟨od,es,ep,k _ _ (.inl Z') e,c⟩,r⟩
 | rng lo hi=>obtain⟨t,u,v,e⟩:=x;exact⟨t,u,v,k _ _ (.inl Z') e⟩
 | frz ob u ih=>obtain⟨e,q⟩:=x;exact⟨k _ _ (.inl Z') e,ih q⟩
 | tbl ps=>have e:h.get? a=ga {cls:=.none,data:=.fields ps}:=x;show h'.get? a=ga {cls:=.none,data:=.fields ps};exact k a _ (.inl Z') e
 | met f y=>have e:h.get? a=ga (W.methodObj (.ref f) (.ref y)):=x;show h'.get? a=ga (W.methodObj (.ref f) (.ref y));exact k a _ (.inl Z') e
 | ext φ=>obtain⟨p,⟨o,e⟩,st⟩:=x;exact⟨st _ _ p λo q=>k _ _ (.inl Z') q,⟨o,k _ _ (.inl Z') e⟩,st⟩
def yg.lt(x:yg P w H h)(e:H a=ga o):a<h.objs.size:=(x a o e).lt
def yg.fresh(x:yg P w H h)(e:h.objs.size<=a):H a=Fa:=by
 cases q:H a with
 | none=>rfl
 | some u=>exact absurd (dJ (x.lt q) e) (eO _)
def yg.kept(x:yg P w H h)(k:∀b u,h.get? b=ga u->h'.get? b=ga u):yg P w H h':=λa o e=>(x a o e).m9 (λb u _ q=>k b u q) (λ_ q=>q) λ_ _ q=>q
def yg.laid(x:yg P w H h)(k:∀b u,h.get? b=ga u->h'.get? b=ga u)(hp:h.objs.size<=a)(new:sG P w (upd H a o) h' a o):yg P w (upd H a o) h':=λb u e=>by
 have hn:=x.fresh hp;by_cases hb:b=a
 .subst hb;rw[pR]at e;cases e;exact new
 .rw[pN hb]at e;exact(x b u e).m9 (λc v _ q=>k c v q) (λc q=>by rw[pN (qE q hn)];exact q) λc xs q=>by rw[pN (qE q hn)];exact q
end
def Rd(H:Hp)(a:lf)(u:HO):Prop:=H a=ga u\/∃o,H a=ga (.frz o u)
def Rd.ok(r:Rd H a u)(x:yg P w H h):sG P w H h a u:=by
 rcases r with r|⟨o,r⟩
 .exact x a u r
 .obtain⟨_,q⟩:=x a _ r;exact q
def UH:Option HO->Prop
 | some (.lst _)=>True
 | some (.dK _)=>True
 | some (.dT _)=>True
 | some (.set _ _)=>True
 | some (.ins _ _ _)=>True
 | some (.ext _)=>True
 | _=>False
variable {o':HO}
section
variable {P:Pg}{w:Wo}{x e:lf}
def yg.write(ok:yg P w H h)(mu:UH (H x))(he:e=x\/H e=ga (.own x))(k:∀b u,b≠e->h.get? b=ga u->h'.get? b=ga u)(heo:∃u,h'.get? e=ga u) (new:sG P w (upd H x o') h' x o'):yg P w (upd H x o') h':=λb u q=>by
 have nown:∀c y,H c=ga (.own y)->c≠x:=λc y r z=>by subst z;rw[r]at mu;exact mu
 have ntup:∀c xs,H c=ga (.tup xs)->c≠x:=λc xs r z=>by subst z;rw[r]at mu;exact mu
 by_cases hb:b=x
 .subst hb;rw[pR]at q;cases q;exact new
 .rw[pN hb]at q;by_cases hbe:b=e
  .have q':H b=ga (.own x):=by
    rcases he with z|z
    .exact absurd (hbe.trans z) hb
    .rw[hbe];exact z
   rw[q]at q';cases q';obtain⟨v,hv⟩:=heo;exact⟨v,by rw[hbe];exact hv⟩
  .refine(ok b u q).m9 (λc v hc r=>k c v ?_ r) (λc r=>by rw[pN (nown c b r)];exact r) λc xs r=>by rw[pN (ntup c xs r)];exact r
   rcases hc with rfl|hc
   .exact hbe
   .rintro rfl
    rcases he with z|z
    .exact nown c b hc z
    .rw[hc]at z;cases z;exact hb Z'
end
structure Un(fs ex:QXQ)(H H':Hp)(h h':Go):Prop where
 keep:∀b o,h.get? b=ga o->H b=Fa->b∉fs->b∉ex->h'.get? b=ga o
 slot:∀b o,h.get? b=ga o->H b=Fa->b∈fs->b∉ex->∃sl,h'.get? b=ga {o with slots:=sl}
 free:∀b o,h.get? b=ga o->H b=Fa->b∉ex->H' b=Fa
 there:∀b o,h.get? b=ga o->b∉ex->∃o',h'.get? b=ga o'
 m8:∀b xs,H b=ga (.tup xs)->H' b=ga (.tup xs)
 mW:∀b o u,H b=ga (.frz o u)->H' b=ga (.frz o u)
 ni:∀b ps,H b=ga (.tbl ps)->∃more,H' b=ga (.tbl (ps++more))
variable {ex ex':QXQ}{H1 H2:Hp}{h1 h2:Go}
section
variable {fs fs':QXQ}{a x e:lf}{o:HO}
def Un.any(u:Un fs ex H H1 h h1){b:lf}{ob:Obj}(q:h.get? b=ga ob)(n:H b=Fa)(hx:b∉ex):∃sl,h1.get? b=ga {ob with slots:=sl}:=by
 by_cases hb:b∈fs
 .exact u.slot b ob q n hb hx
 .exact⟨ob.slots,u.keep b ob q n hb hx⟩
def Un.trans(a:Un fs ex H H1 h h1)(b:Un fs ex H1 H2 h1 h2):Un fs ex H H2 h h2 where
 keep:=λc ob q n hc hx=>b.keep c ob (a.keep c ob q n hc hx) (a.free c ob q n hx) hc hx
 slot:=λc ob q n hc hx=>by obtain⟨sl,e1⟩:=a.slot c ob q n hc hx;obtain⟨Yy,e2⟩:=b.slot c _ e1 (a.free c ob q n hx) hc hx;exact⟨Yy,e2⟩
 free:=λc ob q n hx=>by obtain⟨o',e1⟩:=a.there c ob q hx;exact b.free c o' e1 (a.free c ob q n hx) hx
 there:=λc ob q hx=>by obtain⟨o',e1⟩:=a.there c ob q hx;exact b.there c o' e1 hx
 m8:=λc xs q=>b.m8 c xs (a.m8 c xs q)
 mW:=λc ob xs q=>b.mW c ob xs (a.mW c ob xs q)
 ni:=λc ps q=>by obtain⟨m1,e1⟩:=a.ni c ps q;obtain⟨m2,e2⟩:=b.ni c _ e1;exact⟨m1++m2,by rw[e2,kB]⟩
def Un.kept(k:∀b u,h.get? b=ga u->h'.get? b=ga u):Un fs ex H H h h':=
 ⟨λb ob q _ _ _=>k b ob q,λb ob q _ _ _=>⟨ob.slots,k b ob q⟩,λ_ _ _ n _=>n,λb ob q _=>⟨ob,k b ob q⟩,λ_ _ q=>q,λ_ _ _ q=>q,λ_ ps q=>⟨#[],by rw[q];simp⟩⟩
def Un.refl:Un fs ex H H h h:=Un.kept λ_ _ q=>q
def Un.laid(k:∀b u,h.get? b=ga u->h'.get? b=ga u)(hp:h.objs.size<=a)(hn:H a=Fa):Un fs ex H (upd H a o) h h' where
 keep:=λb u q _ _ _=>k b u q
 slot:=λb u q _ _ _=>⟨u.slots,k b u q⟩
 free:=λb u q n _=>by rw[pN (dO (dJ (dA q) hp))];exact n
 there:=λb u q _=>⟨u,k b u q⟩
 m8:=λb xs q=>by rw[pN (qE q hn)];exact q
 mW:=λb u xs q=>by rw[pN (qE q hn)];exact q
 ni:=λb ps q=>⟨#[],by rw[pN (qE q hn),q];simp⟩
def Un.write(mu:UH (H x))(he:e=x\/H e=ga (.own x))(k:∀b u,b≠e->h.get? b=ga u->h'.get? b=ga u)(heo:∃u,h'.get? e=ga u):Un fs ex H (upd H x o) h h':=by
 have hx:∀b,H b=Fa->b≠x:=λb n z=>by subst z;rw[n]at mu;exact mu
 have hb:∀b,H b=Fa->b≠e:=λb n z=>by
  subst z;rcases he with r|r
  .exact hx b n r
  .rw[n]at r;cases r
 have hm:∀b u,H b=ga u->¬UH (ga u)->b≠x:=λb u q nm z=>by subst z;rw[q]at mu;exact nm mu
 refine⟨λb u q n _ _=>k b u (hb b n) q,λb u q n _ _=>⟨u.slots,k b u (hb b n) q⟩,λb u q n _=>by rw[pN (hx b n)];exact n,λb u q _=>?_,λb xs q=>by rw[pN (hm b _ q λz=>z)];exact q,λb u xs q=>by rw[pN (hm b _ q λz=>z)];exact q,λb ps q=>⟨#[],by rw[pN (hm b _ q λz=>z),q];simp⟩⟩
 by_cases hbe:b=e
 .subst hbe;exact heo
 .exact⟨u,k b u hbe q⟩
end
noncomputable def Vn(h:Go)(H:Hp):QXQ:=(List.range h.objs.size).filter λa=>(H a).isSome
noncomputable def EA(h:Go)(H:Hp):Go:=W.hideAll h (Vn h H)
def Kf(h:Go)(H:Hp):(EA h H).objs.size=h.objs.size:=W.hideAll_size _ _
def LS{h:Go}{H:Hp}{b:lf}{o:Obj}(e:h.get? b=ga o)(n:H b=Fa):(EA h H).get? b=ga o:=
 W.hideAll_get _ e λhm=>by have q:(H b).isSome=Db:=(fB.mp hm).2;rw[n]at q;simp at q
def Qq{b:lf}{o:Obj}(e:(EA h H).get? b=ga o):h.get? b=ga o/\H b=Fa:=by
 have e':h.get? b=ga o:=W.of_hideAll (Vn h H) e;refine⟨e',?_⟩;cases q:H b with
 | none=>rfl
 | some x=>have hm:b∈Vn h H:=fB.mpr ⟨gc.mpr (dA e'),by simp[q]⟩;have z:(EA h H).get? b=Fa:=W.hideAll_none (Vn h H) hm;rw[z]at e;cases e
structure Mod(K:qk)(mg:QQZ)(base:Go):Prop where
 nQ:K.In base
 glob:base.Ns Ps mg
 blt:∃mb,base.Ns builtinsNs mb/\∀x:Str,x≠"__name__"->mb x=zn x
 nolimit:base.NoLimit
structure Cx where
 prog:Pg
 w:Wo
 K:qk
 mg:QQZ
 base:Go
 A:Ar
 N:QQQ
 s₀:Sd
 H₀:Hp
 env:Env
 outer:List Env
 stack:List Env
 ex:QXQ
 fn:Str->Bool
 calm:Bool
 pn:QQY
 xe:QQX
abbrev AE(X:Cx)(e:Tl)(es:T0 Tl):Prop:=Tk (e::es) X.env=(pc,No e X.env)::Tk es X.env
abbrev Ce(X:Cx)(p:Pos)(es:T0 Tl):Prop:=(At p (Tk es X.env)).any (·.1)=pc
abbrev zu(x:Str):Prop:=(x==("__debug__":Str))=pc
abbrev KP(X:Cx)(x:Str):Prop:=X.fn x=Db\/X.env.scope.names.lookup x=ga .local
noncomputable def vQ(l:T0 Env):QXQ:=l.filterMap (·.frame)
abbrev Cx.fs(X:Cx):QXQ:=vQ X.outer
def UL(sc:Z8)(x:Str):Prop:=sc.names.lookup x=ga .local\/sc.names.lookup x=ga .cell\/sc.names.lookup x=ga .free
def KO(sc:Z8)(x:Str):Prop:=sc.names.lookup x=ga .local\/sc.names.lookup x=ga .cell
def VT(env:Env)(h:Go)(m:QQZ)(x:Str)(u:Vl):Prop:=
 (env.kindOf x=ga .local/\m x=ga u)\/((env.kindOf x=ga .cell\/env.kindOf x=ga .free)/\∃c,env.cells.lookup x=ga c/\h.IsCell c (ga u))
structure Cx.Ok(X:Cx):Prop where
 mod:Mod X.K X.mg X.base
 kind:X.env.scope.kind=.function
 glob:X.env.globals=Ps
 blt:X.env.builtins=builtinsNs
 above:X.s₀.heap.objs.size<=X.env.locals
 inj:∀x y c,X.env.cells.lookup x=ga c->X.env.cells.lookup y=ga c->x=y
 has:∀x,(X.env.kindOf x=ga .cell\/X.env.kindOf x=ga .free)->∃c,X.env.cells.lookup x=ga c
 nR:∀x c,X.fn x=Db->X.env.cells.lookup x=ga c->X.s₀.heap.objs.size<=c
 hd:X.calm=Db->X.A.handled=Fa
 frames:X.A.frames=ga X.stack
 om:X.stack=X.outer\/(X.stack=X.env::X.outer/\X.env.frame=ga X.env.locals)
 oK:∀b∈X.ex,b≠X.env.locals/\∀x c,X.env.cells.lookup x=ga c->c≠b
 bs:∀b o,X.base.get? b=ga o->X.s₀.heap.get? b=ga o/\X.H₀ b=Fa
 nI:X.base.objs.size<=X.s₀.heap.objs.size
 nz:∀b o,X.base.get? b=ga o->b∉X.ex
 nH:∀b∈X.ex,b∉X.fs
 mY:X.s₀.heap.FunFrames X.base X.outer
 nP:∀b∈X.fs,X.H₀ b=Fa
structure Inv(X:Cx)(W5:QQY)(Y:List (Option V))(H:Hp)(s:Sd):Prop where
 ok:X.Ok
 os:s.os=X.s₀.os
 bare:XXe s.gens
 base:Un X.fs X.ex X.H₀ H X.s₀.heap s.heap
 loc:∃m,s.heap.Ns X.env.locals m/\∀(i:Nat) (x:Str) (v:V),X.N[i]?=ga x->Y[i]?=ga (ga v)->UL X.env.scope x->∃u,qz v u/\VT X.env s.heap m x u
 cell:∀x c,X.env.cells.lookup x=ga c->∃v,s.heap.IsCell c v
 free:H X.env.locals=Fa
 mJ:∀x c,X.env.cells.lookup x=ga c->H c=Fa
 pin:∀p∈X.pn++W5,s.heap.get? p.1=ga p.2/\H p.1=Fa/\p.1≠X.env.locals/\p.1∉X.fs/\∀v,p.2.data≠.cell v
 mD:yg X.prog X.w H s.heap
 len:Y.length=X.N.length
variable {X:Cx}{W5:T0 (lf × Obj)}{s:Sd}
section
variable {Y:T0 (Option V)}
def Cx.Ok.nofr(ok:X.Ok){b:lf}{o:Obj}(e:X.base.get? b=ga o):b∉X.fs:=λhb=>by have:=(ok.mY.mem hb).1;rw[e]at this;cases this
def Inv.bs(I:Inv X W5 Y H s):∀b o,X.base.get? b=ga o->s.heap.get? b=ga o/\H b=Fa:=λb o e=>⟨I.base.keep b o (I.ok.bs b o e).1 (I.ok.bs b o e).2 (I.ok.nofr e) (I.ok.nz b o e),I.base.free b o (I.ok.bs b o e).1 (I.ok.bs b o e).2 (I.ok.nz b o e)⟩
def Inv.bk(I:Inv X W5 Y H s):∀b o,X.base.get? b=ga o->s.heap.get? b=ga o:=λb o e=>(I.bs b o e).1
def Inv.mod(I:Inv X W5 Y H s):Mod X.K X.mg X.base:=I.ok.mod
def Inv.m7(I:Inv X W5 Y H s):X.K.In s.heap:=I.ok.mod.nQ.keeps I.bk
def Inv.lt(I:Inv X W5 Y H s):X.env.locals<s.heap.objs.size:=let⟨_,hn,_⟩:=I.loc;hn.lt
def Inv.sz(I:Inv X W5 Y H s):X.s₀.heap.objs.size<=s.heap.objs.size:=dS I.ok.above (kC I.lt)
def Inv.oz(I:Inv X W5 Y H s){a:lf}(h:s.heap.objs.size<=a):a∉X.fs:=λhb=>by obtain⟨_,o,ho,_⟩:=I.ok.mY.mem hb;exact absurd (dJ (dA ho) (dS I.sz h)) (eO _)
def Inv.oN(I:Inv X W5 Y H s):∀x c,X.env.cells.lookup x=ga c->c≠X.env.locals:=λx c e z=>by obtain⟨v,o,ho,hd⟩:=I.cell x c e;obtain⟨m,⟨o',es,ep,XJ,hd',_⟩,_⟩:=I.loc;rw[z,XJ]at ho;cases ho;rw[hd']at hd;cases hd
def Inv.mY(I:Inv X W5 Y H s):s.heap.FunFrames X.base X.outer:=by
 have all:∀(l:T0 Env),(∀b∈vQ l,b∈X.fs)->X.s₀.heap.FunFrames X.base l->s.heap.FunFrames X.base l:=by
  intro l;induction l with
  | nil=>intro _ _;trivial
  | cons env r ih=>intro hs hl;obtain⟨hk,⟨L,o,hf,hn,ho,hd⟩,hr⟩:=hl;have hL:L∈X.fs:=hs L (by unfold vQ;rw[fS,hf];exact dD);obtain⟨sl,e⟩:=I.base.slot L o ho (I.ok.nP L hL) hL λz=>I.ok.nH L z hL;exact⟨hk,⟨L,_,hf,hn,e,hd⟩,ih (λb hb=>hs b (by unfold vQ;rw[fS,hf];exact dz _ hb)) hr⟩
 exact all X.outer (λ_ hb=>hb) I.ok.mY
def Inv.stack(I:Inv X W5 Y H s):s.heap.FunFrames X.base X.stack:=by
 rcases I.ok.om with e|⟨e,hf⟩
 .rw[e];exact I.mY
 .rw[e];obtain⟨m,hn,_⟩:=I.loc;refine .cons (by rw[I.ok.kind];decide) hf hn ?_ I.mY;exact gJ (dS I.ok.nI I.ok.above)
def Inv.mV(I:Inv X W5 Y H s):∀b∈vQ X.stack,b∈X.env.locals::X.fs:=λb hb=>by
 rcases I.ok.om with e|⟨e,hf⟩
 .rw[e]at hb;exact dz _ hb
 .rw[e]at hb;unfold vQ at hb;rw[fS,hf]at hb;exact hb
def Inv.ng(I:Inv X W5 Y H s):∀b∈vQ X.stack,H b=Fa:=λb hb=>by
 rcases dg.mp (I.mV b hb)with e|hb
 .rw[e];exact I.free
 .obtain⟨_,o,ho,_⟩:=I.ok.mY.mem hb;exact I.base.free b o ho (I.ok.nP b hb) λz=>I.ok.nH b z hb
def Inv.step{g':Array GenState}{t':Nat}{d':Drawn}{ch:QXQ}(I:Inv X W5 Y H s) (X7:∀b∈ch,(b∈X.ex\/X.s₀.heap.objs.size<=b)/\b≠X.env.locals/\(∀x c,X.env.cells.lookup x=ga c->c≠b)/\∀p∈X.pn++W5,p.1≠b) (keep:∀b o,b≠X.env.locals->b∉X.fs->b∉ch->s.heap.get? b=ga o->H b=Fa->h'.get? b=ga o) (slot:∀b o,b≠X.env.locals->b∈X.fs->b∉ch->s.heap.get? b=ga o->H b=Fa->∃sl,h'.get? b=ga {o with slots:=sl}) (free:∀b o,b∉ch->s.heap.get? b=ga o->H b=Fa->H' b=Fa)
  (there:∀b o,b∉ch->s.heap.get? b=ga o->∃o',h'.get? b=ga o')
  (m8:∀b xs,H b=ga (.tup xs)->H' b=ga (.tup xs)) (mW:∀b o u,H b=ga (.frz o u)->H' b=ga (.frz o u)) (ni:∀b ps,H b=ga (.tbl ps)->∃more,H' b=ga (.tbl (ps++more)))
  (ns:∀m,s.heap.Ns X.env.locals m->h'.Ns X.env.locals m) (mD:yg X.prog X.w H' h') (hg:XXe g'):
  Inv X W5 Y H' {s with heap:=h',gens:=g',drawn:=d',toks:=t'}:=by
 have neL:∀b o,X.s₀.heap.get? b=ga o->b≠X.env.locals:=λb o e=>dO (dJ (dA e) I.ok.above);have neC:∀b o,X.s₀.heap.get? b=ga o->b∉X.ex->b∉ch:=λb o e hx hb=>by
  rcases(X7 b hb).1 with z|z
  .exact hx z
  .exact absurd (dJ (dA e) z) (eO _)
 have Zq:∀x c,X.env.cells.lookup x=ga c->∀v,s.heap.IsCell c v->h'.IsCell c v:=λx c e v ⟨o,ho,hd⟩=>by
  have nch:c∉ch:=λz=>(X7 c z).2.2.1 x c e Z';by_cases hc:c∈X.fs
  .obtain⟨sl,q⟩:=slot c o (I.oN x c e) hc nch ho (I.mJ x c e);exact⟨_,q,hd⟩
  .exact⟨o,keep c o (I.oN x c e) hc nch ho (I.mJ x c e),hd⟩
 refine⟨I.ok,I.os,hg,⟨λb o e n hb hx=>?_,λb o e n hb hx=>?_,λb o e n hx=>?_,λb o e hx=>?_,λb xs e=>m8 b xs (I.base.m8 b xs e),λb o xs e=>mW b o xs (I.base.mW b o xs e),λb ps e=>?_⟩,?_,λx c e=>?_,?_,λx c e=>?_,λp hp=>?_,mD,I.len⟩
 .exact keep b o (neL b o e) hb (neC b o e hx) (I.base.keep b o e n hb hx) (I.base.free b o e n hx)
 .obtain⟨sl,e1⟩:=I.base.slot b o e n hb hx;obtain⟨Yy,e2⟩:=slot b _ (neL b o e) hb (neC b o e hx) e1 (I.base.free b o e n hx);exact⟨Yy,e2⟩
 .obtain⟨o',e1⟩:=I.base.there b o e hx;exact free b o' (neC b o e hx) e1 (I.base.free b o e n hx)
 .obtain⟨o',e1⟩:=I.base.there b o e hx;exact there b o' (neC b o e hx) e1
 .obtain⟨m1,e1⟩:=I.base.ni b ps e;obtain⟨m2,e2⟩:=ni b _ e1;exact⟨m1++m2,by rw[e2,kB]⟩
 .obtain⟨m,hn,hl⟩:=I.loc;refine⟨m,ns m hn,λi x v e1 e2 e3=>?_⟩;obtain⟨u,r,l⟩:=hl i x v e1 e2 e3;refine⟨u,r,?_⟩;rcases l with l|⟨k,c,e,z⟩
  .exact .inl l
  .exact .inr ⟨k,c,e,Zq x c e _ z⟩
 .obtain⟨v,z⟩:=I.cell x c e;exact⟨v,Zq x c e v z⟩
 .obtain⟨m,⟨o,_,_,ho,_⟩,_⟩:=I.loc;exact free _ o (λz=>(X7 _ z).2.1 Z') ho I.free
 .obtain⟨v,o,ho,hd⟩:=I.cell x c e;exact free c o (λz=>(X7 c z).2.2.1 x c e Z') ho (I.mJ x c e)
 .obtain⟨e,n,ne,nf,d⟩:=I.pin p hp;have nch:p.1∉ch:=λz=>(X7 p.1 z).2.2.2 p hp Z';exact⟨keep p.1 p.2 ne nf nch e n,free p.1 p.2 nch e n,ne,nf,d⟩
def Inv.un{t':Nat}(I:Inv X W5 Y H s)(u:Un X.fs [] H H' s.heap h')(mD:yg X.prog X.w H' h'):Inv X W5 Y H' {s with heap:=h',toks:=t'}:=by
 obtain⟨m,⟨o,es,ep,ho,r⟩,_⟩:=id I.loc;obtain⟨sl,hL⟩:=u.any ho I.free (by simp);exact I.step (g':=s.gens) (d':=s.drawn) (ch:=[]) (λ_ z=>nomatch z) (λb o _ hb _ e n=>u.keep b o e n hb (by simp)) (λb o _ hb _ e n=>u.slot b o e n hb (by simp)) (λb o _ e n=>u.free b o e n (by simp)) (λb o _ e=>u.there b o e (by simp)) u.m8 u.mW u.ni (λm' hm=>by
  obtain⟨o',es',ep',XJ,r'⟩:=hm;rw[ho]at XJ;cases XJ;exact⟨_,es',ep',hL,r'⟩) mD I.bare
def Inv.call{t':Nat}{d':Drawn}(I:Inv X W5 Y H s)(u:Un (vQ X.stack) ch H H' s.heap h')(mD:yg X.prog X.w H' h')(hg:XXe g') (X7:∀b∈ch,(b∈X.ex\/X.s₀.heap.objs.size<=b)/\b≠X.env.locals/\(∀x c,X.env.cells.lookup x=ga c->c≠b)/\∀p∈X.pn++W5,p.1≠b):
  Inv X W5 Y H' {s with heap:=h',gens:=g',drawn:=d',toks:=t'}:=by
 obtain⟨m,⟨o,es,ep,ho,r⟩,_⟩:=id I.loc;obtain⟨sl,hL⟩:=u.any ho I.free λz=>(X7 _ z).2.1 Z';exact I.step (ch:=ch) X7 (λb o hL hb hc e n=>u.keep b o e n (λz=>(dg.mp (I.mV b z)).elim hL hb) hc) (λb o _ _ hc e n=>u.any e n hc) (λb o hc e n=>u.free b o e n hc) (λb o hc e=>u.there b o e hc) u.m8 u.mW u.ni (λm' hm=>by
  obtain⟨o',es',ep',XJ,r'⟩:=hm;rw[ho]at XJ;cases XJ;exact⟨_,es',ep',hL,r'⟩) mD hg
def Inv.turned{t':Nat}{it:lf}(I:Inv X W5 Y H s)(k:∀b o,b≠it->s.heap.get? b=ga o->h'.get? b=ga o)(hn:H it=Fa)(hL:it≠X.env.locals) (h1:it∈X.ex\/X.s₀.heap.objs.size<=it) (h2:∀x c,X.env.cells.lookup x=ga c->c≠it) (h3:∀p∈X.pn++W5,p.1≠it):Inv X W5 Y H {s with heap:=h',toks:=t'}:=by
 have nit:∀b u,H b=ga u->b≠it:=λb u e z=>by rw[z,hn]at e;cases e
 refine I.step (g':=s.gens) (d':=s.drawn) (ch:=[it]) (λb hb=>?_) (λb o _ _ hc e _=>k b o (λz=>hc (by simp[z])) e) (λb o _ _ hc e _=>⟨o.slots,k b o (λz=>hc (by simp[z])) e⟩) (λ_ _ _ _ n=>n)
  (λb o hc e=>⟨o,k b o (λz=>hc (by simp[z])) e⟩) (λ_ _ e=>e) (λ_ _ _ e=>e) (λb ps e=>⟨#[],by rw[e];simp⟩) (λm hm=>?_) (λb u e=>?_) I.bare
 .have e:b=it:=by simpa using hb
  subst e;exact⟨h1,hL,h2,h3⟩
 .obtain⟨o,es,ep,ho,r⟩:=hm;exact⟨o,es,ep,k _ o (dQ hL) ho,r⟩
 .refine(I.mD b u e).m9 (λc v hc q=>k c v ?_ q) (λ_ q=>q) λ_ _ q=>q;rcases hc with z|z
  .rw[z];exact nit b u e
  .exact nit c _ z
def Inv.tok(I:Inv X W5 Y H s)(t:Nat):Inv X W5 Y H {s with toks:=t}:=I.un (h':=s.heap) (t':=t) Un.refl I.mD
def Inv.kept{t':Nat}(I:Inv X W5 Y H s)(k:∀b u,s.heap.get? b=ga u->h'.get? b=ga u):Inv X W5 Y H {s with heap:=h',toks:=t'}:=I.un (Un.kept k) (I.mD.kept k)
def Inv.laid{a:lf}{t':Nat}(I:Inv X W5 Y H s)(k:∀b u,s.heap.get? b=ga u->h'.get? b=ga u)(hp:s.heap.objs.size<=a)(new:sG X.prog X.w (upd H a o) h' a o):
  Inv X W5 Y (upd H a o) {s with heap:=h',toks:=t'}:=I.un (Un.laid k hp (I.mD.fresh hp)) (I.mD.laid k hp new)
def Inv.write{x e:lf}{t':Nat}(I:Inv X W5 Y H s)(mu:UH (H x))(he:e=x\/H e=ga (.own x))(k:∀b u,b≠e->s.heap.get? b=ga u->h'.get? b=ga u)(heo:∃u,h'.get? e=ga u) (new:sG X.prog X.w (upd H x o) h' x o):Inv X W5 Y (upd H x o) {s with heap:=h',toks:=t'}:=I.un (Un.write mu he k heo) (I.mD.write mu he k heo new)
def Inv.nv{X8:QQY}(I:Inv X W5 Y H s)(h:∀p∈X8,s.heap.get? p.1=ga p.2/\H p.1=Fa/\p.1≠X.env.locals/\p.1∉X.fs/\∀v,p.2.data≠.cell v):Inv X X8 Y H s:=
 ⟨I.ok,I.os,I.bare,I.base,I.loc,I.cell,I.free,I.mJ,λp hp=>(dM.mp hp).elim (λz=>I.pin p (fm _ z)) (h p),I.mD,I.len⟩
def Gj{N:QQQ}(hN:N.Nodup){i j:Nat}{x:Str}(a:N[i]?=ga x)(b:N[j]?=ga x):i=j:=by obtain⟨h1,e1⟩:=cV.mp a;obtain⟨h2,e2⟩:=cV.mp b;exact(ls hN).mp (e1.trans e2.symm)
def DO{M:Model}{A:Ar}{E:QQX}{i:Nat}{x:Str}{Q:Unit->Sd->Prop}(I:Inv X W5 Y H s)(hN:X.N.Nodup)(hi:X.N[i]?=ga x)(hx:KO X.env.scope x)(r:qz v u) (h:∀s',Inv X W5 (Y.set i (ga v)) H s'->(∃a,Heap.SameBut a s.heap s'.heap/\(a=X.env.locals\/X.env.cells.lookup x=ga a))->Q () s') (hf:KP X x:=by first|exact .inl Z'|exact .inr Z'|assumption):Ch M A (storeName X.env x u) Q E s:=by
 obtain⟨m,hn,hl⟩:=id I.loc;have hcls:(X.env.scope.kind==.class||(X.env.scope.kind==.module&&X.env.locals != X.env.globals))=pc:=by rw[I.ok.kind];rfl
 have hiσ:i<Y.length:=by rw[I.len];exact(cV.mp hi).1
 have oN:=I.oN;have Xi:∀{a:lf} {h':Go},(∃o,s.heap.get? a=ga o/\H a=Fa)->Heap.SameBut a s.heap h'->yg X.prog X.w H h':=λ{a h'} ha hs b ob e=>by
  obtain⟨_,_,XU⟩:=ha;refine(I.mD b ob e).m9 (λc w' hc q=>(hs.2 c ?_).trans q) (λ_ q=>q) λ_ _ q=>q
  rintro rfl
  rcases hc with rfl|hc
  .rw[XU]at e;cases e
  .rw[XU]at hc;cases hc
 rcases hx with hk|hk
 .refine wpAny_storeName_local hk hn (λh' Y3 hs=>?_) hcls;obtain⟨oL,_,_,hoL,_⟩:=id hn;refine h _ ⟨I.ok,I.os,I.bare,⟨λb o e n hb hx=>?_,λb o e n hb hx=>?_,I.base.free,λb o e hx=>?_,I.base.m8,I.base.mW,I.base.ni⟩,⟨_,Y3,λj y v' e1 e2 e3=>?_⟩,λy c e=>?_,I.free,I.mJ,λp hp=>?_,Xi ⟨oL,hoL,I.free⟩ hs,by simpa using I.len⟩ ⟨_,hs,.inl Z'⟩
  .exact(hs.2 b (dO (dJ (dA e) I.ok.above))).trans (I.base.keep b o e n hb hx)
  .obtain⟨sl,e1⟩:=I.base.slot b o e n hb hx;exact⟨sl,(hs.2 b (dO (dJ (dA e) I.ok.above))).trans e1⟩
  .obtain⟨o',e1⟩:=I.base.there b o e hx;exact⟨o',(hs.2 b (dO (dJ (dA e) I.ok.above))).trans e1⟩
  .by_cases hj:j=i
   .subst hj;rw[hi]at e1;cases e1;rw[fu hiσ]at e2;cases e2;exact⟨u,r,.inl ⟨hk,by simp⟩⟩
   .rw[ft (dQ hj)]at e2;obtain⟨u',r',q⟩:=hl j y v' e1 e2 e3;refine⟨u',r',?_⟩;rcases q with⟨k,e⟩|⟨k,c,e,z⟩
    .refine .inl ⟨k,?_⟩;have:y≠x:=λe=>hj (Gj hN e1 (e ▸ hi));simp[this,e]
    .exact .inr ⟨k,c,e,z.sameBut hs (oN y c e)⟩
  .obtain⟨w',z⟩:=I.cell y c e;exact⟨w',z.sameBut hs (oN y c e)⟩
  .obtain⟨e,n,ne,nf,d⟩:=I.pin p hp;exact⟨(hs.2 p.1 ne).trans e,n,ne,nf,d⟩
 .have hfn:X.fn x=Db:=by
   rcases hf with z|z
   .exact z
   .rw[z]at hk;cases hk
  obtain⟨c,hc⟩:=I.ok.has x (.inl hk);obtain⟨w',z⟩:=I.cell x c hc;refine wpAny_storeName_cell I.ok.kind hk hc z (λh' hc' hs=>?_);obtain⟨oc,hoc,hocd⟩:=id z;refine h {s with heap:=h'} ⟨I.ok,I.os,I.bare,⟨λb o e n hb hx=>?_,λb o e n hb hx=>?_,I.base.free,λb o e hx=>?_,I.base.m8,I.base.mW,I.base.ni⟩,⟨m,hn.sameBut hs (dQ (oN x c hc)),λj y v' e1 e2 e3=>?_⟩,λy c' e=>?_,I.free,I.mJ,λp hp=>?_,Xi ⟨oc,hoc,I.mJ x c hc⟩ hs,by simpa using I.len⟩ ⟨c,hs,.inr hc⟩
  .exact(hs.2 b (dO (dJ (dA e) (I.ok.nR x c hfn hc)))).trans (I.base.keep b o e n hb hx)
  .obtain⟨sl,e1⟩:=I.base.slot b o e n hb hx;exact⟨sl,(hs.2 b (dO (dJ (dA e) (I.ok.nR x c hfn hc)))).trans e1⟩
  .obtain⟨o',e1⟩:=I.base.there b o e hx;exact⟨o',(hs.2 b (dO (dJ (dA e) (I.ok.nR x c hfn hc)))).trans e1⟩
  .by_cases hj:j=i
   .subst hj;rw[hi]at e1;cases e1;rw[fu hiσ]at e2;cases e2;exact⟨u,r,.inr ⟨.inl hk,c,hc,hc'⟩⟩
   .rw[ft (dQ hj)]at e2;obtain⟨u',r',q⟩:=hl j y v' e1 e2 e3;refine⟨u',r',?_⟩;rcases q with q|⟨k,c',e,z'⟩
    .exact .inl q
    .refine .inr ⟨k,c',e,z'.sameBut hs ?_⟩
     rintro rfl
     exact hj (Gj hN e1 (I.ok.inj _ _ _ e hc ▸ hi))
  .by_cases Zr:c'=c
   .subst Zr;exact⟨_,hc'⟩
   .obtain⟨w2,z2⟩:=I.cell y c' e;exact⟨w2,z2.sameBut hs Zr⟩
  .obtain⟨e,n,ne,nf,d⟩:=I.pin p hp;refine⟨(hs.2 p.1 ?_).trans e,n,ne,nf,d⟩;intro q;rw[q,hoc]at e;have q':oc=p.2:=de e;exact d w' (by rw[<-q'];exact hocd)
def BB{M:Model}{A:Ar}{E:QQX}{i:Nat}{x:Str}{Q:Unit->Sd->Prop}(I:Inv X W5 Y H s)(hN:X.N.Nodup)(hi:X.N[i]?=ga x)(hx:KO X.env.scope x)(r:qz v u) (h:∀s',Inv X W5 (Y.set i (ga v)) H s'->Q () s') (hf:KP X x:=by first|exact .inl Z'|exact .inr Z'|assumption):Ch M A (storeName X.env x u) Q E s:=
 DO I hN hi hx r (λs' I' _=>h s' I') hf
def Inv.oF{s':Sd}(I:Inv X W5 Y H s)(ho:s'.os=s.os)(u:Un (vQ X.stack) ch H H' s.heap s'.heap)(mD:yg X.prog X.w H' s'.heap)(hg:XXe s'.gens) (X7:∀b∈ch,(b∈X.ex\/X.s₀.heap.objs.size<=b)/\b≠X.env.locals/\(∀x c,X.env.cells.lookup x=ga c->c≠b)/\∀p∈X.pn++W5,p.1≠b):Inv X W5 Y H' s':=by
 obtain⟨h',g',d',t',o'⟩:=s';have e:o'=s.os:=ho;subst e;exact I.call (g':=g') (t':=t') (d':=d') u mD hg X7
end
abbrev XK:=Vl->Option lf->Hp->Prop
abbrev St:=T0 (Option V)
abbrev VK:=V->Hp->Prop
abbrev TE:=St->Hp->VK->Prop
abbrev TT:=St->Hp->(Bool->Hp->Prop)->Prop
abbrev TA:=St->Hp->(T0 V->Hp->Prop)->Prop
structure EK where
 nx:St->Hp->Prop
 rt:VK
 bk:St->Hp->Prop:=λ_ _=>False
 ct:St->Hp->Prop:=λ_ _=>False
abbrev TS:=EK->St->Hp->Prop
def EP(X:Cx)(W5:QQY)(Y:St)(Q:VK)(u:Vl)(s':Sd):Prop:=∃v H',Inv X W5 Y H' s'/\qz v u/\Q v H'
def TP(X:Cx)(W5:QQY)(Y:St)(Q:Bool->Hp->Prop)(b:Bool)(s':Sd):Prop:=∃H',Inv X W5 Y H' s'/\Q b H'
def AP(X:Cx)(W5:QQY)(Y:St)(Q:T0 V->Hp->Prop)(us:T0 Vl)(s':Sd):Prop:=∃vs H',Inv X W5 Y H' s'/\qo vs us/\Q vs H'
def SP(X:Cx)(W5:QQY)(D:EK)(f:Flow)(s':Sd):Prop:=
 match f with
 | .next=>∃σ' H',Inv X W5 σ' H' s'/\D.nx σ' H'
 | .brk=>∃σ' H',Inv X W5 σ' H' s'/\D.bk σ' H'
 | .cont=>∃σ' H',Inv X W5 σ' H' s'/\D.ct σ' H'
 | .ret u=>∃v σ' H',Inv X W5 σ' H' s'/\qz v u/\D.rt v H'
def PE(X:Cx)(e:Tl)(t:TE):Prop:=
 ∀(W5:QQY) (s:Sd) (Y:St) (H:Hp) (Q:VK),Inv X W5 Y H s->t Y H Q->Ch (pi X.prog X.w) X.A (No e X.env) (EP X W5 Y Q) X.xe s
def PT(X:Cx)(e:Tl)(t:TT):Prop:=
 ∀(W5:QQY) (s:Sd) (Y:St) (H:Hp) (Q:Bool->Hp->Prop),Inv X W5 Y H s->t Y H Q->Ch (pi X.prog X.w) X.A (isTrue e X.env (No e X.env)) (TP X W5 Y Q) X.xe s
def PW(X:Cx)(e:Tl)(t:TT):Prop:=
 ∀(XA:Sem Vl) (W5:QQY) (s:Sd) (Y:St) (H:Hp) (Q:Bool->Hp->Prop),Inv X W5 Y H s->t Y H Q->Ch (pi X.prog X.w) X.A (isTrue e X.env XA) (TP X W5 Y Q) X.xe s
def PW.pt(h:PW X e t):PT X e t:=h _
def PA(X:Cx)(es:T0 Tl)(t:TA):Prop:=
 ∀(pos:Pos) (W5:QQY) (s:Sd) (Y:St) (H:Hp) (Q:T0 V->Hp->Prop),Inv X W5 Y H s->t Y H Q->Ch (pi X.prog X.w) X.A (spliced (At pos (Tk es X.env))) (AP X W5 Y Q) X.xe s
def PS(X:Cx)(st:xz)(t:TS):Prop:=
 ∀(W5:QQY) (s:Sd) (Y:St) (H:Hp) (D:EK),Inv X W5 Y H s->t D Y H->Ch (pi X.prog X.w) X.A (exec st X.env) (SP X W5 D) X.xe s
def Bx(X:Cx)(st:T0 xz)(t:TS):Prop:=
 ∀(W5:QQY) (s:Sd) (Y:St) (H:Hp) (D:EK),Inv X W5 Y H s->t D Y H->Ch (pi X.prog X.w) X.A (execs st X.env) (SP X W5 D) X.xe s
def rY{α:Type}{t:Sem α}{Q Q':α->Sd->Prop}{M:Model}{A:Ar}{E:QQX}{s:Sd}(h:Ch M A t Q E s)(hQ:∀a s,Q a s->Q' a s):Ch M A t Q' E s:=d6 h hQ λ_ _ x=>x
variable {tA tB':TT}{ta tb:TE}{pos:Pos}
section
def Hn(i:Nat):TE:=λY H Q=>∃v,Y[i]?=ga (ga v)/\Q v H
def tC(v:V):TE:=λ_ H Q=>Q v H
def Rn{i:Nat}{x:Str}(hN:X.N[i]?=ga x)(hv:UL X.env.scope x)(hd:zu x:=by decide)(Yl:(x==("__classdict__":Str))=pc:=by decide):PE X (.Name x pos) (Hn i):=by
 intro W5 s Y H Q I h;obtain⟨v,e,h⟩:=h;obtain⟨m,hn,hl⟩:=I.loc;obtain⟨u,r,l⟩:=hl i x v hN e hv;have Xb:EP X W5 Y Q u s:=⟨v,H,I,r,h⟩;rcases l with⟨hk,hm⟩|⟨hk,c,hc,hcell⟩
 .exact lH (wpAny_loadName_local I.ok.kind hk hn hm Xb) hd
 .rcases hk with hk|hk
  .exact lH (wpAny_loadName_cell I.ok.kind hk hc hcell Xb) hd
  .exact lH (wpAny_loadName_free I.ok.kind hk hc hcell Xb Yl) hd
def RN{i j pos}:PE X (.Constant (.int i) j pos) (tC (.int i)):=λ_ _ _ H _ I h=>wpAny_Constant_int ⟨.int i,H,I.tok _,⟨_,Z'⟩,h⟩
def UV{b j pos}:PE X (.Constant (.bool b) j pos) (tC (.bl b)):=λ_ _ _ H _ I h=>Constant_bool ⟨.bl b,H,I,Z',h⟩
def RC{j pos}:PE X (.Constant .none j pos) (tC .mx):=λ_ _ _ H _ I h=>Constant_none ⟨.mx,H,I,Z',h⟩
def R8{x j pos}:PE X (.Constant (.str x) j pos) (tC (.str x)):=λ_ _ _ H _ I h=>Calls.Constant_str ⟨.str x,H,I.tok _,⟨_,Z'⟩,h⟩
def Gl(X:Cx)(x:Str):Prop:=X.env.kindOf x=ga .globalImplicit
def wz{E:QQX}{W5:QQY}{u:Vl}{Q:QQX}(I:Inv X W5 Y H s)(hg:Gl X x)(hm:X.mg x=ga u)(h:Q u s) (hd:zu x:=by decide):Ch (pi X.prog X.w) X.A (No (.Name x pos) X.env) Q E s:=
 jd I.ok.kind hg (Calls.loadGlobal_global (by rw[I.ok.glob];exact I.mod.glob.keeps I.bk) hm h) hd
def wK{E:QQX}{W5:QQY}{u:Vl}{Q:QQX}(I:Inv X W5 Y H s)(hg:Gl X x)(hm:X.mg x=Fa)(hv:zn x=ga u)(h:Q u s) (hn:x≠"__name__":=by decide) (hd:zu x:=by decide):Ch (pi X.prog X.w) X.A (No (.Name x pos) X.env) Q E s:=by
 obtain⟨mb,h1,h2⟩:=I.mod.blt;exact jd I.ok.kind hg (Calls.loadGlobal_builtin (by rw[I.ok.glob];exact I.mod.glob.keeps I.bk) hm (by rw[I.ok.blt];exact h1.keeps I.bk) ((h2 x hn).trans hv) h) hd
def En{u:Vl}(hg:Gl X x)(hm:X.mg x=ga u)(r:qz v u)(hd:zu x:=by decide):PE X (.Name x pos) (tC v):=
 λ_ _ _ H _ I h=>wz I hg hm ⟨v,H,I,r,h⟩ hd
variable {a b:Tl}
def tB(t:TE):TT:=λY H Q=>t Y H λx H1=>∃c,x=.bl c/\Q c H1
def Te(h:PE X e t)(he:∀XA,isTrue e X.env XA=(do let v<-XA;u8 e.pos;Ix [v] (truthy v)):=by intro _;rfl):PT X e (tB t):=by intro W5 s Y H Q I hw;refine isTrue_plain (rY (h W5 s Y H _ I hw) λv s1 zz=>x5 zz λx H1 I1 r1 q1=>?_) (he _);obtain⟨d,rfl,q⟩:=q1;cases r1;exact eX ⟨H1,I1,q⟩
variable {rest:T0 Tl}
def Vu(t u:TT):TT:=λY H Q=>t Y H λc H1=>if c=Db then u Y H1 Q else Q pc H1
def WO(t u:TT):TT:=λY H Q=>t Y H λc H1=>if c=Db then Q Db H1 else u Y H1 Q
def Wj(t:TT):TT:=λY H Q=>t Y H λc H1=>Q (!c) H1
def OG(ha:PT X a tA):PW X (.BoolOp .And [a] pos) tA:=by
 intro wh W5 s Y H Q I h;refine isTrue_and (rY (ha W5 s Y H Q I h) λc s1 e=>?_);cases c with
 | true=>exact isTrue_and_nil e
 | false=>exact e
def SG(ha:PT X a tA):PW X (.BoolOp .Or [a] pos) tA:=by
 intro wh W5 s Y H Q I h;refine isTrue_or (rY (ha W5 s Y H Q I h) λc s1 e=>?_);cases c with
 | false=>exact isTrue_or_nil e
 | true=>exact e
def R4(ha:PT X a tA)(hb:PW X (.BoolOp .And (b::rest) pos) tB'):PW X (.BoolOp .And (a::b::rest) pos) (Vu tA tB'):=by
 intro wh W5 s Y H Q I h;refine isTrue_and (rY (ha W5 s Y H _ I h) λc s1 ⟨H1,I1,q1⟩=>?_);cases c with
 | true=>exact hb wh W5 s1 Y H1 Q I1 q1
 | false=>exact⟨H1,I1,q1⟩
def TF(ha:PT X a tA)(hb:PW X (.BoolOp .Or (b::rest) pos) tB'):PW X (.BoolOp .Or (a::b::rest) pos) (WO tA tB'):=by
 intro wh W5 s Y H Q I h;refine isTrue_or (rY (ha W5 s Y H _ I h) λc s1 ⟨H1,I1,q1⟩=>?_);cases c with
 | true=>exact⟨H1,I1,q1⟩
 | false=>exact hb wh W5 s1 Y H1 Q I1 q1
def SH(ha:PT X a tA):PT X (.UnaryOp .Not a pos) (Wj tA):=by intro W5 s Y H Q I h;exact isTrue_not (ha W5 s Y H (λc H1=>Q (!c) H1) I h)
def Ul(ta tb:TE):TE:=λY H Q=>ta Y H λx H1=>∃c,x=.bl c/\if c=Db then tb Y H1 Q else Q (.bl pc) H1
def VR(ta tb:TE):TE:=λY H Q=>ta Y H λx H1=>∃c,x=.bl c/\if c=Db then Q (.bl Db) H1 else tb Y H1 Q
def Ui(ta:TE):TE:=λY H Q=>ta Y H λx H1=>∃c,x=.bl c/\Q (.bl (!c)) H1
def Rh{op}(h:PE X a t):PE X (.BoolOp op [a] pos) t:=λW5 s Y H Q I hw=>BoolOp_one (h W5 s Y H Q I hw)
def RX(ha:PE X a ta)(hb:PE X (.BoolOp .And (b::rest) pos) tb):PE X (.BoolOp .And (a::b::rest) pos) (Ul ta tb):=by
 intro W5 s Y H Q I h;refine BoolOp_and (rY (ha W5 s Y H _ I h) λv s1 zz=>x5 zz λx H1 I1 r1 q1=>?_);obtain⟨c,rfl,q1⟩:=q1;cases r1;refine eX ?_;cases c with
 | true=>exact hb W5 s1 Y H1 Q I1 q1
 | false=>exact⟨.bl pc,H1,I1,Z',q1⟩
def Tu(ha:PE X a ta)(hb:PE X (.BoolOp .Or (b::rest) pos) tb):PE X (.BoolOp .Or (a::b::rest) pos) (VR ta tb):=by
 intro W5 s Y H Q I h;refine BoolOp_or (rY (ha W5 s Y H _ I h) λv s1 zz=>x5 zz λx H1 I1 r1 q1=>?_);obtain⟨c,rfl,q1⟩:=q1;cases r1;refine eX ?_;cases c with
 | false=>exact hb W5 s1 Y H1 Q I1 q1
 | true=>exact⟨.bl Db,H1,I1,Z',q1⟩
def S9(ha:PE X a ta):PE X (.UnaryOp .Not a pos) (Ui ta):=by intro W5 s Y H Q I h;refine UnaryOp_ (rY (ha W5 s Y H _ I h) λv s1 zz=>x5 zz λx H1 I1 r1 q1=>?_);obtain⟨c,rfl,q1⟩:=q1;cases r1;exact not_of (eX ⟨.bl (!c),H1,I1,Z',q1⟩)
def WV(t:TT)(ta tb:TE):TE:=λY H Q=>t Y H λc H1=>if c=Db then ta Y H1 Q else tb Y H1 Q
def Nm(hc:PT X c tA)(ha:PE X a ta)(hb:PE X b tb):PE X (.IfExp c a b pos) (WV tA ta tb):=by
 intro W5 s Y H Q I h;refine wpAny_IfExp (rY (hc W5 s Y H _ I h) λd s1 ⟨H1,I1,q1⟩=>?_);cases d with
 | true=>exact ha W5 s1 Y H1 Q I1 q1
 | false=>exact hb W5 s1 Y H1 Q I1 q1
end
def xk(K:qk)(H:Hp)(a:lf)(xs:T0 V):Prop:=
 Rd H a (.lst xs)\/
  ∃(o:Obj) (its:Array Vl) (n:Nat),K.lookup a=ga o/\o.cls=.type "list"/\o.dict=Fa/\o.data=.seq its n/\its.size<=Uf/\qo xs its.toList
def vk(K:qk)(H:Hp)(a:lf)(xs:T0 V):Prop:=
 Rd H a (.tup xs)\/
  ∃(o:Obj) (its:Array Vl) (n:Nat),K.lookup a=ga o/\o.cls=.type "tuple"/\o.dict=Fa/\o.data=.seq its n/\its.size<=Uf/\qo xs its.toList
noncomputable def VN:Vl->Option V
 | .none=>ga .mx
 | .bool b=>ga (.bl b)
 | .int i _=>ga (.int i)
 | .str x _=>ga (.str x)
 | .bytes b _=>ga (.byt b)
 | .float b _=>ga (.flt b)
 | .ref a=>ga (.ref a)
 | .type n=>ga (.ty n)
 | _=>Fa
def qz.abs(r:qz x u):VN u=ga x:=by
 cases x with
 | mx=>cases r;rfl
 | bl _=>cases r;rfl
 | int _=>obtain⟨t,rfl⟩:=r;rfl
 | str _=>obtain⟨t,rfl⟩:=r;rfl
 | byt _=>obtain⟨t,rfl⟩:=r;rfl
 | flt _=>obtain⟨t,rfl⟩:=r;rfl
 | ref _=>cases r;rfl
 | ty _=>cases r;rfl
def qz.inj(r:qz x u)(q:qz y u):x=y:=de (r.abs.symm.trans q.abs)
theorem qo.inj:∀{xs ys:T0 V} {us:T0 Vl},qo xs us->qo ys us->xs=ys
 | _,_,_,.nil,.nil=>rfl
 | _,_,_,.cons r t,.cons r' t'=>by rw[r.inj r',qo.inj t t']
variable {xs ys:T0 V}
section
variable {Y:St}{a:lf}
def vk.of{K:qk}(h:H a=ga (.tup xs)):vk K H a xs:=.inl (.inl h)
def Inv.list(I:Inv X W5 Y H s)(h:xk X.K H a xs):∃its:T0 Vl,qo xs its/\PlainL s.heap a its.toArray/\xs.length<=Uf:=by
 rcases h with h|⟨o,its,n,hk,hc,hd,hs,hz,r⟩
 .obtain⟨z,its,n,r,e⟩:=h.ok I.mD;exact⟨its,r,⟨_,n,e,Z',Z',Z'⟩,z⟩
 .refine⟨its.toList,r,⟨o,n,I.m7 a o hk,hc,hd,by simpa using hs⟩,?_⟩;have e:=r.length;simp only[iR]at e;lia
def Inv.tuple(I:Inv X W5 Y H s)(h:vk X.K H a xs):∃its:T0 Vl,qo xs its/\IsTup s.heap a its.toArray/\xs.length<=Uf:=by
 rcases h with h|⟨o,its,n,hk,hc,hd,hs,hz,r⟩
 .obtain⟨z,its,r,p⟩:=h.ok I.mD;exact⟨its,r,p.is,z⟩
 .refine⟨its.toList,r,⟨o,I.m7 a o hk,hc,n,by simpa using hs⟩,?_⟩;have e:=r.length;simp only[iR]at e;lia
def Inv.nk(I:Inv X W5 Y H s)(h:xk X.K H a xs)(h':xk X.K H a ys):xs=ys:=by
 obtain⟨its,r,⟨o,n,e,_,_,d⟩,_⟩:=I.list h;obtain⟨its',r',⟨o',n',e',_,_,d'⟩,_⟩:=I.list h';rw[e]at e';cases e';rw[d]at d';injection d' with d1 _
 have:its=its':=by simpa using eC Array.toList d1
 subst this;exact r.inj r'
def Inv.mU(I:Inv X W5 Y H s)(h:vk X.K H a xs)(h':vk X.K H a ys):xs=ys:=by
 obtain⟨its,r,⟨o,e,_,n,d⟩,_⟩:=I.tuple h;obtain⟨its',r',⟨o',e',_,n',d'⟩,_⟩:=I.tuple h';rw[e]at e';cases e';rw[d]at d';injection d' with d1 _
 have:its=its':=by simpa using eC Array.toList d1
 subst this;exact r.inj r'
end
abbrev Cx.nu(X:Cx)(E:QQX):Cx:={X with xe:=E}
abbrev Cx.nY(X:Cx):Cx:=X.nu λ_ _=>False
def Cx.Ok.nu{X:Cx}(ok:X.Ok)(E:QQX):(X.nu E).Ok:=
 ⟨ok.mod,ok.kind,ok.glob,ok.blt,ok.above,ok.inj,ok.has,ok.nR,ok.hd,ok.frames,ok.om,ok.oK,ok.bs,ok.nI,ok.nz,ok.nH,ok.mY,ok.nP⟩
def Cx.Ok.mO{X:Cx}{E:QQX}(ok:(X.nu E).Ok):X.Ok:=
 ⟨ok.mod,ok.kind,ok.glob,ok.blt,ok.above,ok.inj,ok.has,ok.nR,ok.hd,ok.frames,ok.om,ok.oK,ok.bs,ok.nI,ok.nz,ok.nH,ok.mY,ok.nP⟩
section
variable {Y:St}{E:QQX}
def Inv.nu(I:Inv X W5 Y H s)(E:QQX):Inv (X.nu E) W5 Y H s:=⟨I.ok.nu E,I.os,I.bare,I.base,I.loc,I.cell,I.free,I.mJ,I.pin,I.mD,I.len⟩
def Inv.mO(I:Inv (X.nu E) W5 Y H s):Inv X W5 Y H s:=⟨I.ok.mO,I.os,I.bare,I.base,I.loc,I.cell,I.free,I.mJ,I.pin,I.mD,I.len⟩
def SP.mO{D:EK}(h:SP (X.nu E) W5 D f s'):SP X W5 D f s':=by
 cases f with
 | next=>obtain⟨σ',H',I,q⟩:=h;exact⟨σ',H',I.mO,q⟩
 | brk=>obtain⟨σ',H',I,q⟩:=h;exact⟨σ',H',I.mO,q⟩
 | cont=>obtain⟨σ',H',I,q⟩:=h;exact⟨σ',H',I.mO,q⟩
 | ret u=>obtain⟨v,σ',H',I,r,q⟩:=h;exact⟨v,σ',H',I.mO,r,q⟩
def Bx.nY{st:T0 xz}(h:Bx X.nY st t):Bx X st t:=λW5 s Y H D I hw=>d6 (h W5 s Y H D (I.nu _) hw) (λ_ _ q=>q.mO) λ_ _ z=>False.elim z
end
variable {st:xz}{u:TS}{te:TE}
section
variable {rest:T0 xz}{t:TS}{e:Tl}
def Tx:TS:=λD Y H=>D.nx Y H
def Wc(t u:TS):TS:=λD Y H=>t {D with nx:=u D} Y H
def OP:Bx X [] Tx:=λ_ _ Y H _ I h=>gU ⟨Y,H,I,h⟩
def L1(h1:PS X st t)(h2:Bx X rest u):Bx X (st::rest) (Wc t u):=by
 intro W5 s Y H D I h;refine jt (rY (h1 W5 s Y H {D with nx:=u D} I h) λf s1 q=>?_);cases f with
 | next=>obtain⟨σ',H',I',q⟩:=q;exact h2 W5 s1 σ' H' D I' q
 | ret v=>exact q
 | brk=>exact q
 | cont=>exact q
def Iv(h1:PS X st t):Bx X [st] t:=by
 intro W5 s Y H D I h;refine jt (rY (h1 W5 s Y H D I h) λf s1 q=>?_);cases f with
 | next=>exact gU q
 | ret v=>exact q
 | brk=>exact q
 | cont=>exact q
def Inv.quiet{W5:QQY}(I:Inv X W5 Y H s):interactive X.env=pc:=by simp[interactive,I.ok.kind]
def Vc(te:TE):TS:=λD Y H=>te Y H λ_ H1=>D.nx Y H1
def OC(he:PE X e te)(hs:wv e Fa pos.line X.env=pure pc:=by rfl):PS X (.Expr e pos) (Vc te):=by intro W5 s Y H D I h;exact wpAny_Expr_any (rY (he W5 s Y H _ I h) λv s1 zz=>x5 zz λx H1 I1 r1 q1=>⟨Y,H1,I1,q1⟩) I.quiet hs
def V4(te:TE):TS:=λD Y H=>te Y H D.rt
def RJ(he:PE X e te):PS X (.Return (ga e) pos) (V4 te):=by intro W5 s Y H D I h;exact wpAny_Return_some (rY (he W5 s Y H _ I h) λv s1 zz=>x5 zz λx H1 I1 r1 q1=>⟨x,Y,H1,I1,r1,q1⟩)
def VD(c:TT)(t u:TS):TS:=λD Y H=>c Y H λb H1=>if b=Db then t D Y H1 else u D Y H1
def U6(hc:PT X c tc)(ha:Bx X a t)(hb:Bx X b u):PS X (.If c a b pos) (VD tc t u):=by
 intro W5 s Y H D I h;refine wpAny_If (rY (hc W5 s Y H _ I h) λd s1 ⟨H1,I1,q1⟩=>?_);cases d with
 | true=>exact ha W5 s1 Y H1 D I1 q1
 | false=>exact hb W5 s1 Y H1 D I1 q1
def Rl:TS:=λ_ _ _=>False
def My:PS X st Rl:=λ_ _ _ _ _ _ h=>h.elim
end
abbrev TG:=V->St->Hp->(St->Hp->Prop)->Prop
abbrev Qn:=T0 V->St->Hp->(St->Hp->Prop)->Prop
def PG(X:Cx)(Xw:Tl)(t:TG):Prop:=
 ∀(W5:QQY) (s:Sd) (Y:St) (H:Hp) (v:V) (u:Vl) (Q:St->Hp->Prop),Inv X W5 Y H s->qz v u->t v Y H Q->
  Ch (pi X.prog X.w) X.A (assign Xw X.env u) (λ_ s'=>∃σ' H',Inv X W5 σ' H' s'/\Q σ' H') X.xe s
def NT(X:Cx)(ts:T0 Tl)(t:Qn):Prop:=
 ∀(W5:QQY) (s:Sd) (Y:St) (H:Hp) (vs:T0 V) (us:T0 Vl) (Q:St->Hp->Prop),Inv X W5 Y H s->qo vs us->t vs Y H Q->
  Ch (pi X.prog X.w) X.A (assignInOrder ((xL ts X.env).map (·.2)) us) (λ_ s'=>∃σ' H',Inv X W5 σ' H' s'/\Q σ' H') X.xe s
abbrev Ra:=V->V->V->Hp->(Hp->Prop)->Prop
def TX(X:Cx)(t:Ra):Prop:=
 ∀(W5:QQY) (s:Sd) (Y:St) (H:Hp) (o i v:V) (ov iv u:Vl) (Q:Hp->Prop),Inv X W5 Y H s->qz o ov->qz i iv->qz v u->t o i v H Q->
  Ch (pi X.prog X.w) X.A (setItem ov iv u) (λ_ s'=>∃H',Inv X W5 Y H' s'/\Q H') X.xe s
def LR(i:Nat):TG:=λv Y H Q=>Q (Y.set i (ga v)) H
def OU{i:Nat}{x:Str}(hN:X.N.Nodup)(hi:X.N[i]?=ga x)(hx:KO X.env.scope x)(hf:KP X x:=by first|exact .inl Z'|exact .inr Z'|assumption):PG X (.Name x pos) (LR i):=by intro W5 s Y H v u Q I r h;exact kP (BB I hN hi hx r (λs' I'=>⟨_,H,I',h⟩) hf)
def Wm:Qn:=λvs Y H Q=>vs=[]/\Q Y H
def Ud(t:TG)(u:Qn):Qn:=λvs Y H Q=>∃v r,vs=v::r/\t v Y H λσ' H'=>u r σ' H' Q
def OW:NT X [] Wm:=by intro W5 s Y H vs us Q I r h;obtain⟨e,h⟩:=h;subst e;cases r;exact assignInOrder_nil ⟨Y,H,I,h⟩
def MR{u:Qn}(h1:PG X e t)(h2:NT X es u) (hs:(xL (e::es) X.env).map (·.2)=assign e X.env::(xL es X.env).map (·.2):=by rfl):NT X (e::es) (Ud t u):=by
 intro W5 s Y H vs us Q I r h;obtain⟨v,vr,e1,h⟩:=h;subst e1;cases r with
 | cons r rr=>rw[hs];refine assignInOrder_cons (rY (h1 W5 s Y H _ _ _ I r h) λ_ s1 ⟨σ1,H1,I1,q1⟩=>?_);exact h2 W5 s1 σ1 H1 _ _ Q I1 rr q1
def V5(K:qk)(n:Nat)(t:Qn):TG:=λv Y H Q=>∃a xs,v=.ref a/\vk K H a xs/\xs.length=n/\t xs Y H Q
def Rv{n:Nat}(hc:X.calm=Db)(h:NT X es t) (hn:(xL es X.env).length=n:=by rfl) (Xr:(xL es X.env).findIdx? (·.1)=Fa:=by rfl):PG X (.Tuple es k pos) (V5 X.K n t):=by
 intro W5 s Y H v u Q I r hw;obtain⟨a,xs,e1,hq,hl,hw⟩:=hw;subst e1;cases r;obtain⟨its,rv,ht,hz⟩:=I.tuple hq;refine assign_Tuple_tuple (I.ok.hd hc) ht (by simp[hn,<-hl,rv.length]) Xr λh' hx=>?_;have I1:Inv X W5 Y H {s with heap:=h'}:=I.kept (t':=s.toks) λb o e=>hx b o (dO (dA e)) e;exact h W5 _ Y H xs _ Q I1 (by simpa using rv) hw
def Vr(to ti:TE)(t:Ra):TG:=λv Y H Q=>to Y H λo H1=>ti Y H1 λi H2=>t o i v H2 λH3=>Q Y H3
def RT(ho:PE X o to)(hi:PE X i ti)(hs:TX X t) (ha:∀v,assign (.Subscript o i pos) X.env v=(do
   let ov<-Ix [v] (No o X.env);let iv<-Ix [v,ov] (No i X.env)
   u8 pos
   Ix [v,ov,iv] (setItem ov iv v)
   release [v,ov,iv] []):=by intro _;rfl):PG X (.Subscript o i pos) (Vr to ti t):=by
 intro W5 s Y H v u Q I r h;rw[ha];refine cS (eW (rY (ho W5 s Y H _ I h) λov s1 zz=>x5 zz λx H1 I1 r1 q1=>?_));refine cS (eW (rY (hi W5 s1 Y H1 _ I1 q1) λiv s2 zz=>x5 zz λy H2 I2 r2 q2=>?_));refine cS (ie (cS (eW (rY (hs W5 s2 Y H2 x y v ov iv u _ I2 r1 r2 r q2) λ_ s3 ⟨H3,I3,q3⟩=>?_))));exact wpAny_release ⟨Y,H3,I3,q3⟩
def Rr(te:TE)(g:TG):TS:=λD Y H=>te Y H λx H1=>g x Y H1 D.nx
def RH(he:PE X e te)(hg:PG X tg g)(hs:swapsWithSole [tg] e pos.line X.env=pure pc:=by rfl)(hw:swappedStores [tg] e X.env=pure Fa:=by rfl)
  (h1:(xL [tg] X.env).map (·.2)=[assign tg X.env]:=by rfl):PS X (.Assign [tg] e pos) (Rr te g):=by
 intro W5 s Y H D I h;refine wpAny_Assign_stores (rY (he W5 s Y H _ I h) λv s1 zz=>x5 zz λx H1 I1 r1 q1=>?_) hs hw;rw[h1];exact rY (hg W5 s1 Y H1 x v _ I1 r1 q1) λ_ s2 q=>q
def RQ{i:Nat}{x:Str}(hN:X.N.Nodup)(hi:X.N[i]?=ga x)(hx:KO X.env.scope x)(he:PE X e te)(hs:wv e (ga (.Name x Xd)) pos.line X.env=pure pc:=by rfl)(hf:KP X x:=by first|exact .inl Z'|exact .inr Z'|assumption):
  PS X (.Assign [.Name x Xd] e pos) (Rr te (LR i)):=by
 intro W5 s Y H D I h;refine kQ (rY (he W5 s Y H _ I h) λv s1 zz=>x5 zz λy H1 I1 r1 q1=>?_) hs;exact BB I1 hN hi hx r1 (λs2 I2=>⟨_,H1,I2,q1⟩) hf
def RU(c:TT)(tb:TS):TS:=λD Y H=>∃W:Nat->St->Hp->Prop,(∃m,W m Y H)/\∀m Y H,W m Y H->
 c Y H λb H1=>if b=Db then ∃N:St->Hp->Prop,(∀σ' H',N σ' H'->∃m',m'<m/\W m' σ' H')/\tb {D with nx:=N,ct:=N,bk:=D.nx} Y H1 else D.nx Y H1
def L4{tb:TS}(hp:PassesOwn (pi X.prog X.w) X.A X.env X.xe)(hc:PT X c tc)(hb:Bx X body tb):PS X (.While c body [] pos) (RU tc tb):=by
 intro W5 s Y H D I h;obtain⟨W,⟨m0,w0⟩,turn⟩:=h;refine wpAny_While (codeAny_whileLoop (λn s'=>∃σ' H',Inv X W5 σ' H' s'/\W n σ' H') ?_ m0 ⟨Y,H,I,w0⟩)
 rintro n s1 ⟨σ1,H1,I1,w1⟩
 refine gz hp (rY (hc W5 s1 σ1 H1 _ I1 (turn n σ1 H1 w1)) λb s2 ⟨H2,I2,q2⟩=>?_);cases b with
 | true=>
  obtain⟨N,hN,q2⟩:=q2;rw[cX Z'];refine gz hp (rY (hb W5 s2 σ1 H2 _ I2 q2) λf s3 q3=>?_);cases f with
  | next=>obtain⟨σ3,H3,I3,n3⟩:=q3;obtain⟨m',hm,w3⟩:=hN σ3 H3 n3;exact⟨m',hm,σ3,H3,I3,w3⟩
  | cont=>obtain⟨σ3,H3,I3,n3⟩:=q3;obtain⟨m',hm,w3⟩:=hN σ3 H3 n3;exact⟨m',hm,σ3,H3,I3,w3⟩
  | brk=>exact q3
  | ret v=>exact q3
 | false=>rw[cW dv];exact gU ⟨σ1,H2,I2,q2⟩
structure It where
 go:Nat->Hp->Prop
 oq:Nat->Hp->V->Hp->Prop
 stop:Nat->Hp->Prop
def zC(X:Cx)(W5:QQY)(H:Hp)(b:lf):Prop:=
 H b=Fa/\b≠X.env.locals/\b∉X.fs/\(b∈X.ex\/X.s₀.heap.objs.size<=b)/\(∀x c,X.env.cells.lookup x=ga c->c≠b)/\∀p∈X.pn++W5,p.1≠b
def Inv.nG{W5:QQY}{H H':Hp}{b:lf}(I:Inv X W5 Y H s)(hb:s.heap.objs.size<=b)(hn:H' b=Fa):zC X W5 H' b:=by
 refine⟨hn,hJ (dJ I.lt hb),I.oz hb,.inr (dS I.sz hb),λx c e z=>?_,λp hp z=>?_⟩
 .obtain⟨v,q⟩:=I.cell x c e;exact absurd (dJ q.lt (by rw[z];exact hb)) (eO _)
 .exact absurd (dJ (dA (I.pin p hp).1) (by rw[z];exact hb)) (eO _)
structure Gm(P:Pg)(w:Wo)(K:qk)(tg:Tl)(J:It)(fp:QXQ)(it:lf)(tn:Nat->Go->Prop):Prop where
 mem:it∈fp
 obj:∀i h,tn i h->∀b∈fp,∃o,h.get? b=ga o/\∀v,o.data≠.cell v
 keep:∀i h h',tn i h->(∀b∈fp,∀o,h.get? b=ga o->h'.get? b=ga o)->tn i h'
 item:∀(X:Cx),X.prog=P->X.w=w->X.K=K->X.calm=Db->∀(i:Nat) (W5:QQY) (s:Sd) (Y:St) (H:Hp) (E:QQX),Inv X W5 Y H s->(∀b∈fp,zC X W5 H b)->tn i s.heap->J.go i H->
  Ch (pi P w) X.A (pyNext (.ref it)) (λr s1=>∃u,r=ga u/\
   Ch (pi P w) X.A (XXa tg (.ref it) u) (λ_ s2=>∃x H',Inv X W5 Y H' s2/\qz x u/\J.oq i H x H'/\tn (i+1) s2.heap/\∀b∈fp,H' b=Fa) E s1) E s
 done:∀(X:Cx),X.prog=P->X.w=w->X.K=K->X.calm=Db->∀(i:Nat) (W5:QQY) (s:Sd) (Y:St) (H:Hp) (E:QQX),Inv X W5 Y H s->(∀b∈fp,zC X W5 H b)->tn i s.heap->J.stop i H->
  Ch (pi P w) X.A (pyNext (.ref it)) (λr s1=>r=Fa/\Inv X W5 Y H s1) E s
 self:∀(A:Ar) (i:Nat) (s:Sd) (Q:QQX) (E:QQX),tn i s.heap->Q (.ref it) s->Ch (pi P w) A (pyIter (.ref it)) Q E s
abbrev TI:=St->Hp->(It->Hp->Prop)->Prop
def V7(X:Cx)(W5:QQY)(Y:St)(tg:Tl)(R:It->Hp->Prop)(itv:Vl)(s2:Sd):Prop:=
 ∃(it:lf) (fp:QXQ) (tn:Nat->Go->Prop) (J:It) (H':Hp),itv=.ref it/\Inv X W5 Y H' s2/\Gm X.prog X.w X.K tg J fp it tn/\tn 0 s2.heap/\(∀b∈fp,zC X W5 H' b)/\R J H'
def PI(X:Cx)(tg iter:Tl)(wi:TI):Prop:=
 ∀(W5:QQY) (s:Sd) (Y:St) (H:Hp) (R:It->Hp->Prop),Inv X W5 Y H s->wi Y H R->
  Ch (pi X.prog X.w) X.A (No iter X.env) (λv s1=>Ch (pi X.prog X.w) X.A (pyIter v) (V7 X W5 Y tg R) X.xe s1) X.xe s
def IR{M:Model}{A:Ar}{E:QQX}{s:Sd}{tg:Tl}{it:lf}{u:Vl}{o:Obj}{n:String}{vs:Array Vl}{Q:Unit->Sd->Prop}(ho:s.heap.get? it=ga o)(hc:o.cls=.type n)(hd:o.data=.fields vs) (hn:["enumerate","zip","dict_itemiterator","dict_reverseitemiterator","odict_iterator","itertools.zip_longest","itertools.pairwise"].contains n=pc) (hQ:Q () s):Ch M A (XXa tg (.ref it) u) Q E s:=by
  unfold XXa;cases tg<;>first
    | exact df hQ
    | (cases u<;>first
        | exact df hQ
        | (refine cS (wpAny_load ho ?_)
           rw[hc,hd];show Ch M A (if (["enumerate","zip","dict_itemiterator","dict_reverseitemiterator","odict_iterator","itertools.zip_longest","itertools.pairwise"].contains n&&vs[0]?==ga (o0 _))=Db then _ else _) Q E s;rw[cW (by intro h;rw[hn,eM]at h;cases h)];exact df hQ))
noncomputable def Vm(K:qk)(a:lf):It:=
 ⟨λi H=>∃xs x,xk K H a xs/\xs[i]?=ga x,λi H x H'=>H'=H/\∀xs,xk K H a xs->xs[i]?=ga x,λi H=>∃xs,xk K H a xs/\xs.length<=i⟩
noncomputable def VU(K:qk)(a:lf):It:=
 ⟨λi H=>∃xs x,vk K H a xs/\xs[i]?=ga x,λi H x H'=>H'=H/\∀xs,vk K H a xs->xs[i]?=ga x,λi H=>∃xs,vk K H a xs/\xs.length<=i⟩
noncomputable def Ua(lo:Int)(n:Nat):It:=⟨λi _=>i<n,λi H x H'=>H'=H/\x=.int (lo+i),λi _=>n<=i⟩
def JZ{K:qk}(a it:lf):Gm P w K tg (Vm K a) [it] it (λi h=>h.IsListIter it a i) where
 mem:=by simp
 obj:=λi h st b hb=>by
  have e:b=it:=by simpa using hb
  subst e;obtain⟨o,e,c,d⟩:=st;exact⟨o,e,λv z=>by rw[d]at z;cases z⟩
 keep:=λi h h' st k=>st.at λo e=>k it (by simp) o e
 item:=by intro X hP hw hK hc i W5 s Y H E I hf st hg;subst hP hw hK;obtain⟨xs,x,hq,hx⟩:=hg;obtain⟨its,rv,p,hz⟩:=I.list hq;obtain⟨u,hu,ru⟩:=rv.get hx;obtain⟨f0,f1,f2,f3,f4,f5⟩:=hf it (by simp);refine wpAny_pyNext_list_item st p.isList (x:=u) (by simpa using hu) λh' Yt sb=>?_;have I1:Inv X W5 Y H {s with heap:=h'}:=I.turned (t':=s.toks) (λb o hb e=>(sb.2 b hb).trans e) f0 f1 f3 f4 f5;obtain⟨o,e,c,d⟩:=id Yt;exact⟨u,Z',IR (s:={s with heap:=h'}) e c d (by decide) ⟨x,H,I1,ru,⟨Z',λys hy=>by rw[I.nk hy hq];exact hx⟩,Yt,λb hb=>(hf b hb).1⟩⟩
 done:=by intro X hP hw hK hc i W5 s Y H E I hf st hg;subst hP hw hK;obtain⟨xs,hq,hx⟩:=hg;obtain⟨its,rv,p,hz⟩:=I.list hq;obtain⟨f0,f1,f2,f3,f4,f5⟩:=hf it (by simp);have hl:=rv.length;exact wpAny_pyNext_list_end (I.ok.hd hc) st p.isList (by simp;lia) λh' eb=>⟨Z',I.turned (t':=s.toks) (λb o hb e=>eb b o hb e) f0 f1 f3 f4 f5⟩
 self:=λ_ _ _ _ _ st h=>wpAny_pyIter_listiter st h
def Hw{K:qk}(a it:lf):Gm P w K tg (VU K a) [it] it (λi h=>h.IsTupleIter it a i) where
 mem:=by simp
 obj:=λi h st b hb=>by
  have e:b=it:=by simpa using hb
  subst e;obtain⟨o,e,c,d⟩:=st;exact⟨o,e,λv z=>by rw[d]at z;cases z⟩
 keep:=λi h h' st k=>st.at λo e=>k it (by simp) o e
 item:=by intro X hP hw hK hc i W5 s Y H E I hf st hg;subst hP hw hK;obtain⟨xs,x,hq,hx⟩:=hg;obtain⟨its,rv,p,hz⟩:=I.tuple hq;obtain⟨u,hu,ru⟩:=rv.get hx;obtain⟨f0,f1,f2,f3,f4,f5⟩:=hf it (by simp);refine wpAny_pyNext_tuple_item st (show s.heap.IsTuple a its.toArray from p) (x:=u) (by simpa using hu) λh' Yt sb=>?_;have I1:Inv X W5 Y H {s with heap:=h'}:=I.turned (t':=s.toks) (λb o hb e=>(sb.2 b hb).trans e) f0 f1 f3 f4 f5;obtain⟨o,e,c,d⟩:=id Yt;exact⟨u,Z',IR (s:={s with heap:=h'}) e c d (by decide) ⟨x,H,I1,ru,⟨Z',λys hy=>by rw[I.mU hy hq];exact hx⟩,Yt,λb hb=>(hf b hb).1⟩⟩
 done:=by intro X hP hw hK hc i W5 s Y H E I hf st hg;subst hP hw hK;obtain⟨xs,hq,hx⟩:=hg;obtain⟨its,rv,p,hz⟩:=I.tuple hq;obtain⟨f0,f1,f2,f3,f4,f5⟩:=hf it (by simp);have hl:=rv.length;exact wpAny_pyNext_tuple_end (I.ok.hd hc) st (show s.heap.IsTuple a its.toArray from p) (by simp;lia) λh' eb=>⟨Z',I.turned (t':=s.toks) (λb o hb e=>eb b o hb e) f0 f1 f3 f4 f5⟩
 self:=λ_ _ _ _ _ st h=>wpAny_pyIter_tupleiter st h
def Hb{K:qk}(it:lf)(lo:Int)(n:Nat):Gm P w K tg (Ua lo n) [it] it (λi h=>IsRangeIter h it (lo+(i:Nat)*1) ((n:Int) - (i:Nat)) 1) where
 mem:=by simp
 obj:=λi h st b hb=>by
  have e:b=it:=by simpa using hb
  subst e;exact⟨_,st,λv z=>by
   have z':Data.fields _=Data.cell v:=z;cases z'⟩
 keep:=λi h h' st k=>k it (by simp) _ st
 item:=by intro X hP hw hK hc i W5 s Y H E I hf st hg;subst hP hw hK;obtain⟨f0,f1,f2,f3,f4,f5⟩:=hf it (by simp);have W:=Walks.range (prog:=X.prog) (w:=X.w) (I.ok.hd hc) it lo 1 n;refine W.item i s _ _ hg st λv h' tk hv Yt kk=>?_;obtain⟨t,rfl⟩:=hv;have I1:Inv X W5 Y H {s with heap:=h',toks:=tk}:=I.turned (λb o hb e=>kk b o (by simpa using hb) e) f0 f1 f3 f4 f5;refine⟨_,Z',IR (s:={s with heap:=h',toks:=tk}) (n:="range_iterator") Yt Z' Z' (by decide) ⟨.int (lo+i),H,I1,⟨t,?_⟩,⟨Z',Z'⟩,Yt,λb hb=>(hf b hb).1⟩⟩;rw[Int.mul_one]
 done:=by intro X hP hw hK hc i W5 s Y H E I hf st hg;subst hP hw hK;obtain⟨f0,f1,f2,f3,f4,f5⟩:=hf it (by simp);exact wpAny_pyNext_range_end (I.ok.hd hc) st (by have:n<=i:=hg;lia) λh' eb=>⟨Z',I.turned (t':=s.toks) (λb o hb e=>eb b o hb e) f0 f1 f3 f4 f5⟩
 self:=λ_ _ _ _ _ st h=>wpAny_pyIter_rangeiter st h
variable {tg:Tl}
def GB{W5:QQY}{R:It->Hp->Prop}{E:QQX}{lo hi:Int}{t u v:Tok}{tk:Nat}(I:Inv X W5 Y H s)(h1:-(2 ^ 62)<=lo)(h2:lo<2 ^ 62)(h3:-(2 ^ 62)<=hi)(h4:hi<2 ^ 62) (q:R (Ua lo (hi - lo).toNat) H):Ch (pi X.prog X.w) X.A (pyIter (.ref s.heap.objs.size)) (V7 X W5 Y tg R) E {s with heap:=s.heap.push {cls:=.type "range",data:=.fields #[.int lo t,.int hi u,.int 1 v]},toks:=tk}:=by
 refine wpAny_pyIter_range (IsRange.new ..) (small_one h1 h2 h3 h4) ?_;have I1:Inv X W5 Y H {s with heap:=s.heap.push {cls:=.type "range",data:=.fields #[.int lo t,.int hi u,.int 1 v]},toks:=tk}:=I.kept λb o e=>cY _ e;refine⟨(s.heap.push {cls:=.type "range",data:=.fields #[.int lo t,.int hi u,.int 1 v]}).objs.size,[(s.heap.push {cls:=.type "range",data:=.fields #[.int lo t,.int hi u,.int 1 v]}).objs.size],_,_,H,Z',I1.kept (t':=tk) λb o e=>cY _ e,Hb _ lo (hi - lo).toNat,?_,λb hb=>?_,q⟩
 .have e1:lo+((0:Nat):Int)*1=lo:=by simp
  have e2:(((hi - lo).toNat:Nat):Int) - ((0:Nat):Int)=Builtin.Range.rangeSize lo hi 1:=by rw[rangeSize_one];split<;>lia
  show IsRangeIter _ _ (lo+((0:Nat):Int)*1) ((((hi - lo).toNat:Nat):Int) - ((0:Nat):Int)) 1;rw[e1,e2];exact dG _ Z'
 .have e:b=(s.heap.push {cls:=.type "range",data:=.fields #[.int lo t,.int hi u,.int 1 v]}).objs.size:=by simpa using hb
  subst e;exact I1.nG (cZ _) (I1.mD.fresh (cZ _))
def U0(ta:TA):TI:=λY H R=>ta Y H λvs H1=>∃j:Int,vs=[.int j]/\-(2 ^ 62)<=j/\j<2 ^ 62/\R (Ua 0 j.toNat) H1
def Tw(ta:TA):TI:=λY H R=>ta Y H λvs H1=>∃i j:Int,vs=[.int i,.int j]/\(-(2 ^ 62)<=i/\i<2 ^ 62/\-(2 ^ 62)<=j/\j<2 ^ 62)/\R (Ua i (j - i).toNat) H1
def Ki{a:Tl}{ta:TA}(hg:Gl X "range")(hm:X.mg "range"=Fa)(ha:PA X [a] ta)(hs:Tk [a] X.env=[(pc,No a X.env)]:=by rfl):PI X tg (.Call (.Name "range" p) [a] [] pos) (U0 ta):=by
 intro W5 s Y H R I h;refine Call_ (wK I hg hm boot_range (fj (rY (ha pos W5 s Y H _ I h) λus s1 zz=>x5 zz λvs H1 I1 r1 q1=>?_) hs Z'));obtain⟨j,e,q1,q2,q⟩:=q1;subst e;cases r1 with
 | cons r rr=>cases rr;obtain⟨t,rfl⟩:=r;exact call_range_1 (GB I1 (by lia) (by lia) q1 q2 (by simpa using q))
def Kr{a b:Tl}{ta:TA}{p pos:Pos}(hg:Gl X "range")(hm:X.mg "range"=Fa)(ha:PA X [a,b] ta)(hs:Tk [a,b] X.env=[(pc,No a X.env),(pc,No b X.env)]:=by rfl)(XM:Tk [b] X.env=[(pc,No b X.env)]:=by rfl):
  PI X tg (.Call (.Name "range" p) [a,b] [] pos) (Tw ta):=by
 intro W5 s Y H R I h;refine Call_ (wK I hg hm boot_range (fj (rY (ha pos W5 s Y H _ I h) λus s1 zz=>x5 zz λvs H1 I1 r1 q1=>?_) (by rw[hs,XM]) (by rw[XM];rfl)));obtain⟨i,j,e,⟨q1,q2,q3,q4⟩,q⟩:=q1;subst e;cases r1 with
 | cons r rr=>
  cases rr with
  | cons r' rr=>cases rr;obtain⟨t,rfl⟩:=r;obtain⟨t',rfl⟩:=r';exact call_range_2 (GB I1 q1 q2 q3 q4 q)
def Vy(wi:TI)(g:TG)(tb:TS):TS:=λD Y H=>wi Y H λJ H1=>∃W:Nat->Nat->St->Hp->Prop,(∃m,W 0 m Y H1)/\∀i m Y H,W i m Y H->
 (J.stop i H/\D.nx Y H)\/(J.go i H/\∃N:St->Hp->Prop,(∀σ' H',N σ' H'->∃m',m'<m/\W (i+1) m' σ' H')/\∀x H',J.oq i H x H'->g x Y H' λσ2 H2=>tb {D with nx:=N,ct:=N,bk:=D.nx} σ2 H2)
noncomputable def B6(fp:QXQ)(h:Go):QQY:=fp.filterMap λb=>(h.get? b).map λo=>(b,o)
def vh{fp:QXQ}{h:Go}{b:lf}{o:Obj}(hb:b∈fp)(e:h.get? b=ga o):(b,o)∈B6 fp h:=kD.mpr ⟨b,hb,by rw[e];rfl⟩
def Ke{p:lf×Obj}(hp:p∈B6 fp h):p.1∈fp/\h.get? p.1=ga p.2:=by
 obtain⟨b,hb,e⟩:=kD.mp hp;cases q:h.get? b with
 | none=>rw[q]at e;cases e
 | some o=>rw[q]at e;have e':(b,o)=p:=de e;subst e';exact⟨hb,q⟩
def Inv.pinned{W5:QQY}{fp:QXQ}(I:Inv X W5 Y H s)(hf:∀b∈fp,zC X W5 H b)(ho:∀b∈fp,∃o,s.heap.get? b=ga o/\∀v,o.data≠.cell v):Inv X (W5++B6 fp s.heap) Y H s:=
 I.nv λp hp=>(dM.mp hp).elim (λz=>I.pin p (eA _ z)) λz=>by obtain⟨hb,e⟩:=Ke z;obtain⟨f0,f1,f2,_⟩:=hf p.1 hb;obtain⟨o,e',d⟩:=ho p.1 hb;rw[e]at e';cases e';exact⟨e,f0,f1,f2,d⟩
def Inv.mI{W5 pl:QQY}(I:Inv X (W5++pl) Y H s):Inv X W5 Y H s:=I.nv λp hp=>I.pin p (eA _ (fm _ hp))
def Rm{tb:TS}(hp:PassesOwn (pi X.prog X.w) X.A X.env X.xe)(hc:X.calm=Db)(hi:PI X tg iter wi)(hg:PG X tg g)(hb:Bx X body tb) (hs:∀x,AT iter X.env x=pure x:=by intro _;rfl):PS X (.For tg iter body [] pos) (Vy wi g tb):=by
 intro W5 s Y H D I h;refine wpAny_For (rY (hi W5 s Y H _ I h) λv s1 h1=>rY h1 λitv s2 h2=>?_) hs;obtain⟨it,fp,tn,J,H2,e,I2,T,Xs,f2,W,⟨m0,w0⟩,turn⟩:=h2;subst e;have Ym:∀{H':Hp},(∀b∈fp,H' b=Fa)->∀b∈fp,zC X W5 H' b:=λhn b hb=>⟨hn b hb,(f2 b hb).2⟩;refine codeAny_forLoop_any (λn s'=>∃i σ' H',Inv X W5 σ' H' s'/\tn i s'.heap/\(∀b∈fp,H' b=Fa)/\W i n σ' H') ?_ m0 ⟨0,Y,H2,I2,Xs,λb hb=>(f2 b hb).1,w0⟩
 rintro n s3 ⟨i,σ3,H3,I3,XF,fr3,w3⟩
 rcases turn i n σ3 H3 w3 with⟨stop,qn⟩|⟨go,N,hN,step⟩
 .refine gz hp (rY (T.done X Z' Z' Z' hc i W5 s3 σ3 H3 X.xe I3 (Ym fr3) XF stop) λr s4 ⟨hr,I4⟩=>?_);subst hr;exact gU ⟨σ3,H3,I4,qn⟩
 .refine gz hp (rY (T.item X Z' Z' Z' hc i W5 s3 σ3 H3 X.xe I3 (Ym fr3) XF go) λr s4 ⟨u,hr,h4⟩=>?_);subst hr;refine gz hp (rY h4 λ_ s5 zz=>?_);obtain⟨x,H5,I5,r5,y5,Zs,fr5⟩:=zz;have I5':=I5.pinned (Ym fr5) (T.obj _ _ Zs);refine gz hp (rY (hg _ s5 σ3 H5 x u _ I5' r5 (step x H5 y5)) λ_ s6 ⟨σ6,H6,I6,q6⟩=>?_);refine gz hp (rY (hb _ s6 σ6 H6 _ I6 q6) λf s7 q7=>?_);have again:∀{σ7:St} {H7:Hp},Inv X (W5++B6 fp s5.heap) σ7 H7 s7->N σ7 H7->∃m,m<n/\∃i σ' H',Inv X W5 σ' H' s7/\tn i s7.heap/\(∀b∈fp,H' b=Fa)/\W i m σ' H':=λ{σ7 H7} I7 n7=>by obtain⟨m',hm,w7⟩:=hN σ7 H7 n7;refine⟨m',hm,i+1,σ7,H7,I7.mI,T.keep _ _ _ Zs λb hb o e=>(I7.pin (b,o) (eA _ (eA _ (vh hb e)))).1,λb hb=>?_,w7⟩;obtain⟨o,e,d⟩:=T.obj _ _ Zs b hb;exact(I7.pin (b,o) (eA _ (eA _ (vh hb e)))).2.1
  cases f with
  | next=>obtain⟨σ7,H7,I7,n7⟩:=q7;exact again I7 n7
  | cont=>obtain⟨σ7,H7,I7,n7⟩:=q7;exact again I7 n7
  | brk=>obtain⟨σ7,H7,I7,q7⟩:=q7;exact⟨σ7,H7,I7.mI,q7⟩
  | ret v=>obtain⟨x7,σ7,H7,I7,r7,q7⟩:=q7;exact⟨x7,σ7,H7,I7.mI,r7,q7⟩
abbrev R2:=V->V->Hp->VK->Prop
def xq(X:Cx)(f:Vl->Vl->Sem Vl)(r:R2):Prop:=
 ∀(W5:QQY) (s:Sd) (Y:St) (H:Hp) (x y:V) (v u:Vl) (Q:VK),Inv X W5 Y H s->qz x v->qz y u->r x y H Q->
  Ch (pi X.prog X.w) X.A (f v u) (EP X W5 Y Q) X.xe s
def Vq(X:Cx)(f:Vl->Sem Vl)(r:V->Hp->VK->Prop):Prop:=
 ∀(W5:QQY) (s:Sd) (Y:St) (H:Hp) (x:V) (v:Vl) (Q:VK),Inv X W5 Y H s->qz x v->r x H Q->
  Ch (pi X.prog X.w) X.A (f v) (EP X W5 Y Q) X.xe s
def xp(X:Cx)(f:Vl)(r:T0 V->Hp->VK->Prop):Prop:=
 ∀(W5:QQY) (s:Sd) (Y:St) (H:Hp) (xs:T0 V) (us:T0 Vl) (Q:VK),Inv X W5 Y H s->qo xs us->r xs H Q->
  Ch (pi X.prog X.w) X.A (call f us) (EP X W5 Y Q) X.xe s
def Uc(r:R2)(ta tb:TE):TE:=λY H Q=>ta Y H λx H1=>tb Y H1 λy H2=>r x y H2 Q
def WX(r:V->Hp->VK->Prop)(ta:TE):TE:=λY H Q=>ta Y H λx H1=>r x H1 Q
def rI(C:Int->Int->Prop)(g:Int->Int->V):R2:=λx y H Q=>∃i j,x=.int i/\y=.int j/\C i j/\Q (g i j) H
def QU(g:Int->Int->V):R2:=λx y H Q=>∃i j,x=.int i/\y=.int j/\Q (g i j) H
def rU(g:Int->V):V->Hp->VK->Prop:=λx H Q=>∃i,x=.int i/\Q (g i) H
variable {tc:TE}
section
variable {a b c:Tl}
def Q3(ha:PE X a ta)(hb:PE X b tb){W5:QQY}{s:Sd}{Y:St}{H:Hp}{R:V->V->Hp->Prop}(I:Inv X W5 Y H s) (h:ta Y H λx H1=>tb Y H1 λy H2=>R x y H2) {Q:QQX} {f:Vl->Vl->Sem Vl} (hf:∀v u s2 x y H2,Inv X W5 Y H2 s2->qz x v->qz y u->R x y H2->Ch (pi X.prog X.w) X.A (f v u) Q X.xe s2):
  Ch (pi X.prog X.w) X.A (No a X.env) (λv s₁=>Ch (pi X.prog X.w) X.A (No b X.env) (λu s₂=>Ch (pi X.prog X.w) X.A (f v u) Q X.xe s₂) X.xe s₁) X.xe s:=by
 refine rY (ha W5 s Y H _ I h) λv s1 zz=>x5 zz λx H1 I1 r1 q1=>?_;refine rY (hb W5 s1 Y H1 _ I1 q1) λu s2 zz=>x5 zz λy H2 I2 r2 q2=>?_;exact hf v u s2 x y H2 I2 r1 r2 q2
def QZ{op:XXf}(ho:xq X (wP op) r)(ha:PE X a ta)(hb:PE X b tb):PE X (.BinOp a op b pos) (Uc r ta tb):=by intro W5 s Y H Q I h;exact wpAny_BinOp (Q3 ha hb I h λv u s2 x y H2 I2 rx ry q=>ho W5 s2 Y H2 x y v u Q I2 rx ry q)
def UQ{op:UnaryOp}(ho:Vq X (unaryOp op) r)(ha:PE X a ta):PE X (.UnaryOp op a pos) (WX r ta):=by intro W5 s Y H Q I h;exact UnaryOp_ (rY (ha W5 s Y H _ I h) λv s1 zz=>x5 zz λx H1 I1 r1 q1=>ho W5 s1 Y H1 x v Q I1 r1 q1)
def Vz{f:Vl->Vl->Sem Vl}{C:Int->Int->Prop}{g:Int->Int->Int} (rule:∀(i j:Int) (t u:Tok) (s:Sd) (Q:QQX) (E:QQX),C i j->Q (.int (g i j) s.toks) {s with toks:=s.toks+1}->Ch (pi X.prog X.w) X.A (f (.int i t) (.int j u)) Q E s):
  xq X f (rI C λi j=>.int (g i j)):=by
 intro W5 s Y H x y v u Q I rx ry h;obtain⟨i,j,rfl,rfl,hc,q⟩:=h;obtain⟨t,rfl⟩:=rx;obtain⟨t',rfl⟩:=ry;exact rule i j t t' s _ _ hc ⟨.int (g i j),H,I.tok _,⟨_,Z'⟩,q⟩
def Uj{f:Vl->Vl->Sem Vl}{g:Int->Int->Int} (rule:∀(i j:Int) (t u:Tok) (s:Sd) (Q:QQX) (E:QQX),Q (.int (g i j) s.toks) {s with toks:=s.toks+1}->Ch (pi X.prog X.w) X.A (f (.int i t) (.int j u)) Q E s):
  xq X f (QU λi j=>.int (g i j)):=by
 intro W5 s Y H x y v u Q I rx ry h;obtain⟨i,j,rfl,rfl,q⟩:=h;obtain⟨t,rfl⟩:=rx;obtain⟨t',rfl⟩:=ry;exact rule i j t t' s _ _ ⟨.int (g i j),H,I.tok _,⟨_,Z'⟩,q⟩
def OX{f:Vl->Vl->Sem Vl}{g:Int->Int->Bool} (rule:∀(i j:Int) (t u:Tok) (s:Sd) (Q:QQX) (E:QQX),Q (.bool (g i j)) s->Ch (pi X.prog X.w) X.A (f (.int i t) (.int j u)) Q E s):
  xq X f (QU λi j=>.bl (g i j)):=by
 intro W5 s Y H x y v u Q I rx ry h;obtain⟨i,j,rfl,rfl,q⟩:=h;obtain⟨t,rfl⟩:=rx;obtain⟨t',rfl⟩:=ry;exact rule i j t t' s _ _ ⟨.bl (g i j),H,I,Z',q⟩
def UF(i j:Int):Prop:=0<j/\j<1073741824
def CT(i j:Int):Prop:=(-(2 ^ 64)<i/\i<2 ^ 64)\/(-(2 ^ 64)<j/\j<2 ^ 64)
def CT.ok(h:CT i j):IntMulOk i j:=by
 rcases h with⟨h1,h2⟩|⟨h1,h2⟩
 .exact .of_left (intBits_le_64 h1 h2)
 .exact .of_right (intBits_le_64 h1 h2)
def Sa:xq X (wP .Add) (QU λi j=>.int (i+j)):=Uj λ_ _ _ _ _ _ _ q=>add_int q
def SU:xq X (wP .Sub) (QU λi j=>.int (i - j)):=Uj λ_ _ _ _ _ _ _ q=>sub_int q
def Tb:xq X (wP .Mult) (rI CT λi j=>.int (i*j)):=Vz λ_ _ _ _ _ _ _ hc q=>mul_int q hc.ok
def OI:xq X (wP .FloorDiv) (rI UF λi j=>.int (i / j)):=Vz λi j _ _ _ _ _ hc q=>by have h1:(0:Int)<j:=hc.1;have h2:j<1073741824:=hc.2;exact floordiv_int (by lia) (by rw[Int.fdiv_eq_ediv_of_nonneg i (by lia)];exact q) (.inl (PyProof.noPylong_small (by lia)))
def SS:xq X (wP .Mod) (rI (λ_ j=>0<j) λi j=>.int (i % j)):=Vz λi j _ _ _ _ _ hc q=>by have h1:(0:Int)<j:=hc;exact mod_int' (by lia) (by rw[Int.fmod_eq_emod_of_nonneg i (by lia)];exact q)
def WU{f:Vl->Sem Vl}{g:Int->Int} (rule:∀(i:Int) (t:Tok) (s:Sd) (Q:QQX) (E:QQX),Q (.int (g i) s.toks) {s with toks:=s.toks+1}->Ch (pi X.prog X.w) X.A (f (.int i t)) Q E s):
  Vq X f (rU λi=>.int (g i)):=by
 intro W5 s Y H x v Q I rx h;obtain⟨i,rfl,q⟩:=h;obtain⟨t,rfl⟩:=rx;exact rule i t s _ _ ⟨.int (g i),H,I.tok _,⟨_,Z'⟩,q⟩
def Rb:Vq X (unaryOp .USub) (rU λi=>.int (-i)):=WU λ_ _ _ _ _ q=>neg_int q
end
section
variable {a b c:Tl}
def Ht{W5:QQY}{Q:VK}{k k':Bool}(I:Inv X W5 Y H s)(q:Q (.bl k) H)(e:k=k'):EP X W5 Y Q (.bool k') s:=by subst e;exact⟨.bl k,H,I,Z',q⟩
def Uo:xq X (wp .Lt) (QU λi j=>.bl (decide (i<j))):=OX λ_ _ _ _ _ _ _ q=>lt_int q
def U7:xq X (wp .LtE) (QU λi j=>.bl (decide (i<=j))):=OX λ_ _ _ _ _ _ _ q=>le_int q
def Ue:xq X (wp .Gt) (QU λi j=>.bl (decide (j<i))):=OX λ_ _ _ _ _ _ _ q=>gt_int q
def UU:xq X (wp .GtE) (QU λi j=>.bl (decide (j<=i))):=OX λ_ _ _ _ _ _ _ q=>ge_int q
def KG:xq X (wp .In) (λx y H Q=>∃i j,x=.str i/\y=.str j/\Q (.bl (!(Builtin.Str.occurrences j i 0 j.length 1).isEmpty)) H):=by intro W5 s Y H x y v u Q I rx ry h;obtain⟨i,j,rfl,rfl,q⟩:=h;obtain⟨t,rfl⟩:=rx;obtain⟨t',rfl⟩:=ry;exact in_str (Ht I q Z')
def Td:xq X (wp .Is) (λx y H Q=>y=.mx/\Q (.bl (decide (x=.mx))) H):=by
 intro W5 s Y H x y v u Q I rx ry h;obtain⟨rfl,q⟩:=h;cases ry;refine is_none_gen (Ht I q ?_);cases x<;>first
  | (cases rx;rfl)
  | (obtain⟨t,rfl⟩:=rx;rfl)
def Pp:xq X (wp .IsNot) (λx y H Q=>y=.mx/\Q (.bl (!decide (x=.mx))) H):=by
 intro W5 s Y H x y v u Q I rx ry h;obtain⟨rfl,q⟩:=h;cases ry;refine isnot_none_gen (Ht I q ?_);cases x<;>first
  | (cases rx;rfl)
  | (obtain⟨t,rfl⟩:=rx;rfl)
def Ik(b:Tl){op:CmpOp}(h:op≠.In:=by decide)(h2:op≠.NotIn:=by decide):wT op b=pc:=by
 have e1:(op==CmpOp.In)=pc:=by cases op<;>first|rfl|exact absurd Z' h
 have e2:(op==CmpOp.NotIn)=pc:=by cases op<;>first|rfl|exact absurd Z' h2
 cases b<;>simp[wT,e1,e2]
def Jn{op:CmpOp}(ho:xq X (wp op) r)(ha:PE X a ta)(hb:PE X b tb)(hm:wT op b=pc):PE X (.Compare a [op] [b] pos) (Uc r ta tb):=by intro W5 s Y H Q I h;exact wpAny_Compare1 (Q3 ha hb I h λv u s2 x y H2 I2 rx ry q=>ho W5 s2 Y H2 x y v u Q I2 rx ry q) hm
def QI(t:TE):TT:=λY H Q=>t Y H λx H'=>∃k,x=.bl k/\Q k H'
def JB{op:CmpOp}(ho:xq X (wp op) r)(ha:PE X a ta)(hb:PE X b tb)(hm:wT op b=pc):PT X (.Compare a [op] [b] pos) (QI (Uc r ta tb)):=by
 intro W5 s Y H Q I h;refine wpAny_isTrue_Compare1 (rY (ha W5 s Y H _ I h) λv s1 zz=>x5 zz λx H1 I1 r1 q1=>rY (hb W5 s1 Y H1 _ I1 q1) λu s2 zz=>x5 zz λy H2 I2 r2 q2=>
  rY (ho W5 s2 Y H2 x y v u _ I2 r1 r2 q2) λc s3 zz=>?_) hm
 obtain⟨z,H3,I3,r3,k,e,q3⟩:=zz;subst e;cases r3;exact eX ⟨H3,I3,q3⟩
def LV(r r':R2)(ta tb tc:TE):TE:=λY H Q=>ta Y H λx H1=>tb Y H1 λy H2=>r x y H2 λz H3=>∃k,z=.bl k/\
 (if k=Db then tc Y H3 λw' H4=>r' y w' H4 Q else Q (.bl pc) H3)
def Nl{op X1:CmpOp}(ho:xq X (wp op) r)(XJ:xq X (wp X1) r')(ha:PE X a ta)(hb:PE X b tb)(hc:PE X c tc) (hm:lastMarks [op,X1] [b,c]=pc:=by with_unfolding_all rfl):PE X (.Compare a [op,X1] [b,c] pos) (LV r r' ta tb tc):=by
 intro W5 s Y H Q I h;refine Compare_chain (rY (ha W5 s Y H _ I h) λv s1 zz=>x5 zz λx H1 I1 r1 q1=>chain_link (rY (hb W5 s1 Y H1 _ I1 q1) λu s2 zz=>x5 zz λy H2 I2 r2 q2=>
  rY (ho W5 s2 Y H2 x y v u _ I2 r1 r2 q2) λd s3 zz=>?_)) hm
 obtain⟨z,H3,I3,r3,k,e,q3⟩:=zz;subst e;cases r3;refine eX ?_;cases k with
 | false=>exact ite_ff ⟨.bl pc,H3,I3,Z',q3⟩
 | true=>exact ite_tt (chain_last (rY (hc W5 s3 Y H3 _ I3 q3) λw' s4 zz=>x5 zz λz' H4 I4 r4 q4=>XJ W5 s4 Y H4 y z' u w' Q I4 r2 r4 q4))
def Mm{op X1:CmpOp}(ho:xq X (wp op) r)(XJ:xq X (wp X1) r')(ha:PE X a ta)(hb:PE X b tb)(hc:PE X c tc) (hm:lastMarks [op,X1] [b,c]=pc:=by with_unfolding_all rfl):PT X (.Compare a [op,X1] [b,c] pos) (QI (LV r r' ta tb tc)):=by
 intro W5 s Y H Q I h;refine isTrue_chain (rY (ha W5 s Y H _ I h) λv s1 zz=>x5 zz λx H1 I1 r1 q1=>test_link (rY (hb W5 s1 Y H1 _ I1 q1) λu s2 zz=>x5 zz λy H2 I2 r2 q2=>
  rY (ho W5 s2 Y H2 x y v u _ I2 r1 r2 q2) λd s3 zz=>?_)) hm
 obtain⟨z,H3,I3,r3,k,e,q3⟩:=zz;subst e;cases r3;refine eX ?_;cases k with
 | false=>obtain⟨k',e',q'⟩:=q3;cases e';exact ite_ff ⟨H3,I3,q'⟩
 | true=>refine ite_tt (test_last (rY (hc W5 s3 Y H3 _ I3 q3) λw' s4 zz=>x5 zz λz' H4 I4 r4 q4=>rY (XJ W5 s4 Y H4 y z' u w' _ I4 r2 r4 q4) λd' s5 zz=>?_));obtain⟨z2,H5,I5,r5,k2,e2,q5⟩:=zz;subst e2;cases r5;exact eX ⟨H5,I5,q5⟩
def yH:(Uf:Nat)<2 ^ 63:=by rw[dH];decide
def HN:xq X (wP .Add) (λx y H Q=>∃i j,x=.str i/\y=.str j/\i.length+j.length<=Uf/\Q (.str (i++j)) H):=by intro W5 s Y H x y v u Q I rx ry h;obtain⟨i,j,rfl,rfl,hz,q⟩:=h;obtain⟨t,rfl⟩:=rx;obtain⟨t',rfl⟩:=ry;exact add_str (λt' tk=>⟨.str (i++j),H,I.tok _,⟨_,Z'⟩,q⟩) hz
def vV{x:V}(r:qo [x] us):∃u,us=[u]/\qz x u:=by
 cases r with
 | cons r1 r2=>cases r2;exact⟨_,Z',r1⟩
def Mj{x y:V}(r:qo [x,y] us):∃u w',us=[u,w']/\qz x u/\qz y w':=by
 cases r with
 | cons r1 r2=>
  cases r2 with
  | cons r3 r4=>cases r4;exact⟨_,_,Z',r1,r3⟩
def Kx(hc:X.calm=Db):xp X (.builtin "min") (λxs H Q=>∃i j,xs=[.int i,.int j]/\Q (.int (if j<i then j else i)) H):=by
 intro W5 s Y H xs us Q I r h;obtain⟨i,j,rfl,q⟩:=h;obtain⟨u,w',rfl,⟨t,rfl⟩,⟨t',rfl⟩⟩:=Mj r;refine min_two_ints (I.ok.hd hc) λh' tk k=>⟨_,H,I.kept k,?_,q⟩;by_cases hj:j<i
 .rw[cX hj,cX hj];exact⟨_,Z'⟩
 .rw[cW hj,cW hj];exact⟨_,Z'⟩
def DX:xp X (.type "int") (λxs H Q=>(∃i,xs=[.int i]/\Q (.int i) H)\/∃k,xs=[.bl k]/\Q (.int (if k then 1 else 0)) H):=by
 intro W5 s Y H xs us Q I r h;rcases h with⟨i,rfl,q⟩|⟨k,rfl,q⟩
 .obtain⟨u,rfl,t,rfl⟩:=vV r;exact call_int_int ⟨.int i,H,I,⟨_,Z'⟩,q⟩
 .obtain⟨u,rfl,r1⟩:=vV r;cases r1;exact call_int_bool ⟨.int (if k then 1 else 0),H,I.tok _,⟨_,Z'⟩,q⟩
end
structure Hk(h:Go)(x dx C:lf)(mA:QQZ):Prop where
 obj:h.get? x=ga (W.instObj C dx)
 ns:h.Ns1 dx mA
 ne:dx≠x
def JO{h:Go}{dx:lf}{mA:QQZ}(n:h.Ns1 dx mA):∃od,h.get? dx=ga od/\∀name,W.lookIn name od=ga (mA name):=by
 obtain⟨o,es,ep,ho,hd,hk,_,hm⟩:=n;refine⟨o,ho,λname=>?_⟩;have e:=hm name;unfold nsFind findBy at e;rw[<-Array.find?_toList]at e;unfold W.lookIn;rw[hd];dsimp only;split
 .rename_i y q;rw[q]at e;exact eC ga e
 .rename_i q;rw[q]at e;have a:es.toList.any (·.refKey)=pc:=by rw[kS];intro y hy;obtain⟨z,t,hkey⟩:=hk y (j5.mp hy);simp[DictEntry.refKey,hkey]
  have a':¬es.toList.any (·.refKey)=Db:=by rw[a];exact dv
  rw[cW a'];exact eC ga e
def Hk.look(I:Hk h x dx C mA):∃od,W.InstAt h x (W.instObj C dx) C (ga od)/\∀name,W.lookIn name od=ga (mA name):=
 let⟨od,ho,hl⟩:=JO I.ns
 ⟨od,⟨I.obj,Z',Z',ho⟩,hl⟩
variable {prog:Pg}{A:Ar}{K:qk}{dx C:lf}{mA:QQZ}{name:Str}
section
variable {w:Wo}{E:QQX}{x f:lf}{v:Vl}
def PC{expr:Bool}{Q:QQX}(X:K.In s.heap)(I:Hk s.heap x dx C mA)(hg:W.plainGet K C name=Db)(hh:W.hasDictIn K C=Db) (ha:W.findIn K (.ref C) name=ga Fa) (hv:mA name=ga v) (hv':W.handedIn v=Db) (h:Q v {s with toks:=s.toks+1}):
  Ch (pi prog w) A (getAttr (.ref x) name expr) Q E s:=by
 obtain⟨od,J,hl⟩:=I.look;exact W.get_value X J (kl hg).1 (W.findObj_own hh ha Z' (by rw[hl,hv])) hv' h
def Nw{pl:Sem Bool}{Q:Vl×T0 Vl->Sd->Prop}(X:K.In s.heap)(I:Hk s.heap x dx C mA)(hg:W.plainGet K C name=Db) (hf:W.findIn K (.ref C) name=ga (ga (.ref f))) (ht:W.isFn K (.ref f)=Db) (hv:mA name=Fa) (h:Q (.ref f,[.ref x]) s):
  Ch (pi prog w) A (XV (.ref x) name pl) Q E s:=by
 obtain⟨od,J,hl⟩:=I.look;exact W.method_fn X J (kl hg).1 (kl hg).2 hf (eY.mp ht) (by show(W.lookIn name od).map (·.isSome)=ga pc;rw[hl,hv];rfl) h
def PP{Q:Unit->Sd->Prop}(X:K.In s.heap)(I:Hk s.heap x dx C mA) (hs:W.findIn K (.ref C) "__setattr__"=ga (ga (.builtin "object.__setattr__"))) (hp:W.plainOver K C=Db) (ht:W.takerIn K C name=ga Fa) (hh:W.hasDictIn K C=Db) (hw:PySem.Within mA ns) (hsz:ns.length<=Uf) (h:∀h',Hk h' x dx C (λy=>if y=name then ga v else mA y)->Heap.SameBut dx s.heap h'->Q () {s with heap:=h',toks:=s.toks+2}):
  Ch (pi prog w) A (setAttr (.ref x) name v) Q E s:=by
 obtain⟨od,J,hl⟩:=I.look;refine W.set_plain X J hs (W.osa_open (s:={s with toks:=s.toks+1}) (r:=none) X J hp ht λb=>?_);obtain⟨cd,hc,hd'⟩:=W.any_some hh;have hx:s.heap.get? x=ga ⟨.ref C,ga dx,.plain,#[]⟩:=I.obj;refine cS (df (cS (cS (wpAny_loadPart hx (cS (lU (s:={s with toks:=s.toks+1}) (km X hc) ?_))))));rw[hd'];refine df (a:=some dx) (cS (df (cS ?_)));refine wpAny_nsSet1 (s:={s with toks:=s.toks+1}) I.ns λh' ZH XM=>?_;obtain⟨oD,esD,epD,hoD,Gi,hcD⟩:=ZH.count (PySem.Within.cons name v hw);refine cS (lu hoD (by rw[Gi];exact lw (dS hcD (by rw[dY];lia))) ?_);exact df (h _ ⟨(XM.2 _ (dQ I.ne)).trans I.obj,ZH,I.ne⟩ XM)
def Nh{vs:T0 Vl}{kw:T0 (Str×Vl)}(X:K.In s.heap)(hm:W.makesIn K C=Db) (hi:W.findIn K (.ref C) "__init__"=ga (ga (.ref f))) (hf:W.typeIn K (.ref f)=ga (.type "function")) (h:XXb (pi prog w) (A.under (.builtin "type.__call__" ⟨.ref C::vs,kw⟩)) (.call (.ref f) ⟨.ref (s.heap.objs.size+1)::vs,kw⟩) (W.InitBack (s.heap.objs.size+1) R) {s with heap:=(s.heap.push W.emptyDict).push (W.instObj C s.heap.objs.size)}):
  XXb (pi prog w) A (.call (.ref C) ⟨vs,kw⟩) R s:=by
 obtain⟨hh,g,d,t,os⟩:=s;exact W.make_core (W.makes_of X hm) (lQ X hi) (λself=>W.bind_fn X self hf) (.inl Z') h
end
noncomputable def vn(f:Str)(v:V):T0 (Str×V)->T0 (Str×V)
 | []=>[(f,v)]
 | (g,x)::r=>if g=f then(g,v)::r else(g,x)::vn f v r
theorem As(f g:Str)(v:V):∀fs:T0 (Str×V),(vn f v fs).lookup g=if g=f then ga v else fs.lookup g
 | []=>by
  show List.lookup g [(f,v)]=_;by_cases h:g=f
  .have hb:(g==f)=Db:=eY.mpr h;simp only[List.lookup,hb,cX h]
  .have hb:(g==f)=pc:=fR.mpr h;simp only[List.lookup,hb,cW h]
 | (k,x)::r=>by
  have ih:=As f g v r;rw[show vn f v ((k,x)::r)=(if k=f then(k,v)::r else(k,x)::vn f v r)from Z'];by_cases hk:k=f
  .rw[cX hk];by_cases h:g=k
   .have hb:(g==k)=Db:=eY.mpr h;simp only[List.lookup,hb,cX (h.trans hk)]
   .have hb:(g==k)=pc:=fR.mpr h;simp only[List.lookup,hb,cW (λe:g=f=>h (e.trans hk.symm))]
  .rw[cW hk];by_cases h:g=k
   .have hb:(g==k)=Db:=eY.mpr h;simp only[List.lookup,hb,cW (λe:g=f=>hk (h.symm.trans e))]
   .have hb:(g==k)=pc:=fR.mpr h;simp only[List.lookup,hb];exact ih
theorem zZ(f:Str)(v:V):∀fs:T0 (Str×V),f∈(vn f v fs).map (·.1)/\∀g,g∈fs.map (·.1)->g∈(vn f v fs).map (·.1)
 | []=>⟨by simp[vn],λg h=>by simp at h⟩
 | (k,x)::r=>by
  obtain⟨i1,i2⟩:=zZ f v r;rw[show vn f v ((k,x)::r)=(if k=f then(k,v)::r else(k,x)::vn f v r)from Z'];by_cases hk:k=f
  .rw[cX hk];subst hk;exact⟨by simp,λg h=>by simpa using h⟩
  .rw[cW hk];refine⟨?_,λg h=>?_⟩
   .rw[dW];exact dz _ i1
   .rw[dW]at h ⊢;rcases dg.mp h with e|e
    .exact dg.mpr (.inl e)
    .exact dz _ (i2 g e)
theorem Aq(f:Str)(v:V):∀fs:T0 (Str×V),(vn f v fs).length<=fs.length+1
 | []=>by simp[vn]
 | (k,x)::r=>by
  have ih:=Aq f v r;rw[show vn f v ((k,x)::r)=(if k=f then(k,v)::r else(k,x)::vn f v r)from Z'];by_cases hk:k=f
  .rw[cX hk,dY,dY];lia
  .rw[cW hk,dY,dY];lia
def xg.some_of{v:V}(r:xg (ga v) o):∃u,o=ga u/\qz v u:=by
 cases o with
 | none=>exact(show False from r).elim
 | some u=>exact⟨u,Z',r⟩
def xg.none_of{o:Option Vl}(r:xg Fa o):o=Fa:=by
 cases o with
 | none=>rfl
 | some u=>exact(show False from r).elim
def Kq{u:Vl}(r:qz v u):W.handedIn u=Db:=by
 cases v with
 | mx=>cases(show u=Value.none from r);rfl
 | bl b=>cases(show u=Value.bool b from r);rfl
 | int i=>obtain⟨t,e⟩:=(show ∃t,u=Value.int i t from r);cases e;rfl
 | str x=>obtain⟨t,e⟩:=(show ∃t,u=Value.str x t from r);cases e;rfl
 | byt b=>obtain⟨t,e⟩:=(show ∃t,u=Value.bytes b t from r);cases e;rfl
 | flt b=>obtain⟨t,e⟩:=(show ∃t,u=Value.float b t from r);cases e;rfl
 | ref a=>cases(show u=Value.ref a from r);rfl
 | ty n=>cases(show u=Value.type n from r);rfl
section
variable {P:Pg}{w:Wo}{a:lf}{fs fs':T0 (Str × V)}
def EG(mD:yg P w H h)(e:H a=ga (.ins C dx fs)):∃mA,Hk h a dx C mA/\(∀f,xg (fs.lookup f) (mA f))/\PySem.Within mA (fs.map (·.1))/\fs.length<=1000/\H dx=ga (.own a):=by obtain⟨d,z,ne,ob,mA,n,r,q⟩:=(show sG P w H h a (.ins C dx fs)from mD a _ e);exact⟨mA,⟨ob,n,ne⟩,r,q,z,d⟩
end
structure Cls(K:qk)(C:lf):Prop where
 pg:W.plainGet K C Str.empty=Db
 hd:W.hasDictIn K C=Db
 po:W.plainOver K C=Db
 sa:W.findIn K (.ref C) "__setattr__"=ga (ga (.builtin "object.__setattr__"))
def Cls.get{K:qk}(c:Cls K C)(f:Str):W.plainGet K C f=Db:=c.pg
def tP(K:qk)(C:lf)(f:Str):Prop:=W.findIn K (.ref C) f=ga Fa
def tP.oB{K:qk}(n:tP K C f):W.takerIn K C f=ga Fa:=by unfold W.takerIn;rw[show W.findIn K (.ref C) f=ga Fa from n];rfl
structure vm(K:qk)(C:lf)(m:Str)(f:lf):Prop where
 at_:W.findIn K (.ref C) m=ga (ga (.ref f))
 fn:W.isFn K (.ref f)=Db
 kp:W.keepIn K (.ref f)=Db
section
variable {Y:St}{a:lf}{fs:T0 (Str × V)}{f:Str}{v:V}{E:QQX}
def Cw{b:Bool}{Q:QQX}(I:Inv X W5 Y H s)(e:H a=ga (.ins C dx fs))(c:Cls X.K C)(n:tP X.K C f)(l:fs.lookup f=ga v) (h:∀u s',Inv X W5 Y H s'->qz v u->Q u s'):Ch (pi X.prog X.w) A (getAttr (.ref a) f b) Q E s:=by
 obtain⟨mA,O,r,_,_,_⟩:=EG I.mD e;obtain⟨u,hu,ru⟩:=xg.some_of (v:=v) (o:=mA f) (by rw[<-l];exact r f);exact PC I.m7 O (c.get f) c.hd n hu (Kq ru) (h u _ (I.tok _) ru)
def BQ{pl:Sem Bool}{Q:Vl×T0 Vl->Sd->Prop}(I:Inv X W5 Y H s)(e:H a=ga (.ins C dx fs))(c:Cls X.K C)(k:vm X.K C m g)(l:fs.lookup m=Fa) (h:Q (.ref g,[.ref a]) s):Ch (pi X.prog X.w) A (XV (.ref a) m pl) Q E s:=by
 obtain⟨mA,O,r,_,_,_⟩:=EG I.mD e;have hn:mA m=Fa:=xg.none_of (by rw[<-l];exact r m);exact Nw I.m7 O (c.get m) k.at_ k.fn hn h
def BX{u:Vl}{Q:Unit->Sd->Prop}(I:Inv X W5 Y H s)(e:H a=ga (.ins C dx fs))(c:Cls X.K C)(n:tP X.K C f)(hl:fs.length<1000)(ry:qz y u) (h:∀s',Inv X W5 Y (upd H a (.ins C dx (vn f y fs))) s'->Q () s'):Ch (pi X.prog X.w) A (setAttr (.ref a) f u) Q E s:=by
 obtain⟨mA,O,r,wi,_,ho⟩:=EG I.mD e;have hz:(fs.map (·.1)).length<=Uf:=by rw[cR,dH];lia
 refine PP I.m7 O c.sa c.po n.oB c.hd wi hz λh' O' sb=>h _ ?_;have hd:∃o,h'.get? dx=ga o:=let⟨o,_,_,e',_⟩:=O'.ns;⟨o,e'⟩;refine I.write (x:=a) (e:=dx) (by rw[e];exact True.intro) (.inr ho) (λb q hb z=>(sb.2 b hb).trans z) hd ?_;refine⟨by rw[pN O.ne];exact ho,?_,O.ne,O'.obj,_,O'.ns,λg=>?_,λg hg=>?_⟩
 .have:=Aq f y fs;lia
 .show xg ((vn f y fs).lookup g) (if g=f then ga u else mA g);rw[As];by_cases q:g=f
  .rw[cX q,cX q];exact ry
  .rw[cW q,cW q];exact r g
 .by_cases q:g=f
  .rw[q];exact(zZ f y fs).1
  .refine(zZ f y fs).2 g (wi g λz=>hg ?_);show(if g=f then ga u else mA g)=Fa;rw[cW q];exact z
def Inv.made(I:Inv X W5 Y H s):Inv X W5 Y (upd (upd H s.heap.objs.size (.own (s.heap.objs.size+1))) (s.heap.objs.size+1) (.ins C s.heap.objs.size [])) {s with heap:=(s.heap.push W.emptyDict).push (W.instObj C s.heap.objs.size)}:=by
 have e1:(s.heap.push W.emptyDict).get? s.heap.objs.size=ga W.emptyDict:=dG s.heap Z';have e2:((s.heap.push W.emptyDict).push (W.instObj C s.heap.objs.size)).get? (s.heap.objs.size+1)=ga (W.instObj C s.heap.objs.size):=by
  have:=dG (s.heap.push W.emptyDict) (o:=W.instObj C s.heap.objs.size) Z'
  rwa [fF]at this
 have e3:(s.heap.push W.emptyDict).Ns s.heap.objs.size (λ_=>Fa):=⟨W.emptyDict,#[],_,e1,Z',(λe he=>absurd he (by simp)),λ_=>rfl⟩;have I1:=I.laid (a:=s.heap.objs.size) (o:=.own (s.heap.objs.size+1)) (h':=s.heap.push W.emptyDict) (t':=s.toks) (λb u q=>cY _ q) (cZ _) ⟨_,e1⟩;refine I1.laid (a:=s.heap.objs.size+1) (o:=.ins C s.heap.objs.size []) (t':=s.toks) (λb u q=>cY _ q) (kE (fF _ _)) ?_;have ne:s.heap.objs.size≠s.heap.objs.size+1:=dO (fD _);refine⟨by rw[pN ne,pR],eK _,ne,e2,λ_=>Fa,(kT e3).at λo q=>cY _ q,λ_=>True.intro,λy hy=>absurd Z' hy⟩
def Pu{prog:Pg}{w:Wo}{env:Env}{e:Tl}{f:Str}{s:Sd}{Q:QQX}(hb:wE e f env (No e env)=No e env) (h:Ch (pi prog w) A (No e env) (λo s₁=>Ch (pi prog w) A (getAttr o f Db) Q E s₁) E s):Ch (pi prog w) A (No (.Attribute e f pos) env) Q E s:=
 Attribute_any_ h (by rw[arm_eval_Attribute,hb])
end
def Vx(K:qk)(ta:TE)(f:Str):TE:=λY H Q=>ta Y H λx H1=>∃a C dx fs v,x=.ref a/\H1 a=ga (.ins C dx fs)/\Cls K C/\tP K C f/\fs.lookup f=ga v/\Q v H1
def Vw(K:qk)(ta tv:TE)(f:Str):TS:=λD Y H=>tv Y H λy H1=>ta Y H1 λx H2=>∃a C dx fs,x=.ref a/\H2 a=ga (.ins C dx fs)/\Cls K C/\tP K C f/\fs.length<1000/\
 D.nx Y (upd H2 a (.ins C dx (vn f y fs)))
def Oj(X:Cx)(op:XXf)(rd:V->V->Hp->VK->Prop):Prop:=
 ∀(W5:QQY) (s:Sd) (Y:St) (H:Hp) (x y:V) (u v:Vl) (Q:VK),Inv X W5 Y H s->qz x u->qz y v->rd x y H Q->Ch (pi X.prog X.w) X.A (inplaceOp op u v) (EP X W5 Y Q) X.xe s
def Pv(K:qk)(ta tv:TE)(rd:V->V->Hp->VK->Prop)(f:Str):TS:=λD Y H=>ta Y H λx H1=>∃a C dx fs v,x=.ref a/\H1 a=ga (.ins C dx fs)/\Cls K C/\tP K C f/\fs.lookup f=ga v/\
 tv Y H1 λy H2=>rd v y H2 λz H3=>∃ZI fs',H3 a=ga (.ins C ZI fs')/\fs'.length<1000/\D.nx Y (upd H3 a (.ins C ZI (vn f z fs')))
variable {value:Tl}{Xd Zc:Pos}{tv:TE}
section
variable {o e:Tl}{f:Str}
def SM(he:PE X e ta)(hb:wE e f X.env (No e X.env)=No e X.env):PE X (.Attribute e f pos) (Vx X.K ta f):=by intro W5 s Y H Q I h;refine Pu hb (rY (he W5 s Y H _ I h) λu s1 zz=>?_);obtain⟨x,H1,I1,rx,a,C,dx,fs,v,ex,ea,c,n,l,q⟩:=zz;subst ex;obtain rfl:u=Value.ref a:=rx;exact Cw I1 ea c n l λu' s2 I2 ru=>⟨v,H1,I2,ru,q⟩
def RD(ha:PE X o ta)(hv:PE X value tv)(hs:wv value (ga (.Attribute o f Xd)) pos.line X.env=pure pc):PS X (.Assign [.Attribute o f Xd] value pos) (Vw X.K ta tv f):=by intro W5 s Y H D I h;refine iI (rY (hv W5 s Y H _ I h) λu s1 zz=>x5 zz λy H1 I1 ry q=>rY (ha W5 s1 Y H1 _ I1 q) λov s2 zz=>?_) hs;obtain⟨x,H2,I2,rx,a,C,dx,fs,ex,ea,c,n,l,q2⟩:=zz;subst ex;obtain rfl:ov=Value.ref a:=rx;exact BX I2 ea c n l ry λs3 I3=>⟨Y,_,I3,q2⟩
def KI(ha:PE X o ta)(hv:PE X value tv)(hop:Oj X op rd):PS X (.AugAssign (.Attribute o f Zc) op value pos) (Pv X.K ta tv rd f):=by intro W5 s Y H D I h;refine wpAny_AugAssign_AttributeAny (rY (ha W5 s Y H _ I h) λov s1 zz=>?_);obtain⟨x,H1,I1,rx,a,C,dx,fs,v,ex,ea,c,n,l,q⟩:=zz;subst ex;obtain rfl:ov=Value.ref a:=rx;refine Cw I1 ea c n l λu s2 I2 ru=>rY (hv W5 s2 Y H1 _ I2 q) λw3 s3 zz=>x5 zz λy H2 I3 ry q3=>rY (hop W5 s3 Y H2 v y u w3 _ I3 ru ry q3) λw4 s4 zz=>?_;obtain⟨z,H3,I4,rz,ZI,fs',ea',l',q4⟩:=zz;exact BX I4 ea' c n l' rz λs5 I5=>⟨Y,_,I5,q4⟩
def VE:V->V->Hp->VK->Prop:=λx y H Q=>∃i j,x=.int i/\y=.int j/\Q (.int (i+j)) H
def VP:V->V->Hp->VK->Prop:=λx y H Q=>∃i j,x=.int i/\y=.int j/\Q (.int (i - j)) H
def Q5:Oj X .Add VE:=by
 rintro W5 s Y H x y u v Q I rx ry ⟨i,j,rfl,rfl,q⟩
 obtain⟨t,rfl⟩:=(show ∃t,u=Value.int i t from rx);obtain⟨t',rfl⟩:=(show ∃t',v=Value.int j t' from ry);exact PyProof.Rows.iadd_int ⟨.int (i+j),H,I.tok _,⟨_,Z'⟩,q⟩
def SE:Oj X .Sub VP:=by
 rintro W5 s Y H x y u v Q I rx ry ⟨i,j,rfl,rfl,q⟩
 obtain⟨t,rfl⟩:=(show ∃t,u=Value.int i t from rx);obtain⟨t',rfl⟩:=(show ∃t',v=Value.int j t' from ry);exact PyProof.Rows.isub_int ⟨.int (i - j),H,I.tok _,⟨_,Z'⟩,q⟩
end
variable {Q:QQX}
section
variable {Y:St}{E:QQX}{c:Vl}{b:Bool}
end
structure rO(k:Nat)(A:Ar):Prop where
 hd:A.handled=Fa
 dp:A.depth+3*k+5<recursionLimit
 un:A.units+16*k+200<IN
def rO.mono{j k:Nat}(r:rO k A)(h:j<=k):rO j A:=⟨r.hd,by have:=r.dp;lia,by have:=r.un;lia⟩
def rO.deeper{k:Nat}(r:rO (k+1) A)(env:Env):rO k (A.deeper env):=
 ⟨r.hd,by have:=r.dp;show A.depth+1+3*k+5<_;lia,by have:=r.un;show A.units+3+16*k+200<_;lia⟩
def HU{A:Ar}{C:lf}{us:T0 Vl}{kw:T0 (Str×Vl)}:(A.under (.builtin "type.__call__" ⟨.ref C::us,kw⟩)).depth=A.depth+1:=by first|rfl|simp[Around.under,Code.weight,Code.isCreation,Code.isGuard,Code.isCaller,Code.frames,Code.isFrame,guardIds]
def Ii{A:Ar}{C:lf}{us:T0 Vl}{kw:T0 (Str×Vl)}:(A.under (.builtin "type.__call__" ⟨.ref C::us,kw⟩)).units=A.units+1:=by first|rfl|simp[Around.under,Code.cUnits,Code.frames,Code.isFrame]
def rO.make{k:Nat}(r:rO (k+1) A)(C:lf)(us:T0 Vl)(kw:T0 (Str×Vl)):rO k (A.under (.builtin "type.__call__" ⟨.ref C::us,kw⟩)):=
 ⟨r.hd,by have:=r.dp;rw[HU];lia,by have:=r.un;rw[Ii];lia⟩
def rO.depth(r:rO k A):A.depth<recursionLimit:=by have:=r.dp;lia
def rO.units(r:rO k A):A.units+64<IN:=by have:=r.un;lia
def US:TA:=λ_ H Q=>Q [] H
def UJ(ta:TE)(tr:TA):TA:=λY H Q=>ta Y H λx H1=>tr Y H1 λxs H2=>Q (x::xs) H2
variable {es:T0 Tl}
section
variable {e:Tl}{t:TA}
def SQ:PA X [] US:=λ_ _ _ _ H Q I h=>iC ⟨[],H,I,.nil,h⟩
def Pk(ha:PE X e te)(hr:PA X es t)(hs:AE X e es:=by rfl):PA X (e::es) (UJ te t):=by intro pos W5 s Y H Q I h;rw[hs];show Ch _ _ (spliced ((pc,No e X.env)::At pos (Tk es X.env))) _ _ s;refine gW (rY (ha W5 s Y H _ I h) λu s1 zz=>x5 zz λx H1 I1 r1 q1=>?_);exact rY (hr pos W5 s1 Y H1 _ I1 q1) λus s2 zz=>x5 zz λxs H2 I2 r2 q2=>⟨x::xs,H2,I2,.cons r1 r2,q2⟩
def VQ(t:TA):TE:=λY H Q=>t Y H λxs H1=>xs.length<=Uf/\∀p,H1 p=Fa->Q (.ref p) (upd H1 p (.tup xs))
def VM(t:TA):TE:=λY H Q=>t Y H λxs H1=>xs.length<=Uf/\∀p,H1 p=Fa->Q (.ref p) (upd H1 p (.lst xs))
def S7{x1}(h:PA X es t):PE X (.Tuple es x1 pos) (VQ t):=by intro W5 s Y H Q I hq;refine wpAny_Tuple_spliced (rY (h pos W5 s Y H _ I hq) λus s1 ⟨xs,H1,I1,r,z,q⟩=>⟨by rw[<-r.length];exact z,?_⟩);have hf:H1 s1.heap.objs.size=Fa:=I1.mD.fresh (cZ _);refine⟨.ref s1.heap.objs.size,upd H1 s1.heap.objs.size (.tup xs),I1.laid (t':=s1.toks) (λb u e=>cY _ e) (cZ _) ?_,Z',q _ hf⟩;exact⟨z,us,r,⟨_,dG _ Z',Z',⟨_,Z'⟩,Z'⟩⟩
def R0(h:PA X es t):PE X (.List es pos) (VM t):=by intro W5 s Y H Q I hq;refine wpAny_List_spliced (rY (h pos W5 s Y H _ I hq) λus s1 ⟨xs,H1,I1,r,z,q⟩=>⟨by rw[<-r.length];exact z,?_⟩);have hf:H1 s1.heap.objs.size=Fa:=I1.mD.fresh (cZ _);refine⟨.ref s1.heap.objs.size,upd H1 s1.heap.objs.size (.lst xs),I1.laid (t':=s1.toks) (λb u e=>cY _ e) (cZ _) ?_,Z',q _ hf⟩;exact⟨z,us,0,r,dG _ Z'⟩
end
abbrev Sp:=T0 V->Hp->VK->XK->Prop
abbrev KQ:=T0 Env->Hp->Sd->XK->Vl->Sd->Prop
structure Hl(P:Pg)(w:Wo)(K:qk)(mg:QQZ)(base:Go)(A:Ar)(outer:List Env)(s:Sd)(H:Hp):Prop where
 frames:A.frames=ga outer
 mod:Mod K mg base
 bs:∀b o,base.get? b=ga o->s.heap.get? b=ga o/\H b=Fa
 nI:base.objs.size<=s.heap.objs.size
 mY:s.heap.FunFrames base outer
 nP:∀b∈vQ outer,H b=Fa
 mD:yg P w H s.heap
 bare:XXe s.gens
def CE(outer:T0 Env)(P:Pg)(w:Wo)(H:Hp)(s:Sd)(Q:VK)(u:Vl)(s':Sd):Prop:=
 ∃v H',s'.os=s.os/\XXe s'.gens/\Un (vQ outer) [] H H' s.heap s'.heap/\yg P w H' s'.heap/\qz v u/\Q v H'
def CR(CX:KQ)(outer:T0 Env)(P:Pg)(w:Wo)(H:Hp)(s:Sd)(Q:VK)(E:XK)(r:Result)(s':Sd):Prop:=
 match r with
 | .ok (.ret u)=>CE outer P w H s Q u s'
 | .ok _=>False
 | .error e=>CX outer H s E e s'
structure xl(P:Pg)(w:Wo)(K:qk)(mg:QQZ)(base:Go)(CX:KQ)(k:Nat)(f:lf)(fd:Rs)(ps:QQQ)(sp:Sp):Prop where
 len:∀vs H Q E,sp vs H Q E->vs.length=ps.length
 run:∀(A:Ar) (outer:List Env) (s:Sd) (H:Hp) (args:Args) (us:List Vl) (vs:List V) (Q:VK) (E:XK),rO k A->Hl P w K mg base A outer s H->BindsTo s fd args (ps.zip us)->qo vs us->sp vs H Q E->
  XXb (pi P w) A (.call (.ref f) args) (CR CX outer P w H s Q E) s
def Hl.make{K:qk}(e:Hl P w K mg base A outer s H)(C:lf)(us:T0 Vl)(kw:T0 (Str×Vl)):
  Hl P w K mg base (A.under (.builtin "type.__call__" ⟨.ref C::us,kw⟩)) outer s H:=⟨by first|exact e.frames|(simpa [Around.under,Code.envs,Code.isFrame,pushEnvs]using e.frames),e.mod,e.bs,e.nI,e.mY,e.nP,e.mD,e.bare⟩
variable {s':Sd}
section
variable {Y:St}
def Inv.nM(I:Inv X W5 Y H s):Hl X.prog X.w X.K X.mg X.base X.A X.stack s H:=
 ⟨I.ok.frames,I.ok.mod,I.bs,dS I.ok.nI I.sz,I.stack,I.ng,I.mD,I.bare⟩
def Inv.after{Q:VK}{u:Vl}(I:Inv X W5 Y H s)(h:CE X.stack X.prog X.w H s Q u s'):EP X W5 Y Q u s':=by obtain⟨v,H',os,bare,un,mD,r,q⟩:=h;obtain⟨hh,g,d,t,os'⟩:=s';obtain rfl:os'=s.os:=os;exact⟨v,H',I.call (h':=hh) (g':=g) (d':=d) (t':=t) (ch:=[]) un mD bare (λb z=>absurd z (by simp)),r,q⟩
end
def Ug(sp:Sp)(XW:T0 V)(E:XK)(t:TA):TE:=λY H Q=>t Y H λvs H1=>sp (vs++XW) H1 Q E
def U8(C:lf)(sp:Sp)(XW:T0 V)(E:XK)(t:TA):TE:=λY H Q=>t Y H λvs H1=>∀x dx,H1 x=Fa->H1 dx=Fa->dx≠x->
 sp (.ref x::(vs++XW)) (upd (upd H1 dx (.own x)) x (.ins C dx [])) (λv H2=>v=.mx/\Q (.ref x) H2) E
def ul(K:qk)(fd:Rs)(ps:QQQ)(ds:T0 Vl):Prop:=
 ∀(s:Sd) (us:T0 Vl),K.In s.heap->(us++ds).length=ps.length->BindsTo s fd ⟨us,[]⟩ (ps.zip (us++ds))
def ul.all{K:qk}{fd:Rs}{ps:QQQ}(h:∀us:T0 Vl,us.length=ps.length->bindArgs fd ⟨us,[]⟩=pure (ps.zip us)):ul K fd ps []:=λs us _ hl=>by rw[eD]at hl ⊢;exact .of_eq (h us hl)
def yu(CX:KQ)(X:Cx)(E:XK):Prop:=∀(W5:QQY) (Y:St) (H:Hp) (s:Sd) (e:Vl) (s':Sd),Inv X W5 Y H s->CX X.stack H s E e s'->X.xe e s'
variable {CX:KQ}{k:Nat}{fd:Rs}{ps:QQQ}{sp:Sp}{XW:T0 V}{ds:T0 Vl}{m:Str}{p W8:Pos}
section
variable {f:lf}{E:XK}{x:Str}{e o:Tl}{t:TA}
def EF{W5:QQY}{Q:VK}(F:xl X.prog X.w X.K X.mg X.base CX k f fd ps sp)(hr:rO k X.A)(hb:ul X.K fd ps ds)(hd:qo XW ds)(hx:yu CX X E) (I:Inv X W5 Y H s) (r:qo vs us) (h:sp (vs++XW) H Q E):Ch (pi X.prog X.w) X.A (call (.ref f) us) (EP X W5 Y Q) X.xe s:=by
 have r2:qo (vs++XW) (us++ds):=r.append hd;have hl:(us++ds).length=ps.length:=by rw[<-r2.length];exact F.len _ _ _ _ h
 refine iJ (gN (F.run X.A X.stack s H ⟨us,[]⟩ (us++ds) (vs++XW) Q E hr I.nM (hb s us I.m7 hl) r2 h) λr s' hq=>?_);cases r with
 | error e=>exact hx W5 Y H s e s' I hq
 | ok fl=>
  cases fl with
  | ret u=>exact I.after hq
  | next=>exact False.elim hq
  | brk=>exact False.elim hq
  | cont=>exact False.elim hq
def Jl(F:xl X.prog X.w X.K X.mg X.base CX k f fd ps sp)(hr:rO k X.A)(hg:Gl X x)(hm:X.mg x=ga (.ref f))(hk:W.keepIn X.K (.ref f)=Db)(hb:ul X.K fd ps ds)(hd:qo XW ds)(hx:yu CX X E) (ha:PA X (e::es) t) (Xm:zu x:=by decide) (he:AE X e es:=by rfl) (Xj:Ce X pos es:=by rfl):
  PE X (.Call (.Name x p) (e::es) [] pos) (Ug sp XW E t):=by
 intro W5 s Y H Q I h;refine gf (wz I hg hm ?_ Xm);refine iK (h₀:=X.base) I.ok.mod.nQ hk (rY (ha pos W5 s Y H _ I h) λus s1 zz=>x5 zz λvs H1 I1 r q=>⟨I1.m7,?_⟩) he Xj;exact EF F hr hb hd hx I1 r q
structure Mk(K:qk)(C f:lf):Prop where
 makes:W.makesIn K C=Db
 init:W.findIn K (.ref C) "__init__"=ga (ga (.ref f))
 fn:W.isFn K (.ref f)=Db
 kp:W.keepIn K (.ref C)=Db
def MZ{W5:QQY}{Q:VK}(M:Mk X.K C f)(F:xl X.prog X.w X.K X.mg X.base CX k f fd ps sp)(hr:rO (k+1) X.A)(hb:ul X.K fd ps ds)(hd:qo XW ds) (hx:yu CX X E) (I:Inv X W5 Y H s) (r:qo vs us) (h:∀x dx,H x=Fa->H dx=Fa->dx≠x->sp (.ref x::(vs++XW)) (upd (upd H dx (.own x)) x (.ins C dx [])) (λv H2=>v=.mx/\Q (.ref x) H2) E):
  Ch (pi X.prog X.w) X.A (call (.ref C) us) (EP X W5 Y Q) X.xe s:=by
 have hq:=h (s.heap.objs.size+1) s.heap.objs.size (I.mD.fresh (gw _)) (I.mD.fresh (cZ _)) (dO (fD _));have I2:=Inv.made (C:=C) I;have r2:qo (V.ref (s.heap.objs.size+1)::(vs++XW)) (Value.ref (s.heap.objs.size+1)::(us++ds)):=.cons Z' (r.append hd);have hl:(Value.ref (s.heap.objs.size+1)::us++ds).length=ps.length:=by have e:=r2.length;rw[F.len _ _ _ _ hq]at e;exact e.symm
 refine iJ (Nh (f:=f) I.m7 M.makes M.init (eY.mp M.fn) (gN (F.run _ X.stack _ _ ⟨Value.ref (s.heap.objs.size+1)::us,[]⟩ (Value.ref (s.heap.objs.size+1)::(us++ds)) _ _ E (hr.make C us [])
  (I2.nM.make C us []) (hb _ (Value.ref (s.heap.objs.size+1)::us) I2.m7 hl) r2 hq) λr s' YM=>?_))
 cases r with
 | error e=>exact hx W5 Y _ _ e s' I2 YM
 | ok fl=>
  cases fl with
  | ret u=>obtain⟨v,H',I3,rv,ev,q3⟩:=I2.after YM;subst ev;exact⟨rv,⟨V.ref (s.heap.objs.size+1),H',I3,Z',q3⟩⟩
  | next=>exact False.elim YM
  | brk=>exact False.elim YM
  | cont=>exact False.elim YM
def OR(M:Mk X.K C f)(F:xl X.prog X.w X.K X.mg X.base CX k f fd ps sp)(hr:rO (k+1) X.A)(hg:Gl X x)(hm:X.mg x=ga (.ref C))(hb:ul X.K fd ps ds)(hd:qo XW ds)(hx:yu CX X E) (ha:PA X (e::es) t) (Xm:zu x:=by decide) (he:AE X e es:=by rfl) (Xj:Ce X pos es:=by rfl):
  PE X (.Call (.Name x p) (e::es) [] pos) (U8 C sp XW E t):=by
 intro W5 s Y H Q I h;refine gf (wz I hg hm ?_ Xm);refine iK (h₀:=X.base) I.ok.mod.nQ M.kp (rY (ha pos W5 s Y H _ I h) λus s1 zz=>x5 zz λvs H1 I1 r q=>⟨I1.m7,?_⟩) he Xj;exact MZ M F hr hb hd hx I1 r q
end
variable {g:T0 Vl→T0 Vl→T0 Vl}{gV:T0 V→T0 V→T0 V}{ks:QQQ}{kpos:Pos}{kws:T0 Z9}{tk:TA}{nm:Option Str}
section
variable {f:lf}{E:XK}{x:Str}{e o:Tl}{t:TA}
end
structure sO(N P:QQQ)(sc:Z8):Prop where
 kind:sc.kind=.function
 co:sc.isCoroutine=pc
 gen:sc.isGenerator=pc
 nd:N.Nodup
 pre:N.take P.length=P
 par:∀x∈P,sc.names.lookup x=ga .local\/sc.names.lookup x=ga .cell
 oO:∀y∈sc.names,y.2≠.free
theorem Dw{kindOf:Str->Option wS}{x:Str}:∀{binds:T0 (Str×Vl)} {m:QQZ},(∀v,(x,v)∉binds)->bindL kindOf binds m x=m x
 | [],_,_=>rfl
 | (n,v)::r,m,h=>by
  unfold bindL;rw[Dw λw hw=>h w (dz _ hw)];split
  .have:x≠n:=by rintro rfl;exact h v dD
   simp[this]
  .rfl
theorem DH{kindOf:Str->Option wS}{x:Str}:∀{binds:T0 (Str×Vl)} {m:QQZ},(∀v,(x,v)∉binds)->bindC kindOf binds m x=m x
 | [],_,_=>rfl
 | (n,v)::r,m,h=>by
  unfold bindC;rw[DH λw hw=>h w (dz _ hw)];split
  .rfl
  .have:x≠n:=by rintro rfl;exact h v dD
   simp[this]
theorem DE{kindOf:Str->Option wS}{x:Str}{v:Vl}:∀{P:QQQ} {vs:T0 Vl} {i:Nat} {m:QQZ},P.Nodup->P[i]?=ga x->vs[i]?=ga v->kindOf x=ga .local->
  bindL kindOf (P.zip vs) m x=ga v
 | [],_,_,_,_,h,_,_=>by simp at h
 | _::_,[],_,_,_,_,h,_=>by simp at h
 | p::P,w::vs,0,m,nd,h1,h2,hk=>by simp at h1 h2;subst h1;subst h2;show bindL kindOf ((p,w)::P.zip vs) m p=_;unfold bindL;rw[Dw λv hv=>(dN.mp nd).1 (jK hv).1,cX hk];simp
 | p::P,w::vs,i+1,m,nd,h1,h2,hk=>by show bindL kindOf ((p,w)::P.zip vs) m x=_;unfold bindL;exact DE (i:=i) (dN.mp nd).2 (by simpa using h1) (by simpa using h2) hk
theorem DZ{kindOf:Str->Option wS}{x:Str}{v:Vl}:∀{P:QQQ} {vs:T0 Vl} {i:Nat} {m:QQZ},P.Nodup->P[i]?=ga x->vs[i]?=ga v->kindOf x≠ga .local->
  bindC kindOf (P.zip vs) m x=ga v
 | [],_,_,_,_,h,_,_=>by simp at h
 | _::_,[],_,_,_,_,h,_=>by simp at h
 | p::P,w::vs,0,m,nd,h1,h2,hk=>by simp at h1 h2;subst h1;subst h2;show bindC kindOf ((p,w)::P.zip vs) m p=_;unfold bindC;rw[DH λv hv=>(dN.mp nd).1 (jK hv).1,cW hk];simp
 | p::P,w::vs,i+1,m,nd,h1,h2,hk=>by show bindC kindOf ((p,w)::P.zip vs) m x=_;unfold bindC;exact DZ (i:=i) (dN.mp nd).2 (by simpa using h1) (by simpa using h2) hk
noncomputable def start(N:QQQ)(vs:T0 V):St:=vs.map ga++List.replicate (N.length - vs.length) Fa
noncomputable def vg(CX:KQ)(P:Pg)(w:Wo)(K:qk)(mg:QQZ)(base:Go)(N:QQQ)(qual:Str)(scope:Z8)(f:lf)(cd:Vl)(A:Ar)(outer:T0 Env)(s:Sd)(H:Hp)(E:XK):Cx where
 prog:=P
 w:=w
 K:=K
 mg:=mg
 base:=base
 A:=A.deeper (sK qual scope s.heap.objs.size f cd)
 N:=N
 s₀:=s
 H₀:=H
 env:=sK qual scope s.heap.objs.size f cd
 outer:=outer
 stack:=sK qual scope s.heap.objs.size f cd::outer
 ex:=[]
 calm:=true
 fn:=λ_=>Db
 pn:=[]
 xe:=λe s'=>Ch (pi P w) (A.deeper (sK qual scope s.heap.objs.size f cd)) (leaving (sK qual scope s.heap.objs.size f cd) e) (λ_ ZJ=>CX outer H s E e ZJ) (λe' ZJ=>CX outer H s E e' ZJ) s'
def F'{sc:Z8}{n:Nat}{x:Str}(h:sc.names.lookup x=ga .cell):∃c,(cellsFrom n sc.names []).lookup x=ga c:=by have q:=ly sc.names n [] (.inl h);exact io.mp q
def KN{CX:KQ}{K:qk}{qual:Str}{f:lf}{cd:Vl}{A:Ar}{E:XK}{vs:T0 V} (S:sO N ps scope) (hd:A.handled=Fa) (e0:Hl P w K mg base A outer s H) (hl:vs.length=ps.length) (r:qo vs us) (x:InCallC s s.heap.objs.size (bindL (sK qual scope s.heap.objs.size f cd).kindOf (ps.zip us) λ_=>Fa) (cellsFrom (s.heap.objs.size+1) scope.names []) (bindC (sK qual scope s.heap.objs.size f cd).kindOf (ps.zip us) λ_=>Fa) s1):
  Inv (vg CX P w K mg base N qual scope f cd A outer s H E) [] (start N vs) H s1:=by
 have Xj:ps.length<=N.length:=by have:=eC List.length S.pre;rw[fg]at this;lia
 obtain⟨h1,tk,rfl,hk⟩:=x.done;have noA:∀b:lf,b∉(vg CX P w K mg base N qual scope f cd A outer s H E).ex:=λb z=>absurd (show b∈([]:QXQ)from z) (by simp);refine⟨⟨e0.mod,S.kind,Z',Z',cZ _,λy z c h1 h2=>?_,λy hy=>?_,λy c _ h=>?_,λ_=>hd,Around.frames_deeper e0.frames,.inr ⟨Z',Z'⟩,λb z=>absurd z (noA b),e0.bs,e0.nI,λb _ _=>noA b,λb z=>absurd z (noA b),e0.mY,e0.nP⟩,Z',e0.bare,Un.kept hk,⟨_,x.toInCall.ns,λi y v h1 h2 h3=>?_⟩,λy c h=>⟨_,x.cell y c h⟩,e0.mD.fresh (cZ _),λy c h=>?_,λp hp=>absurd (show p∈([]:QQY)from hp) (by simp),e0.mD.kept hk,?_⟩
 .exact name_of_addr x.apart (gQ h1) (gQ h2)
 .have hy:scope.names.lookup y=ga .cell\/scope.names.lookup y=ga .free:=hy;rcases hy with hy|hy
  .exact F' hy
  .exact absurd Z' (S.oO _ (gQ hy))
 .exact kC (x.above y c (gQ h))
 .have hi:i<vs.length:=by
   unfold start at h2;by_cases hi:i<vs.length
   .exact hi
   .rw[eP (by simpa using hi)]at h2;rw[jG]at h2;split at h2<;>cases h2
  have ha:vs[i]?=ga v:=by
   unfold start at h2;rw[eF (by simpa using hi),dq]at h2;cases e:vs[i]? with
   | none=>rw[e]at h2;cases h2
   | some a=>rw[e]at h2;cases h2;rfl
  obtain⟨u,hu,rv⟩:=r.get ha;have hp:ps[i]?=ga y:=by rw[<-S.pre,List.getElem?_take_of_lt (by lia)];exact h1
  have ndP:ps.Nodup:=by rw[<-S.pre];exact S.nd.sublist (List.take_sublist _ _)
  refine⟨u,rv,?_⟩;rcases S.par y (eZ hp)with k|k
  .exact .inl ⟨k,DE ndP hp hu k⟩
  .obtain⟨c,e⟩:=F' (n:=s.heap.objs.size+1) k;refine .inr ⟨.inl k,c,e,?_⟩;have q:=x.cell y c e;rw[DZ ndP hp hu (by show scope.names.lookup y≠_;rw[k];decide)]at q;exact q
 .exact e0.mD.fresh (kC (x.above y c (gQ h)))
 .unfold start;show _=N.length;rw[cU,cR,iF];lia
def Nc{CX:KQ}{P:Pg}{w:Wo}{K:qk}{mg:QQZ}{base:Go}{f:lf}{dV kV XG pm Xg ct oc:Vl}{an od:Option lf} {X5:Array (Option Vl)} {N ps:QQQ} {sp:Sp} (lk:K.lookup f=ga ⟨oc,od,.func (W.fnOf name qual params body scope dV kV XG pm an Xg ct),X5⟩) (Yl:W.codeIn K Xg qual=Db) (S:sO N ps scope) (len:∀vs H Q E,sp vs H Q E->vs.length=ps.length) (Xp:∀(A:Ar) (outer:T0 Env) (s:Sd) (H:Hp) (vs:T0 V) (Q:VK) (E:XK),rO k (A.deeper (sK qual scope s.heap.objs.size f Xg))->sp vs H Q E->
   ∃t,Bx (vg CX P w K mg base N qual scope f Xg A outer s H E) body t/\t {nx:=λ_ H'=>Q .mx H',rt:=Q} (start N vs) H):
  xl P w K mg base CX (k+1) f (W.fnOf name qual params body scope dV kV XG pm an Xg ct) ps sp:=by
 refine⟨len,λA outer s H args us vs Q E hr e0 hb r Yz=>?_⟩;have hl:=len _ _ _ _ Yz;have KX:K.In s.heap:=e0.mod.nQ.keeps λb o e=>(e0.bs b o e).1;have lim:s.heap.NoLimit:=e0.mod.nolimit.keeps λb o e=>(e0.bs b o e).1;have hkind:∀y∈ps.zip us,scope.names.lookup y.1=ga .local\/(scope.names.lookup y.1=ga .cell/\((cellsFrom (s.heap.objs.size+1) scope.names []).lookup y.1).isSome=Db):=λ⟨n,v⟩ hy=>by
  rcases S.par n (jK hy).1 with q|q
  .exact .inl q
  .exact .inr ⟨q,ly _ _ _ (.inl q)⟩
 refine codeAny_call_function hr.depth (KX _ _ lk) Z' S.co S.gen Z' (W.codeRec_of KX Yl) (hb _ _ _ _ ?_);refine wpAny_newFunctionEnv_cells S.kind hkind λenv he s1 x=>?_;subst he;refine⟨lim.keeps x.toInCall.keep,codeAny_func ?_⟩;obtain⟨t,ht,hq⟩:=Xp A outer s H vs Q E (hr.deeper _) Yz;have I:Inv (vg CX P w K mg base N qual scope f Xg A outer s H E) [] (start N vs) H s1:=KN S hr.hd e0 hl r x;refine d6 (ht [] s1 (start N vs) H _ I hq) (λfl s' hs=>?_) λe s' hs=>hs;have Xb:∀{σ':St} {H':Hp} {v:V} {u:Vl},Inv (vg CX P w K mg base N qual scope f Xg A outer s H E) [] σ' H' s'->qz v u->Q v H'->CE outer P w H s Q u s':=
  λ{σ' H' v u} J rv q=>⟨v,H',J.os,J.bare,J.base,J.mD,rv,q⟩
 cases fl with
 | ret u=>obtain⟨v,σ',H',J,rv,q⟩:=hs;exact Xb J rv q
 | next=>obtain⟨σ',H',J,q⟩:=hs;exact Xb (v:=V.mx) (u:=Value.none) J Z' q
 | brk=>obtain⟨_,_,_,q⟩:=hs;exact False.elim q
 | cont=>obtain⟨_,_,_,q⟩:=hs;exact False.elim q
variable {id T:String}{r:T0 V→Hp→VK→Prop}
section
variable {x:Str}{e:Tl}{t:TA}
def WD(r:T0 V->Hp->VK->Prop)(t:TA):TE:=λY H Q=>t Y H λvs H1=>r vs H1 Q
def ND(hc:xp X (.builtin id) r)(hg:Gl X x)(hm:X.mg x=Fa)(hv:zn x=ga (.builtin id))(ha:PA X (e::es) t)(hn:x≠"__name__":=by decide)(Xm:zu x:=by decide)
  (he:AE X e es:=by rfl) (Xj:Ce X pos es:=by rfl):PE X (.Call (.Name x p) (e::es) [] pos) (WD r t):=by
 intro W5 s Y H Q I h;refine gf (wK I hg hm hv ?_ hn Xm);exact iL (rY (ha pos W5 s Y H _ I h) λus s1 zz=>x5 zz λvs H1 I1 r1 q1=>hc W5 s1 Y H1 vs us Q I1 r1 q1) he Xj
def Ka(hc:xp X (.type T) r)(hg:Gl X x)(hm:X.mg x=Fa)(hv:zn x=ga (.type T))(ha:PA X (e::es) t)(hn:x≠"__name__":=by decide)(Xm:zu x:=by decide)
  (he:AE X e es:=by rfl) (Xj:Ce X pos es:=by rfl):PE X (.Call (.Name x p) (e::es) [] pos) (WD r t):=by
 intro W5 s Y H Q I h;refine gf (wK I hg hm hv ?_ hn Xm);exact fj (rY (ha pos W5 s Y H _ I h) λus s1 zz=>x5 zz λvs H1 I1 r1 q1=>hc W5 s1 Y H1 vs us Q I1 r1 q1) he Xj
end
end L2
namespace HT
open PySem PyProof.Rows
section
open PySem.SeqAt
open PySem.AutoSeq1 (wpAny_loadPart')
open PySem.MeetsSeq PySem.MeetsSeq2 PySem.MeetsSeq3
end
variable {prog:Pg}{w:Wo}{A:Ar}{E:QQX}{s:Sd}
def Qc{vs ws:T0 Vl}{Q:QQX}(ht:IsTup s.heap t vs.toArray)(hb:IsTup s.heap b ws.toArray)(hv:vs≠[]) (h1:ws=[]->Q (.ref t) s) (h2:ws≠[]->Q (.ref s.heap.objs.size) {s with heap:=s.heap.push {cls:=.type "tuple",data:=.seq (vs++ws).toArray}})
  (hsz:vs.length+ws.length<=Uf):Ch (pi prog w) A (wP .Add (.ref t) (.ref b)) Q E s:=by
 obtain⟨⟨cls,dd,data,sl⟩,ho,hc,n,hd⟩:=id ht;obtain⟨⟨cls2,dd2,data2,sl2⟩,ho2,hc2,n2,hd2⟩:=id hb;simp only at hc hd hc2 hd2;subst hc hd hc2 hd2;have e:vs.toArray++ws.toArray=(vs++ws).toArray:=by simp
 by_cases hw:ws=[]
 .exact kF ⟨_,ho,Z'⟩ ⟨_,ho2,Z'⟩ lz seq_tuple_add jR jI (ju _ _)
   (tuple_addW1 t b vs.toArray ws.toArray n n2 dd dd2 sl sl2 (by simpa using hv) (by simp[hw])) ⟨ho,ho2,h1 hw⟩
 .refine kF ⟨_,ho,Z'⟩ ⟨_,ho2,Z'⟩ lz seq_tuple_add jR jI (ju _ _)
   (tuple_addW2 t b vs.toArray ws.toArray n n2 dd dd2 sl sl2 (by simpa using hv) (by simpa using hw) (by rw[dh,dh];exact hsz)) ⟨ho,ho2,?_⟩
  rw[e];exact h2 hw
noncomputable def sS(n d:Nat):Option Int->Nat
 | none=>d
 | some v=>if v<0 then(v+(n:Int)).toNat else min v.toNat n
def zB(n d:Nat):sS n d Fa=d:=rfl
def zw(n d k:Nat):sS n d (ga (k:Int))=min k n:=by show(if (k:Int)<0 then((k:Int)+(n:Int)).toNat else min (k:Int).toNat n)=min k n;rw[cW (by lia),jh]
def Rt(n d:Nat)(hd:d<=n)(o:Option Int):sS n d o<=n:=by
 cases o with
 | none=>exact hd
 | some v=>
  show(if v<0 then(v+(n:Int)).toNat else min v.toNat n)<=n;by_cases hv:v<0
  .rw[cX hv];lia
  .rw[cW hv];exact Nat.min_le_right _ _
def Jo(v:Int)(n d:Nat):(if v<0 then max (v+(n:Int)) 0 else min v (n:Int))=((sS n d (ga v):Nat):Int):=by
 show(if v<0 then max (v+(n:Int)) 0 else min v (n:Int))=(((if v<0 then(v+(n:Int)).toNat else min v.toNat n):Nat):Int);by_cases hv:v<0
 .simp only[cX hv];lia
 .simp only[cW hv];lia
def Hx(lo hi:Option Int)(n:Nat):Builtin.Slice.sliceAdjust lo hi 1 (n:Int)=(((sS n 0 lo:Nat):Int),((sS n n hi:Nat):Int)):=by
 have h1:¬((1:Int)<0):=by lia
 unfold Builtin.Slice.sliceAdjust;simp only[h1,lA];refine Prod.ext ?_ ?_
 .cases lo with
  | none=>rfl
  | some v=>exact Jo v n 0
 .cases hi with
  | none=>rfl
  | some v=>exact Jo v n n
def HR(i j:Nat):Builtin.Slice.slicePlaces (i:Int) (j:Int) 1=j - i:=by
 unfold Builtin.Slice.slicePlaces;have h1:(1:Int)>0:=by lia
 simp only[h1,iU,Int.ediv_one];split<;>lia
def BV{Q:Option Int->Sd->Prop}(p:IsPart v o)(h:Q o s):Ch (pi prog w) A (Builtin.Slice.slicePartIndex v) Q E s:=by
 cases p with
 | none=>exact slicePart_none h
 | int i t=>exact slicePart_int h
def vU{sl:lf}{vl vu:Vl}{lo hi:Option Int}{Q:Int×Int×Nat->Sd->Prop}(hs:s.heap.IsSliceOf sl vl vu .none)(pl:IsPart vl lo)(pu:IsPart vu hi) (h:Q (((sS n 0 lo:Nat):Int),1,sS n n hi - sS n 0 lo) s):Ch (pi prog w) A (Builtin.Slice.sliceApplied (.ref sl) (pure (n:Int))) Q E s:=by
 obtain⟨os,ZL,Zt,Yn⟩:=id hs;unfold Builtin.Slice.sliceApplied Builtin.Slice.sliceFields;refine cS (cS (eV ZL Yn (x:=vl) Z' (cS (eV ZL Yn (x:=vu) Z' (cS (eV ZL Yn (x:=.none) Z' (df ?_)))))));refine cS (slicePart_none ?_);show Ch _ _ (if ((1:Int)==0)=Db then _ else _) _ _ s;rw[cW (by decide)];refine cS (BV pl (cS (BV pu (cS (df ?_)))));show Ch _ _ (match Builtin.Slice.sliceAdjust lo hi 1 (n:Int)with|(lo,hi)=>pure (lo,(1:Int),Builtin.Slice.slicePlaces lo hi 1)) _ _ s;rw[Hx lo hi n];show Ch _ _ (pure (((sS n 0 lo:Nat):Int),(1:Int),Builtin.Slice.slicePlaces ((sS n 0 lo:Nat):Int) ((sS n n hi:Nat):Int) 1)) _ _ s;rw[HR];exact df h
def K6(xs:Array Vl)(i k:Nat):((List.range k).filterMap λ(m:Nat)=>xs[((i:Int)+(m:Int)*1).toNat]?).toArray=((xs.toList.drop i).take k).toArray:=by
 have e:(λ(m:Nat)=>xs[((i:Int)+(m:Int)*1).toNat]?)=λm=>xs[i+m]?:=by
  funext m;have:((i:Int)+(m:Int)*1).toNat=i+m:=by lia
  rw[this]
 rw[e];have:=pick_run xs i k;rw[List.filterMap_map]at this;have e2:((λx=>xs[x]?)∘λx=>i+x)=λm=>xs[i+m]?:=rfl;rw[e2]at this;rw[this]
def zi{t sl:lf}{vl vu:Vl}{lo hi:Option Int}{Q:QQX}(ht:IsTup s.heap t W6)(hs:s.heap.IsSliceOf sl vl vu .none)(pl:IsPart vl lo)(pu:IsPart vu hi) (hw:¬(sS W6.size 0 lo=0/\sS W6.size W6.size hi=W6.size)) (h:Q (.ref s.heap.objs.size) {s with heap:=s.heap.push {cls:=.type "tuple",data:=.seq ((W6.toList.drop (sS W6.size 0 lo)).take (sS W6.size W6.size hi - sS W6.size 0 lo)).toArray}})
  (hsz:W6.size<=Uf):Ch (pi prog w) A (W' (.ref t) (.ref sl)) Q E s:=by
 have Yu:sizeOk (.seq ((W6.toList.drop (sS W6.size 0 lo)).take (sS W6.size W6.size hi - sS W6.size 0 lo)).toArray):=by show((W6.toList.drop (sS W6.size 0 lo)).take (sS W6.size W6.size hi - sS W6.size 0 lo)).toArray.size<=Uf;rw[dh,fg,fZ,iR];lia
 have hj:sS W6.size W6.size hi<=W6.size:=Rt _ _ (cZ _) hi;obtain⟨os,ZL,Zt,Yn⟩:=id hs;have hTs:s.TypeIs (.ref sl) "slice":=⟨os,ZL,Zt⟩;unfold W'
 try with_reducible refine eW ?_
 first|refine cS (df ?_)|skip
 refine cS (ji ht.typeIs (by decide) ?_);refine cS (fC (name:=Str.ofString "__getitem__") ht.typeIs fk
  (gb fk ht.typeIs kq ?_ (kG _ _)))
 show Ch _ _ (Builtin.Tuple.tupleItemsOf (.ref t)>>=_) _ _ s;refine cS (tupleItemsOf_ ht ?_);refine cS (jv hTs ?_);rw[cX (by decide)];refine cS (vU hs pl pu ?_);have hno:¬((((sS W6.size 0 lo:Nat):Int)==0&&(1:Int)==1&&(sS W6.size W6.size hi - sS W6.size 0 lo)==W6.size)=Db):=by intro q;rw[dR,dR]at q;have q1:((sS W6.size 0 lo:Nat):Int)=0:=ZB q.1.1;have q2:sS W6.size W6.size hi - sS W6.size 0 lo=W6.size:=ZB q.2;exact hw ⟨by lia,by lia⟩
 show Ch _ _ (if (((sS W6.size 0 lo:Nat):Int)==0&&(1:Int)==1&&(sS W6.size W6.size hi - sS W6.size 0 lo)==W6.size)=Db then _ else _) _ _ s;rw[cW hno,K6]
 first
  | exact cS (m:=Builtin.Tuple.tupleExact _) (fO (df ⟨_,rfl,df h⟩) Yu)
  | exact cS (m:=Builtin.Tuple.tupleExact _) (fO (cS (df (df ⟨_,rfl,df h⟩))) Yu)
  | exact cS (cS (m:=Builtin.Tuple.tupleExact _) (fO (df (df ⟨_,rfl,df h⟩)) Yu))
  | exact cS (cS (m:=Builtin.Tuple.tupleExact _) (fO (df ⟨_,rfl,df h⟩) Yu))
end HT
namespace L2
abbrev TO:=St->Hp->(Option Int->Hp->Prop)->Prop
def PO(X:Cx)(e:Option Tl)(t:TO):Prop:=
 ∀(W5:QQY) (s:Sd) (Y:St) (H:Hp) (Q:Option Int->Hp->Prop),Inv X W5 Y H s->t Y H Q->
  Ch (pi X.prog X.w) X.A (evalPart e X.env) (λu s'=>∃o H',Inv X W5 Y H' s'/\IsPart u o/\Q o H') X.xe s
def Pj:TO:=λ_ H Q=>Q Fa H
def UB(t:TE):TO:=λY H Q=>t Y H λx H1=>∃i,x=.int i/\Q (ga i) H1
variable {X:Cx}{e:Tl}{te:TE}{lo hi:Option Tl}{tl th:TO}{pos p2:Pos}
def PM:PO X Fa Pj:=by intro W5 s Y H Q I h;rw[evalPart_none];exact df ⟨Fa,H,I,.none,h⟩
def Ol(h:PE X e te):PO X (ga e) (UB te):=by intro W5 s Y H Q I hw;rw[evalPart_some];refine rY (h W5 s Y H _ I hw) λu s1 zz=>x5 zz λx H1 I1 r1 q1=>?_;obtain⟨i,rfl,q⟩:=q1;obtain⟨t,rfl⟩:=r1;exact⟨ga i,H1,I1,.int i t,q⟩
def TL(X:Cx)(r:V->Option Int->Option Int->Hp->VK->Prop):Prop:=
 ∀(W5:QQY) (s:Sd) (Y:St) (H:Hp) (x:V) (v vl vu:Vl) (lo hi:Option Int) (sl:lf) (Q:VK),Inv X W5 Y H s->qz x v->s.heap.IsSliceOf sl vl vu .none->IsPart vl lo->IsPart vu hi->r x lo hi H Q->
  ∃T id,typeLookup (.type T) "__getitem__"=pure (ga (.builtin id))/\s.TypeIs v T/\Ch (pi X.prog X.w) X.A (W' v (.ref sl)) (EP X W5 Y Q) X.xe s
def WS(r:V->Option Int->Option Int->Hp->VK->Prop)(te:TE)(tl th:TO):TE:=λY H Q=>te Y H λx H1=>tl Y H1 λl H2=>th Y H2 λu H3=>r x l u H3 Q
def MX(hr:TL X r)(he:PE X e te)(hl:PO X lo tl)(hu:PO X hi th):PE X (.Subscript e (.Slice lo hi Fa p2) pos) (WS r te tl th):=by intro W5 s Y H Q I h;refine Subscript_ (rY (he W5 s Y H _ I h) λv s1 zz=>x5 zz λx H1 I1 r1 q1=>?_);refine wpAny_Slice (rY (hl W5 s1 Y H1 _ I1 q1) λvl s2 zz=>x5 zz λl H2 I2 pl q2=>rY (hu W5 s2 Y H2 _ I2 q2) λvu s3 zz=>x5 zz λu H3 I3 pu q3=>?_);rw[evalPart_none];refine df ?_;have I4:Inv X W5 Y H3 {s3 with heap:=s3.heap.push {cls:=.type "slice",data:=.fields #[vl,vu,.none]}}:=I3.kept (t':=s3.toks) λb ob q=>cY _ q;obtain⟨T,id,hT,ht,hg⟩:=hr W5 {s3 with heap:=s3.heap.push {cls:=.type "slice",data:=.fields #[vl,vu,.none]}} Y H3 x v vl vu l u s3.heap.objs.size Q I4 r1 (mh ..) pl pu q3;show Ch (pi X.prog X.w) X.A (subscriptTail e (.Slice lo hi Fa p2) v (.ref s3.heap.objs.size)) (EP X W5 Y Q) X.xe {s3 with heap:=s3.heap.push {cls:=.type "slice",data:=.fields #[vl,vu,.none]}};exact tail_any (ops:=[.ref s3.heap.objs.size,v]) ht hT hg (by with_unfolding_all rfl)
noncomputable def Bv(xs:T0 V)(lo hi:Option Int):T0 V:=(xs.drop (HT.sS xs.length 0 lo)).take (HT.sS xs.length xs.length hi - HT.sS xs.length 0 lo)
def An(xs:T0 V)(lo hi:Option Int):(Bv xs lo hi).length<=xs.length:=by unfold Bv;rw[fg,fZ];lia
def Vv(K:qk):V->Option Int->Option Int->Hp->VK->Prop:=λx lo hi H Q=>∃a xs,x=.ref a/\vk K H a xs/\
 ¬(HT.sS xs.length 0 lo=0/\HT.sS xs.length xs.length hi=xs.length)/\∀p,H p=Fa->Q (.ref p) (upd H p (.tup (Bv xs lo hi)))
def Rk:TL X (Vv X.K):=by
 intro W5 s Y H x v vl vu lo hi sl Q I rx hs pl pu h;obtain⟨a,xs,rfl,hx,hw,q⟩:=h;cases rx;obtain⟨its,r,ht,hz⟩:=I.tuple hx;have Xa:its.toArray.size=xs.length:=by rw[dh];exact r.length.symm
 refine⟨"tuple",_,fk.lookup,ht.typeIs,?_⟩;refine HT.zi ht hs pl pu (by rw[Xa];exact hw) ?_ (by rw[Xa];exact hz);rw[Xa];refine⟨.ref s.heap.objs.size,_,I.laid (t':=s.toks) (o:=.tup (Bv xs lo hi)) (λb ob q=>cY _ q) (cZ _) ?_,Z',q _ (I.mD.fresh (cZ _))⟩;exact⟨dS (An xs lo hi) hz,_,(r.drop (HT.sS xs.length 0 lo)).take (HT.sS xs.length xs.length hi - HT.sS xs.length 0 lo),E1.new _ _⟩
def TU(K:qk):R2:=λx y H Q=>∃a b xs ys,x=.ref a/\y=.ref b/\vk K H a xs/\vk K H b ys/\xs≠[]/\xs.length+ys.length<=Uf/\
 (ys=[]->Q (.ref a) H)/\(ys≠[]->∀p,H p=Fa->Q (.ref p) (upd H p (.tup (xs++ys))))
def qo.ny(r:qo xs us):us=[]↔xs=[]:=by
 cases r with
 | nil=>simp
 | cons _ _=>simp
def P5:xq X (wP .Add) (TU X.K):=by intro W5 s Y H x y v u Q I rx ry h;obtain⟨a,b,xs,ys,rfl,rfl,ha,hb,hx,hz,q1,q2⟩:=h;cases rx;cases ry;obtain⟨its,r1,p1,_⟩:=I.tuple ha;obtain⟨its2,r2,p2,_⟩:=I.tuple hb;refine HT.Qc p1 p2 (λz=>hx (r1.ny.mp z)) (λz=>⟨.ref a,H,I,Z',q1 (r2.ny.mp z)⟩) (λz=>?_) (by rw[<-r1.length,<-r2.length];exact hz);refine⟨.ref s.heap.objs.size,_,I.laid (t':=s.toks) (o:=.tup (xs++ys)) (λb ob q=>cY _ q) (cZ _) ?_,Z',q2 (λw=>z (r2.ny.mpr w)) _ (I.mD.fresh (cZ _))⟩;exact⟨by rw[cU];exact hz,_,r1.append r2,E1.new _ _⟩
noncomputable def G7(n:Nat)(i:Int):Option Nat:=if 0<=i then(if i<n then ga i.toNat else Fa)else if -(n:Int)<=i then ga (i+n).toNat else Fa
noncomputable def vR{α:Type}(xs:List α)(i:Int):Option α:=(G7 xs.length i).bind λj=>xs[j]?
def JF{j:Nat}(h:G7 n i=ga j):seqIndex? i n=ga j/\j<n/\-(n:Int)<=i/\i<n:=by
 unfold G7 at h;by_cases h0:0<=i
 .rw[cX h0]at h;by_cases h1:i<n
  .rw[cX h1]at h;have e:i.toNat=j:=de h;exact⟨by rw[k9 h0 h1,e],by lia,by lia,h1⟩
  .rw[cW h1]at h;cases h
 .rw[cW h0]at h;by_cases h1:-(n:Int)<=i
  .rw[cX h1]at h;have e:(i+n).toNat=j:=de h;exact⟨by rw[kH (by lia) h1,e],by lia,h1,by lia⟩
  .rw[cW h1]at h;cases h
def FI{α:Type}{xs:List α}{i:Int}{v:α}(h:vR xs i=ga v):∃j,seqIndex? i xs.length=ga j/\xs[j]?=ga v/\j<xs.length/\-(xs.length:Int)<=i/\i<xs.length:=by
 unfold vR at h;cases e:G7 xs.length i with
 | none=>rw[e]at h;cases h
 | some j=>rw[e]at h;obtain⟨h1,h2,h3,h4⟩:=JF e;exact⟨j,h1,h,h2,h3,h4⟩
def uR{α:Type}{xs:List α}{j:Nat}{v:α}(h:xs[j]?=ga v):vR xs (j:Int)=ga v:=by
 have hj:j<xs.length:=(cV.mp h).1;have e:G7 xs.length (j:Int)=ga j:=by unfold G7;rw[cX (by lia),cX (by lia)];simp
 unfold vR;rw[e];exact h
def Bo(b:Tl):Prop:=∀o i,subscripted b pc o i=operate [o,i] (W' o i)
def Tq(X:Cx)(r:R2):Prop:=
 ∀(value Xh:Tl) (W5:QQY) (s:Sd) (Y:St) (H:Hp) (x y:V) (v u:Vl) (Q:VK),Inv X W5 Y H s->qz x v->qz y u->r x y H Q->
  subscripted Xh pc v u=operate [v,u] (W' v u)->Ch (pi X.prog X.w) X.A (subscriptTail value Xh v u) (EP X W5 Y Q) X.xe s
def WL(X:Cx)(id:String)(r:V->T0 V->Hp->VK->Prop):Prop:=
 ∀(W5:QQY) (s:Sd) (Y:St) (H:Hp) (x:V) (xs:T0 V) (v:Vl) (us:T0 Vl) (Q:VK),Inv X W5 Y H s->qz x v->qo xs us->r x xs H Q->
  Ch (pi X.prog X.w) X.A (call (.builtin id) (v::us)) (EP X W5 Y Q) X.xe s
variable {o:Tl}{es:T0 Tl}{to:TE}{t:TA}{name:Str}{W8 Xc:Pos}{T id:String}{r:V→T0 V→Hp→VK→Prop}{a:Tl}{ta tb:TE}
section
variable {b:Tl}
def Nu{r:R2}(hr:Tq X r)(ha:PE X a ta)(hb:PE X b tb)(hs:Bo b):PE X (.Subscript a b pos) (Uc r ta tb):=by intro W5 s Y H Q I h;exact Subscript_ (Q3 ha hb I h λv u s2 x y H2 I2 rx ry q=>hr a b W5 s2 Y H2 x y v u Q I2 rx ry q (hs _ _))
def Wn(K:qk):R2:=λx y H Q=>∃p xs i v,x=.ref p/\y=.int i/\xk K H p xs/\vR xs i=ga v/\Q v H
def Wr(K:qk):R2:=λx y H Q=>∃p xs i v,x=.ref p/\y=.int i/\vk K H p xs/\vR xs i=ga v/\Q v H
def Wh:R2:=λx y H Q=>∃z i c,x=.str z/\y=.int i/\z.length<=Uf/\vR z.cps.toList i=ga c/\Q (.str ⟨#[c]⟩) H
def Ja:Tq X (Wn X.K):=by
 intro value Xh W5 s Y H x y v u Q I rx ry h hs;obtain⟨p,xs,i,z,rfl,rfl,hq,he,q⟩:=h;cases rx;obtain⟨t,rfl⟩:=ry;obtain⟨its,r,pl,hz⟩:=I.list hq;obtain⟨j,h1,h2,h3,h4,h5⟩:=FI he;obtain⟨w,ew,YN⟩:=r.get h2;have hl:=r.length;have hn:=yH;have Xb:EP X W5 Y Q w s:=⟨z,H,I,YN,q⟩;by_cases h0:0<=i
 .have hj:i.toNat=j:=by rw[k9 h0 h5]at h1;exact de h1
  exact item_listR pl.isList h0 (by lia) (by rw[hj];simpa using ew) Xb hs
 .have hj:(i+(its.toArray.size:Int)).toNat=j:=by rw[kH (by lia) h4]at h1;rw[dh,<-hl];exact de h1
  exact jS (x:=w) pl.isList.typeIs kU.lookup
   (wpAny_getItem_list_neg (Q:=λr s'=>r=w/\EP X W5 Y Q r s') pl.isList (by lia) (by rw[dh]<;>lia) (by lia) (by rw[hj];simpa using ew) ⟨Z',Xb⟩) hs
def SV:Tq X (Wr X.K):=by
 intro value Xh W5 s Y H x y v u Q I rx ry h hs;obtain⟨p,xs,i,z,rfl,rfl,hq,he,q⟩:=h;cases rx;obtain⟨t,rfl⟩:=ry;obtain⟨its,r,pl,hz⟩:=I.tuple hq;obtain⟨j,h1,h2,h3,h4,h5⟩:=FI he;obtain⟨w,ew,YN⟩:=r.get h2;have hl:=r.length;have hn:=yH;have Xb:EP X W5 Y Q w s:=⟨z,H,I,YN,q⟩;exact jS (x:=w) pl.typeIs slot_tuple_getitem.lookup
  (getItem_tuple (j:=j) (Q:=λr s'=>r=w/\EP X W5 Y Q r s') pl (by lia) (by lia) (by rw[dh,<-hl];exact h1) (by simpa using ew) ⟨Z',Xb⟩) hs
def Rw:Tq X Wh:=by
 intro value Xh W5 s Y H x y v u Q I rx ry h hs;obtain⟨z,i,c,rfl,rfl,hz,he,q⟩:=h;obtain⟨t,rfl⟩:=rx;obtain⟨t',rfl⟩:=ry;obtain⟨j,h1,h2,h3,h4,h5⟩:=FI he;have hl:z.cps.toList.length=z.length:=by simp[Str.length]
 rw[hl]at h1 h4 h5;have hn:=yH;exact tail_any (typeIs_str s z t) slot_str_getitem.lookup (getItem_str (c:=c) (by
  have e1:decide (i< -(2 ^ 63:Int))=pc:=dZ (by lia);have e2:decide (i>=2 ^ 63)=pc:=dZ (by lia);rw[e1,e2,je]) (by rw[h1];simpa using h2) ⟨.str ⟨#[c]⟩,H,I.tok _,⟨_,Z'⟩,q⟩) hs
def HP(its:T0 Vl)(n j:Nat)(u:Vl):Obj.mapSeq (·.setIfInBounds j u) {cls:=.type "list",data:=.seq its.toArray n}={cls:=.type "list",data:=.seq (its.set j u).toArray n}:=by simp[Obj.mapSeq]
def Inv.lst{p:lf}{xs:T0 V}(I:Inv X W5 Y H s)(h:H p=ga (.lst xs)):
  ∃(its:T0 Vl) (n:Nat),qo xs its/\s.heap.get? p=ga {cls:=.type "list",data:=.seq its.toArray n}/\xs.length<=Uf:=by
 obtain⟨z,its,n,r,e⟩:=I.mD p _ h;exact⟨its,n,r,e,z⟩
def Inv.nW{p:lf}{xs ys:T0 V}{its its':T0 Vl}{n n':Nat}{f:Obj->Obj}(I:Inv X W5 Y H s)(h:H p=ga (.lst xs)) (ho:s.heap.get? p=ga {cls:=.type "list",data:=.seq its.toArray n}) (hf:f {cls:=.type "list",data:=.seq its.toArray n}={cls:=.type "list",data:=.seq its'.toArray n'}) (r:qo ys its') (hz:ys.length<=Uf) (t:Nat):
  Inv X W5 Y (upd H p (.lst ys)) {s with heap:=s.heap.update p f,toks:=t}:=by
 have e:(s.heap.update p f).get? p=ga {cls:=.type "list",data:=.seq its'.toArray n'}:=by rw[fA f ho (by rw[hf]<;>rfl),hf]
 refine I.write (x:=p) (e:=p) (by rw[h];trivial) (.inl Z') (λb u hb q=>(fV _ _ (dQ hb)).trans q) ⟨_,e⟩ ?_;exact⟨hz,its',n',r,e⟩
def Tz:V->V->V->Hp->(Hp->Prop)->Prop:=λo i v H Q=>∃p xs k j,o=.ref p/\i=.int k/\H p=ga (.lst xs)/\G7 xs.length k=ga j/\Q (upd H p (.lst (xs.set j v)))
def NR:TX X Tz:=by
 intro W5 s Y H o i v ov iv u Q I ro ri rv h;obtain⟨p,xs,k,j,rfl,rfl,hp,hj,q⟩:=h;cases ro;obtain⟨t,rfl⟩:=ri;obtain⟨its,n,r,ho,hz⟩:=I.lst hp;obtain⟨h1,h2,h3,h4⟩:=JF hj;have hl:=r.length;have hn:=yH;have I':Inv X W5 Y (upd H p (.lst (xs.set j v))) {s with heap:=s.heap.update p (Obj.mapSeq (·.setIfInBounds j u))}:=
  I.nW hp ho (HP its n j u) (r.set rv j) (by rw[ii];exact hz) s.toks
 by_cases h0:0<=k
 .have hk:k.toNat=j:=by rw[k9 h0 h4]at h1;exact de h1
  exact W.ki_setAt ho h0 (by lia) (by rw[dh,<-hl];exact h4) (by rw[hk];exact⟨_,I',q⟩)
 .have hk:(k+(its.toArray.size:Int)).toNat=j:=by rw[kH (by lia) h3]at h1;rw[dh,<-hl];exact de h1
  exact W.ki_setBack ho (by lia) (by rw[dh,<-hl];exact h3) (by lia) (by rw[hk];exact⟨_,I',q⟩)
def Fo(lo hi:Option Int)(n:Nat):(X' lo hi Fa n).1=((HT.sS n 0 lo:Nat):Int)/\(X' lo hi Fa n).2.1=((HT.sS n n hi:Nat):Int)/\(X' lo hi Fa n).2.2=1:=by
 refine⟨?_,?_,Z'⟩
 .cases lo with
  | none=>simp[X',HT.sS]
  | some i=>
   simp only[X',HT.sS,lB,show(1:Int)>0 by decide,iU];by_cases h:i<0
   .simp only[h,iU]<;>lia
   .simp only[h,lA]<;>lia
 .cases hi with
  | none=>simp[X',HT.sS]
  | some i=>
   simp only[X',HT.sS,lB,show(1:Int)>0 by decide,iU];by_cases h:i<0
   .simp only[h,iU]<;>lia
   .simp only[h,lA]<;>lia
def CQ(its:T0 Vl)(lo hi:Option Int):slicePick its.toArray lo hi Fa=((its.drop (HT.sS its.length 0 lo)).take (HT.sS its.length its.length hi - HT.sS its.length 0 lo)).toArray:=by obtain⟨h1,h2,h3⟩:=Fo lo hi its.toArray.size;unfold slicePick;rw[h1,h2,h3];simp only[sliceRange_one,pick_run,dh]<;>rfl
def VJ(K:qk):V->Option Int->Option Int->Hp->VK->Prop:=λx lo hi H Q=>∃a xs,x=.ref a/\xk K H a xs/\∀p,H p=Fa->Q (.ref p) (upd H p (.lst (Bv xs lo hi)))
def Iu:TL X (VJ X.K):=by intro W5 s Y H x v vl vu lo hi sl Q I rx hs pl pu h;obtain⟨a,xs,rfl,hx,q⟩:=h;cases rx;obtain⟨its,r,ht,hz⟩:=I.list hx;have Xa:=r.length;refine⟨"list",_,kU.lookup,ht.isList.typeIs,?_⟩;refine wpAny_getItem_list_slice ht.isList hs pl pu .none (by simp) ?_ (by rw[dh]<;>lia);rw[CQ,<-Xa];refine⟨.ref s.heap.objs.size,_,I.laid (t':=s.toks) (o:=.lst (Bv xs lo hi)) (λb ob q=>cY _ q) (cZ _) ?_,Z',q _ (I.mD.fresh (cZ _))⟩;exact⟨dS (An xs lo hi) hz,_,0,(r.drop (HT.sS xs.length 0 lo)).take (HT.sS xs.length xs.length hi - HT.sS xs.length 0 lo),dG _ Z'⟩
noncomputable def yr:V->Bool
 | .mx=>Db
 | .bl _=>Db
 | .int _=>Db
 | .str _=>Db
 | _=>pc
noncomputable def NS:V->V->Bool
 | .mx,.mx=>Db
 | .bl a,.bl b=>a==b
 | .bl a,.int b=>(if a then 1 else 0)==b
 | .int a,.bl b=>a==(if b then 1 else 0)
 | .int a,.int b=>a==b
 | .str a,.str b=>a==b
 | _,_=>pc
def RP(ry:qz y u)(rx:qz x v)(fy:yr y=Db)(fx:yr x=Db):SeqAt.EqAt A s u v (NS y x):=by
 cases y with
 | mx=>
  cases ry;cases x with
  | mx=>cases rx;exact SeqAt.EqAt.same _
  | bl b=>cases rx;exact SeqAt.EqAt.none_bool b
  | int b=>obtain⟨t,rfl⟩:=rx;exact SeqAt.EqAt.none_int b t
  | str b=>obtain⟨t,rfl⟩:=rx;exact SeqAt.EqAt.none_str b t
  | _=>exact absurd (show pc=Db from fx) dv
 | bl a=>
  cases ry;cases x with
  | mx=>cases rx;exact SeqAt.EqAt.bool_none a
  | bl b=>cases rx;exact SeqAt.EqAt.bool_bool a b
  | int b=>obtain⟨t,rfl⟩:=rx;exact SeqAt.EqAt.bool_int a b t
  | str b=>obtain⟨t,rfl⟩:=rx;exact SeqAt.EqAt.bool_str a b t
  | _=>exact absurd (show pc=Db from fx) dv
 | int a=>
  obtain⟨t',rfl⟩:=ry;cases x with
  | mx=>cases rx;exact SeqAt.EqAt.int_none a t'
  | bl b=>cases rx;exact SeqAt.EqAt.int_bool a t' b
  | int b=>obtain⟨t,rfl⟩:=rx;exact SeqAt.EqAt.int_int a t' b t
  | str b=>obtain⟨t,rfl⟩:=rx;exact kz a t' b t
  | _=>exact absurd (show pc=Db from fx) dv
 | str a=>
  obtain⟨t',rfl⟩:=ry;cases x with
  | mx=>cases rx;exact SeqAt.EqAt.str_none a t'
  | bl b=>cases rx;exact SeqAt.EqAt.str_bool a t' b
  | int b=>obtain⟨t,rfl⟩:=rx;exact kA a t' b t
  | str b=>obtain⟨t,rfl⟩:=rx;exact SeqAt.EqAt.str_str a t' b t
  | _=>exact absurd (show pc=Db from fx) dv
 | _=>exact absurd (show pc=Db from fy) dv
noncomputable def Eo(x:V)(u:Vl):Bool:=match u with
 | .none=>NS .mx x
 | .bool b=>NS (.bl b) x
 | .int i _=>NS (.int i) x
 | .str z _=>NS (.str z) x
 | _=>pc
def Hv(r:qz y u)(f:yr y=Db):Eo x u=NS y x:=by
 cases y with
 | mx=>cases r;rfl
 | bl b=>cases r;rfl
 | int i=>obtain⟨t,rfl⟩:=r;rfl
 | str z=>obtain⟨t,rfl⟩:=r;rfl
 | _=>exact absurd (show pc=Db from f) dv
theorem zv:∀{xs:T0 V} {us:T0 Vl},qo xs us->xs.all yr=Db->us.any (Eo x)=xs.any λy=>NS y x
 | _,_,.nil,_=>rfl
 | y::xs,u::us,.cons r t,f=>by rw[gm,dR]at f;rw[fX,fX,Hv r f.1,zv t f.2]
theorem vT(rx:qz x v)(fx:yr x=Db):∀{xs:T0 V} {us:T0 Vl},qo xs us->xs.all yr=Db->∀u∈us,SeqAt.EqAt A s u v (Eo x u)
 | _,_,.nil,_=>λu hu=>by cases hu
 | y::xs,u::us,.cons r t,f=>λu' hu=>by
  rw[gm,dR]at f;rcases dg.mp hu with rfl|hu
  .rw[Hv r f.1];exact RP r rx f.1 fx
  .exact vT rx fx t f.2 u' hu
noncomputable def inV(x:V)(xs:T0 V):Bool:=xs.any λy=>NS y x
def VH(K:qk)(YH:Bool):R2:=λx y H Q=>∃p xs,y=.ref p/\(xk K H p xs\/vk K H p xs)/\yr x=Db/\xs.all yr=Db/\Q (.bl (if YH then !inV x xs else inV x xs)) H
def JP:xq X (wp .In) (VH X.K pc):=by
 intro W5 s Y H x y v u Q I rx ry h;obtain⟨p,xs,rfl,hq,fx,fs,q⟩:=h;cases ry;rcases hq with hq|hq
 .obtain⟨its,r,pl,hz⟩:=I.list hq;refine SeqAt.in_listAt (Eo x) pl.isList (λw hw=>vT rx fx r fs w (by simpa using hw)) ⟨.bl _,H,I,Z',?_⟩;rw[show its.toArray.any (Eo x)=its.any (Eo x)by simp,zv r fs];exact q
 .obtain⟨its,r,pl,hz⟩:=I.tuple hq;refine SeqAt.in_tupleAt (Eo x) pl (λw hw=>vT rx fx r fs w (by simpa using hw)) ⟨.bl _,H,I,Z',?_⟩;rw[show its.toArray.any (Eo x)=its.any (Eo x)by simp,zv r fs];exact q
def Fi:xq X (wp .NotIn) (VH X.K Db):=by
 intro W5 s Y H x y v u Q I rx ry h;obtain⟨p,xs,rfl,hq,fx,fs,q⟩:=h;cases ry;rcases hq with hq|hq
 .obtain⟨its,r,pl,hz⟩:=I.list hq;refine SeqAt.notIn_listAt (Eo x) pl.isList (λw hw=>vT rx fx r fs w (by simpa using hw)) ⟨.bl _,H,I,Z',?_⟩;rw[show its.toArray.any (Eo x)=its.any (Eo x)by simp,zv r fs];exact q
 .obtain⟨its,r,pl,hz⟩:=I.tuple hq;refine SeqAt.notIn_tupleAt (Eo x) pl (λw hw=>vT rx fx r fs w (by simpa using hw)) ⟨.bl _,H,I,Z',?_⟩;rw[show its.toArray.any (Eo x)=its.any (Eo x)by simp,zv r fs];exact q
def Ei:xq X (wp .NotIn) (λx y H Q=>∃i j,x=.str i/\y=.str j/\Q (.bl (!(!(Builtin.Str.occurrences j i 0 j.length 1).isEmpty))) H):=by intro W5 s Y H x y v u Q I rx ry h;obtain⟨i,j,rfl,rfl,q⟩:=h;obtain⟨t,rfl⟩:=rx;obtain⟨t',rfl⟩:=ry;exact notIn_str ⟨.bl _,H,I,Z',q⟩
def wQ:xp X (.builtin "len") (λxs H Q=>∃p ys,xs=[.ref p]/\(xk X.K H p ys\/vk X.K H p ys)/\Q (.int ys.length) H):=by
 intro W5 s Y H xs us Q I r h;obtain⟨p,ys,rfl,hq,q⟩:=h;obtain⟨u,rfl,rx⟩:=vV r;cases rx;have hn:=yH;rcases hq with hq|hq
 .obtain⟨its,r',pl,hz⟩:=I.list hq;have Xa:=r'.length;exact Calls.call_len_list pl.isList (by simp only[dh]<;>lia) ⟨.int ys.length,H,I.tok _,⟨s.toks+1,by rw[dh,Xa]⟩,q⟩
 .obtain⟨its,r',pl,hz⟩:=I.tuple hq;have Xa:=r'.length;exact len_tuple pl (by simp only[dh]<;>lia) ⟨.int ys.length,H,I.tok _,⟨s.toks+1,by rw[dh,Xa]⟩,q⟩
def Fv:xp X (.builtin "len") (λxs H Q=>∃z,xs=[.str z]/\z.length<=Uf/\Q (.int z.length) H):=by intro W5 s Y H xs us Q I r h;obtain⟨z,rfl,hz,q⟩:=h;obtain⟨u,rfl,t,rfl⟩:=vV r;have hn:=yH;exact len_str (by lia) ⟨.int z.length,H,I.tok _,⟨_,Z'⟩,q⟩
def FF:xp X (.type "list") (λxs H Q=>∃p ys,xs=[.ref p]/\(xk X.K H p ys\/vk X.K H p ys)/\∀l,H l=Fa->Q (.ref l) (upd H l (.lst ys))):=by
 intro W5 s Y H xs us Q I r h;obtain⟨p,ys,rfl,hq,q⟩:=h;obtain⟨u,rfl,rx⟩:=vV r;cases rx;have Xb:∀(its:T0 Vl),qo ys its->ys.length<=Uf->∀(h':Go) (c':Nat),(∀b o',s.heap.get? b=ga o'->h'.get? b=ga o')->
   h'.get? s.heap.objs.size=ga {cls:=.type "list",dict:=none,data:=.seq its.toArray c',slots:=#[]}->EP X W5 Y Q (.ref s.heap.objs.size) {s with heap:=h'}:=λits r' hz h' c' kp e=>
  ⟨.ref s.heap.objs.size,_,I.laid (t':=s.toks) kp (cZ _) (show sG X.prog X.w _ h' _ (.lst ys)from⟨hz,its,c',r',e⟩),Z',q _ (I.mD.fresh (cZ _))⟩
 rcases hq with hq|hq
 .obtain⟨its,r',pl,hz⟩:=I.list hq;have Xa:=r'.length;obtain⟨o,ho,hc,n,hd⟩:=pl.isList;exact call_list_seq p (.inl Z') ho hc hd (λh' c' kp e=>Xb its r' hz h' c' kp e) (by simp only[dh]<;>lia)
 .obtain⟨its,r',pl,hz⟩:=I.tuple hq;have Xa:=r'.length;obtain⟨o,ho,hc,n,hd⟩:=pl;exact call_list_seq p (.inr Z') ho hc hd (λh' c' kp e=>Xb its r' hz h' c' kp e) (by simp only[dh]<;>lia)
def vP:xp X (.type "tuple") (λxs H Q=>∃p ys,xs=[.ref p]/\((xk X.K H p ys/\∀l,H l=Fa->Q (.ref l) (upd H l (.tup ys)))\/(vk X.K H p ys/\Q (.ref p) H))):=by
 intro W5 s Y H xs us Q I r h;obtain⟨p,ys,rfl,h⟩:=h;obtain⟨u,rfl,rx⟩:=vV r;cases rx;rcases h with⟨hq,q⟩|⟨hq,q⟩
 .obtain⟨its,r',pl,hz⟩:=I.list hq;have Xa:=r'.length;refine call_tuple_list pl.isList (λh' kp=>?_) (by simp only[dh]<;>lia);have I1:Inv X W5 Y H {s with heap:=h'}:=I.kept (t':=s.toks) kp;have I2:Inv X W5 Y (upd H h'.objs.size (.tup ys)) {s with heap:=h'.push {cls:=.type "tuple",data:=.seq its.toArray}}:=
   I1.laid (t':=s.toks) (λb o e=>cY _ e) (cZ _) (show sG X.prog X.w _ _ _ (.tup ys)from⟨hz,its,r',E1.new _ _⟩)
  exact⟨.ref h'.objs.size,_,I2,Z',q _ (I1.mD.fresh (cZ _))⟩
 .obtain⟨its,r',pl,hz⟩:=I.tuple hq;exact call_tuple_same pl ⟨.ref p,H,I,Z',q⟩
def VC(K:qk)(T:String)(x:V)(H:Hp):Prop:=match x with
 | .str _=>T="str"
 | .int _=>T="int"
 | .ref p=>(T="list"/\∃xs,xk K H p xs)\/(T="tuple"/\∃o,K.lookup p=ga o/\o.cls=.type "tuple"/\o.dict=Fa)\/
   (T="dict"/\((∃kvs,H p=ga (.dK kvs))\/∃kvs,H p=ga (.dT kvs)))\/(T="set"/\∃S n,H p=ga (.set S n))
 | _=>False
def RL(I:Inv X W5 Y H s)(r:qz x v)(ty:VC X.K T x H):
  s.TypeIs v T/\∀a,v=.ref a->∃ob,s.heap.get? a=ga ob/\ob.dict=Fa:=by
 cases x with
 | str z=>obtain⟨t,rfl⟩:=r;cases(show T="str" from ty);exact⟨typeIs_str s z t,λ_ e=>nomatch e⟩
 | int i=>obtain⟨t,rfl⟩:=r;cases(show T="int" from ty);exact⟨lJ s i t,λ_ e=>nomatch e⟩
 | ref p=>
  cases r;rcases ty with⟨rfl,xs,hq⟩|⟨rfl,o,hk,hc,hd⟩|⟨rfl,hk⟩|⟨rfl,S,n,hk⟩
  .obtain⟨its,_,pl,_⟩:=I.list hq;refine⟨pl.isList.typeIs,λa e=>?_⟩;cases e;obtain⟨o,n,e,c,hd,_⟩:=pl;exact⟨o,e,hd⟩
  .refine⟨⟨o,I.m7 p o hk,hc⟩,λa e=>?_⟩;cases e;exact⟨o,I.m7 _ o hk,hd⟩
  .have z:∃o,s.heap.get? p=ga o/\o.ExactDict:=by
    rcases hk with⟨kvs,hk⟩|⟨kvs,hk⟩
    .obtain⟨_,_,_,_,o,_,_,e,ex,_⟩:=I.mD p _ hk;exact⟨o,e,ex⟩
    .obtain⟨_,_,_,_,o,_,_,e,ex,_⟩:=I.mD p _ hk;exact⟨o,e,ex⟩
   obtain⟨o,e,ex⟩:=z;refine⟨⟨o,e,ex.1⟩,λa e2=>?_⟩;cases e2;exact⟨o,e,ex.2.1⟩
  .obtain⟨o,_,_,_,e,ex,_⟩:=I.mD p _ hk;refine⟨⟨o,e,ex.1⟩,λa e2=>?_⟩;cases e2;exact⟨o,e,ex.2.1⟩
 | _=>exact False.elim ty
def W0(K:qk)(T:String)(r:V->T0 V->Hp->VK->Prop)(to:TE)(t:TA):TE:=λY H Q=>to Y H λx H1=>VC K T x H1/\t Y H1 λxs H2=>r x xs H2 Q
def Tv(pa:PlainAttrs T)(slot:Slot T name id)(hty:typeOf (.builtin id)=pure (.type "method_descriptor"))(hm:WL X id r)(ho:PE X o to)(ha:PA X (e::es) t) (Xq:wE o name X.env (No o X.env)=No o X.env:=by rfl)
  (Yo:((At Xc (Tk (e::es) X.env)).all (λx=>!x.1)&&(dL Xc (Op [] X.env)).all (λx=>x.1.isSome)
   &&decide ((e::es).length+([]:T0 Z9).length+(if ([]:T0 Z9).isEmpty then 0 else 1)<30))=Db:=by rfl)
  (XB:(W8.endLine==Xc.line)=Db:=by rfl) (hs:AE X e es:=by rfl) (Xn:Ce X Xc es:=by rfl):
  PE X (.Call (.Attribute o name W8) (e::es) [] Xc) (W0 X.K T r to t):=by
 intro W5 s Y H Q I h;refine wpAny_Call_method_late Xq Yo XB Z' (rY (ho W5 s Y H _ I h) λv s1 zz=>?_);obtain⟨x,H1,I1,r1,ty,q1⟩:=zz;obtain⟨h1,h2⟩:=RL I1 r1 ty;refine⟨T,id,pa,slot,hty,h1,h2,?_⟩;have hA:=ha Xc W5 s1 Y H1 _ I1 q1;rw[hs]at hA ⊢;refine jT (by show(pc||(At Xc (Tk es X.env)).any (·.1))=pc;rw[Xn]<;>rfl) (j6 ?_);exact rY hA λus s2 zz=>x5 zz λvs H2 I2 r2 q2=>hm W5 s2 Y H2 x vs v us Q I2 r1 r2 q2
end
def W1(X:Cx)(id:String)(r:V->T0 V->Hp->VK->Prop):Prop:=
 ∀(W5:QQY) (s:Sd) (Y:St) (H:Hp) (x:V) (xs:T0 V) (v:Vl) (us:T0 Vl) (Q:VK),Inv X W5 Y H s->qz x v->qo xs us->r x xs H Q->
  Ch (pi X.prog X.w) X.A (call (.builtin id) (v::us)) (EP X W5 Y Q) X.xe s
def qo.one:∀{x:V} {us:T0 Vl},qo [x] us->∃u,us=[u]/\qz x u
 | _,_,.cons r .nil=>⟨_,Z',r⟩
theorem qo.rep(h:qo xs us):∀k:Nat,qo (List.replicate k xs).flatten (List.replicate k us).flatten
 | 0=>.nil
 | k+1=>by rw[eh,eh,fG,fG];exact qo.append h (qo.rep h k)
theorem DY(its:T0 Vl):∀(k:Nat) (acc:T0 Vl),List.foldl (λx1 x2=>x1++x2) acc.toArray (List.replicate k its.toArray)=(acc++(List.replicate k its).flatten).toArray
 | 0,acc=>by simp
 | k+1,acc=>by
  have e:acc.toArray++its.toArray=(acc++its).toArray:=by simp
  have e2:(acc++its)++(List.replicate k its).flatten=acc++(List.replicate (k+1) its).flatten:=by rw[eh,fG,eN]
  rw[<-e2,<-DY its k (acc++its),<-e,eh,fQ]
variable {W5:T0 (lf × Obj)}{Y:St}{H:Hp}{s:Sd}{l:lf}{xs ys zs:T0 V}
section
variable {b:lf}
def Inv.lset{its its':T0 Vl}{n:Nat}{f:Array Vl->Array Vl}{t':Nat}(I:Inv X W5 Y H s)(hH:H l=ga (.lst xs)) (e:s.heap.get? l=ga {cls:=.type "list",data:=.seq its.toArray n}) (hf:f its.toArray=its'.toArray) (hv:qo ys its') (hz:ys.length<=Uf):
  Inv X W5 Y (upd H l (.lst ys)) {s with heap:=s.heap.update l (Obj.mapSeq f),toks:=t'}:=by
 have q:=PySem.IsL.update e f;rw[hf]at q;refine I.write (x:=l) (e:=l) (by rw[hH];exact trivial) (.inl Z') (λb' u hb hu=>(fV s.heap (Obj.mapSeq f) (dQ hb)).trans hu) ⟨_,q⟩ ?_;exact⟨hz,its',_,hv,q⟩
def Inv.oA{t':Nat}(I:Inv X W5 Y H s)(hv:qo ys its)(hz:ys.length<=Uf):
  Inv X W5 Y (upd H s.heap.objs.size (.lst ys)) {s with heap:=s.heap.push {cls:=.type "list",data:=.seq its.toArray},toks:=t'}:=
 I.laid (λ_ _ q=>cY _ q) (cZ _) ⟨hz,its,0,hv,dG _ Z'⟩
def Inv.fresh(I:Inv X W5 Y H s):H s.heap.objs.size=Fa:=I.mD.fresh (cZ _)
def Inv.nU(I:Inv X W5 Y H s)(hH:H l=ga (.lst xs)):xs.length<=Uf/\∃(its:T0 Vl) (n:Nat),qo xs its/\xs.length=its.length/\s.heap.get? l=ga {cls:=.type "list",data:=.seq its.toArray n}:=by obtain⟨z,its,n,r,e⟩:=I.mD l _ hH;exact⟨z,its,n,r,r.length,e⟩
def Lq{n:Nat}(h:n<=Uf):Builtin.List.listTooLong n=pc:=by unfold Builtin.List.listTooLong;exact dZ (by lia)
end
def Oh:V->T0 V->Hp->VK->Prop:=λx vs H Q=>∃l xs y,x=.ref l/\vs=[y]/\H l=ga (.lst xs)/\xs.length<Uf/\Q .mx (upd H l (.lst (xs++[y])))
def J':W1 X "list.append" Oh:=by intro W5 s Y H x vs v us Q I rx rv h;obtain⟨l,xs,y,rfl,rfl,hH,hz,q⟩:=h;cases rx;obtain⟨u,rfl,ru⟩:=rv.one;obtain⟨z,its,n,r,hl,e⟩:=I.nU hH;refine jn F.slot_list_append ⟨_,e,Z'⟩ F.entry_list_append (F.args_list_append_2 _ _) (PySem.list_append l its.toArray n u (by rw[dh];lia)) ⟨e,?_⟩;refine⟨.mx,_,I.lset (its':=its++[u]) hH e (by simp) (r.append (.cons ru .nil)) ?_,Z',q⟩;rw[cU,dE];lia
def Ws:R2:=λx y H Q=>∃l k xs,x=.ref l/\y=.int k/\H l=ga (.lst xs)/\-(2 ^ 63)<=k/\k<2 ^ 63/\xs.length*k.toNat<=Uf/\
 ∀p,H p=Fa->Q (.ref p) (upd H p (.lst (List.replicate k.toNat xs).flatten))
def PJ{α:Type}(xs:List α)(k:Nat):(List.replicate k xs).flatten.length=k*xs.length:=by
 induction k with
 | zero=>simp
 | succ k ih=>rw[eh,fG,cU,ih,lV,lW]
def RB:xq X (wP .Mult) Ws:=by
 intro W5 s Y H x y v u Q I rx ry h;obtain⟨l,k,xs,rfl,rfl,hH,h1,h2,hz,q⟩:=h;cases rx;obtain⟨t,rfl⟩:=ry;obtain⟨z,its,n,r,hl,e⟩:=I.nU hH;have Xa:its.toArray.size*k.toNat<=Uf:=by rw[dh,<-hl];exact hz
 have hcap:¬its.toArray.size*k.toNat>(2 ^ 63 - 1) / 8:=by
  have:(Uf:Nat)<=(2 ^ 63 - 1) / 8:=by decide
  lia
 have XC:¬(!Builtin.List.listFitsIndex k)=Db:=by rw[fitsIndex_both h1 h2];exact dv
 have hlong:¬Builtin.List.listTooLong (its.toArray.size*k.toNat)=Db:=by rw[Lq Xa];exact dv
 have YO:List.foldl (λx1 x2=>x1++x2) #[] (List.replicate (if its.toArray.isEmpty=Db then 0 else k.toNat) its.toArray)=(List.replicate k.toNat its).flatten.toArray:=by
  have f0:∀m:Nat,List.foldl (λx1 x2=>x1++x2) #[] (List.replicate m its.toArray)=(List.replicate m its).flatten.toArray:=λm=>by have:=DY its m [];rw[dX]at this;exact this
  rw[f0];cases its with
  | nil=>simp
  | cons a r'=>rw[cW (by simp)]
 refine wpAny_binaryOp_repeat_ref (T:="list") (U:="int") (by decide) ⟨_,e,Z'⟩ (λs'=>lJ s' k t) noFill_list_mul F.fills_int_mul lK repeat_list F.slot_int_index.lookup
  (jn lK (lJ s k t) F.entry_int_rmul (F.args_int_rmul_2 _ _) (int___rmul___int_list k t l its.toArray n)
   ⟨e,Z',⟨_,e,Z'⟩,jn F.slot_list_mul ⟨_,e,Z'⟩ F.entry_list_mul (F.args_list_mul_2 _ _) (AutoListH.list___mul___list_int_3 l its.toArray n k t XC hcap hlong) ⟨e,?_⟩⟩)
 rw[YO];exact⟨.ref _,_,I.oA (t':=s.toks) (r.rep k.toNat) (by rw[PJ,Nat.mul_comm];exact hz),Z',q _ I.fresh⟩
variable {prog:Pg}{w:Wo}{A:Ar}{E:QQX}
end L2
namespace Att
open PySem PySem.W PySem.Calls PyProof.Rows
def AV:∀(ns:T0 Int) (vs:T0 Vl),WellAll P h vs (ns.map WData.int)->IntsAre vs ns:=by
 intro ns;induction ns with
 | nil=>intro vs w;rw[iM]at w;cases w;exact .nil
 | cons n ns ih=>
  intro vs w;rw[dW]at w;cases w with
  | cons a b=>cases a;exact .cons _ _ (ih _ b)
def Kd{l:OpenLaw}{n:Nat}(hn:l.most=ga n){P:Params}{h:Go}{args:T0 WData}{ZM:T0 Vl} (Zd:l.row.toRowW.claim.pre args=Db) (hwl:WellAll P h ZM args):
  ∃a vs ns,ZM=[Value.ref a]/\args=[WData.list (ns.map WData.int)]/\h.get? a=ga {cls:=.type "list",data:=.seq vs.toArray}/\IntsAre vs ns/\ns.length<=n:=by
 have hsh:WShape.hasAll [] args [.list .int]=Db:=(pre_splitW Zd).1;have hc:l.pre.holds [] {args:=args}=Db:=(pre_splitW Zd).2;obtain⟨d,r,rfl,h1,h2⟩:=hasAllW_cons hsh;obtain rfl:=hasAllW_nil h2;obtain⟨xs,rfl,h3⟩:=hasW_list h1;obtain⟨ns,rfl⟩:=items_int h3;have Xa:ns.length<=n:=by
  unfold OpenLaw.pre at hc;have h4:(WTm.not (.lt (.lit (.int (n:Int))) (.len (.arg 0)))).holds [] {args:=[.list (ns.map .int)]}=Db:=by have h4:=(holds_andW hc).1;rw[hn]at h4;exact h4
  have h5:=condW_of h4 (w_not (w_lt w_lit (w_len_list (w_arg Z'))));rw[cR]at h5;refine Nat.le_of_not_lt λq=>?_;have q':(n:Int)<((ns.length:Nat):Int):=by lia
  first
   | (rw[dI q']at h5;exact absurd h5 (by decide))
   | (simp at h5;lia)
 cases hwl with
 | cons w1 w2=>
  cases w2;cases w1 with
  | list ho X9=>exact⟨_,_,ns,Z',Z',ho,AV ns _ X9,Xa⟩
def JT(l:OpenLaw)(args:T0 WData):l.row.toRowW.claim.post args (.bool Db) args=Db:=
 postW_of (r:=l.row.toRowW) (X:=(Db==Db))
  (show WShape.has [] (.bool Db) .bool=Db by first|rfl|decide|simp[WShape.has,WShape.arms,WShape.armsAll])
  (show(WTm.eq .res (.lit (.bool Db))).value [] {args:=args,res:=some (.bool Db),after:=args}=ga (.bool (Db==Db))from w_eq_bool (w_res Z') w_lit) Z'
def attach_call{l:OpenLaw}{n:Nat}{YP:Wo->Go->Prop}{d:DefRec} (hn:l.most=ga n) (Zu:d.params.defaults=[]) (call:∀(w:Wo) (s₀ s₁:Sd) (mg mb:QQZ) (fa:lf) (o:Obj) (pm cd XG:Vl) (a:lf) (vs:T0 Vl) (ns:T0 Int),Ground q XX [] XP w s₀ mg mb s₁.heap->YP w s₁.heap->
   s₁.heap.get? fa=ga o->o.data=.func (docDef d.name d.params d.body d.scope pm cd XG)->s₁.heap.CodeRec cd d.name->mg d.name=ga (.ref fa)->
   s₁.heap.get? a=ga {cls:=.type "list",data:=.seq vs.toArray}->IntsAre vs ns->ns.length<=n->s₁.gens=#[]->
   XXb (pi l.prog w) callerA (.call (.ref fa) ⟨[.ref a],[]⟩) (λr s'=>r=.ok (.ret (.bool Db))/\OldK s₁.heap s'.heap/\s'.os=s₁.os/\XXe s'.gens) s₁):
  WalkO q XX XP YP l.row.toRowW d [] (λf vs=>PySem.call f vs):=by
 intro w s₀ s₁ mg mb G Y fa o pm cd XG dV kV ho hd Yl hD hmg hg args ZM as Zd hlay hrd hwl hlo;obtain rfl:dV=.none:=Dflts.none hD Zu;obtain rfl:kV=.none:=Dflts.noKw hD;obtain⟨a,vs,ns,rfl,rfl,ZN,YQ,Xa⟩:=Kd hn Zd hwl;refine enter_call (gN (call w s₀ s₁ mg mb fa o pm cd XG a vs ns G Y ho (fd_plain hd) Yl hmg ZN YQ Xa hg) λr s' hq=>?_);obtain⟨rfl,h2,h3,h4⟩:=hq;exact⟨.inl ⟨.bool Db,.bool Db,[],Z',λ_=>rfl,.bool Db,JT l _,λ_=>⟨List.Pairwise.nil,λ_ hm=>(nomatch hm)⟩⟩,h2,h3,h4⟩
variable {prog:Pg}{w:Wo}{A:Ar}{E:QQX}{s:Sd}{K:Frag}
end Att
namespace L2
theorem DV:∀{vs:T0 Vl} {ns:T0 Int},IntsAre vs ns->qo (ns.map V.int) vs
 | _,_,.nil=>.nil
 | _,_,.cons n t h=>.cons ⟨t,Z'⟩ (DV h)
def MN(H:Hp):Prop:=∀b,H b=Fa\/∃o xs,H b=ga (.frz o (.lst xs))
def K8{P:Pg}{w:Wo}{K:qk}{mg mb:QQZ}{CX:KQ}{fa a:lf}{fd:Rs}{x:Str}{sp:Sp}{s₁:Sd}{vs:T0 Vl} (KX:K.In s₁.heap) (hns:s₁.heap.Ns Ps mg) (hb:s₁.heap.Ns builtinsNs mb) (hbb:∀x:Str,x≠"__name__"->mb x=zn x) (hlim:s₁.heap.NoLimit) (hg:s₁.gens=#[]) (ha:s₁.heap.get? a=ga {cls:=.type "list",data:=.seq vs.toArray}) (hi:IntsAre vs ns) (hl:ns.length<=Uf) (hr:rO k callerA)
  (F:∀base:Go,K.In base->base.Ns Ps mg->xl P w K mg base CX k fa fd [x] sp) (hbind:∀(s:Sd) (u:Vl),BindsTo s fd ⟨[u],[]⟩ [(x,u)])
  (Yz:∀H:Hp,MN H->xk K H a (ns.map V.int)->sp [.ref a] H (λv _=>v=.bl Db) λ_ _ _=>False)
  (hCX:∀H e s',CX [] H s₁ (λ_ _ _=>False) e s'->False):
  XXb (pi P w) callerA (.call (.ref fa) ⟨[.ref a],[]⟩) (λr s'=>r=.ok (.ret (.bool Db))/\OldK s₁.heap s'.heap/\s'.os=s₁.os/\XXe s'.gens) s₁:=by
 have rv:=DV hi;have lenV:=hi.length;have core:∀H:Hp,MN H->xk K H a (ns.map V.int)->yg P w H s₁.heap->(∀b,H b≠Fa->b=a)->(H a≠Fa->K.lookup a=Fa)->
   XXb (pi P w) callerA (.call (.ref fa) ⟨[.ref a],[]⟩) (λr s'=>r=.ok (.ret (.bool Db))/\OldK s₁.heap s'.heap/\s'.os=s₁.os/\XXe s'.gens) s₁:=by
  intro H hO hS mD hA hK;have Yv:∀{b:lf} {o:Obj},s₁.heap.get? b=ga o->H b=Fa->(EA s₁.heap H).get? b=ga o:=λe n=>LS e n;have noA:∀{b:lf} {o:Obj} {es:Array DictEntry} {ep:Nat},s₁.heap.get? b=ga o->o.data=.dict es ep->H b=Fa:=λ{b o es ep} e d=>by
   cases q:H b with
   | none=>rfl
   | some u=>have e':b=a:=hA b (by rw[q];simp);subst e';rw[ha]at e;cases e;have d':Data.seq vs.toArray _=Data.dict es ep:=d;cases d'
  have nsK:∀{b:lf} {m:QQZ},s₁.heap.Ns b m->(EA s₁.heap H).Ns b m:=λ{b m} ⟨o,es,ep,e,d,r⟩=>⟨o,es,ep,Yv e (noA e d),d,r⟩;have hKb:K.In (EA s₁.heap H):=λb o e=>Yv (KX b o e) (by
   cases q:H b with
   | none=>rfl
   | some u=>
    have e':b=a:=hA b (by rw[q];simp);subst e';rw[hK (by rw[q];simp)]at e;cases e)
  have hM:Mod K mg (EA s₁.heap H):=⟨hKb,nsK hns,⟨mb,nsK hb,hbb⟩,let⟨mc,h1,h2⟩:=hlim;⟨mc,nsK h1,h2⟩⟩;have e0:Hl P w K mg (EA s₁.heap H) callerA [] s₁ H:=⟨Z',hM,λb o e=>Qq e,kE (Kf _ _),trivial,λb hb=>absurd (show b∈([]:QXQ)from hb) (by simp),mD,.of_eq hg⟩;refine gN ((F _ hKb (nsK hns)).run callerA [] s₁ H ⟨[.ref a],[]⟩ [.ref a] [.ref a] _ _ hr e0 (hbind s₁ (.ref a)) (.cons Z' .nil) (Yz H hO hS)) λr s' h=>?_;cases r with
  | error e=>exact(hCX H e s' h).elim
  | ok fl=>
   cases fl with
   | next=>exact False.elim h
   | brk=>exact False.elim h
   | cont=>exact False.elim h
   | ret u=>
    obtain⟨v,H',os,bare,un,ZO,r',q⟩:=h;have q':v=.bl Db:=q;subst q';obtain rfl:u=Value.bool Db:=r';refine⟨Z',OldK.of_keep λb o e=>?_,os,bare⟩;cases q:H b with
    | none=>exact un.keep b o e q (by intro z;exact absurd (show b∈([]:QXQ)from z) (by simp)) (by simp)
    | some u=>
     rcases hO b with z|⟨ob,xs,z⟩
     .rw[q]at z;cases z
     .have z2:=un.mW b ob _ z;obtain⟨e1,_⟩:=mD b _ z;obtain⟨e2,_⟩:=ZO b _ z2;rw[e]at e1;cases e1;exact e2
 cases hk:K.lookup a with
 | some o=>have e:=KX a o hk;rw[ha]at e;cases e;refine core (λ_=>Fa) (λ_=>.inl Z') (.inr ⟨_,vs.toArray,_,hk,Z',Z',Z',by rw[dh,lenV];exact hl,by simpa using rv⟩) (λb u z=>by have z':(Fa:Option HO)=ga u:=z;cases z') (λb z=>absurd Z' z) λz=>absurd Z' z
 | none=>
  refine core (λb=>if b=a then ga (.frz {cls:=.type "list",data:=.seq vs.toArray} (.lst (ns.map V.int)))else Fa) (λb=>?_) (.inl (.inr ⟨{cls:=.type "list",data:=.seq vs.toArray},cX Z'⟩)) (λb u z=>?_) (λb z=>?_) λ_=>hk
  .by_cases hb:b=a
   .exact .inr ⟨_,_,cX hb⟩
   .exact .inl (cW hb)
  .by_cases hb:b=a
   .have z':=(cX hb).symm.trans z;cases z';subst hb;exact⟨ha,by rw[cR];exact hl,vs,_,rv,ha⟩
   .have z':=(cW hb).symm.trans z;cases z'
  .by_cases hb:b=a
   .exact hb
   .exact absurd (cW hb) z
def Oo{l:W.OpenLaw}{n k:Nat}{q:Pg}{XX:QQQ}{XP:(QQZ)->Go->Prop}{YP:Wo->Go->Prop}{d:DefRec}{K:Params->qk}{CX:Wo->KQ}{sp:Wo->Sp}{x:Str} (hn:l.most=ga n) (ZH:n<=Uf) (Zu:d.params.defaults=[]) (hr:rO k callerA) (hY:∀(w:Wo) (h:Go),YP w h->(K w.params).In h) (F:∀(w:Wo) (mg:QQZ) (fa:lf) (h:Go),(K w.params).In h->h.Ns Ps mg->mg d.name=ga (.ref fa)->
   ∃fd:Rs,(∀(s:Sd) (u:Vl),BindsTo s fd ⟨[u],[]⟩ [(x,u)])/\
    ∀base:Go,(K w.params).In base->base.Ns Ps mg->xl l.prog w (K w.params) mg base (CX w) k fa fd [x] (sp w))
  (Yz:∀(w:Wo) (H:Hp) (a:lf) (ns:T0 Int),ns.length<=n->MN H->xk (K w.params) H a (ns.map V.int)->sp w [.ref a] H (λv _=>v=.bl Db) λ_ _ _=>False)
  (hCX:∀(w:Wo) (H:Hp) (s:Sd) (e:Vl) (s':Sd),CX w [] H s (λ_ _ _=>False) e s'->False):
  W.WalkO q XX XP YP l.row.toRowW d [] (λf vs=>PySem.call f vs):=by
 refine Att.attach_call hn Zu λw s₀ s₁ mg mb fa o pm cd XG a vs ns G Y ho hd Yl hmg ZN YQ Xa hg=>?_;have KX:=hY w _ Y;obtain⟨fd,hb,hF⟩:=F w mg fa _ KX G.T.g hmg;exact K8 KX G.T.g G.T.b G.T.builtins G.T.nolimit hg ZN YQ (dS Xa ZH) hr hF hb (λH hO hS=>Yz w H a ns Xa hO hS) λH e s'=>hCX w H s₁ e s'
noncomputable def PD(s:xz)(j:Nat):xz:=match s with
 | .ClassDef _ _ _ body _ _ _ _ _ _ _=>body.getD j (.Pass ⟨0,0,0,0⟩)
 | _=>.Pass ⟨0,0,0,0⟩
noncomputable def tY(s:xz):Arguments:=match s with
 | .FunctionDef _ a _ _ _ _ _ _ _ _=>a
 | _=>{posonlyargs:=[],args:=[],vararg:=none,kwonlyargs:=[],kw_defaults:=[],kwarg:=none,defaults:=[]}
noncomputable def rH(s:xz):T0 xz:=match s with
 | .FunctionDef _ _ b _ _ _ _ _ _ _=>b
 | _=>[]
noncomputable def pV(s:xz):Z8:=match s with
 | .FunctionDef _ _ _ _ _ _ sc _ _ _=>sc
 | _=>{kind:=.function,names:=[],isGenerator:=false,isCoroutine:=false}
abbrev NV:KQ:=λ_ _ _ _ _ _=>False
abbrev E0:XK:=λ_ _ _=>False
def G6:yu NV X E0:=λ_ _ _ _ _ _ _ h=>h.elim
structure Pb(K:qk)(x qual:Str)(st:xz)(f:lf)(fd:Rs):Prop where
 ex:∃(oc:Vl) (od:Option lf) (kV XG pm:Vl) (an:Option lf) (Xg ct:Vl) (X5:Array (Option Vl)),
  fd=W.fnOf x qual (tY st) (rH st) (pV st) .none kV XG pm an Xg ct/\K.lookup f=ga ⟨oc,od,.func fd,X5⟩/\W.codeIn K Xg qual=Db
 kp:W.keepIn K (.ref f)=Db
variable {P:Pg}{K:qk}{mg:QQZ}{base:Go}
section
variable {w:Wo}
def Pb.ok{st:xz}{sp:Sp}(F:Pb K x qual st f fd)(S:sO N ps (pV st))(len:∀vs H Q E,sp vs H Q E->vs.length=ps.length) (Xp:∀(Xg:Vl) (A:Ar) (outer:T0 Env) (s:Sd) (H:Hp) (vs:T0 V) (Q:VK) (E:XK),rO k (A.deeper (sK qual (pV st) s.heap.objs.size f Xg))->sp vs H Q E->
   ∃t,Bx (vg NV P w K mg base N qual (pV st) f Xg A outer s H E).nY (rH st) t/\t {nx:=λ_ H'=>Q .mx H',rt:=Q} (start N vs) H):xl P w K mg base NV (k+1) f fd ps sp:=by
 obtain⟨oc,od,kV,XG,pm,an,Xg,ct,X5,rfl,lk,Yl⟩:=F.ex;refine Nc lk Yl S len λA outer s H vs Q E hr Yz=>?_;obtain⟨t,h,q⟩:=Xp Xg A outer s H vs Q E hr Yz;exact⟨t,h.nY,q⟩
def Pb.binds{st:xz}{ps:QQQ}(F:Pb K x qual st f fd) (h:∀(kV XG pm:Vl) (an:Option lf) (Xg ct:Vl) (us:T0 Vl),us.length=ps.length->bindArgs (W.fnOf x qual (tY st) (rH st) (pV st) .none kV XG pm an Xg ct) ⟨us,[]⟩=pure (ps.zip us)):ul K fd ps []:=by
 obtain⟨oc,od,kV,XG,pm,an,Xg,ct,X5,rfl,lk,Yl⟩:=F.ex;exact .all (h kV XG pm an Xg ct)
def NN{st:xz}{oc:Vl}{od an:Option lf}{X5:Array (Option Vl)}{kV XG pm Xg ct:Vl}(l:K.lookup f=ga ⟨oc,od,.func (W.fnOf x qual (tY st) (rH st) (pV st) .none kV XG pm an Xg ct),X5⟩) (c:W.codeIn K Xg qual=Db) (k:W.keepIn K (.ref f)=Db):Pb K x qual st f (W.fnOf x qual (tY st) (rH st) (pV st) .none kV XG pm an Xg ct):=⟨⟨oc,od,kV,XG,pm,an,Xg,ct,X5,Z',l,c⟩,k⟩
end
variable {X:Cx}
def pv(i:Nat){x:Str}{pos:Pos}(hN:X.N[i]?=ga x:=by rfl)(hv:UL X.env.scope x:=by first|exact Or.inl Z'|exact Or.inr (Or.inl Z')|exact Or.inr (Or.inr Z'))(hd:zu x:=by decide)
  (Yl:(x==("__classdict__":Str))=pc:=by decide):PE X (.Name x pos) (Hn i):=Rn hN hv hd Yl
def Ow{A B:Prop}(h:B):if pc=Db then A else B:=by rw[cW dv];exact h
def Pa{A B:Prop}(h:A):if Db=Db then A else B:=by rw[cX Z'];exact h
def qx{c A B:Prop}[Decidable c](h1:c->A)(h2:¬c->B):if c then A else B:=by
 by_cases h:c
 .rw[cX h];exact h1 h
 .rw[cW h];exact h2 h
def Qm(H H':Hp):Prop:=∀b o,H b=ga o->H' b=ga o
def Qm.trans(a:Qm H H1)(b:Qm H1 H2):Qm H H2:=λc o h=>b c o (a c o h)
section
variable {κ:Type}[DecidableEq κ]
noncomputable def wV(kvs:T0 (κ×V))(k:κ):Option V:=(kvs.find? λkv=>decide (kv.1=k)).map (·.2)
noncomputable def yh(kvs:T0 (κ×V))(k:κ)(v:V):T0 (κ×V):=
 if (kvs.any λkv=>decide (kv.1=k))=Db then kvs.map (λkv=>if kv.1=k then(kv.1,v)else kv)else kvs++[(k,v)]
def CL{p:κ×V}{r:T0 (κ×V)}{k:κ}(e:p.1=k):wV (p::r) k=ga p.2:=by simp[wV,eQ,e]
def Cg{p:κ×V}{r:T0 (κ×V)}{k:κ}(e:¬p.1=k):wV (p::r) k=wV r k:=by simp[wV,eQ,e]
theorem GR(k:κ):∀kvs:T0 (κ×V),(kvs.any λkv=>decide (kv.1=k))=(wV kvs k).isSome
 | []=>rfl
 | p::r=>by
  rw[fX];by_cases e:p.1=k
  .simp only[CL e,dI e,hU,Option.isSome_some]
  .rw[Cg e,dZ e,fE];exact GR k r
def Ay(kvs:T0 (κ×V))(k:κ)(v:V):(yh kvs k v).length<=kvs.length+1:=by
 unfold yh;split
 .rw[cR];lia
 .rw[cU,dY,dB];lia
def xg.mZ(r:xg o u):o.isSome=u.isSome:=by
 cases o with
 | none=>cases u with
  | none=>rfl
  | some _=>exact(show False from r).elim
 | some _=>cases u with
  | none=>exact(show False from r).elim
  | some _=>rfl
def xg.getD(r:xg o u)(rd:qz d d'):qz (o.getD d) (u.getD d'):=by
 cases o with
 | none=>cases u with
  | none=>exact rd
  | some _=>exact(show False from r).elim
 | some _=>cases u with
  | none=>exact(show False from r).elim
  | some _=>exact r
def KV.val(r:KV kvs vs)(k:κ):xg (wV kvs k) (valueAt vs k):=by
 unfold KV at r;induction r with
 | nil=>exact True.intro
 | @cons p q ps qs h t ih=>
  obtain⟨h1,h2⟩:=h;by_cases e:p.1=k
  .have e':q.1=k:=h1.symm.trans e;have b:valueAt (q::qs) k=ga q.2:=by simp[valueAt,eQ,e']
   rw[CL e,b];exact h2
  .have e':¬q.1=k:=λz=>e (h1.trans z);have b:valueAt (q::qs) k=valueAt qs k:=by simp[valueAt,eQ,e']
   rw[Cg e,b];exact ih
def KV.any(r:KV kvs vs)(k:κ):(kvs.any λkv=>decide (kv.1=k))=vs.any λkv=>decide (kv.1=k):=by
 unfold KV at r;induction r with
 | nil=>rfl
 | cons h t ih=>rw[fX,fX,ih,h.1]
def KV.oh(r:KV kvs vs)(k:κ){y:V}{u:Vl}(ry:qz y u):
  KV (kvs.map λkv=>if kv.1=k then(kv.1,y)else kv) (vs.map λkv=>if kv.1=k then(kv.1,u)else kv):=by
 unfold KV at r ⊢;induction r with
 | nil=>exact .nil
 | @cons p q ps qs h t ih=>
  rw[dW,dW];refine .cons ?_ ih;obtain⟨h1,h2⟩:=h;by_cases e:p.1=k
  .rw[cX e,cX (h1.symm.trans e)];exact⟨h1,ry⟩
  .rw[cW e,cW (λz=>e (h1.trans z))];exact⟨h1,h2⟩
def KV.put(r:KV kvs vs)(k:κ){y:V}{u:Vl}(ry:qz y u):KV (yh kvs k y) (stored vs k u):=by
 unfold yh stored;rw[r.any k];by_cases e:(vs.any λkv=>decide (kv.1=k))=Db
 .rw[cX e,cX e];exact r.oh k ry
 .rw[cW e,cW e];exact me r ⟨Z',ry⟩
def KV.length(r:KV kvs vs):kvs.length=vs.length:=jc r
end
def Dp(r:qz (kV k) u):(rf P w).is k u=Db:=by
 cases k with
 | inl i=>obtain⟨t,e⟩:=(show ∃t,u=Value.int i t from r);subst e;exact Ga P w i t
 | inr x=>obtain⟨t,e⟩:=(show ∃t,u=Value.str x t from r);subst e;exact Av P w x t
theorem DA:∀{ks:List qJ} {us:T0 Vl},qo (ks.map kV) us->ItemsAre (rf P w) ks us
 | [],_,r=>by rw[iM]at r;cases r;exact .nil
 | k::ks,_,r=>by
  rw[dW]at r;cases r with
  | cons h t=>exact .cons (Dp h) (DA t)
abbrev KT(H:Hp):T0 (List qJ×V)->T0 (List qJ×lf×Vl)->Prop:=Paired λp q=>p.1=q.1/\H q.2.1=ga (.tup (p.1.map kV))/\qz p.2 q.2.2
def KT.val(r:KT H kvs xs)(k:List qJ):xg (wV kvs k) ((atKey xs k).map (·.2)):=by
 induction r with
 | nil=>exact True.intro
 | @cons p q ps qs h t ih=>
  obtain⟨h1,_,h2⟩:=h;by_cases e:p.1=k
  .have e':q.1=k:=h1.symm.trans e;have b:atKey (q::qs) k=ga q.2:=by simp[atKey,eQ,e']
   rw[CL e,b];exact h2
  .have e':¬q.1=k:=λz=>e (h1.trans z);have b:atKey (q::qs) k=atKey qs k:=by simp[atKey,eQ,e']
   rw[Cg e,b];exact ih
def KT.oh(r:KT H kvs xs)(k:List qJ){y:V}{u:Vl}(ry:qz y u):
  KT H (kvs.map λkv=>if kv.1=k then(kv.1,y)else kv) (xs.map (putAt k u)):=by
 induction r with
 | nil=>exact .nil
 | @cons p q ps qs h t ih=>
  rw[dW,dW];refine .cons ?_ ih;obtain⟨h1,h2,h3⟩:=h;unfold putAt;by_cases e:p.1=k
  .rw[cX e,cX (h1.symm.trans e)];exact⟨h1,h2,ry⟩
  .rw[cW e,cW (λz=>e (h1.trans z))];exact⟨h1,h2,h3⟩
def KT.put(r:KT H kvs xs)(k:List qJ){b:lf}{y:V}{u:Vl}(hb:H b=ga (.tup (k.map kV)))(ry:qz y u):
  KT H (yh kvs k y) (storedH xs k b u):=by
 have e:(kvs.any λkv=>decide (kv.1=k))=(atKey xs k).isSome:=by rw[GR,(r.val k).mZ,jj]
 unfold yh storedH;rw[e];by_cases q:(atKey xs k).isSome=Db
 .rw[cX q,cX q];exact r.oh k ry
 .rw[cW q,cW q];exact me r ⟨Z',hb,ry⟩
def KT.keeps{H H':Hp}(r:KT H kvs xs)(ht:∀b ys,H b=ga (.tup ys)->H' b=ga (.tup ys)):KT H' kvs xs:=
 Paired.nX r λ_ _ z=>⟨z.1,ht _ _ z.2.1,z.2.2⟩
variable {H:Hp}{h:Go}{a:lf}
section
variable {w:Wo}
def QN(ok:yg P w H h)(e:Rd H a u):sG P w H h a u:=e.ok ok
def D8{kvs:T0 (qJ×V)}(ok:yg P w H h)(e:Rd H a (.dK kvs)):kvs.length<=Uf/\(a==TD)=pc/\∃vs,KV kvs vs/\h.DictOf (rf P w) a vs:=
 show sG P w H h a (.dK kvs)from QN ok e
def TH{kvs:T0 (qJ×V)}(ok:yg P w H h)(e:H a=ga (.dK kvs)):kvs.length<=Uf/\(a==TD)=pc/\∃vs,KV kvs vs/\h.DictOf (rf P w) a vs:=D8 ok (.inl e)
def Cp{ks:List qJ}(ok:yg P w H h)(e:H a=ga (.tup (ks.map kV))):(tupleKind (rf P w)).is h ks a:=by obtain⟨_,its,r,o,h1,h2,⟨n,h3⟩,_⟩:=(show sG P w H h a (.tup (ks.map kV))from ok a _ e);exact⟨o,its.toArray,n,h1,h2,h3,by simpa using DA r⟩
def DI{kvs:T0 (List qJ×V)}(ok:yg P w H h)(e:Rd H a (.dT kvs)):kvs.length<=Uf/\(a==TD)=pc/\
  ∃xs,KT H kvs xs/\h.DictOfH (tupleKind (rf P w)) a xs:=by
 obtain⟨z,y,xs,r,o,es,ep,h1,h2,h3,h4,h5⟩:=(show sG P w H h a (.dT kvs)from QN ok e);refine⟨z,y,xs,r,o,es,ep,h1,h2,h3,h4,λx hx=>?_,h5⟩;have all:∀{l:T0 (List qJ×V)} {m:T0 (List qJ×lf×Vl)},KT H l m->∀x∈m,(tupleKind (rf P w)).is h x.1 x.2.1:=by
  intro l m q;induction q with
  | nil=>intro x hx;exact nomatch hx
  | @cons p q ps qs hq t ih=>
   intro x hx;rcases dg.mp hx with e|hx
   .subst e;exact Cp ok (by rw[<-hq.1];exact hq.2.1)
   .exact ih x hx
 exact all r x hx
def T4{kvs:T0 (List qJ×V)}(ok:yg P w H h)(e:H a=ga (.dT kvs)):kvs.length<=Uf/\(a==TD)=pc/\
  ∃xs,KT H kvs xs/\h.DictOfH (tupleKind (rf P w)) a xs:=DI ok (.inl e)
end
def AM(H:Hp)(a:lf)(y:V)(r:Option V):Prop:=
 (∃kvs k,Rd H a (.dK kvs)/\y=kV k/\r=wV kvs k)\/∃kvs k b,Rd H a (.dT kvs)/\y=.ref b/\H b=ga (.tup (k.map kV))/\r=wV kvs k
def Kh(H:Hp)(a:lf)(y v:V)(H':Hp):Prop:=
 (∃kvs k,H a=ga (.dK kvs)/\y=kV k/\kvs.length<Uf/\H'=upd H a (.dK (yh kvs k v)))\/
 ∃kvs k b,H a=ga (.dT kvs)/\y=.ref b/\H b=ga (.tup (k.map kV))/\kvs.length<Uf/\H'=upd H a (.dT (yh kvs k v))
def AM.k{H:Hp}{a:lf}{kvs:T0 (qJ×V)}{k:qJ}(e:H a=ga (.dK kvs)):AM H a (kV k) (wV kvs k):=.inl ⟨kvs,k,.inl e,Z',Z'⟩
def Kh.k{H:Hp}{a:lf}{kvs:T0 (qJ×V)}{k:qJ}(e:H a=ga (.dK kvs))(hl:kvs.length<Uf):Kh H a (kV k) v (upd H a (.dK (yh kvs k v))):=.inl ⟨kvs,k,e,Z',hl,Z'⟩
variable {W5:T0 (lf × Obj)}{Y:St}{y v:V}{u r:Vl}
section
variable {s:Sd}{o:Option V}{A:Ar}{E:QQX}
def Inv.big(I:Inv X W5 Y H s):TD<s.heap.objs.size:=by have h:Ps<s.heap.objs.size:=(I.mod.glob.keeps I.bk).lt;exact jw (by decide) h
def JG{Q:QQX}(hu:A.units+1<IN)(I:Inv X W5 Y H s)(g:AM H a y (ga v))(ry:qz y u)(h:∀w' s',Inv X W5 Y H s'->qz v w'->Q w' s'):
  Ch (pi X.prog X.w) A (W' (.ref a) u) Q E s:=by
 rcases g with⟨kvs,k,e,ey,l⟩|⟨kvs,k,b,e,ey,eb,l⟩
 .subst ey;obtain⟨z,hd,vs,X2,dd⟩:=D8 I.mD e;obtain⟨w',hw,YN⟩:=xg.some_of (v:=v) (o:=valueAt vs k) (by rw[l];exact X2.val k);exact wpAny_getItem_of (Dp ry) dd.mapOf hw (h w' _ (I.tok _) YN)
 .subst ey;cases(show u=Value.ref b from ry);obtain⟨z,hd,xs,X2,dd⟩:=DI I.mD e;obtain⟨w',hw,YN⟩:=xg.some_of (v:=v) (o:=(atKey xs k).map (·.2)) (by rw[l];exact X2.val k);obtain⟨p,hp,Xe⟩:=jU.mp hw;refine wpAny_getItem_heap (ip hu) (Cp I.mD eb) dd hp ?_;rw[Xe];exact h w' _ (I.tok _) YN
def Wd{Q:QQX}(hu:A.units+1<IN)(I:Inv X W5 Y H s)(g:AM H a y o)(ry:qz y u)(h:∀s',Inv X W5 Y H s'->Q (.bool o.isSome) s'):
  Ch (pi X.prog X.w) A (wp .In u (.ref a)) Q E s:=by
 rcases g with⟨kvs,k,e,ey,l⟩|⟨kvs,k,b,e,ey,eb,l⟩
 .subst ey;obtain⟨z,hd,vs,X2,dd⟩:=D8 I.mD e;refine wpAny_in_of (Dp ry) hd dd.mapOf ?_;rw[<-(X2.val k).mZ,<-l];exact h _ (I.tok _)
 .subst ey;cases(show u=Value.ref b from ry);obtain⟨z,hd,xs,X2,dd⟩:=DI I.mD e;refine wpAny_in_heap (ip hu) (Cp I.mD eb) hd dd ?_;have q:=(X2.val k).mZ;rw[jj]at q;rw[<-q,<-l];exact h _ (I.tok _)
def Jr{t':Nat}(I:Inv X W5 Y H s)(mu:UH (H a))(hs:Heap.SameBut a s.heap h')(he:∃q,h'.get? a=ga q)(new:sG X.prog X.w (upd H a ob) h' a ob):
  Inv X W5 Y (upd H a ob) {s with heap:=h',toks:=t'}:=
 I.write (x:=a) (e:=a) mu (.inl Z') (λb q hb z=>(hs.2 b hb).trans z) he new
def Bu{H':Hp}{h':Go}{kvs:T0 (qJ×V)}(z:kvs.length<=Uf)(hd:(a==TD)=pc)(X2:KV kvs vs)(dd:h'.DictOf (rf P w) a vs):
  sG P w H' h' a (.dK kvs):=⟨z,hd,vs,X2,dd⟩
def KA{Q:Unit->Sd->Prop}(hu:A.units+1<IN)(I:Inv X W5 Y H s)(g:Kh H a y v H')(ry:qz y u)(rv:qz v r)(h:∀s',Inv X W5 Y H' s'->Q () s'):
  Ch (pi X.prog X.w) A (setItem (.ref a) u r) Q E s:=by
 rcases g with⟨kvs,k,e,ey,l,eH⟩|⟨kvs,k,b,e,ey,eb,l,eH⟩
 .subst ey eH;obtain⟨z,hd,vs,X2,dd⟩:=TH I.mD e;have hz:vs.length<=Uf:=by rw[<-X2.length];exact z
  have hl:(yh kvs k v).length<=Uf:=by have:=Ay kvs k v;lia
  refine wpAny_setItem_pairs (hsz:=hz) (Dp ry) dd λh' dd' hs=>h _ ?_;have he:∃q,h'.get? a=ga q:=let⟨q,_,_,hq,_⟩:=dd';⟨q,hq⟩;exact Jr I (by rw[e];exact True.intro) hs he (Bu hl hd (X2.put k rv) dd')
 .subst ey eH;cases(show u=Value.ref b from ry);obtain⟨z,hd,xs,X2,dd⟩:=T4 I.mD e;have hz:xs.length<=Uf:=by rw[<-jc X2];exact z
  have hl:(yh kvs k v).length<=Uf:=by have:=Ay kvs k v;lia
  refine wpAny_setItem_heap (hsz:=hz) (ip hu) (Cp I.mD eb) dd λh' dd' hs=>h _ ?_;obtain⟨q,es,ep,hq,h2,h3,h4,_,h5⟩:=dd';refine Jr I (by rw[e];exact True.intro) hs ⟨q,hq⟩ ⟨hl,hd,_,(X2.put k eb rv).keeps λc ys ec=>?_,q,es,ep,hq,h2,h3,h4,h5⟩;rw[pN (Uv ec e (λz=>nomatch z))];exact ec
end
variable {kvs:T0 (qJ × V)}{k:qJ}
section
variable {s:Sd}{A:Ar}{E:QQX}
end
def Gr{W5:QQY}(I:Inv X W5 Y H s)(g:AM H a y o):s.TypeIs (.ref a) "dict":=by
 rcases g with⟨kvs,k,e,_,_⟩|⟨kvs,k,b,e,_,_,_⟩
 .obtain⟨_,_,vs,_,dd⟩:=D8 I.mD e;exact dd.typeIs
 .obtain⟨_,_,xs,_,dd⟩:=DI I.mD e;exact dd.typeIs
def TR(td ty tv:TE):TS:=λD Y H=>tv Y H λv H1=>td Y H1 λx H2=>ty Y H2 λy H3=>∃a H4,x=.ref a/\Kh H3 a y v H4/\D.nx Y H4
variable {i e value:Tl}{pos Xd Zc:Pos}{td ty tv:TE}
section
variable {o:Tl}
def Iy(hu:X.A.units+1<IN)(ho:PE X o td)(hi:PE X i ty)(hv:PE X value tv)(hs:wv value (ga (.Subscript o i Xd)) pos.line X.env=pure pc):
  PS X (.Assign [.Subscript o i Xd] value pos) (TR td ty tv):=by
 intro W5 s Y H D I h;refine wpAny_Assign_Subscript (rY (hv W5 s Y H _ I h) λr s1 zz=>x5 zz λv H1 I1 rv q1=>rY (ho W5 s1 Y H1 _ I1 q1) λu s2 zz=>x5 zz λx H2 I2 rx q2=>rY (hi W5 s2 Y H2 _ I2 q2) λiv s3 zz=>?_) hs;obtain⟨y,H3,I3,ry,a,H4,ex,g,q3⟩:=zz;subst ex;obtain rfl:u=Value.ref a:=rx;exact KA hu I3 g ry rv λs4 I4=>⟨Y,H4,I4,q3⟩
end
def Lr(h:Go)(hb:TD<h.objs.size):sG P w H (h.push {cls:=.type "dict",data:=.dict #[]}) h.objs.size (.dK []):=
 ⟨eK _,fR.mpr (dQ (dO hb)),[],.nil,lL h⟩
def Ru:TE:=λ_ H Q=>∀p,H p=Fa->Q (.ref p) (upd H p (.dK []))
def LD:PE X (.Dict [] [] pos) Ru:=λW5 s Y H Q I h=>wpAny_Dict_empty ⟨.ref s.heap.objs.size,_,I.laid (a:=s.heap.objs.size) (o:=.dK []) (t':=s.toks) (λ_ _ q=>cY _ q) (cZ _) (Lr s.heap I.big),Z',h _ (I.mD.fresh (cZ _))⟩
structure M1(X:Cx)(o:Tl)(m:Str)(W8:Pos)(e:Tl)(Xc:Pos):Prop where
 base:wE o m X.env (No o X.env)=No o X.env
 oP:((At Xc (Tk [e] X.env)).all (λx=>!x.1)&&(dL Xc (Op [] X.env)).all (λx=>x.1.isSome)
  &&decide (([e]:List Tl).length+([]:List Z9).length+(if ([]:List Z9).isEmpty then 0 else 1)<30))=Db
 line:(W8.endLine==Xc.line)=Db
 trees:At Xc (Tk [e] X.env)=[(pc,No e X.env)]
structure M2(X:Cx)(o:Tl)(m:Str)(W8:Pos)(e f:Tl)(Xc:Pos):Prop where
 base:wE o m X.env (No o X.env)=No o X.env
 oP:((At Xc (Tk [e,f] X.env)).all (λx=>!x.1)&&(dL Xc (Op [] X.env)).all (λx=>x.1.isSome)
  &&decide (([e,f]:List Tl).length+([]:List Z9).length+(if ([]:List Z9).isEmpty then 0 else 1)<30))=Db
 line:(W8.endLine==Xc.line)=Db
 trees:At Xc (Tk [e,f] X.env)=[(pc,No e X.env),(pc,No f X.env)]
def WA(H:Hp)(a:lf):Prop:=(∃kvs,Rd H a (.dK kvs))\/∃kvs,Rd H a (.dT kvs)
def So{W5:QQY}(I:Inv X W5 Y H s)(d:WA H a):
  s.TypeIs (.ref a) "dict"/\(∀b,Value.ref a=.ref b->∃ob,s.heap.get? b=ga ob/\ob.dict=Fa)/\(a==TD)=pc:=by
 rcases d with⟨kvs,e⟩|⟨kvs,e⟩
 .obtain⟨_,hd,vs,_,dd⟩:=D8 I.mD e;refine⟨dd.typeIs,λb q=>?_,hd⟩;cases q;obtain⟨ob,_,_,h1,h2,_⟩:=dd;exact⟨ob,h1,h2.2.1⟩
 .obtain⟨_,hd,xs,_,dd⟩:=DI I.mD e;refine⟨dd.typeIs,λb q=>?_,hd⟩;cases q;obtain⟨ob,_,_,h1,h2,_⟩:=dd;exact⟨ob,h1,h2.2.1⟩
variable {d:V}
section
variable {s:Sd}{o:Option V}{A:Ar}{E:QQX}
def RO{Q:QQX}(hu:A.units+1<IN)(I:Inv X W5 Y H s)(g:AM H a y o)(ry:qz y u)(rd:qz d r)(h:∀w' s',Inv X W5 Y H s'->qz (o.getD d) w'->Q w' s'):
  Ch (pi X.prog X.w) A (call (.builtin "dict.get") [.ref a,u,r]) Q E s:=by
 rcases g with⟨kvs,k,e,ey,l⟩|⟨kvs,k,b,e,ey,eb,l⟩
 .subst ey;obtain⟨z,hd,vs,X2,dd⟩:=D8 I.mD e;refine call_meetsIn iG dd.typeIs jV (jJ _ _ _) (meets_dict_get_default (rf X.prog X.w) a (Dp ry) hd r) ⟨_,dd.mapOf,h _ _ (I.tok _) ?_⟩;rw[l];exact(X2.val k).getD rd
 .subst ey;cases(show u=Value.ref b from ry);obtain⟨z,hd,xs,X2,dd⟩:=DI I.mD e;refine call_meetsIn iG dd.typeIs jV (jJ _ _ _) (meetsH_dict_get_default (tupleKind (rf X.prog X.w)) a b hd r) ⟨ip hu,k,xs,Cp I.mD eb,dd,h _ _ (I.tok _) ?_⟩;rw[l];exact(X2.val k).getD rd
end
def R6(td ty tx:TE):TE:=λY H Q=>td Y H λx H1=>∃a,x=.ref a/\WA H1 a/\ty Y H1 λy H2=>tx Y H2 λz H3=>∃o,AM H3 a y o/\Q (o.getD z) H3
variable {f:Tl}{W8 Xc:Pos}{tx:TE}
section
variable {o:Tl}
def Lm(hu:X.A.units+1<IN)(ho:PE X o td)(he:PE X e ty)(hf:PE X f tx)(m:M2 X o "get" W8 e f Xc):PE X (.Call (.Attribute o "get" W8) [e,f] [] Xc) (R6 td ty tx):=by
 intro W5 s Y H Q I h;refine wpAny_Call_method m.base m.oP m.line PySem.F.plainAttrs_dict iG PySem.F.type_dict_get (rY (ho W5 s Y H _ I h) λu s1 zz=>?_);obtain⟨x,H1,I1,rx,a,ex,d,q1⟩:=zz;subst ex;obtain rfl:u=Value.ref a:=rx;obtain⟨t1,t2,_⟩:=So I1 d;refine⟨t1,t2,?_⟩;rw[m.trees];refine jT Z' (j6 (gW (rY (he W5 s1 Y H1 _ I1 q1) λiv s2 zz=>x5 zz λy H2 I2 ry q2=>
  gW (rY (hf W5 s2 Y H2 _ I2 q2) λfv s3 ⟨z,H3,I3,rz,ov,g,q3⟩=>iC ?_))))
 exact RO hu I3 g ry rz λw' s4 I4 YN=>⟨_,H3,I4,YN,q3⟩
end
section
variable {s:Sd}{A:Ar}{E:QQX}
end
section
variable {s:Sd}{A:Ar}{E:QQX}
end
section
variable {κ:Type}[DecidableEq κ]
end
noncomputable def AH(env:Env):T0 (Str×wS)->T0 (Str×lf)->T0 (Str×lf)
 | [],acc=>acc
 | (n,k)::r,acc=>AH env r (if k==.free then(n,(env.cells.lookup n).getD 0)::acc else acc)
theorem G4{env:Env}{f:(Str×wS)->T0 (Str×lf)->Sem (ForInStep (T0 (Str×lf)))} (hf:∀x cs,(x.2=.free->∃c,env.cells.lookup x.1=ga c)->f x cs=pure (.yield (if x.2==.free then(x.1,(env.cells.lookup x.1).getD 0)::cs else cs))):
  ∀(l:T0 (Str×wS)) (acc:T0 (Str×lf)),(∀x∈l,x.2=.free->∃c,env.cells.lookup x.1=ga c)->forIn l acc f=pure (AH env l acc)
 | [],acc,_=>by rw[jW];rfl
 | (n,k)::r,acc,h=>by rw[jL,hf (n,k) acc (h _ dD),pure_bind];exact G4 hf r _ λx hx=>h x (dz _ hx)
def ym{scope:Z8}{env:Env}(h:∀x∈scope.names,x.2=.free->∃c,env.cells.lookup x.1=ga c):closureFor scope env=pure (AH env scope.names []):=by
 unfold closureFor;have e:=G4 (env:=env) (f:=λ(x:Str×wS) (cs:T0 (Str×lf))=>(do
   if x.2==.free then
    let a<-cellOf env x.1
    pure (ForInStep.yield ((x.1,a)::cs))
   else pure (ForInStep.yield cs))) (λx cs hx=>by
  cases hk:x.2==NameKind.free with
  | false=>simp
  | true=>
   obtain⟨c,hc⟩:=hx (by simpa using hk);simp[cellOf,hc]) scope.names [] h
 first
  | exact(eC (·>>=pure) e).trans (by simp)
  | (simp only[bind_pure];exact e)
  | (rw[<-e];rfl)
theorem Lp{env:Env}{x:Str}{c:lf}:∀{l:T0 (Str×wS)} {acc:T0 (Str×lf)},(∀x∈l,x.2=.free->∃c,env.cells.lookup x.1=ga c)->(∀x c,acc.lookup x=ga c->env.cells.lookup x=ga c)->(AH env l acc).lookup x=ga c->env.cells.lookup x=ga c
 | [],acc,_,ha,h=>ha x c h
 | (n,k)::r,acc,hl,ha,h=>by
  refine Lp (l:=r) (acc:=if k==.free then(n,(env.cells.lookup n).getD 0)::acc else acc) (λy hy=>hl y (dz _ hy)) (λy d hd=>?_) h;cases hk:k==NameKind.free with
  | false=>rw[hk]at hd;exact ha y d (by simpa using hd)
  | true=>
   rw[hk,cX Z']at hd;obtain⟨e,he⟩:=hl (n,k) dD (by simpa using hk);rw[eI]at hd;cases hy:y==n with
   | true=>
    rw[hy]at hd;have yn:y=n:=by simpa using hy
    subst yn;have he:env.cells.lookup y=ga e:=he;rw[he]at hd ⊢;exact hd
   | false=>rw[hy]at hd;exact ha y d hd
theorem LU{x:Str}:∀{l:T0 (Str×wS)} {acc:T0 (Str×lf)},(∃c,acc.lookup x=ga c)->∃c,(AH env l acc).lookup x=ga c
 | [],_,h=>h
 | (n,k)::r,acc,h=>by
  refine LU (l:=r) ?_;cases hk:k==NameKind.free with
  | false=>simpa using h
  | true=>
   rw[cX Z',eI];cases hy:x==n with
   | true=>exact⟨_,Z'⟩
   | false=>exact h
theorem HJ{x:Str}:∀{l:T0 (Str×wS)} {acc:T0 (Str×lf)},l.lookup x=ga .free->∃c,(AH env l acc).lookup x=ga c
 | [],_,h=>by simp at h
 | (n,k)::r,acc,h=>by
  rw[eI]at h;cases hy:x==n with
  | true=>rw[hy]at h;have hk:k=.free:=de h;subst hk;refine LU (l:=r) ⟨(env.cells.lookup n).getD 0,?_⟩;show List.lookup x (if NameKind.free==NameKind.free then(n,(env.cells.lookup n).getD 0)::acc else acc)=ga ((env.cells.lookup n).getD 0);rw[cX (by rfl),eI,hy]
  | false=>rw[hy]at h;exact HJ (l:=r) h
theorem tX{env:Env}{x:Str}:∀{l:T0 (Str×wS)},(l.map λ(n,k)=>if (k==NameKind.free&&env.scope.kind==.function&&env.kindOf n==ga .cell)then(n,NameKind.cell)else(n,k)).lookup x
   = (l.lookup x).map λk=>if (k==NameKind.free&&env.scope.kind==.function&&env.kindOf x==ga .cell)then NameKind.cell else k
 | []=>rfl
 | (n,k)::r=>by
  rw[dW];show List.lookup x ((if (k==NameKind.free&&env.scope.kind==.function&&env.kindOf n==ga .cell)=Db then(n,NameKind.cell)else(n,k))::_)=_;cases hy:x==n with
  | true=>
   have yn:x=n:=by simpa using hy
   subst yn;by_cases hc:(k==NameKind.free&&env.scope.kind==.function&&env.kindOf x==ga .cell)=Db
   .rw[cX hc,eI,eI,hy];simp only[jM];rw[cX hc]
   .rw[cW hc,eI,eI,hy];simp only[jM];rw[cW hc]
  | false=>
   by_cases hc:(k==NameKind.free&&env.scope.kind==.function&&env.kindOf n==ga .cell)=Db
   .rw[cX hc,eI,eI,hy];exact tX
   .rw[cW hc,eI,eI,hy];exact tX
noncomputable def Qs(ix:T0 (Option Nat))(Y:St):St:=ix.map λo=>o.bind λi=>(Y[i]?).join
abbrev Cx.comp(X:Cx)(scope:Z8)(N':QQQ)(C:lf)(s0:Sd)(H0:Hp)(ex:QXQ):Cx:=
 {X with N:=N',s₀:=s0,H₀:=H0,env:=compEnvC scope (AH X.env scope.names []) C X.env,outer:=X.stack,ex:=ex,fn:=λ_=>pc,pn:=[],xe:=λ_ _=>False}
structure rT(X:Cx)(scope:Z8)(ix:List (Option Nat))(N':QQQ):Prop where
 kind:scope.kind=.function
 nS:∀y∈scope.names,y.2≠.cell
 nam:∀y∈scope.names,y.2=.local->scope.names.lookup y.1=ga .local
 fre:∀y∈scope.names,y.2=.free->X.env.scope.names.lookup y.1=ga .cell\/X.env.scope.names.lookup y.1=ga .free
 len:ix.length=N'.length
 at_:∀(j i:Nat) (x:Str),ix[j]?=ga (ga i)->N'[j]?=ga x->X.N[i]?=ga x/\scope.names.lookup x=ga .free
variable {scope:Z8}{ix:T0 (Option Nat)}{N':QQQ}{fp:QXQ}
section
variable {s:Sd}
def rT.cells(S:rT X scope ix N')(ok:X.Ok):∀x∈scope.names,x.2=.free->∃c,X.env.cells.lookup x.1=ga c:=λx hx hk=>ok.has x.1 (S.fre x hx hk)
def rT.sub(S:rT X scope ix N')(ok:X.Ok){x:Str}{c:lf}(h:(AH X.env scope.names []).lookup x=ga c):X.env.cells.lookup x=ga c:=Lp (S.cells ok) (λ_ _ z=>by simp at z) h
theorem va{x:Str}{k:wS}:∀{l:T0 (Str×wS)},l.lookup x=ga k->(x,k)∈l
 | [],h=>by simp at h
 | (n,j)::r,h=>by
  rw[eI]at h;cases hy:x==n with
  | true=>
   rw[hy]at h;have yn:x=n:=by simpa using hy
   subst yn;rw[de h];exact dD
  | false=>rw[hy]at h;exact dz _ (va h)
def Inv.comp{C:lf}{h1:Go}{tk:Nat}(I:Inv X W5 Y H s)(S:rT X scope ix N')(hf:∀b∈fp,zC X W5 H b)(Xl:∀b∈fp,b<s.heap.objs.size)(hC:s.heap.objs.size<=C) (k:∀b o,s.heap.get? b=ga o->h1.get? b=ga o) (hn:h1.Ns C (λ_=>Fa)):Inv (X.comp scope N' C s H fp) (X.pn++W5) (Qs ix Y) H {s with heap:=h1,toks:=tk}:=by
 have sub:∀{x:Str} {c:lf},(AH X.env scope.names []).lookup x=ga c->X.env.cells.lookup x=ga c:=λh=>S.sub I.ok h;refine⟨⟨I.ok.mod,S.kind,I.ok.glob,I.ok.blt,hC,λx y c e1 e2=>I.ok.inj x y c (sub e1) (sub e2),λx hx=>?_,λ_ _ z=>(dv z).elim,I.ok.hd,I.ok.frames,.inl Z',λb hb=>⟨dO (dJ (Xl b hb) hC),λx c e=>(hf b hb).2.2.2.2.1 x c (sub e)⟩,I.bs,dS I.ok.nI I.sz,λb o e hb=>?_,λb hb hfs=>?_,I.stack,I.ng⟩,Z',I.bare,Un.kept k,⟨_,hn,λi x v e1 e2 e3=>?_⟩,λx c e=>?_,I.mD.fresh hC,λx c e=>I.mJ x c (sub e),λp hp=>?_,I.mD.kept k,?_⟩
 .have hx:(relabel scope X.env).names.lookup x=ga .cell\/(relabel scope X.env).names.lookup x=ga .free:=hx;have e:(relabel scope X.env).names.lookup x=(scope.names.lookup x).map λk=>if (k==NameKind.free&&X.env.scope.kind==.function&&X.env.kindOf x==ga .cell)then NameKind.cell else k:=tX
  rw[e]at hx;cases q:scope.names.lookup x with
  | none=>rw[q]at hx;rcases hx with hx|hx<;>simp at hx
  | some kd=>
   cases kd with
   | free=>exact HJ q
   | cell=>exact absurd Z' (S.nS _ (va q))
   | _=>rw[q]at hx;rcases hx with hx|hx<;>simp at hx
 .rcases(hf b hb).2.2.2.1 with z|z
  .exact I.ok.nz b o e z
  .exact absurd (dJ (dA e) (dS I.ok.nI z)) (eO _)
 .rcases dg.mp (I.mV b hfs)with z|z
  .exact(hf b hb).2.1 z
  .exact(hf b hb).2.2.1 z
 .have Ze:(ix[i]?).map (λo=>o.bind λi=>(Y[i]?).join)=ga (ga v):=by have z:(Qs ix Y)[i]?=ga (ga v):=e2;unfold Qs at z;rw[dq]at z;exact z
  cases q:ix[i]? with
  | none=>rw[q]at Ze;cases Ze
  | some o=>
   rw[q]at Ze;cases o with
   | none=>cases Ze
   | some j=>
    have Zf:(Y[j]?).join=ga v:=de Ze;have e4:Y[j]?=ga (ga v):=by
     cases r:Y[j]? with
     | none=>rw[r]at Zf;cases Zf
     | some w=>rw[r]at Zf;exact eC ga Zf
    obtain⟨n1,n2⟩:=S.at_ i j x q e1;obtain⟨m,hm,hl⟩:=I.loc;have hk:=S.fre _ (va n2) Z';have hv:UL X.env.scope x:=by
     rcases hk with z|z
     .exact .inr (.inl z)
     .exact .inr (.inr z)
    obtain⟨u,ru,lk⟩:=hl j x v n1 e4 hv;refine⟨u,ru,?_⟩;have Zg:X.env.kindOf x=ga .cell\/X.env.kindOf x=ga .free:=hk;rcases lk with⟨z,_⟩|⟨_,c,hc,hcell⟩
    .rcases Zg with y|y<;>(rw[y]at z;cases z)
    .obtain⟨c',hc'⟩:=HJ (env:=X.env) (acc:=[]) n2;have:=sub hc';rw[hc]at this;cases this;refine .inr ⟨?_,c,hc',hcell.keeps k⟩;show(relabel scope X.env).names.lookup x=ga .cell\/(relabel scope X.env).names.lookup x=ga .free;have e:(relabel scope X.env).names.lookup x=(scope.names.lookup x).map λk=>if (k==NameKind.free&&X.env.scope.kind==.function&&X.env.kindOf x==ga .cell)then NameKind.cell else k:=tX
     rw[e,n2];simp only[jM];split
     .exact .inl Z'
     .exact .inr Z'
 .obtain⟨v,q⟩:=I.cell x c (sub e);exact⟨v,q.keeps k⟩
 .obtain⟨e,n,ne,nf,d⟩:=I.pin p (by simpa using hp);refine⟨k _ _ e,n,dO (dJ (dA e) hC),λz=>?_,d⟩;rcases dg.mp (I.mV p.1 z)with y|y
  .exact ne y
  .exact nf y
 .show(Qs ix Y).length=N'.length;unfold Qs;rw[cR];exact S.len
end
section
variable {prog:Pg}{w:Wo}{A:Ar}{R:Result→Sd→Prop}{s:Sd}
def xN{X3 Xw iter:Tl}{XD:T0 Tl}{scope:Z8}{pos:Pos}{it acc:Vl}{env:Env}(I:Nat->Sd->Prop){EX:QQX}(hEX:∀e s',EX e s'->notedBy (pi prog w) A env (λx s'=>R (.error x) s') e s') (turn:∀n s,I n s->Ch (pi prog w) A (pyNext it) (λr s₁=>match r with
   | none=>R (.ok .next) s₁
   | some v=>Ch (pi prog w) A (XXa Xw it v) (λ_ s₁=>Ch (pi prog w) A (assign Xw env v) (λ_ s₂=>
     Ch (pi prog w) A (forIn XD Db λc r=>if r=Db then do let ok<-isTrue c env (No c env);pure (ForInStep.yield ok)else pure (ForInStep.yield r)) (λok s₃=>
      if ok=Db then Ch (pi prog w) A (No X3 env) (λx s₄=>
       Ch (pi prog w) A (call (.builtin "list.append") [acc,x]) (λ_ s₅=>∃m,m<n/\I m s₅) (λ_ _=>False) s₄) EX s₃
      else ∃m,m<n/\I m s₃) (λ_ _=>False) s₂) (λ_ _=>False) s₁) (λ_ _=>False) s₁) (λ_ _=>False) s)
  (n:Nat) (h:I n s):
  XXb (pi prog w) A (.compLoop (.ListComp X3 [⟨Xw,iter,XD,0⟩] scope pos) 0 it acc env) R s:=by
 refine codeAny_loop Z' I (λn s hI=>?_) n h;show Ch _ A ((compTurn (.ListComp X3 [⟨Xw,iter,XD,0⟩] scope pos) 0 it acc env).onRaise (λx=>do noteFrame x env;theTreesLotGoes x)) _ _ s;refine wpAny_noted ?_;rw[compTurn_list];refine cS (ie (cS (d6 (turn n s hI) (λr s₁ h₁=>?_) λ_ _ h'=>h'.elim)));cases r with
 | none=>exact df h₁
 | some v=>
  refine cS (d6 h₁ (λ_ s₁' h₁'=>?_) λ_ _ h'=>h'.elim);refine cS (d6 h₁' (λ_ s₂ h₂=>cS (d6 h₂ (λok s₃ h₃=>?_) λ_ _ h'=>h'.elim)) λ_ _ h'=>h'.elim);cases ok with
  | false=>exact df ⟨Z',h₃⟩
  | true=>exact cS (cS (d6 h₃ (λx s₄ h₄=>cS (d6 h₄ (λ_ s₅ h₅=>df (df ⟨Z',h₅⟩)) λ_ _ h'=>h'.elim)) hEX))
end
def PF(X:Cx)(XD:T0 Tl)(t:TT):Prop:=
 ∀(W5:QQY) (s:Sd) (Y:St) (H:Hp) (Q:Bool->Hp->Prop),Inv X W5 Y H s->t Y H Q->
  Ch (pi X.prog X.w) X.A (forIn XD Db λc r=>if r=Db then do let ok<-isTrue c X.env (No c X.env);pure (ForInStep.yield ok)else pure (ForInStep.yield r)) (TP X W5 Y Q) X.xe s
def U9:TT:=λ_ H Q=>Q Db H
def RF:PF X [] U9:=λ_ _ _ H _ I h=>wpAny_tests_nil ⟨H,I,h⟩
def S0(h:PT X c t):PF X [c] t:=λW5 s Y H Q I q=>wpAny_tests_one (h W5 s Y H Q I q)
def QF(ix:T0 (Option Nat))(g:TG)(tt:TT)(te:TE)(Y:St)(J:It)(Q:VK)(H:Hp):Prop:=
 ∃W:Nat->Nat->T0 V->St->Hp->Prop,(∃m,W 0 m [] (Qs ix Y) H)/\∀i m ys σ' H,W i m ys σ' H->
  (J.stop i H/\ys.length<=Uf/\∀D,H D=Fa->Q (.ref D) (upd H D (.lst ys)))\/
  (J.go i H/\ys.length<Uf/\∀x H',J.oq i H x H'->g x σ' H' λσ2 H2=>tt σ2 H2 λb H3=>if b=Db then te σ2 H3 λy H4=>∃m',m'<m/\W (i+1) m' (ys++[y]) σ2 H4 else ∃m',m'<m/\W (i+1) m' ys σ2 H3)
def NJ(ix:T0 (Option Nat))(wi:TI)(g:TG)(tt:TT)(te:TE):TE:=λY H Q=>wi Y H λJ H1=>QF ix g tt te Y J Q H1
variable {tg iter X3:Tl}{XD:T0 Tl}{g:TG}{tt:TT}{te:TE}{J:It}{it:lf}{tn:Nat→Go→Prop}{Q:VK}
section
variable {s:Sd}
def BI{XP:lf->Sd->Hp->QXQ->QQY->St->Vl->Sd->Prop}{RR:Vl->lf->Result->Sd->Prop}{E:QQX}(hc:X.calm=Db)(S:rT X scope ix N')(I:Inv X W5 Y H s)(T:Gm X.prog X.w X.K tg J fp it tn)(st:tn 0 s.heap)(hf:∀b∈fp,zC X W5 H b) (hg:∀C s0 H0 ex,PG (X.comp scope N' C s0 H0 ex) tg g) (ht:∀C s0 H0 ex,PF (X.comp scope N' C s0 H0 ex) XD tt) (he:∀C s0 H0 ex W5 s Y H Q,Inv (X.comp scope N' C s0 H0 ex) W5 Y H s->te Y H Q->Ch (pi X.prog X.w) X.A (No X3 (X.comp scope N' C s0 H0 ex).env) (EP (X.comp scope N' C s0 H0 ex) W5 Y Q) (XP C s0 H0 ex W5 Y) s) (hx:∀C D e s',s.heap.objs.size<=C->(∃X8 σ',(∀b∈fp,∃o,(b,o)∈X8)/\XP C s H fp X8 σ' e s')->notedBy (pi X.prog X.w) X.A (compEnvC scope (AH X.env scope.names []) C X.env) (λx s'=>RR D C (.error x) s') e s') (hw:QF ix g tt te Y J Q H) (Xb:∀D C s' H' m,s.heap.objs.size<=C->H' C=Fa->s'.heap.Ns C m->Inv X W5 Y H' s'->Q (.ref D) H'->RR (.ref D) C (.ok .next) s'):
  Ch (pi X.prog X.w) X.A (newList []) (λacc s₃=>Ch (pi X.prog X.w) X.A (newFunctionEnv scope X.env.globals (AH X.env scope.names []) [] X.env.qual Fa .none (ga X.env)) (λXN s₄=>
   XXb (pi X.prog X.w) X.A (.compStart (.ListComp X3 [⟨tg,iter,XD,0⟩] scope pos) 0 (.ref it) acc {XN with scope:=relabel scope X.env}) (RR acc XN.locals) s₄) E s₃) E s:=by
 obtain⟨W,⟨m0,w0⟩,turn⟩:=hw;have Xl:∀b∈fp,b<s.heap.objs.size:=λb hb=>by obtain⟨o,e,_⟩:=T.obj _ _ st b hb;exact dA e
 refine fO (wpAny_newFunctionEnv S.nS (by intro y hy;simp at hy) (λh₁ YR Zh=>?_) S.kind);dsimp only at YR Zh ⊢;generalize hH2:s.heap.push {cls:=.type "list",dict:=none,data:=.seq ([]:T0 Vl).toArray}=H2 at YR Zh ⊢;have hC:H2.objs.size=s.heap.objs.size+1:=by rw[<-hH2,fF]
 have hDC:s.heap.objs.size≠H2.objs.size:=by rw[hC];exact dO (fD _)
 have Zi:s.heap.objs.size<=H2.objs.size:=by rw[hC];exact gw _
 have Zv:∀b,b<s.heap.objs.size->b≠H2.objs.size/\b≠s.heap.objs.size:=λb hb=>⟨by rw[hC];exact dO (jk hb),dO hb⟩;have XO:∀b o,s.heap.get? b=ga o->h₁.get? b=ga o:=λb o e=>Zh.extBut b o (Zv b (dA e)).1 (cY _ (hH2 ▸ cY _ e));have hacc:h₁.get? s.heap.objs.size=ga {cls:=.type "list",data:=.seq ([]:T0 Vl).toArray 0}:=Zh.extBut _ _ hDC (cY _ (hH2 ▸ dG _ Z'));have YR:h₁.Ns H2.objs.size (λ_=>Fa):=YR;have Ym:∀{H':Hp} {pl:QQY},(∀b∈fp,H' b=Fa)->(∀p∈pl,p.1∉fp)->∀b∈fp,zC (X.comp scope N' H2.objs.size s H fp) (X.pn++W5++pl) H' b:=λ{H' pl} hn Xj b hb=>by
  refine⟨hn b hb,dO (dJ (Xl b hb) Zi),λz=>?_,.inl hb,λx c e=>(hf b hb).2.2.2.2.1 x c (S.sub I.ok e),λp hp=>?_⟩
  .rcases dg.mp (I.mV b z)with y|y
   .exact(hf b hb).2.1 y
   .exact(hf b hb).2.2.1 y
  .rcases dM.mp (show p∈X.pn++W5++pl by simpa using hp)with z|z
   .exact(hf b hb).2.2.2.2.2 p z
   .intro q;exact Xj p z (q ▸ hb)
 have loop:∀s₃:Sd,s₃={s with heap:=h₁,toks:=s.toks+([]:T0 (Str×Vl)).length}->
   XXb (pi X.prog X.w) X.A (.compLoop (.ListComp X3 [⟨tg,iter,XD,0⟩] scope pos) 0 (.ref it) (.ref s.heap.objs.size) (compEnvC scope (AH X.env scope.names []) H2.objs.size X.env))
    (RR (.ref s.heap.objs.size) H2.objs.size) s₃:=by
  rintro s₃ rfl
  refine xN (hEX:=λe s' z=>hx _ _ e s' Zi z) (λn s'=>∃(i:Nat) (ys:T0 V) (us:T0 Vl) (k:Nat) (σ':St) (H':Hp),Inv (X.comp scope N' H2.objs.size s H fp) (X.pn++W5) σ' H' s'/\tn i s'.heap/\(∀b∈fp,H' b=Fa)/\H' s.heap.objs.size=Fa/\
   s'.heap.get? s.heap.objs.size=ga {cls:=.type "list",data:=.seq us.toArray k}/\qo ys us/\ys.length<=Uf/\W i n ys σ' H') ?_ m0
   ⟨0,[],[],0,Qs ix Y,H,I.comp S hf Xl Zi XO YR,T.keep _ _ _ st λb _ o e=>XO b o e,λb hb=>(hf b hb).1,I.mD.fresh (cZ _),hacc,.nil,eK _,w0⟩
  rintro n s' ⟨i,ys,us,k,σ',H',I',Yt,fr',hD',XJ,rv',hz',w'⟩
  have cellD:∀x c,(X.comp scope N' H2.objs.size s H fp).env.cells.lookup x=ga c->c≠s.heap.objs.size:=λx c e=>by obtain⟨v,q⟩:=I.cell x c (S.sub I.ok e);exact dO q.lt
  have pinD:∀p∈X.pn++W5,p.1≠s.heap.objs.size:=λp hp=>dO (dA (I.pin p hp).1);have dfs:s.heap.objs.size∉(X.comp scope N' H2.objs.size s H fp).fs:=λz=>by
   rcases dg.mp (I.mV _ z)with y|y
   .exact absurd I.lt (by rw[<-y];exact eO _)
   .exact I.oz (cZ _) y
  have dfp:s.heap.objs.size∉fp:=λz=>absurd (Xl _ z) (eO _);have IpD:Inv (X.comp scope N' H2.objs.size s H fp) (X.pn++W5++[(s.heap.objs.size,{cls:=.type "list",data:=.seq us.toArray k})]) σ' H' s':=I'.nv λp hp=>by
   rcases dM.mp hp with z|z
   .exact I'.pin p (eA _ z)
   .have e:p=(s.heap.objs.size,{cls:=.type "list",data:=.seq us.toArray k}):=by simpa using z
    subst e;exact⟨XJ,hD',hDC,dfs,λv z=>by cases z⟩
  have pfp:∀p∈[((s.heap.objs.size,{cls:=.type "list",data:=.seq us.toArray k}):lf×Obj)],p.1∉fp:=λp hp=>by
   have e:p=(s.heap.objs.size,{cls:=.type "list",data:=.seq us.toArray k}):=by simpa using hp
   subst e;exact dfp
  rcases turn i n ys σ' H' w' with⟨stop,hz,q⟩|⟨go,hz,step⟩
  .refine d6 (T.done (X.comp scope N' H2.objs.size s H fp) Z' Z' Z' hc i _ s' σ' H' (λ_ _=>False) IpD (Ym fr' pfp) Yt stop) (λr s1 ⟨hr,I1⟩=>?_) λ_ _ z=>z;subst hr;show RR _ _ _ _;have ho1:s1.heap.get? s.heap.objs.size=ga {cls:=.type "list",data:=.seq us.toArray k}:=(I1.pin (s.heap.objs.size,{cls:=.type "list",data:=.seq us.toArray k}) (by simp)).1;obtain⟨m,hnC,_⟩:=id I1.loc;refine Xb _ _ s1 (upd H' s.heap.objs.size (.lst ys)) m Zi (by rw[pN (dQ hDC)];exact I1.free) hnC ?_ (q _ hD');have nD:∀b o,s.heap.get? b=ga o->b≠s.heap.objs.size:=λb o e=>(Zv b (dA e)).2;have hD0:H s.heap.objs.size=Fa:=I.mD.fresh (cZ _);refine I.oF (s':=s1) (ch:=fp) I1.os ⟨λb o e n1 n2 n3=>?_,λb o e n1 n2 n3=>?_,λb o e n1 n2=>?_,λb o e n1=>?_,λb xs e=>?_,λb o u e=>?_,λb ps e=>?_⟩ (λb u e=>?_) I1.bare λb hb=>⟨(hf b hb).2.2.2.1,(hf b hb).2.1,(hf b hb).2.2.2.2.1,(hf b hb).2.2.2.2.2⟩
   .exact I1.base.keep b o e n1 n2 n3
   .exact I1.base.slot b o e n1 n2 n3
   .rw[pN (nD b o e)];exact I1.base.free b o e n1 n2
   .exact I1.base.there b o e n1
   .rw[pN (qE e hD0)];exact I1.base.m8 b xs e
   .rw[pN (qE e hD0)];exact I1.base.mW b o u e
   .obtain⟨more,z⟩:=I1.base.ni b ps e;exact⟨more,by rw[pN (qE e hD0)];exact z⟩
   .by_cases hb:b=s.heap.objs.size
    .subst hb;rw[pR]at e;cases e;exact⟨hz,us,k,rv',ho1⟩
    .rw[pN hb]at e;exact(I1.mD b u e).m9 (λc v _ z=>z) (λc z=>by rw[pN (qE z hD')];exact z) (λc xs z=>by rw[pN (qE z hD')];exact z)
  .refine d6 (T.item (X.comp scope N' H2.objs.size s H fp) Z' Z' Z' hc i _ s' σ' H' (λ_ _=>False) IpD (Ym fr' pfp) Yt go) (λr s1 ⟨v,hr,h4⟩=>?_) λ_ _ z=>z;subst hr;show Ch _ _ (XXa tg (.ref it) v) _ _ s1;refine d6 h4 (λ_ s2 zz=>?_) λ_ _ z=>z;obtain⟨x,H5,I5,r5,y5,Zs,fr5⟩:=zz;have I5':=I5.pinned (Ym fr5 pfp) (T.obj _ _ Zs);refine d6 (hg H2.objs.size s H fp _ s2 σ' H5 x v _ I5' r5 (step x H5 y5)) (λ_ s3 ⟨σ6,H6,I6,q6⟩=>?_) λ_ _ z=>z;refine d6 (ht H2.objs.size s H fp _ s3 σ6 H6 _ I6 q6) (λok s4 ⟨H7,I7,q7⟩=>?_) λ_ _ z=>z;have Zw:∀{σ7:St} {H7:Hp} {s7:Sd},Inv (X.comp scope N' H2.objs.size s H fp) (X.pn++W5++[(s.heap.objs.size,{cls:=.type "list",data:=.seq us.toArray k})]++B6 fp s2.heap) σ7 H7 s7->
     tn (i+1) s7.heap/\(∀b∈fp,H7 b=Fa)/\H7 s.heap.objs.size=Fa/\s7.heap.get? s.heap.objs.size=ga {cls:=.type "list",data:=.seq us.toArray k}:=λ{σ7 H7 s7} K7=>by
    have pd:=K7.pin (s.heap.objs.size,{cls:=.type "list",data:=.seq us.toArray k}) (by simp);refine⟨T.keep _ _ _ Zs λb hb o e=>(K7.pin (b,o) (eA _ (eA _ (vh hb e)))).1,λb hb=>?_,pd.2.1,pd.1⟩;obtain⟨o,e,d⟩:=T.obj _ _ Zs b hb;exact(K7.pin (b,o) (eA _ (eA _ (vh hb e)))).2.1
   cases ok with
   | false=>rw[cW dv]at q7 ⊢;obtain⟨m',hm,w7⟩:=q7;obtain⟨t7,f7,d7,o7⟩:=Zw I7;exact⟨m',hm,i+1,ys,us,k,σ6,H7,I7.mI.mI,t7,f7,d7,o7,rv',hz',w7⟩
   | true=>
    rw[cX Z']at q7 ⊢;refine d6 (he H2.objs.size s H fp _ s4 σ6 H7 _ I7 q7) (λyv s5 ⟨y,H8,I8,r8,m',hm,w8⟩=>?_) λ_ _ z=>⟨_,_,λb hb=>(by
     obtain⟨o,e,_⟩:=T.obj _ _ Zs b hb;exact⟨o,eA _ (vh hb e)⟩),z⟩
    obtain⟨t8,f8,d8,o8⟩:=Zw I8;have hsz:us.toArray.size<=Uf:=by rw[dh,<-rv'.length];exact hz'
    refine append_at (hsz:=hsz) o8 λh' sb od=>?_;refine⟨m',hm,i+1,ys++[y],us++[yv],k+1,σ6,H8,?_,T.keep _ _ _ t8 λb hb o e=>(sb.2 b λq=>dfp (q ▸ hb)).trans e,f8,d8,?_,rv'.append (.cons r8 .nil),?_,w8⟩
    .exact I8.mI.mI.turned (it:=s.heap.objs.size) (t':=s5.toks) (λb o hb e=>(sb.2 b hb).trans e) d8 hDC (.inr (cZ _)) cellD (by simpa using pinD)
    .rw[od,List.push_toArray]
    .rw[cU,dE];exact hz
 exact codeAny_compStart_list (loop _ Z') (T.self _ 0 _ _ _ (T.keep _ _ _ st λb _ o e=>XO b o e) (loop _ Z'))
def Inv.letGo{C:lf}(I:Inv X W5 Y H s)(I':Inv X W5 σ' H' s')(hC:s.heap.objs.size<=C)(hn:H' C=Fa)(hs:Heap.SameBut C s'.heap h'):Inv X W5 σ' H' {s' with heap:=h'}:=
 I'.turned (t':=s'.toks) (it:=C) (λb o hb e=>(hs.2 b hb).trans e) hn (λz=>absurd (dJ I.lt hC) (by rw[z];exact eO _)) (.inr (dS I.sz hC))
  (λx c e z=>by
   obtain⟨v,r⟩:=I.cell x c e;exact absurd (dJ r.lt hC) (by rw[z];exact eO _))
  (λp hp z=>absurd (dJ (dA (I.pin p hp).1) hC) (by rw[z];exact eO _))
def OS(hc:X.calm=Db)(S:rT X scope ix N')(hi:PI X tg iter wi)(hg:∀C s0 H0 ex,PG (X.comp scope N' C s0 H0 ex) tg g)(ht:∀C s0 H0 ex,PF (X.comp scope N' C s0 H0 ex) XD tt)(he:∀C s0 H0 ex,PE (X.comp scope N' C s0 H0 ex) X3 te) (hs:∀x,AT iter X.env x=pure x:=by intro _;rfl):PE X (.ListComp X3 [⟨tg,iter,XD,0⟩] scope pos) (NJ ix wi g tt te):=by
 intro W5 s Y H Q I h;rw[eval_ListComp];refine jx (use:=none) Z' hs (ym (S.cells I.ok)) S.kind S.nam (d6 (hi W5 s Y H _ I h) (λxv s₁ h₁=>d6 h₁ (λitv s₂ h₂=>?_) λ_ _ e=>e) λ_ _ e=>e);obtain⟨it,fp,tn,J,H2,e,I2,T,Xs,f2,hw⟩:=h₂;subst e;refine BI (RR:=λacc C=>compPost (pi X.prog X.w) X.A X.xe Fa (EP X W5 Y Q) acc C) hc S I2 T Xs f2 hg ht (XP:=λ_ _ _ _ _ _ _ _=>False) he (λ_ _ _ _ _ z=>by obtain⟨_,_,_,z⟩:=z;exact z.elim) hw λD C s' H' m hCs hCn hn I3 q=>?_;exact⟨m,hn,λh' Zx=>⟨.ref D,_,I2.letGo I3 hCs hCn Zx,Z',q⟩⟩
def Il{i:Nat}{x:Str}{px YS:Pos}(hN:X.N.Nodup)(ZP:X.N[i]?=ga x)(hx:KO X.env.scope x)(hc:X.calm=Db)(S:rT X scope ix N')(hi:PI X tg iter wi)(hg:∀C s0 H0 ex,PG (X.comp scope N' C s0 H0 ex) tg g)(ht:∀C s0 H0 ex,PF (X.comp scope N' C s0 H0 ex) XD tt) (he:∀C s0 H0 ex,PE (X.comp scope N' C s0 H0 ex) X3 te) (YA:wv (.ListComp X3 [⟨tg,iter,XD,0⟩] scope pos) (ga (.Name x px)) YS.line X.env=pure Db) (hf:KP X x:=by first|exact .inl Z'|exact .inr Z'|assumption) (hs:∀x,AT iter X.env x=pure x:=by intro _;rfl):
  PS X (.Assign [.Name x px] (.ListComp X3 [⟨tg,iter,XD,0⟩] scope pos) YS) (Rr (NJ ix wi g tt te) (LR i)):=by
 intro W5 s Y H D I h;rw[exec_Assign_Name_used _ _ _ _ YA];refine cS (ie (cS ?_));show Ch _ X.A (do let _<-comprehension (.ListComp X3 [⟨tg,iter,XD,0⟩] scope pos) scope X.env _ (newList []) pc (No iter X.env) (ga (assign (.Name x px) X.env))) _ _ s;refine cS (d6 (jx (use:=some (assign (.Name x px) X.env)) (Q:=λ_ s'=>SP X W5 D .next s') Z' hs (ym (S.cells I.ok)) S.kind S.nam
  (d6 (hi W5 s Y H _ I h) (λxv s₁ h₁=>d6 h₁ (λitv s₂ h₂=>?_) λ_ _ e=>e) λ_ _ e=>e)) (λ_ s' hq=>df (df hq)) λ_ _ e=>e)
 obtain⟨it,fp,tn,J,H2,e,I2,T,Xs,f2,hw⟩:=h₂;subst e;refine BI (RR:=λacc C=>compPost (pi X.prog X.w) X.A X.xe (ga (assign (.Name x px) X.env)) (λ_ s'=>SP X W5 D .next s') acc C) hc S I2 T Xs f2 hg ht (XP:=λ_ _ _ _ _ _ _ _=>False) he (λ_ _ _ _ _ z=>by obtain⟨_,_,_,z⟩:=z;exact z.elim) hw λDa C s' H' m hCs hCn hn I3 q=>?_;show Ch _ X.A (assign (.Name x px) X.env (.ref Da)) _ _ _;refine kP (DO I3 hN ZP hx (v:=.ref Da) Z' (λs4 I4 ⟨a,sb,ha⟩=>?_) hf);have ca:C≠a:=λz=>by
  rcases ha with y|y
  .exact absurd (dJ I2.lt hCs) (by rw[z,y];exact eO _)
  .obtain⟨v,r⟩:=I2.cell x a y;exact absurd (dJ r.lt hCs) (by rw[z];exact eO _)
 exact⟨m,hn.sameBut sb ca,λh' Zx=>⟨_,H',I2.letGo I4 hCs hCn Zx,q⟩⟩
end
def AN:typeLookup (.type "list") "__getattr__"=pure Fa:=by rw[typeLookup_type,jX];kernel_rfl
def FJ:typeLookup (.type "list") "keys"=pure Fa:=by rw[typeLookup_type,jX];kernel_rfl
section
variable {prog:Pg}{w:Wo}{A:Ar}{E:QQX}
def K3(a:lf)(u:Tok)(its:Array Vl)(n:Nat)(sl:Array (Option Vl)):
  Meets (Builtin.«object.__getattribute__» ⟨[.ref a,.str "keys" u],[]⟩) λA R s=>s.heap.get? a=ga ⟨.type "list",Fa,.seq its n,sl⟩/\A.handled=Fa/\∀h' tk e,Heap.NewAttrErr s.heap h' e (.ref a) "keys"->R (.error (.ref e)) {s with heap:=h',toks:=tk}:=
 Meets.of_wp λprog w A R s hs=>by
  obtain⟨hp,g,d,tk,os⟩:=s;obtain⟨h1,h2,h3⟩:=hs;have hT:(⟨hp,g,d,tk,os⟩:Sd).TypeIs (.ref a) "list":=⟨_,h1,Z'⟩;have f1:=FJ;unfold Builtin.«object.__getattribute__»
  repeat (any_goals(first|assumption|wp_step))
  exact wpAny_raiseAttrError h2 h3 (attrMsg_fits (by decide+kernel) (by decide))
def ER{s:Sd}{a:lf}{its:Array Vl}{n:Nat}{sl:Array (Option Vl)}{Q:Option Vl->Sd->Prop}(ha:s.heap.get? a=ga ⟨.type "list",Fa,.seq its n,sl⟩)(hA:A.handled=Fa) (h:∀h' tk,(∀b o,s.heap.get? b=ga o->h'.get? b=ga o)->Q Fa {s with heap:=h',toks:=tk}):Ch (pi prog w) A (getAttr? (.ref a) "keys") Q E s:=by
 obtain⟨hp,g,d,tk,os⟩:=s;have hT:(⟨hp,g,d,tk,os⟩:Sd).TypeIs (.ref a) "list":=⟨_,ha,Z'⟩;have f1:=sub_AttributeError;have f3:=iq.lookup;have f4:=iq.bind (.ref a);have f5:=AN;unfold getAttr? getAttrBy? getAttrBy
 repeat (any_goals(first|assumption|((with_reducible show Ch _ _ (call (Value.builtin "list.__getattribute__") _ _) _ _ _);refine jn iq hT F.entry_list_ga (F.args_list_getattribute_2 _ _) (K3 a _ its n sl) ⟨ha,hA,λh' tk' e hx=>?_⟩)|wp_step))
 obtain⟨t',u',he⟩:=hx.there;show Ch _ _ (getattributeRaised _ _ _ _ _ _ _) _ _ _;unfold getattributeRaised
 repeat (any_goals(first|assumption|wp_step))
 all_goals first|exact h _ _ hx.keeps|skip
end
def Au:entryFor table "dict.update.loop"=ga Builtin.«dict.update.loop»:=entryFor_of_tree (by kernel_rfl)
def vB:plainId "dict.update.loop"=Db:=by decide+kernel
section
variable {prog:Pg}{w:Wo}{A:Ar}{E:QQX}{R:Result→Sd→Prop}{κ:Type}[DecidableEq κ]{knd:PySem.KeyKind prog w κ}
 {I:lf} {fp wr:QXQ} {G:Array GenState->Array GenState->Prop} {P:Nat->Vl->Prop} {St:Nat->Sd->Prop}
def OM{s:Sd}{t:lf}{x y:Vl}{Q:T0 Vl->Sd->Prop}(h:s.heap.IsTuple t #[x,y])(q:Q [x,y] s):Ch (pi prog w) A (Builtin.Dict.pairItems (.ref t)) Q E s:=by
 obtain⟨⟨oc,od,oda,X5⟩,h1,h2,n,h3⟩:=h;simp only at h2 h3;subst h2 h3;have hT:s.TypeIs (.ref t) "tuple":=⟨_,h1,Z'⟩;obtain⟨hp,g,d,tk,os⟩:=s;unfold Builtin.Dict.pairItems
 repeat (any_goals(first|assumption|wp_step))
def Kl{all:T0 (κ×Vl)}(W:WalksS prog w A.in1 I fp wr G all.length P St)(d:lf)(Zu:d∉fp)(kv:Nat->Vl)(tp:Nat->lf)(hP:∀i v,P i v->v=.ref (tp i))(hw:∀j,j<all.length->tp j∉wr/\tp j≠d) (hk:∀j p,all[j]?=ga p->knd.is p.1 (kv j)=Db) (hz:all.length<=Uf):
  ∀(k i:Nat) (z:Int) (s:Sd),all.length - i=k->i<=all.length->St i s->(∀j p,all[j]?=ga p->s.heap.IsTuple (tp j) #[kv j,p.2])->s.heap.DictOf knd d (merged [] (all.take i))->
   (∀s',Moved (d::wr) G s s'->s'.heap.DictOf knd d (merged [] all)->R (.ok (.ret .none)) s')->XXb (pi prog w) A (.builtin "dict.update.loop" ⟨[.ref d,.ref I,.int z 0,.none],[]⟩) R s:=by
 have hdw:d∉wr:=λh=>Zu (W.sub _ h);have Zj:∀b∈wr,b∈d::wr:=λb hb=>dz _ hb;intro k;induction k with
 | zero=>
  intro i z s hk0 hi Xr hT hD hR;have Y4:i=all.length:=by lia
  subst Y4;refine ik Au ?_;rw[h9 vB _];show Ch _ A.in1 (pyNext (.ref I)>>=_) _ _ s;refine cS (W.done s _ _ Xr λs' hm=>?_);show Ch _ A.in1 (Builtin.Dict.addKeywords d []>>=_) _ _ s';refine cS (df (df (hR s' (hm.mono Zj) ?_)));rw[fh]at hD;obtain⟨o,es,ep,ho,rest⟩:=hD;exact⟨o,es,ep,hm.heap d _ hdw ho,rest⟩
 | succ k ih=>
  intro i z s hk0 hi Xr hT hD hR;have Xl:i<all.length:=by lia
  have Yp:all[i]?=ga all[i]:=cT Xl;refine ik Au ?_;rw[h9 vB _];show Ch _ A.in1 (pyNext (.ref I)>>=_) _ _ s;refine cS (W.item i s _ _ Xl Xr λv s' hPv ZQ hm=>?_);obtain rfl:=hP i v hPv;have hT':∀j p,all[j]?=ga p->s'.heap.IsTuple (tp j) #[kv j,p.2]:=λj p e=>by obtain⟨o,h1,h2⟩:=hT j p e;exact⟨o,hm.heap _ _ (hw j (cV.mp e).1).1 h1,h2⟩
  have hD':s'.heap.DictOf knd d (merged [] (all.take i)):=by obtain⟨o,es,ep,ho,rest⟩:=hD;exact⟨o,es,ep,hm.heap d _ hdw ho,rest⟩
  show Ch _ A.in1 (Ix [Value.ref (tp i)] _>>=_) _ _ s';refine cS (eW (cS (wpAny_tryCatch (OM (hT' i _ Yp) ?_))));show Ch _ A.in1 (Ix [kv i,all[i].2] (dictSet d (kv i) all[i].2)) _ _ s';refine eW ?_;unfold dictSet;refine eW (cS (knd.pyHash (hk i _ Yp) ?_));have hl:(merged [] (all.take i)).length<=Uf:=by have:=merged_length_le [] (all.take i);rw[fg]at this;simp only[dB]at this;lia
  refine wpAny_dictSetHashed_pairs (hsz:=hl) (hk i _ Yp) hD' λh' dd hs=>?_;rw[<-merged_take_succ [] all i _ Yp]at dd;refine df ⟨ko vB _,ih (i+1) _ _ (by lia) Xl (W.frame _ s' _ _ ZQ (gw _) λb hb o e=>?_) (λj p e=>?_) dd λZJ ZR hD''=>?_⟩
  .rw[hs.2 b (λz:b=d=>Zu (z ▸ hb))];exact e
  .obtain⟨o,h1,h2⟩:=hT' j p e;refine⟨o,?_,h2⟩;show h'.get? (tp j)=ga o;rw[hs.2 _ (hw j (cV.mp e).1).2];exact h1
  .refine hR ZJ (mf W.gtrans ((hm.mono Zj).then_heap (gw _) λb o hb e=>?_) ZR) hD'';rw[hs.2 b (λz:b=d=>hb (by rw[z];exact dD))];exact e
end
section
variable {prog:Pg}{w:Wo}{A:Ar}{E:QQX}{κ:Type}[DecidableEq κ]{knd:PySem.KeyKind prog w κ}{s:Sd}
def AO{l:lf}{its:Array Vl}{n:Nat}{sl:Array (Option Vl)}{all:T0 (κ×Vl)}{Q:QQX}(kv:Nat->Vl)(tp:Nat->lf)(hh:A.handled=Fa)(hl:s.heap.get? l=ga ⟨.type "list",Fa,.seq its n,sl⟩) (hits:∀(j:Nat) (v:Vl),its[j]?=ga v->v=.ref (tp j)) (Xa:its.size=all.length) (hT:∀j p,all[j]?=ga p->s.heap.IsTuple (tp j) #[kv j,p.2]) (hk:∀j p,all[j]?=ga p->knd.is p.1 (kv j)=Db) (hz:all.length<=Uf) (h:∀h' tk,h'.DictOf knd s.heap.objs.size (merged [] all)->(∀b o,s.heap.get? b=ga o->h'.get? b=ga o)->Q (.ref s.heap.objs.size) {s with heap:=h',toks:=tk}):
  Ch (pi prog w) A (call (.type "dict") [.ref l]) Q E s:=by
 refine callType_codes (Q₁:=λobj s₁=>obj=Value.ref s.heap.objs.size/\s₁={s with heap:=s.heap.push {cls:=.type "dict",data:=.dict #[]}}) PySem.F.kt_called_dict (PySem.F.kt_typeCall_dict_1 _) F.entry_dict_init (kt_code_dict_new _ ⟨Z',Z'⟩) ?_
 rintro obj s₁ ⟨rfl,rfl⟩
 have YO:(s.heap.push {cls:=.type "dict",data:=.dict #[]}).DictOf knd s.heap.objs.size []:=lL s.heap;have hl':(s.heap.push {cls:=.type "dict",data:=.dict #[]}).get? l=ga ⟨.type "list",Fa,.seq its n,sl⟩:=cY _ hl;have hTl:Shared.TypeIs {s with heap:=s.heap.push {cls:=.type "dict",data:=.dict #[]}} (.ref l) "list":=⟨_,hl',Z'⟩;have lsz:l<s.heap.objs.size:=dA hl;refine⟨YO.typeIs,F.args_dict_init_2 _ _,?_⟩;unfold Builtin.«dict.__init__»;refine cS ?_;unfold Builtin.Dict.selfAndRest;refine cS (wpAny_notOrdered_dict YO.typeIs ?_);show Ch _ _ (pure (s.heap.objs.size,[Value.ref l])) _ _ _;refine df ?_;show Ch _ _ (Builtin.Dict.updateFrom "dict.__init__" s.heap.objs.size (.ref l) [] .none) _ _ _;unfold Builtin.Dict.updateFrom;refine cS (jv hTl ?_);rw[cX (by decide)];refine cS (ER hl' (by simpa using hh) λh' tk keep=>?_);have hl2:h'.IsList l its:=⟨_,keep _ _ hl',Z',n,Z'⟩;show Ch _ _ (rule _>>=_) _ _ _;refine cS (j7 (cS (gZ hl2 ?_)));have nd:h'.objs.size>s.heap.objs.size:=by have z:h'.get? s.heap.objs.size=ga _:=keep _ _ (dG _ Z');exact dA z
 have hDn:h'.DictOf knd s.heap.objs.size []:=by obtain⟨o,es,ep,ho,rest⟩:=YO;exact⟨o,es,ep,keep _ _ ho,rest⟩
 have hTs:∀j p,all[j]?=ga p->h'.IsTuple (tp j) #[kv j,p.2]:=λj p e=>by obtain⟨o,h1,h2⟩:=hT j p e;exact⟨o,keep _ _ (cY _ h1),h2⟩
 have Xt:l≠h'.objs.size:=dO (jw lsz nd);have W:=(j8 (prog:=prog) (w:=w) (A:=A.in1.in1) (by simpa using hh) h'.objs.size l Xt its).toS;rw[Xa]at W;refine df ⟨ko vB _,Kl (A:=A.in1) W s.heap.objs.size ?_ kv tp (λi v e=>hits i v e) (λj hj=>?_) hk hz all.length 0 0 _ (by lia) (eK _) ⟨⟨_,dG _ Z',Z',Z'⟩,hl2.push _⟩ (λj p e=>(hTs j p e).push _) ?_ λs' hm hD=>?_⟩
 .simp only[dg,dP,fP,hW];exact⟨dO nd,hJ lsz⟩
 .have hj':all[j]?=ga all[j]:=cT hj;obtain⟨o,h1,_⟩:=hT j _ hj';have tsz:=dA h1;simp only[dg,dP,fP];exact⟨dO (jw tsz nd),dO tsz⟩
 .obtain⟨o,es,ep,ho,rest⟩:=hDn;exact⟨o,es,ep,cY _ ho,rest⟩
 .obtain⟨h2,g2,d2,t2,o2⟩:=s';have eg:g2=s.gens:=hm.gens;have ed:d2=s.drawn:=hm.drawn;have eo:o2=s.os:=hm.os;subst eg ed eo;refine⟨Z',h h2 t2 hD λb o e=>?_⟩;have hb:=dA e;refine hm.heap b o ?_ (cY _ (keep _ _ (cY _ e)));simp only[dg,dP,fP,hW];exact⟨dO hb,dO (jw hb nd)⟩
end
noncomputable def s8{κ:Type}[DecidableEq κ](l:List κ):List κ:=l.foldl (λacc k=>if k∈acc then acc else acc++[k]) []
def x8{κ:Type}[DecidableEq κ](l:List κ)(k:κ):s8 (l++[k])=if k∈s8 l then s8 l else s8 l++[k]:=by unfold s8;rw[iD];rfl
def Je{κ:Type}[DecidableEq κ]:∀l:List κ,(s8 l).length<=l.length:=by
 have go:∀(l acc:List κ),(l.foldl (λacc k=>if k∈acc then acc else acc++[k]) acc).length<=acc.length+l.length:=by
  intro l;induction l with
  | nil=>intro acc;simp
  | cons k r ih=>
   intro acc;rw[fQ];refine dS (ih _) ?_;split
   .simp only[dY];lia
   .simp only[dY,cU,dB];lia
 intro l;have:=go l []
 simpa [s8]using this
def KR{κ:Type}[DecidableEq κ](x:κ):∀l:List κ,x∈s8 l↔x∈l:=by
 have go:∀(l acc:List κ),x∈l.foldl (λacc k=>if k∈acc then acc else acc++[k]) acc↔x∈acc\/x∈l:=by
  intro l;induction l with
  | nil=>intro acc;simp
  | cons k r ih=>
   intro acc;rw[fQ,ih];by_cases h:k∈acc
   .rw[cX h,dg];constructor
    .rintro (z|z)
     .exact .inl z
     .exact .inr (.inr z)
    .rintro (z|z|z)
     .exact .inl z
     .subst z;exact .inl h
     .exact .inr z
   .rw[cW h,dM,c9,dg,or_assoc]
 intro l;have:=go l []
 simpa [s8]using this
def Ig{κ:Type}[DecidableEq κ]:∀l:List κ,l.Nodup->s8 l=l:=by
 have go:∀(l acc:List κ),(acc++l).Nodup->l.foldl (λacc k=>if k∈acc then acc else acc++[k]) acc=acc++l:=by
  intro l;induction l with
  | nil=>intro acc _;simp
  | cons k r ih=>
   intro acc h;have hk:k∉acc:=λz=>by rw[gk]at h;exact h.2.2 k z k dD Z'
   rw[fQ,cW hk,ih]
   .rw[eN];rfl
   .rw[eN];exact h
 intro l h;have:=go l [] (by simpa using h)
 simpa [s8]using this
section
variable {prog:Pg}{w:Wo}{A:Ar}{E:QQX}{R:Result→Sd→Prop}{κ:Type}[DecidableEq κ][BEq κ][LawfulBEq κ]{knd:PySem.KeyKind prog w κ}
 {I:lf} {fp wr:QXQ} {G:Array GenState->Array GenState->Prop} {P:Nat->Vl->Prop} {St:Nat->Sd->Prop}
def G8{all:List κ}(W:WalksS prog w A.in1 I fp wr G all.length P St)(S:lf)(hSf:S∉fp)(hval:∀i v k,P i v->all[i]?=ga k->knd.is k v=Db/\v.scannable=Db)(hb:all.length+1<XXc):
  ∀(n i:Nat) (s:Sd),all.length - i=n->i<=all.length->St i s->s.heap.SetOf knd S (λx=>decide (x∈s8 (all.take i))) (s8 (all.take i)).length->
   (∀s',Moved (S::wr) G s s'->s'.heap.SetOf knd S (λx=>decide (x∈s8 all)) (s8 all).length->R (.ok (.ret .none)) s')->XXb (pi prog w) A (.builtin "set.update.loop" ⟨[.ref S,.ref I],[]⟩) R s:=by
 have hSw:S∉wr:=λh=>hSf (W.sub _ h);have up:∀b∈wr,b∈S::wr:=λb hb=>dz _ hb;have kept:∀{s s':Sd} {T:κ->Bool} {m:Nat},Moved wr G s s'->s.heap.SetOf knd S T m->s'.heap.SetOf knd S T m:=λhm ⟨o,es,ep,t,ho,rest⟩=>⟨o,es,ep,t,hm.heap S _ hSw ho,rest⟩;intro n;induction n with
 | zero=>
  intro i s h0 hi Xr hS hR;obtain rfl:i=all.length:=by lia
  refine ik ir ?_;rw[h9 gx _];rw[fh]at hS;exact cS (W.done s _ _ Xr λs' hm=>df (hR s' (hm.mono up) (kept hm hS)))
 | succ n ih=>
  intro i s h0 hi Xr hS hR;have Xl:i<all.length:=by lia
  have Yp:all[i]?=ga all[i]:=cT Xl;refine ik ir ?_;rw[h9 gx _];refine cS (W.item i s _ _ Xl Xr λv s' hP ZQ hm=>?_);obtain⟨k1,k2⟩:=hval i v _ hP Yp;have hS':=kept hm hS;show Ch _ A.in1 (Ix [v] (setAdd S v)>>=_) _ _ s';refine cS (eW ?_);unfold setAdd;refine eW (cS (knd.pyHash k1 ?_));have room:(s8 (all.take i)).length+1<XXc:=by have h1:=Je (all.take i);rw[fg]at h1;lia
  refine wpAny_setAddHashed_of (knd:=knd) (s:={s' with toks:=s'.toks+1}) k1 k2 hS' room λh' hsb hS2=>?_;have et:all.take (i+1)=all.take i++[all[i]]:=by rw[fH,Yp];rfl
  have hSi:h'.SetOf knd S (λx=>decide (x∈s8 (all.take (i+1)))) (s8 (all.take (i+1))).length:=by
   refine jy hS2 (λx=>?_) ?_
   .rw[et];by_cases W7:all[i]∈s8 (all.take i)
    .rw[x8,cX W7];by_cases hx:x=all[i]
     .subst hx;simp[W7]
     .simp[hx]
    .rw[x8,cW W7];by_cases hx:x=all[i]
     .subst hx;simp
     .simp[hx]
   .rw[et,x8];by_cases W7:all[i]∈s8 (all.take i)
    .rw[cX W7];simp[W7]
    .rw[cW W7];simp[W7]
  refine df ⟨ko gx _,ih (i+1) _ (by lia) Xl (W.frame _ s' _ _ ZQ (gw _) λb hb o e=>?_) hSi λZJ ZR hS''=>?_⟩
  .rw[hsb.2 b (λz:b=S=>hSf (z ▸ hb))];exact e
  .refine hR ZJ (mf W.gtrans ((hm.mono up).then_heap (gw _) λb o hb e=>?_) ZR) hS'';rw[hsb.2 b (λz:b=S=>hb (by rw[z];exact dD))];exact e
end
def Dl:isSubtype (.type "tuple") (.type "set")=pure pc:=by rw[iV];kernel_rfl
def zT:isSubtype (.type "tuple") (.type "frozenset")=pure pc:=by rw[iV];kernel_rfl
def Ff:isSubtype (.type "list") (.type "set")=pure pc:=by rw[iV];kernel_rfl
def AU:isSubtype (.type "list") (.type "frozenset")=pure pc:=by rw[iV];kernel_rfl
section
variable {prog:Pg}{w:Wo}{A:Ar}{E:QQX}{κ:Type}[DecidableEq κ][BEq κ][LawfulBEq κ]{knd:PySem.KeyKind prog w κ}{s:Sd}
set_option maxHeartbeats 4000000 in
def zG{l:lf}{W6:Array Vl}{all:List κ}{Q:QQX}(hh:A.handled=Fa)(hl:s.heap.IsList l W6\/s.heap.IsTuple l W6)(hn:W6.size=all.length)(hi:∀(i:Nat) (v:Vl) (k:κ),W6[i]?=ga v->all[i]?=ga k->knd.is k v=Db/\v.scannable=Db)(hb:all.length+1<XXc) (h:∀(h':Go) (tk:Nat),h'.SetOf knd s.heap.objs.size (λx=>decide (x∈s8 all)) (s8 all).length->(∀b o,s.heap.get? b=ga o->h'.get? b=ga o)->Q (.ref s.heap.objs.size) {s with heap:=h',toks:=tk}):
  Ch (pi prog w) A (call (.type "set") [.ref l]) Q E s:=by
 obtain⟨c,tl,hmro⟩:=gO.mro;have hmade:=gO.made;have Zj:=gO.sub;refine iJ (codeAny_of_tree ?_);show Ch _ _ (callAny (.type "set") _) _ _ _;refine df ⟨i9 _ (by decide+kernel),ik F.entry_type_call ?_⟩;rw[Around.under_plain (weight_type_call_type "set" [.ref l] []) Z'];have h1:=gO.notType;have h2:=gO.canCreate;have hct:=F.typeCall_set_1 (.ref l)
 repeat (any_goals(first|assumption|wp_step))
 have fresh:∀YB:Bool,(s.heap.push {cls:=.type "set",dict:=none,data:=.set #[] 0 (.fresh 0 0 YB)}).get? s.heap.objs.size=ga {cls:=.type "set",dict:=none,data:=.set #[] 0 (.fresh 0 0 YB)}:=λYB=>dG _ Z';refine gN (code_set_new_1 (.ref l) (E:=E) (Q₁:=λobj s₁=>∃YB:Bool,obj=Value.ref s.heap.objs.size/\s₁={s with heap:=s.heap.push {cls:=.type "set",dict:=none,data:=.set #[] 0 (.fresh 0 0 YB)}}) λYB=>⟨YB,Z',Z'⟩) λr s₁ hr=>?_;cases r with
 | error e=>exact hr
 | ok fl=>
  cases fl with
  | ret obj=>
   obtain⟨YB,rfl,rfl⟩:=hr;have hS:=fresh YB;have hT:Shared.TypeIs {s with heap:=s.heap.push {cls:=.type "set",dict:=none,data:=.set #[] 0 (.fresh 0 0 YB)}} (.ref s.heap.objs.size) "set":=⟨_,hS,Z'⟩;have hli:=gO.init.lookup;have hbi:=gO.init.bind (.ref s.heap.objs.size)
   repeat (any_goals(first|assumption|wp_step))
   refine gN (j9 (R:=wants (λr s₂=>r=.none/\∃h' tk,s₂={s with heap:=h',toks:=tk}/\h'.SetOf knd s.heap.objs.size (λx=>decide (x∈s8 all)) (s8 all).length/\(∀b o,s.heap.get? b=ga o->h'.get? b=ga o)) E) gO.init.plain F.entry_set_init (check_set_init_1 hT ?_)) λr₂ s₂ hr₂=>?_
   .rcases hl with⟨ol,hol,hcl,nl,hdl⟩|⟨ol,hol,hcl,nl,hdl⟩
    all_goals
     obtain⟨ocls,odict,odata,oslots⟩:=ol;simp only at hcl hdl;subst hcl;subst hdl;have Zk:=cY {cls:=.type "set",dict:=none,data:=.set #[] 0 (.fresh 0 0 YB)} hol;have hsls:=Ff;have hslf:=AU;have htls:=Dl;have htlf:=zT;have hnd:(Value.type "list"==Value.type "dict")=pc:=by decide
     have hnt:(Value.type "tuple"==Value.type "dict")=pc:=by decide
     unfold Builtin.«set.__init__» noKeywords Builtin.Frozenset.updateFrom;generalize hPI:pyIter=PI
     wp_walk
     subst hPI
     first|refine gZ ⟨_,Zk,Z',nl,Z'⟩ ?_|refine iu ⟨_,Zk,Z',nl,Z'⟩ ?_
     refine cS (wpAny_runValue ?_);have lS:l<s.heap.objs.size:=dA hol;have hh3:A.in1.in1.in1.handled=Fa:=by simp[hh]
     have lI:l≠(s.heap.push {cls:=.type "set",dict:=none,data:=.set #[] 0 (.fresh 0 0 YB)}).objs.size:=by rw[fF];exact dO (jk lS)
     first
     | refine G8 (hn ▸ (j8 (prog:=prog) (w:=w) hh3 _ l lI W6).toS) s.heap.objs.size ?hf (λi v k e1 e2=>hi i v k e1 e2) hb all.length 0 _ (by lia) (eK _) ⟨⟨_,dG _ rfl,rfl,rfl⟩,_,cY _ Zk,rfl,nl,rfl⟩ ?h0 ?hR
     | refine G8 (hn ▸ (Walks.tuple (prog:=prog) (w:=w) hh3 _ l lI W6).toS) s.heap.objs.size ?hf (λi v k e1 e2=>hi i v k e1 e2) hb all.length 0 _ (by lia) (eK _) ⟨⟨_,dG _ rfl,rfl,rfl⟩,_,cY _ Zk,rfl,nl,rfl⟩ ?h0 ?hR
     case hf=>rw[fF];simp only[dg,dP,fP,hW];exact⟨dO (fD _),hJ lS⟩
     case h0=>exact jy ((PyProof.Rows.setObjOf_fresh (knd:=knd) YB).setOf (cY _ hS) (by unfold XXc;lia)) (λ_=>rfl) Z'
     case hR=>intro s' hm hS';obtain⟨h',g',d',tk',os'⟩:=s';have eg:g'=s.gens:=hm.gens;have ed:d'=s.drawn:=hm.drawn;have eo:os'=s.os:=hm.os;subst eg;subst ed;subst eo;refine df ?_;show Ch _ _ (ret Value.none) _ _ _;refine df ⟨Z',h',tk',Z',hS',λb o e=>?_⟩;have hb:=dA e;refine hm.heap b o ?_ (cY _ (cY _ e));rw[fF];simp only[dg,dP,fP,hW];exact⟨dO hb,dO (jk hb)⟩
   .cases r₂ with
    | error e=>exact hr₂
    | ok fl₂=>
     cases fl₂ with
     | ret r=>
      obtain⟨rfl,h',tk,rfl,hS',Zg⟩:=hr₂
      repeat (any_goals(first|assumption|wp_step))
      exact h _ _ hS' Zg
     | _=>exact hr₂.elim
  | _=>exact hr.elim
end
end L2
namespace HT
open PySem PyProof.Rows
variable {prog:Pg}{w:Wo}{A:Ar}{E:QQX}{s:Sd}
def zr{t sl:lf}{vl vu:Vl}{lo hi:Option Int}{Q:QQX}(ht:IsTup s.heap t W6)(hs:s.heap.IsSliceOf sl vl vu .none)(pl:IsPart vl lo)(pu:IsPart vu hi) (hw:sS W6.size 0 lo=0/\sS W6.size W6.size hi=W6.size) (h:Q (.ref t) s):Ch (pi prog w) A (W' (.ref t) (.ref sl)) Q E s:=by
 obtain⟨os,ZL,Zt,Yn⟩:=id hs;have hTs:s.TypeIs (.ref sl) "slice":=⟨os,ZL,Zt⟩;unfold W'
 try with_reducible refine eW ?_
 first|refine cS (df ?_)|skip
 refine cS (ji ht.typeIs (by decide) ?_);refine cS (fC (name:=Str.ofString "__getitem__") ht.typeIs fk (gb fk ht.typeIs kq ?_ (kG _ _)));show Ch _ _ (Builtin.Tuple.tupleItemsOf (.ref t)>>=_) _ _ s;refine cS (tupleItemsOf_ ht ?_);refine cS (jv hTs ?_);rw[cX (by decide)];refine cS (vU hs pl pu ?_);have yes:(((sS W6.size 0 lo:Nat):Int)==0&&(1:Int)==1&&(sS W6.size W6.size hi - sS W6.size 0 lo)==W6.size)=Db:=by rw[hw.1,hw.2];simp
 show Ch _ _ (if (((sS W6.size 0 lo:Nat):Int)==0&&(1:Int)==1&&(sS W6.size W6.size hi - sS W6.size 0 lo)==W6.size)=Db then _ else _) _ _ s;rw[cX yes];have hT:=ht.typeIs;obtain⟨hp,g,d,tk,o⟩:=s
 repeat (any_goals(first|assumption|wp_step))
 exact⟨_,Z',df h⟩
end HT
namespace L2
variable {X:Cx}{p p2 pos YT:Pos}{e:Tl}{te:TE}
section
def VF(K:qk):V->Option Int->Option Int->Hp->VK->Prop:=λx lo hi H Q=>∃a xs,x=.ref a/\vk K H a xs/\(HT.sS xs.length 0 lo=0/\HT.sS xs.length xs.length hi=xs.length)/\Q (.ref a) H
def S5:TL X (VF X.K):=by
 intro W5 s Y H x v vl vu lo hi sl Q I rx hs pl pu h;obtain⟨a,xs,rfl,hx,hw,q⟩:=h;cases rx;obtain⟨its,r,ht,hz⟩:=I.tuple hx;have Xa:its.toArray.size=xs.length:=by rw[dh];exact r.length.symm
 exact⟨"tuple",_,fk.lookup,ht.typeIs,HT.zr ht hs pl pu (by rw[Xa];exact hw) ⟨.ref a,H,I,Z',q⟩⟩
local instance (priority:=5000) keyBEq:BEq qJ:=instBEqOfDecidableEq
local instance (priority:=5000) keyLaw:LawfulBEq qJ:=inferInstanceAs (LawfulBEq (Sum Int Str))
def PB(K:qk)(te:TE):TE:=λY H Q=>te Y H λx H1=>∃a,∃ss:QQQ,x=.ref a/\(xk K H1 a (ss.map V.str)\/vk K H1 a (ss.map V.str))/\ss.length+1<XXc/\Q (.int (s8 ss).length) H1
def Gd{ss:QQQ}(r:qo (ss.map V.str) us):us.length=ss.length/\∀(i:Nat) (v:Vl) (k:qJ),us[i]?=ga v->(ss.map λx=>(Sum.inr x:qJ))[i]?=ga k->(rf P w).is k v=Db/\v.scannable=Db:=by
 refine⟨by rw[<-r.length,cR],λi v k e1 e2=>?_⟩;rw[dq]at e2;cases q:ss[i]? with
 | none=>rw[q]at e2;cases e2
 | some x=>rw[q]at e2;cases e2;obtain⟨u,e3,t,rfl⟩:=r.get (i:=i) (x:=V.str x) (by rw[dq,q];rfl);rw[e3]at e1;cases e1;exact⟨Av P w x t,Z'⟩
def NP{ss:QQQ}:(s8 (ss.map λx=>(Sum.inr x:qJ))).length=(s8 ss).length:=by
 have go:∀(l acc:QQQ),(l.map λx=>(Sum.inr x:qJ)).foldl (λacc k=>if k∈acc then acc else acc++[k]) (acc.map Sum.inr)=(l.foldl (λacc k=>if k∈acc then acc else acc++[k]) acc).map Sum.inr:=by
  intro l;induction l with
  | nil=>intro acc;rfl
  | cons k r ih=>
   intro acc;rw[dW,fQ,fQ];have hm:(Sum.inr k:qJ)∈acc.map Sum.inr↔k∈acc:=by
    rw[dw];constructor
    .rintro ⟨y,h1,h2⟩;cases h2;exact h1
    .exact λh=>⟨k,h,Z'⟩
   by_cases h:k∈acc
   .rw[cX h,cX (hm.mpr h)];exact ih acc
   .rw[cW h,cW λz=>h (hm.mp z)];have:=ih (acc++[k]);rw[dF]at this;exact this
 have:=go ss [];unfold s8;rw[iM]at this;rw[this,cR]
def J7(hc:X.calm=Db)(he:PE X e te)(hg1:Gl X "len")(W7:X.mg "len"=Fa)(hg2:Gl X "set")(Xk:X.mg "set"=Fa)(b1:zn "len"=ga (.builtin "len"))(b2:zn "set"=ga (.type "set")) (hs:Tk [e] X.env=[(pc,No e X.env)]:=by rfl):PE X (.Call (.Name "len" p) [.Call (.Name "set" p2) [e] [] YT] [] pos) (PB X.K te):=by
 intro W5 s Y H Q I h;refine gf (wK I hg1 W7 b1 ?_);refine iL ?_ Z' Z';show Ch _ _ (spliced ((pc,No (.Call (.Name "set" p2) [e] [] YT) X.env)::At pos (Tk [] X.env))) _ _ s;refine gW ?_;refine gf (wK I hg2 Xk b2 ?_);refine fj ?_ hs Z';rw[hs];show Ch _ _ (spliced ((pc,No e X.env)::At YT (Tk [] X.env))) _ _ s;refine gW (rY (he W5 s Y H _ I h) λu s1 ⟨x,H1,I1,r1,a,ss,ex,hq,hb,q⟩=>iC ?_);subst ex;obtain rfl:u=Value.ref a:=r1;have X4:(ss.map λx=>(Sum.inr x:qJ)).length+1<XXc:=by rw[cR];exact hb
 have Xb:∀(h':Go) (tk:Nat),h'.SetOf (rf X.prog X.w) s1.heap.objs.size (λx=>decide (x∈s8 (ss.map λx=>(Sum.inr x:qJ)))) (s8 (ss.map λx=>(Sum.inr x:qJ))).length->(∀b o,s1.heap.get? b=ga o->h'.get? b=ga o)->
   Ch (pi X.prog X.w) X.A (spliced (At pos (Tk [] X.env))) (λvs s₁=>Ch (pi X.prog X.w) X.A (call (.builtin "len") (.ref s1.heap.objs.size::vs)) (EP X W5 Y Q) X.xe s₁) X.xe {s1 with heap:=h',toks:=tk}:=λh' tk hS keep=>by
  refine iC ?_;obtain⟨o,es,ep,t,ho,hex,hd,_,_,hz,hf,hn⟩:=hS;have Xl:(es.size:Int)<2 ^ 63:=by have:XXc=4096:=rfl;lia
  refine call_len_set ho hex hd hf Xl ?_;refine⟨.int es.size,H1,I1.kept keep,⟨_,Z'⟩,?_⟩;rw[hn,NP];exact q
 rcases hq with hq|hq
 .obtain⟨its,r,pl,hz⟩:=I1.list hq;obtain⟨k1,k2⟩:=Gd (P:=X.prog) (w:=X.w) r;exact L2.zG (knd:=rf X.prog X.w) (all:=ss.map λx=>(Sum.inr x:qJ)) (I1.ok.hd hc) (.inl pl.isList) (by rw[dh,k1,cR]) (λi v k e1 e2=>k2 i v k (by simpa using e1) e2) X4 Xb
 .obtain⟨its,r,pl,hz⟩:=I1.tuple hq;obtain⟨k1,k2⟩:=Gd (P:=X.prog) (w:=X.w) r;exact L2.zG (knd:=rf X.prog X.w) (all:=ss.map λx=>(Sum.inr x:qJ)) (I1.ok.hd hc) (.inr pl) (by rw[dh,k1,cR]) (λi v k e1 e2=>k2 i v k (by simpa using e1) e2) X4 Xb
end
variable {W5:T0 (lf × Obj)}{Y:St}{H:Hp}{s:Sd}
theorem Du(I:Inv X W5 Y H s):∀(ts:QXQ) (kvs:T0 (qJ×V)),ts.length=kvs.length->(∀(j:Nat) (t:lf) (p:qJ×V),ts[j]?=ga t->kvs[j]?=ga p->vk X.K H t [kV p.1,p.2])->
  ∃(us:T0 Vl) (all:T0 (qJ×Vl)),us.length=kvs.length/\KV kvs all/\∀(j:Nat) (t:lf) (p:qJ×Vl),ts[j]?=ga t->all[j]?=ga p->∃u,us[j]?=ga u/\s.heap.IsTuple t #[u,p.2]/\(rf X.prog X.w).is p.1 u=Db
 | [],[],_,_=>⟨[],[],Z',.nil,λj t p e=>by simp at e⟩
 | [],_::_,h,_=>by simp at h
 | _::_,[],h,_=>by simp at h
 | t::ts,(k,v)::kvs,h,hq=>by
  obtain⟨us,all,h1,h2,h3⟩:=Du I ts kvs (by simpa using h) (λj t p e1 e2=>hq (j+1) t p (by simpa using e1) (by simpa using e2));obtain⟨its,r,pl,_⟩:=I.tuple (hq 0 t (k,v) (by simp) (by simp));cases r with
  | cons r1 r2=>
   cases r2 with
   | cons r3 r4=>
    cases r4;rename_i u w;refine⟨u::us,(k,w)::all,by simpa using h1,.cons ⟨Z',r3⟩ h2,λj t' p e1 e2=>?_⟩;cases j with
    | zero=>
     have e1':t=t':=by simpa using e1
     have Ze:(k,w)=p:=by simpa using e2
     subst e1' Ze;exact⟨u,by simp,pl,Dp r1⟩
    | succ j=>simpa using h3 j t' p (by simpa using e1) (by simpa using e2)
theorem LK:∀{kvs:T0 (qJ×V)} {all:T0 (qJ×Vl)},KV kvs all->all.map (·.1)=kvs.map (·.1)
 | _,_,.nil=>rfl
 | _,_,.cons r rs=>by rw[dW,dW,LK rs,r.1]
def HY(hc:X.calm=Db):xp X (.type "dict") (λxs H Q=>∃l,∃ts:QXQ,∃kvs:T0 (qJ×V),xs=[V.ref l]/\xk X.K H l (ts.map V.ref)/\ts.length=kvs.length/\
  (∀(j:Nat) (t:lf) (p:qJ×V),ts[j]?=ga t->kvs[j]?=ga p->vk X.K H t [kV p.1,p.2])/\(kvs.map (·.1)).Nodup/\∀d,H d=Fa->Q (.ref d) (upd H d (.dK kvs))):=by
 intro W5 s Y H xs us Q I r h;obtain⟨l,ts,kvs,rfl,hl,Xa,hq,hnd,q⟩:=h;obtain⟨u,rfl,ru⟩:=vV r;cases ru;obtain⟨its,rv,⟨⟨c1,d1,t1,sl1⟩,n,g1,e1,e2,e3⟩,hz⟩:=I.list hl;simp only at e1 e2 e3;subst e1 e2 e3;obtain⟨ks,all,h1,h2,h3⟩:=Du I ts kvs Xa hq;have la:all.length=kvs.length:=(jc h2).symm;have li:its.length=kvs.length:=by rw[<-rv.length,cR,Xa]
 have zl:all.length<=Uf:=by rw[la,<-Xa];simpa using hz
 have at_:∀(j:Nat) (p:qJ×Vl),all[j]?=ga p->∃t,ts[j]?=ga t:=λj p e=>by have:=(cV.mp e).1;exact⟨ts[j],cT (by lia)⟩
 refine AO (knd:=rf X.prog X.w) (all:=all) (λj=>(ks[j]?).getD .none) (λj=>(ts[j]?).getD 0) (I.ok.hd hc) g1 (λj v e=>?_) (by rw[dh,li,la]) (λj p e=>?_) (λj p e=>?_) zl λh' tk hD keep=>?_
 .have e':its[j]?=ga v:=by simpa using e
  have hj:=(cV.mp e').1;have hj2:j<ts.length:=by lia
  obtain⟨w,e4,e5⟩:=rv.get (i:=j) (x:=V.ref ts[j]) (by rw[dq,cT hj2];rfl);rw[e']at e4;cases e4;show v=Value.ref ((ts[j]?).getD 0);rw[cT hj2];exact e5
 .obtain⟨t,et⟩:=at_ j p e;obtain⟨u,e4,e5,_⟩:=h3 j t p et e;show s.heap.IsTuple ((ts[j]?).getD 0) #[(ks[j]?).getD .none,p.2];rw[et,e4];exact e5
 .obtain⟨t,et⟩:=at_ j p e;obtain⟨u,e4,_,e6⟩:=h3 j t p et e;show(rf X.prog X.w).is p.1 ((ks[j]?).getD .none)=Db;rw[e4];exact e6
 .rw[merged_nil_of_nodup all (by rw[LK h2];exact hnd)]at hD;have fr:=I.mD.fresh (cZ s.heap.objs.size);exact⟨.ref s.heap.objs.size,_,I.laid (t':=tk) (o:=.dK kvs) keep (cZ _) (Bu (by rw[<-la];exact zl) (fR.mpr (dQ (dO I.big))) h2 hD),Z',q _ fr⟩
def Wu:R2:=λx y H Q=>∃a v,x=.ref a/\AM H a y (ga v)/\Q v H
def O6(hu:X.A.units+1<IN):Tq X Wu:=by
 intro value Xh W5 s Y H x y o i Q I rx ry h hs;obtain⟨a,v,rfl,g,q⟩:=h;obtain rfl:o=Value.ref a:=rx;have hT:=Gr I g;have h2:Ch (pi X.prog X.w) X.A (W' (.ref a) i) (EP X W5 Y Q) X.xe s:=JG hu I g ry λw' s3 I3 YN=>⟨v,H,I3,YN,q⟩;unfold subscriptTail;refine cS ?_;rw[jY hT.not_modules];refine cS (jN hT jo.lookup ?_);have Xb:Ch (pi X.prog X.w) X.A (subscripted Xh pc (.ref a) i) (λr s₃=>Ch (pi X.prog X.w) X.A (letTemporaryGo value (.ref a) r>>=λ_=>pure r) (EP X W5 Y Q) X.xe s₃) X.xe s:=by rw[hs];exact wpAny_operating (d6 h2 (λr s₃ h₃=>cS (kc (df h₃))) λ_ _ x=>x)
 first
  | exact df (cS Xb)
  | exact cS (df (cS Xb))
  | exact cS Xb
def RK(hu:X.A.units+1<IN):xq X (wp .In) (λx y H Q=>∃a o,y=.ref a/\AM H a x o/\Q (.bl o.isSome) H):=by intro W5 s Y H x y v u Q I rx ry h;obtain⟨a,o,rfl,g,q⟩:=h;obtain rfl:u=Value.ref a:=ry;exact Wd hu I g rx λs3 I3=>⟨.bl o.isSome,H,I3,Z',q⟩
variable {prog:Pg}{w:Wo}{A:Ar}{E:QQX}{a:lf}{U:Type}{k:Str}{tk:Tok}
section
variable {R:U→Vl→Prop}{D:T0 (Str × U)}
def yw(T:KTD.TabOf R s.heap a D):s.TypeIs (.ref a) "dict":=let⟨_,o,_,_,ho,hc,_⟩:=T;⟨o,ho,hc.1⟩
def IM{Q:Option Vl->Sd->Prop}(T:KTD.TabOf R s.heap a D)(h1:∀d v,KTD.datumAt k D=ga d->R d v->Q (ga v) {s with toks:=s.toks+1})(h2:KTD.datumAt k D=Fa->Q Fa {s with toks:=s.toks+1}):
  Ch (pi prog w) A (dictGet a (.str k tk)) Q E s:=by
 obtain⟨_,o,es,ep,ho,hc,hd,hr⟩:=T;have hq:Q (findBy (λk v=>v.isStr k) es k) {s with toks:=s.toks+1}:=by
  have hf:findBy (λk v=>v.isStr k) es k=(es.toList.find? λe=>e.key.isStr k).map (·.val):=by obtain⟨l⟩:=es;simp[findBy]
  rw[hf];cases hat:KTD.datumAt k D with
  | none=>rw[hr.find_none hat];exact h2 hat
  | some d=>obtain⟨v,hv,hfl⟩:=hr.find_some hat;rw[hv];exact h1 d v hat hfl
 have X9:(es.all λe=>isExactStrKey e.key)=Db:=by
  obtain⟨l⟩:=es
  simpa using hr.exact
 unfold dictGet
 try with_reducible refine eW ?_
 refine cS (lj (cS (KTD.kt_dictFind_strs (s:={s with toks:=s.toks+1}) ho hd X9 ?_)));rw[findBy_of_findIdx?]at hq;cases hi:es.findIdx? λe=>e.key.isStr k with
 | none=>rw[hi]at hq;exact df hq
 | some i=>rw[hi]at hq;exact cS (wpAny_dictEntries (s:={s with toks:=s.toks+1}) ho hd (df hq))
def RI{Q:QQX}(T:KTD.TabOf R s.heap a D)(h:Q (.bool (KTD.datumAt k D).isSome) {s with toks:=s.toks+1}):Ch (pi prog w) A (wp .In (.str k tk) (.ref a)) Q E s:=by
 have hT:=yw T;show Ch _ _ (do return .bool (<-contains (.ref a) (.str k tk))) Q E s;refine cS ?_;unfold contains
 try with_reducible refine eW ?_
 refine cS (jN hT ja.lookup ?_);show Ch _ _ (if (ga (Value.builtin "dict.__contains__")==ga Value.none)=Db then _ else _) _ E s;rw[cW (by rw[beq_builtin_none];exact dv)];refine cS (wpAny_callSpecialUnlessNone?_slot (name:=Str.ofString "__contains__") hT ja (gb ja hT entry_dict_contains ?_ (args_dict_contains _ _)));show Ch _ _ (dictGet a (.str k tk)>>=_) _ _ s;refine cS (IM T (λd v ha _=>?_) λhn=>?_)
 .rw[ha]at h;show Ch _ _ (ret (.bool Db)) _ _ _;exact df ⟨_,Z',eX (df h)⟩
 .rw[hn]at h;show Ch _ _ (Builtin.Dict.pendingKey? a (.str k tk)>>=_) _ _ _;exact cS (wpAny_pendingKey_other T.1 (df ⟨_,Z',eX (df h)⟩))
def Ml{Q:QQX}{d:U}(T:KTD.TabOf R s.heap a D)(hd:KTD.datumAt k D=ga d)(h:∀v,R d v->Q v {s with toks:=s.toks+1}):Ch (pi prog w) A (W' (.ref a) (.str k tk)) Q E s:=by
 have hT:=yw T;unfold W'
 try with_reducible refine eW ?_
 refine cS (ji hT (by decide) ?_);refine cS (fC (name:=Str.ofString "__getitem__") hT kW (gb kW hT entry_dict_getitem ?_ (args_dict_getitem _ _)));show Ch _ _ (dictGet a (.str k tk)>>=_) _ _ s;refine cS (IM T (λd' v ha hv=>df ⟨v,Z',df (h v ?_)⟩) λhn=>?_)
 .rw[hd]at ha;cases ha;exact hv
 .rw[hd]at hn;cases hn
end
def K4(K:qk)(mg:QQZ)(x:Str)(F:T0 (Str×QQQ)):Prop:=∃a o es ep,mg x=ga (.ref a)/\(a==TD)=pc/\K.lookup a=ga o/\o.ExactDict/\o.data=.dict es ep/\
 KTD.Rows (λ(ss:QQQ) v=>∃t,v=Value.ref t/\vk K (λ_=>Fa) t (ss.map V.str)) es.toList F
variable {x:Str}{F:T0 (Str × QQQ)}
def IZ{K:qk}(h:vk K (λ_=>Fa) t xs):vk K H t xs:=by
 rcases h with(h|⟨o,h⟩)|h
 .cases h
 .cases h
 .exact .inr h
def GF{K:qk}(T:K4 K mg x F):∃a,mg x=ga (.ref a)/\∀h:Go,K.In h->KTD.TabOf (λ(ss:QQQ) v=>∃t,v=Value.ref t/\vk K (λ_=>Fa) t (ss.map V.str)) h a F:=by obtain⟨a,o,es,ep,h1,h2,h3,h4,h5,h6⟩:=T;exact⟨a,h1,λh hk=>⟨h2,o,es,ep,hk a o h3,h4,h5,h6⟩⟩
noncomputable def Wf(x:Str):It:=⟨λi _=>i<x.cps.size,λi H v H'=>H'=H/\∃c,x.cps[i]?=ga c/\v=.str ⟨#[c]⟩,λi _=>i=x.cps.size⟩
def GX{K:qk}{ty:String}{x:Str}{t:Tok}(it:lf)(W:∀A':Ar,A'.handled=Fa->Walks P w A' it [it] [it] x.cps.size (SignAt x) (λi h=>h.IsStrIter it ty x t i)) (hself:∀(A:Ar) (i:Nat) (s:Sd) (Q:QQX) (E:QQX),s.heap.IsStrIter it ty x t i->Q (.ref it) s->Ch (pi P w) A (pyIter (.ref it)) Q E s) (hn:["enumerate","zip","dict_itemiterator","dict_reverseitemiterator","odict_iterator","itertools.zip_longest","itertools.pairwise"].contains ty=pc):Gm P w K tg (Wf x) [it] it (λi h=>h.IsStrIter it ty x t i) where
 mem:=by simp
 obj:=λi h st b hb=>by
  obtain rfl:b=it:=by simpa using hb
  obtain⟨o,e,c,d⟩:=st;exact⟨o,e,λv z=>by rw[d]at z;cases z⟩
 keep:=λi h h' st k=>by obtain⟨o,e,r⟩:=st;exact⟨o,k it (by simp) o e,r⟩
 item:=by intro X hP hw hK hc i W5 s Y H E I hf st hg;subst hP hw hK;obtain⟨f0,f1,f2,f3,f4,f5⟩:=hf it (by simp);refine(W X.A (I.ok.hd hc)).item i s _ _ hg st λv h' tk hv Yt kp=>?_;obtain⟨c,u,e1,e2⟩:=hv;have I1:Inv X W5 Y H {s with heap:=h',toks:=tk}:=I.turned (t':=tk) (λb o hb e=>kp b o (by simpa using hb) e) f0 f1 f3 f4 f5;obtain⟨o,e,cl,d⟩:=id Yt;exact⟨v,Z',IR (s:={s with heap:=h',toks:=tk}) e cl d hn ⟨.str ⟨#[c]⟩,H,I1,⟨u,e2⟩,⟨Z',c,e1,Z'⟩,Yt,λb hb=>(hf b hb).1⟩⟩
 done:=by intro X hP hw hK hc i W5 s Y H E I hf st hg;subst hP hw hK;obtain⟨f0,f1,f2,f3,f4,f5⟩:=hf it (by simp);obtain rfl:i=x.cps.size:=hg;exact(W X.A (I.ok.hd hc)).done s _ _ st λh' tk kp=>⟨Z',I.turned (t':=tk) (λb o hb e=>kp b o (by simpa using hb) e) f0 f1 f3 f4 f5⟩
 self:=hself
variable {tg:Tl}
def P6(hc:X.calm=Db)(hl:PE X l tl):PI X tg l (λY H R=>tl Y H λx H1=>(∃a,x=.ref a/\(((∃xs,xk X.K H1 a xs)/\R (Vm X.K a) H1)\/((∃xs,vk X.K H1 a xs)/\R (VU X.K a) H1)))\/∃z,x=.str z/\R (Wf z) H1):=by
 intro W5 s Y H R I h;refine rY (hl W5 s Y H _ I h) λv s1 zz=>x5 zz λx H1 I1 r1 q1=>?_;rcases q1 with⟨a,e,q1⟩|⟨z,e,q⟩
 .subst e;cases r1;rcases q1 with⟨⟨xs,hq⟩,q⟩|⟨⟨xs,hq⟩,q⟩
  .obtain⟨its,rv,p,hz⟩:=I1.list hq;refine gZ p.isList ?_;refine⟨s1.heap.objs.size,[s1.heap.objs.size],_,_,H1,Z',I1.kept (t':=s1.toks) λb o e=>cY _ e,JZ a _,⟨_,dG _ Z',Z',Z'⟩,λb hb=>?_,q⟩;obtain rfl:b=s1.heap.objs.size:=by simpa using hb
   exact I1.nG (cZ _) (I1.mD.fresh (cZ _))
  .obtain⟨its,rv,p,hz⟩:=I1.tuple hq;refine iu (show s1.heap.IsTuple a its.toArray from p) ?_;refine⟨s1.heap.objs.size,[s1.heap.objs.size],_,_,H1,Z',I1.kept (t':=s1.toks) λb o e=>cY _ e,Hw a _,⟨_,dG _ Z',Z',Z'⟩,λb hb=>?_,q⟩;obtain rfl:b=s1.heap.objs.size:=by simpa using hb
   exact I1.nG (cZ _) (I1.mD.fresh (cZ _))
 .subst e;obtain⟨t,rfl⟩:=r1;have fp:∀b∈[s1.heap.objs.size],zC X W5 H1 b:=λb hb=>by
   obtain rfl:b=s1.heap.objs.size:=by simpa using hb
   exact I1.nG (cZ _) (I1.mD.fresh (cZ _))
  cases ha:z.cps.all (·<128)
  .refine wpAny_pyIter_wide ha ?_;exact⟨s1.heap.objs.size,[s1.heap.objs.size],_,_,H1,Z',I1.kept (t':=s1.toks) λb o e=>cY _ e,GX _ (λA' hA=>Walks.strWide hA _ z t) (λA i s Q E st h=>wpAny_pyIter_striter_wide st h) (by decide),⟨_,dG _ Z',Z',Z'⟩,fp,q⟩
  .refine wpAny_pyIter_ascii ha ?_;exact⟨s1.heap.objs.size,[s1.heap.objs.size],_,_,H1,Z',I1.kept (t':=s1.toks) λb o e=>cY _ e,GX _ (λA' hA=>Walks.strAscii hA _ z t) (λA i s Q E st h=>wpAny_pyIter_striter_ascii st h) (by decide),⟨_,dG _ Z',Z',Z'⟩,fp,q⟩
end L2
namespace L2
inductive CM{α0:Sort u}{α1:Sort v}(p:α0->α1->Prop):Prop
 | mk (a0:α0) (a1:α1) (h:p a0 a1):CM p
inductive DM{α0:Sort u}{α1:Sort v}{α2:Sort w}(p:α0->α1->α2->Prop):Prop
 | mk (a0:α0) (a1:α1) (a2:α2) (h:p a0 a1 a2):DM p
def x7{α:Sort u}{β:Sort v}{γ:Sort w}{p q r s:α->β->γ->Prop}{C:Prop}(h:DM λa b c=>p a b c/\q a b c/\r a b c/\s a b c)(f:∀a b c,p a b c->q a b c->r a b c->s a b c->C):C:=by obtain⟨a,b,c,h1,h2,h3,h4⟩:=h;exact f a b c h1 h2 h3 h4
def JR{α:Sort u}{β:Sort v}{γ:Sort w}{p q r s s1 s2 s3:α->β->γ->Prop}{C:Prop}(h:DM λa b c=>p a b c/\q a b c/\r a b c/\s a b c/\s1 a b c/\s2 a b c/\s3 a b c)(f:∀a b c,p a b c->q a b c->r a b c->s a b c->s1 a b c->s2 a b c->s3 a b c->C):C:=by obtain⟨a,b,c,h1,h2,h3,h4,h5,h6,h7⟩:=h;exact f a b c h1 h2 h3 h4 h5 h6 h7
inductive BK{α0:Sort u}{α1:Sort v}{α2:Sort w}{α3:Sort u1}(p:α0->α1->α2->α3->Prop):Prop
 | mk (a0:α0) (a1:α1) (a2:α2) (a3:α3) (h:p a0 a1 a2 a3):BK p
inductive EL{α0:Sort u}{α1:Sort v}{α2:Sort w}{α3:Sort u1}{α4:Sort u2}(p:α0->α1->α2->α3->α4->Prop):Prop
 | mk (a0:α0) (a1:α1) (a2:α2) (a3:α3) (a4:α4) (h:p a0 a1 a2 a3 a4):EL p
inductive JI{α0:Sort u}{α1:Sort v}{α2:Sort w}{α3:Sort u1}{α4:Sort u2}{α5:Sort u3}(p:α0->α1->α2->α3->α4->α5->Prop):Prop
 | mk (a0:α0) (a1:α1) (a2:α2) (a3:α3) (a4:α4) (a5:α5) (h:p a0 a1 a2 a3 a4 a5):JI p
inductive Tj{α0:Sort u}{α1:Sort v}{α2:Sort w}{α3:Sort u1}{α4:Sort u2}{α5:Sort u3}{α6:Sort u4}(p:α0->α1->α2->α3->α4->α5->α6->Prop):Prop
 | mk (a0:α0) (a1:α1) (a2:α2) (a3:α3) (a4:α4) (a5:α5) (a6:α6) (h:p a0 a1 a2 a3 a4 a5 a6):Tj p
inductive Ti{α0:Sort u}{α1:Sort v}{α2:Sort w}{α3:Sort u1}{α4:Sort u2}{α5:Sort u3}{α6:Sort u4}{α7:Sort u5}(p:α0->α1->α2->α3->α4->α5->α6->α7->Prop):Prop
 | mk (a0:α0) (a1:α1) (a2:α2) (a3:α3) (a4:α4) (a5:α5) (a6:α6) (a7:α7) (h:p a0 a1 a2 a3 a4 a5 a6 a7):Ti p
inductive TN{α0:Sort u}{α1:Sort v}{α2:Sort w}{α3:Sort u1}{α4:Sort u2}{α5:Sort u3}{α6:Sort u4}{α7:Sort u5}{α8:Sort u6}(p:α0->α1->α2->α3->α4->α5->α6->α7->α8->Prop):Prop
 | mk (a0:α0) (a1:α1) (a2:α2) (a3:α3) (a4:α4) (a5:α5) (a6:α6) (a7:α7) (a8:α8) (h:p a0 a1 a2 a3 a4 a5 a6 a7 a8):TN p
inductive LY{α0:Sort u}{α1:Sort v}{α2:Sort w}{α3:Sort u1}{α4:Sort u2}{α5:Sort u3}{α6:Sort u4}{α7:Sort u5}{α8:Sort u6}{α9:Sort u7}(p:α0->α1->α2->α3->α4->α5->α6->α7->α8->α9->Prop):Prop
 | mk (a0:α0) (a1:α1) (a2:α2) (a3:α3) (a4:α4) (a5:α5) (a6:α6) (a7:α7) (a8:α8) (a9:α9) (h:p a0 a1 a2 a3 a4 a5 a6 a7 a8 a9):LY p
end L2
namespace L2
open PySem
def T9(a C:lf)(h:Go):Prop:=CM λoe vs=>h.get? a=ga oe/\oe.cls=.ref C/\oe.data=.fields vs/\oe.dict=Fa
end L2
namespace L3
open L2
inductive D where
 | mx|bl (b:Bool)|int (i:Int)|str (x:Str)|tup (ds:List D)|ref (a:lf)|ty (n:String)
 | rl (ds:List D)
def Ql(K:qk)(H:Hp)(a:lf)(xs:T0 V):Prop:=(∃o,H a=ga (.frz o (.lst xs)))\/
 ∃(o:Obj) (its:Array Vl) (n:Nat),K.lookup a=ga o/\o.cls=.type "list"/\o.dict=Fa/\o.data=.seq its n/\its.size<=Uf/\qo xs its.toList
def Ql.sq{K:qk}(h:Ql K H a xs):xk K H a xs:=by
 rcases h with⟨o,h⟩|h
 .exact .inl (.inr ⟨o,h⟩)
 .exact .inr h
mutual
def rJ(K:qk)(H:Hp):D->V->Prop
 | .mx,v=>v=.mx
 | .bl b,v=>v=.bl b
 | .int i,v=>v=.int i
 | .str x,v=>v=.str x
 | .ref a,v=>v=.ref a
 | .ty n,v=>v=.ty n
 | .tup ds,v=>∃a xs,v=.ref a/\vk K H a xs/\pY K H ds xs
 | .rl ds,v=>∃a xs,v=.ref a/\Ql K H a xs/\pY K H ds xs
def pY(K:qk)(H:Hp):T0 D->T0 V->Prop
 | [],xs=>xs=[]
 | d::ds,xs=>∃x r,xs=x::r/\rJ K H d x/\pY K H ds r
end
structure qC(K:qk)(H H':Hp):Prop where
 t:∀a xs,vk K H a xs->vk K H' a xs
 f:∀a o xs,H a=ga (.frz o (.lst xs))->H' a=ga (.frz o (.lst xs))
def qC.refl{K:qk}:qC K H H:=⟨λ_ _ h=>h,λ_ _ _ h=>h⟩
def qC.trans{K:qk}(a:qC K H H1)(b:qC K H1 H2):qC K H H2:=⟨λc xs h=>b.t c xs (a.t c xs h),λc o xs h=>b.f c o xs (a.f c o xs h)⟩
def qC.upd{K:qk}(h:∀xs,¬Rd H p (.tup xs))(h':∀u xs,H p≠ga (.frz u (.lst xs))):qC K H (upd H p o):=⟨λa xs q=>by
 rcases q with q|q
 .have ne:a≠p:=λz=>h xs (z ▸ q);rcases q with q|⟨u,q⟩
  .exact .inl (.inl (by rw[pN ne];exact q))
  .exact .inl (.inr ⟨u,by rw[pN ne];exact q⟩)
 .exact .inr q,λa u xs q=>by
 have ne:a≠p:=λz=>h' u xs (z ▸ q);rw[pN ne];exact q⟩
def qC.new{K:qk}{H:Hp}{p:lf}(h:H p=Fa):qC K H (L2.upd H p o):=.upd (λxs q=>by
 rcases q with q|⟨u,q⟩<;>(rw[h]at q;cases q)) λu xs q=>by rw[h]at q;cases q
def Ql.mono{K:qk}(e:qC K H H')(h:Ql K H a xs):Ql K H' a xs:=by
 rcases h with⟨o,h⟩|h
 .exact .inl ⟨o,e.f a o xs h⟩
 .exact .inr h
mutual
theorem rJ.mono{K:qk}(e:qC K H H'):∀{d:D} {v:V},rJ K H d v->rJ K H' d v
 | .mx,_,h=>h
 | .bl _,_,h=>h
 | .int _,_,h=>h
 | .str _,_,h=>h
 | .ref _,_,h=>h
 | .ty _,_,h=>h
 | .tup ds,v,h=>by unfold rJ at h ⊢;obtain⟨a,xs,e1,e2,e3⟩:=h;exact⟨a,xs,e1,e.t _ _ e2,pY.mono e e3⟩
 | .rl ds,v,h=>by unfold rJ at h ⊢;obtain⟨a,xs,e1,e2,e3⟩:=h;exact⟨a,xs,e1,e2.mono e,pY.mono e e3⟩
theorem pY.mono{K:qk}(e:qC K H H'):∀{ds:T0 D} {xs:T0 V},pY K H ds xs->pY K H' ds xs
 | [],_,h=>h
 | d::ds,xs,h=>by unfold pY at h ⊢;obtain⟨x,r,e1,e2,e3⟩:=h;exact⟨x,r,e1,rJ.mono e e2,pY.mono e e3⟩
end
variable {K:qk}{H H':Hp}
def pY.nil:pY K H [] []:=by unfold pY;rfl
def pY.cons(a:rJ K H d x)(b:pY K H ds xs):pY K H (d::ds) (x::xs):=by unfold pY;exact⟨x,xs,Z',a,b⟩
def pY.inv{d:D}{ds:T0 D}(h:pY K H (d::ds) xs):∃x r,xs=x::r/\rJ K H d x/\pY K H ds r:=by unfold pY at h;exact h
def pY.nil_inv(h:pY K H [] xs):xs=[]:=by unfold pY at h;exact h
theorem pY.length:∀{ds:T0 D} {xs:T0 V},pY K H ds xs->ds.length=xs.length
 | [],_,h=>by rw[h.nil_inv];rfl
 | d::ds,_,h=>by obtain⟨x,r,rfl,_,e⟩:=h.inv;simp[pY.length e]
theorem pY.get:∀{ds:T0 D} {xs:T0 V} {i:Nat} {d:D},pY K H ds xs->ds[i]?=ga d->∃x,xs[i]?=ga x/\rJ K H d x
 | [],_,_,_,_,e=>by simp at e
 | d::ds,_,0,_,h,e=>by obtain⟨x,r,rfl,a,_⟩:=h.inv;simp at e;subst e;exact⟨x,by simp,a⟩
 | d::ds,_,i+1,_,h,e=>by obtain⟨x,r,rfl,_,b⟩:=h.inv;obtain⟨y,e1,e2⟩:=pY.get b (by simpa using e);exact⟨y,by simpa using e1,e2⟩
theorem pY.append:∀{ds es:T0 D} {xs ys:T0 V},pY K H ds xs->pY K H es ys->pY K H (ds++es) (xs++ys)
 | [],_,_,_,h,g=>by rw[h.nil_inv];exact g
 | d::ds,_,_,_,h,g=>by obtain⟨x,r,rfl,a,b⟩:=h.inv;exact .cons a (pY.append b g)
theorem pY.take:∀{ds:T0 D} {xs:T0 V} (n:Nat),pY K H ds xs->pY K H (ds.take n) (xs.take n)
 | _,_,0,_=>by simp only[List.take_zero];exact .nil
 | [],_,n+1,h=>by rw[h.nil_inv];exact .nil
 | d::ds,_,n+1,h=>by obtain⟨x,r,rfl,a,b⟩:=h.inv;exact .cons a (pY.take n b)
theorem pY.drop:∀{ds:T0 D} {xs:T0 V} (n:Nat),pY K H ds xs->pY K H (ds.drop n) (xs.drop n)
 | _,_,0,h=>h
 | [],_,n+1,h=>by rw[h.nil_inv];exact .nil
 | d::ds,_,n+1,h=>by obtain⟨x,r,rfl,a,b⟩:=h.inv;exact pY.drop n b
def pY.snoc(h:pY K H ds xs)(a:rJ K H d x):pY K H (ds++[d]) (xs++[x]):=h.append (.cons a .nil)
theorem pY.ints:∀{ns:T0 Int},pY K H (ns.map D.int) (ns.map V.int)
 | []=>.nil
 | n::r=>.cons (by unfold rJ;rfl) pY.ints
def rJ.tup(q:vk K H a xs)(h:pY K H ds xs):rJ K H (.tup ds) (.ref a):=by unfold rJ;exact⟨a,xs,Z',q,h⟩
def rJ.mB{ds:T0 D}(h:rJ K H (.tup ds) v):∃a xs,v=.ref a/\vk K H a xs/\pY K H ds xs:=by unfold rJ at h;exact h
def rJ.mL{ds:T0 D}(h:rJ K H (.rl ds) v):∃a xs,v=.ref a/\Ql K H a xs/\pY K H ds xs:=by unfold rJ at h;exact h
def rJ.int{i:Int}:rJ K H (.int i) (.int i):=by unfold rJ;rfl
def rJ.bl{i:Bool}:rJ K H (.bl i) (.bl i):=by unfold rJ;rfl
def rJ.str{i:Str}:rJ K H (.str i) (.str i):=by unfold rJ;rfl
def rJ.ref{i:lf}:rJ K H (.ref i) (.ref i):=by unfold rJ;rfl
def rJ.mx:rJ K H .mx .mx:=by unfold rJ;rfl
def rJ.int_inv{i:Int}(h:rJ K H (.int i) v):v=.int i:=by unfold rJ at h;exact h
def rJ.mq{i:Bool}(h:rJ K H (.bl i) v):v=.bl i:=by unfold rJ at h;exact h
def rJ.str_inv{i:Str}(h:rJ K H (.str i) v):v=.str i:=by unfold rJ at h;exact h
def rJ.mj{i:lf}(h:rJ K H (.ref i) v):v=.ref i:=by unfold rJ at h;exact h
def rJ.nK{i:String}(h:rJ K H (.ty i) v):v=.ty i:=by unfold rJ at h;exact h
def rJ.mw{v:V}(h:rJ K H .mx v):v=.mx:=by unfold rJ at h;exact h
inductive uQ where
 | lst (ds:List D)
 | ins (C:lf) (fs:List (Str×D))
 | dk (kvs:List (qJ×D))
 | exc (C:lf)
abbrev Mp:=lf->Option uQ
noncomputable def o9(M:Mp)(a:lf)(c:uQ):Mp:=λb=>if b=a then ga c else M b
def pJ:o9 M a c a=ga c:=by unfold o9;rw[cX Z']
def tM{a b:lf}(h:b≠a):o9 M a c b=M b:=by unfold o9;rw[cW h]
def rB:o9 (o9 M a c) a d=o9 M a d:=by funext b;unfold o9;split<;>rfl
def Io{M:Mp}{a b:lf}{c:uQ}(h:M a=ga c)(h':M b=Fa):a≠b:=by intro e;subst e;rw[h]at h';cases h'
def CB(K:qk)(H:Hp)(fs:T0 (Str×D))(vs:T0 (Str×V)):Prop:=vs.map (·.1)=fs.map (·.1)/\pY K H (fs.map (·.2)) (vs.map (·.2))
def xP(K:qk)(H:Hp)(a:lf):uQ->Prop
 | .lst ds=>∃xs,H a=ga (.lst xs)/\pY K H ds xs
 | .ins C fs=>∃dx vs,H a=ga (.ins C dx vs)/\Cls K C/\(∀f,f∈fs.map (·.1)->tP K C f)/\CB K H fs vs
 | .dk kvs=>∃vs,H a=ga (.dK vs)/\vs.map (·.1)=kvs.map (·.1)/\pY K H (kvs.map (·.2)) (vs.map (·.2))
 | .exc C=>H a=ga (.ext (T9 a C))
def HM(K:qk)(H:Hp)(M:Mp):Prop:=∀a c,M a=ga c->xP K H a c
variable {M:Mp}
def CB.mono(e:qC K H H')(h:CB K H fs vs):CB K H' fs vs:=⟨h.1,h.2.mono e⟩
def xP.keep(e:qC K H H')(k:H' a=H a)(h:xP K H a c):xP K H' a c:=by
 cases c with
 | lst ds=>obtain⟨xs,e1,e2⟩:=h;exact⟨xs,by rw[k];exact e1,e2.mono e⟩
 | ins C fs=>obtain⟨dx,vs,e1,c,n,e2⟩:=h;exact⟨dx,vs,by rw[k];exact e1,c,n,e2.mono e⟩
 | dk kvs=>obtain⟨vs,e1,e2,e3⟩:=h;exact⟨vs,by rw[k];exact e1,e2,e3.mono e⟩
 | exc C=>exact k.trans h
def xP.there(h:xP K H a c):∃o,H a=ga o/\(∀xs,¬Rd H a (.tup xs))/\∀u xs,H a≠ga (.frz u (.lst xs)):=by
 have go:∀o,H a=ga o->(∀xs,o≠.tup xs)->(∀u v,o≠.frz u v)->∃o,H a=ga o/\(∀xs,¬Rd H a (.tup xs))/\∀u xs,H a≠ga (.frz u (.lst xs)):=λo e n1 n2=>⟨o,e,λxs q=>by
  rcases q with q|⟨u,q⟩
  .rw[e]at q;exact n1 xs (de q)
  .rw[e]at q;exact n2 u _ (de q),λu xs q=>by rw[e]at q;exact n2 u _ (de q)⟩
 cases c with
 | lst ds=>obtain⟨xs,e1,e2⟩:=h;exact go _ e1 (λ_ z=>by cases z) λ_ _ z=>by cases z
 | ins C fs=>obtain⟨dx,vs,e1,e2⟩:=h;exact go _ e1 (λ_ z=>by cases z) λ_ _ z=>by cases z
 | dk kvs=>obtain⟨vs,e1,e2,e3⟩:=h;exact go _ e1 (λ_ z=>by cases z) λ_ _ z=>by cases z
 | exc C=>exact go _ h (λ_ z=>by cases z) λ_ _ z=>by cases z
def HM.fresh(h:HM K H M){p:lf}(n:H p=Fa):M p=Fa:=by
 cases e:M p with
 | none=>rfl
 | some c=>obtain⟨o,q,_⟩:=(h p c e).there;rw[n]at q;cases q
def HM.keep(h:HM K H M)(e:qC K H H')(k:∀a c,M a=ga c->H' a=H a):HM K H' M:=λa c q=>(h a c q).keep e (k a c q)
def HM.add(h:HM K H M){p:lf}{o:HO}(n:H p=Fa):HM K (upd H p o) M:=h.keep (.new n) λa c q=>by obtain⟨u,e,_⟩:=(h a c q).there;rw[pN (qE e n)]
def HM.new(h:HM K H M){p:lf}{o:HO}{c:uQ}(n:H p=Fa)(ok:xP K (upd H p o) p c):HM K (upd H p o) (o9 M p c):=λa d q=>by
 by_cases e:a=p
 .subst e;rw[pJ]at q;cases q;exact ok
 .rw[tM e]at q;exact h.add n a d q
def HM.put(h:HM K H M){p:lf}{o:HO}{c c0:uQ}(e0:M p=ga c0)(ok:qC K H (upd H p o)->xP K (upd H p o) p c):HM K (upd H p o) (o9 M p c)/\qC K H (upd H p o):=by
 obtain⟨u,eu,nt,nf⟩:=(h p c0 e0).there;have x:qC K H (upd H p o):=.upd nt nf;refine⟨λa d q=>?_,x⟩;by_cases e:a=p
 .subst e;rw[pJ]at q;cases q;exact ok x
 .rw[tM e]at q;exact(h a d q).keep x (pN e)
abbrev St:=L2.St
abbrev uV:=T0 (Option D)
abbrev DK:=D->Mp->Prop
abbrev T3:=uV->Mp->DK->Prop
abbrev Am:=uV->Mp->(Bool->Mp->Prop)->Prop
abbrev wI:=uV->Mp->(T0 D->Mp->Prop)->Prop
structure GO where
 nx:uV->Mp->Prop
 rt:DK
 bk:uV->Mp->Prop:=λ_ _=>False
 ct:uV->Mp->Prop:=λ_ _=>False
abbrev xj:=GO->uV->Mp->Prop
def zP(K:qk)(H:Hp)(Y:St)(U:uV):Prop:=∀(i:Nat) (d:D),U[i]?=ga (ga d)->∃v,Y[i]?=ga (ga v)/\rJ K H d v
def zP.mono{K:qk}(e:qC K H H')(h:zP K H Y U):zP K H' Y U:=λi d q=>by obtain⟨v,e1,e2⟩:=h i d q;exact⟨v,e1,e2.mono e⟩
def zP.set{K:qk}{i:Nat}(h:zP K H Y U)(hv:rJ K H d v)(hi:i<Y.length):zP K H (Y.set i (ga v)) (U.set i (ga d)):=λj e q=>by
 by_cases hj:j=i
 .subst hj;rw[fu hi];by_cases hl:j<U.length
  .rw[fu hl]at q;cases q;exact⟨v,Z',hv⟩
  .rw[fL (by simpa using hl)]at q;cases q
 .rw[ft (dQ hj)]at q ⊢;exact h j e q
def lo(K:qk)(t:T3):TE:=λY H Q'=>DM λU M Q=>zP K H Y U/\HM K H M/\t U M Q/\∀v H' d M',rJ K H' d v->HM K H' M'->qC K H H'->Q d M'->Q' v H'
def Th(K:qk)(t:Am):TT:=λY H Q'=>DM λU M Q=>zP K H Y U/\HM K H M/\t U M Q/\∀b H' M',HM K H' M'->qC K H H'->Q b M'->Q' b H'
def WB(K:qk)(t:wI):TA:=λY H Q'=>DM λU M Q=>zP K H Y U/\HM K H M/\t U M Q/\∀vs H' ds M',pY K H' ds vs->HM K H' M'->qC K H H'->Q ds M'->Q' vs H'
def Vk(K:qk)(t:xj):TS:=λD' Y H=>DM λU M D=>zP K H Y U/\HM K H M/\t D U M/\(∀σ' H' δ' M',zP K H' σ' δ'->HM K H' M'->qC K H H'->σ'.length=Y.length->D.nx δ' M'->D'.nx σ' H')/\
 (∀v H' d M',rJ K H' d v->HM K H' M'->qC K H H'->D.rt d M'->D'.rt v H')/\(∀σ' H' δ' M',zP K H' σ' δ'->HM K H' M'->qC K H H'->σ'.length=Y.length->D.bk δ' M'->D'.bk σ' H')/\
 (∀σ' H' δ' M',zP K H' σ' δ'->HM K H' M'->qC K H H'->σ'.length=Y.length->D.ct δ' M'->D'.ct σ' H')
def E3(X:Cx)(e:Tl)(t:T3):Prop:=PE X e (lo X.K t)
def B3(X:Cx)(e:Tl)(t:Am):Prop:=PT X e (Th X.K t)
def A3(X:Cx)(es:T0 Tl)(t:wI):Prop:=PA X es (WB X.K t)
def S3(X:Cx)(st:xz)(t:xj):Prop:=PS X st (Vk X.K t)
def G'(X:Cx)(st:T0 xz)(t:xj):Prop:=Bx X st (Vk X.K t)
def PE.mono{t t':TE}(h:PE X e t)(m:∀Y H Q,t' Y H Q->t Y H Q):PE X e t':=λW5 s Y H Q I q=>h W5 s Y H Q I (m Y H Q q)
def PT.mono{t t':TT}(h:PT X e t)(m:∀Y H Q,t' Y H Q->t Y H Q):PT X e t':=λW5 s Y H Q I q=>h W5 s Y H Q I (m Y H Q q)
def PA.mono{t t':TA}(h:PA X e t)(m:∀Y H Q,t' Y H Q->t Y H Q):PA X e t':=λpos W5 s Y H Q I q=>h pos W5 s Y H Q I (m Y H Q q)
def PS.mono{t t':TS}(h:PS X e t)(m:∀D Y H,t' D Y H->t D Y H):PS X e t':=λW5 s Y H D I q=>h W5 s Y H D I (m D Y H q)
def Bx.mono{t t':TS}(h:Bx X e t)(m:∀D Y H,t' D Y H->t D Y H):Bx X e t':=λW5 s Y H D I q=>h W5 s Y H D I (m D Y H q)
def PS.nA{t t':TS}(h:PS X e t)(m:∀D Y H,Y.length=X.N.length->t' D Y H->t D Y H):PS X e t':=λW5 s Y H D I q=>h W5 s Y H D I (m D Y H I.len q)
def u9{K:qk}{Q':VK}{Q:DK}(x:qC K H H1)(f:∀v H' d M',rJ K H' d v->HM K H' M'->qC K H H'->Q d M'->Q' v H'):∀v H' d M',rJ K H' d v->HM K H' M'->qC K H1 H'->Q d M'->Q' v H':=
 λv H' d M' a b c e=>f v H' d M' a b (x.trans c) e
variable {X:Cx}{pos:Pos}
def v3(i:Nat):T3:=λU M Q=>(U.getD i Fa).elim False λd=>Q d M
def JN{U:uV}{i:Nat}{P:D->Prop}(h:(U.getD i Fa).elim False P):∃d,U[i]?=ga (ga d)/\P d:=by
 cases e:U[i]? with
 | none=>rw[gC,e]at h;exact h.elim
 | some o=>
  rw[gC,e]at h;cases o with
  | none=>exact h.elim
  | some d=>exact⟨d,Z',h⟩
def RV(i:Nat){x:Str}(h:PE X (.Name x pos) (Hn i)):E3 X (.Name x pos) (v3 i):=PE.mono h λY H Q' zz=>x7 zz λU M Q hs hm ht k=>by obtain⟨d,e,q⟩:=JN ht;obtain⟨v,e1,e2⟩:=hs i d e;exact⟨v,e1,k v H d M e2 hm .refl q⟩
def c3(d:D):T3:=λ_ M Q=>Q d M
def oV{i j}:E3 X (.Constant (.int i) j pos) (c3 (.int i)):=PE.mono RN λY H Q' zz=>x7 zz λU M Q hs hm ht k=>k _ H _ M .int hm .refl ht
def wb{i j}:E3 X (.Constant (.bool i) j pos) (c3 (.bl i)):=PE.mono UV λY H Q' zz=>x7 zz λU M Q hs hm ht k=>k _ H _ M .bl hm .refl ht
def oW{i j}:E3 X (.Constant (.str i) j pos) (c3 (.str i)):=PE.mono R8 λY H Q' zz=>x7 zz λU M Q hs hm ht k=>k _ H _ M .str hm .refl ht
def rL{j}:E3 X (.Constant .none j pos) (c3 .mx):=PE.mono RC λY H Q' zz=>x7 zz λU M Q hs hm ht k=>k _ H _ M .mx hm .refl ht
noncomputable def nU(M:Mp)(a:lf):Option (T0 D):=match M a with
 | some (.lst ds)=>ga ds
 | _=>Fa
noncomputable def yD(x:Str)(n:Int):Str:=⟨(List.replicate n.toNat x.cps).foldl (·++·) #[]⟩
def Vg(op:XXf)(x y:D)(M:Mp)(Q:DK):Prop:=match op,x,y with
 | .Add,.int i,.int j=>Q (.int (i+j)) M
 | .Add,.str i,.str j=>i.length+j.length<=Uf/\Q (.str (i++j)) M
 | .Add,.tup i,.tup j=>i≠[]/\i.length+j.length<=Uf/\Q (.tup (i++j)) M
 | .Add,.ref a,.ref b=>(nU M a).elim False λi=>(nU M b).elim False λj=>i.length+j.length<=Uf/\∀p,M p=Fa->Q (.ref p) (o9 M p (.lst (i++j)))
 | .Add,.rl i,.ref b=>(nU M b).elim False λj=>i.length+j.length<=Uf/\∀p,M p=Fa->Q (.ref p) (o9 M p (.lst (i++j)))
 | .Sub,.int i,.int j=>Q (.int (i - j)) M
 | .Mult,.int i,.int j=>CT i j/\Q (.int (i*j)) M
 | .Mult,.str i,.int j=>(j<4096/\-4096<j/\i.length<4096)/\Q (.str (yD i j)) M
 | .FloorDiv,.int i,.int j=>UF i j/\Q (.int (i / j)) M
 | .Mod,.int i,.int j=>0<j/\Q (.int (i % j)) M
 | _,_,_=>False
def o3(op:XXf)(ta tb:T3):T3:=λU M Q=>ta U M λx M1=>tb U M1 λy M2=>Vg op x y M2 Q
def Up(K:qk)(H:Hp)(Q':VK)(Q:DK):Prop:=∀v H' d M',rJ K H' d v->HM K H' M'->qC K H H'->Q d M'->Q' v H'
variable {ta tb:T3}
section
def pQ{K:qk}{ds:T0 D}(hm:HM K H M)(h:nU M a=ga ds):∃xs,xk K H a xs/\pY K H ds xs/\Rd H a (.lst xs):=by
 unfold nU at h;cases e:M a with
 | none=>rw[e]at h;cases h
 | some c=>
  rw[e]at h;have ok:=hm a c e;cases c with
  | lst es=>cases h;obtain⟨xs,e1,e2⟩:=ok;exact⟨xs,.inl (.inl e1),e2,.inl e1⟩
  | ins _ _=>cases h
  | dk _=>cases h
  | exc _=>cases h
def qI{α:Type}{o:Option α}{P:α->Prop}(h:o.elim False P):∃a,o=ga a/\P a:=by
 cases o with
 | none=>exact h.elim
 | some a=>exact⟨a,Z',h⟩
def Jh:xq X (wP .Add) (λx y H Q=>∃l b xs zs,x=.ref l/\y=.ref b/\xk X.K H l xs/\xk X.K H b zs/\xs.length+zs.length<=Uf/\∀p,H p=Fa->Q (.ref p) (upd H p (.lst (xs++zs)))):=by
 intro W5 s Y H x y v u Q I rx ry h;obtain⟨l,b,xs,zs,rfl,rfl,hH,hB,hz,q⟩:=h;cases rx;cases ry;obtain⟨its,r,⟨⟨c1,d1,t1,sl1⟩,n,g1,e1,_,f1⟩,_⟩:=I.list hH;obtain⟨YU,r2,⟨⟨c2,d2,t2,sl2⟩,m,g2,e2,_,f2⟩,_⟩:=I.list hB;simp only at e1 f1 e2 f2;subst e1 f1 e2 f2;have hl:=r.length;have hl2:=r2.length;refine kF ⟨_,g1,Z'⟩ ⟨_,g2,Z'⟩ noFill_list_add seq_list_add PySem.F.slot_list_add PySem.F.entry_list_add (PySem.F.args_list_add_2 _ _) (list_addW l b its.toArray YU.toArray n m d1 d2 sl1 sl2 (by rw[dh,dh];lia)) ⟨g1,g2,?_⟩;have ea:its.toArray++YU.toArray=(its++YU).toArray:=by simp
 rw[ea];exact⟨.ref _,_,I.oA (t':=s.toks) (r.append r2) (by rw[cU];lia),Z',q _ I.fresh⟩
def Jw(x:Array Nat):∀k,((List.replicate k x).foldl (·++·) #[]:Array Nat).size=k*x.size:=by
 have go:∀(k:Nat) (acc:Array Nat),((List.replicate k x).foldl (·++·) acc).size=acc.size+k*x.size:=by
  intro k;induction k with
  | zero=>intro acc;simp
  | succ k ih=>intro acc;rw[eh,fQ,ih,Array.size_append,lV];lia
 intro k;rw[go];simp
def Oc:xq X (wP .Mult) (λx y H Q=>∃i j,x=.str i/\y=.int j/\(j<4096/\-4096<j/\i.length<4096)/\Q (.str (yD i j)) H):=by
 intro W5 s Y H x y v u Q I rx ry h;obtain⟨i,j,rfl,rfl,⟨h1,h2,h3⟩,q⟩:=h;obtain⟨t,rfl⟩:=rx;obtain⟨t',rfl⟩:=ry;refine PySem.P.mul_str ?_ ?_ ?_ ?_
 .rw[dZ (by lia),dZ (by lia)];rfl
 .intro h0 _;have:(4096:Int)<=(2 ^ 63 - 1) / j:=by
   have:(4096:Int)*j<=2 ^ 63 - 1:=by lia
   exact(Int.le_ediv_iff_mul_le (by lia)).mpr this
  lia
 .intro h0 _;have hm:i.length*j.toNat<=4096*4096:=jZ (by lia) (by lia);have hz:=dH;unfold Builtin.Str.tooLong;exact dZ (by lia)
 .by_cases h0:j<1
  .rw[cX h0];have e:yD i j=Str.empty:=by unfold yD;rw[show j.toNat=0 by lia];rfl
   rw[e]at q;exact⟨by decide,⟨.str Str.empty,H,I.tok _,⟨_,Z'⟩,q⟩⟩
  .rw[cW h0];by_cases hj:(j==1||i.length==0)=Db
   .rw[cX hj];have e:yD i j=i:=by
     have hj':j=1\/i.length=0:=by simpa using hj
     unfold yD;rcases hj' with z|z
     .subst z;show(⟨#[]++i.cps⟩:Str)=i;simp
     .have ec:i.cps=#[]:=Array.size_eq_zero_iff.mp z;have er:∀k:Nat,((List.replicate k (#[]:Array Nat)).foldl (·++·) #[]:Array Nat)=#[]:=by
       intro k;induction k with
       | zero=>rfl
       | succ k ih=>rw[eh,fQ];simpa using ih
      rw[ec,er,<-ec]
    rw[e]at q;exact⟨.str i,H,I,⟨t,Z'⟩,q⟩
   .rw[cW hj];refine⟨?_,⟨.str _,H,I.tok _,⟨_,Z'⟩,q⟩⟩;have hz:=dH;have hm:j.toNat*i.length<=4096*4096:=jZ (by lia) (by lia);show((List.replicate j.toNat i.cps).foldl (·++·) #[]:Array Nat).size<=_;rw[Jw];have YC:j.toNat*i.cps.size<=4096*4096:=hm;lia
def R3(K:qk)(f:D->D->Mp->DK->Prop):R2:=λvx vy H Q'=>BK λx y M Q=>rJ K H x vx/\rJ K H y vy/\HM K H M/\f x y M Q/\Up K H Q' Q
def W2(op:XXf):xq X (wP op) (R3 X.K (Vg op)):=by
 intro W5 s Y H vx vy v u Q' I rx ry h;obtain⟨x,y,M,Q,hx,hy,hm,q,k⟩:=h;unfold Vg at q;split at q
 .cases hx.int_inv;cases hy.int_inv;exact Sa W5 s Y H _ _ v u Q' I rx ry ⟨_,_,Z',Z',k _ _ _ _ .int hm .refl q⟩
 .cases hx.str_inv;cases hy.str_inv;exact HN W5 s Y H _ _ v u Q' I rx ry ⟨_,_,Z',Z',q.1,k _ _ _ _ .str hm .refl q.2⟩
 .rename_i i j;obtain⟨q1,q2,q3⟩:=q;obtain⟨a,xs,rfl,ha,YI⟩:=hx.mB;obtain⟨b,ys,rfl,hb,X4⟩:=hy.mB;have l1:=YI.length;have l2:=X4.length;refine P5 W5 s Y H _ _ v u Q' I rx ry ⟨a,b,xs,ys,Z',Z',ha,hb,λz=>q1 (by rw[z]at l1;exact gp.mp l1),by lia,λz=>?_,λz p hp=>?_⟩
  .refine k _ _ _ _ (.tup ha ?_) hm .refl q3;rw[z]at X4;have e0:j=[]:=gp.mp (by simpa using X4.length);rw[e0,eD];exact YI
  .have e:qC X.K H (upd H p (.tup (xs++ys))):=.new hp;exact k _ _ _ _ (.tup (.of pR) ((YI.append X4).mono e)) (hm.add hp) e q3
 .obtain⟨i,ei,q⟩:=qI q;obtain⟨j,ej,q1,q2⟩:=qI q;cases hx.mj;cases hy.mj;obtain⟨xs,rx',ZS,_⟩:=pQ hm ei;obtain⟨ys,ry',hys,_⟩:=pQ hm ej;have l1:=ZS.length;have l2:=hys.length;refine Jh W5 s Y H _ _ v u Q' I rx ry ⟨_,_,xs,ys,Z',Z',rx',ry',by lia,λp hp=>?_⟩;have e:qC X.K H (upd H p (.lst (xs++ys))):=.new hp;exact k _ _ _ _ .ref (hm.new (c:=.lst (i++j)) hp ⟨_,pR,(ZS.append hys).mono e⟩) e (q2 p (hm.fresh hp))
 .obtain⟨j,ej,q1,q2⟩:=qI q;obtain⟨l,xs,rfl,rx',ZS⟩:=hx.mL;cases hy.mj;obtain⟨ys,ry',hys,_⟩:=pQ hm ej;have l1:=ZS.length;have l2:=hys.length;refine Jh W5 s Y H _ _ v u Q' I rx ry ⟨_,_,xs,ys,Z',Z',rx'.sq,ry',by lia,λp hp=>?_⟩;have e:qC X.K H (upd H p (.lst (xs++ys))):=.new hp;exact k _ _ _ _ .ref (hm.new (c:=.lst (_++j)) hp ⟨_,pR,(ZS.append hys).mono e⟩) e (q2 p (hm.fresh hp))
 .cases hx.int_inv;cases hy.int_inv;exact SU W5 s Y H _ _ v u Q' I rx ry ⟨_,_,Z',Z',k _ _ _ _ .int hm .refl q⟩
 .cases hx.int_inv;cases hy.int_inv;exact Tb W5 s Y H _ _ v u Q' I rx ry ⟨_,_,Z',Z',q.1,k _ _ _ _ .int hm .refl q.2⟩
 .cases hx.str_inv;cases hy.int_inv;exact Oc W5 s Y H _ _ v u Q' I rx ry ⟨_,_,Z',Z',q.1,k _ _ _ _ .str hm .refl q.2⟩
 .cases hx.int_inv;cases hy.int_inv;exact OI W5 s Y H _ _ v u Q' I rx ry ⟨_,_,Z',Z',q.1,k _ _ _ _ .int hm .refl q.2⟩
 .cases hx.int_inv;cases hy.int_inv;exact SS W5 s Y H _ _ v u Q' I rx ry ⟨_,_,Z',Z',q.1,k _ _ _ _ .int hm .refl q.2⟩
 .exact q.elim
variable {a b:Tl}
def Ie{f:D->D->Mp->DK->Prop}:∀Y H Q',lo X.K (λU M Q=>ta U M λx M1=>tb U M1 λy M2=>f x y M2 Q) Y H Q'->Uc (R3 X.K f) (lo X.K ta) (lo X.K tb) Y H Q':=λY H Q' zz=>x7 zz λU M Q hs hm ht k=>⟨U,M,_,hs,hm,ht,λv H1 x M1 hx W7 e1 q1=>⟨U,M1,_,hs.mono e1,W7,q1,λu H2 y M2 hy Xk e2 q2=>⟨x,y,M2,Q,hx.mono e2,hy,Xk,q2,u9 (e1.trans e2) k⟩⟩⟩
def pL(ha:E3 X a ta)(hb:E3 X b tb):E3 X (.BinOp a op b pos) (o3 op ta tb):=PE.mono (QZ (W2 op) ha hb) Ie
end
noncomputable def so(f:D->D->Option Bool):T0 D->T0 D->Option Bool
 | x::a,y::b=>(f x y).bind λp=>(so f a b).map λq=>p&&q
 | _,_=>ga Db
noncomputable def yA(M:Mp):Nat->D->D->Option Bool
 | 0,_,_=>Fa
 | n+1,x,y=>match x,y with
  | .mx,.mx=>ga Db
  | .bl a,.bl b=>ga (a==b)
  | .int a,.int b=>ga (a==b)
  | .str a,.str b=>ga (a==b)
  | .mx,.bl _=>ga pc
  | .mx,.int _=>ga pc
  | .mx,.str _=>ga pc
  | .bl _,.mx=>ga pc
  | .bl _,.str _=>ga pc
  | .int _,.mx=>ga pc
  | .int _,.str _=>ga pc
  | .str _,.mx=>ga pc
  | .str _,.bl _=>ga pc
  | .str _,.int _=>ga pc
  | .tup a,.tup b=>(so (yA M n) a b).map λp=>p&&a.length==b.length
  | .ref a,.ref b=>(nU M a).bind λi=>(nU M b).bind λj=>if i.length=j.length then so (yA M n) i j else ga pc
  | _,_=>Fa
variable {W5:T0 (lf × Obj)}{Y:St}{s:Sd}
theorem yB{f:D->D->Option Bool}:∀{ds es:T0 D} {xs:T0 V} {b:Bool},pY X.K H ds xs->pY X.K H es xs->(∀x y v b,rJ X.K H x v->rJ X.K H y v->f x y=ga b->b=Db)->so f ds es=ga b->b=Db
 | [],[],_,_,_,_,_,e=>(de e).symm
 | [],_::_,_,_,h,g,_,_=>by have h1:=h.length;have h2:=g.length;rw[<-h1]at h2;simp at h2
 | _::_,[],_,_,h,g,_,_=>by have h1:=h.length;have h2:=g.length;rw[<-h1]at h2;simp at h2
 | d::ds,e::es,xs,b,h,g,k,q=>by
  obtain⟨x,r,rfl,h1,h2⟩:=h.inv;obtain⟨x',r',e',g1,g2⟩:=g.inv;cases e';unfold so at q;cases p1:f d e with
  | none=>rw[p1]at q;cases q
  | some b1=>
   rw[p1]at q;cases p2:so f ds es with
   | none=>rw[p2]at q;cases q
   | some b2=>rw[p2]at q;have q':(b1&&b2)=b:=de q;rw[<-q',k _ _ _ _ h1 g1 p1,yB h2 g2 k p2];rfl
theorem zh(I:Inv X W5 Y H s)(hm:HM X.K H M):∀(n:Nat) (x y:D) (v:V) (b:Bool),rJ X.K H x v->rJ X.K H y v->yA M n x y=ga b->b=Db
 | 0,_,_,_,_,_,_,e=>by cases e
 | n+1,x,y,v,b,hx,hy,e=>by
  unfold yA at e;split at e
  .exact(de e).symm
  .rw[hx.mq]at hy;cases hy.mq;exact(de e).symm.trans (by simp)
  .rw[hx.int_inv]at hy;cases hy.int_inv;exact(de e).symm.trans (by simp)
  .rw[hx.str_inv]at hy;cases hy.str_inv;exact(de e).symm.trans (by simp)
  .rw[hx.mw]at hy;cases hy.mq
  .rw[hx.mw]at hy;cases hy.int_inv
  .rw[hx.mw]at hy;cases hy.str_inv
  .rw[hx.mq]at hy;cases hy.mw
  .rw[hx.mq]at hy;cases hy.str_inv
  .rw[hx.int_inv]at hy;cases hy.mw
  .rw[hx.int_inv]at hy;cases hy.str_inv
  .rw[hx.str_inv]at hy;cases hy.mw
  .rw[hx.str_inv]at hy;cases hy.mq
  .rw[hx.str_inv]at hy;cases hy.int_inv
  .obtain⟨a,xs,rfl,h1,h2⟩:=hx.mB;obtain⟨a',ys,e',g1,g2⟩:=hy.mB;cases e';rw[I.mU g1 h1]at g2;cases p:so (yA M n) _ _ with
   | none=>rw[p]at e;cases e
   | some b1=>rw[p]at e;have e':=de e;rw[<-e',yB h2 g2 (zh I hm n) p,h2.length,g2.length];simp
  .rw[hx.mj]at hy;cases hy.mj;cases p:nU M _ with
   | none=>rw[p]at e;cases e
   | some i=>rw[p]at e;have e:(if i.length=i.length then so (yA M n) i i else ga pc)=ga b:=e;rw[cX Z']at e;obtain⟨xs,_,h2,_⟩:=pQ hm p;exact yB h2 h2 (zh I hm n) e
  .cases e
theorem Cb{A:Ar}:∀{ds es:T0 D} {xs ys:T0 V} {us ws:T0 Vl} {b:Bool},so f ds es=ga b->pY X.K H ds xs->pY X.K H es ys->qo xs us->qo ys ws->
  (∀x y b vx vy u w,f x y=ga b->rJ X.K H x vx->rJ X.K H y vy->qz vx u->qz vy w->SeqAt.EqAt A s u w b)->
  ∃e:Nat->Bool,(∀j (h1:j<us.length) (h2:j<ws.length),SeqAt.EqAt A s us[j] ws[j] (e j))/\(List.range (min us.length ws.length)).all e=b
 | [],es,xs,ys,us,ws,b,q,hx,hy,rx,ry,k=>by
  have e1:=hx.nil_inv;subst e1;cases rx;refine⟨λ_=>Db,λj h1=>absurd h1 (by simp),?_⟩;have q':ga Db=ga b:=by cases es<;>exact q
  simpa using(de q')
 | d::ds,[],xs,ys,us,ws,b,q,hx,hy,rx,ry,k=>by
  have e1:=hy.nil_inv;subst e1;cases ry;refine⟨λ_=>Db,λj _ h2=>absurd h2 (by simp),?_⟩;have q':ga Db=ga b:=q
  simpa using(de q')
 | d::ds,e::es,xs,ys,us,ws,b,q,hx,hy,rx,ry,k=>by
  obtain⟨x,r,rfl,h1,h2⟩:=hx.inv;obtain⟨y,r',rfl,g1,g2⟩:=hy.inv;cases rx with
  | cons r1 r2=>
   cases ry with
   | cons t1 t2=>
    unfold so at q;cases p1:f d e with
    | none=>rw[p1]at q;cases q
    | some b1=>
     rw[p1]at q;cases p2:so f ds es with
     | none=>rw[p2]at q;cases q
     | some b2=>
      rw[p2]at q;have q':(b1&&b2)=b:=de q;obtain⟨e',he,ha⟩:=Cb p2 h2 g2 r2 t2 k;refine⟨λj=>match j with|0=>b1|j+1=>e' j,λj l1 l2=>?_,?_⟩
      .cases j with
       | zero=>exact k _ _ _ _ _ _ _ p1 h1 g1 r1 t1
       | succ j=>exact he j (by simpa using l1) (by simpa using l2)
      .rw[<-q',<-ha];simp only[dY];rw[Nat.succ_min_succ,List.range_succ_eq_map,gm,lX];rfl
theorem Fz(I:Inv X W5 Y H s)(hm:HM X.K H M):∀(n:Nat) (A:Ar) (x y:D) (b:Bool) (vx vy:V) (u w:Vl),A.units+n<IN->yA M n x y=ga b->rJ X.K H x vx->rJ X.K H y vy->qz vx u->qz vy w->
  SeqAt.RcAt A s u w b/\SeqAt.EqAt A s u w b/\SeqAt.RcNeAt A s u w (!b)
 | 0,_,_,_,_,_,_,_,_,_,e,_,_,_,_=>by cases e
 | n+1,A,x,y,b,vx,vy,u,w,hu,e,hx,hy,rx,ry=>by
  have hu1:A.units<IN:=by lia
  have hui:A.in1.units+n<IN:=by show A.units+1+n<IN;lia
  unfold yA at e;split at e
  .cases hx.mw;cases hy.mw;cases rx;cases ry;cases e;exact⟨.none_none,.same _,.none_none⟩
  .cases hx.mq;cases hy.mq;cases rx;cases ry;cases e;exact⟨.bool_bool _ _,.bool_bool _ _,.bool_bool _ _⟩
  .cases hx.int_inv;cases hy.int_inv;obtain⟨t,rfl⟩:=rx;obtain⟨t',rfl⟩:=ry;cases e;exact⟨.int_int _ _ _ _,.int_int _ _ _ _,.int_int _ _ _ _⟩
  .cases hx.str_inv;cases hy.str_inv;obtain⟨t,rfl⟩:=rx;obtain⟨t',rfl⟩:=ry;cases e;exact⟨.str_str _ _ _ _,.str_str _ _ _ _,.str_str _ _ _ _⟩
  .cases hx.mw;cases hy.mq;cases rx;cases ry;cases e;exact⟨.none_bool _,.none_bool _,.none_bool _⟩
  .cases hx.mw;cases hy.int_inv;cases rx;obtain⟨t',rfl⟩:=ry;cases e;exact⟨.none_int _ _,.none_int _ _,.none_int _ _⟩
  .cases hx.mw;cases hy.str_inv;cases rx;obtain⟨t',rfl⟩:=ry;cases e;exact⟨.none_str _ _,.none_str _ _,.none_str _ _⟩
  .cases hx.mq;cases hy.mw;cases rx;cases ry;cases e;exact⟨.bool_none _,.bool_none _,.bool_none _⟩
  .cases hx.mq;cases hy.str_inv;cases rx;obtain⟨t',rfl⟩:=ry;cases e;exact⟨.bool_str _ _ _,.bool_str _ _ _,.bool_str _ _ _⟩
  .cases hx.int_inv;cases hy.mw;obtain⟨t,rfl⟩:=rx;cases ry;cases e;exact⟨.int_none _ _,.int_none _ _,.int_none _ _⟩
  .cases hx.int_inv;cases hy.str_inv;obtain⟨t,rfl⟩:=rx;obtain⟨t',rfl⟩:=ry;cases e;exact⟨.int_str _ _ _ _,.int_str _ _ _ _,.int_str _ _ _ _⟩
  .cases hx.str_inv;cases hy.mw;obtain⟨t,rfl⟩:=rx;cases ry;cases e;exact⟨.str_none _ _,.str_none _ _,.str_none _ _⟩
  .cases hx.str_inv;cases hy.mq;obtain⟨t,rfl⟩:=rx;cases ry;cases e;exact⟨.str_bool _ _ _,.str_bool _ _ _,.str_bool _ _ _⟩
  .cases hx.str_inv;cases hy.int_inv;obtain⟨t,rfl⟩:=rx;obtain⟨t',rfl⟩:=ry;cases e;exact⟨.str_int _ _ _ _,.str_int _ _ _ _,.str_int _ _ _ _⟩
  .rename_i da db;obtain⟨a1,xs,rfl,h1,h2⟩:=hx.mB;obtain⟨a2,ys,rfl,g1,g2⟩:=hy.mB;cases rx;cases ry;obtain⟨us,r1,p1,_⟩:=I.tuple h1;obtain⟨ws,r2,p2,_⟩:=I.tuple g1;cases p:so (yA M n) da db with
   | none=>rw[p]at e;cases e
   | some b1=>
    have e0:=e;rw[p]at e;have e':(b1&&da.length==db.length)=b:=de e;obtain⟨f,hf,ha⟩:=Cb (A:=A.in1) (s:=s) p h2 g2 r1 r2 λx y b vx vy u w q1 q2 q3 q4 q5=>(Fz I hm n A.in1 x y b vx vy u w hui q1 q2 q3 q4 q5).2.1;have hb:((List.range (min us.toArray.size ws.toArray.size)).all f&&us.toArray.size==ws.toArray.size)=b:=by rw[dh,dh,ha,<-e',<-r1.length,<-r2.length,h2.length,g2.length]
    have hf':∀j (l1:j<us.toArray.size) (l2:j<ws.toArray.size),SeqAt.EqAt A.in1 s us.toArray[j] ws.toArray[j] (f j):=λj l1 l2=>by simpa using hf j (by simpa using l1) (by simpa using l2)
    have c1:SeqAt.RcAt A s (.ref a1) (.ref a2) b:=by rw[<-hb];exact .tuples p1 p2 hu1 hf'
    have c3:SeqAt.RcNeAt A s (.ref a1) (.ref a2) (!b):=by have:=SeqAt.RcNeAt.tuples p1 p2 hu1 hf';rw[hb]at this;exact this
    refine⟨c1,?_,c3⟩;by_cases ea:a1=a2
    .subst ea;have:b=Db:=zh I hm (n+1) (.tup da) (.tup db) (.ref a1) b hx hy (by unfold yA;exact e0);rw[this];exact .same _
    .exact .of_refs ea c1
  .cases hx.mj;cases hy.mj;cases rx;cases ry;rename_i a1 a2;have e0:=e;cases p:nU M a1 with
   | none=>rw[p]at e;cases e
   | some i=>
    cases p':nU M a2 with
    | none=>rw[p,p']at e;cases e
    | some j=>
     rw[p,p']at e;have e:(if i.length=j.length then so (yA M n) i j else ga pc)=ga b:=e;obtain⟨xs,q1,h2,_⟩:=pQ hm p;obtain⟨ys,q2,g2,_⟩:=pQ hm p';obtain⟨us,r1,p1,_⟩:=I.list q1;obtain⟨ws,r2,p2,_⟩:=I.list q2;have Xb:SeqAt.RcAt A s (.ref a1) (.ref a2) b/\SeqAt.RcNeAt A s (.ref a1) (.ref a2) (!b):=by
      by_cases hl:i.length=j.length
      .rw[cX hl]at e;obtain⟨f,hf,ha⟩:=Cb (A:=A.in1) (s:=s) e h2 g2 r1 r2 λx y b vx vy u w q1 q2 q3 q4 q5=>(Fz I hm n A.in1 x y b vx vy u w hui q1 q2 q3 q4 q5).2.1;have hsz:us.toArray.size=ws.toArray.size:=by rw[dh,dh,<-r1.length,<-r2.length,<-h2.length,<-g2.length];exact hl
       have hf':∀j (l1:j<us.toArray.size) (l2:j<ws.toArray.size),SeqAt.EqAt A.in1 s us.toArray[j] ws.toArray[j] (f j):=λj l1 l2=>by simpa using hf j (by simpa using l1) (by simpa using l2)
       have hb:(List.range us.toArray.size).all f=b:=by rw[<-ha];rw[dh,dh]at hsz;rw[dh,<-hsz,fW]
       rw[<-hb];exact⟨.lists p1.isList p2.isList hsz hu1 hf',.lists p1.isList p2.isList hsz hu1 hf'⟩
      .rw[cW hl]at e;cases e;have hsz:(us.toArray.size != ws.toArray.size)=Db:=by
        rw[dh,dh,<-r1.length,<-r2.length,<-h2.length,<-g2.length]
        simpa using hl
       exact⟨.lists_lengths p1.isList p2.isList hsz hu1,.lists_lengths p1.isList p2.isList hsz hu1⟩
     refine⟨Xb.1,?_,Xb.2⟩;by_cases ea:a1=a2
     .subst ea;have:b=Db:=zh I hm (n+1) (.ref a1) (.ref a1) (.ref a1) b .ref .ref (by unfold yA;exact e0);rw[this];exact .same _
     .exact .of_refs ea Xb.1
  .cases e
noncomputable def uJ:D->Bool
 | .mx=>Db
 | .bl _=>Db
 | .int _=>Db
 | .str _=>Db
 | _=>pc
noncomputable def P4:D->D->Bool
 | .mx,.mx=>Db
 | .bl a,.bl b=>a==b
 | .bl a,.int b=>(if a then 1 else 0)==b
 | .int a,.bl b=>a==(if b then 1 else 0)
 | .int a,.int b=>a==b
 | .str a,.str b=>a==b
 | _,_=>pc
noncomputable def inD(x:D)(ds:T0 D):Bool:=ds.any λy=>P4 y x
noncomputable def Ln(M:Mp):D->Option (T0 D)
 | .tup ds=>ga ds
 | .ref a=>nU M a
 | .rl ds=>ga ds
 | _=>Fa
noncomputable def CN(i j:Str):Bool:=!(Builtin.Str.occurrences j i 0 j.length 1).isEmpty
def Q6(YH:Bool)(x y:D)(M:Mp)(Q:DK):Prop:=match x,y with
 | .str i,.str j=>Q (.bl (if YH then !CN i j else CN i j)) M
 | _,_=>(Ln M y).elim False λds=>uJ x=Db/\ds.all uJ=Db/\Q (.bl (if YH then !inD x ds else inD x ds)) M
def Qv(op:CmpOp)(x y:D)(M:Mp)(Q:DK):Prop:=match op with
 | .Eq=>(yA M 9 x y).elim False λb=>Q (.bl b) M
 | .NotEq=>(yA M 9 x y).elim False λb=>Q (.bl (!b)) M
 | .Lt=>match x,y with|.int i,.int j=>Q (.bl (decide (i<j))) M|_,_=>False
 | .LtE=>match x,y with|.int i,.int j=>Q (.bl (decide (i<=j))) M|_,_=>False
 | .Gt=>match x,y with|.int i,.int j=>Q (.bl (decide (j<i))) M|_,_=>False
 | .GtE=>match x,y with|.int i,.int j=>Q (.bl (decide (j<=i))) M|_,_=>False
 | .Is=>match y with|.mx=>Q (.bl (match x with|.mx=>Db|_=>pc)) M|_=>False
 | .IsNot=>match y with|.mx=>Q (.bl (match x with|.mx=>pc|_=>Db)) M|_=>False
 | .In=>Q6 pc x y M Q
 | .NotIn=>Q6 Db x y M Q
def k3(op:CmpOp)(ta tb:T3):T3:=λU M Q=>ta U M λx M1=>tb U M1 λy M2=>Qv op x y M2 Q
def yY(h:rJ K H d v)(f:uJ d=Db):yr v=Db:=by
 cases d with
 | mx=>rw[h.mw];rfl
 | bl _=>rw[h.mq];rfl
 | int _=>rw[h.int_inv];rfl
 | str _=>rw[h.str_inv];rfl
 | _=>cases f
def I0(h:rJ K H d v)(g:rJ K H e w)(f:uJ d=Db)(f':uJ e=Db):NS v w=P4 d e:=by
 cases d with
 | mx=>
  rw[h.mw];cases e with
  | mx=>rw[g.mw];rfl
  | bl _=>rw[g.mq];rfl
  | int _=>rw[g.int_inv];rfl
  | str _=>rw[g.str_inv];rfl
  | _=>cases f'
 | bl _=>
  rw[h.mq];cases e with
  | mx=>rw[g.mw];rfl
  | bl _=>rw[g.mq];rfl
  | int _=>rw[g.int_inv];rfl
  | str _=>rw[g.str_inv];rfl
  | _=>cases f'
 | int _=>
  rw[h.int_inv];cases e with
  | mx=>rw[g.mw];rfl
  | bl _=>rw[g.mq];rfl
  | int _=>rw[g.int_inv];rfl
  | str _=>rw[g.str_inv];rfl
  | _=>cases f'
 | str _=>
  rw[h.str_inv];cases e with
  | mx=>rw[g.mw];rfl
  | bl _=>rw[g.mq];rfl
  | int _=>rw[g.int_inv];rfl
  | str _=>rw[g.str_inv];rfl
  | _=>cases f'
 | _=>cases f
theorem EV:∀{ds:T0 D} {xs:T0 V},pY K H ds xs->ds.all uJ=Db->xs.all yr=Db
 | [],_,h,_=>by rw[h.nil_inv];rfl
 | d::ds,_,h,f=>by obtain⟨x,r,rfl,h1,h2⟩:=h.inv;rw[gm,dR]at f ⊢;exact⟨yY h1 f.1,EV h2 f.2⟩
theorem Nx(g:rJ K H e w)(f':uJ e=Db):∀{ds:T0 D} {xs:T0 V},pY K H ds xs->ds.all uJ=Db->inV w xs=inD e ds
 | [],_,h,_=>by rw[h.nil_inv];rfl
 | d::ds,_,h,f=>by obtain⟨x,r,rfl,h1,h2⟩:=h.inv;rw[gm,dR]at f;show(NS x w||inV w r)=(P4 d e||inD e ds);rw[I0 h1 g f.1 f',Nx g f' h2 f.2]
def Ez(hm:HM K H M){y:D}{v:V}{ds:T0 D}(h:rJ K H y v)(q:Ln M y=ga ds):∃p xs,v=.ref p/\(xk K H p xs\/vk K H p xs)/\pY K H ds xs:=by
 cases y with
 | tup es=>cases q;obtain⟨a,xs,rfl,h1,h2⟩:=h.mB;exact⟨a,xs,Z',.inr h1,h2⟩
 | ref a=>cases h.mj;obtain⟨xs,h1,h2,_⟩:=pQ hm q;exact⟨a,xs,Z',.inl h1,h2⟩
 | rl es=>cases q;obtain⟨a,xs,rfl,h1,h2⟩:=h.mL;exact⟨a,xs,Z',.inl h1.sq,h2⟩
 | _=>cases q
variable {c:Tl}{tc:T3}
section
def JU(op:CmpOp)(hu:X.A.units+9<IN):xq X (wp op) (R3 X.K (Qv op)):=by
 intro W5 s Y H vx vy v u Q' I rx ry h;obtain⟨x,y,M,Q,hx,hy,hm,q,k⟩:=h;have bk:∀b,Q (.bl b) M->EP X W5 Y Q' (.bool b) s:=λb q=>⟨.bl b,H,I,Z',k _ _ _ _ .bl hm .refl q⟩;have inn:∀YH:Bool,((Ln M y).elim False λds=>uJ x=Db/\ds.all uJ=Db/\Q (.bl (if YH then !inD x ds else inD x ds)) M)->VH X.K YH vx vy H Q':=λYH q=>by obtain⟨ds,e,f1,f2,q⟩:=qI q;obtain⟨p,xs,rfl,h1,h2⟩:=Ez hm hy e;refine⟨p,xs,Z',h1,yY hx f1,EV h2 f2,?_⟩;rw[Nx hx f1 h2 f2];exact k _ _ _ _ .bl hm .refl q
 cases op with
 | Eq=>obtain⟨b,e,q⟩:=qI q;exact(Fz I hm 9 X.A x y b vx vy v u hu e hx hy rx ry).1 _ _ _ _ (bk b q)
 | NotEq=>obtain⟨b,e,q⟩:=qI q;exact(Fz I hm 9 X.A x y b vx vy v u hu e hx hy rx ry).2.2 _ _ _ _ (bk _ q)
 | Lt=>
  cases x<;>first|exact q.elim|skip
  cases y<;>first|exact q.elim|skip
  cases hx.int_inv;cases hy.int_inv;exact Uo W5 s Y H _ _ v u Q' I rx ry ⟨_,_,Z',Z',k _ _ _ _ .bl hm .refl q⟩
 | LtE=>
  cases x<;>first|exact q.elim|skip
  cases y<;>first|exact q.elim|skip
  cases hx.int_inv;cases hy.int_inv;exact U7 W5 s Y H _ _ v u Q' I rx ry ⟨_,_,Z',Z',k _ _ _ _ .bl hm .refl q⟩
 | Gt=>
  cases x<;>first|exact q.elim|skip
  cases y<;>first|exact q.elim|skip
  cases hx.int_inv;cases hy.int_inv;exact Ue W5 s Y H _ _ v u Q' I rx ry ⟨_,_,Z',Z',k _ _ _ _ .bl hm .refl q⟩
 | GtE=>
  cases x<;>first|exact q.elim|skip
  cases y<;>first|exact q.elim|skip
  cases hx.int_inv;cases hy.int_inv;exact UU W5 s Y H _ _ v u Q' I rx ry ⟨_,_,Z',Z',k _ _ _ _ .bl hm .refl q⟩
 | Is=>
  cases y<;>first|exact q.elim|skip
  cases hy.mw;refine Td W5 s Y H _ _ v u Q' I rx ry ⟨Z',k _ _ _ _ ?_ hm .refl q⟩;cases x with
  | mx=>rw[hx.mw];exact .bl
  | bl _=>rw[hx.mq];exact .bl
  | int _=>rw[hx.int_inv];exact .bl
  | str _=>rw[hx.str_inv];exact .bl
  | tup _=>obtain⟨a,xs,rfl,_⟩:=hx.mB;exact .bl
  | ref _=>rw[hx.mj];exact .bl
  | ty _=>rw[hx.nK];exact .bl
  | rl _=>obtain⟨a,xs,rfl,_⟩:=hx.mL;exact .bl
 | IsNot=>
  cases y<;>first|exact q.elim|skip
  cases hy.mw;refine Pp W5 s Y H _ _ v u Q' I rx ry ⟨Z',k _ _ _ _ ?_ hm .refl q⟩;cases x with
  | mx=>rw[hx.mw];exact .bl
  | bl _=>rw[hx.mq];exact .bl
  | int _=>rw[hx.int_inv];exact .bl
  | str _=>rw[hx.str_inv];exact .bl
  | tup _=>obtain⟨a,xs,rfl,_⟩:=hx.mB;exact .bl
  | ref _=>rw[hx.mj];exact .bl
  | ty _=>rw[hx.nK];exact .bl
  | rl _=>obtain⟨a,xs,rfl,_⟩:=hx.mL;exact .bl
 | In=>
  have q:Q6 pc x y M Q:=q;unfold Q6 at q;split at q
  .cases hx.str_inv;cases hy.str_inv;exact KG W5 s Y H _ _ v u Q' I rx ry ⟨_,_,Z',Z',k _ _ _ _ .bl hm .refl q⟩
  .exact JP W5 s Y H _ _ v u Q' I rx ry (inn pc q)
 | NotIn=>
  have q:Q6 Db x y M Q:=q;unfold Q6 at q;split at q
  .cases hx.str_inv;cases hy.str_inv;exact Ei W5 s Y H _ _ v u Q' I rx ry ⟨_,_,Z',Z',k _ _ _ _ .bl hm .refl q⟩
  .exact Fi W5 s Y H _ _ v u Q' I rx ry (inn Db q)
variable {a b:Tl}
def pX{op:CmpOp}(hu:X.A.units+9<IN)(ha:E3 X a ta)(hb:E3 X b tb)(hm:wT op b=pc:=by first|exact Ik _|with_unfolding_all rfl):E3 X (.Compare a [op] [b] pos) (k3 op ta tb):=PE.mono (Jn (JU op hu) ha hb hm) Ie
def b3(t:T3):Am:=λU M Q=>t U M λd M1=>match d with|.bl c=>Q c M1|_=>False
def uM(h:E3 X e t)(he:∀XA,isTrue e X.env XA=(do let v<-XA;u8 e.pos;Ix [v] (truthy v)):=by intro _;rfl):B3 X e (b3 t):=PT.mono (Te h he) λY H Q' zz=>x7 zz λU M Q hs hm ht k=>
 ⟨U,M,_,hs,hm,ht,λv H1 d M1 hd W7 e1 q1=>by
  cases d with
  | bl c=>exact⟨c,hd.mq,k c H1 M1 W7 e1 q1⟩
  | _=>exact q1.elim⟩
noncomputable def pk{op:CmpOp}(hu:X.A.units+9<IN)(ha:E3 X a ta)(hb:E3 X b tb)(hm:wT op b=pc:=by first|exact Ik _|with_unfolding_all rfl):B3 X (.Compare a [op] [b] pos) (b3 (k3 op ta tb)):=PT.mono (JB (JU op hu) ha hb hm) λY H Q' zz=>x7 zz λU M Q hs hm ht k=>
 Ie Y H _ ⟨U,M,_,hs,hm,ht,λv H1 d M1 hd W7 e1 q1=>by
  cases d with
  | bl c=>exact⟨c,hd.mq,k c H1 M1 W7 e1 q1⟩
  | _=>exact q1.elim⟩
end
variable {tA tB:Am}{rest:T0 Tl}
section
variable {a b:Tl}
def OO(t u:Am):Am:=λU M Q=>t U M λc M1=>if c=Db then u U M1 Q else Q pc M1
def WW(t u:Am):Am:=λU M Q=>t U M λc M1=>if c=Db then Q Db M1 else u U M1 Q
def TM(t:Am):Am:=λU M Q=>t U M λc M1=>Q (!c) M1
def W3(X:Cx)(e:Tl)(t:Am):Prop:=PW X e (Th X.K t)
def PW.mono{t t':TT}(h:PW X e t)(m:∀Y H Q,t' Y H Q->t Y H Q):PW X e t':=λwh W5 s Y H Q I q=>h wh W5 s Y H Q I (m Y H Q q)
def W3.b3(h:W3 X e t):B3 X e t:=PW.pt h
def ya(h:B3 X a tA):W3 X (.BoolOp .And [a] pos) tA:=OG h
def xF(h:B3 X a tA):W3 X (.BoolOp .Or [a] pos) tA:=SG h
def yE(ha:B3 X a tA)(hb:W3 X (.BoolOp .And (b::rest) pos) tB):W3 X (.BoolOp .And (a::b::rest) pos) (OO tA tB):=PW.mono (R4 ha hb) λY H Q' zz=>x7 zz λU M Q hs hm ht k=>
 ⟨U,M,_,hs,hm,ht,λc H1 M1 W7 e1 q1=>by
  cases c with
  | true=>exact(cX Z').mpr ⟨U,M1,Q,hs.mono e1,W7,(cX Z').mp q1,λb H' M' x1 x2 x3=>k b H' M' x1 (e1.trans x2) x3⟩
  | false=>exact(cW dv).mpr (k pc H1 M1 W7 e1 ((cW dv).mp q1))⟩
def yl(ha:B3 X a tA)(hb:W3 X (.BoolOp .Or (b::rest) pos) tB):W3 X (.BoolOp .Or (a::b::rest) pos) (WW tA tB):=PW.mono (TF ha hb) λY H Q' zz=>x7 zz λU M Q hs hm ht k=>
 ⟨U,M,_,hs,hm,ht,λc H1 M1 W7 e1 q1=>by
  cases c with
  | true=>exact(cX Z').mpr (k Db H1 M1 W7 e1 ((cX Z').mp q1))
  | false=>exact(cW dv).mpr ⟨U,M1,Q,hs.mono e1,W7,(cW dv).mp q1,λb H' M' x1 x2 x3=>k b H' M' x1 (e1.trans x2) x3⟩⟩
def wB(ha:B3 X a tA):B3 X (.UnaryOp .Not a pos) (TM tA):=PT.mono (SH ha) λY H Q' zz=>x7 zz λU M Q hs hm ht k=>⟨U,M,_,hs,hm,ht,λc H1 M1 W7 e1 q1=>k _ H1 M1 W7 e1 q1⟩
def TK(ta tb:T3):T3:=λU M Q=>ta U M λd M1=>match d with|.bl c=>if c=Db then tb U M1 Q else Q (.bl pc) M1|_=>False
def Wt(ta tb:T3):T3:=λU M Q=>ta U M λd M1=>match d with|.bl c=>if c=Db then Q (.bl Db) M1 else tb U M1 Q|_=>False
def Va(ta:T3):T3:=λU M Q=>ta U M λd M1=>match d with|.bl c=>Q (.bl (!c)) M1|_=>False
def sm{op}(h:E3 X a ta):E3 X (.BoolOp op [a] pos) ta:=Rh h
def sN(ha:E3 X a ta)(hb:E3 X (.BoolOp .And (b::rest) pos) tb):E3 X (.BoolOp .And (a::b::rest) pos) (TK ta tb):=PE.mono (RX ha hb) λY H Q' zz=>x7 zz λU M Q hs hm ht k=>
 ⟨U,M,_,hs,hm,ht,λv H1 d M1 hd W7 e1 q1=>by
  cases d with
  | bl c=>
   refine⟨c,hd.mq,?_⟩;cases c with
   | true=>exact(cX Z').mpr ⟨U,M1,Q,hs.mono e1,W7,(cX Z').mp q1,u9 e1 k⟩
   | false=>exact(cW dv).mpr (k _ H1 _ M1 .bl W7 e1 ((cW dv).mp q1))
  | _=>exact q1.elim⟩
def IS(ha:E3 X a ta)(hb:E3 X (.BoolOp .Or (b::rest) pos) tb):E3 X (.BoolOp .Or (a::b::rest) pos) (Wt ta tb):=PE.mono (Tu ha hb) λY H Q' zz=>x7 zz λU M Q hs hm ht k=>
 ⟨U,M,_,hs,hm,ht,λv H1 d M1 hd W7 e1 q1=>by
  cases d with
  | bl c=>
   refine⟨c,hd.mq,?_⟩;cases c with
   | true=>exact(cX Z').mpr (k _ H1 _ M1 .bl W7 e1 ((cX Z').mp q1))
   | false=>exact(cW dv).mpr ⟨U,M1,Q,hs.mono e1,W7,(cW dv).mp q1,u9 e1 k⟩
  | _=>exact q1.elim⟩
def Ta(ha:E3 X a ta):E3 X (.UnaryOp .Not a pos) (Va ta):=PE.mono (S9 ha) λY H Q' zz=>x7 zz λU M Q hs hm ht k=>
 ⟨U,M,_,hs,hm,ht,λv H1 d M1 hd W7 e1 q1=>by
  cases d with
  | bl c=>exact⟨c,hd.mq,k _ H1 _ M1 .bl W7 e1 q1⟩
  | _=>exact q1.elim⟩
def WQ(t:Am)(ta tb:T3):T3:=λU M Q=>t U M λc M1=>if c=Db then ta U M1 Q else tb U M1 Q
def JA(hc:B3 X c tA)(ha:E3 X a ta)(hb:E3 X b tb):E3 X (.IfExp c a b pos) (WQ tA ta tb):=PE.mono (Nm hc ha hb) λY H Q' zz=>x7 zz λU M Q hs hm ht k=>
 ⟨U,M,_,hs,hm,ht,λc H1 M1 W7 e1 q1=>by
  cases c with
  | true=>exact(cX Z').mpr ⟨U,M1,Q,hs.mono e1,W7,(cX Z').mp q1,u9 e1 k⟩
  | false=>exact(cW dv).mpr ⟨U,M1,Q,hs.mono e1,W7,(cW dv).mp q1,u9 e1 k⟩⟩
def VA(x y:D)(M:Mp)(Q:DK):Prop:=match x,y with
 | .tup ds,.int i=>(vR ds i).elim False λd=>Q d M
 | .ref a,.int i=>(nU M a).elim False λds=>(vR ds i).elim False λd=>Q d M
 | .rl ds,.int i=>(vR ds i).elim False λd=>Q d M
 | .str z,.int i=>z.length<=Uf/\(vR z.cps.toList i).elim False λc=>Q (.str ⟨#[c]⟩) M
 | _,_=>False
def i3(ta tb:T3):T3:=λU M Q=>ta U M λx M1=>tb U M1 λy M2=>VA x y M2 Q
def Es{K:qk}{d:D}(h:pY K H ds xs)(e:vR ds i=ga d):∃v,vR xs i=ga v/\rJ K H d v:=by
 unfold vR at e ⊢;rw[<-h.length];cases q:G7 ds.length i with
 | none=>rw[q]at e;cases e
 | some j=>rw[q]at e;exact h.get e
def WP:Tq X (R3 X.K VA):=by
 intro value Xh W5 s Y H vx vy v u Q' I rx ry h hs;obtain⟨x,y,M,Q,hx,hy,hm,q,k⟩:=h;unfold VA at q;split at q
 .obtain⟨d,e,q⟩:=qI q;obtain⟨p,xs,rfl,h1,h2⟩:=hx.mB;cases hy.int_inv;obtain⟨w,e1,e2⟩:=Es h2 e;exact SV value Xh W5 s Y H _ _ v u Q' I rx ry ⟨p,xs,_,w,Z',Z',h1,e1,k _ _ _ _ e2 hm .refl q⟩ hs
 .obtain⟨ds,e0,q⟩:=qI q;obtain⟨d,e,q⟩:=qI q;cases hx.mj;cases hy.int_inv;obtain⟨xs,h1,h2,_⟩:=pQ hm e0;obtain⟨w,e1,e2⟩:=Es h2 e;exact Ja value Xh W5 s Y H _ _ v u Q' I rx ry ⟨_,xs,_,w,Z',Z',h1,e1,k _ _ _ _ e2 hm .refl q⟩ hs
 .obtain⟨d,e,q⟩:=qI q;obtain⟨p,xs,rfl,h1,h2⟩:=hx.mL;cases hy.int_inv;obtain⟨w,e1,e2⟩:=Es h2 e;exact Ja value Xh W5 s Y H _ _ v u Q' I rx ry ⟨p,xs,_,w,Z',Z',h1.sq,e1,k _ _ _ _ e2 hm .refl q⟩ hs
 .obtain⟨q1,q⟩:=q;obtain⟨c,e,q⟩:=qI q;cases hx.str_inv;cases hy.int_inv;exact Rw value Xh W5 s Y H _ _ v u Q' I rx ry ⟨_,_,c,Z',Z',q1,e,k _ _ _ _ .str hm .refl q⟩ hs
 .exact q.elim
def pA(ha:E3 X a ta)(hb:E3 X b tb)(hs:Bo b:=by exact λ_ _=>rfl):E3 X (.Subscript a b pos) (i3 ta tb):=PE.mono (Nu WP ha hb hs) Ie
noncomputable def uf(ds:T0 D)(lo hi:Option Int):T0 D:=(ds.drop (HT.sS ds.length 0 lo)).take (HT.sS ds.length ds.length hi - HT.sS ds.length 0 lo)
def EB{K:qk}(q:pY K H ds xs):pY K H (uf ds l h) (Bv xs l h):=by unfold uf Bv;rw[q.length];exact(q.drop _).take _
abbrev Tf:=uV->Mp->(Option Int->Mp->Prop)->Prop
def WN(K:qk)(t:Tf):TO:=λY H Q'=>DM λU M Q=>zP K H Y U/\HM K H M/\t U M Q/\∀o H' M',HM K H' M'->qC K H H'->Q o M'->Q' o H'
def O3(X:Cx)(e:Option Tl)(t:Tf):Prop:=PO X e (WN X.K t)
def O0:Tf:=λ_ M Q=>Q Fa M
def Uh(t:T3):Tf:=λU M Q=>t U M λd M1=>match d with|.int i=>Q (ga i) M1|_=>False
def PO.mono{t t':TO}(h:PO X e t)(m:∀Y H Q,t' Y H Q->t Y H Q):PO X e t':=λW5 s Y H Q I q=>h W5 s Y H Q I (m Y H Q q)
def rE:O3 X Fa O0:=PO.mono PM λY H Q' zz=>x7 zz λU M Q hs hm ht k=>k Fa H M hm .refl ht
def rc(h:E3 X e t):O3 X (ga e) (Uh t):=PO.mono (Ol h) λY H Q' zz=>x7 zz λU M Q hs hm ht k=>
 ⟨U,M,_,hs,hm,ht,λv H1 d M1 hd W7 e1 q1=>by
  cases d with
  | int i=>exact⟨i,hd.int_inv,k (ga i) H1 M1 W7 e1 q1⟩
  | _=>exact q1.elim⟩
def Wx(x:D)(lo hi:Option Int)(M:Mp)(Q:DK):Prop:=match x with
 | .tup ds=>Q (.tup (uf ds lo hi)) M
 | .ref a=>(nU M a).elim False λds=>∀p,M p=Fa->Q (.ref p) (o9 M p (.lst (uf ds lo hi)))
 | .rl ds=>∀p,M p=Fa->Q (.ref p) (o9 M p (.lst (uf ds lo hi)))
 | _=>False
def s3(te:T3)(tl th:Tf):T3:=λU M Q=>te U M λx M1=>tl U M1 λl M2=>th U M2 λu M3=>Wx x l u M3 Q
def Vt(K:qk):V->Option Int->Option Int->Hp->VK->Prop:=λvx l u H Q'=>DM λx M Q=>rJ K H x vx/\HM K H M/\Wx x l u M Q/\Up K H Q' Q
def O9{ds:T0 D}{lo hi:Option Int}(h:HT.sS ds.length 0 lo=0/\HT.sS ds.length ds.length hi=ds.length):uf ds lo hi=ds:=by unfold uf;rw[h.1,h.2,iW,jz,fh]
def Wp:TL X (Vt X.K):=by
 intro W5 s Y H vx v vl vu l u sl Q' I rx hsl pl pu h;obtain⟨x,M,Q,hx,hm,q,k⟩:=h;cases x with
 | tup ds=>
  have q2:Q (.tup (uf ds l u)) M:=q;obtain⟨a,xs,rfl,h1,h2⟩:=hx.mB;by_cases q1:HT.sS ds.length 0 l=0/\HT.sS ds.length ds.length u=ds.length
  .rw[O9 q1]at q2;exact S5 W5 s Y H _ v vl vu l u sl Q' I rx hsl pl pu ⟨a,xs,Z',h1,by rw[<-h2.length];exact q1,k _ _ _ _ hx hm .refl q2⟩
  refine Rk W5 s Y H _ v vl vu l u sl Q' I rx hsl pl pu ⟨a,xs,Z',h1,by rw[<-h2.length];exact q1,λp hp=>?_⟩;have e:qC X.K H (upd H p (.tup (Bv xs l u))):=.new hp;exact k _ _ _ _ (.tup (.of pR) ((EB h2).mono e)) (hm.add hp) e q2
 | ref a=>obtain⟨ds,e0,q⟩:=qI q;cases hx.mj;obtain⟨xs,h1,h2,_⟩:=pQ hm e0;refine Iu W5 s Y H _ v vl vu l u sl Q' I rx hsl pl pu ⟨a,xs,Z',h1,λp hp=>?_⟩;have e:qC X.K H (upd H p (.lst (Bv xs l u))):=.new hp;exact k _ _ _ _ .ref (hm.new (c:=.lst (uf ds l u)) hp ⟨_,pR,(EB h2).mono e⟩) e (q p (hm.fresh hp))
 | rl ds=>obtain⟨a,xs,rfl,h1,h2⟩:=hx.mL;refine Iu W5 s Y H _ v vl vu l u sl Q' I rx hsl pl pu ⟨a,xs,Z',h1.sq,λp hp=>?_⟩;have e:qC X.K H (upd H p (.lst (Bv xs l u))):=.new hp;exact k _ _ _ _ .ref (hm.new (c:=.lst (uf ds l u)) hp ⟨_,pR,(EB h2).mono e⟩) e (q p (hm.fresh hp))
 | _=>exact q.elim
def qK{lo hi:Option Tl}{p2:Pos}(he:E3 X e te)(hl:O3 X lo tl)(hu:O3 X hi th):E3 X (.Subscript e (.Slice lo hi Fa p2) pos) (s3 te tl th):=PE.mono (MX Wp he hl hu) λY H Q' zz=>x7 zz λU M Q hs hm ht k=>⟨U,M,_,hs,hm,ht,λv H1 x M1 hx W7 e1 q1=>⟨U,M1,_,hs.mono e1,W7,q1,λl H2 M2 Xk e2 q2=>⟨U,M2,_,hs.mono (e1.trans e2),Xk,q2,λu H3 M3 Xz e3 q3=>⟨x,M3,Q,hx.mono (e2.trans e3),Xz,q3,u9 (e1.trans (e2.trans e3)) k⟩⟩⟩⟩
def xK:wI:=λ_ M Q=>Q [] M
def vb(ta:T3)(tr:wI):wI:=λU M Q=>ta U M λx M1=>tr U M1 λxs M2=>Q (x::xs) M2
def rZ:A3 X [] xK:=PA.mono SQ λY H Q' zz=>x7 zz λU M Q hs hm ht k=>k [] H [] M .nil hm .refl ht
def pT(ha:E3 X e te)(hr:A3 X es t)(hs:AE X e es:=by rfl):A3 X (e::es) (vb te t):=PA.mono (Pk ha hr hs) λY H Q' zz=>x7 zz λU M Q hs hm ht k=>⟨U,M,_,hs,hm,ht,λv H1 x M1 hx W7 e1 q1=>⟨U,M1,_,hs.mono e1,W7,q1,λvs H2 xs M2 ZS Xk e2 q2=>k _ H2 _ M2 (.cons (hx.mono e2) ZS) Xk (e1.trans e2) q2⟩⟩
def We(t:wI):T3:=λU M Q=>t U M λds M1=>ds.length<=Uf/\Q (.tup ds) M1
def UK(t:wI):T3:=λU M Q=>t U M λds M1=>ds.length<=Uf/\∀p,M1 p=Fa->Q (.ref p) (o9 M1 p (.lst ds))
def pF{x1}(h:A3 X es t):E3 X (.Tuple es x1 pos) (We t):=PE.mono (S7 h) λY H Q' zz=>x7 zz λU M Q hs hm ht k=>
 ⟨U,M,_,hs,hm,ht,λvs H1 ds M1 Yn W7 e1 q1=>⟨by rw[<-Yn.length];exact q1.1,λp hp=>by
  have e:qC X.K H1 (upd H1 p (.tup vs)):=.new hp;exact k _ _ _ M1 (.tup (.of pR) (Yn.mono e)) (W7.add hp) (e1.trans e) q1.2⟩⟩
def qD(h:A3 X es t):E3 X (.List es pos) (UK t):=PE.mono (R0 h) λY H Q' zz=>x7 zz λU M Q hs hm ht k=>
 ⟨U,M,_,hs,hm,ht,λvs H1 ds M1 Yn W7 e1 q1=>⟨by rw[<-Yn.length];exact q1.1,λp hp=>by
  have e:qC X.K H1 (upd H1 p (.lst vs)):=.new hp;exact k _ _ _ _ .ref (W7.new (c:=.lst ds) hp ⟨_,pR,Yn.mono e⟩) (e1.trans e) (q1.2 p (W7.fresh hp))⟩⟩
def uj(t u:xj):xj:=λD U M=>t {D with nx:=u D} U M
def WG:xj:=λD U M=>D.nx U M
def pB:G' X [] WG:=Bx.mono OP λD' Y H zz=>JR zz λU M D hs hm ht k1 k2 k3 k4=>k1 Y H U M hs hm .refl Z' ht
def oR{st:xz}{rest:T0 xz}(h1:S3 X st t)(h2:G' X rest u):G' X (st::rest) (uj t u):=Bx.mono (L1 h1 h2) λD' Y H zz=>JR zz λU M D hs hm ht k1 k2 k3 k4=>
 ⟨U,M,{D with nx:=u D},hs,hm,ht,λσ1 H1 δ1 M1 ZT W7 e1 l1 q1=>⟨δ1,M1,D,ZT,W7,q1,λσ' H' δ' M' x1 x2 x3 x4 x5=>k1 σ' H' δ' M' x1 x2 (e1.trans x3) (x4.trans l1) x5,λv H' d M' x1 x2 x3 x4=>k2 v H' d M' x1 x2 (e1.trans x3) x4,λσ' H' δ' M' x1 x2 x3 x4 x5=>k3 σ' H' δ' M' x1 x2 (e1.trans x3) (x4.trans l1) x5,λσ' H' δ' M' x1 x2 x3 x4 x5=>k4 σ' H' δ' M' x1 x2 (e1.trans x3) (x4.trans l1) x5⟩,k2,k3,k4⟩
def oS{st:xz}(h1:S3 X st t):G' X [st] t:=Bx.mono (Iv h1) λD' Y H h=>h
def Uw(te:T3):xj:=λD U M=>te U M λ_ M1=>D.nx U M1
def pD(he:E3 X e te)(YA:wv e Fa pos.line X.env=pure pc:=by rfl):S3 X (.Expr e pos) (Uw te):=PS.mono (OC he YA) λD' Y H zz=>JR zz λU M D hs hm ht k1 k2 k3 k4=>⟨U,M,_,hs,hm,ht,λv H1 d M1 hd W7 e1 q1=>k1 Y H1 U M1 (hs.mono e1) W7 e1 Z' q1⟩
def Rf(te:T3):xj:=λD U M=>te U M D.rt
def oY(he:E3 X e te):S3 X (.Return (ga e) pos) (Rf te):=PS.mono (RJ he) λD' Y H zz=>JR zz λU M D hs hm ht k1 k2 k3 k4=>⟨U,M,_,hs,hm,ht,λv H1 d M1 hd W7 e1 q1=>k2 v H1 d M1 hd W7 e1 q1⟩
def Sl(c:Am)(t u:xj):xj:=λD U M=>c U M λb M1=>if b=Db then t D U M1 else u D U M1
def pH{tc:Am}(hc:B3 X c tc)(ha:G' X as t)(hb:G' X bs u):S3 X (.If c as bs pos) (Sl tc t u):=PS.mono (U6 hc ha hb) λD' Y H zz=>JR zz λU M D hs hm ht k1 k2 k3 k4=>
 ⟨U,M,_,hs,hm,ht,λb H1 M1 W7 e1 q1=>by
  have up:∀t:xj,t D U M1->Vk X.K t D' Y H1:=λt q=>⟨U,M1,D,hs.mono e1,W7,q,λσ' H' δ' M' x1 x2 x3 x4 x5=>k1 σ' H' δ' M' x1 x2 (e1.trans x3) x4 x5,λv H' d M' x1 x2 x3 x4=>k2 v H' d M' x1 x2 (e1.trans x3) x4,λσ' H' δ' M' x1 x2 x3 x4 x5=>k3 σ' H' δ' M' x1 x2 (e1.trans x3) x4 x5,λσ' H' δ' M' x1 x2 x3 x4 x5=>k4 σ' H' δ' M' x1 x2 (e1.trans x3) x4 x5⟩
  cases b with
  | true=>exact(cX Z').mpr (up t ((cX Z').mp q1))
  | false=>exact(cW dv).mpr (up u ((cW dv).mp q1))⟩
def Sn:xj:=λ_ _ _=>False
def GC{st:xz}:S3 X st Sn:=PS.mono My λD' Y H ⟨U,M,D,hs,hm,ht,_⟩=>ht
abbrev D7:=D->uV->Mp->(uV->Mp->Prop)->Prop
def Vh(K:qk)(g:D7):TG:=λv Y H Q'=>BK λd U M Q=>rJ K H d v/\zP K H Y U/\HM K H M/\g d U M Q/\∀σ' H' δ' M',zP K H' σ' δ'->HM K H' M'->qC K H H'->σ'.length=Y.length->Q δ' M'->Q' σ' H'
def G3(X:Cx)(e:Tl)(g:D7):Prop:=PG X e (Vh X.K g)
def PG.nA{t t':TG}(h:PG X e t)(m:∀v Y H Q,Y.length=X.N.length->t' v Y H Q->t v Y H Q):PG X e t':=λW5 s Y H v u Q I r q=>h W5 s Y H v u Q I r (m v Y H Q I.len q)
def qV(i:Nat):D7:=λd U M Q=>Q (U.set i (ga d)) M
def IQ{i:Nat}{x:Str}(hN:X.N.Nodup)(hi:X.N[i]?=ga x)(hx:KO X.env.scope x)(hf:KP X x:=by first|exact .inl Z'|exact .inr Z'|assumption):G3 X (.Name x pos) (qV i):=
 PG.nA (OU hN hi hx hf) λv Y H Q' hl ⟨d,U,M,Q,hd,hs,hm,ht,k⟩=>k _ H _ M (hs.set hd (by rw[hl];exact(cV.mp hi).1)) hm .refl (by simp) ht
abbrev Gn:=T0 D->uV->Mp->(uV->Mp->Prop)->Prop
def VO(K:qk)(g:Gn):Qn:=λvs Y H Q'=>BK λds U M Q=>pY K H ds vs/\zP K H Y U/\HM K H M/\g ds U M Q/\∀σ' H' δ' M',zP K H' σ' δ'->HM K H' M'->qC K H H'->σ'.length=Y.length->Q δ' M'->Q' σ' H'
def Vo(X:Cx)(es:T0 Tl)(g:Gn):Prop:=NT X es (VO X.K g)
def NT.mono{t t':Qn}(h:NT X e t)(m:∀v Y H Q,t' v Y H Q->t v Y H Q):NT X e t':=λW5 s Y H v u Q I r q=>h W5 s Y H v u Q I r (m v Y H Q q)
def PG.mono{t t':TG}(h:PG X e t)(m:∀v Y H Q,t' v Y H Q->t v Y H Q):PG X e t':=λW5 s Y H v u Q I r q=>h W5 s Y H v u Q I r (m v Y H Q q)
def Cj:Gn:=λds U M Q=>match ds with|[]=>Q U M|_=>False
def xA(t:D7)(u:Gn):Gn:=λds U M Q=>match ds with|d::r=>t d U M λδ' M'=>u r δ' M' Q|[]=>False
def sP:Vo X [] Cj:=NT.mono OW λvs Y H Q' ⟨ds,U,M,Q,hd,hs,hm,ht,k⟩=>by
 cases ds with
 | nil=>exact⟨hd.nil_inv,k Y H U M hs hm .refl Z' ht⟩
 | cons _ _=>exact ht.elim
def qg(h1:G3 X e t)(h2:Vo X es u)(hs:(xL (e::es) X.env).map (·.2)=assign e X.env::(xL es X.env).map (·.2):=by rfl):Vo X (e::es) (xA t u):=
 NT.mono (MR h1 h2 hs) λvs Y H Q' ⟨ds,U,M,Q,hd,hs,hm,ht,k⟩=>by
 cases ds with
 | nil=>exact ht.elim
 | cons d r=>obtain⟨x,xr,rfl,hx,hr⟩:=hd.inv;exact⟨x,xr,Z',d,U,M,_,hx,hs,hm,ht,λσ1 H1 δ1 M1 ZT W7 e1 l1 q1=>⟨r,δ1,M1,Q,hr.mono e1,ZT,W7,q1,λσ' H' δ' M' x1 x2 x3 x4 x5=>k σ' H' δ' M' x1 x2 (e1.trans x3) (x4.trans l1) x5⟩⟩
def QB(n:Nat)(t:Gn):D7:=λd U M Q=>match d with|.tup ds=>ds.length=n/\t ds U M Q|_=>False
def ua{n:Nat}(hc:X.calm=Db)(h:Vo X es t)(hn:(xL es X.env).length=n:=by rfl)(Xr:(xL es X.env).findIdx? (·.1)=Fa:=by rfl):G3 X (.Tuple es k pos) (QB n t):=
 PG.mono (Rv hc h hn Xr) λv Y H Q' ⟨d,U,M,Q,hd,hs,hm,ht,k⟩=>by
 cases d with
 | tup ds=>obtain⟨a,xs,rfl,h1,h2⟩:=hd.mB;exact⟨a,xs,Z',h1,by rw[<-h2.length];exact ht.1,ds,U,M,Q,h2,hs,hm,ht.2,k⟩
 | _=>exact ht.elim
def Ep(te:T3)(g:D7):xj:=λD U M=>te U M λx M1=>g x U M1 D.nx
def Rg(he:E3 X e te)(hg:G3 X tg g)(hs:swapsWithSole [tg] e pos.line X.env=pure pc:=by rfl)(hw:swappedStores [tg] e X.env=pure Fa:=by rfl)
  (h1:(xL [tg] X.env).map (·.2)=[assign tg X.env]:=by rfl):S3 X (.Assign [tg] e pos) (Ep te g):=PS.mono (RH he hg hs hw h1) λD' Y H zz=>JR zz λU M D hs hm ht k1 k2 k3 k4=>
 ⟨U,M,_,hs,hm,ht,λv H1 d M1 hd W7 e1 q1=>⟨d,U,M1,_,hd,hs.mono e1,W7,q1,λσ' H' δ' M' x1 x2 x3 x4 x5=>k1 σ' H' δ' M' x1 x2 (e1.trans x3) x4 x5⟩⟩
def S6{i:Nat}{x:Str}(hN:X.N.Nodup)(hi:X.N[i]?=ga x)(hx:KO X.env.scope x)(he:E3 X e te)(YA:wv e (ga (.Name x Xd)) pos.line X.env=pure pc:=by rfl)
  (hf:KP X x:=by first|exact .inl Z'|exact .inr Z'|assumption):S3 X (.Assign [.Name x Xd] e pos) (Ep te (qV i)):=PS.nA (RQ hN hi hx he YA hf) λD' Y H hl zz=>JR zz λU M D hs hm ht k1 k2 k3 k4=>
 ⟨U,M,_,hs,hm,ht,λv H1 d M1 hd W7 e1 q1=>k1 _ H1 _ M1 ((hs.mono e1).set hd (by rw[hl];exact(cV.mp hi).1)) W7 e1 (by simp) q1⟩
end
abbrev qY:=T0 D->Mp->DK->Prop
def NU(K:qk)(sp:qY):Sp:=λvs H Q' _=>DM λds M Q=>pY K H ds vs/\HM K H M/\sp ds M Q/\Up K H Q' Q
noncomputable def wA(N:QQQ)(ds:T0 D):uV:=ds.map ga++List.replicate (N.length - ds.length) Fa
def DQ{K:qk}(h:pY K H ds vs):zP K H (L2.start N vs) (wA N ds):=λi d q=>by
 unfold wA at q;unfold L2.start;by_cases hi:i<ds.length
 .rw[eF (by simpa using hi),dq]at q;cases e:ds[i]? with
  | none=>rw[e]at q;cases q
  | some d'=>rw[e]at q;cases q;obtain⟨v,e1,e2⟩:=h.get e;refine⟨v,?_,e2⟩;rw[eF (by rw[cR,<-h.length];exact hi),dq,e1];rfl
 .rw[eP (by simpa using hi),jG]at q;split at q<;>cases q
variable {P:Pg}{w:Wo}{mg:QQZ}{base:Go}
abbrev To(P:Pg)(w:Wo)(K:qk)(mg:QQZ)(base:Go)(k:Nat)(f:lf)(fd:Rs)(ps:QQQ)(sp:qY):Prop:=xl P w K mg base NV k f fd ps (NU K sp)
variable {k:Nat}{f C:lf}{fd:Rs}{ps:QQQ}{sp:qY}{x m fn:Str}{p W8:Pos}{e o:Tl}{es:T0 Tl}{t:wI}
def DB(sp:qY)(t:wI):T3:=λU M Q=>t U M λds M1=>sp ds M1 Q
def P9(F:To X.prog X.w X.K X.mg X.base k f fd ps sp)(hr:rO k X.A)(hg:Gl X x)(hm:X.mg x=ga (.ref f))(hk:W.keepIn X.K (.ref f)=Db)(hb:ul X.K fd ps [])(ha:A3 X (e::es) t) (Xm:zu x:=by decide) (he:AE X e es:=by rfl) (Xj:Ce X pos es:=by rfl):
  E3 X (.Call (.Name x p) (e::es) [] pos) (DB sp t):=PE.mono (Jl F hr hg hm hk hb .nil (G6 (X:=X)) ha Xm he Xj) λY H Q' zz=>x7 zz λU M Q hs hm ht k=>
 ⟨U,M,_,hs,hm,ht,λvs H1 ds M1 hd W7 e1 q1=>⟨ds,M1,Q,by rw[eD];exact hd,W7,q1,u9 e1 k⟩⟩
def C3(X:Cx)(f:Vl)(r:qY):Prop:=xp X f λvs H Q'=>∃ds M Q,pY X.K H ds vs/\HM X.K H M/\r ds M Q/\Up X.K H Q' Q
def pG{id:String}(hc:C3 X (.builtin id) r)(hg:Gl X x)(hm:X.mg x=Fa)(hv:zn x=ga (.builtin id))(ha:A3 X (e::es) t)(hn:x≠"__name__":=by decide)(Xm:zu x:=by decide)
  (he:AE X e es:=by rfl) (Xj:Ce X pos es:=by rfl):E3 X (.Call (.Name x p) (e::es) [] pos) (DB r t):=
 PE.mono (ND hc hg hm hv ha hn Xm he Xj) λY H Q' zz=>x7 zz λU M Q hs hm ht k=>⟨U,M,_,hs,hm,ht,λvs H1 ds M1 hd W7 e1 q1=>⟨ds,M1,Q,hd,W7,q1,u9 e1 k⟩⟩
def qa{T:String}(hc:C3 X (.type T) r)(hg:Gl X x)(hm:X.mg x=Fa)(hv:zn x=ga (.type T))(ha:A3 X (e::es) t)(hn:x≠"__name__":=by decide)(Xm:zu x:=by decide)
  (he:AE X e es:=by rfl) (Xj:Ce X pos es:=by rfl):E3 X (.Call (.Name x p) (e::es) [] pos) (DB r t):=
 PE.mono (Ka hc hg hm hv ha hn Xm he Xj) λY H Q' zz=>x7 zz λU M Q hs hm ht k=>⟨U,M,_,hs,hm,ht,λvs H1 ds M1 hd W7 e1 q1=>⟨ds,M1,Q,hd,W7,q1,u9 e1 k⟩⟩
def UC(ds:T0 D)(M:Mp)(Q:DK):Prop:=match ds with
 | [.str z]=>z.length<=Uf/\Q (.int z.length) M
 | [.tup es]=>Q (.int es.length) M
 | [.ref a]=>(nU M a).elim False λes=>Q (.int es.length) M
 | [.rl es]=>Q (.int es.length) M
 | _=>False
def rD{K:qk}{d:D}(h:pY K H [d] vs):∃v,vs=[v]/\rJ K H d v:=by obtain⟨x,r,rfl,a,b⟩:=h.inv;rw[b.nil_inv];exact⟨x,Z',a⟩
def Bc{K:qk}{d e:D}(h:pY K H [d,e] vs):∃v u,vs=[v,u]/\rJ K H d v/\rJ K H e u:=by obtain⟨x,r,rfl,a,b⟩:=h.inv;obtain⟨y,rfl,c⟩:=rD b;exact⟨x,y,Z',a,c⟩
def qb:C3 X (.builtin "len") UC:=by
 intro W5 s Y H vs us Q' I rv h;obtain⟨ds,M,Q,hd,hm,q,k⟩:=h;unfold UC at q;split at q
 .obtain⟨v,rfl,hv⟩:=rD hd;cases hv.str_inv;exact Fv W5 s Y H _ us Q' I rv ⟨_,Z',q.1,k _ _ _ _ .int hm .refl q.2⟩
 .obtain⟨v,rfl,hv⟩:=rD hd;obtain⟨a,xs,rfl,h1,h2⟩:=hv.mB;exact wQ W5 s Y H _ us Q' I rv ⟨a,xs,Z',.inr h1,k _ _ _ _ (by rw[<-h2.length];exact .int) hm .refl q⟩
 .obtain⟨v,rfl,hv⟩:=rD hd;obtain⟨es,e0,q⟩:=qI q;cases hv.mj;obtain⟨xs,h1,h2,_⟩:=pQ hm e0;exact wQ W5 s Y H _ us Q' I rv ⟨_,xs,Z',.inl h1,k _ _ _ _ (by rw[<-h2.length];exact .int) hm .refl q⟩
 .obtain⟨v,rfl,hv⟩:=rD hd;obtain⟨a,xs,rfl,h1,h2⟩:=hv.mL;exact wQ W5 s Y H _ us Q' I rv ⟨a,xs,Z',.inl h1.sq,k _ _ _ _ (by rw[<-h2.length];exact .int) hm .refl q⟩
 .exact q.elim
def UR(ds:T0 D)(M:Mp)(Q:DK):Prop:=match ds with
 | [.int i,.int j]=>Q (.int (if j<i then j else i)) M
 | _=>False
def MU(hc:X.calm=Db):C3 X (.builtin "min") UR:=by
 intro W5 s Y H vs us Q' I rv h;obtain⟨ds,M,Q,hd,hm,q,k⟩:=h;unfold UR at q;split at q
 .obtain⟨v,u,rfl,hv,hw⟩:=Bc hd;cases hv.int_inv;cases hw.int_inv;exact Kx hc W5 s Y H _ us Q' I rv ⟨_,_,Z',k _ _ _ _ .int hm .refl q⟩
 .exact q.elim
def Me(ds:T0 D)(M:Mp)(Q:DK):Prop:=match ds with
 | [.tup es]=>Q (.tup es) M
 | [.ref a]=>(nU M a).elim False λes=>Q (.tup es) M
 | [.rl es]=>Q (.tup es) M
 | _=>False
def uD:C3 X (.type "tuple") Me:=by
 intro W5 s Y H vs us Q' I rv h;obtain⟨ds,M,Q,hd,hm,q,k⟩:=h;unfold Me at q;split at q
 .obtain⟨v,rfl,hv⟩:=rD hd;obtain⟨a,xs,rfl,h1,h2⟩:=id hv.mB;exact vP W5 s Y H _ us Q' I rv ⟨a,xs,Z',.inr ⟨h1,k _ _ _ _ hv hm .refl q⟩⟩
 .obtain⟨v,rfl,hv⟩:=rD hd;obtain⟨es,e0,q⟩:=qI q;cases hv.mj;obtain⟨xs,h1,h2,_⟩:=pQ hm e0;refine vP W5 s Y H _ us Q' I rv ⟨_,xs,Z',.inl ⟨h1,λl hl=>?_⟩⟩;have e:qC X.K H (upd H l (.tup xs)):=.new hl;exact k _ _ _ _ (.tup (.of pR) (h2.mono e)) (hm.add hl) e q
 .obtain⟨v,rfl,hv⟩:=rD hd;obtain⟨a,xs,rfl,h1,h2⟩:=hv.mL;refine vP W5 s Y H _ us Q' I rv ⟨_,xs,Z',.inl ⟨h1.sq,λl hl=>?_⟩⟩;have e:qC X.K H (upd H l (.tup xs)):=.new hl;exact k _ _ _ _ (.tup (.of pR) (h2.mono e)) (hm.add hl) e q
 .exact q.elim
def QW(ds:T0 D)(M:Mp)(Q:DK):Prop:=match ds with
 | [d]=>(Ln M d).elim False λes=>∀p,M p=Fa->Q (.ref p) (o9 M p (.lst es))
 | _=>False
def sf:C3 X (.type "list") QW:=by
 intro W5 s Y H vs us Q' I rv h;obtain⟨ds,M,Q,hd,hm,q,k⟩:=h;unfold QW at q;split at q
 .obtain⟨v,rfl,hv⟩:=rD hd;obtain⟨es,e0,q⟩:=qI q;obtain⟨p,xs,rfl,h1,h2⟩:=Ez hm hv e0;refine FF W5 s Y H _ us Q' I rv ⟨p,xs,Z',h1,λl hl=>?_⟩;have e:qC X.K H (upd H l (.lst xs)):=.new hl;exact k _ _ _ _ .ref (hm.new (c:=.lst es) hl ⟨_,pR,h2.mono e⟩) e (q l (hm.fresh hl))
 .exact q.elim
theorem ww{K:qk}{f:Str}:∀{fs:T0 (Str×D)} {vs:T0 (Str×V)},CB K H fs vs->(∀d,fs.lookup f=ga d->∃v,vs.lookup f=ga v/\rJ K H d v)/\(fs.lookup f=Fa->vs.lookup f=Fa)
 | [],[],_=>⟨λd e=>by simp at e,λ_=>rfl⟩
 | [],_::_,h=>by have:=h.1;simp at this
 | _::_,[],h=>by have:=h.1;simp at this
 | (g,d)::fs,(g',v)::vs,h=>by
  have h1:g'=g/\vs.map (·.1)=fs.map (·.1):=by
   have:=h.1
   simpa using this
  obtain⟨x,r,e,a,b⟩:=h.2.inv;have e':v::vs.map (·.2)=x::r:=e;cases e';obtain⟨i1,i2⟩:=ww (f:=f) (fs:=fs) (vs:=vs) ⟨h1.2,b⟩;rw[h1.1];refine⟨λd' e=>?_,λe=>?_⟩
  .rw[eI]at e ⊢;cases q:f==g with
   | true=>rw[q]at e;cases e;exact⟨v,Z',a⟩
   | false=>rw[q]at e;exact i1 d' e
  .rw[eI]at e ⊢;cases q:f==g with
   | true=>rw[q]at e;cases e
   | false=>rw[q]at e;exact i2 e
theorem Ju{f:Str}{d:D}:∀{fs:T0 (Str×D)},fs.lookup f=ga d->f∈fs.map (·.1)
 | [],h=>by simp at h
 | (g,e)::r,h=>by
  rw[eI]at h;cases q:f==g with
  | true=>
   have z:f=g:=by simpa using q
   rw[z,dW];exact dD
  | false=>rw[q]at h;simp[Ju h]
def Af(o:Option uQ)(F:lf->T0 (Str×D)->Prop):Prop:=match o with
 | some (.ins C fs)=>F C fs
 | _=>False
def oU{o:Option uQ}{F:lf->T0 (Str×D)->Prop}{C:lf}{fs:T0 (Str×D)}(e:o=ga (.ins C fs))(h:F C fs):Af o F:=by rw[e];exact h
def xH{o:Option uQ}(h:Af o F):∃C fs,o=ga (.ins C fs)/\F C fs:=by
 unfold Af at h;split at h
 .exact⟨_,_,Z',h⟩
 .exact h.elim
def VW(f:Str)(ta:T3):T3:=λU M Q=>ta U M λx M1=>match x with
 | .ref a=>Af (M1 a) λ_ fs=>(fs.lookup f).elim False λd=>Q d M1
 | _=>False
def oZ{f:Str}(he:E3 X o ta)(hb:wE o f X.env (No o X.env)=No o X.env:=by rfl):E3 X (.Attribute o f pos) (VW f ta):=PE.mono (SM he hb) λY H Q' zz=>x7 zz λU M Q hs hm ht k=>
 ⟨U,M,_,hs,hm,ht,λv H1 d M1 hd W7 e1 q1=>by
  cases d with
  | ref a=>cases hd.mj;obtain⟨C,fs,e,q1⟩:=xH q1;obtain⟨d,e2,q⟩:=qI q1;obtain⟨dx,vs,h1,cl,na,fo⟩:=W7 a _ e;obtain⟨v,e3,hv⟩:=(ww fo).1 d e2;exact⟨a,C,dx,vs,v,Z',h1,cl,na f (Ju e2),e3,k v H1 d M1 hv W7 e1 q⟩
  | _=>exact q1.elim⟩
noncomputable def vK(f:Str)(v:D):T0 (Str×D)->T0 (Str×D)
 | []=>[(f,v)]
 | (g,u)::r=>if g=f then(g,v)::r else(g,u)::vK f v r
theorem Er{K:qk}{f:Str}(hv:rJ K H d v):∀{fs:T0 (Str×D)} {vs:T0 (Str×V)},CB K H fs vs->CB K H (vK f d fs) (vn f v vs)
 | [],[],_=>⟨Z',.cons hv .nil⟩
 | [],_::_,h=>by have:=h.1;simp at this
 | _::_,[],h=>by have:=h.1;simp at this
 | (g,e)::fs,(g',u)::vs,h=>by
  have h1:g'=g/\vs.map (·.1)=fs.map (·.1):=by
   have:=h.1
   simpa using this
  obtain⟨x,r,e1,a,b⟩:=h.2.inv;have e':u::vs.map (·.2)=x::r:=e1;cases e';obtain⟨hg,ht⟩:=h1;subst hg;rw[show vK f d ((g',e)::fs)=(if g'=f then(g',d)::fs else(g',e)::vK f d fs)from Z',show vn f v ((g',u)::vs)=(if g'=f then(g',v)::vs else(g',u)::vn f v vs)from Z'];by_cases q:g'=f
  .rw[cX q,cX q];exact⟨by simpa using ht,.cons hv b⟩
  .rw[cW q,cW q];obtain⟨i1,i2⟩:=Er hv (fs:=fs) (vs:=vs) ⟨ht,b⟩;exact⟨by simpa using i1,.cons a i2⟩
theorem B0{f:Str}:∀{fs:T0 (Str×D)} {g:Str},g∈(vK f d fs).map (·.1)->g=f\/g∈fs.map (·.1)
 | [],g,h=>.inl (by simpa [vK]using h)
 | (k,e)::r,g,h=>by
  rw[show vK f d ((k,e)::r)=(if k=f then(k,d)::r else(k,e)::vK f d r)from Z']at h;by_cases q:k=f
  .rw[cX q]at h;exact .inr (by simpa using h)
  .rw[cW q]at h;rw[dW,dg]at h;rcases h with h|h
   .exact .inr (by simp[h])
   .rcases B0 h with z|z
    .exact .inl z
    .exact .inr (by simp;right;simpa using z)
def U4(K:qk)(f:Str)(ta tv:T3):xj:=λD U M=>tv U M λy M1=>ta U M1 λx M2=>match x with
 | .ref a=>Af (M2 a) λC fs=>tP K C f/\fs.length<1000/\D.nx U (o9 M2 a (.ins C (vK f y fs)))
 | _=>False
def pU{f:Str}(ha:E3 X o ta)(hv:E3 X value tv)(YA:wv value (ga (.Attribute o f Xd)) pos.line X.env=pure pc:=by rfl):S3 X (.Assign [.Attribute o f Xd] value pos) (U4 X.K f ta tv):=
 PS.mono (RD ha hv YA) λD' Y H zz=>JR zz λU M D hs hm ht k1 k2 k3 k4=>
 ⟨U,M,_,hs,hm,ht,λy H1 dy M1 hy W7 e1 q1=>⟨U,M1,_,hs.mono e1,W7,q1,λv H2 d M2 hd Xk e2 q2=>by
  cases d with
  | ref a=>
   cases hd.mj;obtain⟨C,fs,e,q2⟩:=xH q2;obtain⟨na,hl,q⟩:=q2;obtain⟨dx,vs,h1,cl,nn,fo⟩:=Xk a _ e;have Xa:vs.length=fs.length:=by have:=eC List.length fo.1;simpa using this
   refine⟨a,C,dx,vs,Z',h1,cl,na,by lia,?_⟩;obtain⟨Xz,e3⟩:=Xk.put (p:=a) (o:=.ins C dx (vn f y vs)) (c:=.ins C (vK f dy fs)) e λx=>⟨dx,_,pR,cl,λg hg=>by
    rcases B0 hg with z|z
    .rw[z];exact na
    .exact nn g z,Er ((hy.mono e2).mono x) (fo.mono x)⟩
   exact k1 Y _ U _ (hs.mono (e1.trans (e2.trans e3))) Xz (e1.trans (e2.trans e3)) Z' q
  | _=>exact q2.elim⟩⟩
def QD(C:lf)(sp:qY)(t:wI):T3:=λU M Q=>t U M λds M1=>∀x,M1 x=Fa->sp (.ref x::ds) (o9 M1 x (.ins C [])) λd M2=>d=.mx/\Q (.ref x) M2
def NG{K:qk}{xa dx:lf}(hm:HM K H M)(cl:Cls K C)(h1:H xa=Fa)(h2:H dx=Fa)(ne:dx≠xa):HM K (upd (upd H dx (.own xa)) xa (.ins C dx [])) (o9 M xa (.ins C []))/\qC K H (upd (upd H dx (.own xa)) xa (.ins C dx [])):=by
 have XQ:upd H dx (.own xa) xa=Fa:=by rw[pN (dQ ne)];exact h1
 exact⟨(hm.add (p:=dx) (o:=.own xa) h2).new XQ ⟨dx,[],pR,cl,λg hg=>by simp at hg,Z',.nil⟩,qC.trans (.new h2) (.new XQ)⟩
def N8(cl:Cls X.K C)(Mk':Mk X.K C f)(F:To X.prog X.w X.K X.mg X.base k f fd ps sp)(hr:rO (k+1) X.A)(hg:Gl X x)(hm:X.mg x=ga (.ref C))(hb:ul X.K fd ps [])(ha:A3 X (e::es) t) (Xm:zu x:=by decide) (he:AE X e es:=by rfl) (Xj:Ce X pos es:=by rfl):
  E3 X (.Call (.Name x p) (e::es) [] pos) (QD C sp t):=PE.mono (OR Mk' F hr hg hm hb .nil (G6 (X:=X)) ha Xm he Xj) λY H Q' zz=>x7 zz λU M Q hs hm ht k=>
 ⟨U,M,_,hs,hm,ht,λvs H1 ds M1 hd W7 e1 q1=>λxa dx n1 n2 ne=>by
  obtain⟨Xk,e2⟩:=NG W7 cl n1 n2 ne;refine⟨.ref xa::ds,_,_,?_,Xk,q1 xa (W7.fresh n1),λv H3 d M3 hd3 Xz e3 q3=>?_⟩
  .rw[eD];exact .cons .ref (hd.mono e2)
  .obtain⟨z,q3⟩:=q3;subst z;exact⟨hd3.mw,k _ H3 _ M3 .ref Xz (e1.trans (e2.trans e3)) q3⟩⟩
def HZ(m:Str)(R:lf->Sp->Prop)(ta:TE)(t:TA):TE:=λY H Q=>ta Y H λx H1=>∃a C dx fs sp,x=.ref a/\H1 a=ga (.ins C dx fs)/\fs.lookup m=Fa/\R C sp/\t Y H1 λvs H2=>sp (x::vs) H2 Q E0
def xu(P:Pg)(w:Wo)(K:qk)(mg:QQZ)(base:Go)(k:Nat)(m:Str)(C:lf)(sp:Sp):Prop:=Cls K C/\∃f fd ps,vm K C m f/\xl P w K mg base NV k f fd ps sp/\ul K fd ps []
def Lj{R:lf->Sp->Prop}{ta:TE}{t:TA}{pl:Sem Bool}(he:PE X o ta)(hR:∀C sp,R C sp->xu X.prog X.w X.K X.mg X.base k m C sp)(hr:rO k X.A)(ha:PA X (e::es) t) (Xr:AE X e es:=by rfl) (Xj:Ce X pos es:=by rfl)
  (ht:No (.Call (.Attribute o m W8) (e::es) [] pos) X.env=(do
   let ov<-No o X.env
   u8 W8.atName
   let(f,first)<-Ix [ov] (XV ov m pl)
   Y' pos f first (At pos (Tk (e::es) X.env)) (dL pos (Op [] X.env))):=by rfl):
  PE X (.Call (.Attribute o m W8) (e::es) [] pos) (HZ m R ta t):=by
 intro W5 s Y H Q I h;refine jO (pl:=pl) (rY (he W5 s Y H _ I h) λu s1 zz=>?_) ht;obtain⟨x,H1,I1,rx,a,C,dx,fs,sp,ex,ea,l,hRC,q⟩:=zz;obtain⟨c,f,fd,ps,hm,F,hb⟩:=hR C sp hRC;subst ex;obtain rfl:u=Value.ref a:=rx;refine BQ I1 ea c hm l ?_;refine iK (first:=[.ref a]) (h₀:=X.base) I.ok.mod.nQ hm.kp (rY (ha pos W5 s1 Y H1 _ I1 q) λus s2 zz=>x5 zz λvs H2 I2 r q2=>⟨I2.m7,?_⟩) Xr Xj;exact EF (us:=.ref a::us) (vs:=.ref a::vs) F hr hb .nil (G6 (X:=X)) I2 (.cons Z' r) (by rw[eD];exact q2)
def JX{R:lf->Sp->Prop}{ta:TE}{pl:Sem Bool}(he:PE X o ta)(hR:∀C sp,R C sp->xu X.prog X.w X.K X.mg X.base k m C sp)(hr:rO k X.A) (ht:No (.Call (.Attribute o m W8) [] [] pos) X.env=(do
   let ov<-No o X.env
   u8 W8.atName
   let(f,first)<-Ix [ov] (XV ov m pl)
   Y' pos f first (At pos (Tk [] X.env)) (dL pos (Op [] X.env))):=by rfl):
  PE X (.Call (.Attribute o m W8) [] [] pos) (HZ m R ta US):=by
 intro W5 s Y H Q I h;refine jO (pl:=pl) (rY (he W5 s Y H _ I h) λu s1 zz=>?_) ht;obtain⟨x,H1,I1,rx,a,C,dx,fs,sp,ex,ea,l,hRC,q⟩:=zz;obtain⟨c,f,fd,ps,hm,F,hb⟩:=hR C sp hRC;subst ex;obtain rfl:u=Value.ref a:=rx;refine BQ I1 ea c hm l ?_;exact W.callWith_K0 (first:=[.ref a]) I1.m7 hm.kp (EF (us:=[.ref a]) (vs:=[.ref a]) F hr hb .nil (G6 (X:=X)) I1 (.cons Z' .nil) (by rw[eD];exact q))
def Aw(m:Str)(R:lf->qY->Prop)(ta:T3)(t:wI):T3:=λU M Q=>ta U M λx M1=>match x with
 | .ref a=>Af (M1 a) λC fs=>fs.lookup m=Fa/\∃sp,R C sp/\t U M1 λds M2=>sp (x::ds) M2 Q
 | _=>False
def VV(K:qk)(R:lf->qY->Prop):lf->Sp->Prop:=λC sp'=>∃sp,R C sp/\sp'=NU K sp
def I9:∀Y H Q',lo X.K (Aw m R ta t) Y H Q'->HZ m (VV X.K R) (lo X.K ta) (WB X.K t) Y H Q':=λY H Q' zz=>x7 zz λU M Q hs hm ht k=>
 ⟨U,M,_,hs,hm,ht,λv H1 d M1 hd W7 e1 q1=>by
  cases d with
  | ref a=>cases hd.mj;obtain⟨C,fs,e,q1⟩:=xH q1;obtain⟨hn,sp,hR,q⟩:=q1;obtain⟨dx,vs,h1,cl,na,fo⟩:=W7 a _ e;exact⟨a,C,dx,vs,_,Z',h1,(ww fo).2 hn,⟨sp,hR,Z'⟩,U,M1,_,hs.mono e1,W7,q,λus H2 ds M2 Yn Xk e2 q2=>⟨.ref a::ds,M2,Q,.cons .ref Yn,Xk,q2,u9 (e1.trans e2) k⟩⟩
  | _=>exact q1.elim⟩
def FG{R:lf->qY->Prop}{pl:Sem Bool}(he:E3 X o ta)(hR:∀C sp,R C sp->xu X.prog X.w X.K X.mg X.base k m C (NU X.K sp))(hr:rO k X.A)(ha:A3 X (e::es) t) (Xr:AE X e es:=by rfl) (Xj:Ce X pos es:=by rfl)
  (ht:No (.Call (.Attribute o m W8) (e::es) [] pos) X.env=(do
   let ov<-No o X.env
   u8 W8.atName
   let(f,first)<-Ix [ov] (XV ov m pl)
   Y' pos f first (At pos (Tk (e::es) X.env)) (dL pos (Op [] X.env))):=by rfl):
  E3 X (.Call (.Attribute o m W8) (e::es) [] pos) (Aw m R ta t):=PE.mono (Lj (R:=VV X.K R) he (λC sp' ⟨sp,h,z⟩=>by rw[z];exact hR C sp h) hr ha Xr Xj ht) I9
def Cf{R:lf->qY->Prop}{pl:Sem Bool}(he:E3 X o ta)(hR:∀C sp,R C sp->xu X.prog X.w X.K X.mg X.base k m C (NU X.K sp))(hr:rO k X.A) (ht:No (.Call (.Attribute o m W8) [] [] pos) X.env=(do
   let ov<-No o X.env
   u8 W8.atName
   let(f,first)<-Ix [ov] (XV ov m pl)
   Y' pos f first (At pos (Tk [] X.env)) (dL pos (Op [] X.env))):=by rfl):
  E3 X (.Call (.Attribute o m W8) [] [] pos) (Aw m R ta xK):=PE.mono (JX (R:=VV X.K R) he (λC sp' ⟨sp,h,z⟩=>by rw[z];exact hR C sp h) hr ht) λY H Q' h=>by
 obtain⟨U,M,Q,hs,hm,ht,k⟩:=I9 (t:=xK) Y H Q' h;refine⟨U,M,Q,hs,hm,ht,λv H' d M' x1 x2 x3 x4=>?_⟩;obtain⟨a,C,dx,fs,sp,e1,e2,e3,e4,δ',W9,Q'',y1,y2,y3,y4⟩:=k v H' d M' x1 x2 x3 x4;exact⟨a,C,dx,fs,sp,e1,e2,e3,e4,y4 [] H' [] W9 .nil y2 .refl y3⟩
structure El(K:qk)(H1:Hp)(J:It)(ds:List D)(ok:Mp->Prop):Prop where
 go:∀i H M,i<ds.length->HM K H M->ok M->qC K H1 H->J.go i H
 oq:∀i d H M x H',ds[i]?=ga d->HM K H M->ok M->qC K H1 H->J.oq i H x H'->rJ K H' d x/\HM K H' M/\qC K H H'
 stop:∀H M,HM K H M->ok M->qC K H1 H->J.stop ds.length H
abbrev MY:=uV->Mp->(T0 D->(Mp->Prop)->Mp->Prop)->Prop
def Wv(K:qk)(wi:MY):TI:=λY H R'=>DM λU M R=>zP K H Y U/\HM K H M/\wi U M R/\∀J H1 ds ok M1,El K H1 J ds ok->HM K H1 M1->qC K H H1->ok M1->R ds ok M1->R' J H1
def I3(X:Cx)(tg iter:Tl)(wi:MY):Prop:=PI X tg iter (Wv X.K wi)
def PI.mono{t t':TI}(h:PI X tg e t)(m:∀Y H Q,t' Y H Q->t Y H Q):PI X tg e t':=λW5 s Y H Q I q=>h W5 s Y H Q I (m Y H Q q)
variable {H1:Hp}
def KW:El K H1 (Vm K a) ds (λM=>nU M a=ga ds) where
 go:=λi H M hi hm ok _=>by obtain⟨xs,h1,h2,_⟩:=pQ hm ok;obtain⟨x,e,_⟩:=h2.get (cT hi);exact⟨xs,x,h1,e⟩
 oq:=λi d H M x H' hd hm ok _ y=>by obtain⟨xs,h1,h2,_⟩:=pQ hm ok;obtain⟨e,y⟩:=y;subst e;obtain⟨x',e,hx⟩:=h2.get hd;have:=y xs h1;rw[e]at this;cases this;exact⟨hx,hm,.refl⟩
 stop:=λH M hm ok _=>by obtain⟨xs,h1,h2,_⟩:=pQ hm ok;exact⟨xs,h1,by rw[h2.length];exact cZ _⟩
def Pz(h1:vk K H1 a xs)(h2:pY K H1 ds xs):El K H1 (VU K a) ds (λ_=>True) where
 go:=λi H M hi hm ok e1=>by obtain⟨x,e,_⟩:=h2.get (cT hi);exact⟨xs,x,e1.t _ _ h1,e⟩
 oq:=λi d H M x H' hd hm ok e1 y=>by obtain⟨e,y⟩:=y;subst e;obtain⟨x',e,hx⟩:=h2.get hd;have:=y xs (e1.t _ _ h1);rw[e]at this;cases this;exact⟨hx.mono e1,hm,.refl⟩
 stop:=λH M hm ok e1=>⟨xs,e1.t _ _ h1,by rw[h2.length];exact cZ _⟩
def Rq(h1:Ql K H1 a xs)(h2:pY K H1 ds xs):El K H1 (Vm K a) ds (λ_=>True) where
 go:=λi H M hi hm ok e1=>by obtain⟨x,e,_⟩:=h2.get (cT hi);exact⟨xs,x,(h1.mono e1).sq,e⟩
 oq:=λi d H M x H' hd hm ok e1 y=>by obtain⟨e,y⟩:=y;subst e;obtain⟨x',e,hx⟩:=h2.get hd;have:=y xs (h1.mono e1).sq;rw[e]at this;cases this;exact⟨hx.mono e1,hm,.refl⟩
 stop:=λH M hm ok e1=>⟨xs,(h1.mono e1).sq,by rw[h2.length];exact cZ _⟩
def DS{lo:Int}:El K H1 (Ua lo n) ((List.range n).map λi=>D.int (lo+(i:Nat))) (λ_=>True) where
 go:=λi H M hi hm ok e1=>by
  have z:i<n:=by simpa using hi
  exact z
 oq:=λi d H M x H' hd hm ok e1 y=>by
  obtain⟨e,y⟩:=y;subst e;subst y;have hi:i<n:=by
   have:=(cV.mp hd).1
   simpa using this
  have hd':d=D.int (lo+(i:Nat)):=by rw[dq,iS hi]at hd;exact(de hd).symm
  subst hd';exact⟨.int,hm,.refl⟩
 stop:=λH M hm ok e1=>by show n<=_;simp
variable {scope:Z8}{ix:T0 (Option Nat)}{N':QQQ}{iter X3:Tl}{XD:T0 Tl}{wi:MY}{g:D7}{tt:Am}{te:T3}{tg:Tl}
def TV(t:T3):MY:=λU M R=>t U M λx M1=>match x with
 | .tup ds=>R ds (λ_=>True) M1
 | .ref a=>(nU M1 a).elim False λds=>R ds (λM=>nU M a=ga ds) M1
 | .rl ds=>R ds (λ_=>True) M1
 | .str z=>R (z.cps.toList.map λc=>D.str ⟨#[c]⟩) (λ_=>True) M1
 | _=>False
def Px{K:qk}:El K H1 (Wf z) (z.cps.toList.map λc=>D.str ⟨#[c]⟩) (λ_=>True) where
 go:=λi H M hi hm ok _=>by
  show i<z.cps.size
  simpa using hi
 oq:=λi d H M x H' hd hm ok _ y=>by obtain⟨e,c,e1,e2⟩:=y;subst e e2;rw[dq,Array.getElem?_toList,e1]at hd;cases hd;exact⟨.str,hm,.refl⟩
 stop:=λH M hm ok _=>by show _=z.cps.size;simp
def qy{t:T3}(h:E3 X l t)(hc:X.calm=Db:=by rfl):I3 X tg l (TV t):=PI.mono (P6 hc h) λY H R' zz=>x7 zz λU M R hs hm ht k=>
 ⟨U,M,_,hs,hm,ht,λv H1 d M1 hd W7 e1 q1=>by
  cases d with
  | tup ds=>obtain⟨a,xs,rfl,h1,h2⟩:=hd.mB;exact .inl ⟨a,Z',.inr ⟨⟨xs,h1⟩,k _ H1 ds _ M1 (Pz h1 h2) W7 e1 trivial q1⟩⟩
  | ref a=>cases hd.mj;obtain⟨ds,e0,q⟩:=qI q1;obtain⟨xs,h1,h2,_⟩:=pQ W7 e0;exact .inl ⟨a,Z',.inl ⟨⟨xs,h1⟩,k _ H1 ds _ M1 KW W7 e1 e0 q⟩⟩
  | str z=>exact .inr ⟨z,hd.str_inv,k _ H1 _ _ M1 Px W7 e1 trivial q1⟩
  | rl ds=>obtain⟨a,xs,rfl,h1,h2⟩:=hd.mL;exact .inl ⟨a,Z',.inl ⟨⟨xs,h1.sq⟩,k _ H1 ds _ M1 (Rq h1 h2) W7 e1 trivial q1⟩⟩
  | _=>exact q1.elim⟩
def QL(t:wI):MY:=λU M R=>t U M λds M1=>match ds with
 | [.int j]=>(-(2 ^ 62)<=j/\j<2 ^ 62)/\R ((List.range j.toNat).map λi=>D.int (0+(i:Nat))) (λ_=>True) M1
 | [.int i,.int j]=>(-(2 ^ 62)<=i/\i<2 ^ 62/\-(2 ^ 62)<=j/\j<2 ^ 62)/\R ((List.range (j - i).toNat).map λn=>D.int (i+(n:Nat))) (λ_=>True) M1
 | _=>False
def ut{a:Tl}{ta:wI}(hg:Gl X "range")(hm:X.mg "range"=Fa)(ha:A3 X [a] ta)(hs:Tk [a] X.env=[(pc,No a X.env)]:=by rfl):I3 X tg (.Call (.Name "range" p) [a] [] pos) (QL λU M Q=>ta U M λds M1=>ds.length=1/\Q ds M1):=
 PI.mono (Ki hg hm ha hs) λY H R' zz=>x7 zz λU M R hs hm ht k=>⟨U,M,_,hs,hm,ht,λvs H1 ds M1 hd W7 e1 q1=>by
  obtain⟨hl,q1⟩:=q1;split at q1
  .obtain⟨v,rfl,hv⟩:=rD hd;cases hv.int_inv;exact⟨_,Z',q1.1.1,q1.1.2,k _ H1 _ _ M1 DS W7 e1 trivial q1.2⟩
  .simp at hl
  .exact q1.elim⟩
def Kc{a b:Tl}{ta:wI}(hg:Gl X "range")(hm:X.mg "range"=Fa)(ha:A3 X [a,b] ta)(hs:Tk [a,b] X.env=[(pc,No a X.env),(pc,No b X.env)]:=by rfl)(XM:Tk [b] X.env=[(pc,No b X.env)]:=by rfl):
  I3 X tg (.Call (.Name "range" p) [a,b] [] pos) (QL λU M Q=>ta U M λds M1=>ds.length=2/\Q ds M1):=
 PI.mono (Kr hg hm ha hs XM) λY H R' zz=>x7 zz λU M R hs hm ht k=>⟨U,M,_,hs,hm,ht,λvs H1 ds M1 hd W7 e1 q1=>by
  obtain⟨hl,q1⟩:=q1;split at q1
  .simp at hl
  .obtain⟨v,u,rfl,hv,hw⟩:=Bc hd;cases hv.int_inv;cases hw.int_inv;exact⟨_,_,Z',q1.1,k _ H1 _ _ M1 DS W7 e1 trivial q1.2⟩
  .exact q1.elim⟩
def Fe(g:D7)(tb:xj)(ok:Mp->Prop)(E:GO):T0 D->uV->Mp->Prop
 | [],U,M=>E.nx U M
 | d::r,U,M=>g d U M λδ2 M2=>tb {E with nx:=λδ' M'=>ok M'/\Fe g tb ok E r δ' M',ct:=λδ' M'=>ok M'/\Fe g tb ok E r δ' M',bk:=E.nx} δ2 M2
def TQ(wi:MY)(g:D7)(tb:xj):xj:=λE U M=>wi U M λds ok M1=>Fe g tb ok E ds U M1
def uh{tb:xj}(hp:PassesOwn (pi X.prog X.w) X.A X.env X.xe)(hc:X.calm=Db)(hi:I3 X tg iter wi)(hg:G3 X tg g)(hb:G' X body tb) (hs:∀x,AT iter X.env x=pure x:=by intro _;rfl):S3 X (.For tg iter body [] pos) (TQ wi g tb):=PS.mono (Rm hp hc hi hg hb hs) λD' Y H zz=>JR zz λU M E hs hm ht k1 k2 k3 k4=>
 ⟨U,M,_,hs,hm,ht,λJ H1 ds ok M1 S W7 e1 ok1 q1=>by
  refine⟨λi m σ' H'=>m=ds.length - i/\i<=ds.length/\∃δ' M',zP X.K H' σ' δ'/\HM X.K H' M'/\ok M'/\qC X.K H1 H'/\σ'.length=Y.length/\Fe g tb ok E (ds.drop i) δ' M',⟨ds.length,by simp,eK _,U,M1,hs.mono e1,W7,ok1,.refl,Z',by simpa using q1⟩,?_⟩
  rintro i m σ' H' ⟨rfl,hi,δ',M',Zx,YC,ZU,e',l',q'⟩
  by_cases Xl:i<ds.length
  .rw[il Xl]at q';refine .inr ⟨S.go i H' M' Xl YC ZU e',λσ2 H2=>∃δ2 M2,zP X.K H2 σ2 δ2/\HM X.K H2 M2/\ok M2/\qC X.K H1 H2/\σ2.length=Y.length/\Fe g tb ok E (ds.drop (i+1)) δ2 M2,λσ2 H2 z=>⟨ds.length - (i+1),by lia,Z',Xl,z⟩,λx H2 y=>?_⟩;obtain⟨hx,Xk,e2⟩:=S.oq i ds[i] H' M' x H2 (cT Xl) YC ZU e' y;refine⟨ds[i],δ',M',_,hx,Zx.mono e2,Xk,q',λσ3 H3 δ3 M3 x1 x2 x3 x4 x5=>?_⟩;refine⟨δ3,M3,_,x1,x2,x5,λσ4 H4 δ4 M4 y1 y2 y3 y4 y5=>?_,λv H4 d M4 y1 y2 y3 y4=>?_,λσ4 H4 δ4 M4 y1 y2 y3 y4 y5=>?_,λσ4 H4 δ4 M4 y1 y2 y3 y4 y5=>?_⟩
   .exact⟨δ4,M4,y1,y2,y5.1,e'.trans (e2.trans (x3.trans y3)),by rw[y4,x4,l'],y5.2⟩
   .exact k2 v H4 d M4 y1 y2 (e1.trans (e'.trans (e2.trans (x3.trans y3)))) y4
   .exact k1 σ4 H4 δ4 M4 y1 y2 (e1.trans (e'.trans (e2.trans (x3.trans y3)))) (by rw[y4,x4,l']) y5
   .exact⟨δ4,M4,y1,y2,y5.1,e'.trans (e2.trans (x3.trans y3)),by rw[y4,x4,l'],y5.2⟩
  .have e:i=ds.length:=by lia
   subst e;rw[jA]at q';exact .inl ⟨S.stop H' M' YC ZU e',k1 σ' H' δ' M' Zx YC (e1.trans e') l' q'⟩⟩
noncomputable def OA(ix:T0 (Option Nat))(U:uV):uV:=ix.map λo=>o.bind λi=>(U[i]?).join
def OJ{K:qk}(h:zP K H Y U):zP K H (Qs ix Y) (OA ix U):=λi d q=>by
 unfold OA at q;unfold Qs;rw[dq]at q ⊢;cases e:ix[i]? with
 | none=>rw[e]at q;cases q
 | some o=>
  rw[e]at q;cases o with
  | none=>cases q
  | some j=>
   have q':(U[j]?).join=ga d:=de q;have e4:U[j]?=ga (ga d):=by
    cases r:U[j]? with
    | none=>rw[r]at q';cases q'
    | some w=>rw[r]at q';exact eC ga q'
   obtain⟨v,e5,hv⟩:=h j d e4;refine⟨v,?_,hv⟩;show ga ((Y[j]?).join)=ga (ga v);rw[e5];rfl
def uL(g:D7)(tt:Am)(te:T3)(ok:Mp->Prop)(Q:DK):T0 D->T0 D->uV->Mp->Prop
 | [],acc,_,M=>acc.length<=Uf/\∀p,M p=Fa->Q (.ref p) (o9 M p (.lst acc))
 | d::r,acc,U,M=>acc.length<Uf/\g d U M λδ2 M2=>tt δ2 M2 λb M3=>if b=Db then te δ2 M3 λy M4=>ok M4/\uL g tt te ok Q r (acc++[y]) δ2 M4 else ok M3/\uL g tt te ok Q r acc δ2 M3
def NK(ix:T0 (Option Nat))(wi:MY)(g:D7)(tt:Am)(te:T3):T3:=λU M Q=>wi U M λds ok M1=>uL g tt te ok Q ds [] (OA ix U) M1
def F3(X:Cx)(XD:T0 Tl)(t:Am):Prop:=PF X XD (Th X.K t)
def PF.mono{e:T0 Tl}{t t':TT}(h:PF X e t)(m:∀Y H Q,t' Y H Q->t Y H Q):PF X e t':=λW5 s Y H Q I q=>h W5 s Y H Q I (m Y H Q q)
def Br:Am:=λ_ M Q=>Q Db M
def rk:F3 X [] Br:=PF.mono RF λY H Q' zz=>x7 zz λU M Q hs hm ht k=>k Db H M hm .refl ht
def uW{t:Am}(h:B3 X c t):F3 X [c] t:=S0 h
def Jf:∀Y H Q',lo X.K (NK ix wi g tt te) Y H Q'->NJ ix (Wv X.K wi) (Vh X.K g) (Th X.K tt) (lo X.K te) Y H Q':=λY H Q' zz=>x7 zz λU M Q hs hm ht k=>
 ⟨U,M,_,hs,hm,ht,λJ H1 ds ok M1 S W7 e1 ok1 q1=>by
  refine⟨λi m ys σ' H'=>m=ds.length - i/\i<=ds.length/\∃δ' M' acc,zP X.K H' σ' δ'/\HM X.K H' M'/\pY X.K H' acc ys/\ok M'/\qC X.K H1 H'/\uL g tt te ok Q (ds.drop i) acc δ' M',⟨ds.length,by simp,eK _,OA ix U,M1,[],OJ (hs.mono e1),W7,.nil,ok1,.refl,by simpa using q1⟩,?_⟩
  rintro i m ys σ' H' ⟨rfl,hi,δ',M',acc,Zx,YC,YI,ZU,e',q'⟩
  by_cases Xl:i<ds.length
  .rw[il Xl]at q';obtain⟨hz,q'⟩:=q';refine .inr ⟨S.go i H' M' Xl YC ZU e',by rw[<-YI.length];exact hz,λx H2 y=>?_⟩;obtain⟨hx,Xk,e2⟩:=S.oq i ds[i] H' M' x H2 (cT Xl) YC ZU e' y;refine⟨ds[i],δ',M',_,hx,Zx.mono e2,Xk,q',λσ3 H3 δ3 M3 x1 x2 x3 x4 x5=>?_⟩;refine⟨δ3,M3,_,x1,x2,x5,λb H4 M4 y2 y3 y5=>?_⟩;cases b with
   | true=>rw[cX Z']at y5 ⊢;refine⟨δ3,M4,_,x1.mono y3,y2,y5,λv H5 d M5 z1 z2 z3 z4=>⟨ds.length - (i+1),by lia,Z',Xl,δ3,M5,acc++[d],x1.mono (y3.trans z3),z2,(YI.mono (e2.trans (x3.trans (y3.trans z3)))).snoc z1,z4.1,e'.trans (e2.trans (x3.trans (y3.trans z3))),z4.2⟩⟩
   | false=>rw[cW dv]at y5 ⊢;exact⟨ds.length - (i+1),by lia,Z',Xl,δ3,M4,acc,x1.mono y3,y2,YI.mono (e2.trans (x3.trans y3)),y5.1,e'.trans (e2.trans (x3.trans y3)),y5.2⟩
  .have e:i=ds.length:=by lia
   subst e;rw[jA]at q';refine .inl ⟨S.stop H' M' YC ZU e',by rw[<-YI.length];exact q'.1,λp hp=>?_⟩;have e5:qC X.K H' (upd H' p (.lst ys)):=.new hp;exact k _ _ _ _ .ref (YC.new (c:=.lst acc) hp ⟨_,pR,YI.mono e5⟩) (e1.trans (e'.trans e5)) (q'.2 p (YC.fresh hp))⟩
def qv(hc:X.calm=Db)(S:rT X scope ix N')(hi:I3 X tg iter wi)(hg:∀{C s0 H0 ex},G3 (X.comp scope N' C s0 H0 ex) tg g)(ht:∀{C s0 H0 ex},F3 (X.comp scope N' C s0 H0 ex) XD tt)(he:∀{C s0 H0 ex},E3 (X.comp scope N' C s0 H0 ex) X3 te) (hs:∀x,AT iter X.env x=pure x:=by intro _;rfl):E3 X (.ListComp X3 [⟨tg,iter,XD,0⟩] scope pos) (NK ix wi g tt te):=PE.mono (OS (g:=Vh X.K g) (tt:=Th X.K tt) (te:=lo X.K te) hc S hi (λ_ _ _ _=>hg) (λ_ _ _ _=>ht) (λ_ _ _ _=>he) hs) Jf
def sY{i:Nat}{x:Str}{px YS:Pos}(hN:X.N.Nodup)(ZP:X.N[i]?=ga x)(hx:KO X.env.scope x)(hc:X.calm=Db)(S:rT X scope ix N')(hi:I3 X tg iter wi)(hg:∀{C s0 H0 ex},G3 (X.comp scope N' C s0 H0 ex) tg g)(ht:∀{C s0 H0 ex},F3 (X.comp scope N' C s0 H0 ex) XD tt) (he:∀{C s0 H0 ex},E3 (X.comp scope N' C s0 H0 ex) X3 te) (YA:wv (.ListComp X3 [⟨tg,iter,XD,0⟩] scope pos) (ga (.Name x px)) YS.line X.env=pure Db:=by rfl)
  (hf:KP X x:=by first|exact .inl Z'|exact .inr Z'|assumption) (hs:∀x,AT iter X.env x=pure x:=by intro _;rfl):
  S3 X (.Assign [.Name x px] (.ListComp X3 [⟨tg,iter,XD,0⟩] scope pos) YS) (Ep (NK ix wi g tt te) (qV i)):=PS.nA (Il (g:=Vh X.K g) (tt:=Th X.K tt) (te:=lo X.K te) hN ZP hx hc S hi (λ_ _ _ _=>hg) (λ_ _ _ _=>ht) (λ_ _ _ _=>he) YA hf hs) λD' Y H hl zz=>JR zz λU M D hs hm ht k1 k2 k3 k4=>
 Jf Y H _ ⟨U,M,_,hs,hm,ht,λv H1 d M1 hd W7 e1 q1=>k1 _ H1 _ M1 ((hs.mono e1).set hd (by rw[hl];exact(cV.mp ZP).1)) W7 e1 (by simp) q1⟩
def WC(hr:rO k A):A.units+9<IN:=by have:=hr.units;lia
noncomputable def Hu(sc:Z8)(N:QQQ)(scope:Z8)(ix:T0 (Option Nat))(N':QQQ):Bool:=
 (scope.kind==.function)&&(scope.names.all λy=>!(y.2==.cell))&&(scope.names.all λy=>!(y.2==.local)||(scope.names.lookup y.1==ga .local))&&
 (scope.names.all λy=>!(y.2==.free)||(sc.names.lookup y.1==ga .cell)||(sc.names.lookup y.1==ga .free))&&(ix.length==N'.length)&&
 ((ix.zip N').all λp=>match p.1 with|none=>Db|some i=>(N[i]?==ga p.2)&&(scope.names.lookup p.2==ga .free))
def U'{X:Cx}(h:Hu X.env.scope X.N scope ix N'=Db):rT X scope ix N':=by
 unfold Hu at h;simp only[dR]at h;obtain⟨⟨⟨⟨⟨h1,h2⟩,h3⟩,h4⟩,h5⟩,h6⟩:=h;refine⟨by simpa using h1,λy hy e=>?_,λy hy e=>?_,λy hy e=>?_,by simpa using h5,λj i x e1 e2=>?_⟩
 .have:=eS.mp h2 y hy;rw[e]at this;simp at this
 .have:=eS.mp h3 y hy;rw[e]at this
  simpa using this
 .have:=eS.mp h4 y hy;rw[e]at this
  simpa using this
 .have hm:(ga i,x)∈ix.zip N':=by
   have:(ix.zip N')[j]?=ga (ga i,x):=by rw[List.getElem?_zip_eq_some];exact⟨e1,e2⟩
   exact eZ this
  have:=eS.mp h6 _ hm
  simpa using this
section
variable {a b:Tl}
def Jg(op X1:CmpOp)(ta tb tc:T3):T3:=λU M Q=>ta U M λx M1=>tb U M1 λy M2=>Qv op x y M2 λz M3=>match z with
 | .bl k=>if k=Db then tc U M3 λw M4=>Qv X1 y w M4 Q else Q (.bl pc) M3
 | _=>False
def tV{op X1:CmpOp}(hu:X.A.units+9<IN)(ha:E3 X a ta)(hb:E3 X b tb)(hc:E3 X c tc)(hmk:lastMarks [op,X1] [b,c]=pc:=by rfl):
  E3 X (.Compare a [op,X1] [b,c] pos) (Jg op X1 ta tb tc):=PE.mono (Nl (JU op hu) (JU X1 hu) ha hb hc hmk) λY H Q' zz=>x7 zz λU M Q hs hm ht k=>
 ⟨U,M,_,hs,hm,ht,λv H1 x M1 hx W7 e1 q1=>⟨U,M1,_,hs.mono e1,W7,q1,λu H2 y M2 hy Xk e2 q2=>⟨x,y,M2,_,hx.mono e2,hy,Xk,q2,λw H3 z M3 hz Xz e3 q3=>by
  cases z with
  | bl c=>
   refine⟨c,hz.mq,?_⟩;cases c with
   | true=>refine(cX Z').mpr ⟨U,M3,_,hs.mono (e1.trans (e2.trans e3)),Xz,(cX Z').mp q3,λw' H4 d M4 hd ZV e4 q4=>⟨y,d,M4,Q,hy.mono (e3.trans e4),hd,ZV,q4,u9 (e1.trans (e2.trans (e3.trans e4))) k⟩⟩
   | false=>exact(cW dv).mpr (k _ H3 _ M3 .bl Xz (e1.trans (e2.trans e3)) ((cW dv).mp q3))
  | _=>exact q3.elim⟩⟩⟩
def Co{op X1:CmpOp}(hu:X.A.units+9<IN)(ha:E3 X a ta)(hb:E3 X b tb)(hc:E3 X c tc)(hmk:lastMarks [op,X1] [b,c]=pc:=by rfl):
  B3 X (.Compare a [op,X1] [b,c] pos) (b3 (Jg op X1 ta tb tc)):=PT.mono (Mm (JU op hu) (JU X1 hu) ha hb hc hmk) λY H Q' zz=>x7 zz λU M Q hs hm ht k=>
 ⟨U,M,_,hs,hm,ht,λv H1 x M1 hx W7 e1 q1=>⟨U,M1,_,hs.mono e1,W7,q1,λu H2 y M2 hy Xk e2 q2=>⟨x,y,M2,_,hx.mono e2,hy,Xk,q2,λw H3 z M3 hz Xz e3 q3=>by
  cases z with
  | bl c=>
   refine⟨c,hz.mq,?_⟩;cases c with
   | true=>
    refine(cX Z').mpr ⟨U,M3,_,hs.mono (e1.trans (e2.trans e3)),Xz,(cX Z').mp q3,λw' H4 d M4 hd ZV e4 q4=>⟨y,d,M4,_,hy.mono (e3.trans e4),hd,ZV,q4,λw5 H5 d5 M5 hd5 hm5 e5 q5=>?_⟩⟩;cases d5 with
    | bl c5=>exact⟨c5,hd5.mq,k c5 H5 M5 hm5 (e1.trans (e2.trans (e3.trans (e4.trans e5)))) q5⟩
    | _=>exact q5.elim
   | false=>exact(cW dv).mpr ⟨pc,Z',k pc H3 M3 Xz (e1.trans (e2.trans e3)) ((cW dv).mp q3)⟩
  | _=>exact q3.elim⟩⟩⟩
noncomputable def GE:T0 D->Option (T0 Bool)
 | []=>ga []
 | .bl b::r=>(GE r).map (b::·)
 | _::_=>Fa
theorem E9{K:qk}:∀{ds:T0 D} {bs:T0 Bool} {xs:T0 V} {us:T0 Vl},GE ds=ga bs->pY K H ds xs->qo xs us->us=bs.map Value.bool
 | [],bs,xs,us,e,h,r=>by cases e;have:=h.nil_inv;subst this;cases r;rfl
 | d::ds,bs,xs,us,e,h,r=>by
  cases d with
  | bl b=>
   obtain⟨y,ys,rfl,h1,h2⟩:=h.inv;cases h1.mq;unfold GE at e;cases q:GE ds with
   | none=>rw[q]at e;cases e
   | some cs=>
    rw[q]at e;cases e;cases r with
    | cons r1 r2=>cases r1;rw[E9 q h2 r2];rfl
  | _=>cases e
def UT(ds:T0 D)(M:Mp)(Q:DK):Prop:=match ds with
 | [.ref a]=>(nU M a).elim False λes=>(GE es).elim False λbs=>Q (.bl (bs.all id)) M
 | _=>False
def FC(hc:X.calm=Db):C3 X (.builtin "all") UT:=by
 intro W5 s Y H vs us Q' I rv h;obtain⟨ds,M,Q,hd,hm,q,k⟩:=h;unfold UT at q;split at q
 .rename_i a;obtain⟨v,rfl,hv⟩:=rD hd;obtain⟨es,e0,q⟩:=qI q;obtain⟨bs,e1,q⟩:=qI q;cases hv.mj;obtain⟨u,rfl,ru⟩:=vV rv;cases ru;obtain⟨xs,h1,h2,_⟩:=pQ hm e0;obtain⟨its,r,pl,hz⟩:=I.list h1;have ZW:=E9 e1 h2 r;subst ZW;have Xt:a≠s.heap.objs.size:=by obtain⟨o,_,e,_⟩:=pl;exact dO (dA e)
  refine call_all_walk (gZ pl.isList ?_);refine⟨s.heap.objs.size,_,_,_,_,_,λi=>(bs[i]?).getD Db,Z',j8 (A:=X.A.in1) (I.ok.hd hc) _ a Xt (bs.map Value.bool).toArray,⟨⟨_,dG _ Z',Z',Z'⟩,?_⟩,λi v s' Q E hP hQ=>?_,λh' tk hk=>?_⟩
  .obtain⟨o,n,e,c,d,q⟩:=pl;exact⟨o,cY _ e,c,n,q⟩
  .simp only[iH,dq]at hP;cases e2:bs[i]? with
   | none=>rw[e2]at hP;cases hP
   | some b=>rw[e2]at hP;cases hP;have hQ:Q ((bs[i]?).getD Db) s':=hQ;rw[e2]at hQ;exact eX hQ
  .have ea:(List.range (bs.map Value.bool).toArray.size).all (λi=>(bs[i]?).getD Db)=bs.all id:=by
    rw[dh,cR];rw[gj,eS,eS];constructor
    .intro z b hb;obtain⟨i,hi,e⟩:=gR hb;have:=z i (gc.mpr hi);rw[cT hi,e]at this;exact this
    .intro z i hi;have Y5:=gc.mp hi;rw[cT Y5];exact z _ (ia Y5)
   rw[ea];refine⟨.bl (bs.all id),H,?_,Z',k _ _ _ _ .bl hm .refl q⟩;exact I.kept (h':=h') (t':=tk) λb o e=>hk b o (by simpa using dO (dA e)) (cY _ e)
 .exact q.elim
noncomputable def AD(x:D):T0 D->Option Nat
 | []=>Fa
 | d::r=>if P4 d x=Db then ga 0 else(AD x r).map (·+1)
theorem IP{K:qk}{e:D}{w:V}(g:rJ K H e w)(fe:uJ e=Db):∀{ds:T0 D} {xs:T0 V} {us:T0 Vl} {j:Nat},pY K H ds xs->qo xs us->ds.all uJ=Db->AD e ds=ga j->
  ∃h:j<us.length,Eo w us[j]=Db/\∀m (hm:m<us.length),m<j->Eo w us[m]=pc
 | [],_,_,_,_,_,_,q=>by cases q
 | d::ds,_,us,j,h,r,fl,q=>by
  obtain⟨y,ys,rfl,h1,h2⟩:=h.inv;rw[gm,dR]at fl;cases r with
  | @cons _ u _ us' r1 r2=>
   have eu:Eo w u=P4 d e:=by rw[Hv r1 (yY h1 fl.1),I0 h1 g fl.1 fe]
   unfold AD at q;by_cases hq:P4 d e=Db
   .rw[cX hq]at q;cases q;exact⟨by simp,by simpa [eu]using hq,λm _ hm=>absurd hm (Nat.not_lt_zero m)⟩
   .rw[cW hq]at q;cases q2:AD e ds with
    | none=>rw[q2]at q;cases q
    | some j'=>
     rw[q2]at q;cases q;obtain⟨hl,e1,e2⟩:=IP g fe h2 r2 fl.2 q2;refine⟨by simpa using hl,by simpa using e1,λm hm Xl=>?_⟩;cases m with
     | zero=>simpa [eu]using hq
     | succ m=>simpa using e2 m (by simpa using hm) (by have z:m+1<j'+1:=Xl;lia)
def RM(x:D)(ds:T0 D)(M:Mp)(Q:DK):Prop:=match x,ds with
 | .ref a,[y]=>(nU M a).elim False λes=>uJ y=Db/\es.all uJ=Db/\(AD y es).elim False λj=>Q (.int (j:Nat)) M
 | _,_=>False
def M3(X:Cx)(id:String)(r:D->T0 D->Mp->DK->Prop):Prop:=WL X id λvx vs H Q'=>∃x ds M Q,rJ X.K H x vx/\pY X.K H ds vs/\HM X.K H M/\r x ds M Q/\Up X.K H Q' Q
def MD:M3 X "list.index" RM:=by
 intro W5 s Y H vx vs v us Q' I rx rv h;obtain⟨x,ds,M,Q,hx,hd,hm,q,k⟩:=h;unfold RM at q;split at q
 .rename_i a y;obtain⟨es,e0,f1,f2,q⟩:=qI q;obtain⟨j,e1,q⟩:=qI q;cases hx.mj;cases rx;obtain⟨w,rfl,hw⟩:=rD hd;obtain⟨u,rfl,ru⟩:=vV rv;obtain⟨xs,h1,h2,rd⟩:=pQ hm e0;obtain⟨hz,its,n,r,g⟩:=rd.ok I.mD;obtain⟨hl,p1,p2⟩:=IP hw f1 h2 r f2 e1;have hlz:its.length<=Uf:=by rw[<-r.length];exact hz
  have h63:=yH;refine jn F.slot_list_index ⟨_,g,Z'⟩ F.entry_list_index (F.args_list_index_2 _ _) (SeqAt.list_indexAt a its.toArray n Fa #[] u (Eo w) j (by simpa using hl) (by lia) (by simpa using p1) λm hm Xl=>by simpa using p2 m (by simpa using hm) Xl) ⟨g,?_,?_⟩
  .intro z hz';exact vT ru (yY hw f1) r (EV h2 f2) z (by simpa using hz')
  .exact⟨.int (j:Nat),H,I.tok _,⟨_,Z'⟩,k _ _ _ _ .int hm .refl q⟩
 .exact q.elim
def QK(M:Mp):D->Prop
 | .ref a=>(nU M a).isSome=Db
 | _=>False
def VX(r:D->T0 D->Mp->DK->Prop)(to:T3)(t:wI):T3:=λU M Q=>to U M λx M1=>QK M1 x/\t U M1 λds M2=>r x ds M2 Q
def Ro{K:qk}{x:D}(hm:HM K H M)(h:rJ K H x v)(l:QK M x):VC K "list" v H:=by
 cases x with
 | ref a=>cases h.mj;obtain⟨ds,e⟩:=io.mp (show(nU M a).isSome=Db from l);obtain⟨xs,h1,_⟩:=pQ hm e;exact .inl ⟨Z',xs,h1⟩
 | _=>exact l.elim
def QT{id:String}(slot:Slot "list" name id)(hty:typeOf (.builtin id)=pure (.type "method_descriptor"))(hm:M3 X id r)(ho:E3 X o ta)(ha:A3 X (e::es) t) (Xq:wE o name X.env (No o X.env)=No o X.env:=by rfl)
  (Yo:((At pos (Tk (e::es) X.env)).all (λx=>!x.1)&&(dL pos (Op [] X.env)).all (λx=>x.1.isSome)
   &&decide ((e::es).length+([]:T0 Z9).length+(if ([]:T0 Z9).isEmpty then 0 else 1)<30))=Db:=by rfl)
  (XB:(W8.endLine==pos.line)=Db:=by rfl) (hs:AE X e es:=by rfl) (Xn:Ce X pos es:=by rfl):
  E3 X (.Call (.Attribute o name W8) (e::es) [] pos) (VX r ta t):=PE.mono (Tv PySem.F.plainAttrs_list slot hty hm ho ha Xq Yo XB hs Xn) λY H Q' zz=>x7 zz λU M Q hs hm ht k=>
 ⟨U,M,_,hs,hm,ht,λv H1 x M1 hx W7 e1 q1=>⟨Ro W7 hx q1.1,U,M1,_,hs.mono e1,W7,q1.2,λvs H2 ds M2 Yn Xk e2 q2=>⟨x,ds,M2,Q,hx.mono e2,Yn,Xk,q2,u9 (e1.trans e2) k⟩⟩⟩
def xw(ho:E3 X o ta)(ha:A3 X (e::es) t) (Xq:wE o "index" X.env (No o X.env)=No o X.env:=by rfl)
  (Yo:((At pos (Tk (e::es) X.env)).all (λx=>!x.1)&&(dL pos (Op [] X.env)).all (λx=>x.1.isSome)
   &&decide ((e::es).length+([]:T0 Z9).length+(if ([]:T0 Z9).isEmpty then 0 else 1)<30))=Db:=by rfl)
  (XB:(W8.endLine==pos.line)=Db:=by rfl) (hs:AE X e es:=by rfl) (Xn:Ce X pos es:=by rfl):
  E3 X (.Call (.Attribute o "index" W8) (e::es) [] pos) (VX RM ta t):=QT PySem.F.slot_list_index PySem.F.type_list_index MD ho ha Xq Yo XB hs Xn
structure Md(K:qk)(C:lf)(m:Str)(f:lf):Prop where
 hg:W.specialIn K (.ref C) "__getattribute__"=ga (ga (.builtin "type.__getattribute__"))
 rd:W.readsIn K C (.type "type")=Db
 fc:W.findCls K (.ref C) (.type "type") m=ga (.val (.ref f))
def Pl{sp:Sp}{t:TA}{pl:Sem Bool}(cm:Md X.K C m f)(F:xl X.prog X.w X.K X.mg X.base NV k f fd ps sp)(hr:rO k X.A)(hg:Gl X x)(hm:X.mg x=ga (.ref C))(hk:W.keepIn X.K (.ref f)=Db)(hb:ul X.K fd ps [])(ha:PA X (e::es) t) (Xm:zu x:=by decide) (Xr:AE X e es:=by rfl) (Xj:Ce X pos es:=by rfl)
  (ht:No (.Call (.Attribute (.Name x p) m W8) (e::es) [] pos) X.env=(do
   let ov<-No (.Name x p) X.env
   u8 W8.atName
   let(f,first)<-Ix [ov] (XV ov m pl)
   Y' pos f first (At pos (Tk (e::es) X.env)) (dL pos (Op [] X.env))):=by rfl):
  PE X (.Call (.Attribute (.Name x p) m W8) (e::es) [] pos) (λY H Q=>t Y H λvs H1=>sp vs H1 Q E0):=by
 intro W5 s Y H Q I h;refine jO (pl:=pl) (wz I hg hm ?_ Xm) ht;refine W.method_cls I.m7 cm.hg (W.cls_value I.m7 cm.rd cm.fc Z' ?_);refine iK (first:=[]) (h₀:=X.base) I.ok.mod.nQ hk (rY (ha pos W5 _ Y H _ (I.tok _) h) λus s2 zz=>x5 zz λvs H2 I2 r q2=>⟨I2.m7,?_⟩) Xr Xj;exact EF F hr hb .nil (G6 (X:=X)) I2 r (by rw[eD];exact q2)
def Ot{pl:Sem Bool}(cm:Md X.K C m f)(F:To X.prog X.w X.K X.mg X.base k f fd ps sp)(hr:rO k X.A)(hg:Gl X x)(hm:X.mg x=ga (.ref C))(hk:W.keepIn X.K (.ref f)=Db)(hb:ul X.K fd ps [])(ha:A3 X (e::es) t) (Xm:zu x:=by decide) (Xr:AE X e es:=by rfl) (Xj:Ce X pos es:=by rfl)
  (ht:No (.Call (.Attribute (.Name x p) m W8) (e::es) [] pos) X.env=(do
   let ov<-No (.Name x p) X.env
   u8 W8.atName
   let(f,first)<-Ix [ov] (XV ov m pl)
   Y' pos f first (At pos (Tk (e::es) X.env)) (dL pos (Op [] X.env))):=by rfl):
  E3 X (.Call (.Attribute (.Name x p) m W8) (e::es) [] pos) (DB sp t):=PE.mono (Pl cm F hr hg hm hk hb ha Xm Xr Xj ht) λY H Q' zz=>x7 zz λU M Q hs hm ht k=>
 ⟨U,M,_,hs,hm,ht,λvs H1 ds M1 hd W7 e1 q1=>⟨ds,M1,Q,hd,W7,q1,u9 e1 k⟩⟩
def pZ:zn "len"=ga (.builtin "len"):=by decide+kernel
def Lv:zn "min"=ga (.builtin "min"):=by decide+kernel
def Fs:zn "all"=ga (.builtin "all"):=by decide+kernel
def uC:zn "tuple"=ga (.type "tuple"):=by decide+kernel
def sd:zn "list"=ga (.type "list"):=by decide+kernel
def Su:zn "int"=ga (.type "int"):=by decide+kernel
def EE:zn "dict"=ga (.type "dict"):=by decide+kernel
def E5:zn "enumerate"=ga (.type "enumerate"):=by decide+kernel
def KY:zn "zip"=ga (.type "zip"):=by decide+kernel
end
theorem _root_.L2.Inv.drawn{ch:QXQ}{T:lf}{xs:T0 V}{h':Go}{tk:Nat}(I:Inv X W5 Y H s)(X7:∀b∈ch,zC X W5 H b)(k:∀b o,b∉ch->s.heap.get? b=ga o->h'.get? b=ga o)(hT:s.heap.objs.size<=T)(hx:xs.length<=Uf) (rv:qo xs its) (ht:E1 h' T its.toArray):Inv X W5 Y (upd H T (.tup xs)) {s with heap:=h',toks:=tk}:=by
 have Zl:H T=Fa:=I.mD.fresh hT;have nT:∀b o,s.heap.get? b=ga o->b≠T:=λb o e=>dO (dJ (dA e) hT);refine I.step (g':=s.gens) (d':=s.drawn) (ch:=ch) (λb hb=>⟨(X7 b hb).2.2.2.1,(X7 b hb).2.1,(X7 b hb).2.2.2.2.1,(X7 b hb).2.2.2.2.2⟩) (λb o _ _ hc e _=>k b o hc e) (λb o _ _ hc e _=>⟨o.slots,k b o hc e⟩) (λb o _ e n=>by rw[pN (nT b o e)];exact n)
  (λb o hc e=>⟨o,k b o hc e⟩) (λb ys e=>by rw[pN (qE e Zl)];exact e) (λb o u e=>by rw[pN (qE e Zl)];exact e) (λb ps e=>⟨#[],by rw[pN (qE e Zl),e];simp⟩) (λm hm=>?_) (λb u e=>?_) I.bare
 .obtain⟨o,es,ep,ho,r⟩:=hm;exact⟨o,es,ep,k _ o (λz=>(X7 _ z).2.1 Z') ho,r⟩
 .by_cases hb:b=T
  .subst hb;rw[pR]at e;cases e;exact⟨hx,its,rv,ht⟩
  .rw[pN hb]at e;refine(I.mD b u e).m9 (λc v hc q=>k c v (λz=>?_) q) (λc q=>by rw[pN (qE q Zl)];exact q) (λc ys q=>by rw[pN (qE q Zl)];exact q);have n:=(X7 c z).1;rcases hc with y|y
   .rw[y,e]at n;cases n
   .rw[y]at n;cases n
noncomputable def Wk(K:qk)(a:lf):It:=
 ⟨λi H=>∃xs x,xk K H a xs/\xs[i]?=ga x,λi H x H'=>∃p y,x=.ref p/\H p=Fa/\H'=upd H p (.tup [.int (i:Nat),y])/\∀xs,xk K H a xs->xs[i]?=ga y,λi H=>∃xs,xk K H a xs/\xs.length<=i⟩
def JL{K:qk}(a e it:lf)(hei:e≠it):Gm P w K (.Tuple Xu n tp) (Wk K a) [e,it] e (λi h=>(∃XO,IsEnum h e it (i:Nat) XO)/\h.IsListIter it a i) where
 mem:=by simp
 obj:=λi h st b hb=>by
  obtain⟨⟨XO,he⟩,o,e1,c,d⟩:=st;rcases dg.mp hb with rfl|hb
  .exact⟨_,he,λv z=>by cases z⟩
  .rw[c9.mp hb];exact⟨o,e1,λv z=>by rw[d]at z;cases z⟩
 keep:=λi h h' st k=>by obtain⟨⟨XO,he⟩,hi⟩:=st;exact⟨⟨XO,k e (by simp) _ he⟩,hi.at λo q=>k it (by simp) o q⟩
 item:=by
  intro X hP hw hK hc i W5 s Y H E I hf st hg;subst hP hw hK;obtain⟨xs,x,hq,hx⟩:=hg;obtain⟨its,rv,p,hz⟩:=I.list hq;obtain⟨u,hu,ru⟩:=rv.get hx;obtain⟨⟨XO,he⟩,hi⟩:=st;refine wpAny_pyNext_enum_item he hi p.isList (x:=u) (by simpa using hu) hei λh1 ho Yh hT hsz hk=>?_;refine⟨_,Z',wpAny_letOwnedTupleGo_enum ho λh2 he2 XM=>?_⟩;have helt:e<s.heap.objs.size:=dA he;have hilt:it<s.heap.objs.size:=by obtain⟨o,q,_⟩:=hi;exact dA q
  have kk:∀b o,b∉[e,it]->s.heap.get? b=ga o->h2.get? b=ga o:=λb o hb q=>(XM.2 b λz=>hb (by simp[z])).trans (hk b o (λz=>hb (by simp[z])) (λz=>hb (by simp[z])) q);have hT2:h2.get? s.heap.objs.size=ga {cls:=.type "tuple",data:=.seq #[.int (i:Nat) s.toks,u]}:=(XM.2 _ (hJ helt)).trans hT;have Zl:H s.heap.objs.size=Fa:=I.mD.fresh (cZ _);have I2:=I.drawn (ch:=[e,it]) (T:=s.heap.objs.size) (xs:=[.int (i:Nat),x]) (its:=[.int (i:Nat) s.toks,u]) (h':=h2) (tk:=s.toks+1) hf kk (cZ _) (by show 2<=Uf;decide) (.cons ⟨_,Z'⟩ (.cons ru .nil)) ⟨_,hT2,Z',⟨_,Z'⟩,Z'⟩;refine⟨.ref s.heap.objs.size,_,I2,Z',⟨_,x,Z',Zl,Z',λys hy=>by rw[I.nk hy hq];exact hx⟩,⟨⟨_,by simpa using he2⟩,Yh.extBut XM.extBut (dQ hei)⟩,λb hb=>?_⟩;have X4:b<s.heap.objs.size:=by
   rcases dg.mp hb with z|z
   .rw[z];exact helt
   .rw[c9.mp z];exact hilt
  rw[pN (dO X4)];exact(hf b hb).1
 done:=by intro X hP hw hK hc i W5 s Y H E I hf st hg;subst hP hw hK;obtain⟨xs,hq,hx⟩:=hg;obtain⟨its,rv,p,hz⟩:=I.list hq;obtain⟨⟨XO,he⟩,hi⟩:=st;have hl:=rv.length;obtain⟨f0,f1,f2,f3,f4,f5⟩:=hf it (by simp);exact wpAny_pyNext_enum_end (I.ok.hd hc) he hi p.isList (by simp;lia) λh' eb=>⟨Z',I.turned (t':=s.toks) (λb o hb q=>eb b o hb q) f0 f1 f3 f4 f5⟩
 self:=λ_ _ _ _ _ st h=>by obtain⟨⟨XO,he⟩,_⟩:=st;exact kX he h
variable {tp:Pos}{Xu:T0 Tl}{n:Nat}
def OB{a:Tl}{ta:TA}(hg:Gl X "enumerate")(hm:X.mg "enumerate"=Fa)(ha:PA X [a] ta)(hs:Tk [a] X.env=[(pc,No a X.env)]:=by rfl):
  PI X (.Tuple Xu n tp) (.Call (.Name "enumerate" p) [a] [] pos) (λY H R=>ta Y H λvs H1=>∃l,vs=[.ref l]/\(∃xs,xk X.K H1 l xs)/\R (Wk X.K l) H1):=by
 intro W5 s Y H R I h;refine Call_ (wK I hg hm E5 (fj (rY (ha pos W5 s Y H _ I h) λus s1 zz=>x5 zz λvs H1 I1 r1 q1=>?_) hs Z'));obtain⟨l,e,⟨xs,hq⟩,q⟩:=q1;subst e;obtain⟨u,rfl,ru⟩:=vV r1;cases ru;obtain⟨its,rv,pl,hz⟩:=I1.list hq;refine call_enumerate_list pl.isList λh' he hi hsz hk=>?_;refine kX he ?_;have I2:Inv X W5 Y H1 {s1 with heap:=h'}:=I1.kept (t':=s1.toks) hk;refine⟨s1.heap.objs.size+1,[s1.heap.objs.size+1,s1.heap.objs.size],_,_,H1,Z',I2,JL l _ _ (Nat.succ_ne_self _),⟨⟨_,he⟩,hi⟩,λb hb=>?_,q⟩;have X4:s1.heap.objs.size<=b:=by
  rcases dg.mp hb with z|z
  .rw[z];exact gw _
  .rw[c9.mp z];exact cZ _
 exact I1.nG X4 (I1.mD.fresh X4)
noncomputable def uo:Nat->T0 D->T0 D
 | _,[]=>[]
 | i,d::r=>.tup [.int (i:Nat),d]::uo (i+1) r
theorem zA:∀{ds:T0 D} {i j:Nat},(uo j ds)[i]?=(ds[i]?).map λd=>D.tup [.int ((j+i:Nat):Int),d]
 | [],i,j=>by simp[uo]
 | d::r,0,j=>by simp[uo]
 | d::r,i+1,j=>by show(uo (j+1) r)[i]?=_;rw[zA];simp only[List.getElem?_cons_succ];rw[show j+1+i=j+(i+1)by lia]
theorem vc:∀{ds:T0 D} {j:Nat},(uo j ds).length=ds.length
 | [],j=>rfl
 | d::r,j=>by simp[uo,vc]
def MV{K:qk}:El K H1 (Wk K a) (uo 0 ds) (λM=>nU M a=ga ds) where
 go:=λi H M hi hm ok _=>by rw[vc]at hi;obtain⟨xs,h1,h2,_⟩:=pQ hm ok;obtain⟨x,e,_⟩:=h2.get (cT hi);exact⟨xs,x,h1,e⟩
 oq:=λi d H M x H' hd hm ok _ y=>by
  obtain⟨xs,h1,h2,_⟩:=pQ hm ok;obtain⟨p,z,rfl,hp,rfl,y⟩:=y;rw[zA]at hd;cases e:ds[i]? with
  | none=>rw[e]at hd;cases hd
  | some d'=>rw[e]at hd;cases hd;obtain⟨x',e',hx⟩:=h2.get e;have w1:=y xs h1;rw[e']at w1;have w2:x'=z:=de w1;subst w2;have ex:qC K H (upd H p (.tup [.int (i:Nat),x'])):=.new hp;refine⟨.tup (.of pR) (.cons (by rw[kI];exact .int) (.cons (hx.mono ex) .nil)),hm.add hp,ex⟩
 stop:=λH M hm ok _=>by obtain⟨xs,h1,h2,_⟩:=pQ hm ok;exact⟨xs,h1,by rw[vc,h2.length];exact cZ _⟩
def SL(t:wI):MY:=λU M R=>t U M λds M1=>match ds with
 | [.ref a]=>(nU M1 a).elim False λes=>R (uo 0 es) (λM=>nU M a=ga es) M1
 | _=>False
def wD{a:Tl}{ta:wI}(hg:Gl X "enumerate")(hm:X.mg "enumerate"=Fa)(ha:A3 X [a] ta)(hs:Tk [a] X.env=[(pc,No a X.env)]:=by rfl):I3 X (.Tuple Xu n tp) (.Call (.Name "enumerate" p) [a] [] pos) (SL ta):=
 PI.mono (OB hg hm ha hs) λY H R' zz=>x7 zz λU M R hs hm ht k=>⟨U,M,_,hs,hm,ht,λvs H1 ds M1 hd W7 e1 q1=>by
  split at q1
  .obtain⟨v,rfl,hv⟩:=rD hd;cases hv.mj;obtain⟨es,e0,q⟩:=qI q1;obtain⟨xs,h1,h2,_⟩:=pQ W7 e0;exact⟨_,Z',⟨xs,h1⟩,k _ H1 _ _ M1 MV W7 e1 e0 q⟩
  .exact q1.elim⟩
variable {prog:Pg}{A:Ar}{E:QQX}
def HS{it t:lf}{i:Nat}{its:Array Vl}{x:Vl}{Q:QQX}(hi:s.heap.IsTupleIter it t i)(ht:s.heap.IsTuple t its)(hx:its[i]?=ga x) (hQ:∀g,g.IsTupleIter it t (i+1)->Heap.SameBut it s.heap g->Q x {s with heap:=g}):Ch (pi prog w) A (Builtin.SmallTypes.nextOf (.ref it)) Q E s:=by
 obtain⟨ob,e1,e2,e3⟩:=id hi;obtain⟨ot,e4,_,nt,e5⟩:=ht;unfold Builtin.SmallTypes.nextOf;refine cS (fC (name:=Str.ofString "__next__") hi.typeIs gD (gb gD hi.typeIs jb ?_ (iX _)));show Ch (pi prog w) _ (field (.ref it) 0>>=_) _ _ s;refine cS (eV e1 e3 (x:=.ref t) Z' ?_);show Ch (pi prog w) _ (if (Value.ref t==Value.none)=Db then _ else _) _ _ s;rw[cW (show ¬(Value.ref t==Value.none)=Db from dv)];show Ch (pi prog w) _ (field (.ref it) 1>>=_) _ _ s;refine cS (eV e1 e3 (x:=.int i 0) Z' ?_);show Ch (pi prog w) _ (seqItems? (.ref t)>>=_) _ _ s;refine cS (gq e4 e5 ?_);simp only[jh,hx];refine cS (hZ e1 e3 (by simp) (df ⟨x,Z',df (hQ _ ⟨_,fA _ e1 (Obj.isFreed_of_fields (kK e3 _)),(Obj.cls_mapFields ..).trans e2,?_⟩ (kr ..))⟩));rw[kK e3];simp[o0]
def BA{it t:lf}{i:Nat}{its:Array Vl}{Q:QQX}(hh:A.handled=Fa)(hi:s.heap.IsTupleIter it t i)(ht:s.heap.IsTuple t its)(hx:its[i]?=Fa) (hE:∀g e,Heap.ExtBut it s.heap g->(∃o,g.get? e=ga o/\o.cls=.type "StopIteration")->E (.ref e) {s with heap:=g}):Ch (pi prog w) A (Builtin.SmallTypes.nextOf (.ref it)) Q E s:=by
 obtain⟨ob,e1,e2,e3⟩:=id hi;obtain⟨ot,e4,_,nt,e5⟩:=ht;unfold Builtin.SmallTypes.nextOf;refine cS (fC (name:=Str.ofString "__next__") hi.typeIs gD (gb gD hi.typeIs jb ?_ (iX _)));show Ch (pi prog w) _ (field (.ref it) 0>>=_) _ _ s;refine cS (eV e1 e3 (x:=.ref t) Z' ?_);show Ch (pi prog w) _ (if (Value.ref t==Value.none)=Db then _ else _) _ _ s;rw[cW (show ¬(Value.ref t==Value.none)=Db from dv)];show Ch (pi prog w) _ (field (.ref it) 1>>=_) _ _ s;refine cS (eV e1 e3 (x:=.int i 0) Z' ?_);show Ch (pi prog w) _ (seqItems? (.ref t)>>=_) _ _ s;refine cS (gq e4 e5 ?_);simp only[jh,hx];refine cS (j7 (cS (hZ e1 e3 (by simp) ?_)));show Ch (pi prog w) _ (newExc (.type "StopIteration") []>>=_) _ _ _;refine cS ?_;simp only[newExc,newTuple];refine cS (fO ?_ (by size_fits));refine cS (m:=firstArgMember _ _) (wpAny_of_eq (a:=Value.none) (by first|rfl|(simp only[firstArgMember];rfl)) ?_);refine fO ?_ (by size_fits);simp only[raiseNew];refine cS (wpAny_handled ?_)
 first|rw[show A.in1.handled=Fa from hh]|rw[hh]
 refine cS (df (wpAny_throw (hE _ _ (((kr ..).extBut.push _).push _) ⟨_,dG _ Z',Z'⟩)))
def JM{prog:Pg}{w:Wo}{A:Ar}(hh:A.handled=Fa)(it t:lf)(Xt:t≠it)(its:Array Vl):
  Draws prog w A it [it,t] its.size (λi v=>its[i]?=ga v) (λi h=>h.IsTupleIter it t i/\h.IsTuple t its) where
 live:=λi h st=>let⟨o,ho,_⟩:=st.1;⟨o,ho⟩
 frame:=λi h g st hk=>by obtain⟨⟨o,e1,e2⟩,⟨o',e3,e4⟩⟩:=st;exact⟨⟨o,hk it (by simp) o e1,e2⟩,⟨o',hk t (by simp) o' e3,e4⟩⟩
 item:=λi s Q E hi st hQ=>HS st.1 st.2 (x:=its[i]) (by simp[hi]) λg hg hs=>hQ _ g s.toks (by simp[hi]) ⟨hg,st.2.extBut hs.extBut Xt⟩ hs
 done:=λs Q E st hE=>BA hh st.1 st.2 (by simp) hE
structure CJ(z TI TO i1 i2:lf)(f1 f2:QXQ):Prop where
 a1:TI≠z
 a2:TO≠z
 a3:i1≠z
 a4:i2≠z
 a5:TI≠TO
 a6:TI≠i1
 a7:TI≠i2
 a8:TO≠i1
 a9:TO≠i2
 oQ:i1≠i2
 b1:z∉f1
 b2:TO∉f1
 b3:i2∉f1
 c1:z∉f2
 c2:TO∉f2
 c3:i1∉f2
variable {z TI TO i1 i2:lf}{f1 f2:QXQ}{n1 n2 k1 k2:Nat}{P1 P2:Nat→Vl→Prop}{S1 S2:Nat→Go→Prop}
section
variable {a b:Vl}
def rS{St:Nat->Go->Prop}(Dr:Draws prog w A it fp n Pt St){i:Nat}{h g:Go}{c:lf}(st:St i h)(hs:Heap.SameBut c h g)(hc:c∉fp):St i g:=
 Dr.frame _ _ _ st λd hd o e=>(hs.2 d λq=>hc (q ▸ hd)).trans e
def JQ{Q:QQX}(D1:Draws prog w A i1 f1 n1 P1 S1)(D2:Draws prog w A i2 f2 n2 P2 S2)(Xo:CJ z TI TO i1 i2 f1 f2)(hz:XXd s.heap z TI TO .none)(hI:sB s.heap TI (.ref i1) (.ref i2))(hO:sB s.heap TO a b) (XH:S1 k1 s.heap) (Xs:S2 k2 s.heap) (l1:k1<n1) (l2:k2<n2) (hQ:∀x y g tk,P1 k1 x->P2 k2 y->XXd g z TI TO (o0 s.heap.objs.size)->sB g TO x y->S1 (k1+1) g->S2 (k2+1) g->sB g s.heap.objs.size x y->g.objs.size=s.heap.objs.size+1->
   (∀c o,c≠z->c≠TO->c≠i1->c≠i2->s.heap.get? c=ga o->g.get? c=ga o)->Q (.ref s.heap.objs.size) {s with heap:=g,toks:=tk}):
  Ch (pi prog w) A (Builtin.«zip.__next__» ⟨[.ref z],[]⟩) (λXb s'=>∃v,Xb=.done (.ret v)/\Q v s') E s:=by
 show Ch (pi prog w) A (field (.ref z) 2>>=_) _ _ _;refine cS (eV hz Z' (x:=.bool pc) Z' ?_);show Ch (pi prog w) A (field (.ref z) 3>>=_) _ _ _;refine cS (eV hz Z' (x:=.ref TI) Z' (cS (gq hI Z' ?_)));show Ch (pi prog w) A (Builtin.SmallTypes.ownedTupleIsFree (.ref z)>>=_) _ _ _;refine cS ?_;unfold Builtin.SmallTypes.ownedTupleIsFree;refine cS (eV hz Z' (x:=.none) Z' (df ?_));simp only[iU];refine cS (j7 (cS (eV hz Z' (x:=.ref TO) Z' (cS (gy hz (by simp) λg1 z1 YV=>?_)))));replace z1:XXd g1 z TI TO .ellipsis:=z1;refine cS ?_;simp only[lC,lM,jL,jW];refine cS (cS (jf ?_));show Ch (pi prog w) A (Builtin.SmallTypes.nextOf (.ref i1)>>=_) _ _ _;have YW:S1 k1 g1:=rS D1 XH YV Xo.b1;refine cS (D1.item k1 _ _ _ l1 YW λx g2 tk2 px st1b Ya=>df ?_);replace Ya:Heap.SameBut i1 g1 g2:=Ya;have o2:sB g2 TO a b:=Ya.extBut _ _ Xo.a8 (YV.extBut _ _ Xo.a2 hO);refine cS (gq o2 Z' (cS (iN o2 λg3 o3 Yi=>?_)));replace o3:sB g3 TO x b:=o3;replace Yi:Heap.SameBut TO g2 g3:=Yi;refine cS (lh (df (cS (cS (jf ?_)))));show Ch (pi prog w) A (Builtin.SmallTypes.nextOf (.ref i2)>>=_) _ _ _;have Zm:S2 k2 g3:=rS D2 (rS D2 (rS D2 Xs YV Xo.c1) Ya Xo.c3) Yi Xo.c2;refine cS (D2.item k2 _ _ _ l2 Zm λy g4 tk4 py st2b Y6=>df ?_);replace Y6:Heap.SameBut i2 g3 g4:=Y6;have o4:sB g4 TO x b:=Y6.extBut _ _ Xo.a9 o3;refine cS (gq o4 Z' (cS (iN o4 λg5 o5 Y7=>?_)));replace o5:sB g5 TO x y:=o5;replace Y7:Heap.SameBut TO g4 g5:=Y7;refine cS (lh (df (df (cS (gq o5 Z' (cS (wpAny_newTuple ?_)))))));have esz:g5.objs.size=s.heap.objs.size:=by rw[Y7.1,Y6.1,Yi.1,Ya.1,YV.1]
 have z5:XXd g5 z TI TO .ellipsis:=Y7.extBut _ _ Xo.a2.symm (Y6.extBut _ _ Xo.a4.symm (Yi.extBut _ _ Xo.a2.symm (Ya.extBut _ _ Xo.a3.symm z1)));have kp:∀c o,c≠z->c≠TO->c≠i1->c≠i2->s.heap.get? c=ga o->g5.get? c=ga o:=λc o q1 q2 q3 q4 q=>Y7.extBut _ _ q2 (Y6.extBut _ _ q4 (Yi.extBut _ _ q2 (Ya.extBut _ _ q3 (YV.extBut _ _ q1 q))));have st1c:S1 (k1+1) g5:=rS D1 (rS D1 (rS D1 st1b Yi Xo.b2) Y6 Xo.b3) Y7 Xo.b2;have st2c:S2 (k2+1) g5:=rS D2 st2b Y7 Xo.c2;have zlt:z<g5.objs.size:=dA z5;show Ch (pi prog w) A (Builtin.SmallTypes.ownedTupleHandOut (.ref z) (.ref g5.objs.size)>>=_) _ _ _;refine cS ?_;unfold Builtin.SmallTypes.ownedTupleHandOut;have z6:XXd (g5.push {cls:=.type "tuple",data:=.seq #[x,y]}) z TI TO .ellipsis:=cY _ z5;refine cS (gy z6 (by simp) λg7 z7 sb7=>?_);replace z7:XXd g7 z TI TO (o0 g5.objs.size):=z7;refine gy z7 (by simp) λg8 z8 sb8=>?_;replace z8:XXd g8 z TI TO (o0 g5.objs.size):=z8;have up:∀c o,c≠z->g5.get? c=ga o->g8.get? c=ga o:=λc o q1 q=>sb8.extBut _ _ q1 (sb7.extBut _ _ q1 (cY _ q));have tu:sB g8 g5.objs.size x y:=sb8.extBut _ _ (hJ zlt) (sb7.extBut _ _ (hJ zlt) (dG _ Z'));have es8:g8.objs.size=g5.objs.size+1:=by rw[sb8.1,sb7.1,fF]
 rw[esz]at z8 tu es8;refine df ⟨_,Z',?_⟩;show Q (.ref g5.objs.size) _;rw[esz];exact hQ x y g8 _ px py z8 (up _ _ Xo.a2 o5) (D1.frame _ _ _ st1c λc hc o q=>up c o (λr=>Xo.b1 (r ▸ hc)) q) (D2.frame _ _ _ st2c λc hc o q=>up c o (λr=>Xo.c1 (r ▸ hc)) q) tu es8 λc o q1 q2 q3 q4 q=>up c o q1 (kp c o q1 q2 q3 q4 q)
def Mo{Q:Fin->Sd->Prop}(D1:Draws prog w A i1 f1 n1 P1 S1)(D2:Draws prog w A i2 f2 n2 P2 S2)(Xo:CJ z TI TO i1 i2 f1 f2)(hz:XXd s.heap z TI TO .none)(hI:sB s.heap TI (.ref i1) (.ref i2))(hO:sB s.heap TO a b) (XH:S1 k1 s.heap) (Xs:S2 k1 s.heap) (ZX:k1=n1\/(k1<n1/\k1=n2)) (hE:∀g e,(∀c o,c≠z->c≠TO->c≠i1->c≠i2->s.heap.get? c=ga o->g.get? c=ga o)->(∃o,g.get? e=ga o/\o.cls=.type "StopIteration")->∀tk,E (.ref e) {s with heap:=g,toks:=tk}):
  Ch (pi prog w) A (Builtin.«zip.__next__» ⟨[.ref z],[]⟩) Q E s:=by
 show Ch (pi prog w) A (field (.ref z) 2>>=_) _ _ _;refine cS (eV hz Z' (x:=.bool pc) Z' ?_);show Ch (pi prog w) A (field (.ref z) 3>>=_) _ _ _;refine cS (eV hz Z' (x:=.ref TI) Z' (cS (gq hI Z' ?_)));show Ch (pi prog w) A (Builtin.SmallTypes.ownedTupleIsFree (.ref z)>>=_) _ _ _;refine cS ?_;unfold Builtin.SmallTypes.ownedTupleIsFree;refine cS (eV hz Z' (x:=.none) Z' (df ?_));simp only[iU];refine cS (j7 (cS (eV hz Z' (x:=.ref TO) Z' (cS (gy hz (by simp) λg1 z1 YV=>?_)))));replace z1:XXd g1 z TI TO .ellipsis:=z1;refine cS ?_;simp only[lC,lM,jL,jW];refine cS (cS (jf ?_));show Ch (pi prog w) A (Builtin.SmallTypes.nextOf (.ref i1)>>=_) _ _ _;have YW:S1 k1 g1:=rS D1 XH YV Xo.b1;rcases ZX with he|⟨Xl,he⟩
 .rw[he]at YW;refine cS (D1.done _ _ _ YW λg2 e Ya hx=>?_);obtain⟨oe,g,ZY⟩:=hx;have z2:XXd g2 z TI TO .ellipsis:=Ya _ _ Xo.a3.symm z1;have hez:e≠z:=λq=>by subst q;rw[z2]at g;cases g;simp at ZY
  exact gy z2 (by simp) λg3 _ Yi=>hE g3 e (λc o q1 _ q3 _ q=>Yi.extBut _ _ q1 (Ya _ _ q3 (YV.extBut _ _ q1 q))) ⟨oe,Yi.extBut _ _ hez g,ZY⟩ _
 .refine cS (D1.item k1 _ _ _ Xl YW λx g2 tk2 px st1b Ya=>df ?_);replace Ya:Heap.SameBut i1 g1 g2:=Ya;have o2:sB g2 TO a b:=Ya.extBut _ _ Xo.a8 (YV.extBut _ _ Xo.a2 hO);refine cS (gq o2 Z' (cS (iN o2 λg3 o3 Yi=>?_)));replace Yi:Heap.SameBut TO g2 g3:=Yi;refine cS (lh (df (cS (cS (jf ?_)))));show Ch (pi prog w) A (Builtin.SmallTypes.nextOf (.ref i2)>>=_) _ _ _;have Zm:S2 k1 g3:=rS D2 (rS D2 (rS D2 Xs YV Xo.c1) Ya Xo.c3) Yi Xo.c2;rw[he]at Zm;refine cS (D2.done _ _ _ Zm λg4 e Y6 hx=>?_);obtain⟨oe,g,ZY⟩:=hx;have z4:XXd g4 z TI TO .ellipsis:=Y6 _ _ Xo.a4.symm (Yi.extBut _ _ Xo.a2.symm (Ya.extBut _ _ Xo.a3.symm z1));have hez:e≠z:=λq=>by subst q;rw[z4]at g;cases g;simp at ZY
  exact gy z4 (by simp) λg5 _ Y7=>hE g5 e (λc o q1 q2 q3 q4 q=>Y7.extBut _ _ q1 (Y6 _ _ q4 (Yi.extBut _ _ q2 (Ya.extBut _ _ q3 (YV.extBut _ _ q1 q))))) ⟨oe,Y7.extBut _ _ hez g,ZY⟩ _
end
abbrev Vi(h:Go)(t:lf):Go:=h.push {cls:=.type "tuple_iterator",data:=.fields #[.ref t,.int 0 0]}
abbrev Vj(h:Go)(t u:lf):Go:=(Vi h t).push {cls:=.type "tuple_iterator",data:=.fields #[.ref u,.int 0 0]}
abbrev Vp(h:Go)(t u:lf):Go:=(Vj h t u).push {cls:=.type "tuple",data:=.seq #[.ref h.objs.size,.ref (Vi h t).objs.size]}
abbrev Ve(h:Go)(t u:lf):Go:=(Vp h t u).push {cls:=.type "tuple",data:=.seq #[.none,.none]}
abbrev Tr(h:Go)(t u:lf):Go:=(Ve h t u).push {cls:=.type "zip",data:=.fields #[.none,.bool pc,.bool pc,.ref (Vj h t u).objs.size,.ref (Vp h t u).objs.size]}
def CZ(t u:lf)(xs ys:Array Vl):
  Meets (Builtin.«zip.__new__» ⟨[.type "zip",.ref t,.ref u],[]⟩) (λ_ R s=>s.heap.IsTuple t xs/\s.heap.IsTuple u ys/\R (.ok (.ret (.ref (Ve s.heap t u).objs.size))) {s with heap:=Tr s.heap t u}):=
 .of_wp λprog w A R s h=>by
  obtain⟨hp,g,d,tk,os⟩:=s;obtain⟨e1,e2,h⟩:=h;have Zj:=sub_zip;have q1:Heap.IsTuple (Shared.heap ⟨hp,g,d,tk,os⟩) t xs:=e1;have q2:Heap.IsTuple (Shared.heap ⟨hp.push {cls:=.type "tuple_iterator",data:=.fields #[.ref t,.int 0 0]},g,d,tk,os⟩) u ys:=Heap.IsTuple.push e2 _
  wp_walk using iu q1,iu q2
  exact⟨_,Z',h⟩
def Ek{t u:lf}{xs ys:Array Vl}{Q:QQX}(ht:s.heap.IsTuple t xs)(hu:s.heap.IsTuple u ys) (h:∀g,XXd g (s.heap.objs.size+4) (s.heap.objs.size+2) (s.heap.objs.size+3) .none->sB g (s.heap.objs.size+2) (.ref s.heap.objs.size) (.ref (s.heap.objs.size+1))->sB g (s.heap.objs.size+3) .none .none->
   g.IsTupleIter s.heap.objs.size t 0->g.IsTupleIter (s.heap.objs.size+1) u 0->(∀c o,s.heap.get? c=ga o->g.get? c=ga o)->Q (.ref (s.heap.objs.size+4)) {s with heap:=g}):
  Ch (pi prog w) A (call (.type "zip") [.ref t,.ref u]) Q E s:=by
 refine callType_new F.called_zip (by decide) (F.typeCall_zip_2 _ _) (F.newCall_zip_2 _ _) (λobj=>F.args_object_init_3 obj _ _) F.entry_zip_new (CZ t u xs ys) ⟨ht,hu,?_⟩;have m1:(Vi s.heap t).objs.size=s.heap.objs.size+1:=fF ..;have m2:(Vj s.heap t u).objs.size=s.heap.objs.size+2:=by rw[fF,m1]
 have m3:(Vp s.heap t u).objs.size=s.heap.objs.size+3:=by rw[fF,m2]
 have m4:(Ve s.heap t u).objs.size=s.heap.objs.size+4:=by rw[fF,m3]
 have up:∀{h:Go} {c:lf} {o p:Obj},h.get? c=ga o->(h.push p).get? c=ga o:=λq=>cY _ q;have r5:(Tr s.heap t u).get? (Ve s.heap t u).objs.size=ga _:=dG _ Z';have r4:(Tr s.heap t u).get? (Vp s.heap t u).objs.size=ga _:=up (dG _ Z');have r3:(Tr s.heap t u).get? (Vj s.heap t u).objs.size=ga _:=up (up (dG _ Z'));have r2:(Tr s.heap t u).get? (Vi s.heap t).objs.size=ga _:=up (up (up (dG _ Z')));have r1:(Tr s.heap t u).get? s.heap.objs.size=ga _:=up (up (up (up (dG _ Z'))));show _/\_;rw[m2,m3,m4]at r5;rw[m1,m2]at r3;rw[m3]at r4;rw[m1]at r2;rw[m4];exact⟨⟨_,r5,Z'⟩,h _ r5 r3 r4 ⟨_,r1,Z',Z'⟩ ⟨_,r2,Z',Z'⟩ λc o q=>up (up (up (up (up q))))⟩
def GN{z TI TO i1 i2:lf}{n1 n2 k:Nat}{P1 P2:Nat->Vl->Prop}{S1 S2:Nat->Go->Prop}{Q:Option Vl->Sd->Prop}(D1:Draws prog w A.in1 i1 f1 n1 P1 S1)(D2:Draws prog w A.in1 i2 f2 n2 P2 S2)(Xo:CJ z TI TO i1 i2 f1 f2) (hz:XXd s.heap z TI TO .none) (hI:sB s.heap TI (.ref i1) (.ref i2)) (hO:sB s.heap TO a b) (XH:S1 k s.heap) (Xs:S2 k s.heap) (l1:k<n1) (l2:k<n2) (hQ:∀x y g tk,P1 k x->P2 k y->XXd g z TI TO (o0 s.heap.objs.size)->sB g TO x y->S1 (k+1) g->S2 (k+1) g->sB g s.heap.objs.size x y->g.objs.size=s.heap.objs.size+1->
   (∀c o,c≠z->c≠TO->c≠i1->c≠i2->s.heap.get? c=ga o->g.get? c=ga o)->Q (ga (.ref s.heap.objs.size)) {s with heap:=g,toks:=tk}):Ch (pi prog w) A (pyNext (.ref z)) Q E s:=by
 have hT:s.TypeIs (.ref z) "zip":=⟨_,hz,Z'⟩;unfold pyNext;refine cS (wpAny_attempt (fC (name:=Str.ofString "__next__") hT iO (gb iO hT lD ?_ (kY _))));exact JQ D1 D2 Xo hz hI hO XH Xs l1 l2 λx y g tk q1 q2 q3 q4 q5 q6 q7 q8 q9=>df (hQ x y g tk q1 q2 q3 q4 q5 q6 q7 q8 q9)
def AB{z TI TO i1 i2:lf}{n1 n2 k:Nat}{P1 P2:Nat->Vl->Prop}{S1 S2:Nat->Go->Prop}{Q:Option Vl->Sd->Prop}(D1:Draws prog w A.in1 i1 f1 n1 P1 S1)(D2:Draws prog w A.in1 i2 f2 n2 P2 S2)(Xo:CJ z TI TO i1 i2 f1 f2) (hz:XXd s.heap z TI TO .none) (hI:sB s.heap TI (.ref i1) (.ref i2)) (hO:sB s.heap TO a b) (XH:S1 k s.heap) (Xs:S2 k s.heap) (ZX:k=n1\/(k<n1/\k=n2)) (hQ:∀g tk,(∀c o,c≠z->c≠TO->c≠i1->c≠i2->s.heap.get? c=ga o->g.get? c=ga o)->Q Fa {s with heap:=g,toks:=tk}):Ch (pi prog w) A (pyNext (.ref z)) Q E s:=by
 have hT:s.TypeIs (.ref z) "zip":=⟨_,hz,Z'⟩;unfold pyNext;refine cS (wpAny_attempt (fC (name:=Str.ofString "__next__") hT iO (gb iO hT lD (Mo D1 D2 Xo hz hI hO XH Xs ZX λg e kp hx tk=>?_) (kY _))));obtain⟨o,e1,e2⟩:=hx;exact cS (wpAny_isInstance (T:="StopIteration") (b:=true) ⟨o,e1,e2⟩ isSubtype_stop (df (hQ g tk kp)))
def Sf(I:Inv X W5 Y H s)(f:zC X W5 H b)(q:vk X.K H a xs):a≠b:=by
 rintro rfl
 rcases q with q|⟨o,its,n,hk,_⟩
 .have z:=f.1;rcases q with q|⟨u,q⟩<;>(rw[q]at z;cases z)
 .have e:=I.mod.nQ a o hk;rcases f.2.2.2.1 with z|z
  .exact I.ok.nz a o e z
  .exact absurd (dJ (dA e) (dS I.ok.nI z)) (eO _)
noncomputable def Tg(Sq:qk->Hp->lf->T0 V->Prop)(K:qk)(a b:lf):It:=
 ⟨λi H=>∃xs ys x y,Sq K H a xs/\Sq K H b ys/\xs[i]?=ga x/\ys[i]?=ga y,λi H v H'=>∃p x y,v=.ref p/\H p=Fa/\H'=upd H p (.tup [x,y])/\(∀xs,Sq K H a xs->xs[i]?=ga x)/\(∀ys,Sq K H b ys->ys[i]?=ga y),λi H=>∃xs ys,Sq K H a xs/\Sq K H b ys/\i=min xs.length ys.length⟩
structure ZK(Sq:qk->Hp->lf->List V->Prop)(Ir:Go->lf->lf->Nat->Prop)(C:Go->lf->Array Vl->Prop):Prop where
 gt:∀{X:Cx} {W5:QQY} {Y:St} {H:Hp} {s:Sd} {a:lf} {xs:List V},Inv X W5 Y H s->Sq X.K H a xs->∃its:List Vl,qo xs its/\C s.heap a its.toArray
 ij:∀{X:Cx} {W5:QQY} {Y:St} {H:Hp} {s:Sd} {a:lf} {xs ys:List V},Inv X W5 Y H s->Sq X.K H a xs->Sq X.K H a ys->xs=ys
 ne:∀{X:Cx} {W5:QQY} {Y:St} {H:Hp} {s:Sd} {a b:lf} {xs:List V},Inv X W5 Y H s->zC X W5 H b->Sq X.K H a xs->a≠b
 dr:∀{prog:Pg} {w:Wo} {A:Ar},A.handled=Fa->∀(it l:lf),l≠it->∀its:Array Vl,Draws prog w A it [it,l] its.size (λi v=>its[i]?=ga v) (λi h=>Ir h it l i/\C h l its)
 ob:∀{h:Go} {it a:lf} {i:Nat},Ir h it a i->∃o,h.get? it=ga o/\∀v,o.data≠.cell v
 kp:∀{h h':Go} {it a:lf} {i:Nat},Ir h it a i->(∀o,h.get? it=ga o->h'.get? it=ga o)->Ir h' it a i
def WY:ZK vk Heap.IsTupleIter Heap.IsTuple where
 gt:=λI h=>(I.tuple h).imp λ_ z=>⟨z.1,z.2.1⟩
 ij:=λI h g=>I.mU h g
 ne:=Sf
 dr:=JM
 ob:=λ⟨o,h,_,d⟩=>⟨o,h,λv z=>by rw[d]at z;cases z⟩
 kp:=λ⟨o,h,c⟩ k=>⟨o,k o h,c⟩
def Ub{z TI TO i1 i2 a b:lf}(a1:TI≠z)(a2:TO≠z)(a3:i1≠z)(a4:i2≠z)(a5:TI≠TO)(a6:TI≠i1)(a7:TI≠i2)(a8:TO≠i1)(a9:TO≠i2)(oQ:i1≠i2)(fa:∀c∈[z,TI,TO,i1,i2],a≠c)(fb:∀c∈[z,TI,TO,i1,i2],b≠c):CJ z TI TO i1 i2 [i1,a] [i2,b]:=by
 have n:∀{x y w:lf},x≠y->w≠x->x∉[y,w]:=λh g=>by simp only[dg,dP,fP,hW];exact⟨h,dQ g⟩
 exact⟨a1,a2,a3,a4,a5,a6,a7,a8,a9,oQ,n (dQ a3) (fa z (by simp)),n a8 (fa TO (by simp)),n (dQ oQ) (fa i2 (by simp)),n (dQ a4) (fb z (by simp)),n a9 (fb TO (by simp)),n oQ (fb i1 (by simp))⟩
def NH{C:Go->lf->Array Vl->Prop}(zk:ZK Sq Ir C){P:Pg}{w:Wo}{K:qk}{Xu:T0 Tl}{n:Nat}{tp:Pos}(a b z TI TO i1 i2:lf)(a1:TI≠z)(a2:TO≠z)(a3:i1≠z)(a4:i2≠z)(a5:TI≠TO)(a6:TI≠i1)(a7:TI≠i2)(a8:TO≠i1)(a9:TO≠i2)(oQ:i1≠i2):
  Gm P w K (.Tuple Xu n tp) (Tg Sq K a b) [z,TI,TO,i1,i2] z (λi h=>XXd h z TI TO .none/\sB h TI (.ref i1) (.ref i2)/\(∃u v,sB h TO u v)/\Ir h i1 a i/\Ir h i2 b i) where
 mem:=by simp
 obj:=λi h st c hc=>by
  obtain⟨h1,h2,⟨u,v,h3⟩,h4,h5⟩:=st;simp only[dg,dP,fP]at hc;rcases hc with rfl|rfl|rfl|rfl|rfl
  .exact⟨_,h1,λv z=>by cases z⟩
  .exact⟨_,h2,λv z=>by cases z⟩
  .exact⟨_,h3,λv z=>by cases z⟩
  .exact zk.ob h4
  .exact zk.ob h5
 keep:=λi h h' st k=>by obtain⟨h1,h2,⟨u,v,h3⟩,h4,h5⟩:=st;exact⟨k z (by simp) _ h1,k TI (by simp) _ h2,⟨u,v,k TO (by simp) _ h3⟩,zk.kp h4 (k i1 (by simp)),zk.kp h5 (k i2 (by simp))⟩
 item:=by
  intro X hP hw hK hc i W5 s Y H E I hf st hg;subst hP hw hK;obtain⟨xs,ys,x,y,hx,hy,ex,ey⟩:=hg;obtain⟨its,rx,px⟩:=zk.gt I hx;obtain⟨YU,ry,py⟩:=zk.gt I hy;obtain⟨u,eu,ru⟩:=rx.get ex;obtain⟨v,ev,rv⟩:=ry.get ey;obtain⟨h1,h2,⟨p,q,h3⟩,h4,h5⟩:=st;have hh:X.A.in1.handled=Fa:=I.ok.hd hc;have fa:∀c∈[z,TI,TO,i1,i2],a≠c:=λc hc=>zk.ne I (hf c hc) hx;have fb:∀c∈[z,TI,TO,i1,i2],b≠c:=λc hc=>zk.ne I (hf c hc) hy;have Xo:=Ub a1 a2 a3 a4 a5 a6 a7 a8 a9 oQ fa fb;have l1:i<its.toArray.size:=by
   have:=(cV.mp eu).1
   simpa using this
  have l2:i<YU.toArray.size:=by
   have:=(cV.mp ev).1
   simpa using this
  refine GN (zk.dr hh i1 a (fa i1 (by simp)) its.toArray) (zk.dr hh i2 b (fb i2 (by simp)) YU.toArray) Xo h1 h2 h3 ⟨h4,px⟩ ⟨h5,py⟩ l1 l2 λx' y' g tk e1 e2 z1 o1 s1 s2 t1 sz kp=>?_;have e1':x'=u:=by
   have:its[i]?=ga x':=by simpa using e1
   rw[eu]at this;exact(de this).symm
  have Ze:y'=v:=by
   have:YU[i]?=ga y':=by simpa using e2
   rw[ev]at this;exact(de this).symm
  subst e1' Ze;refine⟨_,Z',wpAny_letOwnedTupleGo_zip z1 λg2 z2 sb=>?_⟩;have zlt:z<s.heap.objs.size:=dA h1;have kk:∀c o,c∉[z,TI,TO,i1,i2]->s.heap.get? c=ga o->g2.get? c=ga o:=λc o hc e=>by simp only[dg,dP,fP,hW]at hc;exact(sb.2 c hc.1).trans (kp c o hc.1 hc.2.2.1 hc.2.2.2.1 hc.2.2.2.2 e)
  have t2:g2.get? s.heap.objs.size=ga {cls:=.type "tuple",data:=.seq #[x',y']}:=(sb.2 _ (hJ zlt)).trans t1;have Zl:H s.heap.objs.size=Fa:=I.mD.fresh (cZ _);have I2:=I.drawn (ch:=[z,TI,TO,i1,i2]) (T:=s.heap.objs.size) (xs:=[x,y]) (its:=[x',y']) (h':=g2) (tk:=tk) hf kk (cZ _) (by show 2<=Uf;decide) (.cons ru (.cons rv .nil)) ⟨_,t2,Z',⟨_,Z'⟩,Z'⟩;refine⟨.ref s.heap.objs.size,_,I2,Z',⟨_,x,y,Z',Zl,Z',λxs' hx'=>by rw[zk.ij I hx' hx];exact ex,λys' hy'=>by rw[zk.ij I hy' hy];exact ey⟩,?_,λc hc=>?_⟩
  .exact⟨z2,(sb.2 _ a1).trans (kp _ _ a1 a5 a6 a7 h2),⟨_,_,(sb.2 _ a2).trans o1⟩,zk.kp s1.1 λ_ e=>(sb.2 _ a3).trans e,zk.kp s2.1 λ_ e=>(sb.2 _ a4).trans e⟩
  .have n0:=(hf c hc).1;obtain⟨o,eo⟩:∃o,s.heap.get? c=ga o:=by
    obtain⟨o4,g4,_⟩:=zk.ob h4;obtain⟨o5,g5,_⟩:=zk.ob h5;simp only[dg,dP,fP]at hc;rcases hc with rfl|rfl|rfl|rfl|rfl
    .exact⟨_,h1⟩
    .exact⟨_,h2⟩
    .exact⟨_,h3⟩
    .exact⟨_,g4⟩
    .exact⟨_,g5⟩
   rw[pN (dO (dA eo))];exact n0
 done:=by
  intro X hP hw hK hc i W5 s Y H E I hf st hg;subst hP hw hK;obtain⟨xs,ys,hx,hy,hi⟩:=hg;obtain⟨its,rx,px⟩:=zk.gt I hx;obtain⟨YU,ry,py⟩:=zk.gt I hy;obtain⟨h1,h2,⟨p,q,h3⟩,h4,h5⟩:=st;have hh:X.A.in1.handled=Fa:=I.ok.hd hc;have fa:∀c∈[z,TI,TO,i1,i2],a≠c:=λc hc=>zk.ne I (hf c hc) hx;have fb:∀c∈[z,TI,TO,i1,i2],b≠c:=λc hc=>zk.ne I (hf c hc) hy;have Xo:=Ub a1 a2 a3 a4 a5 a6 a7 a8 a9 oQ fa fb;have e1:=rx.length;have e2:=ry.length;refine AB (zk.dr hh i1 a (fa i1 (by simp)) its.toArray) (zk.dr hh i2 b (fb i2 (by simp)) YU.toArray) Xo h1 h2 h3 ⟨h4,px⟩ ⟨h5,py⟩ (by simp only[dh];lia) λg tk kp=>⟨Z',?_⟩;have kk:∀c o,c∉[z,TI,TO,i1,i2]->s.heap.get? c=ga o->g.get? c=ga o:=λc o hc e=>by simp only[dg,dP,fP,hW]at hc;exact kp c o hc.1 hc.2.2.1 hc.2.2.2.1 hc.2.2.2.2 e
  refine I.step (g':=s.gens) (d':=s.drawn) (t':=tk) (ch:=[z,TI,TO,i1,i2]) (λc hc=>⟨(hf c hc).2.2.2.1,(hf c hc).2.1,(hf c hc).2.2.2.2.1,(hf c hc).2.2.2.2.2⟩) ?_ ?_ (λc o _ e n=>n) ?_ (λ_ _ e=>e) (λ_ _ _ e=>e) (λc ps e=>⟨#[],by rw[e];simp⟩) ?_ ?_ I.bare
  .exact λc o _ _ hc e _=>kk c o hc e
  .exact λc o _ _ hc e _=>⟨o.slots,kk c o hc e⟩
  .exact λc o hc e=>⟨o,kk c o hc e⟩
  .intro m hm;obtain⟨o,es,ep,ho,r⟩:=hm;exact⟨o,es,ep,kk _ o (λy=>(hf _ y).2.1 Z') ho,r⟩
  .intro c u e;refine(I.mD c u e).m9 (λd v hd q=>kk d v (λy=>?_) q) (λ_ q=>q) λ_ _ q=>q;have n:=(hf d y).1;rcases hd with x|x
   .rw[x,e]at n;cases n
   .rw[x]at n;cases n
 self:=λ_ _ _ _ _ st h=>lE st.1 h
def FT{C:Go->lf->Array Vl->Prop}(zk:ZK Sq Ir C){W5:QQY}{Y:St}{H:Hp}{s:Sd}{E:QQX}{R:It->Hp->Prop}{g:Go}{l m:lf}{u v:Vl}(I:Inv X W5 Y H s)(h1:XXd g (s.heap.objs.size+4) (s.heap.objs.size+2) (s.heap.objs.size+3) .none)(h2:sB g (s.heap.objs.size+2) (.ref s.heap.objs.size) (.ref (s.heap.objs.size+1)))(h3:sB g (s.heap.objs.size+3) u v)(h4:Ir g s.heap.objs.size l 0)(h5:Ir g (s.heap.objs.size+1) m 0)(hk:∀b o,s.heap.get? b=ga o->g.get? b=ga o)(q:R (Tg Sq X.K l m) H):Ch (pi X.prog X.w) X.A (pyIter (.ref (s.heap.objs.size+4))) (V7 X W5 Y (.Tuple Xu n tp) R) E {s with heap:=g}:=by
 refine lE h1 ?_;have I2:Inv X W5 Y H {s with heap:=g}:=I.kept (t':=s.toks) hk;have ne:∀{i j:Nat},i≠j->(s.heap.objs.size+i:Nat)≠s.heap.objs.size+j:=λh z=>h (Nat.add_left_cancel z);refine⟨s.heap.objs.size+4,[s.heap.objs.size+4,s.heap.objs.size+2,s.heap.objs.size+3,s.heap.objs.size,s.heap.objs.size+1],_,_,H,Z',I2,NH zk l m _ _ _ _ _ (ne (by decide)) (ne (by decide)) (ne (i:=0) (by decide)) (ne (by decide)) (ne (by decide)) (ne (j:=0) (by decide)) (ne (by decide)) (ne (j:=0) (by decide)) (ne (by decide)) (ne (i:=0) (by decide)),⟨h1,h2,⟨_,_,h3⟩,h4,h5⟩,λb hb=>?_,q⟩;have X4:s.heap.objs.size<=b:=by simp only[dg,dP,fP]at hb;rcases hb with rfl|rfl|rfl|rfl|rfl<;>first|exact cZ _|exact Nat.le_add_right _ _
 exact I.nG X4 (I.mD.fresh X4)
def SC{a b:Tl}{ta:TA}(hg:Gl X "zip")(hm:X.mg "zip"=Fa)(ha:PA X [a,b] ta)(hs:Tk [a,b] X.env=[(pc,No a X.env),(pc,No b X.env)]:=by rfl)(XM:Tk [b] X.env=[(pc,No b X.env)]:=by rfl):
  PI X (.Tuple Xu n tp) (.Call (.Name "zip" p) [a,b] [] pos) (λY H R=>ta Y H λvs H1=>∃l m,vs=[.ref l,.ref m]/\(∃xs,vk X.K H1 l xs)/\(∃xs,vk X.K H1 m xs)/\R (Tg vk X.K l m) H1):=by
 intro W5 s Y H R I h;refine Call_ (wK I hg hm KY (fj (rY (ha pos W5 s Y H _ I h) λus s1 zz=>x5 zz λvs H1 I1 r1 q1=>?_) (by rw[hs,XM]) (by rw[XM];rfl)));obtain⟨l,m,e,⟨xs,hx⟩,⟨ys,hy⟩,q⟩:=q1;subst e;obtain⟨u,v,rfl,ru,rv⟩:=Mj r1;cases ru;cases rv;obtain⟨its,_,px,_⟩:=I1.tuple hx;obtain⟨YU,_,py,_⟩:=I1.tuple hy;exact Ek px py λg h1 h2 h3 h4 h5 hk=>FT WY I1 h1 h2 h3 h4 h5 hk q
noncomputable def vf:T0 D->T0 D->T0 D
 | x::a,y::b=>.tup [x,y]::vf a b
 | _,_=>[]
theorem EQ:∀{ds es:T0 D} {i:Nat},(vf ds es)[i]?=(ds[i]?).bind λd=>(es[i]?).map λe=>D.tup [d,e]
 | [],es,i=>by simp[vf]
 | d::ds,[],i=>by simp[vf]
 | d::ds,e::es,0=>by simp[vf]
 | d::ds,e::es,i+1=>by show(vf ds es)[i]?=_;rw[EQ];simp
theorem vw:∀{ds es:T0 D},(vf ds es).length=min ds.length es.length
 | [],es=>by simp[vf]
 | d::ds,[]=>by simp[vf]
 | d::ds,e::es=>by show(vf ds es).length+1=_;rw[vw];simp only[dY];lia
def NY{K:qk}{ds es:T0 D}(h1:vk K H1 a xs)(h2:pY K H1 ds xs)(g1:vk K H1 b ys)(g2:pY K H1 es ys):El K H1 (Tg vk K a b) (vf ds es) (λ_=>True) where
 go:=λi H M hi hm ok e1=>by rw[vw]at hi;obtain⟨x,ex,_⟩:=h2.get (cT (show i<ds.length by lia));obtain⟨y,ey,_⟩:=g2.get (cT (show i<es.length by lia));exact⟨xs,ys,x,y,e1.t _ _ h1,e1.t _ _ g1,ex,ey⟩
 oq:=λi d H M v H' hd hm ok e1 y=>by
  obtain⟨p,x,z,rfl,hp,rfl,y1,y2⟩:=y;rw[EQ]at hd;cases e:ds[i]? with
  | none=>rw[e]at hd;cases hd
  | some d'=>
   cases e':es[i]? with
   | none=>rw[e,e']at hd;cases hd
   | some d''=>rw[e,e']at hd;cases hd;obtain⟨x',q1,hx⟩:=h2.get e;obtain⟨z',q2,hz⟩:=g2.get e';have w1:=y1 xs (e1.t _ _ h1);have w2:=y2 ys (e1.t _ _ g1);rw[q1]at w1;rw[q2]at w2;have v1:x'=x:=de w1;have v2:z'=z:=de w2;subst v1 v2;have ex:qC K H (upd H p (.tup [x',z'])):=.new hp;exact⟨.tup (.of pR) (.cons (hx.mono (e1.trans ex)) (.cons (hz.mono (e1.trans ex)) .nil)),hm.add hp,ex⟩
 stop:=λH M hm ok e1=>⟨xs,ys,e1.t _ _ h1,e1.t _ _ g1,by rw[vw,h2.length,g2.length]⟩
def Um(t:wI):MY:=λU M R=>t U M λds M1=>match ds with
 | [.tup a,.tup b]=>R (vf a b) (λ_=>True) M1
 | _=>False
def SR{a b:Tl}{ta:wI}(hg:Gl X "zip")(hm:X.mg "zip"=Fa)(ha:A3 X [a,b] ta)(hs:Tk [a,b] X.env=[(pc,No a X.env),(pc,No b X.env)]:=by rfl)(XM:Tk [b] X.env=[(pc,No b X.env)]:=by rfl):
  I3 X (.Tuple Xu n tp) (.Call (.Name "zip" p) [a,b] [] pos) (Um ta):=
 PI.mono (SC hg hm ha hs XM) λY H R' zz=>x7 zz λU M R hs hm ht k=>⟨U,M,_,hs,hm,ht,λvs H1 ds M1 hd W7 e1 q1=>by
  split at q1
  .obtain⟨v,u,rfl,hv,hw⟩:=Bc hd;obtain⟨l,xs,rfl,h1,h2⟩:=hv.mB;obtain⟨m,ys,rfl,g1,g2⟩:=hw.mB;exact⟨l,m,Z',⟨xs,h1⟩,⟨ys,g1⟩,k _ H1 _ _ M1 (NY h1 h2 g1 g2) W7 e1 trivial q1⟩
  .exact q1.elim⟩
def qu(M M':Mp):Prop:=∀a c,M a=ga c->M' a=ga c
def qu.refl:qu M M:=λ_ _ h=>h
def qu.trans{M M1 M2:Mp}(a:qu M M1)(b:qu M1 M2):qu M M2:=λx c h=>b x c (a x c h)
def qu.new{M:Mp}{p:lf}{c:uQ}(h:M p=Fa):qu M (o9 M p c):=λx d q=>by rw[tM (Io q h)];exact q
def qu.lst{ds:T0 D}(s:qu M M')(h:nU M a=ga ds):nU M' a=ga ds:=by
 unfold nU at h ⊢;cases e:M a with
 | none=>rw[e]at h;cases h
 | some c=>rw[s a c e];rw[e]at h;exact h
def HM.sub{K:qk}(h:HM K H M')(s:qu M M'):HM K H M:=λa c q=>h a c (s a c q)
def T8{st:xz}{sp:qY}(F:Pb K x qual st f fd)(S:sO N ps (pV st))(len:∀ds M Q,sp ds M Q->ds.length=ps.length) (Xp:∀(Xg:Vl) (A:Ar) (outer:T0 Env) (s:Sd) (H:Hp) (E:XK),rO k (A.deeper (sK qual (pV st) s.heap.objs.size f Xg))->
   ∃t,G' (vg NV P w K mg base N qual (pV st) f Xg A outer s H E).nY (rH st) t/\∀ds M Q,sp ds M Q->t {nx:=λ_ M'=>∃W9,qu W9 M'/\Q .mx W9,rt:=λd M'=>∃W9,qu W9 M'/\Q d W9} (wA N ds) M):To P w K mg base (k+1) f fd ps sp:=by
 refine F.ok S (λvs H Q E h=>?_) (λXg A outer s H vs Q' E hr h=>?_)
 .obtain⟨ds,M,Q,hd,_,hs,_⟩:=h;rw[<-hd.length];exact len ds M Q hs
 .obtain⟨ds,M,Q,hd,hm,hs,k⟩:=h;obtain⟨t,ht,hb⟩:=Xp Xg A outer s H E hr;exact⟨_,ht,wA N ds,M,_,DQ hd,hm,hb ds M Q hs,λσ' H' δ' M' _ x2 x3 _ ⟨W9,y1,y2⟩=>k .mx H' .mx W9 .mx (x2.sub y1) x3 y2,λv H' d M' x1 x2 x3 ⟨W9,y1,y2⟩=>k v H' d W9 x1 (x2.sub y1) x3 y2,λ_ _ _ _ _ _ _ _ z=>z,λ_ _ _ _ _ _ _ _ z=>z⟩
theorem BP{g:D7}{te:T3}{ok:Mp->Prop}{Q:DK}{f:D->D}{M:Mp}(J:uV->Prop)(mD:ok M):∀(ds acc:T0 D) (U:uV),J U->acc.length+ds.length<=Uf->
  (∀d∈ds,∀U,J U->∀k:uV->DK,(∀δ',J δ'->k δ' (f d) M)->g d U M λδ2 M2=>te δ2 M2 (k δ2))->(∀p,M p=Fa->Q (.ref p) (o9 M p (.lst (acc++ds.map f))))->uL g Br te ok Q ds acc U M
 | [],acc,U,_,hl,_,hq=>⟨by simpa using hl,by simpa using hq⟩
 | d::r,acc,U,hj,hl,ht,hq=>by
  rw[dY]at hl;refine⟨by lia,?_⟩;refine ht d dD U hj (λδ2 y M4=>ok M4/\uL g Br te ok Q r (acc++[y]) δ2 M4) λδ' hj'=>⟨mD,BP (f:=f) J mD r (acc++[f d]) δ' hj' ?_ (λe he=>ht e (dz _ he)) ?_⟩
  .rw[cU,dE];lia
  .simpa using hq
def qP{te:T3}{ok:Mp->Prop}{Q:DK}{f:D->D}{M:Mp}(mD:ok M):∀(ds acc:T0 D) (U:uV),acc.length+ds.length<=Uf->(∀d∈ds,∀k:DK,k (f d) M->te (U.set i (ga d)) M k)->
  (∀p,M p=Fa->Q (.ref p) (o9 M p (.lst (acc++ds.map f))))->uL (qV i) Br te ok Q ds acc U M:=λds acc U hl ht hq=>
 BP (f:=f) (λδ'=>∀d,δ'.set i (ga d)=U.set i (ga d)) mD ds acc U (λ_=>rfl) hl (λd hd δ' hj k hk=>by
  show te (δ'.set i (ga d)) M (k (δ'.set i (ga d)));rw[hj d];exact ht d hd _ (hk _ λe=>by rw[jB])) hq
theorem ye{α:Type}(f:α->Bool):∀l:List α,GE (l.map λx=>D.bl (f x))=ga (l.map f)
 | []=>rfl
 | x::r=>by show(GE (r.map λx=>D.bl (f x))).map (f x::·)=_;rw[ye f r];rfl
def pj{p:lf}{ds:T0 D}:nU (o9 M p (.lst ds)) p=ga ds:=by unfold nU;rw[pJ]
def i'{α:Type}{o:Option α}{P:α->Prop}{x:α}(e:o=ga x)(h:P x):o.elim False P:=by rw[e];exact h
def oP{l:T0 D}(h:decide (l.length<=100)=Db):l.length<=Uf:=by have z:=dH;have:=fJ h;lia
theorem Bb{g:D7}{tb:xj}{ok:Mp->Prop}{E:GO}(J:uV->Mp->Prop)(mD:∀U M,J U M->ok M):∀(ds:T0 D) (U:uV) (M:Mp),J U M->
  (∀d∈ds,∀U M,J U M->∀nx:uV->Mp->Prop,(∀δ' M',J δ' M'->nx δ' M')->g d U M λδ2 M2=>tb {E with nx:=nx,ct:=nx,bk:=E.nx} δ2 M2)->(∀U M,J U M->E.nx U M)->Fe g tb ok E ds U M
 | [],U,M,j,_,hn=>hn U M j
 | d::r,U,M,j,ht,hn=>ht d dD U M j (λδ' M'=>ok M'/\Fe g tb ok E r δ' M') λδ' M' j'=>⟨mD δ' M' j',Bb J mD r δ' M' j' (λe he=>ht e (dz _ he)) hn⟩
theorem uY{g:D7}{tb:xj}{ok:Mp->Prop}{E:GO}(all:T0 D)(J:T0 D->uV->Mp->Prop)(mD:∀p U M,J p U M->ok M):∀(ds pre:T0 D) (U:uV) (M:Mp),pre++ds=all->J pre U M->
  (∀pre d post,pre++d::post=all->∀U M,J pre U M->∀nx:uV->Mp->Prop,(∀δ' M',J (pre++[d]) δ' M'->nx δ' M')->g d U M λδ2 M2=>tb {E with nx:=nx,ct:=nx,bk:=E.nx} δ2 M2)->(∀U M,J all U M->E.nx U M)->Fe g tb ok E ds U M
 | [],pre,U,M,e,j,_,hn=>hn U M (by rw[<-e,eD];exact j)
 | d::r,pre,U,M,e,j,ht,hn=>ht pre d r e U M j (λδ' M'=>ok M'/\Fe g tb ok E r δ' M') λδ' M' j'=>⟨mD _ δ' M' j',uY all J mD r (pre++[d]) δ' M' (by rw[<-e,eN];rfl) j' ht hn⟩
def De{c:Bool}{A B:Prop}(h:c=pc)(hb:B):if c=Db then A else B:=by subst h;exact Ow hb
def yj{c:Bool}{A B:Prop}(h:c=Db)(ha:A):if c=Db then A else B:=by subst h;exact Pa ha
def Tp{t u:xj}{E:GO}{U:uV}{M:Mp}(R:uV->Mp->Prop)(h2:∀nx:uV->Mp->Prop,(∀δ' M',R δ' M'->nx δ' M')->t {E with nx:=nx} U M)(h1:∀δ' M',R δ' M'->u E δ' M'):uj t u E U M:=h2 (u E) h1
def UO{K:qk}{ns:T0 Int}(hO:MN H)(hS:xk K H a (ns.map V.int)):rJ K H (.rl (ns.map D.int)) (.ref a):=by
 have r:Ql K H a (ns.map V.int):=by
  rcases hS with h|h
  .rcases h with h|⟨o,h⟩
   .rcases hO a with z|⟨o,xs,z⟩<;>(rw[h]at z;cases z)
   .exact .inl ⟨o,h⟩
  .exact .inr h
 unfold rJ;exact⟨a,_,Z',r,.ints⟩
def S4{K:qk}{sp:qY}{ns:T0 Int}(hO:MN H)(hS:xk K H a (ns.map V.int))(h:sp [.rl (ns.map D.int)] (λ_=>Fa) λd _=>d=.bl Db):NU K sp [.ref a] H (λv _=>v=.bl Db) λ_ _ _=>False:=
 ⟨_,λ_=>Fa,_,.cons (UO hO hS) .nil,λ_ _ z=>(by cases z),h,λv H' d M' x1 _ _ x4=>by subst x4;exact x1.mq⟩
def Lx{l:W.OpenLaw}{q:Pg}{XX:QQQ}{XP:(QQZ)->Go->Prop}{YP:Wo->Go->Prop}{d:DefRec}{K:Params->qk}{x:Str}{sp:qY}(hn:l.most=ga 63)(Zu:d.params.defaults=[])(hr:rO k callerA) (hY:∀(w:Wo) (h:Go),YP w h->(K w.params).In h) (Yz:∀ns:T0 Int,ns.length<=63->sp [.rl (ns.map D.int)] (λ_=>Fa) λd _=>d=.bl Db) (F:∀(w:Wo) (mg:QQZ) (fa:lf) (h:Go),(K w.params).In h->h.Ns Ps mg->mg d.name=ga (.ref fa)->
   ∃fd:Rs,(∀(s:Sd) (u:Vl),BindsTo s fd ⟨[u],[]⟩ [(x,u)])/\∀base:Go,(K w.params).In base->base.Ns Ps mg->To l.prog w (K w.params) mg base k fa fd [x] sp):
  W.WalkO q XX XP YP l.row.toRowW d [] (λf vs=>PySem.call f vs):=
 L2.Oo (n:=63) (k:=k) (x:=x) (CX:=λ_=>NV) (sp:=λw=>NU (K w.params) sp) hn (by decide) Zu hr hY F (λ_ _ a ns hl hO hS=>S4 hO hS (Yz ns hl)) λ_ _ _ _ _ z=>z
def KD(K:qk)(mg:QQZ)(x:Str)(d:D):Prop:=CM λv u=>mg x=ga u/\qz v u/\∀H,rJ K H d v
def Sy{K:qk}{mg:QQZ}{x y:Str}{t:Tok}(h:mg x=ga (.str y t)):KD K mg x (.str y):=⟨.str y,_,h,⟨t,Z'⟩,λ_=>.str⟩
def vH{K:qk}{mg:QQZ}{x:Str}{y:Int}{t:Tok}(h:mg x=ga (.int y t)):KD K mg x (.int y):=⟨.int y,_,h,⟨t,Z'⟩,λ_=>.int⟩
def uc{K:qk}{a:lf}{ss:QQQ}{us:T0 Vl}{n:Nat}{sl:Array (Option Vl)}(h:K.lookup a=ga ⟨.type "tuple",Fa,.seq us.toArray n,sl⟩)(r:qo (ss.map V.str) us)(hz:us.length<=1000):vk K (λ_=>Fa) a (ss.map V.str):=
 .inr ⟨_,us.toArray,n,h,Z',Z',Z',by rw[dh,dH];lia,by simpa using r⟩
theorem z9{K:qk}:∀{ss:QQQ},pY K H (ss.map D.str) (ss.map V.str)
 | []=>.nil
 | _::_=>.cons .str z9
def Pn{K:qk}{mg:QQZ}{x:Str}{a:lf}{ss:QQQ}(h:mg x=ga (.ref a))(q:vk K (λ_=>Fa) a (ss.map V.str)):KD K mg x (.tup (ss.map D.str)):=
 ⟨.ref a,_,h,Z',λ_=>.tup (IZ q) z9⟩
variable {d:D}{i:Tl}{td tk:T3}{F:T0 (Str × QQQ)}
def su(hg:Gl X x)(h:KD X.K X.mg x d)(hd:zu x:=by decide):E3 X (.Name x pos) (c3 d):=by obtain⟨v,u,hm,r,hh⟩:=h;exact PE.mono (En hg hm r hd) λY H Q' zz=>x7 zz λU M Q hs hm ht k=>k _ H _ M (hh H) hm .refl ht
def VG(F:T0 (Str×QQQ))(ta:T3):T3:=λU M Q=>ta U M λx M1=>match x with|.str k=>Q (.bl (KTD.datumAt k F).isSome) M1|_=>False
def UN(F:T0 (Str×QQQ))(ta:T3):T3:=λU M Q=>ta U M λx M1=>match x with|.str k=>(KTD.datumAt k F).elim False λss=>Q (.tup (ss.map D.str)) M1|_=>False
def MM(T:K4 X.K X.mg x F)(hg:Gl X x)(he:E3 X e ta)(hd:zu x:=by decide)(hmk:wT .In (.Name x p)=pc:=by rfl):E3 X (.Compare e [.In] [.Name x p] pos) (VG F ta):=by
 obtain⟨a,hm,T⟩:=GF T;refine PE.mono (Jn (r:=λy z H Q=>∃k,y=.str k/\z=.ref a/\Q (.bl (KTD.datumAt k F).isSome) H) (λW5 s Y H y z v u Q I ry rz ⟨k,e1,e2,q⟩=>?_) he (En (v:=.ref a) hg hm Z' hd) hmk) λY H Q' zz=>x7 zz λU M Q hs hm ht k=>⟨U,M,_,hs,hm,ht,λv H1 d M1 hd W7 e1 q1=>?_⟩
 .subst e1 e2;obtain⟨t,rfl⟩:=ry;obtain rfl:u=Value.ref a:=rz;exact RI (T s.heap I.m7) ⟨.bl (KTD.datumAt k F).isSome,H,I.tok _,Z',q⟩
 .cases d with
  | str k'=>exact⟨k',hd.str_inv,Z',k _ _ _ _ .bl W7 e1 q1⟩
  | _=>exact q1.elim
def JH(T:K4 X.K X.mg x F)(hg:Gl X x)(he:E3 X e ta)(hd:zu x:=by decide)(hs:Bo e:=by exact λ_ _=>rfl):E3 X (.Subscript (.Name x p) e pos) (UN F ta):=by
 obtain⟨a,hm,T⟩:=GF T;refine PE.mono (Nu (r:=λz y H Q=>∃k ss,y=.str k/\z=.ref a/\KTD.datumAt k F=ga ss/\∀t,vk X.K H t (ss.map V.str)->Q (.ref t) H) (λvalue Xh W5 s Y H z y o i Q I rz ry ⟨k,ss,e1,e2,e3,q⟩ hs=>?_) (En (v:=.ref a) hg hm Z' hd) he hs) λY H Q' zz=>x7 zz λU M Q hs hm ht k=>⟨U,M,_,hs,hm,ht,λv H1 d M1 hd W7 e1 q1=>?_⟩
 .subst e1 e2;obtain⟨t,rfl⟩:=ry;obtain rfl:o=Value.ref a:=rz;have hT:=yw (s:=s) (T s.heap I.m7);have h2:Ch (pi X.prog X.w) X.A (W' (.ref a) (.str k t)) (EP X W5 Y Q) X.xe s:=Ml (T s.heap I.m7) e3 λv ⟨t',e4,q4⟩=>⟨.ref t',H,I.tok _,e4,q t' (IZ q4)⟩;unfold subscriptTail;refine cS ?_;rw[jY hT.not_modules];refine cS (jN hT jo.lookup ?_);have Xb:Ch (pi X.prog X.w) X.A (subscripted Xh pc (.ref a) (.str k t)) (λr s₃=>Ch (pi X.prog X.w) X.A (letTemporaryGo value (.ref a) r>>=λ_=>pure r) (EP X W5 Y Q) X.xe s₃) X.xe s:=by rw[hs];exact wpAny_operating (d6 h2 (λr s₃ h₃=>cS (kc (df h₃))) λ_ _ x=>x)
  first
   | exact df (cS Xb)
   | exact cS (df (cS Xb))
   | exact cS Xb
 .cases d with
  | str k'=>obtain⟨ss,e4,q2⟩:=qI q1;exact⟨k',ss,hd.str_inv,Z',e4,λt qt=>k _ _ _ _ (.tup qt z9) W7 e1 q2⟩
  | _=>exact q1.elim
noncomputable def xm(M:Mp)(a:lf):Option (T0 (qJ×D)):=match M a with
 | some (.dk kvs)=>ga kvs
 | _=>Fa
noncomputable def sR(kvs:T0 (qJ×D))(k:qJ):Option D:=(kvs.find? λp=>decide (p.1=k)).map (·.2)
def wm{K:qk}{kvs:T0 (qJ×D)}(hm:HM K H M)(h:xm M a=ga kvs):∃vs,H a=ga (.dK vs)/\vs.map (·.1)=kvs.map (·.1)/\pY K H (kvs.map (·.2)) (vs.map (·.2)):=by
 unfold xm at h;cases e:M a with
 | none=>rw[e]at h;cases h
 | some c=>
  rw[e]at h;have ok:=hm a c e;cases c with
  | dk es=>cases h;exact ok
  | ins _ _=>cases h
  | lst _=>cases h
  | exc _=>cases h
theorem Bp{K:qk}{k:qJ}:∀{kvs:T0 (qJ×D)} {vs:T0 (qJ×V)},vs.map (·.1)=kvs.map (·.1)->pY K H (kvs.map (·.2)) (vs.map (·.2))->(∀d,sR kvs k=ga d->∃v,wV vs k=ga v/\rJ K H d v)/\(sR kvs k=Fa->wV vs k=Fa)
 | [],[],_,_=>⟨λd z=>(by cases z),λ_=>rfl⟩
 | [],_::_,e,_=>by cases e
 | _::_,[],e,_=>by cases e
 | (j,d)::kvs,(j',v)::vs,e,h=>by
  have e1:j'=j:=by simpa using(gF e).1
  subst e1;obtain⟨x,r,e2,h1,h2⟩:=h.inv;obtain⟨e3,e4⟩:=gF e2;subst e3 e4;have ih:=Bp (k:=k) (kvs:=kvs) (vs:=vs) (gF e).2 h2;by_cases hk:j'=k
  .have g:sR ((j',d)::kvs) k=ga d:=by simp[sR,hk]
   have g':wV ((j',v)::vs) k=ga v:=by simp[wV,hk]
   rw[g,g'];exact⟨λd' z=>by cases z;exact⟨v,Z',h1⟩,λz=>by cases z⟩
  .have g:sR ((j',d)::kvs) k=sR kvs k:=by simp[sR,hk]
   have g':wV ((j',v)::vs) k=wV vs k:=by simp[wV,hk]
   rw[g,g'];exact ih
def NE(x y:D)(M:Mp)(Q:DK):Prop:=match x,y with
 | .ref a,.str k=>(xm M a).elim False λkvs=>(sR kvs (.inr k)).elim False λd=>Q d M
 | _,_=>False
def UX(td tk:T3):T3:=λU M Q=>td U M λx M1=>tk U M1 λy M2=>NE x y M2 Q
def zM(hu:X.A.units+9<IN)(ho:E3 X o td)(hi:E3 X i tk)(hs:Bo i:=by exact λ_ _=>rfl):E3 X (.Subscript o i pos) (UX td tk):=by
 refine PE.mono (Nu (r:=R3 X.K NE) (λvalue Xh W5 s Y H vx vy v u Q' I rx ry h hs=>?_) ho hi hs) Ie;obtain⟨x,y,M,Q,hx,hy,hm,q,k⟩:=h;unfold NE at q;split at q
 .rename_i a0 k0;obtain⟨kvs,e1,q⟩:=qI q;obtain⟨d,e2,q⟩:=qI q;cases hx.mj;cases hy.str_inv;obtain⟨vs,h1,h2,h3⟩:=wm hm e1;obtain⟨w,e3,hw⟩:=(Bp h2 h3).1 d e2;refine O6 (by lia) value Xh W5 s Y H _ _ v u Q' I rx ry ⟨_,w,Z',?_,k _ _ _ _ hw hm .refl q⟩ hs;have g:=AM.k (k:=Sum.inr k0) h1;rw[e3]at g;exact g
 .exact q.elim
def SB(YH:Bool)(x y:D)(M:Mp)(Q:DK):Prop:=match x,y with
 | .str k,.ref a=>(xm M a).elim False λkvs=>Q (.bl (if YH then !(sR kvs (.inr k)).isSome else(sR kvs (.inr k)).isSome)) M
 | _,_=>False
def L5{K:qk}{k:qJ}{kvs:T0 (qJ×D)}{vs:T0 (qJ×V)}(h2:vs.map (·.1)=kvs.map (·.1))(h3:pY K H (kvs.map (·.2)) (vs.map (·.2))):(wV vs k).isSome=(sR kvs k).isSome:=by
 obtain⟨a,b⟩:=Bp (k:=k) h2 h3;cases e:sR kvs k with
 | none=>rw[b e];rfl
 | some d=>obtain⟨v,e3,_⟩:=a d e;rw[e3];rfl
def VZ(YH:Bool)(tk td:T3):T3:=λU M Q=>tk U M λx M1=>td U M1 λy M2=>SB YH x y M2 Q
def Ut(hu:X.A.units+9<IN):xq X (wp .In) (R3 X.K (SB pc)):=λW5 s Y H vx vy v u Q' I rx ry h=>by
 obtain⟨x,y,M,Q,hx,hy,hm,q,k⟩:=h;unfold SB at q;split at q
 .obtain⟨kvs,e1,q⟩:=qI q;cases hy.mj;cases hx.str_inv;obtain⟨vs,h1,h2,h3⟩:=wm hm e1;refine RK (by lia) W5 s Y H _ _ v u Q' I rx ry ⟨_,_,Z',AM.k (k:=Sum.inr _) h1,?_⟩;rw[L5 h2 h3];exact k _ _ _ _ .bl hm .refl q
 .exact q.elim
def L8(hu:X.A.units+9<IN)(hi:E3 X i tk)(ho:E3 X o td)(hm:wT .In o=pc:=by first|exact Ik _|with_unfolding_all rfl):B3 X (.Compare i [.In] [o] pos) (b3 (VZ pc tk td)):=PT.mono (JB (Ut hu) hi ho hm) λY H Q' zz=>x7 zz λU M Q hs hm ht k=>
 Ie Y H _ ⟨U,M,_,hs,hm,ht,λv H1 d M1 hd W7 e1 q1=>by
  cases d with
  | bl c=>exact⟨c,hd.mq,k c H1 M1 W7 e1 q1⟩
  | _=>exact q1.elim⟩
noncomputable def wY:T0 D->Option (T0 (qJ×D))
 | []=>ga []
 | .tup [.str k,d]::r=>(wY r).map ((.inr k,d)::·)
 | _::_=>Fa
theorem DP{K:qk}:∀{es:T0 D} {kvs:T0 (qJ×D)} {xs:T0 V},wY es=ga kvs->pY K H es xs->∃(ts:QXQ) (vs:T0 (qJ×V)),xs=ts.map V.ref/\ts.length=vs.length/\vs.map (·.1)=kvs.map (·.1)/\pY K H (kvs.map (·.2)) (vs.map (·.2))/\
  ∀(j:Nat) (t:lf) (p:qJ×V),ts[j]?=ga t->vs[j]?=ga p->vk K H t [kV p.1,p.2]
 | [],_,_,e,h=>by cases e;exact⟨[],[],h.nil_inv,Z',Z',.nil,λj t p z=>by simp at z⟩
 | d::es,kvs,xs,e,h=>by
  obtain⟨x,r,rfl,h1,h2⟩:=h.inv;unfold wY at e;split at e
  .rename_i z;cases z
  .rename_i k d' r' z;cases z;cases q:wY es with
   | none=>rw[q]at e;cases e
   | some kvs'=>
    rw[q]at e;cases e;obtain⟨ts,vs,e1,e2,e3,e4,e5⟩:=DP q h2;obtain⟨a,ys,rfl,g1,g2⟩:=h1.mB;obtain⟨y,r1,rfl,g3,g4⟩:=g2.inv;obtain⟨w,r2,rfl,g5,g6⟩:=g4.inv;cases g6.nil_inv;cases g3.str_inv;refine⟨a::ts,(.inr k,w)::vs,by rw[e1];rfl,by simpa using e2,by rw[dW,dW,e3],.cons g5 e4,λj t p z1 z2=>?_⟩;cases j with
    | zero=>
     have z1':a=t:=by simpa using z1
     have z2':(Sum.inr k,w)=p:=by simpa using z2
     subst z1' z2';exact g1
    | succ j=>exact e5 j t p (by simpa using z1) (by simpa using z2)
  .cases e
def QP(ds:T0 D)(M:Mp)(Q:DK):Prop:=match ds with
 | [.ref a]=>(nU M a).elim False λes=>(wY es).elim False λkvs=>(kvs.map (·.1)).Nodup/\∀p,M p=Fa->Q (.ref p) (o9 M p (.dk kvs))
 | _=>False
def FL(hc:X.calm=Db):C3 X (.type "dict") QP:=by
 intro W5 s Y H vs us Q' I rv h;obtain⟨ds,M,Q,hd,hm,q,k⟩:=h;unfold QP at q;split at q
 .obtain⟨es,e1,q⟩:=qI q;obtain⟨kvs,e2,hnd,q⟩:=qI q;obtain⟨v,rfl,hv⟩:=rD hd;cases hv.mj;obtain⟨xs,h1,h2,_⟩:=pQ hm e1;obtain⟨ts,ws,rfl,f2,f3,f4,f5⟩:=DP e2 h2;refine HY hc W5 s Y H _ us Q' I rv ⟨_,ts,ws,Z',h1,f2,f5,by rw[f3];exact hnd,λd hd=>?_⟩;have e:qC X.K H (upd H d (.dK ws)):=.new hd;exact k _ _ _ _ .ref (hm.new (c:=.dk kvs) hd ⟨_,pR,f3,f4.mono e⟩) e (q d (hm.fresh hd))
 .exact q.elim
def R7:zn "set"=ga (.type "set"):=by decide+kernel
noncomputable def BG:T0 D->Option (QQQ)
 | []=>ga []
 | .str x::r=>(BG r).map (x::·)
 | _::_=>Fa
theorem BW:∀ss:QQQ,BG (ss.map D.str)=ga ss
 | []=>rfl
 | x::r=>by show(BG (r.map D.str)).map (x::·)=_;rw[BW r];rfl
theorem Gc{K:qk}:∀{ds:T0 D} {ss:QQQ} {xs:T0 V},BG ds=ga ss->pY K H ds xs->xs=ss.map V.str
 | [],_,_,e,h=>by cases e;exact h.nil_inv
 | d::ds,_,_,e,h=>by
  obtain⟨x,r,rfl,h1,h2⟩:=h.inv;cases d with
  | str z=>
   unfold BG at e;cases q:BG ds with
   | none=>rw[q]at e;cases e
   | some ss=>rw[q]at e;cases e;rw[h1.str_inv,Gc q h2];rfl
  | _=>cases e
def T6(ta:T3):T3:=λU M Q=>ta U M λx M1=>(Ln M1 x).elim False λes=>(BG es).elim False λss=>ss.length<4000/\Q (.int (s8 ss).length) M1
def Kv(hc:X.calm=Db)(he:E3 X e ta)(hg1:Gl X "len")(W7:X.mg "len"=Fa)(hg2:Gl X "set")(Xk:X.mg "set"=Fa)(b1:zn "len"=ga (.builtin "len"))(b2:zn "set"=ga (.type "set")) (hs:Tk [e] X.env=[(pc,No e X.env)]:=by rfl):E3 X (.Call (.Name "len" p) [.Call (.Name "set" p2) [e] [] YT] [] pos) (T6 ta):=
 PE.mono (J7 hc he hg1 W7 hg2 Xk b1 b2 hs) λY H Q' zz=>x7 zz λU M Q hs hm ht k=>⟨U,M,_,hs,hm,ht,λv H1 d M1 hd W7 e1 q1=>by
  obtain⟨es,e2,q1⟩:=qI q1;obtain⟨ss,e3,hz,q1⟩:=qI q1;obtain⟨a,xs,rfl,h1,h2⟩:=Ez W7 hd e2;rw[Gc e3 h2]at h1;have z:XXc=4096:=rfl;exact⟨a,ss,Z',h1,by lia,k _ _ _ _ .int W7 e1 q1⟩⟩
def RZ(x:D)(ds:T0 D)(M:Mp)(Q:DK):Prop:=match x,ds with
 | .ref a,[y]=>(nU M a).elim False λes=>es.length<Uf/\Q .mx (o9 M a (.lst (es++[y])))
 | _,_=>False
def pP{es:T0 D}(h:nU M a=ga es):M a=ga (.lst es):=by
 unfold nU at h;split at h
 .rename_i e;rw[e];cases h;rfl
 .cases h
def FP{K:qk}{es:T0 D}(hm:HM K H M)(h:nU M a=ga es):∃xs,H a=ga (.lst xs)/\pY K H es xs:=hm a _ (pP h)
def KH:M3 X "list.append" RZ:=by
 intro W5 s Y H vx vs v us Q' I rx rv h;obtain⟨x,ds,M,Q,hx,hd,hm,q,k⟩:=h;unfold RZ at q;split at q
 .obtain⟨es,e1,hz,q⟩:=qI q;obtain⟨w,rfl,hw⟩:=rD hd;cases hx.mj;obtain⟨xs,h1,h2⟩:=FP hm e1;refine J' W5 s Y H _ _ v us Q' I rx rv ⟨_,xs,w,Z',Z',h1,by rw[<-h2.length];exact hz,?_⟩;obtain⟨Xk,ex⟩:=hm.put (c:=.lst (es++[_])) (pP e1) λex=>⟨_,pR,(h2.mono ex).snoc (hw.mono ex)⟩;exact k _ _ _ _ .mx Xk ex q
 .exact q.elim
def qM(ho:E3 X o ta)(ha:A3 X (e::es) t)(Xq:wE o "append" X.env (No o X.env)=No o X.env:=by rfl)
  (Yo:((At pos (Tk (e::es) X.env)).all (λx=>!x.1)&&(dL pos (Op [] X.env)).all (λx=>x.1.isSome)&&decide ((e::es).length+([]:T0 Z9).length+(if ([]:T0 Z9).isEmpty then 0 else 1)<30))=Db:=by rfl)
  (XB:(W8.endLine==pos.line)=Db:=by rfl) (hs:AE X e es:=by rfl) (Xn:Ce X pos es:=by rfl):
  E3 X (.Call (.Attribute o "append" W8) (e::es) [] pos) (VX RZ ta t):=QT PySem.F.slot_list_append PySem.F.type_list_append KH ho ha Xq Yo XB hs Xn
def qu.none{M M2:Mp}{q:lf}(s:qu M M2)(h:M2 q=Fa):M q=Fa:=by
 cases e:M q with
 | none=>rfl
 | some c=>rw[s q c e]at h;cases h
def qu.upd{M M2:Mp}{c:uQ}(s:qu M M2):qu (o9 M q c) (o9 M2 q c):=λx d h=>by
 by_cases e:x=q
 .subst e;rw[pJ]at h ⊢;exact h
 .rw[tM e]at h ⊢;exact s x d h
def qu.dk{ds:T0 (qJ×D)}(s:qu M M')(h:xm M a=ga ds):xm M' a=ga ds:=by
 unfold xm at h ⊢;cases e:M a with
 | none=>rw[e]at h;cases h
 | some c=>rw[s a c e];rw[e]at h;exact h
def Bu{p:lf}{ds:T0 (qJ×D)}:xm (o9 M p (.dk ds)) p=ga ds:=by unfold xm;rw[pJ]
def rg(p:lf)(M M':Mp):Prop:=∀b c,b≠p->M b=ga c->M' b=ga c
def qu.keep{p:lf}(s:qu M M'):rg p M M':=λb c _ h=>s b c h
def rg.trans{M M1 M2:Mp}{p:lf}(a:rg p M M1)(b:rg p M1 M2):rg p M M2:=λx c n h=>b x c n (a x c n h)
def rg.put{p:lf}{c:uQ}:rg p M (o9 M p c):=λb d n h=>by rw[tM n];exact h
def rg.lst{p a:lf}{ds:T0 D}(k:rg p M M')(n:a≠p)(h:nU M a=ga ds):nU M' a=ga ds:=by have:=k a _ n (pP h);unfold nU;rw[this]
def rg.dk{p a:lf}{ds:T0 (qJ×D)}(k:rg p M M')(n:a≠p)(h:xm M a=ga ds):xm M' a=ga ds:=by
 unfold xm at h ⊢;cases e:M a with
 | none=>rw[e]at h;cases h
 | some c=>rw[k a c n e];rw[e]at h;exact h
def pK{a p C:lf}{ds:T0 D}{fs:T0 (Str×D)}(h:nU M a=ga ds)(hp:M p=ga (.ins C fs)):a≠p:=λz=>by subst z;rw[pP h]at hp;cases hp
def BU{a p C:lf}{ds:T0 (qJ×D)}{fs:T0 (Str×D)}(h:xm M a=ga ds)(hp:M p=ga (.ins C fs)):a≠p:=λz=>by subst z;unfold xm at h;rw[hp]at h;cases h
def sy{M:Mp}{p:lf}{ds:T0 D}(h:M p=ga (.lst ds)):nU M p=ga ds:=by unfold nU;rw[h]
def Ec{M:Mp}{p:lf}{ds:T0 (qJ×D)}(h:M p=ga (.dk ds)):xm M p=ga ds:=by unfold xm;rw[h]
def sQ{N:Mp}{p q C:lf}{fs fs':T0 (Str×D)}{c:uQ}(hp:N p=ga (.ins C fs))(hq:N q=Fa):
  q≠p/\o9 N q c p=ga (.ins C fs)/\rg p N (o9 (o9 N q c) p (.ins C fs'))/\o9 (o9 N q c) p (.ins C fs') q=ga c/\o9 (o9 N q c) p (.ins C fs') p=ga (.ins C fs'):=by
 have n:p≠q:=Io hp hq;refine⟨dQ n,by rw[tM n];exact hp,(qu.new hq).keep.trans .put,by rw[tM (dQ n),pJ],pJ⟩
theorem wO{g:D7}{te:T3}{ok:Mp->Prop}{Q:DK}(all:T0 D)(J:T0 D->T0 D->uV->Mp->Prop)(mD:∀p acc U M,J p acc U M->ok M):∀(ds pre acc:T0 D) (U:uV) (M:Mp),pre++ds=all->acc.length+ds.length<=Uf->J pre acc U M->
  (∀pre d post,pre++d::post=all->∀acc U M,J pre acc U M->∀k:uV->DK,(∀δ2 y M4,J (pre++[d]) (acc++[y]) δ2 M4->k δ2 y M4)->g d U M λδ2 M2=>te δ2 M2 (k δ2))->
  (∀acc U M,J all acc U M->∀p,M p=Fa->Q (.ref p) (o9 M p (.lst acc)))->uL g Br te ok Q ds acc U M
 | [],pre,acc,U,M,e,hl,j,_,hq=>⟨by simpa using hl,hq acc U M (by rw[<-e,eD];exact j)⟩
 | d::r,pre,acc,U,M,e,hl,j,ht,hq=>by rw[dY]at hl;refine⟨by lia,?_⟩;refine ht pre d r e acc U M j (λδ2 y M4=>ok M4/\uL g Br te ok Q r (acc++[y]) δ2 M4) λδ2 y M4 j'=>⟨mD _ _ _ _ j',wO all J mD r (pre++[d]) (acc++[y]) δ2 M4 (by rw[<-e,eN];rfl) ?_ j' ht hq⟩;rw[cU,dE];lia
noncomputable def NO:Nat->D->Bool
 | _,.mx=>Db
 | _,.bl _=>Db
 | _,.int _=>Db
 | _,.str _=>Db
 | n+1,.tup ds=>ds.all (NO n)
 | _,_=>pc
theorem yJ{f:D->D->Option Bool}:∀ds:T0 D,(∀d∈ds,f d d=ga Db)->so f ds ds=ga Db
 | [],_=>rfl
 | d::r,h=>by show(f d d).bind (λp=>(so f r r).map λq=>p&&q)=ga Db;rw[h d dD,yJ r λe he=>h e (dz _ he)];rfl
theorem F9:∀(n:Nat) (d:D),NO n d=Db->yA M (n+1) d d=ga Db
 | _,.mx,_=>rfl
 | _,.bl _,_=>by simp[yA]
 | _,.int _,_=>by simp[yA]
 | _,.str _,_=>by simp[yA]
 | n+1,.tup ds,h=>by have h:ds.all (NO n)=Db:=h;show(so (yA M (n+1)) ds ds).map (λp=>p&&ds.length==ds.length)=ga Db;rw[yJ ds λd hd=>F9 n d (eS.mp h d hd)];simp
 | 0,.tup _,h=>by cases h
 | 0,.ref _,h=>by cases h
 | _+1,.ref _,h=>by cases h
 | 0,.ty _,h=>by cases h
 | _+1,.ty _,h=>by cases h
 | 0,.rl _,h=>by cases h
 | _+1,.rl _,h=>by cases h
def Kp{ds:T0 D}(ha:nU M a=ga ds)(hb:nU M b=ga ds)(h:∀d∈ds,yA M n d d=ga Db):yA M (n+1) (.ref a) (.ref b)=ga Db:=by show(nU M a).bind (λi=>(nU M b).bind λj=>if i.length=j.length then so (yA M n) i j else ga pc)=ga Db;rw[ha,hb];show(if ds.length=ds.length then so (yA M n) ds ds else ga pc)=ga Db;rw[cX Z'];exact yJ ds h
def Sx(tc:Am)(tb:xj):xj:=λE U M=>∃W:Nat->uV->Mp->Prop,(∃m,W m U M)/\∀m U M,W m U M->
 tc U M λb M1=>if b=Db then tb {E with nx:=λδ' M'=>∃m',m'<m/\W m' δ' M',ct:=λδ' M'=>∃m',m'<m/\W m' δ' M',bk:=E.nx} U M1 else E.nx U M1
def K2{tc:Am}{tb:xj}(hp:PassesOwn (pi X.prog X.w) X.A X.env X.xe)(hc:B3 X c tc)(hb:G' X body tb):S3 X (.While c body [] pos) (Sx tc tb):=
 PS.mono (L4 hp hc hb) λD' Y H ⟨U,M,E,hs,hm,⟨W,⟨m0,w0⟩,turn⟩,k1,k2,k3,k4⟩=>by
 refine⟨λm σ' H'=>∃δ' M',zP X.K H' σ' δ'/\HM X.K H' M'/\qC X.K H H'/\σ'.length=Y.length/\W m δ' M',⟨m0,U,M,hs,hm,.refl,Z',w0⟩,?_⟩
 rintro m σ1 H1 ⟨δ1,M1,ZT,W7,e1,l1,w1⟩
 refine⟨δ1,M1,_,ZT,W7,turn m δ1 M1 w1,λb H2 M2 Xk e2 q2=>?_⟩;cases b with
 | false=>rw[cW dv]at q2 ⊢;exact k1 σ1 H2 δ1 M2 (ZT.mono e2) Xk (e1.trans e2) l1 q2
 | true=>
  rw[cX Z']at q2 ⊢;refine⟨λσ' H'=>∃δ' M',zP X.K H' σ' δ'/\HM X.K H' M'/\qC X.K H H'/\σ'.length=Y.length/\∃m',m'<m/\W m' δ' M',?_,δ1,M2,_,ZT.mono e2,Xk,q2,?_,?_,?_,?_⟩
  .rintro σ' H' ⟨δ',M',a1,a2,a3,a4,m',lt,w⟩
   exact⟨m',lt,δ',M',a1,a2,a3,a4,w⟩
  .exact λσ' H' δ' M' y1 y2 y3 y4 y5=>⟨δ',M',y1,y2,e1.trans (e2.trans y3),by rw[y4,l1],y5⟩
  .exact λv H' d M' y1 y2 y3 y4=>k2 v H' d M' y1 y2 (e1.trans (e2.trans y3)) y4
  .exact λσ' H' δ' M' y1 y2 y3 y4 y5=>k1 σ' H' δ' M' y1 y2 (e1.trans (e2.trans y3)) (by rw[y4,l1]) y5
  .exact λσ' H' δ' M' y1 y2 y3 y4 y5=>⟨δ',M',y1,y2,e1.trans (e2.trans y3),by rw[y4,l1],y5⟩
noncomputable def Sg(op:XXf)(x y:D):Option D:=match op,x,y with
 | .Add,.int i,.int j=>ga (.int (i+j))
 | .Sub,.int i,.int j=>ga (.int (i - j))
 | _,_,_=>Fa
def Q7(op:XXf):V->V->Hp->VK->Prop:=λvx vy H Q=>match op,vx,vy with
 | .Add,.int i,.int j=>Q (.int (i+j)) H
 | .Sub,.int i,.int j=>Q (.int (i - j)) H
 | _,_,_=>False
def SO:Oj X op (Q7 op):=by
 intro W5 s Y H x y u v Q I rx ry h;unfold Q7 at h;split at h
 .exact Q5 W5 s Y H _ _ u v Q I rx ry ⟨_,_,Z',Z',h⟩
 .exact SE W5 s Y H _ _ u v Q I rx ry ⟨_,_,Z',Z',h⟩
 .exact h.elim
def P0{K:qk}{x y z:D}{Q:VK}(hx:rJ K H x vx)(hy:rJ K H y vy)(e:Sg op x y=ga z)(k:∀vz,rJ K H z vz->Q vz H):Q7 op vx vy H Q:=by
 unfold Sg at e;split at e
 .cases e;cases hx.int_inv;cases hy.int_inv;exact k _ .int
 .cases e;cases hx.int_inv;cases hy.int_inv;exact k _ .int
 .cases e
def Vb(K:qk)(f:Str)(op:XXf)(ta tv:T3):xj:=λE U M=>ta U M λx M1=>match x with
 | .ref a=>Af (M1 a) λC fs=>tP K C f/\(fs.lookup f).elim False λd=>tv U M1 λy M2=>(Sg op d y).elim False λz=>Af (M2 a) λC' fs'=>C'=C/\fs'.length<1000/\E.nx U (o9 M2 a (.ins C (vK f z fs')))
 | _=>False
def D4{f:Str}(ha:E3 X o ta)(hv:E3 X value tv):S3 X (.AugAssign (.Attribute o f Zc) op value pos) (Vb X.K f op ta tv):=
 PS.mono (KI ha hv SO) λD' Y H zz=>JR zz λU M E hs hm ht k1 k2 k3 k4=>
 ⟨U,M,_,hs,hm,ht,λv H1 d M1 hd W7 e1 q1=>by
  cases d with
  | ref a=>
   cases hd.mj;obtain⟨C,fs,e,q1⟩:=xH q1;obtain⟨na,q1⟩:=q1;obtain⟨d,ed,q1⟩:=qI q1;obtain⟨dx,vs,h1,cl,nn,fo⟩:=W7 a _ e;obtain⟨w,ew,hw⟩:=(ww fo).1 d ed;refine⟨a,C,dx,vs,w,Z',h1,cl,na,ew,U,M1,_,hs.mono e1,W7,q1,λu H2 y M2 hy Xk e2 q2=>?_⟩;obtain⟨z,ez,q2⟩:=qI q2;obtain⟨C',fs',e',q2⟩:=xH q2;obtain⟨rfl,hl,q2⟩:=q2;refine P0 (hw.mono e2) hy ez λvz hz=>?_;obtain⟨ZI,vs',XQ,cl',nn',fo'⟩:=Xk a _ e';have Xa:vs'.length=fs'.length:=by have:=eC List.length fo'.1;simpa using this
   refine⟨ZI,vs',XQ,by lia,?_⟩;obtain⟨Xz,e3⟩:=Xk.put (p:=a) (o:=.ins C' ZI (vn f vz vs')) (c:=.ins C' (vK f z fs')) e' λx=>⟨ZI,_,pR,cl',λg hg=>by
    rcases B0 hg with q|q
    .rw[q];exact na
    .exact nn' g q,Er (hz.mono x) (fo'.mono x)⟩
   exact k1 Y _ U _ (hs.mono (e1.trans (e2.trans e3))) Xz (e1.trans (e2.trans e3)) Z' q2
  | _=>exact q1.elim⟩
theorem tz{i:Nat}{tt:Am}{te:T3}{ok:Mp->Prop}{Q:DK}{f:D->D}{t:D->Bool}{M:Mp}(mD:ok M):∀(ds acc:T0 D) (U:uV),acc.length+ds.length<=Uf->
  (∀d∈ds,∀k:Bool->Mp->Prop,k (t d) M->tt (U.set i (ga d)) M k)->(∀d∈ds,t d=Db->∀k:DK,k (f d) M->te (U.set i (ga d)) M k)->
  (∀p,M p=Fa->Q (.ref p) (o9 M p (.lst (acc++(ds.filter t).map f))))->uL (qV i) tt te ok Q ds acc U M
 | [],acc,U,hl,_,_,hq=>⟨by simpa using hl,by simpa using hq⟩
 | d::r,acc,U,hl,ht,he,hq=>by
  rw[dY]at hl;refine⟨by lia,?_⟩;show tt (U.set i (ga d)) M _;refine ht d dD _ ?_;have z:∀e:D,(U.set i (ga d)).set i (ga e)=U.set i (ga e):=λe=>by rw[jB]
  cases q:t d with
  | true=>
   rw[cX Z'];refine he d dD q _ ⟨mD,tz (f:=f) (t:=t) mD r (acc++[f d]) _ ?_ (λe m k h=>?_) (λe m h0 k h=>?_) ?_⟩
   .rw[cU,dE];lia
   .rw[z];exact ht e (dz _ m) k h
   .rw[z];exact he e (dz _ m) h0 k h
   .intro p hp;have:=hq p hp;rw[gS q]at this
    simpa using this
  | false=>
   rw[cW dv];refine⟨mD,tz (f:=f) (t:=t) mD r acc _ (by lia) (λe m k h=>?_) (λe m h0 k h=>?_) ?_⟩
   .rw[z];exact ht e (dz _ m) k h
   .rw[z];exact he e (dz _ m) h0 k h
   .intro p hp;have:=hq p hp;rw[gT (by rw[q];exact dv)]at this;exact this
section
variable {a:Tl}
def V8(ta:T3):T3:=λU M Q=>ta U M λx M1=>match x with|.int i=>Q (.int (-i)) M1|_=>False
def Fx(ha:E3 X a ta):E3 X (.UnaryOp .USub a pos) (V8 ta):=PE.mono (UQ Rb ha) λY H Q' zz=>x7 zz λU M Q hs hm ht k=>
 ⟨U,M,_,hs,hm,ht,λv H1 d M1 hd W7 e1 q1=>by
  cases d with
  | int i=>cases hd.int_inv;exact⟨i,Z',k _ H1 _ M1 .int W7 e1 q1⟩
  | _=>exact q1.elim⟩
end
end L3
namespace L2
open PySem.W
variable {prog:Pg}{w:Wo}{A:Ar}{E:QQX}{s:Sd}
def JY:zn "sorted"=ga (.builtin "sorted"):=by decide+kernel
end L2
namespace L3
open L2
variable {X:Cx}{pos:Pos}{a b o i:Tl}{ta tb ti to:T3}
def Tt(to ti:T3):D7:=λd U M Q=>to U M λx M1=>ti U M1 λy M2=>match x,y with
 | .ref p,.int k=>(nU M2 p).elim False λes=>(G7 es.length k).elim False λj=>Q U (o9 M2 p (.lst (es.set j d)))
 | _,_=>False
theorem pY.set{K:qk}(hv:rJ K H d v):∀{ds:T0 D} {xs:T0 V} (j:Nat),pY K H ds xs->pY K H (ds.set j d) (xs.set j v)
 | [],_,j,h=>by rw[h.nil_inv];simp only[List.set_nil];exact .nil
 | e::ds,_,0,h=>by obtain⟨x,r,rfl,h1,h2⟩:=h.inv;exact .cons hv h2
 | e::ds,_,j+1,h=>by obtain⟨x,r,rfl,h1,h2⟩:=h.inv;exact .cons h1 (pY.set hv j h2)
def Q8(ho:E3 X o to)(hi:E3 X i ti) (ha:∀v,assign (.Subscript o i pos) X.env v=(do
   let ov<-Ix [v] (No o X.env);let iv<-Ix [v,ov] (No i X.env)
   u8 pos
   Ix [v,ov,iv] (setItem ov iv v)
   release [v,ov,iv] []):=by intro _;rfl):G3 X (.Subscript o i pos) (Tt to ti):=
 PG.mono (RT ho hi NR ha) λv Y H Q' ⟨d,U,M,Q,hd,hs,hm,ht,k⟩=>
 ⟨U,M,_,hs,hm,ht,λvx H1 x M1 hx W7 e1 q1=>⟨U,M1,_,hs.mono e1,W7,q1,λvy H2 y M2 hy Xk e2 q2=>by
  cases x with
  | ref p=>
   cases y with
   | int j0=>obtain⟨es,f1,q2⟩:=qI q2;obtain⟨j,f2,q2⟩:=qI q2;cases(hx.mono e2).mj;cases hy.int_inv;obtain⟨xs,h1,h2⟩:=FP Xk f1;refine⟨p,xs,j0,j,Z',Z',h1,by rw[<-h2.length];exact f2,?_⟩;have hd2:=hd.mono (e1.trans e2);obtain⟨Xz,e3⟩:=Xk.put (o:=.lst (xs.set j v)) (c:=.lst (es.set j d)) (pP f1) λex=>⟨_,pR,(h2.mono ex).set (hd2.mono ex) j⟩;exact k Y _ U _ (hs.mono (e1.trans (e2.trans e3))) Xz (e1.trans (e2.trans e3)) Z' q2
   | _=>exact q2.elim
  | _=>exact q2.elim⟩⟩
def Uz(ds:T0 D)(M:Mp)(Q:DK):Prop:=match ds with
 | [.int i]=>Q (.int i) M
 | [.bl k]=>Q (.int (if k then 1 else 0)) M
 | _=>False
def SA:C3 X (.type "int") Uz:=by
 intro W5 s Y H vs us Q' I rv h;obtain⟨ds,M,Q,hd,hm,q,k⟩:=h;unfold Uz at q;split at q
 .obtain⟨v,rfl,hv⟩:=rD hd;cases hv.int_inv;exact DX W5 s Y H _ us Q' I rv (.inl ⟨_,Z',k _ _ _ _ .int hm .refl q⟩)
 .obtain⟨v,rfl,hv⟩:=rD hd;cases hv.mq;exact DX W5 s Y H _ us Q' I rv (.inr ⟨_,Z',k _ _ _ _ .int hm .refl q⟩)
 .exact q.elim
end L3
namespace L2
variable {prog:Pg}{w:Wo}{A:Ar}{E:QQX}{s:Sd}{X:Cx}
end L2
namespace L3
open L2
variable {X:Cx}{pos W8 p:Pos}{a b o e i value:Tl}{es:T0 Tl}{ta tb ti to tv td tk:T3}{t:wI}
def Rx(x y:D)(M:Mp)(Q:DK):Prop:=match x,y with
 | .ref a,.int k=>(nU M a).elim False λes=>(0<=k/\k<=1000/\es.length<=1000)/\∀p,M p=Fa->Q (.ref p) (o9 M p (.lst (List.replicate k.toNat es).flatten))
 | _,_=>False
theorem IC{K:qk}(h:pY K H ds xs):∀n:Nat,pY K H (List.replicate n ds).flatten (List.replicate n xs).flatten
 | 0=>.nil
 | n+1=>by rw[eh,eh,fG,fG];exact h.append (IC h n)
def SN:xq X (wP .Mult) (R3 X.K Rx):=λW5 s Y H vx vy v u Q' I rx ry h=>by
 obtain⟨x,y,M,Q,hx,hy,hm,q,k⟩:=h;unfold Rx at q;split at q
 .obtain⟨es,e1,⟨q1,q2,q3⟩,q⟩:=qI q;cases hx.mj;cases hy.int_inv;obtain⟨xs,h1,h2⟩:=FP hm e1;have hz:=dH;have hl:=h2.length;refine RB W5 s Y H _ _ v u Q' I rx ry ⟨_,_,xs,Z',Z',h1,by lia,by lia,?_,λpp hp=>?_⟩
  .exact dS (jZ (show xs.length<=1000 by lia) (show Int.toNat _<=1000 by lia)) (by rw[hz];decide)
  .exact k _ _ _ _ .ref (hm.new (c:=.lst _) hp ⟨_,pR,(IC h2 _).mono (.new hp)⟩) (.new hp) (q pp (hm.fresh hp))
 .exact q.elim
def T5(ta tb:T3):T3:=λU M Q=>ta U M λx M1=>tb U M1 λy M2=>Rx x y M2 Q
def By(ha:E3 X a ta)(hb:E3 X b tb):E3 X (.BinOp a .Mult b pos) (T5 ta tb):=PE.mono (QZ SN ha hb) Ie
def UA:T3:=λ_ M Q=>∀p,M p=Fa->Q (.ref p) (o9 M p (.dk []))
def NX:E3 X (.Dict [] [] pos) UA:=PE.mono LD λY H Q' zz=>x7 zz λU M Q hs hm ht k=>λp hp=>by have ex:qC X.K H (upd H p (.dK [])):=.new hp;exact k _ _ _ _ .ref (hm.new (c:=.dk []) hp ⟨[],pR,Z',.nil⟩) ex (ht p (hm.fresh hp))
noncomputable def wn(kvs:T0 (qJ×D))(k:qJ)(v:D):T0 (qJ×D):=if (kvs.any λkv=>decide (kv.1=k))=Db then kvs.map (λkv=>if kv.1=k then(kv.1,v)else kv)else kvs++[(k,v)]
theorem G0{κ α β:Type}{k:κ}[DecidableEq κ]:∀{xs:T0 (κ×α)} {ys:T0 (κ×β)},xs.map (·.1)=ys.map (·.1)->(xs.any λkv=>decide (kv.1=k))=ys.any λkv=>decide (kv.1=k)
 | [],[],_=>rfl
 | [],_::_,e=>by cases e
 | _::_,[],e=>by cases e
 | x::xs,y::ys,e=>by obtain⟨e1,e2⟩:=gF e;rw[fX,fX,G0 e2];have e1:x.1=y.1:=e1;rw[e1]
def DJ{K:qk}{k:qJ}(hv:rJ K H d v){kvs:T0 (qJ×D)}{vs:T0 (qJ×V)}(h1:vs.map (·.1)=kvs.map (·.1))(h2:pY K H (kvs.map (·.2)) (vs.map (·.2))):
  (yh vs k v).map (·.1)=(wn kvs k d).map (·.1)/\pY K H ((wn kvs k d).map (·.2)) ((yh vs k v).map (·.2)):=by
 have go:∀{kvs:T0 (qJ×D)} {vs:T0 (qJ×V)},vs.map (·.1)=kvs.map (·.1)->pY K H (kvs.map (·.2)) (vs.map (·.2))->
   (vs.map (λkv=>if kv.1=k then(kv.1,v)else kv)).map (·.1)=(kvs.map (λkv=>if kv.1=k then(kv.1,d)else kv)).map (·.1)/\pY K H ((kvs.map (λkv=>if kv.1=k then(kv.1,d)else kv)).map (·.2)) ((vs.map (λkv=>if kv.1=k then(kv.1,v)else kv)).map (·.2)):=λ{kvs}=>by
  induction kvs with
  | nil=>intro vs e h;cases vs with
   | nil=>exact⟨Z',.nil⟩
   | cons _ _=>cases e
  | cons c r ih=>intro vs e h;cases vs with
   | nil=>cases e
   | cons w ws=>
    obtain⟨e1,e2⟩:=gF e;obtain⟨x,xr,e3,g1,g2⟩:=h.inv;obtain⟨e4,e5⟩:=gF e3;subst e4 e5;obtain⟨i1,i2⟩:=ih e2 g2;have e1:w.1=c.1:=e1;by_cases hk:c.1=k
    .have w1:(if w.1=k then(w.1,v)else w)=(w.1,v):=cX (e1.trans hk);have w2:(if c.1=k then(c.1,d)else c)=(c.1,d):=cX hk;simp only[dW,w1,w2];exact⟨by rw[i1,e1],.cons hv i2⟩
    .have w1:(if w.1=k then(w.1,v)else w)=w:=cW λz=>hk (e1.symm.trans z);have w2:(if c.1=k then(c.1,d)else c)=c:=cW hk;simp only[dW,w1,w2];exact⟨by rw[i1,e1],.cons g1 i2⟩
 unfold yh wn;rw[G0 (k:=k) h1];by_cases hk:(kvs.any λkv=>decide (kv.1=k))=Db
 .rw[cX hk,cX hk];exact go h1 h2
 .rw[cW hk,cW hk];exact⟨by rw[dF,dF,h1];rfl,by rw[dF,dF];exact h2.append (.cons hv .nil)⟩
def TJ(td tk tv:T3):xj:=λD U M=>tv U M λv M1=>td U M1 λx M2=>tk U M2 λy M3=>match x,y with
 | .ref a,.str k=>(xm M3 a).elim False λkvs=>kvs.length<Uf/\D.nx U (o9 M3 a (.dk (wn kvs (.inr k) v)))
 | _,_=>False
def wx{a:lf}{kvs:T0 (qJ×D)}(h:xm M a=ga kvs):M a=ga (.dk kvs):=by
 unfold xm at h;split at h
 .rename_i e;rw[e];cases h;rfl
 .cases h
def NW(hu:X.A.units+9<IN)(ho:E3 X o td)(hi:E3 X i tk)(hv:E3 X value tv)(hs:wv value (ga (.Subscript o i Xd)) pos.line X.env=pure pc:=by rfl):S3 X (.Assign [.Subscript o i Xd] value pos) (TJ td tk tv):=
 PS.mono (Iy (by lia) ho hi hv hs) λD' Y H zz=>JR zz λU M D hs hm ht k1 k2 k3 k4=>
 ⟨U,M,_,hs,hm,ht,λv H1 d M1 hd W7 e1 q1=>⟨U,M1,_,hs.mono e1,W7,q1,λvx H2 x M2 hx Xk e2 q2=>⟨U,M2,_,hs.mono (e1.trans e2),Xk,q2,λvy H3 y M3 hy Xz e3 q3=>by
  split at q3
  .rename_i a0 k0;obtain⟨kvs,f1,f2,q3⟩:=qI q3;cases(hx.mono e3).mj;cases hy.str_inv;obtain⟨vs,h1,h2,h3⟩:=wm Xz f1;have hl:vs.length=kvs.length:=by have:=eC List.length h2;simpa using this
   refine⟨_,_,Z',Kh.k (k:=Sum.inr k0) h1 (by lia),?_⟩;have hd3:=hd.mono (e2.trans e3);obtain⟨ZV,e4⟩:=Xz.put (o:=.dK (yh vs (Sum.inr k0) v)) (c:=.dk (wn kvs (.inr k0) d)) (wx f1) λex=>by obtain⟨g1,g2⟩:=DJ (k:=Sum.inr k0) (hd3.mono ex) h2 (h3.mono ex);exact⟨_,pR,g1,g2⟩
   exact k1 Y _ U _ (hs.mono (e1.trans (e2.trans (e3.trans e4)))) ZV (e1.trans (e2.trans (e3.trans e4))) Z' q3
  .exact q3.elim⟩⟩⟩
noncomputable def V9:D->Option qJ
 | .int i=>ga (.inl i)
 | .str x=>ga (.inr x)
 | _=>Fa
noncomputable def VI(M:Mp)(a:lf):Bool:=(xm M a).isSome
def R1(td tk tx:T3):T3:=λU M Q=>td U M λx M1=>match x with
 | .ref a=>VI M1 a=Db/\tk U M1 λy M2=>tx U M2 λz M3=>(V9 y).elim False λk=>(xm M3 a).elim False λkvs=>Q ((sR kvs k).getD z) M3
 | _=>False
def LH{f:Tl}(hu:X.A.units+9<IN)(ho:E3 X o td)(he:E3 X e tk)(hf:E3 X f tx)(m:M2 X o "get" W8 e f pos):E3 X (.Call (.Attribute o "get" W8) [e,f] [] pos) (R1 td tk tx):=
 PE.mono (Lm (by lia) ho he hf m) λY H Q' zz=>x7 zz λU M Q hs hm ht k=>⟨U,M,_,hs,hm,ht,λv H1 x M1 hx W7 e1 q1=>by
  cases x with
  | ref a=>
   cases hx.mj;obtain⟨hk,q1⟩:=q1;obtain⟨kv0,hk⟩:=io.mp hk;obtain⟨vs0,g1,_⟩:=wm W7 hk;refine⟨a,Z',.inl ⟨vs0,.inl g1⟩,U,M1,_,hs.mono e1,W7,q1,λvy H2 y M2 hy Xk e2 q2=>⟨U,M2,_,hs.mono (e1.trans e2),Xk,q2,λvz H3 z M3 hz Xz e3 q3=>?_⟩⟩;obtain⟨kk,f1,q3⟩:=qI q3;obtain⟨kvs,f2,q3⟩:=qI q3;obtain⟨vs,h1,h2,h3⟩:=wm Xz f2;have ey:vy=kV kk:=by
    cases y with
    | int j=>cases f1;exact hy.int_inv
    | str j=>cases f1;exact hy.str_inv
    | _=>cases f1
   subst ey;refine⟨_,AM.k (k:=kk) h1,?_⟩;obtain⟨p1,p2⟩:=Bp (k:=kk) h2 h3;cases ez:sR kvs kk with
   | none=>rw[p2 ez];rw[ez]at q3;exact k _ _ _ _ hz Xz (e1.trans (e2.trans e3)) q3
   | some d=>obtain⟨w,e5,hw⟩:=p1 d ez;rw[e5];rw[ez]at q3;exact k _ _ _ _ hw Xz (e1.trans (e2.trans e3)) q3
  | _=>exact q1.elim⟩
variable {W5:T0 (lf × Obj)}{Y:St}{H:Hp}{s:Sd}
def Rj{a b:lf}(I:Inv X W5 Y H s)(f:zC X W5 H b)(q:xk X.K H a xs):a≠b:=by
 rintro rfl
 rcases q with q|⟨o,its,n,hk,_⟩
 .have z:=f.1;rcases q with q|⟨u,q⟩<;>(rw[q]at z;cases z)
 .have e:=I.mod.nQ a o hk;rcases f.2.2.2.1 with z|z
  .exact I.ok.nz a o e z
  .exact absurd (dJ (dA e) (dS I.ok.nI z)) (eO _)
def WT:ZK xk Heap.IsListIter Heap.IsList where
 gt:=λI h=>(I.list h).imp λ_ z=>⟨z.1,z.2.1.isList⟩
 ij:=λI h g=>I.nk h g
 ne:=Rj
 dr:=Draws.list
 ob:=λ⟨o,h,_,d⟩=>⟨o,h,λv z=>by rw[d]at z;cases z⟩
 kp:=λ⟨o,h,c⟩ k=>⟨o,k o h,c⟩
variable {tp:Pos}{Xu:T0 Tl}{n:Nat}
def Po{a b:Tl}{ta:TA}(hg:Gl X "zip")(hm:X.mg "zip"=Fa)(ha:PA X [a,b] ta)(hs:Tk [a,b] X.env=[(pc,No a X.env),(pc,No b X.env)]:=by rfl)(XM:Tk [b] X.env=[(pc,No b X.env)]:=by rfl):
  PI X (.Tuple Xu n tp) (.Call (.Name "zip" p) [a,b] [] pos) (λY H R=>ta Y H λvs H1=>∃l m,vs=[.ref l,.ref m]/\(∃xs,xk X.K H1 l xs)/\(∃xs,xk X.K H1 m xs)/\R (Tg xk X.K l m) H1):=by
 intro W5 s Y H R I h;refine Call_ (wK I hg hm KY (fj (rY (ha pos W5 s Y H _ I h) λus s1 zz=>x5 zz λvs H1 I1 r1 q1=>?_) (by rw[hs,XM]) (by rw[XM];rfl)));obtain⟨l,m,e,⟨xs,hx⟩,⟨ys,hy⟩,q⟩:=q1;subst e;obtain⟨u,v,rfl,ru,rv⟩:=Mj r1;cases ru;cases rv;obtain⟨its,_,px,_⟩:=I1.list hx;obtain⟨YU,_,py,_⟩:=I1.list hy;exact call_zip_2 px.isList py.isList λg h1 h2 h3 h4 h5 _ hk=>FT WT I1 h1 h2 h3 h4 h5 hk q
def L7{K:qk}{a b:lf}{ds es:T0 D}:El K H1 (Tg xk K a b) (vf ds es) (λM=>nU M a=ga ds/\nU M b=ga es) where
 go:=λi H M hi hm ok _=>by rw[vw]at hi;obtain⟨xs,h1,h2,_⟩:=pQ hm ok.1;obtain⟨ys,g1,g2,_⟩:=pQ hm ok.2;obtain⟨x,e1,_⟩:=h2.get (cT (show i<ds.length by lia));obtain⟨y,e2,_⟩:=g2.get (cT (show i<es.length by lia));exact⟨xs,ys,x,y,h1,g1,e1,e2⟩
 oq:=λi d H M x H' hd hm ok _ y=>by
  obtain⟨xs,h1,h2,_⟩:=pQ hm ok.1;obtain⟨ys,g1,g2,_⟩:=pQ hm ok.2;obtain⟨p,u,v,rfl,hp,rfl,y1,y2⟩:=y;rw[L3.EQ]at hd;cases e:ds[i]? with
  | none=>rw[e]at hd;cases hd
  | some d'=>
   cases e':es[i]? with
   | none=>rw[e,e']at hd;cases hd
   | some c'=>rw[e,e']at hd;cases hd;obtain⟨x',q1,hx⟩:=h2.get e;obtain⟨z',q2,hz⟩:=g2.get e';have w1:=y1 xs h1;have w2:=y2 ys g1;rw[q1]at w1;rw[q2]at w2;have v1:x'=u:=de w1;have v2:z'=v:=de w2;subst v1 v2;have ex:qC K H (upd H p (.tup [x',z'])):=.new hp;exact⟨.tup (.of pR) (.cons (hx.mono ex) (.cons (hz.mono ex) .nil)),hm.add hp,ex⟩
 stop:=λH M hm ok _=>by obtain⟨xs,h1,h2,_⟩:=pQ hm ok.1;obtain⟨ys,g1,g2,_⟩:=pQ hm ok.2;exact⟨xs,ys,h1,g1,by rw[vw,h2.length,g2.length]⟩
def RW(t:wI):MY:=λU M R=>t U M λds M1=>match ds with
 | [.ref a,.ref b]=>(nU M1 a).elim False λxs=>(nU M1 b).elim False λys=>R (vf xs ys) (λM=>nU M a=ga xs/\nU M b=ga ys) M1
 | _=>False
def Bf{a b:Tl}{ta:wI}(hg:Gl X "zip")(hm:X.mg "zip"=Fa)(ha:A3 X [a,b] ta)(hs:Tk [a,b] X.env=[(pc,No a X.env),(pc,No b X.env)]:=by rfl)(XM:Tk [b] X.env=[(pc,No b X.env)]:=by rfl):
  I3 X (.Tuple Xu n tp) (.Call (.Name "zip" p) [a,b] [] pos) (RW ta):=
 PI.mono (Po hg hm ha hs XM) λY H R' zz=>x7 zz λU M R hs hm ht k=>⟨U,M,_,hs,hm,ht,λvs H1 ds M1 hd W7 e1 q1=>by
  split at q1
  .obtain⟨xs,f1,q1⟩:=qI q1;obtain⟨ys,f2,q1⟩:=qI q1;obtain⟨v,u,rfl,hv,hw⟩:=Bc hd;cases hv.mj;cases hw.mj;obtain⟨us,h1,_⟩:=pQ W7 f1;obtain⟨ws,g1,_⟩:=pQ W7 f2;exact⟨_,_,Z',⟨us,h1⟩,⟨ws,g1⟩,k _ H1 _ _ M1 L7 W7 e1 ⟨f1,f2⟩ q1⟩
  .exact q1.elim⟩
end L3
namespace L2
open Builtin Builtin.Str
variable {prog:Pg}{w:Wo}{A:Ar}{E:QQX}{s:Sd}{X:Cx}
end L2
namespace L3
open L2 Builtin Builtin.Str
variable {X:Cx}{pos W8:Pos}{o e:Tl}{es:T0 Tl}{ta:T3}{t:wI}
@[irreducible] def SsI (X:Cx) (st:T0 xz) (t:xj):Prop:=G' X st t
@[irreducible] def SI (X:Cx) (st:xz) (t:xj):Prop:=S3 X st t
@[irreducible] def EI (X:Cx) (e:Tl) (t:T3):Prop:=E3 X e t
@[irreducible] def AI (X:Cx) (es:T0 Tl) (t:wI):Prop:=A3 X es t
variable {prog:Pg}{w:Wo}{A:Ar}{E:QQX}{s:Sd}{W5:T0 (lf × Obj)}{Y:St}{H:Hp}{p tp:Pos}{Xu:T0 Tl}{n:Nat}
theorem wj{g:D7}{tt:Am}{te:T3}{ok:Mp->Prop}{Q:DK}(all:T0 D)(J:T0 D->T0 D->uV->Mp->Prop)(mD:∀p acc U M,J p acc U M->ok M):∀(ds pre acc:T0 D) (U:uV) (M:Mp),pre++ds=all->acc.length+ds.length<=Uf->J pre acc U M->
  (∀pre d post,pre++d::post=all->∀acc U M,J pre acc U M->∀(k:uV->DK) (k2:uV->Mp->Prop),(∀δ2 y M4,J (pre++[d]) (acc++[y]) δ2 M4->k δ2 y M4)->(∀δ2 M3,J (pre++[d]) acc δ2 M3->k2 δ2 M3)->g d U M λδ2 M2=>tt δ2 M2 λb M3=>if b=Db then te δ2 M3 (k δ2)else k2 δ2 M3)->
  (∀acc U M,J all acc U M->∀p,M p=Fa->Q (.ref p) (o9 M p (.lst acc)))->uL g tt te ok Q ds acc U M
 | [],pre,acc,U,M,e,hl,j,_,hq=>⟨by simpa using hl,hq acc U M (by rw[<-e,eD];exact j)⟩
 | d::r,pre,acc,U,M,e,hl,j,ht,hq=>by rw[dY]at hl;refine⟨by lia,?_⟩;refine ht pre d r e acc U M j (λδ2 y M4=>ok M4/\uL g tt te ok Q r (acc++[y]) δ2 M4) (λδ2 M3=>ok M3/\uL g tt te ok Q r acc δ2 M3) (λδ2 y M4 j'=>⟨mD _ _ _ _ j',wj all J mD r (pre++[d]) (acc++[y]) δ2 M4 (by rw[<-e,eN];rfl) ?_ j' ht hq⟩) λδ2 M3 j'=>⟨mD _ _ _ _ j',wj all J mD r (pre++[d]) acc δ2 M3 (by rw[<-e,eN];rfl) (by lia) j' ht hq⟩;rw[cU,dE];lia
end L3
namespace L2
noncomputable def Cx.nF(X:Cx)(E:QQX):Cx:={X with xe:=E}
def Inv.nF{E:QQX}{W5:QQY}(I:Inv X W5 Y H s):Inv (X.nF E) W5 Y H s:=
 ⟨⟨I.ok.mod,I.ok.kind,I.ok.glob,I.ok.blt,I.ok.above,I.ok.inj,I.ok.has,I.ok.nR,I.ok.hd,I.ok.frames,I.ok.om,I.ok.oK,I.ok.bs,I.ok.nI,I.ok.nz,I.ok.nH,I.ok.mY,I.ok.nP⟩,I.os,I.bare,I.base,I.loc,I.cell,I.free,I.mJ,I.pin,I.mD,I.len⟩
def Inv.xeOf{X:Cx}{E:QQX}{W5:QQY}(I:Inv (X.nF E) W5 Y H s):Inv X W5 Y H s:=
 ⟨⟨I.ok.mod,I.ok.kind,I.ok.glob,I.ok.blt,I.ok.above,I.ok.inj,I.ok.has,I.ok.nR,I.ok.hd,I.ok.frames,I.ok.om,I.ok.oK,I.ok.bs,I.ok.nI,I.ok.nz,I.ok.nH,I.ok.mY,I.ok.nP⟩,I.os,I.bare,I.base,I.loc,I.cell,I.free,I.mJ,I.pin,I.mD,I.len⟩
end L2
namespace L3
open L2
end L3
namespace L2
end L2
namespace L3
open L2
variable {X:Cx}{pos p tp kpos:Pos}{Xu:T0 Tl}{n:Nat}
end L3
namespace L2
variable {prog:Pg}{w:Wo}{A:Ar}{E:QQX}{s:Sd}{a:lf}{U:Type}{k:Str}{tk:Tok}
section
variable {R:U→Vl→Prop}{D:T0 (Str × U)}
end
end L2
namespace L3
open L2
variable {X:Cx}{pos p:Pos}{x:Str}{d:D}{e o i:Tl}{ta tb td tk:T3}{F:T0 (Str × QQQ)}
end L3
namespace L2
def NL(h:Go)(e:lf)(cls:Vl)(dx tb:Option lf)(F:Vl):Prop:=
 ∃oe vs,h.get? e=ga oe/\oe.cls=cls/\oe.dict=dx/\oe.data=.fields vs/\1<vs.size/\vs[1]?=ga (tb.elim Value.none Value.ref)/\∀T,tb=ga T->T≠e/\∃oT ts,h.get? T=ga oT/\oT.data=.fields ts/\3<ts.size/\ts[3]?=ga F
def OE(h:Go)(e:lf)(cls:Vl)(dx tb:Option lf):Prop:=NL h e cls dx tb Value.none
theorem CF{h base:Go}:∀{l:T0 Env} {b:lf},h.FunFrames base l->b∈vQ l->∃o,h.get? b=ga o/\∀vs,o.data≠.fields vs
 | [],b,_,hb=>by cases hb
 | env::r,b,hF,hb=>by
  obtain⟨_,⟨L,o,hL,_,ho,hd⟩,hr⟩:=hF;have e:vQ (env::r)=L::vQ r:=by unfold vQ;rw[fS,hL]
  rw[e]at hb;rcases dg.mp hb with z|z
  .rw[z];exact⟨o,ho,hd⟩
  .exact CF hr z
def Dx{h base:Go}{l:T0 Env}{b:lf}{o:Obj}{vs:Array Vl}(hF:h.FunFrames base l)(ho:h.get? b=ga o)(hd:o.data=.fields vs):b∉vQ l:=λhb=>by obtain⟨o',XJ,hn⟩:=CF hF hb;rw[ho]at XJ;cases XJ;exact hn vs hd
variable {M:Model}{A:Ar}{s:Sd}{base:Go}{env:Env}{outer:T0 Env}{L e:lf}{cls:Vl}{dx:Option lf}{Q:Unit→Sd→Prop}
section
variable {E:QQX}
def Pd{Yq:Vl}{Zn:Bool}{oe:Obj}{vs:Array Vl}{XN:Env}(hcf:XN.frame=ga L)(Y8:A.frames=ga (env::outer))(hF:s.heap.FunFrames base (env::outer))(hL:env.frame=ga L)(ho:s.heap.get? e=ga oe)(hd:oe.data=.fields vs)(h1:1<vs.size) (k:∀(h':Go) (T:lf),s.heap.get? T=Fa->(∀b o,s.heap.get? b=ga o->b∉vQ (env::outer)->b≠e->h'.get? b=ga o)->(∀b o,s.heap.get? b=ga o->b∈vQ (env::outer)->∃sl,h'.get? b=ga {o with slots:=sl})->
   (∃oe',h'.get? e=ga oe'/\oe'.cls=oe.cls/\oe'.dict=oe.dict/\oe'.data=.fields (vs.setIfInBounds 1 (.ref T)))->(∃oT ts,h'.get? T=ga oT/\oT.data=.fields ts/\3<ts.size/\ts[3]?=ga (o0 ↑L))->Q () {s with heap:=h'}):
  Ch M A (do
   let a<-PySem.frameOf XN;let pl<-entryPlaceOf L Zn;let b<-EntryCells.newEntry Yq a Value.none (o0 ↑L) Value.none pl
   setField (Value.ref e) 1 b) Q E s:=by
 have ne:=Dx hF ho hd;unfold PySem.frameOf;refine cS (cS (wpAny_frameEnvs Y8 (cS ?_)));have ed:List.dropWhile (λx=>x.frame != XN.frame) (env::outer)=env::outer:=by rw[List.dropWhile_cons,cW (by rw[hL,hcf];simp)]
 rw[ed];unfold frameObject;refine cS (wpAny_readyFrames_fun hF λXQ hs=>?_);obtain⟨z1,z2,z3⟩:=hs;rw[hL];refine df (df ?_);refine cS (wpAny_entryPlaceOf λpl hp=>?_);refine cS ?_;unfold EntryCells.newEntry newFields;have Xa:([Yq,Value.ref L,Value.none,o0 ↑L,Value.none]++if pl.isEmpty=Db then List.replicate 6 Value.none else pl).length=11:=by rw[cU];rcases hp with rfl|⟨_,_,_,_,_,_,_,rfl⟩<;>rfl
 have hfl:([Yq,Value.ref L,Value.none,o0 ↑L,Value.none]++if pl.isEmpty=Db then List.replicate 6 Value.none else pl)[3]?=ga (o0 ↑L):=rfl;generalize ([Yq,Value.ref L,Value.none,o0 ↑L,Value.none]++if pl.isEmpty=Db then List.replicate 6 Value.none else pl)=fs at Xa hfl ⊢;refine fO ?_ (by
  show fs.toArray.size<=_;rw[dh,Xa];decide)
 have e1:XQ.get? e=ga oe:=by rw[z2 e ne];exact ho
 have e2:(XQ.push {cls:=.type "traceback",data:=.fields fs.toArray}).get? e=ga oe:=cY _ e1;refine hZ e2 hd h1 ?_;have tn:s.heap.get? XQ.objs.size=Fa:=gJ (by rw[z1];exact cZ _);have te:XQ.objs.size≠e:=λz=>by rw[z,ho]at tn;cases tn
 obtain⟨oc,od,ZZ,X5⟩:=oe;obtain rfl:ZZ=.fields vs:=hd;have up:∀b,e≠b->((XQ.push {cls:=.type "traceback",data:=.fields fs.toArray}).update e (Obj.mapFields λx=>x.setIfInBounds 1 (.ref XQ.objs.size))).get? b=(XQ.push {cls:=.type "traceback",data:=.fields fs.toArray}).get? b:=λb z=>fV _ _ z;refine k _ XQ.objs.size tn (λb o hb nf ne'=>?_) (λb o hb hf=>?_) ⟨_,fA _ e2 Z',Z',Z',Z'⟩ ⟨_,fs.toArray,(up _ (dQ te)).trans (dG _ Z'),Z',by rw[dh,Xa];decide,by rw[iH];exact hfl⟩
 .rw[up b (dQ ne')];exact cY _ (by rw[z2 b nf];exact hb)
 .obtain⟨sl,q⟩:=z3 b o hb;refine⟨sl,?_⟩;rw[up b (λz=>ne (z ▸ hf))];exact cY _ q
def Sw{E₁:QQX}{tb:Option lf}{F:Vl}{XN:Env}(hcf:XN.frame=ga L)(Y8:A.frames=ga (env::outer))(hF:s.heap.FunFrames base (env::outer))(hL:env.frame=ga L)(hx:NL s.heap e cls dx tb F)(hFL:(F==o0 ↑L)=pc) (k:∀(h':Go) (T:lf),s.heap.get? T=Fa->(∀b o,s.heap.get? b=ga o->b∉vQ (env::outer)->b≠e->tb≠ga b->h'.get? b=ga o)->(∀b o,s.heap.get? b=ga o->b∈vQ (env::outer)->∃sl,h'.get? b=ga {o with slots:=sl})->
   (∀b,h'.get? b=Fa->s.heap.get? b=Fa)->NL h' e cls dx (ga T) (o0 ↑L)->Q () {s with heap:=h'}):Ch M A (noteFrame (.ref e) XN) Q E₁ s:=by
 obtain⟨oe,vs,ho,hc,Zy,hd,h1,hv,hT⟩:=hx;have ne:=Dx hF ho hd;unfold noteFrame;rw[hcf];refine cS (eV ho hd hv ?_);have Xb:∀(s1:Sd) (oe1:Obj),s1.gens=s.gens->s1.drawn=s.drawn->s1.toks=s.toks->s1.os=s.os->s1.heap.FunFrames base (env::outer)->s1.heap.get? e=ga oe1->oe1.cls=cls->oe1.dict=dx->oe1.data=.fields vs->(∀b o,s.heap.get? b=ga o->b∉vQ (env::outer)->b≠e->tb≠ga b->s1.heap.get? b=ga o)->
   (∀b o,s.heap.get? b=ga o->b∈vQ (env::outer)->s1.heap.get? b=ga o)->(∀b,s1.heap.get? b=Fa↔s.heap.get? b=Fa)->∀(Yq:Vl) (Zn:Bool),Ch M A (do
   let a<-PySem.frameOf XN;let pl<-entryPlaceOf L Zn;let b<-EntryCells.newEntry Yq a Value.none (o0 ↑L) Value.none pl
   setField (Value.ref e) 1 b) Q E₁ s1:=by
  intro s1 oe1 g1 g2 g3 g4 hF1 ho1 hc1 hdx1 hd1 kb kf kn Yq Zn;refine Pd hcf Y8 hF1 hL ho1 hd1 h1 λh' T tn k1 k2 ⟨oe',he',ZY,hdxe,hde⟩ ⟨oT,ts,Yj,YJ,h3,h3v⟩=>?_;have te:T≠e:=λz=>by rw[z,ho1]at tn;cases tn
  have:=k h' T ((kn T).mp tn) (λb o hb nf nb nt=>k1 b o (kb b o hb nf nb nt) nf nb) (λb o hb hf=>k2 b o (kf b o hb hf) hf) (λb hb=>?_) ⟨oe',vs.setIfInBounds 1 (.ref T),he',ZY.trans hc1,hdxe.trans hdx1,hde,by rw[jC];exact h1,by rw[ig h1];rfl,λT' eT=>?_⟩
  .show Q () {heap:=_,gens:=s1.gens,drawn:=s1.drawn,toks:=s1.toks,os:=s1.os};rw[g1,g2,g3,g4];exact this
  .refine(kn b).mp ?_;cases q:s1.heap.get? b with
   | none=>rfl
   | some o=>
    by_cases z:b=e
    .rw[z,he']at hb;cases hb
    .by_cases zf:b∈vQ (env::outer)
     .obtain⟨sl,q2⟩:=k2 b o q zf;rw[q2]at hb;cases hb
     .rw[k1 b o q zf z]at hb;cases hb
  .cases eT;exact⟨te,oT,ts,Yj,YJ,h3,h3v⟩
 cases tb with
 | none=>rw[cW (show ¬((Fa:Option lf).elim Value.none Value.ref != Value.none)=Db by decide+kernel)];exact Xb s oe Z' Z' Z' Z' hF ho hc Zy hd (λb o hb _ _ _=>hb) (λb o hb _=>hb) (λb=>.rfl) _ _
 | some T=>
  obtain⟨nTe,oT,ts,Yj,YJ,h3,hn⟩:=hT T Z';rw[cX (show((ga T:Option lf).elim Value.none Value.ref != Value.none)=Db by rfl)];refine cS (eV Yj YJ hn ?_);rw[cW (by rw[hFL];exact dv)];refine cS (hZ Yj YJ h3 ?_);have up:∀b,T≠b->(s.heap.update T (Obj.mapFields λx=>x.setIfInBounds 3 .none)).get? b=s.heap.get? b:=λb z=>fV _ _ z;have nf:∀b o,s.heap.get? b=ga o->(∀vs,o.data≠.fields vs)->T≠b:=λb o hb hn z=>by rw[<-z,Yj]at hb;cases hb;exact hn ts YJ
  have sz:∀b,(s.heap.update T (Obj.mapFields λx=>x.setIfInBounds 3 .none)).get? b=Fa↔s.heap.get? b=Fa:=λb=>by
   by_cases z:T=b
   .rw[<-z];obtain⟨oc,od,ZZ,X5⟩:=oT;obtain rfl:ZZ=.fields ts:=YJ;rw[fA _ Yj Z',Yj];exact⟨(λq=>by cases q),(λq=>by cases q)⟩
   .rw[up b z]
  exact Xb {s with heap:=s.heap.update T (Obj.mapFields λx=>x.setIfInBounds 3 .none)} oe Z' Z' Z' Z' (ma (λb o hb hn=>⟨o,(up b (nf b o hb hn)).trans hb,Z'⟩) hF) ((up e nTe).trans ho) hc Zy hd
   (λb o hb _ _ nt=>(up b λz=>nt (by rw[z])).trans hb) (λb o hb hf=>by
    obtain⟨o',XJ,hn⟩:=CF hF hf;rw[hb]at XJ;cases XJ;exact(up b (nf b o hb hn)).trans hb) sz _ _
def Ma{T:lf}{F:Vl}(x:Option lf)(hx:NL s.heap e cls dx (ga T) F)(k:∀h':Go,(∀b,T≠b->h'.get? b=s.heap.get? b)->(∀b,h'.get? b=Fa↔s.heap.get? b=Fa)->NL h' e cls dx (ga T) (x.elim .none λf=>o0 f)->Q () {s with heap:=h'}):Ch M A (setFlight (.ref e) x) Q E s:=by
 obtain⟨oe,vs,ho,hc,Zy,hd,h1,hv,hT⟩:=hx;obtain⟨nTe,oT,ts,Yj,YJ,h3,hn⟩:=hT T Z';unfold setFlight;refine cS (eV ho hd hv ?_);rw[cX (by rfl)];refine hZ Yj YJ h3 ?_;obtain⟨oc,od,ZZ,X5⟩:=oT;obtain rfl:ZZ=.fields ts:=YJ;have up:∀b,T≠b->(s.heap.update T (Obj.mapFields λy=>y.setIfInBounds 3 (x.elim .none λf=>o0 f))).get? b=s.heap.get? b:=λb z=>fV _ _ z;refine k _ up (λb=>?_) ⟨oe,vs,(up e nTe).trans ho,hc,Zy,hd,h1,hv,λT' eT=>?_⟩
 .by_cases z:T=b
  .rw[<-z,fA _ Yj Z',Yj];exact⟨(λq=>by cases q),(λq=>by cases q)⟩
  .rw[up b z]
 .cases eT;exact⟨nTe,_,ts.setIfInBounds 3 (x.elim .none λf=>o0 f),fA _ Yj Z',Z',by rw[jC];exact h3,by rw[ig h3]⟩
def Iw{E₁ E₂:QQX}{tb:Option lf}(Y8:A.frames=ga (env::outer))(hF:s.heap.FunFrames base (env::outer))(hL:env.frame=ga L)(hx:OE s.heap e cls dx tb) (k:∀(h':Go) (T:lf),s.heap.get? T=Fa->(∀b o,s.heap.get? b=ga o->b∉vQ (env::outer)->b≠e->tb≠ga b->h'.get? b=ga o)->(∀b o,s.heap.get? b=ga o->b∈vQ (env::outer)->∃sl,h'.get? b=ga {o with slots:=sl})->
   OE h' e cls dx (ga T)->Q () {s with heap:=h'}):Ch M A (noteFrame (.ref e) env) (λ_ s₂=>Ch M A (setFlight (.ref e) Fa) Q E₂ s₂) E₁ s:=by
 refine Sw hL Y8 hF hL hx (dC.mpr λz=>by have:=eY.mp z;cases this) λh' T tn k1 k2 _ x'=>?_;refine Ma Fa x' λh2 up _ x2=>k h2 T tn (λb o hb nf nb nt=>?_) (λb o hb hf=>?_) x2
 .have tb:T≠b:=λz=>by rw[z,hb]at tn;cases tn
  exact(up b tb).trans (k1 b o hb nf nb nt)
 .have tb:T≠b:=λz=>by rw[z,hb]at tn;cases tn
  obtain⟨sl,q⟩:=k2 b o hb hf;exact⟨sl,(up b tb).trans q⟩
def ON{tb:Option lf}(Y8:A.frames=ga (env::outer))(hF:s.heap.FunFrames base (env::outer))(hL:env.frame=ga L)(hx:OE s.heap e cls dx tb) (k:∀(h':Go) (T:lf),s.heap.get? T=Fa->(∀b o,s.heap.get? b=ga o->b∉vQ (env::outer)->b≠e->tb≠ga b->h'.get? b=ga o)->(∀b o,s.heap.get? b=ga o->b∈vQ (env::outer)->∃sl,h'.get? b=ga {o with slots:=sl})->
   OE h' e cls dx (ga T)->Q () {s with heap:=h'}):Ch M A (leaving env (.ref e)) Q E s:=cS (Iw Y8 hF hL hx k)
end
def A5(P:Pg)(w:Wo):KQ:=λouter H s E ev s'=>EL λe C dx H' tb=>ev=.ref e/\E (.ref C) dx H'/\s'.os=s.os/\XXe s'.gens/\Un (vQ outer) [] H H' s.heap s'.heap/\yg P w H' s'.heap/\
 OE s'.heap e (.ref C) dx (ga tb)/\s.heap.get? e=Fa/\s.heap.get? tb=Fa/\H' e=Fa/\H' tb=Fa
def yb{o:HO}(x:sG P w H h a o):∃ob,h.get? a=ga ob:=by
 cases o with
 | lst xs=>obtain⟨_,_,_,_,e⟩:=x;exact⟨_,e⟩
 | tup xs=>obtain⟨_,_,_,o,e,_⟩:=x;exact⟨_,e⟩
 | dK kvs=>obtain⟨_,_,_,_,o,_,_,e,_⟩:=x;exact⟨_,e⟩
 | dT kvs=>obtain⟨_,_,_,_,o,_,_,e,_⟩:=x;exact⟨_,e⟩
 | set S n=>obtain⟨o,_,_,_,e,_⟩:=x;exact⟨_,e⟩
 | ins C dx fs=>obtain⟨_,_,_,e,_⟩:=x;exact⟨_,e⟩
 | own y=>exact x
 | xd fs=>obtain⟨_,⟨_,_,_,e,_⟩,_⟩:=x;exact⟨_,e⟩
 | rng lo hi=>obtain⟨_,_,_,e⟩:=x;exact⟨_,e⟩
 | frz ob u=>obtain⟨e,_⟩:=x;exact⟨_,e⟩
 | tbl ps=>exact⟨_,x⟩
 | met f y=>exact⟨_,x⟩
 | ext φ=>obtain⟨_,e,_⟩:=x;exact e
def zO{T:lf}(mD:yg P w H h)(tn:h.get? T=Fa):H T=Fa:=by
 cases z:H T with
 | none=>rfl
 | some o=>obtain⟨ob,hob⟩:=yb (mD T o z);rw[hob]at tn;cases tn
variable {P:Pg}{w:Wo}{K:qk}{mg:QQZ}{N:QQQ}{qual:Str}{scope:Z8}{f:lf}{cd:Vl}{s0:Sd}{H0:Hp}
section
variable {E:XK}
def GW(u:Un fs ex H H' h h')(hex:ex=[]){b:lf}(hb:h'.get? b=Fa):h.get? b=Fa:=by
 cases q:h.get? b with
 | none=>rfl
 | some o=>obtain⟨o',e⟩:=u.there b o q (by rw[hex];simp);rw[e]at hb;cases hb
def Lo{W5:QQY}{e C T:lf}{tb dx:Option lf}{h':Go}(I:Inv (vg (A5 P w) P w K mg base N qual scope f cd A outer s0 H0 E) W5 Y H s)(he:s0.heap.get? e=Fa)(XO:∀T,tb=ga T->s0.heap.get? T=Fa/\H T=Fa)(hn:H e=Fa)(q:E (.ref C) dx H)(hT:s0.heap.get? T=Fa/\H T=Fa) (k1:∀b o,s.heap.get? b=ga o->b∉vQ (sK qual scope s0.heap.objs.size f cd::outer)->b≠e->tb≠ga b->h'.get? b=ga o) (k2:∀b o,s.heap.get? b=ga o->b∈vQ (sK qual scope s0.heap.objs.size f cd::outer)->∃sl,h'.get? b=ga {o with slots:=sl}) (x':OE h' e (.ref C) dx (ga T)):
  A5 P w outer H0 s0 E (.ref e) {s with heap:=h'}:=by
 have XU:=I.ng;have Xi:∀b o,H b=ga o->∀u,s.heap.get? b=ga u->h'.get? b=ga u:=λb o hb u hu=>k1 b u hu (λz=>by rw[XU b z]at hb;cases hb) (λz=>by rw[z,hn]at hb;cases hb) (λz=>by rw[(XO b z).2]at hb;cases hb);have oldf:∀b o,s0.heap.get? b=ga o->b∉vQ [sK qual scope s0.heap.objs.size f cd]:=λb o hb z=>by
  have:b=s0.heap.objs.size:=by have hz:b∈[s0.heap.objs.size]:=z;exact c9.mp hz
  rw[this]at hb;exact absurd (dA hb) (eO _)
 have fr:∀b,b∈vQ (sK qual scope s0.heap.objs.size f cd::outer)->b∈vQ [sK qual scope s0.heap.objs.size f cd]\/b∈vQ outer:=λb hb=>by
  have hb:b∈s0.heap.objs.size::vQ outer:=hb;rcases dg.mp hb with z|z
  .exact .inl (by rw[z];exact dD)
  .exact .inr z
 have Xv:Un (vQ outer) [] H0 H s0.heap s.heap:=I.base;refine⟨e,C,dx,H,T,Z',q,I.os,I.bare,⟨λb o hb h0 nf ne=>?_,λb o hb h0 hf ne=>?_,Xv.free,λb o hb ne=>?_,Xv.m8,Xv.mW,Xv.ni⟩,λb o hb=>?_,x',he,hT.1,hn,hT.2⟩
 .have hs:=Xv.keep b o hb h0 nf ne;refine k1 b o hs (λz=>?_) (λz=>by rw[z,he]at hb;cases hb) λz=>by rw[(XO b z).1]at hb;cases hb
  rcases fr b z with z|z
  .exact oldf b o hb z
  .exact nf z
 .obtain⟨sl,hs⟩:=Xv.slot b o hb h0 hf ne;have:b∈vQ (sK qual scope s0.heap.objs.size f cd::outer):=dz _ hf;obtain⟨Yy,h2⟩:=k2 b _ hs this;exact⟨Yy,h2⟩
 .obtain⟨o',hs⟩:=Xv.there b o hb ne;by_cases z:b∈vQ (sK qual scope s0.heap.objs.size f cd::outer)
  .obtain⟨sl,h2⟩:=k2 b o' hs z;exact⟨_,h2⟩
  .exact⟨o',k1 b o' hs z (λz=>by rw[z,he]at hb;cases hb) λz=>by rw[(XO b z).1]at hb;cases hb⟩
 .refine(I.mD b o hb).m9 (λb' u X4 hu=>?_) (λ_ q=>q) λ_ _ q=>q;rcases X4 with z|z
  .subst z;exact Xi b' o hb u hu
  .exact Xi b' _ z u hu
def U5{W5:QQY}{e C:lf}{tb dx:Option lf}(I:Inv (vg (A5 P w) P w K mg base N qual scope f cd A outer s0 H0 E) W5 Y H s)(hx:OE s.heap e (.ref C) dx tb)(he:s0.heap.get? e=Fa)(hT:∀T,tb=ga T->s0.heap.get? T=Fa/\H T=Fa)(hn:H e=Fa)(q:E (.ref C) dx H):
  (vg (A5 P w) P w K mg base N qual scope f cd A outer s0 H0 E).xe (.ref e) s:=
 ON (base:=base) (outer:=outer) I.ok.frames I.stack Z' hx λh' T tn k1 k2 x'=>Lo I he hT hn q ⟨GW (show Un (vQ outer) [] H0 H s0.heap s.heap from I.base) Z' tn,zO I.mD tn⟩ k1 k2 x'
end
section
variable {E:XK}
end
def PZ(d:lf)(f:Str)(v:V)(h:Go):Prop:=∃u,h.Ns1 d (λy=>if y=f then ga u else Fa)/\qz v u
end L2
namespace L3
open L2
abbrev XR:=lf->Option (Str×D)->Mp->Prop
abbrev EH:=T0 D->Mp->DK->XR->Prop
def UM(K:qk)(H:Hp)(dx:Option lf)(y:Option (Str×D)):Prop:=(dx=Fa/\y=Fa)\/BK λd f z v=>dx=ga d/\y=ga (f,z)/\H d=ga (.ext (PZ d f v))/\rJ K H z v
def SX(K:qk)(R:XR)(E:XK):Prop:=∀C dx H M y,HM K H M->UM K H dx y->R C y M->E (.ref C) dx H
def VS(K:qk)(sp:EH):Sp:=λvs H Q' E=>BK λds M Q R=>pY K H ds vs/\HM K H M/\sp ds M Q R/\Up K H Q' Q/\SX K R E
abbrev Qr(P:Pg)(w:Wo)(K:qk)(mg:QQZ)(base:Go)(k:Nat)(f:lf)(fd:Rs)(ps:QQQ)(sp:EH):Prop:=xl P w K mg base (A5 P w) k f fd ps (VS K sp)
variable {X:Cx}{x:Str}{p pos np Xc:Pos}{e:Tl}{es:T0 Tl}{t:wI}{k:Nat}{f C:lf}{fd:Rs}{ps:QQQ}{sp:EH}{R:XR}{E:XK}
def S8(sp:EH)(R:XR)(t:wI):T3:=λU M Q=>t U M λds M1=>sp ds M1 Q R
def KU(F:Qr X.prog X.w X.K X.mg X.base k f fd ps sp)(hr:rO k X.A)(hg:Gl X x)(hm:X.mg x=ga (.ref f))(hk:W.keepIn X.K (.ref f)=Db)(hb:ul X.K fd ps [])(hx:yu (A5 X.prog X.w) X E)(hR:SX X.K R E)(ha:A3 X (e::es) t) (Xm:zu x:=by decide) (he:AE X e es:=by rfl) (Xj:Ce X pos es:=by rfl):
  E3 X (.Call (.Name x p) (e::es) [] pos) (S8 sp R t):=PE.mono (Jl F hr hg hm hk hb .nil hx ha Xm he Xj) λY H Q' zz=>x7 zz λU M Q hs hm ht k=>
 ⟨U,M,_,hs,hm,ht,λvs H1 ds M1 hd W7 e1 q1=>⟨ds,M1,Q,R,by rw[eD];exact hd,W7,q1,u9 e1 k,hR⟩⟩
variable {P:Pg}{w:Wo}{K:qk}{mg:QQZ}{base:Go}{N:QQQ}{qual:Str}{scope:Z8}{cd:Vl}{A:Ar}{outer:T0 Env}{s0:Sd}{H0:Hp}{ta:wI}
def Uk{st:xz}{sp:EH}(F:Pb K x qual st f fd)(S:sO N ps (pV st))(len:∀ds M Q R,sp ds M Q R->ds.length=ps.length) (Xp:∀(Xg:Vl) (A:Ar) (outer:T0 Env) (s:Sd) (H:Hp) (E:XK) (R:XR),rO k (A.deeper (sK qual (pV st) s.heap.objs.size f Xg))->SX K R E->
   ∃t,G' (vg (A5 P w) P w K mg base N qual (pV st) f Xg A outer s H E) (rH st) t/\∀ds M Q,sp ds M Q R->t {nx:=λ_ M'=>∃W9,qu W9 M'/\Q .mx W9,rt:=λd M'=>∃W9,qu W9 M'/\Q d W9} (wA N ds) M):Qr P w K mg base (k+1) f fd ps sp:=by
 obtain⟨oc,od,kV,XG,pm,an,Xg,ct,X5,rfl,lk,Yl⟩:=F.ex;refine Nc lk Yl S (λvs H Q E h=>?_) λA outer s H vs Q' E hr h=>?_
 .obtain⟨ds,M,Q,R,hd,_,hs,_⟩:=h;rw[<-hd.length];exact len ds M Q R hs
 .obtain⟨ds,M,Q,R,hd,hm,hs,k,hR⟩:=h;obtain⟨t,ht,hb⟩:=Xp Xg A outer s H E R hr hR;exact⟨_,ht,wA N ds,M,_,DQ hd,hm,hb ds M Q hs,λσ' H' δ' M' _ x2 x3 _ ⟨W9,y1,y2⟩=>k .mx H' .mx W9 .mx (x2.sub y1) x3 y2,λv H' d M' x1 x2 x3 ⟨W9,y1,y2⟩=>k v H' d W9 x1 (x2.sub y1) x3 y2,λ_ _ _ _ _ _ _ _ z=>z,λ_ _ _ _ _ _ _ _ z=>z⟩
end L3
namespace L2
def TKept(H H':Hp):Prop:=(∀b xs,H b=ga (.tup xs)->H' b=ga (.tup xs))/\∀b o u,H b=ga (.frz o u)->H' b=ga (.frz o u)
def V6(X:Cx)(W5:QQY)(Y:St)(J:Hp->Prop)(E:XK)(ev:Vl)(s':Sd):Prop:=CM λH s=>J H/\Inv X W5 Y H s/\A5 X.prog X.w X.stack H s E ev s'
def Uq(X:Cx)(W5:QQY)(Y:St)(J:Hp->Prop)(E:XK)(ev:Vl)(s':Sd):Prop:=Tj λa C dx H' tb H1 s1=>ev=.ref a/\E (.ref C) dx H'/\Inv X W5 Y H' s'/\OE s'.heap a (.ref C) dx (ga tb)/\H' a=Fa/\H' tb=Fa/\J H1/\TKept H1 H'/\Inv X W5 Y H1 s1/\s1.heap.get? a=Fa
def SZ{M:Model}{E₁ E₂:QQX}{W5:QQY}{E:XK}{outer:T0 Env}{L:lf}(h:V6 X W5 Y J E ev s')(Xr:X.stack=X.env::outer)(hL:X.env.frame=ga L):
  Ch M X.A (noteFrame ev X.env) (λ_ s₂=>Ch M X.A (setFlight ev Fa) (λ_ s₃=>Uq X W5 Y J E ev s₃) E₂ s₂) E₁ s':=by
 obtain⟨H,s,jH,I,e,C,dx,H',tb,rfl,q,os,bare,un,mD,x,he,ht,ne,nt⟩:=h;obtain⟨hh,g,d,t,os'⟩:=s';obtain rfl:os'=s.os:=os;have I':=I.call (h':=hh) (g':=g) (d':=d) (t':=t) (ch:=[]) un mD bare (λb z=>absurd z (by simp));have hF:=I'.stack;have XU:=I'.ng;have Y8:=I.ok.frames;rw[Xr]at hF Y8;refine Iw (base:=X.base) (outer:=outer) Y8 hF hL x λh' T tn k1 k2 x'=>?_;have Xi:∀b o,H' b=ga o->∀u,hh.get? b=ga u->h'.get? b=ga u:=λb o hb u hu=>k1 b u hu (λz=>by rw[XU b (by rw[Xr];exact z)]at hb;cases hb) (λz=>by rw[z,ne]at hb;cases hb) (λz=>by cases z;rw[nt]at hb;cases hb);have un':Un (vQ X.stack) [] H H' s.heap h':=by
  refine⟨λb o hb h0 nf nx=>?_,λb o hb h0 hf nx=>?_,un.free,λb o hb nx=>?_,un.m8,un.mW,un.ni⟩
  .exact k1 b o (un.keep b o hb h0 nf nx) (λz=>nf (by rw[Xr];exact z)) (λz=>by rw[z,he]at hb;cases hb) λz=>by cases z;rw[ht]at hb;cases hb
  .obtain⟨sl,hs⟩:=un.slot b o hb h0 hf nx;obtain⟨Yy,h2⟩:=k2 b _ hs (by rw[<-Xr];exact hf);exact⟨Yy,h2⟩
  .obtain⟨o',hs⟩:=un.there b o hb nx;by_cases z:b∈vQ (X.env::outer)
   .obtain⟨sl,h2⟩:=k2 b o' hs z;exact⟨_,h2⟩
   .exact⟨o',k1 b o' hs z (λz=>by rw[z,he]at hb;cases hb) λz=>by cases z;rw[ht]at hb;cases hb⟩
 have ZO:yg X.prog X.w H' h':=λb o hb=>(mD b o hb).m9 (λb' u X4 hu=>by
  rcases X4 with z|z
  .subst z;exact Xi b' o hb u hu
  .exact Xi b' _ z u hu) (λ_ q=>q) λ_ _ q=>q
 have I3:Inv X W5 Y H' {heap:=h',gens:=g,drawn:=d,toks:=t,os:=s.os}:=Inv.call (s:=s) (ch:=[]) I un' ZO bare (λb z=>absurd z (by simp));refine⟨e,C,dx,H',T,H,s,Z',q,I3,x',ne,?_,jH,⟨un.m8,un.mW⟩,I,he⟩;cases z:H' T with
 | none=>rfl
 | some o=>obtain⟨ob,hob⟩:=yb (mD T o z);have tn:hh.get? T=Fa:=tn;rw[hob]at tn;cases tn
variable {X:Cx}{W5:T0 (lf × Obj)}{Y σ':St}{H H1:Hp}{s s1:Sd}{ev:Vl}{E':QQX}{a:lf}
def Inv.adopt{o:HO}(I:Inv X W5 Y H s)(I1:Inv X W5 σ' H1 s1)(n1:s1.heap.get? a=Fa)(hn:H a=Fa)(ok:sG X.prog X.w (upd H a o) s.heap a o):Inv X W5 Y (upd H a o) s:=by
 have ne:∀b ob,s1.heap.get? b=ga ob->b≠a:=λb ob e z=>by rw[z,n1]at e;cases e
 have nh:∀b ob,H b=ga ob->b≠a:=λb ob e z=>by rw[z,hn]at e;cases e
 refine⟨I.ok,I.os,I.bare,⟨I.base.keep,I.base.slot,λb o' e h0 hb=>?_,I.base.there,λb xs e=>?_,λb o' u e=>?_,λb ps e=>?_⟩,I.loc,I.cell,?_,λx c e=>?_,λp hp=>?_,λb ob e=>?_,I.len⟩
 .obtain⟨o2,e2⟩:=I1.base.there b o' e hb;rw[pN (ne b o2 e2)];exact I.base.free b o' e h0 hb
 .have:=I.base.m8 b xs e;rw[pN (nh b _ this)];exact this
 .have:=I.base.mW b o' u e;rw[pN (nh b _ this)];exact this
 .obtain⟨more,this⟩:=I.base.ni b ps e;exact⟨more,by rw[pN (nh b _ this)];exact this⟩
 .obtain⟨m,⟨o2,_,_,e2,_⟩,_⟩:=I1.loc;rw[pN (ne _ o2 e2)];exact I.free
 .obtain⟨v,o2,e2,_⟩:=I1.cell x c e;rw[pN (ne _ o2 e2)];exact I.mJ x c e
 .obtain⟨e1,e2,e3,e4,e5⟩:=I.pin p hp;exact⟨e1,by rw[pN (ne _ _ (I1.pin p hp).1)];exact e2,e3,e4,e5⟩
 .by_cases z:b=a
  .subst z;rw[pR]at e;cases e;exact ok
  .rw[pN z]at e;exact(I.mD b ob e).m9 (λ_ _ _ q=>q) (λb' q=>by rw[pN (nh b' _ q)];exact q) λb' xs q=>by rw[pN (nh b' _ q)];exact q
noncomputable def Cx.marked(X:Cx)(ev:Vl)(E:QQX):Cx:={X with A:=X.A.mark (ga ev),calm:=false,xe:=E}
def Inv.mark(I:Inv X W5 Y H s):Inv (X.marked ev E') W5 Y H s:=
 ⟨⟨I.ok.mod,I.ok.kind,I.ok.glob,I.ok.blt,I.ok.above,I.ok.inj,I.ok.has,I.ok.nR,(λz=>by cases z),I.ok.frames,I.ok.om,I.ok.oK,I.ok.bs,I.ok.nI,I.ok.nz,I.ok.nH,I.ok.mY,I.ok.nP⟩,I.os,I.bare,I.base,I.loc,I.cell,I.free,I.mJ,I.pin,I.mD,I.len⟩
def Inv.unmark(ok:X.Ok)(I:Inv (X.marked ev E') W5 Y H s):Inv X W5 Y H s:=⟨ok,I.os,I.bare,I.base,I.loc,I.cell,I.free,I.mJ,I.pin,I.mD,I.len⟩
def SP.unmark(ok:X.Ok){D:EK}{f:Flow}(h:SP (X.marked ev E') W5 D f s):SP X W5 D f s:=by
 cases f with
 | next=>obtain⟨a,b,I,q⟩:=h;exact⟨a,b,I.unmark ok,q⟩
 | brk=>obtain⟨a,b,I,q⟩:=h;exact⟨a,b,I.unmark ok,q⟩
 | cont=>obtain⟨a,b,I,q⟩:=h;exact⟨a,b,I.unmark ok,q⟩
 | ret v=>obtain⟨a,b,c,I,q⟩:=h;exact⟨a,b,c,I.unmark ok,q⟩
def Ic{M:Model}{h:Go}{a:lf}{o:Obj}(ho:h.get? a=ga o):W.Looks M h (typeOf (.ref a)) o.cls:=by intro A Q E s k q;unfold typeOf;exact cS (wpAny_load (k a o ho) (df q))
def G2{M:Model}{A:Ar}{E:QQX}{a C T:lf}{Q:Unit->Sd->Prop}(x:OE s.heap a (.ref C) dx (ga T))(h:∀h':Go,(∀b,h'.get? b=s.heap.get? b)->Q () {s with heap:=h'}):Ch M A (setFlight (.ref a) Fa) Q E s:=by
 obtain⟨oe,vs,ho,hc,_,hd,h1,hv,hT⟩:=x;obtain⟨nTe,oT,ts,Yj,YJ,h3,hn⟩:=hT T Z';unfold setFlight;refine cS (eV ho hd hv ?_);rw[cX (by rfl)];refine hZ Yj YJ h3 (h _ λb=>?_);by_cases z:T=b
 .subst z;obtain⟨oc,od,ZZ,X5⟩:=oT;obtain rfl:ZZ=.fields ts:=YJ;rw[fA _ Yj Z',Yj];show ga (Obj.mk oc od (.fields (ts.setIfInBounds 3 .none)) X5)=_;have:ts.setIfInBounds 3 .none=ts:=by
   apply Array.ext
   .simp
   .intro i h1 h2;rw[Array.getElem_setIfInBounds];split
    .rename_i e;subst e;rw[Array.getElem?_eq_getElem h3]at hn;exact(de hn).symm
    .rfl
  rw[this]
 .exact fV _ _ z
def RA(X:Cx)(e:Tl)(t:St->Hp->VK->(Hp->Prop)->XK->Prop):Prop:=∀(W5:QQY) (s:Sd) (Y:St) (H:Hp) (Q:VK) (J:Hp->Prop) (E:XK),Inv X W5 Y H s->t Y H Q J E->Ch (pi X.prog X.w) X.A (No e X.env) (EP X W5 Y Q) (V6 X W5 Y J E) s
def WJ(X:Cx)(st:xz)(t:EK->St->Hp->(Hp->Prop)->XK->Prop):Prop:=∀(W5:QQY) (s:Sd) (Y:St) (H:Hp) (D:EK) (J:Hp->Prop) (E:XK),Inv X W5 Y H s->t D Y H J E->Ch (pi X.prog X.w) X.A (exec st X.env) (SP X W5 D) (V6 X W5 Y J E) s
def OH{X:Cx}{i:Nat}{x:Str}{te:St->Hp->VK->(Hp->Prop)->XK->Prop}{pos Xd:Pos}(hN:X.N.Nodup)(hi:X.N[i]?=ga x)(hx:KO X.env.scope x)(he:RA X e te)(hs:wv e (ga (.Name x Xd)) pos.line X.env=pure pc:=by rfl)(hf:KP X x:=by first|exact .inl Z'|exact .inr Z'|assumption):
  WJ X (.Assign [.Name x Xd] e pos) (λD Y H J E=>te Y H (λv H'=>D.nx (Y.set i (ga v)) H') J E):=by
 intro W5 s Y H D J E I h;refine kQ (rY (he W5 s Y H _ J E I h) λv s1 zz=>x5 zz λy H1 I1 r1 q1=>?_) hs;exact BB I1 hN hi hx r1 (λs2 I2=>⟨_,H1,I2,q1⟩) hf
variable {k:Nat}{f C:lf}{fd:Rs}{ps:QQQ}{sp:Sp}{XW:T0 V}{ds:T0 Vl}{m:Str}{p pos W8:Pos}{e o:Tl}{es:T0 Tl}{t:TA}
section
variable {x:Str}
def Ny(F:xl X.prog X.w X.K X.mg X.base (A5 X.prog X.w) k f fd ps sp)(hr:rO k X.A)(hg:Gl X x)(hm:X.mg x=ga (.ref f))(hk:W.keepIn X.K (.ref f)=Db)(hb:ul X.K fd ps ds)(hd:qo XW ds) (ha:PA (X.nF λ_ _=>False) (e::es) t) (Xm:zu x:=by decide) (he:AE X e es:=by rfl) (Xj:Ce X pos es:=by rfl):
  RA X (.Call (.Name x p) (e::es) [] pos) (λY H Q J E=>t Y H λvs H1=>J H1/\sp (vs++XW) H1 Q E):=by
 intro W5 s Y H Q J E I h;refine gf (wz I hg hm ?_ Xm);refine iK (h₀:=X.base) I.ok.mod.nQ hk (d6 (ha pos W5 s Y H _ I.nF h) (λus s1 ⟨vs,H1,I1,r,jH,q⟩=>⟨I1.m7,?_⟩) λ_ _ z=>z.elim) he Xj;have I1:=I1.xeOf;have r2:qo (vs++XW) (us++ds):=r.append hd;have hl:(us++ds).length=ps.length:=by rw[<-r2.length];exact F.len _ _ _ _ q
 refine iJ (gN (F.run X.A X.stack s1 H1 ⟨us,[]⟩ (us++ds) (vs++XW) Q E hr I1.nM (hb s1 us I1.m7 hl) r2 q) λr s' hq=>?_);cases r with
 | error e=>exact⟨H1,s1,jH,I1,hq⟩
 | ok fl=>
  cases fl with
  | ret u=>exact I1.after hq
  | next=>exact False.elim hq
  | brk=>exact False.elim hq
  | cont=>exact False.elim hq
end
def Ox{st b₀:xz}{XY:T0 xz}{cnp YX pos:Pos}{Cc L:lf}{outer:T0 Env}{t:EK->St->Hp->(Hp->Prop)->XK->Prop}(hb:WJ X st t)(Xr:X.stack=X.env::outer)(hL:X.env.frame=ga L)(hg:Gl X cn)(hm:X.mg cn=ga (.ref Cc))(hs:∀ev E',Bx (X.marked ev E') (b₀::XY) th) (Xm:zu cn:=by decide):
  PS X (.Try [st] [.ExceptHandler (ga (.Name cn cnp)) Fa (b₀::XY) YX] [] [] pos) (λD Y H=>∃(J:Hp->Prop) (E:XK),t D Y H J E/\∀C dx H1 H',J H1->TKept H1 H'->E (.ref C) dx H'->W.exmOne X.K (.ref C) (.ref Cc)=ga Db/\th D Y H'):=by
 intro W5 s Y H D I ⟨J,E,h,hh⟩;refine wpAny_Try_except (d6 (Q:=λf s'=>SP X W5 D f s') (jt (rY (hb W5 s Y H D J E I h) λf s1 q=>?_)) (λf s1 q=>?_) λev s1 x=>?_)
 .cases f with
  | next=>exact gU q
  | brk=>exact q
  | cont=>exact q
  | ret v=>exact q
 .cases f with
  | next=>exact gU q
  | brk=>exact q
  | cont=>exact q
  | ret v=>exact q
 .refine d6 (SZ x Xr hL) (λ_ s2 y=>rY y λ_ s3 z=>?_) λ_ _ z=>z;obtain⟨a,C,dx,H',tb,H1,s1,rfl,q,I3,x3,na,nt,jH,tk,I1,n1⟩:=z;obtain⟨W7,h1⟩:=hh C dx H1 H' jH tk q;refine wpAny_handleBy_cons (codeAny_handlers_test (wz (X:=X.marked (.ref a) λ_ _=>False) I3.mark hg hm ?_ Xm)) (by intro z;cases z);obtain⟨oe,vs,ho,hc,_⟩:=id x3;refine W.exm_one I3.m7 (Ic ho) (by rw[hc];exact W7) _ _ _ _ (λ_ _ z=>z) ?_;refine codeAny_handlers_suite (G2 x3 λh' hh'=>?_);have I4:Inv X W5 Y H' {s3 with heap:=h'}:=I3.kept (t':=s3.toks) λb u z=>by rw[hh' b];exact z
  refine d6 (hs (.ref a) _ W5 _ Y H' D I4.mark h1) (λf s5 q5=>SP.unmark I.ok q5) λ_ _ z=>z
variable {prog:Pg}{w:Wo}{A:Ar}{E:QQX}{K:qk}{ox:Obj}
section
variable {x:lf}
end
end L2
namespace L3
open L2
theorem _root_.L2.TKept.ext{K:qk}(h:TKept H H'):qC K H H':=⟨λa xs q=>by
 rcases q with(q|⟨u,q⟩)|q
 .exact .inl (.inl (h.1 a xs q))
 .exact .inl (.inr ⟨u,h.2 a u _ q⟩)
 .exact .inr q,λa o xs q=>h.2 a o _ q⟩
abbrev UZ:=uV->Mp->DK->XR->Prop
def WR(K:qk)(t:UZ):St->Hp->VK->(Hp->Prop)->XK->Prop:=λY H Q' J E=>BK λU M Q R=>zP K H Y U/\HM K H M/\t U M Q R/\(∀v H' d M',rJ K H' d v->HM K H' M'->qC K H H'->Q d M'->Q' v H')/\(∀H1,qC K H H1->J H1)/\SX K R E
def WI(X:Cx)(e:Tl)(t:UZ):Prop:=RA X e (WR X.K t)
def RA.mono{t t':St->Hp->VK->(Hp->Prop)->XK->Prop}(h:RA X e t)(m:∀Y H Q J E,t' Y H Q J E->t Y H Q J E):RA X e t':=λW5 s Y H Q J E I q=>h W5 s Y H Q J E I (m Y H Q J E q)
variable {X:Cx}{x:Str}{p pos np Xc:Pos}{e:Tl}{es:T0 Tl}{t:wI}{k:Nat}{f C:lf}{fd:Rs}{ps:QQQ}{sp:EH}
def Le(F:Qr X.prog X.w X.K X.mg X.base k f fd ps sp)(hr:rO k X.A)(hg:Gl X x)(hm:X.mg x=ga (.ref f))(hk:W.keepIn X.K (.ref f)=Db)(hb:ul X.K fd ps [])(ha:A3 (X.nF λ_ _=>False) (e::es) t) (Xm:zu x:=by decide) (he:AE X e es:=by rfl) (Xj:Ce X pos es:=by rfl):
  WI X (.Call (.Name x p) (e::es) [] pos) (λU M Q R=>t U M λds M1=>sp ds M1 Q R):=RA.mono (Ny F hr hg hm hk hb .nil ha Xm he Xj) λY H Q' J E ⟨U,M,Q,R,hs,hm,ht,k,kJ,kR⟩=>
 ⟨U,M,_,hs,hm,ht,λvs H1 ds M1 hd W7 e1 q1=>⟨kJ H1 e1,ds,M1,Q,R,by rw[eD];exact hd,W7,q1,u9 e1 k,kR⟩⟩
variable {b₀:xz}{XY:T0 xz}{cn n:Str}{cnp YX W8 xpos:Pos}{Cc L:lf}{outer:T0 Env}{i ix:Nat}{te:UZ}{th:xj}
def Wa(K:qk)(ix:Nat)(Cc:lf)(te:UZ)(th:xj):xj:=λD U M=>∃R,te U M (λd M1=>D.nx (U.set ix (ga d)) M1) R/\∀C y M',R C y M'->W.exmOne K (.ref C) (.ref Cc)=ga Db/\th D U M'
def O8(he:WI X e te)(Xr:X.stack=X.env::outer)(hL:X.env.frame=ga L)(hg:Gl X cn)(hm:X.mg cn=ga (.ref Cc))(hN:X.N.Nodup)(ZP:X.N[ix]?=ga x)(hx:X.env.scope.names.lookup x=ga .local) (hs:∀ev E',G' (X.marked ev E') (b₀::XY) th) (Xm:zu cn:=by decide) (YA:wv e (ga (.Name x xpos)) W8.line X.env=pure pc:=by rfl):
  S3 X (.Try [.Assign [.Name x xpos] e W8] [.ExceptHandler (ga (.Name cn cnp)) Fa (b₀::XY) YX] [] [] pos) (Wa X.K ix Cc te th):=
 PS.nA (Ox (th:=Vk X.K th) (OH hN ZP (.inl hx) he YA (.inr hx)) Xr hL hg hm hs Xm) λD' Y H hl ⟨U,M,D,hs,hm,⟨R,ht,hh⟩,k1,k2,k3,k4⟩=>by
  refine⟨λH1=>qC X.K H H1,λcv d H'=>∃C M' y,cv=.ref C/\HM X.K H' M'/\UM X.K H' d y/\R C y M',⟨U,M,_,R,hs,hm,ht,λv H1 d M1 hd W7 e1 q1=>?_,λ_ z=>z,λC dx H' M' y h1 h0 h2=>⟨C,M',y,Z',h1,h0,h2⟩⟩,λC dx H1 H' jH tk ⟨C',M',y,ec,YC,Zy,r⟩=>?_⟩
  .exact k1 _ H1 _ M1 ((hs.mono e1).set hd (by rw[hl];exact(cV.mp ZP).1)) W7 e1 (by simp) q1
  .cases ec;obtain⟨r1,r2⟩:=hh C y M' r;have e1:qC X.K H H':=jH.trans (L2.TKept.ext tk);refine⟨r1,U,M',D,hs.mono e1,YC,r2,λσ2 H2 δ2 M2 y1 y2 y3 y4 y5=>?_,λv H2 d M2 y1 y2 y3 y5=>?_,λσ2 H2 δ2 M2 y1 y2 y3 y4 y5=>?_,λσ2 H2 δ2 M2 y1 y2 y3 y4 y5=>?_⟩
   .exact k1 _ H2 _ M2 y1 y2 (e1.trans y3) y4 y5
   .exact k2 _ H2 _ M2 y1 y2 (e1.trans y3) y5
   .exact k3 _ H2 _ M2 y1 y2 (e1.trans y3) y4 y5
   .exact k4 _ H2 _ M2 y1 y2 (e1.trans y3) y4 y5
end L3
namespace L2
noncomputable def Cq(es:Array DictEntry):Bool:=es.toList.all λe=>match e.key with|.str _ _=>Db|_=>pc
def BF{es:Array DictEntry}(h:Cq es=Db):StrKeys es:=λe he=>by
 have:=eS.mp h e (j5.mpr he);cases z:e.key with
 | str n t=>exact⟨n,t,Z'⟩
 | _=>rw[z]at this;cases this
abbrev MA:T0 Vl:=[.type "ValueError",.type "Exception",.type "BaseException",.type "object"]
def Qh{X:Cx}:yu (A5 X.prog X.w) X (λ_ _ _=>False):=λ_ _ _ _ _ _ _ ⟨_,_,_,_,_,_,z,_⟩=>z.elim
def Qu{K:qk}{t:Vl}{C:lf}{cd:ClassData}{b:Bool}(q0:W.subIn K (.ref C) (.type "BaseException")=ga Db)(q1:W.clsIn K C=ga cd)(q2:W.typeIn K (.ref C)=ga (.type "type"))(s:W.subIn K t (.ref C)=ga b):W.exmOne K t (.ref C)=ga b:=by unfold W.exmOne;rw[q0,cX (by rfl)];unfold W.kitCls;simp only;rw[q1,q2,cX (by rfl)];exact s
end L2
namespace L3
open L2
def VB{K:qk}:SX K (λ_ _ _=>False) (λ_ _ _=>False):=λ_ _ _ _ _ _ _ z=>z
end L3
namespace L2
theorem BY(self:Vl):∀own:QXQ,refuseLoop self "__setattr__" (own.map Value.ref++MA)=pure ()
 | []=>jD.passes self
 | c::r=>by show refuseLoop self "__setattr__" (.ref c::(r.map Value.ref++MA))=pure ();rw[refuseLoop_ref];exact BY self r
variable {prog:Pg}{w:Wo}{A:Ar}{s:Sd}{K:qk}{x C:lf}{ox:Obj}{own:QXQ}{name:Str}{v:Vl}
section
variable {E:QQX}{cd:ClassData}
def O7{Q:Unit->Sd->Prop}(X:K.In s.heap)(I:W.InstAt s.heap x ox C Fa)(hs:W.findIn K (.ref C) "__setattr__"=ga (ga (.builtin "object.__setattr__")))(hc:W.clsIn K C=ga cd)(hm:cd.mro=own.map Value.ref++MA)(ht:W.takerIn K C name=ga Fa)(hd:cd.hasDict=Db) (h:∀h' d t,(∀b o,b≠x->s.heap.get? b=ga o->h'.get? b=ga o)->h'.get? x=ga {ox with dict:=some d}->s.heap.get? d=Fa->d≠x->h'.Ns1 d (λy=>if y=name then ga v else Fa)->Q () {s with heap:=h',toks:=t}):Ch (pi prog w) A (setAttr (.ref x) name v) Q E s:=by
 refine W.set_plain X I hs ?_;have SF:=jD;have ne:cd.mro.isEmpty=pc:=by rw[hm];cases own<;>rfl
 have has:cd.mro.contains (.type "object")=Db:=by
  rw[hm,List.contains_eq_any_beq,lN];have:MA.any (Value.type "object"==·)=Db:=by decide+kernel
  rw[this,kM]
 have sub:W.Looks (pi prog w) s.heap (isInstance (.ref x) (.type "object")) Db:=I.type.andThen (W.looks_mroIn X (by unfold W.mroIn;rw[hc,lF,cW (by rw[ne];decide),has]));refine j9 SF.slot.plain SF.entry (@PySem.W.check_slot (pi prog w) _ _ {s with toks:=s.toks+1} "object.__setattr__" "object" "__setattr__" (.ref x) [.str name s.toks,v] [] _ SF.kind SF.split sub (SF.args (.ref x) (.str name s.toks) v) ?_);obtain⟨attr,ha,hr⟩:=Option.bind_eq_some_iff.mp ht;have hmro:W.Looks (pi prog w) s.heap (mroOf (.ref C)) cd.mro:=(km X hc).andThen .now;have L3':W.Looks (pi prog w) s.heap (Builtin.ObjectAttr.storeTaker? attr) Fa:=by
  cases attr with
  | none=>exact .now
  | some a=>
   obtain⟨b,hb,hr⟩:=jU.mp hr;refine(W.looks_takesIn X hb).andThen ?_;cases b
   .exact .now
   .cases hr
 rw[W.osa_eq,refuse_eq];refine cS (cS (I.type.here (s:={s with toks:=s.toks+1}) (cS (hmro.here (s:={s with toks:=s.toks+1}) ?_))));rw[hm,BY];refine df (cS (I.type.here (s:={s with toks:=s.toks+1}) (cS ((lQ X ha).here (s:={s with toks:=s.toks+1}) (cS (L3'.here (s:={s with toks:=s.toks+1}) ?_))))));obtain⟨hx,hcl,hn,Zy⟩:=I;obtain⟨oc,odi,oda,X5⟩:=ox;dsimp only at hcl Zy;subst hcl;cases odi with
 | some _=>exact Zy.elim
 | none=>
  refine cS (df (cS (cS (wpAny_loadPart hx (cS (lU (s:={s with toks:=s.toks+1}) (km X hc) ?_))))));rw[hd];rw[cW (by decide)];obtain⟨hh,g,dr,tk,os⟩:=s;dsimp only at hx h ⊢;rw[cW (by simp[typeHasDict])];split
  .cases hn
  .have y1:(hh.push W.emptyDict).get? x=ga ⟨.ref C,Fa,oda,X5⟩:=cY _ hx;have nx:x≠hh.objs.size:=λz=>eO _ (z ▸ dA hx);refine cS (wpAny_alloc' (cS (wpAny_update' y1 (df ?_))));have e0:((hh.push W.emptyDict).update x λo=>{o with dict:=some hh.objs.size}).Ns hh.objs.size (λ_=>Fa):=⟨W.emptyDict,#[],_,(kt _ _ _ _ nx.symm).trans (dG hh Z'),Z',λe he=>absurd he (by simp),λ_=>rfl⟩;refine cS (df (cS (wpAny_nsSet1 (kT e0) λh' n1 sb=>?_)));obtain⟨oD,esD,epD,g1,g2,g3⟩:=n1.count (Within.cons name v Within.nil);refine cS (lu g1 (g2 ▸ lw (dS g3 (by rw[dH,dE];decide))) (df (h h' hh.objs.size _ (λb o hb z=>?_) ?_ (gJ (cZ _)) nx.symm n1)))
   .exact(sb.2 b λy=>eO _ (y ▸ dA z)).trans ((kt _ _ _ _ hb).trans (cY _ z))
   .refine(sb.2 x nx).trans (fA _ y1 ?_);have fr:=(Heap.get?_some_iff.mp hx).2;cases oda with
    | _=>first|rfl|exact fr
end
variable {nm q:Str}{bs bm Yw:T0 Vl}{hdct:Bool}{sn:QQQ}{sub:T0 Vl}{ab:Bool}{col:Option Bool}{dd:Option lf}{k0 k1 k2 k3 k5:Option Vl}{B Bn newId nid Xx zc:String}{bmN:T0 Vl}{h:Go}{g:Array GenState}{d:Drawn}{t:Nat}{os:OsState}
section
variable {E:QQX}{N:lf}
abbrev Pm(C t:lf):Obj:={cls:=.ref C,data:=.fields #[.ref t,.none,.none,.none,.bool pc,.none]}
def A0(Fn:TW Bn newId zc bmN)(hBn:Yw.contains (.type Bn)=Db)(F:TW B nid Xx Yw)(T:OwnTail h Yw bm){mN:QQZ}{us:T0 Vl}{fI:lf}{oI:Obj}{Q:PySem.Fin->Sd->Prop} (hC:h.get? C=ga (Z7 nm q C N bs bm hdct sn sub ab col dd k0 k1 k2 k3 k5 newId)) (hn:h.Ns N mN) (hi:mN "__init__"=ga (.ref fI)) (hf:h.get? fI=ga oI) (hfc:oI.cls=.type "function") (Xa:us.length<=Uf) (hq:∀h' e,Heap.MadeExcOf h h' e (.ref C) us->Ch (pi prog w) A (call (.ref fI) (.ref e::us)) (λr s'=>r=.none/\Q (.done (.ret (.ref e))) s') E ⟨h',g,d,t,os⟩):
  Ch (pi prog w) A (Builtin.«type.__call__» ⟨.ref C::us,[]⟩) Q E ⟨h,g,d,t,os⟩:=by
 repeat (first|with_reducible refine g9 hC ?_|with_reducible refine wpAny_madeBy_exc hC ?_|wp_step)
 refine codeAny_call_builtin_code (i9 _ Fn.quiet) (wpAny_check_new_subU Fn hBn T hC (codeAny_exc_new_subU Fn hBn F T hC ?_ Xa));have kp:∀b o,h.get? b=ga o->((h.push {cls:=.type "tuple",data:=.seq us.toArray}).push (Pm C h.objs.size)).get? b=ga o:=λb o z=>cY _ (cY _ z);have gE:((h.push {cls:=.type "tuple",data:=.seq us.toArray}).push (Pm C h.objs.size)).get? (h.objs.size+1)=ga (Pm C h.objs.size):=by heap_get
 have hC2:=kp _ _ hC;have ZH:((h.push {cls:=.type "tuple",data:=.seq us.toArray}).push (Pm C h.objs.size)).Ns N mN:=let⟨o,es,ep,e,r⟩:=hn;⟨o,es,ep,kp _ _ e,r⟩;have cC:(Value.ref C::bm).contains (.ref C)=Db:=by rw[iw,eU,hU]
 have T2:=T.keeps kp;show Ch _ _ _ _ _ _;unfold isInstance
 repeat (first|with_reducible refine g9 gE ?_|(with_reducible refine ku hC2 ?_;rw[cC])|wp_step)
 show Ch _ _ (typeLookup (.ref C) _) _ _ _;refine wpAny_typeLookup_tail hC2 ZH T2 F.mroIs F.init.lookup ?_;rw[hi];refine eW (cS ?_);unfold bindSpecial;refine cS (jv (T:="function") ⟨_,kp _ _ hf,hfc⟩ ?_);rw[cX (by decide)];refine df (cS (d6 (hq _ (h.objs.size+1) ⟨kp,gJ (gw _),h.objs.size,gE,gJ (cZ _),cY _ (Heap.get?_push_at Z' Z')⟩) (λr s' hr=>?_) λ_ _ z=>z));obtain⟨rfl,hQ⟩:=hr
 wp_walk
 exact hQ
def Hi(Fn:TW Bn newId zc bmN)(hBn:Yw.contains (.type Bn)=Db)(F:TW B nid Xx Yw)(T:OwnTail h Yw bm){mN:QQZ}{us:T0 Vl}{fI:lf}{oI:Obj}{Q:QQX} (hC:h.get? C=ga (Z7 nm q C N bs bm hdct sn sub ab col dd k0 k1 k2 k3 k5 newId)) (hn:h.Ns N mN) (hi:mN "__init__"=ga (.ref fI)) (hf:h.get? fI=ga oI) (hfc:oI.cls=.type "function") (Xa:us.length<=Uf) (hq:∀h' e,Heap.MadeExcOf h h' e (.ref C) us->Ch (pi prog w) (A.under (.builtin "type.__call__" ⟨.ref C::us,[]⟩)) (call (.ref fI) (.ref e::us)) (λr s'=>r=.none/\Q (.ref e) s') E ⟨h',g,d,t,os⟩):
  Ch (pi prog w) A (call (.ref C) us) Q E ⟨h,g,d,t,os⟩:=by
 have f1:=tc_lookup;have f2:=tc_bind (.ref C);have hT:(⟨h,g,d,t,os⟩:Sd).TypeIs (.ref C) "type":=⟨_,hC,Z'⟩;refine iJ (codeAny_of_tree ?_);show Ch _ _ (callAny (.ref C) _) _ _ _
 repeat (any_goals(first|assumption|with_reducible refine g9 hC ?_|wp_step))
 exact⟨Z',codeAny_call_builtin_at (i9 _ (by decide+kernel)) entry_typeCall (wpAny_check_type_call_sub hC (A0 Fn hBn F T hC hn hi hf hfc Xa hq))⟩
end
variable {M:Model}{env:Env}
section
variable {E:QQX}{N:lf}
def IH(h:Go)(e C:lf)(dx:Option lf):Prop:=CM λt sl=>h.get? e=ga ⟨.ref C,dx,.fields #[.ref t,.none,.none,.none,.bool pc,.none],sl⟩
def GZ{x:Sem Vl}{Q:Flow->Sd->Prop}(Xq:bm.contains (.type "BaseException")=Db)(hh:A.handled=Fa) (h:Ch M A x (λv s₁=>∃e dx,v=.ref e/\s₁.heap.get? C=ga (Z7 nm q C N bs bm hdct sn sub ab col dd k0 k1 k2 k3 k5 newId)/\IH s₁.heap e C dx/\E (.ref e) s₁) E s):
  Ch M A (raiseStmt env (ga x) Fa) Q E s:=by
 have cB:(Value.ref C::bm).contains (.type "BaseException")=Db:=by rw[iw,Xq,kM]
 unfold raiseStmt;refine cS (d6 h (λv s₁ ⟨e,dx,ev,hC,⟨t,sl,he⟩,hE⟩=>?_) λ_ _ z=>z);subst ev;obtain⟨hp,g,d,tk,os⟩:=s₁
 repeat (first|with_reducible refine g9 he ?_|with_reducible refine g9 hC ?_|(with_reducible refine ku hC ?_;rw[cB])|wp_step)
 exact wpAny_raiseNew_none hh hE
def F0(Fn:TW Bn newId zc bmN)(hBn:Yw.contains (.type Bn)=Db)(F:TW B nid Xx Yw){mN:QQZ}{fI:lf}{x:Str}{np Xc pos:Pos}{args:T0 Tl}{Q:Flow->Sd->Prop} (Xq:bm.contains (.type "BaseException")=Db) (hh:A.handled=Fa) (Xn:(At Xc (Tk args env)).any (·.1)=pc) (hi:mN "__init__"=ga (.ref fI)) (h:Ch (pi prog w) A (No (.Name x np) env) (λf s₁=>f=.ref C/\Ch (pi prog w) A (evalArgs (.ref C) Db (At Xc (Tk args env)) []) (λa s₂=>a.kw=[]/\a.pos.length<=Uf/\s₂.heap.get? C=ga (Z7 nm q C N bs bm hdct sn sub ab col dd k0 k1 k2 k3 k5 newId)/\s₂.heap.Ns N mN/\OwnTail s₂.heap Yw bm/\(∃oI,s₂.heap.get? fI=ga oI/\oI.cls=.type "function")/\
    ∀h' e,Heap.MadeExcOf s₂.heap h' e (.ref C) a.pos->Ch (pi prog w) (A.under (.builtin "type.__call__" ⟨.ref C::a.pos,[]⟩)) (call (.ref fI) (.ref e::a.pos))
     (λr s'=>r=.none/\∃dx,s'.heap.get? C=ga (Z7 nm q C N bs bm hdct sn sub ab col dd k0 k1 k2 k3 k5 newId)/\IH s'.heap e C dx/\E (.ref e) s') E {s₂ with heap:=h'}) E s₁) E s):
  Ch (pi prog w) A (exec (.Raise (ga (.Call (.Name x np) args [] Xc)) Fa pos) env) Q E s:=by
 rw[arm_exec_Raise];refine cS (ie (GZ (C:=C) (nm:=nm) (q:=q) (N:=N) (bs:=bs) (bm:=bm) (hdct:=hdct) (sn:=sn) (sub:=sub) (ab:=ab) (col:=col) (dd:=dd) (k0:=k0) (k1:=k1) (k2:=k2) (k3:=k3) (k5:=k5) (newId:=newId) Xq hh ?_));refine cS (d6 (wpAny_Call_ofName (d6 h (λf s₁ ⟨ef,h₁⟩=>?_) λ_ _ z=>z)) (λv s₃ h₃=>cS (ie (df h₃))) λ_ _ z=>z);subst ef;unfold Y';refine cS (eW (d6 h₁ (λa s₂ h₂=>cS (ie ?_)) λ_ _ z=>z));obtain⟨W8,akw⟩:=a;obtain⟨hkw,Xa,hC,hn,T,⟨oI,hf,hfc⟩,h₂⟩:=h₂;obtain rfl:akw=[]:=hkw;obtain⟨hp,g,d,tk,os⟩:=s₂;simp only[Xn];refine cS (wpAny_keeperOf_exc hC (cS (Hi Fn hBn F T hC hn hi hf hfc Xa λh' e hm=>d6 (h₂ h' e hm) (λr s' ⟨z,dx,c1,c2,c3⟩=>⟨z,cS (eW (wpAny_point (df ⟨e,dx,Z',c1,c2,c3⟩)))⟩) λ_ _ z=>z)))
end
def x0(a C:lf)(h:Go):Prop:=IH h a C Fa
def x1(a C d:lf)(h:Go):Prop:=IH h a C (ga d)
structure yN(K:qk)(C:lf)(f:Str):Prop where
 sa:W.findIn K (.ref C) "__setattr__"=ga (ga (.builtin "object.__setattr__"))
 cd:∃cd own,W.clsIn K C=ga cd/\cd.mro=List.map Value.ref own++MA/\cd.hasDict=Db
 tk:W.takerIn K C f=ga Fa
variable {X:Cx}{W5:T0 (lf × Obj)}{Y σ':St}{H H1:Hp}{s1:Sd}{a:lf}
section
variable {f:Str}
def FX{A:Ar}{E:QQX}{Q:Unit->Sd->Prop}(I:Inv X W5 Y H s)(e:H a=ga (.ext (x0 a C)))(ry:qz y u)(st:yN X.K C f)(h:∀d s',H d=Fa->d≠a->Inv X W5 Y (upd (upd H a (.ext (x1 a C d))) d (.ext (PZ d f y))) s'->Q () s'):Ch (pi X.prog X.w) A (setAttr (.ref a) f u) Q E s:=by obtain⟨⟨t,sl,ho⟩,_,_⟩:=I.mD a _ e;obtain⟨cd,own,c1,c2,c3⟩:=st.cd;refine O7 I.m7 ⟨ho,Z',Z',trivial⟩ st.sa c1 c2 st.tk c3 λh' d tk k1 k2 dn da n1=>h d _ (zO I.mD dn) da ?_;have I2:=I.write (t':=tk) (x:=a) (e:=a) (o:=.ext (x1 a C d)) (by rw[e];exact True.intro) (.inl Z') k1 ⟨_,k2⟩ ⟨⟨t,sl,k2⟩,⟨_,k2⟩,λh1 h2 ⟨t',Yy,z⟩ kk=>⟨t',Yy,kk _ z⟩⟩;refine I2.adopt I dn (by rw[pN da];exact zO I.mD dn) ⟨⟨u,n1,ry⟩,?_,λh1 h2 ⟨u,n,r⟩ kk=>⟨u,n.at kk,r⟩⟩;obtain⟨o,_,_,z,_⟩:=n1;exact⟨o,z⟩
def Inv.drop{φ:Go->Prop}(I:Inv X W5 Y H s)(ea:H a=ga (.ext φ)):Inv X W5 Y (λb=>if b=a then Fa else H b) s:=by
 have less:∀b,H b=Fa->(if b=a then Fa else H b)=Fa:=λb e=>by split<;>first|rfl|exact e
 have keep:∀b o,H b=ga o->(∀φ,o≠.ext φ)->(if b=a then Fa else H b)=ga o:=λb o e n=>by
  rw[cW]
  .exact e
  .intro z;rw[z,ea]at e;exact n φ (de e).symm
 refine⟨I.ok,I.os,I.bare,⟨I.base.keep,I.base.slot,λb o e h0 hb=>less b (I.base.free b o e h0 hb),I.base.there,λb xs e=>keep b _ (I.base.m8 b xs e) (λ_ z=>nomatch z),λb o u e=>keep b _ (I.base.mW b o u e) (λ_ z=>nomatch z),λb ps e=>?_⟩,I.loc,I.cell,less _ I.free,λx c e=>less _ (I.mJ x c e),λp hp=>⟨(I.pin p hp).1,less _ (I.pin p hp).2.1,(I.pin p hp).2.2⟩,λb ob e=>?_,I.len⟩
 .obtain⟨more,z⟩:=I.base.ni b ps e;exact⟨more,keep b _ z (λ_ z=>nomatch z)⟩
 .have e':H b=ga ob:=by
   by_cases z:b=a
   .rw[cX z]at e;cases e
   .rw[cW z]at e;exact e
  exact(I.mD b ob e').m9 (λ_ _ _ q=>q) (λb' q=>keep b' _ q (λ_ z=>nomatch z)) λb' xs q=>keep b' _ q (λ_ z=>nomatch z)
end
def Nf(K:qk)(ta tv:TE)(f:Str):TS:=λD Y H=>tv Y H λy H1=>ta Y H1 λx H2=>∃a C,x=.ref a/\H2 a=ga (.ext (x0 a C))/\yN K C f/\∀d,H2 d=Fa->d≠a->D.nx Y (upd (upd H2 a (.ext (x1 a C d))) d (.ext (PZ d f y)))
def PK{f:Str}{pos Xd:Pos}{ta tv:TE}(ha:PE X o ta)(hv:PE X value tv)(hs:wv value (ga (.Attribute o f Xd)) pos.line X.env=pure pc:=by rfl):PS X (.Assign [.Attribute o f Xd] value pos) (Nf X.K ta tv f):=by intro W5 s Y H D I h;refine iI (rY (hv W5 s Y H _ I h) λu s1 zz=>x5 zz λy H1 I1 ry q=>rY (ha W5 s1 Y H1 _ I1 q) λov s2 zz=>?_) hs;obtain⟨x,H2,I2,rx,a,C,ex,ea,st,q2⟩:=zz;subst ex;obtain rfl:ov=Value.ref a:=rx;exact FX I2 ea ry st λd s3 dn da I3=>⟨Y,_,I3,q2 d dn da⟩
def vX(K:qk)(f:Str):Sp:=λvs H Q _=>DM λe C y=>vs=[.ref e,y]/\H e=ga (.ext (x0 e C))/\yN K C f/\∀d,H d=Fa->d≠e->Q .mx (upd (upd H e (.ext (x1 e C d))) d (.ext (PZ d f y)))
variable {qual:Str}{scope:Z8}{outer:T0 Env}{s0:Sd}{H0:Hp}{P:Pg}{mg:QQZ}{base:Go}
section
def Nz{x qual y1 y2 fl:Str}{st:xz}(F:Pb K x qual st f fd)(S:sO [y1,y2] [y1,y2] (pV st)) (hb:∀(Xg:Vl) (A:Ar) (outer:T0 Env) (s:Sd) (H:Hp) (E:XK),Bx (vg (A5 P w) P w K mg base [y1,y2] qual (pV st) f Xg A outer s H E) (rH st) (Nf K (Hn 0) (Hn 1) fl)):xl P w K mg base (A5 P w) 1 f fd [y1,y2] (vX K fl):=by
 obtain⟨oc,od,kV,XG,pm,an,Xg,ct,X5,rfl,lk,Yl⟩:=F.ex;refine Nc lk Yl S (λvs H Q E h=>?_) λA outer s H vs Q' E hr h=>⟨_,hb Xg A outer s H E,?_⟩
 .obtain⟨e,C,y,rfl,_⟩:=h;rfl
 .obtain⟨e,C,y,rfl,h1,h2,q⟩:=h;exact⟨y,Z',.ref e,Z',e,C,Z',h1,h2,q⟩
def Jm(K:qk)(C fI:lf):Prop:=
 ∃nm q N bs bm Yw hdct sn sub ab col dd k0 k1 k2 k3 k5,∃B Bn newId nid Xx zc:String,∃bmN,∃mN:QQZ,TW Bn newId zc bmN/\Yw.contains (Value.type Bn)=Db/\TW B nid Xx Yw/\bm.contains (Value.type "BaseException")=Db/\mN "__init__"=ga (.ref fI)/\
  ∀h:Go,K.In h->h.get? C=ga (Z7 nm q C N bs bm hdct sn sub ab col dd k0 k1 k2 k3 k5 newId)/\h.Ns N mN/\OwnTail h Yw bm/\∃oI,h.get? fI=ga oI/\oI.cls=.type "function"
variable {N:QQQ}{f:lf}{cd:Vl}{E:XK}
def J9{X:Cx}(hX:X=vg (A5 P w) P w K mg base N qual scope f cd A outer s0 H0 E){C fI:lf}{fdI:Rs}{ps:QQQ}{fl:Str}{k:Nat}{x:Str}{np Xc pos:Pos}{e:Tl}{ta:TA}(hC:Jm X.K C fI)(F:xl X.prog X.w X.K X.mg X.base (A5 X.prog X.w) k fI fdI ps (vX X.K fl))(hr:rO (k+1) X.A)(hb:ul X.K fdI ps [])(st:yN X.K C fl) (hg:Gl X x) (hm:X.mg x=ga (.ref C)) (ha:PA X [e] ta) (hs:Tk [e] X.env=[(pc,No e X.env)]:=by rfl) (Xm:zu x:=by decide):
  PS X (.Raise (ga (.Call (.Name x np) [e] [] Xc)) Fa pos) (λ_ Y H=>ta Y H λvs H1=>∃y,vs=[y]/\∀d,H1 d=Fa->E (.ref C) (ga d) (upd H1 d (.ext (PZ d fl y)))):=by
 intro W5 s Y H D I h;obtain⟨nm,q,N',bs,bm,Yw,hdct,sn,sub,ab,col,dd,k0,k1,k2,k3,k5,B,Bn,newId,nid,Xx,zc,bmN,mN,f1,f2,f3,f4,f5,Y4⟩:=hC;have hcalm:X.A.handled=Fa:=I.ok.hd (by rw[hX];rfl);refine F0 (nm:=nm) (q:=q) (N:=N') (bs:=bs) (hdct:=hdct) (sn:=sn) (sub:=sub) (ab:=ab) (col:=col) (dd:=dd) (k0:=k0) (k1:=k1) (k2:=k2) (k3:=k3) (k5:=k5) f1 f2 f3 f4 hcalm (by rw[hs];rfl) f5 (wz I hg hm ⟨Z',?_⟩ Xm);rw[hs];refine evalArgs_kwB Z' ?_;have YI:=ha Xc W5 s Y H _ I h;rw[hs]at YI;refine rY YI λus s1 zz=>?_;obtain⟨vs,H1,I1,r1,y,ey,q1⟩:=zz;subst ey;obtain⟨u,rfl,ru⟩:=vV r1;refine wpAny_evalAll_nil ?_;obtain⟨c1,c2,c3,c4⟩:=Y4 s1.heap I1.m7;refine⟨Z',by show 1<=Uf;rw[dH];decide,c1,c2,c3,c4,λh' e' md=>?_⟩;obtain⟨mk,mn,t,mt,_⟩:=md;have hn:H1 e'=Fa:=zO I1.mD mn;have I2:Inv X W5 Y H1 {s1 with heap:=h'}:=I1.kept (t':=s1.toks) mk;have I3:Inv X W5 Y (upd H1 e' (.ext (x0 e' C))) {s1 with heap:=h'}:=I2.adopt I1 mn hn ⟨⟨t,_,mt⟩,⟨_,mt⟩,λh1 h2 ⟨t',Yy,z⟩ kk=>⟨t',Yy,kk _ z⟩⟩;have r2:qo [V.ref e',y] [Value.ref e',u]:=.cons Z' (.cons ru .nil);have Yz:vX X.K fl [V.ref e',y] (upd H1 e' (.ext (x0 e' C))) (λv H2=>v=.mx/\∃d,d≠e'/\H1 d=Fa/\H2=upd (upd H1 e' (.ext (x1 e' C d))) d (.ext (PZ d fl y))) (λ_ _ _=>False):=⟨e',C,y,Z',pR,st,λd dn da=>⟨Z',d,da,by rw[pN da]at dn;exact dn,by rw[Pr]⟩⟩;have hl:([Value.ref e',u]:T0 Vl).length=ps.length:=by rw[<-r2.length];exact F.len _ _ _ _ Yz
 refine iJ (gN (F.run _ X.stack _ _ ⟨[Value.ref e',u],[]⟩ [Value.ref e',u] _ _ _ (hr.make C [u] []) (I3.nM.make C [u] []) (hb _ [Value.ref e',u] I3.m7 hl) r2 Yz) λr s' YM=>?_);cases r with
 | error ev=>obtain⟨_,_,_,_,_,_,z,_⟩:=YM;exact z.elim
 | ok fw=>
  cases fw with
  | ret uv=>
   obtain⟨v,H',I4,rv,ev,d,da,dn,eH⟩:=I3.after YM;subst ev eH;obtain⟨⟨t',Yy,md⟩,_,_⟩:=I4.mD e' _ (by rw[pN (dQ da)];exact pR);have I5:Inv X W5 Y (upd H1 d (.ext (PZ d fl y))) _:=(funext λb=>by
    by_cases z:b=e'
    .subst z;rw[cX Z',pN (dQ da),hn]
    .rw[cW z];by_cases z2:b=d
     .subst z2;rw[pR,pR]
     .rw[pN z2,pN z2,pN z]:(λb=>if b=e' then Fa else upd (upd H1 e' (.ext (x1 e' C d))) d (.ext (PZ d fl y)) b)=upd H1 d (.ext (PZ d fl y))) ▸ I4.drop (a:=e') (φ:=x1 e' C d) (by rw[pN (dQ da)];exact pR)
   refine⟨rv,ga d,(Y4 s'.heap I4.m7).1,⟨t',Yy,md⟩,?_⟩;subst hX;have Xv:Un (vQ outer) [] H0 H1 s0.heap s1.heap:=I1.base;exact U5 I5 (tb:=none) ⟨_,_,md,Z',Z',Z',(by show 1<6;decide),Z',λT z=>by cases z⟩ (GW Xv Z' mn) (λT z=>by cases z) (by rw[pN (dQ da)];exact hn) (q1 d dn)
  | next=>exact False.elim YM
  | brk=>exact False.elim YM
  | cont=>exact False.elim YM
end
end L2
namespace L3
open L2
variable {P:Pg}{w:Wo}{K:qk}{mg:QQZ}{base:Go}{N:QQQ}{qual:Str}{scope:Z8}{f:lf}{cd:Vl}{A:Ar}{outer:T0 Env}{s0:Sd}{H0:Hp}{E:XK}{x:Str}{np Xc pos:Pos}{e:Tl}{C fI:lf}{fdI:Rs}{ps:QQQ}{fl:Str}{k:Nat}{R:XR}{ta:wI}
def Qg(C:lf)(R:XR)(f:Str)(ta:wI):xj:=λ_ U M=>ta U M λds M1=>∃z,ds=[z]/\R C (ga (f,z)) M1
def J0(hC:Jm K C fI)(F:xl P w K mg base (A5 P w) k fI fdI ps (vX K fl))(hr:rO (k+1) (vg (A5 P w) P w K mg base N qual scope f cd A outer s0 H0 E).A)(hb:ul K fdI ps [])(st:yN K C fl)(_:W.findIn K (.ref C) "__init__"=ga (ga (.ref fI)))(hg:Gl (vg (A5 P w) P w K mg base N qual scope f cd A outer s0 H0 E) x)(hm:mg x=ga (.ref C))(hR:SX K R E)(ha:A3 (vg (A5 P w) P w K mg base N qual scope f cd A outer s0 H0 E) [e] ta) (hs:Tk [e] (vg (A5 P w) P w K mg base N qual scope f cd A outer s0 H0 E).env=[(pc,No e (vg (A5 P w) P w K mg base N qual scope f cd A outer s0 H0 E).env)]:=by rfl) (Xm:zu x:=by decide):
  S3 (vg (A5 P w) P w K mg base N qual scope f cd A outer s0 H0 E) (.Raise (ga (.Call (.Name x np) [e] [] Xc)) Fa pos) (Qg C R fl ta):=
 PS.mono (J9 Z' hC F hr hb st hg hm ha hs Xm) λD' Y H ⟨U,M,D,hs,hm,ht,_⟩=>⟨U,M,_,hs,hm,ht,λvs H1 ds M1 hd W7 e1 q1=>by
  obtain⟨z,rfl,r⟩:=q1;obtain⟨v,rfl,hv⟩:=rD hd;exact⟨v,Z',λd dn=>hR C (ga d) _ M1 _ (W7.add dn) (.inr ⟨d,fl,z,v,Z',Z',pR,hv.mono (.new dn)⟩) r⟩⟩
variable {X:Cx}{b₀:xz}{XY:T0 xz}{cn:Str}{cnp YX epos:Pos}{Cc L:lf}{te:UZ}{th:xj}
end L3
namespace L2
def MB{K:qk}{C C2 N fI:lf}{nm q:Str}{bs sub:T0 Vl}{hdct ab:Bool}{sn:QQQ}{col:Option Bool}{dd od1 od2 dd2:Option lf}{k0 k1 k2 k3 k5:Option Vl}{oc1 oc2 c0:Vl}{es1 es2:Array DictEntry}{ep1 ep2:Nat}{sl1 sl2 Wp:Array (Option Vl)}{cd2:ClassData}{oI:Obj} (l1:K.lookup C=ga (Z7 nm q C N bs (.ref C2::MA) hdct sn sub ab col dd k0 k1 k2 k3 k5 "ValueError.__new__")) (n1:K.lookup N=ga ⟨oc1,od1,.dict es1 ep1,sl1⟩) (s1:Cq es1=Db) (i1:nsFind es1 "__init__"=ga (.ref fI)) (l2:K.lookup C2=ga ⟨c0,dd2,.cls cd2,Wp⟩) (n2:K.lookup cd2.ns=ga ⟨oc2,od2,.dict es2 ep2,sl2⟩) (s2:Cq es2=Db) (i2:nsFind es2 "__init__"=Fa) (l3:K.lookup fI=ga oI) (hf:W.isFn K (.ref fI)=Db):Jm K C fI:=by
 have hc:oI.cls=.type "function":=by have hf:=eY.mp hf;unfold W.typeIn at hf;simp only at hf;rw[l3]at hf;exact de hf
 refine⟨nm,q,N,bs,.ref C2::MA,MA,hdct,sn,sub,ab,col,dd,k0,k1,k2,k3,k5,"ValueError","ValueError","ValueError.__new__","ValueError.__new__","ValueError.__init__","ValueError.__init__",MA,λn=>nsFind es1 n,ke,by decide+kernel,ke,?_,i1,λh X=>⟨X C _ l1,⟨_,es1,ep1,X N _ n1,Z',BF s1,λ_=>rfl⟩,.own (X C2 _ l2) ⟨_,es2,ep2,X _ _ n2,Z',BF s2,λ_=>rfl⟩ i2 .base,oI,X fI _ l3,hc⟩⟩;rw[iw];have:MA.contains (.type "BaseException")=Db:=by decide+kernel
 rw[this,kM]
def Kz{K:qk}{C C2 N:lf}{nm q f:Str}{bs sub:T0 Vl}{ab:Bool}{sn:QQQ}{col:Option Bool}{dd:Option lf}{k0 k1 k2 k3 k5:Option Vl}(l1:K.lookup C=ga (Z7 nm q C N bs (.ref C2::MA) Db sn sub ab col dd k0 k1 k2 k3 k5 "ValueError.__new__"))(sa:W.findIn K (.ref C) "__setattr__"=ga (ga (.builtin "object.__setattr__")))(tk:W.findIn K (.ref C) f=ga Fa):yN K C f:=by refine⟨sa,⟨_,[C,C2],by unfold W.clsIn;rw[l1],Z',Z'⟩,?_⟩;unfold W.takerIn;rw[tk];rfl
end L2
namespace L3
open L2
variable {X:Cx}{pos W8:Pos}{o e:Tl}{es:T0 Tl}{ta:T3}{t:wI}
structure FA where
 f:lf
 d:Rs
 p:QQQ
structure DG(K:qk)(st:xz)(py qual:Str)(ps:QQQ)(x:FA):Prop where
 pe:x.p=ps
 fn:Pb K py qual st x.f x.d
 b:ul K x.d x.p []
 ty:W.isFn K (.ref x.f)=Db
structure TG(K:qk)(mg:QQZ)(st:xz)(py:Str)(ps:QQQ)(x:FA):Prop extends DG K st py py ps x where
 mg:mg py=ga (.ref x.f)
structure MG(K:qk)(C:lf)(st:xz)(py qual:Str)(ps:QQQ)(x:FA):Prop extends DG K st py qual ps x where
 at_:W.findIn K (.ref C) py=ga (ga (.ref x.f))
structure CG(K:qk)(mg:QQZ)(nm:Str)(C:lf):Prop extends Cls K C where
 mg:mg nm=ga (.ref C)
def DG.kp{K:qk}{st:xz}{x:FA}(h:DG K st py qual ps x):W.keepIn K (.ref x.f)=Db:=h.fn.kp
def MG.mQ{K:qk}{st:xz}{x:FA}(h:MG K C st py qual ps x):vm K C py x.f:=⟨h.at_,h.ty,h.toDG.kp⟩
def zJ(K:qk)(C:lf)(fs:QQQ):Prop:=∀f,fs.contains f=Db->tP K C f
def sT{K:qk}:zJ K C []:=λf h=>by simp at h
def pI{K:qk}{C:lf}{g:Str}(h:W.findIn K (.ref C) g=ga Fa)(r:zJ K C fs):zJ K C (g::fs):=λf q=>by
 rw[iw,gX]at q;rcases q with q|q
 .rw[ZB q];exact h
 .exact r f q
abbrev Fq(P:Pg)(w:Wo)(K:qk)(mg:QQZ)(base:Go)(k:Nat)(x:FA)(sp:qY):Prop:=To P w K mg base k x.f x.d x.p sp
abbrev Wq(P:Pg)(w:Wo)(K:qk)(mg:QQZ)(base:Go)(k:Nat)(x:FA)(sp:EH):Prop:=Qr P w K mg base k x.f x.d x.p sp
noncomputable def SY(N P:QQQ)(sc:Z8):Bool:=sc.kind==.function&&(!sc.isCoroutine&&(!sc.isGenerator&&(decide N.Nodup&&(decide (N.take P.length=P)&&((P.all λx=>sc.names.lookup x==ga .local||sc.names.lookup x==ga .cell)&&sc.names.all λy=>!(y.2==.free))))))
def WZ{N P:QQQ}(h:SY N P sc=Db):sO N P sc:=by
 unfold SY at h;simp only[dR,gG,eY,d9]at h;obtain⟨h1,h2,h3,h4,h5,h6,h7⟩:=h;refine⟨h1,h2,h3,h4,h5,λx hx=>?_,λy hy e=>?_⟩
 .have:=eS.mp h6 x hx
  simpa using this
 .have:=eS.mp h7 y hy;rw[e]at this;simp at this
variable {P:Pg}{w:Wo}{K:qk}{mg:QQZ}{base:Go}
def VY{st:xz}{sp:qY}(F:DG K st x qual ps fa)(S:sO N ps (pV st))(len:∀ds M Q,sp ds M Q->ds.length=ps.length) (Xp:∀(Xg:Vl) (A:Ar) (outer:T0 Env) (s:Sd) (H:Hp) (E:XK),rO k (A.deeper (sK qual (pV st) s.heap.objs.size fa.f Xg))->
   ∃t,G' (vg NV P w K mg base N qual (pV st) fa.f Xg A outer s H E).nY (rH st) t/\∀ds M Q,sp ds M Q->t {nx:=λ_ M'=>∃W9,qu W9 M'/\Q .mx W9,rt:=λd M'=>∃W9,qu W9 M'/\Q d W9} (wA N ds) M):Fq P w K mg base (k+1) fa sp:=by
 unfold Fq;rw[F.pe];exact T8 F.fn S len Xp
def UD{st:xz}{sp:EH}(F:DG K st x qual ps fa)(S:sO N ps (pV st))(len:∀ds M Q R,sp ds M Q R->ds.length=ps.length) (Xp:∀(Xg:Vl) (A:Ar) (outer:T0 Env) (s:Sd) (H:Hp) (E:XK) (R:XR),rO k (A.deeper (sK qual (pV st) s.heap.objs.size fa.f Xg))->SX K R E->
   ∃t,G' (vg (A5 P w) P w K mg base N qual (pV st) fa.f Xg A outer s H E) (rH st) t/\∀ds M Q,sp ds M Q R->t {nx:=λ_ M'=>∃W9,qu W9 M'/\Q .mx W9,rt:=λd M'=>∃W9,qu W9 M'/\Q d W9} (wA N ds) M):Wq P w K mg base (k+1) fa sp:=by
 unfold Wq;rw[F.pe];exact Uk F.fn S len Xp
variable {k n:Nat}{f C:lf}{fa:FA}{st:xz}{qual:Str}{ps:QQQ}{sp:qY}{x m:Str}{p:Pos}
def pz(F:Fq X.prog X.w X.K X.mg X.base k fa sp)(hr:rO n X.A)(T:TG X.K X.mg st x ps fa)(ha:A3 X (e::es) t)(hn:k<=n:=by first|decide|lia)(hg:Gl X x:=by rfl)
  (Xm:zu x:=by decide) (he:AE X e es:=by rfl) (Xj:Ce X pos es:=by rfl):
  E3 X (.Call (.Name x p) (e::es) [] pos) (DB sp t):=P9 F (hr.mono hn) hg T.mg T.toDG.kp T.b ha Xm he Xj
def uX(F:Fq X.prog X.w X.K X.mg X.base k fa sp)(hr:rO n X.A)(c:CG X.K X.mg x C)(i:Mk X.K C fa.f)(T:DG X.K st m qual ps fa)(ha:A3 X (e::es) t)(hn:k+1<=n:=by first|decide|lia)(hg:Gl X x:=by rfl)
  (Xm:zu x:=by decide) (he:AE X e es:=by rfl) (Xj:Ce X pos es:=by rfl):
  E3 X (.Call (.Name x p) (e::es) [] pos) (QD C sp t):=N8 c.toCls i F (hr.mono hn) hg c.mg T.b ha Xm he Xj
def pO{pl:Sem Bool}(he:E3 X o ta)(c:Cls X.K C)(T:MG X.K C st m qual ps fa)(F:Fq X.prog X.w X.K X.mg X.base k fa sp)(hr:rO n X.A)(ha:A3 X (e::es) t)(hn:k<=n:=by first|decide|lia)
  (Xr:AE X e es:=by rfl) (Xj:Ce X pos es:=by rfl)
  (ht:No (.Call (.Attribute o m W8) (e::es) [] pos) X.env=(do
   let ov<-No o X.env
   u8 W8.atName
   let(f,first)<-Ix [ov] (XV ov m pl)
   Y' pos f first (At pos (Tk (e::es) X.env)) (dL pos (Op [] X.env))):=by rfl):
  E3 X (.Call (.Attribute o m W8) (e::es) [] pos) (Aw m (λD s=>D=C/\s=sp) ta t):=
 FG (R:=λD s=>D=C/\s=sp) he (λD s ⟨e1,e2⟩=>by subst e1 e2;exact⟨c,_,_,_,T.mQ,F,T.b⟩) (hr.mono hn) ha Xr Xj ht
def vF{pl:Sem Bool}(he:E3 X o ta)(c:Cls X.K C)(T:MG X.K C st m qual ps fa)(F:Fq X.prog X.w X.K X.mg X.base k fa sp)(hr:rO n X.A)(hn:k<=n:=by first|decide|lia)
  (ht:No (.Call (.Attribute o m W8) [] [] pos) X.env=(do
   let ov<-No o X.env
   u8 W8.atName
   let(f,first)<-Ix [ov] (XV ov m pl)
   Y' pos f first (At pos (Tk [] X.env)) (dL pos (Op [] X.env))):=by rfl):
  E3 X (.Call (.Attribute o m W8) [] [] pos) (Aw m (λD s=>D=C/\s=sp) ta xK):=
 Cf (R:=λD s=>D=C/\s=sp) he (λD s ⟨e1,e2⟩=>by subst e1 e2;exact⟨c,_,_,_,T.mQ,F,T.b⟩) (hr.mono hn) ht
def yP{pl:Sem Bool}(cm:Md X.K C m fa.f)(F:Fq X.prog X.w X.K X.mg X.base k fa sp)(hr:rO n X.A)(c:CG X.K X.mg x C)(T:DG X.K st m qual ps fa)(ha:A3 X (e::es) t)(hn:k<=n:=by first|decide|lia)(hg:Gl X x:=by rfl)
  (Xm:zu x:=by decide) (Xr:AE X e es:=by rfl) (Xj:Ce X pos es:=by rfl)
  (ht:No (.Call (.Attribute (.Name x p) m W8) (e::es) [] pos) X.env=(do
   let ov<-No (.Name x p) X.env
   u8 W8.atName
   let(f,first)<-Ix [ov] (XV ov m pl)
   Y' pos f first (At pos (Tk (e::es) X.env)) (dL pos (Op [] X.env))):=by rfl):
  E3 X (.Call (.Attribute (.Name x p) m W8) (e::es) [] pos) (DB sp t):=Ot cm F (hr.mono hn) hg c.mg T.kp T.b ha Xm Xr Xj ht
variable {h:Go}{py:Str}{od an:Option lf}{sl:Array (Option Vl)}{kv dc pm cd ct:Vl}
def IB{fd:Rs}{oc:Vl}(l:K.lookup f=ga ⟨oc,od,.func fd,sl⟩):W.keepIn K (.ref f)=Db:=by unfold W.keepIn;simp only;rw[l]
def Oe{fd:Rs}(l:K.lookup f=ga ⟨.type "function",od,.func fd,sl⟩):W.isFn K (.ref f)=Db:=by unfold W.isFn W.typeIn;simp only;rw[l];rfl
abbrev mM(py qual:Str)(st:xz)(ps:QQQ):Prop:=∀(kV XG pm:Vl) (an:Option lf) (Xg ct:Vl) (us:T0 Vl),us.length=ps.length->bindArgs (W.fnOf py qual (tY st) (rH st) (pV st) .none kV XG pm an Xg ct) ⟨us,[]⟩=pure (ps.zip us)
def QS(l:K.lookup f=ga ⟨.type "function",od,.func (W.fnOf py qual (tY st) (rH st) (pV st) .none kv dc pm an cd ct),sl⟩)(k:W.codeIn K cd qual=Db)(hb:mM py qual st ps):
  DG K st py qual ps ⟨f,W.fnOf py qual (tY st) (rH st) (pV st) .none kv dc pm an cd ct,ps⟩:=⟨Z',NN l k (IB l),(NN l k (IB l)).binds hb,Oe l⟩
def qe(X:K.In h)(G:h.Ns Ps mg)(a:W.nsIn K Ps py=ga (ga (.ref f)))(l:K.lookup f=ga ⟨.type "function",od,.func (W.fnOf py py (tY st) (rH st) (pV st) .none kv dc pm an cd ct),sl⟩)(k:W.codeIn K cd py=Db)(hb:mM py py st ps):
  TG K mg st py ps ⟨f,W.fnOf py py (tY st) (rH st) (pV st) .none kv dc pm an cd ct,ps⟩:=⟨QS l k hb,W.mg_of X G a⟩
def pS(a:W.findIn K (.ref C) py=ga (ga (.ref f)))(l:K.lookup f=ga ⟨.type "function",od,.func (W.fnOf py qual (tY st) (rH st) (pV st) .none kv dc pm an cd ct),sl⟩)(k:W.codeIn K cd qual=Db)(hb:mM py qual st ps):
  MG K C st py qual ps ⟨f,W.fnOf py qual (tY st) (rH st) (pV st) .none kv dc pm an cd ct,ps⟩:=⟨QS l k hb,a⟩
def vZ(X:K.In h)(G:h.Ns Ps mg)(a:W.nsIn K Ps py=ga (ga (.ref C)))(h1:W.plainGet K C Str.empty=Db)(h2:W.hasDictIn K C=Db)(h3:W.plainOver K C=Db)(h4:W.findIn K (.ref C) "__setattr__"=ga (ga (.builtin "object.__setattr__"))):CG K mg py C:=⟨⟨h1,h2,h3,h4⟩,W.mg_of X G a⟩
def Pc{x:Str}{a:lf}{es:T0 DictEntry}{ep:Nat}(h:mg x=ga (.ref a))(s:(a==TD)=pc)(l:K.lookup a=ga ⟨.type "dict",Fa,.dict es.toArray ep,#[]⟩) (r:KTD.Rows (λ(ss:QQQ) v=>∃t,v=Value.ref t/\vk K (λ_=>Fa) t (ss.map V.str)) es T):K4 K mg x T:=⟨a,_,_,_,h,s,l,⟨Z',Z',Z'⟩,Z',by simpa using r⟩
def ML{x qual y1 y2 fl:Str}{st:xz}(F:DG K st x qual [y1,y2] fa)(S:sO [y1,y2] [y1,y2] (pV st)) (hb:∀(Xg:Vl) (A:Ar) (outer:T0 Env) (s:Sd) (H:Hp) (E:XK),Bx (vg (A5 P w) P w K mg base [y1,y2] qual (pV st) fa.f Xg A outer s H E) (rH st) (Nf K (Hn 0) (Hn 1) fl)):xl P w K mg base (A5 P w) 1 fa.f fa.d fa.p (vX K fl):=by
 rw[F.pe];exact Nz F.fn S hb
def TC(ds:T0 D)(M:Mp)(Q:DK):Prop:=match ds with
 | [.ref a]=>(nU M a).elim False λes=>(GE es).elim False λbs=>Q (.bl (bs.any id)) M
 | _=>False
def Sj(hc:X.calm=Db):C3 X (.builtin "any") TC:=by
 intro W5 s Y H vs us Q' I rv h;obtain⟨ds,M,Q,hd,hm,q,k⟩:=h;unfold TC at q;split at q
 .rename_i a;obtain⟨v,rfl,hv⟩:=rD hd;obtain⟨es,e0,q⟩:=qI q;obtain⟨bs,e1,q⟩:=qI q;cases hv.mj;obtain⟨u,rfl,ru⟩:=vV rv;cases ru;obtain⟨xs,h1,h2,_⟩:=pQ hm e0;obtain⟨its,r,pl,hz⟩:=I.list h1;have ZW:=E9 e1 h2 r;subst ZW;have Xt:a≠s.heap.objs.size:=by obtain⟨o,_,e,_⟩:=pl;exact dO (dA e)
  refine call_any_walk (gZ pl.isList ?_);refine⟨s.heap.objs.size,_,_,_,_,_,λi=>(bs[i]?).getD pc,Z',j8 (A:=X.A.in1) (I.ok.hd hc) _ a Xt (bs.map Value.bool).toArray,⟨⟨_,dG _ Z',Z',Z'⟩,?_⟩,λi v s' Q E hP hQ=>?_,λh' tk hk=>?_⟩
  .obtain⟨o,n,e,c,d,q⟩:=pl;exact⟨o,cY _ e,c,n,q⟩
  .simp only[iH,dq]at hP;cases e2:bs[i]? with
   | none=>rw[e2]at hP;cases hP
   | some b=>rw[e2]at hP;cases hP;have hQ:Q ((bs[i]?).getD pc) s':=hQ;rw[e2]at hQ;exact eX hQ
  .have ea:(List.range (bs.map Value.bool).toArray.size).any (λi=>(bs[i]?).getD pc)=bs.any id:=by
    rw[dh,cR];rw[gj,fM,fM];constructor
    .rintro ⟨i,hi,z⟩
     have Y5:=gc.mp hi;rw[cT Y5]at z;exact⟨_,ia Y5,z⟩
    .rintro ⟨b,hb,z⟩
     obtain⟨i,hi,e⟩:=gR hb;refine⟨i,gc.mpr hi,?_⟩;rw[cT hi,e];exact z
   rw[ea];refine⟨.bl (bs.any id),H,?_,Z',k _ _ _ _ .bl hm .refl q⟩;exact I.kept (h':=h') (t':=tk) λb o e=>hk b o (by simpa using dO (dA e)) (cY _ e)
 .exact q.elim
def Ry:zn "any"=ga (.builtin "any"):=by decide+kernel
end L3
namespace L2
variable {X:Cx}
theorem FV:∀{ns:T0 Int} {its:T0 Vl},qo (ns.map V.int) its->IntsAre its ns
 | [],[],_=>.nil
 | [],_::_,h=>nomatch h
 | _::_,[],h=>nomatch h
 | n::ns,v::its,h=>by
  cases h with
  | cons a b=>obtain⟨t,rfl⟩:=a;exact .cons _ t (FV b)
theorem Gq:∀{ns:T0 Int} {its:T0 Vl},IntsAre its ns->qo (ns.map V.int) its
 | _,_,.nil=>.nil
 | _,_,.cons _ t h=>.cons ⟨t,Z'⟩ (Gq h)
def Gz:xp X (.builtin "sorted") (λxs H Q=>∃p,∃ns:T0 Int,xs=[.ref p]/\xk X.K H p (ns.map V.int)/\ns.length<64/\∀l (ms:T0 Int),H l=Fa->ms.Perm ns->ms.Pairwise (·<=·)->Q (.ref l) (upd H l (.lst (ms.map V.int)))):=by intro W5 s Y H xs us Q I r h;obtain⟨p,ns,rfl,hq,h64,q⟩:=h;obtain⟨u,rfl,rx⟩:=vV r;cases rx;obtain⟨its,r',pl,hz⟩:=I.list hq;have Xa:=r'.length;rw[cR]at Xa;refine sorted_ints pl.isList (FV r') (by lia) λout ms a1 a2 a3=>?_;obtain⟨e,he⟩:=sortedAll_at s.heap its out;refine⟨.ref (s.heap.objs.size+1),_,I.laid (t':=s.toks) (λ_ _=>sortedAll_old) (gw _) (show sG X.prog X.w _ _ _ (.lst (ms.map V.int))from⟨?_,out.toList,e,Gq a1,he⟩),Z',q _ ms (I.mD.fresh (gw _)) a2 a3⟩;rw[cR,a2.length_eq];have:=dH;lia
end L2
namespace L3
open L2
variable {X:Cx}
def QR(ds:T0 D)(M:Mp)(Q:DK):Prop:=match ds with
 | [.ref a]=>∃ns:T0 Int,nU M a=ga (ns.map D.int)/\ns.length<64/\∀(ms:T0 Int) p,M p=Fa->ms.Perm ns->ms.Pairwise (·<=·)->Q (.ref p) (o9 M p (.lst (ms.map D.int)))
 | _=>False
theorem IU{K:qk}:∀{ns:T0 Int} {vs:T0 V},pY K H (ns.map D.int) vs->vs=ns.map V.int
 | [],vs,h=>by cases h;rfl
 | n::ns,vs,h=>by obtain⟨x,r,rfl,h1,h2⟩:=h.inv;rw[h1.int_inv,IU h2];rfl
theorem GS{K:qk}:∀ns:T0 Int,pY K H (ns.map D.int) (ns.map V.int)
 | []=>.nil
 | _::ns=>.cons .int (GS ns)
def Kt:C3 X (.builtin "sorted") QR:=by
 intro W5 s Y H vs us Q' I rv h;obtain⟨ds,M,Q,hd,hm,q,k⟩:=h;unfold QR at q;split at q
 .obtain⟨v,rfl,hv⟩:=rD hd;obtain⟨ns,e0,h64,q⟩:=q;cases hv.mj;obtain⟨xs,h1,h2,_⟩:=pQ hm e0;obtain rfl:=IU h2;refine Gz W5 s Y H _ us Q' I rv ⟨_,ns,Z',h1,h64,λl ms hl p1 p2=>?_⟩;have e:qC X.K H (upd H l (.lst (ms.map V.int))):=.new hl;exact k _ _ _ _ .ref (hm.new (c:=.lst (ms.map D.int)) hl ⟨_,pR,GS ms⟩) e (q ms l (hm.fresh hl) p1 p2)
 .exact q.elim
variable {pos:Pos}{o i e value:Tl}{to ti te td tk tv:T3}
def R5(td tk tv:T3):xj:=λD U M=>tv U M λv M1=>td U M1 λx M2=>tk U M2 λy M3=>match x,y with
 | .ref a,.int k=>(xm M3 a).elim False λkvs=>kvs.length<Uf/\D.nx U (o9 M3 a (.dk (wn kvs (.inl k) v)))
 | _,_=>False
def NI(hu:X.A.units+9<IN)(ho:E3 X o td)(hi:E3 X i tk)(hv:E3 X value tv)(hs:wv value (ga (.Subscript o i Xd)) pos.line X.env=pure pc:=by rfl):S3 X (.Assign [.Subscript o i Xd] value pos) (R5 td tk tv):=
 PS.mono (Iy (by lia) ho hi hv hs) λD' Y H zz=>JR zz λU M D hs hm ht k1 k2 k3 k4=>
 ⟨U,M,_,hs,hm,ht,λv H1 d M1 hd W7 e1 q1=>⟨U,M1,_,hs.mono e1,W7,q1,λvx H2 x M2 hx Xk e2 q2=>⟨U,M2,_,hs.mono (e1.trans e2),Xk,q2,λvy H3 y M3 hy Xz e3 q3=>by
  split at q3
  .rename_i a0 k0;obtain⟨kvs,f1,f2,q3⟩:=qI q3;cases(hx.mono e3).mj;cases hy.int_inv;obtain⟨vs,h1,h2,h3⟩:=wm Xz f1;have hl:vs.length=kvs.length:=by have:=eC List.length h2;simpa using this
   refine⟨_,_,Z',Kh.k (k:=Sum.inl k0) h1 (by lia),?_⟩;have hd3:=hd.mono (e2.trans e3);obtain⟨ZV,e4⟩:=Xz.put (o:=.dK (yh vs (Sum.inl k0) v)) (c:=.dk (wn kvs (.inl k0) d)) (wx f1) λex=>by obtain⟨g1,g2⟩:=DJ (k:=Sum.inl k0) (hd3.mono ex) h2 (h3.mono ex);exact⟨_,pR,g1,g2⟩
   exact k1 Y _ U _ (hs.mono (e1.trans (e2.trans (e3.trans e4)))) ZV (e1.trans (e2.trans (e3.trans e4))) Z' q3
  .exact q3.elim⟩⟩⟩
end L3
namespace L3
open L2
def NM(i:Nat){X:Cx}{pos:Pos}{x:Str}(h1:X.N[i]?=ga x:=by rfl)(h2:UL X.env.scope x:=by first|exact Or.inl Z'|exact Or.inr (Or.inl Z')|exact Or.inr (Or.inr Z'))(h3:zu x:=by decide)(h4:(x==("__classdict__":Str))=pc:=by decide):E3 X (.Name x pos) (v3 i):=RV i (pv i h1 h2 h3 h4)
variable {X:Cx}{pos:Pos}
def W4{N:QQQ}(h:decide N.Nodup=Db):N.Nodup:=fJ h
def pC(i:Nat){x:Str}{e:Tl}{te:T3}{Xd:Pos}{ps:QQQ}{sc:Z8}(S:sO X.N ps sc)(he:E3 X e te)(hi:X.N[i]?=ga x:=by rfl)(hx:KO X.env.scope x:=by first|exact Or.inl Z'|exact Or.inr Z')(YA:wv e (ga (.Name x Xd)) pos.line X.env=pure pc:=by rfl)(hf:KP X x:=by first|exact .inl Z'|exact .inr Z'|assumption):S3 X (.Assign [.Name x Xd] e pos) (Ep te (qV i)):=S6 S.nd hi hx he YA hf
def rN(i:Nat){x:Str}{ps:QQQ}{sc:Z8}(S:sO X.N ps sc)(hi:X.N[i]?=ga x:=by rfl)(hx:KO X.env.scope x:=by first|exact Or.inl Z'|exact Or.inr Z')(hf:KP X x:=by first|exact .inl Z'|exact .inr Z'|assumption):G3 X (.Name x pos) (qV i):=IQ S.nd hi hx hf
def qh(i:Nat){x:Str}(hN:decide X.N.Nodup=Db:=by kernel_rfl)(hi:X.N[i]?=ga x:=by rfl)(hx:KO X.env.scope x:=by first|exact Or.inl Z'|exact Or.inr Z')(hf:KP X x:=by first|exact .inl Z'|exact .inr Z'|assumption):G3 X (.Name x pos) (qV i):=IQ (W4 hN) hi hx hf
abbrev Sc(n:Nat)(N:QQQ)(s:xz):=sO N (N.take n) (pV s)
def sk{n:Nat}{s:xz}(h:SY N (N.take n) (pV s)=Db:=by decide+kernel):Sc n N s:=WZ h
def pW(h0:E3 X e0 t0)(g0:Tk [e0] X.env=(pc,No e0 X.env)::Tk [] X.env:=by rfl):A3 X [e0] (vb t0 xK):=(pT h0 rZ g0)
def rK(h0:E3 X e0 t0)(h1:E3 X e1 t1)(g0:Tk [e0,e1] X.env=(pc,No e0 X.env)::Tk [e1] X.env:=by rfl)(g1:Tk [e1] X.env=(pc,No e1 X.env)::Tk [] X.env:=by rfl):A3 X [e0,e1] (vb t0 (vb t1 xK)):=(pT h0 (pT h1 rZ g1) g0)
def ra(h0:E3 X e0 t0)(h1:E3 X e1 t1)(h2:E3 X e2 t2)(g0:Tk [e0,e1,e2] X.env=(pc,No e0 X.env)::Tk [e1,e2] X.env:=by rfl)(g1:Tk [e1,e2] X.env=(pc,No e1 X.env)::Tk [e2] X.env:=by rfl)(g2:Tk [e2] X.env=(pc,No e2 X.env)::Tk [] X.env:=by rfl):A3 X [e0,e1,e2] (vb t0 (vb t1 (vb t2 xK))):=(pT h0 (pT h1 (pT h2 rZ g2) g1) g0)
abbrev v0:=@NM 0
abbrev U1:=@NM 1
abbrev U2:=@NM 2
abbrev U3:=@NM 3
abbrev v5:=@NM 5
abbrev v4:=@NM 4
abbrev v6:=@NM 6
abbrev v7:=@NM 7
abbrev v8:=@NM 8
abbrev v9:=@NM 9
abbrev Wg:=@NM 10
variable {P:Pg}{w:Wo}{K:qk}{mg:QQZ}{base:Go}
def fq{st:xz}{sp:qY}(F:DG K st x qual ps fa)(S:sO N ps (pV st)) (hb:∀{Xg:Vl} {A:Ar} {outer:T0 Env} {s:Sd} {H:Hp} {E:XK},rO k (A.deeper (sK qual (pV st) s.heap.objs.size fa.f Xg))->(A.deeper (sK qual (pV st) s.heap.objs.size fa.f Xg)).units+9<IN->
   ∃t,G' (vg NV P w K mg base N qual (pV st) fa.f Xg A outer s H E).nY (rH st) t/\∀ds M Q,sp ds M Q->t {nx:=λ_ M'=>∃W9,qu W9 M'/\Q .mx W9,rt:=λd M'=>∃W9,qu W9 M'/\Q d W9} (wA N ds) M) (len:∀ds M Q,sp ds M Q->ds.length=ps.length:=by walk_at "l"):Fq P w K mg base (k+1) fa sp:=VY F S len λ_ _ _ _ _ _ h=>hb h (WC h)
def xc{X:Cx}(h:Hu X.env.scope X.N scope ix N'=Db:=by kernel_rfl):rT X scope ix N':=U' h
end L3
namespace Z
section
open L2 L3
def ub{M:L3.Mp}{x:PySem.Addr}{ds:T0 L3.D}(h:M x=Fa):∃M',M'=L3.o9 M x (.lst ds)/\qu M M'/\L3.nU M' x=ga ds:=⟨_,Z',qu.new h,L3.pj⟩
def qS(i:Nat):xz:=PySem.Challenge.pw_callboard_k56_longer_logs.main.body.getD i (.Pass ⟨0,0,0,0⟩)
abbrev tm(i j:Nat):xz:=PD (qS i) j
def ui:Sc 1 ["log","legs","owners","units","counts","event","word"] (qS 1):=sk
def zU:Sc 1 ["answers"] (qS 3):=sk
def Gx:Sc 2 ["call","word"] (qS 5):=sk
def CV:Sc 2 ["call","phone"] (qS 6):=sk
def xn:Sc 2 ["call","event","word"] (qS 7):=sk
def Bs:Sc 3 ["board","caller","target","wishes"] (qS 14):=sk
def sV:Sc 3 ["board","caller","target","free","members","place","in_turn"] (qS 15):=sk
def uH:Sc 3 ["board","caller","target","phones"] (qS 16):=sk
def Aj:Sc 2 ["wanted","target"] (qS 17):=sk
def vW:Sc 4 ["board","caller","target","way","come_to","steps","fits","wanted"] (qS 18):=sk
def yW:Sc 2 ["board","phone"] (qS 20):=sk
def vY:Sc 3 ["board","phone","target","word"] (qS 21):=sk
def Mu:Sc 3 ["word","phone","calls"] (qS 22):=sk
def tE:Sc 4 ["board","word","phone","numbers","calls","due"] (qS 23):=sk
def yI:Sc 3 ["board","word","number"] (qS 24):=sk
def CA:Sc 2 ["board","deed","word"] (qS 25):=sk
def tG:Sc 3 ["board","number","steps","last","target","fits"] (qS 26):=sk
def uy:Sc 4 ["board","number","target","phones","members","place"] (qS 27):=sk
def xO:Sc 3 ["board","number","target","talk","members"] (qS 28):=sk
def xX:Sc 3 ["board","number","end","word"] (qS 29):=sk
def wk:Sc 2 ["board","number","call","told","end","steps","last"] (qS 30):=sk
def zd:Sc 3 ["board","phone","target","number"] (qS 31):=sk
def B4:Sc 3 ["board","phone","number","call"] (qS 32):=sk
def yq:Sc 2 ["board","call","wishes"] (qS 33):=sk
def Cs:Sc 3 ["board","number","fits","wish"] (qS 34):=sk
def tD:Sc 1 ["board","number","call","fits"] (qS 35):=sk
def sW:Sc 2 ["board","deed","word","phone","number","call","kept","others"] (qS 36):=sk
def Mi:Sc 2 ["board","deed","word"] (qS 37):=sk
def Ha:Sc 2 ["board","deed","word","begun"] (qS 38):=sk
def HA:Sc 3 ["board","caller","target"] (qS 40):=sk
def B9:Sc 1 ["told","word"] (qS 51):=sk
def Oz:Sc 2 ["holds","words"] (qS 66):=sk
def HH:Sc 1 ["text"] (qS 67):=sk
def Dd:Sc 1 ["things"] (qS 68):=sk
def FM:Sc 3 ["chosen","known","most"] (qS 69):=sk
def tN:Sc 1 ["phones","name","lines","rank"] (qS 70):=sk
def tL:Sc 2 ["groups","phone_names","name","manner","members"] (qS 71):=sk
def CY:Sc 4 ["kind","part","phone_names","names"] (qS 72):=sk
def tJ:Sc 3 ["wish","phone_names","names","form","parts","kind","part"] (qS 73):=sk
def uF:Sc 3 ["wishes","phone_names","names","on","wish"] (qS 74):=sk
def vL:Sc 3 ["phones","groups","wishes","phone_names","names"] (qS 75):=sk
def KC:Sc 2 ["_law_script","_law_k"] (qS 78):=sk
def Gs:Sc 3 ["_law_cell","_law_factor","_law_many"] (qS 79):=sk
def tQ:Sc 2 ["_law_seed","_law_which","_law_letters","_law_size","_law_place","_law_rest","_law_sign"] (qS 80):=sk
def xR:Sc 3 ["_law_row","_law_cell","_law_most","_law_first","_law_size"] (qS 81):=sk
def uA:Sc 2 ["_law_seed","_law_most","_law_phones_here","_law_k","_law_lines"] (qS 82):=sk
def uB:Sc 2 ["_law_seed","_law_own","_law_groups_here","_law_g","_law_manner"] (qS 83):=sk
def sX:Sc 3 ["_law_cell","_law_own","_law_names","_law_a","_law_place","_law_b","_law_c","_law_pick","_law_first"] (qS 84):=sk
def rV:Sc 2 ["_law_script","_law_most","_law_seed","_law_phones_here","_law_own","_law_groups_here","_law_names","_law_wishes","_law_k","_law_cell"] (qS 85):=sk
def Dm:Sc 1 ["_law_call"] (qS 86):=sk
def AX:Sc 2 ["_law_board","_law_states"] (qS 87):=sk
def rm:Sc 4 ["_law_board","_law_cell","_law_word_here","_law_states","_law_some_here","_law_k","_law_people_here","_law_a","_law_m"] (qS 88):=sk
def ux:Sc 4 ["_law_cell","_law_own","_law_names","_law_many","_law_a","_law_b","_law_k","_law_m","_law_some_here"] (qS 89):=sk
def rn:Sc 4 ["_law_board","_law_cell","_law_own","_law_names","_law_word_here","_law_states","_law_found","_law_a"] (qS 90):=sk
def GP:Sc 1 ["_law_parts"] (qS 91):=sk
def FW:Sc 1 ["_law_script"] (qS 92):=sk
def vC:Sc 2 ["_law_board","_law_deed_here","_law_events"] (qS 93):=sk
def F6:Sc 3 ["_law_board","_law_script","_law_k"] (qS 94):=sk
def vI:Sc 2 ["_law_script","_law_parts","_law_board","_law_k"] (qS 95):=sk
def wM:Sc 3 ["_law_few","_law_more","_law_turns","_law_one","_law_other"] (qS 96):=sk
def uT:Sc 1 ["_law_script","_law_board","_law_log","_law_places","_law_k","_law_between","_law_turns","_law_ahead","_law_goes","_law_behind","_law_due"] (qS 97):=sk
def Cy:Sc 2 ["self","word"] (tm 12 0):=sk
def Df:Sc 3 ["self","plan","hour"] (tm 8 0):=sk
def FN:Sc 4 ["self","phones","groups","wishes"] (tm 76 0):=sk
def yf:Sc 1 ["self"] (tm 76 2):=sk
def CP:Sc 1 ["self"] (tm 76 1):=sk
def xV:Sc 2 ["self","event","word"] (tm 8 12):=sk
def zS:Sc 2 ["self","phone"] (tm 8 2):=sk
def Ex:Sc 2 ["self","caller"] (tm 4 0):=sk
def yK:Sc 2 ["self","phone"] (tm 4 5):=sk
def yi:Sc 2 ["self","phone"] (tm 4 4):=sk
def Ai:Sc 2 ["self","leg"] (tm 8 10):=sk
def xB:Sc 4 ["self","merged","kept","members","call"] (tm 8 11):=sk
def vd:Sc 1 ["self","call"] (tm 8 9):=sk
def yO:Sc 2 ["self","phone"] (tm 4 8):=sk
def Gg:Sc 2 ["self","told"] (tm 42 0):=sk
def Eg:Sc 2 ["self","told"] (tm 43 0):=sk
def AC:Sc 2 ["self","told"] (tm 44 0):=sk
def Dj:Sc 2 ["self","told"] (tm 46 0):=sk
def B5:Sc 2 ["self","told"] (tm 48 0):=sk
def Fk:Sc 2 ["self","told"] (tm 49 0):=sk
def BR:Sc 2 ["self","told"] (tm 50 0):=sk
def zW:Sc 2 ["self","phone"] (tm 8 3):=sk
def BM:Sc 2 ["self","phone"] (tm 8 4):=sk
def Ah:Sc 2 ["self","phone"] (tm 8 5):=sk
def Dg:Sc 2 ["self","phone"] (tm 8 1):=sk
def CO:Sc 2 ["self","phone"] (tm 76 3):=sk
def wX:Sc 2 ["self","phone"] (tm 4 7):=sk
def C1:Sc 2 ["self","phone"] (tm 4 6):=sk
def BC:Sc 2 ["self","call"] (tm 41 4):=sk
def Ae:Sc 2 ["self","call"] (tm 48 2):=sk
def FE:Sc 1 ["self"] (tm 41 1):=sk
def Fb:Sc 2 ["self","told"] (tm 41 0):=sk
def yS:Sc 2 ["self","phone"] (tm 4 2):=sk
def C8:Sc 2 ["self","phone"] (tm 4 3):=sk
def GK:Sc 2 ["self","phone"] (tm 4 1):=sk
def FH:Sc 1 ["self"] (tm 42 1):=sk
def CU:Sc 1 ["self"] (tm 43 1):=sk
def zY:Sc 1 ["self"] (tm 44 1):=sk
def C0:Sc 1 ["self"] (tm 49 1):=sk
def AR:Sc 1 ["self"] (tm 50 1):=sk
def Gb:Sc 4 ["self","board","caller","target"] (tm 42 2):=sk
def Fu:Sc 4 ["self","board","caller","target"] (tm 43 2):=sk
def CD:Sc 4 ["self","board","caller","target"] (tm 45 0):=sk
def CW:Sc 4 ["self","board","caller","target"] (tm 46 2):=sk
def Ey:Sc 4 ["self","board","caller","target"] (tm 47 0):=sk
def BH:Sc 4 ["self","board","caller","target"] (tm 48 1):=sk
def FD:Sc 4 ["self","board","caller","target"] (tm 49 2):=sk
def vj:Sc 4 ["self","board","caller","target","talk","members"] (tm 50 3):=sk
def BZ:Sc 2 ["self","name"] (tm 76 6):=sk
def y9:Sc 2 ["self","name"] (tm 76 5):=sk
def zK:Sc 2 ["self","hour"] (tm 46 1):=sk
def zm:Sc 1 ["self"] (tm 8 8):=sk
def yZ:Sc 2 ["self","phone"] (tm 8 6):=sk
def vi:Sc 3 ["self","plan","members","rank"] (tm 50 2):=sk
def zg:Sc 3 ["self","caller","target"] (tm 8 7):=sk
def EN:Sc 2 ["self","phone"] (tm 76 4):=sk
noncomputable def KJ:T0 (Str×QQQ):=[("bar",["phone","names"]),("shut",["name","phones"]),("always",["name","name"]),("night",["name","name","hour","hour"]),("busy",["name","name"]),("silent",["name","name","turns"]),("wait",["phone"]),("breaks",["phone"])]
set_option genInjectivity false in
structure Ad where
 (N P ab aQ aR aS aT aU aV aW ac aX aY aZ a0 a1 a2 a3 a4 a5 ad a6 a7 a8 a9 ba bb bc E Q bd m ae af R be bf bg bh bi bj H i ag S bk bl bm bn bo bp bq br bs bt bu bv bw bx bz ah I ai aj O ak k T al am U bA bB bC an ao ap A aq ar au av V bD bE bF bG bH aw q ax l F X bI bJ ay az z aA aB aC aD aE aF aG aH aI aJ aK Y bK bL bM bN aL aM:FA)
 (e c B t u Z x n y v w o h b3 J:lf)
structure Gl(K:qk)(mg:QQZ)(a:Ad):Prop where
 e:CG K mg "Call" a.e
 c:CG K mg "Board" a.c
 B:CG K mg "Wish" a.B
 t:CG K mg "Bar" a.t
 u:CG K mg "Shut" a.u
 Z:CG K mg "Forward" a.Z
 x:CG K mg "Always" a.x
 n:CG K mg "Night" a.n
 y:CG K mg "Busy" a.y
 v:CG K mg "Silent" a.v
 w:CG K mg "Wait" a.w
 o:CG K mg "Breaks" a.o
 h:CG K mg "Plan" a.h
 cQ:mg "CallError"=ga (.ref a.b3)
 bW:mg "NoDeed"=ga (.ref a.J)
 N:TG K mg (qS 1) "bills" ["log"] a.N
 P:TG K mg (qS 3) "place_of_true" ["answers"] a.P
 ab:TG K mg (qS 5) "end_call" ["call","word"] a.ab
 aQ:TG K mg (qS 6) "drop_phone" ["call","phone"] a.aQ
 aR:TG K mg (qS 7) "change_call" ["call","event"] a.aR
 aS:TG K mg (qS 14) "fitting" ["board","caller","target"] a.aS
 aT:TG K mg (qS 15) "rung_phones" ["board","caller","target"] a.aT
 aU:TG K mg (qS 16) "end_without_wish" ["board","caller","target"] a.aU
 aV:TG K mg (qS 17) "end_as_wanted" ["wanted","target"] a.aV
 aW:TG K mg (qS 18) "route" ["board","caller","target","way"] a.aW
 ac:TG K mg (qS 20) "word_for_idling" ["board","phone"] a.ac
 aX:TG K mg (qS 21) "word_for_call" ["board","phone","target"] a.aX
 aY:TG K mg (qS 22) "suits" ["word","phone","calls"] a.aY
 aZ:TG K mg (qS 23) "word_for_numbers" ["board","word","phone","numbers"] a.aZ
 a0:TG K mg (qS 24) "word_for_switch" ["board","word","number"] a.a0
 a1:TG K mg (qS 25) "refusal" ["board","deed"] a.a1
 a2:TG K mg (qS 26) "take_steps" ["board","number","steps"] a.a2
 a3:TG K mg (qS 27) "start_ringing" ["board","number","target","phones"] a.a3
 a4:TG K mg (qS 28) "break_in" ["board","number","target"] a.a4
 a5:TG K mg (qS 29) "come_to_end" ["board","number","end"] a.a5
 ad:TG K mg (qS 30) "go_on" ["board","number"] a.ad
 a6:TG K mg (qS 31) "make_call" ["board","phone","target"] a.a6
 a7:TG K mg (qS 32) "hang_up" ["board","phone","number"] a.a7
 a8:TG K mg (qS 33) "due_wishes" ["board","call"] a.a8
 a9:TG K mg (qS 34) "send_on" ["board","number","fits"] a.a9
 ba:TG K mg (qS 35) "let_turn_pass" ["board"] a.ba
 bb:TG K mg (qS 36) "event_of" ["board","deed"] a.bb
 bc:TG K mg (qS 37) "act" ["board","deed"] a.bc
 E:TG K mg (qS 38) "do" ["board","deed"] a.E
 Q:TG K mg (qS 40) "is_busy" ["board","caller","target"] a.Q
 bd:TG K mg (qS 51) "wish_of" ["told"] a.bd
 m:TG K mg (qS 66) "need" ["holds","words"] a.m
 ae:TG K mg (qS 67) "is_name" ["text"] a.ae
 af:TG K mg (qS 68) "all_unlike" ["things"] a.af
 R:TG K mg (qS 69) "is_choice" ["chosen","known","most"] a.R
 be:TG K mg (qS 70) "check_phones" ["phones"] a.be
 bf:TG K mg (qS 71) "check_groups" ["groups","phone_names"] a.bf
 bg:TG K mg (qS 72) "part_holds" ["kind","part","phone_names","names"] a.bg
 bh:TG K mg (qS 73) "check_wish" ["wish","phone_names","names"] a.bh
 bi:TG K mg (qS 74) "check_wishes" ["wishes","phone_names","names"] a.bi
 bj:TG K mg (qS 75) "check_plan" ["phones","groups","wishes"] a.bj
 H:TG K mg (qS 78) "_law_at" ["_law_script","_law_k"] a.H
 i:TG K mg (qS 79) "_law_draw" ["_law_cell","_law_factor","_law_many"] a.i
 ag:TG K mg (qS 80) "_law_word" ["_law_seed","_law_which"] a.ag
 S:TG K mg (qS 81) "_law_some" ["_law_row","_law_cell","_law_most"] a.S
 bk:TG K mg (qS 82) "_law_phones" ["_law_seed","_law_most"] a.bk
 bl:TG K mg (qS 83) "_law_groups" ["_law_seed","_law_own"] a.bl
 bm:TG K mg (qS 84) "_law_wish" ["_law_cell","_law_own","_law_names"] a.bm
 bn:TG K mg (qS 85) "_law_plan" ["_law_script","_law_most"] a.bn
 bo:TG K mg (qS 86) "_law_people" ["_law_call"] a.bo
 bp:TG K mg (qS 87) "_law_of_state" ["_law_board","_law_states"] a.bp
 bq:TG K mg (qS 88) "_law_on_call" ["_law_board","_law_cell","_law_word_here","_law_states"] a.bq
 br:TG K mg (qS 89) "_law_any" ["_law_cell","_law_own","_law_names","_law_many"] a.br
 bs:TG K mg (qS 90) "_law_deed" ["_law_board","_law_cell","_law_own","_law_names"] a.bs
 bt:TG K mg (qS 91) "_law_made" ["_law_parts"] a.bt
 bu:TG K mg (qS 92) "_law_hour" ["_law_script"] a.bu
 bv:TG K mg (qS 93) "_law_done" ["_law_board","_law_deed_here"] a.bv
 bw:TG K mg (qS 94) "_law_next" ["_law_board","_law_script","_law_k"] a.bw
 bx:TG K mg (qS 95) "_law_played" ["_law_script","_law_parts"] a.bx
 bz:TG K mg (qS 96) "_law_grown" ["_law_few","_law_more","_law_turns"] a.bz
 ah:TG K mg (qS 97) "law" ["_law_script"] a.ah
 I:MG K a.J (tm 12 0) "__init__" "NoDeed.__init__" ["self","word"] a.I
 ai:MG K a.c (tm 8 0) "__init__" "Board.__init__" ["self","plan","hour"] a.ai
 aj:MG K a.h (tm 76 0) "__init__" "Plan.__init__" ["self","phones","groups","wishes"] a.aj
 O:MG K a.h (tm 76 2) "phone_names" "Plan.phone_names" ["self"] a.O
 ak:MG K a.h (tm 76 1) "names" "Plan.names" ["self"] a.ak
 k:MG K a.c (tm 8 12) "apply" "Board.apply" ["self","event"] a.k
 T:MG K a.c (tm 8 2) "is_free" "Board.is_free" ["self","phone"] a.T
 al:MG K a.e (tm 4 0) "__init__" "Call.__init__" ["self","caller"] a.al
 am:MG K a.e (tm 4 5) "waits_with" "Call.waits_with" ["self","phone"] a.am
 U:MG K a.e (tm 4 4) "is_tried_by" "Call.is_tried_by" ["self","phone"] a.U
 bA:MG K a.c (tm 8 10) "add_leg" "Board.add_leg" ["self","leg"] a.bA
 bB:MG K a.c (tm 8 11) "merge" "Board.merge" ["self","merged","kept","members"] a.bB
 bC:MG K a.c (tm 8 9) "pass_turn" "Board.pass_turn" ["self"] a.bC
 an:MG K a.e (tm 4 8) "other_than" "Call.other_than" ["self","phone"] a.an
 ao:MG K a.t (tm 42 0) "__init__" "Bar.__init__" ["self","told"] a.ao
 ap:MG K a.u (tm 43 0) "__init__" "Shut.__init__" ["self","told"] a.ap
 A:MG K a.Z (tm 44 0) "__init__" "Forward.__init__" ["self","told"] a.A
 aq:MG K a.n (tm 46 0) "__init__" "Night.__init__" ["self","told"] a.aq
 ar:MG K a.v (tm 48 0) "__init__" "Silent.__init__" ["self","told"] a.ar
 au:MG K a.w (tm 49 0) "__init__" "Wait.__init__" ["self","told"] a.au
 av:MG K a.o (tm 50 0) "__init__" "Breaks.__init__" ["self","told"] a.av
 V:MG K a.c (tm 8 3) "talk_of" "Board.talk_of" ["self","phone"] a.V
 bD:MG K a.c (tm 8 4) "bound" "Board.bound" ["self","phone"] a.bD
 bE:MG K a.c (tm 8 5) "calling" "Board.calling" ["self","phone"] a.bE
 bF:MG K a.c (tm 8 1) "used" "Board.used" ["self","phone"] a.bF
 bG:MG K a.h (tm 76 3) "lines" "Plan.lines" ["self","phone"] a.bG
 bH:MG K a.e (tm 4 7) "can_be_left_by" "Call.can_be_left_by" ["self","phone"] a.bH
 aw:MG K a.e (tm 4 6) "pairs" "Call.pairs" ["self","phone"] a.aw
 q:MG K a.B (tm 41 4) "is_due" "Wish.is_due" ["self","call"] a.q
 ax:MG K a.v (tm 48 2) "is_due" "Silent.is_due" ["self","call"] a.ax
 l:MG K a.B (tm 41 1) "told" "Wish.told" ["self"] a.l
 F:MG K a.B (tm 41 0) "__init__" "Wish.__init__" ["self","told"] a.F
 X:MG K a.e (tm 4 2) "talks_with" "Call.talks_with" ["self","phone"] a.X
 bI:MG K a.e (tm 4 3) "binds" "Call.binds" ["self","phone"] a.bI
 bJ:MG K a.e (tm 4 1) "has" "Call.has" ["self","phone"] a.bJ
 ay:MG K a.t (tm 42 1) "wants" "Bar.wants" ["self"] a.ay
 az:MG K a.u (tm 43 1) "wants" "Shut.wants" ["self"] a.az
 z:MG K a.Z (tm 44 1) "wants" "Forward.wants" ["self"] a.z
 aA:MG K a.w (tm 49 1) "wants" "Wait.wants" ["self"] a.aA
 aB:MG K a.o (tm 50 1) "wants" "Breaks.wants" ["self"] a.aB
 aC:MG K a.t (tm 42 2) "fits" "Bar.fits" ["self","board","caller","target"] a.aC
 aD:MG K a.u (tm 43 2) "fits" "Shut.fits" ["self","board","caller","target"] a.aD
 aE:MG K a.x (tm 45 0) "fits" "Always.fits" ["self","board","caller","target"] a.aE
 aF:MG K a.n (tm 46 2) "fits" "Night.fits" ["self","board","caller","target"] a.aF
 aG:MG K a.y (tm 47 0) "fits" "Busy.fits" ["self","board","caller","target"] a.aG
 aH:MG K a.v (tm 48 1) "fits" "Silent.fits" ["self","board","caller","target"] a.aH
 aI:MG K a.w (tm 49 2) "fits" "Wait.fits" ["self","board","caller","target"] a.aI
 aJ:MG K a.o (tm 50 3) "fits" "Breaks.fits" ["self","board","caller","target"] a.aJ
 aK:MG K a.h (tm 76 6) "manner" "Plan.manner" ["self","name"] a.aK
 Y:MG K a.h (tm 76 5) "phones_of" "Plan.phones_of" ["self","name"] a.Y
 bK:MG K a.n (tm 46 1) "has_hour" "Night.has_hour" ["self","hour"] a.bK
 bL:MG K a.c (tm 8 8) "hour_now" "Board.hour_now" ["self"] a.bL
 bM:MG K a.c (tm 8 6) "waits_at" "Board.waits_at" ["self","phone"] a.bM
 bN:MG K a.o (tm 50 2) "outranks" "Breaks.outranks" ["self","plan","members"] a.bN
 aL:MG K a.c (tm 8 7) "ringable" "Board.ringable" ["self","caller","target"] a.aL
 aM:MG K a.h (tm 76 4) "rank" "Plan.rank" ["self","phone"] a.aM
 b4:Jm K a.J a.I.f
 b5:yN K a.J "word"
 b6:W.exmOne K (.ref a.J) (.ref a.J)=ga Db
 b7:Mk K a.c a.ai.f
 b8:Mk K a.h a.aj.f
 b9:Mk K a.e a.al.f
 ca:Mk K a.t a.ao.f
 cb:Mk K a.u a.ap.f
 cc:Mk K a.x a.A.f
 cd:Mk K a.n a.aq.f
 ce:Mk K a.y a.A.f
 cf:Mk K a.v a.ar.f
 cg:Mk K a.w a.au.f
 ch:Mk K a.o a.av.f
 ci:vm K a.t "is_due" a.q.f
 cj:vm K a.u "is_due" a.q.f
 ck:vm K a.x "is_due" a.q.f
 cl:vm K a.n "is_due" a.q.f
 cm:vm K a.y "is_due" a.q.f
 cn:vm K a.w "is_due" a.q.f
 co:vm K a.o "is_due" a.q.f
 cp:vm K a.t "told" a.l.f
 cq:vm K a.u "told" a.l.f
 cr:vm K a.x "told" a.l.f
 cs:vm K a.n "told" a.l.f
 ct:vm K a.y "told" a.l.f
 cu:vm K a.v "told" a.l.f
 cv:vm K a.w "told" a.l.f
 cw:vm K a.o "told" a.l.f
 cx:vm K a.x "wants" a.z.f
 cy:vm K a.n "wants" a.z.f
 cz:vm K a.y "wants" a.z.f
 cA:vm K a.v "wants" a.z.f
 aN:Md K a.B "__init__" a.F.f
 bX:Md K a.Z "__init__" a.A.f
 C:zJ K a.c ["plan","hour","turn","calls","legs","nexts","on","log"]
 aa:zJ K a.h ["phones","groups","wishes","on","phone_rows","group_rows"]
 j:zJ K a.e ["state","caller","way","at","members","holder","since","word"]
 bQ:zJ K a.t ["form","phone","targets"]
 bR:zJ K a.u ["form","target","callers"]
 bS:zJ K a.x ["form","target","goal"]
 aO:zJ K a.n ["form","target","goal","first","last"]
 bT:zJ K a.y ["form","target","goal"]
 bO:zJ K a.v ["form","target","goal","turns"]
 bY:zJ K a.w ["form","phone"]
 bZ:zJ K a.o ["form","phone"]
 r:mg "list"=Fa
 cB:mg "sorted"=Fa
 L:mg "range"=Fa
 g:mg "len"=Fa
 cC:mg "int"=Fa
 aP:mg "zip"=Fa
 b0:mg "min"=Fa
 bU:mg "dict"=Fa
 M:mg "tuple"=Fa
 bP:mg "all"=Fa
 bV:mg "enumerate"=Fa
 cD:mg "set"=Fa
 cE:mg "any"=Fa
 cF:KD K mg "MOST_PHONES" (.int 8)
 cG:KD K mg "MOST_LINES" (.int 3)
 cH:KD K mg "MOST_RANK" (.int 9)
 cI:KD K mg "MOST_GROUPS" (.int 3)
 cJ:KD K mg "MANNERS" (.tup ((["all","turns"]:QQQ).map D.str))
 cK:KD K mg "MOST_MEMBERS" (.int 4)
 cL:KD K mg "MOST_WISHES" (.int 16)
 cM:KD K mg "MOST_SIGNS" (.int 6)
 cN:KD K mg "LETTERS" (.str "abcdefghijklmnopqrstuvwxyz")
 b1:K4 K mg "FORMS" KJ
 b2:KD K mg "MOST_LISTED" (.int 6)
 cO:KD K mg "LAST_HOUR" (.int 23)
 cP:KD K mg "MOST_TURNS" (.int 9)
noncomputable def qd(c f m:Int):Int:=(c % 2147483647+5)*f % 2147483629 / 89 % m
def qG{c f m:Int}(h:0<m):0<=qd c f m:=eL _ (by lia)
def qA{c f m:Int}(h:0<m):qd c f m<m:=eJ _ h
def Jb:qY:=λds M Q=>DM λc f m=>ds=[.int c,.int f,.int m]/\0<m/\Q (.int (qd c f m)) M
noncomputable def tT:Str:="abcdefghijklmnopqrstuvwxyz"
noncomputable def tO(i:Int):Str:=⟨#[97+i.toNat]⟩
noncomputable def size(s:Int):Int:=1+s % 6
def tU(s:Int):Int:=s / 6 % size s
def xC(s v:Int):Str:=yD (tO (s / 36 % 26)) (tU s)++tO ((s / 936+v) % 26)++yD (tO (s / 36 % 26)) (size s - 1 - tU s)
def Qt:qY:=λds M Q=>CM λs v=>ds=[.int s,.int v]/\Q (.str (xC s v)) M
noncomputable def cell(ns:T0 Int)(i:Int):Int:=if 0<=i/\i<ns.length then ns.getD i.toNat 0 else 0
def Ux:qY:=λds M Q=>CM λns i=>ds=[.rl (ns.map D.int),.int i]/\Q (.int (cell ns i)) M
def Gu(c:Int):0<size c:=by unfold size;have:=eL c (show(6:Int)≠0 by decide);lia
def Jx(c:Int):size c<=6:=by unfold size;have:=eJ c (show(0:Int)<6 by decide);lia
def Gy(i n:Int):(yD (tO i) n).length=n.toNat:=by show((List.replicate n.toNat (tO i).cps).foldl (·++·) #[]:Array Nat).size=n.toNat;rw[Jw];show n.toNat*1=n.toNat;lia
def Ax:tT.length<=Uf:=by decide+kernel
variable {P:Pg}{w:Wo}{K:qk}{mg:QQZ}{base:Go}{a:Ad}(G:Gl K mg a)
def qw:Fq P w K mg base 1 a.i Jb:=by
 refine fq G.i.toDG Gs (λr u=>⟨_,(oS (oY (pL (pL (pL (pL (pL (pL v0 oV) oV) U1) oV) oV) U2))),?_⟩)
 rintro ds M Q ⟨c,f,m,rfl,hm,q⟩
 refine⟨by decide,.inl ?_,by decide,⟨by decide,by decide⟩,hm,M,.refl,q⟩;have h1:0<=c % 2147483647:=eL _ (by decide);have h2:c % 2147483647<2147483647:=eJ _ (by decide);exact⟨by lia,by lia⟩
def DW{i:Int}(h0:0<=i)(h1:i<26):vR tT.cps.toList i=ga (97+i.toNat):=by
 obtain⟨n,rfl⟩:=d4 h0;have hn:n<26:=by lia
 have key:∀n:_root_.Fin 26,vR tT.cps.toList ((n.val:Nat):Int)=ga (97+n.val):=by decide+kernel
 exact key ⟨n,hn⟩
def JC:Fq P w K mg base 1 a.ag Qt:=by
 refine fq G.ag.toDG tQ (λr u=>⟨_,(oR (pC 2 tQ oW)
 (oR (pC 3 tQ (pL oV (pL v0 oV)))
 (oR (pC 4 tQ (pL (pL v0 oV) U3))
 (oR (pC 5 tQ (pA U2 (pL (pL v0 oV) oV)))
 (oR (pC 6 tQ (pA U2 (pL (pL (pL v0 oV) U1) oV)))
 (oS (oY (pL (pL (pL v5 v4) v6) (pL v5 (pL (pL U3 oV) v4)))))))))),?_⟩)
 rintro ds M Q ⟨c,v,rfl,q⟩
 have hs:=Gu c;have hs6:=Jx c;have hp0:0<=tU c:=eL _ (by lia);have XZ:tU c<size c:=eJ _ hs;have l1:=Gy (c / 36 % 26) (tU c);have l2:=Gy (c / 36 % 26) (size c - 1 - tU c);have hz:=dH;refine⟨by decide,⟨by decide,by decide⟩,hs,⟨by decide,by decide⟩,by decide,Ax,i' (DW (eL _ (by decide)) (eJ _ (by decide))) ?_⟩;refine⟨⟨by decide,by decide⟩,by decide,Ax,i' (DW (eL _ (by decide)) (eJ _ (by decide))) ?_⟩;refine⟨⟨?_,?_,?_⟩,?_,⟨?_,?_,?_⟩,?_,M,.refl,q⟩
 .show tU c<4096;lia
 .show -4096<tU c;lia
 .show(1:Nat)<4096;decide
 .show(yD (tO (c / 36 % 26)) (tU c)).length+1<=Uf;lia
 .show size c - 1 - tU c<4096;lia
 .show -4096<size c - 1 - tU c;lia
 .show(1:Nat)<4096;decide
 .show(yD (tO (c / 36 % 26)) (tU c)++tO ((c / 936+v) % 26)).length+(yD (tO (c / 36 % 26)) (size c - 1 - tU c)).length<=Uf;rw[PySem.size_cat];have:(tO ((c / 936+v) % 26)).length=1:=rfl;lia
def GJ:Fq P w K mg base 1 a.H Ux:=by
 refine fq G.H.toDG KC (λr u=>⟨_,(oR (pH (Co u oV U1 (pG qb Z' G.g pZ (pW v0)))
 (oS (oY (pA v0 U1)))
 pB)
 (oS (oY oV))),?_⟩)
 rintro ds M Q ⟨ns,i,rfl,q⟩
 refine qx (λh0=>?_) (λh0=>?_)
 .have h0:0<=i:=fJ h0;refine qx (λh1=>?_) (λh1=>?_)
  .have h1:i<((ns.map D.int).length:Int):=fJ h1;rw[cR]at h1;have hi:i.toNat<ns.length:=by lia
   have e:vR (ns.map D.int) i=ga (D.int (ns.getD i.toNat 0)):=by
    obtain⟨n,rfl⟩:=d4 h0;have hn:n<ns.length:=by lia
    refine uR ?_;rw[dq,cT hn];simp[hn]
   refine i' e ⟨M,.refl,?_⟩;have:cell ns i=ns.getD i.toNat 0:=by unfold cell;rw[cX ⟨h0,h1⟩]
   rw[<-this];exact q
  .have h1:¬i<((ns.map D.int).length:Int):=λz=>h1 (dI z);rw[cR]at h1;refine⟨M,.refl,?_⟩;have:cell ns i=0:=by unfold cell;rw[cW (λz=>h1 z.2)]
   rw[<-this];exact q
 .have h0:¬0<=i:=λz=>h0 (dI z);refine⟨M,.refl,?_⟩;have:cell ns i=0:=by unfold cell;rw[cW (λz=>h0 z.1)]
  rw[<-this];exact q
inductive Wi where
 | bar (x:Str) (ns:QQQ)|shut (x:Str) (ns:QQQ)|always (x y:Str)|night (x y:Str) (f l:Int)|busy (x y:Str)|silent (x y:Str) (n:Int)|wait (x:Str)|breaks (x:Str)
abbrev names(ns:QQQ):D:=.tup (ns.map D.str)
noncomputable def Wi.told:Wi->T0 D
 | .bar x ns=>[.str "bar",.str x,names ns]
 | .shut x ns=>[.str "shut",.str x,names ns]
 | .always x y=>[.str "always",.str x,.str y]
 | .night x y f l=>[.str "night",.str x,.str y,.int f,.int l]
 | .busy x y=>[.str "busy",.str x,.str y]
 | .silent x y n=>[.str "silent",.str x,.str y,.int n]
 | .wait x=>[.str "wait",.str x]
 | .breaks x=>[.str "breaks",.str x]
noncomputable def Wi.cls(a:Ad):Wi->lf
 | .bar _ _=>a.t
 | .shut _ _=>a.u
 | .always _ _=>a.x
 | .night _ _ _ _=>a.n
 | .busy _ _=>a.y
 | .silent _ _ _=>a.v
 | .wait _=>a.w
 | .breaks _=>a.o
noncomputable def Wi.more:Wi->T0 (Str×D)
 | .bar x ns=>[("phone",.str x),("targets",names ns)]
 | .shut x ns=>[("target",.str x),("callers",names ns)]
 | .always x y=>[("target",.str x),("goal",.str y)]
 | .night x y f l=>[("target",.str x),("goal",.str y),("first",.int f),("last",.int l)]
 | .busy x y=>[("target",.str x),("goal",.str y)]
 | .silent x y n=>[("target",.str x),("goal",.str y),("turns",.int n)]
 | .wait x=>[("phone",.str x)]
 | .breaks x=>[("phone",.str x)]
noncomputable def Wi.nj(v:Wi):T0 (Str×D):=("form",.tup v.told)::v.more
abbrev CC(ns:QQQ)(i:Int):Str:=ns.getD i.toNat Str.empty
def wZ(row:QQQ)(c m:Int):Nat:=(1+qd c 40692 (if (row.length:Int)<m then(row.length:Int)else m)).toNat
def Ur(row:QQQ)(c:Int)(j:Nat):Str:=CC row ((qd c 69621 row.length+(0+(j:Nat))) % row.length)
def vG(row:QQQ)(c m:Int):QQQ:=(List.range (wZ row c m)).map (Ur row c)
def N0:qY:=λds M Q=>BK λr c m row=>ds=[.ref r,.int c,.int m]/\nU M r=ga (row.map D.str)/\row≠[]/\0<m/\row.length<=64/\Q (names (vG row c m)) M
def IX{row:QQQ}(h:row≠[])(x:Int):vR (row.map D.str) (x % row.length)=ga (D.str (CC row (x % row.length))):=by
 have hl:0<row.length:=fi.mpr h;have h0:0<=x % row.length:=eL _ (by lia);have h1:x % row.length<row.length:=eJ _ (by lia);obtain⟨n,hn⟩:=d4 h0;rw[hn]at h1 ⊢;have Y3:n<row.length:=by lia
 refine uR ?_;rw[dq,cT Y3];simp[CC,Y3]
def yb:Fq P w K mg base 2 a.S N0:=by
 refine fq G.S.toDG xR (λr u=>⟨_,(oR (pC 3 xR (pz (qw G) r G.i (ra U1 oV (pG qb Z' G.g pZ (pW v0)))))
 (oR (pC 4 xR (pL oV (pz (qw G) r G.i (ra U1 oV (pG (MU Z') Z' G.b0 Lv (rK U2 (pG qb Z' G.g pZ (pW v0))))))))
 (oS (oY (qa uD Z' G.M uC (pW (qv Z' (xc (ix:=[Fa,ga 0,ga 3]) (N':=["_law_j","_law_row","_law_first"])) (ut Z' G.L (pW v4)) (qh 0) rk (pA U1 (pL (pL U2 v0) (pG qb Z' G.g pZ (pW U1))))))))))),?_⟩)
 rintro ds M Q ⟨r,c,m,row,rfl,hl,Xt,hm,h64,q⟩
 have Xa:0<row.length:=fi.mpr Xt;have hz:=dH;have el:((row.map D.str).length:Int)=row.length:=by rw[cR]
 refine i' hl ⟨c,69621,_,Z',by rw[el];lia,?_⟩;refine i' hl ⟨c,40692,_,Z',by rw[el];split<;>lia,?_⟩;rw[el];have d0:=qG (c:=c) (f:=40692) (m:=if (row.length:Int)<m then(row.length:Int)else m) (by split<;>lia);have d1:=qA (c:=c) (f:=40692) (m:=if (row.length:Int)<m then(row.length:Int)else m) (by split<;>lia);have d2:qd c 40692 (if (row.length:Int)<m then(row.length:Int)else m)<row.length+1:=by refine Int.lt_of_lt_of_le d1 ?_;split<;>lia
 refine⟨Z',⟨?_,?_⟩,qP (f:=λd=>match d with|.int j=>D.str (CC row ((qd c 69621 row.length+j) % row.length))|_=>.mx) trivial _ [] _ ?_ (λd hd k hk=>?_) λp hp=>?_⟩
 .show -(2 ^ 62)<=1+qd c 40692 (if (row.length:Int)<m then(row.length:Int)else m);lia
 .show 1+qd c 40692 (if (row.length:Int)<m then(row.length:Int)else m)<2 ^ 62;lia
 .rw[cR,eB];show 0+wZ row c m<=Uf;unfold wZ;lia
 .obtain⟨j,_,rfl⟩:=dw.mp hd;refine i' hl ⟨by rw[el];lia,i' hl ?_⟩;rw[el];exact i' (IX Xt _) hk
 .refine i' (x:=(vG row c m).map D.str) ?_ ⟨M,.new hp,q⟩;unfold nU;rw[pJ];show ga ([]++((List.range (wZ row c m)).map λi=>D.int (0+(i:Nat))).map _)=_;rw[dX,dU];unfold vG;rw[dU];rfl
def wc(c:Int)(own all:QQQ):Wi:=
 let x:=CC own (qd c 16807 own.length);let pl:=qd c 39373 all.length;let y:=CC all pl;let z:=CC all ((pl+1+qd c 742938285 ((all.length:Int) - 1)) % all.length);let k:=qd c 1226874159 12
 if k=0 then .bar x (vG all c 3)
 else if k=1 then .shut y (vG own c 3)
 else if k=2 then .always y z
 else if k<5 then .night y z (qd c 22695477 24) ((qd c 22695477 24+1+qd c 48271 23) % 24)
 else if k<7 then .busy y z
 else if k<9 then .silent y z ([1,1,2,3,9].getD (qd c 950706376 5).toNat 0)
 else if k=9 then .wait x
 else .breaks x
def PR:qY:=λds M Q=>EL λc o n own all=>ds=[.int c,.ref o,.ref n]/\nU M o=ga (own.map D.str)/\nU M n=ga (all.map D.str)/\own≠[]/\2<=all.length/\own.length<=64/\all.length<=64/\Q (.tup (wc c own all).told) M
def HF{row:QQQ}{x:Int}(h0:0<=x)(h1:x<row.length):vR (row.map D.str) x=ga (D.str (CC row x)):=by
 obtain⟨n,rfl⟩:=d4 h0;have Y3:n<row.length:=by lia
 refine uR ?_;rw[dq,cT Y3];simp[CC,Y3]
def Qo:Fq P w K mg base 3 a.bm PR:=by
 refine fq G.bm.toDG sX (λr u=>⟨_,(oR (pC 3 sX (pA U1 (pz (qw G) r G.i (ra v0 oV (pG qb Z' G.g pZ (pW U1))))))
 (oR (pC 4 sX (pz (qw G) r G.i (ra v0 oV (pG qb Z' G.g pZ (pW U2)))))
 (oR (pC 5 sX (pA U2 v4))
 (oR (pC 6 sX (pA U2 (pL (pL (pL v4 oV) (pz (qw G) r G.i (ra v0 oV (pL (pG qb Z' G.g pZ (pW U2)) oV)))) (pG qb Z' G.g pZ (pW U2)))))
 (oR (pC 7 sX (pz (qw G) r G.i (ra v0 oV oV)))
 (oR (pH (pk u v7 oV)
 (oS (oY (pF (ra oW U3 (pz (yb G) r G.S (ra U2 v0 oV))))))
 pB)
 (oR (pH (pk u v7 oV)
 (oS (oY (pF (ra oW v5 (pz (yb G) r G.S (ra U1 v0 oV))))))
 pB)
 (oR (pH (pk u v7 oV)
 (oS (oY (pF (ra oW v5 v6))))
 pB)
 (oR (pH (pk u v7 oV)
 (oR (pC 8 sX (pz (qw G) r G.i (ra v0 oV oV)))
 (oS (oY (pF (pT oW (pT v5 (ra v6 v8 (pL (pL (pL v8 oV) (pz (qw G) r G.i (ra v0 oV oV))) oV))))))))
 pB)
 (oR (pH (pk u v7 oV)
 (oS (oY (pF (ra oW v5 v6))))
 pB)
 (oR (pH (pk u v7 oV)
 (oS (oY (pF (pT oW (ra v5 v6 (pA (pF (pT oV (pT oV (ra oV oV oV)))) (pz (qw G) r G.i (ra v0 oV oV))))))))
 pB)
 (oR (pH (pk u v7 oV)
 (oS (oY (pF (rK oW U3))))
 pB)
 (oS (oY (pF (rK oW U3)))))))))))))))),?_⟩)
 rintro ds M Q ⟨c,o,n,own,all,rfl,ho,hn,Xt,h2,l1,l2,q⟩
 have Xa:0<own.length:=fi.mpr Xt;have hne2:all≠[]:=λz=>by rw[z]at h2;simp at h2
 have e1:((own.map D.str).length:Int)=own.length:=by rw[cR]
 have e2:((all.map D.str).length:Int)=all.length:=by rw[cR]
 have p1:(0:Int)<own.length:=by lia
 have p2:(0:Int)<all.length:=by lia
 have p3:(0:Int)<(all.length:Int) - 1:=by lia
 refine i' ho ⟨c,_,_,Z',by rw[e1];exact p1,?_⟩;rw[e1];refine i' ho (i' (HF (qG p1) (qA p1)) ?_);refine i' hn ⟨c,_,_,Z',by rw[e2];exact p2,?_⟩;rw[e2];refine i' hn (i' (HF (qG p2) (qA p2)) ?_);refine i' hn ⟨c,_,_,Z',by rw[e2];exact p3,?_⟩;rw[e2];refine i' hn ⟨by rw[e2];exact p2,?_⟩;rw[e2];refine i' hn (i' (IX hne2 _) ?_);refine⟨c,_,_,Z',by decide,?_⟩;have Xb:∀t:T0 D,(wc c own all).told=t->∃W9,qu W9 M/\Q (.tup t) W9:=λt e=>⟨M,.refl,e ▸ q⟩;have k0:0<=qd c 1226874159 12:=qG (by decide);refine qx (λh=>?_) (λh=>?_)
 .have h:qd c 1226874159 12=0:=by simpa using h
  refine⟨n,c,3,all,Z',hn,hne2,by decide,l2,oP Z',Xb _ ?_⟩;simp only[wc,cX h,Wi.told]
 have h:¬qd c 1226874159 12=0:=by simpa using h
 refine qx (λg=>?_) (λg=>?_)
 .have g:qd c 1226874159 12=1:=by simpa using g
  refine⟨o,c,3,own,Z',ho,Xt,by decide,l1,oP Z',Xb _ ?_⟩;simp only[wc,cW h,cX g,Wi.told]
 have g:¬qd c 1226874159 12=1:=by simpa using g
 refine qx (λi=>?_) (λi=>?_)
 .have i:qd c 1226874159 12=2:=by simpa using i
  refine⟨oP Z',Xb _ ?_⟩;simp only[wc,cW h,cW g,cX i,Wi.told]
 have i:¬qd c 1226874159 12=2:=by simpa using i
 refine qx (λj=>?_) (λj=>?_)
 .have j:qd c 1226874159 12<5:=fJ j;refine⟨c,_,_,Z',by decide,c,_,_,Z',by decide,by decide,oP Z',Xb _ ?_⟩;simp only[wc,cW h,cW g,cW i,cX j,Wi.told]
 have j:¬qd c 1226874159 12<5:=λz=>j (dI z);refine qx (λl=>?_) (λl=>?_)
 .have l:qd c 1226874159 12<7:=fJ l;refine⟨oP Z',Xb _ ?_⟩;simp only[wc,cW h,cW g,cW i,cW j,cX l,Wi.told]
 have l:¬qd c 1226874159 12<7:=λz=>l (dI z);refine qx (λm=>?_) (λm=>?_)
 .have m:qd c 1226874159 12<9:=fJ m;have d0:0<=qd c 950706376 5:=qG (by decide);have d1:qd c 950706376 5<5:=qA (by decide);have e:vR [D.int 1,.int 1,.int 2,.int 3,.int 9] (qd c 950706376 5)=ga (D.int ([1,1,2,3,9].getD (qd c 950706376 5).toNat 0)):=by
   obtain⟨t,ht⟩:=d4 d0;rw[ht]at d1 ⊢;have:t<5:=by lia
   match t,this with
   | 0,_=>rfl
   | 1,_=>rfl
   | 2,_=>rfl
   | 3,_=>rfl
   | 4,_=>rfl
  refine⟨oP Z',c,_,_,Z',by decide,i' e ⟨oP Z',Xb _ ?_⟩⟩;simp only[wc,cW h,cW g,cW i,cW j,cW l,cX m,Wi.told]
 have m:¬qd c 1226874159 12<9:=λz=>m (dI z);refine qx (λr=>?_) (λr=>?_)
 .have r:qd c 1226874159 12=9:=by simpa using r
  refine⟨oP Z',Xb _ ?_⟩;simp only[wc,cW h,cW g,cW i,cW j,cW l,cW m,cX r,Wi.told]
 have r:¬qd c 1226874159 12=9:=by simpa using r
 refine⟨oP Z',Xb _ ?_⟩;simp only[wc,cW h,cW g,cW i,cW j,cW l,cW m,cW r,Wi.told]
def Ld(K:qk):qY:=λds M Q=>DM λp d C=>ds=[.ref p,d]/\M p=ga (.ins C [])/\tP K C "form"/\Q .mx (o9 M p (.ins C [("form",d)]))
def Lw(K:qk):qY:=λds M Q=>EL λp t x y C=>ds=[.ref p,.tup t]/\vR t 1=ga x/\vR t 2=ga y/\M p=ga (.ins C [])/\tP K C "form"/\tP K C "target"/\tP K C "goal"/\Q .mx (o9 M p (.ins C [("form",.tup t),("target",x),("goal",y)]))
def yc(a:Ad)(k:Wi->Prop):qY:=λds M Q=>CM λp v=>ds=[.ref p,.tup (Wi.told v)]/\k v/\M p=ga (.ins (v.cls a) [])/\Q .mx (o9 M p (.ins (v.cls a) v.nj))
def xt:Fq P w K mg base 1 a.F (Ld K):=by
 refine fq G.F.toDG Fb (λr u=>⟨_,(oS (pU v0 U1)),?_⟩)
 rintro ds M Q ⟨p,d,C,rfl,hp,na,q⟩
 exact oU hp ⟨na,by decide,_,.refl,q⟩
def zj:Fq P w K mg base 2 a.A (Lw K):=by
 refine fq G.A.toDG AC (λr u=>⟨_,(oR (pD (yP G.aN (xt G) r G.B G.F.toDG (rK v0 U1)))
 (oR (pU v0 (pA U1 oV))
 (oS (pU v0 (pA U1 oV))))),?_⟩)
 rintro ds M Q ⟨p,t,x,y,C,rfl,e1,e2,hp,n1,n2,n3,q⟩
 refine⟨p,_,C,Z',hp,n1,i' e1 (oU pJ ⟨n2,by show 1<1000;decide,?_⟩)⟩;refine i' e2 (oU pJ ⟨n3,by show 2<1000;decide,_,?_,q⟩);rw[rB,rB];exact .refl
def Rc:Fq P w K mg base 2 a.ao (yc a λv=>∃x ns,v=.bar x ns):=by
 refine fq G.ao.toDG Gg (λr u=>⟨_,(oR (pD (yP G.aN (xt G) r G.B G.F.toDG (rK v0 U1)))
 (oR (pU v0 (pA U1 oV))
 (oS (pU v0 (pA U1 oV))))),?_⟩)
 rintro ds M Q ⟨p,v,rfl,⟨x,ns,rfl⟩,hp,q⟩
 refine⟨p,_,_,Z',hp,(G.bQ "form" Z'),oU pJ ⟨(G.bQ "phone" Z'),by show 1<1000;decide,?_⟩⟩;refine oU pJ ⟨(G.bQ "targets" Z'),by show 2<1000;decide,_,?_,q⟩;rw[rB,rB];exact .refl
def Ov:Fq P w K mg base 2 a.ap (yc a λv=>∃x ns,v=.shut x ns):=by
 refine fq G.ap.toDG Eg (λr u=>⟨_,(oR (pD (yP G.aN (xt G) r G.B G.F.toDG (rK v0 U1)))
 (oR (pU v0 (pA U1 oV))
 (oS (pU v0 (pA U1 oV))))),?_⟩)
 rintro ds M Q ⟨p,v,rfl,⟨x,ns,rfl⟩,hp,q⟩
 refine⟨p,_,_,Z',hp,(G.bR "form" Z'),oU pJ ⟨(G.bR "target" Z'),by show 1<1000;decide,?_⟩⟩;refine oU pJ ⟨(G.bR "callers" Z'),by show 2<1000;decide,_,?_,q⟩;rw[rB,rB];exact .refl
def MI:Fq P w K mg base 3 a.aq (yc a λv=>∃x y f l,v=.night x y f l):=by
 refine fq G.aq.toDG Dj (λr u=>⟨_,(oR (pD (yP G.bX (zj G) r G.Z G.A.toDG (rK v0 U1)))
 (oR (pU v0 (pA U1 oV))
 (oS (pU v0 (pA U1 oV))))),?_⟩)
 rintro ds M Q ⟨p,v,rfl,⟨x,y,f,l,rfl⟩,hp,q⟩
 refine⟨p,_,_,_,_,Z',Z',Z',hp,(G.aO "form" Z'),(G.aO "target" Z'),(G.aO "goal" Z'),oU pJ ⟨(G.aO "first" Z'),by show 3<1000;decide,?_⟩⟩;refine oU pJ ⟨(G.aO "last" Z'),by show 4<1000;decide,_,?_,q⟩;rw[rB,rB];exact .refl
def J3:Fq P w K mg base 3 a.ar (yc a λv=>∃x y n,v=.silent x y n):=by
 refine fq G.ar.toDG B5 (λr u=>⟨_,(oR (pD (yP G.bX (zj G) r G.Z G.A.toDG (rK v0 U1)))
 (oS (pU v0 (pA U1 oV)))),?_⟩)
 rintro ds M Q ⟨p,v,rfl,⟨x,y,n,rfl⟩,hp,q⟩
 refine⟨p,_,_,_,_,Z',Z',Z',hp,(G.bO "form" Z'),(G.bO "target" Z'),(G.bO "goal" Z'),oU pJ ⟨(G.bO "turns" Z'),by show 3<1000;decide,_,?_,q⟩⟩;rw[rB];exact .refl
def Qj:Fq P w K mg base 2 a.au (yc a λv=>∃x,v=.wait x):=by
 refine fq G.au.toDG Fk (λr u=>⟨_,(oR (pD (yP G.aN (xt G) r G.B G.F.toDG (rK v0 U1)))
 (oS (pU v0 (pA U1 oV)))),?_⟩)
 rintro ds M Q ⟨p,v,rfl,⟨x,rfl⟩,hp,q⟩
 refine⟨p,_,_,Z',hp,(G.bY "form" Z'),oU pJ ⟨(G.bY "phone" Z'),by show 1<1000;decide,_,?_,q⟩⟩;rw[rB];exact .refl
def KF:Fq P w K mg base 2 a.av (yc a λv=>∃x,v=.breaks x):=by
 refine fq G.av.toDG BR (λr u=>⟨_,(oR (pD (yP G.aN (xt G) r G.B G.F.toDG (rK v0 U1)))
 (oS (pU v0 (pA U1 oV)))),?_⟩)
 rintro ds M Q ⟨p,v,rfl,⟨x,rfl⟩,hp,q⟩
 refine⟨p,_,_,Z',hp,(G.bZ "form" Z'),oU pJ ⟨(G.bZ "phone" Z'),by show 1<1000;decide,_,?_,q⟩⟩;rw[rB];exact .refl
def Hr(a:Ad):qY:=λds M Q=>∃v:Wi,ds=[.tup v.told]/\∀p,M p=Fa->Q (.ref p) (o9 M p (.ins (v.cls a) v.nj))
def IY(a:Ad):qY:=λds M Q=>CM λp (v:Wi)=>ds=[.ref p]/\M p=ga (.ins (v.cls a) v.nj)/\Q (.tup v.told) M
def Ip:qY:=λds M Q=>∃p,ds=[.ref p]/\Q (.tup [.str "end"]) M
def MC:qY:=λds M Q=>∃p,ds=[.ref p]/\Q (.tup [.str "break"]) M
def QC:qY:=λds M Q=>BK λp C fs y=>ds=[.ref p]/\M p=ga (.ins C fs)/\fs.lookup ("goal":Str)=ga y/\Q (.tup [.str "to",y]) M
def QM:qY:=λds M Q=>BK λp C fs y=>ds=[.ref p]/\M p=ga (.ins C fs)/\fs.lookup ("phone":Str)=ga y/\Q (.tup [.str "wait",y]) M
def Ms(a:Ad):lf->qY->Prop:=λC sp=>(∃v:Wi,C=v.cls a)/\sp=IY a
def Jy(a:Ad):lf->qY->Prop:=λC sp=>((C=a.t\/C=a.u)/\sp=Ip)\/((C=a.x\/C=a.n\/C=a.y\/C=a.v)/\sp=QC)\/(C=a.w/\sp=QM)\/(C=a.o/\sp=MC)
def Ia:Fq P w K mg base 5 a.bd (Hr a):=by
 refine fq G.bd.toDG B9 (λr u=>⟨_,(oR (pC 1 B9 (pA v0 oV))
 (oR (pH (pk u U1 oW)
 (oS (oY (uX (Rc G) r G.t G.ca G.ao.toDG (pW v0))))
 pB)
 (oR (pH (pk u U1 oW)
 (oS (oY (uX (Ov G) r G.u G.cb G.ap.toDG (pW v0))))
 pB)
 (oR (pH (pk u U1 oW)
 (oS (oY (uX (zj G) r G.x G.cc G.A.toDG (pW v0))))
 pB)
 (oR (pH (pk u U1 oW)
 (oS (oY (uX (MI G) r G.n G.cd G.aq.toDG (pW v0))))
 pB)
 (oR (pH (pk u U1 oW)
 (oS (oY (uX (zj G) r G.y G.ce G.A.toDG (pW v0))))
 pB)
 (oR (pH (pk u U1 oW)
 (oS (oY (uX (J3 G) r G.v G.cf G.ar.toDG (pW v0))))
 pB)
 (oR (pH (pk u U1 oW)
 (oS (oY (uX (Qj G) r G.w G.cg G.au.toDG (pW v0))))
 pB)
 (oR (pH (pk u U1 oW)
 (oS (oY (uX (KF G) r G.o G.ch G.av.toDG (pW v0))))
 pB)
 (oS GC)))))))))),?_⟩)
 rintro ds M Q ⟨v,rfl,q⟩
 have Xb:∀(x:lf) (c0 c1:uQ) (C:lf) (fs:T0 (Str×D)),M x=Fa->Q (.ref x) (o9 M x c1)->∃W9,qu W9 (o9 (o9 M x c0) x c1)/\Q (.ref x) W9:=λx c0 c1 C fs hx q=>⟨_,by rw[rB];exact .refl,q⟩;cases v with
 | bar x ns=>exact λp hp=>⟨p,.bar x ns,Z',⟨_,_,Z'⟩,pJ,Z',Xb p _ _ 0 [] hp (q p hp)⟩
 | shut x ns=>exact λp hp=>⟨p,.shut x ns,Z',⟨_,_,Z'⟩,pJ,Z',Xb p _ _ 0 [] hp (q p hp)⟩
 | always x y=>exact λp hp=>⟨p,_,_,_,_,Z',Z',Z',pJ,(G.bS "form" Z'),(G.bS "target" Z'),(G.bS "goal" Z'),Z',Xb p _ _ 0 [] hp (q p hp)⟩
 | night x y f l=>exact λp hp=>⟨p,.night x y f l,Z',⟨_,_,_,_,Z'⟩,pJ,Z',Xb p _ _ 0 [] hp (q p hp)⟩
 | busy x y=>exact λp hp=>⟨p,_,_,_,_,Z',Z',Z',pJ,(G.bT "form" Z'),(G.bT "target" Z'),(G.bT "goal" Z'),Z',Xb p _ _ 0 [] hp (q p hp)⟩
 | silent x y n=>exact λp hp=>⟨p,.silent x y n,Z',⟨_,_,_,Z'⟩,pJ,Z',Xb p _ _ 0 [] hp (q p hp)⟩
 | wait x=>exact λp hp=>⟨p,.wait x,Z',⟨_,Z'⟩,pJ,Z',Xb p _ _ 0 [] hp (q p hp)⟩
 | breaks x=>exact λp hp=>⟨p,.breaks x,Z',⟨_,Z'⟩,pJ,Z',Xb p _ _ 0 [] hp (q p hp)⟩
def Ob:Fq P w K mg base 1 a.l (IY a):=by
 refine fq G.l.toDG FE (λr u=>⟨_,(oS (oY (oZ v0))),?_⟩)
 rintro ds M Q ⟨p,v,rfl,hp,q⟩
 exact oU hp (i' Z' ⟨M,.refl,q⟩)
def Py:Fq P w K mg base 1 a.ay Ip:=by
 refine fq G.ay.toDG FH (λr u=>⟨_,(oS (oY (pF (pW oW)))),?_⟩)
 rintro ds M Q ⟨p,rfl,q⟩
 exact⟨oP Z',M,.refl,q⟩
def MP:Fq P w K mg base 1 a.az Ip:=by
 refine fq G.az.toDG CU (λr u=>⟨_,(oS (oY (pF (pW oW)))),?_⟩)
 rintro ds M Q ⟨p,rfl,q⟩
 exact⟨oP Z',M,.refl,q⟩
def vD:Fq P w K mg base 1 a.z QC:=by
 refine fq G.z.toDG zY (λr u=>⟨_,(oS (oY (pF (rK oW (oZ v0))))),?_⟩)
 rintro ds M Q ⟨p,C,fs,y,rfl,hp,e,q⟩
 exact oU hp (i' e ⟨oP Z',M,.refl,q⟩)
def Nd:Fq P w K mg base 1 a.aA QM:=by
 refine fq G.aA.toDG C0 (λr u=>⟨_,(oS (oY (pF (rK oW (oZ v0))))),?_⟩)
 rintro ds M Q ⟨p,C,fs,y,rfl,hp,e,q⟩
 exact oU hp (i' e ⟨oP Z',M,.refl,q⟩)
def HX:Fq P w K mg base 1 a.aB MC:=by
 refine fq G.aB.toDG AR (λr u=>⟨_,(oS (oY (pF (pW oW)))),?_⟩)
 rintro ds M Q ⟨p,rfl,q⟩
 exact⟨oP Z',M,.refl,q⟩
def RS:∀C sp,Ms a C sp->xu P w K mg base 1 "told" C (NU K sp):=by
 rintro C sp ⟨⟨v,rfl⟩,rfl⟩
 have F:=Ob (P:=P) (w:=w) (base:=base) G;cases v with
 | bar _ _=>exact⟨G.t.toCls,_,_,_,G.cp,F,G.l.b⟩
 | shut _ _=>exact⟨G.u.toCls,_,_,_,G.cq,F,G.l.b⟩
 | always _ _=>exact⟨G.x.toCls,_,_,_,G.cr,F,G.l.b⟩
 | night _ _ _ _=>exact⟨G.n.toCls,_,_,_,G.cs,F,G.l.b⟩
 | busy _ _=>exact⟨G.y.toCls,_,_,_,G.ct,F,G.l.b⟩
 | silent _ _ _=>exact⟨G.v.toCls,_,_,_,G.cu,F,G.l.b⟩
 | wait _=>exact⟨G.w.toCls,_,_,_,G.cv,F,G.l.b⟩
 | breaks _=>exact⟨G.o.toCls,_,_,_,G.cw,F,G.l.b⟩
def OD:∀C sp,Jy a C sp->xu P w K mg base 1 "wants" C (NU K sp):=by
 rintro C sp (⟨rfl|rfl,rfl⟩|⟨rfl|rfl|rfl|rfl,rfl⟩|⟨rfl,rfl⟩|⟨rfl,rfl⟩)
 .exact⟨G.t.toCls,_,_,_,G.ay.mQ,Py G,G.ay.b⟩
 .exact⟨G.u.toCls,_,_,_,G.az.mQ,MP G,G.az.b⟩
 .exact⟨G.x.toCls,_,_,_,G.cx,vD G,G.z.b⟩
 .exact⟨G.n.toCls,_,_,_,G.cy,vD G,G.z.b⟩
 .exact⟨G.y.toCls,_,_,_,G.cz,vD G,G.z.b⟩
 .exact⟨G.v.toCls,_,_,_,G.cA,vD G,G.z.b⟩
 .exact⟨G.w.toCls,_,_,_,G.aA.mQ,Nd G,G.aA.b⟩
 .exact⟨G.o.toCls,_,_,_,G.aB.mQ,HX G,G.aB.b⟩
def ug(x:Str):Bool:=decide ((1:Int)<=x.length)&&(decide ((x.length:Int)<=6)&&x.cps.toList.all λc=>CN ⟨#[c]⟩ tT)
def Hc:qY:=λds M Q=>∃x:Str,ds=[.str x]/\x.length<=1000/\Q (.bl (ug x)) M
def JE:qY:=λds M Q=>∃w,ds=[.bl Db,w]/\Q .mx M
noncomputable def wF(ss:QQQ):Bool:=((s8 ss).length:Int)==(ss.length:Int)
def Se(M:Mp)(x:D)(ss:QQQ):Prop:=x=.tup (ss.map D.str)\/∃a,x=.ref a/\nU M a=ga (ss.map D.str)
def Kk:qY:=λds M Q=>CM λx ss=>ds=[x]/\Se M x ss/\ss.length<4000/\Q (.bl (wF ss)) M
def zx{α:Type}(f:α->Bool)(l:List α):(l.map f).all id=l.all f:=by rw[lX];rfl
def rX(x:Str)(ss:QQQ):inD (.str x) (ss.map D.str)=ss.any (·==x):=by unfold inD;rw[jE];rfl
theorem ql:∀ss:QQQ,(ss.map D.str).all uJ=Db
 | []=>rfl
 | _::r=>by rw[dW,gm,ql r];rfl
def se(cs ks:QQQ)(m:Int):Bool:=decide ((1:Int)<=cs.length)&&(decide ((cs.length:Int)<=m)&&(wF cs&&cs.all λc=>ks.any (·==c)))
def J4:qY:=λds M Q=>BK λcs ks k m=>ds=[.tup (cs.map D.str),.ref k,.int m]/\nU M k=ga (ks.map D.str)/\cs.length<4000/\Q (.bl (se cs ks m)) M
def Bw:Fq P w K mg base 1 a.ae Hc:=by
 refine fq G.ae.toDG HH (λr u=>⟨_,(oS (oY (sN (tV u oV (pG qb Z' G.g pZ (pW v0)) (su Z' G.cM)) (sm (pG (FC Z') Z' G.bP Fs (pW (qv Z' (xc (ix:=[Fa]) (N':=["sign"])) (qy v0) (qh 0) rk (pX u v0 (su Z' G.cN))))))))),?_⟩)
 rintro ds M Q ⟨x,rfl,hl,q⟩
 have hz:=dH;refine⟨by lia,qx (λh1=>?_) (λh1=>?_)⟩
 .refine qx (λh2=>?_) (λh2=>?_)
  .refine qP (f:=λd=>match d with|.str z=>D.bl (CN z tT)|_=>.mx) trivial _ [] _ ?_ (λd hd k hk=>?_) λp hp=>?_
   .rw[cR];have:x.cps.toList.length=x.length:=by simp[Str.length]
    simp only[dB];lia
   .obtain⟨c,_,rfl⟩:=dw.mp hd;exact hk
   .refine i' pj ?_;have e:([]++(x.cps.toList.map λc=>D.str ⟨#[c]⟩).map λd=>match d with|.str z=>D.bl (CN z tT)|_=>.mx)=x.cps.toList.map λc=>D.bl (CN ⟨#[c]⟩ tT):=by rw[dX,dU];rfl
    rw[e];refine i' (ye (λc=>CN ⟨#[c]⟩ tT) x.cps.toList) ⟨M,.new hp,?_⟩;rw[zx];have:ug x=x.cps.toList.all λc=>CN ⟨#[c]⟩ tT:=by unfold ug;rw[h1,h2];rfl
    rw[<-this];exact q
  .refine⟨M,.refl,?_⟩;have:ug x=pc:=by
    unfold ug;have h2:decide ((x.length:Int)<=6)=pc:=by simpa using h2
    rw[h2];simp
   rw[<-this];exact q
 .refine⟨M,.refl,?_⟩;have:ug x=pc:=by
   unfold ug;have h1:decide ((1:Int)<=x.length)=pc:=by simpa using h1
   rw[h1];rfl
  rw[<-this];exact q
def sC:Fq P w K mg base 1 a.m JE:=by
 refine fq G.m.toDG Oz (λr u=>⟨_,(oS (pH (wB (uM v0))
 (oS GC)
 pB)),?_⟩)
 rintro ds M Q ⟨x,rfl,q⟩
 exact⟨M,.refl,q⟩
def DC:Fq P w K mg base 1 a.af Kk:=by
 refine fq G.af.toDG Dd (λr u=>⟨_,(oS (oY (pX u (Kv Z' v0 Z' G.g Z' G.cD pZ R7) (pG qb Z' G.g pZ (pW v0))))),?_⟩)
 rintro ds M Q ⟨x,ss,rfl,hx,hl,q⟩
 have key:((ss.map D.str).length:Int)=ss.length:=by rw[cR]
 rcases hx with rfl|⟨b,rfl,hb⟩
 .refine i' (L3.BW ss) ⟨hl,M,.refl,?_⟩;rw[key];exact q
 .refine i' hb (i' (L3.BW ss) ⟨hl,i' hb ⟨M,.refl,?_⟩⟩);rw[key];exact q
def Ak:Fq P w K mg base 2 a.R J4:=by
 refine fq G.R.toDG FM (λr u=>⟨_,(oS (oY (sN (tV u oV (pG qb Z' G.g pZ (pW v0)) U2) (sN (pz (DC G) r G.af (pW v0)) (sm (pG (FC Z') Z' G.bP Fs (pW (qv Z' (xc (ix:=[Fa,ga 1]) (N':=["name","known"])) (qy v0) (qh 0) rk (pX u v0 U1))))))))),?_⟩)
 rintro ds M Q ⟨cs,ks,k,m,rfl,hk,hl,q⟩
 have hz:=dH;have key:((cs.map D.str).length:Int)=cs.length:=by rw[cR]
 have Z0:∀b:Bool,se cs ks m=b->∃W9,qu W9 M/\Q (.bl b) W9:=λb e=>⟨M,.refl,e ▸ q⟩;refine qx (λh1=>?_) (λh1=>?_)
 .have h1:decide ((1:Int)<=cs.length)=Db:=by rw[<-key];exact h1
  refine qx (λh2=>?_) (λh2=>?_)
  .have h2:decide ((cs.length:Int)<=m)=Db:=by rw[<-key];exact h2
   refine⟨_,cs,Z',.inl Z',hl,qx (λh3=>?_) (λh3=>?_)⟩
   .refine qP (f:=λd=>match d with|.str z=>D.bl (ks.any (·==z))|_=>.mx) trivial _ [] _ ?_ (λd hd k0 hk0=>?_) λp hp=>?_
    .rw[cR];simp only[dB];lia
    .obtain⟨c,_,rfl⟩:=dw.mp hd;refine i' hk ⟨Z',ql ks,?_⟩;show k0 (.bl (inD (.str c) (ks.map D.str))) M;rw[rX];exact hk0
    .refine i' pj ?_;have e:([]++(cs.map D.str).map λd=>match d with|.str z=>D.bl (ks.any (·==z))|_=>.mx)=cs.map λc=>D.bl (ks.any (·==c)):=by rw[dX,dU];rfl
     rw[e];refine i' (ye (λc=>ks.any (·==c)) cs) ⟨M,.new hp,?_⟩;rw[zx];have:se cs ks m=cs.all λc=>ks.any (·==c):=by unfold se;rw[h1,h2,h3];rfl
     rw[<-this];exact q
   .refine Z0 _ ?_;unfold se;have h3:wF cs=pc:=by simpa using h3
    rw[h3];simp
  .refine Z0 _ ?_;unfold se;have h2:decide ((cs.length:Int)<=m)=pc:=by
    rw[<-key]
    simpa using h2
   rw[h2];simp
 .refine Z0 _ ?_;unfold se;have h1:decide ((1:Int)<=cs.length)=pc:=by
   rw[<-key]
   simpa using h1
  rw[h1];rfl
abbrev uu:=Str×Int×Int
abbrev ue:=Str×Str×QQQ
abbrev ve:=Bool×Wi
noncomputable def qL(p:uu):D:=.tup [.str p.1,.int p.2.1,.int p.2.2]
noncomputable def qT(g:ue):D:=.tup [.str g.1,.str g.2.1,names g.2.2]
noncomputable def uZ(w:ve):D:=.tup [.bl w.1,.tup w.2.told]
structure Fg(p:uu):Prop where
 len:p.1.length<=1000
 nm:ug p.1=Db
 l1:1<=p.2.1
 l2:p.2.1<=3
 r1:0<=p.2.2
 r2:p.2.2<=9
structure Ew(pn:QQQ)(g:ue):Prop where
 len:g.1.length<=1000
 nm:ug g.1=Db
 man:g.2.1="all"\/g.2.1="turns"
 oP:g.2.2.length<4000
 mem:se g.2.2 pn 4=Db
def xT(ss:QQQ)(x:Str):Prop:=ss.any (·==x)=Db
def Ci(pn nm:QQQ):Wi->Prop
 | .bar x ns=>xT pn x/\ns.length<4000/\se ns nm 6=Db
 | .shut x ns=>xT nm x/\ns.length<4000/\se ns pn 6=Db
 | .always x y=>xT nm x/\xT nm y/\x≠y
 | .night x y f l=>xT nm x/\xT nm y/\x≠y/\(0<=f/\f<=23)/\(0<=l/\l<=23)/\f≠l
 | .busy x y=>xT nm x/\xT nm y/\x≠y
 | .silent x y n=>xT nm x/\xT nm y/\x≠y/\1<=n/\n<=9
 | .wait x=>xT pn x
 | .breaks x=>xT pn x
inductive xU(pn nm:QQQ):Str->D->Prop
 | mK (x:Str) (h:xT pn x):xU pn nm "phone" (.str x)
 | name (x:Str) (h:xT nm x):xU pn nm "name" (.str x)
 | mv (cs:QQQ) (l:cs.length<4000) (h:se cs pn 6=Db):xU pn nm "phones" (names cs)
 | names (cs:QQQ) (l:cs.length<4000) (h:se cs nm 6=Db):xU pn nm "names" (names cs)
 | hour (i:Int) (h0:0<=i) (h1:i<=23):xU pn nm "hour" (.int i)
 | turns (i:Int) (h0:1<=i) (h1:i<=9):xU pn nm "turns" (.int i)
def IJ:qY:=λds M Q=>JI λk d pl nl (pn nm:QQQ)=>ds=[.str k,d,.ref pl,.ref nl]/\nU M pl=ga (pn.map D.str)/\nU M nl=ga (nm.map D.str)/\xU pn nm k d/\Q (.bl Db) M
def AL:qY:=λds M Q=>CM λr (ps:List uu)=>ds=[.ref r]/\nU M r=ga (ps.map qL)/\1<=ps.length/\ps.length<=8/\(∀p∈ps,Fg p)/\Q .mx M
def AG:qY:=λds M Q=>BK λr (gs:List ue) pl (pn:QQQ)=>ds=[.ref r,.ref pl]/\nU M r=ga (gs.map qT)/\nU M pl=ga (pn.map D.str)/\gs.length<=3/\(∀g∈gs,Ew pn g)/\Q .mx M
def CS:qY:=λds M Q=>EL λv pl nl (pn nm:QQQ)=>ds=[.tup (Wi.told v),.ref pl,.ref nl]/\nU M pl=ga (pn.map D.str)/\nU M nl=ga (nm.map D.str)/\Ci pn nm v/\Q .mx M
def A7:qY:=λds M Q=>JI λr (ws:List ve) pl nl (pn nm:QQQ)=>ds=[.ref r,.ref pl,.ref nl]/\nU M r=ga (ws.map uZ)/\nU M pl=ga (pn.map D.str)/\nU M nl=ga (nm.map D.str)/\ws.length<=16/\(∀w∈ws,Ci pn nm w.2)/\Q .mx M
def WE(h:xT ss x):inD (.str x) (ss.map D.str)=Db:=by rw[rX];exact h
def Os:Fq P w K mg base 3 a.bg IJ:=by
 refine fq G.bg.toDG CY (λr u=>⟨_,(oR (pH (pk u v0 oW)
 (oS (oY (pX u U1 U2)))
 pB)
 (oR (pH (pk u v0 oW)
 (oS (oY (pX u U1 U3)))
 pB)
 (oR (pH (pk u v0 oW)
 (oS (oY (pz (Ak G) r G.R (ra U1 U2 (su Z' G.b2)))))
 pB)
 (oR (pH (pk u v0 oW)
 (oS (oY (pz (Ak G) r G.R (ra U1 U3 (su Z' G.b2)))))
 pB)
 (oR (pH (pk u v0 oW)
 (oS (oY (tV u oV U1 (su Z' G.cO))))
 pB)
 (oS (oY (tV u oV U1 (su Z' G.cP))))))))),?_⟩)
 rintro ds M Q ⟨k,d,pl,nl,pn,nm,rfl,hp,hn,ok,q⟩
 cases ok with
 | mK x h=>refine i' hp ⟨Z',ql pn,M,.refl,?_⟩;show Q (.bl (inD (.str x) (pn.map D.str))) M;rw[WE h];exact q
 | name x h=>refine i' hn ⟨Z',ql nm,M,.refl,?_⟩;show Q (.bl (inD (.str x) (nm.map D.str))) M;rw[WE h];exact q
 | mv cs l h=>exact⟨cs,pn,pl,6,Z',hp,l,M,.refl,by rw[h];exact q⟩
 | names cs l h=>exact⟨cs,nm,nl,6,Z',hn,l,M,.refl,by rw[h];exact q⟩
 | hour i h0 h1=>refine yj (c:=decide (0<=i)) (dI h0) ⟨M,.refl,?_⟩;show Q (.bl (decide (i<=23))) M;rw[dI h1];exact q
 | turns i h0 h1=>refine yj (c:=decide (1<=i)) (dI h0) ⟨M,.refl,?_⟩;show Q (.bl (decide (i<=9))) M;rw[dI h1];exact q
def AF:Fq P w K mg base 2 a.be AL:=by
 refine fq G.be.toDG tN (λr u=>⟨_,(oR (pD (pz (sC G) r G.m (rK (tV u oV (pG qb Z' G.g pZ (pW v0)) (su Z' G.cF)) oW)))
 (oS (uh eR Z' (qy v0) (ua (n:=3) Z' (qg (rN 1 tN) (qg (rN 2 tN) (qg (rN 3 tN) sP))))
 (oR (pD (pz (sC G) r G.m (rK (pz (Bw G) r G.ae (pW U1)) oW)))
 (oR (pD (pz (sC G) r G.m (rK (tV u oV U2 (su Z' G.cG)) oW)))
 (oS (pD (pz (sC G) r G.m (rK (tV u oV U3 (su Z' G.cH)) oW))))))))),?_⟩)
 rintro ds M Q ⟨r,ps,rfl,XS,h1,h8,mD,q⟩
 have el:((ps.map qL).length:Int)=ps.length:=by rw[cR]
 refine i' XS (yj (c:=decide ((1:Int)<=(ps.map qL).length)) (dI (by lia)) ⟨_,by rw[dI (show((ps.map qL).length:Int)<=8 by lia)],i' XS ?_⟩);refine Bb (λU M'=>M=M'/\∃x y z,U=[ga (.ref r),x,y,z]) (λU M' j=>by rw[<-j.1];exact XS) _ _ _ ⟨Z',Fa,Fa,Fa,Z'⟩ ?_ ?_
 .rintro d hd U M' ⟨rfl,x,y,z,rfl⟩ nx Xf
  obtain⟨p,hp,rfl⟩:=dw.mp hd;have o:=mD p hp;refine⟨Z',⟨p.1,Z',o.len,_,by rw[o.nm],?_⟩⟩;refine yj (c:=decide ((1:Int)<=p.2.1)) (dI o.l1) ⟨_,by rw[dI (show p.2.1<=3 from o.l2)],?_⟩;refine yj (c:=decide ((0:Int)<=p.2.2)) (dI o.r1) ⟨_,by rw[dI (show p.2.2<=9 from o.r2)],?_⟩;exact Xf _ _ ⟨Z',_,_,_,Z'⟩
 .rintro U M' ⟨rfl,x,y,z,rfl⟩
  exact⟨M,.refl,q⟩
def AJ:Fq P w K mg base 3 a.bf AG:=by
 refine fq G.bf.toDG tL (λr u=>⟨_,(oR (pD (pz (sC G) r G.m (rK (pX u (pG qb Z' G.g pZ (pW v0)) (su Z' G.cI)) oW)))
 (oS (uh eR Z' (qy v0) (ua (n:=3) Z' (qg (rN 2 tL) (qg (rN 3 tL) (qg (rN 4 tL) sP))))
 (oR (pD (pz (sC G) r G.m (rK (pz (Bw G) r G.ae (pW U2)) oW)))
 (oR (pD (pz (sC G) r G.m (rK (pX u U3 (su Z' G.cJ)) oW)))
 (oS (pD (pz (sC G) r G.m (rK (pz (Ak G) r G.R (ra v4 U1 (su Z' G.cK))) oW))))))))),?_⟩)
 rintro ds M Q ⟨r,gs,pl,pn,rfl,XS,hp,h3,mD,q⟩
 have el:((gs.map qT).length:Int)=gs.length:=by rw[cR]
 refine i' XS ⟨_,by rw[dI (show((gs.map qT).length:Int)<=3 by lia)],i' XS ?_⟩;refine Bb (λU M'=>M=M'/\∃x y z,U=[ga (.ref r),ga (.ref pl),x,y,z]) (λU M' j=>by rw[<-j.1];exact XS) _ _ _ ⟨Z',Fa,Fa,Fa,Z'⟩ ?_ ?_
 .rintro d hd U M' ⟨rfl,x,y,z,rfl⟩ nx Xf
  obtain⟨g,hg,rfl⟩:=dw.mp hd;have o:=mD g hg;refine⟨Z',⟨g.1,Z',o.len,_,by rw[o.nm],?_⟩⟩;have hm:inD (.str g.2.1) [.str "all",.str "turns"]=Db:=by rcases o.man with e|e<;>(rw[e];rfl)
  refine⟨Z',Z',.str "a group's manner is all or turns",eC (λb=>[D.bl b,D.str "a group's manner is all or turns"]) hm,?_⟩;refine⟨g.2.2,pn,pl,4,Z',hp,o.oP,_,by rw[o.mem],?_⟩;exact Xf _ _ ⟨Z',_,_,_,Z'⟩
 .rintro U M' ⟨rfl,x,y,z,rfl⟩
  exact⟨M,.refl,q⟩
def Dn:Fq P w K mg base 4 a.bh CS:=by
 refine fq G.bh.toDG tJ (λr u=>⟨_,(oR (pD (pz (sC G) r G.m (rK (MM G.b1 Z' (pA v0 oV)) oW)))
 (oR (pC 3 tJ (JH G.b1 Z' (pA v0 oV)))
 (oR (pC 4 tJ (qK v0 (rc oV) rE))
 (oR (pD (pz (sC G) r G.m (rK (pX u (pG qb Z' G.g pZ (pW v4)) (pG qb Z' G.g pZ (pW U3))) oW)))
 (oR (uh eR Z' (SR Z' G.aP (rK U3 v4)) (ua (n:=2) Z' (qg (rN 5 tJ) (qg (rN 6 tJ) sP)))
 (oS (pD (pz (sC G) r G.m (rK (pz (Os G) r G.bg (pT v5 (ra v6 U1 U2))) oW)))))
 (oR (pH (pk u (qK U3 rE (rc oV)) (pF (rK oW oW)))
 (oS (pD (pz (sC G) r G.m (rK (pX u (pA v4 oV) (pA v4 oV)) oW))))
 pB)
 (oS (pH (pk u (qK U3 (rc oV) rE) (pF (rK oW oW)))
 (oS (pD (pz (sC G) r G.m (rK (pX u (pA v4 oV) (pA v4 oV)) oW))))
 pB)))))))),?_⟩)
 rintro ds M Q ⟨v,pl,nl,pn,nm,rfl,hp,hn,ok,q⟩
 have part:∀{k:Str} {d:D} {C:DK},xU pn nm k d->C (.bl Db) M->IJ [.str k,d,.ref pl,.ref nl] M C:=λo c=>⟨_,_,pl,nl,pn,nm,Z',hp,hn,o,c⟩;have need:∀{x:D} {C:DK},C .mx M->JE [.bl Db,x] M C:=λc=>⟨_,Z',c⟩;have ne:∀{x y:Str},x≠y->(!(x==y))=Db:=λh=>by simpa using h
 have nei:∀{x y:Int},x≠y->(!(x==y))=Db:=λh=>by simpa using h
 have Xb:∃W9,qu W9 M/\Q .mx W9:=⟨M,.refl,q⟩;cases v with
 | bar x ns=>obtain⟨h1,h2,h3⟩:=ok;refine⟨_,Z',_,Z',?_⟩;refine⟨Z',_,_,pl,nl,pn,nm,Z',hp,hn,.mK x h1,_,Z',trivial,⟨Z',_,_,pl,nl,pn,nm,Z',hp,hn,.names ns h2 h3,_,Z',trivial,?_⟩⟩;exact⟨oP Z',oP Z',Xb⟩
 | shut x ns=>obtain⟨h1,h2,h3⟩:=ok;refine⟨_,Z',_,Z',?_⟩;refine⟨Z',_,_,pl,nl,pn,nm,Z',hp,hn,.name x h1,_,Z',trivial,⟨Z',_,_,pl,nl,pn,nm,Z',hp,hn,.mv ns h2 h3,_,Z',trivial,?_⟩⟩;exact⟨oP Z',oP Z',Xb⟩
 | always x y=>obtain⟨h1,h2,h3⟩:=ok;refine⟨_,Z',_,Z',?_⟩;refine⟨Z',_,_,pl,nl,pn,nm,Z',hp,hn,.name x h1,_,Z',trivial,⟨Z',_,_,pl,nl,pn,nm,Z',hp,hn,.name y h2,_,Z',trivial,?_⟩⟩;refine⟨oP Z',⟨_,by rw[ne h3],?_⟩⟩;exact⟨oP Z',Xb⟩
 | night x y f l=>obtain⟨h1,h2,h3,h4,h5,h6⟩:=ok;refine⟨_,Z',_,Z',?_⟩;refine⟨Z',_,_,pl,nl,pn,nm,Z',hp,hn,.name x h1,_,Z',trivial,⟨Z',_,_,pl,nl,pn,nm,Z',hp,hn,.name y h2,_,Z',trivial,⟨Z',_,_,pl,nl,pn,nm,Z',hp,hn,.hour f h4.1 h4.2,_,Z',trivial,⟨Z',_,_,pl,nl,pn,nm,Z',hp,hn,.hour l h5.1 h5.2,_,Z',trivial,?_⟩⟩⟩⟩;refine⟨oP Z',⟨_,by rw[ne h3],?_⟩⟩;refine⟨oP Z',⟨_,by rw[nei h6],?_⟩⟩;exact Xb
 | busy x y=>obtain⟨h1,h2,h3⟩:=ok;refine⟨_,Z',_,Z',?_⟩;refine⟨Z',_,_,pl,nl,pn,nm,Z',hp,hn,.name x h1,_,Z',trivial,⟨Z',_,_,pl,nl,pn,nm,Z',hp,hn,.name y h2,_,Z',trivial,?_⟩⟩;refine⟨oP Z',⟨_,by rw[ne h3],?_⟩⟩;exact⟨oP Z',Xb⟩
 | silent x y n=>obtain⟨h1,h2,h3,h4,h5⟩:=ok;refine⟨_,Z',_,Z',?_⟩;refine⟨Z',_,_,pl,nl,pn,nm,Z',hp,hn,.name x h1,_,Z',trivial,⟨Z',_,_,pl,nl,pn,nm,Z',hp,hn,.name y h2,_,Z',trivial,⟨Z',_,_,pl,nl,pn,nm,Z',hp,hn,.turns n h4 h5,_,Z',trivial,?_⟩⟩⟩;refine⟨oP Z',⟨_,by rw[ne h3],?_⟩⟩;exact⟨oP Z',Xb⟩
 | wait x=>refine⟨_,Z',_,Z',?_⟩;refine⟨Z',_,_,pl,nl,pn,nm,Z',hp,hn,.mK x ok,_,Z',trivial,?_⟩;exact⟨oP Z',oP Z',Xb⟩
 | breaks x=>refine⟨_,Z',_,Z',?_⟩;refine⟨Z',_,_,pl,nl,pn,nm,Z',hp,hn,.mK x ok,_,Z',trivial,?_⟩;exact⟨oP Z',oP Z',Xb⟩
def AY:Fq P w K mg base 5 a.bi A7:=by
 refine fq G.bi.toDG uF (λr u=>⟨_,(oR (pD (pz (sC G) r G.m (rK (pX u (pG qb Z' G.g pZ (pW v0)) (su Z' G.cL)) oW)))
 (oS (uh eR Z' (qy v0) (ua (n:=2) Z' (qg (rN 3 uF) (qg (rN 4 uF) sP)))
 (oS (pD (pz (Dn G) r G.bh (ra v4 U1 U2))))))),?_⟩)
 rintro ds M Q ⟨r,ws,pl,nl,pn,nm,rfl,XS,hp,hn,h16,mD,q⟩
 have el:((ws.map uZ).length:Int)=ws.length:=by rw[cR]
 refine i' XS ⟨_,by rw[dI (show((ws.map uZ).length:Int)<=16 by lia)],i' XS ?_⟩;refine Bb (λU M'=>M=M'/\∃x y,U=[ga (.ref r),ga (.ref pl),ga (.ref nl),x,y]) (λU M' j=>by rw[<-j.1];exact XS) _ _ _ ⟨Z',Fa,Fa,Z'⟩ ?_ ?_
 .rintro d hd U M' ⟨rfl,x,y,rfl⟩ nx Xf
  obtain⟨v,hv,rfl⟩:=dw.mp hd;exact⟨Z',⟨v.2,pl,nl,pn,nm,Z',hp,hn,mD v hv,Xf _ _ ⟨Z',_,_,Z'⟩⟩⟩
 .rintro U M' ⟨rfl,x,y,rfl⟩
  exact⟨M,.refl,q⟩
structure pf where
 mv:List uu
 groups:List ue
 mo:List ve
noncomputable def pf.pn(l:pf):QQQ:=l.mv.map (·.1)
noncomputable def pf.gn(l:pf):QQQ:=l.groups.map (·.1)
noncomputable def pf.nm(l:pf):QQQ:=l.pn++l.gn
structure qR(l:pf):Prop where
 p1:1<=l.mv.length
 p8:l.mv.length<=8
 po:∀p∈l.mv,Fg p
 g3:l.groups.length<=3
 go:∀g∈l.groups,Ew l.pn g
 nd:l.nm.Nodup
 w16:l.mo.length<=16
 wo:∀w∈l.mo,Ci l.pn l.nm w.2
def D6{ss:QQQ}(h:ss.Nodup):wF ss=Db:=by unfold wF;rw[Ig ss h];simp
def C6:qY:=λds M Q=>BK λr1 r2 r3 (l:pf)=>ds=[.ref r1,.ref r2,.ref r3]/\nU M r1=ga (l.mv.map qL)/\nU M r2=ga (l.groups.map qT)/\nU M r3=ga (l.mo.map uZ)/\qR l/\Q .mx M
noncomputable def C9:D->D
 | .tup (x::_)=>x
 | _=>.mx
def yU(ps:List uu):(ps.map qL).map C9=(ps.map (·.1)).map D.str:=by rw[dU,dU];rfl
def yC(ps:List ue):(ps.map qT).map C9=(ps.map (·.1)).map D.str:=by rw[dU,dU];rfl
def Dk:Fq P w K mg base 6 a.bj C6:=by
 refine fq G.bj.toDG vL (λr u=>⟨_,(oR (pD (pz (AF G) r G.be (pW v0)))
 (oR (sY (i:=3) vL.nd Z' (Or.inl Z') Z' (xc (ix:=[Fa]) (N':=["phone"])) (qy v0) (qh 0) rk (pA v0 oV))
 (oR (pD (pz (AJ G) r G.bf (rK U1 U3)))
 (oR (pC 4 vL (pL U3 (qv Z' (xc (ix:=[Fa]) (N':=["group"])) (qy U1) (qh 0) rk (pA v0 oV))))
 (oR (pD (pz (sC G) r G.m (rK (pz (DC G) r G.af (pW v4)) oW)))
 (oS (pD (pz (AY G) r G.bi (ra U2 U3 v4))))))))),?_⟩)
 rintro ds M Q ⟨r1,r2,r3,l,rfl,h1,h2,h3,ok,q⟩
 have hz:=dH;have l1:=ok.p8;have l2:=ok.g3;refine⟨r1,l.mv,Z',h1,ok.p1,ok.p8,ok.po,i' h1 ?_⟩;refine qP (f:=C9) h1 _ [] _ (by rw[cR];simp only[dB];lia) (λd hd k hk=>?_) λp hp=>?_
 .obtain⟨x,_,rfl⟩:=dw.mp hd;exact hk
 rw[dX,yU];obtain⟨M1,e0,s1,lp⟩:=ub (ds:=(l.mv.map (·.1)).map D.str) hp;rw[<-e0];have lp:nU M1 p=ga (l.pn.map D.str):=lp;refine⟨r2,l.groups,p,l.pn,Z',s1.lst h2,lp,ok.g3,ok.go,?_⟩;refine i' (s1.lst h2) (qP (f:=C9) (s1.lst h2) _ [] _ (by rw[cR];simp only[dB];lia) (λd hd k hk=>?_) λp2 Xe=>?_)
 .obtain⟨x,_,rfl⟩:=dw.mp hd;exact hk
 rw[dX,yC];have s2:=qu.new (c:=.lst ((l.groups.map (·.1)).map D.str)) Xe;refine i' (s2.lst lp) (i' pj ⟨?_,λp3 Yx=>?_⟩)
 .rw[cR,cR,cR];show(l.mv.map (·.1)).length+_<=_;rw[cR];lia
 have en:l.pn.map D.str++(l.groups.map (·.1)).map D.str=l.nm.map D.str:=by unfold pf.nm;rw[dF];rfl
 rw[en];have s3:=s2.trans (qu.new (c:=.lst (l.nm.map D.str)) Yx);have l3:=@pj (o9 M1 p2 (.lst ((l.groups.map (·.1)).map D.str))) p3 (l.nm.map D.str);generalize o9 (o9 M1 p2 (.lst ((l.groups.map (·.1)).map D.str))) p3 (.lst (l.nm.map D.str))=M3 at s3 l3 ⊢;have ln:l.nm.length<4000:=by unfold pf.nm pf.pn pf.gn;rw[cU,cR,cR];lia
 refine⟨_,l.nm,Z',.inr ⟨p3,Z',l3⟩,ln,_,by rw[D6 ok.nd],?_⟩;exact⟨r3,l.mo,p,p3,l.pn,l.nm,Z',s3.lst (s1.lst h3),s3.lst lp,l3,ok.w16,ok.wo,M,s1.trans s3,q⟩
noncomputable def QH(ph gr ws on pr gd:lf):T0 (Str×D):=[("phones",.ref ph),("groups",.ref gr),("wishes",.ref ws),("on",.ref on),("phone_rows",.ref pr),("group_rows",.ref gd)]
def RY(l:pf):T0 (qJ×D):=l.mv.map λp=>(Sum.inr p.1,qL p)
def HQ(l:pf):T0 (qJ×D):=l.groups.map λg=>(Sum.inr g.1,qT g)
def sr(a:Ad)(M:Mp)(rs:QXQ)(ws:List ve):Prop:=rs.length=ws.length/\∀(i:Nat) (r:lf) (v:ve),rs[i]?=ga r->ws[i]?=ga v->M r=ga (.ins (v.2.cls a) v.2.nj)
def sJ(a:Ad)(M:Mp)(p:lf)(l:pf):Prop:=Tj λph gr ws on pr gd (rs:QXQ)=>M p=ga (.ins a.h (QH ph gr ws on pr gd))/\nU M ph=ga (l.mv.map qL)/\nU M gr=ga (l.groups.map qT)/\
 nU M ws=ga (rs.map D.ref)/\nU M on=ga (l.mo.map λw=>D.bl w.1)/\xm M pr=ga (RY l)/\xm M gd=ga (HQ l)/\sr a M rs l.mo
def sr.keep{p:lf}(h:sr a M rs ws)(k:rg p M M')(n:∀r∈rs,r≠p):sr a M' rs ws:=⟨h.1,λi r v e1 e2=>k r _ (n r (eZ e1)) (h.2 i r v e1 e2)⟩
def sr.sub(h:sr a M rs ws)(k:qu M M'):sr a M' rs ws:=⟨h.1,λi r v e1 e2=>k r _ (h.2 i r v e1 e2)⟩
def sJ.sub{p:lf}(h:sJ a M p l)(s:qu M M'):sJ a M' p l:=by obtain⟨ph,gr,ws,on,pr,gd,rs,h1,h2,h3,h4,h5,h6,h7,h8⟩:=h;exact⟨ph,gr,ws,on,pr,gd,rs,s _ _ h1,s.lst h2,s.lst h3,s.lst h4,s.lst h5,s.dk h6,s.dk h7,h8.sub s⟩
def OL(a:Ad):qY:=λds M Q=>EL λp r1 r2 r3 (l:pf)=>ds=[.ref p,.ref r1,.ref r2,.ref r3]/\M p=ga (.ins a.h [])/\nU M r1=ga (l.mv.map qL)/\nU M r2=ga (l.groups.map qT)/\nU M r3=ga (l.mo.map uZ)/\qR l/\
 ∀M',rg p M M'->sJ a M' p l->(∀W9,(∀b c,(b=p\/M b=Fa)->M' b=ga c->W9 b=ga c)->sJ a W9 p l)->Q .mx M'
def rq{p x:lf}{c:uQ}(k:rg p M N)(hp:N p=ga c)(h:N x=Fa):M x=Fa:=by
 cases e:M x with
 | none=>rfl
 | some d=>
  have n:x≠p:=λz=>by rw[z,hp]at h;cases h
  rw[k x d n e]at h;cases h
def wx{a:lf}{es:T0 (qJ×D)}(h:xm M a=ga es):M a=ga (.dk es):=by
 unfold xm at h;split at h
 .rename_i e;rw[e];cases h;rfl
 .cases h
theorem wW{α:Type}(f:α->Str)(g:α->D):∀l:List α,wY (l.map λx=>D.tup [.str (f x),g x])=ga (l.map λx=>(Sum.inr (f x),g x))
 | []=>rfl
 | x::r=>by show(wY (r.map λx=>D.tup [.str (f x),g x])).map ((Sum.inr (f x),g x)::·)=_;rw[wW f g r];rfl
def Kb{ss:QQQ}(h:ss.Nodup):(ss.map λx=>(Sum.inr x:qJ)).Nodup:=by
 induction ss with
 | nil=>exact eE
 | cons x r ih=>obtain⟨h1,h2⟩:=dN.mp h;rw[dW];refine dN.mpr ⟨λz=>h1 ?_,ih h2⟩;obtain⟨y,hy,e⟩:=dw.mp z;cases e;exact hy
def yx{α:Type}{f:α->Str}{g:α->D}{l:List α}(h:(l.map f).Nodup):((l.map λx=>((Sum.inr (f x):qJ),g x)).map (·.1)).Nodup:=by rw[dU];have:=Kb h;rw[dU]at this;exact this
def Bk(d:D):D:=.tup [C9 d,d]
noncomputable def Wz:D->D
 | .tup (x::_)=>x
 | _=>.mx
def RG(ws:List ve):(ws.map uZ).map Wz=ws.map λw=>D.bl w.1:=by rw[dU];rfl
def F5(ps:List uu):(ps.map qL).map Bk=ps.map λp=>D.tup [.str p.1,qL p]:=by rw[dU];rfl
def GA(ps:List ue):(ps.map qT).map Bk=ps.map λp=>D.tup [.str p.1,qT p]:=by rw[dU];rfl
def sr.snoc{r:lf}{v:ve}(h:sr a M rs ws)(n:M r=Fa):sr a (o9 M r (.ins (v.2.cls a) v.2.nj)) (rs++[r]) (ws++[v]):=by
 refine⟨by rw[cU,cU,h.1];rfl,λi r' v' e1 e2=>?_⟩;by_cases hi:i<rs.length
 .rw[eF hi]at e1;rw[eF (by rw[<-h.1];exact hi)]at e2;have:=h.2 i r' v' e1 e2;rw[tM (Io this n)];exact this
 .have Y5:i=rs.length:=by have:=(cV.mp e1).1;rw[cU,dE]at this;lia
  subst Y5;rw[eP (cZ _)]at e1;rw[h.1,eP (cZ _)]at e2;simp only[gP,iB,jl]at e1 e2;subst e1 e2;exact pJ
def P8:Fq P w K mg base 7 a.aj (OL a):=by
 refine fq G.aj.toDG FN (λr u=>⟨_,(oR (pD (pz (Dk G) r G.bj (ra U1 U2 U3)))
 (oR (pU v0 (qa sf Z' G.r sd (pW U1)))
 (oR (pU v0 (qa sf Z' G.r sd (pW U2)))
 (oR (pU v0 (qv Z' (xc (ix:=[Fa,Fa]) (N':=["on","wish"])) (qy U3) (ua (n:=2) Z' (qg (qh 0) (qg (qh 1) sP))) rk (pz (Ia G) r G.bd (pW U1))))
 (oR (pU v0 (qv Z' (xc (ix:=[Fa,Fa]) (N':=["on","wish"])) (qy U3) (ua (n:=2) Z' (qg (qh 0) (qg (qh 1) sP))) rk v0))
 (oR (pU v0 (qa (FL Z') Z' G.bU EE (pW (qv Z' (xc (ix:=[Fa]) (N':=["phone"])) (qy U1) (qh 0) rk (pF (rK (pA v0 oV) v0))))))
 (oS (pU v0 (qa (FL Z') Z' G.bU EE (pW (qv Z' (xc (ix:=[Fa]) (N':=["group"])) (qy U2) (qh 0) rk (pF (rK (pA v0 oV) v0))))))))))))),?_⟩)
 rintro ds M Q ⟨p,r1,r2,r3,l,rfl,hp,h1,h2,h3,ok,q⟩
 have hz:=dH;have l1:=ok.p8;have l2:=ok.g3;have l3:=ok.w16;refine⟨r1,r2,r3,l,Z',h1,h2,h3,ok,?_⟩;refine i' h1 λph hph=>?_;obtain⟨n1,e1,k1,c1,p1⟩:=sQ (fs':=[("phones",.ref ph)]) (c:=.lst (l.mv.map qL)) hp hph;refine oU e1 ⟨(G.aa "phones" Z'),by show 0<1000;decide,?_⟩;show uj _ _ _ _ (o9 (o9 M ph (.lst (l.mv.map qL))) p (.ins a.h [("phones",.ref ph)]));generalize o9 (o9 M ph (.lst (l.mv.map qL))) p (.ins a.h [("phones",.ref ph)])=N1 at k1 c1 p1 ⊢;have XQ:=k1.lst (pK h1 hp) h1;have h2':=k1.lst (pK h2 hp) h2;have Zz:=k1.lst (pK h3 hp) h3;have f1:nU N1 ph=ga (l.mv.map qL):=sy c1;refine i' h2' λgr hgr=>?_;obtain⟨n2,e2,k2,c2,p2⟩:=sQ (fs':=[("phones",.ref ph),("groups",.ref gr)]) (c:=.lst (l.groups.map qT)) p1 hgr;refine oU e2 ⟨(G.aa "groups" Z'),by show 1<1000;decide,?_⟩;show uj _ _ _ _ (o9 (o9 N1 gr (.lst (l.groups.map qT))) p (.ins a.h [("phones",.ref ph),("groups",.ref gr)]));generalize o9 (o9 N1 gr (.lst (l.groups.map qT))) p (.ins a.h [("phones",.ref ph),("groups",.ref gr)])=N2 at k2 c2 p2 ⊢;have g1:=k2.lst (pK XQ p1) XQ;have g2:=k2.lst (pK h2' p1) h2';have g3:=k2.lst (pK Zz p1) Zz;have f2:=k2.lst (pK f1 p1) f1;have f3:nU N2 gr=ga (l.groups.map qT):=sy c2;have kk2:=k1.trans k2;have m2:M gr=Fa:=rq k1 p1 hgr;clear XQ h2' Zz f1 c1 c2 k1 k2 e1 e2;refine i' g3 ?_;refine wO (l.mo.map uZ) (λpre acc U Mx=>(∃x y,U=[x,y])/\qu N2 Mx/\∃rs:QXQ,acc=rs.map D.ref/\(∀r∈rs,N2 r=Fa)/\sr a Mx rs (l.mo.take pre.length)) (λpre acc U Mx j=>j.2.1.lst g3) _ [] [] _ _ Z' (by rw[cR];simp only[dB];lia) ⟨⟨Fa,Fa,Z'⟩,.refl,[],Z',λr hr=>absurd hr (dP),Z',λi r v e=>by simp at e⟩ ?_ ?_
 .rintro pre d post e acc U Mx ⟨⟨x,y,rfl⟩,sx,rs,rfl,fr,wa⟩ k hk
  obtain⟨v,hv,rfl⟩:∃v,l.mo[pre.length]?=ga v/\d=uZ v:=by
   have:(l.mo.map uZ)[pre.length]?=ga d:=by rw[<-e];simp
   rw[dq]at this;cases z:l.mo[pre.length]? with
   | none=>rw[z]at this;cases this
   | some v=>rw[z]at this;exact⟨v,Z',(de this).symm⟩
  refine⟨Z',⟨v.2,Z',λr hr=>hk _ _ _ ⟨⟨_,_,Z'⟩,sx.trans (.new hr),rs++[r],?_,λr' hr'=>?_,?_⟩⟩⟩
  .rw[dF];rfl
  .rcases dM.mp hr' with z|z
   .exact fr r' z
   .rw[c9.mp z];exact sx.none hr
  .rw[cU,dE,fH,hv];exact wa.snoc hr
 rintro acc U Mx ⟨⟨x,y,rfl⟩,sx,rs,rfl,fr,wa⟩ ws hws
 have wa:sr a Mx rs l.mo:=by rw[cR,fh]at wa;exact wa
 obtain⟨n3,e3,k3,c3,p3⟩:=sQ (fs':=[("phones",.ref ph),("groups",.ref gr),("wishes",.ref ws)]) (c:=.lst (rs.map D.ref)) (sx _ _ p2) hws;refine oU e3 ⟨(G.aa "wishes" Z'),by show 2<1000;decide,?_⟩;show uj _ _ _ _ (o9 (o9 Mx ws (.lst (rs.map D.ref))) p (.ins a.h [("phones",.ref ph),("groups",.ref gr),("wishes",.ref ws)]));generalize o9 (o9 Mx ws (.lst (rs.map D.ref))) p (.ins a.h [("phones",.ref ph),("groups",.ref gr),("wishes",.ref ws)])=N3 at k3 c3 p3 ⊢;have px:=sx _ _ p2;have i1:=k3.lst (pK (sx.lst g1) px) (sx.lst g1);have i2:=k3.lst (pK (sx.lst g2) px) (sx.lst g2);have i3:=k3.lst (pK (sx.lst g3) px) (sx.lst g3);have f4:=k3.lst (pK (sx.lst f2) px) (sx.lst f2);have f5:=k3.lst (pK (sx.lst f3) px) (sx.lst f3);have f6:nU N3 ws=ga (rs.map D.ref):=sy c3;have rp:∀r∈rs,r≠p:=λr hr z=>by have:=fr r hr;rw[z,p2]at this;cases this
 have w3:=wa.keep k3 rp;have kk3:=(kk2.trans sx.keep).trans k3;have m3:M ws=Fa:=rq (kk2.trans sx.keep) px hws;have mr:∀r∈rs,M r=Fa:=λr hr=>rq kk2 p2 (fr r hr);clear g1 g2 g3 f2 f3 c3 k3 e3 wa px kk2;refine i' i3 (BP (f:=Wz) (λU=>∃x y,U=[x,y]) i3 _ [] _ ⟨Fa,Fa,Z'⟩ (by rw[cR];simp only[dB];lia) (λd hd U hj k hk=>?_) λon Z1=>?_)
 .obtain⟨x,y,rfl⟩:=hj;obtain⟨v,_,rfl⟩:=dw.mp hd;exact⟨Z',hk _ ⟨_,_,Z'⟩⟩
 rw[dX,RG];obtain⟨n4,e4,k4,c4,p4⟩:=sQ (fs':=[("phones",.ref ph),("groups",.ref gr),("wishes",.ref ws),("on",.ref on)]) (c:=.lst (l.mo.map λw=>D.bl w.1)) p3 Z1;refine oU e4 ⟨(G.aa "on" Z'),by show 3<1000;decide,?_⟩;show uj _ _ _ _ (o9 (o9 N3 on (.lst (l.mo.map λw=>D.bl w.1))) p (.ins a.h [("phones",.ref ph),("groups",.ref gr),("wishes",.ref ws),("on",.ref on)]));generalize o9 (o9 N3 on (.lst (l.mo.map λw=>D.bl w.1))) p (.ins a.h [("phones",.ref ph),("groups",.ref gr),("wishes",.ref ws),("on",.ref on)])=N4 at k4 c4 p4 ⊢;have j1:=k4.lst (pK i1 p3) i1;have j2:=k4.lst (pK i2 p3) i2;have f7:=k4.lst (pK f4 p3) f4;have f8:=k4.lst (pK f5 p3) f5;have f9:=k4.lst (pK f6 p3) f6;have fa:nU N4 on=ga (l.mo.map λw=>D.bl w.1):=sy c4;have w4:=w3.keep k4 rp;have Y9:=kk3.trans k4;have m4:M on=Fa:=rq kk3 p3 Z1;clear i1 i2 i3 f4 f5 f6 c4 k4 e4 w3 kk3;refine i' j1 (qP (f:=Bk) j1 _ [] _ (by rw[cR];simp only[dB];lia) (λd hd k hk=>?_) λq1 X0=>?_)
 .obtain⟨v,_,rfl⟩:=dw.mp hd;exact⟨oP Z',hk⟩
 rw[dX,F5];have ZA:=qu.new (c:=.lst (l.mv.map λp=>D.tup [.str p.1,qL p])) X0;refine i' pj (i' (wW (λp:uu=>p.1) qL l.mv) ⟨yx (iy (List.sublist_append_left _ _) ok.nd),λpr hpr=>?_⟩);obtain⟨n5,e5,k5,c5,p5⟩:=sQ (fs':=[("phones",.ref ph),("groups",.ref gr),("wishes",.ref ws),("on",.ref on),("phone_rows",.ref pr)]) (c:=.dk (l.mv.map λx=>(Sum.inr x.1,qL x))) (ZA _ _ p4) hpr;refine oU e5 ⟨(G.aa "phone_rows" Z'),by show 4<1000;decide,?_⟩;have k5:=ZA.keep.trans k5;have YY:vK "phone_rows" (.ref pr) [("phones",.ref ph),("groups",.ref gr),("wishes",.ref ws),("on",.ref on)]=([("phones",.ref ph),("groups",.ref gr),("wishes",.ref ws),("on",.ref on),("phone_rows",.ref pr)]:T0 (Str×D)):=rfl;rw[YY];generalize o9 (o9 (o9 N4 q1 (.lst (l.mv.map λp=>D.tup [.str p.1,qL p]))) pr (.dk (l.mv.map λx=>(Sum.inr x.1,qL x)))) p (.ins a.h [("phones",.ref ph),("groups",.ref gr),("wishes",.ref ws),("on",.ref on),("phone_rows",.ref pr)])=N5 at k5 c5 p5 ⊢;have mm:=k5.lst (pK j2 p4) j2;have fb:=k5.lst (pK f7 p4) f7;have fc:=k5.lst (pK f8 p4) f8;have fd:=k5.lst (pK f9 p4) f9;have fe:=k5.lst (pK fa p4) fa;have ff:xm N5 pr=ga (RY l):=Ec c5;have w5:=w4.keep k5 rp;have Za:=Y9.trans k5;have m5:M pr=Fa:=rq (Y9.trans ZA.keep) (ZA _ _ p4) hpr;clear j1 j2 f7 f8 f9 fa c5 k5 e5 w4 Y9;refine i' mm (qP (f:=Bk) mm _ [] _ (by rw[cR];simp only[dB];lia) (λd hd k hk=>?_) λq2 YK=>?_)
 .obtain⟨v,_,rfl⟩:=dw.mp hd;exact⟨oP Z',hk⟩
 rw[dX,GA];have sq2:=qu.new (c:=.lst (l.groups.map λg=>D.tup [.str g.1,qT g])) YK;refine i' pj (i' (wW (λp:ue=>p.1) qT l.groups) ⟨yx (iy (jp _ _) ok.nd),λgd hgd=>?_⟩);obtain⟨n6,e6,k6,c6,p6⟩:=sQ (fs':=QH ph gr ws on pr gd) (c:=.dk (HQ l)) (sq2 _ _ p5) hgd;have k6:=sq2.keep.trans k6;refine oU e6 ⟨(G.aa "group_rows" Z'),by show 5<1000;decide,_,.refl,?_⟩;have m6:M gd=Fa:=rq (Za.trans sq2.keep) (sq2 _ _ p5) hgd;have w6:=w5.keep k6 rp;have y1:=k6.lst (pK fb p5) fb;have y2:=k6.lst (pK fc p5) fc;have y3:=k6.lst (pK fd p5) fd;have y4:=k6.lst (pK fe p5) fe;have y5:=k6.dk (BU ff p5) ff;refine q _ (Za.trans k6) ⟨ph,gr,ws,on,pr,gd,rs,p6,y1,y2,y3,y4,y5,Ec c6,w6⟩ λW9 hs=>?_;exact⟨ph,gr,ws,on,pr,gd,rs,hs _ _ (.inl Z') p6,sy (hs _ _ (.inr hph) (pP y1)),sy (hs _ _ (.inr m2) (pP y2)),sy (hs _ _ (.inr m3) (pP y3)),sy (hs _ _ (.inr m4) (pP y4)),Ec (hs _ _ (.inr m5) (wx y5)),Ec (hs _ _ (.inr m6) c6),w6.1,λi r v e1 e2=>hs _ _ (.inr (mr r (eZ e1))) (w6.2 i r v e1 e2)⟩
theorem x9{α:Type}(f:α->Str)(g:α->D)(k:Str):∀l:List α,sR (l.map λx=>((Sum.inr (f x):qJ),g x)) (Sum.inr k)=(l.find? λx=>decide (f x=k)).map g
 | []=>rfl
 | x::r=>by
  have ih:=x9 f g k r;unfold sR at ih ⊢;rw[dW,eQ,eQ];by_cases h:f x=k
  .have h':decide ((Sum.inr (f x):qJ)=Sum.inr k)=Db:=dI (by rw[h]);simp[h]
  .have h':¬(Sum.inr (f x):qJ)=Sum.inr k:=λz=>h (jQ z);simp only[h,h',decide_false];exact ih
noncomputable def pf.mK(l:pf)(x:Str):Option uu:=l.mv.find? λp=>decide (p.1=x)
noncomputable def pf.group(l:pf)(x:Str):Option ue:=l.groups.find? λg=>decide (g.1=x)
noncomputable def pf.mi(l:pf)(x:Str):QQQ:=(l.group x).elim [x] λg=>g.2.2
noncomputable def pf.mz(l:pf)(x:Str):Str:=(l.group x).elim "one" λg=>g.2.1
def GH(l:pf)(x:Str):sR (RY l) (Sum.inr x)=(l.mK x).map qL:=x9 (λp:uu=>p.1) qL x l.mv
def we(l:pf)(x:Str):sR (HQ l) (Sum.inr x)=(l.group x).map qT:=x9 (λp:ue=>p.1) qT x l.groups
def yF(a:Ad):qY:=λds M Q=>CM λp (l:pf)=>ds=[.ref p]/\sJ a M p l/\l.mv.length<=100/\∀q,M q=Fa->Q (.ref q) (o9 M q (.lst (l.pn.map D.str)))
def Fd(a:Ad):qY:=λds M Q=>CM λp (l:pf)=>ds=[.ref p]/\sJ a M p l/\l.mv.length<=100/\l.groups.length<=100/\∀q,M q=Fa->Q (.ref q) (o9 M q (.lst (l.nm.map D.str)))
def Ej(a:Ad):qY:=λds M Q=>BK λp x v (l:pf)=>ds=[.ref p,.str x]/\sJ a M p l/\l.mK x=ga v/\Q (.int v.2.1) M
def GL(a:Ad):qY:=λds M Q=>BK λp x v (l:pf)=>ds=[.ref p,.str x]/\sJ a M p l/\l.mK x=ga v/\Q (.int v.2.2) M
def Ac(a:Ad):qY:=λds M Q=>DM λp x (l:pf)=>ds=[.ref p,.str x]/\sJ a M p l/\∀q,M q=Fa->Q (.ref q) (o9 M q (.lst ((l.mi x).map D.str)))
def Dh(a:Ad):qY:=λds M Q=>DM λp x (l:pf)=>ds=[.ref p,.str x]/\sJ a M p l/\Q (.str (l.mz x)) M
def sj:Fq P w K mg base 1 a.O (yF a):=by
 refine fq G.O.toDG yf (λr u=>⟨_,(oS (oY (qv Z' (xc (ix:=[Fa]) (N':=["phone"])) (qy (oZ v0)) (qh 0) rk (pA v0 oV)))),?_⟩)
 rintro ds M Q ⟨p,l,rfl,hp,hl,q⟩
 have hz:=dH;obtain⟨ph,gr,ws,on,pr,gd,rs,h1,h2,h3,h4,h5,h6,h7,h8⟩:=hp;refine oU h1 (i' Z' (i' h2 ?_));refine qP (f:=C9) h2 _ [] _ (by rw[cR];simp only[dB];lia) (λd hd k hk=>?_) λq1 X0=>?_
 .obtain⟨x,_,rfl⟩:=dw.mp hd;exact hk
 rw[dX,yU];exact⟨_,.refl,q q1 X0⟩
def yt:Fq P w K mg base 2 a.ak (Fd a):=by
 refine fq G.ak.toDG CP (λr u=>⟨_,(oS (oY (pL (vF v0 G.h.toCls G.O (sj G) r) (qv Z' (xc (ix:=[Fa]) (N':=["group"])) (qy (oZ v0)) (qh 0) rk (pA v0 oV))))),?_⟩)
 rintro ds M Q ⟨p,l,rfl,hp,hl,hl2,q⟩
 have hz:=dH;have Xj:=hp;obtain⟨ph,gr,ws,on,pr,gd,rs,h1,h2,h3,h4,h5,h6,h7,h8⟩:=hp;refine oU h1 ⟨Z',_,⟨Z',Z'⟩,p,l,Z',Xj,hl,λq1 X0=>?_⟩;obtain⟨M1,e0,s1,e1⟩:=ub (ds:=l.pn.map D.str) X0;rw[<-e0];have Zz:=s1.lst h3;refine oU (s1 _ _ h1) (i' Z' (i' Zz ?_));refine qP (f:=C9) Zz _ [] _ (by rw[cR];simp only[dB];lia) (λd hd k hk=>?_) λq2 YK=>?_
 .obtain⟨x,_,rfl⟩:=dw.mp hd;exact hk
 rw[dX,yC];have s2:=qu.new (c:=.lst ((l.groups.map (·.1)).map D.str)) YK;refine i' (s2.lst e1) (i' pj ⟨?_,λq3 hq3=>?_⟩)
 .rw[cR,cR,cR];show(l.mv.map (·.1)).length+_<=_;rw[cR];lia
 have en:l.pn.map D.str++(l.groups.map (·.1)).map D.str=l.nm.map D.str:=by unfold pf.nm;rw[dF];rfl
 rw[en];exact⟨_,(s1.trans s2).upd,q q3 ((s1.trans s2).none hq3)⟩
def Dc:Fq P w K mg base 1 a.bG (Ej a):=by
 refine fq G.bG.toDG CO (λr u=>⟨_,(oS (oY (pA (zM u (oZ v0) U1) oV))),?_⟩)
 rintro ds M Q ⟨p,x,v,l,rfl,hp,hv,q⟩
 obtain⟨ph,gr,ws,on,pr,gd,rs,h1,h2,h3,h4,h5,h6,h7,h8⟩:=hp;exact oU h1 (i' Z' (i' Z' (i' h6 (i' (x:=qL v) (by rw[GH,hv];rfl) ⟨M,.refl,q⟩))))
def zF:Fq P w K mg base 1 a.aM (GL a):=by
 refine fq G.aM.toDG EN (λr u=>⟨_,(oS (oY (pA (zM u (oZ v0) U1) oV))),?_⟩)
 rintro ds M Q ⟨p,x,v,l,rfl,hp,hv,q⟩
 obtain⟨ph,gr,ws,on,pr,gd,rs,h1,h2,h3,h4,h5,h6,h7,h8⟩:=hp;exact oU h1 (i' Z' (i' Z' (i' h6 (i' (x:=qL v) (by rw[GH,hv];rfl) ⟨M,.refl,q⟩))))
def tW:Fq P w K mg base 1 a.Y (Ac a):=by
 refine fq G.Y.toDG y9 (λr u=>⟨_,(oR (pH (L8 u U1 (oZ v0))
 (oS (oY (qa sf Z' G.r sd (pW (pA (zM u (oZ v0) U1) oV)))))
 pB)
 (oS (oY (qD (pW U1))))),?_⟩)
 rintro ds M Q ⟨p,x,l,rfl,hp,q⟩
 obtain⟨ph,gr,ws,on,pr,gd,rs,h1,h2,h3,h4,h5,h6,h7,h8⟩:=hp;refine oU h1 (i' Z' (i' h7 ?_));cases e:l.group x with
 | none=>refine De (c:=(sR (HQ l) (Sum.inr x)).isSome) (by rw[we,e];rfl) ⟨oP Z',λq1 X0=>⟨_,.refl,?_⟩⟩;have:=q q1 X0;unfold pf.mi at this;rw[e]at this;exact this
 | some g=>refine yj (c:=(sR (HQ l) (Sum.inr x)).isSome) (by rw[we,e];rfl) (oU h1 (i' Z' (i' Z' (i' h7 (i' (x:=qT g) (by rw[we,e];rfl) λq1 X0=>⟨_,.refl,?_⟩)))));have:=q q1 X0;unfold pf.mi at this;rw[e]at this;exact this
def xQ:Fq P w K mg base 1 a.aK (Dh a):=by
 refine fq G.aK.toDG BZ (λr u=>⟨_,(oR (pH (L8 u U1 (oZ v0))
 (oS (oY (pA (zM u (oZ v0) U1) oV)))
 pB)
 (oS (oY oW))),?_⟩)
 rintro ds M Q ⟨p,x,l,rfl,hp,q⟩
 obtain⟨ph,gr,ws,on,pr,gd,rs,h1,h2,h3,h4,h5,h6,h7,h8⟩:=hp;refine oU h1 (i' Z' (i' h7 ?_));cases e:l.group x with
 | none=>refine De (c:=(sR (HQ l) (Sum.inr x)).isSome) (by rw[we,e];rfl) ⟨M,.refl,?_⟩;unfold pf.mz at q;rw[e]at q;exact q
 | some g=>refine yj (c:=(sR (HQ l) (Sum.inr x)).isSome) (by rw[we,e];rfl) (oU h1 (i' Z' (i' Z' (i' h7 (i' (x:=qT g) (by rw[we,e];rfl) ⟨M,.refl,?_⟩)))));unfold pf.mz at q;rw[e]at q;exact q
noncomputable def Qi:T0 Int:=[1,1,2,2,3]
noncomputable def P3:T0 Int:=[0,1,1,2,5,9]
noncomputable def Ou:QQQ:=["all","turns"]
noncomputable def GI(t:T0 Int)(i:Int):Int:=t.getD i.toNat 0
def vM(s:Int)(i:Nat):uu:=(xC s (0+(i:Nat)),GI Qi (qd (s+17*(0+(i:Nat))*(0+(i:Nat))) 16807 5),GI P3 (qd (s+17*(0+(i:Nat))*(0+(i:Nat))) 39373 6))
def rG(s m:Int):Nat:=(2+qd s 48271 (m - 1)).toNat
def qp(s m:Int):List uu:=(List.range (rG s m)).map (vM s)
def zR(s:Int)(own:QQQ)(i:Nat):ue:=(xC s (8+(0+(i:Nat))),CC Ou (qd (s+5*(0+(i:Nat))) 742938285 2),vG own (s+11*(0+(i:Nat))) 4)
def vt(s:Int):Nat:=(qd s 69621 3).toNat
def qU(s:Int)(own:QQQ):List ue:=(List.range (vt s)).map (zR s own)
def F2{ts:T0 Int}{i:Int}(h0:0<=i)(h1:i<ts.length):vR (ts.map D.int) i=ga (D.int (GI ts i)):=by
 obtain⟨n,rfl⟩:=d4 h0;have Y3:n<ts.length:=by lia
 refine uR ?_;rw[dq,cT Y3];simp[GI,Y3]
def BJ{pre post:T0 D}{d:D}(e:pre++d::post=(List.range n).map λi=>D.int (0+(i:Nat))):d=.int (0+(pre.length:Nat))/\pre.length<n:=by
 have h:((List.range n).map λi=>D.int (0+(i:Nat)))[pre.length]?=ga d:=by rw[<-e];simp
 have hl:pre.length<n:=by
  have:=(cV.mp h).1
  simpa using this
 rw[dq,iS hl]at h;exact⟨(de h).symm,hl⟩
def BL{α β:Type}(f:Nat->α)(g:α->β)(n:Nat):((List.range n).map f).map g++[g (f n)]=((List.range (n+1)).map f).map g:=by rw[jP,dF,dF];rfl
def Ib:qY:=λds M Q=>CM λs m=>ds=[.int s,.int m]/\2<=m/\m<=100/\∀q,M q=Fa->Q (.ref q) (o9 M q (.lst ((qp s m).map qL)))
def HV:qY:=λds M Q=>DM λs o own=>ds=[.int s,.ref o]/\nU M o=ga (own.map D.str)/\own≠[]/\own.length<=64/\∀q,M q=Fa->Q (.ref q) (o9 M q (.lst ((qU s own).map qT)))
def yT{s m:Int}(h2:2<=m)(h:m<=100):rG s m<=100/\2<=rG s m:=by have d0:=qG (c:=s) (f:=48271) (m:=m - 1) (by lia);have d1:=qA (c:=s) (f:=48271) (m:=m - 1) (by lia);unfold rG;lia
def wU{s:Int}:vt s<=3:=by have d0:=qG (c:=s) (f:=69621) (m:=3) (by decide);have d1:=qA (c:=s) (f:=69621) (m:=3) (by decide);unfold vt;lia
def HL:Fq P w K mg base 2 a.bk Ib:=by
 refine fq G.bk.toDG uA (λr u=>⟨_,(oR (pC 2 uA (qD rZ))
 (oR (uh eR Z' (ut Z' G.L (pW (pL oV (pz (qw G) r G.i (ra v0 oV (pL U1 oV)))))) (rN 3 uA)
 (oR (pC 4 uA (pA (pF (pT oV (pT oV (ra oV oV oV)))) (pz (qw G) r G.i (ra (pL v0 (pL (pL oV U3) U3)) oV oV))))
 (oS (pD (qM U2 (pW (pF (ra (pz (JC G) r G.ag (rK v0 U3)) v4 (pA (pF (pT oV (pT oV (pT oV (ra oV oV oV))))) (pz (qw G) r G.i (ra (pL v0 (pL (pL oV U3) U3)) oV oV)))))))))))
 (oS (oY U2)))),?_⟩)
 rintro ds M Q ⟨s,m,rfl,h2,h100,q⟩
 have hz:=dH;have d0:=qG (c:=s) (f:=48271) (m:=m - 1) (by lia);have d1:=qA (c:=s) (f:=48271) (m:=m - 1) (by lia);have nl:=(yT (s:=s) h2 h100).1;refine⟨oP Z',λr hr=>⟨s,_,_,Z',by show 0<m - 1;lia,Z',⟨?_,?_⟩,?_⟩⟩
 .show -(2 ^ 62)<=2+qd s 48271 (m - 1);lia
 .show 2+qd s 48271 (m - 1)<2 ^ 62;lia
 refine uY ((List.range (rG s m)).map λi=>D.int (0+(i:Nat))) (λpre U M'=>M'=o9 M r (.lst (((List.range pre.length).map (vM s)).map qL))/\∃x y,U=[ga (.int s),ga (.int m),ga (.ref r),x,y]) (λ_ _ _ _=>trivial) _ [] _ _ Z' ⟨Z',Fa,Fa,Z'⟩ ?_ ?_
 .rintro pre d post e U M' ⟨rfl,x,y,rfl⟩ nx Xf
  obtain⟨rfl,Xl⟩:=BJ e;generalize hi:pre.length=i at Xl Xf ⊢;have cm:CT (17*(0+(i:Int))) (0+(i:Int)):=.inr ⟨by lia,by lia⟩;have c17:CT 17 (0+(i:Int)):=.inl ⟨by decide,by decide⟩;have t5:vR [D.int 1,.int 1,.int 2,.int 2,.int 3] (qd (s+17*(0+(i:Int))*(0+(i:Int))) 16807 5)=ga (.int (vM s i).2.1):=F2 (ts:=Qi) (qG (by decide)) (qA (by decide));have t6:vR [D.int 0,.int 1,.int 1,.int 2,.int 5,.int 9] (qd (s+17*(0+(i:Int))*(0+(i:Int))) 39373 6)=ga (.int (vM s i).2.2):=F2 (ts:=P3) (qG (by decide)) (qA (by decide));refine⟨oP Z',c17,cm,_,_,_,Z',by decide,i' t5 ?_⟩;refine⟨by show(nU _ r).isSome=Db;rw[pj];rfl,s,_,Z',oP Z',c17,cm,_,_,_,Z',by decide,i' t6 ⟨oP Z',i' pj ⟨?_,?_⟩⟩⟩
  .rw[cR,cR,eB];lia
  .refine Xf _ _ ⟨?_,_,_,Z'⟩;rw[rB,cU,hi];show o9 M r (.lst (_++[qL (vM s i)]))=_;rw[BL];rfl
 .rintro U M' ⟨rfl,x,y,rfl⟩
  refine⟨_,.refl,?_⟩;rw[cR,eB];exact q r hr
def HE:Fq P w K mg base 3 a.bl HV:=by
 refine fq G.bl.toDG uB (λr u=>⟨_,(oR (pC 2 uB (qD rZ))
 (oR (uh eR Z' (ut Z' G.L (pW (pz (qw G) r G.i (ra v0 oV oV)))) (rN 3 uB)
 (oR (pC 4 uB (pA (pF (rK oW oW)) (pz (qw G) r G.i (ra (pL v0 (pL oV U3)) oV oV))))
 (oS (pD (qM U2 (pW (pF (ra (pz (JC G) r G.ag (rK v0 (pL oV U3))) v4 (pz (yb G) r G.S (ra U1 (pL v0 (pL oV U3)) oV))))))))))
 (oS (oY U2)))),?_⟩)
 rintro ds M Q ⟨s,o,own,rfl,ho,Xt,h64,q⟩
 have hz:=dH;have d0:=qG (c:=s) (f:=69621) (m:=3) (by decide);have d1:=qA (c:=s) (f:=69621) (m:=3) (by decide);have nl:=wU (s:=s);refine⟨oP Z',λr hr=>⟨s,_,_,Z',by decide,Z',⟨?_,?_⟩,?_⟩⟩
 .show -(2 ^ 62)<=qd s 69621 3;lia
 .show qd s 69621 3<2 ^ 62;lia
 have nor:o≠r:=λz=>by rw[z]at ho;unfold nU at ho;rw[hr]at ho;cases ho
 refine uY ((List.range (vt s)).map λi=>D.int (0+(i:Nat))) (λpre U M'=>M'=o9 M r (.lst (((List.range pre.length).map (zR s own)).map qT))/\∃x y,U=[ga (.int s),ga (.ref o),ga (.ref r),x,y]) (λ_ _ _ _=>trivial) _ [] _ _ Z' ⟨Z',Fa,Fa,Z'⟩ ?_ ?_
 .rintro pre d post e U M' ⟨rfl,x,y,rfl⟩ nx Xf
  obtain⟨rfl,Xl⟩:=BJ e;generalize hi:pre.length=i at Xl Xf ⊢;have c5:CT 5 (0+(i:Int)):=.inl ⟨by decide,by decide⟩;have c11:CT 11 (0+(i:Int)):=.inl ⟨by decide,by decide⟩;have tm:vR [D.str "all",.str "turns"] (qd (s+5*(0+(i:Int))) 742938285 2)=ga (.str (zR s own i).2.1):=HF (row:=Ou) (qG (by decide)) (qA (by decide));have XJ:nU (o9 M r (.lst (((List.range i).map (zR s own)).map qT))) o=ga (own.map D.str):=by unfold nU;rw[tM nor];exact ho
  refine⟨oP Z',c5,_,_,_,Z',by decide,i' tm ?_⟩;refine⟨by show(nU _ r).isSome=Db;rw[pj];rfl,s,_,Z',c11,o,_,_,own,Z',XJ,Xt,by decide,h64,oP Z',i' pj ⟨?_,?_⟩⟩
  .rw[cR,cR,eB];lia
  .refine Xf _ _ ⟨?_,_,_,Z'⟩;rw[rB,cU,hi];show o9 M r (.lst (_++[qT (zR s own i)]))=_;rw[BL];rfl
 .rintro U M' ⟨rfl,x,y,rfl⟩
  refine⟨_,.refl,?_⟩;rw[cR,eB];exact q r hr
def IK(ns:T0 Int)(own nm:QQQ)(i:Nat):ve:=(decide (0<qd (cell ns (1+(0+(i:Nat)))+31*(0+(i:Nat))*(0+(i:Nat))) 22695477 6),wc (cell ns (1+(0+(i:Nat)))+31*(0+(i:Nat))*(0+(i:Nat))) own nm)
def wR(s:Int):Nat:=(qd s 950706376 11).toNat
def CK(ns:T0 Int)(m:Int):pf:=
 let s:=cell ns 0;let own:=(qp s m).map (·.1);let gs:=qU s own
 ⟨qp s m,gs,(List.range (wR s)).map (IK ns own (own++gs.map (·.1)))⟩
def ME:qY:=λds M Q=>CM λns m=>ds=[.rl (ns.map D.int),.int m]/\2<=m/\m<=8/\∀r1 r2 r3 M',qu M M'->nU M' r1=ga ((CK ns m).mv.map qL)->nU M' r2=ga ((CK ns m).groups.map qT)->nU M' r3=ga ((CK ns m).mo.map uZ)->Q (.tup [.ref r1,.ref r2,.ref r3]) M'
def MS:Fq P w K mg base 4 a.bn ME:=by
 refine fq G.bn.toDG rV (λr u=>⟨_,(oR (pC 2 rV (pz (GJ G) r G.H (rK v0 oV)))
 (oR (pC 3 rV (pz (HL G) r G.bk (rK U2 U1)))
 (oR (sY (i:=4) rV.nd Z' (Or.inl Z') Z' (xc (ix:=[Fa]) (N':=["_law_phone"])) (qy U3) (qh 0) rk (pA v0 oV))
 (oR (pC 5 rV (pz (HE G) r G.bl (rK U2 v4)))
 (oR (pC 6 rV (pL v4 (qv Z' (xc (ix:=[Fa]) (N':=["_law_group"])) (qy v5) (qh 0) rk (pA v0 oV))))
 (oR (pC 7 rV (qD rZ))
 (oR (uh eR Z' (ut Z' G.L (pW (pz (qw G) r G.i (ra U2 oV oV)))) (rN 8 rV)
 (oR (pC 9 rV (pL (pz (GJ G) r G.H (rK v0 (pL oV v8))) (pL (pL oV v8) v8)))
 (oS (pD (qM v7 (pW (pF (rK (pX u (pz (qw G) r G.i (ra v9 oV oV)) oV) (pz (Qo G) r G.bm (ra v9 v4 v6))))))))))
 (oS (oY (pF (ra U3 v5 v7))))))))))),?_⟩)
 rintro ds M Q ⟨ns,m,rfl,h2,h8,q⟩
 have hz:=dH;have pl:=yT (s:=cell ns 0) h2 (by lia);have p8:rG (cell ns 0) m<=8:=by have d1:=qA (c:=cell ns 0) (f:=48271) (m:=m - 1) (by lia);unfold rG;lia
 have gl:=wU (s:=cell ns 0);have lp:(qp (cell ns 0) m).length=rG (cell ns 0) m:=by unfold qp;rw[cR,eB]
 refine⟨ns,0,Z',cell ns 0,m,Z',h2,by lia,λr1 XS=>?_⟩;obtain⟨M1,e0,s1,a1⟩:=ub (ds:=(qp (cell ns 0) m).map qL) XS;rw[<-e0];refine i' a1 (qP (f:=C9) a1 _ [] _ (by rw[cR];simp only[dB];lia) (λd hd k hk=>?_) λo ho=>?_)
 .obtain⟨x,_,rfl⟩:=dw.mp hd;exact hk
 rw[dX,yU];have s2:=s1.trans (qu.new (c:=.lst (((qp (cell ns 0) m).map (·.1)).map D.str)) ho);have b1:=(qu.new (c:=.lst (((qp (cell ns 0) m).map (·.1)).map D.str)) ho).lst a1;have bo:=@pj M1 o (((qp (cell ns 0) m).map (·.1)).map D.str);generalize o9 M1 o (.lst (((qp (cell ns 0) m).map (·.1)).map D.str))=M2 at s2 b1 bo ⊢;have ol:((qp (cell ns 0) m).map (·.1)).length=rG (cell ns 0) m:=by rw[cR,lp]
 have one:(qp (cell ns 0) m).map (·.1)≠[]:=λz=>by rw[z]at ol;have:0=rG (cell ns 0) m:=ol;lia
 have Xj:CK ns m=⟨qp (cell ns 0) m,qU (cell ns 0) ((qp (cell ns 0) m).map (·.1)),(List.range (wR (cell ns 0))).map (IK ns ((qp (cell ns 0) m).map (·.1)) ((qp (cell ns 0) m).map (·.1)++(qU (cell ns 0) ((qp (cell ns 0) m).map (·.1))).map (·.1)))⟩:=rfl;rw[Xj]at q;generalize (qp (cell ns 0) m).map (·.1)=own at bo ol one q ⊢;refine⟨cell ns 0,o,own,Z',bo,one,by lia,λr2 YZ=>?_⟩;obtain⟨M3,e0,t3,c2⟩:=ub (ds:=(qU (cell ns 0) own).map qT) YZ;rw[<-e0];have c1:=t3.lst b1;have co:=t3.lst bo;have s3:=s2.trans t3;have gll:(qU (cell ns 0) own).length=vt (cell ns 0):=by unfold qU;rw[cR,eB]
 refine i' c2 (qP (f:=C9) c2 _ [] _ (by rw[cR];simp only[dB];lia) (λd hd k hk=>?_) λx4 hx4=>?_)
 .obtain⟨x,_,rfl⟩:=dw.mp hd;exact hk
 rw[dX,yC];have t4:=qu.new (c:=.lst (((qU (cell ns 0) own).map (·.1)).map D.str)) hx4;refine i' (t4.lst co) (i' pj ⟨?_,λn hn=>?_⟩)
 .rw[cR,cR,cR];lia
 have en:own.map D.str++((qU (cell ns 0) own).map (·.1)).map D.str=(own++(qU (cell ns 0) own).map (·.1)).map D.str:=by rw[dF]
 rw[en];have nl:(own++(qU (cell ns 0) own).map (·.1)).length=rG (cell ns 0) m+vt (cell ns 0):=by rw[cU,cR,ol,gll]
 have t5:=t4.trans (qu.new (c:=.lst ((own++(qU (cell ns 0) own).map (·.1)).map D.str)) hn);have en5:=@pj (o9 M3 x4 (.lst (((qU (cell ns 0) own).map (·.1)).map D.str))) n ((own++(qU (cell ns 0) own).map (·.1)).map D.str);have e1:=t5.lst c1;have e2:=t5.lst c2;have eo:=t5.lst co;have s5:=s3.trans t5;generalize o9 (o9 M3 x4 (.lst (((qU (cell ns 0) own).map (·.1)).map D.str))) n (.lst ((own++(qU (cell ns 0) own).map (·.1)).map D.str))=M5 at s5 e1 e2 eo en5 ⊢;generalize own++(qU (cell ns 0) own).map (·.1)=nm at en5 nl q ⊢;have d0:=qG (c:=cell ns 0) (f:=950706376) (m:=11) (by decide);have d1:=qA (c:=cell ns 0) (f:=950706376) (m:=11) (by decide);refine⟨oP Z',λr3 YL=>⟨_,_,_,Z',by decide,Z',⟨?_,?_⟩,?_⟩⟩
 .show -(2 ^ 62)<=qd (cell ns 0) 950706376 11;lia
 .show qd (cell ns 0) 950706376 11<2 ^ 62;lia
 have t6:=qu.new (c:=.lst []) YL;have g3:=@pj M5 r3 [];have no:o≠r3:=λz=>by have:=pP eo;rw[z,YL]at this;cases this
 have nn:n≠r3:=λz=>by have:=pP en5;rw[z,YL]at this;cases this
 have n1:r1≠r3:=λz=>by have:=pP e1;rw[z,YL]at this;cases this
 have n2:r2≠r3:=λz=>by have:=pP e2;rw[z,YL]at this;cases this
 have f1:=t6.lst e1;have f2:=t6.lst e2;have fo:=t6.lst eo;have fn:=t6.lst en5;have k6:qu M (o9 M5 r3 (.lst [])):=s5.trans t6;have nr:M r3=Fa:=s5.none YL;generalize o9 M5 r3 (.lst [])=M6 at f1 f2 fo fn k6 g3 ⊢;have wl:wR (cell ns 0)<=10:=by unfold wR;lia
 refine uY ((List.range (wR (cell ns 0))).map λi=>D.int (0+(i:Nat))) (λpre U M'=>rg r3 M6 M'/\nU M' r3=ga (((List.range pre.length).map (IK ns own nm)).map uZ)/\∃x y,U=[ga (.rl (ns.map D.int)),ga (.int m),ga (.int (cell ns 0)),ga (.ref r1),ga (.ref o),ga (.ref r2),ga (.ref n),ga (.ref r3),x,y]) (λp U M' j=>trivial) _ [] _ _ Z' ⟨λ_ _ _ h=>h,g3,Fa,Fa,Z'⟩ ?_ ?_
 .rintro pre d post e U M' ⟨kp,lr,x,y,rfl⟩ nx Xf
  obtain⟨rfl,Xl⟩:=BJ e;generalize hi:pre.length=i at Xl Xf lr ⊢;have c31:CT 31 (0+(i:Int)):=.inl ⟨by decide,by decide⟩;have cm:CT (31*(0+(i:Int))) (0+(i:Int)):=.inr ⟨by lia,by lia⟩;refine⟨ns,_,Z',c31,cm,?_⟩;refine⟨by show(nU M' r3).isSome=Db;rw[lr];rfl,_,_,_,Z',by decide,_,o,n,own,nm,Z',kp.lst no fo,kp.lst nn fn,one,by lia,by lia,by lia,oP Z',i' lr ⟨?_,?_⟩⟩
  .rw[cR,cR,eB];lia
  .refine Xf _ _ ⟨kp.trans .put,?_,_,_,Z'⟩;rw[pj,cU,hi];show ga (_++[uZ (IK ns own nm i)])=_;rw[BL];rfl
 .rintro U M' ⟨kp,lr,x,y,rfl⟩
  rw[cR,eB]at lr;exact⟨oP Z',M',.refl,q r1 r2 r3 M' (λb c h=>kp b c (λz=>by rw[z,nr]at h;cases h) (k6 b c h)) (kp.lst n1 f1) (kp.lst n2 f2) lr⟩
theorem BE(x:Array Nat):∀(n:Nat) (acc:Array Nat),((List.replicate n x).foldl (·++·) acc).toList=acc.toList++(List.replicate n x.toList).flatten
 | 0,acc=>by simp
 | n+1,acc=>by rw[eh,fQ,BE x n (acc++x),eh,fG,iT,eN]
theorem Gp(c:Nat):∀n:Nat,(List.replicate n [c]).flatten=List.replicate n c
 | 0=>rfl
 | n+1=>by rw[eh,fG,Gp c n,eh];rfl
def Do(i n:Int):(yD (tO i) n).cps.toList=List.replicate n.toNat (97+i.toNat):=by show((List.replicate n.toNat (tO i).cps).foldl (·++·) #[]:Array Nat).toList=_;rw[BE];show[]++(List.replicate n.toNat [97+i.toNat]).flatten=_;rw[dX,Gp]
def yd(s v:Int):(xC s v).cps.toList=List.replicate (tU s).toNat (97+(s / 36 % 26).toNat)++(97+((s / 936+v) % 26).toNat)::List.replicate (size s - 1 - tU s).toNat (97+(s / 36 % 26).toNat):=by show((yD (tO (s / 36 % 26)) (tU s)).cps++(tO ((s / 936+v) % 26)).cps++(yD (tO (s / 36 % 26)) (size s - 1 - tU s)).cps).toList=_;rw[iT,iT,Do,Do];show _++[97+((s / 936+v) % 26).toNat]++_=_;rw[eN];rfl
def BO(s v:Int):1<=(xC s v).length/\(xC s v).length<=6:=by
 have e:(xC s v).length=(xC s v).cps.toList.length:=by simp[Str.length]
 rw[e,yd,cU,dY,iF,iF];have h1:=Gu s;have h2:=Jx s;have h3:0<=tU s:=eL _ (by lia);have h4:tU s<size s:=eJ _ h1;lia
def Mw{i:Int}(h0:0<=i)(h1:i<26):CN ⟨#[97+i.toNat]⟩ tT=Db:=by
 obtain⟨n,rfl⟩:=d4 h0;have hn:n<26:=by lia
 have key:∀n:_root_.Fin 26,CN ⟨#[97+n.val]⟩ tT=Db:=by decide+kernel
 exact key ⟨n,hn⟩
def DD(s v:Int):ug (xC s v)=Db:=by
 obtain⟨h1,h2⟩:=BO s v;unfold ug;rw[dI (show(1:Int)<=(xC s v).length by lia),dI (show((xC s v).length:Int)<=6 by lia),eG,eG,eS];intro c hc;rw[yd]at hc;have k1:=Mw (eL (s / 36) (show(26:Int)≠0 by decide)) (eJ (s / 36) (by decide));have k2:=Mw (eL (s / 936+v) (show(26:Int)≠0 by decide)) (eJ (s / 936+v) (by decide));rcases dM.mp hc with z|z
 .rw[jF z];exact k1
 .rcases dg.mp z with z|z
  .rw[z];exact k2
  .rw[jF z];exact k1
def BS{s u v:Int}(hu:0<=u)(hu':u<26)(hv:0<=v)(hv':v<26)(e:xC s u=xC s v):u=v:=by
 have e':(xC s u).cps.toList=(xC s v).cps.toList:=by rw[e]
 rw[yd,yd]at e';have:=(List.append_cancel_left e');have:=(gF this).1;have a1:=eL (s / 936+u) (show(26:Int)≠0 by decide);have a2:=eL (s / 936+v) (show(26:Int)≠0 by decide);have h:(s / 936+u) % 26=(s / 936+v) % 26:=by lia
 lia
def Eh{ss:QQQ}{x:Str}(h:x∈ss):xT ss x:=fM.mpr ⟨x,h,by simp⟩
def Bj{row:QQQ}{i:Int}(h0:0<=i)(h1:i<row.length):CC row i∈row:=by
 obtain⟨n,rfl⟩:=d4 h0;have hn:n<row.length:=by lia
 have:CC row (n:Int)=row[n]:=by simp[CC,hn]
 rw[this];exact ia hn
def IL{row:QQQ}{i j:Int}(nd:row.Nodup)(h0:0<=i)(h1:i<row.length)(g0:0<=j)(g1:j<row.length)(e:CC row i=CC row j):i=j:=by
 obtain⟨n,rfl⟩:=d4 h0;obtain⟨k,rfl⟩:=d4 g0;have hn:n<row.length:=by lia
 have hk:k<row.length:=by lia
 have e1:CC row (n:Int)=row[n]:=by simp[CC,hn]
 have e2:CC row (k:Int)=row[k]:=by simp[CC,hk]
 rw[e1,e2]at e;have pw:=jq.mp nd;rcases Nat.lt_trichotomy n k with z|z|z
 .exact absurd e (pw n k hn hk z)
 .rw[z]
 .exact absurd e.symm (pw k n hk hn z)
def zQ{α:Type}(f:Nat->α)(n:Nat)(h:∀i j,i<n->j<n->f i=f j->i=j):((List.range n).map f).Nodup:=by refine jq.mpr λi j hi hj Xl e=>?_;rw[cR,eB]at hi hj;rw[lG,lG,kN,kN]at e;have:=h i j hi hj e;lia
def Ca{row:QQQ}{c m:Int}(hr:row≠[])(hm:0<m):1<=wZ row c m/\(wZ row c m:Int)<=m/\wZ row c m<=row.length:=by
 have hl:0<row.length:=fi.mpr hr;have d0:=qG (c:=c) (f:=40692) (m:=if (row.length:Int)<m then(row.length:Int)else m) (by split<;>lia);have d1:=qA (c:=c) (f:=40692) (m:=if (row.length:Int)<m then(row.length:Int)else m) (by split<;>lia);unfold wZ;by_cases h:(row.length:Int)<m
 .rw[cX h]at d0 d1 ⊢;lia
 .rw[cW h]at d0 d1 ⊢;lia
def Cz{row:QQQ}{c:Int}(hr:row≠[])(j:Nat):0<=(qd c 69621 row.length+(0+(j:Nat))) % (row.length:Int)/\(qd c 69621 row.length+(0+(j:Nat))) % (row.length:Int)<row.length:=by have hl:0<row.length:=fi.mpr hr;exact⟨eL _ (by lia),eJ _ (by lia)⟩
def JD{d n i j:Int}(hn:0<n)(hi:0<=i)(Y5:i<n)(hj:0<=j)(hj':j<n)(e:(d+i) % n=(d+j) % n):i=j:=by
 have h1:=j3 (d+i) n;have h2:=j3 (d+j) n;generalize (d+i) / n=a at h1;generalize (d+j) / n=b at h2;have h3:i - j=n*(a - b):=by rw[Int.mul_sub];lia
 rcases Int.lt_trichotomy (a - b) 0 with z|z|z
 .have:n*(a - b)<=n*(-1):=iQ (by lia) (by lia);lia
 .rw[z]at h3;lia
 .have:n*1<=n*(a - b):=iQ (by lia) (by lia);lia
def HB{row:QQQ}{c m:Int}(nd:row.Nodup)(hr:row≠[])(hm:0<m):(vG row c m).Nodup:=by have hl:0<row.length:=fi.mpr hr;obtain⟨_,_,l3⟩:=Ca (c:=c) hr hm;refine zQ _ _ λi j hi hj e=>?_;obtain⟨a0,a1⟩:=Cz (c:=c) hr i;obtain⟨b0,b1⟩:=Cz (c:=c) hr j;have e':=IL nd a0 a1 b0 b1 e;have:=JD (d:=qd c 69621 row.length) (n:=row.length) (i:=0+(i:Nat)) (j:=0+(j:Nat)) (by lia) (by lia) (by lia) (by lia) (by lia) e';lia
def xE{row:QQQ}{c m k:Int}(nd:row.Nodup)(hr:row≠[])(hm:0<m)(hk:m<=k):se (vG row c m) row k=Db:=by
 obtain⟨l1,l2,l3⟩:=Ca (c:=c) hr hm;have el:(vG row c m).length=wZ row c m:=by unfold vG;rw[cR,eB]
 unfold se;rw[el,dI (show(1:Int)<=wZ row c m by lia),dI (show(wZ row c m:Int)<=k by lia),D6 (HB nd hr hm),eG,eG,eG,eS];intro x hx;unfold vG at hx;obtain⟨j,_,rfl⟩:=dw.mp hx;obtain⟨a0,a1⟩:=Cz (c:=c) hr j;exact Eh (Bj a0 a1)
def Bz{row:QQQ}{c m:Int}(hr:row≠[])(hm:0<m)(h:m<=100):(vG row c m).length<4000:=by
 obtain⟨l1,l2,l3⟩:=Ca (c:=c) hr hm;have el:(vG row c m).length=wZ row c m:=by unfold vG;rw[cR,eB]
 lia
def Qa{c:Int}{own all:QQQ}(no:own.Nodup)(na:all.Nodup)(ho:own≠[])(ha:2<=all.length):Ci own all (wc c own all):=by
 have hl:(0:Int)<own.length:=by have:=fi.mpr ho;lia
 have ha0:all≠[]:=λz=>by rw[z]at ha;simp at ha
 have hx:=Eh (Bj (qG (c:=c) (f:=16807) hl) (qA (c:=c) (f:=16807) hl));have p0:=qG (c:=c) (f:=39373) (m:=all.length) (by lia);have p1:=qA (c:=c) (f:=39373) (m:=all.length) (by lia);have e0:=qG (c:=c) (f:=742938285) (m:=(all.length:Int) - 1) (by lia);have e1:=qA (c:=c) (f:=742938285) (m:=(all.length:Int) - 1) (by lia);have z0:=eL (qd c 39373 all.length+1+qd c 742938285 ((all.length:Int) - 1)) (show(all.length:Int)≠0 by lia);have z1:=eJ (qd c 39373 all.length+1+qd c 742938285 ((all.length:Int) - 1)) (show(0:Int)<all.length by lia);have hy:=Eh (Bj p0 p1);have hzz:=Eh (Bj z0 z1);have ne:CC all (qd c 39373 all.length)≠CC all ((qd c 39373 all.length+1+qd c 742938285 ((all.length:Int) - 1)) % all.length):=λz=>by
  have q:=IL na p0 p1 z0 z1 z;have q2:(qd c 39373 all.length+0) % (all.length:Int)=(qd c 39373 all.length+(1+qd c 742938285 ((all.length:Int) - 1))) % (all.length:Int):=by rw[lY,Int.emod_eq_of_lt p0 p1,<-Int.add_assoc];exact q
  have:=JD (by lia) (by lia) (by lia) (by lia) (by lia) q2;lia
 have f0:=qG (c:=c) (f:=22695477) (m:=24) (by decide);have f1:=qA (c:=c) (f:=22695477) (m:=24) (by decide);have g0:=qG (c:=c) (f:=48271) (m:=23) (by decide);have g1:=qA (c:=c) (f:=48271) (m:=23) (by decide);have t0:=qG (c:=c) (f:=950706376) (m:=5) (by decide);have t1:=qA (c:=c) (f:=950706376) (m:=5) (by decide);unfold wc;simp only;split
 .exact⟨hx,Bz ha0 (by decide) (by decide),xE na ha0 (by decide) (by decide)⟩
 .split
  .exact⟨hy,Bz ho (by decide) (by decide),xE no ho (by decide) (by decide)⟩
  .split
   .exact⟨hy,hzz,ne⟩
   .split
    .refine⟨hy,hzz,ne,⟨f0,by lia⟩,⟨eL _ (by decide),?_⟩,?_⟩
     .have:=eJ (qd c 22695477 24+1+qd c 48271 23) (show(0:Int)<24 by decide);lia
     .omega
    .split
     .exact⟨hy,hzz,ne⟩
     .split
      .refine⟨hy,hzz,ne,?_⟩;generalize qd c 950706376 5=d at t0 t1;have:d=0\/d=1\/d=2\/d=3\/d=4:=by lia
       rcases this with z|z|z|z|z<;>(subst z;decide)
      .split
       .exact hx
       .exact hx
def LF(s:Int)(i:Nat):Fg (vM s i):=by
 have t0:=qG (c:=s+17*(0+(i:Nat))*(0+(i:Nat))) (f:=16807) (m:=5) (by decide);have t1:=qA (c:=s+17*(0+(i:Nat))*(0+(i:Nat))) (f:=16807) (m:=5) (by decide);have u0:=qG (c:=s+17*(0+(i:Nat))*(0+(i:Nat))) (f:=39373) (m:=6) (by decide);have u1:=qA (c:=s+17*(0+(i:Nat))*(0+(i:Nat))) (f:=39373) (m:=6) (by decide);have a:1<=(vM s i).2.1/\(vM s i).2.1<=3:=by
  show 1<=GI Qi (qd (s+17*(0+(i:Nat))*(0+(i:Nat))) 16807 5)/\GI Qi (qd (s+17*(0+(i:Nat))*(0+(i:Nat))) 16807 5)<=3;generalize qd (s+17*(0+(i:Nat))*(0+(i:Nat))) 16807 5=d at t0 t1;have:d=0\/d=1\/d=2\/d=3\/d=4:=by lia
  rcases this with z|z|z|z|z<;>(subst z;decide)
 have b:0<=(vM s i).2.2/\(vM s i).2.2<=9:=by
  show 0<=GI P3 (qd (s+17*(0+(i:Nat))*(0+(i:Nat))) 39373 6)/\GI P3 (qd (s+17*(0+(i:Nat))*(0+(i:Nat))) 39373 6)<=9;generalize qd (s+17*(0+(i:Nat))*(0+(i:Nat))) 39373 6=d at u0 u1;have:d=0\/d=1\/d=2\/d=3\/d=4\/d=5:=by lia
  rcases this with z|z|z|z|z|z<;>(subst z;decide)
 exact⟨dS (BO s (0+(i:Nat))).2 (by decide),DD _ _,a.1,a.2,b.1,b.2⟩
def Mr{s:Int}{own:QQQ}(nd:own.Nodup)(hr:own≠[])(i:Nat):Ew own (zR s own i):=by
 have t0:=qG (c:=s+5*(0+(i:Nat))) (f:=742938285) (m:=2) (by decide);have t1:=qA (c:=s+5*(0+(i:Nat))) (f:=742938285) (m:=2) (by decide);refine⟨dS (BO s (8+(0+(i:Nat)))).2 (by decide),DD _ _,?_,Bz hr (by decide) (by decide),xE nd hr (by decide) (by decide)⟩;show CC Ou (qd (s+5*(0+(i:Nat))) 742938285 2)="all"\/CC Ou (qd (s+5*(0+(i:Nat))) 742938285 2)="turns";generalize qd (s+5*(0+(i:Nat))) 742938285 2=d at t0 t1;have:d=0\/d=1:=by lia
 rcases this with z|z
 .subst z;exact .inl Z'
 .subst z;exact .inr Z'
def LM(s m:Int):(qp s m).map (·.1)=(List.range (rG s m)).map λi=>xC s (0+(i:Nat)):=by unfold qp;rw[dU];rfl
def Gh{s m:Int}(h2:2<=m)(h8:m<=8):((qp s m).map (·.1)).Nodup/\∀own,((qp s m).map (·.1)++(qU s own).map (·.1)).Nodup:=by
 have d1:=qA (c:=s) (f:=48271) (m:=m - 1) (by lia);have d0:=qG (c:=s) (f:=48271) (m:=m - 1) (by lia);have p8:rG s m<=8:=by unfold rG;lia
 have g3:=wU (s:=s);have a:((qp s m).map (·.1)).Nodup:=by rw[LM];refine zQ _ _ λi j hi hj e=>?_;have:=BS (by lia) (by lia) (by lia) (by lia) e;lia
 refine⟨a,λown=>?_⟩;have ge:(qU s own).map (·.1)=(List.range (vt s)).map λi=>xC s (8+(0+(i:Nat))):=by unfold qU;rw[dU];rfl
 rw[gk];refine⟨a,?_,λx hx y hy e=>?_⟩
 .rw[ge];refine zQ _ _ λi j hi hj e=>?_;have:=BS (by lia) (by lia) (by lia) (by lia) e;lia
 .rw[LM]at hx;rw[ge]at hy;obtain⟨i,hi,rfl⟩:=dw.mp hx;obtain⟨j,hj,rfl⟩:=dw.mp hy;have hi:=gc.mp hi;have hj:=gc.mp hj;have:=BS (by lia) (by lia) (by lia) (by lia) e;lia
def OZ{m:Int}(h2:2<=m)(h8:m<=8):qR (CK ns m):=by
 obtain⟨n1,n2⟩:=Gh (s:=cell ns 0) h2 h8;have pl:=yT (s:=cell ns 0) h2 (by lia);have p8:rG (cell ns 0) m<=8:=by have d1:=qA (c:=cell ns 0) (f:=48271) (m:=m - 1) (by lia);unfold rG;lia
 have lp:(qp (cell ns 0) m).length=rG (cell ns 0) m:=by unfold qp;rw[cR,eB]
 have ol:((qp (cell ns 0) m).map (·.1)).length=rG (cell ns 0) m:=by rw[cR,lp]
 have one:(qp (cell ns 0) m).map (·.1)≠[]:=λz=>by rw[z]at ol;have:0=rG (cell ns 0) m:=ol;lia
 have gl:(qU (cell ns 0) ((qp (cell ns 0) m).map (·.1))).length=vt (cell ns 0):=by unfold qU;rw[cR,eB]
 refine⟨?_,?_,λp hp=>?_,?_,λg hg=>?_,n2 _,?_,λv hv=>?_⟩
 .show 1<=(qp (cell ns 0) m).length;lia
 .show(qp (cell ns 0) m).length<=8;lia
 .obtain⟨i,_,rfl⟩:=dw.mp hp;exact LF _ i
 .show(qU (cell ns 0) ((qp (cell ns 0) m).map (·.1))).length<=3;rw[gl];exact wU
 .obtain⟨i,_,rfl⟩:=dw.mp hg;exact Mr n1 one i
 .show((List.range (wR (cell ns 0))).map _).length<=16;rw[cR,eB];have d1:=qA (c:=cell ns 0) (f:=950706376) (m:=11) (by decide);unfold wR;lia
 .obtain⟨i,hi,rfl⟩:=dw.mp hv;refine Qa n1 (n2 _) one ?_;show 2<=((qp (cell ns 0) m).map (·.1)++_).length;rw[cU,ol];lia
structure oX where
 st:Str
 cr:Str
 way:QQQ
 at_:QQQ
 ms:QQQ
 hd:Option Str
 si:Int
 wd:Option Str
structure rh where
 i:Nat
 f:Str
 g:Str
 y:Str
inductive Ev
 | new (n:Nat) (x:Str)
 | leg (v:rh)
 | asks (i:Nat) (z:Str) (ns:List Nat)
 | next (z:Str) (n:Int)
 | merge (i j:Nat) (ms:QQQ)
 | turn
 | sw (b:Bool) (i:Nat)
 | rings (i:Nat) (ps:QQQ)
 | quiet (i:Nat)
 | waits (i:Nat) (x:Str)
 | talks (i:Nat) (ms:QQQ)
 | held (i:Nat) (x:Str)
 | leaves (i:Nat) (x:Str)
 | over (i:Nat) (w:Str)
structure qc where
 p:lf
 h:Int
 t:Int
 calls:List oX
 mC:List rh
 ps:List (Str×Int)
 on:List Bool
 log:List Ev
 fo:QXQ
noncomputable def xx(ns:T0 Nat):D:=.tup (ns.map λn=>D.int (n:Nat))
noncomputable def rh.d(v:rh):D:=.tup [.int (v.i:Nat),.str v.f,.str v.g,.str v.y]
noncomputable def UE(b:Bool):Str:=if b=Db then "on" else "off"
def Ev.d:Ev->D
 | .new n x=>.tup [.str "new",.int (n:Nat),.str x]
 | .leg v=>.tup [.str "leg",.int (v.i:Nat),.str v.f,.str v.g,.str v.y]
 | .asks i z ns=>.tup [.str "asks",.int (i:Nat),.str z,xx ns]
 | .next z n=>.tup [.str "next",.str z,.int n]
 | .merge i j ms=>.tup [.str "merge",.int (i:Nat),.int (j:Nat),names ms]
 | .turn=>.tup [.str "turn"]
 | .sw b i=>.tup [.str (UE b),.int (i:Nat)]
 | .rings i ps=>.tup [.str "rings",.int (i:Nat),names ps]
 | .quiet i=>.tup [.str "quiet",.int (i:Nat)]
 | .waits i x=>.tup [.str "waits",.int (i:Nat),.str x]
 | .talks i ms=>.tup [.str "talks",.int (i:Nat),names ms]
 | .held i x=>.tup [.str "held",.int (i:Nat),.str x]
 | .leaves i x=>.tup [.str "leaves",.int (i:Nat),.str x]
 | .over i w=>.tup [.str "over",.int (i:Nat),.str w]
noncomputable def hasS(ss:QQQ)(x:Str):Bool:=ss.any (·==x)
noncomputable def r6(ss:QQQ)(x:Str):QQQ:=ss.filter λy=>!(y==x)
noncomputable def xW(x:Str):oX:=⟨"rings",x,[],[],[],Fa,0,Fa⟩
noncomputable def oX.over(c:oX)(w:Str):oX:={c with st:="over",wd:=some w,at_:=[],ms:=[],hd:=none}
def oX.drop(c:oX)(x:Str):oX:={c with at_:=r6 c.at_ x,ms:=r6 c.ms x}
noncomputable def oX.ring(c:oX)(ps:QQQ):oX:={c with st:="rings",at_:=ps,si:=0}
noncomputable def oX.mR(c:oX)(ms:QQQ):oX:={c with st:="talks",ms:=ms,at_:=[],hd:=none}
noncomputable def oX.wait(c:oX)(x:Str):oX:={c with st:="waits",at_:=[x]}
noncomputable def oX.hold(c:oX)(x:Str):oX:={c with st:="held",hd:=some x}
noncomputable def oX.mS(c:oX):oX:={c with at_:=[]}
noncomputable def oX.mem(c:oX)(ms:QQQ):oX:={c with ms:=ms}
noncomputable def oX.go(c:oX)(g:Str):oX:={c with way:=c.way++[g]}
noncomputable def oX.tick(c:oX):oX:=if (c.st=="rings")=Db then{c with si:=c.si+1}else c
noncomputable def rh.to(m k:Nat)(v:rh):rh:=if v.i=m then{v with i:=k}else v
noncomputable def Ct(ps:T0 (Str×Int))(z:Str)(n:Int):T0 (Str×Int):=if ps.any (λp=>decide (p.1=z))=Db then ps.map (λp=>if p.1=z then(p.1,n)else p)else ps++[(z,n)]
noncomputable def xi(V:qc)(i:Nat)(f:oX->oX):qc:={V with calls:=V.calls.modify i f}
noncomputable def qB(V:qc)(e:Ev):qc:={V with log:=V.log++[e]}
def Uu(V:qc):Ev->qc
 | .new _ x=>{V with calls:=V.calls++[xW x]}
 | .leg v=>{V with mC:=V.mC++[v],calls:=V.calls.modify v.i (·.go v.g)}
 | .asks _ _ _=>V
 | .next z n=>{V with ps:=Ct V.ps z n}
 | .merge i j ms=>{V with calls:=(V.calls.modify i (·.over "merged")).modify j (·.mem ms),mC:=V.mC.map (rh.to i j)}
 | .turn=>{V with t:=V.t+1,calls:=V.calls.map oX.tick}
 | .sw b i=>{V with on:=V.on.set i b}
 | .rings i ps=>xi V i (·.ring ps)
 | .quiet i=>xi V i oX.mS
 | .waits i x=>xi V i (·.wait x)
 | .talks i ms=>xi V i (·.mR ms)
 | .held i x=>xi V i (·.hold x)
 | .leaves i x=>xi V i (·.drop x)
 | .over i w=>xi V i (·.over w)
def pM(V:qc)(e:Ev):qc:=Uu (qB V e) e
def qr(V:qc)(es:T0 Ev):qc:=es.foldl pM V
def Ev.ok(V:qc):Ev->Prop
 | .new _ _=>True
 | .leg v=>v.i<V.calls.length
 | .asks _ _ _=>True
 | .next _ _=>True
 | .merge i j ms=>i<V.calls.length/\j<V.calls.length/\i≠j/\ms.length<=100
 | .turn=>True
 | .sw _ i=>i<V.on.length
 | .rings i ps=>i<V.calls.length/\ps.length<=100
 | .quiet i=>i<V.calls.length
 | .waits i _=>i<V.calls.length
 | .talks i ms=>i<V.calls.length/\ms.length<=100
 | .held i _=>i<V.calls.length
 | .leaves i _=>i<V.calls.length
 | .over i _=>i<V.calls.length
def rC(V:qc)(es fs:T0 Ev):qr V (es++fs)=qr (qr V es) fs:=iD ..
theorem zD:∀(es:T0 Ev) (V:qc),(qr V es).log=V.log++es
 | [],V=>(eD _).symm
 | e::r,V=>by
  show(qr (pM V e) r).log=_;rw[zD r];have:(pM V e).log=V.log++[e]:=by cases e<;>rfl
  rw[this,eN];rfl
def oX.mE(c:oX)(x:Str):Bool:=(c.st=="talks")&&hasS c.ms x
def oX.hasB(c:oX)(x:Str):Bool:=if (c.st=="rings")=Db then(x==c.cr)||hasS c.at_ x else if (c.st=="waits")=Db then x==c.cr else(c.st=="talks"||c.st=="held")&&hasS c.ms x
def oX.mM(c:oX)(x:Str):Bool:=if (c.st=="held")=Db then hasS c.ms x&&!((c.hd==ga x))else c.mE x
noncomputable def oX.mF(c:oX)(x:Str):Bool:=(c.st=="rings"||c.st=="waits")&&(x==c.cr)
def oX.my(c:oX)(x:Str):Bool:=(c.st=="waits")&&hasS c.at_ x
def oX.mX(c:oX)(x:Str):Bool:=c.mF x||(hasS c.at_ x||hasS c.ms x)
noncomputable def oX.mG(c:oX)(x:Str):Bool:=c.mE x&&(c.ms.length==2)
noncomputable def uN(V:qc)(x:Str):Nat:=(V.calls.filter (·.hasB x)).length
noncomputable def wu(l:pf)(x:Str):Int:=(l.mK x).elim 0 λv=>v.2.1
noncomputable def vE(l:pf)(x:Str):Int:=(l.mK x).elim 0 λv=>v.2.2
def tH(l:pf)(V:qc)(x:Str):Bool:=decide ((uN V x:Int)<wu l x)
def ud(l:pf)(V:qc)(c z:Str):QQQ:=(l.mi z).filter λx=>!(x==c)&&tH l V x
def xM(l:pf)(V:qc)(c z:Str):Bool:=(ud l V c z).isEmpty
noncomputable def vA(V:qc)(x:Str):Option Nat:=V.calls.findIdx? (·.mE x)
noncomputable def Ft(V:qc)(x:Str):Option Nat:=V.calls.findIdx? (·.mM x)
noncomputable def Iq(V:qc)(x:Str):Option Nat:=V.calls.findIdx? (·.mF x)
noncomputable def Az(V:qc)(x:Str):Bool:=V.calls.any (·.my x)
noncomputable def PN:Option Nat->D
 | none=>.mx
 | some j=>.int (j:Nat)
noncomputable def FK(f l h:Int):Bool:=if f<l then decide (f<=h)&&decide (h<l)else decide (h>=f)||decide (h<l)
def Hh(l:pf)(x:Str)(ms:QQQ):Bool:=ms.all λm=>decide (vE l m<vE l x)
def Hj(l:pf)(V:qc)(x c z:Str):Bool:=if (!(c==x)||(z==x))=Db then pc else if (!(hasS l.pn z)||!(xM l V c z))=Db then pc else((vA V z).bind (V.calls[·]?)).elim pc λk=>(k.ms.length==2)&&Hh l x k.ms
def AW(l:pf)(V:qc)(c z:Str):Wi->Bool
 | .bar x ns=>(c==x)&&hasS ns z
 | .shut x ns=>(z==x)&&hasS ns c
 | .always x _=>z==x
 | .night x _ f m=>(z==x)&&FK f m ((V.h+V.t) % 24)
 | .busy x _=>(z==x)&&xM l V c z
 | .silent _ _ _=>pc
 | .wait x=>if (!(z==x)||(c==x))=Db then pc else xM l V c z&&!(Az V z)
 | .breaks x=>Hj l V x c z
noncomputable def G1(c:oX):Wi->Bool
 | .silent x _ n=>(c.way.getLast?==ga x)&&decide (n<=c.si)
 | _=>pc
noncomputable def Hg(l:pf)(V:qc)(f:Wi->Bool):T0 Nat:=(List.range V.on.length).filter λi=>V.on.getD i pc&&(l.mo[i]?).elim pc λw=>f w.2
def DL(l:pf)(V:qc)(c z:Str):T0 Nat:=Hg l V (AW l V c z)
noncomputable def uI(ms:QQQ)(n:Nat):QQQ:=ms.drop n++ms.take n
noncomputable def zL(V:qc)(z:Str):Nat:=((V.ps.find? λp=>decide (p.1=z)).elim 0 λp=>p.2).toNat
def xo(l:pf)(V:qc)(c z:Str):QQQ:=if (l.mz z=="turns")=Db then((uI (l.mi z) (zL V z)).filter λx=>hasS (ud l V c z) x).take 1 else ud l V c z
inductive uU
 | engaged (z:Str)
 | rings (z:Str) (ps:QQQ)
 | waits (z:Str)
 | breaks (z:Str)
 | barred
 | ring (ns:QQQ)
noncomputable def uU.d:uU->D
 | .engaged z=>.tup [.str "engaged",.str z]
 | .rings z ps=>.tup [.str "rings",.str z,names ps]
 | .waits z=>.tup [.str "waits",.str z]
 | .breaks z=>.tup [.str "breaks",.str z]
 | .barred=>.tup [.str "barred"]
 | .ring ns=>.tup [.str "ring",names ns]
def He(l:pf)(V:qc)(c z:Str):uU:=match xo l V c z with
 | []=>.engaged z
 | x::r=>.rings z (x::r)
noncomputable def Jz(z:Str):Wi->Sum uU Str
 | .bar _ _=>.inl .barred
 | .shut _ _=>.inl .barred
 | .always _ y=>.inr y
 | .night _ y _ _=>.inr y
 | .busy _ y=>.inr y
 | .silent _ y _=>.inr y
 | .wait _=>.inl (.waits z)
 | .breaks _=>.inl (.breaks z)
abbrev sI:=T0 (Str×T0 Nat)
def wG(l:pf)(V:qc)(c:Str):Nat->Str->QQQ->sI->uU×sI
 | 0,_,_,st=>(.barred,st)
 | n+1,z,way,st=>if hasS way z=Db then(.ring (way.drop (way.findIdx (·==z))),st)else
  match DL l V c z with
  | []=>(He l V c z,st++[(z,[])])
  | i::r=>(l.mo[i]?).elim (.barred,st) λw=>match Jz z w.2 with
   | .inl e=>(e,st++[(z,i::r)])
   | .inr y=>wG l V c n y (way++[z]) (st++[(z,i::r)])
def uk(l:pf)(V:qc)(c z:Str)(way:QQQ):uU×sI:=wG l V c (l.nm.length+1) z way []
noncomputable def qQ(i:Nat):Option Str->sI->T0 Ev
 | _,[]=>[]
 | none,(z,fs)::r=>.asks i z fs::qQ i (ga z) r
 | some y,(z,fs)::r=>.leg ⟨i,y,z,y⟩::.asks i z fs::qQ i (ga z) r
noncomputable def PX(ms:QQQ)(x:Str):Int:=((ms.findIdx (·==x):Nat)+1) % (ms.length:Int)
def rP(l:pf)(V:qc)(i:Nat):uU->T0 Ev
 | .rings z ps=>(if (l.mz z=="turns")=Db then[.next z (PX (l.mi z) (ps.headD Str.empty))]else[])++[.rings i ps]
 | .waits z=>[.waits i z]
 | .breaks z=>match vA V z,V.calls[i]? with
  | some j,ga c=>[.merge i j ((V.calls[j]?).elim [] (·.ms)++[c.cr])]
  | _,_=>[]
 | .engaged _=>[.over i "engaged"]
 | .barred=>[.over i "barred"]
 | .ring _=>[.over i "ring"]
noncomputable def sD(i:Nat)(st:sI):uU->T0 Ev
 | .ring ns=>(st.getLast?).elim [] λs=>[.leg ⟨i,s.1,ns.headD Str.empty,s.1⟩]
 | _=>[]
def uK(l:pf)(V:qc)(i:Nat):T0 Ev:=(V.calls[i]?).elim [] λc=>
 let r:=uk l V c.cr (c.way.getLastD Str.empty) c.way.dropLast
 qQ i Fa r.2++(sD i r.2 r.1++rP l V i r.1)
def Ef(l:pf)(V:qc)(y z:Str):T0 Ev:=
 let es:=[Ev.new V.calls.length y,.leg ⟨V.calls.length,y,z,y⟩]
 es++uK l (qr V es) V.calls.length
def uS(V:qc)(x:Str)(i:Nat):T0 Ev:=(V.calls[i]?).elim [] λc=>if c.mF x=Db then[.over i "left"]else if hasS c.at_ x=Db then .leaves i x::(if r6 c.at_ x=[]then[.over i "refused"]else[])else if 2<c.ms.length then[.leaves i x]else[.over i "done"]
def sF(l:pf)(V:qc)(i:Nat)(fs:T0 Nat):T0 Ev:=match fs.head?.bind (l.mo[·]?)with
 | some (_,.silent x y _)=>
  let es:=[Ev.asks i x fs,.quiet i,.leg ⟨i,x,y,x⟩]
  es++uK l (qr V es) i
 | _=>[]
def yk(l:pf)(V:qc)(i:Nat):T0 Nat:=(V.calls[i]?).elim [] λc=>if (c.st=="rings")=Db then Hg l V (G1 c)else[]
def qH(l:pf):T0 Nat->qc->T0 Ev
 | [],_=>[]
 | i::r,V=>sF l V i (yk l V i)++qH l r (qr V (sF l V i (yk l V i)))
def E7(l:pf)(V:qc):T0 Ev:=.turn::qH l (List.range V.calls.length) (pM V .turn)
inductive tI
 | call (y z:Str)
 | num (w x:Str) (ns:List Int)
 | turn
 | sw (b:Bool) (i:Int)
def tI.d:tI->D
 | .call y z=>.tup [.str "call",.str y,.str z]
 | .num w x ns=>.tup (.str w::.str x::ns.map D.int)
 | .turn=>.tup [.str "turn"]
 | .sw b i=>.tup [.str (UE b),.int i]
def tI.mP:tI->Prop
 | .num w _ ns=>((w="answer"\/w="hang"\/w="hold"\/w="back")/\ns.length=1)\/((w="hand"\/w="join")/\ns.length=2)
 | _=>True
def um(V:qc)(x:Str):Option Str:=if (Ft V x).isSome=Db then ga "bound" else if (Iq V x).isSome=Db then ga "calls" else Fa
noncomputable def zc(n:Nat)(i:Int):Bool:=decide (0<=i)&&decide (i<(n:Int))
def ID(w x:Str):List oX->Bool
 | []=>pc
 | c::r=>if (w=="answer")=Db then hasS c.at_ x else if (w=="hang")=Db then c.mX x else if (w=="hold")=Db then c.mG x else if (w=="back")=Db then c.hd==ga x else(c.hd==ga x)&&(r.head?.elim pc λd=>d.mG x)
noncomputable def tw(V:qc)(ns:T0 Int):List oX:=ns.filterMap λi=>V.calls[i.toNat]?
def Gf(l:pf)(V:qc)(y z:Str):Option Str:=if hasS l.nm z=pc then ga "name" else if ((um V y).isNone&&!(tH l V y))=Db then ga "full" else um V y
def MK(l:pf)(V:qc)(w x:Str)(ns:T0 Int):Option Str:=if ns.all (zc V.calls.length)=pc then ga "call" else if ID w x (tw V ns)=pc then ga "call" else if (w=="answer"||w=="back")=pc then Fa else
 if ((um V x).isNone&&((tw V ns).head?.elim pc (λc=>c.my x)&&!(tH l V x)))=Db then ga "full" else um V x
def OK(V:qc)(b:Bool)(i:Int):Option Str:=if zc V.on.length i=pc then ga "wish" else if (V.on.getD i.toNat pc==b)=Db then ga "wish" else Fa
def xf(l:pf)(V:qc):tI->Option Str
 | .turn=>Fa
 | .sw b i=>OK V b i
 | .call y z=>if hasS l.pn y=pc then ga "name" else Gf l V y z
 | .num w x ns=>if hasS l.pn x=pc then ga "name" else MK l V w x ns
def qm(c:oX)(x:Str):Str:=(r6 c.ms x).headD Str.empty
noncomputable def AK(V:qc)(w x:Str)(i:Nat):Ev:=(V.calls[i]?).elim .turn λc=>if (w=="answer")=Db then .talks i [c.cr,x]else if (w=="hold")=Db then .held i x else .talks i c.ms
def Eb(V:qc)(w x:Str)(i j:Nat):Ev:=(V.calls[i]?).elim .turn λc=>(V.calls[j]?).elim .turn λd=>.merge i j (if (w=="hand")=Db then[qm c x,qm d x]else[x,qm c x,qm d x])
def tS(l:pf)(V:qc):tI->T0 Ev
 | .call y z=>Ef l V y z
 | .num w x [i]=>if (w=="hang")=Db then uS V x i.toNat else[AK V w x i.toNat]
 | .num w x [i,j]=>[Eb V w x i.toNat j.toNat]
 | .num _ _ _=>[]
 | .turn=>E7 l V
 | .sw b i=>[.sw b i.toNat]
structure rA where
 p:lf
 wy:lf
structure tR where
 b:lf
 ca:lf
 le:lf
 nx:lf
 on:lf
 lo:lf
 cs:List rA
noncomputable def Gi:Option Str->D
 | none=>.mx
 | some x=>.str x
def qZ(c:oX)(wy ad md:lf):T0 (Str×D):=[("state",.str c.st),("caller",.str c.cr),("way",.ref wy),("at",.ref ad),("members",.ref md),("holder",Gi c.hd),("since",.int c.si),("word",Gi c.wd)]
noncomputable def tF(p:D)(h t:Int)(ca le nx on lo:lf):T0 (Str×D):=[("plan",p),("hour",.int h),("turn",.int t),("calls",.ref ca),("legs",.ref le),("nexts",.ref nx),("on",.ref on),("log",.ref lo)]
noncomputable def sZ(ps:T0 (Str×Int)):T0 (qJ×D):=ps.map λp=>((Sum.inr p.1:qJ),D.int p.2)
noncomputable def tR.lists(A:tR):QXQ:=A.ca::A.le::A.on::A.lo::A.cs.map (·.wy)
noncomputable def tR.foot(A:tR):QXQ:=A.b::A.nx::(A.lists++A.cs.map (·.p))
def rM(a:Ad)(M:Mp)(L:QXQ)(k:rA)(c:oX):Prop:=CM λad md=>M k.p=ga (.ins a.e (qZ c k.wy ad md))/\nU M k.wy=ga (c.way.map D.str)/\nU M ad=ga (c.at_.map D.str)/\nU M md=ga (c.ms.map D.str)/\ad∉L/\md∉L
structure pE(a:Ad)(M:Mp)(A:tR)(V:qc):Prop where
 at_:M A.b=ga (.ins a.c (tF (.ref V.p) V.h V.t A.ca A.le A.nx A.on A.lo))
 ca:nU M A.ca=ga (A.cs.map λk=>D.ref k.p)
 le:nU M A.le=ga (V.mC.map rh.d)
 nx:xm M A.nx=ga (sZ V.ps)
 on:nU M A.on=ga (V.on.map D.bl)
 lo:nU M A.lo=ga (V.log.map Ev.d)
 len:A.cs.length=V.calls.length
 cs:∀(i:Nat) k c,A.cs[i]?=ga k->V.calls[i]?=ga c->rM a M (A.lists++V.fo) k c
 nl:A.lists.Nodup
 np:(A.b::A.cs.map (·.p)).Nodup
 fo:∀x∈V.fo,∃c,M x=ga c
def wC{F:QXQ}{M:Mp}{p:lf}{c:uQ}(h:∀x∈F,∃c,M x=ga c):∀x∈F,∃d,o9 M p c x=ga d:=λx hx=>by
 by_cases z:x=p
 .exact⟨c,by rw[z];exact pJ⟩
 .obtain⟨d,e⟩:=h x hx;exact⟨d,rg.put x d z e⟩
def rM.sub{k:rA}{c:oX}(h:rM a M L k c)(s:qu M M'):rM a M' L k c:=by obtain⟨ad,md,h1,h2,h3,h4,h5⟩:=h;exact⟨ad,md,s _ _ h1,s.lst h2,s.lst h3,s.lst h4,h5⟩
def pE.sub{A:tR}{V:qc}(h:pE a M A V)(s:qu M M'):pE a M' A V:=⟨s _ _ h.at_,s.lst h.ca,s.lst h.le,s.dk h.nx,s.lst h.on,s.lst h.lo,h.len,λi k c e1 e2=>(h.cs i k c e1 e2).sub s,h.nl,h.np,λx hx=>(h.fo x hx).imp λc e=>s x c e⟩
def rM.nE{k:rA}{c:oX}{x:lf}{ds:T0 D}(h:rM a M L k c)(kp:rg x M M')(hl:nU M x=ga ds)(hx:x∈L)(hn:k.wy≠x):rM a M' L k c:=by obtain⟨ad,md,h1,h2,h3,h4,h5,h6⟩:=h;exact⟨ad,md,kp _ _ (λz=>by rw[z,pP hl]at h1;cases h1) h1,kp.lst hn h2,kp.lst (λz=>h5 (z ▸ hx)) h3,kp.lst (λz=>h6 (z ▸ hx)) h4,h5,h6⟩
def rM.nJ{k:rA}{c:oX}{x C:lf}{fs:T0 (Str×D)}(h:rM a M L k c)(kp:rg x M M')(hi:M x=ga (.ins C fs))(hn:k.p≠x):rM a M' L k c:=by obtain⟨ad,md,h1,h2,h3,h4,h5⟩:=h;exact⟨ad,md,kp _ _ hn h1,kp.lst (pK h2 hi) h2,kp.lst (pK h3 hi) h3,kp.lst (pK h4 hi) h4,h5⟩
def uG{a p:lf}{ds:T0 (qJ×D)}{es:T0 D}(h:xm M a=ga ds)(hp:nU M p=ga es):a≠p:=λz=>by subst z;unfold xm at h;rw[pP hp]at h;cases h
def rM.oC{k:rA}{c:oX}{x:lf}{ds:T0 (qJ×D)}(h:rM a M L k c)(kp:rg x M M')(hd:xm M x=ga ds):rM a M' L k c:=by obtain⟨ad,md,h1,h2,h3,h4,h5⟩:=h;exact⟨ad,md,kp _ _ (λz=>by rw[z,wx hd]at h1;cases h1) h1,kp.lst (dQ (uG hd h2)) h2,kp.lst (dQ (uG hd h3)) h3,kp.lst (dQ (uG hd h4)) h4,h5⟩
def qW{α:Type}{l:List α}{i:Nat}{x:α}(h:l[i]?=ga x):x∈l:=eZ h
def pE.ne{A:tR}{V:qc}(h:pE a M A V):A.ca≠A.le/\A.ca≠A.on/\A.ca≠A.lo/\A.le≠A.on/\A.le≠A.lo/\A.on≠A.lo/\∀k∈A.cs,k.wy≠A.ca/\k.wy≠A.le/\k.wy≠A.on/\k.wy≠A.lo:=by
 have n:=h.nl;unfold tR.lists at n;obtain⟨n1,n⟩:=dN.mp n;obtain⟨n2,n⟩:=dN.mp n;obtain⟨n3,n⟩:=dN.mp n;obtain⟨n4,n⟩:=dN.mp n;have w:∀k∈A.cs,k.wy∈A.cs.map (·.wy):=λk hk=>dw.mpr ⟨k,hk,Z'⟩;refine⟨λz=>n1 (z ▸ by simp),λz=>n1 (z ▸ by simp),λz=>n1 (z ▸ by simp),λz=>n2 (z ▸ by simp),λz=>n2 (z ▸ by simp),λz=>n3 (z ▸ by simp),λk hk=>⟨λz=>n1 ?_,λz=>n2 ?_,λz=>n3 ?_,λz=>n4 ?_⟩⟩
 .rw[<-z];exact dz _ (dz _ (dz _ (w k hk)))
 .rw[<-z];exact dz _ (dz _ (w k hk))
 .rw[<-z];exact dz _ (w k hk)
 .rw[<-z];exact w k hk
def pE.oa{A:tR}{V:qc}(_:pE a M A V):A.ca∈A.lists/\A.le∈A.lists/\A.lo∈A.lists/\(∀k∈A.cs,k.wy∈A.lists)/\A.on∈A.lists:=by unfold tR.lists;refine⟨by simp,by simp,by simp,?_,by simp⟩;exact λk hk=>by simp;exact .inr (.inr (.inr (.inr ⟨k,hk,Z'⟩)))
def pE.ou{A:tR}{V:qc}(h:pE a M A V):A.ca∈A.lists++V.fo/\A.le∈A.lists++V.fo/\A.lo∈A.lists++V.fo/\(∀k∈A.cs,k.wy∈A.lists++V.fo)/\A.on∈A.lists++V.fo:=by obtain⟨h1,h2,h3,h4,h5⟩:=h.oa;exact⟨fm _ h1,fm _ h2,fm _ h3,λk hk=>fm _ (h4 k hk),fm _ h5⟩
def qN(A:tR)(M:Mp)(A':tR)(M':Mp):Prop:=(∀x c,x∉A.foot->M x=ga c->M' x=ga c)/\(∀x∈A'.foot,x∈A.foot\/M x=Fa)/\(∀(i:Nat) k,A.cs[i]?=ga k->A'.cs[i]?=ga k)/\∀x c,M x=ga c->∃d,M' x=ga d
def Fc{M:Mp}{p y:lf}{c d:uQ}(h:M y=ga d):∃e,o9 M p c y=ga e:=by
 by_cases z:y=p
 .exact⟨c,by rw[z];exact pJ⟩
 .exact⟨d,rg.put y d z h⟩
def qN.refl{A:tR}:qN A M A M:=⟨λ_ _ _ h=>h,λ_ h=>.inl h,λ_ _ h=>h,λ_ c h=>⟨c,h⟩⟩
def qN.trans{A A1 A2:tR}{M M1 M2:Mp}(s:qN A M A1 M1)(u:qN A1 M1 A2 M2):qN A M A2 M2:=by
 refine⟨λx c n h=>u.1 x c (λz=>?_) (s.1 x c n h),λx hx=>?_,λi k h=>u.2.2.1 i k (s.2.2.1 i k h),λx c h=>(s.2.2.2 x c h).elim λd e=>u.2.2.2 x d e⟩
 .rcases s.2.1 x z with y|y
  .exact n y
  .rw[y]at h;cases h
 .rcases u.2.1 x hx with z|z
  .exact s.2.1 x z
  .by_cases y:x∈A.foot
   .exact .inl y
   .refine .inr ?_;cases e:M x with
    | none=>rfl
    | some c=>rw[s.1 x c y e]at z;cases z
def qN.keep{A:tR}{x:lf}{c:uQ}(h:x∈A.foot)(k:rg x M (o9 M x c)):qN A M A (o9 M x c):=⟨λy c n e=>k y c (λz=>n (z ▸ h)) e,λ_ h=>.inl h,λ_ _ h=>h,λ_ _ h=>Fc h⟩
def qN.sub{A:tR}(s:qu M M'):qN A M A M':=⟨λy c _ e=>s y c e,λ_ h=>.inl h,λ_ _ h=>h,λx c h=>⟨c,s x c h⟩⟩
def tR.mH(A:tR):A.b∈A.foot/\A.nx∈A.foot/\A.ca∈A.foot/\A.le∈A.foot/\A.lo∈A.foot/\(∀k∈A.cs,k.p∈A.foot)/\∀k∈A.cs,k.wy∈A.foot:=by unfold tR.foot tR.lists;exact⟨by simp,by simp,by simp,by simp,by simp,λk hk=>by simp;exact .inr (.inr (.inr (.inr (.inr (.inr (.inr ⟨k,hk,Z'⟩)))))),λk hk=>by simp;exact .inr (.inr (.inr (.inr (.inr (.inr (.inl ⟨k,hk,Z'⟩))))))⟩
def tR.nB(A:tR){x:lf}(h:x∈A.lists):x∈A.foot:=by unfold tR.foot;exact dz _ (dz _ (dM.mpr (.inl h)))
variable {M M1:Mp}{A:tR}{V:qc}
def EZ{α:Type}{l:List α}{i j:Nat}{x y:α}(h:(l.set i x)[j]?=ga y):(j=i/\y=x/\i<l.length)\/(j≠i/\l[j]?=ga y):=by
 by_cases z:j=i
 .subst z;by_cases hl:j<l.length
  .rw[fu hl]at h;exact .inl ⟨Z',(de h).symm,hl⟩
  .rw[fL (by rw[ii];lia)]at h;cases h
 .rw[ft (dQ z)]at h;exact .inr ⟨z,h⟩
def Mv{α β:Type}{f:α->β}{l:List α}{i j:Nat}{x y:α}(nd:(l.map f).Nodup)(h1:l[i]?=ga x)(h2:l[j]?=ga y)(e:f x=f y):i=j:=by
 have e1:(l.map f)[i]?=ga (f x):=by rw[dq,h1];rfl
 have e2:(l.map f)[j]?=ga (f y):=by rw[dq,h2];rfl
 obtain⟨l1,q1⟩:=cV.mp e1;obtain⟨l2,q2⟩:=cV.mp e2;exact(ls nd).mp (q1.trans (e.trans q2.symm))
def pE.nw(h:pE a M A V):(A.cs.map (·.wy)).Nodup:=(dN.mp (dN.mp (dN.mp (dN.mp h.nl).2).2).2).2
def pE.oy(h:pE a M A V):(A.cs.map (·.p)).Nodup/\∀k∈A.cs,k.p≠A.b:=⟨(dN.mp h.np).2,λk hk z=>(dN.mp h.np).1 (z ▸ dw.mpr ⟨k,hk,Z'⟩)⟩
def pE.nZ(h:pE a M A V){es:T0 Ev}:pE a (o9 M A.lo (.lst (es.map Ev.d))) A {V with log:=es}/\qN A M A (o9 M A.lo (.lst (es.map Ev.d))):=by have kp:rg A.lo M (o9 M A.lo (.lst (es.map Ev.d))):=.put;obtain⟨n1,n2,n3,n4,n5,n6,nw⟩:=h.ne;exact⟨⟨kp _ _ (dQ (pK h.lo h.at_)) h.at_,kp.lst n3 h.ca,kp.lst n5 h.le,kp.dk (uG h.nx h.lo) h.nx,kp.lst n6 h.on,pj,h.len,λi k c e1 e2=>(h.cs i k c e1 e2).nE kp h.lo h.ou.2.2.1 (nw k (qW e1)).2.2.2,h.nl,h.np,wC h.fo⟩,.keep A.mH.2.2.2.2.1 kp⟩
def pE.og(h:pE a M A V){es:List rh}:pE a (o9 M A.le (.lst (es.map rh.d))) A {V with mC:=es}/\qN A M A (o9 M A.le (.lst (es.map rh.d))):=by have kp:rg A.le M (o9 M A.le (.lst (es.map rh.d))):=.put;obtain⟨n1,n2,n3,n4,n5,n6,nw⟩:=h.ne;exact⟨⟨kp _ _ (dQ (pK h.le h.at_)) h.at_,kp.lst n1 h.ca,pj,kp.dk (uG h.nx h.le) h.nx,kp.lst (dQ n4) h.on,kp.lst (dQ n5) h.lo,h.len,λi k c e1 e2=>(h.cs i k c e1 e2).nE kp h.le h.ou.2.1 (nw k (qW e1)).2.1,h.nl,h.np,wC h.fo⟩,.keep A.mH.2.2.2.1 kp⟩
def pE.oJ(h:pE a M A V){bs:T0 Bool}:pE a (o9 M A.on (.lst (bs.map D.bl))) A {V with on:=bs}/\qN A M A (o9 M A.on (.lst (bs.map D.bl))):=by have kp:rg A.on M (o9 M A.on (.lst (bs.map D.bl))):=.put;obtain⟨n1,n2,n3,n4,n5,n6,nw⟩:=h.ne;exact⟨⟨kp _ _ (dQ (pK h.on h.at_)) h.at_,kp.lst n2 h.ca,kp.lst n4 h.le,kp.dk (uG h.nx h.on) h.nx,pj,kp.lst (dQ n6) h.lo,h.len,λi k c e1 e2=>(h.cs i k c e1 e2).nE kp h.on h.ou.2.2.2.2 (nw k (qW e1)).2.2.1,h.nl,h.np,wC h.fo⟩,.keep (A.nB h.oa.2.2.2.2) kp⟩
def pE.oE(h:pE a M A V){ps:T0 (Str×Int)}:pE a (o9 M A.nx (.dk (sZ ps))) A {V with ps:=ps}/\qN A M A (o9 M A.nx (.dk (sZ ps))):=by have kp:rg A.nx M (o9 M A.nx (.dk (sZ ps))):=.put;exact⟨⟨kp _ _ (dQ (BU h.nx h.at_)) h.at_,kp.lst (dQ (uG h.nx h.ca)) h.ca,kp.lst (dQ (uG h.nx h.le)) h.le,Ec pJ,kp.lst (dQ (uG h.nx h.on)) h.on,kp.lst (dQ (uG h.nx h.lo)) h.lo,h.len,λi k c e1 e2=>(h.cs i k c e1 e2).oC kp h.nx,h.nl,h.np,wC h.fo⟩,.keep A.mH.2.1 kp⟩
def pE.putT(h:pE a M A V){t:Int}:pE a (o9 M A.b (.ins a.c (tF (.ref V.p) V.h t A.ca A.le A.nx A.on A.lo))) A {V with t:=t}/\qN A M A (o9 M A.b (.ins a.c (tF (.ref V.p) V.h t A.ca A.le A.nx A.on A.lo))):=by have kp:rg A.b M (o9 M A.b (.ins a.c (tF (.ref V.p) V.h t A.ca A.le A.nx A.on A.lo))):=.put;exact⟨⟨pJ,kp.lst (pK h.ca h.at_) h.ca,kp.lst (pK h.le h.at_) h.le,kp.dk (BU h.nx h.at_) h.nx,kp.lst (pK h.on h.at_) h.on,kp.lst (pK h.lo h.at_) h.lo,h.len,λi k c e1 e2=>(h.cs i k c e1 e2).nJ kp h.at_ (h.oy.2 k (qW e1)),h.nl,h.np,wC h.fo⟩,.keep A.mH.1 kp⟩
def pE.nO(h:pE a M A V){i:Nat}{k:rA}{c c':oX}{ad md:lf}(e1:A.cs[i]?=ga k)(e2:V.calls[i]?=ga c)(ew:c'.way=c.way)(la:nU M ad=ga (c'.at_.map D.str))(lm:nU M md=ga (c'.ms.map D.str))(na:ad∉A.lists++V.fo)(nm:md∉A.lists++V.fo):
  pE a (o9 M k.p (.ins a.e (qZ c' k.wy ad md))) A {V with calls:=V.calls.set i c'}/\qN A M A (o9 M k.p (.ins a.e (qZ c' k.wy ad md))):=by
 have kp:rg k.p M (o9 M k.p (.ins a.e (qZ c' k.wy ad md))):=.put;obtain⟨_,_,h1,h2,_⟩:=h.cs i k c e1 e2;refine⟨⟨kp _ _ (dQ (h.oy.2 k (qW e1))) h.at_,kp.lst (pK h.ca h1) h.ca,kp.lst (pK h.le h1) h.le,kp.dk (BU h.nx h1) h.nx,kp.lst (pK h.on h1) h.on,kp.lst (pK h.lo h1) h.lo,by rw[h.len,ii],λj k' d f1 f2=>?_,h.nl,h.np,wC h.fo⟩,.keep (A.mH.2.2.2.2.2.1 k (qW e1)) kp⟩;rcases EZ f2 with⟨rfl,rfl,_⟩|⟨hj,f2⟩
 .rw[e1]at f1;cases f1;exact⟨ad,md,pJ,by rw[ew];exact kp.lst (pK h2 h1) h2,kp.lst (pK la h1) la,kp.lst (pK lm h1) lm,na,nm⟩
 .exact(h.cs j k' d f1 f2).nJ kp h1 λz=>hj (Mv h.oy.1 f1 e1 z)
def pE.nV(h:pE a M A V){i:Nat}{k:rA}{c:oX}{ws:QQQ}(e1:A.cs[i]?=ga k)(e2:V.calls[i]?=ga c):
  pE a (o9 M k.wy (.lst (ws.map D.str))) A {V with calls:=V.calls.set i {c with way:=ws}}/\qN A M A (o9 M k.wy (.lst (ws.map D.str))):=by
 have kp:rg k.wy M (o9 M k.wy (.lst (ws.map D.str))):=.put;obtain⟨ad,md,h1,h2,h3,h4,h5,h6⟩:=h.cs i k c e1 e2;obtain⟨n1,n2,n3,n4,n5,n6,nw⟩:=h.ne;obtain⟨w1,w2,w3,w4⟩:=nw k (qW e1);have kL:=h.ou.2.2.2.1 k (qW e1);refine⟨⟨kp _ _ (dQ (pK h2 h.at_)) h.at_,kp.lst (dQ w1) h.ca,kp.lst (dQ w2) h.le,kp.dk (uG h.nx h2) h.nx,kp.lst (dQ w3) h.on,kp.lst (dQ w4) h.lo,by rw[h.len,ii],λj k' d f1 f2=>?_,h.nl,h.np,wC h.fo⟩,.keep (A.mH.2.2.2.2.2.2 k (qW e1)) kp⟩;rcases EZ f2 with⟨rfl,rfl,_⟩|⟨hj,f2⟩
 .rw[e1]at f1;cases f1;exact⟨ad,md,kp _ _ (dQ (pK h2 h1)) h1,pj,kp.lst (λz=>h5 (z ▸ kL)) h3,kp.lst (λz=>h6 (z ▸ kL)) h4,h5,h6⟩
 .exact(h.cs j k' d f1 f2).nE kp h2 kL λz=>hj (Mv h.nw f1 e1 z)
noncomputable def tR.add(A:tR)(k:rA):tR:={A with cs:=A.cs++[k]}
def zV(A:tR)(k:rA):(A.add k).lists=A.lists++[k.wy]:=by unfold tR.add tR.lists;rw[dF];rfl
def pE.dom(h:pE a M A V):(∀x∈A.lists,∃ds,nU M x=ga ds)/\∀x∈A.foot,∃c,M x=ga c:=by
 have hc:∀k∈A.cs,(∃ds,nU M k.wy=ga ds)/\∃c,M k.p=ga c:=λk hk=>by
  obtain⟨i,hi,e⟩:=gR hk;have e1:A.cs[i]?=ga k:=by rw[cT hi,e]
  have Yk:i<V.calls.length:=by rw[<-h.len];exact hi
  have e2:V.calls[i]?=ga V.calls[i]:=cT Yk;obtain⟨ad,md,h1,h2,_⟩:=h.cs i k _ e1 e2;exact⟨⟨_,h2⟩,_,h1⟩
 have hl:∀x∈A.lists,∃ds,nU M x=ga ds:=λx hx=>by
  unfold tR.lists at hx;simp only[dg,dw]at hx;rcases hx with rfl|rfl|rfl|rfl|⟨k,hk,rfl⟩
  .exact⟨_,h.ca⟩
  .exact⟨_,h.le⟩
  .exact⟨_,h.on⟩
  .exact⟨_,h.lo⟩
  .exact(hc k hk).1
 refine⟨hl,λx hx=>?_⟩;unfold tR.foot at hx;simp only[dg,dM,dw]at hx;rcases hx with rfl|rfl|hx|⟨k,hk,rfl⟩
 .exact⟨_,h.at_⟩
 .exact⟨_,wx h.nx⟩
 .obtain⟨ds,e⟩:=hl x hx;exact⟨_,pP e⟩
 .exact(hc k hk).2
def pE.nL(h:pE a M A V){x:lf}(hx:M x=Fa):x∉A.lists:=λz=>by obtain⟨ds,e⟩:=h.dom.1 x z;have:=pP e;rw[hx]at this;cases this
def pE.mT(h:pE a M A V){x:lf}(hx:M x=Fa):x∉A.lists++V.fo:=λz=>by
 rcases dM.mp z with z|z
 .exact h.nL hx z
 .obtain⟨c,e⟩:=h.fo x z;rw[hx]at e;cases e
def pE.nC(h:pE a M A V){x:lf}(hx:M x=Fa):x∉A.foot:=λz=>by obtain⟨ds,e⟩:=h.dom.2 x z;rw[hx]at e;cases e
def pE.nN(h:pE a M A V)(s:qu M M1){p wy ad md:lf}{c:oX}(hp:M p=Fa)(hw:M wy=Fa)(ha:M ad=Fa)(hm:M md=Fa)(h1:M1 p=ga (.ins a.e (qZ c wy ad md)))(h2:nU M1 wy=ga (c.way.map D.str))(h3:nU M1 ad=ga (c.at_.map D.str))(h4:nU M1 md=ga (c.ms.map D.str))(n1:ad≠wy)(n2:md≠wy):
  pE a (o9 M1 A.ca (.lst ((A.cs.map λk=>D.ref k.p)++[.ref p]))) (A.add ⟨p,wy⟩) {V with calls:=V.calls++[c]}/\qN A M (A.add ⟨p,wy⟩) (o9 M1 A.ca (.lst ((A.cs.map λk=>D.ref k.p)++[.ref p]))):=by
 have h':=h.sub s;have kp:rg A.ca M1 (o9 M1 A.ca (.lst ((A.cs.map λk=>D.ref k.p)++[.ref p]))):=.put;obtain⟨m1,m2,m3,m4,m5,m6,nw⟩:=h.ne;have wL:wy∉A.lists:=h.nL hw;have cL:=h.ou.1;have nl':∀x,x∉A.lists++V.fo->x≠wy->x∉(A.add ⟨p,wy⟩).lists++V.fo:=λx h1 h2=>by
  rw[zV,dM,dM,c9]
  rintro ((z|z)|z)
  .exact h1 (fm _ z)
  .exact h2 z
  .exact h1 (eA _ z)
 have XO:∀x c,M x=ga c->x≠wy:=λx c e z=>by rw[z,hw]at e;cases e
 refine⟨⟨kp _ _ (dQ (pK h'.ca h'.at_)) h'.at_,?_,kp.lst (dQ m1) h'.le,kp.dk (uG h'.nx h'.ca) h'.nx,kp.lst (dQ m2) h'.on,kp.lst (dQ m3) h'.lo,?_,λi k d e1 e2=>?_,?_,?_,wC h'.fo⟩,λx d n e=>kp x d (λz=>n (z ▸ A.mH.2.2.1)) (s x d e),λx hx=>?_,λi k e=>by show(A.cs++[(⟨p,wy⟩:rA)])[i]?=ga k;rw[eF (cV.mp e).1];exact e,λx d e=>Fc (s x d e)⟩
 .show nU _ A.ca=ga ((A.cs++[(⟨p,wy⟩:rA)]).map λk=>D.ref k.p);rw[dF];exact pj
 .show(A.cs++[(⟨p,wy⟩:rA)]).length=(V.calls++[c]).length;rw[cU,cU,h.len];rfl
 .have e1:(A.cs++[(⟨p,wy⟩:rA)])[i]?=ga k:=e1;have e2:(V.calls++[c])[i]?=ga d:=e2;by_cases hi:i<A.cs.length
  .rw[eF hi]at e1;rw[eF (by rw[<-h.len];exact hi)]at e2;obtain⟨ad',md',g1,g2,g3,g4,g5,g6⟩:=(h.cs i k d e1 e2);refine⟨ad',md',kp _ _ (λz=>by have:=s _ _ g1;rw[z,pP h'.ca]at this;cases this) (s _ _ g1),kp.lst (nw k (qW e1)).1 (s.lst g2),kp.lst (λz=>g5 (z ▸ cL)) (s.lst g3),kp.lst (λz=>g6 (z ▸ cL)) (s.lst g4),nl' _ g5 (XO _ _ (pP g3)),nl' _ g6 (XO _ _ (pP g4))⟩
  .have Y5:i=A.cs.length:=by have:=(cV.mp e1).1;rw[cU,dE]at this;lia
   subst Y5;rw[eP (cZ _)]at e1;rw[h.len,eP (cZ _)]at e2;simp only[gP,iB,jl]at e1 e2;subst e1 e2;have q1:p≠A.ca:=λz=>by rw[z,pP h'.ca]at h1;cases h1
   have q2:wy≠A.ca:=λz=>wL (z ▸ h.oa.1);exact⟨ad,md,kp p _ q1 h1,kp.lst (a:=wy) q2 h2,kp.lst (λz=>h.mT ha (z ▸ cL)) h3,kp.lst (λz=>h.mT hm (z ▸ cL)) h4,nl' _ (h.mT ha) n1,nl' _ (h.mT hm) n2⟩
 .rw[zV];refine gk.mpr ⟨h.nl,dN.mpr ⟨dP,eE⟩,λx hx y hy=>?_⟩;rw[c9]at hy;subst hy;exact λz=>wL (z ▸ hx)
 .show(A.b::(A.cs++[(⟨p,wy⟩:rA)]).map (·.p)).Nodup;rw[dF,<-List.cons_append];refine gk.mpr ⟨h.np,dN.mpr ⟨dP,eE⟩,λx hx y hy=>?_⟩;rw[dW,iM,c9]at hy;subst hy;refine λz=>h.nC hp (z ▸ ?_);rcases dg.mp hx with y|y
  .rw[y];exact A.mH.1
  .obtain⟨k,hk,rfl⟩:=dw.mp y;exact A.mH.2.2.2.2.2.1 k hk
 .unfold tR.foot at hx;rw[zV]at hx;have hx:x∈A.b::A.nx::(A.lists++[wy]++(A.cs++[(⟨p,wy⟩:rA)]).map (·.p)):=hx;simp only[dg,dM,dF,dW,iM,dP,fP]at hx;unfold tR.foot;simp only[dg,dM];rcases hx with z|z|(z|z)|(z|z)
  .exact .inl (.inl z)
  .exact .inl (.inr (.inl z))
  .exact .inl (.inr (.inr (.inl z)))
  .exact .inr (by rw[z];exact hw)
  .exact .inl (.inr (.inr (.inr z)))
  .exact .inr (by rw[z];exact hp)
def pE.n9{V:qc}{p:lf}{es:List rh}(h:pE a M A V)(hp:M p=Fa):
  pE a (o9 (o9 M p (.lst (es.map rh.d))) A.b (.ins a.c (tF (.ref V.p) V.h V.t A.ca p A.nx A.on A.lo))) {A with le:=p} {V with mC:=es}/\qN A M {A with le:=p} (o9 (o9 M p (.lst (es.map rh.d))) A.b (.ins a.c (tF (.ref V.p) V.h V.t A.ca p A.nx A.on A.lo))):=by
 obtain⟨M1,e0,t,lp⟩:=ub (ds:=es.map rh.d) hp;rw[<-e0];have h1:=h.sub t;have np:p∉A.lists:=h.nL hp;have nf:p∉A.foot:=h.nC hp;have XO:∀x c,M x=ga c->x≠p:=λx c e z=>by rw[z,hp]at e;cases e
 have kp:rg A.b M1 (o9 M1 A.b (.ins a.c (tF (.ref V.p) V.h V.t A.ca p A.nx A.on A.lo))):=.put;have sub:∀x,x∉A.lists++V.fo->x≠p->x∉({A with le:=p}:tR).lists++V.fo:=λx h1 h2 z=>by
  rcases dM.mp z with z|z
  rotate_left
  .exact h1 (eA _ z)
  have h1:x∉A.lists:=λy=>h1 (fm _ y);unfold tR.lists at h1 z;simp only[dg,hW]at h1 z;rcases z with z|z|z|z|z
  .exact h1.1 z
  .exact h2 z
  .exact h1.2.2.1 z
  .exact h1.2.2.2.1 z
  .exact h1.2.2.2.2 z
 refine⟨⟨pJ,kp.lst (pK h1.ca h1.at_) h1.ca,kp.lst (pK lp h1.at_) lp,kp.dk (BU h1.nx h1.at_) h1.nx,kp.lst (pK h1.on h1.at_) h1.on,kp.lst (pK h1.lo h1.at_) h1.lo,h.len,λi k c e1 e2=>?_,?_,h.np,wC h1.fo⟩,λx c n e=>kp x c (λz=>n (z ▸ A.mH.1)) (t x c e),λx hx=>?_,λi k e=>e,λx d e=>Fc (t x d e)⟩
 .obtain⟨ad,md,g1,g2,g3,g4,g5,g6⟩:=(h.cs i k c e1 e2);obtain⟨ad',md',f1,f2,f3,f4,f5⟩:=((h.cs i k c e1 e2).sub t).nJ kp h1.at_ (h.oy.2 k (qW e1));have q1:=kp _ _ (λz=>h.oy.2 k (qW e1) z) (t _ _ g1);exact⟨ad,md,q1,f2,kp.lst (pK (t.lst g3) h1.at_) (t.lst g3),kp.lst (pK (t.lst g4) h1.at_) (t.lst g4),sub _ g5 (XO _ _ (pP g3)),sub _ g6 (XO _ _ (pP g4))⟩
 .have n:=h.nl;unfold tR.lists at n np ⊢;simp only[dg,hW]at np;simp only[dN,dg,hW]at n ⊢;exact⟨⟨λz=>np.1 z.symm,n.1.2⟩,⟨np.2.2.1,np.2.2.2.1,np.2.2.2.2⟩,n.2.2⟩
 .by_cases z:x=p
  .exact .inr (z ▸ hp)
  .refine .inl ?_;unfold tR.foot tR.lists at hx ⊢;simp only[dg,dM]at hx ⊢;rcases hx with y|y|(y|y|y|y|y)|y
   .exact .inl y
   .exact .inr (.inl y)
   .exact .inr (.inr (.inl (.inl y)))
   .exact absurd y z
   .exact .inr (.inr (.inl (.inr (.inr (.inl y)))))
   .exact .inr (.inr (.inl (.inr (.inr (.inr (.inl y))))))
   .exact .inr (.inr (.inl (.inr (.inr (.inr (.inr y))))))
   .exact .inr (.inr (.inr y))
def zp(x:D)(l:T0 D):vR (x::l) 0=ga x:=by
 unfold vR;have:G7 (x::l).length 0=ga 0:=by unfold G7;rw[dY];simp
 rw[this];rfl
def xI(f:oX->Str->Bool)(a:Ad):qY:=λds M Q=>BK λL k c x=>ds=[.ref k.p,.str x]/\rM a M L k c/\Q (.bl (f c x)) M
abbrev HG:=xI oX.hasB
abbrev zE:=xI oX.mE
abbrev E4:=xI oX.mM
abbrev yQ:=xI oX.mF
abbrev vp:=xI oX.my
abbrev E8:=xI oX.mG
abbrev xh:=xI oX.mX
noncomputable def P'(x:Str):D->Bool
 | .str y=>!(y==x)
 | _=>pc
def zb(a:Ad):qY:=λds M Q=>JI λL k c x y r=>ds=[.ref k.p,.str x]/\rM a M L k c/\c.ms.length<=100/\r6 c.ms x=y::r/\Q (.str y) M
def Cd(ss:QQQ)(x:Str):[]++(List.filter (P' x) (ss.map D.str)).map id=(r6 ss x).map D.str:=by rw[dX,iY,gY];rfl
def Dy{k:lf}{ks:QQQ}{c:Str}{K:DK}(hk:nU M k=ga (ks.map D.str))(h:K (.bl (hasS ks c)) M):Q6 pc (.str c) (.ref k) M K:=by refine i' hk ⟨Z',ql ks,?_⟩;show K (.bl (inD (.str c) (ks.map D.str))) M;rw[rX];exact h
def Wy(w x y:Str):inD (.str w) [.str x,.str y]=(w==x||w==y):=by rw[show[D.str x,D.str y]=[x,y].map D.str from rfl,rX,gj];simp only[fX,List.any_nil,je,gX,eY];exact⟨λh=>h.imp lR lR,λh=>h.imp lR lR⟩
def Sk:Fq P w K mg base 1 a.bJ (HG a):=by
 refine fq G.bJ.toDG GK (λr u=>⟨_,(oR (pH (pk u (oZ v0) oW)
 (oS (oY (IS (pX u U1 (oZ v0)) (sm (pX u U1 (oZ v0))))))
 pB)
 (oR (pH (pk u (oZ v0) oW)
 (oS (oY (pX u U1 (oZ v0))))
 pB)
 (oS (oY (sN (pX u (oZ v0) (pF (rK oW oW))) (sm (pX u U1 (oZ v0)))))))),?_⟩)
 rintro ds M Q ⟨L,k,c,x,rfl,⟨ad,md,h1,h2,h3,h4,_⟩,q⟩
 unfold oX.hasB at q;refine oU h1 (i' Z' ?_);refine qx (c:=c.st=="rings") (λg=>?_) (λg=>?_)
 .rw[cX g]at q;refine oU h1 (i' Z' (qx (c:=x==c.cr) (λg2=>?_) (λg2=>?_)))
  .rw[g2]at q;exact⟨M,.refl,q⟩
  .rw[show(x==c.cr)=pc from dC.mpr g2,fE]at q;exact oU h1 (i' Z' (Dy h3 ⟨M,.refl,q⟩))
 .rw[cW g]at q;refine oU h1 (i' Z' ?_);refine qx (c:=c.st=="waits") (λg2=>?_) (λg2=>?_)
  .rw[cX g2]at q;exact oU h1 (i' Z' ⟨M,.refl,q⟩)
  .rw[cW g2]at q;refine oU h1 (i' Z' ⟨oP Z',Z',Z',?_⟩);show if inD (.str c.st) [.str "talks",.str "held"]=Db then _ else _
   rw[Wy];refine qx (λg3=>?_) (λg3=>?_)
   .rw[g3,eG]at q;exact oU h1 (i' Z' (Dy h4 ⟨M,.refl,q⟩))
   .rw[show(c.st=="talks"||c.st=="held")=pc from dC.mpr g3,eM]at q;exact⟨M,.refl,q⟩
def vN:Fq P w K mg base 1 a.X (zE a):=by
 refine fq G.X.toDG yS (λr u=>⟨_,(oS (oY (sN (pX u (oZ v0) oW) (sm (pX u U1 (oZ v0)))))),?_⟩)
 rintro ds M Q ⟨L,k,c,x,rfl,⟨ad,md,h1,h2,h3,h4,_⟩,q⟩
 unfold oX.mE at q;refine oU h1 (i' Z' (qx (c:=c.st=="talks") (λg=>?_) (λg=>?_)))
 .rw[g,eG]at q;exact oU h1 (i' Z' (Dy h4 ⟨M,.refl,q⟩))
 .rw[show(c.st=="talks")=pc from dC.mpr g,eM]at q;exact⟨M,.refl,q⟩
def LG:Fq P w K mg base 2 a.bI (E4 a):=by
 refine fq G.bI.toDG C8 (λr u=>⟨_,(oR (pH (pk u (oZ v0) oW)
 (oS (oY (sN (pX u U1 (oZ v0)) (sm (pX u U1 (oZ v0))))))
 pB)
 (oS (oY (pO v0 G.e.toCls G.X (vN G) r (pW U1))))),?_⟩)
 rintro ds M Q ⟨L,k,c,x,rfl,hc,q⟩
 obtain⟨ad,md,h1,h2,h3,h4,_⟩:=id hc;unfold oX.mM at q;refine oU h1 (i' Z' ?_);refine qx (c:=c.st=="held") (λg=>?_) (λg=>?_)
 .rw[cX g]at q;refine oU h1 (i' Z' (i' h4 ⟨Z',ql c.ms,?_⟩));show if inD (.str x) (c.ms.map D.str)=Db then _ else _
  rw[rX];refine qx (c:=hasS c.ms x) (λg2=>?_) (λg2=>?_)
  .rw[g2,eG]at q;refine oU h1 (i' Z' ?_);cases e:c.hd with
   | none=>rw[e]at q;exact⟨M,.refl,q⟩
   | some y=>
    rw[e]at q;refine⟨M,.refl,?_⟩;rw[show(!(ga y==ga x))=!(x==y)from by
     show(!(y==x))=_;rw[lT]]at q
    exact q
  .rw[show hasS c.ms x=pc from dC.mpr g2,eM]at q;exact⟨M,.refl,q⟩
 .rw[cW g]at q;exact oU h1 ⟨Z',_,⟨Z',Z'⟩,L,k,c,x,Z',hc,M,.refl,q⟩
def BN:Fq P w K mg base 1 a.U (yQ a):=by
 refine fq G.U.toDG yi (λr u=>⟨_,(oS (oY (sN (pX u (oZ v0) (pF (rK oW oW))) (sm (pX u U1 (oZ v0)))))),?_⟩)
 rintro ds M Q ⟨L,k,c,x,rfl,⟨ad,md,h1,h2,h3,h4,_⟩,q⟩
 unfold oX.mF at q;refine oU h1 (i' Z' ⟨oP Z',Z',Z',?_⟩);show if inD (.str c.st) [.str "rings",.str "waits"]=Db then _ else _
 rw[Wy];refine qx (λg3=>?_) (λg3=>?_)
 .rw[g3,eG]at q;exact oU h1 (i' Z' ⟨M,.refl,q⟩)
 .rw[show(c.st=="rings"||c.st=="waits")=pc from dC.mpr g3,eM]at q;exact⟨M,.refl,q⟩
def GV:Fq P w K mg base 1 a.am (vp a):=by
 refine fq G.am.toDG yK (λr u=>⟨_,(oS (oY (sN (pX u (oZ v0) oW) (sm (pX u U1 (oZ v0)))))),?_⟩)
 rintro ds M Q ⟨L,k,c,x,rfl,⟨ad,md,h1,h2,h3,h4,_⟩,q⟩
 unfold oX.my at q;refine oU h1 (i' Z' (qx (c:=c.st=="waits") (λg=>?_) (λg=>?_)))
 .rw[g,eG]at q;exact oU h1 (i' Z' (Dy h3 ⟨M,.refl,q⟩))
 .rw[show(c.st=="waits")=pc from dC.mpr g,eM]at q;exact⟨M,.refl,q⟩
def NF:Fq P w K mg base 2 a.bH (xh a):=by
 refine fq G.bH.toDG wX (λr u=>⟨_,(oS (oY (IS (pO v0 G.e.toCls G.U (BN G) r (pW U1)) (IS (pX u U1 (oZ v0)) (sm (pX u U1 (oZ v0))))))),?_⟩)
 rintro ds M Q ⟨L,k,c,x,rfl,hc,q⟩
 obtain⟨ad,md,h1,h2,h3,h4,_⟩:=id hc;unfold oX.mX at q;refine oU h1 ⟨Z',_,⟨Z',Z'⟩,L,k,c,x,Z',hc,qx (c:=c.mF x) (λg=>?_) (λg=>?_)⟩
 .rw[g]at q;exact⟨M,.refl,q⟩
 .rw[show c.mF x=pc from dC.mpr g,fE]at q;refine oU h1 (i' Z' (i' h3 ⟨Z',ql c.at_,?_⟩));show if inD (.str x) (c.at_.map D.str)=Db then _ else _
  rw[rX];refine qx (c:=hasS c.at_ x) (λg2=>?_) (λg2=>?_)
  .rw[g2]at q;exact⟨M,.refl,q⟩
  .rw[show hasS c.at_ x=pc from dC.mpr g2,fE]at q;exact oU h1 (i' Z' (Dy h4 ⟨M,.refl,q⟩))
def Gw:Fq P w K mg base 2 a.aw (E8 a):=by
 refine fq G.aw.toDG C1 (λr u=>⟨_,(oS (oY (sN (pO v0 G.e.toCls G.X (vN G) r (pW U1)) (sm (pX u (pG qb Z' G.g pZ (pW (oZ v0))) oV))))),?_⟩)
 rintro ds M Q ⟨L,k,c,x,rfl,hc,q⟩
 obtain⟨ad,md,h1,h2,h3,h4,_⟩:=id hc;unfold oX.mG at q;refine oU h1 ⟨Z',_,⟨Z',Z'⟩,L,k,c,x,Z',hc,qx (c:=c.mE x) (λg=>?_) (λg=>?_)⟩
 .rw[g,eG]at q;refine oU h1 (i' Z' (i' h4 ⟨M,.refl,?_⟩));rw[cR];have:(((c.ms.length:Nat):Int)==2)=(c.ms.length==2):=by rw[gj,eY,eY];lia
  show Q (.bl (((c.ms.length:Nat):Int)==2)) M;rw[this];exact q
 .rw[show c.mE x=pc from dC.mpr g,eM]at q;exact⟨M,.refl,q⟩
def GG:Fq P w K mg base 1 a.an (zb a):=by
 refine fq G.an.toDG yO (λr u=>⟨_,(oS (oY (pA (qv Z' (xc (ix:=[Fa,ga 1]) (N':=["member","phone"])) (qy (oZ v0)) (qh 0) (uW (pk u v0 U1)) v0) oV))),?_⟩)
 rintro ds M Q ⟨L,k,c,x,y,r,rfl,hc,hl,e,q⟩
 have hz:=dH;obtain⟨ad,md,h1,h2,h3,h4,_⟩:=id hc;refine oU h1 (i' Z' (i' h4 (tz (f:=id) (t:=P' x) h4 _ [] _ (by rw[cR];simp only[dB];lia) (λd hd k0 hk=>?_) (λd hd _ k0 hk=>?_) λp hp=>?_)))
 .obtain⟨y,hy,rfl⟩:=dw.mp hd;exact hk
 .obtain⟨y,hy,rfl⟩:=dw.mp hd;exact hk
 rw[Cd,e];exact i' pj (i' (zp _ _) ⟨M,.new hp,q⟩)
theorem Cv:∀bs:T0 Bool,AD (.bl Db) (bs.map D.bl)=bs.findIdx? id
 | []=>rfl
 | b::r=>by rw[dW,List.findIdx?_cons];unfold AD;rw[Cv r];cases b<;>rfl
theorem Lh(x:D):∀ds:T0 D,(AD x ds).isSome=ds.any λd=>P4 d x
 | []=>rfl
 | d::r=>by
  unfold AD;rw[fX];by_cases h:P4 d x=Db
  .rw[cX h,h];rfl
  .rw[cW h,jj,Lh x r,show P4 d x=pc from dC.mpr h,fE]
theorem Cm:∀bs:T0 Bool,(bs.map D.bl).all uJ=Db
 | []=>rfl
 | _::r=>by rw[dW,gm,Cm r];rfl
structure Rd(a:Ad)(M:Mp)(A:tR)(V:qc)(l:pf):Prop where
 bd:pE a M A V
 k:V.calls.length<=1000000
 pl:sJ a M V.p l
 ok:qR l
 on:V.on.length=l.mo.length
 ms:∀c∈V.calls,(∀x∈c.ms,x∈l.pn)/\c.ms.length<=100
def Rd.sub{V:qc}(h:Rd a M A V l)(s:qu M M'):Rd a M' A V l:=⟨h.bd.sub s,h.k,h.pl.sub s,h.ok,h.on,h.ms⟩
def LB:qY:=λds M Q=>CM λr bs=>ds=[.ref r]/\nU M r=ga (List.map D.bl bs)/\Q (PN (bs.findIdx? id)) M
def Ks(f:qc->Str->D)(a:Ad):qY:=λds M Q=>DM λA V x=>ds=[.ref A.b,.str x]/\pE a M A V/\V.calls.length<=1000000/\Q (f V x) M
def Vd(V:qc)(x:Str):D:=.int (uN V x:Nat)
def Lb(V:qc)(x:Str):D:=PN (Ft V x)
def Ap(V:qc)(x:Str):D:=PN (vA V x)
def UP(V:qc)(x:Str):D:=PN (Iq V x)
def TZ(V:qc)(x:Str):D:=.bl (Az V x)
abbrev EJ:=Ks Vd
abbrev C5:=Ks Lb
abbrev AS:=Ks Ap
abbrev A6:=Ks UP
abbrev zX:=Ks TZ
def w9(a:Ad):qY:=λds M Q=>BK λA V l x=>ds=[.ref A.b,.str x]/\Rd a M A V l/\x∈l.pn/\Q (.bl (tH l V x)) M
def Aa(a:Ad):qY:=λds M Q=>EL λA V l c z=>ds=[.ref A.b,.str c,.str z]/\Rd a M A V l/\z∈l.nm/\∀q M',qu M M'->M q=Fa->nU M' q=ga ((ud l V c z).map D.str)->Q (.ref q) M'
def Al(a:Ad):qY:=λds M Q=>CM λA V=>ds=[.ref A.b]/\pE a M A V/\Q (.int ((V.h+V.t) % 24)) M
def Oa(a:Ad):qY:=λds M Q=>EL λA V l c z=>ds=[.ref A.b,.str c,.str z]/\Rd a M A V l/\z∈l.nm/\Q (.bl (xM l V c z)) M
def IE{V:qc}(h:pE a M A V){pre post:T0 D}{d:D}(e:pre++d::post=A.cs.map λk=>D.ref k.p):∃k c,A.cs[pre.length]?=ga k/\V.calls[pre.length]?=ga c/\d=.ref k.p/\rM a M (A.lists++V.fo) k c/\V.calls.take (pre.length+1)=V.calls.take pre.length++[c]:=by
 have h1:(A.cs.map λk=>D.ref k.p)[pre.length]?=ga d:=by rw[<-e];simp
 rw[dq]at h1;cases z:A.cs[pre.length]? with
 | none=>rw[z]at h1;cases h1
 | some k=>
  rw[z]at h1;have hi:pre.length<V.calls.length:=by rw[<-h.len];exact(cV.mp z).1
  have e2:V.calls[pre.length]?=ga V.calls[pre.length]:=cT hi;refine⟨k,_,Z',e2,(de h1).symm,h.cs _ _ _ z e2,?_⟩;rw[fH,e2];rfl
def yG{l:pf}{x:Str}(h:x∈l.pn):∃v,l.mK x=ga v:=by
 obtain⟨p,hp,rfl⟩:=dw.mp h;unfold pf.mK;cases e:l.mv.find? λq=>decide (q.1=p.1)with
 | some v=>exact⟨v,Z'⟩
 | none=>exact absurd (gg.mp e p hp) (by simp)
def qF:hasS ss x=Db↔x∈ss:=by unfold hasS;rw[fM];exact⟨λ⟨y,hy,e⟩=>ZB e ▸ hy,λh=>⟨x,h,eU _⟩⟩
def KM(h:wF ss=Db):ss.Nodup:=by
 have h:(s8 ss).length=ss.length:=by unfold wF at h;have:=eY.mp h;lia
 suffices key:∀r:QQQ,(s8 r.reverse).length=r.reverse.length->r.reverse.Nodup by have:=key ss.reverse;rw[List.reverse_reverse]at this;exact this h
 intro r;induction r with
 | nil=>intro _;exact eE
 | cons k r ih=>
  intro h;rw[List.reverse_cons]at h ⊢;generalize r.reverse=l at ih h ⊢;rw[x8]at h;split at h
  .have:=Je l;rw[cU,dE]at h;lia
  .rename_i hk;rw[cU,cU,dE]at h;have h1:=ih (by lia);rw[KR]at hk;refine gk.mpr ⟨h1,by simp,λx hx y hy=>?_⟩;rw[c9.mp hy];exact λz=>hk (z ▸ hx)
def HK{m:Int}(h:se cs ks m=Db):cs≠[]/\(cs.length:Int)<=m/\cs.Nodup/\∀x∈cs,x∈ks:=by unfold se at h;simp only[dR,d9,eS]at h;obtain⟨h1,h2,h3,h4⟩:=h;refine⟨λz=>by rw[z]at h1;exact absurd h1 (by decide),h2,KM h3,λx hx=>qF.mp (h4 x hx)⟩
def qR.of(ok:qR l){z:Str}(hz:z∈l.nm):(l.mi z≠[]/\(l.mi z).length<=4/\(l.mi z).Nodup/\∀x∈l.mi z,x∈l.pn)/\(z∈l.pn->l.mi z=[z]/\l.mz z="one"):=by
 have hd:=gk.mp ok.nd;have h1:z∈l.pn->l.group z=Fa:=λh=>gg.mpr λg hg e=>hd.2.2 z h g.1 (dw.mpr ⟨g,hg,Z'⟩) (by simpa using e:g.1=z).symm;refine⟨?_,λh=>by unfold pf.mi pf.mz;rw[h1 h];exact⟨Z',Z'⟩⟩;unfold pf.mi;cases e:l.group z with
 | none=>
  have hp:z∈l.pn:=by
   rcases dM.mp hz with h|h
   .exact h
   .obtain⟨g,hg,rfl⟩:=dw.mp h;exact absurd (gg.mp e g hg) (by simp)
  exact⟨fz _ _,by show 1<=4;decide,dN.mpr ⟨dP,eE⟩,λx hx=>by rw[c9.mp hx];exact hp⟩
 | some g=>obtain⟨c1,c2,c3,c4⟩:=HK (ok.go g (gh e)).mem;exact⟨c1,by show g.2.2.length<=4;lia,c3,c4⟩
def xY{V:qc}{f:oX->Str->Bool}{m x:Str}{Q:DK}{ok:Mp->Prop}(bd:pE a M A V)(hk:V.calls.length<=1000000)(mD:ok M)(hm:∀c wy ad md,(qZ c wy ad md).lookup m=Fa)(q:∀p,M p=Fa->Q (.ref p) (o9 M p (.lst ((V.calls.map λc=>f c x).map D.bl)))):
  uL (qV 0) Br (Aw m (λC s=>C=a.e/\s=xI f a) (v3 0) (vb (v3 1) xK)) ok Q (A.cs.map λk=>D.ref k.p) [] [Fa,ga (.str x)] M:=by
 have hz:=dH;refine wO (A.cs.map λk=>D.ref k.p) (λpre acc U M'=>M=M'/\acc=((V.calls.take pre.length).map λc=>f c x).map D.bl/\∃y,U=[y,ga (.str x)]) (λ_ _ _ M' j=>by rw[<-j.1];exact mD) _ [] [] _ _ Z' ?_ ⟨Z',Z',Fa,Z'⟩ ?_ ?_
 .rw[cR,bd.len];simp only[dB];lia
 .rintro pre d post e acc U M' ⟨rfl,rfl,y,rfl⟩ k hk
  obtain⟨ka,c,e1,e2,rfl,hc,et⟩:=IE bd e;obtain⟨_,_,g1,_⟩:=id hc;refine oU g1 ⟨hm _ _ _ _,_,⟨Z',Z'⟩,_,ka,c,x,Z',hc,hk _ _ _ ⟨Z',?_,_,Z'⟩⟩;rw[cU,dE,et,dF,dF];rfl
 .rintro acc U M' ⟨rfl,rfl,y,rfl⟩ p hp
  rw[cR,bd.len,fh];exact q p hp
def Cu:Fq P w K mg base 1 a.P LB:=by
 refine fq G.P.toDG zU (λr u=>⟨_,(oR (pH (pk u wb v0)
 (oS (oY (xw v0 (pW wb))))
 pB)
 (oS (oY rL))),?_⟩)
 rintro ds M Q ⟨r,bs,rfl,hr,q⟩
 have ei:inD (.bl Db) (bs.map D.bl)=(bs.findIdx? id).isSome:=by rw[<-Cv];exact(Lh _ _).symm
 refine i' hr ⟨Z',Cm bs,?_⟩;show if inD (.bl Db) (bs.map D.bl)=Db then _ else _
 rw[ei];cases e:bs.findIdx? id with
 | none=>rw[e]at q;exact⟨M,.refl,q⟩
 | some j=>rw[e]at q;exact Pa ⟨by show(nU M r).isSome=Db;rw[hr];rfl,i' hr ⟨Z',Cm bs,i' ((Cv bs).trans e) ⟨M,.refl,q⟩⟩⟩
def Oi:Fq P w K mg base 2 a.bF (EJ a):=by
 refine fq G.bF.toDG Dg (λr u=>⟨_,(oS (oY (pG qb Z' G.g pZ (pW (qv Z' (xc (ix:=[Fa,ga 1]) (N':=["call","phone"])) (qy (oZ v0)) (qh 0) (uW (uM (pO v0 G.e.toCls G.bJ (Sk G) r (pW U1)))) v0))))),?_⟩)
 rintro ds M Q ⟨A,V,x,rfl,bd,Xy,q⟩
 have hz:=dH;refine oU bd.at_ (i' Z' (i' bd.ca ?_));refine wj (A.cs.map λk=>D.ref k.p) (λpre acc U M'=>M=M'/\acc.length=((V.calls.take pre.length).filter (·.hasB x)).length/\∃y,U=[y,ga (.str x)]) (λ_ _ _ M' j=>by rw[<-j.1];exact bd.ca) _ [] [] _ _ Z' ?_ ⟨Z',Z',Fa,Z'⟩ ?_ ?_
 .rw[cR,bd.len];simp only[dB];lia
 .rintro pre d post e acc U M' ⟨rfl,ha,y,rfl⟩ k k2 hk YD
  obtain⟨ka,c,e1,e2,rfl,hc,et⟩:=IE bd e;rw[cU,dE,et,iz]at hk YD;obtain⟨_,_,g1,_⟩:=id hc;refine oU g1 ⟨Z',_,⟨Z',Z'⟩,_,ka,c,x,Z',hc,?_⟩;refine qx (c:=c.hasB x) (λg=>?_) (λg=>?_)
  .refine hk _ _ _ ⟨Z',?_,_,Z'⟩;rw[cU,cU,ha,gS (by exact g)];rfl
  .refine YD _ _ ⟨Z',?_,_,Z'⟩;rw[cU,ha,gT (by exact g)];rfl
 .rintro acc U M' ⟨rfl,ha,y,rfl⟩ p hp
  refine i' pj ⟨M,.new hp,?_⟩;rw[cR,bd.len,fh]at ha;rw[ha];exact q
def L6:Fq P w K mg base 3 a.bD (C5 a):=by
 refine fq G.bD.toDG BM (λr u=>⟨_,(oS (oY (pz (Cu G) r G.P (pW (qv Z' (xc (ix:=[Fa,ga 1]) (N':=["call","phone"])) (qy (oZ v0)) (qh 0) rk (pO v0 G.e.toCls G.bI (LG G) r (pW U1))))))),?_⟩)
 rintro ds M Q ⟨A,V,x,rfl,bd,Xy,q⟩
 refine oU bd.at_ (i' Z' (i' bd.ca (xY bd Xy bd.ca (λ_ _ _ _=>rfl) λp hp=>⟨p,_,Z',pj,M,.new hp,?_⟩)));rw[hG];exact q
def HC:Fq P w K mg base 3 a.bE (A6 a):=by
 refine fq G.bE.toDG Ah (λr u=>⟨_,(oS (oY (pz (Cu G) r G.P (pW (qv Z' (xc (ix:=[Fa,ga 1]) (N':=["call","phone"])) (qy (oZ v0)) (qh 0) rk (pO v0 G.e.toCls G.U (BN G) r (pW U1))))))),?_⟩)
 rintro ds M Q ⟨A,V,x,rfl,bd,Xy,q⟩
 refine oU bd.at_ (i' Z' (i' bd.ca (xY bd Xy bd.ca (λ_ _ _ _=>rfl) λp hp=>⟨p,_,Z',pj,M,.new hp,?_⟩)));rw[hG];exact q
def yR:Fq P w K mg base 3 a.V (AS a):=by
 refine fq G.V.toDG zW (λr u=>⟨_,(oS (oY (pz (Cu G) r G.P (pW (qv Z' (xc (ix:=[Fa,ga 1]) (N':=["call","phone"])) (qy (oZ v0)) (qh 0) rk (pO v0 G.e.toCls G.X (vN G) r (pW U1))))))),?_⟩)
 rintro ds M Q ⟨A,V,x,rfl,bd,Xy,q⟩
 refine oU bd.at_ (i' Z' (i' bd.ca (xY bd Xy bd.ca (λ_ _ _ _=>rfl) λp hp=>⟨p,_,Z',pj,M,.new hp,?_⟩)));rw[hG];exact q
def F8:Fq P w K mg base 3 a.bM (zX a):=by
 refine fq G.bM.toDG yZ (λr u=>⟨_,(oS (oY (pG (Sj Z') Z' G.cE Ry (pW (qv Z' (xc (ix:=[Fa,ga 1]) (N':=["call","phone"])) (qy (oZ v0)) (qh 0) rk (pO v0 G.e.toCls G.am (GV G) r (pW U1))))))),?_⟩)
 rintro ds M Q ⟨A,V,x,rfl,bd,Xy,q⟩
 refine oU bd.at_ (i' Z' (i' bd.ca (xY bd Xy bd.ca (λ_ _ _ _=>rfl) λp hp=>i' pj ?_)));rw[dU];refine i' (ye _ _) ⟨M,.new hp,?_⟩;rw[jE];exact q
def GD:Fq P w K mg base 1 a.bL (Al a):=by
 refine fq G.bL.toDG zm (λr u=>⟨_,(oS (oY (pL (pL (oZ v0) (oZ v0)) oV))),?_⟩)
 rintro ds M Q ⟨A,V,rfl,bd,q⟩
 exact oU bd.at_ (i' Z' (oU bd.at_ (i' Z' ⟨by decide,M,.refl,q⟩)))
def LI{l:pf}{x:Str}{v:uu}(h:l.mK x=ga v):wu l x=v.2.1:=by unfold wu;rw[h];rfl
def yL:Fq P w K mg base 3 a.T (w9 a):=by
 refine fq G.T.toDG zS (λr u=>⟨_,(oS (oY (pX u (pO v0 G.c.toCls G.bF (Oi G) r (pW U1)) (pO (oZ v0) G.h.toCls G.bG (Dc G) r (pW U1))))),?_⟩)
 rintro ds M Q ⟨A,V,l,x,rfl,rd,hx,q⟩
 obtain⟨ph,gr,ws,YE,pr,gd,rs,i1,_⟩:=rd.pl;obtain⟨v,hv⟩:=yG hx;refine oU rd.bd.at_ ⟨Z',_,⟨Z',Z'⟩,A,V,x,Z',rd.bd,rd.k,?_⟩;refine oU rd.bd.at_ (i' Z' (oU i1 ⟨Z',_,⟨Z',Z'⟩,V.p,x,v,l,Z',rd.pl,hv,?_⟩));unfold tH at q;rw[LI hv]at q;exact⟨M,.refl,q⟩
def AA:Fq P w K mg base 4 a.aL (Aa a):=by
 refine fq G.aL.toDG zg (λr u=>⟨_,(oS (oY (qv Z' (xc (ix:=[Fa,ga 1,ga 0]) (N':=["phone","caller","self"])) (qy (pO (oZ v0) G.h.toCls G.Y (tW G) r (pW U2))) (qh 0) (uW (W3.b3 (yE (pk u v0 U1) (ya (uM (pO U2 G.c.toCls G.T (yL G) r (pW v0))))))) v0))),?_⟩)
 rintro ds M Q ⟨A,V,l,c,z,rfl,rd,Yb,q⟩
 obtain⟨ph,gr,ws,YE,pr,gd,rs,i1,_⟩:=rd.pl;obtain⟨⟨_,p4,_,pin⟩,_⟩:=rd.ok.of Yb;refine oU rd.bd.at_ (i' Z' (oU i1 ⟨Z',_,⟨Z',Z'⟩,V.p,z,l,Z',rd.pl,λq1 X0=>i' pj ?_⟩));obtain⟨M1,e0,s1,c1⟩:=ub (ds:=List.map D.str (l.mi z)) X0;rw[<-e0];have hz:=dH;have Y0:=rd.sub s1;refine tz (f:=id) (t:=λd=>match d with|.str x=>!(x==c)&&tH l V x|_=>pc) c1 _ [] _ (by rw[cR];simp only[dB];lia) (λd hd k hk=>?_) (λd hd _ k hk=>?_) λq2 YK=>?_
 .obtain⟨x,hx,rfl⟩:=dw.mp hd;have hk:k (!(x==c)&&tH l V x) M1:=hk;cases e:x==c with
  | true=>rw[e]at hk;refine De (c:=!(x==c)) (by rw[e];rfl) hk
  | false=>rw[e]at hk;refine yj (c:=!(x==c)) (by rw[e];rfl) (oU Y0.bd.at_ ⟨Z',_,⟨Z',Z'⟩,A,V,l,x,Z',Y0,pin x hx,hk⟩)
 .obtain⟨x,hx,rfl⟩:=dw.mp hd;exact hk
 .have ef:[]++(List.filter (λd=>match d with|.str x=>!(x==c)&&tH l V x|_=>pc) ((l.mi z).map D.str)).map id=(ud l V c z).map D.str:=by rw[dX,iY,gY];rfl
  rw[ef];have t2:=qu.new (c:=.lst ((ud l V c z).map D.str)) YK;exact⟨_,.refl,q q2 _ (s1.trans t2) (s1.none YK) pj⟩
def Fp:Fq P w K mg base 5 a.Q (Oa a):=by
 refine fq G.Q.toDG HA (λr u=>⟨_,(oS (oY (pX u (pG qb Z' G.g pZ (pW (pO v0 G.c.toCls G.aL (AA G) r (rK U1 U2)))) oV))),?_⟩)
 rintro ds M Q ⟨A,V,l,c,z,rfl,rd,tg,q⟩
 refine oU rd.bd.at_ ⟨Z',_,⟨Z',Z'⟩,A,V,l,c,z,Z',rd,tg,λq1 M1 s1 X0 e1=>i' e1 ⟨M,s1,?_⟩⟩;have e:((((ud l V c z).map D.str).length:Int)==0)=xM l V c z:=by unfold xM;rw[cR,gj,eY,List.isEmpty_iff,<-gp];lia
 show Q (.bl ((((ud l V c z).map D.str).length:Int)==0)) M;rw[e];exact q
def wJ(a:Ad)(v:Wi):qY:=λds M Q=>JI λp A V l c z=>ds=[.ref p,.ref A.b,.str c,.str z]/\M p=ga (.ins (v.cls a) v.nj)/\Rd a M A V l/\z∈l.nm/\Ci l.pn l.nm v/\Q (.bl (AW l V c z v)) M
def QY(a:Ad)(v:Wi):qY:=λds M Q=>BK λp L k c=>ds=[.ref p,.ref (rA.p k)]/\M p=ga (.ins (v.cls a) v.nj)/\rM a M L k c/\Q (.bl (G1 c v)) M
def G5:qY:=λds M Q=>CM λx y=>ds=[x,y]/\Q (.bl pc) M
def MQ(a:Ad):lf->qY->Prop:=λC sp=>∃v:Wi,C=v.cls a/\sp=wJ a v
noncomputable def Mh(a:Ad):Wi->qY
 | .silent x y n=>QY a (.silent x y n)
 | _=>G5
def FR(a:Ad):lf->qY->Prop:=λC sp=>∃v:Wi,C=v.cls a/\sp=Mh a v
def Ab(a:Ad):qY:=λds M Q=>JI λp x y f l h=>ds=[.ref p,.int h]/\M p=ga (.ins a.n (Wi.night x y f l).nj)/\Q (.bl (FK f l h)) M
def za(a:Ad):qY:=λds M Q=>JI λp x q l r ms=>ds=[.ref p,.ref q,.ref r]/\M p=ga (.ins a.o (Wi.breaks x).nj)/\sJ a M q l/\nU M r=ga (List.map D.str ms)/\ms.length<=100/\x∈l.pn/\(∀m∈ms,m∈l.pn)/\Q (.bl (Hh l x ms)) M
def IV{l:pf}{x:Str}{v:uu}(h:l.mK x=ga v):vE l x=v.2.2:=by unfold vE;rw[h];rfl
def qX{ks:List rA}{i:Nat}{k:rA}(h:ks[i]?=ga k):vR (ks.map λk=>D.ref k.p) (i:Nat)=ga (.ref k.p):=uR (by rw[dq,h];rfl)
def Lf(ds:T0 D):L3.uf ds (ga (-1:Int)) Fa=ds.drop (ds.length - 1):=by
 unfold L3.uf;have e:HT.sS ds.length 0 (ga (-1:Int))=ds.length - 1:=by show(if (-1:Int)<0 then((-1:Int)+(ds.length:Int)).toNat else min (-1:Int).toNat ds.length)=ds.length - 1;rw[cX (by decide)];lia
 rw[e];show(ds.drop (ds.length - 1)).take (ds.length - (ds.length - 1))=_;exact e9 (by rw[fZ];exact cZ _)
theorem Dq{α:Type}:∀w:List α,w.drop (w.length - 1)=w.getLast?.toList
 | []=>rfl
 | [_]=>rfl
 | _::z::r=>by rw[List.getLast?_cons_cons,<-Dq (z::r)];rfl
def Qk{p q:lf}{w:QQQ}(h1:nU M p=ga ((w.map D.str).drop ((w.map D.str).length - 1)))(h2:nU M q=ga [D.str x]):yA M 9 (.ref p) (.ref q)=ga (w.getLast?==ga x):=by
 have e:(w.map D.str).drop ((w.map D.str).length - 1)=(w.getLast?.toList).map D.str:=by rw[cR,<-jg];rw[Dq]
 rw[e]at h1;show(nU M p).bind (λi=>(nU M q).bind λj=>if i.length=j.length then so (yA M 8) i j else ga pc)=_;rw[h1,h2];cases w.getLast? with
 | none=>rfl
 | some y=>show((ga (y==x)).bind λp=>(ga Db).map λq=>p&&q)=ga (ga y==ga x);show ga ((y==x)&&Db)=_;rw[Bool.and_true];rfl
def Ni(G:Gl K mg a)(x:Str)(ns:QQQ):Fq P w K mg base 6 a.aC (wJ a (.bar x ns)):=by
 refine fq G.aC.toDG Gb (λr u=>⟨_,(oS (oY (sN (pX u U2 (oZ v0)) (sm (pX u U3 (oZ v0)))))),?_⟩)
 rintro ds M Q ⟨p,A,V,l,c,z,rfl,hp,_,_,_,q⟩
 refine oU hp ?_;refine qx (c:=c==x) (λg=>oU hp ⟨Z',ql ns,M,.refl,?_⟩) (λg=>⟨M,.refl,?_⟩)
 .show Q (.bl (inD (.str z) (ns.map D.str))) M;rw[rX];dsimp only[AW]at q;rw[g,eG]at q;exact q
 .dsimp only[AW]at q;rw[show(c==x)=pc from dC.mpr g,eM]at q;exact q
def K1(G:Gl K mg a)(x:Str)(ns:QQQ):Fq P w K mg base 6 a.aD (wJ a (.shut x ns)):=by
 refine fq G.aD.toDG Fu (λr u=>⟨_,(oS (oY (sN (pX u U3 (oZ v0)) (sm (pX u U2 (oZ v0)))))),?_⟩)
 rintro ds M Q ⟨p,A,V,l,c,z,rfl,hp,_,_,_,q⟩
 refine oU hp ?_;refine qx (c:=z==x) (λg=>oU hp ⟨Z',ql ns,M,.refl,?_⟩) (λg=>⟨M,.refl,?_⟩)
 .show Q (.bl (inD (.str c) (ns.map D.str))) M;rw[rX];dsimp only[AW]at q;rw[g,eG]at q;exact q
 .dsimp only[AW]at q;rw[show(z==x)=pc from dC.mpr g,eM]at q;exact q
def LW(G:Gl K mg a)(x y:Str):Fq P w K mg base 6 a.aE (wJ a (.always x y)):=by
 refine fq G.aE.toDG CD (λr u=>⟨_,(oS (oY (pX u U3 (oZ v0)))),?_⟩)
 rintro ds M Q ⟨p,A,V,l,c,z,rfl,hp,_,_,_,q⟩
 exact oU hp ⟨M,.refl,q⟩
def GQ:Fq P w K mg base 1 a.bK (Ab a):=by
 refine fq G.bK.toDG zK (λr u=>⟨_,(oR (pH (pk u (oZ v0) (oZ v0))
 (oS (oY (tV u (oZ v0) U1 (oZ v0))))
 pB)
 (oS (oY (IS (pX u U1 (oZ v0)) (sm (pX u U1 (oZ v0))))))),?_⟩)
 rintro ds M Q ⟨p,x,y,f,l,h,rfl,hp,q⟩
 refine oU hp (oU hp ?_);show if (decide (f<l))=Db then _ else _
 unfold FK at q;by_cases z:f<l
 .rw[cX z]at q;refine yj (dI z) (oU hp ?_);refine qx (c:=decide (f<=h)) (λg=>?_) (λg=>?_)
  .rw[g,eG]at q;exact oU hp ⟨M,.refl,q⟩
  .rw[show decide (f<=h)=pc from dC.mpr g,eM]at q;exact⟨M,.refl,q⟩
 .rw[cW z]at q;refine De (dZ z) (oU hp ?_);refine qx (c:=decide (h>=f)) (λg=>?_) (λg=>?_)
  .rw[g,hU]at q;exact⟨M,.refl,q⟩
  .rw[show decide (h>=f)=pc from dC.mpr g,fE]at q;exact oU hp ⟨M,.refl,q⟩
def L9(G:Gl K mg a)(x y:Str)(f m:Int):Fq P w K mg base 6 a.aF (wJ a (.night x y f m)):=by
 refine fq G.aF.toDG CW (λr u=>⟨_,(oS (oY (sN (pX u U3 (oZ v0)) (sm (pO v0 G.n.toCls G.bK (GQ G) r (pW (vF U1 G.c.toCls G.bL (GD G) r))))))),?_⟩)
 rintro ds M Q ⟨p,A,V,l,c,z,rfl,hp,rd,_,_,q⟩
 dsimp only[AW]at q;refine oU hp ?_;refine qx (c:=z==x) (λg=>?_) (λg=>?_)
 .rw[g,eG]at q;exact oU hp ⟨Z',_,⟨Z',Z'⟩,oU rd.bd.at_ ⟨Z',_,⟨Z',Z'⟩,A,V,Z',rd.bd,p,x,y,f,m,_,Z',hp,M,.refl,q⟩⟩
 .rw[show(z==x)=pc from dC.mpr g,eM]at q;exact⟨M,.refl,q⟩
def Nj(G:Gl K mg a)(x y:Str):Fq P w K mg base 6 a.aG (wJ a (.busy x y)):=by
 refine fq G.aG.toDG Ey (λr u=>⟨_,(oS (oY (sN (pX u U3 (oZ v0)) (sm (pz (Fp G) r G.Q (ra U1 U2 U3)))))),?_⟩)
 rintro ds M Q ⟨p,A,V,l,c,z,rfl,hp,rd,hz,_,q⟩
 dsimp only[AW]at q;refine oU hp ?_;refine qx (c:=z==x) (λg=>?_) (λg=>?_)
 .rw[g,eG]at q;exact⟨A,V,l,c,z,Z',rd,hz,M,.refl,q⟩
 .rw[show(z==x)=pc from dC.mpr g,eM]at q;exact⟨M,.refl,q⟩
def Li(G:Gl K mg a)(x y:Str)(n:Int):Fq P w K mg base 6 a.aH (wJ a (.silent x y n)):=by
 refine fq G.aH.toDG BH (λr u=>⟨_,(oS (oY wb)),?_⟩)
 rintro ds M Q ⟨p,A,V,l,c,z,rfl,hp,rd,hz,_,q⟩
 exact⟨M,.refl,q⟩
def LJ(G:Gl K mg a)(x:Str):Fq P w K mg base 6 a.aI (wJ a (.wait x)):=by
 refine fq G.aI.toDG FD (λr u=>⟨_,(oR (pH (W3.b3 (yl (pk u U3 (oZ v0)) (xF (pk u U2 (oZ v0)))))
 (oS (oY wb))
 pB)
 (oS (oY (sN (pz (Fp G) r G.Q (ra U1 U2 U3)) (sm (Ta (pO U1 G.c.toCls G.bM (F8 G) r (pW U3)))))))),?_⟩)
 rintro ds M Q ⟨p,A,V,l,c,z,rfl,hp,rd,hz,_,q⟩
 dsimp only[AW]at q;refine oU hp ?_;refine qx (c:=!(z==x)) (λg=>?_) (λg=>?_)
 .rw[g,hU]at q;exact⟨M,.refl,q⟩
 rw[show(!(z==x))=pc from dC.mpr g,fE]at q;refine oU hp ?_;refine qx (c:=c==x) (λg=>?_) (λg=>?_)
 .rw[g]at q;exact⟨M,.refl,q⟩
 rw[cW g]at q;refine⟨A,V,l,c,z,Z',rd,hz,?_⟩;refine qx (c:=xM l V c z) (λg=>?_) (λg=>?_)
 .rw[g,eG]at q;exact oU rd.bd.at_ ⟨Z',_,⟨Z',Z'⟩,A,V,z,Z',rd.bd,rd.k,M,.refl,q⟩
 .rw[show xM l V c z=pc from dC.mpr g,eM]at q;exact⟨M,.refl,q⟩
def F1:Fq P w K mg base 2 a.bN (za a):=by
 refine fq G.bN.toDG vi (λr u=>⟨_,(oR (pC 3 vi (pO U1 G.h.toCls G.aM (zF G) r (pW (oZ v0))))
 (oS (oY (pG (FC Z') Z' G.bP Fs (pW (qv Z' (xc (ix:=[Fa,ga 1,ga 3]) (N':=["member","plan","rank"])) (qy U2) (qh 0) rk (pX u (pO U1 G.h.toCls G.aM (zF G) r (pW v0)) U2))))))),?_⟩)
 rintro ds M Q ⟨p,x,q,l,r,ms,rfl,hp,pl,lr,h100,hx,hm,k⟩
 have hz:=dH;obtain⟨v,hv⟩:=yG hx;obtain⟨ph,gr,ws,YE,pr,gd,rs,i1,_⟩:=id pl;refine oU i1 ⟨Z',_,⟨Z',Z'⟩,oU hp (i' Z' ⟨q,x,v,l,Z',pl,hv,?_⟩)⟩;refine i' lr (qP (f:=λd=>match d with|.str m=>.bl (decide (vE l m<vE l x))|_=>.mx) lr _ [] _ (by rw[cR];show 0+ms.length<=Uf;lia) (λd hd k0 hk=>?_) λp1 XZ=>?_)
 .obtain⟨m,hmm,rfl⟩:=dw.mp hd;obtain⟨u,hu⟩:=yG (hm m hmm);have hk:k0 (.bl (decide (vE l m<vE l x))) M:=hk;rw[IV hu,IV hv]at hk;exact oU i1 ⟨Z',_,⟨Z',Z'⟩,q,m,u,l,Z',pl,hu,hk⟩
 .have em:[]++(ms.map D.str).map (λd=>match d with|.str m=>.bl (decide (vE l m<vE l x))|_=>.mx)=ms.map λm=>D.bl (decide (vE l m<vE l x)):=by rw[dX,dU];rfl
  rw[em];refine i' pj (i' (ye (λm=>decide (vE l m<vE l x)) ms) ⟨M,.new XZ,?_⟩);unfold Hh at k;rw[zx];exact k
def Mg(G:Gl K mg a)(x:Str):Fq P w K mg base 6 a.aJ (wJ a (.breaks x)):=by
 refine fq G.aJ.toDG vj (λr u=>⟨_,(oR (pH (W3.b3 (yl (pk u U2 (oZ v0)) (xF (pk u U3 (oZ v0)))))
 (oS (oY wb))
 pB)
 (oR (pH (W3.b3 (yl (pk u U3 (vF (oZ U1) G.h.toCls G.O (sj G) r)) (xF (wB (uM (pz (Fp G) r G.Q (ra U1 U2 U3)))))))
 (oS (oY wb))
 pB)
 (oR (pC 4 vj (pO U1 G.c.toCls G.V (yR G) r (pW U3)))
 (oR (pH (pk u v4 rL)
 (oS (oY wb))
 pB)
 (oR (pC 5 vj (oZ (pA (oZ U1) v4)))
 (oS (oY (sN (pX u (pG qb Z' G.g pZ (pW v5)) oV) (sm (pO v0 G.o.toCls G.bN (F1 G) r (rK (oZ U1) v5))))))))))),?_⟩)
 rintro ds M Q ⟨p,A,V,l,c,z,rfl,hp,rd,Yb,hx,q⟩
 have hx:x∈l.pn:=qF.mp hx;obtain⟨ph,gr,ws,YE,pr,gd,rs,i1,_⟩:=rd.pl;have p8:=rd.ok.p8;dsimp only[AW,Hj]at q;refine oU hp ?_;refine qx (c:=!(c==x)) (λh1=>?_) (λh1=>?_)
 .rw[h1,hU]at q;exact⟨M,.refl,q⟩
 rw[show(!(c==x))=pc from dC.mpr h1,fE]at q;refine oU hp ?_;refine qx (c:=z==x) (λh2=>?_) (λh2=>?_)
 .rw[h2]at q;exact⟨M,.refl,q⟩
 rw[cW h2]at q;refine oU rd.bd.at_ (i' Z' (oU i1 ⟨Z',_,⟨Z',Z'⟩,V.p,l,Z',rd.pl,by lia,λq1 X0=>i' pj ⟨Z',ql _,?_⟩⟩));obtain⟨M1,e0,t,_⟩:=ub (ds:=l.pn.map D.str) X0;rw[<-e0];have XI:=rd.sub t;show if (!(inD (.str z) (l.pn.map D.str)))=Db then _ else _
 rw[rX];refine qx (c:=!(hasS l.pn z)) (λh3=>?_) (λh3=>?_)
 .rw[h3,hU]at q;exact⟨M,t,q⟩
 rw[show(!(hasS l.pn z))=pc from dC.mpr h3,fE]at q;refine⟨A,V,l,c,z,Z',XI,Yb,?_⟩;refine qx (c:=!(xM l V c z)) (λh4=>?_) (λh4=>?_)
 .rw[h4]at q;exact⟨M,t,q⟩
 rw[cW h4]at q;refine oU XI.bd.at_ ⟨Z',_,⟨Z',Z'⟩,A,V,z,Z',XI.bd,XI.k,?_⟩;cases e:vA V z with
 | none=>rw[e]at q;rw[show Ap V z=.mx from by unfold Ap;rw[e];rfl];exact⟨M,t,q⟩
 | some j=>
  rw[show Ap V z=.int (j:Nat)from by unfold Ap;rw[e];rfl];have hj:j<V.calls.length:=(gM.mp e).1;have e2:V.calls[j]?=ga V.calls[j]:=cT hj;rw[e]at q;generalize V.calls[j]=k at e2;have q:Q (.bl (((V.calls[j]?).elim pc λk=>(k.ms.length==2)&&Hh l x k.ms))) M:=q;rw[e2]at q;have hj:j<A.cs.length:=by rw[rd.bd.len];exact hj
  have ek:A.cs[j]?=ga A.cs[j]:=cT hj;obtain⟨ad,md,f1,f2,f3,f4,_⟩:=XI.bd.cs j _ k ek e2;refine oU XI.bd.at_ (i' Z' (i' Z' (i' XI.bd.ca (i' (qX ek) (oU f1 (i' Z' ?_))))));refine i' f4 ?_;have el:((((k.ms.map D.str).length:Nat):Int)==2)=(k.ms.length==2):=by rw[cR,gj,eY,eY];lia
  show if ((((k.ms.map D.str).length:Nat):Int)==2)=Db then _ else _
  rw[el];have q:Q (.bl ((k.ms.length==2)&&Hh l x k.ms)) M:=q;refine qx (c:=k.ms.length==2) (λh5=>?_) (λh5=>?_)
  .rw[h5,eG]at q;have hm:=rd.ms k (qW e2);refine oU (t _ _ hp) ⟨Z',_,⟨Z',Z'⟩,oU XI.bd.at_ (i' Z' ⟨p,x,V.p,l,md,k.ms,Z',t _ _ hp,XI.pl,f4,hm.2,hx,hm.1,M,t,q⟩)⟩
  .rw[show(k.ms.length==2)=pc from dC.mpr h5,eM]at q;exact⟨M,t,q⟩
def KZ:Fq P w K mg base 1 a.q G5:=by
 refine fq G.q.toDG BC (λr u=>⟨_,(oS (oY wb)),?_⟩)
 rintro ds M Q ⟨x,y,rfl,q⟩
 exact⟨M,.refl,q⟩
def Sv(G:Gl K mg a)(x y:Str)(n:Int):Fq P w K mg base 1 a.ax (QY a (.silent x y n)):=by
 refine fq G.ax.toDG Ae (λr u=>⟨_,(oS (oY (sN (pX u (qK (oZ U1) (rc (Fx oV)) rE) (qD (pW (oZ v0)))) (sm (pX u (oZ v0) (oZ U1)))))),?_⟩)
 rintro ds M Q ⟨p,L,k,c,rfl,hp,⟨ad,md,h1,h2,h3,h4,_⟩,q⟩
 refine oU h1 (i' Z' (i' h2 λp1 XZ=>?_));have t1:=qu.new (c:=.lst (L3.uf (c.way.map D.str) (ga (-1:Int)) Fa)) XZ;have l1:nU (o9 M p1 (.lst (L3.uf (c.way.map D.str) (ga (-1:Int)) Fa))) p1=ga ((c.way.map D.str).drop ((c.way.map D.str).length - 1)):=by rw[pj,Lf]
 show Af (o9 M p1 (.lst (L3.uf (c.way.map D.str) (ga (-1:Int)) Fa)) p) _;generalize o9 M p1 (.lst (L3.uf (c.way.map D.str) (ga (-1:Int)) Fa))=M1 at t1 l1 ⊢;refine oU (t1 _ _ hp) ⟨oP Z',λp2 Xe=>?_⟩;obtain⟨M2,e0,t2,l2⟩:=ub (ds:=[D.str x]) Xe;rw[<-e0];show Option.elim (yA M2 9 (.ref p1) (.ref p2)) False _;have s2:=t1.trans t2;refine i' (Qk (t2.lst l1) l2) ?_;dsimp only[G1]at q;refine qx (c:=c.way.getLast?==ga x) (λg=>?_) (λg=>?_)
 .rw[g,eG]at q;exact oU (s2 _ _ hp) (oU (s2 _ _ h1) ⟨M,s2,q⟩)
 .rw[show(c.way.getLast?==ga x)=pc from dC.mpr g,eM]at q;exact⟨M,s2,q⟩
def R9:∀C sp,MQ a C sp->xu P w K mg base 6 "fits" C (NU K sp):=by
 rintro C sp ⟨v,rfl,rfl⟩
 cases v with
 | bar x ns=>exact⟨G.t.toCls,_,_,_,G.aC.mQ,Ni G x ns,G.aC.b⟩
 | shut x ns=>exact⟨G.u.toCls,_,_,_,G.aD.mQ,K1 G x ns,G.aD.b⟩
 | always x y=>exact⟨G.x.toCls,_,_,_,G.aE.mQ,LW G x y,G.aE.b⟩
 | night x y f m=>exact⟨G.n.toCls,_,_,_,G.aF.mQ,L9 G x y f m,G.aF.b⟩
 | busy x y=>exact⟨G.y.toCls,_,_,_,G.aG.mQ,Nj G x y,G.aG.b⟩
 | silent x y n=>exact⟨G.v.toCls,_,_,_,G.aH.mQ,Li G x y n,G.aH.b⟩
 | wait x=>exact⟨G.w.toCls,_,_,_,G.aI.mQ,LJ G x,G.aI.b⟩
 | breaks x=>exact⟨G.o.toCls,_,_,_,G.aJ.mQ,Mg G x,G.aJ.b⟩
def TY:∀C sp,FR a C sp->xu P w K mg base 1 "is_due" C (NU K sp):=by
 rintro C sp ⟨v,rfl,rfl⟩
 have F:=KZ (P:=P) (w:=w) (base:=base) G;cases v with
 | silent x y n=>exact⟨G.v.toCls,_,_,_,G.ax.mQ,Sv G x y n,G.ax.b⟩
 | bar _ _=>exact⟨G.t.toCls,_,_,_,G.ci,F,G.q.b⟩
 | shut _ _=>exact⟨G.u.toCls,_,_,_,G.cj,F,G.q.b⟩
 | always _ _=>exact⟨G.x.toCls,_,_,_,G.ck,F,G.q.b⟩
 | night _ _ _ _=>exact⟨G.n.toCls,_,_,_,G.cl,F,G.q.b⟩
 | busy _ _=>exact⟨G.y.toCls,_,_,_,G.cm,F,G.q.b⟩
 | wait _=>exact⟨G.w.toCls,_,_,_,G.cn,F,G.q.b⟩
 | breaks _=>exact⟨G.o.toCls,_,_,_,G.co,F,G.q.b⟩
def IG{es pre post:T0 D}{d:D}(e:pre++d::post=uo 0 es):∃x,es[pre.length]?=ga x/\d=.tup [.int (pre.length:Nat),x]:=by
 have h:(uo 0 es)[pre.length]?=ga d:=by rw[<-e];simp
 rw[zA]at h;cases q:es[pre.length]? with
 | none=>rw[q]at h;cases h
 | some x=>rw[q]at h;refine⟨x,Z',?_⟩;have:=(de h).symm;rw[kI]at this;exact this
def vc(n:Nat):∀es:T0 D,(uo n es).length=es.length:=λes=>by
 have h:∀i:Nat,(uo n es)[i]?=Fa↔es[i]?=Fa:=λi=>by rw[zA];cases es[i]?<;>simp
 have a:=(h es.length).mpr (fL (cZ _));have b:=(h (uo n es).length).mp (fL (cZ _));rw[List.getElem?_eq_none_iff]at a b;lia
def IW{l:pf}{V:qc}{f:Wi->Bool}{tt:Am}{ok:Mp->Prop}{Q:DK}{M:Mp}{rest:T0 (Option D)}(hl:V.on.length=l.mo.length)(h16:l.mo.length<=16)(mD:ok M) (ht:∀(i:Nat) (w:ve),l.mo[i]?=ga w->∀(y:Option D) (k:Bool->Mp->Prop),k (f w.2) M->tt (ga (.int (i:Nat))::y::rest) M k) (q:∀p,M p=Fa->Q (.ref p) (o9 M p (.lst ((Hg l V f).map λn=>D.int (n:Nat))))):
  uL (QB 2 (xA (qV 0) (xA (qV 1) Cj))) (OO (b3 (v3 1)) tt) (v3 0) ok Q (uo 0 (V.on.map D.bl)) [] (Fa::Fa::rest) M:=by
 have hz:=dH;refine wj (uo 0 (V.on.map D.bl)) (λpre acc U M'=>M=M'/\acc=((List.range pre.length).filter λi=>V.on.getD i pc&&(l.mo[i]?).elim pc λw=>f w.2).map (λn=>D.int (n:Nat))/\∃y1 y2,U=y1::y2::rest) (λ_ _ _ M' j=>by rw[<-j.1];exact mD) _ [] [] _ _ Z' ?_ ⟨Z',Z',Fa,Fa,Z'⟩ ?_ ?_
 .rw[vc,cR,hl];simp only[dB];lia
 .rintro pre d post e acc U M' ⟨rfl,rfl,y1,y2,rfl⟩ k k2 hk YD
  obtain⟨x,hx,rfl⟩:=IG e;rw[cU,dE,jP,iz]at hk YD;rw[dq]at hx;cases eo:V.on[pre.length]? with
  | none=>rw[eo]at hx;cases hx
  | some b=>
   rw[eo]at hx;have hx:D.bl b=x:=de hx;subst hx;have hi:pre.length<l.mo.length:=by rw[<-hl];exact(cV.mp eo).1
   have ew:l.mo[pre.length]?=ga l.mo[pre.length]:=cT hi;generalize l.mo[pre.length]=w0 at ew;have eg:V.on.getD pre.length pc=b:=by rw[gC,eo];rfl
   have no:(b&&f w0.2)=pc->k2 (ga (.int (pre.length:Nat))::ga (.bl b)::rest) M:=λg=>by refine YD _ _ ⟨Z',?_,_,_,Z'⟩;rw[gT (by rw[eg,ew];show ¬(b&&f w0.2)=Db;rw[g];exact dv),iP,eD]
   refine⟨Z',?_⟩;show if b=Db then _ else _
   cases b with
   | false=>exact Ow (no Z')
   | true=>
    refine Pa (ht _ _ ew _ _ ?_);cases g:f w0.2 with
    | false=>exact Ow (no (by rw[g];rfl))
    | true=>refine Pa (hk _ _ _ ⟨Z',?_,_,_,Z'⟩);rw[gS (by rw[eg,ew];show(Db&&f w0.2)=Db;rw[g];rfl),iP,dF];rfl
 .rintro acc U M' ⟨rfl,rfl,y1,y2,rfl⟩ p hp
  rw[vc,cR];exact q p hp
def Bg(h:sr a M rs ws){i:Nat}{w:ve}(e:ws[i]?=ga w):∃r,vR (rs.map D.ref) (i:Nat)=ga (.ref r)/\M r=ga (.ins (w.2.cls a) w.2.nj):=by
 have hi:i<rs.length:=by rw[h.1];exact(cV.mp e).1
 exact⟨rs[i],uR (by rw[dq,cT hi];rfl),h.2 i _ w (cT hi) e⟩
def MO(ds:T0 D)(m:Nat):L3.uf ds Fa (ga (m:Int))=ds.take m:=by
 unfold L3.uf;rw[HT.zB,HT.zw,iW,jz];by_cases h:m<=ds.length
 .rw[im h]
 .rw[Nat.min_eq_right (by lia),fh,e9 (by lia)]
def Ij(ds:T0 D)(m:Nat)(h:m<=ds.length):L3.uf ds (ga (m:Int)) Fa=ds.drop m:=by unfold L3.uf;rw[HT.zB,HT.zw,im h];exact e9 (by rw[fZ];exact cZ _)
def tZ(l:pf)(V:qc):Prop:=∀z∈l.nm,(l.mz z=="turns")=Db->∃v,V.ps.find? (λp=>decide (p.1=z))=ga v/\0<=v.2/\v.2<=((l.mi z).length:Int)
def K'{V:qc}(h:tZ l V){z:Str}(hz:z∈l.nm)(e:(l.mz z=="turns")=Db):sR (sZ V.ps) (.inr z)=ga (.int (zL V z:Nat))/\zL V z<=(l.mi z).length:=by
 obtain⟨v,e1,e2,e3⟩:=h z hz e;have h1:zL V z=v.2.toNat:=by unfold zL;rw[e1];rfl
 have h2:sR (sZ V.ps) (.inr z)=(V.ps.find? λp=>decide (p.1=z)).map λp=>D.int p.2:=x9 (λp:Str×Int=>p.1) (λp=>D.int p.2) z V.ps;rw[h2,e1,h1];exact⟨by show ga (D.int v.2)=ga (.int (v.2.toNat:Nat));rw[Int.toNat_of_nonneg e2],by lia⟩
def HI(a:Ad):qY:=λds M Q=>EL λA V l c z=>ds=[.ref A.b,.str c,.str z]/\Rd a M A V l/\z∈l.nm/\Q (xx (DL l V c z)) M
def Pe(a:Ad):qY:=λds M Q=>EL λA V l c z=>ds=[.ref A.b,.str c,.str z]/\Rd a M A V l/\z∈l.nm/\tZ l V/\Q (names (xo l V c z)) M
def Nk(a:Ad):qY:=λds M Q=>EL λA V l c z=>ds=[.ref A.b,.str c,.str z]/\Rd a M A V l/\z∈l.nm/\tZ l V/\Q (He l V c z).d M
def JV:qY:=λds M Q=>DM λx r z=>ds=[.tup (.str x::r),.str z]/\Q (if (x=="wait")=Db then(uU.waits z).d else if (x=="break")=Db then(uU.breaks z).d else uU.barred.d) M
def rb(st:sI):T0 D:=st.map λs=>.tup [.str s.1,xx s.2]
def L'(a:Ad):qY:=λds M Q=>Tj λA V l c z r way=>ds=[.ref A.b,.str c,.str z,.ref r]/\Rd a M A V l/\z∈l.nm/\tZ l V/\nU M r=ga (List.map D.str way)/\way.length<=8000000/\∀q M',qu M M'->M q=Fa->nU M' q=ga (rb (uk l V c z way).2)->Q (.tup [(uk l V c z way).1.d,.ref q]) M'
def Fl{V:qc}{f:Wi->Bool}{i:Nat}(h:i∈Hg l V f):∃w,l.mo[i]?=ga w/\f w.2=Db:=by
 have h:=(fB.mp h).2;rw[dR]at h;cases e:l.mo[i]? with
 | none=>rw[e]at h;cases h.2
 | some w=>rw[e]at h;exact⟨w,Z',h.2⟩
def Js(l:pf)(way:QQQ):Nat:=(l.nm.filter λx=>!(hasS way x)).length
def Bd{l:pf}{z:Str}(hz:z∈l.nm)(h:hasS way z=pc):Js l (way++[z])<Js l way:=by
 unfold Js;have e:(l.nm.filter λx=>!(hasS (way++[z]) x))=(l.nm.filter λx=>!(hasS way x)).filter λx=>!(x==z):=by rw[List.filter_filter];refine List.filter_congr λx _=>?_;unfold hasS;rw[lN];show(!(way.any (·==x)||((z==x)||false)))=_;rw[je,Bool.not_or,Bool.and_comm,lT]
 rw[e];refine Nat.lt_of_le_of_ne (gA _ _) λg=>?_;have:=kx.mp (List.Sublist.eq_of_length fT g) z (fB.mpr ⟨hz,by rw[h];rfl⟩);simp at this
def BD(ok:qR l){w:ve}(hw:w∈l.mo){z y:Str}(h:Jz z w.2=.inr y):y∈l.nm:=by
 have o:=ok.wo w hw;cases e:w.2 with
 | bar _ _=>rw[e]at h;cases h
 | shut _ _=>rw[e]at h;cases h
 | always x u=>rw[e]at h o;cases h;exact qF.mp o.2.1
 | night x u f m=>rw[e]at h o;cases h;exact qF.mp o.2.1
 | busy x u=>rw[e]at h o;cases h;exact qF.mp o.2.1
 | silent x u n=>rw[e]at h o;cases h;exact qF.mp o.2.1
 | wait _=>rw[e]at h;cases h
 | breaks _=>rw[e]at h;cases h
theorem Em(x:Str):∀ss:QQQ,x∈ss->AD (.str x) (ss.map D.str)=ga (ss.findIdx (·==x))
 | [],h=>by cases h
 | y::r,h=>by
  rw[dW,List.findIdx_cons];unfold AD;show(if (y==x)=Db then ga 0 else(AD (.str x) (r.map D.str)).map (·+1))=_;cases e:y==x with
  | true=>rfl
  | false=>
   rw[cW dv];have hr:x∈r:=by
    rcases dg.mp h with g|g
    .rw[g,eU]at e;cases e
    .exact g
   rw[Em x r hr];rfl
def H9:Fq P w K mg base 7 a.aS (HI a):=by
 refine fq G.aS.toDG Bs (λr u=>⟨_,(oR (pC 3 Bs (oZ (oZ v0)))
 (oS (oY (qa uD Z' G.M uC (pW (qv Z' (xc (ix:=[Fa,Fa,ga 3,ga 0,ga 1,ga 2]) (N':=["i","on","wishes","board","caller","target"])) (wD Z' G.bV (pW (oZ v0))) (ua (n:=2) Z' (qg (qh 0) (qg (qh 1) sP))) (uW (W3.b3 (yE (uM U1) (ya (uM (FG (R:=MQ a) (pA U2 v0) (R9 G) (r.mono (by first|decide|lia)) (ra U3 v4 v5))))))) v0)))))),?_⟩)
 rintro ds M Q ⟨A,V,l,c,z,rfl,rd,hz,q⟩
 obtain⟨ph,gr,ws,YE,pr,gd,rs,i1,i2,i3,i4,i5,i6,i7,i8⟩:=rd.pl;refine oU rd.bd.at_ (i' Z' (oU i1 (i' Z' ?_)));refine oU rd.bd.at_ (i' Z' (i' rd.bd.on ?_));refine IW (rest:=[ga (.ref ws),ga (.ref A.b),ga (.str c),ga (.str z)]) rd.on rd.ok.w16 rd.bd.on (λi w0 ew y k hk=>?_) λp hp=>i' pj ⟨M,.new hp,q⟩;obtain⟨r,e1,e2⟩:=Bg i8 ew;refine i' i4 (i' e1 (oU e2 ⟨by cases w0.2<;>rfl,_,⟨w0.2,Z',Z'⟩,r,A,V,l,c,z,Z',e2,rd,hz,rd.ok.wo w0 (qW ew),hk⟩))
def PQ:Fq P w K mg base 5 a.aT (Pe a):=by
 refine fq G.aT.toDG sV (λr u=>⟨_,(oR (pC 3 sV (pO v0 G.c.toCls G.aL (AA G) r (rK U1 U2)))
 (oR (pH (pk u (pO (oZ v0) G.h.toCls G.aK (xQ G) r (pW U2)) oW)
 (oS (oY (qa uD Z' G.M uC (pW U3))))
 pB)
 (oR (pC 4 sV (pO (oZ v0) G.h.toCls G.Y (tW G) r (pW U2)))
 (oR (pC 5 sV (zM u (oZ v0) U2))
 (oR (sY (i:=6) sV.nd Z' (Or.inl Z') Z' (xc (ix:=[Fa,ga 3]) (N':=["phone","free"])) (qy (pL (qK v4 (rc v5) rE) (qK v4 rE (rc v5)))) (qh 0) (uW (pk u v0 U1)) v0)
 (oS (oY (qa uD Z' G.M uC (pW (qK v6 rE (rc oV))))))))))),?_⟩)
 rintro ds M Q ⟨A,V,l,c,z,rfl,rd,Yb,nx,q⟩
 have hz:=dH;have bd:=rd.bd;have pl:=rd.pl;obtain⟨ph,gr,ws,YE,pr,gd,rs,i1,_⟩:=rd.pl;obtain⟨⟨_,tf,_⟩,_⟩:=rd.ok.of Yb;refine oU bd.at_ ⟨Z',_,⟨Z',Z'⟩,A,V,l,c,z,Z',rd,Yb,λq1 M1 s1 X0 e1=>?_⟩;refine oU (s1 _ _ bd.at_) (i' Z' (oU (s1 _ _ i1) ⟨Z',_,⟨Z',Z'⟩,V.p,z,l,Z',pl.sub s1,?_⟩));unfold xo at q;cases e:l.mz z=="turns" with
 | false=>rw[e]at q;exact yj (c:=!(l.mz z=="turns")) (by rw[e];rfl) (i' e1 ⟨M,s1,q⟩)
 | true=>
  obtain⟨hn,nl⟩:=K' nx Yb e;generalize zL V z=n at hn nl q;rw[e,cX Z']at q;refine De (c:=!(l.mz z=="turns")) (by rw[e];rfl) ?_;refine oU (s1 _ _ bd.at_) (i' Z' (oU (s1 _ _ i1) ⟨Z',_,⟨Z',Z'⟩,V.p,z,l,Z',pl.sub s1,λq2 YK=>?_⟩));have s2:=s1.trans (qu.new (c:=.lst ((l.mi z).map D.str)) YK);have c2:=@pj M1 q2 ((l.mi z).map D.str);have e2:=(qu.new (c:=.lst ((l.mi z).map D.str)) YK).lst e1;generalize o9 M1 q2 (.lst ((l.mi z).map D.str))=M2 at s2 c2 e2 ⊢;refine oU (s2 _ _ bd.at_) (i' Z' (i' Z' (i' (s2.dk bd.nx) (i' hn ?_))));refine i' c2 λq3 hq3=>?_;rw[Ij _ n (by rw[cR];exact nl),<-jg];have t3:=qu.new (c:=.lst (((l.mi z).drop n).map D.str)) hq3;have c3':=@pj M2 q3 (((l.mi z).drop n).map D.str);generalize o9 M2 q3 (.lst (((l.mi z).drop n).map D.str))=M3 at t3 c3' ⊢;refine i' (t3.lst c2) λq4 hq4=>?_;rw[MO,<-iE];obtain⟨M4,e0,t4,c4⟩:=ub (ds:=((l.mi z).take n).map D.str) hq4;rw[<-e0];refine i' (t4.lst c3') (i' c4 ?_);refine⟨by rw[cR,cR,fZ,fg];lia,λq5 hq5=>i' pj ?_⟩;rw[<-dF];have t5:=qu.new (c:=.lst ((uI (l.mi z) n).map D.str)) hq5;have c5:=@pj M4 q5 ((uI (l.mi z) n).map D.str);show uL _ _ _ _ _ ((uI (l.mi z) n).map D.str) _ _ (o9 M4 q5 (.lst ((uI (l.mi z) n).map D.str)));generalize o9 M4 q5 (.lst ((uI (l.mi z) n).map D.str))=M5 at t5 c5 ⊢;have s5:=t3.trans (t4.trans t5);have e5:=s5.lst e2;have tl:(uI (l.mi z) n).length<=200:=by unfold uI;rw[cU,fZ,fg];lia
  refine tz (f:=id) (t:=λd=>inD d ((ud l V c z).map D.str)) c5 _ [] _ (by rw[cR];simp only[dB];lia) (λd hd k hk=>?_) (λd hd _ k hk=>?_) λq6 hq6=>?_
  .obtain⟨x,hx,rfl⟩:=dw.mp hd;exact i' e5 ⟨Z',ql _,hk⟩
  .obtain⟨x,hx,rfl⟩:=dw.mp hd;exact hk
  .have ef:[]++(List.filter (λd=>inD d ((ud l V c z).map D.str)) ((uI (l.mi z) n).map D.str)).map id=((uI (l.mi z) n).filter λx=>hasS (ud l V c z) x).map D.str:=by
    rw[dX,iY,gY];have:((λd=>inD d ((ud l V c z).map D.str))∘D.str)=λx=>hasS (ud l V c z) x:=by funext x;exact rX _ _
    rw[this]
   rw[ef];refine i' pj λq7 hq7=>i' pj ?_;rw[show L3.uf (((uI (l.mi z) n).filter λx=>hasS (ud l V c z) x).map D.str) Fa (ga (1:Int))=(((uI (l.mi z) n).filter λx=>hasS (ud l V c z) x).take 1).map D.str from(MO _ 1).trans (iE).symm];exact⟨M,s2.trans (s5.trans ((qu.new hq6).trans (.new hq7))),q⟩
def LX:Fq P w K mg base 6 a.aU (Nk a):=by
 refine fq G.aU.toDG uH (λr u=>⟨_,(oR (pC 3 uH (pz (PQ G) r G.aT (ra v0 U1 U2)))
 (oR (pH (pk u (pG qb Z' G.g pZ (pW U3)) oV)
 (oS (oY (pF (rK oW U2))))
 pB)
 (oS (oY (pF (ra oW U2 U3)))))),?_⟩)
 rintro ds M Q ⟨A,V,l,c,z,rfl,rd,hz,nx,q⟩
 refine⟨A,V,l,c,z,Z',rd,hz,nx,?_⟩;unfold He at q;cases e:xo l V c z with
 | nil=>rw[e]at q;exact⟨oP Z',M,.refl,q⟩
 | cons x r=>rw[e]at q;exact⟨oP Z',M,.refl,q⟩
def Ko:Fq P w K mg base 1 a.aV JV:=by
 refine fq G.aV.toDG Aj (λr u=>⟨_,(oR (pH (pk u (pA v0 oV) oW)
 (oS (oY (pF (rK oW U1))))
 pB)
 (oR (pH (pk u (pA v0 oV) oW)
 (oS (oY (pF (rK oW U1))))
 pB)
 (oS (oY (pF (pW oW)))))),?_⟩)
 rintro ds M Q ⟨x,r,z,rfl,q⟩
 refine i' (zp _ _) (qx (c:=x=="wait") (λg=>?_) (λg=>?_))
 .rw[cX g]at q;exact⟨oP Z',M,.refl,q⟩
 rw[cW g]at q;refine i' (zp _ _) (qx (c:=x=="break") (λg=>?_) (λg=>?_))
 .rw[cX g]at q;exact⟨oP Z',M,.refl,q⟩
 rw[cW g]at q;exact⟨oP Z',M,.refl,q⟩
def LQ:Fq P w K mg base 8 a.aW (L' a):=by
 refine fq G.aW.toDG vW (λr u=>⟨_,(oR (pC 4 vW (qa sf Z' G.r sd (pW U3)))
 (oR (pC 5 vW (qD rZ))
 (oR (K2 eR (pk u U2 v4)
 (oR (pD (qM v4 (pW U2)))
 (oR (pC 6 vW (pz (H9 G) r G.aS (ra v0 U1 U2)))
 (oR (pD (qM v5 (pW (pF (rK U2 v6)))))
 (oR (pH (pk u (pG qb Z' G.g pZ (pW v6)) oV)
 (oS (oY (pF (rK (pz (LX G) r G.aU (ra v0 U1 U2)) v5))))
 pB)
 (oR (pC 7 vW (Cf (R:=Jy a) (pA (oZ (oZ v0)) (pA v6 oV)) (OD G) (r.mono (by first|decide|lia))))
 (oR (pH (pk u (pA v7 oV) oW)
 (oS (oY (pF (rK (pz (Ko G) r G.aV (rK v7 U2)) v5))))
 pB)
 (oS (pC 2 vW (pA v7 oV))))))))))
 (oS (oY (pF (rK (pF (rK oW (qa uD Z' G.M uC (pW (qK v4 (rc (xw v4 (pW U2))) rE))))) v5))))))),?_⟩)
 rintro ds M Q ⟨A,V,l,c,z0,r,Yr,rfl,rd,hz0,nx,Z2,hw0,q⟩
 have hz:=dH;have p8:=rd.ok.p8;have g3:=rd.ok.g3;have nl:l.nm.length<=11:=by unfold pf.nm pf.pn pf.gn;rw[cU,cR,cR];lia
 refine i' Z2 λp1 XZ=>⟨oP Z',λp2 Xe=>?_⟩;have t1:=qu.new (c:=.lst (Yr.map D.str)) XZ;have t2:=qu.new (c:=.lst []) Xe;have c1:nU (o9 (o9 M p1 (.lst (Yr.map D.str))) p2 (.lst [])) p1=ga (Yr.map D.str):=t2.lst pj;have c2:=@pj (o9 M p1 (.lst (Yr.map D.str))) p2 [];have n12:p2≠p1:=λy=>by rw[y,pJ]at Xe;cases Xe
 have m2:M p2=Fa:=t1.none Xe;have s2:=t1.trans t2;generalize o9 (o9 M p1 (.lst (Yr.map D.str))) p2 (.lst [])=M2 at c1 c2 s2 ⊢;refine⟨λm U M'=>∃z way st,qu M M'/\nU M' p1=ga (List.map D.str way)/\nU M' p2=ga (rb st)/\z∈l.nm/\Js l way<m/\way.length+m<=8000012/\st.length+m<=100/\wG l V c m z way st=uk l V c z0 Yr/\∃y6 y7,U=[ga (.ref A.b),ga (.str c),ga (.str z),ga (.ref r),ga (.ref p1),ga (.ref p2),y6,y7],⟨l.nm.length+1,z0,Yr,[],s2,c1,c2,hz0,Nat.lt_succ_of_le (gA _ _),by lia,by show 0+(l.nm.length+1)<=100;lia,Z',Fa,Fa,Z'⟩,?_⟩
 rintro m U M' ⟨z,way,st,sM,l1,l2,Yb,Xl,hwl,hsl,er,y6,y7,rfl⟩
 obtain⟨m,rfl⟩:∃k,m=k+1:=⟨m - 1,by lia⟩;have q2:∀W9,qu M W9->nU W9 p2=ga (rb (wG l V c (m+1) z way st).2)->Q (.tup [(wG l V c (m+1) z way st).1.d,.ref p2]) W9:=λW9 s ll=>by rw[er]at ll ⊢;exact q p2 W9 s m2 ll
 clear q;unfold wG at er q2;refine i' l1 ⟨Z',ql way,?_⟩;show if (!(inD (.str z) (way.map D.str)))=Db then _ else _
 rw[rX];refine qx (c:=!(hasS way z)) (λh1=>?_) (λh1=>?_)
 rotate_left
 .
  have h1:hasS way z=Db:=by simpa using h1
  rw[cX h1]at q2;refine⟨by show(nU M' p1).isSome=Db;rw[l1];rfl,i' l1 ⟨Z',ql _,i' (Em z way (qF.mp h1)) (i' l1 λp3 Yx=>?_)⟩⟩;have Z3:way.findIdx (·==z)<=(way.map D.str).length:=by rw[cR];exact List.findIdx_le_length
  rw[Ij _ _ Z3,<-jg];refine i' pj ⟨oP Z',oP Z',_,.refl,q2 _ (sM.trans (.new Yx)) ((qu.new Yx).lst l2)⟩
 have h1:hasS way z=pc:=by simpa using h1
 rw[h1,cW dv]at er q2;refine⟨by show(nU M' p1).isSome=Db;rw[l1];rfl,i' l1 ⟨by rw[cR];lia,?_⟩⟩;have k3:rg p1 M' (o9 M' p1 (.lst (way.map D.str++[D.str z]))):=.put;have s3:qu M (o9 M' p1 (.lst (way.map D.str++[D.str z]))):=λx d hx=>by rw[tM (Io hx XZ)];exact sM x d hx
 have c3:=k3.lst n12 l2;have l3:nU (o9 M' p1 (.lst (way.map D.str++[D.str z]))) p1=ga ((way++[z]).map D.str):=by rw[pj,dF];rfl
 generalize o9 M' p1 (.lst (way.map D.str++[D.str z]))=M3 at s3 c3 l3 ⊢;refine⟨A,V,l,c,z,Z',rd.sub s3,Yb,?_⟩;generalize hf:DL l V c z=fs at er q2 ⊢;refine⟨by show(nU M3 p2).isSome=Db;rw[c3];rfl,oP Z',i' c3 ⟨by unfold rb;rw[cR];lia,?_⟩⟩;have es:rb st++[.tup [.str z,xx fs]]=rb (st++[(z,fs)]):=by unfold rb;rw[dF];rfl
 rw[es];have s4:qu M (o9 M3 p2 (.lst (rb (st++[(z,fs)])))):=λx d hx=>by rw[tM (Io hx m2)];exact s3 x d hx
 have c4:=@pj M3 p2 (rb (st++[(z,fs)]));have l4:nU (o9 M3 p2 (.lst (rb (st++[(z,fs)])))) p1=ga ((way++[z]).map D.str):=rg.lst .put (dQ n12) l3;generalize o9 M3 p2 (.lst (rb (st++[(z,fs)])))=M4 at s4 c4 l4 ⊢;cases fs with
 | nil=>exact⟨A,V,l,c,z,Z',rd.sub s4,Yb,nx,oP Z',M4,.refl,q2 M4 s4 c4⟩
 | cons i fr=>
  obtain⟨w0,ew,_⟩:=Fl (l:=l) (V:=V) (f:=AW l V c z) (i:=i) (by show i∈DL l V c z;rw[hf];exact dD);dsimp only at er q2;rw[ew]at er q2;dsimp only[Option.elim]at er q2;obtain⟨ph,gr,ws,YE,pr,gd,rs,i1,i2,i3,i4,i5,i6,i7,i8⟩:=(rd.sub s4).pl;obtain⟨ZC,e1,e2⟩:=Bg i8 ew;have hwo:=rd.ok.wo w0 (qW ew);have ZD:∀y,Jz z w0.2=.inr y->y∈l.nm:=λy h=>BD rd.ok (qW ew) h;refine oU (s4 _ _ rd.bd.at_) (i' Z' (oU i1 (i' Z' (i' (zp _ _) (i' i4 (i' e1 ?_))))));cases hv:w0.2 with
  | bar x ns=>rw[hv]at q2 e2;exact oU e2 ⟨Z',_,.inl ⟨.inl Z',Z'⟩,ZC,Z',⟨"end",[],z,Z',oP Z',M4,.refl,q2 M4 s4 c4⟩⟩
  | shut x ns=>rw[hv]at q2 e2;exact oU e2 ⟨Z',_,.inl ⟨.inr Z',Z'⟩,ZC,Z',⟨"end",[],z,Z',oP Z',M4,.refl,q2 M4 s4 c4⟩⟩
  | wait x=>rw[hv]at q2 e2;exact oU e2 ⟨Z',_,.inr (.inr (.inl ⟨Z',Z'⟩)),ZC,_,_,_,Z',e2,Z',⟨"wait",_,z,Z',oP Z',M4,.refl,q2 M4 s4 c4⟩⟩
  | breaks x=>rw[hv]at q2 e2;exact oU e2 ⟨Z',_,.inr (.inr (.inr ⟨Z',Z'⟩)),ZC,Z',⟨"break",_,z,Z',oP Z',M4,.refl,q2 M4 s4 c4⟩⟩
  | always x y=>rw[hv]at er e2 ZD;exact oU e2 ⟨Z',_,.inr (.inl ⟨.inl Z',Z'⟩),ZC,_,_,_,Z',e2,Z',⟨m,fD _,y,way++[z],st++[(z,i::fr)],s4,l4,c4,ZD y Z',by have:=Bd Yb h1;lia,by rw[cU];show way.length+1+m<=_;lia,by rw[cU];show st.length+1+m<=_;lia,er,_,_,Z'⟩⟩
  | night x y f mm=>rw[hv]at er e2 ZD;exact oU e2 ⟨Z',_,.inr (.inl ⟨.inr (.inl Z'),Z'⟩),ZC,_,_,_,Z',e2,Z',⟨m,fD _,y,way++[z],st++[(z,i::fr)],s4,l4,c4,ZD y Z',by have:=Bd Yb h1;lia,by rw[cU];show way.length+1+m<=_;lia,by rw[cU];show st.length+1+m<=_;lia,er,_,_,Z'⟩⟩
  | busy x y=>rw[hv]at er e2 ZD;exact oU e2 ⟨Z',_,.inr (.inl ⟨.inr (.inr (.inl Z')),Z'⟩),ZC,_,_,_,Z',e2,Z',⟨m,fD _,y,way++[z],st++[(z,i::fr)],s4,l4,c4,ZD y Z',by have:=Bd Yb h1;lia,by rw[cU];show way.length+1+m<=_;lia,by rw[cU];show st.length+1+m<=_;lia,er,_,_,Z'⟩⟩
  | silent x y n=>rw[hv]at er e2 ZD;exact oU e2 ⟨Z',_,.inr (.inl ⟨.inr (.inr (.inr Z')),Z'⟩),ZC,_,_,_,Z',e2,Z',⟨m,fD _,y,way++[z],st++[(z,i::fr)],s4,l4,c4,ZD y Z',by have:=Bd Yb h1;lia,by rw[cU];show way.length+1+m<=_;lia,by rw[cU];show st.length+1+m<=_;lia,er,_,_,Z'⟩⟩
noncomputable def yV(V:qc)(i:Nat)(c:oX):qc:={V with calls:=V.calls.set i c}
def rR(V:qc)(i:Nat)(c d:oX):yV (yV V i c) i d=yV V i d:=by unfold yV;rw[jB]
structure CI(a:Ad)(M:Mp)(A:tR)(V:qc)(i:Nat)(k:rA)(c:oX):Prop where
 bd:pE a M A V
 e1:A.cs[i]?=ga k
 e2:V.calls[i]?=ga c
noncomputable def cF(x:Str)(wy ad md:lf)(k:Nat):T0 (Str×D):=List.take (α:=Str×D) k [("state",.str "rings"),("caller",.str x),("way",.ref wy),("at",.ref ad),("members",.ref md),("holder",.mx),("since",.int 0)]
variable {M':Mp}{i:Nat}{k:rA}
section
variable {c:oX}
def CI.cell(h:CI a M A V i k c):rM a M (A.lists++V.fo) k c:=h.bd.cs i k c h.e1 h.e2
def CI.sub(h:CI a M A V i k c)(s:qu M M'):CI a M' A V i k c:=⟨h.bd.sub s,h.e1,h.e2⟩
def CI.put(h:CI a M A V i k c)(c':oX){ad md:lf}(ew:c'.way=c.way)(la:nU M ad=ga (c'.at_.map D.str))(lm:nU M md=ga (c'.ms.map D.str))(na:ad∉A.lists++V.fo)(nm:md∉A.lists++V.fo):
  CI a (o9 M k.p (.ins a.e (qZ c' k.wy ad md))) A (yV V i c') i k c'/\qN A M A (o9 M k.p (.ins a.e (qZ c' k.wy ad md))):=by
 obtain⟨b,s⟩:=h.bd.nO h.e1 h.e2 ew la lm na nm;refine⟨⟨b,h.e1,?_⟩,s⟩;show(V.calls.set i c')[i]?=ga c';rw[fu (cV.mp h.e2).1]
end
inductive Qz(i:Nat)(c:oX):Ev->oX->Prop
 | rings (ps:QQQ):Qz i c (.rings i ps) (c.ring ps)
 | quiet:Qz i c (.quiet i) c.mS
 | waits (x:Str):Qz i c (.waits i x) (c.wait x)
 | talks (ms:QQQ):Qz i c (.talks i ms) (c.mR ms)
 | held (x:Str):Qz i c (.held i x) (c.hold x)
 | leaves (x:Str):Qz i c (.leaves i x) (c.drop x)
 | over (w:Str):Qz i c (.over i w) (c.over w)
def F4(a:Ad):qY:=λds M Q=>CM λp x=>ds=[.ref p,.str x]/\M p=ga (.ins a.e [])/\∀M' wy ad md,rg p M M'->M wy=Fa->M ad=Fa->M md=Fa->ad≠wy->md≠wy->M' p=ga (.ins a.e (qZ (xW x) wy ad md))->nU M' wy=ga []->nU M' ad=ga []->nU M' md=ga []->Q .mx M'
def Pq(a:Ad):qY:=λds M Q=>JI λA V i k c w=>ds=[.ref k.p,.str w]/\CI a M A V i k c/\∀M',qN A M A M'->pE a M' A (yV V i (c.over w))->Q .mx M'
def LP(a:Ad):qY:=λds M Q=>JI λA V i k c x=>ds=[.ref k.p,.str x]/\CI a M A V i k c/\c.at_.length<=100/\c.ms.length<=100/\∀M',qN A M A M'->pE a M' A (yV V i (c.drop x))->Q .mx M'
def Ky(a:Ad):qY:=λds M Q=>Tj λA V i k c e c'=>ds=[.ref k.p,Ev.d e]/\CI a M A V i k c/\c.at_.length<=100/\c.ms.length<=100/\Qz i c e c'/\∀M',qN A M A M'->pE a M' A (yV V i c')->Q .mx M'
def PU:Fq P w K mg base 1 a.al (F4 a):=by
 refine fq G.al.toDG Ex (λr u=>⟨_,(oR (pU v0 oW)
 (oR (pU v0 U1)
 (oR (pU v0 (qD rZ))
 (oR (pU v0 (qD rZ))
 (oR (pU v0 (qD rZ))
 (oR (pU v0 rL)
 (oR (pU v0 oV)
 (oS (pU v0 rL))))))))),?_⟩)
 rintro ds M Q ⟨p,x,rfl,hb,q⟩
 refine oU hb ⟨(G.j "state" Z'),by show 0<1000;decide,?_⟩;have k1:rg p M (o9 M p (.ins a.e [("state",.str "rings")])):=.put;have b1:o9 M p (.ins a.e [("state",.str "rings")]) p=ga (.ins a.e [("state",.str "rings")]):=pJ;show uj _ _ _ _ (o9 M p (.ins a.e [("state",.str "rings")]));generalize o9 M p (.ins a.e [("state",.str "rings")])=N1 at k1 b1 ⊢;refine oU b1 ⟨(G.j "caller" Z'),by show 1<1000;decide,?_⟩;have k2:=k1.trans (rg.put (p:=p) (c:=.ins a.e [("state",.str "rings"),("caller",.str x)]));have b2:o9 N1 p (.ins a.e [("state",.str "rings"),("caller",.str x)]) p=ga (.ins a.e [("state",.str "rings"),("caller",.str x)]):=pJ;show uj _ _ _ _ (o9 N1 p (.ins a.e [("state",.str "rings"),("caller",.str x)]));generalize o9 N1 p (.ins a.e [("state",.str "rings"),("caller",.str x)])=N2 at k2 b2 ⊢;refine⟨oP Z',λwy hwy=>?_⟩;obtain⟨n3,e3,k3,c3,b3⟩:=sQ (fs':=(cF x wy 0 0 3)) (c:=.lst []) b2 hwy;refine oU e3 ⟨(G.j "way" Z'),by show 2<1000;decide,?_⟩;show uj _ _ _ _ (o9 (o9 N2 wy (.lst [])) p (.ins a.e (cF x wy 0 0 3)));generalize o9 (o9 N2 wy (.lst [])) p (.ins a.e (cF x wy 0 0 3))=N3 at k3 c3 b3 ⊢;have z1:M wy=Fa:=rq k2 b2 hwy;have kk3:=k2.trans k3;have l3:nU N3 wy=ga []:=sy c3;refine⟨oP Z',λad Zn=>?_⟩;obtain⟨n4,e4,k4,c4,b4⟩:=sQ (fs':=(cF x wy ad 0 4)) (c:=.lst []) b3 Zn;refine oU e4 ⟨(G.j "at" Z'),by show 3<1000;decide,?_⟩;show uj _ _ _ _ (o9 (o9 N3 ad (.lst [])) p (.ins a.e (cF x wy ad 0 4)));generalize o9 (o9 N3 ad (.lst [])) p (.ins a.e (cF x wy ad 0 4))=N4 at k4 c4 b4 ⊢;have z2:M ad=Fa:=rq kk3 b3 Zn;have Y9:=kk3.trans k4;have naw:ad≠wy:=λz=>by rw[z,c3]at Zn;cases Zn
 have l4:=k4.lst (pK l3 b3) l3;have m4:nU N4 ad=ga []:=sy c4;refine⟨oP Z',λmd hmd=>?_⟩;obtain⟨n5,e5,k5,c5,b5⟩:=sQ (fs':=(cF x wy ad md 5)) (c:=.lst []) b4 hmd;refine oU e5 ⟨(G.j "members" Z'),by show 4<1000;decide,?_⟩;show uj _ _ _ _ (o9 (o9 N4 md (.lst [])) p (.ins a.e (cF x wy ad md 5)));generalize o9 (o9 N4 md (.lst [])) p (.ins a.e (cF x wy ad md 5))=N5 at k5 c5 b5 ⊢;have z3:M md=Fa:=rq Y9 b4 hmd;have Za:=Y9.trans k5;have nmw:md≠wy:=λz=>by rw[z,pP l4]at hmd;cases hmd
 have l5:=k5.lst (pK l4 b4) l4;have m5:=k5.lst (pK m4 b4) m4;have o5:nU N5 md=ga []:=sy c5;refine oU b5 ⟨(G.j "holder" Z'),by show 5<1000;decide,?_⟩;have k6:rg p N5 (o9 N5 p (.ins a.e (cF x wy ad md 6))):=.put;have b6:o9 N5 p (.ins a.e (cF x wy ad md 6)) p=ga (.ins a.e (cF x wy ad md 6)):=pJ;show uj _ _ _ _ (o9 N5 p (.ins a.e (cF x wy ad md 6)));generalize o9 N5 p (.ins a.e (cF x wy ad md 6))=N6 at k6 b6 ⊢;refine oU b6 ⟨(G.j "since" Z'),by show 6<1000;decide,?_⟩;have k7:=k6.trans (rg.put (p:=p) (c:=.ins a.e (cF x wy ad md 7)));have b7:o9 N6 p (.ins a.e (cF x wy ad md 7)) p=ga (.ins a.e (cF x wy ad md 7)):=pJ;rw[show vK "since" (.int 0) (cF x wy ad md 6)=(cF x wy ad md 7)from Z'];generalize o9 N6 p (.ins a.e (cF x wy ad md 7))=N7 at k7 b7 ⊢;refine oU b7 ⟨(G.j "word" Z'),by show 7<1000;decide,_,.refl,?_⟩;have k8:=k7.trans (rg.put (p:=p) (c:=.ins a.e (qZ (xW x) wy ad md)));exact q _ wy ad md (Za.trans k8) z1 z2 z3 naw nmw pJ (k8.lst (pK l5 b5) l5) (k8.lst (pK m5 b5) m5) (k8.lst (pK o5 b5) o5)
def IF:Fq P w K mg base 1 a.ab (Pq a):=by
 refine fq G.ab.toDG Gx (λr u=>⟨_,(oR (pU v0 oW)
 (oR (pU v0 U1)
 (oR (pU v0 (qD rZ))
 (oR (pU v0 (qD rZ))
 (oS (pU v0 rL)))))),?_⟩)
 rintro ds M Q ⟨A,V,i,k,c,w0,rfl,h,q⟩
 obtain⟨ad,md,h1,h2,h3,h4,n1,n2⟩:=h.cell;refine oU h1 ⟨(G.j "state" Z'),by show 8<1000;decide,?_⟩;obtain⟨g1,s1⟩:=h.put {c with st:="over"} Z' h3 h4 n1 n2;show uj _ _ _ _ (o9 M k.p (.ins a.e (qZ {c with st:="over"} k.wy ad md)));generalize o9 M k.p (.ins a.e (qZ {c with st:="over"} k.wy ad md))=M1 at g1 s1 ⊢;clear h1 h2 h3 h4 n1 n2;obtain⟨ad,md,h1,h2,h3,h4,n1,n2⟩:=g1.cell;refine oU h1 ⟨(G.j "word" Z'),by show 8<1000;decide,?_⟩;obtain⟨g2,s2⟩:=g1.put {c with st:="over",wd:=some w0} Z' h3 h4 n1 n2;show uj _ _ _ _ (o9 M1 k.p (.ins a.e (qZ {c with st:="over",wd:=some w0} k.wy ad md)));generalize o9 M1 k.p (.ins a.e (qZ {c with st:="over",wd:=some w0} k.wy ad md))=M2 at g2 s2 ⊢;clear h1 h2 h3 h4 n1 n2;refine⟨oP Z',λp hp=>?_⟩;have t3:=qu.new (c:=.lst []) hp;have lp:=@pj M2 p [];have np:=g2.bd.mT hp;have ZE:=g2.sub t3;have s2':=s2.trans (.sub t3);generalize o9 M2 p (.lst [])=M2' at t3 lp ZE s2' ⊢;obtain⟨ad,md,h1,h2,h3,h4,n1,n2⟩:=ZE.cell;refine oU h1 ⟨(G.j "at" Z'),by show 8<1000;decide,?_⟩;obtain⟨g3,s3⟩:=ZE.put {c with st:="over",wd:=some w0,at_:=[]} Z' lp h4 np n2;show uj _ _ _ _ (o9 M2' k.p (.ins a.e (qZ {c with st:="over",wd:=some w0,at_:=[]} k.wy p md)));generalize o9 M2' k.p (.ins a.e (qZ {c with st:="over",wd:=some w0,at_:=[]} k.wy p md))=M3 at g3 s3 ⊢;clear h1 h2 h3 h4 n1 n2 lp t3 np g2 ZE;refine⟨oP Z',λp2 Xe=>?_⟩;have t4:=qu.new (c:=.lst []) Xe;have lp:=@pj M3 p2 [];have np:=g3.bd.mT Xe;have ZF:=g3.sub t4;have s3':=s3.trans (.sub t4);generalize o9 M3 p2 (.lst [])=M3' at t4 lp ZF s3' ⊢;obtain⟨ad,md,h1,h2,h3,h4,n1,n2⟩:=ZF.cell;refine oU h1 ⟨(G.j "members" Z'),by show 8<1000;decide,?_⟩;obtain⟨g4,s4⟩:=ZF.put {c with st:="over",wd:=some w0,at_:=[],ms:=[]} Z' h3 lp n1 np;rw[show vK "members" (.ref p2) (qZ {c with st:="over",wd:=some w0,at_:=[]} k.wy ad md)=qZ {c with st:="over",wd:=some w0,at_:=[],ms:=[]} k.wy ad p2 from rfl];generalize o9 M3' k.p (.ins a.e (qZ {c with st:="over",wd:=some w0,at_:=[],ms:=[]} k.wy ad p2))=M4 at g4 s4 ⊢;clear h1 h2 h3 h4 n1 n2 lp t4 np g3 ZF;obtain⟨ad,md,h1,h2,h3,h4,n1,n2⟩:=g4.cell;refine oU h1 ⟨(G.j "holder" Z'),by show 8<1000;decide,_,.refl,?_⟩;obtain⟨g5,s5⟩:=g4.put (c.over w0) Z' h3 h4 n1 n2;refine q _ ((s1.trans s2').trans (s3'.trans (s4.trans s5))) ?_;have:=g5.bd;rw[rR,rR,rR,rR]at this;exact this
def K5:Fq P w K mg base 1 a.aQ (LP a):=by
 refine fq G.aQ.toDG CV (λr u=>⟨_,(oR (pU v0 (qv Z' (xc (ix:=[Fa,ga 1]) (N':=["other","phone"])) (qy (oZ v0)) (qh 0) (uW (pk u v0 U1)) v0))
 (oS (pU v0 (qv Z' (xc (ix:=[Fa,ga 1]) (N':=["other","phone"])) (qy (oZ v0)) (qh 0) (uW (pk u v0 U1)) v0)))),?_⟩)
 rintro ds M Q ⟨A,V,i,k,c,x,rfl,h,la,lm,q⟩
 have hz:=dH;obtain⟨ad,md,h1,h2,h3,h4,n1,n2⟩:=h.cell;refine oU h1 (i' Z' (i' h3 (tz (f:=id) (t:=P' x) h3 _ [] _ (by rw[cR];simp only[dB];lia) (λd hd k0 hk=>?_) (λd hd _ k0 hk=>?_) λp hp=>?_)))
 .obtain⟨y,hy,rfl⟩:=dw.mp hd;exact hk
 .obtain⟨y,hy,rfl⟩:=dw.mp hd;exact hk
 rw[Cd];obtain⟨M1,e0,t1,lp⟩:=ub (ds:=(r6 c.at_ x).map D.str) hp;rw[<-e0];have np:=h.bd.mT hp;have h':=h.sub t1;have s1:qN A M A M1:=.sub t1;clear h1 h2 h3 h4 n1 n2;obtain⟨ad,md,h1,h2,h3,h4,n1,n2⟩:=h'.cell;refine oU h1 ⟨(G.j "at" Z'),by show 8<1000;decide,?_⟩;obtain⟨g2,s2⟩:=h'.put {c with at_:=r6 c.at_ x} Z' lp h4 np n2;rw[show vK "at" (.ref p) (qZ c k.wy ad md)=qZ {c with at_:=r6 c.at_ x} k.wy p md from rfl];generalize o9 M1 k.p (.ins a.e (qZ {c with at_:=r6 c.at_ x} k.wy p md))=M2 at g2 s2 ⊢;clear h1 h2 h3 h4 n1 n2 lp np;obtain⟨ad,md,h1,h2,h3,h4,n1,n2⟩:=g2.cell;refine oU h1 (i' Z' (i' h4 (tz (f:=id) (t:=P' x) h4 _ [] _ (by rw[cR];simp only[dB];show 0+c.ms.length<=Uf;lia) (λd hd k0 hk=>?_) (λd hd _ k0 hk=>?_) λp2 Xe=>?_)))
 .obtain⟨y,hy,rfl⟩:=dw.mp hd;exact hk
 .obtain⟨y,hy,rfl⟩:=dw.mp hd;exact hk
 rw[Cd];obtain⟨M3,e0,t3,lp⟩:=ub (ds:=(r6 c.ms x).map D.str) Xe;rw[<-e0];have np:=g2.bd.mT Xe;have ZE:=g2.sub t3;have s3:qN A M2 A M3:=.sub t3;clear h1 h2 h3 h4 n1 n2;obtain⟨ad,md,h1,h2,h3,h4,n1,n2⟩:=ZE.cell;refine oU h1 ⟨(G.j "members" Z'),by show 8<1000;decide,_,.refl,?_⟩;obtain⟨g4,s4⟩:=ZE.put (c.drop x) Z' h3 lp n1 np;refine q _ ((s1.trans s2).trans (s3.trans s4)) ?_;have:=g4.bd;rw[rR]at this;exact this
def JK:Fq P w K mg base 2 a.aR (Ky a):=by
 refine fq G.aR.toDG xn (λr u=>⟨_,(oR (pC 2 xn (pA U1 oV))
 (oS (pH (pk u U2 oW)
 (oR (pU v0 oW)
 (oR (pU v0 (qa sf Z' G.r sd (pW (pA U1 oV))))
 (oS (pU v0 oV))))
 (oS (pH (pk u U2 oW)
 (oS (pU v0 (qD rZ)))
 (oS (pH (pk u U2 oW)
 (oR (pU v0 oW)
 (oS (pU v0 (qD (pW (pA U1 oV))))))
 (oS (pH (pk u U2 oW)
 (oR (pU v0 oW)
 (oR (pU v0 (qa sf Z' G.r sd (pW (pA U1 oV))))
 (oR (pU v0 (qD rZ))
 (oS (pU v0 rL)))))
 (oS (pH (pk u U2 oW)
 (oR (pU v0 oW)
 (oS (pU v0 (pA U1 oV))))
 (oS (pH (pk u U2 oW)
 (oS (pD (pz (K5 G) r G.aQ (rK v0 (pA U1 oV)))))
 (oS (pH (pk u U2 oW)
 (oS (pD (pz (IF G) r G.ab (rK v0 (pA U1 oV)))))
 pB))))))))))))))),?_⟩)
 rintro ds M Q ⟨A,V,i,k,c,e,c',rfl,h,la,lm,hc,q⟩
 cases hc with
 | over w0=>exact⟨A,V,i,k,c,w0,Z',h,λM' s b=>⟨M',.refl,q M' s b⟩⟩
 | leaves x=>exact⟨A,V,i,k,c,x,Z',h,la,lm,λM' s b=>⟨M',.refl,q M' s b⟩⟩
 | quiet=>refine⟨oP Z',λp hp=>?_⟩;obtain⟨M1,e0,t3,lp⟩:=ub (ds:=[]) hp;rw[<-e0];have np:=h.bd.mT hp;have g1:=h.sub t3;obtain⟨ad,md,h1,h2,h3,h4,n1,n2⟩:=g1.cell;refine oU h1 ⟨(G.j "at" Z'),by show 8<1000;decide,_,.refl,?_⟩;obtain⟨g5,s5⟩:=g1.put c.mS Z' lp h4 np n2;exact q _ ((qN.sub t3).trans s5) g5.bd
 | waits x=>obtain⟨ad,md,h1,h2,h3,h4,n1,n2⟩:=h.cell;refine oU h1 ⟨(G.j "state" Z'),by show 8<1000;decide,?_⟩;obtain⟨g1,s1⟩:=h.put {c with st:="waits"} Z' h3 h4 n1 n2;show uj _ _ _ _ (o9 M k.p (.ins a.e (qZ {c with st:="waits"} k.wy ad md)));generalize o9 M k.p (.ins a.e (qZ {c with st:="waits"} k.wy ad md))=M1 at g1 s1 ⊢;clear h1 h2 h3 h4 n1 n2;refine⟨oP Z',λp hp=>?_⟩;have t3:=qu.new (c:=.lst [D.str x]) hp;have lp:=@pj M1 p [D.str x];have np:=g1.bd.mT hp;have Y1:=g1.sub t3;generalize o9 M1 p (.lst [D.str x])=M1' at t3 lp Y1 ⊢;obtain⟨ad,md,h1,h2,h3,h4,n1,n2⟩:=Y1.cell;refine oU h1 ⟨(G.j "at" Z'),by show 8<1000;decide,_,.refl,?_⟩;obtain⟨g5,s5⟩:=Y1.put (c.wait x) Z' lp h4 np n2;refine q _ (s1.trans ((qN.sub t3).trans s5)) ?_;have:=g5.bd;rw[rR]at this;exact this
 | held x=>obtain⟨ad,md,h1,h2,h3,h4,n1,n2⟩:=h.cell;refine oU h1 ⟨(G.j "state" Z'),by show 8<1000;decide,?_⟩;obtain⟨g1,s1⟩:=h.put {c with st:="held"} Z' h3 h4 n1 n2;show uj _ _ _ _ (o9 M k.p (.ins a.e (qZ {c with st:="held"} k.wy ad md)));generalize o9 M k.p (.ins a.e (qZ {c with st:="held"} k.wy ad md))=M1 at g1 s1 ⊢;clear h1 h2 h3 h4 n1 n2;obtain⟨ad,md,h1,h2,h3,h4,n1,n2⟩:=g1.cell;refine oU h1 ⟨(G.j "holder" Z'),by show 8<1000;decide,_,.refl,?_⟩;obtain⟨g5,s5⟩:=g1.put (c.hold x) Z' h3 h4 n1 n2;refine q _ (s1.trans s5) ?_;have:=g5.bd;rw[rR]at this;exact this
 | rings ps=>obtain⟨ad,md,h1,h2,h3,h4,n1,n2⟩:=h.cell;refine oU h1 ⟨(G.j "state" Z'),by show 8<1000;decide,?_⟩;obtain⟨g1,s1⟩:=h.put {c with st:="rings"} Z' h3 h4 n1 n2;show uj _ _ _ _ (o9 M k.p (.ins a.e (qZ {c with st:="rings"} k.wy ad md)));generalize o9 M k.p (.ins a.e (qZ {c with st:="rings"} k.wy ad md))=M1 at g1 s1 ⊢;clear h1 h2 h3 h4 n1 n2;refine λp hp=>?_;have t3:=qu.new (c:=.lst (ps.map D.str)) hp;have lp:=@pj M1 p (ps.map D.str);have np:=g1.bd.mT hp;have Y1:=g1.sub t3;have s1':=s1.trans (.sub t3);generalize o9 M1 p (.lst (ps.map D.str))=M1' at t3 lp Y1 s1' ⊢;obtain⟨ad,md,h1,h2,h3,h4,n1,n2⟩:=Y1.cell;refine oU h1 ⟨(G.j "at" Z'),by show 8<1000;decide,?_⟩;obtain⟨g3,s3⟩:=Y1.put {c with st:="rings",at_:=ps} Z' lp h4 np n2;rw[show vK "at" (.ref p) (qZ {c with st:="rings"} k.wy ad md)=qZ {c with st:="rings",at_:=ps} k.wy p md from rfl];generalize o9 M1' k.p (.ins a.e (qZ {c with st:="rings",at_:=ps} k.wy p md))=M3 at g3 s3 ⊢;clear h1 h2 h3 h4 n1 n2 lp t3 np;obtain⟨ad,md,h1,h2,h3,h4,n1,n2⟩:=g3.cell;refine oU h1 ⟨(G.j "since" Z'),by show 8<1000;decide,_,.refl,?_⟩;obtain⟨g5,s5⟩:=g3.put (c.ring ps) Z' h3 h4 n1 n2;refine q _ (s1'.trans (s3.trans s5)) ?_;have:=g5.bd;rw[rR,rR]at this;exact this
 | talks ms=>obtain⟨ad,md,h1,h2,h3,h4,n1,n2⟩:=h.cell;refine oU h1 ⟨(G.j "state" Z'),by show 8<1000;decide,?_⟩;obtain⟨g1,s1⟩:=h.put {c with st:="talks"} Z' h3 h4 n1 n2;show uj _ _ _ _ (o9 M k.p (.ins a.e (qZ {c with st:="talks"} k.wy ad md)));generalize o9 M k.p (.ins a.e (qZ {c with st:="talks"} k.wy ad md))=M1 at g1 s1 ⊢;clear h1 h2 h3 h4 n1 n2;refine λp hp=>?_;have t3:=qu.new (c:=.lst (ms.map D.str)) hp;have lp:=@pj M1 p (ms.map D.str);have np:=g1.bd.mT hp;have Y1:=g1.sub t3;have s1':=s1.trans (.sub t3);generalize o9 M1 p (.lst (ms.map D.str))=M1' at t3 lp Y1 s1' ⊢;obtain⟨ad,md,h1,h2,h3,h4,n1,n2⟩:=Y1.cell;refine oU h1 ⟨(G.j "members" Z'),by show 8<1000;decide,?_⟩;obtain⟨g3,s3⟩:=Y1.put {c with st:="talks",ms:=ms} Z' h3 lp n1 np;show uj _ _ _ _ (o9 M1' k.p (.ins a.e (qZ {c with st:="talks",ms:=ms} k.wy ad p)));generalize o9 M1' k.p (.ins a.e (qZ {c with st:="talks",ms:=ms} k.wy ad p))=M3 at g3 s3 ⊢;clear h1 h2 h3 h4 n1 n2 lp t3 np;refine⟨oP Z',λp2 Xe=>?_⟩;have t4:=qu.new (c:=.lst []) Xe;have lp:=@pj M3 p2 [];have np:=g3.bd.mT Xe;have ZF:=g3.sub t4;have s3':=s3.trans (.sub t4);generalize o9 M3 p2 (.lst [])=M3' at t4 lp ZF s3' ⊢;obtain⟨ad,md,h1,h2,h3,h4,n1,n2⟩:=ZF.cell;refine oU h1 ⟨(G.j "at" Z'),by show 8<1000;decide,?_⟩;obtain⟨g4,s4⟩:=ZF.put {c with st:="talks",ms:=ms,at_:=[]} Z' lp h4 np n2;rw[show vK "at" (.ref p2) (qZ {c with st:="talks",ms:=ms} k.wy ad md)=qZ {c with st:="talks",ms:=ms,at_:=[]} k.wy p2 md from rfl];generalize o9 M3' k.p (.ins a.e (qZ {c with st:="talks",ms:=ms,at_:=[]} k.wy p2 md))=M4 at g4 s4 ⊢;clear h1 h2 h3 h4 n1 n2 lp t4 np;obtain⟨ad,md,h1,h2,h3,h4,n1,n2⟩:=g4.cell;refine oU h1 ⟨(G.j "holder" Z'),by show 8<1000;decide,_,.refl,?_⟩;obtain⟨g5,s5⟩:=g4.put (c.mR ms) Z' h3 h4 n1 n2;refine q _ (s1'.trans (s3'.trans (s4.trans s5))) ?_;have:=g5.bd;rw[rR,rR,rR]at this;exact this
theorem tq{α:Type}{f:α->α}:∀{l:List α} {i:Nat} {c:α},l[i]?=ga c->l.modify i f=l.set i (f c)
 | [],_,_,h=>by simp at h
 | _::_,0,_,h=>by cases h;rfl
 | x::r,i+1,c,h=>by rw[List.modify_succ_cons,kO,tq (l:=r) (by simpa using h)]
def Hz(ps:T0 (Str×Int))(z:Str)(n:Int):wn (sZ ps) (.inr z) (.int n)=sZ (Ct ps z n):=by
 have ea:((sZ ps).any λkv=>decide (kv.1=(Sum.inr z:qJ)))=ps.any λp=>decide (p.1=z):=by unfold sZ;rw[jE];congr 1;funext p;have:((Sum.inr p.1:qJ)=Sum.inr z)=(p.1=z):=propext ⟨λh=>jQ h,λh=>by rw[h]⟩;simp only[Function.comp,this]
 unfold wn Ct;rw[ea];by_cases h:(ps.any λp=>decide (p.1=z))=Db
 .rw[cX h,cX h];unfold sZ;rw[dU,dU];refine fK λp _=>?_;by_cases hp:p.1=z
  .simp[hp]
  .have:¬(Sum.inr p.1:qJ)=Sum.inr z:=λy=>hp (jQ y);simp[hp]
 .rw[cW h,cW h];unfold sZ;rw[dF];rfl
def GU{α:Type}{l:List α}{i:Nat}{x:α}(h:l[i]?=ga x):l.set i x=l:=by obtain⟨hi,e⟩:=cV.mp h;rw[<-e,List.set_getElem_self]
structure WM(V:qc):Prop where
 lo:V.log.length<10000000
 le:V.mC.length<10000000
 ca:V.calls.length<=1000000
 ps:V.ps.length<10000000
 cs:∀c∈V.calls,c.way.length<10000000/\c.at_.length<=100/\c.ms.length<=100
def AZ(a:Ad):qY:=λds M Q=>EL λA V k c v=>ds=[.ref A.b,rh.d v]/\CI a M A V v.i k c/\V.mC.length<10000000/\c.way.length<10000000/\∀M',qN A M A M'->pE a M' A {yV V v.i (c.go v.g)with mC:=V.mC++[v]}->Q .mx M'
def Di(a:Ad):qY:=λds M Q=>Ti λA V i j ki ci cj ms=>ds=[.ref A.b,.int (i:Nat),.int (j:Nat),names ms]/\CI a M A V i ki ci/\V.calls[j]?=ga cj/\i≠j/\V.mC.length<10000000/\∀M' A',A'.b=A.b->qN A M A' M'->pE a M' A' {yV (yV V i (ci.over "merged")) j (cj.mem ms)with mC:=V.mC.map (rh.to i j)}->Q .mx M'
def zo(a:Ad):qY:=λds M Q=>CM λA V=>ds=[.ref A.b]/\pE a M A V/\∀M',qN A M A M'->pE a M' A {V with t:=V.t+1,calls:=V.calls.map oX.tick}->Q .mx M'
def vO(a:Ad):qY:=λds M Q=>BK λb A V e=>ds=[.ref b,Ev.d e]/\A.b=b/\pE a M A V/\WM V/\e.ok V/\∀M' A',A'.b=A.b->qN A M A' M'->pE a M' A' (pM V e)->Q .mx M'
noncomputable def Rz(m k:Nat):D->D
 | .tup (.int i::r)=>if i=(m:Int)then .tup (.int (k:Nat)::r)else .tup (.int i::r)
 | d=>d
def SJ(m k:Nat)(v:rh):Rz m k v.d=(v.to m k).d:=by
 show(if ((v.i:Nat):Int)=(m:Int)then _ else _)=_;unfold rh.to;by_cases h:v.i=m
 .rw[cX h,cX (by rw[h])];rfl
 .rw[cW h,cW (by lia)];rfl
def Hm:Fq P w K mg base 1 a.bA (AZ a):=by
 refine fq G.bA.toDG Ai (λr u=>⟨_,(oR (pD (qM (oZ v0) (pW U1)))
 (oS (pD (qM (oZ (pA (oZ v0) (pA U1 oV))) (pW (pA U1 oV)))))),?_⟩)
 rintro ds M Q ⟨A,V,k,c,v,rfl,ci,l1,l2,q⟩
 have hz:=dH;have bd:=ci.bd;refine oU bd.at_ (i' Z' ⟨by show(nU M A.le).isSome=Db;rw[bd.le];rfl,i' bd.le ⟨by rw[cR];lia,?_⟩⟩);obtain⟨b1,s1⟩:=bd.og (es:=V.mC++[v]);rw[dF]at b1 s1;have b1:pE a (o9 M A.le (.lst (V.mC.map rh.d++[v.d]))) A {V with mC:=V.mC++[v]}:=b1;have s1:qN A M A (o9 M A.le (.lst (V.mC.map rh.d++[v.d]))):=s1;generalize o9 M A.le (.lst (V.mC.map rh.d++[v.d]))=M1 at b1 s1 ⊢;obtain⟨ad,md,h1,h2,h3,h4,n1,n2⟩:=b1.cs v.i k c ci.e1 ci.e2;refine oU b1.at_ (i' Z' (i' b1.ca (i' (qX ci.e1) (oU h1 (i' Z' ⟨by show(nU M1 k.wy).isSome=Db;rw[h2];rfl,i' h2 ⟨by rw[cR];lia,?_⟩⟩)))));obtain⟨b2,s2⟩:=b1.nV (ws:=c.way++[v.g]) ci.e1 ci.e2;rw[dF]at b2 s2;exact⟨_,.refl,q _ (s1.trans s2) b2⟩
def MJ:Fq P w K mg base 2 a.bB (Di a):=by
 refine fq G.bB.toDG xB (λr u=>⟨_,(oR (pD (pz (IF G) r G.ab (rK (pA (oZ v0) U1) oW)))
 (oR (pU v0 (qv Z' (xc (ix:=[Fa,ga 1,ga 2]) (N':=["leg","merged","kept"])) (qy (oZ v0)) (qh 0) rk (JA (pk u (pA v0 oV) U1) (pL (pF (pW U2)) (qK v0 (rc oV) rE)) v0)))
 (oR (pC 4 xB (pA (oZ v0) U2))
 (oS (pU v4 (qa sf Z' G.r sd (pW U3))))))),?_⟩)
 rintro ds M Q ⟨A,V,i,j,ki,ci,cj,ms,rfl,hi,hj,X6,l1,q⟩
 have hz:=dH;refine oU hi.bd.at_ (i' Z' (i' Z' (i' hi.bd.ca (i' (qX hi.e1) ⟨A,V,i,ki,ci,"merged",Z',hi,λM1 s1 b1=>?_⟩))));have hj1:(yV V i (ci.over "merged")).calls[j]?=ga cj:=by show(V.calls.set i _)[j]?=_;rw[ft X6];exact hj
 have le1:nU M1 A.le=ga (V.mC.map rh.d):=b1.le;refine oU b1.at_ (i' Z' (i' le1 (qP (f:=Rz i j) le1 _ [] _ (by rw[cR];simp only[dB];lia) (λd hd k hk=>?_) λp hp=>?_)))
 .obtain⟨v,_,rfl⟩:=dw.mp hd;refine i' Z' ?_;have hk:k (if ((v.i:Nat):Int)=(i:Int)then .tup [.int (j:Nat),.str v.f,.str v.g,.str v.y]else .tup [.int (v.i:Nat),.str v.f,.str v.g,.str v.y]) M1:=hk;refine qx (c:=((v.i:Nat):Int)==(i:Nat)) (λz=>?_) (λz=>?_)
  .rw[cX (ZB z)]at hk;exact⟨oP Z',fz _ _,by show 1+3<=Uf;lia,hk⟩
  .rw[cW (λy=>z (by rw[y];exact eU _))]at hk;exact hk
 have em:[]++(V.mC.map rh.d).map (Rz i j)=(V.mC.map (rh.to i j)).map rh.d:=by rw[dX,dU,dU];exact fK λv _=>SJ i j v
 rw[em];obtain⟨b2,s2⟩:=b1.n9 (es:=V.mC.map (rh.to i j)) hp;have t:=qu.new (c:=.lst ((V.mC.map (rh.to i j)).map rh.d)) hp;refine oU (t _ _ b1.at_) ⟨(G.C "legs" Z'),by show 8<1000;decide,?_⟩;show uj _ _ _ _ (o9 (o9 M1 p (.lst ((V.mC.map (rh.to i j)).map rh.d))) A.b (.ins a.c (tF (.ref V.p) V.h V.t A.ca p A.nx A.on A.lo)));have b2:pE a (o9 (o9 M1 p (.lst ((V.mC.map (rh.to i j)).map rh.d))) A.b (.ins a.c (tF (.ref V.p) V.h V.t A.ca p A.nx A.on A.lo))) {A with le:=p} {yV V i (ci.over "merged")with mC:=V.mC.map (rh.to i j)}:=b2;have s2:qN A M1 {A with le:=p} (o9 (o9 M1 p (.lst ((V.mC.map (rh.to i j)).map rh.d))) A.b (.ins a.c (tF (.ref V.p) V.h V.t A.ca p A.nx A.on A.lo))):=s2;generalize o9 (o9 M1 p (.lst ((V.mC.map (rh.to i j)).map rh.d))) A.b (.ins a.c (tF (.ref V.p) V.h V.t A.ca p A.nx A.on A.lo))=M2 at b2 s2 ⊢;have hjk:j<A.cs.length:=by rw[hi.bd.len];exact(cV.mp hj).1
 have ej:A.cs[j]?=ga A.cs[j]:=cT hjk;generalize A.cs[j]=kj at ej;have cj2:CI a M2 {A with le:=p} _ j kj cj:=⟨b2,ej,hj1⟩;refine oU b2.at_ (i' Z' (i' Z' (i' b2.ca (i' (qX ej) ?_))));refine λr Z2=>?_;obtain⟨M3,e0,t3,lr⟩:=ub (ds:=ms.map D.str) Z2;rw[<-e0];have nr:=b2.mT Z2;have cj3:=cj2.sub t3;obtain⟨ad,md,h1,h2,h3,h4,n1,n2⟩:=cj3.cell;refine oU h1 ⟨(G.j "members" Z'),by show 8<1000;decide,_,.refl,?_⟩;obtain⟨g5,s5⟩:=cj3.put (cj.mem ms) Z' h3 lr n1 nr;exact q _ {A with le:=p} Z' (s1.trans (s2.trans ((qN.sub t3).trans s5))) g5.bd
def Et:Fq P w K mg base 1 a.bC (zo a):=by
 refine fq G.bC.toDG vd (λr u=>⟨_,(oR (D4 v0 oV)
 (oS (uh eR Z' (qy (oZ v0)) (rN 1 vd)
 (oS (pH (pk u (oZ U1) oW)
 (oS (D4 U1 oV))
 pB))))),?_⟩)
 rintro ds M Q ⟨A,V,rfl,bd,q⟩
 refine oU bd.at_ ⟨(G.C "turn" Z'),i' Z' (i' Z' (oU bd.at_ ⟨Z',by show 8<1000;decide,?_⟩))⟩;obtain⟨b1,s1⟩:=bd.putT (t:=V.t+1);rw[show vK "turn" (.int (V.t+1)) (tF (.ref V.p) V.h V.t A.ca A.le A.nx A.on A.lo)=tF (.ref V.p) V.h (V.t+1) A.ca A.le A.nx A.on A.lo from rfl];generalize o9 M A.b (.ins a.c (tF (.ref V.p) V.h (V.t+1) A.ca A.le A.nx A.on A.lo))=M1 at b1 s1 ⊢;refine oU b1.at_ (i' Z' (i' b1.ca ?_));refine uY (A.cs.map λk=>D.ref k.p) (λpre U M'=>pE a M' A {V with t:=V.t+1,calls:=(V.calls.take pre.length).map oX.tick++V.calls.drop pre.length}/\qN A M A M'/\∃y,U=[ga (.ref A.b),y]) (λ_ _ M' j=>j.1.ca) _ [] _ _ Z' ⟨b1,s1,Fa,Z'⟩ ?_ ?_
 .rintro pre d post e U M' ⟨b2,s2,y,rfl⟩ nx Xf
  have hd:(A.cs.map λk=>D.ref k.p)[pre.length]?=ga d:=by rw[<-e];simp
  rw[dq]at hd;cases ek:A.cs[pre.length]? with
  | none=>rw[ek]at hd;cases hd
  | some k=>
   rw[ek]at hd;have hd:D.ref k.p=d:=de hd;subst hd;have hi:pre.length<V.calls.length:=by rw[<-bd.len];exact(cV.mp ek).1
   have ec:V.calls[pre.length]?=ga V.calls[pre.length]:=cT hi;have ed:V.calls.drop pre.length=V.calls[pre.length]::V.calls.drop (pre.length+1):=il hi;have et:V.calls.take (pre.length+1)=V.calls.take pre.length++[V.calls[pre.length]]:=by rw[fH,ec];rfl
   generalize V.calls[pre.length]=c at ec ed et;have hl:((V.calls.take pre.length).map oX.tick).length=pre.length:=by rw[cR,fg];lia
   have ec2:((V.calls.take pre.length).map oX.tick++V.calls.drop pre.length)[pre.length]?=ga c:=by rw[eP (by rw[hl];exact cZ _),hl,gP,ed];rfl
   rw[cU,dE,et]at Xf;have en:((V.calls.take pre.length).map oX.tick++V.calls.drop pre.length).set pre.length c.tick=(V.calls.take pre.length++[c]).map oX.tick++V.calls.drop (pre.length+1):=by rw[j4 _ _ (by rw[hl];exact cZ _),hl,gP,ed,dF,eN];rfl
   have ci:CI a M' A _ pre.length k c:=⟨b2,ek,ec2⟩;obtain⟨ad,md,h1,h2,h3,h4,n1,n2⟩:=ci.cell;refine oU h1 (i' Z' ?_);have ht:c.tick=if (c.st=="rings")=Db then{c with si:=c.si+1}else c:=rfl;refine qx (c:=c.st=="rings") (λg=>?_) (λg=>?_)
   .rw[cX g]at ht;refine oU h1 ⟨(G.j "since" Z'),i' Z' (i' Z' (oU h1 ⟨Z',by show 8<1000;decide,?_⟩))⟩;obtain⟨g5,s5⟩:=ci.put c.tick (by rw[ht]) (by rw[ht];exact h3) (by rw[ht];exact h4) n1 n2;have b5:=g5.bd;unfold yV at b5;rw[en]at b5;rw[ht]at b5 s5;exact Xf _ _ ⟨b5,s2.trans s5,_,Z'⟩
   .rw[cW g]at ht;rw[ht,GU ec2]at en;rw[en]at b2;exact Xf _ _ ⟨b2,s2,_,Z'⟩
 .rintro U M' ⟨b2,s2,y,rfl⟩
  rw[cR,bd.len,fh,jA,eD]at b2;exact⟨M',.refl,q M' s2 b2⟩
def qO:Fq P w K mg base 3 a.k (vO a):=by
 refine fq G.k.toDG xV (λr u=>⟨_,(oR (pD (qM (oZ v0) (pW U1)))
 (oR (pC 2 xV (pA U1 oV))
 (oS (pH (pk u U2 oW)
 (oS (pD (qM (oZ v0) (pW (uX (PU G) r G.e G.b9 G.al.toDG (pW (pA U1 oV)))))))
 (oS (pH (pk u U2 oW)
 (oS (pD (pO v0 G.c.toCls G.bA (Hm G) r (pW (qK U1 (rc oV) rE)))))
 (oS (pH (pk u U2 oW)
 (oS (NW u (oZ v0) (pA U1 oV) (pA U1 oV)))
 (oS (pH (pk u U2 oW)
 (oS (pD (pO v0 G.c.toCls G.bB (MJ G) r (ra (pA U1 oV) (pA U1 oV) (pA U1 oV)))))
 (oS (pH (pk u U2 oW)
 (oS (pD (vF v0 G.c.toCls G.bC (Et G) r)))
 (oS (pH (pk u U2 (pF (rK oW oW)))
 (oS (Rg (pX u U2 oW) (Q8 (oZ v0) (pA U1 oV))))
 (oS (pH (pk u U2 oW)
 (oS (pD (pz (JK G) r G.aR (rK (pA (oZ v0) (pA U1 oV)) U1))))
 pB)))))))))))))))),?_⟩)
 rintro ds M Q ⟨_,A,V,e,rfl,rfl,bd,lim,ev,q⟩
 have hz:=dH;have ll:=lim.lo;have lc:=lim.ca;have lp:=lim.ps;refine oU bd.at_ (i' Z' ⟨by show(nU M A.lo).isSome=Db;rw[bd.lo];rfl,i' bd.lo ⟨by rw[cR];lia,?_⟩⟩);have hb:=bd.nZ (es:=V.log++[e]);rw[dF]at hb;obtain⟨b1,s1⟩:pE a (o9 M A.lo (.lst (V.log.map Ev.d++[e.d]))) A (qB V e)/\qN A M A (o9 M A.lo (.lst (V.log.map Ev.d++[e.d]))):=hb;show uj _ _ _ _ (o9 M A.lo (.lst (V.log.map Ev.d++[e.d])));generalize o9 M A.lo (.lst (V.log.map Ev.d++[e.d]))=M1 at b1 s1 ⊢;have Zb:∀i,i<V.calls.length->∃k c,A.cs[i]?=ga k/\V.calls[i]?=ga c/\c∈V.calls:=λi hi=>by
  have Yk:i<A.cs.length:=by rw[bd.len];exact hi
  exact⟨_,_,cT Yk,cT hi,ia hi⟩
 have Z4:∀(i:Nat) (k:rA) (c:oX) (c':oX) (f:oX->oX),A.cs[i]?=ga k->V.calls[i]?=ga c->f c=c'->pM V e=xi (qB V e) i f->∀(M2:Mp),qN A M1 A M2->pE a M2 A (yV (qB V e) i c')->∃W9,qu W9 M2/\Q .mx W9:=λi k c c' f e1 e2 e3 e4 M2 s2 b2=>⟨M2,.refl,q M2 A Z' (s1.trans s2) (by
  rw[e4];unfold xi;rw[show(qB V e).calls=V.calls from rfl,tq e2,e3];exact b2)⟩
 cases e with
 | new n x=>refine oU b1.at_ (i' Z' ⟨by show(nU M1 A.ca).isSome=Db;rw[b1.ca];rfl,λp hp=>⟨p,x,Z',pJ,λM2 wy ad md kp z1 z2 z3 n1 n2 h1 h2 h3 h4=>⟨Z',?_⟩⟩⟩);have sp:=qu.new (c:=.ins a.e []) hp;have s2:qu M1 M2:=λy d hy=>kp y d (Io hy hp) (sp y d hy);refine i' (s2.lst b1.ca) ⟨by rw[cR,b1.len];show V.calls.length<Uf;lia,?_⟩;obtain⟨b3,s3⟩:=b1.nN s2 (c:=xW x) hp (sp.none z1) (sp.none z2) (sp.none z3) h1 h2 h3 h4 n1 n2;exact⟨_,.refl,q _ (A.add ⟨p,wy⟩) Z' (s1.trans s3) b3⟩
 | leg v=>obtain⟨k,c,ek,ec,hc⟩:=Zb v.i ev;refine oU b1.at_ ⟨Z',_,⟨Z',Z'⟩,A,qB V (.leg v),k,c,v,Z',⟨b1,ek,ec⟩,lim.le,(lim.cs c hc).1,λM2 s2 b2=>⟨M2,.refl,q M2 A Z' (s1.trans s2) ?_⟩⟩;show pE a M2 A {qB V (.leg v)with mC:=V.mC++[v],calls:=V.calls.modify v.i (·.go v.g)};rw[tq ec];exact b2
 | next z n=>refine oU b1.at_ (i' Z' (i' b1.nx ⟨by show(sZ V.ps).length<Uf;unfold sZ;rw[cR];lia,?_⟩));rw[Hz];obtain⟨b2,s2⟩:=b1.oE (ps:=Ct V.ps z n);exact⟨_,.refl,q _ A Z' (s1.trans s2) b2⟩
 | merge i j ms=>obtain⟨hi,hj,hij,_⟩:=ev;obtain⟨ki,ci,eki,eci,hci⟩:=Zb i hi;obtain⟨kj,cj,ekj,ecj,hcj⟩:=Zb j hj;refine oU b1.at_ ⟨Z',_,⟨Z',Z'⟩,A,qB V (.merge i j ms),i,j,ki,ci,cj,ms,Z',⟨b1,eki,eci⟩,ecj,hij,lim.le,λM2 A2 eb s2 b2=>⟨M2,.refl,q M2 A2 eb (s1.trans s2) ?_⟩⟩;show pE a M2 A2 {qB V (.merge i j ms)with calls:=(V.calls.modify i (·.over "merged")).modify j (·.mem ms),mC:=V.mC.map (rh.to i j)};rw[tq eci,tq (show(V.calls.set i _)[j]?=ga cj by rw[ft hij];exact ecj)];exact b2
 | asks i z ns=>exact⟨oP Z',Z',Z',M1,.refl,q M1 A Z' s1 b1⟩
 | turn=>exact oU b1.at_ ⟨Z',_,⟨Z',Z'⟩,A,qB V .turn,Z',b1,λM2 s2 b2=>⟨M2,.refl,q M2 A Z' (s1.trans s2) b2⟩⟩
 | sw b i=>
  have hi:i<V.on.length:=ev;obtain⟨b2,s2⟩:=b1.oJ (bs:=V.on.set i b);have es:(V.on.map D.bl).set i (.bl b)=(V.on.set i b).map D.bl:=(lZ).symm;have ix:G7 (V.on.map D.bl).length (i:Nat)=ga i:=by rw[cR];unfold G7;simp[hi]
  have Xb:∃W9,qu W9 (o9 M1 A.on (.lst ((V.on.map D.bl).set i (.bl b))))/\Q .mx W9:=by rw[es];exact⟨_,.refl,q _ A Z' (s1.trans s2) b2⟩
  cases b with
  | true=>exact⟨oP Z',Z',Z',oU b1.at_ (i' Z' (i' b1.on (i' ix Xb)))⟩
  | false=>exact⟨oP Z',Z',Z',oU b1.at_ (i' Z' (i' b1.on (i' ix Xb)))⟩
 | rings i ps=>obtain⟨k,c,ek,ec,hc⟩:=Zb i ev.1;exact⟨oP Z',Z',Z',oU b1.at_ (i' Z' (i' b1.ca (i' (qX ek) ⟨A,qB V _,i,k,c,_,_,Z',⟨b1,ek,ec⟩,(lim.cs c hc).2.1,(lim.cs c hc).2.2,.rings ps,Z4 i k c _ _ ek ec Z' Z'⟩)))⟩
 | quiet i=>obtain⟨k,c,ek,ec,hc⟩:=Zb i ev;exact⟨oP Z',Z',Z',oU b1.at_ (i' Z' (i' b1.ca (i' (qX ek) ⟨A,qB V _,i,k,c,_,_,Z',⟨b1,ek,ec⟩,(lim.cs c hc).2.1,(lim.cs c hc).2.2,.quiet,Z4 i k c _ _ ek ec Z' Z'⟩)))⟩
 | waits i x=>obtain⟨k,c,ek,ec,hc⟩:=Zb i ev;exact⟨oP Z',Z',Z',oU b1.at_ (i' Z' (i' b1.ca (i' (qX ek) ⟨A,qB V _,i,k,c,_,_,Z',⟨b1,ek,ec⟩,(lim.cs c hc).2.1,(lim.cs c hc).2.2,.waits x,Z4 i k c _ _ ek ec Z' Z'⟩)))⟩
 | talks i ms=>obtain⟨k,c,ek,ec,hc⟩:=Zb i ev.1;exact⟨oP Z',Z',Z',oU b1.at_ (i' Z' (i' b1.ca (i' (qX ek) ⟨A,qB V _,i,k,c,_,_,Z',⟨b1,ek,ec⟩,(lim.cs c hc).2.1,(lim.cs c hc).2.2,.talks ms,Z4 i k c _ _ ek ec Z' Z'⟩)))⟩
 | held i x=>obtain⟨k,c,ek,ec,hc⟩:=Zb i ev;exact⟨oP Z',Z',Z',oU b1.at_ (i' Z' (i' b1.ca (i' (qX ek) ⟨A,qB V _,i,k,c,_,_,Z',⟨b1,ek,ec⟩,(lim.cs c hc).2.1,(lim.cs c hc).2.2,.held x,Z4 i k c _ _ ek ec Z' Z'⟩)))⟩
 | leaves i x=>obtain⟨k,c,ek,ec,hc⟩:=Zb i ev;exact⟨oP Z',Z',Z',oU b1.at_ (i' Z' (i' b1.ca (i' (qX ek) ⟨A,qB V _,i,k,c,_,_,Z',⟨b1,ek,ec⟩,(lim.cs c hc).2.1,(lim.cs c hc).2.2,.leaves x,Z4 i k c _ _ ek ec Z' Z'⟩)))⟩
 | over i w0=>obtain⟨k,c,ek,ec,hc⟩:=Zb i ev;exact⟨oP Z',Z',Z',oU b1.at_ (i' Z' (i' b1.ca (i' (qX ek) ⟨A,qB V _,i,k,c,_,_,Z',⟨b1,ek,ec⟩,(lim.cs c hc).2.1,(lim.cs c hc).2.2,.over w0,Z4 i k c _ _ ek ec Z' Z'⟩)))⟩
noncomputable def L0:QQQ:=["barred","ring","engaged","left","refused","done","merged"]
def QO(o:Bool)(c:oX):Prop:=(c.st="rings"/\c.ms=[]/\c.hd=Fa/\c.wd=Fa/\(o=Db->c.at_=[])/\(o=pc->c.at_≠[]))\/(o=pc/\((c.st="waits"/\c.ms=[]/\c.hd=Fa/\c.wd=Fa/\c.at_.length=1)\/(c.st="talks"/\(c.ms.length=2\/c.ms.length=3)/\c.hd=Fa/\c.wd=Fa/\c.at_=[])\/
 (∃x,c.st="held"/\c.ms.length=2/\c.hd=ga x/\x∈c.ms/\c.wd=Fa/\c.at_=[])\/(c.st="over"/\c.ms=[]/\c.hd=Fa/\c.at_=[]/\∃w∈L0,c.wd=ga w)))
structure vJ(l:pf)(o:Bool)(c:oX):Prop where
 sh:QO o c
 cr:c.cr∈l.pn
 at_:∀x∈c.at_,x∈l.pn
 ms:∀x∈c.ms,x∈l.pn
 an:c.at_.Nodup
 mn:c.ms.Nodup
 ca:c.cr∉c.at_
 wy:c.way≠[]/\∀z∈c.way,z∈l.nm
def A9(c:oX)(x:Str):Prop:=c.mM x=Db\/c.mF x=Db
structure zN(l:pf)(V:qc)(o:Option Nat):Prop where
 ok:∀(i:Nat) c,V.calls[i]?=ga c->vJ l (o==ga i) c
 un:∀(i j:Nat) ci cj x,V.calls[i]?=ga ci->V.calls[j]?=ga cj->A9 ci x->A9 cj x->i=j
 ln:∀x∈l.pn,(uN V x:Int)<=wu l x
 wt:∀(i j:Nat) ci cj x,V.calls[i]?=ga ci->V.calls[j]?=ga cj->ci.my x=Db->cj.my x=Db->i=j
 nx:tZ l V
abbrev WF(l:pf)(V:qc):Prop:=zN l V Fa
structure Sz(V:qc)(c n:Nat):Prop where
 lo:V.log.length<=n
 le:V.mC.length<=n
 ca:V.calls.length<=c
 ps:V.ps.length<=n
 cs:∀k∈V.calls,k.way.length<=n/\k.at_.length<=100/\k.ms.length<=100
def Sz.mono{V:qc}{c n c' n':Nat}(h:Sz V c n)(hc:c<=c')(hn:n<=n'):Sz V c' n':=⟨dS h.lo hn,dS h.le hn,dS h.ca hc,dS h.ps hn,λk hk=>⟨dS (h.cs k hk).1 hn,(h.cs k hk).2⟩⟩
noncomputable def Ev.nw:Ev->Nat
 | .new _ _=>1
 | _=>0
def Lu(ps:T0 (Str×Int))(z:Str)(n:Int):(Ct ps z n).length<=ps.length+1:=by
 unfold Ct;split
 .rw[cR];lia
 .rw[cU];exact cZ _
def Jq(ss:QQQ)(x:Str):(r6 ss x).length<=ss.length:=gA _ _
def E2{α:Type}{f:α->α}{l:List α}{i:Nat}{x:α}(h:x∈l.modify i f):x∈l\/∃y∈l,x=f y:=by
 cases e:l[i]? with
 | none=>rw[ky (by simpa using e)]at h;exact .inl h
 | some c=>
  rw[tq e]at h;rcases List.mem_or_eq_of_mem_set h with g|g
  .exact .inl g
  .exact .inr ⟨c,eZ e,g⟩
def Sz.step{V:qc}{c n:Nat}{e:Ev}(h:Sz V c n)(ok:e.ok V):Sz (pM V e) (c+e.nw) (n+1):=by
 have h1:Sz (qB V e) c (n+1):=⟨by show(V.log++[e]).length<=n+1;rw[cU];exact gu h.lo,gH h.le,h.ca,gH h.ps,λk hk=>⟨gH (h.cs k hk).1,(h.cs k hk).2⟩⟩;have md:∀(i:Nat) (f:oX->oX),(∀k∈V.calls,(f k).way=k.way/\(f k).at_.length<=100/\(f k).ms.length<=100)->Sz (xi (qB V e) i f) c (n+1):=λi f hf=>⟨h1.lo,h1.le,by show(V.calls.modify i f).length<=c;rw[fN];exact h.ca,h1.ps,λk hk=>by
  rcases E2 hk with g|⟨y,hy,rfl⟩
  .exact h1.cs k g
  .obtain⟨a1,a2,a3⟩:=hf y hy;exact⟨by rw[a1];exact(h1.cs y hy).1,a2,a3⟩⟩
 cases e with
 | new m x=>
  refine⟨h1.lo,h1.le,by show(V.calls++[xW x]).length<=c+1;rw[cU];exact gu h.ca,h1.ps,λk hk=>?_⟩;rcases dM.mp hk with g|g
  .exact h1.cs k g
  .rw[c9.mp g];exact⟨eK _,eK _,eK _⟩
 | leg v=>
  refine⟨h1.lo,by show(V.mC++[v]).length<=n+1;rw[cU];exact gu h.le,by show(V.calls.modify v.i _).length<=c;rw[fN];exact h.ca,h1.ps,λk hk=>?_⟩;rcases E2 (l:=V.calls) hk with g|⟨y,hy,rfl⟩
  .exact h1.cs k g
  .exact⟨by show(y.way++[v.g]).length<=n+1;rw[cU];exact gu (h.cs y hy).1,(h.cs y hy).2⟩
 | asks i z ns=>exact h1
 | next z m=>exact⟨h1.lo,h1.le,h1.ca,dS (Lu _ _ _) (gu h.ps),h1.cs⟩
 | merge i j ms=>
  have m1:=md i (·.over "merged") λk hk=>⟨Z',eK _,eK _⟩;refine⟨h1.lo,by show(V.mC.map _).length<=n+1;rw[cR];exact h1.le,by show((V.calls.modify i _).modify j _).length<=c;rw[fN,fN];exact h.ca,h1.ps,λk hk=>?_⟩;rcases E2 (l:=V.calls.modify i (·.over "merged")) hk with g|⟨y,hy,rfl⟩
  .exact m1.cs k g
  .exact⟨(m1.cs y hy).1,(m1.cs y hy).2.1,ok.2.2.2⟩
 | turn=>
  refine⟨h1.lo,h1.le,by show(V.calls.map oX.tick).length<=c;rw[cR];exact h.ca,h1.ps,λk hk=>?_⟩;obtain⟨y,hy,rfl⟩:=dw.mp hk;have e:y.tick.way=y.way/\y.tick.at_=y.at_/\y.tick.ms=y.ms:=by unfold oX.tick;split<;>exact⟨Z',Z',Z'⟩
  rw[e.1,e.2.1,e.2.2];exact h1.cs y hy
 | sw b i=>exact⟨h1.lo,h1.le,h1.ca,h1.ps,h1.cs⟩
 | rings i ps=>exact md i _ λk hk=>⟨Z',ok.2,(h.cs k hk).2.2⟩
 | quiet i=>exact md i _ λk hk=>⟨Z',eK _,(h.cs k hk).2.2⟩
 | waits i x=>exact md i _ λk hk=>⟨Z',by show 1<=100;decide,(h.cs k hk).2.2⟩
 | talks i ms=>exact md i _ λk hk=>⟨Z',eK _,ok.2⟩
 | held i x=>exact md i _ λk hk=>⟨Z',(h.cs k hk).2.1,(h.cs k hk).2.2⟩
 | leaves i x=>exact md i _ λk hk=>⟨Z',dS (Jq _ _) (h.cs k hk).2.1,dS (Jq _ _) (h.cs k hk).2.2⟩
 | over i w=>exact md i _ λk hk=>⟨Z',eK _,eK _⟩
def Tc(V:qc)(e:Ev):(pM V e).p=V.p/\(pM V e).h=V.h/\(pM V e).on.length=V.on.length:=by cases e<;>first|exact⟨Z',Z',Z'⟩|exact⟨Z',Z',ii⟩
structure uw(a:Ad)(M0 M:Mp)(b:lf)(A:tR)(V:qc)(l:pf)(c n:Nat):Prop where
 bd:pE a M A V
 oM:sJ a M0 V.p l
 s0:qu M0 M
 fr:∀x∈A.foot,M0 x=Fa
 b:A.b=b
 sz:Sz V c n
 ok:qR l
 on:V.on.length=l.mo.length
variable {M0:Mp}{b:lf}{A':tR}{V':qc}{l:pf}{n:Nat}
section
variable {c:Nat}
def uw.at_(h:uw a M0 M b A V l c n):M b=ga (.ins a.c (tF (.ref V.p) V.h V.t A.ca A.le A.nx A.on A.lo)):=h.b ▸ h.bd.at_
def uw.sub(h:uw a M0 M b A V l c n)(s:qu M M'):uw a M0 M' b A V l c n:=⟨h.bd.sub s,h.oM,h.s0.trans s,h.fr,h.b,h.sz,h.ok,h.on⟩
def uw.pl(h:uw a M0 M b A V l c n):sJ a M V.p l:=h.oM.sub h.s0
def uw.mono(h:uw a M0 M b A V l c n){c' n':Nat}(hc:c<=c')(hn:n<=n'):uw a M0 M b A V l c' n':=⟨h.bd,h.oM,h.s0,h.fr,h.b,h.sz.mono hc hn,h.ok,h.on⟩
def uw.lim(h:uw a M0 M b A V l c n)(hc:c<=1000000)(hn:n<9000000):WM V:=⟨iA h.sz.lo (by lia),iA h.sz.le (by lia),dS h.sz.ca hc,iA h.sz.ps (by lia),λk hk=>⟨iA (h.sz.cs k hk).1 (by lia),(h.sz.cs k hk).2⟩⟩
def uw.rd(h:uw a M0 M b A V l c n)(hc:c<=1000000){o:Option Nat}(wf:zN l V o):Rd a M A V l:=⟨h.bd,dS h.sz.ca hc,h.pl,h.ok,h.on,λk hk=>by
 obtain⟨i,hi,e⟩:=gR hk;exact⟨(wf.ok i k (by rw[cT hi,e])).ms,(h.sz.cs k hk).2.2⟩⟩
def uw.call(h:uw a M0 M b A V l c n){i:Nat}{v:oX}(e:V.calls[i]?=ga v):∃k,CI a M A V i k v:=by
 have hi:i<A.cs.length:=by rw[h.bd.len];exact(cV.mp e).1
 exact⟨A.cs[i],h.bd,cT hi,e⟩
def uw.after(h:uw a M0 M b A V l c n){e:Ev}(ok:e.ok V)(eb:A'.b=A.b)(st:qN A M A' M')(bd:pE a M' A' (pM V e)):uw a M0 M' b A' (pM V e) l (c+e.nw) (n+1):=by
 obtain⟨p1,p2,p3⟩:=Tc V e;refine⟨bd,p1 ▸ h.oM,λx d hx=>st.1 x d (λz=>?_) (h.s0 x d hx),λx hx=>?_,eb.trans h.b,h.sz.step ok,h.ok,p3.trans h.on⟩
 .rw[h.fr x z]at hx;cases hx
 .rcases st.2.1 x hx with z|z
  .exact h.fr x z
  .exact h.s0.none z
end
def Gk(l:pf)(V:qc)(c:Str):uU->Prop
 | .rings z ps=>z∈l.nm/\ps≠[]/\ps=xo l V c z
 | .breaks z=>∃x,x=c/\Hj l V x c z=Db
 | .waits z=>z∈l.pn/\z≠c/\Az V z=pc
 | .ring ns=>ns≠[]
 | _=>True
def Ge{V:qc}{c z:Str}:(∀x∈xo l V c z,x∈ud l V c z/\x∈l.mi z)/\(xo l V c z).length<=(l.mi z).length:=by
 have hr:∀x∈ud l V c z,x∈l.mi z:=λx hx=>(fB.mp hx).1;unfold xo;split
 .refine⟨λx hx=>?_,?_⟩
  .have hx:=(fB.mp (kg hx)).2;have hx:=qF.mp hx;exact⟨hx,hr x hx⟩
  .cases e:(uI (l.mi z) (zL V z)).filter λx=>hasS (ud l V c z) x with
   | nil=>exact eK _
   | cons y r=>
    have hy:y∈uI (l.mi z) (zL V z):=(fB.mp (by rw[e];exact dD)).1;have hy:y∈l.mi z:=by
     unfold uI at hy;rcases dM.mp hy with q|q
     .exact kh q
     .exact kg q
    rw[fg];have:=List.length_pos_of_mem hy;lia
 .exact⟨λx hx=>⟨hx,hr x hx⟩,gA _ _⟩
def Qd{l:pf}{V:qc}{c z:Str}(hz:z∈l.nm):Gk l V c (He l V c z):=by
 unfold He;split
 .trivial
 .rename_i x r e;exact⟨hz,fz _ _,e.symm⟩
structure wH(l:pf)(V:qc)(c:Str)(n:Nat)(st:sI)(r:uU×sI):Prop where
 e:Gk l V c r.1
 len:r.2.length<=st.length+n
 nm:∀s∈r.2,s∈st\/s.1∈l.nm
 wy:∀ns,r.1=.ring ns->∀z∈ns,z∈l.nm
theorem xG{V:qc}{c:Str}(ok:qR l):∀(n:Nat) (z:Str) (way:QQQ) (st:sI),z∈l.nm->(∀x∈way,x∈l.nm)->wH l V c n st (wG l V c n z way st)
 | 0,z,way,st,_,_=>⟨trivial,cZ _,λs hs=>.inl hs,λns h=>by cases h⟩
 | n+1,z,way,st,hz,hw=>by
  unfold wG;by_cases h:hasS way z=Db
  .rw[cX h];refine⟨?_,by show st.length<=_;lia,λs hs=>.inl hs,λns e y hy=>?_⟩
   .have h1:way.findIdx (·==z)<way.length:=List.findIdx_lt_length_of_exists ⟨z,qF.mp h,eU z⟩;show way.drop _≠[];intro g;have:=eC List.length g;rw[fZ]at this;simp only[dB]at this;lia
   .cases e;exact hw y (kh hy)
  rw[cW h];have sn:∀(fs:T0 Nat),∀s∈st++[(z,fs)],s∈st\/s.1∈l.nm:=λfs s hs=>by
   rcases dM.mp hs with g|g
   .exact .inl g
   .rw[c9.mp g];exact .inr hz
  have sl:∀fs:T0 Nat,(st++[(z,fs)]).length=st.length+1:=λfs=>by rw[cU];rfl
  cases hf:DL l V c z with
  | nil=>refine⟨Qd hz,by show(st++[(z,[])]).length<=_;rw[sl];lia,sn [],λns e=>?_⟩;have e:He l V c z=.ring ns:=e;unfold He at e;split at e<;>cases e
  | cons i r=>
   obtain⟨w,ew,XC⟩:=Fl (l:=l) (V:=V) (f:=AW l V c z) (i:=i) (by show i∈DL l V c z;rw[hf];exact dD);dsimp only;rw[ew];dsimp only[Option.elim];have stop:∀e:uU,Gk l V c e->(∀ns,e≠.ring ns)->wH l V c (n+1) st (e,st++[(z,i::r)]):=λe he Xt=>⟨he,by show(st++[(z,i::r)]).length<=_;rw[sl];lia,sn _,λns g=>absurd g (Xt ns)⟩
   have Yc:∀y,Jz z w.2=.inr y->wH l V c (n+1) st (wG l V c n y (way++[z]) (st++[(z,i::r)])):=λy hy=>by
    have hr:=xG (V:=V) (c:=c) ok n y (way++[z]) (st++[(z,i::r)]) (BD ok (qW ew) hy) λx hx=>by
     rcases dM.mp hx with g|g
     .exact hw x g
     .rw[c9.mp g];exact hz
    refine⟨hr.e,by have:=hr.len;rw[sl]at this;lia,λs hs=>?_,hr.wy⟩;rcases hr.nm s hs with g|g
    .exact sn _ s g
    .exact .inr g
   cases hv:w.2 with
   | bar x ns=>exact stop _ trivial λns g=>by cases g
   | shut x ns=>exact stop _ trivial λns g=>by cases g
   | wait x=>
    rw[hv]at XC;have hf2:(if (!(z==x)||(c==x))=Db then pc else xM l V c z&&!(Az V z))=Db:=XC;have hx:xT l.pn x:=by have:=ok.wo w (qW ew);rw[hv]at this;exact this
    by_cases g:(!(z==x)||(c==x))=Db
    .rw[cX g]at hf2;cases hf2
    rw[cW g]at hf2;simp only[gX,gG,hW,jm,dR]at g hf2;have ezx:=ZB g.1;subst ezx;exact stop _ ⟨qF.mp hx,λy=>g.2 (by rw[y];exact eU _),hf2.2⟩ λns g=>by cases g
   | breaks x=>
    rw[hv]at XC;refine stop _ ⟨x,?_,?_⟩ λns g=>by cases g
    .have XC:Hj l V x c z=Db:=XC;unfold Hj at XC;by_cases g:(!(c==x)||(z==x))=Db
     .rw[cX g]at XC;cases XC
     .simp only[gX,gG,hW,jm]at g;exact(ZB g.1).symm
    .exact XC
   | always x y=>exact Yc y (by rw[hv];rfl)
   | night x y f m=>exact Yc y (by rw[hv];rfl)
   | busy x y=>exact Yc y (by rw[hv];rfl)
   | silent x y m=>exact Yc y (by rw[hv];rfl)
def FS{V:qc}{x c z:Str}(h:Hj l V x c z=Db):∃j k,vA V z=ga j/\V.calls[j]?=ga k/\k.st="talks"/\z∈k.ms/\k.ms.length=2/\z≠c:=by
 unfold Hj at h;by_cases g:(!(c==x)||(z==x))=Db
 .rw[cX g]at h;cases h
 rw[cW g]at h;simp only[gX,gG,hW,jm]at g;by_cases g2:(!(hasS l.pn z)||!(xM l V c z))=Db
 .rw[cX g2]at h;cases h
 rw[cW g2]at h;cases e:vA V z with
 | none=>rw[e]at h;cases h
 | some j=>obtain⟨hj,ht,_⟩:=gM.mp e;rw[e]at h;have h:((V.calls[j]?).elim pc λk=>(k.ms.length==2)&&Hh l x k.ms)=Db:=h;rw[cT hj]at h;have h:((V.calls[j].ms.length==2)&&Hh l x V.calls[j].ms)=Db:=h;unfold oX.mE at ht;rw[dR]at h ht;refine⟨j,V.calls[j],Z',cT hj,ZB ht.1,qF.mp ht.2,ZB h.1,λy=>?_⟩;rw[y]at g;have:=ZB g.1;rw[this,eU]at g;exact absurd Z' g.2
noncomputable def oX.bare(c:oX):oX:={c with way:=[]}
def sU(V V':qc):Prop:=V'.calls.map oX.bare=V.calls.map oX.bare
def sU.at_{V V':qc}(h:sU V V'){i:Nat}{c:oX}(e:V.calls[i]?=ga c):∃c',V'.calls[i]?=ga c'/\c'.bare=c.bare:=by
 have:=eC (·[i]?) h;simp only[dq,e]at this;cases e':V'.calls[i]? with
 | none=>rw[e']at this;cases this
 | some c'=>rw[e']at this;exact⟨c',Z',de this⟩
def zy(f:oX->Bool)(hf:∀c,f c.bare=f c)(cs:List oX):(cs.map oX.bare).findIdx? f=cs.findIdx? f:=by rw[hG];congr 1;funext c;exact hf c
def sU.mR{V V':qc}(h:sU V V')(z:Str):vA V' z=vA V z:=by unfold vA;rw[<-zy _ (λ_=>rfl) V'.calls,h,zy _ (λ_=>rfl)]
def sU.ends{V V':qc}(h:sU V V')(i:Nat)(e:uU):rP l V' i e=rP l V i e:=by
 cases e with
 | breaks z=>
  unfold rP;dsimp only;rw[h.mR];have key:∀j:Nat,(V'.calls[j]?).map oX.bare=(V.calls[j]?).map oX.bare:=λj=>by
   have:=eC (·[j]?) h
   simpa only [dq]using this
  have ki:=key i;cases vA V z with
  | none=>rfl
  | some j=>
   have kj:=key j;cases e1:V.calls[i]? with
   | none=>rw[e1]at ki;rw[show V'.calls[i]?=Fa by cases q:V'.calls[i]? with|none=>rfl|some _=>rw[q]at ki;cases ki]
   | some c=>
    rw[e1]at ki;cases e2:V'.calls[i]? with
    | none=>rw[e2]at ki;cases ki
    | some c'=>
     rw[e2]at ki;have k1:c'.cr=c.cr:=by have kb:c'.bare=c.bare:=de ki;exact show c'.bare.cr=c.bare.cr by rw[kb]
     have k2:(V'.calls[j]?).elim [] oX.ms=(V.calls[j]?).elim [] oX.ms:=by
      cases e3:V.calls[j]? with
      | none=>rw[e3]at kj;rw[show V'.calls[j]?=Fa by cases q:V'.calls[j]? with|none=>rfl|some _=>rw[q]at kj;cases kj]
      | some d=>
       rw[e3]at kj;cases e4:V'.calls[j]? with
       | none=>rw[e4]at kj;cases kj
       | some d'=>rw[e4]at kj;exact show d'.bare.ms=d.bare.ms by rw[show d'.bare=d.bare from de kj]
     dsimp only;rw[k1,k2]
 | _=>rfl
def sU.trans{V V1 V2:qc}(h:sU V V1)(g:sU V1 V2):sU V V2:=Eq.trans g h
def uE(V:qc)(v:rh):sU V (pM V (.leg v)):=by
 show(V.calls.modify v.i (·.go v.g)).map oX.bare=V.calls.map oX.bare;cases e:V.calls[v.i]? with
 | none=>rw[ky (by simpa using e)]
 | some c=>rw[tq e,lZ,show(c.go v.g).bare=c.bare from rfl,GU (by rw[dq,e];rfl)]
def DU(V:qc)(i:Nat)(z:Str)(ns:T0 Nat):sU V (pM V (.asks i z ns)):=rfl
def sU.len{V V':qc}(h:sU V V'):V'.calls.length=V.calls.length:=by
 have:=eC List.length h
 rwa [cR,cR]at this
noncomputable def G9:Option Str->sI->Option Str
 | o,[]=>o
 | _,(z,_)::r=>G9 (ga z) r
noncomputable def T7(i:Nat)(z:Str)(fs:T0 Nat):Option Str->T0 Ev
 | none=>[.asks i z fs]
 | some y=>[.leg ⟨i,y,z,y⟩,.asks i z fs]
theorem yz(i:Nat)(z:Str)(fs:T0 Nat):∀(st:sI) (o:Option Str),qQ i o (st++[(z,fs)])=qQ i o st++T7 i z fs (G9 o st)
 | [],none=>rfl
 | [],ga _=>rfl
 | (y,gs)::r,none=>by show .asks i y gs::qQ i (ga y) (r++[(z,fs)])=_;rw[yz i z fs r];rfl
 | (y,gs)::r,ga u=>by show .leg ⟨i,u,y,u⟩::.asks i y gs::qQ i (ga y) (r++[(z,fs)])=_;rw[yz i z fs r];rfl
theorem B7(z:Str)(fs:T0 Nat):∀(st:sI) (o:Option Str),G9 o (st++[(z,fs)])=ga z
 | [],_=>rfl
 | _::r,_=>B7 z fs r _
theorem uq(i:Nat):∀(st:sI) (o:Option Str) (V:qc),sU V (qr V (qQ i o st))
 | [],_,V=>rfl
 | (y,gs)::r,Fa,V=>(DU V i y gs).trans (uq i r (ga y) _)
 | (y,gs)::r,ga u,V=>((uE V ⟨i,u,y,u⟩).trans (DU _ i y gs)).trans (uq i r (ga y) _)
def Of(a:Ad):qY:=λds M Q=>LY λM0 b A V l c n i st r=>ds=[.ref b,.int ((i:Nat):Int),.ref r]/\uw a M0 M b A V l c n/\c<=1000000/\n<=8000000/\st.length<=100/\i<V.calls.length/\nU M r=ga (rb st)/\r∉A.foot/\∀M' A',uw a M0 M' b A' (qr V (qQ i Fa st)) l c (n+2*st.length)->qN A M A' M'->Q .mx M'
def NA(a:Ad):qY:=λds M Q=>LY λM0 b A V l c n i z ps=>ds=[.ref b,.int ((i:Nat):Int),.str z,names ps]/\uw a M0 M b A V l c n/\c<=1000000/\n<=8000000/\i<V.calls.length/\z∈l.nm/\ps≠[]/\(∀x∈ps,x∈l.mi z)/\ps.length<=100/\∀M' A',uw a M0 M' b A' (qr V (rP l V i (.rings z ps))) l c (n+2)->qN A M A' M'->Q .mx M'
def D0(l:pf)(V:qc)(i:Nat):uU->Prop
 | .rings z ps=>z∈l.nm/\ps≠[]/\(∀x∈ps,x∈l.mi z)/\ps.length<=100
 | .breaks z=>∃j k,vA V z=ga j/\V.calls[j]?=ga k/\i≠j/\k.ms.length=2
 | _=>True
def Nr(a:Ad):qY:=λds M Q=>TN λM0 b A V l c n i z=>ds=[.ref b,.int ((i:Nat):Int),.str z]/\uw a M0 M b A V l c n/\c<=1000000/\n<=8000000/\i<V.calls.length/\D0 l V i (.breaks z)/\∀M' A',uw a M0 M' b A' (qr V (rP l V i (.breaks z))) l c (n+2)->qN A M A' M'->Q .mx M'
def Jt(a:Ad):qY:=λds M Q=>TN λM0 b A V l c n i e=>ds=[.ref b,.int ((i:Nat):Int),uU.d e]/\uw a M0 M b A V l c n/\c<=1000000/\n<=8000000/\i<V.calls.length/\D0 l V i e/\∀M' A',uw a M0 M' b A' (qr V (rP l V i e)) l c (n+2)->qN A M A' M'->Q .mx M'
def O5(a:Ad):qY:=λds M Q=>TN λM0 b A V l c n i k=>ds=[.ref b,.int ((i:Nat):Int)]/\uw a M0 M b A V l c n/\c<=1000000/\n<=7000000/\zN l V (ga i)/\V.calls[i]?=ga k/\∀M' A',uw a M0 M' b A' (qr V (uK l V i)) l c (n+30)->qN A M A' M'->Q .mx M'
def LN(a:Ad):qY:=λds M Q=>TN λM0 b A V l c n y z=>ds=[.ref b,.str y,.str z]/\uw a M0 M b A V l c n/\c<1000000/\n<=6000000/\zN l (qr V [.new V.calls.length y,.leg ⟨V.calls.length,y,z,y⟩]) (ga V.calls.length)/\∀M' A',uw a M0 M' b A' (qr V (Ef l V y z)) l (c+1) (n+32)->qN A M A' M'->Q .mx M'
def Nq{st:sI}{pre post:T0 D}{d:D}(e:pre++d::post=rb st):∃z fs,st[pre.length]?=ga (z,fs)/\d=.tup [.str z,xx fs]/\st.take (pre.length+1)=st.take pre.length++[(z,fs)]:=by
 have h:(rb st)[pre.length]?=ga d:=by rw[<-e];simp
 unfold rb at h;rw[dq]at h;cases q:st[pre.length]? with
 | none=>rw[q]at h;cases h
 | some s=>rw[q]at h;refine⟨s.1,s.2,Z',(de h).symm,?_⟩;rw[fH,q];rfl
noncomputable def Wl:Option Str->D
 | none=>.mx
 | some x=>.str x
def Pf{ss:QQQ}{x:Str}(h:ss.getLast?=ga x):vR (ss.map D.str) (-1)=ga (.str x):=by
 have hp:0<ss.length:=by cases ss with|nil=>cases h|cons _ _=>exact l0 _
 unfold vR;have e:G7 (ss.map D.str).length (-1)=ga (ss.length - 1):=by
  rw[cR];unfold G7;have:¬((-1:Int)>=0):=by decide
  simp;lia
 rw[e];show(ss.map D.str)[ss.length - 1]?=_;rw[dq,<-jr,h];rfl
def MT(ds:T0 D):L3.uf ds Fa (ga (-1:Int))=ds.dropLast:=by
 unfold L3.uf;have e:HT.sS ds.length ds.length (ga (-1:Int))=ds.length - 1:=by show(if (-1:Int)<0 then((-1:Int)+(ds.length:Int)).toNat else min (-1:Int).toNat ds.length)=ds.length - 1;rw[cX (by decide)];lia
 rw[e,HT.zB,iW,jz,List.dropLast_eq_take]
def O4:Fq P w K mg base 4 a.a2 (Of a):=by
 refine fq G.a2.toDG tG (λr u=>⟨_,(oR (pC 3 tG rL)
 (oS (uh eR Z' (qy U2) (ua (n:=2) Z' (qg (rN 4 tG) (qg (rN 5 tG) sP)))
 (oR (pH (pk u U3 rL)
 (oS (pD (pO v0 G.c.toCls G.k (qO G) r (pW (pF (pT oW (pT U1 (ra U3 v4 U3))))))))
 pB)
 (oR (pD (pO v0 G.c.toCls G.k (qO G) r (pW (pF (pT oW (ra U1 v4 v5))))))
 (oS (pC 3 tG v4))))))),?_⟩)
 rintro ds M Q ⟨M0,b,A,V,l,c,n,i,st,r,rfl,cu,hc,hn,Xr,hi,lr,nf,q⟩
 refine i' lr (uY (rb st) (λpre U M'=>(∃A',uw a M0 M' b A' (qr V (qQ i Fa (st.take pre.length))) l c (n+2*pre.length)/\qN A M A' M')/\∃y4 y5,U=[ga (.ref b),ga (.int ((i:Nat):Int)),ga (.ref r),ga (Wl (G9 Fa (st.take pre.length))),y4,y5]) (λpre U M' j=>?_) _ [] _ _ Z' ⟨⟨A,cu,.refl⟩,Fa,Fa,Z'⟩ ?_ ?_)
 .obtain⟨⟨A',c1,XH⟩,_⟩:=j;exact sy (XH.1 r _ nf (pP lr))
 .rintro pre d post e U M' ⟨⟨A',c1,XH⟩,y4,y5,rfl⟩ nx Xf
  obtain⟨z,fs,es,rfl,et⟩:=Nq e;have hp:pre.length<100:=dJ (cV.mp es).1 Xr;rw[cU,dE,et,yz,B7]at Xf;have len:∀es,sU V (qr V es)->i<(qr V es).calls.length:=λes h=>by rw[h.len];exact hi
  have Yh:=len _ (uq i (st.take pre.length) Fa V);generalize hV:qr V (qQ i Fa (st.take pre.length))=V1 at c1 Yh;rw[rC,hV]at Xf;refine⟨Z',?_⟩;dsimp only[qV,xA,Cj];have asks:∀(M2:Mp) (A2:tR) (V2:qc) (m:Nat) (y3:Option D),m<9000000->uw a M0 M2 b A2 V2 l c m->qN A M A2 M2->(∀M3 A3,uw a M0 M3 b A3 (pM V2 (.asks i z fs)) l c (m+1)->qN A M A3 M3->nx [ga (.ref b),ga (.int ((i:Nat):Int)),ga (.ref r),ga (.str z),ga (.str z),ga (xx fs)] M3)->Af (M2 b) λC fs'=>fs'.lookup ("apply":Str)=Fa/\∃sp,(C=a.c/\sp=vO a)/\4<=Uf/\sp [.ref b,.tup [.str "asks",.int ((i:Nat):Int),.str z,xx fs]] M2 λ_ M3=>nx [ga (.ref b),ga (.int ((i:Nat):Int)),ga (.ref r),ga (.str z),ga (.str z),ga (xx fs)] M3:=λM2 A2 V2 m y3 hm c2 s2 k=>oU c2.at_ ⟨Z',_,⟨Z',Z'⟩,by rw[dH];decide,b,A2,V2,.asks i z fs,Z',c2.b,c2.bd,c2.lim hc hm,trivial,λM3 A3 eb s3 bd=>k M3 A3 (c2.after trivial eb s3 bd) (s2.trans s3)⟩;cases hl:G9 Fa (st.take pre.length)with
  | none=>rw[hl]at Xf;refine asks M' A' V1 _ Fa (by lia) c1 XH λM3 A3 c3 s3=>Xf _ _ ⟨⟨A3,c3.mono (cZ _) (by lia),s3⟩,_,_,Z'⟩
  | some y=>rw[hl]at Xf;refine oU c1.at_ ⟨Z',_,⟨Z',Z'⟩,oP Z',b,A',V1,.leg ⟨i,y,z,y⟩,Z',c1.b,c1.bd,c1.lim hc (by lia),Yh,λM2 A2 eb s2 bd=>?_⟩;have c2:=c1.after (e:=.leg ⟨i,y,z,y⟩) Yh eb s2 bd;refine asks M2 A2 _ _ Fa (by lia) c2 (XH.trans s2) λM3 A3 c3 s3=>Xf _ _ ⟨⟨A3,c3.mono (cZ _) (by lia),s3⟩,_,_,Z'⟩
 .rintro U M' ⟨⟨A',c1,XH⟩,_⟩
  have hl:(rb st).length=st.length:=by unfold rb;rw[cR]
  rw[hl,fh]at c1;exact⟨M',.refl,q M' A' c1 XH⟩
def LZ:Fq P w K mg base 4 a.a3 (NA a):=by
 refine fq G.a3.toDG uy (λr u=>⟨_,(oR (pH (pk u (pO (oZ v0) G.h.toCls G.aK (xQ G) r (pW U2)) oW)
 (oR (pC 4 uy (pO (oZ v0) G.h.toCls G.Y (tW G) r (pW U2)))
 (oR (pC 5 uy (pL (pL (xw v4 (pW (pA U3 oV))) oV) (pG qb Z' G.g pZ (pW v4))))
 (oS (pD (pO v0 G.c.toCls G.k (qO G) r (pW (pF (ra oW U2 v5))))))))
 pB)
 (oS (pD (pO v0 G.c.toCls G.k (qO G) r (pW (pF (ra oW U1 U3))))))),?_⟩)
 rintro ds M Q ⟨M0,b,A,V,l,c,n,i,z,ps,rfl,cu,hc,hn,hi,hz,Xt,hm,hps,q⟩
 obtain⟨ph,gr,ws,YE,pr,gd,rs,i1,_⟩:=cu.pl;have pl:=cu.pl;obtain⟨x,ps',rfl⟩:=fY Xt;obtain⟨⟨pne,_⟩,_⟩:=cu.ok.of hz;refine Tp (t:=Sl _ _ _) (λU M'=>(∃A',uw a M0 M' b A' (qr V (if (l.mz z=="turns")=Db then[.next z (PX (l.mi z) x)]else[])) l c (n+1)/\qN A M A' M')/\∃y1 y2,U=[ga (.ref b),ga (.int ((i:Nat):Int)),ga (.str z),ga (names (x::ps')),y1,y2]) (λnx h=>?_) ?_
 .refine oU cu.at_ (i' Z' (oU i1 ⟨Z',_,⟨Z',Z'⟩,V.p,z,l,Z',pl,?_⟩));refine qx (c:=l.mz z=="turns") (λg=>?_) (λg=>?_)
  .rw[cX g]at h;refine oU cu.at_ (i' Z' (oU i1 ⟨Z',_,⟨Z',Z'⟩,V.p,z,l,Z',pl,λp hp=>?_⟩));obtain⟨M1,e0,t,lp⟩:=ub (ds:=(l.mi z).map D.str) hp;rw[<-e0];have Z5:=cu.sub t;have st0:qN A M A M1:=.sub t;have ej:=Em x (l.mi z) (hm x dD);have lpos:0<(l.mi z).length:=fi.mpr pne;have el:(((l.mi z).map D.str).length:Int)=(l.mi z).length:=by rw[cR]
   refine⟨by show(nU M1 p).isSome=Db;rw[lp];rfl,i' (zp _ _) (i' lp ⟨Z',ql _,i' ej (i' lp ⟨by rw[el];lia,?_⟩)⟩)⟩;rw[el];refine oU Z5.at_ ⟨Z',_,⟨Z',Z'⟩,oP Z',b,A,V,.next z (PX (l.mi z) x),Z',Z5.b,Z5.bd,Z5.lim hc (by lia),trivial,λM2 A2 eb st YF=>?_⟩;exact h _ _ ⟨⟨A2,Z5.after (e:=.next z (PX (l.mi z) x)) trivial eb st YF,st0.trans st⟩,_,_,Z'⟩
  .rw[cW g]at h;exact h _ _ ⟨⟨A,cu.mono (cZ _) (by lia),.refl⟩,_,_,Z'⟩
 rintro U M1 ⟨⟨A1,c1,XH⟩,y1,y2,rfl⟩
 have q:∀M' A',uw a M0 M' b A' (qr V ((if (l.mz z=="turns")=Db then[.next z (PX (l.mi z) x)]else[])++[.rings i (x::ps')])) l c (n+2)->qN A M A' M'->Q .mx M':=q;rw[rC]at q;have Yh:i<(qr V (if (l.mz z=="turns")=Db then[.next z (PX (l.mi z) x)]else[])).calls.length:=by
  split
  .exact hi
  .exact hi
 generalize qr V (if (l.mz z=="turns")=Db then[.next z (PX (l.mi z) x)]else[])=V1 at c1 q Yh;refine oU c1.at_ ⟨Z',_,⟨Z',Z'⟩,oP Z',b,A1,V1,.rings i (x::ps'),Z',c1.b,c1.bd,c1.lim hc (by lia),⟨Yh,hps⟩,λM2 A2 eb Xs YF=>?_⟩;exact⟨M2,.refl,q M2 A2 (c1.after (e:=.rings i (x::ps')) ⟨Yh,hps⟩ eb Xs YF) (XH.trans Xs)⟩
def Mq:Fq P w K mg base 4 a.a4 (Nr a):=by
 refine fq G.a4.toDG xO (λr u=>⟨_,(oR (pC 3 xO (pO v0 G.c.toCls G.V (yR G) r (pW U2)))
 (oR (pC 4 xO (pL (qa uD Z' G.M uC (pW (oZ (pA (oZ v0) U3)))) (pF (pW (oZ (pA (oZ v0) U1))))))
 (oS (pD (pO v0 G.c.toCls G.k (qO G) r (pW (pF (pT oW (ra U1 U3 v4))))))))),?_⟩)
 rintro ds M Q ⟨M0,b,A,V,l,c,n,i,z,rfl,cu,hc,hn,hi,⟨j,k,ej,ek,X6,YD⟩,q⟩
 have hz:=dH;have ei:V.calls[i]?=ga V.calls[i]:=cT hi;generalize V.calls[i]=ci at ei;obtain⟨ka,qi⟩:=cu.call ei;obtain⟨kb,qj⟩:=cu.call ek;obtain⟨ad,md,h1,h2,h3,h4,_⟩:=qi.cell;obtain⟨ad',md',g1,g2,g3,g4,_⟩:=qj.cell;have Z6:rP l V i (.breaks z)=[.merge i j (k.ms++[ci.cr])]:=by unfold rP;dsimp only;rw[ej,ei];dsimp only;rw[ek];rfl
 rw[Z6]at q;have ok:(Ev.merge i j (k.ms++[ci.cr])).ok V:=⟨hi,(cV.mp ek).1,X6,by rw[cU,YD];show 3<=100;decide⟩;refine oU cu.at_ ⟨Z',_,⟨Z',Z'⟩,A,V,z,by rw[cu.b],cu.bd,dS cu.sz.ca hc,?_⟩;rw[show Ap V z=.int (j:Nat)from by unfold Ap;rw[ej];rfl];refine oU cu.at_ (i' Z' (i' Z' (i' cu.bd.ca (i' (qX qj.e1) (oU g1 (i' Z' (i' g4 ?_)))))));refine oU cu.at_ (i' Z' (i' Z' (i' cu.bd.ca (i' (qX qi.e1) (oU h1 (i' Z' ⟨oP Z',?_⟩))))));refine⟨(by intro y;rw[List.map_eq_nil_iff]at y;rw[y]at YD;cases YD),(by rw[cR,YD];show 2+1<=Uf;lia),?_⟩;rw[show k.ms.map D.str++[D.str ci.cr]=(k.ms++[ci.cr]).map D.str by rw[dF];rfl];refine oU cu.at_ ⟨Z',_,⟨Z',Z'⟩,oP Z',b,A,V,.merge i j (k.ms++[ci.cr]),Z',cu.b,cu.bd,cu.lim hc (by lia),ok,λM2 A2 eb Xs YF=>?_⟩;exact⟨M2,.refl,q M2 A2 ((cu.after ok eb Xs YF).mono (cZ _) (by lia)) Xs⟩
def Od:Fq P w K mg base 5 a.a5 (Jt a):=by
 refine fq G.a5.toDG xX (λr u=>⟨_,(oR (pC 3 xX (pA U2 oV))
 (oS (pH (pk u U3 oW)
 (oS (pD (pz (LZ G) r G.a3 (pT v0 (ra U1 (pA U2 oV) (pA U2 oV))))))
 (oS (pH (pk u U3 oW)
 (oS (pD (pO v0 G.c.toCls G.k (qO G) r (pW (pF (ra oW U1 (pA U2 oV)))))))
 (oS (pH (pk u U3 oW)
 (oS (pD (pz (Mq G) r G.a4 (ra v0 U1 (pA U2 oV)))))
 (oS (pD (pO v0 G.c.toCls G.k (qO G) r (pW (pF (ra oW U1 U3))))))))))))),?_⟩)
 rintro ds M Q ⟨M0,b,A,V,l,c,n,i,e,rfl,cu,hc,hn,hi,he,q⟩
 have one:∀(ev:Ev) (ok:ev.ok V),ev.nw=0->rP l V i e=[ev]->∀M2 A2,A2.b=A.b->qN A M A2 M2->pE a M2 A2 (pM V ev)->∃W9,qu W9 M2/\Q .mx W9:=λev ok h0 h1 M2 A2 eb Xs YF=>by rw[h1]at q;have c2:=cu.after ok eb Xs YF;rw[h0]at c2;exact⟨M2,.refl,q M2 A2 (c2.mono (cZ _) (by lia)) Xs⟩
 cases e with
 | rings z ps=>exact⟨M0,b,A,V,l,c,n,i,z,ps,Z',cu,hc,hn,hi,he.1,he.2.1,he.2.2.1,he.2.2.2,λM' A' c1 st=>⟨M',.refl,q M' A' c1 st⟩⟩
 | waits z=>exact oU cu.at_ ⟨Z',_,⟨Z',Z'⟩,oP Z',b,A,V,.waits i z,Z',cu.b,cu.bd,cu.lim hc (by lia),hi,one (.waits i z) hi Z' Z'⟩
 | breaks z=>exact⟨M0,b,A,V,l,c,n,i,z,Z',cu,hc,hn,hi,he,λM' A' c1 st=>⟨M',.refl,q M' A' c1 st⟩⟩
 | engaged z=>exact oU cu.at_ ⟨Z',_,⟨Z',Z'⟩,oP Z',b,A,V,.over i "engaged",Z',cu.b,cu.bd,cu.lim hc (by lia),hi,one (.over i "engaged") hi Z' Z'⟩
 | barred=>exact oU cu.at_ ⟨Z',_,⟨Z',Z'⟩,oP Z',b,A,V,.over i "barred",Z',cu.b,cu.bd,cu.lim hc (by lia),hi,one (.over i "barred") hi Z' Z'⟩
 | ring ns=>exact oU cu.at_ ⟨Z',_,⟨Z',Z'⟩,oP Z',b,A,V,.over i "ring",Z',cu.b,cu.bd,cu.lim hc (by lia),hi,one (.over i "ring") hi Z' Z'⟩
def Im{V:qc}{i:Nat}{k:oX}{e:uU}(ok:qR l)(wf:zN l V (ga i))(hk:V.calls[i]?=ga k)(h:Gk l V k.cr e):D0 l V i e:=by
 cases e with
 | rings z ps=>obtain⟨hz,Xt,rfl⟩:=h;have h1:=(Ge (l:=l) (V:=V) (c:=k.cr) (z:=z));have h2:=(ok.of hz).1.2.1;exact⟨hz,Xt,λx hx=>(h1.1 x hx).2,by have:=h1.2;lia⟩
 | breaks z=>
  obtain⟨x,rfl,hb⟩:=h;obtain⟨j,d,e1,e2,e3,e4,e5,_⟩:=FS hb;refine⟨j,d,e1,e2,λy=>?_,e5⟩;subst y;rw[hk]at e2;cases e2;have sh:=(wf.ok i k hk).sh;rw[show(ga i==ga i)=Db from eU _]at sh;rcases sh with g|g
  .rw[g.1]at e3;exact absurd e3 (by decide)
  .cases g.1
 | _=>trivial
def Jv:Fq P w K mg base 9 a.ad (O5 a):=by
 refine fq G.ad.toDG wk (λr u=>⟨_,(oR (pC 2 wk (pA (oZ v0) U1))
 (oR (pC 3 wk (pz (LQ G) r G.aW (pT v0 (ra (oZ U2) (pA (oZ U2) (Fx oV)) (qK (oZ U2) rE (rc (Fx oV)))))))
 (oR (pC 4 wk (pA U3 oV))
 (oR (pC 5 wk (pA U3 oV))
 (oR (pD (pz (O4 G) r G.a2 (ra v0 U1 v5)))
 (oR (pH (W3.b3 (yE (pk u (pA v4 oV) oW) (ya (pk u (pG qb Z' G.g pZ (pW v5)) oV))))
 (oR (pC 6 wk (pA (pA v5 (Fx oV)) oV))
 (oS (pD (pO v0 G.c.toCls G.k (qO G) r (pW (pF (pT oW (pT U1 (ra v6 (pA (pA v4 oV) oV) v6)))))))))
 pB)
 (oS (pD (pz (Od G) r G.a5 (ra v0 U1 v4)))))))))),?_⟩)
 rintro ds M Q ⟨M0,b,A,V,l,c,n,i,k,rfl,cu,hc,hn,wf,hk,q⟩
 obtain⟨ka,ci⟩:=cu.call hk;obtain⟨ad,md,h1,h2,h3,h4,n1,n2⟩:=ci.cell;have XT:=wf.ok i k hk;have hi:=(cV.mp hk).1;obtain⟨z,hz⟩:∃z,k.way.getLast?=ga z:=by
  cases e:k.way.getLast? with
  | none=>exact absurd (gi.mp e) XT.wy.1
  | some z=>exact⟨z,Z'⟩
 have Yb:z∈l.nm:=XT.wy.2 z (ib hz);have hdn:∀x∈k.way.dropLast,x∈l.nm:=λx hx=>XT.wy.2 x (ic _ hx);have hwl:=(cu.sz.cs k (qW hk)).1;have hev:uK l V i=qQ i Fa (uk l V k.cr z k.way.dropLast).2++(sD i (uk l V k.cr z k.way.dropLast).2 (uk l V k.cr z k.way.dropLast).1++rP l V i (uk l V k.cr z k.way.dropLast).1):=by
  unfold uK;rw[hk];have:k.way.getLastD Str.empty=z:=by rw[gK,hz];rfl
  dsimp only[Option.elim];rw[this]
 rw[hev]at q;have ro:wH l V k.cr (l.nm.length+1) [] (uk l V k.cr z k.way.dropLast):=xG cu.ok _ _ _ _ Yb hdn;have rl:=ro.len;have eo:=Im cu.ok wf hk ro.e;have nl:l.nm.length<=11:=by have p8:=cu.ok.p8;have g3:=cu.ok.g3;unfold pf.nm pf.pn pf.gn;rw[cU,cR,cR];lia
 have re:=ro.e;refine Tp (t:=Ep _ _) (λU M'=>M=M'/\U=[ga (.ref b),ga (.int ((i:Nat):Int)),ga (.ref ka.p),Fa,Fa,Fa,Fa]) (λnx0 h=>oU cu.at_ (i' Z' (i' Z' (i' ci.bd.ca (i' (qX ci.e1) (h _ _ ⟨Z',Z'⟩)))))) ?_
 rintro U _ ⟨rfl,rfl⟩
 refine Tp (t:=Ep _ _) (λU M'=>qu M M'/\∃r,M r=Fa/\nU M' r=ga (rb (uk l V k.cr z k.way.dropLast).2)/\U=[ga (.ref b),ga (.int ((i:Nat):Int)),ga (.ref ka.p),ga (.tup [(uk l V k.cr z k.way.dropLast).1.d,.ref r]),Fa,Fa,Fa]) (λnx0 h=>?_) ?_
 .refine oU h1 (i' Z' (oU h1 (i' Z' (i' h2 (i' (Pf hz) (oU h1 (i' Z' (i' h2 λp hp=>?_))))))));rw[show L3.uf (k.way.map D.str) Fa (ga (-1:Int))=k.way.dropLast.map D.str from(MT _).trans (List.map_dropLast).symm];have t:=qu.new (c:=.lst (k.way.dropLast.map D.str)) hp;have lp:=@pj M p (k.way.dropLast.map D.str);refine⟨A,V,l,k.cr,z,p,k.way.dropLast,by rw[cu.b],(cu.rd hc wf).sub t,Yb,wf.nx,lp,by rw[List.length_dropLast];lia,λr M' s hr lr=>?_⟩;exact h _ _ ⟨t.trans s,r,t.none hr,lr,Z'⟩
 rintro U M1 ⟨s1,r,hr,lr,rfl⟩
 generalize uk l V k.cr z k.way.dropLast=R at lr ro rl eo re q;obtain⟨e,st⟩:=R;have cu1:=cu.sub s1;have rl:st.length<=0+(l.nm.length+1):=rl;refine⟨M0,b,A,V,l,c,n,i,st,r,Z',cu1,hc,by lia,by lia,hi,lr,cu.bd.nC hr,λM2 A2 c2 Xs=>?_⟩;have same:=uq i st Fa V;have Yk:i<(qr V (qQ i Fa st)).calls.length:=by rw[same.len];exact hi
 have ZG:nU M2 r=ga (rb st):=sy (Xs.1 r _ (cu.bd.nC hr) (pP lr));rw[rC,rC]at q;have Z6:=λV' (h:sU V V')=>h.ends (l:=l) i e;have hat:∀V',sU V V'->D0 l V' i e:=λV' h=>by
  cases e with
  | breaks z'=>obtain⟨j,d,a1,a2,a3,a4⟩:=eo;obtain⟨d',b1,b2⟩:=h.at_ a2;exact⟨j,d',by rw[h.mR];exact a1,b1,a3,by rw[show d'.ms=d.ms from show d'.bare.ms=d.bare.ms by rw[b2]];exact a4⟩
  | rings _ _=>exact eo
  | _=>trivial
 generalize qr V (qQ i Fa st)=V2 at c2 Yk same q;have Yd:∀(M3:Mp) (A3:tR) (V3:qc),uw a M0 M3 b A3 V3 l c (n+2*st.length+1)->qN A M A3 M3->sU V V3->i<V3.calls.length->V3=qr V2 (sD i st e)->Jt a [.ref b,.int ((i:Nat):Int),e.d] M3 λ_ M'=>∃W9,qu W9 M'/\Q .mx W9:=λM3 A3 V3 c3 s3 Ye hi3 e3=>⟨M0,b,A3,V3,l,c,_,i,e,Z',c3,hc,by lia,hi3,hat V3 Ye,λM4 A4 c4 s4=>⟨M4,.refl,q M4 A4 (by
  rw[<-e3];rw[Z6 V3 Ye]at c4;exact c4.mono (cZ _) (by lia)) (s3.trans s4)⟩⟩
 have c2':=c2.mono (cZ c) (show n+2*st.length<=n+2*st.length+1 by lia);have Ys:=(qN.sub s1 (A:=A)).trans Xs;cases e with
 | ring ns=>
  obtain⟨x,ns',rfl⟩:=fY (show ns≠[]from re);refine i' ZG ?_;cases hl:st.getLast? with
  | none=>have:st=[]:=gi.mp hl;subst this;exact Yd M2 A2 V2 c2' Ys same Yk Z'
  | some s0=>
   have YX:0<st.length:=by cases st with|nil=>cases hl|cons _ _=>exact l0 _
   have hd:decide ((0:Int)<((rb st).length:Int))=Db:=dI (by unfold rb;rw[cR];lia);refine yj (c:=decide ((0:Int)<((rb st).length:Int))) hd ?_;have hat1:vR (rb st) (-1)=ga (.tup [.str s0.1,xx s0.2]):=by
    unfold vR;have e1:G7 (rb st).length (-1)=ga (st.length - 1):=by unfold rb;rw[cR];unfold G7;simp;lia
    rw[e1];show(rb st)[st.length - 1]?=_;unfold rb;rw[dq,<-jr,hl];rfl
   have hrv:sD i st (.ring (x::ns'))=[.leg ⟨i,s0.1,x,s0.1⟩]:=by unfold sD;dsimp only;rw[hl];rfl
   rw[hrv]at Yd;refine i' ZG (i' hat1 ?_);refine oU c2.at_ ⟨Z',_,⟨Z',Z'⟩,i' (zp _ _) ⟨oP Z',b,A2,V2,.leg ⟨i,s0.1,x,s0.1⟩,Z',c2.b,c2.bd,c2.lim hc (by lia),Yk,λM3 A3 eb XF bd3=>?_⟩⟩;have Ye:=same.trans (uE V2 ⟨i,s0.1,x,s0.1⟩);exact Yd M3 A3 _ (c2.after (e:=.leg ⟨i,s0.1,x,s0.1⟩) Yk eb XF bd3) (Ys.trans XF) Ye (by rw[Ye.len];exact hi) Z'
 | rings z' ps=>exact Yd M2 A2 V2 c2' Ys same Yk Z'
 | waits z'=>exact Yd M2 A2 V2 c2' Ys same Yk Z'
 | breaks z'=>exact Yd M2 A2 V2 c2' Ys same Yk Z'
 | engaged z'=>exact Yd M2 A2 V2 c2' Ys same Yk Z'
 | barred=>exact Yd M2 A2 V2 c2' Ys same Yk Z'
def MF:Fq P w K mg base 10 a.a6 (LN a):=by
 refine fq G.a6.toDG zd (λr u=>⟨_,(oR (pC 3 zd (pG qb Z' G.g pZ (pW (oZ v0))))
 (oR (pD (pO v0 G.c.toCls G.k (qO G) r (pW (pF (ra oW U3 U1)))))
 (oR (pD (pO v0 G.c.toCls G.k (qO G) r (pW (pF (pT oW (pT U3 (ra U1 U2 U1)))))))
 (oS (pD (pz (Jv G) r G.ad (rK v0 U3))))))),?_⟩)
 rintro ds M Q ⟨M0,b,A,V,l,c,n,y,z,rfl,cu,hc,hn,wf,q⟩
 have lc:((A.cs.map λk=>D.ref k.p).length:Int)=(V.calls.length:Nat):=by rw[cR,cu.bd.len]
 refine oU cu.at_ (i' Z' (i' cu.bd.ca ?_));rw[lc];refine oU cu.at_ ⟨Z',_,⟨Z',Z'⟩,oP Z',b,A,V,.new V.calls.length y,Z',cu.b,cu.bd,cu.lim (by lia) (by lia),trivial,λM1 A1 eb1 XH bd1=>?_⟩;have c1:=cu.after (e:=.new V.calls.length y) trivial eb1 XH bd1;have ok2:(Ev.leg ⟨V.calls.length,y,z,y⟩).ok (pM V (.new V.calls.length y)):=by show V.calls.length<(V.calls++[xW y]).length;rw[cU];exact fD _
 refine oU c1.at_ ⟨Z',_,⟨Z',Z'⟩,oP Z',b,A1,_,.leg ⟨V.calls.length,y,z,y⟩,Z',c1.b,c1.bd,c1.lim (by show c+1<=_;lia) (by lia),ok2,λM2 A2 eb2 Xs YF=>?_⟩;have c2:=c1.after ok2 eb2 Xs YF;obtain⟨k,hk⟩:∃k,(qr V [.new V.calls.length y,.leg ⟨V.calls.length,y,z,y⟩]).calls[V.calls.length]?=ga k:=by
  have:V.calls.length<(qr V [.new V.calls.length y,.leg ⟨V.calls.length,y,z,y⟩]).calls.length:=by show V.calls.length<((V.calls++[xW y]).modify _ _).length;rw[fN];exact ok2
  exact⟨_,cT this⟩
 refine⟨M0,b,A2,_,l,c+1,n+2,V.calls.length,k,Z',c2,by lia,by lia,wf,hk,λM3 A3 c3 XF=>⟨M3,.refl,q M3 A3 ?_ (XH.trans (Xs.trans XF))⟩⟩;unfold Ef;rw[rC];exact c3.mono (cZ _) (by lia)
def Fj(V:qc)(x:Str):D:=Gi (um V x)
abbrev Ds:=Ks Fj
def Mf(a:Ad):qY:=λds M Q=>EL λA V l x z=>ds=[.ref A.b,.str x,.str z]/\Rd a M A V l/\x∈l.pn/\Q (Gi (Gf l V x z)) M
inductive vv(a:Ad)(M:Mp)(L:QXQ):List rA->List oX->Prop
 | nil:vv a M L [] []
 | cons (k:rA) (c:oX) (ks:List rA) (cs:List oX) (h:rM a M L k c) (r:vv a M L ks cs):vv a M L (k::ks) (c::cs)
def tI.nf(w:Str)(m:Nat):Prop:=((w="answer"\/w="hang"\/w="hold"\/w="back")/\m=1)\/((w="hand"\/w="join")/\m=2)
def LA(a:Ad):qY:=λds M Q=>JI λwd x r L ks cs=>ds=[.str wd,.str x,.ref r]/\nU M r=ga (List.map (λk:rA=>D.ref k.p) ks)/\vv a M L ks cs/\tI.nf wd cs.length/\Q (.bl (ID wd x cs)) M
def Iz(a:Ad):qY:=λds M Q=>JI λA V l wd x ns=>ds=[.ref A.b,.str wd,.str x,.tup (List.map D.int ns)]/\Rd a M A V l/\x∈l.pn/\tI.nf wd ns.length/\Q (Gi (MK l V wd x ns)) M
def Rp(a:Ad):qY:=λds M Q=>BK λA V b i=>ds=[.ref A.b,.str (UE b),.int i]/\pE a M A V/\Q (Gi (OK V b i)) M
def Hf(a:Ad):qY:=λds M Q=>BK λA V l e=>ds=[.ref A.b,tI.d e]/\Rd a M A V l/\e.mP/\Q (Gi (xf l V e)) M
def Ww(m:Nat):D->D
 | .int i=>.bl (zc m i)
 | _=>.bl pc
noncomputable def WK(A:tR):D->D
 | .int i=>(A.cs[i.toNat]?).elim .mx λk=>.ref k.p
 | _=>.mx
theorem Qy{V:qc}(bd:pE a M A V):∀{ns:T0 Int},ns.all (zc V.calls.length)=Db->∃ks,vv a M (A.lists++V.fo) ks (tw V ns)/\(ns.map D.int).map (WK A)=ks.map (λk:rA=>D.ref k.p)/\(tw V ns).length=ns.length/\∀i∈ns,∃k,0<=i/\A.cs[i.toNat]?=ga k
 | [],_=>⟨[],.nil,Z',Z',λi hi=>by cases hi⟩
 | i::r,h=>by
  rw[gm,dR]at h;obtain⟨ks,h1,h2,h3,h4⟩:=Qy bd h.2;have hh:(decide (0<=i)&&decide (i<V.calls.length))=Db:=h.1;rw[dR,d9,d9]at hh;have hi:i.toNat<V.calls.length:=by lia
  have hk:i.toNat<A.cs.length:=by rw[bd.len];exact hi
  have e1:A.cs[i.toNat]?=ga A.cs[i.toNat]:=cT hk;have e2:V.calls[i.toNat]?=ga V.calls[i.toNat]:=cT hi;have ec:tw V (i::r)=V.calls[i.toNat]::tw V r:=by unfold tw;rw[List.filterMap_cons_some (f:=λi:Int=>V.calls[i.toNat]?) e2]
  rw[ec];refine⟨A.cs[i.toNat]::ks,.cons _ _ _ _ (bd.cs _ _ _ e1 e2) h1,?_,eC Nat.succ h3,λj hj=>?_⟩
  .rw[dW,dW,h2];show(A.cs[i.toNat]?).elim _ _::_=_;rw[e1];rfl
  .rcases dg.mp hj with rfl|hj
   .exact⟨_,hh.1,e1⟩
   .exact h4 j hj
def vv.sub(h:vv a M L ks cs)(s:qu M M'):vv a M' L ks cs:=by
 induction h with
 | nil=>exact .nil
 | cons k c ks cs h r ih=>exact .cons k c ks cs (h.sub s) ih
def Ss{bs:T0 Bool}{i:Int}(h:zc bs.length i=Db):vR (bs.map D.bl) i=ga (.bl (bs.getD i.toNat pc)):=by
 have hh:(decide (0<=i)&&decide (i<bs.length))=Db:=h;rw[dR,d9,d9]at hh;obtain⟨n,rfl⟩:=d4 hh.1;have hn:n<bs.length:=by lia
 refine uR ?_;rw[dq,cT hn];show ga (D.bl bs[n])=ga (.bl (bs.getD n pc));rw[gC,cT hn];rfl
def D5:Fq P w K mg base 4 a.ac (Ds a):=by
 refine fq G.ac.toDG yW (λr u=>⟨_,(oR (pH (pk u (pO v0 G.c.toCls G.bD (L6 G) r (pW U1)) rL)
 (oS (oY oW))
 pB)
 (oR (pH (pk u (pO v0 G.c.toCls G.bE (HC G) r (pW U1)) rL)
 (oS (oY oW))
 pB)
 (oS (oY rL)))),?_⟩)
 rintro ds M Q ⟨A,V,x,rfl,bd,hk,q⟩
 unfold Fj um at q;refine oU bd.at_ ⟨Z',_,⟨Z',Z'⟩,A,V,x,Z',bd,hk,?_⟩;unfold Lb;cases e:Ft V x with
 | some j=>rw[e]at q;exact⟨M,.refl,q⟩
 | none=>
  rw[e]at q;refine oU bd.at_ ⟨Z',_,⟨Z',Z'⟩,A,V,x,Z',bd,hk,?_⟩;unfold UP;cases e:Iq V x with
  | some j=>rw[e]at q;exact⟨M,.refl,q⟩
  | none=>rw[e]at q;exact⟨M,.refl,q⟩
def Nb:Fq P w K mg base 5 a.aX (Mf a):=by
 refine fq G.aX.toDG vY (λr u=>⟨_,(oR (pH (pk u U2 (vF (oZ v0) G.h.toCls G.ak (yt G) r))
 (oS (oY oW))
 pB)
 (oR (pC 3 vY (pz (D5 G) r G.ac (rK v0 U1)))
 (oR (pH (W3.b3 (yE (pk u U3 rL) (ya (wB (uM (pO v0 G.c.toCls G.T (yL G) r (pW U1)))))))
 (oS (oY oW))
 pB)
 (oS (oY U3))))),?_⟩)
 rintro ds M Q ⟨A,V,l,x,z,rfl,rd,hx,q⟩
 obtain⟨ph,gr,ws,YE,pr,gd,rs,i1,_⟩:=rd.pl;have p8:=rd.ok.p8;have g3:=rd.ok.g3;unfold Gf at q;refine oU rd.bd.at_ (i' Z' (oU i1 ⟨Z',_,⟨Z',Z'⟩,V.p,l,Z',rd.pl,by lia,by lia,λp hp=>i' pj ⟨Z',ql _,?_⟩⟩));obtain⟨M1,e0,t,_⟩:=ub (ds:=l.nm.map D.str) hp;rw[<-e0];have XI:=rd.sub t;show if (!(inD (.str z) (l.nm.map D.str)))=Db then _ else _
 rw[rX];refine qx (c:=!(hasS l.nm z)) (λg=>?_) (λg=>?_)
 .rw[cX (by simpa using g)]at q;exact⟨M,t,q⟩
 rw[cW (by simpa using g)]at q;refine⟨A,V,x,Z',XI.bd,XI.k,?_⟩;unfold Fj;cases e:um V x with
 | some w0=>rw[e]at q;exact⟨M,t,q⟩
 | none=>
  rw[e]at q;refine oU XI.bd.at_ ⟨Z',_,⟨Z',Z'⟩,A,V,l,x,Z',XI,hx,?_⟩;refine qx (c:=!(tH l V x)) (λg=>?_) (λg=>?_)
  .rw[g]at q;exact⟨M,t,q⟩
  .rw[show(!(tH l V x))=pc from dC.mpr g]at q;exact⟨M,t,q⟩
def Na:Fq P w K mg base 3 a.aY (LA a):=by
 refine fq G.aY.toDG Mu (λr u=>⟨_,(oR (pH (pk u v0 oW)
 (oS (oY (pX u U1 (oZ (pA U2 oV)))))
 pB)
 (oR (pH (pk u v0 oW)
 (oS (oY (pO (pA U2 oV) G.e.toCls G.bH (NF G) r (pW U1))))
 pB)
 (oR (pH (pk u v0 oW)
 (oS (oY (pO (pA U2 oV) G.e.toCls G.aw (Gw G) r (pW U1))))
 pB)
 (oR (pH (pk u v0 oW)
 (oS (oY (pX u (oZ (pA U2 oV)) U1)))
 pB)
 (oS (oY (sN (pX u (oZ (pA U2 oV)) U1) (sm (pO (pA U2 oV) G.e.toCls G.aw (Gw G) r (pW U1)))))))))),?_⟩)
 rintro ds M Q ⟨wd,x,r,L,ks,cs,rfl,lr,Zt,hw,q⟩
 cases Zt with
 | nil=>rcases hw with⟨_,h⟩|⟨_,h⟩<;>cases h
 | cons k c ks cs hc XS=>
 obtain⟨ad,md,h1,h2,h3,h4,_⟩:=id hc;have a0:=zp (.ref k.p) (ks.map λk:rA=>D.ref k.p);have hold:∀K:DK,K (.bl (c.hd==ga x)) M->Option.elim (yA M 9 (Gi c.hd) (.str x)) False λb=>K (.bl b) M:=λK hK=>by
  cases e:c.hd with
  | none=>rw[e]at hK;exact hK
  | some y=>rw[e]at hK;exact hK
 rcases hw with⟨rfl|rfl|rfl|rfl,h⟩|⟨hw,h⟩
 .exact i' lr (i' a0 (oU h1 (i' Z' (Dy h3 ⟨M,.refl,q⟩))))
 .exact i' lr (i' a0 (oU h1 ⟨Z',_,⟨Z',Z'⟩,L,k,c,x,Z',hc,M,.refl,q⟩))
 .exact i' lr (i' a0 (oU h1 ⟨Z',_,⟨Z',Z'⟩,L,k,c,x,Z',hc,M,.refl,q⟩))
 .exact i' lr (i' a0 (oU h1 (i' Z' (hold _ ⟨M,.refl,q⟩))))
 .cases XS with
  | nil=>cases h
  | cons k' d ks cs hd _=>
   obtain⟨ad',md',f1,_⟩:=id hd;have a1:vR (.ref k.p::.ref k'.p::ks.map λk:rA=>D.ref k.p) 1=ga (.ref k'.p):=uR (j:=1) Z';have qq:Q (.bl ((c.hd==ga x)&&d.mG x)) M:=by
    rcases hw with rfl|rfl
    .exact q
    .exact q
   rcases hw with rfl|rfl
   all_goals
    refine i' lr (i' a0 (oU h1 (i' Z' ?_)));cases e:c.hd with
    | none=>rw[e]at qq;exact⟨M,.refl,qq⟩
    | some y=>
     rw[e]at qq;have qq:Q (.bl ((y==x)&&d.mG x)) M:=qq;refine qx (c:=y==x) (λg=>?_) (λg=>?_)
     .rw[g,eG]at qq;exact i' lr (i' a1 (oU f1 ⟨Z',_,⟨Z',Z'⟩,L,k',d,x,Z',hd,M,.refl,qq⟩))
     .rw[show(y==x)=pc from dC.mpr g,eM]at qq;exact⟨M,.refl,qq⟩
def Pi:Fq P w K mg base 5 a.aZ (Iz a):=by
 refine fq G.aZ.toDG tE (λr u=>⟨_,(oR (pH (wB (uM (pG (FC Z') Z' G.bP Fs (pW (qv Z' (xc (ix:=[Fa,ga 0]) (N':=["number","board"])) (qy U3) (qh 0) rk (tV u oV v0 (pG qb Z' G.g pZ (pW (oZ U1)))))))))
 (oS (oY oW))
 pB)
 (oR (sY (i:=4) tE.nd Z' (Or.inl Z') Z' (xc (ix:=[Fa,ga 0]) (N':=["number","board"])) (qy U3) (qh 0) rk (pA (oZ U1) v0))
 (oR (pH (wB (uM (pz (Na G) r G.aY (ra U1 U2 v4))))
 (oS (oY oW))
 pB)
 (oR (pH (pk u U1 (pF (rK oW oW)))
 (oS (oY rL))
 pB)
 (oR (pC 5 tE (pz (D5 G) r G.ac (rK v0 U2)))
 (oR (pH (W3.b3 (yE (pk u v5 rL) (yE (uM (pO (pA v4 oV) G.e.toCls G.am (GV G) r (pW U2))) (ya (wB (uM (pO v0 G.c.toCls G.T (yL G) r (pW U2))))))))
 (oS (oY oW))
 pB)
 (oS (oY v5)))))))),?_⟩)
 rintro ds M Q ⟨A,V,l,wd,x,ns,rfl,rd,hx,hw,q⟩
 have hz:=dH;have ZH:ns.length<=2:=by rcases hw with⟨_,h⟩|⟨_,h⟩<;>lia
 have lca:((A.cs.map λk=>D.ref k.p).length:Int)=V.calls.length:=by rw[cR,rd.bd.len]
 unfold MK at q;refine qP (f:=Ww V.calls.length) trivial _ [] _ (by rw[cR];simp only[dB];lia) (λd hd k hk=>?_) λp hp=>?_
 .obtain⟨i,_,rfl⟩:=dw.mp hd;have hk:k (.bl (decide (0<=i)&&decide (i<V.calls.length))) M:=hk;refine qx (c:=decide (0<=i)) (λg=>?_) (λg=>?_)
  .rw[g,eG]at hk;refine oU rd.bd.at_ (i' Z' (i' rd.bd.ca ?_));rw[lca];exact hk
  .rw[show decide (0<=i)=pc from dC.mpr g,eM]at hk;exact hk
 have em:[]++(ns.map D.int).map (Ww V.calls.length)=ns.map λi=>D.bl (zc V.calls.length i):=by rw[dX,dU];rfl
 rw[em];have t:=qu.new (c:=.lst (ns.map λi=>D.bl (zc V.calls.length i))) hp;refine i' pj (i' (ye (zc V.calls.length) ns) ?_);have XI:=rd.sub t;generalize o9 M p (.lst (ns.map λi=>D.bl (zc V.calls.length i)))=M1 at t XI ⊢;rw[zx];refine qx (c:=!(ns.all (zc V.calls.length))) (λg=>?_) (λX9=>?_)
 .rw[cX (by simpa using g)]at q;exact⟨M,t,q⟩
 have X9:ns.all (zc V.calls.length)=Db:=by simpa using X9
 rw[cW (by rw[X9];exact Bool.noConfusion)]at q;obtain⟨ks,hks,eks,lcs,Y4⟩:=Qy XI.bd X9;refine qP (f:=WK A) trivial _ [] _ (by rw[cR];simp only[dB];lia) (λd hd k0 hk=>?_) λp2 Xe=>?_
 .obtain⟨i,hi,rfl⟩:=dw.mp hd;obtain⟨k,i0,e1⟩:=Y4 i hi;obtain⟨n,rfl⟩:=d4 i0;have e1:A.cs[n]?=ga k:=e1;have hk:k0 ((A.cs[n]?).elim .mx λk=>.ref k.p) M1:=hk;rw[e1]at hk;exact oU XI.bd.at_ (i' Z' (i' Z' (i' XI.bd.ca (i' (qX e1) hk))))
 rw[dX,eks];obtain⟨M2,e0,t2,l2⟩:=ub (ds:=ks.map λk:rA=>D.ref k.p) Xe;rw[<-e0];have Zo:=XI.sub t2;have s2:=t.trans t2;have hks:=hks.sub t2;generalize tw V ns=cs at hks lcs q;refine⟨wd,x,p2,_,ks,cs,Z',l2,hks,by rw[lcs];exact hw,?_⟩;refine qx (c:=!ID wd x cs) (λg=>?_) (λg=>?_)
 .rw[cX (by simpa using g)]at q;exact⟨M,s2,q⟩
 rw[cW (by simpa using g)]at q;have two:∀wd:Str,(wd=="answer"||wd=="back")=Db->Q (Gi (if ((um V x).isNone&&(cs.head?.elim pc (λc=>c.my x)&&!(tH l V x)))=Db then ga "full" else um V x)) M->cs.length=1->Ds a [.ref A.b,.str x] M2 λdue M3=>uj (Sl (OO (b3 (k3 .Is (v3 5) (c3 .mx))) (OO (b3 (Aw "waits_with" (λD s=>D=a.e/\s=vp a) (i3 (v3 4) (c3 (.int 0))) (vb (v3 2) xK))) (TM (b3 (Aw "is_free" (λD s=>D=a.c/\s=w9 a) (v3 0) (vb (v3 2) xK)))))) (Rf (c3 (.str "full"))) WG) (Rf (v3 5)) {nx:=λ_ M'=>∃W9,qu W9 M'/\Q .mx W9,rt:=λd M'=>∃W9,qu W9 M'/\Q d W9} [ga (.ref A.b),ga (.str wd),ga (.str x),ga (.tup (ns.map D.int)),ga (.ref p2),ga due] M3:=λwd _ q hl=>by
  cases hks with
  | nil=>cases hl
  | cons k c ks cs hc _=>
  have q:Q (Gi (if ((um V x).isNone&&(c.my x&&!(tH l V x)))=Db then ga "full" else um V x)) M:=q;obtain⟨ad,md,h1,_⟩:=id hc;refine⟨A,V,x,Z',Zo.bd,Zo.k,?_⟩;unfold Fj;cases e:um V x with
  | some w0=>rw[e]at q;exact⟨M,s2,q⟩
  | none=>
   rw[e]at q;refine i' l2 (i' (zp _ _) (oU h1 ⟨Z',_,⟨Z',Z'⟩,_,k,c,x,Z',hc,?_⟩));refine qx (c:=c.my x) (λg1=>?_) (λg1=>?_)
   .rw[g1]at q;refine oU Zo.bd.at_ ⟨Z',_,⟨Z',Z'⟩,A,V,l,x,Z',Zo,hx,?_⟩;refine qx (c:=!(tH l V x)) (λg=>?_) (λg=>?_)
    .rw[g]at q;exact⟨M,s2,q⟩
    .rw[show(!(tH l V x))=pc from dC.mpr g]at q;exact⟨M,s2,q⟩
   .rw[show c.my x=pc from dC.mpr g1]at q;exact⟨M,s2,q⟩
 rcases hw with⟨rfl|rfl|rfl|rfl,h⟩|⟨rfl|rfl,h⟩
 .exact⟨oP Z',Z',Z',two "answer" Z' q (lcs.trans h)⟩
 .exact⟨oP Z',Z',Z',M,s2,q⟩
 .exact⟨oP Z',Z',Z',M,s2,q⟩
 .exact⟨oP Z',Z',Z',two "back" Z' q (lcs.trans h)⟩
 .exact⟨oP Z',Z',Z',M,s2,q⟩
 .exact⟨oP Z',Z',Z',M,s2,q⟩
def RE:Fq P w K mg base 1 a.a0 (Rp a):=by
 refine fq G.a0.toDG yI (λr u=>⟨_,(oR (pH (wB (Co u oV U2 (pG qb Z' G.g pZ (pW (oZ v0)))))
 (oS (oY oW))
 pB)
 (oR (pH (pk u (pA (oZ v0) U2) (pX u U1 oW))
 (oS (oY oW))
 pB)
 (oS (oY rL)))),?_⟩)
 rintro ds M Q ⟨A,V,b,i,rfl,bd,q⟩
 unfold OK at q;have Y4:zc V.on.length i=(decide (0<=i)&&decide (i<V.on.length)):=rfl;have lon:((V.on.map D.bl).length:Int)=V.on.length:=by rw[cR]
 have no:zc V.on.length i=pc->Q (.str "wish") M:=λh=>by rw[cX h]at q;exact q
 have yes:zc V.on.length i=Db->Q (Gi (if (V.on.getD i.toNat pc==b)=Db then ga "wish" else Fa)) M:=λh=>by rw[h,cW Bool.noConfusion]at q;exact q
 refine qx (c:=decide (0<=i)) (λg0=>?_) (λg0=>⟨M,.refl,no (by rw[Y4,show decide (0<=i)=pc from dC.mpr g0];rfl)⟩);refine oU bd.at_ (i' Z' (i' bd.on ?_));rw[lon];refine qx (c:=!(decide (i<(V.on.length:Int)))) (λg1=>⟨M,.refl,no (by rw[Y4,g0,show decide (i<(V.on.length:Int))=pc by simpa using g1];rfl)⟩) (λg1=>?_);have h:zc V.on.length i=Db:=by rw[Y4,g0,show decide (i<(V.on.length:Int))=Db by simpa using g1];rfl
 have q:=yes h;refine oU bd.at_ (i' Z' (i' Z' (i' bd.on (i' (Ss h) ?_))));have es:(UE b=="on")=b:=by cases b<;>rfl
 show if (V.on.getD i.toNat pc==(UE b=="on"))=Db then _ else _
 rw[es];refine qx (λg=>?_) (λg=>?_)
 .rw[cX g]at q;exact⟨M,.refl,q⟩
 .rw[cW g]at q;exact⟨M,.refl,q⟩
def Hq:Fq P w K mg base 6 a.a1 (Hf a):=by
 refine fq G.a1.toDG CA (λr u=>⟨_,(oR (pC 2 CA (pA U1 oV))
 (oR (pH (pk u U2 oW)
 (oS (oY rL))
 pB)
 (oR (pH (pk u U2 (pF (rK oW oW)))
 (oS (oY (pz (RE G) r G.a0 (ra v0 U2 (pA U1 oV)))))
 pB)
 (oR (pH (pk u (pA U1 oV) (vF (oZ v0) G.h.toCls G.O (sj G) r))
 (oS (oY oW))
 pB)
 (oR (pH (pk u U2 oW)
 (oS (oY (pz (Nb G) r G.aX (ra v0 (pA U1 oV) (pA U1 oV)))))
 pB)
 (oS (oY (pz (Pi G) r G.aZ (pT v0 (ra U2 (pA U1 oV) (qK U1 (rc oV) rE))))))))))),?_⟩)
 rintro ds M Q ⟨A,V,l,e,rfl,rd,hf,q⟩
 obtain⟨ph,gr,ws,YE,pr,gd,rs,i1,_⟩:=rd.pl;have p8:=rd.ok.p8;cases e with
 | turn=>exact⟨M,.refl,q⟩
 | sw b i=>
  cases b with
  | true=>exact⟨oP Z',Z',Z',A,V,Db,i,Z',rd.bd,M,.refl,q⟩
  | false=>exact⟨oP Z',Z',Z',A,V,pc,i,Z',rd.bd,M,.refl,q⟩
 | call x z=>
  have q:Q (Gi (if hasS l.pn x=pc then ga "name" else Gf l V x z)) M:=q;refine⟨oP Z',Z',Z',?_⟩;refine oU rd.bd.at_ (i' Z' (oU i1 ⟨Z',_,⟨Z',Z'⟩,V.p,l,Z',rd.pl,by lia,λp Xe=>i' pj ⟨Z',ql _,?_⟩⟩));obtain⟨M1,e0,t,_⟩:=ub (ds:=l.pn.map D.str) Xe;rw[<-e0];have XI:=rd.sub t;show if (!(inD (.str x) (l.pn.map D.str)))=Db then _ else _
  rw[rX];refine qx (c:=!(hasS l.pn x)) (λg=>?_) (λg=>?_)
  .rw[cX (by simpa using g)]at q;exact⟨M,t,q⟩
  .have g:hasS l.pn x=Db:=by simpa using g
   rw[g,cW Bool.noConfusion]at q;exact⟨A,V,l,x,z,Z',XI,qF.mp g,M,t,q⟩
 | num wd x ns=>
  have q:Q (Gi (if hasS l.pn x=pc then ga "name" else MK l V wd x ns)) M:=q;have hf:tI.nf wd ns.length:=hf;have key:∀(M1:Mp),qu M M1->if (!(inD (.str x) (l.pn.map D.str)))=Db then(∃W9,qu W9 M1/\Q (.str "name") W9)else Iz a [.ref A.b,.str wd,.str x,.tup (ns.map D.int)] M1 λd M'=>∃W9,qu W9 M'/\Q d W9:=λM1 t=>by
   rw[rX];refine qx (c:=!(hasS l.pn x)) (λg=>?_) (λg=>?_)
   .rw[cX (by simpa using g)]at q;exact⟨M,t,q⟩
   .have g:hasS l.pn x=Db:=by simpa using g
    rw[g,cW Bool.noConfusion]at q;exact⟨A,V,l,wd,x,ns,Z',rd.sub t,qF.mp g,hf,M,t,q⟩
  have one:ns.length=1->∃i,ns=[i]:=List.length_eq_one_iff.mp;have two:ns.length=2->∃i j,ns=[i,j]:=λh=>by
   match ns,h with
   | [i,j],_=>exact⟨i,j,Z'⟩
  rcases id hf with⟨rfl|rfl|rfl|rfl,h⟩|⟨rfl|rfl,h⟩
  .obtain⟨i,rfl⟩:=one h;exact⟨oP Z',Z',Z',oU rd.bd.at_ (i' Z' (oU i1 ⟨Z',_,⟨Z',Z'⟩,V.p,l,Z',rd.pl,by lia,λp Xe=>i' pj ⟨Z',ql _,key _ (.new Xe)⟩⟩))⟩
  .obtain⟨i,rfl⟩:=one h;exact⟨oP Z',Z',Z',oU rd.bd.at_ (i' Z' (oU i1 ⟨Z',_,⟨Z',Z'⟩,V.p,l,Z',rd.pl,by lia,λp Xe=>i' pj ⟨Z',ql _,key _ (.new Xe)⟩⟩))⟩
  .obtain⟨i,rfl⟩:=one h;exact⟨oP Z',Z',Z',oU rd.bd.at_ (i' Z' (oU i1 ⟨Z',_,⟨Z',Z'⟩,V.p,l,Z',rd.pl,by lia,λp Xe=>i' pj ⟨Z',ql _,key _ (.new Xe)⟩⟩))⟩
  .obtain⟨i,rfl⟩:=one h;exact⟨oP Z',Z',Z',oU rd.bd.at_ (i' Z' (oU i1 ⟨Z',_,⟨Z',Z'⟩,V.p,l,Z',rd.pl,by lia,λp Xe=>i' pj ⟨Z',ql _,key _ (.new Xe)⟩⟩))⟩
  .obtain⟨i,j,rfl⟩:=two h;exact⟨oP Z',Z',Z',oU rd.bd.at_ (i' Z' (oU i1 ⟨Z',_,⟨Z',Z'⟩,V.p,l,Z',rd.pl,by lia,λp Xe=>i' pj ⟨Z',ql _,key _ (.new Xe)⟩⟩))⟩
  .obtain⟨i,j,rfl⟩:=two h;exact⟨oP Z',Z',Z',oU rd.bd.at_ (i' Z' (oU i1 ⟨Z',_,⟨Z',Z'⟩,V.p,l,Z',rd.pl,by lia,λp Xe=>i' pj ⟨Z',ql _,key _ (.new Xe)⟩⟩))⟩
def C4(V:qc)(x:Str):Prop:=∀c∈V.calls,¬A9 c x
def EC{V:qc}(h:um V x=Fa):C4 V x:=by
 unfold um at h;cases e1:Ft V x with
 | some j=>rw[e1]at h;cases h
 | none=>
  cases e2:Iq V x with
  | some j=>rw[e1,e2]at h;cases h
  | none=>
   intro c hc g;have h1:=js.mp e1 c hc;have h2:=js.mp e2 c hc;rcases g with g|g
   .rw[h1]at g;cases g
   .rw[h2]at g;cases g
def sv{c:oX}(h:c.st="rings"){x:Str}:A9 c x↔x=c.cr:=by unfold A9 oX.mM oX.mF oX.mE;rw[h];simp(decide:=true)
def Ed{c:oX}(h:c.st="waits"){x:Str}:A9 c x↔x=c.cr:=by unfold A9 oX.mM oX.mF oX.mE;rw[h];simp(decide:=true)
def tj{c:oX}(h:c.st="talks"){x:Str}:A9 c x↔x∈c.ms:=by unfold A9 oX.mM oX.mF oX.mE;rw[h,<-qF];simp(decide:=true)
def Cn{c:oX}(h:c.st="held"){x:Str}:A9 c x↔x∈c.ms/\c.hd≠ga x:=by unfold A9 oX.mM oX.mF;rw[h,<-qF];simp(decide:=true)
def FZ{c:oX}(h:c.st="over"){x:Str}:¬A9 c x:=by unfold A9 oX.mM oX.mF oX.mE;rw[h];simp(decide:=true)
def sA{c:oX}(h:c.st="rings"){x:Str}:c.hasB x=Db↔x=c.cr\/x∈c.at_:=by unfold oX.hasB;rw[h,<-qF];simp(decide:=true)
def DN{c:oX}(h:c.st="waits"){x:Str}:c.hasB x=Db↔x=c.cr:=by unfold oX.hasB;rw[h];simp(decide:=true)
def sH{c:oX}(h:c.st="talks"\/c.st="held"){x:Str}:c.hasB x=Db↔x∈c.ms:=by unfold oX.hasB;rw[<-qF];rcases h with h|h<;>(rw[h];simp(decide:=true))
def GY{c:oX}(h:c.st="over"){x:Str}:c.hasB x=pc:=by unfold oX.hasB;rw[h];simp(decide:=true)
def rQ{c:oX}{x:Str}:c.my x=Db↔c.st="waits"/\x∈c.at_:=by unfold oX.my;rw[dR,eY,qF]
theorem Fm{α:Type}(f:α->Bool):∀{l:List α} {i:Nat} {c:α} (c':α),l[i]?=ga c->((l.set i c').filter f).length+(if f c=Db then 1 else 0)=(l.filter f).length+(if f c'=Db then 1 else 0)
 | [],_,_,_,h=>by simp at h
 | x::r,0,c,c',h=>by cases h;rw[List.set_cons_zero,gv,gv];split<;>split<;>simp
 | x::r,i+1,c,c',h=>by
  have ih:=Fm f (l:=r) (i:=i) (c:=c) c' (by simpa using h);rw[kO,gv,gv];split
  .rw[dY,dY];lia
  .exact ih
def zN.set{V V':qc}{o o':Option Nat}{i:Nat}{c c':oX}(h:zN l V o)(e:V'.calls=V.calls.set i c')(hc:V.calls[i]?=ga c)(ho:∀j,j≠i->(o==ga j)=(o'==ga j))(ok:vJ l (o'==ga i) c')(he:∀x,A9 c' x->A9 c x\/C4 V x)(hu:∀x,c'.hasB x=Db->c.hasB x=Db\/(uN V x:Int)<wu l x)(hw:∀x,c'.my x=Db->c.my x=Db\/Az V x=pc)(nx:tZ l V'):zN l V' o':=by
 have si:∀{j:Nat} {d:oX},V'.calls[j]?=ga d->(j=i/\d=c')\/(j≠i/\V.calls[j]?=ga d):=λ{j d} g=>by rw[e]at g;exact(EZ g).imp (λg=>⟨g.1,g.2.1⟩) id
 have key:∀(j:Nat) cj x,j≠i->V.calls[j]?=ga cj->A9 c' x->A9 cj x->False:=λj cj x hj e1 g1 g2=>by
  rcases he x g1 with z|z
  .exact hj (h.un j i cj c x e1 hc g2 z)
  .exact z cj (qW e1) g2
 have keyw:∀(j:Nat) cj x,j≠i->V.calls[j]?=ga cj->c'.my x=Db->cj.my x=Db->False:=λj cj x hj e1 g1 g2=>by
  rcases hw x g1 with z|z
  .exact hj (h.wt j i cj c x e1 hc g2 z)
  .unfold Az at z;exact absurd g2 (by rw[kS.mp z cj (qW e1)|>dC.mpr];exact Bool.noConfusion)
 refine⟨λj d g=>?_,λm n cm cn x e1 e2 g1 g2=>?_,λx hx=>?_,λm n cm cn x e1 e2 g1 g2=>?_,nx⟩
 .rcases si g with⟨rfl,rfl⟩|⟨hj,g⟩
  .exact ok
  .rw[<-ho j hj];exact h.ok j d g
 .rcases si e1 with⟨rfl,rfl⟩|⟨hm,e1⟩<;>rcases si e2 with⟨rfl,rfl⟩|⟨hn,e2⟩
  .rfl
  .exact(key n cn x hn e2 g1 g2).elim
  .exact(key m cm x hm e1 g2 g1).elim
  .exact h.un m n cm cn x e1 e2 g1 g2
 .have cs:=Fm (λk:oX=>k.hasB x) c' hc;have hl:=h.ln x hx;unfold uN at hl ⊢;rw[e];by_cases g:c'.hasB x=Db
  .rw[cX g]at cs;rcases hu x g with z|z
   .rw[cX z]at cs;lia
   .unfold uN at z;lia
  .rw[cW g]at cs;lia
 .rcases si e1 with⟨rfl,rfl⟩|⟨hm,e1⟩<;>rcases si e2 with⟨rfl,rfl⟩|⟨hn,e2⟩
  .rfl
  .exact(keyw n cn x hn e2 g1 g2).elim
  .exact(keyw m cm x hm e1 g2 g1).elim
  .exact h.wt m n cm cn x e1 e2 g1 g2
def zN.add{V V':qc}{c':oX}(h:WF l V)(e:V'.calls=V.calls++[c'])(ok:vJ l Db c')(he:∀x,A9 c' x->C4 V x)(hu:∀x,c'.hasB x=Db->(uN V x:Int)<wu l x)(hw:∀x,c'.my x=pc)(nx:tZ l V'):zN l V' (ga V.calls.length):=by
 have si:∀{j:Nat} {d:oX},V'.calls[j]?=ga d->(j=V.calls.length/\d=c')\/(j≠V.calls.length/\V.calls[j]?=ga d):=λ{j d} g=>by
  rw[e]at g;by_cases z:j<V.calls.length
  .rw[eF z]at g;exact .inr ⟨by lia,g⟩
  .have:=(cV.mp g).1;rw[cU,dE]at this;have z:j=V.calls.length:=by lia
   subst z;rw[eP (cZ _)]at g;simp only[gP,iB,jl]at g;exact .inl ⟨Z',g.symm⟩
 refine⟨λj d g=>?_,λm n cm cn x e1 e2 g1 g2=>?_,λx hx=>?_,λm n cm cn x e1 e2 g1 g2=>?_,nx⟩
 .rcases si g with⟨rfl,rfl⟩|⟨hj,g⟩
  .rw[eU];exact ok
  .rw[show(ga V.calls.length==ga j)=pc by simpa using dQ hj];exact h.ok j d g
 .rcases si e1 with⟨rfl,rfl⟩|⟨hm,e1⟩<;>rcases si e2 with⟨rfl,rfl⟩|⟨hn,e2⟩
  .rfl
  .exact(he x g1 cn (qW e2) g2).elim
  .exact(he x g2 cm (qW e1) g1).elim
  .exact h.un m n cm cn x e1 e2 g1 g2
 .have hl:=h.ln x hx;unfold uN at hl ⊢;rw[e,iz,cU,gv];split
  .rename_i g;have:=hu x g;unfold uN at this;simp only[iP,dE];lia
  .simp only[iP,dB];lia
 .rcases si e1 with⟨rfl,rfl⟩|⟨hm,e1⟩<;>rcases si e2 with⟨rfl,rfl⟩|⟨hn,e2⟩
  .rfl
  .rw[hw x]at g1;cases g1
  .rw[hw x]at g2;cases g2
  .exact h.wt m n cm cn x e1 e2 g1 g2
noncomputable def oX.core(c:oX):oX:={c with way:=[],si:=0}
def xy(V V':qc):Prop:=V'.calls.map oX.core=V.calls.map oX.core
def xy.at_{V V':qc}(h:xy V V'){i:Nat}{c':oX}(e:V'.calls[i]?=ga c'):∃c,V.calls[i]?=ga c/\c'.core=c.core:=by
 have:=eC (·[i]?) h;simp only[dq,e]at this;cases e':V.calls[i]? with
 | none=>rw[e']at this;cases this
 | some c=>rw[e']at this;exact⟨c,Z',de this⟩
def xy.used{V V':qc}(h:xy V V')(x:Str):uN V' x=uN V x:=by
 have key:∀cs:List oX,(cs.filter (·.hasB x)).length=((cs.map oX.core).filter (·.hasB x)).length:=λcs=>by rw[gY,cR];rfl
 unfold uN;rw[key,h,<-key]
def xy.wf{V V':qc}{o:Option Nat}(h:xy V V')(wf:zN l V o)(hw:∀(i:Nat) c',V'.calls[i]?=ga c'->c'.way≠[]/\∀z∈c'.way,z∈l.nm)(nx:tZ l V'):zN l V' o:=by
 refine⟨λi c' e=>?_,λi j ci cj x e1 e2 g1 g2=>?_,λx hx=>by rw[h.used];exact wf.ln x hx,λi j ci cj x e1 e2 g1 g2=>?_,nx⟩
 .obtain⟨c,ec,ee⟩:=h.at_ e;have k:=wf.ok i c ec;have k1:c'.at_=c.at_:=show c'.core.at_=c.core.at_ by rw[ee]
  have k2:c'.ms=c.ms:=show c'.core.ms=c.core.ms by rw[ee]
  have k3:c'.cr=c.cr:=show c'.core.cr=c.core.cr by rw[ee]
  exact⟨by show QO _ c'.core;rw[ee];exact k.sh,by rw[k3];exact k.cr,by rw[k1];exact k.at_,by rw[k2];exact k.ms,by rw[k1];exact k.an,by rw[k2];exact k.mn,by rw[k1,k3];exact k.ca,hw i c' e⟩
 .obtain⟨di,a1,a2⟩:=h.at_ e1;obtain⟨dj,b1,b2⟩:=h.at_ e2;exact wf.un i j di dj x a1 b1 (by show A9 di.core x;rw[<-a2];exact g1) (by show A9 dj.core x;rw[<-b2];exact g2)
 .obtain⟨di,a1,a2⟩:=h.at_ e1;obtain⟨dj,b1,b2⟩:=h.at_ e2;exact wf.wt i j di dj x a1 b1 (by show di.core.my x=Db;rw[<-a2];exact g1) (by show dj.core.my x=Db;rw[<-b2];exact g2)
def sU.core{V V':qc}(h:sU V V'):xy V V':=by have:=eC (List.map oX.core) h;rw[dU,dU]at this;exact this
def Ee(V:qc):xy V (pM V .turn):=by show(V.calls.map oX.tick).map oX.core=V.calls.map oX.core;rw[dU];refine fK λc _=>?_;show(oX.tick c).core=c.core;unfold oX.tick;split<;>rfl
def Bh{V:qc}(wf:WF l V):WF l (pM V .turn):=(Ee V).wf wf (λi c' e=>by
 have e:(V.calls.map oX.tick)[i]?=ga c':=e;rw[dq]at e;cases q:V.calls[i]? with
 | none=>rw[q]at e;cases e
 | some c=>
  rw[q]at e;have e:c.tick=c':=de e;have hw:c.tick.way=c.way:=by unfold oX.tick;split<;>rfl
  rw[<-e,hw];exact(wf.ok i c q).wy) wf.nx
def UY{V:qc}{b:Bool}{i:Nat}(wf:WF l V):WF l (pM V (.sw b i)):=⟨wf.ok,wf.un,wf.ln,wf.wt,wf.nx⟩
def Fy{V:qc}{o:Option Nat}{i:Nat}{z:Str}{ns:T0 Nat}(wf:zN l V o):zN l (pM V (.asks i z ns)) o:=⟨wf.ok,wf.un,wf.ln,wf.wt,wf.nx⟩
def HW{V:qc}{o:Option Nat}{v:rh}(wf:zN l V o)(hz:v.g∈l.nm):zN l (pM V (.leg v)) o:=(uE V v).core.wf wf (λi c' e=>by
 have e:(V.calls.modify v.i (·.go v.g))[i]?=ga c':=e;rw[gL]at e;cases q:V.calls[i]? with
 | none=>rw[q]at e;cases e
 | some c=>
  rw[q]at e;have k:=(wf.ok i c q).wy;have e:(if v.i=i then c.go v.g else c)=c':=de e;by_cases g:v.i=i
  .rw[cX g]at e;rw[<-e];refine⟨by show c.way++[v.g]≠[];simp,λz hz'=>?_⟩;rcases dM.mp (show z∈c.way++[v.g]from hz')with y|y
   .exact k.2 z y
   .rw[c9.mp y];exact hz
  .rw[cW g]at e;rw[<-show c=c' from e];exact k) wf.nx
theorem CH{o:Option Nat}(i:Nat):∀(st:sI) (q:Option Str) {V:qc},zN l V o->(∀s∈st,s.1∈l.nm)->zN l (qr V (qQ i q st)) o
 | [],_,V,wf,_=>wf
 | (y,gs)::r,Fa,V,wf,h=>CH i r (ga y) (Fy wf) λs hs=>h s (dz _ hs)
 | (y,gs)::r,ga u,V,wf,h=>CH i r (ga y) (Fy (HW wf (h _ dD))) λs hs=>h s (dz _ hs)
def rj{V:qc}{i:Nat}{c:oX}{f:oX->oX}(h:V.calls[i]?=ga c):(xi V i f).calls=V.calls.set i (f c):=by unfold xi;rw[tq h]
def Ba{i:Nat}:∀j,j≠i->((ga i:Option Nat)==ga j)=((Fa:Option Nat)==ga j):=λj hj=>by rw[show((ga i:Option Nat)==ga j)=pc by simpa using dQ hj];rfl
def UI{V:qc}{i:Nat}{c:oX}(wf:zN l V (ga i))(hc:V.calls[i]?=ga c):c.st="rings"/\c.ms=[]/\c.hd=Fa/\c.wd=Fa/\c.at_=[]:=by
 have sh:=(wf.ok i c hc).sh;rw[eU]at sh;rcases sh with g|g
 .exact⟨g.1,g.2.1,g.2.2.1,g.2.2.2.1,g.2.2.2.2.1 Z'⟩
 .cases g.1
def NZ{c:oX}{o:Bool}{w:Str}(k:vJ l o c)(hw:w∈L0):vJ l pc (c.over w):=⟨.inr ⟨Z',.inr (.inr (.inr ⟨Z',Z',Z',Z',w,hw,Z'⟩))⟩,k.cr,(λx hx=>by cases hx),(λx hx=>by cases hx),eE,eE,(λhx=>by cases hx),k.wy⟩
def wq{V V':qc}{o:Option Nat}{i:Nat}{c:oX}{w:Str}(wf:zN l V o)(hc:V.calls[i]?=ga c)(ho:o=Fa\/o=ga i)(hw:w∈L0)(e:V'.calls=V.calls.set i (c.over w))(nx:tZ l V'):WF l V':=
 wf.set e hc (λj hj=>by rcases ho with rfl|rfl;rfl;exact Ba j hj) (NZ (wf.ok i c hc) hw) (λx g=>(FZ Z' g).elim) (λx g=>by rw[GY (c:=c.over w) Z']at g;cases g) (λx g=>by have:=(rQ.mp g).1;exact absurd this (show("over":Str)≠"waits" by decide)) nx
def Ho{l:pf}{V:qc}{c z:Str}(h:(l.mi z).Nodup):(xo l V c z).Nodup:=by
 unfold xo;split
 .cases(uI (l.mi z) (zL V z)).filter λx=>hasS (ud l V c z) x with
  | nil=>exact eE
  | cons y r=>exact dN.mpr ⟨dP,eE⟩
 .exact h.sublist fT
def Lz(ps:T0 (Str×Int))(z:Str)(n:Int)(y:Str):(Ct ps z n).find? (λp=>decide (p.1=y))=if y=z then ga (z,n)else ps.find? λp=>decide (p.1=y):=by
 unfold Ct;by_cases h:ps.any (λp=>decide (p.1=z))=Db
 .rw[cX h];induction ps with
  | nil=>cases h
  | cons p r ih=>
   rw[dW,eQ,eQ];by_cases hp:p.1=z
   .rw[cX hp];by_cases hy:y=z
    .rw[cX hy,hy];simp[hp]
    .rw[cW hy];have n1:decide (p.1=y)=pc:=dZ (λq=>hy (q.symm.trans hp));simp only[n1];by_cases hr:r.any (λp=>decide (p.1=z))=Db
     .have:=ih hr;rw[cW hy]at this;exact this
     .have hr:∀q∈r,¬q.1=z:=λq hq g=>hr (fM.mpr ⟨q,hq,dI g⟩);rw[show r.map (λp=>if p.1=z then(p.1,n)else p)=r from(fK λq hq=>cW (hr q hq)).trans (iY _)]
   .rw[cW hp];have hr:r.any (λp=>decide (p.1=z))=Db:=by
     rw[fX,gX]at h;rcases h with g|g
     .exact absurd (fJ g) hp
     .exact g
    have ih:=ih hr;by_cases hy:y=z
    .rw[cX hy]at ih ⊢;have n1:decide (p.1=y)=pc:=dZ (λq=>hp (q.trans hy));simp only[n1];exact ih
    .rw[cW hy]at ih ⊢;cases decide (p.1=y)with
     | true=>rfl
     | false=>exact ih
 .rw[cW h,kZ];have hr:∀q∈ps,¬q.1=z:=λq hq g=>h (fM.mpr ⟨q,hq,dI g⟩);by_cases hy:y=z
  .subst hy;rw[cX Z',gg.mpr λq hq=>by simpa using hr q hq,Option.none_or];simp
  .rw[cW hy,eQ,dZ (λq:z=y=>hy q.symm)];simp
def LL{V:qc}{z:Str}{n:Int}(h:tZ l V)(h0:0<=n)(h1:n<=((l.mi z).length:Int)):tZ l (pM V (.next z n)):=λy hy ht=>by
 show ∃v,(Ct V.ps z n).find? _=ga v/\_;rw[Lz];by_cases e:y=z
 .subst e;rw[cX Z'];exact⟨_,Z',h0,h1⟩
 .rw[cW e];exact h y hy ht
def FO{V:qc}(h:tH l V x=Db):(uN V x:Int)<wu l x:=fJ h
def JJ{V V':qc}{o:Option Nat}{i:Nat}{c:oX}{w x:Str}(wf:zN l V o)(hc:V.calls[i]?=ga c)(e:V'.calls=V.calls.set i (c.over w))(hx:A9 c x):C4 V' x:=λd hd g=>by
 rw[e]at hd;obtain⟨j,hj,ed⟩:=gR hd;have ej:(V.calls.set i (c.over w))[j]?=ga d:=by rw[cT hj,ed]
 rcases EZ ej with⟨_,rfl,_⟩|⟨Xt,ej⟩
 .exact FZ Z' g
 .exact Xt (wf.un j i d c x ej hc g hx)
def J6{V V':qc}{i:Nat}{c:oX}{w x:Str}(hc:V.calls[i]?=ga c)(e:V'.calls=V.calls.set i (c.over w))(hx:c.hasB x=Db):uN V' x+1=uN V x:=by
 have:=Fm (λk:oX=>k.hasB x) (c.over w) hc;unfold uN;rw[e];simp only[hx,iU,GY (c:=c.over w) Z']at this
 simpa using this
def F7{V V':qc}{o:Option Nat}{i j:Nat}{c d:oX}{ms:QQQ}(wf:zN l V o)(ho:o=Fa\/o=ga i)(hc:V.calls[i]?=ga c)(hd:V.calls[j]?=ga d)(X6:i≠j)(e:V'.calls=(V.calls.set i (c.over "merged")).set j (d.mem ms))(nx:tZ l V')(dt:d.st="talks")(m1:ms.Nodup)(m2:ms.length=2\/ms.length=3)(m3:∀x∈ms,x∈d.ms\/(A9 c x/\c.hasB x=Db))(m4:∀x∈ms,x∈l.pn):WF l V':=by
 have e1:(xi V i (·.over "merged")).calls=V.calls.set i (c.over "merged"):=rj hc;have w1:WF l (xi V i (·.over "merged")):=wq wf hc ho (by decide) e1 wf.nx;have hd1:(xi V i (·.over "merged")).calls[j]?=ga d:=by rw[e1,ft X6];exact hd
 have kd:=w1.ok j d hd1;have kd':d.hd=Fa/\d.wd=Fa/\d.at_=[]:=by
  rcases kd.sh with g|⟨_,g|g|⟨_,g⟩|g⟩
  .rw[dt]at g;exact absurd g.1 (by decide)
  .rw[dt]at g;exact absurd g.1 (by decide)
  .exact⟨g.2.2.1,g.2.2.2.1,g.2.2.2.2⟩
  .rw[dt]at g;exact absurd g.1 (by decide)
  .rw[dt]at g;exact absurd g.1 (by decide)
 refine w1.set (c':=d.mem ms) (by rw[e,e1]) hd1 (λ_ _=>rfl) ⟨.inr ⟨Z',.inr (.inl ⟨dt,m2,kd'.1,kd'.2.1,kd'.2.2⟩)⟩,kd.cr,kd.at_,m4,kd.an,m1,kd.ca,kd.wy⟩ (λx g=>?_) (λx g=>?_) (λx g=>?_) nx
 .have g:=(tj (c:=d.mem ms) dt).mp g;rcases m3 x g with y|y
  .exact .inl ((tj dt).mpr y)
  .exact .inr (JJ wf hc e1 y.1)
 .have g:=(sH (c:=d.mem ms) (.inl dt)).mp g;rcases m3 x g with y|y
  .exact .inl ((sH (.inl dt)).mpr y)
  .have:=J6 hc e1 y.2;have:=wf.ln x (m4 x g);exact .inr (by lia)
 .have:=(rQ.mp g).1;rw[show(d.mem ms).st="talks" from dt]at this;exact absurd this (by decide)
def Sb{V V1:qc}{i:Nat}{c:oX}{e:uU}(ok:qR l)(wf:zN l V1 (ga i))(same:xy V V1)(hc:V1.calls[i]?=ga c)(he:Gk l V c.cr e):WF l (qr V1 (rP l V1 i e)):=by
 obtain⟨p1,p2,p3,p4,p5⟩:=UI wf hc;have k:=wf.ok i c hc;have hi:=(cV.mp hc).1;cases e with
 | rings z ps=>
  obtain⟨hz,Xt,rfl⟩:=he;obtain⟨⟨q1,q2,q3,q4⟩,_⟩:=ok.of hz;obtain⟨r1,r2⟩:=Ge (l:=l) (V:=V) (c:=c.cr) (z:=z);generalize hps:xo l V c.cr z=ps at Xt r1 r2;have Xb:∀V2:qc,V2.calls=V1.calls->tZ l V2->WF l (pM V2 (.rings i ps)):=λV2 e2 nx=>by
   have e3:(pM V2 (.rings i ps)).calls=V1.calls.set i (c.ring ps):=by show(xi (qB V2 _) i _).calls=_;rw[rj (c:=c) (by show V2.calls[i]?=_;rw[e2];exact hc)];show V2.calls.set i _=_;rw[e2]
   have free:∀x∈ps,tH l V x=Db/\x≠c.cr:=λx hx=>by have h:=(fB.mp (r1 x hx).1).2;simp only[dR,gG]at h;exact⟨h.2,by simpa using h.1⟩
   refine wf.set e3 hc Ba ⟨.inl ⟨Z',p2,p3,p4,(λh=>by cases h),λ_=>Xt⟩,k.cr,λx hx=>q4 x (r1 x hx).2,k.ms,by rw[<-hps];exact Ho q3,k.mn,λhx=>(free _ hx).2 Z',k.wy⟩ (λx g=>?_) (λx g=>?_) (λx g=>?_) nx
   .exact .inl ((sv p1).mpr ((sv (c:=c.ring ps) Z').mp g))
   .rcases(sA (c:=c.ring ps) Z').mp g with y|y
    .exact .inl ((sA p1).mpr (.inl y))
    .refine .inr ?_;rw[same.used];exact FO (free x y).1
   .exact absurd (rQ.mp g).1 (show("rings":Str)≠"waits" by decide)
  show WF l (qr V1 ((if (l.mz z=="turns")=Db then _ else _)++[.rings i ps]));rw[rC];by_cases ht:(l.mz z=="turns")=Db
  .rw[cX ht];have lp:0<(l.mi z).length:=fi.mpr q1;refine Xb _ Z' (LL wf.nx (eL _ (by lia)) (Int.le_of_lt (eJ _ (by lia))))
  .rw[cW ht];exact Xb V1 Z' wf.nx
 | waits z=>
  obtain⟨hz,Xt,hw⟩:=he;have e3:(pM V1 (.waits i z)).calls=V1.calls.set i (c.wait z):=rj (V:=qB V1 _) hc;have hw1:Az V1 z=pc:=by
   unfold Az at hw ⊢;have key:∀cs:List oX,cs.any (·.my z)=(cs.map oX.core).any (·.my z):=λcs=>by rw[jE];rfl
   rw[key,same,<-key];exact hw
  refine wf.set e3 hc Ba ⟨.inr ⟨Z',.inl ⟨Z',p2,p3,p4,Z'⟩⟩,k.cr,λx hx=>by rw[c9.mp hx];exact hz,k.ms,dN.mpr ⟨dP,eE⟩,k.mn,λhx=>Xt (c9.mp hx).symm,k.wy⟩ (λx g=>?_) (λx g=>?_) (λx g=>?_) wf.nx
  .exact .inl ((sv p1).mpr ((Ed (c:=c.wait z) Z').mp g))
  .exact .inl ((sA p1).mpr (.inl ((DN (c:=c.wait z) Z').mp g)))
  .have:=(rQ.mp g).2;rw[c9.mp this];exact .inr hw1
 | breaks z=>
  obtain⟨x,rfl,hb⟩:=he;obtain⟨j,d0,t1,t2,t3,t4,t5,t6⟩:=FS hb;have ht:vA V1 z=ga j:=by
   rw[<-t1];unfold vA;have key:∀cs:List oX,cs.findIdx? (·.mE z)=(cs.map oX.core).findIdx? (·.mE z):=λcs=>by rw[hG];rfl
   rw[key,same,<-key]
  obtain⟨d,ed,ec⟩:∃d,V1.calls[j]?=ga d/\d.core=d0.core:=by
   have:=eC (·[j]?) same;simp only[dq,t2]at this;cases q:V1.calls[j]? with
   | none=>rw[q]at this;cases this
   | some d=>rw[q]at this;exact⟨d,Z',de this⟩
  have ds:d.st="talks":=by rw[show d.st=d0.st from show d.core.st=d0.core.st by rw[ec]];exact t3
  have dm:d.ms=d0.ms:=show d.core.ms=d0.core.ms by rw[ec]
  have X6:i≠j:=λy=>by subst y;rw[hc]at ed;cases ed;rw[p1]at ds;exact absurd ds (by decide)
  have Z6:rP l V1 i (.breaks z)=[.merge i j (d.ms++[c.cr])]:=by unfold rP;dsimp only;rw[ht,hc];dsimp only;rw[ed];rfl
  rw[Z6];have ncr:c.cr∉d.ms:=λy=>X6 (wf.un i j c d c.cr hc ed ((sv p1).mpr Z') ((tj ds).mpr y));have kd:=wf.ok j d ed;refine F7 (V':=pM V1 (.merge i j (d.ms++[c.cr]))) (ms:=d.ms++[c.cr]) wf (.inr Z') hc ed X6 ?_ wf.nx ds ?_ (.inr ?_) (λx hx=>?_) (λx hx=>?_)
  .show(V1.calls.modify i _).modify j _=_;rw[tq hc,tq (show(V1.calls.set i _)[j]?=ga d by rw[ft X6];exact ed)]
  .refine gk.mpr ⟨kd.mn,dN.mpr ⟨dP,eE⟩,λx hx y hy q=>ncr ?_⟩;rw[c9.mp hy]at q;rw[<-q];exact hx
  .rw[cU,dm,t5];rfl
  .rcases dM.mp hx with y|y
   .exact .inl y
   .rw[c9.mp y];exact .inr ⟨(sv p1).mpr Z',(sA p1).mpr (.inl Z')⟩
  .rcases dM.mp hx with y|y
   .exact kd.ms x y
   .rw[c9.mp y];exact k.cr
 | engaged z=>exact wq (V':=pM V1 (.over i "engaged")) wf hc (.inr Z') (by decide) (rj (V:=qB V1 _) hc) wf.nx
 | barred=>exact wq (V':=pM V1 (.over i "barred")) wf hc (.inr Z') (by decide) (rj (V:=qB V1 _) hc) wf.nx
 | ring ns=>exact wq (V':=pM V1 (.over i "ring")) wf hc (.inr Z') (by decide) (rj (V:=qB V1 _) hc) wf.nx
def QX{V:qc}{i:Nat}{k:oX}(ok:qR l)(wf:zN l V (ga i))(hk:V.calls[i]?=ga k):WF l (qr V (uK l V i)):=by
 have XT:=wf.ok i k hk;unfold uK;rw[hk];dsimp only[Option.elim];obtain⟨z,hz⟩:∃z,k.way.getLast?=ga z:=by
  cases e:k.way.getLast? with
  | none=>exact absurd (gi.mp e) XT.wy.1
  | some z=>exact⟨z,Z'⟩
 rw[show k.way.getLastD Str.empty=z by rw[gK,hz];rfl];have ro:wH l V k.cr (l.nm.length+1) [] (uk l V k.cr z k.way.dropLast):=xG ok _ _ _ _ (XT.wy.2 z (ib hz)) λx hx=>XT.wy.2 x (ic _ hx);generalize uk l V k.cr z k.way.dropLast=R at ro;obtain⟨e,st⟩:=R;have snm:∀s∈st,s.1∈l.nm:=λs hs=>(ro.nm s hs).elim (λh=>by cases h) id;have w1:=CH i st Fa wf snm;have XE:=uq i st Fa V;rw[rC,rC];dsimp only;have Xb:∀V1:qc,zN l V1 (ga i)->sU V V1->WF l (qr V1 (rP l V i e)):=λV1 w s=>by
  rw[<-s.ends];obtain⟨c',e1,e2⟩:=s.at_ hk;have hcr:c'.cr=k.cr:=show c'.bare.cr=k.bare.cr by rw[e2]
  exact Sb ok w s.core e1 (by rw[hcr];exact ro.e)
 cases e with
 | ring ns=>
  obtain⟨x,ns',rfl⟩:=fY (show ns≠[]from ro.e);cases hl:st.getLast? with
  | none=>rw[show sD i st (.ring (x::ns'))=[]by unfold sD;dsimp only;rw[hl];rfl];exact Xb _ w1 XE
  | some s0=>rw[show sD i st (.ring (x::ns'))=[.leg ⟨i,s0.1,x,s0.1⟩]by unfold sD;dsimp only;rw[hl];rfl];exact Xb _ (HW (v:=⟨i,s0.1,x,s0.1⟩) w1 (ro.wy _ Z' x dD)) (XE.trans (uE _ _))
 | rings _ _=>exact Xb _ w1 XE
 | waits _=>exact Xb _ w1 XE
 | breaks _=>exact Xb _ w1 XE
 | engaged _=>exact Xb _ w1 XE
 | barred=>exact Xb _ w1 XE
def EU{V:qc}{y z:Str}(wf:WF l V)(hy:y∈l.pn)(hz:z∈l.nm)(hi:C4 V y)(hf:tH l V y=Db):zN l (qr V [.new V.calls.length y,.leg ⟨V.calls.length,y,z,y⟩]) (ga V.calls.length):=by
 have e:(qr V [.new V.calls.length y,.leg ⟨V.calls.length,y,z,y⟩]).calls=V.calls++[(xW y).go z]:=by show(V.calls++[xW y]).modify V.calls.length _=_;rw[tq (c:=xW y) (by rw[eP (cZ _),gP];rfl),j4 _ _ (cZ _),gP];rfl
 refine wf.add e ⟨.inl ⟨Z',Z',Z',Z',λ_=>rfl,(λh=>by cases h)⟩,hy,(λx h=>by cases h),(λx h=>by cases h),eE,eE,(λh=>by cases h),fz _ _,λx h=>by rw[c9.mp h];exact hz⟩ (λx h=>?_) (λx h=>?_) (λx=>?_) wf.nx
 .rw[(sv (c:=(xW y).go z) Z').mp h];exact hi
 .rcases(sA (c:=(xW y).go z) Z').mp h with g|g
  .rw[g];exact FO hf
  .cases g
 .cases q:((xW y).go z).my x with
  | false=>rfl
  | true=>exact absurd (rQ.mp q).1 (show("rings":Str)≠"waits" by decide)
def Hs{V:qc}{y z:Str}:∃k,(qr V [.new V.calls.length y,.leg ⟨V.calls.length,y,z,y⟩]).calls[V.calls.length]?=ga k:=by
 have:V.calls.length<(qr V [.new V.calls.length y,.leg ⟨V.calls.length,y,z,y⟩]).calls.length:=by show V.calls.length<((V.calls++[xW y]).modify _ _).length;rw[fN,cU];exact fD _
 exact⟨_,cT this⟩
def Bq{V:qc}{i:Nat}{c:oX}{x y:Str}{fs:T0 Nat}(wf:WF l V)(hc:V.calls[i]?=ga c)(hs:c.st="rings")(hy:y∈l.nm):zN l (qr V [.asks i x fs,.quiet i,.leg ⟨i,x,y,x⟩]) (ga i):=by
 refine HW (v:=⟨i,x,y,x⟩) ?_ hy;have k:=wf.ok i c hc;have w1:WF l (pM V (.asks i x fs)):=Fy wf;have sh:c.ms=[]/\c.hd=Fa/\c.wd=Fa:=by
  rcases k.sh with g|⟨_,g|g|⟨_,g⟩|g⟩
  .exact⟨g.2.1,g.2.2.1,g.2.2.2.1⟩
  all_goals(rw[hs]at g;exact absurd g.1 (by decide))
 refine w1.set (i:=i) (c:=c) (c':=c.mS) (rj (V:=qB (pM V (.asks i x fs)) _) hc) hc (λj hj=>(Ba j hj).symm) ?_ (λx g=>.inl ?_) (λx g=>.inl ?_) (λx g=>?_) wf.nx
 .rw[eU];exact⟨.inl ⟨hs,sh.1,sh.2.1,sh.2.2,λ_=>rfl,(λh=>by cases h)⟩,k.cr,(λx h=>by cases h),k.ms,eE,k.mn,(λh=>by cases h),k.wy⟩
 .exact(sv hs).mpr ((sv (c:=c.mS) hs).mp g)
 .rcases(sA (c:=c.mS) hs).mp g with y|y
  .exact(sA hs).mpr (.inl y)
  .cases y
 .have:=(rQ.mp g).1;rw[show c.mS.st="rings" from hs]at this;exact absurd this (by decide)
inductive Vf(l:pf)(V:qc)(i:Nat):List Nat->Prop
 | no:Vf l V i []
 | on (c:oX) (k:Nat) (r:List Nat) (b:Bool) (x y:Str) (n:Int):V.calls[i]?=ga c->c.st="rings"->l.mo[k]?=ga (b,.silent x y n)->c.way.getLast?=ga x->y∈l.nm->Vf l V i (k::r)
def EY{V:qc}(ok:qR l):Vf l V i (yk l V i):=by
 unfold yk;cases e:V.calls[i]? with
 | none=>exact .no
 | some c=>
  dsimp only[Option.elim];by_cases hs:(c.st=="rings")=Db
  .rw[cX hs];cases q:Hg l V (G1 c)with
   | nil=>exact .no
   | cons k r=>
    obtain⟨⟨b,w⟩,e1,e2⟩:=Fl (i:=k) (by rw[q];exact dD);cases w with
    | silent x y n=>unfold G1 at e2;rw[dR,eY]at e2;exact .on c k r b x y n e (ZB hs) e1 e2.1 (BD ok (eZ e1) (z:=Str.empty) Z')
    | _=>cases e2
  .rw[cW hs];exact .no
def xZ{l:pf}{V:qc}{i k:Nat}{r:T0 Nat}{b:Bool}{x y:Str}{n:Int}(h:l.mo[k]?=ga (b,.silent x y n)):sF l V i (k::r)=[.asks i x (k::r),.quiet i,.leg ⟨i,x,y,x⟩]++uK l (qr V [.asks i x (k::r),.quiet i,.leg ⟨i,x,y,x⟩]) i:=by unfold sF;simp only[List.head?_cons,lF,h]
def A8{V:qc}{i:Nat}{c:oX}{x y:Str}{fs:T0 Nat}(h:V.calls[i]?=ga c):(qr V [.asks i x fs,.quiet i,.leg ⟨i,x,y,x⟩]).calls[i]?=ga (c.mS.go y):=by show((V.calls.modify i oX.mS).modify i _)[i]?=_;rw[gL,gL,h];simp
def ED{V:qc}(ok:qR l)(wf:WF l V):WF l (qr V (sF l V i (yk l V i))):=by
 have d:=EY (V:=V) (i:=i) ok;generalize yk l V i=fs at d;cases d with
 | no=>exact wf
 | on c k r b x y n hc hs hk hw hy=>rw[xZ hk,rC];exact QX ok (Bq wf hc hs hy) (A8 hc)
theorem Fw(ok:qR l):∀(is:T0 Nat) {V:qc},WF l V->WF l (qr V (qH l is V))
 | [],_,wf=>wf
 | i::r,V,wf=>by unfold qH;rw[rC];exact Fw ok r (ED ok wf)
theorem Dz(l:pf)(i:Nat):∀(is:T0 Nat) (V:qc),qH l (is++[i]) V=qH l is V++sF l (qr V (qH l is V)) i (yk l (qr V (qH l is V)) i)
 | [],V=>by show sF l V i _++[]=[]++_;rw[eD];rfl
 | j::r,V=>by show sF l V j _++qH l (r++[i]) _=(sF l V j _++qH l r _)++_;rw[Dz l i r,eN,show qH l (j::r) V=sF l V j (yk l V j)++qH l r (qr V (sF l V j (yk l V j)))from Z',rC]
def tK{x y:Str}:y∈r6 ss x↔y∈ss/\y≠x:=by unfold r6;rw[fB,gG,fR]
theorem xS{x:Str}:∀{ss:QQQ},ss.Nodup->x∈ss->(r6 ss x).length+1=ss.length
 | [],_,h=>by cases h
 | y::r,nd,h=>by
  have nd:=dN.mp nd;unfold r6;rw[gv];by_cases e:y=x
  .subst e;rw[show(!(y==y))=pc by simp,cW (by decide),kx.mpr λz hz=>by
    have:z≠y:=λq=>nd.1 (q ▸ hz)
    simpa using this]
   rfl
  .have h:x∈r:=by
    rcases dg.mp h with q|q
    .exact absurd q.symm e
    .exact q
   rw[cX (by simpa using e)];have:=xS nd.2 h;unfold r6 at this;rw[dY,dY,this]
def OT{V:qc}{i:Nat}{c:oX}{x:Str}(wf:WF l V)(hc:V.calls[i]?=ga c)(hl:c.mX x=Db):WF l (qr V (uS V x i)):=by
 have k:=wf.ok i c hc;unfold uS;rw[hc];dsimp only[Option.elim];by_cases h1:c.mF x=Db
 .rw[cX h1];exact wq (V':=pM V (.over i "left")) wf hc (.inl Z') (by decide) (rj (V:=qB V _) hc) wf.nx
 .rw[cW h1];have e1:(pM V (.leaves i x)).calls=V.calls.set i (c.drop x):=rj (V:=qB V _) hc;by_cases h2:hasS c.at_ x=Db
  .rw[cX h2];by_cases h3:r6 c.at_ x=[]
   .rw[cX h3];refine wq (V':=pM (pM V (.leaves i x)) (.over i "refused")) wf hc (.inl Z') (by decide) (w:="refused") ?_ wf.nx;have h4:(pM V (.leaves i x)).calls[i]?=ga (c.drop x):=by rw[e1,fu (cV.mp hc).1]
    show(xi (qB (pM V (.leaves i x)) _) i _).calls=_;rw[rj (V:=qB (pM V (.leaves i x)) _) h4];show(pM V (.leaves i x)).calls.set i _=_;rw[e1,jB];rfl
   .rw[cW h3];have hs:c.st="rings"/\c.ms=[]/\c.hd=Fa/\c.wd=Fa:=by
     rcases k.sh with g|⟨_,g|g|⟨_,g⟩|g⟩
     .exact⟨g.1,g.2.1,g.2.2.1,g.2.2.2.1⟩
     .exfalso;have:=xS k.an (qF.mp h2);rw[g.2.2.2.2]at this;exact h3 (gp.mp (by lia))
     .rw[g.2.2.2.2]at h2;cases h2
     .rw[g.2.2.2.2.2]at h2;cases h2
     .rw[g.2.2.2.1]at h2;cases h2
    refine wf.set (V':=pM V (.leaves i x)) (c':=c.drop x) e1 hc (λ_ _=>rfl) ⟨.inl ⟨hs.1,by show r6 c.ms x=[];rw[hs.2.1];rfl,hs.2.2.1,hs.2.2.2,(λh=>by cases h),λ_=>h3⟩,k.cr,λy hy=>k.at_ y (tK.mp hy).1,λy hy=>k.ms y (tK.mp hy).1,k.an.sublist fT,k.mn.sublist fT,λhy=>k.ca (tK.mp hy).1,k.wy⟩ (λy g=>?_) (λy g=>?_) (λy g=>?_) wf.nx
    .exact .inl ((sv hs.1).mpr ((sv (c:=c.drop x) hs.1).mp g))
    .refine .inl ((sA hs.1).mpr (((sA (c:=c.drop x) hs.1).mp g).imp id λh=>(tK.mp h).1))
    .have:=(rQ.mp g).1;rw[show(c.drop x).st="rings" from hs.1]at this;exact absurd this (by decide)
  .rw[cW h2];by_cases h3:2<c.ms.length
   .rw[cX h3];have hx:x∈c.ms:=by unfold oX.mX at hl;rw[dC.mpr h1,dC.mpr h2,fE,fE]at hl;exact qF.mp hl
    have hs:c.st="talks"/\c.ms.length=3/\c.hd=Fa/\c.wd=Fa/\c.at_=[]:=by
     rcases k.sh with g|⟨_,g|g|⟨_,g⟩|g⟩
     .rw[g.2.1]at h3;cases h3
     .rw[g.2.1]at h3;cases h3
     .exact⟨g.1,g.2.1.elim (λq=>by lia) id,g.2.2⟩
     .omega
     .rw[g.2.1]at h3;cases h3
    have dl:=xS k.mn hx;refine wf.set (V':=pM V (.leaves i x)) (c':=c.drop x) e1 hc (λ_ _=>rfl) ⟨.inr ⟨Z',.inr (.inl ⟨hs.1,.inl (by show(r6 c.ms x).length=2;lia),hs.2.2.1,hs.2.2.2.1,by show r6 c.at_ x=[];rw[hs.2.2.2.2];rfl⟩)⟩,k.cr,λy hy=>k.at_ y (tK.mp hy).1,λy hy=>k.ms y (tK.mp hy).1,k.an.sublist fT,k.mn.sublist fT,λhy=>k.ca (tK.mp hy).1,k.wy⟩ (λy g=>?_) (λy g=>?_) (λy g=>?_) wf.nx
    .exact .inl ((tj hs.1).mpr (tK.mp ((tj (c:=c.drop x) hs.1).mp g)).1)
    .exact .inl ((sH (.inl hs.1)).mpr (tK.mp ((sH (c:=c.drop x) (.inl hs.1)).mp g)).1)
    .have:=(rQ.mp g).1;rw[show(c.drop x).st="talks" from hs.1]at this;exact absurd this (by decide)
   .rw[cW h3];exact wq (V':=pM V (.over i "done")) wf hc (.inl Z') (by decide) (rj (V:=qB V _) hc) wf.nx
def KL{V:qc}{i:Nat}{c:oX}(wf:WF l V)(hc:V.calls[i]?=ga c)(hx:hasS c.at_ x=Db)(hi:C4 V x)(hf:c.my x=Db->tH l V x=Db):WF l (pM V (.talks i [c.cr,x])):=by
 have k:=wf.ok i c hc;have hx:=qF.mp hx;have Xt:c.cr≠x:=λq=>k.ca (q ▸ hx);have hs:(c.st="rings"\/c.st="waits")/\c.wd=Fa:=by
  rcases k.sh with g|⟨_,g|g|⟨_,g⟩|g⟩
  .exact⟨.inl g.1,g.2.2.2.1⟩
  .exact⟨.inr g.1,g.2.2.2.1⟩
  .rw[g.2.2.2.2]at hx;cases hx
  .rw[g.2.2.2.2.2]at hx;cases hx
  .rw[g.2.2.2.1]at hx;cases hx
 have ec:A9 c c.cr/\c.hasB c.cr=Db:=by
  rcases hs.1 with g|g
  .exact⟨(sv g).mpr Z',(sA g).mpr (.inl Z')⟩
  .exact⟨(Ed g).mpr Z',(DN g).mpr Z'⟩
 refine wf.set (V':=pM V (.talks i [c.cr,x])) (c':=c.mR [c.cr,x]) (rj (V:=qB V _) hc) hc (λ_ _=>rfl) ⟨.inr ⟨Z',.inr (.inl ⟨Z',.inl Z',Z',hs.2,Z'⟩)⟩,k.cr,(λy h=>by cases h),(λy h=>?_),eE,?_,(λh=>by cases h),k.wy⟩ (λy g=>?_) (λy g=>?_) (λy g=>?_) wf.nx
 .rcases dg.mp h with g|g
  .rw[g];exact k.cr
  .rw[c9.mp g];exact k.at_ x hx
 .exact dN.mpr ⟨λh=>Xt (c9.mp h),dN.mpr ⟨dP,eE⟩⟩
 .rcases dg.mp ((tj (c:=c.mR [c.cr,x]) Z').mp g)with h|h
  .rw[h];exact .inl ec.1
  .rw[c9.mp h];exact .inr hi
 .rcases dg.mp ((sH (c:=c.mR [c.cr,x]) (.inl Z')).mp g)with h|h
  .rw[h];exact .inl ec.2
  .rw[c9.mp h];rcases hs.1 with q|q
   .exact .inl ((sA q).mpr (.inr hx))
   .exact .inr (FO (hf (rQ.mpr ⟨q,hx⟩)))
 .exact absurd (rQ.mp g).1 (show("talks":Str)≠"waits" by decide)
def vS{c:oX}{x:Str}:c.mG x=Db↔c.st="talks"/\x∈c.ms/\c.ms.length=2:=by unfold oX.mG oX.mE;rw[dR,dR,eY,qF,eY,and_assoc]
def Lk{c:oX}(k:vJ l pc c)(h:c.st="talks"):c.hd=Fa/\c.wd=Fa/\c.at_=[]:=by
 rcases k.sh with g|⟨_,g|g|⟨_,g⟩|g⟩
 .rw[h]at g;exact absurd g.1 (by decide)
 .rw[h]at g;exact absurd g.1 (by decide)
 .exact g.2.2
 .rw[h]at g;exact absurd g.1 (by decide)
 .rw[h]at g;exact absurd g.1 (by decide)
def E6{c:oX}{x:Str}(k:vJ l pc c)(h:c.hd=ga x):c.st="held"/\c.ms.length=2/\x∈c.ms/\c.wd=Fa/\c.at_=[]:=by
 rcases k.sh with g|⟨_,g|g|⟨y,g⟩|g⟩
 .rw[h]at g;cases g.2.2.1
 .rw[h]at g;cases g.2.2.1
 .rw[h]at g;cases g.2.2.1
 .have e:=g.2.2.1;rw[h]at e;cases e;exact⟨g.1,g.2.1,g.2.2.2⟩
 .rw[h]at g;cases g.2.2.1
def PL{V:qc}{i:Nat}{c:oX}{x:Str}(wf:WF l V)(hc:V.calls[i]?=ga c)(hx:c.mG x=Db):WF l (pM V (.held i x)):=by
 have k:=wf.ok i c hc;obtain⟨h1,h2,h3⟩:=vS.mp hx;obtain⟨s1,s2,s3⟩:=Lk k h1;refine wf.set (V':=pM V (.held i x)) (c':=c.hold x) (rj (V:=qB V _) hc) hc (λ_ _=>rfl) ⟨.inr ⟨Z',.inr (.inr (.inl ⟨x,Z',h3,Z',h2,s2,s3⟩))⟩,k.cr,k.at_,k.ms,k.an,k.mn,k.ca,k.wy⟩ (λy g=>.inl ?_) (λy g=>.inl ?_) (λy g=>?_) wf.nx
 .exact(tj h1).mpr ((Cn (c:=c.hold x) Z').mp g).1
 .exact(sH (.inl h1)).mpr ((sH (c:=c.hold x) (.inr Z')).mp g)
 .exact absurd (rQ.mp g).1 (show("held":Str)≠"waits" by decide)
def Oq{V:qc}{i:Nat}{c:oX}{x:Str}(wf:WF l V)(hc:V.calls[i]?=ga c)(hx:c.hd=ga x)(hi:C4 V x):WF l (pM V (.talks i c.ms)):=by
 have k:=wf.ok i c hc;obtain⟨h1,h2,h3,h4,h5⟩:=E6 k hx;refine wf.set (V':=pM V (.talks i c.ms)) (c':=c.mR c.ms) (rj (V:=qB V _) hc) hc (λ_ _=>rfl) ⟨.inr ⟨Z',.inr (.inl ⟨Z',.inl h2,Z',h4,Z'⟩)⟩,k.cr,(λy h=>by cases h),k.ms,eE,k.mn,(λh=>by cases h),k.wy⟩ (λy g=>?_) (λy g=>.inl ?_) (λy g=>?_) wf.nx
 .have g:=(tj (c:=c.mR c.ms) Z').mp g;by_cases e:y=x
  .rw[e];exact .inr hi
  .exact .inl ((Cn h1).mpr ⟨g,λq=>e (de (q.symm.trans hx))⟩)
 .exact(sH (.inr h1)).mpr ((sH (c:=c.mR c.ms) (.inl Z')).mp g)
 .exact absurd (rQ.mp g).1 (show("talks":Str)≠"waits" by decide)
def DF{c:oX}{x:Str}(nd:c.ms.Nodup)(h2:c.ms.length=2)(hx:x∈c.ms):qm c x∈c.ms/\qm c x≠x:=by
 have dl:=xS nd hx;obtain⟨y,r,e⟩:=List.exists_cons_of_length_pos (show 0<(r6 c.ms x).length by lia);have hm:y∈r6 c.ms x:=by rw[e];exact dD
 unfold qm;rw[e];exact tK.mp hm
def ES{V:qc}{i j:Nat}{c d:oX}{w x:Str}(wf:WF l V)(hc:V.calls[i]?=ga c)(hd:V.calls[j]?=ga d)(h1:c.hd=ga x)(h2:d.mG x=Db):i≠j/\WF l (pM V (.merge i j (if (w=="hand")=Db then[qm c x,qm d x]else[x,qm c x,qm d x]))):=by
 have k:=wf.ok i c hc;have kd:=wf.ok j d hd;obtain⟨c1,c2,c3,c4,c5⟩:=E6 k h1;obtain⟨d1,d2,d3⟩:=vS.mp h2;obtain⟨a1,a2⟩:=DF k.mn c2 c3;obtain⟨b1,b2⟩:=DF kd.mn d3 d2;have X6:i≠j:=λq=>by subst q;rw[hc]at hd;cases hd;rw[c1]at d1;exact absurd d1 (by decide)
 refine⟨X6,?_⟩;have ea:A9 c (qm c x):=(Cn c1).mpr ⟨a1,λq=>a2 (de (q.symm.trans h1))⟩;have ab:qm c x≠qm d x:=λq=>X6 (wf.un i j c d _ hc hd ea (by rw[q];exact(tj d1).mpr b1));generalize hms:(if (w=="hand")=Db then[qm c x,qm d x]else[x,qm c x,qm d x])=ms;have mm:∀y∈ms,y=x\/y=qm c x\/y=qm d x:=λy hy=>by
  rw[<-hms]at hy;split at hy
  .rcases dg.mp hy with g|g
   .exact .inr (.inl g)
   .exact .inr (.inr (c9.mp g))
  .rcases dg.mp hy with g|g
   .exact .inl g
   .rcases dg.mp g with g|g
    .exact .inr (.inl g)
    .exact .inr (.inr (c9.mp g))
 have n2:[qm c x,qm d x].Nodup:=dN.mpr ⟨λh=>ab (c9.mp h),dN.mpr ⟨dP,eE⟩⟩;refine F7 (V':=pM V (.merge i j ms)) (ms:=ms) wf (.inl Z') hc hd X6 ?_ wf.nx d1 ?_ ?_ (λy hy=>?_) (λy hy=>?_)
 .show(V.calls.modify i _).modify j _=_;rw[tq hc,tq (show(V.calls.set i _)[j]?=ga d by rw[ft X6];exact hd)]
 .rw[<-hms];split
  .exact n2
  .refine dN.mpr ⟨λh=>?_,n2⟩;rcases dg.mp h with g|g
   .exact a2 g.symm
   .exact b2 (c9.mp g).symm
 .rw[<-hms];split
  .exact .inl Z'
  .exact .inr Z'
 .rcases mm y hy with g|g|g
  .rw[g];exact .inl d2
  .rw[g];exact .inr ⟨ea,(sH (.inr c1)).mpr a1⟩
  .rw[g];exact .inl b1
 .rcases mm y hy with g|g|g
  .rw[g];exact k.ms x c3
  .rw[g];exact k.ms _ a1
  .rw[g];exact kd.ms _ b1
def Sh{V:qc}{i:Int}(h:zc V.calls.length i=Db):∃c,V.calls[i.toNat]?=ga c:=by unfold zc at h;rw[dR,d9,d9]at h;exact⟨_,cT (by lia)⟩
def ET{V:qc}{b:Bool}(h:(if ((um V x).isNone&&b)=Db then ga ("full":Str)else um V x)=Fa):um V x=Fa/\b=pc:=by
 cases e:um V x with
 | some w=>rw[e]at h;cases h
 | none=>
  rw[e]at h;cases b with
  | true=>cases h
  | false=>exact⟨Z',Z'⟩
inductive D3(l:pf)(V:qc)(x:Str):Str->List Int->Prop
 | answer (i:Int) (c:oX):0<=i->V.calls[i.toNat]?=ga c->hasS c.at_ x=Db->C4 V x->(c.my x=Db->tH l V x=Db)->D3 l V x "answer" [i]
 | hang (i:Int) (c:oX):0<=i->V.calls[i.toNat]?=ga c->c.mX x=Db->D3 l V x "hang" [i]
 | hold (i:Int) (c:oX):0<=i->V.calls[i.toNat]?=ga c->c.mG x=Db->D3 l V x "hold" [i]
 | back (i:Int) (c:oX):0<=i->V.calls[i.toNat]?=ga c->c.hd=ga x->C4 V x->D3 l V x "back" [i]
 | two (w:Str) (i j:Int) (c d:oX):0<=i->0<=j->w="hand"\/w="join"->V.calls[i.toNat]?=ga c->V.calls[j.toNat]?=ga d->c.hd=ga x->d.mG x=Db->D3 l V x w [i,j]
def Fh{V:qc}{w x:Str}(f:(tI.num w x ns).mP)(h:xf l V (.num w x ns)=Fa):x∈l.pn/\D3 l V x w ns:=by
 have hp:hasS l.pn x=Db:=by
  cases q:hasS l.pn x with
  | true=>rfl
  | false=>unfold xf at h;dsimp only at h;rw[cX q]at h;cases h
 refine⟨qF.mp hp,?_⟩;unfold xf at h;dsimp only at h;rw[cW (by rw[hp];decide)]at h;unfold MK at h;cases q1:ns.all (zc V.calls.length)with
 | false=>rw[cX q1]at h;cases h
 | true=>
 rw[cW (by rw[q1];decide)]at h;cases q2:ID w x (tw V ns)with
 | false=>rw[cX q2]at h;cases h
 | true=>
 rw[cW (by rw[q2];decide)]at h;have z:∀i∈ns,0<=i/\∃c,V.calls[i.toNat]?=ga c:=λi hi=>by have g:=eS.mp q1 i hi;refine⟨?_,Sh g⟩;unfold zc at g;rw[dR,d9]at g;exact g.1
 rcases f with⟨fw,fl⟩|⟨fw,fl⟩
 .match ns,fl with
  | [i],_=>
   obtain⟨hi,c,hc⟩:=z i dD;have ec:tw V [i]=[c]:=by unfold tw;rw[fS,hc];rfl
   rw[ec]at h q2;rcases fw with rfl|rfl|rfl|rfl
   .rw[cW (by decide)]at h;obtain⟨h1,h2⟩:=ET h;refine .answer i c hi hc q2 (EC h1) λhw=>?_;have h2:(c.my x&&!(tH l V x))=pc:=h2;rw[hw]at h2
    simpa using h2
   .exact .hang i c hi hc q2
   .exact .hold i c hi hc q2
   .rw[cW (by decide)]at h;exact .back i c hi hc (ZB q2) (EC (ET h).1)
 .match ns,fl with
  | [i,j],_=>
   obtain⟨hi,c,hc⟩:=z i dD;obtain⟨hj,d,hd⟩:=z j (dz _ dD);have ec:tw V [i,j]=[c,d]:=by unfold tw;rw[fS,hc];dsimp only;rw[fS,hd];rfl
   rw[ec]at q2;have q3:((c.hd==ga x)&&d.mG x)=Db:=by rcases fw with rfl|rfl<;>exact q2
   rw[dR]at q3;exact .two w i j c d hi hj fw hc hd (ZB q3.1) q3.2
def Be{V:qc}{y z:Str}(h:xf l V (.call y z)=Fa):y∈l.pn/\z∈l.nm/\C4 V y/\tH l V y=Db:=by
 unfold xf at h;dsimp only at h;cases q:hasS l.pn y with
 | false=>rw[cX q]at h;cases h
 | true=>
 rw[cW (by rw[q];decide)]at h;unfold Gf at h;cases q1:hasS l.nm z with
 | false=>rw[cX q1]at h;cases h
 | true=>
 rw[cW (by rw[q1];decide)]at h;obtain⟨h1,h2⟩:=ET h;exact⟨qF.mp q,qF.mp q1,EC h1,by simpa using h2⟩
def Us{V:qc}{b:Bool}{i:Int}(h:xf l V (.sw b i)=Fa):0<=i/\i.toNat<V.on.length:=by
 unfold xf OK at h;dsimp only at h;cases q:zc V.on.length i with
 | false=>rw[cX q]at h;cases h
 | true=>unfold zc at q;rw[dR,d9,d9]at q;lia
def xb{V:qc}{w x:Str}{i:Nat}{c:oX}(h:V.calls[i]?=ga c):AK V w x i=if (w=="answer")=Db then .talks i [c.cr,x]else if (w=="hold")=Db then .held i x else .talks i c.ms:=by unfold AK;rw[h];rfl
def Eu{V:qc}{w x:Str}{i j:Nat}{c d:oX}(h:V.calls[i]?=ga c)(g:V.calls[j]?=ga d):Eb V w x i j=.merge i j (if (w=="hand")=Db then[qm c x,qm d x]else[x,qm c x,qm d x]):=by unfold Eb;rw[h,g];rfl
def Uy{V:qc}{e:tI}(ok:qR l)(wf:WF l V)(f:e.mP)(h:xf l V e=Fa):WF l (qr V (tS l V e)):=by
 cases e with
 | call y z=>obtain⟨h1,h2,h3,h4⟩:=Be h;obtain⟨k,hk⟩:=Hs (V:=V) (y:=y) (z:=z);show WF l (qr V (_++uK l _ _));rw[rC];exact QX ok (EU wf h1 h2 h3 h4) hk
 | turn=>exact Fw ok _ (Bh wf)
 | sw b i=>exact UY wf
 | num w x ns=>
  obtain⟨_,n⟩:=Fh f h;cases n with
  | answer i c hi hc h1 h2 h3=>show WF l (pM V (AK V "answer" x i.toNat));rw[xb hc];exact KL wf hc h1 h2 h3
  | hang i c hi hc h1=>exact OT wf hc h1
  | hold i c hi hc h1=>show WF l (pM V (AK V "hold" x i.toNat));rw[xb hc];exact PL wf hc h1
  | back i c hi hc h1 h2=>show WF l (pM V (AK V "back" x i.toNat));rw[xb hc];exact Oq wf hc h1 h2
  | two _ i j c d hi hj hw hc hd h1 h2=>show WF l (pM V (Eb V w x i.toNat j.toNat));rw[Eu hc hd];exact(ES wf hc hd h1 h2).2
def P7(a:Ad):qY:=λds M Q=>LY λM0 b A V l c n x i k=>ds=[.ref b,.str x,.int ((i:Nat):Int)]/\uw a M0 M b A V l c n/\c<=1000000/\n<=7000000/\V.calls[i]?=ga k/\∀M' A',uw a M0 M' b A' (qr V (uS V x i)) l c (n+2)->qN A M A' M'->Q .mx M'
def Om(a:Ad):qY:=λds M Q=>JI λA V l L k c=>ds=[.ref A.b,.ref (rA.p k)]/\Rd a M A V l/\rM a M L k c/\Q (xx (Hg l V (G1 c))) M
def Qe(a:Ad):qY:=λds M Q=>LY λM0 b A V l c n i k r=>ds=[.ref b,.int ((i:Nat):Int),xx (k::r)]/\uw a M0 M b A V l c n/\c<=1000000/\n<=6900000/\WF l V/\Vf l V i (k::r)/\∀M' A',uw a M0 M' b A' (qr V (sF l V i (k::r))) l c (n+33)->qN A M A' M'->Q .mx M'
def PV(a:Ad):qY:=λds M Q=>Tj λM0 b A V l c n=>ds=[.ref b]/\uw a M0 M b A V l c n/\c<=10000/\n<=6000000/\WF l V/\∀M' A',uw a M0 M' b A' (qr V (E7 l V)) l c (n+1+33*c)->qN A M A' M'->Q .mx M'
def Q1{a:Ad}{M:Mp}{c:oX}{v:Wi}{r:lf}{Q:DK}(h:M r=ga (.ins (v.cls a) v.nj))(hk:rM a M L k c)(q:Q (.bl (G1 c v)) M):Mh a v [.ref r,.ref k.p] M Q:=by
 cases v with
 | silent x y n=>exact⟨r,L,k,c,Z',h,hk,q⟩
 | _=>exact⟨_,_,Z',q⟩
def O2:Fq P w K mg base 4 a.a7 (P7 a):=by
 refine fq G.a7.toDG B4 (λr u=>⟨_,(oR (pC 3 B4 (pA (oZ v0) U2))
 (oS (pH (uM (pO U3 G.e.toCls G.U (BN G) r (pW U1)))
 (oS (pD (pO v0 G.c.toCls G.k (qO G) r (pW (pF (ra oW U2 oW))))))
 (oS (pH (pk u U1 (oZ U3))
 (oR (pD (pO v0 G.c.toCls G.k (qO G) r (pW (pF (ra oW U2 U1)))))
 (oS (pH (pk u (pG qb Z' G.g pZ (pW (oZ U3))) oV)
 (oS (pD (pO v0 G.c.toCls G.k (qO G) r (pW (pF (ra oW U2 oW))))))
 pB)))
 (oS (pH (pk u (pG qb Z' G.g pZ (pW (oZ U3))) oV)
 (oS (pD (pO v0 G.c.toCls G.k (qO G) r (pW (pF (ra oW U2 U1))))))
 (oS (pD (pO v0 G.c.toCls G.k (qO G) r (pW (pF (ra oW U2 oW))))))))))))),?_⟩)
 rintro ds M Q ⟨M0,b,A,V,l,cc,n,x,i,c,rfl,cu,Zr,hn,hc,q⟩
 obtain⟨ka,ci⟩:=cu.call hc;obtain⟨ad,md,h1,h2,h3,h4,n1,n2⟩:=ci.cell;have hi:=(cV.mp hc).1;refine oU cu.at_ (i' Z' (i' Z' (i' ci.bd.ca (i' (qX ci.e1) ?_))));refine oU h1 ⟨Z',_,⟨Z',Z'⟩,_,ka,c,x,Z',ci.cell,?_⟩;unfold uS at q;rw[hc]at q;dsimp only[Option.elim]at q;have over:∀(w0:Str),(∀M' A',uw a M0 M' b A' (qr V [.over i w0]) l cc (n+2)->qN A M A' M'->Q .mx M')->∀(M1:Mp) (A1:tR),A1.b=A.b->qN A M A1 M1->pE a M1 A1 (pM V (.over i w0))->∃W9,qu W9 M1/\Q .mx W9:=λw0 q M1 A1 eb st bd=>⟨M1,.refl,q M1 A1 ((cu.after (e:=.over i w0) hi eb st bd).mono (cZ _) (by lia)) st⟩;refine qx (c:=c.mF x) (λg=>?_) (λg=>?_)
 .rw[cX g]at q;exact oU cu.at_ ⟨Z',_,⟨Z',Z'⟩,oP Z',b,A,V,.over i "left",Z',cu.b,cu.bd,cu.lim Zr (by lia),hi,over "left" q⟩
 rw[cW g]at q;refine oU h1 (i' Z' (i' h3 ⟨Z',ql _,?_⟩));show if inD (.str x) (c.at_.map D.str)=Db then _ else _
 rw[rX];refine qx (c:=hasS c.at_ x) (λg2=>?_) (λg2=>?_)
 .rw[cX g2]at q;refine oU cu.at_ ⟨Z',_,⟨Z',Z'⟩,oP Z',b,A,V,.leaves i x,Z',cu.b,cu.bd,cu.lim Zr (by lia),hi,λM1 A1 eb st bd=>?_⟩;have c1:=cu.after (e:=.leaves i x) hi eb st bd;have Zt:(pM V (.leaves i x)).calls=V.calls.set i (c.drop x):=rj (V:=qB V _) hc;have hc1:(pM V (.leaves i x)).calls[i]?=ga (c.drop x):=by rw[Zt,fu hi]
  obtain⟨ad',md',g1,ZE,g3,g4,_⟩:=c1.bd.cs i ka _ (st.2.2.1 i ka ci.e1) hc1;have le0:((((c.drop x).at_.map D.str).length:Int)==0)=decide (r6 c.at_ x=[]):=by rw[cR,gj,eY,d9];show((r6 c.at_ x).length:Int)=0↔_;rw[<-gp];lia
  refine oU g1 (i' Z' (i' g3 ?_));refine qx (c:=(((c.drop x).at_.map D.str).length:Int)==0) (λg5=>?_) (λg5=>?_)
  .rw[le0,d9]at g5;rw[cX g5]at q;have Yh:i<(pM V (.leaves i x)).calls.length:=(cV.mp hc1).1;refine oU c1.at_ ⟨Z',_,⟨Z',Z'⟩,oP Z',b,A1,_,.over i "refused",Z',c1.b,c1.bd,c1.lim Zr (by lia),Yh,λM2 A2 eb2 Xs YF=>?_⟩;exact⟨M2,.refl,q M2 A2 (c1.after (e:=.over i "refused") Yh eb2 Xs YF) (st.trans Xs)⟩
  .rw[le0,d9]at g5;rw[cW g5]at q;exact⟨M1,.refl,q M1 A1 (c1.mono (cZ _) (by lia)) st⟩
 .rw[cW g2]at q;refine oU h1 (i' Z' (i' h4 ?_));have lm:decide ((2:Int)<((c.ms.map D.str).length:Int))=decide (2<c.ms.length):=by rw[cR,gj,d9,d9];lia
  refine qx (c:=decide ((2:Int)<((c.ms.map D.str).length:Int))) (λg3=>?_) (λg3=>?_)
  .rw[lm,d9]at g3;rw[cX g3]at q;refine oU cu.at_ ⟨Z',_,⟨Z',Z'⟩,oP Z',b,A,V,.leaves i x,Z',cu.b,cu.bd,cu.lim Zr (by lia),hi,λM1 A1 eb st bd=>?_⟩;exact⟨M1,.refl,q M1 A1 ((cu.after (e:=.leaves i x) hi eb st bd).mono (cZ _) (by lia)) st⟩
  .rw[lm,d9]at g3;rw[cW g3]at q;exact oU cu.at_ ⟨Z',_,⟨Z',Z'⟩,oP Z',b,A,V,.over i "done",Z',cu.b,cu.bd,cu.lim Zr (by lia),hi,over "done" q⟩
def Qw:Fq P w K mg base 2 a.a8 (Om a):=by
 refine fq G.a8.toDG yq (λr u=>⟨_,(oR (pC 2 yq (oZ (oZ v0)))
 (oS (oY (qa uD Z' G.M uC (pW (qv Z' (xc (ix:=[Fa,Fa,ga 2,ga 1]) (N':=["i","on","wishes","call"])) (wD Z' G.bV (pW (oZ v0))) (ua (n:=2) Z' (qg (qh 0) (qg (qh 1) sP))) (uW (W3.b3 (yE (uM U1) (ya (uM (FG (R:=FR a) (pA U2 v0) (TY G) (r.mono (by first|decide|lia)) (pW U3))))))) v0)))))),?_⟩)
 rintro ds M Q ⟨A,V,l,L,k,c,rfl,rd,hk,q⟩
 obtain⟨ph,gr,ws,YE,pr,gd,rs,i1,i2,i3,i4,i5,i6,i7,i8⟩:=rd.pl;refine oU rd.bd.at_ (i' Z' (oU i1 (i' Z' ?_)));refine oU rd.bd.at_ (i' Z' (i' rd.bd.on ?_));refine IW (rest:=[ga (.ref ws),ga (.ref k.p)]) rd.on rd.ok.w16 rd.bd.on (λi w0 ew y kk hkk=>?_) λp hp=>i' pj ⟨M,.new hp,q⟩;obtain⟨r,e1,e2⟩:=Bg i8 ew;exact i' i4 (i' e1 (oU e2 ⟨by cases w0.2<;>rfl,_,⟨w0.2,Z',Z'⟩,Q1 e2 hk hkk⟩))
def OY:Fq P w K mg base 10 a.a9 (Qe a):=by
 refine fq G.a9.toDG Cs (λr u=>⟨_,(oR (pC 3 Cs (Cf (R:=Ms a) (pA (oZ (oZ v0)) (pA U2 oV)) (RS G) (r.mono (by first|decide|lia))))
 (oR (pD (pO v0 G.c.toCls G.k (qO G) r (pW (pF (pT oW (ra U1 (pA U3 oV) U2))))))
 (oR (pD (pO v0 G.c.toCls G.k (qO G) r (pW (pF (rK oW U1)))))
 (oR (pD (pO v0 G.c.toCls G.k (qO G) r (pW (pF (pT oW (pT U1 (ra (pA U3 oV) (pA U3 oV) (pA U3 oV))))))))
 (oS (pD (pz (Jv G) r G.ad (rK v0 U1)))))))),?_⟩)
 rintro ds M Q ⟨M0,b,A,V,l,c,n,i,k,r,rfl,cu,hc,hn,wf,du,q⟩
 obtain⟨ph,gr,ws,YE,pr,gd,rs,i1,i2,i3,i4,i5,i6,i7,i8⟩:=cu.pl;cases du with
 | on k0 _ _ b0 x y m hk hs hw hl hy=>
  have hi:=(cV.mp hk).1;rw[xZ hw]at q;rw[rC]at q;obtain⟨r0,e1,e2⟩:=Bg i8 hw;refine oU cu.at_ (i' Z' (oU i1 (i' Z' (i' (zp _ _) (i' i4 (i' e1 (oU e2 ⟨Z',_,⟨⟨.silent x y m,Z'⟩,Z'⟩,r0,.silent x y m,Z',e2,?_⟩)))))));refine oU cu.at_ ⟨Z',_,⟨Z',Z'⟩,oP Z',b,A,V,.asks i x (k::r),Z',cu.b,cu.bd,cu.lim hc (by lia),trivial,λM1 A1 eb1 XH bd1=>?_⟩;have c1:=cu.after (e:=.asks i x (k::r)) trivial eb1 XH bd1;refine oU c1.at_ ⟨Z',_,⟨Z',Z'⟩,oP Z',b,A1,_,.quiet i,Z',c1.b,c1.bd,c1.lim hc (by lia),hi,λM2 A2 eb2 Xs YF=>?_⟩;have c2:=c1.after (e:=.quiet i) hi eb2 Xs YF;have Yk:i<(pM (pM V (.asks i x (k::r))) (.quiet i)).calls.length:=by show i<(V.calls.modify i oX.mS).length;rw[fN];exact hi
  refine oU c2.at_ ⟨Z',_,⟨Z',Z'⟩,oP Z',b,A2,_,.leg ⟨i,x,y,x⟩,Z',c2.b,c2.bd,c2.lim hc (by lia),Yk,λM3 A3 eb3 XF bd3=>?_⟩;have c3:=c2.after (e:=.leg ⟨i,x,y,x⟩) Yk eb3 XF bd3;exact⟨M0,b,A3,_,l,c,n+3,i,_,Z',c3,hc,by lia,Bq wf hk hs hy,A8 hk,λM4 A4 c4 st4=>⟨M4,.refl,q M4 A4 (c4.mono (cZ _) (by lia)) (XH.trans (Xs.trans (XF.trans st4)))⟩⟩
def PH:Fq P w K mg base 11 a.ba (PV a):=by
 refine fq G.ba.toDG tD (λr u=>⟨_,(oR (pD (pO v0 G.c.toCls G.k (qO G) r (pW (pF (pW oW)))))
 (oS (uh eR Z' (wD Z' G.bV (pW (qa sf Z' G.r sd (pW (oZ v0))))) (ua (n:=2) Z' (qg (rN 1 tD) (qg (rN 2 tD) sP)))
 (oS (pH (pk u (oZ U2) oW)
 (oR (pC 3 tD (pz (Qw G) r G.a8 (rK v0 U2)))
 (oS (pH (pk u (pG qb Z' G.g pZ (pW U3)) oV)
 (oS (pD (pz (OY G) r G.a9 (ra v0 U1 U3))))
 pB)))
 pB))))),?_⟩)
 rintro ds M Q ⟨M0,b,A,V,l,c,n,rfl,cu,hc,hn,wf,q⟩
 refine oU cu.at_ ⟨Z',_,⟨Z',Z'⟩,oP Z',b,A,V,.turn,Z',cu.b,cu.bd,cu.lim (by lia) (by lia),trivial,λM1 A1 eb st bd=>?_⟩;have c1:=cu.after (e:=.turn) trivial eb st bd;have wf1:=Bh wf;have lv:(pM V .turn).calls.length=V.calls.length:=cR ..;have ev:E7 l V=.turn::qH l (List.range V.calls.length) (pM V .turn):=rfl;rw[ev,<-lv]at q;have q:∀M' A',uw a M0 M' b A' (qr (pM V .turn) (qH l (List.range (pM V .turn).calls.length) (pM V .turn))) l c (n+1+33*c)->qN A M A' M'->Q .mx M':=q;have c1:uw a M0 M1 b A1 (pM V .turn) l c (n+1):=c1;generalize pM V .turn=V1 at c1 wf1 q bd;refine oU c1.at_ (i' Z' (i' c1.bd.ca λr hr=>i' pj ?_));obtain⟨M2,e0,t,lr⟩:=ub (ds:=A1.cs.map λk=>D.ref k.p) hr;rw[<-e0];have nf:=c1.bd.nC hr;have c2:=c1.sub t;have cl:V1.calls.length<=c:=c1.sz.ca;refine uY (uo 0 (A1.cs.map λk=>D.ref k.p)) (λpre U M'=>(∃A',uw a M0 M' b A' (qr V1 (qH l (List.range pre.length) V1)) l c (n+1+33*pre.length)/\qN A1 M2 A' M')/\∃y1 y2 y3,U=[ga (.ref b),y1,y2,y3]) (λpre U M' j=>?_) _ [] _ _ Z' ⟨⟨A1,c2,.refl⟩,Fa,Fa,Fa,Z'⟩ ?_ ?_
 .obtain⟨⟨A',c3,XF⟩,_⟩:=j;exact sy (XF.1 r _ nf (pP lr))
 .rintro pre d post e U M' ⟨⟨A',c3,XF⟩,y1,y2,y3,rfl⟩ nx Xf
  rw[cU,dE,jP,Dz,rC]at Xf;have wf3:=Fw cu.ok (List.range pre.length) wf1;generalize qr V1 (qH l (List.range pre.length) V1)=V3 at c3 wf3 Xf;obtain⟨x,hx,rfl⟩:=IG e;rw[dq]at hx;cases ek:A1.cs[pre.length]? with
  | none=>rw[ek]at hx;cases hx
  | some k=>
   rw[ek]at hx;have hx:D.ref k.p=x:=de hx;subst hx;have hp:pre.length<c:=by have:=(cV.mp ek).1;rw[c1.bd.len]at this;lia
   have ek3:=XF.2.2.1 _ k ek;have hi:pre.length<V3.calls.length:=by rw[<-c3.bd.len];exact(cV.mp ek3).1
   have ec:V3.calls[pre.length]?=ga V3.calls[pre.length]:=cT hi;generalize V3.calls[pre.length]=cv at ec;have ca:=c3.bd.cs _ k cv ek3 ec;obtain⟨ad,md,g1,_⟩:=ca;refine⟨Z',oU g1 (i' Z' ?_)⟩;have hdv:yk l V3 pre.length=if (cv.st=="rings")=Db then Hg l V3 (G1 cv)else[]:=by unfold yk;rw[ec];rfl
   have mx:yk l V3 pre.length=[]->∀y1' y2' y3',nx [ga (.ref b),y1',y2',y3'] M':=λh0 y1' y2' y3'=>Xf _ _ ⟨⟨A',by rw[h0];exact c3.mono (cZ _) (by lia),XF⟩,_,_,_,Z'⟩;have du:=EY (V:=V3) (i:=pre.length) cu.ok;refine qx (c:=cv.st=="rings") (λg=>?_) (λg=>mx (by rw[hdv,cW g]) _ _ _);rw[cX g]at hdv;refine⟨A',V3,l,_,k,cv,by rw[c3.b],c3.rd (by lia) wf3,c3.bd.cs _ k cv ek3 ec,?_⟩;rw[<-hdv];cases hdq:yk l V3 pre.length with
   | nil=>exact mx hdq _ _ _
   | cons k0 r0=>rw[hdq]at du Xf;refine yj (dI (by rw[cR];show(0:Int)<((k0::r0).length:Nat);rw[dY];lia)) ?_;exact⟨M0,b,A',V3,l,c,_,pre.length,k0,r0,Z',c3,by lia,by lia,wf3,du,λM4 A4 c4 st4=>Xf _ _ ⟨⟨A4,c4.mono (cZ _) (by lia),XF.trans st4⟩,_,_,_,Z'⟩⟩
 .rintro U M' ⟨⟨A',c3,XF⟩,y1,y2,y3,rfl⟩
  have hl:(uo 0 (A1.cs.map λk=>D.ref k.p)).length=V1.calls.length:=by rw[vc,cR,c1.bd.len]
  rw[hl]at c3;exact⟨M',.refl,q M' A' (c3.mono (cZ _) (by lia)) (st.trans ((qN.sub t).trans XF))⟩
inductive Qx(l:pf)(V:qc):tI->Ev->Prop
 | sw (b:Bool) (i:Nat):i<V.on.length->Qx l V (.sw b (i:Nat)) (.sw b i)
 | answer (x:Str) (i:Nat) (c:oX):V.calls[i]?=ga c->Qx l V (.num "answer" x [(i:Nat)]) (.talks i [c.cr,x])
 | hold (x:Str) (i:Nat) (c:oX):V.calls[i]?=ga c->Qx l V (.num "hold" x [(i:Nat)]) (.held i x)
 | back (x:Str) (i:Nat) (c:oX):V.calls[i]?=ga c->Qx l V (.num "back" x [(i:Nat)]) (.talks i c.ms)
 | two (w x:Str) (i j:Nat) (c d:oX):i≠j->w="hand"\/w="join"->V.calls[i]?=ga c->V.calls[j]?=ga d->r6 c.ms x≠[]->r6 d.ms x≠[]->Qx l V (.num w x [(i:Nat),(j:Nat)]) (.merge i j (if (w=="hand")=Db then[qm c x,qm d x]else[x,qm c x,qm d x]))
def GT(a:Ad):qY:=λds M Q=>EL λA V l e ev=>ds=[.ref A.b,tI.d e]/\Rd a M A V l/\Qx l V e ev/\Q ev.d M
def Ri(a:Ad):qY:=λds M Q=>Ti λM0 b A V l c n e=>ds=[.ref b,tI.d e]/\uw a M0 M b A V l c n/\c<10000/\n<=5000000/\WF l V/\e.mP/\xf l V e=Fa/\∀M' A',uw a M0 M' b A' (qr V (tS l V e)) l (c+1) (n+40+33*c)->qN A M A' M'->Q .mx M'
def WH(a:Ad)(M0 M:Mp)(b:lf)(A:tR)(V:qc)(l:pf)(c n:Nat)(e:tI)(Q:DK):Prop:=xf l V e=Fa->∀M' A' r,uw a M0 M' b A' (qr V (tS l V e)) l (c+1) (n+40+33*c)->qN A M A' M'->M' r=Fa->Q (.ref r) (o9 M' r (.lst ((tS l V e).map Ev.d)))
def TB(a:Ad):EH:=λds M Q R=>Ti λM0 b A V l c n e=>ds=[.ref b,tI.d e]/\uw a M0 M b A V l c n/\c<10000/\n<=5000000/\WF l V/\e.mP/\WH a M0 M b A V l c n e Q/\(∀w,xf l V e=ga w->R a.J (ga ("word",.str w)) M)
def Rd.call{V:qc}(rd:Rd a M A V l){i:Nat}{c:oX}(e:V.calls[i]?=ga c):∃k,A.cs[i]?=ga k/\rM a M (A.lists++V.fo) k c:=by
 have hi:i<A.cs.length:=by rw[rd.bd.len];exact(cV.mp e).1
 exact⟨A.cs[i],cT hi,rd.bd.cs i _ c (cT hi) e⟩
def yM{i:Int}(h:0<=i):∃m:Nat,i=(m:Int):=d4 h
def Jd{c:oX}{x:Str}(nd:c.ms.Nodup)(h2:c.ms.length=2)(hx:x∈c.ms):r6 c.ms x≠[]:=λz=>by have:=xS nd hx;rw[z]at this;simp only[dB]at this;lia
def NC:Fq P w K mg base 2 a.bb (GT a):=by
 refine fq G.bb.toDG sW (λr u=>⟨_,(oR (pC 2 sW (pA U1 oV))
 (oR (pH (pk u U2 (pF (rK oW oW)))
 (oS (oY (pF (rK U2 (pA U1 oV)))))
 pB)
 (oR (pC 3 sW (pA U1 oV))
 (oR (pC 4 sW (pA U1 oV))
 (oR (pC 5 sW (pA (oZ v0) v4))
 (oR (pH (pk u U2 oW)
 (oS (oY (pF (ra oW v4 (pF (rK (oZ v5) U3))))))
 pB)
 (oR (pH (pk u U2 oW)
 (oS (oY (pF (ra oW v4 U3))))
 pB)
 (oR (pH (pk u U2 oW)
 (oS (oY (pF (ra oW v4 (qa uD Z' G.M uC (pW (oZ v5)))))))
 pB)
 (oR (pC 6 sW (pA U1 oV))
 (oR (pC 7 sW (pF (rK (pO v5 G.e.toCls G.an (GG G) r (pW U3)) (pO (pA (oZ v0) v6) G.e.toCls G.an (GG G) r (pW U3)))))
 (oR (pH (pk u U2 oW)
 (oS (oY (pF (pT oW (ra v4 v6 v7)))))
 pB)
 (oS (oY (pF (pT oW (ra v4 v6 (pL (pF (pW U3)) v7))))))))))))))))),?_⟩)
 rintro ds M Q ⟨A,V,l,e,ev,rfl,rd,sg,q⟩
 cases sg with
 | sw b i hi=>
  cases b with
  | true=>exact⟨oP Z',Z',Z',oP Z',M,.refl,q⟩
  | false=>exact⟨oP Z',Z',Z',oP Z',M,.refl,q⟩
 | answer x i c hc=>obtain⟨k,ek,ca⟩:=rd.call hc;obtain⟨ad,md,h1,h2,h3,h4,n1,n2⟩:=ca;refine⟨oP Z',Z',Z',?_⟩;refine oU rd.bd.at_ (i' Z' (i' Z' (i' rd.bd.ca (i' (qX ek) ?_))));exact oU h1 (i' Z' ⟨oP Z',oP Z',M,.refl,q⟩)
 | hold x i c hc=>obtain⟨k,ek,ca⟩:=rd.call hc;refine⟨oP Z',Z',Z',?_⟩;refine oU rd.bd.at_ (i' Z' (i' Z' (i' rd.bd.ca (i' (qX ek) ?_))));exact⟨oP Z',M,.refl,q⟩
 | back x i c hc=>obtain⟨k,ek,ca⟩:=rd.call hc;obtain⟨ad,md,h1,h2,h3,h4,n1,n2⟩:=ca;refine⟨oP Z',Z',Z',?_⟩;refine oU rd.bd.at_ (i' Z' (i' Z' (i' rd.bd.ca (i' (qX ek) ?_))));exact oU h1 (i' Z' (i' h4 ⟨oP Z',M,.refl,q⟩))
 | two wd x i j c d X6 hw hc hd nc nd=>
  obtain⟨k,ek,ca⟩:=rd.call hc;obtain⟨k',ek',ca'⟩:=rd.call hd;have ca0:=ca;have ca1:=ca';obtain⟨ad,md,h1,h2,h3,h4,n1,n2⟩:=ca0;obtain⟨ad',md',f1,_⟩:=ca1;obtain⟨y1,r1,e1⟩:=fY nc;obtain⟨y2,r2,e2⟩:=fY nd;have o1:qm c x=y1:=by unfold qm;rw[e1];rfl
  have o2:qm d x=y2:=by unfold qm;rw[e2];rfl
  rw[o1,o2]at q;rcases hw with rfl|rfl
  .refine⟨oP Z',Z',Z',?_⟩;refine oU rd.bd.at_ (i' Z' (i' Z' (i' rd.bd.ca (i' (qX ek) ?_))));refine oU h1 ⟨Z',_,⟨Z',Z'⟩,_,k,c,x,y1,r1,Z',ca,(rd.ms c (qW hc)).2,e1,?_⟩;refine oU rd.bd.at_ (i' Z' (i' Z' (i' rd.bd.ca (i' (qX ek') ?_))));refine oU f1 ⟨Z',_,⟨Z',Z'⟩,_,k',d,x,y2,r2,Z',ca',(rd.ms d (qW hd)).2,e2,?_⟩;exact⟨oP Z',oP Z',M,.refl,q⟩
  .refine⟨oP Z',Z',Z',?_⟩;refine oU rd.bd.at_ (i' Z' (i' Z' (i' rd.bd.ca (i' (qX ek) ?_))));refine oU h1 ⟨Z',_,⟨Z',Z'⟩,_,k,c,x,y1,r1,Z',ca,(rd.ms c (qW hc)).2,e1,?_⟩;refine oU rd.bd.at_ (i' Z' (i' Z' (i' rd.bd.ca (i' (qX ek') ?_))));refine oU f1 ⟨Z',_,⟨Z',Z'⟩,_,k',d,x,y2,r2,Z',ca',(rd.ms d (qW hd)).2,e2,?_⟩;exact⟨oP Z',oP Z',fz _ _,by show 1+2<=Uf;have hz:=dH;lia,oP Z',M,.refl,q⟩
def Q0:Fq P w K mg base 12 a.bc (Ri a):=by
 refine fq G.bc.toDG Mi (λr u=>⟨_,(oR (pC 2 Mi (pA U1 oV))
 (oS (pH (pk u U2 oW)
 (oS (pD (pz (MF G) r G.a6 (ra v0 (pA U1 oV) (pA U1 oV)))))
 (oS (pH (pk u U2 oW)
 (oS (pD (pz (O2 G) r G.a7 (ra v0 (pA U1 oV) (pA U1 oV)))))
 (oS (pH (pk u U2 oW)
 (oS (pD (pz (PH G) r G.ba (pW v0))))
 (oS (pD (pO v0 G.c.toCls G.k (qO G) r (pW (pz (NC G) r G.bb (rK v0 U1))))))))))))),?_⟩)
 rintro ds M Q ⟨M0,b,A,V,l,c,n,e,rfl,cu,hc,hn,wf,hf,hr,q⟩
 have rd:=cu.rd (by lia) wf;have one:∀(ev:Ev),Qx l V e ev->tS l V e=[ev]->ev.ok V->ev.nw=0->Af (M b) λC fs'=>fs'.lookup ("apply":Str)=Fa/\∃sp,(C=a.c/\sp=vO a)/\GT a [.ref b,e.d] M λd M1=>sp [.ref b,d] M1 λ_ M'=>∃W9,qu W9 M'/\Q .mx W9:=λev sg he ok h0=>by refine oU cu.at_ ⟨Z',_,⟨Z',Z'⟩,A,V,l,e,ev,by rw[cu.b],rd,sg,b,A,V,ev,Z',cu.b,cu.bd,cu.lim (by lia) (by lia),ok,λM1 A1 eb st bd=>?_⟩;rw[he]at q;have c1:=cu.after ok eb st bd;rw[h0]at c1;exact⟨M1,.refl,q M1 A1 (c1.mono (by lia) (by lia)) st⟩
 cases e with
 | call y z=>obtain⟨h1,h2,h3,h4⟩:=Be hr;exact⟨M0,b,A,V,l,c,n,y,z,Z',cu,by lia,by lia,EU wf h1 h2 h3 h4,λM' A' c1 st=>⟨M',.refl,q M' A' (c1.mono (by lia) (by lia)) st⟩⟩
 | turn=>exact⟨M0,b,A,V,l,c,n,Z',cu,by lia,by lia,wf,λM' A' c1 st=>⟨M',.refl,q M' A' (c1.mono (by lia) (by lia)) st⟩⟩
 | sw b0 i=>
  obtain⟨h1,h2⟩:=Us hr;obtain⟨i,rfl⟩:=yM h1;cases b0 with
  | true=>exact one (.sw Db i) (.sw Db i h2) Z' h2 Z'
  | false=>exact one (.sw pc i) (.sw pc i h2) Z' h2 Z'
 | num wd x ns=>
  obtain⟨hx,no⟩:=Fh hf hr;cases no with
  | answer i c0 hi hc0 h1 h2 h3=>obtain⟨i,rfl⟩:=yM hi;have lt:=(cV.mp hc0).1;exact one (.talks i [c0.cr,x]) (.answer x i c0 hc0) (eC (λev=>[ev]) (xb hc0)) ⟨lt,by show 2<=100;decide⟩ Z'
  | hang i c0 hi hc0 h1=>obtain⟨i,rfl⟩:=yM hi;exact⟨M0,b,A,V,l,c,n,x,i,c0,Z',cu,by lia,by lia,hc0,λM' A' c1 st=>⟨M',.refl,q M' A' (c1.mono (by lia) (by lia)) st⟩⟩
  | hold i c0 hi hc0 h1=>obtain⟨i,rfl⟩:=yM hi;have lt:=(cV.mp hc0).1;exact one (.held i x) (.hold x i c0 hc0) (eC (λev=>[ev]) (xb hc0)) lt Z'
  | back i c0 hi hc0 h1 h2=>obtain⟨i,rfl⟩:=yM hi;have lt:=(cV.mp hc0).1;exact one (.talks i c0.ms) (.back x i c0 hc0) (eC (λev=>[ev]) (xb hc0)) ⟨lt,(cu.sz.cs c0 (qW hc0)).2.2⟩ Z'
  | two _ i j c0 d0 hi hj hw hc0 hd0 h1 h2=>
   obtain⟨i,rfl⟩:=yM hi;obtain⟨j,rfl⟩:=yM hj;have lt:=(cV.mp hc0).1;have lt':=(cV.mp hd0).1;have X6:=(ES (w:=wd) wf hc0 hd0 h1 h2).1;have k0:=wf.ok _ c0 hc0;have k1:=wf.ok _ d0 hd0;obtain⟨_,u2,u3,_⟩:=E6 k0 h1;obtain⟨_,v2,v3⟩:=vS.mp h2;have sg:=Qx.two (l:=l) wd x i j c0 d0 X6 hw hc0 hd0 (Jd k0.mn u2 u3) (Jd k1.mn v3 v2);have ok:(Ev.merge i j (if (wd=="hand")=Db then[qm c0 x,qm d0 x]else[x,qm c0 x,qm d0 x])).ok V:=⟨lt,lt',X6,by split;exact(by decide:2<=100);exact(by decide:3<=100)⟩;have he:tS l V (.num wd x [(i:Int),(j:Int)])=[.merge i j (if (wd=="hand")=Db then[qm c0 x,qm d0 x]else[x,qm c0 x,qm d0 x])]:=eC (λev=>[ev]) (Eu hc0 hd0);rcases hw with rfl|rfl
   .exact one _ sg he ok Z'
   .exact one _ sg he ok Z'
def Kg:xl P w K mg base (A5 P w) 1 a.I.f a.I.d a.I.p (vX K "word"):=
 ML G.I.toDG Cy λXg A outer s H E=>Iv (PK (pv 0) (pv 1))
def QA:Wq P w K mg base 13 a.E (TB a):=by
 refine UD G.E.toDG Ha (by walk_at "m") (λ_ _ _ _ _ _ R hr hR=>⟨_,(oR (pC 2 Ha (pz (Hq G) hr G.a1 (rK v0 U1)))
 (oR (pH (pk (WC hr) U2 rL)
 (oS (J0 G.b4 (Kg G) (hr.mono (by first|decide|lia)) G.I.b G.b5 G.I.at_ Z' G.bW hR (pW U2)))
 pB)
 (oR (pC 3 Ha (pG qb Z' G.g pZ (pW (oZ v0))))
 (oR (pD (pz (Q0 G) hr G.bc (rK v0 U1)))
 (oS (oY (qK (oZ v0) (rc U3) rE))))))),?_⟩)
 .rintro ds M Q ⟨M0,b,A,V,l,c,n,e,rfl,cu,hc,hn,wf,hf,q,rr⟩
  refine⟨A,V,l,e,by rw[cu.b],cu.rd (by lia) wf,hf,?_⟩;cases er:xf l V e with
  | some w0=>exact⟨_,Z',rr w0 er⟩
  | none=>
   refine oU cu.at_ (i' Z' (i' cu.bd.lo ?_));refine⟨M0,b,A,V,l,c,n,e,Z',cu,hc,hn,wf,hf,er,λM' A' c1 st=>?_⟩;refine oU c1.at_ (i' Z' (i' c1.bd.lo λp hp=>?_));have hcut:L3.uf ((qr V (tS l V e)).log.map Ev.d) (ga (((V.log.map Ev.d).length:Nat):Int)) Fa=(tS l V e).map Ev.d:=by rw[zD,dF,Ij _ _ (by rw[cU];lia),List.drop_left]
   rw[hcut];exact⟨_,.refl,q er M' A' p c1 st hp⟩
def On(a:Ad):qY:=λds M Q=>Ti λM0 b A V l c n e=>ds=[.ref b,tI.d e]/\uw a M0 M b A V l c n/\c<10000/\n<=5000000/\WF l V/\e.mP/\WH a M0 M b A V l c n e Q/\(xf l V e≠Fa->Q .mx M)
def Pw:Fq P w K mg base 14 a.bv (On a):=by
 refine fq G.bv.toDG vC (λr u=>⟨_,(oR (pC 2 vC rL)
 (oR (O8 (ix:=2) (Le (QA G) (r.mono (by first|decide|lia)) Z' G.E.mg G.E.toDG.kp G.E.b (rK v0 U1)) Z' Z' Z' G.bW vC.nd Z' Z' (λev E'=>
 (oS (pC 2 vC rL))))
 (oS (oY U2)))),?_⟩)
 rintro ds M Q ⟨M0,b,A,V,l,c,n,e,rfl,cu,hc,hn,wf,hf,q,qf⟩
 refine⟨λC _ M'=>(C=a.J/\xf l V e≠Fa)/\M=M',?_,?_⟩
 .exact⟨M0,b,A,V,l,c,n,e,Z',cu,hc,hn,wf,hf,λh M' A' r c1 st hm=>⟨_,.refl,q h M' A' r c1 st hm⟩,λw h=>⟨⟨Z',by rw[h];exact λz=>nomatch z⟩,Z'⟩⟩
 .rintro C y M' ⟨⟨rfl,h⟩,rfl⟩
  exact⟨G.b6,M,.refl,qf h⟩
noncomputable def vo(g:ue):Bool:=g.2.1==("turns":Str)
def uO(l:pf):T0 (Str×Int):=(l.groups.filter vo).map λg=>(g.1,0)
def V0(p:lf)(h:Int)(l:pf)(F:QXQ):qc:=⟨p,h,0,[],[],uO l,l.mo.map (·.1),[],F⟩
def FB(a:Ad):qY:=λds M Q=>EL λb p h F (l:pf)=>ds=[.ref b,.ref p,.int h]/\M b=ga (.ins a.c [])/\sJ a M p l/\qR l/\p≠b/\(∀x∈F,∃c,M x=ga c)/\∀M' A,A.b=b->rg b M M'->(∀x∈A.foot,x=b\/M x=Fa)->pE a M' A (V0 p h l F)->Q .mx M'
noncomputable def Mt(g:D):Bool:=match g with
 | .tup (_::.str m::_)=>m=="turns"
 | _=>pc
def QE(d:D):D:=.tup [C9 d,.int 0]
def Hd(gs:List ue):((gs.map qT).filter Mt).map QE=(gs.filter vo).map λg=>D.tup [.str g.1,.int 0]:=by rw[gY,dU];rfl
def Kw(l:pf):((l.groups.filter vo).map λg=>((Sum.inr g.1:qJ),D.int 0))=sZ (uO l):=by unfold sZ uO;rw[dU];rfl
noncomputable def bF(p:lf)(h:Int)(ca le nx YG:lf)(k:Nat):T0 (Str×D):=List.take (α:=Str×D) k [("plan",.ref p),("hour",.int h),("turn",.int 0),("calls",.ref ca),("legs",.ref le),("nexts",.ref nx),("on",.ref YG)]
def Lg:Fq P w K mg base 1 a.ai (FB a):=by
 refine fq G.ai.toDG Df (λr u=>⟨_,(oR (pU v0 U1)
 (oR (pU v0 U2)
 (oR (pU v0 oV)
 (oR (pU v0 (qD rZ))
 (oR (pU v0 (qD rZ))
 (oR (pU v0 (qa (FL Z') Z' G.bU EE (pW (qv Z' (xc (ix:=[Fa]) (N':=["group"])) (qy (oZ U1)) (qh 0) (uW (pk u (pA v0 oV) oW)) (pF (rK (pA v0 oV) oV))))))
 (oR (pU v0 (qa sf Z' G.r sd (pW (oZ U1))))
 (oS (pU v0 (qD rZ)))))))))),?_⟩)
 rintro ds M Q ⟨b,p,h,F,l,rfl,hb,⟨ph,gr,ws,on,pr,gd,rs,i1,i2,i3,i4,i5,i6,i7,i8⟩,ok,nbp,hF,q⟩
 have hz:=dH;have l2:=ok.g3;refine oU hb ⟨(G.C "plan" Z'),by show 0<1000;decide,?_⟩;have k1:rg b M (o9 M b (.ins a.c [("plan",.ref p)])):=.put;have b1:o9 M b (.ins a.c [("plan",.ref p)]) b=ga (.ins a.c [("plan",.ref p)]):=pJ;show uj _ _ _ _ (o9 M b (.ins a.c [("plan",.ref p)]));generalize o9 M b (.ins a.c [("plan",.ref p)])=N1 at k1 b1 ⊢;refine oU b1 ⟨(G.C "hour" Z'),by show 1<1000;decide,?_⟩;have k2:=k1.trans (rg.put (p:=b) (c:=.ins a.c [("plan",.ref p),("hour",.int h)]));have b2:o9 N1 b (.ins a.c [("plan",.ref p),("hour",.int h)]) b=ga (.ins a.c [("plan",.ref p),("hour",.int h)]):=pJ;show uj _ _ _ _ (o9 N1 b (.ins a.c [("plan",.ref p),("hour",.int h)]));generalize o9 N1 b (.ins a.c [("plan",.ref p),("hour",.int h)])=N2 at k2 b2 ⊢;refine oU b2 ⟨(G.C "turn" Z'),by show 2<1000;decide,?_⟩;have k3:=k2.trans (rg.put (p:=b) (c:=.ins a.c (bF p h 0 0 0 0 3)));have b3:o9 N2 b (.ins a.c (bF p h 0 0 0 0 3)) b=ga (.ins a.c (bF p h 0 0 0 0 3)):=pJ;show uj _ _ _ _ (o9 N2 b (.ins a.c (bF p h 0 0 0 0 3)));generalize o9 N2 b (.ins a.c (bF p h 0 0 0 0 3))=N3 at k3 b3 ⊢;clear k1 k2 b1 b2;refine⟨oP Z',λca hca=>?_⟩;obtain⟨n4,e4,k4,c4,b4⟩:=sQ (fs':=(bF p h ca 0 0 0 4)) (c:=.lst []) b3 hca;refine oU e4 ⟨(G.C "calls" Z'),by show 3<1000;decide,?_⟩;show uj _ _ _ _ (o9 (o9 N3 ca (.lst [])) b (.ins a.c (bF p h ca 0 0 0 4)));generalize o9 (o9 N3 ca (.lst [])) b (.ins a.c (bF p h ca 0 0 0 4))=N4 at k4 c4 b4 ⊢;have Y9:=k3.trans k4;have z1:M ca=Fa:=rq k3 b3 hca;have lc4:nU N4 ca=ga []:=sy c4;refine⟨oP Z',λle Z3=>?_⟩;obtain⟨n5,e5,k5,c5,b5⟩:=sQ (fs':=(bF p h ca le 0 0 5)) (c:=.lst []) b4 Z3;refine oU e5 ⟨(G.C "legs" Z'),by show 4<1000;decide,?_⟩;show uj _ _ _ _ (o9 (o9 N4 le (.lst [])) b (.ins a.c (bF p h ca le 0 0 5)));generalize o9 (o9 N4 le (.lst [])) b (.ins a.c (bF p h ca le 0 0 5))=N5 at k5 c5 b5 ⊢;have Za:=Y9.trans k5;have z2:M le=Fa:=rq Y9 b4 Z3;have le5:nU N5 le=ga []:=sy c5;have mcl:le≠ca:=λz=>by rw[z,pP lc4]at Z3;cases Z3
 have lc5:=k5.lst (pK lc4 b4) lc4;have p5:=Za _ _ nbp i1;have g5:=Za.lst (pK i3 hb) i3;clear k3 k4 k5 Y9 lc4 c4 c5 e4 e5 b3 b4;refine oU p5 (i' Z' (i' g5 ?_));refine tz (f:=QE) (t:=Mt) g5 _ [] _ (by rw[cR];simp only[dB];lia) (λd hd k hk=>?_) (λd hd _ k hk=>?_) λq1 X0=>?_
 .obtain⟨v,_,rfl⟩:=dw.mp hd;exact hk
 .obtain⟨v,_,rfl⟩:=dw.mp hd;exact⟨oP Z',hk⟩
 rw[dX,Hd];have ZA:=qu.new (c:=.lst ((l.groups.filter vo).map λg=>D.tup [.str g.1,.int 0])) X0;refine i' pj (i' (wW (λg:ue=>g.1) (λ_=>D.int 0) _) ⟨yx (iy (List.Sublist.map _ fT) (iy (jp _ _) ok.nd)),λnx Xf=>?_⟩);have z3:M nx=Fa:=rq Za b5 (ZA.none Xf);obtain⟨n6,e6,k6,c6,b6⟩:=sQ (fs':=(bF p h ca le nx 0 6)) (c:=.dk ((l.groups.filter vo).map λg=>((Sum.inr g.1:qJ),D.int 0))) (ZA _ _ b5) Xf;refine oU e6 ⟨(G.C "nexts" Z'),by show 5<1000;decide,?_⟩;have k6:=ZA.keep.trans k6;have YY:vK "nexts" (.ref nx) (bF p h ca le 0 0 5)=(bF p h ca le nx 0 6):=rfl;rw[YY];generalize o9 (o9 (o9 N5 q1 (.lst ((l.groups.filter vo).map λg=>D.tup [.str g.1,.int 0]))) nx (.dk ((l.groups.filter vo).map λg=>((Sum.inr g.1:qJ),D.int 0)))) b (.ins a.c (bF p h ca le nx 0 6))=N6 at k6 b6 c6 ⊢;have x6:xm N6 nx=ga ((l.groups.filter vo).map λg=>((Sum.inr g.1:qJ),D.int 0)):=Ec c6;have kk6:=Za.trans k6;have lc6:=k6.lst (pK lc5 b5) lc5;have le6:=k6.lst (pK le5 b5) le5;have p6:=kk6 _ _ nbp i1;have o6:=kk6.lst (pK i5 hb) i5;clear Za k6 lc5 p5 g5 e6 c6;refine oU p6 (i' Z' (i' o6 λYG Z1=>?_));have z4:M YG=Fa:=rq kk6 b6 Z1;obtain⟨n7,e7,k7,c7,b7⟩:=sQ (fs':=(bF p h ca le nx YG 7)) (c:=.lst (l.mo.map λw=>D.bl w.1)) b6 Z1;refine oU e7 ⟨(G.C "on" Z'),by show 6<1000;decide,?_⟩;have YY:vK "on" (.ref YG) (bF p h ca le nx 0 6)=(bF p h ca le nx YG 7):=rfl;rw[YY];generalize o9 (o9 N6 YG (.lst (l.mo.map λw=>D.bl w.1))) b (.ins a.c (bF p h ca le nx YG 7))=N7 at k7 b7 c7 ⊢;have kk7:=kk6.trans k7;have lc7:=k7.lst (pK lc6 b6) lc6;have le7:=k7.lst (pK le6 b6) le6;have x7:=k7.dk (BU x6 b6) x6;have lo7:nU N7 YG=ga ((l.mo.map (·.1)).map D.bl):=by rw[dU];exact sy c7
 refine⟨oP Z',λlg hlg=>?_⟩;obtain⟨n8,e8,k8,c8,b8⟩:=sQ (fs':=tF (.ref p) h 0 ca le nx YG lg) (c:=.lst []) b7 hlg;refine oU e8 ⟨(G.C "log" Z'),by show 7<1000;decide,_,.refl,?_⟩;have apart:∀{N:Mp} {x y:lf} {ds:T0 D},N x=Fa->nU N y=ga ds->x≠y:=λ{N x y ds} h1 h2 z=>by have:=pP h2;rw[<-z,h1]at this;cases this
 have y5:=rq kk7 b7 hlg;refine q _ ⟨b,ca,le,nx,YG,lg,[]⟩ Z' (kk7.trans k8) (λx hx=>?_) ⟨b8,k8.lst (pK lc7 b7) lc7,k8.lst (pK le7 b7) le7,?_,k8.lst (pK lo7 b7) lo7,sy c8,Z',λi k c e=>by simp at e,?_,dN.mpr ⟨dP,eE⟩,λx hx=>?_⟩
 rotate_right
 .by_cases z:x=b
  .exact⟨_,by rw[z];exact b8⟩
  .obtain⟨c,e⟩:=hF x hx;exact⟨c,(kk7.trans k8) x c z e⟩
 .have hx:x∈[b,nx,ca,le,YG,lg]:=by
   unfold tR.foot tR.lists at hx
   simpa using hx
  simp only[dg,dP,fP]at hx;rcases hx with rfl|rfl|rfl|rfl|rfl|rfl
  .exact .inl Z'
  .exact .inr z3
  .exact .inr z1
  .exact .inr z2
  .exact .inr z4
  .exact .inr y5
 .show xm _ nx=ga (sZ (uO l));rw[<-Kw];exact k8.dk (BU x7 b7) x7
 .have m1:=apart hlg lc7;have m2:=apart hlg le7;have m3:=apart hlg lo7;have m4:=apart Z1 lc6;have m5:=apart Z1 le6;show[ca,le,YG,lg].Nodup;simp only[dN,dg,dP,fP,hW,not_false_eq_true,eE,and_true];exact⟨⟨dQ mcl,dQ m4,dQ m1⟩,⟨dQ m5,dQ m2⟩,dQ m3⟩
def Wb{p:lf}{F:QXQ}(ok:qR l):WF l (V0 p h l F):=by
 refine⟨λi c e=>by simp[V0]at e,λi j ci cj x e=>by simp[V0]at e,λx hx=>?_,λi j ci cj x e=>by simp[V0]at e,λz hz ht=>?_⟩
 .show((0:Nat):Int)<=wu l x;unfold wu;cases e:l.mK x with
  | none=>exact iZ _
  | some v=>have:=(ok.po v (gh e)).l1;show(0:Int)<=v.2.1;lia
 .show ∃v,(uO l).find? (λp=>decide (p.1=z))=ga v/\_;unfold pf.mz at ht;cases e:l.group z with
  | none=>rw[e]at ht;exact absurd ht (by decide)
  | some g=>
   rw[e]at ht;have hg:=gh e;have hn:g.1=z:=by simpa using lO e
   have hm:((g.1,0):Str×Int)∈uO l:=dw.mpr ⟨g,fB.mpr ⟨hg,ht⟩,Z'⟩;cases q:(uO l).find? (λp=>decide (p.1=z))with
   | none=>exact absurd (gg.mp q _ hm) (by simp[hn])
   | some v=>refine⟨v,Z',?_⟩;obtain⟨g',_,rfl⟩:=dw.mp (gh q);exact⟨iZ _,Int.natCast_nonneg _⟩
def Dv(ok:qR l):(uO l).length<=3:=by unfold uO;rw[cR];exact dS (gA _ _) ok.g3
def Ev.oo:Ev->Prop
 | .turn=>False
 | .sw _ _=>False
 | _=>True
def Ev.noN:Ev->Prop
 | .next _ _=>False
 | _=>True
theorem EO:∀{es:T0 Ev} {V:qc},(∀e∈es,e.noN)->(qr V es).ps=V.ps
 | [],_,_=>rfl
 | e::r,V,h=>(EO (es:=r) (V:=pM V e) λx hx=>h x (dz _ hx)).trans (by have:=h e dD;cases e<;>first|rfl|cases this)
theorem y8(i:Nat):∀(st:sI) (q:Option Str),∀e∈qQ i q st,e.oo/\e.noN
 | [],_,e,h=>by unfold qQ at h;cases h
 | (y,gs)::r,Fa,e,h=>by
  rcases dg.mp (show e∈Ev.asks i y gs::qQ i (ga y) r from h)with rfl|h
  .exact⟨trivial,trivial⟩
  .exact y8 i r _ e h
 | (y,gs)::r,ga u,e,h=>by
  rcases dg.mp (show e∈Ev.leg ⟨i,u,y,u⟩::Ev.asks i y gs::qQ i (ga y) r from h)with rfl|h
  .exact⟨trivial,trivial⟩
  rcases dg.mp h with rfl|h
  .exact⟨trivial,trivial⟩
  .exact y8 i r _ e h
def II{st:sI}:∀e∈sD i st en,e.oo/\e.noN:=λe h=>by
 unfold sD at h;cases en with
 | ring ns=>
  dsimp only at h;cases q:st.getLast? with
  | none=>rw[q]at h;cases h
  | some s0=>rw[q]at h;rw[c9.mp h];exact⟨trivial,trivial⟩
 | _=>cases h
def Ph{V:qc}:∀e∈rP l V i en,e.oo:=λe h=>by
 cases en with
 | rings z ps=>
  rcases dM.mp (show e∈(if (l.mz z=="turns")=Db then[Ev.next z (PX (l.mi z) (ps.headD Str.empty))]else[])++[.rings i ps]from h)with g|g
  .split at g
   .rw[c9.mp g];trivial
   .cases g
  .rw[c9.mp g];trivial
 | breaks z=>
  unfold rP at h;dsimp only at h;split at h
  .rw[c9.mp h];trivial
  .cases h
 | waits z=>rw[c9.mp h];trivial
 | engaged z=>rw[c9.mp h];trivial
 | barred=>rw[c9.mp h];trivial
 | ring ns=>rw[c9.mp h];trivial
def Re{V:qc}:∀e∈uK l V i,e.oo:=λe h=>by
 unfold uK at h;cases q:V.calls[i]? with
 | none=>rw[q]at h;cases h
 | some c=>
  rw[q]at h;dsimp only[Option.elim]at h;rcases dM.mp h with h|h
  .exact(y8 i _ _ e h).1
  rcases dM.mp h with h|h
  .exact(II e h).1
  .exact Ph e h
def Ng{V:qc}:∀e∈sF l V i fs,e.oo:=λe h=>by
 unfold sF at h;split at h
 .rename_i x y n _;dsimp only at h;rcases dM.mp h with h|h
  .simp only[dg,dP,fP]at h;rcases h with rfl|rfl|rfl<;>trivial
  .exact Re e h
 .cases h
theorem GM:∀(is:T0 Nat) (V:qc),∀e∈qH l is V,e.oo
 | [],_,e,h=>by unfold qH at h;cases h
 | i::r,V,e,h=>by
  unfold qH at h;rcases dM.mp h with h|h
  .exact Ng e h
  .exact GM r _ e h
def Qb{ps:T0 (Str×Int)}{z:Str}{n:Int}(h:ps.any (λp=>decide (p.1=z))=Db):(Ct ps z n).length=ps.length:=by unfold Ct;rw[cX h,cR]
def S'{V V1:qc}(nx:tZ l V1)(he:D0 l V i en):(qr V1 (rP l V i en)).ps.length=V1.ps.length:=by
 cases en with
 | rings z ps=>
  show(qr V1 ((if (l.mz z=="turns")=Db then[Ev.next z (PX (l.mi z) (ps.headD Str.empty))]else[])++[.rings i ps])).ps.length=_;rw[rC];by_cases ht:(l.mz z=="turns")=Db
  .rw[cX ht];refine Qb ?_;obtain⟨v,e,_⟩:=nx z he.1 ht;exact fM.mpr ⟨v,gh e,by simpa using lO e⟩
  .rw[cW ht];rfl
 | breaks z=>
  unfold rP;dsimp only;split
  .rfl
  .rfl
 | waits z=>rfl
 | engaged z=>rfl
 | barred=>rfl
 | ring ns=>rfl
def QG{V:qc}{i:Nat}{k:oX}(ok:qR l)(wf:zN l V (ga i))(hk:V.calls[i]?=ga k):(qr V (uK l V i)).ps.length=V.ps.length:=by
 have XT:=wf.ok i k hk;unfold uK;rw[hk];dsimp only[Option.elim];obtain⟨z,hz⟩:∃z,k.way.getLast?=ga z:=by
  cases e:k.way.getLast? with
  | none=>exact absurd (gi.mp e) XT.wy.1
  | some z=>exact⟨z,Z'⟩
 rw[show k.way.getLastD Str.empty=z by rw[gK,hz];rfl];have ro:wH l V k.cr (l.nm.length+1) [] (uk l V k.cr z k.way.dropLast):=xG ok _ _ _ _ (XT.wy.2 z (ib hz)) λx hx=>XT.wy.2 x (ic _ hx);have eo:=Im ok wf hk ro.e;generalize uk l V k.cr z k.way.dropLast=R at eo;obtain⟨e,st⟩:=R;have e1:(qr (qr V (qQ i Fa st)) (sD i st e)).ps=V.ps:=(EO λx hx=>(II x hx).2).trans (EO λx hx=>(y8 i st Fa x hx).2);rw[rC,rC];refine(S' (λz hz ht=>?_) eo).trans (eC List.length e1);rw[e1];exact wf.nx z hz ht
theorem Jk(ok:qR l):∀(is:T0 Nat) {V:qc},WF l V->(qr V (qH l is V)).ps.length=V.ps.length
 | [],V,_=>by unfold qH;rfl
 | i::r,V,wf=>by
  unfold qH;rw[rC];refine(Jk ok r (ED ok wf)).trans ?_;have d:=EY (V:=V) (i:=i) ok;generalize yk l V i=fs at d;cases d with
  | no=>rfl
  | on c k r b x y n hc hs hk hw hy=>rw[xZ hk,rC];exact QG ok (Bq wf hc hs hy) (A8 hc)
def UG{V:qc}{e:tI}(ok:qR l)(wf:WF l V)(f:e.mP)(h:xf l V e=Fa):(qr V (tS l V e)).ps.length=V.ps.length:=by
 cases e with
 | call y z=>obtain⟨h1,h2,h3,h4⟩:=Be h;obtain⟨k,hk⟩:=Hs (V:=V) (y:=y) (z:=z);show(qr V (_++uK l _ _)).ps.length=_;rw[rC];exact QG ok (EU wf h1 h2 h3 h4) hk
 | turn=>exact Jk ok _ (Bh wf)
 | sw b i=>rfl
 | num w x ns=>
  refine eC List.length (EO λev hev=>?_);obtain⟨_,n⟩:=Fh f h;cases n with
  | answer i c hi hc h1 h2 h3=>rw[c9.mp (show ev∈[AK V "answer" x i.toNat]from hev),xb hc];trivial
  | hang i c hi hc h1=>
   have hev:ev∈uS V x i.toNat:=hev;unfold uS at hev;rw[hc]at hev;dsimp only[Option.elim]at hev;split at hev
   .rw[c9.mp hev];trivial
   split at hev
   .rcases dg.mp hev with rfl|hev
    .trivial
    split at hev
    .rw[c9.mp hev];trivial
    .cases hev
   split at hev
   .rw[c9.mp hev];trivial
   .rw[c9.mp hev];trivial
  | hold i c hi hc h1=>rw[c9.mp (show ev∈[AK V "hold" x i.toNat]from hev),xb hc];trivial
  | back i c hi hc h1 h2=>rw[c9.mp (show ev∈[AK V "back" x i.toNat]from hev),xb hc];trivial
  | two _ i j c d hi hj hw hc hd h1 h2=>rw[c9.mp (show ev∈[Eb V w x i.toNat j.toNat]from hev),Eu hc hd];trivial
noncomputable def Bm(c:oX):QQQ:=if (c.st=="talks"||c.st=="held")=Db then c.ms else c.cr::c.at_
def KB(a:Ad):qY:=λds M Q=>DM λL k c=>ds=[.ref (rA.p k)]/\rM a M L k c/\c.at_.length<=100/\∀r M',qu M M'->nU M' r=ga ((Bm c).map D.str)->Q (.ref r) M'
def K0(V:qc)(Yf:QQQ):T0 Nat:=(List.range V.calls.length).filter λi=>(V.calls[i]?).elim pc λc=>hasS Yf c.st
def Oy(a:Ad):qY:=λds M Q=>BK λA V l Yf=>ds=[.ref A.b,.tup (List.map D.str Yf)]/\Rd a M A V l/\∀r M',qu M M'->nU M' r=ga ((K0 V Yf).map λn=>D.int (n:Nat))->Q (.ref r) M'
def SK(V:qc)(Yf:QQQ):D->Bool
 | .int n=>(V.calls[n.toNat]?).elim pc λc=>hasS Yf c.st
 | _=>pc
def J1:Fq P w K mg base 1 a.bo (KB a):=by
 refine fq G.bo.toDG Dm (λr u=>⟨_,(oR (pH (W3.b3 (yl (pk u (oZ v0) oW) (xF (pk u (oZ v0) oW))))
 (oS (oY (qa sf Z' G.r sd (pW (oZ v0)))))
 pB)
 (oS (oY (pL (qD (pW (oZ v0))) (qa sf Z' G.r sd (pW (oZ v0))))))),?_⟩)
 rintro ds M Q ⟨L,k,c,rfl,⟨ad,md,h1,h2,h3,h4,_⟩,ha,q⟩
 have hz:=dH;unfold Bm at q;refine oU h1 (i' Z' (qx (c:=c.st=="talks") (λg=>?_) (λg=>?_)))
 .rw[g,hU,cX Z']at q;exact oU h1 (i' Z' (i' h4 λr hr=>⟨_,.refl,q r _ (.new hr) pj⟩))
 rw[dC.mpr g,fE]at q;refine oU h1 (i' Z' (qx (c:=c.st=="held") (λg=>?_) (λg=>?_)))
 .rw[cX g]at q;exact oU h1 (i' Z' (i' h4 λr hr=>⟨_,.refl,q r _ (.new hr) pj⟩))
 rw[cW g]at q;refine oU h1 (i' Z' ⟨oP Z',λr1 XS=>?_⟩);obtain⟨M1,e0,t1,l1⟩:=ub (ds:=[D.str c.cr]) XS;rw[<-e0];show Af (M1 k.p) _;refine oU (t1 _ _ h1) (i' Z' (i' (t1.lst h3) λr2 YZ=>?_));have t2:=qu.new (c:=.lst (c.at_.map D.str)) YZ;refine i' (t2.lst l1) (i' pj ⟨?_,λr3 YL=>⟨_,.refl,q r3 _ (t1.trans (t2.trans (.new YL))) pj⟩⟩);rw[cR];show 1+c.at_.length<=Uf;lia
def Qp:Fq P w K mg base 1 a.bp (Oy a):=by
 refine fq G.bp.toDG AX (λr u=>⟨_,(oS (oY (qv Z' (xc (ix:=[Fa,ga 0,ga 1]) (N':=["_law_k","_law_board","_law_states"])) (ut Z' G.L (pW (pG qb Z' G.g pZ (pW (oZ v0))))) (qh 0) (uW (pk u (oZ (pA (oZ U1) v0)) U2)) v0))),?_⟩)
 rintro ds M Q ⟨A,V,l,Yf,rfl,rd,q⟩
 have hz:=dH;have lc:((A.cs.map λk=>D.ref k.p).length:Int)=(V.calls.length:Nat):=by rw[cR,rd.bd.len]
 have hb:=rd.k;refine oU rd.bd.at_ (i' Z' (i' rd.bd.ca ?_));rw[lc];refine⟨Z',⟨by lia,by lia⟩,?_⟩;refine tz (f:=id) (t:=SK V Yf) trivial _ [] _ (by rw[cR,eB];simp only[dB];lia) (λd hd k hk=>?_) (λd hd _ k hk=>?_) λr hr=>?_
 .obtain⟨i,hi,rfl⟩:=dw.mp hd;rw[gc]at hi;have hi:i<V.calls.length:=by lia
  obtain⟨k',ek,⟨ad,md,h1,_⟩⟩:=rd.call (cT hi);have ea:vR (A.cs.map λk=>D.ref k.p) (0+(i:Nat))=ga (.ref k'.p):=by rw[l8];exact qX ek
  refine oU rd.bd.at_ (i' Z' (i' Z' (i' rd.bd.ca (i' ea (oU h1 (i' Z' (i' Z' ⟨Z',ql _,?_⟩)))))));show k (inD (.str V.calls[i].st) (Yf.map D.str)) M;rw[rX];have e1:SK V Yf (.int (0+(i:Nat)))=hasS Yf V.calls[i].st:=by show(V.calls[(0+(i:Int)).toNat]?).elim pc _=_;rw[show(0+(i:Int)).toNat=i by lia,cT hi];rfl
  show k (hasS Yf V.calls[i].st) M;rw[<-e1];exact hk
 .exact hk
 .refine⟨_,.refl,q r _ (.new hr) (pj.trans (eC ga ?_))⟩;rw[dX,iY,gY,show(((V.calls.length:Nat):Int)).toNat=V.calls.length from rfl];unfold K0;have e1:(SK V Yf∘λi:Nat=>D.int (0+(i:Nat)))=λi=>(V.calls[i]?).elim pc λc=>hasS Yf c.st:=funext λi=>by show(V.calls[(0+(i:Int)).toNat]?).elim pc _=_;rw[show(0+(i:Int)).toNat=i by lia]
  rw[e1];exact fK λi _=>by rw[l8]
noncomputable def FU:Str->QQQ:=λw=>if (w=="answer")=Db then["rings","waits"]else if (w=="hold")=Db then["talks"]else if (w=="hang")=Db then["rings","waits","talks","held"]else["held"]
def SD(w:Str):Prop:=w="answer"\/w="hang"\/w="hold"\/w="back"\/w="hand"\/w="join"
def Ku(a:Ad):qY:=λds M Q=>EL λA V l c w=>ds=[.ref A.b,.int c,.str w,.tup ((FU w).map D.str)]/\Rd a M A V l/\WF l V/\(∀k∈V.calls,k.at_.length<=100)/\SD w/\∀M',qu M M'->Q .mx M'/\∀e:tI,e.mP->Q e.d M'
def Q9{n:Nat}{a b:lf}{ds:T0 D}(ha:nU M a=ga ds)(hb:nU M b=ga []):yA M (n+1) (.ref a) (.ref b)=ga ds.isEmpty:=by
 show(nU M a).bind (λi=>(nU M b).bind λj=>if i.length=j.length then so (yA M n) i j else ga pc)=_;rw[ha,hb];cases ds with
 | nil=>rfl
 | cons x r=>rfl
def uz{α:Type}(f:α->D){xs:List α}(h:xs≠[])(c k:Int):(0:Int)<((xs.map f).length:Nat)/\∃x∈xs,vR (xs.map f) (qd c k ((xs.map f).length:Nat))=ga (f x):=by
 have hp:(0:Int)<((xs.map f).length:Nat):=by have:=fi.mpr h;rw[cR];lia
 have d0:=qG (c:=c) (f:=k) hp;have d1:=qA (c:=c) (f:=k) hp;obtain⟨n,e⟩:=d4 d0;rw[e]at d1 ⊢;have hn:n<xs.length:=by rw[cR]at d1;lia
 exact⟨hp,xs[n],ia hn,uR (by rw[dq,cT hn];rfl)⟩
def Si{V:qc}{i:Nat}(h:i∈K0 V Yf):∃c,V.calls[i]?=ga c/\c.st∈Yf:=by
 have h:=(fB.mp h).2;cases e:V.calls[i]? with
 | none=>rw[e]at h;cases h
 | some c=>rw[e]at h;exact⟨c,Z',qF.mp h⟩
def Dt{c:oX}(k:vJ l pc c)(h:c.st≠"over"):Bm c≠[]:=by
 unfold Bm;split
 .rename_i g;rcases k.sh with z|⟨_,z|z|⟨_,z⟩|z⟩
  .rw[z.1]at g;exact absurd g (by decide)
  .rw[z.1]at g;exact absurd g (by decide)
  .intro y;rw[y]at z;rcases z.2.1 with u|u<;>cases u
  .intro y;rw[y]at z;cases z.2.1
  .exact absurd z.1 h
 .exact fz _ _
def T1{c:oX}(k:vJ l pc c)(h:c.st∈FU "answer"):c.at_≠[]:=by
 have h:c.st="rings"\/c.st="waits":=by
  rcases dg.mp h with g|g
  .exact .inl g
  .exact .inr (c9.mp g)
 rcases k.sh with z|⟨_,z|z|⟨_,z⟩|z⟩
 .exact z.2.2.2.2.2 Z'
 .intro y;rw[y]at z;cases z.2.2.2.2
 all_goals(rw[z.1]at h;exact absurd h (by decide))
def IA{c:oX}(k:vJ l pc c)(h:c.st="held"):∃x,c.hd=ga x:=by
 rcases k.sh with z|⟨_,z|z|⟨x,z⟩|z⟩
 .rw[h]at z;exact absurd z.1 (by decide)
 .rw[h]at z;exact absurd z.1 (by decide)
 .rw[h]at z;exact absurd z.1 (by decide)
 .exact⟨x,z.2.2.1⟩
 .rw[h]at z;exact absurd z.1 (by decide)
def Kn:Fq P w K mg base 4 a.bq (Ku a):=by
 refine fq G.bq.toDG rm (λr u=>⟨_,(oR (pC 4 rm (pz (Qp G) r G.bp (rK v0 U3)))
 (oR (pH (pk u v4 (qD rZ))
 (oS (oY rL))
 pB)
 (oR (pC 5 rm (pA v4 (pz (qw G) r G.i (ra U1 oV (pG qb Z' G.g pZ (pW v4))))))
 (oR (pC 6 rm (pz (J1 G) r G.bo (pW (pA (oZ v0) v5))))
 (oR (pH (pk u U2 oW)
 (oS (pC 6 rm (qa sf Z' G.r sd (pW (oZ (pA (oZ v0) v5))))))
 pB)
 (oR (pH (W3.b3 (yl (pk u U2 oW) (yl (pk u U2 oW) (xF (pk u U2 oW)))))
 (oS (pC 6 rm (qD (pW (oZ (pA (oZ v0) v5))))))
 pB)
 (oR (pC 7 rm (pA v6 (pz (qw G) r G.i (ra U1 oV (pG qb Z' G.g pZ (pW v6))))))
 (oR (pH (W3.b3 (yl (pk u U2 oW) (xF (pk u U2 oW))))
 (oR (pC 8 rm (pO v0 G.c.toCls G.V (yR G) r (pW v7)))
 (oS (oY (pF (pT U2 (ra v7 v5 (JA (pk u v8 rL) oV v8)))))))
 pB)
 (oS (oY (pF (ra U2 v7 v5)))))))))))),?_⟩)
 rintro ds M Q ⟨A,V,l,c,wd,rfl,rd,wf,ha,ho,q⟩
 have hz:=dH;refine⟨A,V,l,FU wd,Z',rd,λr M1 s1 lr=>?_⟩;refine⟨oP Z',λr0 Z2=>?_⟩;have t2:=qu.new (c:=.lst []) Z2;have ZG:=t2.lst lr;refine i' (Q9 ZG pj) ?_;have s2:=s1.trans t2;generalize o9 M1 r0 (.lst [])=M2 at s2 ZG ⊢;clear t2 lr Z2 s1;refine qx (c:=((K0 V (FU wd)).map λn=>D.int (n:Nat)).isEmpty) (λ_=>⟨M2,.refl,(q M2 s2).1⟩) (λg=>?_);have gne:K0 V (FU wd)≠[]:=λz=>g (by rw[z];rfl);obtain⟨hp,i,hi,ei⟩:=uz (λn:Nat=>D.int (n:Nat)) gne c 40692;obtain⟨cv,hc,hs⟩:=Si hi;have Zo:=rd.sub s2;obtain⟨k,ek,ca⟩:=Zo.call hc;have ca0:=ca;obtain⟨ad,md,h1,h2,h3,h4,_⟩:=ca0;have XT:=wf.ok i cv hc;refine i' ZG ⟨c,_,_,Z',hp,i' ZG (i' ei ?_)⟩;refine oU Zo.bd.at_ (i' Z' (i' Z' (i' Zo.bd.ca (i' (qX ek) ?_))));refine⟨_,k,cv,Z',ca,ha cv (qW hc),λr3 M3 s3 lr3=>?_⟩;have XQ:=s3 _ _ h1;have q3:=λM' (s:qu M3 M')=>q M' (s2.trans (s3.trans s));have Zp:=Zo.sub s3;have Zz:=s3.lst h3;clear q ZG s2 h1 h2 h3 h4 ca;rcases ho with rfl|rfl|rfl|rfl|rfl|rfl
 .
  refine oU Zp.bd.at_ (i' Z' (i' Z' (i' Zp.bd.ca (i' (qX ek) (oU XQ (i' Z' (i' Zz λr4 hr4=>?_)))))));obtain⟨Xe,x,hx,ex⟩:=uz D.str (T1 XT hs) c 742938285;refine i' pj ⟨c,_,_,Z',Xe,i' pj (i' ex ?_)⟩;exact⟨oP Z',_,.refl,(q3 _ (.new hr4)).2 (.num "answer" x [(i:Nat)]) (.inl ⟨.inl Z',Z'⟩)⟩
 .
  obtain⟨Xe,x,hx,ex⟩:=uz D.str (Dt XT (λz=>by rw[z]at hs;exact absurd hs (by decide))) c 742938285;refine i' lr3 ⟨c,_,_,Z',Xe,i' lr3 (i' ex ?_)⟩;exact⟨oP Z',_,.refl,(q3 _ .refl).2 (.num "hang" x [(i:Nat)]) (.inl ⟨.inr (.inl Z'),Z'⟩)⟩
 .
  obtain⟨Xe,x,hx,ex⟩:=uz D.str (Dt XT (λz=>by rw[z]at hs;exact absurd hs (by decide))) c 742938285;refine i' lr3 ⟨c,_,_,Z',Xe,i' lr3 (i' ex ?_)⟩;exact⟨oP Z',_,.refl,(q3 _ .refl).2 (.num "hold" x [(i:Nat)]) (.inl ⟨.inr (.inr (.inl Z')),Z'⟩)⟩
 .
  obtain⟨y,hy⟩:=IA XT (c9.mp hs);refine oU Zp.bd.at_ (i' Z' (i' Z' (i' Zp.bd.ca (i' (qX ek) (oU XQ (i' Z' ⟨oP Z',λr4 hr4=>?_⟩))))));rw[show Gi cv.hd=.str y by rw[hy];rfl];obtain⟨Xe,x,hx,ex⟩:=uz D.str (fz y []) c 742938285;refine i' pj ⟨c,_,_,Z',Xe,i' pj (i' ex ?_)⟩;exact⟨oP Z',_,.refl,(q3 _ (.new hr4)).2 (.num "back" x [(i:Nat)]) (.inl ⟨.inr (.inr (.inr Z')),Z'⟩)⟩
 all_goals
  obtain⟨y,hy⟩:=IA XT (c9.mp hs);refine oU Zp.bd.at_ (i' Z' (i' Z' (i' Zp.bd.ca (i' (qX ek) (oU XQ (i' Z' ⟨oP Z',λr4 hr4=>?_⟩))))));rw[show Gi cv.hd=.str y by rw[hy];rfl];obtain⟨Xe,x,hx,ex⟩:=uz D.str (fz y []) c 742938285;refine i' pj ⟨c,_,_,Z',Xe,i' pj (i' ex ?_)⟩;have t4:=qu.new (c:=.lst [D.str y]) hr4;refine oU (t4 _ _ Zp.bd.at_) ⟨Z',_,⟨Z',Z'⟩,A,V,x,Z',Zp.bd.sub t4,Zp.k,?_⟩;unfold Ap;cases vA V x with
  | none=>first|exact⟨oP Z',_,.refl,(q3 _ t4).2 (.num "hand" x [(i:Nat),(0:Nat)]) (.inr ⟨.inl Z',Z'⟩)⟩|exact⟨oP Z',_,.refl,(q3 _ t4).2 (.num "join" x [(i:Nat),(0:Nat)]) (.inr ⟨.inr Z',Z'⟩)⟩
  | some j=>first|exact⟨oP Z',_,.refl,(q3 _ t4).2 (.num "hand" x [(i:Nat),(j:Nat)]) (.inr ⟨.inl Z',Z'⟩)⟩|exact⟨oP Z',_,.refl,(q3 _ t4).2 (.num "join" x [(i:Nat),(j:Nat)]) (.inr ⟨.inr Z',Z'⟩)⟩
def IT:qY:=λds M Q=>JI λc o n own nm m=>ds=[.int c,.ref o,.ref n,.int ((m:Nat):Int)]/\nU M o=ga (List.map D.str own)/\nU M n=ga (List.map D.str nm)/\own.length<=100/\nm.length<=100/\m<=1000000/\∀M' (e:tI),qu M M'->e.mP->Q e.d M'
def Nn(a:Ad):qY:=λds M Q=>Ti λA V l c o n own nm=>ds=[.ref A.b,.int c,.ref o,.ref n]/\Rd a M A V l/\WF l V/\(∀k∈V.calls,k.at_.length<=100)/\nU M o=ga (List.map D.str own)/\nU M n=ga (List.map D.str nm)/\own≠[]/\nm≠[]/\own.length<=100/\nm.length<=100/\∀M' (e:tI),qu M M'->e.mP->Q e.d M'
def Jj{α:Type}(f:α->D){xs:List α}(h:xs≠[]){m:Int}(hm:m=(xs.length:Nat))(c k:Int):(0:Int)<m/\∃x∈xs,vR (xs.map f) (qd c k m)=ga (f x):=by have:=uz f h c k;rw[cR,<-hm]at this;exact this
def O1{α:Type}(xs:List α)(x:α):xs++[x]≠[]:=by simp
noncomputable def HD:QQQ:=["call","call","call","call","call","answer","answer","answer","answer","answer","hang","hang","hold","hold","hold","back","hand","join","turn","turn","turn"]
theorem Ea(d:D):∀n:Nat,(List.replicate n [d]).flatten=List.replicate n d
 | 0=>rfl
 | n+1=>by rw[eh,fG,Ea d n,eh];rfl
noncomputable def zz:Str:="zzzzzz"
noncomputable def MH(a b:Str)(k m:Int):List tI:=[.call a b,.num "answer" a [k],.num "hang" a [k],.num "hold" a [k],.num "back" a [k],.num "hand" a [k,m],.num "join" a [k,m],.turn,.sw Db k,.sw pc k]
def LC{a b:Str}{k m:Int}{e:tI}(h:e∈MH a b k m):e.mP:=by
 unfold MH at h;simp only[dg,dP,fP]at h;rcases h with rfl|rfl|rfl|rfl|rfl|rfl|rfl|rfl|rfl|rfl
 .trivial
 .exact .inl ⟨.inl Z',Z'⟩
 .exact .inl ⟨.inr (.inl Z'),Z'⟩
 .exact .inl ⟨.inr (.inr (.inl Z')),Z'⟩
 .exact .inl ⟨.inr (.inr (.inr Z')),Z'⟩
 .exact .inr ⟨.inl Z',Z'⟩
 .exact .inr ⟨.inr Z',Z'⟩
 .trivial
 .trivial
 .trivial
def PY:Fq P w K mg base 2 a.br IT:=by
 refine fq G.br.toDG ux (λr u=>⟨_,(oR (pC 4 ux (pA (pL U1 (qD (pW oW))) (pz (qw G) r G.i (ra v0 oV (pL (pG qb Z' G.g pZ (pW U1)) oV)))))
 (oR (pC 5 ux (pA (pL U2 (qD (pW oW))) (pz (qw G) r G.i (ra v0 oV (pL (pG qb Z' G.g pZ (pW U2)) oV)))))
 (oR (pC 6 ux (pL (pz (qw G) r G.i (ra v0 oV (pL U3 oV))) oV))
 (oR (pC 7 ux (pL (pz (qw G) r G.i (ra v0 oV (pL U3 oV))) oV))
 (oR (pC 8 ux (qD (pT (pF (ra oW v4 v5)) (pT (pF (ra oW v4 v6)) (pT (pF (ra oW v4 v6)) (ra (pF (ra oW v4 v6)) (pF (ra oW v4 v6)) (pF (pT oW (ra v4 v6 v7)))))))))
 (oS (oY (pA (pL v8 (qD (pT (pF (pT oW (ra v4 v6 v7))) (ra (pF (pW oW)) (pF (rK oW v6)) (pF (rK oW v6)))))) (pz (qw G) r G.i (ra v0 oV oV)))))))))),?_⟩)
 rintro ds M Q ⟨c,o,n,own,nm,m,rfl,ho,hn,ol,nl,ml,q⟩
 have hz:=dH;have add:∀{M1:Mp} {p:lf} {xs:QQQ} (f:Int) (nx:DK),qu M M1->nU M1 p=ga (xs.map D.str)->xs.length<=100->(∀x M',qu M M'->nx (.str x) M')->∀r1,M1 r1=Fa->(nU (o9 M1 r1 (.lst [D.str zz])) p).elim False λi=>(nU (o9 M1 r1 (.lst [D.str zz])) r1).elim False λj=>i.length+j.length<=Uf/\∀r2,o9 M1 r1 (.lst [D.str zz]) r2=Fa->(nU (o9 (o9 M1 r1 (.lst [D.str zz])) r2 (.lst (i++j))) p).elim False λys=>Jb [.int c,.int f,.int ((ys.length:Nat)+1)] (o9 (o9 M1 r1 (.lst [D.str zz])) r2 (.lst (i++j))) λy M2=>match y with
  | .int n=>(nU M2 r2).elim False λzs=>(vR zs n).elim False λd=>nx d M2
  | _=>False:=λ{M1 p xs} f nx s hx lx Xf r1 XS=>by
  have t1:=qu.new (c:=.lst [D.str zz]) XS;refine i' (t1.lst hx) (i' pj ⟨by rw[cR];show xs.length+1<=Uf;lia,λr2 YZ=>?_⟩);have t2:=qu.new (c:=.lst (xs.map D.str++[D.str zz])) YZ;obtain⟨hp,x,_,ex⟩:=Jj D.str (O1 xs zz) (m:=((xs.map D.str).length:Nat)+1) (by rw[cR,cU];rfl) c f;rw[dF]at ex;exact i' ((t1.trans t2).lst hx) ⟨c,f,_,Z',hp,i' pj (i' ex (Xf x _ (s.trans (t1.trans t2))))⟩
 refine⟨oP Z',add 16807 _ .refl ho ol λx M1 s1=>⟨oP Z',add 39373 _ s1 (s1.lst hn) nl λy M2 s2=>?_⟩⟩;refine⟨c,_,_,Z',by show(0:Int)<(m:Nat)+2;lia,⟨c,_,_,Z',by show(0:Int)<(m:Nat)+2;lia,?_⟩⟩;generalize qd c 69621 ((m:Nat)+2) - 1=k0;refine⟨oP Z',oP Z',oP Z',oP Z',oP Z',oP Z',oP Z',λr8 hr8=>⟨oP Z',oP Z',oP Z',oP Z',oP Z',λr9 hr9=>?_⟩⟩;have t8:=qu.new (c:=.lst (((MH x y k0 (qd c 22695477 ((m:Nat)+2) - 1)).take 6).map tI.d)) hr8;have t9:=qu.new (c:=.lst (((MH x y k0 (qd c 22695477 ((m:Nat)+2) - 1)).drop 6).map tI.d)) hr9;refine i' (t9.lst pj) (i' pj ⟨by show 6+4<=Uf;lia,λr10 hr10=>?_⟩);obtain⟨hp,e,he,ee⟩:=Jj tI.d (xs:=MH x y k0 (qd c 22695477 ((m:Nat)+2) - 1)) (fz _ _) (m:=10) Z' c 1664525;exact⟨c,_,_,Z',hp,i' pj (i' ee ⟨_,.refl,q _ e (s2.trans (t8.trans (t9.trans (.new hr10)))) (LC he)⟩)⟩
def K9:Fq P w K mg base 5 a.bs (Nn a):=by
 refine fq G.bs.toDG rn (λr u=>⟨_,(oR (pC 4 rn (pL (pL (pL (pL (pL (By (qD (pW oW)) oV) (By (qD (pW oW)) oV)) (By (qD (pW oW)) oV)) (By (qD (pW oW)) oV)) (qD (ra oW oW oW))) (By (qD (pW oW)) oV)))
 (oR (pC 4 rn (pA v4 (pz (qw G) r G.i (ra U1 oV (pG qb Z' G.g pZ (pW v4))))))
 (oR (pC 5 rn (pF (pT oW (ra oW oW oW))))
 (oR (pH (pk u v4 oW)
 (oS (pC 5 rn (pF (rK oW oW))))
 pB)
 (oR (pH (pk u v4 oW)
 (oS (pC 5 rn (pF (pW oW))))
 pB)
 (oR (pH (W3.b3 (yl (pk u v4 oW) (yl (pk u v4 oW) (xF (pk u v4 oW)))))
 (oS (pC 5 rn (pF (pW oW))))
 pB)
 (oR (pH (pk u v4 oW)
 (oS (oY (pF (pW oW))))
 pB)
 (oR (pH (pk u (pz (qw G) r G.i (ra U1 oV oV)) oV)
 (oS (oY (pz (PY G) r G.br (pT U1 (ra U2 U3 (pG qb Z' G.g pZ (pW (oZ v0))))))))
 pB)
 (oR (pC 6 rn rL)
 (oR (pH (pk u v4 oW)
 (oS (pC 6 rn (pz (Kn G) r G.bq (pT v0 (ra U1 v4 v5)))))
 pB)
 (oR (pH (pk u v6 rL)
 (oR (pC 7 rn (pA U2 (pz (qw G) r G.i (ra U1 oV (pG qb Z' G.g pZ (pW U2))))))
 (oS (pC 6 rn (pF (ra oW v7 (pA U3 (pz (qw G) r G.i (ra U1 oV (pG qb Z' G.g pZ (pW U3))))))))))
 pB)
 (oS (oY v6))))))))))))),?_⟩)
 rintro ds M Q ⟨A,V,l,c,o,n,own,nm,rfl,rd,wf,ha,ho,hn,one,nne,ol,nl,q⟩
 have hz:=dH;refine Tp (t:=Ep _ _) (λU M'=>qu M M'/\∃r,nU M' r=ga (HD.map D.str)/\U=[ga (.ref A.b),ga (.int c),ga (.ref o),ga (.ref n),ga (.ref r),Fa,Fa,Fa]) (λnx h=>?_) ?_
 .have Y2:∀{N:Mp} {U:uV} (w0:Str) (m:Int) (nx:DK),qu M N->(0<=m/\m<=10)->(∀r N',qu M N'->qu N N'->nU N' r=ga ((List.replicate m.toNat w0).map D.str)->nx (.ref r) N')->T5 (UK (vb (L3.c3 (.str w0)) xK)) (L3.c3 (.int m)) U N nx:=λ{N U} w0 m nx sn hm Xf=>by refine⟨oP Z',λr1 XS=>?_⟩;refine i' pj ⟨⟨by lia,by lia,by show 1<=1000;decide⟩,λr2 YZ=>?_⟩;have t:=(qu.new (c:=.lst [D.str w0]) XS).trans (qu.new (c:=.lst (List.replicate m.toNat [D.str w0]).flatten) YZ);refine Xf r2 _ (sn.trans t) t (pj.trans (eC ga ?_));rw[List.map_replicate];exact Ea _ _
  have Yg:∀{N:Mp} {p r:lf} {xs ys:QQQ} (nx:DK),qu M N->nU N p=ga (xs.map D.str)->nU N r=ga (ys.map D.str)->xs.length+ys.length<=100->(∀r N',qu M N'->nU N' r=ga ((xs++ys).map D.str)->nx (.ref r) N')->Vg .Add (.ref p) (.ref r) N nx:=λ{N p r xs ys} nx sn hx hy hl Xf=>by refine i' hx (i' hy ⟨by rw[cR,cR];lia,λr2 YZ=>?_⟩);refine Xf r2 _ (sn.trans (.new YZ)) (pj.trans (eC ga ?_));rw[dF]
  dsimp only[Ep,o3];refine Y2 "call" 5 _ .refl (by decide) λp1 N1 s1 _ l1=>Y2 "answer" 5 _ s1 (by decide) λq2 N2 s2 t2 l2=>Yg _ s2 (t2.lst l1) l2 (by decide) λp2 N3 s3 l3=>Y2 "hang" 2 _ s3 (by decide) λq4 N4 s4 t4 l4=>Yg _ s4 (t4.lst l3) l4 (by decide) λp5 N5 s5 l5=>Y2 "hold" 3 _ s5 (by decide) λq6 N6 s6 t6 l6=>Yg _ s6 (t6.lst l5) l6 (by decide) λp7 N7 s7 l7=>⟨oP Z',λr8 hr8=>?_⟩;have t8:=qu.new (c:=.lst ((["back","hand","join"]:QQQ).map D.str)) hr8;exact Yg (ys:=["back","hand","join"]) _ (s7.trans t8) (t8.lst l7) pj (by decide) λp9 N9 s9 l9=>Y2 "turn" 3 _ s9 (by decide) λq10 N10 s10 t10 l10=>Yg _ s10 (t10.lst l9) l10 (by decide) λp11 N11 s11 l11=>h _ _ ⟨s11,p11,l11,Z'⟩
 rintro U M1 ⟨s1,r,lr,rfl⟩
 have s1n:=s1.lst hn;have s1o:=s1.lst ho;obtain⟨hp,w0,hw,ew⟩:=uz D.str (show HD≠[]from fz _ _) c 48271;refine i' lr ⟨c,_,_,Z',hp,i' lr (i' ew ?_)⟩;obtain⟨XZ,x1,hx1,ex1⟩:=uz D.str one c 16807;obtain⟨Xe,x2,hx2,ex2⟩:=uz D.str nne c 39373;have Y0:=rd.sub s1;have lc:((A.cs.map λk=>D.ref k.p).length:Int)=(V.calls.length:Nat):=by rw[cR,rd.bd.len]
 clear lr hp ew;have hw:w0="call"\/w0="turn"\/SD w0:=by unfold HD at hw;simp only[dg,dP,fP]at hw;unfold SD;rcases hw with h|h|h|h|h|h|h|h|h|h|h|h|h|h|h|h|h|h|h|h|h<;>simp[h]
 have Xb:∀M' (e:tI),qu M1 M'->e.mP->∃W9,qu W9 M'/\Q e.d W9:=λM' e s f=>⟨M',.refl,q M' e (s1.trans s) f⟩;rcases hw with rfl|rfl|hw
 .refine⟨oP Z',c,_,_,Z',by decide,qx (c:=qd c 950706376 9==0) (λ_=>oU Y0.bd.at_ (i' Z' (i' Y0.bd.ca ?_))) (λ_=>?_)⟩
  .rw[lc];exact⟨c,o,n,own,nm,V.calls.length,Z',s1o,s1n,ol,nl,rd.k,Xb⟩
  exact i' s1o ⟨c,_,_,Z',XZ,i' s1o (i' ex1 (i' s1n ⟨c,_,_,Z',Xe,i' s1n (i' ex2 ⟨oP Z',Xb M1 (.call x1 x2) .refl trivial⟩)⟩))⟩
 .exact⟨oP Z',oP Z',Xb M1 .turn .refl trivial⟩
 have lany:IT [.int c,.ref o,.ref n,.int ((V.calls.length:Nat):Int)] M1 λd M'=>∃W9,qu W9 M'/\Q d W9:=⟨c,o,n,own,nm,V.calls.length,Z',s1o,s1n,ol,nl,rd.k,Xb⟩;have hw':=hw;rcases hw with rfl|rfl|rfl|rfl|rfl|rfl
 all_goals
  first
   | refine⟨oP rfl,oP rfl,c,_,_,rfl,by decide,qx (c:=qd c 950706376 9==0) (λ_=>oU Y0.bd.at_ (i' rfl (i' Y0.bd.ca ?_))) (λ_=>⟨A,V,l,c,_,rfl,Y0,wf,ha,hw',λM' s=>⟨?_,λe f=>?_⟩⟩)⟩
   | refine⟨oP rfl,c,_,_,rfl,by decide,qx (c:=qd c 950706376 9==0) (λ_=>oU Y0.bd.at_ (i' rfl (i' Y0.bd.ca ?_))) (λ_=>⟨A,V,l,c,_,rfl,Y0,wf,ha,hw',λM' s=>⟨?_,λe f=>?_⟩⟩)⟩
  .rw[lc];exact lany
  .exact i' (s.lst s1o) ⟨c,_,_,Z',XZ,i' (s.lst s1o) (i' ex1 (i' (s.lst s1n) ⟨c,_,_,Z',Xe,i' (s.lst s1n) (i' ex2 ⟨oP Z',Xb M' (.call x1 x2) s trivial⟩)⟩))⟩
  .cases e with
   | call y z=>exact Xb M' (.call y z) s f
   | num v y ns=>exact Xb M' (.num v y ns) s f
   | turn=>exact Xb M' .turn s f
   | sw b i=>exact Xb M' (.sw b i) s f
noncomputable def rF(V:qc)(i:Nat):Str:=(V.calls[i]?).elim Str.empty (·.st)
def Ev.fit(V:qc):Ev->Prop
 | .leg v=>rF V v.i="rings"/\v.f=v.y
 | .rings i _=>rF V i="rings"
 | .waits i _=>rF V i="rings"
 | .talks i _=>i<V.calls.length
 | .over i _=>i<V.calls.length
 | .held i _=>rF V i="talks"
 | .merge i j _=>i≠j/\rF V j="talks"
 | _=>True
def xD:qc->T0 Ev->Prop
 | _,[]=>True
 | V,e::r=>e.fit V/\xD (pM V e) r
theorem xJ:∀{V:qc} {es fs:T0 Ev},xD V es->xD (qr V es) fs->xD V (es++fs)
 | _,[],_,_,h=>h
 | _,_::_,_,h,g=>⟨h.1,xJ h.2 g⟩
def B8{V:qc}{i:Nat}{c:oX}(h:V.calls[i]?=ga c):rF V i=c.st:=by unfold rF;rw[h];rfl
def xy.st{V V':qc}(h:xy V V')(i:Nat):rF V' i=rF V i:=by
 have e:∀W:qc,rF W i=((W.calls.map oX.core)[i]?).elim Str.empty (·.st):=λW=>by unfold rF;rw[dq];cases W.calls[i]?<;>rfl
 rw[e,e,show V'.calls.map oX.core=V.calls.map oX.core from h]
theorem yX(i:Nat):∀(st:sI) (q:Option Str) {V:qc},rF V i="rings"->xD V (qQ i q st)
 | [],_,V,_=>by unfold qQ;trivial
 | (y,gs)::r,Fa,V,h=>⟨trivial,yX i r (ga y) h⟩
 | (y,gs)::r,ga u,V,h=>⟨⟨h,Z'⟩,trivial,yX i r (ga y) (((uE V _).core.st i).trans h)⟩
def FY{V V1:qc}{k:oX}{e:uU}(h:D0 l V i e)(hk:V.calls[i]?=ga k)(s:sU V V1)(hs:rF V1 i="rings"):xD V1 (rP l V i e):=by
 have Yh:i<V1.calls.length:=by rw[s.len];exact(cV.mp hk).1
 cases e with
 | rings z ps=>
  show xD V1 ((if (l.mz z=="turns")=Db then _ else _)++[.rings i ps]);split
  .exact⟨trivial,hs,trivial⟩
  .exact⟨hs,trivial⟩
 | waits z=>exact⟨hs,trivial⟩
 | breaks z=>
  obtain⟨j,d,t1,t2,t3,t4⟩:=h;have Z6:rP l V i (.breaks z)=[.merge i j (d.ms++[k.cr])]:=by unfold rP;dsimp only;rw[t1,hk];dsimp only;rw[t2];rfl
  rw[Z6];refine⟨⟨t3,?_⟩,trivial⟩;rw[s.core.st,B8 t2];obtain⟨hj,t,_⟩:=gM.mp t1;rw[cT hj]at t2;rw[de t2]at t;unfold oX.mE at t;rw[dR]at t;exact ZB t.1
 | engaged z=>exact⟨Yh,trivial⟩
 | barred=>exact⟨Yh,trivial⟩
 | ring ns=>exact⟨Yh,trivial⟩
def Jp{V:qc}{i:Nat}{k:oX}(ok:qR l)(wf:zN l V (ga i))(hk:V.calls[i]?=ga k):xD V (uK l V i):=by
 have XT:=wf.ok i k hk;have hs:rF V i="rings":=(B8 hk).trans (UI wf hk).1;unfold uK;rw[hk];dsimp only[Option.elim];obtain⟨z,hz⟩:∃z,k.way.getLast?=ga z:=by
  cases e:k.way.getLast? with
  | none=>exact absurd (gi.mp e) XT.wy.1
  | some z=>exact⟨z,Z'⟩
 rw[show k.way.getLastD Str.empty=z by rw[gK,hz];rfl];have ro:wH l V k.cr (l.nm.length+1) [] (uk l V k.cr z k.way.dropLast):=xG ok _ _ _ _ (XT.wy.2 z (ib hz)) λx hx=>XT.wy.2 x (ic _ hx);have eo:=Im ok wf hk ro.e;generalize uk l V k.cr z k.way.dropLast=R at eo;obtain⟨e,st⟩:=R;have s1:=uq i st Fa V;have h1:rF (qr V (qQ i Fa st)) i="rings":=(s1.core.st i).trans hs;refine xJ (yX i st Fa hs) ?_;generalize qr V (qQ i Fa st)=V1 at s1 h1;dsimp only;have h2:sD i st e=[]\/∃v,sD i st e=[.leg v]/\v.i=i/\v.f=v.y:=by
  unfold sD;cases e with
  | ring ns=>
   dsimp only;cases st.getLast? with
   | none=>exact .inl Z'
   | some s0=>exact .inr ⟨_,Z',Z',Z'⟩
  | _=>exact .inl Z'
 rcases h2 with h2|⟨v,h2,rfl,hv⟩
 .rw[h2];exact FY eo hk s1 h1
 .rw[h2];exact⟨⟨h1,hv⟩,FY eo hk (s1.trans (uE _ _)) (((uE V1 v).core.st _).trans h1)⟩
def Kj{V:qc}(ok:qR l)(wf:WF l V):xD V (sF l V i (yk l V i)):=by
 have d:=EY (V:=V) (i:=i) ok;generalize yk l V i=fs at d;cases d with
 | no=>trivial
 | on c k r b x y n hc hs hk hw hy=>rw[xZ hk];refine xJ ⟨trivial,trivial,⟨?_,Z'⟩,trivial⟩ (Jp ok (Bq wf hc hs hy) (A8 hc));show rF (xi _ i oX.mS) i=_;rw[B8 (c:=c.mS) (by show(V.calls.modify i oX.mS)[i]?=_;rw[List.getElem?_modify_eq,hc];rfl)];exact hs
theorem DR(ok:qR l):∀(is:T0 Nat) {V:qc},WF l V->xD V (qH l is V)
 | [],V,_=>by unfold qH;trivial
 | i::r,V,wf=>by unfold qH;exact xJ (Kj ok wf) (DR ok r (ED ok wf))
def OV{V:qc}{e:tI}(ok:qR l)(wf:WF l V)(f:e.mP)(h:xf l V e=Fa):xD V (tS l V e):=by
 cases e with
 | call y z=>obtain⟨h1,h2,h3,h4⟩:=Be h;obtain⟨k,hk⟩:=Hs (V:=V) (y:=y) (z:=z);refine xJ ⟨trivial,⟨?_,Z'⟩,trivial⟩ (Jp ok (EU wf h1 h2 h3 h4) hk);exact B8 (c:=xW y) (by show(V.calls++[xW y])[V.calls.length]?=_;simp)
 | turn=>exact⟨trivial,DR ok _ (Bh wf)⟩
 | sw b i=>exact⟨trivial,trivial⟩
 | num w x ns=>
  obtain⟨_,n⟩:=Fh f h;cases n with
  | answer i c hi hc h1 h2 h3=>show xD V [AK V "answer" x i.toNat];rw[xb hc];exact⟨(cV.mp hc).1,trivial⟩
  | hang i c hi hc h1=>
   have lt:=(cV.mp hc).1;show xD V (uS V x i.toNat);unfold uS;rw[hc];dsimp only[Option.elim];split
   .exact⟨lt,trivial⟩
   split
   .refine⟨trivial,?_⟩;split
    .exact⟨by show _<(V.calls.modify _ _).length;rw[fN];exact lt,trivial⟩
    .trivial
   split
   .exact⟨trivial,trivial⟩
   .exact⟨lt,trivial⟩
  | hold i c hi hc h1=>show xD V [AK V "hold" x i.toNat];rw[xb hc];exact⟨(B8 hc).trans (vS.mp h1).1,trivial⟩
  | back i c hi hc h1 h2=>show xD V [AK V "back" x i.toNat];rw[xb hc];exact⟨(cV.mp hc).1,trivial⟩
  | two _ i j c d hi hj hw hc hd h1 h2=>show xD V [Eb V w x i.toNat j.toNat];rw[Eu hc hd];exact⟨⟨(ES (w:=w) wf hc hd h1 h2).1,(B8 hd).trans (vS.mp h2).1⟩,trivial⟩
structure Bl where
 rs:List (Str×Str×Str)
 ow:List Nat
 un:List Int
 ct:List (qJ×D)
noncomputable def Ts(kvs:T0 (qJ×D))(i:Nat):D:=(sR kvs (.inl (i:Nat))).getD (.bl pc)
def Gv(kvs:T0 (qJ×D))(i:Nat):Bool:=match Ts kvs i with
 | .bl b=>b
 | _=>pc
noncomputable def Ag(kvs:T0 (qJ×D))(i:Nat)(b:Bool):T0 (qJ×D):=wn kvs (.inl (i:Nat)) (.bl b)
def yo(kvs:T0 (qJ×D))(o:Nat)(u:Int):Int:=if Gv kvs o=Db then u+1 else u
def ur(B:Bl):Ev->Bl
 | .leg v=>⟨B.rs++[(v.f,v.g,v.y)],B.ow++[v.i],B.un++[0],B.ct⟩
 | .talks i _=>{B with ct:=Ag B.ct i Db}
 | .over i _=>{B with ct:=Ag B.ct i pc}
 | .merge i j _=>{B with ow:=B.ow.map λo=>if o=i then j else o}
 | .turn=>{B with un:=List.zipWith (yo B.ct) B.ow B.un}
 | _=>B
def sE(es:T0 Ev):Bl:=es.foldl ur ⟨[],[],[],[]⟩
def Nv(k k':qJ)(d:D)(kvs:T0 (qJ×D)):sR (wn kvs k d) k'=if k'=k then ga d else sR kvs k':=by
 have m:∀kvs:T0 (qJ×D),sR (kvs.map λkv=>if kv.1=k then(kv.1,d)else kv) k'=if k'=k then(sR kvs k).map (λ_=>d)else sR kvs k':=λkvs=>by
  induction kvs with
  | nil=>unfold sR;split<;>rfl
  | cons x r ih=>
   unfold sR at ih ⊢;rw[dW,eQ,eQ,eQ];by_cases e:x.1=k
   .rw[cX e,e,dI (Z':k=k)];by_cases e2:k=k'
    .rw[cX e2.symm,dI e2];rfl
    .rw[cW λz:k'=k=>e2 z.symm]at ih ⊢;rw[dZ e2];exact ih
   .rw[cW e,dZ e];by_cases e2:x.1=k'
    .rw[dI e2,cW λz=>e (e2.trans z)]
    .rw[dZ e2];exact ih
 unfold wn;split
 .rename_i h;rw[m];obtain⟨x,hx,ex⟩:=fM.mp h;split
  .cases e:sR kvs k with
   | none=>unfold sR at e;rw[Option.map_eq_none_iff,gg]at e;exact absurd ex (e x hx)
   | some _=>rfl
  .rfl
 .rename_i h;unfold sR;rw[kZ];by_cases e:k'=k
  .rw[cX e,e];rw[show kvs.find? (λkv=>decide (kv.1=k))=Fa from gg.mpr λx hx ex=>h (fM.mpr ⟨x,hx,ex⟩)];simp
  .rw[cW e,eQ,dZ (λz=>e z.symm)];simp
def Ih(kvs:T0 (qJ×D))(i:Nat)(b:Bool)(k:Nat):Ts (Ag kvs i b) k=if k=i then .bl b else Ts kvs k:=by
 unfold Ts Ag;rw[Nv];by_cases e:k=i
 .rw[cX e,e,cX Z'];rfl
 .rw[cW e,cW λz=>e (by injection z with z;lia)]
noncomputable def Tn(s:Str):Bool:=s=="talks"||s=="held"
structure Ck(V:qc)(B:Bl):Prop where
 ow:B.ow=V.mC.map (·.i)
 rs:B.rs=V.mC.map λv=>(v.f,v.g,v.y)
 un:B.un.length=V.mC.length
 ct:∀i,i∈B.ow\/rF V i≠"over"->Gv B.ct i=Tn (rF V i)
 fy:∀v∈V.mC,v.f=v.y
 ix:∀v∈V.mC,rF V v.i≠Str.empty
def yy{V V':qc}{i:Nat}{f:oX->oX}(h:V'.calls=V.calls.modify i f)(k:Nat):rF V' k=if k=i then(V.calls[i]?).elim Str.empty (λc=>(f c).st)else rF V k:=by
 unfold rF;rw[h,gL];by_cases e:i=k
 .subst e;rw[cX Z'];cases V.calls[i]?<;>simp
 .rw[cW (λz=>e z.symm)];simp[e]
def zH{V V':qc}(h:Ck V B)(l:V'.mC=V.mC)(s:∀k,rF V' k=rF V k):Ck V' B:=⟨by rw[l];exact h.ow,by rw[l];exact h.rs,by rw[l];exact h.un,λk hk=>by rw[s]at hk ⊢;exact h.ct k hk,by rw[l];exact h.fy,λv hv=>by rw[s];exact h.ix v (l ▸ hv)⟩
def Hy{V V':qc}{i:Nat}(h:Ck V B)(l:V'.mC=V.mC)(s:∀k,k≠i->rF V' k=rF V k)(c:T0 (qJ×D))(hc:∀k,k≠i->Gv c k=Gv B.ct k)(hi:Gv c i=Tn (rF V' i))(ne:rF V' i≠Str.empty):Ck V' {B with ct:=c}:=⟨by rw[l];exact h.ow,by rw[l];exact h.rs,by rw[l];exact h.un,λk hk=>by
 by_cases e:k=i
 .rw[e];exact hi
 .rw[s k e]at hk ⊢;exact(hc k e).trans (h.ct k hk),by rw[l];exact h.fy,λv hv=>by
 by_cases e:v.i=i
 .rw[e];exact ne
 .rw[s _ e];exact h.ix v (l ▸ hv)⟩
def QQ{i k:Nat}{b:Bool}(h:k≠i):Gv (Ag kvs i b) k=Gv kvs k:=by unfold Gv;rw[Ih,cW h]
def QJ{b:Bool}:Gv (Ag kvs i b) i=b:=by unfold Gv;rw[Ih,cX Z']
def Og{V:qc}{e:Ev}(h:Ck V B)(f:e.fit V):Ck (pM V e) (ur B e):=by
 have one:∀{i:Nat} {g:oX->oX} {V':qc},V'.calls=V.calls.modify i g->∀k,k≠i->rF V' k=rF V k:=λhv k hk=>by rw[yy hv,cW hk]
 have same:∀{i:Nat} {g:oX->oX} {V':qc},V'.calls=V.calls.modify i g->(∀c,(g c).st=c.st)->∀k,rF V' k=rF V k:=λ{i _ _} hv hg k=>by
  rw[yy hv];split
  .rename_i z;rw[z];unfold rF;cases V.calls[i]? with
   | none=>rfl
   | some c=>exact hg c
  .rfl
 have Yc:∀{i:Nat} {g:oX->oX} {s:Str} {V':qc},V'.calls=V.calls.modify i g->(∀c,(g c).st=s)->rF V i≠"over"->rF V i≠Str.empty->Tn (rF V i)=Tn s->V'.mC=V.mC->s≠Str.empty->Ck V' B:=λ{i g s V'} hv hg h1 h2 h3 hl hs=>Hy (c:=B.ct) h hl (one hv) (λ_ _=>rfl) (by
  rw[yy hv,cX Z'];rw[h.ct i (.inr h1),h3];unfold rF at h2;cases e:V.calls[i]? with
  | none=>rw[e]at h2;exact absurd Z' h2
  | some c=>exact eC Tn (hg c).symm) (by
  rw[yy hv,cX Z'];unfold rF at h2;cases e:V.calls[i]? with
  | none=>rw[e]at h2;exact absurd Z' h2
  | some c=>exact λz=>hs ((hg c).symm.trans z))
 have lt:∀{i:Nat} {g:oX->oX} {s:Str} {V':qc},V'.calls=V.calls.modify i g->(∀c,(g c).st=s)->i<V.calls.length->rF V' i=s:=λ{i g s V'} hv hg hi=>by rw[yy hv,cX Z',cT hi];exact hg _
 cases e with
 | new n x=>
  have e:∀k,rF (pM V (.new n x)) k=if k=V.calls.length then("rings":Str)else rF V k:=λk=>by
   show((V.calls++[xW x])[k]?).elim Str.empty (·.st)=_;rw[List.getElem?_append];split
   .rw[cW (by lia)];rfl
   .split
    .rename_i z;rw[z,gP];rfl
    .rename_i z1 z2;unfold rF;rw[fL (by simp;lia),fL (by lia)]
  refine⟨h.ow,h.rs,h.un,λk hk=>?_,h.fy,λv hv=>by rw[e];split;decide;exact h.ix v hv⟩;rw[e]at hk ⊢;by_cases z:k=V.calls.length
  .rw[cX z];have:rF V k=Str.empty:=by unfold rF;rw[fL (by lia)];rfl
   refine(h.ct k (.inr (by rw[this];decide))).trans ?_;rw[this];decide+kernel
  .rw[cW z]at hk ⊢;exact h.ct k hk
 | leg v=>
  have s:=(uE V v).core.st;refine⟨?_,?_,?_,λk hk=>?_,λu hu=>?_,λu hu=>?_⟩
  .show B.ow++[v.i]=(V.mC++[v]).map _;rw[h.ow,dF];rfl
  .show B.rs++[_]=(V.mC++[v]).map _;rw[h.rs,dF];rfl
  .show(B.un++[0]).length=(V.mC++[v]).length;rw[cU,cU,h.un];rfl
  .rw[s]at hk ⊢;refine h.ct k ?_;rcases hk with hk|hk
   .rcases dM.mp hk with z|z
    .exact .inl z
    .rw[c9.mp z,f.1];exact .inr (by decide)
   .exact .inr hk
  .rcases dM.mp hu with z|z
   .exact h.fy u z
   .rw[c9.mp z];exact f.2
  .rw[s];rcases dM.mp hu with z|z
   .exact h.ix u z
   .rw[c9.mp z,f.1];decide
 | asks i z ns=>exact zH h Z' λ_=>rfl
 | next z n=>exact zH h Z' λ_=>rfl
 | sw b i=>exact zH h Z' λ_=>rfl
 | turn=>have s:=(Ee V).st;refine⟨h.ow,h.rs,?_,λk hk=>by rw[s]at hk ⊢;exact h.ct k hk,h.fy,λv hv=>by rw[s];exact h.ix v hv⟩;show(List.zipWith _ B.ow B.un).length=V.mC.length;rw[fU,h.un,h.ow,cR,fW]
 | quiet i=>exact zH h Z' (same (i:=i) (g:=oX.mS) Z' λ_=>rfl)
 | leaves i x=>exact zH h Z' (same (i:=i) (g:=(·.drop x)) Z' λ_=>rfl)
 | rings i ps=>exact Yc (i:=i) (g:=(·.ring ps)) (s:="rings") Z' (λ_=>rfl) (by rw[f];decide) (by rw[f];decide) (by rw[f]) Z' (by decide)
 | waits i x=>exact Yc (i:=i) (g:=(·.wait x)) (s:="waits") Z' (λ_=>rfl) (by rw[f];decide) (by rw[f];decide) (by rw[f];decide+kernel) Z' (by decide)
 | held i x=>exact Yc (i:=i) (g:=(·.hold x)) (s:="held") Z' (λ_=>rfl) (by rw[f];decide) (by rw[f];decide) (by rw[f];decide+kernel) Z' (by decide)
 | talks i ms=>exact Hy (V':=pM V (.talks i ms)) (c:=Ag B.ct i Db) h Z' (one (i:=i) (g:=(·.mR ms)) Z') (λ_ hk=>QQ hk) (by rw[QJ,lt (V':=pM V (.talks i ms)) (i:=i) (g:=(·.mR ms)) (s:="talks") Z' (λ_=>rfl) f];decide+kernel) (by rw[lt (V':=pM V (.talks i ms)) (i:=i) (g:=(·.mR ms)) (s:="talks") Z' (λ_=>rfl) f];decide)
 | over i w=>exact Hy (V':=pM V (.over i w)) (c:=Ag B.ct i pc) h Z' (one (i:=i) (g:=(·.over w)) Z') (λ_ hk=>QQ hk) (by rw[QJ,lt (V':=pM V (.over i w)) (i:=i) (g:=(·.over w)) (s:="over") Z' (λ_=>rfl) f];decide+kernel) (by rw[lt (V':=pM V (.over i w)) (i:=i) (g:=(·.over w)) (s:="over") Z' (λ_=>rfl) f];decide)
 | merge i j ms=>
  have s:∀k,rF (pM V (.merge i j ms)) k=if k=i then(V.calls[i]?).elim Str.empty (λ_=>"over")else rF V k:=λk=>by
   have e1:=yy (V:=V) (V':={V with calls:=V.calls.modify i (·.over "merged")}) (i:=i) Z' k;have e2:=yy (V:={V with calls:=V.calls.modify i (·.over "merged")}) (V':=pM V (.merge i j ms)) (i:=j) (f:=(·.mem ms)) Z' k;rw[e2];split
   .rename_i z;rw[z,cW f.1.symm];show((V.calls.modify i _)[j]?).elim Str.empty (λc=>c.st)=_;rw[gL];simp only[f.1,lA];unfold rF;cases V.calls[j]?<;>rfl
   .exact e1
  refine⟨?_,?_,?_,λk hk=>?_,λu hu=>?_,λu hu=>?_⟩
  .show B.ow.map _=(V.mC.map (rh.to i j)).map _;rw[h.ow,dU,dU];refine fK λv _=>?_;show(if v.i=i then j else v.i)=(rh.to i j v).i;unfold rh.to;split<;>rfl
  .show B.rs=(V.mC.map (rh.to i j)).map _;rw[h.rs,dU];refine fK λv _=>?_;show _=((rh.to i j v).f,(rh.to i j v).g,(rh.to i j v).y);unfold rh.to;split<;>rfl
  .exact h.un.trans (cR ..).symm
  .rw[s]at hk ⊢;by_cases z:k=i
   .subst z;rw[cX Z']at hk ⊢;cases e:V.calls[k]? with
    | none=>
     have:rF V k=Str.empty:=by unfold rF;rw[e];rfl
     refine(h.ct k (.inr (by rw[this];decide))).trans ?_;rw[this];rfl
    | some c=>
     rw[e]at hk;rcases hk with hk|hk
     .obtain⟨o,_,ho⟩:=dw.mp hk;split at ho
      .exact absurd ho.symm f.1
      .rename_i n;exact absurd ho n
     .exact absurd Z' hk
   .rw[cW z]at hk ⊢;refine h.ct k ?_;rcases hk with hk|hk
    .obtain⟨o,ho,e⟩:=dw.mp hk;split at e
     .rw[<-e,f.2];exact .inr (by decide)
     .rw[<-e];exact .inl ho
    .exact .inr hk
  .obtain⟨v,hv,rfl⟩:=dw.mp hu;unfold rh.to;split
   .exact h.fy v hv
   .exact h.fy v hv
  .obtain⟨v,hv,rfl⟩:=dw.mp hu;rw[s];unfold rh.to;split
   .show(if j=i then _ else rF V j)≠_;rw[cW f.1.symm,f.2];decide
   .exact h.ix v hv
theorem Mc:∀{es:T0 Ev} {V:qc} {B:Bl},Ck V B->xD V es->Ck (qr V es) (es.foldl ur B)
 | [],_,_,h,_=>h
 | e::r,_,_,h,f=>Mc (es:=r) (Og h f.1) f.2
def Ls(a:Ad):qY:=λds M Q=>BK λr1 r2 r3 (l:pf)=>ds=[.tup [.ref r1,.ref r2,.ref r3]]/\nU M r1=ga (l.mv.map qL)/\nU M r2=ga (l.groups.map qT)/\nU M r3=ga (l.mo.map uZ)/\qR l/\∀p M',qu M M'->sJ a M' p l->Q (.ref p) M'
def Mz:qY:=λds M Q=>∃ns,ds=[.rl (List.map D.int ns)]/\Q (.int (qd (cell ns 0) 1664525 24)) M
def NQ(a:Ad):qY:=λds M Q=>EL λA V l ns k=>ds=[.ref A.b,.rl (List.map D.int ns),.int k]/\Rd a M A V l/\WF l V/\(∀k∈V.calls,k.at_.length<=100)/\(0<=k/\k<=1000)/\∀M' (e:tI),qu M M'->e.mP->Q e.d M'
structure zt(a:Ad)(M0 M:Mp)(A:tR)(V:qc)(l:pf)(c n:Nat):Prop where
 cu:uw a M0 M A.b A V l c n
 wf:WF l V
 bl:Ck V (sE V.log)
 ps:V.ps.length<=3
def JW(a:Ad):qY:=λds M Q=>EL λns r1 r2 r3 (l:pf)=>ds=[.rl (List.map D.int ns),.tup [.ref r1,.ref r2,.ref r3]]/\nU M r1=ga (l.mv.map qL)/\nU M r2=ga (l.groups.map qT)/\nU M r3=ga (l.mo.map uZ)/\qR l/\∀M0 M' A V,qu M M0->zt a M0 M' A V l 64 200000->Q (.ref A.b) M'
def zI(es fs:T0 Ev):sE (es++fs)=fs.foldl ur (sE es):=iD
variable {c' n':Nat}{e:tI}
section
variable {c:Nat}
def zt.after(g:zt a M0 M A V l c n)(f:e.mP)(hr:xf l V e=Fa)(cu:uw a M0 M' A.b A' (qr V (tS l V e)) l c' n'):zt a M0 M' A' (qr V (tS l V e)) l c' n':=by
 have Z5:uw a M0 M' A'.b A' (qr V (tS l V e)) l c' n':=by rw[cu.b];exact cu
 refine⟨Z5,Uy g.cu.ok g.wf f hr,?_,?_⟩
 .rw[zD,zI];exact Mc g.bl (OV g.cu.ok g.wf f hr)
 .rw[UG g.cu.ok g.wf f hr];exact g.ps
def zt.sub(g:zt a M0 M A V l c n)(s:qu M M'):zt a M0 M' A V l c n:=⟨g.cu.sub s,g.wf,g.bl,g.ps⟩
def zt.mono(g:zt a M0 M A V l c n)(hc:c<=c')(hn:n<=n'):zt a M0 M A V l c' n':=⟨g.cu.mono hc hn,g.wf,g.bl,g.ps⟩
def VL{p:lf}{F:QXQ}:Ck (V0 p h l F) (sE []):=⟨Z',Z',Z',λ_ _=>rfl,(λv hv=>by cases hv),λv hv=>by cases hv⟩
def zt.start{p b:lf}(ok:qR l)(pl:sJ a M0 p l)(hb:M0 b=Fa)(eb:A.b=b)(kp:rg b (o9 M0 b (.ins a.c [])) M)(fr:∀x∈A.foot,x=b\/o9 M0 b (.ins a.c []) x=Fa)(bd:pE a M A (V0 p h l [])):zt a M0 M A (V0 p h l []) l 1 3:=by
 have t:=qu.new (c:=.ins a.c []) hb;subst eb;refine⟨⟨bd,pl,λx c e=>kp x c (Io e hb) (t x c e),λx hx=>?_,Z',⟨eK _,eK _,eK _,Dv ok,λk hk=>by cases hk⟩,ok,cR ..⟩,Wb ok,VL,Dv ok⟩;rcases fr x hx with z|z
 .rw[z];exact hb
 .exact t.none z
end
def J2{pre post:T0 D}{d:D}(e:pre++d::post=(List.range n).map λi=>D.int (1+(i:Nat))):d=.int (1+(pre.length:Nat))/\pre.length<n:=by
 have h:((List.range n).map λi=>D.int (1+(i:Nat)))[pre.length]?=ga d:=by rw[<-e];simp
 have hl:pre.length<n:=by
  have:=(cV.mp h).1
  simpa using this
 rw[dq,iS hl]at h;exact⟨(de h).symm,hl⟩
def KS:Fq P w K mg base 9 a.bt (Ls a):=by
 refine fq G.bt.toDG GP (λr u=>⟨_,(oS (oY (uX (P8 G) r G.h G.b8 G.aj.toDG (ra (qa sf Z' G.r sd (pW (pA v0 oV))) (qa sf Z' G.r sd (pW (pA v0 oV))) (qa sf Z' G.r sd (pW (pA v0 oV))))))),?_⟩)
 rintro ds M Q ⟨r1,r2,r3,l,rfl,h1,h2,h3,ok,q⟩
 refine i' h1 λp1 XZ=>?_;obtain⟨M1,e0,t1,l1⟩:=ub (ds:=l.mv.map qL) XZ;rw[<-e0];refine i' (t1.lst h2) λp2 Xe=>?_;obtain⟨M2,e0,t2,l2⟩:=ub (ds:=l.groups.map qT) Xe;rw[<-e0];refine i' ((t1.trans t2).lst h3) λp3 Yx=>?_;obtain⟨M3,e0,t3,l3⟩:=ub (ds:=l.mo.map uZ) Yx;rw[<-e0];refine λp hp=>?_;have t4:=qu.new (c:=.ins a.h []) hp;refine⟨p,p1,p2,p3,l,Z',pJ,(t2.trans (t3.trans t4)).lst l1,(t3.trans t4).lst l2,t4.lst l3,ok,λM5 kp pa _=>⟨Z',_,.refl,q p M5 ?_ pa⟩⟩;exact t1.trans (t2.trans (t3.trans λx c e=>kp x c (λz=>by rw[z,hp]at e;cases e) (t4 x c e)))
def Nt:Fq P w K mg base 2 a.bu Mz:=by
 refine fq G.bu.toDG FW (λr u=>⟨_,(oS (oY (pz (qw G) r G.i (ra (pz (GJ G) r G.H (rK v0 oV)) oV oV)))),?_⟩)
 rintro ds M Q ⟨ns,rfl,q⟩
 exact⟨ns,0,Z',_,_,_,Z',by decide,M,.refl,q⟩
def Np:Fq P w K mg base 6 a.bw (NQ a):=by
 refine fq G.bw.toDG F6 (λr u=>⟨_,(oS (oY (pz (K9 G) r G.bs (pT v0 (ra (pL (pz (GJ G) r G.H (rK U1 U2)) (pL (pL oV U2) U2)) (vF (oZ v0) G.h.toCls G.O (sj G) r) (vF (oZ v0) G.h.toCls G.ak (yt G) r)))))),?_⟩)
 rintro ds M Q ⟨A,V,l,ns,k,rfl,rd,wf,ha,hk,q⟩
 obtain⟨ph,gr,ws,YE,pr,gd,rs,i1,_⟩:=rd.pl;have p1:=rd.ok.p1;have p8:=rd.ok.p8;have g3:=rd.ok.g3;have pl:l.pn.length=l.mv.length:=cR ..;have nl:l.nm.length=l.mv.length+l.groups.length:=by unfold pf.nm pf.pn pf.gn;rw[cU,cR,cR]
 refine⟨ns,k,Z',?_⟩;refine⟨.inl ⟨by decide,by decide⟩,.inr ⟨by lia,by lia⟩,?_⟩;refine oU rd.bd.at_ (i' Z' (oU i1 ⟨Z',_,⟨Z',Z'⟩,V.p,l,Z',rd.pl,by lia,λq1 X0=>?_⟩));obtain⟨M1,e0,t1,l1⟩:=ub (ds:=l.pn.map D.str) X0;rw[<-e0];show Af (M1 A.b) _;refine oU (t1 _ _ rd.bd.at_) (i' Z' (oU (t1 _ _ i1) ⟨Z',_,⟨Z',Z'⟩,V.p,l,Z',rd.pl.sub t1,by lia,by lia,λq2 YK=>?_⟩));have t2:=qu.new (c:=.lst (l.nm.map D.str)) YK;exact⟨A,V,l,_,q1,q2,l.pn,l.nm,Z',rd.sub (t1.trans t2),wf,ha,t2.lst l1,pj,λz=>by rw[z]at pl;simp only[dB]at pl;lia,λz=>by rw[z]at nl;simp only[dB]at nl;lia,by lia,by lia,λM' e s f=>⟨M',.refl,q M' e (t1.trans (t2.trans s)) f⟩⟩
def J5:Fq P w K mg base 16 a.bx (JW a):=by
 refine fq G.bx.toDG vI (λr u=>⟨_,(oR (pC 2 vI (uX (Lg G) r G.c G.b7 G.ai.toDG (rK (pz (KS G) r G.bt (pW U1)) (pz (Nt G) r G.bu (pW v0)))))
 (oR (uh eR Z' (Kc Z' G.L (rK oV (pG (MU Z') Z' G.b0 Lv (rK (pG qb Z' G.g pZ (pW v0)) oV)))) (rN 3 vI)
 (oS (pD (pz (Pw G) r G.bv (rK U2 (pz (Np G) r G.bw (ra U2 v0 U3)))))))
 (oS (oY U2)))),?_⟩)
 rintro ds M Q ⟨ns,r1,r2,r3,l,rfl,h1,h2,h3,ok,q⟩
 have hz:=dH;refine⟨r1,r2,r3,l,Z',h1,h2,h3,ok,λp M0 s0 pa=>⟨ns,Z',λb hb=>?_⟩⟩;have t1:=qu.new (c:=.ins a.c []) hb;refine⟨b,p,_,[],l,Z',pJ,pa.sub t1,ok,λz=>?_,(λx hx=>by cases hx),λM1 A eb kp fr bd=>⟨Z',?_⟩⟩
 .obtain⟨ph,gr,ws,YE,pr,gd,rs,i1,_⟩:=pa;rw[z,hb]at i1;cases i1
 have oM:=zt.start ok pa hb eb kp fr bd;refine⟨Z',?_⟩;generalize hN:(if (63:Int)<((ns.map D.int).length:Nat)then(63:Int)else((ns.map D.int).length:Nat))=N;have hN0:0<=N/\N<=63:=by rw[<-hN];split<;>lia
 subst eb;refine⟨⟨by decide,by decide,by lia,by lia⟩,?_⟩;refine uY ((List.range (N - 1).toNat).map λn=>D.int (1+(n:Nat))) (λpre U M'=>(∃A' V',A'.b=A.b/\zt a M0 M' A' V' l (1+pre.length) (3+2200*pre.length))/\∃y,U=[ga (.rl (ns.map D.int)),ga (.tup [.ref r1,.ref r2,.ref r3]),ga (.ref A.b),y]) (λ_ _ _ _=>trivial) _ [] _ _ Z' ⟨⟨A,_,Z',oM⟩,Fa,Z'⟩ ?_ ?_
 .rintro pre d post e U M' ⟨⟨A',V',eb',g⟩,y,rfl⟩ nx Xf
  obtain⟨rfl,Xl⟩:=J2 e;have Xl:pre.length<62:=by lia
  rw[cU,dE]at Xf;rw[<-eb']at Xf ⊢;refine⟨A',V',l,ns,_,Z',g.cu.rd (by lia) g.wf,g.wf,λk hk=>(g.cu.sz.cs k hk).2.1,⟨by lia,by lia⟩,λM2 e s f=>?_⟩;refine⟨M0,A'.b,A',V',l,_,_,e,Z',g.cu.sub s,by lia,by lia,g.wf,f,λhr M3 A3 r c3 XF YL=>Xf _ _ ⟨⟨A3,_,c3.b,((g.after f hr c3).mono (by lia) (by lia)).sub (.new YL)⟩,_,Z'⟩,λ_=>Xf _ _ ⟨⟨A',V',Z',(g.sub s).mono (by lia) (by lia)⟩,_,Z'⟩⟩
 .rintro U M' ⟨⟨A',V',eb',g⟩,y,rfl⟩
  rw[cR,eB]at g;rw[<-eb'];exact⟨M',.refl,q M0 M' A' V' s0 (g.mono (by lia) (by lia))⟩
noncomputable def NB(x:Str×Str×Str):D:=.tup [.str x.1,.str x.2.1,.str x.2.2]
noncomputable def Ao(x:Str×Str×Str)(u:Int):D:=.tup [.str x.1,.str x.2.1,.str x.2.2,.int u]
noncomputable def C7(o:Nat):D:=.int (o:Nat)
def sL(B:Bl):T0 D:=List.zipWith Ao B.rs B.un
structure Mb(B:Bl)(n:Nat):Prop where
 rs:B.rs.length=B.un.length
 ow:B.ow.length=B.un.length
 un:B.un.length<=n
 ct:B.ct.length<=n
 bl:∀i,Ts B.ct i=.bl (Gv B.ct i)
def LO(kvs:T0 (qJ×D))(i:Nat)(b:Bool):(Ag kvs i b).length<=kvs.length+1:=by
 unfold Ag wn;split
 .rw[cR];lia
 .rw[cU];exact cZ _
def Lc{b:Bool}(h:Mb B n):Mb {B with ct:=Ag B.ct i b} (n+1):=⟨h.rs,h.ow,gH h.un,dS (LO ..) (gu h.ct),λk=>by
 show Ts (Ag B.ct i b) k=.bl (Gv (Ag B.ct i b) k);unfold Gv;rw[Ih];split
 .rfl
 .exact h.bl k⟩
def Jc{e:Ev}(h:Mb B n):Mb (ur B e) (n+1):=by
 have up:Mb B (n+1):=⟨h.rs,h.ow,gH h.un,gH h.ct,h.bl⟩;have l:∀{α:Type} (x:List α) (y:α),(x++[y]).length=x.length+1:=λ_ _=>cU;cases e with
 | leg v=>exact⟨by show(_++[_]).length=(_++[_]).length;rw[l,l,h.rs],by show(_++[_]).length=(_++[_]).length;rw[l,l,h.ow],by show(_++[_]).length<=_;rw[l];exact gu h.un,up.ct,h.bl⟩
 | merge i j ms=>exact⟨h.rs,by show(B.ow.map _).length=_;rw[cR];exact h.ow,up.un,up.ct,h.bl⟩
 | turn=>
  have e:(List.zipWith (yo B.ct) B.ow B.un).length=B.un.length:=by rw[fU,h.ow,fW]
  exact⟨h.rs.trans e.symm,h.ow.trans e.symm,by show(List.zipWith _ _ _).length<=_;rw[e];exact up.un,up.ct,h.bl⟩
 | talks i ms=>exact Lc h
 | over i w=>exact Lc h
 | _=>exact up
def Ji{es:T0 Ev}{k:Nat}{e:Ev}(h:es[k]?=ga e):sE (es.take (k+1))=ur (sE (es.take k)) e:=by unfold sE;rw[fH,h,iD];rfl
theorem vq(es:T0 Ev):∀k,k<=es.length->Mb (sE (es.take k)) k
 | 0,_=>⟨Z',Z',cZ _,cZ _,λ_=>rfl⟩
 | k+1,h=>by rw[Ji (cT (by lia))];exact Jc (vq es k (by lia))
structure wg(M M':Mp)(B:Bl)(p1 p2 p3 p4:lf):Prop where
 s:qu M M'
 n1:M p1=Fa
 n2:M p2=Fa
 n3:M p3=Fa
 n4:M p4=Fa
 l1:nU M' p1=ga (B.rs.map NB)
 l2:nU M' p2=ga (B.ow.map C7)
 l3:nU M' p3=ga (B.un.map D.int)
 l4:xm M' p4=ga B.ct
 oi:p1≠p2
 oj:p1≠p3
 oG:p2≠p3
def Bi{p:lf}{c:uQ}(s:qu M M')(h:M p=Fa):qu M (o9 M' p c):=λx d e=>by rw[tM (Io e h)];exact s x d e
def DT{p q:lf}{ds:T0 D}{ks:T0 (qJ×D)}(h:nU M p=ga ds)(g:xm M q=ga ks):p≠q:=λz=>by have:=(pP h).symm.trans (z ▸ wx g);cases this
variable {B:Bl}{p1 p2 p3 p4:lf}
def wg.put1(h:wg M M' B p1 p2 p3 p4)(x:Str×Str×Str):wg M (o9 M' p1 (.lst (B.rs.map NB++[NB x]))) {B with rs:=B.rs++[x]} p1 p2 p3 p4:=⟨Bi h.s h.n1,h.n1,h.n2,h.n3,h.n4,by rw[pj,dF];rfl,rg.put.lst h.oi.symm h.l2,rg.put.lst h.oj.symm h.l3,rg.put.dk (DT h.l1 h.l4).symm h.l4,h.oi,h.oj,h.oG⟩
def wg.put2(h:wg M M' B p1 p2 p3 p4)(x:Nat):wg M (o9 M' p2 (.lst (B.ow.map C7++[C7 x]))) {B with ow:=B.ow++[x]} p1 p2 p3 p4:=⟨Bi h.s h.n2,h.n1,h.n2,h.n3,h.n4,rg.put.lst h.oi h.l1,by rw[pj,dF];rfl,rg.put.lst h.oG.symm h.l3,rg.put.dk (DT h.l2 h.l4).symm h.l4,h.oi,h.oj,h.oG⟩
def wg.put3(h:wg M M' B p1 p2 p3 p4)(x:Int):wg M (o9 M' p3 (.lst (B.un.map D.int++[D.int x]))) {B with un:=B.un++[x]} p1 p2 p3 p4:=⟨Bi h.s h.n3,h.n1,h.n2,h.n3,h.n4,rg.put.lst h.oj h.l1,rg.put.lst h.oG h.l2,by rw[pj,dF];rfl,rg.put.dk (DT h.l3 h.l4).symm h.l4,h.oi,h.oj,h.oG⟩
def wg.oH(h:wg M M' B p1 p2 p3 p4)(k:T0 (qJ×D)):wg M (o9 M' p4 (.dk k)) {B with ct:=k} p1 p2 p3 p4:=⟨Bi h.s h.n4,h.n1,h.n2,h.n3,h.n4,rg.put.lst (DT h.l1 h.l4) h.l1,rg.put.lst (DT h.l2 h.l4) h.l2,rg.put.lst (DT h.l3 h.l4) h.l3,Bu,h.oi,h.oj,h.oG⟩
def wg.new2(h:wg M M' B p1 p2 p3 p4){q:lf}(hq:M' q=Fa)(x:T0 Nat):wg M (o9 M' q (.lst (x.map C7))) {B with ow:=x} p1 q p3 p4:=⟨h.s.trans (.new hq),h.n1,h.s.none hq,h.n3,h.n4,(qu.new hq).lst h.l1,pj,(qu.new hq).lst h.l3,(qu.new hq).dk h.l4,Io (pP h.l1) hq,h.oj,(Io (pP h.l3) hq).symm⟩
def wg.new3(h:wg M M' B p1 p2 p3 p4){q:lf}(hq:M' q=Fa)(x:T0 Int):wg M (o9 M' q (.lst (x.map D.int))) {B with un:=x} p1 p2 q p4:=⟨h.s.trans (.new hq),h.n1,h.n2,h.s.none hq,h.n4,(qu.new hq).lst h.l1,(qu.new hq).lst h.l2,pj,(qu.new hq).dk h.l4,h.oi,Io (pP h.l1) hq,Io (pP h.l2) hq⟩
def Mn:qY:=λds M Q=>CM λr (es:T0 Ev)=>ds=[.ref r]/\nU M r=ga (es.map Ev.d)/\es.length<=8000000/\∀q M',qu M M'->M q=Fa->nU M' q=ga (sL (sE es))->Q (.ref q) M'
theorem Bt:∀{xs ys pre post:T0 D} {d:D},pre++d::post=vf xs ys->∃x y,xs[pre.length]?=ga x/\ys[pre.length]?=ga y/\d=.tup [x,y]
 | [],_,pre,post,d,e=>by cases pre<;>cases e
 | _::_,[],pre,post,d,e=>by cases pre<;>cases e
 | x::xs,y::ys,[],post,d,e=>by cases e;exact⟨x,y,Z',Z',Z'⟩
 | x::xs,y::ys,p::pre,post,d,e=>by have e:p::(pre++d::post)=.tup [x,y]::vf xs ys:=e;exact Bt (xs:=xs) (ys:=ys) (pre:=pre) (gF e).2
def uP{α:Type}{f:α->D}{xs:List α}{k:Nat}{d:D}(h:(xs.map f)[k]?=ga d):∃x,xs[k]?=ga x/\d=f x:=by
 rw[dq]at h;cases e:xs[k]? with
 | none=>rw[e]at h;cases h
 | some x=>rw[e]at h;exact⟨x,Z',(de h).symm⟩
def EW{α β γ:Type}(f:α->β->γ){xs:List α}{ys:List β}{k:Nat}{x:α}{y:β}(hx:xs[k]?=ga x)(hy:ys[k]?=ga y):(List.zipWith f xs ys).take (k+1)=(List.zipWith f xs ys).take k++[f x y]:=by rw[fH,gB,hx,hy];rfl
def ze:Fq P w K mg base 1 a.N Mn:=by
 refine fq G.N.toDG ui (λr u=>⟨_,(oR (pC 1 ui (qD rZ))
 (oR (pC 2 ui (qD rZ))
 (oR (pC 3 ui (qD rZ))
 (oR (pC 4 ui NX)
 (oR (uh eR Z' (qy v0) (rN 5 ui)
 (oR (pC 6 ui (pA v5 oV))
 (oS (pH (pk u v6 oW)
 (oR (pD (qM U1 (pW (qK v5 (rc oV) rE))))
 (oR (pD (qM U2 (pW (pA v5 oV))))
 (oS (pD (qM U3 (pW oV))))))
 (oS (pH (pk u v6 (pF (rK oW oW)))
 (oS (NI u v4 (pA v5 oV) (pX u v6 oW)))
 (oS (pH (pk u v6 oW)
 (oS (sY (i:=2) ui.nd Z' (Or.inl Z') Z' (xc (ix:=[Fa,ga 5]) (N':=["owner","event"])) (qy U2) (qh 0) rk (JA (pk u v0 (pA U1 oV)) (pA U1 oV) v0)))
 (oS (pH (pk u v6 oW)
 (oS (sY (i:=3) ui.nd Z' (Or.inl Z') Z' (xc (ix:=[Fa,Fa,ga 4]) (N':=["owner","told","counts"])) (Bf Z' G.aP (rK U2 U3)) (ua (n:=2) Z' (qg (qh 0) (qg (qh 1) sP))) rk (JA (uM (LH u U2 v0 wb ⟨Z',Z',Z',Z'⟩)) (pL U1 oV) U1)))
 pB))))))))))
 (oS (oY (qv Z' (xc (ix:=[Fa,Fa]) (N':=["leg","told"])) (Bf Z' G.aP (rK U1 U3)) (ua (n:=2) Z' (qg (qh 0) (qg (qh 1) sP))) rk (pL v0 (pF (pW U1))))))))))),?_⟩)
 rintro ds M Q ⟨r,es,rfl,hr,hl,q⟩
 have hz:=dH;refine⟨oP Z',λp1 XZ=>?_⟩;dsimp only[qV];refine⟨oP Z',λp2 Xe=>?_⟩;dsimp only[qV];refine⟨oP Z',λp3 Yx=>?_⟩;dsimp only[qV];refine λp4 hp4=>?_;have b0:wg M (o9 (o9 (o9 (o9 M p1 (.lst [])) p2 (.lst [])) p3 (.lst [])) p4 (.dk [])) (sE []) p1 p2 p3 p4:=by have t1:=qu.new (c:=.lst []) XZ;have t2:=qu.new (c:=.lst []) Xe;have t3:=qu.new (c:=.lst []) Yx;have t4:=qu.new (c:=.dk []) hp4;have l1:=t2.lst (pj (M:=M) (p:=p1) (ds:=[]));have l2:=t3.lst (pj (M:=o9 M p1 (.lst [])) (p:=p2) (ds:=[]));exact⟨t1.trans (t2.trans (t3.trans t4)),XZ,t1.none Xe,(t1.trans t2).none Yx,(t1.trans (t2.trans t3)).none hp4,t4.lst (t3.lst l1),t4.lst l2,t4.lst pj,Bu,Io (pP pj) Xe,Io (pP l1) Yx,Io (pP pj) Yx⟩
 generalize o9 (o9 (o9 (o9 M p1 (.lst [])) p2 (.lst [])) p3 (.lst [])) p4 (.dk [])=M0 at b0 ⊢;dsimp only[qV];refine i' (b0.s.lst hr) ?_;clear XZ Xe Yx hp4;refine uY (es.map Ev.d) (λpre U M'=>∃p2 p3 y5 y6,wg M M' (sE (es.take pre.length)) p1 p2 p3 p4/\U=[ga (.ref r),ga (.ref p1),ga (.ref p2),ga (.ref p3),ga (.ref p4),y5,y6]) (λ_ _ M' j=>by obtain⟨_,_,_,_,b,_⟩:=j;exact b.s.lst hr) _ [] _ _ Z' ⟨p2,p3,Fa,Fa,b0,Z'⟩ ?_ ?_
 .clear b0
  rintro pre d post e U M' ⟨p2,p3,y5,y6,b,rfl⟩ nx Xf
  obtain⟨ev,he,rfl⟩:=uP (show(es.map Ev.d)[pre.length]?=ga d by rw[<-e];simp);have lt:=(cV.mp he).1;have bs:=vq es pre.length (by lia);rw[cU,dE,Ji he]at Xf;generalize sE (es.take pre.length)=B at b bs Xf;have hu:=bs.un;have hc:=bs.ct;cases ev with
  | leg v=>refine⟨eC Option.isSome b.l1,i' b.l1 ⟨by rw[cR,bs.rs];lia,?_⟩⟩;have b1:=b.put1 (v.f,v.g,v.y);refine⟨eC Option.isSome b1.l2,i' b1.l2 ⟨by rw[cR];show B.ow.length<_;rw[bs.ow];lia,?_⟩⟩;have b2:=b1.put2 v.i;refine⟨eC Option.isSome b2.l3,i' b2.l3 ⟨by rw[cR];show B.un.length<_;lia,?_⟩⟩;exact Xf _ _ ⟨p2,p3,_,_,b2.put3 0,Z'⟩
  | talks i ms=>refine⟨oP Z',Z',Z',i' b.l4 ⟨by lia,Xf _ _ ⟨p2,p3,_,_,b.oH _,Z'⟩⟩⟩
  | over i w=>refine⟨oP Z',Z',Z',i' b.l4 ⟨by lia,Xf _ _ ⟨p2,p3,_,_,b.oH _,Z'⟩⟩⟩
  | merge i j ms=>
   refine⟨oP Z',Z',Z',i' b.l2 (qP (f:=λd=>match d with|.int o=>if o=(i:Nat)then .int (j:Nat)else .int o|d=>d) b.l2 _ [] _ (by rw[cR,bs.ow];simp only[dB];lia) (λd hd k hk=>?_) λp hp=>?_)⟩
   .obtain⟨o,_,rfl⟩:=dw.mp hd;by_cases z:o=i
    .have hk:k (if ((o:Nat):Int)=(i:Nat)then .int (j:Nat)else .int (o:Nat)) M':=hk;rw[cX (by rw[z])]at hk;exact yj (dI (by rw[z])) hk
    .have hk:k (if ((o:Nat):Int)=(i:Nat)then .int (j:Nat)else .int (o:Nat)) M':=hk;rw[cW (by lia)]at hk;exact De (dZ (by lia)) hk
   .have e1:[]++(B.ow.map C7).map (λd=>match d with|.int o=>if o=(i:Nat)then .int (j:Nat)else .int o|d=>d)=(B.ow.map λo=>if o=i then j else o).map C7:=by
     rw[dX,dU,dU];refine fK λo _=>?_;show(if ((o:Nat):Int)=(i:Nat)then D.int (j:Nat)else .int (o:Nat))=C7 (if o=i then j else o);by_cases z:o=i
     .rw[cX z,cX (by rw[z])];rfl
     .rw[cW z,cW (by lia)];rfl
    rw[e1];exact Xf _ _ ⟨p,p3,_,_,b.new2 hp _,Z'⟩
  | turn=>
   refine⟨oP Z',Z',Z',i' b.l2 (i' b.l3 ?_)⟩;have zl:(vf (B.ow.map C7) (B.un.map D.int)).length=B.un.length:=by rw[L3.vw,cR,cR,bs.ow,fW]
   refine wO (vf (B.ow.map C7) (B.un.map D.int)) (λpre acc U W9=>M'=W9/\acc=((List.zipWith (yo B.ct) B.ow B.un).take pre.length).map D.int/\∃y0 y1,U=[y0,y1,ga (.ref p4)]) (λ_ _ _ M' j=>by rw[<-j.1];exact⟨b.l2,b.l3⟩) _ [] [] _ _ Z' ?_ ⟨Z',Z',Fa,Fa,Z'⟩ ?_ ?_
   .rw[zl];simp only[dB];lia
   .rintro pre d post e acc U _ ⟨rfl,ha,y0,y1,rfl⟩ k hk
    obtain⟨_,_,e1,e2,rfl⟩:=Bt e;obtain⟨o,ex,rfl⟩:=uP e1;obtain⟨u,ey,rfl⟩:=uP e2;rw[cU,dE,EW _ ex ey,dF]at hk;refine⟨Z',?_⟩;dsimp only[qV,xA,Cj];refine⟨eC Option.isSome b.l4,?_⟩;show Option.elim (xm M' p4) False _;refine i' b.l4 ?_;have hb:(sR B.ct (.inl (o:Nat))).getD (.bl pc)=.bl (Gv B.ct o):=bs.bl o;have Zg:k _ (.int (yo B.ct o u)) M':=hk _ _ _ ⟨Z',by rw[ha];rfl,ga (C7 o),ga (.int u),Z'⟩;unfold yo at Zg;rw[hb];by_cases c:Gv B.ct o=Db
    .rw[cX c]at Zg;exact yj c Zg
    .rw[cW c]at Zg;exact De (dC.mpr c) Zg
   .rintro acc U _ ⟨rfl,ha,y0,y1,rfl⟩ p hp
    rw[zl,e9 (by rw[fU,bs.ow,fW];lia)]at ha;rw[ha];exact Xf _ _ ⟨p2,p,_,_,b.new3 hp _,Z'⟩
  | sw o i=>cases o<;>exact⟨oP Z',Z',Z',Xf _ _ ⟨p2,p3,_,_,b,Z'⟩⟩
  | _=>exact⟨oP Z',Z',Z',Xf _ _ ⟨p2,p3,_,_,b,Z'⟩⟩
 .rintro U M' ⟨p2,p3,y5,y6,b,rfl⟩
  have bs:=vq es es.length (cZ _);rw[cR,e9 (cZ _)]at b;rw[e9 (cZ _)]at bs;generalize sE es=B at b bs q;have hu:=bs.un;refine i' b.l1 (i' b.l3 ?_);have zl:(vf (B.rs.map NB) (B.un.map D.int)).length=B.un.length:=by rw[L3.vw,cR,cR,bs.rs,fW]
  refine wO (vf (B.rs.map NB) (B.un.map D.int)) (λpre acc U W9=>M'=W9/\acc=(sL B).take pre.length/\∃y0 y1,U=[y0,y1]) (λ_ _ _ M' j=>by rw[<-j.1];exact⟨b.l1,b.l3⟩) _ [] [] _ _ Z' ?_ ⟨Z',Z',Fa,Fa,Z'⟩ ?_ ?_
  .rw[zl];simp only[dB];lia
  .rintro pre d post e acc U _ ⟨rfl,ha,y0,y1,rfl⟩ k hk
   obtain⟨_,_,e1,e2,rfl⟩:=Bt e;obtain⟨x,ex,rfl⟩:=uP e1;obtain⟨u,ey,rfl⟩:=uP e2;rw[cU,dE,show(sL B).take (pre.length+1)=(sL B).take pre.length++[Ao x u]from EW _ ex ey]at hk;refine⟨Z',?_⟩;dsimp only[qV,xA,Cj];exact⟨oP Z',by simp,by simp[hz],hk _ _ _ ⟨Z',by rw[ha];rfl,_,_,Z'⟩⟩
  .rintro acc U _ ⟨rfl,ha,y0,y1,rfl⟩ p hp
   rw[zl,e9 (by unfold sL;rw[fU,bs.rs,fW];lia)]at ha;rw[ha];exact⟨_,.refl,q p _ (b.s.trans (.new hp)) (b.s.none hp) pj⟩
structure AQ(B B':Bl)(t:Nat):Prop where
 rs:∃r,B'.rs=B.rs++r
 un:∀(i:Nat) u,B.un[i]?=ga u->∃u',B'.un[i]?=ga u'/\u<=u'/\u'<=u+(t:Nat)
noncomputable def wN:Ev->Bool
 | .turn=>Db
 | _=>pc
def AQ.refl(B:Bl):AQ B B 0:=⟨⟨[],(eD _).symm⟩,λi u h=>⟨u,h,iZ _,by lia⟩⟩
def AQ.trans{s t:Nat}(h:AQ B B1 s)(g:AQ B1 B2 t):AQ B B2 (s+t):=by obtain⟨r,hr⟩:=h.rs;obtain⟨r2,YZ⟩:=g.rs;refine⟨⟨r++r2,by rw[YZ,hr,eN]⟩,λi u e=>?_⟩;obtain⟨u1,e1,a1,b1⟩:=h.un i u e;obtain⟨u2,e2,a2,b2⟩:=g.un i u1 e1;exact⟨u2,e2,by lia,by lia⟩
def Km(e:Ev)(h:Mb B n):AQ B (ur B e) (if wN e=Db then 1 else 0):=by
 cases e with
 | turn=>
  refine⟨⟨[],(eD _).symm⟩,λi u e=>?_⟩;have lt:=(cV.mp e).1;refine⟨yo B.ct (B.ow[i]'(by rw[h.ow];exact lt)) u,?_,?_⟩
  .show(List.zipWith _ B.ow B.un)[i]?=_;rw[gB,e,cT (by rw[h.ow];exact lt)]
  .unfold yo;show _/\_<=u+((1:Nat):Int);split<;>lia
 | leg v=>refine⟨⟨_,Z'⟩,λi u e=>⟨u,?_,iZ _,by lia⟩⟩;show(B.un++[0])[i]?=_;rw[eF (cV.mp e).1];exact e
 | _=>exact⟨⟨[],(eD _).symm⟩,λi u e=>⟨u,e,iZ _,by lia⟩⟩
theorem Cr:∀(es:T0 Ev) {B:Bl} {n:Nat},Mb B n->AQ B (es.foldl ur B) (es.filter wN).length
 | [],B,_,_=>.refl B
 | e::r,B,n,h=>by
  have g:=(Km e h).trans (Cr r (Jc (e:=e) h));have z:(if wN e=Db then 1 else 0)+(r.filter wN).length=((e::r).filter wN).length:=by
   rw[gv];split
   .exact lW ..
   .exact kI _
  rw[z]at g;exact g
def FQ{k:Nat}{d:D}(h:(sL B)[k]?=ga d):∃x u,B.rs[k]?=ga x/\B.un[k]?=ga u/\d=Ao x u:=by
 unfold sL at h;rw[gB]at h;split at h
 .rename_i e1 e2;exact⟨_,_,e1,e2,(de h).symm⟩
 .cases h
def AQ.len{t:Nat}(g:AQ B B' t):B.un.length<=B'.un.length:=by
 cases e:B.un.length with
 | zero=>exact eK _
 | succ n=>obtain⟨u',h,_⟩:=g.un n _ (cT (by lia));exact(cV.mp h).1
def zq(h:Mb B n):(sL B).length=B.un.length:=by unfold sL;rw[fU,h.rs,fW]
def Ly:qY:=λds M Q=>EL λp q (B:Bl) (B':Bl) (t:Nat)=>ds=[.ref p,.ref q,.int (t:Nat)]/\nU M p=ga (sL B)/\nU M q=ga (sL B')/\AQ B B' t/\(∃n m,Mb B n/\Mb B' m/\m<=8000000)/\Q (.bl Db) M
def MW:Fq P w K mg base 1 a.bz Ly:=by
 refine fq G.bz.toDG wM (λr u=>⟨_,(oR (pH (pk u (pG qb Z' G.g pZ (pW v0)) (pG qb Z' G.g pZ (pW U1)))
 (oS (oY wb))
 pB)
 (oR (uh eR Z' (Bf Z' G.aP (rK v0 U1)) (ua (n:=2) Z' (qg (rN 3 wM) (qg (rN 4 wM) sP)))
 (oS (pH (W3.b3 (yl (pk u (qK U3 rE (rc oV)) (qK v4 rE (rc oV))) (xF (wB (Co u (pA U3 oV) (pA v4 oV) (pL (pA U3 oV) U2))))))
 (oS (oY wb))
 pB)))
 (oS (oY wb)))),?_⟩)
 .rintro ds M Q ⟨p,q1,B,B',t,rfl,h1,h2,g,⟨n,m,b1,b2,hm⟩,q⟩
  have gl:=g.len;refine i' h1 (i' h2 (De (dZ (by rw[zq b1,zq b2];lia)) ?_));refine i' h1 (i' h2 ?_);refine uY (vf (sL B) (sL B')) (λpre U M'=>M=M'/\∃y3 y4,U=[ga (.ref p),ga (.ref q1),ga (.int (t:Nat)),y3,y4]) (λ_ _ _ j=>by rw[<-j.1];exact⟨h1,h2⟩) _ [] _ _ Z' ⟨Z',Fa,Fa,Z'⟩ ?_ ?_
  .rintro pre d post e U _ ⟨rfl,y3,y4,rfl⟩ nx Xf
   obtain⟨_,_,e1,e2,rfl⟩:=Bt e;obtain⟨x,u,f1,f2,rfl⟩:=FQ e1;obtain⟨x',u',f3,f4,rfl⟩:=FQ e2;obtain⟨u2,f5,a1,a2⟩:=g.un _ _ f2;rw[f4]at f5;cases f5;obtain⟨r,hr⟩:=g.rs;have f6:B'.rs[pre.length]?=ga x:=by rw[hr,eF (cV.mp f1).1];exact f1
   rw[f3]at f6;cases f6;refine⟨Z',?_⟩;dsimp only[qV,xA,Cj];refine De (by rw[eU,eU,eU];rfl) ?_;refine yj (dI a1) ?_;refine De (by rw[dI a2];rfl) (Xf _ _ ⟨Z',_,_,Z'⟩)
  .rintro U _ ⟨rfl,y3,y4,rfl⟩
   exact⟨M,.refl,q⟩
seal L3.E3 L3.B3 L3.A3 L3.S3 L3.G'
def La:qY:=λds M Q=>∃ns:T0 Int,ds=[.rl (ns.map D.int)]/\ns.length<=63/\Q (.bl Db) M
theorem QV:∀(es:T0 Ev) (B:Bl),(∀x∈es,x≠.turn)->∃n,(es.foldl ur B).un=B.un++List.replicate n 0
 | [],B,_=>⟨0,by simp⟩
 | e::r,B,h=>by
  obtain⟨n,hn⟩:=QV r (ur B e) λx hx=>h x (dz _ hx);show ∃n,(r.foldl ur (ur B e)).un=_;rw[hn];cases e with
  | turn=>exact absurd Z' (h _ dD)
  | leg v=>exact⟨n+1,by show(B.un++[0])++_=_;rw[eN,eh];rfl⟩
  | _=>exact⟨n,Z'⟩
def UW(s:Str):inD (.str s) [.str "talks",.str "held"]=Tn s:=by refine(rX s ["talks","held"]).trans ?_;show(("talks"==s)||(("held"==s)||false))=((s=="talks")||(s=="held"));rw[je,BEq.comm (a:=("talks":Str)),BEq.comm (a:=("held":Str))]
def gI(B:Bl)(o:Nat):Int:=if Gv B.ct o=Db then 1 else 0
def Qf(B:Bl)(o:Nat)(u:Int):yo B.ct o u=u+gI B o:=by
 unfold yo gI;split
 .rfl
 .exact(lY u).symm
def yp(B:Bl):T0 Int:=List.zipWith (yo B.ct) B.ow B.un
def OQ{es:T0 Ev}{x y:Nat}(h:x<=y)(hy:y<=es.length):L3.uf (es.map Ev.d) (ga (x:Nat)) (ga (y:Nat))=((es.drop x).take (y - x)).map Ev.d:=by unfold L3.uf;rw[HT.zw,HT.zw,cR,im hy,im (dS h hy),<-jg,<-iE]
def EM{ds:T0 D}{y:Nat}(hy:y<=ds.length):L3.uf ds Fa (ga (y:Nat))=ds.take y:=by unfold L3.uf;rw[HT.zB,HT.zw,iW,jz,im hy]
def OF(M:Mp)(e:Ev):yA M 9 e.d (.tup [.str "turn"])=ga (wN e):=by
 cases e with
 | sw b i=>cases b<;>rfl
 | _=>rfl
def Ll{es:T0 Ev}{x y:Nat}(h:x<=y)(hy:y<=es.length):AQ (sE (es.take x)) (sE (es.take y)) (((es.drop x).take (y - x)).filter wN).length:=by
 have e:es.take y=es.take x++(es.drop x).take (y - x):=by rw[<-List.take_add,Nat.add_sub_cancel' h]
 rw[e,zI];exact Cr _ (vq es x (dS h hy))
def Q2:Fq P w K mg base 17 a.ah La:=by
 refine fq G.ah.toDG uT (λr u=>⟨_,(oR (pC 1 uT (pz (J5 G) r G.bx (rK v0 (pz (MS G) r G.bn (rK v0 oV)))))
 (oR (pC 2 uT (qa sf Z' G.r sd (pW (oZ U1))))
 (oR (pC 3 uT (pL (pG Kt Z' G.cB JY (pW (qv Z' (xc (ix:=[Fa,ga 0,ga 2]) (N':=["_law_k","_law_script","_law_log"])) (ut Z' G.L (pW oV)) (qh 0) rk (pz (qw G) r G.i (ra (pz (GJ G) r G.H (rK U1 v0)) oV (pL (pG qb Z' G.g pZ (pW U2)) oV)))))) (qD (pW (pG qb Z' G.g pZ (pW U2))))))
 (oR (uh eR Z' (ut Z' G.L (pW oV)) (rN 4 uT)
 (oR (pC 5 uT (qK U2 (rc (pA U3 v4)) (rc (pA U3 (pL v4 oV)))))
 (oR (pC 6 uT (pG qb Z' G.g pZ (pW (qv Z' (xc (ix:=[Fa]) (N':=["_law_event"])) (qy v5) (qh 0) (uW (pk u v0 (pF (pW oW)))) v0))))
 (oS (pH (wB (uM (pz (MW G) r G.bz (ra (pz (ze G) r G.N (pW (qK U2 rE (rc (pA U3 v4))))) (pz (ze G) r G.N (pW (qK U2 rE (rc (pA U3 (pL v4 oV)))))) v6))))
 (oS (oY wb))
 pB)))))
 (oR (pC 7 uT (pz (ze G) r G.N (pW U2)))
 (oR (sY (i:=8) uT.nd Z' (Or.inl Z') Z' (xc (ix:=[Fa,ga 1]) (N':=["_law_leg","_law_board"])) (qy (oZ U1)) (qh 0) rk (qa SA Z' G.cC Su (pW (pX u (oZ (pA (oZ U1) (pA v0 oV))) (pF (rK oW oW))))))
 (oR (pD (KU (QA G) (r.mono (by first|decide|lia)) Z' G.E.mg G.E.toDG.kp G.E.b Qh VB (rK U1 (pF (pW oW)))))
 (oR (pC 9 uT (pz (ze G) r G.N (pW (oZ U1))))
 (oR (sY (i:=10) uT.nd Z' (Or.inl Z') Z' (xc (ix:=[Fa,Fa]) (N':=["_law_row","_law_one"])) (Bf Z' G.aP (rK v7 v8)) (ua (n:=2) Z' (qg (qh 0) (qg (qh 1) sP))) rk (pL (qK v0 rE (rc oV)) (pF (pW (pL (pA v0 oV) U1)))))
 (oS (oY (sN (pX u (pG qb Z' G.g pZ (pW v9)) (pG qb Z' G.g pZ (pW Wg))) (sm (pX u (qK v9 rE (rc (pG qb Z' G.g pZ (pW Wg)))) Wg)))))))))))))),?_⟩)
 rintro ds M Q ⟨ns,rfl,hns,q⟩
 have hz:=dH;have ok:qR (CK ns 4):=OZ (by decide) (by decide);refine⟨ns,4,Z',by decide,by decide,λr1 r2 r3 M1 s1 h1 h2 h3=>?_⟩;generalize CK ns 4=l at h1 h2 h3 ok;refine⟨ns,r1,r2,r3,l,Z',h1,h2,h3,ok,λM0 M2 A V s2 g=>?_⟩;have s0:=s1.trans s2;have sM:=s0.trans g.cu.s0;clear s1 s2 h1 h2 h3;dsimp only[qV];refine oU g.cu.bd.at_ (i' Z' (i' g.cu.bd.lo λpg hpg=>?_));obtain⟨M3,e0,t1,lg⟩:=ub (ds:=V.log.map Ev.d) hpg;rw[<-e0];have g:=g.sub t1;have sM:=sM.trans t1;clear t1 hpg;dsimp only[qV];have hlo:=g.cu.sz.lo;refine Tp (t:=Ep _ _) (λU M'=>qu M3 M'/\∃pp,∃i j:Nat,i<=j/\j<=V.log.length/\nU M' pp=ga [.int (i:Nat),.int (j:Nat),.int (V.log.length:Nat)]/\U=[ga (.rl (ns.map D.int)),ga (.ref A.b),ga (.ref pg),ga (.ref pp),Fa,Fa,Fa,Fa,Fa,Fa,Fa]) (λnx h=>?_) ?_
 .refine⟨Z',⟨by decide,by decide⟩,?_⟩;refine qP (f:=λd=>match d with|.int k=>.int (qd (cell ns k) 69621 (((V.log.map Ev.d).length:Nat)+1))|d=>d) trivial _ [] _ (by show 0+2<=Uf;lia) (λd hd k hk=>?_) λp1 XZ=>?_
  .obtain⟨x,_,rfl⟩:=dw.mp hd;exact⟨ns,0+(x:Int),Z',i' lg ⟨_,_,_,Z',by lia,hk⟩⟩
  .have ex:[]++List.map (λd=>match d with|.int k=>.int (qd (cell ns k) 69621 (((V.log.map Ev.d).length:Nat)+1))|d=>d) ((List.range (Int.toNat 2)).map λi=>D.int (0+(i:Nat)))=[qd (cell ns 0) 69621 (((V.log.map Ev.d).length:Nat)+1),qd (cell ns 1) 69621 (((V.log.map Ev.d).length:Nat)+1)].map D.int:=rfl;rw[ex];obtain⟨N,e0,t1,l1⟩:=ub (ds:=[qd (cell ns 0) 69621 (((V.log.map Ev.d).length:Nat)+1),qd (cell ns 1) 69621 (((V.log.map Ev.d).length:Nat)+1)].map D.int) XZ;rw[<-e0];refine⟨[qd (cell ns 0) 69621 (((V.log.map Ev.d).length:Nat)+1),qd (cell ns 1) 69621 (((V.log.map Ev.d).length:Nat)+1)],l1,by show 2<64;decide,λms p2 Xe pm pw=>?_⟩;have hm:∀x∈ms,∃i:Nat,x=(i:Int)/\i<=V.log.length:=λx hx=>by
    have:∃k,x=qd (cell ns k) 69621 (((V.log.map Ev.d).length:Nat)+1):=by
     rcases dg.mp (pm.mem_iff.mp hx)with z|z
     .exact⟨_,z⟩
     .exact⟨_,c9.mp z⟩
    obtain⟨k,rfl⟩:=this;have h0:=qG (c:=cell ns k) (f:=69621) (m:=((V.log.map Ev.d).length:Nat)+1) (by lia);have h1:=qA (c:=cell ns k) (f:=69621) (m:=((V.log.map Ev.d).length:Nat)+1) (by lia);rw[cR]at h0 h1 ⊢;exact⟨(qd (cell ns k) 69621 ((V.log.length:Nat)+1)).toNat,by lia,by lia⟩
   obtain⟨x,y,rfl⟩:∃x y,ms=[x,y]:=by
    have:=pm.length_eq
    match ms,this with
    | [x,y],_=>exact⟨x,y,Z'⟩
   obtain⟨i,rfl,hi⟩:=hm x dD;obtain⟨j,rfl,hj⟩:=hm y (dz _ dD);have hij:(i:Int)<=(j:Nat):=(List.pairwise_cons.mp pw).1 _ dD;have t2:=t1.trans (.new (c:=.lst ([(i:Int),(j:Int)].map D.int)) Xe);have l2:=@pj N p2 ([(i:Int),(j:Int)].map D.int);generalize o9 N p2 (.lst ([(i:Int),(j:Int)].map D.int))=M5 at t2 l2 ⊢;refine i' (t2.lst lg) ⟨oP Z',λp3 Yx=>?_⟩;have t3:=qu.new (c:=.lst [.int ((V.log.map Ev.d).length:Nat)]) Yx;refine i' (t3.lst l2) (i' pj ⟨by show 3<=Uf;lia,λp4 hp4=>h _ _ ⟨t2.trans (t3.trans (.new hp4)),p4,i,j,by lia,hj,?_,Z'⟩⟩);rw[pj,cR];rfl
 .rintro U M4 ⟨s4,pp,i,j,hij,hj,lp,rfl⟩
  have lg:=s4.lst lg;have g:=g.sub s4;have sM:=sM.trans s4;clear s4;refine Tp (t:=TQ _ _ _) (λU M'=>qu M4 M'/\∃y4 y5 y6,U=[ga (.rl (ns.map D.int)),ga (.ref A.b),ga (.ref pg),ga (.ref pp),y4,y5,y6,Fa,Fa,Fa,Fa]) (λnx0 hn0=>?_) ?_
  .refine⟨Z',⟨by decide,by decide⟩,?_⟩;refine uY ((List.range 2).map λn=>D.int (0+(n:Nat))) (λpre U M'=>qu M4 M'/\∃y4 y5 y6,U=[ga (.rl (ns.map D.int)),ga (.ref A.b),ga (.ref pg),ga (.ref pp),y4,y5,y6,Fa,Fa,Fa,Fa]) (λ_ _ _ _=>trivial) _ [] _ _ Z' ⟨.refl,Fa,Fa,Fa,Z'⟩ ?_ (λU M' j=>hn0 _ _ j)
   rintro pre d post e U M5 ⟨s5,y4,y5,y6,rfl⟩ nx Xf
   obtain⟨k,hk,rfl⟩:=uP (show((List.range 2).map λn=>D.int (0+(n:Nat)))[pre.length]?=ga d by rw[<-e];simp);obtain⟨x,y,hxy,hy,ax,ay⟩:∃x y:Nat,x<=y/\y<=V.log.length/\vR [D.int (i:Nat),.int (j:Nat),.int (V.log.length:Nat)] (0+(k:Nat))=ga (.int (x:Nat))/\vR [D.int (i:Nat),.int (j:Nat),.int (V.log.length:Nat)] (0+(k:Nat)+1)=ga (.int (y:Nat)):=by
    have:k=0\/k=1:=by have:=gc.mp (eZ hk);lia
    rcases this with rfl|rfl
    .exact⟨i,j,hij,hj,Z',Z'⟩
    .exact⟨j,V.log.length,hj,cZ _,Z',Z'⟩
   clear hk e;dsimp only[qV];have lg5:=s5.lst lg;have lp5:=s5.lst lp;refine i' lp5 (i' ax (i' lp5 (i' ay (i' lg5 λpb hpb=>?_))));rw[OQ hxy hy];obtain⟨M6,e0,t6,lb⟩:=ub (ds:=((V.log.drop x).take (y - x)).map Ev.d) hpb;rw[<-e0];have mg:=Ll (es:=V.log) hxy hy;have lbl:((V.log.drop x).take (y - x)).length<=V.log.length:=by rw[fg,fZ];lia
   generalize (V.log.drop x).take (y - x)=bs at lb mg lbl;dsimp only[qV];refine i' lb (wj (bs.map Ev.d) (λpre acc U M'=>M6=M'/\acc.length=((bs.take pre.length).filter wN).length/\∃y,U=[y]) (λ_ _ _ M' j=>by rw[<-j.1];exact lb) _ [] [] _ _ Z' ?_ ⟨Z',Z',Fa,Z'⟩ ?_ ?_)
   .rw[cR];simp only[dB];lia
   .rintro pre d post e acc U _ ⟨rfl,ha,y0,rfl⟩ k k2 hk YD
    obtain⟨ev,he,rfl⟩:=uP (show(bs.map Ev.d)[pre.length]?=ga d by rw[<-e];simp);rw[cU,dE,fH,he,Option.toList_some,iz]at hk YD;refine⟨oP Z',i' (OF M6 ev) ?_⟩;refine qx (c:=wN ev) (λg=>?_) (λg=>?_)
    .refine hk _ _ _ ⟨Z',?_,_,Z'⟩;rw[cU,cU,ha,gS (by exact g)];rfl
    .refine YD _ _ ⟨Z',?_,_,Z'⟩;rw[cU,ha,gT (by exact g)];rfl
   .rintro acc U _ ⟨rfl,ha,y0,rfl⟩ pt hpt
    rw[cR,fh]at ha;have t7:=s5.trans (t6.trans (.new (c:=.lst acc) hpt));refine i' pj ?_;rw[ha];generalize o9 M6 pt (.lst acc)=M7 at t7 ⊢;dsimp only[qV];refine i' (t7.lst lp) (i' ax (i' (t7.lst lg) λp1 XZ=>?_));rw[EM (by rw[cR];lia),<-iE];have u1:=t7.trans (.new (c:=.lst ((V.log.take x).map Ev.d)) XZ);have l1:=@pj M7 p1 ((V.log.take x).map Ev.d);generalize o9 M7 p1 (.lst ((V.log.take x).map Ev.d))=M8 at u1 l1 ⊢;refine⟨p1,V.log.take x,Z',l1,by rw[fg];lia,λq1 M9 s9 X0 lq1=>?_⟩;have u2:=u1.trans s9;refine i' (u2.lst lp) (i' ay (i' (u2.lst lg) λp2 Xe=>?_));rw[EM (by rw[cR];lia),<-iE];obtain⟨M10,e0,v3,l2⟩:=ub (ds:=(V.log.take y).map Ev.d) Xe;rw[<-e0];refine⟨p2,V.log.take y,Z',l2,by rw[fg];lia,λq2 M11 s11 YK lq2=>⟨q1,q2,_,_,_,Z',(v3.trans s11).lst lq1,lq2,mg,⟨x,y,vq V.log x (by lia),vq V.log y hy,by lia⟩,Ow (Xf _ _ ⟨u2.trans (v3.trans s11),_,_,_,Z'⟩)⟩⟩
  .rintro U M5 ⟨s5,y4,y5,y6,rfl⟩
   have lg:=s5.lst lg;have g:=g.sub s5;have sM:=sM.trans s5;clear s5 lp hij hj;refine⟨pg,V.log,Z',lg,by lia,λpa M6 s6 hpa la=>?_⟩;have na:=g.cu.bd.nC hpa;have g:=g.sub s6;have sM:=sM.trans s6;clear s6 hpa lg;have bl:=g.bl;have bs:=vq V.log V.log.length (cZ _);rw[fh]at bs;generalize hB:sE V.log=B at bl la bs;have Z3:=g.cu.sz.le;dsimp only[qV];refine oU g.cu.bd.at_ (i' Z' (i' g.cu.bd.le ?_));refine wO (V.mC.map rh.d) (λpre acc U M'=>M6=M'/\acc=((B.ow.map (gI B)).take pre.length).map D.int/\∃y,U=[y,ga (.ref A.b)]) (λ_ _ _ M' j=>by rw[<-j.1];exact g.cu.bd.le) _ [] [] _ _ Z' ?_ ⟨Z',Z',Fa,Z'⟩ ?_ ?_
   .rw[cR];simp only[dB];lia
   .rintro pre d post e acc U _ ⟨rfl,ha,y0,rfl⟩ k hk
    obtain⟨v,ev,rfl⟩:=uP (show(V.mC.map rh.d)[pre.length]?=ga d by rw[<-e];simp);have ho:B.ow[pre.length]?=ga v.i:=by rw[bl.ow,dq,ev];rfl
    obtain⟨c,hc⟩:∃c,V.calls[v.i]?=ga c:=by
     cases e:V.calls[v.i]? with
     | none=>exact absurd (by unfold rF;rw[e];rfl) (bl.ix v (eZ ev))
     | some c=>exact⟨c,Z'⟩
    have hci:=(cV.mp hc).1;obtain⟨ka,hka⟩:∃k,A.cs[v.i]?=ga k:=⟨_,cT (by rw[g.cu.bd.len];exact hci)⟩;obtain⟨ad,md,f1,_⟩:=g.cu.bd.cs v.i ka c hka hc;have hi:inD (.str c.st) [.str "talks",.str "held"]=Gv B.ct v.i:=by rw[bl.ct v.i (.inl (eZ ho)),B8 hc];exact UW c.st
    refine oU g.cu.bd.at_ (i' Z' (i' g.cu.bd.ca (i' (qX hka) (oU f1 (i' Z' ⟨oP Z',Z',Z',?_⟩)))));rw[hi];refine hk _ _ _ ⟨Z',?_,_,Z'⟩;rw[cU,dE,fH,dq,ho,dF,ha];rfl
   .rintro acc U _ ⟨rfl,ha,y0,rfl⟩ pq hpq
    rw[cR,e9 (by rw[cR,bl.ow,cR];exact cZ _)]at ha;subst ha;have nq:=g.cu.bd.nC hpq;obtain⟨M7,e0,t7,lq⟩:=ub (ds:=(B.ow.map (gI B)).map D.int) hpq;rw[<-e0];have la:=t7.lst la;have g:=g.sub t7;have sM:=sM.trans t7;clear t7 hpq;dsimp only[qV];refine⟨oP Z',M0,A.b,A,V,l,64,200000,.turn,Z',g.cu,by lia,by lia,g.wf,trivial,λhr M8 A3 r c3 XF YL=>?_,λw hw=>by cases hw⟩;have t8:=qu.new (c:=.lst ((tS l V .turn).map Ev.d)) YL;have cu:=c3.sub t8;have la:=t8.lst (sy (XF.1 _ _ na (pP la)));have lq:=t8.lst (sy (XF.1 _ _ nq (pP lq)));obtain⟨rx,hrx⟩:∃r,(sE (qr V (tS l V .turn)).log).rs=B.rs++r:=by rw[zD,zI,hB];exact(Cr _ bs).rs
    obtain⟨n,hun⟩:∃n,(sE (qr V (tS l V .turn)).log).un=yp B++List.replicate n 0:=by rw[zD,zI,hB];exact QV (qH l _ _) (ur B .turn) λx hx y=>by have:=GM _ _ x hx;rw[y]at this;exact this
    have b2:=vq (qr V (tS l V .turn)).log _ (cZ _);rw[fh]at b2;generalize o9 M8 r (.lst ((tS l V .turn).map Ev.d))=M9 at cu la lq ⊢;generalize qr V (tS l V .turn)=V2 at cu hrx hun b2;have lo2:=cu.sz.lo;refine oU cu.at_ (i' Z' ⟨A3.lo,V2.log,Z',cu.bd.lo,by lia,λpb M10 s10 hpb lb=>?_⟩);generalize sE V2.log=B2 at lb hrx hun b2;have sM:=s0.trans (cu.s0.trans s10);have la:=s10.lst la;have lq:=s10.lst lq;have tl:(yp B).length=B.un.length:=by unfold yp;rw[fU,bs.ow,fW]
    have dl:(List.zipWith Ao B.rs (yp B)).length=B.un.length:=by rw[fU,tl,bs.rs,fW]
    have hu:=bs.un;dsimp only[qV];refine i' la (i' lq ?_);have zl:(vf (sL B) ((B.ow.map (gI B)).map D.int)).length=B.un.length:=by rw[L3.vw,zq bs,cR,cR,bs.ow,fW]
    refine wO (vf (sL B) ((B.ow.map (gI B)).map D.int)) (λpre acc U M'=>M10=M'/\acc=(List.zipWith Ao B.rs (yp B)).take pre.length/\∃y0 y1,U=[y0,y1]) (λ_ _ _ M' j=>by rw[<-j.1];exact⟨la,lq⟩) _ [] [] _ _ Z' ?_ ⟨Z',Z',Fa,Fa,Z'⟩ ?_ ?_
    .rw[zl];simp only[dB];lia
    .rintro pre d post e acc U _ ⟨rfl,ha,y0,y1,rfl⟩ k hk
     obtain⟨_,_,e1,e2,rfl⟩:=Bt e;obtain⟨x,u,f1,f2,rfl⟩:=FQ e1;obtain⟨_,e3,rfl⟩:=uP e2;rw[dq]at e3;cases ho:B.ow[pre.length]? with
     | none=>rw[ho]at e3;cases e3
     | some o=>
      rw[ho]at e3;cases e3;have f3:(yp B)[pre.length]?=ga (u+gI B o):=by unfold yp;rw[gB,ho,f2];exact eC ga (Qf B o u)
      rw[cU,dE,EW _ f1 f3]at hk;refine⟨Z',?_⟩;dsimp only[qV,xA,Cj];exact⟨oP Z',fz _ _,(show 3+1<=Uf by lia),hk _ _ _ ⟨Z',by rw[ha];rfl,_,_,Z'⟩⟩
    .rintro acc U _ ⟨rfl,ha,y0,y1,rfl⟩ pd hpd
     rw[zl,e9 (kE dl)]at ha;subst ha;obtain⟨M11,e0,t11,ld⟩:=ub (ds:=List.zipWith Ao B.rs (yp B)) hpd;rw[<-e0];have lb:=t11.lst lb;have ge:B.un.length<=(sL B2).length:=by rw[zq b2,hun,cU,tl];lia
     dsimp only[qV];refine i' lb (i' ld (yj (dI (by rw[dl];lia)) ?_));refine i' ld (i' lb λps hps=>?_);rw[dl,EM ge,show(sL B2).take B.un.length=List.zipWith Ao B.rs (yp B)from ?_]
     .have t12:=qu.new (c:=.lst (List.zipWith Ao B.rs (yp B))) hps;show Option.elim (yA _ 9 (.ref ps) (.ref pd)) False _;refine i' (Kp pj (t12.lst ld) λd hd=>?_) ⟨M,sM.trans (t11.trans t12),q⟩;obtain⟨k,hk⟩:=List.mem_iff_getElem?.mp hd;rw[gB]at hk;split at hk
      .rw[<-de hk];exact F9 7 _ Z'
      .cases hk
     .unfold sL;rw[List.take_zipWith,hrx,hun,lP bs.rs,lP tl]
end
end Z
end
structure PySem.W.Fast:Prop where(tw9543015449863934621 tw9054155849739487411 tw9009719965854585358 tw8705904643764592053 tw7928911419860118457 tw7397726077163386974 tw6662325792844773793 tw6158904098840990029 tw592030910418599506 tw5837869305711054547 tw5449766200109050795 tw5266056470199736424 tw5109666646782025382 tw5063750214091279117 tw4337674566049973685 tw3982304899046177271 tw2520553765238871915 tw2355104382797788252 tw18373470846102258472 tw18092140595685004465 tw17276408576926540595 tw17038021656232389737 tw16909016792673368306 tw14990467939540428243 tw14729066258482633949 tw14076872124758947166 tw14041312322318601184 tw12496943383402761166 tw11195584876718211333 tw10020684549543017920 tw17905334794124991105 tw15130013904762197059 tw16365034650132760444 tw4021793961048978454 tw16296866557182690020 tw1122058048681982310 tw10180075404702417132 tw6539181547286298652 tw6015603799449273408 tw15170995990827677302 tw16570518951557015082 tw1729985655444917058 tw14861294255119032890 tw3608799480302522107 tw5253581803684938447 tw2176003237229715360 tw15706276334378456332 tw6849102390817081381 tw15057164583257546417 tw10883922388511390214 tw11803222773930215699 tw4510795405601737153 tw9718015716006765273 tw3525065782180864203 tw4269871621861396510 tw11600915575080599611 tw7937487378248848117 tw4080740995683303046 tw15775562618636688557 tw14471679622318463178 tw2945149741095684833 tw4619683333664153378 tw8847608530303010414 tw10952872326175194130 tw10764022179843871416 tw18363757918365490562 tw16536746171173095510 tw11359567095876068537 tw11624178060989809332 tw2879824528968977646 tw14826794899723812251 tw15051399776511821569 tw14914804346805537741 tw4557447377778748651 tw14136799881061423982 tw9529022336018636238 tw8085000882884440451 tw10960435447399486071 tw17343789773806338925 tw15533510128131501547 tw9151507365640829721 tw17184686040819517866 tw14738395408397617534 tw17566438802052609235 tw10788301993722921383 tw3677323968249738493 tw11270189552090210806 tw4954505344399551059 tw3555294929456142163 tw11488676286906585079 tw2942370626295752012 tw2396766466517246892 tw10780128664145313386 tw9140177232813323235 tw11296967870076614643 tw17482721914533237068 tw5606950376253540262 tw4553971813266298789 tw3164528761099986561 tw4645876428467733286 tw615192019113340170 tw7522498647469362424 tw11800137869056650830 tw8216544958183794046 tw4191107076203282386 tw10779118943478147926 tw8768227370584053113 tw4714124198323397327 tw7138778665964109656 tw2464451562754395506 tw10446945013387460094 tw16032069114038383678 tw11863065966529673415 tw6796703576395008482 tw6139518883997228202 tw13851994402423539421 tw18283157070084311362 tw5459358204184481684 tw6397519863805271862 tw5078981566353086056 tw11277242373567837476 tw16297616723999188173 tw13358990236066599220 tw7100143847509593090 tw14224583960632752307 tw5374708615752457612 tw7746676079269935717 tw17203439720713591590 tw2398391028274174367 tw17365079764618406854 tw13265204523343425091 tw14088345655229118761 tw16115677899424912688 tw10618457265821491040 tw9811040661315625064 tw12986012068312590339 tw2259335493991958555 tw11263581851201134692 tw2937282438053074498 tw17786674354083605150 tw10828263251747619461 tw1196133655178215321 tw15947685510155086994 tw14201190334904927228 tw15644202864873254547 tw12754971784478445160 tw10753505093460696633 tw6789674638741921313 tw5392796352007297151 tw14967601797312607259 tw2114126735697264415 tw15115135844420382619 tw11359476737633335544 tw801827102238443321 tw2058093435714419946 tw9380526654370166141 tw16808909694392327943 tw4582111633316829955 tw2465004881060405221 tw5272794363963597693 tw12383322451796551745 tw3048439548504609270 tw5912895833469968903 tw17924606051910195371 tw18319105700026714714 tw7351700748392929348 tw9266152549442332961 tw6733467158651956993 tw900686128227309883 tw7126037124164535613 tw13201472050955930110 tw2322671580581514798 tw2039459981714627156 tw3607925534959987069 tw15192379452997207167 tw12374845004170761258 tw7171259244837783149 tw2482201562583342564 tw3045228952016728095 tw18389719701125344104 tw16382501218364870164 tw1554138052566734786 tw9541049895202188225 tw579613235310025271 tw15404792909040792847 tw2838575583920208224 tw6823256415215066498 tw12924710679504565592 tw13192528790357373837 tw7274702546099615396 tw12602810151699651373 tw1916341776367618071 tw17158556465045519794 tw7953882087814811604 tw1709587871199087281 tw16405340588092887028 tw5109188306123844027 tw8742193194053365081 tw15992036934028437762 tw9330401684669405423 tw7386011107952883753 tw11700587384041018177 tw8310821509649264270 tw3665400416746773105 tw6352299796352372851 tw8519704690772432988 tw16927720369761376937 tw13009802731661352864 tw14270140638381446993 tw13023540594163321067 tw14532669998388330621 tw1254997962357513940 tw14506748424772143614 tw9803327051264161405 tw8825080518243677509 tw792069432407463147 tw8938333796992106748 tw11555175446457530897 tw2455036142159928779 tw16112032066096651239 tw8250359854366095057 tw1359691304061859669 tw13310918773394697047 tw11916895370030370222 tw3311092082039189437 tw13313835129830833750 tw8811423100054005078 tw3289044882660418865 tw10140806485274449638 tw18206506679824234276 tw3775781119129128679 tw17199173107492453645 tw4890836627056641306 tw16457464178936245412 tw1437513136469985004 tw18251101663301739237 tw567055993857297896 tw1811647588156778332 tw4858935814638549371 tw13451409584284967025 tw5028588571652458137 tw12088695408802812427 tw8595697617438525527 tw756559301592979873 tw17633770716075938125 tw2733686653385181840 tw826348677230183539 tw7873408321987171225 tw5007615116528051404 tw2193534578892553324 tw9282719875753044449 tw14665641463880640071 tw6721373218709323846 tw11037867837397174234 tw402764952963048459 tw10918654087452316257 tw405063695354930879 tw12322474324591694733 tw11096916874873527939 tw17487604945375199683 tw2249310240889752309 tw6880693519060701385 tw11368577012594429407 tw15407880954687244569 tw936612051515136717 tw4312774537716240193 tw10496718240488730429 tw16288516537125598905 tw7234331327387706066 tw7618357046138942953 tw1031724938460162418 tw14760275911516291384 tw8054517169494910605 tw9897575329962799653 tw18221500334719357079 tw6144444765074508108 tw1285323295964075755 tw5859402918266856679 tw13589329867274536322 tw16672701209604871919 tw579449815166226956 tw9611944236068157922 tw9263628386093490796 tw18285110191107359367 tw11130212854297352593 tw5544733280300434217 tw3783248898674612892 tw11958905244787595478 tw10286493647498911504 tw7913149846364713380 tw3549891762597543778 tw16228121934584064503 tw2178724198797307200 tw804880251113755292 tw15382662740492974727 tw1747073959606526518 tw11051657685919889754 tw6375801237789519907 tw388800189161830608 tw16080607814956713941 tw10219059988525830613 tw15254209658323022862 tw9858698812617642521 tw13466702874429475668 tw246417305449016111 tw11522008531951267246 tw17498844568478536126 tw5933039761989389835 tw16770922374774207353 tw14807614876183258455 tw10360915757821503370 tw9544805687750338108 tw6448407404991506422 tw6596751916370556461 tw7908171103286431107 tw14771683205659432331 tw892572926895014724 tw8900208692185270968 tw15647016313659186960 tw5273887074205299145 tw13494492704540750722 tw10979127440827993316 tw13609596320209653255 tw11711846343965581379 tw5748263946213186315 tw8318148104728075650 tw6385904903736528340 tw13638410210234863794 tw701262989608227726 tw1546317973310952880 tw13004710491212165343 tw884321015069702501 tw14694572409919931524 tw15509507001284006805 tw12196020005524776050 tw14106693652638776098 tw6346993133857186077 tw12490675921768240234 tw7284792845312653147 tw488581545093692623 tw11871451632655602827 tw7242405729242522207 tw16307071488566285366 tw15210542635720122072 tw10838228685506294790 tw4398955627419565845 tw15041816844156551842 tw5906891682276510457 tw1229833600504849814 tw12634134506643751681 tw6093946337633822791 tw1269344739151344650 tw7408155980132470205 tw11870700047653196437 tw9868995226967278578 tw11851343924290981704 tw626746240493210438 tw5018253157034291691 tw9795179948274170069 tw11839972236846701821 tw3807133304921181939 tw10315924467377097358 tw9807925753785622713 tw9668181183484933474 tw5959731987584623339 tw3898942905486255208 tw5535979631644406076 tw5593609561510514572 tw11407370036334929350 tw10243442477418443944 tw11728735852426423899 tw8394525170008353516 tw8054972676332474439 tw16469219519994311226 tw15611268606841461458 tw11216785475131875922 tw8902091284164738066 tw8800649409908330997 tw5025204911715785596 tw14706043463210703795 tw1025903606468393005 tw2498674076756995907 tw3247289617136396503 tw15939268774881036065 tw15500036098637932773 tw16958518651859931056 tw13724350489871470397 tw12194393410435401594 tw6891556247189987096 tw6335981941633751518 tw9763432530999851758 tw7891014978352917784 tw520828418761805467 tw362125087441433781 tw1915058753619972324 tw1188446436292382423 tw3363946467085396807 tw11291764527611806966 tw8911160793564202180 tw18320577201478335286 tw2546296771515243161 tw15317711128929722518 tw14604239225839289954 tw12869019273347903912 tw9196965688854292236 tw8579691922557770669 tw13495104198378904254 tw8053552588453297092 tw7618244503511813991 tw6413455632801291551 tw2122222014855046718 tw16140960978055887795 tw12818620497572403608 tw11297191161630329351 tw6304172180454840618 tw5315919453441392910 tw10110779374549983576 tw8042267697661466743 tw6302347697418116637 tw3395853884967839494 tw2526259976338932799 tw15599903362041797057 tw9743910708383736063 tw7499608649278881540 tw3874005967129488106 tw12396080985110486282 tw2646298676737687643 tw144592197658537148 tw5031080426745403961 tw13733253875197159201 tw7644012697961520211 tw14003089623509532958 tw8573676838410389992 tw2315554838689481133 tw11699170702061803765 tw13915618056435689714 tw16774229825633420887 tw18221528415030121964 tw1241246897748126301 tw12284235071971235162 tw9880194139761648887 tw13278151820583073427 tw11910480526585423096 tw2874552429535533793 tw13397509201572031021 tw5143474132832199229 tw4543058158746630080 tw18221614937952443322 tw13331602257376200180 tw12963054029799361539 tw12463162634054574855 tw7714496754533207301 tw9336635989464858938 tw8403057103182208071 tw6966653358306595853 tw6929504363254650974 tw5702181045393002301 tw15400768681511742238 tw4947685968843716049 tw14783083861317882376 tw13219145021146030791 tw8072870520945406942 tw16752233337420868522 tw2896687783856422445 tw15343564711717964639 tw16113175438667941722 tw15828844270128729833 tw6922707546948159130 tw3198035613033975785 tw17002319417247880649 tw14651949974636426960 tw11985086390664747690 tw3105356389657007995 tw6838804664097447338 tw8431165994578603922 tw6498790411959584641 tw8129479138122422468 tw17677892545293458687 tw5981603971461465420 tw12727545700380752991 tw12005423700373012987 tw9025236314902884841 tw16253226612258379594 tw1896994396291913055 tw10508239725743318469 tw6123581141315033604 tw11265978738439449878 tw10766125499041302904 tw13086556696756377234 tw9471330244231206035 tw549342295186897753 tw4228354314597483680 tw2091654353426664766 tw16322047643179228711 tw14064536001470818710 tw13517728958306914196 tw11952378165570027067 tw10526942197728392991 tw6871879725306607480 tw5865423017714544300 tw17307920560797500413 tw11996288445363837019 tw4698448336775510537 tw4597117813166790140 tw11684112629384612029 tw17056822796955135855 tw9957628582376544870 tw8549492208195660398 tw8289624337327724405 tw2028206642205270620 tw802138435571428421 tw6858182961433468626 tw15176397239926126942 tw8146815476916775223 tw4054393143121897268 tw12804846621734577730 tw2817445967193781251 tw16051550538978368967 tw15581537694979012991 tw6631308091287408225 tw16539525701974583367 tw16240986091338712930 tw1219197897499128572 tw1374574119260918519 tw15038409513788948607 tw10045338807530502179 tw17729965353094385605 tw15053272931726572424 tw14541183434734702321 tw16537547620644423616 tw13773670759230641889 tw4969236006790174253 tw14866399096691593875 tw350939941417165831 tw6313303202150281192 tw3979681946461711739 tw1586120112531199180 tw718838872830508014 tw6565237079862999011 tw9189526156836060075 tw5425281800882052937 tw13109759013365118111 tw12322774142303700900 tw2022912677091378598 tw16570114642446362238 tw11085670982202823847 tw5874306110825011157 tw2107194372411147713 tw13244113710993017000 tw16434299267587438010 tw11703284097287348659 tw386178739399565031 tw14249310026778426966 tw2103755015057872881 tw18237443425647409670 tw1865169806741143121 tw9374113205528307315 tw11206691227342628020 tw4539323708597382751 tw4964154309043166785 tw14909763182772451445 tw15882560646574523865 tw7502533633170926423 tw7536665373288975064 tw16951456949945409259 tw13528133944470803564 tw12462084708370311436 tw12287767629188793132 tw7942245544640382337 tw691316961152697472 tw6800335780492589294 tw3107400354671738393 tw2819217106460739384 tw2435700280276280715 tw1898282122830936375 tw18088774514010215579 tw13050236812888199136 tw12993037474334389489 tw12345558839414175348 tw14135556182317724616 tw18288237286429081787 tw1793405544615254817 tw1130794157783503389 tw8310990536260666646 tw7507044985499802423 tw5705301825831527662 tw3001503585584054736 tw18314198767973560598 tw12568040998286708736 tw6087504297519296197 tw4869177660144588691 tw3312401650259833746 tw17295209911836405058 tw17286318928510643509 tw14237852415418637696 tw13099320732896151614 tw11450546187435866572 tw11102260596791310305 tw10925757058798629662 tw9297911211461629044 tw15293573559810894027 tw14915605614580996972 tw14537916634732939953 tw7097194935611507771 tw6403335653049058907 tw16684236538055645611 tw10174752975575430835 tw9992367894610635215 tw971370797271777874 tw9259416898904003160 tw8085154179234688158 tw596183144487011639 tw5864351448259086797 tw18367850669556814179 tw1803151148238772506 tw17637790874252656700 tw16556637703298029204 tw14825143260997055830 tw14095708510928267424 tw11658708000376154246 tw11336352461577100088 tw8343937611683063998 tw14410385969726095522 tw13657303406981222668 tw4445620599480878747 tw17845672309517438019 tw17256087185371152429 tw8594376693033281034 tw459997731370780926 tw1952489060721686867 tw3098164514025248673 tw1473616339238323199 tw1908888951545503777 tw10606846580546962052 tw1286302268081901866:True)
open PySem PySem.W PyProof.Rows L2 L3
def xZqN:Option Obj->Option Obj
|some ⟨_,_,.freed,_⟩=>none
|o=>o
def xZqP (h:Heap):List Nat->Nat->List Obj->List (Option Obj)
|[],_,_=>[]
|a::l,i,r=>bif i.ble a then xZqN (r.drop (a-i)).head?::xZqP h l a (r.drop (a-i)) else h.get? a::xZqP h l i r
theorem xZqQ (h:Heap):∀l i r,r=h.objs.toList.drop i->xZqP h l i r=l.map h.get?
|[],_,_,_=>rfl
|a::l,i,r,e=>by
 unfold xZqP;cases z:i.ble a with
 |false=>exact congrArg (h.get? a::·) (xZqQ h l i r e)
 |true=>
  have d:r.drop (a-i)=h.objs.toList.drop a:=by have:=Nat.le_of_ble_eq_true z;rw [e,List.drop_drop];congr 1;omega
  show xZqN (r.drop (a-i)).head?::xZqP h l a (r.drop (a-i))=_;rw [xZqQ h l a _ d,d,List.head?_drop,Array.getElem?_toList];rfl
def xZqH (K:Params->Frag) (as:List Addr) (e:∀P,as=(K P).map (·.1)) (_:Unit):Hook:=⟨_,λs=>xZqP s.heap as 0 s.heap.objs.toList,λw=>(K w.params).map λp=>some p.2,InK K,λw s x=>InK.of e w s ((xZqQ s.heap as 0 s.heap.objs.toList rfl).symm.trans x),InK.keeps⟩
local macro_rules|`(tactic|o_head ($f $k $a $e))=>`(tactic|o_head (xZqH $k $a $e ()))
set_option maxRecDepth 100000 in
set_option maxHeartbeats 0 in
theorem PySem.Challenge.cw_callboard_k56_longer_logs_holds : PySem.Challenge.rw_callboard_k56_longer_logs.Holds := by
 w_on;o_law;k_head;(case hw=>w_witness2)
 k_fill
 refine L3.Lx (l:=PySem.Challenge.rw_callboard_k56_longer_logs) (sp:=Z.La) (k:=17) (x:="_law_script") rfl rfl ⟨rfl,by decide,by decide⟩ (λ_ _ Y=>Y) (λns hl=>⟨ns,rfl,hl,rfl⟩) ?F;case F=>
  intro w mg fa h KX G hmg;suffices h:∃a:Z.Ad,Z.Gl _ mg a/\∀(s:Shared) (u:Value),BindsTo s a.ah.d ⟨[u],[]⟩ [("_law_script",u)]by obtain⟨a,g,hb⟩:=h;have e:=hmg.symm.trans g.ah.mg;cases e;exact⟨a.ah.d,hb,λbase _ _=>g.ah.pe ▸ Z.Q2 g⟩
  refine'⟨⟨_,_,_,_,_,_,_,_,_,_,_,_,_,_,_,_,_,_,_,_,_,_,_,_,_,_,_,_,_,_,_,_,_,_,_,_,_,_,_,_,_,_,_,_,_,_,_,_,_,_,_,_,_,_,_,_,_,_,_,_,_,_,_,_,_,_,_,_,_,_,_,_,_,_,_,_,_,_,_,_,_,_,_,_,_,_,_,_,_,_,_,_,_,_,_,_,_,_,_,_,_,_,_,_,_,_,_,_,_,_,_,_,_,_,_,_,_,_,_,_,_,_,_,_,_,_,_,_,_,_,_,_⟩,⟨vZ KX G ..,vZ KX G ..,vZ KX G ..,vZ KX G ..,vZ KX G ..,vZ KX G ..,vZ KX G ..,vZ KX G ..,vZ KX G ..,vZ KX G ..,vZ KX G ..,vZ KX G ..,vZ KX G ..,PySem.W.mg_of KX G ?_,PySem.W.mg_of KX G ?_,qe KX G ..,qe KX G ..,qe KX G ..,qe KX G ..,qe KX G ..,qe KX G ..,qe KX G ..,qe KX G ..,qe KX G ..,qe KX G ..,qe KX G ..,qe KX G ..,qe KX G ..,qe KX G ..,qe KX G ..,qe KX G ..,qe KX G ..,qe KX G ..,qe KX G ..,qe KX G ..,qe KX G ..,qe KX G ..,qe KX G ..,qe KX G ..,qe KX G ..,qe KX G ..,qe KX G ..,qe KX G ..,qe KX G ..,qe KX G ..,qe KX G ..,qe KX G ..,qe KX G ..,qe KX G ..,qe KX G ..,qe KX G ..,qe KX G ..,qe KX G ..,qe KX G ..,qe KX G ..,qe KX G ..,qe KX G ..,qe KX G ..,qe KX G ..,qe KX G ..,qe KX G ..,qe KX G ..,qe KX G ..,qe KX G ..,qe KX G ..,qe KX G ..,qe KX G ..,qe KX G ..,qe KX G ..,qe KX G ..,qe KX G ..,qe KX G ..,qe KX G ..,qe KX G ..,qe KX G ..,qe KX G ..,pS ..,pS ..,pS ..,pS ..,pS ..,pS ..,pS ..,pS ..,pS ..,pS ..,pS ..,pS ..,pS ..,pS ..,pS ..,pS ..,pS ..,pS ..,pS ..,pS ..,pS ..,pS ..,pS ..,pS ..,pS ..,pS ..,pS ..,pS ..,pS ..,pS ..,pS ..,pS ..,pS ..,pS ..,pS ..,pS ..,pS ..,pS ..,pS ..,pS ..,pS ..,pS ..,pS ..,pS ..,pS ..,pS ..,pS ..,pS ..,pS ..,pS ..,pS ..,pS ..,pS ..,pS ..,pS ..,pS ..,MB ?_ ?_ ?_ ?_ ?_ ?_ ?_ ?_ ?_ ?_,Kz ?_ ?_ ?_,Qu ?_ ?_ ?_ ?_,⟨?_,?_,?_,?_⟩,⟨?_,?_,?_,?_⟩,⟨?_,?_,?_,?_⟩,⟨?_,?_,?_,?_⟩,⟨?_,?_,?_,?_⟩,⟨?_,?_,?_,?_⟩,⟨?_,?_,?_,?_⟩,⟨?_,?_,?_,?_⟩,⟨?_,?_,?_,?_⟩,⟨?_,?_,?_,?_⟩,⟨?_,?_,?_,?_⟩,⟨?_,?_,?_⟩,⟨?_,?_,?_⟩,⟨?_,?_,?_⟩,⟨?_,?_,?_⟩,⟨?_,?_,?_⟩,⟨?_,?_,?_⟩,⟨?_,?_,?_⟩,⟨?_,?_,?_⟩,⟨?_,?_,?_⟩,⟨?_,?_,?_⟩,⟨?_,?_,?_⟩,⟨?_,?_,?_⟩,⟨?_,?_,?_⟩,⟨?_,?_,?_⟩,⟨?_,?_,?_⟩,⟨?_,?_,?_⟩,⟨?_,?_,?_⟩,⟨?_,?_,?_⟩,⟨?_,?_,?_⟩,⟨?_,?_,?_⟩,⟨?_,?_,?_⟩,(pI ?_ (pI ?_ (pI ?_ (pI ?_ (pI ?_ (pI ?_ (pI ?_ (pI ?_ sT)))))))),(pI ?_ (pI ?_ (pI ?_ (pI ?_ (pI ?_ (pI ?_ sT)))))),(pI ?_ (pI ?_ (pI ?_ (pI ?_ (pI ?_ (pI ?_ (pI ?_ (pI ?_ sT)))))))),(pI ?_ (pI ?_ (pI ?_ sT))),(pI ?_ (pI ?_ (pI ?_ sT))),(pI ?_ (pI ?_ (pI ?_ sT))),(pI ?_ (pI ?_ (pI ?_ (pI ?_ (pI ?_ sT))))),(pI ?_ (pI ?_ (pI ?_ sT))),(pI ?_ (pI ?_ (pI ?_ (pI ?_ sT)))),(pI ?_ (pI ?_ sT)),(pI ?_ (pI ?_ sT)),PySem.W.mg_none_of KX G ?_,PySem.W.mg_none_of KX G ?_,PySem.W.mg_none_of KX G ?_,PySem.W.mg_none_of KX G ?_,PySem.W.mg_none_of KX G ?_,PySem.W.mg_none_of KX G ?_,PySem.W.mg_none_of KX G ?_,PySem.W.mg_none_of KX G ?_,PySem.W.mg_none_of KX G ?_,PySem.W.mg_none_of KX G ?_,PySem.W.mg_none_of KX G ?_,PySem.W.mg_none_of KX G ?_,PySem.W.mg_none_of KX G ?_,vH (PySem.W.mg_of KX G ?_),vH (PySem.W.mg_of KX G ?_),vH (PySem.W.mg_of KX G ?_),vH (PySem.W.mg_of KX G ?_),Pn (PySem.W.mg_of KX G ?_) (uc (ss:=["all","turns"]) ?_ (.cons ⟨_,rfl⟩ (.cons ⟨_,rfl⟩ .nil)) (Nat.le_of_ble_eq_true rfl)),vH (PySem.W.mg_of KX G ?_),vH (PySem.W.mg_of KX G ?_),vH (PySem.W.mg_of KX G ?_),Sy (PySem.W.mg_of KX G ?_),Pc (es:=[⟨_,.str "bar" _,.ref _⟩,⟨_,.str "shut" _,.ref _⟩,⟨_,.str "always" _,.ref _⟩,⟨_,.str "night" _,.ref _⟩,⟨_,.str "busy" _,.ref _⟩,⟨_,.str "silent" _,.ref _⟩,⟨_,.str "wait" _,.ref _⟩,⟨_,.str "breaks" _,.ref _⟩]) (PySem.W.mg_of KX G ?_) ?_ ?_ (.cons rfl ⟨_,rfl,(uc (ss:=["phone","names"]) ?_ (.cons ⟨_,rfl⟩ (.cons ⟨_,rfl⟩ .nil)) (Nat.le_of_ble_eq_true rfl))⟩ (.cons rfl ⟨_,rfl,(uc (ss:=["name","phones"]) ?_ (.cons ⟨_,rfl⟩ (.cons ⟨_,rfl⟩ .nil)) (Nat.le_of_ble_eq_true rfl))⟩ (.cons rfl ⟨_,rfl,(uc (ss:=["name","name"]) ?_ (.cons ⟨_,rfl⟩ (.cons ⟨_,rfl⟩ .nil)) (Nat.le_of_ble_eq_true rfl))⟩ (.cons rfl ⟨_,rfl,(uc (ss:=["name","name","hour","hour"]) ?_ (.cons ⟨_,rfl⟩ (.cons ⟨_,rfl⟩ (.cons ⟨_,rfl⟩ (.cons ⟨_,rfl⟩ .nil)))) (Nat.le_of_ble_eq_true rfl))⟩ (.cons rfl ⟨_,rfl,(uc (ss:=["name","name"]) ?_ (.cons ⟨_,rfl⟩ (.cons ⟨_,rfl⟩ .nil)) (Nat.le_of_ble_eq_true rfl))⟩ (.cons rfl ⟨_,rfl,(uc (ss:=["name","name","turns"]) ?_ (.cons ⟨_,rfl⟩ (.cons ⟨_,rfl⟩ (.cons ⟨_,rfl⟩ .nil))) (Nat.le_of_ble_eq_true rfl))⟩ (.cons rfl ⟨_,rfl,(uc (ss:=["phone"]) ?_ (.cons ⟨_,rfl⟩ .nil) (Nat.le_of_ble_eq_true rfl))⟩ (.cons rfl ⟨_,rfl,(uc (ss:=["phone"]) ?_ (.cons ⟨_,rfl⟩ .nil) (Nat.le_of_ble_eq_true rfl))⟩ .nil)))))))),vH (PySem.W.mg_of KX G ?_),vH (PySem.W.mg_of KX G ?_),vH (PySem.W.mg_of KX G ?_)⟩,λs u=>.of_eq rfl⟩
  all_goals try first|k_is|(intro _ _ _ _ _ _ us hl;rcases us with _|⟨_,_|⟨_,_|⟨_,_|⟨_,_|⟨_,_|⟨_,_|⟨_,us⟩⟩⟩⟩⟩⟩⟩<;>first|rfl|(exfalso;revert hl;simp;done))|rfl
